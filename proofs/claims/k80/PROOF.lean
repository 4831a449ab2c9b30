import PyProof.Rows.All
import Wide.All
import OpenK.AllK
import Wide.FinOn
import Lean
import PyProof.EqAt
import PyProof.EqKinds
import PyProof.TupleCall
import PyProof.PassesOwn
import PyProof.StationsW
import OpenK.KCls
import PyProof.ExcAttrAll.ValueError
import PyProof.ExcClass3
import PyProof.WalksEnum
import PyProof.EnumMake
import PyProof.EnumFor
import PyProof.EnumStmt
import PyProof.MeetsStr
import PyProof.StrLawsTight
import PyProof.NeKinds
import PyProof.Rows.SumAny
import PyProof.SeqI3
import PyProof.ZipIter
import PyProof.WalksMore
import PyProof.ListNew
import KE.KLam
import KE.KNestM
import KE.KRevIter
import PyProof.AutoSeq1
import PyProof.FactsAll.list
import PyProof.IsRules
import KE.KItemsList
import KE.KDictList
import PyProof.IsiTupleOf
import KE.KDictSum
import PyProof.Rows.SortWalk
import PyProof.StrBlockL
import PyProof.StrBlockI
import PyProof.StrBlock2
import PyProof.StrLawsIn
import PyProof.StrLawsChain
import PyProof.Rows.StrLast
import PyProof.Rows.StrItems
import KE.IntTextText
import PyProof.FactsAll.object_1
import PyProof.CallType
import KE.KIntText
import PyProof.Draws
import PyProof.DictWalks
import PyProof.MinMaxWalk
import KE.KEqDict
import PyProof.DictUpdate
import KE.KDictOf
import PySem.Challenge.RW_reusewise_k80_numbers_turned
abbrev VSP:=PySem.Value->PySem.Shared->Prop
set_option Elab.async false
set_option linter.all false
set_option maxRecDepth 100000
set_option maxHeartbeats 4000000
open PySem.W renaming Frag → ua, findIn → uj, keepIn → uE, nsIn → uF, fnOf → uP, emptyDict → uT, mg_none_of → uY, kitOne → Ud, codeIn → Uf, mg_of → Uk, kia_one → Uy, callWith_K → UD, codeHdIn → UF, hasDictIn → UG, instObj → UQ, methodCall_KW → UW, isFn → U3, takerIn → U9, findCls → tf, specialIn → tw, exmOne → tF, plainGet → tH, envX → tJ, makesIn → tR
open PySem.Heap renaming get?_push_of_some → ub, lt_size → um, get?_push_size → uo, get?_update_other → uK, size_push → uX, get?_update_self → Uo
open List renaming length_map → uc, getElem?_eq_some_iff → ud, getElem?_eq_getElem → uf, mem_singleton → ug, mem_cons → uh, length_append → uk, getElem?_append_right → ut, getElem?_append_left → uu, mem_map → uw, getElem?_map → ux, size_toArray → uA, map_cons → uC, replicate → uG, map_append → uH, length_cons → uJ, mem_nil_iff → uL, mem_of_getElem? → uM, set → uR, mem_cons_self → uS, nodup_cons → uW, range → uZ, mem_append → u0, mem_cons_of_mem → u6, mem_append_right → Ua, drop_eq_getElem_cons → Uc, length_replicate → Ug, length_reverse → Uh, length_take → Ui, append_assoc → Uj, exists_cons_of_length_eq_add_one → Ul, take_add_one → Us, take_of_length_le → Ut, append_nil → Uu, lookup_cons → Uz, getElem?_zip_eq_some → UA, length_singleton → UB, of_mem_zip → UC, all_eq_true → UE, foldl_append → UJ, length_filter_le → UL, take_append_drop → UM, map_map → UO, lookup → UP, mem_filter → UR, find?_cons → US, length_zip → UT, drop_length → UU, zip_cons_cons → UV, mem_of_find?_eq_some → UX, foldl_cons → U0, mem_append_left → U2, replicate_succ' → U4, length_drop → U5, take_length → U7, getElem?_reverse → tj, drop_zero → tG, any_cons → tN, sum_cons → tP, find?_eq_none → tT
open Nat renaming le_refl → ui, lt_of_lt_of_le → uv, le_trans → uy, ne_of_lt → uI, zero_le → uU, lt_irrefl → u7, sub_self → Uw, ne_of_gt → U8, le_succ → tE, lt_succ_self → tI, succ → tO, not_lt_zero → tS
open PyProof.Rows renaming boot_isinstance → uq, boot_list → u5, slot_tuple_getitem → Um, boot_int → Up, boot_tuple → Uq, callWith_type1 → Uv, boot_bool → UI
open Option renaming map_eq_some_iff → uz, some → uQ, map_some → UZ, some_ne_none → tL, isSome_iff_exists → tM
open Bool renaming false_ne_true → uB, and_eq_true → UN, eq_iff_iff → UY
open PySem.F renaming plainAttrs_list → uD, slot_list_append → uN, type_list_append → uO, excBase_ValueError → UH, plainAttrs_dict → U6, slot_list_pop → tm, type_list_pop → tq, slot_dict_values → tQ
open PySem renaming boot_len → uV, mem_of_lookup → Ue
open PySem.Builtin.SmallTypes renaming nextOf → Ub, ownedTupleIsFree → Ur, ownedTupleHandOut → tK
open Int renaming emod_lt_of_pos → Ux, emod_nonneg → UK
theorem L2.gM{α β:Type}{f:α->β}{l:List α}{i:Nat}{v:β}(h:(l.map f)[i]?=some v):∃z,l[i]?=some z/\f z=v:=by rw[List.getElem?_map]at h;exact Option.map_eq_some_iff.mp h
abbrev lS:=List PySem.Str
variable{us ds its bm sub bmB bmN cs:List Value}{a b it c f pl C dx sl T d Ch cB cF cR cH cS TB TC cU hd ld fa:Addr}{h h' h1 h2 base:Heap}{items vs:Array Value}{P prog q:Program}{w:World}{x name m qual y:Str}{e o tg iter value elt:Expr}{fs' ch fp S as ts ds0 Ts:List Addr}{ob oe:Obj}{pins pins':List (Addr×Obj)}{g':Array GenState}{t' i j n B:Nat}{N ps:lS}{M:Addr->Prop}{A:Around}{u v doc pm cdv ct oc vl vu:Value}{Q:Unit->Shared->Prop}{s':Shared}{pos pos' p tpos apos cpos py spos np hpos:Pos}{op:CmpOp}{st b0:Stmt}{es ifs elts:List Expr}{body suite:List Stmt}{lo hi:Option Int}{mA mg mN:Str->Option Value}{ns:List Int}{R:Result->Shared->Prop}{kw:List (Str×Value)}{env:Env}{fd:FuncData}{outer:List Env}{kindOf:Str->Option NameKind}{scope:Scope}{params:Arguments}{an od dd:Option Addr}{osl:Array (Option Value)}{zs:List (Bool×Nat)}{XP:(Str->Option Value)->Heap->Prop}{hdct ab z:Bool}{col:Option Bool}{k0 k1 k2 k3 k5:Option Value}{newId:String}{os:List Bool}{h0:ExceptHandler}{hs:List ExceptHandler}{ls:List (Pos×Str)}{ks:List (List (Str×Nat))}{keys:List (Option Expr)}
namespace L2
open PySem PySem.Spec PyProof.Rows
variable{M:Model}{c:Expr}{g:Int->Int->Int}
abbrev Key:=Sum Int Str
def vo:Key->Value->Bool
 |.inl k,v=>Value.isInt k v
 |.inr x,v=>Value.isStrOf x v
def keyH(w:World):Key->Int
 |.inl k=>hashInt k
 |.inr x=>hashStr w x
theorem yi:∀{k:Key}{v:Value},vo k v=true->(∃i t,k=Sum.inl i/\v=Value.int i t)\/(∃x t,k=Sum.inr x/\v=Value.str x t)
 |.inl i,v,h=>by
  obtain⟨t,e⟩:=Value.isInt_shape (k:=i) (v:=v) h;exact .inl ⟨i,t,rfl,e⟩
 |.inr x,v,h=>by
  obtain⟨t,e⟩:=Value.isStrOf_shape (x:=x) (v:=v) h;exact .inr ⟨x,t,rfl,e⟩
theorem Wa(i:Int)(t:Tok):vo (.inl i) (.int i t)=true:=by simp[vo,Value.isInt]
theorem Wb(x:Str)(t:Tok):vo (.inr x) (.str x t)=true:=by simp[vo,Value.isStrOf]
theorem zbI(a b:Int):decide ((Sum.inl a:Key)=Sum.inl b)=(a == b):=by
 by_cases e:a=b
 ·subst e;simp
 ·have h:¬ (Sum.inl a:Key)=Sum.inl b:=fun q=>e (Sum.inl.inj q)
  rw[decide_eq_false h];exact(beq_eq_false_iff_ne.mpr e).symm
theorem zbJ(a b:Str):decide ((Sum.inr a:Key)=Sum.inr b)=decide (a=b):=by
 by_cases e:a=b
 ·subst e;simp
 ·have h:¬ (Sum.inr a:Key)=Sum.inr b:=fun q=>e (Sum.inr.inj q)
  rw[decide_eq_false h,decide_eq_false e]
theorem zbK(a:Int)(b:Str):decide ((Sum.inl a:Key)=Sum.inr b)=false:=decide_eq_false (fun q=>nomatch q)
theorem zbL(a:Str)(b:Int):decide ((Sum.inr a:Key)=Sum.inl b)=false:=decide_eq_false (fun q=>nomatch q)
def zW(prog:Program)(w:World):PySem.KeyKind prog w Key where
 is:=vo
 hash:=keyH w
 inj:=fun v a b ha hb=>by
  rcases yi ha with⟨i,t,rfl,rfl⟩|⟨x,t,rfl,rfl⟩
  ·rcases yi hb with⟨j,u,rfl,e⟩|⟨y,u,rfl,e⟩
   ·injection e with e1 _;rw[e1]
   ·exact nomatch e
  ·rcases yi hb with⟨j,u,rfl,e⟩|⟨y,u,rfl,e⟩
   ·exact nomatch e
   ·injection e with e1 _;rw[e1]
 byValue:=fun k v h=>by
  rcases yi h with⟨i,t,rfl,rfl⟩|⟨x,t,rfl,rfl⟩<;>rfl
 pyHash:=fun hv h=>by
  rcases yi hv with⟨i,t,rfl,rfl⟩|⟨x,t,rfl,rfl⟩
  ·exact wpAny_pyHash_int h
  ·exact wpAny_pyHash_str h
 eqBool:=fun hu hv h=>by
  rcases yi hu with⟨i,t,rfl,rfl⟩|⟨x,t,rfl,rfl⟩
  ·rcases yi hv with⟨j,u,rfl,rfl⟩|⟨y,u,rfl,rfl⟩
   ·rw[zbI]at h;exact wpAny_eqBool_int h
   ·rw[zbK]at h;exact SeqAt.EqAt.int_str i t y u _ _ _ _ h
  ·rcases yi hv with⟨j,u,rfl,rfl⟩|⟨y,u,rfl,rfl⟩
   ·rw[zbL]at h;exact SeqAt.EqAt.str_int x t j u _ _ _ _ h
   ·rw[zbJ]at h;exact wpAny_eqBool_str h
 «strs»:=fun k x t v h=>by
  rcases yi h with⟨i,u,rfl,e⟩|⟨y,u,rfl,e⟩
  ·exact nomatch e
  ·injection e with e1 _
   subst e1;cases v<;>rfl
theorem Ys(prog:Program)(w:World)(k:Key)(v:Value):(zW prog w).is k v=vo k v:=rfl
theorem ZJ(prog:Program)(w:World)(i:Int)(t:Tok):(zW prog w).is (.inl i) (.int i t)=true:=Wa i t
theorem ZK(prog:Program)(w:World)(x:Str)(t:Tok):(zW prog w).is (.inr x) (.str x t)=true:=Wb x t
inductive V where
 |non|bl (b:Bool)|int (i:Int)|str (x:Str)|byt (b:Array UInt8)|flt (b:UInt64)|ref (a:Addr)|ty (n:String)
 deriving DecidableEq
variable{xs:List V}
abbrev sR(a:Addr):Option V:=some (.ref a)
def RelV:V->Value->Prop
 |.non,u=>u=Value.none
 |.bl b,u=>u=Value.bool b
 |.int i,u=>∃t,u=Value.int i t
 |.str x,u=>∃t,u=Value.str x t
 |.byt b,u=>∃t,u=Value.bytes b t
 |.flt b,u=>∃t,u=Value.float b t
 |.ref a,u=>u=Value.ref a
 |.ty n,u=>u=Value.type n
abbrev Vals:List V->List Value->Prop:=Paired RelV
theorem Vals.length(r:Vals xs us):xs.length=us.length:=Paired.length r
theorem Vals.get:∀{xs:List V}{us:List Value}{i:Nat}{x:V},Vals xs us->xs[i]?=some x->∃u,us[i]?=some u/\RelV x u
 |_,_,_,_,.nil,e=>by simp at e
 |_,_,0,_,.cons r _,e=>by simp at e;subst e;exact⟨_,rfl,r⟩
 |_,_,i+1,x,.cons _ t,e=>by
  obtain⟨u,h1,h2⟩:=Vals.get (i:=i) (x:=x) t (by simpa using e);exact⟨u,by simpa using h1,h2⟩
theorem Vals.append:∀{xs ys:List V}{us ws:List Value},Vals xs us->Vals ys ws->Vals (xs++ys) (us++ws)
 |_,_,_,_,.nil,s=>s
 |_,_,_,_,.cons r t,s=>.cons r (Vals.append t s)
theorem Vals.take:∀{xs:List V}{us:List Value}(n:Nat),Vals xs us->Vals (xs.take n) (us.take n)
 |_,_,0,_=>.nil
 |_,_,_+1,.nil=>.nil
 |_,_,n+1,.cons r t=>.cons r (Vals.take n t)
theorem Vals.drop:∀{xs:List V}{us:List Value}(n:Nat),Vals xs us->Vals (xs.drop n) (us.drop n)
 |_,_,0,r=>r
 |_,_,_+1,.nil=>.nil
 |_,_,n+1,.cons _ t=>Vals.drop n t
def RelO:Option V->Option Value->Prop
 |some v,some u=>RelV v u
 |none,none=>True
 |_,_=>False
def KV{κ:Type}:List (κ×V)->List (κ×Value)->Prop:=Paired fun(p:κ×V)(q:κ×Value)=>p.1=q.1/\RelV p.2 q.2
def kV:Key->V
 |.inl i=>.int i
 |.inr x=>.str x
inductive HO where
 |lst (xs:List V)
 |tup (xs:List V)
 |dK (kvs:List (Key×V))|dT (kvs:List (List Key×V))
 |set (S:Int->Bool) (n:Nat)
 |ins (C dx:Addr) (fs:List (Str×V))
 |own (x:Addr)
 |xd (fs:List (Str×V))
 |met (f x:Addr)
 |rng (lo hi:Int)
 |frz (o:Obj) (u:HO)
 |tbl (ps:Array Value)
 |ext (φ:Heap->Prop)
variable{o:HO}
abbrev Hp:=Addr->Option HO
variable{H H':Hp}
def upd(H:Hp)(a:Addr)(o:HO):Hp:=fun b=>if b=a then some o else H b
theorem zg:upd H a o a=some o:=by unfold upd;rw[if_pos rfl]
theorem zh(h:b≠a):upd H a o b=H b:=by unfold upd;rw[if_neg h]
theorem xY{u:HO}(h:H a=some o)(h':H b=some u)(d:o≠u):a≠b:=by
 intro e;subst e;rw[h]at h';exact d (uQ.inj h')
theorem zk(h:H a=some o)(h':H b=none):a≠b:=by
 intro e;subst e;rw[h]at h';cases h'
def IsTupN(h:Heap)(a:Addr)(items:Array Value):Prop:=∃o,h.get? a=some o/\o.cls=.type "tuple"/\o.dict=none/\∃n,o.data=.seq items n
theorem IsTupN.is(x:IsTupN h a items):IsTup h a items:=by obtain⟨o,a,b,_,c⟩:=x;exact⟨o,a,b,c⟩
theorem IsTupN.new(h:Heap)(items:Array Value):IsTupN (h.push { cls:=.type "tuple",data:=.seq items }) h.objs.size items:=⟨_,uo _ rfl,rfl,rfl,_,rfl⟩
section
variable(P:Program)(w:World)
def ObjOk(H:Hp)(h:Heap)(a:Addr):HO->Prop
 |.lst xs=>xs.length<=sizeLine/\∃(its:List Value)(n:Nat),Vals xs its/\h.get? a=some { cls:=.type "list",data:=.seq its.toArray n }
 |.tup xs=>xs.length<=sizeLine/\∃its:List Value,Vals xs its/\IsTupN h a its.toArray
 |.dK kvs=>kvs.length<=sizeLine/\(a == sysModules)=false/\∃vs,KV kvs vs/\h.DictOf (zW P w) a vs
 |.dT kvs=>kvs.length<=sizeLine/\(a == sysModules)=false/\∃xs:List (List Key×Addr×Value),
   Paired (fun(p:List Key×V)(q:List Key×Addr×Value)=>p.1=q.1/\H q.2.1=some (.tup (p.1.map kV))/\RelV p.2 q.2.2) kvs xs /\
   ∃o es ep,h.get? a=some o/\o.ExactDict/\o.data=.dict es ep/\es.toList=xs.map (entryOfKey (tupleKind (zW P w)))/\(xs.map (·.1)).Nodup
 |.set S n=>h.SetOf (intKind P w) a S n
 |.ins C dx fs=>H dx=some (.own a)/\fs.length<=1000/\dx≠a/\h.get? a=some (UQ C dx) /\
   ∃mA,h.Ns1 dx mA/\(∀f,RelO (fs.lookup f) (mA f))/\PySem.Within mA (fs.map (·.1))
 |.own _=>∃o,h.get? a=some o
 |.xd fs=>∃mA,h.Ns1 a mA/\∀f,RelO (fs.lookup f) (mA f)
 |.rng lo hi=>∃t u v,h.get? a=some { cls:=.type "range",data:=.fields #[.int lo t,.int hi u,.int 1 v] }
 |.frz o u=>h.get? a=some o/\ObjOk H h a u
 |.tbl ps=>h.get? a=some { cls:=.none,data:=.fields ps }
 |.met f x=>h.get? a=some (PySem.W.methodObj (.ref f) (.ref x))
 |.ext φ=>φ h/\(∃o,h.get? a=some o)/\∀h1 h2:Heap,φ h1->(∀o,h1.get? a=some o->h2.get? a=some o)->φ h2
def HOk(H:Hp)(h:Heap):Prop:=∀a o,H a=some o->ObjOk P w H h a o
end
theorem ObjOk.lt(x:ObjOk P w H h a o):a < h.objs.size:=by
 cases o with
 |lst xs=>obtain⟨_,_,_,_,e⟩:=x;exact um e
 |tup xs=>obtain⟨_,_,_,p⟩:=x;exact p.is.lt
 |dK kvs=>obtain⟨_,_,_,_,o,_,_,e,_⟩:=x;exact um e
 |dT kvs=>obtain⟨_,_,_,_,o,_,_,e,_⟩:=x;exact um e
 |set S n=>obtain⟨o,_,_,_,e,_⟩:=x;exact um e
 |ins C dx fs=>obtain⟨_,_,_,e,_⟩:=x;exact um e
 |own y=>obtain⟨_,e⟩:=x;exact um e
 |xd fs=>obtain⟨_,⟨_,_,_,e,_⟩,_⟩:=x;exact um e
 |rng lo hi=>obtain⟨_,_,_,e⟩:=x;exact um e
 |frz ob u=>obtain⟨e,_⟩:=x;exact um e
 |tbl ps=>exact um (show h.get? a=some _ from x)
 |met f y=>exact um (show h.get? a=some _ from x)
 |ext φ=>obtain⟨_,⟨_,e⟩,_⟩:=x;exact um e
theorem Paired.mapP{α β:Type}{F G:α->β->Prop}:∀{l₁:List α}{l₂:List β},Paired F l₁ l₂->(∀a b,F a b->G a b)->Paired G l₁ l₂
 |_,_,.nil,_=>.nil
 |_,_,.cons r t,f=>.cons (f _ _ r) (Paired.mapP t f)
theorem ObjOk.stay(x:ObjOk P w H h a o)(k:∀b u,(b=a\/H b=some (.own a))->h.get? b=some u->h'.get? b=some u)
  (ho:∀b,H b=some (.own a)->H' b=some (.own a)) (ht:∀b xs,H b=some (.tup xs)->H' b=some (.tup xs)):ObjOk P w H' h' a o:=by
 induction o with
 |lst xs=>obtain⟨z,its,n,r,e⟩:=x;exact⟨z,its,n,r,k _ _ (.inl rfl) e⟩
 |tup xs=>obtain⟨z,its,r,ob,e,c⟩:=x;exact⟨z,its,r,ob,k _ _ (.inl rfl) e,c⟩
 |dK kvs=>obtain⟨z,y,vs,r,ob,es,ep,e,c⟩:=x;exact⟨z,y,vs,r,ob,es,ep,k _ _ (.inl rfl) e,c⟩
 |dT kvs =>
  obtain⟨z,y,xs,r,ob,es,ep,e,c⟩:=x;exact⟨z,y,xs,Paired.mapP r fun p q z=>⟨z.1,ht _ _ z.2.1,z.2.2⟩,ob,es,ep,k _ _ (.inl rfl) e,c⟩
 |set S n=>obtain⟨ob,es,ep,t,e,c⟩:=x;exact⟨ob,es,ep,t,k _ _ (.inl rfl) e,c⟩
 |ins C dx fs =>
  obtain⟨d,z,ne,e,mA,⟨od,es,ep,e2,c⟩,r⟩:=x;exact⟨ho _ d,z,ne,k _ _ (.inl rfl) e,mA,⟨od,es,ep,k _ _ (.inr d) e2,c⟩,r⟩
 |own y=>obtain⟨ob,e⟩:=x;exact⟨ob,k _ _ (.inl rfl) e⟩
 |xd fs=>obtain⟨mA,⟨od,es,ep,e,c⟩,r⟩:=x;exact⟨mA,⟨od,es,ep,k _ _ (.inl rfl) e,c⟩,r⟩
 |rng lo hi=>obtain⟨t,u,v,e⟩:=x;exact⟨t,u,v,k _ _ (.inl rfl) e⟩
 |frz ob u ih=>obtain⟨e,q⟩:=x;exact⟨k _ _ (.inl rfl) e,ih q⟩
 |tbl ps =>
  have e:h.get? a=some { cls:=.none,data:=.fields ps }:=x;show h'.get? a=some { cls:=.none,data:=.fields ps };exact k a _ (.inl rfl) e
 |met f y =>
  have e:h.get? a=some (PySem.W.methodObj (.ref f) (.ref y)):=x;show h'.get? a=some (PySem.W.methodObj (.ref f) (.ref y));exact k a _ (.inl rfl) e
 |ext φ=>obtain⟨p,⟨o,e⟩,st⟩:=x;exact⟨st _ _ p fun o q=>k _ _ (.inl rfl) q,⟨o,k _ _ (.inl rfl) e⟩,st⟩
theorem HOk.lt(x:HOk P w H h)(e:H a=some o):a < h.objs.size:=(x a o e).lt
theorem HOk.fresh(x:HOk P w H h)(e:h.objs.size<=a):H a=none:=by
 cases q:H a with
 |none=>rfl
 |some u=>exact absurd (uv (x.lt q) e) (u7 _)
theorem HOk.kept(x:HOk P w H h)(k:∀b u,h.get? b=some u->h'.get? b=some u):HOk P w H h':=fun a o e =>
 (x a o e).stay (fun b u _ q=>k b u q) (fun _ q=>q) fun _ _ q=>q
theorem HOk.laid(x:HOk P w H h)(k:∀b u,h.get? b=some u->h'.get? b=some u)(hp:h.objs.size<=a)(new:ObjOk P w (upd H a o) h' a o):HOk P w (upd H a o) h':=fun b u e=>by
 have hn:=x.fresh hp;by_cases hb:b=a
 ·subst hb;rw[zg]at e;cases e;exact new
 ·rw[zh hb]at e
  exact(x b u e).stay (fun c v _ q=>k c v q) (fun c q=>by rw[zh (zk q hn)];exact q) fun c xs q=>by rw[zh (zk q hn)];exact q
def Rd(H:Hp)(a:Addr)(u:HO):Prop:=H a=some u\/∃o,H a=some (.frz o u)
theorem Rd.ok{u:HO}(r:Rd H a u)(x:HOk P w H h):ObjOk P w H h a u:=by
 rcases r with r|⟨o,r⟩
 ·exact x a u r
 ·obtain⟨_,q⟩:=x a _ r
  exact q
def Mut:Option HO->Prop
 |some (.lst _)=>True
 |some (.dK _)=>True
 |some (.dT _)=>True
 |some (.set _ _)=>True
 |some (.ins _ _ _)=>True
 |some (.ext _)=>True
 |_=>False
section
variable{x e:Addr}{o':HO}
theorem HOk.write(ok:HOk P w H h)(mu:Mut (H x))(he:e=x\/H e=some (.own x))(k:∀b u,b≠e->h.get? b=some u->h'.get? b=some u)(heo:∃u,h'.get? e=some u)
  (new:ObjOk P w (upd H x o') h' x o'):HOk P w (upd H x o') h':=fun b u q=>by
 have nown:∀c y,H c=some (.own y)->c≠x:=fun c y r z=>by subst z;rw[r]at mu;exact mu
 have ntup:∀c xs,H c=some (.tup xs)->c≠x:=fun c xs r z=>by subst z;rw[r]at mu;exact mu
 by_cases hb:b=x
 ·subst hb;rw[zg]at q;cases q;exact new
 ·rw[zh hb]at q
  by_cases hbe:b=e
  ·have q':H b=some (.own x):=by
    rcases he with z|z
    ·exact absurd (hbe.trans z) hb
    ·rw[hbe];exact z
   rw[q]at q';cases q';obtain⟨v,hv⟩:=heo;exact⟨v,by rw[hbe];exact hv⟩
  ·refine(ok b u q).stay (fun c v hc r=>k c v ?_ r) (fun c r=>by rw[zh (nown c b r)];exact r) fun c xs r=>by rw[zh (ntup c xs r)];exact r
   rcases hc with rfl|hc
   ·exact hbe
   ·rintro rfl
    rcases he with z|z
    ·exact nown c b hc z
    ·rw[hc]at z;cases z;exact hb rfl
end
structure Un(fs ex:List Addr)(H H':Hp)(h h':Heap):Prop where
 keep:∀b o,h.get? b=some o->H b=none->b∉fs->b∉ex->h'.get? b=some o
 slot:∀b o,h.get? b=some o->H b=none->b∈fs->b∉ex->∃sl,h'.get? b=some { o with slots:=sl }
 free:∀b o,h.get? b=some o->H b=none->b∉ex->H' b=none
 there:∀b o,h.get? b=some o->b∉ex->∃o',h'.get? b=some o'
 tups:∀b xs,H b=some (.tup xs)->H' b=some (.tup xs)
 frzs:∀b o u,H b=some (.frz o u)->H' b=some (.frz o u)
 tbls:∀b ps,H b=some (.tbl ps)->∃more,H' b=some (.tbl (ps++more))
section
variable{fs ex ex':List Addr}{H1 H2:Hp}{x e:Addr}
theorem Un.any(u:Un fs ex H H1 h h1)(q:h.get? b=some ob)(n:H b=none)(hx:b∉ex):∃sl,h1.get? b=some { ob with slots:=sl }:=by
 by_cases hb:b∈fs
 ·exact u.slot b ob q n hb hx
 ·exact⟨ob.slots,u.keep b ob q n hb hx⟩
theorem Un.kept(k:∀b u,h.get? b=some u->h'.get? b=some u):Un fs ex H H h h' :=
 ⟨fun b ob q _ _ _=>k b ob q,fun b ob q _ _ _=>⟨ob.slots,k b ob q⟩,fun _ _ _ n _=>n,fun b ob q _=>⟨ob,k b ob q⟩,fun _ _ q=>q,fun _ _ _ q=>q,fun _ ps q=>⟨#[],by rw[q];simp⟩⟩
theorem Un.refl:Un fs ex H H h h:=Un.kept fun _ _ q=>q
theorem Un.laid(k:∀b u,h.get? b=some u->h'.get? b=some u)(hp:h.objs.size<=a)(hn:H a=none):Un fs ex H (upd H a o) h h' where
 keep:=fun b u q _ _ _=>k b u q
 slot:=fun b u q _ _ _=>⟨u.slots,k b u q⟩
 free:=fun b u q n _=>by rw[zh (uI (uv (um q) hp))];exact n
 there:=fun b u q _=>⟨u,k b u q⟩
 tups:=fun b xs q=>by rw[zh (zk q hn)];exact q
 frzs:=fun b u xs q=>by rw[zh (zk q hn)];exact q
 tbls:=fun b ps q=>⟨#[],by rw[zh (zk q hn),q];simp⟩
theorem Un.write(mu:Mut (H x))(he:e=x\/H e=some (.own x))(k:∀b u,b≠e->h.get? b=some u->h'.get? b=some u)(heo:∃u,h'.get? e=some u):Un fs ex H (upd H x o) h h':=by
 have hx:∀b,H b=none->b≠x:=fun b n z=>by subst z;rw[n]at mu;exact mu
 have hb:∀b,H b=none->b≠e:=fun b n z=>by
  subst z;rcases he with r|r
  ·exact hx b n r
  ·rw[n]at r;cases r
 have hm:∀b u,H b=some u->¬ Mut (some u)->b≠x:=fun b u q nm z=>by subst z;rw[q]at mu;exact nm mu
 refine⟨fun b u q n _ _=>k b u (hb b n) q,fun b u q n _ _=>⟨u.slots,k b u (hb b n) q⟩,fun b u q n _=>by rw[zh (hx b n)];exact n,fun b u q _=>?_,
  fun b xs q=>by rw[zh (hm b _ q fun z=>z)];exact q,fun b u xs q=>by rw[zh (hm b _ q fun z=>z)];exact q,fun b ps q=>⟨#[],by rw[zh (hm b _ q fun z=>z),q];simp⟩⟩
 by_cases hbe:b=e
 ·subst hbe;exact heo
 ·exact⟨u,k b u hbe q⟩
end
def trk(h:Heap)(H:Hp):List Addr:=(uZ h.objs.size).filter fun a=>(H a).isSome
def hidT(h:Heap)(H:Hp):Heap:=PySem.W.hideAll h (trk h H)
theorem Wc(h:Heap)(H:Hp):(hidT h H).objs.size=h.objs.size:=PySem.W.hideAll_size _ _
theorem W8{o:Obj}(e:h.get? b=some o)(n:H b=none):(hidT h H).get? b=some o :=
 PySem.W.hideAll_get _ e fun hm=>by
  have q:(H b).isSome=true:=(UR.mp hm).2;rw[n]at q;simp at q
theorem Qn{o:Obj}(e:(hidT h H).get? b=some o):h.get? b=some o/\H b=none:=by
 have e':h.get? b=some o:=PySem.W.of_hideAll (trk h H) e;refine⟨e',?_⟩;cases q:H b with
 |none=>rfl
 |some x =>
  have hm:b∈trk h H:=UR.mpr ⟨List.mem_range.mpr (um e'),by simp[q]⟩;have z:(hidT h H).get? b=none:=PySem.W.hideAll_none (trk h H) hm;rw[z]at e;cases e
def Qo(g h:Heap)(L:Addr):List (Addr×Obj):=(uZ h.objs.size).filterMap fun a=>if a=L\/(g.get? a).isSome=true then none else(h.get? a).map fun o=>(a,o)
def rest(g h:Heap)(L d:Addr):List (Addr×Obj):=(Qo g h L).filter fun p=>decide (p.1≠d)
structure Mod(K:ua)(mg:Str->Option Value)(base:Heap):Prop where
 kin:K.In base
 glob:base.Ns mainGlobals mg
 blt:∃mb,base.Ns builtinsNs mb/\∀x:Str,x≠"__name__"->mb x=bootBuiltins x
 nolimit:base.NoLimit
structure Cx where
 prog:Program
 w:World
 K:ua
 mg:Str->Option Value
 base:Heap
 A:Around
 N:lS
 s₀:Shared
 H₀:Hp
 env:Env
 outer:List Env
 stack:List Env
 ex:List Addr
 fn:Str->Bool
 calm:Bool
 pn:List (Addr×Obj)
 xe:Value->Shared->Prop
variable{X:Cx}
def frs(l:List Env):List Addr:=l.filterMap (·.frame)
abbrev Cx.fs(X:Cx):List Addr:=frs X.outer
def Vis(sc:Scope)(x:Str):Prop:=sc.names.lookup x=some .local\/sc.names.lookup x=some .cell\/sc.names.lookup x=some .free
def Loc(sc:Scope)(x:Str):Prop:=sc.names.lookup x=some .local\/sc.names.lookup x=some .cell
def Look(env:Env)(h:Heap)(m:Str->Option Value)(x:Str)(u:Value):Prop :=
 (env.kindOf x=some .local/\m x=some u)\/((env.kindOf x=some .cell\/env.kindOf x=some .free)/\∃c,env.cells.lookup x=some c/\h.IsCell c (some u))
structure Cx.Ok(X:Cx):Prop where
 mod:Mod X.K X.mg X.base
 kind:X.env.scope.kind=.function
 glob:X.env.globals=mainGlobals
 blt:X.env.builtins=builtinsNs
 above:X.s₀.heap.objs.size<=X.env.locals
 inj:∀x y c,X.env.cells.lookup x=some c->X.env.cells.lookup y=some c->x=y
 has:∀x,(X.env.kindOf x=some .cell\/X.env.kindOf x=some .free)->∃c,X.env.cells.lookup x=some c
 cab:∀x c,X.fn x=true->X.env.cells.lookup x=some c->X.s₀.heap.objs.size<=c
 hd:X.calm=true->X.A.handled=none
 frames:X.A.frames=some X.stack
 stk:X.stack=X.outer\/(X.stack=X.env::X.outer/\X.env.frame=some X.env.locals)
 exf:∀b∈X.ex,b≠X.env.locals/\∀x c,X.env.cells.lookup x=some c->c≠b
 bs:∀b o,X.base.get? b=some o->X.s₀.heap.get? b=some o/\X.H₀ b=none
 bsz:X.base.objs.size<=X.s₀.heap.objs.size
 noex:∀b o,X.base.get? b=some o->b∉X.ex
 exfs:∀b∈X.ex,b∉X.fs
 funs:X.s₀.heap.FunFrames X.base X.outer
 frf:∀b∈X.fs,X.H₀ b=none
structure Inv(X:Cx)(pins:List (Addr×Obj))(σ:List (Option V))(H:Hp)(s:Shared):Prop where
 ok:X.Ok
 os:s.os=X.s₀.os
 bare:AllBare s.gens
 base:Un X.fs X.ex X.H₀ H X.s₀.heap s.heap
 loc:∃m,s.heap.Ns X.env.locals m/\∀(i:Nat)(x:Str)(v:V),X.N[i]?=some x->σ[i]?=some (some v)->Vis X.env.scope x->∃u,RelV v u/\Look X.env s.heap m x u
 cell:∀x c,X.env.cells.lookup x=some c->∃v,s.heap.IsCell c v
 free:H X.env.locals=none
 freeC:∀x c,X.env.cells.lookup x=some c->H c=none
 pin:∀p∈X.pn++pins,s.heap.get? p.1=some p.2/\H p.1=none/\p.1≠X.env.locals/\p.1∉X.fs/\∀v,p.2.data≠.cell v
 hok:HOk X.prog X.w H s.heap
 len:σ.length=X.N.length
section
variable{σ:List (Option V)}{s:Shared}
theorem Cx.Ok.nofr(ok:X.Ok){o:Obj}(e:X.base.get? b=some o):b∉X.fs:=fun hb=>by
 have:=(ok.funs.mem hb).1
 rw[e]at this;cases this
theorem Inv.bs(I:Inv X pins σ H s):∀b o,X.base.get? b=some o->s.heap.get? b=some o/\H b=none:=fun b o e =>
 ⟨I.base.keep b o (I.ok.bs b o e).1 (I.ok.bs b o e).2 (I.ok.nofr e) (I.ok.noex b o e),I.base.free b o (I.ok.bs b o e).1 (I.ok.bs b o e).2 (I.ok.noex b o e)⟩
theorem Inv.bk(I:Inv X pins σ H s):∀b o,X.base.get? b=some o->s.heap.get? b=some o:=fun b o e=>(I.bs b o e).1
theorem Inv.mod(I:Inv X pins σ H s):Mod X.K X.mg X.base:=I.ok.mod
theorem Inv.kIn(I:Inv X pins σ H s):X.K.In s.heap:=I.ok.mod.kin.keeps I.bk
theorem Inv.lt(I:Inv X pins σ H s):X.env.locals < s.heap.objs.size:=by obtain⟨_,hn,_⟩:=I.loc;exact hn.lt
theorem Inv.sz(I:Inv X pins σ H s):X.s₀.heap.objs.size<=s.heap.objs.size:=uy I.ok.above (Nat.le_of_lt I.lt)
theorem Inv.nofs(I:Inv X pins σ H s)(h:s.heap.objs.size<=a):a∉X.fs:=fun hb=>by
 obtain⟨_,o,ho,_⟩:=I.ok.funs.mem hb;exact absurd (uv (um ho) (uy I.sz h)) (u7 _)
theorem Inv.cne(I:Inv X pins σ H s):∀x c,X.env.cells.lookup x=some c->c≠X.env.locals:=fun x c e z=>by
 obtain⟨v,o,ho,hd⟩:=I.cell x c e;obtain⟨m,⟨o',es,ep,ho',hd',_⟩,_⟩:=I.loc;rw[z,ho']at ho;cases ho;rw[hd']at hd;cases hd
theorem Inv.funs(I:Inv X pins σ H s):s.heap.FunFrames X.base X.outer:=by
 have all:∀(l:List Env),(∀b∈frs l,b∈X.fs)->X.s₀.heap.FunFrames X.base l->s.heap.FunFrames X.base l:=by
  intro l
  induction l with
  |nil=>intro _ _;trivial
  |cons env r ih =>
   intro hs hl;obtain⟨hk,⟨L,o,hf,hn,ho,hd⟩,hr⟩:=hl;have hL:L∈X.fs:=hs L (by unfold frs;rw[List.filterMap_cons,hf];exact uS);obtain⟨sl,e⟩:=I.base.slot L o ho (I.ok.frf L hL) hL fun z=>I.ok.exfs L z hL;exact⟨hk,⟨L,_,hf,hn,e,hd⟩,ih (fun b hb=>hs b (by unfold frs;rw[List.filterMap_cons,hf];exact u6 _ hb)) hr⟩
 exact all X.outer (fun _ hb=>hb) I.ok.funs
theorem Inv.stack(I:Inv X pins σ H s):s.heap.FunFrames X.base X.stack:=by
 rcases I.ok.stk with e|⟨e,hf⟩
 ·rw[e];exact I.funs
 ·rw[e]
  obtain⟨m,hn,_⟩:=I.loc;refine .cons (by rw[I.ok.kind];decide) hf hn ?_ I.funs;exact Heap.get?_none_of_le (uy I.ok.bsz I.ok.above)
theorem Inv.stkSub(I:Inv X pins σ H s):∀b∈frs X.stack,b∈X.env.locals::X.fs:=fun b hb=>by
 rcases I.ok.stk with e|⟨e,hf⟩
 ·rw[e]at hb;exact u6 _ hb
 ·rw[e]at hb
  unfold frs at hb;rw[List.filterMap_cons,hf]at hb;exact hb
theorem Inv.stkFree(I:Inv X pins σ H s):∀b∈frs X.stack,H b=none:=fun b hb=>by
 rcases uh.mp (I.stkSub b hb)with e|hb
 ·rw[e];exact I.free
 ·obtain⟨_,o,ho,_⟩:=I.ok.funs.mem hb
  exact I.base.free b o ho (I.ok.frf b hb) fun z=>I.ok.exfs b z hb
theorem Inv.step{d':Drawn}(I:Inv X pins σ H s)
  (hch:∀b∈ch,(b∈X.ex\/X.s₀.heap.objs.size<=b)/\b≠X.env.locals/\(∀x c,X.env.cells.lookup x=some c->c≠b)/\∀p∈X.pn++pins,p.1≠b)
  (keep:∀b o,b≠X.env.locals->b∉X.fs->b∉ch->s.heap.get? b=some o->H b=none->h'.get? b=some o)
  (slot:∀b o,b≠X.env.locals->b∈X.fs->b∉ch->s.heap.get? b=some o->H b=none->∃sl,h'.get? b=some { o with slots:=sl }) (free:∀b o,b∉ch->s.heap.get? b=some o->H b=none->H' b=none)
  (there:∀b o,b∉ch->s.heap.get? b=some o->∃o',h'.get? b=some o')
  (tups:∀b xs,H b=some (.tup xs)->H' b=some (.tup xs)) (frzs:∀b o u,H b=some (.frz o u)->H' b=some (.frz o u)) (tbls:∀b ps,H b=some (.tbl ps)->∃more,H' b=some (.tbl (ps++more)))
  (ns:∀m,s.heap.Ns X.env.locals m->h'.Ns X.env.locals m) (hok:HOk X.prog X.w H' h') (hg:AllBare g') :
  Inv X pins σ H' { s with heap:=h',gens:=g',drawn:=d',toks:=t' }:=by
 have neL:∀b o,X.s₀.heap.get? b=some o->b≠X.env.locals:=fun b o e=>uI (uv (um e) I.ok.above);have neC:∀b o,X.s₀.heap.get? b=some o->b∉X.ex->b∉ch:=fun b o e hx hb=>by
  rcases(hch b hb).1 with z|z
  ·exact hx z
  ·exact absurd (uv (um e) z) (u7 _)
 have cellK:∀x c,X.env.cells.lookup x=some c->∀v,s.heap.IsCell c v->h'.IsCell c v:=fun x c e v ⟨o,ho,hd⟩=>by
  have nch:c∉ch:=fun z=>(hch c z).2.2.1 x c e rfl;by_cases hc:c∈X.fs
  ·obtain⟨sl,q⟩:=slot c o (I.cne x c e) hc nch ho (I.freeC x c e)
   exact⟨_,q,hd⟩
  ·exact⟨o,keep c o (I.cne x c e) hc nch ho (I.freeC x c e),hd⟩
 refine⟨I.ok,I.os,hg,⟨fun b o e n hb hx=>?_,fun b o e n hb hx=>?_,fun b o e n hx=>?_,fun b o e hx=>?_,fun b xs e=>tups b xs (I.base.tups b xs e),fun b o xs e=>frzs b o xs (I.base.frzs b o xs e),fun b ps e=>?_⟩,?_,fun x c e=>?_,?_,fun x c e=>?_,fun p hp=>?_,hok,I.len⟩
 ·exact keep b o (neL b o e) hb (neC b o e hx) (I.base.keep b o e n hb hx) (I.base.free b o e n hx)
 ·obtain⟨sl,e1⟩:=I.base.slot b o e n hb hx
  obtain⟨sl',e2⟩:=slot b _ (neL b o e) hb (neC b o e hx) e1 (I.base.free b o e n hx);exact⟨sl',e2⟩
 ·obtain⟨o',e1⟩:=I.base.there b o e hx
  exact free b o' (neC b o e hx) e1 (I.base.free b o e n hx)
 ·obtain⟨o',e1⟩:=I.base.there b o e hx
  exact there b o' (neC b o e hx) e1
 ·obtain⟨m1,e1⟩:=I.base.tbls b ps e
  obtain⟨m2,e2⟩:=tbls b _ e1;exact⟨m1++m2,by rw[e2,Array.append_assoc]⟩
 ·obtain⟨m,hn,hl⟩:=I.loc
  refine⟨m,ns m hn,fun i x v e1 e2 e3=>?_⟩;obtain⟨u,r,l⟩:=hl i x v e1 e2 e3;refine⟨u,r,?_⟩;rcases l with l|⟨k,c,e,z⟩
  ·exact .inl l
  ·exact .inr ⟨k,c,e,cellK x c e _ z⟩
 ·obtain⟨v,z⟩:=I.cell x c e
  exact⟨v,cellK x c e v z⟩
 ·obtain⟨m,⟨o,_,_,ho,_⟩,_⟩:=I.loc
  exact free _ o (fun z=>(hch _ z).2.1 rfl) ho I.free
 ·obtain⟨v,o,ho,hd⟩:=I.cell x c e
  exact free c o (fun z=>(hch c z).2.2.1 x c e rfl) ho (I.freeC x c e)
 ·obtain⟨e,n,ne,nf,d⟩:=I.pin p hp
  have nch:p.1∉ch:=fun z=>(hch p.1 z).2.2.2 p hp rfl;exact⟨keep p.1 p.2 ne nf nch e n,free p.1 p.2 nch e n,ne,nf,d⟩
theorem Inv.un(I:Inv X pins σ H s)(u:Un X.fs [] H H' s.heap h')(hok:HOk X.prog X.w H' h'):Inv X pins σ H' { s with heap:=h',toks:=t' }:=by
 obtain⟨m,⟨o,es,ep,ho,r⟩,_⟩:=id I.loc;obtain⟨sl,hL⟩:=u.any ho I.free (by simp);exact I.step (g':=s.gens) (d':=s.drawn) (ch:=[]) (fun _ z=>nomatch z) (fun b o _ hb _ e n=>u.keep b o e n hb (by simp)) (fun b o _ hb _ e n=>u.slot b o e n hb (by simp)) (fun b o _ e n=>u.free b o e n (by simp)) (fun b o _ e=>u.there b o e (by simp)) u.tups u.frzs u.tbls (fun m' hm=>by
  obtain⟨o',es',ep',ho',r'⟩:=hm;rw[ho]at ho';cases ho';exact⟨_,es',ep',hL,r'⟩) hok I.bare
theorem Inv.call{d':Drawn}(I:Inv X pins σ H s)(u:Un (frs X.stack) ch H H' s.heap h')(hok:HOk X.prog X.w H' h')(hg:AllBare g')
  (hch:∀b∈ch,(b∈X.ex\/X.s₀.heap.objs.size<=b)/\b≠X.env.locals/\(∀x c,X.env.cells.lookup x=some c->c≠b)/\∀p∈X.pn++pins,p.1≠b) :
  Inv X pins σ H' { s with heap:=h',gens:=g',drawn:=d',toks:=t' }:=by
 obtain⟨m,⟨o,es,ep,ho,r⟩,_⟩:=id I.loc;obtain⟨sl,hL⟩:=u.any ho I.free fun z=>(hch _ z).2.1 rfl;exact I.step (ch:=ch) hch (fun b o hL hb hc e n=>u.keep b o e n (fun z=>(uh.mp (I.stkSub b z)).elim hL hb) hc) (fun b o _ _ hc e n=>u.any e n hc) (fun b o hc e n=>u.free b o e n hc) (fun b o hc e=>u.there b o e hc) u.tups u.frzs u.tbls (fun m' hm=>by
  obtain⟨o',es',ep',ho',r'⟩:=hm;rw[ho]at ho';cases ho';exact⟨_,es',ep',hL,r'⟩) hok hg
theorem Inv.turned(I:Inv X pins σ H s)(k:∀b o,b≠it->s.heap.get? b=some o->h'.get? b=some o)(hn:H it=none)(hL:it≠X.env.locals)
  (h1:it∈X.ex\/X.s₀.heap.objs.size<=it) (h2:∀x c,X.env.cells.lookup x=some c->c≠it) (h3:∀p∈X.pn++pins,p.1≠it):Inv X pins σ H { s with heap:=h',toks:=t' }:=by
 have nit:∀b u,H b=some u->b≠it:=fun b u e z=>by rw[z,hn]at e;cases e
 refine I.step (g':=s.gens) (d':=s.drawn) (ch:=[it]) (fun b hb=>?_) (fun b o _ _ hc e _=>k b o (fun z=>hc (by simp[z])) e) (fun b o _ _ hc e _=>⟨o.slots,k b o (fun z=>hc (by simp[z])) e⟩) (fun _ _ _ _ n=>n)
  (fun b o hc e=>⟨o,k b o (fun z=>hc (by simp[z])) e⟩) (fun _ _ e=>e) (fun _ _ _ e=>e) (fun b ps e=>⟨#[],by rw[e];simp⟩) (fun m hm=>?_) (fun b u e=>?_) I.bare
 ·have e:b=it:=by simpa using hb
  subst e;exact⟨h1,hL,h2,h3⟩
 ·obtain⟨o,es,ep,ho,r⟩:=hm
  exact⟨o,es,ep,k _ o (Ne.symm hL) ho,r⟩
 ·refine(I.hok b u e).stay (fun c v hc q=>k c v ?_ q) (fun _ q=>q) fun _ _ q=>q
  rcases hc with z|z
  ·rw[z];exact nit b u e
  ·exact nit c _ z
theorem Inv.tok(I:Inv X pins σ H s)(t:Nat):Inv X pins σ H { s with toks:=t }:=I.un (h':=s.heap) (t':=t) Un.refl I.hok
theorem Inv.kept(I:Inv X pins σ H s)(k:∀b u,s.heap.get? b=some u->h'.get? b=some u):Inv X pins σ H { s with heap:=h',toks:=t' }:=I.un (Un.kept k) (I.hok.kept k)
theorem Inv.laid(I:Inv X pins σ H s)(k:∀b u,s.heap.get? b=some u->h'.get? b=some u)(hp:s.heap.objs.size<=a)(new:ObjOk X.prog X.w (upd H a o) h' a o):
  Inv X pins σ (upd H a o) { s with heap:=h',toks:=t' }:=I.un (Un.laid k hp (I.hok.fresh hp)) (I.hok.laid k hp new)
theorem Inv.write{x e:Addr}(I:Inv X pins σ H s)(mu:Mut (H x))(he:e=x\/H e=some (.own x))(k:∀b u,b≠e->s.heap.get? b=some u->h'.get? b=some u)(heo:∃u,h'.get? e=some u)
  (new:ObjOk X.prog X.w (upd H x o) h' x o):Inv X pins σ (upd H x o) { s with heap:=h',toks:=t' }:=I.un (Un.write mu he k heo) (I.hok.write mu he k heo new)
theorem Inv.pins_of(I:Inv X pins σ H s)(h:∀p∈pins',s.heap.get? p.1=some p.2/\H p.1=none/\p.1≠X.env.locals/\p.1∉X.fs/\∀v,p.2.data≠.cell v):Inv X pins' σ H s :=
 ⟨I.ok,I.os,I.bare,I.base,I.loc,I.cell,I.free,I.freeC,fun p hp=>(u0.mp hp).elim (fun z=>I.pin p (U2 _ z)) (h p),I.hok,I.len⟩
theorem vp(hN:N.Nodup)(a:N[i]?=some x)(b:N[j]?=some x):i=j:=by
 obtain⟨h1,e1⟩:=ud.mp a;obtain⟨h2,e2⟩:=ud.mp b;exact(List.getElem_inj hN).mp (e1.trans e2.symm)
theorem jj{E:VSP}{v:V}(I:Inv X pins σ H s)(hN:X.N.Nodup)(hi:X.N[i]?=some x)(hx:Loc X.env.scope x)(r:RelV v u)
  (h:∀s',Inv X pins (σ.set i (some v)) H s'->(∃a,Heap.SameBut a s.heap s'.heap/\(a=X.env.locals\/X.env.cells.lookup x=some a))->Q () s') (hf:X.fn x=true\/X.env.scope.names.lookup x=some .local:=by first|exact .inl rfl|exact .inr rfl|assumption):wpAny M A (storeName X.env x u) Q E s:=by
 obtain⟨m,hn,hl⟩:=id I.loc;have hcls:(X.env.scope.kind == .class || (X.env.scope.kind == .module && X.env.locals != X.env.globals))=false:=by rw[I.ok.kind];rfl
 have hiσ:i < σ.length:=by rw[I.len];exact(ud.mp hi).1
 have cne:=I.cne;have tracked:∀{a:Addr}{h':Heap},(∃o,s.heap.get? a=some o/\H a=none)->Heap.SameBut a s.heap h'->HOk X.prog X.w H h':=fun{a h'} ha hs b ob e=>by
  obtain⟨_,_,hfree⟩:=ha;refine(I.hok b ob e).stay (fun c w' hc q=>(hs.2 c ?_).trans q) (fun _ q=>q) fun _ _ q=>q;rintro rfl;rcases hc with rfl|hc
  ·rw[hfree]at e;cases e
  ·rw[hfree]at hc;cases hc
 rcases hx with hk|hk
 ·refine wpAny_storeName_local hk hn (fun h' hn' hs=>?_) hcls
  obtain⟨oL,_,_,hoL,_⟩:=id hn;refine h _ ⟨I.ok,I.os,I.bare,⟨fun b o e n hb hx=>?_,fun b o e n hb hx=>?_,I.base.free,fun b o e hx=>?_,I.base.tups,I.base.frzs,I.base.tbls⟩,⟨_,hn',fun j y v' e1 e2 e3=>?_⟩,fun y c e=>?_,I.free,I.freeC,fun p hp=>?_,tracked ⟨oL,hoL,I.free⟩ hs,by simpa using I.len⟩ ⟨_,hs,.inl rfl⟩
  ·exact(hs.2 b (uI (uv (um e) I.ok.above))).trans (I.base.keep b o e n hb hx)
  ·obtain⟨sl,e1⟩:=I.base.slot b o e n hb hx
   exact⟨sl,(hs.2 b (uI (uv (um e) I.ok.above))).trans e1⟩
  ·obtain⟨o',e1⟩:=I.base.there b o e hx
   exact⟨o',(hs.2 b (uI (uv (um e) I.ok.above))).trans e1⟩
  ·by_cases hj:j=i
   ·subst hj
    rw[hi]at e1;cases e1;rw[List.getElem?_set_self hiσ]at e2;cases e2;exact⟨u,r,.inl ⟨hk,by simp⟩⟩
   ·rw[List.getElem?_set_ne (Ne.symm hj)]at e2
    obtain⟨u',r',q⟩:=hl j y v' e1 e2 e3;refine⟨u',r',?_⟩;rcases q with⟨k,e⟩|⟨k,c,e,z⟩
    ·refine .inl ⟨k,?_⟩
     have:y≠x:=fun e=>hj (vp hN e1 (e ▸ hi))
     simp[this,e]
    ·exact .inr ⟨k,c,e,z.sameBut hs (cne y c e)⟩
  ·obtain⟨w',z⟩:=I.cell y c e
   exact⟨w',z.sameBut hs (cne y c e)⟩
  ·obtain⟨e,n,ne,nf,d⟩:=I.pin p hp
   exact⟨(hs.2 p.1 ne).trans e,n,ne,nf,d⟩
 ·have hfn:X.fn x=true:=by
   rcases hf with z|z
   ·exact z
   ·rw[z]at hk;cases hk
  obtain⟨c,hc⟩:=I.ok.has x (.inl hk);obtain⟨w',z⟩:=I.cell x c hc;refine wpAny_storeName_cell I.ok.kind hk hc z (fun h' hc' hs=>?_);obtain⟨oc,hoc,hocd⟩:=id z;refine h { s with heap:=h' } ⟨I.ok,I.os,I.bare,⟨fun b o e n hb hx=>?_,fun b o e n hb hx=>?_,I.base.free,fun b o e hx=>?_,I.base.tups,I.base.frzs,I.base.tbls⟩,⟨m,hn.sameBut hs (Ne.symm (cne x c hc)),fun j y v' e1 e2 e3=>?_⟩,fun y c' e=>?_,I.free,I.freeC,fun p hp=>?_,tracked ⟨oc,hoc,I.freeC x c hc⟩ hs,by simpa using I.len⟩ ⟨c,hs,.inr hc⟩
  ·exact(hs.2 b (uI (uv (um e) (I.ok.cab x c hfn hc)))).trans (I.base.keep b o e n hb hx)
  ·obtain⟨sl,e1⟩:=I.base.slot b o e n hb hx
   exact⟨sl,(hs.2 b (uI (uv (um e) (I.ok.cab x c hfn hc)))).trans e1⟩
  ·obtain⟨o',e1⟩:=I.base.there b o e hx
   exact⟨o',(hs.2 b (uI (uv (um e) (I.ok.cab x c hfn hc)))).trans e1⟩
  ·by_cases hj:j=i
   ·subst hj
    rw[hi]at e1;cases e1;rw[List.getElem?_set_self hiσ]at e2;cases e2;exact⟨u,r,.inr ⟨.inl hk,c,hc,hc'⟩⟩
   ·rw[List.getElem?_set_ne (Ne.symm hj)]at e2
    obtain⟨u',r',q⟩:=hl j y v' e1 e2 e3;refine⟨u',r',?_⟩;rcases q with q|⟨k,c',e,z'⟩
    ·exact .inl q
    ·refine .inr ⟨k,c',e,z'.sameBut hs ?_⟩
     rintro rfl;exact hj (vp hN e1 (I.ok.inj _ _ _ e hc ▸ hi))
  ·by_cases hcc:c'=c
   ·subst hcc;exact⟨_,hc'⟩
   ·obtain⟨w2,z2⟩:=I.cell y c' e
    exact⟨w2,z2.sameBut hs hcc⟩
  ·obtain⟨e,n,ne,nf,d⟩:=I.pin p hp
   refine⟨(hs.2 p.1 ?_).trans e,n,ne,nf,d⟩;intro q;rw[q,hoc]at e;have q':oc=p.2:=uQ.inj e;exact d w' (by rw[<- q'];exact hocd)
theorem vq{E:VSP}{v:V}(I:Inv X pins σ H s)(hN:X.N.Nodup)(hi:X.N[i]?=some x)(hx:Loc X.env.scope x)(r:RelV v u)
  (h:∀s',Inv X pins (σ.set i (some v)) H s'->Q () s') (hf:X.fn x=true\/X.env.scope.names.lookup x=some .local:=by first|exact .inl rfl|exact .inr rfl|assumption):wpAny M A (storeName X.env x u) Q E s :=
 jj I hN hi hx r (fun s' I' _=>h s' I') hf
theorem Inv.call'(I:Inv X pins σ H s)(ho:s'.os=s.os)(u:Un (frs X.stack) ch H H' s.heap s'.heap)(hok:HOk X.prog X.w H' s'.heap)(hg:AllBare s'.gens)
  (hch:∀b∈ch,(b∈X.ex\/X.s₀.heap.objs.size<=b)/\b≠X.env.locals/\(∀x c,X.env.cells.lookup x=some c->c≠b)/\∀p∈X.pn++pins,p.1≠b):Inv X pins σ H' s':=by
 obtain⟨h',g',d',t',o'⟩:=s';have e:o'=s.os:=ho;subst e;exact I.call (g':=g') (t':=t') (d':=d') u hok hg hch
end
abbrev XK:=Value->Option Addr->Hp->Prop
abbrev St:=List (Option V)
variable{σ:St}
abbrev VK:=V->Hp->Prop
abbrev TE:=St->Hp->VK->Prop
variable{ta te:TE}
abbrev TT:=St->Hp->(Bool->Hp->Prop)->Prop
abbrev TA:=St->Hp->(List V->Hp->Prop)->Prop
structure Ends where
 nx:St->Hp->Prop
 rt:VK
 bk:St->Hp->Prop:=fun _ _=>False
 ct:St->Hp->Prop:=fun _ _=>False
variable{D:Ends}
abbrev TS:=Ends->St->Hp->Prop
variable{tb:TS}
def EP(X:Cx)(pins:List (Addr×Obj))(σ:St)(Q:VK)(u:Value)(s':Shared):Prop:=∃v H',Inv X pins σ H' s'/\RelV v u/\Q v H'
def TP(X:Cx)(pins:List (Addr×Obj))(σ:St)(Q:Bool->Hp->Prop)(b:Bool)(s':Shared):Prop:=∃H',Inv X pins σ H' s'/\Q b H'
def AP(X:Cx)(pins:List (Addr×Obj))(σ:St)(Q:List V->Hp->Prop)(us:List Value)(s':Shared):Prop:=∃vs H',Inv X pins σ H' s'/\Vals vs us/\Q vs H'
def SP(X:Cx)(pins:List (Addr×Obj))(D:Ends)(f:Flow)(s':Shared):Prop :=
 match f with
 |.next=>∃σ' H',Inv X pins σ' H' s'/\D.nx σ' H'
 |.brk=>∃σ' H',Inv X pins σ' H' s'/\D.bk σ' H'
 |.cont=>∃σ' H',Inv X pins σ' H' s'/\D.ct σ' H'
 |.ret u=>∃v σ' H',Inv X pins σ' H' s'/\RelV v u/\D.rt v H'
def PE(X:Cx)(e:Expr)(t:TE):Prop :=
 ∀(pins:List (Addr×Obj))(s:Shared)(σ:St)(H:Hp)(Q:VK),Inv X pins σ H s->t σ H Q->wpAny (model X.prog X.w) X.A (eval e X.env) (EP X pins σ Q) X.xe s
def PT(X:Cx)(e:Expr)(t:TT):Prop :=
 ∀(pins:List (Addr×Obj))(s:Shared)(σ:St)(H:Hp)(Q:Bool->Hp->Prop),Inv X pins σ H s->t σ H Q->wpAny (model X.prog X.w) X.A (isTrue e X.env (eval e X.env)) (TP X pins σ Q) X.xe s
def PW(X:Cx)(e:Expr)(t:TT):Prop :=
 ∀(whole:Sem Value)(pins:List (Addr×Obj))(s:Shared)(σ:St)(H:Hp)(Q:Bool->Hp->Prop),Inv X pins σ H s->t σ H Q->wpAny (model X.prog X.w) X.A (isTrue e X.env whole) (TP X pins σ Q) X.xe s
theorem PW.pt{t:TT}(h:PW X e t):PT X e t:=h _
def PA(X:Cx)(es:List Expr)(t:TA):Prop :=
 ∀(pos:Pos)(pins:List (Addr×Obj))(s:Shared)(σ:St)(H:Hp)(Q:List V->Hp->Prop),Inv X pins σ H s->t σ H Q->wpAny (model X.prog X.w) X.A (spliced (backTo pos (starEach es X.env))) (AP X pins σ Q) X.xe s
def PS(X:Cx)(st:Stmt)(t:TS):Prop :=
 ∀(pins:List (Addr×Obj))(s:Shared)(σ:St)(H:Hp)(D:Ends),Inv X pins σ H s->t D σ H->wpAny (model X.prog X.w) X.A (exec st X.env) (SP X pins D) X.xe s
def PSs(X:Cx)(st:List Stmt)(t:TS):Prop :=
 ∀(pins:List (Addr×Obj))(s:Shared)(σ:St)(H:Hp)(D:Ends),Inv X pins σ H s->t D σ H->wpAny (model X.prog X.w) X.A (execs st X.env) (SP X pins D) X.xe s
theorem thn{α:Type}{t:Sem α}{Q Q':α->Shared->Prop}{E:VSP}{s:Shared}(h:wpAny M A t Q E s)(hQ:∀a s,Q a s->Q' a s):wpAny M A t Q' E s:=wpAny_mono h hQ fun _ _ x=>x
section
def tVar(i:Nat):TE:=fun σ H Q=>∃v,σ[i]?=some (some v)/\Q v H
def tC(v:V):TE:=fun _ H Q=>Q v H
theorem zbM(hN:X.N[i]?=some x)(hv:Vis X.env.scope x)(hd:(x == ("__debug__":Str))=false:=by decide)(hcd:(x == ("__classdict__":Str))=false:=by decide):PE X (.Name x pos) (tVar i):=by
 intro pins s σ H Q I h;obtain⟨v,e,h⟩:=h;obtain⟨m,hn,hl⟩:=I.loc;obtain⟨u,r,l⟩:=hl i x v hN e hv;have fin:EP X pins σ Q u s:=⟨v,H,I,r,h⟩;rcases l with⟨hk,hm⟩|⟨hk,c,hc,hcell⟩
 ·exact wpAny_Name (wpAny_loadName_local I.ok.kind hk hn hm fin) hd
 ·rcases hk with hk|hk
  ·exact wpAny_Name (wpAny_loadName_cell I.ok.kind hk hc hcell fin) hd
  ·exact wpAny_Name (wpAny_loadName_free I.ok.kind hk hc hcell fin hcd) hd
theorem zbN{i j pos}:PE X (.Constant (.int i) j pos) (tC (.int i)):=fun _ _ _ H _ I h=>wpAny_Constant_int ⟨.int i,H,I.tok _,⟨_,rfl⟩,h⟩
theorem zdb{b j pos}:PE X (.Constant (.bool b) j pos) (tC (.bl b)):=fun _ _ _ H _ I h=>Constant_bool ⟨.bl b,H,I,rfl,h⟩
theorem zbO{j pos}:PE X (.Constant .none j pos) (tC .non):=fun _ _ _ H _ I h=>Constant_none ⟨.non,H,I,rfl,h⟩
theorem zbP{x j pos}:PE X (.Constant (.str x) j pos) (tC (.str x)):=fun _ _ _ H _ I h=>Calls.Constant_str ⟨.str x,H,I.tok _,⟨_,rfl⟩,h⟩
def Gl(X:Cx)(x:Str):Prop:=X.env.kindOf x=some .globalImplicit
theorem yE{E:VSP}{s:Shared}{Q:VSP}(I:Inv X pins σ H s)(hg:Gl X x)(hm:X.mg x=some u)(h:Q u s)
  (hd:(x == ("__debug__":Str))=false:=by decide):wpAny (model X.prog X.w) X.A (eval (.Name x pos) X.env) Q E s :=
 Calls.Name_function_global I.ok.kind hg (Calls.loadGlobal_global (by rw[I.ok.glob];exact I.mod.glob.keeps I.bk) hm h) hd
theorem xy{E:VSP}{s:Shared}{Q:VSP}(I:Inv X pins σ H s)(hg:Gl X x)(hm:X.mg x=none)(hv:bootBuiltins x=some u)(h:Q u s)
  (hn:x≠"__name__":=by decide) (hd:(x == ("__debug__":Str))=false:=by decide):wpAny (model X.prog X.w) X.A (eval (.Name x pos) X.env) Q E s:=by
 obtain⟨mb,h1,h2⟩:=I.mod.blt;exact Calls.Name_function_global I.ok.kind hg (Calls.loadGlobal_builtin (by rw[I.ok.glob];exact I.mod.glob.keeps I.bk) hm (by rw[I.ok.blt];exact h1.keeps I.bk) ((h2 x hn).trans hv) h) hd
theorem Qp{v:V}(hg:Gl X x)(hm:X.mg x=some u)(r:RelV v u)(hd:(x == ("__debug__":Str))=false:=by decide):PE X (.Name x pos) (tC v) :=
 fun _ _ _ H _ I h=>yE I hg hm ⟨v,H,I,r,h⟩ hd
theorem Qq{v:V}(hg:Gl X x)(hm:X.mg x=none)(hv:bootBuiltins x=some u)(r:RelV v u)(hn:x≠"__name__":=by decide)(hd:(x == ("__debug__":Str))=false:=by decide):PE X (.Name x pos) (tC v) :=
 fun _ _ _ H _ I h=>xy I hg hm hv ⟨v,H,I,r,h⟩ hn hd
variable{a b:Expr}{tb:TE}
def PC(X:Cx)(op:CmpOp)(a b:Expr)(t:TE):Prop :=
 ∀(pins:List (Addr×Obj))(s:Shared)(σ:St)(H:Hp)(Q:VK),Inv X pins σ H s->t σ H Q ->
  wpAny (model X.prog X.w) X.A (eval a X.env) (fun v s₁=>wpAny (model X.prog X.w) X.A (eval b X.env) (fun u s₂=>wpAny (model X.prog X.w) X.A (compareOp op v u) (EP X pins σ Q) X.xe s₂) X.xe s₁) X.xe s
theorem ZL(b:Expr)(h:op≠.In)(h2:op≠.NotIn):behindInMarks op b=false:=by
 have e1:(op == CmpOp.In)=false:=by cases op<;>first|rfl|exact absurd rfl h
 have e2:(op == CmpOp.NotIn)=false:=by cases op<;>first|rfl|exact absurd rfl h2
 cases b<;>simp[behindInMarks,e1,e2]
def tIsN(ta:TE):TE:=fun σ H Q=>ta σ H fun x H1=>Q (.bl (decide (x=.non))) H1
def zbg(ta:TE):TE:=fun σ H Q=>ta σ H fun x H1=>Q (.bl (!decide (x=.non))) H1
theorem RelV.none_iff{x:V}(r:RelV x v):(v == Value.none)=decide (x=.non):=by
 cases x with
 |non=>cases r;rfl
 |bl _=>cases r;rfl
 |int _=>obtain⟨t,rfl⟩:=r;rfl
 |str _=>obtain⟨t,rfl⟩:=r;rfl
 |byt _=>obtain⟨t,rfl⟩:=r;rfl
 |flt _=>obtain⟨t,rfl⟩:=r;rfl
 |ref _=>cases r;rfl
 |ty _=>cases r;rfl
theorem zbQ{j pos'}(ha:PE X a ta):PC X .Is a (.Constant .none j pos') (tIsN ta):=by
 intro pins s σ H Q I h;refine thn (ha pins s σ H _ I h) fun v s1 hq_=>?_;obtain⟨x,H1,I1,r1,q1⟩:=hq_;exact Constant_none (is_none_gen ⟨.bl _,H1,I1,by rw[r1.none_iff];rfl,q1⟩)
theorem Qr{j pos'}(ha:PE X a ta):PC X .IsNot a (.Constant .none j pos') (zbg ta):=by
 intro pins s σ H Q I h;refine thn (ha pins s σ H _ I h) fun v s1 hq_=>?_;obtain⟨x,H1,I1,r1,q1⟩:=hq_;exact Constant_none (isnot_none_gen ⟨.bl _,H1,I1,by rw[r1.none_iff];rfl,q1⟩)
def tB(t:TE):TT:=fun σ H Q=>t σ H fun x H1=>∃c,x=.bl c/\Q c H1
theorem zbR{t:TE}(h:PC X op a b t)(h1:behindInMarks op b=false:=by first|exact ZL _ (by decide) (by decide)|rfl):PE X (.Compare a [op] [b] pos) t:=fun pins s σ H Q I hw=>wpAny_Compare1 (h pins s σ H Q I hw) h1
theorem Yt{t:TE}(h:PC X op a b t)(h1:behindInMarks op b=false:=by first|exact ZL _ (by decide) (by decide)|rfl):PT X (.Compare a [op] [b] pos) (tB t):=by
 intro pins s σ H Q I hw;refine wpAny_isTrue_Compare1 (thn (h pins s σ H _ I hw) fun v s1 h1=>thn h1 fun u s2 h2=>thn h2 fun c s3 ⟨x,H1,I1,r1,q1⟩=>?_) h1;obtain⟨d,rfl,q⟩:=q1;cases r1;exact wpAny_truthy_bool ⟨H1,I1,q⟩
theorem zbS{t:TE}(h:PE X e t)(he:∀whole,isTrue e X.env whole=(do let v <- whole;standAt e.pos;holding [v] (truthy v)):=by intro _;rfl):PT X e (tB t):=by
 intro pins s σ H Q I hw;refine isTrue_plain (thn (h pins s σ H _ I hw) fun v s1 ⟨x,H1,I1,r1,q1⟩=>?_) (he _);obtain⟨d,rfl,q⟩:=q1;cases r1;exact wpAny_truthy_bool ⟨H1,I1,q⟩
variable{tA tB':TT}{rest:List Expr}
def tAnd(t u:TT):TT:=fun σ H Q=>t σ H fun c H1=>if c=true then u σ H1 Q else Q false H1
def tOr(t u:TT):TT:=fun σ H Q=>t σ H fun c H1=>if c=true then Q true H1 else u σ H1 Q
def tNot(t:TT):TT:=fun σ H Q=>t σ H fun c H1=>Q (!c) H1
theorem pw_and1(ha:PT X a tA):PW X (.BoolOp .And [a] pos) tA:=by
 intro wh pins s σ H Q I h;refine isTrue_and (thn (ha pins s σ H Q I h) fun c s1 e=>?_);cases c with
 |true=>exact isTrue_and_nil e
 |false=>exact e
theorem pw_or1(ha:PT X a tA):PW X (.BoolOp .Or [a] pos) tA:=by
 intro wh pins s σ H Q I h;refine isTrue_or (thn (ha pins s σ H Q I h) fun c s1 e=>?_);cases c with
 |false=>exact isTrue_or_nil e
 |true=>exact e
theorem pw_and(ha:PT X a tA)(hb:PW X (.BoolOp .And (b::rest) pos) tB'):PW X (.BoolOp .And (a::b::rest) pos) (tAnd tA tB'):=by
 intro wh pins s σ H Q I h;refine isTrue_and (thn (ha pins s σ H _ I h) fun c s1 hq_=>?_);obtain⟨H1,I1,q1⟩:=hq_;cases c with
 |true=>exact hb wh pins s1 σ H1 Q I1 q1
 |false=>exact⟨H1,I1,q1⟩
theorem pw_or(ha:PT X a tA)(hb:PW X (.BoolOp .Or (b::rest) pos) tB'):PW X (.BoolOp .Or (a::b::rest) pos) (tOr tA tB'):=by
 intro wh pins s σ H Q I h;refine isTrue_or (thn (ha pins s σ H _ I h) fun c s1 hq_=>?_);obtain⟨H1,I1,q1⟩:=hq_;cases c with
 |true=>exact⟨H1,I1,q1⟩
 |false=>exact hb wh pins s1 σ H1 Q I1 q1
theorem zbT(ha:PT X a tA):PT X (.UnaryOp .Not a pos) (tNot tA):=by
 intro pins s σ H Q I h;exact isTrue_not (ha pins s σ H (fun c H1=>Q (!c) H1) I h)
def zbh(ta tb:TE):TE:=fun σ H Q=>ta σ H fun x H1=>∃c,x=.bl c/\if c=true then tb σ H1 Q else Q (.bl false) H1
def tOrV(ta tb:TE):TE:=fun σ H Q=>ta σ H fun x H1=>∃c,x=.bl c/\if c=true then Q (.bl true) H1 else tb σ H1 Q
def zbi(ta:TE):TE:=fun σ H Q=>ta σ H fun x H1=>∃c,x=.bl c/\Q (.bl (!c)) H1
theorem zbU{op}{t:TE}(h:PE X a t):PE X (.BoolOp op [a] pos) t:=fun pins s σ H Q I hw=>BoolOp_one (h pins s σ H Q I hw)
theorem zbV(ha:PE X a ta)(hb:PE X (.BoolOp .And (b::rest) pos) tb):PE X (.BoolOp .And (a::b::rest) pos) (zbh ta tb):=by
 intro pins s σ H Q I h;refine BoolOp_and (thn (ha pins s σ H _ I h) fun v s1 hq_=>?_);obtain⟨x,H1,I1,r1,q1⟩:=hq_;obtain⟨c,rfl,q1⟩:=q1;cases r1;refine wpAny_truthy_bool ?_;cases c with
 |true=>exact hb pins s1 σ H1 Q I1 q1
 |false=>exact⟨.bl false,H1,I1,rfl,q1⟩
theorem zdc(ha:PE X a ta)(hb:PE X (.BoolOp .Or (b::rest) pos) tb):PE X (.BoolOp .Or (a::b::rest) pos) (tOrV ta tb):=by
 intro pins s σ H Q I h;refine BoolOp_or (thn (ha pins s σ H _ I h) fun v s1 hq_=>?_);obtain⟨x,H1,I1,r1,q1⟩:=hq_;obtain⟨c,rfl,q1⟩:=q1;cases r1;refine wpAny_truthy_bool ?_;cases c with
 |false=>exact hb pins s1 σ H1 Q I1 q1
 |true=>exact⟨.bl true,H1,I1,rfl,q1⟩
theorem zbW(ha:PE X a ta):PE X (.UnaryOp .Not a pos) (zbi ta):=by
 intro pins s σ H Q I h;refine UnaryOp_ (thn (ha pins s σ H _ I h) fun v s1 hq_=>?_);obtain⟨x,H1,I1,r1,q1⟩:=hq_;obtain⟨c,rfl,q1⟩:=q1;cases r1;exact not_of (wpAny_truthy_bool ⟨.bl (!c),H1,I1,rfl,q1⟩)
def tIf(t:TT)(ta tb:TE):TE:=fun σ H Q=>t σ H fun c H1=>if c=true then ta σ H1 Q else tb σ H1 Q
theorem W9(hc:PT X c tA)(ha:PE X a ta)(hb:PE X b tb):PE X (.IfExp c a b pos) (tIf tA ta tb):=by
 intro pins s σ H Q I h;refine wpAny_IfExp (thn (hc pins s σ H _ I h) fun d s1 hq_=>?_);obtain⟨H1,I1,q1⟩:=hq_;cases d with
 |true=>exact ha pins s1 σ H1 Q I1 q1
 |false=>exact hb pins s1 σ H1 Q I1 q1
end
def SqL(K:ua)(H:Hp)(a:Addr)(xs:List V):Prop :=
 Rd H a (.lst xs) \/
  ∃(o:Obj)(its:Array Value)(n:Nat),K.lookup a=some o/\o.cls=.type "list"/\o.dict=none/\o.data=.seq its n/\its.size<=sizeLine/\Vals xs its.toList
def SqT(K:ua)(H:Hp)(a:Addr)(xs:List V):Prop :=
 Rd H a (.tup xs) \/
  ∃(o:Obj)(its:Array Value)(n:Nat),K.lookup a=some o/\o.cls=.type "tuple"/\o.data=.seq its n/\its.size<=sizeLine/\Vals xs its.toList
def absV:Value->Option V
 |.none=>some .non
 |.bool b=>some (.bl b)
 |.int i _=>some (.int i)
 |.str x _=>some (.str x)
 |.bytes b _=>some (.byt b)
 |.float b _=>some (.flt b)
 |.ref a=>some (.ref a)
 |.type n=>some (.ty n)
 |_=>none
theorem RelV.abs{x:V}(r:RelV x u):absV u=some x:=by
 cases x with
 |non=>cases r;rfl
 |bl _=>cases r;rfl
 |int _=>obtain⟨t,rfl⟩:=r;rfl
 |str _=>obtain⟨t,rfl⟩:=r;rfl
 |byt _=>obtain⟨t,rfl⟩:=r;rfl
 |flt _=>obtain⟨t,rfl⟩:=r;rfl
 |ref _=>cases r;rfl
 |ty _=>cases r;rfl
theorem RelV.inj{x y:V}(r:RelV x u)(q:RelV y u):x=y:=uQ.inj (r.abs.symm.trans q.abs)
theorem Vals.inj:∀{xs ys:List V}{us:List Value},Vals xs us->Vals ys us->xs=ys
 |_,_,_,.nil,.nil=>rfl
 |_,_,_,.cons r t,.cons r' t'=>by rw[r.inj r',Vals.inj t t']
section
variable{s:Shared}{ys:List V}
theorem SqL.of{K:ua}(h:H a=some (.lst xs)):SqL K H a xs:=.inl (.inl h)
theorem SqT.of{K:ua}(h:H a=some (.tup xs)):SqT K H a xs:=.inl (.inl h)
theorem Inv.list(I:Inv X pins σ H s)(h:SqL X.K H a xs):∃its:List Value,Vals xs its/\PlainL s.heap a its.toArray/\xs.length<=sizeLine:=by
 rcases h with h|⟨o,its,n,hk,hc,hd,hs,hz,r⟩
 ·obtain⟨z,its,n,r,e⟩:=h.ok I.hok
  exact⟨its,r,⟨_,n,e,rfl,rfl,rfl⟩,z⟩
 ·refine⟨its.toList,r,⟨o,n,I.kIn a o hk,hc,hd,by simpa using hs⟩,?_⟩
  have e:=r.length;simp only[Array.length_toList]at e
  lia
theorem Inv.tuple(I:Inv X pins σ H s)(h:SqT X.K H a xs):∃its:List Value,Vals xs its/\IsTup s.heap a its.toArray/\xs.length<=sizeLine:=by
 rcases h with h|⟨o,its,n,hk,hc,hs,hz,r⟩
 ·obtain⟨z,its,r,p⟩:=h.ok I.hok
  exact⟨its,r,p.is,z⟩
 ·refine⟨its.toList,r,⟨o,I.kIn a o hk,hc,n,by simpa using hs⟩,?_⟩
  have e:=r.length;simp only[Array.length_toList]at e
  lia
theorem Inv.list_inj(I:Inv X pins σ H s)(h:SqL X.K H a xs)(h':SqL X.K H a ys):xs=ys:=by
 obtain⟨its,r,⟨o,n,e,_,_,d⟩,_⟩:=I.list h;obtain⟨its',r',⟨o',n',e',_,_,d'⟩,_⟩:=I.list h';rw[e]at e';cases e';rw[d]at d';injection d' with d1 _
 have:its=its':=by simpa using congrArg Array.toList d1
 subst this;exact r.inj r'
theorem Inv.tuple_inj(I:Inv X pins σ H s)(h:SqT X.K H a xs)(h':SqT X.K H a ys):xs=ys:=by
 obtain⟨its,r,⟨o,e,_,n,d⟩,_⟩:=I.tuple h;obtain⟨its',r',⟨o',e',_,n',d'⟩,_⟩:=I.tuple h';rw[e]at e';cases e';rw[d]at d';injection d' with d1 _
 have:its=its':=by simpa using congrArg Array.toList d1
 subst this;exact r.inj r'
end
abbrev Cx.wish(X:Cx)(E:VSP):Cx:={ X with xe:=E }
abbrev Cx.nox(X:Cx):Cx:=X.wish fun _ _=>False
theorem Cx.Ok.wish(ok:X.Ok)(E:VSP):(X.wish E).Ok :=
 ⟨ok.mod,ok.kind,ok.glob,ok.blt,ok.above,ok.inj,ok.has,ok.cab,ok.hd,ok.frames,ok.stk,ok.exf,ok.bs,ok.bsz,ok.noex,ok.exfs,ok.funs,ok.frf⟩
theorem Cx.Ok.unwish{E:VSP}(ok:(X.wish E).Ok):X.Ok :=
 ⟨ok.mod,ok.kind,ok.glob,ok.blt,ok.above,ok.inj,ok.has,ok.cab,ok.hd,ok.frames,ok.stk,ok.exf,ok.bs,ok.bsz,ok.noex,ok.exfs,ok.funs,ok.frf⟩
section
variable{s:Shared}{E:VSP}
theorem Inv.wish(I:Inv X pins σ H s)(E:VSP):Inv (X.wish E) pins σ H s:=⟨I.ok.wish E,I.os,I.bare,I.base,I.loc,I.cell,I.free,I.freeC,I.pin,I.hok,I.len⟩
theorem Inv.unwish(I:Inv (X.wish E) pins σ H s):Inv X pins σ H s:=⟨I.ok.unwish,I.os,I.bare,I.base,I.loc,I.cell,I.free,I.freeC,I.pin,I.hok,I.len⟩
theorem SP.unwish{f:Flow}(h:SP (X.wish E) pins D f s'):SP X pins D f s':=by
 cases f with
 |next=>obtain⟨σ',H',I,q⟩:=h;exact⟨σ',H',I.unwish,q⟩
 |brk=>obtain⟨σ',H',I,q⟩:=h;exact⟨σ',H',I.unwish,q⟩
 |cont=>obtain⟨σ',H',I,q⟩:=h;exact⟨σ',H',I.unwish,q⟩
 |ret u=>obtain⟨v,σ',H',I,r,q⟩:=h;exact⟨v,σ',H',I.unwish,r,q⟩
theorem PSs.nox{st:List Stmt}{t:TS}(h:PSs X.nox st t):PSs X st t:=fun pins s σ H D I hw =>
 wpAny_mono (h pins s σ H D (I.wish _) hw) (fun _ _ q=>q.unwish) fun _ _ z=>False.elim z
end
section
variable{rest:List Stmt}{t u:TS}
def wX:TS:=fun D σ H=>D.nx σ H
def tSeq(t u:TS):TS:=fun D σ H=>t { D with nx:=u D } σ H
theorem Qs:PSs X [] wX:=fun _ _ σ H _ I h=>wpAny_execs_nil ⟨σ,H,I,h⟩
theorem Va(h1:PS X st t)(h2:PSs X rest u):PSs X (st::rest) (tSeq t u):=by
 intro pins s σ H D I h;refine wpAny_execs_cons (thn (h1 pins s σ H { D with nx:=u D } I h) fun f s1 q=>?_);cases f with
 |next =>
  obtain⟨σ',H',I',q⟩:=q;exact h2 pins s1 σ' H' D I' q
 |ret v=>exact q
 |brk=>exact q
 |cont=>exact q
theorem Qt(h1:PS X st t):PSs X [st] t:=by
 intro pins s σ H D I h;refine wpAny_execs_cons (thn (h1 pins s σ H D I h) fun f s1 q=>?_);cases f with
 |next=>exact wpAny_execs_nil q
 |ret v=>exact q
 |brk=>exact q
 |cont=>exact q
theorem Qu:PS X (.Pass pos) wX:=fun _ _ σ H _ I h=>wpAny_Pass ⟨σ,H,I,h⟩
theorem Inv.quiet{s:Shared}(I:Inv X pins σ H s):interactive X.env=false:=by simp[interactive,I.ok.kind]
def ZM(te:TE):TS:=fun D σ H=>te σ H fun _ H1=>D.nx σ H1
theorem Qv(he:PE X e te)(hs:swapsWith e none pos.line X.env=pure false:=by rfl):PS X (.Expr e pos) (ZM te):=by
 intro pins s σ H D I h;exact wpAny_Expr_any (thn (he pins s σ H _ I h) fun v s1 ⟨x,H1,I1,r1,q1⟩=>⟨σ,H1,I1,q1⟩) I.quiet hs
def tRet(te:TE):TS:=fun D σ H=>te σ H D.rt
theorem zbX(he:PE X e te):PS X (.Return (some e) pos) (tRet te):=by
 intro pins s σ H D I h;exact wpAny_Return_some (thn (he pins s σ H _ I h) fun v s1 ⟨x,H1,I1,r1,q1⟩=>⟨x,σ,H1,I1,r1,q1⟩)
def tIfS(c:TT)(t u:TS):TS:=fun D σ H=>c σ H fun b H1=>if b=true then t D σ H1 else u D σ H1
theorem zdd{a b:List Stmt}{tc:TT}(hc:PT X c tc)(ha:PSs X a t)(hb:PSs X b u):PS X (.If c a b pos) (tIfS tc t u):=by
 intro pins s σ H D I h;refine wpAny_If (thn (hc pins s σ H _ I h) fun d s1 hq_=>?_);obtain⟨H1,I1,q1⟩:=hq_;cases d with
 |true=>exact ha pins s1 σ H1 D I1 q1
 |false=>exact hb pins s1 σ H1 D I1 q1
end
abbrev TG:=V->St->Hp->(St->Hp->Prop)->Prop
abbrev TGs:=List V->St->Hp->(St->Hp->Prop)->Prop
def PG(X:Cx)(target:Expr)(t:TG):Prop :=
 ∀(pins:List (Addr×Obj))(s:Shared)(σ:St)(H:Hp)(v:V)(u:Value)(Q:St->Hp->Prop),Inv X pins σ H s->RelV v u->t v σ H Q ->
  wpAny (model X.prog X.w) X.A (assign target X.env u) (fun _ s'=>∃σ' H',Inv X pins σ' H' s'/\Q σ' H') X.xe s
def PGs(X:Cx)(ts:List Expr)(t:TGs):Prop :=
 ∀(pins:List (Addr×Obj))(s:Shared)(σ:St)(H:Hp)(vs:List V)(us:List Value)(Q:St->Hp->Prop),Inv X pins σ H s->Vals vs us->t vs σ H Q ->
  wpAny (model X.prog X.w) X.A (assignInOrder ((assignEach ts X.env).map (·.2)) us) (fun _ s'=>∃σ' H',Inv X pins σ' H' s'/\Q σ' H') X.xe s
def jk(i:Nat):TG:=fun v σ H Q=>Q (σ.set i (some v)) H
theorem Qw(hN:X.N.Nodup)(hi:X.N[i]?=some x)(hx:Loc X.env.scope x)(hf:X.fn x=true\/X.env.scope.names.lookup x=some .local:=by first|exact .inl rfl|exact .inr rfl|assumption):PG X (.Name x pos) (jk i):=by
 intro pins s σ H v u Q I r h;exact wpAny_assign_Name (vq I hN hi hx r (fun s' I'=>⟨_,H,I',h⟩) hf)
def gNil:TGs:=fun vs σ H Q=>vs=[]/\Q σ H
def zbj(t:TG)(u:TGs):TGs:=fun vs σ H Q=>∃v r,vs=v::r/\t v σ H fun σ' H'=>u r σ' H' Q
theorem Qx:PGs X [] gNil:=by
 intro pins s σ H vs us Q I r h;obtain⟨e,h⟩:=h;subst e;cases r;exact assignInOrder_nil ⟨σ,H,I,h⟩
theorem Vb{t:TG}{u:TGs}(h1:PG X e t)(h2:PGs X es u)
  (hs:(assignEach (e::es) X.env).map (·.2)=assign e X.env::(assignEach es X.env).map (·.2):=by rfl):PGs X (e::es) (zbj t u):=by
 intro pins s σ H vs us Q I r h;obtain⟨v,vr,e1,h⟩:=h;subst e1;cases r with
 |cons r rr =>
  rw[hs];refine assignInOrder_cons (thn (h1 pins s σ H _ _ _ I r h) fun _ s1 hq_=>?_);obtain⟨σ1,H1,I1,q1⟩:=hq_;exact h2 pins s1 σ1 H1 _ _ Q I1 rr q1
def gTup(K:ua)(n:Nat)(t:TGs):TG:=fun v σ H Q=>∃a xs,v=.ref a/\SqT K H a xs/\xs.length=n/\t xs σ H Q
theorem zbY{k:Nat}{t:TGs}(hc:X.calm=true)(h:PGs X es t)
  (hn:(assignEach es X.env).length=n:=by rfl) (hst:(assignEach es X.env).findIdx? (·.1)=none:=by rfl):PG X (.Tuple es k pos) (gTup X.K n t):=by
 intro pins s σ H v u Q I r hw;obtain⟨a,xs,e1,hq,hl,hw⟩:=hw;subst e1;cases r;obtain⟨its,rv,ht,hz⟩:=I.tuple hq;refine assign_Tuple_tuple (I.ok.hd hc) ht (by simp[hn,<- hl,rv.length]) hst fun h' hx=>?_;have I1:Inv X pins σ H { s with heap:=h' }:=I.kept (t':=s.toks) fun b o e=>hx b o (uI (um e)) e;exact h pins _ σ H xs _ Q I1 (by simpa using rv) hw
def tAsg(te:TE)(g:TG):TS:=fun D σ H=>te σ H fun x H1=>g x σ H1 D.nx
theorem zbZ{g:TG}(he:PE X e te)(hg:PG X tg g)(hs:swapsWithSole [tg] e pos.line X.env=pure false:=by rfl)(hw:swappedStores [tg] e X.env=pure none:=by rfl)
  (h1:(assignEach [tg] X.env).map (·.2)=[assign tg X.env]:=by rfl):PS X (.Assign [tg] e pos) (tAsg te g):=by
 intro pins s σ H D I h;refine wpAny_Assign_stores (thn (he pins s σ H _ I h) fun v s1 ⟨x,H1,I1,r1,q1⟩=>?_) hs hw;rw[h1];exact thn (hg pins s1 σ H1 x v _ I1 r1 q1) fun _ s2 q=>q
theorem zb0(hN:X.N.Nodup)(hi:X.N[i]?=some x)(hx:Loc X.env.scope x)(he:PE X e te)(hs:swapsWith e (some (.Name x pos')) pos.line X.env=pure false:=by rfl)(hf:X.fn x=true\/X.env.scope.names.lookup x=some .local:=by first|exact .inl rfl|exact .inr rfl|assumption):
  PS X (.Assign [.Name x pos'] e pos) (tAsg te (jk i)):=by
 intro pins s σ H D I h;refine wpAny_Assign_Name (thn (he pins s σ H _ I h) fun v s1 ⟨y,H1,I1,r1,q1⟩=>?_) hs;exact vq I1 hN hi hx r1 (fun s2 I2=>⟨_,H1,I2,q1⟩) hf
def Vc(c:TT)(tb:TS):TS:=fun D σ H=>∃W:Nat->St->Hp->Prop,(∃m,W m σ H)/\∀m σ H,W m σ H ->
 c σ H fun b H1=>if b=true then ∃N:St->Hp->Prop,(∀σ' H',N σ' H'->∃m',m' < m/\W m' σ' H')/\tb { D with nx:=N,ct:=N,bk:=D.nx } σ H1 else D.nx σ H1
theorem Vd{tc:TT}(hp:PassesOwn (model X.prog X.w) X.A X.env X.xe)(hc:PT X c tc)(hb:PSs X body tb):PS X (.While c body [] pos) (Vc tc tb):=by
 intro pins s σ H D I h;obtain⟨W,⟨m0,w0⟩,turn⟩:=h;refine wpAny_While (codeAny_whileLoop (fun n s'=>∃σ' H',Inv X pins σ' H' s'/\W n σ' H') ?_ m0 ⟨σ,H,I,w0⟩);rintro n s1 ⟨σ1,H1,I1,w1⟩;refine wpAny_passesOwn hp (thn (hc pins s1 σ1 H1 _ I1 (turn n σ1 H1 w1)) fun b s2 hq_=>?_);obtain⟨H2,I2,q2⟩:=hq_;cases b with
 |true =>
  obtain⟨N,hN,q2⟩:=q2;rw[if_pos rfl];refine wpAny_passesOwn hp (thn (hb pins s2 σ1 H2 _ I2 q2) fun f s3 q3=>?_);cases f with
  |next =>
   obtain⟨σ3,H3,I3,n3⟩:=q3;obtain⟨m',hm,w3⟩:=hN σ3 H3 n3;exact⟨m',hm,σ3,H3,I3,w3⟩
  |cont =>
   obtain⟨σ3,H3,I3,n3⟩:=q3;obtain⟨m',hm,w3⟩:=hN σ3 H3 n3;exact⟨m',hm,σ3,H3,I3,w3⟩
  |brk=>exact q3
  |ret v=>exact q3
 |false =>
  rw[if_neg uB];exact wpAny_execs_nil ⟨σ1,H2,I2,q2⟩
structure It where
 go:Nat->Hp->Prop
 yld:Nat->Hp->V->Hp->Prop
 stop:Nat->Hp->Prop
def FpOk(X:Cx)(pins:List (Addr×Obj))(H:Hp)(b:Addr):Prop :=
 H b=none/\b≠X.env.locals/\b∉X.fs/\(b∈X.ex\/X.s₀.heap.objs.size<=b)/\(∀x c,X.env.cells.lookup x=some c->c≠b)/\∀p∈X.pn++pins,p.1≠b
theorem Inv.fpOk{s:Shared}(I:Inv X pins σ H s)(hb:s.heap.objs.size<=b)(hn:H' b=none):FpOk X pins H' b:=by
 refine⟨hn,U8 (uv I.lt hb),I.nofs hb,.inr (uy I.sz hb),fun x c e z=>?_,fun p hp z=>?_⟩
 ·obtain⟨v,q⟩:=I.cell x c e
  exact absurd (uv q.lt (by rw[z];exact hb)) (u7 _)
 ·exact absurd (uv (um (I.pin p hp).1) (by rw[z];exact hb)) (u7 _)
structure Turn(P:Program)(w:World)(K:ua)(tg:Expr)(J:It)(fp:List Addr)(it:Addr)(tn:Nat->Heap->Prop):Prop where
 mem:it∈fp
 obj:∀i h,tn i h->∀b∈fp,∃o,h.get? b=some o/\∀v,o.data≠.cell v
 keep:∀i h h',tn i h->(∀b∈fp,∀o,h.get? b=some o->h'.get? b=some o)->tn i h'
 item:∀(X:Cx),X.prog=P->X.w=w->X.K=K->X.calm=true->∀(i:Nat)(pins:List (Addr×Obj))(s:Shared)(σ:St)(H:Hp)(E:VSP),Inv X pins σ H s->(∀b∈fp,FpOk X pins H b)->tn i s.heap->J.go i H ->
  wpAny (model P w) X.A (pyNext (.ref it)) (fun r s1=>∃u,r=some u /\
   wpAny (model P w) X.A (letOwnedTupleGo tg (.ref it) u) (fun _ s2=>∃x H',Inv X pins σ H' s2/\RelV x u/\J.yld i H x H'/\tn (i+1) s2.heap/\∀b∈fp,H' b=none) E s1) E s
 done:∀(X:Cx),X.prog=P->X.w=w->X.K=K->X.calm=true->∀(i:Nat)(pins:List (Addr×Obj))(s:Shared)(σ:St)(H:Hp)(E:VSP),Inv X pins σ H s->(∀b∈fp,FpOk X pins H b)->tn i s.heap->J.stop i H ->
  wpAny (model P w) X.A (pyNext (.ref it)) (fun r s1=>r=none/\Inv X pins σ H s1) E s
 self:∀(A:Around)(i:Nat)(s:Shared)(Q:VSP)(E:VSP),tn i s.heap->Q (.ref it) s->wpAny (model P w) A (pyIter (.ref it)) Q E s
abbrev TI:=St->Hp->(It->Hp->Prop)->Prop
def PIE(X:Cx)(pins:List (Addr×Obj))(σ:St)(tg:Expr)(R:It->Hp->Prop)(itv:Value)(s2:Shared):Prop :=
 ∃(it:Addr)(fp:List Addr)(tn:Nat->Heap->Prop)(J:It)(H':Hp),itv=.ref it/\Inv X pins σ H' s2/\Turn X.prog X.w X.K tg J fp it tn/\tn 0 s2.heap/\(∀b∈fp,FpOk X pins H' b)/\R J H'
def PI(X:Cx)(tg iter:Expr)(wi:TI):Prop :=
 ∀(pins:List (Addr×Obj))(s:Shared)(σ:St)(H:Hp)(R:It->Hp->Prop),Inv X pins σ H s->wi σ H R ->
  wpAny (model X.prog X.w) X.A (eval iter X.env) (fun v s1=>wpAny (model X.prog X.w) X.A (pyIter v) (PIE X pins σ tg R) X.xe s1) X.xe s
theorem ZO{E:VSP}{s:Shared}{o:Obj}{n:String}(ho:s.heap.get? it=some o)(hc:o.cls=.type n)(hd:o.data=.fields vs)
  (hn:["enumerate","zip","dict_itemiterator","dict_reverseitemiterator","odict_iterator","itertools.zip_longest","itertools.pairwise"].contains n=false) (hQ:Q () s):wpAny M A (letOwnedTupleGo tg (.ref it) u) Q E s:=by
 unfold letOwnedTupleGo;cases tg<;>first
  |exact wpAny_pure hQ
  | (cases u<;>first
    |exact wpAny_pure hQ
    | (refine wpAny_bind (wpAny_load ho ?_)
       rw[hc,hd];show wpAny M A (if(["enumerate","zip","dict_itemiterator","dict_reverseitemiterator","odict_iterator","itertools.zip_longest","itertools.pairwise"].contains n && vs[0]? == some (rawInt _))=true then _ else _) Q E s;rw[if_neg (by intro h;rw[hn,Bool.false_and]at h;cases h)];exact wpAny_pure hQ))
def Itl(K:ua)(a:Addr):It :=
 ⟨fun i H=>∃xs x,SqL K H a xs/\xs[i]?=some x,fun i H x H'=>H'=H/\∀xs,SqL K H a xs->xs[i]?=some x,fun i H=>∃xs,SqL K H a xs/\xs.length<=i⟩
def Itt(K:ua)(a:Addr):It :=
 ⟨fun i H=>∃xs x,SqT K H a xs/\xs[i]?=some x,fun i H x H'=>H'=H/\∀xs,SqT K H a xs->xs[i]?=some x,fun i H=>∃xs,SqT K H a xs/\xs.length<=i⟩
def Itr(lo:Int)(n:Nat):It:=⟨fun i _=>i < n,fun i H x H'=>H'=H/\x=.int (lo+i),fun i _=>n<=i⟩
theorem Wd{K:ua}(a it:Addr):Turn P w K tg (Itl K a) [it] it (fun i h=>h.IsListIter it a i) where
 mem:=by simp
 obj:=fun i h st b hb=>by
  have e:b=it:=by simpa using hb
  subst e;obtain⟨o,e,c,d⟩:=st;exact⟨o,e,fun v z=>by rw[d]at z;cases z⟩
 keep:=fun i h h' st k=>st.at fun o e=>k it (by simp) o e
 item:=by
  intro X hP hw hK hc i pins s σ H E I hf st hg;subst hP hw hK;obtain⟨xs,x,hq,hx⟩:=hg;obtain⟨its,rv,p,hz⟩:=I.list hq;obtain⟨u,hu,ru⟩:=rv.get hx;obtain⟨f0,f1,f2,f3,f4,f5⟩:=hf it (by simp);refine wpAny_pyNext_list_item st p.isList (x:=u) (by simpa using hu) fun h' st' sb=>?_;have I1:Inv X pins σ H { s with heap:=h' }:=I.turned (t':=s.toks) (fun b o hb e=>(sb.2 b hb).trans e) f0 f1 f3 f4 f5;obtain⟨o,e,c,d⟩:=id st';exact⟨u,rfl,ZO (s:={ s with heap:=h' }) e c d (by decide) ⟨x,H,I1,ru,⟨rfl,fun ys hy=>by rw[I.list_inj hy hq];exact hx⟩,st',fun b hb=>(hf b hb).1⟩⟩
 done:=by
  intro X hP hw hK hc i pins s σ H E I hf st hg;subst hP hw hK;obtain⟨xs,hq,hx⟩:=hg;obtain⟨its,rv,p,hz⟩:=I.list hq;obtain⟨f0,f1,f2,f3,f4,f5⟩:=hf it (by simp);have hl:=rv.length;exact wpAny_pyNext_list_end (I.ok.hd hc) st p.isList (by simp;lia) fun h' eb=>⟨rfl,I.turned (t':=s.toks) (fun b o hb e=>eb b o hb e) f0 f1 f3 f4 f5⟩
 self:=fun _ _ _ _ _ st h=>wpAny_pyIter_listiter st h
theorem Yu{K:ua}(a it:Addr):Turn P w K tg (Itt K a) [it] it (fun i h=>h.IsTupleIter it a i) where
 mem:=by simp
 obj:=fun i h st b hb=>by
  have e:b=it:=by simpa using hb
  subst e;obtain⟨o,e,c,d⟩:=st;exact⟨o,e,fun v z=>by rw[d]at z;cases z⟩
 keep:=fun i h h' st k=>st.at fun o e=>k it (by simp) o e
 item:=by
  intro X hP hw hK hc i pins s σ H E I hf st hg;subst hP hw hK;obtain⟨xs,x,hq,hx⟩:=hg;obtain⟨its,rv,p,hz⟩:=I.tuple hq;obtain⟨u,hu,ru⟩:=rv.get hx;obtain⟨f0,f1,f2,f3,f4,f5⟩:=hf it (by simp);refine wpAny_pyNext_tuple_item st (show s.heap.IsTuple a its.toArray from p) (x:=u) (by simpa using hu) fun h' st' sb=>?_;have I1:Inv X pins σ H { s with heap:=h' }:=I.turned (t':=s.toks) (fun b o hb e=>(sb.2 b hb).trans e) f0 f1 f3 f4 f5;obtain⟨o,e,c,d⟩:=id st';exact⟨u,rfl,ZO (s:={ s with heap:=h' }) e c d (by decide) ⟨x,H,I1,ru,⟨rfl,fun ys hy=>by rw[I.tuple_inj hy hq];exact hx⟩,st',fun b hb=>(hf b hb).1⟩⟩
 done:=by
  intro X hP hw hK hc i pins s σ H E I hf st hg;subst hP hw hK;obtain⟨xs,hq,hx⟩:=hg;obtain⟨its,rv,p,hz⟩:=I.tuple hq;obtain⟨f0,f1,f2,f3,f4,f5⟩:=hf it (by simp);have hl:=rv.length;exact wpAny_pyNext_tuple_end (I.ok.hd hc) st (show s.heap.IsTuple a its.toArray from p) (by simp;lia) fun h' eb=>⟨rfl,I.turned (t':=s.toks) (fun b o hb e=>eb b o hb e) f0 f1 f3 f4 f5⟩
 self:=fun _ _ _ _ _ st h=>wpAny_pyIter_tupleiter st h
theorem Yv{K:ua}(it:Addr)(lo:Int)(n:Nat):Turn P w K tg (Itr lo n) [it] it (fun i h=>IsRangeIter h it (lo+(i:Nat)*1) ((n:Int)-(i:Nat)) 1) where
 mem:=by simp
 obj:=fun i h st b hb=>by
  have e:b=it:=by simpa using hb
  subst e;exact⟨_,st,fun v z=>by
   have z':Data.fields _=Data.cell v:=z;cases z'⟩
 keep:=fun i h h' st k=>k it (by simp) _ st
 item:=by
  intro X hP hw hK hc i pins s σ H E I hf st hg;subst hP hw hK;obtain⟨f0,f1,f2,f3,f4,f5⟩:=hf it (by simp);have W:=Walks.range (prog:=X.prog) (w:=X.w) (I.ok.hd hc) it lo 1 n;refine W.item i s _ _ hg st fun v h' tk hv st' kk=>?_;obtain⟨t,rfl⟩:=hv;have I1:Inv X pins σ H { s with heap:=h',toks:=tk }:=I.turned (fun b o hb e=>kk b o (by simpa using hb) e) f0 f1 f3 f4 f5;refine⟨_,rfl,ZO (s:={ s with heap:=h',toks:=tk }) (n:="range_iterator") st' rfl rfl (by decide) ⟨.int (lo+i),H,I1,⟨t,?_⟩,⟨rfl,rfl⟩,st',fun b hb=>(hf b hb).1⟩⟩;rw[Int.mul_one]
 done:=by
  intro X hP hw hK hc i pins s σ H E I hf st hg;subst hP hw hK;obtain⟨f0,f1,f2,f3,f4,f5⟩:=hf it (by simp);exact wpAny_pyNext_range_end (I.ok.hd hc) st (by have:n<=i:=hg;lia) fun h' eb=>⟨rfl,I.turned (t':=s.toks) (fun b o hb e=>eb b o hb e) f0 f1 f3 f4 f5⟩
 self:=fun _ _ _ _ _ st h=>wpAny_pyIter_rangeiter st h
def Ve(K:ua)(tl:TE):TI:=fun σ H R=>tl σ H fun x H1=>∃a,x=.ref a/\(∃xs,SqL K H1 a xs)/\R (Itl K a) H1
def iTup(K:ua)(tl:TE):TI:=fun σ H R=>tl σ H fun x H1=>∃a,x=.ref a/\(∃xs,SqT K H1 a xs)/\R (Itt K a) H1
theorem Qy{l:Expr}{tl:TE}(hl:PE X l tl):PI X tg l (Ve X.K tl):=by
 intro pins s σ H R I h;refine thn (hl pins s σ H _ I h) fun v s1 hq_=>?_;obtain⟨x,H1,I1,r1,q1⟩:=hq_;obtain⟨a,e,⟨xs,hq⟩,q⟩:=q1;subst e;cases r1;obtain⟨its,rv,p,hz⟩:=I1.list hq;refine wpAny_pyIter_list p.isList ?_;refine⟨s1.heap.objs.size,[s1.heap.objs.size],_,_,H1,rfl,I1.kept (t':=s1.toks) fun b o e=>ub _ e,Wd a _,⟨_,uo _ rfl,rfl,rfl⟩,fun b hb=>?_,q⟩;have e:b=s1.heap.objs.size:=by simpa using hb
 subst e;exact I1.fpOk (ui _) (I1.hok.fresh (ui _))
theorem zb1{l:Expr}{tl:TE}(hl:PE X l tl):PI X tg l (iTup X.K tl):=by
 intro pins s σ H R I h;refine thn (hl pins s σ H _ I h) fun v s1 hq_=>?_;obtain⟨x,H1,I1,r1,q1⟩:=hq_;obtain⟨a,e,⟨xs,hq⟩,q⟩:=q1;subst e;cases r1;obtain⟨its,rv,p,hz⟩:=I1.tuple hq;refine wpAny_pyIter_tuple (show s1.heap.IsTuple a its.toArray from p) ?_;refine⟨s1.heap.objs.size,[s1.heap.objs.size],_,_,H1,rfl,I1.kept (t':=s1.toks) fun b o e=>ub _ e,Yu a _,⟨_,uo _ rfl,rfl,rfl⟩,fun b hb=>?_,q⟩;have e:b=s1.heap.objs.size:=by simpa using hb
 subst e;exact I1.fpOk (ui _) (I1.hok.fresh (ui _))
theorem Vf{s:Shared}{R:It->Hp->Prop}{E:VSP}{lo hi:Int}{t u v:Tok}{tk:Nat}(I:Inv X pins σ H s)(h1:-(2 ^ 62)<=lo)(h2:lo < 2 ^ 62)(h3:-(2 ^ 62)<=hi)(h4:hi < 2 ^ 62)
  (q:R (Itr lo (hi-lo).toNat) H):wpAny (model X.prog X.w) X.A (pyIter (.ref s.heap.objs.size)) (PIE X pins σ tg R) E { s with heap:=s.heap.push { cls:=.type "range",data:=.fields #[.int lo t,.int hi u,.int 1 v] },toks:=tk }:=by
 refine wpAny_pyIter_range (IsRange.new ..) (small_one h1 h2 h3 h4) ?_;have I1:Inv X pins σ H { s with heap:=s.heap.push { cls:=.type "range",data:=.fields #[.int lo t,.int hi u,.int 1 v] },toks:=tk }:=I.kept fun b o e=>ub _ e;refine⟨(s.heap.push { cls:=.type "range",data:=.fields #[.int lo t,.int hi u,.int 1 v] }).objs.size,[(s.heap.push { cls:=.type "range",data:=.fields #[.int lo t,.int hi u,.int 1 v] }).objs.size],_,_,H,rfl,
  I1.kept (t':=tk) fun b o e=>ub _ e,Yv _ lo (hi-lo).toNat,?_,fun b hb=>?_,q⟩
 ·have e1:lo+((0:Nat):Int)*1=lo:=by simp
  have e2:(((hi-lo).toNat:Nat):Int)-((0:Nat):Int)=Builtin.Range.rangeSize lo hi 1:=by rw[rangeSize_one];split<;>lia
  show IsRangeIter _ _ (lo+((0:Nat):Int)*1) ((((hi-lo).toNat:Nat):Int)-((0:Nat):Int)) 1;rw[e1,e2];exact uo _ rfl
 ·have e:b=(s.heap.push { cls:=.type "range",data:=.fields #[.int lo t,.int hi u,.int 1 v] }).objs.size:=by simpa using hb
  subst e;exact I1.fpOk (ui _) (I1.hok.fresh (ui _))
def zbk(ta:TA):TI:=fun σ H R=>ta σ H fun vs H1=>∃j:Int,vs=[.int j]/\-(2 ^ 62)<=j/\j < 2 ^ 62/\R (Itr 0 j.toNat) H1
theorem We{a:Expr}{ta:TA}(hg:Gl X "range")(hm:X.mg "range"=none)(ha:PA X [a] ta)(hs:starEach [a] X.env=[(false,eval a X.env)]:=by rfl):PI X tg (.Call (.Name "range" p) [a] [] pos) (zbk ta):=by
 intro pins s σ H R I h;refine Call_ (xy I hg hm boot_range (Uv (thn (ha pos pins s σ H _ I h) fun us s1 ⟨vs,H1,I1,r1,q1⟩=>?_) hs rfl));obtain⟨j,e,q1,q2,q⟩:=q1;subst e;cases r1 with
 |cons r rr =>
  cases rr;obtain⟨t,rfl⟩:=r;exact call_range_1 (Vf I1 (by lia) (by lia) q1 q2 (by simpa using q))
def tFor(wi:TI)(g:TG)(tb:TS):TS:=fun D σ H=>wi σ H fun J H1=>∃W:Nat->Nat->St->Hp->Prop,(∃m,W 0 m σ H1)/\∀i m σ H,W i m σ H ->
 (J.stop i H/\D.nx σ H)\/(J.go i H/\∃N:St->Hp->Prop,(∀σ' H',N σ' H'->∃m',m' < m/\W (i+1) m' σ' H')/\∀x H',J.yld i H x H'->g x σ H' fun σ2 H2=>tb { D with nx:=N,ct:=N,bk:=D.nx } σ2 H2)
def vv(fp:List Addr)(h:Heap):List (Addr×Obj):=fp.filterMap fun b=>(h.get? b).map fun o=>(b,o)
theorem x5{o:Obj}(hb:b∈fp)(e:h.get? b=some o):(b,o)∈vv fp h:=List.mem_filterMap.mpr ⟨b,hb,by rw[e];rfl⟩
theorem Wf{p:Addr×Obj}(hp:p∈vv fp h):p.1∈fp/\h.get? p.1=some p.2:=by
 obtain⟨b,hb,e⟩:=List.mem_filterMap.mp hp;cases q:h.get? b with
 |none=>rw[q]at e;cases e
 |some o =>
  rw[q]at e;have e':(b,o)=p:=uQ.inj e;subst e';exact⟨hb,q⟩
theorem Inv.pinned{s:Shared}(I:Inv X pins σ H s)(hf:∀b∈fp,FpOk X pins H b)(ho:∀b∈fp,∃o,s.heap.get? b=some o/\∀v,o.data≠.cell v):Inv X (pins++vv fp s.heap) σ H s :=
 I.pins_of fun p hp=>(u0.mp hp).elim (fun z=>I.pin p (Ua _ z)) fun z=>by
  obtain⟨hb,e⟩:=Wf z;obtain⟨f0,f1,f2,_⟩:=hf p.1 hb;obtain⟨o,e',d⟩:=ho p.1 hb;rw[e]at e';cases e';exact⟨e,f0,f1,f2,d⟩
theorem Inv.unpinned{pl:List (Addr×Obj)}{s:Shared}(I:Inv X (pins++pl) σ H s):Inv X pins σ H s:=I.pins_of fun p hp=>I.pin p (Ua _ (U2 _ hp))
theorem zb2{wi:TI}{g:TG}(hp:PassesOwn (model X.prog X.w) X.A X.env X.xe)(hc:X.calm=true)(hi:PI X tg iter wi)(hg:PG X tg g)(hb:PSs X body tb)
  (hs:∀x,foldedSetIterable iter X.env x=pure x:=by intro _;rfl):PS X (.For tg iter body [] pos) (tFor wi g tb):=by
 intro pins s σ H D I h;refine wpAny_For (thn (hi pins s σ H _ I h) fun v s1 h1=>thn h1 fun itv s2 h2=>?_) hs;obtain⟨it,fp,tn,J,H2,e,I2,T,st2,f2,W,⟨m0,w0⟩,turn⟩:=h2;subst e;have stat:∀{H':Hp},(∀b∈fp,H' b=none)->∀b∈fp,FpOk X pins H' b:=fun hn b hb=>⟨hn b hb,(f2 b hb).2⟩;refine codeAny_forLoop_any (fun n s'=>∃i σ' H',Inv X pins σ' H' s'/\tn i s'.heap/\(∀b∈fp,H' b=none)/\W i n σ' H') ?_ m0 ⟨0,σ,H2,I2,st2,fun b hb=>(f2 b hb).1,w0⟩;rintro n s3 ⟨i,σ3,H3,I3,st3,fr3,w3⟩;rcases turn i n σ3 H3 w3 with⟨stop,qn⟩|⟨go,N,hN,step⟩
 ·refine wpAny_passesOwn hp (thn (T.done X rfl rfl rfl hc i pins s3 σ3 H3 X.xe I3 (stat fr3) st3 stop) fun r s4 hq_=>?_)
  obtain⟨hr,I4⟩:=hq_;subst hr;exact wpAny_execs_nil ⟨σ3,H3,I4,qn⟩
 ·refine wpAny_passesOwn hp (thn (T.item X rfl rfl rfl hc i pins s3 σ3 H3 X.xe I3 (stat fr3) st3 go) fun r s4 hq_=>?_)
  obtain⟨u,hr,h4⟩:=hq_;subst hr;refine wpAny_passesOwn hp (thn h4 fun _ s5 hq_=>?_);obtain⟨x,H5,I5,r5,y5,st5,fr5⟩:=hq_;have I5':=I5.pinned (stat fr5) (T.obj _ _ st5);refine wpAny_passesOwn hp (thn (hg _ s5 σ3 H5 x u _ I5' r5 (step x H5 y5)) fun _ s6 hq_=>?_);obtain⟨σ6,H6,I6,q6⟩:=hq_;refine wpAny_passesOwn hp (thn (hb _ s6 σ6 H6 _ I6 q6) fun f s7 q7=>?_);have again:∀{σ7:St}{H7:Hp},Inv X (pins++vv fp s5.heap) σ7 H7 s7->N σ7 H7->∃m,m < n/\∃i σ' H',Inv X pins σ' H' s7/\tn i s7.heap/\(∀b∈fp,H' b=none)/\W i m σ' H':=fun{σ7 H7} I7 n7=>by
   obtain⟨m',hm,w7⟩:=hN σ7 H7 n7;refine⟨m',hm,i+1,σ7,H7,I7.unpinned,T.keep _ _ _ st5 fun b hb o e=>(I7.pin (b,o) (Ua _ (Ua _ (x5 hb e)))).1,fun b hb=>?_,w7⟩;obtain⟨o,e,d⟩:=T.obj _ _ st5 b hb;exact(I7.pin (b,o) (Ua _ (Ua _ (x5 hb e)))).2.1
  cases f with
  |next=>obtain⟨σ7,H7,I7,n7⟩:=q7;exact again I7 n7
  |cont=>obtain⟨σ7,H7,I7,n7⟩:=q7;exact again I7 n7
  |brk=>obtain⟨σ7,H7,I7,q7⟩:=q7;exact⟨σ7,H7,I7.unpinned,q7⟩
  |ret v=>obtain⟨x7,σ7,H7,I7,r7,q7⟩:=q7;exact⟨x7,σ7,H7,I7.unpinned,r7,q7⟩
theorem vw{K:ua}{g:TG}(Pv:Nat->St->Hp->Prop)(h0:Pv 0 σ H)(hl:∀i σ H,i<=xs.length->Pv i σ H->SqL K H a xs)
  (hs:∀i x σ H,xs[i]?=some x->Pv i σ H->g x σ H fun σ2 H2=>tb { D with nx:=Pv (i+1),ct:=Pv (i+1),bk:=D.nx } σ2 H2) (hd:∀σ H,Pv xs.length σ H->D.nx σ H) :
  ∃W:Nat->Nat->St->Hp->Prop,(∃m,W 0 m σ H)/\∀i m σ H,W i m σ H ->
   ((Itl K a).stop i H/\D.nx σ H)\/((Itl K a).go i H/\∃N:St->Hp->Prop,(∀σ' H',N σ' H'->∃m',m' < m/\W (i+1) m' σ' H')/\∀x H',(Itl K a).yld i H x H'->g x σ H' fun σ2 H2=>tb { D with nx:=N,ct:=N,bk:=D.nx } σ2 H2):=by
 refine⟨fun i m σ H=>m=xs.length-i/\i<=xs.length/\Pv i σ H,⟨xs.length,by simp,uU _,h0⟩,?_⟩;rintro i m σ H ⟨rfl,hi,p⟩;have q:=hl i σ H hi p;by_cases hlt:i < xs.length
 ·refine .inr ⟨⟨xs,xs[i],q,by simp[hlt]⟩,Pv (i+1),fun σ' H' p'=>⟨xs.length-(i+1),by lia,rfl,hlt,p'⟩,fun x H' y=>?_⟩
  obtain⟨e,y⟩:=y;subst e;exact hs i x σ _ (y xs q) p
 ·have e:i=xs.length:=by lia
  subst e;exact .inl ⟨⟨xs,q,ui _⟩,hd σ H p⟩
theorem ve{K:ua}{g:TG}(Pv:Nat->St->Hp->Prop)(h0:Pv 0 σ H)(hl:∀i σ H,i<=xs.length->Pv i σ H->SqT K H a xs)
  (hs:∀i x σ H,xs[i]?=some x->Pv i σ H->g x σ H fun σ2 H2=>tb { D with nx:=Pv (i+1),ct:=Pv (i+1),bk:=D.nx } σ2 H2) (hd:∀σ H,Pv xs.length σ H->D.nx σ H) :
  ∃W:Nat->Nat->St->Hp->Prop,(∃m,W 0 m σ H)/\∀i m σ H,W i m σ H ->
   ((Itt K a).stop i H/\D.nx σ H)\/((Itt K a).go i H/\∃N:St->Hp->Prop,(∀σ' H',N σ' H'->∃m',m' < m/\W (i+1) m' σ' H')/\∀x H',(Itt K a).yld i H x H'->g x σ H' fun σ2 H2=>tb { D with nx:=N,ct:=N,bk:=D.nx } σ2 H2):=by
 refine⟨fun i m σ H=>m=xs.length-i/\i<=xs.length/\Pv i σ H,⟨xs.length,by simp,uU _,h0⟩,?_⟩;rintro i m σ H ⟨rfl,hi,p⟩;have q:=hl i σ H hi p;by_cases hlt:i < xs.length
 ·refine .inr ⟨⟨xs,xs[i],q,by simp[hlt]⟩,Pv (i+1),fun σ' H' p'=>⟨xs.length-(i+1),by lia,rfl,hlt,p'⟩,fun x H' y=>?_⟩
  obtain⟨e,y⟩:=y;subst e;exact hs i x σ _ (y xs q) p
 ·have e:i=xs.length:=by lia
  subst e;exact .inl ⟨⟨xs,q,ui _⟩,hd σ H p⟩
theorem jm{lo:Int}{g:TG}(Pv:Nat->St->Hp->Prop)(h0:Pv 0 σ H)
  (hs:∀i σ H,i < n->Pv i σ H->g (.int (lo+i)) σ H fun σ2 H2=>tb { D with nx:=Pv (i+1),ct:=Pv (i+1),bk:=D.nx } σ2 H2) (hd:∀σ H,Pv n σ H->D.nx σ H) :
  ∃W:Nat->Nat->St->Hp->Prop,(∃m,W 0 m σ H)/\∀i m σ H,W i m σ H ->
   ((Itr lo n).stop i H/\D.nx σ H)\/((Itr lo n).go i H/\∃N:St->Hp->Prop,(∀σ' H',N σ' H'->∃m',m' < m/\W (i+1) m' σ' H')/\∀x H',(Itr lo n).yld i H x H'->g x σ H' fun σ2 H2=>tb { D with nx:=N,ct:=N,bk:=D.nx } σ2 H2):=by
 refine⟨fun i m σ H=>m=n-i/\i<=n/\Pv i σ H,⟨n,by simp,uU _,h0⟩,?_⟩;rintro i m σ H ⟨rfl,hi,p⟩;by_cases hlt:i < n
 ·refine .inr ⟨hlt,Pv (i+1),fun σ' H' p'=>⟨n-(i+1),by lia,rfl,hlt,p'⟩,fun x H' y=>?_⟩
  obtain⟨e,y⟩:=y;subst e y;exact hs i σ _ hlt p
 ·have e:i=n:=by lia
  subst e;exact .inl ⟨ui _,hd σ H p⟩
abbrev R2:=V->V->Hp->VK->Prop
def OpR(X:Cx)(f:Value->Value->Sem Value)(r:R2):Prop :=
 ∀(pins:List (Addr×Obj))(s:Shared)(σ:St)(H:Hp)(x y:V)(v u:Value)(Q:VK),Inv X pins σ H s->RelV x v->RelV y u->r x y H Q ->
  wpAny (model X.prog X.w) X.A (f v u) (EP X pins σ Q) X.xe s
def UnR(X:Cx)(f:Value->Sem Value)(r:V->Hp->VK->Prop):Prop :=
 ∀(pins:List (Addr×Obj))(s:Shared)(σ:St)(H:Hp)(x:V)(v:Value)(Q:VK),Inv X pins σ H s->RelV x v->r x H Q ->
  wpAny (model X.prog X.w) X.A (f v) (EP X pins σ Q) X.xe s
def yO(X:Cx)(f:Value)(r:List V->Hp->VK->Prop):Prop :=
 ∀(pins:List (Addr×Obj))(s:Shared)(σ:St)(H:Hp)(xs:List V)(us:List Value)(Q:VK),Inv X pins σ H s->Vals xs us->r xs H Q ->
  wpAny (model X.prog X.w) X.A (call f us) (EP X pins σ Q) X.xe s
def tOp(r:R2)(ta tb:TE):TE:=fun σ H Q=>ta σ H fun x H1=>tb σ H1 fun y H2=>r x y H2 Q
def tUn(r:V->Hp->VK->Prop)(ta:TE):TE:=fun σ H Q=>ta σ H fun x H1=>r x H1 Q
def rI(C:Int->Int->Prop)(g:Int->Int->V):R2:=fun x y H Q=>∃i j,x=.int i/\y=.int j/\C i j/\Q (g i j) H
def rI0(g:Int->Int->V):R2:=fun x y H Q=>∃i j,x=.int i/\y=.int j/\Q (g i j) H
def rU(g:Int->V):V->Hp->VK->Prop:=fun x H Q=>∃i,x=.int i/\Q (g i) H
section
variable{a b:Expr}{tb tc:TE}
theorem binT(ha:PE X a ta)(hb:PE X b tb){s:Shared}{R:V->V->Hp->Prop}(I:Inv X pins σ H s)
  (h:ta σ H fun x H1=>tb σ H1 fun y H2=>R x y H2) {Q:VSP} {f:Value->Value->Sem Value}
  (hf:∀v u s2 x y H2,Inv X pins σ H2 s2->RelV x v->RelV y u->R x y H2->wpAny (model X.prog X.w) X.A (f v u) Q X.xe s2) :
  wpAny (model X.prog X.w) X.A (eval a X.env) (fun v s₁=>wpAny (model X.prog X.w) X.A (eval b X.env) (fun u s₂=>wpAny (model X.prog X.w) X.A (f v u) Q X.xe s₂) X.xe s₁) X.xe s:=by
 refine thn (ha pins s σ H _ I h) fun v s1 hq_=>?_;obtain⟨x,H1,I1,r1,q1⟩:=hq_;refine thn (hb pins s1 σ H1 _ I1 q1) fun u s2 hq_=>?_;obtain⟨y,H2,I2,r2,q2⟩:=hq_;exact hf v u s2 x y H2 I2 r1 r2 q2
theorem zde{op:Operator}{r:R2}(ho:OpR X (binaryOp op) r)(ha:PE X a ta)(hb:PE X b tb):PE X (.BinOp a op b pos) (tOp r ta tb):=by
 intro pins s σ H Q I h;exact wpAny_BinOp (binT ha hb I h fun v u s2 x y H2 I2 rx ry q=>ho pins s2 σ H2 x y v u Q I2 rx ry q)
theorem zdf{op:UnaryOp}{r:V->Hp->VK->Prop}(ho:UnR X (unaryOp op) r)(ha:PE X a ta):PE X (.UnaryOp op a pos) (tUn r ta):=by
 intro pins s σ H Q I h;exact UnaryOp_ (thn (ha pins s σ H _ I h) fun v s1 ⟨x,H1,I1,r1,q1⟩=>ho pins s1 σ H1 x v Q I1 r1 q1)
theorem opI{f:Value->Value->Sem Value}{C:Int->Int->Prop}
  (rule:∀(i j:Int)(t u:Tok)(s:Shared)(Q:VSP)(E:VSP),C i j->Q (.int (g i j) s.toks) { s with toks:=s.toks+1 }->wpAny (model X.prog X.w) X.A (f (.int i t) (.int j u)) Q E s) :
  OpR X f (rI C fun i j=>.int (g i j)):=by
 intro pins s σ H x y v u Q I rx ry h;obtain⟨i,j,rfl,rfl,hc,q⟩:=h;obtain⟨t,rfl⟩:=rx;obtain⟨t',rfl⟩:=ry;exact rule i j t t' s _ _ hc ⟨.int (g i j),H,I.tok _,⟨_,rfl⟩,q⟩
theorem opI0{f:Value->Value->Sem Value}
  (rule:∀(i j:Int)(t u:Tok)(s:Shared)(Q:VSP)(E:VSP),Q (.int (g i j) s.toks) { s with toks:=s.toks+1 }->wpAny (model X.prog X.w) X.A (f (.int i t) (.int j u)) Q E s) :
  OpR X f (rI0 fun i j=>.int (g i j)):=by
 intro pins s σ H x y v u Q I rx ry h;obtain⟨i,j,rfl,rfl,q⟩:=h;obtain⟨t,rfl⟩:=rx;obtain⟨t',rfl⟩:=ry;exact rule i j t t' s _ _ ⟨.int (g i j),H,I.tok _,⟨_,rfl⟩,q⟩
theorem opB0{f:Value->Value->Sem Value}{g:Int->Int->Bool}
  (rule:∀(i j:Int)(t u:Tok)(s:Shared)(Q:VSP)(E:VSP),Q (.bool (g i j)) s->wpAny (model X.prog X.w) X.A (f (.int i t) (.int j u)) Q E s) :
  OpR X f (rI0 fun i j=>.bl (g i j)):=by
 intro pins s σ H x y v u Q I rx ry h;obtain⟨i,j,rfl,rfl,q⟩:=h;obtain⟨t,rfl⟩:=rx;obtain⟨t',rfl⟩:=ry;exact rule i j t t' s _ _ ⟨.bl (g i j),H,I,rfl,q⟩
def CDiv(i j:Int):Prop:=0 < j/\j < 1073741824
def CPow(i j:Int):Prop:=0<=j/\j<=1000000/\i.natAbs < 2 ^ 64
def CMul(i j:Int):Prop:=(-(2 ^ 64) < i/\i < 2 ^ 64)\/(-(2 ^ 64) < j/\j < 2 ^ 64)
theorem CMul.ok{i j:Int}(h:CMul i j):IntMulOk i j:=by
 rcases h with⟨h1,h2⟩|⟨h1,h2⟩
 ·exact .of_left (intBits_le_64 h1 h2)
 ·exact .of_right (intBits_le_64 h1 h2)
theorem zb3:OpR X (binaryOp .Add) (rI0 fun i j=>.int (i+j)):=opI0 fun _ _ _ _ _ _ _ q=>add_int q
theorem zb4:OpR X (binaryOp .Sub) (rI0 fun i j=>.int (i-j)):=opI0 fun _ _ _ _ _ _ _ q=>sub_int q
theorem zb5:OpR X (binaryOp .Mult) (rI CMul fun i j=>.int (i*j)):=opI fun _ _ _ _ _ _ _ hc q=>mul_int q hc.ok
theorem Qz:OpR X (binaryOp .FloorDiv) (rI CDiv fun i j=>.int (i / j)):=opI fun i j _ _ _ _ _ hc q=>by
 have h1:(0:Int) < j:=hc.1;have h2:j < 1073741824:=hc.2;exact floordiv_int (by lia) (by rw[Int.fdiv_eq_ediv_of_nonneg i (by lia)];exact q) (.inl (PyProof.noPylong_small (by lia)))
theorem zb6:OpR X (binaryOp .Mod) (rI (fun _ j=>0 < j) fun i j=>.int (i % j)):=opI fun i j _ _ _ _ _ hc q=>by
 have h1:(0:Int) < j:=hc;exact mod_int' (by lia) (by rw[Int.fmod_eq_emod_of_nonneg i (by lia)];exact q)
theorem QA:OpR X (binaryOp .Mod) (rI (fun _ j=>j≠0) fun i j=>.int (i.fmod j)):=opI fun _ _ _ _ _ _ _ hc q=>mod_int' hc q
theorem zb7:OpR X (binaryOp .Pow) (rI CPow fun i j=>.int (i ^ j.toNat)):=opI fun _ _ _ _ _ _ _ hc q=>pow_int_small hc.1 hc.2.1 hc.2.2 q
theorem unI{f:Value->Sem Value}{g:Int->Int}
  (rule:∀(i:Int)(t:Tok)(s:Shared)(Q:VSP)(E:VSP),Q (.int (g i) s.toks) { s with toks:=s.toks+1 }->wpAny (model X.prog X.w) X.A (f (.int i t)) Q E s) :
  UnR X f (rU fun i=>.int (g i)):=by
 intro pins s σ H x v Q I rx h;obtain⟨i,rfl,q⟩:=h;obtain⟨t,rfl⟩:=rx;exact rule i t s _ _ ⟨.int (g i),H,I.tok _,⟨_,rfl⟩,q⟩
theorem zb8:UnR X (unaryOp .USub) (rU fun i=>.int (-i)):=unI fun _ _ _ _ _ q=>neg_int q
end
def scal:V->V->Bool
 |.non,.non=>true|.non,.int _=>true|.int _,.non=>true|.non,.bl _=>true|.bl _,.non=>true|.non,.str _=>true|.str _,.non=>true
 |.int _,.int _=>true|.bl _,.bl _=>true|.str _,.str _=>true|.byt _,.byt _=>true
 |.int _,.str _=>true|.str _,.int _=>true|.bl _,.str _=>true|.str _,.bl _=>true
 |_,_=>false
def rEq:R2:=fun x y H Q=>scal x y=true/\Q (.bl (decide (x=y))) H
def rNe:R2:=fun x y H Q=>scal x y=true/\Q (.bl (!decide (x=y))) H
theorem Xh{i j:Int}:decide (V.int i=V.int j)=(i == j):=by
 rw[UY];simp
theorem Vg{i j:Bool}:decide (V.bl i=V.bl j)=(i == j):=by
 rw[UY];simp
theorem Xi{i j:Str}:decide (V.str i=V.str j)=(i == j):=by
 rw[UY];simp
theorem Xj{i j:Array UInt8}:decide (V.byt i=V.byt j)=(i.toList == j.toList):=by
 rw[UY];cases i;cases j;simp
section
variable{a b:Expr}{tb tc:TE}
theorem zY{s:Shared}{Q:VK}{k k':Bool}(I:Inv X pins σ H s)(q:Q (.bl k) H)(e:k=k'):EP X pins σ Q (.bool k') s:=by
 subst e;exact⟨.bl k,H,I,rfl,q⟩
theorem zdg:OpR X (compareOp .Eq) rEq:=by
 intro pins s σ H x y v u Q I rx ry h;obtain⟨hs,q⟩:=h;cases x with
 |non =>
  cases rx;cases y with
  |non=>cases ry;exact PySem.EqNone.eq_none_none (zY I q (by simp))
  |bl j=>cases ry;exact PySem.EqNone.eq_none_bool (zY I q (by simp))
  |int j=>obtain⟨t',rfl⟩:=ry;exact PySem.EqNone.eq_none_int (zY I q (by simp))
  |str j=>obtain⟨t',rfl⟩:=ry;exact PySem.EqNone.eq_none_str (zY I q (by simp))
  |_=>exact absurd (show false=true from hs) uB
 |bl i =>
  cases rx;cases y with
  |non=>cases ry;exact PySem.EqNone.eq_bool_none (zY I q (by simp))
  |bl j=>cases ry;exact eq_bool (zY I q Vg)
  |str j=>obtain⟨t',rfl⟩:=ry;exact PySem.EqMixed.eq_bool_str (zY I q (by simp))
  |_=>exact absurd (show false=true from hs) uB
 |int i =>
  obtain⟨t,rfl⟩:=rx;cases y with
  |non=>cases ry;exact PySem.EqNone.eq_int_none (zY I q (by simp))
  |int j=>obtain⟨t',rfl⟩:=ry;exact eq_int (zY I q Xh)
  |str j=>obtain⟨t',rfl⟩:=ry;exact PySem.EqMixed.eq_int_str (zY I q (by simp))
  |_=>exact absurd (show false=true from hs) uB
 |str i =>
  obtain⟨t,rfl⟩:=rx;cases y with
  |non=>cases ry;exact PySem.EqNone.eq_str_none (zY I q (by simp))
  |bl j=>cases ry;exact PySem.EqMixed.eq_str_bool (zY I q (by simp))
  |int j=>obtain⟨t',rfl⟩:=ry;exact PySem.EqMixed.eq_str_int (zY I q (by simp))
  |str j=>obtain⟨t',rfl⟩:=ry;exact eq_str (zY I q Xi)
  |_=>exact absurd (show false=true from hs) uB
 |byt i =>
  obtain⟨t,rfl⟩:=rx;cases y with
  |byt j=>obtain⟨t',rfl⟩:=ry;exact PySem.W.eq_bytes (zY I q Xj)
  |_=>exact absurd (show false=true from hs) uB
 |_=>cases y<;>exact absurd (show false=true from hs) uB
theorem zdh:OpR X (compareOp .NotEq) rNe:=by
 intro pins s σ H x y v u Q I rx ry h;obtain⟨hs,q⟩:=h;cases x with
 |non =>
  cases rx;cases y with
  |non=>cases ry;exact PySem.EqNone.ne_none_none (zY I q (by simp))
  |bl j=>cases ry;exact PySem.EqNone.ne_none_bool (zY I q (by simp))
  |int j=>obtain⟨t',rfl⟩:=ry;exact PySem.EqNone.ne_none_int (zY I q (by simp))
  |str j=>obtain⟨t',rfl⟩:=ry;exact PySem.EqNone.ne_none_str (zY I q (by simp))
  |_=>exact absurd (show false=true from hs) uB
 |bl i =>
  cases rx;cases y with
  |non=>cases ry;exact PySem.EqNone.ne_bool_none (zY I q (by simp))
  |bl j=>cases ry;exact ne_bool (zY I q (congrArg not Vg))
  |str j=>obtain⟨t',rfl⟩:=ry;exact PySem.EqMixed.ne_bool_str (zY I q (by simp))
  |_=>exact absurd (show false=true from hs) uB
 |int i =>
  obtain⟨t,rfl⟩:=rx;cases y with
  |non=>cases ry;exact PySem.EqNone.ne_int_none (zY I q (by simp))
  |int j=>obtain⟨t',rfl⟩:=ry;exact ne_int (zY I q (congrArg not Xh))
  |str j=>obtain⟨t',rfl⟩:=ry;exact PySem.EqMixed.ne_int_str (zY I q (by simp))
  |_=>exact absurd (show false=true from hs) uB
 |str i =>
  obtain⟨t,rfl⟩:=rx;cases y with
  |non=>cases ry;exact PySem.EqNone.ne_str_none (zY I q (by simp))
  |bl j=>cases ry;exact PySem.EqMixed.ne_str_bool (zY I q (by simp))
  |int j=>obtain⟨t',rfl⟩:=ry;exact PySem.EqMixed.ne_str_int (zY I q (by simp))
  |str j=>obtain⟨t',rfl⟩:=ry;exact ne_str (zY I q (congrArg not Xi))
  |_=>exact absurd (show false=true from hs) uB
 |byt i =>
  obtain⟨t,rfl⟩:=rx;cases y with
  |byt j=>obtain⟨t',rfl⟩:=ry;exact PySem.W.ne_bytes (zY I q (congrArg not Xj))
  |_=>exact absurd (show false=true from hs) uB
 |_=>cases y<;>exact absurd (show false=true from hs) uB
theorem zdi:OpR X (compareOp .Lt) (rI0 fun i j=>.bl (decide (i < j))):=opB0 fun _ _ _ _ _ _ _ q=>lt_int q
theorem zdj:OpR X (compareOp .Gt) (rI0 fun i j=>.bl (decide (j < i))):=opB0 fun _ _ _ _ _ _ _ q=>gt_int q
theorem zdk:OpR X (compareOp .GtE) (rI0 fun i j=>.bl (decide (j<=i))):=opB0 fun _ _ _ _ _ _ _ q=>ge_int q
theorem zy(b:Expr)(h:op≠.In:=by decide)(h2:op≠.NotIn:=by decide):behindInMarks op b=false:=by
 have e1:(op == CmpOp.In)=false:=by cases op<;>first|rfl|exact absurd rfl h
 have e2:(op == CmpOp.NotIn)=false:=by cases op<;>first|rfl|exact absurd rfl h2
 cases b<;>simp[behindInMarks,e1,e2]
theorem QB{r:R2}(ho:OpR X (compareOp op) r)(ha:PE X a ta)(hb:PE X b tb)(hm:behindInMarks op b=false):PE X (.Compare a [op] [b] pos) (tOp r ta tb):=by
 intro pins s σ H Q I h;exact wpAny_Compare1 (binT ha hb I h fun v u s2 x y H2 I2 rx ry q=>ho pins s2 σ H2 x y v u Q I2 rx ry q) hm
def wn(t:TE):TT:=fun σ H Q=>t σ H fun x H'=>∃k,x=.bl k/\Q k H'
theorem QC{r:R2}(ho:OpR X (compareOp op) r)(ha:PE X a ta)(hb:PE X b tb)(hm:behindInMarks op b=false):PT X (.Compare a [op] [b] pos) (wn (tOp r ta tb)):=by
 intro pins s σ H Q I h;refine wpAny_isTrue_Compare1 (thn (ha pins s σ H _ I h) fun v s1 ⟨x,H1,I1,r1,q1⟩=>thn (hb pins s1 σ H1 _ I1 q1) fun u s2 ⟨y,H2,I2,r2,q2⟩ =>
  thn (ho pins s2 σ H2 x y v u _ I2 r1 r2 q2) fun c s3 ⟨z,H3,I3,r3,k,e,q3⟩=>?_) hm
 subst e;cases r3;exact wpAny_truthy_bool ⟨H3,I3,q3⟩
def Vh(r r':R2)(ta tb tc:TE):TE:=fun σ H Q=>ta σ H fun x H1=>tb σ H1 fun y H2=>r x y H2 fun z H3=>∃k,z=.bl k /\
 (if k=true then tc σ H3 fun w' H4=>r' y w' H4 Q else Q (.bl false) H3)
theorem Vi{op':CmpOp}{r r':R2}(ho:OpR X (compareOp op) r)(ho':OpR X (compareOp op') r')(ha:PE X a ta)(hb:PE X b tb)(hc:PE X c tc)
  (hm:lastMarks [op,op'] [b,c]=false:=by with_unfolding_all rfl):PE X (.Compare a [op,op'] [b,c] pos) (Vh r r' ta tb tc):=by
 intro pins s σ H Q I h;refine Compare_chain (thn (ha pins s σ H _ I h) fun v s1 ⟨x,H1,I1,r1,q1⟩=>chain_link (thn (hb pins s1 σ H1 _ I1 q1) fun u s2 ⟨y,H2,I2,r2,q2⟩ =>
  thn (ho pins s2 σ H2 x y v u _ I2 r1 r2 q2) fun d s3 ⟨z,H3,I3,r3,k,e,q3⟩=>?_)) hm
 subst e;cases r3;refine wpAny_truthy_bool ?_;cases k with
 |false=>exact ite_ff ⟨.bl false,H3,I3,rfl,q3⟩
 |true=>exact ite_tt (chain_last (thn (hc pins s3 σ H3 _ I3 q3) fun w' s4 ⟨z',H4,I4,r4,q4⟩=>ho' pins s4 σ H4 y z' u w' Q I4 r2 r4 q4))
theorem jU:(sizeLine:Nat) < 2 ^ 63:=by rw[sizeLine_eq];decide
theorem Yw:OpR X (binaryOp .Add) (fun x y H Q=>∃i j,x=.str i/\y=.str j/\i.length+j.length<=sizeLine/\Q (.str (i++j)) H):=by
 intro pins s σ H x y v u Q I rx ry h;obtain⟨i,j,rfl,rfl,hz,q⟩:=h;obtain⟨t,rfl⟩:=rx;obtain⟨t',rfl⟩:=ry;exact add_str (fun t' tk=>⟨.str (i++j),H,I.tok _,⟨_,rfl⟩,q⟩) hz
theorem xj{x:V}(r:Vals [x] us):∃u,us=[u]/\RelV x u:=by
 cases r with
 |cons r1 r2=>cases r2;exact⟨_,rfl,r1⟩
theorem Xk{x y:V}(r:Vals [x,y] us):∃u w',us=[u,w']/\RelV x u/\RelV y w':=by
 cases r with
 |cons r1 r2 =>
  cases r2 with
  |cons r3 r4=>cases r4;exact⟨_,_,rfl,r1,r3⟩
theorem Vj:yO X (.builtin "abs") (fun xs H Q=>∃i,xs=[.int i]/\Q (.int (if i < 0 then -i else i)) H):=by
 intro pins s σ H xs us Q I r h;obtain⟨i,rfl,q⟩:=h;obtain⟨u,rfl,t,rfl⟩:=xj r;exact call_abs_int fun u tk=>⟨.int (if i < 0 then -i else i),H,I.tok _,⟨_,rfl⟩,q⟩
theorem Wg:yO X (.type "int") (fun xs H Q=>(∃i,xs=[.int i]/\Q (.int i) H)\/∃k,xs=[.bl k]/\Q (.int (if k then 1 else 0)) H):=by
 intro pins s σ H xs us Q I r h;rcases h with⟨i,rfl,q⟩|⟨k,rfl,q⟩
 ·obtain⟨u,rfl,t,rfl⟩:=xj r
  exact call_int_int ⟨.int i,H,I,⟨_,rfl⟩,q⟩
 ·obtain⟨u,rfl,r1⟩:=xj r
  cases r1;exact call_int_bool ⟨.int (if k then 1 else 0),H,I.tok _,⟨_,rfl⟩,q⟩
end
structure ObjM(h:Heap)(x dx C:Addr)(mA:Str->Option Value):Prop where
 obj:h.get? x=some (UQ C dx)
 ns:h.Ns1 dx mA
 ne:dx≠x
theorem jn(n:h.Ns1 dx mA):∃od,h.get? dx=some od/\∀name,PySem.W.lookIn name od=some (mA name):=by
 obtain⟨o,es,ep,ho,hd,hk,_,hm⟩:=n;refine⟨o,ho,fun name=>?_⟩;have e:=hm name;unfold nsFind findBy at e;rw[<- Array.find?_toList]at e;unfold PySem.W.lookIn;rw[hd];dsimp only
 split
 ·rename_i y q
  rw[q]at e;exact congrArg some e
 ·rename_i q
  rw[q]at e;have a:es.toList.any (·.refKey)=false:=by
   rw[List.any_eq_false];intro y hy;obtain⟨z,t,hkey⟩:=hk y (Array.mem_toList_iff.mp hy);simp[DictEntry.refKey,hkey]
  have a':¬ es.toList.any (·.refKey)=true:=by rw[a];exact uB
  rw[if_neg a'];exact congrArg some e
theorem ObjM.look{x:Addr}(I:ObjM h x dx C mA):∃od,PySem.W.InstAt h x (UQ C dx) C (some od)/\∀name,PySem.W.lookIn name od=some (mA name) :=
 let ⟨od,ho,hl⟩:=jn I.ns
 ⟨od,⟨I.obj,rfl,rfl,ho⟩,hl⟩
section
variable{E:VSP}{s:Shared}{K:ua}{x:Addr}
theorem QD{expr:Bool}{Q:VSP}(X:K.In s.heap)(I:ObjM s.heap x dx C mA)(hg:tH K C name=true)(hh:UG K C=true)
  (ha:uj K (.ref C) name=some none) (hv:mA name=some v) (hv':PySem.W.handedIn v=true) (h:Q v { s with toks:=s.toks+1 }) :
  wpAny (model prog w) A (getAttr (.ref x) name expr) Q E s:=by
 obtain⟨od,J,hl⟩:=I.look;exact PySem.W.get_value X J (PySem.W.plainGet_of hg).1 (PySem.W.findObj_own hh ha rfl (by rw[hl,hv])) hv' h
theorem Vk{pl:Sem Bool}{Q:Value×List Value->Shared->Prop}(X:K.In s.heap)(I:ObjM s.heap x dx C mA)(hg:tH K C name=true)
  (hf:uj K (.ref C) name=some (some (.ref f))) (ht:U3 K (.ref f)=true) (hv:mA name=none) (h:Q (.ref f,[.ref x]) s) :
  wpAny (model prog w) A (getMethod (.ref x) name pl) Q E s:=by
 obtain⟨od,J,hl⟩:=I.look;exact PySem.W.method_fn X J (PySem.W.plainGet_of hg).1 (PySem.W.plainGet_of hg).2 hf (beq_iff_eq.mp ht) (by show(PySem.W.lookIn name od).map (·.isSome)=some false;rw[hl,hv];rfl) h
theorem QE{ns:lS}(X:K.In s.heap)(I:ObjM s.heap x dx C mA)
  (hs:uj K (.ref C) "__setattr__"=some (some (.builtin "object.__setattr__"))) (hp:PySem.W.plainOver K C=true) (ht:U9 K C name=some none) (hh:UG K C=true)
  (hw:PySem.Within mA ns) (hsz:ns.length<=sizeLine)
  (h:∀h',ObjM h' x dx C (fun y=>if y=name then some v else mA y)->Heap.SameBut dx s.heap h'->Q () { s with heap:=h',toks:=s.toks+2 }) :
  wpAny (model prog w) A (setAttr (.ref x) name v) Q E s:=by
 obtain⟨od,J,hl⟩:=I.look;refine PySem.W.set_plain X J hs (PySem.W.osa_open (s:={ s with toks:=s.toks+1 }) (r:=none) X J hp ht fun b=>?_);obtain⟨cd,hc,hd'⟩:=PySem.W.any_some hh;have hx:s.heap.get? x=some ⟨.ref C,some dx,.plain,#[]⟩:=I.obj;refine wpAny_bind (wpAny_pure (wpAny_bind (wpAny_bind (wpAny_loadPart hx (wpAny_bind (PySem.W.Looks.here (s:={ s with toks:=s.toks+1 }) (PySem.W.looks_clsIn X hc) ?_))))));rw[hd'];refine wpAny_pure (a:=some dx) (wpAny_bind (wpAny_pure (wpAny_bind ?_)));refine wpAny_nsSet1 (s:={ s with toks:=s.toks+1 }) I.ns fun h' hn2 hs2=>?_;obtain⟨oD,esD,epD,hoD,hdD,hcD⟩:=hn2.count (PySem.Within.cons name v hw);refine wpAny_bind (wpAny_lookBehind hoD (by rw[hdD];exact pastItsLine_dict (uy hcD (by rw[uJ];lia))) ?_);exact wpAny_pure (h _ ⟨(hs2.2 _ (Ne.symm I.ne)).trans I.obj,hn2,I.ne⟩ hs2)
theorem Vl{vs:List Value}(X:K.In s.heap)(hm:tR K C=true)
  (hi:uj K (.ref C) "__init__"=some (some (.ref f))) (hf:PySem.W.typeIn K (.ref f)=some (.type "function"))
  (h:codeAny (model prog w) (A.under (.builtin "type.__call__" ⟨.ref C::vs,kw⟩)) (.call (.ref f) ⟨.ref (s.heap.objs.size+1)::vs,kw⟩) (PySem.W.InitBack (s.heap.objs.size+1) R)
   { s with heap:=(s.heap.push uT).push (UQ C s.heap.objs.size) }) :
  codeAny (model prog w) A (.call (.ref C) ⟨vs,kw⟩) R s:=by
 obtain⟨hh,g,d,t,os⟩:=s;exact PySem.W.make_core (PySem.W.makes_of X hm) (PySem.W.looks_findIn X hi) (fun self=>PySem.W.bind_fn X self hf) (.inl rfl) h
end
def putF(f:Str)(v:V):List (Str×V)->List (Str×V)
 |[]=>[(f,v)]
 | (g,x)::r=>if g=f then(g,v)::r else(g,x)::putF f v r
theorem wY(f g:Str)(v:V):∀fs:List (Str×V),(putF f v fs).lookup g=if g=f then some v else fs.lookup g
 |[]=>by
  show UP g [(f,v)]=_;by_cases h:g=f
  ·have hb:(g == f)=true:=beq_iff_eq.mpr h
   simp only[UP,hb,if_pos h]
  ·have hb:(g == f)=false:=beq_eq_false_iff_ne.mpr h
   simp only[UP,hb,if_neg h]
 | (k,x)::r=>by
  have ih:=wY f g v r;rw[show putF f v ((k,x)::r)=(if k=f then(k,v)::r else(k,x)::putF f v r)from rfl];by_cases hk:k=f
  ·rw[if_pos hk]
   by_cases h:g=k
   ·have hb:(g == k)=true:=beq_iff_eq.mpr h
    simp only[UP,hb,if_pos (h.trans hk)]
   ·have hb:(g == k)=false:=beq_eq_false_iff_ne.mpr h
    simp only[UP,hb,if_neg (fun e:g=f=>h (e.trans hk.symm))]
  ·rw[if_neg hk]
   by_cases h:g=k
   ·have hb:(g == k)=true:=beq_iff_eq.mpr h
    simp only[UP,hb,if_neg (fun e:g=f=>hk (h.symm.trans e))]
   ·have hb:(g == k)=false:=beq_eq_false_iff_ne.mpr h
    simp only[UP,hb]
    exact ih
theorem wJ(f:Str)(v:V):∀fs:List (Str×V),f∈(putF f v fs).map (·.1)/\∀g,g∈fs.map (·.1)->g∈(putF f v fs).map (·.1)
 |[]=>⟨by simp[putF],fun g h=>by simp at h⟩
 | (k,x)::r=>by
  obtain⟨i1,i2⟩:=wJ f v r;rw[show putF f v ((k,x)::r)=(if k=f then(k,v)::r else(k,x)::putF f v r)from rfl];by_cases hk:k=f
  ·rw[if_pos hk]
   subst hk;exact⟨by simp,fun g h=>by simpa using h⟩
  ·rw[if_neg hk]
   refine⟨?_,fun g h=>?_⟩
   ·rw[uC]
    exact u6 _ i1
   ·rw[uC]at h ⊢
    rcases uh.mp h with e|e
    ·exact uh.mpr (.inl e)
    ·exact u6 _ (i2 g e)
theorem wZ(f:Str)(v:V):∀fs:List (Str×V),(putF f v fs).length<=fs.length+1
 |[]=>by simp[putF]
 | (k,x)::r=>by
  have ih:=wZ f v r;rw[show putF f v ((k,x)::r)=(if k=f then(k,v)::r else(k,x)::putF f v r)from rfl];by_cases hk:k=f
  ·rw[if_pos hk,uJ,uJ];lia
  ·rw[if_neg hk,uJ,uJ];lia
theorem RelO.some_of{v:V}{o:Option Value}(r:RelO (some v) o):∃u,o=some u/\RelV v u:=by
 cases o with
 |none=>exact(show False from r).elim
 |some u=>exact⟨u,rfl,r⟩
theorem RelO.none_of{o:Option Value}(r:RelO none o):o=none:=by
 cases o with
 |none=>rfl
 |some u=>exact(show False from r).elim
theorem jo{v:V}(r:RelV v u):PySem.W.handedIn u=true:=by
 cases v with
 |non=>cases(show u=Value.none from r);rfl
 |bl b=>cases(show u=Value.bool b from r);rfl
 |int i=>obtain⟨t,e⟩:=(show ∃t,u=Value.int i t from r);cases e;rfl
 |str x=>obtain⟨t,e⟩:=(show ∃t,u=Value.str x t from r);cases e;rfl
 |byt b=>obtain⟨t,e⟩:=(show ∃t,u=Value.bytes b t from r);cases e;rfl
 |flt b=>obtain⟨t,e⟩:=(show ∃t,u=Value.float b t from r);cases e;rfl
 |ref a=>cases(show u=Value.ref a from r);rfl
 |ty n=>cases(show u=Value.type n from r);rfl
section
variable{fs fs':List (Str×V)}
theorem vf(hok:HOk P w H h)(e:H a=some (.ins C dx fs)):∃mA,ObjM h a dx C mA/\(∀f,RelO (fs.lookup f) (mA f))/\PySem.Within mA (fs.map (·.1))/\fs.length<=1000/\H dx=some (.own a):=by
 obtain⟨d,z,ne,ob,mA,n,r,q⟩:=(show ObjOk P w H h a (.ins C dx fs)from hok a _ e);exact⟨mA,⟨ob,n,ne⟩,r,q,z,d⟩
end
structure Cls(K:ua)(C:Addr):Prop where
 pg:tH K C Str.empty=true
 hd:UG K C=true
 po:PySem.W.plainOver K C=true
 sa:uj K (.ref C) "__setattr__"=some (some (.builtin "object.__setattr__"))
theorem Cls.get{K:ua}(c:Cls K C)(f:Str):tH K C f=true:=c.pg
def NoAttr(K:ua)(C:Addr)(f:Str):Prop:=uj K (.ref C) f=some none
theorem NoAttr.taker{K:ua}{f:Str}(n:NoAttr K C f):U9 K C f=some none:=by
 unfold U9;rw[show uj K (.ref C) f=some none from n]
 rfl
structure Meth(K:ua)(C:Addr)(m:Str)(f:Addr):Prop where
 at_:uj K (.ref C) m=some (some (.ref f))
 fn:U3 K (.ref f)=true
 kp:uE K (.ref f)=true
section
variable{s:Shared}{fs:List (Str×V)}{f:Str}{v:V}{E:VSP}
theorem Yx{b:Bool}{Q:VSP}(I:Inv X pins σ H s)(e:H a=some (.ins C dx fs))(c:Cls X.K C)(n:NoAttr X.K C f)(l:fs.lookup f=some v)
  (h:∀u s',Inv X pins σ H s'->RelV v u->Q u s'):wpAny (model X.prog X.w) A (getAttr (.ref a) f b) Q E s:=by
 obtain⟨mA,O,r,_,_,_⟩:=vf I.hok e;obtain⟨u,hu,ru⟩:=RelO.some_of (v:=v) (o:=mA f) (by rw[<- l];exact r f);exact QD I.kIn O (c.get f) c.hd n hu (jo ru) (h u _ (I.tok _) ru)
theorem wc{g:Addr}{pl:Sem Bool}{Q:Value×List Value->Shared->Prop}(I:Inv X pins σ H s)(e:H a=some (.ins C dx fs))(c:Cls X.K C)(k:Meth X.K C m g)(l:fs.lookup m=none)
  (h:Q (.ref g,[.ref a]) s):wpAny (model X.prog X.w) A (getMethod (.ref a) m pl) Q E s:=by
 obtain⟨mA,O,r,_,_,_⟩:=vf I.hok e;have hn:mA m=none:=RelO.none_of (by rw[<- l];exact r m);exact Vk I.kIn O (c.get m) k.at_ k.fn hn h
theorem Yy{y:V}(I:Inv X pins σ H s)(e:H a=some (.ins C dx fs))(c:Cls X.K C)(n:NoAttr X.K C f)(hl:fs.length < 1000)(ry:RelV y u)
  (h:∀s',Inv X pins σ (upd H a (.ins C dx (putF f y fs))) s'->Q () s'):wpAny (model X.prog X.w) A (setAttr (.ref a) f u) Q E s:=by
 obtain⟨mA,O,r,wi,_,ho⟩:=vf I.hok e;have hz:(fs.map (·.1)).length<=sizeLine:=by rw[uc,sizeLine_eq];lia
 refine QE I.kIn O c.sa c.po n.taker c.hd wi hz fun h' O' sb=>h _ ?_;have hd:∃o,h'.get? dx=some o:=let ⟨o,_,_,e',_⟩:=O'.ns;⟨o,e'⟩
 refine I.write (x:=a) (e:=dx) (by rw[e];exact True.intro) (.inr ho) (fun b q hb z=>(sb.2 b hb).trans z) hd ?_;refine⟨by rw[zh O.ne];exact ho,?_,O.ne,O'.obj,_,O'.ns,fun g=>?_,fun g hg=>?_⟩
 ·have:=wZ f y fs;lia
 ·show RelO ((putF f y fs).lookup g) (if g=f then some u else mA g)
  rw[wY];by_cases q:g=f
  ·rw[if_pos q,if_pos q];exact ry
  ·rw[if_neg q,if_neg q];exact r g
 ·by_cases q:g=f
  ·rw[q];exact(wJ f y fs).1
  ·refine(wJ f y fs).2 g (wi g fun z=>hg ?_)
   show(if g=f then some u else mA g)=none;rw[if_neg q];exact z
theorem Inv.made(I:Inv X pins σ H s):Inv X pins σ (upd (upd H s.heap.objs.size (.own (s.heap.objs.size+1))) (s.heap.objs.size+1) (.ins C s.heap.objs.size []))
  { s with heap:=(s.heap.push uT).push (UQ C s.heap.objs.size) }:=by
 have e1:(s.heap.push uT).get? s.heap.objs.size=some uT:=uo s.heap rfl;have e2:((s.heap.push uT).push (UQ C s.heap.objs.size)).get? (s.heap.objs.size+1)=some (UQ C s.heap.objs.size):=by
  have:=uo (s.heap.push uT) (o:=UQ C s.heap.objs.size) rfl
  rwa [uX]at this
 have e3:(s.heap.push uT).Ns s.heap.objs.size (fun _=>none):=⟨uT,#[],_,e1,rfl,(fun e he=>absurd he (by simp)),fun _=>rfl⟩;have I1:=I.laid (a:=s.heap.objs.size) (o:=.own (s.heap.objs.size+1)) (h':=s.heap.push uT) (t':=s.toks) (fun b u q=>ub _ q) (ui _) ⟨_,e1⟩;refine I1.laid (a:=s.heap.objs.size+1) (o:=.ins C s.heap.objs.size []) (t':=s.toks) (fun b u q=>ub _ q) (Nat.le_of_eq (uX _ _)) ?_;have ne:s.heap.objs.size≠s.heap.objs.size+1:=uI (tI _);refine⟨by rw[zh ne,zg],uU _,ne,e2,fun _=>none,(Heap.Ns1.of_empty e3).at fun o q=>ub _ q,fun _=>True.intro,fun y hy=>absurd rfl hy⟩
theorem Xl{Q:VSP}(hb:attributeBase e f env (eval e env)=eval e env)
  (h:wpAny (model prog w) A (eval e env) (fun o s₁=>wpAny (model prog w) A (getAttr o f true) Q E s₁) E s):wpAny (model prog w) A (eval (.Attribute e f pos) env) Q E s :=
 Attribute_any_ h (by rw[arm_eval_Attribute,hb])
end
def tFld(K:ua)(ta:TE)(f:Str):TE:=fun σ H Q=>ta σ H fun x H1=>∃a C dx fs v,x=.ref a/\H1 a=some (.ins C dx fs)/\Cls K C/\NoAttr K C f/\fs.lookup f=some v/\Q v H1
def sFld(K:ua)(ta tv:TE)(f:Str):TS:=fun D σ H=>tv σ H fun y H1=>ta σ H1 fun x H2=>∃a C dx fs,x=.ref a/\H2 a=some (.ins C dx fs)/\Cls K C/\NoAttr K C f/\fs.length < 1000 /\
 D.nx σ (upd H2 a (.ins C dx (putF f y fs)))
section
variable{o:Expr}{f:Str}{tv:TE}
theorem zb9(he:PE X e ta)(hb:attributeBase e f X.env (eval e X.env)=eval e X.env):PE X (.Attribute e f pos) (tFld X.K ta f):=by
 intro pins s σ H Q I h;refine Xl hb (thn (he pins s σ H _ I h) fun u s1 hq_=>?_);obtain⟨x,H1,I1,rx,a,C,dx,fs,v,ex,ea,c,n,l,q⟩:=hq_;subst ex;obtain rfl:u=Value.ref a:=rx;exact Yx I1 ea c n l fun u' s2 I2 ru=>⟨v,H1,I2,ru,q⟩
theorem zca(ha:PE X o ta)(hv:PE X value tv)(hs:swapsWith value (some (.Attribute o f pos')) pos.line X.env=pure false):PS X (.Assign [.Attribute o f pos'] value pos) (sFld X.K ta tv f):=by
 intro pins s σ H D I h;refine plainObj_wpAny_Assign_Attribute (thn (hv pins s σ H _ I h) fun u s1 ⟨y,H1,I1,ry,q⟩=>thn (ha pins s1 σ H1 _ I1 q) fun ov s2 ⟨x,H2,I2,rx,a,C,dx,fs,ex,ea,c,n,l,q2⟩=>?_) hs;subst ex;obtain rfl:ov=Value.ref a:=rx;exact Yy I2 ea c n l ry fun s3 I3=>⟨σ,_,I3,q2⟩
end
section
variable{s:Shared}{E:VSP}{Q:VSP}{c:Value}{b:Bool}
inductive TyOf(K:ua)(H:Hp):V->Value->Prop where
 |non:TyOf K H .non (.type "NoneType")
 |bl (x:Bool):TyOf K H (.bl x) (.type "bool")
 |int (i:Int):TyOf K H (.int i) (.type "int")
 |str (x:Str):TyOf K H (.str x) (.type "str")
 |flt (x:UInt64):TyOf K H (.flt x) (.type "float")
 |lst {a:Addr} {xs:List V} (e:H a=some (.lst xs)):TyOf K H (.ref a) (.type "list")
 |frz {a:Addr} {o:Obj} {xs:List V} (e:H a=some (.frz o (.lst xs))):TyOf K H (.ref a) (.type "list")
 |tup {a:Addr} {xs:List V} (e:H a=some (.tup xs)):TyOf K H (.ref a) (.type "tuple")
 |dK {a:Addr} {kvs:List (Key×V)} (e:H a=some (.dK kvs)):TyOf K H (.ref a) (.type "dict")
 |dT {a:Addr} {kvs:List (List Key×V)} (e:H a=some (.dT kvs)):TyOf K H (.ref a) (.type "dict")
 |ins {a C dx:Addr} {fs:List (Str×V)} (e:H a=some (.ins C dx fs)) (cl:Cls K C) (ha:uj K (.ref C) "__class__"=some (some (.builtin "object.__class__")))
   (hn:tw K (.builtin "object.__class__") "__get__"=some (some (.builtin "getset_descriptor.__get__"))) (htk:PySem.W.takesIn K (.builtin "object.__class__")=some true)
   (hm:PySem.W.mroIn K C (.type "object")=some true):TyOf K H (.ref a) (.ref C)
theorem Wh{x:V}{t:Value}(I:Inv X pins σ H s)(rx:RelV x u)(ty:TyOf X.K H x t)(e:Ud X.K t c=some b)(h:∀tk,Q (.bool b) { s with toks:=tk }):
  wpAny (model X.prog X.w) A (call (.builtin "isinstance") [u,c]) Q E s:=by
 cases ty with
 |non=>cases(show u=Value.none from rx);exact Uy PySem.W.kitx_none I.kIn True.intro e (fun z=>nomatch z) h
 |bl y=>cases(show u=Value.bool y from rx);exact Uy PySem.W.kitx_bool I.kIn True.intro e (fun z=>nomatch z) h
 |int i=>obtain⟨t,q⟩:=(show ∃t,u=Value.int i t from rx);cases q;exact Uy PySem.W.kitx_int I.kIn True.intro e (fun z=>nomatch z) h
 |str y=>obtain⟨t,q⟩:=(show ∃t,u=Value.str y t from rx);cases q;exact Uy PySem.W.kitx_str I.kIn True.intro e (fun z=>nomatch z) h
 |flt y=>obtain⟨t,q⟩:=(show ∃t,u=Value.float y t from rx);cases q;exact Uy PySem.W.kitx_float I.kIn True.intro e (fun z=>nomatch z) h
 |@lst a xs ea =>
  cases(show u=Value.ref a from rx);obtain⟨_,_,n,_,h1⟩:=(show ObjOk X.prog X.w H s.heap a (.lst xs)from I.hok a _ ea);exact Uy PySem.W.kitx_list I.kIn ⟨_,h1,rfl⟩ e (fun z=>nomatch z) h
 |@frz a ob xs ea =>
  cases(show u=Value.ref a from rx);obtain⟨_,_,_,n,_,h1⟩:=(show ObjOk X.prog X.w H s.heap a (.frz ob (.lst xs))from I.hok a _ ea);exact Uy PySem.W.kitx_list I.kIn ⟨_,h1,rfl⟩ e (fun z=>nomatch z) h
 |@tup a xs ea =>
  cases(show u=Value.ref a from rx);obtain⟨_,_,_,p⟩:=(show ObjOk X.prog X.w H s.heap a (.tup xs)from I.hok a _ ea);obtain⟨o,h1,h2,_⟩:=p;exact Uy PySem.W.kitx_tuple I.kIn ⟨o,h1,h2⟩ e (fun z=>nomatch z) h
 |@dK a kvs ea =>
  cases(show u=Value.ref a from rx);obtain⟨_,_,vs,_,p⟩:=(show ObjOk X.prog X.w H s.heap a (.dK kvs)from I.hok a _ ea);obtain⟨o,es,ep,h1,h2,_⟩:=p;exact Uy PySem.W.kitx_dict I.kIn ⟨o,h1,h2.1⟩ e (fun z=>nomatch z) h
 |@dT a kvs ea =>
  cases(show u=Value.ref a from rx);obtain⟨_,_,xs,_,o,es,ep,h1,h2,_⟩:=(show ObjOk X.prog X.w H s.heap a (.dT kvs)from I.hok a _ ea);exact Uy PySem.W.kitx_dict I.kIn ⟨o,h1,h2.1⟩ e (fun z=>nomatch z) h
 |@ins a C dx fs ea cl ha hn htk hm =>
  cases(show u=Value.ref a from rx);obtain⟨mA,O,_⟩:=vf I.hok ea;obtain⟨od,J,_⟩:=O.look;exact Uy (PySem.W.kitx_own (cl.get _) cl.hd ha hn htk hm) I.kIn J e (fun z=>nomatch z) h
end
structure Room(k:Nat)(A:Around):Prop where
 hd:A.handled=none
 dp:A.depth+3*k+5 < recursionLimit
 un:A.units+16*k+200 < cLine
theorem Room.mono{k:Nat}(r:Room k A)(h:j<=k):Room j A:=⟨r.hd,by have:=r.dp;lia,by have:=r.un;lia⟩
theorem Room.deeper{k:Nat}(r:Room (k+1) A)(env:Env):Room k (A.deeper env) :=
 ⟨r.hd,by have:=r.dp;show A.depth+1+3*k+5 < _;lia,by have:=r.un;show A.units+3+16*k+200 < _;lia⟩
theorem Yz:(A.under (.builtin "type.__call__" ⟨.ref C::us,kw⟩)).depth=A.depth+1:=by
 first|rfl|simp[Around.under,Code.weight,Code.isCreation,Code.isGuard,Code.isCaller,Code.frames,Code.isFrame,guardIds]
theorem YA:(A.under (.builtin "type.__call__" ⟨.ref C::us,kw⟩)).units=A.units+1:=by
 first|rfl|simp[Around.under,Code.cUnits,Code.frames,Code.isFrame]
theorem Room.make{k:Nat}(r:Room (k+1) A)(C:Addr)(us:List Value)(kw:List (Str×Value)):Room k (A.under (.builtin "type.__call__" ⟨.ref C::us,kw⟩)) :=
 ⟨r.hd,by have:=r.dp;rw[Yz];lia,by have:=r.un;rw[YA];lia⟩
theorem Room.depth{k:Nat}(r:Room k A):A.depth < recursionLimit:=by have:=r.dp;lia
theorem Room.units{k:Nat}(r:Room k A):A.units+64 < cLine:=by have:=r.un;lia
theorem Room.units0{k:Nat}(r:Room k A):A.units < cLine:=by have:=r.un;lia
def tNil:TA:=fun _ H Q=>Q [] H
def yf(ta:TE)(tr:TA):TA:=fun σ H Q=>ta σ H fun x H1=>tr σ H1 fun xs H2=>Q (x::xs) H2
section
variable{t:TA}
theorem zcb:PA X [] tNil:=fun _ _ _ _ H Q I h=>Calls.spliced_nil ⟨[],H,I,.nil,h⟩
theorem QF(ha:PE X e te)(hr:PA X es t)(hs:starEach (e::es) X.env=(false,eval e X.env)::starEach es X.env:=by rfl):PA X (e::es) (yf te t):=by
 intro pos pins s σ H Q I h;rw[hs];show wpAny _ _ (spliced ((false,eval e X.env)::backTo pos (starEach es X.env))) _ _ s;refine Calls.spliced_cons (thn (ha pins s σ H _ I h) fun u s1 hq_=>?_);obtain⟨x,H1,I1,r1,q1⟩:=hq_;exact thn (hr pos pins s1 σ H1 _ I1 q1) fun us s2 ⟨xs,H2,I2,r2,q2⟩=>⟨x::xs,H2,I2,.cons r1 r2,q2⟩
def tTup(t:TA):TE:=fun σ H Q=>t σ H fun xs H1=>xs.length<=sizeLine/\∀p,H1 p=none->Q (.ref p) (upd H1 p (.tup xs))
def tLst(t:TA):TE:=fun σ H Q=>t σ H fun xs H1=>xs.length<=sizeLine/\∀p,H1 p=none->Q (.ref p) (upd H1 p (.lst xs))
theorem zcc{x1}(h:PA X es t):PE X (.Tuple es x1 pos) (tTup t):=by
 intro pins s σ H Q I hq;refine wpAny_Tuple_spliced (thn (h pos pins s σ H _ I hq) fun us s1 ⟨xs,H1,I1,r,z,q⟩=>⟨by rw[<- r.length];exact z,?_⟩);have hf:H1 s1.heap.objs.size=none:=I1.hok.fresh (ui _);refine⟨.ref s1.heap.objs.size,upd H1 s1.heap.objs.size (.tup xs),I1.laid (t':=s1.toks) (fun b u e=>ub _ e) (ui _) ?_,rfl,q _ hf⟩;exact⟨z,us,r,⟨_,uo _ rfl,rfl,rfl,_,rfl⟩⟩
theorem zcd(h:PA X es t):PE X (.List es pos) (tLst t):=by
 intro pins s σ H Q I hq;refine wpAny_List_spliced (thn (h pos pins s σ H _ I hq) fun us s1 ⟨xs,H1,I1,r,z,q⟩=>⟨by rw[<- r.length];exact z,?_⟩);have hf:H1 s1.heap.objs.size=none:=I1.hok.fresh (ui _);refine⟨.ref s1.heap.objs.size,upd H1 s1.heap.objs.size (.lst xs),I1.laid (t':=s1.toks) (fun b u e=>ub _ e) (ui _) ?_,rfl,q _ hf⟩;exact⟨z,us,0,r,uo _ rfl⟩
end
abbrev Sp:=List V->Hp->VK->XK->Prop
abbrev CXT:=List Env->Hp->Shared->XK->Value->Shared->Prop
variable{CX:CXT}
structure Env0(P:Program)(w:World)(K:ua)(mg:Str->Option Value)(base:Heap)(A:Around)(outer:List Env)(s:Shared)(H:Hp):Prop where
 frames:A.frames=some outer
 mod:Mod K mg base
 bs:∀b o,base.get? b=some o->s.heap.get? b=some o/\H b=none
 bsz:base.objs.size<=s.heap.objs.size
 funs:s.heap.FunFrames base outer
 frf:∀b∈frs outer,H b=none
 hok:HOk P w H s.heap
 bare:AllBare s.gens
def CE(outer:List Env)(P:Program)(w:World)(H:Hp)(s:Shared)(Q:VK)(u:Value)(s':Shared):Prop :=
 ∃v H',s'.os=s.os/\AllBare s'.gens/\Un (frs outer) [] H H' s.heap s'.heap/\HOk P w H' s'.heap/\RelV v u/\Q v H'
def CR(CX:CXT)(outer:List Env)(P:Program)(w:World)(H:Hp)(s:Shared)(Q:VK)(E:XK)(r:Result)(s':Shared):Prop :=
 match r with
 |.ok (.ret u)=>CE outer P w H s Q u s'
 |.ok _=>False
 |.error e=>CX outer H s E e s'
structure FnOk(P:Program)(w:World)(K:ua)(mg:Str->Option Value)(base:Heap)(CX:CXT)(k:Nat)(f:Addr)(fd:FuncData)(ps:lS)(sp:Sp):Prop where
 len:∀vs H Q E,sp vs H Q E->vs.length=ps.length
 run:∀(A:Around)(outer:List Env)(s:Shared)(H:Hp)(args:Args)(us:List Value)(vs:List V)(Q:VK)(E:XK),Room k A->Env0 P w K mg base A outer s H->BindsTo s fd args (ps.zip us)->Vals vs us->sp vs H Q E ->
  codeAny (model P w) A (.call (.ref f) args) (CR CX outer P w H s Q E) s
theorem FnOk.mono{K:ua}{k:Nat}{sp:Sp}(F:FnOk P w K mg base CX j f fd ps sp)(h:j<=k):
  FnOk P w K mg base CX k f fd ps sp:=⟨F.len,fun A outer s H args us vs Q E hr=>F.run A outer s H args us vs Q E (hr.mono h)⟩
theorem Env0.make{K:ua}{s:Shared}(e:Env0 P w K mg base A outer s H)(C:Addr)(us:List Value)(kw:List (Str×Value)):
  Env0 P w K mg base (A.under (.builtin "type.__call__" ⟨.ref C::us,kw⟩)) outer s H:=⟨by first|exact e.frames|(simpa[Around.under,Code.envs,Code.isFrame,pushEnvs]using e.frames),e.mod,e.bs,e.bsz,e.funs,e.frf,e.hok,e.bare⟩
section
variable{s:Shared}
theorem Inv.env0(I:Inv X pins σ H s):Env0 X.prog X.w X.K X.mg X.base X.A X.stack s H :=
 ⟨I.ok.frames,I.ok.mod,I.bs,uy I.ok.bsz I.sz,I.stack,I.stkFree,I.hok,I.bare⟩
theorem Inv.after{Q:VK}(I:Inv X pins σ H s)(h:CE X.stack X.prog X.w H s Q u s'):EP X pins σ Q u s':=by
 obtain⟨v,H',os,bare,un,hok,r,q⟩:=h;obtain⟨hh,g,d,t,os'⟩:=s';obtain rfl:os'=s.os:=os;exact⟨v,H',I.call (h':=hh) (g':=g) (d':=d) (t':=t) (ch:=[]) un hok bare (fun b z=>absurd z (by simp)),r,q⟩
end
def wo(sp:Sp)(dvs:List V)(E:XK)(t:TA):TE:=fun σ H Q=>t σ H fun vs H1=>sp (vs++dvs) H1 Q E
def w4(C:Addr)(m:Str)(sp:Sp)(dvs:List V)(E:XK)(ta:TE)(t:TA):TE:=fun σ H Q=>ta σ H fun x H1=>∃a dx fs,x=.ref a/\H1 a=some (.ins C dx fs)/\fs.lookup m=none /\
 t σ H1 fun vs H2=>sp (x::(vs++dvs)) H2 Q E
def Xm(C:Addr)(sp:Sp)(dvs:List V)(E:XK)(t:TA):TE:=fun σ H Q=>t σ H fun vs H1=>∀x dx,H1 x=none->H1 dx=none->dx≠x ->
 sp (.ref x::(vs++dvs)) (upd (upd H1 dx (.own x)) x (.ins C dx [])) (fun v H2=>v=.non/\Q (.ref x) H2) E
def Binds(K:ua)(fd:FuncData)(ps:lS)(ds:List Value):Prop :=
 ∀(s:Shared)(us:List Value),K.In s.heap->(us++ds).length=ps.length->BindsTo s fd ⟨us,[]⟩ (ps.zip (us++ds))
theorem Binds.all{K:ua}(h:∀us:List Value,us.length=ps.length->bindArgs fd ⟨us,[]⟩=pure (ps.zip us)):Binds K fd ps []:=fun s us _ hl=>by
 rw[Uu]at hl ⊢;exact .of_eq (h us hl)
def yv(CX:CXT)(X:Cx)(E:XK):Prop:=∀(pins:List (Addr×Obj))(σ:St)(H:Hp)(s:Shared)(e:Value)(s':Shared),Inv X pins σ H s->CX X.stack H s E e s'->X.xe e s'
section
variable{k:Nat}{sp:Sp}{dvs:List V}{E:XK}{o:Expr}{t:TA}
theorem wK{s:Shared}{Q:VK}{vs:List V}(F:FnOk X.prog X.w X.K X.mg X.base CX k f fd ps sp)(hr:Room k X.A)(hb:Binds X.K fd ps ds)(hd:Vals dvs ds)(hx:yv CX X E)
  (I:Inv X pins σ H s) (r:Vals vs us) (h:sp (vs++dvs) H Q E):wpAny (model X.prog X.w) X.A (call (.ref f) us) (EP X pins σ Q) X.xe s:=by
 have r2:Vals (vs++dvs) (us++ds):=r.append hd;have hl:(us++ds).length=ps.length:=by rw[<- r2.length];exact F.len _ _ _ _ h
 refine wpAny_call (codeAny_mono (F.run X.A X.stack s H ⟨us,[]⟩ (us++ds) (vs++dvs) Q E hr I.env0 (hb s us I.kIn hl) r2 h) fun r s' hq=>?_);cases r with
 |error e=>exact hx pins σ H s e s' I hq
 |ok fl =>
  cases fl with
  |ret u=>exact I.after hq
  |next=>exact False.elim hq
  |brk=>exact False.elim hq
  |cont=>exact False.elim hq
theorem QG(F:FnOk X.prog X.w X.K X.mg X.base CX k f fd ps sp)(hr:Room k X.A)(hg:Gl X x)(hm:X.mg x=some (.ref f))(hk:uE X.K (.ref f)=true)(hb:Binds X.K fd ps ds)(hd:Vals dvs ds)(hx:yv CX X E)
  (ha:PA X (e::es) t) (hdb:(x == ("__debug__":Str))=false:=by decide) (he:starEach (e::es) X.env=(false,eval e X.env)::starEach es X.env:=by rfl) (hpl:(backTo pos (starEach es X.env)).any (·.1)=false:=by rfl) :
  PE X (.Call (.Name x p) (e::es) [] pos) (wo sp dvs E t):=by
 intro pins s σ H Q I h;refine wpAny_Call_Name_kw (yE I hg hm ?_ hdb);refine UD (h₀:=X.base) I.ok.mod.kin hk (thn (ha pos pins s σ H _ I h) fun us s1 ⟨vs,H1,I1,r,q⟩=>⟨I1.kIn,?_⟩) he hpl;exact wK F hr hb hd hx I1 r q
theorem QH{pl:Sem Bool}(he:PE X o ta)(c:Cls X.K C)(hm:Meth X.K C m f)(F:FnOk X.prog X.w X.K X.mg X.base CX k f fd ps sp)(hr:Room k X.A)(hb:Binds X.K fd ps ds)(hd:Vals dvs ds)(hx:yv CX X E)(ha:PA X (e::es) t)
  (hst:starEach (e::es) X.env=(false,eval e X.env)::starEach es X.env:=by rfl) (hpl:(backTo pos (starEach es X.env)).any (·.1)=false:=by rfl)
  (ht:eval (.Call (.Attribute o m apos) (e::es) [] pos) X.env=(do
   let ov <- eval o X.env
   standAt apos.atName
   let (f,first) <- holding [ov] (getMethod ov m pl)
   callWith pos f first (backTo pos (starEach (e::es) X.env)) (backToKw pos (keywordEach [] X.env))):=by rfl) :
  PE X (.Call (.Attribute o m apos) (e::es) [] pos) (w4 C m sp dvs E ta t):=by
 intro pins s σ H Q I h;refine UW (pl:=pl) (thn (he pins s σ H _ I h) fun u s1 ⟨x,H1,I1,rx,a,dx,fs,ex,ea,l,q⟩=>?_) ht;subst ex;obtain rfl:u=Value.ref a:=rx;refine wc I1 ea c hm l ?_;refine UD (first:=[.ref a]) (h₀:=X.base) I.ok.mod.kin hm.kp (thn (ha pos pins s1 σ H1 _ I1 q) fun us s2 ⟨vs,H2,I2,r,q2⟩=>⟨I2.kIn,?_⟩) hst hpl;exact wK (us:=.ref a::us) (vs:=.ref a::vs) F hr hb hd hx I2 (.cons rfl r) q2
theorem Vm{pl:Sem Bool}(he:PE X o ta)(c:Cls X.K C)(hm:Meth X.K C m f)(F:FnOk X.prog X.w X.K X.mg X.base CX k f fd ps sp)(hr:Room k X.A)(hb:Binds X.K fd ps ds)(hd:Vals dvs ds)(hx:yv CX X E)
  (ht:eval (.Call (.Attribute o m apos) [] [] pos) X.env=(do
   let ov <- eval o X.env
   standAt apos.atName
   let (f,first) <- holding [ov] (getMethod ov m pl)
   callWith pos f first (backTo pos (starEach [] X.env)) (backToKw pos (keywordEach [] X.env))):=by rfl) :
  PE X (.Call (.Attribute o m apos) [] [] pos) (w4 C m sp dvs E ta tNil):=by
 intro pins s σ H Q I h;refine UW (pl:=pl) (thn (he pins s σ H _ I h) fun u s1 ⟨x,H1,I1,rx,a,dx,fs,ex,ea,l,q⟩=>?_) ht;subst ex;obtain rfl:u=Value.ref a:=rx;refine wc I1 ea c hm l ?_;exact PySem.W.callWith_K0 (first:=[.ref a]) I1.kIn hm.kp (wK (us:=[.ref a]) (vs:=[.ref a]) F hr hb hd hx I1 (.cons rfl .nil) q)
structure Mk(K:ua)(C f:Addr):Prop where
 makes:tR K C=true
 init:uj K (.ref C) "__init__"=some (some (.ref f))
 fn:U3 K (.ref f)=true
 kp:uE K (.ref C)=true
theorem ZP{s:Shared}{Q:VK}{vs:List V}(M:Mk X.K C f)(F:FnOk X.prog X.w X.K X.mg X.base CX k f fd ps sp)(hr:Room (k+1) X.A)(hb:Binds X.K fd ps ds)(hd:Vals dvs ds)
  (hx:yv CX X E) (I:Inv X pins σ H s) (r:Vals vs us)
  (h:∀x dx,H x=none->H dx=none->dx≠x->sp (.ref x::(vs++dvs)) (upd (upd H dx (.own x)) x (.ins C dx [])) (fun v H2=>v=.non/\Q (.ref x) H2) E) :
  wpAny (model X.prog X.w) X.A (call (.ref C) us) (EP X pins σ Q) X.xe s:=by
 have hq:=h (s.heap.objs.size+1) s.heap.objs.size (I.hok.fresh (tE _)) (I.hok.fresh (ui _)) (uI (tI _));have I2:=Inv.made (C:=C) I;have r2:Vals (V.ref (s.heap.objs.size+1)::(vs++dvs)) (Value.ref (s.heap.objs.size+1)::(us++ds)):=.cons rfl (r.append hd);have hl:(Value.ref (s.heap.objs.size+1)::us++ds).length=ps.length:=by
  have e:=r2.length;rw[F.len _ _ _ _ hq]at e;exact e.symm
 refine wpAny_call (Vl (f:=f) I.kIn M.makes M.init (beq_iff_eq.mp M.fn) (codeAny_mono (F.run _ X.stack _ _ ⟨Value.ref (s.heap.objs.size+1)::us,[]⟩ (Value.ref (s.heap.objs.size+1)::(us++ds)) _ _ E (hr.make C us [])
  (I2.env0.make C us []) (hb _ (Value.ref (s.heap.objs.size+1)::us) I2.kIn hl) r2 hq) fun r s' hq'=>?_))
 cases r with
 |error e=>exact hx pins σ _ _ e s' I2 hq'
 |ok fl =>
  cases fl with
  |ret u =>
   obtain⟨v,H',I3,rv,ev,q3⟩:=I2.after hq';subst ev;exact⟨rv,⟨V.ref (s.heap.objs.size+1),H',I3,rfl,q3⟩⟩
  |next=>exact False.elim hq'
  |brk=>exact False.elim hq'
  |cont=>exact False.elim hq'
theorem QI(M:Mk X.K C f)(F:FnOk X.prog X.w X.K X.mg X.base CX k f fd ps sp)(hr:Room (k+1) X.A)(hg:Gl X x)(hm:X.mg x=some (.ref C))(hb:Binds X.K fd ps ds)(hd:Vals dvs ds)(hx:yv CX X E)
  (ha:PA X (e::es) t) (hdb:(x == ("__debug__":Str))=false:=by decide) (he:starEach (e::es) X.env=(false,eval e X.env)::starEach es X.env:=by rfl) (hpl:(backTo pos (starEach es X.env)).any (·.1)=false:=by rfl) :
  PE X (.Call (.Name x p) (e::es) [] pos) (Xm C sp dvs E t):=by
 intro pins s σ H Q I h;refine wpAny_Call_Name_kw (yE I hg hm ?_ hdb);refine UD (h₀:=X.base) I.ok.mod.kin M.kp (thn (ha pos pins s σ H _ I h) fun us s1 ⟨vs,H1,I1,r,q⟩=>⟨I1.kIn,?_⟩) he hpl;exact ZP M F hr hb hd hx I1 r q
theorem Vn(M:Mk X.K C f)(F:FnOk X.prog X.w X.K X.mg X.base CX k f fd ps sp)(hr:Room (k+1) X.A)(hg:Gl X x)(hm:X.mg x=some (.ref C))(hb:Binds X.K fd ps ds)(hd:Vals dvs ds)(hx:yv CX X E)
  (hdb:(x == ("__debug__":Str))=false:=by decide):PE X (.Call (.Name x p) [] [] pos) (Xm C sp dvs E tNil):=by
 intro pins s σ H Q I h;refine wpAny_Call_Name_kw (yE I hg hm ?_ hdb);exact PySem.W.callWith_K0 I.kIn M.kp (ZP (us:=[]) M F hr hb hd hx I .nil h)
end
structure FnScope(N P:lS)(sc:Scope):Prop where
 kind:sc.kind=.function
 co:sc.isCoroutine=false
 gen:sc.isGenerator=false
 nd:N.Nodup
 pre:N.take P.length=P
 par:∀x∈P,sc.names.lookup x=some .local\/sc.names.lookup x=some .cell
 nofree:∀y∈sc.names,y.2≠.free
theorem jp{kindOf:Str->Option NameKind}{x:Str}:∀{binds:List (Str×Value)}{m:Str->Option Value},(∀v,(x,v)∉binds)->bindL kindOf binds m x=m x
 |[],_,_=>rfl
 | (n,v)::r,m,h=>by
  unfold bindL;rw[jp fun w hw=>h w (u6 _ hw)];split
  ·have:x≠n:=by rintro rfl;exact h v uS
   simp[this]
  ·rfl
theorem jq{kindOf:Str->Option NameKind}{x:Str}:∀{binds:List (Str×Value)}{m:Str->Option Value},(∀v,(x,v)∉binds)->bindC kindOf binds m x=m x
 |[],_,_=>rfl
 | (n,v)::r,m,h=>by
  unfold bindC;rw[jq fun w hw=>h w (u6 _ hw)];split
  ·rfl
  ·have:x≠n:=by rintro rfl;exact h v uS
   simp[this]
theorem jr{kindOf:Str->Option NameKind}{x:Str}{v:Value}:∀{P:lS}{vs:List Value}{i:Nat}{m:Str->Option Value},P.Nodup->P[i]?=some x->vs[i]?=some v->kindOf x=some .local ->
  bindL kindOf (P.zip vs) m x=some v
 |[],_,_,_,_,h,_,_=>by simp at h
 |_::_,[],_,_,_,_,h,_=>by simp at h
 |p::P,w::vs,0,m,nd,h1,h2,hk=>by
  simp at h1 h2;subst h1;subst h2
  show bindL kindOf ((p,w)::P.zip vs) m p=_;unfold bindL;rw[jp fun v hv=>(uW.mp nd).1 (UC hv).1,if_pos hk];simp
 |p::P,w::vs,i+1,m,nd,h1,h2,hk=>by
  show bindL kindOf ((p,w)::P.zip vs) m x=_;unfold bindL;exact jr (i:=i) (uW.mp nd).2 (by simpa using h1) (by simpa using h2) hk
theorem js{kindOf:Str->Option NameKind}{x:Str}{v:Value}:∀{P:lS}{vs:List Value}{i:Nat}{m:Str->Option Value},P.Nodup->P[i]?=some x->vs[i]?=some v->kindOf x≠some .local ->
  bindC kindOf (P.zip vs) m x=some v
 |[],_,_,_,_,h,_,_=>by simp at h
 |_::_,[],_,_,_,_,h,_=>by simp at h
 |p::P,w::vs,0,m,nd,h1,h2,hk=>by
  simp at h1 h2;subst h1;subst h2
  show bindC kindOf ((p,w)::P.zip vs) m p=_;unfold bindC;rw[jq fun v hv=>(uW.mp nd).1 (UC hv).1,if_neg hk];simp
 |p::P,w::vs,i+1,m,nd,h1,h2,hk=>by
  show bindC kindOf ((p,w)::P.zip vs) m x=_;unfold bindC;exact js (i:=i) (uW.mp nd).2 (by simpa using h1) (by simpa using h2) hk
def start(N:lS)(vs:List V):St:=vs.map some++uG (N.length-vs.length) none
def cxOf(CX:CXT)(P:Program)(w:World)(K:ua)(mg:Str->Option Value)(base:Heap)(N:lS)(qual:Str)(scope:Scope)(f:Addr)(cd:Value)(A:Around)(outer:List Env)(s:Shared)(H:Hp)(E:XK):Cx where
 prog:=P
 w:=w
 K:=K
 mg:=mg
 base:=base
 A:=A.deeper (envOfC qual scope s.heap.objs.size f cd)
 N:=N
 s₀:=s
 H₀:=H
 env:=envOfC qual scope s.heap.objs.size f cd
 outer:=outer
 stack:=envOfC qual scope s.heap.objs.size f cd::outer
 ex:=[]
 calm:=true
 fn:=fun _=>true
 pn:=[]
 xe:=fun e s'=>wpAny (model P w) (A.deeper (envOfC qual scope s.heap.objs.size f cd)) (leaving (envOfC qual scope s.heap.objs.size f cd) e) (fun _ s''=>CX outer H s E e s'') (fun e' s''=>CX outer H s E e' s'') s'
theorem ZQ{sc:Scope}(h:sc.names.lookup x=some .cell):∃c,(cellsFrom n sc.names []).lookup x=some c:=by
 have q:=PySem.W.cellsFrom_some sc.names n [] (.inl h);exact tM.mp q
theorem jt{K:ua}{cd:Value}{s s1:Shared}{E:XK}{vs:List V}
  (S:FnScope N ps scope) (hd:A.handled=none) (e0:Env0 P w K mg base A outer s H) (hl:vs.length=ps.length) (r:Vals vs us)
  (x:InCallC s s.heap.objs.size (bindL (envOfC qual scope s.heap.objs.size f cd).kindOf (ps.zip us) fun _=>none) (cellsFrom (s.heap.objs.size+1) scope.names []) (bindC (envOfC qual scope s.heap.objs.size f cd).kindOf (ps.zip us) fun _=>none) s1) :
  Inv (cxOf CX P w K mg base N qual scope f cd A outer s H E) [] (start N vs) H s1:=by
 have hpl:ps.length<=N.length:=by have:=congrArg List.length S.pre;rw[Ui]at this;lia
 obtain⟨h1,tk,rfl,hk⟩:=x.done;have noA:∀b:Addr,b∉(cxOf CX P w K mg base N qual scope f cd A outer s H E).ex:=fun b z=>absurd (show b∈([]:List Addr)from z) (by simp);refine⟨⟨e0.mod,S.kind,rfl,rfl,ui _,fun y z c h1 h2=>?_,fun y hy=>?_,fun y c _ h=>?_,fun _=>hd,Around.frames_deeper e0.frames,.inr ⟨rfl,rfl⟩,fun b z=>absurd z (noA b),e0.bs,e0.bsz,fun b _ _=>noA b,fun b z=>absurd z (noA b),e0.funs,e0.frf⟩,
  rfl,e0.bare,Un.kept hk,⟨_,x.toInCall.ns,fun i y v h1 h2 h3=>?_⟩,fun y c h=>⟨_,x.cell y c h⟩,e0.hok.fresh (ui _),fun y c h=>?_,fun p hp=>absurd (show p∈([]:List (Addr×Obj))from hp) (by simp),e0.hok.kept hk,?_⟩
 ·exact name_of_addr x.apart (Ue h1) (Ue h2)
 ·have hy:scope.names.lookup y=some .cell\/scope.names.lookup y=some .free:=hy
  rcases hy with hy|hy
  ·exact ZQ hy
  ·exact absurd rfl (S.nofree _ (Ue hy))
 ·exact Nat.le_of_lt (x.above y c (Ue h))
 ·have hi:i < vs.length:=by
   unfold start at h2;by_cases hi:i < vs.length
   ·exact hi
   ·rw[ut (by simpa using hi)]at h2
    rw[List.getElem?_replicate]at h2;split at h2<;>cases h2
  have ha:vs[i]?=some v:=by
   unfold start at h2;rw[uu (by simpa using hi),ux]at h2;cases e:vs[i]? with
   |none=>rw[e]at h2;cases h2
   |some a=>rw[e]at h2;cases h2;rfl
  obtain⟨u,hu,rv⟩:=r.get ha;have hp:ps[i]?=some y:=by
   rw[<- S.pre,List.getElem?_take_of_lt (by lia)];exact h1
  have ndP:ps.Nodup:=by rw[<- S.pre];exact S.nd.sublist (List.take_sublist _ _)
  refine⟨u,rv,?_⟩;rcases S.par y (uM hp)with k|k
  ·exact .inl ⟨k,jr ndP hp hu k⟩
  ·obtain⟨c,e⟩:=ZQ (n:=s.heap.objs.size+1) k
   refine .inr ⟨.inl k,c,e,?_⟩;have q:=x.cell y c e;rw[js ndP hp hu (by show scope.names.lookup y≠_;rw[k];decide)]at q;exact q
 ·exact e0.hok.fresh (Nat.le_of_lt (x.above y c (Ue h)))
 ·unfold start
  show _=N.length;rw[uk,uc,Ug];lia
theorem ZR{K:ua}{k:Nat}{dV kV:Value} {sp:Sp} (lk:K.lookup f=some ⟨oc,od,.func (uP name qual params body scope dV kV doc pm an cdv ct),osl⟩) (hcd:Uf K cdv qual=true) (S:FnScope N ps scope)
  (len:∀vs H Q E,sp vs H Q E->vs.length=ps.length)
  (hbody:∀(A:Around)(outer:List Env)(s:Shared)(H:Hp)(vs:List V)(Q:VK)(E:XK),Room k (A.deeper (envOfC qual scope s.heap.objs.size f cdv))->sp vs H Q E ->
   ∃t,PSs (cxOf CX P w K mg base N qual scope f cdv A outer s H E) body t/\t { nx:=fun _ H'=>Q .non H',rt:=Q } (start N vs) H) :
  FnOk P w K mg base CX (k+1) f (uP name qual params body scope dV kV doc pm an cdv ct) ps sp:=by
 refine⟨len,fun A outer s H args us vs Q E hr e0 hb r hsp=>?_⟩;have hl:=len _ _ _ _ hsp;have KX:K.In s.heap:=e0.mod.kin.keeps fun b o e=>(e0.bs b o e).1;have lim:s.heap.NoLimit:=e0.mod.nolimit.keeps fun b o e=>(e0.bs b o e).1;have hkind:∀y∈ps.zip us,scope.names.lookup y.1=some .local\/(scope.names.lookup y.1=some .cell/\((cellsFrom (s.heap.objs.size+1) scope.names []).lookup y.1).isSome=true):=fun⟨n,v⟩ hy=>by
  rcases S.par n (UC hy).1 with q|q
  ·exact .inl q
  ·exact .inr ⟨q,PySem.W.cellsFrom_some _ _ _ (.inl q)⟩
 refine codeAny_call_function hr.depth (KX _ _ lk) rfl S.co S.gen rfl (PySem.W.codeRec_of KX hcd) (hb _ _ _ _ ?_);refine wpAny_newFunctionEnv_cells S.kind hkind fun env he s1 x=>?_;subst he;refine⟨lim.keeps x.toInCall.keep,codeAny_func ?_⟩;obtain⟨t,ht,hq⟩:=hbody A outer s H vs Q E (hr.deeper _) hsp;have I:Inv (cxOf CX P w K mg base N qual scope f cdv A outer s H E) [] (start N vs) H s1:=jt S hr.hd e0 hl r x;refine wpAny_mono (ht [] s1 (start N vs) H _ I hq) (fun fl s' hs=>?_) fun e s' hs=>hs;have fin:∀{σ':St}{H':Hp}{v:V}{u:Value},Inv (cxOf CX P w K mg base N qual scope f cdv A outer s H E) [] σ' H' s'->RelV v u->Q v H'->CE outer P w H s Q u s' :=
  fun{σ' H' v u} J rv q=>⟨v,H',J.os,J.bare,J.base,J.hok,rv,q⟩
 cases fl with
 |ret u =>
  obtain⟨v,σ',H',J,rv,q⟩:=hs;exact fin J rv q
 |next =>
  obtain⟨σ',H',J,q⟩:=hs;exact fin (v:=V.non) (u:=Value.none) J rfl q
 |brk =>
  obtain⟨_,_,_,q⟩:=hs;exact False.elim q
 |cont =>
  obtain⟨_,_,_,q⟩:=hs;exact False.elim q
section
variable{t:TA}{id T:String}{r:List V->Hp->VK->Prop}
def tCB(r:List V->Hp->VK->Prop)(t:TA):TE:=fun σ H Q=>t σ H fun vs H1=>r vs H1 Q
theorem Vo(hc:yO X (.builtin id) r)(hg:Gl X x)(hm:X.mg x=none)(hv:bootBuiltins x=some (.builtin id))(ha:PA X (e::es) t)(hn:x≠"__name__":=by decide)(hdb:(x == ("__debug__":Str))=false:=by decide)
  (he:starEach (e::es) X.env=(false,eval e X.env)::starEach es X.env:=by rfl) (hpl:(backTo pos (starEach es X.env)).any (·.1)=false:=by rfl):PE X (.Call (.Name x p) (e::es) [] pos) (tCB r t):=by
 intro pins s σ H Q I h;refine wpAny_Call_Name_kw (xy I hg hm hv ?_ hn hdb);exact PyProof.Rows.callWith_builtin1 (thn (ha pos pins s σ H _ I h) fun us s1 ⟨vs,H1,I1,r1,q1⟩=>hc pins s1 σ H1 vs us Q I1 r1 q1) he hpl
theorem Wi(hc:yO X (.type T) r)(hg:Gl X x)(hm:X.mg x=none)(hv:bootBuiltins x=some (.type T))(ha:PA X (e::es) t)(hn:x≠"__name__":=by decide)(hdb:(x == ("__debug__":Str))=false:=by decide)
  (he:starEach (e::es) X.env=(false,eval e X.env)::starEach es X.env:=by rfl) (hpl:(backTo pos (starEach es X.env)).any (·.1)=false:=by rfl):PE X (.Call (.Name x p) (e::es) [] pos) (tCB r t):=by
 intro pins s σ H Q I h;refine wpAny_Call_Name_kw (xy I hg hm hv ?_ hn hdb);exact Uv (thn (ha pos pins s σ H _ I h) fun us s1 ⟨vs,H1,I1,r1,q1⟩=>hc pins s1 σ H1 vs us Q I1 r1 q1) he hpl
end
end L2
variable{g:L2.TG}{X:L2.Cx}{te ta to tl tv td ty:L2.TE}{r:L2.V->Option Int->Option Int->L2.Hp->L2.VK->Prop}{xs dvs:List L2.V}{σ:L2.St}{H H1 H2 H' HM:L2.Hp}{sp:L2.Sp}{tt:L2.TT}{CX:L2.CXT}{th:Addr->Obj->L2.TS}{gs:L2.TGs}{Tk:L2.Ends->L2.XK}{D:L2.Ends}{cvs:List (Addr×L2.V)}{kvs kv:List (L2.Key×L2.V)}{trs:List (L2.TE×L2.TE)}
namespace HT
open PySem PyProof.Rows
section
variable{E:VSP}{s:Shared}
theorem cat_tup{t:Addr}{vs ws:List Value}{Q:VSP}(ht:IsTup s.heap t vs.toArray)(hb:IsTup s.heap b ws.toArray)(hv:vs≠[])
  (h1:ws=[]->Q (.ref t) s) (h2:ws≠[]->Q (.ref s.heap.objs.size) { s with heap:=s.heap.push { cls:=.type "tuple",data:=.seq (vs++ws).toArray } })
  (hsz:vs.length+ws.length<=sizeLine):wpAny (model prog w) A (binaryOp .Add (.ref t) (.ref b)) Q E s:=by
 obtain⟨⟨cls,dd,data,sl⟩,ho,hc,n,hd⟩:=id ht;obtain⟨⟨cls2,dd2,data2,sl2⟩,ho2,hc2,n2,hd2⟩:=id hb;simp only at hc hd hc2 hd2
 subst hc hd hc2 hd2;have e:vs.toArray++ws.toArray=(vs++ws).toArray:=by simp
 by_cases hw:ws=[]
 ·exact concat_meets ⟨_,ho,rfl⟩ ⟨_,ho2,rfl⟩ noFill_tuple_add seq_tuple_add PySem.F.slot_tuple_add PySem.F.entry_tuple_add (PySem.F.args_tuple_add_2 _ _)
   (tuple_addW1 t b vs.toArray ws.toArray n n2 dd dd2 sl sl2 (by simpa using hv) (by simp[hw])) ⟨ho,ho2,h1 hw⟩
 ·refine concat_meets ⟨_,ho,rfl⟩ ⟨_,ho2,rfl⟩ noFill_tuple_add seq_tuple_add PySem.F.slot_tuple_add PySem.F.entry_tuple_add (PySem.F.args_tuple_add_2 _ _)
   (tuple_addW2 t b vs.toArray ws.toArray n n2 dd dd2 sl sl2 (by simpa using hv) (by simpa using hw) (by rw[uA,uA];exact hsz)) ⟨ho,ho2,?_⟩
  rw[e];exact h2 hw
def sIx(n d:Nat):Option Int->Nat
 |none=>d
 |some v=>if v < 0 then(v+(n:Int)).toNat else min v.toNat n
theorem zce(n d:Nat)(hd:d<=n)(o:Option Int):sIx n d o<=n:=by
 cases o with
 |none=>exact hd
 |some v =>
  show(if v < 0 then(v+(n:Int)).toNat else min v.toNat n)<=n;by_cases hv:v < 0
  ·rw[if_pos hv];lia
  ·rw[if_neg hv];exact Nat.min_le_right _ _
theorem Xn(v:Int)(n d:Nat):(if v < 0 then max (v+(n:Int)) 0 else min v (n:Int))=((sIx n d (some v):Nat):Int):=by
 show(if v < 0 then max (v+(n:Int)) 0 else min v (n:Int))=(((if v < 0 then(v+(n:Int)).toNat else min v.toNat n):Nat):Int);by_cases hv:v < 0
 ·simp only[if_pos hv];lia
 ·simp only[if_neg hv];lia
theorem YB(lo hi:Option Int)(n:Nat):Builtin.Slice.sliceAdjust lo hi 1 (n:Int)=(((sIx n 0 lo:Nat):Int),((sIx n n hi:Nat):Int)):=by
 have h1:¬ ((1:Int) < 0):=by lia
 unfold Builtin.Slice.sliceAdjust;simp only[h1,if_false]
 refine Prod.ext ?_ ?_
 ·cases lo with
  |none=>rfl
  |some v=>exact Xn v n 0
 ·cases hi with
  |none=>rfl
  |some v=>exact Xn v n n
theorem YC(i j:Nat):Builtin.Slice.slicePlaces (i:Int) (j:Int) 1=j-i:=by
 unfold Builtin.Slice.slicePlaces;have h1:(1:Int) > 0:=by lia
 simp only[h1,if_true,Int.ediv_one]
 split<;>lia
theorem vx{o:Option Int}{Q:Option Int->Shared->Prop}(p:IsPart v o)(h:Q o s):wpAny (model prog w) A (Builtin.Slice.slicePartIndex v) Q E s:=by
 cases p with
 |none=>exact slicePart_none h
 |int i t=>exact slicePart_int h
theorem xk{Q:Int×Int×Nat->Shared->Prop}(hs:s.heap.IsSliceOf sl vl vu .none)(pl:IsPart vl lo)(pu:IsPart vu hi)
  (h:Q (((sIx n 0 lo:Nat):Int),1,sIx n n hi-sIx n 0 lo) s):wpAny (model prog w) A (Builtin.Slice.sliceApplied (.ref sl) (pure (n:Int))) Q E s:=by
 obtain⟨os,hos,hcs,hds⟩:=id hs;unfold Builtin.Slice.sliceApplied Builtin.Slice.sliceFields;refine wpAny_bind (wpAny_bind (wpAny_field hos hds (x:=vl) rfl (wpAny_bind (wpAny_field hos hds (x:=vu) rfl (wpAny_bind (wpAny_field hos hds (x:=.none) rfl (wpAny_pure ?_)))))));refine wpAny_bind (slicePart_none ?_);show wpAny _ _ (if((1:Int) == 0)=true then _ else _) _ _ s;rw[if_neg (by decide)];refine wpAny_bind (vx pl (wpAny_bind (vx pu (wpAny_bind (wpAny_pure ?_)))));show wpAny _ _ (match Builtin.Slice.sliceAdjust lo hi 1 (n:Int)with|(lo,hi)=>pure (lo,(1:Int),Builtin.Slice.slicePlaces lo hi 1)) _ _ s;rw[YB lo hi n];show wpAny _ _ (pure (((sIx n 0 lo:Nat):Int),(1:Int),Builtin.Slice.slicePlaces ((sIx n 0 lo:Nat):Int) ((sIx n n hi:Nat):Int) 1)) _ _ s;rw[YC];exact wpAny_pure h
theorem Vp(xs:Array Value)(i k:Nat):((uZ k).filterMap fun(m:Nat)=>xs[((i:Int)+(m:Int)*1).toNat]?).toArray=((xs.toList.drop i).take k).toArray:=by
 have e:(fun(m:Nat)=>xs[((i:Int)+(m:Int)*1).toNat]?)=fun m=>xs[i+m]?:=by
  funext m
  have:((i:Int)+(m:Int)*1).toNat=i+m:=by lia
  rw[this]
 rw[e]
 have:=pick_run xs i k
 rw[List.filterMap_map]at this;have e2:((fun x=>xs[x]?) ∘ fun x=>i+x)=fun m=>xs[i+m]?:=rfl;rw[e2]at this;rw[this]
theorem getItem_tuple_cut{t:Addr}{Q:VSP}(ht:IsTup s.heap t items)(hs:s.heap.IsSliceOf sl vl vu .none)(pl:IsPart vl lo)(pu:IsPart vu hi)
  (hw:¬ (sIx items.size 0 lo=0/\sIx items.size items.size hi=items.size))
  (h:Q (.ref s.heap.objs.size) { s with heap:=s.heap.push { cls:=.type "tuple",data:=.seq ((items.toList.drop (sIx items.size 0 lo)).take (sIx items.size items.size hi-sIx items.size 0 lo)).toArray } })
  (hsz:items.size<=sizeLine):wpAny (model prog w) A (getItem (.ref t) (.ref sl)) Q E s:=by
 have htake:sizeOk (.seq ((items.toList.drop (sIx items.size 0 lo)).take (sIx items.size items.size hi-sIx items.size 0 lo)).toArray):=by
  show((items.toList.drop (sIx items.size 0 lo)).take (sIx items.size items.size hi-sIx items.size 0 lo)).toArray.size<=sizeLine;rw[uA,Ui,U5,Array.length_toList];lia
 have hj:sIx items.size items.size hi<=items.size:=zce _ _ (ui _) hi;obtain⟨os,hos,hcs,hds⟩:=id hs;have hTs:s.TypeIs (.ref sl) "slice":=⟨os,hos,hcs⟩;unfold getItem
 try with_reducible refine wpAny_holding ?_
 first|refine wpAny_bind (wpAny_pure ?_)|skip
 refine wpAny_bind (wpAny_sequenceKey ht.typeIs (by decide) ?_);refine wpAny_bind (wpAny_callSpecial?_slot (name:=Str.ofString "__getitem__") ht.typeIs Um
  (wpAny_call_entry Um ht.typeIs entry_tuple_getitem ?_ (args_tuple_getitem _ _)))
 show wpAny _ _ (Builtin.Tuple.tupleItemsOf (.ref t) >>= _) _ _ s;refine wpAny_bind (tupleItemsOf_ ht ?_);refine wpAny_bind (wpAny_typeOf hTs ?_);rw[if_pos (by decide)];refine wpAny_bind (xk hs pl pu ?_);have hno:¬ ((((sIx items.size 0 lo:Nat):Int) == 0 && (1:Int) == 1 && (sIx items.size items.size hi-sIx items.size 0 lo) == items.size)=true):=by
  intro q;rw[UN,UN]at q;have q1:((sIx items.size 0 lo:Nat):Int)=0:=eq_of_beq q.1.1;have q2:sIx items.size items.size hi-sIx items.size 0 lo=items.size:=eq_of_beq q.2;exact hw ⟨by lia,by lia⟩
 show wpAny _ _ (if(((sIx items.size 0 lo:Nat):Int) == 0 && (1:Int) == 1 && (sIx items.size items.size hi-sIx items.size 0 lo) == items.size)=true then _ else _) _ _ s;rw[if_neg hno,Vp]
 first
  |exact wpAny_bind (m:=Builtin.Tuple.tupleExact _) (wpAny_newObj_type (wpAny_pure ⟨_,rfl,wpAny_pure h⟩) htake)
  |exact wpAny_bind (m:=Builtin.Tuple.tupleExact _) (wpAny_newObj_type (wpAny_bind (wpAny_pure (wpAny_pure ⟨_,rfl,wpAny_pure h⟩))) htake)
  |exact wpAny_bind (wpAny_bind (m:=Builtin.Tuple.tupleExact _) (wpAny_newObj_type (wpAny_pure (wpAny_pure ⟨_,rfl,wpAny_pure h⟩)) htake))
  |exact wpAny_bind (wpAny_bind (m:=Builtin.Tuple.tupleExact _) (wpAny_newObj_type (wpAny_pure ⟨_,rfl,wpAny_pure h⟩) htake))
end
end HT
namespace L2
open PySem PySem.Spec PyProof.Rows
variable{x:V}
abbrev TO:=St->Hp->(Option Int->Hp->Prop)->Prop
def PO(X:Cx)(e:Option Expr)(t:TO):Prop :=
 ∀(pins:List (Addr×Obj))(s:Shared)(σ:St)(H:Hp)(Q:Option Int->Hp->Prop),Inv X pins σ H s->t σ H Q ->
  wpAny (model X.prog X.w) X.A (evalPart e X.env) (fun u s'=>∃o H',Inv X pins σ H' s'/\IsPart u o/\Q o H') X.xe s
def Xo:TO:=fun _ H Q=>Q none H
def zbl(t:TE):TO:=fun σ H Q=>t σ H fun x H1=>∃i,x=.int i/\Q (some i) H1
section
variable{lo hi:Option Expr}{tl th:TO}{p2:Pos}
theorem QJ:PO X none Xo:=by
 intro pins s σ H Q I h;rw[evalPart_none];exact wpAny_pure ⟨none,H,I,.none,h⟩
theorem QK(h:PE X e te):PO X (some e) (zbl te):=by
 intro pins s σ H Q I hw;rw[evalPart_some];refine thn (h pins s σ H _ I hw) fun u s1 hq_=>?_;obtain⟨x,H1,I1,r1,q1⟩:=hq_;obtain⟨i,rfl,q⟩:=q1;obtain⟨t,rfl⟩:=r1;exact⟨some i,H1,I1,.int i t,q⟩
def SlR(X:Cx)(r:V->Option Int->Option Int->Hp->VK->Prop):Prop :=
 ∀(pins:List (Addr×Obj))(s:Shared)(σ:St)(H:Hp)(x:V)(v vl vu:Value)(lo hi:Option Int)(sl:Addr)(Q:VK),Inv X pins σ H s->RelV x v->s.heap.IsSliceOf sl vl vu .none->IsPart vl lo->IsPart vu hi->r x lo hi H Q ->
  ∃T id,typeLookup (.type T) "__getitem__"=pure (some (.builtin id))/\s.TypeIs v T/\wpAny (model X.prog X.w) X.A (getItem v (.ref sl)) (EP X pins σ Q) X.xe s
def tSl(r:V->Option Int->Option Int->Hp->VK->Prop)(te:TE)(tl th:TO):TE:=fun σ H Q=>te σ H fun x H1=>tl σ H1 fun l H2=>th σ H2 fun u H3=>r x l u H3 Q
theorem Vq(hr:SlR X r)(he:PE X e te)(hl:PO X lo tl)(hu:PO X hi th):PE X (.Subscript e (.Slice lo hi none p2) pos) (tSl r te tl th):=by
 intro pins s σ H Q I h;refine Subscript_ (thn (he pins s σ H _ I h) fun v s1 hq_=>?_);obtain⟨x,H1,I1,r1,q1⟩:=hq_;refine wpAny_Slice (thn (hl pins s1 σ H1 _ I1 q1) fun vl s2 ⟨l,H2,I2,pl,q2⟩=>thn (hu pins s2 σ H2 _ I2 q2) fun vu s3 hq_=>?_);obtain⟨u,H3,I3,pu,q3⟩:=hq_;rw[evalPart_none];refine wpAny_pure ?_;have I4:Inv X pins σ H3 { s3 with heap:=s3.heap.push { cls:=.type "slice",data:=.fields #[vl,vu,.none] } }:=I3.kept (t':=s3.toks) fun b ob q=>ub _ q;obtain⟨T,id,hT,ht,hg⟩:=hr pins { s3 with heap:=s3.heap.push { cls:=.type "slice",data:=.fields #[vl,vu,.none] } } σ H3 x v vl vu l u s3.heap.objs.size Q I4 r1 (Heap.IsSliceOf.new ..) pl pu q3;show wpAny (model X.prog X.w) X.A (subscriptTail e (.Slice lo hi none p2) v (.ref s3.heap.objs.size)) (EP X pins σ Q) X.xe { s3 with heap:=s3.heap.push { cls:=.type "slice",data:=.fields #[vl,vu,.none] } };exact tail_any (ops:=[.ref s3.heap.objs.size,v]) ht hT hg (by with_unfolding_all rfl)
def cutV(xs:List V)(lo hi:Option Int):List V:=(xs.drop (HT.sIx xs.length 0 lo)).take (HT.sIx xs.length xs.length hi-HT.sIx xs.length 0 lo)
theorem xz(xs:List V)(lo hi:Option Int):(cutV xs lo hi).length<=xs.length:=by
 unfold cutV;rw[Ui,U5];lia
def rSlT(K:ua):V->Option Int->Option Int->Hp->VK->Prop:=fun x lo hi H Q=>∃a xs,x=.ref a/\SqT K H a xs /\
 ¬ (HT.sIx xs.length 0 lo=0/\HT.sIx xs.length xs.length hi=xs.length)/\∀p,H p=none->Q (.ref p) (upd H p (.tup (cutV xs lo hi)))
theorem zcf:SlR X (rSlT X.K):=by
 intro pins s σ H x v vl vu lo hi sl Q I rx hs pl pu h;obtain⟨a,xs,rfl,hx,hw,q⟩:=h;cases rx;obtain⟨its,r,ht,hz⟩:=I.tuple hx;have hlen:its.toArray.size=xs.length:=by rw[uA];exact r.length.symm
 refine⟨"tuple",_,Um.lookup,ht.typeIs,?_⟩;refine HT.getItem_tuple_cut ht hs pl pu (by rw[hlen];exact hw) ?_ (by rw[hlen];exact hz);rw[hlen];refine⟨.ref s.heap.objs.size,_,I.laid (t':=s.toks) (o:=.tup (cutV xs lo hi)) (fun b ob q=>ub _ q) (ui _) ?_,rfl,q _ (I.hok.fresh (ui _))⟩;exact⟨uy (xz xs lo hi) hz,_,(r.drop (HT.sIx xs.length 0 lo)).take (HT.sIx xs.length xs.length hi-HT.sIx xs.length 0 lo),IsTupN.new _ _⟩
def Vr(K:ua):R2:=fun x y H Q=>∃a b xs ys,x=.ref a/\y=.ref b/\SqT K H a xs/\SqT K H b ys/\xs≠[]/\xs.length+ys.length<=sizeLine /\
 (ys=[]->Q (.ref a) H)/\(ys≠[]->∀p,H p=none->Q (.ref p) (upd H p (.tup (xs++ys))))
theorem Vals.nil_iff(r:Vals xs us):us=[]↔xs=[]:=by
 cases r with
 |nil=>simp
 |cons _ _=>simp
theorem QL:OpR X (binaryOp .Add) (Vr X.K):=by
 intro pins s σ H x y v u Q I rx ry h;obtain⟨a,b,xs,ys,rfl,rfl,ha,hb,hx,hz,q1,q2⟩:=h;cases rx;cases ry;obtain⟨its,r1,p1,_⟩:=I.tuple ha;obtain⟨its2,r2,p2,_⟩:=I.tuple hb;refine HT.cat_tup p1 p2 (fun z=>hx (r1.nil_iff.mp z)) (fun z=>⟨.ref a,H,I,rfl,q1 (r2.nil_iff.mp z)⟩) (fun z=>?_) (by rw[<- r1.length,<- r2.length];exact hz);refine⟨.ref s.heap.objs.size,_,I.laid (t':=s.toks) (o:=.tup (xs++ys)) (fun b ob q=>ub _ q) (ui _) ?_,rfl,q2 (fun w=>z (r2.nil_iff.mpr w)) _ (I.hok.fresh (ui _))⟩;exact⟨by rw[uk];exact hz,_,r1.append r2,IsTupN.new _ _⟩
end
def ixN(n:Nat)(i:Int):Option Nat:=if 0<=i then(if i < n then some i.toNat else none)else if -(n:Int)<=i then some (i+n).toNat else none
def atI{α:Type}(xs:List α)(i:Int):Option α:=(ixN xs.length i).bind fun j=>xs[j]?
theorem QM{i:Int}(h:ixN n i=some j):seqIndex? i n=some j/\j < n/\-(n:Int)<=i/\i < n:=by
 unfold ixN at h;by_cases h0:0<=i
 ·rw[if_pos h0]at h
  by_cases h1:i < n
  ·rw[if_pos h1]at h
   have e:i.toNat=j:=uQ.inj h;exact⟨by rw[seqIndex_of h0 h1,e],by lia,by lia,h1⟩
  ·rw[if_neg h1]at h;cases h
 ·rw[if_neg h0]at h
  by_cases h1:-(n:Int)<=i
  ·rw[if_pos h1]at h
   have e:(i+n).toNat=j:=uQ.inj h;exact⟨by rw[seqIndex_neg (by lia) h1,e],by lia,h1,by lia⟩
  ·rw[if_neg h1]at h;cases h
theorem jV{α:Type}{xs:List α}{i:Int}{v:α}(h:atI xs i=some v):∃j,seqIndex? i xs.length=some j/\xs[j]?=some v/\j < xs.length/\-(xs.length:Int)<=i/\i < xs.length:=by
 unfold atI at h;cases e:ixN xs.length i with
 |none=>rw[e]at h;cases h
 |some j =>
  rw[e]at h;obtain⟨h1,h2,h3,h4⟩:=QM e;exact⟨j,h1,h,h2,h3,h4⟩
theorem zq{α:Type}{xs:List α}{v:α}(h:xs[j]?=some v):atI xs (j:Int)=some v:=by
 have hj:j < xs.length:=(ud.mp h).1;have e:ixN xs.length (j:Int)=some j:=by
  unfold ixN;rw[if_pos (by lia),if_pos (by lia)];simp
 unfold atI;rw[e];exact h
theorem yg{α:Type}(xs:List α)(v:α):atI (xs++[v]) (-1)=some v:=by
 have hl:(xs++[v]).length=xs.length+1:=by simp
 have e:ixN (xs++[v]).length (-1)=some xs.length:=by
  unfold ixN;rw[hl,if_neg (by decide),if_pos (by lia)]
  congr 1
  lia
 unfold atI;rw[e];show(xs++[v])[xs.length]?=some v;simp
def Xp(b:Expr):Prop:=∀o i,subscripted b false o i=operate [o,i] (getItem o i)
def IxR(X:Cx)(r:R2):Prop :=
 ∀(value slice:Expr)(pins:List (Addr×Obj))(s:Shared)(σ:St)(H:Hp)(x y:V)(v u:Value)(Q:VK),Inv X pins σ H s->RelV x v->RelV y u->r x y H Q ->
  subscripted slice false v u=operate [v,u] (getItem v u)->wpAny (model X.prog X.w) X.A (subscriptTail value slice v u) (EP X pins σ Q) X.xe s
def MtR(X:Cx)(id:String)(r:V->List V->Hp->VK->Prop):Prop :=
 ∀(pins:List (Addr×Obj))(s:Shared)(σ:St)(H:Hp)(x:V)(xs:List V)(v:Value)(us:List Value)(Q:VK),Inv X pins σ H s->RelV x v->Vals xs us->r x xs H Q ->
  wpAny (model X.prog X.w) X.A (call (.builtin id) (v::us)) (EP X pins σ Q) X.xe s
section
variable{a b:Expr}{tb:TE}
theorem zdl{r:R2}(hr:IxR X r)(ha:PE X a ta)(hb:PE X b tb)(hs:Xp b):PE X (.Subscript a b pos) (tOp r ta tb):=by
 intro pins s σ H Q I h;exact Subscript_ (binT ha hb I h fun v u s2 x y H2 I2 rx ry q=>hr a b pins s2 σ H2 x y v u Q I2 rx ry q (hs _ _))
def rIxL(K:ua):R2:=fun x y H Q=>∃p xs i v,x=.ref p/\y=.int i/\SqL K H p xs/\atI xs i=some v/\Q v H
def rIxT(K:ua):R2:=fun x y H Q=>∃p xs i v,x=.ref p/\y=.int i/\SqT K H p xs/\atI xs i=some v/\Q v H
def rIxS:R2:=fun x y H Q=>∃z i c,x=.str z/\y=.int i/\z.length<=sizeLine/\atI z.cps.toList i=some c/\Q (.str ⟨#[c]⟩) H
theorem QN:IxR X (rIxL X.K):=by
 intro value slice pins s σ H x y v u Q I rx ry h hs;obtain⟨p,xs,i,z,rfl,rfl,hq,he,q⟩:=h;cases rx;obtain⟨t,rfl⟩:=ry;obtain⟨its,r,pl,hz⟩:=I.list hq;obtain⟨j,h1,h2,h3,h4,h5⟩:=jV he;obtain⟨w,ew,rw'⟩:=r.get h2;have hl:=r.length;have hn:=jU;have fin:EP X pins σ Q w s:=⟨z,H,I,rw',q⟩;by_cases h0:0<=i
 ·have hj:i.toNat=j:=by
   rw[seqIndex_of h0 h5]at h1;exact uQ.inj h1
  exact item_listR pl.isList h0 (by lia) (by rw[hj];simpa using ew) fin hs
 ·have hj:(i+(its.toArray.size:Int)).toNat=j:=by
   rw[seqIndex_neg (by lia) h4]at h1;rw[uA,<- hl];exact uQ.inj h1
  exact subscriptTail_builtinR (x:=w) pl.isList.typeIs slot_list_getitem.lookup
   (wpAny_getItem_list_neg (Q:=fun r s'=>r=w/\EP X pins σ Q r s') pl.isList (by lia) (by rw[uA]<;>lia) (by lia) (by rw[hj];simpa using ew) ⟨rfl,fin⟩) hs
theorem zcg:IxR X (rIxT X.K):=by
 intro value slice pins s σ H x y v u Q I rx ry h hs;obtain⟨p,xs,i,z,rfl,rfl,hq,he,q⟩:=h;cases rx;obtain⟨t,rfl⟩:=ry;obtain⟨its,r,pl,hz⟩:=I.tuple hq;obtain⟨j,h1,h2,h3,h4,h5⟩:=jV he;obtain⟨w,ew,rw'⟩:=r.get h2;have hl:=r.length;have hn:=jU;have fin:EP X pins σ Q w s:=⟨z,H,I,rw',q⟩;exact subscriptTail_builtinR (x:=w) pl.typeIs slot_tuple_getitem.lookup
  (getItem_tuple (j:=j) (Q:=fun r s'=>r=w/\EP X pins σ Q r s') pl (by lia) (by lia) (by rw[uA,<- hl];exact h1) (by simpa using ew) ⟨rfl,fin⟩) hs
theorem zch:IxR X rIxS:=by
 intro value slice pins s σ H x y v u Q I rx ry h hs;obtain⟨z,i,c,rfl,rfl,hz,he,q⟩:=h;obtain⟨t,rfl⟩:=rx;obtain⟨t',rfl⟩:=ry;obtain⟨j,h1,h2,h3,h4,h5⟩:=jV he;have hl:z.cps.toList.length=z.length:=by simp[Str.length]
 rw[hl]at h1 h4 h5;have hn:=jU;exact tail_any (typeIs_str s z t) slot_str_getitem.lookup (getItem_str (c:=c) (by
  have e1:decide (i < -(2 ^ 63:Int))=false:=decide_eq_false (by lia);have e2:decide (i ≥ 2 ^ 63)=false:=decide_eq_false (by lia);rw[e1,e2,Bool.or_false]) (by rw[h1];simpa using h2) ⟨.str ⟨#[c]⟩,H,I.tok _,⟨_,rfl⟩,q⟩) hs
theorem jX(lo hi:Option Int)(n:Nat):(sliceBounds lo hi none n).1=((HT.sIx n 0 lo:Nat):Int)/\(sliceBounds lo hi none n).2.1=((HT.sIx n n hi:Nat):Int)/\(sliceBounds lo hi none n).2.2=1:=by
 refine⟨?_,?_,rfl⟩
 ·cases lo with
  |none=>simp[sliceBounds,HT.sIx]
  |some i =>
   simp only[sliceBounds,HT.sIx,Option.getD_none,show(1:Int) > 0 by decide,if_true]
   by_cases h:i < 0
   ·simp only[h,if_true]<;>lia
   ·simp only[h,if_false]<;>lia
 ·cases hi with
  |none=>simp[sliceBounds,HT.sIx]
  |some i =>
   simp only[sliceBounds,HT.sIx,Option.getD_none,show(1:Int) > 0 by decide,if_true]
   by_cases h:i < 0
   ·simp only[h,if_true]<;>lia
   ·simp only[h,if_false]<;>lia
theorem jg(its:List Value)(lo hi:Option Int):slicePick its.toArray lo hi none=((its.drop (HT.sIx its.length 0 lo)).take (HT.sIx its.length its.length hi-HT.sIx its.length 0 lo)).toArray:=by
 obtain⟨h1,h2,h3⟩:=jX lo hi its.toArray.size;unfold slicePick;rw[h1,h2,h3];simp only[sliceRange_one,pick_run,uA]<;>rfl
def rSlL(K:ua):V->Option Int->Option Int->Hp->VK->Prop:=fun x lo hi H Q=>∃a xs,x=.ref a/\SqL K H a xs/\∀p,H p=none->Q (.ref p) (upd H p (.lst (cutV xs lo hi)))
theorem QO:SlR X (rSlL X.K):=by
 intro pins s σ H x v vl vu lo hi sl Q I rx hs pl pu h;obtain⟨a,xs,rfl,hx,q⟩:=h;cases rx;obtain⟨its,r,ht,hz⟩:=I.list hx;have hlen:=r.length;refine⟨"list",_,slot_list_getitem.lookup,ht.isList.typeIs,?_⟩;refine wpAny_getItem_list_slice ht.isList hs pl pu .none (by simp) ?_ (by rw[uA]<;>lia);rw[jg,<- hlen];refine⟨.ref s.heap.objs.size,_,I.laid (t':=s.toks) (o:=.lst (cutV xs lo hi)) (fun b ob q=>ub _ q) (ui _) ?_,rfl,q _ (I.hok.fresh (ui _))⟩;exact⟨uy (xz xs lo hi) hz,_,0,(r.drop (HT.sIx xs.length 0 lo)).take (HT.sIx xs.length xs.length hi-HT.sIx xs.length 0 lo),uo _ rfl⟩
def xA:V->Bool
 |.non=>true
 |.bl _=>true
 |.int _=>true
 |.str _=>true
 |_=>false
def eqV:V->V->Bool
 |.non,.non=>true
 |.bl a,.bl b=>a == b
 |.bl a,.int b=>(if a then 1 else 0) == b
 |.int a,.bl b=>a == (if b then 1 else 0)
 |.int a,.int b=>a == b
 |.str a,.str b=>a == b
 |_,_=>false
theorem Vs{s:Shared}{y:V}(ry:RelV y u)(rx:RelV x v)(fy:xA y=true)(fx:xA x=true):SeqAt.EqAt A s u v (eqV y x):=by
 cases y with
 |non =>
  cases ry;cases x with
  |non=>cases rx;exact SeqAt.EqAt.same _
  |bl b=>cases rx;exact SeqAt.EqAt.none_bool b
  |int b=>obtain⟨t,rfl⟩:=rx;exact SeqAt.EqAt.none_int b t
  |str b=>obtain⟨t,rfl⟩:=rx;exact SeqAt.EqAt.none_str b t
  |_=>exact absurd (show false=true from fx) uB
 |bl a =>
  cases ry;cases x with
  |non=>cases rx;exact SeqAt.EqAt.bool_none a
  |bl b=>cases rx;exact SeqAt.EqAt.bool_bool a b
  |int b=>obtain⟨t,rfl⟩:=rx;exact SeqAt.EqAt.bool_int a b t
  |str b=>obtain⟨t,rfl⟩:=rx;exact SeqAt.EqAt.bool_str a b t
  |_=>exact absurd (show false=true from fx) uB
 |int a =>
  obtain⟨t',rfl⟩:=ry;cases x with
  |non=>cases rx;exact SeqAt.EqAt.int_none a t'
  |bl b=>cases rx;exact SeqAt.EqAt.int_bool a t' b
  |int b=>obtain⟨t,rfl⟩:=rx;exact SeqAt.EqAt.int_int a t' b t
  |str b=>obtain⟨t,rfl⟩:=rx;exact SeqAt.EqAt.int_str a t' b t
  |_=>exact absurd (show false=true from fx) uB
 |str a =>
  obtain⟨t',rfl⟩:=ry;cases x with
  |non=>cases rx;exact SeqAt.EqAt.str_none a t'
  |bl b=>cases rx;exact SeqAt.EqAt.str_bool a t' b
  |int b=>obtain⟨t,rfl⟩:=rx;exact SeqAt.EqAt.str_int a t' b t
  |str b=>obtain⟨t,rfl⟩:=rx;exact SeqAt.EqAt.str_str a t' b t
  |_=>exact absurd (show false=true from fx) uB
 |_=>exact absurd (show false=true from fy) uB
def eqU(x:V)(u:Value):Bool:=match u with
 |.none=>eqV .non x
 |.bool b=>eqV (.bl b) x
 |.int i _=>eqV (.int i) x
 |.str z _=>eqV (.str z) x
 |_=>false
theorem Vt{y:V}(r:RelV y u)(f:xA y=true):eqU x u=eqV y x:=by
 cases y with
 |non=>cases r;rfl
 |bl b=>cases r;rfl
 |int i=>obtain⟨t,rfl⟩:=r;rfl
 |str z=>obtain⟨t,rfl⟩:=r;rfl
 |_=>exact absurd (show false=true from f) uB
theorem jY{x:V}:∀{xs:List V}{us:List Value},Vals xs us->xs.all xA=true->us.any (eqU x)=xs.any fun y=>eqV y x
 |_,_,.nil,_=>rfl
 |y::xs,u::us,.cons r t,f=>by
  rw[List.all_cons,UN]at f;rw[tN,tN,Vt r f.1,jY t f.2]
theorem vy{A:Around}{s:Shared}{x:V}{v:Value}(rx:RelV x v)(fx:xA x=true):∀{xs:List V}{us:List Value},Vals xs us->xs.all xA=true->∀u∈us,SeqAt.EqAt A s u v (eqU x u)
 |_,_,.nil,_=>fun u hu=>by cases hu
 |y::xs,u::us,.cons r t,f=>fun u' hu=>by
  rw[List.all_cons,UN]at f;rcases uh.mp hu with rfl|hu
  ·rw[Vt r f.1];exact Vs r rx f.1 fx
  ·exact vy rx fx t f.2 u' hu
def inV(x:V)(xs:List V):Bool:=xs.any fun y=>eqV y x
def rIn(K:ua)(neg:Bool):R2:=fun x y H Q=>∃p xs,y=.ref p/\(SqL K H p xs\/SqT K H p xs)/\xA x=true/\xs.all xA=true/\Q (.bl (if neg then !inV x xs else inV x xs)) H
theorem Wj:OpR X (compareOp .In) (rIn X.K false):=by
 intro pins s σ H x y v u Q I rx ry h;obtain⟨p,xs,rfl,hq,fx,fs,q⟩:=h;cases ry;rcases hq with hq|hq
 ·obtain⟨its,r,pl,hz⟩:=I.list hq
  refine SeqAt.in_listAt (eqU x) pl.isList (fun w hw=>vy rx fx r fs w (by simpa using hw)) ⟨.bl _,H,I,rfl,?_⟩;rw[show its.toArray.any (eqU x)=its.any (eqU x) by simp,jY r fs];exact q
 ·obtain⟨its,r,pl,hz⟩:=I.tuple hq
  refine SeqAt.in_tupleAt (eqU x) pl (fun w hw=>vy rx fx r fs w (by simpa using hw)) ⟨.bl _,H,I,rfl,?_⟩;rw[show its.toArray.any (eqU x)=its.any (eqU x) by simp,jY r fs];exact q
theorem jZ:yO X (.builtin "len") (fun xs H Q=>∃p ys,xs=[.ref p]/\(SqL X.K H p ys\/SqT X.K H p ys)/\Q (.int ys.length) H):=by
 intro pins s σ H xs us Q I r h;obtain⟨p,ys,rfl,hq,q⟩:=h;obtain⟨u,rfl,rx⟩:=xj r;cases rx;have hn:=jU;rcases hq with hq|hq
 ·obtain⟨its,r',pl,hz⟩:=I.list hq
  have hlen:=r'.length;exact Calls.call_len_list pl.isList (by simp only[uA]<;>lia) ⟨.int ys.length,H,I.tok _,⟨s.toks+1,by rw[uA,hlen]⟩,q⟩
 ·obtain⟨its,r',pl,hz⟩:=I.tuple hq
  have hlen:=r'.length;exact len_tuple pl (by simp only[uA]<;>lia) ⟨.int ys.length,H,I.tok _,⟨s.toks+1,by rw[uA,hlen]⟩,q⟩
theorem j2:yO X (.type "list") (fun xs H Q=>∃p ys,xs=[.ref p]/\(SqL X.K H p ys\/SqT X.K H p ys)/\∀l,H l=none->Q (.ref l) (upd H l (.lst ys))):=by
 intro pins s σ H xs us Q I r h;obtain⟨p,ys,rfl,hq,q⟩:=h;obtain⟨u,rfl,rx⟩:=xj r;cases rx;have fin:∀(its:List Value),Vals ys its->ys.length<=sizeLine->∀(h':Heap)(c':Nat),(∀b o',s.heap.get? b=some o'->h'.get? b=some o') ->
   h'.get? s.heap.objs.size=some { cls:=.type "list",dict:=none,data:=.seq its.toArray c',slots:=#[] }->EP X pins σ Q (.ref s.heap.objs.size) { s with heap:=h' }:=fun its r' hz h' c' kp e =>
  ⟨.ref s.heap.objs.size,_,I.laid (t':=s.toks) kp (ui _) (show ObjOk X.prog X.w _ h' _ (.lst ys)from⟨hz,its,c',r',e⟩),rfl,q _ (I.hok.fresh (ui _))⟩
 rcases hq with hq|hq
 ·obtain⟨its,r',pl,hz⟩:=I.list hq
  have hlen:=r'.length;obtain⟨o,ho,hc,n,hd⟩:=pl.isList;exact call_list_seq p (.inl rfl) ho hc hd (fun h' c' kp e=>fin its r' hz h' c' kp e) (by simp only[uA]<;>lia)
 ·obtain⟨its,r',pl,hz⟩:=I.tuple hq
  have hlen:=r'.length;obtain⟨o,ho,hc,n,hd⟩:=pl;exact call_list_seq p (.inr rfl) ho hc hd (fun h' c' kp e=>fin its r' hz h' c' kp e) (by simp only[uA]<;>lia)
theorem jh:yO X (.type "tuple") (fun xs H Q=>∃p ys,xs=[.ref p]/\((SqL X.K H p ys/\∀l,H l=none->Q (.ref l) (upd H l (.tup ys)))\/(SqT X.K H p ys/\Q (.ref p) H))):=by
 intro pins s σ H xs us Q I r h;obtain⟨p,ys,rfl,h⟩:=h;obtain⟨u,rfl,rx⟩:=xj r;cases rx;rcases h with⟨hq,q⟩|⟨hq,q⟩
 ·obtain⟨its,r',pl,hz⟩:=I.list hq
  have hlen:=r'.length;refine call_tuple_list pl.isList (fun h' kp=>?_) (by simp only[uA]<;>lia);have I1:Inv X pins σ H { s with heap:=h' }:=I.kept (t':=s.toks) kp;have I2:Inv X pins σ (upd H h'.objs.size (.tup ys)) { s with heap:=h'.push { cls:=.type "tuple",data:=.seq its.toArray } } :=
   I1.laid (t':=s.toks) (fun b o e=>ub _ e) (ui _) (show ObjOk X.prog X.w _ _ _ (.tup ys)from⟨hz,its,r',IsTupN.new _ _⟩)
  exact⟨.ref h'.objs.size,_,I2,rfl,q _ (I1.hok.fresh (ui _))⟩
 ·obtain⟨its,r',pl,hz⟩:=I.tuple hq
  exact call_tuple_same pl ⟨.ref p,H,I,rfl,q⟩
def tyV(K:ua)(T:String)(x:V)(H:Hp):Prop:=match x with
 |.str _=>T="str"
 |.int _=>T="int"
 |.ref p=>(T="list"/\∃xs,SqL K H p xs)\/(T="tuple"/\((∃o,K.lookup p=some o/\o.cls=.type "tuple"/\o.dict=none)\/∃xs,H p=some (.tup xs))) \/
   (T="dict"/\((∃kvs,H p=some (.dK kvs))\/∃kvs,H p=some (.dT kvs)))\/(T="set"/\∃S n,H p=some (.set S n))
 |_=>False
theorem Vu{s:Shared}{T:String}(I:Inv X pins σ H s)(r:RelV x v)(ty:tyV X.K T x H):
  s.TypeIs v T/\∀a,v=.ref a->∃ob,s.heap.get? a=some ob/\ob.dict=none:=by
 cases x with
 |str z =>
  obtain⟨t,rfl⟩:=r;cases(show T="str"from ty);exact⟨typeIs_str s z t,fun _ e=>nomatch e⟩
 |int i =>
  obtain⟨t,rfl⟩:=r;cases(show T="int"from ty);exact⟨typeIs_int s i t,fun _ e=>nomatch e⟩
 |ref p =>
  cases r;rcases ty with⟨rfl,xs,hq⟩|⟨rfl,⟨o,hk,hc,hd⟩|⟨xs,hk⟩⟩|⟨rfl,hk⟩|⟨rfl,S,n,hk⟩
  ·obtain⟨its,_,pl,_⟩:=I.list hq
   refine⟨pl.isList.typeIs,fun a e=>?_⟩;cases e;obtain⟨o,n,e,c,hd,_⟩:=pl;exact⟨o,e,hd⟩
  ·refine⟨⟨o,I.kIn p o hk,hc⟩,fun a e=>?_⟩
   cases e;exact⟨o,I.kIn _ o hk,hd⟩
  ·obtain⟨_,_,_,o,ho,hc,hd,_⟩:=I.hok p _ hk
   refine⟨⟨o,ho,hc⟩,fun a e=>?_⟩;cases e;exact⟨o,ho,hd⟩
  ·have z:∃o,s.heap.get? p=some o/\o.ExactDict:=by
    rcases hk with⟨kvs,hk⟩|⟨kvs,hk⟩
    ·obtain⟨_,_,_,_,o,_,_,e,ex,_⟩:=I.hok p _ hk
     exact⟨o,e,ex⟩
    ·obtain⟨_,_,_,_,o,_,_,e,ex,_⟩:=I.hok p _ hk
     exact⟨o,e,ex⟩
   obtain⟨o,e,ex⟩:=z;refine⟨⟨o,e,ex.1⟩,fun a e2=>?_⟩;cases e2;exact⟨o,e,ex.2.1⟩
  ·obtain⟨o,_,_,_,e,ex,_⟩:=I.hok p _ hk
   refine⟨⟨o,e,ex.1⟩,fun a e2=>?_⟩;cases e2;exact⟨o,e,ex.2.1⟩
 |_=>exact False.elim ty
def tBM0(K:ua)(T:String)(r:V->List V->Hp->VK->Prop)(to:TE):TE:=fun σ H Q=>to σ H fun x H1=>tyV K T x H1/\r x [] H1 Q
def tBM(K:ua)(T:String)(r:V->List V->Hp->VK->Prop)(to:TE)(t:TA):TE:=fun σ H Q=>to σ H fun x H1=>tyV K T x H1/\t σ H1 fun xs H2=>r x xs H2 Q
variable{t:TA}{T id:String}{r:V->List V->Hp->VK->Prop}
theorem zci(pa:PlainAttrs T)(slot:Slot T name id)(hty:typeOf (.builtin id)=pure (.type "method_descriptor"))(hm:MtR X id r)(ho:PE X o to)
  (hbase:attributeBase o name X.env (eval o X.env)=eval o X.env:=by rfl) (hline:(apos.endLine == cpos.line)=true:=by rfl):PE X (.Call (.Attribute o name apos) [] [] cpos) (tBM0 X.K T r to):=by
 intro pins s σ H Q I h;refine wpAny_Call_method0_late hbase hline (thn (ho pins s σ H _ I h) fun v s1 hq_=>?_);obtain⟨x,H1,I1,r1,ty,q1⟩:=hq_;obtain⟨h1,h2⟩:=Vu I1 r1 ty;exact⟨T,id,pa,slot,hty,h1,h2,Calls.callWith_builtin rfl (PySem.evalArgs_none (hm pins s1 σ H1 x [] v [] Q I1 r1 .nil q1))⟩
theorem zdm(pa:PlainAttrs T)(slot:Slot T name id)(hty:typeOf (.builtin id)=pure (.type "method_descriptor"))(hm:MtR X id r)(ho:PE X o to)(ha:PA X (e::es) t)
  (hbase:attributeBase o name X.env (eval o X.env)=eval o X.env:=by rfl)
  (hfew:((backTo cpos (starEach (e::es) X.env)).all (fun x=>!x.1) && (backToKw cpos (keywordEach [] X.env)).all (fun x=>x.1.isSome)
   && decide ((e::es).length+([]:List Keyword).length+(if([]:List Keyword).isEmpty then 0 else 1) < 30))=true:=by rfl)
  (hline:(apos.endLine == cpos.line)=true:=by rfl) (hs:starEach (e::es) X.env=(false,eval e X.env)::starEach es X.env:=by rfl) (hplain:(backTo cpos (starEach es X.env)).any (·.1)=false:=by rfl) :
  PE X (.Call (.Attribute o name apos) (e::es) [] cpos) (tBM X.K T r to t):=by
 intro pins s σ H Q I h;refine wpAny_Call_method_late hbase hfew hline rfl (thn (ho pins s σ H _ I h) fun v s1 hq_=>?_);obtain⟨x,H1,I1,r1,ty,q1⟩:=hq_;obtain⟨h1,h2⟩:=Vu I1 r1 ty;refine⟨T,id,pa,slot,hty,h1,h2,?_⟩;have hA:=ha cpos pins s1 σ H1 _ I1 q1;rw[hs]at hA ⊢;refine Calls.callWith_builtin (by show(false || (backTo cpos (starEach es X.env)).any (·.1))=false;rw[hplain]<;>rfl) (Calls.evalArgs_plain ?_);exact thn hA fun us s2 ⟨vs,H2,I2,r2,q2⟩=>hm pins s2 σ H2 x vs v us Q I2 r1 r2 q2
end
def MtM(X:Cx)(id:String)(r:V->List V->Hp->VK->Prop):Prop :=
 ∀(pins:List (Addr×Obj))(s:Shared)(σ:St)(H:Hp)(x:V)(xs:List V)(v:Value)(us:List Value)(Q:VK),Inv X pins σ H s->RelV x v->Vals xs us->r x xs H Q ->
  wpAny (model X.prog X.w) X.A (call (.builtin id) (v::us)) (EP X pins σ Q) X.xe s
theorem Vals.one:∀{x:V}{us:List Value},Vals [x] us->∃u,us=[u]/\RelV x u
 |_,_,.cons r .nil=>⟨_,rfl,r⟩
theorem Vals.two:∀{x y:V}{us:List Value},Vals [x,y] us->∃u v,us=[u,v]/\RelV x u/\RelV y v
 |_,_,_,.cons r (.cons q .nil)=>⟨_,_,rfl,r,q⟩
theorem Vals.zero:∀{us:List Value},Vals [] us->us=[]
 |_,.nil=>rfl
theorem Vals.dropLast(h:Vals xs us):Vals xs.dropLast us.dropLast:=by
 induction h with
 |nil=>exact .nil
 |cons r t ih =>
  cases t with
  |nil=>exact .nil
  |cons q t'=>exact .cons r ih
theorem YD{α:Type}(l:List α):l.eraseIdx (l.length-1)=l.dropLast:=by
 induction l with
 |nil=>rfl
 |cons a r ih =>
  cases r with
  |nil=>rfl
  |cons b r =>
   have e:(a::b::r).length-1=((b::r).length-1)+1:=by
    have h1:(a::b::r).length=r.length+2:=rfl;have h2:(b::r).length=r.length+1:=rfl;lia
   rw[e,List.eraseIdx_cons_succ,ih]
   all_goals rfl
section
variable{s:Shared}{l:Addr}{ys zs:List V}
theorem Inv.lset{its':List Value}{f:Array Value->Array Value}(I:Inv X pins σ H s)(hH:H l=some (.lst xs))
  (e:s.heap.get? l=some { cls:=.type "list",data:=.seq its.toArray n }) (hf:f its.toArray=its'.toArray) (hv:Vals ys its') (hz:ys.length<=sizeLine) :
  Inv X pins σ (upd H l (.lst ys)) { s with heap:=s.heap.update l (Obj.mapSeq f),toks:=t' }:=by
 have q:=PySem.IsL.update e f;rw[hf]at q;refine I.write (x:=l) (e:=l) (by rw[hH];exact trivial) (.inl rfl) (fun b' u hb hu=>(uK s.heap (Obj.mapSeq f) (Ne.symm hb)).trans hu) ⟨_,q⟩ ?_;exact⟨hz,its',_,hv,q⟩
theorem Inv.lnew(I:Inv X pins σ H s)(hv:Vals ys its)(hz:ys.length<=sizeLine):
  Inv X pins σ (upd H s.heap.objs.size (.lst ys)) { s with heap:=s.heap.push { cls:=.type "list",data:=.seq its.toArray },toks:=t' } :=
 I.laid (fun _ _ q=>ub _ q) (ui _) ⟨hz,its,0,hv,uo _ rfl⟩
theorem Inv.fresh(I:Inv X pins σ H s):H s.heap.objs.size=none:=I.hok.fresh (ui _)
theorem Inv.lstM(I:Inv X pins σ H s)(hH:H l=some (.lst xs)):xs.length<=sizeLine/\∃(its:List Value)(n:Nat),Vals xs its/\xs.length=its.length/\s.heap.get? l=some { cls:=.type "list",data:=.seq its.toArray n }:=by
 obtain⟨z,its,n,r,e⟩:=I.hok l _ hH;exact⟨z,its,n,r,r.length,e⟩
end
def vg:V->List V->Hp->VK->Prop:=fun x vs H Q=>∃l xs y,x=.ref l/\vs=[y]/\H l=some (.lst xs)/\xs.length < sizeLine/\Q .non (upd H l (.lst (xs++[y])))
theorem Wk:MtM X "list.append" vg:=by
 intro pins s σ H x vs v us Q I rx rv h;obtain⟨l,xs,y,rfl,rfl,hH,hz,q⟩:=h;cases rx;obtain⟨u,rfl,ru⟩:=rv.one;obtain⟨z,its,n,r,hl,e⟩:=I.lstM hH;refine call_meets F.slot_list_append ⟨_,e,rfl⟩ F.entry_list_append (F.args_list_append_2 _ _) (PySem.list_append l its.toArray n u (by rw[uA];lia)) ⟨e,?_⟩;refine⟨.non,_,I.lset (its':=its++[u]) hH e (by simp) (r.append (.cons ru .nil)) ?_,rfl,q⟩;rw[uk,UB];lia
def rPop:V->List V->Hp->VK->Prop:=fun x vs H Q=>∃l xs y,x=.ref l/\vs=[]/\H l=some (.lst xs)/\xs[xs.length-1]?=some y/\Q y (upd H l (.lst xs.dropLast))
theorem zcj:MtM X "list.pop" rPop:=by
 intro pins s σ H x vs v us Q I rx rv h;obtain⟨l,xs,y,rfl,rfl,hH,hy,q⟩:=h;cases rx;have hus:=rv.zero;subst hus;obtain⟨z,its,n,r,hl,e⟩:=I.lstM hH;obtain⟨u,hu,ru⟩:=r.get hy;have hy':its.toArray[its.toArray.size-1]?=some u:=by
  show its.toArray[its.length-1]?=some u;rw[<- Array.getElem?_toList,<- hl];exact hu
 refine call_meets F.slot_list_pop ⟨_,e,rfl⟩ F.entry_list_pop (F.args_list_pop_1 _) (MeetsSeq.list_pop_last l its.toArray n u hy' (by rw[uA];lia)) ⟨e,?_⟩;refine⟨y,_,I.lset (its':=its.dropLast) hH e ?_ r.dropLast ?_,ru,q⟩
 ·show its.toArray.eraseIdxIfInBounds (its.toArray.size-1)=its.dropLast.toArray
  rw[uA,List.eraseIdxIfInBounds_toArray,YD]
 ·rw[List.length_dropLast]
  lia
def rCat:R2:=fun x y H Q=>∃l b xs zs,x=.ref l/\y=.ref b/\H l=some (.lst xs)/\H b=some (.lst zs)/\xs.length+zs.length<=sizeLine/\∀p,H p=none->Q (.ref p) (upd H p (.lst (xs++zs)))
theorem zck:OpR X (binaryOp .Add) rCat:=by
 intro pins s σ H x y v u Q I rx ry h;obtain⟨l,b,xs,zs,rfl,rfl,hH,hB,hz,q⟩:=h;cases rx;cases ry;obtain⟨z,its,n,r,hl,e⟩:=I.lstM hH;obtain⟨z2,its2,n2,r2,hl2,e2⟩:=I.lstM hB;refine PySem.P.add_list e e2 ?_ (by rw[uA,uA];lia);have ea:its.toArray++its2.toArray=(its++its2).toArray:=by simp
 rw[ea];exact⟨.ref _,_,I.lnew (t':=s.toks) (r.append r2) (by rw[uk];lia),rfl,q _ I.fresh⟩
end L2
namespace Att
open PySem PySem.W PySem.Calls PyProof.Rows
variable{P:Params}
theorem vd:∀(ns:List Int)(vs:List Value),WellAll P h vs (ns.map WData.int)->IntsAre vs ns:=by
 intro ns
 induction ns with
 |nil =>
  intro vs w;rw[List.map_nil]at w;cases w;exact .nil
 |cons n ns ih =>
  intro vs w;rw[uC]at w;cases w with
  |cons a b =>
   cases a;exact .cons _ _ (ih _ b)
theorem Wl{l:OpenLaw}(hn:l.most=some n){args:List WData}{vals:List Value}
  (hpre:l.row.toRowW.claim.pre args=true) (hwl:WellAll P h vals args) :
  ∃a vs ns,vals=[Value.ref a]/\args=[WData.list (ns.map WData.int)]/\h.get? a=some { cls:=.type "list",data:=.seq vs.toArray }/\IntsAre vs ns/\ns.length<=n:=by
 have hsh:WShape.hasAll [] args [.list .int]=true:=(pre_splitW hpre).1;have hc:l.pre.holds [] { args:=args }=true:=(pre_splitW hpre).2;obtain⟨d,r,rfl,h1,h2⟩:=hasAllW_cons hsh;obtain rfl:=hasAllW_nil h2;obtain⟨xs,rfl,h3⟩:=hasW_list h1;obtain⟨ns,rfl⟩:=items_int h3;have hlen:ns.length<=n:=by
  unfold OpenLaw.pre at hc;have h4:(WTm.not (.lt (.lit (.int (n:Int))) (.len (.arg 0)))).holds [] { args:=[.list (ns.map .int)] }=true:=by
   have h4:=(holds_andW hc).1;rw[hn]at h4;exact h4
  have h5:=condW_of h4 (w_not (w_lt w_lit (w_len_list (w_arg rfl))));rw[uc]at h5;refine Nat.le_of_not_lt fun q=>?_;have q':(n:Int) < ((ns.length:Nat):Int):=by lia
  first
   | (rw[decide_eq_true q']at h5;exact absurd h5 (by decide))
   | (simp at h5;lia)
 cases hwl with
 |cons w1 w2 =>
  cases w2;cases w1 with
  |list ho hall=>exact⟨_,_,ns,rfl,rfl,ho,vd ns _ hall,hlen⟩
theorem Wm(l:OpenLaw)(args:List WData):l.row.toRowW.claim.post args (.bool true) args=true :=
 postW_of (r:=l.row.toRowW) (X:=(true == true))
  (show WShape.has [] (.bool true) .bool=true by first|rfl|decide|simp[WShape.has,WShape.arms,WShape.armsAll])
  (show(WTm.eq .res (.lit (.bool true))).value [] { args:=args,res:=some (.bool true),after:=args }=some (.bool (true == true))from w_eq_bool (w_res rfl) w_lit) rfl
theorem attach_call{l:OpenLaw}{loose:lS}{YP:World->Heap->Prop}{d:DefRec}
  (hn:l.most=some n) (hdf:d.params.defaults=[])
  (call:∀(w:World)(s₀ s₁:Shared)(mg mb:Str->Option Value)(fa:Addr)(o:Obj)(pm cd doc:Value)(a:Addr)(vs:List Value)(ns:List Int),
   Ground q loose [] XP w s₀ mg mb s₁.heap->YP w s₁.heap ->
   s₁.heap.get? fa=some o->o.data=.func (docDef d.name d.params d.body d.scope pm cd doc)->s₁.heap.CodeRec cd d.name->mg d.name=some (.ref fa) ->
   s₁.heap.get? a=some { cls:=.type "list",data:=.seq vs.toArray }->IntsAre vs ns->ns.length<=n->s₁.gens=#[] ->
   codeAny (model l.prog w) callerA (.call (.ref fa) ⟨[.ref a],[]⟩) (fun r s'=>r=.ok (.ret (.bool true))/\OldK s₁.heap s'.heap/\s'.os=s₁.os/\AllBare s'.gens) s₁) :
  WalkO q loose XP YP l.row.toRowW d [] (fun f vs=>PySem.call f vs):=by
 intro w s₀ s₁ mg mb G Y fa o pm cd doc dV kV ho hd hcd hD hmg hg args vals as hpre hlay hrd hwl hlo;obtain rfl:dV=.none:=Dflts.none hD hdf;obtain rfl:kV=.none:=Dflts.noKw hD;obtain⟨a,vs,ns,rfl,rfl,hobj,hints,hlen⟩:=Wl hn hpre hwl;refine enter_call (codeAny_mono (call w s₀ s₁ mg mb fa o pm cd doc a vs ns G Y ho (fd_plain hd) hcd hmg hobj hints hlen hg) fun r s' hq=>?_);obtain⟨rfl,h2,h3,h4⟩:=hq;exact⟨.inl ⟨.bool true,.bool true,[],rfl,fun _=>rfl,.bool true,Wm l _,fun _=>⟨List.Pairwise.nil,fun _ hm=>(nomatch hm)⟩⟩,h2,h3,h4⟩
section
variable{E:VSP}{s:Shared}{K:Frag}
def zdN(h:Heap)(L d:Addr):List (Addr×Obj):=(uZ h.objs.size).filterMap fun a=>if a=L\/a=d then none else(h.get? a).map fun o=>(a,o)
end
end Att
namespace L2
open PySem PySem.Spec PyProof.Rows
theorem wL:∀{vs:List Value}{ns:List Int},IntsAre vs ns->Vals (ns.map V.int) vs
 |_,_,.nil=>.nil
 |_,_,.cons n t h=>.cons ⟨t,rfl⟩ (wL h)
end L2
/- THE LAST THEOREM (shape; LID, My.* are yours):
   My.Adr: a structure of the addresses that your layer names (classes,functions);My.Txt K t: a structure (Prop) of the equations over K;
   My.txt_mk:{K} {implicit addresses ..} (e1:nsIn K mainGlobals "law"=some (some (.ref f))) (e2:K.lookup f=some ⟨oc,od,.func (fnOf "law" "law" params body scope dV kV doc pm an cdv ct),sl⟩) (e3:codeIn K cdv "law"=true) ..:∃t,My.Txt K t
set_option maxRecDepth 100000 in
set_option maxHeartbeats 0 in
theorem PySem.Challenge.cw_LID_holds : PySem.Challenge.rw_LID.Holds := by
 w_on;o_law;k_head;(case hw=>w_witness2)
 k_fill
 refine L2.walk_of (l:=PySem.Challenge.rw_LID) (n:=63) (k:=40) (x:="script") (CX:=fun w=>..) (sp:=fun _=>My.sp_law) rfl (by decide) rfl ⟨rfl,by decide,by decide⟩ (fun w h Y=>PySem.W.kIn_of Y) ?F ?S ?C
 case F =>
  intro w mg fa h KX G hmg;have T:∃t,My.Txt (L2.KOf KX) t:=by
   dsimp only [L2.KOf]                          -- K must stand as «<heap const> w.params» for k_is
   refine' My.txt_mk ?e1 ?e2 ?e3 ..
   (case e1 => PySem.W.k_is)                    -- in the order: a name -> its address -> its object -> its parts
   (case e2=>PySem.W.k_is)
   ..
  obtain⟨t,T⟩:=T;have e0:=hmg.symm.trans (Uk KX G T.law);cases e0                                       -- fa is the law's own address;exact ⟨_, fun s u => .of_eq rfl, fun base kb nb => My.law_fn T kb nb⟩     -- if «.of_eq rfl» comes too early: refine' ⟨_, ?b, fun base kb nb => My.law_fn T kb nb⟩; exact fun s u => .of_eq rfl
 case S=>exact fun w H a ns hl hO hS=>..
 case C=>exact ..
(the tactic k_is has no namespace: write k_is) -/
namespace L2
open PySem PySem.Spec PyProof.Rows
variable{S:List Nat}
def z4(s:Stmt)(j:Nat):Stmt:=match s with
 |.ClassDef _ _ _ body _ _ _ _ _ _ _=>body.getD j (.Pass ⟨0,0,0,0⟩)
 |_=>.Pass ⟨0,0,0,0⟩
def zX(s:Stmt):Arguments:=match s with
 |.FunctionDef _ a _ _ _ _ _ _ _ _=>a
 |_=>{ posonlyargs:=[],args:=[],vararg:=none,kwonlyargs:=[],kw_defaults:=[],kwarg:=none,defaults:=[] }
def zO(s:Stmt):List Stmt:=match s with
 |.FunctionDef _ _ b _ _ _ _ _ _ _=>b
 |_=>[]
def zo(s:Stmt):Scope:=match s with
 |.FunctionDef _ _ _ _ _ _ sc _ _ _=>sc
 |_=>{ kind:=.function,names:=[],isGenerator:=false,isCoroutine:=false }
abbrev CX0:CXT:=fun _ _ _ _ _ _=>False
abbrev E0:XK:=fun _ _ _=>False
theorem zB:yv CX0 X E0:=fun _ _ _ _ _ _ _ h=>h.elim
structure Fun(K:ua)(x qual:Str)(st:Stmt)(f:Addr)(fd:FuncData):Prop where
 ex:∃(oc:Value)(od:Option Addr)(kV doc pm:Value)(an:Option Addr)(cdv ct:Value)(osl:Array (Option Value)),
  fd=uP x qual (zX st) (zO st) (zo st) .none kV doc pm an cdv ct/\K.lookup f=some ⟨oc,od,.func fd,osl⟩/\Uf K cdv qual=true
 kp:uE K (.ref f)=true
section
variable{K:ua}
theorem Fun.ok{k:Nat}(F:Fun K x qual st f fd)(S:FnScope N ps (zo st))(len:∀vs H Q E,sp vs H Q E->vs.length=ps.length)
  (hbody:∀(cdv:Value)(A:Around)(outer:List Env)(s:Shared)(H:Hp)(vs:List V)(Q:VK)(E:XK),Room k (A.deeper (envOfC qual (zo st) s.heap.objs.size f cdv))->sp vs H Q E ->
   ∃t,PSs (cxOf CX0 P w K mg base N qual (zo st) f cdv A outer s H E).nox (zO st) t/\t { nx:=fun _ H'=>Q .non H',rt:=Q } (start N vs) H):FnOk P w K mg base CX0 (k+1) f fd ps sp:=by
 obtain⟨oc,od,kV,doc,pm,an,cdv,ct,osl,rfl,lk,hcd⟩:=F.ex;refine ZR lk hcd S len fun A outer s H vs Q E hr hsp=>?_;obtain⟨t,h,q⟩:=hbody cdv A outer s H vs Q E hr hsp;exact⟨t,h.nox,q⟩
theorem Fun.binds(F:Fun K x qual st f fd)
  (h:∀(kV doc pm:Value)(an:Option Addr)(cdv ct:Value)(us:List Value),us.length=ps.length->bindArgs (uP x qual (zX st) (zO st) (zo st) .none kV doc pm an cdv ct) ⟨us,[]⟩=pure (ps.zip us)):Binds K fd ps []:=by
 obtain⟨oc,od,kV,doc,pm,an,cdv,ct,osl,rfl,lk,hcd⟩:=F.ex;exact .all (h kV doc pm an cdv ct)
theorem Vv{kV:Value}(l:K.lookup f=some ⟨oc,od,.func (uP x qual (zX st) (zO st) (zo st) .none kV doc pm an cdv ct),osl⟩)
  (c:Uf K cdv qual=true) (k:uE K (.ref f)=true):Fun K x qual st f (uP x qual (zX st) (zO st) (zo st) .none kV doc pm an cdv ct):=⟨⟨oc,od,kV,doc,pm,an,cdv,ct,osl,rfl,l,c⟩,k⟩
end
theorem Vw{k:Nat}(hr:Room k A):A.units+1 < cLine:=Nat.lt_of_le_of_lt (Nat.add_le_add_left (by decide:1<=64) _) hr.units
theorem pv(i:Nat)(hN:X.N[i]?=some x:=by rfl)(hv:Vis X.env.scope x:=by first|exact Or.inl rfl|exact Or.inr (Or.inl rfl)|exact Or.inr (Or.inr rfl))(hd:(x == ("__debug__":Str))=false:=by decide)
  (hcd:(x == ("__classdict__":Str))=false:=by decide):PE X (.Name x pos) (tVar i):=zbM hN hv hd hcd
theorem iteF{A B:Prop}(h:B):if false=true then A else B:=by
 rw[if_neg uB];exact h
theorem iteT{A B:Prop}(h:A):if true=true then A else B:=by
 rw[if_pos rfl];exact h
theorem ite2{c A B:Prop}[Decidable c](h1:c->A)(h2:¬ c->B):if c then A else B:=by
 by_cases h:c
 ·rw[if_pos h]
  exact h1 h
 ·rw[if_neg h]
  exact h2 h
def Same(H H':Hp):Prop:=∀b o,H b=some o->H' b=some o
theorem Same.refl(H:Hp):Same H H:=fun _ _ h=>h
theorem Same.trans(a:Same H H1)(b:Same H1 H2):Same H H2:=fun c o h=>b c o (a c o h)
theorem Same.free(e:Same H H'){l:Addr}(h:H' l=Option.none):H l=Option.none:=by
 cases q:H l with
 |none=>rfl
 |some o =>
  rw[e l o q]at h;cases h
def AllIn(env:Env):List (Str×Addr)->Prop
 |[]=>True
 |p::r=>env.cells.lookup p.1=some p.2/\AllIn env r
theorem AllIn.get{env:Env}:∀{cl:List (Str×Addr)}{y:Str}{c:Addr},AllIn env cl->cl.lookup y=some c->env.cells.lookup y=some c
 |[],_,_,_,h=>by simp at h
 | (n,a)::r,y,c,⟨e,t⟩,h=>by
  rw[Uz]at h;by_cases q:y=n
  ·subst q
   rw[beq_self_eq_true]at h;cases h;exact e
  ·have q':(y == n)=false:=beq_eq_false_iff_ne.mpr q
   rw[q']at h;exact AllIn.get t h
def wp:List Nat->St->St
 |[],σ=>σ
 |i::S,σ=>wp S (σ.set i none)
theorem xR:∀(S:List Nat)(σ:St),(wp S σ).length=σ.length
 |[],_=>rfl
 |i::S,σ=>by rw[wp,xR S,List.length_set]
theorem ju:∀(S:List Nat)(σ:St){j:Nat}{v:V},(wp S σ)[j]?=some (some v)->σ[j]?=some (some v)/\j∉S
 |[],_,_,_,h=>⟨h,by simp⟩
 |i::S,σ,j,v,h=>by
  obtain⟨h1,h2⟩:=ju S (σ.set i none) h;rw[List.getElem?_set]at h1;by_cases e:i=j
  ·rw[if_pos e]at h1
   split at h1<;>cases h1
  ·rw[if_neg e]at h1
   exact⟨h1,fun z=>(uh.mp z).elim (fun z=>e z.symm) h2⟩
structure LcOk(X:Cx)(scope:Scope)(cl:List (Str×Addr))(S:List Nat):Prop where
 clos:closureFor scope X.env=pure cl
 kind:scope.kind=.function
 noC:scope.names.all (fun y=>y.2 != .cell)=true
 loc:scope.names.all (fun y=>y.2 != .local || scope.names.lookup y.1 == some .local)=true
 own:X.N.zipIdx.all (fun y=>S.contains y.2 || scope.names.lookup y.1 != some .local)=true
 sub:AllIn X.env cl
 has:scope.names.all (fun p=>p.2 != .free || ((cl.lookup p.1).isSome && (X.env.kindOf p.1 == some .cell || X.env.kindOf p.1 == some .free)))=true
section
variable{cl:List (Str×Addr)}
theorem LcOk.nocell(L:LcOk X scope cl S):∀y∈scope.names,y.2≠.cell:=fun y hy=>by
 have h:=UE.mp L.noC y hy;exact bne_iff_ne.mp h
theorem LcOk.locs(L:LcOk X scope cl S):∀y∈scope.names,y.2=.local->scope.names.lookup y.1=some .local:=fun y hy e=>by
 have h:=UE.mp L.loc y hy;rw[e]at h;simpa using h
theorem LcOk.apart(L:LcOk X scope cl S):∀(i:Nat)(y:Str),X.N[i]?=some y->i∉S->scope.names.lookup y≠some .local:=fun i y hy hi=>by
 have h:=UE.mp L.own (y,i) (List.mem_zipIdx_iff_getElem?.mpr hy);have hc:S.contains i=false:=by simpa using hi
 rw[hc,Bool.false_or]at h;exact bne_iff_ne.mp h
theorem LcOk.free(L:LcOk X scope cl S)(h:scope.names.lookup y=some .free):(∃c,cl.lookup y=some c)/\(X.env.kindOf y=some .cell\/X.env.kindOf y=some .free):=by
 have h1:=UE.mp L.has _ (Ue h);simp only[bne_self_eq_false,Bool.false_or,UN,Bool.or_eq_true,beq_iff_eq]at h1
 exact⟨tM.mp h1.1,h1.2⟩
theorem yY(names:List (Str×NameKind))(env:Env)(y:Str):
  (names.map fun(n,k)=>if(k == NameKind.free && env.scope.kind == .function && env.kindOf n == some .cell)then(n,NameKind.cell)else(n,k)).lookup y =
   (names.lookup y).map fun k=>if(k == NameKind.free && env.scope.kind == .function && env.kindOf y == some .cell)then NameKind.cell else k:=by
 induction names with
 |nil=>rfl
 |cons p r ih =>
  obtain⟨n,k⟩:=p;rw[uC];by_cases q:y=n
  ·subst q
   by_cases hc:(k == NameKind.free && env.scope.kind == .function && env.kindOf y == some .cell)=true
   ·show UP y ((if(k == NameKind.free && env.scope.kind == .function && env.kindOf y == some .cell)=true then(y,NameKind.cell)else(y,k))::_)=_
    rw[if_pos hc,Uz,Uz,beq_self_eq_true];show some NameKind.cell=some (if _ then _ else _);rw[if_pos hc]
   ·show UP y ((if(k == NameKind.free && env.scope.kind == .function && env.kindOf y == some .cell)=true then(y,NameKind.cell)else(y,k))::_)=_
    rw[if_neg hc,Uz,Uz,beq_self_eq_true];show some k=some (if _ then _ else _);rw[if_neg hc]
  ·have q':(y == n)=false:=beq_eq_false_iff_ne.mpr q
   by_cases hc:(k == NameKind.free && env.scope.kind == .function && env.kindOf n == some .cell)=true
   ·show UP y ((if(k == NameKind.free && env.scope.kind == .function && env.kindOf n == some .cell)=true then(n,NameKind.cell)else(n,k))::_)=_
    rw[if_pos hc,Uz,Uz,q'];exact ih
   ·show UP y ((if(k == NameKind.free && env.scope.kind == .function && env.kindOf n == some .cell)=true then(n,NameKind.cell)else(n,k))::_)=_
    rw[if_neg hc,Uz,Uz,q'];exact ih
theorem LcOk.kinds(L:LcOk X scope cl S)(h:(relabel scope X.env).names.lookup y=some .cell\/(relabel scope X.env).names.lookup y=some .free):scope.names.lookup y=some .free:=by
 have e:(relabel scope X.env).names.lookup y=(scope.names.lookup y).map fun k=>if(k == NameKind.free && X.env.scope.kind == .function && X.env.kindOf y == some .cell)then NameKind.cell else k:=yY scope.names X.env y
 rw[e]at h;cases q:scope.names.lookup y with
 |none=>rw[q]at h;rcases h with h|h<;>cases h
 |some k =>
  have hk:k≠.cell:=L.nocell _ (Ue q);rw[q]at h;by_cases hf:k=.free
  ·rw[hf]
  ·have z:(k == NameKind.free)=false:=beq_eq_false_iff_ne.mpr hf
   rw[UZ,z,Bool.false_and,Bool.false_and,if_neg uB]at h;rcases h with h|h
   ·exact absurd (uQ.inj h) hk
   ·exact absurd (uQ.inj h) hf
def cxLC(X:Cx)(scope:Scope)(cl:List (Str×Addr))(M:lS)(C:Addr)(s₀:Shared)(H₀:Hp)(ex:List Addr)(E:VSP):Cx where
 prog:=X.prog
 w:=X.w
 K:=X.K
 mg:=X.mg
 base:=X.base
 A:=X.A
 N:=X.N++M
 s₀:=s₀
 H₀:=H₀
 env:=compEnvC scope cl C X.env
 outer:=X.stack
 stack:=X.stack
 ex:=ex
 fn:=fun _=>false
 calm:=X.calm
 pn:=[]
 xe:=E
variable{s:Shared}{ex:List Addr}{M:lS}
theorem Vx{E:VSP}{tk:Nat}{m:Str->Option Value}(I:Inv X pins σ H s)(L:LcOk X scope cl S)(hf:∀b∈ex,FpOk X pins H b)(hlt:∀b∈ex,b < s.heap.objs.size)
  (hk:∀b o,s.heap.get? b=some o->h1.get? b=some o) (hC:s.heap.objs.size<=C) (hns:h1.Ns C m) :
  Inv (cxLC X scope cl M C s H ex E) [] (wp S σ++uG M.length none) H { s with heap:=h1,toks:=tk }:=by
 refine⟨⟨I.ok.mod,L.kind,I.ok.glob,I.ok.blt,hC,fun x y c a b=>I.ok.inj x y c (L.sub.get a) (L.sub.get b),fun y hy=>(L.free (L.kinds hy)).1,(fun x c z=>nomatch z),I.ok.hd,I.ok.frames,.inl rfl,fun b hb=>⟨?_,fun x c e=>?_⟩,
   I.bs,uy I.ok.bsz I.sz,fun b o e hb=>?_,fun b hb z=>?_,I.stack,I.stkFree⟩,
  rfl,I.bare,Un.kept hk,⟨m,hns,fun i y v e1 e2 e3=>?_⟩,fun y c e=>?_,I.hok.fresh hC,fun y c e=>I.freeC y c (L.sub.get e),fun p hp=>absurd (show p∈([]:List (Addr×Obj))from hp) (by simp),I.hok.kept hk,?_⟩
 ·exact uI (uv (hlt b hb) hC)
 ·exact(hf b hb).2.2.2.2.1 x c (L.sub.get e)
 ·rcases(hf b hb).2.2.2.1 with z|z
  ·exact I.ok.noex b o e z
  ·exact absurd (uv (um e) (uy I.ok.bsz z)) (u7 _)
 ·rcases uh.mp (I.stkSub b z)with q|q
  ·exact(hf b hb).2.1 q
  ·exact(hf b hb).2.2.1 q
 ·have e1':(X.N++M)[i]?=some y:=e1
  by_cases hi:i < σ.length
  ·rw[uu (by rw[xR];exact hi)]at e2
   obtain⟨e2,hiS⟩:=ju S σ e2;rw[uu (by rw[<- I.len];exact hi)]at e1';obtain⟨m0,hn0,hl⟩:=I.loc;have hy:scope.names.lookup y=some .free:=by
    rcases e3 with e3|e3
    ·have q:=yY scope.names X.env y
     have e3':(relabel scope X.env).names.lookup y=some .local:=e3;cases z:scope.names.lookup y with
     |none =>
      rw[z]at q;have q':(relabel scope X.env).names.lookup y=none:=q;rw[e3']at q';cases q'
     |some k =>
      have hk1:k≠.local:=fun w=>L.apart i y e1' hiS (w ▸ z);rw[z,UZ]at q;have q':some NameKind.local=some (if(k == NameKind.free && X.env.scope.kind == .function && X.env.kindOf y == some .cell)=true then NameKind.cell else k):=e3'.symm.trans q;have q2:=uQ.inj q';by_cases hc:(k == NameKind.free && X.env.scope.kind == .function && X.env.kindOf y == some .cell)=true
      ·rw[if_pos hc]at q2;cases q2
      ·rw[if_neg hc]at q2;exact absurd q2.symm hk1
    ·exact L.kinds e3
   obtain⟨⟨c,hc⟩,hk2⟩:=L.free hy;obtain⟨u,r,l⟩:=hl i y v e1' e2 (.inr hk2);refine⟨u,r,.inr ⟨?_,c,hc,?_⟩⟩
   ·have q:=yY scope.names X.env y
    rw[hy,UZ]at q;have q':(relabel scope X.env).names.lookup y=some (if(NameKind.free == NameKind.free && X.env.scope.kind == .function && X.env.kindOf y == some .cell)=true then NameKind.cell else NameKind.free):=q;by_cases hc:(NameKind.free == NameKind.free && X.env.scope.kind == .function && X.env.kindOf y == some .cell)=true
    ·rw[if_pos hc]at q';exact .inl q'
    ·rw[if_neg hc]at q';exact .inr q'
   ·rcases l with⟨l1,_⟩|⟨_,c',e',z⟩
    ·rcases hk2 with w|w<;>(rw[l1]at w;cases w)
    ·have ec:c'=c:=by
      have w:=L.sub.get hc;rw[e']at w;exact uQ.inj w
     subst ec;obtain⟨o,ho,hd⟩:=z;exact⟨o,hk _ _ ho,hd⟩
  ·rw[ut (by rw[xR];exact Nat.not_lt.mp hi),List.getElem?_replicate]at e2
   split at e2<;>cases e2
 ·obtain⟨v,o,ho,hd⟩:=I.cell y c (L.sub.get e)
  exact⟨v,o,hk _ _ ho,hd⟩
 ·show(wp S σ++uG M.length none).length=(X.N++M).length
  rw[uk,uk,Ug,xR,I.len]
def PTs(X:Cx)(ifs:List Expr)(t:TT):Prop :=
 ∀(pins:List (Addr×Obj))(s:Shared)(σ:St)(H:Hp)(Q:Bool->Hp->Prop),Inv X pins σ H s->t σ H Q ->
  wpAny (model X.prog X.w) X.A (forIn ifs true fun c r=>if r=true then do let ok <- isTrue c X.env (eval c X.env);pure (ForInStep.yield ok)else pure (ForInStep.yield r)) (TP X pins σ Q) X.xe s
def tYes:TT:=fun _ H Q=>Q true H
theorem QP:PTs X [] tYes:=fun _ _ _ H _ I h=>wpAny_tests_nil ⟨H,I,h⟩
theorem QQ{c:Expr}{t:TT}(h:PT X c t):PTs X [c] t:=fun pins s σ H Q I q=>wpAny_tests_one (h pins s σ H Q I q)
def lcBy(J:It)(g:TG)(tt:TT)(te:TE)(Q:VK)(W:Nat->Nat->St->List V->Hp->Prop):Prop:=∀i m τ ys H,W i m τ ys H ->
 (J.stop i H/\∀p,H p=none->Q (.ref p) (upd H p (.lst ys))) \/
 (J.go i H/\∃N:St->List V->Hp->Prop,(∀τ' ys' H',N τ' ys' H'->∃m',m' < m/\W (i+1) m' τ' ys' H')/\∀x H',J.yld i H x H'->g x τ H' fun τ2 H2=>tt τ2 H2 fun b H3 =>
  if b=true then te τ2 H3 fun y H4=>ys.length < sizeLine/\N τ2 (ys++[y]) H4 else N τ2 ys H3)
def tLC(wi:TI)(g:TG)(tt:TT)(te:TE)(n:Nat):TE:=fun σ H Q=>wi σ H fun J H1=>∃W,(∃m,W 0 m (σ++uG n none) [] H1)/\lcBy J g tt te Q W
def tLCS(S:List Nat)(wi:TI)(g:TG)(tt:TT)(te:TE)(n:Nat):TE:=fun σ H Q=>wi σ H fun J H1=>∃W,(∃m,W 0 m (wp S σ++uG n none) [] H1)/\lcBy J g tt te Q W
theorem Xq{J:It}{tn:Nat->Heap->Prop}{Q:VK}{E:VSP}{R:Value->Addr->Result->Shared->Prop}{Al:Addr->(Value->Shared->Prop)->Prop}
  {W:Nat->Nat->St->List V->Hp->Prop} {m0:Nat} (L:LcOk X scope cl S) (hc:X.calm=true) (I:Inv X pins σ H s) (T:Turn X.prog X.w X.K tg J fp it tn) (st:tn 0 s.heap) (hf:∀b∈fp,FpOk X pins H b)
  (hg:∀C s H ex E,PG (cxLC X scope cl M C s H ex E) tg g) (ht:∀C s H ex E,PTs (cxLC X scope cl M C s H ex E) ifs tt) (he:∀C E,Al C E->PE (cxLC X scope cl M C s H fp E) elt te)
  (hal:∀C,s.heap.objs.size < C->Al C (notedBy (model X.prog X.w) X.A (compEnvC scope cl C X.env) (fun e s'=>R (.ref s.heap.objs.size) C (.error e) s')))
  (w0:W 0 m0 (wp S σ++uG M.length none) [] H) (turn:lcBy J g tt te Q W)
  (hR:∀D C s' H' ys m,Inv X pins σ (upd H' D (.lst ys)) s'->FpOk X pins (upd H' D (.lst ys)) C->s'.heap.Ns C m->Q (.ref D) (upd H' D (.lst ys))->R (.ref D) C (.ok .next) s') :
  wpAny (model X.prog X.w) X.A (newList []) (fun acc s₃=>wpAny (model X.prog X.w) X.A (newFunctionEnv scope X.env.globals cl [] X.env.qual none .none (some X.env)) (fun cenv s₄ =>
   codeAny (model X.prog X.w) X.A (.compStart (.ListComp elt [⟨tg,iter,ifs,0⟩] scope pos) 0 (.ref it) acc { cenv with scope:=relabel scope X.env }) (R acc cenv.locals) s₄) E s₃) E s:=by
 refine wpAny_newObj_type (wpAny_newFunctionEnv L.nocell (by intro y hy;simp at hy) (fun h₁ hns₁ hsb₁=>?_) L.kind);dsimp only at hns₁ hsb₁ ⊢
 generalize hG:s.heap.push { cls:=.type "list",dict:=none,data:=.seq ([]:List Value).toArray }=G at hns₁ hsb₁ ⊢;have hC:G.objs.size=s.heap.objs.size+1:=by rw[<- hG,uX]
 have hDC:s.heap.objs.size≠G.objs.size:=by rw[hC];exact uI (tI _)
 have hCle:s.heap.objs.size<=G.objs.size:=by rw[hC];exact tE _
 have old:∀b o,s.heap.get? b=some o->h₁.get? b=some o:=fun b o e =>
  hsb₁.extBut b o (by rw[hC];exact uI (Nat.lt_succ_of_lt (um e))) (ub _ (hG ▸ ub _ e))
 have hacc:h₁.get? s.heap.objs.size=some { cls:=.type "list",data:=.seq ([]:List Value).toArray }:=hsb₁.extBut _ _ hDC (ub _ (hG ▸ uo _ rfl));have fpo:∀b∈fp,b < s.heap.objs.size:=fun b hb=>let ⟨o,e,_⟩:=T.obj 0 _ st b hb;um e
 have st1:tn 0 h₁:=T.keep 0 _ _ st fun b _ o e=>old b o e;have nofs:s.heap.objs.size∉frs X.stack:=fun z=>by
  rcases uh.mp (I.stkSub _ z)with q|q
  ·exact absurd (q ▸ I.lt) (u7 _)
  ·exact I.nofs (ui _) q
 have nocl:∀y c,cl.lookup y=some c->c≠s.heap.objs.size:=fun y c e z=>by
  obtain⟨v,o,ho,_⟩:=I.cell y c (L.sub.get e);exact absurd (z ▸ um ho) (u7 _)
 have loop:∀s₃:Shared,s₃={ s with heap:=h₁,toks:=s.toks+([]:List (Str×Value)).length } ->
   codeAny (model X.prog X.w) X.A (.compLoop (.ListComp elt [⟨tg,iter,ifs,0⟩] scope pos) 0 (.ref it) (.ref s.heap.objs.size) (compEnvC scope cl G.objs.size X.env)) (R (.ref s.heap.objs.size) G.objs.size) s₃:=by
  rintro s₃ rfl;have hAl:=hal G.objs.size (by rw[hC];exact tI _);generalize hE:notedBy (model X.prog X.w) X.A (compEnvC scope cl G.objs.size X.env) (fun e s'=>R (.ref s.heap.objs.size) G.objs.size (.error e) s')=E' at hAl ⊢;have IY:Inv (cxLC X scope cl M G.objs.size s H fp E') [] (wp S σ++uG M.length none) H { s with heap:=h₁,toks:=s.toks+([]:List (Str×Value)).length }:=Vx I L hf fpo old hCle hns₁;refine codeAny_loop rfl (fun n s'=>∃(i:Nat)(τ:St)(H':Hp)(ys:List V)(its:List Value)(k:Nat),Inv (cxLC X scope cl M G.objs.size s H fp E') [] τ H' s'/\tn i s'.heap/\(∀b∈fp,H' b=none) /\
   s'.heap.get? s.heap.objs.size=some { cls:=.type "list",data:=.seq its.toArray k }/\H' s.heap.objs.size=none/\Vals ys its/\ys.length<=sizeLine/\W i n τ ys H') (fun n s' hI=>?_) m0
   ⟨0,_,H,[],[],_,IY,st1,fun b hb=>(hf b hb).1,hacc,I.hok.fresh (ui _),.nil,uU _,w0⟩
  obtain⟨i,τ,H1,ys,its,k,I1,st1,fr1,eD,fD,rv,hz,w1⟩:=hI;show wpAny _ X.A ((compTurn (.ListComp elt [⟨tg,iter,ifs,0⟩] scope pos) 0 (.ref it) (.ref s.heap.objs.size) (compEnvC scope cl G.objs.size X.env)).onRaise (fun x=>do noteFrame x (compEnvC scope cl G.objs.size X.env);theTreesLotGoes x)) _ _ s';refine wpAny_noted ?_;rw[hE,compTurn_list];have I1':Inv (cxLC X scope cl M G.objs.size s H fp E') [(s.heap.objs.size,{ cls:=.type "list",data:=.seq its.toArray k })] τ H1 s':=I1.pins_of fun p hp=>by
   have e:p=(s.heap.objs.size,{ cls:=.type "list",data:=.seq its.toArray k }):=by simpa using hp
   subst e;exact⟨eD,fD,hDC,nofs,(fun v z=>nomatch z)⟩
  have stat:∀{H':Hp},(∀b∈fp,H' b=none)->∀b∈fp,FpOk (cxLC X scope cl M G.objs.size s H fp E') [(s.heap.objs.size,{ cls:=.type "list",data:=.seq its.toArray k })] H' b:=fun hn b hb=>by
   refine⟨hn b hb,?_,?_,.inl hb,fun x c e=>(hf b hb).2.2.2.2.1 x c (L.sub.get e),fun p hp z=>?_⟩
   ·exact uI (uv (fpo b hb) hCle)
   ·intro z
    rcases uh.mp (I.stkSub b z)with q|q
    ·exact(hf b hb).2.1 q
    ·exact(hf b hb).2.2.1 q
   ·have e:p=(s.heap.objs.size,{ cls:=.type "list",data:=.seq its.toArray k }):=by
     have hp':p∈[(s.heap.objs.size,({ cls:=.type "list",data:=.seq its.toArray k }:Obj))]:=hp;simpa using hp'
    subst e;exact absurd (z ▸ fpo b hb) (u7 _)
  refine wpAny_bind (wpAny_standAt (wpAny_bind ?_));rcases turn i n τ ys H1 w1 with⟨stop,q⟩|⟨go,N,hN,step⟩
  ·refine thn (T.done (cxLC X scope cl M G.objs.size s H fp E') rfl rfl rfl hc i _ s' τ H1 E' I1' (stat fr1) st1 stop) fun r s4 hq_=>?_
   obtain⟨hr,I4⟩:=hq_;subst hr;refine wpAny_pure ?_;obtain⟨eD4,_,_⟩:=I4.pin (s.heap.objs.size,{ cls:=.type "list",data:=.seq its.toArray k }) (Ua _ uS);have base4:Un (frs X.stack) fp H H1 s.heap s4.heap:=I4.base;have un:Un (frs X.stack) fp H (upd H1 s.heap.objs.size (.lst ys)) s.heap s4.heap:=⟨base4.keep,base4.slot,fun b o e n hx=>by rw[zh (uI (um e))];exact base4.free b o e n hx,base4.there,
    fun b xs e=>by rw[zh (zk (base4.tups b xs e) fD)];exact base4.tups b xs e,fun b o u e=>by rw[zh (zk (base4.frzs b o u e) fD)];exact base4.frzs b o u e,
    fun b ps e=>by
     obtain⟨more,w⟩:=base4.tbls b ps e;exact⟨more,by rw[zh (zk w fD)];exact w⟩⟩
   have hok:HOk X.prog X.w (upd H1 s.heap.objs.size (.lst ys)) s4.heap:=fun b u e=>by
    by_cases hb:b=s.heap.objs.size
    ·subst hb
     rw[zg]at e;cases e;exact⟨hz,its,k,rv,eD4⟩
    ·rw[zh hb]at e
     exact(I4.hok b u e).stay (fun c v _ q=>q) (fun c q=>by rw[zh (zk q fD)];exact q) fun c xs q=>by rw[zh (zk q fD)];exact q
   have IX:Inv X pins σ (upd H1 s.heap.objs.size (.lst ys)) s4:=I.call' I4.os un hok I4.bare fun b hb=>⟨(hf b hb).2.2.2.1,(hf b hb).2.1,(hf b hb).2.2.2.2.1,(hf b hb).2.2.2.2.2⟩;have fC:H1 G.objs.size=none:=I4.free;obtain⟨m4,n4,_⟩:=I4.loc;exact hR _ _ s4 H1 ys m4 IX (I.fpOk hCle (by rw[zh (Ne.symm hDC)];exact fC)) n4 (q _ fD)
  ·refine thn (T.item (cxLC X scope cl M G.objs.size s H fp E') rfl rfl rfl hc i _ s' τ H1 E' I1' (stat fr1) st1 go) fun r s4 hq_=>?_
   obtain⟨u,hr,h4⟩:=hq_;subst hr;refine wpAny_bind (thn h4 fun _ s5 hq_=>?_);obtain⟨x,H5,I5,r5,y5,st5,fr5⟩:=hq_;have I5':=I5.pinned (stat fr5) (T.obj _ _ st5);have kept:∀{τ6:St}{H6:Hp}{s6:Shared},Inv (cxLC X scope cl M G.objs.size s H fp E') ([(s.heap.objs.size,{ cls:=.type "list",data:=.seq its.toArray k })]++vv fp s5.heap) τ6 H6 s6 ->
     Inv (cxLC X scope cl M G.objs.size s H fp E') [] τ6 H6 s6/\tn (i+1) s6.heap/\(∀b∈fp,H6 b=none)/\s6.heap.get? s.heap.objs.size=some { cls:=.type "list",data:=.seq its.toArray k }/\H6 s.heap.objs.size=none:=fun{τ6 H6 s6} I6=>by
    have pin:∀b∈fp,∀o,s5.heap.get? b=some o->s6.heap.get? b=some o/\H6 b=none:=fun b hb o e =>
     let w:=I6.pin (b,o) (Ua _ (Ua _ (x5 hb e)))
     ⟨w.1,w.2.1⟩
    have pD:=I6.pin (s.heap.objs.size,{ cls:=.type "list",data:=.seq its.toArray k }) (Ua _ (U2 _ uS));refine⟨I6.pins_of (fun p hp=>nomatch hp),T.keep _ _ _ st5 fun b hb o e=>(pin b hb o e).1,fun b hb=>?_,pD.1,pD.2.1⟩;obtain⟨o,e,_⟩:=T.obj _ _ st5 b hb;exact(pin b hb o e).2
   refine wpAny_bind (thn (hg _ _ _ _ _ _ s5 τ H5 x u _ I5' r5 (step x H5 y5)) fun _ s6 hq_=>?_);obtain⟨σ6,H6,I6,q6⟩:=hq_;refine wpAny_bind (thn (ht _ _ _ _ _ _ s6 σ6 H6 _ I6 q6) fun ok s7 hq_=>?_);obtain⟨H7,I7,q7⟩:=hq_;cases ok with
   |false =>
    have q7':N σ6 ys H7:=by simpa using q7
    obtain⟨m',hm,w7⟩:=hN _ _ _ q7';obtain⟨K1,K2,K3,K4,K5⟩:=kept I7;exact wpAny_pure ⟨rfl,m',hm,i+1,σ6,H7,ys,its,k,K1,K2,K3,K4,K5,rv,hz,w7⟩
   |true =>
    have q7':te σ6 H7 fun y H4=>ys.length < sizeLine/\N σ6 (ys++[y]) H4:=by simpa using q7
    refine wpAny_bind (wpAny_bind (thn (he _ _ hAl _ s7 σ6 H7 _ I7 q7') fun y s8 hq_=>?_));obtain⟨v8,H8,I8,r8,hz8,n8⟩:=hq_;obtain⟨m',hm,w8⟩:=hN _ _ _ n8;obtain⟨K1,K2,K3,K4,K5⟩:=kept I8;have hl:=rv.length;refine wpAny_bind (wpAny_list_append_plain (hsz:=by rw[uA];lia) ⟨k,K4⟩ fun h9 hl9 hs9=>wpAny_pure (wpAny_pure ⟨rfl,m',hm,?_⟩));obtain⟨k9,e9⟩:=hl9;have I9:Inv (cxLC X scope cl M G.objs.size s H fp E') [] σ6 H8 { s8 with heap:=h9 }:=K1.turned (t':=s8.toks) (it:=s.heap.objs.size) (fun b o hb e=>(hs9.2 b hb).trans e) K5 hDC (.inr (ui _))
     (fun y c e=>nocl y c e) fun p hp=>nomatch hp
    refine⟨i+1,σ6,H8,ys++[v8],its++[y],k9,I9,T.keep _ _ _ K2 fun b hb o e=>(hs9.2 b (uI (fpo b hb))).trans e,K3,?_,K5,rv.append (.cons r8 .nil),?_,w8⟩
    ·rw[e9]
     simp
    ·rw[uk,UB]
     lia
 exact codeAny_compStart_list (loop _ rfl) (T.self X.A 0 _ _ _ st1 (loop _ rfl))
variable{wi:TI}
theorem zdn(L:LcOk X scope cl S)(hc:X.calm=true)(hi:PI X tg iter wi)(hg:∀C s H ex E,PG (cxLC X scope cl M C s H ex E) tg g)(ht:∀C s H ex E,PTs (cxLC X scope cl M C s H ex E) ifs tt)(he:∀C s H ex E,PE (cxLC X scope cl M C s H ex E) elt te)
  (hs:∀x,foldedSetIterable iter X.env x=pure x:=by intro _;rfl):PE X (.ListComp elt [⟨tg,iter,ifs,0⟩] scope pos) (tLCS S wi g tt te M.length):=by
 intro pins s σ H Q I h;rw[eval_ListComp];refine wpAny_comprehension_free (use:=none) rfl hs L.clos L.kind L.locs (thn (hi pins s σ H _ I h) fun v s1 h1=>thn h1 fun itv s2 h2=>?_);obtain⟨it,fp,tn,J,H2,rfl,I2,T,st2,f2,W,⟨m0,w0⟩,turn⟩:=h2;refine Xq (R:=fun acc C=>compPost (model X.prog X.w) X.A X.xe none (EP X pins σ Q) acc C) (Al:=fun _ _=>True) L hc I2 T st2 f2 hg ht (fun C E _=>he C _ _ _ E) (fun _ _=>trivial) w0 turn ?_;intro D C s' H' ys m IX fC ns q;exact⟨m,ns,fun h' sb=>⟨.ref D,_,IX.turned (t':=s'.toks) (fun b o hb e=>(sb.2 b hb).trans e) fC.1 fC.2.1 fC.2.2.2.1 fC.2.2.2.2.1 fC.2.2.2.2.2,rfl,q⟩⟩
theorem jw(hN:X.N.Nodup)(hi':X.N[i]?=some y)(hy:Loc X.env.scope y)(L:LcOk X scope cl S)(hc:X.calm=true)(hi:PI X tg iter wi)(hg:∀C s H ex E,PG (cxLC X scope cl M C s H ex E) tg g)
  (ht:∀C s H ex E,PTs (cxLC X scope cl M C s H ex E) ifs tt) (he:∀C s H ex E,PE (cxLC X scope cl M C s H ex E) elt te) (hs:∀x,foldedSetIterable iter X.env x=pure x:=by intro _;rfl)
  (hsw:swapsWith (.ListComp elt [⟨tg,iter,ifs,0⟩] scope pos) (some (.Name y py)) spos.line X.env=pure true:=by rfl)
  (hf:X.fn y=true\/X.env.scope.names.lookup y=some .local:=by first|exact .inl rfl|exact .inr rfl|assumption) :
  PS X (.Assign [.Name y py] (.ListComp elt [⟨tg,iter,ifs,0⟩] scope pos) spos) (fun D σ H=>tLCS S wi g tt te M.length σ H fun v H1=>D.nx (σ.set i (some v)) H1):=by
 intro pins s σ H D I h;rw[exec_Assign_Name_used _ _ _ _ hsw];refine wpAny_bind (wpAny_standAt (wpAny_bind ?_));show wpAny _ X.A (do let _ <- comprehension (.ListComp elt [⟨tg,iter,ifs,0⟩] scope pos) scope X.env _ (newList []) false (eval iter X.env) (some (assign (.Name y py) X.env))) _ _ s;refine wpAny_bind (wpAny_mono (wpAny_comprehension_free (use:=some (assign (.Name y py) X.env)) (Q:=fun _ s'=>SP X pins D .next s') rfl hs L.clos L.kind L.locs
  (thn (hi pins s σ H _ I h) fun v s1 h1=>thn h1 fun itv s2 h2=>?_)) (fun _ s' hq=>wpAny_pure (wpAny_pure hq)) fun _ _ e=>e)
 obtain⟨it,fp,tn,J,H2,rfl,I2,T,st2,f2,W,⟨m0,w0⟩,turn⟩:=h2;refine Xq (R:=fun acc C=>compPost (model X.prog X.w) X.A X.xe (some (assign (.Name y py) X.env)) (fun _ s'=>SP X pins D .next s') acc C) (Al:=fun _ _=>True) L hc I2 T st2 f2 hg ht (fun C E _=>he C _ _ _ E) (fun _ _=>trivial) w0 turn ?_;intro D' C s' H' ys m IX fC ns q;show wpAny _ X.A (assign (.Name y py) X.env (.ref D')) _ _ s';refine wpAny_assign_Name (jj IX hN hi' hy (v:=.ref D') rfl (fun s'' I'' ⟨a,sb,ha⟩=>?_) hf);refine⟨m,ns.sameBut sb ?_,fun h' sb'=>⟨_,_,I''.turned (t':=s''.toks) (fun b o hb e=>(sb'.2 b hb).trans e) fC.1 fC.2.1 fC.2.2.2.1 fC.2.2.2.2.1 fC.2.2.2.2.2,q⟩⟩;rcases ha with ha|ha
 ·rw[ha];exact fC.2.1
 ·exact Ne.symm (fC.2.2.2.2.1 y a ha)
end
def clOf(scope:Scope)(env:Env):List (Str×Addr):=scope.names.foldl (fun cs p=>if p.2 == .free then(match env.cells.lookup p.1 with|some a=>(p.1,a)::cs|none=>cs)else cs) []
theorem Xr(env:Env):∀(names:List (Str×NameKind))(acc:List (Str×Addr)),AllIn env acc->AllIn env (names.foldl (fun cs p=>if p.2 == .free then(match env.cells.lookup p.1 with|some a=>(p.1,a)::cs|none=>cs)else cs) acc)
 |[],_,h=>h
 | (n,k)::r,acc,h=>by
  rw[U0];refine Xr env r _ ?_;by_cases hk:(k == NameKind.free)=true
  ·rw[if_pos hk]
   cases e:env.cells.lookup n with
   |none=>exact h
   |some a=>exact⟨e,h⟩
  ·rw[if_neg hk]
   exact h
section
variable{M:lS}{wi:TI}
theorem zbm(h1:closureFor scope X.env=pure (clOf scope X.env))(h2:scope.kind=.function)(h3:scope.names.all (fun y=>y.2 != .cell)=true)(h4:scope.names.all (fun y=>y.2 != .local || scope.names.lookup y.1 == some .local)=true)
  (h5:X.N.zipIdx.all (fun y=>S.contains y.2 || scope.names.lookup y.1 != some .local)=true) (h6:scope.names.all (fun p=>p.2 != .free || (((clOf scope X.env).lookup p.1).isSome && (X.env.kindOf p.1 == some .cell || X.env.kindOf p.1 == some .free)))=true) :
  LcOk X scope (clOf scope X.env) S:=⟨h1,h2,h3,h4,h5,Xr X.env scope.names [] trivial,h6⟩
theorem lcOk(h1:closureFor scope X.env=pure (clOf scope X.env))(h2:scope.kind=.function)(h3:scope.names.all (fun y=>y.2 != .cell)=true)(h4:scope.names.all (fun y=>y.2 != .local || scope.names.lookup y.1 == some .local)=true)
  (h5:X.N.all (fun y=>scope.names.lookup y != some .local)=true) (h6:scope.names.all (fun p=>p.2 != .free || (((clOf scope X.env).lookup p.1).isSome && (X.env.kindOf p.1 == some .cell || X.env.kindOf p.1 == some .free)))=true) :
  LcOk X scope (clOf scope X.env) []:=zbm h1 h2 h3 h4 (UE.mpr fun y hy=>by
   have hm:y.1∈X.N:=uM (List.mem_zipIdx_iff_getElem?.mp hy);rw[UE.mp h5 y.1 hm,Bool.or_true]) h6
theorem QR(M:lS)(hc:X.calm=true)(hi:PI X tg iter wi)(hg:∀C s H ex E,PG (cxLC X scope (clOf scope X.env) M C s H ex E) tg g)(ht:∀C s H ex E,PTs (cxLC X scope (clOf scope X.env) M C s H ex E) ifs tt)
  (he:∀C s H ex E,PE (cxLC X scope (clOf scope X.env) M C s H ex E) elt te) (hs:∀x,foldedSetIterable iter X.env x=pure x:=by intro _;rfl)
  (h1:closureFor scope X.env=pure (clOf scope X.env):=by with_unfolding_all rfl) (h2:scope.kind=.function:=by rfl) (h3:scope.names.all (fun y=>y.2 != .cell)=true:=by rfl) (h4:scope.names.all (fun y=>y.2 != .local || scope.names.lookup y.1 == some .local)=true:=by rfl)
  (h5:X.N.all (fun y=>scope.names.lookup y != some .local)=true:=by rfl) (h6:scope.names.all (fun p=>p.2 != .free || (((clOf scope X.env).lookup p.1).isSome && (X.env.kindOf p.1 == some .cell || X.env.kindOf p.1 == some .free)))=true:=by rfl) :
  PE X (.ListComp elt [⟨tg,iter,ifs,0⟩] scope pos) (tLC wi g tt te M.length):=zdn (lcOk h1 h2 h3 h4 h5 h6) hc hi hg ht he hs
theorem QS(M:lS)(hN:X.N.Nodup)(hi':X.N[i]?=some y)(hy:Loc X.env.scope y)(hc:X.calm=true)(hi:PI X tg iter wi)(hg:∀C s H ex E,PG (cxLC X scope (clOf scope X.env) M C s H ex E) tg g)
  (ht:∀C s H ex E,PTs (cxLC X scope (clOf scope X.env) M C s H ex E) ifs tt) (he:∀C s H ex E,PE (cxLC X scope (clOf scope X.env) M C s H ex E) elt te) (hs:∀x,foldedSetIterable iter X.env x=pure x:=by intro _;rfl)
  (hsw:swapsWith (.ListComp elt [⟨tg,iter,ifs,0⟩] scope pos) (some (.Name y py)) spos.line X.env=pure true:=by rfl)
  (hf:X.fn y=true\/X.env.scope.names.lookup y=some .local:=by first|exact .inl rfl|exact .inr rfl|assumption)
  (h1:closureFor scope X.env=pure (clOf scope X.env):=by with_unfolding_all rfl) (h2:scope.kind=.function:=by rfl) (h3:scope.names.all (fun y=>y.2 != .cell)=true:=by rfl) (h4:scope.names.all (fun y=>y.2 != .local || scope.names.lookup y.1 == some .local)=true:=by rfl)
  (h5:X.N.all (fun y=>scope.names.lookup y != some .local)=true:=by rfl) (h6:scope.names.all (fun p=>p.2 != .free || (((clOf scope X.env).lookup p.1).isSome && (X.env.kindOf p.1 == some .cell || X.env.kindOf p.1 == some .free)))=true:=by rfl) :
  PS X (.Assign [.Name y py] (.ListComp elt [⟨tg,iter,ifs,0⟩] scope pos) spos) (fun D σ H=>tLC wi g tt te M.length σ H fun v H1=>D.nx (σ.set i (some v)) H1):=jw hN hi' hy (lcOk h1 h2 h3 h4 h5 h6) hc hi hg ht he hs hsw hf
theorem Vy(S:List Nat)(M:lS)(hN:X.N.Nodup)(hi':X.N[i]?=some y)(hy:Loc X.env.scope y)(hc:X.calm=true)(hi:PI X tg iter wi)(hg:∀C s H ex E,PG (cxLC X scope (clOf scope X.env) M C s H ex E) tg g)
  (ht:∀C s H ex E,PTs (cxLC X scope (clOf scope X.env) M C s H ex E) ifs tt) (he:∀C s H ex E,PE (cxLC X scope (clOf scope X.env) M C s H ex E) elt te) (hs:∀x,foldedSetIterable iter X.env x=pure x:=by intro _;rfl)
  (hsw:swapsWith (.ListComp elt [⟨tg,iter,ifs,0⟩] scope pos) (some (.Name y py)) spos.line X.env=pure true:=by rfl)
  (hf:X.fn y=true\/X.env.scope.names.lookup y=some .local:=by first|exact .inl rfl|exact .inr rfl|assumption)
  (h1:closureFor scope X.env=pure (clOf scope X.env):=by with_unfolding_all rfl) (h2:scope.kind=.function:=by rfl) (h3:scope.names.all (fun y=>y.2 != .cell)=true:=by rfl) (h4:scope.names.all (fun y=>y.2 != .local || scope.names.lookup y.1 == some .local)=true:=by rfl)
  (h5:X.N.zipIdx.all (fun y=>S.contains y.2 || scope.names.lookup y.1 != some .local)=true:=by rfl) (h6:scope.names.all (fun p=>p.2 != .free || (((clOf scope X.env).lookup p.1).isSome && (X.env.kindOf p.1 == some .cell || X.env.kindOf p.1 == some .free)))=true:=by rfl) :
  PS X (.Assign [.Name y py] (.ListComp elt [⟨tg,iter,ifs,0⟩] scope pos) spos) (fun D σ H=>tLCS S wi g tt te M.length σ H fun v H1=>D.nx (σ.set i (some v)) H1):=jw hN hi' hy (zbm h1 h2 h3 h4 h5 h6) hc hi hg ht he hs hsw hf
end
section
variable{Q:VK}
theorem j3{K:ua}(Pv:Nat->St->List V->Hp->Prop)(h0:Pv 0 σ [] H)(hl:∀i τ ys H,i<=xs.length->Pv i τ ys H->SqL K H a xs)
  (hs:∀i x τ ys H,xs[i]?=some x->Pv i τ ys H->g x τ H fun τ2 H2=>tt τ2 H2 fun b H3=>if b=true then te τ2 H3 fun y H4=>ys.length < sizeLine/\Pv (i+1) τ2 (ys++[y]) H4 else Pv (i+1) τ2 ys H3)
  (hd:∀τ ys H,Pv xs.length τ ys H->∀p,H p=none->Q (.ref p) (upd H p (.lst ys))):∃W,(∃m,W 0 m σ [] H)/\lcBy (Itl K a) g tt te Q W:=by
 refine⟨fun i m τ ys H=>m=xs.length-i/\i<=xs.length/\Pv i τ ys H,⟨xs.length,by simp,uU _,h0⟩,?_⟩;rintro i m τ ys H ⟨rfl,hi,p⟩;have q:=hl i τ ys H hi p;by_cases hlt:i < xs.length
 ·refine .inr ⟨⟨xs,xs[i],q,by simp[hlt]⟩,Pv (i+1),fun τ' ys' H' p'=>⟨xs.length-(i+1),by lia,rfl,hlt,p'⟩,fun x H' y=>?_⟩
  obtain⟨e,y⟩:=y;subst e;exact hs i x τ ys _ (y xs q) p
 ·have e:i=xs.length:=by lia
  subst e;exact .inl ⟨⟨xs,q,ui _⟩,hd τ ys H p⟩
theorem xB{lo:Int}(Pv:Nat->St->List V->Hp->Prop)(h0:Pv 0 σ [] H)
  (hs:∀i τ ys H,i < n->Pv i τ ys H->g (.int (lo+i)) τ H fun τ2 H2=>tt τ2 H2 fun b H3=>if b=true then te τ2 H3 fun y H4=>ys.length < sizeLine/\Pv (i+1) τ2 (ys++[y]) H4 else Pv (i+1) τ2 ys H3)
  (hd:∀τ ys H,Pv n τ ys H->∀p,H p=none->Q (.ref p) (upd H p (.lst ys))):∃W,(∃m,W 0 m σ [] H)/\lcBy (Itr lo n) g tt te Q W:=by
 refine⟨fun i m τ ys H=>m=n-i/\i<=n/\Pv i τ ys H,⟨n,by simp,uU _,h0⟩,?_⟩;rintro i m τ ys H ⟨rfl,hi,p⟩;by_cases hlt:i < n
 ·refine .inr ⟨hlt,Pv (i+1),fun τ' ys' H' p'=>⟨n-(i+1),by lia,rfl,hlt,p'⟩,fun x H' y=>?_⟩
  obtain⟨e,y⟩:=y;subst e y;exact hs i τ ys _ hlt p
 ·have e:i=n:=by lia
  subst e;exact .inl ⟨ui _,hd τ ys H p⟩
end
end L2
namespace L2
open PySem PySem.Spec PyProof.Rows Builtin Builtin.Str
theorem ZT:yO X (.builtin "isinstance") (fun xs H Q=>∃x t T b,xs=[x,.ty T]/\TyOf X.K H x t/\Ud X.K t (.type T)=some b/\Q (.bl b) H):=by
 intro pins s σ H xs us Q I r h;obtain⟨x,t,T,b,rfl,ty,e,q⟩:=h;obtain⟨u,u',rfl,rx,ru⟩:=Xk r;cases ru;exact Wh I rx ty e fun tk=>⟨.bl b,H,I.tok tk,rfl,q⟩
theorem Wn(bs:List Bool):(uZ bs.length).all (fun i=>bs.getD i false)=bs.all id:=by
 induction bs with
 |nil=>rfl
 |cons b r ih =>
  rw[uJ,List.range_succ_eq_map,List.all_cons,List.all_map,List.all_cons];have e:(uZ r.length).all ((fun i=>(b::r).getD i false) ∘ tO)=(uZ r.length).all fun i=>r.getD i false:=by
   congr 1
  rw[e,ih]
  rfl
theorem vz(hc:X.calm=true):yO X (.builtin "all") (fun xs H Q=>∃(p:Addr)(bs:List Bool),xs=[.ref p]/\SqL X.K H p (bs.map V.bl)/\Q (.bl (bs.all id)) H):=by
 intro pins s σ H xs us Q I r h;obtain⟨p,bs,rfl,hq,q⟩:=h;obtain⟨u,rfl,rx⟩:=xj r;cases rx;obtain⟨its,rv,pl,hz⟩:=I.list hq;have hh:X.A.handled=none:=I.ok.hd hc;have hlen:its.toArray.size=bs.length:=by rw[uA,<- rv.length,uc]
 have hne:p≠s.heap.objs.size:=by
  obtain⟨o,n,e,_⟩:=pl;exact uI (um e)
 refine call_all_walk (wpAny_pyIter_list pl.isList ?_);refine⟨s.heap.objs.size,_,_,_,_,_,fun i=>bs.getD i false,rfl,Walks.list (A:=X.A.in1) hh _ p hne its.toArray,⟨⟨_,uo _ rfl,rfl,rfl⟩,pl.isList.at fun o e=>ub _ e⟩,fun i v s1 Q1 E1 hv hQ=>?_,fun h' tk kk=>?_⟩
 ·have hi:i < bs.length:=by
   obtain⟨hi,_⟩:=Array.getElem?_eq_some_iff.mp hv;rw[hlen]at hi;exact hi
  have hb:(bs.map V.bl)[i]?=some (V.bl (bs.getD i false)):=by
   rw[ux,uf hi];simp[List.getD,uf hi]
  obtain⟨u',hu,ru⟩:=rv.get hb;have e:its.toArray[i]?=some u':=by simpa using hu
  have hv':its.toArray[i]?=some v:=hv;rw[hv']at e;cases e;cases ru;exact wpAny_truthy_bool hQ
 ·rw[hlen,Wn]
  have I1:Inv X pins σ H { s with heap:=s.heap.push { cls:=.type "list_iterator",data:=.fields #[.ref p,.int 0 0] } }:=I.kept (t':=s.toks) fun b o e=>ub _ e;have f:=I.fpOk (H':=H) (ui _) I.fresh;exact⟨.bl (bs.all id),H,I1.turned (it:=s.heap.objs.size) (fun b o hb e=>kk b o (by simpa using hb) e) f.1 f.2.1 f.2.2.2.1 f.2.2.2.2.1 f.2.2.2.2.2,rfl,q⟩
end L2
namespace L2
open PySem PySem.Spec PyProof.Rows
def zF:Expr->Bool
 |.Starred ..=>true
 |_=>false
theorem zL(h:zF e=false):starEach (e::es) env=(false,eval e env)::starEach es env:=by
 cases e<;>first
  |rfl
  |exact absurd (show true=false from h) (by decide)
theorem yl{env:Env}{pos:Pos}:∀{es:List Expr},es.all (fun e=>!zF e)=true->(backTo pos (starEach es env)).any (·.1)=false
 |[],_=>rfl
 |e::es,h=>by
  rw[List.all_cons,UN]at h;have h1:zF e=false:=by simpa using h.1
  rw[zL h1];show(false || (backTo pos (starEach es env)).any (·.1))=false;rw[yl h.2]
  rfl
section
variable{k:Nat}{E:XK}{t:TA}{id T:String}{r:List V->Hp->VK->Prop}
theorem pa_c(ha:PE X e te)(hr:PA X es t)(h:zF e=false:=by rfl):PA X (e::es) (yf te t):=QF ha hr (zL h)
theorem zdo(F:FnOk X.prog X.w X.K X.mg X.base CX k f fd ps sp)(hr:Room k X.A)(hg:Gl X x)(hm:X.mg x=some (.ref f))(hk:uE X.K (.ref f)=true)(hb:Binds X.K fd ps ds)(hd:Vals dvs ds)(hx:yv CX X E)
  (ha:PA X (e::es) t) (hdb:(x == ("__debug__":Str))=false:=by decide) (h1:zF e=false:=by rfl) (h2:es.all (fun e=>!zF e)=true:=by rfl) :
  PE X (.Call (.Name x p) (e::es) [] pos) (wo sp dvs E t):=QG F hr hg hm hk hb hd hx ha hdb (zL h1) (yl h2)
theorem zcl(hc:yO X (.builtin id) r)(hg:Gl X x)(hm:X.mg x=none)(hv:bootBuiltins x=some (.builtin id))(ha:PA X (e::es) t)(hn:x≠"__name__":=by decide)(hdb:(x == ("__debug__":Str))=false:=by decide)
  (h1:zF e=false:=by rfl) (h2:es.all (fun e=>!zF e)=true:=by rfl):PE X (.Call (.Name x p) (e::es) [] pos) (tCB r t):=Vo hc hg hm hv ha hn hdb (zL h1) (yl h2)
theorem QT(hc:yO X (.type T) r)(hg:Gl X x)(hm:X.mg x=none)(hv:bootBuiltins x=some (.type T))(ha:PA X (e::es) t)(hn:x≠"__name__":=by decide)(hdb:(x == ("__debug__":Str))=false:=by decide)
  (h1:zF e=false:=by rfl) (h2:es.all (fun e=>!zF e)=true:=by rfl):PE X (.Call (.Name x p) (e::es) [] pos) (tCB r t):=Wi hc hg hm hv ha hn hdb (zL h1) (yl h2)
end
structure jE(X:Cx)(e:Expr)(t:TE):Prop where
 out:PE X e t
structure jT(X:Cx)(e:Expr)(t:TT):Prop where
 out:PT X e t
structure jW(X:Cx)(e:Expr)(t:TT):Prop where
 out:PW X e t
structure jA(X:Cx)(es:List Expr)(t:TA):Prop where
 out:PA X es t
structure jS(X:Cx)(st:Stmt)(t:TS):Prop where
 out:PS X st t
structure jSs(X:Cx)(sts:List Stmt)(t:TS):Prop where
 out:PSs X sts t
structure jG(X:Cx)(tg:Expr)(t:TG):Prop where
 out:PG X tg t
structure jGs(X:Cx)(tg:List Expr)(t:TGs):Prop where
 out:PGs X tg t
structure jI(X:Cx)(tg iter:Expr)(t:TI):Prop where
 out:PI X tg iter t
structure jO(X:Cx)(e:Option Expr)(t:TO):Prop where
 out:PO X e t
structure jTs(X:Cx)(ifs:List Expr)(t:TT):Prop where
 out:PTs X ifs t
structure jOp(X:Cx)(f:Value->Value->Sem Value)(r:R2):Prop where
 out:OpR X f r
structure jIx(X:Cx)(r:R2):Prop where
 out:IxR X r
structure jSl(X:Cx)(r:V->Option Int->Option Int->Hp->VK->Prop):Prop where
 out:SlR X r
structure jMt(X:Cx)(id:String)(r:V->List V->Hp->VK->Prop):Prop where
 out:MtR X id r
structure jCa(X:Cx)(f:Value)(r:List V->Hp->VK->Prop):Prop where
 out:yO X f r
section
variable{a b c:Expr}{rest:List Expr}{tb tc:TE}{t u:TA}{tA tB':TT}{p2 px:Pos}{op':CmpOp}{bop:Operator}{r r':R2}
theorem jv(i:Nat)(hN:X.N[i]?=some x:=by rfl)(hv:Vis X.env.scope x:=by first|exact Or.inl rfl|exact Or.inr (Or.inl rfl)|exact Or.inr (Or.inr rfl))(hd:(x == ("__debug__":Str))=false:=by decide)
  (hcd:(x == ("__classdict__":Str))=false:=by decide):jE X (.Name x pos) (tVar i):=⟨pv i hN hv hd hcd⟩
theorem zp{i j}:jE X (.Constant (.int i) j pos) (tC (.int i)):=⟨zbN⟩
theorem xn{b j}:jE X (.Constant (.bool b) j pos) (tC (.bl b)):=⟨zdb⟩
theorem Vz{j}:jE X (.Constant .none j pos) (tC .non):=⟨zbO⟩
theorem zu{x j}:jE X (.Constant (.str x) j pos) (tC (.str x)):=⟨zbP⟩
theorem j4{v:V}{w:Value}(hg:Gl X x)(hm:X.mg x=some w)(r:RelV v w)(hd:(x == ("__debug__":Str))=false:=by decide):jE X (.Name x pos) (tC v):=⟨Qp hg hm r hd⟩
theorem z5{v:V}{w:Value}(hg:Gl X x)(hm:X.mg x=none)(hv:bootBuiltins x=some w)(r:RelV v w)(hn:x≠"__name__":=by decide)(hd:(x == ("__debug__":Str))=false:=by decide):jE X (.Name x pos) (tC v):=⟨Qq hg hm hv r hn hd⟩
theorem zH(ho:jOp X (binaryOp bop) r)(ha:jE X a ta)(hb:jE X b tb):jE X (.BinOp a bop b pos) (tOp r ta tb):=⟨zde ho.out ha.out hb.out⟩
theorem yr(ha:jE X a ta):jE X (.UnaryOp .USub a pos) (tUn (rU fun i=>.int (-i)) ta):=⟨zdf zb8 ha.out⟩
theorem yB(ho:jOp X (compareOp op) r)(ha:jE X a ta)(hb:jE X b tb)(hm:behindInMarks op b=false):jE X (.Compare a [op] [b] pos) (tOp r ta tb):=⟨QB ho.out ha.out hb.out hm⟩
theorem zv(ho:jOp X (compareOp op) r)(ha:jE X a ta)(hb:jE X b tb)(hm:behindInMarks op b=false):jT X (.Compare a [op] [b] pos) (wn (tOp r ta tb)):=⟨QC ho.out ha.out hb.out hm⟩
theorem ZU(ho:jOp X (compareOp op) r)(ho':jOp X (compareOp op') r')(ha:jE X a ta)(hb:jE X b tb)(hc:jE X c tc)(hm:lastMarks [op,op'] [b,c]=false:=by with_unfolding_all rfl):jE X (.Compare a [op,op'] [b,c] pos) (Vh r r' ta tb tc):=⟨Vi ho.out ho'.out ha.out hb.out hc.out hm⟩
theorem z7(h:jE X e te)(he:∀whole,isTrue e X.env whole=(do let v <- whole;standAt e.pos;holding [v] (truthy v)):=by intro _;rfl):jT X e (tB te):=⟨zbS h.out he⟩
theorem xq(ha:jT X a tA):jW X (.BoolOp .And [a] pos) tA:=⟨pw_and1 ha.out⟩
theorem xD(ha:jT X a tA):jW X (.BoolOp .Or [a] pos) tA:=⟨pw_or1 ha.out⟩
theorem we(ha:jT X a tA)(hb:jW X (.BoolOp .And (b::rest) pos) tB'):jW X (.BoolOp .And (a::b::rest) pos) (tAnd tA tB'):=⟨pw_and ha.out hb.out⟩
theorem xE(ha:jT X a tA)(hb:jW X (.BoolOp .Or (b::rest) pos) tB'):jW X (.BoolOp .Or (a::b::rest) pos) (tOr tA tB'):=⟨pw_or ha.out hb.out⟩
theorem jW.pt(h:jW X e tA):jT X e tA:=⟨PW.pt h.out⟩
theorem xr(ha:jT X a tA):jT X (.UnaryOp .Not a pos) (tNot tA):=⟨zbT ha.out⟩
theorem xF{op}(h:jE X a te):jE X (.BoolOp op [a] pos) te:=⟨zbU h.out⟩
theorem xG(ha:jE X a ta)(hb:jE X (.BoolOp .And (b::rest) pos) tb):jE X (.BoolOp .And (a::b::rest) pos) (zbh ta tb):=⟨zbV ha.out hb.out⟩
theorem zdp(ha:jE X a ta)(hb:jE X (.BoolOp .Or (b::rest) pos) tb):jE X (.BoolOp .Or (a::b::rest) pos) (tOrV ta tb):=⟨zdc ha.out hb.out⟩
theorem j5(ha:jE X a ta):jE X (.UnaryOp .Not a pos) (zbi ta):=⟨zbW ha.out⟩
theorem yZ(hc:jT X c tA)(ha:jE X a ta)(hb:jE X b tb):jE X (.IfExp c a b pos) (tIf tA ta tb):=⟨W9 hc.out ha.out hb.out⟩
theorem zi:jA X [] tNil:=⟨zcb⟩
theorem ja_c(ha:jE X e te)(hr:jA X es t)(h:zF e=false:=by rfl):jA X (e::es) (yf te t):=⟨pa_c ha.out hr.out h⟩
theorem zU(h:jA X es t):jE X (.List es pos) (tLst t):=⟨zcd h.out⟩
theorem zT{x1}(h:jA X es t):jE X (.Tuple es x1 pos) (tTup t):=⟨zcc h.out⟩
theorem zR(hr:jIx X r)(ha:jE X a ta)(hb:jE X b tb)(hs:Xp b):jE X (.Subscript a b pos) (tOp r ta tb):=⟨zdl hr.out ha.out hb.out hs⟩
theorem Xs:jO X none Xo:=⟨QJ⟩
theorem vh(h:jE X e te):jO X (some e) (zbl te):=⟨QK h.out⟩
theorem vA{r:V->Option Int->Option Int->Hp->VK->Prop}{lo hi:Option Expr}{tl th:TO}(hr:jSl X r)(he:jE X e te)(hl:jO X lo tl)(hu:jO X hi th):jE X (.Subscript e (.Slice lo hi none p2) pos) (tSl r te tl th):=⟨Vq hr.out he.out hl.out hu.out⟩
variable{k:Nat}{E:XK}{id T:String}{rc:List V->Hp->VK->Prop}{rm:V->List V->Hp->VK->Prop}
theorem zdq(F:FnOk X.prog X.w X.K X.mg X.base CX k f fd ps sp)(hr:Room k X.A)(hg:Gl X x)(hm:X.mg x=some (.ref f))(hk:uE X.K (.ref f)=true)(hb:Binds X.K fd ps ds)(hd:Vals dvs ds)(hx:yv CX X E)
  (ha:jA X (e::es) t) (hdb:(x == ("__debug__":Str))=false:=by decide) (h1:zF e=false:=by rfl) (h2:es.all (fun e=>!zF e)=true:=by rfl) :
  jE X (.Call (.Name x p) (e::es) [] pos) (wo sp dvs E t):=⟨zdo F hr hg hm hk hb hd hx ha.out hdb h1 h2⟩
theorem zJ(hc:jCa X (.builtin id) rc)(hg:Gl X x)(hm:X.mg x=none)(hv:bootBuiltins x=some (.builtin id))(ha:jA X (e::es) t)(hn:x≠"__name__":=by decide)(hdb:(x == ("__debug__":Str))=false:=by decide)
  (h1:zF e=false:=by rfl) (h2:es.all (fun e=>!zF e)=true:=by rfl):jE X (.Call (.Name x p) (e::es) [] pos) (tCB rc t):=⟨zcl hc.out hg hm hv ha.out hn hdb h1 h2⟩
theorem yu(hc:jCa X (.type T) rc)(hg:Gl X x)(hm:X.mg x=none)(hv:bootBuiltins x=some (.type T))(ha:jA X (e::es) t)(hn:x≠"__name__":=by decide)(hdb:(x == ("__debug__":Str))=false:=by decide)
  (h1:zF e=false:=by rfl) (h2:es.all (fun e=>!zF e)=true:=by rfl):jE X (.Call (.Name x p) (e::es) [] pos) (tCB rc t):=⟨QT hc.out hg hm hv ha.out hn hdb h1 h2⟩
theorem wM(pa:PlainAttrs T)(slot:Slot T name id)(hty:typeOf (.builtin id)=pure (.type "method_descriptor"))(hm:jMt X id rm)(ho:jE X o to)
  (hbase:attributeBase o name X.env (eval o X.env)=eval o X.env:=by rfl) (hline:(apos.endLine == cpos.line)=true:=by rfl):jE X (.Call (.Attribute o name apos) [] [] cpos) (tBM0 X.K T rm to):=⟨zci pa slot hty hm.out ho.out hbase hline⟩
theorem yR(pa:PlainAttrs T)(slot:Slot T name id)(hty:typeOf (.builtin id)=pure (.type "method_descriptor"))(hm:jMt X id rm)(ho:jE X o to)(ha:jA X (e::es) t)
  (hbase:attributeBase o name X.env (eval o X.env)=eval o X.env:=by rfl)
  (hfew:((backTo cpos (starEach (e::es) X.env)).all (fun x=>!x.1) && (backToKw cpos (keywordEach [] X.env)).all (fun x=>x.1.isSome)
   && decide ((e::es).length+([]:List Keyword).length+(if([]:List Keyword).isEmpty then 0 else 1) < 30))=true:=by rfl)
  (hline:(apos.endLine == cpos.line)=true:=by rfl) (h1:zF e=false:=by rfl) (h2:es.all (fun e=>!zF e)=true:=by rfl) :
  jE X (.Call (.Attribute o name apos) (e::es) [] cpos) (tBM X.K T rm to t):=⟨zdm pa slot hty hm.out ho.out ha.out hbase hfew hline (zL h1) (yl h2)⟩
variable{sts:List Stmt}{s1 s2:TS}{wi:TI}{tb1:TS}
theorem zD:jSs X [] wX:=⟨Qs⟩
theorem zj(h1:jS X st s1)(h2:jSs X sts s2):jSs X (st::sts) (tSeq s1 s2):=⟨Va h1.out h2.out⟩
theorem zn(h1:jS X st s1):jSs X [st] s1:=⟨Qt h1.out⟩
theorem QU:jS X (.Pass pos) wX:=⟨Qu⟩
theorem zP(he:jE X e te)(hs:swapsWith e none pos.line X.env=pure false:=by rfl):jS X (.Expr e pos) (ZM te):=⟨Qv he.out hs⟩
theorem zw(he:jE X e te):jS X (.Return (some e) pos) (tRet te):=⟨zbX he.out⟩
theorem zK{A B:List Stmt}(hc:jT X c tA)(ha:jSs X A s1)(hb:jSs X B s2):jS X (.If c A B pos) (tIfS tA s1 s2):=⟨zdd hc.out ha.out hb.out⟩
theorem zE(hN:X.N.Nodup)(hi:X.N[i]?=some x)(hx:Loc X.env.scope x)(he:jE X e te)(hs:swapsWith e (some (.Name x pos')) pos.line X.env=pure false:=by rfl)
  (hf:X.fn x=true\/X.env.scope.names.lookup x=some .local:=by first|exact .inl rfl|exact .inr rfl|assumption):jS X (.Assign [.Name x pos'] e pos) (tAsg te (jk i)):=⟨zb0 hN hi hx he.out hs hf⟩
theorem zcm(he:jE X e te)(hg:jG X tg g)(hs:swapsWithSole [tg] e pos.line X.env=pure false:=by rfl)(hw:swappedStores [tg] e X.env=pure none:=by rfl)(h1:(assignEach [tg] X.env).map (·.2)=[assign tg X.env]:=by rfl):jS X (.Assign [tg] e pos) (tAsg te g):=⟨zbZ he.out hg.out hs hw h1⟩
theorem zG(hN:X.N.Nodup)(hi:X.N[i]?=some x)(hx:Loc X.env.scope x)(hf:X.fn x=true\/X.env.scope.names.lookup x=some .local:=by first|exact .inl rfl|exact .inr rfl|assumption):jG X (.Name x pos) (jk i):=⟨Qw hN hi hx hf⟩
theorem yV:jGs X [] gNil:=⟨Qx⟩
theorem zV(h1:jG X e g)(h2:jGs X es gs)(hs:(assignEach (e::es) X.env).map (·.2)=assign e X.env::(assignEach es X.env).map (·.2):=by rfl):jGs X (e::es) (zbj g gs):=⟨Vb h1.out h2.out hs⟩
theorem VA(hc:X.calm=true)(h:jGs X es gs)(hn:(assignEach es X.env).length=n:=by rfl)(hst:(assignEach es X.env).findIdx? (·.1)=none:=by rfl):jG X (.Tuple es k pos) (gTup X.K n gs):=⟨zbY hc h.out hn hst⟩
theorem QV{l:Expr}(hl:jE X l tl):jI X tg l (Ve X.K tl):=⟨Qy hl.out⟩
theorem YE{l:Expr}(hl:jE X l tl):jI X tg l (iTup X.K tl):=⟨zb1 hl.out⟩
theorem yL(hg:Gl X "range")(hm:X.mg "range"=none)(ha:jA X [a] t)(h:zF a=false:=by rfl):jI X tg (.Call (.Name "range" p) [a] [] pos) (zbk t):=⟨We hg hm ha.out (zL h)⟩
theorem yH(hp:PassesOwn (model X.prog X.w) X.A X.env X.xe)(hc:X.calm=true)(hi:jI X tg iter wi)(hg:jG X tg g)(hb:jSs X sts tb1)(hs:∀x,foldedSetIterable iter X.env x=pure x:=by intro _;rfl):jS X (.For tg iter sts [] pos) (tFor wi g tb1):=⟨zb2 hp hc hi.out hg.out hb.out hs⟩
theorem wq(hp:PassesOwn (model X.prog X.w) X.A X.env X.xe)(hc:jT X c tA)(hb:jSs X sts tb1):jS X (.While c sts [] pos) (Vc tA tb1):=⟨Vd hp hc.out hb.out⟩
theorem yC:jTs X [] tYes:=⟨QP⟩
theorem Xt(h:jT X c tA):jTs X [c] tA:=⟨QQ h.out⟩
theorem xa(M:lS)(hc:X.calm=true)(hi:jI X tg iter wi)(hg:∀C s H ex E,jG (cxLC X scope (clOf scope X.env) M C s H ex E) tg g)(ht:∀C s H ex E,jTs (cxLC X scope (clOf scope X.env) M C s H ex E) ifs tt)
  (he:∀C s H ex E,jE (cxLC X scope (clOf scope X.env) M C s H ex E) elt te) (hs:∀x,foldedSetIterable iter X.env x=pure x:=by intro _;rfl)
  (h1:closureFor scope X.env=pure (clOf scope X.env):=by with_unfolding_all rfl) (h2:scope.kind=.function:=by rfl) (h3:scope.names.all (fun y=>y.2 != .cell)=true:=by rfl) (h4:scope.names.all (fun y=>y.2 != .local || scope.names.lookup y.1 == some .local)=true:=by rfl)
  (h5:X.N.all (fun y=>scope.names.lookup y != some .local)=true:=by rfl) (h6:scope.names.all (fun p=>p.2 != .free || (((clOf scope X.env).lookup p.1).isSome && (X.env.kindOf p.1 == some .cell || X.env.kindOf p.1 == some .free)))=true:=by rfl) :
  jE X (.ListComp elt [⟨tg,iter,ifs,0⟩] scope pos) (tLC wi g tt te M.length):=⟨QR M hc hi.out (fun C s H ex E=>(hg C s H ex E).out) (fun C s H ex E=>(ht C s H ex E).out) (fun C s H ex E=>(he C s H ex E).out) hs h1 h2 h3 h4 h5 h6⟩
theorem j6(M:lS)(hN:X.N.Nodup)(hi':X.N[i]?=some y)(hy:Loc X.env.scope y)(hc:X.calm=true)(hi:jI X tg iter wi)(hg:∀C s H ex E,jG (cxLC X scope (clOf scope X.env) M C s H ex E) tg g)
  (ht:∀C s H ex E,jTs (cxLC X scope (clOf scope X.env) M C s H ex E) ifs tt) (he:∀C s H ex E,jE (cxLC X scope (clOf scope X.env) M C s H ex E) elt te) (hs:∀x,foldedSetIterable iter X.env x=pure x:=by intro _;rfl)
  (hsw:swapsWith (.ListComp elt [⟨tg,iter,ifs,0⟩] scope pos) (some (.Name y py)) spos.line X.env=pure true:=by rfl)
  (hf:X.fn y=true\/X.env.scope.names.lookup y=some .local:=by first|exact .inl rfl|exact .inr rfl|assumption)
  (h1:closureFor scope X.env=pure (clOf scope X.env):=by with_unfolding_all rfl) (h2:scope.kind=.function:=by rfl) (h3:scope.names.all (fun y=>y.2 != .cell)=true:=by rfl) (h4:scope.names.all (fun y=>y.2 != .local || scope.names.lookup y.1 == some .local)=true:=by rfl)
  (h5:X.N.all (fun y=>scope.names.lookup y != some .local)=true:=by rfl) (h6:scope.names.all (fun p=>p.2 != .free || (((clOf scope X.env).lookup p.1).isSome && (X.env.kindOf p.1 == some .cell || X.env.kindOf p.1 == some .free)))=true:=by rfl) :
  jS X (.Assign [.Name y py] (.ListComp elt [⟨tg,iter,ifs,0⟩] scope pos) spos) (fun D σ H=>tLC wi g tt te M.length σ H fun v H1=>D.nx (σ.set i (some v)) H1) :=
 ⟨QS M hN hi' hy hc hi.out (fun C s H ex E=>(hg C s H ex E).out) (fun C s H ex E=>(ht C s H ex E).out) (fun C s H ex E=>(he C s H ex E).out) hs hsw hf h1 h2 h3 h4 h5 h6⟩
theorem wu(S:List Nat)(M:lS)(hN:X.N.Nodup)(hi':X.N[i]?=some y)(hy:Loc X.env.scope y)(hc:X.calm=true)(hi:jI X tg iter wi)(hg:∀C s H ex E,jG (cxLC X scope (clOf scope X.env) M C s H ex E) tg g)
  (ht:∀C s H ex E,jTs (cxLC X scope (clOf scope X.env) M C s H ex E) ifs tt) (he:∀C s H ex E,jE (cxLC X scope (clOf scope X.env) M C s H ex E) elt te) (hs:∀x,foldedSetIterable iter X.env x=pure x:=by intro _;rfl)
  (hsw:swapsWith (.ListComp elt [⟨tg,iter,ifs,0⟩] scope pos) (some (.Name y py)) spos.line X.env=pure true:=by rfl)
  (hf:X.fn y=true\/X.env.scope.names.lookup y=some .local:=by first|exact .inl rfl|exact .inr rfl|assumption)
  (h1:closureFor scope X.env=pure (clOf scope X.env):=by with_unfolding_all rfl) (h2:scope.kind=.function:=by rfl) (h3:scope.names.all (fun y=>y.2 != .cell)=true:=by rfl) (h4:scope.names.all (fun y=>y.2 != .local || scope.names.lookup y.1 == some .local)=true:=by rfl)
  (h5:X.N.zipIdx.all (fun y=>S.contains y.2 || scope.names.lookup y.1 != some .local)=true:=by rfl) (h6:scope.names.all (fun p=>p.2 != .free || (((clOf scope X.env).lookup p.1).isSome && (X.env.kindOf p.1 == some .cell || X.env.kindOf p.1 == some .free)))=true:=by rfl) :
  jS X (.Assign [.Name y py] (.ListComp elt [⟨tg,iter,ifs,0⟩] scope pos) spos) (fun D σ H=>tLCS S wi g tt te M.length σ H fun v H1=>D.nx (σ.set i (some v)) H1) :=
 ⟨Vy S M hN hi' hy hc hi.out (fun C s H ex E=>(hg C s H ex E).out) (fun C s H ex E=>(ht C s H ex E).out) (fun C s H ex E=>(he C s H ex E).out) hs hsw hf h1 h2 h3 h4 h5 h6⟩
theorem xc:jOp X (binaryOp .Add) (rI0 fun i j=>.int (i+j)):=⟨zb3⟩
theorem wN:jOp X (binaryOp .Sub) (rI0 fun i j=>.int (i-j)):=⟨zb4⟩
theorem VB:jOp X (binaryOp .Mult) (rI CMul fun i j=>.int (i*j)):=⟨zb5⟩
theorem yN:jOp X (binaryOp .FloorDiv) (rI CDiv fun i j=>.int (i / j)):=⟨Qz⟩
theorem yz:jOp X (binaryOp .Mod) (rI (fun _ j=>0 < j) fun i j=>.int (i % j)):=⟨zb6⟩
theorem xH:jOp X (binaryOp .Pow) (rI CPow fun i j=>.int (i ^ j.toNat)):=⟨zb7⟩
theorem z6:jOp X (compareOp .Eq) rEq:=⟨zdg⟩
theorem xZ:jOp X (compareOp .NotEq) rNe:=⟨zdh⟩
theorem xI:jOp X (compareOp .Lt) (rI0 fun i j=>.bl (decide (i < j))):=⟨zdi⟩
theorem zbn:jOp X (compareOp .Gt) (rI0 fun i j=>.bl (decide (j < i))):=⟨zdj⟩
theorem zdr:jOp X (compareOp .GtE) (rI0 fun i j=>.bl (decide (j<=i))):=⟨zdk⟩
theorem jx:jOp X (compareOp .In) (rIn X.K false):=⟨Wj⟩
theorem xt:jOp X (binaryOp .Add) (fun x y H Q=>∃i j,x=.str i/\y=.str j/\i.length+j.length<=sizeLine/\Q (.str (i++j)) H):=⟨Yw⟩
theorem YF:jOp X (binaryOp .Add) rCat:=⟨zck⟩
theorem QW:jOp X (binaryOp .Add) (Vr X.K):=⟨QL⟩
theorem Xu:jIx X (rIxL X.K):=⟨QN⟩
theorem zcn:jIx X (rIxT X.K):=⟨zcg⟩
theorem YG:jIx X rIxS:=⟨zch⟩
theorem QX:jSl X (rSlL X.K):=⟨QO⟩
theorem yj:jMt X "list.append" vg:=⟨Wk⟩
theorem j7:jMt X "list.pop" rPop:=⟨zcj⟩
theorem y0:jCa X (.builtin "len") (fun xs H Q=>∃p ys,xs=[.ref p]/\(SqL X.K H p ys\/SqT X.K H p ys)/\Q (.int ys.length) H):=⟨jZ⟩
theorem wv(hc:X.calm=true):jCa X (.builtin "all") (fun xs H Q=>∃(p:Addr)(bs:List Bool),xs=[.ref p]/\SqL X.K H p (bs.map V.bl)/\Q (.bl (bs.all _root_.id)) H):=⟨vz hc⟩
theorem zS:jCa X (.builtin "isinstance") (fun xs H Q=>∃x t T b,xs=[x,.ty T]/\TyOf X.K H x t/\Ud X.K t (.type T)=some b/\Q (.bl b) H):=⟨ZT⟩
theorem w5:jCa X (.type "tuple") (fun xs H Q=>∃p ys,xs=[.ref p]/\((SqL X.K H p ys/\∀l,H l=none->Q (.ref l) (upd H l (.tup ys)))\/(SqT X.K H p ys/\Q (.ref p) H))):=⟨jh⟩
theorem YH:jCa X (.type "list") (fun xs H Q=>∃p ys,xs=[.ref p]/\(SqL X.K H p ys\/SqT X.K H p ys)/\∀l,H l=none->Q (.ref l) (upd H l (.lst ys))):=⟨j2⟩
end
section
variable{K:ua}
theorem Fun.by{k:Nat}(F:Fun K x qual st f fd)(S:FnScope N ps (zo st))(len:∀vs H Q E,sp vs H Q E->vs.length=ps.length)
  (hbody:∀(cdv:Value)(A:Around)(outer:List Env)(s:Shared)(H:Hp)(vs:List V)(Q:VK)(E:XK),Room k (A.deeper (envOfC qual (zo st) s.heap.objs.size f cdv))->sp vs H Q E ->
   ∃t,jSs (cxOf CX0 P w K mg base N qual (zo st) f cdv A outer s H E).nox (zO st) t/\t { nx:=fun _ H'=>Q .non H',rt:=Q } (start N vs) H):FnOk P w K mg base CX0 (k+1) f fd ps sp :=
 F.ok S len fun cdv A outer s H vs Q E hr h=>let ⟨t,b,q⟩:=hbody cdv A outer s H vs Q E hr h;⟨t,b.out,q⟩
end
end L2
namespace L2
open PySem
variable{xs:List Addr}
structure Mv(fs xs:List Addr)(h h':Heap):Prop where
 keep:∀b o,h.get? b=some o->b∉fs->b∉xs->h'.get? b=some o
 slot:∀b o,h.get? b=some o->b∉xs->∃sl,h'.get? b=some { o with slots:=sl }
 there:∀b o,h.get? b=some o->∃o',h'.get? b=some o'
theorem Mv.trans{fs:List Addr}(a:Mv fs xs h h1)(b:Mv fs xs h1 h2):Mv fs xs h h2 :=
 ⟨fun c o e f x=>b.keep c o (a.keep c o e f x) f x,fun c o e x=>let ⟨_,e1⟩:=a.slot c o e x;let ⟨sl,e2⟩:=b.slot c _ e1 x;⟨sl,e2⟩,fun c o e=>let ⟨o1,e1⟩:=a.there c o e;b.there c o1 e1⟩
theorem Mv.mono{fs xs':List Addr}(a:Mv fs xs h h1)(hf:∀b∈fs,b∈fs')(hx:∀b∈xs,b∈xs'):Mv fs' xs' h h1 :=
 ⟨fun c o e f x=>a.keep c o e (fun z=>f (hf c z)) fun z=>x (hx c z),fun c o e x=>a.slot c o e fun z=>x (hx c z),a.there⟩
structure Tr(h:Heap)(e:Addr)(C:Value)(dx:Option Addr)(T:Addr)(fl:Value):Prop where
 ex:∃oe vs,h.get? e=some oe/\oe.cls=C/\oe.dict=dx/\oe.data=.fields vs/\vs[1]?=some (.ref T)/\vs[2]?=some .none
 tb:∃ot ts,h.get? T=some ot/\ot.data=.fields ts/\ts[3]?=some fl
 ne:T≠e
theorem xJ(f:Array Value->Array Value)(o:Obj):(Obj.mapFields f o).dict=o.dict:=by
 unfold Obj.mapFields
 split<;>rfl
theorem YI{l:List Env}(hl:h.FunFrames base l){e:Addr}(he:h.get? e=some oe)(hd:oe.data=.fields vs):e∉l.filterMap (·.frame):=fun z=>by
 obtain⟨_,o,ho,nf⟩:=hl.mem z;rw[he]at ho;cases ho;exact nf vs hd
section
variable{M:Model}{E:VSP}{s:Shared}{L e:Addr}{C:Value}{dx:Option Addr}
theorem jy{head:Value}{had:Bool}(hfr:A.frames=some (env::outer))(hl:s.heap.FunFrames base (env::outer))(hf:env.frame=some L)
  (he:s.heap.get? e=some oe) (hd:oe.data=.fields vs) (hsz:1 < vs.size) (hz2:vs[2]?=some .none)
  (hq:∀h' T,s.heap.objs.size<=T->Tr h' e oe.cls oe.dict T (rawInt L)->Mv ((env::outer).filterMap (·.frame)) [e] s.heap h'->Q () { s with heap:=h' }) :
  wpAny M A (do let a <- frameOf env;let pl <- entryPlaceOf L had;let b <- EntryCells.newEntry head a .none (rawInt L) .none pl;setField (.ref e) 1 b) Q E s:=by
 have nf:=YI hl he hd;refine wpAny_bind (wpAny_frameOf_fun hfr hl hf fun h1 s1=>wpAny_bind (wpAny_entryPlaceOf fun pl hp=>?_));unfold EntryCells.newEntry newFields;refine wpAny_bind (wpAny_newObj_type ?_ (by exact hp.sizeOk5 _ _ _ _ _));have e1:h1.get? e=some oe:=(s1.2.1 e nf).trans he;have ne:h1.objs.size≠e:=U8 (um e1);generalize ho:({ cls:=.type "traceback",dict:=none,data:=.fields ([head,.ref L,.none,rawInt L,.none]++(if pl.isEmpty then uG 6 Value.none else pl)).toArray }:Obj)=ob;have t3:∃ts,ob.data=.fields ts/\ts[3]?=some (rawInt L):=by
  subst ho;refine⟨_,rfl,?_⟩;simp
 have fr:ob.isFreed=false:=by
  obtain⟨ts,q,_⟩:=t3;exact Obj.isFreed_of_fields q
 have e2:=ub (h:=h1) ob e1;refine wpAny_setField e2 hd hsz (hq _ h1.objs.size (Nat.le_of_eq s1.1.symm) ⟨?_,?_,ne⟩ ⟨fun b o q f x=>?_,fun b o q x=>?_,fun b o q=>?_⟩)
 ·exact⟨_,_,Uo _ e2 (Obj.isFreed_of_fields (Obj.data_mapFields hd _)),Obj.cls_mapFields _ _,xJ _ _,Obj.data_mapFields hd _,by simp[hsz],by simp[hz2]⟩
 ·obtain⟨ts,q1,q2⟩:=t3
  exact⟨ob,ts,(uK _ _ (Ne.symm ne)).trans (uo _ fr),q1,q2⟩
 ·rw[uK _ _ (fun z=>x (by simp[z]))]
  exact ub _ ((s1.2.1 b f).trans q)
 ·obtain⟨sl,q1⟩:=s1.2.2 b o q
  exact⟨sl,by rw[uK _ _ (fun z=>x (by simp[z]))];exact ub _ q1⟩
 ·obtain⟨sl,q1⟩:=s1.2.2 b o q
  by_cases z:b=e
  ·subst z
   exact⟨_,Uo _ e2 (Obj.isFreed_of_fields (Obj.data_mapFields hd _))⟩
  ·exact⟨_,by rw[uK _ _ (Ne.symm z)];exact ub _ q1⟩
theorem wO(hfr:A.frames=some (env::outer))(hl:s.heap.FunFrames base (env::outer))(hf:env.frame=some L)
  (he:s.heap.get? e=some oe) (hd:oe.data=.fields vs) (h1:vs[1]?=some .none) (hz2:vs[2]?=some .none)
  (hq:∀h' T,s.heap.objs.size<=T->Tr h' e oe.cls oe.dict T (rawInt L)->Mv ((env::outer).filterMap (·.frame)) [e] s.heap h'->Q () { s with heap:=h' }) :
  wpAny M A (noteFrame (.ref e) env) Q E s:=by
 unfold noteFrame;simp only[hf]
 refine wpAny_bind (wpAny_field he hd h1 ?_);rw[if_neg (by decide:¬ ((Value.none != Value.none)=true))];exact jy hfr hl hf he hd (Array.getElem?_eq_some_iff.mp h1).1 hz2 hq
theorem ww{fl:Value}{v:Option Addr}(t:Tr s.heap e C dx T fl)(hq:∀h',Tr h' e C dx T (v.elim .none fun f=>rawInt f)->Mv [] [T] s.heap h'->Q () { s with heap:=h' }):
  wpAny M A (setFlight (.ref e) v) Q E s:=by
 obtain⟨⟨oe,vs,he,hc,hx,hd,h1,hz2⟩,⟨ot,ts,ht,hdt,h3⟩,ne⟩:=t;unfold setFlight;refine wpAny_bind (wpAny_field he hd h1 ?_);rw[if_pos (by simp:(Value.ref T != Value.none)=true)];have up:=Uo (Obj.mapFields (·.setIfInBounds 3 (v.elim .none fun f=>rawInt f))) ht (Obj.isFreed_of_fields (Obj.data_mapFields hdt _));refine wpAny_setField ht hdt (Array.getElem?_eq_some_iff.mp h3).1 (hq _ ⟨⟨oe,vs,(uK _ _ ne).trans he,hc,hx,hd,h1,hz2⟩,⟨_,_,up,Obj.data_mapFields hdt _,?_⟩,ne⟩ ⟨fun b o q _ x=>?_,fun b o q x=>⟨o.slots,?_⟩,fun b o q=>?_⟩)
 ·simp[(Array.getElem?_eq_some_iff.mp h3).1]
 ·exact(uK _ _ (fun z=>x (by simp[z]))).trans q
 ·exact(uK _ _ (fun z=>x (by simp[z]))).trans q
 ·by_cases z:b=T
  ·subst z
   exact⟨_,up⟩
  ·exact⟨o,(uK _ _ (Ne.symm z)).trans q⟩
theorem vB(hfr:A.frames=some (env::outer))(hl:s.heap.FunFrames base (env::outer))(hf:env.frame=some L)(t:Tr s.heap e C dx T .none)
  (hq:∀h' T',s.heap.objs.size<=T'->Tr h' e C dx T' (rawInt L)->Mv ((env::outer).filterMap (·.frame)) [e,T] s.heap h'->Q () { s with heap:=h' }) :
  wpAny M A (noteFrame (.ref e) env) Q E s:=by
 obtain⟨⟨oe,vs,he,hc,hx,hd,h1,hz2⟩,⟨ot,ts,ht,hdt,h3⟩,ne⟩:=t;subst hc;subst hx;unfold noteFrame;simp only[hf]
 refine wpAny_bind (wpAny_field he hd h1 ?_);rw[if_pos (by simp:(Value.ref T != Value.none)=true)];refine wpAny_bind (wpAny_field ht hdt h3 ?_);rw[if_neg (by simp[rawInt]:¬ ((Value.none == rawInt L)=true))];have up:=Uo (Obj.mapFields (·.setIfInBounds 3 .none)) ht (Obj.isFreed_of_fields (Obj.data_mapFields hdt _));have k:∀b o,b≠T->s.heap.get? b=some o->(s.heap.update T (Obj.mapFields (·.setIfInBounds 3 .none))).get? b=some o:=fun b o z q=>(uK _ _ (Ne.symm z)).trans q;refine wpAny_bind (wpAny_setField ht hdt (Array.getElem?_eq_some_iff.mp h3).1 ?_);refine jy (base:=base) hfr (hl.of_keeps fun b o q nf=>⟨o,k b o (fun z=>?_) q,rfl⟩) hf (k e oe (Ne.symm ne) he) hd (Array.getElem?_eq_some_iff.mp h1).1 hz2 fun h' T' hs t m=>hq h' T' ?_ t ⟨fun b o q f x=>?_,fun b o q x=>?_,fun b o q=>?_⟩
 ·rw[z,ht]at q
  cases q;exact nf ts hdt
 ·rw[Heap.size_after_update]at hs
  exact hs
 ·exact m.keep b o (k b o (fun z=>x (by simp[z])) q) f fun z=>x (by simp at z;simp[z])
 ·exact m.slot b o (k b o (fun z=>x (by simp[z])) q) fun z=>x (by simp at z;simp[z])
 ·by_cases z:b=T
  ·subst z
   exact m.there b _ up
  ·exact m.there b o (k b o z q)
end
end L2
namespace L2
open PySem PySem.Spec PyProof.Rows
theorem HOk.moved{fs xs:List Addr}(x:HOk P w H h)(m:Mv fs xs h h')(hf:∀b∈fs,H b=none)(hx:∀b∈xs,H b=none):HOk P w H h':=fun a o e =>
 (x a o e).stay (fun b u hb q=>m.keep b u q (fun z=>by
   have n:=hf b z;rcases hb with r|r
   ·rw[r,e]at n
    cases n
   ·rw[r]at n
    cases n) fun z=>by
   have n:=hx b z;rcases hb with r|r
   ·rw[r,e]at n
    cases n
   ·rw[r]at n
    cases n) (fun _ q=>q) fun _ _ q=>q
def CXf(P:Program)(w:World):CXT:=fun outer H s E u s'=>∃(e T:Addr)(C:Value)(dx:Option Addr)(H':Hp),u=.ref e/\s'.os=s.os/\AllBare s'.gens/\Un (frs outer) [] H H' s.heap s'.heap/\HOk P w H' s'.heap /\
 Tr s'.heap e C dx T .none/\(s.heap.objs.size<=e/\s.heap.objs.size<=T)/\(H' e=none/\H' T=none)/\E C dx H'
def Fl(h:Heap)(H:Hp)(n:Nat)(e:Addr)(C:Value)(dx:Option Addr):Prop :=
 (∃oe vs,h.get? e=some oe/\oe.cls=C/\oe.dict=dx/\oe.data=.fields vs/\vs[1]?=some .none/\vs[2]?=some .none)\/∃T,Tr h e C dx T .none/\H T=none/\n<=T
def Air(X:Cx)(pins:List (Addr×Obj))(σ:St)(E:XK)(u:Value)(s':Shared):Prop:=∃(e:Addr)(C:Value)(dx:Option Addr)(H':Hp)(n:Nat),u=.ref e/\Inv X pins σ H' s'/\H' e=none/\X.s₀.heap.objs.size<=n/\n<=e/\(∀p∈X.pn++pins,p.1 < n)/\Fl s'.heap H' n e C dx/\E C dx H'
section
variable{K:ua}{cd:Value}{s:Shared}{E:XK}
theorem jz(h:Air (cxOf (CXf P w) P w K mg base N qual scope f cd A outer s H E) pins σ E u s'):(cxOf (CXf P w) P w K mg base N qual scope f cd A outer s H E).xe u s':=by
 obtain⟨e,C,dx,H',n,rfl,I,ne,hn,he,hp,st,hE⟩:=h;have fin:∀(h2:Heap)(T:Addr)(xs:List Addr),Tr h2 e C dx T .none->Mv (frs (cxOf (CXf P w) P w K mg base N qual scope f cd A outer s H E).stack) xs s'.heap h2->(∀b∈xs,H' b=none/\s.heap.objs.size<=b)->H' T=none->s.heap.objs.size<=T ->
   CXf P w outer H s E (.ref e) { s' with heap:=h2 }:=by
  intro h2 T xs t m hx nT sT;have nst:∀(b:Addr)(o:Obj),s.heap.get? b=some o->b∉frs outer->b∉frs (cxOf (CXf P w) P w K mg base N qual scope f cd A outer s H E).stack:=fun b o q nb z=>by
   rcases uh.mp (I.stkSub b z)with r|r
   ·exact absurd (show b=(cxOf (CXf P w) P w K mg base N qual scope f cd A outer s H E).env.locals from r) (uI (uv (um q) I.ok.above))
   ·exact nb r
  have nx:∀(b:Addr)(o:Obj),s.heap.get? b=some o->b∉xs:=fun b o q z=>absurd (uv (um q) (hx b z).2) (u7 _);have B:Un (frs outer) [] H H' s.heap s'.heap:=I.base;refine⟨e,T,C,dx,H',rfl,I.os,I.bare,⟨fun b o q n hb hx=>?_,fun b o q n hb hx=>?_,B.free,fun b o q hx=>?_,B.tups,B.frzs,B.tbls⟩,I.hok.moved m I.stkFree fun b hb=>(hx b hb).1,t,⟨uy hn he,sT⟩,⟨ne,nT⟩,hE⟩
  ·exact m.keep b o (B.keep b o q n hb hx) (nst b o q hb) (nx b o q)
  ·obtain⟨sl,q1⟩:=B.slot b o q n hb hx
   obtain⟨sl2,q2⟩:=m.slot b _ q1 (nx b o q);exact⟨sl2,q2⟩
  ·obtain⟨o1,q1⟩:=B.there b o q hx
   exact m.there b o1 q1
 show wpAny (model P w) _ (leaving _ (.ref e)) _ _ s';unfold leaving;rcases st with⟨oe,vs,h1,rfl,rfl,h4,h5,h6⟩|⟨T0,t0,n0,s0⟩
 ·refine wpAny_bind (wO I.ok.frames I.stack rfl h1 h4 h5 h6 fun h' T hs t m=>ww t fun h2 t2 m2=>?_)
  refine fin h2 T [e,T] t2 ((m.mono (fun _ z=>z) fun b z=>?_).trans (m2.mono (fun b z=>nomatch z) fun b z=>?_)) (fun b hb=>?_) (I.hok.fresh hs) (uy I.sz hs)
  ·simp at z
   simp[z]
  ·simp at z
   simp[z]
  ·rcases uh.mp hb with r|hb
   ·rw[r]
    exact⟨ne,uy hn he⟩
   ·rw[ug.mp hb]
    exact⟨I.hok.fresh hs,uy I.sz hs⟩
 ·refine wpAny_bind (vB I.ok.frames I.stack rfl t0 fun h' T hs t m=>ww t fun h2 t2 m2=>?_)
  refine fin h2 T [e,T0,T] t2 ((m.mono (fun _ z=>z) fun b z=>?_).trans (m2.mono (fun b z=>nomatch z) fun b z=>?_)) (fun b hb=>?_) (I.hok.fresh hs) (uy I.sz hs)
  ·simp at z
   rcases z with z|z<;>simp[z]
  ·simp at z
   simp[z]
  ·rcases uh.mp hb with r|hb
   ·rw[r]
    exact⟨ne,uy hn he⟩
   ·rcases uh.mp hb with r|hb
    ·rw[r]
     exact⟨n0,uy hn s0⟩
    ·rw[ug.mp hb]
     exact⟨I.hok.fresh hs,uy I.sz hs⟩
theorem VC{s1 s2:Shared}{E':XK}(hP:X.prog=P)(hw:X.w=w)(I:Inv X pins σ H1 s1)(h:CXf P w X.stack H1 s1 E' u s2):Air X pins σ E' u s2:=by
 obtain⟨e,T,C,dx,H',rfl,os,bare,un,hok,t,⟨se,sT⟩,⟨ne,nT⟩,hE⟩:=h;have I2:Inv X pins σ H' s2:=I.call' (ch:=[]) os un (by rw[hP,hw];exact hok) bare (fun b z=>absurd z (by simp));exact⟨e,C,dx,H',s1.heap.objs.size,rfl,I2,ne,I.sz,se,fun p hp=>um (I.pin p hp).1,.inr ⟨T,t,nT,sT⟩,hE⟩
theorem yS:yv (CXf P w) (cxOf (CXf P w) P w K mg base N qual scope f cd A outer s H E) E:=fun pins σ H1 s1 u s2 I h=>jz (VC rfl rfl I h)
theorem ownx:PassesOwn (model P w) (cxOf (CXf P w) P w K mg base N qual scope f cd A outer s H E).A (cxOf (CXf P w) P w K mg base N qual scope f cd A outer s H E).env (cxOf (CXf P w) P w K mg base N qual scope f cd A outer s H E).xe:=PassesOwn.leaving
theorem FnOk.upx{k:Nat}(F:FnOk P w K mg base CX0 k f fd ps sp):FnOk P w K mg base CX k f fd ps sp :=
 ⟨F.len,fun A outer s H args us vs Q E hr he hb hv hs=>codeAny_mono (F.run A outer s H args us vs Q E hr he hb hv hs) fun r s' q=>by
  cases r with
  |error e=>exact False.elim q
  |ok fl =>
   cases fl with
   |ret u=>exact q
   |next=>exact False.elim q
   |brk=>exact False.elim q
   |cont=>exact False.elim q⟩
theorem Fun.byx{k:Nat}(F:Fun K x qual st f fd)(S:FnScope N ps (zo st))(len:∀vs H Q E,sp vs H Q E->vs.length=ps.length)
  (hbody:∀(cdv:Value)(A:Around)(outer:List Env)(s:Shared)(H:Hp)(vs:List V)(Q:VK)(E:XK),Room k (A.deeper (envOfC qual (zo st) s.heap.objs.size f cdv))->sp vs H Q E ->
   ∃t,jSs (cxOf (CXf P w) P w K mg base N qual (zo st) f cdv A outer s H E) (zO st) t/\t { nx:=fun _ H'=>Q .non H',rt:=Q } (start N vs) H):FnOk P w K mg base (CXf P w) (k+1) f fd ps sp:=by
 obtain⟨oc,od,kV,doc,pm,an,cdv,ct,osl,rfl,lk,hcd⟩:=F.ex;refine ZR lk hcd S len fun A outer s H vs Q E hr hsp=>?_;obtain⟨t,h,q⟩:=hbody cdv A outer s H vs Q E hr hsp;exact⟨t,h.out,q⟩
end
end L2
namespace L2
open PySem
section
variable{M:Model}{E:VSP}{nm q:Str}{N:Addr}{bs:List Value}{sn:lS}
theorem Xv{s:Shared}{x:Sem Value}{Q:Flow->Shared->Prop}(hb:bm.contains (.type "BaseException")=true)(hh:A.handled=none)
  (h:wpAny M A x (fun v s1=>∃e oe vs,v=.ref e/\s1.heap.get? C=some (excClassObj nm q C N bs bm hdct sn sub ab col dd k0 k1 k2 k3 k5 newId)/\s1.heap.get? e=some oe/\oe.cls=.ref C/\oe.data=.fields vs/\vs[1]?=some .none/\E (.ref e) s1) E s) :
  wpAny M A (raiseStmt env (some x) none) Q E s:=by
 have cB:(Value.ref C::bm).contains (.type "BaseException")=true:=by rw[List.contains_cons,hb,Bool.or_true]
 unfold raiseStmt;refine wpAny_bind (wpAny_mono h (fun v s1 h1=>?_) fun _ _ x=>x);obtain⟨e,⟨c,d0,dt,sl⟩,vs,rfl,hC,he,hc,hd,hv,hE⟩:=h1;dsimp only at hc hd
 subst hc hd;obtain⟨hp,g,d,tk,os⟩:=s1
 repeat (first|(with_reducible refine wpAny_field he rfl hv ?_)|with_reducible refine wpAny_loadPart_at he ?_|with_reducible refine wpAny_loadPart_at hC ?_|(with_reducible refine wpAny_isSubtype_exc hC ?_;rw[cB])|wp_step)
 exact wpAny_raiseNew_none hh hE
end
theorem QY{M:Model}{E:VSP}{s:Shared}{self:Value}{Q:Value×List Value->Shared->Prop}(h1:s.heap.get? f=some ob)(h2:ob.cls=.type "function")(q:Q (.ref f,[self]) s):wpAny M A (bindSpecial (.ref f) self) Q E s:=by
 unfold bindSpecial;refine wpAny_bind (wpAny_typeOf (T:="function") ⟨ob,h1,h2⟩ ?_);exact wpAny_pure q
abbrev yI(rest:List Value):Obj:={ cls:=.type "tuple",data:=.seq rest.toArray }
abbrev yK(C t:Addr):Obj:={ cls:=.ref C,data:=.fields #[.ref t,.none,.none,.none,.bool false,.none] }
section
variable{E:VSP}{g:Array GenState}{d:Drawn}{t:Nat}{os:OsState}
variable{nm q:Str}{N:Addr}{bs:List Value}{sn:lS}{B Bn nid initId inN:String}
theorem ZV(Fn:ExcBaseFacts Bn newId inN bmN)(hBn:bmB.contains (.type Bn)=true)(F:ExcBaseFacts B nid initId bmB)(T:OwnTail h bmB bm){rest:List Value}{Q:Fin->Shared->Prop}
  (hC:h.get? C=some (excClassObj nm q C N bs bm hdct sn sub ab col dd k0 k1 k2 k3 k5 newId)) (hn:h.Ns N mN) (hi:mN "__init__"=some (.ref f)) (hf:h.get? f=some ob) (hfc:ob.cls=.type "function") (hrest:rest.length<=sizeLine)
  (hq:wpAny (model prog w) A (call (.ref f) (.ref (h.objs.size+1)::rest)) (fun v s'=>v=.none/\Q (.done (.ret (.ref (h.objs.size+1)))) s') E ⟨(h.push (yI rest)).push (yK C h.objs.size),g,d,t,os⟩) :
  wpAny (model prog w) A (Builtin.«type.__call__» ⟨.ref C::rest,[]⟩) Q E ⟨h,g,d,t,os⟩:=by
 repeat (first|with_reducible refine wpAny_madeBy_exc hC ?_|with_reducible refine wpAny_loadPart_at hC ?_|wp_step)
 refine codeAny_call_builtin_code (Code.quiet_builtin _ Fn.quiet) (wpAny_check_new_subU Fn hBn T hC (codeAny_exc_new_subU Fn hBn F T hC ?_ hrest));show wpAny _ _ _ _ _ _;have k:∀b o,h.get? b=some o->((h.push (yI rest)).push (yK C h.objs.size)).get? b=some o:=fun b o e=>ub _ (ub _ e);have C1:=k _ _ hC;have e1:((h.push (yI rest)).push (yK C h.objs.size)).get? (h.objs.size+1)=some (yK C h.objs.size):=Heap.get?_push_at (by simp only[uX]) rfl;have cC:(Value.ref C::bm).contains (.ref C)=true:=by simp
 unfold isInstance
 repeat (first|with_reducible refine wpAny_loadPart_at e1 ?_|(with_reducible refine wpAny_isSubtype_exc C1 ?_;rw[cC])|wp_step)
 show wpAny _ _ (typeLookup (.ref C) _) _ _ _;refine wpAny_typeLookup_tail C1 (hn.keeps k) (T.keeps k) F.mroIs F.init.lookup ?_;rw[hi];refine wpAny_holding (wpAny_bind (QY (k _ _ hf) hfc ?_));refine wpAny_bind (wpAny_mono hq (fun v s' hv=>?_) fun _ _ x=>x);obtain⟨rfl,hv⟩:=hv;exact wpAny_pure (wpAny_pure hv)
theorem QZ(Fn:ExcBaseFacts Bn newId inN bmN)(hBn:bmB.contains (.type Bn)=true)(F:ExcBaseFacts B nid initId bmB)(T:OwnTail h bmB bm){rest:List Value}{Q:VSP}
  (hC:h.get? C=some (excClassObj nm q C N bs bm hdct sn sub ab col dd k0 k1 k2 k3 k5 newId)) (hn:h.Ns N mN) (hi:mN "__init__"=some (.ref f)) (hf:h.get? f=some ob) (hfc:ob.cls=.type "function") (hrest:rest.length<=sizeLine)
  (hq:wpAny (model prog w) (A.under (.builtin "type.__call__" ⟨.ref C::rest,[]⟩)) (call (.ref f) (.ref (h.objs.size+1)::rest)) (fun v s'=>v=.none/\Q (.ref (h.objs.size+1)) s') E ⟨(h.push (yI rest)).push (yK C h.objs.size),g,d,t,os⟩) :
  wpAny (model prog w) A (call (.ref C) rest) Q E ⟨h,g,d,t,os⟩:=by
 have f1:=tc_lookup;have f2:=tc_bind (.ref C);have hT:(⟨h,g,d,t,os⟩:Shared).TypeIs (.ref C) "type":=⟨_,hC,rfl⟩;refine wpAny_call (codeAny_of_tree ?_);show wpAny _ _ (callAny (.ref C) ⟨rest,[]⟩) _ _ _
 repeat (any_goals (first|assumption|(with_reducible refine wpAny_loadPart_at hC ?_)|wp_step))
 refine⟨rfl,codeAny_call_builtin_at (Code.quiet_builtin _ (by decide +kernel)) entry_typeCall (wpAny_check_type_call_sub hC ?_)⟩;exact ZV Fn hBn F T hC hn hi hf hfc hrest hq
theorem Xw(F:ExcBaseFacts B nid initId bmB)(T:OwnTail h bmB bm){e t0:Addr}{rest:List Value}{Q:VSP}
  (hC:h.get? C=some (excClassObj nm q C N bs bm hdct sn sub ab col dd k0 k1 k2 k3 k5 newId)) (he:h.get? e=some oe) (hc:oe.cls=.ref C) (hd:oe.data=.fields vs) (h0:vs[0]?=some (.ref t0)) (hrest:rest.length<=sizeLine)
  (hq:Q .none ⟨(h.push (yI rest)).update e (Obj.mapFields (·.setIfInBounds 0 (.ref h.objs.size))),g,d,t,os⟩) :
  wpAny (model prog w) A (call (.builtin initId) (.ref e::rest)) Q E ⟨h,g,d,t,os⟩:=by
 refine wpAny_call (codeAny_call_builtin F.init.plain F.initEntry (wpAny_check_init_subU F T hC he hc ?_));unfold Builtin.«BaseException.__init__»;dsimp only
 rw[if_neg (by simp:¬ ((!List.isEmpty ([]:List (Str×Value)))=true))];unfold newTuple Builtin.BaseException.bexcPut;have e1:=ub (h:=h) (yI rest) he;refine wpAny_bind (wpAny_newObj_type ?_ (by show rest.toArray.size<=sizeLine;rw[uA];exact hrest));refine wpAny_bind (wpAny_bind (wpAny_field e1 hd h0 (wpAny_bind (wpAny_setField e1 hd (Array.getElem?_eq_some_iff.mp h0).1 ?_))));exact wpAny_letGo (wpAny_pure hq)
end
end L2
namespace L2
open PySem PySem.W PySem.Calls PyProof.Rows Builtin Builtin.ObjectAttr
def bmV:List Value:=[.type "ValueError",.type "Exception",.type "BaseException",.type "object"]
theorem VD(self:Value):refuseLoop self "__setattr__" bmV=pure ():=by kernel_rfl
def jB:List Value->Bool
 |[]=>false
 |v::r=>(v::r) == bmV || (match v with
  |.ref _=>jB r
  |_=>false)
theorem w6(self:Value):∀{l:List Value},jB l=true->refuseLoop self "__setattr__" l=pure ()
 |[],e=>by cases e
 |v::r,e=>by
  unfold jB at e;rcases Bool.or_eq_true_iff.mp e with q|q
  ·rw[beq_iff_eq.mp q]
   exact VD self
  ·split at q
   ·rw[refuseLoop_ref]
    exact w6 self q
   ·cases q
theorem vC:∀{l:List Value},jB l=true->l.contains (.type "object")=true/\l.isEmpty=false
 |[],e=>by cases e
 |v::r,e=>by
  unfold jB at e;rcases Bool.or_eq_true_iff.mp e with q|q
  ·rw[beq_iff_eq.mp q]
   exact⟨by decide,rfl⟩
  ·split at q
   ·exact⟨by rw[List.contains_cons,(vC q).1,Bool.or_true],rfl⟩
   ·cases q
def j8(K:Frag)(C:Addr):Bool:=(clsIn K C).any fun cd=>jB cd.mro
section
variable{E:VSP}{K:Frag}{e:Addr}{s:Shared}{ox:Obj}{od:Option Obj}
theorem Q0{tk:Tok}(X:K.In s.heap)(I:InstAt s.heap e ox C od)(hp:j8 K C=true)(ht:takerIn K C name=some none)
  (h:∀b,wpAny (model prog w) A.in1 (storeInOwnDict (.ref e) (.ref C) (.str name tk) name v b) (fun fin s'=>match fin with|.done f=>R (.ok f) s'|.again c'=>c'.quiet=true/\codeAny (model prog w) A c' R s') (fun u s'=>R (.error u) s') s) :
  codeAny (model prog w) A (.call (.builtin "object.__setattr__") ⟨[.ref e,.str name tk,v],[]⟩) R s:=by
 have SF:=PySem.F.store_object;obtain⟨cd,hc,ho⟩:=any_some hp;have hm:Looks (model prog w) s.heap (mroOf (.ref C)) cd.mro:=(looks_clsIn X hc).andThen .now;have sub:Looks (model prog w) s.heap (isInstance (.ref e) (.type "object")) true:=I.type.andThen (looks_mroIn X (by unfold mroIn;rw[hc,Option.bind_some,if_neg (by rw[(vC ho).2];decide),(vC ho).1]));obtain⟨attr,ha,hr⟩:=Option.bind_eq_some_iff.mp ht;have tk3:Looks (model prog w) s.heap (storeTaker? attr) none:=by
  cases attr with
  |none=>exact .now
  |some a =>
   obtain⟨b,hb,hn⟩:=uz.mp hr;refine(looks_takesIn X hb).andThen ?_;cases b
   ·exact .now
   ·cases hn
 refine codeAny_call_builtin SF.slot.plain SF.entry (@check_slot (model prog w) _ _ s "object.__setattr__" "object" "__setattr__" (.ref e) [.str name tk,v] [] _ SF.kind SF.split sub (SF.args (.ref e) (.str name tk) v) ?_);rw[osa_eq,refuse_eq];refine wpAny_bind (wpAny_bind (I.type.here (wpAny_bind (hm.here ?_))));rw[w6 _ ho];exact wpAny_pure (wpAny_bind (I.type.here (wpAny_bind ((looks_findIn X ha).here (wpAny_bind (tk3.here (h _)))))))
theorem zco(X:K.In s.heap)(he:s.heap.get? e=some oe)(hc:oe.cls=.ref C)(hx:oe.dict=none)(hd:oe.data=.fields vs)
  (hs:findIn K (.ref C) "__setattr__"=some (some (.builtin "object.__setattr__"))) (hp:j8 K C=true) (ht:takerIn K C name=some none) (hh:(clsIn K C).any (·.hasDict)=true)
  (h:∀h',h'.Ns1 s.heap.objs.size (fun y=>if y=name then some v else none)->h'.get? e=some { oe with dict:=some s.heap.objs.size }->(∀b o,b≠e->s.heap.get? b=some o->h'.get? b=some o)->Q () { s with heap:=h',toks:=s.toks+2 }) :
  wpAny (model prog w) A (setAttr (.ref e) name v) Q E s:=by
 have J:InstAt s.heap e oe C none:=⟨he,hc,by unfold notCls;rw[hd],by rw[hx];trivial⟩;refine set_plain X J hs (Q0 (s:={ s with toks:=s.toks+1 }) X J hp ht fun b=>?_);obtain⟨cd,hcd,hdd⟩:=any_some hh;obtain⟨oc,odi,oda,osl⟩:=oe;dsimp only at hc hx hd
 subst hc hx hd;refine wpAny_bind (wpAny_pure (wpAny_bind (wpAny_bind (wpAny_loadPart he (wpAny_bind (Looks.here (s:={ s with toks:=s.toks+1 }) (looks_clsIn X hcd) ?_))))));rw[hdd];have e1:=ub (h:=s.heap) uT he;have ne:s.heap.objs.size≠e:=U8 (um he);have d1:(s.heap.push uT).get? s.heap.objs.size=some uT:=uo _ rfl;have d2:((s.heap.push uT).update e fun o=>{ o with dict:=some s.heap.objs.size }).get? s.heap.objs.size=some uT:=(uK _ _ (Ne.symm ne)).trans d1;have e2:=Uo (fun o=>{ o with dict:=some s.heap.objs.size }) e1 rfl;have n2:((s.heap.push uT).update e fun o=>{ o with dict:=some s.heap.objs.size }).Ns s.heap.objs.size (fun _=>none):=⟨uT,#[],_,d2,rfl,(fun z hz=>absurd hz (by simp)),fun _=>rfl⟩;show wpAny _ _ (alloc uT >>= _) _ _ _;refine wpAny_bind (wpAny_alloc (wpAny_bind (wpAny_update e1 ?_)));refine wpAny_pure (a:=some s.heap.objs.size) (wpAny_bind (wpAny_pure (wpAny_bind ?_)));refine wpAny_nsSet1 (Heap.Ns1.of_empty n2) fun h' hn hsb=>?_;obtain⟨oD,esD,epD,hoD,hdD,hcD⟩:=hn.count (PySem.Within.cons name v PySem.Within.nil);refine wpAny_bind (wpAny_lookBehind hoD (by rw[hdD];exact pastItsLine_dict (uy hcD (by show 1<=sizeLine+1;lia))) (wpAny_pure ?_));refine h h' hn ((hsb.2 _ (Ne.symm ne)).trans e2) fun b o nb q=>?_;rw[hsb.2 b (uI (um q)),uK _ _ (Ne.symm nb)];exact ub _ q
theorem xg_slot:Slot "ValueError" "__getattribute__" "BaseException.__getattribute__":=PySem.F.attr_ValueError.ga
theorem zcp{expr:Bool}{Q:VSP}(X:K.In s.heap)(I:InstAt s.heap e ox C od)(hga:findIn K (.ref C) "__getattribute__"=some (some (.builtin "BaseException.__getattribute__")))(hk:findIn K (.ref C) "__getattr__"=some none)
  (hb:subIn K (.ref C) (.type "BaseException")=some true) (hf:findObj K C od name=some (.value v)) (hh:handedIn v=true) (h:Q v { s with toks:=s.toks+1 }):wpAny (model prog w) A (getAttr (.ref e) name expr) Q E s:=by
 have ty:=I.type (M:=model prog w);have fd:=looks_find (M:=model prog w) X I hf;refine wpAny_bind (wpAny_mkText (wpAny_holding (wpAny_bind (ty _ _ _ _ (fun _ _ q=>q) (wpAny_bind (looks_findIn X hga _ _ _ _ (fun _ _ q=>q) ?_))))));dsimp only
 rw[show(onTheHeap (Value.ref C) && Value.builtin "BaseException.__getattribute__" == Value.builtin "object.__getattribute__")=false from by rw[show(Value.builtin "BaseException.__getattribute__" == Value.builtin "object.__getattribute__")=false from by decide +kernel,Bool.and_false],if_neg (by decide:¬ (false=true))];refine wpAny_bind ((looks_hook (mc:=.ref C) X (by rw[if_pos (show onTheHeap (.ref C)=true from rfl)];exact hk)) _ _ _ _ (fun _ _ q=>q) (wpAny_bind (wpAny_attempt (wpAny_holding ?_))));unfold callGetattribute;rw[show(expr && onTheHeap (Value.builtin "BaseException.__getattribute__"))=false from Bool.and_false _,if_neg (by decide:¬ (false=true))];unfold boundAndCalled;rw[xg_slot.bind];refine wpAny_bind (wpAny_pure (wpAny_call (codeAny_call_builtin xg_slot.plain PySem.F.entry_bexc_ga ?_)));refine @check_slot (model prog w) _ _ { s with toks:=s.toks+1 } "BaseException.__getattribute__" "BaseException" "__getattribute__" (.ref e) [.str name s.toks] [] _ (by decide +kernel) (by decide +kernel) (ty.andThen (looks_subIn X hb)) (PySem.F.args_bexc_ga (.ref e) (.str name s.toks)) ?_;refine wpAny_bind (wpAny_pure (wpAny_bind (wpAny_pure (wpAny_bind (ty _ _ _ _ (fun _ _ q=>q) (wpAny_bind (fd _ _ _ _ (fun _ _ q=>q) ?_)))))));refine wpAny_pure ?_;show wpAny _ _ (handedOut v) _ _ _;rw[handedOut_of hh];exact wpAny_pure h
end
end L2
namespace L2
open PySem PySem.Spec PyProof.Rows
variable{e:Addr}{dx:Option Addr}{as:List Expr}{p:List (Addr×Obj)}
def XO(e C:Addr)(dx:Option Addr):HO:=.ext fun h=>∃oe vs t0,h.get? e=some oe/\oe.cls=.ref C/\oe.dict=dx/\oe.data=.fields vs/\vs[0]?=some (.ref t0)/\vs[1]?=some .none/\vs[2]?=some .none
theorem XO.ok(p:∃oe vs t0,h.get? e=some oe/\oe.cls=.ref C/\oe.dict=dx/\oe.data=.fields vs/\vs[0]?=some (.ref t0)/\vs[1]?=some .none/\vs[2]?=some .none):ObjOk P w H h e (XO e C dx) :=
 ⟨p,let ⟨oe,_,_,q,_⟩:=p;⟨oe,q⟩,fun _ _ ⟨oe,vs,t0,a,r⟩ k=>⟨oe,vs,t0,k oe a,r⟩⟩
theorem XO.get(x:HOk P w H h)(q:H e=some (XO e C dx)):∃oe vs t0,h.get? e=some oe/\oe.cls=.ref C/\oe.dict=dx/\oe.data=.fields vs/\vs[0]?=some (.ref t0)/\vs[1]?=some .none/\vs[2]?=some .none :=
 (show ObjOk P w H h e (.ext _)from x e _ q).1
def XD(d:Addr)(fs:List (Str×V)):HO:=.ext fun h=>∃mA,h.Ns1 d mA/\(∀f,RelO (fs.lookup f) (mA f))/\PySem.Within mA (fs.map (·.1))/\fs.length<=1000
theorem XD.ok{fs:List (Str×V)}(p:∃mA,h.Ns1 d mA/\(∀f,RelO (fs.lookup f) (mA f))/\PySem.Within mA (fs.map (·.1))/\fs.length<=1000):ObjOk P w H h d (XD d fs) :=
 ⟨p,let ⟨_,⟨o,_,_,q,_⟩,_⟩:=p;⟨o,q⟩,fun _ _ ⟨mA,n,r⟩ k=>⟨mA,n.at k,r⟩⟩
theorem XD.get{fs:List (Str×V)}(x:HOk P w H h)(q:H d=some (XD d fs)):∃mA,h.Ns1 d mA/\(∀f,RelO (fs.lookup f) (mA f))/\PySem.Within mA (fs.map (·.1))/\fs.length<=1000 :=
 (show ObjOk P w H h d (.ext _)from x d _ q).1
def xIn(K:ua)(C f:Addr):Bool:=match K.lookup C with
 |some ⟨.type "type",_,.cls cd,sl⟩=>(match cd.mro,sl.toList with
  |.ref C'::bm,[_,_,_,_,some (.builtin n),_]=>C' == C && n == "ValueError.__new__" && !cd.hasDel && PySem.W.tailIn K bmV bm && PySem.W.nsOkIn K cd.ns && uF K cd.ns "__init__" == some (some (.ref f)) && bm.contains (.type "BaseException")
  |_,_=>false)
 |_=>false
structure XCl(K:ua)(C f:Addr):Prop where
 cls:xIn K C f=true
 fn:PySem.W.typeIn K (.ref f)=some (.type "function")
 kp:uE K (.ref C)=true
 over:j8 K C=true
 sa:uj K (.ref C) "__setattr__"=some (some (.builtin "object.__setattr__"))
 hd:(PySem.W.clsIn K C).any (·.hasDict)=true
 ga:uj K (.ref C) "__getattribute__"=some (some (.builtin "BaseException.__getattribute__"))
 ha:uj K (.ref C) "__getattr__"=some none
 sb:PySem.W.subIn K (.ref C) (.type "BaseException")=some true
theorem Q2{K:ua}{N:Addr}{n:Str}(X:K.In h)(G:h.Ns N mg)(e:uF K N n=some (some v)):mg n=some v:=by
 obtain⟨o,es,ep,ho,hd,_,hf⟩:=G;unfold uF at e;split at e
 ·rename_i c d es' n' sl q
  have:=X _ _ q
  rw[ho]at this;cases this;cases hd;split at e
  ·rename_i en he
   cases e;rw[<- hf];unfold nsFind findBy;rw[<- Array.find?_toList,he]
   rfl
  ·split at e<;>cases e
 ·cases e
theorem XCl.at{K:ua}(c:XCl K C f)(X:K.In h):∃nm q N bs bm hdct sn sub ab col dd k0 k1 k2 k3 k5 mN,h.get? C=some (excClassObj nm q C N bs bm hdct sn sub ab col dd k0 k1 k2 k3 k5 "ValueError.__new__") /\
  OwnTail h bmV bm/\h.Ns N mN/\mN "__init__"=some (.ref f)/\bm.contains (.type "BaseException")=true:=by
 have q:=c.cls;unfold xIn at q;split at q
 ·rename_i dd cd sl ho
  split at q
  ·rename_i C' bm k0 k1 k2 k3 n k5 hm hs
   simp only[UN,beq_iff_eq,Bool.not_eq_true']at q
   obtain⟨⟨⟨⟨⟨⟨rfl,rfl⟩,hdel⟩,ht⟩,hok⟩,hi⟩,hb⟩:=q;obtain⟨nm,bs,mro,ns,qn,hd,sn,sub,ab,col,del⟩:=cd;dsimp only at hm hdel hok hi
   subst hm hdel;have es:sl=#[k0,k1,k2,k3,some (.builtin "ValueError.__new__"),k5]:=by
    obtain⟨l⟩:=sl;simp only at hs
    rw[hs]
   subst es;have nN:=PySem.Heap.Ns.of_isNs (PySem.W.isNs_of_in X hok);exact⟨nm,qn,ns,bs,bm,hd,sn,sub,ab,col,dd,k0,k1,k2,k3,k5,_,X _ _ ho,PySem.W.tail_of_in X ht,nN,Q2 X nN hi,hb⟩
  ·cases q
 ·cases q
def drp(H:Hp)(e:Addr):Hp:=fun b=>if b=e then none else H b
theorem vD:drp H e e=none:=if_pos rfl
theorem vE(h:b≠e):drp H e b=H b:=if_neg h
theorem Inv.drop{s:Shared}{φ:Heap->Prop}(I:Inv X pins σ H s)(he:H e=some (.ext φ)):Inv X pins σ (drp H e) s:=by
 have no:∀b,H b=none->drp H e b=none:=fun b h=>by
  by_cases q:b=e
  ·rw[q]
   exact vD
  ·rw[vE q]
   exact h
 have nx:∀(b:Addr)(o:HO),H b=some o->(∀ψ,o≠.ext ψ)->drp H e b=some o:=fun b o h n=>by
  have q:b≠e:=fun z=>by
   rw[z,he]at h;cases h;exact n _ rfl
  rw[vE q];exact h
 refine⟨I.ok,I.os,I.bare,⟨I.base.keep,I.base.slot,fun b o q n x=>no b (I.base.free b o q n x),I.base.there,fun b xs q=>nx _ _ (I.base.tups b xs q) (by intro ψ z;cases z),fun b o u q=>nx _ _ (I.base.frzs b o u q) (by intro ψ z;cases z),fun b ps q=>?_⟩,I.loc,I.cell,no _ I.free,fun x c q=>no _ (I.freeC x c q),fun p hp=>?_,fun a o q=>?_,I.len⟩
 ·obtain⟨m,r⟩:=I.base.tbls b ps q
  exact⟨m,nx _ _ r (by intro ψ z;cases z)⟩
 ·obtain⟨a,b,c⟩:=I.pin p hp
  exact⟨a,no _ b,c⟩
 ·have na:a≠e:=fun z=>by
   rw[z,vD]at q;cases q
  rw[vE na]at q;exact(I.hok a o q).stay (fun _ _ _ z=>z) (fun b z=>nx b _ z (by intro ψ y;cases y)) fun b xs z=>nx b _ z (by intro ψ y;cases y)
def vF(X:Cx)(E:XK):Prop:=∀(pins:List (Addr×Obj))(σ:St)(u:Value)(s':Shared),Air X pins σ E u s'->X.xe u s'
theorem wf{K:ua}{cd:Value}{s:Shared}{E:XK}:
  vF (cxOf (CXf P w) P w K mg base N qual scope f cd A outer s H E) E:=fun _ _ _ _ h=>jz h
def YJ(C:Addr)(sp:Sp)(E:XK)(t:TA):TS:=fun _ σ H=>t σ H fun vs H1=>vs.length<=sizeLine/\∀e,H1 e=none->sp (.ref e::vs) (upd H1 e (XO e C none)) (fun v H2=>v=.non/\∃dx,H2 e=some (XO e C dx)/\E (.ref C) dx (drp H2 e)) E0
section
variable{k:Nat}{E:XK}{a:Expr}{t:TA}
theorem VE(M:XCl X.K C f)(F:FnOk X.prog X.w X.K X.mg X.base CX0 k f fd ps sp)(hr:Room (k+1) X.A)(hg:Gl X x)(hm:X.mg x=some (.ref C))(hb:Binds X.K fd ps [])(hx:vF X E)
  (ha:PA X (a::as) t) (hdb:(x == ("__debug__":Str))=false:=by decide) (h1:zF a=false:=by rfl) (h2:as.all (fun e=>!zF e)=true:=by rfl) :
  PS X (.Raise (some (.Call (.Name x np) (a::as) [] cpos)) none pos) (YJ C sp E t):=by
 intro pins s σ H D I h;obtain⟨nm,q,N,bs,bm,hdct,sn,sub,ab,col,dd,k0,k1,k2,k3,k5,mN,hC0,T0,n0,i0,hB⟩:=M.at I.mod.kin;rw[arm_exec_Raise];simp only[evalOpt,Option.map]
 refine wpAny_bind (wpAny_standAt (Xv (C:=C) (nm:=nm) (q:=q) (N:=N) (bs:=bs) (hdct:=hdct) (sn:=sn) (sub:=sub) (ab:=ab) (col:=col) (dd:=dd) (k0:=k0) (k1:=k1) (k2:=k2) (k3:=k3) (k5:=k5) (newId:="ValueError.__new__") hB hr.hd (wpAny_bind ?_)));refine wpAny_Call_Name_kw (yE I hg hm ?_ hdb);refine UD (h₀:=X.base) I.ok.mod.kin M.kp (thn (ha cpos pins s σ H _ I h) fun us s1 ⟨vs,H1,I1,r,hl,q1⟩=>⟨I1.kIn,?_⟩) (zL h1) (yl h2);obtain⟨hh,g,d,tk,os⟩:=s1;have kb:∀b o,X.base.get? b=some o->hh.get? b=some o:=I1.bk;have e0:H1 (hh.objs.size+1)=none:=I1.hok.fresh (tE _);obtain⟨of,hof,hofc⟩:=uz.mp M.fn;have hof':hh.get? f=some of:=I1.kIn _ _ hof;refine QZ UH (by decide +kernel) UH (T0.keeps kb) (kb _ _ hC0) (n0.keeps kb) i0 hof' hofc (show us.length<=sizeLine by rw[<- r.length];exact hl) ?_;have ex:((hh.push (yI us)).push (yK C hh.objs.size)).get? (hh.objs.size+1)=some (yK C hh.objs.size):=Heap.get?_push_at (by simp only[uX]) rfl;have I2:Inv X pins σ (upd H1 (hh.objs.size+1) (XO (hh.objs.size+1) C none)) ⟨(hh.push (yI us)).push (yK C hh.objs.size),g,d,tk,os⟩ :=
  I1.laid (a:=hh.objs.size+1) (o:=XO (hh.objs.size+1) C none) (t':=tk) (fun b u q=>ub _ (ub _ q)) (tE _) (XO.ok ⟨yK C hh.objs.size,_,hh.objs.size,ex,rfl,rfl,rfl,rfl,rfl,rfl⟩)
 have hq:=q1 _ e0;have r2:Vals (V.ref (hh.objs.size+1)::vs) (Value.ref (hh.objs.size+1)::us):=.cons rfl r;have hlen:(Value.ref (hh.objs.size+1)::us).length=ps.length:=by rw[<- r2.length];exact F.len _ _ _ _ hq
 have bd:=hb ⟨(hh.push (yI us)).push (yK C hh.objs.size),g,d,tk,os⟩ (Value.ref (hh.objs.size+1)::us) I2.kIn (by rw[Uu];exact hlen);rw[Uu]at bd;refine wpAny_call (codeAny_mono (F.run _ X.stack _ _ ⟨Value.ref (hh.objs.size+1)::us,[]⟩ (Value.ref (hh.objs.size+1)::us) _ _ E0 (hr.make C us []) (I2.env0.make C us []) bd r2 hq) fun r s' hq'=>?_);cases r with
 |error u=>exact False.elim hq'
 |ok fl =>
  cases fl with
  |ret u =>
   obtain⟨v,H',I3,rv,ev,dx,hH,hE⟩:=I2.after hq';subst ev;obtain⟨oe,ws,t0,g1,g2,g3,g4,g5,g6⟩:=XO.get I3.hok hH;exact⟨rv,wpAny_bind (wpAny_standAt (wpAny_pure ⟨_,oe,ws,rfl,I3.bk _ _ hC0,g1,g2,g4,g6.1,hx pins σ _ s' ⟨_,.ref C,dx,drp H' (hh.objs.size+1),hh.objs.size,rfl,I3.drop hH,vD,I1.sz,tE _,fun p hp=>um (I1.pin p hp).1,.inl ⟨oe,ws,g1,g2,g3,g4,g6⟩,hE⟩⟩))⟩
  |next=>exact False.elim hq'
  |brk=>exact False.elim hq'
  |cont=>exact False.elim hq'
end
structure XBase(K:ua)(R:Addr):Prop where
 sp:tw K (.ref R) "__getattribute__"=some (some (.builtin "type.__getattribute__"))
 rd:PySem.W.readsIn K R (.type "type")=true
 fi:tf K (.ref R) (.type "type") "__init__"=some (.val (.builtin "ValueError.__init__"))
def zcq(C:Addr)(t:TA):TE:=fun σ H Q=>t σ H fun vs H1=>∃e rest dx,vs=.ref e::rest/\rest.length<=sizeLine/\H1 e=some (XO e C dx)/\Q .non H1
theorem zcr{o:HO}(h:H e=some o):upd H e o=H:=by
 funext b
 unfold upd;split
 ·rename_i q
  rw[q,h]
 ·rfl
section
variable{R:Addr}{a e:Expr}{t:TA}
theorem VF{pl:Sem Bool}(M:XCl X.K C f)(B:XBase X.K R)(hg:Gl X x)(hm:X.mg x=some (.ref R))(ha:PA X (a::as) t)(hdb:(x == ("__debug__":Str))=false:=by decide)(h1:zF a=false:=by rfl)(h2:as.all (fun e=>!zF e)=true:=by rfl)
  (ht:eval (.Call (.Attribute (.Name x np) "__init__" apos) (a::as) [] pos) X.env=(do
   let ov <- eval (.Name x np) X.env
   standAt apos.atName
   let (f,first) <- holding [ov] (getMethod ov "__init__" pl)
   callWith pos f first (backTo pos (starEach (a::as) X.env)) (backToKw pos (keywordEach [] X.env))):=by rfl) :
  PE X (.Call (.Attribute (.Name x np) "__init__" apos) (a::as) [] pos) (zcq C t):=by
 intro pins s σ H Q I h;refine UW (pl:=pl) (yE I hg hm ?_ hdb) ht;refine PySem.W.method_cls I.kIn B.sp (PySem.W.cls_value I.kIn B.rd B.fi (by decide +kernel) ?_);have I0:Inv X pins σ H { s with toks:=s.toks+1 }:=I.tok _;refine PyProof.Rows.callWith_builtin1 (thn (ha pos pins _ σ H _ I0 h) fun us s1 ⟨vs,H1,I1,r,e,rest,dx,ev,hl,hH,q⟩=>?_) (zL h1) (yl h2);subst ev;obtain⟨ue,ur,rfl,re,rr⟩:∃ue ur,us=ue::ur/\RelV (.ref e) ue/\Vals rest ur:=by
  cases r with
  |cons p q=>exact⟨_,_,rfl,p,q⟩
 obtain rfl:ue=Value.ref e:=re;obtain⟨oe,ws,t0,g1,g2,g3,g4,g5,g6⟩:=XO.get I1.hok hH;obtain⟨nm,q',N,bs,bm,hdct,sn,sub,ab,col,dd,k0,k1,k2,k3,k5,mN,hC,T,_,_,_⟩:=M.at I1.kIn;obtain⟨hh,g,d,tk,os⟩:=s1;refine Xw UH T hC g1 g2 g4 g5 (by rw[<- rr.length];exact hl) ?_;have e1:=ub (h:=hh) (yI ur) g1;have up:=Uo (Obj.mapFields (·.setIfInBounds 0 (.ref hh.objs.size))) e1 (Obj.isFreed_of_fields (Obj.data_mapFields g4 _));have sz:0 < ws.size:=(Array.getElem?_eq_some_iff.mp g5).1;have I2:=I1.write (x:=e) (e:=e) (o:=XO e C dx) (h':=(hh.push (yI ur)).update e (Obj.mapFields (·.setIfInBounds 0 (.ref hh.objs.size)))) (t':=tk) (by rw[hH];exact True.intro) (.inl rfl)
  (fun b u nb q=>(uK _ _ (Ne.symm nb)).trans (ub _ q)) ⟨_,up⟩
  (XO.ok ⟨_,_,hh.objs.size,up,(Obj.cls_mapFields _ _).trans g2,(xJ _ _).trans g3,Obj.data_mapFields g4 _,by simp[sz],by rw[Array.getElem?_setIfInBounds_ne (by decide)];exact g6.1,by rw[Array.getElem?_setIfInBounds_ne (by decide)];exact g6.2⟩)
 rw[zcr hH]at I2;exact⟨.non,H1,I2,rfl,q⟩
def zds(K:ua)(C:Addr)(ta tv:TE)(m:Str):TS:=fun D σ H=>tv σ H fun y H1=>ta σ H1 fun x H2=>∃e,x=.ref e/\H2 e=some (XO e C none)/\U9 K C m=some none/\∀d,H2 d=none->d≠e->D.nx σ (upd (upd H2 d (XD d [(m,y)])) e (XO e C (some d)))
theorem Q3(M:XCl X.K C f)(ha:PE X o ta)(hv:PE X value tv)(hs:swapsWith value (some (.Attribute o m pos')) pos.line X.env=pure false:=by rfl):PS X (.Assign [.Attribute o m pos'] value pos) (zds X.K C ta tv m):=by
 intro pins s σ H D I h;refine plainObj_wpAny_Assign_Attribute (thn (hv pins s σ H _ I h) fun u s1 ⟨y,H1,I1,ry,q⟩=>thn (ha pins s1 σ H1 _ I1 q) fun ov s2 ⟨x,H2,I2,rx,e,ex,hH,hk,q2⟩=>?_) hs;subst ex;obtain rfl:ov=Value.ref e:=rx;obtain⟨oe,ws,t0,g1,g2,g3,g4,g5,g6⟩:=XO.get I2.hok hH;refine zco I2.kIn g1 g2 g3 g4 M.sa M.over hk M.hd fun h' hn he kp=>?_;have nd:s2.heap.objs.size≠e:=U8 (um g1);have fd:H2 s2.heap.objs.size=none:=I2.hok.fresh (ui _);have ns:∀(b:Addr)(u:HO),H2 b=some u->(∀ψ,u≠.ext ψ)->upd (upd H2 s2.heap.objs.size (XD s2.heap.objs.size [(m,y)])) e (XO e C (some s2.heap.objs.size)) b=some u:=fun b u q nx=>by
  have n1:b≠e:=fun z=>by
   rw[z,hH]at q;cases q;exact nx _ rfl
  rw[zh n1,zh (zk q fd)];exact q
 have ne':∀b,H2 b=none->b≠e:=fun b q z=>by
  rw[z,hH]at q;cases q
 refine⟨σ,_,I2.un (H':=upd (upd H2 s2.heap.objs.size (XD s2.heap.objs.size [(m,y)])) e (XO e C (some s2.heap.objs.size))) (h':=h') (t':=s2.toks+2) ⟨fun b o q n _ _=>kp b o (ne' b n) q,fun b o q n _ _=>⟨o.slots,kp b o (ne' b n) q⟩,fun b o q n _=>?_,fun b o q _=>?_,fun b xs q=>ns b _ q (by intro ψ z;cases z),fun b o u q=>ns b _ q (by intro ψ z;cases z),fun b ps q=>⟨#[],by rw[ns b _ q (by intro ψ z;cases z)];simp⟩⟩ fun b u q=>?_,q2 _ fd nd⟩
 ·rw[zh (ne' b n),zh (uI (um q))]
  exact n
 ·by_cases z:b=e
  ·rw[z]
   exact⟨_,he⟩
  ·exact⟨o,kp b o z q⟩
 ·by_cases z:b=e
  ·subst z
   rw[zg]at q;cases q;exact XO.ok ⟨_,ws,t0,he,g2,rfl,g4,g5,g6⟩
  ·rw[zh z]at q
   by_cases z2:b=s2.heap.objs.size
   ·subst z2
    rw[zg]at q;cases q;refine XD.ok ⟨_,hn,fun f=>?_,fun f hf=>?_,show 1<=1000 by decide⟩
    ·rw[Uz]
     by_cases w:f=m
     ·rw[if_pos w,w,beq_self_eq_true]
      exact ry
     ·rw[if_neg w,beq_eq_false_iff_ne.mpr w]
      exact True.intro
    ·by_cases w:f=m
     ·rw[w]
      exact uS
     ·exact absurd (if_neg w) hf
   ·rw[zh z2]at q
    refine(I2.hok b u q).stay (fun c v hc r=>kp c v (fun w=>?_) r) (fun c r=>ns c _ r (by intro ψ z;cases z)) fun c xs r=>ns c _ r (by intro ψ z;cases z);rcases hc with hc|hc
    ·exact z (hc.symm.trans w)
    ·rw[w,hH]at hc
     cases hc
end
section
variable{s:Shared}{xs:List Addr}
theorem Inv.moved(I:Inv X pins σ H s)(m:Mv (frs X.stack) xs s.heap h')
  (hx:∀b∈xs,H b=none/\(b∈X.ex\/X.s₀.heap.objs.size<=b)/\b≠X.env.locals/\(∀x c,X.env.cells.lookup x=some c->c≠b)/\∀p∈X.pn++pins,p.1≠b):Inv X pins σ H { s with heap:=h' } :=
 I.call (g':=s.gens) (d':=s.drawn) (t':=s.toks) (ch:=xs) ⟨fun b o q _ f x=>m.keep b o q f x,fun b o q _ _ x=>m.slot b o q x,fun _ _ _ n _=>n,fun b o q _=>m.there b o q,fun _ _ q=>q,fun _ _ _ q=>q,fun _ ps q=>⟨#[],by rw[q];simp⟩⟩
  (I.hok.moved m I.stkFree fun b hb=>(hx b hb).1) I.bare fun b hb=>(hx b hb).2
theorem Inv.apart(I:Inv X pins σ H s){o:Obj}(q:s.heap.get? b=some o)(d:o.data=.fields vs):b≠X.env.locals/\∀x c,X.env.cells.lookup x=some c->c≠b:=by
 refine⟨fun z=>?_,fun x c e z=>?_⟩
 ·obtain⟨m,⟨o',es,ep,ho,hd,_⟩,_⟩:=I.loc
  rw[z,ho]at q;cases q;rw[hd]at d;cases d
 ·obtain⟨v,o',ho,hd⟩:=I.cell x c e
  rw[z,q]at ho;cases ho;rw[d]at hd;cases hd
abbrev Cx.inEx(X:Cx)(u:Value)(p:List (Addr×Obj)):Cx:={ X with A:=X.A.mark (some u),calm:=false,pn:=p++X.pn,xe:=fun _ _=>False }
theorem Inv.inEx(I:Inv X pins σ H s)(u:Value)(hp:∀q∈p,s.heap.get? q.1=some q.2/\H q.1=none/\q.1≠X.env.locals/\q.1∉X.fs/\∀v,q.2.data≠.cell v):Inv (X.inEx u p) pins σ H s :=
 ⟨⟨I.ok.mod,I.ok.kind,I.ok.glob,I.ok.blt,I.ok.above,I.ok.inj,I.ok.has,I.ok.cab,(fun z=>nomatch z),I.ok.frames,I.ok.stk,I.ok.exf,I.ok.bs,I.ok.bsz,I.ok.noex,I.ok.exfs,I.ok.funs,I.ok.frf⟩,I.os,I.bare,I.base,I.loc,I.cell,I.free,I.freeC,fun q hq=>by
  have hq':q∈(p++X.pn)++pins:=hq;rw[Uj]at hq';rcases u0.mp hq' with z|z
  ·exact hp q z
  ·exact I.pin q z,I.hok,I.len⟩
theorem Inv.outEx(ok:X.Ok)(I:Inv (X.inEx u p) pins σ H s):Inv X pins σ H s :=
 ⟨ok,I.os,I.bare,I.base,I.loc,I.cell,I.free,I.freeC,fun q hq=>I.pin q (by
  show q∈(p++X.pn)++pins;rw[Uj];exact Ua _ hq),I.hok,I.len⟩
theorem xS{E:VSP}{n:Str}(I:Inv X pins σ H s)(hN:X.N.Nodup)(hi:X.N[i]?=some n)(hl:X.env.scope.names.lookup n=some .local)
  (h:∀s',Inv X pins (σ.set i none) H s'->Q () s'):wpAny (model X.prog X.w) A (do bindName X.env n .none;unbindBehindTheSuite X.env n pos) Q E s:=by
 obtain⟨m,hn,hlk⟩:=id I.loc;have iσ:i < σ.length:=by rw[I.len];exact(ud.mp hi).1
 refine wpAny_nameGoes_keeps (env:=X.env) hl hn (by rw[I.ok.kind];rfl) fun h' v hn' hs=>h _ ?_;have nl:∀(b:Addr)(o:Obj),X.s₀.heap.get? b=some o->b≠X.env.locals:=fun b o q=>uI (uv (um q) I.ok.above);refine⟨I.ok,I.os,I.bare,⟨fun b o q n hb hx=>(hs.2 b (nl b o q)).trans (I.base.keep b o q n hb hx),fun b o q n hb hx=>?_,I.base.free,fun b o q hx=>?_,I.base.tups,I.base.frzs,I.base.tbls⟩,⟨_,hn',fun j y v' e1 e2 e3=>?_⟩,fun y c q=>?_,I.free,I.freeC,fun p hp=>?_,fun b u q=>?_,by rw[List.length_set];exact I.len⟩
 ·obtain⟨sl,q1⟩:=I.base.slot b o q n hb hx
  exact⟨sl,(hs.2 b (nl b o q)).trans q1⟩
 ·obtain⟨o1,q1⟩:=I.base.there b o q hx
  exact⟨o1,(hs.2 b (nl b o q)).trans q1⟩
 ·have hj:j≠i:=fun z=>by
   rw[z,List.getElem?_set_self iσ]at e2;cases e2
  rw[List.getElem?_set_ne (Ne.symm hj)]at e2;obtain⟨u,r,q⟩:=hlk j y v' e1 e2 e3;refine⟨u,r,?_⟩;rcases q with⟨k,e⟩|⟨k,c,e,z⟩
  ·have ny:y≠n:=fun z=>hj (vp hN e1 (z ▸ hi))
   exact .inl ⟨k,by simp[ny,e]⟩
  ·exact .inr ⟨k,c,e,z.sameBut hs (I.cne y c e)⟩
 ·obtain⟨w,z⟩:=I.cell y c q
  exact⟨w,z.sameBut hs (I.cne y c q)⟩
 ·obtain⟨a,b,c,d⟩:=I.pin p hp
  exact⟨(hs.2 p.1 c).trans a,b,c,d⟩
 ·refine(I.hok b u q).stay (fun c v hc r=>(hs.2 c fun z=>?_).trans r) (fun _ r=>r) fun _ _ r=>r
  rcases hc with hc|hc
  ·rw[<- hc,z,I.free]at q
   cases q
  ·rw[z,I.free]at hc
   cases hc
end
abbrev Ends.behind(D:Ends)(i:Nat):Ends:={ nx:=fun σ H=>D.nx (σ.set i none) H,rt:=D.rt,bk:=fun σ H=>D.bk (σ.set i none) H,ct:=fun σ H=>D.ct (σ.set i none) H }
section
variable{s:Shared}
theorem Inv.turns(I:Inv X pins σ H s)(k:∀b o,b∉ch->s.heap.get? b=some o->h'.get? b=some o)(hf:∀b∈ch,FpOk X pins H b):Inv X pins σ H { s with heap:=h',toks:=t' }:=by
 have nit:∀b u,H b=some u->b∉ch:=fun b u e z=>by rw[(hf b z).1]at e;cases e
 refine I.call (g':=s.gens) (d':=s.drawn) (t':=t') (ch:=ch) ⟨fun b o q _ _ x=>k b o x q,fun b o q _ _ x=>⟨o.slots,k b o x q⟩,fun _ _ _ n _=>n,fun b o q x=>⟨o,k b o x q⟩,fun _ _ q=>q,fun _ _ _ q=>q,fun _ ps q=>⟨#[],by rw[q];simp⟩⟩
  (fun b u e=>(I.hok b u e).stay (fun c v hc q=>k c v ?_ q) (fun _ q=>q) fun _ _ q=>q) I.bare fun b hb=>?_
 ·rcases hc with z|z
  ·rw[z];exact nit b u e
  ·exact nit c _ z
 ·obtain⟨f0,f1,f2,f3,f4,f5⟩:=hf b hb
  exact⟨f3,f1,f4,f5⟩
theorem Inv.turnsLaid{o:HO}(I:Inv X pins σ H s)(k:∀b o,b∉ch->s.heap.get? b=some o->h'.get? b=some o)(hf:∀b∈ch,FpOk X pins H b)(hp:s.heap.objs.size<=a)(new:ObjOk X.prog X.w (upd H a o) h' a o):
  Inv X pins σ (upd H a o) { s with heap:=h',toks:=t' }:=by
 have hn:=I.hok.fresh hp;have nit:∀b u,H b=some u->b∉ch:=fun b u e z=>by rw[(hf b z).1]at e;cases e
 refine I.call (g':=s.gens) (d':=s.drawn) (t':=t') (ch:=ch) ⟨fun b o q _ _ x=>k b o x q,fun b o q _ _ x=>⟨o.slots,k b o x q⟩,fun b u q n _=>by rw[zh (uI (uv (um q) hp))];exact n,fun b o q x=>⟨o,k b o x q⟩,
   fun b xs q=>by rw[zh (zk q hn)];exact q,fun b u xs q=>by rw[zh (zk q hn)];exact q,fun b ps q=>⟨#[],by rw[zh (zk q hn),q];simp⟩⟩
  (fun b u e=>?_) I.bare fun b hb=>?_
 ·by_cases hb:b=a
  ·subst hb
   rw[zg]at e;cases e;exact new
  ·rw[zh hb]at e
   refine(I.hok b u e).stay (fun c v hc q=>k c v ?_ q) (fun c q=>by rw[zh (zk q hn)];exact q) fun c xs q=>by rw[zh (zk q hn)];exact q
   rcases hc with z|z
   ·rw[z];exact nit b u e
   ·exact nit c _ z
 ·obtain⟨f0,f1,f2,f3,f4,f5⟩:=hf b hb
  exact⟨f3,f1,f4,f5⟩
end
def Ite(K:ua)(a:Addr):It :=
 ⟨fun i H=>∃xs x,SqL K H a xs/\xs[i]?=some x,fun i H x H'=>∃T v,x=.ref T/\H T=none/\H'=upd H T (.tup [.int i,v])/\∀xs,SqL K H a xs->xs[i]?=some v,fun i H=>∃xs,SqL K H a xs/\xs.length<=i⟩
theorem Wo{K:ua}{k:Nat}(hne:e≠it):Turn P w K (.Tuple elts k pos) (Ite K a) [e,it] e (fun i h=>(∃old,IsEnum h e it (i:Int) old)/\h.IsListIter it a i) where
 mem:=by simp
 obj:=fun i h st b hb=>by
  obtain⟨⟨old,he⟩,hit⟩:=st;have e':b=e\/b=it:=by simpa using hb
  rcases e' with z|z
  ·subst z
   exact⟨_,he,fun v z=>by cases z⟩
  ·subst z
   obtain⟨o,e,c,d⟩:=hit;exact⟨o,e,fun v z=>by rw[d]at z;cases z⟩
 keep:=fun i h h' st k=>⟨st.1.imp fun old he=>k e (by simp) _ he,st.2.at fun o x=>k it (by simp) o x⟩
 item:=by
  intro X hP hw hK hc i pins s σ H E I hf st hg;subst hP hw hK;obtain⟨xs,x,hq,hx⟩:=hg;obtain⟨its,rv,p,hz⟩:=I.list hq;obtain⟨u,hu,ru⟩:=rv.get hx;obtain⟨⟨old,he⟩,hit⟩:=st;refine wpAny_pyNext_enum_item he hit p.isList (x:=u) (by simpa using hu) hne fun h' ho hit' hT hsz hk=>?_;have new:ObjOk X.prog X.w (upd H s.heap.objs.size (.tup [.int i,x])) h' s.heap.objs.size (.tup [.int i,x]):=⟨by show 2<=sizeLine;decide,[.int i s.toks,u],.cons ⟨_,rfl⟩ (.cons ru .nil),⟨_,hT,rfl,rfl,_,rfl⟩⟩;have I1:Inv X pins σ (upd H s.heap.objs.size (.tup [.int i,x])) { s with heap:=h',toks:=s.toks+1 }:=I.turnsLaid (ch:=[e,it]) (fun b o hb q=>hk b o (fun z=>hb (by simp[z])) (fun z=>hb (by simp[z])) q) hf (ui _) new;have hlt:∀b∈[e,it],b≠s.heap.objs.size:=fun b hb=>by
   have e':b=e\/b=it:=by simpa using hb
   rcases e' with z|z
   ·rw[z];exact uI (um he)
   ·rw[z];obtain⟨o,q,_⟩:=hit;exact uI (um q)
  have hn:∀b∈[e,it],upd H s.heap.objs.size (.tup [.int i,x]) b=none:=fun b hb=>by rw[zh (hlt b hb)];exact(hf b hb).1
  have hf1:∀b∈[e,it],FpOk X pins (upd H s.heap.objs.size (.tup [.int i,x])) b:=fun b hb=>⟨hn b hb,(hf b hb).2⟩;refine⟨_,rfl,wpAny_letOwnedTupleGo_enum (s:={ s with heap:=h',toks:=s.toks+1 }) ho fun h'' he' hs'=>?_⟩;have I2:Inv X pins σ (upd H s.heap.objs.size (.tup [.int i,x])) { s with heap:=h'',toks:=s.toks+1 }:=Inv.turns (s:={ s with heap:=h',toks:=s.toks+1 }) (t':=s.toks+1) (ch:=[e,it]) I1 (fun b o hb q=>(hs'.2 b fun z=>hb (by simp[z])).trans q) hf1;refine⟨.ref s.heap.objs.size,_,I2,rfl,⟨_,x,rfl,I.fresh,rfl,fun ys hy=>by rw[I.list_inj hy hq];exact hx⟩,⟨⟨u,?_⟩,hit'.at fun o q=>(hs'.2 it hne.symm).trans q⟩,hn⟩;have e1:(((i+1:Nat)):Int)=(i:Int)+1:=by lia
  rw[e1];exact he'
 done:=by
  intro X hP hw hK hc i pins s σ H E I hf st hg;subst hP hw hK;obtain⟨xs,hq,hx⟩:=hg;obtain⟨its,rv,p,hz⟩:=I.list hq;have hl:=rv.length;obtain⟨⟨old,he⟩,hit⟩:=st;exact wpAny_pyNext_enum_end (I.ok.hd hc) he hit p.isList (by simp;lia) fun h' eb=>⟨rfl,I.turns (t':=s.toks) (ch:=[e,it]) (fun b o hb q=>eb b o (fun z=>hb (by simp[z])) q) hf⟩
 self:=fun _ _ _ _ _ st h=>by
  obtain⟨⟨old,he⟩,_⟩:=st;exact wpAny_pyIter_enum he h
section
variable{k:Nat}
def zbo(K:ua)(ta:TA):TI:=fun σ H R=>ta σ H fun vs H1=>∃a,vs=[.ref a]/\(∃xs,SqL K H1 a xs)/\R (Ite K a) H1
theorem Q4{a:Expr}{ta:TA}{p:Pos}(hg:Gl X "enumerate")(hm:X.mg "enumerate"=none)(ha:PA X [a] ta)(hs:starEach [a] X.env=[(false,eval a X.env)]:=by rfl):PI X (.Tuple elts k tpos) (.Call (.Name "enumerate" p) [a] [] pos) (zbo X.K ta):=by
 intro pins s σ H R I h;refine Call_ (xy I hg hm boot_enumerate (Uv (thn (ha pos pins s σ H _ I h) fun us s1 ⟨vs,H1,I1,r1,q1⟩=>?_) hs rfl));obtain⟨l,e,⟨xs,hq⟩,q⟩:=q1;subst e;obtain⟨u,rfl,rx⟩:=xj r1;cases rx;obtain⟨its,rv,pl,hz⟩:=I1.list hq;refine call_enumerate_list pl.isList fun h' hE hI hsz hk=>?_;refine wpAny_pyIter_enum hE ?_;refine⟨s1.heap.objs.size+1,[s1.heap.objs.size+1,s1.heap.objs.size],_,_,H1,rfl,I1.kept (t':=s1.toks) hk,Wo (a:=l) (Nat.succ_ne_self _),⟨⟨_,hE⟩,hI⟩,fun b hb=>?_,q⟩;have e:b=s1.heap.objs.size+1\/b=s1.heap.objs.size:=by simpa using hb
 rcases e with e|e
 ·subst e
  exact I1.fpOk (tE _) (I1.hok.fresh (tE _))
 ·subst e
  exact I1.fpOk (ui _) (I1.hok.fresh (ui _))
theorem Q5{a:Expr}{t:TA}{p:Pos}(hg:Gl X "enumerate")(hm:X.mg "enumerate"=none)(ha:jA X [a] t)(h:zF a=false:=by rfl):jI X (.Tuple elts k tpos) (.Call (.Name "enumerate" p) [a] [] pos) (zbo X.K t):=⟨Q4 hg hm ha.out (zL h)⟩
end
end L2
namespace L2
open PySem PySem.Spec PyProof.Rows Builtin Builtin.Str
theorem wx:∀{zs:lS}{us:List Value},Vals (zs.map V.str) us->∃l:List (Str×Tok),us=strValues l/\l.map (·.1)=zs
 |[],_,.nil=>⟨[],rfl,rfl⟩
 |z::zs,_,.cons ⟨t,e⟩ r=>by
  obtain⟨l,rfl,h⟩:=wx r;exact⟨(z,t)::l,by rw[e];rfl,by rw[uC,h]⟩
theorem ZX(sep:Str):∀(zs:lS)(a:Nat),zs.foldl (· + ·.length+sep.length) a=a+((zs.map (·.length)).sum+zs.length*sep.length)
 |[],a=>by simp
 |z::zs,a=>by
  rw[U0,ZX sep zs];simp only[uC,tP,uJ,Nat.add_mul,Nat.one_mul]
  lia
def wide(sep:Str)(zs:lS):Nat:=(zs.map (·.length)).sum+zs.length*sep.length
def zbp(K:ua):V->List V->Hp->VK->Prop:=fun x vs H Q=>∃sep p zs,x=.str sep/\vs=[.ref p]/\SqL K H p (zs.map V.str)/\wide sep zs<=sizeLine/\Q (.str (Str.join sep zs)) H
theorem Q6:MtR X "str.join" (zbp X.K):=by
 intro pins s σ H x vs v us Q I rx rv h;obtain⟨sep,p,zs,rfl,rfl,hq,hw,q⟩:=h;obtain⟨t,rfl⟩:=rx;obtain⟨u,rfl,ru⟩:=rv.one;cases ru;obtain⟨its,r,pl,hz⟩:=I.list hq;obtain⟨l,rfl,hl⟩:=wx r;have big:tooLong ((l.map (·.1)).toArray.foldl (· + ·.length+sep.length) 0)=false:=by
  rw[hl,List.foldl_toArray,ZX];unfold tooLong;rw[decide_eq_false_iff_not];unfold wide at hw;lia
 have hg:=size_glued sep zs;have hle:(glued sep zs).length<=sizeLine:=by
  rw[hg];unfold wide at hw
  have:(zs.length-1)*sep.length<=zs.length*sep.length:=Nat.mul_le_mul_right _ (Nat.sub_le _ _)
  lia
 refine call_meets F.slot_str_join (typeIs_str _ _ _) F.entry_str_join (F.args_str_join_2 _ _) (meets_str_join_list sep t p l big) ⟨pl.isList,?_⟩;rw[<- StrLaws.glued_eq_join]at q
 match l,hl with
 |[],hl=>exact⟨by rw[hl];exact hle,.str _,H,I.tok _,⟨_,rfl⟩,by rw[hl];exact q⟩
 |[(z,tz)],hl =>
  have e:glued sep zs=z:=by
   rw[<- hl]
   rfl
  rw[e]at q;exact⟨.str z,H,I,⟨tz,rfl⟩,q⟩
 |a::b::r,hl=>exact⟨by rw[hl];exact hle,.str _,H,I.tok _,⟨_,rfl⟩,by rw[hl];exact q⟩
theorem Q7:jMt X "str.join" (zbp X.K):=⟨Q6⟩
def rEqE(K:ua)(neg:Bool):R2:=fun x y H Q=>∃p p' xs,x=.ref p/\y=.ref p'/\SqL K H p xs/\SqL K H p' []/\Q (.bl (if neg then !xs.isEmpty else xs.isEmpty)) H
theorem zcs(hu:X.A.units < cLine):OpR X (compareOp .Eq) (rEqE X.K false):=by
 intro pins s σ H x y v u Q I rx ry h;obtain⟨p,p',xs,rfl,rfl,h1,h2,q⟩:=h;cases rx;cases ry;obtain⟨its,r,pl,_⟩:=I.list h1;obtain⟨its',r',pl',_⟩:=I.list h2;cases r';cases r with
 |nil=>exact SeqAt.eq_listAt (e:=fun _=>true) pl.isList pl'.isList rfl hu (fun j h=>absurd h (tS _)) ⟨.bl true,H,I,rfl,q⟩
 |cons a b=>exact SeqAt.eq_list_lengthsAt pl.isList pl'.isList rfl hu ⟨.bl false,H,I,rfl,q⟩
theorem zct(hu:X.A.units < cLine):OpR X (compareOp .NotEq) (rEqE X.K true):=by
 intro pins s σ H x y v u Q I rx ry h;obtain⟨p,p',xs,rfl,rfl,h1,h2,q⟩:=h;cases rx;cases ry;obtain⟨its,r,pl,_⟩:=I.list h1;obtain⟨its',r',pl',_⟩:=I.list h2;cases r';cases r with
 |nil=>exact SeqAt.RcNeAt.lists (e:=fun _=>true) pl.isList pl'.isList rfl hu (fun j h=>absurd h (tS _)) _ _ _ _ ⟨.bl false,H,I,rfl,q⟩
 |cons a b=>exact SeqAt.RcNeAt.lists_lengths pl.isList pl'.isList rfl hu _ _ _ _ ⟨.bl true,H,I,rfl,q⟩
theorem YK{k:Nat}(hr:Room k X.A):jOp X (compareOp .Eq) (rEqE X.K false):=⟨zcs hr.units0⟩
theorem VG{k:Nat}(hr:Room k X.A):jOp X (compareOp .NotEq) (rEqE X.K true):=⟨zct hr.units0⟩
end L2
namespace L2
open PySem PySem.Spec PyProof.Rows
variable{xs us:Array Value}{j:Addr}{Q:VSP}{f g:Value}
def Sq(k:Bool)(h:Heap)(l:Addr)(xs:Array Value):Prop:=match k with
 |true=>h.IsList l xs
 |false=>h.IsTuple l xs
def SqI(k:Bool)(h:Heap)(j l:Addr)(n:Nat):Prop:=match k with
 |true=>h.IsListIter j l n
 |false=>h.IsTupleIter j l n
def SqN(k:Bool):String:=if k then "list_iterator"else "tuple_iterator"
theorem Sq.at{k:Bool}{l:Addr}(x:Sq k h l xs)(e:∀o,h.get? l=some o->h'.get? l=some o):Sq k h' l xs:=by
 cases k<;>obtain⟨o,ho,r⟩:=x<;>exact⟨o,e _ ho,r⟩
theorem SqI.at{k:Bool}{l:Addr}(x:SqI k h j l n)(e:∀o,h.get? j=some o->h'.get? j=some o):SqI k h' j l n:=by
 cases k<;>obtain⟨o,ho,r⟩:=x<;>exact⟨o,e _ ho,r⟩
theorem SqI.ex{k:Bool}{l:Addr}(x:SqI k h j l n):∃o,h.get? j=some o/\o.cls=.type (SqN k)/\o.data=.fields #[.ref l,.int n 0]:=by
 cases k<;>exact x
theorem SqI.of{k:Bool}{l:Addr}(x:∃o,h.get? j=some o/\o.cls=.type (SqN k)/\o.data=.fields #[.ref l,.int n 0]):SqI k h j l n:=by
 cases k<;>exact x
section
variable{E:VSP}{s:Shared}
theorem VH{l:Addr}{x:Value}(hj:s.heap.IsTupleIter j l n)(hl:s.heap.IsTuple l xs)(hx:xs[n]?=some x)
  (q:∀h',h'.IsTupleIter j l (n+1)->Heap.SameBut j s.heap h'->Q x { s with heap:=h' }):wpAny (model P w) A (Ub (.ref j)) Q E s:=by
 have⟨oj,hoj,cj,dj⟩:=hj;have⟨ol,hol,_,m,dl⟩:=hl;unfold Ub;refine wpAny_bind (wpAny_callSpecial?_slot hj.typeIs F.slot_tuple_iterator_next (wpAny_call_entry F.slot_tuple_iterator_next hj.typeIs F.entry_tuple_iterator_next ?_ (F.args_tuple_iterator_next_1 (.ref j))));refine wpAny_bind (m:=field (.ref j) 0) (wpAny_field hoj dj (x:=.ref l) rfl ?_);have nn:¬ ((Value.ref l == Value.none)=true):=uB;show wpAny _ _ (ite ((Value.ref l == Value.none)=true) _ _) _ _ _;rw[if_neg nn];refine wpAny_bind (m:=field (.ref j) 1) (wpAny_field hoj dj (x:=.int n 0) rfl ?_);refine wpAny_bind (m:=seqItems? (.ref l)) (wpAny_seqItems hol dl ?_);simp only[Int.toNat_natCast,hx]
 refine wpAny_bind (wpAny_setField hoj dj (by simp) (wpAny_pure ⟨x,rfl,wpAny_pure (q _ ⟨_,Uo _ hoj (Obj.isFreed_of_fields (Obj.data_mapFields dj _)),(Obj.cls_mapFields ..).trans cj,?_⟩ (Heap.SameBut.update ..))⟩));rw[Obj.data_mapFields dj];simp[rawInt]
theorem Q8{l:Addr}(hA:A.handled=none)(hj:s.heap.IsTupleIter j l n)(hl:s.heap.IsTuple l xs)(hx:xs[n]?=none)
  (q:∀h' e,Heap.ExtBut j s.heap h'->(∃o,h'.get? e=some o/\o.cls=.type "StopIteration")->E (.ref e) { s with heap:=h' }):wpAny (model P w) A (Ub (.ref j)) Q E s:=by
 have⟨oj,hoj,cj,dj⟩:=hj;have⟨ol,hol,_,m,dl⟩:=hl;unfold Ub;refine wpAny_bind (wpAny_callSpecial?_slot hj.typeIs F.slot_tuple_iterator_next (wpAny_call_entry F.slot_tuple_iterator_next hj.typeIs F.entry_tuple_iterator_next ?_ (F.args_tuple_iterator_next_1 (.ref j))));refine wpAny_bind (m:=field (.ref j) 0) (wpAny_field hoj dj (x:=.ref l) rfl ?_);have nn:¬ ((Value.ref l == Value.none)=true):=uB;show wpAny _ _ (ite ((Value.ref l == Value.none)=true) _ _) _ _ _;rw[if_neg nn];refine wpAny_bind (m:=field (.ref j) 1) (wpAny_field hoj dj (x:=.int n 0) rfl ?_);refine wpAny_bind (m:=seqItems? (.ref l)) (wpAny_seqItems hol dl ?_);simp only[Int.toNat_natCast,hx]
 refine wpAny_bind (wpAny_rule (wpAny_bind (wpAny_setField hoj dj (by simp) ?_)));refine wpAny_bind (m:=newExc (.type "StopIteration") []) ?_;unfold newExc newTuple;refine wpAny_bind (wpAny_newObj_type (wpAny_bind (m:=firstArgMember _ _) (wpAny_of_eq (a:=Value.none) (by first|rfl|(simp only[firstArgMember];rfl)) (wpAny_newObj_type ?_ (by size_fits)))) (by size_fits));unfold raiseNew;refine wpAny_bind (wpAny_handled ?_);rw[show A.in1.handled=none from hA];exact wpAny_bind (wpAny_pure (wpAny_throw (q _ _ (((Heap.SameBut.update ..).extBut.push _).push _) ⟨_,uo _ rfl,rfl⟩)))
theorem Q9{k:Bool}{l:Addr}{x:Value}(hj:SqI k s.heap j l n)(hl:Sq k s.heap l xs)(hx:xs[n]?=some x)
  (q:∀h',SqI k h' j l (n+1)->Heap.SameBut j s.heap h'->Q x { s with heap:=h' }):wpAny (model P w) A (Ub (.ref j)) Q E s:=by
 cases k with
 |true=>exact wpAny_nextOf_list_item hj hl hx q
 |false=>exact VH hj hl hx q
theorem zcu{k:Bool}{l:Addr}(hA:A.handled=none)(hj:SqI k s.heap j l n)(hl:Sq k s.heap l xs)(hx:xs[n]?=none)
  (q:∀h' e,Heap.ExtBut j s.heap h'->(∃o,h'.get? e=some o/\o.cls=.type "StopIteration")->E (.ref e) { s with heap:=h' }):wpAny (model P w) A (Ub (.ref j)) Q E s:=by
 cases k with
 |true=>exact wpAny_nextOf_list_end hA hj hl hx q
 |false=>exact Q8 hA hj hl hx q
theorem wy{k:Bool}{l:Addr}(hl:Sq k s.heap l xs)(q:Q (.ref s.heap.objs.size) { s with heap:=s.heap.push { cls:=.type (SqN k),data:=.fields #[.ref l,.int 0 0] } }):
  wpAny (model P w) A (pyIter (.ref l)) Q E s:=by
 cases k with
 |true=>exact wpAny_pyIter_list hl q
 |false=>exact wpAny_pyIter_tuple hl q
end
abbrev za(k:Bool)(h:Heap)(l:Addr):Heap:=h.push { cls:=.type (SqN k),data:=.fields #[.ref l,.int 0 0] }
abbrev zb(k m:Bool)(h:Heap)(l r:Addr):Heap:=za m (za k h l) r
abbrev zc(k m:Bool)(h:Heap)(l r:Addr):Heap:=(zb k m h l r).push { cls:=.type "tuple",data:=.seq #[.ref h.objs.size,.ref (za k h l).objs.size] }
abbrev zd(k m:Bool)(h:Heap)(l r:Addr):Heap:=(zc k m h l r).push { cls:=.type "tuple",data:=.seq #[.none,.none] }
abbrev ze(k m:Bool)(h:Heap)(l r:Addr):Heap:=(zd k m h l r).push { cls:=.type "zip",data:=.fields #[.none,.bool false,.bool false,.ref (zb k m h l r).objs.size,.ref (zc k m h l r).objs.size] }
theorem VI(k m:Bool)(l r:Addr)(xs ys:Array Value):Meets (Builtin.«zip.__new__» ⟨[.type "zip",.ref l,.ref r],[]⟩)
  (fun _ R s=>Sq k s.heap l xs/\Sq m s.heap r ys/\R (.ok (.ret (.ref (zd k m s.heap l r).objs.size))) { s with heap:=ze k m s.heap l r }) :=
 .of_wp fun prog w A R s h=>by
  obtain⟨hp,g,d,tk,os⟩:=s;obtain⟨h1,h2,h⟩:=h;have hs:=sub_zip;have q1:Sq k (Shared.heap ⟨hp,g,d,tk,os⟩) l xs:=h1;have q2:Sq m (Shared.heap ⟨za k hp l,g,d,tk,os⟩) r ys:=h2.at fun o e=>ub _ e
  wp_walk using wy q1,wy q2
  exact⟨_,rfl,h⟩
structure ZN(zs:List (Bool×Nat))(h:Heap)(B n:Nat)(f g:Value):Prop where
 z:h.get? (B+zs.length+2)=some { cls:=.type "zip",data:=.fields #[f,g,.bool false,.ref (B+zs.length),.ref (B+zs.length+1)] }
 ti:h.get? (B+zs.length)=some { cls:=.type "tuple",data:=.seq ((uZ zs.length).map fun j=>Value.ref (B+j)).toArray }
 to:∃us:Array Value,us.size=zs.length/\h.get? (B+zs.length+1)=some { cls:=.type "tuple",data:=.seq us }
 it:∀(j:Nat) k l,zs[j]?=some (k,l)->SqI k h (B+j) l n
theorem ZN.at(x:ZN zs h B n f g)(e:∀(b:Nat) o,B<=b->b<=B+zs.length+2->h.get? b=some o->h'.get? b=some o):ZN zs h' B n f g where
 z:=e _ _ (by lia) (by lia) x.z
 ti:=e _ _ (by lia) (by lia) x.ti
 to:=let ⟨us,c,y⟩:=x.to;⟨us,c,e _ _ (by lia) (by lia) y⟩
 it:=fun j k l hj=>(x.it j k l hj).at fun o=>e _ o (by lia) (by have:=(ud.mp hj).1;lia)
def KeptN(B N:Nat)(h h':Heap):Prop:=∀(c:Nat) o,(c < B\/B+N+2 < c)->h.get? c=some o->h'.get? c=some o
def AtN(zs:List (Bool×Nat))(h:Heap)(B n:Nat)(va:Nat->Option Value):Prop:=∀(j:Nat) k l,zs[j]?=some (k,l)->l < B/\∃xs:Array Value,Sq k h l xs/\xs[n]?=va j
structure ZW(zs:List (Bool×Nat))(h0 h:Heap)(B n j:Nat)(f g:Value)(us:Array Value):Prop where
 z:h.get? (B+zs.length+2)=some { cls:=.type "zip",data:=.fields #[f,g,.bool false,.ref (B+zs.length),.ref (B+zs.length+1)] }
 ti:h.get? (B+zs.length)=some { cls:=.type "tuple",data:=.seq ((uZ zs.length).map fun j=>Value.ref (B+j)).toArray }
 ts:us.size=zs.length
 to:h.get? (B+zs.length+1)=some { cls:=.type "tuple",data:=.seq us }
 it:∀(i:Nat) k l,zs[i]?=some (k,l)->SqI k h (B+i) l (if i < j then n+1 else n)
 kp:KeptN B zs.length h0 h
 sz:h.objs.size=h0.objs.size
theorem ZW.next{h0:Heap}{j l:Nat}{k:Bool}(W:ZW zs h0 h B n j f g us)(hj:zs[j]?=some (k,l))(i2:SqI k h2 (B+j) l (n+1))(u2:Heap.SameBut (B+j) h h2):ZW zs h0 h2 B n (j+1) f g us:=by
 have jl:=(ud.mp hj).1;have k2:∀(c:Nat) o,c≠B+j->h.get? c=some o->h2.get? c=some o:=fun c o n e=>(u2.2 c n).trans e;refine⟨k2 _ _ (by lia) W.z,k2 _ _ (by lia) W.ti,W.ts,k2 _ _ (by lia) W.to,fun i k' l' hi=>?_,fun c o hc e=>k2 _ _ (by lia) (W.kp c o hc e),by rw[u2.1,W.sz]⟩;by_cases c:i=j
 ·subst c
  rw[hj]at hi;cases hi;rw[if_pos (tI _)];exact i2
 ·simp only[Nat.lt_succ_iff_lt_or_eq,c,or_false]
  exact(W.it i k' l' hi).at fun o e=>k2 _ o (by lia) e
theorem ZW.done{h0 h9:Heap}{j:Nat}{f' g':Value}(W:ZW zs h0 h B n zs.length f g us)(k9:∀(c:Nat) o,c≠B+zs.length+2->h.get? c=some o->h9.get? c=some o)(z9:h9.get? (B+zs.length+2)=some { cls:=.type "zip",data:=.fields #[f',g',.bool false,.ref (B+zs.length),.ref (B+zs.length+1)] }):ZN zs h9 B (n+1) f' g' :=
 ⟨z9,k9 _ _ (by lia) W.ti,⟨us,W.ts,k9 _ _ (by lia) W.to⟩,fun i k l hi=>by
  have il:=(ud.mp hi).1;have e:=W.it i k l hi;rw[if_pos il]at e;exact e.at fun o e=>k9 _ o (by lia) e⟩
theorem VJ{α:Type}{L rest:List α}{x:α}{j:Nat}(hr:x::rest=L.drop j):∃jl:j < L.length,x=L[j]/\rest=L.drop (j+1):=by
 rcases Nat.lt_or_ge j L.length with c|c
 ·rw[Uc c]at hr
  injection hr with e1 e2
  exact⟨c,e1,e2⟩
 ·rw[List.drop_of_length_le c]at hr
  cases hr
section
variable{E:VSP}{s:Shared}{va:Nat->Option Value}
theorem VL{o:Obj}{Q:Option Obj->Shared->Prop}(ho:s.heap.get? a=some o)(h:Q (some o) s):wpAny (model P w) A (loadIfAlive a) Q E s:=fun Γ p _=>by
 unfold loadIfAlive;rw[Sem.wp_loadIfAlive,ho];simpa using h
def ZF(B N:Nat)(h:Heap)(f g:Value):Prop:=f=.none\/∃(T:Nat)(c:Bool)(o:Obj),f=rawInt T/\g=.bool c/\h.get? T=some o/\B+N+3 < T
theorem zipN(hA:A.handled=none)(Z:ZN zs s.heap B n f g)(hf:ZF B zs.length s.heap f g)(hz:0 < zs.length)(hs:zs.length<=sizeLine)(hq:AtN zs s.heap B n va)
  (q:∀h' us (T:Nat) (c:Bool),us.size=zs.length->(∀i,i < zs.length->us[i]?=va i)->ZN zs h' B (n+1) (rawInt T) (.bool c)->(T=s.heap.objs.size/\f=.none/\c=false\/f=rawInt T/\B+zs.length+3 < T/\∃o,s.heap.get? T=some o)->h'.get? s.heap.objs.size=some { cls:=.type "tuple",data:=.seq us }->h'.objs.size=s.heap.objs.size+1->KeptN B zs.length s.heap h'->Q (.ref s.heap.objs.size) { s with heap:=h' })
  (qe:∀h' e j,j < zs.length->va j=none->KeptN B zs.length s.heap h'->(∃o,h'.get? e=some o/\o.cls=.type "StopIteration")->E (.ref e) { s with heap:=h' }) :
  wpAny (model P w) A (Builtin.«zip.__next__» ⟨[.ref (B+zs.length+2)],[]⟩) (fun fin s'=>∃v,fin=.done (.ret v)/\Q v s') E s:=by
 obtain⟨us0,hu0,hto⟩:=Z.to;refine wpAny_bind (m:=field (.ref (B+zs.length+2)) 2) (wpAny_field Z.z rfl (x:=.bool false) rfl ?_);refine wpAny_bind (m:=field (.ref (B+zs.length+2)) 3) (wpAny_field Z.z rfl (x:=.ref (B+zs.length)) rfl (wpAny_bind (wpAny_seqItems Z.ti rfl ?_)));have ne:((uZ zs.length).map fun j=>Value.ref (B+j)).toArray.isEmpty=false:=by
  rw[Array.isEmpty_eq_false_iff_exists_mem];exact⟨.ref (B+0),by simp;exact hz⟩
 show wpAny _ _ (if((uZ zs.length).map fun j=>Value.ref (B+j)).toArray.isEmpty=true then _ else _) _ _ _;rw[ne,if_neg uB];have W0:∀{h1:Heap}{f' g':Value},h1.get? (B+zs.length+2)=some { cls:=.type "zip",data:=.fields #[f',g',.bool false,.ref (B+zs.length),.ref (B+zs.length+1)] }->h1.objs.size=s.heap.objs.size->(∀(c:Nat) o,c≠B+zs.length+2->s.heap.get? c=some o->h1.get? c=some o)->ZW zs s.heap h1 B n 0 f' g' us0:=fun z1 s1 k1=>⟨z1,k1 _ _ (by lia) Z.ti,hu0,k1 _ _ (by lia) hto,fun i k l hi=>by
  rw[if_neg (tS _)];exact(Z.it i k l hi).at fun o=>k1 _ o (by have:=(ud.mp hi).1;lia),fun c o hc=>k1 c o (by lia),s1⟩
 have draw:∀{h:Heap}{j:Nat}{f' g':Value}{us:Array Value}{R:VSP}{E':VSP},ZW zs s.heap h B n j f' g' us->j < zs.length->(∀v h2,va j=some v->ZW zs s.heap h2 B n (j+1) f' g' us->R v { s with heap:=h2 })->(∀h2 e,va j=none->(∀(c:Nat) o,c≠B+j->h.get? c=some o->h2.get? c=some o)->(∃o,h2.get? e=some o/\o.cls=.type "StopIteration")->E' (.ref e) { s with heap:=h2 })->∀A':Around,A'.handled=none->wpAny (model P w) A' (Ub (.ref (B+j))) R E' { s with heap:=h }:=by
  intro h j f' g' us R E' W jl r re A' hA';obtain⟨⟨k,l⟩,hkl⟩:∃p,zs[j]?=some p:=⟨_,uf jl⟩;obtain⟨ll,xs,hl,hv⟩:=hq j k l hkl;have hl':Sq k h l xs:=hl.at fun o=>W.kp _ o (.inl ll);have it:=W.it j k l hkl;rw[if_neg (u7 _)]at it;cases e1:va j with
  |none=>exact zcu (s:={ s with heap:=h }) hA' it hl' (hv.trans e1) fun h2 e u2 he=>re h2 e e1 u2 he
  |some v=>exact Q9 (s:={ s with heap:=h }) it hl' (hv.trans e1) fun h2 i2 u2=>r v h2 e1 (W.next hkl i2 u2)
 rcases hf with rfl|⟨T,c,ot,rfl,rfl,hT,lT⟩
 ·refine wpAny_bind (m:=Ur (.ref (B+zs.length+2))) ?_
  unfold Ur;refine wpAny_bind (wpAny_field Z.z rfl (x:=.none) rfl (wpAny_pure ?_));rw[if_pos rfl];refine wpAny_bind (wpAny_rule (wpAny_bind (wpAny_field Z.z rfl (x:=.ref (B+zs.length+1)) rfl (wpAny_bind (wpAny_setField_rec Z.z (by simp) fun h1 z1 u1=>wpAny_bind ?_)))));refine wpAny_forIn_list _ (fun rest b s'=>b=(none,())/\∃j us h,rest=((((uZ zs.length).map fun j=>Value.ref (B+j)).toArray).toList.zipIdx).drop j/\j<=zs.length/\s'={ s with heap:=h }/\ZW zs s.heap h B n j .ellipsis g us/\∀i,i < j->us[i]?=va i) _ ?step ?done _ _ ⟨rfl,0,us0,h1,rfl,uU _,rfl,W0 z1 u1.1 fun c o n e=>(u1.2 c n).trans e,fun i hi=>absurd hi (tS _)⟩
  case step =>
   rintro x rest b s' ⟨rfl,j,us,h,hr,hj,rfl,W,hva⟩;obtain⟨jl,rfl,rfl⟩:=VJ hr;have jl:j < zs.length:=by simpa using jl
   simp only[List.getElem_zipIdx,List.getElem_map,List.getElem_range,Nat.zero_add]
   refine wpAny_bind (wpAny_onRaise (wpAny_bind (m:=Ub (.ref (B+j))) (draw W jl (fun v h2 e1 W2=>wpAny_pure ?_) (fun h2 e e1 k2 he=>?_) _ hA)))
   ·refine wpAny_bind (wpAny_seqItems W2.to rfl (wpAny_bind (wpAny_updateSeq W2.to rfl (wpAny_bind (wpAny_letGo (wpAny_pure ⟨rfl,j+1,us.setIfInBounds j v,_,rfl,jl,rfl,?_,fun i hi=>?_⟩))) (by rw[W.ts];exact hs) (by rw[Array.size_setIfInBounds,W.ts];lia))))
    ·have k3:∀(c:Nat) o,c≠B+zs.length+1->h2.get? c=some o->(h2.update (B+zs.length+1) (Obj.mapSeq (·.setIfInBounds j v))).get? c=some o:=fun c o n e=>(uK _ _ (Ne.symm n)).trans e
     exact⟨k3 _ _ (by lia) W2.z,k3 _ _ (by lia) W2.ti,by rw[Array.size_setIfInBounds,W.ts],by(show(h2.update _ _).get? _=_);rw[Uo _ W2.to rfl];simp[Obj.mapSeq],fun i k' l' hi=>(W2.it i k' l' hi).at fun o e=>k3 _ o (by have:=(ud.mp hi).1;lia) e,fun c o hc e=>k3 _ _ (by lia) (W2.kp c o hc e),by rw[Heap.size_update];exact W2.sz⟩
    ·rw[Array.getElem?_setIfInBounds]
     by_cases c:j=i
     ·rw[if_pos c,if_pos (by rw[W.ts];lia),<- c,e1]
     ·rw[if_neg c]
      exact hva i (by lia)
   ·obtain⟨oe,he,ce⟩:=he
    have z2:=k2 _ _ (show B+zs.length+2≠B+j by lia) W.z;have ne:e≠B+zs.length+2:=fun x=>by
     rw[x,z2]at he;cases he;simp at ce
    exact wpAny_setField_rec z2 (by simp) fun h3 z3 u3=>qe h3 e j jl e1 (fun c o hc x=>(u3.2 c (show(c:Nat)≠B+zs.length+2 by lia)).trans (k2 c o (show(c:Nat)≠B+j by lia) (W.kp c o hc x))) ⟨oe,(u3.2 e ne).trans he,ce⟩
  case done =>
   rintro b s' ⟨rfl,j,us,h,hr,hj,rfl,W,hva⟩;have je:j=zs.length:=by
    have:=congrArg List.length hr
    simp at this
    lia
   subst je;refine wpAny_bind (wpAny_seqItems W.to rfl (wpAny_bind (wpAny_newTuple (hsz:=by simp[W.ts];exact hs) ?_)));have lt5:B+zs.length+2 < h.objs.size:=um W.z;refine wpAny_bind (m:=tK (.ref (B+zs.length+2)) (.ref h.objs.size)) ?_;unfold tK;refine wpAny_bind (wpAny_setField_rec (ub { cls:=.type "tuple",data:=.seq us } W.z) (by simp) fun h8 z8 u8=>?_);refine wpAny_setField_rec z8 (by simp) fun h9 z9 u9=>wpAny_pure ⟨.ref h.objs.size,rfl,?_⟩;have k9:∀(c:Nat) o,c≠B+zs.length+2->h.get? c=some o->h9.get? c=some o:=fun c o n e=>(u9.2 c n).trans ((u8.2 c n).trans (ub _ e));have p9:h9.get? h.objs.size=some { cls:=.type "tuple",data:=.seq us }:=(u9.2 _ (U8 lt5)).trans ((u8.2 _ (U8 lt5)).trans (uo _ rfl));have s9:h9.objs.size=h.objs.size+1:=by rw[u9.1,u8.1,uX]
   have Z9:=W.done (j:=0) k9 z9;rw[W.sz]at p9 s9 Z9 ⊢;exact q h9 us _ false W.ts hva Z9 (.inl ⟨rfl,rfl,rfl⟩) p9 s9 fun c o hc e=>k9 _ _ (by lia) (W.kp c o hc e)
 ·have held:∀{Q':Bool->Shared->Prop},(∀h1,ZW zs s.heap h1 B n 0 (rawInt T) (.bool true) us0->Q' false { s with heap:=h1 })->wpAny (model P w) A (Ur (.ref (B+zs.length+2))) Q' E s:=by
   intro Q' qq;unfold Ur;refine wpAny_bind (wpAny_field Z.z rfl (x:=rawInt T) rfl ?_);refine wpAny_bind (m:=loadIfAlive ((T:Int).toNat)) (VL (o:=ot) (by rw[Int.toNat_natCast];exact hT) ?_);rw[if_neg (by simp)];refine wpAny_bind (wpAny_field Z.z rfl (x:=.bool c) rfl ?_);cases c with
   |true =>
    rw[if_neg (by decide)];exact wpAny_pure (qq _ (W0 Z.z rfl fun d o _ e=>e))
   |false =>
    rw[if_pos (by decide)];exact wpAny_bind (wpAny_setField_rec Z.z (by simp) fun h1 z1 u1=>wpAny_pure (qq h1 (W0 z1 u1.1 fun d o n e=>(u1.2 d n).trans e)))
  refine wpAny_bind (m:=Ur (.ref (B+zs.length+2))) (held fun h1 W1=>?_);rw[if_neg uB];refine wpAny_bind ?_;rw[<- Array.forIn_toList];refine wpAny_forIn_list _ (fun rest b s'=>b.1=none/\∃j h,rest=((((uZ zs.length).map fun j=>Value.ref (B+j)).toArray).toList).drop j/\j<=zs.length/\s'={ s with heap:=h }/\ZW zs s.heap h B n j (rawInt T) (.bool true) us0/\b.2.size=j/\∀i,i < j->b.2[i]?=va i) _ ?step ?done _ _ ⟨rfl,0,h1,rfl,uU _,rfl,W1,rfl,fun i hi=>absurd hi (tS _)⟩
  case step =>
   rintro x rest ⟨b,items⟩ s' ⟨hb,j,h,hr,hj,rfl,W,bs,hva⟩;obtain⟨jl,rfl,rfl⟩:=VJ hr;have jl:j < zs.length:=by simpa using jl
   simp only[List.getElem_map,List.getElem_range]
   refine wpAny_bind (wpAny_holding (wpAny_bind (m:=Ub (.ref (B+j))) (draw W jl (fun v h2 e1 W2=>wpAny_pure ?_) (fun h2 e e1 k2 he=>qe h2 e j jl e1 (fun c o hc x=>k2 c o (show(c:Nat)≠B+j by lia) (W.kp c o hc x)) he) _ hA)));refine wpAny_pure ⟨rfl,j+1,_,rfl,jl,rfl,W2,?_,fun i hi=>?_⟩
   ·show(items.push v).size=_
    rw[Array.size_push,bs]
   ·show(items.push v)[i]?=_
    rw[Array.getElem?_push];by_cases c:i=items.size
    ·rw[if_pos c,c,bs,e1]
    ·rw[if_neg c]
     exact hva i (by have:items.size=j:=bs;lia)
  case done =>
   rintro⟨b,items⟩ s' ⟨hb,j,h,hr,hj,rfl,W,bs,hva⟩;have je:j=zs.length:=by
    have:=congrArg List.length hr
    simp at this
    lia
   subst je;cases hb;have bs:items.size=zs.length:=bs;refine wpAny_bind (wpAny_newTuple (hsz:=by simp[bs];exact hs) (wpAny_pure ⟨.ref h.objs.size,rfl,?_⟩));have p5:(h.push { cls:=.type "tuple",data:=.seq items }).get? h.objs.size=some { cls:=.type "tuple",data:=.seq items }:=uo _ rfl;have s5:(h.push { cls:=.type "tuple",data:=.seq items }).objs.size=h.objs.size+1:=uX ..;have k5:∀(c:Nat) o,h.get? c=some o->(h.push { cls:=.type "tuple",data:=.seq items }).get? c=some o:=fun c o e=>ub _ e;rw[W.sz]at p5 s5 ⊢;exact q _ items T true bs hva (W.done (j:=0) (fun c o _ e=>k5 c o e) (k5 _ _ W.z)) (.inr ⟨rfl,lT,ot,hT⟩) p5 s5 fun c o hc e=>k5 _ _ (W.kp c o hc e)
theorem Xx{Q:Option Value->Shared->Prop}(hA:A.handled=none)(Z:ZN zs s.heap B n f g)(hf:ZF B zs.length s.heap f g)(hz:0 < zs.length)(hs:zs.length<=sizeLine)(hq:AtN zs s.heap B n va)
  (q:∀h' us (T:Nat) (c:Bool),us.size=zs.length->(∀i,i < zs.length->us[i]?=va i)->ZN zs h' B (n+1) (rawInt T) (.bool c)->(T=s.heap.objs.size/\f=.none/\c=false\/f=rawInt T/\B+zs.length+3 < T/\∃o,s.heap.get? T=some o)->h'.get? s.heap.objs.size=some { cls:=.type "tuple",data:=.seq us }->h'.objs.size=s.heap.objs.size+1->KeptN B zs.length s.heap h'->Q (some (.ref s.heap.objs.size)) { s with heap:=h' })
  (qe:∀h' j,j < zs.length->va j=none->KeptN B zs.length s.heap h'->Q none { s with heap:=h' }):wpAny (model P w) A (pyNext (.ref (B+zs.length+2))) Q E s:=by
 have ty:s.TypeIs (.ref (B+zs.length+2)) "zip":=⟨_,Z.z,rfl⟩;unfold pyNext;refine wpAny_bind (wpAny_attempt (wpAny_callSpecial?_slot ty F.slot_zip_next (wpAny_call_entry F.slot_zip_next ty F.entry_zip_next ?_ (F.args_zip_next_1 (.ref (B+zs.length+2))))));refine zipN hA Z hf hz hs hq (fun h' us T c h1 h2 h3 h4 h5 h6 h7=>wpAny_pure (q h' us T c h1 h2 h3 h4 h5 h6 h7)) fun h' e j jl hv kz hq_=>?_;obtain⟨o,ho,hc⟩:=hq_;exact wpAny_bind (wpAny_isInstance (T:="StopIteration") (b:=true) ⟨o,ho,hc⟩ isSubtype_stop (wpAny_pure (qe _ j jl hv kz)))
end
abbrev ZS(k m:Bool)(h:Heap)(B l r:Nat)(n:Nat)(f g:Value):Prop:=ZN [(k,l),(m,r)] h B n f g
section
variable{E:VSP}{s:Shared}{k m:Bool}{l r:Nat}{ys:Array Value}{x y:Value}
theorem VM(hl:Sq k s.heap l xs)(hr:Sq m s.heap r ys)
  (q:∀h',ZS k m h' s.heap.objs.size l r 0 .none (.bool false)->h'.objs.size=s.heap.objs.size+5->(∀c o,s.heap.get? c=some o->h'.get? c=some o)->Q (.ref (s.heap.objs.size+4)) { s with heap:=h' }) :
  wpAny (model P w) A (call (.type "zip") [.ref l,.ref r]) Q E s:=by
 apply callType_new F.called_zip (by decide) (F.typeCall_zip_2 _ _) (F.newCall_zip_2 _ _) (fun obj=>F.args_object_init_3 obj _ _) F.entry_zip_new (VI k m l r xs ys)
 refine⟨hl,hr,?_⟩;have s1:(za k s.heap l).objs.size=s.heap.objs.size+1:=uX ..;have s2:(zb k m s.heap l r).objs.size=s.heap.objs.size+2:=by rw[uX,s1]
 have s3:(zc k m s.heap l r).objs.size=s.heap.objs.size+3:=by rw[uX,s2]
 have s4:(zd k m s.heap l r).objs.size=s.heap.objs.size+4:=by rw[uX,s3]
 have s5:(ze k m s.heap l r).objs.size=s.heap.objs.size+5:=by rw[uX,s4]
 have up:∀{c o},(zd k m s.heap l r).get? c=some o->(ze k m s.heap l r).get? c=some o:=fun e=>ub _ e;have p5:(ze k m s.heap l r).get? (zd k m s.heap l r).objs.size=some _:=uo _ rfl;have p4:(ze k m s.heap l r).get? (zc k m s.heap l r).objs.size=some _:=up (uo _ rfl);have p3:(ze k m s.heap l r).get? (zb k m s.heap l r).objs.size=some _:=up (ub _ (uo _ rfl));have p2:(ze k m s.heap l r).get? (za k s.heap l).objs.size=some _:=up (ub _ (ub _ (uo _ rfl)));have p1:(ze k m s.heap l r).get? s.heap.objs.size=some _:=up (ub _ (ub _ (ub _ (uo _ rfl))));rw[s4,s2,s3]at p5;rw[s3]at p4;rw[s2,s1]at p3;rw[s1]at p2;show _/\_;rw[s4];exact⟨⟨_,p5,rfl⟩,q _ ⟨p5,p3,⟨_,rfl,p4⟩,fun j k' l' hj=>by
  match j,hj with
  |0,hj=>cases hj;exact .of ⟨_,p1,rfl,rfl⟩
  |1,hj=>cases hj;exact .of ⟨_,p2,rfl,rfl⟩⟩ s5 fun c o e=>up (ub _ (ub _ (ub _ (ub _ e))))⟩
end
def SqK(k:Bool)(K:ua)(H:Hp)(a:Addr)(xs:List V):Prop:=match k with
 |true=>SqL K H a xs
 |false=>SqT K H a xs
theorem Inv.sqk{s:Shared}{k:Bool}{xs:List V}(I:Inv X pins σ H s)(h:SqK k X.K H a xs):∃its:List Value,Vals xs its/\Sq k s.heap a its.toArray/\xs.length<=sizeLine/\(a:Nat) < s.heap.objs.size:=by
 cases k with
 |true =>
  obtain⟨its,r,p,z⟩:=I.list h;have⟨o,n,e,_⟩:=p;exact⟨its,r,p.isList,z,um e⟩
 |false =>
  obtain⟨its,r,p,z⟩:=I.tuple h;have⟨o,e,_⟩:=p;exact⟨its,r,p,z,um e⟩
theorem Inv.sqk_inj{s:Shared}{k:Bool}{xs ys:List V}(I:Inv X pins σ H s)(h:SqK k X.K H a xs)(h':SqK k X.K H a ys):xs=ys:=by
 cases k with
 |true=>exact I.list_inj h h'
 |false=>exact I.tuple_inj h h'
def ItN(K:ua)(zs:List (Bool×Addr)):It :=
 ⟨fun i H=>∃vs:List V,vs.length=zs.length/\∀(j:Nat) k a,zs[j]?=some (k,a)->∃xs,SqK k K H a xs/\xs[i]?=vs[j]?,
   fun i H v H'=>∃T vs,v=.ref T/\H T=none/\H'=upd H T (.tup vs)/\vs.length=zs.length/\∀(j:Nat) k a xs,zs[j]?=some (k,a)->SqK k K H a xs->xs[i]?=vs[j]?,
   fun i H=>(∀(j:Nat) k a,zs[j]?=some (k,a)->∃xs,SqK k K H a xs)/\∃(j:Nat)(k:Bool)(a:Addr)(xs:List V),zs[j]?=some (k,a)/\SqK k K H a xs/\xs.length<=i⟩
def fpN(B N:Nat):List Nat:=(uZ (N+3)).map (B + ·)
theorem fpN_iff{N c:Nat}:c∈fpN B N↔B<=c/\c<=B+N+2:=by
 unfold fpN;rw[uw];exact⟨fun⟨i,hi,e⟩=>by have:=List.mem_range.mp hi;lia,fun h=>⟨c-B,List.mem_range.mpr (by lia),by lia⟩⟩
theorem KeptN.of{N:Nat}(z:KeptN B N h h'):∀(b:Nat) o,b∉fpN B N->h.get? b=some o->h'.get? b=some o:=fun b o n e=>z b o (by rw[fpN_iff]at n;lia) e
theorem Xy(Z:ZN zs h B n f g):∀b∈fpN B zs.length,∃o,h.get? b=some o/\∀v,o.data≠.cell v:=by
 intro b hb;rw[fpN_iff]at hb;obtain⟨us,_,e2⟩:=Z.to;rcases(show b < B+zs.length\/b=B+zs.length\/b=B+zs.length+1\/b=B+zs.length+2 by lia)with c|rfl|rfl|rfl
 ·obtain⟨o,e,_,d⟩:=(Z.it (b-B) _ _ (uf (by lia))).ex
  exact⟨o,by rw[show b=B+(b-B) by lia];exact e,fun v z=>by rw[d]at z;cases z⟩
 ·exact⟨_,Z.ti,fun v z=>by cases z⟩
 ·exact⟨_,e2,fun v z=>by cases z⟩
 ·exact⟨_,Z.z,fun v z=>by cases z⟩
theorem VN{α β:Type}{R:α->β->Prop}:∀l:List α,(∀(j:Nat) a,l[j]?=some a->∃b,R a b)->∃m:List β,∀(j:Nat) a,l[j]?=some a->∃b,m[j]?=some b/\R a b
 |[],_=>⟨[],fun j a h=>by simp at h⟩
 |a::l,h=>by
  obtain⟨b,hb⟩:=h 0 a rfl;obtain⟨m,hm⟩:=VN l fun j a h'=>h (j+1) a (by simpa using h');refine⟨b::m,fun j a' h'=>?_⟩;cases j with
  |zero=>cases h';exact⟨b,rfl,hb⟩
  |succ j=>exact hm j a' (by simpa using h')
theorem Xz:∀{xs:List V}{us:List Value},xs.length=us.length->(∀(j:Nat) x u,xs[j]?=some x->us[j]?=some u->RelV x u)->Vals xs us
 |[],[],_,_=>.nil
 |[],_::_,h,_=>by simp at h
 |_::_,[],h,_=>by simp at h
 |x::xs,u::us,h,g=>.cons (g 0 x u rfl rfl) (Xz (by simpa using h) fun j a b h1 h2=>g (j+1) a b (by simpa using h1) (by simpa using h2))
theorem ZY{K:ua}{zs:List (Bool×Addr)}(hz:0 < zs.length)(hs:zs.length<=sizeLine)(la:∀(j:Nat) k a,zs[j]?=some (k,a)->(a:Nat) < B):
  Turn P w K (.Tuple elts n pos) (ItN K zs) (fpN B zs.length) (B+zs.length+2) (fun i h=>ZN zs h B i .none (.bool false)) where
 mem:=fpN_iff.mpr ⟨by lia,by lia⟩
 obj:=fun i h st=>Xy st
 keep:=fun i h h' st kp=>st.at fun c o h1 h2 e=>kp c (fpN_iff.mpr ⟨h1,h2⟩) o e
 item:=by
  intro X hP hw hK hc i pins s σ H E I hf st hg;subst hP hw hK;obtain⟨vs,vl,hv⟩:=hg;obtain⟨m,hm⟩:=VN (R:=fun p (q:List V×List Value)=>SqK p.1 X.K H p.2 q.1/\Vals q.1 q.2/\Sq p.1 s.heap p.2 q.2.toArray) zs fun j p hj=>by
   obtain⟨xs,h1,_⟩:=hv j p.1 p.2 hj;obtain⟨its,v1,q1,_⟩:=I.sqk h1;exact⟨(xs,its),h1,v1,q1⟩
  have at_:AtN zs s.heap B i fun j=>(m[j]?).bind fun q=>q.2[i]?:=fun j k a hj=>by
   obtain⟨q,e1,_,_,e2⟩:=hm j (k,a) hj;exact⟨la j k a hj,_,e2,by(show _=(m[j]?).bind _);rw[e1];simp⟩
  refine Xx (I.ok.hd hc) st (.inl rfl) hz hs at_ (fun h' us T c h1 h2 h3 h4 h5 h6 h7=>⟨_,rfl,?_⟩) fun h' j jl hn _=>?_
  ·rcases h4 with⟨rfl,_,rfl⟩|⟨z,_⟩
   ·have new:ObjOk X.prog X.w (upd H s.heap.objs.size (.tup vs)) h' s.heap.objs.size (.tup vs):=by
     refine⟨by rw[vl];exact hs,us.toList,Xz (vl.trans (h1.symm.trans Array.length_toList.symm)) fun j x u e1 e2=>?_,⟨_,h5,rfl,rfl,_,rfl⟩⟩;have jl:j < zs.length:=by rw[<- vl];exact(ud.mp e1).1
     obtain⟨xs,g1,g2⟩:=hv j _ _ (uf jl);obtain⟨q,f1,f2,f3,_⟩:=hm j _ (uf jl);rw[I.sqk_inj g1 f2,e1]at g2;obtain⟨u',f4,f5⟩:=f3.get g2;rw[Array.getElem?_toList,h2 j jl,f1,Option.bind_some,f4]at e2;cases e2;exact f5
    have I1:Inv X pins σ (upd H s.heap.objs.size (.tup vs)) { s with heap:=h' }:=I.turnsLaid (t':=s.toks) (ch:=fpN B zs.length) h7.of hf (ui _) new;have hn:∀c∈fpN B zs.length,upd H s.heap.objs.size (.tup vs) c=none:=fun c hc=>by
     obtain⟨o,e,_⟩:=Xy st c hc;rw[zh (uI (um e))];exact(hf c hc).1
    refine wpAny_letOwnedTupleGo_zip h3.z fun h8 z2 u2=>?_;have I2:Inv X pins σ (upd H s.heap.objs.size (.tup vs)) { s with heap:=h8 }:=Inv.turns (s:={ s with heap:=h' }) (t':=s.toks) (ch:=fpN B zs.length) I1 (fun c o hc e=>(u2.2 c fun z=>hc (by rw[z];exact fpN_iff.mpr ⟨by lia,by lia⟩)).trans e) fun c hc=>⟨hn c hc,(hf c hc).2⟩;have up:∀(c:Nat) o,c≠B+zs.length+2->h'.get? c=some o->h8.get? c=some o:=fun c o n e=>(u2.2 c n).trans e;refine⟨.ref s.heap.objs.size,_,I2,rfl,⟨_,vs,rfl,I.fresh,rfl,vl,fun j k a xs hj hx=>?_⟩,⟨z2,up _ _ (by lia) h3.ti,let ⟨us,c,e⟩:=h3.to;⟨us,c,up _ _ (by lia) e⟩,fun j k a hj=>(h3.it j k a hj).at fun o e=>up _ _ (by have:=(ud.mp hj).1;lia) e⟩,hn⟩;obtain⟨xs',g1,g2⟩:=hv j k a hj;rw[I.sqk_inj hx g1];exact g2
   ·unfold rawInt at z
    cases z
  ·obtain⟨xs,g1,g2⟩:=hv j _ _ (uf jl)
   obtain⟨q,f1,f2,f3,_⟩:=hm j _ (uf jl);obtain⟨v,hw⟩:∃v,vs[j]?=some v:=⟨_,uf (by lia)⟩;rw[I.sqk_inj g1 f2,hw]at g2;obtain⟨u',f4,f5⟩:=f3.get g2;rw[f1,Option.bind_some,f4]at hn;cases hn
 done:=by
  intro X hP hw hK hc i pins s σ H E I hf st hg;subst hP hw hK;obtain⟨hv,j0,k0,a0,x0,hj0,hx0,hl0⟩:=hg;obtain⟨m,hm⟩:=VN (R:=fun p (q:List V×List Value)=>SqK p.1 X.K H p.2 q.1/\Vals q.1 q.2/\Sq p.1 s.heap p.2 q.2.toArray) zs fun j p hj=>by
   obtain⟨xs,h1⟩:=hv j p.1 p.2 hj;obtain⟨its,v1,q1,_⟩:=I.sqk h1;exact⟨(xs,its),h1,v1,q1⟩
  have at_:AtN zs s.heap B i fun j=>(m[j]?).bind fun q=>q.2[i]?:=fun j k a hj=>by
   obtain⟨q,e1,_,_,e2⟩:=hm j (k,a) hj;exact⟨la j k a hj,_,e2,by(show _=(m[j]?).bind _);rw[e1];simp⟩
  refine Xx (I.ok.hd hc) st (.inl rfl) hz hs at_ (fun h' us T c h1 h2 h3 h4 h5 h6 h7=>?_) fun h' j jl hn kz=>⟨rfl,I.turns (t':=s.toks) (ch:=fpN B zs.length) kz.of hf⟩;have jl:=(ud.mp hj0).1;obtain⟨q,f1,f2,f3,_⟩:=hm j0 _ hj0;have f4:=f3.length;have e:=h2 j0 jl;rw[<- I.sqk_inj hx0 f2]at f4;rw[f1,Option.bind_some,List.getElem?_eq_none (by lia),Array.getElem?_eq_none_iff]at e;lia
 self:=fun _ _ _ _ _ st h=>by
  have ty:Shared.TypeIs _ (.ref (B+zs.length+2)) "zip":=⟨_,st.z,rfl⟩;exact wpAny_pyIter_slot ty F.slot_zip_iter (wpAny_call_entry F.slot_zip_iter ty F.entry_zip_iter (wpAny_pure ⟨_,rfl,"zip",_,ty,F.slot_zip_next.lookup,h⟩) (F.args_zip_iter_1 (.ref (B+zs.length+2))))
abbrev Itz(K:ua)(k m:Bool)(a b:Addr):It:=ItN K [(k,a),(m,b)]
section
variable{K:ua}{k m e:Bool}{xs ys zs:List V}{x y z v:V}
theorem go2(q1:SqK k K H a xs)(q2:SqK m K H b ys)(hx:xs[i]?=some x)(hy:ys[i]?=some y):(Itz K k m a b).go i H:=⟨[x,y],rfl,fun j k' a' hj=>by
 match j,hj with
 |0,hj=>cases hj;exact⟨xs,q1,hx⟩
 |1,hj=>cases hj;exact⟨ys,q2,hy⟩⟩
theorem zdt(q1:SqK k K H a xs)(q2:SqK m K H b ys)(h:xs.length<=i):(Itz K k m a b).stop i H:=⟨fun j k' a' hj=>by
 match j,hj with
 |0,hj=>cases hj;exact⟨xs,q1⟩
 |1,hj=>cases hj;exact⟨ys,q2⟩,0,k,a,xs,rfl,q1,h⟩
theorem yld2(h:(Itz K k m a b).yld i H v H')(q1:SqK k K H a xs)(q2:SqK m K H b ys):∃T x y,v=.ref T/\H T=none/\H'=upd H T (.tup [x,y])/\xs[i]?=some x/\ys[i]?=some y:=by
 obtain⟨T,vs,h1,h2,h3,h4,h5⟩:=h;obtain⟨x,vs,rfl⟩:=Ul h4;obtain⟨y,vs,rfl⟩:=Ul (tO.inj h4);rw[List.length_eq_zero_iff.mp (tO.inj (tO.inj h4))]at h3 h5;exact⟨T,x,y,h1,h2,h3,h5 0 k a xs rfl q1,h5 1 m b ys rfl q2⟩
end
def iZip(K:ua)(ta:TA):TI:=fun σ H R=>ta σ H fun vs H1=>∃a b k m xs ys,vs=[.ref a,.ref b]/\SqK k K H1 a xs/\SqK m K H1 b ys/\R (Itz K k m a b) H1
theorem zcv{a b:Expr}{ta:TA}(hg:Gl X "zip")(hm:X.mg "zip"=none)(ha:PA X [a,b] ta)(h1:starEach [a,b] X.env=[(false,eval a X.env),(false,eval b X.env)]:=by rfl)(h2:starEach [b] X.env=[(false,eval b X.env)]:=by rfl):
  PI X (.Tuple elts n tpos) (.Call (.Name "zip" p) [a,b] [] pos) (iZip X.K ta):=by
 intro pins s σ H R I h;refine Call_ (xy I hg hm boot_zip (Uv (thn (ha pos pins s σ H _ I h) fun us s1 g=>?_) (by rw[h1,h2]) (by rw[h2];rfl)));obtain⟨vs,H1,I1,r1,a1,b1,k,m,xs,ys,rfl,g1,g2,q⟩:=g;obtain⟨u,u',rfl,e1,e2⟩:=Xk r1;cases e1;cases e2;obtain⟨i1,v1,q1,z1,l1⟩:=I1.sqk g1;obtain⟨i2,v2,q2,z2,l2⟩:=I1.sqk g2;refine VM q1 q2 fun h' Z sz kp=>?_;have tz:=ZY (P:=X.prog) (w:=X.w) (K:=X.K) (elts:=elts) (n:=n) (pos:=tpos) (zs:=[(k,a1),(m,b1)]) (B:=s1.heap.objs.size) (by show 0 < 2;decide) (by show 2<=sizeLine;decide) fun j k' a' hj=>by
  match j,hj with
  |0,hj=>cases hj;exact l1
  |1,hj=>cases hj;exact l2
 refine tz.self X.A 0 { s1 with heap:=h' } _ _ Z ⟨s1.heap.objs.size+4,_,_,_,H1,rfl,I1.kept (t':=s1.toks) kp,tz,Z,fun c hc=>?_,q⟩;have le:s1.heap.objs.size<=c:=(fpN_iff.mp hc).1;exact I1.fpOk le (I1.hok.fresh le)
theorem VO{a b:Expr}{t:TA}(hg:Gl X "zip")(hm:X.mg "zip"=none)(ha:jA X [a,b] t)(h1:zF a=false:=by rfl)(h2:zF b=false:=by rfl):jI X (.Tuple elts n tpos) (.Call (.Name "zip" p) [a,b] [] pos) (iZip X.K t) :=
 ⟨zcv hg hm ha.out (by rw[zL h1,zL h2];rfl) (by rw[zL h2];rfl)⟩
structure Ca(P:Program)(w:World)(K:ua)(mg:Str->Option Value)(base:Heap)(CX:CXT)(k:Nat)(x:Str)(ps:lS)(sp:Sp):Prop where
 ex:∃f fd,FnOk P w K mg base CX k f fd ps sp/\Binds K fd ps []/\uE K (.ref f)=true/\mg x=some (.ref f)
structure Me(P:Program)(w:World)(K:ua)(mg:Str->Option Value)(base:Heap)(CX:CXT)(k:Nat)(C:Addr)(m:Str)(ps:lS)(sp:Sp):Prop where
 ex:∃f fd,FnOk P w K mg base CX k f fd ps sp/\Binds K fd ps []/\Meth K C m f
structure Ma(P:Program)(w:World)(K:ua)(mg:Str->Option Value)(base:Heap)(CX:CXT)(k:Nat)(x:Str)(C:Addr)(ps:lS)(sp:Sp):Prop where
 ex:∃f fd,Mk K C f/\FnOk P w K mg base CX k f fd ps sp/\Binds K fd ps []/\mg x=some (.ref C)
structure Xa(P:Program)(w:World)(K:ua)(mg:Str->Option Value)(base:Heap)(k:Nat)(x:Str)(C:Addr)(ps:lS)(sp:Sp):Prop where
 ex:∃f fd,XCl K C f/\FnOk P w K mg base CX0 k f fd ps sp/\Binds K fd ps []/\mg x=some (.ref C)
section
variable{K:ua}{k j:Nat}{sp':Sp}
theorem Ca.upx(h:Ca P w K mg base CX0 k x ps sp):Ca P w K mg base CX k x ps sp:=by obtain⟨f,fd,a,r⟩:=h.ex;exact⟨f,fd,a.upx,r⟩
theorem Me.upx(h:Me P w K mg base CX0 k C m ps sp):Me P w K mg base CX k C m ps sp:=by obtain⟨f,fd,a,r⟩:=h.ex;exact⟨f,fd,a.upx,r⟩
end
section
variable{k:Nat}{E:XK}{n f:Str}{epos:Pos}{a:Expr}{as:List Expr}{t1 t2:TE}{t:TA}
theorem zM(F:Ca X.prog X.w X.K X.mg X.base CX k x ps sp)(hr:Room k X.A)(hg:Gl X x)(hx:yv CX X E)(ha:jA X (e::es) t)(hdb:(x == ("__debug__":Str))=false:=by decide)(h1:zF e=false:=by rfl)(h2:es.all (fun e=>!zF e)=true:=by rfl):
  jE X (.Call (.Name x p) (e::es) [] pos) (wo sp [] E t):=let ⟨_,_,G,b,kp,mg⟩:=F.ex;zdq G hr hg mg kp b .nil hx ha hdb h1 h2
theorem yT{pl:Sem Bool}(he:jE X o ta)(c:Cls X.K C)(F:Me X.prog X.w X.K X.mg X.base CX k C m ps sp)(hr:Room k X.A)(hx:yv CX X E)(ha:jA X (e::es) t)(h1:zF e=false:=by rfl)(h2:es.all (fun e=>!zF e)=true:=by rfl)
  (ht:eval (.Call (.Attribute o m apos) (e::es) [] pos) X.env=(do
   let ov <- eval o X.env
   standAt apos.atName
   let (f,first) <- holding [ov] (getMethod ov m pl)
   callWith pos f first (backTo pos (starEach (e::es) X.env)) (backToKw pos (keywordEach [] X.env))):=by rfl) :
  jE X (.Call (.Attribute o m apos) (e::es) [] pos) (w4 C m sp [] E ta t):=let ⟨_,_,G,b,mt⟩:=F.ex;⟨QH he.out c mt G hr b .nil hx ha.out (zL h1) (yl h2) ht⟩
theorem xg{pl:Sem Bool}(he:jE X o ta)(c:Cls X.K C)(F:Me X.prog X.w X.K X.mg X.base CX k C m ps sp)(hr:Room k X.A)(hx:yv CX X E)
  (ht:eval (.Call (.Attribute o m apos) [] [] pos) X.env=(do
   let ov <- eval o X.env
   standAt apos.atName
   let (f,first) <- holding [ov] (getMethod ov m pl)
   callWith pos f first (backTo pos (starEach [] X.env)) (backToKw pos (keywordEach [] X.env))):=by rfl) :
  jE X (.Call (.Attribute o m apos) [] [] pos) (w4 C m sp [] E ta tNil):=let ⟨_,_,G,b,mt⟩:=F.ex;⟨Vm he.out c mt G hr b .nil hx ht⟩
theorem vG(F:Ma X.prog X.w X.K X.mg X.base CX k x C ps sp)(hr:Room (k+1) X.A)(hg:Gl X x)(hx:yv CX X E)(ha:jA X (e::es) t)(hdb:(x == ("__debug__":Str))=false:=by decide)(h1:zF e=false:=by rfl)(h2:es.all (fun e=>!zF e)=true:=by rfl):
  jE X (.Call (.Name x p) (e::es) [] pos) (Xm C sp [] E t):=let ⟨_,_,M,G,b,mg⟩:=F.ex;⟨QI M G hr hg mg b .nil hx ha.out hdb (zL h1) (yl h2)⟩
theorem zcw(he:jE X e ta)(hb:attributeBase e f X.env (eval e X.env)=eval e X.env:=by rfl):jE X (.Attribute e f pos) (tFld X.K ta f):=⟨zb9 he.out hb⟩
theorem zZ(ha:jE X o ta)(hv:jE X value tv)(hs:swapsWith value (some (.Attribute o f pos')) pos.line X.env=pure false:=by rfl):jS X (.Assign [.Attribute o f pos'] value pos) (sFld X.K ta tv f):=⟨zca ha.out hv.out hs⟩
theorem vH(F:Xa X.prog X.w X.K X.mg X.base k x C ps sp)(hr:Room (k+1) X.A)(hg:Gl X x)(hx:vF X E)(ha:jA X (a::as) t)(hdb:(x == ("__debug__":Str))=false:=by decide)(h1:zF a=false:=by rfl)(h2:as.all (fun e=>!zF e)=true:=by rfl):
  jS X (.Raise (some (.Call (.Name x np) (a::as) [] cpos)) none pos) (YJ C sp E t):=let ⟨_,_,M,G,b,mg⟩:=F.ex;⟨VE M G hr hg mg b hx ha.out hdb h1 h2⟩
theorem wg(h1:jE X e t1)(h2:jE X e t2):jE X e (fun σ H Q=>t1 σ H Q\/t2 σ H Q):=⟨fun pins s σ H Q I h=>h.elim (h1.out pins s σ H Q I) (h2.out pins s σ H Q I)⟩
theorem zcx{j pos'}(ha:jE X a ta):jE X (.Compare a [.Is] [.Constant .none j pos'] pos) (tIsN ta):=⟨zbR (zbQ ha.out)⟩
theorem XA{j pos'}(ha:jE X a ta):jT X (.Compare a [.IsNot] [.Constant .none j pos'] pos) (tB (zbg ta)):=⟨Yt (Qr ha.out)⟩
end
end L2
namespace L2
open PySem PySem.Spec PySem.Calls PyProof.Rows
section
variable{e:Addr}{ex:Expr}
def zbq(C e:Addr)(oe:Obj)(te:TE)(name:Str):TE:=fun σ H Q=>te σ H fun x H1=>x=.ref e/\oe.cls=.ref C/\(∃vs,oe.data=.fields vs)/\∃d fs v,oe.dict=some d/\H1 d=some (XD d fs)/\fs.lookup name=some v/\Q v H1
theorem zaa(hp:(e,oe)∈X.pn)(M:XCl X.K C f)(hn:uj X.K (.ref C) name=some none)(hh:UG X.K C=true)(he:PE X ex te)(hb:attributeBase ex name X.env (eval ex X.env)=eval ex X.env):
  PE X (.Attribute ex name pos) (zbq C e oe te name):=by
 intro pins s σ H Q I h;refine Xl hb (thn (he pins s σ H _ I h) fun u s1 g=>?_);obtain⟨x,H1,I1,rx,rfl,hc,⟨vs,hd⟩,d,fs,v,h1,h2,h3,q⟩:=g;obtain rfl:u=Value.ref e:=rx;obtain⟨mA,ns,r,_⟩:=XD.get I1.hok h2;obtain⟨u',hu,ru⟩:=RelO.some_of (v:=v) (o:=mA name) (by rw[<- h3];exact r name);obtain⟨od,ho,hl⟩:=jn ns;have J:PySem.W.InstAt s1.heap e oe C (some od):=⟨(I1.pin (e,oe) (U2 _ hp)).1,hc,by unfold PySem.W.notCls;rw[hd],by rw[h1];exact ho⟩;exact zcp I1.kIn J M.ga M.ha M.sb (PySem.W.findObj_own hh hn rfl (by rw[hl,hu])) (jo ru) ⟨v,H1,I1.tok _,ru,q⟩
theorem zab(hp:(e,oe)∈X.pn)(M:XCl X.K C f)(hn:uj X.K (.ref C) name=some none)(hh:UG X.K C=true)(he:jE X ex te)(hb:attributeBase ex name X.env (eval ex X.env)=eval ex X.env:=by rfl):
  jE X (.Attribute ex name pos) (zbq C e oe te name):=⟨zaa hp M hn hh he.out hb⟩
end
end L2
namespace L2
open PySem
variable{p:List Value->Prop}
theorem ym:sizeLine=16777216:=by decide
theorem itD{c A B:Prop}[Decidable c](e:c)(h:A):if decide c=true then A else B:=by
 rw[if_pos (decide_eq_true e)];exact h
theorem itDN{c A B:Prop}[Decidable c](e:¬ c)(h:B):if decide c=true then A else B:=by
 rw[if_neg (by rw[decide_eq_false e];decide)];exact h
def FnIn(K:ua)(x qual:Str)(st:Stmt)(f:Addr):Prop:=∃(oc:Value)(od:Option Addr)(kV doc pm:Value)(an:Option Addr)(cdv ct:Value)(osl:Array (Option Value)),K.lookup f=some ⟨oc,od,.func (uP x qual (zX st) (zO st) (zo st) .none kV doc pm an cdv ct),osl⟩/\Uf K cdv qual=true/\uE K (.ref f)=true
theorem FnIn.fn{K:ua}(h:FnIn K x qual st f):∃fd,Fun K x qual st f fd/\uE K (.ref f)=true:=by
 obtain⟨_,_,_,_,_,_,_,_,_,l,c,k⟩:=h;exact⟨_,Vv l c k,k⟩
def DfIn(K:ua)(x:Str)(st:Stmt):Prop:=∃f,uF K mainGlobals x=some (some (.ref f))/\FnIn K x x st f
def MeIn(K:ua)(C:Addr)(x qual:Str)(st:Stmt):Prop:=∃f,uj K (.ref C) x=some (some (.ref f))/\U3 K (.ref f)=true/\FnIn K x qual st f
theorem MeIn.me{K:ua}{k:Nat}(h:MeIn K C x qual st)(hb:∀(kV doc pm:Value)(an:Option Addr)(cdv ct:Value)(us:List Value),us.length=ps.length->bindArgs (uP x qual (zX st) (zO st) (zo st) .none kV doc pm an cdv ct) ⟨us,[]⟩=pure (ps.zip us))
  (ok:∀f fd,Fun K x qual st f fd->FnOk P w K mg base CX k f fd ps sp):Me P w K mg base CX k C x ps sp:=by
 obtain⟨f,a,n,g⟩:=h;obtain⟨fd,F,kp⟩:=g.fn;exact⟨f,fd,ok f fd F,F.binds hb,a,n,kp⟩
theorem MeIn.ma{K:ua}{k:Nat}(h:MeIn K C "__init__" qual st)(hb:∀(kV doc pm:Value)(an:Option Addr)(cdv ct:Value)(us:List Value),us.length=ps.length->bindArgs (uP "__init__" qual (zX st) (zO st) (zo st) .none kV doc pm an cdv ct) ⟨us,[]⟩=pure (ps.zip us))
  (mk:tR K C=true) (kp:uE K (.ref C)=true) (hm:mg x=some (.ref C)) (ok:∀f fd,Fun K "__init__" qual st f fd->FnOk P w K mg base CX k f fd ps sp):Ma P w K mg base CX k x C ps sp:=by
 obtain⟨f,a,n,g⟩:=h;obtain⟨fd,F,_⟩:=g.fn;exact⟨f,fd,⟨mk,a,n,kp⟩,ok f fd F,F.binds hb,hm⟩
theorem DfIn.ca{K:ua}{k:Nat}(X:K.In h)(G:h.Ns mainGlobals mg)(d:DfIn K x st)(hb:∀(kV doc pm:Value)(an:Option Addr)(cdv ct:Value)(us:List Value),us.length=ps.length->bindArgs (uP x x (zX st) (zO st) (zo st) .none kV doc pm an cdv ct) ⟨us,[]⟩=pure (ps.zip us))
  (ok:∀f fd,Fun K x x st f fd->FnOk P w K mg base CX k f fd ps sp):Ca P w K mg base CX k x ps sp:=by
 obtain⟨f,a,g⟩:=d;obtain⟨fd,F,kp⟩:=g.fn;exact⟨f,fd,ok f fd F,F.binds hb,kp,Uk X G a⟩
theorem DfIn.mk{K:ua}{kV:Value}(a:uF K mainGlobals x=some (some (.ref f)))(l:K.lookup f=some ⟨oc,od,.func (uP x x (zX st) (zO st) (zo st) .none kV doc pm an cdv ct),osl⟩)(c:Uf K cdv x=true)(k:uE K (.ref f)=true):DfIn K x st:=⟨f,a,oc,od,kV,doc,pm,an,cdv,ct,osl,l,c,k⟩
theorem MeIn.mk{K:ua}{kV:Value}(a:uj K (.ref C) x=some (some (.ref f)))(l:K.lookup f=some ⟨oc,od,.func (uP x qual (zX st) (zO st) (zo st) .none kV doc pm an cdv ct),osl⟩)(c:Uf K cdv qual=true)(k:uE K (.ref f)=true)(n:U3 K (.ref f)=true):MeIn K C x qual st:=⟨f,a,n,oc,od,kV,doc,pm,an,cdv,ct,osl,l,c,k⟩
theorem GiIn.mk{K:ua}{i:Int}{t:Tok}(a:uF K mainGlobals x=some (some v))(e:v=.int i t):∃t,uF K mainGlobals x=some (some (.int i t)):=⟨t,by rw[a,e]⟩
theorem XcIn.mk{K:ua}(a:uj K (.ref C) "__init__"=some (some (.ref f)))(b:xIn K C f=true)(c:PySem.W.typeIn K (.ref f)=some (.type "function")):∃f,uj K (.ref C) "__init__"=some (some (.ref f))/\xIn K C f=true/\PySem.W.typeIn K (.ref f)=some (.type "function"):=⟨f,a,b,c⟩
structure OwnIn(K:ua)(x:Str)(C:Addr):Prop where
 n:uF K mainGlobals x=some (some (.ref C))
 pg:tH K C Str.empty=true
 hd:UG K C=true
 po:PySem.W.plainOver K C=true
 sa:uj K (.ref C) "__setattr__"=some (some (.builtin "object.__setattr__"))
 mks:tR K C=true
 kp:uE K (.ref C)=true
theorem OwnIn.cls{K:ua}(o:OwnIn K x C):Cls K C:=⟨o.pg,o.hd,o.po,o.sa⟩
theorem usS(h:∀a us,us.length=n->p (a::us)):∀us:List Value,us.length=n+1->p us:=fun us=>by
 cases us with
 |nil=>exact fun e=>by cases e
 |cons a r=>exact fun e=>h a r (tO.inj e)
theorem us1(h:∀a,p [a]):∀us:List Value,us.length=1->p us:=usS fun a us e=>by rw[List.length_eq_zero_iff.mp e];exact h a
theorem us2(h:∀a b,p [a,b]):∀us:List Value,us.length=2->p us:=usS fun a=>us1 (p:=fun l=>p (a::l)) (h a)
theorem us3(h:∀a b c,p [a,b,c]):∀us:List Value,us.length=3->p us:=usS fun a=>us2 (p:=fun l=>p (a::l)) (h a)
theorem us4(h:∀a b c d,p [a,b,c,d]):∀us:List Value,us.length=4->p us:=usS fun a=>us3 (p:=fun l=>p (a::l)) (h a)
theorem zf{α:Type}{a b:α->Prop}{w:α}(h:a w)(k:b w):∃x,a x/\b x:=⟨w,h,k⟩
end L2
namespace L2
theorem zI{α β:Type}{a:α->Prop}{b:β->Prop}{c:α->β->Prop}{w:α}{v:β}(h:a w)(i:b v)(k:c w v):∃x y,a x/\b y/\c x y:=⟨w,v,h,i,k⟩
end L2
namespace L2
open PySem PySem.Spec PyProof.Rows
variable{Q:VK}
abbrev Cx.plusP(X:Cx)(pins:List (Addr×Obj)):Cx:={ X with pn:=X.pn++pins }
abbrev Cx.inTry(X:Cx)(pins:List (Addr×Obj))(E:XK):Cx:={ X with pn:=X.pn++pins,xe:=fun u s'=>∃pins' σ',Air (X.plusP pins) pins' σ' E u s' }
section
variable{tb:XK->TS}
theorem Inv.toTry{s:Shared}{E:XK}(I:Inv X pins σ H s):Inv (X.inTry pins E) [] σ H s :=
 ⟨⟨I.ok.mod,I.ok.kind,I.ok.glob,I.ok.blt,I.ok.above,I.ok.inj,I.ok.has,I.ok.cab,I.ok.hd,I.ok.frames,I.ok.stk,I.ok.exf,I.ok.bs,I.ok.bsz,I.ok.noex,I.ok.exfs,I.ok.funs,I.ok.frf⟩,I.os,I.bare,I.base,I.loc,I.cell,I.free,I.freeC,fun q hq=>I.pin q (by simpa using hq),I.hok,I.len⟩
theorem Inv.ofTry{s:Shared}{E:XK}(ok:X.Ok)(I:Inv (X.inTry pins E) [] σ H s):Inv X pins σ H s :=
 ⟨ok,I.os,I.bare,I.base,I.loc,I.cell,I.free,I.freeC,fun q hq=>I.pin q (by simpa using hq),I.hok,I.len⟩
theorem Inv.ofPlus{s:Shared}(ok:X.Ok)(I:Inv (X.plusP pins) pins' σ H s):Inv X (pins++pins') σ H s :=
 ⟨ok,I.os,I.bare,I.base,I.loc,I.cell,I.free,I.freeC,fun q hq=>I.pin q (by simpa using hq),I.hok,I.len⟩
theorem Inv.few{s:Shared}(I:Inv X (pins++pins') σ H s):Inv X pins σ H s :=
 ⟨I.ok,I.os,I.bare,I.base,I.loc,I.cell,I.free,I.freeC,fun q hq=>I.pin q (by rw[<- Uj];exact U2 _ hq),I.hok,I.len⟩
end
def HB(X:Cx)(hs:List ExceptHandler)(Tk:Ends->XK):Prop:=∀(pins:List (Addr×Obj))(σ:St)(D:Ends)(e:Addr)(C:Value)(dx:Option Addr)(H':Hp)(T:Addr)(s:Shared),Tr s.heap e C dx T .none->Inv X pins σ H' s->H' e=none->H' T=none->X.s₀.heap.objs.size<=T->(∀p∈X.pn++pins,p.1≠T)->Tk D C dx H' ->
 wpAny (model X.prog X.w) X.A (handleBy (.ref e) X.env hs) (SP X pins D) X.xe s
def xNil:Ends->XK:=fun _ _ _ _=>False
section
variable{n:Str}{tb:XK->TS}
theorem hb_nil:HB X [] xNil:=fun _ _ _ _ _ _ _ _ _ _ _ _ _ _ _ h=>False.elim h
theorem Wp(hst:X.stack=X.env::X.outer)(hf:X.env.frame=some X.env.locals)(R:HB X hs Tk)
  (h:Air X pins σ (Tk D) u s') :
  wpAny (model X.prog X.w) X.A (noteFrame u X.env) (fun _ s2=>wpAny (model X.prog X.w) X.A (setFlight u none) (fun _ s3=>wpAny (model X.prog X.w) X.A (handleBy u X.env hs) (SP X pins D) X.xe s3) X.xe s2) X.xe s':=by
 obtain⟨e,C,dx,H',k,rfl,I,ne,hk,he,hp,st,hth⟩:=h;have fr:X.A.frames=some (X.env::X.outer):=hst ▸ I.ok.frames;have fs:s'.heap.FunFrames X.base (X.env::X.outer):=hst ▸ I.stack;have pk:∀b,k<=b->∀p∈X.pn++pins,p.1≠b:=fun b hb p q z=>absurd (uv (hp p q) hb) (by rw[z];exact u7 _);have two:∀(h1:Heap)(T:Addr)(xs:List Addr),Tr h1 e C dx T (rawInt X.env.locals)->Mv ((X.env::X.outer).filterMap (·.frame)) xs s'.heap h1->(∀b∈xs,H' b=none/\X.s₀.heap.objs.size<=b/\(∀p∈X.pn++pins,p.1≠b)/\∃o vs,s'.heap.get? b=some o/\o.data=.fields vs)->s'.heap.objs.size<=T ->
   wpAny (model X.prog X.w) X.A (setFlight (.ref e) none) (fun _ s3=>wpAny (model X.prog X.w) X.A (handleBy (.ref e) X.env hs) (SP X pins D) X.xe s3) X.xe { s' with heap:=h1 }:=by
  intro h1 T xs t m hxs hT;have J1:Inv X pins σ H' { s' with heap:=h1 }:=I.moved (hst ▸ m) fun b hb=>by
   obtain⟨r1,r2,r3,o,vs,r4,r5⟩:=hxs b hb;exact⟨r1,.inr r2,(I.apart r4 r5).1,(I.apart r4 r5).2,r3⟩
  have nT:H' T=none:=I.hok.fresh hT;have sT:X.s₀.heap.objs.size<=T:=uy I.sz hT;have pT:∀p∈X.pn++pins,p.1≠T:=fun p q z=>absurd (uv (um (I.pin p q).1) hT) (by rw[z];exact u7 _);refine ww (s:={ s' with heap:=h1 }) (v:=none) t fun h2 t2 m2=>R pins σ D e C dx H' T { s' with heap:=h2 } t2 (Inv.moved (s:={ s' with heap:=h1 }) J1 (m2.mono (fun b z=>nomatch z) fun _ z=>z) fun b hb=>?_) ne nT sT pT hth;rw[ug.mp hb];obtain⟨ot,ts,q1,q2,_⟩:=t.tb;exact⟨nT,.inr sT,(J1.apart q1 q2).1,(J1.apart q1 q2).2,pT⟩
 rcases st with⟨oe,vs,h1,rfl,rfl,h4,h5,h6⟩|⟨T0,t0,n0,s0⟩
 ·refine wO fr fs hf h1 h4 h5 h6 fun h' T hs t m=>two h' T [e] t m (fun b hb=>?_) hs
  rw[ug.mp hb];exact⟨ne,uy hk he,pk e he,oe,vs,h1,h4⟩
 ·refine vB fr fs hf t0 fun h' T hs t m=>two h' T [e,T0] t m (fun b hb=>?_) hs
  rcases uh.mp hb with r|hb
  ·rw[r]
   obtain⟨oe,vs,q1,_,_,q4,_⟩:=t0.ex;exact⟨ne,uy hk he,pk e he,oe,vs,q1,q4⟩
  ·rw[ug.mp hb]
   obtain⟨ot,ts,q1,q2,_⟩:=t0.tb;exact⟨n0,uy hk s0,pk T0 s0,ot,ts,q1,q2⟩
def zdu(Tk:Ends->XK)(tb:XK->TS):TS:=fun D σ H=>tb (Tk D) D σ H
theorem zac(hb:∀pins E,jSs (X.inTry pins E) body (tb E))(R:HB X (h0::hs) Tk)(hst:X.stack=X.env::X.outer:=by rfl)(hf:X.env.frame=some X.env.locals:=by rfl):
  jS X (.Try body (h0::hs) [] [] tpos) (zdu Tk tb):=by
 constructor
 intro pins s σ H D I h;refine wpAny_Try_except (wpAny_mono ((hb pins _).out [] s σ H D I.toTry h) (fun f s1 q=>?_) (fun u s1 q=>?_))
 ·cases f with
  |next =>
   obtain⟨σ',H5,I5,q⟩:=q;exact wpAny_execs_nil ⟨_,_,I5.ofTry I.ok,q⟩
  |brk =>
   obtain⟨σ',H5,I5,q⟩:=q;exact⟨_,_,I5.ofTry I.ok,q⟩
  |cont =>
   obtain⟨σ',H5,I5,q⟩:=q;exact⟨_,_,I5.ofTry I.ok,q⟩
  |ret w =>
   obtain⟨v,σ',H5,I5,r,q⟩:=q;exact⟨v,_,_,I5.ofTry I.ok,r,q⟩
 ·obtain⟨pins',σ',e,C,dx,H',k,rfl,I5,ne,hk,he,hp,st,hE⟩:=q
  have a:Air X (pins++pins') σ' (Tk D) (.ref e) s1:=⟨e,C,dx,H',k,rfl,I5.ofPlus I.ok,ne,hk,he,fun p q=>hp p (by simpa using q),st,hE⟩;have g:=Wp hst hf R a;have sp:∀f s3,SP X (pins++pins') D f s3->SP X pins D f s3:=fun f s3 q=>by
   cases f with
   |next=>obtain⟨σ',H5,I5,q⟩:=q;exact⟨_,_,I5.few,q⟩
   |brk=>obtain⟨σ',H5,I5,q⟩:=q;exact⟨_,_,I5.few,q⟩
   |cont=>obtain⟨σ',H5,I5,q⟩:=q;exact⟨_,_,I5.few,q⟩
   |ret w=>obtain⟨v,σ',H5,I5,r,q⟩:=q;exact⟨v,_,_,I5.few,r,q⟩
  exact wpAny_mono g (fun _ s2 q=>wpAny_mono q (fun _ s3 q=>wpAny_mono q sp fun _ _ z=>z) fun _ _ z=>z) fun _ _ z=>z
end
def onW(X:Cx)(pins:List (Addr×Obj))(hs:List ExceptHandler)(D:Ends):Value->Shared->Prop:=fun u s2=>wpAny (model X.prog X.w) X.A (setFlight u none) (fun _ s3=>wpAny (model X.prog X.w) X.A (handleBy u X.env hs) (SP X pins D) X.xe s3) X.xe s2
abbrev Cx.inTryW(X:Cx)(pins:List (Addr×Obj))(hs:List ExceptHandler)(D:Ends):Cx:={ X with pn:=X.pn++pins,xe:=fun u s'=>wpAny (model X.prog X.w) X.A (noteFrame u X.env) (fun _ s2=>onW X pins hs D u s2) X.xe s' }
section
variable{tb:Ends->TS}
theorem Inv.toTryW{s:Shared}(I:Inv X pins σ H s):Inv (X.inTryW pins hs D) [] σ H s :=
 ⟨⟨I.ok.mod,I.ok.kind,I.ok.glob,I.ok.blt,I.ok.above,I.ok.inj,I.ok.has,I.ok.cab,I.ok.hd,I.ok.frames,I.ok.stk,I.ok.exf,I.ok.bs,I.ok.bsz,I.ok.noex,I.ok.exfs,I.ok.funs,I.ok.frf⟩,I.os,I.bare,I.base,I.loc,I.cell,I.free,I.freeC,fun q hq=>I.pin q (by simpa using hq),I.hok,I.len⟩
theorem Inv.ofTryW{s:Shared}(ok:X.Ok)(I:Inv (X.inTryW pins hs D) [] σ H s):Inv X pins σ H s :=
 ⟨ok,I.os,I.bare,I.base,I.loc,I.cell,I.free,I.freeC,fun q hq=>I.pin q (by simpa using hq),I.hok,I.len⟩
end
def xNo(K:ua)(Ch:Addr)(Tk:Ends->XK):Ends->XK:=fun D C dx H=>tF K C (.ref Ch)=some false/\Tk D C dx H
theorem zdv(R:HB X hs Tk)(hg:Gl X x)(hm:X.mg x=some (.ref Ch))(hdb:(x == ("__debug__":Str))=false:=by decide):HB X (.ExceptHandler (some (.Name x np)) none body hpos::hs) (xNo X.K Ch Tk):=by
 intro pins σ D e C dx H' T s t J ne nT sT pT h;obtain⟨oe,vs,g1,g2,g3,g4,g5⟩:=t.ex;have Jm:Inv (X.inEx (.ref e) []) pins σ H' s:=J.inEx (.ref e) fun q hq=>nomatch hq;have LT:PySem.W.Looks (model X.prog X.w) s.heap (typeOf (.ref e)) C:=g2 ▸ (PySem.W.Looks.ld g1).andThen .now;refine wpAny_handleBy_cons (codeAny_handlers_test (yE Jm hg hm ?_ hdb)) (by intro q;cases q);obtain⟨hex,hn⟩:=h;refine PySem.W.Looks.here (PySem.W.exm_one (K:=X.K) J.kIn LT hex) ?_;exact R pins σ D e C dx H' T s t J ne nT sT pT hn
def j9(CX:CXT)(X:Cx)(E:XK)(S:St->Prop):Prop:=∀(pins:List (Addr×Obj))(σ:St)(H:Hp)(s:Shared)(e:Value)(s':Shared),S σ->Inv X pins σ H s->CX X.stack H s E e s'->X.xe e s'
section
variable{k:Nat}{E:XK}{S:St->Prop}{t:TA}
theorem zad{s:Shared}{vs:List V}(F:FnOk X.prog X.w X.K X.mg X.base CX k f fd ps sp)(hr:Room k X.A)(hb:Binds X.K fd ps [])(hx:j9 CX X E S)(hS:S σ)
  (I:Inv X pins σ H s) (r:Vals vs us) (h:sp vs H Q E):wpAny (model X.prog X.w) X.A (call (.ref f) us) (EP X pins σ Q) X.xe s:=by
 have hl:us.length=ps.length:=by rw[<- r.length];exact F.len _ _ _ _ h
 have bd:=hb s us I.kIn (by rw[Uu];exact hl);rw[Uu]at bd;refine wpAny_call (codeAny_mono (F.run X.A X.stack s H ⟨us,[]⟩ us vs Q E hr I.env0 bd r h) fun r s' hq=>?_);cases r with
 |error e=>exact hx pins σ H s e s' hS I hq
 |ok fl =>
  cases fl with
  |ret u=>exact I.after hq
  |next=>exact False.elim hq
  |brk=>exact False.elim hq
  |cont=>exact False.elim hq
theorem zcy{pl:Sem Bool}(he:jE X o ta)(c:Cls X.K C)(F:Me X.prog X.w X.K X.mg X.base CX k C m ps sp)(hr:Room k X.A)(hx:j9 CX X E S)(ha:jA X (e::es) t)(h1:zF e=false:=by rfl)(h2:es.all (fun e=>!zF e)=true:=by rfl)
  (ht:eval (.Call (.Attribute o m apos) (e::es) [] pos) X.env=(do
   let ov <- eval o X.env
   standAt apos.atName
   let (f,first) <- holding [ov] (getMethod ov m pl)
   callWith pos f first (backTo pos (starEach (e::es) X.env)) (backToKw pos (keywordEach [] X.env))):=by rfl) :
  jE X (.Call (.Attribute o m apos) (e::es) [] pos) (fun σ H Q=>S σ/\w4 C m sp [] E ta t σ H Q):=by
 obtain⟨f,fd,G,hb,hm⟩:=F.ex;refine⟨fun pins s σ H Q I h=>?_⟩;obtain⟨hS,h⟩:=h;refine UW (pl:=pl) (thn (he.out pins s σ H _ I h) fun u s1 ⟨x,H1,I1,rx,a,dx,fs,ex,ea,l,q⟩=>?_) ht;subst ex;obtain rfl:u=Value.ref a:=rx;refine wc I1 ea c hm l ?_;refine UD (first:=[.ref a]) (h₀:=X.base) I.ok.mod.kin hm.kp (thn (ha.out pos pins s1 σ H1 _ I1 q) fun us s2 ⟨vs,H2,I2,r,q2⟩=>⟨I2.kIn,?_⟩) (zL h1) (yl h2);have q2:sp (V.ref a::(vs++[])) H2 Q E:=q2;rw[Uu]at q2;exact zad (us:=.ref a::us) (vs:=.ref a::vs) G hr hb hx hS I2 (.cons rfl r) q2
end
def HBS(X:Cx)(hs:List ExceptHandler)(Tk:St->Ends->XK):Prop:=∀(pins:List (Addr×Obj))(σ:St)(D:Ends)(e:Addr)(C:Value)(dx:Option Addr)(H':Hp)(T:Addr)(s:Shared),Tr s.heap e C dx T .none->Inv X pins σ H' s->H' e=none->H' T=none->X.s₀.heap.objs.size<=T->(∀p∈X.pn++pins,p.1≠T)->Tk σ D C dx H' ->
 wpAny (model X.prog X.w) X.A (handleBy (.ref e) X.env hs) (SP X pins D) X.xe s
def xNS(K:ua)(Ch:Addr)(i:Nat)(th:Addr->Obj->TS)(Tk:St->Ends->XK):St->Ends->XK:=fun σ D C dx H =>
 (tF K C (.ref Ch)=some true/\∀(e:Addr)(oe:Obj)(vs:Array Value),oe.cls=C->oe.dict=dx->oe.data=.fields vs->vs[2]?=some .none->H e=none->th e oe (D.behind i) (σ.set i (some (.ref e))) H)\/(tF K C (.ref Ch)=some false/\Tk σ D C dx H)
section
variable{n:Str}{Tk:St->Ends->XK}
theorem HB.s{Tk:Ends->XK}(R:HB X hs Tk):HBS X hs (fun _=>Tk):=fun pins σ D e C dx H' T s t J ne nT sT pT h=>R pins σ D e C dx H' T s t J ne nT sT pT h
theorem zcz(R:HBS X hs Tk)(hN:X.N.Nodup)(hi:X.N[i]?=some n)(hg:Gl X x)(hm:X.mg x=some (.ref Ch))(hS:∀e oe,jSs (X.inEx (.ref e) [(e,oe)]) (b0::suite) (th e oe))(hl:X.env.scope.names.lookup n=some .local:=by rfl)(hdb:(x == ("__debug__":Str))=false:=by decide):
  HBS X (.ExceptHandler (some (.Name x np)) (some n) (b0::suite) hpos::hs) (xNS X.K Ch i th Tk):=by
 intro pins σ D e C dx H' T s t J ne nT sT pT h;obtain⟨oe,vs,g1,g2,g3,g4,g5⟩:=t.ex;have Jm:Inv (X.inEx (.ref e) []) pins σ H' s:=J.inEx (.ref e) fun q hq=>nomatch hq;have LT:PySem.W.Looks (model X.prog X.w) s.heap (typeOf (.ref e)) C:=g2 ▸ (PySem.W.Looks.ld g1).andThen .now;refine wpAny_handleBy_cons (codeAny_handlers_test (yE Jm hg hm ?_ hdb)) (by intro q;cases q);rcases h with⟨hex,hth⟩|⟨hex,hn⟩
 ·refine PySem.W.Looks.here (PySem.W.exm_one (K:=X.K) J.kIn LT hex) ?_
  refine codeAny_handlers_suite_as (ww (v:=none) t fun h3 t3 m3=>?_);have J3:Inv X pins σ H' { s with heap:=h3 }:=Inv.moved J (m3.mono (fun b z=>nomatch z) fun _ z=>z) fun b hb=>by
   rw[ug.mp hb];obtain⟨ot,ts,q1,q2,_⟩:=t.tb;exact⟨nT,.inr sT,(J.apart q1 q2).1,(J.apart q1 q2).2,pT⟩
  obtain⟨oe3,vs3,a1,a2,a3,a4,a5⟩:=t3.ex;have ap:=Inv.apart (s:={ s with heap:=h3 }) J3 a1 a4;have J4:Inv (X.inEx (.ref e) [(e,oe3)]) pins σ H' { s with heap:=h3 }:=J3.inEx (.ref e) fun q hq=>by
   rw[ug.mp hq];exact⟨a1,ne,ap.1,fun z=>by
    obtain⟨_,o,ho,nf⟩:=J3.funs.mem z;have ho':h3.get? e=some o:=ho;rw[a1]at ho';cases ho';exact nf vs3 a4,fun v z=>by rw[a4]at z;cases z⟩
  refine vq (X:=X.inEx (.ref e) [(e,oe3)]) (v:=.ref e) J4 hN hi (.inl hl) rfl (fun s4 J5=>?_) (.inr hl);refine wpAny_mono ((hS e oe3).out pins s4 _ H' (D.behind i) J5 (hth e oe3 vs3 a2 a3 a4 a5.2 ne)) (fun f s5 q=>?_) fun _ _ z=>False.elim z;cases f with
  |next =>
   obtain⟨σ',H5,I5,q⟩:=q;exact xS (I5.outEx J.ok) hN hi hl fun s6 I6=>⟨_,_,I6,q⟩
  |brk =>
   obtain⟨σ',H5,I5,q⟩:=q;exact xS (I5.outEx J.ok) hN hi hl fun s6 I6=>⟨_,_,I6,q⟩
  |cont =>
   obtain⟨σ',H5,I5,q⟩:=q;exact xS (I5.outEx J.ok) hN hi hl fun s6 I6=>⟨_,_,I6,q⟩
  |ret w =>
   obtain⟨v,σ',H5,I5,r,q⟩:=q;exact xS (I5.outEx J.ok) hN hi hl fun s6 I6=>⟨v,_,_,I6,r,q⟩
 ·refine PySem.W.Looks.here (PySem.W.exm_one (K:=X.K) J.kIn LT hex) ?_
  exact R pins σ D e C dx H' T s t J ne nT sT pT hn
theorem zcA(R:HBS X hs Tk)(hg:Gl X x)(hm:X.mg x=some (.ref Ch))(hdb:(x == ("__debug__":Str))=false:=by decide):HBS X (.ExceptHandler (some (.Name x np)) none body hpos::hs) (fun σ D C dx H=>tF X.K C (.ref Ch)=some false/\Tk σ D C dx H):=by
 intro pins σ D e C dx H' T s t J ne nT sT pT h;obtain⟨oe,vs,g1,g2,g3,g4,g5⟩:=t.ex;have Jm:Inv (X.inEx (.ref e) []) pins σ H' s:=J.inEx (.ref e) fun q hq=>nomatch hq;have LT:PySem.W.Looks (model X.prog X.w) s.heap (typeOf (.ref e)) C:=g2 ▸ (PySem.W.Looks.ld g1).andThen .now;refine wpAny_handleBy_cons (codeAny_handlers_test (yE Jm hg hm ?_ hdb)) (by intro q;cases q);obtain⟨hex,hn⟩:=h;refine PySem.W.Looks.here (PySem.W.exm_one (K:=X.K) J.kIn LT hex) ?_;exact R pins σ D e C dx H' T s t J ne nT sT pT hn
theorem Wq(hst:X.stack=X.env::X.outer)(hf:X.env.frame=some X.env.locals)(R:HBS X hs Tk)
  (h:Air X pins σ (Tk σ D) u s') :
  wpAny (model X.prog X.w) X.A (noteFrame u X.env) (fun _ s2=>wpAny (model X.prog X.w) X.A (setFlight u none) (fun _ s3=>wpAny (model X.prog X.w) X.A (handleBy u X.env hs) (SP X pins D) X.xe s3) X.xe s2) X.xe s':=by
 obtain⟨e,C,dx,H',k,rfl,I,ne,hk,he,hp,st,hth⟩:=h;have fr:X.A.frames=some (X.env::X.outer):=hst ▸ I.ok.frames;have fs:s'.heap.FunFrames X.base (X.env::X.outer):=hst ▸ I.stack;have pk:∀b,k<=b->∀p∈X.pn++pins,p.1≠b:=fun b hb p q z=>absurd (uv (hp p q) hb) (by rw[z];exact u7 _);have two:∀(h1:Heap)(T:Addr)(xs:List Addr),Tr h1 e C dx T (rawInt X.env.locals)->Mv ((X.env::X.outer).filterMap (·.frame)) xs s'.heap h1->(∀b∈xs,H' b=none/\X.s₀.heap.objs.size<=b/\(∀p∈X.pn++pins,p.1≠b)/\∃o vs,s'.heap.get? b=some o/\o.data=.fields vs)->s'.heap.objs.size<=T ->
   wpAny (model X.prog X.w) X.A (setFlight (.ref e) none) (fun _ s3=>wpAny (model X.prog X.w) X.A (handleBy (.ref e) X.env hs) (SP X pins D) X.xe s3) X.xe { s' with heap:=h1 }:=by
  intro h1 T xs t m hxs hT;have J1:Inv X pins σ H' { s' with heap:=h1 }:=I.moved (hst ▸ m) fun b hb=>by
   obtain⟨r1,r2,r3,o,vs,r4,r5⟩:=hxs b hb;exact⟨r1,.inr r2,(I.apart r4 r5).1,(I.apart r4 r5).2,r3⟩
  have nT:H' T=none:=I.hok.fresh hT;have sT:X.s₀.heap.objs.size<=T:=uy I.sz hT;have pT:∀p∈X.pn++pins,p.1≠T:=fun p q z=>absurd (uv (um (I.pin p q).1) hT) (by rw[z];exact u7 _);refine ww (s:={ s' with heap:=h1 }) (v:=none) t fun h2 t2 m2=>R pins σ D e C dx H' T { s' with heap:=h2 } t2 (Inv.moved (s:={ s' with heap:=h1 }) J1 (m2.mono (fun b z=>nomatch z) fun _ z=>z) fun b hb=>?_) ne nT sT pT hth;rw[ug.mp hb];obtain⟨ot,ts,q1,q2,_⟩:=t.tb;exact⟨nT,.inr sT,(J1.apart q1 q2).1,(J1.apart q1 q2).2,pT⟩
 rcases st with⟨oe,vs,h1,rfl,rfl,h4,h5,h6⟩|⟨T0,t0,n0,s0⟩
 ·refine wO fr fs hf h1 h4 h5 h6 fun h' T hs t m=>two h' T [e] t m (fun b hb=>?_) hs
  rw[ug.mp hb];exact⟨ne,uy hk he,pk e he,oe,vs,h1,h4⟩
 ·refine vB fr fs hf t0 fun h' T hs t m=>two h' T [e,T0] t m (fun b hb=>?_) hs
  rcases uh.mp hb with r|hb
  ·rw[r]
   obtain⟨oe,vs,q1,_,_,q4,_⟩:=t0.ex;exact⟨ne,uy hk he,pk e he,oe,vs,q1,q4⟩
  ·rw[ug.mp hb]
   obtain⟨ot,ts,q1,q2,_⟩:=t0.tb;exact⟨n0,uy hk s0,pk T0 s0,ot,ts,q1,q2⟩
theorem Wr{σ0:St}(R:HBS X hs Tk)(ok:X.Ok)(hst:X.stack=X.env::X.outer:=by rfl)(hf:X.env.frame=some X.env.locals:=by rfl):j9 (CXf X.prog X.w) (X.inTryW pins hs D) (Tk σ0 D) (fun σ=>σ=σ0):=fun pins' σ H1 s1 u s2 e0 I h=>by
 subst e0;have I0:Inv (X.plusP pins) pins' σ H1 s1:=⟨⟨I.ok.mod,I.ok.kind,I.ok.glob,I.ok.blt,I.ok.above,I.ok.inj,I.ok.has,I.ok.cab,I.ok.hd,I.ok.frames,I.ok.stk,I.ok.exf,I.ok.bs,I.ok.bsz,I.ok.noex,I.ok.exfs,I.ok.funs,I.ok.frf⟩,I.os,I.bare,I.base,I.loc,I.cell,I.free,I.freeC,I.pin,I.hok,I.len⟩;obtain⟨e,C,dx,H',k,rfl,I5,ne,hk,he,hp,st,hE⟩:=VC (X:=X.plusP pins) rfl rfl I0 h;have a:Air X (pins++pins') σ (Tk σ D) (.ref e) s2:=⟨e,C,dx,H',k,rfl,I5.ofPlus ok,ne,hk,he,fun p q=>hp p (by simpa using q),st,hE⟩;have g:=Wq hst hf R a;have sp:∀f s3,SP X (pins++pins') D f s3->SP X pins D f s3:=fun f s3 q=>by
  cases f with
  |next=>obtain⟨σ',H5,I5,q⟩:=q;exact⟨_,_,I5.few,q⟩
  |brk=>obtain⟨σ',H5,I5,q⟩:=q;exact⟨_,_,I5.few,q⟩
  |cont=>obtain⟨σ',H5,I5,q⟩:=q;exact⟨_,_,I5.few,q⟩
  |ret w=>obtain⟨v,σ',H5,I5,r,q⟩:=q;exact⟨v,_,_,I5.few,r,q⟩
 exact wpAny_mono g (fun _ s2 q=>wpAny_mono q (fun _ s3 q=>wpAny_mono q sp fun _ _ z=>z) fun _ _ z=>z) fun _ _ z=>z
def zcB(C:Addr)(m:Str)(sp:Sp)(Tk:St->Ends->XK)(ta:TE)(t:TA):TS:=fun D σ H=>w4 C m sp [] (Tk σ D) ta t σ H fun _ H'=>D.nx σ H'
theorem VP{k:Nat}{epos:Pos}{t:TA}{pl:Sem Bool}(c:Cls X.K C)(F:Me X.prog X.w X.K X.mg X.base (CXf X.prog X.w) k C m ps sp)(hr:Room k X.A)(R:HBS X (h0::hs) Tk)(he:∀pins D,jE (X.inTryW pins (h0::hs) D) o ta)(ha:∀pins D,jA (X.inTryW pins (h0::hs) D) (e::es) t)(hst:X.stack=X.env::X.outer:=by rfl)(hf:X.env.frame=some X.env.locals:=by rfl)(h1:zF e=false:=by rfl)(h2:es.all (fun e=>!zF e)=true:=by rfl)
  (ht:eval (.Call (.Attribute o m apos) (e::es) [] pos) X.env=(do
   let ov <- eval o X.env
   standAt apos.atName
   let (f,first) <- holding [ov] (getMethod ov m pl)
   callWith pos f first (backTo pos (starEach (e::es) X.env)) (backToKw pos (keywordEach [] X.env))):=by rfl) :
  jS X (.Try [.Expr (.Call (.Attribute o m apos) (e::es) [] pos) epos] (h0::hs) [] [] tpos) (zcB C m sp Tk ta t):=by
 constructor
 intro pins s σ H D I h;have je:=zcy (X:=X.inTryW pins (h0::hs) D) (S:=fun σ'=>σ'=σ) (E:=Tk σ D) (pl:=pl) (apos:=apos) (pos:=pos) (he pins D) c F hr (Wr R I.ok hst hf) (ha pins D) h1 h2 ht;refine wpAny_Try_except (wpAny_mono ((zn (zP je)).out [] s σ H D I.toTryW ⟨rfl,h⟩) (fun f s1 q=>?_) (fun u s1 q=>q));cases f with
 |next =>
  obtain⟨σ',H5,I5,q⟩:=q;exact wpAny_execs_nil ⟨_,_,I5.ofTryW I.ok,q⟩
 |brk =>
  obtain⟨σ',H5,I5,q⟩:=q;exact⟨_,_,I5.ofTryW I.ok,q⟩
 |cont =>
  obtain⟨σ',H5,I5,q⟩:=q;exact⟨_,_,I5.ofTryW I.ok,q⟩
 |ret w =>
  obtain⟨v,σ',H5,I5,r,q⟩:=q;exact⟨v,_,_,I5.ofTryW I.ok,r,q⟩
end
def BMn(mg:Str->Option Value)(h:Heap):Prop:=∃bm ob,mg "__builtins__"=some (.ref bm)/\bm≠builtinsNs/\h.get? bm=some ob/\ob.cls=.type "module"/\ob.dict=some builtinsNs/\ob.data=.plain
theorem BMn.at{P:Addr}{ps:Array Value}(B:BMn mg h)(g:h.Ns mainGlobals mg)(hP:h.get? P=some { cls:=.none,data:=.fields ps }):h.BuiltinsAt mg P/\mainGlobals≠P:=by
 obtain⟨bm,ob,b1,b2,b3,b4,b5,b6⟩:=B;refine⟨⟨bm,ob,b1,b2,fun q=>?_,fun q=>?_,b3,b4,b5,b6⟩,fun q=>?_⟩
 ·obtain⟨o,es,ep,e,hd,_⟩:=g
  rw[q,e]at b3;cases b3;rw[hd]at b6;cases b6
 ·rw[q,hP]at b3;cases b3;cases b4
 ·obtain⟨o,es,ep,e,hd,_⟩:=g
  rw[q,hP]at e;cases e;cases hd
theorem BMn.keeps(B:BMn mg h)(k:∀b o,h.get? b=some o->h'.get? b=some o):BMn mg h' :=
 let ⟨bm,ob,b1,b2,b3,r⟩:=B;⟨bm,ob,b1,b2,k _ _ b3,r⟩
def FunO(f:Addr)(fd:FuncData):HO:=.ext fun h=>h.get? f=some { cls:=.type "function",data:=.func fd }
def CodO(c:Addr)(qual:Str):HO:=.ext fun h=>h.CodeRec (.ref c) qual
theorem VQ(e:h.get? f=some { cls:=.type "function",data:=.func fd }):ObjOk P w H h f (FunO f fd) :=
 ⟨e,⟨_,e⟩,fun _ _ p k=>k _ p⟩
theorem zcC(e:h.CodeRec (.ref c) qual):ObjOk P w H h c (CodO c qual) :=
 ⟨e,(let ⟨_,oc,_,_,q,e,_⟩:=e;by cases q;exact⟨oc,e⟩),fun _ _ ⟨d,oc,vs,t,q,e,r⟩ k=>by cases q;exact⟨c,oc,vs,t,rfl,k _ e,r⟩⟩
def DtIn(K:ua)(D:Addr)(i:Int):Prop:=∃(d:Option Addr)(t:Tok)(n:Nat)(sl:Array (Option Value)),K.lookup D=some ⟨.type "tuple",d,.seq #[.int i t] n,sl⟩
theorem DtIn.mk{K:ua}{D:Addr}{i:Int}{d:Option Addr}{t:Tok}{sl:Array (Option Value)}(a:K.lookup D=some ⟨.type "tuple",d,.seq #[.int i t] n,sl⟩):DtIn K D i:=⟨d,t,n,sl,a⟩
def Itv(K:ua)(a:Addr)(n:Nat):It :=
 ⟨fun i H=>i < n/\∃xs x,SqL K H a xs/\xs[n-1-i]?=some x,fun i H x H'=>H'=H/\∀xs,SqL K H a xs->xs[n-1-i]?=some x,fun i _=>n<=i⟩
theorem VR{K:ua}(a it:Addr)(n:Nat):Turn P w K tg (Itv K a n) [it] it (fun i h=>i<=n/\h.IsRevIter it a ((n:Int)-1-(i:Nat))) where
 mem:=by simp
 obj:=fun i h st b hb=>by
  have e:b=it:=by simpa using hb
  subst e;obtain⟨_,o,e,c,d⟩:=st;exact⟨o,e,fun v z=>by rw[d]at z;cases z⟩
 keep:=fun i h h' st k=>⟨st.1,st.2.at fun o e=>k it (by simp) o e⟩
 item:=by
  intro X hP hw hK hc i pins s σ H E I hf st hg;subst hP hw hK;obtain⟨hi,xs,x,hq,hx⟩:=hg;obtain⟨its,rv,p,hz⟩:=I.list hq;obtain⟨u,hu,ru⟩:=rv.get hx;obtain⟨f0,f1,f2,f3,f4,f5⟩:=hf it (by simp);obtain⟨_,st2⟩:=st;have e1:(n:Int)-1-(i:Nat)=((n-1-i:Nat):Int):=by lia
  rw[e1]at st2;refine wpAny_pyNext_rev_item st2 p.isList (x:=u) (by simpa using hu) fun h' st' sb=>?_;have I1:Inv X pins σ H { s with heap:=h' }:=I.turned (t':=s.toks) (fun b o hb e=>(sb.2 b hb).trans e) f0 f1 f3 f4 f5;obtain⟨o,e,c,d⟩:=id st';refine⟨u,rfl,ZO (s:={ s with heap:=h' }) e c d (by decide) ⟨x,H,I1,ru,⟨rfl,fun ys hy=>by rw[I.list_inj hy hq];exact hx⟩,⟨hi,?_⟩,fun b hb=>(hf b hb).1⟩⟩;have e2:(n:Int)-1-((i+1:Nat):Int)=((n-1-i:Nat):Int)-1:=by lia
  rw[e2];exact st'
 done:=by
  intro X hP hw hK hc i pins s σ H E I hf st hg;subst hP hw hK;obtain⟨f0,f1,f2,f3,f4,f5⟩:=hf it (by simp);obtain⟨h1,st2⟩:=st;have h2:n<=i:=hg;have e1:(n:Int)-1-(i:Nat)=-1:=by lia
  rw[e1]at st2;exact wpAny_pyNext_rev_end (I.ok.hd hc) st2 fun h' eb=>⟨rfl,I.turned (t':=s.toks) (fun b o hb e=>eb b o hb e) f0 f1 f3 f4 f5⟩
 self:=fun _ _ _ _ _ st h=>wpAny_pyIter_revIter st.2 h
def iRev(K:ua)(ta:TA):TI:=fun σ H R=>ta σ H fun vs H1=>∃a xs,vs=[.ref a]/\SqL K H1 a xs/\R (Itv K a xs.length) H1
theorem zcD{a:Expr}{ta:TA}(hg:Gl X "reversed")(hm:X.mg "reversed"=none)(ha:PA X [a] ta)(hs:starEach [a] X.env=[(false,eval a X.env)]:=by rfl):PI X tg (.Call (.Name "reversed" p) [a] [] pos) (iRev X.K ta):=by
 intro pins s σ H R I h;refine Call_ (xy I hg hm boot_reversed (Uv (thn (ha pos pins s σ H _ I h) fun us s1 ⟨vs,H1,I1,r1,q1⟩=>?_) hs rfl));obtain⟨l,xs,e,hq,q⟩:=q1;subst e;obtain⟨u,rfl,rx⟩:=xj r1;cases rx;obtain⟨its,rv,pl,hz⟩:=I1.list hq;have hl:=rv.length;refine call_reversed_list pl.isList ?_;have hr:(s1.heap.push (revObj l ((its.toArray.size:Int)-1))).IsRevIter s1.heap.objs.size l ((its.toArray.size:Int)-1):=⟨_,uo _ rfl,rfl,rfl⟩;refine wpAny_pyIter_revIter (s:={ s1 with heap:=s1.heap.push (revObj l ((its.toArray.size:Int)-1)) }) hr ?_;refine⟨s1.heap.objs.size,[s1.heap.objs.size],_,_,H1,rfl,I1.kept (t':=s1.toks) fun b o e=>ub _ e,VR l _ xs.length,⟨uU _,?_⟩,fun b hb=>?_,q⟩
 ·have e:(xs.length:Int)-1-((0:Nat):Int)=(its.toArray.size:Int)-1:=by simp[hl]
  rw[e];exact hr
 have e:b=s1.heap.objs.size:=by simpa using hb
 subst e;exact I1.fpOk (ui _) (I1.hok.fresh (ui _))
theorem YL{a:Expr}{t:TA}(hg:Gl X "reversed")(hm:X.mg "reversed"=none)(ha:jA X [a] t)(h:zF a=false:=by rfl):jI X tg (.Call (.Name "reversed" p) [a] [] pos) (iRev X.K t):=⟨zcD hg hm ha.out (zL h)⟩
theorem Za{K:ua}{tb:TS}(Pv:Nat->St->Hp->Prop)(h0:Pv 0 σ H)(hl:∀i σ H,i<=xs.length->Pv i σ H->SqL K H a xs)
  (hs:∀i x σ H,xs.reverse[i]?=some x->Pv i σ H->g x σ H fun σ2 H2=>tb { D with nx:=Pv (i+1),ct:=Pv (i+1),bk:=D.nx } σ2 H2) (hd:∀σ H,Pv xs.length σ H->D.nx σ H) :
  ∃W:Nat->Nat->St->Hp->Prop,(∃m,W 0 m σ H)/\∀i m σ H,W i m σ H ->
   ((Itv K a xs.length).stop i H/\D.nx σ H)\/((Itv K a xs.length).go i H/\∃N:St->Hp->Prop,(∀σ' H',N σ' H'->∃m',m' < m/\W (i+1) m' σ' H')/\∀x H',(Itv K a xs.length).yld i H x H'->g x σ H' fun σ2 H2=>tb { D with nx:=N,ct:=N,bk:=D.nx } σ2 H2):=by
 refine⟨fun i m σ H=>m=xs.length-i/\i<=xs.length/\Pv i σ H,⟨xs.length,by simp,uU _,h0⟩,?_⟩;rintro i m σ H ⟨rfl,hi,p⟩;have q:=hl i σ H hi p;by_cases hlt:i < xs.length
 ·refine .inr ⟨⟨hlt,xs,xs[xs.length-1-i],q,by rw[uf]⟩,Pv (i+1),fun σ' H' p'=>⟨xs.length-(i+1),by lia,rfl,hlt,p'⟩,fun x H' y=>?_⟩
  obtain⟨e,y⟩:=y;subst e;refine hs i x σ _ ?_ p;rw[tj hlt];exact y xs q
 ·have e:i=xs.length:=by lia
  subst e;exact .inl ⟨ui _,hd σ H p⟩
theorem zcE{K:ua}(Pv:Nat->St->List V->Hp->Prop)(h0:Pv 0 σ [] H)(hl:∀i τ ys H,i<=xs.length->Pv i τ ys H->SqT K H a xs)
  (hs:∀i x τ ys H,xs[i]?=some x->Pv i τ ys H->g x τ H fun τ2 H2=>tt τ2 H2 fun b H3=>if b=true then te τ2 H3 fun y H4=>ys.length < sizeLine/\Pv (i+1) τ2 (ys++[y]) H4 else Pv (i+1) τ2 ys H3)
  (hd:∀τ ys H,Pv xs.length τ ys H->∀p,H p=none->Q (.ref p) (upd H p (.lst ys))):∃W,(∃m,W 0 m σ [] H)/\lcBy (Itt K a) g tt te Q W:=by
 refine⟨fun i m τ ys H=>m=xs.length-i/\i<=xs.length/\Pv i τ ys H,⟨xs.length,by simp,uU _,h0⟩,?_⟩;rintro i m τ ys H ⟨rfl,hi,p⟩;have q:=hl i τ ys H hi p;by_cases hlt:i < xs.length
 ·refine .inr ⟨⟨xs,xs[i],q,by simp[hlt]⟩,Pv (i+1),fun τ' ys' H' p'=>⟨xs.length-(i+1),by lia,rfl,hlt,p'⟩,fun x H' y=>?_⟩
  obtain⟨e,y⟩:=y;subst e;exact hs i x τ ys _ (y xs q) p
 ·have e:i=xs.length:=by lia
  subst e;exact .inl ⟨⟨xs,q,ui _⟩,hd τ ys H p⟩
theorem old{p q:Addr}{o u:HO}(hp:H p=none)(h:H q=some u):upd H p o q=some u:=by rw[zh (zk h hp)];exact h
theorem Same.new{p:Addr}{o:HO}(s:Same H H1)(hp:H1 p=none):Same H (upd H1 p o):=fun b u q=>old hp (s b u q)
theorem Same.put{p:Addr}{o:HO}(s:Same H H1)(hp:H p=none):Same H (upd H1 p o):=fun b u q=>by rw[zh (zk q hp)];exact s b u q
theorem VS{x:V}(h:xA x=true):eqV x x=true:=by
 cases x<;>first
  |rfl
  | (show((_:Bool) == _)=true;simp)
  | (show((_:Int) == _)=true;simp)
  | (show((_:Str) == _)=true;simp)
  | (cases h)
def XB:V->List V->Hp->VK->Prop:=fun x vs H Q=>∃l xs k kk y,x=.ref l/\vs=[.int kk,y]/\kk=((k:Nat):Int)/\H l=some (.lst xs)/\xs.length < sizeLine/\k<=xs.length/\Q .non (upd H l (.lst (xs.take k++y::xs.drop k)))
theorem Ws:MtM X "list.insert" XB:=by
 intro pins s σ H x vs v us Q I rx rv h;obtain⟨l,xs,k,kk,y,rfl,rfl,hkk,hH,hz,hk,q⟩:=h;cases rx;obtain⟨u,u',rfl,ru,ru'⟩:=rv.two;obtain⟨t,rfl⟩:=ru;obtain⟨z,its,n,r,hl,e⟩:=I.lstM hH;have sl:sizeLine=16777216:=by unfold sizeLine;rfl
 have hz2:its.toArray.size<=sizeLine:=by rw[uA];lia
 have hf:Builtin.List.listFitsIndex kk=true:=by
  unfold Builtin.List.listFitsIndex;simp
  lia
 have h0:¬(!Builtin.List.listFitsIndex kk)=true:=by rw[hf];decide
 have g:=PySem.AutoSeq1.list_insert_list_int_val_1 l its.toArray n kk t u' h0 hz2;refine call_meets F.slot_list_insert ⟨_,e,rfl⟩ F.entry_list_insert (F.args_list_insert_3 _ _ _) g ⟨e,?_⟩;refine⟨.non,_,I.lset (its':=its.take k++u'::its.drop k) hH e ?_ ((r.take k).append (.cons ru' (r.drop k))) ?_,rfl,q⟩
 ·have e1:(if kk < 0 then(kk+((its.toArray.size:Nat):Int)).toNat else min kk.toNat its.toArray.size)=k:=by
   rw[if_neg (by lia),uA];lia
  show(its.toArray.extract 0 (if kk < 0 then(kk+((its.toArray.size:Nat):Int)).toNat else min kk.toNat its.toArray.size)).push u'++its.toArray.extract (if kk < 0 then(kk+((its.toArray.size:Nat):Int)).toNat else min kk.toNat its.toArray.size)=_;rw[e1];apply Array.toList_inj.mp
  simp[Array.toList_extract,List.extract,Ut]
 ·rw[uk,uJ,Ui,U5]
  lia
theorem Wt:jMt X "list.insert" XB:=⟨Ws⟩
theorem XC(K:ua)(h:X.K=K:=by rfl):jIx X (rIxT K):=h ▸ zcn
theorem zA(K:ua)(h:X.K=K:=by rfl):jIx X (rIxL K):=h ▸ Xu
theorem ZZ(K:ua)(h:X.K=K:=by rfl):jSl X (rSlL K):=h ▸ QX
theorem YM(K:ua)(h:X.K=K:=by rfl):jOp X (compareOp .In) (rIn K false):=h ▸ jx
theorem VT(K:ua)(h:X.K=K:=by rfl):jOp X (binaryOp .Add) (Vr K):=h ▸ QW
theorem xb(K:ua){k:Nat}(hc:X.calm=true)(g:jGs X es gs)(h:X.K=K:=by rfl)(hn:(assignEach es X.env).length=n:=by rfl)(hst:(assignEach es X.env).findIdx? (·.1)=none:=by rfl):jG X (.Tuple es k pos) (gTup K n gs):=h ▸ VA hc g hn hst
theorem zQ(K:ua)(h:X.K=K:=by rfl):jCa X (.builtin "len") (fun xs H Q=>∃p ys,xs=[.ref p]/\(SqL K H p ys\/SqT K H p ys)/\Q (.int ys.length) H):=h ▸ y0
theorem vI(K:ua)(h:X.K=K:=by rfl):jCa X (.builtin "isinstance") (fun xs H Q=>∃x t T b,xs=[x,.ty T]/\TyOf K H x t/\Ud K t (.type T)=some b/\Q (.bl b) H):=h ▸ zS
theorem xu(K:ua)(h:X.K=K:=by rfl):jCa X (.type "tuple") (fun xs H Q=>∃p ys,xs=[.ref p]/\((SqL K H p ys/\∀l,H l=none->Q (.ref l) (upd H l (.tup ys)))\/(SqT K H p ys/\Q (.ref p) H))):=h ▸ w5
theorem w9(K:ua)(h:X.K=K:=by rfl):jCa X (.type "list") (fun xs H Q=>∃p ys,xs=[.ref p]/\(SqL K H p ys\/SqT K H p ys)/\∀l,H l=none->Q (.ref l) (upd H l (.lst ys))):=h ▸ YH
theorem zr(K:ua){f:Str}(he:jE X e ta)(h:X.K=K:=by rfl)(hb:attributeBase e f X.env (eval e X.env)=eval e X.env:=by rfl):jE X (.Attribute e f pos) (tFld K ta f):=h ▸ zcw he hb
def CelO(c:Addr)(v:V):HO:=.ext fun h=>∃u,RelV v u/\h.IsCell c (some u)
def Cel(H:Hp)(c:Addr)(v:V):Prop:=∃o,H c=some (.frz o (CelO c v))
theorem VU{v:V}{o:Obj}(e:h.get? c=some o)(d:o.data=.cell (some u))(r:RelV v u):ObjOk P w H h c (.frz o (CelO c v)) :=
 ⟨e,⟨u,r,o,e,d⟩,⟨o,e⟩,fun _ _ ⟨u,r,o,e,d⟩ k=>⟨u,r,o,k _ e,d⟩⟩
def yU(H:Hp)(as:List Addr):Hp:=fun b=>if b∈as then none else H b
def xo(H' H:Hp)(as:List Addr):Hp:=fun b=>if b∈as then H b else H' b
theorem wz(h:b∈as):yU H as b=none:=if_pos h
theorem yw(h:b∉as):yU H as b=H b:=if_neg h
theorem vi(h:b∈as):xo H' H as b=H b:=if_pos h
theorem yP(h:b∉as):xo H' H as b=H' b:=if_neg h
abbrev lamC(mg:Str->Option Value)(qual:Str)(params:Arguments)(body:Expr)(scope:Scope)(cl:List (Str×Addr))(c:Addr)(ctv:Value):FuncData:=PySem.W.kla_fn "<lambda>" qual params body scope cl ((mg "__name__").getD .none) (.ref c) ctv
def VW(mg:Str->Option Value)(T:Addr)(qual:Str)(params:Arguments)(body:Expr)(scope:Scope)(pos:Pos)(cl:List (Str×Addr)):TE:=fun _ H Q=>∃ps,H T=some (.tbl ps)/\TriplesOk ps.toList /\
 ((codeAmong pos ps.toList=none/\∀(c f:Addr)(ctv:Value),H c=none->H f=none->f≠c->Q (.ref f) (upd (upd (upd H T (.tbl (ps ++ #[rawInt pos.line,rawInt pos.col,.ref c]))) c (CodO c qual)) f (FunO f (lamC mg qual params body scope cl c ctv)))) \/
   (∃c,codeAmong pos ps.toList=some (.ref c)/\∀(f:Addr)(ctv:Value),H f=none->Q (.ref f) (upd H f (FunO f (lamC mg qual params body scope cl c ctv)))))
theorem zae{cl:List (Str×Addr)}{body:Expr}(hB:BMn X.mg X.base)(hcode:X.env.code=.ref c)(hc:UF X.K c T=true)(hq:X.env.qual ++ "<lambda>"=qual)
  (hdef:defaultsOf params X.env=([],[])) (hcl:closureFor scope X.env=pure cl):PE X (.Lambda params body scope pos) (VW X.mg T qual params body scope pos cl):=by
 intro pins s σ H Q I h;refine PySem.W.kla_eval hdef ?_;rw[hq];obtain⟨ps,hT,tr,h⟩:=h;have gT:s.heap.get? T=some { cls:=.none,data:=.fields ps }:=I.hok T _ hT;have hg:=I.mod.glob.keeps I.bk;obtain⟨bAt,hgP⟩:=(hB.keeps I.bk).at hg gT;rcases h with⟨nf,h⟩|⟨c',hit,h⟩
 ·refine PySem.W.kla_makeFunction (mg:=X.mg) hcl I.ok.glob hg hcode (PySem.W.codeHd_of_K I.kIn hc) gT tr nf hgP bAt fun c' ctv h' tk ext ge lt rec tab=>?_
  have hc0:H c'=none:=I.hok.fresh ge;have hf0:H h'.objs.size=none:=I.hok.fresh (uy ge (Nat.le_of_lt lt));have nfc:h'.objs.size≠c':=U8 lt;have ncT:T≠c':=zk hT hc0;have nfT:T≠h'.objs.size:=zk hT hf0;have elsewhere:∀b,b≠T->b≠c'->b≠h'.objs.size->upd (upd (upd H T (.tbl (ps ++ #[rawInt pos.line,rawInt pos.col,.ref c']))) c' (CodO c' qual)) h'.objs.size (FunO h'.objs.size (lamC X.mg qual params body scope cl c' ctv)) b=H b:=fun b h1 h2 h3=>by rw[zh h3,zh h2,zh h1]
  have hU:∀b u,H b=some u->b≠T->upd (upd (upd H T (.tbl (ps ++ #[rawInt pos.line,rawInt pos.col,.ref c']))) c' (CodO c' qual)) h'.objs.size (FunO h'.objs.size (lamC X.mg qual params body scope cl c' ctv)) b=some u:=fun b u e n=>by
   rw[elsewhere b n (zk e hc0) (zk e hf0)];exact e
  have hTb:upd (upd (upd H T (.tbl (ps ++ #[rawInt pos.line,rawInt pos.col,.ref c']))) c' (CodO c' qual)) h'.objs.size (FunO h'.objs.size (lamC X.mg qual params body scope cl c' ctv)) T=some (.tbl (ps ++ #[rawInt pos.line,rawInt pos.col,.ref c'])):=by
   rw[zh nfT,zh ncT];exact zg
  have keep:∀b o,b≠T->s.heap.get? b=some o->(h'.push (PySem.W.kla_obj "<lambda>" qual params body scope cl ((X.mg "__name__").getD .none) c' ctv)).get? b=some o:=fun b o n e=>ub _ (ext b o n e);have neT:∀b,H b=none->b≠T:=fun b e n=>by rw[n,hT]at e;cases e
  refine⟨.ref h'.objs.size,_,I.un (t':=tk) (H':=upd (upd (upd H T (.tbl (ps ++ #[rawInt pos.line,rawInt pos.col,.ref c']))) c' (CodO c' qual)) h'.objs.size (FunO h'.objs.size (lamC X.mg qual params body scope cl c' ctv))) ⟨fun b o e n _ _=>keep b o (neT b n) e,fun b o e n _ _=>⟨o.slots,keep b o (neT b n) e⟩,fun b o e n _=>?_,fun b o e _=>?_,fun b xs e=>hU b _ e (fun z=>by rw[z,hT]at e;cases e),fun b o xs e=>hU b _ e (fun z=>by rw[z,hT]at e;cases e),fun b qs e=>?_⟩ ?_,rfl,h c' _ ctv hc0 hf0 nfc⟩
  ·have l:=um e
   rw[elsewhere b (neT b n) (uI (uv l ge)) (uI (Nat.lt_trans (uv l ge) lt))];exact n
  ·by_cases z:b=T
   ·rw[z];exact⟨_,ub _ tab⟩
   ·exact⟨o,keep b o z e⟩
  ·by_cases z:b=T
   ·subst z
    rw[hT]at e;cases e;exact⟨_,hTb⟩
   ·exact⟨#[],by rw[hU b _ e z];simp⟩
  ·intro b u e
   by_cases z1:b=h'.objs.size
   ·subst z1
    rw[zg]at e;cases e;exact VQ (uo _ rfl)
   rw[zh z1]at e;by_cases z2:b=c'
   ·subst z2
    rw[zg]at e;cases e;obtain⟨d,oc,vs,t,q,e,r⟩:=rec;exact zcC ⟨d,oc,vs,t,q,ub _ e,r⟩
   rw[zh z2]at e;by_cases z3:b=T
   ·subst z3
    rw[zg]at e;cases e;exact ub _ tab
   rw[zh z3]at e;refine(I.hok b u e).stay (fun d v hd q=>keep d v ?_ q) (fun d q=>hU d _ q fun z=>by rw[z,hT]at q;cases q) fun d xs q=>hU d _ q fun z=>by rw[z,hT]at q;cases q
   rcases hd with rfl|hd
   ·exact z3
   ·intro z
    rw[z,hT]at hd;cases hd
 ·refine PySem.W.kla_makeFunctionHit (mg:=X.mg) hcl I.ok.glob hg hcode (PySem.W.codeHd_of_K I.kIn hc) gT tr hit bAt fun ctv h' tk kp sz=>?_
  have hf0:H h'.objs.size=none:=I.hok.fresh sz;exact⟨.ref h'.objs.size,_,I.laid (t':=tk) (o:=FunO h'.objs.size (lamC X.mg qual params body scope cl c' ctv)) (fun b u e=>ub _ (kp b u e)) sz (VQ (uo _ rfl)),rfl,h _ ctv hf0⟩
theorem Zb{cl:List (Str×Addr)}{body:Expr}(hB:BMn X.mg X.base)(hcode:X.env.code=.ref c)(hc:UF X.K c T=true)(hq:X.env.qual ++ "<lambda>"=qual)
  (hdef:defaultsOf params X.env=([],[]):=by rfl) (hcl:closureFor scope X.env=pure cl:=by with_unfolding_all rfl):jE X (.Lambda params body scope pos) (VW X.mg T qual params body scope pos cl):=⟨zae hB hcode hc hq hdef hcl⟩
structure LamScope(N ps fs:lS)(sc:Scope):Prop where
 kind:sc.kind=.function
 co:sc.isCoroutine=false
 gen:sc.isGenerator=false
 nd:N.Nodup
 cat:N=ps++fs
 par:∀x∈ps,sc.names.lookup x=some .local
 fre:∀x∈fs,sc.names.lookup x=some .free
 nocell:∀y∈sc.names,y.2≠.cell
 has:∀y∈sc.names,y.2=.free->y.1∈fs
structure Clo(H:Hp)(cl:List (Str×Addr))(fs:lS)(fvs:List V):Prop where
 len:fvs.length=fs.length
 all:∀p∈cl,∃v,Cel H p.2 v
 get:∀(i:Nat)(x:Str)(v:V),fs[i]?=some x->fvs[i]?=some v->∃a,cl.lookup x=some a/\Cel H a v
 has:∀x∈fs,∃a,cl.lookup x=some a
 inj:∀x y a,cl.lookup x=some a->cl.lookup y=some a->x=y
def XE(CX:CXT)(P:Program)(w:World)(K:ua)(mg:Str->Option Value)(base:Heap)(N:lS)(qual:Str)(scope:Scope)(f:Addr)(cd:Value)(cl:List (Str×Addr))(A:Around)(outer:List Env)(s:Shared)(H:Hp)(E:XK):Cx where
 prog:=P
 w:=w
 K:=K
 mg:=mg
 base:=base
 A:=A.deeper (tJ qual scope s.heap.objs.size f cd cl)
 N:=N
 s₀:=s
 H₀:=yU H (cl.map (·.2))
 env:=tJ qual scope s.heap.objs.size f cd cl
 outer:=outer
 stack:=tJ qual scope s.heap.objs.size f cd cl::outer
 ex:=[]
 calm:=true
 fn:=fun _=>false
 pn:=[]
 xe:=fun e s'=>wpAny (model P w) (A.deeper (tJ qual scope s.heap.objs.size f cd cl)) (leaving (tJ qual scope s.heap.objs.size f cd cl) e) (fun _ s''=>CX outer H s E e s'') (fun e' s''=>CX outer H s E e' s'') s'
theorem vJ{x:Str}{v:Value}:∀{P:lS}{vs:List Value}{i:Nat},P.Nodup->P[i]?=some x->vs[i]?=some v->(P.zip vs).reverse.lookup x=some v
 |[],_,_,_,h,_=>by simp at h
 |_::_,[],_,_,_,h=>by simp at h
 |p::P,w::vs,0,nd,h1,h2=>by
  simp at h1 h2;subst h1;subst h2
  have hn:∀y∈(P.zip vs).reverse,y.1≠p:=fun y hy z=>(uW.mp nd).1 (z ▸ (UC (List.mem_reverse.mp hy)).1);rw[UV,List.reverse_cons,List.lookup_append]
  have:(P.zip vs).reverse.lookup p=none:=List.lookup_eq_none_iff.mpr fun y hy=>by simpa using fun z=>hn y hy z.symm
  rw[this];simp
 |p::P,w::vs,i+1,nd,h1,h2=>by
  rw[UV,List.reverse_cons,List.lookup_append,vJ (i:=i) (uW.mp nd).2 (by simpa using h1) (by simpa using h2)]
  rfl
theorem yD(hc:∀a∈as,∃v,Cel H a v){u:HO}(e:H b=some u)(n:∀o c v,u≠.frz o (CelO c v)):yU H as b=some u:=by
 rw[yw]
 ·exact e
 ·intro z
  obtain⟨v,o,q⟩:=hc b z;rw[e]at q;exact n _ _ _ (uQ.inj q)
theorem XF(hc:∀a∈as,∃v,Cel H a v)(x:HOk P w H h):HOk P w (yU H as) h:=fun b u e=>by
 have nb:b∉as:=fun z=>by rw[wz z]at e;cases e
 rw[yw nb]at e;exact(x b u e).stay (fun _ _ _ q=>q) (fun d q=>yD hc q (by intro _ _ _ z;cases z)) fun d xs q=>yD hc q (by intro _ _ _ z;cases z)
theorem zaf(hn:∀a∈as,H' a=none)(hk:∀a∈as,∀u,H a=some u->∃v o,u=.frz o (CelO a v)/\h.get? a=some o/\h'.get? a=some o)(x:HOk P w H h)(x':HOk P w H' h'):HOk P w (xo H' H as) h':=fun b u e=>by
 have up:∀d z,H' d=some z->xo H' H as d=some z:=fun d z q=>by
  rw[yP]
  ·exact q
  ·intro y;rw[hn d y]at q;cases q
 by_cases nb:b∈as
 ·rw[vi nb]at e
  obtain⟨v,o,rfl,e1,e2⟩:=hk b nb u e;obtain⟨_,⟨u',r,o',e3,d⟩,_⟩:=x b _ e;rw[e1]at e3;cases e3;exact VU e2 d r
 ·rw[yP nb]at e
  exact(x' b u e).stay (fun _ _ _ q=>q) (fun d q=>up d _ q) fun d xs q=>up d _ q
theorem zag{fs:List Addr}(hc:∀a∈as,∃v,Cel H a v)(u:Un fs [] (yU H as) H' h h')(hn:∀a∈as,H' a=none):Un fs [] H (xo H' H as) h h':=by
 have no:∀b,H b=none->b∉as:=fun b n z=>by
  obtain⟨v,o,q⟩:=hc b z;rw[n]at q;cases q
 have mk:∀b,H b=none->yU H as b=none:=fun b n=>by rw[yw (no b n)];exact n
 have up:∀d z,H' d=some z->xo H' H as d=some z:=fun d z q=>by
  rw[yP]
  ·exact q
  ·intro y;rw[hn d y]at q;cases q
 refine⟨fun b o e n hb hx=>u.keep b o e (mk b n) hb hx,fun b o e n hb hx=>u.slot b o e (mk b n) hb hx,fun b o e n hx=>?_,u.there,fun b xs e=>up _ _ (u.tups b xs (yD hc e (by intro _ _ _ z;cases z))),fun b o x e=>?_,fun b ps e=>?_⟩
 ·rw[yP (no b n)]
  exact u.free b o e (mk b n) hx
 ·by_cases z:b∈as
  ·rw[vi z];exact e
  ·rw[yP z]
   exact u.frzs b o x (by rw[yw z];exact e)
 ·obtain⟨more,q⟩:=u.tbls b ps (yD hc e (by intro _ _ _ z;cases z))
  exact⟨more,up _ _ q⟩
theorem zah{K:ua}{k:Nat}{body:Expr}{cl:List (Str×Addr)}
  {fs:lS} (S:LamScope N ps fs scope) (len:∀vs H Q E,sp vs H Q E->vs.length=ps.length)
  (hbody:∀(A:Around)(outer:List Env)(s:Shared)(H:Hp)(vs:List V)(Q:VK)(E:XK),Room k (A.deeper (tJ qual scope s.heap.objs.size f (.ref c) cl))->sp vs H Q E ->
   H f=some (FunO f (PySem.W.kla_fn name qual params body scope cl pm (.ref c) ct))/\H c=some (CodO c qual)/\∃fvs,Clo H cl fs fvs /\
   ∃t,jE (XE CX P w K mg base N qual scope f (.ref c) cl A outer s H E) body t/\t (vs.map some++fvs.map some) (yU H (cl.map (·.2))) fun v H'=>(∀a∈cl.map (·.2),H' a=none)->Q v (xo H' H (cl.map (·.2)))) :
  FnOk P w K mg base CX (k+1) f (PySem.W.kla_fn name qual params body scope cl pm (.ref c) ct) ps sp:=by
 refine⟨len,fun A outer s H args us vs Q E hr e0 hb r hsp=>?_⟩;have hl:=len _ _ _ _ hsp;have lim:s.heap.NoLimit:=e0.mod.nolimit.keeps fun b o e=>(e0.bs b o e).1;obtain⟨hf,hc,fvs,C,t,ht,hq⟩:=hbody A outer s H vs Q E (hr.deeper _) hsp;have of:=(e0.hok f _ hf).1;have oc:=(e0.hok c _ hc).1;have hcA:∀a∈cl.map (·.2),∃v,Cel H a v:=fun a ha=>by
  obtain⟨p,hp,rfl⟩:=uw.mp ha;exact C.all p hp
 have hcl:∀x a,cl.lookup x=some a->a∈cl.map (·.2):=fun x a e=>uw.mpr ⟨(x,a),Ue e,rfl⟩;refine PySem.W.kla_callFunE hr.depth of rfl S.co S.gen rfl oc (hb _ _ _ _ ?_);refine wpAny_newFunctionEnv S.nocell (fun y hy=>S.par _ (UC hy).1) (fun h₁ hns hsb=>?_) S.kind;have hk₁:∀b o,s.heap.get? b=some o->h₁.get? b=some o:=fun b o e=>hsb.extBut b o (uI (um e)) (ub _ e);refine⟨lim.keeps hk₁,PySem.W.kla_codeExpr ?_⟩;have isc:∀x a,cl.lookup x=some a->∃v,Cel H a v:=fun x a e=>hcA a (hcl x a e);have cget:∀a v,Cel H a v->∃u,RelV v u/\s.heap.IsCell a (some u):=fun a v ⟨o,q⟩=>(e0.hok a _ q).2.1;have I:Inv (XE CX P w K mg base N qual scope f (.ref c) cl A outer s H E) [] (vs.map some++fvs.map some) (yU H (cl.map (·.2))) { s with heap:=h₁,toks:=s.toks+(ps.zip us).length }:=by
  have noA:∀b:Addr,b∉(XE CX P w K mg base N qual scope f (.ref c) cl A outer s H E).ex:=fun b z=>absurd (show b∈([]:List Addr)from z) (by simp);have mnone:∀b,H b=none->yU H (cl.map (·.2)) b=none:=fun b e=>by
   unfold yU;split
   ·rfl
   ·exact e
  refine⟨⟨e0.mod,S.kind,rfl,rfl,ui _,fun y z a h1 h2=>C.inj y z a h1 h2,fun y hy=>?_,fun y a z=>absurd (show false=true from z) (by decide),fun _=>hr.hd,Around.frames_deeper e0.frames,.inr ⟨rfl,rfl⟩,fun b z=>absurd z (noA b),fun b o e=>⟨(e0.bs b o e).1,mnone _ (e0.bs b o e).2⟩,e0.bsz,fun b _ _=>noA b,fun b z=>absurd z (noA b),e0.funs,fun b hb=>mnone _ (e0.frf b hb)⟩,
   rfl,e0.bare,Un.kept hk₁,⟨_,hns,fun i y v h1 h2 h3=>?_⟩,fun y a h=>?_,mnone _ (e0.hok.fresh (ui _)),fun y a h=>wz (hcl y a h),fun p hp=>absurd (show p∈([]:List (Addr×Obj))from hp) (by simp),XF hcA (e0.hok.kept hk₁),?_⟩
  ·have hy:scope.names.lookup y=some .cell\/scope.names.lookup y=some .free:=hy
   rcases hy with hy|hy
   ·exact absurd rfl (S.nocell _ (Ue hy))
   ·exact C.has y (S.has _ (Ue hy) rfl)
  ·have h1:(ps++fs)[i]?=some y:=by rw[<- S.cat];exact h1
   have ndP:ps.Nodup:=by have:=S.nd;rw[S.cat]at this;exact(List.nodup_append.mp this).1
   by_cases hi:i < vs.length
   ·rw[uu (by simpa using hi),ux]at h2
    rw[uu (by lia)]at h1;cases e:vs[i]? with
    |none=>rw[e]at h2;cases h2
    |some a =>
     rw[e]at h2;cases h2;obtain⟨u,hu,rv⟩:=r.get e;exact⟨u,rv,.inl ⟨S.par y (uM h1),vJ ndP h1 hu⟩⟩
   ·rw[ut (by simpa using hi),ux]at h2
    rw[ut (by lia)]at h1;rw[uc,hl]at h2;cases e:fvs[i-ps.length]? with
    |none=>rw[e]at h2;cases h2
    |some a =>
     rw[e]at h2;cases h2;obtain⟨ca,g1,g2⟩:=C.get _ _ _ h1 e;obtain⟨u,rv,q⟩:=cget _ _ g2;exact⟨u,rv,.inr ⟨.inr (S.fre y (uM h1)),ca,g1,q.keeps hk₁⟩⟩
  ·obtain⟨v,q⟩:=isc y a h
   obtain⟨u,_,q⟩:=cget _ _ q;exact⟨_,q.keeps hk₁⟩
  ·show _=N.length
   rw[S.cat,uk,uk,uc,uc,C.len,hl]
 refine wpAny_mono (ht.out [] _ _ _ _ I hq) (fun u s' hs=>?_) fun e s' hs=>hs;obtain⟨v,H',J,rv,q⟩:=hs;have hn:∀a∈cl.map (·.2),H' a=none:=fun a ha=>by
  obtain⟨v,o,q⟩:=hcA a ha;obtain⟨e1,_⟩:=e0.hok a _ q;exact J.base.free a o e1 (wz ha) (by exact fun z=>absurd (show a∈([]:List Addr)from z) (by simp))
 refine⟨v,_,J.os,J.bare,zag hcA J.base hn,zaf hn (fun a ha u e=>?_) e0.hok J.hok,rv,q hn⟩;obtain⟨v',o,q'⟩:=hcA a ha;rw[q']at e;cases e;obtain⟨e1,_⟩:=e0.hok a _ q';refine⟨v',o,rfl,e1,J.base.keep a o e1 (wz ha) (fun z=>?_) (fun z=>absurd (show a∈([]:List Addr)from z) (by simp))⟩;rw[e0.frf a z]at q';cases q'
structure EndsR where
 nx:St->Hp->Prop
 rt:St->V->Hp->Prop
abbrev TR:=EndsR->St->Hp->Prop
def SPR(X:Cx)(D:EndsR)(f:Flow)(s':Shared):Prop :=
 match f with
 |.next=>∃σ' H',Inv X [] σ' H' s'/\D.nx σ' H'
 |.ret u=>∃v σ' H',Inv X [] σ' H' s'/\RelV v u/\D.rt σ' v H'
 |_=>False
structure jR(X:Cx)(st:List Stmt)(t:TR):Prop where
 out:∀(s:Shared)(σ:St)(H:Hp)(D:EndsR),Inv X [] σ H s->t D σ H->wpAny (model X.prog X.w) X.A (execs st X.env) (SPR X D) X.xe s
section
variable{rest A:List Stmt}{t:TS}{u tA:TR}{c:Expr}{tc:TT}
theorem VX(he:jE X e te):jR X [.Return (some e) pos] (fun D σ H=>te σ H (D.rt σ)):=⟨by
 intro s σ H D I h;refine wpAny_execs_cons (wpAny_Return_some (thn (he.out [] s σ H _ I h) fun v s1 hq_=>?_));obtain⟨x,H1,I1,r1,q1⟩:=hq_;exact⟨x,σ,H1,I1,r1,q1⟩⟩
def tIfR(tc:TT)(tA u:TR):TR:=fun D σ H=>tc σ H fun b H1=>if b=true then tA { D with nx:=u D } σ H1 else u D σ H1
theorem zdw(hc:jT X c tc)(hA:jR X A tA)(hR:jR X rest u):jR X (.If c A [] pos::rest) (tIfR tc tA u):=⟨by
 intro s σ H D I h;refine wpAny_execs_cons (wpAny_If (thn (hc.out [] s σ H _ I h) fun b s1 hq_=>?_));obtain⟨H1,I1,q1⟩:=hq_;cases b with
 |true =>
  rw[if_pos rfl]at q1;refine thn (hA.out s1 σ H1 { D with nx:=u D } I1 q1) fun f s2 q=>?_;cases f with
  |next =>
   obtain⟨σ',H',I',q⟩:=q;exact hR.out s2 σ' H' D I' q
  |ret v=>exact q
  |brk=>exact q
  |cont=>exact q
 |false =>
  rw[if_neg (by decide)]at q1;exact wpAny_execs_nil (hR.out s1 σ H1 D I1 q1)⟩
end
structure Pub(H H3:Hp)(cvs:List (Addr×V)):Prop where
 old:∀b,b∉cvs.map (·.1)->H3 b=H b
 non:∀p∈cvs,H p.1=none
 cel:∀p∈cvs,Cel H3 p.1 p.2
def CellsAt(X:Cx)(σ:St)(cvs:List (Addr×V)):Prop:=∀p∈cvs,∃(i:Nat)(x:Str),X.N[i]?=some x/\σ[i]?=some (some p.2)/\X.env.cells.lookup x=some p.1/\(X.env.scope.names.lookup x=some .cell\/X.env.scope.names.lookup x=some .free)
theorem CellsAt.cell{s:Shared}(I:Inv X pins σ H s)(h:CellsAt X σ cvs):∀p∈cvs,∃o u,s.heap.get? p.1=some o/\o.data=.cell (some u)/\RelV p.2 u:=fun p hp=>by
 obtain⟨i,x,e1,e2,e3,e4⟩:=h p hp;obtain⟨m,_,l⟩:=I.loc;obtain⟨u,r,l⟩:=l i x _ e1 e2 (.inr e4);rcases l with⟨k,_⟩|⟨_,c,q,o,e,d⟩
 ·have k:X.env.scope.names.lookup x=some .local:=k
  rcases e4 with e4|e4<;>rw[e4]at k<;>cases k
 ·rw[e3]at q;cases q
  exact⟨o,u,e,d,r⟩
def pubH(h:Heap)(H:Hp)(cvs:List (Addr×V)):Hp:=fun b=>match cvs.find? (fun p=>p.1 == b)with
 |some p=>some (.frz ((h.get? b).getD { cls:=.none,data:=.plain }) (CelO b p.2))
 |none=>H b
theorem YN(hb:b∈cvs.map (·.1)):∃v,(b,v)∈cvs/\pubH h H cvs b=some (.frz ((h.get? b).getD { cls:=.none,data:=.plain }) (CelO b v)):=by
 obtain⟨p,hp,rfl⟩:=uw.mp hb;cases e:cvs.find? (fun q=>q.1 == p.1)with
 |none=>exact absurd (tT.mp e p hp) (by simp)
 |some q =>
  have h1:=List.find?_some e;have h2:=UX e;have h3:q.1=p.1:=by simpa using h1
  refine⟨q.2,by rw[<- h3];exact h2,?_⟩;unfold pubH;rw[e]
theorem yW(hb:b∉cvs.map (·.1)):pubH h H cvs b=H b:=by
 unfold pubH;rw[tT.mpr fun p hp=>by simpa using fun z:p.1=b=>hb (uw.mpr ⟨p,hp,z⟩)]
section
variable{s:Shared}
theorem zai(I:Inv X pins σ H s)(h:CellsAt X σ cvs)(hN:X.N.Nodup){v v':V}(h1:(b,v)∈cvs)(h2:(b,v')∈cvs):v=v':=by
 obtain⟨i,x,e1,e2,e3,_⟩:=h _ h1;obtain⟨j,y,g1,g2,g3,_⟩:=h _ h2
 have:=I.ok.inj x y b e3 g3
 subst this
 have:i=j:=(List.getElem?_inj (ud.mp e1).1 hN).mp (e1.trans g1.symm)
 subst this;rw[e2]at g2;cases g2
 rfl
theorem VY(I:Inv X pins σ H s)(h:CellsAt X σ cvs)(hN:X.N.Nodup):Pub H (pubH s.heap H cvs) cvs :=
 ⟨fun b hb=>yW hb,fun p hp=>let ⟨_,x,_,_,e3,_⟩:=h p hp;I.freeC x _ e3,fun p hp=>by
  obtain⟨v,hv,e⟩:=YN (h:=s.heap) (H:=H) (uw.mpr ⟨p,hp,rfl⟩)
  have:=zai I h hN (b:=p.1) (v:=v) (v':=p.2) hv hp
  subst this;exact⟨_,e⟩⟩
theorem VZ(I:Inv X pins σ H s)(h:CellsAt X σ cvs):HOk X.prog X.w (pubH s.heap H cvs) s.heap:=fun b u e=>by
 have up:∀d z,H d=some z->pubH s.heap H cvs d=some z:=fun d z q=>by
  rw[yW]
  ·exact q
  ·intro y
   obtain⟨p,hp,rfl⟩:=uw.mp y;obtain⟨_,x,_,_,e3,_⟩:=h p hp;rw[I.freeC x _ e3]at q;cases q
 by_cases hb:b∈cvs.map (·.1)
 ·obtain⟨v,hv,e'⟩:=YN (h:=s.heap) (H:=H) hb
  rw[e']at e;cases e;obtain⟨o,u,e1,e2,r⟩:=h.cell I _ hv;have e1:s.heap.get? b=some o:=e1;rw[e1];exact VU e1 e2 r
 ·rw[yW hb]at e
  exact(I.hok b u e).stay (fun _ _ _ q=>q) (fun d q=>up d _ q) fun d xs q=>up d _ q
end
theorem zcF{K:ua}{k:Nat}{dV kV:Value} (lk:K.lookup f=some ⟨oc,od,.func (uP name qual params body scope dV kV doc pm an cdv ct),osl⟩) (hcd:Uf K cdv qual=true) (S:FnScope N ps scope)
  (len:∀vs H Q E,sp vs H Q E->vs.length=ps.length)
  (hbody:∀(A:Around)(outer:List Env)(s:Shared)(H:Hp)(vs:List V)(Q:VK)(E:XK),Room k (A.deeper (envOfC qual scope s.heap.objs.size f cdv))->sp vs H Q E->(∀b,s.heap.objs.size<=b->H b=none) ->
   ∃t,jR (cxOf CX P w K mg base N qual scope f cdv A outer s H E) body t/\t { nx:=fun _ H'=>Q .non H',rt:=fun σ v H'=>∃cvs,CellsAt (cxOf CX P w K mg base N qual scope f cdv A outer s H E) σ cvs/\∀H3,Pub H' H3 cvs->Q v H3 } (start N vs) H) :
  FnOk P w K mg base CX (k+1) f (uP name qual params body scope dV kV doc pm an cdv ct) ps sp:=by
 refine⟨len,fun A outer s H args us vs Q E hr e0 hb r hsp=>?_⟩;have hl:=len _ _ _ _ hsp;have KX:K.In s.heap:=e0.mod.kin.keeps fun b o e=>(e0.bs b o e).1;have lim:s.heap.NoLimit:=e0.mod.nolimit.keeps fun b o e=>(e0.bs b o e).1;have hkind:∀y∈ps.zip us,scope.names.lookup y.1=some .local\/(scope.names.lookup y.1=some .cell/\((cellsFrom (s.heap.objs.size+1) scope.names []).lookup y.1).isSome=true):=fun⟨n,v⟩ hy=>by
  rcases S.par n (UC hy).1 with q|q
  ·exact .inl q
  ·exact .inr ⟨q,PySem.W.cellsFrom_some _ _ _ (.inl q)⟩
 refine codeAny_call_function hr.depth (KX _ _ lk) rfl S.co S.gen rfl (PySem.W.codeRec_of KX hcd) (hb _ _ _ _ ?_);refine wpAny_newFunctionEnv_cells S.kind hkind fun env he s1 x=>?_;subst he;refine⟨lim.keeps x.toInCall.keep,codeAny_func ?_⟩;obtain⟨t,ht,hq⟩:=hbody A outer s H vs Q E (hr.deeper _) hsp fun b hb=>e0.hok.fresh hb;have I:Inv (cxOf CX P w K mg base N qual scope f cdv A outer s H E) [] (start N vs) H s1:=jt S hr.hd e0 hl r x;refine wpAny_mono (ht.out s1 (start N vs) H _ I hq) (fun fl s' hs=>?_) fun e s' hs=>hs;cases fl with
 |ret u =>
  obtain⟨v,σ',H',J,rv,cvs,hc,q⟩:=hs;have pb:=VY J hc S.nd;have q:=q _ pb;have ab:∀b,b∈cvs.map (·.1)->s.heap.objs.size<=b:=fun b hb=>by
   obtain⟨p,hp,rfl⟩:=uw.mp hb;obtain⟨_,x,_,_,e3,_⟩:=hc p hp;exact J.ok.cab x _ rfl e3
  have no:∀b o,H' b=some o->b∉cvs.map (·.1):=fun b o e hb=>by
   obtain⟨p,hp,rfl⟩:=uw.mp hb;rw[pb.non p hp]at e;cases e
  have un:Un (frs outer) [] H H' s.heap s'.heap:=J.base;refine⟨v,_,J.os,J.bare,⟨un.keep,un.slot,fun b o e n hx=>?_,un.there,fun b xs e=>?_,fun b o xs e=>?_,fun b p e=>?_⟩,VZ J hc,rv,q⟩
  ·rw[pb.old b fun z=>absurd (uv (um e) (ab b z)) (u7 _)]
   exact un.free b o e n hx
  ·have e':=un.tups b xs e
   rw[pb.old b (no b _ e')];exact e'
  ·have e':=un.frzs b o xs e
   rw[pb.old b (no b _ e')];exact e'
  ·obtain⟨more,e'⟩:=un.tbls b p e
   exact⟨more,by rw[pb.old b (no b _ e')];exact e'⟩
 |next =>
  obtain⟨σ',H',J,q⟩:=hs;exact⟨.non,H',J.os,J.bare,J.base,J.hok,rfl,q⟩
 |brk=>exact False.elim hs
 |cont=>exact False.elim hs
def zcG(X:Cx)(sp:Sp)(E:XK)(t:TA):TE:=fun σ H Q=>t σ H fun vs H1=>∃cvs,CellsAt X σ cvs/\∀H3,Pub H1 H3 cvs->sp vs H3 (fun r H4=>(∀p∈cvs,Cel H4 p.1 p.2)->Q r (yU H4 (cvs.map (·.1)))) E
theorem zcH{k:Nat}{E:XK}{t:TA}(F:Ca X.prog X.w X.K X.mg X.base CX0 k x ps sp)(hr:Room k X.A)(hN:X.N.Nodup)(hg:Gl X x)(hfn:∀x,X.fn x=true)(ha:jA X (e::es) t)
  (hdb:(x == ("__debug__":Str))=false:=by decide) (h1:zF e=false:=by rfl) (h2:es.all (fun e=>!zF e)=true:=by rfl) :
  jE X (.Call (.Name x p) (e::es) [] pos) (zcG X sp E t):=⟨by
 obtain⟨f,fd,F,hb,hk,hm⟩:=F.ex;intro pins s σ H Q I h;refine wpAny_Call_Name_kw (yE I hg hm ?_ hdb);refine UD (h₀:=X.base) I.ok.mod.kin hk (thn (ha.out pos pins s σ H _ I h) fun us s1 ⟨vs,H1,I1,r,cvs,hc,q⟩=>⟨I1.kIn,?_⟩) (zL h1) (yl h2);have pb:=VY I1 hc hN;have ok3:=VZ I1 hc;have q:=q _ pb;have hl:us.length=ps.length:=by rw[<- r.length];exact F.len _ _ _ _ q
 have nas:∀b o,H1 b=some o->b∉cvs.map (·.1):=fun b o e hb=>by
  obtain⟨p,hp,rfl⟩:=uw.mp hb;rw[pb.non p hp]at e;cases e
 have e0:Env0 X.prog X.w X.K X.mg X.base X.A X.stack s1 (pubH s1.heap H1 cvs):=by
  have z:=I1.env0;refine⟨z.frames,z.mod,fun b o e=>⟨(z.bs b o e).1,?_⟩,z.bsz,z.funs,fun b hb=>?_,ok3,z.bare⟩
  ·rw[yW]
   ·exact(z.bs b o e).2
   ·intro hb
    obtain⟨p,hp,rfl⟩:=uw.mp hb;obtain⟨_,y,_,_,e3,_⟩:=hc p hp;exact absurd (uv (um e) (uy I1.ok.bsz (I1.ok.cab y _ (hfn y) e3))) (u7 _)
  ·rw[yW]
   ·exact z.frf b hb
   ·intro hb'
    obtain⟨p,hp,rfl⟩:=uw.mp hb';obtain⟨_,y,_,_,e3,_⟩:=hc p hp;rcases uh.mp (I1.stkSub _ hb)with q|q
    ·exact I1.cne y _ e3 q
    ·obtain⟨_,o,ho,_⟩:=I1.ok.funs.mem q
     exact absurd (uv (um ho) (I1.ok.cab y _ (hfn y) e3)) (u7 _)
 refine wpAny_call (codeAny_mono (F.run X.A X.stack s1 _ ⟨us,[]⟩ us vs _ E hr e0 (by have:=hb s1 us I1.kIn (by simpa using hl);simpa using this) r q) fun r s' hq=>?_);cases r with
 |error e=>exact False.elim hq
 |ok fl =>
  cases fl with
  |next=>exact False.elim hq
  |brk=>exact False.elim hq
  |cont=>exact False.elim hq
  |ret u =>
   refine I1.after ?_;obtain⟨v,H4,os,bare,un,hok,rv,q⟩:=hq;have cel4:∀b,b∈cvs.map (·.1)->∃o v,s1.heap.get? b=some o/\s'.heap.get? b=some o/\H4 b=some (.frz o (CelO b v)):=fun b hb=>by
    obtain⟨v,hv,e⟩:=YN (h:=s1.heap) (H:=H1) hb;have e4:=un.frzs b _ _ e;exact⟨_,v,(ok3 b _ e).1,(hok b _ e4).1,e4⟩
   have hcA:∀a∈cvs.map (·.1),∃v,Cel H4 a v:=fun a ha=>let ⟨o,v,_,_,e⟩:=cel4 a ha;⟨v,o,e⟩
   have up:∀b o,H1 b=some o->pubH s1.heap H1 cvs b=some o:=fun b o e=>by rw[yW (nas b o e)];exact e
   refine⟨v,_,os,bare,⟨fun b o e n hb hx=>?_,fun b o e n hb hx=>?_,fun b o e n hx=>?_,un.there,fun b xs e=>?_,fun b o xs e=>?_,fun b p e=>?_⟩,XF hcA hok,rv,q fun p hp=>let ⟨o,e⟩:=pb.cel p hp;⟨o,un.frzs _ _ _ e⟩⟩
   ·by_cases hb':b∈cvs.map (·.1)
    ·obtain⟨o',_,e1,e2,_⟩:=cel4 b hb'
     rw[e]at e1;cases e1;exact e2
    ·exact un.keep b o e (by rw[yW hb'];exact n) hb hx
   ·by_cases hb':b∈cvs.map (·.1)
    ·obtain⟨o',_,e1,e2,_⟩:=cel4 b hb'
     rw[e]at e1;cases e1;exact⟨o.slots,e2⟩
    ·exact un.slot b o e (by rw[yW hb'];exact n) hb hx
   ·by_cases hb':b∈cvs.map (·.1)
    ·exact wz hb'
    ·rw[yw hb']
     exact un.free b o e (by rw[yW hb'];exact n) hx
   ·rw[yw (nas b _ e)]
    exact un.tups b xs (up _ _ e)
   ·rw[yw (nas b _ e)]
    exact un.frzs b o xs (up _ _ e)
   ·obtain⟨more,e'⟩:=un.tbls b p (up _ _ e)
    exact⟨more,by rw[yw (nas b _ e)];exact e'⟩⟩
def V0(P:Program)(w:World)(K:ua)(mg:Str->Option Value)(base:Heap)(k:Nat)(E:XK)(i:Nat)(t:TA):TE:=fun σ H Q=>∃f,σ[i]?=some (some (.ref f)) /\
 (((∃fd,H f=some (FunO f fd))/\t σ H fun vs H1=>∃fd ps sp,FnOk P w K mg base CX0 k f fd ps sp/\Binds K fd ps []/\H1 f=some (FunO f fd)/\sp vs H1 Q E) \/
   (uE K (.ref f)=true/\t σ H fun vs H1=>∃fd ps sp,FnOk P w K mg base CX0 k f fd ps sp/\Binds K fd ps []/\sp vs H1 Q E))
theorem Z0{k:Nat}{E:XK}{t:TA}(hr:Room k X.A)(hn:jE X (.Name x p) (tVar i))(hx:yv CX0 X E)(ha:jA X (e::es) t)(h1:zF e=false:=by rfl)(h2:es.all (fun e=>!zF e)=true:=by rfl):
  jE X (.Call (.Name x p) (e::es) [] pos) (V0 X.prog X.w X.K X.mg X.base k E i t):=⟨by
 intro pins s σ H Q I h;obtain⟨f,hf,h⟩:=h;refine wpAny_Call_Name_kw (thn (hn.out pins s σ H (fun v H1=>v=.ref f/\H1=H) I ⟨_,hf,rfl,rfl⟩) fun u s0 hq_=>?_);obtain⟨v,H0,I0,r0,e1,e2⟩:=hq_;subst e1;subst e2;cases r0;rcases h with⟨⟨fd,hF⟩,h⟩|⟨hk,h⟩
 ·refine PySem.W.callWith_F ⟨_,_,_,_,(I0.hok f _ hF).1⟩ (thn (ha.out pos pins s0 σ H0 _ I0 h) fun us s1 ⟨vs,H1,I1,r,fd,ps,sp,F,hb,hF1,q⟩=>⟨⟨_,_,_,_,(I1.hok f _ hF1).1⟩,?_⟩) (zL h1) (yl h2)
  exact wK F hr hb .nil hx I1 r (by rw[Uu];exact q)
 ·refine UD (h₀:=X.base) I0.ok.mod.kin hk (thn (ha.out pos pins s0 σ H0 _ I0 h) fun us s1 ⟨vs,H1,I1,r,fd,ps,sp,F,hb,q⟩=>⟨I1.kIn,?_⟩) (zL h1) (yl h2)
  exact wK F hr hb .nil hx I1 r (by rw[Uu];exact q)⟩
structure FunC(K:ua)(x:Str)(st:Stmt)(c f:Addr)(fd:FuncData):Prop where
 ex:∃(oc:Value)(od:Option Addr)(kV doc pm:Value)(an:Option Addr)(ct:Value)(osl:Array (Option Value)),fd=uP x x (zX st) (zO st) (zo st) .none kV doc pm an (.ref c) ct/\K.lookup f=some ⟨oc,od,.func fd,osl⟩/\Uf K (.ref c) x=true
section
variable{K:ua}{k:Nat}
theorem FunC.by(F:FunC K x st c f fd)(S:FnScope N ps (zo st))(len:∀vs H Q E,sp vs H Q E->vs.length=ps.length)
  (hbody:∀(A:Around)(outer:List Env)(s:Shared)(H:Hp)(vs:List V)(Q:VK)(E:XK),Room k (A.deeper (envOfC x (zo st) s.heap.objs.size f (.ref c)))->sp vs H Q E ->
   ∃t,jSs (cxOf CX0 P w K mg base N x (zo st) f (.ref c) A outer s H E).nox (zO st) t/\t { nx:=fun _ H'=>Q .non H',rt:=Q } (start N vs) H):FnOk P w K mg base CX0 (k+1) f fd ps sp:=by
 obtain⟨oc,od,kV,doc,pm,an,ct,osl,rfl,lk,hcd⟩:=F.ex;refine ZR lk hcd S len fun A outer s H vs Q E hr hsp=>?_;obtain⟨t,h,q⟩:=hbody A outer s H vs Q E hr hsp;exact⟨t,h.out.nox,q⟩
theorem FunC.byR(F:FunC K x st c f fd)(S:FnScope N ps (zo st))(len:∀vs H Q E,sp vs H Q E->vs.length=ps.length)
  (hbody:∀(A:Around)(outer:List Env)(s:Shared)(H:Hp)(vs:List V)(Q:VK)(E:XK),Room k (A.deeper (envOfC x (zo st) s.heap.objs.size f (.ref c)))->sp vs H Q E->(∀b,s.heap.objs.size<=b->H b=none) ->
   ∃t,jR (cxOf CX0 P w K mg base N x (zo st) f (.ref c) A outer s H E) (zO st) t/\t { nx:=fun _ H'=>Q .non H',rt:=fun σ v H'=>∃cvs,CellsAt (cxOf CX0 P w K mg base N x (zo st) f (.ref c) A outer s H E) σ cvs/\∀H3,Pub H' H3 cvs->Q v H3 } (start N vs) H) :
  FnOk P w K mg base CX0 (k+1) f fd ps sp:=by
 obtain⟨oc,od,kV,doc,pm,an,ct,osl,rfl,lk,hcd⟩:=F.ex;exact zcF lk hcd S len hbody
def DcIn(K:ua)(x:Str)(st:Stmt)(c:Addr):Prop:=∃f,uF K mainGlobals x=some (some (.ref f))/\∃(oc:Value)(od:Option Addr)(kV doc pm:Value)(an:Option Addr)(ct:Value)(osl:Array (Option Value)),K.lookup f=some ⟨oc,od,.func (uP x x (zX st) (zO st) (zo st) .none kV doc pm an (.ref c) ct),osl⟩/\Uf K (.ref c) x=true/\uE K (.ref f)=true
theorem DcIn.mk{kV:Value}(a:uF K mainGlobals x=some (some (.ref f)))(l:K.lookup f=some ⟨oc,od,.func (uP x x (zX st) (zO st) (zo st) .none kV doc pm an (.ref c) ct),osl⟩)(cc:Uf K (.ref c) x=true)(k:uE K (.ref f)=true):DcIn K x st c:=⟨f,a,oc,od,kV,doc,pm,an,ct,osl,l,cc,k⟩
theorem DcIn.ca(X:K.In h)(G:h.Ns mainGlobals mg)(d:DcIn K x st c)(hb:∀(kV doc pm:Value)(an:Option Addr)(ct:Value)(us:List Value),us.length=ps.length->bindArgs (uP x x (zX st) (zO st) (zo st) .none kV doc pm an (.ref c) ct) ⟨us,[]⟩=pure (ps.zip us))
  (ok:∀f fd,FunC K x st c f fd->FnOk P w K mg base CX0 k f fd ps sp):Ca P w K mg base CX0 k x ps sp:=by
 obtain⟨f,a,oc,od,kV,doc,pm,an,ct,osl,l,cc,kp⟩:=d;exact⟨f,_,ok f _ ⟨oc,od,kV,doc,pm,an,ct,osl,rfl,l,cc⟩,.all fun us hl=>hb kV doc pm an ct us hl,kp,Uk X G a⟩
end
def TbG(T:Addr)(ls:List (Pos×Str))(H:Hp):Prop:=∃ps,H T=some (.tbl ps)/\TriplesOk ps.toList/\∀p∈ls,codeAmong p.1 ps.toList=none\/∃c,codeAmong p.1 ps.toList=some (.ref c)/\H c=some (CodO c p.2)
theorem Wu{a b:Int}{c:Value}(l:List Value)(h:TriplesOk l):TriplesOk (l++[rawInt a,rawInt b,c]):=by
 fun_induction TriplesOk l with
 |case1=>trivial
 |case2 i t j u v rest ih=>exact ih h
 |case3=>exact False.elim h
theorem Z1{p':Pos}{c:Value}(l:List Value)(h:TriplesOk l)(n:¬ (p'.line=pos.line/\p'.col=pos.col)):codeAmong pos (l++[rawInt p'.line,rawInt p'.col,c])=codeAmong pos l:=by
 fun_induction TriplesOk l with
 |case1 =>
  show(if((p'.line:Nat):Int) == (pos.line:Nat) && ((p'.col:Nat):Int) == (pos.col:Nat)then some c else codeAmong pos [])=_;rw[if_neg];simp
  intro e e';exact n ⟨by lia,by lia⟩
 |case2 i t j u v rest ih =>
  show(if i == (pos.line:Nat) && j == (pos.col:Nat)then some v else codeAmong pos (rest++_))=if i == (pos.line:Nat) && j == (pos.col:Nat)then some v else codeAmong pos rest
  rw[ih h]
 |case3=>exact False.elim h
theorem Wv{p':Pos}(l:List Value)(n:p'.line=pos.line/\p'.col=pos.col):codeAmong pos l=codeAmong p' l:=by
 fun_induction codeAmong pos l with
 |case1 line _ col _ c rest h=>rw[codeAmong,n.1,n.2,if_pos h]
 |case2 line _ col _ c rest h ih=>rw[codeAmong,n.1,n.2,if_neg h];exact ih
 |case3 l h =>
  unfold codeAmong;split
  ·exact absurd rfl (h _ _ _ _ _ _)
  ·rfl
theorem TbG.keep(h:TbG T ls H)(kt:∀ps,H T=some (.tbl ps)->H' T=some (.tbl ps))(kc:∀c q,H c=some (CodO c q)->H' c=some (CodO c q)):TbG T ls H':=by
 obtain⟨ps,e,t,h⟩:=h;exact⟨ps,kt _ e,t,fun p hp=>(h p hp).imp_right fun⟨c,a,b⟩=>⟨c,a,kc _ _ b⟩⟩
theorem TbG.empty(h:H T=some (.tbl #[])):TbG T ls H:=⟨#[],h,trivial,fun p _=>.inl rfl⟩
theorem vK{body:Expr}{cl:List (Str×Addr)}(h:TbG T ls H)(hm:(pos,qual)∈ls)(hu:∀p∈ls,(pos.line=p.1.line/\pos.col=p.1.col)->p.2=qual)
  (q:∀H' f c ct,(∀b u,b≠T->H b=some u->H' b=some u)->TbG T ls H'->H f=none->f≠T->c≠T->H' f=some (FunO f (lamC mg qual params body scope cl c ct))->H' c=some (CodO c qual)->Q (.ref f) H'):VW mg T qual params body scope pos cl σ H Q:=by
 obtain⟨ps,hT,tr,ha⟩:=h;refine⟨ps,hT,tr,?_⟩;rcases ha _ hm with hn|⟨c,hs,hc⟩
 ·refine .inl ⟨hn,fun c f ct h1 h2 h3=>?_⟩
  have n1:T≠c:=zk hT h1;have n2:T≠f:=zk hT h2;have kp:∀b u,b≠T->H b=some u->upd (upd (upd H T (.tbl (ps ++ #[rawInt pos.line,rawInt pos.col,.ref c]))) c (CodO c qual)) f (FunO f (lamC mg qual params body scope cl c ct)) b=some u:=fun b u n e=>by rw[zh (zk e h2),zh (zk e h1),zh n];exact e
  have e2:upd (upd (upd H T (.tbl (ps ++ #[rawInt pos.line,rawInt pos.col,.ref c]))) c (CodO c qual)) f (FunO f (lamC mg qual params body scope cl c ct)) c=some (CodO c qual):=by rw[zh h3.symm];exact zg
  refine q _ f c ct kp ⟨_,by rw[zh n2,zh n1];exact zg,?_,fun p hp=>?_⟩ h2 n2.symm n1.symm zg e2
  ·rw[Array.toList_append]
   exact Wu _ tr
  ·rw[Array.toList_append]
   by_cases z:pos.line=p.1.line/\pos.col=p.1.col
   ·refine .inr ⟨c,?_,by rw[e2,hu p hp z]⟩
    rw[Wv _ z];exact codeAmong_snoc _ tr hn
   ·rw[show(#[rawInt pos.line,rawInt pos.col,Value.ref c]:Array Value).toList=[rawInt pos.line,rawInt pos.col,.ref c]from rfl,Z1 _ tr z]
    refine(ha p hp).imp_right fun⟨d,a,b⟩=>⟨d,a,kp _ _ (fun w=>?_) b⟩;rw[w,hT]at b;cases b
 ·refine .inr ⟨c,hs,fun f ct h2=>?_⟩
  have kp:∀b u,H b=some u->upd H f (FunO f (lamC mg qual params body scope cl c ct)) b=some u:=fun b u e=>by rw[zh (zk e h2)];exact e
  refine q _ f c ct (fun b u _ e=>kp b u e) ⟨ps,kp _ _ hT,tr,fun p hp=>(ha p hp).imp_right fun⟨d,a,b⟩=>⟨d,a,kp _ _ b⟩⟩ h2 (zk hT h2).symm (fun w=>?_) zg (kp _ _ hc);rw[w,hT]at hc;cases hc
structure FunMc(K:ua)(x qual:Str)(st:Stmt)(c f:Addr)(fd:FuncData):Prop where
 ex:∃(oc:Value)(od:Option Addr)(kV doc pm:Value)(an:Option Addr)(ct:Value)(osl:Array (Option Value)),fd=uP x qual (zX st) (zO st) (zo st) .none kV doc pm an (.ref c) ct/\K.lookup f=some ⟨oc,od,.func fd,osl⟩/\Uf K (.ref c) qual=true
def McIn(K:ua)(C:Addr)(x qual:Str)(st:Stmt)(c:Addr):Prop:=∃f,uj K (.ref C) x=some (some (.ref f))/\U3 K (.ref f)=true/\∃(oc:Value)(od:Option Addr)(kV doc pm:Value)(an:Option Addr)(ct:Value)(osl:Array (Option Value)),K.lookup f=some ⟨oc,od,.func (uP x qual (zX st) (zO st) (zo st) .none kV doc pm an (.ref c) ct),osl⟩/\Uf K (.ref c) qual=true/\uE K (.ref f)=true
theorem McIn.mk{K:ua}{kV:Value}(a:uj K (.ref C) x=some (some (.ref f)))(l:K.lookup f=some ⟨oc,od,.func (uP x qual (zX st) (zO st) (zo st) .none kV doc pm an (.ref c) ct),osl⟩)(cc:Uf K (.ref c) qual=true)(k:uE K (.ref f)=true)(n:U3 K (.ref f)=true):McIn K C x qual st c:=⟨f,a,n,oc,od,kV,doc,pm,an,ct,osl,l,cc,k⟩
section
variable{K:ua}{k:Nat}
theorem FunMc.by(F:FunMc K x qual st c f fd)(S:FnScope N ps (zo st))(len:∀vs H Q E,sp vs H Q E->vs.length=ps.length)
  (hbody:∀(A:Around)(outer:List Env)(s:Shared)(H:Hp)(vs:List V)(Q:VK)(E:XK),Room k (A.deeper (envOfC qual (zo st) s.heap.objs.size f (.ref c)))->sp vs H Q E ->
   ∃t,jSs (cxOf CX0 P w K mg base N qual (zo st) f (.ref c) A outer s H E).nox (zO st) t/\t { nx:=fun _ H'=>Q .non H',rt:=Q } (start N vs) H):FnOk P w K mg base CX0 (k+1) f fd ps sp:=by
 obtain⟨oc,od,kV,doc,pm,an,ct,osl,rfl,lk,hcd⟩:=F.ex;refine ZR lk hcd S len fun A outer s H vs Q E hr hsp=>?_;obtain⟨t,h,q⟩:=hbody A outer s H vs Q E hr hsp;exact⟨t,h.out.nox,q⟩
theorem McIn.me(d:McIn K C x qual st c)(hb:∀(kV doc pm:Value)(an:Option Addr)(ct:Value)(us:List Value),us.length=ps.length->bindArgs (uP x qual (zX st) (zO st) (zo st) .none kV doc pm an (.ref c) ct) ⟨us,[]⟩=pure (ps.zip us))
  (ok:∀f fd,FunMc K x qual st c f fd->FnOk P w K mg base CX k f fd ps sp):Me P w K mg base CX k C x ps sp:=by
 obtain⟨f,a,n,oc,od,kV,doc,pm,an,ct,osl,l,cc,kp⟩:=d;exact⟨f,_,ok f _ ⟨oc,od,kV,doc,pm,an,ct,osl,rfl,l,cc⟩,.all fun us hl=>hb kV doc pm an ct us hl,⟨a,n,kp⟩⟩
end
end L2
namespace L2
open PySem
variable{a:Expr}{σ:List (Option V)}{i:Int}
section
variable{a b c d e u:TS}
theorem cut1(h:∀v:TS,u=v->(tSeq a v:TS) D σ H):(tSeq a u:TS) D σ H:=h u rfl
theorem cut2(h:∀v:TS,u=v->(tSeq a (tSeq b v):TS) D σ H):(tSeq a (tSeq b u):TS) D σ H:=h u rfl
theorem cut3(h:∀v:TS,u=v->(tSeq a (tSeq b (tSeq c v)):TS) D σ H):(tSeq a (tSeq b (tSeq c u)):TS) D σ H:=h u rfl
theorem cut4(h:∀v:TS,u=v->(tSeq a (tSeq b (tSeq c (tSeq d v))):TS) D σ H):(tSeq a (tSeq b (tSeq c (tSeq d u))):TS) D σ H:=h u rfl
theorem ixT{K:ua}{Q:VK}{p:Addr}{v:V}(h:H p=some (.tup xs))(a:atI xs i=some v)(q:Q v H):tC (.int i) σ H fun y H2=>rIxT K (.ref p) y H2 Q:=⟨p,xs,i,v,rfl,rfl,SqT.of h,a,q⟩
theorem ixL{K:ua}{Q:VK}{p:Addr}{v:V}(h:H p=some (.lst xs))(a:atI xs i=some v)(q:Q v H):tC (.int i) σ H fun y H2=>rIxL K (.ref p) y H2 Q:=⟨p,xs,i,v,rfl,rfl,SqL.of h,a,q⟩
theorem nxtC{E:Ends}(h:E.nx σ H):wX E σ H:=h
end
section
variable{a b c d:TS}{u:TR}{D:EndsR}
theorem zdx{t:TS}{D:Ends}(h:∀E:Ends,D=E->t E σ H):t D σ H:=h D rfl
theorem zx{α β:Type}{a:α->Prop}{b c:α->β->Prop}{w:α}{v:β}(h:a w)(i:b w v)(k:c w v):∃x,a x/\∃y,b x y/\c x y:=⟨w,h,v,i,k⟩
end
theorem zC(K:ua){j}(ha:jE X a ta)(h:X.K=K:=by rfl):jE X (.Subscript a (.Constant (.int i) j p) pos) (tOp (rIxT K) ta (tC (.int i))):=zR (XC K h) ha zp (fun _ _=>rfl)
theorem Zc(K:ua){j}(ha:jE X a ta)(h:X.K=K:=by rfl):jE X (.Subscript a (.Constant (.int i) j p) pos) (tOp (rIxL K) ta (tC (.int i))):=zR (zA K h) ha zp (fun _ _=>rfl)
theorem zbr{K:ua}{σ:St}{A B:TS}{p:Addr}{w0 w1:Str}{rest:List V}(h0:σ[0]?=some (some (.ref p)))(hp:H p=some (.tup (.str w0::rest)))(k:A D σ H)(e:decide (V.str w0=V.str w1)=true:=by rfl):tIfS (wn (tOp rEq (tOp (rIxT K) (tVar 0) (tC (.int 0))) (tC (.str w1)))) A B D σ H:=⟨_,h0,ixT hp (zq (j:=0) rfl) ⟨rfl,_,rfl,by rw[e];exact k⟩⟩
theorem zbs{K:ua}{σ:St}{A:TS}{p:Addr}{w0 w1:Str}{rest:List V}(h0:σ[0]?=some (some (.ref p)))(hp:H p=some (.tup (.str w0::rest)))(k:D.nx σ H)(e:decide (V.str w0=V.str w1)=false:=by rfl):tIfS (wn (tOp rEq (tOp (rIxT K) (tVar 0) (tC (.int 0))) (tC (.str w1)))) A wX D σ H:=⟨_,h0,ixT hp (zq (j:=0) rfl) ⟨rfl,_,rfl,by rw[e];exact k⟩⟩
theorem Zd(K:ua){l:Expr}(hl:jE X l tl)(h:X.K=K:=by rfl):jI X tg l (iTup K tl):=h ▸ YE hl
theorem xp(K:ua){l:Expr}(hl:jE X l tl)(h:X.K=K:=by rfl):jI X tg l (Ve K tl):=h ▸ QV hl
theorem zaj(K:ua){b:Expr}{t:TA}(hg:Gl X "zip")(hm:X.mg "zip"=none)(ha:jA X [a,b] t)(h1:zF a=false:=by rfl)(h2:zF b=false:=by rfl)(h:X.K=K:=by rfl):jI X (.Tuple elts n tpos) (.Call (.Name "zip" p) [a,b] [] pos) (iZip K t):=h ▸ VO hg hm ha h1 h2
end L2
namespace L2
open PySem PySem.Spec PyProof.Rows
variable{m:Bool}{xs:List (List Key×Addr×Value)}{Q:VSP}{y v:V}{vs:List Bool}
theorem vL(a b c:Value):checkTypeCall "zip" ⟨[a,b,c],[]⟩=pure ():=by kernel_rfl
theorem ji(a b c:Value):checkBuiltinCall "zip.__new__" ⟨[.type "zip",a,b,c],[]⟩=pure ():=by kernel_rfl
theorem wj(a b c d:Value):argsOk "object.__init__" ⟨[a,b,c,d],[]⟩:=by
 unfold argsOk;rw[signature?_of (id:="object.__init__") (n:=['_','_','t','i','n','i','_','_']) (o:=['t','c','e','j','b','o']) (by kernel_rfl) F.owner_object];kernel_rfl
abbrev yb(k m e:Bool)(h:Heap)(l r t:Addr):Heap:=za e (zb k m h l r) t
abbrev yc(k m e:Bool)(h:Heap)(l r t:Addr):Heap:=(yb k m e h l r t).push { cls:=.type "tuple",data:=.seq #[.ref h.objs.size,.ref (za k h l).objs.size,.ref (zb k m h l r).objs.size] }
abbrev yd(k m e:Bool)(h:Heap)(l r t:Addr):Heap:=(yc k m e h l r t).push { cls:=.type "tuple",data:=.seq #[.none,.none,.none] }
abbrev ye(k m e:Bool)(h:Heap)(l r t:Addr):Heap:=(yd k m e h l r t).push { cls:=.type "zip",data:=.fields #[.none,.bool false,.bool false,.ref (yb k m e h l r t).objs.size,.ref (yc k m e h l r t).objs.size] }
theorem Ww(k m e:Bool)(l r t:Addr)(xs ys zs:Array Value):Meets (Builtin.«zip.__new__» ⟨[.type "zip",.ref l,.ref r,.ref t],[]⟩)
  (fun _ R s=>Sq k s.heap l xs/\Sq m s.heap r ys/\Sq e s.heap t zs/\R (.ok (.ret (.ref (yd k m e s.heap l r t).objs.size))) { s with heap:=ye k m e s.heap l r t }) :=
 .of_wp fun prog w A R s h=>by
  obtain⟨hp,g,d,tk,os⟩:=s;obtain⟨h1,h2,h3,h⟩:=h;have hs:=sub_zip;have q1:Sq k (Shared.heap ⟨hp,g,d,tk,os⟩) l xs:=h1;have q2:Sq m (Shared.heap ⟨za k hp l,g,d,tk,os⟩) r ys:=h2.at fun o e=>ub _ e;have q3:Sq e (Shared.heap ⟨zb k m hp l r,g,d,tk,os⟩) t zs:=h3.at fun o e=>ub _ (ub _ e)
  wp_walk using wy q1,wy q2,wy q3
  exact⟨_,rfl,h⟩
section
variable{E:VSP}{s:Shared}{k e:Bool}{l r t:Nat}{xs ys zs:Array Value}
theorem Wx(hl:Sq k s.heap l xs)(hr:Sq m s.heap r ys)(ht:Sq e s.heap t zs)
  (q:∀h',ZN [(k,l),(m,r),(e,t)] h' s.heap.objs.size 0 .none (.bool false)->h'.objs.size=s.heap.objs.size+6->(∀c o,s.heap.get? c=some o->h'.get? c=some o)->Q (.ref (s.heap.objs.size+5)) { s with heap:=h' }) :
  wpAny (model P w) A (call (.type "zip") [.ref l,.ref r,.ref t]) Q E s:=by
 apply callType_new F.called_zip (by decide) (vL _ _ _) (ji _ _ _) (fun obj=>wj obj _ _ _) F.entry_zip_new (Ww k m e l r t xs ys zs)
 refine⟨hl,hr,ht,?_⟩;have s1:(za k s.heap l).objs.size=s.heap.objs.size+1:=uX ..;have s2:(zb k m s.heap l r).objs.size=s.heap.objs.size+2:=by rw[uX,s1]
 have s3:(yb k m e s.heap l r t).objs.size=s.heap.objs.size+3:=by rw[uX,s2]
 have s4:(yc k m e s.heap l r t).objs.size=s.heap.objs.size+4:=by rw[uX,s3]
 have s5:(yd k m e s.heap l r t).objs.size=s.heap.objs.size+5:=by rw[uX,s4]
 have s6:(ye k m e s.heap l r t).objs.size=s.heap.objs.size+6:=by rw[uX,s5]
 have up:∀{c o},(yd k m e s.heap l r t).get? c=some o->(ye k m e s.heap l r t).get? c=some o:=fun e=>ub _ e;have p6:(ye k m e s.heap l r t).get? (yd k m e s.heap l r t).objs.size=some _:=uo _ rfl;have p5:(ye k m e s.heap l r t).get? (yc k m e s.heap l r t).objs.size=some _:=up (uo _ rfl);have p4:(ye k m e s.heap l r t).get? (yb k m e s.heap l r t).objs.size=some _:=up (ub _ (uo _ rfl));have p3:(ye k m e s.heap l r t).get? (zb k m s.heap l r).objs.size=some _:=up (ub _ (ub _ (uo _ rfl)));have p2:(ye k m e s.heap l r t).get? (za k s.heap l).objs.size=some _:=up (ub _ (ub _ (ub _ (uo _ rfl))));have p1:(ye k m e s.heap l r t).get? s.heap.objs.size=some _:=up (ub _ (ub _ (ub _ (ub _ (uo _ rfl)))));rw[s5,s3,s4]at p6;rw[s4]at p5;rw[s3,s1,s2]at p4;rw[s2]at p3;rw[s1]at p2;show _/\_;rw[s5];exact⟨⟨_,p6,rfl⟩,q _ ⟨p6,p4,⟨_,rfl,p5⟩,fun j k' l' hj=>by
  match j,hj with
  |0,hj=>cases hj;exact .of ⟨_,p1,rfl,rfl⟩
  |1,hj=>cases hj;exact .of ⟨_,p2,rfl,rfl⟩
  |2,hj=>cases hj;exact .of ⟨_,p3,rfl,rfl⟩⟩ s6 fun c o e=>up (ub _ (ub _ (ub _ (ub _ (ub _ e)))))⟩
end
abbrev It3(K:ua)(k m e:Bool)(a b c:Addr):It:=ItN K [(k,a),(m,b),(e,c)]
section
variable{K:ua}{k e:Bool}{xs ys zs:List V}{x z:V}
theorem go3(q1:SqK k K H a xs)(q2:SqK m K H b ys)(q3:SqK e K H c zs)(hx:xs[i]?=some x)(hy:ys[i]?=some y)(hz:zs[i]?=some z):(It3 K k m e a b c).go i H:=⟨[x,y,z],rfl,fun j k' a' hj=>by
 match j,hj with
 |0,hj=>cases hj;exact⟨xs,q1,hx⟩
 |1,hj=>cases hj;exact⟨ys,q2,hy⟩
 |2,hj=>cases hj;exact⟨zs,q3,hz⟩⟩
theorem zbt(q1:SqK k K H a xs)(q2:SqK m K H b ys)(q3:SqK e K H c zs)(h:xs.length<=i):(It3 K k m e a b c).stop i H:=⟨fun j k' a' hj=>by
 match j,hj with
 |0,hj=>cases hj;exact⟨xs,q1⟩
 |1,hj=>cases hj;exact⟨ys,q2⟩
 |2,hj=>cases hj;exact⟨zs,q3⟩,0,k,a,xs,rfl,q1,h⟩
theorem yld3(h:(It3 K k m e a b c).yld i H v H')(q1:SqK k K H a xs)(q2:SqK m K H b ys)(q3:SqK e K H c zs):∃T x y z,v=.ref T/\H T=none/\H'=upd H T (.tup [x,y,z])/\xs[i]?=some x/\ys[i]?=some y/\zs[i]?=some z:=by
 obtain⟨T,vs,h1,h2,h3,h4,h5⟩:=h;obtain⟨x,vs,rfl⟩:=Ul h4;obtain⟨y,vs,rfl⟩:=Ul (tO.inj h4);obtain⟨z,vs,rfl⟩:=Ul (tO.inj (tO.inj h4));rw[List.length_eq_zero_iff.mp (tO.inj (tO.inj (tO.inj h4)))]at h3 h5;exact⟨T,x,y,z,h1,h2,h3,h5 0 k a xs rfl q1,h5 1 m b ys rfl q2,h5 2 e c zs rfl q3⟩
end
theorem zdy{x z:V}(r:Vals [x,y,z] us):∃u v t,us=[u,v,t]/\RelV x u/\RelV y v/\RelV z t:=by
 cases r with
 |cons r1 r2 =>
  cases r2 with
  |cons r3 r4 =>
   cases r4 with
   |cons r5 r6=>cases r6;exact⟨_,_,_,rfl,r1,r3,r5⟩
def zbu(K:ua)(ta:TA):TI:=fun σ H R=>ta σ H fun vs H1=>∃a b c k m e xs ys zs,vs=[.ref a,.ref b,.ref c]/\SqK k K H1 a xs/\SqK m K H1 b ys/\SqK e K H1 c zs/\R (It3 K k m e a b c) H1
theorem zak{a b c:Expr}{ta:TA}(hg:Gl X "zip")(hm:X.mg "zip"=none)(ha:PA X [a,b,c] ta)(h1:starEach [a,b,c] X.env=[(false,eval a X.env),(false,eval b X.env),(false,eval c X.env)]:=by rfl)(h2:starEach [b,c] X.env=[(false,eval b X.env),(false,eval c X.env)]:=by rfl):
  PI X (.Tuple elts n tpos) (.Call (.Name "zip" p) [a,b,c] [] pos) (zbu X.K ta):=by
 intro pins s σ H R I h;refine Call_ (xy I hg hm boot_zip (Uv (thn (ha pos pins s σ H _ I h) fun us s1 g=>?_) (by rw[h1,h2]) (by rw[h2];rfl)));obtain⟨vs,H1,I1,r1,a1,b1,c1,k,m,e,xs,ys,zs,rfl,g1,g2,g3,q⟩:=g;obtain⟨u,u',u'',rfl,e1,e2,e3⟩:=zdy r1;cases e1;cases e2;cases e3;obtain⟨i1,v1,q1,z1,l1⟩:=I1.sqk g1;obtain⟨i2,v2,q2,z2,l2⟩:=I1.sqk g2;obtain⟨i3,v3,q3,z3,l3⟩:=I1.sqk g3;refine Wx q1 q2 q3 fun h' Z sz kp=>?_;have tz:=ZY (P:=X.prog) (w:=X.w) (K:=X.K) (elts:=elts) (n:=n) (pos:=tpos) (zs:=[(k,a1),(m,b1),(e,c1)]) (B:=s1.heap.objs.size) (by show 0 < 3;decide) (by show 3<=sizeLine;decide) fun j k' a' hj=>by
  match j,hj with
  |0,hj=>cases hj;exact l1
  |1,hj=>cases hj;exact l2
  |2,hj=>cases hj;exact l3
 refine tz.self X.A 0 { s1 with heap:=h' } _ _ Z ⟨s1.heap.objs.size+5,_,_,_,H1,rfl,I1.kept (t':=s1.toks) kp,tz,Z,fun c hc=>?_,q⟩;have le:s1.heap.objs.size<=c:=(fpN_iff.mp hc).1;exact I1.fpOk le (I1.hok.fresh le)
theorem Ze{a b c:Expr}{t:TA}(hg:Gl X "zip")(hm:X.mg "zip"=none)(ha:jA X [a,b,c] t)(h1:zF a=false:=by rfl)(h2:zF b=false:=by rfl)(h3:zF c=false:=by rfl):jI X (.Tuple elts n tpos) (.Call (.Name "zip" p) [a,b,c] [] pos) (zbu X.K t) :=
 ⟨zak hg hm ha.out (by rw[zL h1,zL h2,zL h3];rfl) (by rw[zL h2,zL h3];rfl)⟩
theorem V1{K:ua}{k e:Bool}{xs ys zs:List V}{tb:TS}(hlen:xs.length=ys.length)(hlen':xs.length=zs.length)(Pv:Nat->St->Hp->Prop)(h0:Pv 0 σ H)(hl:∀i σ H,i<=xs.length->Pv i σ H->SqK k K H a xs/\SqK m K H b ys/\SqK e K H c zs)
  (hs:∀i x y z T σ H,xs[i]?=some x->ys[i]?=some y->zs[i]?=some z->H T=none->Pv i σ H->g (.ref T) σ (upd H T (.tup [x,y,z])) fun σ2 H2=>tb { D with nx:=Pv (i+1),ct:=Pv (i+1),bk:=D.nx } σ2 H2) (hd:∀σ H,Pv xs.length σ H->D.nx σ H) :
  ∃W:Nat->Nat->St->Hp->Prop,(∃m,W 0 m σ H)/\∀i n σ H,W i n σ H ->
   ((It3 K k m e a b c).stop i H/\D.nx σ H)\/((It3 K k m e a b c).go i H/\∃N:St->Hp->Prop,(∀σ' H',N σ' H'->∃m',m' < n/\W (i+1) m' σ' H')/\∀x H',(It3 K k m e a b c).yld i H x H'->g x σ H' fun σ2 H2=>tb { D with nx:=N,ct:=N,bk:=D.nx } σ2 H2):=by
 refine⟨fun i m σ H=>m=xs.length-i/\i<=xs.length/\Pv i σ H,⟨xs.length,by simp,uU _,h0⟩,?_⟩;rintro i n σ H ⟨rfl,hi,p⟩;obtain⟨q1,q2,q3⟩:=hl i σ H hi p;by_cases hlt:i < xs.length
 ·refine .inr ⟨go3 q1 q2 q3 (uf hlt) (uf (hlen ▸ hlt)) (uf (hlen' ▸ hlt)),Pv (i+1),fun σ' H' p'=>⟨xs.length-(i+1),by lia,rfl,hlt,p'⟩,fun x H' yq=>?_⟩
  obtain⟨T,x,y,z,rfl,hT,rfl,e1,e2,e3⟩:=yld3 yq q1 q2 q3;exact hs i x y z T σ H e1 e2 e3 hT p
 ·have e:i=xs.length:=by lia
  subst e;exact .inl ⟨zbt q1 q2 q3 (ui _),hd σ H p⟩
section
variable{κ:Type}[DecidableEq κ]
def valV(kvs:List (κ×V))(k:κ):Option V:=(kvs.find? fun kv=>decide (kv.1=k)).map (·.2)
def putK(kvs:List (κ×V))(k:κ)(v:V):List (κ×V) :=
 if(kvs.any fun kv=>decide (kv.1=k))=true then kvs.map (fun kv=>if kv.1=k then(kv.1,v)else kv)else kvs++[(k,v)]
def yG(kvs:List (κ×V))(k:κ):List (κ×V):=kvs.filter fun kv=>decide (kv.1≠k)
theorem yh{p:κ×V}{r:List (κ×V)}{k:κ}(e:p.1=k):valV (p::r) k=some p.2:=by simp[valV,US,e]
theorem yn{p:κ×V}{r:List (κ×V)}{k:κ}(e:¬ p.1=k):valV (p::r) k=valV r k:=by simp[valV,US,e]
theorem wA(k:κ):∀kvs:List (κ×V),(kvs.any fun kv=>decide (kv.1=k))=(valV kvs k).isSome
 |[]=>rfl
 |p::r=>by
  rw[tN];by_cases e:p.1=k
  ·simp only[yh e,decide_eq_true e,Bool.true_or,Option.isSome_some]
  ·rw[yn e,decide_eq_false e,Bool.false_or];exact wA k r
theorem Z2(k j:κ)(y:V):∀kvs:List (κ×V),valV (kvs.map fun kv=>if kv.1=k then(kv.1,y)else kv) j=(valV kvs j).map fun x=>if j=k then y else x
 |[]=>rfl
 |p::r=>by
  have ih:=Z2 k j y r;rw[uC];by_cases h:p.1=k
  ·rw[if_pos h]
   by_cases e:p.1=j
   ·rw[yh (p:=(p.1,y)) e,yh e,UZ,if_pos (e.symm.trans h)]
   ·rw[yn (p:=(p.1,y)) e,yn e,ih]
  ·rw[if_neg h]
   by_cases e:p.1=j
   ·rw[yh (p:=p) e,yh e,UZ,if_neg (fun z=>h (e.trans z))]
   ·rw[yn (p:=p) e,yn e,ih]
theorem jC(k j:κ)(y:V):∀kvs:List (κ×V),valV kvs k=none->valV (kvs++[(k,y)]) j=if j=k then some y else valV kvs j
 |[],_=>by
  by_cases e:k=j
  ·rw[if_pos e.symm];exact yh (p:=(k,y)) e
  ·rw[if_neg (fun z=>e z.symm)];exact yn (p:=(k,y)) e
 |p::r,hn=>by
  rw[List.cons_append];have hk:¬ p.1=k:=fun z=>by rw[yh z]at hn;cases hn
  rw[yn hk]at hn;have ih:=jC k j y r hn;by_cases e:p.1=j
  ·rw[yh e,yh e,if_neg (fun z=>hk (e.trans z))]
  ·rw[yn e,yn e,ih]
theorem vM(kvs:List (κ×V))(k j:κ)(y:V):valV (putK kvs k y) j=if j=k then some y else valV kvs j:=by
 unfold putK;by_cases a:(kvs.any fun kv=>decide (kv.1=k))=true
 ·rw[if_pos a,Z2]
  rw[wA]at a;by_cases e:j=k
  ·obtain⟨x,hx⟩:=tM.mp a
   rw[if_pos e,e,hx,UZ,if_pos rfl]
  ·rw[if_neg e]
   cases valV kvs j with
   |none=>rfl
   |some x=>rw[UZ,if_neg e]
 ·rw[if_neg a]
  refine jC k j y kvs ?_;rw[wA]at a;cases q:valV kvs k with
  |none=>rfl
  |some x=>rw[q]at a;exact(a rfl).elim
theorem xK(kvs:List (κ×V))(k:κ)(v:V):(putK kvs k v).length<=kvs.length+1:=by
 unfold putK;split
 ·rw[uc];lia
 ·rw[uk,uJ,List.length_nil];lia
theorem RelO.isSome_eq{o:Option V}{u:Option Value}(r:RelO o u):o.isSome=u.isSome:=by
 cases o with
 |none=>cases u with
  |none=>rfl
  |some _=>exact(show False from r).elim
 |some _=>cases u with
  |none=>exact(show False from r).elim
  |some _=>rfl
theorem KV.val{kvs:List (κ×V)}{vs:List (κ×Value)}(r:KV kvs vs)(k:κ):RelO (valV kvs k) (valueAt vs k):=by
 unfold KV at r
 induction r with
 |nil=>exact True.intro
 |@cons p q ps qs h t ih =>
  obtain⟨h1,h2⟩:=h;by_cases e:p.1=k
  ·have e':q.1=k:=h1.symm.trans e
   have b:valueAt (q::qs) k=some q.2:=by simp[valueAt,US,e']
   rw[yh e,b];exact h2
  ·have e':¬ q.1=k:=fun z=>e (h1.trans z)
   have b:valueAt (q::qs) k=valueAt qs k:=by simp[valueAt,US,e']
   rw[yn e,b];exact ih
theorem KV.any{kvs:List (κ×V)}{vs:List (κ×Value)}(r:KV kvs vs)(k:κ):(kvs.any fun kv=>decide (kv.1=k))=vs.any fun kv=>decide (kv.1=k):=by
 unfold KV at r
 induction r with
 |nil=>rfl
 |cons h t ih=>rw[tN,tN,ih,h.1]
theorem KV.repl{kvs:List (κ×V)}{vs:List (κ×Value)}(r:KV kvs vs)(k:κ)(ry:RelV y u):
  KV (kvs.map fun kv=>if kv.1=k then(kv.1,y)else kv) (vs.map fun kv=>if kv.1=k then(kv.1,u)else kv):=by
 unfold KV at r ⊢
 induction r with
 |nil=>exact .nil
 |@cons p q ps qs h t ih =>
  rw[uC,uC];refine .cons ?_ ih;obtain⟨h1,h2⟩:=h;by_cases e:p.1=k
  ·rw[if_pos e,if_pos (h1.symm.trans e)];exact⟨h1,ry⟩
  ·rw[if_neg e,if_neg (fun z=>e (h1.trans z))];exact⟨h1,h2⟩
theorem KV.put{kvs:List (κ×V)}{vs:List (κ×Value)}(r:KV kvs vs)(k:κ)(ry:RelV y u):KV (putK kvs k y) (stored vs k u):=by
 unfold putK stored;rw[r.any k];by_cases e:(vs.any fun kv=>decide (kv.1=k))=true
 ·rw[if_pos e,if_pos e];exact r.repl k ry
 ·rw[if_neg e,if_neg e];exact Paired.snoc r ⟨rfl,ry⟩
theorem KV.drop{kvs:List (κ×V)}{vs:List (κ×Value)}(r:KV kvs vs)(k:κ):KV (yG kvs k) (without vs k):=by
 unfold KV at r ⊢;unfold yG without
 induction r with
 |nil=>exact .nil
 |@cons p q ps qs h t ih =>
  obtain⟨h1,h2⟩:=h;rw[List.filter_cons,List.filter_cons];by_cases e:p.1=k
  ·have a:¬ decide (p.1≠k)=true:=by simp[e]
   have b:¬ decide (q.1≠k)=true:=by simp[h1.symm.trans e]
   rw[if_neg a,if_neg b];exact ih
  ·have e':¬ q.1=k:=fun z=>e (h1.trans z)
   have a:decide (p.1≠k)=true:=by simp[e]
   have b:decide (q.1≠k)=true:=by simp[e']
   rw[if_pos a,if_pos b];exact .cons ⟨h1,h2⟩ ih
theorem KV.length{kvs:List (κ×V)}{vs:List (κ×Value)}(r:KV kvs vs):kvs.length=vs.length:=Paired.length r
theorem V2(kvs:List (κ×V))(k:κ):(yG kvs k).length<=kvs.length:=UL _ _
end
theorem vN{k:Key}(r:RelV (kV k) u):(zW P w).is k u=true:=by
 cases k with
 |inl i=>obtain⟨t,e⟩:=(show ∃t,u=Value.int i t from r);subst e;exact ZJ P w i t
 |inr x=>obtain⟨t,e⟩:=(show ∃t,u=Value.str x t from r);subst e;exact ZK P w x t
theorem jD{P:Program}{w:World}:∀{ks:List Key}{us:List Value},Vals (ks.map kV) us->ItemsAre (zW P w) ks us
 |[],_,r=>by rw[List.map_nil]at r;cases r;exact .nil
 |k::ks,_,r=>by
  rw[uC]at r;cases r with
  |cons h t=>exact .cons (vN h) (jD t)
abbrev KT(H:Hp):List (List Key×V)->List (List Key×Addr×Value)->Prop:=Paired fun p q=>p.1=q.1/\H q.2.1=some (.tup (p.1.map kV))/\RelV p.2 q.2.2
theorem KT.val{kvs:List (List Key×V)}(r:KT H kvs xs)(k:List Key):RelO (valV kvs k) ((atKey xs k).map (·.2)):=by
 induction r with
 |nil=>exact True.intro
 |@cons p q ps qs h t ih =>
  obtain⟨h1,_,h2⟩:=h;by_cases e:p.1=k
  ·have e':q.1=k:=h1.symm.trans e
   have b:atKey (q::qs) k=some q.2:=by simp[atKey,US,e']
   rw[yh e,b];exact h2
  ·have e':¬ q.1=k:=fun z=>e (h1.trans z)
   have b:atKey (q::qs) k=atKey qs k:=by simp[atKey,US,e']
   rw[yn e,b];exact ih
theorem KT.repl{kvs:List (List Key×V)}(r:KT H kvs xs)(k:List Key)(ry:RelV y u):
  KT H (kvs.map fun kv=>if kv.1=k then(kv.1,y)else kv) (xs.map (putAt k u)):=by
 induction r with
 |nil=>exact .nil
 |@cons p q ps qs h t ih =>
  rw[uC,uC];refine .cons ?_ ih;obtain⟨h1,h2,h3⟩:=h;unfold putAt;by_cases e:p.1=k
  ·rw[if_pos e,if_pos (h1.symm.trans e)];exact⟨h1,h2,ry⟩
  ·rw[if_neg e,if_neg (fun z=>e (h1.trans z))];exact⟨h1,h2,h3⟩
theorem KT.put{kvs:List (List Key×V)}(r:KT H kvs xs)(k:List Key)(hb:H b=some (.tup (k.map kV)))(ry:RelV y u):
  KT H (putK kvs k y) (storedH xs k b u):=by
 have e:(kvs.any fun kv=>decide (kv.1=k))=(atKey xs k).isSome:=by
  rw[wA,(r.val k).isSome_eq,Option.isSome_map]
 unfold putK storedH;rw[e];by_cases q:(atKey xs k).isSome=true
 ·rw[if_pos q,if_pos q];exact r.repl k ry
 ·rw[if_neg q,if_neg q];exact Paired.snoc r ⟨rfl,hb,ry⟩
theorem KT.keeps{kvs:List (List Key×V)}(r:KT H kvs xs)(ht:∀b ys,H b=some (.tup ys)->H' b=some (.tup ys)):KT H' kvs xs :=
 Paired.mapP r fun _ _ z=>⟨z.1,ht _ _ z.2.1,z.2.2⟩
theorem zbv{u:HO}(ok:HOk P w H h)(e:Rd H a u):ObjOk P w H h a u:=e.ok ok
theorem vO(ok:HOk P w H h)(e:Rd H a (.dK kvs)):kvs.length<=sizeLine/\(a == sysModules)=false/\∃vs,KV kvs vs/\h.DictOf (zW P w) a vs :=
 show ObjOk P w H h a (.dK kvs)from zbv ok e
theorem y8(ok:HOk P w H h)(e:H a=some (.dK kvs)):kvs.length<=sizeLine/\(a == sysModules)=false/\∃vs,KV kvs vs/\h.DictOf (zW P w) a vs:=vO ok (.inl e)
theorem vP{ks:List Key}(ok:HOk P w H h)(e:H a=some (.tup (ks.map kV))):(tupleKind (zW P w)).is h ks a:=by
 obtain⟨_,its,r,o,h1,h2,_,n,h3⟩:=(show ObjOk P w H h a (.tup (ks.map kV))from ok a _ e);exact⟨o,its.toArray,n,h1,h2,h3,by simpa using jD r⟩
theorem jF{kvs:List (List Key×V)}(ok:HOk P w H h)(e:Rd H a (.dT kvs)):kvs.length<=sizeLine/\(a == sysModules)=false /\
  ∃xs,KT H kvs xs/\h.DictOfH (tupleKind (zW P w)) a xs:=by
 obtain⟨z,y,xs,r,o,es,ep,h1,h2,h3,h4,h5⟩:=(show ObjOk P w H h a (.dT kvs)from zbv ok e);refine⟨z,y,xs,r,o,es,ep,h1,h2,h3,h4,fun x hx=>?_,h5⟩;have all:∀{l:List (List Key×V)}{m:List (List Key×Addr×Value)},KT H l m->∀x∈m,(tupleKind (zW P w)).is h x.1 x.2.1:=by
  intro l m q
  induction q with
  |nil=>intro x hx;exact nomatch hx
  |@cons p q ps qs hq t ih =>
   intro x hx;rcases uh.mp hx with e|hx
   ·subst e
    exact vP ok (by rw[<- hq.1];exact hq.2.1)
   ·exact ih x hx
 exact all r x hx
theorem zdz{kvs:List (List Key×V)}(ok:HOk P w H h)(e:H a=some (.dT kvs)):kvs.length<=sizeLine/\(a == sysModules)=false /\
  ∃xs,KT H kvs xs/\h.DictOfH (tupleKind (zW P w)) a xs:=jF ok (.inl e)
def DGet(H:Hp)(a:Addr)(y:V)(r:Option V):Prop :=
 (∃kvs k,Rd H a (.dK kvs)/\y=kV k/\r=valV kvs k)\/∃kvs k b,Rd H a (.dT kvs)/\y=.ref b/\H b=some (.tup (k.map kV))/\r=valV kvs k
def DPut(H:Hp)(a:Addr)(y v:V)(H':Hp):Prop :=
 (∃kvs k,H a=some (.dK kvs)/\y=kV k/\kvs.length < sizeLine/\H'=upd H a (.dK (putK kvs k v))) \/
 ∃kvs k b,H a=some (.dT kvs)/\y=.ref b/\H b=some (.tup (k.map kV))/\kvs.length < sizeLine/\H'=upd H a (.dT (putK kvs k v))
theorem DGet.k{k:Key}(e:H a=some (.dK kvs)):DGet H a (kV k) (valV kvs k):=.inl ⟨kvs,k,.inl e,rfl,rfl⟩
theorem DPut.k{k:Key}(e:H a=some (.dK kvs))(hl:kvs.length < sizeLine):DPut H a (kV k) v (upd H a (.dK (putK kvs k v))):=.inl ⟨kvs,k,e,rfl,hl,rfl⟩
section
variable{s:Shared}{r:Value}{o:Option V}{E:VSP}
theorem Inv.big(I:Inv X pins σ H s):sysModules < s.heap.objs.size:=by
 have h:mainGlobals < s.heap.objs.size:=(I.mod.glob.keeps I.bk).lt;exact Nat.lt_trans (by decide) h
theorem Wy(hu:A.units+1 < cLine)(I:Inv X pins σ H s)(g:DGet H a y (some v))(ry:RelV y u)(h:∀w' s',Inv X pins σ H s'->RelV v w'->Q w' s'):
  wpAny (model X.prog X.w) A (getItem (.ref a) u) Q E s:=by
 rcases g with⟨kvs,k,e,ey,l⟩|⟨kvs,k,b,e,ey,eb,l⟩
 ·subst ey
  obtain⟨z,hd,vs,rel,dd⟩:=vO I.hok e;obtain⟨w',hw,rw'⟩:=RelO.some_of (v:=v) (o:=valueAt vs k) (by rw[l];exact rel.val k);exact wpAny_getItem_of (vN ry) dd.mapOf hw (h w' _ (I.tok _) rw')
 ·subst ey
  cases(show u=Value.ref b from ry);obtain⟨z,hd,xs,rel,dd⟩:=jF I.hok e;obtain⟨w',hw,rw'⟩:=RelO.some_of (v:=v) (o:=(atKey xs k).map (·.2)) (by rw[l];exact rel.val k);obtain⟨p,hp,hp2⟩:=uz.mp hw;refine wpAny_getItem_heap (tupleKind_room_in1 hu) (vP I.hok eb) dd hp ?_;rw[hp2];exact h w' _ (I.tok _) rw'
theorem d_in(hu:A.units+1 < cLine)(I:Inv X pins σ H s)(g:DGet H a y o)(ry:RelV y u)(h:∀s',Inv X pins σ H s'->Q (.bool o.isSome) s'):
  wpAny (model X.prog X.w) A (compareOp .In u (.ref a)) Q E s:=by
 rcases g with⟨kvs,k,e,ey,l⟩|⟨kvs,k,b,e,ey,eb,l⟩
 ·subst ey
  obtain⟨z,hd,vs,rel,dd⟩:=vO I.hok e;refine wpAny_in_of (vN ry) hd dd.mapOf ?_;rw[<- (rel.val k).isSome_eq,<- l];exact h _ (I.tok _)
 ·subst ey
  cases(show u=Value.ref b from ry);obtain⟨z,hd,xs,rel,dd⟩:=jF I.hok e;refine wpAny_in_heap (tupleKind_room_in1 hu) (vP I.hok eb) hd dd ?_;have q:=(rel.val k).isSome_eq;rw[Option.isSome_map]at q;rw[<- q,<- l];exact h _ (I.tok _)
theorem zal(hu:A.units+1 < cLine)(I:Inv X pins σ H s)(g:DGet H a y o)(ry:RelV y u)(h:∀s',Inv X pins σ H s'->Q (.bool (!o.isSome)) s'):
  wpAny (model X.prog X.w) A (compareOp .NotIn u (.ref a)) Q E s:=by
 rcases g with⟨kvs,k,e,ey,l⟩|⟨kvs,k,b,e,ey,eb,l⟩
 ·subst ey
  obtain⟨z,hd,vs,rel,dd⟩:=vO I.hok e;refine wpAny_notIn_of (vN ry) hd dd.mapOf ?_;rw[<- (rel.val k).isSome_eq,<- l];exact h _ (I.tok _)
 ·subst ey
  cases(show u=Value.ref b from ry);obtain⟨z,hd,xs,rel,dd⟩:=jF I.hok e;refine wpAny_notIn_heap (tupleKind_room_in1 hu) (vP I.hok eb) hd dd ?_;have q:=(rel.val k).isSome_eq;rw[Option.isSome_map]at q;rw[<- q,<- l];exact h _ (I.tok _)
theorem wB{ob:HO}(I:Inv X pins σ H s)(mu:Mut (H a))(hs:Heap.SameBut a s.heap h')(he:∃q,h'.get? a=some q)(new:ObjOk X.prog X.w (upd H a ob) h' a ob):
  Inv X pins σ (upd H a ob) { s with heap:=h',toks:=t' } :=
 I.write (x:=a) (e:=a) mu (.inl rfl) (fun b q hb z=>(hs.2 b hb).trans z) he new
theorem Zf{vs:List (Key×Value)}(z:kvs.length<=sizeLine)(hd:(a == sysModules)=false)(rel:KV kvs vs)(dd:h'.DictOf (zW P w) a vs):
  ObjOk P w H' h' a (.dK kvs):=⟨z,hd,vs,rel,dd⟩
theorem Wz{Q:Unit->Shared->Prop}(hu:A.units+1 < cLine)(I:Inv X pins σ H s)(g:DPut H a y v H')(ry:RelV y u)(rv:RelV v r)(h:∀s',Inv X pins σ H' s'->Q () s'):
  wpAny (model X.prog X.w) A (setItem (.ref a) u r) Q E s:=by
 rcases g with⟨kvs,k,e,ey,l,eH⟩|⟨kvs,k,b,e,ey,eb,l,eH⟩
 ·subst ey eH
  obtain⟨z,hd,vs,rel,dd⟩:=y8 I.hok e;have hz:vs.length<=sizeLine:=by rw[<- rel.length];exact z
  have hl:(putK kvs k v).length<=sizeLine:=by have:=xK kvs k v;lia
  refine wpAny_setItem_pairs (hsz:=hz) (vN ry) dd fun h' dd' hs=>h _ ?_;have he:∃q,h'.get? a=some q:=let ⟨q,_,_,hq,_⟩:=dd';⟨q,hq⟩
  exact wB I (by rw[e];exact True.intro) hs he (Zf hl hd (rel.put k rv) dd')
 ·subst ey eH
  cases(show u=Value.ref b from ry);obtain⟨z,hd,xs,rel,dd⟩:=zdz I.hok e;have hz:xs.length<=sizeLine:=by rw[<- Paired.length rel];exact z
  have hl:(putK kvs k v).length<=sizeLine:=by have:=xK kvs k v;lia
  refine wpAny_setItem_heap (hsz:=hz) (tupleKind_room_in1 hu) (vP I.hok eb) dd fun h' dd' hs=>h _ ?_;obtain⟨q,es,ep,hq,h2,h3,h4,_,h5⟩:=dd';refine wB I (by rw[e];exact True.intro) hs ⟨q,hq⟩ ⟨hl,hd,_,(rel.put k eb rv).keeps fun c ys ec=>?_,q,es,ep,hq,h2,h3,h4,h5⟩;rw[zh (xY ec e (fun z=>nomatch z))];exact ec
end
section
variable{s:Shared}{k:Key}{E:VSP}
theorem zdA{more:List Value}(I:Inv X pins σ H s)(e:H a=some (.dK kvs))(ry:RelV (kV k) u)(l:valV kvs k=some v)(hm:more=[]\/∃x,more=[x])
  (h:∀w' s',Inv X pins σ (upd H a (.dK (yG kvs k))) s'->RelV v w'->Q w' s'):wpAny (model X.prog X.w) A (call (.builtin "dict.pop") (.ref a::u::more)) Q E s:=by
 obtain⟨z,hd,vs,rel,dd⟩:=y8 I.hok e;obtain⟨w',hw,rw'⟩:=RelO.some_of (v:=v) (o:=valueAt vs k) (by rw[<- l];exact rel.val k);have hp:(keyPart u).isSome=true:=by
  cases k with
  |inl i=>obtain⟨t,q⟩:=(show ∃t,u=Value.int i t from ry);subst q;rfl
  |inr x=>obtain⟨t,q⟩:=(show ∃t,u=Value.str x t from ry);subst q;rfl
 have ha:argsOk "dict.pop" ⟨.ref a::u::more,[]⟩:=by
  rcases hm with q|⟨x,q⟩
  ·subst q;exact PySem.F.args_dict_pop_2 _ _
  ·subst q;exact PySem.F.args_dict_pop_3 _ _ _
 refine call_meetsIn PySem.F.slot_dict_pop dd.typeIs PySem.F.entry_dict_pop ha (meets_dict_pop_there (zW X.prog X.w) a (vN ry) more hm hp)
  ⟨vs,w',dd,by rw[<- rel.length];exact z,hw,fun h' dd' hs=>h w' _ ?_ rw'⟩
 have he:∃q,h'.get? a=some q:=let ⟨q,_,_,hq,_⟩:=dd';⟨q,hq⟩
 exact wB I (by rw[e];exact True.intro) hs he (Zf (uy (V2 kvs k) z) hd (rel.drop k) dd')
theorem zdB(I:Inv X pins σ H s)(e:Rd H a (.dK kvs))(h:∀t s',Inv X pins σ H s'->Q (.int kvs.length t) s'):wpAny (model X.prog X.w) A (call (.builtin "len") [.ref a]) Q E s:=by
 obtain⟨z,hd,vs,rel,dd⟩:=vO I.hok e;refine call_len_dict hd dd (by rw[<- rel.length];rw[sizeLine_eq]at z;lia) ?_;rw[<- rel.length];exact h _ _ (I.tok _)
end
def NoSl(i:Expr):Prop:=∀ov iv,subscripted i false ov iv=operate [ov,iv] (getItem ov iv)
theorem zam{E:VSP}{s:Shared}{slice:Expr}{T id:String}
  (hl:typeLookup (.type T) "__getitem__"=pure (some (.builtin id))) (hs:NoSl slice)
  (h:wpAny (model prog w) A (eval value env) (fun o s₁=>wpAny (model prog w) A (eval slice env) (fun i s₂=>s₂.TypeIs o T/\wpAny (model prog w) A (getItem o i) Q E s₂) E s₁) E s) :
  wpAny (model prog w) A (eval (.Subscript value slice pos) env) Q E s:=by
 refine Subscript_ (wpAny_mono h (fun o s₁ h₁=>wpAny_mono h₁ (fun i s₂ h₂=>?_) fun _ _ x=>x) fun _ _ x=>x);obtain⟨hT,h₂⟩:=h₂;unfold subscriptTail;refine wpAny_bind ?_;rw[getitemInPython_of_ne hT.not_modules];refine wpAny_bind (wpAny_specialOf hT hl ?_);have fin:wpAny (model prog w) A (subscripted slice false o i) (fun r s₃=>wpAny (model prog w) A (letTemporaryGo value o r >>= fun _=>pure r) Q E s₃) E s₂:=by
  rw[hs o i];exact wpAny_operating (wpAny_mono h₂ (fun r s₃ h₃=>wpAny_bind (wpAny_letTemporaryGo (wpAny_pure h₃))) fun _ _ x=>x)
 first
  |exact wpAny_pure (wpAny_bind fin)
  |exact wpAny_bind (wpAny_pure (wpAny_bind fin))
  |exact wpAny_bind fin
theorem Z3{s:Shared}{o:Option V}(I:Inv X pins σ H s)(g:DGet H a y o):s.TypeIs (.ref a) "dict":=by
 rcases g with⟨kvs,k,e,_,_⟩|⟨kvs,k,b,e,_,_,_⟩
 ·obtain⟨_,_,vs,_,dd⟩:=vO I.hok e
  exact dd.typeIs
 ·obtain⟨_,_,xs,_,dd⟩:=jF I.hok e
  exact dd.typeIs
def XG(td ty:TE):TE:=fun σ H Q=>td σ H fun x H1=>ty σ H1 fun y H2=>∃a v,x=.ref a/\DGet H2 a y (some v)/\Q v H2
def tDIn(ty td:TE):TE:=fun σ H Q=>ty σ H fun y H1=>td σ H1 fun x H2=>∃a o,x=.ref a/\DGet H2 a y o/\Q (.bl o.isSome) H2
def XH(ty td:TE):TE:=fun σ H Q=>ty σ H fun y H1=>td σ H1 fun x H2=>∃a o,x=.ref a/\DGet H2 a y o/\Q (.bl (!o.isSome)) H2
def XI(td ty tv:TE):TS:=fun D σ H=>tv σ H fun v H1=>td σ H1 fun x H2=>ty σ H2 fun y H3=>∃a H4,x=.ref a/\DPut H3 a y v H4/\D.nx σ H4
section
variable{i:Expr}
theorem zan(hu:X.A.units+1 < cLine)(ho:PE X o td)(hi:PE X i ty)(hs:NoSl i):PE X (.Subscript o i pos) (XG td ty):=by
 intro pins s σ H Q I h;refine zam PySem.F.slot_dict_getitem.lookup hs (thn (ho pins s σ H _ I h) fun u s1 ⟨x,H1,I1,rx,q1⟩=>thn (hi pins s1 σ H1 _ I1 q1) fun iv s2 hq_=>?_);obtain⟨y,H2,I2,ry,a,v,ex,g,q2⟩:=hq_;subst ex;obtain rfl:u=Value.ref a:=rx;exact⟨Z3 I2 g,Wy hu I2 g ry fun w' s3 I3 rw'=>⟨v,H2,I3,rw',q2⟩⟩
theorem zcI(hu:X.A.units+1 < cLine)(hi:PE X i ty)(ho:PE X o td):PC X .In i o (tDIn ty td):=by
 intro pins s σ H Q I h;refine thn (hi pins s σ H _ I h) fun iv s1 ⟨y,H1,I1,ry,q1⟩=>thn (ho pins s1 σ H1 _ I1 q1) fun u s2 hq_=>?_;obtain⟨x,H2,I2,rx,a,ov,ex,g,q2⟩:=hq_;subst ex;obtain rfl:u=Value.ref a:=rx;exact d_in hu I2 g ry fun s3 I3=>⟨.bl ov.isSome,H2,I3,rfl,q2⟩
theorem WA(hu:X.A.units+1 < cLine)(hi:PE X i ty)(ho:PE X o td):PC X .NotIn i o (XH ty td):=by
 intro pins s σ H Q I h;refine thn (hi pins s σ H _ I h) fun iv s1 ⟨y,H1,I1,ry,q1⟩=>thn (ho pins s1 σ H1 _ I1 q1) fun u s2 hq_=>?_;obtain⟨x,H2,I2,rx,a,ov,ex,g,q2⟩:=hq_;subst ex;obtain rfl:u=Value.ref a:=rx;exact zal hu I2 g ry fun s3 I3=>⟨.bl (!ov.isSome),H2,I3,rfl,q2⟩
theorem zao(hu:X.A.units+1 < cLine)(ho:PE X o td)(hi:PE X i ty)(hv:PE X value tv)(hs:swapsWith value (some (.Subscript o i pos')) pos.line X.env=pure false):
  PS X (.Assign [.Subscript o i pos'] value pos) (XI td ty tv):=by
 intro pins s σ H D I h;refine wpAny_Assign_Subscript (thn (hv pins s σ H _ I h) fun r s1 ⟨v,H1,I1,rv,q1⟩=>thn (ho pins s1 σ H1 _ I1 q1) fun u s2 ⟨x,H2,I2,rx,q2⟩=>thn (hi pins s2 σ H2 _ I2 q2) fun iv s3 ⟨y,H3,I3,ry,a,H4,ex,g,q3⟩=>?_) hs;subst ex;obtain rfl:u=Value.ref a:=rx;exact Wz hu I3 g ry rv fun s4 I4=>⟨σ,H4,I4,q3⟩
end
theorem Z4(h:Heap)(hb:sysModules < h.objs.size):ObjOk P w H (h.push { cls:=.type "dict",data:=.dict #[] }) h.objs.size (.dK []) :=
 ⟨uU _,beq_eq_false_iff_ne.mpr (Ne.symm (uI hb)),[],.nil,Heap.DictOf.new h⟩
def V3:TE:=fun _ H Q=>∀p,H p=none->Q (.ref p) (upd H p (.dK []))
theorem V4:PE X (.Dict [] [] pos) V3:=fun pins s σ H Q I h =>
 wpAny_Dict_empty ⟨.ref s.heap.objs.size,_,I.laid (a:=s.heap.objs.size) (o:=.dK []) (t':=s.toks) (fun _ _ q=>ub _ q) (ui _) (Z4 s.heap I.big),rfl,h _ (I.hok.fresh (ui _))⟩
def YO:List (TE×TE)->St->Hp->(List (V×V)->Hp->Prop)->Prop
 |[],_,H,Q=>Q [] H
 | (tk,tv)::r,σ,H,Q=>tk σ H fun x H1=>tv σ H1 fun y H2=>YO r σ H2 fun ps H3=>Q ((x,y)::ps) H3
abbrev VV:List (V×V)->List (Value×Value)->Prop:=Paired fun p q=>RelV p.1 q.1/\RelV p.2 q.2
def PPs(X:Cx)(pos:Pos)(keys:List (Option Expr))(values:List Expr)(trs:List (TE×TE)):Prop :=
 ∀(pins:List (Addr×Obj))(s:Shared)(σ:St)(H:Hp)(Q:List (V×V)->Hp->Prop),Inv X pins σ H s->YO trs σ H Q ->
  wpAny (model X.prog X.w) X.A (evalPairs (pairTrees keys values X.env pos)) (fun vs s'=>∃ps H',Inv X pins σ H' s'/\VV ps vs/\Q ps H') X.xe s
theorem zap:PPs X pos [] [] []:=fun pins s σ H Q I h=>pairTrees_nil_walk ⟨[],H,I,.nil,h⟩
theorem V5{k v:Expr}{ks:List (Option Expr)}{vs:List Expr}{tk:TE}(hk:PE X k tk)(hv:PE X v tv)(hr:PPs X pos ks vs trs):
  PPs X pos (some k::ks) (v::vs) ((tk,tv)::trs):=fun pins s σ H Q I h =>
 pairTrees_cons_walk (thn (hk pins s σ H _ I h) fun u s1 ⟨x,H1,I1,rx,q1⟩=>thn (hv pins s1 σ H1 _ I1 q1) fun w2 s2 ⟨y,H2,I2,ry,q2⟩ =>
  thn (hr pins s2 σ H2 _ I2 q2) fun ws s3 ⟨ps,H3,I3,rel,q3⟩=>⟨(x,y)::ps,H3,I3,.cons ⟨rx,ry⟩ rel,q3⟩)
def yA(kvs more:List (Key×V)):List (Key×V):=more.foldl (fun acc kv=>putK acc kv.1 kv.2) kvs
theorem KV.merge:∀{more:List (Key×V)}{rs:List (Key×Value)}{kvs:List (Key×V)}{vs:List (Key×Value)},KV more rs->KV kvs vs->KV (yA kvs more) (merged vs rs):=by
 intro more rs kvs vs r;unfold KV at r
 induction r generalizing kvs vs with
 |nil=>intro q;exact q
 |@cons p q ps qs h t ih =>
  intro r0;have e:KV (putK kvs p.1 p.2) (stored vs q.1 q.2):=by
   have:=r0.put p.1 h.2
   rw[<- h.1];exact this
  exact ih e
theorem xh:∀(more kvs:List (Key×V)),(yA kvs more).length<=kvs.length+more.length
 |[],kvs=>by show kvs.length<=kvs.length+0;lia
 |p::r,kvs=>by
  have h1:=xh r (putK kvs p.1 p.2);have h2:=xK kvs p.1 p.2;show(yA (putK kvs p.1 p.2) r).length<=_;rw[uJ];lia
theorem vQ{P:Program}{w:World}:∀{kvs:List (Key×V)}{ws:List (Value×Value)},VV (kvs.map fun kv=>(kV kv.1,kv.2)) ws->∃rs,Carries (zW P w) ws rs/\KV kvs rs
 |[],_,r=>by rw[List.map_nil]at r;cases r;exact⟨[],True.intro,.nil⟩
 |p::kvs,_,r=>by
  rw[uC]at r;cases r with
  |@cons a b as bs h t =>
   obtain⟨rs,c,q⟩:=vQ (P:=P) (w:=w) t;obtain⟨b1,b2⟩:=b;exact⟨(p.1,b2)::rs,⟨vN h.1,rfl,c⟩,.cons ⟨rfl,h.2⟩ q⟩
def zbw(trs:List (TE×TE)):TE:=fun σ H Q=>∀p,H p=none->YO trs σ (upd H p (.dK [])) fun ps H2=>H2 p=some (.dK [])/\∃kvs:List (Key×V),ps=kvs.map (fun kv=>(kV kv.1,kv.2))/\kvs.length<=15/\Q (.ref p) (upd H2 p (.dK (yA [] kvs)))
theorem zaq{values:List Expr}(h:PPs X pos keys values trs)(hall:keys.all (·.isSome)=true)(hl:keys.length=values.length)(h0:keys≠[])
  (h15:keys.length<=15):PE X (.Dict keys values pos) (zbw trs):=by
 intro pins s σ H Q I q;have hn:=I.hok.fresh (ui s.heap.objs.size);have I1:=I.laid (a:=s.heap.objs.size) (o:=.dK []) (h':=s.heap.push { cls:=.type "dict",data:=.dict #[] }) (t':=s.toks) (fun _ _ q=>ub _ q) (ui _) (Z4 s.heap I.big);refine wpAny_Dict_walk (knd:=zW X.prog X.w) hall hl h0 h15 (thn (h pins _ σ _ _ I1 (q _ hn)) fun ws s2 hq_=>?_);obtain⟨ps,H2,I2,rel,e,kvs,ep,lk,q2⟩:=hq_;subst ep;obtain⟨rs,c,rk⟩:=vQ (P:=X.prog) (w:=X.w) rel;obtain⟨z,hd,vs0,r0,dd⟩:=y8 I2.hok e;cases r0;refine⟨rs,c,dd,fun h' dd' hs=>⟨.ref s.heap.objs.size,_,?_,rfl,q2⟩⟩;have hz:(yA [] kvs).length<=sizeLine:=by
  have h1:=xh kvs [];rw[List.length_nil]at h1;rw[sizeLine_eq];lia
 have he:∃q,h'.get? s.heap.objs.size=some q:=let ⟨q,_,_,hq,_⟩:=dd';⟨q,hq⟩
 exact wB I2 (by rw[e];exact True.intro) hs he (Zf hz hd (rk.merge .nil) dd')
structure M1(X:Cx)(o:Expr)(m:Str)(apos:Pos)(e:Expr)(cpos:Pos):Prop where
 base:attributeBase o m X.env (eval o X.env)=eval o X.env
 few:((backTo cpos (starEach [e] X.env)).all (fun x=>!x.1) && (backToKw cpos (keywordEach [] X.env)).all (fun x=>x.1.isSome)
  && decide (([e]:List Expr).length+([]:List Keyword).length+(if([]:List Keyword).isEmpty then 0 else 1) < 30))=true
 line:(apos.endLine == cpos.line)=true
 trees:backTo cpos (starEach [e] X.env)=[(false,eval e X.env)]
def IsD(H:Hp)(a:Addr):Prop:=(∃kvs,Rd H a (.dK kvs))\/∃kvs,Rd H a (.dT kvs)
theorem zcJ{s:Shared}(I:Inv X pins σ H s)(d:IsD H a):
  s.TypeIs (.ref a) "dict"/\(∀b,Value.ref a=.ref b->∃ob,s.heap.get? b=some ob/\ob.dict=none)/\(a == sysModules)=false:=by
 rcases d with⟨kvs,e⟩|⟨kvs,e⟩
 ·obtain⟨_,hd,vs,_,dd⟩:=vO I.hok e
  refine⟨dd.typeIs,fun b q=>?_,hd⟩;cases q;obtain⟨ob,_,_,h1,h2,_⟩:=dd;exact⟨ob,h1,h2.2.1⟩
 ·obtain⟨_,hd,xs,_,dd⟩:=jF I.hok e
  refine⟨dd.typeIs,fun b q=>?_,hd⟩;cases q;obtain⟨ob,_,_,h1,h2,_⟩:=dd;exact⟨ob,h1,h2.2.1⟩
def V6(td ty:TE):TE:=fun σ H Q=>td σ H fun x H1=>∃a,x=.ref a/\IsD H1 a/\ty σ H1 fun y H2=>∃kvs k v,H2 a=some (.dK kvs)/\y=kV k/\valV kvs k=some v/\Q v (upd H2 a (.dK (yG kvs k)))
section
variable{f:Expr}{tx:TE}
theorem V7(ho:PE X o td)(he:PE X e ty)(m:M1 X o "pop" apos e cpos):PE X (.Call (.Attribute o "pop" apos) [e] [] cpos) (V6 td ty):=by
 intro pins s σ H Q I h;refine wpAny_Call_method m.base m.few m.line U6 PySem.F.slot_dict_pop PySem.F.type_dict_pop (thn (ho pins s σ H _ I h) fun u s1 hq_=>?_);obtain⟨x,H1,I1,rx,a,ex,d,q1⟩:=hq_;subst ex;obtain rfl:u=Value.ref a:=rx;obtain⟨t1,t2,_⟩:=zcJ I1 d;refine⟨t1,t2,?_⟩;rw[m.trees];refine Calls.callWith_builtin rfl (Calls.evalArgs_plain (Calls.spliced_cons (thn (he pins s1 σ H1 _ I1 q1) fun iv s2 ⟨y,H2,I2,ry,kvs,k,v,ea,ey,l,q2⟩=>Calls.spliced_nil ?_)));subst ey;exact zdA I2 ea ry l (.inl rfl) fun w' s3 I3 rw'=>⟨v,_,I3,rw',q2⟩
end
theorem WB:yO X (.builtin "len") (fun xs H Q=>∃a kvs,xs=[V.ref a]/\H a=some (.dK kvs)/\Q (.int kvs.length) H):=by
 intro pins s σ H xs us Q I r h;obtain⟨a,kvs,rfl,ha,q⟩:=h;obtain⟨u,rfl,ru⟩:=xj r;cases ru;exact zdB I (.inl ha) fun t s' I'=>⟨.int kvs.length,H,I',⟨t,rfl⟩,q⟩
theorem yx:jE X (.Dict [] [] pos) V3:=⟨V4⟩
theorem SqK.l{K:ua}{xs:List V}(h:H a=some (.lst xs)):SqK true K H a xs:=SqL.of h
theorem SqK.t{K:ua}{xs:List V}(h:H a=some (.tup xs)):SqK false K H a xs:=SqT.of h
def lay(H:Hp):List (Addr×HO)->Hp
 |[]=>H
 |p::r=>upd (lay H r) p.1 p.2
theorem zbx{k:Key}(h:(zW P w).is k u=true):RelV (kV k) u:=by
 rw[Ys]at h;rcases yi h with⟨i,t,rfl,rfl⟩|⟨x,t,rfl,rfl⟩
 ·exact⟨t,rfl⟩
 ·exact⟨t,rfl⟩
theorem yy{i:Expr}{k:Nat}(hr:Room k X.A)(ho:jE X o td)(hi:jE X i ty)(hv:jE X value tv)(hs:swapsWith value (some (.Subscript o i pos')) pos.line X.env=pure false:=by rfl):
  jS X (.Assign [.Subscript o i pos'] value pos) (XI td ty tv):=⟨zao (by have:=hr.units;lia) ho.out hi.out hv.out hs⟩
theorem KV.get{ws:List (Key×Value)}(r:KV kvs ws){k:Key}{x:Value}(h:ws[j]?=some (k,x)):∃y,kvs[j]?=some (k,y)/\RelV y x:=by
 unfold KV at r
 induction r generalizing j with
 |nil=>simp at h
 |@cons p q ps qs hh t ih =>
  cases j with
  |zero =>
   simp at h
   subst h;obtain⟨p1,p2⟩:=p;have e:p1=k:=hh.1;subst e;exact⟨p2,rfl,hh.2⟩
  |succ j =>
   obtain⟨y,h1,h2⟩:=ih (j:=j) (by simpa using h);exact⟨y,by simpa using h1,h2⟩
theorem vR:∀{xs:List V}{us:List Value},xs.length=us.length->(∀(j:Nat) x u,xs[j]?=some x->us[j]?=some u->RelV x u)->Vals xs us
 |[],[],_,_=>.nil
 |[],_::_,h,_=>by simp at h
 |_::_,[],h,_=>by simp at h
 |x::xs,u::us,h,g=>.cons (g 0 x u rfl rfl) (vR (by simpa using h) fun j a b h1 h2=>g (j+1) a b (by simpa using h1) (by simpa using h2))
def V8:List V->Hp->VK->Prop:=fun xs H Q=>∃d kvs,xs=[.ref d]/\H d=some (.dK kvs)/\∀l,H l=none->Q (.ref l) (upd H l (.lst (kvs.map fun kv=>kV kv.1)))
theorem vS(hc:X.calm=true):yO X (.type "list") V8:=by
 intro pins s σ H xs us Q I r h;obtain⟨d,kvs,rfl,hd,q⟩:=h;obtain⟨u,rfl,rx⟩:=xj r;cases rx;obtain⟨z,hs,ws,rel,dd⟩:=y8 I.hok hd;obtain⟨ep,da⟩:=dd.dictAt;have wl:=rel.length;refine PySem.W.kdl_call (PySem.W.kdl_dict (knd:=zW X.prog X.w) (kvs:=ws) (ep:=ep) hs) (I.ok.hd hc) da (by lia) fun h' tk acc c hk hS hacc=>?_;obtain⟨a1,a2⟩:=hacc;refine⟨.ref s.heap.objs.size,_,I.laid (t':=tk) hk (ui _) (show ObjOk X.prog X.w _ h' _ (.lst (kvs.map fun kv=>kV kv.1))from⟨by rw[uc];exact z,acc.toList,c,?_,by rw[Array.toArray_toList];exact hS⟩),rfl,q _ (I.hok.fresh (ui _))⟩;have al:acc.toList.length=acc.size:=Array.length_toList;refine vR (by rw[uc,al];lia) fun j x v h1 h2=>?_;obtain⟨k,y,e1,e2⟩:=a2 j v (by rw[<- Array.getElem?_toList];exact h2);obtain⟨y',e3,_⟩:=rel.get e1;rw[ux,e3]at h1;cases h1;exact zbx e2
theorem yJ(hc:X.calm=true):jCa X (.type "list") V8:=⟨vS hc⟩
section
variable{E:VSP}
theorem vT{P:Shared->Prop}(hP:∀s tk,P s->P { s with toks:=tk }){x:Value}{Tx:String}{tp:Addr}{tk:Tok}{s:Shared}{Q:Fin->Shared->Prop}
  (hx:s.TypeIs x Tx) (htp:s.heap.get? tp=some ⟨.type "tuple",od,.seq cs.toArray n,osl⟩) (ha:AnswersAll P x cs vs) (hs:P s)
  (hq:∀tk',Q (.done (.ret (.bool (vs.any id)))) { s with toks:=tk' }):wpAny (model prog w) A (Builtin.«isinstance.nested» ⟨[x,.ref tp,.int 0 tk],[]⟩) Q E s:=by
 obtain⟨h,g,d,t,os⟩:=s;have hT2:(⟨h,g,d,t,os⟩:Shared).TypeIs (.ref tp) "tuple":=⟨_,htp,rfl⟩;have f1:=F.isi_sub_tuple
 repeat (any_goals (first|assumption|wp_step))
 refine wpAny_arrayLoop ?_;simp only[Option.getD_some,List.toList_toArray]
 refine isinstance_items (dep:=0) hP cs vs _ _ ha hs fun tk'=>?_;cases hv:vs.any id with
 |true =>
  simp only[if_true]
  repeat (any_goals (first|assumption|wp_step))
  exact hv ▸ hq tk'
 |false =>
  simp only[Bool.false_eq_true,if_false]
  repeat (any_goals (first|assumption|wp_step))
  exact hv ▸ hq tk'
theorem zar{x:Value}{Tx:String}{tp:Addr}(ha:AnswersAll (fun s=>s.TypeIs x Tx) x cs vs):
  Meets (Builtin.«isinstance» ⟨[x,.ref tp],[]⟩)
   (fun _ R s=>s.TypeIs x Tx/\IsTup s.heap tp cs.toArray/\∀tk,R (.ok (.ret (.bool (vs.any id)))) { s with toks:=tk }) :=
 fun _ _ _ _ s hs=>by
  obtain⟨h1,⟨o,e,hc,n,hd⟩,h3⟩:=hs;obtain⟨c,od,dat,sl⟩:=o;cases hc;cases hd;exact isinstance_outer (vT (fun _ tk h=>h.toks tk) h1 e ha h1 h3) (Shared.TypeIs.not_mainsLoader h1)
end
inductive TyN(H:Hp):V->Bool->Prop where
 |int (i:Int):TyN H (.int i) false
 |str (z:Str):TyN H (.str z) false
 |bl (b:Bool):TyN H (.bl b) false
 |non:TyN H .non false
 |lst {a:Addr} {xs:List V} (e:H a=some (.lst xs)):TyN H (.ref a) true
 |tup {a:Addr} {xs:List V} (e:H a=some (.tup xs)):TyN H (.ref a) true
section
def zby:List V->Hp->VK->Prop:=fun xs H Q=>∃x tp b,xs=[x,.ref tp]/\H tp=some (.tup [.ty "list",.ty "tuple"])/\TyN H x b/\Q (.bl b) H
theorem WC:yO X (.builtin "isinstance") zby:=by
 intro pins s σ H xs us Q I r h;obtain⟨x,tp,b,rfl,ht,ty,q⟩:=h;obtain⟨u,u',rfl,rx,ru⟩:=Xk r;cases ru;obtain⟨z,its,rt,pt⟩:=I.hok tp _ ht;obtain⟨v1,v2,rfl,r1,r2⟩:=Xk rt;cases r1;cases r2;have go:∀{Tx:String}{b1 b2:Bool},Answers (fun s=>s.TypeIs u Tx) u (.type "list") b1->Answers (fun s=>s.TypeIs u Tx) u (.type "tuple") b2->s.TypeIs u Tx->(b1 || b2)=b ->
   wpAny (model X.prog X.w) X.A (call (.builtin "isinstance") [u,.ref tp]) (EP X pins σ Q) X.xe s:=by
  intro Tx b1 b2 a1 a2 hx e;refine call_isinstance (zar (cs:=[.type "list",.type "tuple"]) (vs:=[b1,b2]) (show AnswersAll _ _ (_::_::[]) (_::_::[])from⟨a1,a2,trivial⟩)) ⟨hx,pt.is,fun tk=>?_⟩;refine⟨.bl b,H,I.tok tk,?_,q⟩;rw[<- e];show Value.bool _=Value.bool _;cases b1<;>cases b2<;>rfl
 cases ty with
 |int i =>
  obtain⟨t,rfl⟩:=rx;exact go (Answers.of_false_int (by decide +kernel) F.isi_meta_list F.sub_int_list) (Answers.of_false_int (by decide +kernel) F.isi_meta_tuple F.sub_int_tuple) rfl rfl
 |str z =>
  obtain⟨t,rfl⟩:=rx;exact go (Answers.of_false_str (by decide +kernel) F.isi_meta_list F.sub_str_list) (Answers.of_false_str (by decide +kernel) F.isi_meta_tuple F.sub_str_tuple) rfl rfl
 |non =>
  cases rx;exact go (Answers.of_false_none (by decide +kernel) F.isi_meta_list F.sub_NoneType_list) (Answers.of_false_none (by decide +kernel) F.isi_meta_tuple F.sub_NoneType_tuple) rfl rfl
 |bl z =>
  cases rx;exact go (Answers.of_false_bool (by decide +kernel) F.isi_meta_list F.sub_bool_list) (Answers.of_false_bool (by decide +kernel) F.isi_meta_tuple F.sub_bool_tuple) rfl rfl
 |lst e =>
  cases rx;obtain⟨_,its,n,_,p⟩:=I.hok _ _ e;exact go (Answers.of_true F.isi_meta_list F.sub_list_list) (Answers.of_false_list (by decide +kernel) F.isi_meta_tuple F.sub_list_tuple) ⟨_,p,rfl⟩ rfl
 |tup e =>
  cases rx;obtain⟨_,its,_,o,p,hc,_⟩:=I.hok _ _ e;exact go (Answers.of_false_tuple (by decide +kernel) F.isi_meta_list F.sub_tuple_list) (Answers.of_true F.isi_meta_tuple F.sub_tuple_tuple) ⟨_,p,hc⟩ rfl
theorem zas:jCa X (.builtin "isinstance") zby:=⟨WC⟩
theorem XJ:∀{ns:List Int}{us:List Value},Vals (ns.map V.int) us->IntsAre us ns
 |[],_,.nil=>.nil
 |n::ns,_,.cons ⟨t,e⟩ r=>by subst e;exact .cons n t (XJ r)
def V9:List V->Hp->VK->Prop:=fun xs H Q=>∃d kvs,∃ns:List Int,xs=[.ref d]/\H d=some (.dK kvs)/\(kvs.map fun kv=>kV kv.1)=ns.map V.int/\ns.length < 64/\∀l (ns':List Int),H l=none->ns'.Perm ns->ns'.Pairwise (·<=·)->Q (.ref l) (upd H l (.lst (ns'.map V.int)))
theorem YQ(hc:X.calm=true):yO X (.builtin "sorted") V9:=by
 intro pins s σ H xs us Q I r h;obtain⟨d,kvs,ns,rfl,hd,hk0,h64,q⟩:=h;obtain⟨u,rfl,rx⟩:=xj r;cases rx;obtain⟨z,hs,ws,rel,dd⟩:=y8 I.hok hd;obtain⟨ep,da⟩:=dd.dictAt;have wl:=rel.length;have nl:kvs.length=ns.length:=by
  have e:=congrArg List.length hk0;rw[uc,uc]at e;exact e
 refine Calls.call_function_entry kind_sorted plain_sorted entry_sorted (args_sorted1 _) ?_;unfold Builtin.«sorted»;refine wpAny_bind (m:=checkCount "sorted" 1 1 _) (wpAny_pure ?_);refine wpAny_bind (PySem.W.kdu_collect (A:=X.A.in1) (PySem.W.kdl_dict (knd:=zW X.prog X.w) (kvs:=ws) (ep:=ep) hs) (I.ok.hd hc) da (by lia) fun h' tk acc hk hacc=>?_);obtain⟨a1,a2⟩:=hacc;have al:acc.toList.length=acc.size:=Array.length_toList;have hI:IntsAre acc.toList ns:=XJ (by
  rw[<- hk0];refine vR (by rw[uc,al];lia) fun j x v h1 h2=>?_;obtain⟨k,y,e1,e2⟩:=a2 j v (by rw[<- Array.getElem?_toList];exact h2);obtain⟨y',e3,_⟩:=rel.get e1;rw[ux,e3]at h1;cases h1;exact zbx e2)
 refine wpAny_bind (wpAny_newList ?_ (by lia));have hoL:(h'.push (seqObj "list" acc.toList.toArray 0)).get? h'.objs.size=some (seqObj "list" acc.toList.toArray 0):=uo _ rfl;have I':Inv X pins σ H { s with heap:=h',toks:=tk }:=I.un (Un.kept hk) (I.hok.kept hk);refine wpAny_bind (wpAny_holding (wpAny_call_entry slot_list_sort ⟨_,hoL,rfl⟩ entry_list_sort (list_sort_tree hoL hI (by lia) fun out ns' b1 b2 b3=>⟨_,rfl,?_⟩) (args_list_sort _)));refine wpAny_pure ⟨_,rfl,?_⟩;obtain⟨e,he⟩:=sortedHeap_at (out:=out) hoL;have b4:=b2.length_eq;refine⟨.ref h'.objs.size,_,I'.laid (t':=tk) (a:=h'.objs.size) (o:=.lst (ns'.map V.int)) (fun b u hb'=>?_) (ui _) ?_,rfl,q _ ns' (I'.hok.fresh (ui _)) b2 b3⟩
 ·rw[sortedHeap_old (uI (um hb')) (by rw[size_push'];exact Nat.lt_succ_of_lt (um hb')),Heap.get?_push_ne _ _ _ (uI (um hb'))]
  exact hb'
 ·refine⟨by rw[uc];have:=ym;lia,out.toList,e,wL b1,?_⟩
  rw[Array.toArray_toList];exact he
theorem Ja(hc:X.calm=true):jCa X (.builtin "sorted") V9:=⟨YQ hc⟩
variable{k:Nat}{E:XK}{m:Str}{t:TA}
theorem zcK(F:Ma X.prog X.w X.K X.mg X.base CX k x C ps sp)(hr:Room (k+1) X.A)(hg:Gl X x)(hx:yv CX X E)(hdb:(x == ("__debug__":Str))=false:=by decide):
  jE X (.Call (.Name x p) [] [] pos) (Xm C sp [] E tNil):=let ⟨_,_,M,G,b,mg⟩:=F.ex;⟨Vn M G hr hg mg b .nil hx hdb⟩
theorem Z5:jE X e (fun _ _ _=>False):=⟨fun _ _ _ _ _ _ h=>h.elim⟩
theorem yF{i:Expr}(hr:Room k X.A)(ho:jE X o td)(hi:jE X i ty)(hs:NoSl i:=by intro _ _;rfl):jE X (.Subscript o i pos) (XG td ty):=⟨zan (Vw hr) ho.out hi.out hs⟩
theorem zat:jCa X (.builtin "len") (fun xs H Q=>∃a kvs,xs=[V.ref a]/\H a=some (.dK kvs)/\Q (.int kvs.length) H):=⟨WB⟩
end
section
variable{Q:VK}
theorem YR{K:ua}{k:Bool}{xs ys:List V}(hlen:xs.length=ys.length)(Pv:Nat->St->List V->Hp->Prop)(h0:Pv 0 σ [] H)(hl:∀i τ zs H,i<=xs.length->Pv i τ zs H->SqK k K H a xs/\SqK m K H b ys)
  (hs:∀i x y T τ zs H,xs[i]?=some x->ys[i]?=some y->H T=none->Pv i τ zs H->g (.ref T) τ (upd H T (.tup [x,y])) fun τ2 H2=>tt τ2 H2 fun b H3=>if b=true then te τ2 H3 fun y H4=>zs.length < sizeLine/\Pv (i+1) τ2 (zs++[y]) H4 else Pv (i+1) τ2 zs H3)
  (hd:∀τ zs H,Pv xs.length τ zs H->∀p,H p=none->Q (.ref p) (upd H p (.lst zs))):∃W,(∃m,W 0 m σ [] H)/\lcBy (Itz K k m a b) g tt te Q W:=by
 refine⟨fun i m τ zs H=>m=xs.length-i/\i<=xs.length/\Pv i τ zs H,⟨xs.length,by simp,uU _,h0⟩,?_⟩;rintro i n τ zs H ⟨rfl,hi,p⟩;obtain⟨q1,q2⟩:=hl i τ zs H hi p;by_cases hlt:i < xs.length
 ·refine .inr ⟨go2 q1 q2 (uf hlt) (uf (hlen ▸ hlt)),Pv (i+1),fun τ' zs' H' p'=>⟨xs.length-(i+1),by lia,rfl,hlt,p'⟩,fun x H' yq=>?_⟩
  obtain⟨T,x,y,rfl,hT,rfl,e1,e2⟩:=yld2 yq q1 q2;exact hs i x y T τ zs H e1 e2 hT p
 ·have e:i=xs.length:=by lia
  subst e;exact .inl ⟨zdt q1 q2 (ui _),hd τ zs H p⟩
end
structure FunM(K:ua)(x qual:Str)(st:Stmt)(D f:Addr)(fd:FuncData):Prop where
 ex:∃(oc:Value)(od:Option Addr)(kV doc pm:Value)(an:Option Addr)(cdv ct:Value)(osl:Array (Option Value)),fd=uP x qual (zX st) (zO st) (zo st) (.ref D) kV doc pm an cdv ct/\K.lookup f=some ⟨oc,od,.func fd,osl⟩/\Uf K cdv qual=true
theorem FunM.by{K:ua}{D:Addr}{k:Nat}(F:FunM K x qual st D f fd)(S:FnScope N ps (zo st))(len:∀vs H Q E,sp vs H Q E->vs.length=ps.length)
  (hbody:∀(cdv:Value)(A:Around)(outer:List Env)(s:Shared)(H:Hp)(vs:List V)(Q:VK)(E:XK),Room k (A.deeper (envOfC qual (zo st) s.heap.objs.size f cdv))->sp vs H Q E ->
   ∃t,jSs (cxOf CX0 P w K mg base N qual (zo st) f cdv A outer s H E).nox (zO st) t/\t { nx:=fun _ H'=>Q .non H',rt:=Q } (start N vs) H):FnOk P w K mg base CX0 (k+1) f fd ps sp:=by
 obtain⟨oc,od,kV,doc,pm,an,cdv,ct,osl,rfl,lk,hcd⟩:=F.ex;refine ZR lk hcd S len fun A outer s H vs Q E hr hsp=>?_;obtain⟨t,h,q⟩:=hbody cdv A outer s H vs Q E hr hsp;exact⟨t,h.out.nox,q⟩
def MdIn(K:ua)(C:Addr)(x qual:Str)(st:Stmt)(D:Addr):Prop:=∃f,uj K (.ref C) x=some (some (.ref f))/\U3 K (.ref f)=true/\∃(oc:Value)(od:Option Addr)(kV doc pm:Value)(an:Option Addr)(cdv ct:Value)(osl:Array (Option Value)),K.lookup f=some ⟨oc,od,.func (uP x qual (zX st) (zO st) (zo st) (.ref D) kV doc pm an cdv ct),osl⟩/\Uf K cdv qual=true/\uE K (.ref f)=true
theorem MdIn.mk{K:ua}{D:Addr}{kV:Value}(a:uj K (.ref C) x=some (some (.ref f)))(l:K.lookup f=some ⟨oc,od,.func (uP x qual (zX st) (zO st) (zo st) (.ref D) kV doc pm an cdv ct),osl⟩)(c:Uf K cdv qual=true)(k:uE K (.ref f)=true)(n:U3 K (.ref f)=true):MdIn K C x qual st D:=⟨f,a,n,oc,od,kV,doc,pm,an,cdv,ct,osl,l,c,k⟩
end L2
namespace L2
open PySem
section
variable{Q:VK}
theorem XL{K:ua}{k m e:Bool}{ys us:List V}(hlen:xs.length=ys.length)(hlen':xs.length=us.length)(Pv:Nat->St->List V->Hp->Prop)(h0:Pv 0 σ [] H)(hl:∀i τ zs H,i<=xs.length->Pv i τ zs H->SqK k K H a xs/\SqK m K H b ys/\SqK e K H c us)
  (hs:∀i x y u T τ zs H,xs[i]?=some x->ys[i]?=some y->us[i]?=some u->H T=none->Pv i τ zs H->g (.ref T) τ (upd H T (.tup [x,y,u])) fun τ2 H2=>tt τ2 H2 fun b H3=>if b=true then te τ2 H3 fun y H4=>zs.length < sizeLine/\Pv (i+1) τ2 (zs++[y]) H4 else Pv (i+1) τ2 zs H3)
  (hd:∀τ zs H,Pv xs.length τ zs H->∀p,H p=none->Q (.ref p) (upd H p (.lst zs))):∃W,(∃m,W 0 m σ [] H)/\lcBy (It3 K k m e a b c) g tt te Q W:=by
 refine⟨fun i m τ zs H=>m=xs.length-i/\i<=xs.length/\Pv i τ zs H,⟨xs.length,by simp,uU _,h0⟩,?_⟩;rintro i n τ zs H ⟨rfl,hi,p⟩;obtain⟨q1,q2,q3⟩:=hl i τ zs H hi p;by_cases hlt:i < xs.length
 ·refine .inr ⟨go3 q1 q2 q3 (uf hlt) (uf (hlen ▸ hlt)) (uf (hlen' ▸ hlt)),Pv (i+1),fun τ' zs' H' p'=>⟨xs.length-(i+1),by lia,rfl,hlt,p'⟩,fun x H' yq=>?_⟩
  obtain⟨T,x,y,z,rfl,hT,rfl,e1,e2,e3⟩:=yld3 yq q1 q2 q3;exact hs i x y z T τ zs H e1 e2 e3 hT p
 ·have e:i=xs.length:=by lia
  subst e;exact .inl ⟨zbt q1 q2 q3 (ui _),hd τ zs H p⟩
end
end L2
namespace L2
open PySem PySem.Spec PyProof.Rows
section
variable{k:Nat}{f i:Expr}{tx:TE}
theorem Z6(ho:jE X o td)(he:jE X e ty)(m:M1 X o "pop" apos e cpos:=by exact⟨rfl,rfl,rfl,rfl⟩):jE X (.Call (.Attribute o "pop" apos) [e] [] cpos) (V6 td ty):=⟨V7 ho.out he.out m⟩
theorem Jb(hr:Room k X.A)(hi:jE X i ty)(ho:jE X o td)(h1:behindInMarks .In o=false:=by rfl):jT X (.Compare i [.In] [o] pos) (tB (tDIn ty td)):=⟨Yt (zcI (Vw hr) hi.out ho.out) (h1:=h1)⟩
theorem wP(hr:Room k X.A)(hi:jE X i ty)(ho:jE X o td)(h1:behindInMarks .NotIn o=false:=by rfl):jT X (.Compare i [.NotIn] [o] pos) (tB (XH ty td)):=⟨Yt (WA (Vw hr) hi.out ho.out) (h1:=h1)⟩
end
end L2
namespace K11
open PySem
def sg(c:Nat):Str:=⟨#[c]⟩
end K11
namespace K11
open PySem PySem.Spec PyProof.Rows Builtin Builtin.Str
abbrev cl(z:Str):List Nat:=z.cps.toList
theorem vU(z:Str):(cl z).length=z.length:=by simp[Str.length]
theorem xi(x y:Str):cl (x++y)=cl x++cl y:=by
 show(x.cps++y.cps).toList=_;simp
theorem wC{sep:Str}{r:lS}:cl (Str.join sep (x::y::r))=cl x++(cl sep++cl (Str.join sep (y::r))):=by
 show cl (x++sep++Str.join sep (y::r))=_;rw[xi,xi,Uj]
end K11
namespace GN
open PySem L2
def top(i:Nat):Stmt:=PySem.Challenge.pw_reusewise_k80_numbers_turned.main.body.getD i (.Pass ⟨0,0,0,0⟩)
abbrev Zg:Stmt:=z4 (top 8) 0
abbrev YS:Stmt:=top 23
abbrev xL:Stmt:=top 25
abbrev sIn:Stmt:=top 26
abbrev YT:Stmt:=top 27
abbrev YU:Stmt:=top 28
abbrev YV:Stmt:=top 29
abbrev XM:Stmt:=top 31
abbrev sRes:Stmt:=top 32
abbrev sBy:Stmt:=top 34
abbrev YW:Stmt:=top 35
abbrev Zh:Stmt:=z4 (top 10) 0
abbrev Zi:Stmt:=top 11
abbrev vV:Stmt:=top 12
abbrev Zj:Stmt:=top 13
abbrev Jc:Stmt:=top 14
abbrev wQ:Stmt:=top 16
abbrev sRis:Stmt:=z4 (top 19) 0
abbrev YX:Stmt:=top 20
abbrev YY:Stmt:=z4 (top 21) 0
abbrev XN:Stmt:=z4 (top 21) 4
abbrev Zk:Stmt:=z4 (top 21) 5
abbrev XQ:Stmt:=z4 (top 21) 13
abbrev Zl:Stmt:=z4 (top 21) 14
abbrev Zm:Stmt:=z4 (top 21) 15
abbrev wD:Stmt:=z4 (top 21) 16
abbrev YZ:Stmt:=z4 (top 41) 0
abbrev Zn:Stmt:=z4 (top 41) 2
abbrev Y0:Stmt:=z4 (top 43) 0
abbrev Zo:Stmt:=top 44
abbrev Jd:Stmt:=top 45
abbrev vW:Stmt:=top 47
abbrev Zp:Stmt:=top 48
abbrev wR:Stmt:=z4 (top 52) 0
abbrev Zq:Stmt:=z4 (top 52) 1
abbrev vX:Stmt:=z4 (top 52) 2
abbrev Y1:Stmt:=z4 (top 52) 3
abbrev Zr:Stmt:=z4 (top 52) 4
abbrev vY:Stmt:=z4 (top 52) 5
abbrev Y2:Stmt:=z4 (top 52) 6
abbrev Zs:Stmt:=z4 (top 52) 7
abbrev Je:Stmt:=z4 (top 52) 11
abbrev Jf:Stmt:=z4 (top 52) 12
abbrev Zt:Stmt:=top 53
abbrev xT:Stmt:=top 54
abbrev sLaw:Stmt:=top 67
abbrev vZ:Stmt:=top 56
abbrev wm:Stmt:=top 57
abbrev Zu:Stmt:=top 58
abbrev wS:Stmt:=top 59
abbrev Jg:Stmt:=top 60
abbrev v4:Stmt:=top 61
abbrev wT:Stmt:=top 62
abbrev xM:Stmt:=top 63
abbrev v5:Stmt:=top 64
abbrev Zv:Stmt:=top 65
abbrev v6:Stmt:=top 66
end GN
namespace GN
open PySem L2 K11
theorem same_new{p:Addr}(h:H p=none)(o:HO):Same H (upd H p o):=fun b u q=>by rw[zh (zk q h)];exact q
def LIM:Nat:=4611686018427387904
inductive Sta(K:ua)(H:Hp)(st:Addr)(B:Nat):Prop
 |mk (a:Addr) (ns:List Int):(∃k:Nat,H st=some (.lst [.ref a,.int (k:Nat)])/\(a=st->∀H',SqL K H' a (ns.map V.int))/\SqL K H a (ns.map V.int)/\k<=B)->Sta K H st B
structure Kp(st:Addr)(H H':Hp):Prop where
 k:∀b u,b≠st->H b=some u->H' b=some u
 s:∀a k,H st=some (.lst [.ref a,.int k])->∃k',H' st=some (.lst [.ref a,.int k'])
section
variable{K:ua}{st:Addr}{B':Nat}
def Tups(H H':Hp):Prop:=∀p xs,H p=some (.tup xs)->H' p=some (.tup xs)
theorem Tups.of(s:Same H H'):Tups H H':=fun p xs h=>s p _ h
theorem Tups.trans(a:Tups H H')(b:Tups H' H2):Tups H H2:=fun p xs h=>b p xs (a p xs h)
end
inductive spDraw(K:ua)(vs:List V)(H:Hp)(Q:VK)(e_3:XK):Prop
 |mk (st:Addr) (m:Int):(∃B:Nat,vs=[.ref st,.int m]/\Sta K H st B/\B < LIM/\0 < m/\∀(H':Hp)(r:Int),Kp st H H'->Sta K H' st (B+1)->0<=r->r < m->Q (.int r) H')->spDraw K vs H Q e_3
def LET:Str:="abcdefghijklmnopqrstuvwxyz"
theorem zcL:cl LET=(uZ 26).map (97 + ·):=by decide +kernel
def lt(i:Nat):Str:=sg (97+i)
theorem zcM(h:i < 26):atI LET.cps.toList (i:Int)=some (97+i):=by
 refine zq ?_;show(cl LET)[i]?=_;rw[zcL,ux,List.getElem?_range h]
 rfl
theorem Zw{m:Int}(h0:0<=m)(h:m < 26):atI LET.cps.toList m=some (97+m.toNat):=by
 have e:=zcM (i:=m.toNat) (by lia);rw[Int.toNat_of_nonneg h0]at e;exact e
theorem Zx:LET.length=26:=by decide +kernel
def core(k:Nat):Str:=lt (k / 2 % 26)++("z":Str)++lt (k / 52 % 26)
def ys(k:Nat):Str:=Txt.mul "y" ((k % 2:Nat):Int)
def nm(z:Str)(b:Bool)(k:Nat):Str:=if b=true then core k++z++ys k else ys k++z++core k
inductive spNm(vs:List V)(H:Hp)(Q:VK)(e_3:XK):Prop
 |mk (p:Addr) (z:Str) (b:Bool) (xs:List V):(∃k:Nat,vs=[.ref p,.int (k:Nat)]/\H p=some (.lst (.str z::.bl b::xs))/\z.length<=6/\Q (.str (nm z b k)) H)->spNm vs H Q e_3
inductive PtL(H:Hp):List V->List V->Prop
 |nil:PtL H [] []
 |num {i:Int} {vs xs:List V}:PtL H vs xs->PtL H (.int i::vs) (.int i::xs)
 |shp {p q:Addr} {t:Str} {us vs xs ys:List V}:H p=some (.tup [.str t,.ref q])->H q=some (.tup us)->us.length<=9->PtL H us xs->PtL H vs ys->PtL H (.ref p::vs) (.str t::(xs++ys))
def At:V->Prop
 |.int _=>True
 |.str _=>True
 |_=>False
def spWhole:Sp:=fun vs H Q _=>∃v,vs=[v]/\((∃i,v=.int i/\Q (.bl true) H)\/(∃p xs,v=.ref p/\H p=some (.tup xs)/\Q (.bl false) H))
def KT(T:Addr)(H H':Hp):Prop:=∀b u,b≠T->H b=some u->H' b=some u
section
variable{K:ua}
theorem scWhole:FnScope ["thing"] ["thing"] (zo xL):=⟨rfl,rfl,rfl,by decide +kernel,rfl,by decide +kernel,by decide +kernel⟩
theorem ok_whole(F:Fun K "is_whole" "is_whole" xL f fd)(m_isinstance:mg "isinstance"=none)(m_int:mg "int"=none)(m_bool:mg "bool"=none):FnOk P w K mg base CX0 1 f fd ["thing"] spWhole:=by
 refine F.by scWhole (fun vs H Q E h=>?_) (fun cdv A outer s H vs Q E hr h=>?_)
 ·obtain⟨v,rfl,_⟩:=h
  rfl
 obtain⟨v,rfl,h⟩:=h;refine⟨_,
  (zn (zw (xG (zJ zS rfl m_isinstance uq (ja_c (jv 0) (ja_c (z5 (v:=.ty "int") rfl m_int Up rfl) zi))) (xF (j5 (zJ zS rfl m_isinstance uq (ja_c (jv 0) (ja_c (z5 (v:=.ty "bool") rfl m_bool UI rfl) zi)))))))),?_⟩
 rcases h with⟨i,rfl,q⟩|⟨p,xs,rfl,hp,q⟩
 ·exact(zf rfl ⟨_,_,_,_,rfl,.int _,rfl,(zf rfl (iteT (zf rfl ⟨_,_,_,_,rfl,.int _,rfl,(zf rfl (q))⟩)))⟩)
 ·exact(zf rfl ⟨_,_,_,_,rfl,.tup hp,rfl,(zf rfl (iteF q))⟩)
end
end GN
namespace PySem.W
open PySem PySem.Spec PySem.Calls PyProof.Rows
structure XIs(K:Frag)(C:Addr):Prop where
 ga:findIn K (.ref C) "__getattribute__"=some (some (.builtin "BaseException.__getattribute__"))
 ha:findIn K (.ref C) "__getattr__"=some none
 sb:subIn K (.ref C) (.type "BaseException")=some true
 hd:hasDictIn K C=true
 cl:findIn K (.ref C) "__class__"=some (some (.builtin "object.__class__"))
 gs:specialIn K (.builtin "object.__class__") "__get__"=some (some (.builtin "getset_descriptor.__get__"))
 tk:takesIn K (.builtin "object.__class__")=some true
 mo:mroIn K C (.type "object")=some true
end PySem.W
namespace L2
open PySem PySem.Spec PyProof.Rows
variable{i:Int}
def BG:Nat:=2 ^ 1000
set_option exponentiation.threshold 2000 in
theorem XR(h:i.natAbs < BG):i.natAbs.log2 < 1000\/i=0:=by
 by_cases z:i.natAbs=0
 ·exact .inr (Int.natAbs_eq_zero.mp z)
 ·exact .inl ((Nat.log2_lt z).mpr h)
theorem Z7(h:i.natAbs < BG):Builtin.Int.intBits i<=2 ^ 20:=by
 unfold Builtin.Int.intBits;have e:(2:Nat) ^ 20=1048576:=by decide
 rcases XR h with l|l
 ·split<;>lia
 ·rw[if_pos (by rw[l];rfl)];lia
theorem Zy{j:Int}(h:j.natAbs < BG):Builtin.divisionGoesByPylong i j=false:=by
 refine PyProof.noPylong_of_log2 ?_;rcases XR h with l|l
 ·lia
 ·rw[l];decide
def zdC(i j:Int):Prop:=i.natAbs < BG/\j.natAbs < BG
def zdD(_ j:Int):Prop:=j≠0/\j.natAbs < BG
theorem Zz:jOp X (binaryOp .Mult) (rI zdC fun i j=>.int (i*j)):=⟨opI fun _ _ _ _ _ _ _ hc q=>mul_int q (.of_bits (Z7 hc.1) (Z7 hc.2))⟩
theorem Z8:jOp X (binaryOp .FloorDiv) (rI zdD fun i j=>.int (i.fdiv j)):=⟨opI fun _ _ _ _ _ _ _ hc q=>floordiv_int hc.1 q (.inl (Zy hc.2))⟩
theorem ZA:jOp X (binaryOp .Mod) (rI (fun _ j=>j≠0) fun i j=>.int (i.fmod j)):=⟨QA⟩
theorem zcN:jCa X (.builtin "abs") (fun xs H Q=>∃i,xs=[.int i]/\Q (.int (if i < 0 then -i else i)) H):=⟨Vj⟩
theorem ZB:jCa X (.type "int") (fun xs H Q=>(∃i,xs=[.int i]/\Q (.int i) H)\/∃k,xs=[.bl k]/\Q (.int (if k then 1 else 0)) H):=⟨Wg⟩
theorem zN:jS X st (fun _ _ _=>False):=⟨fun _ _ _ _ _ _ h=>h.elim⟩
end L2
namespace GN
open PySem L2 K11
theorem Ya:∀{zs:lS},(∀z∈zs,z.length=1)->(Str.join "" zs).length=zs.length
 |[],_=>rfl
 |[x],h=>h x uS
 |x::y::r,h=>by
  have ih:=Ya (zs:=y::r) fun z hz=>h z (u6 _ hz);rw[<- vU,wC,uk,uk,vU,vU,vU,ih,h x uS];show 1+(0+(y::r).length)=(y::r).length+1;lia
theorem Jh{zs:lS}(h:∀z∈zs,z.length=1):wide "" zs=zs.length:=by
 unfold wide;have e:∀{l:lS},(∀z∈l,z.length=1)->(l.map (·.length)).sum=l.length:=by
  intro l
  induction l with
  |nil=>intro _;rfl
  |cons a l ih=>intro h;rw[uC,tP,ih fun z hz=>h z (u6 _ hz),h a uS,uJ];lia
 rw[e h]
 rfl
theorem t30:(10:Int) ^ (30:Int).toNat=1000000000000000000000000000000:=by decide
def Sm(i:Int):Prop:=-1000000000000000000000000000000 < i/\i < 1000000000000000000000000000000
inductive spStem(K:ua)(vs:List V)(H:Hp)(Q:VK)(e_3:XK):Prop
 |mk (st:Addr):(∃B:Nat,vs=[.ref st]/\Sta K H st B/\B+8 < LIM/\∀(H':Hp)(p:Addr)(z:Str)(b:Bool),Kp st H H'->Sta K H' st (B+8)->H' p=some (.lst [.str z,.bl b])->z.length<=6->Q (.ref p) H')->spStem K vs H Q e_3
inductive spNumber(K:ua)(vs:List V)(H:Hp)(Q:VK)(e_3:XK):Prop
 |mk (st:Addr):(∃B:Nat,vs=[.ref st]/\Sta K H st B/\B+2 < LIM/\∀(H':Hp)(i:Int),Kp st H H'->Sta K H' st (B+2)->Sm i->Q (.int i) H')->spNumber K vs H Q e_3
inductive Th(H:Hp):Bool->V->Prop
 |int (i:Int):Th H true (.int i)
 |bl (b:Bool):Th H false (.bl b)
 |non:Th H false .non
 |str (x:Str):Th H false (.str x)
 |lst {p:Addr} {xs:List V}:H p=some (.lst xs)->Th H false (.ref p)
 |tup {p:Addr} {xs:List V}:H p=some (.tup xs)->Th H false (.ref p)
 |dK {p:Addr} {xs:List (Key×V)}:H p=some (.dK xs)->Th H false (.ref p)
theorem Th.keep{b:Bool}{v:V}(s:Same H H')(h:Th H b v):Th H' b v:=by
 cases h with
 |int i=>exact .int i
 |bl b=>exact .bl b
 |non=>exact .non
 |str x=>exact .str x
 |lst h=>exact .lst (s _ _ h)
 |tup h=>exact .tup (s _ _ h)
 |dK h=>exact .dK (s _ _ h)
inductive spWholeB(vs:List V)(H:Hp)(Q:VK)(e_3:XK):Prop
 |mk (v:V):(∃b:Bool,vs=[v]/\Th H b v/\Q (.bl b) H)->spWholeB vs H Q e_3
def spIn:Sp:=fun vs H Q _=>∃i:Int,vs=[.int i]/\Q (.bl (decide (-1000000000000000000000000000000 < i/\i < 1000000000000000000000000000000))) H
section
variable{K:ua}
theorem Ji:FnScope ["thing"] ["thing"] (zo xL):=⟨rfl,rfl,rfl,by decide +kernel,rfl,by decide +kernel,by decide +kernel⟩
theorem WD(F:Fun K "is_whole" "is_whole" xL f fd)(m_isinstance:mg "isinstance"=none)(m_int:mg "int"=none)(m_bool:mg "bool"=none):FnOk P w K mg base CX0 1 f fd ["thing"] spWholeB:=by
 refine F.by Ji (fun vs H Q E h=>?_) (fun cdv A outer s H vs Q E hr h=>?_)
 ·obtain⟨v,b,rfl,_⟩:=h
  rfl
 obtain⟨v,b,rfl,hT,q⟩:=h;refine⟨_,
  (zn (zw (xG (zJ zS rfl m_isinstance uq (ja_c (jv 0) (ja_c (z5 (v:=.ty "int") rfl m_int Up rfl) zi))) (xF (j5 (zJ zS rfl m_isinstance uq (ja_c (jv 0) (ja_c (z5 (v:=.ty "bool") rfl m_bool UI rfl) zi)))))))),?_⟩
 cases hT with
 |int i=>exact(zf rfl ⟨_,_,_,_,rfl,.int _,rfl,(zf rfl (iteT (zf rfl ⟨_,_,_,_,rfl,.int _,rfl,(zf rfl (q))⟩)))⟩)
 |bl b=>exact(zf rfl ⟨_,_,_,_,rfl,.bl _,rfl,(zf rfl (iteT (zf rfl ⟨_,_,_,_,rfl,.bl _,rfl,(zf rfl (q))⟩)))⟩)
 |non=>exact(zf rfl ⟨_,_,_,_,rfl,.non,rfl,(zf rfl (iteF q))⟩)
 |str x=>exact(zf rfl ⟨_,_,_,_,rfl,.str _,rfl,(zf rfl (iteF q))⟩)
 |lst h=>exact(zf rfl ⟨_,_,_,_,rfl,.lst h,rfl,(zf rfl (iteF q))⟩)
 |tup h=>exact(zf rfl ⟨_,_,_,_,rfl,.tup h,rfl,(zf rfl (iteF q))⟩)
 |dK h=>exact(zf rfl ⟨_,_,_,_,rfl,.dK h,rfl,(zf rfl (iteF q))⟩)
theorem scIn:FnScope ["number"] ["number"] (zo sIn):=⟨rfl,rfl,rfl,by decide +kernel,rfl,by decide +kernel,by decide +kernel⟩
theorem ok_in(F:Fun K "in_bounds" "in_bounds" sIn f fd):FnOk P w K mg base CX0 1 f fd ["number"] spIn:=by
 refine F.by scIn (fun vs H Q E h=>?_) (fun cdv A outer s H vs Q E hr h=>?_)
 ·obtain⟨i,rfl,_⟩:=h
  rfl
 obtain⟨i,rfl,q⟩:=h;refine⟨_,(zn (zw (ZU xI xI (yr (zH xH zp zp)) (jv 0) (zH xH zp zp)))),?_⟩;refine(zI rfl rfl ⟨⟨by decide,by decide,by decide⟩,(zf rfl (zf rfl (zI rfl rfl ?_)))⟩);rw[t30];by_cases c:-1000000000000000000000000000000 < i
 ·refine(zf rfl (itD c ?_))
  refine(zI rfl rfl ⟨⟨by decide,by decide,by decide⟩,(zI rfl rfl ?_)⟩);rw[t30];have e:decide (-1000000000000000000000000000000 < i/\i < 1000000000000000000000000000000)=decide (i < 1000000000000000000000000000000):=by simp[c]
  rw[e]at q;exact q
 ·refine(zf rfl (itDN c ?_))
  have e:decide (-1000000000000000000000000000000 < i/\i < 1000000000000000000000000000000)=false:=by simp[c]
  rw[e]at q;exact q
end
end GN
namespace L2
open PySem PySem.Spec PyProof.Rows
def Sme:Nat->Hp->V->V->Prop
 |0,_,_,_=>False
 |n+1,H,x,y=>(xA x=true/\x=y)\/∃a b xs ys,x=.ref a/\y=.ref b/\((H a=some (.lst xs)/\H b=some (.lst ys))\/(H a=some (.tup xs)/\H b=some (.tup ys)))/\xs.length=ys.length/\∀(i:Nat) u v,xs[i]?=some u->ys[i]?=some v->Sme n H u v
section
variable{s:Shared}
theorem jH{ys:List V}{vs:List Value}(r:Vals xs us)(r':Vals ys vs)(go:∀{x y:V}{u v:Value},Sme n H x y->RelV x u->RelV y v->SeqAt.EqAt A s u v true)
  (h:∀(i:Nat) u v,xs[i]?=some u->ys[i]?=some v->Sme n H u v) (j:Nat) (h1:j < us.toArray.size) (h2:j < vs.toArray.size):SeqAt.EqAt A s us.toArray[j] vs.toArray[j] true:=by
 have l1:=r.length;have l2:=r'.length;simp at h1 h2
 have hx:xs[j]?=some (xs[j]'(by lia)):=uf _;have hy:ys[j]?=some (ys[j]'(by lia)):=uf _;obtain⟨u,e1,rx⟩:=r.get hx;obtain⟨v,e2,ry⟩:=r'.get hy;have g1:us.toArray[j]=u:=by
  have:=ud.mp e1
  simpa using this.2
 have g2:vs.toArray[j]=v:=by
  have:=ud.mp e2
  simpa using this.2
 rw[g1,g2];exact go (h j _ _ hx hy) rx ry
theorem zcO{ys:List V}(hu:A.units < cLine)(I:Inv X pins σ H s)(hl:xs.length=ys.length)(hab:(H a=some (.lst xs)/\H b=some (.lst ys))\/(H a=some (.tup xs)/\H b=some (.tup ys)))
  (go:∀{x y:V}{u v:Value},Sme n H x y->RelV x u->RelV y v->SeqAt.EqAt A.in1 s u v true) (h:∀(i:Nat) u v,xs[i]?=some u->ys[i]?=some v->Sme n H u v):SeqAt.RcAt A s (.ref a) (.ref b) true:=by
 rcases hab with⟨h1,h2⟩|⟨h1,h2⟩
 ·obtain⟨i1,v1,m1,_⟩:=I.list (SqL.of h1)
  obtain⟨i2,v2,m2,_⟩:=I.list (SqL.of h2);have n1:=v1.length;have n2:=v2.length;have main:=SeqAt.RcAt.lists (A:=A) (s:=s) (e:=fun _=>true) m1.isList m2.isList (by simp;lia) hu (fun j x y=>jH v1 v2 go h j x y);rw[show((uZ i1.toArray.size).all fun _=>true)=true from UE.mpr fun _ _=>rfl]at main;exact main
 ·obtain⟨i1,v1,m1,_⟩:=I.tuple (SqT.of h1)
  obtain⟨i2,v2,m2,_⟩:=I.tuple (SqT.of h2);have n1:=v1.length;have n2:=v2.length;have main:=SeqAt.RcAt.tuples (A:=A) (s:=s) (e:=fun _=>true) m1 m2 hu (fun j x y=>jH v1 v2 go h j x y);have eb:((uZ (min i1.toArray.size i2.toArray.size)).all (fun _=>true) && i1.toArray.size == i2.toArray.size)=true:=by
   rw[show(uZ (min i1.toArray.size i2.toArray.size)).all (fun _=>true)=true from UE.mpr fun _ _=>rfl];simp
   lia
  rw[eb]at main;exact main
theorem Jj(I:Inv X pins σ H s):∀(n:Nat){A:Around}(hu:A.units+n < cLine){x y:V}{u v:Value},Sme n H x y->RelV x u->RelV y v->SeqAt.EqAt A s u v true
 |0,_,_,_,_,_,_,h,_,_=>h.elim
 |n+1,A,hu,x,y,u,v,h,rx,ry=>by
  rcases h with⟨f,rfl⟩|⟨a,b,xs,ys,rfl,rfl,hab,hl,h⟩
  ·have k:=Vs (A:=A) (s:=s) rx ry f f
   rw[VS f]at k;exact k
  ·cases rx
   cases ry;by_cases c:a=b
   ·subst c
    exact .same _
   ·exact .of_refs c (zcO (by lia) I hl hab (fun{x y u v}=>Jj I n (A:=A.in1) (by show A.units+1+n < cLine;lia)) h)
end
section
variable{E:VSP}{g:Array GenState}{d:Drawn}{t:Nat}{os:OsState}
variable{nm q:Str}{N:Addr}{bs:List Value}{sn:lS}{B Bn nid initId inN:String}
abbrev XS(h:Heap)(C:Addr):Heap:=(((h.push (yI [])).push (yK C h.objs.size)).push (yI [])).update (h.objs.size+1) (Obj.mapFields (·.setIfInBounds 0 (.ref ((h.push (yI [])).push (yK C h.objs.size)).objs.size)))
theorem ZC(Fn:ExcBaseFacts Bn newId inN bmN)(hBn:bmB.contains (.type Bn)=true)(F:ExcBaseFacts B nid initId bmB)(T:OwnTail h bmB bm){Q:Fin->Shared->Prop}
  (hC:h.get? C=some (excClassObj nm q C N bs bm hdct sn sub ab col dd k0 k1 k2 k3 k5 newId)) (hn:h.Ns N mN) (hi:mN "__init__"=none)
  (hq:Q (.done (.ret (.ref (h.objs.size+1)))) ⟨XS h C,g,d,t,os⟩) :
  wpAny (model prog w) A (Builtin.«type.__call__» ⟨[.ref C],[]⟩) Q E ⟨h,g,d,t,os⟩:=by
 repeat (first|with_reducible refine wpAny_madeBy_exc hC ?_|with_reducible refine wpAny_loadPart_at hC ?_|wp_step)
 refine codeAny_call_builtin_code (Code.quiet_builtin _ Fn.quiet) (wpAny_check_new_subU Fn hBn T hC (codeAny_exc_new_subU Fn hBn F T hC ?_ (uU _)));show wpAny _ _ _ _ _ _;have k:∀b o,h.get? b=some o->((h.push (yI [])).push (yK C h.objs.size)).get? b=some o:=fun b o e=>ub _ (ub _ e);have C1:=k _ _ hC;have e1:((h.push (yI [])).push (yK C h.objs.size)).get? (h.objs.size+1)=some (yK C h.objs.size):=Heap.get?_push_at (by simp only[uX]) rfl;have cC:(Value.ref C::bm).contains (.ref C)=true:=by simp
 unfold isInstance
 repeat (first|with_reducible refine wpAny_loadPart_at e1 ?_|(with_reducible refine wpAny_isSubtype_exc C1 ?_;rw[cC])|wp_step)
 show wpAny _ _ (typeLookup (.ref C) _) _ _ _;refine wpAny_typeLookup_tail C1 (hn.keeps k) (T.keeps k) F.mroIs F.init.lookup ?_;rw[hi];refine wpAny_holding (wpAny_bind (wpAny_of_eq (F.init.bind _) ?_));refine wpAny_bind (Xw F (T.keeps k) C1 e1 rfl rfl rfl (uU _) ?_);exact wpAny_pure (wpAny_pure hq)
theorem Jk(Fn:ExcBaseFacts Bn newId inN bmN)(hBn:bmB.contains (.type Bn)=true)(F:ExcBaseFacts B nid initId bmB)(T:OwnTail h bmB bm){Q:VSP}
  (hC:h.get? C=some (excClassObj nm q C N bs bm hdct sn sub ab col dd k0 k1 k2 k3 k5 newId)) (hn:h.Ns N mN) (hi:mN "__init__"=none)
  (hq:Q (.ref (h.objs.size+1)) ⟨XS h C,g,d,t,os⟩):wpAny (model prog w) A (call (.ref C) []) Q E ⟨h,g,d,t,os⟩:=by
 have f1:=tc_lookup;have f2:=tc_bind (.ref C);have hT:(⟨h,g,d,t,os⟩:Shared).TypeIs (.ref C) "type":=⟨_,hC,rfl⟩;refine wpAny_call (codeAny_of_tree ?_);show wpAny _ _ (callAny (.ref C) ⟨[],[]⟩) _ _ _
 repeat (any_goals (first|assumption|(with_reducible refine wpAny_loadPart_at hC ?_)|wp_step))
 refine⟨rfl,codeAny_call_builtin_at (Code.quiet_builtin _ (by decide +kernel)) entry_typeCall (wpAny_check_type_call_sub hC ?_)⟩;exact ZC Fn hBn F T hC hn hi hq
end
theorem zau{K:ua}{N:Addr}{n:Str}(X:K.In h)(G:h.Ns N mg)(e:uF K N n=some none):mg n=none:=by
 obtain⟨o,es,ep,ho,hd,_,hf⟩:=G;unfold uF at e;split at e
 ·rename_i c d es' n' sl q
  have:=X _ _ q
  rw[ho]at this;cases this;cases hd;split at e
  ·cases e
  ·rename_i he
   rw[<- hf];unfold nsFind findBy;rw[<- Array.find?_toList,he]
   rfl
 ·cases e
def xIn0(K:ua)(C:Addr):Bool:=match K.lookup C with
 |some ⟨.type "type",_,.cls cd,sl⟩=>(match cd.mro,sl.toList with
  |.ref C'::bm,[_,_,_,_,some (.builtin n),_]=>C' == C && n == "ValueError.__new__" && !cd.hasDel && PySem.W.tailIn K bmV bm && PySem.W.nsOkIn K cd.ns && uF K cd.ns "__init__" == some none && bm.contains (.type "BaseException")
  |_,_=>false)
 |_=>false
structure XCl0(K:ua)(C:Addr):Prop where
 cls:xIn0 K C=true
 kp:uE K (.ref C)=true
theorem XCl0.at{K:ua}(c:XCl0 K C)(X:K.In h):∃nm q N bs bm hdct sn sub ab col dd k0 k1 k2 k3 k5 mN,h.get? C=some (excClassObj nm q C N bs bm hdct sn sub ab col dd k0 k1 k2 k3 k5 "ValueError.__new__") /\
  OwnTail h bmV bm/\h.Ns N mN/\mN "__init__"=none/\bm.contains (.type "BaseException")=true:=by
 have q:=c.cls;unfold xIn0 at q;split at q
 ·rename_i dd cd sl ho
  split at q
  ·rename_i C' bm k0 k1 k2 k3 n k5 hm hs
   simp only[UN,beq_iff_eq,Bool.not_eq_true']at q
   obtain⟨⟨⟨⟨⟨⟨rfl,rfl⟩,hdel⟩,ht⟩,hok⟩,hi⟩,hb⟩:=q;obtain⟨nm,bs,mro,ns,qn,hd,sn,sub,ab,col,del⟩:=cd;dsimp only at hm hdel hok hi
   subst hm hdel;have es:sl=#[k0,k1,k2,k3,some (.builtin "ValueError.__new__"),k5]:=by
    obtain⟨l⟩:=sl;simp only at hs
    rw[hs]
   subst es;have nN:=PySem.Heap.Ns.of_isNs (PySem.W.isNs_of_in X hok);exact⟨nm,qn,ns,bs,bm,hd,sn,sub,ab,col,dd,k0,k1,k2,k3,k5,_,X _ _ ho,PySem.W.tail_of_in X ht,nN,zau X nN hi,hb⟩
  ·cases q
 ·cases q
def XT(C:Addr)(E:XK):TS:=fun _ _ H=>E (.ref C) none H
section
variable{k:Nat}{E:XK}
theorem WE(M:XCl0 X.K C)(hr:Room k X.A)(hg:Gl X x)(hm:X.mg x=some (.ref C))(hx:vF X E)(hdb:(x == ("__debug__":Str))=false:=by decide):
  PS X (.Raise (some (.Call (.Name x np) [] [] cpos)) none pos) (XT C E):=by
 intro pins s σ H D I h;obtain⟨nm,q,N,bs,bm,hdct,sn,sub,ab,col,dd,k0,k1,k2,k3,k5,mN,hC0,T0,n0,i0,hB⟩:=M.at I.mod.kin;rw[arm_exec_Raise];simp only[evalOpt,Option.map]
 refine wpAny_bind (wpAny_standAt (Xv (C:=C) (nm:=nm) (q:=q) (N:=N) (bs:=bs) (hdct:=hdct) (sn:=sn) (sub:=sub) (ab:=ab) (col:=col) (dd:=dd) (k0:=k0) (k1:=k1) (k2:=k2) (k3:=k3) (k5:=k5) (newId:="ValueError.__new__") hB hr.hd (wpAny_bind ?_)));refine wpAny_Call_Name_kw (yE I hg hm ?_ hdb);refine PySem.W.callWith_K0 I.kIn M.kp ?_;obtain⟨hh,g,d,tk,os⟩:=s;have kb:∀b o,X.base.get? b=some o->hh.get? b=some o:=I.bk;refine Jk UH (by decide +kernel) UH (T0.keeps kb) (kb _ _ hC0) (n0.keeps kb) i0 ?_;have e1:(((hh.push (yI [])).push (yK C hh.objs.size)).push (yI [])).get? (hh.objs.size+1)=some (yK C hh.objs.size):=ub _ (Heap.get?_push_at (by simp only[uX]) rfl);have ge:=Uo (Obj.mapFields (·.setIfInBounds 0 (.ref ((hh.push (yI [])).push (yK C hh.objs.size)).objs.size))) e1 rfl;have kk:∀b o,hh.get? b=some o->(XS hh C).get? b=some o:=fun b o e=>by
  rw[uK _ _ (U8 (Nat.lt_succ_of_lt (um e)))];exact ub _ (ub _ (ub _ e))
 have I2:Inv X pins σ H ⟨XS hh C,g,d,tk,os⟩:=I.un (Un.kept kk) (I.hok.kept kk);have he:hh.objs.size<=hh.objs.size+1:=tE _;refine wpAny_bind (wpAny_standAt (wpAny_pure ⟨_,_,_,rfl,I2.bk _ _ hC0,ge,rfl,rfl,rfl,hx pins σ _ _ ⟨_,.ref C,none,H,hh.objs.size,rfl,I2,I.hok.fresh he,I.sz,he,fun p hp=>um (I.pin p hp).1,.inl ⟨_,_,ge,rfl,rfl,rfl,rfl,rfl⟩,h⟩⟩))
theorem xU(M:XCl0 X.K C)(hr:Room k X.A)(hg:Gl X x)(hm:X.mg x=some (.ref C))(hx:vF X E)(hdb:(x == ("__debug__":Str))=false:=by decide):
  jS X (.Raise (some (.Call (.Name x np) [] [] cpos)) none pos) (XT C E):=⟨WE M hr hg hm hx hdb⟩
end
end L2
namespace L2
open PySem
section
variable{T id:String}{rm:V->List V->Hp->VK->Prop}{t:TA}
theorem zav(K:ua)(pa:PlainAttrs T)(slot:Slot T name id)(hty:typeOf (.builtin id)=pure (.type "method_descriptor"))(hm:jMt X id rm)(ho:jE X o to)(h:X.K=K:=by rfl)
  (hbase:attributeBase o name X.env (eval o X.env)=eval o X.env:=by rfl) (hline:(apos.endLine == cpos.line)=true:=by rfl):jE X (.Call (.Attribute o name apos) [] [] cpos) (tBM0 K T rm to):=h ▸ wM pa slot hty hm ho hbase hline
end
end L2
namespace GN
open PySem L2 K11
variable{v:Addr}
abbrev Kvs:=List (Key×V)
variable{kvs:Kvs}
def szOf(kvs:Kvs)(t:Str):Option Nat:=match valV kvs (.inr t)with
 |some (.int n)=>some n.toNat
 |_=>none
def dl(kvs:Kvs):V->Option Nat
 |.int i=>if -1000000000000000000000000000000 < i/\i < 1000000000000000000000000000000 then some 0 else none
 |.str t=>szOf kvs t
 |_=>none
def hgt(kvs:Kvs):List V->Option Nat
 |[]=>some 0
 |x::xs=>match hgt kvs xs,dl kvs x with
  |some n,some s=>if s<=n then some (n-s+1)else none
  |_,_=>none
structure Rm(kvs:Kvs):Prop where
 e:∀kv∈kvs,∃(t:Str)(n:Nat),kv=(.inr t,.int (n:Int))/\n<=9
 l:kvs.length<=9
inductive Pz(kvs:Kvs)(H:Hp):List V->List V->Prop
 |nil:Pz kvs H [] []
 |num {i:Int} {vs xs:List V}:Sm i->Pz kvs H vs xs->Pz kvs H (.int i::vs) (.int i::xs)
 |shp {p q:Addr} {t:Str} {us vs xs ys:List V}:H p=some (.tup [.str t,.ref q])->H q=some (.tup us)->szOf kvs t=some us.length->us.length<=9->Pz kvs H us xs->Pz kvs H vs ys->Pz kvs H (.ref p::vs) (.str t::(xs++ys))
section
variable{us vs ys:List V}
theorem Pz.keep(t:Tups H H')(h:Pz kvs H vs xs):Pz kvs H' vs xs:=by
 induction h with
 |nil=>exact .nil
 |num a _ ih=>exact .num a ih
 |shp a b c d _ _ ih1 ih2=>exact .shp (t _ _ a) (t _ _ b) c d ih1 ih2
theorem Pz.split:∀{us vs zs:List V},Pz kvs H (us++vs) zs->∃xs ys,zs=xs++ys/\Pz kvs H us xs/\Pz kvs H vs ys
 |[],vs,zs,h=>⟨[],zs,rfl,.nil,h⟩
 |u::us,vs,zs,h=>by
  rw[List.cons_append]at h;cases h with
  |num a h =>
   obtain⟨xs,ys,e,h1,h2⟩:=Pz.split h;exact⟨_::xs,ys,by rw[e];rfl,.num a h1,h2⟩
  |shp a b c d e h =>
   obtain⟨xs,ys,e',h1,h2⟩:=Pz.split h;exact⟨_::(_++xs),ys,by rw[e',List.cons_append,Uj],.shp a b c d e h1,h2⟩
end
def But(v:Addr)(H H':Hp):Prop:=∀b o,b≠v->H b=some o->H' b=some o
theorem But.refl:But v H H:=fun _ _ _ h=>h
theorem But.of(s:Same H H'):But v H H':=fun b o _ h=>s b o h
theorem But.trans(a:But v H H1)(b:But v H1 H2):But v H H2:=fun c o n h=>b c o n (a c o n h)
theorem But.put{o:HO}:But v H (upd H v o):=fun b o' n h=>by rw[zh n];exact h
theorem But.tups(h:But v H H')(g:H v=some (.lst xs)):Tups H H':=fun p ys q=>h p _ (xY q g (by intro z;cases z)) q
theorem But.fresh(s:Same H H1)(n:H v=none)(h:But v H1 H2):Same H H2:=fun b o q=>h b o (zk q n) (s b o q)
def KnR(H:Hp)(q:Addr)(l:List (Str×Nat)):Prop:=∃ts:List Addr,H q=some (.tup (ts.map V.ref))/\ts.length=l.length/\∀(i:Nat) t a,ts[i]?=some t->l[i]?=some a->H t=some (.tup [.str a.1,.int (a.2:Int)])
def Kn(H:Hp)(p:Addr)(ks:List (List (Str×Nat))):Prop:=∃qs:List Addr,H p=some (.tup (qs.map V.ref))/\qs.length=ks.length/\∀(i:Nat) q l,qs[i]?=some q->ks[i]?=some l->KnR H q l
structure KsOk(ks:List (List (Str×Nat))):Prop where
 n:ks.flatten.length<=9
 s:∀a∈ks.flatten,a.2<=9
def puts(l:List (Str×Nat))(kvs:Kvs):Kvs:=l.foldl (fun kvs a=>putK kvs (.inr a.1) (.int (a.2:Int))) kvs
theorem Jl(a b:List (Str×Nat))(kvs:Kvs):puts (a++b) kvs=puts b (puts a kvs):=UJ
structure Rm'(kvs:Kvs)(n:Nat):Prop where
 e:∀kv∈kvs,∃(t:Str)(n:Nat),kv=(.inr t,.int (n:Int))/\n<=9
 l:kvs.length<=n
theorem zcP{a:Str×Nat}(h:Rm' kvs n)(ha:a.2<=9):Rm' (putK kvs (.inr a.1) (.int (a.2:Int))) (n+1):=by
 unfold putK;split
 ·refine⟨fun kv hkv=>?_,by rw[uc];have:=h.l;lia⟩
  obtain⟨x,hx,e⟩:=uw.mp hkv;obtain⟨t,m,ex,hm⟩:=h.e x hx;split at e
  ·rename_i c
   rw[<- e,c];exact⟨_,_,rfl,ha⟩
  ·rw[<- e]
   exact⟨t,m,ex,hm⟩
 ·refine⟨fun kv hkv=>?_,by rw[uk];have:=h.l;show _+1<=_;lia⟩
  rcases u0.mp hkv with z|z
  ·exact h.e kv z
  ·rw[ug.mp z]
   exact⟨_,_,rfl,ha⟩
theorem XU:∀{l:List (Str×Nat)}{kvs:Kvs}{n:Nat},Rm' kvs n->(∀a∈l,a.2<=9)->Rm' (puts l kvs) (n+l.length)
 |[],_,_,h,_=>h
 |a::l,kvs,n,h,hs=>by
  have:=XU (l:=l) (zcP h (hs a uS)) fun x hx=>hs x (u6 _ hx)
  rw[uJ,show n+(l.length+1)=n+1+l.length by lia];exact this
theorem KsOk.rm(h:KsOk ks):Rm (puts ks.flatten []):=by
 have r:=XU (l:=ks.flatten) (kvs:=[]) (n:=0) ⟨(fun kv hk=>by cases hk),ui _⟩ h.s;exact⟨r.e,by have:=r.l;have:=h.n;lia⟩
theorem wU{α:Type}{l:List α}{x:α}(h:l[i]?=some x):l.take i++[x]=l.take (i+1):=by
 rw[Us,h]
 rfl
theorem XV{k:List (Str×Nat)}(h:ks[i]?=some k):(ks.take (i+1)).flatten=(ks.take i).flatten++k:=by
 rw[<- wU h,List.flatten_append];simp
theorem zcQ{k:List (Str×Nat)}(h:ks[i]?=some k):(ks.take i).flatten.length+k.length<=ks.flatten.length:=by
 have e:ks.flatten=(ks.take (i+1)).flatten++(ks.drop (i+1)).flatten:=by rw[<- List.flatten_append,UM]
 rw[e,uk,XV h,uk];lia
theorem Yb:∀{l:List (Str×Nat)}{kvs:Kvs},(puts l kvs).length<=kvs.length+l.length
 |[],_=>ui _
 |a::l,kvs=>by
  have:=Yb (l:=l) (kvs:=putK kvs (.inr a.1) (.int (a.2:Int)))
  have h2:(putK kvs (.inr a.1) (.int (a.2:Int))).length<=kvs.length+1:=by
   unfold putK;split
   ·rw[uc];lia
   ·rw[uk];exact ui _
  show(puts l (putK kvs (.inr a.1) (.int (a.2:Int)))).length<=_;rw[uJ];lia
theorem Rm.sz(h:Rm kvs){t:Str}:(valV kvs (.inr t)=none/\szOf kvs t=none)\/∃n:Nat,valV kvs (.inr t)=some (.int (n:Int))/\szOf kvs t=some n/\n<=9:=by
 unfold szOf;cases e:valV kvs (.inr t)with
 |none=>exact .inl ⟨rfl,rfl⟩
 |some v =>
  unfold valV at e;obtain⟨kv,hk,ev⟩:=uz.mp e;obtain⟨t',n,e1,e2⟩:=h.e kv (UX hk);rw[e1]at ev;subst ev;exact .inr ⟨n,rfl,rfl,e2⟩
theorem Yc{kvs:Kvs}:∀{a b:List V},hgt kvs b=none->hgt kvs (a++b)=none
 |[],_,h=>h
 |x::a,b,h=>by
  have ih:=Yc (a:=a) h;show(match hgt kvs (a++b),dl kvs x with|some n,some s=>if s<=n then some (n-s+1)else none|_,_=>none)=none;rw[ih]
inductive spSizes(vs:List V)(H:Hp)(Q:VK)(e_3:XK):Prop
 |mk (p:Addr):(∃ks:List (List (Str×Nat)),vs=[.ref p]/\Kn H p ks/\KsOk ks/\∀(H':Hp)(d:Addr),Same H H'->H d=none->H' d=some (.dK (puts ks.flatten []))->Q (.ref d) H')->spSizes vs H Q e_3
inductive spShape(C:Addr)(vs:List V)(H:Hp)(Q:VK)(E:XK):Prop
 |mk (t:Str) (d:Addr) (vl:Addr) (kvs:Kvs):(∃vals:List V,vs=[.str t,.ref d,.ref vl]/\H d=some (.dK kvs)/\Rm kvs/\H vl=some (.lst vals)/\vals.length<=300/\(((szOf kvs t=none\/∃s,szOf kvs t=some s/\vals.length < s)/\E (.ref C) none H)\/∃(s:Nat)(us rest:List V),szOf kvs t=some s/\vals=rest.reverse++us.reverse/\us.length=s/\∀H' p q,But vl H H'->H' vl=some (.lst rest.reverse)->H' p=some (.tup [.str t,.ref q])->H' q=some (.tup us)->Q (.ref p) H'))->spShape C vs H Q E
def NotL(H:Hp)(v:V):Prop:=v=.non\/(∃i,v=.int i)\/(∃z,v=.str z)\/(∃p xs,v=.ref p/\H p=some (.tup xs)/\∀x∈xs,At x)\/∃p,v=.ref p/\H p=some (.dK [])
inductive spGrown(C:Addr)(vs:List V)(H:Hp)(Q:VK)(E:XK):Prop
 |mk (pk:Addr) (v:V):(∃ks:List (List (Str×Nat)),vs=[.ref pk,v]/\Kn H pk ks/\KsOk ks/\((NotL H v/\E (.ref C) none H)\/∃l xs,v=.ref l/\H l=some (.lst xs)/\xs.length<=300/\(∀x∈xs,∃b,Th H b x)/\(hgt (puts ks.flatten []) xs≠some 1->∀H',Same H H'->E (.ref C) none H')/\(hgt (puts ks.flatten []) xs=some 1->∀H' v,Same H H'->Pz (puts ks.flatten []) H' [v] xs->Q v H')))->spGrown C vs H Q E
section
variable{K:ua}
theorem scSizes:FnScope ["kinds","found","kind","tag","size"] ["kinds"] (zo YS):=⟨rfl,rfl,rfl,by decide +kernel,rfl,by decide +kernel,by decide +kernel⟩
theorem Jn(F:Fun K "sizes" "sizes" YS f fd):FnOk P w K mg base CX0 1 f fd ["kinds"] spSizes:=by
 refine F.by scSizes (fun vs H Q E h=>?_) (fun cdv A outer s H vs Q E hr h=>?_)
 ·obtain⟨p,ks,rfl,_⟩:=h
  rfl
 obtain⟨p,ks,rfl,⟨qs,hp,hlen,hK⟩,hF,q⟩:=h;refine⟨_,
  (zj (zE (i:=1) scSizes.nd rfl (Or.inl rfl) yx)
  (zj (yH PassesOwn.never rfl (YE (jv 0)) (zG (i:=2) scSizes.nd rfl (Or.inl rfl))
   (zn (yH PassesOwn.never rfl (YE (jv 2)) (VA rfl (zV (zG (i:=3) scSizes.nd rfl (Or.inl rfl)) (zV (zG (i:=4) scSizes.nd rfl (Or.inl rfl)) yV)))
    (zn (yy hr (jv 1) (jv 3) (jv 4))))))
  (zn (zw (jv 1))))),?_⟩
 have sl:=ym;intro d hd;have s1:=same_new (o:=.dK []) hd;refine(zf rfl (zf rfl ⟨⟨_,SqT.of (s1 _ _ hp)⟩,ve (xs:=qs.map V.ref) (fun i σ H'=>Same H H'/\H' d=some (.dK (puts (ks.take i).flatten []))/\∃x y z,σ=[sR p,sR d,x,y,z]) ⟨s1,zg,none,none,none,rfl⟩ (fun i σ H' _ h=>SqT.of (h.1 _ _ hp)) ?_ ?_⟩))
 ·rintro i v σ H1 hv ⟨s1,hd1,x,y,z,rfl⟩
  obtain⟨qq,hq,rfl⟩:=L2.gM hv;have hi:i < qs.length:=(ud.mp hq).1;have hk:ks[i]?=some (ks[i]'(by lia)):=uf _;obtain⟨k,ek⟩:∃k,k=ks[i]'(by lia):=⟨_,rfl⟩;rw[<- ek]at hk;obtain⟨ts,hts,htl,hT⟩:=hK i qq k hq hk;have hl:=zcQ hk;have hkl:=hF.n;refine(zf rfl (zf rfl ⟨⟨_,SqT.of (s1 _ _ hts)⟩,ve (xs:=ts.map V.ref) (fun j σ H'=>Same H H'/\H' d=some (.dK (puts ((ks.take i).flatten++k.take j) []))/\∃y z,σ=[sR p,sR d,sR qq,y,z]) ⟨s1,by rw[List.take_zero,Uu];exact hd1,_,_,rfl⟩ (fun i σ H' _ h=>SqT.of (h.1 _ _ hts)) ?_ ?_⟩))
  ·rintro j v σ H2 hv ⟨s2,hd2,y,z,rfl⟩
   obtain⟨tt,ht,rfl⟩:=L2.gM hv;have hj:j < ts.length:=(ud.mp ht).1;have ha:k[j]?=some (k[j]'(by lia)):=uf _;obtain⟨a,ea⟩:∃a,a=k[j]'(by lia):=⟨_,rfl⟩;rw[<- ea]at ha;have e2:=hT j tt a ht ha;refine⟨_,_,rfl,SqT.of (s2 _ _ e2),rfl,_,_,rfl,_,_,rfl,rfl,(zf rfl (zf rfl (zf rfl ⟨d,(zf rfl ⟨DPut.k (k:=.inr a.1) hd2 ?_,s2.put hd,?_,_,_,rfl⟩)⟩)))⟩
   ·have:=Yb (l:=(ks.take i).flatten++k.take j) (kvs:=[])
    rw[uk,Ui]at this;simp only[List.length_nil]at this
    lia
   ·rw[zg,<- wU ha,<- Uj,Jl _ [a]]
    rfl
  ·rintro σ H2 ⟨s2,hd2,y,z,rfl⟩
   rw[uc,htl,Ut (ui _),<- XV hk]at hd2;exact⟨s2,hd2,_,_,_,rfl⟩
 ·rintro σ H1 ⟨s1,hd1,x,y,z,rfl⟩
  rw[uc,hlen,Ut (ui _)]at hd1;exact(zf rfl (q _ d s1 hd hd1))
theorem scShape:FnScope ["tag","known_sizes","values","parts"] ["tag","known_sizes","values"] (zo YU):=⟨rfl,rfl,rfl,by decide +kernel,rfl,by decide +kernel,by decide +kernel⟩
theorem zaw:(["tag","known_sizes","values","parts","place"]:lS).Nodup:=by decide +kernel
theorem Jo(F:Fun K "shape" "shape" YU f fd)(mC:mg "NoValue"=some (.ref C))(xC:XCl0 K C)(m_len:mg "len"=none)(m_range:mg "range"=none)(m_tuple:mg "tuple"=none):FnOk P w K mg base (CXf P w) 1 f fd ["tag","known_sizes","values"] (spShape C):=by
 refine F.byx scShape (fun vs H Q E h=>?_) (fun cdv A outer s H vs Q E hr h=>?_)
 ·obtain⟨t,d,vl,kvs,vals,rfl,_⟩:=h
  rfl
 obtain⟨t,d,vl,kvs,vals,rfl,hd,hRm,hvl,hle,hq⟩:=h;refine⟨_,
  (zj (zK (jW.pt (xE (wP hr (jv 0) (jv 1)) (xD (zv zbn (yF hr (jv 1) (jv 0) (fun _ _=>rfl)) (zJ y0 rfl m_len uV (ja_c (jv 2) zi)) (zy _)))))
   (zn (xU xC hr rfl mC wf))  zD)
  (zj (j6 ["place"] (i:=3) scShape.nd rfl (Or.inl rfl) rfl (yL rfl m_range (ja_c (yF hr (jv 1) (jv 0) (fun _ _=>rfl)) zi)) (fun _ _ _ _ _=>(zG (i:=4) zaw rfl (Or.inl rfl))) (fun _ _ _ _ _=>yC) (fun _ _ _ _ _=>(zav K uD tm tq j7 (jv 2))))
  (zn (zw (zT (ja_c (jv 0) (ja_c (yu w5 rfl m_tuple Uq (ja_c (jv 3) zi)) zi))))))),?_⟩
 have sl:=ym;have dg:DGet H d (.str t) (valV kvs (.inr t)):=DGet.k (k:=.inr t) hd;refine(zf rfl (zf rfl ⟨d,(zf rfl ⟨dg,(zf rfl ?_)⟩)⟩));rcases hq with⟨hb,q⟩|⟨n,us,rest,hn,ev,hu,q⟩
 ·rcases hRm.sz (t:=t)with⟨e1,e2⟩|⟨n,e1,e2,_⟩
  ·rw[e1]
   exact iteT q
  ·rw[e1]
   refine iteF (zf rfl (zf rfl ⟨d,(zf rfl ⟨by rw[<- e1];exact dg,(zf rfl ⟨vl,(zf rfl ⟨.inl (SqL.of hvl),(zI rfl rfl (zf rfl (ite2 (fun _=>q) (fun c=>?_))))⟩)⟩)⟩)⟩))
   exfalso
   apply c
   rw[decide_eq_true_eq];rcases hb with z|⟨s,z,z2⟩
   ·rw[e2]at z;cases z
   ·rw[e2]at z
    injection z with z
    lia
 ·rcases hRm.sz (t:=t)with⟨e1,e2⟩|⟨n',e1,e2,n9⟩
  ·rw[e2]at hn;cases hn
  rw[e2]at hn;injection hn with hn
  subst hn;rw[e1];refine iteF (zf rfl (zf rfl ⟨d,(zf rfl ⟨by rw[<- e1];exact dg,(zf rfl ⟨vl,(zf rfl ⟨.inl (SqL.of hvl),(zI rfl rfl (zf rfl (ite2 (fun c=>?_) (fun _=>?_))))⟩)⟩)⟩)⟩))
  ·exfalso
   rw[decide_eq_true_eq,ev,uk,Uh,Uh]at c;lia
  refine(zf rfl (zf rfl ⟨d,(zf rfl ⟨by rw[<- e1];exact dg,(zf rfl ⟨by lia,by lia,xB (lo:=0) (n:=(n':Int).toNat) (fun j τ ys H'=>But vl H H'/\H' vl=some (.lst (rest.reverse++(us.drop j).reverse))/\(∃x,τ=[some (.str t),sR d,sR vl,none,x])/\ys=us.take j) ⟨.refl,by rw[tG,<- ev];exact hvl,⟨none,rfl⟩,rfl⟩ ?_ ?_⟩)⟩)⟩))
  ·rintro j τ ys H1 hj ⟨b1,h1,⟨x,rfl⟩,rfl⟩
   have hj':j < us.length:=by lia
   have ed:=Uc hj';rw[ed,List.reverse_cons,<- Uj]at h1;refine(zf rfl ⟨.inl ⟨rfl,_,SqL.of h1⟩,vl,_,us[j],rfl,rfl,h1,by simp,?_⟩);rw[List.dropLast_concat];refine⟨by rw[Ui];lia,b1.trans .put,zg,⟨_,rfl⟩,?_⟩;exact wU (uf hj')
  ·rintro τ ys H1 ⟨b1,h1,_,rfl⟩ lp hlp
   rw[show(n':Int).toNat=us.length by lia,UU,List.reverse_nil,Uu]at h1;rw[show(n':Int).toNat=us.length by lia,U7];have s2:=same_new (o:=.lst us) hlp;refine(zf rfl (zf rfl ⟨lp,us,rfl,.inl ⟨SqL.of zg,fun q1 hq1=>⟨by show 2<=sizeLine;lia,fun p hp=>?_⟩⟩⟩));have s3:=same_new (o:=.tup us) hq1;have s4:=same_new (o:=.tup [.str t,.ref q1]) hp;exact q _ p q1 (b1.trans (.of ((s2.trans s3).trans s4))) (s4 _ _ (s3 _ _ (s2 _ _ h1))) zg (s4 _ _ zg)
theorem scGrown:FnScope ["kinds","parts","known_sizes","values","thing"] ["kinds","parts"] (zo YT):=⟨rfl,rfl,rfl,by decide +kernel,rfl,by decide +kernel,by decide +kernel⟩
theorem Jp(F:Fun K "grown" "grown" YT f fd)(mC:mg "NoValue"=some (.ref C))(xC:XCl0 K C)(m_len:mg "len"=none)(m_isinstance:mg "isinstance"=none)(m_list:mg "list"=none)(m_str:mg "str"=none)(m_reversed:mg "reversed"=none)(GS:Ca P w K mg base CX0 1 "sizes" ["kinds"] spSizes)(GH:Ca P w K mg base (CXf P w) 1 "shape" ["tag","known_sizes","values"] (spShape C))(GW:Ca P w K mg base CX0 1 "is_whole" ["thing"] spWholeB)(GI:Ca P w K mg base CX0 1 "in_bounds" ["number"] spIn):FnOk P w K mg base (CXf P w) 2 f fd ["kinds","parts"] (spGrown C):=by
 refine F.byx scGrown (fun vs H Q E h=>?_) (fun cdv A outer s H vs Q E hr h=>?_)
 ·obtain⟨pk,v,ks,rfl,_⟩:=h
  rfl
 obtain⟨pk,v,ks,rfl,hK,hok,hq⟩:=h;refine⟨_,
  (zj (zK (xr (z7 (zJ zS rfl m_isinstance uq (ja_c (jv 1) (ja_c (z5 (v:=.ty "list") rfl m_list u5 rfl) zi)))))
   (zn (xU xC hr rfl mC wf))  zD)
  (zj (zE (i:=2) scGrown.nd rfl (Or.inl rfl) (zM GS.upx hr rfl yS (ja_c (jv 0) zi)))
  (zj (zE (i:=3) scGrown.nd rfl (Or.inl rfl) (zU zi))
  (zj (yH ownx rfl (YL rfl m_reversed (ja_c (jv 1) zi)) (zG (i:=4) scGrown.nd rfl (Or.inl rfl))
   (zn (zK (z7 (zJ zS rfl m_isinstance uq (ja_c (jv 4) (ja_c (z5 (v:=.ty "str") rfl m_str PyProof.Rows.boot_str rfl) zi))))
    (zn (zP (yR uD uN uO yj (jv 3) (ja_c (zM GH hr rfl yS (ja_c (jv 4) (ja_c (jv 2) (ja_c (jv 3) zi)))) zi))))
    (zn (zK (jW.pt (we (z7 (zM GW.upx hr rfl yS (ja_c (jv 4) zi))) (xq (z7 (zM GI.upx hr rfl yS (ja_c (jv 4) zi))))))
     (zn (zP (yR uD uN uO yj (jv 3) (ja_c (jv 4) zi))))
     (zn (xU xC hr rfl mC wf)))))))
  (zj (zK (zv xZ (zJ y0 rfl m_len uV (ja_c (jv 3) zi)) zp (zy _))
   (zn (xU xC hr rfl mC wf))  zD)
  (zn (zw (zR Xu (jv 3) zp (fun _ _=>rfl))))))))),?_⟩
 have sl:=ym;rcases hq with⟨hn,q⟩|⟨l,xs,rfl,hl,h300,hth,qE,qQ⟩
 ·rcases hn with rfl|⟨i,rfl⟩|⟨z,rfl⟩|⟨p,ys,rfl,hp,_⟩|⟨p,rfl,hp⟩
  ·exact(zf rfl ⟨_,_,_,_,rfl,.non,rfl,(zf rfl (iteT q))⟩)
  ·exact(zf rfl ⟨_,_,_,_,rfl,.int _,rfl,(zf rfl (iteT q))⟩)
  ·exact(zf rfl ⟨_,_,_,_,rfl,.str _,rfl,(zf rfl (iteT q))⟩)
  ·exact(zf rfl ⟨_,_,_,_,rfl,.tup hp,rfl,(zf rfl (iteT q))⟩)
  ·exact(zf rfl ⟨_,_,_,_,rfl,.dK hp,rfl,(zf rfl (iteT q))⟩)
 obtain⟨kvs,ek⟩:∃kvs,kvs=puts ks.flatten []:=⟨_,rfl⟩;have hRm:Rm kvs:=by rw[ek];exact hok.rm
 rw[<- ek]at qE qQ;refine(zf rfl ⟨_,_,_,_,rfl,.lst hl,rfl,(zf rfl (iteF ?_))⟩);refine(zf rfl ⟨pk,ks,rfl,hK,hok,fun H1 d s1 nd hd1=>?_⟩);rw[<- ek]at hd1;refine⟨by show 0<=sizeLine;lia,fun vl hvl=>?_⟩;have s2:=same_new (o:=.lst []) hvl;have s02:=s1.trans s2;have nvl:H vl=none:=s1.free hvl;have nlv:l≠vl:=zk hl nvl;have ndv:d≠vl:=zk hd1 hvl;refine(zf rfl ⟨l,(zf rfl ⟨SqL.of (s02 _ _ hl),Za (xs:=xs) (fun i σ H'=>∃(vals:List V)(vt:Option V),σ=[sR pk,sR l,sR d,sR vl,vt]/\But vl H1 H'/\Same H H'/\H' vl=some (.lst vals)/\hgt kvs (xs.drop (xs.length-i))=some vals.length/\vals.length<=i/\Pz kvs H' vals.reverse (xs.drop (xs.length-i))) ⟨[],none,rfl,.of s2,s02,zg,by rw[Nat.sub_zero,UU];rfl,ui _,by rw[Nat.sub_zero,UU];exact .nil⟩ ?_ ?_ ?_⟩)⟩)
 ·rintro i σ H' hi ⟨vals,vt,_,_,s',_⟩
  exact SqL.of (s' _ _ hl)
 ·rintro i x σ H2 hx ⟨vals,vt,rfl,b2,sm,gv,hg,hle,hP⟩
  have hi:i < xs.length:=by
   have:=(ud.mp hx).1
   rw[Uh]at this;exact this
  rw[tj hi]at hx;have hdr:xs.drop (xs.length-(i+1))=x::xs.drop (xs.length-i):=by
   have h1:xs.length-(i+1) < xs.length:=by lia
   rw[Uc h1,show xs.length-(i+1)+1=xs.length-i by lia]
   congr 1
   rw[show xs.length-1-i=xs.length-(i+1) by lia]at hx;exact(ud.mp hx).2
  have bad:dl kvs x=none\/(∃s,dl kvs x=some s/\vals.length < s)->∀H',Same H H'->E (.ref C) none H':=fun hb=>qE (by
   have e:xs=xs.take (xs.length-(i+1))++xs.drop (xs.length-(i+1)):=(UM ..).symm;have hz:hgt kvs (xs.drop (xs.length-(i+1)))=none:=by
    rw[hdr];show(match hgt kvs (xs.drop (xs.length-i)),dl kvs x with|some n,some s=>if s<=n then some (n-s+1)else none|_,_=>none)=none;rw[hg];rcases hb with z|⟨s,z,z2⟩
    ·rw[z]
    ·rw[z]
     show(if s<=vals.length then _ else _)=none;rw[if_neg (by lia)]
   rw[e,Yc hz];intro z;cases z)
  have hl300:vals.length<=300:=by lia
  have fin:∀(H':Hp)(y:V)(vals':List V)(s:Nat),dl kvs x=some s->s<=vals.length->But vl H2 H'->vals'.length+s=vals.length->H' vl=some (.lst (vals'++[y]))->Pz kvs H' (y::vals'.reverse) (x::xs.drop (xs.length-i))->∃(vals:List V)(vt:Option V),[sR pk,sR l,sR d,sR vl,some x]=[sR pk,sR l,sR d,sR vl,vt]/\But vl H1 H'/\Same H H'/\H' vl=some (.lst vals)/\hgt kvs (xs.drop (xs.length-(i+1)))=some vals.length/\vals.length<=i+1/\Pz kvs H' vals.reverse (xs.drop (xs.length-(i+1))):=fun H' y vals' s e1 e2 b3 e3 g P=>by
   refine⟨_,_,rfl,b2.trans b3,But.fresh sm nvl b3,g,?_,by rw[uk];show _+1<=_;lia,by rw[hdr,List.reverse_append];exact P⟩;rw[hdr];show(match hgt kvs (xs.drop (xs.length-i)),dl kvs x with|some n,some s=>if s<=n then some (n-s+1)else none|_,_=>none)=_;rw[hg,e1];show(if s<=vals.length then some (vals.length-s+1)else none)=_;rw[if_pos e2,uk];show some (vals.length-s+1)=some (vals'.length+1);rw[show vals.length-s+1=vals'.length+1 by lia]
  have gd2:H2 d=some (.dK kvs):=b2 _ _ ndv hd1;obtain⟨b,hT⟩:=hth x (uM hx);have hT2:=hT.keep sm;cases hT2 with
  |str z =>
   refine(zf rfl ⟨_,_,_,_,rfl,.str _,rfl,(zf rfl (iteT ?_))⟩);have ez:dl kvs (.str z)=szOf kvs z:=rfl;refine(zf rfl ⟨.inl ⟨rfl,_,SqL.of gv⟩,(zf rfl (zf rfl (zf rfl ⟨z,d,vl,kvs,vals,rfl,gd2,hRm,gv,hl300,?_⟩)))⟩);rcases hRm.sz (t:=z)with⟨_,e2⟩|⟨n,_,e2,n9⟩
   ·exact .inl ⟨.inl e2,bad (.inl (ez.trans e2)) _ sm⟩
   ·rcases Nat.lt_or_ge vals.length n with c|c
    ·exact .inl ⟨.inr ⟨n,e2,c⟩,bad (.inr ⟨n,ez.trans e2,c⟩) _ sm⟩
    ·have ev:vals=((vals.reverse).drop n).reverse++((vals.reverse).take n).reverse:=by
      rw[<- List.reverse_append,UM,List.reverse_reverse]
     have ul:((vals.reverse).take n).length=n:=by rw[Ui,Uh];lia
     refine .inr ⟨n,(vals.reverse).take n,(vals.reverse).drop n,e2,ev,ul,fun H3 p qq b3 g3 gp gq=>?_⟩;refine⟨vl,(zI rfl rfl ⟨g3,by rw[Uh,U5,Uh];lia,?_⟩)⟩;have t3:Tups H2 H3:=b3.tups gv;have nb:But vl H3 (upd H3 vl (.lst (((vals.reverse).drop n).reverse++[V.ref p]))):=.put;have t4:=nb.tups g3;refine fin _ (.ref p) _ n (ez.trans e2) c (b3.trans nb) (by rw[Uh,U5,Uh];lia) zg ?_;have hP':=hP;rw[<- UM n vals.reverse]at hP';obtain⟨xs1,xs2,ex,p1,p2⟩:=hP'.split;rw[ex,List.reverse_reverse];exact .shp (t4 _ _ gp) (t4 _ _ gq) (by rw[ul];exact e2) (by lia) (p1.keep (t3.trans t4)) (p2.keep (t3.trans t4))
  |int j =>
   refine(zf rfl ⟨_,_,_,_,rfl,.int _,rfl,(zf rfl (iteF ?_))⟩);refine(zf rfl ⟨_,_,rfl,.int j,(zf rfl (iteT (zf rfl (zf rfl (zf rfl ?_)))))⟩);by_cases c:-1000000000000000000000000000000 < j/\j < 1000000000000000000000000000000
   ·rw[decide_eq_true c]
    have ej:dl kvs (.int j)=some 0:=if_pos c;refine iteT (zf rfl ⟨.inl ⟨rfl,_,SqL.of gv⟩,(zf rfl ⟨vl,(zI rfl rfl ⟨gv,by lia,?_⟩)⟩)⟩);have nb:But vl H2 (upd H2 vl (.lst (vals++[V.int j]))):=.put;exact fin _ (.int j) vals 0 ej (uU _) nb rfl zg (.num c (hP.keep (nb.tups gv)))
   ·rw[decide_eq_false c]
    have ej:dl kvs (.int j)=none:=if_neg c;exact iteF (bad (.inl ej) _ sm)
  |bl j=>exact(zf rfl ⟨_,_,_,_,rfl,.bl _,rfl,(zf rfl (iteF (zf rfl ⟨_,_,rfl,.bl j,(zf rfl (iteF (iteF (bad (.inl rfl) _ sm))))⟩)))⟩)
  |non=>exact(zf rfl ⟨_,_,_,_,rfl,.non,rfl,(zf rfl (iteF (zf rfl ⟨_,_,rfl,.non,(zf rfl (iteF (iteF (bad (.inl rfl) _ sm))))⟩)))⟩)
  |lst h=>exact(zf rfl ⟨_,_,_,_,rfl,.lst h,rfl,(zf rfl (iteF (zf rfl ⟨_,_,rfl,.lst h,(zf rfl (iteF (iteF (bad (.inl rfl) _ sm))))⟩)))⟩)
  |tup h=>exact(zf rfl ⟨_,_,_,_,rfl,.tup h,rfl,(zf rfl (iteF (zf rfl ⟨_,_,rfl,.tup h,(zf rfl (iteF (iteF (bad (.inl rfl) _ sm))))⟩)))⟩)
  |dK h=>exact(zf rfl ⟨_,_,_,_,rfl,.dK h,rfl,(zf rfl (iteF (zf rfl ⟨_,_,rfl,.dK h,(zf rfl (iteF (iteF (bad (.inl rfl) _ sm))))⟩)))⟩)
 ·rintro σ H2 ⟨vals,vt,rfl,b2,sm,gv,hg,hle,hP⟩
  rw[Uw,tG]at hg hP;refine(zf rfl ⟨vl,(zf rfl ⟨.inl (SqL.of gv),rfl,(zf rfl (ite2 (fun c=>?_) (fun c=>?_)))⟩)⟩)
  ·refine qE (fun z=>?_) _ sm
   rw[hg]at z;injection z with z
   rw[z]at c;exact absurd c (by decide)
  ·have h1:vals.length=1:=by
    by_cases z:vals.length=1
    ·exact z
    ·exfalso
     apply c
     simp
     lia
   match vals,h1 with
   |[y],_=>exact(zf rfl ⟨vl,_,_,_,rfl,rfl,SqL.of gv,zq (j:=0) rfl,qQ hg _ y sm hP⟩)
end
end GN
namespace K31
open PySem L2
open GN (Zg xL sIn XM sRes)
theorem same_new{p:Addr}(h:H p=none)(o:HO):Same H (upd H p o):=fun b u q=>by rw[zh (zk q h)];exact q
theorem t30:(10:Int) ^ (30:Int).toNat=1000000000000000000000000000000:=by decide
def Sm(i:Int):Prop:=-1000000000000000000000000000000 < i/\i < 1000000000000000000000000000000
set_option exponentiation.threshold 2000 in
theorem big_of{i:Int}(h:i.natAbs < 10 ^ 100):i.natAbs < BG:=uv h (by unfold BG;decide +kernel)
theorem Sm.big{i:Int}(h:Sm i):i.natAbs < BG:=big_of (by unfold Sm at h;lia)
theorem ifT{b:Bool}{A B:Prop}(e:b=true)(h:A):if b=true then A else B:=by rw[if_pos e];exact h
theorem ifF{b:Bool}{A B:Prop}(e:b=false)(h:B):if b=true then A else B:=by rw[if_neg (by rw[e];decide)];exact h
inductive Nu(H:Hp):V->Option Int->Prop
 |int {i:Int}:Sm i->Nu H (.int i) (some i)
 |tup {p:Addr} {xs:List V}:H p=some (.tup xs)->Nu H (.ref p) none
def res(w:Str)(i j:Int):Int:=if w="plus"then i+j else if w="minus"then i-j else if w="times"then i*j else if w="over"then i.fdiv j else if w="rest"then i.fmod j else if w="less"then(if i < j then 1 else 0)else(if i=j then 1 else 0)
def fw(w:Str):Option Int->Option Int->Str
 |some i,some j=>if j=0/\(w="over"\/w="rest")then "nought"else if -1000000000000000000000000000000 < res w i j/\res w i j < 1000000000000000000000000000000 then ""else "great"
 |_,_=>"nonumber"
theorem fw_ss(w:Str)(i j:Int):fw w (some i) (some j)=if j=0/\(w="over"\/w="rest")then("nought":Str)else if -1000000000000000000000000000000 < res w i j/\res w i j < 1000000000000000000000000000000 then("":Str)else("great":Str):=rfl
def spWhole:Sp:=fun vs H Q _=>∃v o,vs=[v]/\Nu H v o/\Q (.bl o.isSome) H
def spIn:Sp:=fun vs H Q _=>∃i:Int,vs=[.int i]/\Q (.bl (decide (-1000000000000000000000000000000 < i/\i < 1000000000000000000000000000000))) H
inductive jb(vs:List V)(H:Hp)(Q:VK)(e_3:XK):Prop
 |mk (w:Str) (i:Int):(∃j:Int,vs=[.str w,.int i,.int j]/\Sm i/\Sm j/\(j=0->w≠"over"/\w≠"rest")/\Q (.int (res w i j)) H)->jb vs H Q e_3
def spFault(C:Addr):Sp:=fun vs H Q _=>∃e v,vs=[.ref e,v]/\H e=some (XO e C none)/\∀d,H d=none->d≠e->Q .non (upd (upd H d (XD d [("word",v)])) e (XO e C (some d)))
inductive spReck(C:Addr)(vs:List V)(H:Hp)(Q:VK)(E:XK):Prop
 |mk (w:Str) (x:V) (y:V) (a:Option Int):(∃b:Option Int,vs=[.str w,x,y]/\Nu H x a/\Nu H y b/\(fw w a b=""->∀(i j:Int)(H':Hp),Same H H'->a=some i->b=some j->Q (.int (res w i j)) H')/\(fw w a b≠""->∀d H',Same H H'->H' d=some (XD d [("word",.str (fw w a b))])->E (.ref C) (some d) H'))->spReck C vs H Q E
section
variable{K:ua}{R:Addr}
theorem zax:FnScope ["self","word"] ["self","word"] (zo Zg):=⟨rfl,rfl,rfl,by decide +kernel,rfl,by decide +kernel,by decide +kernel⟩
theorem ok_fault{fi:Addr}(F:Fun K "__init__" "Fault.__init__" Zg f fd)(xw:U9 K C "word"=some none)(M:XCl K C fi)(B:XBase K R)(mR:mg "ReuseError"=some (.ref R)):FnOk P w K mg base CX0 1 f fd ["self","word"] (spFault C):=by
 refine F.by zax (fun vs H Q E h=>?_) (fun cdv A' outer s H vs Q E hr h=>?_)
 ·obtain⟨e,v,rfl,_⟩:=h
  rfl
 obtain⟨e,v,rfl,hX,q⟩:=h;refine⟨_,zj (zP ⟨VF M B rfl mR (ja_c (jv 0) (ja_c (jv 1) zi)).out⟩) (zn ⟨Q3 M (jv 0).out (jv 1).out⟩),?_⟩;refine(zf rfl (zf rfl ⟨e,[v],none,rfl,by show 1<=sizeLine;decide,hX,?_⟩));exact(zf rfl (zf rfl ⟨e,rfl,hX,xw,fun d hd ne=>q d hd ne⟩))
theorem scWhole:FnScope ["thing"] ["thing"] (zo xL):=⟨rfl,rfl,rfl,by decide +kernel,rfl,by decide +kernel,by decide +kernel⟩
theorem ok_whole(F:Fun K "is_whole" "is_whole" xL f fd)(m_isinstance:mg "isinstance"=none)(m_int:mg "int"=none)(m_bool:mg "bool"=none):FnOk P w K mg base CX0 1 f fd ["thing"] spWhole:=by
 refine F.by scWhole (fun vs H Q E h=>?_) (fun cdv A outer s H vs Q E hr h=>?_)
 ·obtain⟨v,o,rfl,_⟩:=h
  rfl
 obtain⟨v,o,rfl,h,q⟩:=h;refine⟨_,
  (zn (zw (xG (zJ zS rfl m_isinstance uq (ja_c (jv 0) (ja_c (z5 (v:=.ty "int") rfl m_int Up rfl) zi))) (xF (j5 (zJ zS rfl m_isinstance uq (ja_c (jv 0) (ja_c (z5 (v:=.ty "bool") rfl m_bool UI rfl) zi)))))))),?_⟩
 cases h with
 |int h=>exact(zf rfl ⟨_,_,_,_,rfl,.int _,rfl,(zf rfl (iteT (zf rfl ⟨_,_,_,_,rfl,.int _,rfl,(zf rfl (q))⟩)))⟩)
 |tup h=>exact(zf rfl ⟨_,_,_,_,rfl,.tup h,rfl,(zf rfl (iteF q))⟩)
theorem scIn:FnScope ["number"] ["number"] (zo sIn):=⟨rfl,rfl,rfl,by decide +kernel,rfl,by decide +kernel,by decide +kernel⟩
theorem ok_in(F:Fun K "in_bounds" "in_bounds" sIn f fd):FnOk P w K mg base CX0 1 f fd ["number"] spIn:=by
 refine F.by scIn (fun vs H Q E h=>?_) (fun cdv A outer s H vs Q E hr h=>?_)
 ·obtain⟨i,rfl,_⟩:=h
  rfl
 obtain⟨i,rfl,q⟩:=h;refine⟨_,(zn (zw (ZU xI xI (yr (zH xH zp zp)) (jv 0) (zH xH zp zp)))),?_⟩;refine(zI rfl rfl ⟨⟨by decide,by decide,by decide⟩,(zf rfl (zf rfl (zI rfl rfl ?_)))⟩);rw[t30];by_cases c:-1000000000000000000000000000000 < i
 ·refine(zf rfl (itD c ?_))
  refine(zI rfl rfl ⟨⟨by decide,by decide,by decide⟩,(zI rfl rfl ?_)⟩);rw[t30];have e:decide (-1000000000000000000000000000000 < i/\i < 1000000000000000000000000000000)=decide (i < 1000000000000000000000000000000):=by simp[c]
  rw[e]at q;exact q
 ·refine(zf rfl (itDN c ?_))
  have e:decide (-1000000000000000000000000000000 < i/\i < 1000000000000000000000000000000)=false:=by simp[c]
  rw[e]at q;exact q
theorem scRes:FnScope ["word","a","b","holds"] ["word","a","b"] (zo sRes):=⟨rfl,rfl,rfl,by decide +kernel,rfl,by decide +kernel,by decide +kernel⟩
theorem ok_res(F:Fun K "result_of" "result_of" sRes f fd):FnOk P w K mg base CX0 1 f fd ["word","a","b"] jb:=by
 refine F.by scRes (fun vs H Q E h=>?_) (fun cdv A outer s H vs Q E hr h=>?_)
 ·obtain⟨w,i,j,rfl,_⟩:=h
  rfl
 obtain⟨w,i,j,rfl,hi,hj,hz,q⟩:=h;refine⟨_,
  (zj (zK (zv z6 (jv 0) zu (zy _)) (zn (zw (zH xc (jv 1) (jv 2)))) zD)
  (zj (zK (zv z6 (jv 0) zu (zy _)) (zn (zw (zH wN (jv 1) (jv 2)))) zD)
  (zj (zK (zv z6 (jv 0) zu (zy _)) (zn (zw (zH Zz (jv 1) (jv 2)))) zD)
  (zj (zK (zv z6 (jv 0) zu (zy _)) (zn (zw (zH Z8 (jv 1) (jv 2)))) zD)
  (zj (zK (zv z6 (jv 0) zu (zy _)) (zn (zw (zH ZA (jv 1) (jv 2)))) zD)
  (zj (zE (i:=3) scRes.nd rfl (Or.inl rfl) (yZ (zv z6 (jv 0) zu (zy _)) (yB xI (jv 1) (jv 2) (zy _)) (yB z6 (jv 1) (jv 2) (zy _))))
  (zn (zw (yZ (z7 (jv 3)) zp zp))))))))),?_⟩
 unfold res at q;have sE:∀a b:Str,(V.str a=V.str b)=(a=b):=fun a b=>by simp
 refine(zf rfl ⟨rfl,(zf rfl ?_)⟩);by_cases c1:w="plus"
 ·rw[if_pos c1]at q
  rw[if_pos (by simp[c1])];exact(zf rfl (zf rfl (zI rfl rfl (q))))
 rw[if_neg c1]at q;rw[if_neg (by simp[c1])];refine(zf rfl ⟨rfl,(zf rfl ?_)⟩);by_cases c2:w="minus"
 ·rw[if_pos c2]at q
  rw[if_pos (by simp[c2])];exact(zf rfl (zf rfl (zI rfl rfl (q))))
 rw[if_neg c2]at q;rw[if_neg (by simp[c2])];refine(zf rfl ⟨rfl,(zf rfl ?_)⟩);by_cases c3:w="times"
 ·rw[if_pos c3]at q
  rw[if_pos (by simp[c3])];exact(zf rfl (zf rfl (zI rfl rfl ⟨⟨hi.big,hj.big⟩,q⟩)))
 rw[if_neg c3]at q;rw[if_neg (by simp[c3])];refine(zf rfl ⟨rfl,(zf rfl ?_)⟩);by_cases c4:w="over"
 ·rw[if_pos c4]at q
  rw[if_pos (by simp[c4])];exact(zf rfl (zf rfl (zI rfl rfl ⟨⟨fun z=>(hz z).1 c4,hj.big⟩,q⟩)))
 rw[if_neg c4]at q;rw[if_neg (by simp[c4])];refine(zf rfl ⟨rfl,(zf rfl ?_)⟩);by_cases c5:w="rest"
 ·rw[if_pos c5]at q
  rw[if_pos (by simp[c5])];exact(zf rfl (zf rfl (zI rfl rfl ⟨(fun z=>(hz z).2 c5),q⟩)))
 rw[if_neg c5]at q;rw[if_neg (by simp[c5])];refine(zf rfl ⟨rfl,(zf rfl ?_)⟩);by_cases c6:w="less"
 ·rw[if_pos c6]at q
  rw[if_pos (by simp[c6])];refine(zf rfl (zf rfl (zI rfl rfl (zf rfl (zf rfl ?_)))));by_cases c7:i < j
  ·rw[if_pos c7]at q
   exact itD c7 q
  ·rw[if_neg c7]at q
   exact itDN c7 q
 ·rw[if_neg c6]at q
  rw[if_neg (by simp[c6])];refine(zf rfl (zf rfl ⟨rfl,(zf rfl (zf rfl ?_))⟩));by_cases c7:i=j
  ·rw[if_pos c7]at q
   rw[if_pos (by simp[c7])];exact q
  ·rw[if_neg c7]at q
   rw[if_neg (by simp[c7])];exact q
theorem XW{x:Str}:∀{l:lS},inV (.str x) (l.map V.str)=decide (x∈l)
 |[]=>rfl
 |y::l=>by
  have ih:=XW (x:=x) (l:=l);unfold inV at ih ⊢;rw[uC,tN,ih];show((y == x) || decide (x∈l))=_;by_cases e:y=x
  ·subst e;simp
  ·have e':(y == x)=false:=beq_eq_false_iff_ne.mpr e
   have e2:¬ x=y:=fun z=>e z.symm;simp[e',e2]
theorem scReck:FnScope ["word","a","b","result"] ["word","a","b"] (zo XM):=⟨rfl,rfl,rfl,by decide +kernel,rfl,by decide +kernel,by decide +kernel⟩
theorem XX{w:Str}{a b:Option Int}(h:¬ (a.isSome=true/\b.isSome=true)):fw w a b="nonumber":=by
 cases a with
 |none=>rfl
 |some i =>
  cases b with
  |none=>rfl
  |some j=>exact absurd ⟨rfl,rfl⟩ h
theorem Jq{E:XK}{v:V}(hE:∀d H',Same H H'->H' d=some (XD d [("word",v)])->E (.ref C) (some d) H')(e:Addr)(he:H e=none):
  spFault C [.ref e,v] (upd H e (XO e C none)) (fun u H2=>u=.non/\∃dx,H2 e=some (XO e C dx)/\E (.ref C) dx (drp H2 e)) E0:=by
 refine⟨e,v,rfl,zg,fun d hd hne=>⟨rfl,some d,zg,?_⟩⟩;have hd':H d=none:=by rw[zh hne]at hd;exact hd
 refine hE d _ (fun b u hb=>?_) ?_
 ·rw[vE (zk hb he),zh (zk hb he),zh (zk hb hd'),zh (zk hb he)]
  exact hb
 ·rw[vE hne,zh hne]
  exact zg
theorem ok_reck(F:Fun K "reckoned" "reckoned" XM f fd)(GX:Xa P w K mg base 1 "Fault" C ["self","word"] (spFault C))(GW:Ca P w K mg base CX0 1 "is_whole" ["thing"] spWhole)(GR:Ca P w K mg base CX0 1 "result_of" ["word","a","b"] jb)(GI:Ca P w K mg base CX0 1 "in_bounds" ["number"] spIn):FnOk P w K mg base (CXf P w) 3 f fd ["word","a","b"] (spReck C):=by
 refine F.byx scReck (fun vs H Q E h=>?_) (fun cdv A outer s H vs Q E hr h=>?_)
 ·obtain⟨w,x,y,a,b,rfl,_⟩:=h
  rfl
 obtain⟨w,x,y,a,b,rfl,hx,hy,q1,q2⟩:=h;have hr1:Room 1 _:=hr.mono (by decide);refine⟨_,
  (zj (zK (jW.pt (xE (xr (z7 (zM GW.upx hr1 rfl yS (ja_c (jv 1) zi)))) (xD (xr (z7 (zM GW.upx hr1 rfl yS (ja_c (jv 2) zi)))))))
   (zn (vH GX hr rfl wf (ja_c zu zi))) zD)
  (zj (zK (jW.pt (we (zv z6 (jv 2) zp (zy _)) (xq (zv jx (jv 0) (zT (ja_c zu (ja_c zu zi))) (by with_unfolding_all rfl)))))
   (zn (vH GX hr rfl wf (ja_c zu zi))) zD)
  (zj (zE (i:=3) scReck.nd rfl (Or.inl rfl) (zM GR.upx hr1 rfl yS (ja_c (jv 0) (ja_c (jv 1) (ja_c (jv 2) zi)))))
  (zj (zK (xr (z7 (zM GI.upx hr1 rfl yS (ja_c (jv 3) zi))))
   (zn (vH GX hr rfl wf (ja_c zu zi))) zD)
  (zn (zw (jv 3))))))),?_⟩
 have bad:∀(z:Str)(H':Hp),Same H H'->fw w a b=z->z≠""->(YJ C (spFault C) E (yf (tC (.str z)) tNil):TS) { nx:=fun _ H'=>Q .non H',rt:=Q } (start ["word","a","b","result"] [.str w,x,y]) H':=fun z H' s' e hz=>by
  subst e;refine⟨by show 1<=sizeLine;decide,fun e he=>Jq (fun d H2 s2 hd=>q2 hz d H2 (s'.trans s2) hd) e he⟩
 refine(zf rfl ⟨x,a,rfl,hx,(zf rfl ?_)⟩);cases hx with
 |tup hx=>exact iteT (iteT (bad "nonumber" H (Same.refl _) (XX (by simp)) (by decide)))
 |@int i hi =>
  refine iteF (zf rfl ⟨y,b,rfl,hy,(zf rfl ?_)⟩);cases hy with
  |tup hy=>exact iteT (bad "nonumber" H (Same.refl _) (XX (by simp)) (by decide))
  |@int j hj =>
   refine iteF (zf rfl ⟨rfl,(zf rfl ?_)⟩)
   suffices tail:∀(H1:Hp),Same H H1->¬ (j=0/\(w="over"\/w="rest"))->(tSeq _ _:TS) { nx:=fun _ H'=>Q .non H',rt:=Q } [some (.str w),some (.int i),some (.int j),none] H1 by
    by_cases hz:j=0
    ·refine ifT (by simp[hz]) ?_
     refine(zf rfl ⟨by show 2<=sizeLine;decide,fun p hp=>⟨p,(zf rfl ⟨.inr (SqT.of zg),rfl,rfl,(zf rfl ?_)⟩)⟩⟩);have e2:inV (.str w) [.str "over",.str "rest"]=decide (w∈(["over","rest"]:lS)):=XW (l:=["over","rest"]);have s1:=same_new (o:=.tup [.str "over",.str "rest"]) hp;by_cases hw:w="over"\/w="rest"
     ·refine ifT (e2.trans (decide_eq_true (by simpa using hw))) ?_
      exact bad "nought" _ s1 (by rw[fw_ss,if_pos ⟨hz,hw⟩]) (by decide)
     ·refine ifF (e2.trans (decide_eq_false (by simpa using hw))) ?_
      exact tail _ s1 fun z=>hw z.2
    ·refine ifF (by simp[hz]) ?_
     exact iteF (tail H (Same.refl _) fun z=>hz z.1)
   intro H1 s1 hn;refine(zf rfl (zf rfl (zf rfl ⟨w,i,j,rfl,hi,hj,fun z=>⟨fun y=>hn ⟨z,.inl y⟩,fun y=>hn ⟨z,.inr y⟩⟩,?_⟩)));refine(zf rfl (zf rfl (zf rfl ?_)));by_cases c:-1000000000000000000000000000000 < res w i j/\res w i j < 1000000000000000000000000000000
   ·rw[decide_eq_true c]
    refine iteF (zf rfl (q1 ?_ i j H1 s1 rfl rfl));rw[fw_ss];rw[if_neg hn,if_pos c]
   ·rw[decide_eq_false c]
    refine iteT ?_;refine⟨by show 1<=sizeLine;decide,fun e he=>?_⟩;have e1:fw w (some i) (some j)="great":=by rw[fw_ss,if_neg hn,if_neg c]
    rw[e1]at q2;exact Jq (fun d H2 s2 hd=>q2 (by decide) d H2 (s1.trans s2) hd) e he
end
end K31
namespace L2
open PySem
theorem cutR{t:TS}{P:St->Hp->Prop}(h:∀D':Ends,D'.rt=D.rt->(∀σ H,P σ H->D'.nx σ H)->t D' σ H)(p:∀σ H,P σ H->D.nx σ H):t D σ H:=h D rfl p
end L2
namespace GN
open PySem L2
inductive All2{α β:Type}(F:α->β->Prop):List α->List β->Prop
 |nil:All2 F [] []
 |cons {a b l m}:F a b->All2 F l m->All2 F (a::l) (b::m)
section
variable{α β:Type}{F G:α->β->Prop}{l:List α}{m:List β}
theorem All2.imp(h:All2 F l m)(f:∀a b,F a b->G a b):All2 G l m:=by
 induction h with
 |nil=>exact .nil
 |cons a _ ih=>exact .cons (f _ _ a) ih
theorem All2.len(h:All2 F l m):l.length=m.length:=by
 induction h with
 |nil=>rfl
 |cons _ _ ih=>rw[uJ,uJ,ih]
theorem All2.app{l':List α}{m':List β}(h:All2 F l m)(g:All2 F l' m'):All2 F (l++l') (m++m'):=by
 induction h with
 |nil=>exact g
 |cons a _ ih=>exact .cons a ih
theorem All2.get(h:All2 F l m):∀{i:Nat}{b:β},m[i]?=some b->∃a,l[i]?=some a/\F a b:=by
 induction h with
 |nil=>intro i b e;simp at e
 |cons a _ ih =>
  intro i b e;cases i with
  |zero=>simp at e;subst e;exact(zf rfl (a))
  |succ i=>simp at e;obtain⟨x,h1,h2⟩:=ih e;exact⟨x,by simpa using h1,h2⟩
theorem All2.getl(h:All2 F l m):∀{i:Nat}{a:α},l[i]?=some a->∃b,m[i]?=some b/\F a b:=by
 induction h with
 |nil=>intro i b e;simp at e
 |cons a _ ih =>
  intro i b e;cases i with
  |zero=>simp at e;subst e;exact(zf rfl (a))
  |succ i=>simp at e;obtain⟨x,h1,h2⟩:=ih e;exact⟨x,by simpa using h1,h2⟩
end
theorem iteN{b:Bool}{A B:Prop}(e:b=false)(h:B):if b=true then A else B:=by rw[if_neg (by rw[e];decide)];exact h
def KM(M:Addr->Prop)(H H':Hp):Prop:=∀b u,¬ M b->H b=some u->H' b=some u
def Kz(M R:Addr->Prop)(H H':Hp):Prop:=∀b u,H b=some u->¬ M b->(∀xs,u=.lst xs->R b)->H' b=some u
def KO(M:Addr->Prop)(H H':Hp):Prop:=∀b u,H b=some u->(∀xs,u=.lst xs->M b)->H' b=some u
theorem KM.refl:KM M H H:=fun _ _ _ h=>h
theorem KM.trans(a:KM M H H1)(b:KM M H1 H2):KM M H H2:=fun c u n h=>b c u n (a c u n h)
theorem KM.of(a:Same H H1):KM M H H1:=fun c u _ h=>a c u h
theorem KM.free(a:KM M H H1)(n:¬ M b)(h:H1 b=none):H b=none:=by
 cases e:H b with
 |none=>rfl
 |some u=>rw[a b u n e]at h;cases h
theorem KM.put{p:Addr}{o:HO}(a:KM M H H1)(h:H p=none):KM M H (upd H1 p o):=fun b u n e=>by rw[zh (zk e h)];exact a b u n e
def CanC(P:Program)(w:World)(K:ua)(mg:Str->Option Value)(base:Heap)(k:Nat)(H:Hp)(f:Addr)(vs:List V)(Q:VK)(E:XK):Prop :=
 ∃fd ps sp,FnOk P w K mg base CX0 k f fd ps sp/\Binds K fd ps []/\sp vs H Q E/\(H f=some (FunO f fd)\/uE K (.ref f)=true)
def Chn{T S:Type}(pre post:T->S):S->List T->S->Prop
 |s,[],s'=>s=s'
 |s,t::ts,s'=>pre t=s/\Chn pre post (post t) ts s'
set_option genInjectivity false in
structure WoD(P:Program)(w:World)(K:ua)(mg:Str->Option Value)(base:Heap)(k:Nat) where
 Tk:Type
 M:Addr->Prop
 fb:Addr
 wt:Tk->Nat
 kids:Tk->List Tk
 wk:∀t,((kids t).map wt).sum+2<=wt t
 IT:Hp->(Addr->Prop)->Tk->V->Prop
 IR:Hp->(Addr->Prop)->Tk->V->Prop
 IF:Hp->(Addr->Prop)->Tk->V->Prop
 S:Type
 pre:Tk->S
 mid:Tk->S
 post:Tk->S
 chn:∀t,Chn pre post (mid t) (kids t) (post t)
 Ok:S->Hp->Prop
 itk:∀{H H' R R' t v s},IT H R t v->Ok s H->Kz M R H H'->(∀b,R b->R' b)->IT H' R' t v
 irk:∀{H H' R R' t v s},IR H R t v->Ok s H->Kz M R H H'->(∀b,R b->R' b)->IR H' R' t v
 ifk:∀{H H' R R' t v s},IF H R t v->Ok s H->Kz M R H H'->(∀b,R b->R' b)->IF H' R' t v
 okk:∀{H H' s},Ok s H->KO M H H'->Ok s H'
 okM:∀{H b s},Ok s H->M b->H b≠none
 beg:∀{H R t v Q},IT H R t v->Ok (pre t) H->(∀b,R b->H b≠none)->(∀b,R b->¬ M b) ->
  (∀H' q l fl vs R',KM M H H'->Ok (mid t) H'->H' q=some (.tup [.ref l,.ref fl])->H l=none->H' l=some (.lst vs)->(∀b,R b->R' b)->(∀b,R' b->R b\/H b=none)->(∀b,R' b->H' b≠none)->R' l->All2 (IT H' R') (kids t) vs->IF H' R' t (.ref fl)->Q (.ref q) H') ->
  CanC P w K mg base k H fb [v] Q E0
 fin:∀{H R t fl rl rs Q},IF H R t (.ref fl)->Ok (post t) H->(∀b,R b->H b≠none)->(∀b,R b->¬ M b)->R rl->H rl=some (.lst rs)->All2 (IR H R) (kids t) rs ->
  (∀H' v R',KM M H H'->Ok (post t) H'->(∀b,R b->R' b)->(∀b,R' b->R b\/H b=none)->(∀b,R' b->H' b≠none)->IR H' R' t v->Q v H') ->
  CanC P w K mg base k H fl [.ref rl] Q E0
structure Bn(K:ua)(cB:Addr):Prop where
 cl:Cls K cB
 b1:NoAttr K cB "within"
 b2:NoAttr K cB "finish"
 b3:NoAttr K cB "results"
def BO(cB dx wa fl ra:Addr):HO:=.ins cB dx [("within",.ref wa),("finish",.ref fl),("results",.ref ra)]
inductive spBInit(cB:Addr)(vs:List V)(H:Hp)(Q:VK)(e_3:XK):Prop
 |mk (x:Addr) (dx:Addr) (wa:Addr):(∃fl:Addr,vs=[.ref x,.ref wa,.ref fl]/\H x=some (.ins cB dx [])/\∀H' ra,(∀b u,b≠x->H b=some u->H' b=some u)->H ra=none->H' ra=some (.lst [])->H' x=some (BO cB dx wa fl ra)->Q .non H')->spBInit cB vs H Q e_3
inductive spOnly(vs:List V)(H:Hp)(Q:VK)(e_3:XK):Prop
 |mk (p:Addr) (v:V):(∃xs:List V,vs=[.ref p]/\H p=some (.lst (v::xs))/\Q v H)->spOnly vs H Q e_3
section
variable{K:ua}
theorem zay:FnScope ["self","within","finish"] ["self","within","finish"] (zo Y0):=⟨rfl,rfl,rfl,by decide +kernel,rfl,by decide +kernel,by decide +kernel⟩
theorem Jr(F:Fun K "__init__" "Begun.__init__" Y0 f fd)(N:Bn K cB):FnOk P w K mg base CX0 1 f fd ["self","within","finish"] (spBInit cB):=by
 refine F.by zay (fun vs H Q E h=>?_) (fun cdv A outer s H vs Q E hr h=>?_)
 ·obtain⟨x,dx,wa,fl,rfl,_⟩:=h
  rfl
 obtain⟨x,dx,wa,fl,rfl,hx,q⟩:=h;refine⟨_,(zj (zZ (jv 0) (jv 1)) (zj (zZ (jv 0) (jv 2)) (zn (zZ (jv 0) (zU zi))))),?_⟩;refine(zx rfl rfl ⟨x,cB,dx,(zf rfl ⟨hx,N.cl,N.b1,by show 0 < 1000;decide,?_⟩)⟩);refine(zx rfl rfl ⟨x,cB,dx,(zf rfl ⟨zg,N.cl,N.b2,by show 1 < 1000;decide,?_⟩)⟩);refine⟨by show 0<=sizeLine;decide,fun ra hra=>?_⟩;have nx:ra≠x:=fun z=>by
  rw[z,zg]at hra;cases hra
 have hra':H ra=none:=by
  rw[zh nx,zh nx]at hra;exact hra
 refine(zf rfl ⟨x,cB,dx,(zf rfl ⟨by rw[zh nx.symm];exact zg,N.cl,N.b3,by show 2 < 1000;decide,?_⟩)⟩);refine q _ ra (fun b u n e=>?_) hra' (by rw[zh nx];exact zg) zg;rw[zh n,zh (zk e hra'),zh n,zh n];exact e
theorem zcR:FnScope ["results"] ["results"] (zo Jd):=⟨rfl,rfl,rfl,by decide +kernel,rfl,by decide +kernel,by decide +kernel⟩
theorem zaz(F:Fun K "only_one" "only_one" Jd f fd):FnOk P w K mg base CX0 1 f fd ["results"] spOnly:=by
 refine F.by zcR (fun vs H Q E h=>?_) (fun cdv A outer s H vs Q E hr h=>?_)
 ·obtain⟨p,v,xs,rfl,_⟩:=h
  rfl
 obtain⟨p,v,xs,rfl,hp,q⟩:=h;exact⟨_,(zn (zw (Zc K (jv 0)))),(zf rfl (ixL hp (zq (j:=0) rfl) (q)))⟩
end
structure En(Tk:Type) where
 bo:Addr
 dx:Addr
 wa:Addr
 ra:Addr
 fl:Addr
 tk:Option Tk
 ts:List Tk
 rs:List V
section
variable{K:ua}{k:Nat}(D:WoD P w K mg base k)(cB fo:Addr)(root:D.Tk)
structure EnOk(H:Hp)(R:Addr->Prop)(e:En D.Tk):Prop where
 o:H e.bo=some (BO cB e.dx e.wa e.fl e.ra)
 nb:¬ D.M e.bo
 w:∃ws,H e.wa=some (.lst ws)/\All2 (D.IT H R) e.ts ws
 Rw:R e.wa
 r:H e.ra=some (.lst e.rs)
 nr:¬ R e.ra
 nM:¬ D.M e.ra
 le:e.rs.length<=e.ts.length
 rr:All2 (D.IR H R) (e.ts.take e.rs.length) e.rs
 fin:match e.tk with
  |none=>e.fl=fo/\e.ts=[root]
  |some t=>D.IF H R t (.ref e.fl)/\e.ts=D.kids t
inductive Lnk:List (En D.Tk)->Prop
 |bot {e:En D.Tk}:e.tk=none->Lnk [e]
 |up {e e':En D.Tk} {es:List (En D.Tk)} {t:D.Tk}:Lnk (e'::es)->e.tk=some t->e'.ts[e'.rs.length]?=some t->Lnk (e::e'::es)
def mlow:List (En D.Tk)->Nat
 |[]=>0
 |e::es=>1+((e.ts.drop (e.rs.length+1)).map D.wt).sum+mlow es
def mall:List (En D.Tk)->Nat
 |[]=>0
 |e::es=>1+((e.ts.drop e.rs.length).map D.wt).sum+mlow D es
theorem Yd:∀es:List (En D.Tk),es.length<=mlow D es
 |[]=>ui _
 |e::es=>by
  unfold mlow
  have:=Yd es
  rw[uJ];lia
theorem Js(es:List (En D.Tk)):es.length<=mall D es:=by
 cases es with
 |nil=>exact ui _
 |cons e es =>
  unfold mall
  have:=Yd D es
  rw[uJ];lia
theorem Jt:∀ts:List D.Tk,ts.length<=(ts.map D.wt).sum
 |[]=>ui _
 |t::ts=>by
  have:=Jt ts
  have:=D.wk t
  rw[uJ,uC,tP];lia
def eEnd(e:En D.Tk):D.S:=match e.tk with
 |none=>D.post root
 |some t=>D.post t
def StkL:D.S->List (En D.Tk)->Prop
 |_,[]=>True
 |s,e::es=>Chn D.pre D.post s (e.ts.drop (e.rs.length+1)) (eEnd D root e)/\StkL (eEnd D root e) es
def Stk:D.S->List (En D.Tk)->Prop
 |_,[]=>True
 |s,e::es=>Chn D.pre D.post s (e.ts.drop e.rs.length) (eEnd D root e)/\StkL D root (eEnd D root e) es
variable{D cB fo root}
theorem EnOk.keep{R R':Addr->Prop}{e:En D.Tk}{s:D.S}(h:EnOk D cB fo root H R e)(ok:D.Ok s H)(z:Kz D.M R H H')(rM:∀b,R b->¬ D.M b)(sub:∀b,R b->R' b)(hr:H' e.ra=some (.lst e.rs))(nr:¬ R' e.ra):EnOk D cB fo root H' R' e:=by
 obtain⟨o,nb,⟨ws,w1,w2⟩,Rw,r,nr',nM,le,rr,fin⟩:=h;refine⟨z _ _ o nb (by intro xs q;unfold BO at q;cases q),nb,⟨ws,z _ _ w1 (rM _ Rw) (fun _ _=>Rw),w2.imp fun a b q=>D.itk q ok z sub⟩,sub _ Rw,hr,nr,nM,le,rr.imp fun a b q=>D.irk q ok z sub,?_⟩;cases q:e.tk with
 |none=>rw[q]at fin;exact fin
 |some t=>rw[q]at fin;exact⟨D.ifk fin.1 ok z sub,fin.2⟩
end
inductive spWorked(P:Program)(w:World)(K:ua)(mg:Str->Option Value)(base:Heap)(k:Nat)(vs:List V)(H:Hp)(Q:VK)(e_3:XK):Prop
 |mk (D:WoD P w K mg base k) (v:V) (root:D.Tk):(∃R:Addr->Prop,vs=[v,.ref D.fb]/\D.IT H R root v/\D.Ok (D.pre root) H/\(∀b,R b->H b≠none)/\(∀b,R b->¬ D.M b)/\D.wt root<=10000000/\((∃fd,H D.fb=some (FunO D.fb fd))/\¬ D.M D.fb\/uE K (.ref D.fb)=true)/\∀H' v' R',KM D.M H H'->D.Ok (D.post root) H'->(∀b,R' b->¬ D.M b)->D.IR H' R' root v'->Q v' H')->spWorked P w K mg base k vs H Q e_3
inductive WkV{P:Program}{w:World}{K:ua}{mg:Str->Option Value}{base:Heap}{k:Nat}(D:WoD P w K mg base k)(cB fo wl:Addr)(v:V)(root:D.Tk)(H:Hp)(m:Nat)(σ:St)(H':Hp):Prop
 |mk (es:List (En D.Tk)) (cur:D.S) (R:Addr->Prop) (y3 y4 y5 y6:Option V) (_:m=mall D es) (_:σ=[some v,some (.ref D.fb),sR wl,y3,y4,y5,y6]) (_:KM D.M H H') (_:D.Ok cur H') (_:H' wl=some (.lst (es.reverse.map fun e=>V.ref e.bo))) (_:¬ R wl) (_:(∀e∈es,EnOk D cB fo root H' R e)) (_:(∀e∈es,H e.ra=none)) (_:Lnk D es) (_:(∀b,R b->H' b≠none)) (_:(∀b,R b->¬ D.M b)) (_:(wl::es.map (·.ra)).Nodup) (_:mall D es<=D.wt root+1) (_:(∀e∈es,e.ts.length<=10000000)) (_:Stk D root cur es):WkV D cB fo wl v root H m σ H'
section
variable{K:ua}{fo:Addr}{fdo:FuncData}{k:Nat}
theorem scWorked:FnScope ["task","begin","waiting","last","pair","finish","result"] ["task","begin"] (zo Zo):=⟨rfl,rfl,rfl,by decide +kernel,rfl,by decide +kernel,by decide +kernel⟩
theorem v7{t:TA}{Q:VK}{vs:List V}(hi:σ[i]?=some (some (.ref f)))(ha:∀R:List V->Hp->Prop,R vs H->t σ H R)(h:CanC P w K mg base k H f vs Q E0):V0 P w K mg base k E0 i t σ H Q:=by
 obtain⟨fd,ps,sp,F,b,q,c⟩:=h;rcases c with c|c
 ·exact⟨f,hi,.inl ⟨⟨fd,c⟩,ha _ ⟨fd,ps,sp,F,b,c,q⟩⟩⟩
 ·exact⟨f,hi,.inr ⟨c,ha _ ⟨fd,ps,sp,F,b,q⟩⟩⟩
theorem WF(F:Fun K "worked_out" "worked_out" Zo f fd)(N:Bn K cB)(GB:Ma P w K mg base CX0 1 "Begun" cB ["self","within","finish"] (spBInit cB))(GO:FnOk P w K mg base CX0 1 fo fdo ["results"] spOnly)(bO:Binds K fdo ["results"] [])(kO:uE K (.ref fo)=true)(mO:mg "only_one"=some (.ref fo))(m_len:mg "len"=none)(hk:2<=k):FnOk P w K mg base CX0 (k+1) f fd ["task","begin"] (spWorked P w K mg base k):=by
 refine F.by scWorked (fun vs H Q E h=>?_) (fun cdv A outer s H vs Q E hr h=>?_)
 ·obtain⟨D,v,root,R,rfl,_⟩:=h
  rfl
 obtain⟨D,v,root,R0,rfl,hIT,hOk,hR0,hRM0,hwt,hfb,q⟩:=h;have hr2:Room (1+1) _:=hr.mono (by lia);refine⟨_,
  (zj (zE (i:=2) scWorked.nd rfl (Or.inl rfl) (zU (ja_c (vG GB hr2 rfl zB (ja_c (zU (ja_c (jv 0) zi)) (ja_c (j4 (v:=.ref fo) rfl mO rfl) zi))) zi)))
  (zn (wq PassesOwn.never (z7 xn)
   (zj (zE (i:=3) scWorked.nd rfl (Or.inl rfl) (zR (zA K) (jv 2) (yr zp) (fun _ _=>rfl)))
   (zn (zK (zv xI (zJ (zQ K) rfl m_len uV (ja_c (zr K (jv 3)) zi)) (zJ (zQ K) rfl m_len uV (ja_c (zr K (jv 3)) zi)) (zy _))
    (zj (zE (i:=4) scWorked.nd rfl (Or.inl rfl) (Z0 hr (jv 1) zB (ja_c (zR (zA K) (zr K (jv 3)) (zJ (zQ K) rfl m_len uV (ja_c (zr K (jv 3)) zi)) (fun _ _=>rfl)) zi)))
    (zn (zP (yR uD uN uO yj (jv 2) (ja_c (vG GB hr2 rfl zB (ja_c (zC K (jv 4)) (ja_c (zC K (jv 4)) zi))) zi)))))
    (zj (zE (i:=5) scWorked.nd rfl (Or.inl rfl) (zr K (jv 3)))
    (zj (zE (i:=6) scWorked.nd rfl (Or.inl rfl) (Z0 hr (jv 5) zB (ja_c (zr K (jv 3)) zi)))
    (zj (zP (wM uD tm tq j7 (jv 2)))
    (zj (zK (zv z6 (zJ (zQ K) rfl m_len uV (ja_c (jv 2) zi)) zp (zy _))
     (zn (zw (jv 6))) zD)
    (zn (zP (yR uD uN uO yj (zr K (zR (zA K) (jv 2) (yr zp) (fun _ _=>rfl))) (ja_c (jv 6) zi)))))))))))))),?_⟩
 have sl:=ym;refine(zf rfl ⟨by show 1<=sizeLine;decide,fun l0 hl0=>?_⟩);have s0:Same H (upd H l0 (.lst [v])):=fun b u e=>by rw[zh (zk e hl0)];exact e
 have hl0':=zg (H:=H) (a:=l0) (o:=.lst [v]);generalize upd H l0 (.lst [v])=H1 at *;intro x dx hx hdx nxd;refine⟨x,dx,l0,fo,rfl,zg,fun H2 ra kp hra hra2 hx2=>⟨rfl,by show 1<=sizeLine;decide,fun wl hwl=>?_⟩⟩;have hM:∀b,H b=none->¬ D.M b:=fun b e m=>D.okM hOk m e;have s12:Same H1 H2:=fun b u e=>kp b u (zk e hx) (by rw[zh (zk e hx),zh (zk e hdx)];exact e);have s2:Same H H2:=s0.trans s12;have s3:Same H (upd H2 wl (.lst [.ref x])):=s2.new hwl;have nra:ra≠x:=fun z=>by
  rw[z,zg]at hra;cases hra
 have nrd:ra≠dx:=fun z=>by
  rw[z,zh nxd,zg]at hra;cases hra
 have hra1:H1 ra=none:=by
  rw[zh nra,zh nrd]at hra;exact hra
 have hra0:H ra=none:=s0.free hra1;have hx0:H x=none:=s0.free hx;have nl0:l0≠ra:=zk hl0' hra1;have nwr:ra≠wl:=zk hra2 hwl;have nwx:x≠wl:=zk hx2 hwl;have nwl:l0≠wl:=zk (s12 _ _ hl0') hwl;have hwl0:H wl=none:=s2.free hwl;refine⟨WkV D cB fo wl v root H,
  ⟨_,[⟨x,dx,l0,ra,fo,none,[root],[]⟩],D.pre root,(fun b=>R0 b\/b=l0),none,none,none,none,rfl,rfl,.of s3,D.okk hOk (fun b u e _=>s3 b u e),zg,?_,?_,?_,.bot rfl,?_,?_,?_,?_,?_,⟨⟨rfl,rfl⟩,trivial⟩⟩,?_⟩
 ·rintro(z|z)
  ·exact hR0 _ z hwl0
  ·exact nwl z.symm
 ·intro e he
  rw[ug.mp he];refine⟨by rw[zh nwx];exact hx2,hM _ hx0,⟨[v],by rw[zh nwl];exact s12 _ _ hl0',.cons (D.itk hIT hOk (fun b u e _ _=>s3 b u e) fun b z=>.inl z) .nil⟩,.inr rfl,by rw[zh nwr];exact hra2,?_,hM _ hra0,uU _,.nil,rfl,rfl⟩;rintro(z|z)
  ·exact hR0 _ z hra0
  ·exact nl0 z.symm
 ·intro e he
  rw[ug.mp he];exact hra0
 ·rintro b (z|z)
  ·cases e:H b with
   |none=>exact absurd e (hR0 b z)
   |some u=>rw[s3 b u e];simp
  ·rw[z,zh nwl,s12 _ _ hl0'];simp
 ·rintro b (z|z)
  ·exact hRM0 b z
  ·rw[z];exact hM _ hl0
 ·show[wl,ra].Nodup
  simp[nwr.symm]
 ·unfold mall mlow
  simp
  lia
 ·intro e he
  rw[ug.mp he];show 1<=10000000
  decide
 rintro m σ Ha ⟨es,cur,R,y3,y4,y5,y6,rfl,rfl,kHa,okA,hwlA,nRw,hes,hra,lk,hRd,hRM,nd,hms,hln,stk⟩;refine(zf rfl (iteT ⟨_,fun _ _ h=>h,?_⟩));refine cutR (fun D_ rt_ fin=>?_) (fun _ _ h=>h);have hMA:∀b,Ha b=none->¬ D.M b:=fun b e m=>D.okM okA m e;have mwl:¬ D.M wl:=hM _ hwl0;cases es with
 |nil=>cases lk
 |cons e es =>
 have he:=hes e (.head _);have eo:=he.o;obtain⟨ws,hw,hIT'⟩:=he.w;have wlen:=hIT'.len;have els:((e::es).reverse.map fun e=>V.ref e.bo)=(es.reverse.map fun e=>V.ref e.bo)++[.ref e.bo]:=by simp
 rw[els]at hwlA;have elen:=Js D (e::es);rw[uJ]at elen;have dr:∀t,e.ts[e.rs.length]?=some t->e.ts.drop e.rs.length=t::e.ts.drop (e.rs.length+1):=fun t ht=>(Uc (ud.mp ht).1).trans (by rw[(ud.mp ht).2]);refine(zx rfl rfl ⟨wl,_,_,_,rfl,rfl,SqL.of hwlA,yg _ _,?_⟩);refine(zf rfl ⟨e.bo,cB,e.dx,_,_,rfl,eo,N.cl,N.b3,rfl,_,_,rfl,.inl (SqL.of he.r),(zf rfl ⟨e.bo,cB,e.dx,_,_,rfl,eo,N.cl,N.b1,rfl,_,_,rfl,.inl (SqL.of hw),(zI rfl rfl (zf rfl ?_))⟩)⟩);refine ite2 (fun c=>?_) (fun c=>?_)
 ·rw[decide_eq_true_eq]at c
  have c:e.rs.length < ws.length:=by lia
  obtain⟨t,ht,hIt⟩:=hIT'.get (uf c);obtain⟨sk1,sk2⟩:=stk;rw[dr t ht]at sk1;obtain⟨spre,sk3⟩:=sk1;refine v7 rfl (fun R h=>(zf rfl ⟨e.bo,cB,e.dx,_,_,rfl,eo,N.cl,N.b1,rfl,(zf rfl ⟨e.bo,cB,e.dx,_,_,rfl,eo,N.cl,N.b3,rfl,_,_,rfl,.inl (SqL.of he.r),_,_,_,_,rfl,rfl,SqL.of hw,zq (uf c),h⟩)⟩)) (D.beg hIt (show D.Ok (D.pre t) Ha by rw[spre];exact okA) hRd hRM fun Hb pq l fl vs R' kB okB hq hl hlB sub sub' dom' Rl hks hfin=>?_);refine(zf rfl ⟨.inl ⟨rfl,_,SqL.of (kB _ _ mwl hwlA)⟩,(zf rfl (ixT hq (zq (j:=0) rfl) (zf rfl (ixT hq (zq (j:=1) rfl) (fun x' dx' hx' hdx' nxd'=>?_)))))⟩);refine⟨x',dx',l,fl,rfl,zg,fun Hc rb kp' hrb hrb2 hxc=>⟨rfl,?_⟩⟩;have sbc:Same Hb Hc:=fun b u e=>kp' b u (zk e hx') (by rw[zh (zk e hx'),zh (zk e hdx')];exact e);have nrx:rb≠x':=fun z=>by
   rw[z,zg]at hrb;cases hrb
  have nrd':rb≠dx':=fun z=>by
   rw[z,zh nxd',zg]at hrb;cases hrb
  have hrbB:Hb rb=none:=by
   rw[zh nrx,zh nrd']at hrb;exact hrb
  have okC:D.Ok (D.mid t) Hc:=D.okk okB fun b u e _=>sbc b u e;have hMB:∀b,Hb b=none->¬ D.M b:=fun b e m=>D.okM okB m e;have hwlC:Hc wl=some (.lst ((es.reverse.map fun e=>V.ref e.bo)++[.ref e.bo])):=sbc _ _ (kB _ _ mwl hwlA);refine⟨wl,(zI rfl rfl ⟨hwlC,by rw[uk,uc,Uh];show es.length+1 < _;lia,?_⟩)⟩;have nR'w:¬ R' wl:=fun z=>by
   rcases sub' _ z with z|z
   ·exact nRw z
   ·rw[hwlA]at z;cases z
  have kzA:Kz D.M R Ha (upd Hc wl (.lst ((es.reverse.map fun e=>V.ref e.bo)++[.ref e.bo]++[.ref x']))):=fun b u q1 q2 q3=>by
   rw[zh]
   ·exact sbc _ _ (kB _ _ q2 q1)
   ·intro z
    rw[z,hwlA]at q1;cases q1;rw[z]at q3;exact nRw (q3 _ rfl)
  have kzB:Kz D.M R' Hb (upd Hc wl (.lst ((es.reverse.map fun e=>V.ref e.bo)++[.ref e.bo]++[.ref x']))):=fun b u q1 q2 q3=>by
   rw[zh]
   ·exact sbc _ _ q1
   ·intro z
    rw[z,kB _ _ mwl hwlA]at q1;cases q1;rw[z]at q3;exact nR'w (q3 _ rfl)
  have nx':x'≠wl:=zk (by exact kB _ _ mwl hwlA) hx' |>.symm
  have nrb:rb≠wl:=(zk (kB _ _ mwl hwlA) hrbB).symm;have nl:l≠wl:=fun z=>nR'w (z ▸ Rl);have nolds:∀e'∈e::es,Hc e'.ra=some (.lst e'.rs)/\e'.ra≠wl/\¬ R' e'.ra:=fun e' he'=>by
   have h':=hes e' he';refine⟨sbc _ _ (kB _ _ h'.nM h'.r),fun z=>?_,fun z=>?_⟩
   ·have:=(uW.mp nd).1
    exact this (z ▸ uw.mpr ⟨e',he',rfl⟩)
   ·rcases sub' _ z with z|z
    ·exact h'.nr z
    ·rw[h'.r]at z;cases z
  refine fin _ _ ⟨_,?_,⟨x',dx',l,rb,fl,some t,D.kids t,[]⟩ :: e::es,D.mid t,R',_,_,_,_,rfl,rfl,?_,D.okk okC ?_,?_,nR'w,?_,?_,.up lk rfl ht,?_,?_,?_,?_,?_,⟨D.chn t,sk3,sk2⟩⟩
  ·show 1+(((D.kids t).drop 0).map D.wt).sum+mlow D (e::es) < 1+((e.ts.drop e.rs.length).map D.wt).sum+mlow D es
   rw[dr t ht]
   have:=D.wk t
   rw[show mlow D (e::es)=1+((e.ts.drop (e.rs.length+1)).map D.wt).sum+mlow D es from rfl];simp only[tG,uC,tP]
   lia
  ·exact((kHa.trans kB).trans (.of sbc)).put hwl0
  ·intro b u q1 q2
   rw[zh]
   ·exact q1
   ·intro z
    rw[z,hwlC]at q1;cases q1;rw[z]at q2;exact mwl (q2 _ rfl)
  ·rw[zg]
   simp
  ·intro e' he'
   rcases uh.mp he' with rfl|he'
   ·exact⟨by rw[zh nx'];exact hxc,hMB _ hx',⟨vs,by rw[zh nl];exact sbc _ _ hlB,hks.imp fun a b q=>D.itk q okB kzB fun _ z=>z⟩,Rl,by rw[zh nrb];exact hrb2,fun z=>dom' _ z hrbB,hMB _ hrbB,uU _,.nil,D.ifk hfin okB kzB fun _ z=>z,rfl⟩
   ·obtain⟨n1,n2,n3⟩:=nolds e' he'
    exact(hes e' he').keep okA kzA hRM sub (by rw[zh n2];exact n1) n3
  ·intro e' he'
   rcases uh.mp he' with rfl|he'
   ·exact(kHa.trans kB).free (hMB _ hrbB) hrbB
   ·exact hra e' he'
  ·intro b z
   by_cases hb:b=wl
   ·rw[hb,zg];simp
   ·rw[zh hb]
    cases q:Hb b with
    |none=>exact absurd q (dom' b z)
    |some u=>rw[sbc _ _ q];simp
  ·intro b z
   rcases sub' b z with z|z
   ·exact hRM b z
   ·exact hMA b z
  ·rw[uC,uW]at *
   refine⟨fun z=>?_,uW.mpr ⟨fun z=>?_,nd.2⟩⟩
   ·rcases uh.mp z with z|z
    ·exact nrb z.symm
    ·exact nd.1 z
   ·obtain⟨e',he',z⟩:=uw.mp z
    have:=kB _ _ (hes e' he').nM (hes e' he').r
    rw[z,hrbB]at this;cases this
  ·refine uy ?_ hms
   show 1+(((D.kids t).drop 0).map D.wt).sum+mlow D (e::es)<=1+((e.ts.drop e.rs.length).map D.wt).sum+mlow D es;rw[dr t ht]
   have:=D.wk t
   rw[show mlow D (e::es)=1+((e.ts.drop (e.rs.length+1)).map D.wt).sum+mlow D es from rfl];simp only[tG,uC,tP]
   lia
  ·intro e' he'
   rcases uh.mp he' with rfl|he'
   ·have h1:=D.wk t
    have h2:D.wt t<=mall D (e::es):=by
     show _<=1+((e.ts.drop e.rs.length).map D.wt).sum+mlow D es;rw[dr t ht,uC,tP];lia
    have h3:=Jt D (D.kids t);show(D.kids t).length<=10000000;lia
   ·exact hln e' he'
 ·have c:¬ e.rs.length < ws.length:=fun z=>c (decide_eq_true (by lia))
  have le:=he.le;have rr:=he.rr;obtain⟨sk1,sk2⟩:=stk;rw[List.drop_eq_nil_of_le (by lia)]at sk1;have sk1:cur=eEnd D root e:=sk1;rw[Ut (by lia)]at rr;refine(zf rfl ⟨e.bo,cB,e.dx,_,_,rfl,eo,N.cl,N.b2,rfl,?_⟩);have pop:∀{Hb:Hp},Hb wl=some (.lst ((es.reverse.map fun e=>V.ref e.bo)++[.ref e.bo]))->∀{Q:VK},Q (.ref e.bo) (upd Hb wl (.lst (es.reverse.map fun e=>V.ref e.bo)))->rPop (.ref wl) [] Hb Q:=fun h Q q=>⟨wl,_,.ref e.bo,rfl,rfl,h,by simp,by rw[List.dropLast_concat];exact q⟩;cases htk:e.tk with
  |none =>
   have ecur:cur=D.post root:=by rw[sk1];unfold eEnd;rw[htk]
   subst ecur;have fin:=he.fin;rw[htk]at fin;obtain⟨e1,e2⟩:=fin;have es0:es=[]:=by
    cases lk with
    |bot _=>rfl
    |up _ q _=>rw[htk]at q;cases q
   subst es0;rw[e2]at rr;have hrs:=he.r;generalize e.rs=rs at *;cases rr with
   |cons hv hn =>
   cases hn;rw[e1];refine v7 rfl (fun R h=>(zf rfl ⟨e.bo,cB,e.dx,_,_,rfl,eo,N.cl,N.b3,rfl,h⟩)) ⟨fdo,_,_,GO.mono (by lia),bO,⟨e.ra,_,[],rfl,hrs,?_⟩,.inr kO⟩;refine(zf rfl ⟨.inl ⟨rfl,_,SqL.of hwlA⟩,pop hwlA ?_⟩);refine(zf rfl ⟨_,_,rfl,.inl (SqL.of zg),rfl,(zf rfl (iteT (zf rfl ?_)))⟩);rw[rt_];refine q _ _ R (kHa.put hwl0) (D.okk okA fun b u q1 q2=>?_) hRM (D.irk hv okA (fun b u q1 q2 q3=>?_) fun _ z=>z)
   ·rw[zh]
    ·exact q1
    ·intro z
     rw[z,hwlA]at q1;cases q1;rw[z]at q2;exact mwl (q2 _ rfl)
   ·rw[zh]
    ·exact q1
    ·intro z
     rw[z,hwlA]at q1;cases q1;rw[z]at q3;exact nRw (q3 _ rfl)
  |some t =>
   have eE:eEnd D root e=D.post t:=by unfold eEnd;rw[htk]
   have ecur:cur=D.post t:=sk1.trans eE;subst ecur;rw[eE]at sk2;have fin:=he.fin;rw[htk]at fin;obtain⟨e1,e2⟩:=fin;rw[e2]at rr;cases lk with
   |bot q=>rw[htk]at q;cases q
   |@up _ e' es' t' lk' q ht' =>
   rw[htk]at q;cases q;have he':=hes e' (.tail _ (.head _));have ndA:=nd;rw[uC,uC,uW,uW,uW]at ndA;obtain⟨nd1,nd2,nd3,nd4⟩:=ndA;have nwe:e.ra≠wl:=fun z=>nd1 (z ▸ .head _);have nwe':e'.ra≠wl:=fun z=>nd1 (z ▸ .tail _ (.head _));have nee':e'.ra≠e.ra:=fun z=>nd2 (z ▸ .head _);have kzR:Kz D.M R Ha Ha:=fun b u q _ _=>q;refine v7 rfl (fun R h=>(zf rfl ⟨e.bo,cB,e.dx,_,_,rfl,eo,N.cl,N.b3,rfl,h⟩)) (D.fin (R:=fun b=>R b\/b=e.ra) (D.ifk e1 okA kzR fun _ z=>.inl z) okA ?_ ?_ (.inr rfl) he.r (rr.imp fun a b q=>D.irk q okA kzR fun _ z=>.inl z) fun Hb rv R' kB okB sub sub' dom' hIR=>?_)
   ·rintro b (z|z)
    ·exact hRd b z
    ·rw[z,he.r];simp
   ·rintro b (z|z)
    ·exact hRM b z
    ·rw[z];exact he.nM
   have hwlB:=kB _ _ mwl hwlA;have heB:=kB _ _ he'.nM he'.r;have hoB:=kB _ _ he'.nb he'.o;have no':e'.bo≠wl:=xY hoB hwlB (by unfold BO;intro z;cases z);refine(zf rfl ⟨.inl ⟨rfl,_,SqL.of hwlB⟩,pop hwlB ?_⟩);have els':((e'::es').reverse.map fun e=>V.ref e.bo)=(es'.reverse.map fun e=>V.ref e.bo)++[.ref e'.bo]:=by simp
   rw[els'];refine(zf rfl ⟨_,_,rfl,.inl (SqL.of zg),rfl,(zf rfl (iteN ?_ ?_))⟩)
   ·rw[uk]
    exact decide_eq_false (by intro z;have:=V.int.inj z;simp at this;lia)
   refine(zx rfl rfl ⟨wl,_,_,_,rfl,rfl,SqL.of zg,yg _ _,e'.bo,cB,e'.dx,_,.ref e'.ra,rfl,by rw[zh no'];exact hoB,N.cl,N.b3,rfl,.inl ⟨rfl,_,SqL.of (by rw[zh nwe'];exact heB)⟩,(zf rfl ⟨e'.ra,(zI rfl rfl ⟨by rw[zh nwe'];exact heB,?_,?_⟩)⟩)⟩)
   ·have:=(ud.mp ht').1
    have:=hln e' (.tail _ (.head _))
    lia
   have nR'w:¬ R' wl:=fun z=>by
    rcases sub' _ z with(z|z)|z
    ·exact nRw z
    ·exact nwe z.symm
    ·rw[hwlA]at z;cases z
   have nR':∀e1∈e'::es',¬ R' e1.ra:=fun e1 h1 z=>by
    rcases sub' _ z with(z|z)|z
    ·exact(hes e1 (.tail _ h1)).nr z
    ·exact nd2 (z ▸ uw.mpr ⟨e1,h1,rfl⟩)
    ·rw[(hes e1 (.tail _ h1)).r]at z;cases z
   have kzB:Kz D.M R' Hb (upd (upd Hb wl (.lst ((es'.reverse.map fun e=>V.ref e.bo)++[.ref e'.bo]))) e'.ra (.lst (e'.rs++[rv]))):=fun b u q1 q2 q3=>by
    have n1:b≠e'.ra:=fun z=>by
     rw[z,heB]at q1;cases q1;rw[z]at q3;exact nR' e' (.head _) (q3 _ rfl)
    have n2:b≠wl:=fun z=>by
     rw[z,hwlB]at q1;cases q1;rw[z]at q3;exact nR'w (q3 _ rfl)
    rw[zh n1,zh n2];exact q1
   have kzA:Kz D.M R Ha (upd (upd Hb wl (.lst ((es'.reverse.map fun e=>V.ref e.bo)++[.ref e'.bo]))) e'.ra (.lst (e'.rs++[rv]))):=fun b u q1 q2 q3=>kzB b u (kB _ _ q2 q1) q2 fun xs z=>sub _ (.inl (q3 xs z));have subR:∀b,R b->R' b:=fun b z=>sub _ (.inl z);refine fin _ _ ⟨_,?_,{ e' with rs:=e'.rs++[rv] } :: es',D.post t,R',_,_,_,_,rfl,rfl,((kHa.trans kB).put hwl0).put (hra e' (.tail _ (.head _))),D.okk okB ?_,?_,nR'w,?_,?_,?_,?_,?_,?_,?_,?_,?_⟩
   ·show 1+((e'.ts.drop (e'.rs++[rv]).length).map D.wt).sum+mlow D es' < 1+((e.ts.drop e.rs.length).map D.wt).sum+(1+((e'.ts.drop (e'.rs.length+1)).map D.wt).sum+mlow D es')
    rw[uk,UB];lia
   ·intro b u q1 q2
    have n1:b≠e'.ra:=fun z=>by
     rw[z,heB]at q1;cases q1;rw[z]at q2;exact he'.nM (q2 _ rfl)
    have n2:b≠wl:=fun z=>by
     rw[z,hwlB]at q1;cases q1;rw[z]at q2;exact mwl (q2 _ rfl)
    rw[zh n1,zh n2];exact q1
   ·rw[zh nwe'.symm,zg]
    simp
   ·intro e1 h1
    rcases uh.mp h1 with rfl|h1
    ·obtain⟨o,nb,⟨ws',w1,w2⟩,Rw,r,nr',nM,le',rr',fin⟩:=he'
     refine⟨kzA _ _ o nb (by intro xs q;unfold BO at q;cases q),nb,⟨ws',kzA _ _ w1 (hRM _ Rw) (fun _ _=>Rw),w2.imp fun a b q=>D.itk q okA kzA subR⟩,subR _ Rw,zg,nR' e' (.head _),nM,?_,?_,?_⟩
     ·show(e'.rs++[rv]).length<=_
      rw[uk,UB];exact(ud.mp ht').1
     ·show All2 _ (e'.ts.take (e'.rs++[rv]).length) (e'.rs++[rv])
      rw[uk,UB,Us,ht'];exact(rr'.imp fun a b q=>D.irk q okA kzA subR).app (.cons (D.irk hIR okB kzB fun _ z=>z) .nil)
     ·show(match e'.tk with|none=>_|some t=>_)
      cases q:e'.tk with
      |none=>rw[q]at fin;exact fin
      |some t=>rw[q]at fin;exact⟨D.ifk fin.1 okA kzA subR,fin.2⟩
    ·have h1':=hes e1 (.tail _ (.tail _ h1))
     have m1:e1.ra≠e'.ra:=fun z=>nd3 (z ▸ uw.mpr ⟨e1,h1,rfl⟩);have m2:e1.ra≠wl:=fun z=>nd1 (z ▸ .tail _ (.tail _ (uw.mpr ⟨e1,h1,rfl⟩)));exact h1'.keep okA kzA hRM subR (by rw[zh m1,zh m2];exact kB _ _ h1'.nM h1'.r) (nR' e1 (.tail _ h1))
   ·intro e1 h1
    rcases uh.mp h1 with rfl|h1
    ·exact hra e' (.tail _ (.head _))
    ·exact hra e1 (.tail _ (.tail _ h1))
   ·cases lk' with
    |bot q=>exact .bot q
    |up a b c=>exact .up a b c
   ·intro b z
    have:=dom' b z
    unfold upd;split
    ·simp
    ·split
     ·simp
     ·exact this
   ·intro b z
    rcases sub' b z with(z|z)|z
    ·exact hRM b z
    ·rw[z];exact he.nM
    ·exact hMA b z
   ·exact uW.mpr ⟨fun z=>nd1 (.tail _ z),uW.mpr ⟨nd3,nd4⟩⟩
   ·refine uy ?_ hms
    show 1+((e'.ts.drop (e'.rs++[rv]).length).map D.wt).sum+mlow D es'<=1+((e.ts.drop e.rs.length).map D.wt).sum+(1+((e'.ts.drop (e'.rs.length+1)).map D.wt).sum+mlow D es');rw[uk,UB];lia
   ·intro e1 h1
    rcases uh.mp h1 with rfl|h1
    ·exact hln e' (.tail _ (.head _))
    ·exact hln e1 (.tail _ (.tail _ h1))
   ·refine⟨?_,sk2.2⟩
    show Chn D.pre D.post (D.post t) (e'.ts.drop (e'.rs++[rv]).length) _;rw[uk,UB];exact sk2.1
end
end GN
namespace GN
open PySem L2 K11
variable{x:Addr}
structure FrN(K:ua)(cF:Addr):Prop where
 cl:Cls K cF
 n1:NoAttr K cF "body"
 n2:NoAttr K cF "wants"
 n3:NoAttr K cF "held"
 n4:NoAttr K cF "lent"
 n5:NoAttr K cF "tokens"
def FrO(cF dx:Addr)(b:V)(w:Str)(hd ld td:Addr):HO:=.ins cF dx [("body",b),("wants",.str w),("held",.ref hd),("lent",.ref ld),("tokens",.ref td)]
def KN(x:Addr)(H H':Hp):Prop:=∀c u,c≠x->H c=some u->H' c=some u
theorem KN.refl:KN x H H:=fun _ _ _ h=>h
theorem KN.put{o:HO}(k:KN x H H1):KN x H (upd H1 x o):=fun c u n e=>by rw[zh n];exact k c u n e
theorem KN.new{l:Addr}{o:HO}(k:KN x H H1)(h:H1 l=none):KN x H (upd H1 l o):=fun c u n e=>by
 have:=k c u n e
 rw[zh (zk this h)];exact this
theorem KN.free{l:Addr}(k:KN x H H1)(n:l≠x)(h:H1 l=none):H l=none:=by
 cases e:H l with
 |none=>rfl
 |some u=>rw[k l u n e]at h;cases h
structure Fd(H:Hp)(hd ld td:Addr):Prop where
 h:H hd=none
 l:H ld=none
 t:H td=none
 n1:hd≠ld
 n2:hd≠td
 n3:ld≠td
inductive spFrInit(cF:Addr)(vs:List V)(H:Hp)(Q:VK)(e_3:XK):Prop
 |mk (x:Addr) (dx:Addr) (b:V):(∃w:Str,vs=[.ref x,b,.str w]/\H x=some (.ins cF dx [])/\∀H' hd ld td,KN x H H'->Fd H hd ld td->H' x=some (FrO cF dx b w hd ld td)->H' hd=some (.dK [])->H' ld=some (.dK [])->H' td=some (.dK [])->Q .non H')->spFrInit cF vs H Q e_3
def filS(s:List (Key×V)×List (Key×V))(p:Str×Bool×V):List (Key×V)×List (Key×V):=if p.2.1 then(putK s.1 (.inr p.1) p.2.2,s.2)else(s.1,putK s.2 (.inr p.1) p.2.2)
def fil(ps:lS)(os:List Bool)(us:List V):List (Key×V)×List (Key×V):=(ps.zip (os.zip us)).foldl filS ([],[])
theorem yM(kvs:List (Key×V))(k:Key)(v:V):(putK kvs k v).length<=kvs.length+1:=by
 unfold putK;split
 ·rw[uc]
  lia
 ·rw[uk]
  exact ui _
inductive spCalled(cF:Addr)(vs:List V)(H:Hp)(Q:VK)(e_3:XK):Prop
 |mk (one:Addr) (vl:Addr) (qp:Addr) (qo:Addr) (n:Str) (b:V) (ps:lS) (os:List Bool):(∃us:List V,vs=[.ref one,.ref vl]/\H one=some (.tup [.str n,.ref qp,.ref qo,b])/\H qp=some (.tup (ps.map V.str))/\H qo=some (.tup (os.map V.bl))/\H vl=some (.lst us)/\(ps.length=os.length/\ps.length=us.length/\ps.length<=1000)/\∀H' f dx hd ld td,Same H H'->H f=none->Fd H hd ld td->H' f=some (FrO cF dx b "" hd ld td)->H' hd=some (.dK (fil ps os us).1)->H' ld=some (.dK (fil ps os us).2)->H' td=some (.dK [])->Q (.ref f) H')->spCalled cF vs H Q e_3
section
variable{K:ua}
theorem Ju:FnScope ["self","body","wants"] ["self","body","wants"] (zo Zh):=⟨rfl,rfl,rfl,by decide +kernel,rfl,by decide +kernel,by decide +kernel⟩
theorem WG(F:Fun K "__init__" "Frame.__init__" Zh f fd)(N:FrN K cF):FnOk P w K mg base CX0 1 f fd ["self","body","wants"] (spFrInit cF):=by
 refine F.by Ju (fun vs H Q E h=>?_) (fun cdv A outer s H vs Q E hr h=>?_)
 ·obtain⟨x,dx,b,w,rfl,_⟩:=h
  rfl
 obtain⟨x,dx,b,w,rfl,hx,q⟩:=h;refine⟨_,(zj (zZ (jv 0) (jv 1)) (zj (zZ (jv 0) (jv 2)) (zj (zZ (jv 0) yx) (zj (zZ (jv 0) yx) (zn (zZ (jv 0) yx)))))),?_⟩;refine(zx rfl rfl ⟨x,cF,dx,(zf rfl ⟨hx,N.cl,N.n1,by show 0 < 1000;decide,?_⟩)⟩);refine(zx rfl rfl ⟨x,cF,dx,(zf rfl ⟨zg,N.cl,N.n2,by show 1 < 1000;decide,?_⟩)⟩);have k2:KN x H (upd (upd H x (.ins cF dx (putF "body" b []))) x (.ins cF dx (putF "wants" (.str w) (putF "body" b [])))):=KN.refl.put.put;have x2:=zg (H:=upd H x (.ins cF dx (putF "body" b []))) (a:=x) (o:=.ins cF dx (putF "wants" (.str w) (putF "body" b [])));generalize upd (upd H x (.ins cF dx (putF "body" b []))) x (.ins cF dx (putF "wants" (.str w) (putF "body" b [])))=H2 at *;intro hd hhd;have nh:hd≠x:=fun z=>by rw[z,x2]at hhd;cases hhd
 have fh:=k2.free nh hhd;refine(zf rfl ⟨x,cF,dx,(zf rfl ⟨by rw[zh nh.symm];exact x2,N.cl,N.n3,by show 2 < 1000;decide,?_⟩)⟩);have k4:=(k2.new (o:=.dK []) hhd).put (o:=.ins cF dx (putF "held" (.ref hd) (putF "wants" (.str w) (putF "body" b []))));have x4:=zg (H:=upd H2 hd (.dK [])) (a:=x) (o:=.ins cF dx (putF "held" (.ref hd) (putF "wants" (.str w) (putF "body" b []))));have h4:(upd (upd H2 hd (.dK [])) x (.ins cF dx (putF "held" (.ref hd) (putF "wants" (.str w) (putF "body" b []))))) hd=some (.dK []):=by rw[zh nh];exact zg
 generalize upd (upd H2 hd (.dK [])) x (.ins cF dx (putF "held" (.ref hd) (putF "wants" (.str w) (putF "body" b []))))=H4 at *;intro ld hld;have nl:ld≠x:=fun z=>by rw[z,x4]at hld;cases hld
 have fl:=k4.free nl hld;have nhl:hd≠ld:=zk h4 hld;refine(zf rfl ⟨x,cF,dx,(zf rfl ⟨by rw[zh nl.symm];exact x4,N.cl,N.n4,by show 3 < 1000;decide,?_⟩)⟩);have k6:=(k4.new (o:=.dK []) hld).put (o:=.ins cF dx (putF "lent" (.ref ld) (putF "held" (.ref hd) (putF "wants" (.str w) (putF "body" b [])))));have x6:=zg (H:=upd H4 ld (.dK [])) (a:=x) (o:=.ins cF dx (putF "lent" (.ref ld) (putF "held" (.ref hd) (putF "wants" (.str w) (putF "body" b [])))));have h6:(upd (upd H4 ld (.dK [])) x (.ins cF dx (putF "lent" (.ref ld) (putF "held" (.ref hd) (putF "wants" (.str w) (putF "body" b [])))))) hd=some (.dK []):=by rw[zh nh,zh nhl];exact h4
 have l6:(upd (upd H4 ld (.dK [])) x (.ins cF dx (putF "lent" (.ref ld) (putF "held" (.ref hd) (putF "wants" (.str w) (putF "body" b [])))))) ld=some (.dK []):=by rw[zh nl];exact zg
 generalize upd (upd H4 ld (.dK [])) x (.ins cF dx (putF "lent" (.ref ld) (putF "held" (.ref hd) (putF "wants" (.str w) (putF "body" b [])))))=H6 at *;intro td htd;have nt:td≠x:=fun z=>by rw[z,x6]at htd;cases htd
 have ft:=k6.free nt htd;have nht:hd≠td:=zk h6 htd;have nlt:ld≠td:=zk l6 htd;refine(zf rfl ⟨x,cF,dx,(zf rfl ⟨by rw[zh nt.symm];exact x6,N.cl,N.n5,by show 4 < 1000;decide,?_⟩)⟩);exact q _ hd ld td (k6.new htd).put ⟨fh,fl,ft,nhl,nht,nlt⟩ zg (by rw[zh nh,zh nht];exact h6) (by rw[zh nl,zh nlt];exact l6) (by rw[zh nt];exact zg)
theorem scCalled:FnScope ["one","values","frame","param","own","value","names"] ["one","values"] (zo Zi):=⟨rfl,rfl,rfl,by decide +kernel,rfl,by decide +kernel,by decide +kernel⟩
theorem WI(F:Fun K "called_frame" "called_frame" Zi f fd)(N:FrN K cF)(GF:Ma P w K mg base CX0 1 "Frame" cF ["self","body","wants"] (spFrInit cF))(m_zip:mg "zip"=none):FnOk P w K mg base CX0 3 f fd ["one","values"] (spCalled cF):=by
 refine F.by scCalled (fun vs H Q E h=>?_) (fun cdv A outer s H vs Q E hr h=>?_)
 ·obtain⟨one,vl,qp,qo,n,b,ps,os,us,rfl,_⟩:=h
  rfl
 obtain⟨one,vl,qp,qo,n,b,ps,os,us,rfl,h1,hp,ho,hv,⟨e1,e2,e3⟩,q⟩:=h;have hr1:Room 1 _:=hr.mono (by decide);refine⟨_,
  (zj (zE (i:=2) scCalled.nd rfl (Or.inl rfl) (vG GF hr rfl zB (ja_c (zC K (jv 0)) (ja_c zu zi))))
  (zj (yH PassesOwn.never rfl (Ze rfl m_zip (ja_c (zC K (jv 0)) (ja_c (zC K (jv 0)) (ja_c (jv 1) zi)))) (xb K rfl (zV (zG (i:=3) scCalled.nd rfl (Or.inl rfl)) (zV (zG (i:=4) scCalled.nd rfl (Or.inl rfl)) (zV (zG (i:=5) scCalled.nd rfl (Or.inl rfl)) yV))))
   (zj (zE (i:=6) scCalled.nd rfl (Or.inl rfl) (yZ (z7 (jv 4)) (zr K (jv 2)) (zr K (jv 2))))
   (zn (yy hr1 (jv 6) (jv 3) (jv 5)))))
  (zn (zw (jv 2))))),?_⟩
 have sl:=ym;refine zf rfl (ixT h1 (zq (j:=3) rfl) fun x dx hx hdx ndx=>?_);have s0:Same H (upd (upd H dx (.own x)) x (.ins cF dx [])):=(same_new hdx _).new (by rw[zh ndx.symm];exact hx);have x0:=zg (H:=upd H dx (.own x)) (a:=x) (o:=.ins cF dx []);have k0:∀c,c≠x->(upd (upd H dx (.own x)) x (.ins cF dx [])) c=none->H c=none:=fun c n e=>s0.free e;generalize upd (upd H dx (.own x)) x (.ins cF dx [])=H0 at *;refine⟨x,dx,b,"",rfl,x0,fun H1 hd ld td k1 fd1 x1 hh hl ht=>⟨rfl,?_⟩⟩;have s1:Same H H1:=fun c u e=>k1 c u (zk e hx) (s0 c u e);have F1:Fd H hd ld td:=⟨s0.free fd1.h,s0.free fd1.l,s0.free fd1.t,fd1.n1,fd1.n2,fd1.n3⟩;dsimp only[uR,L2.start]
 have zl:(ps.zip (os.zip us)).length=ps.length:=by rw[UT,UT];lia
 refine zf rfl (ixT (s1 _ _ h1) (zq (j:=1) rfl) (zf rfl (ixT (s1 _ _ h1) (zq (j:=2) rfl) (zf rfl ⟨qp,qo,vl,false,false,true,ps.map V.str,os.map V.bl,us,rfl,SqK.t (s1 _ _ hp),SqK.t (s1 _ _ ho),SqK.l (s1 _ _ hv),V1 (k:=false) (m:=false) (e:=true) (xs:=ps.map V.str) (ys:=os.map V.bl) (zs:=us) (by rw[uc,uc];exact e1) (by rw[uc];exact e2) (fun i σ H'=>Same H H'/\H' x=some (FrO cF dx b "" hd ld td)/\(H' hd=some (.dK (((ps.zip (os.zip us)).take i).foldl filS ([],[])).1)/\H' ld=some (.dK (((ps.zip (os.zip us)).take i).foldl filS ([],[])).2)/\H' td=some (.dK []))/\((((ps.zip (os.zip us)).take i).foldl filS ([],[])).1.length<=i/\(((ps.zip (os.zip us)).take i).foldl filS ([],[])).2.length<=i)/\∃y3 y4 y5 y6,σ=[sR one,sR vl,sR x,y3,y4,y5,y6]) ⟨s1,x1,⟨hh,hl,ht⟩,⟨ui _,ui _⟩,_,_,_,_,rfl⟩ (fun i σ H' _ h=>⟨SqK.t (h.1 _ _ hp),SqK.t (h.1 _ _ ho),SqK.l (h.1 _ _ hv)⟩) ?_ ?_⟩))))
 ·rintro i v1 v2 v3 T σ H2 hv1 hv2 hv3 hT ⟨s2,x2,⟨hh2,hl2,ht2⟩,⟨z1,z2⟩,y3,y4,y5,y6,rfl⟩
  rw[ux]at hv1 hv2;obtain⟨p,hp1,rfl⟩:=uz.mp hv1;obtain⟨o,ho1,rfl⟩:=uz.mp hv2;have il:=(ud.mp hp1).1;have ez:(ps.zip (os.zip us))[i]?=some (p,o,v3):=UA (z:=(p,o,v3)) |>.mpr ⟨hp1,UA (z:=(o,v3)) |>.mpr ⟨ho1,hv3⟩⟩
  have et:((ps.zip (os.zip us)).take (i+1)).foldl filS ([],[])=filS (((ps.zip (os.zip us)).take i).foldl filS ([],[])) (p,o,v3):=by rw[Us,ez,UJ];rfl
  rw[et];generalize ((ps.zip (os.zip us)).take i).foldl filS ([],[])=st at *;have s3:=s2.new (o:=.tup [.str p,.bl o,v3]) hT;have x3:=old (o:=.tup [.str p,.bl o,v3]) hT x2;have hh3:=old (o:=.tup [.str p,.bl o,v3]) hT hh2;have hl3:=old (o:=.tup [.str p,.bl o,v3]) hT hl2;have ht3:=old (o:=.tup [.str p,.bl o,v3]) hT ht2;refine⟨T,[.str p,.bl o,v3],rfl,SqT.of zg,rfl,_,_,rfl,_,_,rfl,_,_,rfl,rfl,?_⟩;generalize upd H2 T (.tup [.str p,.bl o,v3])=H3 at *;refine zx rfl rfl ?_;have pl:=yM st.1 (.inr p) v3;have pl2:=yM st.2 (.inr p) v3;cases o with
  |true =>
   refine iteT (zf rfl ⟨x,cF,dx,_,_,rfl,x3,N.cl,N.n3,rfl,?_⟩);refine zx rfl rfl (zf rfl ⟨hd,(zf rfl ⟨.inl ⟨st.1,.inr p,hh3,rfl,by lia,rfl⟩,s3.put F1.h,?_,⟨?_,?_,?_⟩,⟨?_,?_⟩,_,_,_,_,rfl⟩)⟩)
   ·rw[zh (fun e=>by rw[e,hh3]at x3;cases x3)];exact x3
   ·exact zg
   ·rw[zh F1.n1.symm];exact hl3
   ·rw[zh F1.n2.symm];exact ht3
   ·show(putK st.1 (.inr p) v3).length<=_;lia
   ·show st.2.length<=_;lia
  |false =>
   refine iteF (zf rfl ⟨x,cF,dx,_,_,rfl,x3,N.cl,N.n4,rfl,?_⟩);refine zx rfl rfl (zf rfl ⟨ld,(zf rfl ⟨.inl ⟨st.2,.inr p,hl3,rfl,by lia,rfl⟩,s3.put F1.l,?_,⟨?_,?_,?_⟩,⟨?_,?_⟩,_,_,_,_,rfl⟩)⟩)
   ·rw[zh (fun e=>by rw[e,hl3]at x3;cases x3)];exact x3
   ·rw[zh F1.n1];exact hh3
   ·exact zg
   ·rw[zh F1.n3.symm];exact ht3
   ·show st.1.length<=_;lia
   ·show(putK st.2 (.inr p) v3).length<=_;lia
 ·rintro σ H2 ⟨s2,x2,⟨hh2,hl2,ht2⟩,_,y3,y4,y5,y6,rfl⟩
  rw[uc,Ut (by lia)]at hh2 hl2;exact zf rfl (q _ x dx hd ld td s2 hx F1 x2 hh2 hl2 ht2)
inductive Pc
 |num (n:Str) (i:Int)
 |op (n w a b:Str)
 |hold (n x:Str)
 |drop (x:Str)
def IsCd(H:Hp):List Pc->Str->V->Prop
 |[],x,v=>∃p,v=.ref p/\H p=some (.tup [.str "give",.str x])
 |.num n i::r,x,v=>∃p q u,v=.ref p/\H p=some (.tup [.str "let",.str n,.ref q,u])/\H q=some (.tup [.str "num",.int i])/\IsCd H r x u
 |.op n w a b::r,x,v=>∃p q u,v=.ref p/\H p=some (.tup [.str "let",.str n,.ref q,u])/\H q=some (.tup [.str "op",.str w,.str a,.str b])/\IsCd H r x u
 |.hold n y::r,x,v=>∃p u,v=.ref p/\H p=some (.tup [.str "hold",.str n,.str y,u])/\IsCd H r x u
 |.drop y::r,x,v=>∃p u,v=.ref p/\H p=some (.tup [.str "drop",.str y,u])/\IsCd H r x u
theorem IsCd.keep(t:Tups H H'):∀{ps:List Pc}{x:Str}{v:V},IsCd H ps x v->IsCd H' ps x v
 |[],_,_,⟨p,e,h⟩=>⟨p,e,t _ _ h⟩
 |.num _ _::_,_,_,⟨p,q,u,e,h,g,r⟩=>⟨p,q,u,e,t _ _ h,t _ _ g,r.keep t⟩
 |.op _ _ _ _::_,_,_,⟨p,q,u,e,h,g,r⟩=>⟨p,q,u,e,t _ _ h,t _ _ g,r.keep t⟩
 |.hold _ _::_,_,_,⟨p,u,e,h,r⟩=>⟨p,u,e,t _ _ h,r.keep t⟩
 |.drop _::_,_,_,⟨p,u,e,h,r⟩=>⟨p,u,e,t _ _ h,r.keep t⟩
def lnt(ps:lS)(os:List Bool)(us:List V):List (Str×V):=((ps.zip (os.zip us)).filter fun p=>!p.2.1).map fun p=>(p.1,p.2.2)
def putL(kvs:List (Key×V))(p:Str×V):List (Key×V):=putK kvs (.inr p.1) p.2
inductive spFirstFr(cF:Addr)(vs:List V)(H:Hp)(Q:VK)(e_3:XK):Prop
 |mk (one:Addr) (vl:Addr) (qp:Addr) (qo:Addr) (n:Str) (w:Str) (b:V) (ps:lS) (os:List Bool):(∃us:List V,vs=[.ref one,.ref vl,.str w]/\H one=some (.tup [.str n,.ref qp,.ref qo,b])/\H qp=some (.tup (ps.map V.str))/\H qo=some (.tup (os.map V.bl))/\H vl=some (.lst us)/\(ps.length=os.length/\ps.length=us.length/\ps.length<=1000)/\∀H' f dx v hd ld td,Same H H'->H f=none->Fd H hd ld td->H' f=some (FrO cF dx v w hd ld td)->IsCd H' ((lnt ps os us).map fun p=>Pc.drop p.1) w v->H' hd=some (.dK ((lnt ps os us).foldl putL []))->H' ld=some (.dK [])->H' td=some (.dK [])->Q (.ref f) H')->spFirstFr cF vs H Q e_3
def Prv(H:Hp)(l:List (Str×V))(ts:List Addr):Prop:=All2 (fun(p:Str×V) t=>H t=some (.tup [.str p.1,p.2])) l ts
theorem Prv.same{l:List (Str×V)}(h:Prv H l ts)(s:Same H H'):Prv H' l ts:=h.imp fun _ _ e=>s _ _ e
def jJ(h l:List (Key×V))(x:Str):Option V:=match valV h (.inr x)with
 |some v=>some v
 |none=>valV l (.inr x)
inductive spLooked(cF:Addr)(vs:List V)(H:Hp)(Q:VK)(e_3:XK):Prop
 |mk (f:Addr) (dx:Addr) (hd:Addr) (ld:Addr) (td:Addr) (b:V) (w:Str) (x:Str) (h:List (Key×V)) (l:List (Key×V)):(∃v:V,vs=[.ref f,.str x]/\H f=some (FrO cF dx b w hd ld td)/\H hd=some (.dK h)/\H ld=some (.dK l)/\jJ h l x=some v/\Q v H)->spLooked cF vs H Q e_3
inductive spUsed(cF:Addr)(vs:List V)(H:Hp)(Q:VK)(e_3:XK):Prop
 |mk (f:Addr) (dx:Addr) (hd:Addr) (ld:Addr) (td:Addr) (b:V) (w:Str) (x:Str) (h:List (Key×V)):(∃v:V,vs=[.ref f,.str x]/\H f=some (FrO cF dx b w hd ld td)/\H hd=some (.dK h)/\valV h (.inr x)=some v/\Q v (upd H hd (.dK (yG h (.inr x)))))->spUsed cF vs H Q e_3
inductive spUsedV(cF:Addr)(vs:List V)(H:Hp)(Q:VK)(e_3:XK):Prop
 |mk (f:Addr) (dx:Addr) (hd:Addr) (ld:Addr) (td:Addr) (qn:Addr) (qe:Addr) (b:V) (w:Str) (h:List (Key×V)) (l:List (Key×V)) (xs:lS):(∃us:List V,vs=[.ref f,.ref qn,.ref qe]/\H f=some (FrO cF dx b w hd ld td)/\H hd=some (.dK h)/\H ld=some (.dK l)/\H qn=some (.tup (xs.map V.str))/\H qe=some (.tup (uG xs.length (.bl false)))/\xs.length<=1000/\All2 (fun x v=>jJ h l x=some v) xs us/\∀H' r,Same H H'->H r=none->H' r=some (.lst us)->Q (.ref r) H')->spUsedV cF vs H Q e_3
theorem scFirstFr:FnScope ["one","values","wants","lent","body","pair","frame","param","value"] ["one","values","wants"] (zo vV):=⟨rfl,rfl,rfl,by decide +kernel,rfl,by decide +kernel,by decide +kernel⟩
theorem wV:(["one","values","wants","lent","body","pair","frame","param","value","own"]:lS).Nodup:=by decide +kernel
theorem Y3(F:Fun K "first_frame" "first_frame" vV f fd)(N:FrN K cF)(GF:Ma P w K mg base CX0 1 "Frame" cF ["self","body","wants"] (spFrInit cF))(m_zip:mg "zip"=none)(m_reversed:mg "reversed"=none):FnOk P w K mg base CX0 3 f fd ["one","values","wants"] (spFirstFr cF):=by
 refine F.by scFirstFr (fun vs H Q E h=>?_) (fun cdv A outer s H vs Q E hr h=>?_)
 ·obtain⟨one,vl,qp,qo,n,w,b,ps,os,us,rfl,_⟩:=h
  rfl
 obtain⟨one,vl,qp,qo,n,w,b,ps,os,us,rfl,h1,hp,ho,hv,⟨e1,e2,e3⟩,q⟩:=h;have hr1:Room 1 _:=hr.mono (by decide);refine⟨_,
  (zj (wu [7,8] ["own"] (i:=3) scFirstFr.nd rfl (Or.inl rfl) rfl (Ze rfl m_zip (ja_c (zC K (jv 0)) (ja_c (zC K (jv 0)) (ja_c (jv 1) zi)))) (fun _ _ _ _ _=>(xb K (n:=3) rfl (zV (zG (i:=7) wV rfl (Or.inl rfl)) (zV (zG (i:=9) wV rfl (Or.inl rfl)) (zV (zG (i:=8) wV rfl (Or.inl rfl)) yV))))) (fun _ _ _ _ _=>(Xt (xr (z7 (jv 9))))) (fun _ _ _ _ _=>(zT (ja_c (jv 7) (ja_c (jv 8) zi)))))
  (zj (zE (i:=4) scFirstFr.nd rfl (Or.inl rfl) (zT (ja_c zu (ja_c (jv 2) zi))))
  (zj (yH PassesOwn.never rfl (YL rfl m_reversed (ja_c (jv 3) zi)) (zG (i:=5) scFirstFr.nd rfl (Or.inl rfl))
   (zn (zE (i:=4) scFirstFr.nd rfl (Or.inl rfl) (zT (ja_c zu (ja_c (zC K (jv 5)) (ja_c (jv 4) zi)))))))
  (zj (zE (i:=6) scFirstFr.nd rfl (Or.inl rfl) (vG GF hr rfl zB (ja_c (jv 4) (ja_c (jv 2) zi))))
  (zj (yH PassesOwn.never rfl (xp K (jv 3)) (xb K rfl (zV (zG (i:=7) scFirstFr.nd rfl (Or.inl rfl)) (zV (zG (i:=8) scFirstFr.nd rfl (Or.inl rfl)) yV)))
   (zn (yy hr1 (zr K (jv 6)) (jv 7) (jv 8))))
  (zn (zw (jv 6)))))))),?_⟩
 have sl:=ym;have zl:(ps.zip (os.zip us)).length=ps.length:=by rw[UT,UT];lia
 have ll:(lnt ps os us).length<=1000:=by
  unfold lnt;rw[uc];exact uy (UL _ _) (by lia)
 refine(zf rfl (ixT h1 (zq (j:=1) rfl) (zf rfl (ixT h1 (zq (j:=2) rfl) (zf rfl ⟨qp,qo,vl,false,false,true,ps.map V.str,os.map V.bl,us,rfl,SqK.t hp,SqK.t ho,SqK.l hv,XL (xs:=ps.map V.str) (ys:=os.map V.bl) (us:=us) (by rw[uc,uc];exact e1) (by rw[uc];exact e2) (fun j τ ys H'=>Same H H'/\(∃a b c,τ=[sR one,sR vl,some (.str w),none,none,none,none,a,b,c])/\∃ts:List Addr,ys=ts.map V.ref/\Prv H' ((((ps.zip (os.zip us)).take j).filter fun p=>!p.2.1).map fun p=>(p.1,p.2.2)) ts) ⟨Same.refl _,⟨none,none,none,rfl⟩,[],rfl,.nil⟩ (fun j τ ys H' _ h=>⟨SqK.t (h.1 _ _ hp),SqK.t (h.1 _ _ ho),SqK.l (h.1 _ _ hv)⟩) ?_ ?_⟩)))))
 ·rintro j v1 v2 v3 T τ ys H2 hv1 hv2 hv3 hT ⟨s2,⟨ya,yb,yc,rfl⟩,ts,rfl,hts⟩
  rw[ux]at hv1 hv2;obtain⟨p,hp1,rfl⟩:=uz.mp hv1;obtain⟨o,ho1,rfl⟩:=uz.mp hv2;have il:=(ud.mp hp1).1;have tl:=hts.len;rw[uc]at tl;have fl:=UL (fun p:Str×Bool×V=>!p.2.1) ((ps.zip (os.zip us)).take j);rw[Ui]at fl;have ez:(ps.zip (os.zip us))[j]?=some (p,o,v3):=UA (z:=(p,o,v3)) |>.mpr ⟨hp1,UA (z:=(o,v3)) |>.mpr ⟨ho1,hv3⟩⟩
  rw[Us,ez,List.filter_append,uH];have s3:=same_new (o:=.tup [.str p,.bl o,v3]) hT;refine⟨T,[.str p,.bl o,v3],rfl,SqT.of zg,rfl,_,_,rfl,_,_,rfl,_,_,rfl,rfl,?_⟩;generalize upd H2 T (.tup [.str p,.bl o,v3])=H3 at *;refine zf rfl (zf rfl ?_);cases o with
  |true=>exact iteF ⟨s2.trans s3,⟨_,_,_,rfl⟩,ts,rfl,by rw[show List.filter (fun p:Str×Bool×V=>!p.2.1) (some (p,true,v3)).toList=[]from rfl,List.map_nil,Uu];exact hts.same s3⟩
  |false =>
   refine iteT (zx rfl rfl ⟨by show 2<=sizeLine;decide,fun t ht=>⟨by rw[uc];lia,(s2.trans s3).new ht,⟨_,_,_,rfl⟩,ts++[t],by rw[uH];rfl,?_⟩⟩);exact((hts.same s3).same (same_new ht _)).app (.cons zg .nil)
 rintro τ ys H2 ⟨s2,_,ts,rfl,hts⟩ lp hlp;rw[uc,Ut (by lia)]at hts
 replace hts:Prv H2 (lnt ps os us) ts:=hts
 have tl:=hts.len;have s3:=same_new (o:=.lst (ts.map V.ref)) hlp;have hl3:=zg (H:=H2) (a:=lp) (o:=.lst (ts.map V.ref));have hts3:=hts.same s3;have s03:=s2.trans s3;dsimp only[uR,L2.start]
 generalize upd H2 lp (.lst (ts.map V.ref))=H3 at *;refine zf rfl ⟨by show 2<=sizeLine;decide,fun t0 ht0=>?_⟩;have s4:=same_new (o:=.tup [.str "give",.str w]) ht0;have ht4:=zg (H:=H3) (a:=t0) (o:=.tup [.str "give",.str w]);generalize upd H3 t0 (.tup [.str "give",.str w])=H4 at *;have s04:=s03.trans s4;generalize lnt ps os us=lt at *;refine zf rfl ⟨lp,zf rfl ⟨SqL.of (s4 _ _ hl3),Za (xs:=ts.map V.ref) (fun i σ H'=>Same H4 H'/\∃v' y,σ=[sR one,sR vl,some (.str w),sR lp,some v',y,none,none,none]/\IsCd H' ((lt.drop (lt.length-i)).map fun p=>Pc.drop p.1) w v') ⟨Same.refl _,.ref t0,none,rfl,by rw[Nat.sub_zero,UU];exact⟨t0,rfl,ht4⟩⟩ (fun i σ H' _ h=>SqL.of (h.1 _ _ (s4 _ _ hl3))) ?_ ?_⟩⟩
 ·rintro i x σ H5 hx ⟨s5,v',y,rfl,hc⟩
  have hi:i < lt.length:=by
   have:=(ud.mp hx).1
   rw[Uh,uc]at this;lia
  rw[tj (by rw[uc];lia),uc,ux]at hx;obtain⟨z,hz,rfl⟩:=uz.mp hx;obtain⟨p,hp1,hzt⟩:=All2.get hts3 hz;rw[<- tl]at hp1;have zt:=(s4.trans s5) _ _ hzt;refine zf rfl (ixT zt (zq (j:=0) rfl) (zf rfl ⟨by show 3<=sizeLine;decide,fun t ht=>⟨s5.new ht,_,_,rfl,?_⟩⟩));have ed:lt.drop (lt.length-(i+1))=p::lt.drop (lt.length-i):=by
   rw[show lt.length-i=lt.length-1-i+1 by lia,show lt.length-(i+1)=lt.length-1-i by lia,List.drop_eq_getElem?_toList_append,hp1]
   rfl
  rw[ed,uC];exact⟨t,v',rfl,zg,hc.keep (.of (same_new ht _))⟩
 rintro σ H5 ⟨s5,v',y,rfl,hc⟩;rw[uc,<- tl,Uw,tG]at hc;have s05:=s04.trans s5;refine zx rfl rfl (fun x dx hx hdx ndx=>?_);have s6:Same H5 (upd (upd H5 dx (.own x)) x (.ins cF dx [])):=(same_new hdx _).new (by rw[zh ndx.symm];exact hx);have x6:=zg (H:=upd H5 dx (.own x)) (a:=x) (o:=.ins cF dx []);generalize upd (upd H5 dx (.own x)) x (.ins cF dx [])=H6 at *;have s06:=s05.trans s6;refine⟨x,dx,v',w,rfl,x6,fun H7 hd ld td k7 fd7 x7 hh hl ht=>⟨rfl,?_⟩⟩;have s67:Same H5 H7:=fun c u e=>k7 c u (zk e hx) (s6 c u e);have s07:=s05.trans s67;have F7:Fd H hd ld td:=⟨s06.free fd7.h,s06.free fd7.l,s06.free fd7.t,fd7.n1,fd7.n2,fd7.n3⟩;have h57:=s67 _ _ (s5 _ _ (s4 _ _ hl3));have hts7:=hts3.same ((s4.trans s5).trans s67);have hc7:=hc.keep (.of s67);dsimp only[uR]
 refine zf rfl ⟨lp,rfl,⟨_,SqL.of h57⟩,vw (xs:=ts.map V.ref) (fun i σ H'=>(∀b u,b≠hd->H7 b=some u->H' b=some u)/\H' hd=some (.dK ((lt.take i).foldl putL []))/\((lt.take i).foldl putL []).length<=i/\∃y1 y2,σ=[sR one,sR vl,some (.str w),sR lp,some v',y,sR x,y1,y2]) ⟨fun _ _ _ e=>e,hh,ui _,_,_,rfl⟩ (fun i σ H' _ h=>SqL.of (h.1 _ _ (fun e=>by rw[e,hh]at h57;cases h57) h57)) ?_ ?_⟩
 ·rintro i v σ H8 hv' ⟨k8,h8,l8,y1,y2,rfl⟩
  rw[ux]at hv';obtain⟨t,ht',rfl⟩:=uz.mp hv';have il:=(ud.mp ht').1;obtain⟨p,hp1,hzt⟩:=All2.get hts7 ht';have zt:=k8 _ _ (fun e=>by rw[e,hh]at hzt;cases hzt) hzt;have x8:=k8 _ _ (fun e=>by rw[e,hh]at x7;cases x7) x7;have pl:=yM ((lt.take i).foldl putL []) (.inr p.1) p.2;refine⟨_,_,rfl,SqT.of zt,rfl,_,_,rfl,_,_,rfl,rfl,?_⟩;refine zx rfl rfl ⟨x,cF,dx,_,_,rfl,x8,N.cl,N.n3,rfl,zf rfl ⟨hd,(zf rfl ⟨.inl ⟨_,.inr p.1,h8,rfl,by lia,rfl⟩,?_,?_,?_,_,_,rfl⟩)⟩⟩
  ·exact fun b u n e=>by rw[zh n];exact k8 b u n e
  ·rw[zg,Us,hp1,UJ];rfl
  ·rw[Us,hp1,UJ];show(putK _ _ _).length<=_;exact uy pl (Nat.succ_le_succ l8)
 ·rintro σ H8 ⟨k8,h8,_,y1,y2,rfl⟩
  rw[uc,<- tl,U7]at h8;have nn:∀{b u},H b=some u->b≠hd:=fun e=>zk e F7.h;refine zf rfl (q _ x dx v' hd ld td (fun b u e=>k8 b u (nn e) (s07 b u e)) (s05.free hx) F7 (k8 _ _ (fun e=>by rw[e,hh]at x7;cases x7) x7) (hc7.keep fun b xs e=>k8 _ _ (fun z=>by rw[z,hh]at e;cases e) e) h8 (k8 _ _ F7.n1.symm hl) (k8 _ _ F7.n2.symm ht))
end
end GN
variable{PCS:List GN.Pc}
namespace HT
open PySem PySem.Spec PyProof.Rows
section
variable{s:Shared}{E:VSP}
theorem getItem_tuple_whole{t:Addr}{Q:VSP}(ht:IsTup s.heap t items)(hs:s.heap.IsSliceOf sl vl vu .none)(pl:IsPart vl lo)(pu:IsPart vu hi)
  (hw:sIx items.size 0 lo=0/\sIx items.size items.size hi=items.size) (h:Q (.ref t) s):wpAny (model prog w) A (getItem (.ref t) (.ref sl)) Q E s:=by
 obtain⟨os,hos,hcs,hds⟩:=id hs;have hTs:s.TypeIs (.ref sl) "slice":=⟨os,hos,hcs⟩;unfold getItem
 try with_reducible refine wpAny_holding ?_
 first|refine wpAny_bind (wpAny_pure ?_)|skip
 refine wpAny_bind (wpAny_sequenceKey ht.typeIs (by decide) ?_);refine wpAny_bind (wpAny_callSpecial?_slot (name:=Str.ofString "__getitem__") ht.typeIs Um
  (wpAny_call_entry Um ht.typeIs entry_tuple_getitem ?_ (args_tuple_getitem _ _)))
 show wpAny _ _ (Builtin.Tuple.tupleItemsOf (.ref t) >>= _) _ _ s;refine wpAny_bind (tupleItemsOf_ ht ?_);refine wpAny_bind (wpAny_typeOf hTs ?_);rw[if_pos (by decide)];refine wpAny_bind (xk hs pl pu ?_);have hyes:(((sIx items.size 0 lo:Nat):Int) == 0 && (1:Int) == 1 && (sIx items.size items.size hi-sIx items.size 0 lo) == items.size)=true:=by
  rw[hw.1,hw.2];simp
 show wpAny _ _ (if(((sIx items.size 0 lo:Nat):Int) == 0 && (1:Int) == 1 && (sIx items.size items.size hi-sIx items.size 0 lo) == items.size)=true then _ else _) _ _ s;rw[if_pos hyes];have hx:wpAny (model prog w) A.in1 (Builtin.Tuple.tupleIsExact (.ref t)) (fun b s'=>b=true/\s'=s) (fun _ _=>False) s:=by
  unfold Builtin.Tuple.tupleIsExact;exact wpAny_bind (wpAny_typeOf ht.typeIs (wpAny_pure ⟨by decide,rfl⟩))
 refine wpAny_bind (wpAny_mono hx (fun b s' q=>?_) fun _ _ z=>z.elim);obtain⟨rfl,rfl⟩:=q;rw[if_pos rfl];exact wpAny_bind (wpAny_rule (wpAny_pure ⟨_,rfl,wpAny_pure h⟩))
end
end HT
namespace L2
open PySem PySem.Spec PyProof.Rows
def rSlW(K:ua):V->Option Int->Option Int->Hp->VK->Prop:=fun x lo hi H Q=>∃a xs,x=.ref a/\SqT K H a xs /\
 (cutV xs lo hi=xs->Q (.ref a) H)/\∀p,H p=none->Q (.ref p) (upd H p (.tup (cutV xs lo hi)))
theorem zaA:SlR X (rSlW X.K):=by
 intro pins s σ H x v vl vu lo hi sl Q I rx hs pl pu h;obtain⟨a,xs,rfl,hx,q1,q⟩:=h;by_cases hw:HT.sIx xs.length 0 lo=0/\HT.sIx xs.length xs.length hi=xs.length
 ·cases rx
  obtain⟨its,r,ht,hz⟩:=I.tuple hx;have hlen:its.toArray.size=xs.length:=by rw[uA];exact r.length.symm
  refine⟨"tuple",_,Um.lookup,ht.typeIs,?_⟩;refine HT.getItem_tuple_whole ht hs pl pu (by rw[hlen];exact hw) ⟨.ref a,H,I,rfl,q1 ?_⟩;unfold cutV;rw[hw.1,hw.2];simp
 ·exact zcf pins s σ H (.ref a) v vl vu lo hi sl Q I rx hs pl pu ⟨a,xs,rfl,hx,hw,q⟩
def rSlO:V->Option Int->Option Int->Hp->VK->Prop:=fun x lo hi H Q=>∃a xs,x=.ref a/\H a=some (.tup xs)/\∀p H',(∀b o,H b=some o->H' b=some o)->H' p=some (.tup (cutV xs lo hi))->Q (.ref p) H'
theorem zaB:SlR X rSlO:=by
 intro pins s σ H x v vl vu lo hi sl Q I rx hs pl pu h;obtain⟨a,xs,rfl,hx,q⟩:=h;refine zaA pins s σ H (.ref a) v vl vu lo hi sl Q I rx hs pl pu ⟨a,xs,rfl,SqT.of hx,fun e=>q a H (fun _ _ z=>z) (by rw[e];exact hx),fun p hp=>q p _ (fun b o z=>?_) zg⟩;rw[zh (zk z hp)];exact z
theorem zaC:jSl X rSlO:=⟨zaB⟩
end L2
namespace GN
open PySem L2 K11
inductive IsDn(H:Hp):Addr->lS->Prop
 |num {p:Addr} {i:Int}:H p=some (.tup [.str "num",.int i])->IsDn H p []
 |op {p:Addr} {w a b:Str}:H p=some (.tup [.str "op",.str w,.str a,.str b])->IsDn H p [a,b]
theorem IsDn.same{p:Addr}{xs:lS}(h:IsDn H p xs)(s:Same H H'):IsDn H' p xs:=by
 cases h with
 |num e=>exact .num (s _ _ e)
 |op e=>exact .op (s _ _ e)
inductive spNamesN(vs:List V)(H:Hp)(Q:VK)(e_3:XK):Prop
 |mk (p:Addr):(∃xs:lS,vs=[.ref p]/\IsDn H p xs/\∀H' q,Same H H'->H' q=some (.tup (xs.map V.str))->Q (.ref q) H')->spNamesN vs H Q e_3
inductive spUsedUpN(vs:List V)(H:Hp)(Q:VK)(e_3:XK):Prop
 |mk (p:Addr) (o:V):(∃xs:lS,vs=[.ref p,o]/\IsDn H p xs/\∀H' q,Same H H'->H' q=some (.tup (uG xs.length (.bl false)))->Q (.ref q) H')->spUsedUpN vs H Q e_3
section
variable{K:ua}
theorem Jv:FnScope ["frame","name"] ["frame","name"] (zo Zj):=⟨rfl,rfl,rfl,by decide +kernel,rfl,by decide +kernel,by decide +kernel⟩
theorem WJ(F:Fun K "looked_at" "looked_at" Zj f fd)(N:FrN K cF):FnOk P w K mg base CX0 1 f fd ["frame","name"] (spLooked cF):=by
 refine F.by Jv (fun vs H Q E h=>?_) (fun cdv A outer s H vs Q E hr h=>?_)
 ·obtain⟨f,dx,hd,ld,td,b,w,x,h,l,v,rfl,_⟩:=h
  rfl
 obtain⟨f,dx,hd,ld,td,b,w,x,h,l,v,rfl,hf,hh,hl,e,q⟩:=h;refine⟨_,
  (zj (zK (Jb hr (jv 1) (zr K (jv 0)))
   (zn (zw (yF hr (zr K (jv 0)) (jv 1)))) zD)
  (zj (zK (Jb hr (jv 1) (zr K (jv 0)))
   (zn (zw (yF hr (zr K (jv 0)) (jv 1)))) zD)
  (zn zN))),?_⟩
 refine zx rfl rfl ⟨f,cF,dx,_,_,rfl,hf,N.cl,N.n3,rfl,hd,(zf rfl ⟨DGet.k hh (k:=.inr x),(zf rfl ?_)⟩)⟩;unfold jJ at e;cases eh:valV h (.inr x)with
 |some u =>
  rw[eh]at e;cases e;refine iteT (zf rfl ⟨f,cF,dx,_,_,rfl,hf,N.cl,N.n3,rfl,zf rfl ⟨hd,v,rfl,?_,q⟩⟩);exact eh ▸ DGet.k hh (k:=.inr x)
 |none =>
  rw[eh]at e;have e:valV l (.inr x)=some v:=e;refine iteF ?_;refine zx rfl rfl ⟨f,cF,dx,_,_,rfl,hf,N.cl,N.n4,rfl,ld,(zf rfl ⟨DGet.k hl (k:=.inr x),(zf rfl ?_)⟩)⟩;rw[e];refine iteT (zf rfl ⟨f,cF,dx,_,_,rfl,hf,N.cl,N.n4,rfl,zf rfl ⟨ld,v,rfl,?_,q⟩⟩);exact e ▸ DGet.k hl (k:=.inr x)
theorem zcS:FnScope ["frame","name"] ["frame","name"] (zo Jc):=⟨rfl,rfl,rfl,by decide +kernel,rfl,by decide +kernel,by decide +kernel⟩
theorem zaD(F:Fun K "used" "used" Jc f fd)(N:FrN K cF):FnOk P w K mg base CX0 1 f fd ["frame","name"] (spUsed cF):=by
 refine F.by zcS (fun vs H Q E h=>?_) (fun cdv A outer s H vs Q E hr h=>?_)
 ·obtain⟨f,dx,hd,ld,td,b,w,x,h,v,rfl,_⟩:=h
  rfl
 obtain⟨f,dx,hd,ld,td,b,w,x,h,v,rfl,hf,hh,e,q⟩:=h;refine⟨_,
  (zj (zK (wP hr (jv 1) (zr K (jv 0))) (zn zN) zD)
  (zn (zw (Z6 (zr K (jv 0)) (jv 1))))),?_⟩
 refine zx rfl rfl ⟨f,cF,dx,_,_,rfl,hf,N.cl,N.n3,rfl,hd,(zf rfl ⟨DGet.k hh (k:=.inr x),(zf rfl ?_)⟩)⟩;rw[e];exact iteF (zf rfl ⟨f,cF,dx,_,_,rfl,hf,N.cl,N.n3,rfl,zf rfl ⟨.inl ⟨_,.inl hh⟩,zf rfl ⟨h,.inr x,v,hh,rfl,e,q⟩⟩⟩)
theorem scUsedV:FnScope ["frame","names","ends","spent"] ["frame","names","ends"] (zo wQ):=⟨rfl,rfl,rfl,by decide +kernel,rfl,by decide +kernel,by decide +kernel⟩
theorem XY:(["frame","names","ends","spent","name","end"]:lS).Nodup:=by decide +kernel
theorem v9:(["frame","names","ends","spent","name","end","value"]:lS).Nodup:=by decide +kernel
theorem Jw(F:Fun K "used_values" "used_values" wQ f fd)(GL:Ca P w K mg base CX0 1 "looked_at" ["frame","name"] (spLooked cF))(m_zip:mg "zip"=none):FnOk P w K mg base CX0 2 f fd ["frame","names","ends"] (spUsedV cF):=by
 refine F.by scUsedV (fun vs H Q E h=>?_) (fun cdv A outer s H vs Q E hr h=>?_)
 ·obtain⟨f,dx,hd,ld,td,qn,qe,b,w,h,l,xs,us,rfl,_⟩:=h
  rfl
 obtain⟨f,dx,hd,ld,td,qn,qe,b,w,h,l,xs,us,rfl,hf,hh,hl,hn,he,xl,ha,q⟩:=h;refine⟨_,
  (zj (j6 ["name","end"] (i:=3) scUsedV.nd rfl (Or.inl rfl) rfl (zaj K rfl m_zip (ja_c (jv 1) (ja_c (jv 2) zi))) (fun _ _ _ _ _=>(xb K (n:=2) rfl (zV (zG (i:=4) XY rfl (Or.inl rfl)) (zV (zG (i:=5) XY rfl (Or.inl rfl)) yV)))) (fun _ _ _ _ _=>yC) (fun _ _ _ _ _=>(yZ (z7 (jv 5)) Z5 Vz)))
  (zn (zw (xa ["name","end","value"] rfl (Ze rfl m_zip (ja_c (jv 1) (ja_c (jv 2) (ja_c (jv 3) zi)))) (fun _ _ _ _ _=>(xb K (n:=3) rfl (zV (zG (i:=4) v9 rfl (Or.inl rfl)) (zV (zG (i:=5) v9 rfl (Or.inl rfl)) (zV (zG (i:=6) v9 rfl (Or.inl rfl)) yV))))) (fun _ _ _ _ _=>yC) (fun _ _ _ _ _=>(yZ (z7 (jv 5)) (jv 6) (zM GL hr rfl zB (ja_c (jv 0) (ja_c (jv 4) zi))))))))),?_⟩
 have sl:=ym;have al:=ha.len;refine(zx rfl rfl ⟨qn,qe,false,false,_,_,rfl,SqK.t hn,SqK.t he,YR (xs:=xs.map V.str) (ys:=uG xs.length (.bl false)) (by rw[uc,Ug]) (fun j τ zs H'=>Same H H'/\(∃u v,τ=[sR f,sR qn,sR qe,none,u,v])/\zs=uG j V.non) ⟨Same.refl _,⟨none,none,rfl⟩,rfl⟩ (fun j τ zs H' _ h=>⟨SqK.t (h.1 _ _ hn),SqK.t (h.1 _ _ he)⟩) ?_ ?_⟩)
 ·rintro j v1 v2 T τ zs H3 hv1 hv2 hT ⟨s3,⟨u,v,rfl⟩,rfl⟩
  have jl:=(ud.mp hv1).1;rw[uc]at jl;have e2:=List.eq_of_mem_replicate (uM hv2);subst e2;refine⟨T,(zf rfl ⟨SqT.of zg,rfl,_,_,rfl,_,_,rfl,rfl,(zf rfl (zf rfl (iteF ?_)))⟩)⟩;exact⟨by rw[Ug];lia,s3.new hT,⟨_,_,rfl⟩,by rw[U4]⟩
 rintro τ zs H3 ⟨s3,_,rfl⟩ l3 h3;rw[uc];have s4:=s3.new (o:=.lst (uG xs.length V.non)) h3;have hl4:=zg (H:=H3) (a:=l3) (o:=.lst (uG xs.length V.non));dsimp only[uR,L2.start]
 generalize upd H3 l3 (.lst (uG xs.length V.non))=H4 at *;refine(zx rfl rfl (zf rfl ⟨qn,qe,l3,false,false,true,xs.map V.str,uG xs.length (.bl false),uG xs.length .non,rfl,SqK.t (s4 _ _ hn),SqK.t (s4 _ _ he),SqK.l hl4,XL (xs:=xs.map V.str) (ys:=uG xs.length (.bl false)) (us:=uG xs.length .non) (by rw[uc,Ug]) (by rw[uc,Ug]) (fun j τ zs H'=>Same H4 H'/\(∃a b c,τ=[sR f,sR qn,sR qe,sR l3,a,b,c])/\zs=us.take j) ⟨Same.refl _,⟨none,none,none,rfl⟩,rfl⟩ (fun j τ zs H' _ h=>⟨SqK.t (h.1 _ _ (s4 _ _ hn)),SqK.t (h.1 _ _ (s4 _ _ he)),SqK.l (h.1 _ _ hl4)⟩) ?_ ?_⟩))
 ·rintro j v1 v2 v3 T τ zs H5 hv1 hv2 hv3 hT ⟨s5,⟨a1,b1,c1,rfl⟩,rfl⟩
  obtain⟨x,hx,rfl⟩:=L2.gM hv1;have jl:=(ud.mp hx).1;have e2:=List.eq_of_mem_replicate (uM hv2);subst e2;obtain⟨u,hu,hlk⟩:=ha.getl hx;have s6:=s5.new (o:=.tup [.str x,.bl false,v3]) hT;refine⟨T,[.str x,.bl false,v3],rfl,SqT.of zg,rfl,_,_,rfl,_,_,rfl,_,_,rfl,rfl,?_⟩;generalize upd H5 T (.tup [.str x,.bl false,v3])=H6 at *;have s06:=s4.trans s6;refine zf rfl (zf rfl (iteF (zx rfl rfl ⟨f,dx,hd,ld,td,b,w,x,h,l,u,rfl,s06 _ _ hf,s06 _ _ hh,s06 _ _ hl,hlk,?_⟩)));refine⟨by rw[Ui];lia,s6,⟨_,_,_,rfl⟩,?_⟩;rw[Us,hu]
  rfl
 ·rintro τ zs H5 ⟨s5,_,rfl⟩ r hr'
  rw[uc,al,U7];exact q _ r ((s4.trans s5).new hr') ((s4.trans s5).free hr') zg
theorem WK:FnScope ["deed"] ["deed"] (zo vW):=⟨rfl,rfl,rfl,by decide +kernel,rfl,by decide +kernel,by decide +kernel⟩
theorem WL(F:Fun K "names_of" "names_of" vW f fd):FnOk P w K mg base CX0 1 f fd ["deed"] spNamesN:=by
 refine F.by WK (fun vs H Q E h=>?_) (fun cdv A outer s H vs Q E hr h=>?_)
 ·obtain⟨p,xs,rfl,_⟩:=h
  rfl
 obtain⟨p,xs,rfl,hd,q⟩:=h;refine⟨_,
  (zj (zK (zv z6 (zC K (jv 0)) zu (zy _)) (zn (zw (zT zi))) zD)
  (zj (zK (zv z6 (zC K (jv 0)) zu (zy _)) (zn (zw (vA zaC (jv 0) (vh zp) Xs))) zD)
  (zj zN (zn zN)))),?_⟩
 cases hd with
 |num hp=>exact zbr rfl hp ⟨by show 0<=sizeLine;decide,fun r hr=>q _ r (same_new hr _) zg⟩
 |@op w0 a b hp=>exact zbs rfl hp (zbr rfl hp (zx rfl rfl ⟨p,(zf rfl ⟨hp,fun r H' s1 h1=>q H' r s1 h1⟩)⟩))
theorem Jx:FnScope ["deed","owns"] ["deed","owns"] (zo Zp):=⟨rfl,rfl,rfl,by decide +kernel,rfl,by decide +kernel,by decide +kernel⟩
theorem Jy:(["deed","owns","name"]:lS).Nodup:=by decide +kernel
theorem Y4(F:Fun K "used_up" "used_up" Zp f fd)(GN':Ca P w K mg base CX0 1 "names_of" ["deed"] spNamesN)(m_tuple:mg "tuple"=none):FnOk P w K mg base CX0 2 f fd ["deed","owns"] spUsedUpN:=by
 refine F.by Jx (fun vs H Q E h=>?_) (fun cdv A outer s H vs Q E hr h=>?_)
 ·obtain⟨p,o,xs,rfl,_⟩:=h
  rfl
 obtain⟨p,o,xs,rfl,hd,q⟩:=h;refine⟨_,
  (zj (zK (zv z6 (zC K (jv 0)) zu (zy _)) (zn zN) zD)
  (zn (zw (yu (xu K) rfl m_tuple Uq (ja_c (xa ["name"] rfl (Zd K (zM GN' hr rfl zB (ja_c (jv 0) zi))) (fun _ _ _ _ _=>(zG (i:=2) Jy rfl (Or.inl rfl))) (fun _ _ _ _ _=>yC) (fun _ _ _ _ _=>(yB xZ (zC K (jv 0)) zu (zy _)))) zi))))),?_⟩
 have sl:=ym;have xl:xs.length<=2:=by cases hd<;>simp
 obtain⟨w0,rest,hp,hw⟩:∃w0 rest,H p=some (.tup (.str w0::rest))/\(w0≠"call"/\(xs≠[]->w0="op")):=by
  cases hd with
  |num hp=>exact⟨_,_,hp,by decide,fun h=>absurd rfl h⟩
  |op hp=>exact⟨_,_,hp,by decide,fun _=>rfl⟩
 refine zbs rfl hp ?_ (decide_eq_false fun z=>hw.1 (V.str.inj z));refine(zf rfl ⟨p,xs,rfl,hd,fun H1 q1 s1 hq1=>?_⟩);refine⟨q1,rfl,⟨_,SqT.of hq1⟩,zcE (xs:=xs.map V.str) (fun j τ ys H'=>H1=H'/\(∃v,τ=[sR p,some o,v])/\ys=uG j (V.bl false)) ⟨rfl,⟨none,rfl⟩,rfl⟩ (fun j τ ys H' _ h=>SqT.of (h.1 ▸ hq1)) ?_ ?_⟩
 ·rintro j v τ ys H2 hv ⟨rfl,⟨v',rfl⟩,rfl⟩
  have jl:=(ud.mp hv).1;rw[uc]at jl;have ew:=hw.2 (fun z=>by rw[z]at jl;cases jl);subst ew;refine(zf rfl (ixT (s1 _ _ hp) (zq (j:=0) rfl) ⟨rfl,by rw[Ug];lia,rfl,⟨_,rfl⟩,?_⟩));rw[U4]
  rfl
 ·rintro τ ys H2 ⟨rfl,_,rfl⟩ l hl
  rw[uc];refine⟨l,(zf rfl (.inl ⟨SqL.of zg,fun t ht=>?_⟩))⟩;exact q _ t ((s1.new hl).new ht) zg
end
end GN
namespace L2
open PySem PySem.Spec PyProof.Rows
structure OBase(K:ua)(R f:Addr)(m:Str):Prop where
 sp:tw K (.ref R) "__getattribute__"=some (some (.builtin "type.__getattribute__"))
 rd:PySem.W.readsIn K R (.type "type")=true
 fi:tf K (.ref R) (.type "type") m=some (.val (.ref f))
 kp:uE K (.ref f)=true
structure Oa(P:Program)(w:World)(K:ua)(mg:Str->Option Value)(base:Heap)(CX:CXT)(k:Nat)(x:Str)(R:Addr)(m:Str)(ps:lS)(sp:Sp):Prop where
 ex:∃f fd,OBase K R f m/\FnOk P w K mg base CX k f fd ps sp/\Binds K fd ps []/\mg x=some (.ref R)
section
variable{k:Nat}{R:Addr}{E:XK}{a:Expr}{as:List Expr}{t:TA}
theorem zcT{pl:Sem Bool}(B:OBase X.K R f m)(F:FnOk X.prog X.w X.K X.mg X.base CX k f fd ps sp)(hr:Room k X.A)(hb:Binds X.K fd ps ds)(hd:Vals dvs ds)(hx:yv CX X E)(hg:Gl X x)(hm:X.mg x=some (.ref R))(ha:PA X (a::as) t)(hdb:(x == ("__debug__":Str))=false:=by decide)(h1:zF a=false:=by rfl)(h2:as.all (fun e=>!zF e)=true:=by rfl)
  (ht:eval (.Call (.Attribute (.Name x np) m apos) (a::as) [] pos) X.env=(do
   let ov <- eval (.Name x np) X.env
   standAt apos.atName
   let (f,first) <- holding [ov] (getMethod ov m pl)
   callWith pos f first (backTo pos (starEach (a::as) X.env)) (backToKw pos (keywordEach [] X.env))):=by rfl) :
  PE X (.Call (.Attribute (.Name x np) m apos) (a::as) [] pos) (wo sp dvs E t):=by
 intro pins s σ H Q I h;refine UW (pl:=pl) (yE I hg hm ?_ hdb) ht;refine PySem.W.method_cls I.kIn B.sp (PySem.W.cls_value I.kIn B.rd B.fi (by rfl) ?_);have I0:Inv X pins σ H { s with toks:=s.toks+1 }:=I.tok _;refine UD (h₀:=X.base) I.ok.mod.kin B.kp (thn (ha pos pins _ σ H _ I0 h) fun us s1 ⟨vs,H1,I1,r,q⟩=>⟨I1.kIn,?_⟩) (zL h1) (yl h2);exact wK F hr hb hd hx I1 r q
theorem zcU{pl:Sem Bool}(F:Oa X.prog X.w X.K X.mg X.base CX k x R m ps sp)(hr:Room k X.A)(hx:yv CX X E)(hg:Gl X x)(ha:jA X (a::as) t)(hdb:(x == ("__debug__":Str))=false:=by decide)(h1:zF a=false:=by rfl)(h2:as.all (fun e=>!zF e)=true:=by rfl)
  (ht:eval (.Call (.Attribute (.Name x np) m apos) (a::as) [] pos) X.env=(do
   let ov <- eval (.Name x np) X.env
   standAt apos.atName
   let (f,first) <- holding [ov] (getMethod ov m pl)
   callWith pos f first (backTo pos (starEach (a::as) X.env)) (backToKw pos (keywordEach [] X.env))):=by rfl) :
  jE X (.Call (.Attribute (.Name x np) m apos) (a::as) [] pos) (wo sp [] E t):=let ⟨_,_,B,G,b,hm⟩:=F.ex;⟨zcT B G hr b .nil hx hg hm ha.out hdb h1 h2 ht⟩
end
end L2
namespace GN
open PySem L2 K11
variable{Q:List V->Hp->Prop}{u:HO}
structure HcN(K:ua)(C:Addr):Prop where
 cl:Cls K C
 n1:NoAttr K C "size"
 n2:NoAttr K C "fresh"
 n3:NoAttr K C "anew"
 n4:NoAttr K C "peak"
 n5:NoAttr K C "by_number"
 n6:NoAttr K C "kept_places"
structure ScN(K:ua)(C:Addr):Prop where
 n7:NoAttr K C "waiting"
 n8:NoAttr K C "first"
structure RcN(K:ua)(C:Addr):Prop where
 cl:Cls K C
 n1:NoAttr K C "numbers"
def HpO(C dx:Addr)(sz:Int)(bd kp:Addr)(ext:List (Str×V)):HO:=.ins C dx (("size",.int sz)::("fresh",.int 0)::("anew",.int 0)::("peak",.int 0)::("by_number",.ref bd)::("kept_places",.ref kp)::ext)
inductive HpI(cR:Addr)(H:Hp)(bd kp:Addr):Prop
 |mk (dxr nl:Addr):H bd=some (.dK [])->H kp=some (.ins cR dxr [("numbers",.ref nl)])->H nl=some (.lst [])->HpI cR H bd kp
theorem HpI.keep{bd kp:Addr}(h:HpI cR H bd kp)(k:∀b u,H b=some u->(u=.dK []\/u=.lst []\/∃dxr nl,u=.ins cR dxr [("numbers",.ref nl)])->H' b=some u):HpI cR H' bd kp:=by
 obtain⟨a,b,c,d,e⟩:=h;exact⟨a,b,k _ _ c (.inl rfl),k _ _ d (.inr (.inr ⟨_,_,rfl⟩)),k _ _ e (.inr (.inl rfl))⟩
theorem HpI.same{bd kp:Addr}(h:HpI cR H bd kp)(s:Same H H'):HpI cR H' bd kp:=h.keep fun b u e _=>s b u e
inductive HpE(cH cS cR:Addr)(H:Hp)(hp:Addr):Addr->Prop
 |plain (dx bd kp:Addr) (sz:Int):H hp=some (HpO cH dx sz bd kp [])->HpI cR H bd kp->HpE cH cS cR H hp cH
 |slow (dx bd kp wl:Addr) (sz:Int):H hp=some (HpO cS dx sz bd kp [("waiting",.ref wl),("first",.int 0)])->HpI cR H bd kp->H wl=some (.lst [])->HpE cH cS cR H hp cS
theorem HpE.same{hp:Addr}(h:HpE cH cS cR H hp C)(s:Same H H'):HpE cH cS cR H' hp C:=by
 cases h with
 |plain dx bd kp sz a b=>exact .plain dx bd kp sz (s _ _ a) (b.same s)
 |slow dx bd kp wl sz a b c=>exact .slow dx bd kp wl sz (s _ _ a) (b.same s) (s _ _ c)
theorem HpE.kp{hp:Addr}(h:HpE cH cS cR H hp C)(k:∀b u,H b=some u->(∀ps,u≠.tbl ps)->H' b=some u):HpE cH cS cR H' hp C:=by
 have ki:∀{bd kp},HpI cR H bd kp->HpI cR H' bd kp:=fun hI=>hI.keep fun b u e n=>k b u e (by rcases n with rfl|rfl|⟨_,_,rfl⟩<;>(intro _ z;cases z));cases h with
 |plain dx bd kp sz a b=>exact .plain dx bd kp sz (k _ _ a (by intro _ z;unfold HpO at z;cases z)) (ki b)
 |slow dx bd kp wl sz a b c=>exact .slow dx bd kp wl sz (k _ _ a (by intro _ z;unfold HpO at z;cases z)) (ki b) (k _ _ c (by intro _ z;cases z))
theorem HpE.kq{hp:Addr}(h:HpE cH cS cR H hp C)(k:∀b u,H b=some u->(u=.dK []\/u=.lst []\/∃C dx fs,u=.ins C dx fs)->H' b=some u):HpE cH cS cR H' hp C:=by
 have ki:∀{bd kp},HpI cR H bd kp->HpI cR H' bd kp:=fun hI=>hI.keep fun b u e n=>k b u e (by
  rcases n with rfl|rfl|⟨_,_,rfl⟩
  ·exact .inl rfl
  ·exact .inr (.inl rfl)
  ·exact .inr (.inr ⟨_,_,_,rfl⟩))
 cases h with
 |plain dx bd kp sz a b=>exact .plain dx bd kp sz (k _ _ a (.inr (.inr ⟨_,_,_,rfl⟩))) (ki b)
 |slow dx bd kp wl sz a b c=>exact .slow dx bd kp wl sz (k _ _ a (.inr (.inr ⟨_,_,_,rfl⟩))) (ki b) (k _ _ c (.inr (.inl rfl)))
inductive spRis0(cR:Addr)(vs:List V)(H:Hp)(Q:VK)(e_3:XK):Prop
 |mk (x:Addr):(∃dx:Addr,vs=[.ref x]/\H x=some (.ins cR dx [])/\∀H' nl,KN x H H'->H' x=some (.ins cR dx [("numbers",.ref nl)])->H' nl=some (.lst [])->Q .non H')->spRis0 cR vs H Q e_3
inductive spHInit0(cR C:Addr)(vs:List V)(H:Hp)(Q:VK)(e_3:XK):Prop
 |mk (x:Addr) (dx:Addr):(∃sz:Int,vs=[.ref x,.int sz]/\H x=some (.ins C dx [])/\∀H' bd kp,KN x H H'->H' x=some (HpO C dx sz bd kp [])->HpI cR H' bd kp->Q .non H')->spHInit0 cR C vs H Q e_3
inductive spSInit0(cR C:Addr)(vs:List V)(H:Hp)(Q:VK)(e_3:XK):Prop
 |mk (x:Addr) (dx:Addr):(∃sz:Int,vs=[.ref x,.int sz]/\H x=some (.ins C dx [])/\∀H' bd kp wl,KN x H H'->H' x=some (HpO C dx sz bd kp [("waiting",.ref wl),("first",.int 0)])->HpI cR H' bd kp->H' wl=some (.lst [])->Q .non H')->spSInit0 cR C vs H Q e_3
def ja:Sp:=fun vs H Q _=>∃i:Int,vs=[.int i]/\Q (.bl false) H
inductive spNumM(vs:List V)(H:Hp)(Q:VK)(e_3:XK):Prop
 |mk (hp:Addr):(∃i:Int,vs=[.ref hp,.int i]/\Q .non H)->spNumM vs H Q e_3
inductive spFirstN(cH cS cR:Addr)(vs:List V)(H:Hp)(Q:VK)(e_3:XK):Prop
 |mk (hp:Addr):(∃C:Addr,vs=[.ref hp]/\HpE cH cS cR H hp C/\Q (.bl false) H)->spFirstN cH cS cR vs H Q e_3
inductive spWorkN(cH cS cR C:Addr)(vs:List V)(H:Hp)(Q:VK)(e_3:XK):Prop
 |mk (hp:Addr):(∃n:Int,vs=[.ref hp,.int n]/\HpE cH cS cR H hp C/\Q (.int 0) H)->spWorkN cH cS cR C vs H Q e_3
section
variable{K:ua}
theorem zdE:FnScope ["self"] ["self"] (zo sRis):=⟨rfl,rfl,rfl,by decide +kernel,rfl,by decide +kernel,by decide +kernel⟩
theorem zaE(F:Fun K "__init__" "Rising.__init__" sRis f fd)(N:RcN K cR):FnOk P w K mg base CX0 1 f fd ["self"] (spRis0 cR):=by
 refine F.by zdE (fun vs H Q E h=>?_) (fun cdv A outer s H vs Q E hr h=>?_)
 ·obtain⟨x,dx,rfl,_⟩:=h
  rfl
 obtain⟨x,dx,rfl,hx,q⟩:=h;refine⟨_,zn (zZ (jv 0) (zU zi)),?_⟩;refine⟨by show 0<=sizeLine;exact uU _,fun l hl=>?_⟩;have nx:x≠l:=zk hx hl;refine zf rfl ⟨x,cR,dx,zf rfl ⟨by rw[zh nx];exact hx,N.cl,N.n1,by show 0 < 1000;decide,?_⟩⟩;exact q _ l (KN.refl.new hl).put zg (by rw[zh nx.symm];exact zg)
theorem zaF:FnScope ["self","size"] ["self","size"] (zo YY):=⟨rfl,rfl,rfl,by decide +kernel,rfl,by decide +kernel,by decide +kernel⟩
theorem jK(F:Fun K "__init__" "Heap.__init__" YY f fd)(N:HcN K C)(ne:cR≠C)(GR:Ma P w K mg base CX0 1 "Rising" cR ["self"] (spRis0 cR)):FnOk P w K mg base CX0 3 f fd ["self","size"] (spHInit0 cR C):=by
 refine F.by zaF (fun vs H Q E h=>?_) (fun cdv A outer s H vs Q E hr h=>?_)
 ·obtain⟨x,dx,sz,rfl,_⟩:=h
  rfl
 obtain⟨x,dx,sz,rfl,hx,q⟩:=h;refine⟨_,zj (zZ (jv 0) (jv 1)) (zj (zZ (jv 0) zp) (zj (zZ (jv 0) zp) (zj (zZ (jv 0) zp) (zj (zZ (jv 0) yx) (zn (zZ (jv 0) (zcK GR hr rfl zB))))))),?_⟩;refine zx rfl rfl ⟨x,C,dx,zf rfl ⟨hx,N.cl,N.n1,by show 0 < 1000;decide,?_⟩⟩;refine zf rfl ⟨x,C,dx,zf rfl ⟨zg,N.cl,N.n2,by show 1 < 1000;decide,?_⟩⟩;refine zf rfl ⟨x,C,dx,zf rfl ⟨zg,N.cl,N.n3,by show 2 < 1000;decide,?_⟩⟩;refine zf rfl ⟨x,C,dx,zf rfl ⟨zg,N.cl,N.n4,by show 3 < 1000;decide,?_⟩⟩;have k4:KN x H (upd (upd (upd (upd H x (.ins C dx (putF "size" (.int sz) []))) x (.ins C dx (putF "fresh" (.int 0) (putF "size" (.int sz) [])))) x (.ins C dx (putF "anew" (.int 0) (putF "fresh" (.int 0) (putF "size" (.int sz) []))))) x (.ins C dx (putF "peak" (.int 0) (putF "anew" (.int 0) (putF "fresh" (.int 0) (putF "size" (.int sz) [])))))):=KN.refl.put.put.put.put;have x4:=zg (H:=upd (upd (upd H x (.ins C dx (putF "size" (.int sz) []))) x (.ins C dx (putF "fresh" (.int 0) (putF "size" (.int sz) [])))) x (.ins C dx (putF "anew" (.int 0) (putF "fresh" (.int 0) (putF "size" (.int sz) []))))) (a:=x) (o:=.ins C dx (putF "peak" (.int 0) (putF "anew" (.int 0) (putF "fresh" (.int 0) (putF "size" (.int sz) [])))));generalize upd (upd (upd (upd H x (.ins C dx (putF "size" (.int sz) []))) x (.ins C dx (putF "fresh" (.int 0) (putF "size" (.int sz) [])))) x (.ins C dx (putF "anew" (.int 0) (putF "fresh" (.int 0) (putF "size" (.int sz) []))))) x (.ins C dx (putF "peak" (.int 0) (putF "anew" (.int 0) (putF "fresh" (.int 0) (putF "size" (.int sz) [])))))=H4 at *;intro bd hbd;have nb:bd≠x:=fun z=>by rw[z,x4]at hbd;cases hbd
 refine zf rfl ⟨x,C,dx,zf rfl ⟨by rw[zh nb.symm];exact x4,N.cl,N.n5,by show 4 < 1000;decide,?_⟩⟩;have k6:=(k4.new (o:=.dK []) hbd).put (o:=.ins C dx (putF "by_number" (.ref bd) (putF "peak" (.int 0) (putF "anew" (.int 0) (putF "fresh" (.int 0) (putF "size" (.int sz) []))))));have x6:=zg (H:=upd H4 bd (.dK [])) (a:=x) (o:=.ins C dx (putF "by_number" (.ref bd) (putF "peak" (.int 0) (putF "anew" (.int 0) (putF "fresh" (.int 0) (putF "size" (.int sz) []))))));have b6:(upd (upd H4 bd (.dK [])) x (.ins C dx (putF "by_number" (.ref bd) (putF "peak" (.int 0) (putF "anew" (.int 0) (putF "fresh" (.int 0) (putF "size" (.int sz) []))))))) bd=some (.dK []):=by rw[zh nb];exact zg
 generalize upd (upd H4 bd (.dK [])) x (.ins C dx (putF "by_number" (.ref bd) (putF "peak" (.int 0) (putF "anew" (.int 0) (putF "fresh" (.int 0) (putF "size" (.int sz) []))))))=H6 at *;intro r dr hr1 hr2 hne;have s7:Same H6 (upd (upd H6 dr (.own r)) r (.ins cR dr [])):=(same_new hr2 _).new (by rw[zh hne.symm];exact hr1);refine⟨r,dr,rfl,zg,fun H8 nl k8 r8 n8=>⟨rfl,?_⟩⟩;have s8:Same H6 H8:=fun c u e=>k8 c u (zk e hr1) (s7 c u e);have nrx:r≠x:=fun z=>by rw[z,x6]at hr1;cases hr1
 refine zf rfl ⟨x,C,dx,zf rfl ⟨s8 _ _ x6,N.cl,N.n6,by show 5 < 1000;decide,?_⟩⟩;have k9:KN x H (upd H8 x (HpO C dx sz bd r [])):=fun c u n e=>by rw[zh n];exact s8 _ _ (k6 c u n e)
 refine q _ bd r k9 zg ⟨dr,nl,?_,?_,?_⟩
 ·rw[zh nb];exact s8 _ _ b6
 ·rw[zh nrx];exact r8
 ·rw[zh (fun z=>by rw[z,s8 _ _ x6]at n8;cases n8)];exact n8
theorem zaG:FnScope ["self","size"] ["self","size"] (zo YZ):=⟨rfl,rfl,rfl,by decide +kernel,rfl,by decide +kernel,by decide +kernel⟩
theorem WM(F:Fun K "__init__" "SlowHeap.__init__" YZ f fd)(N:HcN K C)(N2:ScN K C)(OH:Oa P w K mg base CX0 3 "Heap" cH "__init__" ["self","size"] (spHInit0 cR C)):FnOk P w K mg base CX0 4 f fd ["self","size"] (spSInit0 cR C):=by
 refine F.by zaG (fun vs H Q E h=>?_) (fun cdv A outer s H vs Q E hr h=>?_)
 ·obtain⟨x,dx,sz,rfl,_⟩:=h
  rfl
 obtain⟨x,dx,sz,rfl,hx,q⟩:=h;refine⟨_,zj (zP (zcU OH hr zB rfl (ja_c (jv 0) (ja_c (jv 1) zi)))) (zj (zZ (jv 0) (zU zi)) (zn (zZ (jv 0) zp))),?_⟩;refine zx rfl rfl ⟨x,dx,sz,rfl,hx,fun H1 bd kp k1 x1 hI=>?_⟩;refine⟨by show 0<=sizeLine;exact uU _,fun wl hwl=>?_⟩;have nw:x≠wl:=zk x1 hwl;refine zf rfl ⟨x,C,dx,zf rfl ⟨by rw[zh nw];exact x1,N.cl,N2.n7,by show 6 < 1000;decide,?_⟩⟩;refine zf rfl ⟨x,C,dx,zf rfl ⟨zg,N.cl,N2.n8,by show 7 < 1000;decide,?_⟩⟩;obtain⟨dxr,nl,i1,i2,i3⟩:=hI;have k2:∀{o o':HO}{b:Addr}{u:HO},b≠x->H1 b=some u->(upd (upd (upd H1 wl (.lst [])) x o) x o') b=some u:=fun n e=>by rw[zh n,zh n,zh (zk e hwl)];exact e
 refine q _ bd kp wl (((k1.new hwl).put).put) zg ⟨dxr,nl,k2 (fun z=>by rw[z,x1]at i1;cases i1) i1,?_,k2 (fun z=>by rw[z,x1]at i3;cases i3) i3⟩ (by rw[zh nw.symm,zh nw.symm];exact zg);exact k2 (fun z=>by rw[z,x1]at i2;injection i2 with i2;unfold HpO at i2;injection i2 with a b c;simp at c) i2
theorem zaH:FnScope ["value"] ["value"] (zo YX):=⟨rfl,rfl,rfl,by decide +kernel,rfl,by decide +kernel,by decide +kernel⟩
theorem WN(F:Fun K "is_box" "is_box" YX f fd)(m_isinstance:mg "isinstance"=none)(m_tuple:mg "tuple"=none):FnOk P w K mg base CX0 1 f fd ["value"] ja:=by
 refine F.by zaH (fun vs H Q E h=>?_) (fun cdv A outer s H vs Q E hr h=>?_)
 ·obtain⟨i,rfl,_⟩:=h
  rfl
 obtain⟨i,rfl,q⟩:=h;refine⟨_,zn (zw (zJ zS rfl m_isinstance uq (ja_c (jv 0) (ja_c (z5 (v:=.ty "tuple") rfl m_tuple Uq rfl) zi)))),?_⟩;exact(zf rfl ⟨_,_,_,_,rfl,.int _,rfl,q⟩)
theorem zcV:FnScope ["self","value","box"] ["self","value"] (zo XN):=⟨rfl,rfl,rfl,by decide +kernel,rfl,by decide +kernel,by decide +kernel⟩
theorem Ye(F:Fun K "hold" "Heap.hold" XN f fd)(GI:Ca P w K mg base CX0 1 "is_box" ["value"] ja):FnOk P w K mg base CX0 2 f fd ["self","value"] spNumM:=by
 refine F.by zcV (fun vs H Q E h=>?_) (fun cdv A outer s H vs Q E hr h=>?_)
 ·obtain⟨hp,i,rfl,_⟩:=h
  rfl
 obtain⟨hp,i,rfl,q⟩:=h;refine⟨_,zn (zK (z7 (zM GI hr rfl zB (ja_c (jv 1) zi))) (zj zN (zn zN)) zD),?_⟩;exact zf rfl ⟨i,rfl,zf rfl (iteF q)⟩
theorem zaI:FnScope ["self","value"] ["self","value"] (zo Zk):=⟨rfl,rfl,rfl,by decide +kernel,rfl,by decide +kernel,by decide +kernel⟩
theorem WO:jT X e (fun _ _ _=>False):=⟨fun _ _ _ _ _ _ h=>h.elim⟩
theorem jL(F:Fun K "let_go" "Heap.let_go" Zk f fd)(GI:Ca P w K mg base CX0 1 "is_box" ["value"] ja):FnOk P w K mg base CX0 2 f fd ["self","value"] spNumM:=by
 refine F.by zaI (fun vs H Q E h=>?_) (fun cdv A outer s H vs Q E hr h=>?_)
 ·obtain⟨hp,i,rfl,_⟩:=h
  rfl
 obtain⟨hp,i,rfl,q⟩:=h;refine⟨_,zn (zK (jW.pt (we (z7 (zM GI hr rfl zB (ja_c (jv 1) zi))) (xq WO))) (zn zN) zD),?_⟩;exact zf rfl ⟨i,rfl,zf rfl (iteF (iteF q))⟩
theorem Jz:FnScope ["self"] ["self"] (zo Zl):=⟨rfl,rfl,rfl,by decide +kernel,rfl,by decide +kernel,by decide +kernel⟩
theorem WP(F:Fun K "let_first_go" "Heap.let_first_go" Zl f fd):FnOk P w K mg base CX0 1 f fd ["self"] (spFirstN cH cS cR):=by
 refine F.by Jz (fun vs H Q E h=>?_) (fun cdv A outer s H vs Q E hr h=>?_)
 ·obtain⟨hp,C,rfl,_⟩:=h
  rfl
 obtain⟨hp,C,rfl,_,q⟩:=h;exact⟨_,zn (zw xn),q⟩
def WQ(cH cS cR:Addr):Sp:=fun vs H Q _=>∃(hp:Addr),vs=[.ref hp]/\HpE cH cS cR H hp cS/\Q (.bl false) H
theorem zaJ{hp:Addr}(ne:cH≠cS)(h:HpE cH cS cR H hp cS):∃dx bd kp wl sz,H hp=some (HpO cS dx sz bd kp [("waiting",.ref wl),("first",.int 0)])/\H wl=some (.lst []):=by
 generalize ec:cS=C at h;cases h with
 |plain=>exact absurd ec.symm ne
 |slow dx bd kp wl sz h1 h2 h3=>exact⟨dx,bd,kp,wl,sz,h1,h3⟩
theorem JA:FnScope ["self","box","part"] ["self"] (zo Zn):=⟨rfl,rfl,rfl,by decide +kernel,rfl,by decide +kernel,by decide +kernel⟩
theorem WR(F:Fun K "let_first_go" "SlowHeap.let_first_go" Zn f fd)(N:HcN K cS)(N2:ScN K cS)(ne:cH≠cS)(m_len:mg "len"=none):FnOk P w K mg base CX0 1 f fd ["self"] (WQ cH cS cR):=by
 refine F.by JA (fun vs H Q E h=>?_) (fun cdv A outer s H vs Q E hr h=>?_)
 ·obtain⟨hp,rfl,_⟩:=h
  rfl
 obtain⟨hp,rfl,hE,q⟩:=h;refine⟨_,zj (zK (zv z6 (zr K (jv 0)) (zJ (zQ K) rfl m_len uV (ja_c (zr K (jv 0)) zi)) (zy _)) (zn (zw xn)) zD) (zj zN (zj zN (zj zN (zj zN (zn zN))))),?_⟩;obtain⟨dx,bd,kp,wl,sz,h1,h3⟩:=zaJ ne hE;exact zf rfl ⟨hp,cS,dx,_,_,rfl,h1,N.cl,N2.n8,rfl,zf rfl ⟨hp,cS,dx,_,_,rfl,h1,N.cl,N2.n7,rfl,wl,[],rfl,.inl (SqL.of h3),rfl,(zf rfl (iteT q))⟩⟩
theorem scWork:FnScope ["self","many","done"] ["self","many"] (zo XQ):=⟨rfl,rfl,rfl,by decide +kernel,rfl,by decide +kernel,by decide +kernel⟩
theorem Yf(F:Fun K "work" "Heap.work" XQ f fd)(cl:Cls K C)(hC:∀{H hp C'},HpE cH cS cR H hp C'->C'=C->∃dx fs,H hp=some (.ins C dx fs)/\fs.lookup ("let_first_go":Str)=none)(GF:Me P w K mg base CX0 1 C "let_first_go" ["self"] sp)(hs:∀{H hp Q E},HpE cH cS cR H hp C->Q (.bl false) H->sp [.ref hp] H Q E):FnOk P w K mg base CX0 2 f fd ["self","many"] (spWorkN cH cS cR C):=by
 refine F.by scWork (fun vs H Q E h=>?_) (fun cdv A outer s H vs Q E hr h=>?_)
 ·obtain⟨hp,n,rfl,_⟩:=h
  rfl
 obtain⟨hp,n,rfl,hE,q⟩:=h;refine⟨_,
  (zj (zE (i:=2) scWork.nd rfl (Or.inl rfl) zp)
  (zj (wq PassesOwn.never (jW.pt (we (zv xI (jv 2) (jv 1) (zy _)) (xq (z7 (xg (jv 0) cl GF hr zB)))))
   (zn zN))
  (zn (zw (jv 2))))),?_⟩
 obtain⟨dx,fs,h1,h2⟩:=hC hE rfl;refine⟨fun _ σ H'=>σ=[sR hp,some (.int n),some (.int 0)]/\H=H',⟨0,rfl,rfl⟩,?_⟩;rintro m σ H1 ⟨rfl,rfl⟩;refine zx rfl rfl ⟨0,n,rfl,rfl,(zf rfl ?_)⟩;by_cases c:0 < n
 ·rw[decide_eq_true c]
  exact iteT (zf rfl ⟨hp,dx,fs,rfl,h1,h2,hs hE (zf rfl (iteF (zf rfl q)))⟩)
 ·rw[decide_eq_false c]
  exact iteF (iteF (zf rfl q))
end
theorem Yg{H3:Hp}(h:Pub H H3 cvs):Same H H3:=fun b u e=>by
 rw[h.old b]
 ·exact e
 ·intro z
  obtain⟨p,hp,rfl⟩:=uw.mp z;rw[h.non p hp]at e;cases e
theorem XZ{c1:Addr}{v1:V}(h1:Cel H c1 v1):Clo H [(x,c1)] [x] [v1]:=by
 have l1:([(x,c1)]:List (Str×Addr)).lookup x=some c1:=by simp[UP]
 refine⟨rfl,fun p hp=>?_,fun i y v e1 e2=>?_,fun y hy=>?_,fun y z a e1 e2=>?_⟩
 ·rw[ug.mp hp]
  exact⟨_,h1⟩
 ·match i,e1,e2 with
  |0,e1,e2=>cases e1;cases e2;exact⟨c1,l1,h1⟩
  |i+1,e1,_=>simp at e1
 ·rw[ug.mp hy]
  exact⟨_,l1⟩
 ·have m1:=Ue e1
  have m2:=Ue e2;rw[ug]at m1 m2;exact(Prod.mk.inj m1).1.trans (Prod.mk.inj m2).1.symm
theorem Yh{K:ua}{k:Nat}{body:Expr}{cl:List (Str×Addr)}{fs:lS}{v:V}{Q:VK}{fvs:List V}
  (S:LamScope N [x] fs scope) (bd:Binds K (lamC mg qual params body scope cl c ct) [x] []) (hf:H f=some (FunO f (lamC mg qual params body scope cl c ct))) (hc:H c=some (CodO c qual)) (C:Clo H cl fs fvs)
  (hb:∀(A:Around)(outer:List Env)(s:Shared),Room k (A.deeper (tJ qual scope s.heap.objs.size f (.ref c) cl))->∃t,jE (XE CX0 P w K mg base N qual scope f (.ref c) cl A outer s H E0) body t/\t (some v::fvs.map some) (yU H (cl.map (·.2))) fun r H'=>(∀a∈cl.map (·.2),H' a=none)->Q r (xo H' H (cl.map (·.2)))) :
  CanC P w K mg base (k+1) H f [v] Q E0:=by
 refine⟨lamC mg qual params body scope cl c ct,[x],fun vs H1 Q1 E1=>vs=[v]/\H1=H/\Q1=Q/\E1=E0,zah (k:=k) S (fun vs H1 Q1 E1 h=>?_) (fun A outer s H1 vs Q1 E1 hr h=>?_),bd,⟨rfl,rfl,rfl,rfl⟩,.inl hf⟩
 ·rw[h.1];rfl
 ·obtain⟨rfl,rfl,rfl,rfl⟩:=h
  exact⟨hf,hc,fvs,C,hb A outer s hr⟩
def lmP:Expr->Arguments
 |.Lambda a _ _ _=>a
 |_=>zX xT
def lmB:Expr->Expr
 |.Lambda _ b _ _=>b
 |e=>e
def lmS:Expr->Scope
 |.Lambda _ _ s _=>s
 |_=>zo xT
def jM:Expr->Pos
 |.Lambda _ _ _ p=>p
 |_=>⟨0,0,0,0⟩
def lxA:Expr:=match zO Zt with
 |[.Return (some (.Call _ [_,l] _ _)) _]=>l
 |_=>.Constant .none 0 ⟨0,0,0,0⟩
def lxB:Expr:=match zO xT with
 |[.If _ [.Return (some (.Tuple [_,l] _ _)) _] _ _,_]=>l
 |_=>.Constant .none 0 ⟨0,0,0,0⟩
def lqA:Str:=("boxed_value":Str)++(".<locals>.":Str)++("<lambda>":Str)
def lqB:Str:=("begun_box":Str)++(".<locals>.":Str)++("<lambda>":Str)
def lsA:List (Pos×Str):=[(jM lxA,lqA)]
def lsB:List (Pos×Str):=[(jM lxB,lqB)]
abbrev fdA(mg:Str->Option Value)(c0 c:Addr)(ct:Value):FuncData:=lamC mg lqA (lmP lxA) (lmB lxA) (lmS lxA) [("heap",c0)] c ct
abbrev fdB(mg:Str->Option Value)(c0 c:Addr)(ct:Value):FuncData:=lamC mg lqB (lmP lxB) (lmB lxB) (lmS lxB) [("value",c0)] c ct
theorem scA:LamScope ["one","heap"] ["one"] ["heap"] (lmS lxA):=⟨rfl,rfl,rfl,by decide +kernel,rfl,by decide +kernel,by decide +kernel,by decide +kernel,by decide +kernel⟩
theorem scB:LamScope ["results","value"] ["results"] ["value"] (lmS lxB):=⟨rfl,rfl,rfl,by decide +kernel,rfl,by decide +kernel,by decide +kernel,by decide +kernel,by decide +kernel⟩
theorem lbA:∃p0 p1 p2 p3,lmB lxA=.Call (.Name "begun_box" p0) [.Name "heap" p1,.Name "one" p2] [] p3:=⟨_,_,_,_,rfl⟩
theorem lbB:∃p0,lmB lxB=.Name "value" p0:=⟨_,rfl⟩
inductive ClB(mg:Str->Option Value)(H:Hp)(i:Int)(f:Addr):Prop
 |mk (c0 c:Addr) (ct:Value):H f=some (FunO f (fdB mg c0 c ct))->H c=some (CodO c lqB)->Cel H c0 (.int i)->ClB mg H i f
theorem ClB.keep{i:Int}(h:ClB mg H i f)(k:∀b u,H b=some u->(∀ps,u≠.tbl ps)->(∀xs,u≠.lst xs)->H' b=some u):ClB mg H' i f:=by
 obtain⟨c0,c,ct,h1,h2,o,h3⟩:=h;exact⟨c0,c,ct,k _ _ h1 (by intro _ z;unfold FunO at z;cases z) (by intro _ z;unfold FunO at z;cases z),k _ _ h2 (by intro _ z;unfold CodO at z;cases z) (by intro _ z;unfold CodO at z;cases z),o,k _ _ h3 (by intro _ z;cases z) (by intro _ z;cases z)⟩
theorem yo(h:TbG T ls H)(s:Same H H'):TbG T ls H':=h.keep (fun ps e=>s _ _ e) fun c q e=>s _ _ e
theorem yk(h:TbG T ls H)(e:H b=some u)(n:∀ps,u≠.tbl ps):b≠T:=fun z=>by
 obtain⟨ps,hT,_⟩:=h;rw[z,hT]at e;exact n _ (uQ.inj e).symm
inductive spBegBoxN(mg:Str->Option Value)(T:Addr)(vs:List V)(H:Hp)(Q:VK)(e_3:XK):Prop
 |mk (hv:V):(∃i:Int,vs=[hv,.int i]/\TbG T lsB H/\∀H' q l fl,KM (·=T) H H'->TbG T lsB H'->H' q=some (.tup [.ref l,.ref fl])->H l=none->H' l=some (.lst [])->ClB mg H' i fl->Q (.ref q) H')->spBegBoxN mg T vs H Q e_3
def MAB(TA TB:Addr)(b:Addr):Prop:=b=TA\/b=TB
inductive spBoxedN(TA TB:Addr)(vs:List V)(H:Hp)(Q:VK)(e_3:XK):Prop
 |mk (hv:V):(∃i:Int,vs=[hv,.int i]/\TbG TA lsA H/\TbG TB lsB H/\∀H',KM (MAB TA TB) H H'->TbG TA lsA H'->TbG TB lsB H'->Q (.int i) H')->spBoxedN TA TB vs H Q e_3
section
variable{K:ua}
theorem JB:FnScope ["heap","value"] ["heap","value"] (zo xT):=⟨rfl,rfl,rfl,by decide +kernel,rfl,by decide +kernel,by decide +kernel⟩
theorem Y5(F:FunC K "begun_box" xT c f fd)(hB:BMn mg base)(hc:UF K c T=true)(GW:Ca P w K mg base CX0 1 "is_whole" ["thing"] spWhole):FnOk P w K mg base CX0 2 f fd ["heap","value"] (spBegBoxN mg T):=by
 refine F.byR JB (fun vs H Q E h=>?_) (fun A outer s H vs Q E hr h fresh=>?_)
 ·obtain⟨hv,i,rfl,_⟩:=h
  rfl
 obtain⟨hv,i,rfl,hT,q⟩:=h;refine⟨_,
  (zdw (z7 (zM GW hr rfl zB (ja_c (jv 1) zi)))
   (VX (zT (ja_c (zU zi) (ja_c (Zb (params:=lmP lxB) (body:=lmB lxB) (scope:=lmS lxB) (pos:=jM lxB) (T:=T) (qual:=lqB) (cl:=[("value",s.heap.objs.size+2)]) hB rfl hc rfl) zi))))
  (VX Z5)),?_⟩
 refine zf rfl ⟨.int i,rfl,.inl ⟨i,rfl,zf rfl (iteT ?_)⟩⟩;refine⟨by show 0<=sizeLine;decide,fun l hl=>?_⟩;have s2:=same_new (o:=.lst []) hl;have hl2:=zg (H:=H) (a:=l) (o:=.lst []);have hTb:=yo hT s2;generalize upd H l (.lst [])=H2 at *;refine vK hTb (by unfold lsB;exact .head _) (fun p hp _=>by unfold lsB at hp;rw[ug.mp hp]) fun H3 fl cc ct k3 T3 hfl nfT ncT hfl3 hcc=>?_;refine⟨by show 2<=sizeLine;decide,fun r hr=>?_⟩;have s4:=same_new (o:=.tup [.ref l,.ref fl]) hr;have hr4:=zg (H:=H3) (a:=r) (o:=.tup [.ref l,.ref fl]);have T4:=yo T3 s4;have hfl4:=s4 _ _ hfl3;have hcc4:=s4 _ _ hcc;have hl4:=s4 _ _ (k3 _ _ (yk hTb hl2 (by intro _ z;cases z)) hl2);have k04:KM (·=T) H (upd H3 r (.tup [.ref l,.ref fl])):=fun b u n e=>s4 _ _ (k3 b u n (s2 _ _ e));generalize upd H3 r (.tup [.ref l,.ref fl])=H4 at *;refine⟨[(s.heap.objs.size+2,.int i)],fun x hx=>?_,fun H5 pb=>?_⟩
 ·rw[ug.mp hx]
  exact⟨1,"value",rfl,rfl,rfl,.inl rfl⟩
 have s5:=Yg pb;exact q H5 r l fl (k04.trans (.of s5)) (yo T4 s5) (s5 _ _ hr4) hl (s5 _ _ hl4) ⟨_,cc,ct,s5 _ _ hfl4,s5 _ _ hcc4,pb.cel (_,_) (.head _)⟩
theorem WT(H:Hp)(as:List Addr):xo (yU H as) H as=H:=by
 funext b
 by_cases e:b∈as
 ·rw[vi e]
 ·rw[yP e,yw e]
theorem JC(hn:∀a∈as,H' a=none)(e:H' b=some u):xo H' H as b=some u:=by
 rw[yP]
 ·exact e
 ·intro z;rw[hn b z]at e;cases e
structure BxOk(mg:Str->Option Value)(TA TB fl c0 cc:Addr)(ct:Value)(hv:V)(H:Hp):Prop where
 a:TbG TA lsA H
 b:TbG TB lsB H
 f:H fl=some (FunO fl (fdA mg c0 cc ct))
 c:H cc=some (CodO cc lqA)
 e:Cel H c0 hv
theorem BxOk.keep{TA fl c0 cc:Addr}{hv:V}(h:BxOk mg TA TB fl c0 cc ct hv H)(a:TbG TA lsA H')(b:TbG TB lsB H')(k:∀b u,H b=some u->(∀ps,u≠.tbl ps)->(∀xs,u≠.lst xs)->H' b=some u):BxOk mg TA TB fl c0 cc ct hv H':=by
 obtain⟨o,e⟩:=h.e;exact⟨a,b,k _ _ h.f (by intro _ z;unfold FunO at z;cases z) (by intro _ z;unfold FunO at z;cases z),k _ _ h.c (by intro _ z;unfold CodO at z;cases z) (by intro _ z;unfold CodO at z;cases z),o,k _ _ e (by intro _ z;cases z) (by intro _ z;cases z)⟩
theorem BxOk.no{TA fl c0 cc:Addr}{hv:V}(h:BxOk mg TA TB fl c0 cc ct hv H)(e:H b=some u)(n:∀ps,u≠.tbl ps):¬ MAB TA TB b:=by
 rintro(z|z)
 ·exact yk h.a e n z
 ·exact yk h.b e n z
theorem bd_A(c0 c:Addr)(ct:Value):Binds K (fdA mg c0 c ct) ["one"] []:=.all (us1 fun _=>rfl)
theorem bd_B(c0 c:Addr)(ct:Value):Binds K (fdB mg c0 c ct) ["results"] []:=.all (us1 fun _=>rfl)
def zdF{TA:Addr}(nT:TA≠TB)(GB:Ca P w K mg base CX0 2 "begun_box" ["heap","value"] (spBegBoxN mg TB))(fl c0 cc:Addr)(ct:Value)(hv:V):WoD P w K mg base 3 where
 Tk:=Int
 M:=MAB TA TB
 fb:=fl
 wt:=fun _=>2
 kids:=fun _=>[]
 wk:=fun _=>ui _
 IT:=fun _ _ i v=>v=.int i
 IR:=fun _ _ i v=>v=.int i
 IF:=fun H _ i v=>∃g,v=.ref g/\ClB mg H i g
 S:=Unit
 pre:=fun _=>()
 mid:=fun _=>()
 post:=fun _=>()
 chn:=fun _=>rfl
 Ok:=fun _ H=>BxOk mg TA TB fl c0 cc ct hv H
 itk:=fun h _ _ _=>h
 irk:=fun h _ _ _=>h
 ifk:=fun{H H' R R' t v s} h ok z _=>by
  obtain⟨g,e,c⟩:=h;exact⟨g,e,c.keep fun b u e n n2=>z b u e (ok.no e n) fun xs q=>absurd q (n2 xs)⟩
 okk:=fun{H H' s} ok k=>by
  have kk:∀b u,H b=some u->(∀xs,u≠.lst xs)->H' b=some u:=fun b u e n=>k b u e fun xs q=>absurd q (n xs);have kc:∀c q,H c=some (CodO c q)->H' c=some (CodO c q):=fun c q e=>kk _ _ e (by intro _ z;unfold CodO at z;cases z);exact ok.keep (ok.a.keep (fun ps e=>kk _ _ e (by intro _ z;cases z)) kc) (ok.b.keep (fun ps e=>kk _ _ e (by intro _ z;cases z)) kc) fun b u e _ n=>kk b u e n
 okM:=fun{H b s} ok m=>by
  rcases m with rfl|rfl
  ·obtain⟨ps,e,_⟩:=ok.a;rw[e];exact tL _
  ·obtain⟨ps,e,_⟩:=ok.b;rw[e];exact tL _
 beg:=by
  intro H R t v Q hv' ok hR hM q;subst hv';refine Yh (k:=2) scA (bd_A c0 cc ct) ok.f ok.c (XZ ok.e) fun A outer s hr=>?_;obtain⟨p0,p1,p2,p3,eb⟩:=lbA;rw[eb];have hcA:∀a∈([("heap",c0)]:List (Str×Addr)).map (·.2),∃v,Cel H a v:=fun a ha=>by
   rw[ug.mp ha];exact⟨_,ok.e⟩
  refine⟨_,(zM GB hr rfl zB (ja_c (jv 1) (ja_c (jv 0) zi))),?_⟩;have mk:∀{b u},H b=some u->(∀o c v,u≠.frz o (CelO c v))->yU H (([("heap",c0)]:List (Str×Addr)).map (·.2)) b=some u:=fun e n=>yD hcA e n;refine zx rfl rfl ⟨hv,t,rfl,ok.b.keep (fun ps e=>mk e (by intro _ _ _ z;cases z)) (fun c q e=>mk e (by intro _ _ _ z;unfold CodO at z;cases z)),fun H' r l g k1 T1 hr1 hl hl1 hcl hnn=>?_⟩;have sp:Same H' (xo H' H (([("heap",c0)]:List (Str×Addr)).map (·.2))):=fun b u e=>JC hnn e;have kp:∀b u,b≠TB->H b=some u->xo H' H (([("heap",c0)]:List (Str×Addr)).map (·.2)) b=some u:=fun b u n e=>by
   by_cases z:b∈([("heap",c0)]:List (Str×Addr)).map (·.2)
   ·rw[vi z];exact e
   ·rw[yP z]
    exact k1 b u n (by rw[yw z];exact e)
  have out:∀{b:Addr}{u:HO},H' b=some u->yU H (([("heap",c0)]:List (Str×Addr)).map (·.2)) b=none->H b=none:=fun{b u} e n=>by
   rw[yw]at n
   ·exact n
   ·intro z;rw[hnn b z]at e;cases e
  have km:KM (MAB TA TB) H (xo H' H (([("heap",c0)]:List (Str×Addr)).map (·.2))):=fun b u n e=>kp b u (fun z=>n (.inr z)) e;have fl0:=out hl1 hl;refine q _ r l g [] (fun b=>R b\/b=l) km (ok.keep (ok.a.keep (fun ps e=>kp _ _ nT e) fun c q e=>km _ _ (ok.no e (by intro _ z;unfold CodO at z;cases z)) e) (yo T1 sp) fun b u e n _=>km _ _ (ok.no e n) e) (sp _ _ hr1) fl0 (sp _ _ hl1) (fun b z=>.inl z) (fun b z=>z.elim .inl fun e=>.inr (e ▸ fl0)) (fun b z=>?_) (.inr rfl) .nil ⟨g,rfl,hcl.keep fun b u e _ _=>sp _ _ e⟩;rcases z with z|rfl
  ·have:=hR b z
   cases e:H b with
   |none=>exact absurd e this
   |some u=>rw[km b u (hM b z) e];exact tL _
  ·rw[sp _ _ hl1];exact tL _
 fin:=by
  intro H R t g rl rs Q hf ok hR hM _ _ _ q;obtain⟨g',e,c1,c2,ct',h1,h2,h3⟩:=hf;cases e;refine Yh (k:=2) scB (bd_B c1 c2 ct') h1 h2 (XZ h3) fun A outer s hr=>?_;obtain⟨p0,eb⟩:=lbB;rw[eb];refine⟨_,jv 1,zf rfl fun _=>?_⟩;rw[WT];exact q H (.int t) R KM.refl ok (fun _ z=>z) (fun _ z=>.inl z) hR rfl
theorem scBoxed:FnScope ["heap","value"] ["heap","value"] (zo Zt):=⟨rfl,rfl,rfl,by decide +kernel,rfl,by decide +kernel,by decide +kernel⟩
theorem WU{TA:Addr}(F:FunC K "boxed_value" Zt c f fd)(hB:BMn mg base)(hc:UF K c TA=true)(nT:TA≠TB)(GB:Ca P w K mg base CX0 2 "begun_box" ["heap","value"] (spBegBoxN mg TB))(GW:Ca P w K mg base CX0 4 "worked_out" ["task","begin"] (spWorked P w K mg base 3)):FnOk P w K mg base CX0 5 f fd ["heap","value"] (spBoxedN TA TB):=by
 refine F.by scBoxed (fun vs H Q E h=>?_) (fun A outer s H vs Q E hr h=>?_)
 ·obtain⟨hv,i,rfl,_⟩:=h
  rfl
 obtain⟨hv,i,rfl,hTA,hTB,q⟩:=h;refine⟨_,
  (zn (zw (zcH (E:=E0) GW hr scBoxed.nd rfl (fun _=>rfl) (ja_c (jv 1) (ja_c (Zb (params:=lmP lxA) (body:=lmB lxA) (scope:=lmS lxA) (pos:=jM lxA) (T:=TA) (qual:=lqA) (cl:=[("heap",s.heap.objs.size+1)]) hB rfl hc rfl) zi))))),?_⟩
 refine zf rfl (vK hTA (by unfold lsA;exact .head _) (fun p hp _=>by unfold lsA at hp;rw[ug.mp hp]) fun H1 fl cc ct k1 TA1 hfl nfT ncT hfl1 hcc=>?_);have noA:∀{b:Addr}{u:HO},H b=some u->(∀ps,u≠.tbl ps)->b≠TA:=fun e n=>yk hTA e n;have TB1:TbG TB lsB H1:=hTB.keep (fun ps e=>k1 _ _ nT.symm e) fun c q e=>k1 _ _ (noA e (by intro _ z;unfold CodO at z;cases z)) e;refine⟨[(s.heap.objs.size+1,hv)],fun x hx=>?_,fun H3 pb=>?_⟩
 ·rw[ug.mp hx]
  exact⟨0,"heap",rfl,rfl,rfl,.inl rfl⟩
 have s3:=Yg pb;have ok3:BxOk mg TA TB fl (s.heap.objs.size+1) cc ct hv H3:=⟨yo TA1 s3,yo TB1 s3,s3 _ _ hfl1,s3 _ _ hcc,pb.cel (_,_) (.head _)⟩;refine⟨zdF nT GB fl (s.heap.objs.size+1) cc ct hv,.int i,i,fun _=>False,rfl,rfl,ok3,fun _ z=>z.elim,fun _ z=>z.elim,(by show 2<=10000000;decide),.inl ⟨⟨_,ok3.f⟩,ok3.no ok3.f (by intro _ z;unfold FunO at z;cases z)⟩,fun H4 v R' k4 ok4 _ hv' hcel=>?_⟩;have hv':v=.int i:=hv';subst hv';have hcA:∀a∈([(s.heap.objs.size+1,hv)]:List (Addr×V)).map (·.1),∃v,Cel H4 a v:=fun a ha=>by
  obtain⟨x,hx,rfl⟩:=uw.mp ha;exact⟨_,hcel x hx⟩
 refine q _ (fun b u n e=>?_) (ok4.a.keep (fun ps e=>yD hcA e (by intro _ _ _ z;cases z)) fun c q e=>yD hcA e (by intro _ _ _ z;unfold CodO at z;cases z)) (ok4.b.keep (fun ps e=>yD hcA e (by intro _ _ _ z;cases z)) fun c q e=>yD hcA e (by intro _ _ _ z;unfold CodO at z;cases z));have e1:=k1 b u (fun z=>n (.inl z)) e;rw[yw]
 ·exact k4 b u n (s3 _ _ e1)
 ·intro z
  obtain⟨x,hx,rfl⟩:=uw.mp z;rw[pb.non x hx]at e1;cases e1
abbrev Nm:=List (Str×Int)
def eh(l:Nm):List (Key×V):=l.map fun p=>(.inr p.1,.int p.2)
def yp(l:Nm)(x:Str):Option Int:=(l.find? fun p=>decide (p.1=x)).map (·.2)
def putS(l:Nm)(x:Str)(i:Int):Nm:=if(l.any fun p=>decide (p.1=x))=true then l.map (fun p=>if p.1=x then(p.1,i)else p)else l++[(x,i)]
def y9(l:Nm)(x:Str):Nm:=l.filter fun p=>decide (p.1≠x)
def lk2(h l:Nm)(x:Str):Option Int:=match yp h x with
 |some i=>some i
 |none=>yp l x
theorem X0(x y:Str):decide ((Sum.inr x:Key)=.inr y)=decide (x=y):=by
 by_cases e:x=y
 ·rw[e];simp
 ·rw[decide_eq_false e,decide_eq_false fun z=>e (Sum.inr.inj z)]
theorem yX(l:Nm)(x:Str):valV (eh l) (.inr x)=(yp l x).map V.int:=by
 induction l with
 |nil=>rfl
 |cons p l ih =>
  unfold eh yp at *;rw[uC,US];by_cases e:p.1=x
  ·rw[yh (p:=(Sum.inr p.1,V.int p.2)) (by rw[e]),decide_eq_true e]
   rfl
  ·rw[yn (p:=(Sum.inr p.1,V.int p.2)) (fun z=>e (Sum.inr.inj z)),decide_eq_false e]
   exact ih
theorem yQ(l:Nm)(x:Str)(i:Int):putK (eh l) (.inr x) (.int i)=eh (putS l x i):=by
 have ea:((eh l).any fun kv=>decide (kv.1=.inr x))=l.any fun p=>decide (p.1=x):=by
  unfold eh;rw[List.any_map]
  congr 1
  funext p
  exact X0 p.1 x
 unfold putK putS;rw[ea];split
 ·unfold eh
  rw[UO,UO];apply List.map_congr_left
  intro p _;show(if(Sum.inr p.1:Key)=.inr x then _ else _)=_;by_cases e:p.1=x
  ·rw[if_pos (by rw[e])];simp[e]
  ·rw[if_neg (fun z=>e (Sum.inr.inj z))];simp[e]
 ·unfold eh
  rw[uH]
  rfl
theorem ZD(l:Nm)(x:Str):yG (eh l) (.inr x)=eh (y9 l x):=by
 unfold yG y9 eh;rw[List.filter_map]
 congr 1
 apply List.filter_congr
 intro p _;show decide ((Sum.inr p.1:Key)≠.inr x)=decide (p.1≠x);rw[decide_not,decide_not,X0]
theorem xN(h l:Nm)(x:Str):jJ (eh h) (eh l) x=(lk2 h l x).map V.int:=by
 unfold jJ lk2;rw[yX,yX];cases yp h x<;>rfl
theorem yt(l:Nm):(eh l).length=l.length:=by unfold eh;rw[uc]
theorem xO(l:Nm)(x:Str)(i:Int):(putS l x i).length<=l.length+1:=by
 have:=yM (eh l) (.inr x) (.int i)
 rw[yQ,yt,yt]at this;exact this
structure MN(K:ua)(cM:Addr):Prop where
 cl:Cls K cM
 n1:NoAttr K cM "defs"
 n2:NoAttr K cM "owns"
 n3:NoAttr K cM "steps"
 n4:NoAttr K cM "done"
 n5:NoAttr K cM "stretch"
 n6:NoAttr K cM "heap"
 n7:NoAttr K cM "frames"
 n8:NoAttr K cM "end"
structure Mc where
 cM:Addr
 cF:Addr
 cH:Addr
 cS:Addr
 cR:Addr
structure Mx where
 m:Addr
 dx:Addr
 d:Addr
 ow:Addr
 hp:Addr
 fl:Addr
 st:Int
 sr:Int
def Mx.O(X:Mx)(A:Mc)(en:V):HO:=.ins A.cM X.dx [("defs",.ref X.d),("owns",.ref X.ow),("steps",.int X.st),("done",.int 0),("stretch",.int X.sr),("heap",.ref X.hp),("frames",.ref X.fl),("end",en)]
def Mx.E(X:Mx)(A:Mc)(H:Hp):Prop:=∃C,HpE A.cH A.cS A.cR H X.hp C
theorem ZE{hp:Addr}(h:HpE cH cS cR H hp C)(hx:∀(dx bd kp wl:Addr)(sz:Int),(([("size",.int sz),("fresh",.int 0),("anew",.int 0),("peak",.int 0),("by_number",.ref bd),("kept_places",.ref kp),("waiting",.ref wl),("first",.int 0)]:List (Str×V))).lookup x=none/\(([("size",.int sz),("fresh",.int 0),("anew",.int 0),("peak",.int 0),("by_number",.ref bd),("kept_places",.ref kp)]:List (Str×V))).lookup x=none):∃dx fs,H hp=some (.ins C dx fs)/\fs.lookup x=none:=by
 cases h with
 |plain dx bd kp sz h1 _=>exact⟨dx,_,h1,(hx dx bd kp bd sz).2⟩
 |slow dx bd kp wl sz h1 _ _=>exact⟨dx,_,h1,(hx dx bd kp wl sz).1⟩
theorem ZG{hp:Addr}(h:HpE cH cS cR H hp C):C=cH\/C=cS:=by
 cases h with
 |plain=>exact .inl rfl
 |slow=>exact .inr rfl
def lxC:Expr:=match zO Zs with
 |.Assign _ (.Call _ [_,_,l] _ _) _::_=>l
 |_=>.Constant .none 0 ⟨0,0,0,0⟩
def lqC:Str:=("Machine.tell":Str)++(".<locals>.":Str)++("<lambda>":Str)
def lsC:List (Pos×Str):=[(jM lxC,lqC)]
inductive spFirst1(vs:List V)(H:Hp)(Q:VK)(e_3:XK):Prop
 |mk (i:Int) (m:Nat):(∃fv:V,vs=[.int i,.int (m:Nat),fv]/\0 < m/\∀H' l,Same H H'->H l=none->H' l=some (.lst [.int i])->Q (.ref l) H')->spFirst1 vs H Q e_3
theorem scFirst1:FnScope ["value","most","shape_of","told","left","one","pair","part"] ["value","most","shape_of"] (zo YV):=⟨rfl,rfl,rfl,by decide +kernel,rfl,by decide +kernel,by decide +kernel⟩
theorem WV(F:Fun K "first_parts" "first_parts" YV f fd)(GW:Ca P w K mg base CX0 1 "is_whole" ["thing"] spWhole)(m_len:mg "len"=none):FnOk P w K mg base CX0 2 f fd ["value","most","shape_of"] spFirst1:=by
 refine F.by scFirst1 (fun vs H Q E h=>?_) (fun cdv A outer s H vs Q E hr h=>?_)
 ·obtain⟨i,m,fv,rfl,_⟩:=h
  rfl
 obtain⟨i,m,fv,rfl,hm,q⟩:=h;refine⟨_,
  (zj (zE (i:=3) scFirst1.nd rfl (Or.inl rfl) (zU zi))
  (zj (zE (i:=4) scFirst1.nd rfl (Or.inl rfl) (zU (ja_c (jv 0) zi)))
  (zj (wq PassesOwn.never (jW.pt (we (zv zbn (zJ (zQ K) rfl m_len uV (ja_c (jv 4) zi)) zp (zy _)) (xq (zv xI (zJ (zQ K) rfl m_len uV (ja_c (jv 3) zi)) (jv 1) (zy _)))))
   (zj (zE (i:=5) scFirst1.nd rfl (Or.inl rfl) (wM uD tm tq j7 (jv 4)))
   (zn (zK (z7 (zM GW hr rfl zB (ja_c (jv 5) zi)))
    (zn (zP (yR uD uN uO yj (jv 3) (ja_c (jv 5) zi))))
    (zj zN (zj zN (zn zN)))))))
  (zn (zw (jv 3)))))),?_⟩
 have sl:=ym;refine⟨by show 0<=sizeLine;decide,fun lt h1=>zf rfl ⟨by show 1<=sizeLine;decide,fun lf h2=>?_⟩⟩;have s1:=same_new (o:=.lst []) h1;have flf:H lf=none:=s1.free h2;have s2:=s1.new (o:=.lst [.int i]) h2;have ntf:lt≠lf:=zk (zg (H:=H) (a:=lt) (o:=.lst [])) h2;have ht2:=old (o:=.lst [.int i]) h2 (zg (H:=H) (a:=lt) (o:=.lst []));have hl2:=zg (H:=upd H lt (.lst [])) (a:=lf) (o:=.lst [.int i]);dsimp only[uR,L2.start]
 generalize upd (upd H lt (.lst [])) lf (.lst [.int i])=H2 at *;refine⟨fun k σ H'=>∃(told ls:List V)(x:Option V),σ=[some (.int i),some (.int (m:Nat)),some fv,sR lt,sR lf,x,none,none]/\Same H H'/\H' lt=some (.lst told)/\H' lf=some (.lst ls)/\((k=1/\told=[]/\ls=[.int i])\/(k=0/\told=[.int i]/\ls=[])),⟨1,[],[.int i],none,rfl,s2,ht2,hl2,.inl ⟨rfl,rfl,rfl⟩⟩,?_⟩;rintro k σ H3 ⟨told,ls,x,rfl,s3,ht3,hl3,⟨rfl,rfl,rfl⟩|⟨rfl,rfl,rfl⟩⟩
 ·refine zf rfl ⟨lf,(zf rfl ⟨.inl (SqL.of hl3),(zI rfl rfl (zf rfl (iteT (zf rfl ⟨lt,(zf rfl ⟨.inl (SqL.of ht3),zf rfl (zI rfl rfl (zf rfl ?_))⟩)⟩))))⟩)⟩
  rw[decide_eq_true (show((([]:List V).length:Nat):Int) < (m:Nat) by simpa using hm)];refine iteT ⟨_,fun _ _ h=>h,?_⟩;refine zf rfl ⟨.inl ⟨rfl,_,SqL.of hl3⟩,lf,[.int i],.int i,rfl,rfl,hl3,rfl,?_⟩;have s4:Same H (upd H3 lf (.lst [])):=s3.put flf;have ht4:upd H3 lf (.lst []) lt=some (.lst []):=by rw[zh ntf];exact ht3
  have hl4:=zg (H:=H3) (a:=lf) (o:=.lst []);rw[show([V.int i]:List V).dropLast=[]from rfl];unfold jk;dsimp only[uR]
  generalize upd H3 lf (.lst [])=H4 at *;refine zf rfl ⟨.int i,rfl,.inl ⟨i,rfl,zf rfl (iteT ?_)⟩⟩;refine zf rfl ⟨.inl ⟨rfl,_,SqL.of ht4⟩,zf rfl ⟨lt,[],.int i,rfl,rfl,ht4,by simp;lia,?_⟩⟩;exact⟨0,by lia,[.int i],[],(zf rfl ⟨s4.put h1,zg,by rw[zh ntf.symm];exact hl4,.inr ⟨rfl,rfl,rfl⟩⟩)⟩
 ·refine zf rfl ⟨lf,(zf rfl ⟨.inl (SqL.of hl3),(zI rfl rfl (zf rfl (iteF (iteF (zf rfl ?_)))))⟩)⟩
  exact q _ lt s3 h1 ht3
end
variable{A:Mc}
def KE(S:List Addr)(H H':Hp):Prop:=∀b u,b∉S->H b=some u->H' b=some u
theorem KE.refl:KE S H H:=fun _ _ _ h=>h
theorem KE.of(s:Same H H'):KE S H H':=fun b u _ e=>s b u e
theorem KE.trans(a:KE S H H1)(b:KE S H1 H2):KE S H H2:=fun c u n e=>b c u n (a c u n e)
theorem KE.put{o:HO}(k:KE S H H1)(h:a∈S):KE S H (upd H1 a o):=fun b u n e=>by rw[zh (fun z:b=a=>n (by rw[z];exact h))];exact k b u n e
theorem KE.mono{S':List Addr}(k:KE S H H')(h:∀a∈S,a∈S'):KE S' H H':=fun b u n e=>k b u (fun z=>n (h b z)) e
inductive spTellN(A:Mc)(TC:Addr)(vs:List V)(H:Hp)(Q:VK)(e_3:XK):Prop
 |mk (X:Mx):(∃i:Int,vs=[.ref X.m,.int i]/\H X.m=some (X.O A .non)/\X.E A H/\TbG TC lsC H/\∀H' tp l,KE [X.m,TC] H H'->TbG TC lsC H'->H' X.m=some (X.O A (.ref tp))->H tp=none->H l=none->H' tp=some (.tup [.str "told",.ref l])->H' l=some (.lst [.int i])->Q .non H')->spTellN A TC vs H Q e_3
inductive spChange(A:Mc)(vs:List V)(H:Hp)(Q:VK)(e_3:XK):Prop
 |mk (X:Mx) (f:Addr) (dx:Addr) (hd:Addr) (ld:Addr) (td:Addr) (p:Addr) (b:V) (u:V) (w:Str) (h:Nm):(∃l:Nm,vs=[.ref X.m,.ref f,.ref p]/\H X.m=some (X.O A .non)/\X.E A H/\H f=some (FrO A.cF dx b w hd ld td)/\H hd=some (.dK (eh h))/\H ld=some (.dK (eh l))/\h.length<=1000/\((∃n y i,H p=some (.tup [.str "hold",.str n,.str y,u])/\lk2 h l y=some i/\Q .non (upd H hd (.dK (eh (putS h n i)))))\/∃y i,H p=some (.tup [.str "drop",.str y,u])/\yp h y=some i/\Q .non (upd H hd (.dK (eh (y9 h y))))))->spChange A vs H Q e_3
section
variable{K:ua}
theorem hpm{hp:Addr}{p q:Prop}(h:∃C,HpE A.cH A.cS A.cR H hp C)(hx:∀(dx bd kp wl:Addr)(sz:Int),(([("size",.int sz),("fresh",.int 0),("anew",.int 0),("peak",.int 0),("by_number",.ref bd),("kept_places",.ref kp),("waiting",.ref wl),("first",.int 0)]:List (Str×V))).lookup x=none/\(([("size",.int sz),("fresh",.int 0),("anew",.int 0),("peak",.int 0),("by_number",.ref bd),("kept_places",.ref kp)]:List (Str×V))).lookup x=none)(a:∀dx fs,H hp=some (.ins A.cH dx fs)->fs.lookup x=none->HpE A.cH A.cS A.cR H hp A.cH->p)(b:∀dx fs,H hp=some (.ins A.cS dx fs)->fs.lookup x=none->HpE A.cH A.cS A.cR H hp A.cS->q):p\/q:=by
 obtain⟨C,hE⟩:=h;obtain⟨dx,fs,h1,h2⟩:=ZE hE hx;rcases ZG hE with rfl|rfl
 ·exact .inl (a dx fs h1 h2 hE)
 ·exact .inr (b dx fs h1 h2 hE)
theorem zdG{v:V}{t:TA}(h:t σ H fun xs H2=>Q (v::xs) H2):yf (tC v) t σ H Q:=h
theorem zaK{t:TE}(h:t σ H fun x H2=>Q [x] H2):yf t tNil σ H Q:=h
theorem scTell:FnScope ["self","value","parts"] ["self","value"] (zo Zs):=⟨rfl,rfl,rfl,by decide +kernel,rfl,by decide +kernel,by decide +kernel⟩
theorem JD{t:Tok}(F:FunMc K "tell" "Machine.tell" Zs c f fd)(hB:BMn mg base)(hc:UF K c TC=true)(N:MN K A.cM)(clH:Cls K A.cH)(clS:Cls K A.cS)(NH:HcN K A.cH)(NS:HcN K A.cS)(m_most:mg "MOST_TOLD"=some (.int 100 t))(GF:Ca P w K mg base CX0 2 "first_parts" ["value","most","shape_of"] spFirst1)(LH:Me P w K mg base CX0 2 A.cH "let_go" ["self","value"] spNumM)(LS:Me P w K mg base CX0 2 A.cS "let_go" ["self","value"] spNumM)(WH:Me P w K mg base CX0 2 A.cH "work" ["self","many"] (spWorkN A.cH A.cS A.cR A.cH))(WS:Me P w K mg base CX0 2 A.cS "work" ["self","many"] (spWorkN A.cH A.cS A.cR A.cS)):FnOk P w K mg base CX0 3 f fd ["self","value"] (spTellN A TC):=by
 refine F.by scTell (fun vs H Q E h=>?_) (fun A' outer s H vs Q E hr h=>?_)
 ·obtain⟨X,i,rfl,_⟩:=h
  rfl
 obtain⟨X,i,rfl,hm,hE,hT,q⟩:=h;refine⟨_,
  (zj (zE (i:=2) scTell.nd rfl (Or.inl rfl) (zM GF hr rfl zB (ja_c (jv 1) (ja_c (j4 (v:=.int 100) rfl m_most ⟨_,rfl⟩) (ja_c (Zb (params:=lmP lxC) (body:=lmB lxC) (scope:=lmS lxC) (pos:=jM lxC) (T:=TC) (qual:=lqC) (cl:=[("self",s.heap.objs.size+1)]) hB rfl hc rfl) zi)))))
  (zj (zP (wg (yT (zr K (jv 0)) clH LH hr zB (ja_c (jv 1) zi)) (yT (zr K (jv 0)) clS LS hr zB (ja_c (jv 1) zi))))
  (zj (zP (wg (yT (zr K (jv 0)) clH WH hr zB (ja_c (zH xc (zr K (zr K (jv 0))) (zr K (zr K (jv 0)))) zi)) (yT (zr K (jv 0)) clS WS hr zB (ja_c (zH xc (zr K (zr K (jv 0))) (zr K (zr K (jv 0)))) zi))))
  (zn (zZ (jv 0) (zT (ja_c zu (ja_c (jv 2) zi)))))))),?_⟩
 refine zf rfl (zdG (zaK (vK hT (by unfold lsC;exact .head _) (fun p hp _=>by unfold lsC at hp;rw[ug.mp hp]) fun H1 fl cc ct k1 T1 hfl nfT ncT hfl1 hcc=>?_)));have noT:∀{b:Addr}{u:HO},H b=some u->(∀ps,u≠.tbl ps)->b≠TC:=fun e n=>yk hT e n;have keep1:∀{b:Addr}{u:HO},H b=some u->(∀ps,u≠.tbl ps)->H1 b=some u:=fun e n=>k1 _ _ (noT e n) e;refine⟨i,100,.ref fl,rfl,by decide,fun H2 l s2 fl2 hl2=>?_⟩;have keep2:∀{b:Addr}{u:HO},H b=some u->(∀ps,u≠.tbl ps)->H2 b=some u:=fun e n=>s2 _ _ (keep1 e n);have m2:=keep2 hm (by intro _ z;unfold Mx.O at z;cases z);have E2:X.E A H2:=by
  obtain⟨C,hE⟩:=hE;exact⟨C,hE.kp fun b u e n=>keep2 e n⟩
 have T2:=yo T1 s2;have k02:KE [X.m,TC] H H2:=fun b u n e=>s2 _ _ (k1 b u (fun z=>n (by rw[z];simp)) e);have l0:H l=none:=by
  cases e:H l with
  |none=>rfl
  |some u =>
   by_cases z:l=TC
   ·obtain⟨ps,e2,_⟩:=T1
    rw[<- z,fl2]at e2;cases e2
   ·rw[k1 l u z e]at fl2;cases fl2
 dsimp only[uR,L2.start]
 obtain⟨C,hEC⟩:=id E2;have flds:∃dx fs,H2 X.hp=some (.ins C dx fs)/\(fs.lookup ("fresh":Str)=some (.int 0)/\fs.lookup ("anew":Str)=some (.int 0)):=by
  cases hEC with
  |plain dx bd kp sz h1 _=>exact⟨dx,_,h1,rfl,rfl⟩
  |slow dx bd kp wl sz h1 _ _=>exact⟨dx,_,h1,rfl,rfl⟩
 obtain⟨dxh,fsh,hh,hf1,hf2⟩:=flds;have clC:HcN K C:=(ZG hEC).elim (fun e=>e ▸ NH) (fun e=>e ▸ NS);have fin:(sFld K (tVar 0) (tTup (yf (tC (.str "told")) (yf (tVar 2) tNil))) "end":TS) { nx:=fun x H'=>Q V.non H',rt:=Q } [some (.ref X.m),some (.int i),sR l] H2:=by
  refine zf rfl ⟨by show 2<=sizeLine;decide,fun tp htp=>?_⟩;have s3:=same_new (o:=.tup [.str "told",.ref l]) htp;have tp0:H tp=none:=by
   cases e:H tp with
   |none=>rfl
   |some u =>
    by_cases z:tp=TC
    ·obtain⟨ps,e2,_⟩:=T2
     rw[<- z,htp]at e2;cases e2
    ·rw[s2 _ _ (k1 tp u z e)]at htp;cases htp
  have mt:X.m≠tp:=zk m2 htp;refine zf rfl ⟨X.m,A.cM,X.dx,zf rfl ⟨s3 _ _ m2,N.cl,N.n8,by show 8 < 1000;decide,?_⟩⟩;refine q _ tp l ((k02.trans (.of s3)).put (by simp)) ?_ zg tp0 l0 (by rw[zh mt.symm];exact zg) (by rw[zh (fun z=>by rw[z,m2]at hl2;unfold Mx.O at hl2;cases hl2)];exact s3 _ _ hl2);have nm:∀{b u},(upd H2 tp (.tup [.str "told",.ref l])) b=some u->(∀C dx fs,u≠.ins C dx fs)->b≠X.m:=fun e n z=>by
   rw[z,s3 _ _ m2]at e;exact n _ _ _ (uQ.inj e).symm
  have T3:=yo T2 s3;exact T3.keep (fun ps e=>by rw[zh (nm e (by intro _ _ _ z;cases z))];exact e) fun c q e=>by rw[zh (nm e (by intro _ _ _ z;unfold CodO at z;cases z))];exact e
 have wk:(tSeq (ZM fun σ H Q=>w4 A.cH "work" (spWorkN A.cH A.cS A.cR A.cH) [] E0 (tFld K (tVar 0) "heap") (yf (tOp (rI0 fun i j=>V.int (i+j)) (tFld K (tFld K (tVar 0) "heap") "fresh") (tFld K (tFld K (tVar 0) "heap") "anew")) tNil) σ H Q\/w4 A.cS "work" (spWorkN A.cH A.cS A.cR A.cS) [] E0 (tFld K (tVar 0) "heap") (yf (tOp (rI0 fun i j=>V.int (i+j)) (tFld K (tFld K (tVar 0) "heap") "fresh") (tFld K (tFld K (tVar 0) "heap") "anew")) tNil) σ H Q) (sFld K (tVar 0) (tTup (yf (tC (.str "told")) (yf (tVar 2) tNil))) "end"):TS) { nx:=fun x H'=>Q V.non H',rt:=Q } [some (.ref X.m),some (.int i),sR l] H2:=by
  refine hpm (x:="work") E2 (fun _ _ _ _ _=>⟨rfl,rfl⟩) (fun dx fs h1 h2 hE'=>?_) (fun dx fs h1 h2 hE'=>?_)
  ·exact zf rfl ⟨X.m,A.cM,X.dx,_,_,rfl,m2,N.cl,N.n6,rfl,X.hp,dx,fs,rfl,h1,h2,zf rfl ⟨X.m,A.cM,X.dx,_,_,rfl,m2,N.cl,N.n6,rfl,X.hp,C,dxh,fsh,(zf rfl ⟨hh,clC.cl,clC.n2,hf1,zf rfl ⟨X.m,A.cM,X.dx,_,_,rfl,m2,N.cl,N.n6,rfl,X.hp,C,dxh,fsh,(zf rfl ⟨hh,clC.cl,clC.n3,hf2,(zI rfl rfl ⟨X.hp,0,rfl,hE',fin⟩)⟩)⟩⟩)⟩⟩
  ·exact zf rfl ⟨X.m,A.cM,X.dx,_,_,rfl,m2,N.cl,N.n6,rfl,X.hp,dx,fs,rfl,h1,h2,zf rfl ⟨X.m,A.cM,X.dx,_,_,rfl,m2,N.cl,N.n6,rfl,X.hp,C,dxh,fsh,(zf rfl ⟨hh,clC.cl,clC.n2,hf1,zf rfl ⟨X.m,A.cM,X.dx,_,_,rfl,m2,N.cl,N.n6,rfl,X.hp,C,dxh,fsh,(zf rfl ⟨hh,clC.cl,clC.n3,hf2,(zI rfl rfl ⟨X.hp,0,rfl,hE',fin⟩)⟩)⟩⟩)⟩⟩
 refine hpm (x:="let_go") E2 (fun _ _ _ _ _=>⟨rfl,rfl⟩) (fun dx fs h1 h2 hE'=>?_) (fun dx fs h1 h2 hE'=>?_)
 ·exact zf rfl ⟨X.m,A.cM,X.dx,_,_,rfl,m2,N.cl,N.n6,rfl,X.hp,dx,fs,rfl,h1,h2,zf rfl ⟨X.hp,i,rfl,wk⟩⟩
 ·exact zf rfl ⟨X.m,A.cM,X.dx,_,_,rfl,m2,N.cl,N.n6,rfl,X.hp,dx,fs,rfl,h1,h2,zf rfl ⟨X.hp,i,rfl,wk⟩⟩
theorem scChange:FnScope ["self","frame","body","value"] ["self","frame","body"] (zo vY):=⟨rfl,rfl,rfl,by decide +kernel,rfl,by decide +kernel,by decide +kernel⟩
theorem WW(F:Fun K "change_holders" "Machine.change_holders" vY f fd)(N:MN K A.cM)(NF:FrN K A.cF)(clH:Cls K A.cH)(clS:Cls K A.cS)(GL:Ca P w K mg base CX0 1 "looked_at" ["frame","name"] (spLooked A.cF))(GU:Ca P w K mg base CX0 1 "used" ["frame","name"] (spUsed A.cF))(HH:Me P w K mg base CX0 2 A.cH "hold" ["self","value"] spNumM)(HS:Me P w K mg base CX0 2 A.cS "hold" ["self","value"] spNumM)(LH:Me P w K mg base CX0 2 A.cH "let_go" ["self","value"] spNumM)(LS:Me P w K mg base CX0 2 A.cS "let_go" ["self","value"] spNumM):FnOk P w K mg base CX0 3 f fd ["self","frame","body"] (spChange A):=by
 refine F.by scChange (fun vs H Q E h=>?_) (fun cdv A' outer s H vs Q E hr h=>?_)
 ·obtain⟨X,f,dx,hd,ld,td,p,b,u,w,h,l,rfl,_⟩:=h
  rfl
 obtain⟨X,f,dx,hd,ld,td,p,b,u,w,h,l,rfl,hm,hE,hf,hh,hl,hz,q⟩:=h;have hr1:Room 1 _:=hr.mono (by decide);refine⟨_,
  (zn (zK (zv z6 (zC K (jv 2)) zu (zy _))
   (zj (zE (i:=3) scChange.nd rfl (Or.inl rfl) (zM GL hr1 rfl zB (ja_c (jv 1) (ja_c (zC K (jv 2)) zi))))
   (zj (zP (wg (yT (zr K (jv 0)) clH HH hr zB (ja_c (jv 3) zi)) (yT (zr K (jv 0)) clS HS hr zB (ja_c (jv 3) zi))))
   (zn (yy hr1 (zr K (jv 1)) (zC K (jv 2)) (jv 3)))))
   (zn (zK (zv z6 (zC K (jv 2)) zu (zy _))
    (zn (zP (wg (yT (zr K (jv 0)) clH LH hr zB (ja_c (zM GU hr1 rfl zB (ja_c (jv 1) (ja_c (zC K (jv 2)) zi))) zi)) (yT (zr K (jv 0)) clS LS hr zB (ja_c (zM GU hr1 rfl zB (ja_c (jv 1) (ja_c (zC K (jv 2)) zi))) zi)))))
    (zn zN))))),?_⟩
 have sl:=ym;rcases q with⟨n,y,i,hp,hi,q⟩|⟨y,i,hp,hi,q⟩
 ·refine zf rfl (ixT hp (zq (j:=0) rfl) ⟨rfl,(zf rfl (iteT ?_))⟩)
  refine zx rfl rfl (ixT hp (zq (j:=2) rfl) ⟨f,dx,hd,ld,td,b,w,y,eh h,eh l,.int i,rfl,hf,hh,hl,by rw[xN,hi];rfl,?_⟩);have fin:(XI (tFld K (tVar 1) "held") (tOp (rIxT K) (tVar 2) (tC (.int 1))) (tVar 3):TS) { nx:=fun x H'=>Q V.non H',rt:=Q } [some (.ref X.m),sR f,sR p,some (.int i)] H:=by
   refine zx rfl rfl ⟨f,A.cF,dx,_,_,rfl,hf,NF.cl,NF.n3,rfl,zf rfl (ixT hp (zq (j:=1) rfl) ⟨hd,(zf rfl ⟨.inl ⟨eh h,.inr n,hh,rfl,by rw[yt];lia,rfl⟩,?_⟩)⟩)⟩;rw[yQ];exact q
  refine hpm (x:="hold") hE (fun _ _ _ _ _=>⟨rfl,rfl⟩) (fun dx' fs h1 h2 hE'=>?_) (fun dx' fs h1 h2 hE'=>?_)
  ·exact zf rfl ⟨X.m,A.cM,X.dx,_,_,rfl,hm,N.cl,N.n6,rfl,X.hp,dx',fs,rfl,h1,h2,zf rfl ⟨X.hp,i,rfl,fin⟩⟩
  ·exact zf rfl ⟨X.m,A.cM,X.dx,_,_,rfl,hm,N.cl,N.n6,rfl,X.hp,dx',fs,rfl,h1,h2,zf rfl ⟨X.hp,i,rfl,fin⟩⟩
 ·refine zf rfl (ixT hp (zq (j:=0) rfl) ⟨rfl,(zf rfl (iteF ?_))⟩)
  refine zf rfl (ixT hp (zq (j:=0) rfl) ⟨rfl,(zf rfl (iteT ?_))⟩);refine hpm (x:="let_go") hE (fun _ _ _ _ _=>⟨rfl,rfl⟩) (fun dx' fs h1 h2 hE'=>?_) (fun dx' fs h1 h2 hE'=>?_)
  ·refine zf rfl ⟨X.m,A.cM,X.dx,_,_,rfl,hm,N.cl,N.n6,rfl,X.hp,dx',fs,rfl,h1,h2,zx rfl rfl (ixT hp (zq (j:=1) rfl) ⟨f,dx,hd,ld,td,b,w,y,eh h,.int i,rfl,hf,hh,by rw[yX,hi];rfl,X.hp,i,rfl,?_⟩)⟩
   rw[ZD];exact q
  ·refine zf rfl ⟨X.m,A.cM,X.dx,_,_,rfl,hm,N.cl,N.n6,rfl,X.hp,dx',fs,rfl,h1,h2,zx rfl rfl (ixT hp (zq (j:=1) rfl) ⟨f,dx,hd,ld,td,b,w,y,eh h,.int i,rfl,hf,hh,by rw[yX,hi];rfl,X.hp,i,rfl,?_⟩)⟩
   rw[ZD];exact q
end
def ErrF(C:Addr)(E:XK)(H:Hp)(w:Str):Prop:=∀dd H',Same H H'->H' dd=some (XD dd [("word",.str w)])->E (.ref C) (some dd) H'
inductive spOutN(A:Mc)(C:Addr)(vs:List V)(H:Hp)(Q:VK)(E:XK):Prop
 |mk (X:Mx) (fv:V) (p:Addr):(∃vl:Addr,vs=[.ref X.m,fv,.ref p,.ref vl]/\((∃i,H p=some (.tup [.str "num",.int i])/\Q (.int i) H)\/∃w a b i j,H p=some (.tup [.str "op",.str w,a,b])/\H vl=some (.lst [.int i,.int j])/\K31.Sm i/\K31.Sm j/\(K31.fw w (some i) (some j)=""->∀H',Same H H'->Q (.int (K31.res w i j)) H')/\(K31.fw w (some i) (some j)≠""->ErrF C E H (K31.fw w (some i) (some j)))))->spOutN A C vs H Q E
inductive spLetN(A:Mc)(C:Addr)(vs:List V)(H:Hp)(Q:VK)(E:XK):Prop
 |mk (X:Mx) (f:Addr) (dx:Addr) (hd:Addr) (ld:Addr) (td:Addr) (p:Addr) (q:Addr) (b:V) (u:V) (w:Str) (n:Str) (h:Nm):(∃l:Nm,vs=[.ref X.m,.ref f,.ref p]/\H X.m=some (X.O A .non)/\H f=some (FrO A.cF dx b w hd ld td)/\H hd=some (.dK (eh h))/\H ld=some (.dK (eh l))/\h.length<=1000/\H p=some (.tup [.str "let",.str n,.ref q,u])/\∃o:Int ⊕ Str,((∃i,H q=some (.tup [.str "num",.int i])/\o=.inl i)\/∃w' x y i j,H q=some (.tup [.str "op",.str w',.str x,.str y])/\lk2 h l x=some i/\lk2 h l y=some j/\K31.Sm i/\K31.Sm j/\o=if K31.fw w' (some i) (some j)=""then .inl (K31.res w' i j)else .inr (K31.fw w' (some i) (some j)))/\(∀i,o=.inl i->∀H',KE [f,hd] H H'->H' f=some (FrO A.cF dx u w hd ld td)->H' hd=some (.dK (eh (putS h n i)))->Q .non H')/\∀z,o=.inr z->ErrF C E H z)->spLetN A C vs H Q E
inductive spGiveN(A:Mc)(TC:Addr)(vs:List V)(H:Hp)(Q:VK)(e_3:XK):Prop
 |mk (X:Mx) (f:Addr) (dx:Addr) (hd:Addr) (ld:Addr) (td:Addr) (b:V) (w:Str) (x:Str) (h:Nm):(∃i:Int,vs=[.ref X.m,.ref f,.str x]/\H X.m=some (X.O A .non)/\X.E A H/\TbG TC lsC H/\H f=some (FrO A.cF dx b w hd ld td)/\H hd=some (.dK (eh h))/\yp h x=some i/\((∃(f0 dx0 hd0 ld0 td0:Addr)(b0:V)(w0:Str)(h0:Nm),H X.fl=some (.lst [.ref f0,.ref f])/\H f0=some (FrO A.cF dx0 b0 w0 hd0 ld0 td0)/\H hd0=some (.dK (eh h0))/\h0.length<=1000/\hd0≠hd/\∀H',KE [X.fl,hd,f0,hd0] H H'->H' X.fl=some (.lst [.ref f0])->H' f0=some (FrO A.cF dx0 b0 "" hd0 ld0 td0)->H' hd0=some (.dK (eh (putS h0 w0 i)))->Q .non H')\/(H X.fl=some (.lst [.ref f])/\∀H' tp l,KE [X.m,TC,X.fl,hd] H H'->TbG TC lsC H'->H' X.fl=some (.lst [])->H' X.m=some (X.O A (.ref tp))->H tp=none->H l=none->H' tp=some (.tup [.str "told",.ref l])->H' l=some (.lst [.int i])->Q .non H')))->spGiveN A TC vs H Q e_3
section
variable{K:ua}
theorem zcW:FnScope ["self","frame","deed","values","kept"] ["self","frame","deed","values"] (zo Jf):=⟨rfl,rfl,rfl,by decide +kernel,rfl,by decide +kernel,by decide +kernel⟩
theorem zaL(F:Fun K "outcome" "Machine.outcome" Jf f fd)(GR:Ca P w K mg base (CXf P w) 3 "reckoned" ["word","a","b"] (K31.spReck C)):FnOk P w K mg base (CXf P w) 4 f fd ["self","frame","deed","values"] (spOutN A C):=by
 refine F.byx zcW (fun vs H Q E h=>?_) (fun cdv A' outer s H vs Q E hr h=>?_)
 ·obtain⟨X,fv,p,vl,rfl,_⟩:=h
  rfl
 obtain⟨X,fv,p,vl,rfl,q⟩:=h;refine⟨_,
  (zj (zK (zv z6 (zC K (jv 2)) zu (zy _)) (zn (zw (zC K (jv 2)))) zD)
  (zj (zK (zv z6 (zC K (jv 2)) zu (zy _)) (zn (zw (zM GR hr rfl yS (ja_c (zC K (jv 2)) (ja_c (Zc K (jv 3)) (ja_c (Zc K (jv 3)) zi)))))) zD)
  (zj zN (zj zN (zn zN))))),?_⟩
 rcases q with⟨i,hp,q⟩|⟨w',a,b,i,j,hp,hv,si,sj,q1,q2⟩
 ·exact zf rfl (ixT hp (zq (j:=0) rfl) ⟨rfl,(zf rfl (iteT (zf rfl (ixT hp (zq (j:=1) rfl) q))))⟩)
 ·refine zf rfl (ixT hp (zq (j:=0) rfl) ⟨rfl,(zf rfl (iteF (nxtC ?_)))⟩)
  refine zf rfl (ixT hp (zq (j:=0) rfl) ⟨rfl,(zf rfl (iteT ?_))⟩);refine zf rfl (ixT hp (zq (j:=1) rfl) (zf rfl (ixL hv (zq (j:=0) rfl) (zf rfl (ixL hv (zq (j:=1) rfl) ?_)))));refine⟨w',.int i,.int j,some i,some j,rfl,.int si,.int sj,fun hf i' j' H' s' e1 e2=>?_,fun hf dd H' s' hd=>q2 hf dd H' s' hd⟩;cases e1;cases e2;exact q1 hf H' s'
theorem scMLet:FnScope ["self","frame","body","deed","values"] ["self","frame","body"] (zo Je):=⟨rfl,rfl,rfl,by decide +kernel,rfl,by decide +kernel,by decide +kernel⟩
theorem zaM(F:Fun K "let" "Machine.let" Je f fd)(N:MN K A.cM)(NF:FrN K A.cF)(GN':Ca P w K mg base CX0 1 "names_of" ["deed"] spNamesN)(GU:Ca P w K mg base CX0 2 "used_up" ["deed","owns"] spUsedUpN)(GV:Ca P w K mg base CX0 2 "used_values" ["frame","names","ends"] (spUsedV A.cF))(GO:Me P w K mg base (CXf P w) 4 A.cM "outcome" ["self","frame","deed","values"] (spOutN A C)):FnOk P w K mg base (CXf P w) 5 f fd ["self","frame","body"] (spLetN A C):=by
 refine F.byx scMLet (fun vs H Q E h=>?_) (fun cdv A' outer s H vs Q E hr h=>?_)
 ·obtain⟨X,f,dx,hd,ld,td,p,q,b,u,w,n,h,l,rfl,_⟩:=h
  rfl
 obtain⟨X,f,dx,hd,ld,td,p,q,b,u,w,n,h,l,rfl,hm,hf,hh,hl,hz,hp,o,hq,q1,q2⟩:=h;have r1:Room 1 _:=hr.mono (by decide);have r2:Room 2 _:=hr.mono (by decide);refine⟨_,
  (zj (zE (i:=3) scMLet.nd rfl (Or.inl rfl) (zC K (jv 2)))
  (zj (zE (i:=4) scMLet.nd rfl (Or.inl rfl) (zM GV.upx r2 rfl yS (ja_c (jv 1) (ja_c (zM GN'.upx r1 rfl yS (ja_c (jv 3) zi)) (ja_c (zM GU.upx r2 rfl yS (ja_c (jv 3) (ja_c (zr K (jv 0)) zi))) zi)))))
  (zn (zK (zv z6 (zC K (jv 3)) zu (zy _)) (zn zN)
   (zn (zK (zv z6 (zC K (jv 3)) zu (zy _)) (zn zN)
    (zj (yy r1 (zr K (jv 1)) (zC K (jv 2)) (yT (jv 0) N.cl GO hr yS (ja_c (jv 1) (ja_c (jv 3) (ja_c (jv 4) zi)))))
    (zn (zZ (jv 1) (zC K (jv 2))))))))))),?_⟩
 have sl:=ym;obtain⟨xs,us,hD,hA2,w0,rest,hq0,nc,na⟩:∃(xs:lS)(us:List V),IsDn H q xs/\All2 (fun x v=>jJ (eh h) (eh l) x=some v) xs us/\∃w0 rest,H q=some (.tup (.str w0::rest))/\w0≠"call"/\w0≠"ask":=by
  rcases hq with⟨i,hq,_⟩|⟨w',x,y,i,j,hq,hx,hy,_⟩
  ·exact⟨[],[],.num hq,.nil,_,_,hq,by decide,by decide⟩
  ·exact⟨[x,y],[.int i,.int j],.op hq,.cons (by rw[xN,hx];rfl) (.cons (by rw[xN,hy];rfl) .nil),_,_,hq,by decide,by decide⟩
 have xl:xs.length<=1000:=by cases hD<;>simp
 refine zf rfl (ixT hp (zq (j:=2) rfl) ?_);refine zx rfl rfl ⟨q,xs,rfl,hD,fun H1 qn s1 hn1=>?_⟩;refine zx rfl rfl ⟨X.m,A.cM,X.dx,_,_,rfl,s1 _ _ hm,N.cl,N.n2,rfl,q,.ref X.ow,xs,rfl,hD.same s1,fun H2 qe s2 he2=>?_⟩;have s02:=s1.trans s2;refine⟨f,dx,hd,ld,td,qn,qe,b,w,eh h,eh l,xs,us,rfl,s02 _ _ hf,s02 _ _ hh,s02 _ _ hl,s2 _ _ hn1,he2,xl,hA2,fun H3 vl s3 fvl hvl=>?_⟩;have s03:=s02.trans s3;dsimp only[uR,L2.start]
 refine zf rfl (ixT (s03 _ _ hq0) (zq (j:=0) rfl) ⟨rfl,(zf rfl ?_)⟩);rw[decide_eq_false fun z=>nc (V.str.inj z)];refine iteF (zf rfl (ixT (s03 _ _ hq0) (zq (j:=0) rfl) ⟨rfl,(zf rfl ?_)⟩));rw[decide_eq_false fun z=>na (V.str.inj z)];refine iteF ?_;have nhf:hd≠f:=fun z=>by rw[z,hf]at hh;unfold FrO at hh;cases hh
 have fin:∀i,o=.inl i->∀H4,Same H3 H4->(XI (tFld K (tVar 1) "held") (tOp (rIxT K) (tVar 2) (tC (.int 1))) (tC (.int i)):TS) { nx:=fun σ H'=>(sFld K (tVar 1) (tOp (rIxT K) (tVar 2) (tC (.int 3))) "body":TS) { nx:=fun x H'=>Q V.non H',rt:=Q } σ H',rt:=Q } [some (.ref X.m),sR f,sR p,sR q,sR vl] H4:=by
  intro i eo H4 s4;have s04:=s03.trans s4;refine zf rfl ⟨f,A.cF,dx,_,_,rfl,s04 _ _ hf,NF.cl,NF.n3,rfl,zf rfl (ixT (s04 _ _ hp) (zq (j:=1) rfl) ⟨hd,(zf rfl ⟨.inl ⟨eh h,.inr n,s04 _ _ hh,rfl,by rw[yt];lia,rfl⟩,?_⟩)⟩)⟩;have hp5:(upd H4 hd (.dK (putK (eh h) (.inr n) (.int i)))) p=some (.tup [.str "let",.str n,.ref q,u]):=by rw[zh (fun z=>by rw[z,hh]at hp;cases hp)];exact s04 _ _ hp
  refine zf rfl (ixT hp5 (zq (j:=3) rfl) (zf rfl ⟨f,A.cF,dx,zf rfl ⟨by rw[zh nhf.symm];exact s04 _ _ hf,NF.cl,NF.n1,by show 5 < 1000;decide,?_⟩⟩));refine q1 i eo _ (((KE.of s04).put (by simp)).put (by simp)) zg ?_;rw[zh nhf,zg,yQ]
 refine zf rfl ⟨X.m,X.dx,(zf rfl ⟨s03 _ _ hm,rfl,zx rfl rfl (zf rfl ⟨X,.ref f,q,vl,rfl,?_⟩)⟩)⟩;rcases hq with⟨i,hq,eo⟩|⟨w',x,y,i,j,hq,hx,hy,si,sj,eo⟩
 ·exact .inl ⟨i,s03 _ _ hq,fin i eo H3 (Same.refl _)⟩
 ·have eus:us=[.int i,.int j]:=by
   cases hD with
   |num hz=>rw[hz]at hq;simp at hq
   |@op w1 a1 b1 hz =>
    rw[hz]at hq;simp only[uQ.injEq,HO.tup.injEq,List.cons.injEq,V.str.injEq,and_true,true_and]at hq
    obtain⟨_,rfl,rfl⟩:=hq;cases hA2 with
    |cons e1 r1=>cases r1 with
     |cons e2 r2 =>
      cases r2;rw[xN,hx]at e1;rw[xN,hy]at e2;cases e1;cases e2
      rfl
  subst eus;refine .inr ⟨w',.str x,.str y,i,j,s03 _ _ hq,hvl,si,sj,fun e H4 s4=>fin _ (by rw[eo,if_pos e]) H4 s4,fun e dd H4 s4 hd4=>?_⟩;exact q2 _ (by rw[eo,if_neg e]) dd H4 (s03.trans s4) hd4
end
def stp(h l:Nm):Pc->Nm ⊕ Str
 |.num n i=>.inl (putS h n i)
 |.op n w a b=>match lk2 h l a,lk2 h l b with
  |some i,some j=>if K31.fw w (some i) (some j)=""then .inl (putS h n (K31.res w i j))else .inr (K31.fw w (some i) (some j))
  |_,_=>.inr ""
 |.hold n y=>match lk2 h l y with
  |some i=>.inl (putS h n i)
  |none=>.inr ""
 |.drop y=>.inl (y9 h y)
def PcOk(h l:Nm):Pc->Prop
 |.num _ _=>True
 |.op _ _ a b=>∃i j,lk2 h l a=some i/\lk2 h l b=some j/\K31.Sm i/\K31.Sm j
 |.hold _ y=>∃i,lk2 h l y=some i
 |.drop y=>∃i,yp h y=some i
def GvQ(A:Mc)(TC:Addr)(X:Mx)(f hd:Addr)(i:Int)(H:Hp)(Q:VK):Prop :=
 (∃(f0 dx0 hd0 ld0 td0:Addr)(b0:V)(w0:Str)(h0:Nm),H X.fl=some (.lst [.ref f0,.ref f])/\H f0=some (FrO A.cF dx0 b0 w0 hd0 ld0 td0)/\H hd0=some (.dK (eh h0))/\h0.length<=1000/\hd0≠hd/\∀H',KE [X.fl,hd,f0,hd0] H H'->H' X.fl=some (.lst [.ref f0])->H' f0=some (FrO A.cF dx0 b0 "" hd0 ld0 td0)->H' hd0=some (.dK (eh (putS h0 w0 i)))->Q .non H') \/
 (H X.fl=some (.lst [.ref f])/\∀H' tp l,KE [X.m,TC,X.fl,hd] H H'->TbG TC lsC H'->H' X.fl=some (.lst [])->H' X.m=some (X.O A (.ref tp))->H tp=none->H l=none->H' tp=some (.tup [.str "told",.ref l])->H' l=some (.lst [.int i])->Q .non H')
inductive spGiveM(A:Mc)(TC:Addr)(vs:List V)(H:Hp)(Q:VK)(e_3:XK):Prop
 |mk (X:Mx) (f:Addr) (dx:Addr) (hd:Addr) (ld:Addr) (td:Addr) (b:V) (w:Str) (x:Str) (h:Nm):(∃i:Int,vs=[.ref X.m,.ref f,.str x]/\H X.m=some (X.O A .non)/\X.E A H/\TbG TC lsC H/\H f=some (FrO A.cF dx b w hd ld td)/\H hd=some (.dK (eh h))/\yp h x=some i/\GvQ A TC X f hd i H Q)->spGiveM A TC vs H Q e_3
def Nx(H:Hp)(bv bv':V):Prop:=∃p xs,bv=.ref p/\H p=some (.tup (xs++[bv']))
inductive spPiece(A:Mc)(C TC:Addr)(vs:List V)(H:Hp)(Q:VK)(E:XK):Prop
 |mk (X:Mx) (f:Addr) (dx:Addr) (hd:Addr) (ld:Addr) (td:Addr) (bv:V) (w:Str) (x:Str) (h:Nm) (l:Nm):(∃pcs:List Pc,vs=[.ref X.m,.ref f]/\H X.m=some (X.O A .non)/\X.E A H/\TbG TC lsC H/\H f=some (FrO A.cF dx bv w hd ld td)/\IsCd H pcs x bv/\H hd=some (.dK (eh h))/\H ld=some (.dK (eh l))/\h.length<=1000/\(pcs=[]->∃i,yp h x=some i/\GvQ A TC X f hd i H Q)/\(∀p r,pcs=p::r->PcOk h l p/\(∀h',stp h l p=.inl h'->∀H' bv',Nx H bv bv'->KE [f,hd] H H'->H' f=some (FrO A.cF dx bv' w hd ld td)->H' hd=some (.dK (eh h'))->IsCd H' r x bv'->Q .non H')/\∀z,stp h l p=.inr z->ErrF C E H z))->spPiece A C TC vs H Q E
section
variable{K:ua}
theorem scMGive:FnScope ["self","frame","name","value","beneath"] ["self","frame","name"] (zo Y2):=⟨rfl,rfl,rfl,by decide +kernel,rfl,by decide +kernel,by decide +kernel⟩
theorem JE(F:Fun K "give" "Machine.give" Y2 f fd)(N:MN K A.cM)(NF:FrN K A.cF)(GU:Ca P w K mg base CX0 1 "used" ["frame","name"] (spUsed A.cF))(GT:Me P w K mg base CX0 3 A.cM "tell" ["self","value"] (spTellN A TC))(m_len:mg "len"=none):FnOk P w K mg base CX0 4 f fd ["self","frame","name"] (spGiveM A TC):=by
 refine F.by scMGive (fun vs H Q E h=>?_) (fun cdv A' outer s H vs Q E hr h=>?_)
 ·obtain⟨X,f,dx,hd,ld,td,b,w,x,h,i,rfl,_⟩:=h
  rfl
 obtain⟨X,f,dx,hd,ld,td,b,w,x,h,i,rfl,hm,hE,hT,hf,hh,hi,q⟩:=h;have r1:Room 1 _:=hr.mono (by decide);refine⟨_,
  (zj (zE (i:=3) scMGive.nd rfl (Or.inl rfl) (zM GU r1 rfl zB (ja_c (jv 1) (ja_c (jv 2) zi))))
  (zj (zP (wM uD tm tq j7 (zr K (jv 0))))
  (zn (zK (zv z6 (zJ (zQ K) rfl m_len uV (ja_c (zr K (jv 0)) zi)) zp (zy _))
   (zn (zP (yT (jv 0) N.cl GT hr zB (ja_c (jv 3) zi))))
   (zj (zE (i:=4) scMGive.nd rfl (Or.inl rfl) (zR (zA K) (zr K (jv 0)) (yr zp) (fun _ _=>rfl)))
   (zj (yy r1 (zr K (jv 4)) (zr K (jv 4)) (jv 3))
   (zn (zZ (jv 4) zu)))))))),?_⟩
 have sl:=ym;refine zx rfl rfl ⟨f,dx,hd,ld,td,b,w,x,eh h,.int i,rfl,hf,hh,by rw[yX,hi];rfl,?_⟩;have nn:∀{b u},H b=some u->(∀k,u≠.dK k)->b≠hd:=fun e n z=>by rw[z,hh]at e;exact n _ (uQ.inj e).symm
 have m1:(upd H hd (.dK (yG (eh h) (.inr x)))) X.m=some (X.O A .non):=by rw[zh (nn hm (by intro _ z;unfold Mx.O at z;cases z))];exact hm
 have neh:eh h≠[]:=fun z=>by
  have:h=[]:=List.map_eq_nil_iff.mp z
  rw[this]at hi;cases hi
 rcases q with⟨f0,dx0,hd0,ld0,td0,b0,w0,h0,hfl,hf0,hh0,l0,nhd,q⟩|⟨hfl,q⟩
 ·have fl1:(upd H hd (.dK (yG (eh h) (.inr x)))) X.fl=some (.lst [.ref f0,.ref f]):=by rw[zh (nn hfl (by intro _ z;cases z))];exact hfl
  have f01:(upd H hd (.dK (yG (eh h) (.inr x)))) f0=some (FrO A.cF dx0 b0 w0 hd0 ld0 td0):=by rw[zh (nn hf0 (by intro _ z;unfold FrO at z;cases z))];exact hf0
  have hh1:(upd H hd (.dK (yG (eh h) (.inr x)))) hd0=some (.dK (eh h0)):=by rw[zh nhd];exact hh0
  have k1:KE [X.fl,hd,f0,hd0] H (upd H hd (.dK (yG (eh h) (.inr x)))):=KE.refl.put (by simp);dsimp only[uR,L2.start]
  generalize upd H hd (.dK (yG (eh h) (.inr x)))=H1 at *;refine zf rfl ⟨X.m,A.cM,X.dx,_,_,rfl,m1,N.cl,N.n7,rfl,.inl ⟨rfl,_,SqL.of fl1⟩,X.fl,[.ref f0,.ref f],.ref f,rfl,rfl,fl1,rfl,?_⟩;rw[show([V.ref f0,V.ref f]:List V).dropLast=[.ref f0]from rfl];have nfl:∀{b u},H1 b=some u->(∀xs,u≠.lst xs)->b≠X.fl:=fun e n z=>by rw[z,fl1]at e;exact n _ (uQ.inj e).symm
  have m2:(upd H1 X.fl (.lst [.ref f0])) X.m=some (X.O A .non):=by rw[zh (nfl m1 (by intro _ z;unfold Mx.O at z;cases z))];exact m1
  have f02:(upd H1 X.fl (.lst [.ref f0])) f0=some (FrO A.cF dx0 b0 w0 hd0 ld0 td0):=by rw[zh (nfl f01 (by intro _ z;unfold FrO at z;cases z))];exact f01
  have hh2:(upd H1 X.fl (.lst [.ref f0])) hd0=some (.dK (eh h0)):=by rw[zh (nfl hh1 (by intro _ z;cases z))];exact hh1
  have fl2:=zg (H:=H1) (a:=X.fl) (o:=.lst [.ref f0]);have k2:=k1.put (o:=.lst [.ref f0]) (a:=X.fl) (by simp);generalize upd H1 X.fl (.lst [.ref f0])=H2 at *;refine zf rfl ⟨X.m,A.cM,X.dx,_,_,rfl,m2,N.cl,N.n7,rfl,X.fl,[.ref f0],rfl,.inl (SqL.of fl2),rfl,(zf rfl (iteF ?_))⟩;refine zf rfl ⟨X.m,A.cM,X.dx,_,_,rfl,m2,N.cl,N.n7,rfl,(zf rfl ⟨X.fl,_,_,_,rfl,rfl,SqL.of fl2,(show atI ([V.ref f0]:List V) (-1)=some (.ref f0)from yg [] _),?_⟩)⟩;refine zx rfl rfl ⟨f0,A.cF,dx0,_,_,rfl,f02,NF.cl,NF.n3,rfl,zf rfl ⟨f0,A.cF,dx0,_,_,rfl,f02,NF.cl,NF.n2,rfl,hd0,(zf rfl ⟨.inl ⟨eh h0,.inr w0,hh2,rfl,by rw[yt];lia,rfl⟩,?_⟩)⟩⟩;have nf0:hd0≠f0:=fun z=>by rw[z,f02]at hh2;unfold FrO at hh2;cases hh2
  refine zf rfl ⟨f0,A.cF,dx0,zf rfl ⟨by rw[zh nf0.symm];exact f02,NF.cl,NF.n2,by show 5 < 1000;decide,?_⟩⟩;refine q _ ((k2.put (by simp)).put (by simp)) ?_ zg ?_
  ·rw[zh (fun z=>by rw[z,f02]at fl2;unfold FrO at fl2;cases fl2),zh (fun z=>by rw[z,hh2]at fl2;cases fl2)];exact fl2
  ·rw[zh nf0,zg,yQ]
 ·have fl1:(upd H hd (.dK (yG (eh h) (.inr x)))) X.fl=some (.lst [.ref f]):=by rw[zh (nn hfl (by intro _ z;cases z))];exact hfl
  have k1:KE [X.m,TC,X.fl,hd] H (upd H hd (.dK (yG (eh h) (.inr x)))):=KE.refl.put (by simp);have E1:X.E A (upd H hd (.dK (yG (eh h) (.inr x)))):=by
   obtain⟨C,hE⟩:=hE;refine⟨C,hE.kq fun b u e n=>?_⟩;rw[zh (fun z=>?_)]
   ·exact e
   ·rw[z,hh]at e
    rcases n with rfl|rfl|⟨_,_,_,rfl⟩
    ·exact neh (by injection e with e;injection e)
    ·cases e
    ·cases e
  have T1:TbG TC lsC (upd H hd (.dK (yG (eh h) (.inr x)))):=hT.keep (fun ps e=>by rw[zh (nn e (by intro _ z;cases z))];exact e) fun c q e=>by rw[zh (nn e (by intro _ z;unfold CodO at z;cases z))];exact e
  dsimp only[uR,L2.start]
  have out1:∀{b},(upd H hd (.dK (yG (eh h) (.inr x)))) b=none->H b=none:=fun{b} e=>by
   by_cases z:b=hd
   ·rw[z,zg]at e;cases e
   ·rw[zh z]at e;exact e
  generalize upd H hd (.dK (yG (eh h) (.inr x)))=H1 at *;refine zf rfl ⟨X.m,A.cM,X.dx,_,_,rfl,m1,N.cl,N.n7,rfl,.inl ⟨rfl,_,SqL.of fl1⟩,X.fl,[.ref f],.ref f,rfl,rfl,fl1,rfl,?_⟩;rw[show([V.ref f]:List V).dropLast=[]from rfl];have nfl:∀{b u},H1 b=some u->(∀xs,u≠.lst xs)->b≠X.fl:=fun e n z=>by rw[z,fl1]at e;exact n _ (uQ.inj e).symm
  have m2:(upd H1 X.fl (.lst [])) X.m=some (X.O A .non):=by rw[zh (nfl m1 (by intro _ z;unfold Mx.O at z;cases z))];exact m1
  have fl2:=zg (H:=H1) (a:=X.fl) (o:=.lst []);have k2:=k1.put (o:=.lst []) (a:=X.fl) (by simp);have E2:X.E A (upd H1 X.fl (.lst [])):=by
   obtain⟨C,hE⟩:=E1;refine⟨C,hE.kq fun b u e n=>?_⟩;by_cases z:b=X.fl
   ·rw[z,fl1]at e
    rcases n with rfl|rfl|⟨_,_,_,rfl⟩
    ·cases e
    ·injection e with e;injection e with e;cases e
    ·cases e
   ·rw[zh z];exact e
  have T2:TbG TC lsC (upd H1 X.fl (.lst [])):=T1.keep (fun ps e=>by rw[zh (nfl e (by intro _ z;cases z))];exact e) fun c q e=>by rw[zh (nfl e (by intro _ z;unfold CodO at z;cases z))];exact e
  have out2:∀{b},(upd H1 X.fl (.lst [])) b=none->H b=none:=fun{b} e=>by
   by_cases z:b=X.fl
   ·rw[z,zg]at e;cases e
   ·rw[zh z]at e;exact out1 e
  generalize upd H1 X.fl (.lst [])=H2 at *;refine zf rfl ⟨X.m,A.cM,X.dx,_,_,rfl,m2,N.cl,N.n7,rfl,X.fl,[],rfl,.inl (SqL.of fl2),rfl,(zf rfl (iteT ?_))⟩;refine zf rfl ⟨X.m,X.dx,(zf rfl ⟨m2,rfl,zf rfl ⟨X,i,rfl,m2,E2,T2,fun H3 tp l k3 T3 m3 tp0 l0 htp hl=>?_⟩⟩)⟩;refine q H3 tp l (k2.trans (k3.mono (by simp))) T3 (k3 _ _ ?_ fl2) m3 (out2 tp0) (out2 l0) htp hl;intro z;rcases uh.mp z with z|z
  ·rw[z,m2]at fl2;unfold Mx.O at fl2;cases fl2
  ·exact yk T2 fl2 (by intro _ z;cases z) (ug.mp z)
theorem scPiece:FnScope ["self","frame","body"] ["self","frame"] (zo Zr):=⟨rfl,rfl,rfl,by decide +kernel,rfl,by decide +kernel,by decide +kernel⟩
theorem JF(F:Fun K "do_piece" "Machine.do_piece" Zr f fd)(N:MN K A.cM)(NF:FrN K A.cF)(GG:Me P w K mg base CX0 4 A.cM "give" ["self","frame","name"] (spGiveM A TC))(GL:Me P w K mg base (CXf P w) 5 A.cM "let" ["self","frame","body"] (spLetN A C))(GC:Me P w K mg base CX0 3 A.cM "change_holders" ["self","frame","body"] (spChange A)):FnOk P w K mg base (CXf P w) 6 f fd ["self","frame"] (spPiece A C TC):=by
 refine F.byx scPiece (fun vs H Q E h=>?_) (fun cdv A' outer s H vs Q E hr h=>?_)
 ·obtain⟨X,f,dx,hd,ld,td,bv,w,x,h,l,pcs,rfl,_⟩:=h
  rfl
 obtain⟨X,f,dx,hd,ld,td,bv,w,x,h,l,pcs,rfl,hm,hE,hT,hf,hc,hh,hl,hz,q0,q1⟩:=h;have r3:Room 3 _:=hr.mono (by decide);have r4:Room 4 _:=hr.mono (by decide);refine⟨_,
  (zj (zE (i:=2) scPiece.nd rfl (Or.inl rfl) (zr K (jv 1)))
  (zn (zK (zv z6 (zC K (jv 2)) zu (zy _)) (zn (zP (yT (jv 0) N.cl GG.upx r4 yS (ja_c (jv 1) (ja_c (zC K (jv 2)) zi)))))
   (zn (zK (zv z6 (zC K (jv 2)) zu (zy _)) (zn (zP (yT (jv 0) N.cl GL hr yS (ja_c (jv 1) (ja_c (jv 2) zi)))))
    (zn (zK (zv z6 (zC K (jv 2)) zu (zy _)) (zn zN)
     (zn (zK (zv z6 (zC K (jv 2)) zu (zy _)) (zn zN)
      (zj (zP (yT (jv 0) N.cl GC.upx r3 yS (ja_c (jv 1) (ja_c (jv 2) zi))))
      (zn (zZ (jv 1) (zR (XC K) (jv 2) (yr zp) (fun _ _=>rfl)))))))))))))),?_⟩
 refine zf rfl ⟨f,A.cF,dx,_,_,rfl,hf,NF.cl,NF.n1,rfl,?_⟩;dsimp only[uR,L2.start]
 have say:∀{p:Addr}{w0:Str}{rest:List V}{w1:Str}{T1 U1:TS}{D:Ends},H p=some (.tup (.str w0::rest))->decide (V.str w0=V.str w1)=true->T1 D [some (.ref X.m),sR f,sR p] H->(tIfS (wn (tOp rEq (tOp (rIxT K) (tVar 2) (tC (.int 0))) (tC (.str w1)))) T1 U1:TS) D [some (.ref X.m),sR f,sR p] H:=fun hp e k=>zf rfl (ixT hp (zq (j:=0) rfl) ⟨rfl,(zf rfl (by rw[e];exact iteT k))⟩);have nay:∀{p:Addr}{w0:Str}{rest:List V}{w1:Str}{T1 U1:TS}{D:Ends},H p=some (.tup (.str w0::rest))->decide (V.str w0=V.str w1)=false->U1 D [some (.ref X.m),sR f,sR p] H->(tIfS (wn (tOp rEq (tOp (rIxT K) (tVar 2) (tC (.int 0))) (tC (.str w1)))) T1 U1:TS) D [some (.ref X.m),sR f,sR p] H:=fun hp e k=>zf rfl (ixT hp (zq (j:=0) rfl) ⟨rfl,(zf rfl (by rw[e];exact iteF k))⟩);have nfh:f≠hd:=fun z=>by rw[z,hh]at hf;unfold FrO at hf;cases hf
 cases pcs with
 |nil =>
  obtain⟨p,rfl,hp⟩:=hc;obtain⟨i,hi,g⟩:=q0 rfl;refine say hp rfl ?_;exact zf rfl ⟨X.m,X.dx,(zf rfl ⟨hm,rfl,zx rfl rfl (ixT hp (zq (j:=1) rfl) ⟨X,f,dx,hd,ld,td,.ref p,w,x,h,i,rfl,hm,hE,hT,hf,hh,hi,g⟩)⟩)⟩
 |cons pc r =>
  obtain⟨ok,g1,g2⟩:=q1 pc r rfl;cases pc with
  |num n i =>
   obtain⟨p,qd,u,rfl,hp,hq,hr'⟩:=hc;refine nay hp rfl (say hp rfl ?_);refine zf rfl ⟨X.m,X.dx,(zf rfl ⟨hm,rfl,zx rfl rfl ⟨X,f,dx,hd,ld,td,p,qd,.ref p,u,w,n,h,l,rfl,hm,hf,hh,hl,hz,hp,.inl i,.inl ⟨i,hq,rfl⟩,fun j ej H' k1 f1 h1=>?_,fun z ez=>by cases ez⟩⟩)⟩;cases ej;exact g1 _ rfl H' u ⟨p,[.str "let",.str n,.ref qd],rfl,hp⟩ k1 f1 h1 (hr'.keep fun b xs e=>k1 _ _ (fun z=>by
    rcases uh.mp z with z|z
    ·rw[z,hf]at e;unfold FrO at e;cases e
    ·rw[ug.mp z,hh]at e;cases e) e)
  |op n w' a b =>
   obtain⟨p,qd,u,rfl,hp,hq,hr'⟩:=hc;obtain⟨i,j,ha,hb,si,sj⟩:=ok;have es:stp h l (.op n w' a b)=if K31.fw w' (some i) (some j)=""then .inl (putS h n (K31.res w' i j))else .inr (K31.fw w' (some i) (some j)):=by
    unfold stp;dsimp only
    rw[ha,hb]
   refine nay hp rfl (say hp rfl ?_);refine zf rfl ⟨X.m,X.dx,(zf rfl ⟨hm,rfl,zx rfl rfl ⟨X,f,dx,hd,ld,td,p,qd,.ref p,u,w,n,h,l,rfl,hm,hf,hh,hl,hz,hp,_,.inr ⟨w',a,b,i,j,hq,ha,hb,si,sj,rfl⟩,fun k ek H' k1 f1 h1=>?_,fun z ez=>?_⟩⟩)⟩
   ·by_cases c:K31.fw w' (some i) (some j)=""
    ·rw[if_pos c]at ek
     cases ek;exact g1 _ (by rw[es,if_pos c]) H' u ⟨p,[.str "let",.str n,.ref qd],rfl,hp⟩ k1 f1 h1 (hr'.keep fun b xs e=>k1 _ _ (fun z=>by
      rcases uh.mp z with z|z
      ·rw[z,hf]at e;unfold FrO at e;cases e
      ·rw[ug.mp z,hh]at e;cases e) e)
    ·rw[if_neg c]at ek;cases ek
   ·by_cases c:K31.fw w' (some i) (some j)=""
    ·rw[if_pos c]at ez;cases ez
    ·rw[if_neg c]at ez
     cases ez;exact g2 _ (by rw[es,if_neg c])
  |hold n y =>
   obtain⟨p,u,rfl,hp,hr'⟩:=hc;obtain⟨i,hi⟩:=ok;have es:stp h l (.hold n y)=.inl (putS h n i):=by
    unfold stp;dsimp only
    rw[hi]
   refine nay hp rfl (nay hp rfl (nay hp rfl (nay hp rfl ?_)));refine zf rfl ⟨X.m,X.dx,(zf rfl ⟨hm,rfl,zx rfl rfl ⟨X,f,dx,hd,ld,td,p,.ref p,u,w,h,l,rfl,hm,hE,hf,hh,hl,hz,.inl ⟨n,y,i,hp,hi,?_⟩⟩⟩)⟩;have hp1:(upd H hd (.dK (eh (putS h n i)))) p=some (.tup [.str "hold",.str n,.str y,u]):=by rw[zh (fun z=>by rw[z,hh]at hp;cases hp)];exact hp
   refine zf rfl (zf rfl ⟨p,_,_,_,rfl,rfl,SqT.of hp1,(show atI ([.str "hold",.str n,.str y,u]:List V) (-1)=some u from yg [.str "hold",.str n,.str y] u),zf rfl ⟨f,A.cF,dx,zf rfl ⟨by rw[zh nfh];exact hf,NF.cl,NF.n1,by show 5 < 1000;decide,?_⟩⟩⟩);refine g1 _ es _ u ⟨p,[.str "hold",.str n,.str y],rfl,hp⟩ ((KE.refl.put (by simp)).put (by simp)) zg (by rw[zh nfh.symm];exact zg) (hr'.keep fun b xs e=>?_);rw[zh (fun z=>by rw[z,hf]at e;unfold FrO at e;cases e),zh (fun z=>by rw[z,hh]at e;cases e)];exact e
  |drop y =>
   obtain⟨p,u,rfl,hp,hr'⟩:=hc;obtain⟨i,hi⟩:=ok;refine nay hp rfl (nay hp rfl (nay hp rfl (nay hp rfl ?_)));refine zf rfl ⟨X.m,X.dx,(zf rfl ⟨hm,rfl,zx rfl rfl ⟨X,f,dx,hd,ld,td,p,.ref p,u,w,h,l,rfl,hm,hE,hf,hh,hl,hz,.inr ⟨y,i,hp,hi,?_⟩⟩⟩)⟩;have hp1:(upd H hd (.dK (eh (y9 h y)))) p=some (.tup [.str "drop",.str y,u]):=by rw[zh (fun z=>by rw[z,hh]at hp;cases hp)];exact hp
   refine zf rfl (zf rfl ⟨p,_,_,_,rfl,rfl,SqT.of hp1,(show atI ([.str "drop",.str y,u]:List V) (-1)=some u from yg [.str "drop",.str y] u),zf rfl ⟨f,A.cF,dx,zf rfl ⟨by rw[zh nfh];exact hf,NF.cl,NF.n1,by show 5 < 1000;decide,?_⟩⟩⟩);refine g1 _ rfl _ u ⟨p,[.str "drop",.str y],rfl,hp⟩ ((KE.refl.put (by simp)).put (by simp)) zg (by rw[zh nfh.symm];exact zg) (hr'.keep fun b xs e=>?_);rw[zh (fun z=>by rw[z,hf]at e;unfold FrO at e;cases e),zh (fun z=>by rw[z,hh]at e;cases e)];exact e
end
structure Ft(K:ua)(mg:Str->Option Value)(C:Addr):Prop where
 m:mg "Fault"=some (.ref C)
 cl:∃f,XCl K C f
 fn:uj K (.ref C) "word"=some none
 hd:UG K C=true
 ex:tF K (.ref C) (.ref C)=some true
def GvT(A:Mc)(TC:Addr)(X:Mx)(f hd:Addr)(i:Int)(H:Hp)(Q:VK):Prop :=
 (∃(f0 dx0 hd0 ld0 td0:Addr)(b0:V)(w0:Str)(h0:Nm),H X.fl=some (.lst [.ref f0,.ref f])/\H f0=some (FrO A.cF dx0 b0 w0 hd0 ld0 td0)/\H hd0=some (.dK (eh h0))/\h0.length<=1000/\hd0≠hd/\f0≠X.m/\∀H',KE [X.fl,hd,f0,hd0] H H'->H' X.fl=some (.lst [.ref f0])->H' f0=some (FrO A.cF dx0 b0 "" hd0 ld0 td0)->H' hd0=some (.dK (eh (putS h0 w0 i)))->Q (.bl true) H') \/
 (H X.fl=some (.lst [.ref f])/\∀H' tp l,KE [X.m,TC,X.fl,hd] H H'->TbG TC lsC H'->H' X.fl=some (.lst [])->H' X.m=some (X.O A (.ref tp))->H tp=none->H l=none->H' tp=some (.tup [.str "told",.ref l])->H' l=some (.lst [.int i])->Q (.bl false) H')
def wW(A:Mc)(TC:Addr):Sp:=fun vs H Q _=>∃(X:Mx),vs=[.ref X.m]/\((∃tp:Addr,H X.m=some (X.O A (.ref tp))/\Q (.bl false) H) \/
 ∃(f dx hd ld td:Addr)(bv:V)(w x:Str)(h l:Nm)(pcs:List Pc)(fs:List V),H X.m=some (X.O A .non)/\X.E A H/\TbG TC lsC H/\H X.fl=some (.lst (fs++[.ref f]))/\f≠X.m/\H f=some (FrO A.cF dx bv w hd ld td)/\IsCd H pcs x bv/\H hd=some (.dK (eh h))/\H ld=some (.dK (eh l))/\h.length<=1000 /\
  (pcs=[]->∃i,yp h x=some i/\GvT A TC X f hd i H Q) /\
  (∀p r,pcs=p::r->PcOk h l p/\(∀h',stp h l p=.inl h'->∀H' bv',Nx H bv bv'->KE [f,hd] H H'->H' f=some (FrO A.cF dx bv' w hd ld td)->H' hd=some (.dK (eh h'))->IsCd H' r x bv'->Q (.bl true) H')/\∀z,stp h l p=.inr z->∀H' tp,KE [X.m] H H'->H' X.m=some (X.O A (.ref tp))->H tp=none->H' tp=some (.tup [.str "fault",.str z])->Q (.bl false) H'))
theorem JG{b:Bool}{p q R:Prop}(h2:R->q)(h1:R->p)(h:R):if b=true then p else q:=by cases b<;>simp[h,h1,h2]
section
variable{K:ua}
theorem scTurn:FnScope ["self","fault"] ["self"] (zo Y1):=⟨rfl,rfl,rfl,by decide +kernel,rfl,by decide +kernel,by decide +kernel⟩
theorem zaN(F:Fun K "turn" "Machine.turn" Y1 f fd)(N:MN K A.cM)(clH:Cls K A.cH)(clS:Cls K A.cS)(FT:Ft K mg C)(mU:mg "Full"=some (.ref cU))(WH:Me P w K mg base CX0 2 A.cH "work" ["self","many"] (spWorkN A.cH A.cS A.cR A.cH))(WS:Me P w K mg base CX0 2 A.cS "work" ["self","many"] (spWorkN A.cH A.cS A.cR A.cS))(GP:Me P w K mg base (CXf P w) 6 A.cM "do_piece" ["self","frame"] (spPiece A C TC)):FnOk P w K mg base CX0 7 f fd ["self"] (wW A TC):=by
 refine F.by scTurn (fun vs H Q E h=>?_) (fun cdv A' outer s H vs Q E hr h=>?_)
 ·obtain⟨X,rfl,_⟩:=h
  rfl
 obtain⟨X,rfl,q⟩:=h;have r2:Room 2 _:=hr.mono (by decide);obtain⟨fi,M⟩:=FT.cl;refine⟨_,
  (zj (zK (XA (zr K (jv 0))) (zn (zw xn)) zD)
  (zj (zK (zv xZ (zr K (jv 0)) zp (zy _)) (zn (zP (wg (yT (zr K (jv 0)) clH WH r2 zB (ja_c (zr K (jv 0)) zi)) (yT (zr K (jv 0)) clS WS r2 zB (ja_c (zr K (jv 0)) zi))))) zD)
  (zj (VP N.cl GP hr (zcz (i:=1) (th:=fun e oe=>_) (zcA hb_nil.s rfl mU) scTurn.nd rfl rfl FT.m (fun e oe=>zn (zZ (jv 0) (zT (ja_c zu (ja_c (zab (e:=e) (oe:=oe) uS M FT.fn FT.hd (jv 1)) zi)))))) (fun pins D=>jv 0) (fun pins D=>ja_c (zR (zA K) (zr K (jv 0)) (yr zp) (fun _ _=>rfl)) zi))
  (zn (zw (zcx (zr K (jv 0)))))))),?_⟩
 rcases q with⟨tp,hm,q⟩|⟨f',dx,hd,ld,td,bv,w',x,h,l,pcs,fs,hm,hE,hT,hfl,nfm,hf,hc,hh,hl,hz,q0,q1⟩
 ·exact zf rfl ⟨X.m,A.cM,X.dx,_,_,rfl,hm,N.cl,N.n8,rfl,(zf rfl (iteT q))⟩
 refine zf rfl ⟨X.m,A.cM,X.dx,_,_,rfl,hm,N.cl,N.n8,rfl,(zf rfl (iteF (nxtC ?_)))⟩;dsimp only[L2.start]
 refine zf rfl ⟨X.m,A.cM,X.dx,_,_,rfl,hm,N.cl,N.n5,rfl,?_⟩;have sr0:scal (.int X.sr) (.int 0)=true:=rfl;refine⟨sr0,(zf rfl (JG (fun m=>nxtC m) (fun m=>?_) ?_))⟩
 ·refine hpm (x:="work") hE (fun _ _ _ _ _=>⟨rfl,rfl⟩) (fun dx' fs' h1 h2 hE'=>?_) (fun dx' fs' h1 h2 hE'=>?_)
  ·exact zf rfl ⟨X.m,A.cM,X.dx,_,_,rfl,hm,N.cl,N.n6,rfl,X.hp,dx',fs',rfl,h1,h2,zf rfl ⟨X.m,A.cM,X.dx,_,_,rfl,hm,N.cl,N.n5,rfl,X.hp,X.sr,rfl,hE',m⟩⟩
  ·exact zf rfl ⟨X.m,A.cM,X.dx,_,_,rfl,hm,N.cl,N.n6,rfl,X.hp,dx',fs',rfl,h1,h2,zf rfl ⟨X.m,A.cM,X.dx,_,_,rfl,hm,N.cl,N.n5,rfl,X.hp,X.sr,rfl,hE',m⟩⟩
 have sl:=ym;have done:∀H2,H2 X.m=some (X.O A .non)->Q (.bl true) H2->(tRet (tIsN (tFld K (tVar 0) "end")):TS) { nx:=fun x H'=>Q V.non H',rt:=Q } [some (.ref X.m),none] H2:=fun H2 hm2 q=>zf rfl ⟨X.m,A.cM,X.dx,_,_,rfl,hm2,N.cl,N.n8,rfl,q⟩;have over:∀H2 tp v,H2 X.m=some (X.O A (.ref tp))->Q (.bl false) H2->(tRet (tIsN (tFld K (tVar 0) "end")):TS) { nx:=fun x H'=>Q V.non H',rt:=Q } [some (.ref X.m),v] H2:=fun H2 tp v hm2 q=>zf rfl ⟨X.m,A.cM,X.dx,_,_,rfl,hm2,N.cl,N.n8,rfl,q⟩;refine zf rfl ⟨X.m,X.dx,(zf rfl ⟨hm,rfl,zf rfl ⟨X.m,A.cM,X.dx,_,_,rfl,hm,N.cl,N.n7,rfl,(zf rfl ⟨X.fl,_,_,_,rfl,rfl,SqL.of hfl,yg fs _,X,f',dx,hd,ld,td,bv,w',x,h,l,pcs,rfl,hm,hE,hT,hf,hc,hh,hl,hz,fun e0=>?_,fun p r e0=>?_⟩)⟩⟩)⟩
 ·obtain⟨i,hi,g⟩:=q0 e0
  refine⟨i,hi,?_⟩;rcases g with⟨f0,dx0,hd0,ld0,td0,b0,w0,h0,hfl2,hf0,hh0,l0,nhd,nfm0,g⟩|⟨hfl2,g⟩
  ·refine .inl ⟨f0,dx0,hd0,ld0,td0,b0,w0,h0,hfl2,hf0,hh0,l0,nhd,fun H' k e1 e2 e3=>done H' (k _ _ ?_ hm) (g H' k e1 e2 e3)⟩
   have na:∀{b u},H b=some u->(u≠X.O A .non)->X.m≠b:=fun e n z=>by rw[<- z,hm]at e;exact n (uQ.inj e).symm
   have a1:=na hfl (by intro z;unfold Mx.O at z;cases z);have a2:=na hh (by intro z;unfold Mx.O at z;cases z);have a3:=na hh0 (by intro z;unfold Mx.O at z;cases z);simp only[uh,uL,or_false,not_or]
   exact⟨a1,a2,nfm0.symm,a3⟩
  ·exact .inr ⟨hfl2,fun H' tp l k T1 e1 e2 e3 e4 e5 e6=>over H' tp _ e2 (g H' tp l k T1 e1 e2 e3 e4 e5 e6)⟩
 ·obtain⟨hok,g1,g2⟩:=q1 p r e0
  refine⟨hok,fun h' es H' bv' nx k e1 e2 e3=>done H' (k _ _ ?_ hm) (g1 h' es H' bv' nx k e1 e2 e3),fun z es dd H' s' hdd=>?_⟩
  ·have a2:X.m≠hd:=fun z=>by rw[<- z,hm]at hh;unfold Mx.O at hh;cases hh
   simp only[uh,uL,or_false,not_or]
   exact⟨nfm.symm,a2⟩
  ·refine .inl ⟨FT.ex,fun e oe vs hc hdx hdt h2 he=>?_⟩
   refine zf rfl ⟨rfl,hc,⟨vs,hdt⟩,dd,_,_,hdx,hdd,rfl,by show 2<=sizeLine;decide,fun tp htp=>?_⟩;have hm1:(upd H' tp (.tup [.str "fault",.str z])) X.m=some (X.O A .non):=old htp (s' _ _ hm);have ntm:tp≠X.m:=fun z=>by rw[z,s' _ _ hm]at htp;cases htp
   refine zf rfl ⟨X.m,A.cM,X.dx,(zf rfl ⟨hm1,N.cl,N.n8,by show 8 < 1000;decide,?_⟩)⟩;refine over _ tp _ zg (g2 z es _ tp (((KE.of s').trans (KE.of (same_new htp _))).put (by simp)) zg (s'.free htp) ?_);rw[zh ntm,zg]
theorem HpE.ke{hp:Addr}(h:HpE cH cS cR H hp C)(k:∀b u,H b=some u->(u=.lst []\/(∃C dx sz bd kp ext,u=HpO C dx sz bd kp ext)\/(∃C dx nl,u=.ins C dx [("numbers",.ref nl)])\/(u=.dK []/\∃C dx sz kp ext,H hp=some (HpO C dx sz b kp ext)))->H' b=some u):HpE cH cS cR H' hp C:=by
 have ki:∀{bd kp},(∃C dx sz ext,H hp=some (HpO C dx sz bd kp ext))->HpI cR H bd kp->HpI cR H' bd kp:=fun⟨C,dx,sz,ext,e0⟩⟨a,b,c,d,e⟩=>⟨a,b,k _ _ c (.inr (.inr (.inr ⟨rfl,_,_,_,_,_,e0⟩))),k _ _ d (.inr (.inr (.inl ⟨_,_,_,rfl⟩))),k _ _ e (.inl rfl)⟩;cases h with
 |plain dx bd kp sz a b=>exact .plain dx bd kp sz (k _ _ a (.inr (.inl ⟨_,_,_,_,_,_,rfl⟩))) (ki ⟨_,_,_,_,a⟩ b)
 |slow dx bd kp wl sz a b c=>exact .slow dx bd kp wl sz (k _ _ a (.inr (.inl ⟨_,_,_,_,_,_,rfl⟩))) (ki ⟨_,_,_,_,a⟩ b) (k _ _ c (.inl rfl))
def Ap(X:Mx)(H:Hp)(hd:Addr):Prop:=∀C dx sz bd kp ext,H X.hp=some (HpO C dx sz bd kp ext)->bd≠hd
theorem Mx.E.ke{X:Mx}{td:Addr}{b:V}{w:Str}(hE:X.E A H)(ap:Ap X H hd)(hf:H f=some (FrO cF dx b w hd ld td))(hh:H hd=some (.dK kv))(k:KE [f,hd] H H'):X.E A H':=by
 obtain⟨C,hE⟩:=hE;refine⟨C,hE.ke fun a u e n=>k a u (fun z=>?_) e⟩;rcases uh.mp z with z|z
 ·rw[z,hf]at e
  unfold FrO at e;rcases n with rfl|⟨_,_,_,_,_,_,rfl⟩|⟨_,_,_,rfl⟩|⟨rfl,_⟩
  ·cases e
  ·unfold HpO at e;injection e with e;injection e with _ _ e;injection e with e _;injection e with e _;exact absurd e (by decide)
  ·injection e with e;injection e with _ _ e;injection e with e _;injection e with e _;exact absurd e (by decide)
  ·cases e
 ·rw[ug.mp z,hh]at e
  rcases n with rfl|⟨_,_,_,_,_,_,rfl⟩|⟨_,_,_,rfl⟩|⟨rfl,C,dx,sz,kp,ext,e0⟩
  ·cases e
  ·unfold HpO at e;cases e
  ·cases e
  ·exact ap _ _ _ _ _ _ e0 (ug.mp z)
theorem Mx.E.ke2{X:Mx}{en:V}(hE:X.E A H)(ap:Ap X H hd)(hm:H X.m=some (X.O A en))(hfl:H X.fl=some (.lst [.ref f]))(hT:TbG TC lsC H)(hh:H hd=some (.dK kv))(k:KE [X.m,TC,X.fl,hd] H H'):X.E A H':=by
 obtain⟨C,hE⟩:=hE;refine⟨C,hE.ke fun a u e n=>k a u (fun z=>?_) e⟩;rcases uh.mp z with z|z
 ·rw[z,hm]at e
  unfold Mx.O at e;rcases n with rfl|⟨_,_,_,_,_,_,rfl⟩|⟨_,_,_,rfl⟩|⟨rfl,_⟩
  ·cases e
  ·unfold HpO at e;injection e with e;injection e with _ _ e;injection e with e _;injection e with e _;exact absurd e (by decide)
  ·injection e with e;injection e with _ _ e;injection e with e _;injection e with e _;exact absurd e (by decide)
  ·cases e
 rcases uh.mp z with z|z
 ·rw[z]at e
  refine yk hT e (fun ps z=>?_) rfl;rcases n with rfl|⟨_,_,_,_,_,_,rfl⟩|⟨_,_,_,rfl⟩|⟨rfl,_⟩
  ·cases z
  ·unfold HpO at z;cases z
  ·cases z
  ·cases z
 rcases uh.mp z with z|z
 ·rw[z,hfl]at e
  rcases n with rfl|⟨_,_,_,_,_,_,rfl⟩|⟨_,_,_,rfl⟩|⟨rfl,_⟩
  ·injection e with e;injection e with e;cases e
  ·unfold HpO at e;cases e
  ·cases e
  ·cases e
 ·rw[ug.mp z,hh]at e
  rcases n with rfl|⟨_,_,_,_,_,_,rfl⟩|⟨_,_,_,rfl⟩|⟨rfl,C,dx,sz,kp,ext,e0⟩
  ·cases e
  ·unfold HpO at e;cases e
  ·cases e
  ·exact ap _ _ _ _ _ _ e0 (ug.mp z)
theorem Ap.ke{X:Mx}(ap:Ap X H hd)(h:∀u,H' X.hp=some u->H X.hp=some u):Ap X H' hd:=fun C dx sz bd kp ext e=>ap C dx sz bd kp ext (h _ e)
theorem zbz{hp:Addr}(h:HpE cH cS cR H hp C):∃dx sz bd kp ext,H hp=some (HpO C dx sz bd kp ext):=by
 cases h with
 |plain dx bd kp sz a b=>exact⟨_,_,_,_,_,a⟩
 |slow dx bd kp wl sz a b c=>exact⟨_,_,_,_,_,a⟩
def dps:Nm->lS->Str->Option Int
 |h,[],x=>yp h x
 |h,y::r,x=>match yp h y with
  |some _=>dps (y9 h y) r x
  |none=>none
structure Last(A:Mc)(TC:Addr)(X:Mx)(f dx hd ld td:Addr)(l:Nm)(w:Str)(i:Int)(H:Hp)(h:Nm)(xs:lS)(x:Str)(bv:V):Prop where
 hm:H X.m=some (X.O A .non)
 hE:X.E A H
 ap:Ap X H hd
 hT:TbG TC lsC H
 hfl:H X.fl=some (.lst [.ref f])
 nfm:f≠X.m
 hf:H f=some (FrO A.cF dx bv w hd ld td)
 hc:IsCd H (xs.map Pc.drop) x bv
 hh:H hd=some (.dK (eh h))
 hl:H ld=some (.dK (eh l))
 nld:ld≠hd
 hz:h.length<=1000
 hi:dps h xs x=some i
def Endd(A:Mc)(X:Mx)(Q:VK)(H1:Hp):Prop:=(∃(tp:Addr)(z:Str),H1 X.m=some (X.O A (.ref tp))/\H1 tp=some (.tup [.str "fault",.str z])/\Q (.ref tp) H1)\/∃(tp l:Addr)(i:Int),H1 X.m=some (X.O A (.ref tp))/\H1 tp=some (.tup [.str "told",.ref l])/\H1 l=some (.lst [.int i])/\∀H' tp' l',Same H1 H'->H1 tp'=none->H1 l'=none->H' tp'=some (.tup [.str "told",.ref l'])->H' l'=some (.lst [.int i])->Q (.ref tp') H'
def jb(A:Mc)(TC:Addr):Sp:=fun vs H Q _=>∃(X:Mx),vs=[.ref X.m]/\(
 Endd A X Q H \/
 ∃(f dx hd ld td:Addr)(bv:V)(w x:Str)(h l:Nm)(xs:lS)(i:Int),Last A TC X f dx hd ld td l w i H h xs x bv/\∀H' tp tl tp' l',KE [X.m,TC,X.fl,f,hd] H H'->TbG TC lsC H'->X.E A H'->H' X.fl=some (.lst [])->H' X.m=some (X.O A (.ref tp))->H' tp=some (.tup [.str "told",.ref tl])->H' tl=some (.lst [.int i])->H' tp'=some (.tup [.str "told",.ref l'])->H' l'=some (.lst [.int i])->Q (.ref tp') H')
theorem scRes:FnScope ["self"] ["self"] (zo vX):=⟨rfl,rfl,rfl,by decide +kernel,rfl,by decide +kernel,by decide +kernel⟩
theorem WX(F:Fun K "result" "Machine.result" vX f fd)(N:MN K A.cM)(GT:Me P w K mg base CX0 7 A.cM "turn" ["self"] (wW A TC))(m_list:mg "list"=none):FnOk P w K mg base CX0 8 f fd ["self"] (jb A TC):=by
 refine F.by scRes (fun vs H Q E h=>?_) (fun cdv A' outer s H vs Q E hr h=>?_)
 ·obtain⟨X,rfl,_⟩:=h
  rfl
 obtain⟨X,rfl,q⟩:=h;refine⟨_,
  (zj (wq PassesOwn.never (z7 (xg (jv 0) N.cl GT hr zB)) (zn QU))
  (zn (zw (yZ (zv z6 (zC K (zr K (jv 0))) zu (zy _)) (zT (ja_c zu (ja_c (yu (w9 K) rfl m_list u5 (ja_c (zC K (zr K (jv 0))) zi)) zi))) (zr K (jv 0)))))),?_⟩
 have fin:∀H1,Endd A X Q H1 ->
   (tRet (tIf (wn (tOp rEq (tOp (rIxT K) (tFld K (tVar 0) "end") (tC (V.int 0))) (tC (V.str "told")))) (tTup (yf (tC (V.str "told")) (yf (tCB (fun xs H Q=>∃p ys,xs=[V.ref p]/\(SqL K H p ys\/SqT K H p ys)/\∀(l:Addr),H l=none->Q (V.ref l) (upd H l (HO.lst ys))) (yf (tOp (rIxT K) (tFld K (tVar 0) "end") (tC (V.int 1))) tNil)) tNil))) (tFld K (tVar 0) "end")):TS) { nx:=fun x H'=>Q V.non H',rt:=Q } [some (.ref X.m)] H1:=by
  rintro H1 (⟨tp,z,hm,ht,q⟩|⟨tp,l,i,hm,ht,hl,q⟩)
  ·exact zf rfl ⟨X.m,A.cM,X.dx,_,_,rfl,hm,N.cl,N.n8,rfl,ixT ht (zq (j:=0) rfl) ⟨rfl,(zf rfl (iteF (zf rfl ⟨X.m,A.cM,X.dx,_,_,rfl,hm,N.cl,N.n8,rfl,q⟩)))⟩⟩
  ·refine zf rfl ⟨X.m,A.cM,X.dx,_,_,rfl,hm,N.cl,N.n8,rfl,ixT ht (zq (j:=0) rfl) ⟨rfl,(zf rfl (iteT ?_))⟩⟩
   refine zf rfl ⟨X.m,A.cM,X.dx,_,_,rfl,hm,N.cl,N.n8,rfl,ixT ht (zq (j:=1) rfl) ⟨l,(zf rfl ⟨.inl (SqL.of hl),fun l' f1=>⟨by show 2<=sizeLine;decide,fun tp' f2=>?_⟩⟩)⟩⟩;have s1:=same_new f1 (.lst [.int i]);exact q _ tp' l' (s1.new f2) (s1.free f2) f1 zg (by rw[zh (zk zg f2)];exact zg)
 refine⟨fun m σ H1=>σ=[some (.ref X.m)]/\((m=0/\Endd A X Q H1)\/∃(f dx hd ld td:Addr)(bv:V)(w x:Str)(h l:Nm)(xs:lS)(i:Int),m=xs.length+1/\Last A TC X f dx hd ld td l w i H1 h xs x bv/\∀H' tp tl tp' l',KE [X.m,TC,X.fl,f,hd] H1 H'->TbG TC lsC H'->X.E A H'->H' X.fl=some (.lst [])->H' X.m=some (X.O A (.ref tp))->H' tp=some (.tup [.str "told",.ref tl])->H' tl=some (.lst [.int i])->H' tp'=some (.tup [.str "told",.ref l'])->H' l'=some (.lst [.int i])->Q (.ref tp') H'),?_,?_⟩
 ·rcases q with q|⟨f,dx,hd,ld,td,bv,w,x,h,l,xs,i,hL,q⟩
  ·exact⟨0,rfl,.inl ⟨rfl,q⟩⟩
  ·exact⟨xs.length+1,rfl,.inr ⟨f,dx,hd,ld,td,bv,w,x,h,l,xs,i,rfl,hL,q⟩⟩
 rintro m σ H1 ⟨rfl,⟨rfl,e⟩|⟨f,dx,hd,ld,td,bv,w,x,h,l,xs,i,rfl,hL,q⟩⟩
 ·obtain⟨tp,hm⟩:∃tp:Addr,H1 X.m=some (X.O A (.ref tp)):=by
   rcases e with⟨tp,_,hm,_⟩|⟨tp,_,_,hm,_⟩
   ·exact⟨tp,hm⟩
   ·exact⟨tp,hm⟩
  exact zf rfl ⟨X.m,X.dx,(zf rfl ⟨hm,rfl,X,rfl,.inl ⟨tp,hm,(zf rfl (iteF (fin H1 e)))⟩⟩)⟩
 ·refine zf rfl ⟨X.m,X.dx,(zf rfl ⟨hL.hm,rfl,X,rfl,.inr ⟨f,dx,hd,ld,td,bv,w,x,h,l,xs.map Pc.drop,[],hL.hm,hL.hE,hL.hT,hL.hfl,hL.nfm,hL.hf,hL.hc,hL.hh,hL.hl,hL.hz,fun e0=>?_,fun p r e0=>?_⟩⟩)⟩
  ·obtain rfl:xs=[]:=List.map_eq_nil_iff.mp e0
   refine⟨i,hL.hi,.inr ⟨hL.hfl,fun H2 tp tl k T2 e1 e2 f1 f2 e3 e4=>(zf rfl (iteF ?_))⟩⟩;have E2:=hL.hE.ke2 hL.ap hL.hm hL.hfl hL.hT hL.hh k;refine fin H2 (.inr ⟨tp,tl,i,e2,e3,e4,fun H3 tp' l' s3 g1 g2 g3 g4=>?_⟩);refine q H3 tp tl tp' l' ((k.mono (by simp)).trans (KE.of s3)) (yo T2 s3) ?_ (s3 _ _ e1) (s3 _ _ e2) (s3 _ _ e3) (s3 _ _ e4) g3 g4;obtain⟨C,E2⟩:=E2;exact⟨C,E2.same s3⟩
  ·obtain⟨y,r',rfl,rfl,rfl⟩:∃y r',xs=y::r'/\p=.drop y/\r=r'.map Pc.drop:=by
    cases xs with
    |nil=>cases e0
    |cons y r'=>injection e0 with e1 e2;exact⟨y,r',rfl,e1.symm,e2.symm⟩
   have hi:=hL.hi;rw[dps]at hi;cases hy:yp h y with
   |none=>rw[hy]at hi;cases hi
   |some j =>
    rw[hy]at hi;refine⟨⟨j,hy⟩,fun h' e1 H2 bv' _ k e2 e3 e4=>(zf rfl (iteT ⟨_,fun σ' H' z=>z,?_⟩)),fun z e1=>by cases e1⟩;cases e1;have nhf:hd≠f:=fun z=>by
     have a:=hL.hh;rw[z,hL.hf]at a;unfold FrO at a;cases a
    have na:∀{b u},H1 b=some u->(∀dx b w ld td,u≠FrO A.cF dx b w hd ld td)->(∀kv,u≠.dK kv)->b∉[f,hd]:=fun{b u} e n1 n2 z=>by
     rcases uh.mp z with z|z
     ·rw[z,hL.hf]at e;exact n1 _ _ _ _ _ (uQ.inj e).symm
     ·rw[ug.mp z,hL.hh]at e;exact n2 _ (uQ.inj e).symm
    have kt:∀{b u},H1 b=some u->(∀dx b w ld td,u≠FrO A.cF dx b w hd ld td)->(∀kv,u≠.dK kv)->H2 b=some u:=fun e n1 n2=>k _ _ (na e n1 n2) e;have nmo:∀dx b w ld td,X.O A .non≠FrO A.cF dx b w hd ld td:=fun dx b w ld td z=>by
     unfold Mx.O FrO at z;injection z with _ _ z
     injection z with z _
     injection z with z _
     exact absurd z (by decide)
    have E2:=hL.hE.ke hL.ap hL.hf hL.hh k;have T2:TbG TC lsC H2:=hL.hT.keep (fun ps e=>kt e (by intro _ _ _ _ _ z;unfold FrO at z;cases z) (by intro _ z;cases z)) fun c q e=>kt e (by intro _ _ _ _ _ z;unfold CodO FrO at z;cases z) (by intro _ z;unfold CodO at z;cases z);refine⟨r'.length+1,by simp,rfl,.inr ⟨f,dx,hd,ld,td,bv',w,x,y9 h y,l,r',i,rfl,⟨kt hL.hm nmo (by intro _ z;unfold Mx.O at z;cases z),E2,?_,T2,kt hL.hfl (by intro _ _ _ _ _ z;unfold FrO at z;cases z) (by intro _ z;cases z),hL.nfm,e2,e4,e3,?_,hL.nld,?_,hi⟩,fun H' tp tl tp' l' k' a1 a2 a3 a4 a5 a6=>q H' tp tl tp' l' ((k.mono (by simp)).trans k') a1 a2 a3 a4 a5 a6⟩⟩
    ·obtain⟨C,hE⟩:=hL.hE
     obtain⟨dx',sz,bd,kp,ext,e⟩:=zbz hE;have e':=kt e (by
      intro dx b w ld td z;unfold HpO FrO at z;injection z with _ _ z
      injection z with z _
      injection z with z _
      exact absurd z (by decide)) (by intro _ z;unfold HpO at z;cases z)
     exact hL.ap.ke fun u e1=>by rw[e,<- e',e1]
    ·exact k _ _ (by simp only[uh,uL,or_false,not_or];exact⟨fun z=>absurd (show some (FrO A.cF dx bv w hd ld td)=some (.dK (eh l))from by rw[<- hL.hf,<- z];exact hL.hl) (fun z=>by unfold FrO at z;cases z),hL.nld⟩) hL.hl
    ·exact uy (UL _ _) hL.hz
end
structure Beg(A:Mc)(X:Mx)(b:V)(ps:lS)(os:List Bool)(us:List V)(H:Hp)(f0 dx0 hd0 ld0 td0 f dx hd ld td:Addr)(v0:V):Prop where
 fl:H X.fl=some (.lst [.ref f0,.ref f])
 f0:H f0=some (FrO A.cF dx0 v0 "answer." hd0 ld0 td0)
 c0:IsCd H ((lnt ps os us).map fun p=>Pc.drop p.1) "answer." v0
 h0:H hd0=some (.dK ((lnt ps os us).foldl putL []))
 l0:H ld0=some (.dK [])
 t0:H td0=some (.dK [])
 f:H f=some (FrO A.cF dx b "" hd ld td)
 h:H hd=some (.dK (fil ps os us).1)
 l:H ld=some (.dK (fil ps os us).2)
 t:H td=some (.dK [])
structure BegN(H:Hp)(f0 hd0 ld0 td0 f hd ld td:Addr):Prop where
 n0:Fd H hd0 ld0 td0
 n1:Fd H hd ld td
 e0:H f0=none
 e1:H f=none
 ff:f≠f0
 a:∀x∈[hd,ld,td],x∉[f0,hd0,ld0,td0]
inductive spBegM(A:Mc)(TA TB:Addr)(vs:List V)(H:Hp)(Q:VK)(e_3:XK):Prop
 |mk (X:Mx) (one:Addr) (vl:Addr) (qp:Addr) (qo:Addr) (n:Str) (b:V) (ps:lS) (os:List Bool):(∃is:List Int,vs=[.ref X.m,.ref one,.ref vl]/\H X.m=some (X.O A .non)/\H X.fl=some (.lst [])/\vl≠X.fl/\H one=some (.tup [.str n,.ref qp,.ref qo,b])/\H qp=some (.tup (ps.map V.str))/\H qo=some (.tup (os.map V.bl))/\H vl=some (.lst (is.map V.int))/\(ps.length=os.length/\ps.length=is.length/\ps.length<=1000)/\TbG TA lsA H/\TbG TB lsB H/\∀H' f0 dx0 hd0 ld0 td0 f dx hd ld td v0,KE [X.fl,TA,TB] H H'->TbG TA lsA H'->TbG TB lsB H'->Beg A X b ps os (is.map V.int) H' f0 dx0 hd0 ld0 td0 f dx hd ld td v0->BegN H f0 hd0 ld0 td0 f hd ld td->Q .non H')->spBegM A TA TB vs H Q e_3
section
variable{K:ua}{TA:Addr}{va:Value}
theorem scMBegin:FnScope ["self","one","values","boxed"] ["self","one","values"] (zo Zq):=⟨rfl,rfl,rfl,by decide +kernel,rfl,by decide +kernel,by decide +kernel⟩
theorem JH:(["self","one","values","boxed","value"]:lS).Nodup:=by decide +kernel
theorem zaO(F:Fun K "begin" "Machine.begin" Zq f fd)(N:MN K A.cM)(mU:mg "Full"=some (.ref cU))(mA:mg "ANSWER"=some va)(rA:RelV (.str "answer.") va)(GB:Ca P w K mg base CX0 5 "boxed_value" ["heap","value"] (spBoxedN TA TB))(GF:Ca P w K mg base CX0 3 "first_frame" ["one","values","wants"] (spFirstFr A.cF))(GC:Ca P w K mg base CX0 3 "called_frame" ["one","values"] (spCalled A.cF)):FnOk P w K mg base CX0 6 f fd ["self","one","values"] (spBegM A TA TB):=by
 refine F.by scMBegin (fun vs H Q E h=>?_) (fun cdv A' outer s H vs Q E hr h=>?_)
 ·obtain⟨X,one,vl,qp,qo,n,b,ps,os,is,rfl,_⟩:=h
  rfl
 obtain⟨X,one,vl,qp,qo,n,b,ps,os,is,rfl,hm,hfl,nvl,h1,hqp,hqo,hvl,⟨l1,l2,l3⟩,hTA,hTB,q⟩:=h;have r3:Room 3 _:=hr.mono (by decide);refine⟨_,
  (zj (zac (tb:=fun E=>_) (fun pins E=>zn (j6 ["value"] (i:=3) scMBegin.nd rfl (Or.inl rfl) rfl (xp K (jv 2)) (fun _ _ _ _ _=>(zG (i:=4) JH rfl (Or.inl rfl))) (fun _ _ _ _ _=>yC) (fun _ _ _ _ _=>(zM GB hr rfl zB (ja_c (zr K (jv 0)) (ja_c (jv 4) zi)))))) (zdv hb_nil rfl mU))
  (zj (zP (yR uD uN uO yj (zr K (jv 0)) (ja_c (zM GF r3 rfl zB (ja_c (jv 1) (ja_c (jv 3) (ja_c (j4 rfl mA rA) zi)))) zi)))
  (zn (zP (yR uD uN uO yj (zr K (jv 0)) (ja_c (zM GC r3 rfl zB (ja_c (jv 1) (ja_c (jv 3) zi))) zi)))))),?_⟩
 have sl:=ym;have hmE:(∀ps,X.O A .non≠.tbl ps):=fun ps z=>by unfold Mx.O at z;cases z
 refine zf rfl ⟨vl,rfl,⟨_,SqL.of hvl⟩,j3 (xs:=is.map V.int) (fun j τ ys H'=>KM (MAB TA TB) H H'/\TbG TA lsA H'/\TbG TB lsB H'/\(∃v,τ=[some (.ref X.m),sR one,sR vl,none,v])/\ys=(is.take j).map V.int) ⟨fun b u _ e=>e,hTA,hTB,⟨none,rfl⟩,rfl⟩ (fun j τ ys H' _ h=>SqL.of (h.1 _ _ ?_ hvl)) ?_ ?_⟩
 ·rintro(z|z)
  ·exact yk hTA hvl (by intro _ z;cases z) z
  ·exact yk hTB hvl (by intro _ z;cases z) z
 ·rintro j v τ ys H2 hv ⟨k2,A2,B2,⟨u,rfl⟩,rfl⟩
  obtain⟨a,ha,rfl⟩:=L2.gM hv;have hm2:=k2 _ _ (by rintro(z|z);exact yk hTA hm hmE z;exact yk hTB hm hmE z) hm;refine zf rfl ⟨X.m,A.cM,X.dx,_,_,rfl,hm2,N.cl,N.n6,rfl,zf rfl ⟨.ref X.hp,a,rfl,A2,B2,fun H3 k3 A3 B3=>⟨?_,fun b u n e=>k3 b u n (k2 b u n e),A3,B3,⟨_,rfl⟩,?_⟩⟩⟩
  ·have:=(ud.mp ha).1
   rw[uc,Ui];lia
  ·rw[Us,ha,uH]
   rfl
 rintro τ ys H1 ⟨k1,A1,B1,⟨u,rfl⟩,rfl⟩ r hr1;have kk:∀{b u},H b=some u->(∀ps,u≠.tbl ps)->H1 b=some u:=fun{b u} e n=>k1 _ _ (by rintro(z|z);exact yk hTA e n z;exact yk hTB e n z) e;have out:∀{b},H1 b=none->H b=none:=fun{b} e=>by
  cases c:H b with
  |none=>rfl
  |some u =>
   by_cases m:MAB TA TB b
   ·rcases m with z|z
    ·obtain⟨ps,hp,_⟩:=A1
     rw[z,hp]at e;cases e
    ·obtain⟨ps,hp,_⟩:=B1
     rw[z,hp]at e;cases e
   ·rw[k1 _ _ m c]at e;cases e
 rw[uc,U7];have s12:=same_new hr1 (.lst (is.map V.int));have hr2:=zg (H:=H1) (a:=r) (o:=.lst (is.map V.int));dsimp only[uR,L2.start]
 generalize upd H1 r (.lst (is.map V.int))=H2 at *;have nrf:r≠X.fl:=fun z=>by rw[z,kk hfl (by intro _ z;cases z)]at hr1;cases hr1
 have k2:∀{b u},H b=some u->(∀ps,u≠.tbl ps)->H2 b=some u:=fun e n=>s12 _ _ (kk e n);have A2:=yo A1 s12;have B2:=yo B1 s12;have lm:ps.length=(is.map V.int).length:=by rw[uc];exact l2
 refine zf rfl ⟨X.m,A.cM,X.dx,_,_,rfl,k2 hm hmE,N.cl,N.n7,rfl,.inl ⟨rfl,_,SqL.of (k2 hfl (by intro _ z;cases z))⟩,zx rfl rfl ⟨one,r,qp,qo,n,"answer.",b,ps,os,is.map V.int,rfl,k2 h1 (by intro _ z;cases z),k2 hqp (by intro _ z;cases z),k2 hqo (by intro _ z;cases z),hr2,⟨l1,lm,l3⟩,fun H3 f0 dx0 v0 hd0 ld0 td0 s3 g0 g1 g2 g3 g4 g5 g6=>?_⟩⟩;have fl3:=s3 _ _ (k2 hfl (by intro _ z;cases z));refine⟨X.fl,[],.ref f0,rfl,rfl,fl3,by show 0 < sizeLine;decide,?_⟩;have nf:∀{b u},H3 b=some u->(∀xs,u≠.lst xs)->b≠X.fl:=fun e n z=>by rw[z,fl3]at e;exact n _ (uQ.inj e).symm
 have k3:∀{b u},b≠X.fl->H3 b=some u->upd H3 X.fl (.lst ([]++[.ref f0])) b=some u:=fun n e=>by rw[zh n];exact e
 have fl4:=zg (H:=H3) (a:=X.fl) (o:=.lst ([]++[.ref f0]));have out4:∀{b},upd H3 X.fl (.lst ([]++[.ref f0])) b=none->H3 b=none:=fun{b} e=>by
  by_cases z:b=X.fl
  ·rw[z,zg]at e;cases e
  ·rw[zh z]at e;exact e
 have u4:∀b u,b∉[X.fl]->H3 b=some u->upd H3 X.fl (.lst ([]++[.ref f0])) b=some u:=fun b u n e=>k3 (fun z=>n (ug.mpr z)) e;generalize upd H3 X.fl (.lst ([]++[.ref f0]))=H4 at *;have kn:∀{b u},H b=some u->(∀ps,u≠.tbl ps)->(∀xs,u≠.lst xs)->H4 b=some u:=fun e n1 n2=>k3 (nf (s3 _ _ (k2 e n1)) n2) (s3 _ _ (k2 e n1));have hm4:=kn hm hmE (by intro _ z;unfold Mx.O at z;cases z);refine zf rfl ⟨X.m,A.cM,X.dx,_,_,rfl,hm4,N.cl,N.n7,rfl,.inl ⟨rfl,_,SqL.of fl4⟩,zx rfl rfl ⟨one,r,qp,qo,n,b,ps,os,is.map V.int,rfl,kn h1 (by intro _ z;cases z) (by intro _ z;cases z),kn hqp (by intro _ z;cases z) (by intro _ z;cases z),kn hqo (by intro _ z;cases z) (by intro _ z;cases z),k3 nrf (s3 _ _ hr2),⟨l1,lm,l3⟩,fun H5 f dx hd ld td s5 a0 a1 a2 a3 a4 a5=>?_⟩⟩;have fl5:=s5 _ _ fl4;refine⟨X.fl,[.ref f0],.ref f,rfl,rfl,fl5,by show 1 < sizeLine;rw[sl];decide,?_⟩;have nf5:∀{b u},H5 b=some u->(∀xs,u≠.lst xs)->b≠X.fl:=fun e n z=>by rw[z,fl5]at e;exact n _ (uQ.inj e).symm
 have k6:∀{b u},H5 b=some u->(∀xs,u≠.lst xs)->upd H5 X.fl (.lst ([.ref f0]++[.ref f])) b=some u:=fun e n=>by rw[zh (nf5 e n)];exact e
 have k4:∀{b u},H3 b=some u->(∀xs,u≠.lst xs)->H4 b=some u:=fun e n=>k3 (nf e n) e;have k36:∀{b u},H3 b=some u->(∀xs,u≠.lst xs)->upd H5 X.fl (.lst ([.ref f0]++[.ref f])) b=some u:=fun e n=>k6 (s5 _ _ (k4 e n)) n;have kt:∀{T ls},TbG T ls H2->TbG T ls (upd H5 X.fl (.lst ([.ref f0]++[.ref f]))):=fun h=>(yo h s3).keep (fun ps e=>k36 e (by intro _ z;cases z)) fun c q e=>k36 e (by intro _ z;unfold CodO at z;cases z);have o3:∀{b},H2 b=none->H b=none:=fun{b} e=>out (s12.free e);have o5:∀{b},H4 b=none->H b=none:=fun{b} e=>o3 (s3.free (out4 e));have nu:∀{b c u},H3 c=some u->(∀xs,u≠.lst xs)->H4 b=none->b≠c:=fun e n e1 z=>by rw[z,k4 e n]at e1;cases e1
 have fro:∀{cF dx b w hd ld td} xs,FrO cF dx b w hd ld td≠.lst xs:=fun xs z=>by unfold FrO at z;cases z
 refine q _ f0 dx0 hd0 ld0 td0 f dx hd ld td v0 ?_ (kt A2) (kt B2) ⟨zg,k36 g2 fro,g3.keep fun b xs e=>k36 e (by intro _ z;cases z),k36 g4 (by intro _ z;cases z),k36 g5 (by intro _ z;cases z),k36 g6 (by intro _ z;cases z),k6 a2 fro,k6 a3 (by intro _ z;cases z),k6 a4 (by intro _ z;cases z),k6 a5 (by intro _ z;cases z)⟩ ⟨⟨o3 g1.h,o3 g1.l,o3 g1.t,g1.n1,g1.n2,g1.n3⟩,⟨o5 a1.h,o5 a1.l,o5 a1.t,a1.n1,a1.n2,a1.n3⟩,o3 g0,o5 a0,nu g2 fro a0,?_⟩
 ·intro b' u n e
  simp only[uh,uL,or_false,not_or]at n
  obtain⟨n1,n2,n3⟩:=n;rw[zh n1];exact s5 _ _ (u4 _ _ (fun z=>n1 (ug.mp z)) (s3 _ _ (s12 _ _ (k1 _ _ (by rintro(z|z);exact n2 z;exact n3 z) e))))
 ·intro x hx
  have hx4:H4 x=none:=by
   simp only[uh,uL,or_false]at hx
   rcases hx with rfl|rfl|rfl
   ·exact a1.h
   ·exact a1.l
   ·exact a1.t
  simp only[uh,uL,or_false,not_or]
  exact⟨nu g2 fro hx4,nu g4 (by intro _ z;cases z) hx4,nu g5 (by intro _ z;cases z) hx4,nu g6 (by intro _ z;cases z) hx4⟩
end
end GN
variable{hs0:List GN.Nm}
namespace L2
open PySem
theorem FnOk.dn{K:ua}{k:Nat}{sp':Sp}(F:FnOk P w K mg base (CXf P w) k f fd ps sp)(h:∀vs H Q E,sp' vs H Q E->sp vs H Q E0):FnOk P w K mg base CX0 k f fd ps sp' :=
 ⟨fun vs H Q E q=>F.len _ _ _ _ (h vs H Q E q),fun A outer s H args us vs Q E hr he hb hv hs=>codeAny_mono (F.run A outer s H args us vs Q E0 hr he hb hv (h vs H Q E hs)) fun r s' q=>by
  cases r with
  |error e =>
   obtain⟨_,_,_,_,_,_,_,_,_,_,_,_,_,z⟩:=q;exact z.elim
  |ok fl =>
   cases fl with
   |ret u=>exact q
   |_=>exact q⟩
theorem Ca.dn{K:ua}{k:Nat}{sp':Sp}(F:Ca P w K mg base (CXf P w) k x ps sp)(h:∀vs H Q E,sp' vs H Q E->sp vs H Q E0):Ca P w K mg base CX0 k x ps sp':=by obtain⟨f,fd,a,r⟩:=F.ex;exact⟨f,fd,a.dn h,r⟩
end L2
namespace GN
open PySem L2 K11
variable{x:Addr}
theorem Yi{b:Bool}{A B:Prop}(e:b=false)(h:B):if b=true then A else B:=by rw[if_neg (by rw[e];decide)];exact h
inductive spGrowN(vs:List V)(H:Hp)(Q:VK)(e_3:XK):Prop
 |mk (pk:Addr) (l:Addr):(∃i:Int,vs=[.ref pk,.ref l]/\H pk=some (.tup [])/\H l=some (.lst [.int i])/\K31.Sm i/\∀H',Same H H'->Q (.int i) H')->spGrowN vs H Q e_3
theorem JI{vs:List V}{Q:VK}{E:XK}(h:spGrowN vs H Q E):spGrown C vs H Q E0:=by
 obtain⟨pk,l,i,rfl,hK,hl,si,q⟩:=h;have e1:hgt (puts ([]:List (List (Str×Nat))).flatten []) [.int i]=some 1:=by
  have e0:dl (puts ([]:List (List (Str×Nat))).flatten []) (.int i)=some 0:=if_pos si;show(match some 0,dl (puts ([]:List (List (Str×Nat))).flatten []) (.int i)with
   |some n,some s=>if s<=n then some (n-s+1)else none
   |_,_=>none)=some 1
  rw[e0]
  rfl
 refine⟨pk,.ref l,[],rfl,⟨[],hK,rfl,fun i q l h=>nomatch h⟩,⟨by decide,fun a h=>nomatch h⟩,.inr ⟨l,(zf rfl ⟨hl,by show 1<=300;decide,fun x hx=>?_,fun n=>absurd e1 n,fun _ H' v s hv=>?_⟩)⟩⟩
 ·rw[ug.mp hx]
  exact⟨_,.int i⟩
 ·cases hv with
  |num _ _=>exact q H' s
inductive spByN(vs:List V)(H:Hp)(Q:VK)(e_3:XK):Prop
 |mk (pd:Addr) (one:Addr) (n:Str):(∃rest:List V,vs=[.ref pd]/\H pd=some (.tup [.ref one])/\H one=some (.tup (.str n::rest))/\∀H' d,Same H H'->H d=none->H' d=some (.dK [(.inr n,.ref one)])->Q (.ref d) H')->spByN vs H Q e_3
inductive spBegunN(vs:List V)(H:Hp)(Q:VK)(e_3:XK):Prop
 |mk (pk:Addr) (d:Addr) (al:Addr) (one:Addr) (qp:Addr) (n:Str) (rest:List V) (ps:lS) (as:List Addr):(∃is:List Int,vs=[.ref pk,.ref d,.str n,.ref al]/\H pk=some (.tup [])/\H d=some (.dK [(.inr n,.ref one)])/\H one=some (.tup (.str n::.ref qp::rest))/\H qp=some (.tup (ps.map V.str))/\H al=some (.lst (as.map V.ref))/\as.length=is.length/\(∀(j:Nat) a i,as[j]?=some a->is[j]?=some i->H a=some (.lst [.int i])/\K31.Sm i)/\ps.length=is.length/\ps.length<=100/\∀H' l,Same H H'->H l=none->H' l=some (.lst (is.map V.int))->Q (.ref l) H')->spBegunN vs H Q e_3
section
variable{K:ua}{TA D:Addr}{A:Mc}
theorem scBy:FnScope ["defs","found","one"] ["defs"] (zo sBy):=⟨rfl,rfl,rfl,by decide +kernel,rfl,by decide +kernel,by decide +kernel⟩
theorem zcX(F:Fun K "by_name" "by_name" sBy f fd):FnOk P w K mg base CX0 1 f fd ["defs"] spByN:=by
 refine F.by scBy (fun vs H Q E h=>?_) (fun cdv A outer s H vs Q E hr h=>?_)
 ·obtain⟨pd,one,n,rest,rfl,_⟩:=h
  rfl
 obtain⟨pd,one,n,rest,rfl,hp,h1,q⟩:=h;refine⟨_,
  (zj (zE (i:=1) scBy.nd rfl (Or.inl rfl) yx)
  (zj (yH PassesOwn.never rfl (Zd K (jv 0)) (zG (i:=2) scBy.nd rfl (Or.inl rfl))
   (zn (yy hr (jv 1) (zC K (jv 2)) (jv 2))))
  (zn (zw (jv 1))))),?_⟩
 have sl:=ym;intro d hd;have s1:=same_new hd (.dK []);refine zf rfl ⟨pd,rfl,⟨_,SqT.of (s1 _ _ hp)⟩,ve (xs:=[V.ref one]) (fun i σ H'=>Same H H'/\H' d=some (.dK (if i=0 then[]else[(.inr n,.ref one)]))/\∃x,σ=[sR pd,sR d,x]) ⟨s1,zg,none,rfl⟩ (fun i σ H' _ h=>SqT.of (h.1 _ _ hp)) ?_ ?_⟩
 ·rintro i v σ H1 hv ⟨s2,hd2,x,rfl⟩
  match i,hv with
  |0,hv =>
   cases hv;exact zx rfl rfl (zf rfl (ixT (s2 _ _ h1) (zq (j:=0) rfl) ⟨d,(zf rfl ⟨DPut.k (k:=.inr n) hd2 (by show 0 < sizeLine;lia),s2.put hd,zg,_,rfl⟩)⟩))
  |i+1,hv=>simp at hv
 ·rintro σ H1 ⟨s2,hd2,x,rfl⟩
  exact zf rfl (q _ d s2 hd hd2)
theorem zaP:FnScope ["kinds","defs","name","args"] ["kinds","defs","name","args"] (zo YW):=⟨rfl,rfl,rfl,by decide +kernel,rfl,by decide +kernel,by decide +kernel⟩
theorem zaQ:(["kinds","defs","name","args","parts"]:lS).Nodup:=by decide +kernel
theorem WY(F:Fun K "begun_with" "begun_with" YW f fd)(GG:Ca P w K mg base CX0 2 "grown" ["kinds","parts"] spGrowN)(m_len:mg "len"=none):FnOk P w K mg base CX0 3 f fd ["kinds","defs","name","args"] spBegunN:=by
 refine F.by zaP (fun vs H Q E h=>?_) (fun cdv A outer s H vs Q E hr h=>?_)
 ·obtain⟨pk,d,al,one,qp,n,rest,ps,as,is,rfl,_⟩:=h
  rfl
 obtain⟨pk,d,al,one,qp,n,rest,ps,as,is,rfl,hK,hd,h1,hp,hal,la,hA,ll,l100,q⟩:=h;refine⟨_,
  (zj (zK (wP hr (jv 2) (jv 1)) (zn zN) zD)
  (zj (zK (zv xZ (zJ (zQ K) rfl m_len uV (ja_c (jv 3) zi)) (zJ (zQ K) rfl m_len uV (ja_c (zC K (yF hr (jv 1) (jv 2))) zi)) (zy _)) (zn zN) zD)
  (zn (zw (xa ["parts"] rfl (xp K (jv 3)) (fun _ _ _ _ _=>(zG (i:=4) zaQ rfl (Or.inl rfl))) (fun _ _ _ _ _=>yC) (fun _ _ _ _ _=>(zM GG hr rfl zB (ja_c (jv 0) (ja_c (jv 4) zi))))))))),?_⟩
 have sl:=ym;have gd:DGet H d (V.str n) (some (.ref one)):=by
  have e:valV [((.inr n:Key),(V.ref one))] (.inr n)=some (.ref one):=yh rfl;rw[<- e];exact DGet.k (k:=.inr n) hd
 refine zx rfl rfl ⟨d,(zf rfl ⟨gd,(zf rfl (Yi rfl (nxtC ?_)))⟩)⟩;refine zf rfl ⟨al,(zf rfl ⟨.inl (SqL.of hal),zx rfl rfl ⟨d,(zf rfl ⟨gd,ixT h1 (zq (j:=1) rfl) ⟨qp,(zf rfl ⟨.inr (SqT.of hp),rfl,(zf rfl (Yi (by rw[uc,uc,la,ll];simp) (nxtC ?_)))⟩)⟩⟩)⟩⟩)⟩;refine zf rfl ⟨al,rfl,⟨_,SqL.of hal⟩,j3 (xs:=as.map V.ref) (fun j τ ys H'=>Same H H'/\(∃v,τ=[sR pk,sR d,some (.str n),sR al,v])/\ys=(is.take j).map V.int) ⟨Same.refl _,⟨none,rfl⟩,rfl⟩ (fun j τ ys H' _ h=>SqL.of (h.1 _ _ hal)) ?_ ?_⟩
 ·rintro j v τ ys H2 hv ⟨s2,⟨u,rfl⟩,rfl⟩
  obtain⟨a,ha,rfl⟩:=L2.gM hv;have hj:=(ud.mp ha).1;have hi:is[j]?=some is[j]:=uf (by lia);obtain⟨g1,g2⟩:=hA j a _ ha hi;refine zx rfl rfl ⟨pk,a,is[j],rfl,s2 _ _ hK,s2 _ _ g1,g2,fun H3 s3=>⟨by rw[uc,Ui];lia,s2.trans s3,⟨_,rfl⟩,?_⟩⟩;rw[Us,hi,uH]
  rfl
 ·rintro τ ys H2 ⟨s2,_,rfl⟩ r hr
  rw[uc,la,U7];exact q _ r (s2.new hr) (s2.free hr) zg
theorem KN.of(s:Same H H1):KN x H H1:=fun c u _ e=>s c u e
theorem KN.trans(a:KN x H H1)(b:KN x H1 H2):KN x H H2:=fun c u n e=>b c u n (a c u n e)
theorem JJ{b:Bool}{tb:TE}{Q:VK}(R:VK->Prop)(h1:∀Q,R Q->ta σ H Q)(h2:∀Q,R Q->tb σ H Q)(h:R Q):if b=true then ta σ H Q else tb σ H Q:=by
 cases b
 ·exact iteF (h2 Q h)
 ·exact iteT (h1 Q h)
theorem zbA{C0 dx0:Addr}{hp:Addr}{v:V}{r:List (Str×V)}(h:HpE cH cS cR H hp C)(hx:H x=some (.ins C0 dx0 (("defs",v)::r)))(hA:TbG TA lsA H)(hB:TbG TB lsB H)(k:KE [x,TA,TB] H H'):HpE cH cS cR H' hp C:=by
 refine h.ke fun b u e n=>k b u (fun z=>?_) e;have nt:∀ps,u≠.tbl ps:=by
  rintro ps rfl;rcases n with n|⟨_,_,_,_,_,_,n⟩|⟨_,_,_,n⟩|⟨n,_⟩<;>(try unfold HpO at n)<;>cases n
 simp only[uh,uL,or_false]at z
 rcases z with rfl|rfl|rfl
 ·rw[hx]at e
  rcases n with rfl|⟨_,_,_,_,_,_,rfl⟩|⟨_,_,_,rfl⟩|⟨rfl,_⟩
  ·cases e
  ·unfold HpO at e;injection e with e;injection e with _ _ e;injection e with e _;injection e with e _;exact absurd e (by decide)
  ·injection e with e;injection e with _ _ e;injection e with e _;injection e with e _;exact absurd e (by decide)
  ·cases e
 ·exact yk hA e nt rfl
 ·exact yk hB e nt rfl
theorem zdH{hp:Addr}(h:HpE cH cS cR H hp C):∃dx sz bd kp ext,H hp=some (HpO C dx sz bd kp ext)/\H bd=some (.dK []):=by
 cases h with
 |plain dx bd kp sz a b=>obtain⟨_,_,c,_,_⟩:=b;exact⟨_,_,_,_,_,a,c⟩
 |slow dx bd kp wl sz a b c=>obtain⟨_,_,c,_,_⟩:=b;exact⟨_,_,_,_,_,a,c⟩
structure Cod1(H:Hp)(pc pk pd one qp qo:Addr)(n:Str)(b:V)(ps:lS)(os:List Bool):Prop where
 c:H pc=some (.tup [.ref pk,.ref pd])
 k:H pk=some (.tup [])
 d:H pd=some (.tup [.ref one])
 o:H one=some (.tup [.str n,.ref qp,.ref qo,b])
 p:H qp=some (.tup (ps.map V.str))
 w:H qo=some (.tup (os.map V.bl))
theorem Cod1.keep{pc pk pd one qp qo:Addr}{n:Str}{b:V}(h:Cod1 H pc pk pd one qp qo n b ps os)(t:Tups H H'):Cod1 H' pc pk pd one qp qo n b ps os:=⟨t _ _ h.c,t _ _ h.k,t _ _ h.d,t _ _ h.o,t _ _ h.p,t _ _ h.w⟩
inductive spMInit(A:Mc)(TA TB:Addr)(vs:List V)(H:Hp)(Q:VK)(e_3:XK):Prop
 |mk (x:Addr) (dx:Addr) (pc:Addr) (pk:Addr) (pd:Addr) (one:Addr) (qp:Addr) (qo:Addr) (al:Addr) (n:Str) (b:V) (ps:lS) (os:List Bool) (as:List Addr) (is:List Int) (st:Int) (sz:Int):(∃sr:Int,vs=[.ref x,.ref pc,.str n,.ref al,.int st,.int sz,.int sr]/\H x=some (.ins A.cM dx [])/\Cod1 H pc pk pd one qp qo n b ps os/\H al=some (.lst (as.map V.ref))/\as.length=is.length/\(∀(j:Nat) a i,as[j]?=some a->is[j]?=some i->H a=some (.lst [.int i])/\K31.Sm i)/\(ps.length=os.length/\ps.length=is.length/\ps.length<=100)/\TbG TA lsA H/\TbG TB lsB H/\∀H' (X:Mx) f0 dx0 hd0 ld0 td0 f dx' hd ld td v0,X.m=x->X.st=st->X.sr=sr->KE [x,TA,TB] H H'->TbG TA lsA H'->TbG TB lsB H'->H' X.m=some (X.O A .non)->X.E A H'->H X.fl=none->Beg A X b ps os (is.map V.int) H' f0 dx0 hd0 ld0 td0 f dx' hd ld td v0->BegN H f0 hd0 ld0 td0 f hd ld td->Ap X H' hd0->Ap X H' hd->Q .non H')->spMInit A TA TB vs H Q e_3
theorem scMInit:FnScope ["self","code","name","args","steps","size","stretch","values","one"] ["self","code","name","args","steps","size","stretch"] (zo wR):=⟨rfl,rfl,rfl,by decide +kernel,rfl,by decide +kernel,by decide +kernel⟩
theorem JK(F:FunM K "__init__" "Machine.__init__" wR D f fd)(N:MN K A.cM)(GY:Ca P w K mg base CX0 1 "by_name" ["defs"] spByN)(GB:Ca P w K mg base CX0 3 "begun_with" ["kinds","defs","name","args"] spBegunN)(GH:Ma P w K mg base CX0 3 "Heap" A.cH ["self","size"] (spHInit0 A.cR A.cH))(GS:Ma P w K mg base CX0 4 "SlowHeap" A.cS ["self","size"] (spSInit0 A.cR A.cS))(GG:Me P w K mg base CX0 6 A.cM "begin" ["self","one","values"] (spBegM A TA TB)):FnOk P w K mg base CX0 7 f fd ["self","code","name","args","steps","size","stretch"] (spMInit A TA TB):=by
 refine F.by scMInit (fun vs H Q E h=>?_) (fun cdv A' outer s H vs Q E hr h=>?_)
 ·obtain⟨x,dx,pc,pk,pd,one,qp,qo,al,n,b,ps,os,as,is,st,sz,sr,rfl,_⟩:=h
  rfl
 obtain⟨x,dx,pc,pk,pd,one,qp,qo,al,n,b,ps,os,as,is,st,sz,sr,rfl,hx,hC,hal,la,hA,⟨l1,l2,l3⟩,hTA,hTB,q⟩:=h;have r1:Room 1 _:=hr.mono (by decide);have r3:Room 3 _:=hr.mono (by decide);have r4:Room 4 _:=hr.mono (by decide);have r5:Room 5 _:=hr.mono (by decide);refine⟨_,
  (zj (zZ (jv 0) (zM GY r1 rfl zB (ja_c (zC K (jv 1)) zi)))
  (zj (zE (i:=7) scMInit.nd rfl (Or.inl rfl) (zM GB r3 rfl zB (ja_c (zC K (jv 1)) (ja_c (zr K (jv 0)) (ja_c (jv 2) (ja_c (jv 3) zi))))))
  (zj (zZ (jv 0) yx)
  (zj (yH PassesOwn.never rfl (Zd K (zC K (jv 1))) (zG (i:=8) scMInit.nd rfl (Or.inl rfl)) (zn (yy r1 (zr K (jv 0)) (zC K (jv 8)) (zC K (jv 8)))))
  (zj (zZ (jv 0) (jv 4))
  (zj (zZ (jv 0) zp)
  (zj (zZ (jv 0) (jv 6))
  (zj (zZ (jv 0) (yZ (zv z6 (jv 6) zp (zy _)) (vG GH r4 rfl zB (ja_c (jv 5) zi)) (vG GS r5 rfl zB (ja_c (jv 5) zi))))
  (zj (zZ (jv 0) (zU zi))
  (zj (zZ (jv 0) Vz)
  (zn (zP (yT (jv 0) N.cl GG hr zB (ja_c (yF r1 (zr K (jv 0)) (jv 2)) (ja_c (jv 7) zi))))))))))))))),?_⟩
 have sl:=ym;refine zf rfl (ixT hC.c (zq (j:=1) rfl) ⟨pd,one,n,(zf rfl ⟨hC.d,hC.o,fun H1 d s1 fd hd1=>zf rfl ⟨x,A.cM,dx,(zf rfl ⟨s1 _ _ hx,N.cl,N.n1,by show 0 < 1000;decide,?_⟩)⟩⟩)⟩);have nxd:x≠d:=fun z=>by rw[<- z,hx]at fd;cases fd
 have k2:KN x H (upd H1 x (.ins A.cM dx (putF "defs" (.ref d) []))):=(KN.of s1).put;have hx2:upd H1 x (.ins A.cM dx (putF "defs" (.ref d) [])) x=some (.ins A.cM dx [("defs",.ref d)]):=zg;have hd2:upd H1 x (.ins A.cM dx (putF "defs" (.ref d) [])) d=some (.dK [(.inr n,.ref one)]):=by rw[zh nxd.symm];exact hd1
 dsimp only[uR,L2.start]
 generalize upd H1 x (.ins A.cM dx (putF "defs" (.ref d) []))=H2 at *;have nx:∀{b:Addr}{u:HO},H b=some u->(u≠.ins A.cM dx [])->b≠x:=fun e n z=>by rw[z,hx]at e;exact n (uQ.inj e).symm
 have kt:∀{H'},KN x H H'->Tups H H':=fun k b xs e=>k _ _ (nx e (by intro z;cases z)) e;have kl:∀{H'}{b xs},KN x H H'->H b=some (.lst xs)->H' b=some (.lst xs):=fun k e=>k _ _ (nx e (by intro z;cases z)) e;have hC2:=hC.keep (kt k2);refine zf rfl (ixT hC2.c (zq (j:=0) rfl) (zf rfl ⟨x,A.cM,dx,_,_,rfl,hx2,N.cl,N.n1,rfl,zx rfl rfl ⟨pk,d,al,one,qp,n,_,ps,as,is,rfl,hC2.k,hd2,hC2.o,hC2.p,kl k2 hal,la,fun j a i h1 h2=>⟨kl k2 (hA j a i h1 h2).1,(hA j a i h1 h2).2⟩,l2,l3,fun H3 vl s3 fvl hvl=>?_⟩⟩));intro ow how;have k3:KN x H (upd H3 ow (.dK [])):=(k2.trans (KN.of s3)).new how;have hx4:upd H3 ow (.dK []) x=some (.ins A.cM dx [("defs",.ref d)]):=old how (s3 _ _ hx2);have hvl4:upd H3 ow (.dK []) vl=some (.lst (is.map V.int)):=old how hvl;have hd4:upd H3 ow (.dK []) d=some (.dK [(.inr n,.ref one)]):=old how (s3 _ _ hd2);have how4:=zg (H:=H3) (a:=ow) (o:=.dK []);have now:ow≠d:=(zk (s3 _ _ hd2) how).symm;have fow:H ow=none:=KN.free (k2.trans (KN.of s3)) (zk (s3 _ _ hx2) how).symm how;generalize upd H3 ow (.dK [])=H4 at *;have pk4:∀o,KN x H (upd H4 x o)/\upd H4 x o vl=some (.lst (is.map V.int))/\upd H4 x o d=some (.dK [(.inr n,.ref one)])/\upd H4 x o ow=some (.dK []):=fun o=>⟨k3.put,by rw[zh (fun z=>by rw[z,hx4]at hvl4;cases hvl4)];exact hvl4,by rw[zh (fun z=>by rw[z,hx4]at hd4;cases hd4)];exact hd4,by rw[zh (fun z=>by rw[z,hx4]at how4;cases how4)];exact how4⟩;refine zf rfl ⟨x,A.cM,dx,(zf rfl ⟨hx4,N.cl,N.n2,by show 1 < 1000;decide,?_⟩)⟩;obtain⟨k5,hvl5,hd5,how5⟩:=pk4 (.ins A.cM dx (putF "owns" (.ref ow) [("defs",.ref d)]));have hx5:upd H4 x (.ins A.cM dx (putF "owns" (.ref ow) [("defs",.ref d)])) x=some (.ins A.cM dx [("defs",.ref d),("owns",.ref ow)]):=zg;generalize upd H4 x (.ins A.cM dx (putF "owns" (.ref ow) [("defs",.ref d)]))=H5 at *;clear pk4;have hC5:=hC.keep (kt k5);refine zf rfl (ixT hC5.c (zq (j:=1) rfl) ⟨pd,rfl,⟨_,SqT.of hC5.d⟩,ve (xs:=[V.ref one]) (fun i σ H'=>(∀b u,b≠ow->H5 b=some u->H' b=some u)/\H' ow=some (.dK (if i=0 then[]else[(.inr n,.ref qo)]))/\∃v,σ=[sR x,sR pc,some (.str n),sR al,some (.int st),some (.int sz),some (.int sr),sR vl,v]) ⟨fun b u _ e=>e,how5,none,rfl⟩ (fun i σ H' _ h=>SqT.of (h.1 _ _ (fun z=>by rw[<- z,hC5.d]at how5;cases how5) hC5.d)) ?_ ?_⟩)
 ·rintro i v σ H6 hv ⟨k6,how6,u,rfl⟩
  match i,hv with
  |0,hv =>
   cases hv;have tu6:Tups H5 H6:=fun b xs e=>k6 _ _ (fun z=>by rw[z,how5]at e;cases e) e;have hC6:=hC5.keep tu6;have hx6:=k6 _ _ (fun z=>by rw[z,how5]at hx5;cases hx5) hx5;refine zf rfl (ixT hC6.o (zq (j:=2) rfl) (zf rfl ⟨x,A.cM,dx,_,_,rfl,hx6,N.cl,N.n2,rfl,zf rfl (ixT hC6.o (zq (j:=0) rfl) ⟨ow,(zf rfl ⟨DPut.k (k:=.inr n) how6 (by show 0 < sizeLine;lia),?_⟩)⟩)⟩));exact⟨fun b u n e=>by rw[zh n];exact k6 b u n e,zg,_,rfl⟩
  |i+1,hv=>simp at hv
 rintro σ H6 ⟨k6,how6,u8,rfl⟩;have k60:KN x H H6:=fun b u nb e=>k6 _ _ (zk e fow) (k5 b u nb e);have hx6:=k6 _ _ (fun z=>by rw[z,how5]at hx5;cases hx5) hx5;have hvl6:=k6 _ _ (fun z=>by rw[z,how5]at hvl5;cases hvl5) hvl5;have hd6:=k6 _ _ now.symm hd5;have nvx:vl≠x:=fun z=>by rw[z,hx6]at hvl6;cases hvl6
 have ndx:d≠x:=nxd.symm;refine zf rfl (zf rfl ⟨x,A.cM,dx,(zf rfl ⟨hx6,N.cl,N.n3,by show 2 < 1000;decide,?_⟩)⟩);have pk6:∀o,KN x H (upd H6 x o)/\upd H6 x o vl=some (.lst (is.map V.int))/\upd H6 x o d=some (.dK [(.inr n,.ref one)]):=fun o=>⟨k60.put,by rw[zh nvx];exact hvl6,by rw[zh ndx];exact hd6⟩;obtain⟨k7,hvl7,hd7⟩:=pk6 (.ins A.cM dx (putF "steps" (.int st) [("defs",.ref d),("owns",.ref ow)]));have hx7:upd H6 x (.ins A.cM dx (putF "steps" (.int st) [("defs",.ref d),("owns",.ref ow)])) x=some (.ins A.cM dx [("defs",.ref d),("owns",.ref ow),("steps",.int st)]):=zg;generalize upd H6 x (.ins A.cM dx (putF "steps" (.int st) [("defs",.ref d),("owns",.ref ow)]))=H7 at *;refine zf rfl ⟨x,A.cM,dx,(zf rfl ⟨hx7,N.cl,N.n4,by show 3 < 1000;decide,?_⟩)⟩;have pk7:∀o,KN x H (upd H7 x o)/\upd H7 x o vl=some (.lst (is.map V.int))/\upd H7 x o d=some (.dK [(.inr n,.ref one)]):=fun o=>⟨k7.put,by rw[zh nvx];exact hvl7,by rw[zh ndx];exact hd7⟩;obtain⟨k8,hvl8,hd8⟩:=pk7 (.ins A.cM dx (putF "done" (.int 0) [("defs",.ref d),("owns",.ref ow),("steps",.int st)]));have hx8:upd H7 x (.ins A.cM dx (putF "done" (.int 0) [("defs",.ref d),("owns",.ref ow),("steps",.int st)])) x=some (.ins A.cM dx [("defs",.ref d),("owns",.ref ow),("steps",.int st),("done",.int 0)]):=zg;generalize upd H7 x (.ins A.cM dx (putF "done" (.int 0) [("defs",.ref d),("owns",.ref ow),("steps",.int st)]))=H8 at *;refine zx rfl rfl ⟨x,A.cM,dx,(zf rfl ⟨hx8,N.cl,N.n5,by show 4 < 1000;decide,?_⟩)⟩;have pk8:∀o,KN x H (upd H8 x o)/\upd H8 x o vl=some (.lst (is.map V.int))/\upd H8 x o d=some (.dK [(.inr n,.ref one)]):=fun o=>⟨k8.put,by rw[zh nvx];exact hvl8,by rw[zh ndx];exact hd8⟩;obtain⟨k9,hvl9,hd9⟩:=pk8 (.ins A.cM dx (putF "stretch" (.int sr) [("defs",.ref d),("owns",.ref ow),("steps",.int st),("done",.int 0)]));have hx9:upd H8 x (.ins A.cM dx (putF "stretch" (.int sr) [("defs",.ref d),("owns",.ref ow),("steps",.int st),("done",.int 0)])) x=some (.ins A.cM dx [("defs",.ref d),("owns",.ref ow),("steps",.int st),("done",.int 0),("stretch",.int sr)]):=zg;generalize upd H8 x (.ins A.cM dx (putF "stretch" (.int sr) [("defs",.ref d),("owns",.ref ow),("steps",.int st),("done",.int 0)]))=H9 at *;clear pk6 pk7 pk8;refine zf rfl ⟨rfl,(zf rfl (JJ (fun Q'=>∀H10 (hp C:Addr),Same H9 H10->HpE A.cH A.cS A.cR H10 hp C->Q' (.ref hp) H10) (fun Q' m=>?_) (fun Q' m=>?_) ?_))⟩
 ·refine zf rfl fun hp dxh f1 f2 nn=>?_
  refine⟨hp,dxh,sz,rfl,zg,fun H10 bd kp k e1 e2=>⟨rfl,m H10 hp A.cH (fun b u e=>?_) (.plain dxh bd kp sz e1 e2)⟩⟩;have nb:=zk e f1;exact k b u nb (by rw[zh nb,zh (zk e f2)];exact e)
 ·refine zf rfl fun hp dxh f1 f2 nn=>?_
  refine⟨hp,dxh,sz,rfl,zg,fun H10 bd kp wl k e1 e2 e3=>⟨rfl,m H10 hp A.cS (fun b u e=>?_) (.slow dxh bd kp wl sz e1 e2 e3)⟩⟩;have nb:=zk e f1;exact k b u nb (by rw[zh nb,zh (zk e f2)];exact e)
 intro H10 hp C s10 hE;have k10:=k9.trans (KN.of s10);have hx10:=s10 _ _ hx9;have pk10:∀o,KN x H (upd H10 x o)/\upd H10 x o vl=some (.lst (is.map V.int))/\upd H10 x o d=some (.dK [(.inr n,.ref one)])/\KE [x,TA,TB] H10 (upd H10 x o):=fun o=>⟨k10.put,by rw[zh nvx];exact s10 _ _ hvl9,by rw[zh ndx];exact s10 _ _ hd9,KE.refl.put (by simp)⟩;refine zf rfl ⟨x,A.cM,dx,(zf rfl ⟨hx10,N.cl,N.n6,by show 5 < 1000;decide,?_⟩)⟩;obtain⟨k11,hvl11,hd11,e11⟩:=pk10 (.ins A.cM dx (putF "heap" (.ref hp) [("defs",.ref d),("owns",.ref ow),("steps",.int st),("done",.int 0),("stretch",.int sr)]));have hx11:upd H10 x (.ins A.cM dx (putF "heap" (.ref hp) [("defs",.ref d),("owns",.ref ow),("steps",.int st),("done",.int 0),("stretch",.int sr)])) x=some (.ins A.cM dx [("defs",.ref d),("owns",.ref ow),("steps",.int st),("done",.int 0),("stretch",.int sr),("heap",.ref hp)]):=zg;generalize upd H10 x (.ins A.cM dx (putF "heap" (.ref hp) [("defs",.ref d),("owns",.ref ow),("steps",.int st),("done",.int 0),("stretch",.int sr)]))=H11 at *;refine⟨by show 0<=sizeLine;exact uU _,fun fl f1=>?_⟩;have nfx:fl≠x:=(zk hx11 f1).symm;have ffl:H fl=none:=KN.free k11 nfx f1;have f10:H10 fl=none:=by
  cases c:H10 fl with
  |none=>rfl
  |some u =>
   have T10:∀{T ls},TbG T ls H->fl≠T:=fun h z=>by
    obtain⟨ps,hT,_⟩:=h;rw[<- z,ffl]at hT;cases hT
   rw[e11 _ _ (by simp only[uh,uL,or_false,not_or];exact⟨nfx,T10 hTA,T10 hTB⟩) c]at f1;cases f1
 have s12:=same_new f1 (.lst []);have fl12:=zg (H:=H11) (a:=fl) (o:=.lst []);have nvf:vl≠fl:=zk hvl11 f1;have ndf:d≠fl:=zk hd11 f1;have e12:=e11.trans (KE.of s12);have k12:=k11.trans (KN.of s12);have hx12:=s12 _ _ hx11;have hvl12:=s12 _ _ hvl11;have hd12:=s12 _ _ hd11;dsimp only[List.map]at *
 generalize upd H11 fl (.lst [])=H12 at *;refine zf rfl ⟨x,A.cM,dx,(zf rfl ⟨hx12,N.cl,N.n7,by show 6 < 1000;decide,?_⟩)⟩;have pk12:∀o,KN x H (upd H12 x o)/\upd H12 x o vl=some (.lst (is.map V.int))/\upd H12 x o d=some (.dK [(.inr n,.ref one)])/\KE [x,TA,TB] H10 (upd H12 x o)/\upd H12 x o fl=some (.lst []):=fun o=>⟨k12.put,by rw[zh nvx];exact hvl12,by rw[zh ndx];exact hd12,e12.put (by simp),by rw[zh nfx];exact fl12⟩;obtain⟨k13,hvl13,hd13,e13,fl13⟩:=pk12 (.ins A.cM dx (putF "frames" (.ref fl) [("defs",.ref d),("owns",.ref ow),("steps",.int st),("done",.int 0),("stretch",.int sr),("heap",.ref hp)]));have hx13:upd H12 x (.ins A.cM dx (putF "frames" (.ref fl) [("defs",.ref d),("owns",.ref ow),("steps",.int st),("done",.int 0),("stretch",.int sr),("heap",.ref hp)])) x=some (.ins A.cM dx [("defs",.ref d),("owns",.ref ow),("steps",.int st),("done",.int 0),("stretch",.int sr),("heap",.ref hp),("frames",.ref fl)]):=zg;generalize upd H12 x (.ins A.cM dx (putF "frames" (.ref fl) [("defs",.ref d),("owns",.ref ow),("steps",.int st),("done",.int 0),("stretch",.int sr),("heap",.ref hp)]))=H13 at *;refine zf rfl ⟨x,A.cM,dx,(zf rfl ⟨hx13,N.cl,N.n8,by show 7 < 1000;decide,?_⟩)⟩;have k14:KN x H (upd H13 x (.ins A.cM dx (putF "end" .non [("defs",.ref d),("owns",.ref ow),("steps",.int st),("done",.int 0),("stretch",.int sr),("heap",.ref hp),("frames",.ref fl)]))):=k13.put;have hvl14:upd H13 x (.ins A.cM dx (putF "end" .non [("defs",.ref d),("owns",.ref ow),("steps",.int st),("done",.int 0),("stretch",.int sr),("heap",.ref hp),("frames",.ref fl)])) vl=some (.lst (is.map V.int)):=by rw[zh nvx];exact hvl13
 have hd14:upd H13 x (.ins A.cM dx (putF "end" .non [("defs",.ref d),("owns",.ref ow),("steps",.int st),("done",.int 0),("stretch",.int sr),("heap",.ref hp),("frames",.ref fl)])) d=some (.dK [(.inr n,.ref one)]):=by rw[zh ndx];exact hd13
 have fl14:upd H13 x (.ins A.cM dx (putF "end" .non [("defs",.ref d),("owns",.ref ow),("steps",.int st),("done",.int 0),("stretch",.int sr),("heap",.ref hp),("frames",.ref fl)])) fl=some (.lst []):=by rw[zh nfx];exact fl13
 have e14:KE [x,TA,TB] H10 (upd H13 x (.ins A.cM dx (putF "end" .non [("defs",.ref d),("owns",.ref ow),("steps",.int st),("done",.int 0),("stretch",.int sr),("heap",.ref hp),("frames",.ref fl)]))):=e13.put (by simp);have hx14:upd H13 x (.ins A.cM dx (putF "end" .non [("defs",.ref d),("owns",.ref ow),("steps",.int st),("done",.int 0),("stretch",.int sr),("heap",.ref hp),("frames",.ref fl)])) x=some ((⟨x,dx,d,ow,hp,fl,st,sr⟩:Mx).O A .non):=zg;generalize upd H13 x (.ins A.cM dx (putF "end" .non [("defs",.ref d),("owns",.ref ow),("steps",.int st),("done",.int 0),("stretch",.int sr),("heap",.ref hp),("frames",.ref fl)]))=H14 at *;clear pk12;have tb:∀{T ls H'},KN x H H'->TbG T ls H->TbG T ls H':=fun k h=>h.keep (fun ps e=>k _ _ (nx e (by intro z;cases z)) e) fun c q e=>k _ _ (nx e (by intro z;unfold CodO at z;cases z)) e;have hC14:=hC.keep (kt k14);have gd:DGet H14 d (V.str n) (some (.ref one)):=by
  have e:valV [((.inr n:Key),(V.ref one))] (.inr n)=some (.ref one):=yh rfl;rw[<- e];exact DGet.k (k:=.inr n) hd14
 refine zf rfl ⟨x,dx,(zf rfl ⟨hx14,rfl,zf rfl ⟨x,A.cM,dx,_,_,rfl,hx14,N.cl,N.n1,rfl,zf rfl ⟨d,(zf rfl ⟨gd,zf rfl ⟨⟨x,dx,d,ow,hp,fl,st,sr⟩,one,vl,qp,qo,n,b,ps,os,is,rfl,hx14,fl14,nvf,hC14.o,hC14.p,hC14.w,hvl14,⟨l1,l2,uy l3 (by decide)⟩,tb k14 hTA,tb k14 hTB,fun H' f0 dx0 hd0 ld0 td0 f dx' hd ld td v0 k15 TA' TB' hB hN=>?_⟩⟩)⟩⟩⟩)⟩;have nlt:∀{T ls},TbG T ls H14->fl≠T:=fun h=>yk h fl14 (by intro _ z;cases z);have xnt:∀{T ls},TbG T ls H14->x≠T:=fun h=>yk h hx14 (by intro _ z;unfold Mx.O at z;cases z);have kH:∀{b u},b≠x->b≠TA->b≠TB->H10 b=some u->H' b=some u:=fun{b u} n1 n2 n3 e=>k15 b u (by simp only[uh,uL,or_false,not_or];exact⟨zk e f10,n2,n3⟩) (e14 b u (by simp only[uh,uL,or_false,not_or];exact⟨n1,n2,n3⟩) e);have eH:KE [x,TA,TB] H10 H':=fun b u n e=>by
  simp only[uh,uL,or_false,not_or]at n
  exact kH n.1 n.2.1 n.2.2 e
 have hx':H' x=some ((⟨x,dx,d,ow,hp,fl,st,sr⟩:Mx).O A .non):=k15 _ _ (by simp only[uh,uL,or_false,not_or];exact⟨nfx.symm,xnt (tb k14 hTA),xnt (tb k14 hTB)⟩) hx14;have E':HpE A.cH A.cS A.cR H' hp C:=zbA hE hx10 (tb k10 hTA) (tb k10 hTB) eH;have fr:∀{b},H14 b=none->H b=none:=fun{b} e=>KN.free k14 (fun z=>by rw[z,hx14]at e;cases e) e;have apx:∀a,H14 a=none->Ap ⟨x,dx,d,ow,hp,fl,st,sr⟩ H' a:=fun a ha C' dx' sz' bd kp ext e z=>by
  obtain⟨_,_,bd',_,_,g1,g2⟩:=zdH (zbA hE hx10 (tb k10 hTA) (tb k10 hTB) e14);have nh:∀C dx sz bd kp ext ps,HpO C dx sz bd kp ext≠.tbl ps:=fun C dx sz bd kp ext ps z=>by unfold HpO at z;cases z
  have g3:=k15 _ _ (by
   simp only[uh,uL,or_false,not_or]
   exact⟨fun z=>absurd (show some (HO.lst [])=some (HpO _ _ _ _ _ _)from by rw[<- fl14,<- z];exact g1) (fun z=>by unfold HpO at z;cases z),yk (tb k14 hTA) g1 (nh _ _ _ _ _ _),yk (tb k14 hTB) g1 (nh _ _ _ _ _ _)⟩) g1
  have e:H' hp=some (HpO C' dx' sz' bd kp ext):=e;rw[g3]at e;unfold HpO at e;injection e with e
  injection e with _ _ e
  injection e with _ e
  injection e with _ e
  injection e with _ e
  injection e with _ e
  injection e with e _
  injection e with _ e
  injection e with e
  rw[<- z,<- e,g2]at ha;cases ha
 refine q H' ⟨x,dx,d,ow,hp,fl,st,sr⟩ f0 dx0 hd0 ld0 td0 f dx' hd ld td v0 rfl rfl rfl ?_ TA' TB' hx' ⟨C,E'⟩ ffl hB ⟨⟨fr hN.n0.h,fr hN.n0.l,fr hN.n0.t,hN.n0.n1,hN.n0.n2,hN.n0.n3⟩,⟨fr hN.n1.h,fr hN.n1.l,fr hN.n1.t,hN.n1.n1,hN.n1.n2,hN.n1.n3⟩,fr hN.e0,fr hN.e1,hN.ff,hN.a⟩ (apx _ hN.n0.h) (apx _ hN.n1.h);intro b' u n e;simp only[uh,uL,or_false,not_or]at n
 exact kH n.1 n.2.1 n.2.2 (k10 _ _ n.1 e)
end
theorem JL(K:ua):Ud K (.type "str") (.type "int")=some false:=by rfl
theorem JM(K:ua):Ud K (.type "str") (.type "bool")=some false:=by rfl
theorem Y6(K:ua):Ud K (.type "int") (.type "int")=some true:=by rfl
theorem Y7(K:ua):Ud K (.type "int") (.type "bool")=some false:=by rfl
theorem JN(K:ua):Ud K (.type "int") (.type "str")=some false:=by rfl
theorem JO(K:ua):Ud K (.type "list") (.type "list")=some true:=by rfl
theorem JP(K:ua):Ud K (.type "list") (.type "tuple")=some false:=by rfl
theorem JQ(K:ua):Ud K (.type "tuple") (.type "list")=some false:=by rfl
theorem JR(K:ua):Ud K (.type "str") (.type "str")=some true:=by rfl
theorem JS(K:ua):Ud K (.type "tuple") (.type "tuple")=some true:=by rfl
theorem JT(K:ua):Ud K (.type "bool") (.type "int")=some true:=by rfl
theorem JU(K:ua):Ud K (.type "bool") (.type "bool")=some true:=by rfl
theorem JV(K:ua):Ud K (.type "bool") (.type "str")=some false:=by rfl
structure BtA(mg:Str->Option Value):Prop where
 isi:mg "isinstance"=none
 list:mg "list"=none
 tuple:mg "tuple"=none
 len:mg "len"=none
 str:mg "str"=none
 int:mg "int"=none
 bool:mg "bool"=none
 all:mg "all"=none
 zip:mg "zip"=none
def Alk:Nat->Hp->V->V->Prop
 |0,_,_,_=>False
 |n+1,H,x,y=>(∃i,x=.bl i/\y=.bl i)\/(∃i,x=.int i/\y=.int i)\/(∃z,x=.str z/\y=.str z)\/∃a b xs ys,x=.ref a/\y=.ref b/\((H a=some (.lst xs)/\H b=some (.lst ys))\/(H a=some (.tup xs)/\H b=some (.tup ys)))/\xs.length=ys.length/\xs.length<=1000 /\
   ∀(i:Nat) u v,xs[i]?=some u->ys[i]?=some v->Alk n H u v
theorem Alk.same:∀{n:Nat}{H H':Hp}{x y:V},Alk n H x y->Same H H'->Alk n H' x y
 |0,_,_,_,_,h,_=>h.elim
 |n+1,H,H',x,y,h,s=>by
  rcases h with⟨i,a,b⟩|⟨i,a,b⟩|⟨z,a,b⟩|⟨a,b,xs,ys,e1,e2,h,l1,l2,r⟩
  ·exact .inl ⟨i,a,b⟩
  ·exact .inr (.inl ⟨i,a,b⟩)
  ·exact .inr (.inr (.inl ⟨z,a,b⟩))
  ·exact .inr (.inr (.inr ⟨a,b,xs,ys,e1,e2,h.elim (fun c=>.inl ⟨s _ _ c.1,s _ _ c.2⟩) (fun c=>.inr ⟨s _ _ c.1,s _ _ c.2⟩),l1,l2,fun i u v h1 h2=>(r i u v h1 h2).same s⟩))
theorem Alk.bl(b:Bool):Alk (n+1) H (.bl b) (.bl b):=.inl ⟨b,rfl,rfl⟩
theorem Alk.int(i:Int):Alk (n+1) H (.int i) (.int i):=.inr (.inl ⟨i,rfl,rfl⟩)
theorem Alk.str(z:Str):Alk (n+1) H (.str z) (.str z):=.inr (.inr (.inl ⟨z,rfl,rfl⟩))
def xW(n:Nat):Sp:=fun vs H Q _=>∃x y,vs=[x,y]/\Alk n H x y/\∀H',Same H H'->Q (.bl true) H'
section
variable{K:ua}
theorem zaR:FnScope ["_law_found","_law_due"] ["_law_found","_law_due"] (zo vZ):=⟨rfl,rfl,rfl,by decide +kernel,rfl,by decide +kernel,by decide +kernel⟩
theorem X1:(["_law_found","_law_due","_law_one","_law_other"]:lS).Nodup:=by decide +kernel
theorem JW(F:Fun K "_law_alike" "_law_alike" vZ f fd)(T:BtA mg)(GA:Ca P w K mg base CX0 n "_law_alike" ["_law_found","_law_due"] (xW n)):FnOk P w K mg base CX0 (n+1) f fd ["_law_found","_law_due"] (xW (n+1)):=by
 refine F.by zaR (fun vs H Q E h=>?_) (fun cdv A' outer s H vs Q E hr h=>?_)
 ·obtain⟨x,y,rfl,_⟩:=h
  rfl
 obtain⟨x,y,rfl,ha,q⟩:=h;refine⟨_,
  (zj (zK (z7 (zJ zas rfl T.isi uq (ja_c (jv 1) (ja_c (zT (ja_c (z5 (v:=.ty "list") rfl T.list u5 rfl) (ja_c (z5 (v:=.ty "tuple") rfl T.tuple Uq rfl) zi))) zi))))
   (zj (zK (jW.pt (xE (zv xZ (zJ zS rfl T.isi uq (ja_c (jv 0) (ja_c (z5 (v:=.ty "list") rfl T.list u5 rfl) zi))) (zJ zS rfl T.isi uq (ja_c (jv 1) (ja_c (z5 (v:=.ty "list") rfl T.list u5 rfl) zi))) (by with_unfolding_all rfl)) (xD (zv xZ (zJ zS rfl T.isi uq (ja_c (jv 0) (ja_c (z5 (v:=.ty "tuple") rfl T.tuple Uq rfl) zi))) (zJ zS rfl T.isi uq (ja_c (jv 1) (ja_c (z5 (v:=.ty "tuple") rfl T.tuple Uq rfl) zi))) (by with_unfolding_all rfl)))))
    (zn (zw xn))  zD)
   (zn (zw (xG (yB z6 (zJ y0 rfl T.len uV (ja_c (jv 0) zi)) (zJ y0 rfl T.len uV (ja_c (jv 1) zi)) (by with_unfolding_all rfl)) (xF (zJ (wv rfl) rfl T.all PyProof.Rows.boot_all (ja_c (xa ["_law_one","_law_other"] rfl (VO rfl T.zip (ja_c (jv 0) (ja_c (jv 1) zi))) (fun _ _ _ _ _=>(xb K (n:=2) rfl (zV (zG (i:=2) X1 rfl (Or.inl rfl)) (zV (zG (i:=3) X1 rfl (Or.inl rfl)) yV)))) (fun _ _ _ _ _=>yC) (fun _ _ _ _ _=>(zM GA hr rfl zB (ja_c (jv 2) (ja_c (jv 3) zi))))) zi)))))))  zD)
  (zj (zK (jW.pt (xE (zv xZ (zJ zS rfl T.isi uq (ja_c (jv 0) (ja_c (z5 (v:=.ty "int") rfl T.int Up rfl) zi))) (zJ zS rfl T.isi uq (ja_c (jv 1) (ja_c (z5 (v:=.ty "int") rfl T.int Up rfl) zi))) (by with_unfolding_all rfl)) (xD (zv xZ (zJ zS rfl T.isi uq (ja_c (jv 0) (ja_c (z5 (v:=.ty "bool") rfl T.bool UI rfl) zi))) (zJ zS rfl T.isi uq (ja_c (jv 1) (ja_c (z5 (v:=.ty "bool") rfl T.bool UI rfl) zi))) (by with_unfolding_all rfl)))))
   (zn (zw xn))  zD)
  (zn (zw (xG (yB z6 (zJ zS rfl T.isi uq (ja_c (jv 0) (ja_c (z5 (v:=.ty "str") rfl T.str PyProof.Rows.boot_str rfl) zi))) (zJ zS rfl T.isi uq (ja_c (jv 1) (ja_c (z5 (v:=.ty "str") rfl T.str PyProof.Rows.boot_str rfl) zi))) (by with_unfolding_all rfl)) (xF (yB z6 (jv 0) (jv 1) (by with_unfolding_all rfl)))))))),?_⟩
 have sl:=ym;refine(zf rfl ⟨by show 2<=sizeLine;lia,fun tp htp=>?_⟩);have s1:=same_new htp (.tup [.ty "list",.ty "tuple"]);rcases ha with⟨i,rfl,rfl⟩|⟨i,rfl,rfl⟩|⟨z,rfl,rfl⟩|⟨a,b,xs,ys,rfl,rfl,hab,hlen,h1000,r⟩
 ·refine⟨_,tp,(zf rfl ⟨zg,.bl i,(zf rfl (iteF ?_))⟩)⟩
  refine(zf rfl ⟨_,_,_,_,rfl,.bl i,JT _,(zf rfl ⟨_,_,_,_,rfl,.bl i,JT _,rfl,(zf rfl (iteF ?_))⟩)⟩);refine(zf rfl ⟨_,_,_,_,rfl,.bl i,JU _,(zf rfl ⟨_,_,_,_,rfl,.bl i,JU _,rfl,(zf rfl (iteF ?_))⟩)⟩);refine(zf rfl ⟨_,_,_,_,rfl,.bl i,JV _,(zf rfl ⟨_,_,_,_,rfl,.bl i,JV _,rfl,(zf rfl (iteT ?_))⟩)⟩);refine(zf rfl (zf rfl ⟨by simp[scal],?_⟩))
  have:=q _ s1
  simpa using this
 ·refine⟨_,tp,(zf rfl ⟨zg,.int i,(zf rfl (iteF ?_))⟩)⟩
  refine(zf rfl ⟨_,_,_,_,rfl,.int i,Y6 _,(zf rfl ⟨_,_,_,_,rfl,.int i,Y6 _,rfl,(zf rfl (iteF ?_))⟩)⟩);refine(zf rfl ⟨_,_,_,_,rfl,.int i,Y7 _,(zf rfl ⟨_,_,_,_,rfl,.int i,Y7 _,rfl,(zf rfl (iteF ?_))⟩)⟩);refine(zf rfl ⟨_,_,_,_,rfl,.int i,JN _,(zf rfl ⟨_,_,_,_,rfl,.int i,JN _,rfl,(zf rfl (iteT ?_))⟩)⟩);refine(zf rfl (zf rfl ⟨by simp[scal],?_⟩))
  have:=q _ s1
  simpa using this
 ·refine⟨_,tp,(zf rfl ⟨zg,.str z,(zf rfl (iteF ?_))⟩)⟩
  refine(zf rfl ⟨_,_,_,_,rfl,.str z,JL _,(zf rfl ⟨_,_,_,_,rfl,.str z,JL _,rfl,(zf rfl (iteF ?_))⟩)⟩);refine(zf rfl ⟨_,_,_,_,rfl,.str z,JM _,(zf rfl ⟨_,_,_,_,rfl,.str z,JM _,rfl,(zf rfl (iteF ?_))⟩)⟩);refine(zf rfl ⟨_,_,_,_,rfl,.str z,JR _,(zf rfl ⟨_,_,_,_,rfl,.str z,JR _,rfl,(zf rfl (iteT ?_))⟩)⟩);refine(zf rfl (zf rfl ⟨by simp[scal],?_⟩))
  have:=q _ s1
  simpa using this
 ·rcases hab with⟨h1,h2⟩|⟨h1,h2⟩
  ·refine⟨_,tp,(zf rfl ⟨zg,.lst (s1 _ _ h2),(zf rfl (iteT ?_))⟩)⟩
   refine(zf rfl ⟨_,_,_,_,rfl,.lst (s1 _ _ h1),JO _,(zf rfl ⟨_,_,_,_,rfl,.lst (s1 _ _ h2),JO _,rfl,(zf rfl (iteF ?_))⟩)⟩);refine(zf rfl ⟨_,_,_,_,rfl,.lst (s1 _ _ h1),JP _,(zf rfl ⟨_,_,_,_,rfl,.lst (s1 _ _ h2),JP _,rfl,(zf rfl (iteF ?_))⟩)⟩);refine(zf rfl ⟨a,xs,rfl,.inl (SqL.of (s1 _ _ h1)),(zf rfl ⟨b,ys,rfl,.inl (SqL.of (s1 _ _ h2)),rfl,(zf rfl ?_)⟩)⟩);refine ite2 (fun _=>?_) (fun c=>absurd (by rw[hlen];exact decide_eq_true rfl) c);refine(zf rfl (zf rfl ⟨a,b,true,true,xs,ys,rfl,SqK.l (s1 _ _ h1),SqK.l (s1 _ _ h2),YR (xs:=xs) (ys:=ys) hlen (fun i τ zs H'=>(∃va vb,τ=[sR a,sR b,va,vb])/\Same H H'/\zs=uG i (V.bl true)) ⟨⟨_,_,rfl⟩,s1,rfl⟩ ?_ ?_ ?_⟩))
   ·rintro i τ zs H' hi ⟨_,sm,_⟩
    exact⟨SqK.l (sm _ _ h1),SqK.l (sm _ _ h2)⟩
   ·rintro i x y T' τ zs H' hx hy hT ⟨⟨va,vb,rfl⟩,sm,rfl⟩
    refine⟨T',[x,y],rfl,SqT.of zg,rfl,?_⟩;refine⟨x,[y],rfl,y,[],rfl,rfl,(zf rfl (zf rfl ⟨x,y,rfl,(r i x y hx hy).same (sm.new hT),fun H2 s2=>⟨?_,⟨_,_,rfl⟩,(sm.new hT).trans s2,?_⟩⟩))⟩
    ·rw[Ug]
     have:=(ud.mp hx).1
     lia
    ·rw[U4]
   ·rintro τ zs H' ⟨_,sm,rfl⟩ p hp
    refine⟨p,uG xs.length true,rfl,SqL.of (by rw[zg,List.map_replicate]),?_⟩;rw[show(uG xs.length true).all _root_.id=true by simp];exact q _ (sm.new hp)
  ·refine⟨_,tp,(zf rfl ⟨zg,.tup (s1 _ _ h2),(zf rfl (iteT ?_))⟩)⟩
   refine(zf rfl ⟨_,_,_,_,rfl,.tup (s1 _ _ h1),JQ _,(zf rfl ⟨_,_,_,_,rfl,.tup (s1 _ _ h2),JQ _,rfl,(zf rfl (iteF ?_))⟩)⟩);refine(zf rfl ⟨_,_,_,_,rfl,.tup (s1 _ _ h1),JS _,(zf rfl ⟨_,_,_,_,rfl,.tup (s1 _ _ h2),JS _,rfl,(zf rfl (iteF ?_))⟩)⟩);refine(zf rfl ⟨a,xs,rfl,.inr (SqT.of (s1 _ _ h1)),(zf rfl ⟨b,ys,rfl,.inr (SqT.of (s1 _ _ h2)),rfl,(zf rfl ?_)⟩)⟩);refine ite2 (fun _=>?_) (fun c=>absurd (by rw[hlen];exact decide_eq_true rfl) c);refine(zf rfl (zf rfl ⟨a,b,false,false,xs,ys,rfl,SqK.t (s1 _ _ h1),SqK.t (s1 _ _ h2),YR (xs:=xs) (ys:=ys) hlen (fun i τ zs H'=>(∃va vb,τ=[sR a,sR b,va,vb])/\Same H H'/\zs=uG i (V.bl true)) ⟨⟨_,_,rfl⟩,s1,rfl⟩ ?_ ?_ ?_⟩))
   ·rintro i τ zs H' hi ⟨_,sm,_⟩
    exact⟨SqK.t (sm _ _ h1),SqK.t (sm _ _ h2)⟩
   ·rintro i x y T' τ zs H' hx hy hT ⟨⟨va,vb,rfl⟩,sm,rfl⟩
    refine⟨T',[x,y],rfl,SqT.of zg,rfl,?_⟩;refine⟨x,[y],rfl,y,[],rfl,rfl,(zf rfl (zf rfl ⟨x,y,rfl,(r i x y hx hy).same (sm.new hT),fun H2 s2=>⟨?_,⟨_,_,rfl⟩,(sm.new hT).trans s2,?_⟩⟩))⟩
    ·rw[Ug]
     have:=(ud.mp hx).1
     lia
    ·rw[U4]
   ·rintro τ zs H' ⟨_,sm,rfl⟩ p hp
    refine⟨p,uG xs.length true,rfl,SqL.of (by rw[zg,List.map_replicate]),?_⟩;rw[show(uG xs.length true).all _root_.id=true by simp];exact q _ (sm.new hp)
end
end GN
namespace L2
open PySem PySem.Spec PyProof.Rows
def zbB:R2:=fun x y H Q=>∃b c,x=.bl b/\y=.bl c/\Q (.bl (!decide (b=c))) H
theorem zaS:OpR X (compareOp .IsNot) zbB:=by
 intro pins s σ H x y v u Q I rx ry h;obtain⟨b,c,rfl,rfl,q⟩:=h;cases rx;cases ry;refine wpAny_isNot_plain rfl ⟨.bl (!decide (b=c)),H,I,?_,q⟩;cases b<;>cases c<;>rfl
theorem zaT:jOp X (compareOp .IsNot) zbB:=⟨zaS⟩
end L2
namespace GN
open PySem L2 K11
variable{o:Int ⊕ Str}{A:Mc}
def xX(cH cS cR C:Addr):Sp:=fun vs H Q _=>∃hp:Addr,vs=[.ref hp]/\HpE cH cS cR H hp C/\∀H' l,Same H H'->H l=none->H' l=some (.lst [])->Q (.ref l) H'
theorem ZH{hp:Addr}(h:HpE cH cS cR H hp C):∃dx sz bd kp ext,H hp=some (HpO C dx sz bd kp ext)/\HpI cR H bd kp:=by
 cases h with
 |plain dx bd kp sz a b=>exact⟨_,_,_,_,_,a,b⟩
 |slow dx bd kp wl sz a b c=>exact⟨_,_,_,_,_,a,b⟩
section
variable{K:ua}
theorem scBoxes:FnScope ["self","found","at","box"] ["self"] (zo Zm):=⟨rfl,rfl,rfl,by decide +kernel,rfl,by decide +kernel,by decide +kernel⟩
theorem jN(F:Fun K "boxes" "Heap.boxes" Zm f fd)(N:HcN K C)(m_sorted:mg "sorted"=none):FnOk P w K mg base CX0 1 f fd ["self"] (xX cH cS cR C):=by
 refine F.by scBoxes (fun vs H Q E h=>?_) (fun cdv A' outer s H vs Q E hr h=>?_)
 ·obtain⟨hp,rfl,_⟩:=h
  rfl
 obtain⟨hp,rfl,hE,q⟩:=h;refine⟨_,(zj (zE (i:=1) scBoxes.nd rfl (Or.inl rfl) (zU zi))
  (zj (yH PassesOwn.never rfl (xp K (zJ (Ja rfl) rfl m_sorted PyProof.Rows.boot_sorted (ja_c (zr K (jv 0)) zi))) (zG (i:=2) scBoxes.nd rfl (Or.inl rfl))
   (zj zN (zn zN)))
  (zn (zw (jv 1))))),?_⟩
 have sl:=ym;obtain⟨dx,sz,bd,kp,ext,h1,⟨dxr,nl,h2,h3,h4⟩⟩:=ZH hE;refine⟨by show 0<=sizeLine;lia,fun l hl=>?_⟩;have s1:Same H (upd H l (.lst [])):=same_new hl _;have hl1:=zg (H:=H) (a:=l) (o:=.lst []);dsimp only[List.map,uR,L2.start]
 generalize upd H l (.lst [])=H1 at *;refine zf rfl ⟨hp,C,_,_,_,rfl,s1 _ _ h1,N.cl,N.n5,rfl,bd,[],[],rfl,s1 _ _ h2,rfl,by decide,fun k ns' hk pm ps=>?_⟩;obtain rfl:=List.Perm.eq_nil pm;have s2:=s1.new (o:=.lst []) hk;refine⟨k,rfl,⟨[],SqL.of zg⟩,vw (K:=K) (xs:=[]) (fun i σ H'=>Same H H'/\H' k=some (.lst [])/\H' l=some (.lst [])/\∃a b,σ=[sR hp,sR l,a,b]) ⟨s2,zg,old hk hl1,none,none,rfl⟩ (fun i σ H' _ h=>SqL.of h.2.1) (fun i v σ H' hv _=>by simp at hv) ?_⟩;rintro σ H' ⟨s3,_,hl3,a,b,rfl⟩;exact zf rfl (q _ l s3 hl hl3)
theorem WZ:FnScope ["self"] ["self"] (zo wD):=⟨rfl,rfl,rfl,by decide +kernel,rfl,by decide +kernel,by decide +kernel⟩
theorem Yj(F:Fun K "keeping" "Heap.keeping" wD f fd)(N:HcN K C)(NR:RcN K cR)(m_list:mg "list"=none):FnOk P w K mg base CX0 1 f fd ["self"] (xX cH cS cR C):=by
 refine F.by WZ (fun vs H Q E h=>?_) (fun cdv A' outer s H vs Q E hr h=>?_)
 ·obtain⟨hp,rfl,_⟩:=h
  rfl
 obtain⟨hp,rfl,hE,q⟩:=h;refine⟨_,(zn (zw (yu (w9 K) rfl m_list u5 (ja_c (zr K (zr K (jv 0))) zi)))),?_⟩;obtain⟨dx,sz,bd,kp,ext,h1,⟨dxr,nl,h2,h3,h4⟩⟩:=ZH hE;exact zf rfl ⟨hp,C,_,_,_,rfl,h1,N.cl,N.n6,rfl,kp,cR,_,_,_,rfl,h3,NR.cl,NR.n1,rfl,nl,[],rfl,.inl (SqL.of h4),fun l hl=>q _ l (same_new hl _) hl zg⟩
end
def EndD(A:Mc)(X:Mx)(H:Hp)(o:Int ⊕ Str):Prop:=match o with
 |.inl i=>∃tp l,H X.m=some (X.O A (.ref tp))/\H tp=some (.tup [.str "told",.ref l])/\H l=some (.lst [.int i])/\X.E A H
 |.inr z=>∃tp,H X.m=some (X.O A (.ref tp))/\H tp=some (.tup [.str "fault",.str z])
def DueD(H:Hp)(dl:Addr)(o:Int ⊕ Str):Prop:=match o with
 |.inl i=>∃l,H dl=some (.tup [.str "told",.ref l])/\H l=some (.lst [.int i])
 |.inr z=>H dl=some (.tup [.str "fault",.str z])
theorem DueD.same{dl:Addr}(h:DueD H dl o)(s:Same H H'):DueD H' dl o:=by
 cases o with
 |inl i=>obtain⟨l,a,b⟩:=h;exact⟨l,s _ _ a,s _ _ b⟩
 |inr z=>exact s _ _ h
theorem vj(h:DueD H a o)(g:DueD H b o):Alk 3 H (.ref a) (.ref b):=by
 cases o with
 |inl i =>
  obtain⟨l,h1,h2⟩:=h;obtain⟨m,g1,g2⟩:=g;refine .inr (.inr (.inr ⟨a,b,(zI rfl rfl ⟨.inr ⟨h1,g1⟩,rfl,by show 2<=1000;decide,fun j u v e1 e2=>?_⟩)⟩))
  match j,e1,e2 with
  |0,e1,e2=>cases e1;cases e2;exact .str _
  |1,e1,e2 =>
   cases e1;cases e2;refine .inr (.inr (.inr ⟨l,m,(zI rfl rfl ⟨.inl ⟨h2,g2⟩,rfl,by show 1<=1000;decide,fun j u v e1 e2=>?_⟩)⟩))
   match j,e1,e2 with
   |0,e1,e2=>cases e1;cases e2;exact .int _
   |j+1,e1,e2=>cases e1
  |j+2,e1,e2=>cases e1
 |inr z =>
  refine .inr (.inr (.inr ⟨a,b,(zI rfl rfl ⟨.inr ⟨h,g⟩,rfl,by show 2<=1000;decide,fun j u v e1 e2=>?_⟩)⟩))
  match j,e1,e2 with
  |0,e1,e2=>cases e1;cases e2;exact .str _
  |1,e1,e2=>cases e1;cases e2;exact .str _
  |j+2,e1,e2=>cases e1
theorem EndD.due{X:Mx}(h:EndD A X H o):∃tp,H X.m=some (X.O A (.ref tp))/\DueD H tp o:=by
 cases o with
 |inl i=>obtain⟨tp,l,a,b,c,_⟩:=h;exact⟨tp,a,l,b,c⟩
 |inr z=>exact h
theorem EndD.same{X:Mx}(h:EndD A X H o)(s:Same H H'):EndD A X H' o:=by
 cases o with
 |inl i=>obtain⟨tp,l,a,b,c,C,d⟩:=h;exact⟨tp,l,s _ _ a,s _ _ b,s _ _ c,C,d.same s⟩
 |inr z=>obtain⟨tp,a,b⟩:=h;exact⟨tp,s _ _ a,s _ _ b⟩
inductive spEnded(A:Mc)(TC:Addr)(vs:List V)(H:Hp)(Q:VK)(e_3:XK):Prop
 |mk (X:Mx) (dl:Addr):(∃o:Int ⊕ Str,vs=[.ref X.m,.ref dl]/\EndD A X H o/\DueD H dl o/\∀H',Same H H'->Q (.bl true) H')->spEnded A TC vs H Q e_3
section
variable{K:ua}
theorem scEnded:FnScope ["_law_machine","_law_due","_law_heap"] ["_law_machine","_law_due"] (zo v6):=⟨rfl,rfl,rfl,by decide +kernel,rfl,by decide +kernel,by decide +kernel⟩
theorem JX(F:Fun K "_law_ended" "_law_ended" v6 f fd)(N:MN K A.cM)(NH:HcN K A.cH)(NS:HcN K A.cS)(GA:Ca P w K mg base CX0 3 "_law_alike" ["_law_found","_law_due"] (xW 3))(GT:Me P w K mg base CX0 7 A.cM "turn" ["self"] (wW A TC))(GR:Me P w K mg base CX0 8 A.cM "result" ["self"] (jb A TC))(BH:Me P w K mg base CX0 1 A.cH "boxes" ["self"] (xX A.cH A.cS A.cR A.cH))(BS:Me P w K mg base CX0 1 A.cS "boxes" ["self"] (xX A.cH A.cS A.cR A.cS))(KH:Me P w K mg base CX0 1 A.cH "keeping" ["self"] (xX A.cH A.cS A.cR A.cH))(KS:Me P w K mg base CX0 1 A.cS "keeping" ["self"] (xX A.cH A.cS A.cR A.cS)):FnOk P w K mg base CX0 9 f fd ["_law_machine","_law_due"] (spEnded A TC):=by
 refine F.by scEnded (fun vs H Q E h=>?_) (fun cdv A' outer s H vs Q E hr h=>?_)
 ·obtain⟨X,dl,o,rfl,_⟩:=h
  rfl
 obtain⟨X,dl,o,rfl,hm,hd,q⟩:=h;have r1:Room 1 _:=hr.mono (by decide);have r2:Room 2 _:=hr.mono (by decide);have r3:Room 3 _:=hr.mono (by decide);have r7:Room 7 _:=hr.mono (by decide);refine⟨_,
  (zj (zK (jW.pt (xE (xr (z7 (zM GA r3 rfl zB (ja_c (zr K (jv 0)) (ja_c (jv 1) zi))))) (xE (zv zaT (xg (jv 0) N.cl GT r7 zB) xn (zy _)) (xD (xr (z7 (zM GA r3 rfl zB (ja_c (xg (jv 0) N.cl GR hr zB) (ja_c (jv 1) zi)))))))))
   (zn (zw xn)) zD)
  (zj (zK (zv xZ (zC K (jv 1)) zu (zy _)) (zn (zw xn)) zD)
  (zj (zE (i:=2) scEnded.nd rfl (Or.inl rfl) (zr K (jv 0)))
  (zn (zw (zM GA r3 rfl zB (ja_c (zU (ja_c (wg (xg (jv 2) NH.cl BH r1 zB) (xg (jv 2) NS.cl BS r1 zB)) (ja_c (wg (xg (jv 2) NH.cl KH r1 zB) (xg (jv 2) NS.cl KS r1 zB)) (ja_c (zr K (jv 2)) (ja_c (zr K (jv 2)) zi))))) (ja_c (zU (ja_c (zU zi) (ja_c (zU zi) (ja_c zp (ja_c zp zi))))) zi)))))))),?_⟩
 have sl:=ym;obtain⟨tp,hm1,hd1⟩:=hm.due;refine zf rfl ⟨X.m,A.cM,X.dx,_,_,rfl,hm1,N.cl,N.n8,rfl,zf rfl ⟨.ref tp,.ref dl,rfl,vj hd1 hd,fun H1 s1=>(zf rfl (iteF ?_))⟩⟩;refine zf rfl ⟨X.m,X.dx,(zf rfl ⟨s1 _ _ hm1,rfl,X,rfl,.inl ⟨tp,s1 _ _ hm1,?_⟩⟩)⟩;refine(zI rfl rfl (zf rfl (iteF ?_)));have hm2:=hm.same s1;cases o with
 |inr z =>
  obtain⟨tp',a,b⟩:=hm2;refine zf rfl ⟨X.m,X.dx,(zf rfl ⟨a,rfl,X,rfl,.inl (.inl ⟨tp',z,a,b,zf rfl ⟨.ref tp',.ref dl,rfl,vj (o:=.inr z) b (hd.same s1),fun H3 s3=>(zf rfl (iteF (nxtC ?_)))⟩⟩)⟩)⟩;exact zf rfl (ixT (s3 _ _ (s1 _ _ hd)) (zq (j:=0) rfl) ⟨rfl,(zf rfl (iteT (q H3 (s1.trans s3))))⟩)
 |inl i =>
  obtain⟨tp',l,a,b,c,hE⟩:=hm2;refine zf rfl ⟨X.m,X.dx,(zf rfl ⟨a,rfl,X,rfl,.inl (.inr ⟨tp',l,i,a,b,c,fun H3 tp2 l2 s3 _ _ e1 e2=>zf rfl ⟨.ref tp2,.ref dl,rfl,vj (o:=.inl i) ⟨l2,e1,e2⟩ ((hd.same s1).same s3),fun H4 s4=>(zf rfl (iteF (nxtC ?_)))⟩⟩)⟩)⟩;have s14:=s3.trans s4;have s04:=s1.trans s14;obtain⟨ld,d1,d2⟩:=hd;refine zf rfl (ixT (s04 _ _ d1) (zq (j:=0) rfl) ⟨rfl,(zf rfl (iteF (nxtC ?_)))⟩);refine zf rfl ⟨X.m,A.cM,X.dx,_,_,rfl,s14 _ _ a,N.cl,N.n6,rfl,?_⟩;dsimp only[uR,L2.start]
  obtain⟨C,hE⟩:=hE;have hE4:=hE.same s14;obtain⟨dxh,sz,bd,kp,ext,g1,_⟩:=ZH hE4;have rest:∀H6 (l5 l6 l7:Addr),Same H4 H6->H6 l5=some (.lst [])->H6 l6=some (.lst [])->H6 l7=none->(yf (tLst (yf (tLst tNil) (yf (tLst tNil) (yf (tC (V.int 0)) (yf (tC (V.int 0)) tNil))))) tNil:TA) [some (.ref X.m),sR dl,some (.ref X.hp)] (upd H6 l7 (.lst [.ref l5,.ref l6,.int 0,.int 0])) (fun vs H8=>xW 3 (.ref l7::vs) H8 Q E0):=by
   intro H6 l5 l6 l7 s6 e5 e6 e7;have s7:=same_new e7 (.lst [.ref l5,.ref l6,.int 0,.int 0]);have e8:=zg (H:=H6) (a:=l7) (o:=.lst [.ref l5,.ref l6,.int 0,.int 0]);generalize upd H6 l7 (.lst [.ref l5,.ref l6,.int 0,.int 0])=H7 at *;refine⟨by show 0<=sizeLine;lia,fun a1 f1=>⟨by show 0<=sizeLine;lia,fun a2 f2=>⟨by show 4<=sizeLine;lia,fun a3 f3=>?_⟩⟩⟩;have t1:=same_new f1 (.lst []);have t2:=same_new f2 (.lst []);have t3:=same_new f3 (.lst [.ref a1,.ref a2,.int 0,.int 0]);have t123:=(t1.trans t2).trans t3;refine⟨.ref l7,.ref a3,rfl,?_,fun H' s'=>q H' ((((s04.trans s6).trans s7).trans t123).trans s')⟩;refine .inr (.inr (.inr ⟨l7,a3,(zI rfl rfl ⟨.inl ⟨t123 _ _ e8,zg⟩,rfl,by show 4<=1000;decide,fun j u v x1 x2=>?_⟩)⟩))
   match j,x1,x2 with
   |0,x1,x2 =>
    cases x1;cases x2;exact .inr (.inr (.inr ⟨l5,a1,(zI rfl rfl ⟨.inl ⟨t123 _ _ (s7 _ _ e5),t3 _ _ (t2 _ _ zg)⟩,rfl,by show 0<=1000;decide,fun j u v x1 x2=>by cases x1⟩)⟩))
   |1,x1,x2 =>
    cases x1;cases x2;exact .inr (.inr (.inr ⟨l6,a2,(zI rfl rfl ⟨.inl ⟨t123 _ _ (s7 _ _ e6),t3 _ _ zg⟩,rfl,by show 0<=1000;decide,fun j u v x1 x2=>by cases x1⟩)⟩))
   |2,x1,x2=>cases x1;cases x2;exact .int 0
   |3,x1,x2=>cases x1;cases x2;exact .int 0
   |j+4,x1,x2=>cases x1
  obtain⟨dxb,fb,gb,lb⟩:=ZE hE4 (x:="boxes") (fun _ _ _ _ _=>⟨rfl,rfl⟩);obtain⟨dxk,fk,gk,lk⟩:=ZE hE4 (x:="keeping") (fun _ _ _ _ _=>⟨rfl,rfl⟩);rcases ZG hE4 with rfl|rfl
  ·refine Or.inl (zf rfl ⟨X.hp,dxb,(zf rfl ⟨gb,lb,X.hp,rfl,hE4,fun H5 l5 s5 _ e5=>Or.inl (zf rfl ⟨X.hp,dxk,(zf rfl ⟨s5 _ _ gk,lk,X.hp,rfl,hE4.same s5,fun H6 l6 s6 _ e6=>?_⟩)⟩)⟩)⟩)
   have s56:=s5.trans s6;refine zf rfl ⟨X.hp,_,dxh,_,_,rfl,s56 _ _ g1,NH.cl,NH.n2,rfl,zf rfl ⟨X.hp,_,dxh,_,_,rfl,s56 _ _ g1,NH.cl,NH.n4,rfl,by show 4<=sizeLine;lia,fun l7 h7=>?_⟩⟩;exact rest H6 l5 l6 l7 s56 (s6 _ _ e5) e6 h7
  ·refine Or.inr (zf rfl ⟨X.hp,dxb,(zf rfl ⟨gb,lb,X.hp,rfl,hE4,fun H5 l5 s5 _ e5=>Or.inr (zf rfl ⟨X.hp,dxk,(zf rfl ⟨s5 _ _ gk,lk,X.hp,rfl,hE4.same s5,fun H6 l6 s6 _ e6=>?_⟩)⟩)⟩)⟩)
   have s56:=s5.trans s6;refine zf rfl ⟨X.hp,_,dxh,_,_,rfl,s56 _ _ g1,NS.cl,NS.n2,rfl,zf rfl ⟨X.hp,_,dxh,_,_,rfl,s56 _ _ g1,NS.cl,NS.n4,rfl,by show 4<=sizeLine;lia,fun l7 h7=>?_⟩⟩;exact rest H6 l5 l6 l7 s56 (s6 _ _ e5) e6 h7
end
end GN
namespace L2
open PySem PySem.Spec PyProof.Rows
variable{es:Array DictEntry}
section
variable{s:Shared}
theorem Inv.freeze(I:Inv X pins σ H s)(e:H d=some (.dK kvs)):∃ob,s.heap.get? d=some ob/\Inv X pins σ (upd H d (.frz ob (.dK kvs))) s:=by
 have ok:=I.hok d _ e;obtain⟨_,_,vs,r,ob,es,ep,g,c⟩:=id (show ObjOk X.prog X.w H s.heap d (.dK kvs)from ok);refine⟨ob,g,?_⟩;have tu:∀b xs,H b=some (.tup xs)->upd H d (.frz ob (.dK kvs)) b=some (.tup xs):=fun b xs q=>by rw[zh (xY q e (by intro z;cases z))];exact q
 have ow:∀b a,H b=some (.own a)->upd H d (.frz ob (.dK kvs)) b=some (.own a):=fun b a q=>by rw[zh (xY q e (by intro z;cases z))];exact q
 refine I.step (h':=s.heap) (g':=s.gens) (d':=s.drawn) (t':=s.toks) (ch:=[]) (fun _ z=>nomatch z) (fun b o _ _ _ q _=>q) (fun b o _ _ _ q _=>⟨o.slots,q⟩) (fun b o _ _ n=>by rw[zh (Ne.symm (zk e n))];exact n) (fun b o _ q=>⟨o,q⟩) tu (fun b o u q=>by rw[zh (xY q e (by intro z;cases z))];exact q) (fun b ps q=>⟨#[],by rw[zh (xY q e (by intro z;cases z)),Array.append_empty];exact q⟩) (fun m n=>n) (fun b o q=>?_) I.bare;by_cases c:b=d
 ·subst c
  rw[zg]at q;cases q;exact⟨g,ok.stay (fun _ _ _ q=>q) (fun b q=>ow b _ q) tu⟩
 ·rw[zh c]at q
  exact(I.hok b o q).stay (fun _ _ _ q=>q) (fun b' q=>ow b' _ q) tu
end
section
variable{s:Shared}
theorem Inv.thaw(I:Inv X pins σ H s)(n:∀o u,X.H₀ d≠some (.frz o u))(e:H d=some (.frz ob (.dK kvs))):Inv X pins σ (upd H d (.dK kvs)) s:=by
 have ok:=(show s.heap.get? d=some ob/\ObjOk X.prog X.w H s.heap d (.dK kvs)from I.hok d _ e).2;have tu:∀b xs,H b=some (.tup xs)->upd H d (.dK kvs) b=some (.tup xs):=fun b xs q=>by rw[zh (xY q e (by intro z;cases z))];exact q
 have ow:∀b a,H b=some (.own a)->upd H d (.dK kvs) b=some (.own a):=fun b a q=>by rw[zh (xY q e (by intro z;cases z))];exact q
 have fr:∀b,H b=none->upd H d (.dK kvs) b=none:=fun b q=>by rw[zh (Ne.symm (zk e q))];exact q
 refine⟨I.ok,I.os,I.bare,⟨I.base.keep,I.base.slot,fun b o a1 a2 a3=>fr b (I.base.free b o a1 a2 a3),I.base.there,fun b xs q=>tu b xs (I.base.tups b xs q),fun b o u q=>?_,fun b ps q=>?_⟩,I.loc,I.cell,fr _ I.free,fun x c q=>fr _ (I.freeC x c q),fun p hp=>?_,fun b o q=>?_,I.len⟩
 ·have nb:b≠d:=fun z=>n o u (by rw[<- z];exact q)
  rw[zh nb];exact I.base.frzs b o u q
 ·obtain⟨m,h⟩:=I.base.tbls b ps q
  exact⟨m,by rw[zh (xY h e (by intro z;cases z))];exact h⟩
 ·obtain⟨a,b,c⟩:=I.pin p hp
  exact⟨a,fr _ b,c⟩
 ·by_cases c:b=d
  ·subst c
   rw[zg]at q;cases q;exact ok.stay (fun _ _ _ q=>q) (fun b q=>ow b _ q) tu
  ·rw[zh c]at q
   exact(I.hok b o q).stay (fun _ _ _ q=>q) (fun b' q=>ow b' _ q) tu
end
def zbC:V->List V->Hp->VK->Prop:=fun x vs H Q=>∃d kvs,x=.ref d/\vs=[]/\H d=some (.dK kvs)/\∀p,H p=none->Q (.ref p) (upd H p (.ext fun h=>h.IsValuesView p d))
theorem zaU:MtM X "dict.values" zbC:=by
 intro pins s σ H x vs v us Q I rx rv h;obtain⟨d,kvs,rfl,rfl,hd,q⟩:=h;cases rx;have hus:=rv.zero;subst hus;obtain⟨z,hs,ws,rel,dd⟩:=y8 I.hok hd;refine call_meetsIn tQ dd.typeIs PySem.F.entry_dict_values (PySem.F.args_dict_values_1 _) (meets_dict_values (zW X.prog X.w) d hs) ⟨⟨ws,dd⟩,?_⟩;have e:=uo (h:=s.heap) (o:={ cls:=.type "dict_values",data:=.fields #[.ref d] }) rfl;refine⟨.ref _,_,I.laid (t':=s.toks) (fun b o e=>ub _ e) (ui _) ?_,rfl,q _ (I.hok.fresh (ui _))⟩;refine⟨⟨_,e,rfl,rfl⟩,⟨_,e⟩,fun h1 h2 ⟨o,a,b⟩ k=>⟨o,k o a,b⟩⟩
theorem X2:jMt X "dict.values" zbC:=⟨zaU⟩
section
variable{s:Shared}
theorem Yk{A:Around}{n:Nat}(I:Inv X pins σ H s)(hu:A.units+n < cLine){kvs':List (Key×V)}{vs':List (Key×Value)}(r':KV kvs' vs'):∀{kvs:List (Key×V)}{vs:List (Key×Value)},KV kvs vs->(∀k v,(k,v)∈kvs->∃v',valV kvs' k=some v'/\Sme n H v v')->PySem.W.KeqHits A s vs' vs true
 |_,_,.nil,_=>.nil
 | (k,v)::kvs,(k',u)::vs,.cons hr t,h=>by
  obtain⟨e,rv⟩:=hr;have e:k=k':=e;subst e;obtain⟨v',g1,g2⟩:=h k v (.head _);have rr:=r'.val k;rw[g1]at rr;cases hv:valueAt vs' k with
  |none=>rw[hv]at rr;exact False.elim rr
  |some u' =>
   rw[hv]at rr
   have:=PySem.W.KeqHits.hit (r:=vs) hv (Jj I n hu g2 rv rr) (Yk I hu r' t fun k v hm=>h k v (.tail _ hm))
   simpa using this
end
def zbD(n:Nat)(b:Bool):R2:=fun x y H Q=>∃p p' kvs kvs',x=.ref p/\y=.ref p'/\H p=some (.dK kvs)/\H p'=some (.dK kvs')/\kvs.length=kvs'.length/\(∀k v,(k,v)∈kvs->∃v',valV kvs' k=some v'/\Sme n H v v')/\Q (.bl b) H
section
variable{k:Nat}
theorem zaV(hn:n<=32)(hu:X.A.units+64 < cLine):OpR X (compareOp .NotEq) (zbD n false):=by
 intro pins s σ H x y v u Q I rx ry h;obtain⟨p,p',kvs,kvs',rfl,rfl,h1,h2,hl,h3,q⟩:=h;cases rx;cases ry;obtain⟨z1,d1,vs,r1,dd1⟩:=y8 I.hok h1;obtain⟨z2,d2,vs',r2,dd2⟩:=y8 I.hok h2;have l1:=r1.length;have l2:=r2.length;refine PySem.W.keq_ne d1 d2 dd1 dd2 (by lia) (r:=true) (fun _=>Yk I (by show X.A.units+1+n < cLine;lia) r2 r1 h3) ?_;rw[show(!(vs.length == vs'.length && true))=false by simp;lia];exact⟨.bl false,H,I,rfl,q⟩
theorem X3(hn:n<=32)(hr:Room k X.A):jOp X (compareOp .NotEq) (zbD n false):=⟨zaV hn hr.units⟩
end
section
variable{s:Shared}
def Itw(d:Addr)(ob:Obj)(kvs:List (Key×V)):It :=
 ⟨fun i H=>i < kvs.length/\H d=some (.frz ob (.dK kvs)),fun i H x H'=>H'=H/\∃kv,kvs[i]?=some kv/\x=kv.2,fun i H=>kvs.length<=i/\H d=some (.frz ob (.dK kvs))⟩
theorem JY(I:Inv X pins σ H s){ep:Nat}(hob:ob.data=.dict es ep)(hd:H d=some (.frz ob (.dK kvs))):∃vs,KV kvs vs/\s.heap.DictAt (zW X.prog X.w) d vs ep:=by
 obtain⟨g,_,_,vs,r,ob',es',ep',g',c1,c2,c3⟩:=(show ObjOk X.prog X.w H s.heap d (.frz ob (.dK kvs))from I.hok d _ hd);have eo:ob'=ob:=by rw[g]at g';injection g' with g';exact g'.symm
 subst eo;rw[hob]at c2;injection c2 with c2 c2'
 subst c2 c2';exact⟨vs,r,ob',es,g,c1,hob,c3⟩
theorem W3{K:ua}(it:Addr){ep:Nat}(hob:ob.data=.dict es ep):Turn P w K tg (Itw d ob kvs) [it] it (fun i h=>h.IsValIter it d i kvs.length ep) where
 mem:=by simp
 obj:=fun i h st b hb=>by
  obtain rfl:b=it:=by simpa using hb
  obtain⟨o,e,c,d⟩:=st;exact⟨o,e,fun v z=>by rw[d]at z;cases z⟩
 keep:=fun i h h' st k=>st.at fun o e=>k it (by simp) o e
 item:=by
  intro X hP hw hK hc i pins s σ H E I hf st hg;subst hP hw hK;obtain⟨hi,hd⟩:=hg;obtain⟨vs,r,dat⟩:=JY I hob hd;have hl:=r.length;obtain⟨⟨k,u⟩,hu⟩:∃p,vs[i]?=some p:=⟨vs[i]'(by lia),by rw[uf]⟩;obtain⟨x,hx,hxu⟩:=r.get hu;obtain⟨f0,f1,f2,f3,f4,f5⟩:=hf it (by simp);have st':s.heap.IsValIter it d i vs.length ep:=by rw[<- hl];exact st
  refine wpAny_pyNext_values_item st' dat hu fun h' hit' hs'=>?_;have I1:Inv X pins σ H { s with heap:=h' }:=I.turned (t':=s.toks) (fun b o hb e=>hs'.extBut b o hb e) f0 f1 f3 f4 f5;obtain⟨o,e,c,dd⟩:=id hit';exact⟨u,rfl,ZO (s:={ s with heap:=h' }) e c dd (by decide) ⟨x,H,I1,hxu,⟨rfl,_,hx,rfl⟩,by rw[hl];exact hit',fun b hb=>(hf b hb).1⟩⟩
 done:=by
  intro X hP hw hK hc i pins s σ H E I hf st hg;subst hP hw hK;obtain⟨hi,hd⟩:=hg;obtain⟨vs,r,dat⟩:=JY I hob hd;have hl:=r.length;obtain⟨f0,f1,f2,f3,f4,f5⟩:=hf it (by simp);have st':s.heap.IsValIter it d i vs.length ep:=by rw[<- hl];exact st
  exact wpAny_pyNext_values_end (I.ok.hd hc) st' dat (List.getElem?_eq_none (by lia)) fun h' eb=>⟨rfl,I.turned (t':=s.toks) (fun b o hb e=>eb b o hb e) f0 f1 f3 f4 f5⟩
 self:=fun _ _ _ _ _ st h=>wpAny_pyIter_valiter st h
def zbE(tl:TE):TI:=fun σ H R=>tl σ H fun x H1=>∃p d kvs,x=.ref p/\H1 p=some (.ext fun h=>h.IsValuesView p d)/\H1 d=some (.dK kvs)/\∀ob,R (Itw d ob kvs) (upd H1 d (.frz ob (.dK kvs)))
theorem zaW{l:Expr}(hl:PE X l tl):PI X tg l (zbE tl):=by
 intro pins s σ H R I h;refine thn (hl pins s σ H _ I h) fun v s1 hq_=>?_;obtain⟨x,H1,I1,r1,q1⟩:=hq_;obtain⟨p,a,kvs,e,hp,hq,q⟩:=q1;subst e;cases r1;have hvw:s1.heap.IsValuesView p a:=(I1.hok p _ hp).1;obtain⟨_,hs,vs,r,ob',es,ep,g',c1,c2,c3⟩:=(show ObjOk X.prog X.w H1 s1.heap a (.dK kvs)from I1.hok a _ hq);obtain⟨ob,g,I2⟩:=I1.freeze hq;have eo:ob'=ob:=by rw[g]at g';injection g' with g';exact g'.symm
 subst eo;have dat:s1.heap.DictAt (zW X.prog X.w) a vs ep:=⟨ob',es,g,c1,c2,c3⟩;have hl:=r.length;refine wpAny_pyIter_values hvw dat ?_;refine⟨s1.heap.objs.size,[s1.heap.objs.size],_,_,_,rfl,I2.kept (t':=s1.toks) fun b o e=>ub _ e,W3 _ c2,?_,fun b hb=>?_,q ob'⟩
 ·rw[hl]
  exact⟨_,uo _ rfl,rfl,rfl⟩
 have e:b=s1.heap.objs.size:=by simpa using hb
 subst e;exact I2.fpOk (ui _) (I2.hok.fresh (ui _))
theorem X4{l:Expr}(hl:jE X l tl):jI X tg l (zbE tl):=⟨zaW hl.out⟩
end
section
variable{Q:VK}
theorem X5(Pv:Nat->St->List V->Hp->Prop)(h0:Pv 0 σ [] H)(hl:∀i τ ys H,i<=kvs.length->Pv i τ ys H->H d=some (.frz ob (.dK kvs)))
  (hs:∀i kv τ ys H,kvs[i]?=some kv->Pv i τ ys H->g kv.2 τ H fun τ2 H2=>tt τ2 H2 fun b H3=>if b=true then te τ2 H3 fun y H4=>ys.length < sizeLine/\Pv (i+1) τ2 (ys++[y]) H4 else Pv (i+1) τ2 ys H3)
  (hd:∀τ ys H,Pv kvs.length τ ys H->∀p,H p=none->Q (.ref p) (upd H p (.lst ys))):∃W,(∃m,W 0 m σ [] H)/\lcBy (Itw d ob kvs) g tt te Q W:=by
 refine⟨fun i m τ ys H=>m=kvs.length-i/\i<=kvs.length/\Pv i τ ys H,⟨kvs.length,by simp,uU _,h0⟩,?_⟩;rintro i m τ ys H ⟨rfl,hi,p⟩;have q:=hl i τ ys H hi p;by_cases hlt:i < kvs.length
 ·refine .inr ⟨⟨hlt,q⟩,Pv (i+1),fun τ' ys' H' p'=>⟨kvs.length-(i+1),by lia,rfl,hlt,p'⟩,fun x H' y=>?_⟩
  obtain⟨e,kv,y,rfl⟩:=y;subst e;exact hs i kv τ ys _ y p
 ·have e:i=kvs.length:=by lia
  subst e;exact .inl ⟨⟨ui _,q⟩,hd τ ys H p⟩
end
def rDE:R2:=fun x y H Q=>∃p p' kvs,x=.ref p/\y=.ref p'/\H p=some (.dK kvs)/\H p'=some (.dK [])/\Q (.bl kvs.isEmpty) H
theorem zdI(hu:X.A.units+64 < cLine):OpR X (compareOp .Eq) rDE:=by
 intro pins s σ H x y v u Q I rx ry h;obtain⟨p,p',kvs,rfl,rfl,h1,h2,q⟩:=h;cases rx;cases ry;obtain⟨z1,d1,vs,r1,dd1⟩:=y8 I.hok h1;obtain⟨z2,d2,vs',r2,dd2⟩:=y8 I.hok h2;cases r2;have l1:=r1.length;refine PySem.W.keq_eq d1 d2 dd1 dd2 (by lia) (r:=true) (fun e=>?_) ?_
 ·cases vs with
  |nil=>exact .nil
  |cons a b=>cases e
 ·have e:(vs.length == ([]:List (Key×Value)).length && true)=kvs.isEmpty:=by
   cases kvs with
   |nil=>rw[<- l1];rfl
   |cons a b=>rw[<- l1];rfl
  rw[e];exact⟨.bl _,H,I,rfl,q⟩
theorem zdJ{k:Nat}(hr:Room k X.A):jOp X (compareOp .Eq) rDE:=⟨zdI hr.units⟩
def zcY(H0:Hp)(t:TS):TS:=fun D σ H=>t { D with rt:=fun v H'=>∃d ob kvs,H' d=some (.frz ob (.dK kvs))/\(∀o u,H0 d≠some (.frz o u))/\D.rt v (upd H' d (.dK kvs)) } σ H
theorem Yl{t:TS}(H0:Hp)(h:jS X st t)(e0:X.H₀=H0:=by rfl):jS X st (zcY H0 t):=⟨by
 intro pins s σ H D I q;refine thn (h.out pins s σ H _ I q) fun f s1 q=>?_;cases f with
 |next=>exact q
 |ret u =>
  obtain⟨v,σ',H',I1,r,d,ob,kvs,g1,g2,g3⟩:=q;exact⟨v,σ',_,I1.thaw (by rw[e0];exact g2) g1,r,g3⟩
 |brk=>exact q
 |cont=>exact q⟩
end L2
namespace GN
open PySem L2 K11
def clAt(ns:List Int)(k:Nat):Int:=ns.getD k 0
inductive spCellL(K:ua)(vs:List V)(H:Hp)(Q:VK)(e_3:XK):Prop
 |mk (a:Addr) (ns:List Int):(∃k:Nat,vs=[.ref a,.int (k:Int)]/\SqL K H a (ns.map V.int)/\Q (.int (clAt ns k)) H)->spCellL K vs H Q e_3
def Ym(c:Int):Int:=c.fmod 1999999999999999999999999999999-999999999999999999999999999999
theorem Yn(c:Int):K31.Sm (Ym c):=by
 unfold Ym K31.Sm;rw[Int.fmod_eq_emod_of_nonneg _ (by decide)];have h1:=UK c (b:=1999999999999999999999999999999) (by decide);have h2:=Ux c (b:=1999999999999999999999999999999) (by decide)
 constructor<;>lia
def Y8:Sp:=fun vs H Q _=>∃c:Int,vs=[.int c]/\Q (.int (Ym c)) H
def wds(kvs:List (Key×V)):List V:=(kvs.map (·.2)).filter fun v=>decide (v=.str "great") || decide (v=.str "nought")
inductive spWds(vs:List V)(H:Hp)(Q:VK)(e_3:XK):Prop
 |mk (d:Addr):(∃kvs:List (Key×V),vs=[.ref d]/\H d=some (.dK kvs)/\kvs.length<=1000/\(∀kv∈kvs,(∃i,kv.2=.int i)\/∃z,kv.2=.str z)/\∀H' l,Same H H'->H' l=some (.lst (wds kvs))->Q (.ref l) H')->spWds vs H Q e_3
section
variable{K:ua}
theorem zaX:FnScope ["_law_script","_law_k"] ["_law_script","_law_k"] (zo wm):=⟨rfl,rfl,rfl,by decide +kernel,rfl,by decide +kernel,by decide +kernel⟩
theorem JZ(F:Fun K "_law_cell_at" "_law_cell_at" wm f fd)(m_len:mg "len"=none):FnOk P w K mg base CX0 1 f fd ["_law_script","_law_k"] (spCellL K):=by
 refine F.by zaX (fun vs H Q E h=>?_) (fun cdv A outer s H vs Q E hr h=>?_)
 ·obtain⟨a,ns,k,rfl,_⟩:=h
  rfl
 obtain⟨a,ns,k,rfl,hS,q⟩:=h;refine⟨_,
  (zj (zK (zv xI (jv 1) (zJ (zQ K) rfl m_len uV (ja_c (jv 0) zi)) (zy _))
   (zn (zw (zR (zA K) (jv 0) (jv 1) (fun _ _=>rfl))))  zD)
  (zn (zw zp))),?_⟩
 refine zx rfl rfl ⟨a,(zf rfl ⟨.inl hS,(zI rfl rfl (zf rfl ?_))⟩)⟩;rw[uc];unfold clAt at q;by_cases c:k < ns.length
 ·rw[decide_eq_true (by lia)]
  rw[List.getD_eq_getElem?_getD,uf c]at q;exact iteT (zx rfl rfl ⟨a,_,_,_,rfl,rfl,hS,zq (by rw[ux,uf c];rfl),q⟩)
 ·rw[decide_eq_false (by lia)]
  rw[List.getD_eq_getElem?_getD,List.getElem?_eq_none (by lia)]at q;exact iteF q
theorem zcZ:FnScope ["_law_cell"] ["_law_cell"] (zo wS):=⟨rfl,rfl,rfl,by decide +kernel,rfl,by decide +kernel,by decide +kernel⟩
theorem zaY(F:Fun K "_law_number" "_law_number" wS f fd):FnOk P w K mg base CX0 1 f fd ["_law_cell"] Y8:=by
 refine F.by zcZ (fun vs H Q E h=>?_) (fun cdv A outer s H vs Q E hr h=>?_)
 ·obtain⟨c,rfl,_⟩:=h
  rfl
 obtain⟨c,rfl,q⟩:=h;refine⟨_,
  (zn (zw (zH wN (zH ZA (jv 0) (zH wN (zH Zz zp (zH xH zp zp)) zp)) (zH wN (zH xH zp zp) zp)))),?_⟩
 have e30:(10:Int) ^ (30:Int).toNat=1000000000000000000000000000000:=by decide
 have cp:CPow 10 30:=⟨by decide,by decide,by decide⟩;have big:∀{i:Int},i.natAbs < 10 ^ 100->i.natAbs < BG:=fun h=>K31.big_of h;refine zf rfl ⟨10,30,rfl,rfl,cp,?_⟩;dsimp only[]
 rw[e30];refine⟨2,(zf rfl ⟨rfl,⟨big (by decide),big (by decide)⟩,(zI rfl rfl ⟨c,(zf rfl ⟨rfl,(show(2*1000000000000000000000000000000-1:Int)≠0 by decide),10,30,rfl,rfl,cp,?_⟩)⟩)⟩)⟩;dsimp only[]
 rw[e30];exact(zI rfl rfl (zI rfl rfl (q)))
theorem zdK:FnScope ["_law_state"] ["_law_state"] (zo v5):=⟨rfl,rfl,rfl,by decide +kernel,rfl,by decide +kernel,by decide +kernel⟩
theorem zdL:(["_law_state","_law_one"]:lS).Nodup:=by decide +kernel
theorem zc0(F:Fun K "_law_words" "_law_words" v5 f fd):FnOk P w K mg base CX0 1 f fd ["_law_state"] spWds:=by
 refine F.by zdK (fun vs H Q E h=>?_) (fun cdv A outer s H vs Q E hr h=>?_)
 ·obtain⟨d,kvs,rfl,_⟩:=h
  rfl
 obtain⟨d,kvs,rfl,hd,hl,hk,q⟩:=h;refine⟨_,
  (zn (Yl H (zw (xa ["_law_one"] rfl (X4 (wM U6 tQ PySem.F.type_dict_values X2 (jv 0))) (fun _ _ _ _ _=>(zG (i:=1) zdL rfl (Or.inl rfl))) (fun _ _ _ _ _=>(Xt (zv (YM K) (jv 1) (zT (ja_c zu (ja_c zu zi))) (by with_unfolding_all rfl)))) (fun _ _ _ _ _=>(jv 1)))))),?_⟩
 have sl:=ym;refine zf rfl ⟨.inr (.inr (.inl ⟨rfl,.inl ⟨_,hd⟩⟩)),d,(zf rfl ⟨rfl,hd,fun pv hpv=>⟨pv,d,(zf rfl ⟨zg,old hpv hd,fun ob=>?_⟩)⟩⟩)⟩;have k1:∀b u,b≠d->H b=some u->(upd (upd H pv (.ext fun h=>h.IsValuesView pv d)) d (.frz ob (.dK kvs))) b=some u:=fun b u n e=>by rw[zh n];exact old hpv e
 have f1:=zg (H:=upd H pv (.ext fun h=>h.IsValuesView pv d)) (a:=d) (o:=.frz ob (.dK kvs));generalize upd (upd H pv (.ext fun h=>h.IsValuesView pv d)) d (.frz ob (.dK kvs))=H1 at *;refine X5 (kvs:=kvs) (fun i τ ys H'=>(∀b u,b≠d->H b=some u->H' b=some u)/\H' d=some (.frz ob (.dK kvs))/\(∃y,τ=[sR d,y])/\ys=wds (kvs.take i)) ⟨k1,f1,⟨none,rfl⟩,rfl⟩ (fun i τ ys H' _ h=>h.2.1) ?_ ?_
 ·rintro i kv τ ys H' hv ⟨k2,f2,⟨y,rfl⟩,rfl⟩
  have hi:i < kvs.length:=(ud.mp hv).1;have lw:(wds (kvs.take i)).length < sizeLine:=by
   have:=UL (fun v=>decide (v=V.str "great") || decide (v=.str "nought")) ((kvs.take i).map (·.2))
   rw[uc,Ui]at this;unfold wds;lia
  have step:wds (kvs.take (i+1))=wds (kvs.take i)++if(decide (kv.2=.str "great") || decide (kv.2=.str "nought"))=true then[kv.2]else[]:=by
   unfold wds;rw[Us,hv,uH,List.filter_append]
   congr 1
   show List.filter _ [kv.2]=_;rw[List.filter_cons,List.filter_nil]
  have fl:xA kv.2=true:=by rcases hk kv (uM hv)with⟨i,e⟩|⟨z,e⟩<;>(rw[e];rfl)
  have iv:inV kv.2 [.str "great",.str "nought"]=(decide (kv.2=.str "great") || decide (kv.2=.str "nought")):=by
   rcases hk kv (uM hv)with⟨i,e⟩|⟨z,e⟩
   ·rw[e];rfl
   ·rw[e]
    show(("great":Str) == z || (("nought":Str) == z || false))=_;rw[Bool.or_false]
    congr 1<;>(rw[UY,beq_iff_eq,decide_eq_true_iff];exact⟨fun e=>by rw[e],fun e=>(V.str.inj e).symm⟩)
  refine zf rfl ⟨by show 2<=sizeLine;lia,fun tp htp=>⟨tp,(zf rfl ⟨.inr (SqT.of zg),fl,rfl,(zf rfl ?_)⟩)⟩⟩;have ntd:d≠tp:=zk f2 htp;have k3:∀b u,b≠d->H b=some u->upd H' tp (.tup [.str "great",.str "nought"]) b=some u:=fun b u n e=>old htp (k2 b u n e);have f3:upd H' tp (.tup [.str "great",.str "nought"]) d=some (.frz ob (.dK kvs)):=old htp f2;show if(inV kv.2 [.str "great",.str "nought"])=true then _ else _
  rw[iv];split
  ·next c =>
   rw[if_pos c]at step;exact zf rfl ⟨lw,k3,f3,⟨_,rfl⟩,step.symm⟩
  ·next c =>
   rw[if_neg c,Uu]at step;exact⟨k3,f3,⟨_,rfl⟩,step.symm⟩
 ·rintro τ ys H' ⟨k2,f2,_,rfl⟩ pl hpl
  rw[U7];refine⟨d,ob,kvs,old hpl f2,(fun o u z=>by rw[hd]at z;cases z),q _ pl (fun b u e=>?_) (by rw[zh (zk f2 hpl).symm];exact zg)⟩;by_cases c:b=d
  ·rw[c,zg];rw[c,hd]at e;exact e
  ·rw[zh c];exact old hpl (k2 b u c e)
end
end GN
namespace L2
open PySem
structure jPPs(X:Cx)(pos:Pos)(keys:List (Option Expr))(values:List Expr)(trs:List (TE×TE)):Prop where
 out:PPs X pos keys values trs
theorem zaZ:jPPs X pos [] [] []:=⟨zap⟩
theorem xP{k v:Expr}{ks:List (Option Expr)}{vs:List Expr}{tk:TE}(hk:jE X k tk)(hv:jE X v tv)(hr:jPPs X pos ks vs trs):jPPs X pos (some k::ks) (v::vs) ((tk,tv)::trs):=⟨V5 hk.out hv.out hr.out⟩
theorem za0{k v:Expr}{values:List Expr}(h:jPPs X pos (some k::keys) (v::values) trs)(hall:(some k::keys).all (·.isSome)=true:=by rfl)(hl:(some k::keys).length=(v::values).length:=by rfl)(h15:(some k::keys).length<=15:=by with_unfolding_all decide):jE X (.Dict (some k::keys) (v::values) pos) (zbw trs):=⟨zaq h.out hall hl (by simp) h15⟩
end L2
namespace GN
open PySem L2 K11
theorem J0{b:Bool}{A B:Prop}(e:b=true)(h:A):if b=true then A else B:=by rw[if_pos e];exact h
theorem W4{c:Bool}{t:TT}{k:Bool->Hp->Prop}{σ:L2.St}(ht:∀k,k z H->t σ H k)(h1:c=true->z=true->k true H)(h2:¬ (c=true/\z=true)->k false H):if c=true then t σ H k else k false H:=by
 cases c
 ·exact iteF (h2 fun z=>by cases z.1)
 ·refine iteT (ht k ?_)
  cases z
  ·exact h2 fun z=>by cases z.2
  ·exact h1 rfl rfl
def WD7:lS:=["plus","minus","times","over","rest","less","same"]
inductive spOpL(vs:List V)(H:Hp)(Q:VK)(e_3:XK):Prop
 |mk (w:Str) (i:Int):(∃j:Int,vs=[.str w,.int i,.int j]/\w∈WD7/\K31.Sm i/\K31.Sm j/\(K31.fw w (some i) (some j)=""->∀H',Same H H'->Q (.int (K31.res w i j)) H')/\(K31.fw w (some i) (some j)≠""->∀H',Same H H'->Q (.str (K31.fw w (some i) (some j))) H'))->spOpL vs H Q e_3
def kv5(i j:Int):List (Key×V):=[(.inr "plus",.int (i+j)),(.inr "minus",.int (i-j)),(.inr "times",.int (i*j)),(.inr "less",.int (if decide (i < j)then 1 else 0)),(.inr "same",.int (if decide (V.int i=V.int j)then 1 else 0))]
section
variable{K:ua}
theorem scOpL:FnScope ["_law_word","_law_a","_law_b","_law_found"] ["_law_word","_law_a","_law_b"] (zo Jg):=⟨rfl,rfl,rfl,by decide +kernel,rfl,by decide +kernel,by decide +kernel⟩
theorem zc1(F:Fun K "_law_op" "_law_op" Jg f fd)(m_int:mg "int"=none)(m_abs:mg "abs"=none):FnOk P w K mg base CX0 2 f fd ["_law_word","_law_a","_law_b"] spOpL:=by
 refine F.by scOpL (fun vs H Q E h=>?_) (fun cdv A outer s H vs Q E hr h=>?_)
 ·obtain⟨w,i,j,rfl,_⟩:=h
  rfl
 obtain⟨w,i,j,rfl,hw,hi,hj,q1,q2⟩:=h;refine⟨_,
  (zj (zK (jW.pt (we (zv (YM K) (jv 0) (zT (ja_c zu (ja_c zu zi))) (by with_unfolding_all rfl)) (xq (zv z6 (jv 2) zp (zy _)))))
   (zn (zw zu))  zD)
  (zj (zE (i:=3) scOpL.nd rfl (Or.inl rfl) (za0 (xP zu (zH xc (jv 1) (jv 2)) (xP zu (zH wN (jv 1) (jv 2)) (xP zu (zH Zz (jv 1) (jv 2)) (xP zu (yu ZB rfl m_int Up (ja_c (yB xI (jv 1) (jv 2) (zy _)) zi)) (xP zu (yu ZB rfl m_int Up (ja_c (yB z6 (jv 1) (jv 2) (zy _)) zi)) zaZ)))))))
  (zj (zK (zv (YM K) (jv 0) (zT (ja_c zu (ja_c zu zi))) (by with_unfolding_all rfl))
   (zn (yy hr (jv 3) (jv 0) (zR (zA K) (zU (ja_c (zH Z8 (jv 1) (jv 2)) (ja_c (zH ZA (jv 1) (jv 2)) zi))) (yu ZB rfl m_int Up (ja_c (yB z6 (jv 0) zu (zy _)) zi)) (fun _ _=>rfl))))  zD)
  (zj (zK (zv zdr (zJ zcN rfl m_abs PyProof.Rows.boot_abs (ja_c (yF hr (jv 3) (jv 0)) zi)) (zH xH zp zp) (zy _))
   (zn (zw zu))  zD)
  (zn (zw (yF hr (jv 3) (jv 0)))))))),?_⟩
 have sl:=ym;have fin:∀H' (d:Addr) (kvs:List (Key×V)),Same H H'->H' d=some (.dK kvs)->valV kvs (.inr w)=some (.int (K31.res w i j))->(¬ (j=0/\(w="over"\/w="rest")))->(tSeq (tIfS (wn (tOp (rI0 fun i j=>V.bl (decide (j<=i))) (tCB (fun xs H Q=>∃i,xs=[V.int i]/\Q (V.int (if i < 0 then -i else i)) H) (yf (XG (tVar 3) (tVar 0)) tNil)) (tOp (rI CPow fun i j=>V.int (i ^ j.toNat)) (tC (V.int 10)) (tC (V.int 30))))) (tRet (tC (V.str "great"))) wX) (tRet (XG (tVar 3) (tVar 0))):TS) { nx:=fun x H'=>Q V.non H',rt:=Q } [some (.str w),some (.int i),some (.int j),sR d] H':=by
  intro H' d kvs s' hd hv nz;have e30:(10:Int) ^ (30:Int).toNat=1000000000000000000000000000000:=by decide
  have gd:DGet H' d (V.str w) (some (.int (K31.res w i j))):=by rw[<- hv];exact DGet.k (k:=.inr w) hd
  rw[K31.fw_ss,if_neg nz]at q1 q2;refine zx rfl rfl ⟨d,(zf rfl ⟨gd,(zf rfl ⟨10,30,rfl,rfl,⟨by decide,by decide,by decide⟩,?_⟩)⟩)⟩;dsimp only[]
  rw[e30];refine(zI rfl rfl (zf rfl ?_));by_cases c:-1000000000000000000000000000000 < K31.res w i j/\K31.res w i j < 1000000000000000000000000000000
  ·refine Yi (decide_eq_false ?_) (nxtC (zx rfl rfl ⟨d,(zf rfl ⟨gd,q1 (if_pos c) H' s'⟩)⟩))
   split<;>lia
  ·rw[if_neg c]at q2
   refine J0 (decide_eq_true ?_) (q2 (by decide) H' s')
   split<;>lia
 have inw:∀H' (Q':Bool->Hp->Prop) (σ:L2.St),σ[0]?=some (some (.str w))->(∀H2,Same H' H2->Q' (decide (w="over"\/w="rest")) H2)->(wn (tOp (rIn K false) (tVar 0) (tTup (yf (tC (V.str "over")) (yf (tC (V.str "rest")) tNil))))) σ H' Q':=by
  intro H' Q' σ h0 k;have iv:inV (V.str w) [.str "over",.str "rest"]=decide (w="over"\/w="rest"):=by
   show((("over":Str) == w) || ((("rest":Str) == w) || false))=_;rw[Bool.or_false,UY,Bool.or_eq_true,beq_iff_eq,beq_iff_eq,decide_eq_true_iff];exact⟨fun e=>e.imp Eq.symm Eq.symm,fun e=>e.imp Eq.symm Eq.symm⟩
  refine zf h0 ⟨by show 2<=sizeLine;lia,fun tp htp=>⟨tp,(zf rfl ⟨.inr (SqT.of zg),rfl,rfl,(zf rfl ?_)⟩)⟩⟩;show Q' (inV (V.str w) [.str "over",.str "rest"]) _;rw[iv];exact k _ (same_new htp _)
 dsimp only[L2.start]
 refine inw H _ _ rfl fun H1 s1=>?_;refine W4 (z:=decide (V.int j=V.int 0)) (fun k h=>zf rfl ⟨rfl,(zf rfl (h))⟩) (fun c z=>iteT ?_) (fun n=>iteF (nxtC ?_))
 ·have c:=of_decide_eq_true c
  have z:j=0:=V.int.inj (of_decide_eq_true z);have e:K31.fw w (some i) (some j)="nought":=by rw[K31.fw_ss,if_pos ⟨z,c⟩]
  have:=q2 (by rw[e];decide) H1 s1
  rw[e]at this;exact this
 have nz:¬ (j=0/\(w="over"\/w="rest")):=fun c=>n ⟨decide_eq_true c.2,by rw[c.1];exact decide_eq_true rfl⟩;refine fun d hd0=>?_;have s2:=s1.new (o:=.dK []) hd0;refine zx rfl rfl (zI rfl rfl (zx rfl rfl (zI rfl rfl (zx rfl rfl (zI rfl rfl ⟨⟨hi.big,hj.big⟩,zx rfl rfl (zI rfl rfl (.inr (zf rfl (zx rfl rfl ⟨rfl,.inr (zf rfl ⟨zg,kv5 i j,rfl,by show 5<=15;decide,?_⟩)⟩))))⟩)))));have s3:Same H (upd (upd H1 d (.dK [])) d (.dK (yA [] (kv5 i j)))):=fun b u e=>by rw[zh (zk (s1 _ _ e) hd0)];exact s2 _ _ e
 have hd3:upd (upd H1 d (.dK [])) d (.dK (yA [] (kv5 i j))) d=some (.dK (kv5 i j)):=by rw[zg];rfl
 dsimp only[uR]
 generalize upd (upd H1 d (.dK [])) d (.dK (yA [] (kv5 i j)))=H3 at *;refine inw H3 _ _ rfl fun H4 s4=>?_;have hd4:=s4 _ _ hd3;have s04:=s3.trans s4;by_cases c:w="over"\/w="rest"
 ·refine J0 (decide_eq_true c) ?_
  have nj:j≠0:=fun z=>nz ⟨z,c⟩;refine zx rfl rfl (zI rfl rfl ⟨⟨nj,hj.big⟩,zx rfl rfl (zI rfl rfl ⟨nj,by show 2<=sizeLine;lia,fun l hl=>zf rfl ⟨rfl,.inr (zf rfl ?_)⟩⟩)⟩);have s5:=same_new hl (.lst [.int (i.fdiv j),.int (i.fmod j)]);have hl5:=zg (H:=H4) (a:=l) (o:=.lst [.int (i.fdiv j),.int (i.fmod j)]);have hd5:=s5 _ _ hd4;generalize upd H4 l (.lst [.int (i.fdiv j),.int (i.fmod j)])=H5 at *;have at5:atI ([.int (i.fdiv j),.int (i.fmod j)]:List V) (if decide (V.str w=V.str "rest")=true then 1 else 0)=some (.int (K31.res w i j)):=by
   rcases c with rfl|rfl
   ·rfl
   ·rfl
  have s05:=s04.trans s5;refine⟨l,_,_,_,rfl,rfl,SqL.of hl5,at5,zx rfl rfl ⟨d,(zf rfl ⟨DPut.k (k:=.inr w) hd5 (by show 5 < sizeLine;lia),?_⟩)⟩⟩;refine fin _ d _ ?_ zg (by rw[vM,if_pos rfl]) nz;intro b u e;rw[zh ?_]
  ·exact s05 _ _ e
  ·intro z
   rw[z]at e
   have:=s1 _ _ e
   rw[hd0]at this;cases this
 ·refine Yi (decide_eq_false c) (nxtC (fin H4 d _ s04 hd4 ?_ nz))
  have:w="plus"\/w="minus"\/w="times"\/w="less"\/w="same":=by
   unfold WD7 at hw;simp only[uh,uL,or_false]at hw
   rcases hw with e|e|e|e|e|e|e
   ·exact .inl e
   ·exact .inr (.inl e)
   ·exact .inr (.inr (.inl e))
   ·exact absurd (.inl e) c
   ·exact absurd (.inr e) c
   ·exact .inr (.inr (.inr (.inl e)))
   ·exact .inr (.inr (.inr (.inr e)))
  rcases this with rfl|rfl|rfl|rfl|rfl
  ·rfl
  ·rfl
  ·rfl
  ·show some (V.int (if decide (i < j)=true then 1 else 0))=some (V.int (if i < j then 1 else 0))
   simp
  ·show some (V.int (if decide (V.int i=V.int j)=true then 1 else 0))=some (V.int (if i=j then 1 else 0))
   simp
def xx(k:Nat):Str:=lt (k % 26)++("z":Str)++lt (k / 26 % 26)
def exL(st:Int):lS:=(uZ (st % 10).toNat).map fun(j:Nat)=>lt (st / ((j:Int)+2) % 26).toNat
def nmL(st:Int)(k:Nat):Str:=if st / 10 % 2=0 then Str.join "" (exL st)++xx k else xx k++Str.join "" (exL st)
theorem wE(k:Nat):cl (xx k)=[97+k % 26,122,97+k / 26 % 26]:=by
 unfold xx;rw[xi,xi]
 rfl
theorem W5(k:Nat):(xx k).length=3:=by rw[<- vU,wE];rfl
theorem za1(st:Int):∀z∈exL st,z.length=1:=by
 intro z hz;obtain⟨j,_,rfl⟩:=uw.mp hz
 rfl
theorem za2(st:Int):(exL st).length<=9:=by
 unfold exL;rw[uc,List.length_range];lia
inductive spNameL(K:ua)(vs:List V)(H:Hp)(Q:VK)(e_3:XK):Prop
 |mk (a:Addr) (ns:List Int):(∃k:Nat,vs=[.ref a,.int (k:Int)]/\SqL K H a (ns.map V.int)/\∀H',Same H H'->Q (.str (nmL (clAt ns 2) k)) H')->spNameL K vs H Q e_3
theorem scNameL:FnScope ["_law_script","_law_k","_law_letters","_law_stem","_law_core","_law_extra"] ["_law_script","_law_k"] (zo Zu):=⟨rfl,rfl,rfl,by decide +kernel,rfl,by decide +kernel,by decide +kernel⟩
theorem za3:(["_law_script","_law_k","_law_letters","_law_stem","_law_core","_law_extra","_law_j"]:lS).Nodup:=by decide +kernel
theorem J2(F:Fun K "_law_name" "_law_name" Zu f fd)(GC:Ca P w K mg base CX0 1 "_law_cell_at" ["_law_script","_law_k"] (spCellL K))(m_range:mg "range"=none):FnOk P w K mg base CX0 2 f fd ["_law_script","_law_k"] (spNameL K):=by
 refine F.by scNameL (fun vs H Q E h=>?_) (fun cdv A outer s H vs Q E hr h=>?_)
 ·obtain⟨a,ns,k,rfl,_⟩:=h
  rfl
 obtain⟨a,ns,k,rfl,hS,q⟩:=h;refine⟨_,
  (zj (zE (i:=2) scNameL.nd rfl (Or.inr rfl) zu)
  (zj (zE (i:=3) scNameL.nd rfl (Or.inr rfl) (zM GC hr rfl zB (ja_c (jv 0) (ja_c zp zi))))
  (zj (zE (i:=4) scNameL.nd rfl (Or.inl rfl) (zH xt (zH xt (zR YG (jv 2) (zH yz (jv 1) zp) (fun _ _=>rfl)) zu) (zR YG (jv 2) (zH yz (zH yN (jv 1) zp) zp) (fun _ _=>rfl))))
  (zj (zE (i:=5) scNameL.nd rfl (Or.inl rfl) (yR PySem.F.plainAttrs_str PySem.F.slot_str_join PySem.F.type_str_join Q7 zu (ja_c (xa ["_law_j"] rfl (yL rfl m_range (ja_c (zH yz (jv 3) zp) zi)) (fun _ _ _ _ _=>(zG (i:=6) za3 rfl (Or.inl rfl))) (fun _ _ _ _ _=>yC) (fun _ _ _ _ _=>(zR YG (jv 2) (zH yz (zH yN (jv 3) (zH xc (jv 6) zp)) zp) (fun _ _=>rfl)))) zi)))
  (zn (zw (zR (zA K) (zU (ja_c (zH xt (jv 5) (jv 4)) (ja_c (zH xt (jv 4) (jv 5)) zi))) (zH yz (zH yN (jv 3) zp) zp) (fun _ _=>rfl)))))))),?_⟩
 have sl:=ym;refine zf rfl ⟨a,ns,2,rfl,hS,?_⟩;generalize clAt ns 2=st at *;have e1:((k:Nat):Int) % 26=((k % 26:Nat):Int):=by lia
 have e2:((k:Nat):Int) / 26 % 26=((k / 26 % 26:Nat):Int):=by lia
 have ec:(⟨#[97+(((k:Nat):Int) % 26).toNat]⟩:Str)++("z":Str)++(⟨#[97+(((k:Nat):Int) / 26 % 26).toNat]⟩:Str)=xx k:=by
  rw[e1,e2]
  rfl
 have cl3:=W5 k
 suffices rest:∀c3:Str,c3=xx k->(tSeq _ _:TS) { nx:=fun _ H'=>Q .non H',rt:=Q } [sR a,some (.int (k:Nat)),some (.str LET),some (.int st),some (.str c3),none] H by
  exact zx rfl rfl ⟨_,_,rfl,rfl,(by show(0:Int) < _;decide),LET,_,_,rfl,rfl,by rw[Zx];decide,Zw (by lia) (by lia),_,_,rfl,rfl,by show 1+1<=sizeLine;lia,zx rfl rfl ⟨_,_,rfl,rfl,⟨by decide,by decide⟩,_,_,rfl,rfl,(by show(0:Int) < _;decide),LET,_,_,rfl,rfl,by rw[Zx];decide,Zw (by lia) (by lia),_,_,rfl,rfl,by show 2+1<=sizeLine;lia,rest _ ec⟩⟩
 rintro _ rfl;have j0:=UK st (show(10:Int)≠0 by decide);have j1:=Ux st (show(0:Int) < 10 by decide);refine⟨rfl,zf rfl ⟨_,_,rfl,rfl,(by show(0:Int) < _;decide),_,rfl,by lia,by lia,xB (n:=(st % 10).toNat) (fun i τ ys H'=>Same H H'/\(∃x,τ=[sR a,some (.int (k:Nat)),some (.str LET),some (.int st),some (.str (xx k)),none,x])/\ys=(((uZ i).map fun(j:Nat)=>lt (st / ((j:Int)+2) % 26).toNat).map V.str)) ⟨Same.refl _,⟨none,rfl⟩,rfl⟩ ?_ ?_⟩⟩
 ·rintro i τ ys H2 hi ⟨s2,⟨x,rfl⟩,rfl⟩
  have c0:=UK (st / (0+(i:Int)+2)) (show(26:Int)≠0 by decide);have c1:=Ux (st / (0+(i:Int)+2)) (show(0:Int) < 26 by decide);refine⟨_,rfl,zx rfl rfl ⟨_,_,rfl,rfl,_,_,rfl,rfl,⟨by lia,by lia⟩,_,_,rfl,rfl,(by show(0:Int) < _;decide),LET,_,_,rfl,rfl,by rw[Zx];decide,Zw c0 c1,?_,s2,⟨_,rfl⟩,?_⟩⟩
  ·rw[uc,uc,List.length_range];lia
  ·rw[List.range_succ,uH,uH,Int.zero_add]
   rfl
 rintro τ ys H2 ⟨s2,_,rfl⟩ pj hpj;have x1:=za1 st;have x9:=za2 st;have s3:=s2.new (o:=.lst ((exL st).map V.str)) hpj;refine⟨"",pj,exL st,rfl,rfl,SqL.of zg,by rw[Jh x1];lia,?_⟩;have jl:(Str.join "" (exL st)).length<=9:=by rw[Ya x1];exact x9
 dsimp only[uR]
 have sm:(Str.join "" (exL st)).length+(xx k).length<=sizeLine:=by lia
 refine zx rfl rfl ⟨_,_,rfl,rfl,sm,zx rfl rfl ⟨_,_,rfl,rfl,by lia,by show 2<=sizeLine;lia,fun l hl=>?_⟩⟩;have d0:=UK (st / 10) (show(2:Int)≠0 by decide);have d1:=Ux (st / 10) (show(0:Int) < 2 by decide);refine zf rfl ⟨_,_,rfl,rfl,⟨by decide,by decide⟩,_,_,rfl,rfl,(by show(0:Int) < _;decide),l,_,_,.str (nmL st k),rfl,rfl,SqL.of zg,?_,q _ (s3.new hl)⟩;unfold nmL;by_cases c:st / 10 % 2=0
 ·rw[if_pos c,c]
  rfl
 ·rw[if_neg c,show st / 10 % 2=1 by lia]
  rfl
end
end GN
namespace L2
open PySem PySem.Spec PyProof.Rows
def rSlf:R2:=fun x y H Q=>∃p xs,x=.ref p/\y=.ref p/\H p=some (.tup xs)/\Q (.bl false) H
def rDNE:R2:=fun x y H Q=>∃p p' kvs,x=.ref p/\y=.ref p'/\H p=some (.dK kvs)/\H p'=some (.dK [])/\Q (.bl (!kvs.isEmpty)) H
theorem J6(hu:X.A.units+64 < cLine):OpR X (compareOp .NotEq) rSlf:=by
 intro pins s σ H x y v u Q I rx ry h;obtain⟨p,xs,rfl,rfl,h1,q⟩:=h;cases rx;cases ry;obtain⟨i1,v1,m1,_⟩:=I.tuple (SqT.of h1);have main:=SeqAt.RcNeAt.tuples (A:=X.A) (s:=s) (e:=fun _=>true) m1 m1 (by lia) (fun j _ _=>.same _);have eb:((uZ (min i1.toArray.size i1.toArray.size)).all (fun _=>true) && i1.toArray.size == i1.toArray.size)=true:=by
  rw[show(uZ (min i1.toArray.size i1.toArray.size)).all (fun _=>true)=true from UE.mpr fun _ _=>rfl];simp
 rw[eb]at main;exact main _ _ _ _ ⟨.bl false,H,I,rfl,q⟩
theorem J7{k:Nat}(hr:Room k X.A):jOp X (compareOp .NotEq) rSlf:=⟨J6 hr.units⟩
theorem zc2(hu:X.A.units+64 < cLine):OpR X (compareOp .NotEq) rDNE:=by
 intro pins s σ H x y v u Q I rx ry h;obtain⟨p,p',kvs,rfl,rfl,h1,h2,q⟩:=h;cases rx;cases ry;obtain⟨z1,d1,vs,r1,dd1⟩:=y8 I.hok h1;obtain⟨z2,d2,vs',r2,dd2⟩:=y8 I.hok h2;cases r2;have l1:=r1.length;refine PySem.W.keq_ne d1 d2 dd1 dd2 (by lia) (r:=true) (fun e=>?_) ?_
 ·cases vs with
  |nil=>exact .nil
  |cons a b=>cases e
 ·have e:(!(vs.length == ([]:List (Key×Value)).length && true))=!kvs.isEmpty:=by
   cases kvs with
   |nil=>rw[<- l1];rfl
   |cons a b=>rw[<- l1];rfl
  rw[e];exact⟨.bl _,H,I,rfl,q⟩
theorem J8{k:Nat}(hr:Room k X.A):jOp X (compareOp .NotEq) rDNE:=⟨zc2 hr.units⟩
end L2
namespace GN
open PySem L2 K11
variable{h:Nm}
theorem J9{c:Bool}{t:TT}{k:Bool->Hp->Prop}{σ:L2.St}(ht:∀k,k z H->t σ H k)(h1:(c=true\/z=true)->k true H)(h2:c=false->z=false->k false H):if c=true then k true H else t σ H k:=by
 cases c
 ·refine iteF (ht k ?_)
  cases z
  ·exact h2 rfl rfl
  ·exact h1 (.inr rfl)
 ·exact iteT (h1 (.inl rfl))
theorem Y9{c:Bool}{t:TT}{k:Bool->Hp->Prop}{σ:L2.St}(R:Hp->Prop)(ht:∀k:Bool->Hp->Prop,(∀H',R H'->k z H')->t σ H k)(h0:R H)(h1:c=true->z=true->∀H',R H'->k true H')(h2:¬ (c=true/\z=true)->∀H',R H'->k false H'):if c=true then t σ H k else k false H:=by
 cases c
 ·exact iteF (h2 (fun z=>by cases z.1) H h0)
 ·refine iteT (ht k ?_)
  cases z
  ·exact h2 fun z=>by cases z.2
  ·exact h1 rfl rfl
theorem pick{ks:lS}(hk:ks≠[])(m:Int):∃a∈ks,(0:Int) < ((ks.map V.str).length:Nat)/\atI (ks.map V.str) (m % (((ks.map V.str).length:Nat):Int))=some (.str a):=by
 have hl:0 < ks.length:=List.length_pos_iff.mpr hk;have e0:=UK m (show((ks.length:Nat):Int)≠0 by lia);have e1:=Ux m (show(0:Int) < ((ks.length:Nat):Int) by lia);rw[uc];have hj:(m % ((ks.length:Nat):Int)).toNat < ks.length:=by lia
 refine⟨ks[(m % ((ks.length:Nat):Int)).toNat],List.getElem_mem _,by lia,?_⟩
 have:=zq (xs:=ks.map V.str) (j:=(m % ((ks.length:Nat):Int)).toNat) (v:=.str ks[(m % ((ks.length:Nat):Int)).toNat]) (by rw[ux,uf hj];rfl)
 rw[Int.toNat_of_nonneg e0]at this;exact this
theorem vk(h:Nm):((eh h).map fun kv=>kV kv.1)=(h.map (·.1)).map V.str:=by
 unfold eh;rw[UO,UO]
 rfl
structure NmOk(h:Nm):Prop where
 nd:(h.map (·.1)).Nodup
 sm:∀p∈h,K31.Sm p.2
theorem wF(hx:x∈h.map (·.1)):∃i,yp h x=some i:=by
 unfold yp;cases c:h.find? fun p=>decide (p.1=x)with
 |some p=>exact⟨_,rfl⟩
 |none =>
  obtain⟨p,hp,rfl⟩:=uw.mp hx
  have:=tT.mp c p hp
  simp at this
theorem jP{i:Int}(hx:yp h x=some i):(x,i)∈h:=by
 unfold yp at hx;obtain⟨p,hp,rfl⟩:=uz.mp hx;have h1:=UX hp;have h2:decide (p.1=x)=true:=List.find?_some (p:=fun p:Str×Int=>decide (p.1=x)) hp;have h2:=of_decide_eq_true h2;rw[<- h2];exact h1
theorem xQ{l:Nm}(hx:x∈h.map (·.1)++l.map (·.1)):∃i,lk2 h l x=some i:=by
 unfold lk2;cases c:yp h x with
 |some i=>exact⟨i,rfl⟩
 |none =>
  rcases u0.mp hx with hx|hx
  ·obtain⟨i,e⟩:=wF hx
   rw[e]at c;cases c
  ·exact wF hx
theorem jc{l:Nm}{i:Int}(H:NmOk h)(L:NmOk l)(e:lk2 h l x=some i):K31.Sm i:=by
 unfold lk2 at e;cases c:yp h x with
 |some j=>rw[c]at e;cases e;exact H.sm _ (jP c)
 |none=>rw[c]at e;exact L.sm _ (jP e)
def IsPc(H:Hp)(p:Addr):Pc->Prop
 |.num n i=>∃q,H p=some (.tup [.str "let",.str n,.ref q])/\H q=some (.tup [.str "num",.int i])
 |.op n w a b=>∃q,H p=some (.tup [.str "let",.str n,.ref q])/\H q=some (.tup [.str "op",.str w,.str a,.str b])
 |.hold n y=>H p=some (.tup [.str "hold",.str n,.str y])
 |.drop y=>H p=some (.tup [.str "drop",.str y])
theorem IsPc.same{p:Addr}{c:Pc}(h:IsPc H p c)(s:Same H H'):IsPc H' p c:=by
 cases c with
 |num n i=>obtain⟨q,a,b⟩:=h;exact⟨q,s _ _ a,s _ _ b⟩
 |op n w a b=>obtain⟨q,a,b⟩:=h;exact⟨q,s _ _ a,s _ _ b⟩
 |hold n y=>exact s _ _ h
 |drop y=>exact s _ _ h
def PcS(h l:Nm)(n:Str):Pc->Prop
 |.num m i=>m=n/\K31.Sm i
 |.op m w a b=>m=n/\w∈WD7/\a∈h.map (·.1)++l.map (·.1)/\b∈h.map (·.1)++l.map (·.1)
 |.hold m y=>m=n/\y∈h.map (·.1)++l.map (·.1)
 |.drop y=>y∈h.map (·.1)
theorem PcS.ok{l:Nm}{n:Str}{c:Pc}(H:NmOk h)(L:NmOk l)(s:PcS h l n c):PcOk h l c:=by
 cases c with
 |num m i=>trivial
 |op m w a b =>
  obtain⟨_,_,ha,hb⟩:=s;obtain⟨i,ei⟩:=xQ ha;obtain⟨j,ej⟩:=xQ hb;exact⟨i,j,ei,ej,jc H L ei,jc H L ej⟩
 |hold m y=>exact xQ s.2
 |drop y=>exact wF s
inductive spPieceL(vs:List V)(H:Hp)(Q:VK)(e_3:XK):Prop
 |mk (hd:Addr) (ld:Addr) (h:Nm) (l:Nm) (n:Str):(∃c:Int,vs=[.ref hd,.ref ld,.str n,.int c]/\H hd=some (.dK (eh h))/\H ld=some (.dK (eh l))/\h.length+l.length<=1000/\∀H' p pc,Same H H'->H p=none->IsPc H' p pc->PcS h l n pc->Q (.ref p) H')->spPieceL vs H Q e_3
section
variable{K:ua}
theorem scPieceL:FnScope ["_law_hands","_law_lent","_law_name_here","_law_cell","_law_near","_law_way","_law_a","_law_word"] ["_law_hands","_law_lent","_law_name_here","_law_cell"] (zo v4):=⟨rfl,rfl,rfl,by decide +kernel,rfl,by decide +kernel,by decide +kernel⟩
theorem W6(F:Fun K "_law_piece" "_law_piece" v4 f fd)(GN':Ca P w K mg base CX0 1 "_law_number" ["_law_cell"] Y8)(m_len:mg "len"=none)(m_list:mg "list"=none):FnOk P w K mg base CX0 2 f fd ["_law_hands","_law_lent","_law_name_here","_law_cell"] spPieceL:=by
 refine F.by scPieceL (fun vs H Q E h=>?_) (fun cdv A outer s H vs Q E hr h=>?_)
 ·obtain⟨hd,ld,h,l,n,c,rfl,_⟩:=h
  rfl
 obtain⟨hd,ld,h,l,n,c,rfl,hh,hl,hz,q⟩:=h;refine⟨_,
  (zj (zE (i:=4) scPieceL.nd rfl (Or.inl rfl) (zH YF (yu (yJ rfl) rfl m_list u5 (ja_c (jv 0) zi)) (yu (yJ rfl) rfl m_list u5 (ja_c (jv 1) zi))))
  (zj (zE (i:=5) scPieceL.nd rfl (Or.inl rfl) (zH yz (jv 3) zp))
  (zj (zK (jW.pt (xE (zv (YK hr) (jv 4) (zU zi) (zy _)) (xD (zv xI (jv 5) zp (zy _)))))
   (zn (zw (zT (ja_c zu (ja_c (jv 2) (ja_c (zT (ja_c zu (ja_c (zR (zA K) (zU (ja_c (zH wN (zH yz (zH yN (jv 3) zp) zp) zp) (ja_c (zM GN' hr rfl zB (ja_c (jv 3) zi)) zi))) (zH yz (jv 5) zp) (fun _ _=>rfl)) zi))) zi))))))  zD)
  (zj (zE (i:=6) scPieceL.nd rfl (Or.inl rfl) (zR (zA K) (jv 4) (zH yz (zH yN (jv 3) zp) (zJ (zQ K) rfl m_len uV (ja_c (jv 4) zi))) (fun _ _=>rfl)))
  (zj (zK (jW.pt (we (zv z6 (jv 5) zp (zy _)) (xq (zv (J8 hr) (jv 0) yx (zy _)))))
   (zn (zw (zT (ja_c zu (ja_c (zR (zA K) (yu (yJ rfl) rfl m_list u5 (ja_c (jv 0) zi)) (zH yz (zH yN (jv 3) zp) (zJ zat rfl m_len uV (ja_c (jv 0) zi))) (fun _ _=>rfl)) zi)))))  zD)
  (zj (zK (zv z6 (jv 5) zp (zy _))
   (zn (zw (zT (ja_c zu (ja_c (jv 2) (ja_c (jv 6) zi))))))  zD)
  (zj (zE (i:=7) scPieceL.nd rfl (Or.inl rfl) (zR (zA K) (zU (ja_c zu (ja_c zu (ja_c zu (ja_c zu (ja_c zu (ja_c zu (ja_c zu zi)))))))) (zH yz (zH yN (jv 3) zp) zp) (fun _ _=>rfl)))
  (zn (zw (zT (ja_c zu (ja_c (jv 2) (ja_c (zT (ja_c zu (ja_c (jv 7) (ja_c (jv 6) (ja_c (zR (zA K) (jv 4) (zH yz (zH yN (jv 3) zp) (zJ (zQ K) rfl m_len uV (ja_c (jv 4) zi))) (fun _ _=>rfl)) zi))))) zi))))))))))))),?_⟩
 have sl:=ym;refine zf rfl ⟨hd,(zf rfl ⟨hh,fun a1 f1=>zf rfl ⟨ld,(zf rfl ⟨old f1 hl,fun a2 f2=>⟨a1,a2,(zI rfl rfl ⟨old f2 zg,zg,?_,fun nr f3=>?_⟩)⟩⟩)⟩⟩)⟩
 ·rw[uc,uc,yt,yt];lia
 have s3:=((same_new f1 (.lst ((eh h).map fun kv=>kV kv.1))).new (o:=.lst ((eh l).map fun kv=>kV kv.1)) f2).new (o:=.lst (((eh h).map fun kv=>kV kv.1)++((eh l).map fun kv=>kV kv.1))) f3;have hn3:=zg (H:=upd (upd H a1 (.lst ((eh h).map fun kv=>kV kv.1))) a2 (.lst ((eh l).map fun kv=>kV kv.1))) (a:=nr) (o:=.lst (((eh h).map fun kv=>kV kv.1)++((eh l).map fun kv=>kV kv.1)));dsimp only[uR,L2.start]
 generalize upd (upd (upd H a1 (.lst ((eh h).map fun kv=>kV kv.1))) a2 (.lst ((eh l).map fun kv=>kV kv.1))) nr (.lst (((eh h).map fun kv=>kV kv.1)++((eh l).map fun kv=>kV kv.1)))=H3 at *;rw[vk,vk,<- uH]at hn3;have w0:=UK c (show(7:Int)≠0 by decide);have w1:=Ux c (show(0:Int) < 7 by decide);refine zf rfl (zI rfl rfl ⟨(by show(0:Int) < _;decide),zf rfl ⟨by show 0<=sizeLine;lia,fun le f4=>⟨nr,le,(zf rfl ⟨rfl,SqL.of (old f4 hn3),SqL.of zg,(zf rfl ?_)⟩)⟩⟩⟩);have s4:=s3.new (o:=.lst []) f4;have hn4:=old (o:=.lst []) f4 hn3;dsimp only[uR]
 generalize upd H3 le (.lst [])=H4 at *;refine J9 (z:=decide (c % 7 < 2)) (fun k h=>zf rfl (zI rfl rfl (zf rfl (h)))) (fun _=>iteT ?_) (fun n1 n2=>iteF (nxtC ?_))
 ·have e0:=UK (c / 7) (show(9:Int)≠0 by decide)
  have e1:=Ux (c / 7) (show(0:Int) < 9 by decide);have v0:=UK (c % 7) (show(2:Int)≠0 by decide);have v1:=Ux (c % 7) (show(0:Int) < 2 by decide);obtain⟨i,hat,hi⟩:∃i,atI ([.int (c / 7 % 9-4),.int (Ym c)]:List V) (c % 7 % 2)=some (.int i)/\K31.Sm i:=by
   by_cases z:c % 7 % 2=0
   ·exact⟨_,by rw[z];rfl,by constructor<;>lia⟩
   ·exact⟨_,by rw[show c % 7 % 2=1 by lia];rfl,Yn c⟩
  refine zf rfl (zf rfl (zI rfl rfl ⟨⟨by decide,by decide⟩,(zI rfl rfl ⟨(by show(0:Int) < _;decide),(zI rfl rfl (zf rfl ⟨c,rfl,by show 2<=sizeLine;lia,fun l5 f5=>zf rfl (zI rfl rfl ⟨(by show(0:Int) < _;decide),l5,_,_,_,rfl,rfl,SqL.of zg,hat,by show 2<=sizeLine;lia,fun q6 f6=>⟨by show 3<=sizeLine;lia,fun p7 f7=>?_⟩⟩)⟩))⟩)⟩));have s5:=s4.new (o:=.lst [.int (c / 7 % 9-4),.int (Ym c)]) f5;have s6:=s5.new (o:=.tup [.str "num",.int i]) f6;exact q _ p7 (.num n i) (s6.new f7) (s6.free f7) ⟨q6,zg,old f7 zg⟩ ⟨rfl,hi⟩
 have n2:=of_decide_eq_false n2;have hk:h.map (·.1)++l.map (·.1)≠[]:=by
  intro z;rw[z]at n1;cases n1
 obtain⟨a,ha,p0,hat⟩:=pick hk (c / 49);refine zx rfl rfl (zI rfl rfl ⟨⟨by decide,by decide⟩,zf rfl ⟨nr,(zf rfl ⟨.inl (SqL.of hn4),(zI rfl rfl ⟨p0,nr,_,_,_,rfl,rfl,SqL.of hn4,hat,?_⟩)⟩)⟩⟩);refine zf rfl ⟨rfl,(zf rfl (Y9 (z:=!(eh h).isEmpty) (Same H4) (fun k hk=>zf rfl fun dn fdn=>⟨hd,dn,(zf rfl ⟨rfl,old fdn (s4 _ _ hh),zg,(zf rfl (hk _ (same_new fdn _)))⟩)⟩) (Same.refl _) (fun c6 ne H5 s5=>iteT ?_) (fun _ H5 s5=>iteF (nxtC ?_))))⟩
 ·have hk2:h.map (·.1)≠[]:=fun z=>by
   have:h=[]:=List.map_eq_nil_iff.mp z
   rw[this]at ne;cases ne
  obtain⟨y,hy,p1,hyt⟩:=pick hk2 (c / 7);refine zf rfl ⟨hd,(zf rfl ⟨s5 _ _ (s4 _ _ hh),fun l6 f6=>?_⟩)⟩;have hl6:=zg (H:=H5) (a:=l6) (o:=.lst ((eh h).map fun kv=>kV kv.1));rw[vk]at hl6 ⊢;have s6:=(s4.trans s5).new (o:=.lst ((h.map (·.1)).map V.str)) f6;generalize upd H5 l6 (.lst ((h.map (·.1)).map V.str))=H6 at *;have el:((eh h).length:Int)=(((h.map (·.1)).map V.str).length:Nat):=by rw[yt,uc,uc]
  refine zf rfl (zI rfl rfl ⟨⟨by decide,by decide⟩,zf rfl ⟨hd,(zf rfl ⟨s6 _ _ hh,(zI rfl rfl ⟨by rw[el];exact p1,l6,_,_,.str y,rfl,rfl,SqL.of hl6,by rw[el];exact hyt,by show 2<=sizeLine;lia,fun p7 f7=>?_⟩)⟩)⟩⟩);exact q _ p7 (.drop y) (s6.new f7) (s6.free f7) zg hy
 have s05:=s4.trans s5;have hn5:=s5 _ _ hn4;refine zf rfl ⟨rfl,(zf rfl ?_)⟩;by_cases c5:c % 7=5
 ·refine J0 (decide_eq_true (by rw[c5])) (zx rfl rfl ⟨by show 3<=sizeLine;lia,fun p6 f6=>?_⟩)
  exact q _ p6 (.hold n a) (s05.new f6) (s05.free f6) zg ⟨rfl,ha⟩
 ·refine Yi (decide_eq_false (fun z=>c5 (V.int.inj z))) (nxtC ?_)
  obtain⟨wd,hwd,_,hwt⟩:=pick (show WD7≠[] by unfold WD7;simp) (c / 7);have hwt:atI (WD7.map V.str) (c / 7 % 7)=some (.str wd):=hwt;refine⟨by show 7<=sizeLine;lia,fun l6 f6=>?_⟩;have hl6:upd H5 l6 (.lst [.str "plus",.str "minus",.str "times",.str "over",.str "rest",.str "less",.str "same"]) l6=some (.lst (WD7.map V.str)):=zg;have s6:=s05.new (o:=.lst [.str "plus",.str "minus",.str "times",.str "over",.str "rest",.str "less",.str "same"]) f6;have hn6:=old (o:=.lst [.str "plus",.str "minus",.str "times",.str "over",.str "rest",.str "less",.str "same"]) f6 hn5;generalize upd H5 l6 (.lst [.str "plus",.str "minus",.str "times",.str "over",.str "rest",.str "less",.str "same"])=H6 at *;obtain⟨b,hb,p2,hbt⟩:=pick hk (c / 539);refine zf rfl (zI rfl rfl ⟨⟨by decide,by decide⟩,(zI rfl rfl ⟨(by show(0:Int) < _;decide),l6,_,_,_,rfl,rfl,SqL.of hl6,hwt,?_⟩)⟩);refine zf rfl (zx rfl rfl (zx rfl rfl (zI rfl rfl ⟨⟨by decide,by decide⟩,zf rfl ⟨nr,(zf rfl ⟨.inl (SqL.of hn6),(zI rfl rfl ⟨p2,nr,_,_,.str b,rfl,rfl,SqL.of hn6,hbt,by show 4<=sizeLine;lia,fun q7 f7=>⟨by show 3<=sizeLine;lia,fun p8 f8=>?_⟩⟩)⟩)⟩⟩)));have s7:=s6.new (o:=.tup [.str "op",.str wd,.str a,.str b]) f7;exact q _ p8 (.op n wd a b) (s7.new f8) (s7.free f8) ⟨q7,zg,old f8 zg⟩ ⟨rfl,hwd,ha,hb⟩
end
end GN
namespace L2
open PySem PySem.Spec
def rUpd:V->List V->Hp->VK->Prop:=fun x vs H Q=>∃d o kvs more,x=.ref d/\vs=[.ref o]/\H d=some (.dK kvs)/\H o=some (.dK more)/\d≠o/\kvs.length+more.length<=sizeLine/\Q .non (upd H d (.dK (yA kvs more)))
theorem zc3:MtR X "dict.update" rUpd:=by
 intro pins s σ H x vs v us Q I rx rv h;obtain⟨d,o,kvs,more,rfl,rfl,hd,ho,hne,hz,q⟩:=h;cases rx;obtain⟨u,rfl,ru⟩:=rv.one;cases ru;obtain⟨z1,hs1,ws1,rel1,dd1⟩:=y8 I.hok hd;obtain⟨z2,hs2,ws2,rel2,dd2⟩:=y8 I.hok ho;refine call_meetsIn PySem.F.slot_dict_update dd1.typeIs PySem.F.entry_dict_update (PySem.F.args_dict_update_2 _ _) (meets_dict_update (zW X.prog X.w) d o hne hs2) ⟨_,_,dd1,dd2,(by rw[<- rel1.length,<- rel2.length];exact hz),fun h' dm _ sb=>?_⟩;have he:∃q,h'.get? d=some q:=let ⟨q,_,_,hq,_⟩:=dm;⟨q,hq⟩
 exact⟨.non,_,wB I (by rw[hd];exact True.intro) sb he (Zf (uy (xh more kvs) hz) hs1 (KV.merge rel2 rel1) dm),rfl,q⟩
theorem zc4:jMt X "dict.update" rUpd:=⟨zc3⟩
end L2
namespace L2
open PySem PySem.Spec PyProof.Rows
def Qa:List V->Hp->VK->Prop:=fun xs H Q=>∃d kvs,xs=[.ref d]/\H d=some (.dK kvs)/\∀l,H l=none->Q (.ref l) (upd H l (.dK kvs))
theorem jd:yO X (.type "dict") Qa:=by
 intro pins s σ H xs us Q I r h;obtain⟨d,kvs,rfl,hd,q⟩:=h;obtain⟨u,rfl,rx⟩:=xj r;cases rx;obtain⟨z,hs,ws,rel,dd⟩:=y8 I.hok hd;refine kt_call_dict (knd:=zW X.prog X.w) hs dd (by rw[<- rel.length];exact z) fun h' dn sb=>?_;have hk:∀b o,s.heap.get? b=some o->h'.get? b=some o:=fun b o e=>(sb.2 b (uI (um e))).trans (ub _ e);refine⟨.ref s.heap.objs.size,_,I.laid (t':=s.toks) hk (ui _) (show ObjOk X.prog X.w _ h' _ (.dK kvs)from⟨z,?_,ws,rel,dn⟩),rfl,q _ (I.hok.fresh (ui _))⟩
 have:=I.big
 exact beq_eq_false_iff_ne.mpr (fun e=>by rw[e]at this;exact u7 _ this)
theorem wG:jCa X (.type "dict") Qa:=⟨jd⟩
end L2
namespace GN
open PySem L2 K11
variable{h:Nm}{n:Str}{c:Pc}
theorem jf:∀{more kvs:List (Key×V)}{j:Key},(more.map (·.1)).Nodup->valV (yA kvs more) j=match valV more j with
  |some v=>some v
  |none=>valV kvs j
 |[],kvs,j,_=>rfl
 | (k,v)::r,kvs,j,hn=>by
  rw[uC,uW]at hn;have ih:=jf (more:=r) (kvs:=putK kvs k v) (j:=j) hn.2;show valV (yA (putK kvs k v) r) j=_;rw[ih,vM];by_cases c:k=j
  ·subst c
   have e:valV r k=none:=by
    unfold valV;rw[Option.map_eq_none_iff,tT];intro p hp z;exact hn.1 (uw.mpr ⟨p,hp,of_decide_eq_true z⟩)
   rw[e,yh (p:=(k,v)) rfl,if_pos rfl]
  ·rw[yn (p:=(k,v)) c,if_neg (Ne.symm c)]
theorem zbF(H:NmOk h):((eh h).map (·.1)).Nodup:=by
 unfold eh;rw[UO];have e:(h.map ((fun p:Key×V=>p.1) ∘ fun p:Str×Int=>(.inr p.1,.int p.2)))=(h.map (·.1)).map Sum.inr:=by rw[UO];rfl
 rw[e];exact List.Pairwise.map _ (fun _ _ n z=>n (Sum.inr.inj z)) H.nd
theorem Qb{l:Nm}(H:NmOk h)(x:Str):valV (yA (eh l) (eh h)) (.inr x)=(lk2 h l x).map V.int:=by
 rw[jf (zbF H),yX,yX];unfold lk2;cases yp h x<;>rfl
def nmP:Pc->Str
 |.num n _=>n
 |.op n _ _ _=>n
 |.hold n _=>n
 |.drop _=>""
def aft(h l:Nm)(c:Pc):List (Key×V):=match stp h l c with
 |.inl h'=>eh h'
 |.inr z=>putK (eh h) (.inr (nmP c)) (.str z)
inductive spBehindL(vs:List V)(H:Hp)(Q:VK)(e_3:XK):Prop
 |mk (hd:Addr) (ld:Addr) (p:Addr) (h:Nm) (l:Nm) (n:Str):(∃c:Pc,vs=[.ref hd,.ref ld,.ref p]/\H hd=some (.dK (eh h))/\H ld=some (.dK (eh l))/\NmOk h/\NmOk l/\h.length+l.length<=1000/\IsPc H p c/\PcS h l n c/\∀H' r,Same H H'->H r=none->H' r=some (.dK (aft h l c))->Q (.ref r) H')->spBehindL vs H Q e_3
section
variable{K:ua}
theorem scBehindL:FnScope ["_law_hands","_law_lent","_law_piece_here","_law_values","_law_found"] ["_law_hands","_law_lent","_law_piece_here"] (zo wT):=⟨rfl,rfl,rfl,by decide +kernel,rfl,by decide +kernel,by decide +kernel⟩
theorem Xb(F:Fun K "_law_behind" "_law_behind" wT f fd)(GO:Ca P w K mg base CX0 2 "_law_op" ["_law_word","_law_a","_law_b"] spOpL)(m_dict:mg "dict"=none):FnOk P w K mg base CX0 3 f fd ["_law_hands","_law_lent","_law_piece_here"] spBehindL:=by
 refine F.by scBehindL (fun vs H Q E h=>?_) (fun cdv A outer s H vs Q E hr h=>?_)
 ·obtain⟨hd,ld,p,h,l,n,c,rfl,_⟩:=h
  rfl
 obtain⟨hd,ld,p,h,l,n,c,rfl,hh,hl,Oh,Ol,hz,hp,hS,q⟩:=h;have r1:Room 1 _:=hr.mono (by decide);refine⟨_,
  (zj (zE (i:=3) scBehindL.nd rfl (Or.inl rfl) (yu wG rfl m_dict PyProof.Rows.boot_dict (ja_c (jv 1) zi)))
  (zj (zP (yR U6 PySem.F.slot_dict_update PySem.F.type_dict_update zc4 (jv 3) (ja_c (jv 0) zi)))
  (zj (zE (i:=4) scBehindL.nd rfl (Or.inl rfl) (yu wG rfl m_dict PyProof.Rows.boot_dict (ja_c (jv 0) zi)))
  (zj (zK (zv z6 (zC K (jv 2)) zu (zy _))
   (zn (zP (Z6 (jv 4) (zC K (jv 2)))))
   (zn (zK (zv z6 (zC K (jv 2)) zu (zy _))
    (zn (yy r1 (jv 4) (zC K (jv 2)) (yF r1 (jv 3) (zC K (jv 2)))))
    (zn (zK (zv z6 (zC K (zC K (jv 2))) zu (zy _))
     (zn (yy r1 (jv 4) (zC K (jv 2)) (zC K (zC K (jv 2)))))
     (zn (yy r1 (jv 4) (zC K (jv 2)) (zM GO hr rfl zB (ja_c (zC K (zC K (jv 2))) (ja_c (yF r1 (jv 3) (zC K (zC K (jv 2)))) (ja_c (yF r1 (jv 3) (zC K (zC K (jv 2)))) zi)))))))))))
  (zn (zw (jv 4))))))),?_⟩
 have sl:=ym;refine zf rfl ⟨ld,(zf rfl ⟨hl,fun v1 f1=>?_⟩)⟩;have nv:v1≠hd:=(zk hh f1).symm;refine zf rfl ⟨.inr (.inr (.inl ⟨rfl,.inl ⟨_,zg⟩⟩)),zf rfl ⟨v1,hd,(zI rfl rfl ⟨zg,old f1 hh,nv,by rw[yt,yt];lia,?_⟩)⟩⟩;have s1:Same H (upd (upd H v1 (.dK (eh l))) v1 (.dK (yA (eh l) (eh h)))):=fun b u e=>by rw[zh (zk e f1)];exact old f1 e
 have hv1:=zg (H:=upd H v1 (.dK (eh l))) (a:=v1) (o:=.dK (yA (eh l) (eh h)));dsimp only[uR,L2.start]
 generalize upd (upd H v1 (.dK (eh l))) v1 (.dK (yA (eh l) (eh h)))=H1 at *;refine zf rfl ⟨hd,(zf rfl ⟨s1 _ _ hh,fun r f2=>?_⟩)⟩;have fr:H r=none:=s1.free f2;have s2:=s1.new (o:=.dK (eh h)) f2;have hv2:=old (o:=.dK (eh h)) f2 hv1;have hr2:=zg (H:=H1) (a:=r) (o:=.dK (eh h));dsimp only[uR]
 generalize upd H1 r (.dK (eh h))=H2 at *;have hp2:=hp.same s2;have gd:∀{H':Hp}{x:Str}{i:Int},H' v1=some (.dK (yA (eh l) (eh h)))->lk2 h l x=some i->DGet H' v1 (V.str x) (some (.int i)):=fun{H' x i} e1 e2=>by
  have e:valV (yA (eh l) (eh h)) (.inr x)=some (.int i):=by rw[Qb Oh,e2];rfl
  rw[<- e];exact DGet.k (k:=.inr x) e1
 have hlen:(eh h).length < sizeLine:=by rw[yt];lia
 have fin:∀H3 kvs,Same H2 H3->aft h l c=kvs->(upd H3 r (.dK kvs)) r=some (.dK kvs)->Q (.ref r) (upd H3 r (.dK kvs)):=fun H3 kvs s3 e1 e2=>by
  refine q _ r (fun b u e=>?_) fr (by rw[e1];exact e2);rw[zh (zk e fr)];exact s3 _ _ (s2 _ _ e)
 unfold aft at fin;cases c with
 |drop y =>
  obtain⟨i,hi⟩:=wF hS;refine zf rfl (ixT hp2 (zq (j:=0) rfl) ⟨rfl,(zf rfl (iteT ?_))⟩);refine zf rfl ⟨r,rfl,.inl ⟨_,.inl hr2⟩,zf rfl (ixT hp2 (zq (j:=1) rfl) ⟨_,.inr y,_,hr2,rfl,by rw[yX,hi];rfl,zf rfl (fin H2 _ (Same.refl _) ?_ zg)⟩)⟩;rw[ZD]
  rfl
 |hold m y =>
  obtain⟨rfl,hy⟩:=hS;obtain⟨i,hi⟩:=xQ hy;refine zf rfl (ixT hp2 (zq (j:=0) rfl) ⟨rfl,(zf rfl (iteF ?_))⟩);refine zf rfl (ixT hp2 (zq (j:=0) rfl) ⟨rfl,(zf rfl (iteT ?_))⟩);refine zx rfl rfl (ixT hp2 (zq (j:=2) rfl) ⟨v1,(zf rfl ⟨gd hv2 hi,zx rfl rfl (ixT hp2 (zq (j:=1) rfl) ⟨r,(zf rfl ⟨DPut.k (k:=.inr m) hr2 hlen,zf rfl (fin H2 _ (Same.refl _) ?_ zg)⟩)⟩)⟩)⟩);show(match (match lk2 h l y with
   |some i=>.inl (putS h m i)
   |none=>.inr "":Nm ⊕ Str)with
   |.inl h'=>eh h'
   |.inr z=>_)=_
  rw[hi,yQ]
 |num m i =>
  obtain⟨rfl,hi⟩:=hS;obtain⟨u,hp3,hu⟩:=hp2;refine zf rfl (ixT hp3 (zq (j:=0) rfl) ⟨rfl,(zf rfl (iteF ?_))⟩);refine zf rfl (ixT hp3 (zq (j:=0) rfl) ⟨rfl,(zf rfl (iteF ?_))⟩);refine zf rfl (ixT hp3 (zq (j:=2) rfl) (ixT hu (zq (j:=0) rfl) ⟨rfl,(zf rfl (iteT ?_))⟩));refine zf rfl (ixT hp3 (zq (j:=2) rfl) (ixT hu (zq (j:=1) rfl) (zx rfl rfl (ixT hp3 (zq (j:=1) rfl) ⟨r,(zf rfl ⟨DPut.k (k:=.inr m) hr2 hlen,zf rfl (fin H2 _ (Same.refl _) ?_ zg)⟩)⟩))));rw[yQ]
  rfl
 |op m w' a b =>
  obtain⟨rfl,hw,ha,hb⟩:=hS;obtain⟨i,ei⟩:=xQ ha;obtain⟨j,ej⟩:=xQ hb;obtain⟨u,hp3,hu⟩:=hp2;refine zf rfl (ixT hp3 (zq (j:=0) rfl) ⟨rfl,(zf rfl (iteF ?_))⟩);refine zf rfl (ixT hp3 (zq (j:=0) rfl) ⟨rfl,(zf rfl (iteF ?_))⟩);refine zf rfl (ixT hp3 (zq (j:=2) rfl) (ixT hu (zq (j:=0) rfl) ⟨rfl,(zf rfl (iteF ?_))⟩));have est:stp h l (.op m w' a b)=if K31.fw w' (some i) (some j)=""then .inl (putS h m (K31.res w' i j))else .inr (K31.fw w' (some i) (some j)):=by
   show(match lk2 h l a,lk2 h l b with
    |some i,some j=>_
    |_,_=>_)=_
   rw[ei,ej]
  rw[est]at fin;refine zf rfl (ixT hp3 (zq (j:=2) rfl) (ixT hu (zq (j:=1) rfl) (zx rfl rfl (ixT hp3 (zq (j:=2) rfl) (ixT hu (zq (j:=2) rfl) ⟨v1,(zf rfl ⟨gd hv2 ei,zx rfl rfl (ixT hp3 (zq (j:=2) rfl) (ixT hu (zq (j:=3) rfl) ⟨v1,(zf rfl ⟨gd hv2 ej,w',i,j,rfl,hw,jc Oh Ol ei,jc Oh Ol ej,fun e H3 s3=>?_,fun e H3 s3=>?_⟩)⟩))⟩)⟩)))))
  ·rw[if_pos e]at fin
   refine zx rfl rfl (ixT (s3 _ _ hp3) (zq (j:=1) rfl) ⟨r,(zf rfl ⟨DPut.k (k:=.inr m) (s3 _ _ hr2) hlen,zf rfl (fin H3 _ s3 ?_ zg)⟩)⟩);rw[yQ]
  ·rw[if_neg e]at fin
   exact zx rfl rfl (ixT (s3 _ _ hp3) (zq (j:=1) rfl) ⟨r,(zf rfl ⟨DPut.k (k:=.inr m) (s3 _ _ hr2) hlen,zf rfl (fin H3 _ s3 rfl zg)⟩)⟩)
end
theorem za4(hn:(kvs.map (·.1)).Nodup):∀{k:Key}{v:V},(k,v)∈kvs->valV kvs k=some v:=by
 induction kvs with
 |nil=>intro k v h;cases h
 |cons p r ih =>
  intro k v h;rw[uC,uW]at hn;rcases uh.mp h with e|h
  ·rw[<- e];exact yh rfl
  ·rw[yn fun z=>hn.1 (uw.mpr ⟨_,h,z.symm⟩)]
   exact ih hn.2 h
theorem Qc(O:NmOk h):∀k v,(k,v)∈eh h->∃v',valV (eh h) k=some v'/\Sme 1 H v v':=fun k v hm=>by
 refine⟨v,za4 (zbF O) hm,.inl ⟨?_,rfl⟩⟩;unfold eh at hm;obtain⟨p,_,e⟩:=uw.mp hm;cases e
 rfl
inductive spSeen(A:Mc)(vs:List V)(H:Hp)(Q:VK)(e_3:XK):Prop
 |mk (X:Mx) (f0:Addr) (f:Addr) (dx:Addr) (hd:Addr) (ld:Addr) (td:Addr) (hd2:Addr) (ld2:Addr) (b:Addr) (w:Str) (h:Nm) (l:Nm):(∃xs:List V,vs=[.ref X.m,.ref b,.ref hd2,.ref ld2]/\H X.m=some (X.O A .non)/\H X.fl=some (.lst [.ref f0,.ref f])/\H f=some (FrO A.cF dx (.ref b) w hd ld td)/\H b=some (.tup xs)/\H hd=some (.dK (eh h))/\H hd2=some (.dK (eh h))/\H ld=some (.dK (eh l))/\H ld2=some (.dK (eh l))/\H td=some (.dK [])/\NmOk h/\NmOk l/\h.length<=1000/\∀H',Same H H'->Q (.bl true) H')->spSeen A vs H Q e_3
section
variable{K:ua}{A:Mc}
theorem scSeen:FnScope ["_law_machine","_law_body","_law_hands","_law_lent","_law_frame"] ["_law_machine","_law_body","_law_hands","_law_lent"] (zo Zv):=⟨rfl,rfl,rfl,by decide +kernel,rfl,by decide +kernel,by decide +kernel⟩
theorem zc5:(["_law_machine","_law_body","_law_hands","_law_lent","_law_frame","_law_one"]:lS).Nodup:=by decide +kernel
theorem za5(F:Fun K "_law_seen" "_law_seen" Zv f fd)(N:MN K A.cM)(NF:FrN K A.cF)(T:BtA mg):FnOk P w K mg base CX0 1 f fd ["_law_machine","_law_body","_law_hands","_law_lent"] (spSeen A):=by
 refine F.by scSeen (fun vs H Q E h=>?_) (fun cdv A' outer s H vs Q E hr h=>?_)
 ·obtain⟨X,f0,f,dx,hd,ld,td,hd2,ld2,b,w,h,l,xs,rfl,_⟩:=h
  rfl
 obtain⟨X,f0,f,dx,hd,ld,td,hd2,ld2,b,w,h,l,xs,rfl,hm,hfl,hf,hb,hh,hh2,hl,hl2,ht,Oh,Ol,hz,q⟩:=h;refine⟨_,
  (zj (zK (jW.pt (xE (XA (zr K (jv 0))) (xD (zv xZ (zJ (zQ K) rfl T.len uV (ja_c (zr K (jv 0)) zi)) zp (zy _)))))
   (zn (zw xn))  zD)
  (zj (zE (i:=4) scSeen.nd rfl (Or.inl rfl) (zR (zA K) (zr K (jv 0)) (yr zp) (fun _ _=>rfl)))
  (zj (zK (jW.pt (xE (zv (J7 hr) (zr K (jv 4)) (jv 1) (zy _)) (xE (zv (X3 (n:=1) (by decide) hr) (zr K (jv 4)) (jv 2) (zy _)) (xE (zv (X3 (n:=1) (by decide) hr) (zr K (jv 4)) (jv 3) (zy _)) (xD (zv (J8 hr) (zr K (jv 4)) yx (zy _)))))))
   (zn (zw xn))  zD)
  (zn (Yl H (zw (zJ (wv rfl) rfl T.all PyProof.Rows.boot_all (ja_c (xa ["_law_one"] rfl (X4 (wM U6 tQ PySem.F.type_dict_values X2 (zr K (jv 4)))) (fun _ _ _ _ _=>(zG (i:=5) zc5 rfl (Or.inl rfl))) (fun _ _ _ _ _=>yC) (fun _ _ _ _ _=>(xG (zJ (vI K) rfl T.isi uq (ja_c (jv 5) (ja_c (z5 (v:=.ty "int") rfl T.int Up rfl) zi))) (xF (j5 (zJ (vI K) rfl T.isi uq (ja_c (jv 5) (ja_c (z5 (v:=.ty "bool") rfl T.bool UI rfl) zi)))))))) zi)))))))),?_⟩
 have sl:=ym;refine zf rfl ⟨X.m,A.cM,X.dx,_,_,rfl,hm,N.cl,N.n8,rfl,(zf rfl (iteF ?_))⟩;refine zf rfl ⟨X.m,A.cM,X.dx,_,_,rfl,hm,N.cl,N.n7,rfl,X.fl,(zf rfl ⟨.inl (SqL.of hfl),rfl,(zf rfl (iteF (nxtC ?_)))⟩)⟩;refine zf rfl ⟨X.m,A.cM,X.dx,_,_,rfl,hm,N.cl,N.n7,rfl,(zf rfl ⟨X.fl,_,_,_,rfl,rfl,SqL.of hfl,yg [V.ref f0] _,?_⟩)⟩;dsimp only[uR,L2.start]
 refine zf rfl ⟨f,A.cF,dx,_,_,rfl,hf,NF.cl,NF.n1,rfl,zf rfl ⟨b,xs,rfl,rfl,hb,(zf rfl (iteF ?_))⟩⟩;refine zf rfl ⟨f,A.cF,dx,_,_,rfl,hf,NF.cl,NF.n3,rfl,zf rfl ⟨hd,hd2,(zI rfl rfl ⟨hh,hh2,rfl,Qc Oh,(zf rfl (iteF ?_))⟩)⟩⟩;refine zf rfl ⟨f,A.cF,dx,_,_,rfl,hf,NF.cl,NF.n4,rfl,zf rfl ⟨ld,ld2,(zI rfl rfl ⟨hl,hl2,rfl,Qc Ol,(zf rfl (iteF ?_))⟩)⟩⟩;refine zf rfl ⟨f,A.cF,dx,_,_,rfl,hf,NF.cl,NF.n5,rfl,fun dn f1=>⟨td,dn,(zf rfl ⟨rfl,old f1 ht,zg,(zf rfl (iteF (nxtC ?_)))⟩)⟩⟩;have s1:=same_new f1 (.dK []);generalize upd H dn (.dK [])=H1 at *;refine zf rfl ⟨f,A.cF,dx,_,_,rfl,s1 _ _ hf,NF.cl,NF.n3,rfl,?_⟩;have hh1:=s1 _ _ hh;refine⟨.inr (.inr (.inl ⟨rfl,.inl ⟨_,hh1⟩⟩)),hd,(zf rfl ⟨rfl,hh1,fun pv hpv=>⟨pv,hd,(zf rfl ⟨zg,old hpv hh1,fun ob=>?_⟩)⟩⟩)⟩;have k1:∀b u,b≠hd->H b=some u->(upd (upd H1 pv (.ext fun h=>h.IsValuesView pv hd)) hd (.frz ob (.dK (eh h)))) b=some u:=fun b u n e=>by rw[zh n];exact old hpv (s1 _ _ e)
 have f1:=zg (H:=upd H1 pv (.ext fun h=>h.IsValuesView pv hd)) (a:=hd) (o:=.frz ob (.dK (eh h)));generalize upd (upd H1 pv (.ext fun h=>h.IsValuesView pv hd)) hd (.frz ob (.dK (eh h)))=H2 at *;refine X5 (kvs:=eh h) (fun i τ ys H'=>H2=H'/\(∃y,τ=[some (.ref X.m),sR b,sR hd2,sR ld2,sR f,y])/\ys=uG i (.bl true)) ⟨rfl,⟨none,rfl⟩,rfl⟩ (fun i τ ys H' _ h=>by rw[<- h.1];exact f1) ?_ ?_
 ·rintro i kv τ ys H' hv ⟨rfl,⟨y,rfl⟩,rfl⟩
  have hi:i < (eh h).length:=(ud.mp hv).1;rw[yt]at hi;unfold eh at hv;obtain⟨p,_,rfl⟩:=L2.gM hv;refine(zf rfl ⟨_,_,_,_,rfl,.int _,Y6 _,(zf rfl (iteT (zf rfl ⟨_,_,_,_,rfl,.int _,Y7 _,(zf rfl ?_)⟩)))⟩);refine⟨by rw[Ug];lia,rfl,⟨_,rfl⟩,by rw[U4];rfl⟩
 ·rintro τ ys H' ⟨rfl,_,rfl⟩ pl hpl
  refine⟨pl,uG (eh h).length true,rfl,SqL.of (by rw[zg,List.map_replicate]),?_⟩;rw[show(uG (eh h).length true).all _root_.id=true by simp];refine⟨hd,ob,eh h,old hpl f1,(fun o u z=>by rw[hh]at z;cases z),q _ (fun b u e=>?_)⟩;by_cases c:b=hd
  ·rw[c,zg];rw[c,hh]at e;exact e
  ·rw[zh c];exact old hpl (k1 b u c e)
end
theorem jQ(h:Nm)(n:Str)(i:Int):(putS h n i).map (·.1)=if n∈h.map (·.1)then h.map (·.1)else h.map (·.1)++[n]:=by
 have ea:(h.any fun p=>decide (p.1=n))=decide (n∈h.map (·.1)):=by
  rw[UY,List.any_eq_true,decide_eq_true_iff,uw];exact⟨fun⟨p,hp,e⟩=>⟨p,hp,of_decide_eq_true e⟩,fun⟨p,hp,e⟩=>⟨p,hp,decide_eq_true e⟩⟩
 unfold putS;rw[ea];by_cases c:n∈h.map (·.1)
 ·rw[if_pos (decide_eq_true c),if_pos c,UO]
  apply List.map_congr_left
  intro p _;show(if p.1=n then(p.1,i)else p).1=p.1
  split<;>rfl
 ·rw[if_neg (by rw[decide_eq_false c];decide),if_neg c,uH]
  rfl
theorem Qd{i:Int}{q:Str×Int}(hq:q∈putS h n i):q.2=i\/q∈h:=by
 unfold putS at hq;split at hq
 ·obtain⟨p,hp,e⟩:=uw.mp hq
  split at e
  ·rw[<- e];exact .inl rfl
  ·rw[<- e];exact .inr hp
 ·rcases u0.mp hq with hq|hq
  ·exact .inr hq
  ·rw[ug.mp hq];exact .inl rfl
theorem NmOk.put(O:NmOk h)(n:Str){i:Int}(hi:K31.Sm i):NmOk (putS h n i):=by
 constructor
 ·rw[jQ]
  split
  ·exact O.nd
  ·next c =>
   rw[List.nodup_append];exact⟨O.nd,by simp,fun a ha b hb e=>c (by rw[<- ug.mp hb,<- e];exact ha)⟩
 ·intro p hp
  rcases Qd hp with e|hp
  ·rw[e];exact hi
  ·exact O.sm p hp
theorem NmOk.drop(O:NmOk h)(y:Str):NmOk (y9 h y):=by
 unfold y9
 constructor
 ·exact O.nd.sublist ((List.filter_sublist (l:=h)).map _)
 ·intro p hp
  exact O.sm p (UR.mp hp).1
theorem Qe{l h':Nm}(O:NmOk h)(L:NmOk l)(s:PcS h l n c)(e:stp h l c=.inl h'):NmOk h'/\h'.length<=h.length+1:=by
 cases c with
 |num m i =>
  cases e;exact⟨O.put _ s.2,xO _ _ _⟩
 |op m w a b =>
  obtain⟨i,j,ei,ej,si,sj⟩:=s.ok O L;have est:stp h l (.op m w a b)=if K31.fw w (some i) (some j)=""then .inl (putS h m (K31.res w i j))else .inr (K31.fw w (some i) (some j)):=by
   show(match lk2 h l a,lk2 h l b with
    |some i,some j=>_
    |_,_=>_)=_
   rw[ei,ej]
  rw[est]at e;split at e
  ·next c =>
   cases e;refine⟨O.put _ ?_,xO _ _ _⟩;rw[K31.fw_ss]at c;split at c
   ·exact absurd c (by decide)
   ·split at c
    ·next c2=>exact c2
    ·exact absurd c (by decide)
  ·cases e
 |hold m y =>
  obtain⟨i,ei⟩:=xQ s.2;have est:stp h l (.hold m y)=.inl (putS h m i):=by
   show(match lk2 h l y with
    |some i=>_
    |none=>_)=_
   rw[ei]
  rw[est]at e;cases e;exact⟨O.put _ (jc O L ei),xO _ _ _⟩
 |drop y =>
  cases e;exact⟨O.drop y,Nat.le_succ_of_le (UL _ _)⟩
theorem X6{l:Nm}{z:Str}(O:NmOk h)(L:NmOk l)(s:PcS h l n c)(e:stp h l c=.inr z):(z="great"\/z="nought")/\nmP c=n/\aft h l c=putK (eh h) (.inr n) (.str z):=by
 cases c with
 |num m i=>cases e
 |op m w a b =>
  obtain⟨i,j,ei,ej,si,sj⟩:=s.ok O L;obtain⟨rfl,_⟩:=s;have e0:=e;have est:stp h l (.op m w a b)=if K31.fw w (some i) (some j)=""then .inl (putS h m (K31.res w i j))else .inr (K31.fw w (some i) (some j)):=by
   show(match lk2 h l a,lk2 h l b with
    |some i,some j=>_
    |_,_=>_)=_
   rw[ei,ej]
  rw[est]at e;refine⟨?_,rfl,by unfold aft;rw[e0];rfl⟩;split at e
  ·cases e
  ·next c =>
   injection e with e
   rw[<- e];rw[K31.fw_ss]at c ⊢;split
   ·exact .inr rfl
   ·next c1 =>
    rw[if_neg c1]at c;split
    ·next c2=>rw[if_pos c2]at c;exact absurd rfl c
    ·exact .inl rfl
 |hold m y =>
  obtain⟨i,ei⟩:=xQ s.2;have est:stp h l (.hold m y)=.inl (putS h m i):=by
   show(match lk2 h l y with
    |some i=>_
    |none=>_)=_
   rw[ei]
  rw[est]at e;cases e
 |drop y=>cases e
theorem Xc{l h':Nm}(e:stp h l c=.inl h'):aft h l c=eh h':=by unfold aft;rw[e]
theorem Xd(h:Nm):wds (eh h)=[]:=by
 unfold wds eh;rw[List.filter_eq_nil_iff];intro v hv;rw[UO]at hv;obtain⟨p,_,rfl⟩:=uw.mp hv;show ¬ ((decide (V.int p.2=.str "great") || decide (V.int p.2=.str "nought"))=true);simp
theorem ZI(h:Nm)(n z:Str)(hz:z="great"\/z="nought"):∃r,wds (putK (eh h) (.inr n) (.str z))=.str z::r:=by
 have h1:∀v∈wds (putK (eh h) (.inr n) (.str z)),v=.str z:=by
  intro v hv;unfold wds at hv;obtain⟨hv,hw⟩:=UR.mp hv;obtain⟨p,hp,rfl⟩:=uw.mp hv;have no:∀q∈eh h,¬ ((decide (q.2=V.str "great") || decide (q.2=.str "nought"))=true):=by
   intro q hq;unfold eh at hq;obtain⟨r,_,rfl⟩:=uw.mp hq;simp
  unfold putK at hp;split at hp
  ·obtain⟨q,hq,e⟩:=uw.mp hp
   split at e
   ·rw[<- e]
   ·rw[<- e]at hw;exact absurd hw (no q hq)
  ·rcases u0.mp hp with hp|hp
   ·exact absurd hw (no p hp)
   ·rw[ug.mp hp]
 have h2:V.str z∈wds (putK (eh h) (.inr n) (.str z)):=by
  unfold wds;refine UR.mpr ⟨?_,by rcases hz with rfl|rfl<;>simp⟩;have e:valV (putK (eh h) (.inr n) (.str z)) (.inr n)=some (.str z):=by rw[vM,if_pos rfl]
  unfold valV at e;obtain⟨p,hp,e⟩:=uz.mp e;exact uw.mpr ⟨p,UX hp,e⟩
 cases c:wds (putK (eh h) (.inr n) (.str z))with
 |nil=>rw[c]at h2;cases h2
 |cons a r =>
  rw[c]at h1;exact⟨r,by rw[h1 a (.head _)]⟩
structure Run(l:Nm)(ps:List Pc)(hs:List Nm):Prop where
 len:hs.length=ps.length+1
 st:∀k p h,ps[k]?=some p->hs[k]?=some h->PcOk h l p/\∃h',stp h l p=.inl h'/\hs[k+1]?=some h'
 ok:∀h∈hs,NmOk h
theorem Run.one{l:Nm}(O:NmOk h):Run l [] [h]:=⟨rfl,(fun k p h e=>by cases e),(fun x hx=>by rw[ug.mp hx];exact O)⟩
theorem Run.snoc{l h':Nm}{ps:List Pc}{hs:List Nm}{p:Pc}(R:Run l ps (hs++[h]))(a:PcOk h l p)(e:stp h l p=.inl h')(O:NmOk h'):Run l (ps++[p]) (hs++[h]++[h']):=by
 have len:=R.len;rw[uk]at len;have len:hs.length=ps.length:=by simpa using len
 refine⟨by simp;lia,fun k q g e1 e2=>?_,fun x hx=>?_⟩
 ·by_cases c:k < ps.length
  ·rw[uu c]at e1
   rw[uu (by simp;lia)]at e2;obtain⟨b,h2,b2,b3⟩:=R.st k q g e1 e2;exact⟨b,h2,b2,by rw[uu (by simp;lia)];exact b3⟩
  ·have hk:k=ps.length:=by
    have:=(ud.mp e1).1
    simp at this
    lia
   subst hk;rw[ut (by lia),Uw]at e1;cases e1;rw[uu (by simp;lia),ut (by lia),<- len,Uw]at e2;cases e2;refine⟨a,h',e,?_⟩;rw[ut (by simp;lia)];simp[len]
 ·rcases u0.mp hx with hx|hx
  ·exact R.ok x hx
  ·rw[ug.mp hx];exact O
end GN
namespace L2
open PySem
theorem Qf{K:ua}{tb:TS}(Pv:Nat->St->Hp->Prop)(h0:Pv 0 σ H)(hl:∀i σ H,i<=xs.length->Pv i σ H->SqL K H a xs)
  (hs:∀i x T σ H,xs[i]?=some x->H T=none->Pv i σ H->g (.ref T) σ (upd H T (.tup [.int (i:Nat),x])) fun σ2 H2=>tb { D with nx:=Pv (i+1),ct:=Pv (i+1),bk:=D.nx } σ2 H2) (hd:∀σ H,Pv xs.length σ H->D.nx σ H) :
  ∃W:Nat->Nat->St->Hp->Prop,(∃m,W 0 m σ H)/\∀i m σ H,W i m σ H ->
   ((Ite K a).stop i H/\D.nx σ H)\/((Ite K a).go i H/\∃N:St->Hp->Prop,(∀σ' H',N σ' H'->∃m',m' < m/\W (i+1) m' σ' H')/\∀x H',(Ite K a).yld i H x H'->g x σ H' fun σ2 H2=>tb { D with nx:=N,ct:=N,bk:=D.nx } σ2 H2):=by
 refine⟨fun i m σ H=>m=xs.length-i/\i<=xs.length/\Pv i σ H,⟨xs.length,by simp,uU _,h0⟩,?_⟩;rintro i m σ H ⟨rfl,hi,p⟩;have q:=hl i σ H hi p;by_cases hlt:i < xs.length
 ·refine .inr ⟨⟨xs,xs[i],q,by simp[hlt]⟩,Pv (i+1),fun σ' H' p'=>⟨xs.length-(i+1),by lia,rfl,hlt,p'⟩,fun x H' y=>?_⟩
  obtain⟨T,v,rfl,hT,rfl,e⟩:=y;exact hs i v T σ H (e xs q) hT p
 ·have e:i=xs.length:=by lia
  subst e;exact .inl ⟨⟨xs,q,ui _⟩,hd σ H p⟩
end L2
namespace GN
open PySem L2 K11
variable{h0 h:Nm}{ps r:List Pc}{p:Pc}{D:List Addr}{X:Mx}{A:Mc}{hs:List Nm}
theorem SqL.same{K:ua}(h:SqL K H a xs)(s:Same H H'):SqL K H' a xs:=h.imp (fun r=>r.imp (fun e=>s _ _ e) fun⟨o,e⟩=>⟨o,s _ _ e⟩) id
theorem za6{x:V}(h:(cutV (ns.map V.int) lo hi)[i]?=some x):∃c,x=.int c:=by
 have:=List.mem_of_mem_drop (List.mem_of_mem_take (uM h))
 obtain⟨c,_,e⟩:=uw.mp this;exact⟨c,e.symm⟩
structure SI(H:Hp)(l h0:Nm)(pl sl:Addr)(ps:List Pc)(hs0:List Nm)(h:Nm)(ts ds0:List Addr)(d:Addr):Prop where
 run:Run l ps (hs0++[h])
 z0:(hs0++[h])[0]?=some h0
 hpl:H pl=some (.lst (ts.map V.ref))
 hsl:H sl=some (.lst (ds0.map V.ref++[.ref d]))
 lt:ts.length=ps.length
 ld:ds0.length=hs0.length
 tp:∀(k:Nat) t p,ts[k]?=some t->ps[k]?=some p->IsPc H t p
 dd:∀(k:Nat) d' h',ds0[k]?=some d'->hs0[k]?=some h'->H d'=some (.dK (eh h'))
 hd:H d=some (.dK (eh h))
 lb:∀x∈hs0++[h],x.length<=3+ps.length
 ne:pl≠sl
theorem SI.ok{l:Nm}(S:SI H l h0 pl sl ps hs0 h ts ds0 d):NmOk h:=S.run.ok h (by simp)
theorem SI.len{l:Nm}(S:SI H l h0 pl sl ps hs0 h ts ds0 d):h.length<=3+ps.length:=S.lb h (by simp)
theorem IsPc.tups{p:Addr}{c:Pc}(h:IsPc H p c)(t:Tups H H'):IsPc H' p c:=by
 cases c with
 |num n i=>obtain⟨q,a,b⟩:=h;exact⟨q,t _ _ a,t _ _ b⟩
 |op n w a b=>obtain⟨q,a,b⟩:=h;exact⟨q,t _ _ a,t _ _ b⟩
 |hold n y=>exact t _ _ h
 |drop y=>exact t _ _ h
theorem SI.step{H3:Hp}{l:Nm}{t r:Addr}{n:Str}{h':Nm}(S:SI H l h0 pl sl ps hs0 h ts ds0 d)(L:NmOk l)(s1:Same H H1)(ht:IsPc H1 t p)(hS:PcS h l n p)
  (s3:Same (upd H1 pl (.lst (ts.map V.ref++[.ref t]))) H3) (hr:H3 r=some (.dK (aft h l p))) (e:stp h l p=.inl h'):SI (upd H3 sl (.lst ((ds0.map V.ref++[.ref d])++[.ref r]))) l h0 pl sl (ps++[p]) (hs0++[h]) h' (ts++[t]) (ds0++[d]) r:=by
 have hpl1:=s1 _ _ S.hpl;have hsl1:=s1 _ _ S.hsl;have np:∀{b u},H1 b=some u->(∀xs,u≠.lst xs)->b≠pl:=fun e n z=>by rw[z,hpl1]at e;exact n _ (uQ.inj e).symm
 have hsl3:H3 sl=some (.lst (ds0.map V.ref++[.ref d])):=s3 _ _ (by rw[zh S.ne.symm];exact hsl1);have ns:∀{b u},H3 b=some u->(∀xs,u≠.lst xs)->b≠sl:=fun e n z=>by rw[z,hsl3]at e;exact n _ (uQ.inj e).symm
 have k1:∀{b u},H1 b=some u->(∀xs,u≠.lst xs)->upd H3 sl (.lst ((ds0.map V.ref++[.ref d])++[.ref r])) b=some u:=fun{b u} e n=>by
  have e3:H3 b=some u:=s3 _ _ (by rw[zh (np e n)];exact e);rw[zh (ns e3 n)];exact e3
 have kt:Tups H1 (upd H3 sl (.lst ((ds0.map V.ref++[.ref d])++[.ref r]))):=fun b xs e=>k1 e (by intro _ z;cases z);have O:=Qe S.ok L hS e;have lenO:=O.2;refine⟨S.run.snoc (hS.ok S.ok L) e O.1,?_,?_,?_,by simp[S.lt],by simp[S.ld],fun k t' p' e1 e2=>?_,fun k d' g e1 e2=>?_,?_,fun x hx=>?_,S.ne⟩
 ·rw[uu (by simp)]
  exact S.z0
 ·rw[zh S.ne,s3 _ _ zg,uH]
  rfl
 ·rw[zg,uH]
  rfl
 ·by_cases c:k < ts.length
  ·rw[uu c]at e1
   rw[uu (by rw[<- S.lt];exact c)]at e2;exact((S.tp k t' p' e1 e2).same s1).tups kt
  ·have hk:k=ts.length:=by
    have:=(ud.mp e1).1
    simp at this
    lia
   subst hk;rw[ut (by lia),Uw]at e1;rw[S.lt,ut (by lia),Uw]at e2;cases e1;cases e2;exact ht.tups kt
 ·by_cases c:k < ds0.length
  ·rw[uu c]at e1
   rw[uu (by rw[<- S.ld];exact c)]at e2;exact k1 (s1 _ _ (S.dd k d' g e1 e2)) (by intro _ z;cases z)
  ·have hk:k=ds0.length:=by
    have:=(ud.mp e1).1
    simp at this
    lia
   subst hk;rw[ut (by lia),Uw]at e1;rw[S.ld,ut (by lia),Uw]at e2;cases e1;cases e2;exact k1 (s1 _ _ S.hd) (by intro _ z;cases z)
 ·rw[zh (ns hr (by intro _ z;cases z)),hr,Xc e]
 ·rw[uk]
  rcases u0.mp hx with hx|hx
  ·have:=S.lb x hx
   show x.length<=3+(ps.length+1);lia
  ·rw[ug.mp hx]
   have:=S.len
   show h'.length<=3+(ps.length+1);lia
theorem SI.same{l:Nm}(S:SI H l h0 pl sl ps hs0 h ts ds0 d)(s:Same H H'):SI H' l h0 pl sl ps hs0 h ts ds0 d :=
 ⟨S.run,S.z0,s _ _ S.hpl,s _ _ S.hsl,S.lt,S.ld,fun k t p a b=>(S.tp k t p a b).same s,fun k d' h' a b=>s _ _ (S.dd k d' h' a b),s _ _ S.hd,S.lb,S.ne⟩
structure SE(H:Hp)(l h0:Nm)(pl sl:Addr)(ps:List Pc)(hs0:List Nm)(h:Nm)(ts ds0:List Addr)(d:Addr)(p:Pc)(z n n2:Str)(t t2 r:Addr):Prop where
 run:Run l ps (hs0++[h])
 z0:(hs0++[h])[0]?=some h0
 hpl:H pl=some (.lst ((ts++[t,t2]).map V.ref))
 hsl:H sl=some (.lst (ds0.map V.ref++[.ref d]++[.ref r]))
 lt:ts.length=ps.length
 ld:ds0.length=hs0.length
 tp:∀(k:Nat) t p,ts[k]?=some t->ps[k]?=some p->IsPc H t p
 dd:∀(k:Nat) d' h',ds0[k]?=some d'->hs0[k]?=some h'->H d'=some (.dK (eh h'))
 hd:H d=some (.dK (eh h))
 lb:∀x∈hs0++[h],x.length<=3+ps.length
 ok:PcOk h l p
 er:stp h l p=.inr z
 tt:IsPc H t p
 i2:IsPc H t2 (.num n2 0)
 hr:H r=some (.dK (putK (eh h) (.inr n) (.str z)))
 zz:z="great"\/z="nought"
theorem Qg{g l:Nm}{n:Str}{c:Pc}(O:NmOk g)(L:NmOk l)(s:PcS g l n c)(h:g.length<=900):(aft g l c).length<=1000/\∀kv∈aft g l c,(∃i,kv.2=.int i)\/∃z,kv.2=.str z:=by
 have fl:∀(g:Nm),∀kv∈eh g,∃i,kv.2=V.int i:=fun g kv hk=>by
  unfold eh at hk;obtain⟨p,_,rfl⟩:=uw.mp hk;exact⟨_,rfl⟩
 cases e:stp g l c with
 |inl g' =>
  rw[Xc e,yt];exact⟨by have:=(Qe O L s e).2;lia,fun kv hk=>.inl (fl g' kv hk)⟩
 |inr z =>
  obtain⟨_,_,ea⟩:=X6 O L s e;rw[ea];refine⟨by have:=yM (eh g) (.inr n) (.str z);rw[yt]at this;lia,fun kv hk=>?_⟩;unfold putK at hk;split at hk
  ·obtain⟨q,hq,e⟩:=uw.mp hk
   split at e
   ·rw[<- e];exact .inr ⟨z,rfl⟩
   ·rw[<- e];exact .inl (fl g q hq)
  ·rcases u0.mp hk with hk|hk
   ·exact .inl (fl g kv hk)
   ·rw[ug.mp hk];exact .inr ⟨z,rfl⟩
theorem za7:∀(xs:List V),cutV xs (some 1) none=xs.tail
 |[]=>rfl
 |x::l=>by
  unfold cutV;have c1:HT.sIx (x::l).length 0 (some 1)=1:=by
   show(if(1:Int) < 0 then((1:Int)+((x::l).length:Nat)).toNat else min (1:Int).toNat (x::l).length)=1;rw[if_neg (by decide),uJ];show min 1 (l.length+1)=1;lia
  have c2:HT.sIx (x::l).length (x::l).length none=(x::l).length:=rfl;rw[c1,c2,uJ];show l.take (l.length+1-1)=l;rw[Nat.add_sub_cancel,Ut (ui _)]
theorem za8{b:Bool}{T:TS}{D:Ends}{σ:L2.St}(C:L2.St->Hp->Prop)(h1:b=true->∀D':Ends,(∀σ' H',C σ' H'->D'.nx σ' H')->T D' σ H)(h2:b=false->C σ H)(h:∀σ' H',C σ' H'->D.nx σ' H'):if b=true then T D σ H else wX D σ H:=by
 cases b
 ·exact iteF (nxtC (h σ H (h2 rfl)))
 ·exact iteT (h1 rfl D h)
inductive spStraight(K:ua)(vs:List V)(H:Hp)(Q:VK)(e_3:XK):Prop
 |mk (a:Addr) (hd:Addr) (ld:Addr) (ns:List Int) (h:Nm) (l:Nm):(∃st:Nat,vs=[.ref a,.ref hd,.ref ld,.int (st:Int)]/\SqL K H a (ns.map V.int)/\ns.length<=63/\H hd=some (.dK (eh h))/\H ld=some (.dK (eh l))/\NmOk h/\NmOk l/\h.length<=3/\l.length<=3/\∀H' tp pl sl,Same H H'->H' tp=some (.tup [.ref pl,.ref sl])->((∃ps hs0 h' ts ds0 d,SI H' l h pl sl ps hs0 h' ts ds0 d/\h'≠[]/\ps.length<=200)\/∃ps hs0 h' ts ds0 d p z n n2 t t2 r,SE H' l h pl sl ps hs0 h' ts ds0 d p z n n2 t t2 r/\ps.length<=200)->Q (.ref tp) H')->spStraight K vs H Q e_3
section
variable{K:ua}
theorem scStraight:FnScope ["_law_script","_law_hands","_law_lent","_law_start","_law_pieces","_law_states","_law_k","_law_cell","_law_name_here"] ["_law_script","_law_hands","_law_lent","_law_start"] (zo xM):=⟨rfl,rfl,rfl,by decide +kernel,rfl,by decide +kernel,by decide +kernel⟩
theorem Yo(F:Fun K "_law_straight" "_law_straight" xM f fd)(GP:Ca P w K mg base CX0 2 "_law_piece" ["_law_hands","_law_lent","_law_name_here","_law_cell"] spPieceL)(GM:Ca P w K mg base CX0 2 "_law_name" ["_law_script","_law_k"] (spNameL K))(GB:Ca P w K mg base CX0 3 "_law_behind" ["_law_hands","_law_lent","_law_piece_here"] spBehindL)(GW:Ca P w K mg base CX0 1 "_law_words" ["_law_state"] spWds)(m_enumerate:mg "enumerate"=none)(m_list:mg "list"=none):FnOk P w K mg base CX0 4 f fd ["_law_script","_law_hands","_law_lent","_law_start"] (spStraight K):=by
 refine F.by scStraight (fun vs H Q E h=>?_) (fun cdv A outer s H vs Q E hr h=>?_)
 ·obtain⟨a,hd,ld,ns,h,l,st,rfl,_⟩:=h
  rfl
 obtain⟨a,hd,ld,ns,h,l,st,rfl,hS,hn,hh,hl,Oh,Ol,h3,l3,q⟩:=h;have r1:Room 1 _:=hr.mono (by decide);have r2:Room 2 _:=hr.mono (by decide);refine⟨_,
  (zj (zE (i:=4) scStraight.nd rfl (Or.inl rfl) (zU zi))
  (zj (zE (i:=5) scStraight.nd rfl (Or.inl rfl) (zU (ja_c (jv 1) zi)))
  (zj (yH PassesOwn.never rfl (Q5 rfl m_enumerate (ja_c (vA (ZZ K) (jv 0) (vh (jv 3)) (vh (zH xc (jv 3) zp))) zi)) (xb K (n:=2) rfl (zV (zG (i:=6) scStraight.nd rfl (Or.inl rfl)) (zV (zG (i:=7) scStraight.nd rfl (Or.inl rfl)) yV)))
   (zj (zP (yR uD uN uO yj (jv 4) (ja_c (zM GP r2 rfl zB (ja_c (zR (zA K) (jv 5) (yr zp) (fun _ _=>rfl)) (ja_c (jv 2) (ja_c (zM GM r2 rfl zB (ja_c (jv 0) (ja_c (zH xc zp (jv 6)) zi))) (ja_c (jv 7) zi))))) zi)))
   (zj (zP (yR uD uN uO yj (jv 5) (ja_c (zM GB hr rfl zB (ja_c (zR (zA K) (jv 5) (yr zp) (fun _ _=>rfl)) (ja_c (jv 2) (ja_c (zR (zA K) (jv 4) (yr zp) (fun _ _=>rfl)) zi)))) zi)))
   (zn (zK (zv (VG hr) (zM GW r1 rfl zB (ja_c (zR (zA K) (jv 5) (yr zp) (fun _ _=>rfl)) zi)) (zU zi) (zy _))
    (zn (zw (zT (ja_c (zH YF (jv 4) (zU (ja_c (zT (ja_c zu (ja_c (zM GM r2 rfl zB (ja_c (jv 0) (ja_c zp zi))) (ja_c (zT (ja_c zu (ja_c zp zi))) zi)))) zi))) (ja_c (jv 5) zi)))))  zD)))))
  (zj (zK (zv (zdJ hr) (zR (zA K) (jv 5) (yr zp) (fun _ _=>rfl)) yx (zy _))
   (zj (zP (yR uD uN uO yj (jv 4) (ja_c (zT (ja_c zu (ja_c (zM GM r2 rfl zB (ja_c (jv 0) (ja_c zp zi))) (ja_c (zT (ja_c zu (ja_c zp zi))) zi)))) zi)))
   (zn (zP (yR uD uN uO yj (jv 5) (ja_c (zM GB hr rfl zB (ja_c (zR (zA K) (jv 5) (yr zp) (fun _ _=>rfl)) (ja_c (jv 2) (ja_c (zR (zA K) (jv 4) (yr zp) (fun _ _=>rfl)) zi)))) zi)))))  zD)
  (zj (yH PassesOwn.never rfl (xp K (vA (ZZ K) (yu (yJ rfl) rfl m_list u5 (ja_c (zR (zA K) (jv 5) (yr zp) (fun _ _=>rfl)) zi)) (vh zp) Xs)) (zG (i:=8) scStraight.nd rfl (Or.inl rfl))
   (zj (zP (yR uD uN uO yj (jv 4) (ja_c (zT (ja_c zu (ja_c (jv 8) zi))) zi)))
   (zn (zP (yR uD uN uO yj (jv 5) (ja_c (zM GB hr rfl zB (ja_c (zR (zA K) (jv 5) (yr zp) (fun _ _=>rfl)) (ja_c (jv 2) (ja_c (zR (zA K) (jv 4) (yr zp) (fun _ _=>rfl)) zi)))) zi))))))
  (zn (zw (zT (ja_c (jv 4) (ja_c (jv 5) zi)))))))))),?_⟩
 have sl:=ym;have beh:∀(D:Ends)(σ:L2.St)(H2:Hp)(pl sl:Addr)(ts ds0:List Addr)(d t:Addr)(g:Nm)(p:Pc)(n:Str),σ[2]?=some (some (.ref ld))->σ[4]?=some (some (.ref pl))->σ[5]?=some (some (.ref sl))->H2 pl=some (.lst (ts.map V.ref++[.ref t]))->H2 sl=some (.lst (ds0.map V.ref++[.ref d]))->ds0.length<=1000->H2 d=some (.dK (eh g))->H2 ld=some (.dK (eh l))->NmOk g->g.length<=900->IsPc H2 t p->PcS g l n p ->
   (∀H3 r,Same H2 H3->H3 r=some (.dK (aft g l p))->D.nx σ (upd H3 sl (.lst ((ds0.map V.ref++[.ref d])++[.ref r])))) ->
   (ZM (tBM K "list" vg (tVar 5) (yf (wo spBehindL [] E0 (yf (tOp (rIxL K) (tVar 5) (tUn (rU fun i=>V.int (-i)) (tC (V.int 1)))) (yf (tVar 2) (yf (tOp (rIxL K) (tVar 4) (tUn (rU fun i=>V.int (-i)) (tC (V.int 1)))) tNil)))) tNil)):TS) D σ H2:=by
  intro D σ H2 pl sl ts ds0 d t g p n e2 e4 e5 hpl hsl ld1 hd2 hld Og lg hp hS k;refine zf e5 ⟨.inl ⟨rfl,_,SqL.of hsl⟩,zf e5 (zf rfl ⟨sl,_,_,_,rfl,rfl,SqL.of hsl,yg _ _,zf e2 (zf e4 (zf rfl ⟨pl,_,_,_,rfl,rfl,SqL.of hpl,yg _ _,d,ld,t,g,l,n,p,rfl,hd2,hld,Og,Ol,by lia,hp,hS,fun H3 r s3 _ hr3=>⟨sl,_,.ref r,rfl,rfl,s3 _ _ hsl,?_,k H3 r s3 hr3⟩⟩))⟩)⟩;rw[uk,uc];show ds0.length+1 < sizeLine;lia
 refine⟨by show 0<=sizeLine;lia,fun pl f1=>zf rfl ⟨by show 1<=sizeLine;lia,fun sl' f2=>?_⟩⟩;have nps:pl≠sl':=zk zg f2;have s2:=(same_new f1 (.lst [])).new (o:=.lst [.ref hd]) f2;have hpl2:upd (upd H pl (.lst [])) sl' (.lst [.ref hd]) pl=some (.lst []):=old f2 zg;have hsl2:=zg (H:=upd H pl (.lst [])) (a:=sl') (o:=.lst [.ref hd]);dsimp only[uR,L2.start,List.map]
 generalize upd (upd H pl (.lst [])) sl' (.lst [.ref hd])=H2 at *;have S2:SI H2 l h pl sl' [] [] h [] [] hd:=⟨Run.one Oh,rfl,hpl2,hsl2,rfl,rfl,(fun k t p e=>by cases e),(fun k d g e=>by cases e),s2 _ _ hh,(fun x hx=>by rw[ug.mp hx];exact h3),nps⟩;refine zx rfl rfl (zf rfl (zf rfl (zI rfl rfl (zf rfl ⟨a,(zf rfl ⟨SqL.same hS s2,fun cl f3=>⟨cl,rfl,⟨_,SqL.of zg⟩,?_⟩⟩)⟩))));have lcx:=xz (ns.map V.int) (some (st:Int)) (some ((st:Int)+30));rw[uc]at lcx;have cxi:∀{i:Nat}{x:V},(cutV (ns.map V.int) (some (st:Int)) (some ((st:Int)+30)))[i]?=some x->∃c:Int,x=.int c:=fun e=>za6 e;generalize cutV (ns.map V.int) (some (st:Int)) (some ((st:Int)+30))=cx at *;have s3:=s2.new (o:=.lst cx) f3;have S3:=S2.same (same_new f3 (.lst cx));have hcl3:=zg (H:=H2) (a:=cl) (o:=.lst cx);have ncp:cl≠pl:=(zk hpl2 f3).symm;have ncs:cl≠sl':=(zk hsl2 f3).symm;generalize upd H2 cl (.lst cx)=H3 at *;refine Qf (K:=K) (xs:=cx) (fun i σ H'=>Same H H'/\H' cl=some (.lst cx)/\(∃ps hs0 g ts ds0 d,SI H' l h pl sl' ps hs0 g ts ds0 d/\ps.length=i)/\∃u v w',σ=[sR a,sR hd,sR ld,some (.int st),sR pl,sR sl',u,v,w']) ⟨s3,hcl3,⟨_,_,_,_,_,_,S3,rfl⟩,none,none,none,rfl⟩ (fun i σ H' _ h=>SqL.of h.2.1) ?_ ?_
 ·rintro i x T σ H4 hx hT ⟨s4,hcl4,⟨ps,hs0,g,ts,ds0,d,S4,rfl⟩,u,v,w',rfl⟩
  obtain⟨c,rfl⟩:=cxi hx;have hi:=(ud.mp hx).1;have S5:=S4.same (same_new hT (.tup [.int (ps.length:Nat),.int c]));have s5:=s4.new (o:=.tup [.int (ps.length:Nat),.int c]) hT;have hcl5:=old (o:=.tup [.int (ps.length:Nat),.int c]) hT hcl4;refine⟨T,[.int (ps.length:Nat),.int c],rfl,SqT.of zg,rfl,_,_,rfl,_,_,rfl,rfl,?_⟩;dsimp only[uR]
  generalize upd H4 T (.tup [.int (ps.length:Nat),.int c])=H5 at *;have lg:=S5.len;refine zf rfl ⟨.inl ⟨rfl,_,SqL.of S5.hpl⟩,zf rfl (zf rfl ⟨sl',_,_,_,rfl,rfl,SqL.of S5.hsl,yg _ _,zx rfl rfl (zf rfl (zI rfl rfl ⟨a,ns,3+ps.length,rfl,SqL.same hS s5,fun H6 s6=>zf rfl ⟨d,ld,g,l,nmL (clAt ns 2) (3+ps.length),c,rfl,s6 _ _ S5.hd,s6 _ _ (s5 _ _ hl),by lia,fun H7 t pc s7 ft ht hSp=>⟨pl,_,.ref t,rfl,rfl,s7 _ _ (s6 _ _ S5.hpl),?_,?_⟩⟩⟩))⟩)⟩
  ·rw[uc,S5.lt];lia
  have s57:=s6.trans s7;have kp7:∀{b u},H7 b=some u->(∀xs,u≠.lst xs)->upd H7 pl (.lst (ts.map V.ref++[.ref t])) b=some u:=fun{b u} e n=>by rw[zh fun z=>by rw[z,s57 _ _ S5.hpl]at e;exact n _ (uQ.inj e).symm];exact e
  have hsl8:upd H7 pl (.lst (ts.map V.ref++[.ref t])) sl'=some (.lst (ds0.map V.ref++[.ref d])):=by rw[zh nps.symm];exact s57 _ _ S5.hsl
  have hcl8:upd H7 pl (.lst (ts.map V.ref++[.ref t])) cl=some (.lst cx):=by rw[zh ncp];exact s57 _ _ hcl5
  have lds:ds0.length=ps.length:=by
   have:=S5.run.len
   rw[uk]at this;have e:=S5.ld;simp at this
   lia
  have s8:∀{b u},H b=some u->upd H7 pl (.lst (ts.map V.ref++[.ref t])) b=some u:=fun{b u} e=>by rw[zh (zk e f1)];exact s57 _ _ (s5 _ _ e)
  refine beh _ _ _ pl sl' ts ds0 d t g pc (nmL (clAt ns 2) (3+ps.length)) rfl rfl rfl zg hsl8 (by lia) (kp7 (s57 _ _ S5.hd) (by intro _ z;cases z)) (s8 hl) S5.ok (by lia) (ht.tups fun b xs e=>kp7 e (by intro _ z;cases z)) hSp fun H9 r s9 hr9=>?_;have hsl9:=s9 _ _ hsl8;have hpl9:=s9 _ _ (zg (H:=H7) (a:=pl) (o:=.lst (ts.map V.ref++[.ref t])));have nrs:r≠sl':=fun z=>by rw[z,hsl9]at hr9;cases hr9
  have f2':H sl'=none:=by
   cases e:H sl' with
   |none=>rfl
   |some u=>rw[old f1 e]at f2;cases f2
  have s10:∀{b u},H b=some u->upd H9 sl' (.lst ((ds0.map V.ref++[.ref d])++[.ref r])) b=some u:=fun{b u} e=>by rw[zh (zk e f2')];exact s9 _ _ (s8 e)
  have hcl10:upd H9 sl' (.lst ((ds0.map V.ref++[.ref d])++[.ref r])) cl=some (.lst cx):=by rw[zh ncs];exact s9 _ _ hcl8
  have hsl10:=zg (H:=H9) (a:=sl') (o:=.lst ((ds0.map V.ref++[.ref d])++[.ref r]));have hr10:upd H9 sl' (.lst ((ds0.map V.ref++[.ref d])++[.ref r])) r=some (.dK (aft g l pc)):=by rw[zh nrs];exact hr9
  have hpl10:upd H9 sl' (.lst ((ds0.map V.ref++[.ref d])++[.ref r])) pl=some (.lst (ts.map V.ref++[.ref t])):=by rw[zh nps];exact hpl9
  have kp10:∀{b u},H7 b=some u->(∀xs,u≠.lst xs)->upd H9 sl' (.lst ((ds0.map V.ref++[.ref d])++[.ref r])) b=some u:=fun{b u} e n=>by
   have e9:=s9 _ _ (kp7 e n);rw[zh fun z=>by rw[z,hsl9]at e9;exact n _ (uQ.inj e9).symm];exact e9
  have stepOk:∀g',stp g l pc=.inl g'->SI (upd H9 sl' (.lst ((ds0.map V.ref++[.ref d])++[.ref r]))) l h pl sl' (ps++[pc]) (hs0++[g]) g' (ts++[t]) (ds0++[d]) r:=fun g' e=>S5.step Ol s57 ht hSp s9 hr9 e;generalize upd H9 sl' (.lst ((ds0.map V.ref++[.ref d])++[.ref r]))=H10 at *;have lw:=Qg (n:=nmL (clAt ns 2) (3+ps.length)) (c:=pc) S5.ok Ol hSp (show g.length<=900 by lia);refine zf rfl (zf rfl ⟨sl',_,_,_,rfl,rfl,SqL.of hsl10,yg _ _,r,(zf rfl ⟨hr10,lw.1,lw.2,fun H11 wl s11 hwl=>⟨by show 0<=sizeLine;lia,fun el f12=>⟨wl,el,(zf rfl ⟨rfl,SqL.of (old f12 hwl),SqL.of zg,(zf rfl ?_)⟩)⟩⟩⟩)⟩);have s12:=s11.new (o:=.lst []) f12;generalize upd H11 el (.lst [])=H12 at *;cases es:stp g l pc with
  |inl g' =>
   rw[Xc es,Xd];refine iteF (nxtC ⟨fun b u e=>s12 _ _ (s10 e),s12 _ _ hcl10,⟨_,_,_,_,_,_,(stepOk g' es).same s12,by simp⟩,_,_,_,rfl⟩)
  |inr z =>
   obtain⟨hz,_,ea⟩:=X6 S5.ok Ol hSp es;obtain⟨wr,ew⟩:=ZI g (nmL (clAt ns 2) (3+ps.length)) z hz;rw[ea,ew];refine iteT ?_;have s02:Same H H12:=fun b u e=>s12 _ _ (s10 e);refine zx rfl rfl ⟨a,ns,40,rfl,SqL.same hS s02,fun H13 s13=>⟨by show 2<=sizeLine;lia,fun q2 fq=>⟨by show 3<=sizeLine;lia,fun t2 ft2=>⟨by show 1<=sizeLine;lia,fun ll fll=>⟨pl,ll,(zI rfl rfl ⟨old fll (old ft2 (old fq (s13 _ _ (s12 _ _ hpl10)))),zg,?_,fun pl2 fp2=>zf rfl ⟨by show 2<=sizeLine;lia,fun tp ftp=>?_⟩⟩)⟩⟩⟩⟩⟩
   ·rw[uk,uc]
    show ts.length+1+1<=sizeLine
    have:=S5.lt
    lia
   have sA:=((s13.new (o:=.tup [.str "num",.int 0]) fq).new (o:=.tup [.str "let",.str (nmL (clAt ns 2) 40),.ref q2]) ft2).new (o:=.lst [.ref t2]) fll;have hq:upd (upd (upd H13 q2 (.tup [.str "num",.int 0])) t2 (.tup [.str "let",.str (nmL (clAt ns 2) 40),.ref q2])) ll (.lst [.ref t2]) q2=some (.tup [.str "num",.int 0]):=old fll (old ft2 zg);have ht2:upd (upd (upd H13 q2 (.tup [.str "num",.int 0])) t2 (.tup [.str "let",.str (nmL (clAt ns 2) 40),.ref q2])) ll (.lst [.ref t2]) t2=some (.tup [.str "let",.str (nmL (clAt ns 2) 40),.ref q2]):=old fll zg;generalize upd (upd (upd H13 q2 (.tup [.str "num",.int 0])) t2 (.tup [.str "let",.str (nmL (clAt ns 2) 40),.ref q2])) ll (.lst [.ref t2])=HA at *;have sB:=sA.new (o:=.lst ((ts.map V.ref++[.ref t])++[.ref t2])) fp2;have hpB:=zg (H:=HA) (a:=pl2) (o:=.lst ((ts.map V.ref++[.ref t])++[.ref t2]));have hqB:=old (o:=.lst ((ts.map V.ref++[.ref t])++[.ref t2])) fp2 hq;have htB:=old (o:=.lst ((ts.map V.ref++[.ref t])++[.ref t2])) fp2 ht2;generalize upd HA pl2 (.lst ((ts.map V.ref++[.ref t])++[.ref t2]))=HB at *;have sC:=(s12.trans sB).new (o:=.tup [.ref pl2,.ref sl']) ftp;have tC:Tups H7 (upd HB tp (.tup [.ref pl2,.ref sl'])):=fun b xs e=>sC _ _ (kp10 e (by intro _ z;cases z));refine q _ tp pl2 sl' (fun b u e=>sC _ _ (s10 e)) zg (.inr ⟨ps,hs0,g,ts,ds0,d,pc,z,nmL (clAt ns 2) (3+ps.length),nmL (clAt ns 2) 40,t,t2,r,⟨S5.run,S5.z0,?_,sC _ _ hsl10,S5.lt,S5.ld,fun k t' p' e1 e2=>((S5.tp k t' p' e1 e2).same s57).tups tC,fun k d' g' e1 e2=>sC _ _ (kp10 (s57 _ _ (S5.dd k d' g' e1 e2)) (by intro _ z;cases z)),sC _ _ (kp10 (s57 _ _ S5.hd) (by intro _ z;cases z)),S5.lb,hSp.ok S5.ok Ol,es,ht.tups tC,⟨q2,old ftp htB,old ftp hqB⟩,?_,hz⟩,by lia⟩)
   ·rw[old ftp hpB,uH,Uj]
    rfl
   ·rw[sC _ _ hr10,ea]
 rintro σ H4 ⟨s4,_,⟨ps,hs0,g,ts,ds0,d,S4,el⟩,u,v,w',rfl⟩;have lds:∀{H ps hs0 g ts ds0 d},SI H l h pl sl' ps hs0 g ts ds0 d->ds0.length=ps.length:=fun S=>by
  have:=S.run.len
  rw[uk]at this;have e:=S.ld;simp at this
  lia
 have f2':H sl'=none:=by
  cases e:H sl' with
  |none=>rfl
  |some u=>rw[old f1 e]at f2;cases f2
 have add:∀(D':Ends)(σ:L2.St)(H5 H7:Hp)(ps:List Pc)(hs0:List Nm)(g:Nm)(ts ds0:List Addr)(d t:Addr)(pc:Pc)(n:Str)(g':Nm),σ[2]?=some (some (.ref ld))->σ[4]?=some (some (.ref pl))->σ[5]?=some (some (.ref sl'))->Same H H5->SI H5 l h pl sl' ps hs0 g ts ds0 d->ps.length<=300->Same H5 H7->IsPc H7 t pc->PcS g l n pc->stp g l pc=.inl g'->(∀H10 r,Same H H10->(∀b u,b≠pl->b≠sl'->H7 b=some u->H10 b=some u)->SI H10 l h pl sl' (ps++[pc]) (hs0++[g]) g' (ts++[t]) (ds0++[d]) r->D'.nx σ H10) ->
   (ZM (tBM K "list" vg (tVar 5) (yf (wo spBehindL [] E0 (yf (tOp (rIxL K) (tVar 5) (tUn (rU fun i=>V.int (-i)) (tC (V.int 1)))) (yf (tVar 2) (yf (tOp (rIxL K) (tVar 4) (tUn (rU fun i=>V.int (-i)) (tC (V.int 1)))) tNil)))) tNil)):TS) D' σ (upd H7 pl (.lst (ts.map V.ref++[.ref t]))):=by
  intro D' σ H5 H7 ps hs0 g ts ds0 d t pc n g' e2 e4 e5 s5 S5 lps s57 ht hSp es k;have lg:=S5.len;have kp7:∀{b u},H7 b=some u->(∀xs,u≠.lst xs)->upd H7 pl (.lst (ts.map V.ref++[.ref t])) b=some u:=fun{b u} e n=>by rw[zh fun z=>by rw[z,s57 _ _ S5.hpl]at e;exact n _ (uQ.inj e).symm];exact e
  have hsl8:upd H7 pl (.lst (ts.map V.ref++[.ref t])) sl'=some (.lst (ds0.map V.ref++[.ref d])):=by rw[zh nps.symm];exact s57 _ _ S5.hsl
  have s8:∀{b u},H b=some u->upd H7 pl (.lst (ts.map V.ref++[.ref t])) b=some u:=fun{b u} e=>by rw[zh (zk e f1)];exact s57 _ _ (s5 _ _ e)
  have ld':=lds S5;refine beh _ _ _ pl sl' ts ds0 d t g pc n e2 e4 e5 zg hsl8 (by lia) (kp7 (s57 _ _ S5.hd) (by intro _ z;cases z)) (s8 hl) S5.ok (by lia) (ht.tups fun b xs e=>kp7 e (by intro _ z;cases z)) hSp fun H9 r s9 hr9=>?_;refine k _ r (fun b u e=>by rw[zh (zk e f2')];exact s9 _ _ (s8 e)) (fun b u n1 n2 e=>by rw[zh n2];exact s9 _ _ (by rw[zh n1];exact e)) (S5.step Ol s57 ht hSp s9 hr9 es)
 refine zf rfl (zf rfl ⟨sl',_,_,_,rfl,rfl,SqL.of S4.hsl,yg _ _,fun dn f5=>⟨d,dn,(zf rfl ⟨rfl,old f5 S4.hd,zg,(zf rfl ?_)⟩)⟩⟩);have s5:=s4.new (o:=.dK []) f5;have S5:=S4.same (same_new f5 (.dK []));generalize upd H4 dn (.dK [])=H5 at *;have lg5:=S5.len;refine za8 (fun σ' H'=>Same H H'/\(∃ps hs0 g ts ds0 d,SI H' l h pl sl' ps hs0 g ts ds0 d/\g≠[]/\ps.length<=70)/\∃u v w',σ'=[sR a,sR hd,sR ld,some (.int st),sR pl,sR sl',u,v,w']) (fun _ D' k=>?_) (fun c=>⟨s5,⟨_,_,_,_,_,_,S5,?_,by lia⟩,_,_,_,rfl⟩) ?_
 ·refine zf rfl ⟨.inl ⟨rfl,_,SqL.of S5.hpl⟩,zf rfl ⟨a,ns,40,rfl,SqL.same hS s5,fun H6 s6=>⟨by show 2<=sizeLine;lia,fun q2 fq=>⟨by show 3<=sizeLine;lia,fun t2 ft2=>⟨pl,_,.ref t2,rfl,rfl,old ft2 (old fq (s6 _ _ S5.hpl)),?_,?_⟩⟩⟩⟩⟩
  ·rw[uc,S5.lt];lia
  ·refine add _ _ H5 _ ps hs0 g ts ds0 d t2 (.num (nmL (clAt ns 2) 40) 5) (nmL (clAt ns 2) 40) _ rfl rfl rfl s5 S5 (by lia) ((s6.new fq).new ft2) ⟨q2,zg,old ft2 zg⟩ ⟨rfl,by constructor<;>decide⟩ rfl fun H10 r s10 _ S10=>?_
   refine k _ _ ⟨s10,⟨_,_,_,_,_,_,S10,?_,by simp;lia⟩,_,_,_,rfl⟩;intro z
   have:=jQ g (nmL (clAt ns 2) 40) 5
   rw[z]at this;split at this
   ·next c=>rw[<- this]at c;cases c
   ·simp at this
 ·intro z
  rw[z]at c;cases c
 rintro σ H6 ⟨s6,⟨ps6,hs6,g6,ts6,ds6,d6,S6,ne6,l6⟩,u,v,w',rfl⟩;have lg6:=S6.len;obtain⟨q0,gr,rfl⟩:∃q0 gr,g6=q0::gr:=by
  cases g6 with
  |nil=>exact absurd rfl ne6
  |cons a b=>exact⟨a,b,rfl⟩
 have nd6:=S6.ok.nd;rw[uC,uW]at nd6;refine zf rfl (zf rfl ⟨sl',_,_,_,rfl,rfl,SqL.of S6.hsl,yg _ _,d6,(zf rfl ⟨S6.hd,fun kl f7=>⟨1,rfl,kl,(zf rfl ⟨SqL.of zg,fun cl2 f8=>⟨cl2,rfl,⟨_,SqL.of zg⟩,?_⟩⟩)⟩⟩)⟩);rw[vk,za7]at *;rw[show(((q0::gr).map (·.1)).map V.str).tail=(gr.map (·.1)).map V.str from rfl]at *;have s7:=(s6.new (o:=.lst (((q0::gr).map (·.1)).map V.str)) f7).new (o:=.lst ((gr.map (·.1)).map V.str)) f8;have S7:=(S6.same (same_new f7 (.lst (((q0::gr).map (·.1)).map V.str)))).same (same_new f8 (.lst ((gr.map (·.1)).map V.str)));have hc7:=zg (H:=upd H6 kl (.lst (((q0::gr).map (·.1)).map V.str))) (a:=cl2) (o:=.lst ((gr.map (·.1)).map V.str));have nc1:cl2≠pl:=(zk (old f7 S6.hpl) f8).symm;have nc2:cl2≠sl':=(zk (old f7 S6.hsl) f8).symm;generalize upd (upd H6 kl (.lst (((q0::gr).map (·.1)).map V.str))) cl2 (.lst ((gr.map (·.1)).map V.str))=H7 at *;refine vw (K:=K) (xs:=(gr.map (·.1)).map V.str) (fun i σ H'=>Same H H'/\H' cl2=some (.lst ((gr.map (·.1)).map V.str))/\(∃ps hs0 g ts ds0 d,SI H' l h pl sl' ps hs0 g ts ds0 d/\ps.length=ps6.length+i/\q0∈g/\∀p∈gr.drop i,p∈g)/\∃u v w',σ=[sR a,sR hd,sR ld,some (.int st),sR pl,sR sl',u,v,w']) ⟨s7,hc7,⟨_,_,_,_,_,_,S7,rfl,uS,fun p hp=>u6 _ hp⟩,_,_,_,rfl⟩ (fun i σ H' _ h=>SqL.of h.2.1) ?_ ?_
 ·rintro i x σ H8 hx ⟨s8,hc8,⟨ps,hs0,g,ts,ds0,d,S8,le8,q8,r8⟩,u,v,w',rfl⟩
  rw[ux,ux]at hx;obtain⟨y,hy,rfl⟩:=uz.mp hx;obtain⟨p,hp,rfl⟩:=uz.mp hy;have hi:=(ud.mp hp).1;have hlg:gr.length<=72:=by
   have:(q0::gr).length=gr.length+1:=rfl
   lia
  have hd8:gr.drop i=p::gr.drop (i+1):=by
   rw[Uc hi]
   congr 1
   exact(ud.mp hp).2
  have pg:p∈g:=r8 p (by rw[hd8];exact .head _);dsimp only[uR]
  refine zf rfl ⟨.inl ⟨rfl,_,SqL.of S8.hpl⟩,zf rfl ⟨by show 2<=sizeLine;lia,fun t ft=>⟨pl,_,.ref t,rfl,rfl,old ft S8.hpl,?_,?_⟩⟩⟩
  ·rw[uc,S8.lt];lia
  refine add _ _ H8 _ ps hs0 g ts ds0 d t (.drop p.1) "" (y9 g p.1) rfl rfl rfl s8 S8 (by lia) (same_new ft _) zg (uw.mpr ⟨p,pg,rfl⟩) rfl fun H10 r s10 k10 S10=>?_;refine⟨s10,k10 _ _ nc1 nc2 (old ft hc8),⟨_,_,_,_,_,_,S10,by simp;lia,?_,fun p' hp'=>?_⟩,_,_,_,rfl⟩
  ·unfold y9
   refine UR.mpr ⟨q8,decide_eq_true fun z=>nd6.1 ?_⟩;rw[z];exact uw.mpr ⟨p,uM hp,rfl⟩
  ·unfold y9
   refine UR.mpr ⟨r8 p' (by rw[hd8];exact .tail _ hp'),decide_eq_true fun z=>?_⟩;have nd:=nd6.2;rw[<- UM i gr,hd8,uH,List.nodup_append,uC,uW]at nd;exact nd.2.1.1 (by rw[<- z];exact uw.mpr ⟨p',hp',rfl⟩)
 ·rintro σ H8 ⟨s8,_,⟨ps,hs0,g,ts,ds0,d,S8,le8,q8,_⟩,u,v,w',rfl⟩
  rw[uc,uc]at le8
  have:(q0::gr).length=gr.length+1:=rfl
  refine zx rfl rfl ⟨by show 2<=sizeLine;lia,fun tp ftp=>q _ tp pl sl' (s8.new ftp) zg (.inl ⟨_,_,_,_,_,_,S8.same (same_new ftp _),fun z=>?_,by lia⟩)⟩;rw[z]at q8;cases q8
end
def filN(s:Nm×Nm)(p:Str×Bool×Int):Nm×Nm:=if p.2.1 then(putS s.1 p.1 p.2.2,s.2)else(s.1,putS s.2 p.1 p.2.2)
def pz(ps:lS)(os:List Bool)(is:List Int):List (Str×Bool×Int):=ps.zip (os.zip is)
def fN(ps:lS)(os:List Bool)(is:List Int):Nm×Nm:=(pz ps os is).foldl filN ([],[])
theorem zdM{ps:lS}{is:List Int}{p:Str}{o:Bool}{z:Int}(h1:ps[i]?=some p)(h2:os[i]?=some o)(h3:is[i]?=some z):(pz ps os is)[i]?=some (p,o,z):=UA (z:=(p,o,z)) |>.mpr ⟨h1,UA (z:=(o,z)) |>.mpr ⟨h2,h3⟩⟩
theorem pz_V:∀(ps:lS)(os:List Bool)(is:List Int),ps.zip (os.zip (is.map V.int))=(pz ps os is).map fun p=>(p.1,p.2.1,.int p.2.2)
 |[],_,_=>rfl
 |_::_,[],_=>rfl
 |_::_,_::_,[]=>rfl
 |p::ps,o::os,i::is=>by
  unfold pz;rw[uC,UV,UV,UV,UV,uC,pz_V ps os is]
  rfl
theorem Xe:∀(L:List (Str×Bool×Int))(a b:Nm),(L.map fun p=>(p.1,p.2.1,V.int p.2.2)).foldl filS (eh a,eh b)=(eh (L.foldl filN (a,b)).1,eh (L.foldl filN (a,b)).2)
 |[],_,_=>rfl
 | (x,o,i)::L,a,b=>by
  rw[uC,U0,U0];cases o with
  |true =>
   show(L.map _).foldl filS (putK (eh a) (.inr x) (.int i),eh b)=_;rw[yQ];exact Xe L _ _
  |false =>
   show(L.map _).foldl filS (eh a,putK (eh b) (.inr x) (.int i))=_;rw[yQ];exact Xe L _ _
theorem Qh(ps:lS)(os:List Bool)(is:List Int):fil ps os (is.map V.int)=(eh (fN ps os is).1,eh (fN ps os is).2):=by
 unfold fil;rw[pz_V];exact Xe _ [] []
theorem Qi(ps:lS)(os:List Bool)(is:List Int):lnt ps os (is.map V.int)=((pz ps os is).filter fun p=>!p.2.1).map fun p=>(p.1,V.int p.2.2):=by
 unfold lnt;rw[pz_V,List.filter_map,UO]
 rfl
theorem Xf:∀(L:List (Str×Bool×Int))(a b:Nm),((L.filter fun p=>!p.2.1).map fun p=>(p.1,V.int p.2.2)).foldl putL (eh b)=eh (L.foldl filN (a,b)).2
 |[],_,_=>rfl
 | (x,o,i)::L,a,b=>by
  rw[U0];cases o with
  |true=>exact Xf L (putS a x i) b
  |false =>
   show((L.filter _).map _).foldl putL (putK (eh b) (.inr x) (.int i))=_;rw[yQ];exact Xf L a (putS b x i)
theorem za9(ps:lS)(os:List Bool)(is:List Int):(lnt ps os (is.map V.int)).foldl putL []=eh (fN ps os is).2:=by
 rw[Qi];exact Xf _ [] []
theorem Yp{i:Int}(n:x∉h.map (·.1)):putS h x i=h++[(x,i)]:=by
 unfold putS;rw[if_neg];intro z;obtain⟨p,hp,e⟩:=List.any_eq_true.mp z;exact n (uw.mpr ⟨p,hp,of_decide_eq_true e⟩)
theorem wH:∀(L:List (Str×Bool×Int))(a b:Nm),(b.map (·.1)++L.map (·.1)).Nodup->(L.foldl filN (a,b)).2.map (·.1)=b.map (·.1)++(L.filter fun p=>!p.2.1).map (·.1)
 |[],_,b,_=>by simp
 | (x,o,i)::L,a,b,hn=>by
  rw[U0];cases o with
  |true =>
   have hn2:(b.map (·.1)++L.map (·.1)).Nodup:=hn.sublist (List.Sublist.append_left (List.sublist_cons_self _ _) _);exact wH L (putS a x i) b hn2
  |false =>
   have nx:x∉b.map (·.1):=fun z=>by
    rw[uC,List.nodup_append]at hn;exact hn.2.2 x z x (uS) rfl
   show(L.foldl filN (a,putS b x i)).2.map (·.1)=_;have e:(putS b x i).map (·.1)=b.map (·.1)++[x]:=by rw[Yp nx,uH];rfl
   rw[wH L a (putS b x i) (by rw[e,Uj];exact hn),e,Uj]
   rfl
theorem X7:∀(L:List (Str×Bool×Int))(a b:Nm),NmOk a->NmOk b->(∀p∈L,K31.Sm p.2.2)->NmOk (L.foldl filN (a,b)).1/\NmOk (L.foldl filN (a,b)).2/\(L.foldl filN (a,b)).1.length<=a.length+L.length/\(L.foldl filN (a,b)).2.length<=b.length+L.length
 |[],a,b,A,B,_=>⟨A,B,ui _,ui _⟩
 | (x,o,i)::L,a,b,A,B,hs=>by
  rw[U0,uJ];have hi:=hs _ uS;have hs':∀p∈L,K31.Sm p.2.2:=fun p hp=>hs p (u6 _ hp);cases o with
  |true =>
   obtain⟨r1,r2,r3,r4⟩:=X7 L (putS a x i) b (A.put x hi) B hs'
   have:=xO a x i
   exact⟨r1,r2,uy r3 (by lia),uy r4 (by lia)⟩
  |false =>
   obtain⟨r1,r2,r3,r4⟩:=X7 L a (putS b x i) A (B.put x hi) hs'
   have:=xO b x i
   exact⟨r1,r2,uy r3 (by lia),uy r4 (by lia)⟩
theorem X8{a:Str}{i:Int}:∀(l:Nm),(l.map (·.1)).Nodup->a∉l.map (·.1)->dps (l++[(a,i)]) (l.map (·.1)) a=some i
 |[],_,_=>by
  show yp [(a,i)] a=some i;unfold yp;simp
 | (y,j)::l,hn,ha=>by
  rw[uC,uW]at hn;rw[uC,uh,not_or]at ha;have e1:yp ((y,j)::(l++[(a,i)])) y=some j:=by unfold yp;simp
  have e2:y9 ((y,j)::(l++[(a,i)])) y=l++[(a,i)]:=by
   unfold y9;rw[List.filter_cons_of_neg (by simp),List.filter_eq_self];intro p hp;refine decide_eq_true fun z=>?_;rcases u0.mp hp with hp|hp
   ·exact hn.1 (uw.mpr ⟨p,hp,z⟩)
   ·rw[ug.mp hp]at z;exact ha.1 z
  show(match yp ((y,j)::(l++[(a,i)])) y with
   |some _=>dps (y9 ((y,j)::(l++[(a,i)])) y) (l.map (·.1)) a
   |none=>none)=some i
  rw[e1,e2];exact X8 l hn.2 ha.2
theorem Yq:∀{zs:lS},(∀z∈zs,∀c∈cl z,97<=c)->∀c∈cl (Str.join "" zs),97<=c
 |[],_,c,hc=>by cases hc
 |[x],h,c,hc=>h x uS c hc
 |x::y::r,h,c,hc=>by
  rw[wC]at hc;rcases u0.mp hc with hc|hc
  ·exact h x uS c hc
  rcases u0.mp hc with hc|hc
  ·cases hc
  ·exact Yq (fun z hz=>h z (u6 _ hz)) c hc
theorem zba(st:Int)(k:Nat):∀c∈cl (nmL st k),97<=c:=by
 have e1:∀c∈cl (Str.join "" (exL st)),97<=c:=Yq fun z hz c hc=>by
  obtain⟨j,_,rfl⟩:=uw.mp hz
  have:cl (lt (st / ((j:Int)+2) % 26).toNat)=[97+(st / ((j:Int)+2) % 26).toNat]:=rfl
  rw[this,ug]at hc;lia
 have e2:∀c∈cl (xx k),97<=c:=fun c hc=>by
  rw[wE]at hc;simp only[uh,uL,or_false]at hc
  lia
 intro c hc;unfold nmL at hc;split at hc
 ·rw[xi]at hc
  exact(u0.mp hc).elim (e1 c) (e2 c)
 ·rw[xi]at hc
  exact(u0.mp hc).elim (e2 c) (e1 c)
theorem zbb(st:Int)(k:Nat):nmL st k≠"answer.":=fun e=>by
 have:=zba st k 46 (by rw[e];decide)
 lia
theorem zbc{st:Int}{k:Nat}(hj:j < 26)(hk:k < 26)(e:nmL st j=nmL st k):j=k:=by
 have e2:cl (xx j)=cl (xx k):=by
  have e:=congrArg cl e;unfold nmL at e;split at e
  ·rw[xi,xi]at e
   exact List.append_cancel_left e
  ·rw[xi,xi]at e
   exact List.append_cancel_right e
 rw[wE,wE]at e2;injection e2 with e2
 lia
theorem W7(st:Int)(hn:n<=26):((uZ n).map (nmL st)).Nodup:=by
 refine List.Pairwise.map _ (fun a b h=>h) ?_;refine List.Pairwise.imp_of_mem (R:=fun a b=>a≠b) (fun{a b} ha hb h z=>?_) List.nodup_range;rw[List.mem_range]at ha hb;exact h (zbc (by lia) (by lia) z)
def IsBd1(H:Hp)(b nx:Addr):Pc->Prop
 |.num n i=>∃q,H b=some (.tup [.str "let",.str n,.ref q,.ref nx])/\H q=some (.tup [.str "num",.int i])
 |.op n w x y=>∃q,H b=some (.tup [.str "let",.str n,.ref q,.ref nx])/\H q=some (.tup [.str "op",.str w,.str x,.str y])
 |.hold n y=>H b=some (.tup [.str "hold",.str n,.str y,.ref nx])
 |.drop y=>H b=some (.tup [.str "drop",.str y,.ref nx])
theorem IsBd1.keep{nx:Addr}(h:IsBd1 H b nx p)(t:Tups H H'):IsBd1 H' b nx p:=by
 cases p with
 |num n i=>obtain⟨q,a,c⟩:=h;exact⟨q,t _ _ a,t _ _ c⟩
 |op n w x y=>obtain⟨q,a,c⟩:=h;exact⟨q,t _ _ a,t _ _ c⟩
 |hold n y=>exact t _ _ h
 |drop y=>exact t _ _ h
def Bods(H:Hp)(x:Str):List Pc->List Addr->Prop
 |[],bs=>∃b,bs=[b]/\H b=some (.tup [.str "give",.str x])
 |p::r,bs=>∃b nx rest,bs=b::nx::rest/\IsBd1 H b nx p/\Bods H x r (nx::rest)
theorem Bods.keep(t:Tups H H'):∀{ps:List Pc}{bs:List Addr},Bods H x ps bs->Bods H' x ps bs
 |[],_,⟨b,e,h⟩=>⟨b,e,t _ _ h⟩
 |_::_,_,⟨b,nx,rest,e,h,r⟩=>⟨b,nx,rest,e,h.keep t,r.keep t⟩
theorem Bods.len:∀{ps:List Pc}{bs:List Addr},Bods H x ps bs->bs.length=ps.length+1
 |[],_,⟨b,e,h⟩=>by rw[e];rfl
 |_::_,_,⟨b,nx,rest,e,h,r⟩=>by
  have:=r.len
  rw[e];simp at this ⊢
  lia
theorem Bods.cd:∀{ps:List Pc}{b:Addr}{rest:List Addr},Bods H x ps (b::rest)->IsCd H ps x (.ref b)
 |[],b,_,⟨b',e,h⟩=>by cases e;exact⟨b,rfl,h⟩
 |p::r,b,_,⟨b',nx,rest,e,h,g⟩=>by
  cases e;have ih:=g.cd;cases p with
  |num n i=>obtain⟨q,h1,h2⟩:=h;exact⟨b,q,(zf rfl ⟨h1,h2,ih⟩)⟩
  |op n w y z=>obtain⟨q,h1,h2⟩:=h;exact⟨b,q,(zf rfl ⟨h1,h2,ih⟩)⟩
  |hold n y=>exact⟨b,(zf rfl ⟨h,ih⟩)⟩
  |drop y=>exact⟨b,(zf rfl ⟨h,ih⟩)⟩
theorem Bods.tup:∀{ps:List Pc}{b:Addr}{rest:List Addr},Bods H x ps (b::rest)->∃xs,H b=some (.tup xs)
 |[],b,_,⟨b',e,h⟩=>by cases e;exact⟨_,h⟩
 |p::r,b,_,⟨b',nx,rest,e,h,g⟩=>by
  cases e;cases p with
  |num n i=>obtain⟨q,h1,h2⟩:=h;exact⟨_,h1⟩
  |op n w y z=>obtain⟨q,h1,h2⟩:=h;exact⟨_,h1⟩
  |hold n y=>exact⟨_,h⟩
  |drop y=>exact⟨_,h⟩
theorem vm{ys:List V}{u v:V}(e:xs++[u]=ys++[v]):u=v:=by
 have:=congrArg List.getLast? e
 simpa using this
theorem Bods.nx{rest:List Addr}{bv':V}(B:Bods H x (p::r) (b::rest))(n:Nx H (.ref b) bv'):∃nx rest',rest=nx::rest'/\bv'=.ref nx/\Bods H x r (nx::rest'):=by
 obtain⟨b',nx,rest',e,h,g⟩:=B;cases e;obtain⟨p0,xs,e0,hx⟩:=n;cases e0;refine⟨nx,rest',rfl,?_,g⟩;cases p with
 |num n i=>obtain⟨q,h1,h2⟩:=h;rw[h1]at hx;injection hx with hx;injection hx with hx;exact(vm (xs:=[.str "let",.str n,.ref q]) hx).symm
 |op n w y z=>obtain⟨q,h1,h2⟩:=h;rw[h1]at hx;injection hx with hx;injection hx with hx;exact(vm (xs:=[.str "let",.str n,.ref q]) hx).symm
 |hold n y=>rw[show H b=_ from h]at hx;injection hx with hx;injection hx with hx;exact(vm (xs:=[.str "hold",.str n,.str y]) hx).symm
 |drop y=>rw[show H b=_ from h]at hx;injection hx with hx;injection hx with hx;exact(vm (xs:=[.str "drop",.str y]) hx).symm
theorem Qj{t:Addr}(h:IsPc H t p):∃xs,H t=some (.tup xs)/\xs≠[]/\xs.length<=3/\∀H' b nx,Tups H H'->H' b=some (.tup (xs++[.ref nx]))->IsBd1 H' b nx p:=by
 cases p with
 |num n i=>obtain⟨q,h1,h2⟩:=h;exact⟨_,h1,by simp,by simp,fun H' b nx t e=>⟨q,e,t _ _ h2⟩⟩
 |op n w y z=>obtain⟨q,h1,h2⟩:=h;exact⟨_,h1,by simp,by simp,fun H' b nx t e=>⟨q,e,t _ _ h2⟩⟩
 |hold n y=>exact⟨_,h,by simp,by simp,fun H' b nx t e=>e⟩
 |drop y=>exact⟨_,h,by simp,by simp,fun H' b nx t e=>e⟩
theorem Bods.cons{nx:Addr}{rest:List Addr}(g:Bods H x r (nx::rest))(h:IsBd1 H b nx p):Bods H x (p::r) (b::nx::rest):=⟨b,nx,rest,rfl,h,g⟩
theorem Bods.drop:∀{ps:List Pc}{bs:List Addr}(k:Nat),Bods H x ps bs->k<=ps.length->Bods H x (ps.drop k) (bs.drop k)
 |ps,bs,0,B,_=>B
 |[],_,k+1,_,h=>absurd h (by simp)
 |p::r,bs,k+1,⟨b,nx,rest,e,h,g⟩,hk=>by
  subst e;exact g.drop k (by simp at hk;exact hk)
structure Pln(H:Hp)(pl sl:Addr)(PCS:List Pc)(ts dsi:List Addr)(ld:Addr)(KV:List (Key×V))(x:Str):Prop where
 hpl:H pl=some (.lst (ts.map V.ref))
 lt:ts.length=PCS.length
 tp:∀(k:Nat) t p,ts[k]?=some t->PCS[k]?=some p->IsPc H t p
 hsl:H sl=some (.lst (dsi.map V.ref++[.ref ld]))
 hld:H ld=some (.dK KV)
 lk:KV.length<=1000
 fst:∃v r,KV=(.inr x,v)::r
 lp:PCS.length<=300
def LnkN(H:Hp)(l h0:Nm)(pl sl:Addr)(PCS:List Pc)(ts dsi:List Addr)(ld:Addr)(KV:List (Key×V)):Prop :=
 (∃hs0 h',SI H l h0 pl sl PCS hs0 h' ts dsi ld/\KV=eh h'/\PCS.length<=200) \/
 ∃ps hs0 h ts0 ds0 d p z n n2 t t2,SE H l h0 pl sl ps hs0 h ts0 ds0 d p z n n2 t t2 ld/\PCS=ps++[p,.num n2 0]/\ts=ts0++[t,t2]/\dsi=ds0++[d]/\KV=putK (eh h) (.inr n) (.str z)/\ps.length<=200
theorem zbd(h:Nm)(n:Str)(v:V):∃x w r,putK (eh h) (.inr n) v=(.inr x,w)::r:=by
 unfold putK;split
 ·cases h with
  |nil=>next c=>cases c
  |cons q h =>
   by_cases c:(Sum.inr q.1:Key)=.inr n
   ·exact⟨q.1,v,_,by show(if(Sum.inr q.1:Key)=.inr n then _ else _)::_=_;rw[if_pos c]⟩
   ·exact⟨q.1,.int q.2,_,by show(if(Sum.inr q.1:Key)=.inr n then _ else _)::_=_;rw[if_neg c]⟩
 ·cases h with
  |nil=>exact⟨n,v,[],rfl⟩
  |cons q h=>exact⟨q.1,.int q.2,_,rfl⟩
theorem zbe{l:Nm}(o:(∃ps hs0 h' ts ds0 d,SI H l h0 pl sl ps hs0 h' ts ds0 d/\h'≠[]/\ps.length<=200)\/∃ps hs0 h' ts ds0 d p z n n2 t t2 r,SE H l h0 pl sl ps hs0 h' ts ds0 d p z n n2 t t2 r/\ps.length<=200):
  ∃PCS ts dsi ld KV x,Pln H pl sl PCS ts dsi ld KV x/\LnkN H l h0 pl sl PCS ts dsi ld KV:=by
 rcases o with⟨ps,hs0,h',ts,ds0,d,S,ne,lp⟩|⟨ps,hs0,h',ts,ds0,d,p,z,n,n2,t,t2,r,S,lp⟩
 ·obtain⟨q,hr,rfl⟩:∃q hr,h'=q::hr:=by
   cases h' with
   |nil=>exact absurd rfl ne
   |cons a b=>exact⟨a,b,rfl⟩
  have:=S.len
  exact⟨ps,ts,ds0,d,_,q.1,⟨S.hpl,S.lt,S.tp,S.hsl,S.hd,by rw[yt];lia,⟨_,_,rfl⟩,by lia⟩,.inl ⟨hs0,_,S,rfl,lp⟩⟩
 ·obtain⟨x,w,rr,e⟩:=zbd h' n (.str z)
  have l1:=yM (eh h') (.inr n) (.str z);have l2:=S.lb h' (by simp);rw[yt]at l1;refine⟨ps++[p,.num n2 0],ts++[t,t2],ds0++[d],r,_,x,⟨S.hpl,by simp[S.lt],fun k t' p' e1 e2=>?_,by rw[S.hsl,uH];rfl,S.hr,by lia,⟨_,_,e⟩,by simp;lia⟩,.inr ⟨ps,hs0,h',ts,ds0,d,p,z,n,n2,t,t2,S,rfl,rfl,rfl,rfl,lp⟩⟩;by_cases c:k < ts.length
  ·rw[uu c]at e1
   rw[uu (by rw[<- S.lt];exact c)]at e2;exact S.tp k t' p' e1 e2
  ·rw[ut (by lia)]at e1
   rw[ut (by rw[<- S.lt];lia),<- S.lt]at e2
   match hk:k-ts.length,e1,e2 with
   |0,e1,e2=>cases e1;cases e2;exact S.tt
   |1,e1,e2=>cases e1;cases e2;exact S.i2
   |j+2,e1,e2=>cases e1
def KZ(H H':Hp):Prop:=∀b u,H b=some u->(∀ps,u≠.tbl ps)->H' b=some u
theorem KZ.of(s:Same H H'):KZ H H':=fun b u e _=>s b u e
theorem KZ.trans(a:KZ H H1)(b:KZ H1 H2):KZ H H2:=fun c u e n=>b c u (a c u e n) n
theorem KZ.tups(a:KZ H H'):Tups H H':=fun b xs e=>a b _ e (by intro _ z;cases z)
def kd:HO->Nat
 |.ins _ _ ((n,_)::_)=>if n=("defs":Str)then 11 else if n=("body":Str)then 12 else if n=("size":Str)then 13 else 14
 |.dK _=>2
 |.lst []=>3
 |.lst (_::_)=>4
 |.tbl _=>5
 |.tup _=>6
 |_=>0
theorem vc{u v:HO}(m n:Nat)(e1:H a=some u)(e2:H b=some v)(hu:kd u=m)(hv:kd v=n)(h:m≠n):a≠b:=fun z=>by
 rw[z,e2]at e1;cases e1;exact h (hu.symm.trans hv)
theorem zbG{ks:List Nat}(k:KE S H H')(hS:∀a∈S,∃v,H a=some v/\kd v∈ks){u:HO}(e:H b=some u)(n:Nat)(hu:kd u=n)(hn:n∉ks):H' b=some u:=k b u (fun z=>by
 obtain⟨v,e2,hv⟩:=hS b z;rw[e2]at e;cases e;exact hn (hu ▸ hv)) e
theorem Qk(hE:X.E A H)(k:KE S H H')(hS:∀a∈S,∃v,H a=some v/\(kd v∈[4,5,11,12]\/Ap X H a/\kd v=2)):X.E A H':=by
 obtain⟨C,hE⟩:=hE;refine⟨C,hE.ke fun b u e c=>k b u (fun z=>?_) e⟩;obtain⟨v,e2,hv⟩:=hS b z;rw[e2]at e;cases e;rcases c with rfl|⟨_,_,_,_,_,_,rfl⟩|⟨_,_,_,rfl⟩|⟨rfl,C,dx,sz,kp,ext,e0⟩
 ·rcases hv with hv|⟨_,hv⟩
  ·exact absurd (show(3:Nat)∈[4,5,11,12]from hv) (by decide)
  ·exact absurd (show(3:Nat)=2 from hv) (by decide)
 ·rcases hv with hv|⟨_,hv⟩
  ·exact absurd (show(13:Nat)∈[4,5,11,12]from hv) (by decide)
  ·exact absurd (show(13:Nat)=2 from hv) (by decide)
 ·rcases hv with hv|⟨_,hv⟩
  ·exact absurd (show(14:Nat)∈[4,5,11,12]from hv) (by decide)
  ·exact absurd (show(14:Nat)=2 from hv) (by decide)
 ·rcases hv with hv|⟨ap,_⟩
  ·exact absurd (show(2:Nat)∈[4,5,11,12]from hv) (by decide)
  ·exact ap _ _ _ _ _ _ e0 rfl
structure Sts(H:Hp)(l h0:Nm)(sl:Addr)(ps:List Pc)(hs:List Nm)(D:List Addr):Prop where
 hsl:H sl=some (.lst (D.map V.ref))
 run:Run l ps hs
 z0:hs[0]?=some h0
 dd:∀(k:Nat) h,hs[k]?=some h->∃d,D[k]?=some d/\H d=some (.dK (eh h))
 lb:∀h∈hs,h.length<=300
 lp:ps.length<=200
inductive Tl(H:Hp)(l:Nm)(x:Str)(PCS ps:List Pc)(hs:List Nm)(D:List Addr):Prop
 |ok (h:Nm) (i:Int):PCS=ps->D.length=ps.length+1->hs[ps.length]?=some h->yp h x=some i->Tl H l x PCS ps hs D
 |err (p:Pc) (n2 n z:Str) (h:Nm) (r:Addr):PCS=ps++[p,.num n2 0]->D.length=ps.length+2->hs[ps.length]?=some h->PcOk h l p->stp h l p=.inr z->(z="great"\/z="nought")->D[ps.length+1]?=some r->H r=some (.dK (putK (eh h) (.inr n) (.str z)))->h.length<=300->Tl H l x PCS ps hs D
theorem zc6{l:Nm}{dsi:List Addr}{KV:List (Key×V)}(PL:Pln H pl sl PCS ts dsi ld KV x)(LK:LnkN H l h0 pl sl PCS ts dsi ld KV):∃ps hs,Sts H l h0 sl ps hs (dsi++[ld])/\Tl H l x PCS ps hs (dsi++[ld]):=by
 rcases LK with⟨hs0,h',S,eK,lp⟩|⟨ps,hs0,h,ts0,ds0,d,p,z,n,n2,t,t2,S,eP,eT,eD,eK,lp⟩
 ·have len:=S.run.len
  rw[uk]at len;have len:hs0.length=PCS.length:=by simpa using len
  have ld':=S.ld;refine⟨PCS,hs0++[h'],⟨by rw[S.hsl,uH];rfl,S.run,S.z0,fun k h e=>?_,fun h hh=>uy (S.lb h hh) (by lia),lp⟩,?_⟩
  ·by_cases c:k < hs0.length
   ·rw[uu c]at e
    obtain⟨d',e'⟩:∃d',dsi[k]?=some d':=⟨_,uf (by lia)⟩;exact⟨d',by rw[uu (by lia)];exact e',S.dd k d' h e' e⟩
   ·have kl:=(ud.mp e).1
    rw[uk]at kl;have ek:k=hs0.length:=by simp at kl;lia
    subst ek;rw[ut (ui _),Uw]at e;cases e;exact⟨ld,by rw[ut (by lia),ld',Uw];rfl,S.hd⟩
  ·obtain⟨v,r,ef⟩:=PL.fst
   rw[eK]at ef;cases h' with
   |nil=>cases ef
   |cons q hr =>
    unfold eh at ef;rw[uC]at ef;injection ef with e1 e2
    injection e1 with e1 e3
    injection e1 with e1
    refine .ok (q::hr) q.2 rfl (by rw[uk];simp;lia) (by rw[ut (by lia),show PCS.length-hs0.length=0 by lia];rfl) ?_;unfold yp;rw[US,decide_eq_true e1]
    rfl
 ·have len:=S.run.len
  rw[uk]at len;have len:hs0.length=ps.length:=by simpa using len
  have ld':=S.ld;subst eD;refine⟨ps,hs0++[h],⟨by rw[S.hsl,uH,uH];rfl,S.run,S.z0,fun k h2 e=>?_,fun h hh=>uy (S.lb h hh) (by lia),lp⟩,?_⟩
  ·by_cases c:k < hs0.length
   ·rw[uu c]at e
    obtain⟨d',e'⟩:∃d',ds0[k]?=some d':=⟨_,uf (by lia)⟩;exact⟨d',by rw[Uj,uu (by lia)];exact e',S.dd k d' h2 e' e⟩
   ·have kl:=(ud.mp e).1
    rw[uk]at kl;have ek:k=hs0.length:=by simp at kl;lia
    subst ek;rw[ut (ui _),Uw]at e;cases e;exact⟨d,by rw[Uj,ut (by lia),ld',Uw];rfl,S.hd⟩
  ·exact .err p n2 n z h ld eP (by rw[uk,uk];simp;lia) (by rw[ut (by lia),show ps.length-hs0.length=0 by lia];rfl) S.ok S.er S.zz (by rw[ut (by simp;lia),show ps.length+1-(ds0++[d]).length=0 by simp;lia];rfl) S.hr (uy (S.lb h (by simp)) (by lia))
structure Lr where
 X:Mx
 f0:Addr
 dx0:Addr
 hd0:Addr
 ld0:Addr
 td0:Addr
 f:Addr
 dx:Addr
 hd:Addr
 ld:Addr
 td:Addr
 v0:V
variable{L:Lr}
structure LrN(L:Lr)(HM:Hp):Prop where
 xm:HM L.X.m=none
 xf:HM L.X.fl=none
 e0:HM L.f0=none
 e:HM L.f=none
 h0:HM L.hd0=none
 h:HM L.hd=none
 ff:L.f≠L.f0
 nh:L.hd≠L.hd0
 n0:L.ld0≠L.hd0
 n1:L.ld≠L.hd
 n2:L.td≠L.hd
 n3:L.ld≠L.hd0
 n4:L.td≠L.hd0
 n5:L.ld0≠L.hd
structure Liv(A:Mc)(TC:Addr)(L:Lr)(l:Nm)(HM H:Hp)(b:V)(h:Nm):Prop where
 hm:H L.X.m=some (L.X.O A .non)
 hE:L.X.E A H
 hT:TbG TC lsC H
 hfl:H L.X.fl=some (.lst [.ref L.f0,.ref L.f])
 hf:H L.f=some (FrO A.cF L.dx b "" L.hd L.ld L.td)
 hh:H L.hd=some (.dK (eh h))
 hl:H L.ld=some (.dK (eh l))
 ht:H L.td=some (.dK [])
 hf0:H L.f0=some (FrO A.cF L.dx0 L.v0 "answer." L.hd0 L.ld0 L.td0)
 c0:IsCd H ((l.map (·.1)).map Pc.drop) "answer." L.v0
 h0:H L.hd0=some (.dK (eh l))
 l0:H L.ld0=some (.dK [])
 ap0:Ap L.X H L.hd0
 ap:Ap L.X H L.hd
 k:KZ HM H
theorem Ap.hp(ap:Ap X H hd)(hE:X.E A H)(k:∀{u},H X.hp=some u->kd u=13->H' X.hp=some u):Ap X H' hd:=by
 obtain⟨C,hE⟩:=hE;obtain⟨dx',sz,bd,kp,ext,e⟩:=zbz hE;have e':=k e rfl;exact ap.ke fun u e1=>by rw[e,<- e',e1]
theorem Liv.same{l:Nm}{b:V}(v:Liv A TC L l HM H b h)(s:Same H H'):Liv A TC L l HM H' b h:=by
 have hE:=v.hE;refine⟨s _ _ v.hm,?_,yo v.hT s,s _ _ v.hfl,s _ _ v.hf,s _ _ v.hh,s _ _ v.hl,s _ _ v.ht,s _ _ v.hf0,v.c0.keep fun p xs e=>s _ _ e,s _ _ v.h0,s _ _ v.l0,v.ap0.hp hE fun e _=>s _ _ e,v.ap.hp hE fun e _=>s _ _ e,v.k.trans (KZ.of s)⟩;obtain⟨C,hE⟩:=hE;exact⟨C,hE.same s⟩
theorem Liv.step{l:Nm}{b b':V}{h':Nm}(v:Liv A TC L l HM H b h)(N:LrN L HM)(k:KE [L.f,L.hd] H H')(hf:H' L.f=some (FrO A.cF L.dx b' "" L.hd L.ld L.td))(hh:H' L.hd=some (.dK (eh h'))):Liv A TC L l HM H' b' h':=by
 have hS:∀a∈[L.f,L.hd],∃v,H a=some v/\kd v∈[12,2]:=fun a ha=>by
  rcases uh.mp ha with rfl|ha
  ·exact⟨_,v.hf,by show(12:Nat)∈[12,2];decide⟩
  ·rw[ug.mp ha];exact⟨_,v.hh,by show(2:Nat)∈[12,2];decide⟩
 have kk:∀{a u}(n:Nat),H a=some u->kd u=n->n∉[12,2]->H' a=some u:=fun n e e2 e3=>zbG k hS e n e2 e3;have dk:∀{a kv},H a=some (.dK kv)->a≠L.hd->H' a=some (.dK kv):=fun{a kv} e n=>k _ _ (by
  simp only[uh,uL,or_false,not_or]
  exact⟨vc 2 12 e v.hf rfl rfl (by decide),n⟩) e
 refine⟨kk 11 v.hm rfl (by decide),?_,?_,kk 4 v.hfl rfl (by decide),hf,hh,dk v.hl N.n1,dk v.ht N.n2,?_,v.c0.keep fun p xs e=>kk 6 e rfl (by decide),dk v.h0 N.nh.symm,dk v.l0 N.n5,v.ap0.hp v.hE fun e e2=>kk 13 e e2 (by decide),v.ap.hp v.hE fun e e2=>kk 13 e e2 (by decide),fun b u e n=>k b u (fun z=>?_) (v.k b u e n)⟩
 ·exact Qk v.hE k fun a ha=>by
   rcases uh.mp ha with rfl|ha
   ·exact⟨_,v.hf,.inl (by show(12:Nat)∈[4,5,11,12];decide)⟩
   ·rw[ug.mp ha];exact⟨_,v.hh,.inr ⟨v.ap,rfl⟩⟩
 ·exact v.hT.keep (fun ps e=>kk 5 e rfl (by decide)) fun c q e=>kk 0 e rfl (by decide)
 ·exact k _ _ (by
   simp only[uh,uL,or_false,not_or]
   exact⟨N.ff.symm,vc 12 2 v.hf0 v.hh rfl rfl (by decide)⟩) v.hf0
 ·rcases uh.mp z with rfl|z
  ·rw[N.e]at e;cases e
  ·rw[ug.mp z,N.h]at e;cases e
theorem Liv.give{l:Nm}{b:V}{i:Int}(v:Liv A TC L l HM H b h)(N:LrN L HM)(nd:(l.map (·.1)).Nodup)(na:("answer.":Str)∉l.map (·.1))(ll:l.length<=900)(k:KE [L.X.fl,L.hd,L.f0,L.hd0] H H')(e1:H' L.X.fl=some (.lst [.ref L.f0]))(e2:H' L.f0=some (FrO A.cF L.dx0 L.v0 "" L.hd0 L.ld0 L.td0))(e3:H' L.hd0=some (.dK (eh (putS l "answer." i)))):Last A TC L.X L.f0 L.dx0 L.hd0 L.ld0 L.td0 [] "" i H' (putS l "answer." i) (l.map (·.1)) "answer." L.v0/\KZ HM H':=by
 have hS:∀a∈[L.X.fl,L.hd,L.f0,L.hd0],∃v,H a=some v/\kd v∈[4,2,12]:=fun a ha=>by
  rcases uh.mp ha with rfl|ha
  ·exact⟨_,v.hfl,by show(4:Nat)∈[4,2,12];decide⟩
  rcases uh.mp ha with rfl|ha
  ·exact⟨_,v.hh,by show(2:Nat)∈[4,2,12];decide⟩
  rcases uh.mp ha with rfl|ha
  ·exact⟨_,v.hf0,by show(12:Nat)∈[4,2,12];decide⟩
  ·rw[ug.mp ha];exact⟨_,v.h0,by show(2:Nat)∈[4,2,12];decide⟩
 have kk:∀{a u}(n:Nat),H a=some u->kd u=n->n∉[4,2,12]->H' a=some u:=fun n e e2 e3=>zbG k hS e n e2 e3;have dk:∀{a kv},H a=some (.dK kv)->a≠L.hd->a≠L.hd0->H' a=some (.dK kv):=fun{a kv} e n m=>k _ _ (by
  simp only[uh,uL,or_false,not_or]
  exact⟨vc 2 4 e v.hfl rfl rfl (by decide),n,vc 2 12 e v.hf0 rfl rfl (by decide),m⟩) e
 have ep:putS l "answer." i=l++[(("answer.":Str),i)]:=Yp na;refine⟨⟨kk 11 v.hm rfl (by decide),?_,v.ap0.hp v.hE fun e e2=>kk 13 e e2 (by decide),?_,e1,vc 12 11 v.hf0 v.hm rfl rfl (by decide),e2,v.c0.keep fun p xs e=>kk 6 e rfl (by decide),e3,dk v.l0 N.n5 N.n0,N.n0,?_,?_⟩,fun b u e n=>k b u (fun z=>?_) (v.k b u e n)⟩
 ·exact Qk v.hE k fun a ha=>by
   rcases uh.mp ha with rfl|ha
   ·exact⟨_,v.hfl,.inl (by show(4:Nat)∈[4,5,11,12];decide)⟩
   rcases uh.mp ha with rfl|ha
   ·exact⟨_,v.hh,.inr ⟨v.ap,rfl⟩⟩
   rcases uh.mp ha with rfl|ha
   ·exact⟨_,v.hf0,.inl (by show(12:Nat)∈[4,5,11,12];decide)⟩
   ·rw[ug.mp ha];exact⟨_,v.h0,.inr ⟨v.ap0,rfl⟩⟩
 ·exact v.hT.keep (fun ps e=>kk 5 e rfl (by decide)) fun c q e=>kk 0 e rfl (by decide)
 ·rw[ep,uk];simp;lia
 ·rw[ep];exact X8 l nd na
 ·rcases uh.mp z with rfl|z
  ·rw[N.xf]at e;cases e
  rcases uh.mp z with rfl|z
  ·rw[N.h]at e;cases e
  rcases uh.mp z with rfl|z
  ·rw[N.e0]at e;cases e
  ·rw[ug.mp z,N.h0]at e;cases e
theorem zc7{TA dx1 f0 dx0 hd0 ld0 td0 td:Addr}{H0:Hp}{b v0:V}{ps:lS}{is:List Int}(s:Same HM H0)(xm:HM X.m=none)(xm0:H0 X.m=some (.ins A.cM dx1 []))(hA:TbG TA lsA H0)(hB:TbG TB lsB H0)(hC:TbG TC lsC H0)(nA:TC≠TA)(nB:TC≠TB)(k:KE [X.m,TA,TB] H0 H')(hm:H' X.m=some (X.O A .non))(hE:X.E A H')(xf:H0 X.fl=none)(B:Beg A X b ps os (is.map V.int) H' f0 dx0 hd0 ld0 td0 f dx hd ld td v0)(N:BegN H0 f0 hd0 ld0 td0 f hd ld td)(ap0:Ap X H' hd0)(ap:Ap X H' hd)
  (hn:ps.Nodup) (l1:ps.length=os.length) (l2:ps.length=is.length):LrN ⟨X,f0,dx0,hd0,ld0,td0,f,dx,hd,ld,td,v0⟩ HM/\Liv A TC ⟨X,f0,dx0,hd0,ld0,td0,f,dx,hd,ld,td,v0⟩ (fN ps os is).2 HM H' b (fN ps os is).1:=by
 have na:=N.a;have a1:=na hd (by simp);have a2:=na ld (by simp);have a3:=na td (by simp);simp only[uh,uL,or_false,not_or]at a1 a2 a3
 have ePz:((pz ps os is).map (·.1))=ps:=by
  unfold pz;exact List.map_fst_zip (by rw[UT];lia)
 have eN:(fN ps os is).2.map (·.1)=(lnt ps os (is.map V.int)).map (·.1):=by
  have:=wH (pz ps os is) [] [] (by rw[ePz];exact hn)
  rw[Qi,UO];exact this
 refine⟨⟨xm,s.free xf,s.free N.e0,s.free N.e1,s.free N.n0.h,s.free N.n1.h,N.ff,a1.2.1,N.n0.n1.symm,N.n1.n1.symm,N.n1.n2.symm,a2.2.1,a3.2.1,fun z=>a1.2.2.1 z.symm⟩,⟨hm,hE,?_,B.fl,B.f,by rw[B.h,Qh],by rw[B.l,Qh],B.t,B.f0,?_,by rw[B.h0,za9],B.l0,ap0,ap,fun b u e n=>k b u (fun z=>?_) (s _ _ e)⟩⟩
 ·refine hC.keep (fun ps e=>k _ _ (fun z=>?_) e) fun c q e=>k _ _ (fun z=>?_) e
  ·rcases uh.mp z with z|z
   ·rw[z,xm0]at e;cases e
   rcases uh.mp z with z|z
   ·exact nA z
   ·exact nB (ug.mp z)
  ·rcases uh.mp z with z|z
   ·rw[z,xm0]at e;unfold CodO at e;cases e
   rcases uh.mp z with z|z
   ·exact yk hA e (by intro _ z;unfold CodO at z;cases z) z
   ·exact yk hB e (by intro _ z;unfold CodO at z;cases z) (ug.mp z)
 ·rw[eN,UO];exact B.c0
 ·rcases uh.mp z with z|z
  ·rw[z,xm]at e;cases e
  rcases uh.mp z with z|z
  ·exact yk hA (s _ _ e) n z
  ·exact yk hB (s _ _ e) n (ug.mp z)
theorem Bods.at{bs:List Addr}{k:Nat}(B:Bods H x ps bs)(hk:k<=ps.length)(e:bs[k]?=some b):Bods H x (ps.drop k) (b::bs.drop (k+1)):=by
 have:=B.drop k hk
 obtain⟨hl,e⟩:=ud.mp e;rw[Uc hl,e]at this;exact this
theorem Bods.lst{bs:List Addr}(B:Bods H x ps bs):∃b r,bs=r++[b]/\H b=some (.tup [.str "give",.str x]):=by
 have D:=B.drop ps.length (ui _);rw[UU]at D;obtain⟨b,e,h⟩:=D;exact⟨b,bs.take ps.length,by rw[<- e,UM],h⟩
inductive LpI(A:Mc)(TC:Addr)(L:Lr)(l:Nm)(HA HM:Hp)(x:Str)(PCS ps:List Pc)(hs:List Nm)(bs D:List Addr)(k:Nat)(H:Hp):Prop
 |liv (b:Addr) (h:Nm):k<=ps.length->bs[k]?=some b->hs[k]?=some h->Liv A TC L l HM H (.ref b) h->LpI A TC L l HA HM x PCS ps hs bs D k H
 |told (h:Nm) (i:Int):k=ps.length+1->PCS=ps->D.length=ps.length+1->hs[ps.length]?=some h->yp h x=some i->Last A TC L.X L.f0 L.dx0 L.hd0 L.ld0 L.td0 [] "" i H (putS l "answer." i) (l.map (·.1)) "answer." L.v0->KZ HM H->LpI A TC L l HA HM x PCS ps hs bs D k H
 |fault (tp r:Addr) (n z:Str) (h:Nm):k=ps.length+1->D.length=ps.length+2->(z="great"\/z="nought")->D[ps.length+1]?=some r->HA r=some (.dK (putK (eh h) (.inr n) (.str z)))->h.length<=300->H L.X.m=some (L.X.O A (.ref tp))->H tp=some (.tup [.str "fault",.str z])->KZ HM H->LpI A TC L l HA HM x PCS ps hs bs D k H
theorem vn(h:Nm):∀kv∈eh h,(∃i,kv.2=V.int i)\/∃z,kv.2=.str z:=fun kv hk=>by
 unfold eh at hk;obtain⟨p,_,rfl⟩:=uw.mp hk;exact .inl ⟨_,rfl⟩
theorem Yr(h:Nm)(n z:Str):∀kv∈putK (eh h) (.inr n) (.str z),(∃i,kv.2=V.int i)\/∃z,kv.2=.str z:=fun kv hk=>by
 unfold putK at hk;split at hk
 ·obtain⟨q,hq,e⟩:=uw.mp hk
  split at e
  ·rw[<- e];exact .inr ⟨z,rfl⟩
  ·rw[<- e];exact vn h q hq
 ·rcases u0.mp hk with hk|hk
  ·exact vn h kv hk
  ·rw[ug.mp hk];exact .inr ⟨z,rfl⟩
theorem X9(h:Nm)(n z:Str)(hl:h.length<=300):(putK (eh h) (.inr n) (.str z)).length<=1000:=by
 have:=yM (eh h) (.inr n) (.str z)
 rw[yt]at this;lia
theorem zbf{l:Nm}{HA:Hp}{bs:List Addr}(ST:Sts HA l h0 sl ps hs D)(TL:Tl HA l x PCS ps hs D)(SA:Same HA HM)(B:Bods HM x PCS bs)(N:LrN L HM)(Ol:NmOk l)(na:("answer.":Str)∉l.map (·.1))(ll:l.length<=3){k:Nat}(hk:k<=ps.length)(hb:bs[k]?=some b)(hh:hs[k]?=some h)(v:Liv A TC L l HM H (.ref b) h):
  ∃c:Bool,((k+1=D.length/\c=true)\/(k+1 < D.length/\∃d kvs,D[k+1]?=some d/\HM d=some (.dK kvs)/\kvs.length<=1000/\(∀kv∈kvs,(∃i,kv.2=V.int i)\/∃z,kv.2=.str z)/\c=(wds kvs).isEmpty)) /\
   ∀(H1:Hp)(Q:VK)(E:XK),Same H H1->(∀H',LpI A TC L l HA HM x PCS ps hs bs D (k+1) H'->Q (.bl c) H')->wW A TC [.ref L.X.m] H1 Q E:=by
 have hl3:h.length<=300:=ST.lb h (uM hh);have hkP:k<=PCS.length:=by
  cases TL with
  |ok _ _ e=>rw[e];exact hk
  |err _ _ _ _ _ _ e=>rw[e,uk];lia
 have BD:=B.at hkP hb;have nfm:L.f≠L.X.m:=vc 12 11 v.hf v.hm rfl rfl (by decide);have go:∀p r,PCS.drop k=p::r->PcOk h l p->∀h',stp h l p=.inl h'->k < ps.length->hs[k+1]?=some h'->∀(H1:Hp)(Q:VK)(E:XK),Same H H1->(∀H',LpI A TC L l HA HM x PCS ps hs bs D (k+1) H'->Q (.bl true) H')->wW A TC [.ref L.X.m] H1 Q E:=by
  intro p r ed hok h' es hkl hh' H1 Q E s q;have v1:=v.same s;rw[ed]at BD;have BD1:=BD.keep v1.k.tups;refine⟨L.X,rfl,.inr ⟨L.f,L.dx,L.hd,L.ld,L.td,.ref b,"",x,h,l,p::r,[.ref L.f0],v1.hm,v1.hE,v1.hT,v1.hfl,nfm,v1.hf,BD1.cd,v1.hh,v1.hl,by lia,(fun e0=>by cases e0),fun p' r' e0=>?_⟩⟩;cases e0;refine⟨hok,fun h'' es' H' bv' nx k' e1 e2 _=>?_,fun z ez=>by rw[es]at ez;cases ez⟩;rw[es]at es';cases es';obtain⟨nb,rest',er,rfl,BN⟩:=BD1.nx nx;refine q H' (.liv nb h' hkl ?_ hh' (v1.step N k' e1 e2))
  have:(bs.drop (k+1))[0]?=(nb::rest')[0]?:=by rw[er]
  rw[List.getElem?_drop,Nat.add_zero]at this;exact this
 by_cases c:k < ps.length
 ·obtain⟨p,hp⟩:∃p,ps[k]?=some p:=⟨_,uf c⟩
  obtain⟨hok,h',es,hh'⟩:=ST.run.st k p h hp hh;have ed:∃r,PCS.drop k=p::r:=by
   cases TL with
   |ok _ _ e =>
    rw[e,Uc c];rw[uf c]at hp;cases hp;exact⟨_,rfl⟩
   |err p2 n2 _ _ _ _ e =>
    have c2:k < PCS.length:=by rw[e,uk];lia
    have t:PCS[k]?=some p:=by rw[e,uu c];exact hp
    rw[uf c2]at t;exact⟨_,by rw[Uc c2,uQ.inj t]⟩
  obtain⟨r,ed⟩:=ed;obtain⟨d',eD,hd'⟩:=ST.dd (k+1) h' hh';refine⟨true,.inr ⟨?_,d',_,eD,SA _ _ hd',?_,vn h',by rw[Xd];rfl⟩,go p r ed hok h' es c hh'⟩
  ·cases TL with
   |ok _ _ _ e=>lia
   |err _ _ _ _ _ _ _ e=>lia
  ·rw[yt]
   have:=ST.lb h' (uM hh')
   lia
 ·obtain rfl:k=ps.length:=by lia
  cases TL with
  |ok h2 i eP eD e2 e3 =>
   subst eP;rw[hh]at e2;cases e2;refine⟨true,.inl ⟨by lia,rfl⟩,fun H1 Q E s q=>?_⟩;have v1:=v.same s;rw[UU]at BD;refine⟨L.X,rfl,.inr ⟨L.f,L.dx,L.hd,L.ld,L.td,.ref b,"",x,h,l,[],[.ref L.f0],v1.hm,v1.hE,v1.hT,v1.hfl,nfm,v1.hf,(BD.keep v1.k.tups).cd,v1.hh,v1.hl,by lia,(fun _=>⟨i,e3,.inl ⟨L.f0,L.dx0,L.hd0,L.ld0,L.td0,L.v0,"answer.",l,v1.hfl,v1.hf0,v1.h0,by lia,N.nh.symm,vc 12 11 v1.hf0 v1.hm rfl rfl (by decide),fun H' k' a1 a2 a3=>?_⟩⟩),(fun _ _ e0=>by cases e0)⟩⟩;obtain⟨LA,kz⟩:=v1.give N Ol.nd na (by lia) k' a1 a2 a3;exact q H' (.told h i rfl rfl eD hh e3 LA kz)
  |err p n2 n z h2 r eP eD e2 hok ez hz e4 e5 e6 =>
   rw[hh]at e2;cases e2;refine⟨false,.inr ⟨by lia,r,_,e4,SA _ _ e5,X9 h n z e6,Yr h n z,?_⟩,fun H1 Q E s q=>?_⟩
   ·obtain⟨wr,ew⟩:=ZI h n z hz
    rw[ew]
    rfl
   have v1:=v.same s;rw[eP,List.drop_left]at BD;refine⟨L.X,rfl,.inr ⟨L.f,L.dx,L.hd,L.ld,L.td,.ref b,"",x,h,l,_,[.ref L.f0],v1.hm,v1.hE,v1.hT,v1.hfl,nfm,v1.hf,(BD.keep v1.k.tups).cd,v1.hh,v1.hl,by lia,(fun e0=>by cases e0),fun p' r' e0=>?_⟩⟩;cases e0;refine⟨hok,fun h'' es'=>(by rw[ez]at es';cases es'),fun z' ez' H' tp k' a1 _ a2=>?_⟩;rw[ez]at ez';cases ez';refine q H' (.fault tp r n z h rfl eD hz e4 e5 e6 a1 a2 fun b u e nt=>k' b u (fun zz=>?_) (v1.k b u e nt));rw[ug.mp zz,N.xm]at e;cases e
theorem Last.same{td:Addr}{l:Nm}{w:Str}{i:Int}{xs:lS}{bv:V}(v:Last A TC X f dx hd ld td l w i H h xs x bv)(s:Same H H'):Last A TC X f dx hd ld td l w i H' h xs x bv:=by
 refine⟨s _ _ v.hm,?_,v.ap.hp v.hE fun e _=>s _ _ e,yo v.hT s,s _ _ v.hfl,v.nfm,s _ _ v.hf,v.hc.keep fun p xs e=>s _ _ e,s _ _ v.hh,s _ _ v.hl,v.nld,v.hz,v.hi⟩;obtain⟨C,hE⟩:=v.hE;exact⟨C,hE.same s⟩
theorem LpI.same{l:Nm}{HA:Hp}{bs:List Addr}{k:Nat}(v:LpI A TC L l HA HM x PCS ps hs bs D k H)(s:Same H H'):LpI A TC L l HA HM x PCS ps hs bs D k H':=by
 cases v with
 |liv b h a1 a2 a3 a4=>exact .liv b h a1 a2 a3 (a4.same s)
 |told h i a1 a2 a3 a4 a5 a6 a7=>exact .told h i a1 a2 a3 a4 a5 (a6.same s) (a7.trans (KZ.of s))
 |fault tp r n z h a1 a2 a3 a4 a5 a6 a7 a8 a9=>exact .fault tp r n z h a1 a2 a3 a4 a5 a6 (s _ _ a7) (s _ _ a8) (a9.trans (KZ.of s))
theorem LpI.kz{l:Nm}{HA:Hp}{bs:List Addr}{k:Nat}(v:LpI A TC L l HA HM x PCS ps hs bs D k H):KZ HM H:=by
 cases v with
 |liv b h a1 a2 a3 a4=>exact a4.k
 |told h i a1 a2 a3 a4 a5 a6 a7=>exact a7
 |fault tp r n z h a1 a2 a3 a4 a5 a6 a7 a8 a9=>exact a9
theorem zc8{ps:lS}{is:List Int}(hn:ps.Nodup)(l1:ps.length=os.length)(l2:ps.length=is.length):∀x∈(fN ps os is).2.map (·.1),x∈ps:=by
 have ePz:((pz ps os is).map (·.1))=ps:=by
  unfold pz;exact List.map_fst_zip (by rw[UT];lia)
 have:=wH (pz ps os is) [] [] (by rw[ePz];exact hn)
 intro x hx;unfold fN at hx;rw[this]at hx;rw[<- ePz];obtain⟨p,hp,rfl⟩:=uw.mp hx;exact uw.mpr ⟨p,(UR.mp hp).1,rfl⟩
end GN
namespace L2
open PySem PySem.Spec PyProof.Rows
theorem Xg{K:ua}{mb:Str->Option Value}{k:Nat}{s₁:Shared}{vs:List Value}
  (KX:K.In s₁.heap) (hT:∀T∈Ts,s₁.heap.get? T=some { cls:=.none,data:=.fields #[] }) (hTK:∀T∈Ts,K.lookup T=none) (hTc:∀T∈Ts,isCodeTable s₁.heap T) (hns:s₁.heap.Ns mainGlobals mg) (hb:s₁.heap.Ns builtinsNs mb) (hbb:∀x:Str,x≠"__name__"->mb x=bootBuiltins x) (hlim:s₁.heap.NoLimit) (hBM:BMn mg s₁.heap) (hg:s₁.gens=#[])
  (ha:s₁.heap.get? a=some { cls:=.type "list",data:=.seq vs.toArray }) (hi:IntsAre vs ns) (hl:ns.length<=sizeLine) (hr:Room k callerA)
  (F:∀base:Heap,K.In base->base.Ns mainGlobals mg->BMn mg base->FnOk P w K mg base CX k fa fd [x] sp) (hbind:∀(s:Shared)(u:Value),BindsTo s fd ⟨[u],[]⟩ [(x,u)])
  (hsp:∀H:Hp,(∀T∈Ts,H T=some (.tbl #[]))->SqL K H a (ns.map V.int)->sp [.ref a] H (fun v _=>v=.bl true) fun _ _ _=>False)
  (hCX:∀H e s',CX [] H s₁ (fun _ _ _=>False) e s'->False) :
  codeAny (model P w) callerA (.call (.ref fa) ⟨[.ref a],[]⟩) (fun r s'=>r=.ok (.ret (.bool true))/\OldK s₁.heap s'.heap/\s'.os=s₁.os/\AllBare s'.gens) s₁:=by
 have rv:=wL hi;have lenV:=hi.length;have nTa:a∉Ts:=fun e=>by rw[hT a e]at ha;cases ha
 have core:∀H:Hp,(∀b,H b=none\/(∃o xs,H b=some (.frz o (.lst xs)))\/(b∈Ts/\H b=some (.tbl #[])))->(∀T∈Ts,H T=some (.tbl #[]))->SqL K H a (ns.map V.int)->HOk P w H s₁.heap->(∀b,H b≠none->b=a\/b∈Ts)->(H a≠none->K.lookup a=none) ->
   codeAny (model P w) callerA (.call (.ref fa) ⟨[.ref a],[]⟩) (fun r s'=>r=.ok (.ret (.bool true))/\OldK s₁.heap s'.heap/\s'.os=s₁.os/\AllBare s'.gens) s₁:=by
  intro H hO hHT hS hok hA hK;have base_of:∀{b:Addr}{o:Obj},s₁.heap.get? b=some o->H b=none->(hidT s₁.heap H).get? b=some o:=fun e n=>W8 e n;have noA:∀{b:Addr}{o:Obj}{es:Array DictEntry}{ep:Nat},s₁.heap.get? b=some o->o.data=.dict es ep->H b=none:=fun{b o es ep} e d=>by
   cases q:H b with
   |none=>rfl
   |some u =>
    rcases hA b (by rw[q];simp)with e'|e'
    ·subst e'
     rw[ha]at e;cases e;have d':Data.seq vs.toArray _=Data.dict es ep:=d;cases d'
    ·rw[hT b e']at e;cases e
     have d':Data.fields #[]=Data.dict es ep:=d;cases d'
  have nsK:∀{b:Addr}{m:Str->Option Value},s₁.heap.Ns b m->(hidT s₁.heap H).Ns b m:=fun{b m}⟨o,es,ep,e,d,r⟩=>⟨o,es,ep,base_of e (noA e d),d,r⟩;have hBb:BMn mg (hidT s₁.heap H):=by
   obtain⟨bm,ob,b1,b2,b3,b4,b5,b6⟩:=hBM;refine⟨bm,ob,b1,b2,base_of b3 ?_,b4,b5,b6⟩;cases q:H bm with
   |none=>rfl
   |some u =>
    rcases hA bm (by rw[q];simp)with e'|e'
    ·subst e'
     rw[ha]at b3;cases b3;cases b6
    ·rw[hT bm e']at b3;cases b3;cases b6
  have hKb:K.In (hidT s₁.heap H):=fun b o e=>base_of (KX b o e) (by
   cases q:H b with
   |none=>rfl
   |some u =>
    rcases hA b (by rw[q];simp)with e'|e'
    ·subst e'
     rw[hK (by rw[q];simp)]at e;cases e
    ·rw[hTK b e']at e;cases e)
  have hM:Mod K mg (hidT s₁.heap H):=⟨hKb,nsK hns,⟨mb,nsK hb,hbb⟩,let ⟨mc,h1,h2⟩:=hlim;⟨mc,nsK h1,h2⟩⟩;have e0:Env0 P w K mg (hidT s₁.heap H) callerA [] s₁ H:=⟨rfl,hM,fun b o e=>Qn e,Nat.le_of_eq (Wc _ _),trivial,fun b hb=>absurd (show b∈([]:List Addr)from hb) (by simp),hok,.of_eq hg⟩;refine codeAny_mono ((F _ hKb (nsK hns) hBb).run callerA [] s₁ H ⟨[.ref a],[]⟩ [.ref a] [.ref a] _ _ hr e0 (hbind s₁ (.ref a)) (.cons rfl .nil) (hsp H hHT hS)) fun r s' h=>?_;cases r with
  |error e=>exact(hCX H e s' h).elim
  |ok fl =>
   cases fl with
   |next=>exact False.elim h
   |brk=>exact False.elim h
   |cont=>exact False.elim h
   |ret u =>
    obtain⟨v,H',os,bare,un,hok',r',q⟩:=h;have q':v=.bl true:=q;subst q';obtain rfl:u=Value.bool true:=r';refine⟨rfl,⟨fun b o e=>?_,fun b o e=>un.there b o e (by simp)⟩,os,bare⟩;cases q:H b with
    |none=>exact .inl (un.keep b o e q (by intro z;exact absurd (show b∈([]:List Addr)from z) (by simp)) (by simp))
    |some u =>
     rcases hO b with z|⟨ob,xs,z⟩|⟨zm,z⟩
     ·rw[q]at z;cases z
     ·have z2:=un.frzs b ob _ z
      obtain⟨e1,_⟩:=hok b _ z;obtain⟨e2,_⟩:=hok' b _ z2;rw[e]at e1;cases e1;exact .inl e2
     ·obtain⟨more,z2⟩:=un.tbls b _ z
      have e2:s'.heap.get? b=some { cls:=.none,data:=.fields (#[]++more) }:=hok' b _ z2;rw[hT b zm]at e;cases e;exact .inr (.inl ⟨hTc b zm,rfl,#[],more,rfl,e2⟩)
 cases hk:K.lookup a with
 |some o =>
  have e:=KX a o hk;rw[ha]at e;cases e;refine core (fun b=>if b∈Ts then some (.tbl #[])else none) (fun b=>?_) (fun T hT=>if_pos hT) (.inr ⟨_,vs.toArray,_,hk,rfl,rfl,rfl,by rw[uA,lenV];exact hl,by simpa using rv⟩) (fun b u z=>?_) (fun b z=>?_) fun z=>absurd (if_neg nTa) z
  ·by_cases hb:b∈Ts
   ·exact .inr (.inr ⟨hb,if_pos hb⟩)
   ·exact .inl (if_neg hb)
  ·by_cases hb:b∈Ts
   ·have z':=(if_pos hb).symm.trans z
    cases z';exact hT b hb
   ·have z':=(if_neg hb).symm.trans z
    cases z'
  ·by_cases hb:b∈Ts
   ·exact .inr hb
   ·exact absurd (if_neg hb) z
 |none =>
  refine core (fun b=>if b∈Ts then some (.tbl #[])else if b=a then some (.frz { cls:=.type "list",data:=.seq vs.toArray } (.lst (ns.map V.int)))else none) (fun b=>?_) (fun T hT=>if_pos hT) (.inl (.inr ⟨{ cls:=.type "list",data:=.seq vs.toArray },(if_neg nTa).trans (if_pos rfl)⟩)) (fun b u z=>?_) (fun b z=>?_) fun _=>hk
  ·by_cases hb:b∈Ts
   ·exact .inr (.inr ⟨hb,if_pos hb⟩)
   ·by_cases hb2:b=a
    ·exact .inr (.inl ⟨_,_,(if_neg hb).trans (if_pos hb2)⟩)
    ·exact .inl ((if_neg hb).trans (if_neg hb2))
  ·by_cases hb:b∈Ts
   ·have z':=(if_pos hb).symm.trans z
    cases z';exact hT b hb
   ·by_cases hb2:b=a
    ·have z':some (HO.frz { cls:=.type "list",data:=.seq vs.toArray } (.lst (ns.map V.int)))=some u:=((if_neg hb).trans (if_pos hb2)).symm.trans z
     cases z';subst hb2;exact⟨ha,by rw[uc];exact hl,vs,_,rv,ha⟩
    ·have z':none=some u:=((if_neg hb).trans (if_neg hb2)).symm.trans z
     cases z'
  ·by_cases hb:b∈Ts
   ·exact .inr hb
   ·by_cases hb2:b=a
    ·exact .inl hb2
    ·exact absurd ((if_neg hb).trans (if_neg hb2)) z
def wI(K:ua)(Ts:List Addr):Sp:=fun vs H Q _=>∃(a:Addr)(ns:List Int),vs=[.ref a]/\SqL K H a (ns.map V.int)/\ns.length<=63/\(∀T∈Ts,H T=some (.tbl #[]))/\∀H',Q (.bl true) H'
theorem Ql{l:PySem.W.OpenLaw}{K:ua}{k:Nat}(d:DfIn K "law" st)(X:K.In h)(G:h.Ns mainGlobals mg)(hfa:mg "law"=some (.ref fa))
  (hb:∀(kV doc pm:Value)(an:Option Addr)(cdv ct:Value)(s:Shared)(u:Value),BindsTo s (uP "law" "law" (zX st) (zO st) (zo st) .none kV doc pm an cdv ct) ⟨[u],[]⟩ [("_law_script",u)])
  (ok:∀(base:Heap)(fd:FuncData),BMn mg base->Fun K "law" "law" st fa fd->FnOk l.prog w K mg base CX0 k fa fd ["_law_script"] (wI K Ts)) :
  ∃fd:FuncData,(∀(s:Shared)(u:Value),BindsTo s fd ⟨[u],[]⟩ [("_law_script",u)])/\∀base:Heap,K.In base->base.Ns mainGlobals mg->BMn mg base->FnOk l.prog w K mg base CX0 k fa fd ["_law_script"] (wI K Ts):=by
 obtain⟨fl,al,oc,od,kV,doc,pm,an,cdv,ct,osl,lk,cc,kk⟩:=d;have e:fl=fa:=by
  have:=Uk X G al
  rw[hfa]at this;injection this with this
  injection this with this
  exact this.symm
 subst e;exact⟨_,fun s v=>hb _ _ _ _ _ _ s v,fun base _ _ B=>ok base _ B (Vv (st:=st) lk cc kk)⟩
theorem walkTs{l:PySem.W.OpenLaw}{loose:lS}{d:DefRec}{K:Params->ua}{e:∀p,as=(K p).map (·.1)}{k:Nat}(hn:l.most=some 63)(hr:Room k callerA)(hdf:d.params.defaults=[])(hnm:d.name="law")
  (hc:∀p,∀T∈Ts,∃c,UF (K p) c T=true) (hTK:∀p,∀T∈Ts,(K p).lookup T=none)
  (F:∀(w:World)(mg:Str->Option Value)(fa:Addr)(h:Heap),(K w.params).In h->h.Ns mainGlobals mg->mg "law"=some (.ref fa)->∃fd:FuncData,(∀(s:Shared)(u:Value),BindsTo s fd ⟨[u],[]⟩ [("_law_script",u)])/\∀base:Heap,(K w.params).In base->base.Ns mainGlobals mg->BMn mg base->FnOk l.prog w (K w.params) mg base CX0 k fa fd ["_law_script"] (wI (K w.params) Ts)) :
  PySem.W.WalkO q loose XP (PySem.W.kmHook K as e Ts).says l.row.toRowW d [] (fun f vs=>PySem.call f vs):=by
 refine Att.attach_call hn hdf fun w s₀ s₁ mg mb fa o pm cd doc a vs ns G Y ho hd hcd hmg hobj hints hlen hg=>?_;have KX:=PySem.W.km_in_of Y;have hT:∀T∈Ts,_:=fun T hm=>PySem.W.km_tabs_of Y T hm;obtain⟨fd,hb,hF⟩:=F w mg fa _ KX G.T.g (by rw[hnm]at hmg;exact hmg);have hTc:∀T∈Ts,isCodeTable s₁.heap T:=fun T hm=>by
  obtain⟨c,hc⟩:=hc w.params T hm;obtain⟨o1,vs1,_,_,_,_,_,_,_,c1,c2,c3,c4,_⟩:=PySem.W.codeHd_of_K KX hc;exact⟨c,o1,vs1,c1,c2,c3,c4⟩
 exact Xg KX hT (hTK w.params) hTc G.T.g G.T.b G.T.builtins G.T.nolimit G.T.bmain hg hobj hints (uy hlen (by decide)) hr hF hb (fun H hO hS=>⟨a,ns,rfl,hS,hlen,hO,fun _=>rfl⟩) fun _ _ _ z=>z
end L2
set_option maxHeartbeats 8000000
namespace GN
open PySem L2 K11
section
variable{K:ua}{TA:Addr}{A:Mc}
theorem scLaw:FnScope ["_law_script","_law_many","_law_params","_law_owns","_law_values","_law_hands","_law_lent","_law_k","_law_pieces","_law_states","_law_bodies","_law_piece_here","_law_code","_law_stretch","_law_machine","_law_words_here","_law_due"] ["_law_script"] (zo sLaw):=⟨rfl,rfl,rfl,by decide +kernel,rfl,by decide +kernel,by decide +kernel⟩
theorem zc9:(["_law_script","_law_many","_law_params","_law_owns","_law_values","_law_hands","_law_lent","_law_k","_law_pieces","_law_states","_law_bodies","_law_piece_here","_law_code","_law_stretch","_law_machine","_law_words_here","_law_due","_law_value"]:lS).Nodup:=by decide +kernel
theorem gset{x:V}{Q:St->Hp->Prop}(h:Q (σ.set i (some x)) H):jk i x σ H Q:=h
theorem zda(F:Fun K "law" "law" sLaw f fd)(N:MN K A.cM)(nA:TC≠TA)(nB:TC≠TB)(m_range:mg "range"=none)(m_list:mg "list"=none)(m_tuple:mg "tuple"=none)(m_len:mg "len"=none)(m_reversed:mg "reversed"=none)
  (GC:Ca P w K mg base CX0 1 "_law_cell_at" ["_law_script","_law_k"] (spCellL K)) (GM:Ca P w K mg base CX0 2 "_law_name" ["_law_script","_law_k"] (spNameL K)) (GU:Ca P w K mg base CX0 1 "_law_number" ["_law_cell"] Y8) (GS:Ca P w K mg base CX0 4 "_law_straight" ["_law_script","_law_hands","_law_lent","_law_start"] (spStraight K)) (GW:Ca P w K mg base CX0 1 "_law_words" ["_law_state"] spWds) (GE:Ca P w K mg base CX0 9 "_law_ended" ["_law_machine","_law_due"] (spEnded A TC)) (GN':Ca P w K mg base CX0 1 "_law_seen" ["_law_machine","_law_body","_law_hands","_law_lent"] (spSeen A)) (GA:Ca P w K mg base CX0 3 "_law_alike" ["_law_found","_law_due"] (xW 3))
  (GT:Me P w K mg base CX0 7 A.cM "turn" ["self"] (wW A TC)) (GR:Me P w K mg base CX0 8 A.cM "result" ["self"] (jb A TC)) (GI:Ma P w K mg base CX0 7 "Machine" A.cM ["self","code","name","args","steps","size","stretch"] (spMInit A TA TB)):FnOk P w K mg base CX0 10 f fd ["_law_script"] (wI K [TC,TB,TA]):=by
 refine F.by scLaw (fun vs H Q E h=>?_) (fun cdv A' outer s H vs Q E hr h=>?_)
 ·obtain⟨a,ns,rfl,_⟩:=h
  rfl
 obtain⟨a,ns,rfl,hS,hn,hT,q⟩:=h;have r1:Room 1 _:=hr.mono (by decide);have r2:Room 2 _:=hr.mono (by decide);have r3:Room 3 _:=hr.mono (by decide);have r4:Room 4 _:=hr.mono (by decide);have r7:Room 7 _:=hr.mono (by decide);have r8:Room 8 _:=hr.mono (by decide);refine⟨_,
  (zj (zE (i:=1) scLaw.nd rfl (Or.inl rfl) (zH yz (zM GC r1 rfl zB (ja_c (jv 0) (ja_c zp zi))) zp))
  (zj (wu [7] [] (i:=2) scLaw.nd rfl (Or.inl rfl) rfl (yL rfl m_range (ja_c (jv 1) zi)) (fun _ _ _ _ _=>(zG (i:=7) scLaw.nd rfl (Or.inl rfl))) (fun _ _ _ _ _=>yC) (fun _ _ _ _ _=>(zM GM r2 rfl zB (ja_c (jv 0) (ja_c (jv 7) zi)))))
  (zj (wu [7] [] (i:=3) scLaw.nd rfl (Or.inl rfl) rfl (yL rfl m_range (ja_c (jv 1) zi)) (fun _ _ _ _ _=>(zG (i:=7) scLaw.nd rfl (Or.inl rfl))) (fun _ _ _ _ _=>yC) (fun _ _ _ _ _=>(yB z6 (zH yz (zH yN (zM GC r1 rfl zB (ja_c (jv 0) (ja_c zp zi))) (zR (zA K) (zU (ja_c zp (ja_c zp (ja_c zp zi)))) (jv 7) (fun _ _=>rfl))) zp) zp (zy _))))
  (zj (wu [7] [] (i:=4) scLaw.nd rfl (Or.inl rfl) rfl (yL rfl m_range (ja_c (jv 1) zi)) (fun _ _ _ _ _=>(zG (i:=7) scLaw.nd rfl (Or.inl rfl))) (fun _ _ _ _ _=>yC) (fun _ _ _ _ _=>(zM GU r1 rfl zB (ja_c (zH VB (zM GC r1 rfl zB (ja_c (jv 0) (ja_c (zH xc zp (jv 7)) zi))) zp) zi))))
  (zj (zE (i:=5) scLaw.nd rfl (Or.inl rfl) yx)
  (zj (zE (i:=6) scLaw.nd rfl (Or.inl rfl) yx)
  (zj (yH PassesOwn.never rfl (yL rfl m_range (ja_c (jv 1) zi)) (zG (i:=7) scLaw.nd rfl (Or.inl rfl))
   (zn (zK (z7 (zR (zA K) (jv 3) (jv 7) (fun _ _=>rfl)))
    (zn (yy r1 (jv 5) (zR (zA K) (jv 2) (jv 7) (fun _ _=>rfl)) (zR (zA K) (jv 4) (jv 7) (fun _ _=>rfl))))
    (zn (yy r1 (jv 6) (zR (zA K) (jv 2) (jv 7) (fun _ _=>rfl)) (zR (zA K) (jv 4) (jv 7) (fun _ _=>rfl)))))))
  (zj (zcm (zM GS r4 rfl zB (ja_c (jv 0) (ja_c (jv 5) (ja_c (jv 6) (ja_c zp zi))))) (xb K (n:=2) rfl (zV (zG (i:=8) scLaw.nd rfl (Or.inl rfl)) (zV (zG (i:=9) scLaw.nd rfl (Or.inl rfl)) yV))))
  (zj (zE (i:=10) scLaw.nd rfl (Or.inl rfl) (zU (ja_c (zT (ja_c zu (ja_c (zR (zA K) (zH YF (yu (yJ rfl) rfl m_list u5 (ja_c (zR (zA K) (jv 9) (yr zp) (fun _ _=>rfl)) zi)) (zU (ja_c zu zi))) zp (fun _ _=>rfl)) zi))) zi)))
  (zj (yH PassesOwn.never rfl (YL rfl m_reversed (ja_c (jv 8) zi)) (zG (i:=11) scLaw.nd rfl (Or.inl rfl))
   (zn (zP (yR uD PySem.F.slot_list_insert PySem.F.type_list_insert Wt (jv 10) (ja_c zp (ja_c (zH (VT K) (jv 11) (zT (ja_c (zR (zA K) (jv 10) zp (fun _ _=>rfl)) zi))) zi))))))
  (zj (zE (i:=12) scLaw.nd rfl (Or.inl rfl) (zT (ja_c (zT zi) (ja_c (zT (ja_c (zT (ja_c zu (ja_c (yu (xu K) rfl m_tuple Uq (ja_c (jv 2) zi)) (ja_c (yu (xu K) rfl m_tuple Uq (ja_c (jv 3) zi)) (ja_c (zR (zA K) (jv 10) zp (fun _ _=>rfl)) zi))))) zi)) zi))))
  (zj (zE (i:=13) scLaw.nd rfl (Or.inl rfl) (zH VB (zH yz (zH yN (zM GC r1 rfl zB (ja_c (jv 0) (ja_c zp zi))) zp) zp) (zH yz (zM GC r1 rfl zB (ja_c (jv 0) (ja_c zp zi))) (zH xH zp zp))))
  (zj (zE (i:=14) scLaw.nd rfl (Or.inl rfl) (vG GI r8 rfl zB (ja_c (jv 12) (ja_c zu (ja_c (xa ["_law_value"] rfl (xp K (jv 4)) (fun _ _ _ _ _=>(zG (i:=17) zc9 rfl (Or.inl rfl))) (fun _ _ _ _ _=>yC) (fun _ _ _ _ _=>(zU (ja_c (jv 17) zi)))) (ja_c zp (ja_c (zH yz (zM GC r1 rfl zB (ja_c (jv 0) (ja_c zp zi))) zp) (ja_c (jv 13) zi))))))))
  (zj (yH PassesOwn.never rfl (yL rfl m_range (ja_c (zJ (zQ K) rfl m_len uV (ja_c (jv 9) zi)) zi)) (zG (i:=7) scLaw.nd rfl (Or.inl rfl))
   (zj (zE (i:=15) scLaw.nd rfl (Or.inl rfl) (zM GW r1 rfl zB (ja_c (zR (zA K) (jv 9) (jv 7) (fun _ _=>rfl)) zi)))
   (zj (zK (zv (VG hr) (jv 15) (zU zi) (zy _))
    (zn (zw (zM GE hr rfl zB (ja_c (jv 14) (ja_c (zT (ja_c zu (ja_c (zR (zA K) (jv 15) zp (fun _ _=>rfl)) zi))) zi)))))  zD)
   (zj (zK (xr (z7 (zM GN' r1 rfl zB (ja_c (jv 14) (ja_c (zR (zA K) (jv 10) (jv 7) (fun _ _=>rfl)) (ja_c (zR (zA K) (jv 9) (jv 7) (fun _ _=>rfl)) (ja_c (jv 6) zi)))))))
    (zn (zw xn))  zD)
   (zj (zE (i:=16) scLaw.nd rfl (Or.inl rfl) (zdp (yB z6 (zH xc (jv 7) zp) (zJ (zQ K) rfl m_len uV (ja_c (jv 9) zi)) (zy _)) (xF (yB (YK hr) (zM GW r1 rfl zB (ja_c (zR (zA K) (jv 9) (zH xc (jv 7) zp) (fun _ _=>rfl)) zi)) (zU zi) (zy _)))))
   (zn (zK (xr (z7 (zM GA r3 rfl zB (ja_c (xg (jv 14) N.cl GT r7 zB) (ja_c (jv 16) zi)))))
    (zn (zw xn))  zD)))))))
  (zj (zE (i:=16) scLaw.nd rfl (Or.inl rfl) (zT (ja_c zu (ja_c (zU (ja_c (yF r1 (zR (zA K) (jv 9) (yr zp) (fun _ _=>rfl)) (zC K (zR (zA K) (jv 10) (yr zp) (fun _ _=>rfl)))) zi)) zi))))
  (zn (zw (xG (zM GA r3 rfl zB (ja_c (xg (jv 14) N.cl GR r8 zB) (ja_c (jv 16) zi))) (xG (yB (YK hr) (zr K (jv 14)) (zU zi) (zy _)) (xF (zM GE hr rfl zB (ja_c (jv 14) (ja_c (jv 16) zi))))))))))))))))))))))),?_⟩
 refine cut4 fun r1 er1=>?_;have sl:=ym;have m0:=UK (clAt ns 0) (show(4:Int)≠0 by decide);have m1:=Ux (clAt ns 0) (show(0:Int) < 4 by decide);obtain⟨M,hM⟩:∃M:Nat,clAt ns 0 % 4=(M:Int):=⟨_,(Int.toNat_of_nonneg m0).symm⟩;have lM:M<=3:=by lia
 refine zf rfl ⟨a,ns,0,rfl,hS,_,_,rfl,rfl,(by show(0:Int) < _;decide),?_⟩;dsimp only[uR,L2.start]
 rw[hM];refine zf rfl ⟨_,rfl,by lia,by lia,xB (n:=M) (fun i τ ys H'=>Same H H'/\(∃x,τ=[sR a,some (.int M),none,none,none,none,none,x,none,none,none,none,none,none,none,none,none])/\ys=((uZ i).map (nmL (clAt ns 2))).map V.str) ⟨Same.refl _,⟨none,rfl⟩,rfl⟩ ?_ ?_⟩
 ·rintro i τ ys H2 hi ⟨s2,⟨x,rfl⟩,rfl⟩
  refine zx rfl rfl ⟨a,ns,0+i,by rw[Int.natCast_add];rfl,SqL.same hS s2,fun H3 s3=>⟨by rw[uc,uc,List.length_range];lia,s2.trans s3,⟨_,rfl⟩,?_⟩⟩;rw[List.range_succ,uH,uH,Nat.zero_add]
  rfl
 rintro τ ys H2 ⟨s2,_,rfl⟩ lp f2;have hp2:=zg (H:=H2) (a:=lp) (o:=.lst (((uZ M).map (nmL (clAt ns 2))).map V.str));have s3:=s2.new (o:=.lst (((uZ M).map (nmL (clAt ns 2))).map V.str)) f2;dsimp only[uR]
 generalize upd H2 lp (.lst (((uZ M).map (nmL (clAt ns 2))).map V.str))=H3 at *;refine zf rfl ⟨_,rfl,by lia,by lia,xB (n:=M) (fun i τ ys H'=>Same H3 H'/\(∃x,τ=[sR a,some (.int M),sR lp,none,none,none,none,x,none,none,none,none,none,none,none,none,none])/\∃os:List Bool,os.length=i/\ys=os.map V.bl) ⟨Same.refl _,⟨none,rfl⟩,[],rfl,rfl⟩ ?_ ?_⟩
 ·rintro i τ ys H4 hi ⟨s4,⟨x,rfl⟩,os,lo,rfl⟩
  obtain⟨dv,hdv,dv0⟩:∃dv:Int,atI ([.int 1,.int 2,.int 4]:List V) (0+(i:Int))=some (.int dv)/\0 < dv/\dv < 1073741824:=by
   have:i=0\/i=1\/i=2:=by lia
   rcases this with rfl|rfl|rfl
   ·exact⟨1,rfl,by decide,by decide⟩
   ·exact⟨2,rfl,by decide,by decide⟩
   ·exact⟨4,rfl,by decide,by decide⟩
  refine zf rfl ⟨a,ns,1,rfl,SqL.same hS (s3.trans s4),by show 3<=sizeLine;lia,fun l5 f5=>zf rfl ⟨l5,_,_,_,rfl,rfl,SqL.of zg,hdv,_,_,rfl,rfl,dv0,_,_,rfl,rfl,(by show(0:Int) < _;decide),rfl,?_⟩⟩;exact⟨by rw[uc];lia,s4.new f5,⟨_,rfl⟩,os++[_],by simp[lo],by rw[uH];rfl⟩
 rintro τ ys H4 ⟨s4,_,os,lo,rfl⟩ lo' f4;have ho4:=zg (H:=H4) (a:=lo') (o:=.lst (os.map V.bl));have s5:=(s3.trans s4).new (o:=.lst (os.map V.bl)) f4;have hp5:=old (o:=.lst (os.map V.bl)) f4 (s4 _ _ hp2);dsimp only[uR]
 generalize upd H4 lo' (.lst (os.map V.bl))=H5 at *;refine zf rfl ⟨_,rfl,by lia,by lia,xB (n:=M) (fun i τ ys H'=>Same H5 H'/\(∃x,τ=[sR a,some (.int M),sR lp,sR lo',none,none,none,x,none,none,none,none,none,none,none,none,none])/\∃is:List Int,is.length=i/\(∀z∈is,K31.Sm z)/\ys=is.map V.int) ⟨Same.refl _,⟨none,rfl⟩,[],rfl,(fun z hz=>by cases hz),rfl⟩ ?_ ?_⟩
 ·rintro i τ ys H6 hi ⟨s6,⟨x,rfl⟩,is,li,hs,rfl⟩
  refine zx rfl rfl ⟨_,_,rfl,rfl,a,ns,3+(0+i),by rw[Int.natCast_add,Int.natCast_add];rfl,SqL.same hS (s5.trans s6),_,_,rfl,rfl,.inr ⟨by decide,by decide⟩,_,rfl,?_⟩;refine⟨by rw[uc];lia,s6,⟨_,rfl⟩,is++[_],by simp[li],fun z hz=>?_,by rw[uH];rfl⟩;rcases u0.mp hz with hz|hz
  ·exact hs z hz
  ·rw[ug.mp hz];exact Yn _
 rintro τ ys H6 ⟨s6,_,is,li,hsm,rfl⟩ lv f6;have hv6:=zg (H:=H6) (a:=lv) (o:=.lst (is.map V.int));have s7:=(s5.trans s6).new (o:=.lst (is.map V.int)) f6;have hp7:=old (o:=.lst (is.map V.int)) f6 (s6 _ _ hp5);have ho7:=old (o:=.lst (is.map V.int)) f6 (s6 _ _ ho4);dsimp only[uR]
 have hv6':=hv6;generalize upd H6 lv (.lst (is.map V.int))=H7 at *;subst er1;refine cut3 fun r2 er2=>?_;refine fun dh f7=>fun dl f8=>?_;have nhl:dh≠dl:=zk zg f8;have hdh:upd (upd H7 dh (.dK [])) dl (.dK []) dh=some (.dK []):=old f8 zg;have hdl:=zg (H:=upd H7 dh (.dK [])) (a:=dl) (o:=.dK []);have s8:=(same_new f7 (.dK [])).new (o:=.dK []) f8;dsimp only[uR]
 generalize upd (upd H7 dh (.dK [])) dl (.dK [])=H8 at *;have f8':H7 dl=none:=by
  cases e:H7 dl with
  |none=>rfl
  |some u=>rw[old f7 e]at f8;cases f8
 obtain⟨PS,ePS⟩:∃PS,PS=(uZ M).map (nmL (clAt ns 2)):=⟨_,rfl⟩;rw[<- ePS]at hp7;have lPS:PS.length=M:=by rw[ePS,uc,List.length_range]
 have ndP:PS.Nodup:=by rw[ePS];exact W7 _ (by lia)
 have naP:("answer.":Str)∉PS:=fun z=>by
  rw[ePS]at z;obtain⟨k,_,e⟩:=uw.mp z;exact zbb _ _ e
 have lpz:(pz PS os is).length=M:=by unfold pz;rw[UT,UT,lPS,lo,li];lia
 refine zf rfl ⟨_,rfl,by lia,by lia,jm (n:=M) (fun i σ H'=>(∀b u,b≠dh->b≠dl->H8 b=some u->H' b=some u)/\H' dh=some (.dK (eh (((pz PS os is).take i).foldl filN ([],[])).1))/\H' dl=some (.dK (eh (((pz PS os is).take i).foldl filN ([],[])).2))/\∃x,σ=[sR a,some (.int M),sR lp,sR lo',sR lv,sR dh,sR dl,x,none,none,none,none,none,none,none,none,none]) ⟨fun b u _ _ e=>e,hdh,hdl,none,rfl⟩ ?_ ?_⟩
 ·rintro i σ H9 hi ⟨k9,h9,l9,x,rfl⟩
  have nf:∀{b u},H7 b=some u->H9 b=some u:=fun{b u} e=>k9 b u (zk e f7) (zk e f8') (s8 _ _ e);have ei:(0:Int)+(i:Int)=((i:Nat):Int):=Int.zero_add _;rw[ei];have g1:atI (os.map V.bl) ((i:Nat):Int)=some (.bl (os[i]'(by lia))):=zq (by rw[ux,uf (by lia)];rfl);have g2:atI (PS.map V.str) ((i:Nat):Int)=some (.str (PS[i]'(by lia))):=zq (by rw[ux,uf (by lia)];rfl);have g3:atI (is.map V.int) ((i:Nat):Int)=some (.int (is[i]'(by lia))):=zq (by rw[ux,uf (by lia)];rfl);have tk:(pz PS os is).take (i+1)=(pz PS os is).take i++[(PS[i]'(by lia),os[i]'(by lia),is[i]'(by lia))]:=by
   rw[Us,zdM (uf _) (uf _) (uf _)]
   rfl
  have lens:=X7 ((pz PS os is).take i) [] [] ⟨by simp,fun p hp=>by cases hp⟩ ⟨by simp,fun p hp=>by cases hp⟩ (fun p hp=>hsm _ (by
   have:=List.mem_of_mem_take hp
   unfold pz at this;exact(UC (UC this).2).2))
  obtain⟨_,_,n1,n2⟩:=lens;rw[Ui,lpz]at n1 n2;dsimp only[uR]
  refine zx rfl rfl ⟨lo',_,_,_,rfl,rfl,SqL.of (nf ho7),g1,_,rfl,?_⟩;cases ob:os[i]'(by lia)with
  |true =>
   refine iteT (zx rfl rfl ⟨lv,_,_,_,rfl,rfl,SqL.of (nf hv6'),g3,zf rfl (zx rfl rfl ⟨lp,_,_,_,rfl,rfl,SqL.of (nf hp7),g2,dh,_,rfl,DPut.k (k:=.inr _) h9 (by rw[yt];show _ < sizeLine;simp at n1;lia),?_⟩)⟩);refine⟨fun b u e1 e2 e=>by rw[zh e1];exact k9 b u e1 e2 e,?_,?_,_,rfl⟩
   ·rw[zg,tk,ob,UJ,yQ]
    rfl
   ·rw[zh nhl.symm,l9,tk,ob,UJ]
    rfl
  |false =>
   refine iteF (zx rfl rfl ⟨lv,_,_,_,rfl,rfl,SqL.of (nf hv6'),g3,zf rfl (zx rfl rfl ⟨lp,_,_,_,rfl,rfl,SqL.of (nf hp7),g2,dl,_,rfl,DPut.k (k:=.inr _) l9 (by rw[yt];show _ < sizeLine;simp at n2;lia),?_⟩)⟩);refine⟨fun b u e1 e2 e=>by rw[zh e2];exact k9 b u e1 e2 e,?_,?_,_,rfl⟩
   ·rw[zh nhl,h9,tk,ob,UJ]
    rfl
   ·rw[zg,tk,ob,UJ,yQ]
    rfl
 rintro σ H9 ⟨k9,h9,l9,x,rfl⟩;rw[Ut (by lia)]at h9 l9;have nf9:∀{b u},H7 b=some u->H9 b=some u:=fun{b u} e=>k9 b u (zk e f7) (zk e f8') (s8 _ _ e);have s9:Same H H9:=fun b u e=>nf9 (s7 _ _ e);have okk:=X7 (pz PS os is) [] [] ⟨by simp,fun p hp=>by cases hp⟩ ⟨by simp,fun p hp=>by cases hp⟩ (fun p hp=>hsm _ (by
  unfold pz at hp;exact(UC (UC hp).2).2))
 rw[lpz]at okk;have hv9:=nf9 hv6';have hp9:=nf9 hp7;have ho9:=nf9 ho7;have efN:fN PS os is=(pz PS os is).foldl filN ([],[]):=rfl;rw[<- efN]at h9 l9 okk;obtain⟨h0,eh0⟩:∃h0,h0=(fN PS os is).1:=⟨_,rfl⟩;obtain⟨l0,el0⟩:∃l0,l0=(fN PS os is).2:=⟨_,rfl⟩;rw[<- eh0,<- el0]at okk;rw[<- eh0]at h9;rw[<- el0]at l9;obtain⟨Oh,Ol,lh,ll⟩:=okk;simp at lh ll
 subst er2;dsimp only
 refine cut1 fun r3 er3=>?_;refine zx rfl rfl (zf rfl ⟨a,dh,dl,ns,h0,l0,6,rfl,SqL.same hS s9,hn,h9,l9,Oh,Ol,by lia,by lia,fun HA tp pl sl' sA htp out=>?_⟩);refine⟨tp,[.ref pl,.ref sl'],rfl,SqT.of htp,rfl,_,_,rfl,_,_,rfl,rfl,?_⟩;obtain⟨PCS,ts,dsi,ld,KV,x,PL,LK⟩:=zbe out;obtain⟨v0,kr,eKV⟩:=PL.fst;dsimp only[uR]
 have lkk:=PL.lk;have lpp:=PL.lp;have ltt:=PL.lt;subst er3;refine cut1 fun r4 er4=>?_;refine zf rfl ⟨_,rfl,sl',_,_,_,rfl,rfl,SqL.of PL.hsl,yg _ _,ld,KV,rfl,PL.hld,fun k1 g1=>⟨by show 1<=sizeLine;lia,fun k2 g2=>⟨k1,k2,_,_,rfl,rfl,old g2 zg,zg,by rw[uc];show KV.length+1<=sizeLine;lia,fun k3 g3=>⟨k3,_,_,.str x,rfl,rfl,SqL.of zg,zq (j:=0) (by rw[eKV];rfl),by show 2<=sizeLine;lia,fun g4 g5=>⟨by show 1<=sizeLine;lia,fun bl g6=>?_⟩⟩⟩⟩⟩;have sB:=((((same_new g1 (.lst (KV.map fun kv=>kV kv.1))).new (o:=.lst [.str ""]) g2).new (o:=.lst ((KV.map fun kv=>kV kv.1)++[.str ""])) g3).new (o:=.tup [.str "give",.str x]) g5);have sB6:=sB.new (o:=.lst [.ref g4]) g6;have hg4:upd (upd (upd (upd (upd HA k1 (.lst (KV.map fun kv=>kV kv.1))) k2 (.lst [.str ""])) k3 (.lst ((KV.map fun kv=>kV kv.1)++[.str ""]))) g4 (.tup [.str "give",.str x])) bl (.lst [.ref g4]) g4=some (.tup [.str "give",.str x]):=old g6 zg;have hbl:=zg (H:=upd (upd (upd (upd HA k1 (.lst (KV.map fun kv=>kV kv.1))) k2 (.lst [.str ""])) k3 (.lst ((KV.map fun kv=>kV kv.1)++[.str ""]))) g4 (.tup [.str "give",.str x])) (a:=bl) (o:=.lst [.ref g4]);have fbl:HA bl=none:=sB.free g6;dsimp only[uR]
 generalize upd (upd (upd (upd (upd HA k1 (.lst (KV.map fun kv=>kV kv.1))) k2 (.lst [.str ""])) k3 (.lst ((KV.map fun kv=>kV kv.1)++[.str ""]))) g4 (.tup [.str "give",.str x])) bl (.lst [.ref g4])=HB at *;have hplB:=sB6 _ _ PL.hpl;have nbp:bl≠pl:=(zk PL.hpl fbl).symm;subst er4;refine cut1 fun r5 er5=>?_;refine zf rfl ⟨pl,ts.map V.ref,rfl,SqL.of hplB,Za (K:=K) (xs:=ts.map V.ref) (fun i σ H'=>(∀b u,b≠bl->HB b=some u->H' b=some u)/\(∃bs,H' bl=some (.lst (bs.map V.ref))/\Bods H' x (PCS.drop (PCS.length-i)) bs)/\∃u u2,σ=[sR a,some (.int M),sR lp,sR lo',sR lv,sR dh,sR dl,u,sR pl,sR sl',sR bl,u2,none,none,none,none,none]) ⟨fun b u _ e=>e,⟨[g4],hbl,by rw[Nat.sub_zero,UU];exact⟨g4,rfl,hg4⟩⟩,_,_,rfl⟩ (fun i σ H' _ h=>SqL.of (h.1 _ _ nbp.symm hplB)) ?_ ?_⟩
 ·rintro i xv σ HC hx ⟨kC,⟨bs,hbs,BB⟩,u,u2,rfl⟩
  have hi:i < ts.length:=by
   have:=(ud.mp hx).1
   rw[Uh,uc]at this;exact this
  rw[tj (by rw[uc];exact hi),uc,ux]at hx;obtain⟨t,ht,rfl⟩:=uz.mp hx;have hj:PCS.length-(i+1) < PCS.length:=by lia
  have ej:ts.length-1-i=PCS.length-(i+1):=by lia
  rw[ej]at ht;have hp:=PL.tp _ t _ ht (uf hj);have dr:PCS.drop (PCS.length-(i+1))=PCS[PCS.length-(i+1)]::PCS.drop (PCS.length-i):=by
   rw[Uc hj,show PCS.length-(i+1)+1=PCS.length-i by lia]
  have tB:Tups HB HC:=fun b xs e=>kC b _ (fun z=>by rw[z,hbl]at e;cases e) e;have tA:Tups HA HC:=fun b xs e=>tB b xs (sB6 _ _ e);have hpC:=hp.tups tA;obtain⟨xs,htC,nex,lx,mk⟩:=Qj hpC;obtain⟨b0,rest,rfl⟩:∃b0 rest,bs=b0::rest:=by
   have:=BB.len
   cases bs with
   |nil=>simp at this
   |cons a b=>exact⟨a,b,rfl⟩
  have lbs:=BB.len;rw[U5]at lbs;dsimp only[uR]
  refine zf rfl ⟨.inl ⟨rfl,_,SqL.of hbs⟩,zf rfl (zf rfl ⟨bl,_,_,.ref b0,rfl,rfl,SqL.of hbs,zq (j:=0) rfl,by show 1<=sizeLine;lia,fun t1 f1=>?_⟩)⟩;have sC1:=same_new f1 (.tup [.ref b0]);refine⟨t,t1,xs,_,rfl,rfl,SqT.of (sC1 _ _ htC),SqT.of zg,nex,by show xs.length+1<=sizeLine;lia,fun z=>by simp at z,fun _ nb f2=>⟨bl,_,0,_,_,rfl,rfl,rfl,old f2 (old f1 hbs),by rw[uc];lia,uU _,?_⟩⟩;have sC2:=sC1.new (o:=.tup (xs++[.ref b0])) f2;have hnb:upd (upd HC t1 (.tup [.ref b0])) nb (.tup (xs++[.ref b0])) nb=some (.tup (xs++[.ref b0])):=zg;have hbl2:=old (o:=.tup (xs++[.ref b0])) f2 (old (o:=.tup [.ref b0]) f1 hbs);generalize upd (upd HC t1 (.tup [.ref b0])) nb (.tup (xs++[.ref b0]))=HD at *;have tD:∀o,Tups HD (upd HD bl o):=fun o b ys e=>by rw[zh (fun z=>by rw[z,hbl2]at e;cases e)];exact e
  refine⟨fun b u e1 e2=>by rw[zh e1];exact sC2 _ _ (kC b u e1 e2),⟨nb::b0::rest,by rw[zg];rfl,?_⟩,_,_,rfl⟩;rw[dr];refine Bods.cons (BB.keep fun b ys e=>tD _ b ys (sC2 _ _ e)) (mk _ _ _ (fun b ys e=>tD _ b ys (sC2 _ _ e)) (tD _ _ _ hnb))
 rintro σ HC ⟨kC,⟨bs,hbs,BB⟩,u,u2,rfl⟩;rw[uc,ltt,Uw,tG]at BB;dsimp only[uR]
 have nfC:∀{b u},HA b=some u->HC b=some u:=fun{b u} e=>kC b u (zk e fbl) (sB6 _ _ e);have sC:Same H HC:=fun b u e=>nfC (sA _ _ (s9 _ _ e));have hpC:=nfC (sA _ _ hp9);have hoC:=nfC (sA _ _ ho9);have hvC:=nfC (sA _ _ hv9);obtain⟨b0,brest,rfl⟩:∃b0 rest,bs=b0::rest:=by
  have:=BB.len
  cases bs with
  |nil=>simp at this
  |cons a b=>exact⟨a,b,rfl⟩
 subst er5;refine cut1 fun r6 er6=>?_;refine⟨by show 0<=sizeLine;lia,fun pk g1=>zf rfl ⟨lp,_,rfl,.inl ⟨SqL.of (old g1 hpC),fun qp g2=>zf rfl ⟨lo',_,rfl,.inl ⟨SqL.of (old g2 (old g1 hoC)),fun qo g3=>zf rfl ⟨bl,_,_,.ref b0,rfl,rfl,SqL.of (old g3 (old g2 (old g1 hbs))),zq (j:=0) rfl,by show 4<=sizeLine;lia,fun one g4=>⟨by show 1<=sizeLine;lia,fun pd g5=>⟨by show 2<=sizeLine;lia,fun pc g6=>?_⟩⟩⟩⟩⟩⟩⟩⟩;have s6:=(((((same_new g1 (.tup [])).new (o:=.tup (PS.map V.str)) g2).new (o:=.tup (os.map V.bl)) g3).new (o:=.tup [.str "f",.ref qp,.ref qo,.ref b0]) g4).new (o:=.tup [.ref one]) g5).new (o:=.tup [.ref pk,.ref pd]) g6;have c5:=zg (H:=upd (upd (upd (upd (upd HC pk (.tup [])) qp (.tup (PS.map V.str))) qo (.tup (os.map V.bl))) one (.tup [.str "f",.ref qp,.ref qo,.ref b0])) pd (.tup [.ref one])) (a:=pc) (o:=.tup [.ref pk,.ref pd]);have c4:=old (o:=.tup [.ref pk,.ref pd]) g6 (zg (H:=upd (upd (upd (upd HC pk (.tup [])) qp (.tup (PS.map V.str))) qo (.tup (os.map V.bl))) one (.tup [.str "f",.ref qp,.ref qo,.ref b0])) (a:=pd) (o:=.tup [.ref one]));have c3:=old (o:=.tup [.ref pk,.ref pd]) g6 (old (o:=.tup [.ref one]) g5 (zg (H:=upd (upd (upd HC pk (.tup [])) qp (.tup (PS.map V.str))) qo (.tup (os.map V.bl))) (a:=one) (o:=.tup [.str "f",.ref qp,.ref qo,.ref b0])));have c2:=old (o:=.tup [.ref pk,.ref pd]) g6 (old (o:=.tup [.ref one]) g5 (old (o:=.tup [.str "f",.ref qp,.ref qo,.ref b0]) g4 (zg (H:=upd (upd HC pk (.tup [])) qp (.tup (PS.map V.str))) (a:=qo) (o:=.tup (os.map V.bl)))));have c1:=old (o:=.tup [.ref pk,.ref pd]) g6 (old (o:=.tup [.ref one]) g5 (old (o:=.tup [.str "f",.ref qp,.ref qo,.ref b0]) g4 (old (o:=.tup (os.map V.bl)) g3 (zg (H:=upd HC pk (.tup [])) (a:=qp) (o:=.tup (PS.map V.str))))));have c0:=old (o:=.tup [.ref pk,.ref pd]) g6 (old (o:=.tup [.ref one]) g5 (old (o:=.tup [.str "f",.ref qp,.ref qo,.ref b0]) g4 (old (o:=.tup (os.map V.bl)) g3 (old (o:=.tup (PS.map V.str)) g2 (zg (H:=HC) (a:=pk) (o:=.tup []))))));refine gset ?_;dsimp only[uR]
 generalize upd (upd (upd (upd (upd (upd HC pk (.tup [])) qp (.tup (PS.map V.str))) qo (.tup (os.map V.bl))) one (.tup [.str "f",.ref qp,.ref qo,.ref b0])) pd (.tup [.ref one])) pc (.tup [.ref pk,.ref pd])=H6c at *;have hCod:Cod1 H6c pc pk pd one qp qo "f" (.ref b0) PS os:=⟨c5,c0,c4,c3,c1,c2⟩;clear c0 c1 c2 c3 c4 c5 g1 g2 g3 g4 g5 g6;have sH6:Same H H6c:=sC.trans s6;subst er6;refine cut1 fun r7 er7=>?_;refine zf rfl ⟨a,ns,0,rfl,SqL.same hS sH6,_,_,rfl,rfl,⟨by decide,by decide⟩,_,_,rfl,rfl,(by show(0:Int) < _;decide),zf rfl ⟨a,ns,1,rfl,SqL.same hS sH6,_,_,rfl,rfl,⟨by decide,by decide,by decide⟩,_,_,rfl,rfl,(by show(0:Int) < _;decide),_,_,rfl,rfl,.inl ⟨by lia,by lia⟩,?_⟩⟩;refine gset ?_;dsimp only[uR]
 generalize clAt ns 0 / 4 % 2*(clAt ns 1 % 10 ^ (18:Int).toNat)=sr;subst er7;refine cut1 fun r8 er8=>?_;refine zf rfl (zf rfl ⟨lv,rfl,⟨_,SqL.of (s6 _ _ hvC)⟩,j3 (K:=K) (xs:=is.map V.int) (fun i τ ys H'=>Same H6c H'/\(∃x,τ=[sR a,some (.int M),sR lp,sR lo',sR lv,sR dh,sR dl,u,sR pl,sR sl',sR bl,u2,sR pc,some (.int sr),none,none,none,x])/\∃as:List Addr,as.length=i/\ys=as.map V.ref/\∀(j:Nat) p z,as[j]?=some p->is[j]?=some z->H' p=some (.lst [.int z])/\K31.Sm z) ⟨Same.refl _,⟨none,rfl⟩,[],rfl,rfl,fun j p z e=>by cases e⟩ (fun i τ ys H' _ h=>SqL.of (h.1 _ _ (s6 _ _ hvC))) ?_ ?_⟩)
 ·rintro i xv τ ys H7' hx ⟨s7',⟨x',rfl⟩,as,la,rfl,hA⟩
  obtain⟨z,hz,rfl⟩:=L2.gM hx;have hi:i < is.length:=(ud.mp hz).1;refine⟨_,rfl,by show 1<=sizeLine;lia,fun ll' fl'=>⟨by rw[uc];lia,s7'.new fl',⟨_,rfl⟩,as++[ll'],by simp[la],by rw[uH];rfl,fun j p z' e1 e2=>?_⟩⟩;by_cases c:j < as.length
  ·rw[uu c]at e1
   obtain⟨q1,q2⟩:=hA j p z' e1 e2;exact⟨old fl' q1,q2⟩
  ·have jl:=(ud.mp e1).1
   rw[uk]at jl;obtain rfl:j=i:=by simp at jl;lia
   rw[ut (by lia),la,Uw]at e1;cases e1;rw[hz]at e2;cases e2;exact⟨zg,hsm _ (uM hz)⟩
 rintro τ ys H7' ⟨s7',_,as,la,rfl,hA⟩ al fal;rw[uc]at la;have sHM:Same H6c (upd H7' al (.lst (as.map V.ref))):=s7'.new fal;have hal:=zg (H:=H7') (a:=al) (o:=.lst (as.map V.ref));have hA':∀(j:Nat) p z,as[j]?=some p->is[j]?=some z->(upd H7' al (.lst (as.map V.ref))) p=some (.lst [.int z])/\K31.Sm z:=fun j p z e1 e2=>⟨old fal (hA j p z e1 e2).1,(hA j p z e1 e2).2⟩;generalize upd H7' al (.lst (as.map V.ref))=HM at *;have sM:Same H HM:=sH6.trans sHM;refine zf rfl ⟨a,ns,4,rfl,SqL.same hS sM,_,_,rfl,rfl,(by show(0:Int) < _;decide),zf rfl ?_⟩;refine fun mx mdx fmx fmd nmd=>?_;have s0:Same HM (upd (upd HM mdx (.own mx)) mx (.ins A.cM mdx [])):=(same_new fmd _).new (by rw[zh nmd.symm];exact fmx);have x0:=zg (H:=upd HM mdx (.own mx)) (a:=mx) (o:=.ins A.cM mdx []);generalize upd (upd HM mdx (.own mx)) mx (.ins A.cM mdx [])=H0 at *;have hT0:∀T∈[TC,TB,TA],H0 T=some (.tbl #[]):=fun T hT'=>s0 _ _ (sM _ _ (hT T hT'));have tA:TbG TA lsA H0:=TbG.empty (hT0 TA (by simp));have tB:TbG TB lsB H0:=TbG.empty (hT0 TB (by simp));have tC':TbG TC lsC H0:=TbG.empty (hT0 TC (by simp));refine⟨mx,mdx,pc,pk,pd,one,qp,qo,al,"f",.ref b0,PS,os,as,is,0,_,sr,rfl,x0,hCod.keep fun b xs e=>s0 _ _ (sHM _ _ e),s0 _ _ hal,la,fun j p z e1 e2=>⟨s0 _ _ (hA' j p z e1 e2).1,(hA' j p z e1 e2).2⟩,⟨by lia,by lia,by lia⟩,tA,tB,?_⟩;rintro HL X f0 dx0 hd0 ld0 td0 ff dx' hd ld' td v0 rfl _ _ kL tA' tB' hm hE xf B BN ap0 ap;obtain⟨LN,LV⟩:=zc7 s0 fmx x0 tA tB tC' nA nB kL hm hE xf B BN ap0 ap ndP (by lia) (by lia);refine⟨rfl,gset ?_⟩;dsimp only[uR]
 rw[<- el0,<- eh0]at LV;obtain⟨L,eL⟩:∃L:Lr,L=⟨X,f0,dx0,hd0,ld0,td0,ff,dx',hd,ld',td,v0⟩:=⟨_,rfl⟩;rw[<- eL]at LN LV;have eX:X=L.X:=by rw[eL]
 rw[eX];obtain⟨ps,hs,ST,TL⟩:=zc6 PL LK;have SA:Same HA HM:=fun b u e=>sHM _ _ (s6 _ _ (nfC e));have BM:=BB.keep fun b xs e=>sHM _ _ (s6 _ _ e);have hbM:=sHM _ _ (s6 _ _ hbs);have ldM:=SA _ _ (sA _ _ l9);have naL:("answer.":Str)∉l0.map (·.1):=fun z=>naP (zc8 (os:=os) (is:=is) ndP (by lia) (by lia) _ (by rw[el0]at z;exact z));clear eL LK BB B BN ap0 ap hE hm kL tA' tB' xf tA tB tC' hT0 x0 hA hA' hCod hal s0 kC;have lD:(dsi++[ld]).length<=ps.length+2:=by
  cases TL with
  |ok _ _ _ e=>lia
  |err _ _ _ _ _ _ _ e=>lia
 have lps:=ST.lp;subst er8;refine cut1 fun r9 er9=>?_;refine zf rfl ⟨sl',_,rfl,.inl (SqL.of (LV.k _ _ (SA _ _ ST.hsl) (by intro _ z;cases z))),_,rfl,by rw[uc];lia,by rw[uc];lia,jm (n:=((dsi++[ld]).map V.ref).length) (fun i σ H'=>LpI A TC L l0 HA HM x PCS ps hs (b0::brest) (dsi++[ld]) i H'/\∃y7 y15 y16,σ=[sR a,some (.int M),sR lp,sR lo',sR lv,sR dh,sR dl,y7,sR pl,sR sl',sR bl,u2,sR pc,some (.int sr),some (.ref L.X.m),y15,y16]) ⟨.liv b0 h0 (uU _) rfl ST.z0 LV,_,_,_,rfl⟩ ?_ ?_⟩
 ·rintro i σ H1 hi ⟨I,y7,y15,y16,rfl⟩
  rw[uc]at hi;have ei:(0:Int)+(i:Int)=((i:Nat):Int):=Int.zero_add _;rw[ei];have kz:=I.kz;have hsl1:=kz _ _ (SA _ _ ST.hsl) (by intro _ z;cases z);refine gset ?_;dsimp only[uR]
  refine zdx fun EE hEE=>?_;refine cut2 fun b1 hb1=>?_;cases I with
  |told h z a1 _ a3=>lia
  |fault tp r n z h a1 a2 a3 a4 a5 a6 a7 a8 a9 =>
   subst a1;have hr1:=kz _ _ (SA _ _ a5) (by intro _ z;cases z);refine zx rfl rfl ⟨sl',_,_,.ref r,rfl,rfl,SqL.of hsl1,zq (by rw[ux,a4];rfl),r,_,rfl,hr1,X9 h n z a6,Yr h n z,fun H2 wa s2 hw=>?_⟩;obtain⟨wr,ew⟩:=ZI h n z a3;rw[ew]at hw;refine gset (zf rfl ⟨by show 0<=sizeLine;lia,fun wl fw=>⟨wa,wl,_,rfl,rfl,SqL.of (old fw hw),SqL.of zg,_,rfl,iteT ?_⟩⟩);have s3:=s2.new (o:=.lst []) fw;have hw3:=old (o:=.lst []) fw hw;generalize upd H2 wl (.lst [])=H3 at *;subst hEE;refine zf rfl (zf rfl ⟨wa,_,_,_,rfl,rfl,SqL.of hw3,zq (j:=0) rfl,by show 2<=sizeLine;lia,fun dt ft=>⟨L.X,dt,.inr z,rfl,⟨tp,old ft (s3 _ _ a7),old ft (s3 _ _ a8)⟩,zg,fun H' _=>q _⟩⟩)
  |liv b h a1 a2 a3 a4 =>
   obtain⟨d,eD,hd0'⟩:=ST.dd i h a3;have hd1:=kz _ _ (SA _ _ hd0') (by intro _ z;cases z);have lh:=ST.lb h (uM a3);obtain⟨c,dc,turn⟩:=zbf ST TL SA BM LN Ol naL (by lia) a1 a2 a3 a4;refine zx rfl rfl ⟨sl',_,_,.ref d,rfl,rfl,SqL.of hsl1,zq (by rw[ux,eD];rfl),d,_,rfl,hd1,by rw[yt];lia,vn h,fun H2 wa s2 hw=>?_⟩;rw[Xd]at hw;refine gset (zf rfl ⟨by show 0<=sizeLine;lia,fun wl fw=>⟨wa,wl,_,rfl,rfl,SqL.of (old fw hw),SqL.of zg,_,rfl,iteF (nxtC ?_)⟩⟩);have s3:=s2.new (o:=.lst []) fw;generalize upd H2 wl (.lst [])=H3 at *;have v3:=a4.same s3;have kz3:=v3.k;have hsl3:=s3 _ _ hsl1;have hbl3:=kz3 _ _ hbM (by intro _ z;cases z);have hkP:i<=PCS.length:=by
    cases TL with
    |ok _ _ e=>rw[e];exact a1
    |err _ _ _ _ _ _ e=>rw[e,uk];lia
   obtain⟨xs,hxs⟩:=(BM.at hkP a2).tup;have hb3:=kz3 _ _ hxs (by intro _ z;cases z);have hdl3:=kz3 _ _ ldM (by intro _ z;cases z);dsimp only[uR]
   subst hb1;refine cut1 fun b2 hb2=>?_;refine zf rfl (zx rfl rfl ⟨bl,_,_,.ref b,rfl,rfl,SqL.of hbl3,zq (by rw[ux,a2];rfl),zx rfl rfl ⟨sl',_,_,.ref d,rfl,rfl,SqL.of hsl3,zq (by rw[ux,eD];rfl),zf rfl ⟨L.X,L.f0,L.f,L.dx,L.hd,L.ld,L.td,d,dl,b,"",h,l0,xs,rfl,v3.hm,v3.hfl,v3.hf,hb3,v3.hh,s3 _ _ hd1,v3.hl,hdl3,v3.ht,ST.run.ok h (uM a3),Ol,by lia,fun H4 s4=>⟨_,rfl,iteF (nxtC ?_)⟩⟩⟩⟩);have s14:=s3.trans s4;have hsl4:=s14 _ _ hsl1;have due:∀Q:VK,(∀H5,Same H4 H5->Q (.bl c) H5)->(tOrV (tOp rEq (tOp (rI0 fun i j=>V.int (i+j)) (tVar 7) (tC (V.int 1))) (tCB (fun xs H Q=>∃p ys,xs=[V.ref p]/\(SqL K H p ys\/SqT K H p ys)/\Q (V.int (ys.length:Nat)) H) (yf (tVar 9) tNil))) (tOp (rEqE K false) (wo spWds [] E0 (yf (tOp (rIxL K) (tVar 9) (tOp (rI0 fun i j=>V.int (i+j)) (tVar 7) (tC (V.int 1)))) tNil)) (tLst tNil)):TE) [sR a,some (.int M),sR lp,sR lo',sR lv,sR dh,sR dl,some (.int (i:Nat)),sR pl,sR sl',sR bl,u2,sR pc,some (.int sr),some (.ref L.X.m),sR wa,y16] H4 Q:=by
    intro Q q5;refine zf rfl ⟨_,_,rfl,rfl,zf rfl ⟨sl',_,rfl,.inl (SqL.of hsl4),rfl,_,rfl,?_⟩⟩;rw[uc];rcases dc with⟨e1,rfl⟩|⟨e1,d2,kvs,e2,e3,e4,e5,rfl⟩
    ·rw[decide_eq_true (by rw[<- e1];rfl)]
     exact iteT (q5 H4 (Same.refl _))
    ·rw[decide_eq_false (fun z=>by injection z with z;lia)]
     refine iteF (zx rfl rfl ⟨_,_,rfl,rfl,sl',_,_,.ref d2,rfl,rfl,SqL.of hsl4,zq (j:=i+1) (by rw[ux,e2];rfl),d2,kvs,rfl,s4 _ _ (kz3 _ _ e3 (by intro _ z;cases z)),e4,e5,fun H5 wb s5 hwb=>?_⟩);refine⟨by show 0<=sizeLine;lia,fun wl2 fw2=>⟨wb,wl2,_,rfl,rfl,SqL.of (old fw2 hwb),SqL.of zg,q5 _ (s5.new fw2)⟩⟩
   dsimp only
   subst hb2;refine cut1 fun b3 hb3=>?_;refine due _ fun H5 s5=>gset ?_;dsimp only[uR]
   have s15:=s14.trans s5;subst hb3;subst hEE;refine zf rfl ⟨L.X.m,L.X.dx,_,rfl,s15 _ _ a4.hm,rfl,?_⟩;unfold tNil;refine turn H5 _ _ s15 fun H6 I6=>?_;exact zf rfl ⟨.bl c,.bl c,rfl,.bl c,fun H7 s7=>⟨_,rfl,iteF (nxtC ⟨I6.same s7,_,_,_,rfl⟩)⟩⟩
 rintro σ H1 ⟨I,y7,y15,y16,rfl⟩;rw[uc]at I;cases I with
 |liv b h a1 a2 a3 a4 =>
  cases TL with
  |ok _ _ _ e=>lia
  |err _ _ _ _ _ _ _ e=>lia
 |fault tp r n z h a1 a2=>lia
 |told h z a1 a2 a3 a4 a5 LA kz =>
  obtain⟨d,eD,hd0'⟩:=ST.dd _ h a4;rw[uk]at a3;have ldi:dsi.length=ps.length:=by simpa using a3
  rw[<- ldi,ut (ui _),Uw]at eD;cases eD;have hsl1:=kz _ _ (SA _ _ ST.hsl) (by intro _ z;cases z);rw[uH]at hsl1;obtain⟨bL,br,eb,hbL⟩:=BM.lst;rw[eb]at hbM;rw[uH]at hbM;have hbl1:=kz _ _ hbM (by intro _ z;cases z);have hbL1:=kz _ _ hbL (by intro _ z;cases z);have hd1:=kz _ _ (SA _ _ hd0') (by intro _ z;cases z);dsimp only[uR]
  subst er9;refine cut1 fun r10 er10=>?_;refine zf rfl ⟨_,rfl,sl',_,_,_,rfl,rfl,SqL.of hsl1,yg _ _,?_⟩;refine zf rfl ⟨_,rfl,bl,_,_,_,rfl,rfl,SqL.of hbl1,yg _ _,bL,_,_,.str x,rfl,rfl,SqT.of hbL1,zq (j:=1) rfl,ld,.int z,rfl,?_,by show 1<=sizeLine;lia,fun l1 f1=>⟨by show 2<=sizeLine;lia,fun t1 f2=>gset ?_⟩⟩
  ·have:=DGet.k (k:=.inr x) hd1
   rw[yX,a5]at this;exact this
  have s2:=(same_new f1 (.lst [.int z])).new (o:=.tup [.str "told",.ref l1]) f2;have hl1:=old (o:=.tup [.str "told",.ref l1]) f2 (zg (H:=H1) (a:=l1) (o:=.lst [.int z]));have ht1:=zg (H:=upd H1 l1 (.lst [.int z])) (a:=t1) (o:=.tup [.str "told",.ref l1]);generalize upd (upd H1 l1 (.lst [.int z])) t1 (.tup [.str "told",.ref l1])=H2 at *;have LA2:=LA.same s2;have nl:l1≠L.X.fl:=(zk LA.hfl f1).symm;dsimp only[uR]
  subst er10;refine zf rfl ⟨L.X.m,L.X.dx,_,rfl,LA2.hm,rfl,L.X,rfl,.inr ⟨L.f0,L.dx0,L.hd0,L.ld0,L.td0,L.v0,"","answer.",_,[],_,z,LA2,fun H3 tp tl tp' l' k3 T3 E3 e1 e2 e3 e4 e5 e6=>?_⟩⟩;have hS:∀a∈[L.X.m,TC,L.f0,L.hd0],∃v,H2 a=some v/\kd v∈[11,5,12,2]:=fun a ha=>by
   rcases uh.mp ha with rfl|ha
   ·exact⟨_,LA2.hm,by show(11:Nat)∈[11,5,12,2];decide⟩
   rcases uh.mp ha with rfl|ha
   ·obtain⟨pt,e,_⟩:=LA2.hT
    exact⟨_,e,by show(5:Nat)∈[11,5,12,2];decide⟩
   rcases uh.mp ha with rfl|ha
   ·exact⟨_,LA2.hf,by show(12:Nat)∈[11,5,12,2];decide⟩
   ·rw[ug.mp ha];exact⟨_,LA2.hh,by show(2:Nat)∈[11,5,12,2];decide⟩
  have nk:∀{b u}(n:Nat),H2 b=some u->kd u=n->n∉[11,5,12,2]->b∉[L.X.m,TC,L.f0,L.hd0]:=fun n e e2 e3 z=>by
   obtain⟨v,e4,e5⟩:=hS _ z;rw[e4]at e;cases e;exact e3 (e2 ▸ e5)
  have st:∀{b u}(n:Nat),H2 b=some u->kd u=n->n∉[11,5,12,2]->b≠L.X.fl->H3 b=some u:=fun n e e2 e3 e4=>k3 _ _ (fun z=>by
   have:=nk n e e2 e3
   simp only[uh,uL,or_false,not_or]at this z
   rcases z with z|z|z|z|z
   ·exact this.1 z
   ·exact this.2.1 z
   ·exact e4 z
   ·exact this.2.2.1 z
   ·exact this.2.2.2 z) e
  have ht3:=st 6 ht1 rfl (by decide) (vc 6 4 ht1 LA2.hfl rfl rfl (by decide));have hl3:=st 4 hl1 rfl (by decide) nl;refine zf rfl ⟨.ref tp',.ref t1,rfl,vj (o:=.inl z) ⟨l',e5,e6⟩ ⟨l1,ht3,hl3⟩,fun H4 s4=>⟨_,rfl,iteT ?_⟩⟩;refine zf rfl ⟨L.X.m,A.cM,L.X.dx,_,_,rfl,s4 _ _ e2,N.cl,N.n7,rfl,by show 0<=sizeLine;lia,fun l4 f4=>⟨L.X.fl,l4,[],rfl,rfl,SqL.of (old f4 (s4 _ _ e1)),SqL.of zg,_,rfl,iteT ?_⟩⟩;have s5:=s4.new (o:=.lst []) f4;refine zx rfl rfl ⟨L.X,t1,.inl z,rfl,⟨tp,tl,s5 _ _ e2,s5 _ _ e3,s5 _ _ e4,?_⟩,⟨l1,s5 _ _ ht3,s5 _ _ hl3⟩,fun H' _=>q _⟩;obtain⟨C,E3⟩:=E3;exact⟨C,E3.same s5⟩
end
end GN
namespace L2
open PySem
theorem MdIn.ma{K:ua}{k:Nat}{D:Addr}(d:MdIn K C "__init__" qual st D)
  (hb:∀(kV doc pm:Value)(an:Option Addr)(cdv ct:Value),Binds K (uP "__init__" qual (zX st) (zO st) (zo st) (.ref D) kV doc pm an cdv ct) ps [])
  (mk:tR K C=true) (kp:uE K (.ref C)=true) (hm:mg x=some (.ref C)) (ok:∀f fd,FunM K "__init__" qual st D f fd->FnOk P w K mg base CX0 k f fd ps sp):Ma P w K mg base CX0 k x C ps sp:=by
 obtain⟨f,a,n,oc,od,kV,doc,pm,an,cdv,ct,osl,l,cc,_⟩:=d;exact⟨f,_,⟨mk,a,n,kp⟩,ok f _ ⟨oc,od,kV,doc,pm,an,cdv,ct,osl,rfl,l,cc⟩,hb kV doc pm an cdv ct,hm⟩
theorem SgIn.mk{K:ua}{z:Str}{t:Tok}(a:uF K mainGlobals x=some (some v))(e:v=.str z t):∃t,uF K mainGlobals x=some (some (.str z t)):=⟨t,e ▸ a⟩
end L2
namespace GN
open PySem L2 K11
theorem Qm{K:ua}{D:Addr}(dt:DtIn K D 0)(kV doc pm:Value)(an:Option Addr)(cdv ct:Value):Binds K (uP "__init__" "Machine.__init__" (zX wR) (zO wR) (zo wR) (.ref D) kV doc pm an cdv ct) ["self","code","name","args","steps","size","stretch"] []:=fun s us X hl=>by
 obtain⟨d,t,n,sl,lk⟩:=dt;have hl':us.length=7:=by simp at hl;lia
 match us,hl' with
 |[_,_,_,_,_,_,_],_=>exact PySem.W.binds_K X rfl lk rfl rfl rfl
theorem zbH{hp C':Addr}(h:HpE cH cS cR H hp C')(e:C'=C):∃dx fs,H hp=some (.ins C dx fs)/\fs.lookup ("let_first_go":Str)=none:=by
 subst e;exact ZE h fun _ _ _ _ _=>⟨rfl,rfl⟩
theorem OcIn.mk{K:ua}(a:uj K (.ref C) m=some (some (.ref f)))(b:tf K (.ref C) (.type "type") m=some (.val (.ref f))):∃f,uj K (.ref C) m=some (some (.ref f))/\tf K (.ref C) (.type "type") m=some (.val (.ref f)):=⟨f,a,b⟩
structure TopK(K:ua)(cB cF cR cH cS cM R D nv cU fA:Addr):Prop where
 qaF:OwnIn K "Begun" cB
 qC:uj K (.ref cB) "within"=some none
 qD:uj K (.ref cB) "finish"=some none
 qu:uj K (.ref cB) "results"=some none
 qaG:OwnIn K "Frame" cF
 qY:uj K (.ref cF) "body"=some none
 qO:uj K (.ref cF) "wants"=some none
 qZ:uj K (.ref cF) "held"=some none
 q0:uj K (.ref cF) "lent"=some none
 qE:uj K (.ref cF) "tokens"=some none
 qaA:OwnIn K "Rising" cR
 qm:uj K (.ref cR) "numbers"=some none
 qaQ:OwnIn K "Heap" cH
 qab:uj K (.ref cH) "size"=some none
 q1:uj K (.ref cH) "fresh"=some none
 qac:uj K (.ref cH) "anew"=some none
 qad:uj K (.ref cH) "peak"=some none
 qn:uj K (.ref cH) "by_number"=some none
 qg:uj K (.ref cH) "kept_places"=some none
 qao:OwnIn K "SlowHeap" cS
 qv:uj K (.ref cS) "size"=some none
 qo:uj K (.ref cS) "fresh"=some none
 qw:uj K (.ref cS) "anew"=some none
 qx:uj K (.ref cS) "peak"=some none
 qd:uj K (.ref cS) "by_number"=some none
 qc:uj K (.ref cS) "kept_places"=some none
 qh:uj K (.ref cS) "waiting"=some none
 qp:uj K (.ref cS) "first"=some none
 qau:OwnIn K "Machine" cM
 qF:uj K (.ref cM) "defs"=some none
 qG:uj K (.ref cM) "owns"=some none
 qy:uj K (.ref cM) "steps"=some none
 qH:uj K (.ref cM) "done"=some none
 qj:uj K (.ref cM) "stretch"=some none
 qI:uj K (.ref cM) "heap"=some none
 qq:uj K (.ref cM) "frames"=some none
 qP:uj K (.ref cM) "end"=some none
 qav:uF K mainGlobals "NoValue"=some (some (.ref nv))
 qaR:uF K mainGlobals "Full"=some (some (.ref cU))
 qaH:uF K mainGlobals "Fault"=some (some (.ref fA))
 qQ:DcIn K "boxed_value" Zt 703
 qae:DcIn K "begun_box" xT 710
 qaI:McIn K cM "tell" "Machine.tell" Zs 640
 qaJ:MdIn K cM "__init__" "Machine.__init__" wR D
 dt:DtIn K D 0
 hcA:UF K 703 699=true
 hcB:UF K 710 706=true
 hcC:UF K 640 636=true
 qaB:∃t,uF K mainGlobals "ANSWER"=some (some (.str "answer." t))
 q2:uF K mainGlobals "ReuseError"=some (some (.ref R))
 qba:xIn0 K nv=true
 qbb:uE K (.ref nv)=true
 qbc:tw K (.ref R) "__getattribute__"=some (some (.builtin "type.__getattribute__"))
 qbd:PySem.W.readsIn K R (.type "type")=true
 qbe:tf K (.ref R) (.type "type") "__init__"=some (.val (.builtin "ValueError.__init__"))
 k_x:tF K (.ref fA) (.ref fA)=some true
 qbf:tw K (.ref cH) "__getattribute__"=some (some (.builtin "type.__getattribute__"))
 qbg:PySem.W.readsIn K cH (.type "type")=true
 qbh:∃f,uj K (.ref cH) "__init__"=some (some (.ref f))/\tf K (.ref cH) (.type "type") "__init__"=some (.val (.ref f))
 qbi:cR≠cH
 qbj:cR≠cS
 qbk:cH≠cS
 qaS:MeIn K cS "hold" "Heap.hold" XN
 qaC:MeIn K cS "let_go" "Heap.let_go" Zk
 qaT:MeIn K cS "work" "Heap.work" XQ
 qaK:MeIn K cS "boxes" "Heap.boxes" Zm
 qaw:MeIn K cS "keeping" "Heap.keeping" wD
 qaU:MeIn K fA "__init__" "Fault.__init__" Zg
 qaV:U9 K fA "word"=some none
 qaW:uj K (.ref fA) "word"=some none
 qaX:j8 K fA=true
 qbl:uj K (.ref fA) "__setattr__"=some (some (.builtin "object.__setattr__"))
 qa2:(PySem.W.clsIn K fA).any (·.hasDict)=true
 qbm:∃f,uj K (.ref fA) "__init__"=some (some (.ref f))/\xIn K fA f=true/\PySem.W.typeIn K (.ref f)=some (.type "function")
 qbn:UG K fA=true
 qbo:uE K (.ref fA)=true
 qbp:uj K (.ref fA) "__getattribute__"=some (some (.builtin "BaseException.__getattribute__"))
 qbq:uj K (.ref fA) "__getattr__"=some none
 qbr:PySem.W.subIn K (.ref fA) (.type "BaseException")=some true
 qap:DfIn K "is_whole" xL
 qaL:DfIn K "sizes" YS
 qaf:DfIn K "in_bounds" sIn
 qaM:DfIn K "shape" YU
 qaN:DfIn K "grown" YT
 qag:DfIn K "result_of" sRes
 qaq:DfIn K "reckoned" XM
 qr:MeIn K cB "__init__" "Begun.__init__" Y0
 qar:DfIn K "only_one" Jd
 q3:DfIn K "worked_out" Zo
 qs:MeIn K cF "__init__" "Frame.__init__" Zh
 qJ:DfIn K "called_frame" Zi
 qR:DfIn K "first_frame" vV
 qah:DfIn K "looked_at" Zj
 qaY:DfIn K "used" Jc
 qS:DfIn K "used_values" wQ
 qas:DfIn K "names_of" vW
 qax:DfIn K "used_up" Zp
 qk:MeIn K cR "__init__" "Rising.__init__" sRis
 qz:MeIn K cH "__init__" "Heap.__init__" YY
 qe:MeIn K cS "__init__" "SlowHeap.__init__" YZ
 qaD:DfIn K "is_box" YX
 qai:MeIn K cH "hold" "Heap.hold" XN
 qT:MeIn K cH "let_go" "Heap.let_go" Zk
 qf:MeIn K cH "let_first_go" "Heap.let_first_go" Zl
 qb:MeIn K cS "let_first_go" "SlowHeap.let_first_go" Zn
 qaj:MeIn K cH "work" "Heap.work" XQ
 q4:MeIn K cH "boxes" "Heap.boxes" Zm
 qK:MeIn K cH "keeping" "Heap.keeping" wD
 qU:DfIn K "first_parts" YV
 qa:MeIn K cM "change_holders" "Machine.change_holders" vY
 ql:MeIn K cM "outcome" "Machine.outcome" Jf
 qV:MeIn K cM "let" "Machine.let" Je
 qL:MeIn K cM "give" "Machine.give" Y2
 qi:MeIn K cM "do_piece" "Machine.do_piece" Zr
 qM:MeIn K cM "turn" "Machine.turn" Y1
 qt:MeIn K cM "result" "Machine.result" vX
 qA:MeIn K cM "begin" "Machine.begin" Zq
 qay:DfIn K "by_name" sBy
 q5:DfIn K "begun_with" YW
 q6:DfIn K "_law_alike" vZ
 qN:DfIn K "_law_cell_at" wm
 qW:DfIn K "_law_number" wS
 q7:DfIn K "_law_words" v5
 qaz:DfIn K "_law_op" Jg
 qak:DfIn K "_law_name" Zu
 q8:DfIn K "_law_piece" v4
 qX:DfIn K "_law_behind" wT
 qB:DfIn K "_law_straight" xM
 qal:DfIn K "_law_seen" Zv
 q9:DfIn K "_law_ended" v6
 qa3:DfIn K "law" sLaw
 qa4:uF K mainGlobals "len"=some none
 qaO:uF K mainGlobals "range"=some none
 qaa:uF K mainGlobals "isinstance"=some none
 qa5:uF K mainGlobals "int"=some none
 qaZ:uF K mainGlobals "bool"=some none
 qat:uF K mainGlobals "reversed"=some none
 qa0:uF K mainGlobals "list"=some none
 qa6:uF K mainGlobals "str"=some none
 qaP:uF K mainGlobals "tuple"=some none
 qa1:uF K mainGlobals "dict"=some none
 qa7:uF K mainGlobals "zip"=some none
 qaE:uF K mainGlobals "sorted"=some none
 qam:uF K mainGlobals "enumerate"=some none
 qa8:uF K mainGlobals "all"=some none
 qa9:uF K mainGlobals "abs"=some none
 qan:∃t,uF K mainGlobals "MOST_TOLD"=some (some (.int 100 t))
theorem top_ok{l:PySem.W.OpenLaw}{K:ua}{cM R D nv fA:Addr}(T:TopK K cB cF cR cH cS cM R D nv cU fA)(X:K.In h)(G:h.Ns mainGlobals mg)(hfa:mg "law"=some (.ref fa)):
  ∃fd:FuncData,(∀(s:Shared)(u:Value),BindsTo s fd ⟨[u],[]⟩ [("_law_script",u)])/\∀base:Heap,K.In base->base.Ns mainGlobals mg->BMn mg base->FnOk l.prog w K mg base CX0 10 fa fd ["_law_script"] (wI K [636,706,699]):=by
 refine Ql T.qa3 X G hfa (fun _ _ _ _ _ _ s v=>.of_eq rfl) fun base fd hBM FL=>?_;have qa4:mg "len"=none:=uY X G T.qa4;have qaO:mg "range"=none:=uY X G T.qaO;have qaa:mg "isinstance"=none:=uY X G T.qaa;have qa5:mg "int"=none:=uY X G T.qa5;have qaZ:mg "bool"=none:=uY X G T.qaZ;have qat:mg "reversed"=none:=uY X G T.qat;have qa0:mg "list"=none:=uY X G T.qa0;have qa6:mg "str"=none:=uY X G T.qa6;have qaP:mg "tuple"=none:=uY X G T.qaP;have qa1:mg "dict"=none:=uY X G T.qa1;have qa7:mg "zip"=none:=uY X G T.qa7;have qaE:mg "sorted"=none:=uY X G T.qaE;have qam:mg "enumerate"=none:=uY X G T.qam;have qa8:mg "all"=none:=uY X G T.qa8;have qa9:mg "abs"=none:=uY X G T.qa9;have n_Begun:mg "Begun"=some (.ref cB):=Uk X G T.qaF.n;have n_Frame:mg "Frame"=some (.ref cF):=Uk X G T.qaG.n;have n_Rising:mg "Rising"=some (.ref cR):=Uk X G T.qaA.n;have n_Heap:mg "Heap"=some (.ref cH):=Uk X G T.qaQ.n;have n_SlowHeap:mg "SlowHeap"=some (.ref cS):=Uk X G T.qao.n;have n_Machine:mg "Machine"=some (.ref cM):=Uk X G T.qau.n;obtain⟨t_MOST_TOLD,h_MOST_TOLD⟩:=T.qan;have m_MOST_TOLD:=Uk X G h_MOST_TOLD;have qav:=Uk X G T.qav;have qaR:=Uk X G T.qaR;have qaH:=Uk X G T.qaH;have q2:=Uk X G T.q2;obtain⟨t_ANSWER,h_ANSWER⟩:=T.qaB;have m_ANSWER:=Uk X G h_ANSWER;have xV:XCl0 K nv:=⟨T.qba,T.qbb⟩;have B:XBase K R:=⟨T.qbc,T.qbd,T.qbe⟩;obtain⟨fxf,axf,xinf,xtyf⟩:=T.qbm;have Mf:XCl K fA fxf:=⟨xinf,xtyf,T.qbo,T.qaX,T.qbl,T.qa2,T.qbp,T.qbq,T.qbr⟩;have GXf:Xa l.prog w K mg base 1 "Fault" fA ["self","word"] (K31.spFault fA):=by
  obtain⟨f,a,n,g⟩:=T.qaU;obtain⟨fd,F,kp⟩:=g.fn;have e:f=fxf:=by
   rw[axf]at a;injection a with a
   injection a with a
   injection a with a
   exact a.symm
  subst e;exact⟨f,fd,Mf,K31.ok_fault F T.qaV Mf B q2,F.binds (ps:=["self","word"]) fun _ _ _ _ _ _=>us2 fun _ _=>rfl,qaH⟩
 have FT:Ft K mg fA:=⟨qaH,⟨fxf,Mf⟩,T.qaW,T.qbn,T.k_x⟩;obtain⟨A,rfl,rfl,rfl,rfl,rfl⟩:∃A:Mc,A.cM=cM/\A.cF=cF/\A.cH=cH/\A.cS=cS/\A.cR=cR:=⟨⟨cM,cF,cH,cS,cR⟩,rfl,rfl,rfl,rfl,rfl⟩;have NM:MN K A.cM:=⟨T.qau.cls,T.qF,T.qG,T.qy,T.qH,T.qj,T.qI,T.qq,T.qP⟩;have NF:FrN K A.cF:=⟨T.qaG.cls,T.qY,T.qO,T.qZ,T.q0,T.qE⟩;have NH:HcN K A.cH:=⟨T.qaQ.cls,T.qab,T.q1,T.qac,T.qad,T.qn,T.qg⟩;have NS:HcN K A.cS:=⟨T.qao.cls,T.qv,T.qo,T.qw,T.qx,T.qd,T.qc⟩;have NS2:ScN K A.cS:=⟨T.qh,T.qp⟩;have NR:RcN K A.cR:=⟨T.qaA.cls,T.qm⟩;have BN:Bn K cB:=⟨T.qaF.cls,T.qC,T.qD,T.qu⟩;have TT:BtA mg:=⟨qaa,qa0,qaP,qa4,qa6,qa5,qaZ,qa8,qa7⟩;have G1:=DfIn.ca (P:=l.prog) (w:=w) (base:=base) X G T.qap (ps:=["thing"]) (fun _ _ _ _ _ _=>us1 fun _=>rfl) fun f fd F=>ok_whole F qaa qa5 qaZ;have G1B:=DfIn.ca (P:=l.prog) (w:=w) (base:=base) X G T.qap (ps:=["thing"]) (fun _ _ _ _ _ _=>us1 fun _=>rfl) fun f fd F=>WD F qaa qa5 qaZ;have G1C:=DfIn.ca (P:=l.prog) (w:=w) (base:=base) X G T.qap (ps:=["thing"]) (fun _ _ _ _ _ _=>us1 fun _=>rfl) fun f fd F=>K31.ok_whole F qaa qa5 qaZ;have G4:=DfIn.ca (P:=l.prog) (w:=w) (base:=base) X G T.qaL (ps:=["kinds"]) (fun _ _ _ _ _ _=>us1 fun _=>rfl) fun f fd F=>Jn F;have G5:=DfIn.ca (P:=l.prog) (w:=w) (base:=base) X G T.qaf (ps:=["number"]) (fun _ _ _ _ _ _=>us1 fun _=>rfl) fun f fd F=>ok_in F;have G5B:=DfIn.ca (P:=l.prog) (w:=w) (base:=base) X G T.qaf (ps:=["number"]) (fun _ _ _ _ _ _=>us1 fun _=>rfl) fun f fd F=>K31.ok_in F;have G6:=DfIn.ca (P:=l.prog) (w:=w) (base:=base) X G T.qaM (ps:=["tag","known_sizes","values"]) (fun _ _ _ _ _ _=>us3 fun _ _ _=>rfl) fun f fd F=>Jo F qav xV qa4 qaO qaP;have G7:=DfIn.ca X G T.qaN (ps:=["kinds","parts"]) (fun _ _ _ _ _ _=>us2 fun _ _=>rfl) fun f fd F=>Jp F qav xV qa4 qaa qa0 qa6 qat G4 G6 G1B G5;have G7N:=G7.dn (sp':=spGrowN) fun vs H Q E h=>JI h;have R1:=DfIn.ca (P:=l.prog) (w:=w) (base:=base) X G T.qag (ps:=["word","a","b"]) (fun _ _ _ _ _ _=>us3 fun _ _ _=>rfl) fun f fd F=>K31.ok_res F;have R2:=DfIn.ca X G T.qaq (ps:=["word","a","b"]) (fun _ _ _ _ _ _=>us3 fun _ _ _=>rfl) fun f fd F=>K31.ok_reck F GXf G1C R1 G5B;have GB:=T.qr.ma (P:=l.prog) (w:=w) (mg:=mg) (base:=base) (x:="Begun") (ps:=["self","within","finish"]) (fun _ _ _ _ _ _=>us3 fun _ _ _=>rfl) T.qaF.mks T.qaF.kp n_Begun fun f fd F=>Jr F BN;have GO:=DfIn.ca (P:=l.prog) (w:=w) (base:=base) X G T.qar (ps:=["results"]) (fun _ _ _ _ _ _=>us1 fun _=>rfl) fun f fd F=>zaz F;obtain⟨fo,fdo,GO1,GO2,GO3,GO4⟩:=GO.ex;have GW3:=DfIn.ca (P:=l.prog) (w:=w) (base:=base) X G T.q3 (ps:=["task","begin"]) (fun _ _ _ _ _ _=>us2 fun _ _=>rfl) fun f fd F=>WF (k:=3) F BN GB GO1 GO2 GO3 GO4 qa4 (by decide);have GFr:=T.qs.ma (P:=l.prog) (w:=w) (mg:=mg) (base:=base) (x:="Frame") (ps:=["self","body","wants"]) (fun _ _ _ _ _ _=>us3 fun _ _ _=>rfl) T.qaG.mks T.qaG.kp n_Frame fun f fd F=>WG F NF;have GCa:=DfIn.ca (P:=l.prog) (w:=w) (base:=base) X G T.qJ (ps:=["one","values"]) (fun _ _ _ _ _ _=>us2 fun _ _=>rfl) fun f fd F=>WI F NF GFr qa7;have GFf:=DfIn.ca (P:=l.prog) (w:=w) (base:=base) X G T.qR (ps:=["one","values","wants"]) (fun _ _ _ _ _ _=>us3 fun _ _ _=>rfl) fun f fd F=>Y3 F NF GFr qa7 qat;have GLk:=DfIn.ca (P:=l.prog) (w:=w) (base:=base) X G T.qah (ps:=["frame","name"]) (fun _ _ _ _ _ _=>us2 fun _ _=>rfl) fun f fd F=>WJ F NF;have GUs:=DfIn.ca (P:=l.prog) (w:=w) (base:=base) X G T.qaY (ps:=["frame","name"]) (fun _ _ _ _ _ _=>us2 fun _ _=>rfl) fun f fd F=>zaD F NF;have GUv:=DfIn.ca X G T.qS (ps:=["frame","names","ends"]) (fun _ _ _ _ _ _=>us3 fun _ _ _=>rfl) fun f fd F=>Jw F GLk qa7;have GNo:=DfIn.ca (P:=l.prog) (w:=w) (base:=base) X G T.qas (ps:=["deed"]) (fun _ _ _ _ _ _=>us1 fun _=>rfl) fun f fd F=>WL F;have GUu:=DfIn.ca X G T.qax (ps:=["deed","owns"]) (fun _ _ _ _ _ _=>us2 fun _ _=>rfl) fun f fd F=>Y4 F GNo qaP;have GRi:=T.qk.ma (P:=l.prog) (w:=w) (mg:=mg) (base:=base) (x:="Rising") (ps:=["self"]) (fun _ _ _ _ _ _=>us1 fun _=>rfl) T.qaA.mks T.qaA.kp n_Rising fun f fd F=>zaE F NR;have GHi:=T.qz.ma (P:=l.prog) (w:=w) (mg:=mg) (base:=base) (x:="Heap") (ps:=["self","size"]) (fun _ _ _ _ _ _=>us2 fun _ _=>rfl) T.qaQ.mks T.qaQ.kp n_Heap fun f fd F=>jK F NH T.qbi GRi;have OH:Oa l.prog w K mg base CX0 3 "Heap" A.cH "__init__" ["self","size"] (spHInit0 A.cR A.cS):=by
  obtain⟨f,a,n,g⟩:=T.qz;obtain⟨fd,F,kp⟩:=g.fn;obtain⟨f',a',b'⟩:=T.qbh;have e:f=f':=by
   rw[a']at a;injection a with a
   injection a with a
   injection a with a
   exact a.symm
  subst e;exact⟨f,fd,⟨T.qbf,T.qbg,b',kp⟩,jK F NS T.qbj GRi,F.binds (ps:=["self","size"]) (fun _ _ _ _ _ _=>us2 fun _ _=>rfl),n_Heap⟩
 have GSi:=T.qe.ma (P:=l.prog) (w:=w) (mg:=mg) (base:=base) (x:="SlowHeap") (ps:=["self","size"]) (fun _ _ _ _ _ _=>us2 fun _ _=>rfl) T.qao.mks T.qao.kp n_SlowHeap fun f fd F=>WM F NS NS2 OH;have GIb:=DfIn.ca (P:=l.prog) (w:=w) (base:=base) X G T.qaD (ps:=["value"]) (fun _ _ _ _ _ _=>us1 fun _=>rfl) fun f fd F=>WN F qaa qaP;have HH:=T.qai.me (P:=l.prog) (w:=w) (mg:=mg) (base:=base) (ps:=["self","value"]) (fun _ _ _ _ _ _=>us2 fun _ _=>rfl) fun f fd F=>Ye F GIb;have HS:=T.qaS.me (P:=l.prog) (w:=w) (mg:=mg) (base:=base) (ps:=["self","value"]) (fun _ _ _ _ _ _=>us2 fun _ _=>rfl) fun f fd F=>Ye F GIb;have LH:=T.qT.me (P:=l.prog) (w:=w) (mg:=mg) (base:=base) (ps:=["self","value"]) (fun _ _ _ _ _ _=>us2 fun _ _=>rfl) fun f fd F=>jL F GIb;have LS:=T.qaC.me (P:=l.prog) (w:=w) (mg:=mg) (base:=base) (ps:=["self","value"]) (fun _ _ _ _ _ _=>us2 fun _ _=>rfl) fun f fd F=>jL F GIb;have FH:=T.qf.me (P:=l.prog) (w:=w) (mg:=mg) (base:=base) (ps:=["self"]) (fun _ _ _ _ _ _=>us1 fun _=>rfl) fun f fd F=>WP (cH:=A.cH) (cS:=A.cS) (cR:=A.cR) F;have FS:=T.qb.me (P:=l.prog) (w:=w) (mg:=mg) (base:=base) (ps:=["self"]) (fun _ _ _ _ _ _=>us1 fun _=>rfl) fun f fd F=>WR (cH:=A.cH) (cS:=A.cS) (cR:=A.cR) F NS NS2 T.qbk qa4;have WH:=T.qaj.me (P:=l.prog) (w:=w) (mg:=mg) (base:=base) (ps:=["self","many"]) (fun _ _ _ _ _ _=>us2 fun _ _=>rfl) fun f fd F=>Yf (cH:=A.cH) (cS:=A.cS) (cR:=A.cR) F NH.cl zbH FH fun h q=>⟨_,_,rfl,h,q⟩;have WS:=T.qaT.me (P:=l.prog) (w:=w) (mg:=mg) (base:=base) (ps:=["self","many"]) (fun _ _ _ _ _ _=>us2 fun _ _=>rfl) fun f fd F=>Yf (cH:=A.cH) (cS:=A.cS) (cR:=A.cR) F NS.cl zbH FS fun h q=>⟨_,rfl,h,q⟩;have BH:=T.q4.me (P:=l.prog) (w:=w) (mg:=mg) (base:=base) (ps:=["self"]) (fun _ _ _ _ _ _=>us1 fun _=>rfl) fun f fd F=>jN (cH:=A.cH) (cS:=A.cS) (cR:=A.cR) F NH qaE;have BS:=T.qaK.me (P:=l.prog) (w:=w) (mg:=mg) (base:=base) (ps:=["self"]) (fun _ _ _ _ _ _=>us1 fun _=>rfl) fun f fd F=>jN (cH:=A.cH) (cS:=A.cS) (cR:=A.cR) F NS qaE;have KH:=T.qK.me (P:=l.prog) (w:=w) (mg:=mg) (base:=base) (ps:=["self"]) (fun _ _ _ _ _ _=>us1 fun _=>rfl) fun f fd F=>Yj (cH:=A.cH) (cS:=A.cS) (cR:=A.cR) F NH NR qa0;have KS:=T.qaw.me (P:=l.prog) (w:=w) (mg:=mg) (base:=base) (ps:=["self"]) (fun _ _ _ _ _ _=>us1 fun _=>rfl) fun f fd F=>Yj (cH:=A.cH) (cS:=A.cS) (cR:=A.cR) F NS NR qa0;have GFp:=DfIn.ca X G T.qU (ps:=["value","most","shape_of"]) (fun _ _ _ _ _ _=>us3 fun _ _ _=>rfl) fun f fd F=>WV F G1 qa4;have GTe:=T.qaI.me (P:=l.prog) (w:=w) (mg:=mg) (base:=base) (CX:=CX0) (ps:=["self","value"]) (fun _ _ _ _ _=>us2 fun _ _=>rfl) fun f fd F=>JD (A:=A) F hBM T.hcC NM NH.cl NS.cl NH NS m_MOST_TOLD GFp LH LS WH WS;have GCh:=T.qa.me (P:=l.prog) (w:=w) (mg:=mg) (base:=base) (ps:=["self","frame","body"]) (fun _ _ _ _ _ _=>us3 fun _ _ _=>rfl) fun f fd F=>WW F NM NF NH.cl NS.cl GLk GUs HH HS LH LS;have GOu:=T.ql.me (P:=l.prog) (w:=w) (mg:=mg) (base:=base) (ps:=["self","frame","deed","values"]) (fun _ _ _ _ _ _=>us4 fun _ _ _ _=>rfl) fun f fd F=>zaL (A:=A) F R2;have GLt:=T.qV.me (P:=l.prog) (w:=w) (mg:=mg) (base:=base) (ps:=["self","frame","body"]) (fun _ _ _ _ _ _=>us3 fun _ _ _=>rfl) fun f fd F=>zaM F NM NF GNo GUu GUv GOu;have GGi:=T.qL.me (P:=l.prog) (w:=w) (mg:=mg) (base:=base) (ps:=["self","frame","name"]) (fun _ _ _ _ _ _=>us3 fun _ _ _=>rfl) fun f fd F=>JE F NM NF GUs GTe qa4;have GPi:=T.qi.me (P:=l.prog) (w:=w) (mg:=mg) (base:=base) (ps:=["self","frame"]) (fun _ _ _ _ _ _=>us2 fun _ _=>rfl) fun f fd F=>JF F NM NF GGi GLt GCh;have GTu:=T.qM.me (P:=l.prog) (w:=w) (mg:=mg) (base:=base) (ps:=["self"]) (fun _ _ _ _ _ _=>us1 fun _=>rfl) fun f fd F=>zaN F NM NH.cl NS.cl FT qaR WH WS GPi;have GRe:=T.qt.me (P:=l.prog) (w:=w) (mg:=mg) (base:=base) (ps:=["self"]) (fun _ _ _ _ _ _=>us1 fun _=>rfl) fun f fd F=>WX F NM GTu qa0;have GBb:=DcIn.ca (P:=l.prog) (w:=w) (base:=base) X G T.qae (ps:=["heap","value"]) (fun _ _ _ _ _=>us2 fun _ _=>rfl) fun f fd F=>Y5 F hBM T.hcB G1;have GBv:=DcIn.ca (P:=l.prog) (w:=w) (base:=base) X G T.qQ (ps:=["heap","value"]) (fun _ _ _ _ _=>us2 fun _ _=>rfl) fun f fd F=>WU F hBM T.hcA (by decide) GBb GW3;have GBg:=T.qA.me (P:=l.prog) (w:=w) (mg:=mg) (base:=base) (ps:=["self","one","values"]) (fun _ _ _ _ _ _=>us3 fun _ _ _=>rfl) fun f fd F=>zaO (A:=A) F NM qaR m_ANSWER ⟨_,rfl⟩ GBv GFf GCa;have GBy:=DfIn.ca (P:=l.prog) (w:=w) (base:=base) X G T.qay (ps:=["defs"]) (fun _ _ _ _ _ _=>us1 fun _=>rfl) fun f fd F=>zcX F;have GBw:=DfIn.ca (P:=l.prog) (w:=w) (base:=base) X G T.q5 (ps:=["kinds","defs","name","args"]) (fun _ _ _ _ _ _=>us4 fun _ _ _ _=>rfl) fun f fd F=>WY F G7N qa4;have GMi:=T.qaJ.ma (P:=l.prog) (w:=w) (mg:=mg) (base:=base) (x:="Machine") (ps:=["self","code","name","args","steps","size","stretch"]) (fun kV doc pm an cdv ct=>Qm T.dt kV doc pm an cdv ct) T.qau.mks T.qau.kp n_Machine fun f fd F=>JK F NM GBy GBw GHi GSi GBg;have GA:∀n,Ca l.prog w K mg base CX0 n "_law_alike" ["_law_found","_law_due"] (xW n):=fun n=>by
  induction n with
  |zero=>exact DfIn.ca (P:=l.prog) (w:=w) (base:=base) X G T.q6 (ps:=["_law_found","_law_due"]) (fun _ _ _ _ _ _=>us2 fun _ _=>rfl) fun f fd F=>⟨fun _ _ _ _ ⟨_,_,_,h,_⟩=>h.elim,fun _ _ _ _ _ _ _ _ _ _ _ _ _ ⟨_,_,_,h,_⟩=>h.elim⟩
  |succ n ih=>exact DfIn.ca (P:=l.prog) (w:=w) (base:=base) X G T.q6 (ps:=["_law_found","_law_due"]) (fun _ _ _ _ _ _=>us2 fun _ _=>rfl) fun f fd F=>JW F TT ih
 have LC:=DfIn.ca (P:=l.prog) (w:=w) (base:=base) X G T.qN (ps:=["_law_script","_law_k"]) (fun _ _ _ _ _ _=>us2 fun _ _=>rfl) fun f fd F=>JZ F qa4;have LNu:=DfIn.ca (P:=l.prog) (w:=w) (base:=base) X G T.qW (ps:=["_law_cell"]) (fun _ _ _ _ _ _=>us1 fun _=>rfl) fun f fd F=>zaY F;have LW:=DfIn.ca (P:=l.prog) (w:=w) (base:=base) X G T.q7 (ps:=["_law_state"]) (fun _ _ _ _ _ _=>us1 fun _=>rfl) fun f fd F=>zc0 F;have LO:=DfIn.ca (P:=l.prog) (w:=w) (base:=base) X G T.qaz (ps:=["_law_word","_law_a","_law_b"]) (fun _ _ _ _ _ _=>us3 fun _ _ _=>rfl) fun f fd F=>zc1 F qa5 qa9;have LNa:=DfIn.ca X G T.qak (ps:=["_law_script","_law_k"]) (fun _ _ _ _ _ _=>us2 fun _ _=>rfl) fun f fd F=>J2 F LC qaO;have LPi:=DfIn.ca X G T.q8 (ps:=["_law_hands","_law_lent","_law_name_here","_law_cell"]) (fun _ _ _ _ _ _=>us4 fun _ _ _ _=>rfl) fun f fd F=>W6 F LNu qa4 qa0;have LBe:=DfIn.ca X G T.qX (ps:=["_law_hands","_law_lent","_law_piece_here"]) (fun _ _ _ _ _ _=>us3 fun _ _ _=>rfl) fun f fd F=>Xb F LO qa1;have LSt:=DfIn.ca X G T.qB (ps:=["_law_script","_law_hands","_law_lent","_law_start"]) (fun _ _ _ _ _ _=>us4 fun _ _ _ _=>rfl) fun f fd F=>Yo F LPi LNa LBe LW qam qa0;have LSe:=DfIn.ca (P:=l.prog) (w:=w) (base:=base) X G T.qal (ps:=["_law_machine","_law_body","_law_hands","_law_lent"]) (fun _ _ _ _ _ _=>us4 fun _ _ _ _=>rfl) fun f fd F=>za5 F NM NF TT;have LEn:=DfIn.ca (P:=l.prog) (w:=w) (base:=base) X G T.q9 (ps:=["_law_machine","_law_due"]) (fun _ _ _ _ _ _=>us2 fun _ _=>rfl) fun f fd F=>JX F NM NH NS (GA 3) GTu GRe BH BS KH KS;exact zda (A:=A) (TA:=699) (TB:=706) (TC:=636) FL NM (by decide) (by decide) qaO qa0 qaP qa4 qat LC LNa LNu LSt LW LEn LSe (GA 3) GTu GRe GMi
end GN
namespace PySem.W.Fast
def tw9835927739132674922:=()
def tw11400113596132869622:=()
def tw6716733092599003045:=()
def tw5164273026064287261:=()
def tw16571958870466739111:=()
def tw18428815316405962341:=()
def tw12170761670223848127:=()
def tw810759813340444630:=()
def tw6339327019614114779:=()
def tw1196041898276116130:=()
def tw10465730642130011349:=()
def tw16820153722107903948:=()
def tw9806705859194342840:=()
def tw167260381255784138:=()
def tw14385610847316176970:=()
def tw9520376961909568264:=()
def tw12952234039431441589:=()
def tw16828110029806059304:=()
def tw6460913504598134909:=()
def tw11628043854220692074:=()
def tw12768110264201450052:=()
def tw18181914729883462192:=()
def tw2691806651357063692:=()
def tw663665204016321674:=()
def tw8952423750872662169:=()
def tw11467601747765144290:=()
def tw17689638995021524268:=()
def tw15612826127512126542:=()
def tw18045852644715404129:=()
def tw1453126562847784478:=()
def tw3525100001588552181:=()
def tw140618201203684733:=()
def tw17701147278514820199:=()
def tw7080309863732006251:=()
def tw1861282651317218029:=()
def tw3483980854761114375:=()
def tw15840114381575427075:=()
def tw8415024355699086174:=()
def tw13639882797137999884:=()
def tw6371757790233153271:=()
def tw9376266667962699307:=()
def tw14443244734653059954:=()
def tw11528696435409193463:=()
def tw17818287696467404673:=()
def tw18254593147785506433:=()
def tw13540637779029438946:=()
def tw6704760906002744151:=()
def tw4070667995578476430:=()
def tw8237264063789912146:=()
def tw5245027928513376993:=()
def tw5146653655225328575:=()
def tw6020878941942226019:=()
def tw1990553606305522059:=()
def tw16626314778556461975:=()
def tw9428078756040638862:=()
def tw14860868433838013324:=()
def tw10411685960008196278:=()
def tw13612578034805859322:=()
def tw14943242514808733366:=()
def tw2949951040286347792:=()
def tw2308575766889098246:=()
def tw6243701243961701357:=()
def tw15245568990523120797:=()
def tw16516861256970613282:=()
def tw17265495614291046984:=()
def tw7817602898467284499:=()
def tw15114326949615775130:=()
def tw13085101445139208000:=()
def tw9530046171876457547:=()
def tw11708763209966989288:=()
def tw6623176615025844417:=()
def tw1081678046407072011:=()
def tw10467836755903992269:=()
def tw1421669216016967746:=()
def tw17474475934140515771:=()
def tw14362716275753856614:=()
def tw11581407875130550268:=()
def tw13661701781319881817:=()
def tw12081583200575842849:=()
def tw10511076765438612709:=()
def tw17437448225483558784:=()
def tw3714606034095932782:=()
def tw12600217332691560987:=()
def tw12669752566530318175:=()
def tw12493454784140675092:=()
def tw1930982499348976503:=()
def tw422232129769657334:=()
def tw1061330118668697221:=()
def tw9003451804943631223:=()
def tw4060539882097763832:=()
def tw11945078845180474628:=()
def tw12295833601050886082:=()
def tw5115482270562863973:=()
def tw17716215101344917387:=()
def tw14461819739550932289:=()
def tw6876077812915422825:=()
def tw16175997154535914786:=()
def tw1726785584279233202:=()
def tw9476155755360763837:=()
def tw10677362482324081142:=()
def tw11811036963901674693:=()
def tw686547516689665281:=()
def tw621256833155287517:=()
def tw2251683633662720220:=()
def tw11188018594901556043:=()
def tw5754431927744073001:=()
def tw17945740212869216178:=()
def tw1318606959318876710:=()
def tw2466440311963368184:=()
def tw18077463199967138845:=()
def tw9970429743982944888:=()
def tw17067921463490883481:=()
def tw17183789833958529334:=()
def tw12217444665757841644:=()
def tw1991008018285670726:=()
def tw4626744723180065083:=()
def tw11869368829618967765:=()
def tw2379517927836662373:=()
def tw9079051450249819065:=()
def tw18037072335820825462:=()
def tw3711677147148463148:=()
def tw14989685719809413879:=()
def tw6387077254377004345:=()
def tw9868453210823238445:=()
def tw5997271370138413800:=()
def tw11786672853130440924:=()
def tw12117602278876124301:=()
def tw14847453646707259999:=()
def tw10151637411059883395:=()
def tw13994285570389397374:=()
def tw1695900659817317670:=()
def tw16190363870916322256:=()
def tw4675675067769338271:=()
def tw5596884749085447813:=()
def tw581771802923205174:=()
def tw6925522737147032726:=()
def tw3250176603790586865:=()
def tw7147605321380702826:=()
def tw1496477547993084410:=()
def tw18015504928566986386:=()
def tw4317581995554417931:=()
def tw8865505156714814729:=()
def tw2761761259558052743:=()
def tw5541775094483676815:=()
def tw7241182165154121582:=()
def tw6874481180882515410:=()
def tw1346670703349599948:=()
def tw725203861245509607:=()
def tw17831521086337429702:=()
def tw12143513522975517888:=()
def tw16657120527769623700:=()
def tw14613960434522859998:=()
def tw18345401490770451362:=()
def tw1319473649399262444:=()
def tw13772759879264371313:=()
def tw16762186242962071787:=()
def tw10040034014584688676:=()
def tw2117788880785669747:=()
def tw6977718220900491462:=()
def tw412671802096208646:=()
def tw10962852935784060749:=()
def tw9906900147057243669:=()
def tw5088635466075209786:=()
def tw15849473159593609401:=()
def tw16537931063202987693:=()
def tw4547000993879827986:=()
def tw15232602780246102445:=()
def tw5945998100646451385:=()
def tw1389094869578217858:=()
def tw11336109769221214026:=()
def tw12137039215211330745:=()
def tw5210797703885383644:=()
def tw138007282475412860:=()
def tw14772476149012654035:=()
def tw1650331121116454866:=()
def tw18214002259551518168:=()
def tw10005946761575554407:=()
def tw13884007531273631728:=()
def tw4619976928571782388:=()
def tw6551155704477724811:=()
def tw6836896084477883901:=()
def tw6117568000937178582:=()
def tw237938297707999939:=()
def tw14313924212271874270:=()
def tw18303962225175774950:=()
def tw12916157961480347516:=()
def tw4218588545497763026:=()
def tw8493910848012156488:=()
def tw4925860538044488039:=()
def tw784448871208671870:=()
def tw16605862653747494499:=()
def tw1197119518344229122:=()
def tw18278388155460183768:=()
def tw4711613884261270888:=()
def tw14835779167216374723:=()
def tw7621893734049259149:=()
def tw7791724923029839519:=()
def tw16215177892447825739:=()
def tw8953823054769518055:=()
def tw11570618830761081666:=()
def tw4092152382853668038:=()
def tw14828240508120134027:=()
def tw7328670257280467218:=()
def tw12864480396222095701:=()
def tw12646161397958761700:=()
def tw1500791026917712452:=()
def tw5149889863294764562:=()
def tw15343222624313691636:=()
def tw15344390077257231516:=()
def tw2960312180802199667:=()
def tw13489781500191593670:=()
def tw2190527902290057920:=()
def tw1620882953629193178:=()
def tw1980832758651199537:=()
def tw10944285125229137154:=()
def tw13975578172411490829:=()
def tw3344043914536600616:=()
def tw9447488694858665173:=()
def tw3139402776653632663:=()
def tw6606515502139640816:=()
def tw6553860978746408341:=()
def tw13634974492062871265:=()
def tw8298191152212438897:=()
def tw5085055002064014505:=()
def tw10757192524573255938:=()
def tw539951110072442129:=()
def tw6982123460800190493:=()
def tw8142199516799987053:=()
def tw509284718075199621:=()
def tw17320887301211606399:=()
def tw9480155150306470568:=()
def tw7481716042405481819:=()
def tw13408982143404969067:=()
def tw1577864285631600436:=()
def tw4384132313697347971:=()
def tw2975972214187450463:=()
def tw14464048747268958658:=()
def tw13860241010183336763:=()
def tw5438115577313313252:=()
def tw1698688306976549043:=()
def tw16913509482911596905:=()
def tw4397242653274937485:=()
def tw12687444343622405159:=()
def tw17475826489498076928:=()
def tw6737847178757689092:=()
def tw5206059101254181114:=()
def tw18370648042273922482:=()
def tw9335102519366638915:=()
def tw17386961365026270578:=()
def tw13303912174020278428:=()
def tw16586276947359260457:=()
def tw5832726865276579074:=()
def tw9510476413695364024:=()
def tw16068209414545929262:=()
def tw10331799609567564922:=()
def tw1100500357848044489:=()
def tw2497163167713387327:=()
def tw12090795532957716084:=()
def tw15069518343239955191:=()
def tw14467651941885844967:=()
def tw5430369576505282512:=()
def tw5075812260446460874:=()
def tw7346086780189603537:=()
def tw8543084298653040544:=()
def tw6981531183968647749:=()
def tw4245005500336710243:=()
def tw14006694090990151385:=()
def tw6177111363086846695:=()
def tw11073129230042077624:=()
def tw12591549534265442868:=()
def tw18439821202077790850:=()
def tw4735224295914359324:=()
def tw10603382845274358412:=()
def tw6707095572593801260:=()
def tw8554500217839665686:=()
def tw11039632947294794496:=()
def tw3363644707805923200:=()
def tw3873959538833234217:=()
def tw16910635758892256698:=()
def tw14563318624927312697:=()
def tw12897509624272317990:=()
def tw3508973180398877149:=()
def tw18199572893640020892:=()
def tw17136295513266971191:=()
def tw16650877324532770363:=()
def tw4124126198374630989:=()
def tw10613178749005399605:=()
def tw3507196846979671704:=()
def tw4065387020988141117:=()
def tw16868528471180769722:=()
def tw16304696572368061977:=()
def tw4283419812887711083:=()
def tw17063228460601549894:=()
def tw11022357412094655510:=()
def tw3650888983355505262:=()
def tw16976479522417854827:=()
def tw12415555897736626964:=()
def tw5166032382862040999:=()
def tw8001062090113587332:=()
def tw5407832960219725329:=()
def tw12611533246615655933:=()
def tw10934477499052979251:=()
def tw15146576865555057048:=()
def tw8263660845825371053:=()
def tw1008132714723959326:=()
def tw11112730616557245350:=()
def tw6334131280234344124:=()
def tw12970845662199084957:=()
def tw9817418008178755032:=()
def tw1331691583383665200:=()
def tw2189373356698119357:=()
def tw16891905646687656036:=()
def tw7119416524713005347:=()
def tw877331521155658242:=()
def tw17630503890201513508:=()
def tw12896859207840251514:=()
def tw5293488742496434981:=()
def tw5199429299465143511:=()
def tw8941629630250956878:=()
def tw3668253318579599759:=()
def tw5437468366117736964:=()
def tw16724260903867333545:=()
def tw14268332800503694390:=()
def tw2485315742177213111:=()
def tw11641417806318914643:=()
def tw1113526926385738146:=()
def tw10382719144356809316:=()
def tw3278559477301813753:=()
def tw17276314111809962125:=()
def tw7857882131578657841:=()
def tw6689145082714819250:=()
def tw11208900273512343230:=()
def tw14306486322679992117:=()
def tw682418493861433234:=()
def tw13331919426792513635:=()
def tw7325581609448682950:=()
def tw15580039185697403661:=()
def tw3922985442450648719:=()
def tw3900653535976024631:=()
def tw18202928587832026517:=()
def tw10939080213270403712:=()
def tw2625113436761429138:=()
def tw9494464213445224546:=()
def tw9351037433601880243:=()
def tw15650667176835317586:=()
def tw14926348600366475009:=()
def tw13287890696402348183:=()
def tw17020888229290705696:=()
def tw16786343082995491633:=()
def tw13547011979073650417:=()
def tw10420272854476655536:=()
def tw12894514286421988769:=()
def tw1834909716419135572:=()
def tw268897663227392890:=()
def tw968565393246675371:=()
def tw1314317202768977351:=()
def tw5239704291370369925:=()
def tw9568377449411811798:=()
def tw7285372519251215381:=()
def tw9148607456975044643:=()
def tw10709310253738095063:=()
def tw2775591683288910709:=()
def tw1905175011264071073:=()
def tw15059873738710775830:=()
def tw12700511940833011219:=()
def tw5972317309041193450:=()
def tw16881581371041612168:=()
def tw4934634564483232800:=()
def tw7780976836473104148:=()
def tw12762883787922038991:=()
def tw4568896491707210026:=()
def tw5685892024477305556:=()
def tw2887286212091316057:=()
def tw15735047835971293824:=()
def tw9013952328532174016:=()
def tw109221302426078459:=()
def tw15385189786745580283:=()
def tw15253929998103934683:=()
def tw8492561382351357064:=()
def tw9919450608100214445:=()
def tw1220530506503341435:=()
def tw5258373776739337717:=()
def tw5455542428756781431:=()
def tw10538522297527807791:=()
def tw13173858477694451796:=()
def tw12755197735410134615:=()
def tw18096320397264139627:=()
def tw10711929078820595327:=()
def tw6871737629574463826:=()
def tw17617948843031749697:=()
def tw9443532182143705373:=()
def tw15438803888532193406:=()
def tw4171390233526414039:=()
def tw13133148613332288392:=()
def tw17118427563273017111:=()
def tw16323031159084786423:=()
def tw3906707345163359778:=()
def tw4667717308819501346:=()
def tw1717658775684879428:=()
def tw3300706367664260540:=()
def tw4653605292866223446:=()
def tw15225767532324470368:=()
def tw6205418894834081902:=()
def tw13695836079766262652:=()
def tw3843404960822028150:=()
def tw16050323176764394568:=()
def tw15491141137350070041:=()
def tw16727089307214587611:=()
def tw5927270157937372901:=()
def tw16675539702187223670:=()
def tw1164052373505972220:=()
def tw6150444420875495622:=()
def tw12193072703454822685:=()
def tw10875408087430131320:=()
def tw17735787271130605523:=()
def tw7907258345233167699:=()
def tw5186031162211014252:=()
def tw8940259874879872707:=()
def tw2440946432238213217:=()
def tw16686649494131103844:=()
def tw5704771684822290214:=()
def tw14162695263246518629:=()
def tw1218491736510744799:=()
def tw17801212952847177227:=()
def tw5630498644907421507:=()
def tw5853487570006433983:=()
def tw11268043338783966465:=()
def tw434210232809513679:=()
def tw5542358234667127959:=()
def tw268356954666749989:=()
def tw4088308872021952319:=()
def tw11814707363158939189:=()
def tw12110473069330715014:=()
def tw14691964475199534529:=()
def tw2504849690331052569:=()
def tw3339656249758441352:=()
def tw8713425662707906721:=()
def tw15999560391604003249:=()
def tw11827301333506158071:=()
def tw13640953639916425593:=()
def tw1075049845801157758:=()
def tw16558951028659567161:=()
def tw13756940471294630228:=()
def tw13211415236177793205:=()
def tw1838644838215252716:=()
def tw16146611154124660710:=()
def tw3984312793446777480:=()
def tw577602789882854825:=()
def tw16984914771968393812:=()
def tw1027950025444853532:=()
def tw1805733985070685469:=()
def tw17470590061373721020:=()
def tw6947569170609068604:=()
def tw5606389025441881737:=()
def tw3022476162676899835:=()
def tw6195629344677963965:=()
def tw17163933340839060105:=()
def tw4713511886831453846:=()
def tw9997225029135863348:=()
def tw10852824599995302909:=()
def tw13911695398365099801:=()
def tw17104221907045507388:=()
def tw7339915389492584685:=()
def tw1982814431653962891:=()
def tw12211430810168864281:=()
def tw14989107045169264940:=()
def tw9761545629278617690:=()
def tw16629308468024364320:=()
def tw12281556142903238416:=()
def tw1321142287187164148:=()
def tw6767658839370764845:=()
def tw10784330597037326027:=()
def tw2606496901258208800:=()
def tw17266097215661232020:=()
def tw16847680509957501829:=()
def tw15190145712719436861:=()
def tw5218660700764411711:=()
def tw9118635404458676387:=()
def tw9872129471696585564:=()
def tw8621295438483290856:=()
def tw6957295693054676841:=()
def tw5592874536837384961:=()
def tw17982457112831751063:=()
def tw1522112087228537494:=()
def tw5642557725414821803:=()
def tw3242187753231035278:=()
def tw10979802861591052635:=()
def tw13040562828034507941:=()
def tw1779108666476345534:=()
def tw9051818859654057765:=()
def tw808598653866470464:=()
def tw2886884143719839244:=()
def tw3883094347801949385:=()
def tw3509528731121992090:=()
def tw9343439647094826116:=()
def tw4529315655498775443:=()
def tw1799827184481537546:=()
def tw14846682390738764090:=()
def tw9745392550403448449:=()
def tw17703436379390426984:=()
def tw16781681540321770563:=()
def tw12654088360890193666:=()
def tw9779067985097504523:=()
def tw9580719045841362076:=()
def tw9062160413965833650:=()
def tw14934504089799411182:=()
def tw13785844811312030867:=()
def tw3177020496939675263:=()
def tw4570598492225377335:=()
def tw17637818005637704962:=()
def tw16468399641232585534:=()
def tw11941035774365569386:=()
def tw17626272704610824758:=()
def tw13726901995636814908:=()
def tw872147918345845586:=()
def tw13201457114531726718:=()
def tw10475595528380988036:=()
def tw16963931404752435390:=()
def tw6494005787054920032:=()
def tw250792651464940947:=()
def tw16258360672772474541:=()
def tw2779870728433461481:=()
def tw7170603138045172258:=()
def tw585554222502344070:=()
def tw2771753269734128127:=()
def tw719614562720974545:=()
def tw8071590607574361185:=()
def tw11213934527017796649:=()
def tw5546745434024229072:=()
def tw17535213866669205793:=()
def tw5718316484939380170:=()
def tw10971631160217777343:=()
def tw3371348396873344897:=()
def tw11178686371766595347:=()
def tw2274933217029093613:=()
def tw12541294948595187171:=()
def tw5158556953907113364:=()
def tw17994256317027696987:=()
def tw3721020712124543918:=()
def tw6601225938931043024:=()
def tw15897378315280686587:=()
def tw1613543487726179444:=()
def tw5501537467730409672:=()
def tw4548460503027965079:=()
def tw9364069137357067210:=()
def tw1495327387101595984:=()
def tw1455488961301727212:=()
def tw12395663417726514301:=()
def tw8070676069716778131:=()
def tw3831132774088276762:=()
def tw8452327235136543941:=()
def tw9852215006320518756:=()
def tw4358267803670429188:=()
def tw18010037971186144951:=()
def tw12160032883295873428:=()
def tw10263218316791246010:=()
def tw15210662172825724221:=()
def tw8868294821373300616:=()
def tw1845004057416643247:=()
def tw8214979248354799464:=()
def tw5261924564977197545:=()
def tw17131488989959465535:=()
def tw4404811038340342323:=()
def tw10458829094021358022:=()
def tw1610608179649230288:=()
def tw7846034477420978829:=()
def tw2509364153539137911:=()
def tw9663193394158457568:=()
def tw575754761233159158:=()
def tw7326090662414933036:=()
def tw12622743762226593720:=()
def tw5468040985301470839:=()
def tw15854715669847690122:=()
def tw7933660440494522881:=()
def tw15489701406741463122:=()
def tw9844239970647781205:=()
def tw1375083268564083659:=()
def tw17402188611777297629:=()
def tw15238017015051497295:=()
def tw16781077400352682704:=()
def tw2350240886496990918:=()
def tw12322129820446030314:=()
def tw2966413707285902294:=()
def tw12786747714953413419:=()
def tw11538841012136128270:=()
def tw14561978703148185899:=()
def tw449453251464459341:=()
def tw15939957779150390382:=()
def tw8772799677014503117:=()
def tw15171366353432887762:=()
def tw7644512554547060310:=()
def tw14381534585111930639:=()
def tw10000524355242791240:=()
def tw4808976336892233762:=()
def tw4634624778236563824:=()
def tw6595407969972708687:=()
def tw16841040002430566912:=()
def tw4128907060569740029:=()
def tw16966975433515187076:=()
def tw3753268728133144951:=()
def tw8980233203106815227:=()
def tw3382502473626193539:=()
def tw17712348925765291594:=()
def tw14219963039814443427:=()
def tw7032339999361212350:=()
def tw8921030921218039971:=()
def tw5997139593197144275:=()
def tw6149668186196071106:=()
def tw3457783919155145066:=()
def tw31774097397516634:=()
def tw6286793249242627427:=()
end PySem.W.Fast
open PySem PySem.W PyProof.Rows
set_option maxRecDepth 100000 in
set_option maxHeartbeats 0 in
theorem PySem.Challenge.cw_reusewise_k80_numbers_turned_holds : PySem.Challenge.rw_reusewise_k80_numbers_turned.Holds := by
 w_on;o_law;k_head;(case hw=>w_witness2)
 k_fill
 refine L2.walkTs (l:=PySem.Challenge.rw_reusewise_k80_numbers_turned) (k:=10) (Ts:=[636,706,699]) rfl ⟨rfl,by decide,by decide⟩ rfl rfl (fun p T hT=>by
  simp only[uh,List.not_mem_nil,or_false]at hT
  rcases hT with rfl|rfl|rfl
  ·exact⟨640,rfl⟩
  ·exact⟨710,rfl⟩
  ·exact⟨703,rfl⟩
  ) (fun p T hT=>by
  simp only[uh,List.not_mem_nil,or_false]at hT
  rcases hT with rfl|rfl|rfl
  ·exact rfl
  ·exact rfl
  ·exact rfl
  ) ?F
 case F =>
  intro w mg fa h KX G hm
  refine' GN.top_ok (GN.TopK.mk ?qaF ?qC ?qD ?qu ?qaG ?qY ?qO ?qZ ?q0 ?qE ?qaA ?qm ?qaQ ?qab ?q1 ?qac ?qad ?qn ?qg ?qao ?qv ?qo ?qw ?qx ?qd ?qc ?qh ?qp ?qau ?qF ?qG ?qy ?qH ?qj ?qI ?qq ?qP ?qav ?qaR ?qaH ?qQ ?qae ?qaI ?qaJ ?dt ?hcA ?hcB ?hcC ?qaB ?q2 ?qba ?qbb ?qbc ?qbd ?qbe ?k_x ?qbf ?qbg ?qbh ?qbi ?qbj ?qbk ?qaS ?qaC ?qaT ?qaK ?qaw ?qaU ?qaV ?qaW ?qaX ?qbl ?qa2 ?qbm ?qbn ?qbo ?qbp ?qbq ?qbr ?qap ?qaL ?qaf ?qaM ?qaN ?qag ?qaq ?qr ?qar ?q3 ?qs ?qJ ?qR ?qah ?qaY ?qS ?qas ?qax ?qk ?qz ?qe ?qaD ?qai ?qT ?qf ?qb ?qaj ?q4 ?qK ?qU ?qa ?ql ?qV ?qL ?qi ?qM ?qt ?qA ?qay ?q5 ?q6 ?qN ?qW ?q7 ?qaz ?qak ?q8 ?qX ?qB ?qal ?q9 ?qa3 ?qa4 ?qaO ?qaa ?qa5 ?qaZ ?qat ?qa0 ?qa6 ?qaP ?qa1 ?qa7 ?qaE ?qam ?qa8 ?qa9 ?qan) KX G hm
  (case qaF|qaG|qaA|qaQ|qao|qau=>(refine' L2.OwnIn.mk ?n ?pg ?hd ?po ?sa ?mks ?kp;(case n=>k_is);(case pg=>k_is);(case hd=>k_is);(case po=>k_is);(case sa=>k_is);(case mks=>k_is);(case kp=>k_is)))
  (case qC|qD|qu|qY|qO|qZ|q0|qE|qm|qab|q1|qac|qad|qn|qg|qv|qo|qw|qx|qd|qc|qh|qp|qF|qG|qy|qH|qj|qI|qq|qP|qav|qaR|qaH|q2|qbb|qbc|qbd|qbe|qbf|qbg|qaV|qaW|qbl|qbn|qbo|qbp|qbq|qbr|qa4|qaO|qaa|qa5|qaZ|qat|qa0|qa6|qaP|qa1|qa7|qaE|qam|qa8|qa9=>k_is)
  (case qQ|qae=>(refine' L2.DcIn.mk ?a ?l ?c ?k;(case a=>k_is);(case l=>k_is);(case c=>k_is);(case k=>k_is)))
  (case qaI=>(refine' L2.McIn.mk ?a ?l ?cc ?k ?n;(case a=>k_is);(case l=>k_is);(case cc=>k_is);(case k=>k_is);(case n=>k_is)))
  (case qaJ=>(refine' L2.MdIn.mk ?a ?l ?c ?k ?n;(case a=>k_is);(case l=>k_is);(case c=>k_is);(case k=>k_is);(case n=>k_is)))
  (case dt=>(refine' L2.DtIn.mk ?a;(case a=>k_is)))
  (case hcA|hcB|hcC=>(exact rfl))
  (case qaB=>(refine' L2.SgIn.mk ?a ?e;(case a=>k_is);(case e=>rfl)))
  (case qba|k_x|qaX|qa2=>(first|kernel_rfl|rfl|decide +kernel))
  (case qbh=>(refine' GN.OcIn.mk ?a ?b;(case a=>k_is);(case b=>k_is)))
  (case qbi|qbj|qbk=>decide)
  (case qaS|qaC|qaT|qaK|qaw|qaU|qr|qs|qk|qz|qe|qai|qT|qf|qb|qaj|q4|qK|qa|ql|qV|qL|qi|qM|qt|qA=>(refine' L2.MeIn.mk ?a ?l ?c ?k ?n;(case a=>k_is);(case l=>k_is);(case c=>k_is);(case k=>k_is);(case n=>k_is)))
  (case qbm=>(refine' L2.XcIn.mk ?a ?b ?c;(case a=>k_is);(case b=>(first|kernel_rfl|rfl|decide +kernel));(case c=>k_is)))
  (case qap|qaL|qaf|qaM|qaN|qag|qaq|qar|q3|qJ|qR|qah|qaY|qS|qas|qax|qaD|qU|qay|q5|q6|qN|qW|q7|qaz|qak|q8|qX|qB|qal|q9|qa3=>(refine' L2.DfIn.mk ?a ?l ?c ?k;(case a=>k_is);(case l=>k_is);(case c=>k_is);(case k=>k_is)))
  (case qan=>(refine' L2.GiIn.mk ?a ?e;(case a=>k_is);(case e=>rfl)))
#print axioms PySem.Challenge.cw_reusewise_k80_numbers_turned_holds
