import PyProof.Rows.All
import Wide.All
import OpenK.AllK
import Wide.FinOn
import Lean
import PyProof.EqAt
import PyProof.EqKinds
import PyProof.TupleCall
import PyProof.PassesOwn
import PyProof.StationsW
import OpenK.KCls
import PyProof.ExcAttrAll.ValueError
import PyProof.ExcClass3
import PyProof.WalksEnum
import PyProof.EnumMake
import PyProof.EnumFor
import PyProof.EnumStmt
import PyProof.MeetsStr
import PyProof.StrLawsTight
import PyProof.NeKinds
import PyProof.Rows.SumAny
import PyProof.SeqI3
import PyProof.ZipIter
import PyProof.WalksMore
import PyProof.ListNew
import KE.KLam
import KE.KNestM
import KE.KRevIter
import PyProof.AutoSeq1
import PyProof.FactsAll.list
import KE.KIntText
import PyProof.IsRules
import KE.KItemsList
import PyProof.StrBlockL
import PyProof.StrBlockI
import PyProof.StrBlock2
import PyProof.StrLawsIn
import PyProof.StrLawsChain
import PyProof.Rows.StrLast
import PyProof.Rows.StrItems
import KE.IntTextText
import KE.KDictList
import PyProof.IsiTupleOf
import KE.KDictSum
import PyProof.Rows.SortWalk
import KE.KDictOf
import PyProof.Draws
import PyProof.DictWalks
import PyProof.AttrMissHeap
import PyProof.Walks
import PyProof.FString
import KE.KEqDict
import PyProof.MinMaxWalk
import PySem.Challenge.RW_reusewise_k61_the_same_code
abbrev VSP:=PySem.Value->PySem.Shared->Prop
set_option Elab.async false
set_option linter.all false
set_option maxRecDepth 100000
set_option maxHeartbeats 4000000
open List renaming length_map → ua, length_append → ub, getElem?_eq_some_iff → ue, getElem?_map → ug, map_append → uh, getElem?_eq_getElem → ui, length_cons → um, size_toArray → uo, mem_cons → uq, map_cons → ur, mem_of_getElem? → uv, take_of_length_le → ux, mem_map → uD, mem_singleton → uE, mem_append_right → uG, length_take → uH, take_add_one → uI, mem_append → uJ, nodup_cons → uM, mem_append_left → uP, getElem?_append_right → uR, sum_cons → uS, getElem?_append_left → uT, range → uV, length_reverse → u4, append_assoc → u7, length_eq_zero_iff → Uc, append_nil → Ue, lookup_cons → Ug, not_mem_nil → Ui, length_singleton → Uj, flatMap_cons → Uk, mem_cons_of_mem → Ul, any_cons → Uq, mem_cons_self → Us, replicate → Ut, length_replicate → Uv, find?_cons → Uy, lookup → UB, all_eq_true → UD, length_eraseIdx_of_lt → UE, getD_eq_getElem?_getD → UF, eraseIdxIfInBounds_toArray → UH, of_mem_zip → UK, nodup_append → UM, set → UO
open PySem.W renaming Frag → uc, keepIn → uL, findIn → uQ, mg_none_of → uW, fnOf → uX, nsIn → Ub, codeHdIn → Uh, kia_one → Up, emptyDict → Ur, codeIn → Uu, instObj → Ux, plainGet → UP
open Nat renaming le_refl → ud, lt_of_lt_of_le → uB, le_trans → uC, zero_le → uF, ne_of_lt → uK, mul_le_mul_right → uN, lt_succ_self → Uf, lt_irrefl → Uo, pow_le_pow_right → Uw, lt_of_le_of_lt → UJ, le_succ → UN
open PySem.Heap renaming get?_push_of_some → uf, get?_push_size → uu, lt_size → uA, size_push → Um
open Option renaming map_eq_some_iff → uj, some → u5
open PySem.F renaming plainAttrs_list → uk, slot_list_append → uy, type_list_append → uz, slot_list_pop → uY, type_list_pop → uZ, slot_list_extend → UG
open PyProof.Rows renaming boot_tuple → ut, boot_list → uO, slot_tuple_getitem → Ua, boot_isinstance → Uz, callWith_type1 → UA, boot_min → UL
open Bool renaming false_ne_true → uw, and_eq_true → UC
open PySem.Builtin.SmallTypes renaming nextOf → uU, ownedTupleIsFree → Ud
open PySem renaming mem_of_lookup → u0, sizeLine → UI
open Int renaming toNat_natCast → u6
abbrev L2.lS0:List PySem.Str:=["_law_state","_law_mine","_law_lent","_law_k","_law_room","_law_world_here"]
abbrev L2.lS1:List PySem.Str:=["_law_state","_law_many"]
abbrev L2.lS2:List PySem.Str:=["_law_body_here","_law_tokens","_law_names"]
abbrev L2.lS3:List PySem.Str:=["_law_state","_law_mine","_law_lent","_law_k","_law_room","_law_world_here","_law_one"]
abbrev L2.lS4:List PySem.Str:=["_law_state","_law_mine","_law_k","_law_tag","_law_size","_law_world_here"]
abbrev L2.lS5:List PySem.Str:=["_law_world_here","_law_k"]
abbrev L2.lS6:List PySem.Str:=["_law_state","_law_mine","_law_many"]
abbrev L2.lS7:List PySem.Str:=["_law_state","_law_mine","_law_name_here"]
abbrev L2.lS8:List PySem.Str:=["_law_body_here","_law_news"]
abbrev L2.lS9:List PySem.Str:=["_law_body_here","_law_word"]
abbrev L2.lS10:List PySem.Str:=["_law_code_here","_law_got"]
abbrev L2.lS11:List PySem.Str:=["_law_state","_law_mine","_law_lent","_law_world_here"]
abbrev L2.lS12:List PySem.Str:=["_law_state","_law_mine","_law_k","_law_world_here"]
abbrev L2.lS13:List PySem.Str:=["_law_state","_law_mine","_law_lent","_law_one"]
abbrev L2.lS14:List PySem.Str:=["_law_state","_law_world_here","_law_room"]
abbrev L2.lS15:List PySem.Str:=["token","body","results"]
abbrev L2.lS16:List PySem.Str:=["token","many","body"]
abbrev L2.lS17:List PySem.Str:=["body","within"]
abbrev L2.lS18:List PySem.Str:=["self","within","finish"]
abbrev L2.lS19:List PySem.Str:=["_law_deed_here","_law_news"]
abbrev L2.lS20:List PySem.Str:=["tokens","body"]
abbrev L2.lS21:List PySem.Str:=["task","begin"]
abbrev L2.lS22:List PySem.Str:=["body","many"]
theorem L2.sN0:0<=UI:=by decide
theorem L2.sN1:1<=UI:=by decide
theorem L2.sN2:2<=UI:=by decide
theorem L2.sN3:3<=UI:=by decide
theorem L2.sN4:4<=UI:=by decide
theorem L2.sN5:5<=UI:=by decide
theorem L2.sN6:6<=UI:=by decide
theorem L2.gM{α β:Type}{f:α->β}{l:List α}{i:Nat}{v:β}(h:(l.map f)[i]?=some v):∃z,l[i]?=some z/\f z=v:=by rw[List.getElem?_map]at h;exact Option.map_eq_some_iff.mp h
abbrev LS:=List PySem.Str
variable{us vs its its':List Value}{u v doc pm cdv ct oc vl vu:Value}{a b it c f p C dx sl T to cB td cT c1 T3 T4 T2 T1 wl fa:Addr}{h h' base:Heap}{items:Array Value}{P prog q:Program}{w:World}{x name m qual y z:Str}{e o tg iter value elt e1 e2 e3 e4 e5:Expr}{pins:List (Addr×Obj)}{s s':Shared}{g':Array GenState}{t' i j n B B':Nat}{ch fp as ts os Ts:List Addr}{N ps:LS}{M:Addr->Prop}{A:Around}{E:VSP}{Q:Unit->Shared->Prop}{pos pos' tpos apos p2 cpos py:Pos}{op:CmpOp}{st:Stmt}{es ifs elts:List Expr}{body sts:List Stmt}{lo hi:Option Int}{mA mg:Str->Option Value}{kw:List (Str×Value)}{env:Env}{fd:FuncData}{kindOf:Str->Option NameKind}{scope:Scope}{params:Arguments}{od:Option Addr}{osl:Array (Option Value)}{zs:List (Bool×Nat)}{XP:(Str->Option Value)->Heap->Prop}{S:List Nat}{D:List (Str×List Bool)}{ls:List (Pos×Str)}{nx:Nat->Nat}{ms:List Bool}{nw:List (Str×Str)}
namespace L2
open PySem PySem.Spec PyProof.Rows
variable{M:Model}{c:Expr}{g:Int->Int->Int}{p:Pos}
abbrev Key:=Sum Int Str
def vd:Key->Value->Bool
 |.inl k,v=>Value.isInt k v
 |.inr x,v=>Value.isStrOf x v
def keyH(w:World):Key->Int
 |.inl k=>hashInt k
 |.inr x=>hashStr w x
theorem zP:∀{k:Key}{v:Value},vd k v=true->(∃i t,k=Sum.inl i/\v=Value.int i t)\/(∃x t,k=Sum.inr x/\v=Value.str x t)
 |.inl i,v,h=>by
  obtain⟨t,e⟩:=Value.isInt_shape (k:=i) (v:=v) h;exact .inl ⟨i,t,rfl,e⟩
 |.inr x,v,h=>by
  obtain⟨t,e⟩:=Value.isStrOf_shape (x:=x) (v:=v) h;exact .inr ⟨x,t,rfl,e⟩
theorem Xg(i:Int)(t:Tok):vd (.inl i) (.int i t)=true:=by simp[vd,Value.isInt]
theorem Xh(x:Str)(t:Tok):vd (.inr x) (.str x t)=true:=by simp[vd,Value.isStrOf]
theorem zab(a b:Int):decide ((Sum.inl a:Key)=Sum.inl b)=(a == b):=by
 by_cases e:a=b
 ·subst e;simp
 ·have h:¬ (Sum.inl a:Key)=Sum.inl b:=fun q=>e (Sum.inl.inj q)
  rw[decide_eq_false h];exact(beq_eq_false_iff_ne.mpr e).symm
theorem zac(a b:Str):decide ((Sum.inr a:Key)=Sum.inr b)=decide (a=b):=by
 by_cases e:a=b
 ·subst e;simp
 ·have h:¬ (Sum.inr a:Key)=Sum.inr b:=fun q=>e (Sum.inr.inj q)
  rw[decide_eq_false h,decide_eq_false e]
theorem zad(a:Int)(b:Str):decide ((Sum.inl a:Key)=Sum.inr b)=false:=decide_eq_false (fun q=>nomatch q)
theorem zae(a:Str)(b:Int):decide ((Sum.inr a:Key)=Sum.inl b)=false:=decide_eq_false (fun q=>nomatch q)
def zU(prog:Program)(w:World):PySem.KeyKind prog w Key where
 is:=vd
 hash:=keyH w
 inj:=fun v a b ha hb=>by
  rcases zP ha with⟨i,t,rfl,rfl⟩|⟨x,t,rfl,rfl⟩
  ·rcases zP hb with⟨j,u,rfl,e⟩|⟨y,u,rfl,e⟩
   ·injection e with e1 _;rw[e1]
   ·exact nomatch e
  ·rcases zP hb with⟨j,u,rfl,e⟩|⟨y,u,rfl,e⟩
   ·exact nomatch e
   ·injection e with e1 _;rw[e1]
 byValue:=fun k v h=>by
  rcases zP h with⟨i,t,rfl,rfl⟩|⟨x,t,rfl,rfl⟩<;>rfl
 pyHash:=fun hv h=>by
  rcases zP hv with⟨i,t,rfl,rfl⟩|⟨x,t,rfl,rfl⟩
  ·exact wpAny_pyHash_int h
  ·exact wpAny_pyHash_str h
 eqBool:=fun hu hv h=>by
  rcases zP hu with⟨i,t,rfl,rfl⟩|⟨x,t,rfl,rfl⟩
  ·rcases zP hv with⟨j,u,rfl,rfl⟩|⟨y,u,rfl,rfl⟩
   ·rw[zab]at h;exact wpAny_eqBool_int h
   ·rw[zad]at h;exact SeqAt.EqAt.int_str i t y u _ _ _ _ h
  ·rcases zP hv with⟨j,u,rfl,rfl⟩|⟨y,u,rfl,rfl⟩
   ·rw[zae]at h;exact SeqAt.EqAt.str_int x t j u _ _ _ _ h
   ·rw[zac]at h;exact wpAny_eqBool_str h
 «strs»:=fun k x t v h=>by
  rcases zP h with⟨i,u,rfl,e⟩|⟨y,u,rfl,e⟩
  ·exact nomatch e
  ·injection e with e1 _
   subst e1;cases v<;>rfl
theorem ZP(prog:Program)(w:World)(k:Key)(v:Value):(zU prog w).is k v=vd k v:=rfl
theorem jZ(prog:Program)(w:World)(i:Int)(t:Tok):(zU prog w).is (.inl i) (.int i t)=true:=Xg i t
theorem j6(prog:Program)(w:World)(x:Str)(t:Tok):(zU prog w).is (.inr x) (.str x t)=true:=Xh x t
inductive V where
 |non|bl (b:Bool)|int (i:Int)|str (x:Str)|byt (b:Array UInt8)|flt (b:UInt64)|ref (a:Addr)|ty (n:String)
 deriving DecidableEq
variable{xs:List V}
abbrev oR(a:Addr):Option V:=some (.ref a)
def RelV:V->Value->Prop
 |.non,u=>u=Value.none
 |.bl b,u=>u=Value.bool b
 |.int i,u=>∃t,u=Value.int i t
 |.str x,u=>∃t,u=Value.str x t
 |.byt b,u=>∃t,u=Value.bytes b t
 |.flt b,u=>∃t,u=Value.float b t
 |.ref a,u=>u=Value.ref a
 |.ty n,u=>u=Value.type n
abbrev Vals:List V->List Value->Prop:=Paired RelV
theorem Vals.length(r:Vals xs us):xs.length=us.length:=Paired.length r
theorem Vals.get:∀{xs:List V}{us:List Value}{i:Nat}{x:V},Vals xs us->xs[i]?=some x->∃u,us[i]?=some u/\RelV x u
 |_,_,_,_,.nil,e=>by simp at e
 |_,_,0,_,.cons r _,e=>by simp at e;subst e;exact⟨_,rfl,r⟩
 |_,_,i+1,x,.cons _ t,e=>by
  obtain⟨u,h1,h2⟩:=Vals.get (i:=i) (x:=x) t (by simpa using e);exact⟨u,by simpa using h1,h2⟩
theorem Vals.set{x:V}{u:Value}(r:RelV x u):∀{xs:List V}{us:List Value}(i:Nat),Vals xs us->Vals (xs.set i x) (us.set i u)
 |_,_,_,.nil=>.nil
 |_,_,0,.cons _ t=>.cons r t
 |_,_,i+1,.cons q t=>.cons q (Vals.set r i t)
theorem Vals.append:∀{xs ys:List V}{us ws:List Value},Vals xs us->Vals ys ws->Vals (xs++ys) (us++ws)
 |_,_,_,_,.nil,s=>s
 |_,_,_,_,.cons r t,s=>.cons r (Vals.append t s)
theorem Vals.take:∀{xs:List V}{us:List Value}(n:Nat),Vals xs us->Vals (xs.take n) (us.take n)
 |_,_,0,_=>.nil
 |_,_,_+1,.nil=>.nil
 |_,_,n+1,.cons r t=>.cons r (Vals.take n t)
theorem Vals.drop:∀{xs:List V}{us:List Value}(n:Nat),Vals xs us->Vals (xs.drop n) (us.drop n)
 |_,_,0,r=>r
 |_,_,_+1,.nil=>.nil
 |_,_,n+1,.cons _ t=>Vals.drop n t
def RelO:Option V->Option Value->Prop
 |some v,some u=>RelV v u
 |none,none=>True
 |_,_=>False
def KV{κ:Type}:List (κ×V)->List (κ×Value)->Prop:=Paired fun(p:κ×V)(q:κ×Value)=>p.1=q.1/\RelV p.2 q.2
def kV:Key->V
 |.inl i=>.int i
 |.inr x=>.str x
inductive HO where
 |lst (xs:List V)
 |tup (xs:List V)
 |dK (kvs:List (Key×V))|dT (kvs:List (List Key×V))
 |set (S:Int->Bool) (n:Nat)
 |ins (C dx:Addr) (fs:List (Str×V))
 |own (x:Addr)
 |xd (fs:List (Str×V))
 |met (f x:Addr)
 |rng (lo hi:Int)
 |frz (o:Obj) (u:HO)
 |tbl (ps:Array Value)
 |ext (φ:Heap->Prop)
variable{o:HO}
abbrev Hp:=Addr->Option HO
variable{H H':Hp}
def upd(H:Hp)(a:Addr)(o:HO):Hp:=fun b=>if b=a then some o else H b
theorem zg:upd H a o a=some o:=by unfold upd;rw[if_pos rfl]
theorem zj(h:b≠a):upd H a o b=H b:=by unfold upd;rw[if_neg h]
theorem xh{u:HO}(h:H a=some o)(h':H b=some u)(d:o≠u):a≠b:=by
 intro e;subst e;rw[h]at h';exact d (u5.inj h')
theorem zo(h:H a=some o)(h':H b=none):a≠b:=by
 intro e;subst e;rw[h]at h';cases h'
def IsTupN(h:Heap)(a:Addr)(items:Array Value):Prop:=∃o,h.get? a=some o/\o.cls=.type "tuple"/\o.dict=none/\∃n,o.data=.seq items n
theorem IsTupN.is(x:IsTupN h a items):IsTup h a items:=by obtain⟨o,a,b,_,c⟩:=x;exact⟨o,a,b,c⟩
theorem IsTupN.new(h:Heap)(items:Array Value):IsTupN (h.push { cls:=.type "tuple",data:=.seq items }) h.objs.size items:=⟨_,uu _ rfl,rfl,rfl,_,rfl⟩
section
variable(P:Program)(w:World)
def ObjOk(H:Hp)(h:Heap)(a:Addr):HO->Prop
 |.lst xs=>xs.length<=sizeLine/\∃(its:List Value)(n:Nat),Vals xs its/\h.get? a=some { cls:=.type "list",data:=.seq its.toArray n }
 |.tup xs=>xs.length<=sizeLine/\∃its:List Value,Vals xs its/\IsTupN h a its.toArray
 |.dK kvs=>kvs.length<=sizeLine/\(a == sysModules)=false/\∃vs,KV kvs vs/\h.DictOf (zU P w) a vs
 |.dT kvs=>kvs.length<=sizeLine/\(a == sysModules)=false/\∃xs:List (List Key×Addr×Value),
   Paired (fun(p:List Key×V)(q:List Key×Addr×Value)=>p.1=q.1/\H q.2.1=some (.tup (p.1.map kV))/\RelV p.2 q.2.2) kvs xs /\
   ∃o es ep,h.get? a=some o/\o.ExactDict/\o.data=.dict es ep/\es.toList=xs.map (entryOfKey (tupleKind (zU P w)))/\(xs.map (·.1)).Nodup
 |.set S n=>h.SetOf (intKind P w) a S n
 |.ins C dx fs=>H dx=some (.own a)/\fs.length<=1000/\dx≠a/\h.get? a=some (Ux C dx) /\
   ∃mA,h.Ns1 dx mA/\(∀f,RelO (fs.lookup f) (mA f))/\PySem.Within mA (fs.map (·.1))
 |.own _=>∃o,h.get? a=some o
 |.xd fs=>∃mA,h.Ns1 a mA/\∀f,RelO (fs.lookup f) (mA f)
 |.rng lo hi=>∃t u v,h.get? a=some { cls:=.type "range",data:=.fields #[.int lo t,.int hi u,.int 1 v] }
 |.frz o u=>h.get? a=some o/\ObjOk H h a u
 |.tbl ps=>h.get? a=some { cls:=.none,data:=.fields ps }
 |.met f x=>h.get? a=some (PySem.W.methodObj (.ref f) (.ref x))
 |.ext φ=>φ h/\(∃o,h.get? a=some o)/\∀h1 h2:Heap,φ h1->(∀o,h1.get? a=some o->h2.get? a=some o)->φ h2
def HOk(H:Hp)(h:Heap):Prop:=∀a o,H a=some o->ObjOk P w H h a o
end
theorem ObjOk.lt(x:ObjOk P w H h a o):a < h.objs.size:=by
 cases o with
 |lst xs=>obtain⟨_,_,_,_,e⟩:=x;exact uA e
 |tup xs=>obtain⟨_,_,_,p⟩:=x;exact p.is.lt
 |dK kvs=>obtain⟨_,_,_,_,o,_,_,e,_⟩:=x;exact uA e
 |dT kvs=>obtain⟨_,_,_,_,o,_,_,e,_⟩:=x;exact uA e
 |set S n=>obtain⟨o,_,_,_,e,_⟩:=x;exact uA e
 |ins C dx fs=>obtain⟨_,_,_,e,_⟩:=x;exact uA e
 |own y=>obtain⟨_,e⟩:=x;exact uA e
 |xd fs=>obtain⟨_,⟨_,_,_,e,_⟩,_⟩:=x;exact uA e
 |rng lo hi=>obtain⟨_,_,_,e⟩:=x;exact uA e
 |frz ob u=>obtain⟨e,_⟩:=x;exact uA e
 |tbl ps=>exact uA (show h.get? a=some _ from x)
 |met f y=>exact uA (show h.get? a=some _ from x)
 |ext φ=>obtain⟨_,⟨_,e⟩,_⟩:=x;exact uA e
theorem Paired.mapP{α β:Type}{F G:α->β->Prop}:∀{l₁:List α}{l₂:List β},Paired F l₁ l₂->(∀a b,F a b->G a b)->Paired G l₁ l₂
 |_,_,.nil,_=>.nil
 |_,_,.cons r t,f=>.cons (f _ _ r) (Paired.mapP t f)
theorem ObjOk.stay(x:ObjOk P w H h a o)(k:∀b u,(b=a\/H b=some (.own a))->h.get? b=some u->h'.get? b=some u)
  (ho:∀b,H b=some (.own a)->H' b=some (.own a)) (ht:∀b xs,H b=some (.tup xs)->H' b=some (.tup xs)):ObjOk P w H' h' a o:=by
 induction o with
 |lst xs=>obtain⟨z,its,n,r,e⟩:=x;exact⟨z,its,n,r,k _ _ (.inl rfl) e⟩
 |tup xs=>obtain⟨z,its,r,ob,e,c⟩:=x;exact⟨z,its,r,ob,k _ _ (.inl rfl) e,c⟩
 |dK kvs=>obtain⟨z,y,vs,r,ob,es,ep,e,c⟩:=x;exact⟨z,y,vs,r,ob,es,ep,k _ _ (.inl rfl) e,c⟩
 |dT kvs =>
  obtain⟨z,y,xs,r,ob,es,ep,e,c⟩:=x;exact⟨z,y,xs,Paired.mapP r fun p q z=>⟨z.1,ht _ _ z.2.1,z.2.2⟩,ob,es,ep,k _ _ (.inl rfl) e,c⟩
 |set S n=>obtain⟨ob,es,ep,t,e,c⟩:=x;exact⟨ob,es,ep,t,k _ _ (.inl rfl) e,c⟩
 |ins C dx fs =>
  obtain⟨d,z,ne,e,mA,⟨od,es,ep,e2,c⟩,r⟩:=x;exact⟨ho _ d,z,ne,k _ _ (.inl rfl) e,mA,⟨od,es,ep,k _ _ (.inr d) e2,c⟩,r⟩
 |own y=>obtain⟨ob,e⟩:=x;exact⟨ob,k _ _ (.inl rfl) e⟩
 |xd fs=>obtain⟨mA,⟨od,es,ep,e,c⟩,r⟩:=x;exact⟨mA,⟨od,es,ep,k _ _ (.inl rfl) e,c⟩,r⟩
 |rng lo hi=>obtain⟨t,u,v,e⟩:=x;exact⟨t,u,v,k _ _ (.inl rfl) e⟩
 |frz ob u ih=>obtain⟨e,q⟩:=x;exact⟨k _ _ (.inl rfl) e,ih q⟩
 |tbl ps =>
  have e:h.get? a=some { cls:=.none,data:=.fields ps }:=x;show h'.get? a=some { cls:=.none,data:=.fields ps };exact k a _ (.inl rfl) e
 |met f y =>
  have e:h.get? a=some (PySem.W.methodObj (.ref f) (.ref y)):=x;show h'.get? a=some (PySem.W.methodObj (.ref f) (.ref y));exact k a _ (.inl rfl) e
 |ext φ=>obtain⟨p,⟨o,e⟩,st⟩:=x;exact⟨st _ _ p fun o q=>k _ _ (.inl rfl) q,⟨o,k _ _ (.inl rfl) e⟩,st⟩
theorem HOk.lt(x:HOk P w H h)(e:H a=some o):a < h.objs.size:=(x a o e).lt
theorem HOk.fresh(x:HOk P w H h)(e:h.objs.size<=a):H a=none:=by
 cases q:H a with
 |none=>rfl
 |some u=>exact absurd (uB (x.lt q) e) (Uo _)
theorem HOk.kept(x:HOk P w H h)(k:∀b u,h.get? b=some u->h'.get? b=some u):HOk P w H h':=fun a o e =>
 (x a o e).stay (fun b u _ q=>k b u q) (fun _ q=>q) fun _ _ q=>q
theorem HOk.laid(x:HOk P w H h)(k:∀b u,h.get? b=some u->h'.get? b=some u)(hp:h.objs.size<=a)(new:ObjOk P w (upd H a o) h' a o):HOk P w (upd H a o) h':=fun b u e=>by
 have hn:=x.fresh hp;by_cases hb:b=a
 ·subst hb;rw[zg]at e;cases e;exact new
 ·rw[zj hb]at e
  exact(x b u e).stay (fun c v _ q=>k c v q) (fun c q=>by rw[zj (zo q hn)];exact q) fun c xs q=>by rw[zj (zo q hn)];exact q
def Rd(H:Hp)(a:Addr)(u:HO):Prop:=H a=some u\/∃o,H a=some (.frz o u)
theorem Rd.ok{u:HO}(r:Rd H a u)(x:HOk P w H h):ObjOk P w H h a u:=by
 rcases r with r|⟨o,r⟩
 ·exact x a u r
 ·obtain⟨_,q⟩:=x a _ r
  exact q
def Mut:Option HO->Prop
 |some (.lst _)=>True
 |some (.dK _)=>True
 |some (.dT _)=>True
 |some (.set _ _)=>True
 |some (.ins _ _ _)=>True
 |some (.ext _)=>True
 |_=>False
section
variable{x e:Addr}{o':HO}
theorem HOk.write(ok:HOk P w H h)(mu:Mut (H x))(he:e=x\/H e=some (.own x))(k:∀b u,b≠e->h.get? b=some u->h'.get? b=some u)(heo:∃u,h'.get? e=some u)
  (new:ObjOk P w (upd H x o') h' x o'):HOk P w (upd H x o') h':=fun b u q=>by
 have nown:∀c y,H c=some (.own y)->c≠x:=fun c y r z=>by subst z;rw[r]at mu;exact mu
 have ntup:∀c xs,H c=some (.tup xs)->c≠x:=fun c xs r z=>by subst z;rw[r]at mu;exact mu
 by_cases hb:b=x
 ·subst hb;rw[zg]at q;cases q;exact new
 ·rw[zj hb]at q
  by_cases hbe:b=e
  ·have q':H b=some (.own x):=by
    rcases he with z|z
    ·exact absurd (hbe.trans z) hb
    ·rw[hbe];exact z
   rw[q]at q';cases q';obtain⟨v,hv⟩:=heo;exact⟨v,by rw[hbe];exact hv⟩
  ·refine(ok b u q).stay (fun c v hc r=>k c v ?_ r) (fun c r=>by rw[zj (nown c b r)];exact r) fun c xs r=>by rw[zj (ntup c xs r)];exact r
   rcases hc with rfl|hc
   ·exact hbe
   ·rintro rfl
    rcases he with z|z
    ·exact nown c b hc z
    ·rw[hc]at z;cases z;exact hb rfl
end
structure Un(fs ex:List Addr)(H H':Hp)(h h':Heap):Prop where
 keep:∀b o,h.get? b=some o->H b=none->b∉fs->b∉ex->h'.get? b=some o
 slot:∀b o,h.get? b=some o->H b=none->b∈fs->b∉ex->∃sl,h'.get? b=some { o with slots:=sl }
 free:∀b o,h.get? b=some o->H b=none->b∉ex->H' b=none
 there:∀b o,h.get? b=some o->b∉ex->∃o',h'.get? b=some o'
 tups:∀b xs,H b=some (.tup xs)->H' b=some (.tup xs)
 frzs:∀b o u,H b=some (.frz o u)->H' b=some (.frz o u)
 tbls:∀b ps,H b=some (.tbl ps)->∃more,H' b=some (.tbl (ps++more))
section
variable{fs fs' ex ex':List Addr}{H1 H2:Hp}{h1 h2:Heap}{x e:Addr}
theorem Un.any(u:Un fs ex H H1 h h1){ob:Obj}(q:h.get? b=some ob)(n:H b=none)(hx:b∉ex):∃sl,h1.get? b=some { ob with slots:=sl }:=by
 by_cases hb:b∈fs
 ·exact u.slot b ob q n hb hx
 ·exact⟨ob.slots,u.keep b ob q n hb hx⟩
theorem Un.kept(k:∀b u,h.get? b=some u->h'.get? b=some u):Un fs ex H H h h' :=
 ⟨fun b ob q _ _ _=>k b ob q,fun b ob q _ _ _=>⟨ob.slots,k b ob q⟩,fun _ _ _ n _=>n,fun b ob q _=>⟨ob,k b ob q⟩,fun _ _ q=>q,fun _ _ _ q=>q,fun _ ps q=>⟨#[],by rw[q];simp⟩⟩
theorem Un.refl:Un fs ex H H h h:=Un.kept fun _ _ q=>q
theorem Un.laid(k:∀b u,h.get? b=some u->h'.get? b=some u)(hp:h.objs.size<=a)(hn:H a=none):Un fs ex H (upd H a o) h h' where
 keep:=fun b u q _ _ _=>k b u q
 slot:=fun b u q _ _ _=>⟨u.slots,k b u q⟩
 free:=fun b u q n _=>by rw[zj (uK (uB (uA q) hp))];exact n
 there:=fun b u q _=>⟨u,k b u q⟩
 tups:=fun b xs q=>by rw[zj (zo q hn)];exact q
 frzs:=fun b u xs q=>by rw[zj (zo q hn)];exact q
 tbls:=fun b ps q=>⟨#[],by rw[zj (zo q hn),q];simp⟩
theorem Un.write(mu:Mut (H x))(he:e=x\/H e=some (.own x))(k:∀b u,b≠e->h.get? b=some u->h'.get? b=some u)(heo:∃u,h'.get? e=some u):Un fs ex H (upd H x o) h h':=by
 have hx:∀b,H b=none->b≠x:=fun b n z=>by subst z;rw[n]at mu;exact mu
 have hb:∀b,H b=none->b≠e:=fun b n z=>by
  subst z;rcases he with r|r
  ·exact hx b n r
  ·rw[n]at r;cases r
 have hm:∀b u,H b=some u->¬ Mut (some u)->b≠x:=fun b u q nm z=>by subst z;rw[q]at mu;exact nm mu
 refine⟨fun b u q n _ _=>k b u (hb b n) q,fun b u q n _ _=>⟨u.slots,k b u (hb b n) q⟩,fun b u q n _=>by rw[zj (hx b n)];exact n,fun b u q _=>?_,
  fun b xs q=>by rw[zj (hm b _ q fun z=>z)];exact q,fun b u xs q=>by rw[zj (hm b _ q fun z=>z)];exact q,fun b ps q=>⟨#[],by rw[zj (hm b _ q fun z=>z),q];simp⟩⟩
 by_cases hbe:b=e
 ·subst hbe;exact heo
 ·exact⟨u,k b u hbe q⟩
end
def trk(h:Heap)(H:Hp):List Addr:=(uV h.objs.size).filter fun a=>(H a).isSome
def hidT(h:Heap)(H:Hp):Heap:=PySem.W.hideAll h (trk h H)
theorem Xi(h:Heap)(H:Hp):(hidT h H).objs.size=h.objs.size:=PySem.W.hideAll_size _ _
theorem XS{o:Obj}(e:h.get? b=some o)(n:H b=none):(hidT h H).get? b=some o :=
 PySem.W.hideAll_get _ e fun hm=>by
  have q:(H b).isSome=true:=(List.mem_filter.mp hm).2;rw[n]at q;simp at q
theorem V0{o:Obj}(e:(hidT h H).get? b=some o):h.get? b=some o/\H b=none:=by
 have e':h.get? b=some o:=PySem.W.of_hideAll (trk h H) e;refine⟨e',?_⟩;cases q:H b with
 |none=>rfl
 |some x =>
  have hm:b∈trk h H:=List.mem_filter.mpr ⟨List.mem_range.mpr (uA e'),by simp[q]⟩;have z:(hidT h H).get? b=none:=PySem.W.hideAll_none (trk h H) hm;rw[z]at e;cases e
def V1(g h:Heap)(L:Addr):List (Addr×Obj):=(uV h.objs.size).filterMap fun a=>if a=L\/(g.get? a).isSome=true then none else(h.get? a).map fun o=>(a,o)
def rest(g h:Heap)(L d:Addr):List (Addr×Obj):=(V1 g h L).filter fun p=>decide (p.1≠d)
structure Mod(K:uc)(mg:Str->Option Value)(base:Heap):Prop where
 kin:K.In base
 glob:base.Ns mainGlobals mg
 blt:∃mb,base.Ns builtinsNs mb/\∀x:Str,x≠"__name__"->mb x=bootBuiltins x
 nolimit:base.NoLimit
structure Cx where
 prog:Program
 w:World
 K:uc
 mg:Str->Option Value
 base:Heap
 A:Around
 N:LS
 s₀:Shared
 H₀:Hp
 env:Env
 outer:List Env
 stack:List Env
 ex:List Addr
 fn:Str->Bool
 calm:Bool
 pn:List (Addr×Obj)
 xe:Value->Shared->Prop
variable{X:Cx}
def frs(l:List Env):List Addr:=l.filterMap (·.frame)
abbrev Cx.fs(X:Cx):List Addr:=frs X.outer
def Vis(sc:Scope)(x:Str):Prop:=sc.names.lookup x=some .local\/sc.names.lookup x=some .cell\/sc.names.lookup x=some .free
def Loc(sc:Scope)(x:Str):Prop:=sc.names.lookup x=some .local\/sc.names.lookup x=some .cell
def Look(env:Env)(h:Heap)(m:Str->Option Value)(x:Str)(u:Value):Prop :=
 (env.kindOf x=some .local/\m x=some u)\/((env.kindOf x=some .cell\/env.kindOf x=some .free)/\∃c,env.cells.lookup x=some c/\h.IsCell c (some u))
structure Cx.Ok(X:Cx):Prop where
 mod:Mod X.K X.mg X.base
 kind:X.env.scope.kind=.function
 glob:X.env.globals=mainGlobals
 blt:X.env.builtins=builtinsNs
 above:X.s₀.heap.objs.size<=X.env.locals
 inj:∀x y c,X.env.cells.lookup x=some c->X.env.cells.lookup y=some c->x=y
 has:∀x,(X.env.kindOf x=some .cell\/X.env.kindOf x=some .free)->∃c,X.env.cells.lookup x=some c
 cab:∀x c,X.fn x=true->X.env.cells.lookup x=some c->X.s₀.heap.objs.size<=c
 hd:X.calm=true->X.A.handled=none
 frames:X.A.frames=some X.stack
 stk:X.stack=X.outer\/(X.stack=X.env::X.outer/\X.env.frame=some X.env.locals)
 exf:∀b∈X.ex,b≠X.env.locals/\∀x c,X.env.cells.lookup x=some c->c≠b
 bs:∀b o,X.base.get? b=some o->X.s₀.heap.get? b=some o/\X.H₀ b=none
 bsz:X.base.objs.size<=X.s₀.heap.objs.size
 noex:∀b o,X.base.get? b=some o->b∉X.ex
 exfs:∀b∈X.ex,b∉X.fs
 funs:X.s₀.heap.FunFrames X.base X.outer
 frf:∀b∈X.fs,X.H₀ b=none
structure Inv(X:Cx)(pins:List (Addr×Obj))(σ:List (Option V))(H:Hp)(s:Shared):Prop where
 ok:X.Ok
 os:s.os=X.s₀.os
 bare:AllBare s.gens
 base:Un X.fs X.ex X.H₀ H X.s₀.heap s.heap
 loc:∃m,s.heap.Ns X.env.locals m/\∀(i:Nat)(x:Str)(v:V),X.N[i]?=some x->σ[i]?=some (some v)->Vis X.env.scope x->∃u,RelV v u/\Look X.env s.heap m x u
 cell:∀x c,X.env.cells.lookup x=some c->∃v,s.heap.IsCell c v
 free:H X.env.locals=none
 freeC:∀x c,X.env.cells.lookup x=some c->H c=none
 pin:∀p∈X.pn++pins,s.heap.get? p.1=some p.2/\H p.1=none/\p.1≠X.env.locals/\p.1∉X.fs/\∀v,p.2.data≠.cell v
 hok:HOk X.prog X.w H s.heap
 len:σ.length=X.N.length
section
variable{σ:List (Option V)}
theorem Cx.Ok.nofr(ok:X.Ok){o:Obj}(e:X.base.get? b=some o):b∉X.fs:=fun hb=>by
 have:=(ok.funs.mem hb).1
 rw[e]at this;cases this
theorem Inv.bs(I:Inv X pins σ H s):∀b o,X.base.get? b=some o->s.heap.get? b=some o/\H b=none:=fun b o e =>
 ⟨I.base.keep b o (I.ok.bs b o e).1 (I.ok.bs b o e).2 (I.ok.nofr e) (I.ok.noex b o e),I.base.free b o (I.ok.bs b o e).1 (I.ok.bs b o e).2 (I.ok.noex b o e)⟩
theorem Inv.bk(I:Inv X pins σ H s):∀b o,X.base.get? b=some o->s.heap.get? b=some o:=fun b o e=>(I.bs b o e).1
theorem Inv.mod(I:Inv X pins σ H s):Mod X.K X.mg X.base:=I.ok.mod
theorem Inv.kIn(I:Inv X pins σ H s):X.K.In s.heap:=I.ok.mod.kin.keeps I.bk
theorem Inv.lt(I:Inv X pins σ H s):X.env.locals < s.heap.objs.size:=by obtain⟨_,hn,_⟩:=I.loc;exact hn.lt
theorem Inv.sz(I:Inv X pins σ H s):X.s₀.heap.objs.size<=s.heap.objs.size:=uC I.ok.above (Nat.le_of_lt I.lt)
theorem Inv.nofs(I:Inv X pins σ H s)(h:s.heap.objs.size<=a):a∉X.fs:=fun hb=>by
 obtain⟨_,o,ho,_⟩:=I.ok.funs.mem hb;exact absurd (uB (uA ho) (uC I.sz h)) (Uo _)
theorem Inv.cne(I:Inv X pins σ H s):∀x c,X.env.cells.lookup x=some c->c≠X.env.locals:=fun x c e z=>by
 obtain⟨v,o,ho,hd⟩:=I.cell x c e;obtain⟨m,⟨o',es,ep,ho',hd',_⟩,_⟩:=I.loc;rw[z,ho']at ho;cases ho;rw[hd']at hd;cases hd
theorem Inv.funs(I:Inv X pins σ H s):s.heap.FunFrames X.base X.outer:=by
 have all:∀(l:List Env),(∀b∈frs l,b∈X.fs)->X.s₀.heap.FunFrames X.base l->s.heap.FunFrames X.base l:=by
  intro l
  induction l with
  |nil=>intro _ _;trivial
  |cons env r ih =>
   intro hs hl;obtain⟨hk,⟨L,o,hf,hn,ho,hd⟩,hr⟩:=hl;have hL:L∈X.fs:=hs L (by unfold frs;rw[List.filterMap_cons,hf];exact Us);obtain⟨sl,e⟩:=I.base.slot L o ho (I.ok.frf L hL) hL fun z=>I.ok.exfs L z hL;exact⟨hk,⟨L,_,hf,hn,e,hd⟩,ih (fun b hb=>hs b (by unfold frs;rw[List.filterMap_cons,hf];exact Ul _ hb)) hr⟩
 exact all X.outer (fun _ hb=>hb) I.ok.funs
theorem Inv.stack(I:Inv X pins σ H s):s.heap.FunFrames X.base X.stack:=by
 rcases I.ok.stk with e|⟨e,hf⟩
 ·rw[e];exact I.funs
 ·rw[e]
  obtain⟨m,hn,_⟩:=I.loc;refine .cons (by rw[I.ok.kind];decide) hf hn ?_ I.funs;exact Heap.get?_none_of_le (uC I.ok.bsz I.ok.above)
theorem Inv.stkSub(I:Inv X pins σ H s):∀b∈frs X.stack,b∈X.env.locals::X.fs:=fun b hb=>by
 rcases I.ok.stk with e|⟨e,hf⟩
 ·rw[e]at hb;exact Ul _ hb
 ·rw[e]at hb
  unfold frs at hb;rw[List.filterMap_cons,hf]at hb;exact hb
theorem Inv.stkFree(I:Inv X pins σ H s):∀b∈frs X.stack,H b=none:=fun b hb=>by
 rcases uq.mp (I.stkSub b hb)with e|hb
 ·rw[e];exact I.free
 ·obtain⟨_,o,ho,_⟩:=I.ok.funs.mem hb
  exact I.base.free b o ho (I.ok.frf b hb) fun z=>I.ok.exfs b z hb
theorem Inv.step{d':Drawn}(I:Inv X pins σ H s)
  (hch:∀b∈ch,(b∈X.ex\/X.s₀.heap.objs.size<=b)/\b≠X.env.locals/\(∀x c,X.env.cells.lookup x=some c->c≠b)/\∀p∈X.pn++pins,p.1≠b)
  (keep:∀b o,b≠X.env.locals->b∉X.fs->b∉ch->s.heap.get? b=some o->H b=none->h'.get? b=some o)
  (slot:∀b o,b≠X.env.locals->b∈X.fs->b∉ch->s.heap.get? b=some o->H b=none->∃sl,h'.get? b=some { o with slots:=sl }) (free:∀b o,b∉ch->s.heap.get? b=some o->H b=none->H' b=none)
  (there:∀b o,b∉ch->s.heap.get? b=some o->∃o',h'.get? b=some o')
  (tups:∀b xs,H b=some (.tup xs)->H' b=some (.tup xs)) (frzs:∀b o u,H b=some (.frz o u)->H' b=some (.frz o u)) (tbls:∀b ps,H b=some (.tbl ps)->∃more,H' b=some (.tbl (ps++more)))
  (ns:∀m,s.heap.Ns X.env.locals m->h'.Ns X.env.locals m) (hok:HOk X.prog X.w H' h') (hg:AllBare g') :
  Inv X pins σ H' { s with heap:=h',gens:=g',drawn:=d',toks:=t' }:=by
 have neL:∀b o,X.s₀.heap.get? b=some o->b≠X.env.locals:=fun b o e=>uK (uB (uA e) I.ok.above);have neC:∀b o,X.s₀.heap.get? b=some o->b∉X.ex->b∉ch:=fun b o e hx hb=>by
  rcases(hch b hb).1 with z|z
  ·exact hx z
  ·exact absurd (uB (uA e) z) (Uo _)
 have cellK:∀x c,X.env.cells.lookup x=some c->∀v,s.heap.IsCell c v->h'.IsCell c v:=fun x c e v ⟨o,ho,hd⟩=>by
  have nch:c∉ch:=fun z=>(hch c z).2.2.1 x c e rfl;by_cases hc:c∈X.fs
  ·obtain⟨sl,q⟩:=slot c o (I.cne x c e) hc nch ho (I.freeC x c e)
   exact⟨_,q,hd⟩
  ·exact⟨o,keep c o (I.cne x c e) hc nch ho (I.freeC x c e),hd⟩
 refine⟨I.ok,I.os,hg,⟨fun b o e n hb hx=>?_,fun b o e n hb hx=>?_,fun b o e n hx=>?_,fun b o e hx=>?_,fun b xs e=>tups b xs (I.base.tups b xs e),fun b o xs e=>frzs b o xs (I.base.frzs b o xs e),fun b ps e=>?_⟩,?_,fun x c e=>?_,?_,fun x c e=>?_,fun p hp=>?_,hok,I.len⟩
 ·exact keep b o (neL b o e) hb (neC b o e hx) (I.base.keep b o e n hb hx) (I.base.free b o e n hx)
 ·obtain⟨sl,e1⟩:=I.base.slot b o e n hb hx
  obtain⟨sl',e2⟩:=slot b _ (neL b o e) hb (neC b o e hx) e1 (I.base.free b o e n hx);exact⟨sl',e2⟩
 ·obtain⟨o',e1⟩:=I.base.there b o e hx
  exact free b o' (neC b o e hx) e1 (I.base.free b o e n hx)
 ·obtain⟨o',e1⟩:=I.base.there b o e hx
  exact there b o' (neC b o e hx) e1
 ·obtain⟨m1,e1⟩:=I.base.tbls b ps e
  obtain⟨m2,e2⟩:=tbls b _ e1;exact⟨m1++m2,by rw[e2,Array.append_assoc]⟩
 ·obtain⟨m,hn,hl⟩:=I.loc
  refine⟨m,ns m hn,fun i x v e1 e2 e3=>?_⟩;obtain⟨u,r,l⟩:=hl i x v e1 e2 e3;refine⟨u,r,?_⟩;rcases l with l|⟨k,c,e,z⟩
  ·exact .inl l
  ·exact .inr ⟨k,c,e,cellK x c e _ z⟩
 ·obtain⟨v,z⟩:=I.cell x c e
  exact⟨v,cellK x c e v z⟩
 ·obtain⟨m,⟨o,_,_,ho,_⟩,_⟩:=I.loc
  exact free _ o (fun z=>(hch _ z).2.1 rfl) ho I.free
 ·obtain⟨v,o,ho,hd⟩:=I.cell x c e
  exact free c o (fun z=>(hch c z).2.2.1 x c e rfl) ho (I.freeC x c e)
 ·obtain⟨e,n,ne,nf,d⟩:=I.pin p hp
  have nch:p.1∉ch:=fun z=>(hch p.1 z).2.2.2 p hp rfl;exact⟨keep p.1 p.2 ne nf nch e n,free p.1 p.2 nch e n,ne,nf,d⟩
theorem Inv.un(I:Inv X pins σ H s)(u:Un X.fs [] H H' s.heap h')(hok:HOk X.prog X.w H' h'):Inv X pins σ H' { s with heap:=h',toks:=t' }:=by
 obtain⟨m,⟨o,es,ep,ho,r⟩,_⟩:=id I.loc;obtain⟨sl,hL⟩:=u.any ho I.free (by simp);exact I.step (g':=s.gens) (d':=s.drawn) (ch:=[]) (fun _ z=>nomatch z) (fun b o _ hb _ e n=>u.keep b o e n hb (by simp)) (fun b o _ hb _ e n=>u.slot b o e n hb (by simp)) (fun b o _ e n=>u.free b o e n (by simp)) (fun b o _ e=>u.there b o e (by simp)) u.tups u.frzs u.tbls (fun m' hm=>by
  obtain⟨o',es',ep',ho',r'⟩:=hm;rw[ho]at ho';cases ho';exact⟨_,es',ep',hL,r'⟩) hok I.bare
theorem Inv.call{d':Drawn}(I:Inv X pins σ H s)(u:Un (frs X.stack) ch H H' s.heap h')(hok:HOk X.prog X.w H' h')(hg:AllBare g')
  (hch:∀b∈ch,(b∈X.ex\/X.s₀.heap.objs.size<=b)/\b≠X.env.locals/\(∀x c,X.env.cells.lookup x=some c->c≠b)/\∀p∈X.pn++pins,p.1≠b) :
  Inv X pins σ H' { s with heap:=h',gens:=g',drawn:=d',toks:=t' }:=by
 obtain⟨m,⟨o,es,ep,ho,r⟩,_⟩:=id I.loc;obtain⟨sl,hL⟩:=u.any ho I.free fun z=>(hch _ z).2.1 rfl;exact I.step (ch:=ch) hch (fun b o hL hb hc e n=>u.keep b o e n (fun z=>(uq.mp (I.stkSub b z)).elim hL hb) hc) (fun b o _ _ hc e n=>u.any e n hc) (fun b o hc e n=>u.free b o e n hc) (fun b o hc e=>u.there b o e hc) u.tups u.frzs u.tbls (fun m' hm=>by
  obtain⟨o',es',ep',ho',r'⟩:=hm;rw[ho]at ho';cases ho';exact⟨_,es',ep',hL,r'⟩) hok hg
theorem Inv.turned(I:Inv X pins σ H s)(k:∀b o,b≠it->s.heap.get? b=some o->h'.get? b=some o)(hn:H it=none)(hL:it≠X.env.locals)
  (h1:it∈X.ex\/X.s₀.heap.objs.size<=it) (h2:∀x c,X.env.cells.lookup x=some c->c≠it) (h3:∀p∈X.pn++pins,p.1≠it):Inv X pins σ H { s with heap:=h',toks:=t' }:=by
 have nit:∀b u,H b=some u->b≠it:=fun b u e z=>by rw[z,hn]at e;cases e
 refine I.step (g':=s.gens) (d':=s.drawn) (ch:=[it]) (fun b hb=>?_) (fun b o _ _ hc e _=>k b o (fun z=>hc (by simp[z])) e) (fun b o _ _ hc e _=>⟨o.slots,k b o (fun z=>hc (by simp[z])) e⟩) (fun _ _ _ _ n=>n)
  (fun b o hc e=>⟨o,k b o (fun z=>hc (by simp[z])) e⟩) (fun _ _ e=>e) (fun _ _ _ e=>e) (fun b ps e=>⟨#[],by rw[e];simp⟩) (fun m hm=>?_) (fun b u e=>?_) I.bare
 ·have e:b=it:=by simpa using hb
  subst e;exact⟨h1,hL,h2,h3⟩
 ·obtain⟨o,es,ep,ho,r⟩:=hm
  exact⟨o,es,ep,k _ o (Ne.symm hL) ho,r⟩
 ·refine(I.hok b u e).stay (fun c v hc q=>k c v ?_ q) (fun _ q=>q) fun _ _ q=>q
  rcases hc with z|z
  ·rw[z];exact nit b u e
  ·exact nit c _ z
theorem Inv.tok(I:Inv X pins σ H s)(t:Nat):Inv X pins σ H { s with toks:=t }:=I.un (h':=s.heap) (t':=t) Un.refl I.hok
theorem Inv.kept(I:Inv X pins σ H s)(k:∀b u,s.heap.get? b=some u->h'.get? b=some u):Inv X pins σ H { s with heap:=h',toks:=t' }:=I.un (Un.kept k) (I.hok.kept k)
theorem Inv.laid(I:Inv X pins σ H s)(k:∀b u,s.heap.get? b=some u->h'.get? b=some u)(hp:s.heap.objs.size<=a)(new:ObjOk X.prog X.w (upd H a o) h' a o):
  Inv X pins σ (upd H a o) { s with heap:=h',toks:=t' }:=I.un (Un.laid k hp (I.hok.fresh hp)) (I.hok.laid k hp new)
theorem Inv.write{x e:Addr}(I:Inv X pins σ H s)(mu:Mut (H x))(he:e=x\/H e=some (.own x))(k:∀b u,b≠e->s.heap.get? b=some u->h'.get? b=some u)(heo:∃u,h'.get? e=some u)
  (new:ObjOk X.prog X.w (upd H x o) h' x o):Inv X pins σ (upd H x o) { s with heap:=h',toks:=t' }:=I.un (Un.write mu he k heo) (I.hok.write mu he k heo new)
theorem Inv.pins_of{pins':List (Addr×Obj)}(I:Inv X pins σ H s)(h:∀p∈pins',s.heap.get? p.1=some p.2/\H p.1=none/\p.1≠X.env.locals/\p.1∉X.fs/\∀v,p.2.data≠.cell v):Inv X pins' σ H s :=
 ⟨I.ok,I.os,I.bare,I.base,I.loc,I.cell,I.free,I.freeC,fun p hp=>(uJ.mp hp).elim (fun z=>I.pin p (uP _ z)) (h p),I.hok,I.len⟩
theorem j7(hN:N.Nodup)(a:N[i]?=some x)(b:N[j]?=some x):i=j:=by
 obtain⟨h1,e1⟩:=ue.mp a;obtain⟨h2,e2⟩:=ue.mp b;exact(List.getElem_inj hN).mp (e1.trans e2.symm)
theorem vO{v:V}(I:Inv X pins σ H s)(hN:X.N.Nodup)(hi:X.N[i]?=some x)(hx:Loc X.env.scope x)(r:RelV v u)
  (h:∀s',Inv X pins (σ.set i (some v)) H s'->(∃a,Heap.SameBut a s.heap s'.heap/\(a=X.env.locals\/X.env.cells.lookup x=some a))->Q () s') (hf:X.fn x=true\/X.env.scope.names.lookup x=some .local:=by first|exact .inl rfl|exact .inr rfl|assumption):wpAny M A (storeName X.env x u) Q E s:=by
 obtain⟨m,hn,hl⟩:=id I.loc;have hcls:(X.env.scope.kind == .class || (X.env.scope.kind == .module && X.env.locals != X.env.globals))=false:=by rw[I.ok.kind];rfl
 have hiσ:i < σ.length:=by rw[I.len];exact(ue.mp hi).1
 have cne:=I.cne;have tracked:∀{a:Addr}{h':Heap},(∃o,s.heap.get? a=some o/\H a=none)->Heap.SameBut a s.heap h'->HOk X.prog X.w H h':=fun{a h'} ha hs b ob e=>by
  obtain⟨_,_,hfree⟩:=ha;refine(I.hok b ob e).stay (fun c w' hc q=>(hs.2 c ?_).trans q) (fun _ q=>q) fun _ _ q=>q;rintro rfl;rcases hc with rfl|hc
  ·rw[hfree]at e;cases e
  ·rw[hfree]at hc;cases hc
 rcases hx with hk|hk
 ·refine wpAny_storeName_local hk hn (fun h' hn' hs=>?_) hcls
  obtain⟨oL,_,_,hoL,_⟩:=id hn;refine h _ ⟨I.ok,I.os,I.bare,⟨fun b o e n hb hx=>?_,fun b o e n hb hx=>?_,I.base.free,fun b o e hx=>?_,I.base.tups,I.base.frzs,I.base.tbls⟩,⟨_,hn',fun j y v' e1 e2 e3=>?_⟩,fun y c e=>?_,I.free,I.freeC,fun p hp=>?_,tracked ⟨oL,hoL,I.free⟩ hs,by simpa using I.len⟩ ⟨_,hs,.inl rfl⟩
  ·exact(hs.2 b (uK (uB (uA e) I.ok.above))).trans (I.base.keep b o e n hb hx)
  ·obtain⟨sl,e1⟩:=I.base.slot b o e n hb hx
   exact⟨sl,(hs.2 b (uK (uB (uA e) I.ok.above))).trans e1⟩
  ·obtain⟨o',e1⟩:=I.base.there b o e hx
   exact⟨o',(hs.2 b (uK (uB (uA e) I.ok.above))).trans e1⟩
  ·by_cases hj:j=i
   ·subst hj
    rw[hi]at e1;cases e1;rw[List.getElem?_set_self hiσ]at e2;cases e2;exact⟨u,r,.inl ⟨hk,by simp⟩⟩
   ·rw[List.getElem?_set_ne (Ne.symm hj)]at e2
    obtain⟨u',r',q⟩:=hl j y v' e1 e2 e3;refine⟨u',r',?_⟩;rcases q with⟨k,e⟩|⟨k,c,e,z⟩
    ·refine .inl ⟨k,?_⟩
     have:y≠x:=fun e=>hj (j7 hN e1 (e ▸ hi))
     simp[this,e]
    ·exact .inr ⟨k,c,e,z.sameBut hs (cne y c e)⟩
  ·obtain⟨w',z⟩:=I.cell y c e
   exact⟨w',z.sameBut hs (cne y c e)⟩
  ·obtain⟨e,n,ne,nf,d⟩:=I.pin p hp
   exact⟨(hs.2 p.1 ne).trans e,n,ne,nf,d⟩
 ·have hfn:X.fn x=true:=by
   rcases hf with z|z
   ·exact z
   ·rw[z]at hk;cases hk
  obtain⟨c,hc⟩:=I.ok.has x (.inl hk);obtain⟨w',z⟩:=I.cell x c hc;refine wpAny_storeName_cell I.ok.kind hk hc z (fun h' hc' hs=>?_);obtain⟨oc,hoc,hocd⟩:=id z;refine h { s with heap:=h' } ⟨I.ok,I.os,I.bare,⟨fun b o e n hb hx=>?_,fun b o e n hb hx=>?_,I.base.free,fun b o e hx=>?_,I.base.tups,I.base.frzs,I.base.tbls⟩,⟨m,hn.sameBut hs (Ne.symm (cne x c hc)),fun j y v' e1 e2 e3=>?_⟩,fun y c' e=>?_,I.free,I.freeC,fun p hp=>?_,tracked ⟨oc,hoc,I.freeC x c hc⟩ hs,by simpa using I.len⟩ ⟨c,hs,.inr hc⟩
  ·exact(hs.2 b (uK (uB (uA e) (I.ok.cab x c hfn hc)))).trans (I.base.keep b o e n hb hx)
  ·obtain⟨sl,e1⟩:=I.base.slot b o e n hb hx
   exact⟨sl,(hs.2 b (uK (uB (uA e) (I.ok.cab x c hfn hc)))).trans e1⟩
  ·obtain⟨o',e1⟩:=I.base.there b o e hx
   exact⟨o',(hs.2 b (uK (uB (uA e) (I.ok.cab x c hfn hc)))).trans e1⟩
  ·by_cases hj:j=i
   ·subst hj
    rw[hi]at e1;cases e1;rw[List.getElem?_set_self hiσ]at e2;cases e2;exact⟨u,r,.inr ⟨.inl hk,c,hc,hc'⟩⟩
   ·rw[List.getElem?_set_ne (Ne.symm hj)]at e2
    obtain⟨u',r',q⟩:=hl j y v' e1 e2 e3;refine⟨u',r',?_⟩;rcases q with q|⟨k,c',e,z'⟩
    ·exact .inl q
    ·refine .inr ⟨k,c',e,z'.sameBut hs ?_⟩
     rintro rfl;exact hj (j7 hN e1 (I.ok.inj _ _ _ e hc ▸ hi))
  ·by_cases hcc:c'=c
   ·subst hcc;exact⟨_,hc'⟩
   ·obtain⟨w2,z2⟩:=I.cell y c' e
    exact⟨w2,z2.sameBut hs hcc⟩
  ·obtain⟨e,n,ne,nf,d⟩:=I.pin p hp
   refine⟨(hs.2 p.1 ?_).trans e,n,ne,nf,d⟩;intro q;rw[q,hoc]at e;have q':oc=p.2:=u5.inj e;exact d w' (by rw[<- q'];exact hocd)
theorem j8{v:V}(I:Inv X pins σ H s)(hN:X.N.Nodup)(hi:X.N[i]?=some x)(hx:Loc X.env.scope x)(r:RelV v u)
  (h:∀s',Inv X pins (σ.set i (some v)) H s'->Q () s') (hf:X.fn x=true\/X.env.scope.names.lookup x=some .local:=by first|exact .inl rfl|exact .inr rfl|assumption):wpAny M A (storeName X.env x u) Q E s :=
 vO I hN hi hx r (fun s' I' _=>h s' I') hf
theorem Inv.call'(I:Inv X pins σ H s)(ho:s'.os=s.os)(u:Un (frs X.stack) ch H H' s.heap s'.heap)(hok:HOk X.prog X.w H' s'.heap)(hg:AllBare s'.gens)
  (hch:∀b∈ch,(b∈X.ex\/X.s₀.heap.objs.size<=b)/\b≠X.env.locals/\(∀x c,X.env.cells.lookup x=some c->c≠b)/\∀p∈X.pn++pins,p.1≠b):Inv X pins σ H' s':=by
 obtain⟨h',g',d',t',o'⟩:=s';have e:o'=s.os:=ho;subst e;exact I.call (g':=g') (t':=t') (d':=d') u hok hg hch
end
abbrev XK:=Value->Option Addr->Hp->Prop
abbrev St:=List (Option V)
variable{σ:St}
abbrev VK:=V->Hp->Prop
abbrev TE:=St->Hp->VK->Prop
variable{ta te:TE}
abbrev TT:=St->Hp->(Bool->Hp->Prop)->Prop
abbrev TA:=St->Hp->(List V->Hp->Prop)->Prop
structure Ends where
 nx:St->Hp->Prop
 rt:VK
 bk:St->Hp->Prop:=fun _ _=>False
 ct:St->Hp->Prop:=fun _ _=>False
variable{D:Ends}
abbrev TS:=Ends->St->Hp->Prop
variable{tb:TS}
def EP(X:Cx)(pins:List (Addr×Obj))(σ:St)(Q:VK)(u:Value)(s':Shared):Prop:=∃v H',Inv X pins σ H' s'/\RelV v u/\Q v H'
def TP(X:Cx)(pins:List (Addr×Obj))(σ:St)(Q:Bool->Hp->Prop)(b:Bool)(s':Shared):Prop:=∃H',Inv X pins σ H' s'/\Q b H'
def AP(X:Cx)(pins:List (Addr×Obj))(σ:St)(Q:List V->Hp->Prop)(us:List Value)(s':Shared):Prop:=∃vs H',Inv X pins σ H' s'/\Vals vs us/\Q vs H'
def SP(X:Cx)(pins:List (Addr×Obj))(D:Ends)(f:Flow)(s':Shared):Prop :=
 match f with
 |.next=>∃σ' H',Inv X pins σ' H' s'/\D.nx σ' H'
 |.brk=>∃σ' H',Inv X pins σ' H' s'/\D.bk σ' H'
 |.cont=>∃σ' H',Inv X pins σ' H' s'/\D.ct σ' H'
 |.ret u=>∃v σ' H',Inv X pins σ' H' s'/\RelV v u/\D.rt v H'
def PE(X:Cx)(e:Expr)(t:TE):Prop :=
 ∀(pins:List (Addr×Obj))(s:Shared)(σ:St)(H:Hp)(Q:VK),Inv X pins σ H s->t σ H Q->wpAny (model X.prog X.w) X.A (eval e X.env) (EP X pins σ Q) X.xe s
def PT(X:Cx)(e:Expr)(t:TT):Prop :=
 ∀(pins:List (Addr×Obj))(s:Shared)(σ:St)(H:Hp)(Q:Bool->Hp->Prop),Inv X pins σ H s->t σ H Q->wpAny (model X.prog X.w) X.A (isTrue e X.env (eval e X.env)) (TP X pins σ Q) X.xe s
def PW(X:Cx)(e:Expr)(t:TT):Prop :=
 ∀(whole:Sem Value)(pins:List (Addr×Obj))(s:Shared)(σ:St)(H:Hp)(Q:Bool->Hp->Prop),Inv X pins σ H s->t σ H Q->wpAny (model X.prog X.w) X.A (isTrue e X.env whole) (TP X pins σ Q) X.xe s
theorem PW.pt{t:TT}(h:PW X e t):PT X e t:=h _
def PA(X:Cx)(es:List Expr)(t:TA):Prop :=
 ∀(pos:Pos)(pins:List (Addr×Obj))(s:Shared)(σ:St)(H:Hp)(Q:List V->Hp->Prop),Inv X pins σ H s->t σ H Q->wpAny (model X.prog X.w) X.A (spliced (backTo pos (starEach es X.env))) (AP X pins σ Q) X.xe s
def PS(X:Cx)(st:Stmt)(t:TS):Prop :=
 ∀(pins:List (Addr×Obj))(s:Shared)(σ:St)(H:Hp)(D:Ends),Inv X pins σ H s->t D σ H->wpAny (model X.prog X.w) X.A (exec st X.env) (SP X pins D) X.xe s
def PSs(X:Cx)(st:List Stmt)(t:TS):Prop :=
 ∀(pins:List (Addr×Obj))(s:Shared)(σ:St)(H:Hp)(D:Ends),Inv X pins σ H s->t D σ H->wpAny (model X.prog X.w) X.A (execs st X.env) (SP X pins D) X.xe s
theorem thn{α:Type}{t:Sem α}{Q Q':α->Shared->Prop}(h:wpAny M A t Q E s)(hQ:∀a s,Q a s->Q' a s):wpAny M A t Q' E s:=wpAny_mono h hQ fun _ _ x=>x
section
def tVar(i:Nat):TE:=fun σ H Q=>∃v,σ[i]?=some (some v)/\Q v H
def tC(v:V):TE:=fun _ H Q=>Q v H
theorem zaf(hN:X.N[i]?=some x)(hv:Vis X.env.scope x)(hd:(x == ("__debug__":Str))=false:=by decide)(hcd:(x == ("__classdict__":Str))=false:=by decide):PE X (.Name x pos) (tVar i):=by
 intro pins s σ H Q I h;obtain⟨v,e,h⟩:=h;obtain⟨m,hn,hl⟩:=I.loc;obtain⟨u,r,l⟩:=hl i x v hN e hv;have fin:EP X pins σ Q u s:=⟨v,H,I,r,h⟩;rcases l with⟨hk,hm⟩|⟨hk,c,hc,hcell⟩
 ·exact wpAny_Name (wpAny_loadName_local I.ok.kind hk hn hm fin) hd
 ·rcases hk with hk|hk
  ·exact wpAny_Name (wpAny_loadName_cell I.ok.kind hk hc hcell fin) hd
  ·exact wpAny_Name (wpAny_loadName_free I.ok.kind hk hc hcell fin hcd) hd
theorem zag{i j pos}:PE X (.Constant (.int i) j pos) (tC (.int i)):=fun _ _ _ H _ I h=>wpAny_Constant_int ⟨.int i,H,I.tok _,⟨_,rfl⟩,h⟩
theorem zbA{b j pos}:PE X (.Constant (.bool b) j pos) (tC (.bl b)):=fun _ _ _ H _ I h=>Constant_bool ⟨.bl b,H,I,rfl,h⟩
theorem zah{x j pos}:PE X (.Constant (.str x) j pos) (tC (.str x)):=fun _ _ _ H _ I h=>Calls.Constant_str ⟨.str x,H,I.tok _,⟨_,rfl⟩,h⟩
def Gl(X:Cx)(x:Str):Prop:=X.env.kindOf x=some .globalImplicit
theorem wQ{Q:VSP}(I:Inv X pins σ H s)(hg:Gl X x)(hm:X.mg x=some u)(h:Q u s)
  (hd:(x == ("__debug__":Str))=false:=by decide):wpAny (model X.prog X.w) X.A (eval (.Name x pos) X.env) Q E s :=
 Calls.Name_function_global I.ok.kind hg (Calls.loadGlobal_global (by rw[I.ok.glob];exact I.mod.glob.keeps I.bk) hm h) hd
theorem wA{Q:VSP}(I:Inv X pins σ H s)(hg:Gl X x)(hm:X.mg x=none)(hv:bootBuiltins x=some u)(h:Q u s)
  (hn:x≠"__name__":=by decide) (hd:(x == ("__debug__":Str))=false:=by decide):wpAny (model X.prog X.w) X.A (eval (.Name x pos) X.env) Q E s:=by
 obtain⟨mb,h1,h2⟩:=I.mod.blt;exact Calls.Name_function_global I.ok.kind hg (Calls.loadGlobal_builtin (by rw[I.ok.glob];exact I.mod.glob.keeps I.bk) hm (by rw[I.ok.blt];exact h1.keeps I.bk) ((h2 x hn).trans hv) h) hd
theorem V2{v:V}(hg:Gl X x)(hm:X.mg x=some u)(r:RelV v u)(hd:(x == ("__debug__":Str))=false:=by decide):PE X (.Name x pos) (tC v) :=
 fun _ _ _ H _ I h=>wQ I hg hm ⟨v,H,I,r,h⟩ hd
theorem V3{v:V}(hg:Gl X x)(hm:X.mg x=none)(hv:bootBuiltins x=some u)(r:RelV v u)(hn:x≠"__name__":=by decide)(hd:(x == ("__debug__":Str))=false:=by decide):PE X (.Name x pos) (tC v) :=
 fun _ _ _ H _ I h=>wA I hg hm hv ⟨v,H,I,r,h⟩ hn hd
variable{a b:Expr}{tb:TE}
def PC(X:Cx)(op:CmpOp)(a b:Expr)(t:TE):Prop :=
 ∀(pins:List (Addr×Obj))(s:Shared)(σ:St)(H:Hp)(Q:VK),Inv X pins σ H s->t σ H Q ->
  wpAny (model X.prog X.w) X.A (eval a X.env) (fun v s₁=>wpAny (model X.prog X.w) X.A (eval b X.env) (fun u s₂=>wpAny (model X.prog X.w) X.A (compareOp op v u) (EP X pins σ Q) X.xe s₂) X.xe s₁) X.xe s
def tB(t:TE):TT:=fun σ H Q=>t σ H fun x H1=>∃c,x=.bl c/\Q c H1
theorem XT{t:TE}(h:PC X op a b t)(h1:behindInMarks op b=false:=by first|exact nobehind _ (by decide) (by decide)|rfl):PT X (.Compare a [op] [b] pos) (tB t):=by
 intro pins s σ H Q I hw;refine wpAny_isTrue_Compare1 (thn (h pins s σ H _ I hw) fun v s1 h1=>thn h1 fun u s2 h2=>thn h2 fun c s3 ⟨x,H1,I1,r1,q1⟩=>?_) h1;obtain⟨d,rfl,q⟩:=q1;cases r1;exact wpAny_truthy_bool ⟨H1,I1,q⟩
theorem zai{t:TE}(h:PE X e t)(he:∀whole,isTrue e X.env whole=(do let v <- whole;standAt e.pos;holding [v] (truthy v)):=by intro _;rfl):PT X e (tB t):=by
 intro pins s σ H Q I hw;refine isTrue_plain (thn (h pins s σ H _ I hw) fun v s1 ⟨x,H1,I1,r1,q1⟩=>?_) (he _);obtain⟨d,rfl,q⟩:=q1;cases r1;exact wpAny_truthy_bool ⟨H1,I1,q⟩
variable{tA tB':TT}{rest:List Expr}
def tAnd(t u:TT):TT:=fun σ H Q=>t σ H fun c H1=>if c=true then u σ H1 Q else Q false H1
def tOr(t u:TT):TT:=fun σ H Q=>t σ H fun c H1=>if c=true then Q true H1 else u σ H1 Q
def tNot(t:TT):TT:=fun σ H Q=>t σ H fun c H1=>Q (!c) H1
theorem pw_and1(ha:PT X a tA):PW X (.BoolOp .And [a] pos) tA:=by
 intro wh pins s σ H Q I h;refine isTrue_and (thn (ha pins s σ H Q I h) fun c s1 e=>?_);cases c with
 |true=>exact isTrue_and_nil e
 |false=>exact e
theorem pw_or1(ha:PT X a tA):PW X (.BoolOp .Or [a] pos) tA:=by
 intro wh pins s σ H Q I h;refine isTrue_or (thn (ha pins s σ H Q I h) fun c s1 e=>?_);cases c with
 |false=>exact isTrue_or_nil e
 |true=>exact e
theorem pw_and(ha:PT X a tA)(hb:PW X (.BoolOp .And (b::rest) pos) tB'):PW X (.BoolOp .And (a::b::rest) pos) (tAnd tA tB'):=by
 intro wh pins s σ H Q I h;refine isTrue_and (thn (ha pins s σ H _ I h) fun c s1 hq_=>?_);obtain⟨H1,I1,q1⟩:=hq_;cases c with
 |true=>exact hb wh pins s1 σ H1 Q I1 q1
 |false=>exact⟨H1,I1,q1⟩
theorem pw_or(ha:PT X a tA)(hb:PW X (.BoolOp .Or (b::rest) pos) tB'):PW X (.BoolOp .Or (a::b::rest) pos) (tOr tA tB'):=by
 intro wh pins s σ H Q I h;refine isTrue_or (thn (ha pins s σ H _ I h) fun c s1 hq_=>?_);obtain⟨H1,I1,q1⟩:=hq_;cases c with
 |true=>exact⟨H1,I1,q1⟩
 |false=>exact hb wh pins s1 σ H1 Q I1 q1
theorem zaj(ha:PT X a tA):PT X (.UnaryOp .Not a pos) (tNot tA):=by
 intro pins s σ H Q I h;exact isTrue_not (ha pins s σ H (fun c H1=>Q (!c) H1) I h)
def QA(ta tb:TE):TE:=fun σ H Q=>ta σ H fun x H1=>∃c,x=.bl c/\if c=true then tb σ H1 Q else Q (.bl false) H1
theorem zak{op}{t:TE}(h:PE X a t):PE X (.BoolOp op [a] pos) t:=fun pins s σ H Q I hw=>BoolOp_one (h pins s σ H Q I hw)
theorem zal(ha:PE X a ta)(hb:PE X (.BoolOp .And (b::rest) pos) tb):PE X (.BoolOp .And (a::b::rest) pos) (QA ta tb):=by
 intro pins s σ H Q I h;refine BoolOp_and (thn (ha pins s σ H _ I h) fun v s1 hq_=>?_);obtain⟨x,H1,I1,r1,q1⟩:=hq_;obtain⟨c,rfl,q1⟩:=q1;cases r1;refine wpAny_truthy_bool ?_;cases c with
 |true=>exact hb pins s1 σ H1 Q I1 q1
 |false=>exact⟨.bl false,H1,I1,rfl,q1⟩
def tIf(t:TT)(ta tb:TE):TE:=fun σ H Q=>t σ H fun c H1=>if c=true then ta σ H1 Q else tb σ H1 Q
theorem XU(hc:PT X c tA)(ha:PE X a ta)(hb:PE X b tb):PE X (.IfExp c a b pos) (tIf tA ta tb):=by
 intro pins s σ H Q I h;refine wpAny_IfExp (thn (hc pins s σ H _ I h) fun d s1 hq_=>?_);obtain⟨H1,I1,q1⟩:=hq_;cases d with
 |true=>exact ha pins s1 σ H1 Q I1 q1
 |false=>exact hb pins s1 σ H1 Q I1 q1
end
def SqL(K:uc)(H:Hp)(a:Addr)(xs:List V):Prop :=
 Rd H a (.lst xs) \/
  ∃(o:Obj)(its:Array Value)(n:Nat),K.lookup a=some o/\o.cls=.type "list"/\o.dict=none/\o.data=.seq its n/\its.size<=sizeLine/\Vals xs its.toList
def SqT(K:uc)(H:Hp)(a:Addr)(xs:List V):Prop :=
 Rd H a (.tup xs) \/
  ∃(o:Obj)(its:Array Value)(n:Nat),K.lookup a=some o/\o.cls=.type "tuple"/\o.data=.seq its n/\its.size<=sizeLine/\Vals xs its.toList
def absV:Value->Option V
 |.none=>some .non
 |.bool b=>some (.bl b)
 |.int i _=>some (.int i)
 |.str x _=>some (.str x)
 |.bytes b _=>some (.byt b)
 |.float b _=>some (.flt b)
 |.ref a=>some (.ref a)
 |.type n=>some (.ty n)
 |_=>none
theorem RelV.abs{x:V}(r:RelV x u):absV u=some x:=by
 cases x with
 |non=>cases r;rfl
 |bl _=>cases r;rfl
 |int _=>obtain⟨t,rfl⟩:=r;rfl
 |str _=>obtain⟨t,rfl⟩:=r;rfl
 |byt _=>obtain⟨t,rfl⟩:=r;rfl
 |flt _=>obtain⟨t,rfl⟩:=r;rfl
 |ref _=>cases r;rfl
 |ty _=>cases r;rfl
theorem RelV.inj{x y:V}(r:RelV x u)(q:RelV y u):x=y:=u5.inj (r.abs.symm.trans q.abs)
theorem Vals.inj:∀{xs ys:List V}{us:List Value},Vals xs us->Vals ys us->xs=ys
 |_,_,_,.nil,.nil=>rfl
 |_,_,_,.cons r t,.cons r' t'=>by rw[r.inj r',Vals.inj t t']
section
variable{ys:List V}
theorem SqL.of{K:uc}(h:H a=some (.lst xs)):SqL K H a xs:=.inl (.inl h)
theorem SqT.of{K:uc}(h:H a=some (.tup xs)):SqT K H a xs:=.inl (.inl h)
theorem Inv.list(I:Inv X pins σ H s)(h:SqL X.K H a xs):∃its:List Value,Vals xs its/\PlainL s.heap a its.toArray/\xs.length<=sizeLine:=by
 rcases h with h|⟨o,its,n,hk,hc,hd,hs,hz,r⟩
 ·obtain⟨z,its,n,r,e⟩:=h.ok I.hok
  exact⟨its,r,⟨_,n,e,rfl,rfl,rfl⟩,z⟩
 ·refine⟨its.toList,r,⟨o,n,I.kIn a o hk,hc,hd,by simpa using hs⟩,?_⟩
  have e:=r.length;simp only[Array.length_toList]at e
  lia
theorem Inv.tuple(I:Inv X pins σ H s)(h:SqT X.K H a xs):∃its:List Value,Vals xs its/\IsTup s.heap a its.toArray/\xs.length<=sizeLine:=by
 rcases h with h|⟨o,its,n,hk,hc,hs,hz,r⟩
 ·obtain⟨z,its,r,p⟩:=h.ok I.hok
  exact⟨its,r,p.is,z⟩
 ·refine⟨its.toList,r,⟨o,I.kIn a o hk,hc,n,by simpa using hs⟩,?_⟩
  have e:=r.length;simp only[Array.length_toList]at e
  lia
theorem Inv.list_inj(I:Inv X pins σ H s)(h:SqL X.K H a xs)(h':SqL X.K H a ys):xs=ys:=by
 obtain⟨its,r,⟨o,n,e,_,_,d⟩,_⟩:=I.list h;obtain⟨its',r',⟨o',n',e',_,_,d'⟩,_⟩:=I.list h';rw[e]at e';cases e';rw[d]at d';injection d' with d1 _
 have:its=its':=by simpa using congrArg Array.toList d1
 subst this;exact r.inj r'
theorem Inv.tuple_inj(I:Inv X pins σ H s)(h:SqT X.K H a xs)(h':SqT X.K H a ys):xs=ys:=by
 obtain⟨its,r,⟨o,e,_,n,d⟩,_⟩:=I.tuple h;obtain⟨its',r',⟨o',e',_,n',d'⟩,_⟩:=I.tuple h';rw[e]at e';cases e';rw[d]at d';injection d' with d1 _
 have:its=its':=by simpa using congrArg Array.toList d1
 subst this;exact r.inj r'
end
abbrev Cx.wish(X:Cx)(E:VSP):Cx:={ X with xe:=E }
abbrev Cx.nox(X:Cx):Cx:=X.wish fun _ _=>False
theorem Cx.Ok.wish(ok:X.Ok)(E:VSP):(X.wish E).Ok :=
 ⟨ok.mod,ok.kind,ok.glob,ok.blt,ok.above,ok.inj,ok.has,ok.cab,ok.hd,ok.frames,ok.stk,ok.exf,ok.bs,ok.bsz,ok.noex,ok.exfs,ok.funs,ok.frf⟩
theorem Cx.Ok.unwish(ok:(X.wish E).Ok):X.Ok :=
 ⟨ok.mod,ok.kind,ok.glob,ok.blt,ok.above,ok.inj,ok.has,ok.cab,ok.hd,ok.frames,ok.stk,ok.exf,ok.bs,ok.bsz,ok.noex,ok.exfs,ok.funs,ok.frf⟩
theorem Inv.wish(I:Inv X pins σ H s)(E:VSP):Inv (X.wish E) pins σ H s:=⟨I.ok.wish E,I.os,I.bare,I.base,I.loc,I.cell,I.free,I.freeC,I.pin,I.hok,I.len⟩
theorem Inv.unwish(I:Inv (X.wish E) pins σ H s):Inv X pins σ H s:=⟨I.ok.unwish,I.os,I.bare,I.base,I.loc,I.cell,I.free,I.freeC,I.pin,I.hok,I.len⟩
theorem SP.unwish{f:Flow}(h:SP (X.wish E) pins D f s'):SP X pins D f s':=by
 cases f with
 |next=>obtain⟨σ',H',I,q⟩:=h;exact⟨σ',H',I.unwish,q⟩
 |brk=>obtain⟨σ',H',I,q⟩:=h;exact⟨σ',H',I.unwish,q⟩
 |cont=>obtain⟨σ',H',I,q⟩:=h;exact⟨σ',H',I.unwish,q⟩
 |ret u=>obtain⟨v,σ',H',I,r,q⟩:=h;exact⟨v,σ',H',I.unwish,r,q⟩
theorem PSs.nox{st:List Stmt}{t:TS}(h:PSs X.nox st t):PSs X st t:=fun pins s σ H D I hw =>
 wpAny_mono (h pins s σ H D (I.wish _) hw) (fun _ _ q=>q.unwish) fun _ _ z=>False.elim z
section
variable{rest:List Stmt}{t u:TS}
def ve:TS:=fun D σ H=>D.nx σ H
def tSeq(t u:TS):TS:=fun D σ H=>t { D with nx:=u D } σ H
theorem V4:PSs X [] ve:=fun _ _ σ H _ I h=>wpAny_execs_nil ⟨σ,H,I,h⟩
theorem XV(h1:PS X st t)(h2:PSs X rest u):PSs X (st::rest) (tSeq t u):=by
 intro pins s σ H D I h;refine wpAny_execs_cons (thn (h1 pins s σ H { D with nx:=u D } I h) fun f s1 q=>?_);cases f with
 |next =>
  obtain⟨σ',H',I',q⟩:=q;exact h2 pins s1 σ' H' D I' q
 |ret v=>exact q
 |brk=>exact q
 |cont=>exact q
theorem V5(h1:PS X st t):PSs X [st] t:=by
 intro pins s σ H D I h;refine wpAny_execs_cons (thn (h1 pins s σ H D I h) fun f s1 q=>?_);cases f with
 |next=>exact wpAny_execs_nil q
 |ret v=>exact q
 |brk=>exact q
 |cont=>exact q
theorem Inv.quiet(I:Inv X pins σ H s):interactive X.env=false:=by simp[interactive,I.ok.kind]
def QB(te:TE):TS:=fun D σ H=>te σ H fun _ H1=>D.nx σ H1
theorem V6(he:PE X e te)(hs:swapsWith e none pos.line X.env=pure false:=by rfl):PS X (.Expr e pos) (QB te):=by
 intro pins s σ H D I h;exact wpAny_Expr_any (thn (he pins s σ H _ I h) fun v s1 ⟨x,H1,I1,r1,q1⟩=>⟨σ,H1,I1,q1⟩) I.quiet hs
def tRet(te:TE):TS:=fun D σ H=>te σ H D.rt
theorem zam(he:PE X e te):PS X (.Return (some e) pos) (tRet te):=by
 intro pins s σ H D I h;exact wpAny_Return_some (thn (he pins s σ H _ I h) fun v s1 ⟨x,H1,I1,r1,q1⟩=>⟨x,σ,H1,I1,r1,q1⟩)
def QC:TS:=fun D _ H=>D.rt .non H
theorem V7:PS X (.Return none pos) QC:=fun _ _ σ H _ I h=>wpAny_Return_none ⟨.non,σ,H,I,rfl,h⟩
def tIfS(c:TT)(t u:TS):TS:=fun D σ H=>c σ H fun b H1=>if b=true then t D σ H1 else u D σ H1
theorem zbB{a b:List Stmt}{tc:TT}(hc:PT X c tc)(ha:PSs X a t)(hb:PSs X b u):PS X (.If c a b pos) (tIfS tc t u):=by
 intro pins s σ H D I h;refine wpAny_If (thn (hc pins s σ H _ I h) fun d s1 hq_=>?_);obtain⟨H1,I1,q1⟩:=hq_;cases d with
 |true=>exact ha pins s1 σ H1 D I1 q1
 |false=>exact hb pins s1 σ H1 D I1 q1
end
abbrev TG:=V->St->Hp->(St->Hp->Prop)->Prop
abbrev TGs:=List V->St->Hp->(St->Hp->Prop)->Prop
def PG(X:Cx)(target:Expr)(t:TG):Prop :=
 ∀(pins:List (Addr×Obj))(s:Shared)(σ:St)(H:Hp)(v:V)(u:Value)(Q:St->Hp->Prop),Inv X pins σ H s->RelV v u->t v σ H Q ->
  wpAny (model X.prog X.w) X.A (assign target X.env u) (fun _ s'=>∃σ' H',Inv X pins σ' H' s'/\Q σ' H') X.xe s
def PGs(X:Cx)(ts:List Expr)(t:TGs):Prop :=
 ∀(pins:List (Addr×Obj))(s:Shared)(σ:St)(H:Hp)(vs:List V)(us:List Value)(Q:St->Hp->Prop),Inv X pins σ H s->Vals vs us->t vs σ H Q ->
  wpAny (model X.prog X.w) X.A (assignInOrder ((assignEach ts X.env).map (·.2)) us) (fun _ s'=>∃σ' H',Inv X pins σ' H' s'/\Q σ' H') X.xe s
abbrev TSet:=V->V->V->Hp->(Hp->Prop)->Prop
def PSet(X:Cx)(t:TSet):Prop :=
 ∀(pins:List (Addr×Obj))(s:Shared)(σ:St)(H:Hp)(o i v:V)(ov iv u:Value)(Q:Hp->Prop),Inv X pins σ H s->RelV o ov->RelV i iv->RelV v u->t o i v H Q ->
  wpAny (model X.prog X.w) X.A (setItem ov iv u) (fun _ s'=>∃H',Inv X pins σ H' s'/\Q H') X.xe s
def vP(i:Nat):TG:=fun v σ H Q=>Q (σ.set i (some v)) H
theorem V8(hN:X.N.Nodup)(hi:X.N[i]?=some x)(hx:Loc X.env.scope x)(hf:X.fn x=true\/X.env.scope.names.lookup x=some .local:=by first|exact .inl rfl|exact .inr rfl|assumption):PG X (.Name x pos) (vP i):=by
 intro pins s σ H v u Q I r h;exact wpAny_assign_Name (j8 I hN hi hx r (fun s' I'=>⟨_,H,I',h⟩) hf)
def gNil:TGs:=fun vs σ H Q=>vs=[]/\Q σ H
def QD(t:TG)(u:TGs):TGs:=fun vs σ H Q=>∃v r,vs=v::r/\t v σ H fun σ' H'=>u r σ' H' Q
theorem V9:PGs X [] gNil:=by
 intro pins s σ H vs us Q I r h;obtain⟨e,h⟩:=h;subst e;cases r;exact assignInOrder_nil ⟨σ,H,I,h⟩
theorem XW{t:TG}{u:TGs}(h1:PG X e t)(h2:PGs X es u)
  (hs:(assignEach (e::es) X.env).map (·.2)=assign e X.env::(assignEach es X.env).map (·.2):=by rfl):PGs X (e::es) (QD t u):=by
 intro pins s σ H vs us Q I r h;obtain⟨v,vr,e1,h⟩:=h;subst e1;cases r with
 |cons r rr =>
  rw[hs];refine assignInOrder_cons (thn (h1 pins s σ H _ _ _ I r h) fun _ s1 hq_=>?_);obtain⟨σ1,H1,I1,q1⟩:=hq_;exact h2 pins s1 σ1 H1 _ _ Q I1 rr q1
def gTup(K:uc)(n:Nat)(t:TGs):TG:=fun v σ H Q=>∃a xs,v=.ref a/\SqT K H a xs/\xs.length=n/\t xs σ H Q
theorem zan{k:Nat}{t:TGs}(hc:X.calm=true)(h:PGs X es t)
  (hn:(assignEach es X.env).length=n:=by rfl) (hst:(assignEach es X.env).findIdx? (·.1)=none:=by rfl):PG X (.Tuple es k pos) (gTup X.K n t):=by
 intro pins s σ H v u Q I r hw;obtain⟨a,xs,e1,hq,hl,hw⟩:=hw;subst e1;cases r;obtain⟨its,rv,ht,hz⟩:=I.tuple hq;refine assign_Tuple_tuple (I.ok.hd hc) ht (by simp[hn,<- hl,rv.length]) hst fun h' hx=>?_;have I1:Inv X pins σ H { s with heap:=h' }:=I.kept (t':=s.toks) fun b o e=>hx b o (uK (uA e)) e;exact h pins _ σ H xs _ Q I1 (by simpa using rv) hw
def gSub(to ti:TE)(t:TSet):TG:=fun v σ H Q=>to σ H fun o H1=>ti σ H1 fun i H2=>t o i v H2 fun H3=>Q σ H3
theorem zao{o i:Expr}{to ti:TE}{t:TSet}(ho:PE X o to)(hi:PE X i ti)(hs:PSet X t)
  (ha:∀v,assign (.Subscript o i pos) X.env v=(do
   let ov <- holding [v] (eval o X.env)
   let iv <- holding [v,ov] (eval i X.env)
   standAt pos
   holding [v,ov,iv] (setItem ov iv v)
   release [v,ov,iv] []):=by intro _;rfl):PG X (.Subscript o i pos) (gSub to ti t):=by
 intro pins s σ H v u Q I r h;rw[ha];refine wpAny_bind (wpAny_holding (thn (ho pins s σ H _ I h) fun ov s1 hq_=>?_));obtain⟨x,H1,I1,r1,q1⟩:=hq_;refine wpAny_bind (wpAny_holding (thn (hi pins s1 σ H1 _ I1 q1) fun iv s2 hq_=>?_));obtain⟨y,H2,I2,r2,q2⟩:=hq_;refine wpAny_bind (wpAny_standAt (wpAny_bind (wpAny_holding (thn (hs pins s2 σ H2 x y v ov iv u _ I2 r1 r2 r q2) fun _ s3 hq_=>?_))));obtain⟨H3,I3,q3⟩:=hq_;exact wpAny_release ⟨σ,H3,I3,q3⟩
def tAsg(te:TE)(g:TG):TS:=fun D σ H=>te σ H fun x H1=>g x σ H1 D.nx
theorem zap{g:TG}(he:PE X e te)(hg:PG X tg g)(hs:swapsWithSole [tg] e pos.line X.env=pure false:=by rfl)(hw:swappedStores [tg] e X.env=pure none:=by rfl)
  (h1:(assignEach [tg] X.env).map (·.2)=[assign tg X.env]:=by rfl):PS X (.Assign [tg] e pos) (tAsg te g):=by
 intro pins s σ H D I h;refine wpAny_Assign_stores (thn (he pins s σ H _ I h) fun v s1 ⟨x,H1,I1,r1,q1⟩=>?_) hs hw;rw[h1];exact thn (hg pins s1 σ H1 x v _ I1 r1 q1) fun _ s2 q=>q
theorem zaq(hN:X.N.Nodup)(hi:X.N[i]?=some x)(hx:Loc X.env.scope x)(he:PE X e te)(hs:swapsWith e (some (.Name x pos')) pos.line X.env=pure false:=by rfl)(hf:X.fn x=true\/X.env.scope.names.lookup x=some .local:=by first|exact .inl rfl|exact .inr rfl|assumption):
  PS X (.Assign [.Name x pos'] e pos) (tAsg te (vP i)):=by
 intro pins s σ H D I h;refine wpAny_Assign_Name (thn (he pins s σ H _ I h) fun v s1 ⟨y,H1,I1,r1,q1⟩=>?_) hs;exact j8 I1 hN hi hx r1 (fun s2 I2=>⟨_,H1,I2,q1⟩) hf
def XX(c:TT)(tb:TS):TS:=fun D σ H=>∃W:Nat->St->Hp->Prop,(∃m,W m σ H)/\∀m σ H,W m σ H ->
 c σ H fun b H1=>if b=true then ∃N:St->Hp->Prop,(∀σ' H',N σ' H'->∃m',m' < m/\W m' σ' H')/\tb { D with nx:=N,ct:=N,bk:=D.nx } σ H1 else D.nx σ H1
theorem XY{tc:TT}(hp:PassesOwn (model X.prog X.w) X.A X.env X.xe)(hc:PT X c tc)(hb:PSs X body tb):PS X (.While c body [] pos) (XX tc tb):=by
 intro pins s σ H D I h;obtain⟨W,⟨m0,w0⟩,turn⟩:=h;refine wpAny_While (codeAny_whileLoop (fun n s'=>∃σ' H',Inv X pins σ' H' s'/\W n σ' H') ?_ m0 ⟨σ,H,I,w0⟩);rintro n s1 ⟨σ1,H1,I1,w1⟩;refine wpAny_passesOwn hp (thn (hc pins s1 σ1 H1 _ I1 (turn n σ1 H1 w1)) fun b s2 hq_=>?_);obtain⟨H2,I2,q2⟩:=hq_;cases b with
 |true =>
  obtain⟨N,hN,q2⟩:=q2;rw[if_pos rfl];refine wpAny_passesOwn hp (thn (hb pins s2 σ1 H2 _ I2 q2) fun f s3 q3=>?_);cases f with
  |next =>
   obtain⟨σ3,H3,I3,n3⟩:=q3;obtain⟨m',hm,w3⟩:=hN σ3 H3 n3;exact⟨m',hm,σ3,H3,I3,w3⟩
  |cont =>
   obtain⟨σ3,H3,I3,n3⟩:=q3;obtain⟨m',hm,w3⟩:=hN σ3 H3 n3;exact⟨m',hm,σ3,H3,I3,w3⟩
  |brk=>exact q3
  |ret v=>exact q3
 |false =>
  rw[if_neg uw];exact wpAny_execs_nil ⟨σ1,H2,I2,q2⟩
structure It where
 go:Nat->Hp->Prop
 yld:Nat->Hp->V->Hp->Prop
 stop:Nat->Hp->Prop
def FpOk(X:Cx)(pins:List (Addr×Obj))(H:Hp)(b:Addr):Prop :=
 H b=none/\b≠X.env.locals/\b∉X.fs/\(b∈X.ex\/X.s₀.heap.objs.size<=b)/\(∀x c,X.env.cells.lookup x=some c->c≠b)/\∀p∈X.pn++pins,p.1≠b
theorem Inv.fpOk(I:Inv X pins σ H s)(hb:s.heap.objs.size<=b)(hn:H' b=none):FpOk X pins H' b:=by
 refine⟨hn,Nat.ne_of_gt (uB I.lt hb),I.nofs hb,.inr (uC I.sz hb),fun x c e z=>?_,fun p hp z=>?_⟩
 ·obtain⟨v,q⟩:=I.cell x c e
  exact absurd (uB q.lt (by rw[z];exact hb)) (Uo _)
 ·exact absurd (uB (uA (I.pin p hp).1) (by rw[z];exact hb)) (Uo _)
structure Turn(P:Program)(w:World)(K:uc)(tg:Expr)(J:It)(fp:List Addr)(it:Addr)(tn:Nat->Heap->Prop):Prop where
 mem:it∈fp
 obj:∀i h,tn i h->∀b∈fp,∃o,h.get? b=some o/\∀v,o.data≠.cell v
 keep:∀i h h',tn i h->(∀b∈fp,∀o,h.get? b=some o->h'.get? b=some o)->tn i h'
 item:∀(X:Cx),X.prog=P->X.w=w->X.K=K->X.calm=true->∀(i:Nat)(pins:List (Addr×Obj))(s:Shared)(σ:St)(H:Hp)(E:VSP),Inv X pins σ H s->(∀b∈fp,FpOk X pins H b)->tn i s.heap->J.go i H ->
  wpAny (model P w) X.A (pyNext (.ref it)) (fun r s1=>∃u,r=some u /\
   wpAny (model P w) X.A (letOwnedTupleGo tg (.ref it) u) (fun _ s2=>∃x H',Inv X pins σ H' s2/\RelV x u/\J.yld i H x H'/\tn (i+1) s2.heap/\∀b∈fp,H' b=none) E s1) E s
 done:∀(X:Cx),X.prog=P->X.w=w->X.K=K->X.calm=true->∀(i:Nat)(pins:List (Addr×Obj))(s:Shared)(σ:St)(H:Hp)(E:VSP),Inv X pins σ H s->(∀b∈fp,FpOk X pins H b)->tn i s.heap->J.stop i H ->
  wpAny (model P w) X.A (pyNext (.ref it)) (fun r s1=>r=none/\Inv X pins σ H s1) E s
 self:∀(A:Around)(i:Nat)(s:Shared)(Q:VSP)(E:VSP),tn i s.heap->Q (.ref it) s->wpAny (model P w) A (pyIter (.ref it)) Q E s
abbrev TI:=St->Hp->(It->Hp->Prop)->Prop
def PIE(X:Cx)(pins:List (Addr×Obj))(σ:St)(tg:Expr)(R:It->Hp->Prop)(itv:Value)(s2:Shared):Prop :=
 ∃(it:Addr)(fp:List Addr)(tn:Nat->Heap->Prop)(J:It)(H':Hp),itv=.ref it/\Inv X pins σ H' s2/\Turn X.prog X.w X.K tg J fp it tn/\tn 0 s2.heap/\(∀b∈fp,FpOk X pins H' b)/\R J H'
def PI(X:Cx)(tg iter:Expr)(wi:TI):Prop :=
 ∀(pins:List (Addr×Obj))(s:Shared)(σ:St)(H:Hp)(R:It->Hp->Prop),Inv X pins σ H s->wi σ H R ->
  wpAny (model X.prog X.w) X.A (eval iter X.env) (fun v s1=>wpAny (model X.prog X.w) X.A (pyIter v) (PIE X pins σ tg R) X.xe s1) X.xe s
theorem j9{o:Obj}{n:String}{vs:Array Value}(ho:s.heap.get? it=some o)(hc:o.cls=.type n)(hd:o.data=.fields vs)
  (hn:["enumerate","zip","dict_itemiterator","dict_reverseitemiterator","odict_iterator","itertools.zip_longest","itertools.pairwise"].contains n=false) (hQ:Q () s):wpAny M A (letOwnedTupleGo tg (.ref it) u) Q E s:=by
 unfold letOwnedTupleGo;cases tg<;>first
  |exact wpAny_pure hQ
  | (cases u<;>first
    |exact wpAny_pure hQ
    | (refine wpAny_bind (wpAny_load ho ?_)
       rw[hc,hd];show wpAny M A (if(["enumerate","zip","dict_itemiterator","dict_reverseitemiterator","odict_iterator","itertools.zip_longest","itertools.pairwise"].contains n && vs[0]? == some (rawInt _))=true then _ else _) Q E s;rw[if_neg (by intro h;rw[hn,Bool.false_and]at h;cases h)];exact wpAny_pure hQ))
def Itl(K:uc)(a:Addr):It :=
 ⟨fun i H=>∃xs x,SqL K H a xs/\xs[i]?=some x,fun i H x H'=>H'=H/\∀xs,SqL K H a xs->xs[i]?=some x,fun i H=>∃xs,SqL K H a xs/\xs.length<=i⟩
def Itt(K:uc)(a:Addr):It :=
 ⟨fun i H=>∃xs x,SqT K H a xs/\xs[i]?=some x,fun i H x H'=>H'=H/\∀xs,SqT K H a xs->xs[i]?=some x,fun i H=>∃xs,SqT K H a xs/\xs.length<=i⟩
def Itr(lo:Int)(n:Nat):It:=⟨fun i _=>i < n,fun i H x H'=>H'=H/\x=.int (lo+i),fun i _=>n<=i⟩
theorem Xj{K:uc}(a it:Addr):Turn P w K tg (Itl K a) [it] it (fun i h=>h.IsListIter it a i) where
 mem:=by simp
 obj:=fun i h st b hb=>by
  have e:b=it:=by simpa using hb
  subst e;obtain⟨o,e,c,d⟩:=st;exact⟨o,e,fun v z=>by rw[d]at z;cases z⟩
 keep:=fun i h h' st k=>st.at fun o e=>k it (by simp) o e
 item:=by
  intro X hP hw hK hc i pins s σ H E I hf st hg;subst hP hw hK;obtain⟨xs,x,hq,hx⟩:=hg;obtain⟨its,rv,p,hz⟩:=I.list hq;obtain⟨u,hu,ru⟩:=rv.get hx;obtain⟨f0,f1,f2,f3,f4,f5⟩:=hf it (by simp);refine wpAny_pyNext_list_item st p.isList (x:=u) (by simpa using hu) fun h' st' sb=>?_;have I1:Inv X pins σ H { s with heap:=h' }:=I.turned (t':=s.toks) (fun b o hb e=>(sb.2 b hb).trans e) f0 f1 f3 f4 f5;obtain⟨o,e,c,d⟩:=id st';exact⟨u,rfl,j9 (s:={ s with heap:=h' }) e c d (by decide) ⟨x,H,I1,ru,⟨rfl,fun ys hy=>by rw[I.list_inj hy hq];exact hx⟩,st',fun b hb=>(hf b hb).1⟩⟩
 done:=by
  intro X hP hw hK hc i pins s σ H E I hf st hg;subst hP hw hK;obtain⟨xs,hq,hx⟩:=hg;obtain⟨its,rv,p,hz⟩:=I.list hq;obtain⟨f0,f1,f2,f3,f4,f5⟩:=hf it (by simp);have hl:=rv.length;exact wpAny_pyNext_list_end (I.ok.hd hc) st p.isList (by simp;lia) fun h' eb=>⟨rfl,I.turned (t':=s.toks) (fun b o hb e=>eb b o hb e) f0 f1 f3 f4 f5⟩
 self:=fun _ _ _ _ _ st h=>wpAny_pyIter_listiter st h
theorem ZQ{K:uc}(a it:Addr):Turn P w K tg (Itt K a) [it] it (fun i h=>h.IsTupleIter it a i) where
 mem:=by simp
 obj:=fun i h st b hb=>by
  have e:b=it:=by simpa using hb
  subst e;obtain⟨o,e,c,d⟩:=st;exact⟨o,e,fun v z=>by rw[d]at z;cases z⟩
 keep:=fun i h h' st k=>st.at fun o e=>k it (by simp) o e
 item:=by
  intro X hP hw hK hc i pins s σ H E I hf st hg;subst hP hw hK;obtain⟨xs,x,hq,hx⟩:=hg;obtain⟨its,rv,p,hz⟩:=I.tuple hq;obtain⟨u,hu,ru⟩:=rv.get hx;obtain⟨f0,f1,f2,f3,f4,f5⟩:=hf it (by simp);refine wpAny_pyNext_tuple_item st (show s.heap.IsTuple a its.toArray from p) (x:=u) (by simpa using hu) fun h' st' sb=>?_;have I1:Inv X pins σ H { s with heap:=h' }:=I.turned (t':=s.toks) (fun b o hb e=>(sb.2 b hb).trans e) f0 f1 f3 f4 f5;obtain⟨o,e,c,d⟩:=id st';exact⟨u,rfl,j9 (s:={ s with heap:=h' }) e c d (by decide) ⟨x,H,I1,ru,⟨rfl,fun ys hy=>by rw[I.tuple_inj hy hq];exact hx⟩,st',fun b hb=>(hf b hb).1⟩⟩
 done:=by
  intro X hP hw hK hc i pins s σ H E I hf st hg;subst hP hw hK;obtain⟨xs,hq,hx⟩:=hg;obtain⟨its,rv,p,hz⟩:=I.tuple hq;obtain⟨f0,f1,f2,f3,f4,f5⟩:=hf it (by simp);have hl:=rv.length;exact wpAny_pyNext_tuple_end (I.ok.hd hc) st (show s.heap.IsTuple a its.toArray from p) (by simp;lia) fun h' eb=>⟨rfl,I.turned (t':=s.toks) (fun b o hb e=>eb b o hb e) f0 f1 f3 f4 f5⟩
 self:=fun _ _ _ _ _ st h=>wpAny_pyIter_tupleiter st h
theorem ZR{K:uc}(it:Addr)(lo:Int)(n:Nat):Turn P w K tg (Itr lo n) [it] it (fun i h=>IsRangeIter h it (lo+(i:Nat)*1) ((n:Int)-(i:Nat)) 1) where
 mem:=by simp
 obj:=fun i h st b hb=>by
  have e:b=it:=by simpa using hb
  subst e;exact⟨_,st,fun v z=>by
   have z':Data.fields _=Data.cell v:=z;cases z'⟩
 keep:=fun i h h' st k=>k it (by simp) _ st
 item:=by
  intro X hP hw hK hc i pins s σ H E I hf st hg;subst hP hw hK;obtain⟨f0,f1,f2,f3,f4,f5⟩:=hf it (by simp);have W:=Walks.range (prog:=X.prog) (w:=X.w) (I.ok.hd hc) it lo 1 n;refine W.item i s _ _ hg st fun v h' tk hv st' kk=>?_;obtain⟨t,rfl⟩:=hv;have I1:Inv X pins σ H { s with heap:=h',toks:=tk }:=I.turned (fun b o hb e=>kk b o (by simpa using hb) e) f0 f1 f3 f4 f5;refine⟨_,rfl,j9 (s:={ s with heap:=h',toks:=tk }) (n:="range_iterator") st' rfl rfl (by decide) ⟨.int (lo+i),H,I1,⟨t,?_⟩,⟨rfl,rfl⟩,st',fun b hb=>(hf b hb).1⟩⟩;rw[Int.mul_one]
 done:=by
  intro X hP hw hK hc i pins s σ H E I hf st hg;subst hP hw hK;obtain⟨f0,f1,f2,f3,f4,f5⟩:=hf it (by simp);exact wpAny_pyNext_range_end (I.ok.hd hc) st (by have:n<=i:=hg;lia) fun h' eb=>⟨rfl,I.turned (t':=s.toks) (fun b o hb e=>eb b o hb e) f0 f1 f3 f4 f5⟩
 self:=fun _ _ _ _ _ st h=>wpAny_pyIter_rangeiter st h
def QE(K:uc)(tl:TE):TI:=fun σ H R=>tl σ H fun x H1=>∃a,x=.ref a/\(∃xs,SqL K H1 a xs)/\R (Itl K a) H1
def iTup(K:uc)(tl:TE):TI:=fun σ H R=>tl σ H fun x H1=>∃a,x=.ref a/\(∃xs,SqT K H1 a xs)/\R (Itt K a) H1
theorem Ja{l:Expr}{tl:TE}(hl:PE X l tl):PI X tg l (QE X.K tl):=by
 intro pins s σ H R I h;refine thn (hl pins s σ H _ I h) fun v s1 hq_=>?_;obtain⟨x,H1,I1,r1,q1⟩:=hq_;obtain⟨a,e,⟨xs,hq⟩,q⟩:=q1;subst e;cases r1;obtain⟨its,rv,p,hz⟩:=I1.list hq;refine wpAny_pyIter_list p.isList ?_;refine⟨s1.heap.objs.size,[s1.heap.objs.size],_,_,H1,rfl,I1.kept (t':=s1.toks) fun b o e=>uf _ e,Xj a _,⟨_,uu _ rfl,rfl,rfl⟩,fun b hb=>?_,q⟩;have e:b=s1.heap.objs.size:=by simpa using hb
 subst e;exact I1.fpOk (ud _) (I1.hok.fresh (ud _))
theorem zar{l:Expr}{tl:TE}(hl:PE X l tl):PI X tg l (iTup X.K tl):=by
 intro pins s σ H R I h;refine thn (hl pins s σ H _ I h) fun v s1 hq_=>?_;obtain⟨x,H1,I1,r1,q1⟩:=hq_;obtain⟨a,e,⟨xs,hq⟩,q⟩:=q1;subst e;cases r1;obtain⟨its,rv,p,hz⟩:=I1.tuple hq;refine wpAny_pyIter_tuple (show s1.heap.IsTuple a its.toArray from p) ?_;refine⟨s1.heap.objs.size,[s1.heap.objs.size],_,_,H1,rfl,I1.kept (t':=s1.toks) fun b o e=>uf _ e,ZQ a _,⟨_,uu _ rfl,rfl,rfl⟩,fun b hb=>?_,q⟩;have e:b=s1.heap.objs.size:=by simpa using hb
 subst e;exact I1.fpOk (ud _) (I1.hok.fresh (ud _))
theorem XZ{R:It->Hp->Prop}{lo hi:Int}{t u v:Tok}{tk:Nat}(I:Inv X pins σ H s)(h1:-(2 ^ 62)<=lo)(h2:lo < 2 ^ 62)(h3:-(2 ^ 62)<=hi)(h4:hi < 2 ^ 62)
  (q:R (Itr lo (hi-lo).toNat) H):wpAny (model X.prog X.w) X.A (pyIter (.ref s.heap.objs.size)) (PIE X pins σ tg R) E { s with heap:=s.heap.push { cls:=.type "range",data:=.fields #[.int lo t,.int hi u,.int 1 v] },toks:=tk }:=by
 refine wpAny_pyIter_range (IsRange.new ..) (small_one h1 h2 h3 h4) ?_;have I1:Inv X pins σ H { s with heap:=s.heap.push { cls:=.type "range",data:=.fields #[.int lo t,.int hi u,.int 1 v] },toks:=tk }:=I.kept fun b o e=>uf _ e;refine⟨(s.heap.push { cls:=.type "range",data:=.fields #[.int lo t,.int hi u,.int 1 v] }).objs.size,[(s.heap.push { cls:=.type "range",data:=.fields #[.int lo t,.int hi u,.int 1 v] }).objs.size],_,_,H,rfl,
  I1.kept (t':=tk) fun b o e=>uf _ e,ZR _ lo (hi-lo).toNat,?_,fun b hb=>?_,q⟩
 ·have e1:lo+((0:Nat):Int)*1=lo:=by simp
  have e2:(((hi-lo).toNat:Nat):Int)-((0:Nat):Int)=Builtin.Range.rangeSize lo hi 1:=by rw[rangeSize_one];split<;>lia
  show IsRangeIter _ _ (lo+((0:Nat):Int)*1) ((((hi-lo).toNat:Nat):Int)-((0:Nat):Int)) 1;rw[e1,e2];exact uu _ rfl
 ·have e:b=(s.heap.push { cls:=.type "range",data:=.fields #[.int lo t,.int hi u,.int 1 v] }).objs.size:=by simpa using hb
  subst e;exact I1.fpOk (ud _) (I1.hok.fresh (ud _))
def QF(ta:TA):TI:=fun σ H R=>ta σ H fun vs H1=>∃j:Int,vs=[.int j]/\-(2 ^ 62)<=j/\j < 2 ^ 62/\R (Itr 0 j.toNat) H1
theorem Xk{a:Expr}{ta:TA}(hg:Gl X "range")(hm:X.mg "range"=none)(ha:PA X [a] ta)(hs:starEach [a] X.env=[(false,eval a X.env)]:=by rfl):PI X tg (.Call (.Name "range" p) [a] [] pos) (QF ta):=by
 intro pins s σ H R I h;refine Call_ (wA I hg hm boot_range (UA (thn (ha pos pins s σ H _ I h) fun us s1 ⟨vs,H1,I1,r1,q1⟩=>?_) hs rfl));obtain⟨j,e,q1,q2,q⟩:=q1;subst e;cases r1 with
 |cons r rr =>
  cases rr;obtain⟨t,rfl⟩:=r;exact call_range_1 (XZ I1 (by lia) (by lia) q1 q2 (by simpa using q))
def tFor(wi:TI)(g:TG)(tb:TS):TS:=fun D σ H=>wi σ H fun J H1=>∃W:Nat->Nat->St->Hp->Prop,(∃m,W 0 m σ H1)/\∀i m σ H,W i m σ H ->
 (J.stop i H/\D.nx σ H)\/(J.go i H/\∃N:St->Hp->Prop,(∀σ' H',N σ' H'->∃m',m' < m/\W (i+1) m' σ' H')/\∀x H',J.yld i H x H'->g x σ H' fun σ2 H2=>tb { D with nx:=N,ct:=N,bk:=D.nx } σ2 H2)
def vf(fp:List Addr)(h:Heap):List (Addr×Obj):=fp.filterMap fun b=>(h.get? b).map fun o=>(b,o)
theorem xJ{o:Obj}(hb:b∈fp)(e:h.get? b=some o):(b,o)∈vf fp h:=List.mem_filterMap.mpr ⟨b,hb,by rw[e];rfl⟩
theorem Xl{p:Addr×Obj}(hp:p∈vf fp h):p.1∈fp/\h.get? p.1=some p.2:=by
 obtain⟨b,hb,e⟩:=List.mem_filterMap.mp hp;cases q:h.get? b with
 |none=>rw[q]at e;cases e
 |some o =>
  rw[q]at e;have e':(b,o)=p:=u5.inj e;subst e';exact⟨hb,q⟩
theorem Inv.pinned(I:Inv X pins σ H s)(hf:∀b∈fp,FpOk X pins H b)(ho:∀b∈fp,∃o,s.heap.get? b=some o/\∀v,o.data≠.cell v):Inv X (pins++vf fp s.heap) σ H s :=
 I.pins_of fun p hp=>(uJ.mp hp).elim (fun z=>I.pin p (uG _ z)) fun z=>by
  obtain⟨hb,e⟩:=Xl z;obtain⟨f0,f1,f2,_⟩:=hf p.1 hb;obtain⟨o,e',d⟩:=ho p.1 hb;rw[e]at e';cases e';exact⟨e,f0,f1,f2,d⟩
theorem Inv.unpinned{pl:List (Addr×Obj)}(I:Inv X (pins++pl) σ H s):Inv X pins σ H s:=I.pins_of fun p hp=>I.pin p (uG _ (uP _ hp))
theorem zas{wi:TI}{g:TG}(hp:PassesOwn (model X.prog X.w) X.A X.env X.xe)(hc:X.calm=true)(hi:PI X tg iter wi)(hg:PG X tg g)(hb:PSs X body tb)
  (hs:∀x,foldedSetIterable iter X.env x=pure x:=by intro _;rfl):PS X (.For tg iter body [] pos) (tFor wi g tb):=by
 intro pins s σ H D I h;refine wpAny_For (thn (hi pins s σ H _ I h) fun v s1 h1=>thn h1 fun itv s2 h2=>?_) hs;obtain⟨it,fp,tn,J,H2,e,I2,T,st2,f2,W,⟨m0,w0⟩,turn⟩:=h2;subst e;have stat:∀{H':Hp},(∀b∈fp,H' b=none)->∀b∈fp,FpOk X pins H' b:=fun hn b hb=>⟨hn b hb,(f2 b hb).2⟩;refine codeAny_forLoop_any (fun n s'=>∃i σ' H',Inv X pins σ' H' s'/\tn i s'.heap/\(∀b∈fp,H' b=none)/\W i n σ' H') ?_ m0 ⟨0,σ,H2,I2,st2,fun b hb=>(f2 b hb).1,w0⟩;rintro n s3 ⟨i,σ3,H3,I3,st3,fr3,w3⟩;rcases turn i n σ3 H3 w3 with⟨stop,qn⟩|⟨go,N,hN,step⟩
 ·refine wpAny_passesOwn hp (thn (T.done X rfl rfl rfl hc i pins s3 σ3 H3 X.xe I3 (stat fr3) st3 stop) fun r s4 hq_=>?_)
  obtain⟨hr,I4⟩:=hq_;subst hr;exact wpAny_execs_nil ⟨σ3,H3,I4,qn⟩
 ·refine wpAny_passesOwn hp (thn (T.item X rfl rfl rfl hc i pins s3 σ3 H3 X.xe I3 (stat fr3) st3 go) fun r s4 hq_=>?_)
  obtain⟨u,hr,h4⟩:=hq_;subst hr;refine wpAny_passesOwn hp (thn h4 fun _ s5 hq_=>?_);obtain⟨x,H5,I5,r5,y5,st5,fr5⟩:=hq_;have I5':=I5.pinned (stat fr5) (T.obj _ _ st5);refine wpAny_passesOwn hp (thn (hg _ s5 σ3 H5 x u _ I5' r5 (step x H5 y5)) fun _ s6 hq_=>?_);obtain⟨σ6,H6,I6,q6⟩:=hq_;refine wpAny_passesOwn hp (thn (hb _ s6 σ6 H6 _ I6 q6) fun f s7 q7=>?_);have again:∀{σ7:St}{H7:Hp},Inv X (pins++vf fp s5.heap) σ7 H7 s7->N σ7 H7->∃m,m < n/\∃i σ' H',Inv X pins σ' H' s7/\tn i s7.heap/\(∀b∈fp,H' b=none)/\W i m σ' H':=fun{σ7 H7} I7 n7=>by
   obtain⟨m',hm,w7⟩:=hN σ7 H7 n7;refine⟨m',hm,i+1,σ7,H7,I7.unpinned,T.keep _ _ _ st5 fun b hb o e=>(I7.pin (b,o) (uG _ (uG _ (xJ hb e)))).1,fun b hb=>?_,w7⟩;obtain⟨o,e,d⟩:=T.obj _ _ st5 b hb;exact(I7.pin (b,o) (uG _ (uG _ (xJ hb e)))).2.1
  cases f with
  |next=>obtain⟨σ7,H7,I7,n7⟩:=q7;exact again I7 n7
  |cont=>obtain⟨σ7,H7,I7,n7⟩:=q7;exact again I7 n7
  |brk=>obtain⟨σ7,H7,I7,q7⟩:=q7;exact⟨σ7,H7,I7.unpinned,q7⟩
  |ret v=>obtain⟨x7,σ7,H7,I7,r7,q7⟩:=q7;exact⟨x7,σ7,H7,I7.unpinned,r7,q7⟩
theorem yz{K:uc}{g:TG}(Pv:Nat->St->Hp->Prop)(h0:Pv 0 σ H)(hl:∀i σ H,i<=xs.length->Pv i σ H->SqL K H a xs)
  (hs:∀i x σ H,xs[i]?=some x->Pv i σ H->g x σ H fun σ2 H2=>tb { D with nx:=Pv (i+1),ct:=Pv (i+1),bk:=D.nx } σ2 H2) (hd:∀σ H,Pv xs.length σ H->D.nx σ H) :
  ∃W:Nat->Nat->St->Hp->Prop,(∃m,W 0 m σ H)/\∀i m σ H,W i m σ H ->
   ((Itl K a).stop i H/\D.nx σ H)\/((Itl K a).go i H/\∃N:St->Hp->Prop,(∀σ' H',N σ' H'->∃m',m' < m/\W (i+1) m' σ' H')/\∀x H',(Itl K a).yld i H x H'->g x σ H' fun σ2 H2=>tb { D with nx:=N,ct:=N,bk:=D.nx } σ2 H2):=by
 refine⟨fun i m σ H=>m=xs.length-i/\i<=xs.length/\Pv i σ H,⟨xs.length,by simp,uF _,h0⟩,?_⟩;rintro i m σ H ⟨rfl,hi,p⟩;have q:=hl i σ H hi p;by_cases hlt:i < xs.length
 ·refine .inr ⟨⟨xs,xs[i],q,by simp[hlt]⟩,Pv (i+1),fun σ' H' p'=>⟨xs.length-(i+1),by lia,rfl,hlt,p'⟩,fun x H' y=>?_⟩
  obtain⟨e,y⟩:=y;subst e;exact hs i x σ _ (y xs q) p
 ·have e:i=xs.length:=by lia
  subst e;exact .inl ⟨⟨xs,q,ud _⟩,hd σ H p⟩
theorem xx{K:uc}{g:TG}(Pv:Nat->St->Hp->Prop)(h0:Pv 0 σ H)(hl:∀i σ H,i<=xs.length->Pv i σ H->SqT K H a xs)
  (hs:∀i x σ H,xs[i]?=some x->Pv i σ H->g x σ H fun σ2 H2=>tb { D with nx:=Pv (i+1),ct:=Pv (i+1),bk:=D.nx } σ2 H2) (hd:∀σ H,Pv xs.length σ H->D.nx σ H) :
  ∃W:Nat->Nat->St->Hp->Prop,(∃m,W 0 m σ H)/\∀i m σ H,W i m σ H ->
   ((Itt K a).stop i H/\D.nx σ H)\/((Itt K a).go i H/\∃N:St->Hp->Prop,(∀σ' H',N σ' H'->∃m',m' < m/\W (i+1) m' σ' H')/\∀x H',(Itt K a).yld i H x H'->g x σ H' fun σ2 H2=>tb { D with nx:=N,ct:=N,bk:=D.nx } σ2 H2):=by
 refine⟨fun i m σ H=>m=xs.length-i/\i<=xs.length/\Pv i σ H,⟨xs.length,by simp,uF _,h0⟩,?_⟩;rintro i m σ H ⟨rfl,hi,p⟩;have q:=hl i σ H hi p;by_cases hlt:i < xs.length
 ·refine .inr ⟨⟨xs,xs[i],q,by simp[hlt]⟩,Pv (i+1),fun σ' H' p'=>⟨xs.length-(i+1),by lia,rfl,hlt,p'⟩,fun x H' y=>?_⟩
  obtain⟨e,y⟩:=y;subst e;exact hs i x σ _ (y xs q) p
 ·have e:i=xs.length:=by lia
  subst e;exact .inl ⟨⟨xs,q,ud _⟩,hd σ H p⟩
theorem yT{lo:Int}{g:TG}(Pv:Nat->St->Hp->Prop)(h0:Pv 0 σ H)
  (hs:∀i σ H,i < n->Pv i σ H->g (.int (lo+i)) σ H fun σ2 H2=>tb { D with nx:=Pv (i+1),ct:=Pv (i+1),bk:=D.nx } σ2 H2) (hd:∀σ H,Pv n σ H->D.nx σ H) :
  ∃W:Nat->Nat->St->Hp->Prop,(∃m,W 0 m σ H)/\∀i m σ H,W i m σ H ->
   ((Itr lo n).stop i H/\D.nx σ H)\/((Itr lo n).go i H/\∃N:St->Hp->Prop,(∀σ' H',N σ' H'->∃m',m' < m/\W (i+1) m' σ' H')/\∀x H',(Itr lo n).yld i H x H'->g x σ H' fun σ2 H2=>tb { D with nx:=N,ct:=N,bk:=D.nx } σ2 H2):=by
 refine⟨fun i m σ H=>m=n-i/\i<=n/\Pv i σ H,⟨n,by simp,uF _,h0⟩,?_⟩;rintro i m σ H ⟨rfl,hi,p⟩;by_cases hlt:i < n
 ·refine .inr ⟨hlt,Pv (i+1),fun σ' H' p'=>⟨n-(i+1),by lia,rfl,hlt,p'⟩,fun x H' y=>?_⟩
  obtain⟨e,y⟩:=y;subst e y;exact hs i σ _ hlt p
 ·have e:i=n:=by lia
  subst e;exact .inl ⟨ud _,hd σ H p⟩
abbrev R2:=V->V->Hp->VK->Prop
def OpR(X:Cx)(f:Value->Value->Sem Value)(r:R2):Prop :=
 ∀(pins:List (Addr×Obj))(s:Shared)(σ:St)(H:Hp)(x y:V)(v u:Value)(Q:VK),Inv X pins σ H s->RelV x v->RelV y u->r x y H Q ->
  wpAny (model X.prog X.w) X.A (f v u) (EP X pins σ Q) X.xe s
def UnR(X:Cx)(f:Value->Sem Value)(r:V->Hp->VK->Prop):Prop :=
 ∀(pins:List (Addr×Obj))(s:Shared)(σ:St)(H:Hp)(x:V)(v:Value)(Q:VK),Inv X pins σ H s->RelV x v->r x H Q ->
  wpAny (model X.prog X.w) X.A (f v) (EP X pins σ Q) X.xe s
def yE(X:Cx)(f:Value)(r:List V->Hp->VK->Prop):Prop :=
 ∀(pins:List (Addr×Obj))(s:Shared)(σ:St)(H:Hp)(xs:List V)(us:List Value)(Q:VK),Inv X pins σ H s->Vals xs us->r xs H Q ->
  wpAny (model X.prog X.w) X.A (call f us) (EP X pins σ Q) X.xe s
def tOp(r:R2)(ta tb:TE):TE:=fun σ H Q=>ta σ H fun x H1=>tb σ H1 fun y H2=>r x y H2 Q
def tUn(r:V->Hp->VK->Prop)(ta:TE):TE:=fun σ H Q=>ta σ H fun x H1=>r x H1 Q
def rI(C:Int->Int->Prop)(g:Int->Int->V):R2:=fun x y H Q=>∃i j,x=.int i/\y=.int j/\C i j/\Q (g i j) H
def rI0(g:Int->Int->V):R2:=fun x y H Q=>∃i j,x=.int i/\y=.int j/\Q (g i j) H
def rU(g:Int->V):V->Hp->VK->Prop:=fun x H Q=>∃i,x=.int i/\Q (g i) H
section
variable{a b:Expr}{tb tc:TE}
theorem binT(ha:PE X a ta)(hb:PE X b tb){R:V->V->Hp->Prop}(I:Inv X pins σ H s)
  (h:ta σ H fun x H1=>tb σ H1 fun y H2=>R x y H2) {Q:VSP} {f:Value->Value->Sem Value}
  (hf:∀v u s2 x y H2,Inv X pins σ H2 s2->RelV x v->RelV y u->R x y H2->wpAny (model X.prog X.w) X.A (f v u) Q X.xe s2) :
  wpAny (model X.prog X.w) X.A (eval a X.env) (fun v s₁=>wpAny (model X.prog X.w) X.A (eval b X.env) (fun u s₂=>wpAny (model X.prog X.w) X.A (f v u) Q X.xe s₂) X.xe s₁) X.xe s:=by
 refine thn (ha pins s σ H _ I h) fun v s1 hq_=>?_;obtain⟨x,H1,I1,r1,q1⟩:=hq_;refine thn (hb pins s1 σ H1 _ I1 q1) fun u s2 hq_=>?_;obtain⟨y,H2,I2,r2,q2⟩:=hq_;exact hf v u s2 x y H2 I2 r1 r2 q2
theorem zbC{op:Operator}{r:R2}(ho:OpR X (binaryOp op) r)(ha:PE X a ta)(hb:PE X b tb):PE X (.BinOp a op b pos) (tOp r ta tb):=by
 intro pins s σ H Q I h;exact wpAny_BinOp (binT ha hb I h fun v u s2 x y H2 I2 rx ry q=>ho pins s2 σ H2 x y v u Q I2 rx ry q)
theorem zbD{op:UnaryOp}{r:V->Hp->VK->Prop}(ho:UnR X (unaryOp op) r)(ha:PE X a ta):PE X (.UnaryOp op a pos) (tUn r ta):=by
 intro pins s σ H Q I h;exact UnaryOp_ (thn (ha pins s σ H _ I h) fun v s1 ⟨x,H1,I1,r1,q1⟩=>ho pins s1 σ H1 x v Q I1 r1 q1)
theorem opI{f:Value->Value->Sem Value}{C:Int->Int->Prop}
  (rule:∀(i j:Int)(t u:Tok)(s:Shared)(Q:VSP)(E:VSP),C i j->Q (.int (g i j) s.toks) { s with toks:=s.toks+1 }->wpAny (model X.prog X.w) X.A (f (.int i t) (.int j u)) Q E s) :
  OpR X f (rI C fun i j=>.int (g i j)):=by
 intro pins s σ H x y v u Q I rx ry h;obtain⟨i,j,rfl,rfl,hc,q⟩:=h;obtain⟨t,rfl⟩:=rx;obtain⟨t',rfl⟩:=ry;exact rule i j t t' s _ _ hc ⟨.int (g i j),H,I.tok _,⟨_,rfl⟩,q⟩
theorem opI0{f:Value->Value->Sem Value}
  (rule:∀(i j:Int)(t u:Tok)(s:Shared)(Q:VSP)(E:VSP),Q (.int (g i j) s.toks) { s with toks:=s.toks+1 }->wpAny (model X.prog X.w) X.A (f (.int i t) (.int j u)) Q E s) :
  OpR X f (rI0 fun i j=>.int (g i j)):=by
 intro pins s σ H x y v u Q I rx ry h;obtain⟨i,j,rfl,rfl,q⟩:=h;obtain⟨t,rfl⟩:=rx;obtain⟨t',rfl⟩:=ry;exact rule i j t t' s _ _ ⟨.int (g i j),H,I.tok _,⟨_,rfl⟩,q⟩
theorem opB0{f:Value->Value->Sem Value}{g:Int->Int->Bool}
  (rule:∀(i j:Int)(t u:Tok)(s:Shared)(Q:VSP)(E:VSP),Q (.bool (g i j)) s->wpAny (model X.prog X.w) X.A (f (.int i t) (.int j u)) Q E s) :
  OpR X f (rI0 fun i j=>.bl (g i j)):=by
 intro pins s σ H x y v u Q I rx ry h;obtain⟨i,j,rfl,rfl,q⟩:=h;obtain⟨t,rfl⟩:=rx;obtain⟨t',rfl⟩:=ry;exact rule i j t t' s _ _ ⟨.bl (g i j),H,I,rfl,q⟩
def CDiv(i j:Int):Prop:=0 < j/\j < 1073741824
def CMul(i j:Int):Prop:=(-(2 ^ 64) < i/\i < 2 ^ 64)\/(-(2 ^ 64) < j/\j < 2 ^ 64)
theorem CMul.ok{i j:Int}(h:CMul i j):IntMulOk i j:=by
 rcases h with⟨h1,h2⟩|⟨h1,h2⟩
 ·exact .of_left (intBits_le_64 h1 h2)
 ·exact .of_right (intBits_le_64 h1 h2)
theorem zat:OpR X (binaryOp .Add) (rI0 fun i j=>.int (i+j)):=opI0 fun _ _ _ _ _ _ _ q=>add_int q
theorem zau:OpR X (binaryOp .Sub) (rI0 fun i j=>.int (i-j)):=opI0 fun _ _ _ _ _ _ _ q=>sub_int q
theorem zav:OpR X (binaryOp .Mult) (rI CMul fun i j=>.int (i*j)):=opI fun _ _ _ _ _ _ _ hc q=>mul_int q hc.ok
theorem Jb:OpR X (binaryOp .FloorDiv) (rI CDiv fun i j=>.int (i / j)):=opI fun i j _ _ _ _ _ hc q=>by
 have h1:(0:Int) < j:=hc.1;have h2:j < 1073741824:=hc.2;exact floordiv_int (by lia) (by rw[Int.fdiv_eq_ediv_of_nonneg i (by lia)];exact q) (.inl (PyProof.noPylong_small (by lia)))
theorem zaw:OpR X (binaryOp .Mod) (rI (fun _ j=>0 < j) fun i j=>.int (i % j)):=opI fun i j _ _ _ _ _ hc q=>by
 have h1:(0:Int) < j:=hc;exact mod_int' (by lia) (by rw[Int.fmod_eq_emod_of_nonneg i (by lia)];exact q)
theorem unI{f:Value->Sem Value}{g:Int->Int}
  (rule:∀(i:Int)(t:Tok)(s:Shared)(Q:VSP)(E:VSP),Q (.int (g i) s.toks) { s with toks:=s.toks+1 }->wpAny (model X.prog X.w) X.A (f (.int i t)) Q E s) :
  UnR X f (rU fun i=>.int (g i)):=by
 intro pins s σ H x v Q I rx h;obtain⟨i,rfl,q⟩:=h;obtain⟨t,rfl⟩:=rx;exact rule i t s _ _ ⟨.int (g i),H,I.tok _,⟨_,rfl⟩,q⟩
theorem zax:UnR X (unaryOp .USub) (rU fun i=>.int (-i)):=unI fun _ _ _ _ _ q=>neg_int q
def scal:V->V->Bool
 |.non,.non=>true|.non,.int _=>true|.int _,.non=>true|.non,.bl _=>true|.bl _,.non=>true|.non,.str _=>true|.str _,.non=>true
 |.int _,.int _=>true|.bl _,.bl _=>true|.str _,.str _=>true|.byt _,.byt _=>true
 |.int _,.str _=>true|.str _,.int _=>true|.bl _,.str _=>true|.str _,.bl _=>true
 |_,_=>false
def rEq:R2:=fun x y H Q=>scal x y=true/\Q (.bl (decide (x=y))) H
def rNe:R2:=fun x y H Q=>scal x y=true/\Q (.bl (!decide (x=y))) H
theorem Yz{i j:Int}:decide (V.int i=V.int j)=(i == j):=by
 rw[Bool.eq_iff_iff];simp
theorem X0{i j:Bool}:decide (V.bl i=V.bl j)=(i == j):=by
 rw[Bool.eq_iff_iff];simp
theorem YA{i j:Str}:decide (V.str i=V.str j)=(i == j):=by
 rw[Bool.eq_iff_iff];simp
theorem YB{i j:Array UInt8}:decide (V.byt i=V.byt j)=(i.toList == j.toList):=by
 rw[Bool.eq_iff_iff];cases i;cases j;simp
theorem zI{Q:VK}{k k':Bool}(I:Inv X pins σ H s)(q:Q (.bl k) H)(e:k=k'):EP X pins σ Q (.bool k') s:=by
 subst e;exact⟨.bl k,H,I,rfl,q⟩
theorem zbE:OpR X (compareOp .Eq) rEq:=by
 intro pins s σ H x y v u Q I rx ry h;obtain⟨hs,q⟩:=h;cases x with
 |non =>
  cases rx;cases y with
  |non=>cases ry;exact PySem.EqNone.eq_none_none (zI I q (by simp))
  |bl j=>cases ry;exact PySem.EqNone.eq_none_bool (zI I q (by simp))
  |int j=>obtain⟨t',rfl⟩:=ry;exact PySem.EqNone.eq_none_int (zI I q (by simp))
  |str j=>obtain⟨t',rfl⟩:=ry;exact PySem.EqNone.eq_none_str (zI I q (by simp))
  |_=>exact absurd (show false=true from hs) uw
 |bl i =>
  cases rx;cases y with
  |non=>cases ry;exact PySem.EqNone.eq_bool_none (zI I q (by simp))
  |bl j=>cases ry;exact eq_bool (zI I q X0)
  |str j=>obtain⟨t',rfl⟩:=ry;exact PySem.EqMixed.eq_bool_str (zI I q (by simp))
  |_=>exact absurd (show false=true from hs) uw
 |int i =>
  obtain⟨t,rfl⟩:=rx;cases y with
  |non=>cases ry;exact PySem.EqNone.eq_int_none (zI I q (by simp))
  |int j=>obtain⟨t',rfl⟩:=ry;exact eq_int (zI I q Yz)
  |str j=>obtain⟨t',rfl⟩:=ry;exact PySem.EqMixed.eq_int_str (zI I q (by simp))
  |_=>exact absurd (show false=true from hs) uw
 |str i =>
  obtain⟨t,rfl⟩:=rx;cases y with
  |non=>cases ry;exact PySem.EqNone.eq_str_none (zI I q (by simp))
  |bl j=>cases ry;exact PySem.EqMixed.eq_str_bool (zI I q (by simp))
  |int j=>obtain⟨t',rfl⟩:=ry;exact PySem.EqMixed.eq_str_int (zI I q (by simp))
  |str j=>obtain⟨t',rfl⟩:=ry;exact eq_str (zI I q YA)
  |_=>exact absurd (show false=true from hs) uw
 |byt i =>
  obtain⟨t,rfl⟩:=rx;cases y with
  |byt j=>obtain⟨t',rfl⟩:=ry;exact PySem.W.eq_bytes (zI I q YB)
  |_=>exact absurd (show false=true from hs) uw
 |_=>cases y<;>exact absurd (show false=true from hs) uw
theorem zbF:OpR X (compareOp .NotEq) rNe:=by
 intro pins s σ H x y v u Q I rx ry h;obtain⟨hs,q⟩:=h;cases x with
 |non =>
  cases rx;cases y with
  |non=>cases ry;exact PySem.EqNone.ne_none_none (zI I q (by simp))
  |bl j=>cases ry;exact PySem.EqNone.ne_none_bool (zI I q (by simp))
  |int j=>obtain⟨t',rfl⟩:=ry;exact PySem.EqNone.ne_none_int (zI I q (by simp))
  |str j=>obtain⟨t',rfl⟩:=ry;exact PySem.EqNone.ne_none_str (zI I q (by simp))
  |_=>exact absurd (show false=true from hs) uw
 |bl i =>
  cases rx;cases y with
  |non=>cases ry;exact PySem.EqNone.ne_bool_none (zI I q (by simp))
  |bl j=>cases ry;exact ne_bool (zI I q (congrArg not X0))
  |str j=>obtain⟨t',rfl⟩:=ry;exact PySem.EqMixed.ne_bool_str (zI I q (by simp))
  |_=>exact absurd (show false=true from hs) uw
 |int i =>
  obtain⟨t,rfl⟩:=rx;cases y with
  |non=>cases ry;exact PySem.EqNone.ne_int_none (zI I q (by simp))
  |int j=>obtain⟨t',rfl⟩:=ry;exact ne_int (zI I q (congrArg not Yz))
  |str j=>obtain⟨t',rfl⟩:=ry;exact PySem.EqMixed.ne_int_str (zI I q (by simp))
  |_=>exact absurd (show false=true from hs) uw
 |str i =>
  obtain⟨t,rfl⟩:=rx;cases y with
  |non=>cases ry;exact PySem.EqNone.ne_str_none (zI I q (by simp))
  |bl j=>cases ry;exact PySem.EqMixed.ne_str_bool (zI I q (by simp))
  |int j=>obtain⟨t',rfl⟩:=ry;exact PySem.EqMixed.ne_str_int (zI I q (by simp))
  |str j=>obtain⟨t',rfl⟩:=ry;exact ne_str (zI I q (congrArg not YA))
  |_=>exact absurd (show false=true from hs) uw
 |byt i =>
  obtain⟨t,rfl⟩:=rx;cases y with
  |byt j=>obtain⟨t',rfl⟩:=ry;exact PySem.W.ne_bytes (zI I q (congrArg not YB))
  |_=>exact absurd (show false=true from hs) uw
 |_=>cases y<;>exact absurd (show false=true from hs) uw
theorem zbG:OpR X (compareOp .Lt) (rI0 fun i j=>.bl (decide (i < j))):=opB0 fun _ _ _ _ _ _ _ q=>lt_int q
theorem zbH:OpR X (compareOp .LtE) (rI0 fun i j=>.bl (decide (i<=j))):=opB0 fun _ _ _ _ _ _ _ q=>le_int q
theorem zbI:OpR X (compareOp .Gt) (rI0 fun i j=>.bl (decide (j < i))):=opB0 fun _ _ _ _ _ _ _ q=>gt_int q
theorem zbJ:OpR X (compareOp .GtE) (rI0 fun i j=>.bl (decide (j<=i))):=opB0 fun _ _ _ _ _ _ _ q=>ge_int q
theorem wB(b:Expr)(h:op≠.In:=by decide)(h2:op≠.NotIn:=by decide):behindInMarks op b=false:=by
 have e1:(op == CmpOp.In)=false:=by cases op<;>first|rfl|exact absurd rfl h
 have e2:(op == CmpOp.NotIn)=false:=by cases op<;>first|rfl|exact absurd rfl h2
 cases b<;>simp[behindInMarks,e1,e2]
theorem Jc{r:R2}(ho:OpR X (compareOp op) r)(ha:PE X a ta)(hb:PE X b tb)(hm:behindInMarks op b=false):PE X (.Compare a [op] [b] pos) (tOp r ta tb):=by
 intro pins s σ H Q I h;exact wpAny_Compare1 (binT ha hb I h fun v u s2 x y H2 I2 rx ry q=>ho pins s2 σ H2 x y v u Q I2 rx ry q) hm
def X1(t:TE):TT:=fun σ H Q=>t σ H fun x H'=>∃k,x=.bl k/\Q k H'
theorem Jd{r:R2}(ho:OpR X (compareOp op) r)(ha:PE X a ta)(hb:PE X b tb)(hm:behindInMarks op b=false):PT X (.Compare a [op] [b] pos) (X1 (tOp r ta tb)):=by
 intro pins s σ H Q I h;refine wpAny_isTrue_Compare1 (thn (ha pins s σ H _ I h) fun v s1 ⟨x,H1,I1,r1,q1⟩=>thn (hb pins s1 σ H1 _ I1 q1) fun u s2 ⟨y,H2,I2,r2,q2⟩ =>
  thn (ho pins s2 σ H2 x y v u _ I2 r1 r2 q2) fun c s3 ⟨z,H3,I3,r3,k,e,q3⟩=>?_) hm
 subst e;cases r3;exact wpAny_truthy_bool ⟨H3,I3,q3⟩
theorem wC:(sizeLine:Nat) < 2 ^ 63:=by rw[sizeLine_eq];decide
theorem ZT:OpR X (binaryOp .Add) (fun x y H Q=>∃i j,x=.str i/\y=.str j/\i.length+j.length<=sizeLine/\Q (.str (i++j)) H):=by
 intro pins s σ H x y v u Q I rx ry h;obtain⟨i,j,rfl,rfl,hz,q⟩:=h;obtain⟨t,rfl⟩:=rx;obtain⟨t',rfl⟩:=ry;exact add_str (fun t' tk=>⟨.str (i++j),H,I.tok _,⟨_,rfl⟩,q⟩) hz
theorem xG{x:V}(r:Vals [x] us):∃u,us=[u]/\RelV x u:=by
 cases r with
 |cons r1 r2=>cases r2;exact⟨_,rfl,r1⟩
theorem YC{x y:V}(r:Vals [x,y] us):∃u w',us=[u,w']/\RelV x u/\RelV y w':=by
 cases r with
 |cons r1 r2 =>
  cases r2 with
  |cons r3 r4=>cases r4;exact⟨_,_,rfl,r1,r3⟩
theorem Xm(hc:X.calm=true):yE X (.builtin "min") (fun xs H Q=>∃i j,xs=[.int i,.int j]/\Q (.int (if j < i then j else i)) H):=by
 intro pins s σ H xs us Q I r h;obtain⟨i,j,rfl,q⟩:=h;obtain⟨u,w',rfl,⟨t,rfl⟩,⟨t',rfl⟩⟩:=YC r;refine min_two_ints (I.ok.hd hc) fun h' tk k=>⟨_,H,I.kept k,?_,q⟩;by_cases hj:j < i
 ·rw[if_pos hj,if_pos hj];exact⟨_,rfl⟩
 ·rw[if_neg hj,if_neg hj];exact⟨_,rfl⟩
theorem Xn:yE X (.type "int") (fun xs H Q=>(∃i,xs=[.int i]/\Q (.int i) H)\/∃k,xs=[.bl k]/\Q (.int (if k then 1 else 0)) H):=by
 intro pins s σ H xs us Q I r h;rcases h with⟨i,rfl,q⟩|⟨k,rfl,q⟩
 ·obtain⟨u,rfl,t,rfl⟩:=xG r
  exact call_int_int ⟨.int i,H,I,⟨_,rfl⟩,q⟩
 ·obtain⟨u,rfl,r1⟩:=xG r
  cases r1;exact call_int_bool ⟨.int (if k then 1 else 0),H,I.tok _,⟨_,rfl⟩,q⟩
end
structure ObjM(h:Heap)(x dx C:Addr)(mA:Str->Option Value):Prop where
 obj:h.get? x=some (Ux C dx)
 ns:h.Ns1 dx mA
 ne:dx≠x
theorem Xo(n:h.Ns1 dx mA):∃od,h.get? dx=some od/\∀name,PySem.W.lookIn name od=some (mA name):=by
 obtain⟨o,es,ep,ho,hd,hk,_,hm⟩:=n;refine⟨o,ho,fun name=>?_⟩;have e:=hm name;unfold nsFind findBy at e;rw[<- Array.find?_toList]at e;unfold PySem.W.lookIn;rw[hd];dsimp only
 split
 ·rename_i y q
  rw[q]at e;exact congrArg some e
 ·rename_i q
  rw[q]at e;have a:es.toList.any (·.refKey)=false:=by
   rw[List.any_eq_false];intro y hy;obtain⟨z,t,hkey⟩:=hk y (Array.mem_toList_iff.mp hy);simp[DictEntry.refKey,hkey]
  have a':¬ es.toList.any (·.refKey)=true:=by rw[a];exact uw
  rw[if_neg a'];exact congrArg some e
theorem ObjM.look{x:Addr}(I:ObjM h x dx C mA):∃od,PySem.W.InstAt h x (Ux C dx) C (some od)/\∀name,PySem.W.lookIn name od=some (mA name) :=
 let ⟨od,ho,hl⟩:=Xo I.ns
 ⟨od,⟨I.obj,rfl,rfl,ho⟩,hl⟩
section
variable{K:uc}{x:Addr}
theorem Je{expr:Bool}{Q:VSP}(X:K.In s.heap)(I:ObjM s.heap x dx C mA)(hg:UP K C name=true)(hh:PySem.W.hasDictIn K C=true)
  (ha:uQ K (.ref C) name=some none) (hv:mA name=some v) (hv':PySem.W.handedIn v=true) (h:Q v { s with toks:=s.toks+1 }) :
  wpAny (model prog w) A (getAttr (.ref x) name expr) Q E s:=by
 obtain⟨od,J,hl⟩:=I.look;exact PySem.W.get_value X J (PySem.W.plainGet_of hg).1 (PySem.W.findObj_own hh ha rfl (by rw[hl,hv])) hv' h
theorem X2{pl:Sem Bool}{Q:Value×List Value->Shared->Prop}(X:K.In s.heap)(I:ObjM s.heap x dx C mA)(hg:UP K C name=true)
  (hf:uQ K (.ref C) name=some (some (.ref f))) (ht:PySem.W.isFn K (.ref f)=true) (hv:mA name=none) (h:Q (.ref f,[.ref x]) s) :
  wpAny (model prog w) A (getMethod (.ref x) name pl) Q E s:=by
 obtain⟨od,J,hl⟩:=I.look;exact PySem.W.method_fn X J (PySem.W.plainGet_of hg).1 (PySem.W.plainGet_of hg).2 hf (beq_iff_eq.mp ht) (by show(PySem.W.lookIn name od).map (·.isSome)=some false;rw[hl,hv];rfl) h
theorem Jf{ns:LS}(X:K.In s.heap)(I:ObjM s.heap x dx C mA)
  (hs:uQ K (.ref C) "__setattr__"=some (some (.builtin "object.__setattr__"))) (hp:PySem.W.plainOver K C=true) (ht:PySem.W.takerIn K C name=some none) (hh:PySem.W.hasDictIn K C=true)
  (hw:PySem.Within mA ns) (hsz:ns.length<=sizeLine)
  (h:∀h',ObjM h' x dx C (fun y=>if y=name then some v else mA y)->Heap.SameBut dx s.heap h'->Q () { s with heap:=h',toks:=s.toks+2 }) :
  wpAny (model prog w) A (setAttr (.ref x) name v) Q E s:=by
 obtain⟨od,J,hl⟩:=I.look;refine PySem.W.set_plain X J hs (PySem.W.osa_open (s:={ s with toks:=s.toks+1 }) (r:=none) X J hp ht fun b=>?_);obtain⟨cd,hc,hd'⟩:=PySem.W.any_some hh;have hx:s.heap.get? x=some ⟨.ref C,some dx,.plain,#[]⟩:=I.obj;refine wpAny_bind (wpAny_pure (wpAny_bind (wpAny_bind (wpAny_loadPart hx (wpAny_bind (PySem.W.Looks.here (s:={ s with toks:=s.toks+1 }) (PySem.W.looks_clsIn X hc) ?_))))));rw[hd'];refine wpAny_pure (a:=some dx) (wpAny_bind (wpAny_pure (wpAny_bind ?_)));refine wpAny_nsSet1 (s:={ s with toks:=s.toks+1 }) I.ns fun h' hn2 hs2=>?_;obtain⟨oD,esD,epD,hoD,hdD,hcD⟩:=hn2.count (PySem.Within.cons name v hw);refine wpAny_bind (wpAny_lookBehind hoD (by rw[hdD];exact pastItsLine_dict (uC hcD (by rw[um];lia))) ?_);exact wpAny_pure (h _ ⟨(hs2.2 _ (Ne.symm I.ne)).trans I.obj,hn2,I.ne⟩ hs2)
theorem X3{R:Result->Shared->Prop}(X:K.In s.heap)(hm:PySem.W.makesIn K C=true)
  (hi:uQ K (.ref C) "__init__"=some (some (.ref f))) (hf:PySem.W.typeIn K (.ref f)=some (.type "function"))
  (h:codeAny (model prog w) (A.under (.builtin "type.__call__" ⟨.ref C::vs,kw⟩)) (.call (.ref f) ⟨.ref (s.heap.objs.size+1)::vs,kw⟩) (PySem.W.InitBack (s.heap.objs.size+1) R)
   { s with heap:=(s.heap.push Ur).push (Ux C s.heap.objs.size) }) :
  codeAny (model prog w) A (.call (.ref C) ⟨vs,kw⟩) R s:=by
 obtain⟨hh,g,d,t,os⟩:=s;exact PySem.W.make_core (PySem.W.makes_of X hm) (PySem.W.looks_findIn X hi) (fun self=>PySem.W.bind_fn X self hf) (.inl rfl) h
end
def putF(f:Str)(v:V):List (Str×V)->List (Str×V)
 |[]=>[(f,v)]
 | (g,x)::r=>if g=f then(g,v)::r else(g,x)::putF f v r
theorem wJ(f g:Str)(v:V):∀fs:List (Str×V),(putF f v fs).lookup g=if g=f then some v else fs.lookup g
 |[]=>by
  show UB g [(f,v)]=_;by_cases h:g=f
  ·have hb:(g == f)=true:=beq_iff_eq.mpr h
   simp only[UB,hb,if_pos h]
  ·have hb:(g == f)=false:=beq_eq_false_iff_ne.mpr h
   simp only[UB,hb,if_neg h]
 | (k,x)::r=>by
  have ih:=wJ f g v r;rw[show putF f v ((k,x)::r)=(if k=f then(k,v)::r else(k,x)::putF f v r)from rfl];by_cases hk:k=f
  ·rw[if_pos hk]
   by_cases h:g=k
   ·have hb:(g == k)=true:=beq_iff_eq.mpr h
    simp only[UB,hb,if_pos (h.trans hk)]
   ·have hb:(g == k)=false:=beq_eq_false_iff_ne.mpr h
    simp only[UB,hb,if_neg (fun e:g=f=>h (e.trans hk.symm))]
  ·rw[if_neg hk]
   by_cases h:g=k
   ·have hb:(g == k)=true:=beq_iff_eq.mpr h
    simp only[UB,hb,if_neg (fun e:g=f=>hk (h.symm.trans e))]
   ·have hb:(g == k)=false:=beq_eq_false_iff_ne.mpr h
    simp only[UB,hb]
    exact ih
theorem wD(f:Str)(v:V):∀fs:List (Str×V),f∈(putF f v fs).map (·.1)/\∀g,g∈fs.map (·.1)->g∈(putF f v fs).map (·.1)
 |[]=>⟨by simp[putF],fun g h=>by simp at h⟩
 | (k,x)::r=>by
  obtain⟨i1,i2⟩:=wD f v r;rw[show putF f v ((k,x)::r)=(if k=f then(k,v)::r else(k,x)::putF f v r)from rfl];by_cases hk:k=f
  ·rw[if_pos hk]
   subst hk;exact⟨by simp,fun g h=>by simpa using h⟩
  ·rw[if_neg hk]
   refine⟨?_,fun g h=>?_⟩
   ·rw[ur]
    exact Ul _ i1
   ·rw[ur]at h ⊢
    rcases uq.mp h with e|e
    ·exact uq.mpr (.inl e)
    ·exact Ul _ (i2 g e)
theorem wK(f:Str)(v:V):∀fs:List (Str×V),(putF f v fs).length<=fs.length+1
 |[]=>by simp[putF]
 | (k,x)::r=>by
  have ih:=wK f v r;rw[show putF f v ((k,x)::r)=(if k=f then(k,v)::r else(k,x)::putF f v r)from rfl];by_cases hk:k=f
  ·rw[if_pos hk,um,um];lia
  ·rw[if_neg hk,um,um];lia
theorem RelO.some_of{v:V}{o:Option Value}(r:RelO (some v) o):∃u,o=some u/\RelV v u:=by
 cases o with
 |none=>exact(show False from r).elim
 |some u=>exact⟨u,rfl,r⟩
theorem RelO.none_of{o:Option Value}(r:RelO none o):o=none:=by
 cases o with
 |none=>rfl
 |some u=>exact(show False from r).elim
theorem Xp{v:V}(r:RelV v u):PySem.W.handedIn u=true:=by
 cases v with
 |non=>cases(show u=Value.none from r);rfl
 |bl b=>cases(show u=Value.bool b from r);rfl
 |int i=>obtain⟨t,e⟩:=(show ∃t,u=Value.int i t from r);cases e;rfl
 |str x=>obtain⟨t,e⟩:=(show ∃t,u=Value.str x t from r);cases e;rfl
 |byt b=>obtain⟨t,e⟩:=(show ∃t,u=Value.bytes b t from r);cases e;rfl
 |flt b=>obtain⟨t,e⟩:=(show ∃t,u=Value.float b t from r);cases e;rfl
 |ref a=>cases(show u=Value.ref a from r);rfl
 |ty n=>cases(show u=Value.type n from r);rfl
section
variable{fs fs':List (Str×V)}
theorem wR(hok:HOk P w H h)(e:H a=some (.ins C dx fs)):∃mA,ObjM h a dx C mA/\(∀f,RelO (fs.lookup f) (mA f))/\PySem.Within mA (fs.map (·.1))/\fs.length<=1000/\H dx=some (.own a):=by
 obtain⟨d,z,ne,ob,mA,n,r,q⟩:=(show ObjOk P w H h a (.ins C dx fs)from hok a _ e);exact⟨mA,⟨ob,n,ne⟩,r,q,z,d⟩
end
structure Cls(K:uc)(C:Addr):Prop where
 pg:UP K C Str.empty=true
 hd:PySem.W.hasDictIn K C=true
 po:PySem.W.plainOver K C=true
 sa:uQ K (.ref C) "__setattr__"=some (some (.builtin "object.__setattr__"))
theorem Cls.get{K:uc}(c:Cls K C)(f:Str):UP K C f=true:=c.pg
def NoAttr(K:uc)(C:Addr)(f:Str):Prop:=uQ K (.ref C) f=some none
theorem NoAttr.taker{K:uc}{f:Str}(n:NoAttr K C f):PySem.W.takerIn K C f=some none:=by
 unfold PySem.W.takerIn;rw[show uQ K (.ref C) f=some none from n]
 rfl
structure Meth(K:uc)(C:Addr)(m:Str)(f:Addr):Prop where
 at_:uQ K (.ref C) m=some (some (.ref f))
 fn:PySem.W.isFn K (.ref f)=true
 kp:uL K (.ref f)=true
section
variable{fs:List (Str×V)}{f:Str}{v:V}
theorem ZU{b:Bool}{Q:VSP}(I:Inv X pins σ H s)(e:H a=some (.ins C dx fs))(c:Cls X.K C)(n:NoAttr X.K C f)(l:fs.lookup f=some v)
  (h:∀u s',Inv X pins σ H s'->RelV v u->Q u s'):wpAny (model X.prog X.w) A (getAttr (.ref a) f b) Q E s:=by
 obtain⟨mA,O,r,_,_,_⟩:=wR I.hok e;obtain⟨u,hu,ru⟩:=RelO.some_of (v:=v) (o:=mA f) (by rw[<- l];exact r f);exact Je I.kIn O (c.get f) c.hd n hu (Xp ru) (h u _ (I.tok _) ru)
theorem ZV{g:Addr}{pl:Sem Bool}{Q:Value×List Value->Shared->Prop}(I:Inv X pins σ H s)(e:H a=some (.ins C dx fs))(c:Cls X.K C)(k:Meth X.K C m g)(l:fs.lookup m=none)
  (h:Q (.ref g,[.ref a]) s):wpAny (model X.prog X.w) A (getMethod (.ref a) m pl) Q E s:=by
 obtain⟨mA,O,r,_,_,_⟩:=wR I.hok e;have hn:mA m=none:=RelO.none_of (by rw[<- l];exact r m);exact X2 I.kIn O (c.get m) k.at_ k.fn hn h
theorem ZX{y:V}(I:Inv X pins σ H s)(e:H a=some (.ins C dx fs))(c:Cls X.K C)(n:NoAttr X.K C f)(hl:fs.length < 1000)(ry:RelV y u)
  (h:∀s',Inv X pins σ (upd H a (.ins C dx (putF f y fs))) s'->Q () s'):wpAny (model X.prog X.w) A (setAttr (.ref a) f u) Q E s:=by
 obtain⟨mA,O,r,wi,_,ho⟩:=wR I.hok e;have hz:(fs.map (·.1)).length<=sizeLine:=by rw[ua,sizeLine_eq];lia
 refine Jf I.kIn O c.sa c.po n.taker c.hd wi hz fun h' O' sb=>h _ ?_;have hd:∃o,h'.get? dx=some o:=let ⟨o,_,_,e',_⟩:=O'.ns;⟨o,e'⟩
 refine I.write (x:=a) (e:=dx) (by rw[e];exact True.intro) (.inr ho) (fun b q hb z=>(sb.2 b hb).trans z) hd ?_;refine⟨by rw[zj O.ne];exact ho,?_,O.ne,O'.obj,_,O'.ns,fun g=>?_,fun g hg=>?_⟩
 ·have:=wK f y fs;lia
 ·show RelO ((putF f y fs).lookup g) (if g=f then some u else mA g)
  rw[wJ];by_cases q:g=f
  ·rw[if_pos q,if_pos q];exact ry
  ·rw[if_neg q,if_neg q];exact r g
 ·by_cases q:g=f
  ·rw[q];exact(wD f y fs).1
  ·refine(wD f y fs).2 g (wi g fun z=>hg ?_)
   show(if g=f then some u else mA g)=none;rw[if_neg q];exact z
theorem Inv.made(I:Inv X pins σ H s):Inv X pins σ (upd (upd H s.heap.objs.size (.own (s.heap.objs.size+1))) (s.heap.objs.size+1) (.ins C s.heap.objs.size []))
  { s with heap:=(s.heap.push Ur).push (Ux C s.heap.objs.size) }:=by
 have e1:(s.heap.push Ur).get? s.heap.objs.size=some Ur:=uu s.heap rfl;have e2:((s.heap.push Ur).push (Ux C s.heap.objs.size)).get? (s.heap.objs.size+1)=some (Ux C s.heap.objs.size):=by
  have:=uu (s.heap.push Ur) (o:=Ux C s.heap.objs.size) rfl
  rwa [Um]at this
 have e3:(s.heap.push Ur).Ns s.heap.objs.size (fun _=>none):=⟨Ur,#[],_,e1,rfl,(fun e he=>absurd he (by simp)),fun _=>rfl⟩;have I1:=I.laid (a:=s.heap.objs.size) (o:=.own (s.heap.objs.size+1)) (h':=s.heap.push Ur) (t':=s.toks) (fun b u q=>uf _ q) (ud _) ⟨_,e1⟩;refine I1.laid (a:=s.heap.objs.size+1) (o:=.ins C s.heap.objs.size []) (t':=s.toks) (fun b u q=>uf _ q) (Nat.le_of_eq (Um _ _)) ?_;have ne:s.heap.objs.size≠s.heap.objs.size+1:=uK (Uf _);refine⟨by rw[zj ne,zg],uF _,ne,e2,fun _=>none,(Heap.Ns1.of_empty e3).at fun o q=>uf _ q,fun _=>True.intro,fun y hy=>absurd rfl hy⟩
theorem Jg{Q:VSP}(hb:attributeBase e f env (eval e env)=eval e env)
  (h:wpAny (model prog w) A (eval e env) (fun o s₁=>wpAny (model prog w) A (getAttr o f true) Q E s₁) E s):wpAny (model prog w) A (eval (.Attribute e f pos) env) Q E s :=
 Attribute_any_ h (by rw[arm_eval_Attribute,hb])
end
def tFld(K:uc)(ta:TE)(f:Str):TE:=fun σ H Q=>ta σ H fun x H1=>∃a C dx fs v,x=.ref a/\H1 a=some (.ins C dx fs)/\Cls K C/\NoAttr K C f/\fs.lookup f=some v/\Q v H1
def sFld(K:uc)(ta tv:TE)(f:Str):TS:=fun D σ H=>tv σ H fun y H1=>ta σ H1 fun x H2=>∃a C dx fs,x=.ref a/\H2 a=some (.ins C dx fs)/\Cls K C/\NoAttr K C f/\fs.length < 1000 /\
 D.nx σ (upd H2 a (.ins C dx (putF f y fs)))
section
variable{o:Expr}{f:Str}{tv:TE}
theorem zay(he:PE X e ta)(hb:attributeBase e f X.env (eval e X.env)=eval e X.env):PE X (.Attribute e f pos) (tFld X.K ta f):=by
 intro pins s σ H Q I h;refine Jg hb (thn (he pins s σ H _ I h) fun u s1 hq_=>?_);obtain⟨x,H1,I1,rx,a,C,dx,fs,v,ex,ea,c,n,l,q⟩:=hq_;subst ex;obtain rfl:u=Value.ref a:=rx;exact ZU I1 ea c n l fun u' s2 I2 ru=>⟨v,H1,I2,ru,q⟩
theorem zaz(ha:PE X o ta)(hv:PE X value tv)(hs:swapsWith value (some (.Attribute o f pos')) pos.line X.env=pure false):PS X (.Assign [.Attribute o f pos'] value pos) (sFld X.K ta tv f):=by
 intro pins s σ H D I h;refine plainObj_wpAny_Assign_Attribute (thn (hv pins s σ H _ I h) fun u s1 ⟨y,H1,I1,ry,q⟩=>thn (ha pins s1 σ H1 _ I1 q) fun ov s2 ⟨x,H2,I2,rx,a,C,dx,fs,ex,ea,c,n,l,q2⟩=>?_) hs;subst ex;obtain rfl:ov=Value.ref a:=rx;exact ZX I2 ea c n l ry fun s3 I3=>⟨σ,_,I3,q2⟩
end
section
variable{Q:VSP}{c:Value}{b:Bool}
inductive TyOf(K:uc)(H:Hp):V->Value->Prop where
 |non:TyOf K H .non (.type "NoneType")
 |bl (x:Bool):TyOf K H (.bl x) (.type "bool")
 |int (i:Int):TyOf K H (.int i) (.type "int")
 |str (x:Str):TyOf K H (.str x) (.type "str")
 |flt (x:UInt64):TyOf K H (.flt x) (.type "float")
 |lst {a:Addr} {xs:List V} (e:H a=some (.lst xs)):TyOf K H (.ref a) (.type "list")
 |frz {a:Addr} {o:Obj} {xs:List V} (e:H a=some (.frz o (.lst xs))):TyOf K H (.ref a) (.type "list")
 |tup {a:Addr} {xs:List V} (e:H a=some (.tup xs)):TyOf K H (.ref a) (.type "tuple")
 |dK {a:Addr} {kvs:List (Key×V)} (e:H a=some (.dK kvs)):TyOf K H (.ref a) (.type "dict")
 |dT {a:Addr} {kvs:List (List Key×V)} (e:H a=some (.dT kvs)):TyOf K H (.ref a) (.type "dict")
 |ins {a C dx:Addr} {fs:List (Str×V)} (e:H a=some (.ins C dx fs)) (cl:Cls K C) (ha:uQ K (.ref C) "__class__"=some (some (.builtin "object.__class__")))
   (hn:PySem.W.specialIn K (.builtin "object.__class__") "__get__"=some (some (.builtin "getset_descriptor.__get__"))) (htk:PySem.W.takesIn K (.builtin "object.__class__")=some true)
   (hm:PySem.W.mroIn K C (.type "object")=some true):TyOf K H (.ref a) (.ref C)
theorem Xq{x:V}{t:Value}(I:Inv X pins σ H s)(rx:RelV x u)(ty:TyOf X.K H x t)(e:PySem.W.kitOne X.K t c=some b)(h:∀tk,Q (.bool b) { s with toks:=tk }):
  wpAny (model X.prog X.w) A (call (.builtin "isinstance") [u,c]) Q E s:=by
 cases ty with
 |non=>cases(show u=Value.none from rx);exact Up PySem.W.kitx_none I.kIn True.intro e (fun z=>nomatch z) h
 |bl y=>cases(show u=Value.bool y from rx);exact Up PySem.W.kitx_bool I.kIn True.intro e (fun z=>nomatch z) h
 |int i=>obtain⟨t,q⟩:=(show ∃t,u=Value.int i t from rx);cases q;exact Up PySem.W.kitx_int I.kIn True.intro e (fun z=>nomatch z) h
 |str y=>obtain⟨t,q⟩:=(show ∃t,u=Value.str y t from rx);cases q;exact Up PySem.W.kitx_str I.kIn True.intro e (fun z=>nomatch z) h
 |flt y=>obtain⟨t,q⟩:=(show ∃t,u=Value.float y t from rx);cases q;exact Up PySem.W.kitx_float I.kIn True.intro e (fun z=>nomatch z) h
 |@lst a xs ea =>
  cases(show u=Value.ref a from rx);obtain⟨_,_,n,_,h1⟩:=(show ObjOk X.prog X.w H s.heap a (.lst xs)from I.hok a _ ea);exact Up PySem.W.kitx_list I.kIn ⟨_,h1,rfl⟩ e (fun z=>nomatch z) h
 |@frz a ob xs ea =>
  cases(show u=Value.ref a from rx);obtain⟨_,_,_,n,_,h1⟩:=(show ObjOk X.prog X.w H s.heap a (.frz ob (.lst xs))from I.hok a _ ea);exact Up PySem.W.kitx_list I.kIn ⟨_,h1,rfl⟩ e (fun z=>nomatch z) h
 |@tup a xs ea =>
  cases(show u=Value.ref a from rx);obtain⟨_,_,_,p⟩:=(show ObjOk X.prog X.w H s.heap a (.tup xs)from I.hok a _ ea);obtain⟨o,h1,h2,_⟩:=p;exact Up PySem.W.kitx_tuple I.kIn ⟨o,h1,h2⟩ e (fun z=>nomatch z) h
 |@dK a kvs ea =>
  cases(show u=Value.ref a from rx);obtain⟨_,_,vs,_,p⟩:=(show ObjOk X.prog X.w H s.heap a (.dK kvs)from I.hok a _ ea);obtain⟨o,es,ep,h1,h2,_⟩:=p;exact Up PySem.W.kitx_dict I.kIn ⟨o,h1,h2.1⟩ e (fun z=>nomatch z) h
 |@dT a kvs ea =>
  cases(show u=Value.ref a from rx);obtain⟨_,_,xs,_,o,es,ep,h1,h2,_⟩:=(show ObjOk X.prog X.w H s.heap a (.dT kvs)from I.hok a _ ea);exact Up PySem.W.kitx_dict I.kIn ⟨o,h1,h2.1⟩ e (fun z=>nomatch z) h
 |@ins a C dx fs ea cl ha hn htk hm =>
  cases(show u=Value.ref a from rx);obtain⟨mA,O,_⟩:=wR I.hok ea;obtain⟨od,J,_⟩:=O.look;exact Up (PySem.W.kitx_own (cl.get _) cl.hd ha hn htk hm) I.kIn J e (fun z=>nomatch z) h
end
structure Room(k:Nat)(A:Around):Prop where
 hd:A.handled=none
 dp:A.depth+3*k+5 < recursionLimit
 un:A.units+16*k+200 < cLine
theorem Room.mono{k:Nat}(r:Room k A)(h:j<=k):Room j A:=⟨r.hd,by have:=r.dp;lia,by have:=r.un;lia⟩
theorem Room.deeper{k:Nat}(r:Room (k+1) A)(env:Env):Room k (A.deeper env) :=
 ⟨r.hd,by have:=r.dp;show A.depth+1+3*k+5 < _;lia,by have:=r.un;show A.units+3+16*k+200 < _;lia⟩
theorem ZY:(A.under (.builtin "type.__call__" ⟨.ref C::us,kw⟩)).depth=A.depth+1:=by
 first|rfl|simp[Around.under,Code.weight,Code.isCreation,Code.isGuard,Code.isCaller,Code.frames,Code.isFrame,guardIds]
theorem ZZ:(A.under (.builtin "type.__call__" ⟨.ref C::us,kw⟩)).units=A.units+1:=by
 first|rfl|simp[Around.under,Code.cUnits,Code.frames,Code.isFrame]
theorem Room.make{k:Nat}(r:Room (k+1) A)(C:Addr)(us:List Value)(kw:List (Str×Value)):Room k (A.under (.builtin "type.__call__" ⟨.ref C::us,kw⟩)) :=
 ⟨r.hd,by have:=r.dp;rw[ZY];lia,by have:=r.un;rw[ZZ];lia⟩
theorem Room.depth{k:Nat}(r:Room k A):A.depth < recursionLimit:=by have:=r.dp;lia
theorem Room.units{k:Nat}(r:Room k A):A.units+64 < cLine:=by have:=r.un;lia
theorem Room.units0{k:Nat}(r:Room k A):A.units < cLine:=by have:=r.un;lia
def tNil:TA:=fun _ H Q=>Q [] H
def zQ(ta:TE)(tr:TA):TA:=fun σ H Q=>ta σ H fun x H1=>tr σ H1 fun xs H2=>Q (x::xs) H2
section
variable{t:TA}
theorem zaA:PA X [] tNil:=fun _ _ _ _ H Q I h=>Calls.spliced_nil ⟨[],H,I,.nil,h⟩
theorem Jh(ha:PE X e te)(hr:PA X es t)(hs:starEach (e::es) X.env=(false,eval e X.env)::starEach es X.env:=by rfl):PA X (e::es) (zQ te t):=by
 intro pos pins s σ H Q I h;rw[hs];show wpAny _ _ (spliced ((false,eval e X.env)::backTo pos (starEach es X.env))) _ _ s;refine Calls.spliced_cons (thn (ha pins s σ H _ I h) fun u s1 hq_=>?_);obtain⟨x,H1,I1,r1,q1⟩:=hq_;exact thn (hr pos pins s1 σ H1 _ I1 q1) fun us s2 ⟨xs,H2,I2,r2,q2⟩=>⟨x::xs,H2,I2,.cons r1 r2,q2⟩
def tTup(t:TA):TE:=fun σ H Q=>t σ H fun xs H1=>xs.length<=sizeLine/\∀p,H1 p=none->Q (.ref p) (upd H1 p (.tup xs))
def tLst(t:TA):TE:=fun σ H Q=>t σ H fun xs H1=>xs.length<=sizeLine/\∀p,H1 p=none->Q (.ref p) (upd H1 p (.lst xs))
theorem zaB{x1}(h:PA X es t):PE X (.Tuple es x1 pos) (tTup t):=by
 intro pins s σ H Q I hq;refine wpAny_Tuple_spliced (thn (h pos pins s σ H _ I hq) fun us s1 ⟨xs,H1,I1,r,z,q⟩=>⟨by rw[<- r.length];exact z,?_⟩);have hf:H1 s1.heap.objs.size=none:=I1.hok.fresh (ud _);refine⟨.ref s1.heap.objs.size,upd H1 s1.heap.objs.size (.tup xs),I1.laid (t':=s1.toks) (fun b u e=>uf _ e) (ud _) ?_,rfl,q _ hf⟩;exact⟨z,us,r,⟨_,uu _ rfl,rfl,rfl,_,rfl⟩⟩
theorem zaC(h:PA X es t):PE X (.List es pos) (tLst t):=by
 intro pins s σ H Q I hq;refine wpAny_List_spliced (thn (h pos pins s σ H _ I hq) fun us s1 ⟨xs,H1,I1,r,z,q⟩=>⟨by rw[<- r.length];exact z,?_⟩);have hf:H1 s1.heap.objs.size=none:=I1.hok.fresh (ud _);refine⟨.ref s1.heap.objs.size,upd H1 s1.heap.objs.size (.lst xs),I1.laid (t':=s1.toks) (fun b u e=>uf _ e) (ud _) ?_,rfl,q _ hf⟩;exact⟨z,us,0,r,uu _ rfl⟩
end
abbrev Sp:=List V->Hp->VK->XK->Prop
variable{sp:Sp}
abbrev CXT:=List Env->Hp->Shared->XK->Value->Shared->Prop
variable{CX:CXT}
structure Env0(P:Program)(w:World)(K:uc)(mg:Str->Option Value)(base:Heap)(A:Around)(outer:List Env)(s:Shared)(H:Hp):Prop where
 frames:A.frames=some outer
 mod:Mod K mg base
 bs:∀b o,base.get? b=some o->s.heap.get? b=some o/\H b=none
 bsz:base.objs.size<=s.heap.objs.size
 funs:s.heap.FunFrames base outer
 frf:∀b∈frs outer,H b=none
 hok:HOk P w H s.heap
 bare:AllBare s.gens
def CE(outer:List Env)(P:Program)(w:World)(H:Hp)(s:Shared)(Q:VK)(u:Value)(s':Shared):Prop :=
 ∃v H',s'.os=s.os/\AllBare s'.gens/\Un (frs outer) [] H H' s.heap s'.heap/\HOk P w H' s'.heap/\RelV v u/\Q v H'
def CR(CX:CXT)(outer:List Env)(P:Program)(w:World)(H:Hp)(s:Shared)(Q:VK)(E:XK)(r:Result)(s':Shared):Prop :=
 match r with
 |.ok (.ret u)=>CE outer P w H s Q u s'
 |.ok _=>False
 |.error e=>CX outer H s E e s'
structure FnOk(P:Program)(w:World)(K:uc)(mg:Str->Option Value)(base:Heap)(CX:CXT)(k:Nat)(f:Addr)(fd:FuncData)(ps:LS)(sp:Sp):Prop where
 len:∀vs H Q E,sp vs H Q E->vs.length=ps.length
 run:∀(A:Around)(outer:List Env)(s:Shared)(H:Hp)(args:Args)(us:List Value)(vs:List V)(Q:VK)(E:XK),Room k A->Env0 P w K mg base A outer s H->BindsTo s fd args (ps.zip us)->Vals vs us->sp vs H Q E ->
  codeAny (model P w) A (.call (.ref f) args) (CR CX outer P w H s Q E) s
theorem FnOk.mono{K:uc}{k:Nat}(F:FnOk P w K mg base CX j f fd ps sp)(h:j<=k):
  FnOk P w K mg base CX k f fd ps sp:=⟨F.len,fun A outer s H args us vs Q E hr=>F.run A outer s H args us vs Q E (hr.mono h)⟩
theorem FnOk.imp{K:uc}{k:Nat}{sp':Sp}(F:FnOk P w K mg base CX k f fd ps sp)
  (h:∀vs H Q E,sp' vs H Q E->sp vs H Q E):FnOk P w K mg base CX k f fd ps sp' :=
 ⟨fun vs H Q E q=>F.len vs H Q E (h _ _ _ _ q),fun A outer s H args us vs Q E hr he hb hv hs=>F.run A outer s H args us vs Q E hr he hb hv (h _ _ _ _ hs)⟩
theorem Env0.make{K:uc}{outer:List Env}(e:Env0 P w K mg base A outer s H)(C:Addr)(us:List Value)(kw:List (Str×Value)):
  Env0 P w K mg base (A.under (.builtin "type.__call__" ⟨.ref C::us,kw⟩)) outer s H:=⟨by first|exact e.frames|(simpa[Around.under,Code.envs,Code.isFrame,pushEnvs]using e.frames),e.mod,e.bs,e.bsz,e.funs,e.frf,e.hok,e.bare⟩
theorem Inv.env0(I:Inv X pins σ H s):Env0 X.prog X.w X.K X.mg X.base X.A X.stack s H :=
 ⟨I.ok.frames,I.ok.mod,I.bs,uC I.ok.bsz I.sz,I.stack,I.stkFree,I.hok,I.bare⟩
theorem Inv.after{Q:VK}(I:Inv X pins σ H s)(h:CE X.stack X.prog X.w H s Q u s'):EP X pins σ Q u s':=by
 obtain⟨v,H',os,bare,un,hok,r,q⟩:=h;obtain⟨hh,g,d,t,os'⟩:=s';obtain rfl:os'=s.os:=os;exact⟨v,H',I.call (h':=hh) (g':=g) (d':=d) (t':=t) (ch:=[]) un hok bare (fun b z=>absurd z (by simp)),r,q⟩
def Za(sp:Sp)(dvs:List V)(E:XK)(t:TA):TE:=fun σ H Q=>t σ H fun vs H1=>sp (vs++dvs) H1 Q E
def QG(C:Addr)(m:Str)(sp:Sp)(dvs:List V)(E:XK)(ta:TE)(t:TA):TE:=fun σ H Q=>ta σ H fun x H1=>∃a dx fs,x=.ref a/\H1 a=some (.ins C dx fs)/\fs.lookup m=none /\
 t σ H1 fun vs H2=>sp (x::(vs++dvs)) H2 Q E
def QH(C:Addr)(sp:Sp)(dvs:List V)(E:XK)(t:TA):TE:=fun σ H Q=>t σ H fun vs H1=>∀x dx,H1 x=none->H1 dx=none->dx≠x ->
 sp (.ref x::(vs++dvs)) (upd (upd H1 dx (.own x)) x (.ins C dx [])) (fun v H2=>v=.non/\Q (.ref x) H2) E
def Binds(K:uc)(fd:FuncData)(ps:LS)(ds:List Value):Prop :=
 ∀(s:Shared)(us:List Value),K.In s.heap->(us++ds).length=ps.length->BindsTo s fd ⟨us,[]⟩ (ps.zip (us++ds))
theorem Binds.all{K:uc}(h:∀us:List Value,us.length=ps.length->bindArgs fd ⟨us,[]⟩=pure (ps.zip us)):Binds K fd ps []:=fun s us _ hl=>by
 rw[Ue]at hl ⊢;exact .of_eq (h us hl)
def yC(CX:CXT)(X:Cx)(E:XK):Prop:=∀(pins:List (Addr×Obj))(σ:St)(H:Hp)(s:Shared)(e:Value)(s':Shared),Inv X pins σ H s->CX X.stack H s E e s'->X.xe e s'
section
variable{k:Nat}{dvs:List V}{ds:List Value}{E:XK}{o:Expr}{t:TA}
theorem jb{Q:VK}{vs:List V}(F:FnOk X.prog X.w X.K X.mg X.base CX k f fd ps sp)(hr:Room k X.A)(hb:Binds X.K fd ps ds)(hd:Vals dvs ds)(hx:yC CX X E)
  (I:Inv X pins σ H s) (r:Vals vs us) (h:sp (vs++dvs) H Q E):wpAny (model X.prog X.w) X.A (call (.ref f) us) (EP X pins σ Q) X.xe s:=by
 have r2:Vals (vs++dvs) (us++ds):=r.append hd;have hl:(us++ds).length=ps.length:=by rw[<- r2.length];exact F.len _ _ _ _ h
 refine wpAny_call (codeAny_mono (F.run X.A X.stack s H ⟨us,[]⟩ (us++ds) (vs++dvs) Q E hr I.env0 (hb s us I.kIn hl) r2 h) fun r s' hq=>?_);cases r with
 |error e=>exact hx pins σ H s e s' I hq
 |ok fl =>
  cases fl with
  |ret u=>exact I.after hq
  |next=>exact False.elim hq
  |brk=>exact False.elim hq
  |cont=>exact False.elim hq
theorem Ji(F:FnOk X.prog X.w X.K X.mg X.base CX k f fd ps sp)(hr:Room k X.A)(hg:Gl X x)(hm:X.mg x=some (.ref f))(hk:uL X.K (.ref f)=true)(hb:Binds X.K fd ps ds)(hd:Vals dvs ds)(hx:yC CX X E)
  (ha:PA X (e::es) t) (hdb:(x == ("__debug__":Str))=false:=by decide) (he:starEach (e::es) X.env=(false,eval e X.env)::starEach es X.env:=by rfl) (hpl:(backTo pos (starEach es X.env)).any (·.1)=false:=by rfl) :
  PE X (.Call (.Name x p) (e::es) [] pos) (Za sp dvs E t):=by
 intro pins s σ H Q I h;refine wpAny_Call_Name_kw (wQ I hg hm ?_ hdb);refine PySem.W.callWith_K (h₀:=X.base) I.ok.mod.kin hk (thn (ha pos pins s σ H _ I h) fun us s1 ⟨vs,H1,I1,r,q⟩=>⟨I1.kIn,?_⟩) he hpl;exact jb F hr hb hd hx I1 r q
theorem X4{pl:Sem Bool}(he:PE X o ta)(c:Cls X.K C)(hm:Meth X.K C m f)(F:FnOk X.prog X.w X.K X.mg X.base CX k f fd ps sp)(hr:Room k X.A)(hb:Binds X.K fd ps ds)(hd:Vals dvs ds)(hx:yC CX X E)
  (ht:eval (.Call (.Attribute o m apos) [] [] pos) X.env=(do
   let ov <- eval o X.env
   standAt apos.atName
   let (f,first) <- holding [ov] (getMethod ov m pl)
   callWith pos f first (backTo pos (starEach [] X.env)) (backToKw pos (keywordEach [] X.env))):=by rfl) :
  PE X (.Call (.Attribute o m apos) [] [] pos) (QG C m sp dvs E ta tNil):=by
 intro pins s σ H Q I h;refine PySem.W.methodCall_KW (pl:=pl) (thn (he pins s σ H _ I h) fun u s1 ⟨x,H1,I1,rx,a,dx,fs,ex,ea,l,q⟩=>?_) ht;subst ex;obtain rfl:u=Value.ref a:=rx;refine ZV I1 ea c hm l ?_;exact PySem.W.callWith_K0 (first:=[.ref a]) I1.kIn hm.kp (jb (us:=[.ref a]) (vs:=[.ref a]) F hr hb hd hx I1 (.cons rfl .nil) q)
structure Mk(K:uc)(C f:Addr):Prop where
 makes:PySem.W.makesIn K C=true
 init:uQ K (.ref C) "__init__"=some (some (.ref f))
 fn:PySem.W.isFn K (.ref f)=true
 kp:uL K (.ref C)=true
theorem X5{Q:VK}{vs:List V}(M:Mk X.K C f)(F:FnOk X.prog X.w X.K X.mg X.base CX k f fd ps sp)(hr:Room (k+1) X.A)(hb:Binds X.K fd ps ds)(hd:Vals dvs ds)
  (hx:yC CX X E) (I:Inv X pins σ H s) (r:Vals vs us)
  (h:∀x dx,H x=none->H dx=none->dx≠x->sp (.ref x::(vs++dvs)) (upd (upd H dx (.own x)) x (.ins C dx [])) (fun v H2=>v=.non/\Q (.ref x) H2) E) :
  wpAny (model X.prog X.w) X.A (call (.ref C) us) (EP X pins σ Q) X.xe s:=by
 have hq:=h (s.heap.objs.size+1) s.heap.objs.size (I.hok.fresh (UN _)) (I.hok.fresh (ud _)) (uK (Uf _));have I2:=Inv.made (C:=C) I;have r2:Vals (V.ref (s.heap.objs.size+1)::(vs++dvs)) (Value.ref (s.heap.objs.size+1)::(us++ds)):=.cons rfl (r.append hd);have hl:(Value.ref (s.heap.objs.size+1)::us++ds).length=ps.length:=by
  have e:=r2.length;rw[F.len _ _ _ _ hq]at e;exact e.symm
 refine wpAny_call (X3 (f:=f) I.kIn M.makes M.init (beq_iff_eq.mp M.fn) (codeAny_mono (F.run _ X.stack _ _ ⟨Value.ref (s.heap.objs.size+1)::us,[]⟩ (Value.ref (s.heap.objs.size+1)::(us++ds)) _ _ E (hr.make C us [])
  (I2.env0.make C us []) (hb _ (Value.ref (s.heap.objs.size+1)::us) I2.kIn hl) r2 hq) fun r s' hq'=>?_))
 cases r with
 |error e=>exact hx pins σ _ _ e s' I2 hq'
 |ok fl =>
  cases fl with
  |ret u =>
   obtain⟨v,H',I3,rv,ev,q3⟩:=I2.after hq';subst ev;exact⟨rv,⟨V.ref (s.heap.objs.size+1),H',I3,rfl,q3⟩⟩
  |next=>exact False.elim hq'
  |brk=>exact False.elim hq'
  |cont=>exact False.elim hq'
theorem Jj(M:Mk X.K C f)(F:FnOk X.prog X.w X.K X.mg X.base CX k f fd ps sp)(hr:Room (k+1) X.A)(hg:Gl X x)(hm:X.mg x=some (.ref C))(hb:Binds X.K fd ps ds)(hd:Vals dvs ds)(hx:yC CX X E)
  (ha:PA X (e::es) t) (hdb:(x == ("__debug__":Str))=false:=by decide) (he:starEach (e::es) X.env=(false,eval e X.env)::starEach es X.env:=by rfl) (hpl:(backTo pos (starEach es X.env)).any (·.1)=false:=by rfl) :
  PE X (.Call (.Name x p) (e::es) [] pos) (QH C sp dvs E t):=by
 intro pins s σ H Q I h;refine wpAny_Call_Name_kw (wQ I hg hm ?_ hdb);refine PySem.W.callWith_K (h₀:=X.base) I.ok.mod.kin M.kp (thn (ha pos pins s σ H _ I h) fun us s1 ⟨vs,H1,I1,r,q⟩=>⟨I1.kIn,?_⟩) he hpl;exact X5 M F hr hb hd hx I1 r q
end
structure FnScope(N P:LS)(sc:Scope):Prop where
 kind:sc.kind=.function
 co:sc.isCoroutine=false
 gen:sc.isGenerator=false
 nd:N.Nodup
 pre:N.take P.length=P
 par:∀x∈P,sc.names.lookup x=some .local\/sc.names.lookup x=some .cell
 nofree:∀y∈sc.names,y.2≠.free
theorem FnScope.ok{P:LS}{sc:Scope}(a:N.Nodup:=by decide +kernel)(b:∀x∈P,sc.names.lookup x=some .local\/sc.names.lookup x=some .cell:=by decide +kernel)(c:∀y∈sc.names,y.2≠.free:=by decide +kernel)(d:sc.kind=.function:=by rfl)(e:sc.isCoroutine=false:=by rfl)(f:sc.isGenerator=false:=by rfl)(g:N.take P.length=P:=by rfl):FnScope N P sc:=⟨d,e,f,a,g,b,c⟩
theorem vQ{kindOf:Str->Option NameKind}{x:Str}:∀{binds:List (Str×Value)}{m:Str->Option Value},(∀v,(x,v)∉binds)->bindL kindOf binds m x=m x
 |[],_,_=>rfl
 | (n,v)::r,m,h=>by
  unfold bindL;rw[vQ fun w hw=>h w (Ul _ hw)];split
  ·have:x≠n:=by rintro rfl;exact h v Us
   simp[this]
  ·rfl
theorem vR{kindOf:Str->Option NameKind}{x:Str}:∀{binds:List (Str×Value)}{m:Str->Option Value},(∀v,(x,v)∉binds)->bindC kindOf binds m x=m x
 |[],_,_=>rfl
 | (n,v)::r,m,h=>by
  unfold bindC;rw[vR fun w hw=>h w (Ul _ hw)];split
  ·rfl
  ·have:x≠n:=by rintro rfl;exact h v Us
   simp[this]
theorem vS{kindOf:Str->Option NameKind}{x:Str}{v:Value}:∀{P:LS}{vs:List Value}{i:Nat}{m:Str->Option Value},P.Nodup->P[i]?=some x->vs[i]?=some v->kindOf x=some .local ->
  bindL kindOf (P.zip vs) m x=some v
 |[],_,_,_,_,h,_,_=>by simp at h
 |_::_,[],_,_,_,_,h,_=>by simp at h
 |p::P,w::vs,0,m,nd,h1,h2,hk=>by
  simp at h1 h2;subst h1;subst h2
  show bindL kindOf ((p,w)::P.zip vs) m p=_;unfold bindL;rw[vQ fun v hv=>(uM.mp nd).1 (UK hv).1,if_pos hk];simp
 |p::P,w::vs,i+1,m,nd,h1,h2,hk=>by
  show bindL kindOf ((p,w)::P.zip vs) m x=_;unfold bindL;exact vS (i:=i) (uM.mp nd).2 (by simpa using h1) (by simpa using h2) hk
theorem vT{kindOf:Str->Option NameKind}{x:Str}{v:Value}:∀{P:LS}{vs:List Value}{i:Nat}{m:Str->Option Value},P.Nodup->P[i]?=some x->vs[i]?=some v->kindOf x≠some .local ->
  bindC kindOf (P.zip vs) m x=some v
 |[],_,_,_,_,h,_,_=>by simp at h
 |_::_,[],_,_,_,_,h,_=>by simp at h
 |p::P,w::vs,0,m,nd,h1,h2,hk=>by
  simp at h1 h2;subst h1;subst h2
  show bindC kindOf ((p,w)::P.zip vs) m p=_;unfold bindC;rw[vR fun v hv=>(uM.mp nd).1 (UK hv).1,if_neg hk];simp
 |p::P,w::vs,i+1,m,nd,h1,h2,hk=>by
  show bindC kindOf ((p,w)::P.zip vs) m x=_;unfold bindC;exact vT (i:=i) (uM.mp nd).2 (by simpa using h1) (by simpa using h2) hk
def yP(N:LS)(vs:List V):St:=vs.map some++Ut (N.length-vs.length) none
def cxOf(CX:CXT)(P:Program)(w:World)(K:uc)(mg:Str->Option Value)(base:Heap)(N:LS)(qual:Str)(scope:Scope)(f:Addr)(cd:Value)(A:Around)(outer:List Env)(s:Shared)(H:Hp)(E:XK):Cx where
 prog:=P
 w:=w
 K:=K
 mg:=mg
 base:=base
 A:=A.deeper (envOfC qual scope s.heap.objs.size f cd)
 N:=N
 s₀:=s
 H₀:=H
 env:=envOfC qual scope s.heap.objs.size f cd
 outer:=outer
 stack:=envOfC qual scope s.heap.objs.size f cd::outer
 ex:=[]
 calm:=true
 fn:=fun _=>true
 pn:=[]
 xe:=fun e s'=>wpAny (model P w) (A.deeper (envOfC qual scope s.heap.objs.size f cd)) (leaving (envOfC qual scope s.heap.objs.size f cd) e) (fun _ s''=>CX outer H s E e s'') (fun e' s''=>CX outer H s E e' s'') s'
theorem Zb{sc:Scope}(h:sc.names.lookup x=some .cell):∃c,(cellsFrom n sc.names []).lookup x=some c:=by
 have q:=PySem.W.cellsFrom_some sc.names n [] (.inl h);exact Option.isSome_iff_exists.mp q
theorem vU{K:uc}{cd:Value}{outer:List Env}{s1:Shared}{E:XK}{vs:List V}
  (S:FnScope N ps scope) (hd:A.handled=none) (e0:Env0 P w K mg base A outer s H) (hl:vs.length=ps.length) (r:Vals vs us)
  (x:InCallC s s.heap.objs.size (bindL (envOfC qual scope s.heap.objs.size f cd).kindOf (ps.zip us) fun _=>none) (cellsFrom (s.heap.objs.size+1) scope.names []) (bindC (envOfC qual scope s.heap.objs.size f cd).kindOf (ps.zip us) fun _=>none) s1) :
  Inv (cxOf CX P w K mg base N qual scope f cd A outer s H E) [] (yP N vs) H s1:=by
 have hpl:ps.length<=N.length:=by have:=congrArg List.length S.pre;rw[uH]at this;lia
 obtain⟨h1,tk,rfl,hk⟩:=x.done;have noA:∀b:Addr,b∉(cxOf CX P w K mg base N qual scope f cd A outer s H E).ex:=fun b z=>absurd (show b∈([]:List Addr)from z) (by simp);refine⟨⟨e0.mod,S.kind,rfl,rfl,ud _,fun y z c h1 h2=>?_,fun y hy=>?_,fun y c _ h=>?_,fun _=>hd,Around.frames_deeper e0.frames,.inr ⟨rfl,rfl⟩,fun b z=>absurd z (noA b),e0.bs,e0.bsz,fun b _ _=>noA b,fun b z=>absurd z (noA b),e0.funs,e0.frf⟩,
  rfl,e0.bare,Un.kept hk,⟨_,x.toInCall.ns,fun i y v h1 h2 h3=>?_⟩,fun y c h=>⟨_,x.cell y c h⟩,e0.hok.fresh (ud _),fun y c h=>?_,fun p hp=>absurd (show p∈([]:List (Addr×Obj))from hp) (by simp),e0.hok.kept hk,?_⟩
 ·exact name_of_addr x.apart (u0 h1) (u0 h2)
 ·have hy:scope.names.lookup y=some .cell\/scope.names.lookup y=some .free:=hy
  rcases hy with hy|hy
  ·exact Zb hy
  ·exact absurd rfl (S.nofree _ (u0 hy))
 ·exact Nat.le_of_lt (x.above y c (u0 h))
 ·have hi:i < vs.length:=by
   unfold yP at h2;by_cases hi:i < vs.length
   ·exact hi
   ·rw[uR (by simpa using hi)]at h2
    rw[List.getElem?_replicate]at h2;split at h2<;>cases h2
  have ha:vs[i]?=some v:=by
   unfold yP at h2;rw[uT (by simpa using hi),ug]at h2;cases e:vs[i]? with
   |none=>rw[e]at h2;cases h2
   |some a=>rw[e]at h2;cases h2;rfl
  obtain⟨u,hu,rv⟩:=r.get ha;have hp:ps[i]?=some y:=by
   rw[<- S.pre,List.getElem?_take_of_lt (by lia)];exact h1
  have ndP:ps.Nodup:=by rw[<- S.pre];exact S.nd.sublist (List.take_sublist _ _)
  refine⟨u,rv,?_⟩;rcases S.par y (uv hp)with k|k
  ·exact .inl ⟨k,vS ndP hp hu k⟩
  ·obtain⟨c,e⟩:=Zb (n:=s.heap.objs.size+1) k
   refine .inr ⟨.inl k,c,e,?_⟩;have q:=x.cell y c e;rw[vT ndP hp hu (by show scope.names.lookup y≠_;rw[k];decide)]at q;exact q
 ·exact e0.hok.fresh (Nat.le_of_lt (x.above y c (u0 h)))
 ·unfold yP
  show _=N.length;rw[ub,ua,Uv];lia
theorem QI{K:uc}{k:Nat}{dV kV:Value}{an:Option Addr} (lk:K.lookup f=some ⟨oc,od,.func (uX name qual params body scope dV kV doc pm an cdv ct),osl⟩) (hcd:Uu K cdv qual=true) (S:FnScope N ps scope)
  (len:∀vs H Q E,sp vs H Q E->vs.length=ps.length)
  (hbody:∀(A:Around)(outer:List Env)(s:Shared)(H:Hp)(vs:List V)(Q:VK)(E:XK),Room k (A.deeper (envOfC qual scope s.heap.objs.size f cdv))->sp vs H Q E ->
   ∃t,PSs (cxOf CX P w K mg base N qual scope f cdv A outer s H E) body t/\t { nx:=fun _ H'=>Q .non H',rt:=Q } (yP N vs) H) :
  FnOk P w K mg base CX (k+1) f (uX name qual params body scope dV kV doc pm an cdv ct) ps sp:=by
 refine⟨len,fun A outer s H args us vs Q E hr e0 hb r hsp=>?_⟩;have hl:=len _ _ _ _ hsp;have KX:K.In s.heap:=e0.mod.kin.keeps fun b o e=>(e0.bs b o e).1;have lim:s.heap.NoLimit:=e0.mod.nolimit.keeps fun b o e=>(e0.bs b o e).1;have hkind:∀y∈ps.zip us,scope.names.lookup y.1=some .local\/(scope.names.lookup y.1=some .cell/\((cellsFrom (s.heap.objs.size+1) scope.names []).lookup y.1).isSome=true):=fun⟨n,v⟩ hy=>by
  rcases S.par n (UK hy).1 with q|q
  ·exact .inl q
  ·exact .inr ⟨q,PySem.W.cellsFrom_some _ _ _ (.inl q)⟩
 refine codeAny_call_function hr.depth (KX _ _ lk) rfl S.co S.gen rfl (PySem.W.codeRec_of KX hcd) (hb _ _ _ _ ?_);refine wpAny_newFunctionEnv_cells S.kind hkind fun env he s1 x=>?_;subst he;refine⟨lim.keeps x.toInCall.keep,codeAny_func ?_⟩;obtain⟨t,ht,hq⟩:=hbody A outer s H vs Q E (hr.deeper _) hsp;have I:Inv (cxOf CX P w K mg base N qual scope f cdv A outer s H E) [] (yP N vs) H s1:=vU S hr.hd e0 hl r x;refine wpAny_mono (ht [] s1 (yP N vs) H _ I hq) (fun fl s' hs=>?_) fun e s' hs=>hs;have fin:∀{σ':St}{H':Hp}{v:V}{u:Value},Inv (cxOf CX P w K mg base N qual scope f cdv A outer s H E) [] σ' H' s'->RelV v u->Q v H'->CE outer P w H s Q u s' :=
  fun{σ' H' v u} J rv q=>⟨v,H',J.os,J.bare,J.base,J.hok,rv,q⟩
 cases fl with
 |ret u =>
  obtain⟨v,σ',H',J,rv,q⟩:=hs;exact fin J rv q
 |next =>
  obtain⟨σ',H',J,q⟩:=hs;exact fin (v:=V.non) (u:=Value.none) J rfl q
 |brk =>
  obtain⟨_,_,_,q⟩:=hs;exact False.elim q
 |cont =>
  obtain⟨_,_,_,q⟩:=hs;exact False.elim q
section
variable{t:TA}{id T:String}{r:List V->Hp->VK->Prop}
def tCB(r:List V->Hp->VK->Prop)(t:TA):TE:=fun σ H Q=>t σ H fun vs H1=>r vs H1 Q
theorem X6(hc:yE X (.builtin id) r)(hg:Gl X x)(hm:X.mg x=none)(hv:bootBuiltins x=some (.builtin id))(ha:PA X (e::es) t)(hn:x≠"__name__":=by decide)(hdb:(x == ("__debug__":Str))=false:=by decide)
  (he:starEach (e::es) X.env=(false,eval e X.env)::starEach es X.env:=by rfl) (hpl:(backTo pos (starEach es X.env)).any (·.1)=false:=by rfl):PE X (.Call (.Name x p) (e::es) [] pos) (tCB r t):=by
 intro pins s σ H Q I h;refine wpAny_Call_Name_kw (wA I hg hm hv ?_ hn hdb);exact PyProof.Rows.callWith_builtin1 (thn (ha pos pins s σ H _ I h) fun us s1 ⟨vs,H1,I1,r1,q1⟩=>hc pins s1 σ H1 vs us Q I1 r1 q1) he hpl
theorem Xr(hc:yE X (.type T) r)(hg:Gl X x)(hm:X.mg x=none)(hv:bootBuiltins x=some (.type T))(ha:PA X (e::es) t)(hn:x≠"__name__":=by decide)(hdb:(x == ("__debug__":Str))=false:=by decide)
  (he:starEach (e::es) X.env=(false,eval e X.env)::starEach es X.env:=by rfl) (hpl:(backTo pos (starEach es X.env)).any (·.1)=false:=by rfl):PE X (.Call (.Name x p) (e::es) [] pos) (tCB r t):=by
 intro pins s σ H Q I h;refine wpAny_Call_Name_kw (wA I hg hm hv ?_ hn hdb);exact UA (thn (ha pos pins s σ H _ I h) fun us s1 ⟨vs,H1,I1,r1,q1⟩=>hc pins s1 σ H1 vs us Q I1 r1 q1) he hpl
end
end L2
variable{X:L2.Cx}{te ta tb tl t1 t2 t3 t4 ty:L2.TE}{r:L2.V->Option Int->Option Int->L2.Hp->L2.VK->Prop}{xs:List L2.V}{σ:L2.St}{H H1 H2 H':L2.Hp}{sp:L2.Sp}{tt:L2.TT}{CX:L2.CXT}{gs:L2.TGs}{cvs:List (Addr×L2.V)}{kvs:List (List L2.Key×L2.V)}
namespace HT
open PySem PyProof.Rows
theorem cat_tup{t:Addr}{ws:List Value}{Q:VSP}(ht:IsTup s.heap t vs.toArray)(hb:IsTup s.heap b ws.toArray)(hv:vs≠[])
  (h1:ws=[]->Q (.ref t) s) (h2:ws≠[]->Q (.ref s.heap.objs.size) { s with heap:=s.heap.push { cls:=.type "tuple",data:=.seq (vs++ws).toArray } })
  (hsz:vs.length+ws.length<=sizeLine):wpAny (model prog w) A (binaryOp .Add (.ref t) (.ref b)) Q E s:=by
 obtain⟨⟨cls,dd,data,sl⟩,ho,hc,n,hd⟩:=id ht;obtain⟨⟨cls2,dd2,data2,sl2⟩,ho2,hc2,n2,hd2⟩:=id hb;simp only at hc hd hc2 hd2
 subst hc hd hc2 hd2;have e:vs.toArray++ws.toArray=(vs++ws).toArray:=by simp
 by_cases hw:ws=[]
 ·exact concat_meets ⟨_,ho,rfl⟩ ⟨_,ho2,rfl⟩ noFill_tuple_add seq_tuple_add PySem.F.slot_tuple_add PySem.F.entry_tuple_add (PySem.F.args_tuple_add_2 _ _)
   (tuple_addW1 t b vs.toArray ws.toArray n n2 dd dd2 sl sl2 (by simpa using hv) (by simp[hw])) ⟨ho,ho2,h1 hw⟩
 ·refine concat_meets ⟨_,ho,rfl⟩ ⟨_,ho2,rfl⟩ noFill_tuple_add seq_tuple_add PySem.F.slot_tuple_add PySem.F.entry_tuple_add (PySem.F.args_tuple_add_2 _ _)
   (tuple_addW2 t b vs.toArray ws.toArray n n2 dd dd2 sl sl2 (by simpa using hv) (by simpa using hw) (by rw[uo,uo];exact hsz)) ⟨ho,ho2,?_⟩
  rw[e];exact h2 hw
def sIx(n d:Nat):Option Int->Nat
 |none=>d
 |some v=>if v < 0 then(v+(n:Int)).toNat else min v.toNat n
theorem zaD(n d:Nat)(hd:d<=n)(o:Option Int):sIx n d o<=n:=by
 cases o with
 |none=>exact hd
 |some v =>
  show(if v < 0 then(v+(n:Int)).toNat else min v.toNat n)<=n;by_cases hv:v < 0
  ·rw[if_pos hv];lia
  ·rw[if_neg hv];exact Nat.min_le_right _ _
theorem YD(v:Int)(n d:Nat):(if v < 0 then max (v+(n:Int)) 0 else min v (n:Int))=((sIx n d (some v):Nat):Int):=by
 show(if v < 0 then max (v+(n:Int)) 0 else min v (n:Int))=(((if v < 0 then(v+(n:Int)).toNat else min v.toNat n):Nat):Int);by_cases hv:v < 0
 ·simp only[if_pos hv];lia
 ·simp only[if_neg hv];lia
theorem Z0(lo hi:Option Int)(n:Nat):Builtin.Slice.sliceAdjust lo hi 1 (n:Int)=(((sIx n 0 lo:Nat):Int),((sIx n n hi:Nat):Int)):=by
 have h1:¬ ((1:Int) < 0):=by lia
 unfold Builtin.Slice.sliceAdjust;simp only[h1,if_false]
 refine Prod.ext ?_ ?_
 ·cases lo with
  |none=>rfl
  |some v=>exact YD v n 0
 ·cases hi with
  |none=>rfl
  |some v=>exact YD v n n
theorem Z1(i j:Nat):Builtin.Slice.slicePlaces (i:Int) (j:Int) 1=j-i:=by
 unfold Builtin.Slice.slicePlaces;have h1:(1:Int) > 0:=by lia
 simp only[h1,if_true,Int.ediv_one]
 split<;>lia
theorem vg{o:Option Int}{Q:Option Int->Shared->Prop}(p:IsPart v o)(h:Q o s):wpAny (model prog w) A (Builtin.Slice.slicePartIndex v) Q E s:=by
 cases p with
 |none=>exact slicePart_none h
 |int i t=>exact slicePart_int h
theorem yU{Q:Int×Int×Nat->Shared->Prop}(hs:s.heap.IsSliceOf sl vl vu .none)(pl:IsPart vl lo)(pu:IsPart vu hi)
  (h:Q (((sIx n 0 lo:Nat):Int),1,sIx n n hi-sIx n 0 lo) s):wpAny (model prog w) A (Builtin.Slice.sliceApplied (.ref sl) (pure (n:Int))) Q E s:=by
 obtain⟨os,hos,hcs,hds⟩:=id hs;unfold Builtin.Slice.sliceApplied Builtin.Slice.sliceFields;refine wpAny_bind (wpAny_bind (wpAny_field hos hds (x:=vl) rfl (wpAny_bind (wpAny_field hos hds (x:=vu) rfl (wpAny_bind (wpAny_field hos hds (x:=.none) rfl (wpAny_pure ?_)))))));refine wpAny_bind (slicePart_none ?_);show wpAny _ _ (if((1:Int) == 0)=true then _ else _) _ _ s;rw[if_neg (by decide)];refine wpAny_bind (vg pl (wpAny_bind (vg pu (wpAny_bind (wpAny_pure ?_)))));show wpAny _ _ (match Builtin.Slice.sliceAdjust lo hi 1 (n:Int)with|(lo,hi)=>pure (lo,(1:Int),Builtin.Slice.slicePlaces lo hi 1)) _ _ s;rw[Z0 lo hi n];show wpAny _ _ (pure (((sIx n 0 lo:Nat):Int),(1:Int),Builtin.Slice.slicePlaces ((sIx n 0 lo:Nat):Int) ((sIx n n hi:Nat):Int) 1)) _ _ s;rw[Z1];exact wpAny_pure h
theorem X7(xs:Array Value)(i k:Nat):((uV k).filterMap fun(m:Nat)=>xs[((i:Int)+(m:Int)*1).toNat]?).toArray=((xs.toList.drop i).take k).toArray:=by
 have e:(fun(m:Nat)=>xs[((i:Int)+(m:Int)*1).toNat]?)=fun m=>xs[i+m]?:=by
  funext m
  have:((i:Int)+(m:Int)*1).toNat=i+m:=by lia
  rw[this]
 rw[e]
 have:=pick_run xs i k
 rw[List.filterMap_map]at this;have e2:((fun x=>xs[x]?) ∘ fun x=>i+x)=fun m=>xs[i+m]?:=rfl;rw[e2]at this;rw[this]
theorem getItem_tuple_cut{t:Addr}{Q:VSP}(ht:IsTup s.heap t items)(hs:s.heap.IsSliceOf sl vl vu .none)(pl:IsPart vl lo)(pu:IsPart vu hi)
  (hw:¬ (sIx items.size 0 lo=0/\sIx items.size items.size hi=items.size))
  (h:Q (.ref s.heap.objs.size) { s with heap:=s.heap.push { cls:=.type "tuple",data:=.seq ((items.toList.drop (sIx items.size 0 lo)).take (sIx items.size items.size hi-sIx items.size 0 lo)).toArray } })
  (hsz:items.size<=sizeLine):wpAny (model prog w) A (getItem (.ref t) (.ref sl)) Q E s:=by
 have htake:sizeOk (.seq ((items.toList.drop (sIx items.size 0 lo)).take (sIx items.size items.size hi-sIx items.size 0 lo)).toArray):=by
  show((items.toList.drop (sIx items.size 0 lo)).take (sIx items.size items.size hi-sIx items.size 0 lo)).toArray.size<=sizeLine;rw[uo,uH,List.length_drop,Array.length_toList];lia
 have hj:sIx items.size items.size hi<=items.size:=zaD _ _ (ud _) hi;obtain⟨os,hos,hcs,hds⟩:=id hs;have hTs:s.TypeIs (.ref sl) "slice":=⟨os,hos,hcs⟩;unfold getItem
 try with_reducible refine wpAny_holding ?_
 first|refine wpAny_bind (wpAny_pure ?_)|skip
 refine wpAny_bind (wpAny_sequenceKey ht.typeIs (by decide) ?_);refine wpAny_bind (wpAny_callSpecial?_slot (name:=Str.ofString "__getitem__") ht.typeIs Ua
  (wpAny_call_entry Ua ht.typeIs entry_tuple_getitem ?_ (args_tuple_getitem _ _)))
 show wpAny _ _ (Builtin.Tuple.tupleItemsOf (.ref t) >>= _) _ _ s;refine wpAny_bind (tupleItemsOf_ ht ?_);refine wpAny_bind (wpAny_typeOf hTs ?_);rw[if_pos (by decide)];refine wpAny_bind (yU hs pl pu ?_);have hno:¬ ((((sIx items.size 0 lo:Nat):Int) == 0 && (1:Int) == 1 && (sIx items.size items.size hi-sIx items.size 0 lo) == items.size)=true):=by
  intro q;rw[UC,UC]at q;have q1:((sIx items.size 0 lo:Nat):Int)=0:=eq_of_beq q.1.1;have q2:sIx items.size items.size hi-sIx items.size 0 lo=items.size:=eq_of_beq q.2;exact hw ⟨by lia,by lia⟩
 show wpAny _ _ (if(((sIx items.size 0 lo:Nat):Int) == 0 && (1:Int) == 1 && (sIx items.size items.size hi-sIx items.size 0 lo) == items.size)=true then _ else _) _ _ s;rw[if_neg hno,X7]
 first
  |exact wpAny_bind (m:=Builtin.Tuple.tupleExact _) (wpAny_newObj_type (wpAny_pure ⟨_,rfl,wpAny_pure h⟩) htake)
  |exact wpAny_bind (m:=Builtin.Tuple.tupleExact _) (wpAny_newObj_type (wpAny_bind (wpAny_pure (wpAny_pure ⟨_,rfl,wpAny_pure h⟩))) htake)
  |exact wpAny_bind (wpAny_bind (m:=Builtin.Tuple.tupleExact _) (wpAny_newObj_type (wpAny_pure (wpAny_pure ⟨_,rfl,wpAny_pure h⟩)) htake))
  |exact wpAny_bind (wpAny_bind (m:=Builtin.Tuple.tupleExact _) (wpAny_newObj_type (wpAny_pure ⟨_,rfl,wpAny_pure h⟩) htake))
end HT
namespace L2
open PySem PySem.Spec PyProof.Rows
variable{x:V}
abbrev TO:=St->Hp->(Option Int->Hp->Prop)->Prop
def PO(X:Cx)(e:Option Expr)(t:TO):Prop :=
 ∀(pins:List (Addr×Obj))(s:Shared)(σ:St)(H:Hp)(Q:Option Int->Hp->Prop),Inv X pins σ H s->t σ H Q ->
  wpAny (model X.prog X.w) X.A (evalPart e X.env) (fun u s'=>∃o H',Inv X pins σ H' s'/\IsPart u o/\Q o H') X.xe s
def YE:TO:=fun _ H Q=>Q none H
def QJ(t:TE):TO:=fun σ H Q=>t σ H fun x H1=>∃i,x=.int i/\Q (some i) H1
section
variable{lo hi:Option Expr}{tl th:TO}
theorem Jk:PO X none YE:=by
 intro pins s σ H Q I h;rw[evalPart_none];exact wpAny_pure ⟨none,H,I,.none,h⟩
theorem Jl(h:PE X e te):PO X (some e) (QJ te):=by
 intro pins s σ H Q I hw;rw[evalPart_some];refine thn (h pins s σ H _ I hw) fun u s1 hq_=>?_;obtain⟨x,H1,I1,r1,q1⟩:=hq_;obtain⟨i,rfl,q⟩:=q1;obtain⟨t,rfl⟩:=r1;exact⟨some i,H1,I1,.int i t,q⟩
def SlR(X:Cx)(r:V->Option Int->Option Int->Hp->VK->Prop):Prop :=
 ∀(pins:List (Addr×Obj))(s:Shared)(σ:St)(H:Hp)(x:V)(v vl vu:Value)(lo hi:Option Int)(sl:Addr)(Q:VK),Inv X pins σ H s->RelV x v->s.heap.IsSliceOf sl vl vu .none->IsPart vl lo->IsPart vu hi->r x lo hi H Q ->
  ∃T id,typeLookup (.type T) "__getitem__"=pure (some (.builtin id))/\s.TypeIs v T/\wpAny (model X.prog X.w) X.A (getItem v (.ref sl)) (EP X pins σ Q) X.xe s
def tSl(r:V->Option Int->Option Int->Hp->VK->Prop)(te:TE)(tl th:TO):TE:=fun σ H Q=>te σ H fun x H1=>tl σ H1 fun l H2=>th σ H2 fun u H3=>r x l u H3 Q
theorem X8(hr:SlR X r)(he:PE X e te)(hl:PO X lo tl)(hu:PO X hi th):PE X (.Subscript e (.Slice lo hi none p2) pos) (tSl r te tl th):=by
 intro pins s σ H Q I h;refine Subscript_ (thn (he pins s σ H _ I h) fun v s1 hq_=>?_);obtain⟨x,H1,I1,r1,q1⟩:=hq_;refine wpAny_Slice (thn (hl pins s1 σ H1 _ I1 q1) fun vl s2 ⟨l,H2,I2,pl,q2⟩=>thn (hu pins s2 σ H2 _ I2 q2) fun vu s3 hq_=>?_);obtain⟨u,H3,I3,pu,q3⟩:=hq_;rw[evalPart_none];refine wpAny_pure ?_;have I4:Inv X pins σ H3 { s3 with heap:=s3.heap.push { cls:=.type "slice",data:=.fields #[vl,vu,.none] } }:=I3.kept (t':=s3.toks) fun b ob q=>uf _ q;obtain⟨T,id,hT,ht,hg⟩:=hr pins { s3 with heap:=s3.heap.push { cls:=.type "slice",data:=.fields #[vl,vu,.none] } } σ H3 x v vl vu l u s3.heap.objs.size Q I4 r1 (Heap.IsSliceOf.new ..) pl pu q3;show wpAny (model X.prog X.w) X.A (subscriptTail e (.Slice lo hi none p2) v (.ref s3.heap.objs.size)) (EP X pins σ Q) X.xe { s3 with heap:=s3.heap.push { cls:=.type "slice",data:=.fields #[vl,vu,.none] } };exact tail_any (ops:=[.ref s3.heap.objs.size,v]) ht hT hg (by with_unfolding_all rfl)
def cutV(xs:List V)(lo hi:Option Int):List V:=(xs.drop (HT.sIx xs.length 0 lo)).take (HT.sIx xs.length xs.length hi-HT.sIx xs.length 0 lo)
theorem wL(xs:List V)(lo hi:Option Int):(cutV xs lo hi).length<=xs.length:=by
 unfold cutV;rw[uH,List.length_drop];lia
def rSlT(K:uc):V->Option Int->Option Int->Hp->VK->Prop:=fun x lo hi H Q=>∃a xs,x=.ref a/\SqT K H a xs /\
 ¬ (HT.sIx xs.length 0 lo=0/\HT.sIx xs.length xs.length hi=xs.length)/\∀p,H p=none->Q (.ref p) (upd H p (.tup (cutV xs lo hi)))
theorem zaE:SlR X (rSlT X.K):=by
 intro pins s σ H x v vl vu lo hi sl Q I rx hs pl pu h;obtain⟨a,xs,rfl,hx,hw,q⟩:=h;cases rx;obtain⟨its,r,ht,hz⟩:=I.tuple hx;have hlen:its.toArray.size=xs.length:=by rw[uo];exact r.length.symm
 refine⟨"tuple",_,Ua.lookup,ht.typeIs,?_⟩;refine HT.getItem_tuple_cut ht hs pl pu (by rw[hlen];exact hw) ?_ (by rw[hlen];exact hz);rw[hlen];refine⟨.ref s.heap.objs.size,_,I.laid (t':=s.toks) (o:=.tup (cutV xs lo hi)) (fun b ob q=>uf _ q) (ud _) ?_,rfl,q _ (I.hok.fresh (ud _))⟩;exact⟨uC (wL xs lo hi) hz,_,(r.drop (HT.sIx xs.length 0 lo)).take (HT.sIx xs.length xs.length hi-HT.sIx xs.length 0 lo),IsTupN.new _ _⟩
def X9(K:uc):R2:=fun x y H Q=>∃a b xs ys,x=.ref a/\y=.ref b/\SqT K H a xs/\SqT K H b ys/\xs≠[]/\xs.length+ys.length<=sizeLine /\
 (ys=[]->Q (.ref a) H)/\(ys≠[]->∀p,H p=none->Q (.ref p) (upd H p (.tup (xs++ys))))
theorem Vals.nil_iff(r:Vals xs us):us=[]↔xs=[]:=by
 cases r with
 |nil=>simp
 |cons _ _=>simp
theorem Jm:OpR X (binaryOp .Add) (X9 X.K):=by
 intro pins s σ H x y v u Q I rx ry h;obtain⟨a,b,xs,ys,rfl,rfl,ha,hb,hx,hz,q1,q2⟩:=h;cases rx;cases ry;obtain⟨its,r1,p1,_⟩:=I.tuple ha;obtain⟨its2,r2,p2,_⟩:=I.tuple hb;refine HT.cat_tup p1 p2 (fun z=>hx (r1.nil_iff.mp z)) (fun z=>⟨.ref a,H,I,rfl,q1 (r2.nil_iff.mp z)⟩) (fun z=>?_) (by rw[<- r1.length,<- r2.length];exact hz);refine⟨.ref s.heap.objs.size,_,I.laid (t':=s.toks) (o:=.tup (xs++ys)) (fun b ob q=>uf _ q) (ud _) ?_,rfl,q2 (fun w=>z (r2.nil_iff.mpr w)) _ (I.hok.fresh (ud _))⟩;exact⟨by rw[ub];exact hz,_,r1.append r2,IsTupN.new _ _⟩
end
def ixN(n:Nat)(i:Int):Option Nat:=if 0<=i then(if i < n then some i.toNat else none)else if -(n:Int)<=i then some (i+n).toNat else none
def atI{α:Type}(xs:List α)(i:Int):Option α:=(ixN xs.length i).bind fun j=>xs[j]?
theorem YF{i:Int}(h:ixN n i=some j):seqIndex? i n=some j/\j < n/\-(n:Int)<=i/\i < n:=by
 unfold ixN at h;by_cases h0:0<=i
 ·rw[if_pos h0]at h
  by_cases h1:i < n
  ·rw[if_pos h1]at h
   have e:i.toNat=j:=u5.inj h;exact⟨by rw[seqIndex_of h0 h1,e],by lia,by lia,h1⟩
  ·rw[if_neg h1]at h;cases h
 ·rw[if_neg h0]at h
  by_cases h1:-(n:Int)<=i
  ·rw[if_pos h1]at h
   have e:(i+n).toNat=j:=u5.inj h;exact⟨by rw[seqIndex_neg (by lia) h1,e],by lia,h1,by lia⟩
  ·rw[if_neg h1]at h;cases h
theorem jc{α:Type}{xs:List α}{i:Int}{v:α}(h:atI xs i=some v):∃j,seqIndex? i xs.length=some j/\xs[j]?=some v/\j < xs.length/\-(xs.length:Int)<=i/\i < xs.length:=by
 unfold atI at h;cases e:ixN xs.length i with
 |none=>rw[e]at h;cases h
 |some j =>
  rw[e]at h;obtain⟨h1,h2,h3,h4⟩:=YF e;exact⟨j,h1,h,h2,h3,h4⟩
theorem zN{α:Type}{xs:List α}{v:α}(h:xs[j]?=some v):atI xs (j:Int)=some v:=by
 have hj:j < xs.length:=(ue.mp h).1;have e:ixN xs.length (j:Int)=some j:=by
  unfold ixN;rw[if_pos (by lia),if_pos (by lia)];simp
 unfold atI;rw[e];exact h
theorem aI0{α:Type}{a:α}{r:List α}:atI (a::r) 0=some a:=zN (j:=0) rfl
theorem aI1{α:Type}{a b:α}{r:List α}:atI (a::b::r) 1=some b:=zN (j:=1) rfl
theorem aI2{α:Type}{a b c:α}{r:List α}:atI (a::b::c::r) 2=some c:=zN (j:=2) rfl
theorem aI3{α:Type}{a b c d:α}{r:List α}:atI (a::b::c::d::r) 3=some d:=zN (j:=3) rfl
theorem aI4{α:Type}{a b c d e:α}{r:List α}:atI (a::b::c::d::e::r) 4=some e:=zN (j:=4) rfl
theorem aI5{α:Type}{a b c d e f:α}{r:List α}:atI (a::b::c::d::e::f::r) 5=some f:=zN (j:=5) rfl
theorem yV{α:Type}(xs:List α)(v:α):atI (xs++[v]) (-1)=some v:=by
 have hl:(xs++[v]).length=xs.length+1:=by simp
 have e:ixN (xs++[v]).length (-1)=some xs.length:=by
  unfold ixN;rw[hl,if_neg (by decide),if_pos (by lia)]
  congr 1
  lia
 unfold atI;rw[e];show(xs++[v])[xs.length]?=some v;simp
def jd(b:Expr):Prop:=∀o i,subscripted b false o i=operate [o,i] (getItem o i)
def IxR(X:Cx)(r:R2):Prop :=
 ∀(value slice:Expr)(pins:List (Addr×Obj))(s:Shared)(σ:St)(H:Hp)(x y:V)(v u:Value)(Q:VK),Inv X pins σ H s->RelV x v->RelV y u->r x y H Q ->
  subscripted slice false v u=operate [v,u] (getItem v u)->wpAny (model X.prog X.w) X.A (subscriptTail value slice v u) (EP X pins σ Q) X.xe s
def MtR(X:Cx)(id:String)(r:V->List V->Hp->VK->Prop):Prop :=
 ∀(pins:List (Addr×Obj))(s:Shared)(σ:St)(H:Hp)(x:V)(xs:List V)(v:Value)(us:List Value)(Q:VK),Inv X pins σ H s->RelV x v->Vals xs us->r x xs H Q ->
  wpAny (model X.prog X.w) X.A (call (.builtin id) (v::us)) (EP X pins σ Q) X.xe s
section
variable{a b:Expr}
theorem zbK{r:R2}(hr:IxR X r)(ha:PE X a ta)(hb:PE X b tb)(hs:jd b):PE X (.Subscript a b pos) (tOp r ta tb):=by
 intro pins s σ H Q I h;exact Subscript_ (binT ha hb I h fun v u s2 x y H2 I2 rx ry q=>hr a b pins s2 σ H2 x y v u Q I2 rx ry q (hs _ _))
def rIxL(K:uc):R2:=fun x y H Q=>∃p xs i v,x=.ref p/\y=.int i/\SqL K H p xs/\atI xs i=some v/\Q v H
def rIxT(K:uc):R2:=fun x y H Q=>∃p xs i v,x=.ref p/\y=.int i/\SqT K H p xs/\atI xs i=some v/\Q v H
def rIxS:R2:=fun x y H Q=>∃z i c,x=.str z/\y=.int i/\z.length<=sizeLine/\atI z.cps.toList i=some c/\Q (.str ⟨#[c]⟩) H
theorem Jn:IxR X (rIxL X.K):=by
 intro value slice pins s σ H x y v u Q I rx ry h hs;obtain⟨p,xs,i,z,rfl,rfl,hq,he,q⟩:=h;cases rx;obtain⟨t,rfl⟩:=ry;obtain⟨its,r,pl,hz⟩:=I.list hq;obtain⟨j,h1,h2,h3,h4,h5⟩:=jc he;obtain⟨w,ew,rw'⟩:=r.get h2;have hl:=r.length;have hn:=wC;have fin:EP X pins σ Q w s:=⟨z,H,I,rw',q⟩;by_cases h0:0<=i
 ·have hj:i.toNat=j:=by
   rw[seqIndex_of h0 h5]at h1;exact u5.inj h1
  exact item_listR pl.isList h0 (by lia) (by rw[hj];simpa using ew) fin hs
 ·have hj:(i+(its.toArray.size:Int)).toNat=j:=by
   rw[seqIndex_neg (by lia) h4]at h1;rw[uo,<- hl];exact u5.inj h1
  exact subscriptTail_builtinR (x:=w) pl.isList.typeIs slot_list_getitem.lookup
   (wpAny_getItem_list_neg (Q:=fun r s'=>r=w/\EP X pins σ Q r s') pl.isList (by lia) (by rw[uo]<;>lia) (by lia) (by rw[hj];simpa using ew) ⟨rfl,fin⟩) hs
theorem zaF:IxR X (rIxT X.K):=by
 intro value slice pins s σ H x y v u Q I rx ry h hs;obtain⟨p,xs,i,z,rfl,rfl,hq,he,q⟩:=h;cases rx;obtain⟨t,rfl⟩:=ry;obtain⟨its,r,pl,hz⟩:=I.tuple hq;obtain⟨j,h1,h2,h3,h4,h5⟩:=jc he;obtain⟨w,ew,rw'⟩:=r.get h2;have hl:=r.length;have hn:=wC;have fin:EP X pins σ Q w s:=⟨z,H,I,rw',q⟩;exact subscriptTail_builtinR (x:=w) pl.typeIs slot_tuple_getitem.lookup
  (getItem_tuple (j:=j) (Q:=fun r s'=>r=w/\EP X pins σ Q r s') pl (by lia) (by lia) (by rw[uo,<- hl];exact h1) (by simpa using ew) ⟨rfl,fin⟩) hs
theorem zaG:IxR X rIxS:=by
 intro value slice pins s σ H x y v u Q I rx ry h hs;obtain⟨z,i,c,rfl,rfl,hz,he,q⟩:=h;obtain⟨t,rfl⟩:=rx;obtain⟨t',rfl⟩:=ry;obtain⟨j,h1,h2,h3,h4,h5⟩:=jc he;have hl:z.cps.toList.length=z.length:=by simp[Str.length]
 rw[hl]at h1 h4 h5;have hn:=wC;exact tail_any (typeIs_str s z t) slot_str_getitem.lookup (getItem_str (c:=c) (by
  have e1:decide (i < -(2 ^ 63:Int))=false:=decide_eq_false (by lia);have e2:decide (i ≥ 2 ^ 63)=false:=decide_eq_false (by lia);rw[e1,e2,Bool.or_false]) (by rw[h1];simpa using h2) ⟨.str ⟨#[c]⟩,H,I.tok _,⟨_,rfl⟩,q⟩) hs
theorem Z2(its:List Value)(n j:Nat)(u:Value):Obj.mapSeq (·.setIfInBounds j u) { cls:=.type "list",data:=.seq its.toArray n }={ cls:=.type "list",data:=.seq (its.set j u).toArray n }:=by
 simp[Obj.mapSeq]
theorem Inv.lst(I:Inv X pins σ H s)(h:H p=some (.lst xs)):
  ∃(its:List Value)(n:Nat),Vals xs its/\s.heap.get? p=some { cls:=.type "list",data:=.seq its.toArray n }/\xs.length<=sizeLine:=by
 obtain⟨z,its,n,r,e⟩:=I.hok p _ h;exact⟨its,n,r,e,z⟩
theorem Inv.lstUpd{ys:List V}{n':Nat}{f:Obj->Obj}(I:Inv X pins σ H s)(h:H p=some (.lst xs))
  (ho:s.heap.get? p=some { cls:=.type "list",data:=.seq its.toArray n }) (hf:f { cls:=.type "list",data:=.seq its.toArray n }={ cls:=.type "list",data:=.seq its'.toArray n' }) (r:Vals ys its') (hz:ys.length<=sizeLine) (t:Nat) :
  Inv X pins σ (upd H p (.lst ys)) { s with heap:=s.heap.update p f,toks:=t }:=by
 have e:(s.heap.update p f).get? p=some { cls:=.type "list",data:=.seq its'.toArray n' }:=by
  rw[Heap.get?_update_self f ho (by rw[hf]<;>rfl),hf]
 refine I.write (x:=p) (e:=p) (by rw[h];trivial) (.inl rfl) (fun b u hb q=>(Heap.get?_update_other _ _ (Ne.symm hb)).trans q) ⟨_,e⟩ ?_;exact⟨hz,its',n',r,e⟩
def QK:V->V->V->Hp->(Hp->Prop)->Prop:=fun o i v H Q=>∃p xs k j,o=.ref p/\i=.int k/\H p=some (.lst xs)/\ixN xs.length k=some j/\Q (upd H p (.lst (xs.set j v)))
theorem Wa:PSet X QK:=by
 intro pins s σ H o i v ov iv u Q I ro ri rv h;obtain⟨p,xs,k,j,rfl,rfl,hp,hj,q⟩:=h;cases ro;obtain⟨t,rfl⟩:=ri;obtain⟨its,n,r,ho,hz⟩:=I.lst hp;obtain⟨h1,h2,h3,h4⟩:=YF hj;have hl:=r.length;have hn:=wC;have I':Inv X pins σ (upd H p (.lst (xs.set j v))) { s with heap:=s.heap.update p (Obj.mapSeq (·.setIfInBounds j u)) } :=
  I.lstUpd hp ho (Z2 its n j u) (r.set rv j) (by rw[List.length_set];exact hz) s.toks
 by_cases h0:0<=k
 ·have hk:k.toNat=j:=by
   rw[seqIndex_of h0 h4]at h1;exact u5.inj h1
  exact PySem.W.ki_setAt ho h0 (by lia) (by rw[uo,<- hl];exact h4) (by rw[hk];exact⟨_,I',q⟩)
 ·have hk:(k+(its.toArray.size:Int)).toNat=j:=by
   rw[seqIndex_neg (by lia) h3]at h1;rw[uo,<- hl];exact u5.inj h1
  exact PySem.W.ki_setBack ho (by lia) (by rw[uo,<- hl];exact h3) (by lia) (by rw[hk];exact⟨_,I',q⟩)
theorem jf(lo hi:Option Int)(n:Nat):(sliceBounds lo hi none n).1=((HT.sIx n 0 lo:Nat):Int)/\(sliceBounds lo hi none n).2.1=((HT.sIx n n hi:Nat):Int)/\(sliceBounds lo hi none n).2.2=1:=by
 refine⟨?_,?_,rfl⟩
 ·cases lo with
  |none=>simp[sliceBounds,HT.sIx]
  |some i =>
   simp only[sliceBounds,HT.sIx,Option.getD_none,show(1:Int) > 0 by decide,if_true]
   by_cases h:i < 0
   ·simp only[h,if_true]<;>lia
   ·simp only[h,if_false]<;>lia
 ·cases hi with
  |none=>simp[sliceBounds,HT.sIx]
  |some i =>
   simp only[sliceBounds,HT.sIx,Option.getD_none,show(1:Int) > 0 by decide,if_true]
   by_cases h:i < 0
   ·simp only[h,if_true]<;>lia
   ·simp only[h,if_false]<;>lia
theorem vL(its:List Value)(lo hi:Option Int):slicePick its.toArray lo hi none=((its.drop (HT.sIx its.length 0 lo)).take (HT.sIx its.length its.length hi-HT.sIx its.length 0 lo)).toArray:=by
 obtain⟨h1,h2,h3⟩:=jf lo hi its.toArray.size;unfold slicePick;rw[h1,h2,h3];simp only[sliceRange_one,pick_run,uo]<;>rfl
def rSlL(K:uc):V->Option Int->Option Int->Hp->VK->Prop:=fun x lo hi H Q=>∃a xs,x=.ref a/\SqL K H a xs/\∀p,H p=none->Q (.ref p) (upd H p (.lst (cutV xs lo hi)))
theorem Jo:SlR X (rSlL X.K):=by
 intro pins s σ H x v vl vu lo hi sl Q I rx hs pl pu h;obtain⟨a,xs,rfl,hx,q⟩:=h;cases rx;obtain⟨its,r,ht,hz⟩:=I.list hx;have hlen:=r.length;refine⟨"list",_,slot_list_getitem.lookup,ht.isList.typeIs,?_⟩;refine wpAny_getItem_list_slice ht.isList hs pl pu .none (by simp) ?_ (by rw[uo]<;>lia);rw[vL,<- hlen];refine⟨.ref s.heap.objs.size,_,I.laid (t':=s.toks) (o:=.lst (cutV xs lo hi)) (fun b ob q=>uf _ q) (ud _) ?_,rfl,q _ (I.hok.fresh (ud _))⟩;exact⟨uC (wL xs lo hi) hz,_,0,(r.drop (HT.sIx xs.length 0 lo)).take (HT.sIx xs.length xs.length hi-HT.sIx xs.length 0 lo),uu _ rfl⟩
def xi:V->Bool
 |.non=>true
 |.bl _=>true
 |.int _=>true
 |.str _=>true
 |_=>false
def eqV:V->V->Bool
 |.non,.non=>true
 |.bl a,.bl b=>a == b
 |.bl a,.int b=>(if a then 1 else 0) == b
 |.int a,.bl b=>a == (if b then 1 else 0)
 |.int a,.int b=>a == b
 |.str a,.str b=>a == b
 |_,_=>false
theorem Wb{y:V}(ry:RelV y u)(rx:RelV x v)(fy:xi y=true)(fx:xi x=true):SeqAt.EqAt A s u v (eqV y x):=by
 cases y with
 |non =>
  cases ry;cases x with
  |non=>cases rx;exact SeqAt.EqAt.same _
  |bl b=>cases rx;exact SeqAt.EqAt.none_bool b
  |int b=>obtain⟨t,rfl⟩:=rx;exact SeqAt.EqAt.none_int b t
  |str b=>obtain⟨t,rfl⟩:=rx;exact SeqAt.EqAt.none_str b t
  |_=>exact absurd (show false=true from fx) uw
 |bl a =>
  cases ry;cases x with
  |non=>cases rx;exact SeqAt.EqAt.bool_none a
  |bl b=>cases rx;exact SeqAt.EqAt.bool_bool a b
  |int b=>obtain⟨t,rfl⟩:=rx;exact SeqAt.EqAt.bool_int a b t
  |str b=>obtain⟨t,rfl⟩:=rx;exact SeqAt.EqAt.bool_str a b t
  |_=>exact absurd (show false=true from fx) uw
 |int a =>
  obtain⟨t',rfl⟩:=ry;cases x with
  |non=>cases rx;exact SeqAt.EqAt.int_none a t'
  |bl b=>cases rx;exact SeqAt.EqAt.int_bool a t' b
  |int b=>obtain⟨t,rfl⟩:=rx;exact SeqAt.EqAt.int_int a t' b t
  |str b=>obtain⟨t,rfl⟩:=rx;exact SeqAt.EqAt.int_str a t' b t
  |_=>exact absurd (show false=true from fx) uw
 |str a =>
  obtain⟨t',rfl⟩:=ry;cases x with
  |non=>cases rx;exact SeqAt.EqAt.str_none a t'
  |bl b=>cases rx;exact SeqAt.EqAt.str_bool a t' b
  |int b=>obtain⟨t,rfl⟩:=rx;exact SeqAt.EqAt.str_int a t' b t
  |str b=>obtain⟨t,rfl⟩:=rx;exact SeqAt.EqAt.str_str a t' b t
  |_=>exact absurd (show false=true from fx) uw
 |_=>exact absurd (show false=true from fy) uw
def eqU(x:V)(u:Value):Bool:=match u with
 |.none=>eqV .non x
 |.bool b=>eqV (.bl b) x
 |.int i _=>eqV (.int i) x
 |.str z _=>eqV (.str z) x
 |_=>false
theorem Wc{y:V}(r:RelV y u)(f:xi y=true):eqU x u=eqV y x:=by
 cases y with
 |non=>cases r;rfl
 |bl b=>cases r;rfl
 |int i=>obtain⟨t,rfl⟩:=r;rfl
 |str z=>obtain⟨t,rfl⟩:=r;rfl
 |_=>exact absurd (show false=true from f) uw
theorem xQ{x:V}:∀{xs:List V}{us:List Value},Vals xs us->xs.all xi=true->us.any (eqU x)=xs.any fun y=>eqV y x
 |_,_,.nil,_=>rfl
 |y::xs,u::us,.cons r t,f=>by
  rw[List.all_cons,UC]at f;rw[Uq,Uq,Wc r f.1,xQ t f.2]
theorem xj{A:Around}{s:Shared}{x:V}{v:Value}(rx:RelV x v)(fx:xi x=true):∀{xs:List V}{us:List Value},Vals xs us->xs.all xi=true->∀u∈us,SeqAt.EqAt A s u v (eqU x u)
 |_,_,.nil,_=>fun u hu=>by cases hu
 |y::xs,u::us,.cons r t,f=>fun u' hu=>by
  rw[List.all_cons,UC]at f;rcases uq.mp hu with rfl|hu
  ·rw[Wc r f.1];exact Wb r rx f.1 fx
  ·exact xj rx fx t f.2 u' hu
def inV(x:V)(xs:List V):Bool:=xs.any fun y=>eqV y x
def rIn(K:uc)(neg:Bool):R2:=fun x y H Q=>∃p xs,y=.ref p/\(SqL K H p xs\/SqT K H p xs)/\xi x=true/\xs.all xi=true/\Q (.bl (if neg then !inV x xs else inV x xs)) H
theorem Xs:OpR X (compareOp .In) (rIn X.K false):=by
 intro pins s σ H x y v u Q I rx ry h;obtain⟨p,xs,rfl,hq,fx,fs,q⟩:=h;cases ry;rcases hq with hq|hq
 ·obtain⟨its,r,pl,hz⟩:=I.list hq
  refine SeqAt.in_listAt (eqU x) pl.isList (fun w hw=>xj rx fx r fs w (by simpa using hw)) ⟨.bl _,H,I,rfl,?_⟩;rw[show its.toArray.any (eqU x)=its.any (eqU x) by simp,xQ r fs];exact q
 ·obtain⟨its,r,pl,hz⟩:=I.tuple hq
  refine SeqAt.in_tupleAt (eqU x) pl (fun w hw=>xj rx fx r fs w (by simpa using hw)) ⟨.bl _,H,I,rfl,?_⟩;rw[show its.toArray.any (eqU x)=its.any (eqU x) by simp,xQ r fs];exact q
theorem jg:OpR X (compareOp .NotIn) (rIn X.K true):=by
 intro pins s σ H x y v u Q I rx ry h;obtain⟨p,xs,rfl,hq,fx,fs,q⟩:=h;cases ry;rcases hq with hq|hq
 ·obtain⟨its,r,pl,hz⟩:=I.list hq
  refine SeqAt.notIn_listAt (eqU x) pl.isList (fun w hw=>xj rx fx r fs w (by simpa using hw)) ⟨.bl _,H,I,rfl,?_⟩;rw[show its.toArray.any (eqU x)=its.any (eqU x) by simp,xQ r fs];exact q
 ·obtain⟨its,r,pl,hz⟩:=I.tuple hq
  refine SeqAt.notIn_tupleAt (eqU x) pl (fun w hw=>xj rx fx r fs w (by simpa using hw)) ⟨.bl _,H,I,rfl,?_⟩;rw[show its.toArray.any (eqU x)=its.any (eqU x) by simp,xQ r fs];exact q
theorem jh:OpR X (compareOp .NotIn) (fun x y H Q=>∃i j,x=.str i/\y=.str j/\Q (.bl (!(!(Builtin.Str.occurrences j i 0 j.length 1).isEmpty))) H):=by
 intro pins s σ H x y v u Q I rx ry h;obtain⟨i,j,rfl,rfl,q⟩:=h;obtain⟨t,rfl⟩:=rx;obtain⟨t',rfl⟩:=ry;exact notIn_str ⟨.bl _,H,I,rfl,q⟩
theorem ji:yE X (.builtin "len") (fun xs H Q=>∃p ys,xs=[.ref p]/\(SqL X.K H p ys\/SqT X.K H p ys)/\Q (.int ys.length) H):=by
 intro pins s σ H xs us Q I r h;obtain⟨p,ys,rfl,hq,q⟩:=h;obtain⟨u,rfl,rx⟩:=xG r;cases rx;have hn:=wC;rcases hq with hq|hq
 ·obtain⟨its,r',pl,hz⟩:=I.list hq
  have hlen:=r'.length;exact Calls.call_len_list pl.isList (by simp only[uo]<;>lia) ⟨.int ys.length,H,I.tok _,⟨s.toks+1,by rw[uo,hlen]⟩,q⟩
 ·obtain⟨its,r',pl,hz⟩:=I.tuple hq
  have hlen:=r'.length;exact len_tuple pl (by simp only[uo]<;>lia) ⟨.int ys.length,H,I.tok _,⟨s.toks+1,by rw[uo,hlen]⟩,q⟩
theorem jj:yE X (.builtin "len") (fun xs H Q=>∃z,xs=[.str z]/\z.length<=sizeLine/\Q (.int z.length) H):=by
 intro pins s σ H xs us Q I r h;obtain⟨z,rfl,hz,q⟩:=h;obtain⟨u,rfl,t,rfl⟩:=xG r;have hn:=wC;exact len_str (by lia) ⟨.int z.length,H,I.tok _,⟨_,rfl⟩,q⟩
theorem jk:yE X (.type "list") (fun xs H Q=>∃p ys,xs=[.ref p]/\(SqL X.K H p ys\/SqT X.K H p ys)/\∀l,H l=none->Q (.ref l) (upd H l (.lst ys))):=by
 intro pins s σ H xs us Q I r h;obtain⟨p,ys,rfl,hq,q⟩:=h;obtain⟨u,rfl,rx⟩:=xG r;cases rx;have fin:∀(its:List Value),Vals ys its->ys.length<=sizeLine->∀(h':Heap)(c':Nat),(∀b o',s.heap.get? b=some o'->h'.get? b=some o') ->
   h'.get? s.heap.objs.size=some { cls:=.type "list",dict:=none,data:=.seq its.toArray c',slots:=#[] }->EP X pins σ Q (.ref s.heap.objs.size) { s with heap:=h' }:=fun its r' hz h' c' kp e =>
  ⟨.ref s.heap.objs.size,_,I.laid (t':=s.toks) kp (ud _) (show ObjOk X.prog X.w _ h' _ (.lst ys)from⟨hz,its,c',r',e⟩),rfl,q _ (I.hok.fresh (ud _))⟩
 rcases hq with hq|hq
 ·obtain⟨its,r',pl,hz⟩:=I.list hq
  have hlen:=r'.length;obtain⟨o,ho,hc,n,hd⟩:=pl.isList;exact call_list_seq p (.inl rfl) ho hc hd (fun h' c' kp e=>fin its r' hz h' c' kp e) (by simp only[uo]<;>lia)
 ·obtain⟨its,r',pl,hz⟩:=I.tuple hq
  have hlen:=r'.length;obtain⟨o,ho,hc,n,hd⟩:=pl;exact call_list_seq p (.inr rfl) ho hc hd (fun h' c' kp e=>fin its r' hz h' c' kp e) (by simp only[uo]<;>lia)
theorem vM:yE X (.type "tuple") (fun xs H Q=>∃p ys,xs=[.ref p]/\((SqL X.K H p ys/\∀l,H l=none->Q (.ref l) (upd H l (.tup ys)))\/(SqT X.K H p ys/\Q (.ref p) H))):=by
 intro pins s σ H xs us Q I r h;obtain⟨p,ys,rfl,h⟩:=h;obtain⟨u,rfl,rx⟩:=xG r;cases rx;rcases h with⟨hq,q⟩|⟨hq,q⟩
 ·obtain⟨its,r',pl,hz⟩:=I.list hq
  have hlen:=r'.length;refine call_tuple_list pl.isList (fun h' kp=>?_) (by simp only[uo]<;>lia);have I1:Inv X pins σ H { s with heap:=h' }:=I.kept (t':=s.toks) kp;have I2:Inv X pins σ (upd H h'.objs.size (.tup ys)) { s with heap:=h'.push { cls:=.type "tuple",data:=.seq its.toArray } } :=
   I1.laid (t':=s.toks) (fun b o e=>uf _ e) (ud _) (show ObjOk X.prog X.w _ _ _ (.tup ys)from⟨hz,its,r',IsTupN.new _ _⟩)
  exact⟨.ref h'.objs.size,_,I2,rfl,q _ (I1.hok.fresh (ud _))⟩
 ·obtain⟨its,r',pl,hz⟩:=I.tuple hq
  exact call_tuple_same pl ⟨.ref p,H,I,rfl,q⟩
def tyV(K:uc)(T:String)(x:V)(H:Hp):Prop:=match x with
 |.str _=>T="str"
 |.int _=>T="int"
 |.ref p=>(T="list"/\∃xs,SqL K H p xs)\/(T="tuple"/\((∃o,K.lookup p=some o/\o.cls=.type "tuple"/\o.dict=none)\/∃xs,H p=some (.tup xs))) \/
   (T="dict"/\((∃kvs,H p=some (.dK kvs))\/∃kvs,H p=some (.dT kvs)))\/(T="set"/\∃S n,H p=some (.set S n))
 |_=>False
theorem Wd{T:String}(I:Inv X pins σ H s)(r:RelV x v)(ty:tyV X.K T x H):
  s.TypeIs v T/\∀a,v=.ref a->∃ob,s.heap.get? a=some ob/\ob.dict=none:=by
 cases x with
 |str z =>
  obtain⟨t,rfl⟩:=r;cases(show T="str"from ty);exact⟨typeIs_str s z t,fun _ e=>nomatch e⟩
 |int i =>
  obtain⟨t,rfl⟩:=r;cases(show T="int"from ty);exact⟨typeIs_int s i t,fun _ e=>nomatch e⟩
 |ref p =>
  cases r;rcases ty with⟨rfl,xs,hq⟩|⟨rfl,⟨o,hk,hc,hd⟩|⟨xs,hk⟩⟩|⟨rfl,hk⟩|⟨rfl,S,n,hk⟩
  ·obtain⟨its,_,pl,_⟩:=I.list hq
   refine⟨pl.isList.typeIs,fun a e=>?_⟩;cases e;obtain⟨o,n,e,c,hd,_⟩:=pl;exact⟨o,e,hd⟩
  ·refine⟨⟨o,I.kIn p o hk,hc⟩,fun a e=>?_⟩
   cases e;exact⟨o,I.kIn _ o hk,hd⟩
  ·obtain⟨_,_,_,o,ho,hc,hd,_⟩:=I.hok p _ hk
   refine⟨⟨o,ho,hc⟩,fun a e=>?_⟩;cases e;exact⟨o,ho,hd⟩
  ·have z:∃o,s.heap.get? p=some o/\o.ExactDict:=by
    rcases hk with⟨kvs,hk⟩|⟨kvs,hk⟩
    ·obtain⟨_,_,_,_,o,_,_,e,ex,_⟩:=I.hok p _ hk
     exact⟨o,e,ex⟩
    ·obtain⟨_,_,_,_,o,_,_,e,ex,_⟩:=I.hok p _ hk
     exact⟨o,e,ex⟩
   obtain⟨o,e,ex⟩:=z;refine⟨⟨o,e,ex.1⟩,fun a e2=>?_⟩;cases e2;exact⟨o,e,ex.2.1⟩
  ·obtain⟨o,_,_,_,e,ex,_⟩:=I.hok p _ hk
   refine⟨⟨o,e,ex.1⟩,fun a e2=>?_⟩;cases e2;exact⟨o,e,ex.2.1⟩
 |_=>exact False.elim ty
def tBM0(K:uc)(T:String)(r:V->List V->Hp->VK->Prop)(to:TE):TE:=fun σ H Q=>to σ H fun x H1=>tyV K T x H1/\r x [] H1 Q
def tBM(K:uc)(T:String)(r:V->List V->Hp->VK->Prop)(to:TE)(t:TA):TE:=fun σ H Q=>to σ H fun x H1=>tyV K T x H1/\t σ H1 fun xs H2=>r x xs H2 Q
variable{to:TE}{t:TA}{T id:String}{r:V->List V->Hp->VK->Prop}
theorem zaH(pa:PlainAttrs T)(slot:Slot T name id)(hty:typeOf (.builtin id)=pure (.type "method_descriptor"))(hm:MtR X id r)(ho:PE X o to)
  (hbase:attributeBase o name X.env (eval o X.env)=eval o X.env:=by rfl) (hline:(apos.endLine == cpos.line)=true:=by rfl):PE X (.Call (.Attribute o name apos) [] [] cpos) (tBM0 X.K T r to):=by
 intro pins s σ H Q I h;refine wpAny_Call_method0_late hbase hline (thn (ho pins s σ H _ I h) fun v s1 hq_=>?_);obtain⟨x,H1,I1,r1,ty,q1⟩:=hq_;obtain⟨h1,h2⟩:=Wd I1 r1 ty;exact⟨T,id,pa,slot,hty,h1,h2,Calls.callWith_builtin rfl (PySem.evalArgs_none (hm pins s1 σ H1 x [] v [] Q I1 r1 .nil q1))⟩
theorem zbL(pa:PlainAttrs T)(slot:Slot T name id)(hty:typeOf (.builtin id)=pure (.type "method_descriptor"))(hm:MtR X id r)(ho:PE X o to)(ha:PA X (e::es) t)
  (hbase:attributeBase o name X.env (eval o X.env)=eval o X.env:=by rfl)
  (hfew:((backTo cpos (starEach (e::es) X.env)).all (fun x=>!x.1) && (backToKw cpos (keywordEach [] X.env)).all (fun x=>x.1.isSome)
   && decide ((e::es).length+([]:List Keyword).length+(if([]:List Keyword).isEmpty then 0 else 1) < 30))=true:=by rfl)
  (hline:(apos.endLine == cpos.line)=true:=by rfl) (hs:starEach (e::es) X.env=(false,eval e X.env)::starEach es X.env:=by rfl) (hplain:(backTo cpos (starEach es X.env)).any (·.1)=false:=by rfl) :
  PE X (.Call (.Attribute o name apos) (e::es) [] cpos) (tBM X.K T r to t):=by
 intro pins s σ H Q I h;refine wpAny_Call_method_late hbase hfew hline rfl (thn (ho pins s σ H _ I h) fun v s1 hq_=>?_);obtain⟨x,H1,I1,r1,ty,q1⟩:=hq_;obtain⟨h1,h2⟩:=Wd I1 r1 ty;refine⟨T,id,pa,slot,hty,h1,h2,?_⟩;have hA:=ha cpos pins s1 σ H1 _ I1 q1;rw[hs]at hA ⊢;refine Calls.callWith_builtin (by show(false || (backTo cpos (starEach es X.env)).any (·.1))=false;rw[hplain]<;>rfl) (Calls.evalArgs_plain ?_);exact thn hA fun us s2 ⟨vs,H2,I2,r2,q2⟩=>hm pins s2 σ H2 x vs v us Q I2 r1 r2 q2
end
def MtM(X:Cx)(id:String)(r:V->List V->Hp->VK->Prop):Prop :=
 ∀(pins:List (Addr×Obj))(s:Shared)(σ:St)(H:Hp)(x:V)(xs:List V)(v:Value)(us:List Value)(Q:VK),Inv X pins σ H s->RelV x v->Vals xs us->r x xs H Q ->
  wpAny (model X.prog X.w) X.A (call (.builtin id) (v::us)) (EP X pins σ Q) X.xe s
theorem Vals.one:∀{x:V}{us:List Value},Vals [x] us->∃u,us=[u]/\RelV x u
 |_,_,.cons r .nil=>⟨_,rfl,r⟩
theorem Vals.zero:∀{us:List Value},Vals [] us->us=[]
 |_,.nil=>rfl
theorem Vals.dropLast(h:Vals xs us):Vals xs.dropLast us.dropLast:=by
 induction h with
 |nil=>exact .nil
 |cons r t ih =>
  cases t with
  |nil=>exact .nil
  |cons q t'=>exact .cons r ih
theorem Vals.eraseIdx:∀{xs:List V}{us:List Value}(i:Nat),Vals xs us->Vals (xs.eraseIdx i) (us.eraseIdx i)
 |_,_,_,.nil=>.nil
 |_,_,0,.cons _ t=>t
 |_,_,i+1,.cons r t=>.cons r (Vals.eraseIdx i t)
theorem Z3{α:Type}(l:List α):l.eraseIdx (l.length-1)=l.dropLast:=by
 induction l with
 |nil=>rfl
 |cons a r ih =>
  cases r with
  |nil=>rfl
  |cons b r =>
   have e:(a::b::r).length-1=((b::r).length-1)+1:=by
    have h1:(a::b::r).length=r.length+2:=rfl;have h2:(b::r).length=r.length+1:=rfl;lia
   rw[e,List.eraseIdx_cons_succ,ih]
   all_goals rfl
theorem wE{α:Type}:∀(l:List α)(i:Nat),(l.eraseIdx i).length<=l.length
 |[],_=>ud _
 |_::_,0=>UN _
 |_::r,i+1=>Nat.succ_le_succ (wE r i)
section
variable{l:Addr}{ys zs:List V}
theorem Inv.lset{f:Array Value->Array Value}(I:Inv X pins σ H s)(hH:H l=some (.lst xs))
  (e:s.heap.get? l=some { cls:=.type "list",data:=.seq its.toArray n }) (hf:f its.toArray=its'.toArray) (hv:Vals ys its') (hz:ys.length<=sizeLine) :
  Inv X pins σ (upd H l (.lst ys)) { s with heap:=s.heap.update l (Obj.mapSeq f),toks:=t' }:=by
 have q:=PySem.IsL.update e f;rw[hf]at q;refine I.write (x:=l) (e:=l) (by rw[hH];exact trivial) (.inl rfl) (fun b' u hb hu=>(Heap.get?_update_other s.heap (Obj.mapSeq f) (Ne.symm hb)).trans hu) ⟨_,q⟩ ?_;exact⟨hz,its',_,hv,q⟩
theorem Inv.lnew(I:Inv X pins σ H s)(hv:Vals ys its)(hz:ys.length<=sizeLine):
  Inv X pins σ (upd H s.heap.objs.size (.lst ys)) { s with heap:=s.heap.push { cls:=.type "list",data:=.seq its.toArray },toks:=t' } :=
 I.laid (fun _ _ q=>uf _ q) (ud _) ⟨hz,its,0,hv,uu _ rfl⟩
theorem Inv.fresh(I:Inv X pins σ H s):H s.heap.objs.size=none:=I.hok.fresh (ud _)
theorem Inv.lstM(I:Inv X pins σ H s)(hH:H l=some (.lst xs)):xs.length<=sizeLine/\∃(its:List Value)(n:Nat),Vals xs its/\xs.length=its.length/\s.heap.get? l=some { cls:=.type "list",data:=.seq its.toArray n }:=by
 obtain⟨z,its,n,r,e⟩:=I.hok l _ hH;exact⟨z,its,n,r,r.length,e⟩
theorem Zc(h:n<=sizeLine):Builtin.List.listTooLong n=false:=by
 unfold Builtin.List.listTooLong;exact decide_eq_false (by lia)
end
def YG:V->List V->Hp->VK->Prop:=fun x vs H Q=>∃l xs y,x=.ref l/\vs=[y]/\H l=some (.lst xs)/\xs.length < sizeLine/\Q .non (upd H l (.lst (xs++[y])))
theorem Xt:MtM X "list.append" YG:=by
 intro pins s σ H x vs v us Q I rx rv h;obtain⟨l,xs,y,rfl,rfl,hH,hz,q⟩:=h;cases rx;obtain⟨u,rfl,ru⟩:=rv.one;obtain⟨z,its,n,r,hl,e⟩:=I.lstM hH;refine call_meets F.slot_list_append ⟨_,e,rfl⟩ F.entry_list_append (F.args_list_append_2 _ _) (PySem.list_append l its.toArray n u (by rw[uo];lia)) ⟨e,?_⟩;refine⟨.non,_,I.lset (its':=its++[u]) hH e (by simp) (r.append (.cons ru .nil)) ?_,rfl,q⟩;rw[ub,Uj];lia
def YH:V->List V->Hp->VK->Prop:=fun x vs H Q=>∃l b xs zs,x=.ref l/\vs=[.ref b]/\H l=some (.lst xs)/\H b=some (.lst zs)/\xs.length+zs.length<=sizeLine/\Q .non (upd H l (.lst (xs++zs)))
theorem Xu:MtM X "list.extend" YH:=by
 intro pins s σ H x vs v us Q I rx rv h;obtain⟨l,b,xs,zs,rfl,rfl,hH,hB,hz,q⟩:=h;cases rx;obtain⟨u,rfl,ru⟩:=rv.one;cases ru;obtain⟨z,its,n,r,hl,e⟩:=I.lstM hH;obtain⟨z2,its2,n2,r2,hl2,e2⟩:=I.lstM hB;have hsz:its.toArray.size+its2.toArray.size<=sizeLine:=by rw[uo,uo];lia
 have hlong:¬ (!its.toArray.isEmpty && Builtin.List.listTooLong (its.toArray.size+its2.toArray.size))=true:=by
  rw[Zc hsz,Bool.and_false];exact uw
 refine call_meets F.slot_list_extend ⟨_,e,rfl⟩ F.entry_list_extend (F.args_list_extend_2 _ _)
  (AutoSeq1.list_extend_list_list_0 l its.toArray n b its2.toArray n2 hlong (by rw[uo];lia) (by lia)) ⟨e,e2,?_⟩
 refine⟨.non,_,I.lset (its':=its++its2) hH e (by simp) (r.append r2) ?_,rfl,q⟩;rw[ub];lia
def rPop:V->List V->Hp->VK->Prop:=fun x vs H Q=>∃l xs y,x=.ref l/\vs=[]/\H l=some (.lst xs)/\xs[xs.length-1]?=some y/\Q y (upd H l (.lst xs.dropLast))
theorem zaI:MtM X "list.pop" rPop:=by
 intro pins s σ H x vs v us Q I rx rv h;obtain⟨l,xs,y,rfl,rfl,hH,hy,q⟩:=h;cases rx;have hus:=rv.zero;subst hus;obtain⟨z,its,n,r,hl,e⟩:=I.lstM hH;obtain⟨u,hu,ru⟩:=r.get hy;have hy':its.toArray[its.toArray.size-1]?=some u:=by
  show its.toArray[its.length-1]?=some u;rw[<- Array.getElem?_toList,<- hl];exact hu
 refine call_meets F.slot_list_pop ⟨_,e,rfl⟩ F.entry_list_pop (F.args_list_pop_1 _) (MeetsSeq.list_pop_last l its.toArray n u hy' (by rw[uo];lia)) ⟨e,?_⟩;refine⟨y,_,I.lset (its':=its.dropLast) hH e ?_ r.dropLast ?_,ru,q⟩
 ·show its.toArray.eraseIdxIfInBounds (its.toArray.size-1)=its.dropLast.toArray
  rw[uo,UH,Z3]
 ·rw[List.length_dropLast]
  lia
def We:V->List V->Hp->VK->Prop:=fun x vs H Q=>∃l xs i k y,x=.ref l/\vs=[.int i]/\H l=some (.lst xs)/\-(2 ^ 63)<=i/\i < 2 ^ 63/\seqIndex? i xs.length=some k/\xs[k]?=some y/\Q y (upd H l (.lst (xs.eraseIdx k)))
theorem Wf:MtM X "list.pop" We:=by
 intro pins s σ H x vs v us Q I rx rv h;obtain⟨l,xs,i,k,y,rfl,rfl,hH,h1,h2,hk,hy,q⟩:=h;cases rx;obtain⟨u,rfl,ru⟩:=rv.one;obtain⟨t,rfl⟩:=ru;obtain⟨z,its,n,r,hl,e⟩:=I.lstM hH;obtain⟨w,hw,rw'⟩:=r.get hy;refine call_meets F.slot_list_pop ⟨_,e,rfl⟩ F.entry_list_pop (F.args_list_pop_2 _ _)
  (MeetsSeq.list_pop_at l its.toArray n i t k w (fitsIndex_both h1 h2) (by rw[uo,<- hl];exact hk) (by rw[<- Array.getElem?_toList];exact hw) (by rw[uo];lia)) ⟨e,?_⟩
 refine⟨y,_,I.lset (its':=its.eraseIdx k) hH e ?_ (r.eraseIdx k) ?_,rw',q⟩
 ·show its.toArray.eraseIdxIfInBounds k=(its.eraseIdx k).toArray
  rw[UH]
 ·have:=wE xs k
  lia
def rCat:R2:=fun x y H Q=>∃l b xs zs,x=.ref l/\y=.ref b/\H l=some (.lst xs)/\H b=some (.lst zs)/\xs.length+zs.length<=sizeLine/\∀p,H p=none->Q (.ref p) (upd H p (.lst (xs++zs)))
theorem zaJ:OpR X (binaryOp .Add) rCat:=by
 intro pins s σ H x y v u Q I rx ry h;obtain⟨l,b,xs,zs,rfl,rfl,hH,hB,hz,q⟩:=h;cases rx;cases ry;obtain⟨z,its,n,r,hl,e⟩:=I.lstM hH;obtain⟨z2,its2,n2,r2,hl2,e2⟩:=I.lstM hB;refine PySem.P.add_list e e2 ?_ (by rw[uo,uo];lia);have ea:its.toArray++its2.toArray=(its++its2).toArray:=by simp
 rw[ea];exact⟨.ref _,_,I.lnew (t':=s.toks) (r.append r2) (by rw[ub];lia),rfl,q _ I.fresh⟩
end L2
namespace Att
open PySem PySem.W PySem.Calls PyProof.Rows
variable{P:Params}
theorem wO:∀(ns:List Int)(vs:List Value),WellAll P h vs (ns.map WData.int)->IntsAre vs ns:=by
 intro ns
 induction ns with
 |nil =>
  intro vs w;rw[List.map_nil]at w;cases w;exact .nil
 |cons n ns ih =>
  intro vs w;rw[ur]at w;cases w with
  |cons a b =>
   cases a;exact .cons _ _ (ih _ b)
theorem Xv{l:OpenLaw}(hn:l.most=some n){args:List WData}{vals:List Value}
  (hpre:l.row.toRowW.claim.pre args=true) (hwl:WellAll P h vals args) :
  ∃a vs ns,vals=[Value.ref a]/\args=[WData.list (ns.map WData.int)]/\h.get? a=some { cls:=.type "list",data:=.seq vs.toArray }/\IntsAre vs ns/\ns.length<=n:=by
 have hsh:WShape.hasAll [] args [.list .int]=true:=(pre_splitW hpre).1;have hc:l.pre.holds [] { args:=args }=true:=(pre_splitW hpre).2;obtain⟨d,r,rfl,h1,h2⟩:=hasAllW_cons hsh;obtain rfl:=hasAllW_nil h2;obtain⟨xs,rfl,h3⟩:=hasW_list h1;obtain⟨ns,rfl⟩:=items_int h3;have hlen:ns.length<=n:=by
  unfold OpenLaw.pre at hc;have h4:(WTm.not (.lt (.lit (.int (n:Int))) (.len (.arg 0)))).holds [] { args:=[.list (ns.map .int)] }=true:=by
   have h4:=(holds_andW hc).1;rw[hn]at h4;exact h4
  have h5:=condW_of h4 (w_not (w_lt w_lit (w_len_list (w_arg rfl))));rw[ua]at h5;refine Nat.le_of_not_lt fun q=>?_;have q':(n:Int) < ((ns.length:Nat):Int):=by lia
  first
   | (rw[decide_eq_true q']at h5;exact absurd h5 (by decide))
   | (simp at h5;lia)
 cases hwl with
 |cons w1 w2 =>
  cases w2;cases w1 with
  |list ho hall=>exact⟨_,_,ns,rfl,rfl,ho,wO ns _ hall,hlen⟩
theorem Xw(l:OpenLaw)(args:List WData):l.row.toRowW.claim.post args (.bool true) args=true :=
 postW_of (r:=l.row.toRowW) (X:=(true == true))
  (show WShape.has [] (.bool true) .bool=true by first|rfl|decide|simp[WShape.has,WShape.arms,WShape.armsAll])
  (show(WTm.eq .res (.lit (.bool true))).value [] { args:=args,res:=some (.bool true),after:=args }=some (.bool (true == true))from w_eq_bool (w_res rfl) w_lit) rfl
theorem attach_call{l:OpenLaw}{loose:LS}{YP:World->Heap->Prop}{d:DefRec}
  (hn:l.most=some n) (hdf:d.params.defaults=[])
  (call:∀(w:World)(s₀ s₁:Shared)(mg mb:Str->Option Value)(fa:Addr)(o:Obj)(pm cd doc:Value)(a:Addr)(vs:List Value)(ns:List Int),
   Ground q loose [] XP w s₀ mg mb s₁.heap->YP w s₁.heap ->
   s₁.heap.get? fa=some o->o.data=.func (docDef d.name d.params d.body d.scope pm cd doc)->s₁.heap.CodeRec cd d.name->mg d.name=some (.ref fa) ->
   s₁.heap.get? a=some { cls:=.type "list",data:=.seq vs.toArray }->IntsAre vs ns->ns.length<=n->s₁.gens=#[] ->
   codeAny (model l.prog w) callerA (.call (.ref fa) ⟨[.ref a],[]⟩) (fun r s'=>r=.ok (.ret (.bool true))/\OldK s₁.heap s'.heap/\s'.os=s₁.os/\AllBare s'.gens) s₁) :
  WalkO q loose XP YP l.row.toRowW d [] (fun f vs=>PySem.call f vs):=by
 intro w s₀ s₁ mg mb G Y fa o pm cd doc dV kV ho hd hcd hD hmg hg args vals as hpre hlay hrd hwl hlo;obtain rfl:dV=.none:=Dflts.none hD hdf;obtain rfl:kV=.none:=Dflts.noKw hD;obtain⟨a,vs,ns,rfl,rfl,hobj,hints,hlen⟩:=Xv hn hpre hwl;refine enter_call (codeAny_mono (call w s₀ s₁ mg mb fa o pm cd doc a vs ns G Y ho (fd_plain hd) hcd hmg hobj hints hlen hg) fun r s' hq=>?_);obtain⟨rfl,h2,h3,h4⟩:=hq;exact⟨.inl ⟨.bool true,.bool true,[],rfl,fun _=>rfl,.bool true,Xw l _,fun _=>⟨List.Pairwise.nil,fun _ hm=>(nomatch hm)⟩⟩,h2,h3,h4⟩
section
variable{K:Frag}
def zb9(h:Heap)(L d:Addr):List (Addr×Obj):=(uV h.objs.size).filterMap fun a=>if a=L\/a=d then none else(h.get? a).map fun o=>(a,o)
end
end Att
namespace L2
open PySem PySem.Spec PyProof.Rows
theorem vV:∀{vs:List Value}{ns:List Int},IntsAre vs ns->Vals (ns.map V.int) vs
 |_,_,.nil=>.nil
 |_,_,.cons n t h=>.cons ⟨t,rfl⟩ (vV h)
end L2
/- THE LAST THEOREM (shape; LID, My.* are yours):
   My.Adr: a structure of the addresses that your layer names (classes,functions);My.Txt K t: a structure (Prop) of the equations over K;
   My.txt_mk:{K} {implicit addresses ..} (e1:nsIn K mainGlobals "law"=some (some (.ref f))) (e2:K.lookup f=some ⟨oc,od,.func (fnOf "law" "law" params body scope dV kV doc pm an cdv ct),sl⟩) (e3:codeIn K cdv "law"=true) ..:∃t,My.Txt K t
set_option maxRecDepth 100000 in
set_option maxHeartbeats 0 in
theorem PySem.Challenge.cw_LID_holds : PySem.Challenge.rw_LID.Holds := by
 w_on;o_law;k_head;(case hw=>w_witness2)
 k_fill
 refine L2.walk_of (l:=PySem.Challenge.rw_LID) (n:=63) (k:=40) (x:="script") (CX:=fun w=>..) (sp:=fun _=>My.sp_law) rfl (by decide) rfl ⟨rfl,by decide,by decide⟩ (fun w h Y=>PySem.W.kIn_of Y) ?F ?S ?C
 case F =>
  intro w mg fa h KX G hmg;have T:∃t,My.Txt (L2.KOf KX) t:=by
   dsimp only [L2.KOf]                          -- K must stand as «<heap const> w.params» for k_is
   refine' My.txt_mk ?e1 ?e2 ?e3 ..
   (case e1 => PySem.W.k_is)                    -- in the order: a name -> its address -> its object -> its parts
   (case e2=>PySem.W.k_is)
   ..
  obtain⟨t,T⟩:=T;have e0:=hmg.symm.trans (PySem.W.mg_of KX G T.law);cases e0                                       -- fa is the law's own address;exact ⟨_, fun s u => .of_eq rfl, fun base kb nb => My.law_fn T kb nb⟩     -- if «.of_eq rfl» comes too early: refine' ⟨_, ?b, fun base kb nb => My.law_fn T kb nb⟩; exact fun s u => .of_eq rfl
 case S=>exact fun w H a ns hl hO hS=>..
 case C=>exact ..
(the tactic k_is has no namespace: write k_is) -/
namespace L2
open PySem PySem.Spec PyProof.Rows
variable{g:TG}
def wS(s:Stmt)(j:Nat):Stmt:=match s with
 |.ClassDef _ _ _ body _ _ _ _ _ _ _=>body.getD j (.Pass ⟨0,0,0,0⟩)
 |_=>.Pass ⟨0,0,0,0⟩
def z6(s:Stmt):Arguments:=match s with
 |.FunctionDef _ a _ _ _ _ _ _ _ _=>a
 |_=>{ posonlyargs:=[],args:=[],vararg:=none,kwonlyargs:=[],kw_defaults:=[],kwarg:=none,defaults:=[] }
def zH(s:Stmt):List Stmt:=match s with
 |.FunctionDef _ _ b _ _ _ _ _ _ _=>b
 |_=>[]
def zp(s:Stmt):Scope:=match s with
 |.FunctionDef _ _ _ _ _ _ sc _ _ _=>sc
 |_=>{ kind:=.function,names:=[],isGenerator:=false,isCoroutine:=false }
abbrev CX0:CXT:=fun _ _ _ _ _ _=>False
abbrev E0:XK:=fun _ _ _=>False
theorem xR:yC CX0 X E0:=fun _ _ _ _ _ _ _ h=>h.elim
structure Fun(K:uc)(x qual:Str)(st:Stmt)(f:Addr)(fd:FuncData):Prop where
 ex:∃(oc:Value)(od:Option Addr)(kV doc pm:Value)(an:Option Addr)(cdv ct:Value)(osl:Array (Option Value)),
  fd=uX x qual (z6 st) (zH st) (zp st) .none kV doc pm an cdv ct/\K.lookup f=some ⟨oc,od,.func fd,osl⟩/\Uu K cdv qual=true
 kp:uL K (.ref f)=true
section
variable{K:uc}
theorem Fun.ok{k:Nat}(F:Fun K x qual st f fd)(S:FnScope N ps (zp st))(len:∀vs H Q E,sp vs H Q E->vs.length=ps.length)
  (hbody:∀(cdv:Value)(A:Around)(outer:List Env)(s:Shared)(H:Hp)(vs:List V)(Q:VK)(E:XK),Room k (A.deeper (envOfC qual (zp st) s.heap.objs.size f cdv))->sp vs H Q E ->
   ∃t,PSs (cxOf CX0 P w K mg base N qual (zp st) f cdv A outer s H E).nox (zH st) t/\t { nx:=fun _ H'=>Q .non H',rt:=Q } (yP N vs) H):FnOk P w K mg base CX0 (k+1) f fd ps sp:=by
 obtain⟨oc,od,kV,doc,pm,an,cdv,ct,osl,rfl,lk,hcd⟩:=F.ex;refine QI lk hcd S len fun A outer s H vs Q E hr hsp=>?_;obtain⟨t,h,q⟩:=hbody cdv A outer s H vs Q E hr hsp;exact⟨t,h.nox,q⟩
theorem Fun.binds(F:Fun K x qual st f fd)
  (h:∀(kV doc pm:Value)(an:Option Addr)(cdv ct:Value)(us:List Value),us.length=ps.length->bindArgs (uX x qual (z6 st) (zH st) (zp st) .none kV doc pm an cdv ct) ⟨us,[]⟩=pure (ps.zip us)):Binds K fd ps []:=by
 obtain⟨oc,od,kV,doc,pm,an,cdv,ct,osl,rfl,lk,hcd⟩:=F.ex;exact .all (h kV doc pm an cdv ct)
theorem Wh{an:Option Addr}{kV:Value}(l:K.lookup f=some ⟨oc,od,.func (uX x qual (z6 st) (zH st) (zp st) .none kV doc pm an cdv ct),osl⟩)
  (c:Uu K cdv qual=true) (k:uL K (.ref f)=true):Fun K x qual st f (uX x qual (z6 st) (zH st) (zp st) .none kV doc pm an cdv ct):=⟨⟨oc,od,kV,doc,pm,an,cdv,ct,osl,rfl,l,c⟩,k⟩
end
theorem Wi{k:Nat}(hr:Room k A):A.units+1 < cLine:=UJ (Nat.add_le_add_left (by decide:1<=64) _) hr.units
theorem pv(i:Nat)(hN:X.N[i]?=some x:=by rfl)(hv:Vis X.env.scope x:=by first|exact Or.inl rfl|exact Or.inr (Or.inl rfl)|exact Or.inr (Or.inr rfl))(hd:(x == ("__debug__":Str))=false:=by decide)
  (hcd:(x == ("__classdict__":Str))=false:=by decide):PE X (.Name x pos) (tVar i):=zaf hN hv hd hcd
theorem iteF{A B:Prop}(h:B):if false=true then A else B:=by
 rw[if_neg uw];exact h
theorem iteT{A B:Prop}(h:A):if true=true then A else B:=by
 rw[if_pos rfl];exact h
theorem ite2{c A B:Prop}[Decidable c](h1:c->A)(h2:¬ c->B):if c then A else B:=by
 by_cases h:c
 ·rw[if_pos h]
  exact h1 h
 ·rw[if_neg h]
  exact h2 h
def Same(H H':Hp):Prop:=∀b o,H b=some o->H' b=some o
theorem Same.refl(H:Hp):Same H H:=fun _ _ h=>h
theorem Same.trans(a:Same H H1)(b:Same H1 H2):Same H H2:=fun c o h=>b c o (a c o h)
theorem Same.free(e:Same H H'){l:Addr}(h:H' l=Option.none):H l=Option.none:=by
 cases q:H l with
 |none=>rfl
 |some o =>
  rw[e l o q]at h;cases h
theorem Same.seq{K:uc}(e:Same H H')(h:SqL K H a xs):SqL K H' a xs:=by
 rcases h with(h|⟨o,h⟩)|h
 ·exact .inl (.inl (e _ _ h))
 ·exact .inl (.inr ⟨o,e _ _ h⟩)
 ·exact .inr h
def AllIn(env:Env):List (Str×Addr)->Prop
 |[]=>True
 |p::r=>env.cells.lookup p.1=some p.2/\AllIn env r
theorem AllIn.get{env:Env}:∀{cl:List (Str×Addr)}{y:Str}{c:Addr},AllIn env cl->cl.lookup y=some c->env.cells.lookup y=some c
 |[],_,_,_,h=>by simp at h
 | (n,a)::r,y,c,⟨e,t⟩,h=>by
  rw[Ug]at h;by_cases q:y=n
  ·subst q
   rw[beq_self_eq_true]at h;cases h;exact e
  ·have q':(y == n)=false:=beq_eq_false_iff_ne.mpr q
   rw[q']at h;exact AllIn.get t h
def xS:List Nat->St->St
 |[],σ=>σ
 |i::S,σ=>xS S (σ.set i none)
theorem xy:∀(S:List Nat)(σ:St),(xS S σ).length=σ.length
 |[],_=>rfl
 |i::S,σ=>by rw[xS,xy S,List.length_set]
theorem vW:∀(S:List Nat)(σ:St){j:Nat}{v:V},(xS S σ)[j]?=some (some v)->σ[j]?=some (some v)/\j∉S
 |[],_,_,_,h=>⟨h,by simp⟩
 |i::S,σ,j,v,h=>by
  obtain⟨h1,h2⟩:=vW S (σ.set i none) h;rw[List.getElem?_set]at h1;by_cases e:i=j
  ·rw[if_pos e]at h1
   split at h1<;>cases h1
  ·rw[if_neg e]at h1
   exact⟨h1,fun z=>(uq.mp z).elim (fun z=>e z.symm) h2⟩
structure LcOk(X:Cx)(scope:Scope)(cl:List (Str×Addr))(S:List Nat):Prop where
 clos:closureFor scope X.env=pure cl
 kind:scope.kind=.function
 noC:scope.names.all (fun y=>y.2 != .cell)=true
 loc:scope.names.all (fun y=>y.2 != .local || scope.names.lookup y.1 == some .local)=true
 own:X.N.zipIdx.all (fun y=>S.contains y.2 || scope.names.lookup y.1 != some .local)=true
 sub:AllIn X.env cl
 has:scope.names.all (fun p=>p.2 != .free || ((cl.lookup p.1).isSome && (X.env.kindOf p.1 == some .cell || X.env.kindOf p.1 == some .free)))=true
section
variable{cl:List (Str×Addr)}
theorem LcOk.nocell(L:LcOk X scope cl S):∀y∈scope.names,y.2≠.cell:=fun y hy=>by
 have h:=UD.mp L.noC y hy;exact bne_iff_ne.mp h
theorem LcOk.locs(L:LcOk X scope cl S):∀y∈scope.names,y.2=.local->scope.names.lookup y.1=some .local:=fun y hy e=>by
 have h:=UD.mp L.loc y hy;rw[e]at h;simpa using h
theorem LcOk.apart(L:LcOk X scope cl S):∀(i:Nat)(y:Str),X.N[i]?=some y->i∉S->scope.names.lookup y≠some .local:=fun i y hy hi=>by
 have h:=UD.mp L.own (y,i) (List.mem_zipIdx_iff_getElem?.mpr hy);have hc:S.contains i=false:=by simpa using hi
 rw[hc,Bool.false_or]at h;exact bne_iff_ne.mp h
theorem LcOk.free(L:LcOk X scope cl S)(h:scope.names.lookup y=some .free):(∃c,cl.lookup y=some c)/\(X.env.kindOf y=some .cell\/X.env.kindOf y=some .free):=by
 have h1:=UD.mp L.has _ (u0 h);simp only[bne_self_eq_false,Bool.false_or,UC,Bool.or_eq_true,beq_iff_eq]at h1
 exact⟨Option.isSome_iff_exists.mp h1.1,h1.2⟩
theorem yK(names:List (Str×NameKind))(env:Env)(y:Str):
  (names.map fun(n,k)=>if(k == NameKind.free && env.scope.kind == .function && env.kindOf n == some .cell)then(n,NameKind.cell)else(n,k)).lookup y =
   (names.lookup y).map fun k=>if(k == NameKind.free && env.scope.kind == .function && env.kindOf y == some .cell)then NameKind.cell else k:=by
 induction names with
 |nil=>rfl
 |cons p r ih =>
  obtain⟨n,k⟩:=p;rw[ur];by_cases q:y=n
  ·subst q
   by_cases hc:(k == NameKind.free && env.scope.kind == .function && env.kindOf y == some .cell)=true
   ·show UB y ((if(k == NameKind.free && env.scope.kind == .function && env.kindOf y == some .cell)=true then(y,NameKind.cell)else(y,k))::_)=_
    rw[if_pos hc,Ug,Ug,beq_self_eq_true];show some NameKind.cell=some (if _ then _ else _);rw[if_pos hc]
   ·show UB y ((if(k == NameKind.free && env.scope.kind == .function && env.kindOf y == some .cell)=true then(y,NameKind.cell)else(y,k))::_)=_
    rw[if_neg hc,Ug,Ug,beq_self_eq_true];show some k=some (if _ then _ else _);rw[if_neg hc]
  ·have q':(y == n)=false:=beq_eq_false_iff_ne.mpr q
   by_cases hc:(k == NameKind.free && env.scope.kind == .function && env.kindOf n == some .cell)=true
   ·show UB y ((if(k == NameKind.free && env.scope.kind == .function && env.kindOf n == some .cell)=true then(n,NameKind.cell)else(n,k))::_)=_
    rw[if_pos hc,Ug,Ug,q'];exact ih
   ·show UB y ((if(k == NameKind.free && env.scope.kind == .function && env.kindOf n == some .cell)=true then(n,NameKind.cell)else(n,k))::_)=_
    rw[if_neg hc,Ug,Ug,q'];exact ih
theorem LcOk.kinds(L:LcOk X scope cl S)(h:(relabel scope X.env).names.lookup y=some .cell\/(relabel scope X.env).names.lookup y=some .free):scope.names.lookup y=some .free:=by
 have e:(relabel scope X.env).names.lookup y=(scope.names.lookup y).map fun k=>if(k == NameKind.free && X.env.scope.kind == .function && X.env.kindOf y == some .cell)then NameKind.cell else k:=yK scope.names X.env y
 rw[e]at h;cases q:scope.names.lookup y with
 |none=>rw[q]at h;rcases h with h|h<;>cases h
 |some k =>
  have hk:k≠.cell:=L.nocell _ (u0 q);rw[q]at h;by_cases hf:k=.free
  ·rw[hf]
  ·have z:(k == NameKind.free)=false:=beq_eq_false_iff_ne.mpr hf
   rw[Option.map_some,z,Bool.false_and,Bool.false_and,if_neg uw]at h;rcases h with h|h
   ·exact absurd (u5.inj h) hk
   ·exact absurd (u5.inj h) hf
def cxLC(X:Cx)(scope:Scope)(cl:List (Str×Addr))(M:LS)(C:Addr)(s₀:Shared)(H₀:Hp)(ex:List Addr)(E:VSP):Cx where
 prog:=X.prog
 w:=X.w
 K:=X.K
 mg:=X.mg
 base:=X.base
 A:=X.A
 N:=X.N++M
 s₀:=s₀
 H₀:=H₀
 env:=compEnvC scope cl C X.env
 outer:=X.stack
 stack:=X.stack
 ex:=ex
 fn:=fun _=>false
 calm:=X.calm
 pn:=[]
 xe:=E
variable{ex:List Addr}{M:LS}
theorem Wj{h1:Heap}{tk:Nat}{m:Str->Option Value}(I:Inv X pins σ H s)(L:LcOk X scope cl S)(hf:∀b∈ex,FpOk X pins H b)(hlt:∀b∈ex,b < s.heap.objs.size)
  (hk:∀b o,s.heap.get? b=some o->h1.get? b=some o) (hC:s.heap.objs.size<=C) (hns:h1.Ns C m) :
  Inv (cxLC X scope cl M C s H ex E) [] (xS S σ++Ut M.length none) H { s with heap:=h1,toks:=tk }:=by
 refine⟨⟨I.ok.mod,L.kind,I.ok.glob,I.ok.blt,hC,fun x y c a b=>I.ok.inj x y c (L.sub.get a) (L.sub.get b),fun y hy=>(L.free (L.kinds hy)).1,(fun x c z=>nomatch z),I.ok.hd,I.ok.frames,.inl rfl,fun b hb=>⟨?_,fun x c e=>?_⟩,
   I.bs,uC I.ok.bsz I.sz,fun b o e hb=>?_,fun b hb z=>?_,I.stack,I.stkFree⟩,
  rfl,I.bare,Un.kept hk,⟨m,hns,fun i y v e1 e2 e3=>?_⟩,fun y c e=>?_,I.hok.fresh hC,fun y c e=>I.freeC y c (L.sub.get e),fun p hp=>absurd (show p∈([]:List (Addr×Obj))from hp) (by simp),I.hok.kept hk,?_⟩
 ·exact uK (uB (hlt b hb) hC)
 ·exact(hf b hb).2.2.2.2.1 x c (L.sub.get e)
 ·rcases(hf b hb).2.2.2.1 with z|z
  ·exact I.ok.noex b o e z
  ·exact absurd (uB (uA e) (uC I.ok.bsz z)) (Uo _)
 ·rcases uq.mp (I.stkSub b z)with q|q
  ·exact(hf b hb).2.1 q
  ·exact(hf b hb).2.2.1 q
 ·have e1':(X.N++M)[i]?=some y:=e1
  by_cases hi:i < σ.length
  ·rw[uT (by rw[xy];exact hi)]at e2
   obtain⟨e2,hiS⟩:=vW S σ e2;rw[uT (by rw[<- I.len];exact hi)]at e1';obtain⟨m0,hn0,hl⟩:=I.loc;have hy:scope.names.lookup y=some .free:=by
    rcases e3 with e3|e3
    ·have q:=yK scope.names X.env y
     have e3':(relabel scope X.env).names.lookup y=some .local:=e3;cases z:scope.names.lookup y with
     |none =>
      rw[z]at q;have q':(relabel scope X.env).names.lookup y=none:=q;rw[e3']at q';cases q'
     |some k =>
      have hk1:k≠.local:=fun w=>L.apart i y e1' hiS (w ▸ z);rw[z,Option.map_some]at q;have q':some NameKind.local=some (if(k == NameKind.free && X.env.scope.kind == .function && X.env.kindOf y == some .cell)=true then NameKind.cell else k):=e3'.symm.trans q;have q2:=u5.inj q';by_cases hc:(k == NameKind.free && X.env.scope.kind == .function && X.env.kindOf y == some .cell)=true
      ·rw[if_pos hc]at q2;cases q2
      ·rw[if_neg hc]at q2;exact absurd q2.symm hk1
    ·exact L.kinds e3
   obtain⟨⟨c,hc⟩,hk2⟩:=L.free hy;obtain⟨u,r,l⟩:=hl i y v e1' e2 (.inr hk2);refine⟨u,r,.inr ⟨?_,c,hc,?_⟩⟩
   ·have q:=yK scope.names X.env y
    rw[hy,Option.map_some]at q;have q':(relabel scope X.env).names.lookup y=some (if(NameKind.free == NameKind.free && X.env.scope.kind == .function && X.env.kindOf y == some .cell)=true then NameKind.cell else NameKind.free):=q;by_cases hc:(NameKind.free == NameKind.free && X.env.scope.kind == .function && X.env.kindOf y == some .cell)=true
    ·rw[if_pos hc]at q';exact .inl q'
    ·rw[if_neg hc]at q';exact .inr q'
   ·rcases l with⟨l1,_⟩|⟨_,c',e',z⟩
    ·rcases hk2 with w|w<;>(rw[l1]at w;cases w)
    ·have ec:c'=c:=by
      have w:=L.sub.get hc;rw[e']at w;exact u5.inj w
     subst ec;obtain⟨o,ho,hd⟩:=z;exact⟨o,hk _ _ ho,hd⟩
  ·rw[uR (by rw[xy];exact Nat.not_lt.mp hi),List.getElem?_replicate]at e2
   split at e2<;>cases e2
 ·obtain⟨v,o,ho,hd⟩:=I.cell y c (L.sub.get e)
  exact⟨v,o,hk _ _ ho,hd⟩
 ·show(xS S σ++Ut M.length none).length=(X.N++M).length
  rw[ub,ub,Uv,xy,I.len]
def PTs(X:Cx)(ifs:List Expr)(t:TT):Prop :=
 ∀(pins:List (Addr×Obj))(s:Shared)(σ:St)(H:Hp)(Q:Bool->Hp->Prop),Inv X pins σ H s->t σ H Q ->
  wpAny (model X.prog X.w) X.A (forIn ifs true fun c r=>if r=true then do let ok <- isTrue c X.env (eval c X.env);pure (ForInStep.yield ok)else pure (ForInStep.yield r)) (TP X pins σ Q) X.xe s
def tYes:TT:=fun _ H Q=>Q true H
theorem Jp:PTs X [] tYes:=fun _ _ _ H _ I h=>wpAny_tests_nil ⟨H,I,h⟩
theorem Jq{c:Expr}{t:TT}(h:PT X c t):PTs X [c] t:=fun pins s σ H Q I q=>wpAny_tests_one (h pins s σ H Q I q)
def lcBy(J:It)(g:TG)(tt:TT)(te:TE)(Q:VK)(W:Nat->Nat->St->List V->Hp->Prop):Prop:=∀i m τ ys H,W i m τ ys H ->
 (J.stop i H/\∀p,H p=none->Q (.ref p) (upd H p (.lst ys))) \/
 (J.go i H/\∃N:St->List V->Hp->Prop,(∀τ' ys' H',N τ' ys' H'->∃m',m' < m/\W (i+1) m' τ' ys' H')/\∀x H',J.yld i H x H'->g x τ H' fun τ2 H2=>tt τ2 H2 fun b H3 =>
  if b=true then te τ2 H3 fun y H4=>ys.length < sizeLine/\N τ2 (ys++[y]) H4 else N τ2 ys H3)
def tLC(wi:TI)(g:TG)(tt:TT)(te:TE)(n:Nat):TE:=fun σ H Q=>wi σ H fun J H1=>∃W,(∃m,W 0 m (σ++Ut n none) [] H1)/\lcBy J g tt te Q W
def tLCS(S:List Nat)(wi:TI)(g:TG)(tt:TT)(te:TE)(n:Nat):TE:=fun σ H Q=>wi σ H fun J H1=>∃W,(∃m,W 0 m (xS S σ++Ut n none) [] H1)/\lcBy J g tt te Q W
theorem YI{J:It}{tn:Nat->Heap->Prop}{Q:VK}{R:Value->Addr->Result->Shared->Prop}{Al:Addr->(Value->Shared->Prop)->Prop}
  {W:Nat->Nat->St->List V->Hp->Prop} {m0:Nat} (L:LcOk X scope cl S) (hc:X.calm=true) (I:Inv X pins σ H s) (T:Turn X.prog X.w X.K tg J fp it tn) (st:tn 0 s.heap) (hf:∀b∈fp,FpOk X pins H b)
  (hg:∀C s H ex E,PG (cxLC X scope cl M C s H ex E) tg g) (ht:∀C s H ex E,PTs (cxLC X scope cl M C s H ex E) ifs tt) (he:∀C E,Al C E->PE (cxLC X scope cl M C s H fp E) elt te)
  (hal:∀C,s.heap.objs.size < C->Al C (notedBy (model X.prog X.w) X.A (compEnvC scope cl C X.env) (fun e s'=>R (.ref s.heap.objs.size) C (.error e) s')))
  (w0:W 0 m0 (xS S σ++Ut M.length none) [] H) (turn:lcBy J g tt te Q W)
  (hR:∀D C s' H' ys m,Inv X pins σ (upd H' D (.lst ys)) s'->FpOk X pins (upd H' D (.lst ys)) C->s'.heap.Ns C m->Q (.ref D) (upd H' D (.lst ys))->R (.ref D) C (.ok .next) s') :
  wpAny (model X.prog X.w) X.A (newList []) (fun acc s₃=>wpAny (model X.prog X.w) X.A (newFunctionEnv scope X.env.globals cl [] X.env.qual none .none (some X.env)) (fun cenv s₄ =>
   codeAny (model X.prog X.w) X.A (.compStart (.ListComp elt [⟨tg,iter,ifs,0⟩] scope pos) 0 (.ref it) acc { cenv with scope:=relabel scope X.env }) (R acc cenv.locals) s₄) E s₃) E s:=by
 refine wpAny_newObj_type (wpAny_newFunctionEnv L.nocell (by intro y hy;simp at hy) (fun h₁ hns₁ hsb₁=>?_) L.kind);dsimp only at hns₁ hsb₁ ⊢
 generalize hG:s.heap.push { cls:=.type "list",dict:=none,data:=.seq ([]:List Value).toArray }=G at hns₁ hsb₁ ⊢;have hC:G.objs.size=s.heap.objs.size+1:=by rw[<- hG,Um]
 have hDC:s.heap.objs.size≠G.objs.size:=by rw[hC];exact uK (Uf _)
 have hCle:s.heap.objs.size<=G.objs.size:=by rw[hC];exact UN _
 have old:∀b o,s.heap.get? b=some o->h₁.get? b=some o:=fun b o e =>
  hsb₁.extBut b o (by rw[hC];exact uK (Nat.lt_succ_of_lt (uA e))) (uf _ (hG ▸ uf _ e))
 have hacc:h₁.get? s.heap.objs.size=some { cls:=.type "list",data:=.seq ([]:List Value).toArray }:=hsb₁.extBut _ _ hDC (uf _ (hG ▸ uu _ rfl));have fpo:∀b∈fp,b < s.heap.objs.size:=fun b hb=>let ⟨o,e,_⟩:=T.obj 0 _ st b hb;uA e
 have st1:tn 0 h₁:=T.keep 0 _ _ st fun b _ o e=>old b o e;have nofs:s.heap.objs.size∉frs X.stack:=fun z=>by
  rcases uq.mp (I.stkSub _ z)with q|q
  ·exact absurd (q ▸ I.lt) (Uo _)
  ·exact I.nofs (ud _) q
 have nocl:∀y c,cl.lookup y=some c->c≠s.heap.objs.size:=fun y c e z=>by
  obtain⟨v,o,ho,_⟩:=I.cell y c (L.sub.get e);exact absurd (z ▸ uA ho) (Uo _)
 have loop:∀s₃:Shared,s₃={ s with heap:=h₁,toks:=s.toks+([]:List (Str×Value)).length } ->
   codeAny (model X.prog X.w) X.A (.compLoop (.ListComp elt [⟨tg,iter,ifs,0⟩] scope pos) 0 (.ref it) (.ref s.heap.objs.size) (compEnvC scope cl G.objs.size X.env)) (R (.ref s.heap.objs.size) G.objs.size) s₃:=by
  rintro s₃ rfl;have hAl:=hal G.objs.size (by rw[hC];exact Uf _);generalize hE:notedBy (model X.prog X.w) X.A (compEnvC scope cl G.objs.size X.env) (fun e s'=>R (.ref s.heap.objs.size) G.objs.size (.error e) s')=E' at hAl ⊢;have IY:Inv (cxLC X scope cl M G.objs.size s H fp E') [] (xS S σ++Ut M.length none) H { s with heap:=h₁,toks:=s.toks+([]:List (Str×Value)).length }:=Wj I L hf fpo old hCle hns₁;refine codeAny_loop rfl (fun n s'=>∃(i:Nat)(τ:St)(H':Hp)(ys:List V)(its:List Value)(k:Nat),Inv (cxLC X scope cl M G.objs.size s H fp E') [] τ H' s'/\tn i s'.heap/\(∀b∈fp,H' b=none) /\
   s'.heap.get? s.heap.objs.size=some { cls:=.type "list",data:=.seq its.toArray k }/\H' s.heap.objs.size=none/\Vals ys its/\ys.length<=sizeLine/\W i n τ ys H') (fun n s' hI=>?_) m0
   ⟨0,_,H,[],[],_,IY,st1,fun b hb=>(hf b hb).1,hacc,I.hok.fresh (ud _),.nil,uF _,w0⟩
  obtain⟨i,τ,H1,ys,its,k,I1,st1,fr1,eD,fD,rv,hz,w1⟩:=hI;show wpAny _ X.A ((compTurn (.ListComp elt [⟨tg,iter,ifs,0⟩] scope pos) 0 (.ref it) (.ref s.heap.objs.size) (compEnvC scope cl G.objs.size X.env)).onRaise (fun x=>do noteFrame x (compEnvC scope cl G.objs.size X.env);theTreesLotGoes x)) _ _ s';refine wpAny_noted ?_;rw[hE,compTurn_list];have I1':Inv (cxLC X scope cl M G.objs.size s H fp E') [(s.heap.objs.size,{ cls:=.type "list",data:=.seq its.toArray k })] τ H1 s':=I1.pins_of fun p hp=>by
   have e:p=(s.heap.objs.size,{ cls:=.type "list",data:=.seq its.toArray k }):=by simpa using hp
   subst e;exact⟨eD,fD,hDC,nofs,(fun v z=>nomatch z)⟩
  have stat:∀{H':Hp},(∀b∈fp,H' b=none)->∀b∈fp,FpOk (cxLC X scope cl M G.objs.size s H fp E') [(s.heap.objs.size,{ cls:=.type "list",data:=.seq its.toArray k })] H' b:=fun hn b hb=>by
   refine⟨hn b hb,?_,?_,.inl hb,fun x c e=>(hf b hb).2.2.2.2.1 x c (L.sub.get e),fun p hp z=>?_⟩
   ·exact uK (uB (fpo b hb) hCle)
   ·intro z
    rcases uq.mp (I.stkSub b z)with q|q
    ·exact(hf b hb).2.1 q
    ·exact(hf b hb).2.2.1 q
   ·have e:p=(s.heap.objs.size,{ cls:=.type "list",data:=.seq its.toArray k }):=by
     have hp':p∈[(s.heap.objs.size,({ cls:=.type "list",data:=.seq its.toArray k }:Obj))]:=hp;simpa using hp'
    subst e;exact absurd (z ▸ fpo b hb) (Uo _)
  refine wpAny_bind (wpAny_standAt (wpAny_bind ?_));rcases turn i n τ ys H1 w1 with⟨stop,q⟩|⟨go,N,hN,step⟩
  ·refine thn (T.done (cxLC X scope cl M G.objs.size s H fp E') rfl rfl rfl hc i _ s' τ H1 E' I1' (stat fr1) st1 stop) fun r s4 hq_=>?_
   obtain⟨hr,I4⟩:=hq_;subst hr;refine wpAny_pure ?_;obtain⟨eD4,_,_⟩:=I4.pin (s.heap.objs.size,{ cls:=.type "list",data:=.seq its.toArray k }) (uG _ Us);have base4:Un (frs X.stack) fp H H1 s.heap s4.heap:=I4.base;have un:Un (frs X.stack) fp H (upd H1 s.heap.objs.size (.lst ys)) s.heap s4.heap:=⟨base4.keep,base4.slot,fun b o e n hx=>by rw[zj (uK (uA e))];exact base4.free b o e n hx,base4.there,
    fun b xs e=>by rw[zj (zo (base4.tups b xs e) fD)];exact base4.tups b xs e,fun b o u e=>by rw[zj (zo (base4.frzs b o u e) fD)];exact base4.frzs b o u e,
    fun b ps e=>by
     obtain⟨more,w⟩:=base4.tbls b ps e;exact⟨more,by rw[zj (zo w fD)];exact w⟩⟩
   have hok:HOk X.prog X.w (upd H1 s.heap.objs.size (.lst ys)) s4.heap:=fun b u e=>by
    by_cases hb:b=s.heap.objs.size
    ·subst hb
     rw[zg]at e;cases e;exact⟨hz,its,k,rv,eD4⟩
    ·rw[zj hb]at e
     exact(I4.hok b u e).stay (fun c v _ q=>q) (fun c q=>by rw[zj (zo q fD)];exact q) fun c xs q=>by rw[zj (zo q fD)];exact q
   have IX:Inv X pins σ (upd H1 s.heap.objs.size (.lst ys)) s4:=I.call' I4.os un hok I4.bare fun b hb=>⟨(hf b hb).2.2.2.1,(hf b hb).2.1,(hf b hb).2.2.2.2.1,(hf b hb).2.2.2.2.2⟩;have fC:H1 G.objs.size=none:=I4.free;obtain⟨m4,n4,_⟩:=I4.loc;exact hR _ _ s4 H1 ys m4 IX (I.fpOk hCle (by rw[zj (Ne.symm hDC)];exact fC)) n4 (q _ fD)
  ·refine thn (T.item (cxLC X scope cl M G.objs.size s H fp E') rfl rfl rfl hc i _ s' τ H1 E' I1' (stat fr1) st1 go) fun r s4 hq_=>?_
   obtain⟨u,hr,h4⟩:=hq_;subst hr;refine wpAny_bind (thn h4 fun _ s5 hq_=>?_);obtain⟨x,H5,I5,r5,y5,st5,fr5⟩:=hq_;have I5':=I5.pinned (stat fr5) (T.obj _ _ st5);have kept:∀{τ6:St}{H6:Hp}{s6:Shared},Inv (cxLC X scope cl M G.objs.size s H fp E') ([(s.heap.objs.size,{ cls:=.type "list",data:=.seq its.toArray k })]++vf fp s5.heap) τ6 H6 s6 ->
     Inv (cxLC X scope cl M G.objs.size s H fp E') [] τ6 H6 s6/\tn (i+1) s6.heap/\(∀b∈fp,H6 b=none)/\s6.heap.get? s.heap.objs.size=some { cls:=.type "list",data:=.seq its.toArray k }/\H6 s.heap.objs.size=none:=fun{τ6 H6 s6} I6=>by
    have pin:∀b∈fp,∀o,s5.heap.get? b=some o->s6.heap.get? b=some o/\H6 b=none:=fun b hb o e =>
     let w:=I6.pin (b,o) (uG _ (uG _ (xJ hb e)))
     ⟨w.1,w.2.1⟩
    have pD:=I6.pin (s.heap.objs.size,{ cls:=.type "list",data:=.seq its.toArray k }) (uG _ (uP _ Us));refine⟨I6.pins_of (fun p hp=>nomatch hp),T.keep _ _ _ st5 fun b hb o e=>(pin b hb o e).1,fun b hb=>?_,pD.1,pD.2.1⟩;obtain⟨o,e,_⟩:=T.obj _ _ st5 b hb;exact(pin b hb o e).2
   refine wpAny_bind (thn (hg _ _ _ _ _ _ s5 τ H5 x u _ I5' r5 (step x H5 y5)) fun _ s6 hq_=>?_);obtain⟨σ6,H6,I6,q6⟩:=hq_;refine wpAny_bind (thn (ht _ _ _ _ _ _ s6 σ6 H6 _ I6 q6) fun ok s7 hq_=>?_);obtain⟨H7,I7,q7⟩:=hq_;cases ok with
   |false =>
    have q7':N σ6 ys H7:=by simpa using q7
    obtain⟨m',hm,w7⟩:=hN _ _ _ q7';obtain⟨K1,K2,K3,K4,K5⟩:=kept I7;exact wpAny_pure ⟨rfl,m',hm,i+1,σ6,H7,ys,its,k,K1,K2,K3,K4,K5,rv,hz,w7⟩
   |true =>
    have q7':te σ6 H7 fun y H4=>ys.length < sizeLine/\N σ6 (ys++[y]) H4:=by simpa using q7
    refine wpAny_bind (wpAny_bind (thn (he _ _ hAl _ s7 σ6 H7 _ I7 q7') fun y s8 hq_=>?_));obtain⟨v8,H8,I8,r8,hz8,n8⟩:=hq_;obtain⟨m',hm,w8⟩:=hN _ _ _ n8;obtain⟨K1,K2,K3,K4,K5⟩:=kept I8;have hl:=rv.length;refine wpAny_bind (wpAny_list_append_plain (hsz:=by rw[uo];lia) ⟨k,K4⟩ fun h9 hl9 hs9=>wpAny_pure (wpAny_pure ⟨rfl,m',hm,?_⟩));obtain⟨k9,e9⟩:=hl9;have I9:Inv (cxLC X scope cl M G.objs.size s H fp E') [] σ6 H8 { s8 with heap:=h9 }:=K1.turned (t':=s8.toks) (it:=s.heap.objs.size) (fun b o hb e=>(hs9.2 b hb).trans e) K5 hDC (.inr (ud _))
     (fun y c e=>nocl y c e) fun p hp=>nomatch hp
    refine⟨i+1,σ6,H8,ys++[v8],its++[y],k9,I9,T.keep _ _ _ K2 fun b hb o e=>(hs9.2 b (uK (fpo b hb))).trans e,K3,?_,K5,rv.append (.cons r8 .nil),?_,w8⟩
    ·rw[e9]
     simp
    ·rw[ub,Uj]
     lia
 exact codeAny_compStart_list (loop _ rfl) (T.self X.A 0 _ _ _ st1 (loop _ rfl))
variable{wi:TI}
theorem QL(L:LcOk X scope cl S)(hc:X.calm=true)(hi:PI X tg iter wi)(hg:∀C s H ex E,PG (cxLC X scope cl M C s H ex E) tg g)(ht:∀C s H ex E,PTs (cxLC X scope cl M C s H ex E) ifs tt)(he:∀C s H ex E,PE (cxLC X scope cl M C s H ex E) elt te)
  (hs:∀x,foldedSetIterable iter X.env x=pure x:=by intro _;rfl):PE X (.ListComp elt [⟨tg,iter,ifs,0⟩] scope pos) (tLCS S wi g tt te M.length):=by
 intro pins s σ H Q I h;rw[eval_ListComp];refine wpAny_comprehension_free (use:=none) rfl hs L.clos L.kind L.locs (thn (hi pins s σ H _ I h) fun v s1 h1=>thn h1 fun itv s2 h2=>?_);obtain⟨it,fp,tn,J,H2,rfl,I2,T,st2,f2,W,⟨m0,w0⟩,turn⟩:=h2;refine YI (R:=fun acc C=>compPost (model X.prog X.w) X.A X.xe none (EP X pins σ Q) acc C) (Al:=fun _ _=>True) L hc I2 T st2 f2 hg ht (fun C E _=>he C _ _ _ E) (fun _ _=>trivial) w0 turn ?_;intro D C s' H' ys m IX fC ns q;exact⟨m,ns,fun h' sb=>⟨.ref D,_,IX.turned (t':=s'.toks) (fun b o hb e=>(sb.2 b hb).trans e) fC.1 fC.2.1 fC.2.2.2.1 fC.2.2.2.2.1 fC.2.2.2.2.2,rfl,q⟩⟩
theorem Xx{spos:Pos}(hN:X.N.Nodup)(hi':X.N[i]?=some y)(hy:Loc X.env.scope y)(L:LcOk X scope cl S)(hc:X.calm=true)(hi:PI X tg iter wi)(hg:∀C s H ex E,PG (cxLC X scope cl M C s H ex E) tg g)
  (ht:∀C s H ex E,PTs (cxLC X scope cl M C s H ex E) ifs tt) (he:∀C s H ex E,PE (cxLC X scope cl M C s H ex E) elt te) (hs:∀x,foldedSetIterable iter X.env x=pure x:=by intro _;rfl)
  (hsw:swapsWith (.ListComp elt [⟨tg,iter,ifs,0⟩] scope pos) (some (.Name y py)) spos.line X.env=pure true:=by rfl)
  (hf:X.fn y=true\/X.env.scope.names.lookup y=some .local:=by first|exact .inl rfl|exact .inr rfl|assumption) :
  PS X (.Assign [.Name y py] (.ListComp elt [⟨tg,iter,ifs,0⟩] scope pos) spos) (fun D σ H=>tLCS S wi g tt te M.length σ H fun v H1=>D.nx (σ.set i (some v)) H1):=by
 intro pins s σ H D I h;rw[exec_Assign_Name_used _ _ _ _ hsw];refine wpAny_bind (wpAny_standAt (wpAny_bind ?_));show wpAny _ X.A (do let _ <- comprehension (.ListComp elt [⟨tg,iter,ifs,0⟩] scope pos) scope X.env _ (newList []) false (eval iter X.env) (some (assign (.Name y py) X.env))) _ _ s;refine wpAny_bind (wpAny_mono (wpAny_comprehension_free (use:=some (assign (.Name y py) X.env)) (Q:=fun _ s'=>SP X pins D .next s') rfl hs L.clos L.kind L.locs
  (thn (hi pins s σ H _ I h) fun v s1 h1=>thn h1 fun itv s2 h2=>?_)) (fun _ s' hq=>wpAny_pure (wpAny_pure hq)) fun _ _ e=>e)
 obtain⟨it,fp,tn,J,H2,rfl,I2,T,st2,f2,W,⟨m0,w0⟩,turn⟩:=h2;refine YI (R:=fun acc C=>compPost (model X.prog X.w) X.A X.xe (some (assign (.Name y py) X.env)) (fun _ s'=>SP X pins D .next s') acc C) (Al:=fun _ _=>True) L hc I2 T st2 f2 hg ht (fun C E _=>he C _ _ _ E) (fun _ _=>trivial) w0 turn ?_;intro D' C s' H' ys m IX fC ns q;show wpAny _ X.A (assign (.Name y py) X.env (.ref D')) _ _ s';refine wpAny_assign_Name (vO IX hN hi' hy (v:=.ref D') rfl (fun s'' I'' ⟨a,sb,ha⟩=>?_) hf);refine⟨m,ns.sameBut sb ?_,fun h' sb'=>⟨_,_,I''.turned (t':=s''.toks) (fun b o hb e=>(sb'.2 b hb).trans e) fC.1 fC.2.1 fC.2.2.2.1 fC.2.2.2.2.1 fC.2.2.2.2.2,q⟩⟩;rcases ha with ha|ha
 ·rw[ha];exact fC.2.1
 ·exact Ne.symm (fC.2.2.2.2.1 y a ha)
end
def clOf(scope:Scope)(env:Env):List (Str×Addr):=scope.names.foldl (fun cs p=>if p.2 == .free then(match env.cells.lookup p.1 with|some a=>(p.1,a)::cs|none=>cs)else cs) []
theorem YJ(env:Env):∀(names:List (Str×NameKind))(acc:List (Str×Addr)),AllIn env acc->AllIn env (names.foldl (fun cs p=>if p.2 == .free then(match env.cells.lookup p.1 with|some a=>(p.1,a)::cs|none=>cs)else cs) acc)
 |[],_,h=>h
 | (n,k)::r,acc,h=>by
  rw[List.foldl_cons];refine YJ env r _ ?_;by_cases hk:(k == NameKind.free)=true
  ·rw[if_pos hk]
   cases e:env.cells.lookup n with
   |none=>exact h
   |some a=>exact⟨e,h⟩
  ·rw[if_neg hk]
   exact h
section
variable{M:LS}{wi:TI}
theorem QM(h1:closureFor scope X.env=pure (clOf scope X.env))(h2:scope.kind=.function)(h3:scope.names.all (fun y=>y.2 != .cell)=true)(h4:scope.names.all (fun y=>y.2 != .local || scope.names.lookup y.1 == some .local)=true)
  (h5:X.N.zipIdx.all (fun y=>S.contains y.2 || scope.names.lookup y.1 != some .local)=true) (h6:scope.names.all (fun p=>p.2 != .free || (((clOf scope X.env).lookup p.1).isSome && (X.env.kindOf p.1 == some .cell || X.env.kindOf p.1 == some .free)))=true) :
  LcOk X scope (clOf scope X.env) S:=⟨h1,h2,h3,h4,h5,YJ X.env scope.names [] trivial,h6⟩
theorem lcOk(h1:closureFor scope X.env=pure (clOf scope X.env))(h2:scope.kind=.function)(h3:scope.names.all (fun y=>y.2 != .cell)=true)(h4:scope.names.all (fun y=>y.2 != .local || scope.names.lookup y.1 == some .local)=true)
  (h5:X.N.all (fun y=>scope.names.lookup y != some .local)=true) (h6:scope.names.all (fun p=>p.2 != .free || (((clOf scope X.env).lookup p.1).isSome && (X.env.kindOf p.1 == some .cell || X.env.kindOf p.1 == some .free)))=true) :
  LcOk X scope (clOf scope X.env) []:=QM h1 h2 h3 h4 (UD.mpr fun y hy=>by
   have hm:y.1∈X.N:=uv (List.mem_zipIdx_iff_getElem?.mp hy);rw[UD.mp h5 y.1 hm,Bool.or_true]) h6
theorem Jr(M:LS)(hc:X.calm=true)(hi:PI X tg iter wi)(hg:∀C s H ex E,PG (cxLC X scope (clOf scope X.env) M C s H ex E) tg g)(ht:∀C s H ex E,PTs (cxLC X scope (clOf scope X.env) M C s H ex E) ifs tt)
  (he:∀C s H ex E,PE (cxLC X scope (clOf scope X.env) M C s H ex E) elt te) (hs:∀x,foldedSetIterable iter X.env x=pure x:=by intro _;rfl)
  (h1:closureFor scope X.env=pure (clOf scope X.env):=by with_unfolding_all rfl) (h2:scope.kind=.function:=by rfl) (h3:scope.names.all (fun y=>y.2 != .cell)=true:=by rfl) (h4:scope.names.all (fun y=>y.2 != .local || scope.names.lookup y.1 == some .local)=true:=by rfl)
  (h5:X.N.all (fun y=>scope.names.lookup y != some .local)=true:=by rfl) (h6:scope.names.all (fun p=>p.2 != .free || (((clOf scope X.env).lookup p.1).isSome && (X.env.kindOf p.1 == some .cell || X.env.kindOf p.1 == some .free)))=true:=by rfl) :
  PE X (.ListComp elt [⟨tg,iter,ifs,0⟩] scope pos) (tLC wi g tt te M.length):=QL (lcOk h1 h2 h3 h4 h5 h6) hc hi hg ht he hs
theorem Js(M:LS){spos:Pos}(hN:X.N.Nodup)(hi':X.N[i]?=some y)(hy:Loc X.env.scope y)(hc:X.calm=true)(hi:PI X tg iter wi)(hg:∀C s H ex E,PG (cxLC X scope (clOf scope X.env) M C s H ex E) tg g)
  (ht:∀C s H ex E,PTs (cxLC X scope (clOf scope X.env) M C s H ex E) ifs tt) (he:∀C s H ex E,PE (cxLC X scope (clOf scope X.env) M C s H ex E) elt te) (hs:∀x,foldedSetIterable iter X.env x=pure x:=by intro _;rfl)
  (hsw:swapsWith (.ListComp elt [⟨tg,iter,ifs,0⟩] scope pos) (some (.Name y py)) spos.line X.env=pure true:=by rfl)
  (hf:X.fn y=true\/X.env.scope.names.lookup y=some .local:=by first|exact .inl rfl|exact .inr rfl|assumption)
  (h1:closureFor scope X.env=pure (clOf scope X.env):=by with_unfolding_all rfl) (h2:scope.kind=.function:=by rfl) (h3:scope.names.all (fun y=>y.2 != .cell)=true:=by rfl) (h4:scope.names.all (fun y=>y.2 != .local || scope.names.lookup y.1 == some .local)=true:=by rfl)
  (h5:X.N.all (fun y=>scope.names.lookup y != some .local)=true:=by rfl) (h6:scope.names.all (fun p=>p.2 != .free || (((clOf scope X.env).lookup p.1).isSome && (X.env.kindOf p.1 == some .cell || X.env.kindOf p.1 == some .free)))=true:=by rfl) :
  PS X (.Assign [.Name y py] (.ListComp elt [⟨tg,iter,ifs,0⟩] scope pos) spos) (fun D σ H=>tLC wi g tt te M.length σ H fun v H1=>D.nx (σ.set i (some v)) H1):=Xx hN hi' hy (lcOk h1 h2 h3 h4 h5 h6) hc hi hg ht he hs hsw hf
theorem Wk(S:List Nat)(M:LS)(hc:X.calm=true)(hi:PI X tg iter wi)(hg:∀C s H ex E,PG (cxLC X scope (clOf scope X.env) M C s H ex E) tg g)(ht:∀C s H ex E,PTs (cxLC X scope (clOf scope X.env) M C s H ex E) ifs tt)
  (he:∀C s H ex E,PE (cxLC X scope (clOf scope X.env) M C s H ex E) elt te) (hs:∀x,foldedSetIterable iter X.env x=pure x:=by intro _;rfl)
  (h1:closureFor scope X.env=pure (clOf scope X.env):=by with_unfolding_all rfl) (h2:scope.kind=.function:=by rfl) (h3:scope.names.all (fun y=>y.2 != .cell)=true:=by rfl) (h4:scope.names.all (fun y=>y.2 != .local || scope.names.lookup y.1 == some .local)=true:=by rfl)
  (h5:X.N.zipIdx.all (fun y=>S.contains y.2 || scope.names.lookup y.1 != some .local)=true:=by rfl) (h6:scope.names.all (fun p=>p.2 != .free || (((clOf scope X.env).lookup p.1).isSome && (X.env.kindOf p.1 == some .cell || X.env.kindOf p.1 == some .free)))=true:=by rfl) :
  PE X (.ListComp elt [⟨tg,iter,ifs,0⟩] scope pos) (tLCS S wi g tt te M.length):=QL (QM h1 h2 h3 h4 h5 h6) hc hi hg ht he hs
end
section
variable{Q:VK}
theorem yF{K:uc}(Pv:Nat->St->List V->Hp->Prop)(h0:Pv 0 σ [] H)(hl:∀i τ ys H,i<=xs.length->Pv i τ ys H->SqL K H a xs)
  (hs:∀i x τ ys H,xs[i]?=some x->Pv i τ ys H->g x τ H fun τ2 H2=>tt τ2 H2 fun b H3=>if b=true then te τ2 H3 fun y H4=>ys.length < sizeLine/\Pv (i+1) τ2 (ys++[y]) H4 else Pv (i+1) τ2 ys H3)
  (hd:∀τ ys H,Pv xs.length τ ys H->∀p,H p=none->Q (.ref p) (upd H p (.lst ys))):∃W,(∃m,W 0 m σ [] H)/\lcBy (Itl K a) g tt te Q W:=by
 refine⟨fun i m τ ys H=>m=xs.length-i/\i<=xs.length/\Pv i τ ys H,⟨xs.length,by simp,uF _,h0⟩,?_⟩;rintro i m τ ys H ⟨rfl,hi,p⟩;have q:=hl i τ ys H hi p;by_cases hlt:i < xs.length
 ·refine .inr ⟨⟨xs,xs[i],q,by simp[hlt]⟩,Pv (i+1),fun τ' ys' H' p'=>⟨xs.length-(i+1),by lia,rfl,hlt,p'⟩,fun x H' y=>?_⟩
  obtain⟨e,y⟩:=y;subst e;exact hs i x τ ys _ (y xs q) p
 ·have e:i=xs.length:=by lia
  subst e;exact .inl ⟨⟨xs,q,ud _⟩,hd τ ys H p⟩
theorem yL{lo:Int}(Pv:Nat->St->List V->Hp->Prop)(h0:Pv 0 σ [] H)
  (hs:∀i τ ys H,i < n->Pv i τ ys H->g (.int (lo+i)) τ H fun τ2 H2=>tt τ2 H2 fun b H3=>if b=true then te τ2 H3 fun y H4=>ys.length < sizeLine/\Pv (i+1) τ2 (ys++[y]) H4 else Pv (i+1) τ2 ys H3)
  (hd:∀τ ys H,Pv n τ ys H->∀p,H p=none->Q (.ref p) (upd H p (.lst ys))):∃W,(∃m,W 0 m σ [] H)/\lcBy (Itr lo n) g tt te Q W:=by
 refine⟨fun i m τ ys H=>m=n-i/\i<=n/\Pv i τ ys H,⟨n,by simp,uF _,h0⟩,?_⟩;rintro i m τ ys H ⟨rfl,hi,p⟩;by_cases hlt:i < n
 ·refine .inr ⟨hlt,Pv (i+1),fun τ' ys' H' p'=>⟨n-(i+1),by lia,rfl,hlt,p'⟩,fun x H' y=>?_⟩
  obtain⟨e,y⟩:=y;subst e y;exact hs i τ ys _ hlt p
 ·have e:i=n:=by lia
  subst e;exact .inl ⟨ud _,hd τ ys H p⟩
end
end L2
namespace L2
open PySem PySem.Spec PyProof.Rows Builtin Builtin.Str
def Its(z:Str):It:=⟨fun i _=>i < z.cps.size,fun i H x H'=>H'=H/\∃c,z.cps[i]?=some c/\x=.str ⟨#[c]⟩,fun i _=>i=z.cps.size⟩
theorem Zd{K:uc}{t:Tok}{nm:String}(W:∀A:Around,A.handled=none->Walks P w A it [it] [it] z.cps.size (SignAt z) (fun i h=>h.IsStrIter it nm z t i))
  (self:∀(A:Around)(i:Nat)(s:Shared)(Q:VSP)(E:VSP),s.heap.IsStrIter it nm z t i->Q (.ref it) s->wpAny (model P w) A (pyIter (.ref it)) Q E s)
  (hn:["enumerate","zip","dict_itemiterator","dict_reverseitemiterator","odict_iterator","itertools.zip_longest","itertools.pairwise"].contains nm=false) :
  Turn P w K tg (Its z) [it] it (fun i h=>h.IsStrIter it nm z t i) where
 mem:=by simp
 obj:=fun i h st b hb=>by
  have e:b=it:=by simpa using hb
  subst e;obtain⟨o,e,c,d⟩:=st;exact⟨o,e,fun v z=>by rw[d]at z;cases z⟩
 keep:=fun i h h' st k=>by
  obtain⟨o,e,r⟩:=st;exact⟨o,k it (by simp) o e,r⟩
 item:=by
  intro X hP hw hK hc i pins s σ H E I hf st hg;subst hP hw hK;obtain⟨f0,f1,f2,f3,f4,f5⟩:=hf it (by simp);refine(W X.A (I.ok.hd hc)).item i s _ _ hg st fun v h' tk hv st' kk=>?_;obtain⟨c,u,hcu,rfl⟩:=hv;have I1:Inv X pins σ H { s with heap:=h',toks:=tk }:=I.turned (fun b o hb e=>kk b o (by simpa using hb) e) f0 f1 f3 f4 f5;obtain⟨o,e,c',d⟩:=id st';exact⟨_,rfl,j9 (s:={ s with heap:=h',toks:=tk }) e c' d hn ⟨.str ⟨#[c]⟩,H,I1,⟨u,rfl⟩,⟨rfl,c,hcu,rfl⟩,st',fun b hb=>(hf b hb).1⟩⟩
 done:=by
  intro X hP hw hK hc i pins s σ H E I hf st hg;subst hP hw hK;obtain⟨f0,f1,f2,f3,f4,f5⟩:=hf it (by simp);have hg':i=z.cps.size:=hg;subst hg';exact(W X.A (I.ok.hd hc)).done s _ _ st fun h' tk kk=>⟨rfl,I.turned (fun b o hb e=>kk b o (by simpa using hb) e) f0 f1 f3 f4 f5⟩
 self:=self
def iStr(tl:TE):TI:=fun σ H R=>tl σ H fun x H1=>∃z,x=.str z/\R (Its z) H1
theorem zaK(hc:X.calm=true){l:Expr}(hl:PE X l tl):PI X tg l (iStr tl):=by
 intro pins s σ H R I h;refine thn (hl pins s σ H _ I h) fun v s1 hq_=>?_;obtain⟨x,H1,I1,r1,q1⟩:=hq_;obtain⟨z,e,q⟩:=q1;subst e;obtain⟨t,rfl⟩:=r1;have fp:∀b∈[s1.heap.objs.size],FpOk X pins H1 b:=fun b hb=>by
  have e:b=s1.heap.objs.size:=by simpa using hb
  subst e;exact I1.fpOk (ud _) (I1.hok.fresh (ud _))
 cases ha:z.cps.all (· < 128)
 ·refine wpAny_pyIter_wide ha ?_
  exact⟨s1.heap.objs.size,[s1.heap.objs.size],_,_,H1,rfl,I1.kept (t':=s1.toks) fun b o e=>uf _ e,
   Zd (nm:="str_iterator") (fun A hA=>Walks.strWide hA _ z t) (fun _ _ _ _ _ st q=>wpAny_pyIter_striter_wide st q) (by decide),⟨_,uu _ rfl,rfl,rfl⟩,fp,q⟩
 ·refine wpAny_pyIter_ascii ha ?_
  exact⟨s1.heap.objs.size,[s1.heap.objs.size],_,_,H1,rfl,I1.kept (t':=s1.toks) fun b o e=>uf _ e,
   Zd (nm:="str_ascii_iterator") (fun A hA=>Walks.strAscii hA _ z t) (fun _ _ _ _ _ st q=>wpAny_pyIter_striter_ascii st q) (by decide),⟨_,uu _ rfl,rfl,rfl⟩,fp,q⟩
theorem xk:∀l:List (Str×Tok),Vals ((l.map (·.1)).map V.str) (strValues l)
 |[]=>.nil
 | (x,t)::r=>.cons ⟨t,rfl⟩ (xk r)
theorem Xy(x y:Str):(Txt.split x y).length<=x.length+2:=by
 unfold Txt.split;split
 ·simp
 ·split
  ·simp
  ·have e1:=StrLaws.occ_length_le x y 0 x.length (x.length+1)
   rw[length_partsBetween];lia
def Wl:V->List V->Hp->VK->Prop:=fun x vs H Q=>∃z y,x=.str z/\vs=[.str y]/\(y.length == 0)=false/\z.length+2<=sizeLine/\∀p,H p=none->Q (.ref p) (upd H p (.lst ((Txt.split z y).map V.str)))
theorem Wm:MtR X "str.split" Wl:=by
 intro pins s σ H x vs v us Q I rx rv h;obtain⟨z,y,rfl,rfl,hy,hz,q⟩:=h;obtain⟨t,rfl⟩:=rx;obtain⟨u,rfl,t',rfl⟩:=rv.one;have hn:(partsBetween z (occurrences z y 0 z.length (z.length+1)) y.length).length<=sizeLine:=by
  have e1:=StrLaws.occ_length_le z y 0 z.length (z.length+1);rw[length_partsBetween];lia
 have hl:((Txt.split z y).map V.str).length<=sizeLine:=by
  have:=Xy z y
  rw[ua];lia
 have fin:∀(l:List (Str×Tok))(k:Nat),l.map (·.1)=Txt.split z y->EP X pins σ Q (.ref s.heap.objs.size) { s with heap:=s.heap.push { cls:=.type "list",data:=.seq (strValues l).toArray },toks:=k }:=fun l k e =>
  ⟨.ref s.heap.objs.size,_,I.lnew (t':=k) (by rw[<- e];exact xk l) hl,rfl,q _ I.fresh⟩
 cases h1:(decide (z.length < y.length) || decide (strKind z < strKind y))
 ·cases hf:(occurrences z y 0 z.length (z.length+1)).isEmpty
  ·refine call_meets F.slot_str_split (typeIs_str _ _ _) F.entry_str_split (F.args_str_split_2 _ _) (meets_str_split_sep z y t t' h1 hy hf (by lia) hn) ?_
   show wants (EP X pins σ Q) X.xe _ { s with toks:=_,heap:=s.heap.push { cls:=.type "list",data:=.seq (strsFrom s.toks (partsBetween z (occurrences z y 0 z.length (z.length+1)) y.length)).toArray } };rw[strsFrom_eq];exact fin (numbered s.toks _) _ ((numbered_texts _ _).trans ((if_neg (ne_true_of_eq_false h1)).trans (if_neg (ne_true_of_eq_false hf))).symm)
  ·exact call_meets F.slot_str_split (typeIs_str _ _ _) F.entry_str_split (F.args_str_split_2 _ _) (meets_str_split_not_found z y t t' h1 hy hf)
    (fin [(z,t)] s.toks ((if_neg (ne_true_of_eq_false h1)).trans (if_pos hf)).symm)
 ·exact call_meets F.slot_str_split (typeIs_str _ _ _) F.entry_str_split (F.args_str_split_2 _ _) (meets_str_split_cannot_occur z y t t' h1)
   (fin [(z,t)] s.toks (if_pos h1).symm)
theorem Z4:OpR X (binaryOp .Mult) (fun x y H Q=>∃z n,x=.str z/\y=.int n/\MulOk z n/\Q (.str (Txt.mul z n)) H):=by
 intro pins s σ H x y v u Q I rx ry h;obtain⟨z,n,rfl,rfl,ok,q⟩:=h;obtain⟨t,rfl⟩:=rx;obtain⟨t',rfl⟩:=ry;exact SB.mul ok fun t'' k=>⟨.str (Txt.mul z n),H,I.tok k,⟨t'',rfl⟩,q⟩
theorem Ze:yE X (.builtin "isinstance") (fun xs H Q=>∃x t T b,xs=[x,.ty T]/\TyOf X.K H x t/\PySem.W.kitOne X.K t (.type T)=some b/\Q (.bl b) H):=by
 intro pins s σ H xs us Q I r h;obtain⟨x,t,T,b,rfl,ty,e,q⟩:=h;obtain⟨u,u',rfl,rx,ru⟩:=YC r;cases ru;exact Xq I rx ty e fun tk=>⟨.bl b,H,I.tok tk,rfl,q⟩
theorem Xz(bs:List Bool):(uV bs.length).all (fun i=>bs.getD i false)=bs.all id:=by
 induction bs with
 |nil=>rfl
 |cons b r ih =>
  rw[um,List.range_succ_eq_map,List.all_cons,List.all_map,List.all_cons];have e:(uV r.length).all ((fun i=>(b::r).getD i false) ∘ Nat.succ)=(uV r.length).all fun i=>r.getD i false:=by
   congr 1
  rw[e,ih]
  rfl
end L2
namespace L2
open PySem PySem.Spec PyProof.Rows
variable{ds:List Value}
def zx:Expr->Bool
 |.Starred ..=>true
 |_=>false
theorem zK(h:zx e=false):starEach (e::es) env=(false,eval e env)::starEach es env:=by
 cases e<;>first
  |rfl
  |exact absurd (show true=false from h) (by decide)
theorem yk{env:Env}{pos:Pos}:∀{es:List Expr},es.all (fun e=>!zx e)=true->(backTo pos (starEach es env)).any (·.1)=false
 |[],_=>rfl
 |e::es,h=>by
  rw[List.all_cons,UC]at h;have h1:zx e=false:=by simpa using h.1
  rw[zK h1];show(false || (backTo pos (starEach es env)).any (·.1))=false;rw[yk h.2]
  rfl
section
variable{k:Nat}{dvs:List V}{E:XK}{p:Pos}{t:TA}{id T:String}{r:List V->Hp->VK->Prop}
theorem pa_c(ha:PE X e te)(hr:PA X es t)(h:zx e=false:=by rfl):PA X (e::es) (zQ te t):=Jh ha hr (zK h)
theorem zbM(F:FnOk X.prog X.w X.K X.mg X.base CX k f fd ps sp)(hr:Room k X.A)(hg:Gl X x)(hm:X.mg x=some (.ref f))(hk:uL X.K (.ref f)=true)(hb:Binds X.K fd ps ds)(hd:Vals dvs ds)(hx:yC CX X E)
  (ha:PA X (e::es) t) (hdb:(x == ("__debug__":Str))=false:=by decide) (h1:zx e=false:=by rfl) (h2:es.all (fun e=>!zx e)=true:=by rfl) :
  PE X (.Call (.Name x p) (e::es) [] pos) (Za sp dvs E t):=Ji F hr hg hm hk hb hd hx ha hdb (zK h1) (yk h2)
theorem zaL(hc:yE X (.builtin id) r)(hg:Gl X x)(hm:X.mg x=none)(hv:bootBuiltins x=some (.builtin id))(ha:PA X (e::es) t)(hn:x≠"__name__":=by decide)(hdb:(x == ("__debug__":Str))=false:=by decide)
  (h1:zx e=false:=by rfl) (h2:es.all (fun e=>!zx e)=true:=by rfl):PE X (.Call (.Name x p) (e::es) [] pos) (tCB r t):=X6 hc hg hm hv ha hn hdb (zK h1) (yk h2)
theorem Jt(hc:yE X (.type T) r)(hg:Gl X x)(hm:X.mg x=none)(hv:bootBuiltins x=some (.type T))(ha:PA X (e::es) t)(hn:x≠"__name__":=by decide)(hdb:(x == ("__debug__":Str))=false:=by decide)
  (h1:zx e=false:=by rfl) (h2:es.all (fun e=>!zx e)=true:=by rfl):PE X (.Call (.Name x p) (e::es) [] pos) (tCB r t):=Xr hc hg hm hv ha hn hdb (zK h1) (yk h2)
end
structure jE(X:Cx)(e:Expr)(t:TE):Prop where
 out:PE X e t
structure jT(X:Cx)(e:Expr)(t:TT):Prop where
 out:PT X e t
structure jW(X:Cx)(e:Expr)(t:TT):Prop where
 out:PW X e t
structure jA(X:Cx)(es:List Expr)(t:TA):Prop where
 out:PA X es t
structure jS(X:Cx)(st:Stmt)(t:TS):Prop where
 out:PS X st t
structure jSs(X:Cx)(sts:List Stmt)(t:TS):Prop where
 out:PSs X sts t
structure jG(X:Cx)(tg:Expr)(t:TG):Prop where
 out:PG X tg t
structure jGs(X:Cx)(tg:List Expr)(t:TGs):Prop where
 out:PGs X tg t
structure jI(X:Cx)(tg iter:Expr)(t:TI):Prop where
 out:PI X tg iter t
structure jO(X:Cx)(e:Option Expr)(t:TO):Prop where
 out:PO X e t
structure jTs(X:Cx)(ifs:List Expr)(t:TT):Prop where
 out:PTs X ifs t
structure jOp(X:Cx)(f:Value->Value->Sem Value)(r:R2):Prop where
 out:OpR X f r
structure jIx(X:Cx)(r:R2):Prop where
 out:IxR X r
structure jSl(X:Cx)(r:V->Option Int->Option Int->Hp->VK->Prop):Prop where
 out:SlR X r
structure jMt(X:Cx)(id:String)(r:V->List V->Hp->VK->Prop):Prop where
 out:MtR X id r
structure jCa(X:Cx)(f:Value)(r:List V->Hp->VK->Prop):Prop where
 out:yE X f r
section
variable{a b c:Expr}{rest:List Expr}{tc to:TE}{t u:TA}{tA tB':TT}{p px:Pos}{op':CmpOp}{bop:Operator}{r r':R2}
theorem jv(i:Nat)(hN:X.N[i]?=some x:=by rfl)(hv:Vis X.env.scope x:=by first|exact Or.inl rfl|exact Or.inr (Or.inl rfl)|exact Or.inr (Or.inr rfl))(hd:(x == ("__debug__":Str))=false:=by decide)
  (hcd:(x == ("__classdict__":Str))=false:=by decide):jE X (.Name x pos) (tVar i):=⟨pv i hN hv hd hcd⟩
theorem zn{i j}:jE X (.Constant (.int i) j pos) (tC (.int i)):=⟨zag⟩
theorem yA{b j}:jE X (.Constant (.bool b) j pos) (tC (.bl b)):=⟨zbA⟩
theorem zq{x j}:jE X (.Constant (.str x) j pos) (tC (.str x)):=⟨zah⟩
theorem Ju{v:V}{w:Value}(hg:Gl X x)(hm:X.mg x=some w)(r:RelV v w)(hd:(x == ("__debug__":Str))=false:=by decide):jE X (.Name x pos) (tC v):=⟨V2 hg hm r hd⟩
theorem wT{v:V}{w:Value}(hg:Gl X x)(hm:X.mg x=none)(hv:bootBuiltins x=some w)(r:RelV v w)(hn:x≠"__name__":=by decide)(hd:(x == ("__debug__":Str))=false:=by decide):jE X (.Name x pos) (tC v):=⟨V3 hg hm hv r hn hd⟩
theorem zw(ho:jOp X (binaryOp bop) r)(ha:jE X a ta)(hb:jE X b tb):jE X (.BinOp a bop b pos) (tOp r ta tb):=⟨zbC ho.out ha.out hb.out⟩
theorem yu(ha:jE X a ta):jE X (.UnaryOp .USub a pos) (tUn (rU fun i=>.int (-i)) ta):=⟨zbD zax ha.out⟩
theorem xz(ho:jOp X (compareOp op) r)(ha:jE X a ta)(hb:jE X b tb)(hm:behindInMarks op b=false):jE X (.Compare a [op] [b] pos) (tOp r ta tb):=⟨Jc ho.out ha.out hb.out hm⟩
theorem xa(ho:jOp X (compareOp op) r)(ha:jE X a ta)(hb:jE X b tb)(hm:behindInMarks op b=false):jT X (.Compare a [op] [b] pos) (X1 (tOp r ta tb)):=⟨Jd ho.out ha.out hb.out hm⟩
theorem ya(h:jE X e te)(he:∀whole,isTrue e X.env whole=(do let v <- whole;standAt e.pos;holding [v] (truthy v)):=by intro _;rfl):jT X e (tB te):=⟨zai h.out he⟩
theorem yG(ha:jT X a tA):jW X (.BoolOp .And [a] pos) tA:=⟨pw_and1 ha.out⟩
theorem yv(ha:jT X a tA):jW X (.BoolOp .Or [a] pos) tA:=⟨pw_or1 ha.out⟩
theorem yD(ha:jT X a tA)(hb:jW X (.BoolOp .And (b::rest) pos) tB'):jW X (.BoolOp .And (a::b::rest) pos) (tAnd tA tB'):=⟨pw_and ha.out hb.out⟩
theorem yt(ha:jT X a tA)(hb:jW X (.BoolOp .Or (b::rest) pos) tB'):jW X (.BoolOp .Or (a::b::rest) pos) (tOr tA tB'):=⟨pw_or ha.out hb.out⟩
theorem jW.pt(h:jW X e tA):jT X e tA:=⟨PW.pt h.out⟩
theorem yQ(ha:jT X a tA):jT X (.UnaryOp .Not a pos) (tNot tA):=⟨zaj ha.out⟩
theorem zaM{op}(h:jE X a te):jE X (.BoolOp op [a] pos) te:=⟨zak h.out⟩
theorem zaN(ha:jE X a ta)(hb:jE X (.BoolOp .And (b::rest) pos) tb):jE X (.BoolOp .And (a::b::rest) pos) (QA ta tb):=⟨zal ha.out hb.out⟩
theorem Wn(hc:jT X c tA)(ha:jE X a ta)(hb:jE X b tb):jE X (.IfExp c a b pos) (tIf tA ta tb):=⟨XU hc.out ha.out hb.out⟩
theorem zE:jA X [] tNil:=⟨zaA⟩
theorem ja_c(ha:jE X e te)(hr:jA X es t)(h:zx e=false:=by rfl):jA X (e::es) (zQ te t):=⟨pa_c ha.out hr.out h⟩
theorem zC(h:jA X es t):jE X (.List es pos) (tLst t):=⟨zaC h.out⟩
theorem zr{x1}(h:jA X es t):jE X (.Tuple es x1 pos) (tTup t):=⟨zaB h.out⟩
theorem yg(hr:jIx X r)(ha:jE X a ta)(hb:jE X b tb)(hs:jd b):jE X (.Subscript a b pos) (tOp r ta tb):=⟨zbK hr.out ha.out hb.out hs⟩
theorem yc:jO X none YE:=⟨Jk⟩
theorem yd(h:jE X e te):jO X (some e) (QJ te):=⟨Jl h.out⟩
theorem zX{r:V->Option Int->Option Int->Hp->VK->Prop}{lo hi:Option Expr}{tl th:TO}(hr:jSl X r)(he:jE X e te)(hl:jO X lo tl)(hu:jO X hi th):jE X (.Subscript e (.Slice lo hi none p2) pos) (tSl r te tl th):=⟨X8 hr.out he.out hl.out hu.out⟩
variable{k:Nat}{dvs:List V}{E:XK}{id T:String}{rc:List V->Hp->VK->Prop}{rm:V->List V->Hp->VK->Prop}
theorem zbN(F:FnOk X.prog X.w X.K X.mg X.base CX k f fd ps sp)(hr:Room k X.A)(hg:Gl X x)(hm:X.mg x=some (.ref f))(hk:uL X.K (.ref f)=true)(hb:Binds X.K fd ps ds)(hd:Vals dvs ds)(hx:yC CX X E)
  (ha:jA X (e::es) t) (hdb:(x == ("__debug__":Str))=false:=by decide) (h1:zx e=false:=by rfl) (h2:es.all (fun e=>!zx e)=true:=by rfl) :
  jE X (.Call (.Name x p) (e::es) [] pos) (Za sp dvs E t):=⟨zbM F hr hg hm hk hb hd hx ha.out hdb h1 h2⟩
theorem ym(hc:jCa X (.builtin id) rc)(hg:Gl X x)(hm:X.mg x=none)(hv:bootBuiltins x=some (.builtin id))(ha:jA X (e::es) t)(hn:x≠"__name__":=by decide)(hdb:(x == ("__debug__":Str))=false:=by decide)
  (h1:zx e=false:=by rfl) (h2:es.all (fun e=>!zx e)=true:=by rfl):jE X (.Call (.Name x p) (e::es) [] pos) (tCB rc t):=⟨zaL hc.out hg hm hv ha.out hn hdb h1 h2⟩
theorem zB(hc:jCa X (.type T) rc)(hg:Gl X x)(hm:X.mg x=none)(hv:bootBuiltins x=some (.type T))(ha:jA X (e::es) t)(hn:x≠"__name__":=by decide)(hdb:(x == ("__debug__":Str))=false:=by decide)
  (h1:zx e=false:=by rfl) (h2:es.all (fun e=>!zx e)=true:=by rfl):jE X (.Call (.Name x p) (e::es) [] pos) (tCB rc t):=⟨Jt hc.out hg hm hv ha.out hn hdb h1 h2⟩
theorem xK(pa:PlainAttrs T)(slot:Slot T name id)(hty:typeOf (.builtin id)=pure (.type "method_descriptor"))(hm:jMt X id rm)(ho:jE X o to)
  (hbase:attributeBase o name X.env (eval o X.env)=eval o X.env:=by rfl) (hline:(apos.endLine == cpos.line)=true:=by rfl):jE X (.Call (.Attribute o name apos) [] [] cpos) (tBM0 X.K T rm to):=⟨zaH pa slot hty hm.out ho.out hbase hline⟩
theorem zV(pa:PlainAttrs T)(slot:Slot T name id)(hty:typeOf (.builtin id)=pure (.type "method_descriptor"))(hm:jMt X id rm)(ho:jE X o to)(ha:jA X (e::es) t)
  (hbase:attributeBase o name X.env (eval o X.env)=eval o X.env:=by rfl)
  (hfew:((backTo cpos (starEach (e::es) X.env)).all (fun x=>!x.1) && (backToKw cpos (keywordEach [] X.env)).all (fun x=>x.1.isSome)
   && decide ((e::es).length+([]:List Keyword).length+(if([]:List Keyword).isEmpty then 0 else 1) < 30))=true:=by rfl)
  (hline:(apos.endLine == cpos.line)=true:=by rfl) (h1:zx e=false:=by rfl) (h2:es.all (fun e=>!zx e)=true:=by rfl) :
  jE X (.Call (.Attribute o name apos) (e::es) [] cpos) (tBM X.K T rm to t):=⟨zbL pa slot hty hm.out ho.out ha.out hbase hfew hline (zK h1) (yk h2)⟩
variable{s1 s2:TS}{g:TG}{wi:TI}{tb1:TS}
theorem zu:jSs X [] ve:=⟨V4⟩
theorem zh(h1:jS X st s1)(h2:jSs X sts s2):jSs X (st::sts) (tSeq s1 s2):=⟨XV h1.out h2.out⟩
theorem zk(h1:jS X st s1):jSs X [st] s1:=⟨V5 h1.out⟩
theorem zF(he:jE X e te)(hs:swapsWith e none pos.line X.env=pure false:=by rfl):jS X (.Expr e pos) (QB te):=⟨V6 he.out hs⟩
theorem zt(he:jE X e te):jS X (.Return (some e) pos) (tRet te):=⟨zam he.out⟩
theorem YK:jS X (.Return none pos) QC:=⟨V7⟩
theorem zy{A B:List Stmt}(hc:jT X c tA)(ha:jSs X A s1)(hb:jSs X B s2):jS X (.If c A B pos) (tIfS tA s1 s2):=⟨zbB hc.out ha.out hb.out⟩
theorem zaO(hN:X.N.Nodup)(hi:X.N[i]?=some x)(hx:Loc X.env.scope x)(he:jE X e te)(hs:swapsWith e (some (.Name x pos')) pos.line X.env=pure false:=by rfl)
  (hf:X.fn x=true\/X.env.scope.names.lookup x=some .local:=by first|exact .inl rfl|exact .inr rfl|assumption):jS X (.Assign [.Name x pos'] e pos) (tAsg te (vP i)):=⟨zaq hN hi hx he.out hs hf⟩
theorem xb(he:jE X e te)(hg:jG X tg g)(hs:swapsWithSole [tg] e pos.line X.env=pure false:=by rfl)(hw:swappedStores [tg] e X.env=pure none:=by rfl)(h1:(assignEach [tg] X.env).map (·.2)=[assign tg X.env]:=by rfl):jS X (.Assign [tg] e pos) (tAsg te g):=⟨zap he.out hg.out hs hw h1⟩
theorem Jv(hN:X.N.Nodup)(hi:X.N[i]?=some x)(hx:Loc X.env.scope x)(hf:X.fn x=true\/X.env.scope.names.lookup x=some .local:=by first|exact .inl rfl|exact .inr rfl|assumption):jG X (.Name x pos) (vP i):=⟨V8 hN hi hx hf⟩
theorem yf:jGs X [] gNil:=⟨V9⟩
theorem zA(h1:jG X e g)(h2:jGs X es gs)(hs:(assignEach (e::es) X.env).map (·.2)=assign e X.env::(assignEach es X.env).map (·.2):=by rfl):jGs X (e::es) (QD g gs):=⟨XW h1.out h2.out hs⟩
theorem yR(hc:X.calm=true)(h:jGs X es gs)(hn:(assignEach es X.env).length=n:=by rfl)(hst:(assignEach es X.env).findIdx? (·.1)=none:=by rfl):jG X (.Tuple es k pos) (gTup X.K n gs):=⟨zan hc h.out hn hst⟩
theorem zY{l:Expr}(hl:jE X l tl):jI X tg l (QE X.K tl):=⟨Ja hl.out⟩
theorem yn{l:Expr}(hl:jE X l tl):jI X tg l (iTup X.K tl):=⟨zar hl.out⟩
theorem zaP(hc:X.calm=true){l:Expr}(hl:jE X l tl):jI X tg l (iStr tl):=⟨zaK hc hl.out⟩
theorem zW(hg:Gl X "range")(hm:X.mg "range"=none)(ha:jA X [a] t)(h:zx a=false:=by rfl):jI X tg (.Call (.Name "range" p) [a] [] pos) (QF t):=⟨Xk hg hm ha.out (zK h)⟩
theorem zM(hp:PassesOwn (model X.prog X.w) X.A X.env X.xe)(hc:X.calm=true)(hi:jI X tg iter wi)(hg:jG X tg g)(hb:jSs X sts tb1)(hs:∀x,foldedSetIterable iter X.env x=pure x:=by intro _;rfl):jS X (.For tg iter sts [] pos) (tFor wi g tb1):=⟨zas hp hc hi.out hg.out hb.out hs⟩
theorem xU(hp:PassesOwn (model X.prog X.w) X.A X.env X.xe)(hc:jT X c tA)(hb:jSs X sts tb1):jS X (.While c sts [] pos) (XX tA tb1):=⟨XY hp hc.out hb.out⟩
theorem zL:jTs X [] tYes:=⟨Jp⟩
theorem xA(h:jT X c tA):jTs X [c] tA:=⟨Jq h.out⟩
theorem yo(M:LS)(hc:X.calm=true)(hi:jI X tg iter wi)(hg:∀C s H ex E,jG (cxLC X scope (clOf scope X.env) M C s H ex E) tg g)(ht:∀C s H ex E,jTs (cxLC X scope (clOf scope X.env) M C s H ex E) ifs tt)
  (he:∀C s H ex E,jE (cxLC X scope (clOf scope X.env) M C s H ex E) elt te) (hs:∀x,foldedSetIterable iter X.env x=pure x:=by intro _;rfl)
  (h1:closureFor scope X.env=pure (clOf scope X.env):=by with_unfolding_all rfl) (h2:scope.kind=.function:=by rfl) (h3:scope.names.all (fun y=>y.2 != .cell)=true:=by rfl) (h4:scope.names.all (fun y=>y.2 != .local || scope.names.lookup y.1 == some .local)=true:=by rfl)
  (h5:X.N.all (fun y=>scope.names.lookup y != some .local)=true:=by rfl) (h6:scope.names.all (fun p=>p.2 != .free || (((clOf scope X.env).lookup p.1).isSome && (X.env.kindOf p.1 == some .cell || X.env.kindOf p.1 == some .free)))=true:=by rfl) :
  jE X (.ListComp elt [⟨tg,iter,ifs,0⟩] scope pos) (tLC wi g tt te M.length):=⟨Jr M hc hi.out (fun C s H ex E=>(hg C s H ex E).out) (fun C s H ex E=>(ht C s H ex E).out) (fun C s H ex E=>(he C s H ex E).out) hs h1 h2 h3 h4 h5 h6⟩
theorem ye(M:LS){spos:Pos}(hN:X.N.Nodup)(hi':X.N[i]?=some y)(hy:Loc X.env.scope y)(hc:X.calm=true)(hi:jI X tg iter wi)(hg:∀C s H ex E,jG (cxLC X scope (clOf scope X.env) M C s H ex E) tg g)
  (ht:∀C s H ex E,jTs (cxLC X scope (clOf scope X.env) M C s H ex E) ifs tt) (he:∀C s H ex E,jE (cxLC X scope (clOf scope X.env) M C s H ex E) elt te) (hs:∀x,foldedSetIterable iter X.env x=pure x:=by intro _;rfl)
  (hsw:swapsWith (.ListComp elt [⟨tg,iter,ifs,0⟩] scope pos) (some (.Name y py)) spos.line X.env=pure true:=by rfl)
  (hf:X.fn y=true\/X.env.scope.names.lookup y=some .local:=by first|exact .inl rfl|exact .inr rfl|assumption)
  (h1:closureFor scope X.env=pure (clOf scope X.env):=by with_unfolding_all rfl) (h2:scope.kind=.function:=by rfl) (h3:scope.names.all (fun y=>y.2 != .cell)=true:=by rfl) (h4:scope.names.all (fun y=>y.2 != .local || scope.names.lookup y.1 == some .local)=true:=by rfl)
  (h5:X.N.all (fun y=>scope.names.lookup y != some .local)=true:=by rfl) (h6:scope.names.all (fun p=>p.2 != .free || (((clOf scope X.env).lookup p.1).isSome && (X.env.kindOf p.1 == some .cell || X.env.kindOf p.1 == some .free)))=true:=by rfl) :
  jS X (.Assign [.Name y py] (.ListComp elt [⟨tg,iter,ifs,0⟩] scope pos) spos) (fun D σ H=>tLC wi g tt te M.length σ H fun v H1=>D.nx (σ.set i (some v)) H1) :=
 ⟨Js M hN hi' hy hc hi.out (fun C s H ex E=>(hg C s H ex E).out) (fun C s H ex E=>(ht C s H ex E).out) (fun C s H ex E=>(he C s H ex E).out) hs hsw hf h1 h2 h3 h4 h5 h6⟩
theorem Zf(S:List Nat)(M:LS)(hc:X.calm=true)(hi:jI X tg iter wi)(hg:∀C s H ex E,jG (cxLC X scope (clOf scope X.env) M C s H ex E) tg g)(ht:∀C s H ex E,jTs (cxLC X scope (clOf scope X.env) M C s H ex E) ifs tt)
  (he:∀C s H ex E,jE (cxLC X scope (clOf scope X.env) M C s H ex E) elt te) (hs:∀x,foldedSetIterable iter X.env x=pure x:=by intro _;rfl)
  (h1:closureFor scope X.env=pure (clOf scope X.env):=by with_unfolding_all rfl) (h2:scope.kind=.function:=by rfl) (h3:scope.names.all (fun y=>y.2 != .cell)=true:=by rfl) (h4:scope.names.all (fun y=>y.2 != .local || scope.names.lookup y.1 == some .local)=true:=by rfl)
  (h5:X.N.zipIdx.all (fun y=>S.contains y.2 || scope.names.lookup y.1 != some .local)=true:=by rfl) (h6:scope.names.all (fun p=>p.2 != .free || (((clOf scope X.env).lookup p.1).isSome && (X.env.kindOf p.1 == some .cell || X.env.kindOf p.1 == some .free)))=true:=by rfl) :
  jE X (.ListComp elt [⟨tg,iter,ifs,0⟩] scope pos) (tLCS S wi g tt te M.length):=⟨Wk S M hc hi.out (fun C s H ex E=>(hg C s H ex E).out) (fun C s H ex E=>(ht C s H ex E).out) (fun C s H ex E=>(he C s H ex E).out) hs h1 h2 h3 h4 h5 h6⟩
theorem zO:jOp X (binaryOp .Add) (rI0 fun i j=>.int (i+j)):=⟨zat⟩
theorem xc:jOp X (binaryOp .Sub) (rI0 fun i j=>.int (i-j)):=⟨zau⟩
theorem jm:jOp X (binaryOp .Mult) (rI CMul fun i j=>.int (i*j)):=⟨zav⟩
theorem xf:jOp X (binaryOp .FloorDiv) (rI CDiv fun i j=>.int (i / j)):=⟨Jb⟩
theorem xm:jOp X (binaryOp .Mod) (rI (fun _ j=>0 < j) fun i j=>.int (i % j)):=⟨zaw⟩
theorem zD:jOp X (compareOp .Eq) rEq:=⟨zbE⟩
theorem wM:jOp X (compareOp .NotEq) rNe:=⟨zbF⟩
theorem Zg:jOp X (compareOp .Lt) (rI0 fun i j=>.bl (decide (i < j))):=⟨zbG⟩
theorem Wo:jOp X (compareOp .LtE) (rI0 fun i j=>.bl (decide (i<=j))):=⟨zbH⟩
theorem xV:jOp X (compareOp .Gt) (rI0 fun i j=>.bl (decide (j < i))):=⟨zbI⟩
theorem zbO:jOp X (compareOp .GtE) (rI0 fun i j=>.bl (decide (j<=i))):=⟨zbJ⟩
theorem xB:jOp X (compareOp .In) (rIn X.K false):=⟨Xs⟩
theorem xW:jOp X (compareOp .NotIn) (rIn X.K true):=⟨jg⟩
theorem yw:jOp X (binaryOp .Add) (fun x y H Q=>∃i j,x=.str i/\y=.str j/\i.length+j.length<=sizeLine/\Q (.str (i++j)) H):=⟨ZT⟩
theorem vh:jOp X (binaryOp .Mult) (fun x y H Q=>∃z n,x=.str z/\y=.int n/\MulOk z n/\Q (.str (Txt.mul z n)) H):=⟨Z4⟩
theorem yj:jOp X (binaryOp .Add) rCat:=⟨zaJ⟩
theorem yy:jOp X (binaryOp .Add) (X9 X.K):=⟨Jm⟩
theorem z7:jIx X (rIxL X.K):=⟨Jn⟩
theorem yp:jIx X (rIxT X.K):=⟨zaF⟩
theorem Z5:jIx X rIxS:=⟨zaG⟩
theorem YL:jSl X (rSlL X.K):=⟨Jo⟩
theorem Wp:jMt X "str.split" Wl:=⟨Wm⟩
theorem zG:jMt X "list.append" YG:=⟨Xt⟩
theorem xM:jMt X "list.pop" rPop:=⟨zaI⟩
theorem vX:jMt X "list.extend" YH:=⟨Xu⟩
theorem Z6:jCa X (.builtin "len") (fun xs H Q=>∃z,xs=[.str z]/\z.length<=sizeLine/\Q (.int z.length) H):=⟨jj⟩
theorem vi:jCa X (.builtin "len") (fun xs H Q=>∃p ys,xs=[.ref p]/\(SqL X.K H p ys\/SqT X.K H p ys)/\Q (.int ys.length) H):=⟨ji⟩
theorem xC:jCa X (.builtin "isinstance") (fun xs H Q=>∃x t T b,xs=[x,.ty T]/\TyOf X.K H x t/\PySem.W.kitOne X.K t (.type T)=some b/\Q (.bl b) H):=⟨Ze⟩
theorem zz:jCa X (.type "tuple") (fun xs H Q=>∃p ys,xs=[.ref p]/\((SqL X.K H p ys/\∀l,H l=none->Q (.ref l) (upd H l (.tup ys)))\/(SqT X.K H p ys/\Q (.ref p) H))):=⟨vM⟩
theorem zZ:jCa X (.type "list") (fun xs H Q=>∃p ys,xs=[.ref p]/\(SqL X.K H p ys\/SqT X.K H p ys)/\∀l,H l=none->Q (.ref l) (upd H l (.lst ys))):=⟨jk⟩
end
section
variable{K:uc}
theorem Fun.by{k:Nat}(F:Fun K x qual st f fd)(S:FnScope N ps (zp st))(len:∀vs H Q E,sp vs H Q E->vs.length=ps.length)
  (hbody:∀(cdv:Value)(A:Around)(outer:List Env)(s:Shared)(H:Hp)(vs:List V)(Q:VK)(E:XK),Room k (A.deeper (envOfC qual (zp st) s.heap.objs.size f cdv))->sp vs H Q E ->
   ∃t,jSs (cxOf CX0 P w K mg base N qual (zp st) f cdv A outer s H E).nox (zH st) t/\t { nx:=fun _ H'=>Q .non H',rt:=Q } (yP N vs) H):FnOk P w K mg base CX0 (k+1) f fd ps sp :=
 F.ok S len fun cdv A outer s H vs Q E hr h=>let ⟨t,b,q⟩:=hbody cdv A outer s H vs Q E hr h;⟨t,b.out,q⟩
end
end L2
namespace L2
open PySem PySem.W PySem.Calls PyProof.Rows Builtin Builtin.ObjectAttr
def bmV:List Value:=[.type "ValueError",.type "Exception",.type "BaseException",.type "object"]
def zbP:List Value->Bool
 |[]=>false
 |v::r=>(v::r) == bmV || (match v with
  |.ref _=>zbP r
  |_=>false)
end L2
namespace L2
open PySem PySem.Spec PyProof.Rows
abbrev Ends.behind(D:Ends)(i:Nat):Ends:={ nx:=fun σ H=>D.nx (σ.set i none) H,rt:=D.rt,bk:=fun σ H=>D.bk (σ.set i none) H,ct:=fun σ H=>D.ct (σ.set i none) H }
theorem Inv.turns(I:Inv X pins σ H s)(k:∀b o,b∉ch->s.heap.get? b=some o->h'.get? b=some o)(hf:∀b∈ch,FpOk X pins H b):Inv X pins σ H { s with heap:=h',toks:=t' }:=by
 have nit:∀b u,H b=some u->b∉ch:=fun b u e z=>by rw[(hf b z).1]at e;cases e
 refine I.call (g':=s.gens) (d':=s.drawn) (t':=t') (ch:=ch) ⟨fun b o q _ _ x=>k b o x q,fun b o q _ _ x=>⟨o.slots,k b o x q⟩,fun _ _ _ n _=>n,fun b o q x=>⟨o,k b o x q⟩,fun _ _ q=>q,fun _ _ _ q=>q,fun _ ps q=>⟨#[],by rw[q];simp⟩⟩
  (fun b u e=>(I.hok b u e).stay (fun c v hc q=>k c v ?_ q) (fun _ q=>q) fun _ _ q=>q) I.bare fun b hb=>?_
 ·rcases hc with z|z
  ·rw[z];exact nit b u e
  ·exact nit c _ z
 ·obtain⟨f0,f1,f2,f3,f4,f5⟩:=hf b hb
  exact⟨f3,f1,f4,f5⟩
theorem Inv.turnsLaid{o:HO}(I:Inv X pins σ H s)(k:∀b o,b∉ch->s.heap.get? b=some o->h'.get? b=some o)(hf:∀b∈ch,FpOk X pins H b)(hp:s.heap.objs.size<=a)(new:ObjOk X.prog X.w (upd H a o) h' a o):
  Inv X pins σ (upd H a o) { s with heap:=h',toks:=t' }:=by
 have hn:=I.hok.fresh hp;have nit:∀b u,H b=some u->b∉ch:=fun b u e z=>by rw[(hf b z).1]at e;cases e
 refine I.call (g':=s.gens) (d':=s.drawn) (t':=t') (ch:=ch) ⟨fun b o q _ _ x=>k b o x q,fun b o q _ _ x=>⟨o.slots,k b o x q⟩,fun b u q n _=>by rw[zj (uK (uB (uA q) hp))];exact n,fun b o q x=>⟨o,k b o x q⟩,
   fun b xs q=>by rw[zj (zo q hn)];exact q,fun b u xs q=>by rw[zj (zo q hn)];exact q,fun b ps q=>⟨#[],by rw[zj (zo q hn),q];simp⟩⟩
  (fun b u e=>?_) I.bare fun b hb=>?_
 ·by_cases hb:b=a
  ·subst hb
   rw[zg]at e;cases e;exact new
  ·rw[zj hb]at e
   refine(I.hok b u e).stay (fun c v hc q=>k c v ?_ q) (fun c q=>by rw[zj (zo q hn)];exact q) fun c xs q=>by rw[zj (zo q hn)];exact q
   rcases hc with z|z
   ·rw[z];exact nit b u e
   ·exact nit c _ z
 ·obtain⟨f0,f1,f2,f3,f4,f5⟩:=hf b hb
  exact⟨f3,f1,f4,f5⟩
end L2
namespace L2
open PySem PySem.Spec PyProof.Rows Builtin Builtin.Str
theorem xY:∀{zs:LS}{us:List Value},Vals (zs.map V.str) us->∃l:List (Str×Tok),us=strValues l/\l.map (·.1)=zs
 |[],_,.nil=>⟨[],rfl,rfl⟩
 |z::zs,_,.cons ⟨t,e⟩ r=>by
  obtain⟨l,rfl,h⟩:=xY r;exact⟨(z,t)::l,by rw[e];rfl,by rw[ur,h]⟩
theorem Zh(sep:Str):∀(zs:LS)(a:Nat),zs.foldl (· + ·.length+sep.length) a=a+((zs.map (·.length)).sum+zs.length*sep.length)
 |[],a=>by simp
 |z::zs,a=>by
  rw[List.foldl_cons,Zh sep zs];simp only[ur,uS,um,Nat.add_mul,Nat.one_mul]
  lia
def wide(sep:Str)(zs:LS):Nat:=(zs.map (·.length)).sum+zs.length*sep.length
def QN(K:uc):V->List V->Hp->VK->Prop:=fun x vs H Q=>∃sep p zs,x=.str sep/\vs=[.ref p]/\SqL K H p (zs.map V.str)/\wide sep zs<=sizeLine/\Q (.str (Str.join sep zs)) H
theorem Jw:MtR X "str.join" (QN X.K):=by
 intro pins s σ H x vs v us Q I rx rv h;obtain⟨sep,p,zs,rfl,rfl,hq,hw,q⟩:=h;obtain⟨t,rfl⟩:=rx;obtain⟨u,rfl,ru⟩:=rv.one;cases ru;obtain⟨its,r,pl,hz⟩:=I.list hq;obtain⟨l,rfl,hl⟩:=xY r;have big:tooLong ((l.map (·.1)).toArray.foldl (· + ·.length+sep.length) 0)=false:=by
  rw[hl,List.foldl_toArray,Zh];unfold tooLong;rw[decide_eq_false_iff_not];unfold wide at hw;lia
 have hg:=size_glued sep zs;have hle:(glued sep zs).length<=sizeLine:=by
  rw[hg];unfold wide at hw
  have:(zs.length-1)*sep.length<=zs.length*sep.length:=uN _ (Nat.sub_le _ _)
  lia
 refine call_meets F.slot_str_join (typeIs_str _ _ _) F.entry_str_join (F.args_str_join_2 _ _) (meets_str_join_list sep t p l big) ⟨pl.isList,?_⟩;rw[<- StrLaws.glued_eq_join]at q
 match l,hl with
 |[],hl=>exact⟨by rw[hl];exact hle,.str _,H,I.tok _,⟨_,rfl⟩,by rw[hl];exact q⟩
 |[(z,tz)],hl =>
  have e:glued sep zs=z:=by
   rw[<- hl]
   rfl
  rw[e]at q;exact⟨.str z,H,I,⟨tz,rfl⟩,q⟩
 |a::b::r,hl=>exact⟨by rw[hl];exact hle,.str _,H,I.tok _,⟨_,rfl⟩,by rw[hl];exact q⟩
theorem Jx:jMt X "str.join" (QN X.K):=⟨Jw⟩
def rEqE(K:uc)(neg:Bool):R2:=fun x y H Q=>∃p p' xs,x=.ref p/\y=.ref p'/\SqL K H p xs/\SqL K H p' []/\Q (.bl (if neg then !xs.isEmpty else xs.isEmpty)) H
theorem zaQ(hu:X.A.units < cLine):OpR X (compareOp .Eq) (rEqE X.K false):=by
 intro pins s σ H x y v u Q I rx ry h;obtain⟨p,p',xs,rfl,rfl,h1,h2,q⟩:=h;cases rx;cases ry;obtain⟨its,r,pl,_⟩:=I.list h1;obtain⟨its',r',pl',_⟩:=I.list h2;cases r';cases r with
 |nil=>exact SeqAt.eq_listAt (e:=fun _=>true) pl.isList pl'.isList rfl hu (fun j h=>absurd h (Nat.not_lt_zero _)) ⟨.bl true,H,I,rfl,q⟩
 |cons a b=>exact SeqAt.eq_list_lengthsAt pl.isList pl'.isList rfl hu ⟨.bl false,H,I,rfl,q⟩
theorem zaR(hu:X.A.units < cLine):OpR X (compareOp .NotEq) (rEqE X.K true):=by
 intro pins s σ H x y v u Q I rx ry h;obtain⟨p,p',xs,rfl,rfl,h1,h2,q⟩:=h;cases rx;cases ry;obtain⟨its,r,pl,_⟩:=I.list h1;obtain⟨its',r',pl',_⟩:=I.list h2;cases r';cases r with
 |nil=>exact SeqAt.RcNeAt.lists (e:=fun _=>true) pl.isList pl'.isList rfl hu (fun j h=>absurd h (Nat.not_lt_zero _)) _ _ _ _ ⟨.bl false,H,I,rfl,q⟩
 |cons a b=>exact SeqAt.RcNeAt.lists_lengths pl.isList pl'.isList rfl hu _ _ _ _ ⟨.bl true,H,I,rfl,q⟩
theorem vj{k:Nat}(hr:Room k X.A):jOp X (compareOp .Eq) (rEqE X.K false):=⟨zaQ hr.units0⟩
theorem Z7{k:Nat}(hr:Room k X.A):jOp X (compareOp .NotEq) (rEqE X.K true):=⟨zaR hr.units0⟩
end L2
namespace L2
open PySem PySem.Spec PyProof.Rows
variable{xs us:Array Value}{j:Addr}{x f g:Value}{Q:VSP}{p:Pos}
def Sq(k:Bool)(h:Heap)(l:Addr)(xs:Array Value):Prop:=match k with
 |true=>h.IsList l xs
 |false=>h.IsTuple l xs
def SqI(k:Bool)(h:Heap)(j l:Addr)(n:Nat):Prop:=match k with
 |true=>h.IsListIter j l n
 |false=>h.IsTupleIter j l n
def SqN(k:Bool):String:=if k then "list_iterator"else "tuple_iterator"
theorem Sq.at{k:Bool}{l:Addr}(x:Sq k h l xs)(e:∀o,h.get? l=some o->h'.get? l=some o):Sq k h' l xs:=by
 cases k<;>obtain⟨o,ho,r⟩:=x<;>exact⟨o,e _ ho,r⟩
theorem SqI.at{k:Bool}{l:Addr}(x:SqI k h j l n)(e:∀o,h.get? j=some o->h'.get? j=some o):SqI k h' j l n:=by
 cases k<;>obtain⟨o,ho,r⟩:=x<;>exact⟨o,e _ ho,r⟩
theorem SqI.ex{k:Bool}{l:Addr}(x:SqI k h j l n):∃o,h.get? j=some o/\o.cls=.type (SqN k)/\o.data=.fields #[.ref l,.int n 0]:=by
 cases k<;>exact x
theorem SqI.of{k:Bool}{l:Addr}(x:∃o,h.get? j=some o/\o.cls=.type (SqN k)/\o.data=.fields #[.ref l,.int n 0]):SqI k h j l n:=by
 cases k<;>exact x
theorem Wq{l:Addr}(hj:s.heap.IsTupleIter j l n)(hl:s.heap.IsTuple l xs)(hx:xs[n]?=some x)
  (q:∀h',h'.IsTupleIter j l (n+1)->Heap.SameBut j s.heap h'->Q x { s with heap:=h' }):wpAny (model P w) A (uU (.ref j)) Q E s:=by
 have⟨oj,hoj,cj,dj⟩:=hj;have⟨ol,hol,_,m,dl⟩:=hl;unfold uU;refine wpAny_bind (wpAny_callSpecial?_slot hj.typeIs F.slot_tuple_iterator_next (wpAny_call_entry F.slot_tuple_iterator_next hj.typeIs F.entry_tuple_iterator_next ?_ (F.args_tuple_iterator_next_1 (.ref j))));refine wpAny_bind (m:=field (.ref j) 0) (wpAny_field hoj dj (x:=.ref l) rfl ?_);have nn:¬ ((Value.ref l == Value.none)=true):=uw;show wpAny _ _ (ite ((Value.ref l == Value.none)=true) _ _) _ _ _;rw[if_neg nn];refine wpAny_bind (m:=field (.ref j) 1) (wpAny_field hoj dj (x:=.int n 0) rfl ?_);refine wpAny_bind (m:=seqItems? (.ref l)) (wpAny_seqItems hol dl ?_);simp only[u6,hx]
 refine wpAny_bind (wpAny_setField hoj dj (by simp) (wpAny_pure ⟨x,rfl,wpAny_pure (q _ ⟨_,Heap.get?_update_self _ hoj (Obj.isFreed_of_fields (Obj.data_mapFields dj _)),(Obj.cls_mapFields ..).trans cj,?_⟩ (Heap.SameBut.update ..))⟩));rw[Obj.data_mapFields dj];simp[rawInt]
theorem Jy{l:Addr}(hA:A.handled=none)(hj:s.heap.IsTupleIter j l n)(hl:s.heap.IsTuple l xs)(hx:xs[n]?=none)
  (q:∀h' e,Heap.ExtBut j s.heap h'->(∃o,h'.get? e=some o/\o.cls=.type "StopIteration")->E (.ref e) { s with heap:=h' }):wpAny (model P w) A (uU (.ref j)) Q E s:=by
 have⟨oj,hoj,cj,dj⟩:=hj;have⟨ol,hol,_,m,dl⟩:=hl;unfold uU;refine wpAny_bind (wpAny_callSpecial?_slot hj.typeIs F.slot_tuple_iterator_next (wpAny_call_entry F.slot_tuple_iterator_next hj.typeIs F.entry_tuple_iterator_next ?_ (F.args_tuple_iterator_next_1 (.ref j))));refine wpAny_bind (m:=field (.ref j) 0) (wpAny_field hoj dj (x:=.ref l) rfl ?_);have nn:¬ ((Value.ref l == Value.none)=true):=uw;show wpAny _ _ (ite ((Value.ref l == Value.none)=true) _ _) _ _ _;rw[if_neg nn];refine wpAny_bind (m:=field (.ref j) 1) (wpAny_field hoj dj (x:=.int n 0) rfl ?_);refine wpAny_bind (m:=seqItems? (.ref l)) (wpAny_seqItems hol dl ?_);simp only[u6,hx]
 refine wpAny_bind (wpAny_rule (wpAny_bind (wpAny_setField hoj dj (by simp) ?_)));refine wpAny_bind (m:=newExc (.type "StopIteration") []) ?_;unfold newExc newTuple;refine wpAny_bind (wpAny_newObj_type (wpAny_bind (m:=firstArgMember _ _) (wpAny_of_eq (a:=Value.none) (by first|rfl|(simp only[firstArgMember];rfl)) (wpAny_newObj_type ?_ (by size_fits)))) (by size_fits));unfold raiseNew;refine wpAny_bind (wpAny_handled ?_);rw[show A.in1.handled=none from hA];exact wpAny_bind (wpAny_pure (wpAny_throw (q _ _ (((Heap.SameBut.update ..).extBut.push _).push _) ⟨_,uu _ rfl,rfl⟩)))
theorem Jz{k:Bool}{l:Addr}(hj:SqI k s.heap j l n)(hl:Sq k s.heap l xs)(hx:xs[n]?=some x)
  (q:∀h',SqI k h' j l (n+1)->Heap.SameBut j s.heap h'->Q x { s with heap:=h' }):wpAny (model P w) A (uU (.ref j)) Q E s:=by
 cases k with
 |true=>exact wpAny_nextOf_list_item hj hl hx q
 |false=>exact Wq hj hl hx q
theorem zaS{k:Bool}{l:Addr}(hA:A.handled=none)(hj:SqI k s.heap j l n)(hl:Sq k s.heap l xs)(hx:xs[n]?=none)
  (q:∀h' e,Heap.ExtBut j s.heap h'->(∃o,h'.get? e=some o/\o.cls=.type "StopIteration")->E (.ref e) { s with heap:=h' }):wpAny (model P w) A (uU (.ref j)) Q E s:=by
 cases k with
 |true=>exact wpAny_nextOf_list_end hA hj hl hx q
 |false=>exact Jy hA hj hl hx q
theorem YM{k:Bool}{l:Addr}(hl:Sq k s.heap l xs)(q:Q (.ref s.heap.objs.size) { s with heap:=s.heap.push { cls:=.type (SqN k),data:=.fields #[.ref l,.int 0 0] } }):
  wpAny (model P w) A (pyIter (.ref l)) Q E s:=by
 cases k with
 |true=>exact wpAny_pyIter_list hl q
 |false=>exact wpAny_pyIter_tuple hl q
abbrev za(k:Bool)(h:Heap)(l:Addr):Heap:=h.push { cls:=.type (SqN k),data:=.fields #[.ref l,.int 0 0] }
abbrev zb(k m:Bool)(h:Heap)(l r:Addr):Heap:=za m (za k h l) r
abbrev zc(k m:Bool)(h:Heap)(l r:Addr):Heap:=(zb k m h l r).push { cls:=.type "tuple",data:=.seq #[.ref h.objs.size,.ref (za k h l).objs.size] }
abbrev zd(k m:Bool)(h:Heap)(l r:Addr):Heap:=(zc k m h l r).push { cls:=.type "tuple",data:=.seq #[.none,.none] }
abbrev ze(k m:Bool)(h:Heap)(l r:Addr):Heap:=(zd k m h l r).push { cls:=.type "zip",data:=.fields #[.none,.bool false,.bool false,.ref (zb k m h l r).objs.size,.ref (zc k m h l r).objs.size] }
theorem Wr(k m:Bool)(l r:Addr)(xs ys:Array Value):Meets (Builtin.«zip.__new__» ⟨[.type "zip",.ref l,.ref r],[]⟩)
  (fun _ R s=>Sq k s.heap l xs/\Sq m s.heap r ys/\R (.ok (.ret (.ref (zd k m s.heap l r).objs.size))) { s with heap:=ze k m s.heap l r }) :=
 .of_wp fun prog w A R s h=>by
  obtain⟨hp,g,d,tk,os⟩:=s;obtain⟨h1,h2,h⟩:=h;have hs:=sub_zip;have q1:Sq k (Shared.heap ⟨hp,g,d,tk,os⟩) l xs:=h1;have q2:Sq m (Shared.heap ⟨za k hp l,g,d,tk,os⟩) r ys:=h2.at fun o e=>uf _ e
  wp_walk using YM q1,YM q2
  exact⟨_,rfl,h⟩
structure ZN(zs:List (Bool×Nat))(h:Heap)(B n:Nat)(f g:Value):Prop where
 z:h.get? (B+zs.length+2)=some { cls:=.type "zip",data:=.fields #[f,g,.bool false,.ref (B+zs.length),.ref (B+zs.length+1)] }
 ti:h.get? (B+zs.length)=some { cls:=.type "tuple",data:=.seq ((uV zs.length).map fun j=>Value.ref (B+j)).toArray }
 to:∃us:Array Value,us.size=zs.length/\h.get? (B+zs.length+1)=some { cls:=.type "tuple",data:=.seq us }
 it:∀(j:Nat) k l,zs[j]?=some (k,l)->SqI k h (B+j) l n
theorem ZN.at(x:ZN zs h B n f g)(e:∀(b:Nat) o,B<=b->b<=B+zs.length+2->h.get? b=some o->h'.get? b=some o):ZN zs h' B n f g where
 z:=e _ _ (by lia) (by lia) x.z
 ti:=e _ _ (by lia) (by lia) x.ti
 to:=let ⟨us,c,y⟩:=x.to;⟨us,c,e _ _ (by lia) (by lia) y⟩
 it:=fun j k l hj=>(x.it j k l hj).at fun o=>e _ o (by lia) (by have:=(ue.mp hj).1;lia)
def KeptN(B N:Nat)(h h':Heap):Prop:=∀(c:Nat) o,(c < B\/B+N+2 < c)->h.get? c=some o->h'.get? c=some o
def AtN(zs:List (Bool×Nat))(h:Heap)(B n:Nat)(va:Nat->Option Value):Prop:=∀(j:Nat) k l,zs[j]?=some (k,l)->l < B/\∃xs:Array Value,Sq k h l xs/\xs[n]?=va j
structure ZW(zs:List (Bool×Nat))(h0 h:Heap)(B n j:Nat)(f g:Value)(us:Array Value):Prop where
 z:h.get? (B+zs.length+2)=some { cls:=.type "zip",data:=.fields #[f,g,.bool false,.ref (B+zs.length),.ref (B+zs.length+1)] }
 ti:h.get? (B+zs.length)=some { cls:=.type "tuple",data:=.seq ((uV zs.length).map fun j=>Value.ref (B+j)).toArray }
 ts:us.size=zs.length
 to:h.get? (B+zs.length+1)=some { cls:=.type "tuple",data:=.seq us }
 it:∀(i:Nat) k l,zs[i]?=some (k,l)->SqI k h (B+i) l (if i < j then n+1 else n)
 kp:KeptN B zs.length h0 h
 sz:h.objs.size=h0.objs.size
theorem ZW.next{h0 h2:Heap}{j l:Nat}{k:Bool}(W:ZW zs h0 h B n j f g us)(hj:zs[j]?=some (k,l))(i2:SqI k h2 (B+j) l (n+1))(u2:Heap.SameBut (B+j) h h2):ZW zs h0 h2 B n (j+1) f g us:=by
 have jl:=(ue.mp hj).1;have k2:∀(c:Nat) o,c≠B+j->h.get? c=some o->h2.get? c=some o:=fun c o n e=>(u2.2 c n).trans e;refine⟨k2 _ _ (by lia) W.z,k2 _ _ (by lia) W.ti,W.ts,k2 _ _ (by lia) W.to,fun i k' l' hi=>?_,fun c o hc e=>k2 _ _ (by lia) (W.kp c o hc e),by rw[u2.1,W.sz]⟩;by_cases c:i=j
 ·subst c
  rw[hj]at hi;cases hi;rw[if_pos (Uf _)];exact i2
 ·simp only[Nat.lt_succ_iff_lt_or_eq,c,or_false]
  exact(W.it i k' l' hi).at fun o e=>k2 _ o (by lia) e
theorem ZW.done{h0 h9:Heap}{j:Nat}{f' g':Value}(W:ZW zs h0 h B n zs.length f g us)(k9:∀(c:Nat) o,c≠B+zs.length+2->h.get? c=some o->h9.get? c=some o)(z9:h9.get? (B+zs.length+2)=some { cls:=.type "zip",data:=.fields #[f',g',.bool false,.ref (B+zs.length),.ref (B+zs.length+1)] }):ZN zs h9 B (n+1) f' g' :=
 ⟨z9,k9 _ _ (by lia) W.ti,⟨us,W.ts,k9 _ _ (by lia) W.to⟩,fun i k l hi=>by
  have il:=(ue.mp hi).1;have e:=W.it i k l hi;rw[if_pos il]at e;exact e.at fun o e=>k9 _ o (by lia) e⟩
theorem Ws{α:Type}{L rest:List α}{x:α}{j:Nat}(hr:x::rest=L.drop j):∃jl:j < L.length,x=L[j]/\rest=L.drop (j+1):=by
 rcases Nat.lt_or_ge j L.length with c|c
 ·rw[List.drop_eq_getElem_cons c]at hr
  injection hr with e1 e2
  exact⟨c,e1,e2⟩
 ·rw[List.drop_of_length_le c]at hr
  cases hr
section
variable{va:Nat->Option Value}
theorem Wt{o:Obj}{Q:Option Obj->Shared->Prop}(ho:s.heap.get? a=some o)(h:Q (some o) s):wpAny (model P w) A (loadIfAlive a) Q E s:=fun Γ p _=>by
 unfold loadIfAlive;rw[Sem.wp_loadIfAlive,ho];simpa using h
def ZF(B N:Nat)(h:Heap)(f g:Value):Prop:=f=.none\/∃(T:Nat)(c:Bool)(o:Obj),f=rawInt T/\g=.bool c/\h.get? T=some o/\B+N+3 < T
theorem zipN(hA:A.handled=none)(Z:ZN zs s.heap B n f g)(hf:ZF B zs.length s.heap f g)(hz:0 < zs.length)(hs:zs.length<=sizeLine)(hq:AtN zs s.heap B n va)
  (q:∀h' us (T:Nat) (c:Bool),us.size=zs.length->(∀i,i < zs.length->us[i]?=va i)->ZN zs h' B (n+1) (rawInt T) (.bool c)->(T=s.heap.objs.size/\f=.none/\c=false\/f=rawInt T/\B+zs.length+3 < T/\∃o,s.heap.get? T=some o)->h'.get? s.heap.objs.size=some { cls:=.type "tuple",data:=.seq us }->h'.objs.size=s.heap.objs.size+1->KeptN B zs.length s.heap h'->Q (.ref s.heap.objs.size) { s with heap:=h' })
  (qe:∀h' e j,j < zs.length->va j=none->KeptN B zs.length s.heap h'->(∃o,h'.get? e=some o/\o.cls=.type "StopIteration")->E (.ref e) { s with heap:=h' }) :
  wpAny (model P w) A (Builtin.«zip.__next__» ⟨[.ref (B+zs.length+2)],[]⟩) (fun fin s'=>∃v,fin=.done (.ret v)/\Q v s') E s:=by
 obtain⟨us0,hu0,hto⟩:=Z.to;refine wpAny_bind (m:=field (.ref (B+zs.length+2)) 2) (wpAny_field Z.z rfl (x:=.bool false) rfl ?_);refine wpAny_bind (m:=field (.ref (B+zs.length+2)) 3) (wpAny_field Z.z rfl (x:=.ref (B+zs.length)) rfl (wpAny_bind (wpAny_seqItems Z.ti rfl ?_)));have ne:((uV zs.length).map fun j=>Value.ref (B+j)).toArray.isEmpty=false:=by
  rw[Array.isEmpty_eq_false_iff_exists_mem];exact⟨.ref (B+0),by simp;exact hz⟩
 show wpAny _ _ (if((uV zs.length).map fun j=>Value.ref (B+j)).toArray.isEmpty=true then _ else _) _ _ _;rw[ne,if_neg uw];have W0:∀{h1:Heap}{f' g':Value},h1.get? (B+zs.length+2)=some { cls:=.type "zip",data:=.fields #[f',g',.bool false,.ref (B+zs.length),.ref (B+zs.length+1)] }->h1.objs.size=s.heap.objs.size->(∀(c:Nat) o,c≠B+zs.length+2->s.heap.get? c=some o->h1.get? c=some o)->ZW zs s.heap h1 B n 0 f' g' us0:=fun z1 s1 k1=>⟨z1,k1 _ _ (by lia) Z.ti,hu0,k1 _ _ (by lia) hto,fun i k l hi=>by
  rw[if_neg (Nat.not_lt_zero _)];exact(Z.it i k l hi).at fun o=>k1 _ o (by have:=(ue.mp hi).1;lia),fun c o hc=>k1 c o (by lia),s1⟩
 have draw:∀{h:Heap}{j:Nat}{f' g':Value}{us:Array Value}{R:VSP}{E':VSP},ZW zs s.heap h B n j f' g' us->j < zs.length->(∀v h2,va j=some v->ZW zs s.heap h2 B n (j+1) f' g' us->R v { s with heap:=h2 })->(∀h2 e,va j=none->(∀(c:Nat) o,c≠B+j->h.get? c=some o->h2.get? c=some o)->(∃o,h2.get? e=some o/\o.cls=.type "StopIteration")->E' (.ref e) { s with heap:=h2 })->∀A':Around,A'.handled=none->wpAny (model P w) A' (uU (.ref (B+j))) R E' { s with heap:=h }:=by
  intro h j f' g' us R E' W jl r re A' hA';obtain⟨⟨k,l⟩,hkl⟩:∃p,zs[j]?=some p:=⟨_,ui jl⟩;obtain⟨ll,xs,hl,hv⟩:=hq j k l hkl;have hl':Sq k h l xs:=hl.at fun o=>W.kp _ o (.inl ll);have it:=W.it j k l hkl;rw[if_neg (Uo _)]at it;cases e1:va j with
  |none=>exact zaS (s:={ s with heap:=h }) hA' it hl' (hv.trans e1) fun h2 e u2 he=>re h2 e e1 u2 he
  |some v=>exact Jz (s:={ s with heap:=h }) it hl' (hv.trans e1) fun h2 i2 u2=>r v h2 e1 (W.next hkl i2 u2)
 rcases hf with rfl|⟨T,c,ot,rfl,rfl,hT,lT⟩
 ·refine wpAny_bind (m:=Ud (.ref (B+zs.length+2))) ?_
  unfold Ud;refine wpAny_bind (wpAny_field Z.z rfl (x:=.none) rfl (wpAny_pure ?_));rw[if_pos rfl];refine wpAny_bind (wpAny_rule (wpAny_bind (wpAny_field Z.z rfl (x:=.ref (B+zs.length+1)) rfl (wpAny_bind (wpAny_setField_rec Z.z (by simp) fun h1 z1 u1=>wpAny_bind ?_)))));refine wpAny_forIn_list _ (fun rest b s'=>b=(none,())/\∃j us h,rest=((((uV zs.length).map fun j=>Value.ref (B+j)).toArray).toList.zipIdx).drop j/\j<=zs.length/\s'={ s with heap:=h }/\ZW zs s.heap h B n j .ellipsis g us/\∀i,i < j->us[i]?=va i) _ ?step ?done _ _ ⟨rfl,0,us0,h1,rfl,uF _,rfl,W0 z1 u1.1 fun c o n e=>(u1.2 c n).trans e,fun i hi=>absurd hi (Nat.not_lt_zero _)⟩
  case step =>
   rintro x rest b s' ⟨rfl,j,us,h,hr,hj,rfl,W,hva⟩;obtain⟨jl,rfl,rfl⟩:=Ws hr;have jl:j < zs.length:=by simpa using jl
   simp only[List.getElem_zipIdx,List.getElem_map,List.getElem_range,Nat.zero_add]
   refine wpAny_bind (wpAny_onRaise (wpAny_bind (m:=uU (.ref (B+j))) (draw W jl (fun v h2 e1 W2=>wpAny_pure ?_) (fun h2 e e1 k2 he=>?_) _ hA)))
   ·refine wpAny_bind (wpAny_seqItems W2.to rfl (wpAny_bind (wpAny_updateSeq W2.to rfl (wpAny_bind (wpAny_letGo (wpAny_pure ⟨rfl,j+1,us.setIfInBounds j v,_,rfl,jl,rfl,?_,fun i hi=>?_⟩))) (by rw[W.ts];exact hs) (by rw[Array.size_setIfInBounds,W.ts];lia))))
    ·have k3:∀(c:Nat) o,c≠B+zs.length+1->h2.get? c=some o->(h2.update (B+zs.length+1) (Obj.mapSeq (·.setIfInBounds j v))).get? c=some o:=fun c o n e=>(Heap.get?_update_other _ _ (Ne.symm n)).trans e
     exact⟨k3 _ _ (by lia) W2.z,k3 _ _ (by lia) W2.ti,by rw[Array.size_setIfInBounds,W.ts],by(show(h2.update _ _).get? _=_);rw[Heap.get?_update_self _ W2.to rfl];simp[Obj.mapSeq],fun i k' l' hi=>(W2.it i k' l' hi).at fun o e=>k3 _ o (by have:=(ue.mp hi).1;lia) e,fun c o hc e=>k3 _ _ (by lia) (W2.kp c o hc e),by rw[Heap.size_update];exact W2.sz⟩
    ·rw[Array.getElem?_setIfInBounds]
     by_cases c:j=i
     ·rw[if_pos c,if_pos (by rw[W.ts];lia),<- c,e1]
     ·rw[if_neg c]
      exact hva i (by lia)
   ·obtain⟨oe,he,ce⟩:=he
    have z2:=k2 _ _ (show B+zs.length+2≠B+j by lia) W.z;have ne:e≠B+zs.length+2:=fun x=>by
     rw[x,z2]at he;cases he;simp at ce
    exact wpAny_setField_rec z2 (by simp) fun h3 z3 u3=>qe h3 e j jl e1 (fun c o hc x=>(u3.2 c (show(c:Nat)≠B+zs.length+2 by lia)).trans (k2 c o (show(c:Nat)≠B+j by lia) (W.kp c o hc x))) ⟨oe,(u3.2 e ne).trans he,ce⟩
  case done =>
   rintro b s' ⟨rfl,j,us,h,hr,hj,rfl,W,hva⟩;have je:j=zs.length:=by
    have:=congrArg List.length hr
    simp at this
    lia
   subst je;refine wpAny_bind (wpAny_seqItems W.to rfl (wpAny_bind (wpAny_newTuple (hsz:=by simp[W.ts];exact hs) ?_)));have lt5:B+zs.length+2 < h.objs.size:=uA W.z;refine wpAny_bind (m:=Builtin.SmallTypes.ownedTupleHandOut (.ref (B+zs.length+2)) (.ref h.objs.size)) ?_;unfold Builtin.SmallTypes.ownedTupleHandOut;refine wpAny_bind (wpAny_setField_rec (uf { cls:=.type "tuple",data:=.seq us } W.z) (by simp) fun h8 z8 u8=>?_);refine wpAny_setField_rec z8 (by simp) fun h9 z9 u9=>wpAny_pure ⟨.ref h.objs.size,rfl,?_⟩;have k9:∀(c:Nat) o,c≠B+zs.length+2->h.get? c=some o->h9.get? c=some o:=fun c o n e=>(u9.2 c n).trans ((u8.2 c n).trans (uf _ e));have p9:h9.get? h.objs.size=some { cls:=.type "tuple",data:=.seq us }:=(u9.2 _ (Nat.ne_of_gt lt5)).trans ((u8.2 _ (Nat.ne_of_gt lt5)).trans (uu _ rfl));have s9:h9.objs.size=h.objs.size+1:=by rw[u9.1,u8.1,Um]
   have Z9:=W.done (j:=0) k9 z9;rw[W.sz]at p9 s9 Z9 ⊢;exact q h9 us _ false W.ts hva Z9 (.inl ⟨rfl,rfl,rfl⟩) p9 s9 fun c o hc e=>k9 _ _ (by lia) (W.kp c o hc e)
 ·have held:∀{Q':Bool->Shared->Prop},(∀h1,ZW zs s.heap h1 B n 0 (rawInt T) (.bool true) us0->Q' false { s with heap:=h1 })->wpAny (model P w) A (Ud (.ref (B+zs.length+2))) Q' E s:=by
   intro Q' qq;unfold Ud;refine wpAny_bind (wpAny_field Z.z rfl (x:=rawInt T) rfl ?_);refine wpAny_bind (m:=loadIfAlive ((T:Int).toNat)) (Wt (o:=ot) (by rw[u6];exact hT) ?_);rw[if_neg (by simp)];refine wpAny_bind (wpAny_field Z.z rfl (x:=.bool c) rfl ?_);cases c with
   |true =>
    rw[if_neg (by decide)];exact wpAny_pure (qq _ (W0 Z.z rfl fun d o _ e=>e))
   |false =>
    rw[if_pos (by decide)];exact wpAny_bind (wpAny_setField_rec Z.z (by simp) fun h1 z1 u1=>wpAny_pure (qq h1 (W0 z1 u1.1 fun d o n e=>(u1.2 d n).trans e)))
  refine wpAny_bind (m:=Ud (.ref (B+zs.length+2))) (held fun h1 W1=>?_);rw[if_neg uw];refine wpAny_bind ?_;rw[<- Array.forIn_toList];refine wpAny_forIn_list _ (fun rest b s'=>b.1=none/\∃j h,rest=((((uV zs.length).map fun j=>Value.ref (B+j)).toArray).toList).drop j/\j<=zs.length/\s'={ s with heap:=h }/\ZW zs s.heap h B n j (rawInt T) (.bool true) us0/\b.2.size=j/\∀i,i < j->b.2[i]?=va i) _ ?step ?done _ _ ⟨rfl,0,h1,rfl,uF _,rfl,W1,rfl,fun i hi=>absurd hi (Nat.not_lt_zero _)⟩
  case step =>
   rintro x rest ⟨b,items⟩ s' ⟨hb,j,h,hr,hj,rfl,W,bs,hva⟩;obtain⟨jl,rfl,rfl⟩:=Ws hr;have jl:j < zs.length:=by simpa using jl
   simp only[List.getElem_map,List.getElem_range]
   refine wpAny_bind (wpAny_holding (wpAny_bind (m:=uU (.ref (B+j))) (draw W jl (fun v h2 e1 W2=>wpAny_pure ?_) (fun h2 e e1 k2 he=>qe h2 e j jl e1 (fun c o hc x=>k2 c o (show(c:Nat)≠B+j by lia) (W.kp c o hc x)) he) _ hA)));refine wpAny_pure ⟨rfl,j+1,_,rfl,jl,rfl,W2,?_,fun i hi=>?_⟩
   ·show(items.push v).size=_
    rw[Array.size_push,bs]
   ·show(items.push v)[i]?=_
    rw[Array.getElem?_push];by_cases c:i=items.size
    ·rw[if_pos c,c,bs,e1]
    ·rw[if_neg c]
     exact hva i (by have:items.size=j:=bs;lia)
  case done =>
   rintro⟨b,items⟩ s' ⟨hb,j,h,hr,hj,rfl,W,bs,hva⟩;have je:j=zs.length:=by
    have:=congrArg List.length hr
    simp at this
    lia
   subst je;cases hb;have bs:items.size=zs.length:=bs;refine wpAny_bind (wpAny_newTuple (hsz:=by simp[bs];exact hs) (wpAny_pure ⟨.ref h.objs.size,rfl,?_⟩));have p5:(h.push { cls:=.type "tuple",data:=.seq items }).get? h.objs.size=some { cls:=.type "tuple",data:=.seq items }:=uu _ rfl;have s5:(h.push { cls:=.type "tuple",data:=.seq items }).objs.size=h.objs.size+1:=Um ..;have k5:∀(c:Nat) o,h.get? c=some o->(h.push { cls:=.type "tuple",data:=.seq items }).get? c=some o:=fun c o e=>uf _ e;rw[W.sz]at p5 s5 ⊢;exact q _ items T true bs hva (W.done (j:=0) (fun c o _ e=>k5 c o e) (k5 _ _ W.z)) (.inr ⟨rfl,lT,ot,hT⟩) p5 s5 fun c o hc e=>k5 _ _ (W.kp c o hc e)
theorem YN{Q:Option Value->Shared->Prop}(hA:A.handled=none)(Z:ZN zs s.heap B n f g)(hf:ZF B zs.length s.heap f g)(hz:0 < zs.length)(hs:zs.length<=sizeLine)(hq:AtN zs s.heap B n va)
  (q:∀h' us (T:Nat) (c:Bool),us.size=zs.length->(∀i,i < zs.length->us[i]?=va i)->ZN zs h' B (n+1) (rawInt T) (.bool c)->(T=s.heap.objs.size/\f=.none/\c=false\/f=rawInt T/\B+zs.length+3 < T/\∃o,s.heap.get? T=some o)->h'.get? s.heap.objs.size=some { cls:=.type "tuple",data:=.seq us }->h'.objs.size=s.heap.objs.size+1->KeptN B zs.length s.heap h'->Q (some (.ref s.heap.objs.size)) { s with heap:=h' })
  (qe:∀h' j,j < zs.length->va j=none->KeptN B zs.length s.heap h'->Q none { s with heap:=h' }):wpAny (model P w) A (pyNext (.ref (B+zs.length+2))) Q E s:=by
 have ty:s.TypeIs (.ref (B+zs.length+2)) "zip":=⟨_,Z.z,rfl⟩;unfold pyNext;refine wpAny_bind (wpAny_attempt (wpAny_callSpecial?_slot ty F.slot_zip_next (wpAny_call_entry F.slot_zip_next ty F.entry_zip_next ?_ (F.args_zip_next_1 (.ref (B+zs.length+2))))));refine zipN hA Z hf hz hs hq (fun h' us T c h1 h2 h3 h4 h5 h6 h7=>wpAny_pure (q h' us T c h1 h2 h3 h4 h5 h6 h7)) fun h' e j jl hv kz hq_=>?_;obtain⟨o,ho,hc⟩:=hq_;exact wpAny_bind (wpAny_isInstance (T:="StopIteration") (b:=true) ⟨o,ho,hc⟩ isSubtype_stop (wpAny_pure (qe _ j jl hv kz)))
end
abbrev ZS(k m:Bool)(h:Heap)(B l r:Nat)(n:Nat)(f g:Value):Prop:=ZN [(k,l),(m,r)] h B n f g
section
variable{k m:Bool}{l r:Nat}{ys:Array Value}{y:Value}
theorem Wu(hl:Sq k s.heap l xs)(hr:Sq m s.heap r ys)
  (q:∀h',ZS k m h' s.heap.objs.size l r 0 .none (.bool false)->h'.objs.size=s.heap.objs.size+5->(∀c o,s.heap.get? c=some o->h'.get? c=some o)->Q (.ref (s.heap.objs.size+4)) { s with heap:=h' }) :
  wpAny (model P w) A (call (.type "zip") [.ref l,.ref r]) Q E s:=by
 apply callType_new F.called_zip (by decide) (F.typeCall_zip_2 _ _) (F.newCall_zip_2 _ _) (fun obj=>F.args_object_init_3 obj _ _) F.entry_zip_new (Wr k m l r xs ys)
 refine⟨hl,hr,?_⟩;have s1:(za k s.heap l).objs.size=s.heap.objs.size+1:=Um ..;have s2:(zb k m s.heap l r).objs.size=s.heap.objs.size+2:=by rw[Um,s1]
 have s3:(zc k m s.heap l r).objs.size=s.heap.objs.size+3:=by rw[Um,s2]
 have s4:(zd k m s.heap l r).objs.size=s.heap.objs.size+4:=by rw[Um,s3]
 have s5:(ze k m s.heap l r).objs.size=s.heap.objs.size+5:=by rw[Um,s4]
 have up:∀{c o},(zd k m s.heap l r).get? c=some o->(ze k m s.heap l r).get? c=some o:=fun e=>uf _ e;have p5:(ze k m s.heap l r).get? (zd k m s.heap l r).objs.size=some _:=uu _ rfl;have p4:(ze k m s.heap l r).get? (zc k m s.heap l r).objs.size=some _:=up (uu _ rfl);have p3:(ze k m s.heap l r).get? (zb k m s.heap l r).objs.size=some _:=up (uf _ (uu _ rfl));have p2:(ze k m s.heap l r).get? (za k s.heap l).objs.size=some _:=up (uf _ (uf _ (uu _ rfl)));have p1:(ze k m s.heap l r).get? s.heap.objs.size=some _:=up (uf _ (uf _ (uf _ (uu _ rfl))));rw[s4,s2,s3]at p5;rw[s3]at p4;rw[s2,s1]at p3;rw[s1]at p2;show _/\_;rw[s4];exact⟨⟨_,p5,rfl⟩,q _ ⟨p5,p3,⟨_,rfl,p4⟩,fun j k' l' hj=>by
  match j,hj with
  |0,hj=>cases hj;exact .of ⟨_,p1,rfl,rfl⟩
  |1,hj=>cases hj;exact .of ⟨_,p2,rfl,rfl⟩⟩ s5 fun c o e=>up (uf _ (uf _ (uf _ (uf _ e))))⟩
end
def SqK(k:Bool)(K:uc)(H:Hp)(a:Addr)(xs:List V):Prop:=match k with
 |true=>SqL K H a xs
 |false=>SqT K H a xs
theorem Inv.sqk{k:Bool}{xs:List V}(I:Inv X pins σ H s)(h:SqK k X.K H a xs):∃its:List Value,Vals xs its/\Sq k s.heap a its.toArray/\xs.length<=sizeLine/\(a:Nat) < s.heap.objs.size:=by
 cases k with
 |true =>
  obtain⟨its,r,p,z⟩:=I.list h;have⟨o,n,e,_⟩:=p;exact⟨its,r,p.isList,z,uA e⟩
 |false =>
  obtain⟨its,r,p,z⟩:=I.tuple h;have⟨o,e,_⟩:=p;exact⟨its,r,p,z,uA e⟩
theorem Inv.sqk_inj{k:Bool}{xs ys:List V}(I:Inv X pins σ H s)(h:SqK k X.K H a xs)(h':SqK k X.K H a ys):xs=ys:=by
 cases k with
 |true=>exact I.list_inj h h'
 |false=>exact I.tuple_inj h h'
def ItN(K:uc)(zs:List (Bool×Addr)):It :=
 ⟨fun i H=>∃vs:List V,vs.length=zs.length/\∀(j:Nat) k a,zs[j]?=some (k,a)->∃xs,SqK k K H a xs/\xs[i]?=vs[j]?,
   fun i H v H'=>∃T vs,v=.ref T/\H T=none/\H'=upd H T (.tup vs)/\vs.length=zs.length/\∀(j:Nat) k a xs,zs[j]?=some (k,a)->SqK k K H a xs->xs[i]?=vs[j]?,
   fun i H=>(∀(j:Nat) k a,zs[j]?=some (k,a)->∃xs,SqK k K H a xs)/\∃(j:Nat)(k:Bool)(a:Addr)(xs:List V),zs[j]?=some (k,a)/\SqK k K H a xs/\xs.length<=i⟩
def fpN(B N:Nat):List Nat:=(uV (N+3)).map (B + ·)
theorem fpN_iff{N c:Nat}:c∈fpN B N↔B<=c/\c<=B+N+2:=by
 unfold fpN;rw[uD];exact⟨fun⟨i,hi,e⟩=>by have:=List.mem_range.mp hi;lia,fun h=>⟨c-B,List.mem_range.mpr (by lia),by lia⟩⟩
theorem KeptN.of{N:Nat}(z:KeptN B N h h'):∀(b:Nat) o,b∉fpN B N->h.get? b=some o->h'.get? b=some o:=fun b o n e=>z b o (by rw[fpN_iff]at n;lia) e
theorem YO(Z:ZN zs h B n f g):∀b∈fpN B zs.length,∃o,h.get? b=some o/\∀v,o.data≠.cell v:=by
 intro b hb;rw[fpN_iff]at hb;obtain⟨us,_,e2⟩:=Z.to;rcases(show b < B+zs.length\/b=B+zs.length\/b=B+zs.length+1\/b=B+zs.length+2 by lia)with c|rfl|rfl|rfl
 ·obtain⟨o,e,_,d⟩:=(Z.it (b-B) _ _ (ui (by lia))).ex
  exact⟨o,by rw[show b=B+(b-B) by lia];exact e,fun v z=>by rw[d]at z;cases z⟩
 ·exact⟨_,Z.ti,fun v z=>by cases z⟩
 ·exact⟨_,e2,fun v z=>by cases z⟩
 ·exact⟨_,Z.z,fun v z=>by cases z⟩
theorem Wv{α β:Type}{R:α->β->Prop}:∀l:List α,(∀(j:Nat) a,l[j]?=some a->∃b,R a b)->∃m:List β,∀(j:Nat) a,l[j]?=some a->∃b,m[j]?=some b/\R a b
 |[],_=>⟨[],fun j a h=>by simp at h⟩
 |a::l,h=>by
  obtain⟨b,hb⟩:=h 0 a rfl;obtain⟨m,hm⟩:=Wv l fun j a h'=>h (j+1) a (by simpa using h');refine⟨b::m,fun j a' h'=>?_⟩;cases j with
  |zero=>cases h';exact⟨b,rfl,hb⟩
  |succ j=>exact hm j a' (by simpa using h')
theorem YQ:∀{xs:List V}{us:List Value},xs.length=us.length->(∀(j:Nat) x u,xs[j]?=some x->us[j]?=some u->RelV x u)->Vals xs us
 |[],[],_,_=>.nil
 |[],_::_,h,_=>by simp at h
 |_::_,[],h,_=>by simp at h
 |x::xs,u::us,h,g=>.cons (g 0 x u rfl rfl) (YQ (by simpa using h) fun j a b h1 h2=>g (j+1) a b (by simpa using h1) (by simpa using h2))
theorem Ww{K:uc}{zs:List (Bool×Addr)}(hz:0 < zs.length)(hs:zs.length<=sizeLine)(la:∀(j:Nat) k a,zs[j]?=some (k,a)->(a:Nat) < B):
  Turn P w K (.Tuple elts n pos) (ItN K zs) (fpN B zs.length) (B+zs.length+2) (fun i h=>ZN zs h B i .none (.bool false)) where
 mem:=fpN_iff.mpr ⟨by lia,by lia⟩
 obj:=fun i h st=>YO st
 keep:=fun i h h' st kp=>st.at fun c o h1 h2 e=>kp c (fpN_iff.mpr ⟨h1,h2⟩) o e
 item:=by
  intro X hP hw hK hc i pins s σ H E I hf st hg;subst hP hw hK;obtain⟨vs,vl,hv⟩:=hg;obtain⟨m,hm⟩:=Wv (R:=fun p (q:List V×List Value)=>SqK p.1 X.K H p.2 q.1/\Vals q.1 q.2/\Sq p.1 s.heap p.2 q.2.toArray) zs fun j p hj=>by
   obtain⟨xs,h1,_⟩:=hv j p.1 p.2 hj;obtain⟨its,v1,q1,_⟩:=I.sqk h1;exact⟨(xs,its),h1,v1,q1⟩
  have at_:AtN zs s.heap B i fun j=>(m[j]?).bind fun q=>q.2[i]?:=fun j k a hj=>by
   obtain⟨q,e1,_,_,e2⟩:=hm j (k,a) hj;exact⟨la j k a hj,_,e2,by(show _=(m[j]?).bind _);rw[e1];simp⟩
  refine YN (I.ok.hd hc) st (.inl rfl) hz hs at_ (fun h' us T c h1 h2 h3 h4 h5 h6 h7=>⟨_,rfl,?_⟩) fun h' j jl hn _=>?_
  ·rcases h4 with⟨rfl,_,rfl⟩|⟨z,_⟩
   ·have new:ObjOk X.prog X.w (upd H s.heap.objs.size (.tup vs)) h' s.heap.objs.size (.tup vs):=by
     refine⟨by rw[vl];exact hs,us.toList,YQ (vl.trans (h1.symm.trans Array.length_toList.symm)) fun j x u e1 e2=>?_,⟨_,h5,rfl,rfl,_,rfl⟩⟩;have jl:j < zs.length:=by rw[<- vl];exact(ue.mp e1).1
     obtain⟨xs,g1,g2⟩:=hv j _ _ (ui jl);obtain⟨q,f1,f2,f3,_⟩:=hm j _ (ui jl);rw[I.sqk_inj g1 f2,e1]at g2;obtain⟨u',f4,f5⟩:=f3.get g2;rw[Array.getElem?_toList,h2 j jl,f1,Option.bind_some,f4]at e2;cases e2;exact f5
    have I1:Inv X pins σ (upd H s.heap.objs.size (.tup vs)) { s with heap:=h' }:=I.turnsLaid (t':=s.toks) (ch:=fpN B zs.length) h7.of hf (ud _) new;have hn:∀c∈fpN B zs.length,upd H s.heap.objs.size (.tup vs) c=none:=fun c hc=>by
     obtain⟨o,e,_⟩:=YO st c hc;rw[zj (uK (uA e))];exact(hf c hc).1
    refine wpAny_letOwnedTupleGo_zip h3.z fun h8 z2 u2=>?_;have I2:Inv X pins σ (upd H s.heap.objs.size (.tup vs)) { s with heap:=h8 }:=Inv.turns (s:={ s with heap:=h' }) (t':=s.toks) (ch:=fpN B zs.length) I1 (fun c o hc e=>(u2.2 c fun z=>hc (by rw[z];exact fpN_iff.mpr ⟨by lia,by lia⟩)).trans e) fun c hc=>⟨hn c hc,(hf c hc).2⟩;have up:∀(c:Nat) o,c≠B+zs.length+2->h'.get? c=some o->h8.get? c=some o:=fun c o n e=>(u2.2 c n).trans e;refine⟨.ref s.heap.objs.size,_,I2,rfl,⟨_,vs,rfl,I.fresh,rfl,vl,fun j k a xs hj hx=>?_⟩,⟨z2,up _ _ (by lia) h3.ti,let ⟨us,c,e⟩:=h3.to;⟨us,c,up _ _ (by lia) e⟩,fun j k a hj=>(h3.it j k a hj).at fun o e=>up _ _ (by have:=(ue.mp hj).1;lia) e⟩,hn⟩;obtain⟨xs',g1,g2⟩:=hv j k a hj;rw[I.sqk_inj hx g1];exact g2
   ·unfold rawInt at z
    cases z
  ·obtain⟨xs,g1,g2⟩:=hv j _ _ (ui jl)
   obtain⟨q,f1,f2,f3,_⟩:=hm j _ (ui jl);obtain⟨v,hw⟩:∃v,vs[j]?=some v:=⟨_,ui (by lia)⟩;rw[I.sqk_inj g1 f2,hw]at g2;obtain⟨u',f4,f5⟩:=f3.get g2;rw[f1,Option.bind_some,f4]at hn;cases hn
 done:=by
  intro X hP hw hK hc i pins s σ H E I hf st hg;subst hP hw hK;obtain⟨hv,j0,k0,a0,x0,hj0,hx0,hl0⟩:=hg;obtain⟨m,hm⟩:=Wv (R:=fun p (q:List V×List Value)=>SqK p.1 X.K H p.2 q.1/\Vals q.1 q.2/\Sq p.1 s.heap p.2 q.2.toArray) zs fun j p hj=>by
   obtain⟨xs,h1⟩:=hv j p.1 p.2 hj;obtain⟨its,v1,q1,_⟩:=I.sqk h1;exact⟨(xs,its),h1,v1,q1⟩
  have at_:AtN zs s.heap B i fun j=>(m[j]?).bind fun q=>q.2[i]?:=fun j k a hj=>by
   obtain⟨q,e1,_,_,e2⟩:=hm j (k,a) hj;exact⟨la j k a hj,_,e2,by(show _=(m[j]?).bind _);rw[e1];simp⟩
  refine YN (I.ok.hd hc) st (.inl rfl) hz hs at_ (fun h' us T c h1 h2 h3 h4 h5 h6 h7=>?_) fun h' j jl hn kz=>⟨rfl,I.turns (t':=s.toks) (ch:=fpN B zs.length) kz.of hf⟩;have jl:=(ue.mp hj0).1;obtain⟨q,f1,f2,f3,_⟩:=hm j0 _ hj0;have f4:=f3.length;have e:=h2 j0 jl;rw[<- I.sqk_inj hx0 f2]at f4;rw[f1,Option.bind_some,List.getElem?_eq_none (by lia),Array.getElem?_eq_none_iff]at e;lia
 self:=fun _ _ _ _ _ st h=>by
  have ty:Shared.TypeIs _ (.ref (B+zs.length+2)) "zip":=⟨_,st.z,rfl⟩;exact wpAny_pyIter_slot ty F.slot_zip_iter (wpAny_call_entry F.slot_zip_iter ty F.entry_zip_iter (wpAny_pure ⟨_,rfl,"zip",_,ty,F.slot_zip_next.lookup,h⟩) (F.args_zip_iter_1 (.ref (B+zs.length+2))))
abbrev Itz(K:uc)(k m:Bool)(a b:Addr):It:=ItN K [(k,a),(m,b)]
section
variable{K:uc}{k m e:Bool}{xs ys zs:List V}{x y z v:V}
theorem go2(q1:SqK k K H a xs)(q2:SqK m K H b ys)(hx:xs[i]?=some x)(hy:ys[i]?=some y):(Itz K k m a b).go i H:=⟨[x,y],rfl,fun j k' a' hj=>by
 match j,hj with
 |0,hj=>cases hj;exact⟨xs,q1,hx⟩
 |1,hj=>cases hj;exact⟨ys,q2,hy⟩⟩
theorem QO(q1:SqK k K H a xs)(q2:SqK m K H b ys)(h:xs.length<=i):(Itz K k m a b).stop i H:=⟨fun j k' a' hj=>by
 match j,hj with
 |0,hj=>cases hj;exact⟨xs,q1⟩
 |1,hj=>cases hj;exact⟨ys,q2⟩,0,k,a,xs,rfl,q1,h⟩
theorem yld2(h:(Itz K k m a b).yld i H v H')(q1:SqK k K H a xs)(q2:SqK m K H b ys):∃T x y,v=.ref T/\H T=none/\H'=upd H T (.tup [x,y])/\xs[i]?=some x/\ys[i]?=some y:=by
 obtain⟨T,vs,h1,h2,h3,h4,h5⟩:=h;obtain⟨x,vs,rfl⟩:=List.exists_cons_of_length_eq_add_one h4;obtain⟨y,vs,rfl⟩:=List.exists_cons_of_length_eq_add_one (Nat.succ.inj h4);rw[Uc.mp (Nat.succ.inj (Nat.succ.inj h4))]at h3 h5;exact⟨T,x,y,h1,h2,h3,h5 0 k a xs rfl q1,h5 1 m b ys rfl q2⟩
end
def iZip(K:uc)(ta:TA):TI:=fun σ H R=>ta σ H fun vs H1=>∃a b k m xs ys,vs=[.ref a,.ref b]/\SqK k K H1 a xs/\SqK m K H1 b ys/\R (Itz K k m a b) H1
theorem zaT{a b:Expr}{ta:TA}(hg:Gl X "zip")(hm:X.mg "zip"=none)(ha:PA X [a,b] ta)(h1:starEach [a,b] X.env=[(false,eval a X.env),(false,eval b X.env)]:=by rfl)(h2:starEach [b] X.env=[(false,eval b X.env)]:=by rfl):
  PI X (.Tuple elts n tpos) (.Call (.Name "zip" p) [a,b] [] pos) (iZip X.K ta):=by
 intro pins s σ H R I h;refine Call_ (wA I hg hm boot_zip (UA (thn (ha pos pins s σ H _ I h) fun us s1 g=>?_) (by rw[h1,h2]) (by rw[h2];rfl)));obtain⟨vs,H1,I1,r1,a1,b1,k,m,xs,ys,rfl,g1,g2,q⟩:=g;obtain⟨u,u',rfl,e1,e2⟩:=YC r1;cases e1;cases e2;obtain⟨i1,v1,q1,z1,l1⟩:=I1.sqk g1;obtain⟨i2,v2,q2,z2,l2⟩:=I1.sqk g2;refine Wu q1 q2 fun h' Z sz kp=>?_;have tz:=Ww (P:=X.prog) (w:=X.w) (K:=X.K) (elts:=elts) (n:=n) (pos:=tpos) (zs:=[(k,a1),(m,b1)]) (B:=s1.heap.objs.size) (by show 0 < 2;decide) sN2 fun j k' a' hj=>by
  match j,hj with
  |0,hj=>cases hj;exact l1
  |1,hj=>cases hj;exact l2
 refine tz.self X.A 0 { s1 with heap:=h' } _ _ Z ⟨s1.heap.objs.size+4,_,_,_,H1,rfl,I1.kept (t':=s1.toks) kp,tz,Z,fun c hc=>?_,q⟩;have le:s1.heap.objs.size<=c:=(fpN_iff.mp hc).1;exact I1.fpOk le (I1.hok.fresh le)
theorem vk{a b:Expr}{t:TA}(hg:Gl X "zip")(hm:X.mg "zip"=none)(ha:jA X [a,b] t)(h1:zx a=false:=by rfl)(h2:zx b=false:=by rfl):jI X (.Tuple elts n tpos) (.Call (.Name "zip" p) [a,b] [] pos) (iZip X.K t) :=
 ⟨zaT hg hm ha.out (by rw[zK h1,zK h2];rfl) (by rw[zK h2];rfl)⟩
structure Ca(P:Program)(w:World)(K:uc)(mg:Str->Option Value)(base:Heap)(CX:CXT)(k:Nat)(x:Str)(ps:LS)(sp:Sp):Prop where
 ex:∃f fd,FnOk P w K mg base CX k f fd ps sp/\Binds K fd ps []/\uL K (.ref f)=true/\mg x=some (.ref f)
structure Me(P:Program)(w:World)(K:uc)(mg:Str->Option Value)(base:Heap)(CX:CXT)(k:Nat)(C:Addr)(m:Str)(ps:LS)(sp:Sp):Prop where
 ex:∃f fd,FnOk P w K mg base CX k f fd ps sp/\Binds K fd ps []/\Meth K C m f
structure Ma(P:Program)(w:World)(K:uc)(mg:Str->Option Value)(base:Heap)(CX:CXT)(k:Nat)(x:Str)(C:Addr)(ps:LS)(sp:Sp):Prop where
 ex:∃f fd,Mk K C f/\FnOk P w K mg base CX k f fd ps sp/\Binds K fd ps []/\mg x=some (.ref C)
section
variable{k:Nat}{E:XK}{x n f:Str}{np epos hpos:Pos}{a:Expr}{as:List Expr}{tv to:TE}{t:TA}
theorem zbQ(F:Ca X.prog X.w X.K X.mg X.base CX k x ps sp)(hr:Room k X.A)(hg:Gl X x)(hx:yC CX X E)(ha:jA X (e::es) t)(hdb:(x == ("__debug__":Str))=false:=by decide)(h1:zx e=false:=by rfl)(h2:es.all (fun e=>!zx e)=true:=by rfl):
  jE X (.Call (.Name x p) (e::es) [] pos) (Za sp [] E t):=let ⟨_,_,G,b,kp,mg⟩:=F.ex;zbN G hr hg mg kp b .nil hx ha hdb h1 h2
theorem Z8{pl:Sem Bool}(he:jE X o ta)(c:Cls X.K C)(F:Me X.prog X.w X.K X.mg X.base CX k C m ps sp)(hr:Room k X.A)(hx:yC CX X E)
  (ht:eval (.Call (.Attribute o m apos) [] [] pos) X.env=(do
   let ov <- eval o X.env
   standAt apos.atName
   let (f,first) <- holding [ov] (getMethod ov m pl)
   callWith pos f first (backTo pos (starEach [] X.env)) (backToKw pos (keywordEach [] X.env))):=by rfl) :
  jE X (.Call (.Attribute o m apos) [] [] pos) (QG C m sp [] E ta tNil):=let ⟨_,_,G,b,mt⟩:=F.ex;⟨X4 he.out c mt G hr b .nil hx ht⟩
theorem Wx(F:Ma X.prog X.w X.K X.mg X.base CX k x C ps sp)(hr:Room (k+1) X.A)(hg:Gl X x)(hx:yC CX X E)(ha:jA X (e::es) t)(hdb:(x == ("__debug__":Str))=false:=by decide)(h1:zx e=false:=by rfl)(h2:es.all (fun e=>!zx e)=true:=by rfl):
  jE X (.Call (.Name x p) (e::es) [] pos) (QH C sp [] E t):=let ⟨_,_,M,G,b,mg⟩:=F.ex;⟨Jj M G hr hg mg b .nil hx ha.out hdb (zK h1) (yk h2)⟩
theorem yM(he:jE X e ta)(hb:attributeBase e f X.env (eval e X.env)=eval e X.env:=by rfl):jE X (.Attribute e f pos) (tFld X.K ta f):=⟨zay he.out hb⟩
theorem wF(ha:jE X o ta)(hv:jE X value tv)(hs:swapsWith value (some (.Attribute o f pos')) pos.line X.env=pure false:=by rfl):jS X (.Assign [.Attribute o f pos'] value pos) (sFld X.K ta tv f):=⟨zaz ha.out hv.out hs⟩
end
end L2
namespace L2
open PySem
variable{p:List Value->Prop}
section
variable{p q:Pos}
theorem jA1(h1:jE X e1 t1)(s1:zx e1=false:=by rfl):jA X [e1] (zQ t1 tNil):=(ja_c h1 zE s1)
theorem jA2(h1:jE X e1 t1)(h2:jE X e2 t2)(s1:zx e1=false:=by rfl)(s2:zx e2=false:=by rfl):jA X [e1,e2] (zQ t1 (zQ t2 tNil)):=(ja_c h1 (ja_c h2 zE s2) s1)
theorem jA3(h1:jE X e1 t1)(h2:jE X e2 t2)(h3:jE X e3 t3)(s1:zx e1=false:=by rfl)(s2:zx e2=false:=by rfl)(s3:zx e3=false:=by rfl):jA X [e1,e2,e3] (zQ t1 (zQ t2 (zQ t3 tNil))):=(ja_c h1 (ja_c h2 (ja_c h3 zE s3) s2) s1)
theorem jA4(h1:jE X e1 t1)(h2:jE X e2 t2)(h3:jE X e3 t3)(h4:jE X e4 t4)(s1:zx e1=false:=by rfl)(s2:zx e2=false:=by rfl)(s3:zx e3=false:=by rfl)(s4:zx e4=false:=by rfl):jA X [e1,e2,e3,e4] (zQ t1 (zQ t2 (zQ t3 (zQ t4 tNil)))):=(ja_c h1 (ja_c h2 (ja_c h3 (ja_c h4 zE s4) s3) s2) s1)
theorem jA5{t5:TE}(h1:jE X e1 t1)(h2:jE X e2 t2)(h3:jE X e3 t3)(h4:jE X e4 t4)(h5:jE X e5 t5)(s1:zx e1=false:=by rfl)(s2:zx e2=false:=by rfl)(s3:zx e3=false:=by rfl)(s4:zx e4=false:=by rfl)(s5:zx e5=false:=by rfl):jA X [e1,e2,e3,e4,e5] (zQ t1 (zQ t2 (zQ t3 (zQ t4 (zQ t5 tNil))))):=(ja_c h1 (ja_c h2 (ja_c h3 (ja_c h4 (ja_c h5 zE s5) s4) s3) s2) s1)
theorem jA6{t5:TE}{e6:Expr}{t6:TE}(h1:jE X e1 t1)(h2:jE X e2 t2)(h3:jE X e3 t3)(h4:jE X e4 t4)(h5:jE X e5 t5)(h6:jE X e6 t6)(s1:zx e1=false:=by rfl)(s2:zx e2=false:=by rfl)(s3:zx e3=false:=by rfl)(s4:zx e4=false:=by rfl)(s5:zx e5=false:=by rfl)(s6:zx e6=false:=by rfl):jA X [e1,e2,e3,e4,e5,e6] (zQ t1 (zQ t2 (zQ t3 (zQ t4 (zQ t5 (zQ t6 tNil)))))):=(ja_c h1 (ja_c h2 (ja_c h3 (ja_c h4 (ja_c h5 (ja_c h6 zE s6) s5) s4) s3) s2) s1)
theorem jA7{t5:TE}{e6:Expr}{t6:TE}{e7:Expr}{t7:TE}(h1:jE X e1 t1)(h2:jE X e2 t2)(h3:jE X e3 t3)(h4:jE X e4 t4)(h5:jE X e5 t5)(h6:jE X e6 t6)(h7:jE X e7 t7)(s1:zx e1=false:=by rfl)(s2:zx e2=false:=by rfl)(s3:zx e3=false:=by rfl)(s4:zx e4=false:=by rfl)(s5:zx e5=false:=by rfl)(s6:zx e6=false:=by rfl)(s7:zx e7=false:=by rfl):jA X [e1,e2,e3,e4,e5,e6,e7] (zQ t1 (zQ t2 (zQ t3 (zQ t4 (zQ t5 (zQ t6 (zQ t7 tNil))))))):=(ja_c h1 (ja_c h2 (ja_c h3 (ja_c h4 (ja_c h5 (ja_c h6 (ja_c h7 zE s7) s6) s5) s4) s3) s2) s1)
theorem cA{k:Nat}{t:TA}(F:Ca X.prog X.w X.K X.mg X.base CX0 k x ps sp)(hr:Room k X.A)(ha:jA X (e::es) t)(hg:Gl X x:=by rfl)(hdb:(x == ("__debug__":Str))=false:=by decide)(h1:zx e=false:=by rfl)(h2:es.all (fun e=>!zx e)=true:=by rfl):jE X (.Call (.Name x p) (e::es) [] pos) (Za sp [] E0 t):=zbQ F hr hg xR ha hdb h1 h2
theorem xX{r:R2}{a b:Expr}(hr:jIx X r)(ha:jE X a ta)(hb:jE X b tb)(hs:jd b:=by exact fun _ _=>rfl):jE X (.Subscript a b pos) (tOp r ta tb):=yg hr ha hb hs
theorem xT(i:Nat){n j}(hN:X.N[i]?=some x:=by rfl)(hv:Vis X.env.scope x:=by first|exact Or.inl rfl|exact Or.inr (Or.inl rfl)|exact Or.inr (Or.inr rfl))(hd:(x == ("__debug__":Str))=false:=by decide)(hcd:(x == ("__classdict__":Str))=false:=by decide):jE X (.Subscript (.Name x p) (.Constant (.int n) j q) pos) (tOp (rIxT X.K) (tVar i) (tC (.int n))):=yg yp (jv i hN hv hd hcd) zn (fun _ _=>rfl)
theorem xL(i:Nat){n j}(hN:X.N[i]?=some x:=by rfl)(hv:Vis X.env.scope x:=by first|exact Or.inl rfl|exact Or.inr (Or.inl rfl)|exact Or.inr (Or.inr rfl))(hd:(x == ("__debug__":Str))=false:=by decide)(hcd:(x == ("__classdict__":Str))=false:=by decide):jE X (.Subscript (.Name x p) (.Constant (.int n) j q) pos) (tOp (rIxL X.K) (tVar i) (tC (.int n))):=yg z7 (jv i hN hv hd hcd) zn (fun _ _=>rfl)
theorem sE(i:Nat)(hN:X.N.Nodup)(he:jE X e te)(hi:X.N[i]?=some x:=by rfl)(hx:Loc X.env.scope x:=by first|exact Or.inl rfl|exact Or.inr rfl)(hs:swapsWith e (some (.Name x q)) pos.line X.env=pure false:=by rfl)(hf:X.fn x=true\/X.env.scope.names.lookup x=some .local:=by first|exact .inl rfl|exact .inr rfl|assumption):jS X (.Assign [.Name x q] e pos) (tAsg te (vP i)):=zaO hN hi hx he hs hf
theorem gN(i:Nat)(hN:X.N.Nodup)(hi:X.N[i]?=some x:=by rfl)(hx:Loc X.env.scope x:=by first|exact Or.inl rfl|exact Or.inr rfl)(hf:X.fn x=true\/X.env.scope.names.lookup x=some .local:=by first|exact .inl rfl|exact .inr rfl|assumption):jG X (.Name x pos) (vP i):=Jv hN hi hx hf
theorem tN{r:R2}{a c:Expr}(ho:jOp X (compareOp op) r)(ha:jE X a ta)(hb:jE X c tb)(hm:behindInMarks op c=false:=by exact wB _):jT X (.Compare a [op] [c] pos) (X1 (tOp r ta tb)):=xa ho ha hb hm
theorem jL(hm:X.mg "len"=none)(h:jE X e te)(hg:Gl X "len":=by rfl)(h1:zx e=false:=by rfl):jE X (.Call (.Name "len" p) [e] [] pos) (tCB (fun xs H Q=>∃p ys,xs=[.ref p]/\(SqL X.K H p ys\/SqT X.K H p ys)/\Q (.int ys.length) H) (zQ te tNil)):=ym vi hg hm PySem.boot_len (ja_c h zE h1) (by decide) (by decide) h1 rfl
theorem aB{p q:Prop}[Decidable p](h:¬ p:=by decide):p->q:=fun c=>absurd c h
end
theorem zJ:sizeLine=16777216:=by decide
def FnIn(K:uc)(x qual:Str)(st:Stmt)(f:Addr):Prop:=∃(oc:Value)(od:Option Addr)(kV doc pm:Value)(an:Option Addr)(cdv ct:Value)(osl:Array (Option Value)),K.lookup f=some ⟨oc,od,.func (uX x qual (z6 st) (zH st) (zp st) .none kV doc pm an cdv ct),osl⟩/\Uu K cdv qual=true/\uL K (.ref f)=true
theorem FnIn.fn{K:uc}(h:FnIn K x qual st f):∃fd,Fun K x qual st f fd/\uL K (.ref f)=true:=by
 obtain⟨_,_,_,_,_,_,_,_,_,l,c,k⟩:=h;exact⟨_,Wh l c k,k⟩
def DfIn(K:uc)(x:Str)(st:Stmt):Prop:=∃f,Ub K mainGlobals x=some (some (.ref f))/\FnIn K x x st f
def MeIn(K:uc)(C:Addr)(x qual:Str)(st:Stmt):Prop:=∃f,uQ K (.ref C) x=some (some (.ref f))/\PySem.W.isFn K (.ref f)=true/\FnIn K x qual st f
theorem MeIn.me{K:uc}{k:Nat}(h:MeIn K C x qual st)(hb:∀(kV doc pm:Value)(an:Option Addr)(cdv ct:Value)(us:List Value),us.length=ps.length->bindArgs (uX x qual (z6 st) (zH st) (zp st) .none kV doc pm an cdv ct) ⟨us,[]⟩=pure (ps.zip us))
  (ok:∀f fd,Fun K x qual st f fd->FnOk P w K mg base CX k f fd ps sp):Me P w K mg base CX k C x ps sp:=by
 obtain⟨f,a,n,g⟩:=h;obtain⟨fd,F,kp⟩:=g.fn;exact⟨f,fd,ok f fd F,F.binds hb,a,n,kp⟩
theorem MeIn.ma{K:uc}{k:Nat}(h:MeIn K C "__init__" qual st)(hb:∀(kV doc pm:Value)(an:Option Addr)(cdv ct:Value)(us:List Value),us.length=ps.length->bindArgs (uX "__init__" qual (z6 st) (zH st) (zp st) .none kV doc pm an cdv ct) ⟨us,[]⟩=pure (ps.zip us))
  (mk:PySem.W.makesIn K C=true) (kp:uL K (.ref C)=true) (hm:mg x=some (.ref C)) (ok:∀f fd,Fun K "__init__" qual st f fd->FnOk P w K mg base CX k f fd ps sp):Ma P w K mg base CX k x C ps sp:=by
 obtain⟨f,a,n,g⟩:=h;obtain⟨fd,F,_⟩:=g.fn;exact⟨f,fd,⟨mk,a,n,kp⟩,ok f fd F,F.binds hb,hm⟩
theorem DfIn.ca{K:uc}{k:Nat}(X:K.In h)(G:h.Ns mainGlobals mg)(d:DfIn K x st)(hb:∀(kV doc pm:Value)(an:Option Addr)(cdv ct:Value)(us:List Value),us.length=ps.length->bindArgs (uX x x (z6 st) (zH st) (zp st) .none kV doc pm an cdv ct) ⟨us,[]⟩=pure (ps.zip us))
  (ok:∀f fd,Fun K x x st f fd->FnOk P w K mg base CX k f fd ps sp):Ca P w K mg base CX k x ps sp:=by
 obtain⟨f,a,g⟩:=d;obtain⟨fd,F,kp⟩:=g.fn;exact⟨f,fd,ok f fd F,F.binds hb,kp,PySem.W.mg_of X G a⟩
theorem DfIn.mk{K:uc}{kV:Value}{an:Option Addr}(a:Ub K mainGlobals x=some (some (.ref f)))(l:K.lookup f=some ⟨oc,od,.func (uX x x (z6 st) (zH st) (zp st) .none kV doc pm an cdv ct),osl⟩)(c:Uu K cdv x=true)(k:uL K (.ref f)=true):DfIn K x st:=⟨f,a,oc,od,kV,doc,pm,an,cdv,ct,osl,l,c,k⟩
theorem MeIn.mk{K:uc}{kV:Value}{an:Option Addr}(a:uQ K (.ref C) x=some (some (.ref f)))(l:K.lookup f=some ⟨oc,od,.func (uX x qual (z6 st) (zH st) (zp st) .none kV doc pm an cdv ct),osl⟩)(c:Uu K cdv qual=true)(k:uL K (.ref f)=true)(n:PySem.W.isFn K (.ref f)=true):MeIn K C x qual st:=⟨f,a,n,oc,od,kV,doc,pm,an,cdv,ct,osl,l,c,k⟩
structure OwnIn(K:uc)(x:Str)(C:Addr):Prop where
 n:Ub K mainGlobals x=some (some (.ref C))
 pg:UP K C Str.empty=true
 hd:PySem.W.hasDictIn K C=true
 po:PySem.W.plainOver K C=true
 sa:uQ K (.ref C) "__setattr__"=some (some (.builtin "object.__setattr__"))
 mks:PySem.W.makesIn K C=true
 kp:uL K (.ref C)=true
theorem OwnIn.cls{K:uc}(o:OwnIn K x C):Cls K C:=⟨o.pg,o.hd,o.po,o.sa⟩
theorem usS(h:∀a us,us.length=n->p (a::us)):∀us:List Value,us.length=n+1->p us:=fun us=>by
 cases us with
 |nil=>exact fun e=>by cases e
 |cons a r=>exact fun e=>h a r (Nat.succ.inj e)
theorem us1(h:∀a,p [a]):∀us:List Value,us.length=1->p us:=usS fun a us e=>by rw[Uc.mp e];exact h a
theorem us2(h:∀a b,p [a,b]):∀us:List Value,us.length=2->p us:=usS fun a=>us1 (p:=fun l=>p (a::l)) (h a)
theorem us3(h:∀a b c,p [a,b,c]):∀us:List Value,us.length=3->p us:=usS fun a=>us2 (p:=fun l=>p (a::l)) (h a)
theorem us4(h:∀a b c d,p [a,b,c,d]):∀us:List Value,us.length=4->p us:=usS fun a=>us3 (p:=fun l=>p (a::l)) (h a)
theorem us5(h:∀a b c d e,p [a,b,c,d,e]):∀us:List Value,us.length=5->p us:=usS fun a=>us4 (p:=fun l=>p (a::l)) (h a)
theorem us6(h:∀a b c d e f,p [a,b,c,d,e,f]):∀us:List Value,us.length=6->p us:=usS fun a=>us5 (p:=fun l=>p (a::l)) (h a)
theorem us7(h:∀a b c d e f g,p [a,b,c,d,e,f,g]):∀us:List Value,us.length=7->p us:=usS fun a=>us6 (p:=fun l=>p (a::l)) (h a)
theorem zf{α:Type}{a b:α->Prop}{w:α}(h:a w)(k:b w):∃x,a x/\b x:=⟨w,h,k⟩
end L2
namespace L2
theorem zv{α β:Type}{a:α->Prop}{b:β->Prop}{c:α->β->Prop}{w:α}{v:β}(h:a w)(i:b v)(k:c w v):∃x y,a x/\b y/\c x y:=⟨w,v,h,i,k⟩
end L2
namespace L2
open PySem
section
variable{a b c d e u:TS}{D:Ends}{σ:List (Option V)}
theorem cut1(h:∀v:TS,u=v->(tSeq a v:TS) D σ H):(tSeq a u:TS) D σ H:=h u rfl
theorem cut2(h:∀v:TS,u=v->(tSeq a (tSeq b v):TS) D σ H):(tSeq a (tSeq b u):TS) D σ H:=h u rfl
theorem cut3(h:∀v:TS,u=v->(tSeq a (tSeq b (tSeq c v)):TS) D σ H):(tSeq a (tSeq b (tSeq c u)):TS) D σ H:=h u rfl
theorem cut4(h:∀v:TS,u=v->(tSeq a (tSeq b (tSeq c (tSeq d v))):TS) D σ H):(tSeq a (tSeq b (tSeq c (tSeq d u))):TS) D σ H:=h u rfl
theorem cut5(h:∀v:TS,u=v->(tSeq a (tSeq b (tSeq c (tSeq d (tSeq e v)))):TS) D σ H):(tSeq a (tSeq b (tSeq c (tSeq d (tSeq e u)))):TS) D σ H:=h u rfl
theorem ixT{K:uc}{Q:VK}{i:Int}{v:V}(h:H p=some (.tup xs))(a:atI xs i=some v)(q:Q v H):tC (.int i) σ H fun y H2=>rIxT K (.ref p) y H2 Q:=⟨p,xs,i,v,rfl,rfl,SqT.of h,a,q⟩
theorem ixL{K:uc}{Q:VK}{i:Int}{v:V}(h:H p=some (.lst xs))(a:atI xs i=some v)(q:Q v H):tC (.int i) σ H fun y H2=>rIxL K (.ref p) y H2 Q:=⟨p,xs,i,v,rfl,rfl,SqL.of h,a,q⟩
theorem nxtC{E:Ends}(h:E.nx σ H):ve E σ H:=h
end
end L2
namespace GN
open PySem L2
def top(i:Nat):Stmt:=PySem.Challenge.pw_reusewise_k61_the_same_code.main.body.getD i (.Pass ⟨0,0,0,0⟩)
abbrev Wz:Stmt:=top 1
abbrev yS:Stmt:=top 2
abbrev xn:Stmt:=top 3
abbrev wG:Stmt:=top 4
abbrev Ya:Stmt:=wS (top 5) 0
abbrev jn:Stmt:=top 6
abbrev WA:Stmt:=top 7
abbrev Yb:Stmt:=top 9
abbrev WB:Stmt:=top 11
abbrev xZ:Stmt:=top 12
abbrev Yc:Stmt:=wS (top 13) 0
abbrev vm:Stmt:=wS (top 13) 1
abbrev jo:Stmt:=wS (top 13) 2
abbrev wU:Stmt:=top 14
abbrev x9:Stmt:=top 15
abbrev jp:Stmt:=top 16
abbrev yN:Stmt:=top 17
abbrev jq:Stmt:=top 18
abbrev WC:Stmt:=top 20
abbrev sNm:Stmt:=top 21
abbrev WD:Stmt:=top 22
abbrev Yd:Stmt:=top 23
abbrev WE:Stmt:=top 24
abbrev WF:Stmt:=top 25
abbrev Ye:Stmt:=top 26
abbrev sEnd:Stmt:=top 27
abbrev WG:Stmt:=top 28
abbrev Yf:Stmt:=top 29
abbrev jr:Stmt:=top 30
abbrev WH:Stmt:=top 31
abbrev Yg:Stmt:=top 32
abbrev Yh:Stmt:=top 33
abbrev sLaw:Stmt:=top 42
abbrev YR:Stmt:=top 34
abbrev js:Stmt:=top 35
abbrev Yi:Stmt:=top 36
abbrev jt:Stmt:=top 37
abbrev sMay:Stmt:=top 38
abbrev ju:Stmt:=top 39
abbrev WJ:Stmt:=top 40
abbrev Yj:Stmt:=top 41
end GN
namespace L2
open PySem PySem.Spec PyProof.Rows
variable{o:HO}
def BMn(mg:Str->Option Value)(h:Heap):Prop:=∃bm ob,mg "__builtins__"=some (.ref bm)/\bm≠builtinsNs/\h.get? bm=some ob/\ob.cls=.type "module"/\ob.dict=some builtinsNs/\ob.data=.plain
theorem BMn.at{P:Addr}{ps:Array Value}(B:BMn mg h)(g:h.Ns mainGlobals mg)(hP:h.get? P=some { cls:=.none,data:=.fields ps }):h.BuiltinsAt mg P/\mainGlobals≠P:=by
 obtain⟨bm,ob,b1,b2,b3,b4,b5,b6⟩:=B;refine⟨⟨bm,ob,b1,b2,fun q=>?_,fun q=>?_,b3,b4,b5,b6⟩,fun q=>?_⟩
 ·obtain⟨o,es,ep,e,hd,_⟩:=g
  rw[q,e]at b3;cases b3;rw[hd]at b6;cases b6
 ·rw[q,hP]at b3;cases b3;cases b4
 ·obtain⟨o,es,ep,e,hd,_⟩:=g
  rw[q,hP]at e;cases e;cases hd
theorem BMn.keeps(B:BMn mg h)(k:∀b o,h.get? b=some o->h'.get? b=some o):BMn mg h' :=
 let ⟨bm,ob,b1,b2,b3,r⟩:=B;⟨bm,ob,b1,b2,k _ _ b3,r⟩
def FunO(f:Addr)(fd:FuncData):HO:=.ext fun h=>h.get? f=some { cls:=.type "function",data:=.func fd }
def CodO(c:Addr)(qual:Str):HO:=.ext fun h=>h.CodeRec (.ref c) qual
theorem WK(e:h.get? f=some { cls:=.type "function",data:=.func fd }):ObjOk P w H h f (FunO f fd) :=
 ⟨e,⟨_,e⟩,fun _ _ p k=>k _ p⟩
theorem zaU(e:h.CodeRec (.ref c) qual):ObjOk P w H h c (CodO c qual) :=
 ⟨e,(let ⟨_,oc,_,_,q,e,_⟩:=e;by cases q;exact⟨oc,e⟩),fun _ _ ⟨d,oc,vs,t,q,e,r⟩ k=>by cases q;exact⟨c,oc,vs,t,rfl,k _ e,r⟩⟩
def Itv(K:uc)(a:Addr)(n:Nat):It :=
 ⟨fun i H=>i < n/\∃xs x,SqL K H a xs/\xs[n-1-i]?=some x,fun i H x H'=>H'=H/\∀xs,SqL K H a xs->xs[n-1-i]?=some x,fun i _=>n<=i⟩
theorem WL{K:uc}(a it:Addr)(n:Nat):Turn P w K tg (Itv K a n) [it] it (fun i h=>i<=n/\h.IsRevIter it a ((n:Int)-1-(i:Nat))) where
 mem:=by simp
 obj:=fun i h st b hb=>by
  have e:b=it:=by simpa using hb
  subst e;obtain⟨_,o,e,c,d⟩:=st;exact⟨o,e,fun v z=>by rw[d]at z;cases z⟩
 keep:=fun i h h' st k=>⟨st.1,st.2.at fun o e=>k it (by simp) o e⟩
 item:=by
  intro X hP hw hK hc i pins s σ H E I hf st hg;subst hP hw hK;obtain⟨hi,xs,x,hq,hx⟩:=hg;obtain⟨its,rv,p,hz⟩:=I.list hq;obtain⟨u,hu,ru⟩:=rv.get hx;obtain⟨f0,f1,f2,f3,f4,f5⟩:=hf it (by simp);obtain⟨_,st2⟩:=st;have e1:(n:Int)-1-(i:Nat)=((n-1-i:Nat):Int):=by lia
  rw[e1]at st2;refine wpAny_pyNext_rev_item st2 p.isList (x:=u) (by simpa using hu) fun h' st' sb=>?_;have I1:Inv X pins σ H { s with heap:=h' }:=I.turned (t':=s.toks) (fun b o hb e=>(sb.2 b hb).trans e) f0 f1 f3 f4 f5;obtain⟨o,e,c,d⟩:=id st';refine⟨u,rfl,j9 (s:={ s with heap:=h' }) e c d (by decide) ⟨x,H,I1,ru,⟨rfl,fun ys hy=>by rw[I.list_inj hy hq];exact hx⟩,⟨hi,?_⟩,fun b hb=>(hf b hb).1⟩⟩;have e2:(n:Int)-1-((i+1:Nat):Int)=((n-1-i:Nat):Int)-1:=by lia
  rw[e2];exact st'
 done:=by
  intro X hP hw hK hc i pins s σ H E I hf st hg;subst hP hw hK;obtain⟨f0,f1,f2,f3,f4,f5⟩:=hf it (by simp);obtain⟨h1,st2⟩:=st;have h2:n<=i:=hg;have e1:(n:Int)-1-(i:Nat)=-1:=by lia
  rw[e1]at st2;exact wpAny_pyNext_rev_end (I.ok.hd hc) st2 fun h' eb=>⟨rfl,I.turned (t':=s.toks) (fun b o hb e=>eb b o hb e) f0 f1 f3 f4 f5⟩
 self:=fun _ _ _ _ _ st h=>wpAny_pyIter_revIter st.2 h
def iRev(K:uc)(ta:TA):TI:=fun σ H R=>ta σ H fun vs H1=>∃a xs,vs=[.ref a]/\SqL K H1 a xs/\R (Itv K a xs.length) H1
theorem zaV{a:Expr}{ta:TA}{p:Pos}(hg:Gl X "reversed")(hm:X.mg "reversed"=none)(ha:PA X [a] ta)(hs:starEach [a] X.env=[(false,eval a X.env)]:=by rfl):PI X tg (.Call (.Name "reversed" p) [a] [] pos) (iRev X.K ta):=by
 intro pins s σ H R I h;refine Call_ (wA I hg hm boot_reversed (UA (thn (ha pos pins s σ H _ I h) fun us s1 ⟨vs,H1,I1,r1,q1⟩=>?_) hs rfl));obtain⟨l,xs,e,hq,q⟩:=q1;subst e;obtain⟨u,rfl,rx⟩:=xG r1;cases rx;obtain⟨its,rv,pl,hz⟩:=I1.list hq;have hl:=rv.length;refine call_reversed_list pl.isList ?_;have hr:(s1.heap.push (revObj l ((its.toArray.size:Int)-1))).IsRevIter s1.heap.objs.size l ((its.toArray.size:Int)-1):=⟨_,uu _ rfl,rfl,rfl⟩;refine wpAny_pyIter_revIter (s:={ s1 with heap:=s1.heap.push (revObj l ((its.toArray.size:Int)-1)) }) hr ?_;refine⟨s1.heap.objs.size,[s1.heap.objs.size],_,_,H1,rfl,I1.kept (t':=s1.toks) fun b o e=>uf _ e,WL l _ xs.length,⟨uF _,?_⟩,fun b hb=>?_,q⟩
 ·have e:(xs.length:Int)-1-((0:Nat):Int)=(its.toArray.size:Int)-1:=by simp[hl]
  rw[e];exact hr
 have e:b=s1.heap.objs.size:=by simpa using hb
 subst e;exact I1.fpOk (ud _) (I1.hok.fresh (ud _))
theorem jw{a:Expr}{t:TA}{p:Pos}(hg:Gl X "reversed")(hm:X.mg "reversed"=none)(ha:jA X [a] t)(h:zx a=false:=by rfl):jI X tg (.Call (.Name "reversed" p) [a] [] pos) (iRev X.K t):=⟨zaV hg hm ha.out (zK h)⟩
theorem wV{K:uc}{g:TG}{tb:TS}{D:Ends}(Pv:Nat->St->Hp->Prop)(h0:Pv 0 σ H)(hl:∀i σ H,i<=xs.length->Pv i σ H->SqL K H a xs)
  (hs:∀i x σ H,xs.reverse[i]?=some x->Pv i σ H->g x σ H fun σ2 H2=>tb { D with nx:=Pv (i+1),ct:=Pv (i+1),bk:=D.nx } σ2 H2) (hd:∀σ H,Pv xs.length σ H->D.nx σ H) :
  ∃W:Nat->Nat->St->Hp->Prop,(∃m,W 0 m σ H)/\∀i m σ H,W i m σ H ->
   ((Itv K a xs.length).stop i H/\D.nx σ H)\/((Itv K a xs.length).go i H/\∃N:St->Hp->Prop,(∀σ' H',N σ' H'->∃m',m' < m/\W (i+1) m' σ' H')/\∀x H',(Itv K a xs.length).yld i H x H'->g x σ H' fun σ2 H2=>tb { D with nx:=N,ct:=N,bk:=D.nx } σ2 H2):=by
 refine⟨fun i m σ H=>m=xs.length-i/\i<=xs.length/\Pv i σ H,⟨xs.length,by simp,uF _,h0⟩,?_⟩;rintro i m σ H ⟨rfl,hi,p⟩;have q:=hl i σ H hi p;by_cases hlt:i < xs.length
 ·refine .inr ⟨⟨hlt,xs,xs[xs.length-1-i],q,by rw[ui]⟩,Pv (i+1),fun σ' H' p'=>⟨xs.length-(i+1),by lia,rfl,hlt,p'⟩,fun x H' y=>?_⟩
  obtain⟨e,y⟩:=y;subst e;refine hs i x σ _ ?_ p;rw[List.getElem?_reverse hlt];exact y xs q
 ·have e:i=xs.length:=by lia
  subst e;exact .inl ⟨ud _,hd σ H p⟩
section
variable{g:TG}{Q:VK}
theorem xo{K:uc}(Pv:Nat->St->List V->Hp->Prop)(h0:Pv 0 σ [] H)(hl:∀i τ ys H,i<=xs.length->Pv i τ ys H->SqT K H a xs)
  (hs:∀i x τ ys H,xs[i]?=some x->Pv i τ ys H->g x τ H fun τ2 H2=>tt τ2 H2 fun b H3=>if b=true then te τ2 H3 fun y H4=>ys.length < sizeLine/\Pv (i+1) τ2 (ys++[y]) H4 else Pv (i+1) τ2 ys H3)
  (hd:∀τ ys H,Pv xs.length τ ys H->∀p,H p=none->Q (.ref p) (upd H p (.lst ys))):∃W,(∃m,W 0 m σ [] H)/\lcBy (Itt K a) g tt te Q W:=by
 refine⟨fun i m τ ys H=>m=xs.length-i/\i<=xs.length/\Pv i τ ys H,⟨xs.length,by simp,uF _,h0⟩,?_⟩;rintro i m τ ys H ⟨rfl,hi,p⟩;have q:=hl i τ ys H hi p;by_cases hlt:i < xs.length
 ·refine .inr ⟨⟨xs,xs[i],q,by simp[hlt]⟩,Pv (i+1),fun τ' ys' H' p'=>⟨xs.length-(i+1),by lia,rfl,hlt,p'⟩,fun x H' y=>?_⟩
  obtain⟨e,y⟩:=y;subst e;exact hs i x τ ys _ (y xs q) p
 ·have e:i=xs.length:=by lia
  subst e;exact .inl ⟨⟨xs,q,ud _⟩,hd τ ys H p⟩
end
theorem old{q:Addr}{u:HO}(hp:H p=none)(h:H q=some u):upd H p o q=some u:=by rw[zj (zo h hp)];exact h
theorem Same.new(s:Same H H1)(hp:H1 p=none):Same H (upd H1 p o):=fun b u q=>old hp (s b u q)
theorem Same.put(s:Same H H1)(hp:H p=none):Same H (upd H1 p o):=fun b u q=>by rw[zj (zo q hp)];exact s b u q
theorem WM{x:V}(h:xi x=true):eqV x x=true:=by
 cases x<;>first
  |rfl
  | (show((_:Bool) == _)=true;simp)
  | (show((_:Int) == _)=true;simp)
  | (show((_:Str) == _)=true;simp)
  | (cases h)
theorem yh(K:uc)(h:X.K=K:=by rfl):jIx X (rIxT K):=h ▸ yp
theorem WN(K:uc)(h:X.K=K:=by rfl):jOp X (binaryOp .Add) (X9 K):=h ▸ yy
theorem wW(K:uc){k:Nat}(hc:X.calm=true)(g:jGs X es gs)(h:X.K=K:=by rfl)(hn:(assignEach es X.env).length=n:=by rfl)(hst:(assignEach es X.env).findIdx? (·.1)=none:=by rfl):jG X (.Tuple es k pos) (gTup K n gs):=h ▸ yR hc g hn hst
theorem Zi(K:uc)(h:X.K=K:=by rfl):jCa X (.builtin "len") (fun xs H Q=>∃p ys,xs=[.ref p]/\(SqL K H p ys\/SqT K H p ys)/\Q (.int ys.length) H):=h ▸ vi
def CelO(c:Addr)(v:V):HO:=.ext fun h=>∃u,RelV v u/\h.IsCell c (some u)
def Cel(H:Hp)(c:Addr)(v:V):Prop:=∃o,H c=some (.frz o (CelO c v))
theorem WO{v:V}{o:Obj}(e:h.get? c=some o)(d:o.data=.cell (some u))(r:RelV v u):ObjOk P w H h c (.frz o (CelO c v)) :=
 ⟨e,⟨u,r,o,e,d⟩,⟨o,e⟩,fun _ _ ⟨u,r,o,e,d⟩ k=>⟨u,r,o,k _ e,d⟩⟩
def z0(H:Hp)(as:List Addr):Hp:=fun b=>if b∈as then none else H b
def yW(H' H:Hp)(as:List Addr):Hp:=fun b=>if b∈as then H b else H' b
theorem wc(h:b∈as):z0 H as b=none:=if_pos h
theorem zT(h:b∉as):z0 H as b=H b:=if_neg h
theorem wd(h:b∈as):yW H' H as b=H b:=if_pos h
theorem yr(h:b∉as):yW H' H as b=H' b:=if_neg h
abbrev lamC(mg:Str->Option Value)(qual:Str)(params:Arguments)(body:Expr)(scope:Scope)(cl:List (Str×Addr))(c:Addr)(ctv:Value):FuncData:=PySem.W.kla_fn "<lambda>" qual params body scope cl ((mg "__name__").getD .none) (.ref c) ctv
def WP(mg:Str->Option Value)(T:Addr)(qual:Str)(params:Arguments)(body:Expr)(scope:Scope)(pos:Pos)(cl:List (Str×Addr)):TE:=fun _ H Q=>∃ps,H T=some (.tbl ps)/\TriplesOk ps.toList /\
 ((codeAmong pos ps.toList=none/\∀(c f:Addr)(ctv:Value),H c=none->H f=none->f≠c->Q (.ref f) (upd (upd (upd H T (.tbl (ps ++ #[rawInt pos.line,rawInt pos.col,.ref c]))) c (CodO c qual)) f (FunO f (lamC mg qual params body scope cl c ctv)))) \/
   (∃c,codeAmong pos ps.toList=some (.ref c)/\∀(f:Addr)(ctv:Value),H f=none->Q (.ref f) (upd H f (FunO f (lamC mg qual params body scope cl c ctv)))))
theorem JA{cl:List (Str×Addr)}{body:Expr}(hB:BMn X.mg X.base)(hcode:X.env.code=.ref c)(hc:Uh X.K c T=true)(hq:X.env.qual ++ "<lambda>"=qual)
  (hdef:defaultsOf params X.env=([],[])) (hcl:closureFor scope X.env=pure cl):PE X (.Lambda params body scope pos) (WP X.mg T qual params body scope pos cl):=by
 intro pins s σ H Q I h;refine PySem.W.kla_eval hdef ?_;rw[hq];obtain⟨ps,hT,tr,h⟩:=h;have gT:s.heap.get? T=some { cls:=.none,data:=.fields ps }:=I.hok T _ hT;have hg:=I.mod.glob.keeps I.bk;obtain⟨bAt,hgP⟩:=(hB.keeps I.bk).at hg gT;rcases h with⟨nf,h⟩|⟨c',hit,h⟩
 ·refine PySem.W.kla_makeFunction (mg:=X.mg) hcl I.ok.glob hg hcode (PySem.W.codeHd_of_K I.kIn hc) gT tr nf hgP bAt fun c' ctv h' tk ext ge lt rec tab=>?_
  have hc0:H c'=none:=I.hok.fresh ge;have hf0:H h'.objs.size=none:=I.hok.fresh (uC ge (Nat.le_of_lt lt));have nfc:h'.objs.size≠c':=Nat.ne_of_gt lt;have ncT:T≠c':=zo hT hc0;have nfT:T≠h'.objs.size:=zo hT hf0;have elsewhere:∀b,b≠T->b≠c'->b≠h'.objs.size->upd (upd (upd H T (.tbl (ps ++ #[rawInt pos.line,rawInt pos.col,.ref c']))) c' (CodO c' qual)) h'.objs.size (FunO h'.objs.size (lamC X.mg qual params body scope cl c' ctv)) b=H b:=fun b h1 h2 h3=>by rw[zj h3,zj h2,zj h1]
  have hU:∀b u,H b=some u->b≠T->upd (upd (upd H T (.tbl (ps ++ #[rawInt pos.line,rawInt pos.col,.ref c']))) c' (CodO c' qual)) h'.objs.size (FunO h'.objs.size (lamC X.mg qual params body scope cl c' ctv)) b=some u:=fun b u e n=>by
   rw[elsewhere b n (zo e hc0) (zo e hf0)];exact e
  have hTb:upd (upd (upd H T (.tbl (ps ++ #[rawInt pos.line,rawInt pos.col,.ref c']))) c' (CodO c' qual)) h'.objs.size (FunO h'.objs.size (lamC X.mg qual params body scope cl c' ctv)) T=some (.tbl (ps ++ #[rawInt pos.line,rawInt pos.col,.ref c'])):=by
   rw[zj nfT,zj ncT];exact zg
  have keep:∀b o,b≠T->s.heap.get? b=some o->(h'.push (PySem.W.kla_obj "<lambda>" qual params body scope cl ((X.mg "__name__").getD .none) c' ctv)).get? b=some o:=fun b o n e=>uf _ (ext b o n e);have neT:∀b,H b=none->b≠T:=fun b e n=>by rw[n,hT]at e;cases e
  refine⟨.ref h'.objs.size,_,I.un (t':=tk) (H':=upd (upd (upd H T (.tbl (ps ++ #[rawInt pos.line,rawInt pos.col,.ref c']))) c' (CodO c' qual)) h'.objs.size (FunO h'.objs.size (lamC X.mg qual params body scope cl c' ctv))) ⟨fun b o e n _ _=>keep b o (neT b n) e,fun b o e n _ _=>⟨o.slots,keep b o (neT b n) e⟩,fun b o e n _=>?_,fun b o e _=>?_,fun b xs e=>hU b _ e (fun z=>by rw[z,hT]at e;cases e),fun b o xs e=>hU b _ e (fun z=>by rw[z,hT]at e;cases e),fun b qs e=>?_⟩ ?_,rfl,h c' _ ctv hc0 hf0 nfc⟩
  ·have l:=uA e
   rw[elsewhere b (neT b n) (uK (uB l ge)) (uK (Nat.lt_trans (uB l ge) lt))];exact n
  ·by_cases z:b=T
   ·rw[z];exact⟨_,uf _ tab⟩
   ·exact⟨o,keep b o z e⟩
  ·by_cases z:b=T
   ·subst z
    rw[hT]at e;cases e;exact⟨_,hTb⟩
   ·exact⟨#[],by rw[hU b _ e z];simp⟩
  ·intro b u e
   by_cases z1:b=h'.objs.size
   ·subst z1
    rw[zg]at e;cases e;exact WK (uu _ rfl)
   rw[zj z1]at e;by_cases z2:b=c'
   ·subst z2
    rw[zg]at e;cases e;obtain⟨d,oc,vs,t,q,e,r⟩:=rec;exact zaU ⟨d,oc,vs,t,q,uf _ e,r⟩
   rw[zj z2]at e;by_cases z3:b=T
   ·subst z3
    rw[zg]at e;cases e;exact uf _ tab
   rw[zj z3]at e;refine(I.hok b u e).stay (fun d v hd q=>keep d v ?_ q) (fun d q=>hU d _ q fun z=>by rw[z,hT]at q;cases q) fun d xs q=>hU d _ q fun z=>by rw[z,hT]at q;cases q
   rcases hd with rfl|hd
   ·exact z3
   ·intro z
    rw[z,hT]at hd;cases hd
 ·refine PySem.W.kla_makeFunctionHit (mg:=X.mg) hcl I.ok.glob hg hcode (PySem.W.codeHd_of_K I.kIn hc) gT tr hit bAt fun ctv h' tk kp sz=>?_
  have hf0:H h'.objs.size=none:=I.hok.fresh sz;exact⟨.ref h'.objs.size,_,I.laid (t':=tk) (o:=FunO h'.objs.size (lamC X.mg qual params body scope cl c' ctv)) (fun b u e=>uf _ (kp b u e)) sz (WK (uu _ rfl)),rfl,h _ ctv hf0⟩
theorem we{cl:List (Str×Addr)}{body:Expr}(hB:BMn X.mg X.base)(hcode:X.env.code=.ref c)(hc:Uh X.K c T=true)(hq:X.env.qual ++ "<lambda>"=qual)
  (hdef:defaultsOf params X.env=([],[]):=by rfl) (hcl:closureFor scope X.env=pure cl:=by with_unfolding_all rfl):jE X (.Lambda params body scope pos) (WP X.mg T qual params body scope pos cl):=⟨JA hB hcode hc hq hdef hcl⟩
structure LamScope(N ps fs:LS)(sc:Scope):Prop where
 kind:sc.kind=.function
 co:sc.isCoroutine=false
 gen:sc.isGenerator=false
 nd:N.Nodup
 cat:N=ps++fs
 par:∀x∈ps,sc.names.lookup x=some .local
 fre:∀x∈fs,sc.names.lookup x=some .free
 nocell:∀y∈sc.names,y.2≠.cell
 has:∀y∈sc.names,y.2=.free->y.1∈fs
structure Clo(H:Hp)(cl:List (Str×Addr))(fs:LS)(fvs:List V):Prop where
 len:fvs.length=fs.length
 all:∀p∈cl,∃v,Cel H p.2 v
 get:∀(i:Nat)(x:Str)(v:V),fs[i]?=some x->fvs[i]?=some v->∃a,cl.lookup x=some a/\Cel H a v
 has:∀x∈fs,∃a,cl.lookup x=some a
 inj:∀x y a,cl.lookup x=some a->cl.lookup y=some a->x=y
def WQ(CX:CXT)(P:Program)(w:World)(K:uc)(mg:Str->Option Value)(base:Heap)(N:LS)(qual:Str)(scope:Scope)(f:Addr)(cd:Value)(cl:List (Str×Addr))(A:Around)(outer:List Env)(s:Shared)(H:Hp)(E:XK):Cx where
 prog:=P
 w:=w
 K:=K
 mg:=mg
 base:=base
 A:=A.deeper (PySem.W.envX qual scope s.heap.objs.size f cd cl)
 N:=N
 s₀:=s
 H₀:=z0 H (cl.map (·.2))
 env:=PySem.W.envX qual scope s.heap.objs.size f cd cl
 outer:=outer
 stack:=PySem.W.envX qual scope s.heap.objs.size f cd cl::outer
 ex:=[]
 calm:=true
 fn:=fun _=>false
 pn:=[]
 xe:=fun e s'=>wpAny (model P w) (A.deeper (PySem.W.envX qual scope s.heap.objs.size f cd cl)) (leaving (PySem.W.envX qual scope s.heap.objs.size f cd cl) e) (fun _ s''=>CX outer H s E e s'') (fun e' s''=>CX outer H s E e' s'') s'
theorem vo{x:Str}{v:Value}:∀{P:LS}{vs:List Value}{i:Nat},P.Nodup->P[i]?=some x->vs[i]?=some v->(P.zip vs).reverse.lookup x=some v
 |[],_,_,_,h,_=>by simp at h
 |_::_,[],_,_,_,h=>by simp at h
 |p::P,w::vs,0,nd,h1,h2=>by
  simp at h1 h2;subst h1;subst h2
  have hn:∀y∈(P.zip vs).reverse,y.1≠p:=fun y hy z=>(uM.mp nd).1 (z ▸ (UK (List.mem_reverse.mp hy)).1);rw[List.zip_cons_cons,List.reverse_cons,List.lookup_append]
  have:(P.zip vs).reverse.lookup p=none:=List.lookup_eq_none_iff.mpr fun y hy=>by simpa using fun z=>hn y hy z.symm
  rw[this];simp
 |p::P,w::vs,i+1,nd,h1,h2=>by
  rw[List.zip_cons_cons,List.reverse_cons,List.lookup_append,vo (i:=i) (uM.mp nd).2 (by simpa using h1) (by simpa using h2)]
  rfl
theorem zS(hc:∀a∈as,∃v,Cel H a v){u:HO}(e:H b=some u)(n:∀o c v,u≠.frz o (CelO c v)):z0 H as b=some u:=by
 rw[zT]
 ·exact e
 ·intro z
  obtain⟨v,o,q⟩:=hc b z;rw[e]at q;exact n _ _ _ (u5.inj q)
theorem YS(hc:∀a∈as,∃v,Cel H a v)(x:HOk P w H h):HOk P w (z0 H as) h:=fun b u e=>by
 have nb:b∉as:=fun z=>by rw[wc z]at e;cases e
 rw[zT nb]at e;exact(x b u e).stay (fun _ _ _ q=>q) (fun d q=>zS hc q (by intro _ _ _ z;cases z)) fun d xs q=>zS hc q (by intro _ _ _ z;cases z)
theorem JB(hn:∀a∈as,H' a=none)(hk:∀a∈as,∀u,H a=some u->∃v o,u=.frz o (CelO a v)/\h.get? a=some o/\h'.get? a=some o)(x:HOk P w H h)(x':HOk P w H' h'):HOk P w (yW H' H as) h':=fun b u e=>by
 have up:∀d z,H' d=some z->yW H' H as d=some z:=fun d z q=>by
  rw[yr]
  ·exact q
  ·intro y;rw[hn d y]at q;cases q
 by_cases nb:b∈as
 ·rw[wd nb]at e
  obtain⟨v,o,rfl,e1,e2⟩:=hk b nb u e;obtain⟨_,⟨u',r,o',e3,d⟩,_⟩:=x b _ e;rw[e1]at e3;cases e3;exact WO e2 d r
 ·rw[yr nb]at e
  exact(x' b u e).stay (fun _ _ _ q=>q) (fun d q=>up d _ q) fun d xs q=>up d _ q
theorem JC{fs:List Addr}(hc:∀a∈as,∃v,Cel H a v)(u:Un fs [] (z0 H as) H' h h')(hn:∀a∈as,H' a=none):Un fs [] H (yW H' H as) h h':=by
 have no:∀b,H b=none->b∉as:=fun b n z=>by
  obtain⟨v,o,q⟩:=hc b z;rw[n]at q;cases q
 have mk:∀b,H b=none->z0 H as b=none:=fun b n=>by rw[zT (no b n)];exact n
 have up:∀d z,H' d=some z->yW H' H as d=some z:=fun d z q=>by
  rw[yr]
  ·exact q
  ·intro y;rw[hn d y]at q;cases q
 refine⟨fun b o e n hb hx=>u.keep b o e (mk b n) hb hx,fun b o e n hb hx=>u.slot b o e (mk b n) hb hx,fun b o e n hx=>?_,u.there,fun b xs e=>up _ _ (u.tups b xs (zS hc e (by intro _ _ _ z;cases z))),fun b o x e=>?_,fun b ps e=>?_⟩
 ·rw[yr (no b n)]
  exact u.free b o e (mk b n) hx
 ·by_cases z:b∈as
  ·rw[wd z];exact e
  ·rw[yr z]
   exact u.frzs b o x (by rw[zT z];exact e)
 ·obtain⟨more,q⟩:=u.tbls b ps (zS hc e (by intro _ _ _ z;cases z))
  exact⟨more,up _ _ q⟩
theorem wf{K:uc}{k:Nat}{body:Expr}{cl:List (Str×Addr)}
  {fs:LS} (S:LamScope N ps fs scope) (len:∀vs H Q E,sp vs H Q E->vs.length=ps.length)
  (hbody:∀(A:Around)(outer:List Env)(s:Shared)(H:Hp)(vs:List V)(Q:VK)(E:XK),Room k (A.deeper (PySem.W.envX qual scope s.heap.objs.size f (.ref c) cl))->sp vs H Q E ->
   H f=some (FunO f (PySem.W.kla_fn name qual params body scope cl pm (.ref c) ct))/\H c=some (CodO c qual)/\∃fvs,Clo H cl fs fvs /\
   ∃t,jE (WQ CX P w K mg base N qual scope f (.ref c) cl A outer s H E) body t/\t (vs.map some++fvs.map some) (z0 H (cl.map (·.2))) fun v H'=>(∀a∈cl.map (·.2),H' a=none)->Q v (yW H' H (cl.map (·.2)))) :
  FnOk P w K mg base CX (k+1) f (PySem.W.kla_fn name qual params body scope cl pm (.ref c) ct) ps sp:=by
 refine⟨len,fun A outer s H args us vs Q E hr e0 hb r hsp=>?_⟩;have hl:=len _ _ _ _ hsp;have lim:s.heap.NoLimit:=e0.mod.nolimit.keeps fun b o e=>(e0.bs b o e).1;obtain⟨hf,hc,fvs,C,t,ht,hq⟩:=hbody A outer s H vs Q E (hr.deeper _) hsp;have of:=(e0.hok f _ hf).1;have oc:=(e0.hok c _ hc).1;have hcA:∀a∈cl.map (·.2),∃v,Cel H a v:=fun a ha=>by
  obtain⟨p,hp,rfl⟩:=uD.mp ha;exact C.all p hp
 have hcl:∀x a,cl.lookup x=some a->a∈cl.map (·.2):=fun x a e=>uD.mpr ⟨(x,a),u0 e,rfl⟩;refine PySem.W.kla_callFunE hr.depth of rfl S.co S.gen rfl oc (hb _ _ _ _ ?_);refine wpAny_newFunctionEnv S.nocell (fun y hy=>S.par _ (UK hy).1) (fun h₁ hns hsb=>?_) S.kind;have hk₁:∀b o,s.heap.get? b=some o->h₁.get? b=some o:=fun b o e=>hsb.extBut b o (uK (uA e)) (uf _ e);refine⟨lim.keeps hk₁,PySem.W.kla_codeExpr ?_⟩;have isc:∀x a,cl.lookup x=some a->∃v,Cel H a v:=fun x a e=>hcA a (hcl x a e);have cget:∀a v,Cel H a v->∃u,RelV v u/\s.heap.IsCell a (some u):=fun a v ⟨o,q⟩=>(e0.hok a _ q).2.1;have I:Inv (WQ CX P w K mg base N qual scope f (.ref c) cl A outer s H E) [] (vs.map some++fvs.map some) (z0 H (cl.map (·.2))) { s with heap:=h₁,toks:=s.toks+(ps.zip us).length }:=by
  have noA:∀b:Addr,b∉(WQ CX P w K mg base N qual scope f (.ref c) cl A outer s H E).ex:=fun b z=>absurd (show b∈([]:List Addr)from z) (by simp);have mnone:∀b,H b=none->z0 H (cl.map (·.2)) b=none:=fun b e=>by
   unfold z0;split
   ·rfl
   ·exact e
  refine⟨⟨e0.mod,S.kind,rfl,rfl,ud _,fun y z a h1 h2=>C.inj y z a h1 h2,fun y hy=>?_,fun y a z=>absurd (show false=true from z) (by decide),fun _=>hr.hd,Around.frames_deeper e0.frames,.inr ⟨rfl,rfl⟩,fun b z=>absurd z (noA b),fun b o e=>⟨(e0.bs b o e).1,mnone _ (e0.bs b o e).2⟩,e0.bsz,fun b _ _=>noA b,fun b z=>absurd z (noA b),e0.funs,fun b hb=>mnone _ (e0.frf b hb)⟩,
   rfl,e0.bare,Un.kept hk₁,⟨_,hns,fun i y v h1 h2 h3=>?_⟩,fun y a h=>?_,mnone _ (e0.hok.fresh (ud _)),fun y a h=>wc (hcl y a h),fun p hp=>absurd (show p∈([]:List (Addr×Obj))from hp) (by simp),YS hcA (e0.hok.kept hk₁),?_⟩
  ·have hy:scope.names.lookup y=some .cell\/scope.names.lookup y=some .free:=hy
   rcases hy with hy|hy
   ·exact absurd rfl (S.nocell _ (u0 hy))
   ·exact C.has y (S.has _ (u0 hy) rfl)
  ·have h1:(ps++fs)[i]?=some y:=by rw[<- S.cat];exact h1
   have ndP:ps.Nodup:=by have:=S.nd;rw[S.cat]at this;exact(UM.mp this).1
   by_cases hi:i < vs.length
   ·rw[uT (by simpa using hi),ug]at h2
    rw[uT (by lia)]at h1;cases e:vs[i]? with
    |none=>rw[e]at h2;cases h2
    |some a =>
     rw[e]at h2;cases h2;obtain⟨u,hu,rv⟩:=r.get e;exact⟨u,rv,.inl ⟨S.par y (uv h1),vo ndP h1 hu⟩⟩
   ·rw[uR (by simpa using hi),ug]at h2
    rw[uR (by lia)]at h1;rw[ua,hl]at h2;cases e:fvs[i-ps.length]? with
    |none=>rw[e]at h2;cases h2
    |some a =>
     rw[e]at h2;cases h2;obtain⟨ca,g1,g2⟩:=C.get _ _ _ h1 e;obtain⟨u,rv,q⟩:=cget _ _ g2;exact⟨u,rv,.inr ⟨.inr (S.fre y (uv h1)),ca,g1,q.keeps hk₁⟩⟩
  ·obtain⟨v,q⟩:=isc y a h
   obtain⟨u,_,q⟩:=cget _ _ q;exact⟨_,q.keeps hk₁⟩
  ·show _=N.length
   rw[S.cat,ub,ub,ua,ua,C.len,hl]
 refine wpAny_mono (ht.out [] _ _ _ _ I hq) (fun u s' hs=>?_) fun e s' hs=>hs;obtain⟨v,H',J,rv,q⟩:=hs;have hn:∀a∈cl.map (·.2),H' a=none:=fun a ha=>by
  obtain⟨v,o,q⟩:=hcA a ha;obtain⟨e1,_⟩:=e0.hok a _ q;exact J.base.free a o e1 (wc ha) (by exact fun z=>absurd (show a∈([]:List Addr)from z) (by simp))
 refine⟨v,_,J.os,J.bare,JC hcA J.base hn,JB hn (fun a ha u e=>?_) e0.hok J.hok,rv,q hn⟩;obtain⟨v',o,q'⟩:=hcA a ha;rw[q']at e;cases e;obtain⟨e1,_⟩:=e0.hok a _ q';refine⟨v',o,rfl,e1,J.base.keep a o e1 (wc ha) (fun z=>?_) (fun z=>absurd (show a∈([]:List Addr)from z) (by simp))⟩;rw[e0.frf a z]at q';cases q'
structure EndsR where
 nx:St->Hp->Prop
 rt:St->V->Hp->Prop
abbrev TR:=EndsR->St->Hp->Prop
def SPR(X:Cx)(D:EndsR)(f:Flow)(s':Shared):Prop :=
 match f with
 |.next=>∃σ' H',Inv X [] σ' H' s'/\D.nx σ' H'
 |.ret u=>∃v σ' H',Inv X [] σ' H' s'/\RelV v u/\D.rt σ' v H'
 |_=>False
structure jR(X:Cx)(st:List Stmt)(t:TR):Prop where
 out:∀(s:Shared)(σ:St)(H:Hp)(D:EndsR),Inv X [] σ H s->t D σ H->wpAny (model X.prog X.w) X.A (execs st X.env) (SPR X D) X.xe s
section
variable{rest A:List Stmt}{t:TS}{u tA:TR}{c:Expr}{tc:TT}
theorem zaW:jR X [] (fun D σ H=>D.nx σ H):=⟨fun _ σ H _ I h=>wpAny_execs_nil ⟨σ,H,I,h⟩⟩
def zbR(t:TS)(u:TR):TR:=fun D σ H=>t { nx:=u D,rt:=fun _ _=>False } σ H
theorem jx(h1:jS X st t)(h2:jR X rest u):jR X (st::rest) (zbR t u):=⟨by
 intro s σ H D I h;refine wpAny_execs_cons (thn (h1.out [] s σ H { nx:=u D,rt:=fun _ _=>False } I h) fun f s1 q=>?_);cases f with
 |next =>
  obtain⟨σ',H',I',q⟩:=q;exact h2.out s1 σ' H' D I' q
 |ret v =>
  obtain⟨_,_,_,_,_,q⟩:=q;exact False.elim q
 |brk =>
  obtain⟨_,_,_,q⟩:=q;exact False.elim q
 |cont =>
  obtain⟨_,_,_,q⟩:=q;exact False.elim q⟩
theorem Yk(he:jE X e te):jR X [.Return (some e) pos] (fun D σ H=>te σ H (D.rt σ)):=⟨by
 intro s σ H D I h;refine wpAny_execs_cons (wpAny_Return_some (thn (he.out [] s σ H _ I h) fun v s1 hq_=>?_));obtain⟨x,H1,I1,r1,q1⟩:=hq_;exact⟨x,σ,H1,I1,r1,q1⟩⟩
def tIfR(tc:TT)(tA u:TR):TR:=fun D σ H=>tc σ H fun b H1=>if b=true then tA { D with nx:=u D } σ H1 else u D σ H1
theorem QP(hc:jT X c tc)(hA:jR X A tA)(hR:jR X rest u):jR X (.If c A [] pos::rest) (tIfR tc tA u):=⟨by
 intro s σ H D I h;refine wpAny_execs_cons (wpAny_If (thn (hc.out [] s σ H _ I h) fun b s1 hq_=>?_));obtain⟨H1,I1,q1⟩:=hq_;cases b with
 |true =>
  rw[if_pos rfl]at q1;refine thn (hA.out s1 σ H1 { D with nx:=u D } I1 q1) fun f s2 q=>?_;cases f with
  |next =>
   obtain⟨σ',H',I',q⟩:=q;exact hR.out s2 σ' H' D I' q
  |ret v=>exact q
  |brk=>exact q
  |cont=>exact q
 |false =>
  rw[if_neg (by decide)]at q1;exact wpAny_execs_nil (hR.out s1 σ H1 D I1 q1)⟩
end
structure Pub(H H3:Hp)(cvs:List (Addr×V)):Prop where
 old:∀b,b∉cvs.map (·.1)->H3 b=H b
 non:∀p∈cvs,H p.1=none
 cel:∀p∈cvs,Cel H3 p.1 p.2
def CellsAt(X:Cx)(σ:St)(cvs:List (Addr×V)):Prop:=∀p∈cvs,∃(i:Nat)(x:Str),X.N[i]?=some x/\σ[i]?=some (some p.2)/\X.env.cells.lookup x=some p.1/\(X.env.scope.names.lookup x=some .cell\/X.env.scope.names.lookup x=some .free)
theorem CellsAt.cell(I:Inv X pins σ H s)(h:CellsAt X σ cvs):∀p∈cvs,∃o u,s.heap.get? p.1=some o/\o.data=.cell (some u)/\RelV p.2 u:=fun p hp=>by
 obtain⟨i,x,e1,e2,e3,e4⟩:=h p hp;obtain⟨m,_,l⟩:=I.loc;obtain⟨u,r,l⟩:=l i x _ e1 e2 (.inr e4);rcases l with⟨k,_⟩|⟨_,c,q,o,e,d⟩
 ·have k:X.env.scope.names.lookup x=some .local:=k
  rcases e4 with e4|e4<;>rw[e4]at k<;>cases k
 ·rw[e3]at q;cases q
  exact⟨o,u,e,d,r⟩
def pubH(h:Heap)(H:Hp)(cvs:List (Addr×V)):Hp:=fun b=>match cvs.find? (fun p=>p.1 == b)with
 |some p=>some (.frz ((h.get? b).getD { cls:=.none,data:=.plain }) (CelO b p.2))
 |none=>H b
theorem Yl(hb:b∈cvs.map (·.1)):∃v,(b,v)∈cvs/\pubH h H cvs b=some (.frz ((h.get? b).getD { cls:=.none,data:=.plain }) (CelO b v)):=by
 obtain⟨p,hp,rfl⟩:=uD.mp hb;cases e:cvs.find? (fun q=>q.1 == p.1)with
 |none=>exact absurd (List.find?_eq_none.mp e p hp) (by simp)
 |some q =>
  have h1:=List.find?_some e;have h2:=List.mem_of_find?_eq_some e;have h3:q.1=p.1:=by simpa using h1
  refine⟨q.2,by rw[<- h3];exact h2,?_⟩;unfold pubH;rw[e]
theorem yH(hb:b∉cvs.map (·.1)):pubH h H cvs b=H b:=by
 unfold pubH;rw[List.find?_eq_none.mpr fun p hp=>by simpa using fun z:p.1=b=>hb (uD.mpr ⟨p,hp,z⟩)]
theorem JD(I:Inv X pins σ H s)(h:CellsAt X σ cvs)(hN:X.N.Nodup){v v':V}(h1:(b,v)∈cvs)(h2:(b,v')∈cvs):v=v':=by
 obtain⟨i,x,e1,e2,e3,_⟩:=h _ h1;obtain⟨j,y,g1,g2,g3,_⟩:=h _ h2
 have:=I.ok.inj x y b e3 g3
 subst this
 have:i=j:=(List.getElem?_inj (ue.mp e1).1 hN).mp (e1.trans g1.symm)
 subst this;rw[e2]at g2;cases g2
 rfl
theorem WR(I:Inv X pins σ H s)(h:CellsAt X σ cvs)(hN:X.N.Nodup):Pub H (pubH s.heap H cvs) cvs :=
 ⟨fun b hb=>yH hb,fun p hp=>let ⟨_,x,_,_,e3,_⟩:=h p hp;I.freeC x _ e3,fun p hp=>by
  obtain⟨v,hv,e⟩:=Yl (h:=s.heap) (H:=H) (uD.mpr ⟨p,hp,rfl⟩)
  have:=JD I h hN (b:=p.1) (v:=v) (v':=p.2) hv hp
  subst this;exact⟨_,e⟩⟩
theorem WS(I:Inv X pins σ H s)(h:CellsAt X σ cvs):HOk X.prog X.w (pubH s.heap H cvs) s.heap:=fun b u e=>by
 have up:∀d z,H d=some z->pubH s.heap H cvs d=some z:=fun d z q=>by
  rw[yH]
  ·exact q
  ·intro y
   obtain⟨p,hp,rfl⟩:=uD.mp y;obtain⟨_,x,_,_,e3,_⟩:=h p hp;rw[I.freeC x _ e3]at q;cases q
 by_cases hb:b∈cvs.map (·.1)
 ·obtain⟨v,hv,e'⟩:=Yl (h:=s.heap) (H:=H) hb
  rw[e']at e;cases e;obtain⟨o,u,e1,e2,r⟩:=h.cell I _ hv;have e1:s.heap.get? b=some o:=e1;rw[e1];exact WO e1 e2 r
 ·rw[yH hb]at e
  exact(I.hok b u e).stay (fun _ _ _ q=>q) (fun d q=>up d _ q) fun d xs q=>up d _ q
theorem zaX{K:uc}{k:Nat}{dV kV:Value}{an:Option Addr} (lk:K.lookup f=some ⟨oc,od,.func (uX name qual params body scope dV kV doc pm an cdv ct),osl⟩) (hcd:Uu K cdv qual=true) (S:FnScope N ps scope)
  (len:∀vs H Q E,sp vs H Q E->vs.length=ps.length)
  (hbody:∀(A:Around)(outer:List Env)(s:Shared)(H:Hp)(vs:List V)(Q:VK)(E:XK),Room k (A.deeper (envOfC qual scope s.heap.objs.size f cdv))->sp vs H Q E->(∀b,s.heap.objs.size<=b->H b=none) ->
   ∃t,jR (cxOf CX P w K mg base N qual scope f cdv A outer s H E) body t/\t { nx:=fun _ H'=>Q .non H',rt:=fun σ v H'=>∃cvs,CellsAt (cxOf CX P w K mg base N qual scope f cdv A outer s H E) σ cvs/\∀H3,Pub H' H3 cvs->Q v H3 } (yP N vs) H) :
  FnOk P w K mg base CX (k+1) f (uX name qual params body scope dV kV doc pm an cdv ct) ps sp:=by
 refine⟨len,fun A outer s H args us vs Q E hr e0 hb r hsp=>?_⟩;have hl:=len _ _ _ _ hsp;have KX:K.In s.heap:=e0.mod.kin.keeps fun b o e=>(e0.bs b o e).1;have lim:s.heap.NoLimit:=e0.mod.nolimit.keeps fun b o e=>(e0.bs b o e).1;have hkind:∀y∈ps.zip us,scope.names.lookup y.1=some .local\/(scope.names.lookup y.1=some .cell/\((cellsFrom (s.heap.objs.size+1) scope.names []).lookup y.1).isSome=true):=fun⟨n,v⟩ hy=>by
  rcases S.par n (UK hy).1 with q|q
  ·exact .inl q
  ·exact .inr ⟨q,PySem.W.cellsFrom_some _ _ _ (.inl q)⟩
 refine codeAny_call_function hr.depth (KX _ _ lk) rfl S.co S.gen rfl (PySem.W.codeRec_of KX hcd) (hb _ _ _ _ ?_);refine wpAny_newFunctionEnv_cells S.kind hkind fun env he s1 x=>?_;subst he;refine⟨lim.keeps x.toInCall.keep,codeAny_func ?_⟩;obtain⟨t,ht,hq⟩:=hbody A outer s H vs Q E (hr.deeper _) hsp fun b hb=>e0.hok.fresh hb;have I:Inv (cxOf CX P w K mg base N qual scope f cdv A outer s H E) [] (yP N vs) H s1:=vU S hr.hd e0 hl r x;refine wpAny_mono (ht.out s1 (yP N vs) H _ I hq) (fun fl s' hs=>?_) fun e s' hs=>hs;cases fl with
 |ret u =>
  obtain⟨v,σ',H',J,rv,cvs,hc,q⟩:=hs;have pb:=WR J hc S.nd;have q:=q _ pb;have ab:∀b,b∈cvs.map (·.1)->s.heap.objs.size<=b:=fun b hb=>by
   obtain⟨p,hp,rfl⟩:=uD.mp hb;obtain⟨_,x,_,_,e3,_⟩:=hc p hp;exact J.ok.cab x _ rfl e3
  have no:∀b o,H' b=some o->b∉cvs.map (·.1):=fun b o e hb=>by
   obtain⟨p,hp,rfl⟩:=uD.mp hb;rw[pb.non p hp]at e;cases e
  have un:Un (frs outer) [] H H' s.heap s'.heap:=J.base;refine⟨v,_,J.os,J.bare,⟨un.keep,un.slot,fun b o e n hx=>?_,un.there,fun b xs e=>?_,fun b o xs e=>?_,fun b p e=>?_⟩,WS J hc,rv,q⟩
  ·rw[pb.old b fun z=>absurd (uB (uA e) (ab b z)) (Uo _)]
   exact un.free b o e n hx
  ·have e':=un.tups b xs e
   rw[pb.old b (no b _ e')];exact e'
  ·have e':=un.frzs b o xs e
   rw[pb.old b (no b _ e')];exact e'
  ·obtain⟨more,e'⟩:=un.tbls b p e
   exact⟨more,by rw[pb.old b (no b _ e')];exact e'⟩
 |next =>
  obtain⟨σ',H',J,q⟩:=hs;exact⟨.non,H',J.os,J.bare,J.base,J.hok,rfl,q⟩
 |brk=>exact False.elim hs
 |cont=>exact False.elim hs
def zaY(X:Cx)(sp:Sp)(E:XK)(t:TA):TE:=fun σ H Q=>t σ H fun vs H1=>∃cvs,CellsAt X σ cvs/\∀H3,Pub H1 H3 cvs->sp vs H3 (fun r H4=>(∀p∈cvs,Cel H4 p.1 p.2)->Q r (z0 H4 (cvs.map (·.1)))) E
theorem WT{k:Nat}{E:XK}{p:Pos}{t:TA}(F:Ca X.prog X.w X.K X.mg X.base CX0 k x ps sp)(hr:Room k X.A)(hN:X.N.Nodup)(hg:Gl X x)(hfn:∀x,X.fn x=true)(ha:jA X (e::es) t)
  (hdb:(x == ("__debug__":Str))=false:=by decide) (h1:zx e=false:=by rfl) (h2:es.all (fun e=>!zx e)=true:=by rfl) :
  jE X (.Call (.Name x p) (e::es) [] pos) (zaY X sp E t):=⟨by
 obtain⟨f,fd,F,hb,hk,hm⟩:=F.ex;intro pins s σ H Q I h;refine wpAny_Call_Name_kw (wQ I hg hm ?_ hdb);refine PySem.W.callWith_K (h₀:=X.base) I.ok.mod.kin hk (thn (ha.out pos pins s σ H _ I h) fun us s1 ⟨vs,H1,I1,r,cvs,hc,q⟩=>⟨I1.kIn,?_⟩) (zK h1) (yk h2);have pb:=WR I1 hc hN;have ok3:=WS I1 hc;have q:=q _ pb;have hl:us.length=ps.length:=by rw[<- r.length];exact F.len _ _ _ _ q
 have nas:∀b o,H1 b=some o->b∉cvs.map (·.1):=fun b o e hb=>by
  obtain⟨p,hp,rfl⟩:=uD.mp hb;rw[pb.non p hp]at e;cases e
 have e0:Env0 X.prog X.w X.K X.mg X.base X.A X.stack s1 (pubH s1.heap H1 cvs):=by
  have z:=I1.env0;refine⟨z.frames,z.mod,fun b o e=>⟨(z.bs b o e).1,?_⟩,z.bsz,z.funs,fun b hb=>?_,ok3,z.bare⟩
  ·rw[yH]
   ·exact(z.bs b o e).2
   ·intro hb
    obtain⟨p,hp,rfl⟩:=uD.mp hb;obtain⟨_,y,_,_,e3,_⟩:=hc p hp;exact absurd (uB (uA e) (uC I1.ok.bsz (I1.ok.cab y _ (hfn y) e3))) (Uo _)
  ·rw[yH]
   ·exact z.frf b hb
   ·intro hb'
    obtain⟨p,hp,rfl⟩:=uD.mp hb';obtain⟨_,y,_,_,e3,_⟩:=hc p hp;rcases uq.mp (I1.stkSub _ hb)with q|q
    ·exact I1.cne y _ e3 q
    ·obtain⟨_,o,ho,_⟩:=I1.ok.funs.mem q
     exact absurd (uB (uA ho) (I1.ok.cab y _ (hfn y) e3)) (Uo _)
 refine wpAny_call (codeAny_mono (F.run X.A X.stack s1 _ ⟨us,[]⟩ us vs _ E hr e0 (by have:=hb s1 us I1.kIn (by simpa using hl);simpa using this) r q) fun r s' hq=>?_);cases r with
 |error e=>exact False.elim hq
 |ok fl =>
  cases fl with
  |next=>exact False.elim hq
  |brk=>exact False.elim hq
  |cont=>exact False.elim hq
  |ret u =>
   refine I1.after ?_;obtain⟨v,H4,os,bare,un,hok,rv,q⟩:=hq;have cel4:∀b,b∈cvs.map (·.1)->∃o v,s1.heap.get? b=some o/\s'.heap.get? b=some o/\H4 b=some (.frz o (CelO b v)):=fun b hb=>by
    obtain⟨v,hv,e⟩:=Yl (h:=s1.heap) (H:=H1) hb;have e4:=un.frzs b _ _ e;exact⟨_,v,(ok3 b _ e).1,(hok b _ e4).1,e4⟩
   have hcA:∀a∈cvs.map (·.1),∃v,Cel H4 a v:=fun a ha=>let ⟨o,v,_,_,e⟩:=cel4 a ha;⟨v,o,e⟩
   have up:∀b o,H1 b=some o->pubH s1.heap H1 cvs b=some o:=fun b o e=>by rw[yH (nas b o e)];exact e
   refine⟨v,_,os,bare,⟨fun b o e n hb hx=>?_,fun b o e n hb hx=>?_,fun b o e n hx=>?_,un.there,fun b xs e=>?_,fun b o xs e=>?_,fun b p e=>?_⟩,YS hcA hok,rv,q fun p hp=>let ⟨o,e⟩:=pb.cel p hp;⟨o,un.frzs _ _ _ e⟩⟩
   ·by_cases hb':b∈cvs.map (·.1)
    ·obtain⟨o',_,e1,e2,_⟩:=cel4 b hb'
     rw[e]at e1;cases e1;exact e2
    ·exact un.keep b o e (by rw[yH hb'];exact n) hb hx
   ·by_cases hb':b∈cvs.map (·.1)
    ·obtain⟨o',_,e1,e2,_⟩:=cel4 b hb'
     rw[e]at e1;cases e1;exact⟨o.slots,e2⟩
    ·exact un.slot b o e (by rw[yH hb'];exact n) hb hx
   ·by_cases hb':b∈cvs.map (·.1)
    ·exact wc hb'
    ·rw[zT hb']
     exact un.free b o e (by rw[yH hb'];exact n) hx
   ·rw[zT (nas b _ e)]
    exact un.tups b xs (up _ _ e)
   ·rw[zT (nas b _ e)]
    exact un.frzs b o xs (up _ _ e)
   ·obtain⟨more,e'⟩:=un.tbls b p (up _ _ e)
    exact⟨more,by rw[zT (nas b _ e)];exact e'⟩⟩
def WU(P:Program)(w:World)(K:uc)(mg:Str->Option Value)(base:Heap)(k:Nat)(E:XK)(i:Nat)(t:TA):TE:=fun σ H Q=>∃f,σ[i]?=some (some (.ref f)) /\
 (((∃fd,H f=some (FunO f fd))/\t σ H fun vs H1=>∃fd ps sp,FnOk P w K mg base CX0 k f fd ps sp/\Binds K fd ps []/\H1 f=some (FunO f fd)/\sp vs H1 Q E) \/
   (uL K (.ref f)=true/\t σ H fun vs H1=>∃fd ps sp,FnOk P w K mg base CX0 k f fd ps sp/\Binds K fd ps []/\sp vs H1 Q E))
theorem Zj{k:Nat}{E:XK}{p:Pos}{t:TA}(hr:Room k X.A)(hn:jE X (.Name x p) (tVar i))(hx:yC CX0 X E)(ha:jA X (e::es) t)(h1:zx e=false:=by rfl)(h2:es.all (fun e=>!zx e)=true:=by rfl):
  jE X (.Call (.Name x p) (e::es) [] pos) (WU X.prog X.w X.K X.mg X.base k E i t):=⟨by
 intro pins s σ H Q I h;obtain⟨f,hf,h⟩:=h;refine wpAny_Call_Name_kw (thn (hn.out pins s σ H (fun v H1=>v=.ref f/\H1=H) I ⟨_,hf,rfl,rfl⟩) fun u s0 hq_=>?_);obtain⟨v,H0,I0,r0,e1,e2⟩:=hq_;subst e1;subst e2;cases r0;rcases h with⟨⟨fd,hF⟩,h⟩|⟨hk,h⟩
 ·refine PySem.W.callWith_F ⟨_,_,_,_,(I0.hok f _ hF).1⟩ (thn (ha.out pos pins s0 σ H0 _ I0 h) fun us s1 ⟨vs,H1,I1,r,fd,ps,sp,F,hb,hF1,q⟩=>⟨⟨_,_,_,_,(I1.hok f _ hF1).1⟩,?_⟩) (zK h1) (yk h2)
  exact jb F hr hb .nil hx I1 r (by rw[Ue];exact q)
 ·refine PySem.W.callWith_K (h₀:=X.base) I0.ok.mod.kin hk (thn (ha.out pos pins s0 σ H0 _ I0 h) fun us s1 ⟨vs,H1,I1,r,fd,ps,sp,F,hb,q⟩=>⟨I1.kIn,?_⟩) (zK h1) (yk h2)
  exact jb F hr hb .nil hx I1 r (by rw[Ue];exact q)⟩
structure FunC(K:uc)(x:Str)(st:Stmt)(c f:Addr)(fd:FuncData):Prop where
 ex:∃(oc:Value)(od:Option Addr)(kV doc pm:Value)(an:Option Addr)(ct:Value)(osl:Array (Option Value)),fd=uX x x (z6 st) (zH st) (zp st) .none kV doc pm an (.ref c) ct/\K.lookup f=some ⟨oc,od,.func fd,osl⟩/\Uu K (.ref c) x=true
section
variable{K:uc}{k:Nat}
theorem FunC.by(F:FunC K x st c f fd)(S:FnScope N ps (zp st))(len:∀vs H Q E,sp vs H Q E->vs.length=ps.length)
  (hbody:∀(A:Around)(outer:List Env)(s:Shared)(H:Hp)(vs:List V)(Q:VK)(E:XK),Room k (A.deeper (envOfC x (zp st) s.heap.objs.size f (.ref c)))->sp vs H Q E ->
   ∃t,jSs (cxOf CX0 P w K mg base N x (zp st) f (.ref c) A outer s H E).nox (zH st) t/\t { nx:=fun _ H'=>Q .non H',rt:=Q } (yP N vs) H):FnOk P w K mg base CX0 (k+1) f fd ps sp:=by
 obtain⟨oc,od,kV,doc,pm,an,ct,osl,rfl,lk,hcd⟩:=F.ex;refine QI lk hcd S len fun A outer s H vs Q E hr hsp=>?_;obtain⟨t,h,q⟩:=hbody A outer s H vs Q E hr hsp;exact⟨t,h.out.nox,q⟩
theorem FunC.byR(F:FunC K x st c f fd)(S:FnScope N ps (zp st))(len:∀vs H Q E,sp vs H Q E->vs.length=ps.length)
  (hbody:∀(A:Around)(outer:List Env)(s:Shared)(H:Hp)(vs:List V)(Q:VK)(E:XK),Room k (A.deeper (envOfC x (zp st) s.heap.objs.size f (.ref c)))->sp vs H Q E->(∀b,s.heap.objs.size<=b->H b=none) ->
   ∃t,jR (cxOf CX0 P w K mg base N x (zp st) f (.ref c) A outer s H E) (zH st) t/\t { nx:=fun _ H'=>Q .non H',rt:=fun σ v H'=>∃cvs,CellsAt (cxOf CX0 P w K mg base N x (zp st) f (.ref c) A outer s H E) σ cvs/\∀H3,Pub H' H3 cvs->Q v H3 } (yP N vs) H) :
  FnOk P w K mg base CX0 (k+1) f fd ps sp:=by
 obtain⟨oc,od,kV,doc,pm,an,ct,osl,rfl,lk,hcd⟩:=F.ex;exact zaX lk hcd S len hbody
def DcIn(K:uc)(x:Str)(st:Stmt)(c:Addr):Prop:=∃f,Ub K mainGlobals x=some (some (.ref f))/\∃(oc:Value)(od:Option Addr)(kV doc pm:Value)(an:Option Addr)(ct:Value)(osl:Array (Option Value)),K.lookup f=some ⟨oc,od,.func (uX x x (z6 st) (zH st) (zp st) .none kV doc pm an (.ref c) ct),osl⟩/\Uu K (.ref c) x=true/\uL K (.ref f)=true
theorem DcIn.mk{kV:Value}{an:Option Addr}(a:Ub K mainGlobals x=some (some (.ref f)))(l:K.lookup f=some ⟨oc,od,.func (uX x x (z6 st) (zH st) (zp st) .none kV doc pm an (.ref c) ct),osl⟩)(cc:Uu K (.ref c) x=true)(k:uL K (.ref f)=true):DcIn K x st c:=⟨f,a,oc,od,kV,doc,pm,an,ct,osl,l,cc,k⟩
theorem DcIn.ca(X:K.In h)(G:h.Ns mainGlobals mg)(d:DcIn K x st c)(hb:∀(kV doc pm:Value)(an:Option Addr)(ct:Value)(us:List Value),us.length=ps.length->bindArgs (uX x x (z6 st) (zH st) (zp st) .none kV doc pm an (.ref c) ct) ⟨us,[]⟩=pure (ps.zip us))
  (ok:∀f fd,FunC K x st c f fd->FnOk P w K mg base CX0 k f fd ps sp):Ca P w K mg base CX0 k x ps sp:=by
 obtain⟨f,a,oc,od,kV,doc,pm,an,ct,osl,l,cc,kp⟩:=d;exact⟨f,_,ok f _ ⟨oc,od,kV,doc,pm,an,ct,osl,rfl,l,cc⟩,.all fun us hl=>hb kV doc pm an ct us hl,kp,PySem.W.mg_of X G a⟩
end
def TbG(T:Addr)(ls:List (Pos×Str))(H:Hp):Prop:=∃ps,H T=some (.tbl ps)/\TriplesOk ps.toList/\∀p∈ls,codeAmong p.1 ps.toList=none\/∃c,codeAmong p.1 ps.toList=some (.ref c)/\H c=some (CodO c p.2)
theorem XA{a b:Int}{c:Value}(l:List Value)(h:TriplesOk l):TriplesOk (l++[rawInt a,rawInt b,c]):=by
 fun_induction TriplesOk l with
 |case1=>trivial
 |case2 i t j u v rest ih=>exact ih h
 |case3=>exact False.elim h
theorem Zk{p':Pos}{c:Value}(l:List Value)(h:TriplesOk l)(n:¬ (p'.line=pos.line/\p'.col=pos.col)):codeAmong pos (l++[rawInt p'.line,rawInt p'.col,c])=codeAmong pos l:=by
 fun_induction TriplesOk l with
 |case1 =>
  show(if((p'.line:Nat):Int) == (pos.line:Nat) && ((p'.col:Nat):Int) == (pos.col:Nat)then some c else codeAmong pos [])=_;rw[if_neg];simp
  intro e e';exact n ⟨by lia,by lia⟩
 |case2 i t j u v rest ih =>
  show(if i == (pos.line:Nat) && j == (pos.col:Nat)then some v else codeAmong pos (rest++_))=if i == (pos.line:Nat) && j == (pos.col:Nat)then some v else codeAmong pos rest
  rw[ih h]
 |case3=>exact False.elim h
theorem XB{p':Pos}(l:List Value)(n:p'.line=pos.line/\p'.col=pos.col):codeAmong pos l=codeAmong p' l:=by
 fun_induction codeAmong pos l with
 |case1 line _ col _ c rest h=>rw[codeAmong,n.1,n.2,if_pos h]
 |case2 line _ col _ c rest h ih=>rw[codeAmong,n.1,n.2,if_neg h];exact ih
 |case3 l h =>
  unfold codeAmong;split
  ·exact absurd rfl (h _ _ _ _ _ _)
  ·rfl
theorem TbG.keep(h:TbG T ls H)(kt:∀ps,H T=some (.tbl ps)->H' T=some (.tbl ps))(kc:∀c q,H c=some (CodO c q)->H' c=some (CodO c q)):TbG T ls H':=by
 obtain⟨ps,e,t,h⟩:=h;exact⟨ps,kt _ e,t,fun p hp=>(h p hp).imp_right fun⟨c,a,b⟩=>⟨c,a,kc _ _ b⟩⟩
theorem TbG.empty(h:H T=some (.tbl #[])):TbG T ls H:=⟨#[],h,trivial,fun p _=>.inl rfl⟩
theorem yX{body:Expr}{cl:List (Str×Addr)}{Q:VK}(h:TbG T ls H)(hm:(pos,qual)∈ls)(hu:∀p∈ls,(pos.line=p.1.line/\pos.col=p.1.col)->p.2=qual)
  (q:∀H' f c ct,(∀b u,b≠T->H b=some u->H' b=some u)->TbG T ls H'->H f=none->f≠T->c≠T->H' f=some (FunO f (lamC mg qual params body scope cl c ct))->H' c=some (CodO c qual)->Q (.ref f) H'):WP mg T qual params body scope pos cl σ H Q:=by
 obtain⟨ps,hT,tr,ha⟩:=h;refine⟨ps,hT,tr,?_⟩;rcases ha _ hm with hn|⟨c,hs,hc⟩
 ·refine .inl ⟨hn,fun c f ct h1 h2 h3=>?_⟩
  have n1:T≠c:=zo hT h1;have n2:T≠f:=zo hT h2;have kp:∀b u,b≠T->H b=some u->upd (upd (upd H T (.tbl (ps ++ #[rawInt pos.line,rawInt pos.col,.ref c]))) c (CodO c qual)) f (FunO f (lamC mg qual params body scope cl c ct)) b=some u:=fun b u n e=>by rw[zj (zo e h2),zj (zo e h1),zj n];exact e
  have e2:upd (upd (upd H T (.tbl (ps ++ #[rawInt pos.line,rawInt pos.col,.ref c]))) c (CodO c qual)) f (FunO f (lamC mg qual params body scope cl c ct)) c=some (CodO c qual):=by rw[zj h3.symm];exact zg
  refine q _ f c ct kp ⟨_,by rw[zj n2,zj n1];exact zg,?_,fun p hp=>?_⟩ h2 n2.symm n1.symm zg e2
  ·rw[Array.toList_append]
   exact XA _ tr
  ·rw[Array.toList_append]
   by_cases z:pos.line=p.1.line/\pos.col=p.1.col
   ·refine .inr ⟨c,?_,by rw[e2,hu p hp z]⟩
    rw[XB _ z];exact codeAmong_snoc _ tr hn
   ·rw[show(#[rawInt pos.line,rawInt pos.col,Value.ref c]:Array Value).toList=[rawInt pos.line,rawInt pos.col,.ref c]from rfl,Zk _ tr z]
    refine(ha p hp).imp_right fun⟨d,a,b⟩=>⟨d,a,kp _ _ (fun w=>?_) b⟩;rw[w,hT]at b;cases b
 ·refine .inr ⟨c,hs,fun f ct h2=>?_⟩
  have kp:∀b u,H b=some u->upd H f (FunO f (lamC mg qual params body scope cl c ct)) b=some u:=fun b u e=>by rw[zj (zo e h2)];exact e
  refine q _ f c ct (fun b u _ e=>kp b u e) ⟨ps,kp _ _ hT,tr,fun p hp=>(ha p hp).imp_right fun⟨d,a,b⟩=>⟨d,a,kp _ _ b⟩⟩ h2 (zo hT h2).symm (fun w=>?_) zg (kp _ _ hc);rw[w,hT]at hc;cases hc
end L2
namespace GN
open PySem L2
inductive All2{α β:Type}(F:α->β->Prop):List α->List β->Prop
 |nil:All2 F [] []
 |cons {a b l m}:F a b->All2 F l m->All2 F (a::l) (b::m)
section
variable{α β:Type}{F G:α->β->Prop}{l:List α}{m:List β}
theorem All2.imp(h:All2 F l m)(f:∀a b,F a b->G a b):All2 G l m:=by
 induction h with
 |nil=>exact .nil
 |cons a _ ih=>exact .cons (f _ _ a) ih
theorem All2.len(h:All2 F l m):l.length=m.length:=by
 induction h with
 |nil=>rfl
 |cons _ _ ih=>rw[um,um,ih]
theorem All2.app{l':List α}{m':List β}(h:All2 F l m)(g:All2 F l' m'):All2 F (l++l') (m++m'):=by
 induction h with
 |nil=>exact g
 |cons a _ ih=>exact .cons a ih
theorem All2.get(h:All2 F l m):∀{i:Nat}{b:β},m[i]?=some b->∃a,l[i]?=some a/\F a b:=by
 induction h with
 |nil=>intro i b e;simp at e
 |cons a _ ih =>
  intro i b e;cases i with
  |zero=>simp at e;subst e;exact(zf rfl (a))
  |succ i=>simp at e;obtain⟨x,h1,h2⟩:=ih e;exact⟨x,by simpa using h1,h2⟩
theorem All2.getl(h:All2 F l m):∀{i:Nat}{a:α},l[i]?=some a->∃b,m[i]?=some b/\F a b:=by
 induction h with
 |nil=>intro i b e;simp at e
 |cons a _ ih =>
  intro i b e;cases i with
  |zero=>simp at e;subst e;exact(zf rfl (a))
  |succ i=>simp at e;obtain⟨x,h1,h2⟩:=ih e;exact⟨x,by simpa using h1,h2⟩
end
theorem iteN{b:Bool}{A B:Prop}(e:b=false)(h:B):if b=true then A else B:=by rw[if_neg (by rw[e];decide)];exact h
def KM(M:Addr->Prop)(H H':Hp):Prop:=∀b u,¬ M b->H b=some u->H' b=some u
def Kz(M R:Addr->Prop)(H H':Hp):Prop:=∀b u,H b=some u->¬ M b->(∀xs,u=.lst xs->R b)->H' b=some u
def KO(M:Addr->Prop)(H H':Hp):Prop:=∀b u,H b=some u->(∀xs,u=.lst xs->M b)->H' b=some u
theorem KM.refl:KM M H H:=fun _ _ _ h=>h
theorem KM.trans(a:KM M H H1)(b:KM M H1 H2):KM M H H2:=fun c u n h=>b c u n (a c u n h)
theorem KM.of(a:Same H H1):KM M H H1:=fun c u _ h=>a c u h
theorem KM.free(a:KM M H H1)(n:¬ M b)(h:H1 b=none):H b=none:=by
 cases e:H b with
 |none=>rfl
 |some u=>rw[a b u n e]at h;cases h
theorem KM.put{o:HO}(a:KM M H H1)(h:H p=none):KM M H (upd H1 p o):=fun b u n e=>by rw[zj (zo e h)];exact a b u n e
def CanC(P:Program)(w:World)(K:uc)(mg:Str->Option Value)(base:Heap)(k:Nat)(H:Hp)(f:Addr)(vs:List V)(Q:VK)(E:XK):Prop :=
 ∃fd ps sp,FnOk P w K mg base CX0 k f fd ps sp/\Binds K fd ps []/\sp vs H Q E/\(H f=some (FunO f fd)\/uL K (.ref f)=true)
def Chn{T S:Type}(pre post:T->S):S->List T->S->Prop
 |s,[],s'=>s=s'
 |s,t::ts,s'=>pre t=s/\Chn pre post (post t) ts s'
set_option genInjectivity false in
structure WoD(P:Program)(w:World)(K:uc)(mg:Str->Option Value)(base:Heap)(k:Nat) where
 Tk:Type
 M:Addr->Prop
 fb:Addr
 wt:Tk->Nat
 kids:Tk->List Tk
 wk:∀t,((kids t).map wt).sum+2<=wt t
 IT:Hp->(Addr->Prop)->Tk->V->Prop
 IR:Hp->(Addr->Prop)->Tk->V->Prop
 IF:Hp->(Addr->Prop)->Tk->V->Prop
 S:Type
 pre:Tk->S
 mid:Tk->S
 post:Tk->S
 chn:∀t,Chn pre post (mid t) (kids t) (post t)
 Ok:S->Hp->Prop
 itk:∀{H H' R R' t v s},IT H R t v->Ok s H->Kz M R H H'->(∀b,R b->R' b)->IT H' R' t v
 irk:∀{H H' R R' t v s},IR H R t v->Ok s H->Kz M R H H'->(∀b,R b->R' b)->IR H' R' t v
 ifk:∀{H H' R R' t v s},IF H R t v->Ok s H->Kz M R H H'->(∀b,R b->R' b)->IF H' R' t v
 okk:∀{H H' s},Ok s H->KO M H H'->Ok s H'
 okM:∀{H b s},Ok s H->M b->H b≠none
 beg:∀{H R t v Q},IT H R t v->Ok (pre t) H->(∀b,R b->H b≠none)->(∀b,R b->¬ M b) ->
  (∀H' q l fl vs R',KM M H H'->Ok (mid t) H'->H' q=some (.tup [.ref l,.ref fl])->H l=none->H' l=some (.lst vs)->(∀b,R b->R' b)->(∀b,R' b->R b\/H b=none)->(∀b,R' b->H' b≠none)->R' l->All2 (IT H' R') (kids t) vs->IF H' R' t (.ref fl)->Q (.ref q) H') ->
  CanC P w K mg base k H fb [v] Q E0
 fin:∀{H R t fl rl rs Q},IF H R t (.ref fl)->Ok (post t) H->(∀b,R b->H b≠none)->(∀b,R b->¬ M b)->R rl->H rl=some (.lst rs)->All2 (IR H R) (kids t) rs ->
  (∀H' v R',KM M H H'->Ok (post t) H'->(∀b,R b->R' b)->(∀b,R' b->R b\/H b=none)->(∀b,R' b->H' b≠none)->IR H' R' t v->Q v H') ->
  CanC P w K mg base k H fl [.ref rl] Q E0
structure Bn(K:uc)(cB:Addr):Prop where
 cl:Cls K cB
 b1:NoAttr K cB "within"
 b2:NoAttr K cB "finish"
 b3:NoAttr K cB "results"
def BO(cB dx wa fl ra:Addr):HO:=.ins cB dx [("within",.ref wa),("finish",.ref fl),("results",.ref ra)]
inductive spBInit(cB:Addr)(vs:List V)(H:Hp)(Q:VK)(e_3:XK):Prop
 |mk (x:Addr) (dx:Addr) (wa:Addr):(∃fl:Addr,vs=[.ref x,.ref wa,.ref fl]/\H x=some (.ins cB dx [])/\∀H' ra,(∀b u,b≠x->H b=some u->H' b=some u)->H ra=none->H' ra=some (.lst [])->H' x=some (BO cB dx wa fl ra)->Q .non H')->spBInit cB vs H Q e_3
inductive spOnly(vs:List V)(H:Hp)(Q:VK)(e_3:XK):Prop
 |mk (p:Addr) (v:V):(∃xs:List V,vs=[.ref p]/\H p=some (.lst (v::xs))/\Q v H)->spOnly vs H Q e_3
section
variable{K:uc}
theorem JE:FnScope lS18 lS18 (zp Ya):=.ok
theorem WV(F:Fun K "__init__" "Begun.__init__" Ya f fd)(N:Bn K cB):FnOk P w K mg base CX0 1 f fd lS18 (spBInit cB):=by
 refine F.by JE (fun vs H Q E h=>?_) (fun cdv A outer s H vs Q E hr h=>?_)
 ·obtain⟨x,dx,wa,fl,rfl,_⟩:=h
  rfl
 obtain⟨x,dx,wa,fl,rfl,hx,q⟩:=h;refine⟨_,(zh (wF (jv 0) (jv 1)) (zh (wF (jv 0) (jv 2)) (zk (wF (jv 0) (zC zE))))),?_⟩;refine(zf rfl (zf rfl ⟨x,cB,dx,(zf rfl ⟨hx,N.cl,N.b1,by show 0 < 1000;decide,?_⟩)⟩));refine(zf rfl (zf rfl ⟨x,cB,dx,(zf rfl ⟨zg,N.cl,N.b2,by show 1 < 1000;decide,?_⟩)⟩));refine⟨sN0,fun ra hra=>?_⟩;have nx:ra≠x:=fun z=>by
  rw[z,zg]at hra;cases hra
 have hra':H ra=none:=by
  rw[zj nx,zj nx]at hra;exact hra
 refine(zf rfl ⟨x,cB,dx,(zf rfl ⟨by rw[zj nx.symm];exact zg,N.cl,N.b3,by show 2 < 1000;decide,?_⟩)⟩);refine q _ ra (fun b u n e=>?_) hra' (by rw[zj nx];exact zg) zg;rw[zj n,zj (zo e hra'),zj n,zj n];exact e
theorem zaZ:FnScope ["results"] ["results"] (zp WA):=.ok
theorem JF(F:Fun K "only_one" "only_one" WA f fd):FnOk P w K mg base CX0 1 f fd ["results"] spOnly:=by
 refine F.by zaZ (fun vs H Q E h=>?_) (fun cdv A outer s H vs Q E hr h=>?_)
 ·obtain⟨p,v,xs,rfl,_⟩:=h
  rfl
 obtain⟨p,v,xs,rfl,hp,q⟩:=h;exact⟨_,(zk (zt (xL 0))),(zf rfl (ixL hp aI0 (q)))⟩
end
structure En(Tk:Type) where
 bo:Addr
 dx:Addr
 wa:Addr
 ra:Addr
 fl:Addr
 tk:Option Tk
 ts:List Tk
 rs:List V
section
variable{K:uc}{k:Nat}(D:WoD P w K mg base k)(cB fo:Addr)(root:D.Tk)
structure EnOk(H:Hp)(R:Addr->Prop)(e:En D.Tk):Prop where
 o:H e.bo=some (BO cB e.dx e.wa e.fl e.ra)
 nb:¬ D.M e.bo
 w:∃ws,H e.wa=some (.lst ws)/\All2 (D.IT H R) e.ts ws
 Rw:R e.wa
 r:H e.ra=some (.lst e.rs)
 nr:¬ R e.ra
 nM:¬ D.M e.ra
 le:e.rs.length<=e.ts.length
 rr:All2 (D.IR H R) (e.ts.take e.rs.length) e.rs
 fin:match e.tk with
  |none=>e.fl=fo/\e.ts=[root]
  |some t=>D.IF H R t (.ref e.fl)/\e.ts=D.kids t
inductive Lnk:List (En D.Tk)->Prop
 |bot {e:En D.Tk}:e.tk=none->Lnk [e]
 |up {e e':En D.Tk} {es:List (En D.Tk)} {t:D.Tk}:Lnk (e'::es)->e.tk=some t->e'.ts[e'.rs.length]?=some t->Lnk (e::e'::es)
def mlow:List (En D.Tk)->Nat
 |[]=>0
 |e::es=>1+((e.ts.drop (e.rs.length+1)).map D.wt).sum+mlow es
def mall:List (En D.Tk)->Nat
 |[]=>0
 |e::es=>1+((e.ts.drop e.rs.length).map D.wt).sum+mlow D es
theorem Zl:∀es:List (En D.Tk),es.length<=mlow D es
 |[]=>ud _
 |e::es=>by
  unfold mlow
  have:=Zl es
  rw[um];lia
theorem WW(es:List (En D.Tk)):es.length<=mall D es:=by
 cases es with
 |nil=>exact ud _
 |cons e es =>
  unfold mall
  have:=Zl D es
  rw[um];lia
theorem WX:∀ts:List D.Tk,ts.length<=(ts.map D.wt).sum
 |[]=>ud _
 |t::ts=>by
  have:=WX ts
  have:=D.wk t
  rw[um,ur,uS];lia
def eEnd(e:En D.Tk):D.S:=match e.tk with
 |none=>D.post root
 |some t=>D.post t
def StkL:D.S->List (En D.Tk)->Prop
 |_,[]=>True
 |s,e::es=>Chn D.pre D.post s (e.ts.drop (e.rs.length+1)) (eEnd D root e)/\StkL (eEnd D root e) es
def Stk:D.S->List (En D.Tk)->Prop
 |_,[]=>True
 |s,e::es=>Chn D.pre D.post s (e.ts.drop e.rs.length) (eEnd D root e)/\StkL D root (eEnd D root e) es
variable{D cB fo root}
theorem EnOk.keep{R R':Addr->Prop}{e:En D.Tk}{s:D.S}(h:EnOk D cB fo root H R e)(ok:D.Ok s H)(z:Kz D.M R H H')(rM:∀b,R b->¬ D.M b)(sub:∀b,R b->R' b)(hr:H' e.ra=some (.lst e.rs))(nr:¬ R' e.ra):EnOk D cB fo root H' R' e:=by
 obtain⟨o,nb,⟨ws,w1,w2⟩,Rw,r,nr',nM,le,rr,fin⟩:=h;refine⟨z _ _ o nb (by intro xs q;unfold BO at q;cases q),nb,⟨ws,z _ _ w1 (rM _ Rw) (fun _ _=>Rw),w2.imp fun a b q=>D.itk q ok z sub⟩,sub _ Rw,hr,nr,nM,le,rr.imp fun a b q=>D.irk q ok z sub,?_⟩;cases q:e.tk with
 |none=>rw[q]at fin;exact fin
 |some t=>rw[q]at fin;exact⟨D.ifk fin.1 ok z sub,fin.2⟩
end
end GN
namespace L2
open PySem PySem.Spec PyProof.Rows
variable{o:Option V}{y:V}{xs:List (List Key×Addr×Value)}
section
variable{κ:Type}[DecidableEq κ]
def valV(kvs:List (κ×V))(k:κ):Option V:=(kvs.find? fun kv=>decide (kv.1=k)).map (·.2)
def putK(kvs:List (κ×V))(k:κ)(v:V):List (κ×V) :=
 if(kvs.any fun kv=>decide (kv.1=k))=true then kvs.map (fun kv=>if kv.1=k then(kv.1,v)else kv)else kvs++[(k,v)]
theorem xp{p:κ×V}{r:List (κ×V)}{k:κ}(e:p.1=k):valV (p::r) k=some p.2:=by simp[valV,Uy,e]
theorem xq{p:κ×V}{r:List (κ×V)}{k:κ}(e:¬ p.1=k):valV (p::r) k=valV r k:=by simp[valV,Uy,e]
theorem wg(k:κ):∀kvs:List (κ×V),(kvs.any fun kv=>decide (kv.1=k))=(valV kvs k).isSome
 |[]=>rfl
 |p::r=>by
  rw[Uq];by_cases e:p.1=k
  ·simp only[xp e,decide_eq_true e,Bool.true_or,Option.isSome_some]
  ·rw[xq e,decide_eq_false e,Bool.false_or];exact wg k r
theorem wN(kvs:List (κ×V))(k:κ)(v:V):(putK kvs k v).length<=kvs.length+1:=by
 unfold putK;split
 ·rw[ua];lia
 ·rw[ub,um,List.length_nil];lia
theorem RelO.isSome_eq{u:Option Value}(r:RelO o u):o.isSome=u.isSome:=by
 cases o with
 |none=>cases u with
  |none=>rfl
  |some _=>exact(show False from r).elim
 |some _=>cases u with
  |none=>exact(show False from r).elim
  |some _=>rfl
theorem RelO.getD{u:Option Value}{d:V}{d':Value}(r:RelO o u)(rd:RelV d d'):RelV (o.getD d) (u.getD d'):=by
 cases o with
 |none=>cases u with
  |none=>exact rd
  |some _=>exact(show False from r).elim
 |some _=>cases u with
  |none=>exact(show False from r).elim
  |some _=>exact r
theorem KV.val{kvs:List (κ×V)}{vs:List (κ×Value)}(r:KV kvs vs)(k:κ):RelO (valV kvs k) (valueAt vs k):=by
 unfold KV at r
 induction r with
 |nil=>exact True.intro
 |@cons p q ps qs h t ih =>
  obtain⟨h1,h2⟩:=h;by_cases e:p.1=k
  ·have e':q.1=k:=h1.symm.trans e
   have b:valueAt (q::qs) k=some q.2:=by simp[valueAt,Uy,e']
   rw[xp e,b];exact h2
  ·have e':¬ q.1=k:=fun z=>e (h1.trans z)
   have b:valueAt (q::qs) k=valueAt qs k:=by simp[valueAt,Uy,e']
   rw[xq e,b];exact ih
theorem KV.any{kvs:List (κ×V)}{vs:List (κ×Value)}(r:KV kvs vs)(k:κ):(kvs.any fun kv=>decide (kv.1=k))=vs.any fun kv=>decide (kv.1=k):=by
 unfold KV at r
 induction r with
 |nil=>rfl
 |cons h t ih=>rw[Uq,Uq,ih,h.1]
theorem KV.repl{kvs:List (κ×V)}{vs:List (κ×Value)}(r:KV kvs vs)(k:κ)(ry:RelV y u):
  KV (kvs.map fun kv=>if kv.1=k then(kv.1,y)else kv) (vs.map fun kv=>if kv.1=k then(kv.1,u)else kv):=by
 unfold KV at r ⊢
 induction r with
 |nil=>exact .nil
 |@cons p q ps qs h t ih =>
  rw[ur,ur];refine .cons ?_ ih;obtain⟨h1,h2⟩:=h;by_cases e:p.1=k
  ·rw[if_pos e,if_pos (h1.symm.trans e)];exact⟨h1,ry⟩
  ·rw[if_neg e,if_neg (fun z=>e (h1.trans z))];exact⟨h1,h2⟩
theorem KV.put{kvs:List (κ×V)}{vs:List (κ×Value)}(r:KV kvs vs)(k:κ)(ry:RelV y u):KV (putK kvs k y) (stored vs k u):=by
 unfold putK stored;rw[r.any k];by_cases e:(vs.any fun kv=>decide (kv.1=k))=true
 ·rw[if_pos e,if_pos e];exact r.repl k ry
 ·rw[if_neg e,if_neg e];exact Paired.snoc r ⟨rfl,ry⟩
theorem KV.length{kvs:List (κ×V)}{vs:List (κ×Value)}(r:KV kvs vs):kvs.length=vs.length:=Paired.length r
end
theorem Zm{k:Key}(r:RelV (kV k) u):(zU P w).is k u=true:=by
 cases k with
 |inl i=>obtain⟨t,e⟩:=(show ∃t,u=Value.int i t from r);subst e;exact jZ P w i t
 |inr x=>obtain⟨t,e⟩:=(show ∃t,u=Value.str x t from r);subst e;exact j6 P w x t
theorem vY{P:Program}{w:World}:∀{ks:List Key}{us:List Value},Vals (ks.map kV) us->ItemsAre (zU P w) ks us
 |[],_,r=>by rw[List.map_nil]at r;cases r;exact .nil
 |k::ks,_,r=>by
  rw[ur]at r;cases r with
  |cons h t=>exact .cons (Zm h) (vY t)
abbrev KT(H:Hp):List (List Key×V)->List (List Key×Addr×Value)->Prop:=Paired fun p q=>p.1=q.1/\H q.2.1=some (.tup (p.1.map kV))/\RelV p.2 q.2.2
theorem KT.val(r:KT H kvs xs)(k:List Key):RelO (valV kvs k) ((atKey xs k).map (·.2)):=by
 induction r with
 |nil=>exact True.intro
 |@cons p q ps qs h t ih =>
  obtain⟨h1,_,h2⟩:=h;by_cases e:p.1=k
  ·have e':q.1=k:=h1.symm.trans e
   have b:atKey (q::qs) k=some q.2:=by simp[atKey,Uy,e']
   rw[xp e,b];exact h2
  ·have e':¬ q.1=k:=fun z=>e (h1.trans z)
   have b:atKey (q::qs) k=atKey qs k:=by simp[atKey,Uy,e']
   rw[xq e,b];exact ih
theorem KT.repl(r:KT H kvs xs)(k:List Key)(ry:RelV y u):
  KT H (kvs.map fun kv=>if kv.1=k then(kv.1,y)else kv) (xs.map (putAt k u)):=by
 induction r with
 |nil=>exact .nil
 |@cons p q ps qs h t ih =>
  rw[ur,ur];refine .cons ?_ ih;obtain⟨h1,h2,h3⟩:=h;unfold putAt;by_cases e:p.1=k
  ·rw[if_pos e,if_pos (h1.symm.trans e)];exact⟨h1,h2,ry⟩
  ·rw[if_neg e,if_neg (fun z=>e (h1.trans z))];exact⟨h1,h2,h3⟩
theorem KT.put(r:KT H kvs xs)(k:List Key)(hb:H b=some (.tup (k.map kV)))(ry:RelV y u):
  KT H (putK kvs k y) (storedH xs k b u):=by
 have e:(kvs.any fun kv=>decide (kv.1=k))=(atKey xs k).isSome:=by
  rw[wg,(r.val k).isSome_eq,Option.isSome_map]
 unfold putK storedH;rw[e];by_cases q:(atKey xs k).isSome=true
 ·rw[if_pos q,if_pos q];exact r.repl k ry
 ·rw[if_neg q,if_neg q];exact Paired.snoc r ⟨rfl,hb,ry⟩
theorem KT.keeps(r:KT H kvs xs)(ht:∀b ys,H b=some (.tup ys)->H' b=some (.tup ys)):KT H' kvs xs :=
 Paired.mapP r fun _ _ z=>⟨z.1,ht _ _ z.2.1,z.2.2⟩
theorem QQ{u:HO}(ok:HOk P w H h)(e:Rd H a u):ObjOk P w H h a u:=e.ok ok
theorem Zn{kvs:List (Key×V)}(ok:HOk P w H h)(e:Rd H a (.dK kvs)):kvs.length<=sizeLine/\(a == sysModules)=false/\∃vs,KV kvs vs/\h.DictOf (zU P w) a vs :=
 show ObjOk P w H h a (.dK kvs)from QQ ok e
theorem QR{kvs:List (Key×V)}(ok:HOk P w H h)(e:H a=some (.dK kvs)):kvs.length<=sizeLine/\(a == sysModules)=false/\∃vs,KV kvs vs/\h.DictOf (zU P w) a vs:=Zn ok (.inl e)
theorem vq{ks:List Key}(ok:HOk P w H h)(e:H a=some (.tup (ks.map kV))):(tupleKind (zU P w)).is h ks a:=by
 obtain⟨_,its,r,o,h1,h2,_,n,h3⟩:=(show ObjOk P w H h a (.tup (ks.map kV))from ok a _ e);exact⟨o,its.toArray,n,h1,h2,h3,by simpa using vY r⟩
theorem Zo(ok:HOk P w H h)(e:Rd H a (.dT kvs)):kvs.length<=sizeLine/\(a == sysModules)=false /\
  ∃xs,KT H kvs xs/\h.DictOfH (tupleKind (zU P w)) a xs:=by
 obtain⟨z,y,xs,r,o,es,ep,h1,h2,h3,h4,h5⟩:=(show ObjOk P w H h a (.dT kvs)from QQ ok e);refine⟨z,y,xs,r,o,es,ep,h1,h2,h3,h4,fun x hx=>?_,h5⟩;have all:∀{l:List (List Key×V)}{m:List (List Key×Addr×Value)},KT H l m->∀x∈m,(tupleKind (zU P w)).is h x.1 x.2.1:=by
  intro l m q
  induction q with
  |nil=>intro x hx;exact nomatch hx
  |@cons p q ps qs hq t ih =>
   intro x hx;rcases uq.mp hx with e|hx
   ·subst e
    exact vq ok (by rw[<- hq.1];exact hq.2.1)
   ·exact ih x hx
 exact all r x hx
theorem zbS(ok:HOk P w H h)(e:H a=some (.dT kvs)):kvs.length<=sizeLine/\(a == sysModules)=false /\
  ∃xs,KT H kvs xs/\h.DictOfH (tupleKind (zU P w)) a xs:=Zo ok (.inl e)
def DGet(H:Hp)(a:Addr)(y:V)(r:Option V):Prop :=
 (∃kvs k,Rd H a (.dK kvs)/\y=kV k/\r=valV kvs k)\/∃kvs k b,Rd H a (.dT kvs)/\y=.ref b/\H b=some (.tup (k.map kV))/\r=valV kvs k
def DPut(H:Hp)(a:Addr)(y v:V)(H':Hp):Prop :=
 (∃kvs k,H a=some (.dK kvs)/\y=kV k/\kvs.length < sizeLine/\H'=upd H a (.dK (putK kvs k v))) \/
 ∃kvs k b,H a=some (.dT kvs)/\y=.ref b/\H b=some (.tup (k.map kV))/\kvs.length < sizeLine/\H'=upd H a (.dT (putK kvs k v))
theorem DGet.k{kvs:List (Key×V)}{k:Key}(e:H a=some (.dK kvs)):DGet H a (kV k) (valV kvs k):=.inl ⟨kvs,k,.inl e,rfl,rfl⟩
theorem DPut.k{kvs:List (Key×V)}{k:Key}{v:V}(e:H a=some (.dK kvs))(hl:kvs.length < sizeLine):DPut H a (kV k) v (upd H a (.dK (putK kvs k v))):=.inl ⟨kvs,k,e,rfl,hl,rfl⟩
section
variable{v:V}{r:Value}
theorem Inv.big(I:Inv X pins σ H s):sysModules < s.heap.objs.size:=by
 have h:mainGlobals < s.heap.objs.size:=(I.mod.glob.keeps I.bk).lt;exact Nat.lt_trans (by decide) h
theorem d_in{Q:VSP}(hu:A.units+1 < cLine)(I:Inv X pins σ H s)(g:DGet H a y o)(ry:RelV y u)(h:∀s',Inv X pins σ H s'->Q (.bool o.isSome) s'):
  wpAny (model X.prog X.w) A (compareOp .In u (.ref a)) Q E s:=by
 rcases g with⟨kvs,k,e,ey,l⟩|⟨kvs,k,b,e,ey,eb,l⟩
 ·subst ey
  obtain⟨z,hd,vs,rel,dd⟩:=Zn I.hok e;refine wpAny_in_of (Zm ry) hd dd.mapOf ?_;rw[<- (rel.val k).isSome_eq,<- l];exact h _ (I.tok _)
 ·subst ey
  cases(show u=Value.ref b from ry);obtain⟨z,hd,xs,rel,dd⟩:=Zo I.hok e;refine wpAny_in_heap (tupleKind_room_in1 hu) (vq I.hok eb) hd dd ?_;have q:=(rel.val k).isSome_eq;rw[Option.isSome_map]at q;rw[<- q,<- l];exact h _ (I.tok _)
theorem JG{Q:VSP}(hu:A.units+1 < cLine)(I:Inv X pins σ H s)(g:DGet H a y o)(ry:RelV y u)(h:∀s',Inv X pins σ H s'->Q (.bool (!o.isSome)) s'):
  wpAny (model X.prog X.w) A (compareOp .NotIn u (.ref a)) Q E s:=by
 rcases g with⟨kvs,k,e,ey,l⟩|⟨kvs,k,b,e,ey,eb,l⟩
 ·subst ey
  obtain⟨z,hd,vs,rel,dd⟩:=Zn I.hok e;refine wpAny_notIn_of (Zm ry) hd dd.mapOf ?_;rw[<- (rel.val k).isSome_eq,<- l];exact h _ (I.tok _)
 ·subst ey
  cases(show u=Value.ref b from ry);obtain⟨z,hd,xs,rel,dd⟩:=Zo I.hok e;refine wpAny_notIn_heap (tupleKind_room_in1 hu) (vq I.hok eb) hd dd ?_;have q:=(rel.val k).isSome_eq;rw[Option.isSome_map]at q;rw[<- q,<- l];exact h _ (I.tok _)
theorem YT{ob:HO}(I:Inv X pins σ H s)(mu:Mut (H a))(hs:Heap.SameBut a s.heap h')(he:∃q,h'.get? a=some q)(new:ObjOk X.prog X.w (upd H a ob) h' a ob):
  Inv X pins σ (upd H a ob) { s with heap:=h',toks:=t' } :=
 I.write (x:=a) (e:=a) mu (.inl rfl) (fun b q hb z=>(hs.2 b hb).trans z) he new
theorem za0{kvs:List (Key×V)}{vs:List (Key×Value)}(z:kvs.length<=sizeLine)(hd:(a == sysModules)=false)(rel:KV kvs vs)(dd:h'.DictOf (zU P w) a vs):
  ObjOk P w H' h' a (.dK kvs):=⟨z,hd,vs,rel,dd⟩
theorem XC(hu:A.units+1 < cLine)(I:Inv X pins σ H s)(g:DPut H a y v H')(ry:RelV y u)(rv:RelV v r)(h:∀s',Inv X pins σ H' s'->Q () s'):
  wpAny (model X.prog X.w) A (setItem (.ref a) u r) Q E s:=by
 rcases g with⟨kvs,k,e,ey,l,eH⟩|⟨kvs,k,b,e,ey,eb,l,eH⟩
 ·subst ey eH
  obtain⟨z,hd,vs,rel,dd⟩:=QR I.hok e;have hz:vs.length<=sizeLine:=by rw[<- rel.length];exact z
  have hl:(putK kvs k v).length<=sizeLine:=by have:=wN kvs k v;lia
  refine wpAny_setItem_pairs (hsz:=hz) (Zm ry) dd fun h' dd' hs=>h _ ?_;have he:∃q,h'.get? a=some q:=let ⟨q,_,_,hq,_⟩:=dd';⟨q,hq⟩
  exact YT I (by rw[e];exact True.intro) hs he (za0 hl hd (rel.put k rv) dd')
 ·subst ey eH
  cases(show u=Value.ref b from ry);obtain⟨z,hd,xs,rel,dd⟩:=zbS I.hok e;have hz:xs.length<=sizeLine:=by rw[<- Paired.length rel];exact z
  have hl:(putK kvs k v).length<=sizeLine:=by have:=wN kvs k v;lia
  refine wpAny_setItem_heap (hsz:=hz) (tupleKind_room_in1 hu) (vq I.hok eb) dd fun h' dd' hs=>h _ ?_;obtain⟨q,es,ep,hq,h2,h3,h4,_,h5⟩:=dd';refine YT I (by rw[e];exact True.intro) hs ⟨q,hq⟩ ⟨hl,hd,_,(rel.put k eb rv).keeps fun c ys ec=>?_,q,es,ep,hq,h2,h3,h4,h5⟩;rw[zj (xh ec e (fun z=>nomatch z))];exact ec
end
def tDIn(ty td:TE):TE:=fun σ H Q=>ty σ H fun y H1=>td σ H1 fun x H2=>∃a o,x=.ref a/\DGet H2 a y o/\Q (.bl o.isSome) H2
def YU(ty td:TE):TE:=fun σ H Q=>ty σ H fun y H1=>td σ H1 fun x H2=>∃a o,x=.ref a/\DGet H2 a y o/\Q (.bl (!o.isSome)) H2
def QS(td ty tv:TE):TS:=fun D σ H=>tv σ H fun v H1=>td σ H1 fun x H2=>ty σ H2 fun y H3=>∃a H4,x=.ref a/\DPut H3 a y v H4/\D.nx σ H4
section
variable{o i:Expr}{td tv:TE}
theorem za1(hu:X.A.units+1 < cLine)(hi:PE X i ty)(ho:PE X o td):PC X .In i o (tDIn ty td):=by
 intro pins s σ H Q I h;refine thn (hi pins s σ H _ I h) fun iv s1 ⟨y,H1,I1,ry,q1⟩=>thn (ho pins s1 σ H1 _ I1 q1) fun u s2 hq_=>?_;obtain⟨x,H2,I2,rx,a,ov,ex,g,q2⟩:=hq_;subst ex;obtain rfl:u=Value.ref a:=rx;exact d_in hu I2 g ry fun s3 I3=>⟨.bl ov.isSome,H2,I3,rfl,q2⟩
theorem XD(hu:X.A.units+1 < cLine)(hi:PE X i ty)(ho:PE X o td):PC X .NotIn i o (YU ty td):=by
 intro pins s σ H Q I h;refine thn (hi pins s σ H _ I h) fun iv s1 ⟨y,H1,I1,ry,q1⟩=>thn (ho pins s1 σ H1 _ I1 q1) fun u s2 hq_=>?_;obtain⟨x,H2,I2,rx,a,ov,ex,g,q2⟩:=hq_;subst ex;obtain rfl:u=Value.ref a:=rx;exact JG hu I2 g ry fun s3 I3=>⟨.bl (!ov.isSome),H2,I3,rfl,q2⟩
theorem JH(hu:X.A.units+1 < cLine)(ho:PE X o td)(hi:PE X i ty)(hv:PE X value tv)(hs:swapsWith value (some (.Subscript o i pos')) pos.line X.env=pure false):
  PS X (.Assign [.Subscript o i pos'] value pos) (QS td ty tv):=by
 intro pins s σ H D I h;refine wpAny_Assign_Subscript (thn (hv pins s σ H _ I h) fun r s1 ⟨v,H1,I1,rv,q1⟩=>thn (ho pins s1 σ H1 _ I1 q1) fun u s2 ⟨x,H2,I2,rx,q2⟩=>thn (hi pins s2 σ H2 _ I2 q2) fun iv s3 ⟨y,H3,I3,ry,a,H4,ex,g,q3⟩=>?_) hs;subst ex;obtain rfl:u=Value.ref a:=rx;exact XC hu I3 g ry rv fun s4 I4=>⟨σ,H4,I4,q3⟩
end
theorem WY(h:Heap)(hb:sysModules < h.objs.size):ObjOk P w H (h.push { cls:=.type "dict",data:=.dict #[] }) h.objs.size (.dK []) :=
 ⟨uF _,beq_eq_false_iff_ne.mpr (Ne.symm (uK hb)),[],.nil,Heap.DictOf.new h⟩
def WZ:TE:=fun _ H Q=>∀p,H p=none->Q (.ref p) (upd H p (.dK []))
theorem W9:PE X (.Dict [] [] pos) WZ:=fun pins s σ H Q I h =>
 wpAny_Dict_empty ⟨.ref s.heap.objs.size,_,I.laid (a:=s.heap.objs.size) (o:=.dK []) (t':=s.toks) (fun _ _ q=>uf _ q) (ud _) (WY s.heap I.big),rfl,h _ (I.hok.fresh (ud _))⟩
structure M2(X:Cx)(o:Expr)(m:Str)(apos:Pos)(e f:Expr)(cpos:Pos):Prop where
 base:attributeBase o m X.env (eval o X.env)=eval o X.env
 few:((backTo cpos (starEach [e,f] X.env)).all (fun x=>!x.1) && (backToKw cpos (keywordEach [] X.env)).all (fun x=>x.1.isSome)
  && decide (([e,f]:List Expr).length+([]:List Keyword).length+(if([]:List Keyword).isEmpty then 0 else 1) < 30))=true
 line:(apos.endLine == cpos.line)=true
 trees:backTo cpos (starEach [e,f] X.env)=[(false,eval e X.env),(false,eval f X.env)]
def IsD(H:Hp)(a:Addr):Prop:=(∃kvs,Rd H a (.dK kvs))\/∃kvs,Rd H a (.dT kvs)
theorem za2(I:Inv X pins σ H s)(d:IsD H a):
  s.TypeIs (.ref a) "dict"/\(∀b,Value.ref a=.ref b->∃ob,s.heap.get? b=some ob/\ob.dict=none)/\(a == sysModules)=false:=by
 rcases d with⟨kvs,e⟩|⟨kvs,e⟩
 ·obtain⟨_,hd,vs,_,dd⟩:=Zn I.hok e
  refine⟨dd.typeIs,fun b q=>?_,hd⟩;cases q;obtain⟨ob,_,_,h1,h2,_⟩:=dd;exact⟨ob,h1,h2.2.1⟩
 ·obtain⟨_,hd,xs,_,dd⟩:=Zo I.hok e
  refine⟨dd.typeIs,fun b q=>?_,hd⟩;cases q;obtain⟨ob,_,_,h1,h2,_⟩:=dd;exact⟨ob,h1,h2.2.1⟩
section
variable{d:V}{r:Value}
theorem za3{Q:VSP}(hu:A.units+1 < cLine)(I:Inv X pins σ H s)(g:DGet H a y o)(ry:RelV y u)(rd:RelV d r)(h:∀w' s',Inv X pins σ H s'->RelV (o.getD d) w'->Q w' s'):
  wpAny (model X.prog X.w) A (call (.builtin "dict.get") [.ref a,u,r]) Q E s:=by
 rcases g with⟨kvs,k,e,ey,l⟩|⟨kvs,k,b,e,ey,eb,l⟩
 ·subst ey
  obtain⟨z,hd,vs,rel,dd⟩:=Zn I.hok e;refine call_meetsIn PySem.F.slot_dict_get dd.typeIs PySem.F.entry_dict_get (PySem.F.args_dict_get_3 _ _ _) (meets_dict_get_default (zU X.prog X.w) a (Zm ry) hd r) ⟨_,dd.mapOf,h _ _ (I.tok _) ?_⟩;rw[l];exact(rel.val k).getD rd
 ·subst ey
  cases(show u=Value.ref b from ry);obtain⟨z,hd,xs,rel,dd⟩:=Zo I.hok e;refine call_meetsIn PySem.F.slot_dict_get dd.typeIs PySem.F.entry_dict_get (PySem.F.args_dict_get_3 _ _ _) (meetsH_dict_get_default (tupleKind (zU X.prog X.w)) a b hd r) ⟨tupleKind_room_in1 hu,k,xs,vq I.hok eb,dd,h _ _ (I.tok _) ?_⟩;rw[l];exact(rel.val k).getD rd
end
def Va(td ty tx:TE):TE:=fun σ H Q=>td σ H fun x H1=>∃a,x=.ref a/\IsD H1 a/\ty σ H1 fun y H2=>tx σ H2 fun z H3=>∃o,DGet H3 a y o/\Q (o.getD z) H3
section
variable{o f:Expr}{td tx:TE}
theorem Vb(hu:X.A.units+1 < cLine)(ho:PE X o td)(he:PE X e ty)(hf:PE X f tx)(m:M2 X o "get" apos e f cpos):PE X (.Call (.Attribute o "get" apos) [e,f] [] cpos) (Va td ty tx):=by
 intro pins s σ H Q I h;refine wpAny_Call_method m.base m.few m.line PySem.F.plainAttrs_dict PySem.F.slot_dict_get PySem.F.type_dict_get (thn (ho pins s σ H _ I h) fun u s1 hq_=>?_);obtain⟨x,H1,I1,rx,a,ex,d,q1⟩:=hq_;subst ex;obtain rfl:u=Value.ref a:=rx;obtain⟨t1,t2,_⟩:=za2 I1 d;refine⟨t1,t2,?_⟩;rw[m.trees];refine Calls.callWith_builtin rfl (Calls.evalArgs_plain (Calls.spliced_cons (thn (he pins s1 σ H1 _ I1 q1) fun iv s2 ⟨y,H2,I2,ry,q2⟩ =>
  Calls.spliced_cons (thn (hf pins s2 σ H2 _ I2 q2) fun fv s3 ⟨z,H3,I3,rz,ov,g,q3⟩=>Calls.spliced_nil ?_))))
 exact za3 hu I3 g ry rz fun w' s4 I4 rw'=>⟨_,H3,I4,rw',q3⟩
end
theorem vt:jE X (.Dict [] [] pos) WZ:=⟨W9⟩
theorem SqK.l{K:uc}{xs:List V}(h:H a=some (.lst xs)):SqK true K H a xs:=SqL.of h
theorem SqK.t{K:uc}{xs:List V}(h:H a=some (.tup xs)):SqK false K H a xs:=SqT.of h
theorem YV{K:uc}{k m:Bool}{xs ys:List V}{g:TG}{tb:TS}{D:Ends}(hlen:xs.length=ys.length)(Pv:Nat->St->Hp->Prop)(h0:Pv 0 σ H)(hl:∀i σ H,i<=xs.length->Pv i σ H->SqK k K H a xs/\SqK m K H b ys)
  (hs:∀i x y T σ H,xs[i]?=some x->ys[i]?=some y->H T=none->Pv i σ H->g (.ref T) σ (upd H T (.tup [x,y])) fun σ2 H2=>tb { D with nx:=Pv (i+1),ct:=Pv (i+1),bk:=D.nx } σ2 H2) (hd:∀σ H,Pv xs.length σ H->D.nx σ H) :
  ∃W:Nat->Nat->St->Hp->Prop,(∃m,W 0 m σ H)/\∀i n σ H,W i n σ H ->
   ((Itz K k m a b).stop i H/\D.nx σ H)\/((Itz K k m a b).go i H/\∃N:St->Hp->Prop,(∀σ' H',N σ' H'->∃m',m' < n/\W (i+1) m' σ' H')/\∀x H',(Itz K k m a b).yld i H x H'->g x σ H' fun σ2 H2=>tb { D with nx:=N,ct:=N,bk:=D.nx } σ2 H2):=by
 refine⟨fun i m σ H=>m=xs.length-i/\i<=xs.length/\Pv i σ H,⟨xs.length,by simp,uF _,h0⟩,?_⟩;rintro i n σ H ⟨rfl,hi,p⟩;obtain⟨q1,q2⟩:=hl i σ H hi p;by_cases hlt:i < xs.length
 ·refine .inr ⟨go2 q1 q2 (ui hlt) (ui (hlen ▸ hlt)),Pv (i+1),fun σ' H' p'=>⟨xs.length-(i+1),by lia,rfl,hlt,p'⟩,fun x H' yq=>?_⟩
  obtain⟨T,x,y,rfl,hT,rfl,e1,e2⟩:=yld2 yq q1 q2;exact hs i x y T σ H e1 e2 hT p
 ·have e:i=xs.length:=by lia
  subst e;exact .inl ⟨QO q1 q2 (ud _),hd σ H p⟩
def lay(H:Hp):List (Addr×HO)->Hp
 |[]=>H
 |p::r=>upd (lay H r) p.1 p.2
theorem zbT{k:Key}(h:(zU P w).is k u=true):RelV (kV k) u:=by
 rw[ZP]at h;rcases zP h with⟨i,t,rfl,rfl⟩|⟨x,t,rfl,rfl⟩
 ·exact⟨t,rfl⟩
 ·exact⟨t,rfl⟩
theorem wX{o i:Expr}{td tv:TE}{k:Nat}(hr:Room k X.A)(ho:jE X o td)(hi:jE X i ty)(hv:jE X value tv)(hs:swapsWith value (some (.Subscript o i pos')) pos.line X.env=pure false:=by rfl):
  jS X (.Assign [.Subscript o i pos'] value pos) (QS td ty tv):=⟨JH (by have:=hr.units;lia) ho.out hi.out hv.out hs⟩
theorem KV.get{kvs:List (Key×V)}{ws:List (Key×Value)}(r:KV kvs ws){k:Key}{x:Value}(h:ws[j]?=some (k,x)):∃y,kvs[j]?=some (k,y)/\RelV y x:=by
 unfold KV at r
 induction r generalizing j with
 |nil=>simp at h
 |@cons p q ps qs hh t ih =>
  cases j with
  |zero =>
   simp at h
   subst h;obtain⟨p1,p2⟩:=p;have e:p1=k:=hh.1;subst e;exact⟨p2,rfl,hh.2⟩
  |succ j =>
   obtain⟨y,h1,h2⟩:=ih (j:=j) (by simpa using h);exact⟨y,by simpa using h1,h2⟩
end L2
namespace K11
open PySem
def sg(c:Nat):Str:=⟨#[c]⟩
theorem vv(a:Array Nat):∀(k:Nat)(acc:Array Nat),((Ut k a).foldl (· ++ ·) acc).size=acc.size+k*a.size
 |0,acc=>by simp
 |k+1,acc=>by
  rw[List.replicate_succ,List.foldl_cons,vv a k,Array.size_append,Nat.add_mul];lia
theorem JI{n:Int}(hz:z.length=1):(Txt.mul z n).length<=n.toNat:=by
 unfold Txt.mul;split
 ·simp[Str.empty,Str.length]
 ·rename_i h
  split
  ·rw[hz];lia
  ·show((Ut n.toNat z.cps).foldl (· ++ ·) #[]).size<=n.toNat
   have e:z.cps.size=1:=hz;rw[vv,e];simp
theorem za4{n:Int}(hz:z.length=1)(h0:0<=n)(h1:n<=1000):MulOk z n:=by
 have hs:sizeLine=16777216:=by decide
 refine⟨?_,fun a b=>?_,fun a b=>?_⟩
 ·have e1:decide (n < -(2 ^ 63:Int))=false:=decide_eq_false (by lia)
  have e2:decide (n ≥ 2 ^ 63)=false:=decide_eq_false (by lia);rw[e1,e2];rfl
 ·rw[hz]
  have:(1:Int)<=(2 ^ 63-1) / n:=Int.le_ediv_of_mul_le (by lia) (by lia)
  intro c;have c':(1:Int) > (2 ^ 63-1) / n:=c;lia
 ·rw[hz]
  unfold Builtin.Str.tooLong;exact decide_eq_false (by rw[hs];lia)
end K11
namespace K11
open PySem PySem.Spec PyProof.Rows Builtin Builtin.Str
abbrev cl(z:Str):List Nat:=z.cps.toList
theorem xg(z:Str):(cl z).length=z.length:=by simp[Str.length]
theorem yb(x y:Str):cl (x++y)=cl x++cl y:=by
 show(x.cps++y.cps).toList=_;simp
theorem jy{sep:Str}{r:LS}:cl (Str.join sep (x::y::r))=cl x++(cl sep++cl (Str.join sep (y::r))):=by
 show cl (x++sep++Str.join sep (y::r))=_;rw[yb,yb,u7]
end K11
namespace L2
open PySem
section
variable{i:Expr}{to ti:TE}
theorem xD(ho:jE X o to)(hi:jE X i ti)(ha:∀v,assign (.Subscript o i pos) X.env v=(do
   let ov <- holding [v] (eval o X.env)
   let iv <- holding [v,ov] (eval i X.env)
   standAt pos
   holding [v,ov,iv] (setItem ov iv v)
   release [v,ov,iv] []):=by intro _;rfl):jG X (.Subscript o i pos) (gSub to ti QK):=⟨zao ho.out hi.out Wa ha⟩
end
end L2
namespace GN
open PySem L2 K11
variable{st:Addr}{o:HO}
theorem zi(h:H p=none)(o:HO):Same H (upd H p o):=fun b u q=>by rw[zj (zo q h)];exact q
def LIM:Nat:=4611686018427387904
inductive Sta(K:uc)(H:Hp)(st:Addr)(B:Nat):Prop
 |mk (a:Addr) (ns:List Int):(∃k:Nat,H st=some (.lst [.ref a,.int (k:Nat)])/\(a=st->∀H',SqL K H' a (ns.map V.int))/\SqL K H a (ns.map V.int)/\k<=B)->Sta K H st B
structure Kp(st:Addr)(H H':Hp):Prop where
 k:∀b u,b≠st->H b=some u->H' b=some u
 s:∀a k,H st=some (.lst [.ref a,.int k])->∃k',H' st=some (.lst [.ref a,.int k'])
theorem Kp.refl:Kp st H H:=⟨fun _ _ _ h=>h,fun _ k h=>⟨k,h⟩⟩
theorem Kp.trans(a:Kp st H H1)(b:Kp st H1 H2):Kp st H H2:=⟨fun c u n h=>b.k c u n (a.k c u n h),fun x k h=>let ⟨k',h'⟩:=a.s x k h;b.s x k' h'⟩
theorem Kp.of(a:Same H H1):Kp st H H1:=⟨fun c u _ h=>a c u h,fun _ k h=>⟨k,a _ _ h⟩⟩
theorem Kp.new(a:Kp st H H1)(h:H1 p=none):Kp st H (upd H1 p o):=a.trans (.of (zi h o))
theorem Kp.put(a:Kp st H H1)(h:H p=none):Kp st H (upd H1 p o):=⟨fun b u n q=>by rw[zj (zo q h)];exact a.k b u n q,fun x k q=>by
 obtain⟨k',h'⟩:=a.s x k q;exact⟨k',by rw[zj (zo q h)];exact h'⟩⟩
theorem Kp.seq{K:uc}(e:Kp st H H')(n:a≠st)(h:SqL K H a xs):SqL K H' a xs:=by
 rcases h with(h|⟨o,h⟩)|h
 ·exact .inl (.inl (e.k _ _ n h))
 ·exact .inl (.inr ⟨o,e.k _ _ n h⟩)
 ·exact .inr h
theorem Kp.free(e:Kp st H H')(n:p≠st)(h:H' p=none):H p=none:=by
 cases q:H p with
 |none=>rfl
 |some o =>
  rw[e.k p o n q]at h;cases h
section
variable{K:uc}
theorem Sta.ex(h:Sta K H st B):∃o,H st=some o:=by obtain⟨_,_,_,e,_⟩:=h;exact⟨_,e⟩
theorem Sta.mono(h:Sta K H st B)(l:B<=B'):Sta K H st B':=by obtain⟨a,ns,k,h1,h2,h3,h4⟩:=h;exact⟨a,ns,k,h1,h2,h3,uC h4 l⟩
theorem Sta.same(h:Sta K H st B)(s:Same H H'):Sta K H' st B:=by obtain⟨a,ns,k,h1,h2,h3,h4⟩:=h;exact⟨a,ns,k,s _ _ h1,h2,s.seq h3,h4⟩
theorem Sta.new(h:Sta K H st B)(hp:H p=none)(o:HO):Sta K (upd H p o) st B:=h.same (zi hp o)
theorem Sta.ne(h:Sta K H st B)(hp:H p=none):p≠st:=fun e=>by
 obtain⟨o,q⟩:=h.ex;rw[e,q]at hp;cases hp
theorem Sta.neR(h:Sta K H st B)(hp:H p=some (.lst (ts.map V.ref))):p≠st:=fun e=>by
 obtain⟨a,ns,k,h1,_⟩:=h;rw[e,h1]at hp;have e2:=congrArg (fun o=>match o with|some (HO.lst l)=>l|_=>[]) hp;simp only at e2
 match ts,e2 with
 |[_,_],e2=>simp at e2
 |[],e2=>simp at e2
 |[_],e2=>simp at e2
 |_::_::_::_,e2=>simp at e2
theorem Sta.neS{ts:LS}(h:Sta K H st B)(hp:H p=some (.lst (ts.map V.str))):p≠st:=fun e=>by
 obtain⟨a,ns,k,h1,_⟩:=h;rw[e,h1]at hp;have e2:=congrArg (fun o=>match o with|some (HO.lst l)=>l|_=>[]) hp;simp only at e2
 match ts,e2 with
 |[],e2=>simp at e2
 |_::_,e2=>simp at e2
theorem Sta.neW(h:Sta K H st B)(hp:H p=some (.lst (.str x::xs))):p≠st:=fun e=>by
 obtain⟨a,ns,k,h1,_⟩:=h;rw[e,h1]at hp;simp at hp
theorem Sta.put(S0:Sta K H st B)(hp:H p=none)(k:Kp st H H2)(S2:Sta K H2 st B'):Sta K (upd H2 p o) st B':=by
 obtain⟨a,ns,i,h1,h2,h3,_⟩:=S0;obtain⟨a',ns',i',g1,g2,g3,g4⟩:=S2;obtain⟨k',h'⟩:=k.s a _ h1;rw[g1]at h';have ea:a'=a:=by
  have:=congrArg (fun o=>match o with|some (HO.lst (V.ref x::_))=>x|_=>0) h'
  exact this
 subst ea;have g1':upd H2 p o st=some (.lst [.ref a',.int ((i':Nat):Int)]):=by rw[zj (zo h1 hp)];exact g1
 have key:a'≠p->Sta K (upd H2 p o) st B':=fun n=>by
  refine⟨a',ns',i',g1',g2,?_,g4⟩;rcases g3 with(g|⟨o,g⟩)|g
  ·exact .inl (.inl (by rw[zj n];exact g))
  ·exact .inl (.inr ⟨o,by rw[zj n];exact g⟩)
  ·exact .inr g
 rcases h3 with(h|⟨_,h⟩)|h
 ·exact key (zo h hp)
 ·exact key (zo h hp)
 ·exact⟨a',ns,i',g1',fun _ _=>.inr h,.inr h,g4⟩
def Tups(H H':Hp):Prop:=∀p xs,H p=some (.tup xs)->H' p=some (.tup xs)
theorem Tups.of(s:Same H H'):Tups H H':=fun p xs h=>s p _ h
theorem Tups.trans(a:Tups H H')(b:Tups H' H2):Tups H H2:=fun p xs h=>b p xs (a p xs h)
theorem Kp.tups(k:Kp st H H')(h:Sta K H st B):Tups H H':=fun p xs q=>k.k p _ (fun e=>by
 obtain⟨_,_,_,h1,_⟩:=h;rw[e,h1]at q;cases q) q
end
inductive spDraw(K:uc)(vs:List V)(H:Hp)(Q:VK)(e_3:XK):Prop
 |mk (st:Addr) (m:Int):(∃B:Nat,vs=[.ref st,.int m]/\Sta K H st B/\B < LIM/\0 < m/\∀(H':Hp)(r:Int),Kp st H H'->Sta K H' st (B+1)->0<=r->r < m->Q (.int r) H')->spDraw K vs H Q e_3
def LET:Str:="abcdefghijklmnopqrstuvwxyz"
theorem za5:cl LET=(uV 26).map (97 + ·):=by decide +kernel
def lt(i:Nat):Str:=sg (97+i)
theorem za6(h:i < 26):atI LET.cps.toList (i:Int)=some (97+i):=by
 refine zN ?_;show(cl LET)[i]?=_;rw[za5,ug,List.getElem?_range h]
 rfl
theorem jz{m:Int}(h0:0<=m)(h:m < 26):atI LET.cps.toList m=some (97+m.toNat):=by
 have e:=za6 (i:=m.toNat) (by lia);rw[Int.toNat_of_nonneg h0]at e;exact e
theorem jB:LET.length=26:=by decide +kernel
def core(k:Nat):Str:=lt (k / 2 % 26)++("z":Str)++lt (k / 52 % 26)
def ys(k:Nat):Str:=Txt.mul "y" ((k % 2:Nat):Int)
def nm(z:Str)(b:Bool)(k:Nat):Str:=if b=true then core k++z++ys k else ys k++z++core k
theorem wY(k:Nat):cl (core k)=[97+k / 2 % 26,122,97+k / 52 % 26]:=by
 unfold core;rw[yb,yb]
 rfl
theorem Vc(k:Nat):(core k).length=3:=by rw[<- xg,wY];rfl
theorem za7(k:Nat):(ys k).length<=1:=by
 have h:=JI (z:="y") (n:=((k % 2:Nat):Int)) rfl;unfold ys;lia
theorem YW(a b:Str):(a++b).length=a.length+b.length:=by rw[<- xg,yb,ub,xg,xg]
inductive spNm(vs:List V)(H:Hp)(Q:VK)(e_3:XK):Prop
 |mk (p:Addr) (z:Str) (b:Bool) (xs:List V):(∃k:Nat,vs=[.ref p,.int (k:Nat)]/\H p=some (.lst (.str z::.bl b::xs))/\z.length<=6/\Q (.str (nm z b k)) H)->spNm vs H Q e_3
section
variable{K:uc}
theorem scDraw:FnScope ["_law_state","_law_many","_law_k","_law_cell"] lS1 (zp WC):=.ok
theorem JJ(F:Fun K "_law_draw" "_law_draw" WC f fd)(m_len:mg "len"=none):FnOk P w K mg base CX0 1 f fd lS1 (spDraw K):=by
 refine F.by scDraw (fun vs H Q E h=>?_) (fun cdv A outer s H vs Q E hr h=>?_)
 ·obtain⟨st,m,B,rfl,_⟩:=h
  rfl
 obtain⟨st,m,B,rfl,⟨a,ns,k,hst,hne,hS,hk⟩,hB,hm,q⟩:=h;refine⟨_,
  (zh (sE 2 scDraw.nd (xL 0))
  (zh (xb (zw zO (jv 2) zn) (xD (jv 0) zn))
  (zh (zy (tN Zg (jv 2) (jL m_len (xL 0)))
   (zk (zt (zw xm (xX z7 (xL 0) (jv 2)) (jv 1)))) zu)
  (zh (sE 3 scDraw.nd (zw zO (zw jm (jv 2) zn) zn))
  (zh (zy (tN xV (jL m_len (xL 0)) zn)
   (zk (sE 3 scDraw.nd (zw zO (jv 3) (zw jm (xX z7 (xL 0) (zw xm (zw jm (jv 2) zn) (jL m_len (xL 0)))) (zw zO zn (jv 2)))))) zu)
  (zk (zt (zw xm (zw xm (jv 3) zn) (jv 1))))))))),?_⟩
 refine⟨_,rfl,ixL hst aI1 ?_⟩;refine⟨_,rfl,_,_,rfl,rfl,_,rfl,st,_,1,1,rfl,rfl,hst,rfl,?_⟩;have kp:Kp st H (upd H st (.lst [.ref a,.int ((k+1:Nat):Int)])):=⟨fun b u n h=>by rw[zj n];exact h,fun x y h=>by
  rw[hst]at h;cases h;exact⟨_,zg⟩⟩
 have hst1:=zg (H:=H) (a:=st) (o:=.lst [.ref a,.int ((k+1:Nat):Int)]);have hS1:SqL K (upd H st (.lst [.ref a,.int ((k+1:Nat):Int)])) a (ns.map V.int):=by
  by_cases e:a=st
  ·exact hne e _
  ·exact kp.seq e hS
 have fin:∀r:Int,0<=r->r < m->Q (.int r) (upd H st (.lst [.ref a,.int ((k+1:Nat):Int)])):=fun r h0 h1=>q _ r kp ⟨a,ns,k+1,hst1,hne,hS1,by lia⟩ h0 h1;show(tSeq _ _:TS) _ _ (upd H st (.lst [.ref a,.int ((k+1:Nat):Int)]));generalize upd H st (.lst [.ref a,.int ((k+1:Nat):Int)])=H1 at *;have ix0:atI [V.ref a,V.int ((k+1:Nat):Int)] 0=some (.ref a):=aI0;have mm:∀x:Int,0<=x % m/\x % m < m:=fun x=>⟨Int.emod_nonneg x (by lia),Int.emod_lt_of_pos x hm⟩;refine⟨_,rfl,_,rfl,st,_,_,_,rfl,rfl,SqL.of hst1,ix0,_,_,rfl,.inl hS1,_,_,rfl,rfl,_,rfl,?_⟩;rw[ua];refine ite2 (fun c=>?_) (fun c=>?_)
 ·rw[decide_eq_true_eq]at c
  have hi:k < ns.length:=by lia
  have hx:(ns.map V.int)[k]?=some (.int ns[k]):=by rw[ug,ui hi];rfl
  exact⟨_,rfl,st,_,_,_,rfl,rfl,SqL.of hst1,ix0,_,rfl,a,_,_,_,rfl,rfl,hS1,zN hx,_,rfl,_,_,rfl,rfl,hm,fin _ (mm _).1 (mm _).2⟩
 ·refine⟨_,rfl,_,_,rfl,rfl,.inr ⟨by decide,by decide⟩,_,_,rfl,rfl,?_⟩
  have tail:∀(c:Int)(D:Ends),D.rt=Q->(tRet (tOp (rI (fun _ j=>0 < j) fun i j=>V.int (i % j)) (tOp (rI (fun _ j=>0 < j) fun i j=>V.int (i % j)) (tVar 3) (tC (.int 2147483629))) (tVar 1)):TS) D [oR st,some (.int m),some (.int (k:Nat)),some (.int c)] H1:=fun c D e=>by
   refine⟨_,rfl,_,_,rfl,rfl,(by show(0:Int) < _;decide),_,rfl,_,_,rfl,rfl,hm,?_⟩;rw[e];exact fin _ (mm _).1 (mm _).2
  refine⟨_,rfl,st,_,_,_,rfl,rfl,SqL.of hst1,ix0,_,_,rfl,.inl hS1,_,_,rfl,rfl,_,rfl,?_⟩;rw[ua];refine ite2 (fun c2=>?_) (fun c2=>tail _ _ rfl);rw[decide_eq_true_eq]at c2;have hl:(0:Int) < (ns.length:Nat):=by lia
  have c0:=Int.emod_nonneg ((k:Nat)*7:Int) (show((ns.length:Nat):Int)≠0 by lia);have c1:=Int.emod_lt_of_pos ((k:Nat)*7:Int) hl;have hi:(((k:Nat)*7:Int) % (ns.length:Nat)).toNat < ns.length:=by lia
  have hx:(ns.map V.int)[(((k:Nat)*7:Int) % (ns.length:Nat)).toNat]?=some (.int ns[(((k:Nat)*7:Int) % (ns.length:Nat)).toNat]):=by rw[ug,ui hi];rfl
  have hx2:atI (ns.map V.int) (((k:Nat)*7:Int) % (ns.length:Nat))=some (.int ns[(((k:Nat)*7:Int) % (ns.length:Nat)).toNat]):=by
   have e:=zN hx;rw[Int.toNat_of_nonneg c0]at e;exact e
  refine⟨_,rfl,_,rfl,st,_,_,_,rfl,rfl,SqL.of hst1,ix0,_,rfl,_,_,rfl,rfl,.inr ⟨by decide,by decide⟩,_,rfl,st,_,_,_,rfl,rfl,SqL.of hst1,ix0,_,_,rfl,.inl hS1,_,_,rfl,rfl,(by rw[ua];exact hl),?_⟩;refine⟨a,_,_,_,rfl,rfl,hS1,(by rw[ua];exact hx2),_,rfl,_,_,rfl,rfl,_,_,rfl,rfl,.inr ⟨by show -(2 ^ 64) < (48271+(k:Nat):Int);lia,by show(48271+(k:Nat):Int) < 2 ^ 64;unfold LIM at hB;lia⟩,_,_,rfl,rfl,tail _ _ rfl⟩
theorem scNm:FnScope ["_law_world_here","_law_k","_law_letters","_law_core"] lS5 (zp sNm):=.ok
theorem zbU(F:Fun K "_law_name" "_law_name" sNm f fd):FnOk P w K mg base CX0 1 f fd lS5 spNm:=by
 refine F.by scNm (fun vs H Q E h=>?_) (fun cdv A outer s H vs Q E hr h=>?_)
 ·obtain⟨p,z,b,xs,k,rfl,_⟩:=h
  rfl
 obtain⟨p,z,b,xs,k,rfl,hp,hz,q⟩:=h;refine⟨_,
  (zh (sE 2 scNm.nd zq)
  (zh (sE 3 scNm.nd (zw yw (zw yw (xX Z5 (jv 2) (zw xm (zw xf (jv 1) zn) zn)) zq) (xX Z5 (jv 2) (zw xm (zw xf (jv 1) zn) zn))))
  (zh (zy (ya (xL 0))
   (zk (zt (zw yw (zw yw (jv 3) (xL 0)) (zw vh zq (zw xm (jv 1) zn))))) zu)
  (zk (zt (zw yw (zw yw (zw vh zq (zw xm (jv 1) zn)) (xL 0)) (jv 3))))))),?_⟩
 have sl:=zJ;have e1:((k:Nat):Int) / 2 % 26=((k / 2 % 26:Nat):Int):=by lia
 have e2:((k:Nat):Int) / 52 % 26=((k / 52 % 26:Nat):Int):=by lia
 have e3:((k:Nat):Int) % 2=((k % 2:Nat):Int):=by lia
 have cl3:=Vc k;have yl:=za7 k;have ec:(⟨#[97+(((k:Nat):Int) / 2 % 26).toNat]⟩:Str)++("z":Str)++(⟨#[97+(((k:Nat):Int) / 52 % 26).toNat]⟩:Str)=core k:=by
  rw[e1,e2]
  rfl
 suffices rest:∀c3:Str,c3=core k->(tSeq _ _:TS) { nx:=fun _ H'=>Q .non H',rt:=Q } [oR p,some (.int (k:Nat)),some (.str LET),some (.str c3)] H by
  exact⟨_,rfl,_,rfl,_,_,rfl,rfl,⟨by decide,by decide⟩,_,_,rfl,rfl,(by show(0:Int) < _;decide),LET,_,_,rfl,rfl,by rw[jB];decide,jz (by lia) (by lia),_,_,rfl,rfl,by show 1+1<=sizeLine;decide,_,rfl,_,rfl,_,_,rfl,rfl,⟨by decide,by decide⟩,_,_,rfl,rfl,(by show(0:Int) < _;decide),LET,_,_,rfl,rfl,by rw[jB];decide,jz (by lia) (by lia),_,_,rfl,rfl,by show 2+1<=sizeLine;decide,rest _ ec⟩
 rintro _ rfl;have mo:MulOk "y" (((k % 2:Nat):Int)):=za4 rfl (by lia) (by lia);refine⟨_,rfl,ixL hp aI1 ⟨_,rfl,?_⟩⟩;unfold nm at q;cases b with
 |true =>
  rw[if_pos rfl]at q;refine iteT ?_;refine⟨_,rfl,_,rfl,ixL hp aI0 ⟨_,_,rfl,rfl,by lia,_,rfl,_,_,rfl,rfl,(by show(0:Int) < _;decide),_,_,rfl,rfl,by rw[e3];exact mo,?_⟩⟩;rw[e3];exact⟨_,_,rfl,rfl,by rw[YW];show(core k).length+z.length+(ys k).length<=_;lia,q⟩
 |false =>
  rw[if_neg (by decide)]at q;refine iteF ?_;refine⟨_,rfl,_,_,rfl,rfl,(by show(0:Int) < _;decide),_,_,rfl,rfl,by rw[e3];exact mo,?_⟩;rw[e3];refine⟨_,rfl,ixL hp aI0 ⟨_,_,rfl,rfl,by show(ys k).length+z.length<=_;lia,_,rfl,_,_,rfl,rfl,by show(Txt.mul "y" (((k % 2:Nat):Int))++z).length+(core k).length<=_;rw[YW];show(ys k).length+z.length+(core k).length<=_;lia,q⟩⟩
end
end GN
namespace L2
open PySem PySem.Spec PyProof.Rows
theorem Zp:∀{xs:List V}{us:List Value},xs.length=us.length->(∀(j:Nat) x u,xs[j]?=some x->us[j]?=some u->RelV x u)->Vals xs us
 |[],[],_,_=>.nil
 |[],_::_,h,_=>by simp at h
 |_::_,[],h,_=>by simp at h
 |x::xs,u::us,h,g=>.cons (g 0 x u rfl rfl) (Zp (by simpa using h) fun j a b h1 h2=>g (j+1) a b (by simpa using h1) (by simpa using h2))
def Vd:List V->Hp->VK->Prop:=fun xs H Q=>∃d kvs,xs=[.ref d]/\H d=some (.dK kvs)/\∀l,H l=none->Q (.ref l) (upd H l (.lst (kvs.map fun kv=>kV kv.1)))
theorem vw(hc:X.calm=true):yE X (.type "list") Vd:=by
 intro pins s σ H xs us Q I r h;obtain⟨d,kvs,rfl,hd,q⟩:=h;obtain⟨u,rfl,rx⟩:=xG r;cases rx;obtain⟨z,hs,ws,rel,dd⟩:=QR I.hok hd;obtain⟨ep,da⟩:=dd.dictAt;have wl:=rel.length;refine PySem.W.kdl_call (PySem.W.kdl_dict (knd:=zU X.prog X.w) (kvs:=ws) (ep:=ep) hs) (I.ok.hd hc) da (by lia) fun h' tk acc c hk hS hacc=>?_;obtain⟨a1,a2⟩:=hacc;refine⟨.ref s.heap.objs.size,_,I.laid (t':=tk) hk (ud _) (show ObjOk X.prog X.w _ h' _ (.lst (kvs.map fun kv=>kV kv.1))from⟨by rw[ua];exact z,acc.toList,c,?_,by rw[Array.toArray_toList];exact hS⟩),rfl,q _ (I.hok.fresh (ud _))⟩;have al:acc.toList.length=acc.size:=Array.length_toList;refine Zp (by rw[ua,al];lia) fun j x v h1 h2=>?_;obtain⟨k,y,e1,e2⟩:=a2 j v (by rw[<- Array.getElem?_toList];exact h2);obtain⟨y',e3,_⟩:=rel.get e1;rw[ug,e3]at h1;cases h1;exact zbT e2
theorem jC(hc:X.calm=true):jCa X (.type "list") Vd:=⟨vw hc⟩
inductive TyN(H:Hp):V->Bool->Prop where
 |int (i:Int):TyN H (.int i) false
 |str (z:Str):TyN H (.str z) false
 |bl (b:Bool):TyN H (.bl b) false
 |non:TyN H .non false
 |lst {a:Addr} {xs:List V} (e:H a=some (.lst xs)):TyN H (.ref a) true
 |tup {a:Addr} {xs:List V} (e:H a=some (.tup xs)):TyN H (.ref a) true
section
variable{k:Nat}{E:XK}{p:Pos}{t:TA}
theorem yB{f:Expr}{td tx:TE}(hr:Room k X.A)(ho:jE X o td)(he:jE X e ty)(hf:jE X f tx)(m:M2 X o "get" apos e f cpos:=by exact⟨rfl,rfl,rfl,rfl⟩):jE X (.Call (.Attribute o "get" apos) [e,f] [] cpos) (Va td ty tx):=⟨Vb (Wi hr) ho.out he.out hf.out m⟩
end
section
variable{g:TG}{Q:VK}
theorem Ym{K:uc}{k m:Bool}{ys:List V}(hlen:xs.length=ys.length)(Pv:Nat->St->List V->Hp->Prop)(h0:Pv 0 σ [] H)(hl:∀i τ zs H,i<=xs.length->Pv i τ zs H->SqK k K H a xs/\SqK m K H b ys)
  (hs:∀i x y T τ zs H,xs[i]?=some x->ys[i]?=some y->H T=none->Pv i τ zs H->g (.ref T) τ (upd H T (.tup [x,y])) fun τ2 H2=>tt τ2 H2 fun b H3=>if b=true then te τ2 H3 fun y H4=>zs.length < sizeLine/\Pv (i+1) τ2 (zs++[y]) H4 else Pv (i+1) τ2 zs H3)
  (hd:∀τ zs H,Pv xs.length τ zs H->∀p,H p=none->Q (.ref p) (upd H p (.lst zs))):∃W,(∃m,W 0 m σ [] H)/\lcBy (Itz K k m a b) g tt te Q W:=by
 refine⟨fun i m τ zs H=>m=xs.length-i/\i<=xs.length/\Pv i τ zs H,⟨xs.length,by simp,uF _,h0⟩,?_⟩;rintro i n τ zs H ⟨rfl,hi,p⟩;obtain⟨q1,q2⟩:=hl i τ zs H hi p;by_cases hlt:i < xs.length
 ·refine .inr ⟨go2 q1 q2 (ui hlt) (ui (hlen ▸ hlt)),Pv (i+1),fun τ' zs' H' p'=>⟨xs.length-(i+1),by lia,rfl,hlt,p'⟩,fun x H' yq=>?_⟩
  obtain⟨T,x,y,rfl,hT,rfl,e1,e2⟩:=yld2 yq q1 q2;exact hs i x y T τ zs H e1 e2 hT p
 ·have e:i=xs.length:=by lia
  subst e;exact .inl ⟨QO q1 q2 (ud _),hd τ zs H p⟩
end
section
variable{k:Nat}{f i:Expr}{td tx:TE}
theorem za8(hr:Room k X.A)(hi:jE X i ty)(ho:jE X o td)(h1:behindInMarks .In o=false:=by rfl):jT X (.Compare i [.In] [o] pos) (tB (tDIn ty td)):=⟨XT (za1 (Wi hr) hi.out ho.out) (h1:=h1)⟩
theorem vZ(hr:Room k X.A)(hi:jE X i ty)(ho:jE X o td)(h1:behindInMarks .NotIn o=false:=by rfl):jT X (.Compare i [.NotIn] [o] pos) (tB (YU ty td)):=⟨XT (XD (Wi hr) hi.out ho.out) (h1:=h1)⟩
theorem jD(hc:X.calm=true):jCa X (.builtin "min") (fun xs H Q=>∃i j,xs=[.int i,.int j]/\Q (.int (if j < i then j else i)) H):=⟨Xm hc⟩
end
end L2
namespace PySem.W
open PySem PySem.Spec PySem.Calls PyProof.Rows
structure XIs(K:Frag)(C:Addr):Prop where
 ga:findIn K (.ref C) "__getattribute__"=some (some (.builtin "BaseException.__getattribute__"))
 ha:findIn K (.ref C) "__getattr__"=some none
 sb:subIn K (.ref C) (.type "BaseException")=some true
 hd:hasDictIn K C=true
 cl:findIn K (.ref C) "__class__"=some (some (.builtin "object.__class__"))
 gs:specialIn K (.builtin "object.__class__") "__get__"=some (some (.builtin "getset_descriptor.__get__"))
 tk:takesIn K (.builtin "object.__class__")=some true
 mo:mroIn K C (.type "object")=some true
end PySem.W
namespace L2
open PySem PySem.Spec PyProof.Rows
inductive ClsV:V->Value->Prop where
 |ref (C:Addr):ClsV (.ref C) (.ref C)
 |ty (T:String):ClsV (.ty T) (.type T)
inductive ClsVs:List V->List Value->Prop where
 |nil:ClsVs [] []
 |cons {D:V} {c:Value} {Ds:List V} {cs:List Value} (h:ClsV D c) (t:ClsVs Ds cs):ClsVs (D::Ds) (c::cs)
inductive Asked(K:uc)(t:Value)(H:Hp):V->Bool->Prop where
 |one {D:V} {c:Value} {b:Bool} (h:ClsV D c) (e:PySem.W.kitOne K t c=some b):Asked K t H D b
 |tup {tp:Addr} {Ds:List V} {cs:List Value} {b:Bool} (ht:H tp=some (.tup Ds)) (h:ClsVs Ds cs) (e:PySem.W.kitAny K t cs=some b):Asked K t H (.ref tp) b
end L2
namespace GN
open PySem L2 K11
section
variable{α:Type}
def look(l:List (Str×α))(x:Str):Option α:=(l.find? fun p=>decide (p.1=x)).map (·.2)
def drpA(l:List (Str×α))(x:Str):List (Str×α):=l.filter fun p=>decide (p.1≠x)
def em(e:α->V)(l:List (Str×α)):List (Key×V):=l.map fun p=>(.inr p.1,e p.2)
theorem wZ(e:α->V):∀(l:List (Str×α))(x:Str),valV (em e l) (.inr x)=(look l x).map e
 |[],x=>rfl
 |p::l,x=>by
  have ih:=wZ e l x;by_cases c:p.1=x
  ·show valV ((.inr p.1,e p.2)::em e l) (.inr x)=_
   rw[xp (by rw[c])];unfold look;rw[Uy,decide_eq_true c]
   rfl
  ·show valV ((.inr p.1,e p.2)::em e l) (.inr x)=_
   rw[xq (fun z=>c (Sum.inr.inj z)),ih];unfold look;rw[Uy,decide_eq_false c]
theorem JK(e:α->V){l:List (Str×α)}{a:α}(h:look l x=none):putK (em e l) (.inr x) (e a)=em e (l++[(x,a)]):=by
 unfold putK;rw[wg,wZ,h,if_neg (by simp)];unfold em;rw[uh]
 rfl
theorem Ve(e:α->V)(l:List (Str×α)):(em e l).length=l.length:=ua _
end
structure Hs where
 ns:List (Str×Bool)
 ts:List (Str×Int)
inductive Dd
 |num (i:Int)
 |op (w a b:Str)
 |mk (t:Str) (ns:LS) (k:Str)
 |call (g:Str) (ns:LS)
 |fn (g:Str) (ns:LS)
 |ask (g:Str) (ns:LS)
mutual
inductive Bd
 |give (x:Str)
 |lt (x:Str) (d:Dd) (b:Bd)
 |hold (x y:Str) (b:Bd)
 |drop (x:Str) (b:Bd)
 |loose (t:Str) (b:Bd)
 |iff (x:Str) (b c:Bd)
 |cs (x:Str) (as:Arms)
inductive Arms
 |nil
 |cons (t:Str) (ns:LS) (m k:Str) (b:Bd) (r:Arms)
end
def IsDd(H:Hp):Dd->Addr->Prop
 |.num i,p=>H p=some (.tup [.str "num",.int i])
 |.op w a b,p=>H p=some (.tup [.str "op",.str w,.str a,.str b])
 |.mk t ns k,p=>∃q,H p=some (.tup [.str "make",.str t,.ref q,.str k])/\H q=some (.tup (ns.map V.str))
 |.call g ns,p=>∃q,H p=some (.tup [.str "call",.str g,.ref q])/\H q=some (.tup (ns.map V.str))
 |.fn g ns,p=>∃q,H p=some (.tup [.str "func",.str g,.ref q])/\H q=some (.tup (ns.map V.str))
 |.ask g ns,p=>∃q,H p=some (.tup [.str "ask",.str g,.ref q])/\H q=some (.tup (ns.map V.str))
theorem IsDd.keep(t:Tups H H'):∀{d:Dd}{p:Addr},IsDd H d p->IsDd H' d p
 |.num _,p,h=>t _ _ h
 |.op _ _ _,p,h=>t _ _ h
 |.mk _ _ _,p,⟨q,a,b⟩=>⟨q,t _ _ a,t _ _ b⟩
 |.call _ _,p,⟨q,a,b⟩=>⟨q,t _ _ a,t _ _ b⟩
 |.fn _ _,p,⟨q,a,b⟩=>⟨q,t _ _ a,t _ _ b⟩
 |.ask _ _,p,⟨q,a,b⟩=>⟨q,t _ _ a,t _ _ b⟩
mutual
def IsBd(H:Hp):Bd->Addr->Prop
 |.give x,p=>H p=some (.tup [.str "give",.str x])
 |.lt x d b,p=>∃q r,H p=some (.tup [.str "let",.str x,.ref q,.ref r])/\IsDd H d q/\IsBd H b r
 |.hold x y b,p=>∃r,H p=some (.tup [.str "hold",.str x,.str y,.ref r])/\IsBd H b r
 |.drop x b,p=>∃r,H p=some (.tup [.str "drop",.str x,.ref r])/\IsBd H b r
 |.loose x b,p=>∃r,H p=some (.tup [.str "loose",.str x,.ref r])/\IsBd H b r
 |.iff x b c,p=>∃q r,H p=some (.tup [.str "if",.str x,.ref q,.ref r])/\IsBd H b q/\IsBd H c r
 |.cs x as,p=>∃q ts,H p=some (.tup [.str "case",.str x,.ref q])/\H q=some (.tup (ts.map V.ref))/\IsArms H as ts
def IsArms(H:Hp):Arms->List Addr->Prop
 |.nil,ts=>ts=[]
 |.cons t ns m k b r,ts=>∃p q s ts',ts=p::ts'/\H p=some (.tup [.str t,.ref q,.str m,.str k,.ref s])/\H q=some (.tup (ns.map V.str))/\IsBd H b s/\IsArms H r ts'
end
mutual
theorem IsBd.keep{H H':Hp}(t:Tups H H'):∀{b:Bd}{p:Addr},IsBd H b p->IsBd H' b p
 |.give x,p,h=>t _ _ h
 |.lt x d b,p,h=>let ⟨q,r,a,e,f⟩:=h;⟨q,r,t _ _ a,e.keep t,IsBd.keep t f⟩
 |.hold x y b,p,h=>let ⟨r,a,f⟩:=h;⟨r,t _ _ a,IsBd.keep t f⟩
 |.drop x b,p,h=>let ⟨r,a,f⟩:=h;⟨r,t _ _ a,IsBd.keep t f⟩
 |.loose x b,p,h=>let ⟨r,a,f⟩:=h;⟨r,t _ _ a,IsBd.keep t f⟩
 |.iff x b c,p,h=>let ⟨q,r,a,e,f⟩:=h;⟨q,r,t _ _ a,IsBd.keep t e,IsBd.keep t f⟩
 |.cs x as,p,h=>let ⟨q,ts,a,e,f⟩:=h;⟨q,ts,t _ _ a,t _ _ e,IsArms.keep t f⟩
theorem IsArms.keep{H H':Hp}(t:Tups H H'):∀{as:Arms}{ts:List Addr},IsArms H as ts->IsArms H' as ts
 |.nil,ts,h=>h
 |.cons g ns m k b r,ts,h=>let ⟨p,q,s,ts',e,a1,a2,a3,a4⟩:=h;⟨p,q,s,ts',e,t _ _ a1,t _ _ a2,IsBd.keep t a3,IsArms.keep t a4⟩
end
mutual
def Bd.sz:Bd->Nat
 |.give _=>1
 |.lt _ _ b=>b.sz+1
 |.hold _ _ b=>b.sz+1
 |.drop _ b=>b.sz+1
 |.loose _ b=>b.sz+1
 |.iff _ b c=>b.sz+c.sz+1
 |.cs _ as=>as.sz+1
def Arms.sz:Arms->Nat
 |.nil=>0
 |.cons _ _ _ _ b r=>b.sz+r.sz+1
end
def Zq(x:Str)(s:Hs):Option Hs:=if look s.ns x=some true then some ⟨drpA s.ns x,s.ts⟩else none
def Zr(x:Str)(s:Hs):Option Hs:=if look s.ns x=none then some ⟨s.ns++[(x,true)],s.ts⟩else none
def xN(x:Str)(s:Hs):Bool:=(look s.ns x).isSome
def zbV(t:Str)(n:Int)(s:Hs):Option Hs:=if look s.ts t=none then some ⟨s.ns,s.ts++[(t,n)]⟩else none
def useT(t:Str)(s:Hs):Option (Int×Hs):=(look s.ts t).map fun n=>(n,⟨s.ns,drpA s.ts t⟩)
abbrev Ow:=List (Str×List Bool)
def xr:Dd->LS
 |.num _=>[]
 |.op _ a b=>[a,b]
 |.mk _ ns _=>ns
 |.call _ ns=>ns
 |.fn _ ns=>ns
 |.ask g ns=>g::ns
def QT(ow:Ow):Dd->List Bool
 |.num _=>[]
 |.op _ _ _=>[false,false]
 |.mk _ ns _=>ns.map fun _=>true
 |.call g _=>(look ow g).getD []
 |.fn _ ns=>ns.map fun _=>true
 |.ask _ ns=>true::ns.map fun _=>true
def Yn:List (Str×Bool)->Hs->Option Hs
 |[],s=>some s
 | (x,true)::r,s=>(Zq x s).bind (Yn r)
 | (_,false)::r,s=>Yn r s
def jF:List (Str×Bool)->Hs->Bool
 |[],_=>true
 | (_,true)::r,s=>jF r s
 | (x,false)::r,s=>xN x s && jF r s
def zbW(ow:Ow):Dd->Hs->Option Hs
 |.fn g _,s=>if((look ow g).getD []).all id=true then some s else none
 |.mk _ ns k,s=>if k=""then some s else(useT k s).bind fun p=>if p.1=((ns.length:Nat):Int)then some p.2 else none
 |_,s=>some s
def QU(ow:Ow)(d:Dd)(s:Hs):Option Hs:=(Yn ((xr d).zip (QT ow d)) s).bind fun s1=>if jF ((xr d).zip (QT ow d)) s1=true then zbW ow d s1 else none
def YX:LS->Hs->Option Hs
 |[],s=>some s
 |x::r,s=>(Zr x s).bind (YX r)
def armC(x:Str)(ns:LS)(m k:Str)(s:Hs):Option Hs:=(if m="take"then Zq x s else some s).bind fun s1=>(YX ns s1).bind fun s2=>if k=""then some s2 else if m="take"/\0 < ns.length then zbV k ((ns.length:Nat):Int) s2 else none
def QV(x:Str):Arms->Hs->Option (List (Bd×Hs))
 |.nil,_=>some []
 |.cons _ ns m k b r,s=>(armC x ns m k s).bind fun s1=>(QV x r s).map fun l=>(b,s1)::l
def zbX(s:Hs):Bool:=s.ts.isEmpty && !(s.ns.any (·.2))
def pc(ow:Ow):Bd->Hs->Option (List (Bd×Hs))
 |.give x,s=>(Zq x s).bind fun s1=>if zbX s1=true then some []else none
 |.lt x d b,s=>(QU ow d s).bind fun s1=>(Zr x s1).map fun s2=>[(b,s2)]
 |.hold x y b,s=>if xN y s=true then(Zr x s).map fun s2=>[(b,s2)]else none
 |.drop x b,s=>(Zq x s).map fun s2=>[(b,s2)]
 |.loose t b,s=>(useT t s).map fun p=>[(b,p.2)]
 |.iff x b c,s=>if xN x s=true then some [(b,s),(c,s)]else none
 |.cs x as,s=>if xN x s=true then QV x as s else none
mutual
def okB(ow:Ow):Bd->Hs->Bool
 |.give x,s=>(pc ow (.give x) s).isSome
 |.lt x d b,s=>match (QU ow d s).bind (Zr x)with
  |none=>false
  |some s2=>okB ow b s2
 |.hold x y b,s=>xN y s && match Zr x s with
  |none=>false
  |some s2=>okB ow b s2
 |.drop x b,s=>match Zq x s with
  |none=>false
  |some s2=>okB ow b s2
 |.loose t b,s=>match useT t s with
  |none=>false
  |some p=>okB ow b p.2
 |.iff x b c,s=>xN x s && (okB ow b s && okB ow c s)
 |.cs x as,s=>xN x s && okA ow x as s
def okA(ow:Ow)(x:Str):Arms->Hs->Bool
 |.nil,_=>true
 |.cons _ ns m k b r,s=>(match armC x ns m k s with
  |none=>false
  |some s1=>okB ow b s1) && okA ow x r s
end
end GN
variable{g:GN.Bd->Nat->GN.Bd×Nat}
namespace L2
open PySem PySem.Spec PyProof.Rows
theorem vx(hc:X.calm=true):yE X (.builtin "any") (fun xs H Q=>∃(p:Addr)(bs:List Bool),xs=[.ref p]/\SqL X.K H p (bs.map V.bl)/\Q (.bl (bs.any _root_.id)) H):=by
 intro pins s σ H xs us Q I r h;obtain⟨p,bs,rfl,hq,q⟩:=h;obtain⟨u,rfl,rx⟩:=xG r;cases rx;obtain⟨its,rv,pl,hz⟩:=I.list hq;have hh:X.A.handled=none:=I.ok.hd hc;have hlen:its.toArray.size=bs.length:=by rw[uo,<- rv.length,ua]
 have hne:p≠s.heap.objs.size:=by
  obtain⟨o,n,e,_⟩:=pl;exact uK (uA e)
 refine call_any_walk (wpAny_pyIter_list pl.isList ?_);refine⟨s.heap.objs.size,_,_,_,_,_,fun i=>(bs[i]?).getD false,rfl,Walks.list (A:=X.A.in1) hh _ p hne its.toArray,⟨⟨_,uu _ rfl,rfl,rfl⟩,pl.isList.at fun o e=>uf _ e⟩,fun i v s1 Q1 E1 hv hQ=>?_,fun h' tk kk=>?_⟩
 ·have hi:i < bs.length:=by
   obtain⟨hi,_⟩:=Array.getElem?_eq_some_iff.mp hv;rw[hlen]at hi;exact hi
  have hb:(bs.map V.bl)[i]?=some (V.bl ((bs[i]?).getD false)):=by
   rw[ug,ui hi];simp
  obtain⟨u',hu,ru⟩:=rv.get hb;have e:its.toArray[i]?=some u':=by simpa using hu
  have hv':its.toArray[i]?=some v:=hv;rw[hv']at e;cases e;cases ru;exact wpAny_truthy_bool hQ
 ·rw[hlen,LSm.range_any]
  have I1:Inv X pins σ H { s with heap:=s.heap.push { cls:=.type "list_iterator",data:=.fields #[.ref p,.int 0 0] } }:=I.kept (t':=s.toks) fun b o e=>uf _ e;have f:=I.fpOk (H':=H) (ud _) I.fresh;exact⟨.bl (bs.any _root_.id),H,I1.turned (it:=s.heap.objs.size) (fun b o hb e=>kk b o (by simpa using hb) e) f.1 f.2.1 f.2.2.2.1 f.2.2.2.2.1 f.2.2.2.2.2,rfl,q⟩
theorem wj(hc:X.calm=true):jCa X (.builtin "any") (fun xs H Q=>∃(p:Addr)(bs:List Bool),xs=[.ref p]/\SqL X.K H p (bs.map V.bl)/\Q (.bl (bs.any _root_.id)) H):=⟨vx hc⟩
theorem wP(hc:X.calm=true):yE X (.builtin "all") (fun xs H Q=>∃(p:Addr)(bs:List Bool),xs=[.ref p]/\H p=some (.tup (bs.map V.bl))/\Q (.bl (bs.all _root_.id)) H):=by
 intro pins s σ H xs us Q I r h;obtain⟨p,bs,rfl,hq,q⟩:=h;obtain⟨u,rfl,rx⟩:=xG r;cases rx;obtain⟨its,rv,pl,hz⟩:=I.tuple (SqT.of hq);have hh:X.A.handled=none:=I.ok.hd hc;have hlen:its.toArray.size=bs.length:=by rw[uo,<- rv.length,ua]
 have hne:p≠s.heap.objs.size:=uK (I.hok.lt hq);refine call_all_walk (wpAny_pyIter_tuple (show s.heap.IsTuple p its.toArray from pl) ?_);refine⟨s.heap.objs.size,_,_,_,_,_,fun i=>bs.getD i false,rfl,Walks.tuple (A:=X.A.in1) hh _ p hne its.toArray,⟨⟨_,uu _ rfl,rfl,rfl⟩,(show s.heap.IsTuple p its.toArray from pl).at fun o e=>uf _ e⟩,fun i v s1 Q1 E1 hv hQ=>?_,fun h' tk kk=>?_⟩
 ·have hi:i < bs.length:=by
   obtain⟨hi,_⟩:=Array.getElem?_eq_some_iff.mp hv;rw[hlen]at hi;exact hi
  have hb:(bs.map V.bl)[i]?=some (V.bl (bs.getD i false)):=by
   rw[ug,ui hi];simp[List.getD,ui hi]
  obtain⟨u',hu,ru⟩:=rv.get hb;have e:its.toArray[i]?=some u':=by simpa using hu
  have hv':its.toArray[i]?=some v:=hv;rw[hv']at e;cases e;cases ru;exact wpAny_truthy_bool hQ
 ·have e:(uV its.toArray.size).all (fun i=>bs.getD i false)=bs.all _root_.id:=by
   rw[hlen];exact Xz bs
  rw[e];have I1:Inv X pins σ H { s with heap:=s.heap.push { cls:=.type "tuple_iterator",data:=.fields #[.ref p,.int 0 0] } }:=I.kept (t':=s.toks) fun b o e=>uf _ e;have f:=I.fpOk (H':=H) (ud _) I.fresh;exact⟨.bl (bs.all _root_.id),H,I1.turned (it:=s.heap.objs.size) (fun b o hb e=>kk b o (by simpa using hb) e) f.1 f.2.1 f.2.2.2.1 f.2.2.2.2.1 f.2.2.2.2.2,rfl,q⟩
theorem vN(hc:X.calm=true):jCa X (.builtin "all") (fun xs H Q=>∃(p:Addr)(bs:List Bool),xs=[.ref p]/\H p=some (.tup (bs.map V.bl))/\Q (.bl (bs.all _root_.id)) H):=⟨wP hc⟩
end L2
namespace GN
open PySem L2 K11
variable{b:Bd}{p:List Addr}{f:Nat}
theorem iteE{b:Bool}{A B:Prop}(e:b=false)(h:B):if b=true then A else B:=by rw[if_neg (by rw[e];decide)];exact h
structure ArmR where
 t:Str
 ns:LS
 m:Str
 k:Str
 b:Bd
def Arms.l:Arms->List ArmR
 |.nil=>[]
 |.cons t ns m k b r=>⟨t,ns,m,k,b⟩ :: r.l
theorem IsArms.len{H:Hp}:∀{as:Arms}{ts:List Addr},IsArms H as ts->ts.length=as.l.length
 |.nil,ts,h=>by
  have h:ts=[]:=h;rw[h]
  rfl
 |.cons t ns m k b r,ts,h=>by
  obtain⟨p,q,s,ts',rfl,_,_,_,h⟩:=h;rw[um,IsArms.len h]
  rfl
theorem IsArms.get{H:Hp}:∀{as:Arms}{ts:List Addr}{i:Nat}{t:Addr},IsArms H as ts->ts[i]?=some t->∃(q:ArmR)(p s:Addr),as.l[i]?=some q/\H t=some (.tup [.str q.t,.ref p,.str q.m,.str q.k,.ref s])/\H p=some (.tup (q.ns.map V.str))/\IsBd H q.b s
 |.nil,ts,i,t,h,e=>by
  have h:ts=[]:=h;rw[h]at e;simp at e
 |.cons tg ns m k b r,ts,i,t,h,e=>by
  obtain⟨p,q,s,ts',rfl,h1,h2,h3,h4⟩:=h;cases i with
  |zero =>
   simp at e
   subst e;exact⟨⟨tg,ns,m,k,b⟩,q,s,rfl,h1,h2,h3⟩
  |succ i =>
   obtain⟨q',p',s',g1,g2⟩:=IsArms.get (i:=i) h4 (by simpa using e);exact⟨q',p',s',by simpa[Arms.l]using g1,g2⟩
structure Df where
 g:Str
 ps:LS
 os:List Bool
 b:Bd
variable{ds:List Df}
def IsDf(H:Hp)(d:Df)(o:Addr):Prop:=∃pp po pb,H o=some (.tup [.str d.g,.ref pp,.ref po,.ref pb])/\H pp=some (.tup (d.ps.map V.str))/\H po=some (.tup (d.os.map V.bl))/\IsBd H d.b pb
theorem IsDf.keep{d:Df}{o:Addr}(t:Tups H H')(h:IsDf H d o):IsDf H' d o:=by obtain⟨pp,po,pb,a,b,c,e⟩:=h;exact⟨pp,po,pb,t _ _ a,t _ _ b,t _ _ c,e.keep t⟩
theorem Bd.sz_pos:∀b:Bd,0 < b.sz
 |.give _=>by rw[Bd.sz];exact Nat.zero_lt_one
 |.lt _ _ _=>by rw[Bd.sz];lia
 |.hold _ _ _=>by rw[Bd.sz];lia
 |.drop _ _=>by rw[Bd.sz];lia
 |.loose _ _=>by rw[Bd.sz];lia
 |.iff _ _ _=>by rw[Bd.sz];lia
 |.cs _ _=>by rw[Bd.sz];lia
def IsDfs(H:Hp)(ds:List Df)(os:List Addr):Prop:=ds.length=os.length/\∀(i:Nat)(d:Df)(o:Addr),ds[i]?=some d->os[i]?=some o->IsDf H d o
theorem IsDfs.keep(t:Tups H H')(h:IsDfs H ds os):IsDfs H' ds os:=⟨h.1,fun i d o a b=>(h.2 i d o a b).keep t⟩
def IsCode(H:Hp)(ds:List Df)(p:Addr):Prop:=∃v pd os,H p=some (.tup [v,.ref pd])/\H pd=some (.tup (os.map V.ref))/\IsDfs H ds os
theorem IsCode.keep{p:Addr}(t:Tups H H')(h:IsCode H ds p):IsCode H' ds p:=by obtain⟨v,pd,os,a,b,c⟩:=h;exact⟨v,pd,os,t _ _ a,t _ _ b,c.keep t⟩
mutual
def Bd.binds:Bd->LS
 |.give _=>[]
 |.lt x _ b=>x::b.binds
 |.hold x _ b=>x::b.binds
 |.drop _ b=>b.binds
 |.loose _ b=>b.binds
 |.iff _ a b=>a.binds++b.binds
 |.cs _ as=>as.binds
def Arms.binds:Arms->LS
 |.nil=>[]
 |.cons _ ns _ _ b r=>ns++(b.binds++r.binds)
end
def once(acc:LS):LS->LS
 |[]=>acc
 |x::r=>once (if x∈acc then acc else acc++[x]) r
theorem vy:∀(a b acc:LS),once acc (a++b)=once (once acc a) b
 |[],b,acc=>rfl
 |x::a,b,acc=>by
  show once (if x∈acc then acc else acc++[x]) (a++b)=once (once (if x∈acc then acc else acc++[x]) a) b;exact vy a b _
theorem v0{l:LS}{acc:LS}(h:l[i]?=some x):once acc (l.take (i+1))=if x∈once acc (l.take i)then once acc (l.take i)else once acc (l.take i)++[x]:=by
 rw[uI,h,vy]
 rfl
theorem yY:∀(l acc:LS),(once acc l).length<=acc.length+l.length
 |[],acc=>ud _
 |x::r,acc=>by
  unfold once
  have:=yY r (if x∈acc then acc else acc++[x])
  rw[um];split at this
  ·split
   ·lia
   ·contradiction
  ·split
   ·contradiction
   ·rw[ub,Uj]at this
    lia
abbrev Wy:=List (LS×Bd)
inductive IsY(H:Hp):Wy->List Addr->Prop
 |nil:IsY H [] []
 |cons {ns:LS} {b:Bd} {p q r:Addr} {l:Wy} {ps:List Addr}:H p=some (.tup [.ref q,.ref r])->H q=some (.tup (ns.map V.str))->IsBd H b r->IsY H l ps->IsY H ((ns,b)::l) (p::ps)
theorem IsY.keep{l:Wy}(h:IsY H l p)(t:Tups H H'):IsY H' l p:=by
 induction h with
 |nil=>exact .nil
 |cons a b c _ ih=>exact .cons (t _ _ a) (t _ _ b) (c.keep t) ih
theorem IsY.app{a b:Wy}{q:List Addr}(h:IsY H a p)(g:IsY H b q):IsY H (a++b) (p++q):=by
 induction h with
 |nil=>exact g
 |cons x y z _ ih=>exact .cons x y z ih
theorem IsY.len{l:Wy}(h:IsY H l p):l.length=p.length:=by
 induction h with
 |nil=>rfl
 |cons _ _ _ _ ih=>rw[um,um,ih]
def Arms.ways:Arms->Wy
 |.nil=>[]
 |.cons _ ns _ _ b r=>(ns,b)::r.ways
def Bd.ways:Bd->Wy
 |.give _=>[]
 |.lt x _ b=>[([x],b)]
 |.hold x _ b=>[([x],b)]
 |.drop _ b=>[([],b)]
 |.loose _ b=>[([],b)]
 |.iff _ a b=>[([],a),([],b)]
 |.cs _ as=>as.ways
def pend(l:Wy):LS:=l.flatMap fun p=>p.1++p.2.binds
theorem Arms.pend:∀as:Arms,GN.pend as.ways=as.binds
 |.nil=>by unfold Arms.ways Arms.binds;rfl
 |.cons t ns m k b r=>by
  unfold Arms.ways Arms.binds GN.pend;rw[Uk]
  have:=Arms.pend r
  unfold GN.pend at this;rw[this,u7]
theorem Bd.pend(b:Bd):GN.pend b.ways=b.binds:=by
 cases b with
 |give x=>unfold Bd.ways Bd.binds;rfl
 |lt x d b=>unfold Bd.ways Bd.binds GN.pend;simp
 |hold x d b=>unfold Bd.ways Bd.binds GN.pend;simp
 |drop x b=>unfold Bd.ways Bd.binds GN.pend;simp
 |loose x b=>unfold Bd.ways Bd.binds GN.pend;simp
 |iff x a b=>unfold Bd.ways Bd.binds GN.pend;simp
 |cs x as=>unfold Bd.ways Bd.binds;exact Arms.pend as
def wsz(l:Wy):Nat:=(l.map fun p=>p.2.sz).sum
theorem Arms.wsz:∀as:Arms,GN.wsz as.ways<=as.sz
 |.nil=>by unfold Arms.ways Arms.sz GN.wsz;decide
 |.cons t ns m k b r=>by
  unfold Arms.ways Arms.sz GN.wsz
  have:=Arms.wsz r
  unfold GN.wsz at this;rw[ur,uS];show b.sz+_<=_;lia
theorem Bd.wsz(b:Bd):GN.wsz b.ways < b.sz:=by
 cases b with
 |give x=>rw[Bd.sz];show(0:Nat) < 1;decide
 |lt x d b=>rw[Bd.sz];show b.sz+0 < b.sz+1;lia
 |hold x d b=>rw[Bd.sz];show b.sz+0 < b.sz+1;lia
 |drop x b=>rw[Bd.sz];show b.sz+0 < b.sz+1;lia
 |loose x b=>rw[Bd.sz];show b.sz+0 < b.sz+1;lia
 |iff x a b=>rw[Bd.sz];show a.sz+(b.sz+0) < a.sz+b.sz+1;lia
 |cs x as=>rw[Bd.sz];have:=Arms.wsz as;show GN.wsz as.ways < as.sz+1;lia
theorem YY(a b:Wy):wsz (a++b)=wsz a+wsz b:=by unfold wsz;rw[uh,List.sum_append]
theorem Zs(a b:Wy):pend (a++b)=pend a++pend b:=by unfold pend;rw[List.flatMap_append]
theorem Arms.ways_l:∀as:Arms,as.ways=as.l.map fun q=>(q.ns,q.b)
 |.nil=>by unfold Arms.ways Arms.l;rfl
 |.cons t ns m k b r=>by unfold Arms.ways Arms.l;rw[Arms.ways_l r];rfl
theorem jH:∀a:Arms,a.ways.length<=a.sz
 |.nil=>by unfold Arms.ways Arms.sz;decide
 |.cons t ns m k b r=>by
  unfold Arms.ways Arms.sz
  have:=jH r
  rw[um];lia
theorem Arms.lLen(a:Arms):a.l.length<=a.sz:=by
 have:=jH a
 rw[Arms.ways_l,ua]at this;exact this
inductive spWays(vs:List V)(H:Hp)(Q:VK)(e_3:XK):Prop
 |mk (p:Addr):(∃b:Bd,vs=[.ref p]/\IsBd H b p/\b.sz<=1000000/\∀(H':Hp)(r:Addr)(ps:List Addr),Same H H'->H r=none->H' r=some (.lst (ps.map V.ref))->IsY H' b.ways ps->Q (.ref r) H')->spWays vs H Q e_3
section
variable{K:uc}{f:Addr}
theorem za9:FnScope ["body"] ["body"] (zp Wz):=.ok
theorem zba:(["body","arm"]:LS).Nodup:=by decide +kernel
theorem JL(F:Fun K "ways_on" "ways_on" Wz f fd):FnOk P w K mg base CX0 1 f fd ["body"] spWays:=by
 refine F.by za9 (fun vs H Q E h=>?_) (fun cdv A outer s H vs Q E hr h=>?_)
 ·obtain⟨p,b,rfl,_⟩:=h
  rfl
 obtain⟨p,b,rfl,hb,hz,q⟩:=h;refine⟨_,
  (zh (zy (tN zD (xT 0) zq)
   (zk (zt (zC zE))) zu)
  (zh (zy (tN zD (xT 0) zq)
   (zk (zt (zC (jA2 (zr (jA2 (zr zE) (xT 0))) (zr (jA2 (zr zE) (xT 0))))))) zu)
  (zh (zy (tN zD (xT 0) zq)
   (zk (zt (yo ["arm"] rfl (yn (xT 0)) (fun _ _ _ _ _=>(gN 1 zba)) (fun _ _ _ _ _=>zL) (fun _ _ _ _ _=>(zr (jA2 (yg (yh K) (jv 1) zn (fun _ _=>rfl)) (xX (yh K) (jv 1) (yu zn)))))))) zu)
  (zh (zy (xa xB (xT 0) (zr (jA2 zq zq)) (by with_unfolding_all rfl))
   (zk (zt (zC (jA1 (zr (jA2 (zr (jA1 (xT 0))) (xX yp (jv 0) (yu zn)))))))) zu)
  (zk (zt (zC (jA1 (zr (jA2 (zr zE) (xX yp (jv 0) (yu zn)))))))))))),?_⟩
 have sl:=zJ;cases b with
 |give x =>
  have hp:H p=some (.tup [.str "give",.str x]):=hb;refine(zf rfl ⟨p,_,_,_,rfl,rfl,SqT.of hp,aI0,rfl,(zf rfl ?_)⟩);refine ite2 (fun _=>?_) aB;refine⟨sN0,fun r hr=>q _ r [] (zi hr _) hr zg ?_⟩;unfold Bd.ways;exact .nil
 |lt x d b =>
  obtain⟨p1,p2,hp,hd,hb⟩:=hb;refine(zf rfl ⟨p,_,_,_,rfl,rfl,SqT.of hp,aI0,rfl,(zf rfl ?_)⟩);refine ite2 aB (fun _=>?_);refine(zf rfl ⟨p,_,_,_,rfl,rfl,SqT.of hp,aI0,rfl,(zf rfl ?_)⟩);refine ite2 aB (fun _=>?_);refine(zf rfl ⟨p,_,_,_,rfl,rfl,SqT.of hp,aI0,rfl,(zf rfl ?_)⟩);refine ite2 aB (fun _=>?_);refine(zf rfl ⟨p,_,_,_,rfl,rfl,SqT.of hp,aI0,sN2,fun t0 h0=>?_⟩);refine⟨t0,(zf rfl ⟨.inr (SqT.of zg),rfl,rfl,(zf rfl ?_)⟩)⟩;refine ite2 (fun _=>?_) (fun c=>absurd (show(if false=true then !inV (V.str "let") [V.str "let",V.str "hold"]else inV (V.str "let") [V.str "let",V.str "hold"])=true by decide) c);have hp0:=old (o:=.tup [.str "let",.str "hold"]) h0 hp;refine(zf rfl ⟨p,_,_,_,rfl,rfl,SqT.of hp0,aI1,sN1,fun t1 h1=>(zf rfl (zf rfl ⟨p,_,_,_,rfl,rfl,SqT.of (old h1 hp0),rfl,sN2,fun t2 h2=>⟨sN1,fun t3 h3=>?_⟩⟩))⟩);have s2:Same H _:=((zi h0 (.tup [.str "let",.str "hold"])).new (o:=.tup [.str x]) h1).new (o:=.tup [.ref t1,.ref p2]) h2;have s3:=s2.new (o:=.lst [.ref t2]) h3;refine q _ t3 [t2] s3 (s2.free h3) zg ?_;unfold Bd.ways;exact .cons (old h3 zg) (old h3 (old h2 zg)) (hb.keep (.of s3)) .nil
 |hold x y b =>
  obtain⟨p2,hp,hb⟩:=hb;refine(zf rfl ⟨p,_,_,_,rfl,rfl,SqT.of hp,aI0,rfl,(zf rfl ?_)⟩);refine ite2 aB (fun _=>?_);refine(zf rfl ⟨p,_,_,_,rfl,rfl,SqT.of hp,aI0,rfl,(zf rfl ?_)⟩);refine ite2 aB (fun _=>?_);refine(zf rfl ⟨p,_,_,_,rfl,rfl,SqT.of hp,aI0,rfl,(zf rfl ?_)⟩);refine ite2 aB (fun _=>?_);refine(zf rfl ⟨p,_,_,_,rfl,rfl,SqT.of hp,aI0,sN2,fun t0 h0=>?_⟩);refine⟨t0,(zf rfl ⟨.inr (SqT.of zg),rfl,rfl,(zf rfl ?_)⟩)⟩;refine ite2 (fun _=>?_) (fun c=>absurd (show(if false=true then !inV (V.str "hold") [V.str "let",V.str "hold"]else inV (V.str "hold") [V.str "let",V.str "hold"])=true by decide) c);have hp0:=old (o:=.tup [.str "let",.str "hold"]) h0 hp;refine(zf rfl ⟨p,_,_,_,rfl,rfl,SqT.of hp0,aI1,sN1,fun t1 h1=>(zf rfl (zf rfl ⟨p,_,_,_,rfl,rfl,SqT.of (old h1 hp0),rfl,sN2,fun t2 h2=>⟨sN1,fun t3 h3=>?_⟩⟩))⟩);have s2:Same H _:=((zi h0 (.tup [.str "let",.str "hold"])).new (o:=.tup [.str x]) h1).new (o:=.tup [.ref t1,.ref p2]) h2;have s3:=s2.new (o:=.lst [.ref t2]) h3;refine q _ t3 [t2] s3 (s2.free h3) zg ?_;unfold Bd.ways;exact .cons (old h3 zg) (old h3 (old h2 zg)) (hb.keep (.of s3)) .nil
 |drop x b =>
  obtain⟨p2,hp,hb⟩:=hb;refine(zf rfl ⟨p,_,_,_,rfl,rfl,SqT.of hp,aI0,rfl,(zf rfl ?_)⟩);refine ite2 aB (fun _=>?_);refine(zf rfl ⟨p,_,_,_,rfl,rfl,SqT.of hp,aI0,rfl,(zf rfl ?_)⟩);refine ite2 aB (fun _=>?_);refine(zf rfl ⟨p,_,_,_,rfl,rfl,SqT.of hp,aI0,rfl,(zf rfl ?_)⟩);refine ite2 aB (fun _=>?_);refine(zf rfl ⟨p,_,_,_,rfl,rfl,SqT.of hp,aI0,sN2,fun t0 h0=>?_⟩);refine⟨t0,(zf rfl ⟨.inr (SqT.of zg),rfl,rfl,(zf rfl ?_)⟩)⟩;refine ite2 (fun c=>absurd c (show ¬ (if false=true then !inV (V.str "drop") [V.str "let",V.str "hold"]else inV (V.str "drop") [V.str "let",V.str "hold"])=true by decide)) (fun _=>?_);have hp0:=old (o:=.tup [.str "let",.str "hold"]) h0 hp;refine⟨sN0,fun t1 h1=>(zf rfl (zf rfl ⟨p,_,_,_,rfl,rfl,SqT.of (old h1 hp0),rfl,sN2,fun t2 h2=>⟨sN1,fun t3 h3=>?_⟩⟩))⟩;have s2:Same H _:=((zi h0 (.tup [.str "let",.str "hold"])).new (o:=.tup []) h1).new (o:=.tup [.ref t1,.ref p2]) h2;have s3:=s2.new (o:=.lst [.ref t2]) h3;refine q _ t3 [t2] s3 (s2.free h3) zg ?_;unfold Bd.ways;exact .cons (old h3 zg) (old h3 (old h2 zg)) (hb.keep (.of s3)) .nil
 |loose x b =>
  obtain⟨p2,hp,hb⟩:=hb;refine(zf rfl ⟨p,_,_,_,rfl,rfl,SqT.of hp,aI0,rfl,(zf rfl ?_)⟩);refine ite2 aB (fun _=>?_);refine(zf rfl ⟨p,_,_,_,rfl,rfl,SqT.of hp,aI0,rfl,(zf rfl ?_)⟩);refine ite2 aB (fun _=>?_);refine(zf rfl ⟨p,_,_,_,rfl,rfl,SqT.of hp,aI0,rfl,(zf rfl ?_)⟩);refine ite2 aB (fun _=>?_);refine(zf rfl ⟨p,_,_,_,rfl,rfl,SqT.of hp,aI0,sN2,fun t0 h0=>?_⟩);refine⟨t0,(zf rfl ⟨.inr (SqT.of zg),rfl,rfl,(zf rfl ?_)⟩)⟩;refine ite2 (fun c=>absurd c (show ¬ (if false=true then !inV (V.str "loose") [V.str "let",V.str "hold"]else inV (V.str "loose") [V.str "let",V.str "hold"])=true by decide)) (fun _=>?_);have hp0:=old (o:=.tup [.str "let",.str "hold"]) h0 hp;refine⟨sN0,fun t1 h1=>(zf rfl (zf rfl ⟨p,_,_,_,rfl,rfl,SqT.of (old h1 hp0),rfl,sN2,fun t2 h2=>⟨sN1,fun t3 h3=>?_⟩⟩))⟩;have s2:Same H _:=((zi h0 (.tup [.str "let",.str "hold"])).new (o:=.tup []) h1).new (o:=.tup [.ref t1,.ref p2]) h2;have s3:=s2.new (o:=.lst [.ref t2]) h3;refine q _ t3 [t2] s3 (s2.free h3) zg ?_;unfold Bd.ways;exact .cons (old h3 zg) (old h3 (old h2 zg)) (hb.keep (.of s3)) .nil
 |iff x a b =>
  obtain⟨p1,p2,hp,ha,hb⟩:=hb;refine(zf rfl ⟨p,_,_,_,rfl,rfl,SqT.of hp,aI0,rfl,(zf rfl ?_)⟩);refine ite2 aB (fun _=>?_);refine(zf rfl ⟨p,_,_,_,rfl,rfl,SqT.of hp,aI0,rfl,(zf rfl ?_)⟩);refine ite2 (fun _=>?_) aB;refine⟨sN0,fun t1 h1=>(zf rfl ⟨p,_,_,_,rfl,rfl,SqT.of (old h1 hp),aI2,sN2,fun t2 h2=>⟨sN0,fun t3 h3=>(zf rfl ⟨p,_,_,_,rfl,rfl,SqT.of (old h3 (old h2 (old h1 hp))),aI3,sN2,fun t4 h4=>⟨sN2,fun t5 h5=>?_⟩⟩)⟩⟩)⟩;have s4:Same H _:=(((zi h1 (.tup [])).new (o:=.tup [.ref t1,.ref p1]) h2).new (o:=.tup []) h3).new (o:=.tup [.ref t3,.ref p2]) h4;have s5:=s4.new (o:=.lst [.ref t2,.ref t4]) h5;refine q _ t5 [t2,t4] s5 (s4.free h5) zg ?_;unfold Bd.ways;exact .cons (old h5 (old h4 (old h3 zg))) (old h5 (old h4 (old h3 (old h2 zg)))) (ha.keep (.of s5)) (.cons (old h5 zg) (old h5 (old h4 zg)) (hb.keep (.of s5)) .nil)
 |cs x as =>
  obtain⟨p1,ps,hp,hp1,hA⟩:=hb;refine(zf rfl ⟨p,_,_,_,rfl,rfl,SqT.of hp,aI0,rfl,(zf rfl ?_)⟩);refine ite2 aB (fun _=>?_);refine(zf rfl ⟨p,_,_,_,rfl,rfl,SqT.of hp,aI0,rfl,(zf rfl ?_)⟩);refine ite2 aB (fun _=>?_);refine(zf rfl ⟨p,_,_,_,rfl,rfl,SqT.of hp,aI0,rfl,(zf rfl ?_)⟩);refine ite2 (fun _=>?_) aB;have hl:as.ways.length=ps.length:=by rw[Arms.ways_l,ua,hA.len]
  have hsz:as.ways.length<=1000000:=by
   have e:∀a:Arms,a.ways.length<=a.sz:=by
    intro a;exact jH a
   have:=e as
   rw[Bd.sz]at hz;lia
  refine(zf rfl ⟨p,_,_,_,rfl,rfl,SqT.of hp,aI2,p1,rfl,⟨_,SqT.of hp1⟩,xo (xs:=ps.map V.ref) (fun j τ ys H'=>Same H H'/\(∃v,τ=[oR p,v])/\∃rs:List Addr,ys=rs.map V.ref/\IsY H' (as.ways.take j) rs) ⟨Same.refl _,⟨none,rfl⟩,[],rfl,.nil⟩ (fun j τ ys H' _ h=>SqT.of (h.1 _ _ hp1)) ?_ ?_⟩)
  ·rintro j v τ ys H1 hv ⟨s1,⟨v',rfl⟩,rs,rfl,hy⟩
   obtain⟨pa,hpa,rfl⟩:=L2.gM hv;obtain⟨⟨t,ns,m,k,b⟩,q1,r1,e0,e2,e3,e4⟩:=hA.get hpa;have e1:as.ways[j]?=some (ns,b):=by rw[Arms.ways_l,ug,e0];rfl
   have hj:j < as.ways.length:=(ue.mp e1).1;have hyl:=hy.len;rw[uH]at hyl;refine(zf rfl ⟨pa,_,_,_,rfl,rfl,SqT.of (s1 _ _ e2),aI1,(zf rfl (zf rfl ⟨pa,_,_,_,rfl,rfl,SqT.of (s1 _ _ e2),rfl,sN2,fun t1 h1=>⟨by rw[ua];lia,s1.new h1,⟨_,rfl⟩,rs++[t1],by simp,?_⟩⟩))⟩);rw[uI,e1];exact(hy.keep (.of (zi h1 _))).app (.cons zg (old h1 (s1 _ _ e3)) (e4.keep (.of (s1.new h1))) .nil)
  ·rintro τ ys H1 ⟨s1,_,rs,rfl,hy⟩ r hr
   rw[ua,<- hl,ux (ud _)]at hy;refine q _ r rs (s1.new hr) (s1.free hr) zg ?_;unfold Bd.ways;exact hy.keep (.of (zi hr _))
end
def isLD(n:Nat):Dd->Bool
 |.mk _ ns k=>decide (ns.length=n) && decide (k="")
 |_=>false
def Bd.isL(n:Nat):Bd->Bool
 |.lt _ d _=>isLD n d
 |_=>false
def Arms.bs:Arms->List Bd
 |.nil=>[]
 |.cons _ _ _ _ b r=>b::r.bs
def Bd.kd:Bd->List Bd
 |.give _=>[]
 |.lt _ _ b=>[b]
 |.hold _ _ b=>[b]
 |.drop _ b=>[b]
 |.loose _ b=>[b]
 |.iff _ b c=>[b,c]
 |.cs _ as=>as.bs
def Arms.wb:Arms->List Bd->Arms
 |.cons t ns m k _ r,b::l=>.cons t ns m k b (r.wb l)
 |as,_=>as
def Bd.wb:Bd->List Bd->Bd
 |.give x,_=>.give x
 |.lt x d _,b::_=>.lt x d b
 |.hold x y _,b::_=>.hold x y b
 |.drop x _,b::_=>.drop x b
 |.loose x _,b::_=>.loose x b
 |.iff x _ _,b::c::_=>.iff x b c
 |.cs x as,l=>.cs x (as.wb l)
 |b,_=>b
theorem jJ:∀b:Bd,b.ways.map (·.2)=b.kd
 |.give _=>rfl
 |.lt _ _ _=>rfl
 |.hold _ _ _=>rfl
 |.drop _ _=>rfl
 |.loose _ _=>rfl
 |.iff _ _ _=>rfl
 |.cs _ as=>by
  unfold Bd.ways Bd.kd
  induction as using Arms.rec (motive_1:=fun _=>True)with
  |nil=>rfl
  |cons t ns m k b r _ ih=>unfold Arms.ways Arms.bs;rw[ur,ih]
  |_=>trivial
theorem QW:∀{as:Arms}{l:List Bd},l.length=as.bs.length->(l.map Bd.sz).sum<=(as.wb l).sz
 |.nil,l,h=>by
  have:l=[]:=Uc.mp h
  rw[this];exact ud _
 |.cons t ns m k b r,[],h=>by simp[Arms.bs]at h
 |.cons t ns m k b r,c::l,h=>by
  unfold Arms.wb Arms.sz
  have:=QW (as:=r) (l:=l) (by simpa[Arms.bs]using h)
  rw[ur,uS];lia
theorem QX{l:List Bd}(h:l.length=b.kd.length):(l.map Bd.sz).sum+1<=(b.wb l).sz:=by
 cases b with
 |give x =>
  have:l=[]:=Uc.mp h
  rw[this];unfold Bd.wb Bd.sz;exact ud _
 |cs x as =>
  unfold Bd.wb Bd.sz
  have:=QW (as:=as) h
  lia
 |iff x b c =>
  match l,h with
  |[b',c'],_=>unfold Bd.wb Bd.sz;simp;try lia
 |_ =>
  match l,h with
  |[b'],_=>unfold Bd.wb Bd.sz;simp
mutual
def Bd.hasL(n:Nat):Bd->Bool
 |.give _=>false
 |.lt _ d b=>isLD n d || b.hasL n
 |.hold _ _ b=>b.hasL n
 |.drop _ b=>b.hasL n
 |.loose _ b=>b.hasL n
 |.iff _ b c=>b.hasL n || c.hasL n
 |.cs _ as=>as.hasL n
def Arms.hasL(n:Nat):Arms->Bool
 |.nil=>false
 |.cons _ _ _ _ b r=>b.hasL n || r.hasL n
end
theorem YZ{n:Nat}:∀as:Arms,as.hasL n=as.bs.any fun b=>b.hasL n
 |.nil=>by unfold Arms.hasL Arms.bs;rfl
 |.cons _ _ _ _ b r=>by unfold Arms.hasL Arms.bs;rw[YZ r,Uq]
theorem JM(b:Bd):b.hasL n=(b.isL n || b.kd.any fun c=>c.hasL n):=by
 cases b with
 |cs x as=>rw[Bd.hasL,YZ];rfl
 |_=>rw[Bd.hasL];simp[Bd.isL,Bd.kd]
def setT(k:Str):Dd->Dd
 |.mk t ns _=>.mk t ns k
 |d=>d
mutual
def Bd.wy(k:Str)(n:Nat):Bd->Bd
 |.give x=>.give x
 |.lt x d b=>if isLD n d then .lt x (setT k d) b else .lt x d (b.wy k n)
 |.hold x y b=>.hold x y (b.wy k n)
 |.drop x b=>.drop x (b.wy k n)
 |.loose x b=>.loose x (b.wy k n)
 |.iff x b c=>if b.hasL n || c.hasL n then .iff x (if b.hasL n then b.wy k n else .loose k b) (if c.hasL n then c.wy k n else .loose k c)else .iff x b c
 |.cs x as=>if as.hasL n then .cs x (as.wy k n)else .cs x as
def Arms.wy(k:Str)(n:Nat):Arms->Arms
 |.nil=>.nil
 |.cons t ns m k' b r=>.cons t ns m k' (if b.hasL n then b.wy k n else .loose k b) (r.wy k n)
end
mutual
theorem Bd.wy_id{k:Str}{n:Nat}:∀{b:Bd},b.hasL n=false->b.wy k n=b
 |.give x,_=>by unfold Bd.wy;rfl
 |.lt x d b,h=>by
  unfold Bd.hasL at h;rw[Bool.or_eq_false_iff]at h;unfold Bd.wy;rw[if_neg (by rw[h.1];decide),Bd.wy_id h.2]
 |.hold x y b,h=>by unfold Bd.hasL at h;unfold Bd.wy;rw[Bd.wy_id h]
 |.drop x b,h=>by unfold Bd.hasL at h;unfold Bd.wy;rw[Bd.wy_id h]
 |.loose x b,h=>by unfold Bd.hasL at h;unfold Bd.wy;rw[Bd.wy_id h]
 |.iff x b c,h=>by unfold Bd.hasL at h;unfold Bd.wy;rw[if_neg (by rw[h];decide)]
 |.cs x as,h=>by unfold Bd.hasL at h;unfold Bd.wy;rw[if_neg (by rw[h];decide)]
end
def Vf(k:Str)(n:Nat)(b:Bd):Bd:=if b.hasL n then b.wb (b.kd.map fun c=>if c.hasL n then c.wy k n else .loose k c)else b
theorem QY{k:Str}{n:Nat}:∀as:Arms,as.wy k n=as.wb (as.bs.map fun c=>if c.hasL n then c.wy k n else .loose k c)
 |.nil=>by unfold Arms.wy Arms.bs Arms.wb;rfl
 |.cons t ns m k' b r=>by unfold Arms.wy Arms.bs;rw[QY r];rfl
theorem JN{k:Str}(h:b.isL n=false):b.wy k n=Vf k n b:=by
 unfold Vf;by_cases c:b.hasL n=true
 ·rw[if_pos c]
  cases b with
  |give x=>rw[Bd.wy];rfl
  |lt x d b =>
   have h:isLD n d=false:=h;rw[Bd.hasL]at c;rw[h,Bool.false_or]at c;rw[Bd.wy,if_neg (by rw[h];decide)];show _=Bd.lt x d (if b.hasL n=true then b.wy k n else .loose k b);rw[if_pos c]
  |hold x y b=>rw[Bd.hasL]at c;rw[Bd.wy];show _=Bd.hold x y (if b.hasL n=true then b.wy k n else .loose k b);rw[if_pos c]
  |drop x b=>rw[Bd.hasL]at c;rw[Bd.wy];show _=Bd.drop x (if b.hasL n=true then b.wy k n else .loose k b);rw[if_pos c]
  |loose x b=>rw[Bd.hasL]at c;rw[Bd.wy];show _=Bd.loose x (if b.hasL n=true then b.wy k n else .loose k b);rw[if_pos c]
  |iff x b d=>rw[Bd.hasL]at c;rw[Bd.wy,if_pos c];rfl
  |cs x as=>rw[Bd.hasL]at c;rw[Bd.wy,if_pos c,QY];rfl
 ·rw[if_neg c,Bd.wy_id (by simpa using c)]
mutual
def Bd.mu:Bd->Nat
 |.give _=>1
 |.lt _ _ b=>b.mu+1
 |.hold _ _ b=>b.mu+1
 |.drop _ b=>b.mu+1
 |.loose _ b=>b.mu+1
 |.iff _ b c=>max b.mu c.mu+1
 |.cs _ as=>as.mu+2
def Arms.mu:Arms->Nat
 |.nil=>0
 |.cons _ _ _ _ b r=>max b.mu r.mu
end
mutual
theorem Bd.wy_mu{k:Str}{n:Nat}:∀b:Bd,(b.wy k n).mu<=b.mu+1
 |.give x=>by unfold Bd.wy;lia
 |.lt x d b=>by
  have:=Bd.wy_mu (k:=k) (n:=n) b
  unfold Bd.wy
  split<;>unfold Bd.mu<;>lia
 |.hold x y b=>by have:=Bd.wy_mu (k:=k) (n:=n) b;unfold Bd.wy Bd.mu;lia
 |.drop x b=>by have:=Bd.wy_mu (k:=k) (n:=n) b;unfold Bd.wy Bd.mu;lia
 |.loose x b=>by have:=Bd.wy_mu (k:=k) (n:=n) b;unfold Bd.wy Bd.mu;lia
 |.iff x b c=>by
  have h1:=Bd.wy_mu (k:=k) (n:=n) b;have h2:=Bd.wy_mu (k:=k) (n:=n) c;unfold Bd.wy;split
  ·have l:∀z:Bd,(Bd.loose k z).mu=z.mu+1:=fun z=>by rw[Bd.mu]
   rw[Bd.mu,Bd.mu]
   split<;>split<;>(try rw[l])<;>(try rw[l])<;>lia
  ·lia
 |.cs x as=>by
  have:=Arms.wy_mu (k:=k) (n:=n) as
  unfold Bd.wy;split
  ·rw[Bd.mu,Bd.mu];lia
  ·lia
theorem Arms.wy_mu{k:Str}{n:Nat}:∀as:Arms,(as.wy k n).mu<=as.mu+1
 |.nil=>by unfold Arms.wy;lia
 |.cons t ns m k' b r=>by
  have h1:=Bd.wy_mu (k:=k) (n:=n) b;have h2:=Arms.wy_mu (k:=k) (n:=n) r;unfold Arms.wy;rw[Arms.mu,Arms.mu];split
  ·lia
  ·rw[Bd.mu];lia
end
theorem Vg{b:Bd}:∀{as:Arms},b∈as.bs->b.mu<=as.mu
 |.nil,h=>by unfold Arms.bs at h;cases h
 |.cons _ _ _ _ c r,h=>by
  unfold Arms.bs at h;rw[Arms.mu];rcases uq.mp h with rfl|h
  ·lia
  ·have:=Vg h;lia
theorem zbY{c:Bd}(h:c∈b.kd):c.mu < b.mu:=by
 cases b with
 |give x=>cases h
 |cs x as=>have:=Vg (as:=as) h;rw[Bd.mu];lia
 |iff x b d =>
  rw[Bd.mu];simp[Bd.kd]at h
  rcases h with rfl|rfl<;>lia
 |_=>simp[Bd.kd]at h;subst h;rw[Bd.mu];lia
def tokS(j:Nat):Str:=Str.empty++("place.":Str)++Str.ofString (toString ((j:Nat):Int))
theorem jK(h:tokS i=tokS j):i=j:=by
 have e:=congrArg cl h;unfold tokS at e;rw[yb,yb,yb,yb]at e;have e:=List.append_cancel_left e;have e2:Str.ofString (toString ((i:Nat):Int))=Str.ofString (toString ((j:Nat):Int)):=by
  have:∀{a b:Str},cl a=cl b->a=b:=fun{a b} z=>by
   cases a;cases b;exact congrArg Str.mk (Array.toList_inj.mp z)
  exact this e
 have e3:toString ((i:Nat):Int)=toString ((j:Nat):Int):=by
  rw[Str.ofString_eq_toList,Str.ofString_eq_toList]at e;have e:(toString ((i:Nat):Int)).toList.map Char.toNat=(toString ((j:Nat):Int)).toList.map Char.toNat:=e;exact String.ext ((List.map_inj_right fun _ _=>Char.toNat_inj.mp).mp e)
 exact Int.ofNat.inj (Int.repr_inj.mp e3)
theorem JO(j:Nat):tokS j≠("":Str):=fun h=>by
 have e:=congrArg (fun z=>(cl z).length) h;unfold tokS at e;simp only[yb,ub]at e
 have:(cl ("place.":Str)).length=6:=by decide +kernel
 have:(cl ("":Str)).length=0:=by decide +kernel
 lia
theorem zbb(tk:LS):∃B,∀N,B<=N->tokS N∉tk:=by
 induction tk with
 |nil=>exact⟨0,fun N _ h=>by cases h⟩
 |cons x r ih =>
  obtain⟨B,hB⟩:=ih;by_cases c:∃N,tokS N=x
  ·obtain⟨N0,h0⟩:=c
   refine⟨max B (N0+1),fun N hN hm=>?_⟩;rcases uq.mp hm with h|h
   ·have:=jK (h.trans h0.symm)
    lia
   ·exact hB N (by lia) h
  ·refine⟨B,fun N hN hm=>?_⟩
   rcases uq.mp hm with h|h
   ·exact c ⟨N,h⟩
   ·exact hB N hN h
theorem QZ(tk:LS)(n:Nat):∃N,n < N/\tokS N∉tk/\∀M,n < M->M < N->tokS M∈tk:=by
 obtain⟨B,hB⟩:=zbb tk;have key:∀d n,B<=n+d->∃N,n < N/\tokS N∉tk/\∀M,n < M->M < N->tokS M∈tk:=by
  intro d
  induction d with
  |zero=>exact fun n h=>⟨n+1,by lia,hB _ (by lia),fun M h1 h2=>by lia⟩
  |succ d ih =>
   intro n h;by_cases c:tokS (n+1)∈tk
   ·obtain⟨N,h1,h2,h3⟩:=ih (n+1) (by lia)
    refine⟨N,by lia,h2,fun M m1 m2=>?_⟩;by_cases e:M=n+1
    ·rw[e];exact c
    ·exact h3 M (by lia) m2
   ·exact⟨n+1,by lia,c,fun M h1 h2=>by lia⟩
 exact key B n (by lia)
noncomputable def nxT (tk:LS) (n:Nat):Nat:=Classical.choose (QZ tk n)
theorem xt(tk:LS)(n:Nat):n < nxT tk n/\tokS (nxT tk n)∉tk/\∀M,n < M->M < nxT tk n->tokS M∈tk:=Classical.choose_spec (QZ tk n)
def armK(m:Str)(ns:LS)(b:Bd):Bool:=decide (m="take") && (decide (ns.length≠0) && b.hasL ns.length)
def Arms.tk(nx:Nat->Nat):Arms->Nat->Arms×Nat
 |.nil,n=>(.nil,n)
 |.cons t ns m k b r,n=>if armK m ns b then(.cons t ns m (tokS (nx n)) (b.wy (tokS (nx n)) ns.length) (r.tk nx (nx n)).1,(r.tk nx (nx n)).2)else(.cons t ns m k b (r.tk nx n).1,(r.tk nx n).2)
def Bd.chg(nx:Nat->Nat):Bd->Nat->Bd×Nat
 |.cs x as,n=>(.cs x (as.tk nx n).1,(as.tk nx n).2)
 |b,n=>(b,n)
def mapL(g:Bd->Nat->Bd×Nat):List Bd->Nat->List Bd×Nat
 |[],n=>([],n)
 |b::l,n=>((g b n).1::(mapL g l (g b n).2).1,(mapL g l (g b n).2).2)
def AB(nx:Nat->Nat):Nat->Bd->Nat->Bd×Nat
 |0,b,n=>(b,n)
 |f+1,b,n=>((b.chg nx n).1.wb (mapL (AB nx f) (b.chg nx n).1.kd (b.chg nx n).2).1,(mapL (AB nx f) (b.chg nx n).1.kd (b.chg nx n).2).2)
structure ATk where
 f:Nat
 n:Nat
 b:Bd
def ksL(nx:Nat->Nat)(f:Nat):List Bd->Nat->List ATk
 |[],_=>[]
 |b::l,n=>⟨f,n,b⟩ :: ksL nx f l (AB nx f b n).2
def ATk.kids(nx:Nat->Nat):ATk->List ATk
 |⟨0,_,_⟩=>[]
 |⟨f+1,n,b⟩=>ksL nx f (b.chg nx n).1.kd (b.chg nx n).2
def ATk.res(nx:Nat->Nat)(t:ATk):Bd:=(AB nx t.f t.b t.n).1
def ATk.post(nx:Nat->Nat)(t:ATk):Nat:=(AB nx t.f t.b t.n).2
def ATk.mid(nx:Nat->Nat):ATk->Nat
 |⟨0,n,_⟩=>n
 |⟨_+1,n,b⟩=>(b.chg nx n).2
def ATk.wt(nx:Nat->Nat)(t:ATk):Nat:=3*(t.res nx).sz
theorem xu{g:Bd->Nat->Bd×Nat}:∀(l:List Bd)(n:Nat),(mapL g l n).1.length=l.length
 |[],n=>rfl
 |b::l,n=>by unfold mapL;rw[um,um,xu l]
theorem Vh{f:Nat}:∀(l:List Bd)(n:Nat),(ksL nx f l n).map (·.b)=l
 |[],_=>rfl
 |b::l,n=>by unfold ksL;rw[ur,Vh l]
theorem Q0{f:Nat}:∀(l:List Bd)(n:Nat),∀t∈ksL nx f l n,t.f=f
 |[],_,t,h=>by cases h
 |b::l,n,t,h=>by
  unfold ksL at h;rcases uq.mp h with rfl|h
  ·rfl
  ·exact Q0 l _ t h
theorem wm{f:Nat}:∀(l:List Bd)(n:Nat),(ksL nx f l n).map (ATk.res nx)=(mapL (AB nx f) l n).1
 |[],_=>rfl
 |b::l,n=>by unfold ksL mapL;rw[ur,wm l];rfl
theorem Y0{f:Nat}:∀(l:List Bd)(n:Nat),Chn ATk.n (ATk.post nx) n (ksL nx f l n) (mapL (AB nx f) l n).2
 |[],_=>rfl
 |b::l,n=>⟨rfl,Y0 l _⟩
theorem Vi(t:ATk):Chn ATk.n (ATk.post nx) (t.mid nx) (t.kids nx) (t.post nx):=by
 obtain⟨f,n,b⟩:=t;cases f with
 |zero=>rfl
 |succ f=>exact Y0 _ _
theorem JP(t:ATk):((t.kids nx).map (ATk.wt nx)).sum+2<=t.wt nx:=by
 obtain⟨f,n,b⟩:=t;cases f with
 |zero =>
  have:0 < b.sz:=b.sz_pos
  show 0+2<=3*b.sz;lia
 |succ f =>
  show((ksL nx f (b.chg nx n).1.kd (b.chg nx n).2).map (ATk.wt nx)).sum+2<=3*((b.chg nx n).1.wb (mapL (AB nx f) (b.chg nx n).1.kd (b.chg nx n).2).1).sz;have h:=QX (b:=(b.chg nx n).1) (l:=(mapL (AB nx f) (b.chg nx n).1.kd (b.chg nx n).2).1) (xu _ _);rw[<- wm]at h;rw[<- wm];have e:∀l:List ATk,(l.map (ATk.wt nx)).sum=3*((l.map (ATk.res nx)).map Bd.sz).sum:=by
   intro l
   induction l with
   |nil=>rfl
   |cons a l ih =>
    rw[ur,ur,ur,uS,uS,ih];show 3*(a.res nx).sz+_=_;lia
  rw[e];lia
theorem Vj:∀(as:Arms)(n:Nat),(as.tk nx n).1.mu<=as.mu+1
 |.nil,n=>by unfold Arms.tk;show Arms.nil.mu<=_;lia
 |.cons t ns m k b r,n=>by
  unfold Arms.tk;have h:=Bd.wy_mu (k:=tokS (nx n)) (n:=ns.length) b;have h1:=Vj r (nx n);have h2:=Vj r n;split
  ·show(Arms.cons t ns m (tokS (nx n)) (b.wy (tokS (nx n)) ns.length) (r.tk nx (nx n)).1).mu<=_
   rw[Arms.mu,Arms.mu];lia
  ·show(Arms.cons t ns m k b (r.tk nx n).1).mu<=_
   rw[Arms.mu,Arms.mu];lia
theorem Yo{c:Bd}(h:c∈(b.chg nx n).1.kd):c.mu < b.mu:=by
 cases b with
 |cs x as =>
  have h:c∈(as.tk nx n).1.bs:=h;have h1:=Vg h;have h2:=Vj (nx:=nx) as n;rw[Bd.mu];lia
 |_=>exact zbY h
end GN
variable{ds:List GN.Df}{d:GN.Df}
namespace HT
open PySem PySem.Spec PyProof.Rows
theorem getItem_tuple_whole{t:Addr}{Q:VSP}(ht:IsTup s.heap t items)(hs:s.heap.IsSliceOf sl vl vu .none)(pl:IsPart vl lo)(pu:IsPart vu hi)
  (hw:sIx items.size 0 lo=0/\sIx items.size items.size hi=items.size) (h:Q (.ref t) s):wpAny (model prog w) A (getItem (.ref t) (.ref sl)) Q E s:=by
 obtain⟨os,hos,hcs,hds⟩:=id hs;have hTs:s.TypeIs (.ref sl) "slice":=⟨os,hos,hcs⟩;unfold getItem
 try with_reducible refine wpAny_holding ?_
 first|refine wpAny_bind (wpAny_pure ?_)|skip
 refine wpAny_bind (wpAny_sequenceKey ht.typeIs (by decide) ?_);refine wpAny_bind (wpAny_callSpecial?_slot (name:=Str.ofString "__getitem__") ht.typeIs Ua
  (wpAny_call_entry Ua ht.typeIs entry_tuple_getitem ?_ (args_tuple_getitem _ _)))
 show wpAny _ _ (Builtin.Tuple.tupleItemsOf (.ref t) >>= _) _ _ s;refine wpAny_bind (tupleItemsOf_ ht ?_);refine wpAny_bind (wpAny_typeOf hTs ?_);rw[if_pos (by decide)];refine wpAny_bind (yU hs pl pu ?_);have hyes:(((sIx items.size 0 lo:Nat):Int) == 0 && (1:Int) == 1 && (sIx items.size items.size hi-sIx items.size 0 lo) == items.size)=true:=by
  rw[hw.1,hw.2];simp
 show wpAny _ _ (if(((sIx items.size 0 lo:Nat):Int) == 0 && (1:Int) == 1 && (sIx items.size items.size hi-sIx items.size 0 lo) == items.size)=true then _ else _) _ _ s;rw[if_pos hyes];have hx:wpAny (model prog w) A.in1 (Builtin.Tuple.tupleIsExact (.ref t)) (fun b s'=>b=true/\s'=s) (fun _ _=>False) s:=by
  unfold Builtin.Tuple.tupleIsExact;exact wpAny_bind (wpAny_typeOf ht.typeIs (wpAny_pure ⟨by decide,rfl⟩))
 refine wpAny_bind (wpAny_mono hx (fun b s' q=>?_) fun _ _ z=>z.elim);obtain⟨rfl,rfl⟩:=q;rw[if_pos rfl];exact wpAny_bind (wpAny_rule (wpAny_pure ⟨_,rfl,wpAny_pure h⟩))
end HT
namespace L2
open PySem PySem.Spec PyProof.Rows
def rSlW(K:uc):V->Option Int->Option Int->Hp->VK->Prop:=fun x lo hi H Q=>∃a xs,x=.ref a/\SqT K H a xs /\
 (cutV xs lo hi=xs->Q (.ref a) H)/\∀p,H p=none->Q (.ref p) (upd H p (.tup (cutV xs lo hi)))
theorem JQ:SlR X (rSlW X.K):=by
 intro pins s σ H x v vl vu lo hi sl Q I rx hs pl pu h;obtain⟨a,xs,rfl,hx,q1,q⟩:=h;by_cases hw:HT.sIx xs.length 0 lo=0/\HT.sIx xs.length xs.length hi=xs.length
 ·cases rx
  obtain⟨its,r,ht,hz⟩:=I.tuple hx;have hlen:its.toArray.size=xs.length:=by rw[uo];exact r.length.symm
  refine⟨"tuple",_,Ua.lookup,ht.typeIs,?_⟩;refine HT.getItem_tuple_whole ht hs pl pu (by rw[hlen];exact hw) ⟨.ref a,H,I,rfl,q1 ?_⟩;unfold cutV;rw[hw.1,hw.2];simp
 ·exact zaE pins s σ H (.ref a) v vl vu lo hi sl Q I rx hs pl pu ⟨a,xs,rfl,hx,hw,q⟩
def rSlO:V->Option Int->Option Int->Hp->VK->Prop:=fun x lo hi H Q=>∃a xs,x=.ref a/\H a=some (.tup xs)/\∀p H',(∀b o,H b=some o->H' b=some o)->H' p=some (.tup (cutV xs lo hi))->Q (.ref p) H'
theorem JR:SlR X rSlO:=by
 intro pins s σ H x v vl vu lo hi sl Q I rx hs pl pu h;obtain⟨a,xs,rfl,hx,q⟩:=h;refine JQ pins s σ H (.ref a) v vl vu lo hi sl Q I rx hs pl pu ⟨a,xs,rfl,SqT.of hx,fun e=>q a H (fun _ _ z=>z) (by rw[e];exact hx),fun p hp=>q p _ (fun b o z=>?_) zg⟩;rw[zj (zo z hp)];exact z
theorem yi:jSl X rSlO:=⟨JR⟩
end L2
namespace GN
open PySem L2 K11
def ent(l:LS):List (Key×V):=l.map fun x=>(.inr x,.bl true)
theorem jM:∀{l:LS}{x:Str},(valV (ent l) (.inr x)).isSome=decide (x∈l)
 |[],x=>rfl
 |y::l,x=>by
  show(valV ((Sum.inr y,V.bl true)::ent l) (.inr x)).isSome=_;by_cases e:y=x
  ·rw[xp (by rw[e])]
   simp[e]
  ·have e':¬ x=y:=fun z=>e z.symm
   rw[xq (fun z=>e (Sum.inr.inj z)),jM];simp[e']
theorem Y1(l:LS)(x:Str):putK (ent l) (.inr x) (.bl true)=ent (if x∈l then l else l++[x]):=by
 unfold putK;rw[wg,jM];by_cases c:x∈l
 ·rw[if_pos (by simpa using c),if_pos c]
  unfold ent;rw[List.map_map];refine List.map_congr_left fun y hy=>?_;show(if(Sum.inr y:Key)=Sum.inr x then((Sum.inr y:Key),V.bl true)else(Sum.inr y,V.bl true))=_
  split<;>rfl
 ·rw[if_neg (by simpa using c),if_neg c]
  unfold ent;rw[uh]
  rfl
theorem wn:∀l:Wy,l.length<=wsz l
 |[]=>uF _
 |p::l=>by
  have h1:=Bd.sz_pos p.2;have h2:=wn l;unfold wsz at h2 ⊢;rw[ur,uS,um];lia
inductive spBound(vs:List V)(H:Hp)(Q:VK)(e_3:XK):Prop
 |mk (p:Addr):(∃d:Df,vs=[.ref p]/\IsDf H d p/\d.ps.length<=1000/\d.b.sz<=1000000/\d.b.binds.length<=1000000/\∀(H':Hp)(r:Addr),Same H H'->H r=none->H' r=some (.lst ((once [] (d.ps++d.b.binds)).map V.str))->Q (.ref r) H')->spBound vs H Q e_3
section
variable{K:uc}
theorem scBound:FnScope ["one","found","left","pair","name","way"] ["one"] (zp Yb):=.ok
theorem Vk(F:Fun K "bound" "bound" Yb f fd)(GW:Ca P w K mg base CX0 1 "ways_on" ["body"] spWays)(m_len:mg "len"=none)(m_reversed:mg "reversed"=none)(m_list:mg "list"=none):FnOk P w K mg base CX0 2 f fd ["one"] spBound:=by
 refine F.by scBound (fun vs H Q E h=>?_) (fun cdv A outer s H vs Q E hr h=>?_)
 ·obtain⟨p,d,rfl,_⟩:=h
  rfl
 obtain⟨p,df,rfl,⟨pq,po,pb,hp,hpq,hpo,hpb⟩,hn1,hn2,bl,q⟩:=h;refine⟨_,
  (zh (sE 1 scBound.nd vt)
  (zh (sE 2 scBound.nd (zC (jA1 (zr (jA2 (xT 0) (xX yp (jv 0) (yu zn)))))))
  (zh (xU PassesOwn.never (tN xV (jL m_len (jv 2)) zn)
   (zh (sE 3 scBound.nd (xK uk uY uZ xM (jv 2)))
   (zh (zM PassesOwn.never rfl (yn (xT 3)) (gN 4 scBound.nd)
    (zk (wX hr (jv 1) (jv 4) yA)))
   (zk (zM PassesOwn.never rfl (jw rfl m_reversed (jA1 (cA GW hr (jA1 (xT 3))))) (gN 5 scBound.nd)
    (zk (zF (zV uk uy uz zG (jv 2) (jA1 (jv 5))))))))))
  (zk (zt (zB (jC rfl) rfl m_list uO (jA1 (jv 1)))))))),?_⟩
 have sl:=zJ;intro d0 hd0;have s1:=zi (o:=.dK []) hd0;refine(zf rfl ⟨p,_,_,_,rfl,rfl,SqT.of (s1 _ _ hp),aI1,(zf rfl (zf rfl ⟨p,_,_,_,rfl,rfl,SqT.of (s1 _ _ hp),rfl,sN2,fun t1 h1=>⟨sN1,fun lf h2=>?_⟩⟩))⟩);have s2:=s1.new (o:=.tup [.ref pq,.ref pb]) h1;have flf:H lf=none:=s2.free h2;have s3:=s2.new (o:=.lst [.ref t1]) h2;have nld:lf≠d0:=(zo (old h1 (zg (H:=H) (a:=d0) (o:=.dK []))) h2).symm;refine⟨fun m σ H'=>∃(stk:Wy)(ps:List Addr)(acc:LS)(x y z:Option V),m=wsz stk/\σ=[oR p,oR d0,oR lf,x,y,z]/\Same H H'/\H' lf=some (.lst (ps.reverse.map V.ref))/\IsY H' stk ps/\H' d0=some (.dK (ent acc))/\once acc (pend stk)=once [] (df.ps++df.b.binds)/\acc.length+(pend stk).length<=1001000/\wsz stk<=1000000,
  ⟨_,[(df.ps,df.b)],[t1],[],none,none,none,rfl,rfl,s3,zg,.cons (old h2 zg) (s3 _ _ hpq) (hpb.keep (.of s3)) .nil,old h2 (old h1 zg),by unfold pend;simp,by unfold pend;simp;lia,by unfold wsz;simpa using hn2⟩,?_⟩
 rintro m σ H3 ⟨stk,ps,acc,x,y,z,rfl,rfl,sm,hl,hy,hd,ho,hal,hwz⟩;refine(zf rfl ⟨_,_,rfl,.inl (SqL.of hl),(zv rfl rfl (zf rfl ?_))⟩);cases hy with
 |nil =>
  refine iteF ?_;unfold pend at ho;refine(zf rfl ⟨d0,(zf rfl ⟨hd,fun r hr=>?_⟩)⟩);have e:(ent acc).map (fun kv=>kV kv.1)=acc.map V.str:=by unfold ent;rw[List.map_map];rfl
  rw[e];refine q _ r (sm.new hr) (sm.free hr) ?_;rw[zg,<- ho]
  rfl
 |@cons ns b pp q1 r1 l ps hpp hq1 hb hy =>
  have hne:decide ((0:Int) < ((((pp::ps).reverse.map V.ref).length:Nat):Int))=true:=by
   rw[decide_eq_true_eq,ua,u4,um];lia
  rw[hne];refine iteT ⟨_,fun _ _ h=>h,?_⟩;have e1:(pp::ps).reverse.map V.ref=ps.reverse.map V.ref++[.ref pp]:=by simp
  have e2:((pp::ps).reverse.map V.ref)[((pp::ps).reverse.map V.ref).length-1]?=some (.ref pp):=by rw[e1];simp
  have e3:((pp::ps).reverse.map V.ref).dropLast=ps.reverse.map V.ref:=by rw[e1];simp
  refine(zf rfl ⟨.inl ⟨rfl,_,SqL.of hl⟩,lf,(zv rfl rfl ⟨hl,e2,?_⟩)⟩);rw[e3];have t4:Tups H3 (upd H3 lf (.lst (ps.reverse.map V.ref))):=fun b xs z=>by rw[zj (xh z hl (by intro z;cases z))];exact z
  have s4:=sm.put (o:=.lst (ps.reverse.map V.ref)) flf;have hl4:=zg (H:=H3) (a:=lf) (o:=.lst (ps.reverse.map V.ref));have hd4:upd H3 lf (.lst (ps.reverse.map V.ref)) d0=some (.dK (ent acc)):=by rw[zj nld.symm];exact hd
  replace hpp:=t4 _ _ hpp
  replace hq1:=t4 _ _ hq1
  replace hb:=hb.keep t4
  replace hy:=hy.keep t4
  generalize upd H3 lf (.lst (ps.reverse.map V.ref))=H4 at *;have hpd:pend ((ns,b)::l)=ns++(b.binds++pend l):=by unfold pend;rw[Uk,u7]
  rw[hpd]at ho hal;rw[ub,ub]at hal;have hwc:wsz ((ns,b)::l)=b.sz+wsz l:=by unfold wsz;rw[ur,uS]
  rw[hwc]at hwz;have hll:=wn l;have hyl:=hy.len;refine(zf rfl ⟨pp,_,_,_,rfl,rfl,SqT.of hpp,aI0,q1,rfl,⟨_,SqT.of hq1⟩,xx (xs:=ns.map V.str) (fun i σ H'=>Same H H'/\Tups H4 H'/\H' lf=some (.lst (ps.reverse.map V.ref))/\H' d0=some (.dK (ent (once acc (ns.take i))))/\∃y z,σ=[oR p,oR d0,oR lf,oR pp,y,z]) ⟨s4,fun _ _ h=>h,hl4,hd4,_,_,rfl⟩ (fun i σ H' _ h=>SqT.of (h.2.1 _ _ hq1)) ?_ ?_⟩)
  ·rintro i v σ H5 hv ⟨s5,t5,hl5,hd5,y,z,rfl⟩
   obtain⟨x,hx,rfl⟩:=L2.gM hv;have hi:i < ns.length:=(ue.mp hx).1;have ol:=yY (ns.take i) acc;rw[uH]at ol;refine(zf rfl (zf rfl ⟨d0,(zf rfl ⟨DPut.k (k:=.inr x) hd5 (by unfold ent;rw[ua];lia),s5.put hd0,fun b xs z=>?_,?_,?_,_,_,rfl⟩)⟩))
   ·rw[zj (xh (t5 _ _ z) hd5 (by intro e;cases e))]
    exact t5 _ _ z
   ·rw[zj nld]
    exact hl5
   ·rw[zg,Y1,<- v0 hx]
  rintro σ H5 ⟨s5,t5,hl5,hd5,y,z,rfl⟩;rw[ua,ux (ud _)]at hd5;refine(zf rfl ⟨pp,_,_,_,rfl,rfl,SqT.of (t5 _ _ hpp),aI1,r1,b,rfl,hb.keep t5,by lia,fun H6 rl rs s6 f6 hrl hyw=>?_⟩);have hywl:=hyw.len;have hww:=Bd.wsz b;have hwl:=wn b.ways;have nlr:lf≠rl:=zo hl5 f6;have ndr:d0≠rl:=zo hd5 f6;refine⟨rl,(zf rfl ⟨SqL.of hrl,wV (xs:=rs.map V.ref) (fun i σ H'=>Same H H'/\Tups H6 H'/\H' rl=some (.lst (rs.map V.ref))/\H' lf=some (.lst ((ps.reverse++rs.reverse.take i).map V.ref))/\H' d0=some (.dK (ent (once acc ns)))/\∃z,σ=[oR p,oR d0,oR lf,oR pp,y,z]) ⟨s5.trans s6,fun _ _ h=>h,hrl,by rw[List.take_zero,Ue];exact s6 _ _ hl5,s6 _ _ hd5,_,rfl⟩ (fun i σ H' _ h=>SqL.of h.2.2.1) ?_ ?_⟩)⟩
  ·rintro i v σ H7 hv ⟨s7,t7,hr7,hl7,hd7,z,rfl⟩
   rw[<- List.map_reverse,ug]at hv;obtain⟨t,ht,rfl⟩:=uj.mp hv;have hi:i < rs.length:=by
    have:=(ue.mp ht).1
    rw[u4]at this;exact this
   refine(zf rfl ⟨.inl ⟨rfl,_,SqL.of hl7⟩,(zf rfl ⟨lf,(zv rfl rfl ⟨hl7,?_,s7.put flf,fun b xs z=>?_,?_,?_,?_,_,rfl⟩)⟩)⟩)
   ·rw[ua,ub,u4,uH]
    lia
   ·rw[zj (xh (t7 _ _ z) hl7 (by intro e;cases e))]
    exact t7 _ _ z
   ·rw[zj nlr.symm]
    exact hr7
   ·rw[zg,uI,ht]
    simp
   ·rw[zj nld.symm]
    exact hd7
  rintro σ H7 ⟨s7,t7,hr7,hl7,hd7,z,rfl⟩;rw[ua,<- u4,ux (ud _),<- List.reverse_append]at hl7;have t47:Tups H4 H7:=(t5.trans (.of s6)).trans t7;refine⟨wsz (b.ways++l),?_,b.ways++l,rs++ps,once acc ns,_,_,_,rfl,rfl,s7,hl7,(hyw.keep t7).app (hy.keep t47),hd7,?_,?_,?_⟩
  ·rw[YY,hwc]
   lia
  ·rw[Zs,Bd.pend,<- vy]
   exact ho
  ·have ol:=yY ns acc
   rw[Zs,Bd.pend,ub];lia
  ·rw[YY]
   lia
theorem zR{b:Bool}{A B:Prop}(e:b=true)(h:A):if b=true then A else B:=by rw[if_pos e];exact h
theorem IsY.get{H:Hp}:∀{l:Wy}{ps:List Addr}{i:Nat}{p:Addr},IsY H l ps->ps[i]?=some p->∃ns b q r,l[i]?=some (ns,b)/\H p=some (.tup [.ref q,.ref r])/\H q=some (.tup (ns.map V.str))/\IsBd H b r
 |_,_,_,_,.nil,e=>by simp at e
 |_,_,0,_,.cons a b c _,e=>by
  simp at e
  subst e;exact⟨_,_,_,_,rfl,a,b,c⟩
 |_,_,i+1,_,.cons _ _ _ d,e=>by
  obtain⟨ns,b,q,r,h1,h2⟩:=IsY.get (i:=i) d (by simpa using e);exact⟨ns,b,q,r,by simpa using h1,h2⟩
def IsBs(H:Hp)(l:List Bd)(ps:List Addr):Prop:=All2 (IsBd H) l ps
theorem IsBs.keep{l:List Bd}{ps:List Addr}(h:IsBs H l ps)(t:Tups H H'):IsBs H' l ps:=All2.imp h fun _ _ e=>e.keep t
def IsAr(H:Hp)(a:ArmR)(t:Addr):Prop:=∃q s,H t=some (.tup [.str a.t,.ref q,.str a.m,.str a.k,.ref s])/\H q=some (.tup (a.ns.map V.str))/\IsBd H a.b s
theorem IsAr.keep{a:ArmR}{t:Addr}(h:IsAr H a t)(k:Tups H H'):IsAr H' a t:=by obtain⟨q,s,a1,a2,a3⟩:=h;exact⟨q,s,k _ _ a1,k _ _ a2,a3.keep k⟩
theorem yO{H:Hp}:∀{as:Arms}{ts:List Addr},IsArms H as ts->All2 (IsAr H) as.l ts
 |.nil,ts,h=>by
  have h:ts=[]:=h;rw[h];exact .nil
 |.cons t ns m k b r,ts,h=>by
  obtain⟨p,q,s,ts',rfl,h1,h2,h3,h4⟩:=h;exact .cons ⟨q,s,h1,h2,h3⟩ (yO h4)
theorem xv{H:Hp}:∀{as:Arms}{ts:List Addr},All2 (IsAr H) as.l ts->IsArms H as ts
 |.nil,ts,h=>by
  unfold Arms.l at h;cases h
  rfl
 |.cons t ns m k b r,ts,h=>by
  unfold Arms.l at h;cases h with
  |cons a h=>obtain⟨q,s,h1,h2,h3⟩:=a;exact⟨_,q,s,(zf rfl ⟨h1,h2,h3,xv h⟩)⟩
def ArmR.wb(a:ArmR)(b:Bd):ArmR:=⟨a.t,a.ns,a.m,a.k,b⟩
theorem wb_l:∀{as:Arms}{l:List Bd},l.length=as.bs.length->(as.wb l).l=List.zipWith ArmR.wb as.l l
 |.nil,l,h=>by
  have:l=[]:=Uc.mp h
  rw[this]
  rfl
 |.cons t ns m k b r,[],h=>by simp[Arms.bs]at h
 |.cons t ns m k b r,c::l,h=>by
  unfold Arms.wb Arms.l;rw[List.zipWith_cons_cons,wb_l (by simpa[Arms.bs]using h)]
  rfl
theorem bs_l:∀as:Arms,as.bs=as.l.map (·.b)
 |.nil=>by unfold Arms.bs Arms.l;rfl
 |.cons _ _ _ _ b r=>by unfold Arms.bs Arms.l;rw[ur,bs_l r]
theorem Vl(b:Bd):b.kd.length<=b.sz:=by
 have h1:=Bd.wsz b;have h2:=wn b.ways;rw[<- jJ,ua];lia
inductive spBW(vs:List V)(H:Hp)(Q:VK)(e_3:XK):Prop
 |mk (p:Addr):(∃b:Bd,vs=[.ref p]/\IsBd H b p/\b.sz<=1000000/\∀H' r ps,Same H H'->H r=none->H' r=some (.lst (ps.map V.ref))->IsBs H' b.kd ps->Q (.ref r) H')->spBW vs H Q e_3
inductive spWB(vs:List V)(H:Hp)(Q:VK)(e_3:XK):Prop
 |mk (p:Addr) (l:Addr) (b:Bd) (ps:List Addr):(∃c:List Bd,vs=[.ref p,.ref l]/\IsBd H b p/\b.sz<=1000000/\H l=some (.lst (ps.map V.ref))/\IsBs H c ps/\c.length=b.kd.length/\∀H' r,Same H H'->IsBd H' (b.wb c) r->Q (.ref r) H')->spWB vs H Q e_3
theorem scBW:FnScope ["body"] ["body"] (zp yS):=.ok
theorem ndBW:(["body","way"]:LS).Nodup:=by decide +kernel
theorem zbZ(F:Fun K "bodies_within" "bodies_within" yS f fd)(GW:Ca P w K mg base CX0 1 "ways_on" ["body"] spWays):FnOk P w K mg base CX0 2 f fd ["body"] spBW:=by
 refine F.by scBW (fun vs H Q E h=>?_) (fun cdv A outer s H vs Q E hr h=>?_)
 ·obtain⟨p,b,rfl,_⟩:=h
  rfl
 obtain⟨p,b,rfl,hb,hz,q⟩:=h;refine⟨_,(zk (zt (yo ["way"] rfl (zY (cA GW hr (jA1 (jv 0)))) (fun _ _ _ _ _=>(gN 1 ndBW)) (fun _ _ _ _ _=>zL) (fun _ _ _ _ _=>(yg (yh K) (jv 1) zn (fun _ _=>rfl)))))),?_⟩;have sl:=zJ;refine(zf rfl ⟨p,b,rfl,hb,hz,fun H1 wl ps s1 hwl hwl1 hy=>?_⟩);have yl:=hy.len;have wl1:=wn b.ways;have wl2:=Bd.wsz b;refine⟨wl,rfl,⟨_,SqL.of hwl1⟩,yF (xs:=ps.map V.ref) (fun j τ ys H'=>H1=H'/\(∃v,τ=[oR p,v])/\∃rs:List Addr,ys=rs.map V.ref/\IsBs H1 ((b.ways.take j).map (·.2)) rs) ⟨rfl,⟨none,rfl⟩,[],rfl,.nil⟩ (fun j τ ys H' _ h=>SqL.of (h.1 ▸ hwl1)) ?_ ?_⟩
 ·rintro j v τ ys H2 hv ⟨rfl,⟨v',rfl⟩,rs,rfl,hk⟩
  obtain⟨pw,hpw,rfl⟩:=L2.gM hv;obtain⟨xs,b',q1,r1,e1,e2,e3,e4⟩:=hy.get hpw;have kl:=All2.len hk;rw[ua,uH]at kl;refine(zf rfl (ixT e2 aI1 ⟨by have:=(ue.mp e1).1;rw[ua];lia,rfl,⟨_,rfl⟩,rs++[r1],by simp,?_⟩));rw[uI,e1];show IsBs _ (((b.ways.take j)++[(xs,b')]).map (·.2)) _;rw[uh];exact All2.app hk (.cons e4 .nil)
 rintro τ ys H2 ⟨rfl,_,rs,rfl,hk⟩ l hl;rw[ua,<- yl,ux (ud _),jJ]at hk;exact q _ l rs (s1.new hl) (s1.free hl) zg (hk.keep (.of (zi hl _)))
theorem scWB:FnScope lS17 lS17 (zp xn):=.ok
theorem ndWB:(["body","within","arm","one"]:LS).Nodup:=by decide +kernel
theorem zb0(F:Fun K "with_bodies" "with_bodies" xn f fd)(m_tuple:mg "tuple"=none)(m_zip:mg "zip"=none):FnOk P w K mg base CX0 1 f fd lS17 spWB:=by
 refine F.by scWB (fun vs H Q E h=>?_) (fun cdv A outer s H vs Q E hr h=>?_)
 ·obtain⟨p,l,b,ps,c,rfl,_⟩:=h
  rfl
 obtain⟨p,l,b,ps,c,rfl,hb,hz,hl,hc,hlen,q⟩:=h;refine⟨_,
  (zh (zy (tN zD (xT 0) zq)
   (zk (zt (jv 0))) zu)
  (zh (zy (tN zD (xT 0) zq)
   (zk (zt (zw yy (zX yi (jv 0) yc (yd zn)) (zB zz rfl m_tuple ut (jA1 (jv 1)))))) zu)
  (zh (zy (tN zD (xT 0) zq)
   (zk (zt (zr (jA3 zq (xT 0) (zB zz rfl m_tuple ut (jA1 (yo ["arm","one"] rfl (vk rfl m_zip (jA2 (xT 0) (jv 1))) (fun _ _ _ _ _=>(wW K (n:=2) rfl (zA (gN 2 ndWB) (zA (gN 3 ndWB) yf)))) (fun _ _ _ _ _=>zL) (fun _ _ _ _ _=>(zw (WN K) (zX yi (jv 2) yc (yd (yu zn))) (zr (jA1 (jv 3)))))))))))) zu)
  (zk (zt (zw yy (zX yi (jv 0) yc (yd (yu zn))) (zB zz rfl m_tuple ut (jA1 (jv 1))))))))),?_⟩
 have sl:=zJ;have cl:=All2.len hc;have kl:=Vl b;cases b with
 |give x =>
  have hp:H p=some (.tup [.str "give",.str x]):=hb;exact(zf rfl (ixT hp aI0 ⟨rfl,(zf rfl (iteT (zf rfl (q _ p (Same.refl _) hb))))⟩))
 |iff x b1 b2 =>
  obtain⟨p1,p2,hp,_,_⟩:=hb
  match c,ps,hlen,hc,hl with
  |[c1,c2],[r1,r2],_,.cons g1 (.cons g2 .nil),hl =>
  refine(zf rfl (ixT hp aI0 ⟨rfl,(zf rfl (iteF (nxtC ?_)))⟩));refine(zf rfl (ixT hp aI0 ⟨rfl,(zf rfl (iteT ?_))⟩));refine(zf rfl ⟨2,rfl,p,(zf rfl ⟨hp,fun p3 H1 s1 h3=>(zf rfl ⟨l,(zf rfl (.inl ⟨SqL.of (s1 _ _ hl),fun t4 f4=>?_⟩))⟩)⟩)⟩);refine⟨p3,t4,(zv rfl rfl ⟨SqT.of (old f4 h3),SqT.of zg,(by intro z;cases z),sN4,(fun e=>by simp at e),fun _ r fr=>?_⟩)⟩;have s2:Same H (upd H1 t4 (.tup ([r1,r2].map V.ref))):=(show Same H H1 from s1).new f4;exact q _ r (s2.new fr) ⟨r1,r2,zg,(g1.keep (.of s2)).keep (.of (zi fr _)),(g2.keep (.of s2)).keep (.of (zi fr _))⟩
 |cs x as =>
  obtain⟨p1,ts,hp,hts,has⟩:=hb;have aa:=yO has;have tl:=All2.len aa;have hlen:c.length=as.bs.length:=hlen;rw[bs_l,ua]at hlen;refine(zf rfl (ixT hp aI0 ⟨rfl,(zf rfl (iteF (nxtC ?_)))⟩));refine(zf rfl (ixT hp aI0 ⟨rfl,(zf rfl (iteF (nxtC ?_)))⟩));refine(zf rfl (ixT hp aI0 ⟨rfl,(zf rfl (iteT ?_))⟩));refine(zf rfl (ixT hp aI1 (zf rfl (ixT hp aI2 (zf rfl ⟨p1,l,false,true,_,_,rfl,SqK.t hts,SqK.l hl,?_⟩)))));have sl2:as.l.length<=1000000:=by
   have:(Bd.cs x as).kd.length=as.l.length:=by show as.bs.length=_;rw[bs_l,ua]
   lia
  refine Ym (k:=false) (m:=true) (xs:=ts.map V.ref) (ys:=ps.map V.ref) (by rw[ua,ua];lia) (fun i τ zs H'=>Same H H'/\(∃y y',τ=[oR p,oR l,y,y'])/\∃us:List Addr,zs=us.map V.ref/\All2 (IsAr H') ((List.zipWith ArmR.wb as.l c).take i) us) ⟨Same.refl _,⟨none,none,rfl⟩,[],rfl,.nil⟩ (fun i τ zs H' _ h=>⟨SqK.t (h.1 _ _ hts),SqK.l (h.1 _ _ hl)⟩) ?_ ?_
  ·rintro i v1 v2 T τ zs H1 hv1 hv2 hT ⟨s1,⟨y1,y2,rfl⟩,us,rfl,hu⟩
   rw[ug]at hv1 hv2;obtain⟨t,ht,rfl⟩:=uj.mp hv1;obtain⟨r,hr',rfl⟩:=uj.mp hv2;obtain⟨a,ha,hA⟩:=All2.get aa ht;obtain⟨c',hc',hC⟩:=All2.get hc hr';have s2:=s1.new (o:=.tup [.ref t,.ref r]) hT;obtain⟨q1,s1',a1,a2,a3⟩:=hA.keep (.of s2);have hi:i < as.l.length:=(ue.mp ha).1;have ul:=All2.len hu;rw[uH,List.length_zipWith]at ul;refine⟨T,(zf rfl ⟨SqT.of zg,rfl,_,_,rfl,_,_,rfl,rfl,?_⟩)⟩;refine(zf rfl (zf rfl ⟨-1,rfl,t,(zf rfl ⟨a1,fun p3 H3 s3 h3=>(zf rfl ⟨sN1,fun t4 f4=>?_⟩)⟩)⟩));refine⟨p3,t4,[.str a.t,.ref q1,.str a.m,.str a.k],(zf rfl ⟨rfl,SqT.of (old f4 h3),SqT.of zg,(by intro z;cases z),sN5,(fun e=>by simp at e),fun _ r' fr=>?_⟩)⟩;have s4:Same H1 (upd (upd H3 t4 (.tup [.ref r])) r' (.tup [.str a.t,.ref q1,.str a.m,.str a.k,.ref r])):=(((zi hT _).trans s3).new f4).new fr;have s3':Same (upd H1 T (.tup [.ref t,.ref r])) (upd (upd H3 t4 (.tup [.ref r])) r' (.tup [.str a.t,.ref q1,.str a.m,.str a.k,.ref r])):=((show Same _ H3 from s3).new f4).new fr;refine⟨by rw[ua];lia,s1.trans s4,⟨_,_,rfl⟩,us++[r'],by rw[uh];rfl,?_⟩;have ez:(List.zipWith ArmR.wb as.l c)[i]?=some (a.wb c'):=by rw[List.getElem?_zipWith,ha,hc']
   rw[uI,ez];exact(hu.imp fun _ _ z=>z.keep (.of s4)).app (.cons ⟨q1,r,zg,s3' _ _ a2,hC.keep (.of (s1.trans s4))⟩ .nil)
  rintro τ zs H1 ⟨s1,_,us,rfl,hu⟩ l2 f2;rw[ua,ux (by rw[List.length_zipWith];lia)]at hu;refine⟨l2,(zf rfl (.inl ⟨SqL.of zg,fun t3 f3=>⟨sN3,fun r fr=>?_⟩⟩))⟩;have s3:Same H1 (upd (upd (upd H1 l2 (.lst (us.map V.ref))) t3 (.tup (us.map V.ref))) r (.tup [.str "case",.str x,.ref t3])):=((zi f2 _).new f3).new fr;refine q _ r (s1.trans s3) ⟨t3,us,zg,old fr zg,xv ?_⟩;rw[wb_l (by rw[bs_l,ua];exact hlen)];exact hu.imp fun _ _ z=>z.keep (.of s3)
 |lt x d b =>
  obtain⟨p1,p2,hp,hd,_⟩:=hb
  match c,ps,hlen,hc,hl with
  |[c1],[r1],_,.cons g1 .nil,hl =>
  refine(zf rfl (ixT hp aI0 ⟨rfl,(zf rfl (iteF (nxtC ?_)))⟩));refine(zf rfl (ixT hp aI0 ⟨rfl,(zf rfl (iteF (nxtC ?_)))⟩));refine(zf rfl (ixT hp aI0 ⟨rfl,(zf rfl (iteF (nxtC ?_)))⟩));refine(zf rfl (zf rfl ⟨-1,rfl,p,(zf rfl ⟨hp,fun p3 H1 s1 h3=>(zf rfl ⟨l,(zf rfl (.inl ⟨SqL.of (s1 _ _ hl),fun t4 f4=>?_⟩))⟩)⟩)⟩));refine⟨p3,t4,[.str "let",.str x,.ref p1],(zf rfl ⟨rfl,SqT.of (old f4 h3),SqT.of zg,(by intro z;cases z),sN4,(fun e=>by simp at e),fun _ r fr=>?_⟩)⟩;have s2:Same H (upd (upd H1 t4 (.tup ([r1].map V.ref))) r (.tup ([.str "let",.str x,.ref p1]++[r1].map V.ref))):=((show Same H H1 from s1).new f4).new fr;exact q _ r s2 ⟨p1,r1,zg,hd.keep (.of s2),g1.keep (.of s2)⟩
 |hold x y b =>
  obtain⟨p2,hp,_⟩:=hb
  match c,ps,hlen,hc,hl with
  |[c1],[r1],_,.cons g1 .nil,hl =>
  refine(zf rfl (ixT hp aI0 ⟨rfl,(zf rfl (iteF (nxtC ?_)))⟩));refine(zf rfl (ixT hp aI0 ⟨rfl,(zf rfl (iteF (nxtC ?_)))⟩));refine(zf rfl (ixT hp aI0 ⟨rfl,(zf rfl (iteF (nxtC ?_)))⟩));refine(zf rfl (zf rfl ⟨-1,rfl,p,(zf rfl ⟨hp,fun p3 H1 s1 h3=>(zf rfl ⟨l,(zf rfl (.inl ⟨SqL.of (s1 _ _ hl),fun t4 f4=>?_⟩))⟩)⟩)⟩));refine⟨p3,t4,[.str "hold",.str x,.str y],(zf rfl ⟨rfl,SqT.of (old f4 h3),SqT.of zg,(by intro z;cases z),sN4,(fun e=>by simp at e),fun _ r fr=>?_⟩)⟩;have s2:Same H (upd (upd H1 t4 (.tup ([r1].map V.ref))) r (.tup ([.str "hold",.str x,.str y]++[r1].map V.ref))):=((show Same H H1 from s1).new f4).new fr;exact q _ r s2 ⟨r1,zg,g1.keep (.of s2)⟩
 |drop x b =>
  obtain⟨p2,hp,_⟩:=hb
  match c,ps,hlen,hc,hl with
  |[c1],[r1],_,.cons g1 .nil,hl =>
  refine(zf rfl (ixT hp aI0 ⟨rfl,(zf rfl (iteF (nxtC ?_)))⟩));refine(zf rfl (ixT hp aI0 ⟨rfl,(zf rfl (iteF (nxtC ?_)))⟩));refine(zf rfl (ixT hp aI0 ⟨rfl,(zf rfl (iteF (nxtC ?_)))⟩));refine(zf rfl (zf rfl ⟨-1,rfl,p,(zf rfl ⟨hp,fun p3 H1 s1 h3=>(zf rfl ⟨l,(zf rfl (.inl ⟨SqL.of (s1 _ _ hl),fun t4 f4=>?_⟩))⟩)⟩)⟩));refine⟨p3,t4,[.str "drop",.str x],(zf rfl ⟨rfl,SqT.of (old f4 h3),SqT.of zg,(by intro z;cases z),sN3,(fun e=>by simp at e),fun _ r fr=>?_⟩)⟩;have s2:Same H (upd (upd H1 t4 (.tup ([r1].map V.ref))) r (.tup ([.str "drop",.str x]++[r1].map V.ref))):=((show Same H H1 from s1).new f4).new fr;exact q _ r s2 ⟨r1,zg,g1.keep (.of s2)⟩
 |loose x b =>
  obtain⟨p2,hp,_⟩:=hb
  match c,ps,hlen,hc,hl with
  |[c1],[r1],_,.cons g1 .nil,hl =>
  refine(zf rfl (ixT hp aI0 ⟨rfl,(zf rfl (iteF (nxtC ?_)))⟩));refine(zf rfl (ixT hp aI0 ⟨rfl,(zf rfl (iteF (nxtC ?_)))⟩));refine(zf rfl (ixT hp aI0 ⟨rfl,(zf rfl (iteF (nxtC ?_)))⟩));refine(zf rfl (zf rfl ⟨-1,rfl,p,(zf rfl ⟨hp,fun p3 H1 s1 h3=>(zf rfl ⟨l,(zf rfl (.inl ⟨SqL.of (s1 _ _ hl),fun t4 f4=>?_⟩))⟩)⟩)⟩));refine⟨p3,t4,[.str "loose",.str x],(zf rfl ⟨rfl,SqT.of (old f4 h3),SqT.of zg,(by intro z;cases z),sN3,(fun e=>by simp at e),fun _ r fr=>?_⟩)⟩;have s2:Same H (upd (upd H1 t4 (.tup ([r1].map V.ref))) r (.tup ([.str "loose",.str x]++[r1].map V.ref))):=((show Same H H1 from s1).new f4).new fr;exact q _ r s2 ⟨r1,zg,g1.keep (.of s2)⟩
mutual
def Bd.all:Bd->List Bd
 |.give x=>[.give x]
 |.lt x d b=>.lt x d b::b.all
 |.hold x y b=>.hold x y b::b.all
 |.drop x b=>.drop x b::b.all
 |.loose x b=>.loose x b::b.all
 |.iff x b c=>.iff x b c::(b.all++c.all)
 |.cs x as=>.cs x as::as.all
def Arms.all:Arms->List Bd
 |.nil=>[]
 |.cons _ _ _ _ b r=>b.all++r.all
end
theorem Vm:∀as:Arms,as.all=as.bs.flatMap Bd.all
 |.nil=>by unfold Arms.all Arms.bs;rfl
 |.cons _ _ _ _ b r=>by unfold Arms.bs;rw[Arms.all,Vm r,Uk]
theorem zbc(b:Bd):b.all=b::b.kd.flatMap Bd.all:=by
 cases b with
 |cs x as=>rw[Bd.all,Vm];rfl
 |_=>rw[Bd.all];simp[Bd.kd]
mutual
theorem Bd.all_any{n:Nat}:∀b:Bd,b.all.any (Bd.isL n)=b.hasL n
 |.give x=>by rw[Bd.all,Bd.hasL];rfl
 |.lt x d b=>by rw[Bd.all,Bd.hasL,Uq,Bd.all_any b];rfl
 |.hold x y b=>by rw[Bd.all,Bd.hasL,Uq,Bd.all_any b];rfl
 |.drop x b=>by rw[Bd.all,Bd.hasL,Uq,Bd.all_any b];rfl
 |.loose x b=>by rw[Bd.all,Bd.hasL,Uq,Bd.all_any b];rfl
 |.iff x b c=>by rw[Bd.all,Bd.hasL,Uq,List.any_append,Bd.all_any b,Bd.all_any c];rfl
 |.cs x as=>by rw[Bd.all,Bd.hasL,Uq,Arms.all_any as];rfl
theorem Arms.all_any{n:Nat}:∀as:Arms,as.all.any (Bd.isL n)=as.hasL n
 |.nil=>by rw[Arms.all,Arms.hasL];rfl
 |.cons _ _ _ _ b r=>by rw[Arms.all,Arms.hasL,List.any_append,Bd.all_any b,Arms.all_any r]
end
def bsz(l:List Bd):Nat:=(l.map Bd.sz).sum
theorem jN:∀l:List Bd,l.length<=bsz l
 |[]=>uF _
 |b::l=>by
  have h1:=b.sz_pos;have h2:=jN l;unfold bsz at h2 ⊢;rw[ur,uS,um];lia
theorem Vn(b:Bd):bsz b.kd < b.sz:=by
 have:=Bd.wsz b
 unfold wsz at this;unfold bsz;rw[<- jJ,List.map_map];exact this
inductive spBIn(vs:List V)(H:Hp)(Q:VK)(e_3:XK):Prop
 |mk (p:Addr):(∃b:Bd,vs=[.ref p]/\IsBd H b p/\b.sz<=1000000/\∀H' r rs,Same H H'->H' r=some (.lst (rs.map V.ref))->IsBs H' b.all rs->rs.length<=1000000->Q (.ref r) H')->spBIn vs H Q e_3
inductive spIsL(vs:List V)(H:Hp)(Q:VK)(e_3:XK):Prop
 |mk (p:Addr) (b:Bd):(∃n:Nat,vs=[.ref p,.int (n:Nat)]/\IsBd H b p/\Q (.bl (b.isL n)) H)->spIsL vs H Q e_3
theorem scBIn:FnScope ["body","found","left","one","within"] ["body"] (zp wG):=.ok
theorem zbd(F:Fun K "bodies_in" "bodies_in" wG f fd)(GW:Ca P w K mg base CX0 2 "bodies_within" ["body"] spBW)(m_len:mg "len"=none)(m_reversed:mg "reversed"=none):FnOk P w K mg base CX0 3 f fd ["body"] spBIn:=by
 refine F.by scBIn (fun vs H Q E h=>?_) (fun cdv A outer s H vs Q E hr h=>?_)
 ·obtain⟨p,b,rfl,_⟩:=h
  rfl
 obtain⟨p,b0,rfl,hb0,hz,q⟩:=h;refine⟨_,
  (zh (sE 1 scBIn.nd (zC zE))
  (zh (sE 2 scBIn.nd (zC (jA1 (jv 0))))
  (zh (xU PassesOwn.never (tN xV (jL m_len (jv 2)) zn)
   (zh (sE 3 scBIn.nd (xK uk uY uZ xM (jv 2)))
   (zh (zF (zV uk uy uz zG (jv 1) (jA1 (jv 3))))
   (zk (zM PassesOwn.never rfl (jw rfl m_reversed (jA1 (cA GW hr (jA1 (jv 3))))) (gN 4 scBIn.nd)
    (zk (zF (zV uk uy uz zG (jv 2) (jA1 (jv 4))))))))))
  (zk (zt (jv 1)))))),?_⟩
 have sl:=zJ;refine⟨sN0,fun fo f1=>⟨_,rfl,sN1,fun lf f2=>?_⟩⟩;have s2:=(zi f1 (.lst [])).new (o:=.lst [.ref p]) f2;have flf:H lf=none:=(zi f1 (.lst [])).free f2;have nlf:lf≠fo:=fun e=>by rw[e,zg]at f2;cases f2
 refine⟨fun m σ H'=>∃(stk l1:List Bd)(ps rs:List Addr)(x y:Option V),m=bsz stk/\σ=[oR p,oR fo,oR lf,x,y]/\Same H H'/\H' lf=some (.lst (ps.reverse.map V.ref))/\IsBs H' stk ps/\H' fo=some (.lst (rs.map V.ref))/\IsBs H' l1 rs/\l1++stk.flatMap Bd.all=b0.all/\l1.length+bsz stk<=1000000,
  ⟨_,[b0],[],[p],[],none,none,rfl,rfl,s2,zg,.cons (hb0.keep (.of s2)) .nil,old f2 zg,.nil,by simp,by unfold bsz;simpa using hz⟩,?_⟩
 rintro m σ H3 ⟨stk,l1,ps,rs,x,y,rfl,rfl,sm,hl,hy,hf,hrs,ho,hwz⟩;have rl:=All2.len hrs;refine⟨_,rfl,_,_,rfl,.inl (SqL.of hl),_,_,rfl,rfl,_,rfl,?_⟩;cases hy with
 |nil =>
  refine iteF ?_;rw[List.flatMap_nil,Ue]at ho;exact⟨_,rfl,q _ fo rs sm hf (ho ▸ hrs) (by lia)⟩
 |@cons b pp l ps hb hy =>
  have hne:decide ((0:Int) < ((((pp::ps).reverse.map V.ref).length:Nat):Int))=true:=by
   rw[decide_eq_true_eq,ua,u4,um];lia
  rw[hne];refine iteT ⟨_,fun _ _ h=>h,?_⟩;have e1:(pp::ps).reverse.map V.ref=ps.reverse.map V.ref++[.ref pp]:=by simp
  have e2:((pp::ps).reverse.map V.ref)[((pp::ps).reverse.map V.ref).length-1]?=some (.ref pp):=by rw[e1];simp
  have e3:((pp::ps).reverse.map V.ref).dropLast=ps.reverse.map V.ref:=by rw[e1];simp
  refine⟨_,rfl,.inl ⟨rfl,_,SqL.of hl⟩,lf,_,_,rfl,rfl,hl,e2,?_⟩;rw[e3];have t4:Tups H3 (upd H3 lf (.lst (ps.reverse.map V.ref))):=fun b xs z=>by rw[zj (xh z hl (by intro z;cases z))];exact z
  have s4:=sm.put (o:=.lst (ps.reverse.map V.ref)) flf;have hl4:=zg (H:=H3) (a:=lf) (o:=.lst (ps.reverse.map V.ref));have hf4:upd H3 lf (.lst (ps.reverse.map V.ref)) fo=some (.lst (rs.map V.ref)):=by rw[zj nlf.symm];exact hf
  replace hb:=hb.keep t4
  replace hy:IsBs _ l ps:=hy.imp fun _ _ z=>z.keep t4
  replace hrs:=hrs.keep t4
  dsimp only
  generalize upd H3 lf (.lst (ps.reverse.map V.ref))=H4 at *;have hwc:bsz (b::l)=b.sz+bsz l:=by unfold bsz;rw[ur,uS]
  rw[hwc]at hwz;have bp:=b.sz_pos;have hll:=jN l;have hyl:=All2.len hy;refine⟨_,rfl,.inl ⟨rfl,_,SqL.of hf4⟩,_,rfl,fo,_,_,rfl,rfl,hf4,by rw[ua];lia,?_⟩;have t5:Tups H4 (upd H4 fo (.lst (rs.map V.ref++[.ref pp]))):=fun b xs z=>by rw[zj (xh z hf4 (by intro z;cases z))];exact z
  have s5:=s4.put (o:=.lst (rs.map V.ref++[.ref pp])) f1;have hf5:=zg (H:=H4) (a:=fo) (o:=.lst (rs.map V.ref++[.ref pp]));have hl5:upd H4 fo (.lst (rs.map V.ref++[.ref pp])) lf=some (.lst (ps.reverse.map V.ref)):=by rw[zj nlf];exact hl4
  replace hb:=hb.keep t5
  replace hy:IsBs _ l ps:=hy.keep t5
  replace hrs:=hrs.keep t5
  dsimp only
  generalize upd H4 fo (.lst (rs.map V.ref++[.ref pp]))=H5 at *;refine⟨_,rfl,pp,b,rfl,hb,by lia,fun H6 rl' ks s6 f6 hrl hks=>?_⟩;have nlr:lf≠rl':=zo hl5 f6;have nfr:fo≠rl':=zo hf5 f6;have kl:=All2.len hks;have kb:=Vn b;have kll:=jN b.kd;refine⟨rl',_,rfl,SqL.of hrl,wV (xs:=ks.map V.ref) (fun i σ H'=>Same H H'/\Tups H6 H'/\H' rl'=some (.lst (ks.map V.ref))/\H' lf=some (.lst ((ps.reverse++ks.reverse.take i).map V.ref))/\H' fo=some (.lst (rs.map V.ref++[.ref pp]))/\∃z,σ=[oR p,oR fo,oR lf,oR pp,z]) ⟨s5.trans s6,fun _ _ h=>h,hrl,by rw[List.take_zero,Ue];exact s6 _ _ hl5,s6 _ _ hf5,_,rfl⟩ (fun i σ H' _ h=>SqL.of h.2.2.1) ?_ ?_⟩
  ·rintro i v σ H7 hv ⟨s7,t7,hr7,hl7,hf7,z,rfl⟩
   rw[<- List.map_reverse,ug]at hv;obtain⟨t,ht,rfl⟩:=uj.mp hv;have hi:i < ks.length:=by
    have:=(ue.mp ht).1
    rw[u4]at this;exact this
   refine⟨_,rfl,.inl ⟨rfl,_,SqL.of hl7⟩,_,rfl,lf,_,_,rfl,rfl,hl7,?_,s7.put flf,fun b xs z=>?_,?_,?_,?_,_,rfl⟩
   ·rw[ua,ub,u4,uH]
    lia
   ·rw[zj (xh (t7 _ _ z) hl7 (by intro e;cases e))]
    exact t7 _ _ z
   ·rw[zj nlr.symm]
    exact hr7
   ·rw[zg,uI,ht]
    simp
   ·rw[zj nlf.symm]
    exact hf7
  rintro σ H7 ⟨s7,t7,hr7,hl7,hf7,z,rfl⟩;rw[ua,<- u4,ux (ud _),<- List.reverse_append]at hl7;have t57:Tups H5 H7:=(Tups.of s6).trans t7;have ba:bsz (b.kd++l)=bsz b.kd+bsz l:=by unfold bsz;rw[uh,List.sum_append]
  refine⟨bsz (b.kd++l),?_,b.kd++l,l1++[b],ks++ps,rs++[pp],_,_,rfl,rfl,s7,hl7,(hks.keep t7).app (hy.keep t57),by rw[hf7,uh];rfl,(hrs.keep t57).app (.cons (hb.keep t57) .nil),?_,?_⟩
  ·rw[ba,hwc]
   lia
  ·rw[<- ho,Uk,zbc b,List.flatMap_append,u7]
   rfl
  ·rw[ba,ub]
   show l1.length+1+_<=_;lia
theorem zb1:FnScope lS22 lS22 (zp jp):=.ok
theorem zbe(F:Fun K "is_left" "is_left" jp f fd)(m_len:mg "len"=none):FnOk P w K mg base CX0 1 f fd lS22 spIsL:=by
 refine F.by zb1 (fun vs H Q E h=>?_) (fun cdv A outer s H vs Q E hr h=>?_)
 ·obtain⟨p,b,n,rfl,_⟩:=h
  rfl
 obtain⟨p,b,n,rfl,hb,q⟩:=h;refine⟨_,
  (zh (zy (jW.pt (yt (tN wM (xT 0) zq) (yv (tN wM (yg yp (xT 0) zn (fun _ _=>rfl)) zq))))
   (zk (zt yA)) zu)
  (zk (zt (zaN (xz zD (jL m_len (yg yp (xT 0) zn (fun _ _=>rfl))) (jv 1) (wB _)) (zaM (xz zD (yg yp (xT 0) zn (fun _ _=>rfl)) zq (wB _))))))),?_⟩
 have sl:=zJ;have fm:(∃(z:Str)(r:List V),H p=some (.tup (.str z::r))/\z≠"let"/\b.isL n=false)\/∃x d b',b=.lt x d b':=by
  cases b with
  |give x=>exact .inl ⟨_,_,hb,by decide,rfl⟩
  |hold x y b=>obtain⟨_,hp,_⟩:=hb;exact .inl ⟨_,_,hp,by decide,rfl⟩
  |drop x b=>obtain⟨_,hp,_⟩:=hb;exact .inl ⟨_,_,hp,by decide,rfl⟩
  |loose x b=>obtain⟨_,hp,_⟩:=hb;exact .inl ⟨_,_,hp,by decide,rfl⟩
  |iff x b c=>obtain⟨_,_,hp,_⟩:=hb;exact .inl ⟨_,_,hp,by decide,rfl⟩
  |cs x as=>obtain⟨_,_,hp,_⟩:=hb;exact .inl ⟨_,_,hp,by decide,rfl⟩
  |lt x d b=>exact .inr ⟨x,d,b,rfl⟩
 rcases fm with⟨z,r,hp,hz,e⟩|⟨x,d,b,rfl⟩
 ·rw[e]at q
  exact⟨_,rfl,ixT hp aI0 ⟨rfl,_,rfl,zR (show(!decide (V.str z=V.str "let"))=true by rw[decide_eq_false fun y=>hz (V.str.inj y)];rfl) (iteT q)⟩⟩
 ·obtain⟨p1,p2,hp,hd,_⟩:=hb
  refine⟨_,rfl,ixT hp aI0 ⟨rfl,_,rfl,iteF ?_⟩⟩;have fd':(∃(z:Str)(r:List V),H p1=some (.tup (.str z::r))/\z≠"make"/\isLD n d=false)\/∃t ns k,d=.mk t ns k:=by
   cases d with
   |num i=>exact .inl ⟨_,_,hd,by decide,rfl⟩
   |op o a b=>exact .inl ⟨_,_,hd,by decide,rfl⟩
   |call g ns=>obtain⟨_,hd,_⟩:=hd;exact .inl ⟨_,_,hd,by decide,rfl⟩
   |fn g ns=>obtain⟨_,hd,_⟩:=hd;exact .inl ⟨_,_,hd,by decide,rfl⟩
   |ask g ns=>obtain⟨_,hd,_⟩:=hd;exact .inl ⟨_,_,hd,by decide,rfl⟩
   |mk t ns k=>exact .inr ⟨t,ns,k,rfl⟩
  rcases fd' with⟨z,r,h1,hz,e⟩|⟨t,ns,k,rfl⟩
  ·rw[show(Bd.lt x d b).isL n=false from e]at q
   exact⟨_,rfl,ixT hp aI2 (ixT h1 aI0 ⟨rfl,_,rfl,zR (show(!decide (V.str z=V.str "make"))=true by rw[decide_eq_false fun y=>hz (V.str.inj y)];rfl) q⟩)⟩
  ·obtain⟨q1,h1,h2⟩:=hd
   refine⟨_,rfl,ixT hp aI2 (ixT h1 aI0 ⟨rfl,_,rfl,iteF (nxtC ?_)⟩)⟩;refine⟨_,rfl,ixT hp aI2 (ixT h1 aI2 ⟨q1,_,rfl,.inr (SqT.of h2),_,rfl,rfl,_,rfl,?_⟩)⟩;have eq:(Bd.lt x (.mk t ns k) b).isL n=(decide (ns.length=n) && decide (k="")):=rfl;rw[eq]at q;by_cases c:ns.length=n
   ·rw[decide_eq_true c]at q
    refine zR (decide_eq_true (by rw[ua,c])) ?_;refine⟨_,rfl,ixT hp aI2 (ixT h1 aI3 ⟨rfl,?_⟩)⟩;by_cases c2:k=""
    ·rw[decide_eq_true c2]at q
     rw[decide_eq_true (show V.str k=V.str "" by rw[c2])];exact q
    ·rw[decide_eq_false c2]at q
     rw[decide_eq_false (show ¬ V.str k=V.str ""from fun y=>c2 (V.str.inj y))];exact q
   ·rw[decide_eq_false c]at q
    have e:decide (V.int (((ns.map V.str).length:Nat):Int)=V.int ((n:Nat):Int))=false:=decide_eq_false fun y=>c (by have:=V.int.inj y;rw[ua]at this;lia);rw[e];exact iteF q
end
end GN
namespace L2
open PySem PySem.Spec PyProof.Rows
def tFs1(a:Str)(t2:TE):TE:=fun σ H Q=>a.length<=sizeLine/\t2 σ H fun v2 H2=>∃i:Int,v2=.int i/\i.natAbs.log2 < 1920/\a.length+(Str.ofString (toString i)).length<=sizeLine/\Q (.str (Str.empty++a++Str.ofString (toString i))) H2
theorem zbf{a:Str}{j}{p1 p4:Pos}(h2:PE X e2 t2):
  PE X (.JoinedStr [.Constant (.str a) j p1,.FormattedValue e2 (-1) none p4] pos) (tFs1 a t2):=by
 intro pins s σ H Q I hq;obtain⟨la,hq⟩:=hq;have l0:Str.empty.length=0:=rfl;refine wpAny_JoinedStr ?_;refine Calls.Constant_str ⟨a,_,rfl,by rw[strLen_append];lia,?_⟩;refine wpAny_FormattedValue_plain (thn (h2 pins _ σ H _ (I.tok _) hq) fun v s3 hv=>?_);obtain⟨u,H3,I3,r3,i,e3,li,lt,q3⟩:=hv;subst e3;obtain⟨t,rfl⟩:=r3;refine wpAny_formatField_int li ⟨_,_,rfl,by rw[strLen_append,strLen_append];lia,by rw[strLen_append,strLen_append];lia,?_⟩;exact⟨.str _,H3,(I3.tok _),⟨_,rfl⟩,q3⟩
theorem zbg{a:Str}{j}{p1 p4:Pos}(h2:jE X e2 t2):
  jE X (.JoinedStr [.Constant (.str a) j p1,.FormattedValue e2 (-1) none p4] pos) (tFs1 a t2):=⟨zbf h2.out⟩
end L2
namespace K11
open PySem PySem.Spec PyProof.Rows Builtin Builtin.Str NumText
theorem zbh(m:Nat):cl (Str.ofString (toString ((m:Nat):Int)))=(Nat.toDigits 10 m).map Char.toNat:=PySem.W.KIN.signs_num m
end K11
namespace GN
open PySem L2 K11
structure Tn(K:uc)(cT:Addr):Prop where
 cl:Cls K cT
 a1:NoAttr K cT "taken"
 a2:NoAttr K cT "many"
def LIMT:Nat:=2 ^ 60
def TO(cT dx td:Addr)(n:Nat):HO:=.ins cT dx [("taken",.ref td),("many",.int (n:Nat))]
structure TkA(cT:Addr)(H:Hp)(to dx td:Addr)(tk:LS)(n:Nat):Prop where
 o:H to=some (TO cT dx td n)
 t:H td=some (.dK (ent tk))
theorem vz:∀(l acc:LS)(x:Str),x∈once acc l↔x∈acc\/x∈l
 |[],acc,x=>by unfold once;simp
 |y::l,acc,x=>by
  unfold once;rw[vz l];split
  ·rename_i h
   constructor
   ·rintro(a|a)
    ·exact .inl a
    ·exact .inr (.tail _ a)
   ·rintro(a|a)
    ·exact .inl a
    ·rcases uq.mp a with rfl|a
     ·exact .inl h
     ·exact .inr a
  ·simp[or_assoc]
theorem pig:∀(l tk:LS),l.Nodup->(∀x∈l,x∈tk)->l.length<=tk.length
 |[],tk,_,_=>uF _
 |x::l,tk,h,s=>by
  rw[uM]at h;have hx:=s x (.head _);have ih:=pig l (tk.erase x) h.2 fun y hy=>(List.mem_erase_of_ne (fun e=>h.1 (by rw[<- e];exact hy))).mpr (s y (.tail _ hy))
  have:=List.length_erase_of_mem hx
  have:0 < tk.length:=List.length_pos_of_mem hx
  rw[um];lia
theorem Vo(tk:LS)(n:Nat):nxT tk n<=n+tk.length+1:=by
 obtain⟨h1,h2,h3⟩:=xt tk n;have h:=pig ((uV (nxT tk n-n-1)).map fun i=>tokS (n+1+i)) tk (by
  unfold List.Nodup;rw[List.pairwise_map];exact List.nodup_range.imp fun{a b} hab e=>hab (by have:=jK e;lia)) fun x hx=>by
   obtain⟨i,hi,rfl⟩:=uD.mp hx;rw[List.mem_range]at hi;exact h3 _ (by lia) (by lia)
 rw[ua,List.length_range]at h;lia
theorem XE(h:j<=LIMT):((j:Nat):Int).natAbs.log2 < 1920/\(Str.ofString (toString ((j:Nat):Int))).length<=1000:=by
 unfold LIMT at h;refine⟨?_,?_⟩
 ·rw[Int.natAbs_natCast]
  by_cases c:j=0
  ·rw[c];decide
  ·exact uB ((Nat.log2_lt c).mpr (UJ h (by decide:(2:Nat) ^ 60 < 2 ^ 61))) (by decide)
 ·rw[<- xg,zbh,ua]
  exact uC ((Nat.length_toDigits_le_iff (k:=30) (by decide) (by decide)).mpr (UJ h (by decide))) (by decide)
inductive spNextT(cT:Addr)(vs:List V)(H:Hp)(Q:VK)(e_3:XK):Prop
 |mk (to:Addr) (dx:Addr) (td:Addr) (tk:LS):(∃n:Nat,vs=[.ref to]/\TkA cT H to dx td tk n/\n+1<=LIMT/\∀H',KM (·=to) H H'->TkA cT H' to dx td tk (n+1)->Q (.str (tokS (n+1))) H')->spNextT cT vs H Q e_3
inductive spNewT(cT:Addr)(vs:List V)(H:Hp)(Q:VK)(e_3:XK):Prop
 |mk (to:Addr) (dx:Addr) (td:Addr) (tk:LS):(∃n:Nat,vs=[.ref to]/\TkA cT H to dx td tk n/\nxT tk n<=LIMT/\∀H',KM (·=to) H H'->TkA cT H' to dx td tk (nxT tk n)->Q (.str (tokS (nxT tk n))) H')->spNewT cT vs H Q e_3
inductive spTInit(cT:Addr)(vs:List V)(H:Hp)(Q:VK)(e_3:XK):Prop
 |mk (to:Addr) (dx:Addr) (p:Addr):(∃ds:List Df,vs=[.ref to,.ref p]/\H to=some (.ins cT dx [])/\IsCode H ds p/\(∀d∈ds,d.ps.length<=1000/\d.b.sz<=1000000/\d.b.binds.length<=1000000)/\ds.length<=10/\∀H' td tk,KM (·=to) H H'->H td=none->TkA cT H' to dx td tk 0->tk.length<=11000000->(∀x,x∈tk↔∃d∈ds,x∈d.ps++d.b.binds)->Q .non H')->spTInit cT vs H Q e_3
section
variable{K:uc}
theorem scNextT:FnScope ["self","many"] ["self"] (zp vm):=.ok
theorem Vp(F:Fun K "next_token" "Tokens.next_token" vm f fd)(N:Tn K cT):FnOk P w K mg base CX0 1 f fd ["self"] (spNextT cT):=by
 refine F.by scNextT (fun vs H Q E h=>?_) (fun cdv A outer s H vs Q E hr h=>?_)
 ·obtain⟨to,dx,td,tk,n,rfl,_⟩:=h
  rfl
 obtain⟨to,dx,td,tk,n,rfl,hT,hn,q⟩:=h;refine⟨_,zh (wF (jv 0) (zw zO (yM (jv 0)) zn)) (zh (sE 1 scNextT.nd (yM (jv 0))) (zk (zt (zbg (jv 1))))),?_⟩;have sl:=zJ;refine(zf rfl ⟨to,cT,dx,_,_,rfl,hT.o,N.cl,N.a2,rfl,(zv rfl rfl (zf rfl ⟨to,cT,dx,(zf rfl ⟨hT.o,N.cl,N.a2,by show 2 < 1000;decide,?_⟩)⟩))⟩);have e:(((n:Nat):Int)+1)=((n+1:Nat):Int):=by lia
 have pf:HO.ins cT dx (putF "many" (.int (((n:Nat):Int)+1)) [("taken",V.ref td),("many",V.int ((n:Nat):Int))])=TO cT dx td (n+1):=by rw[e];rfl
 rw[pf];have nd:td≠to:=xh hT.t hT.o (by intro z;cases z);have T1:TkA cT (upd H to (TO cT dx td (n+1))) to dx td tk (n+1):=⟨zg,by rw[zj nd];exact hT.t⟩;have k1:KM (·=to) H (upd H to (TO cT dx td (n+1))):=fun b u nb e=>by rw[zj nb];exact e
 generalize upd H to (TO cT dx td (n+1))=H1 at *;obtain⟨l1,l2⟩:=XE hn;have l6:("place.":Str).length=6:=by decide +kernel
 refine(zf rfl ⟨to,cT,dx,_,_,rfl,T1.o,N.cl,N.a2,rfl,?_⟩);exact⟨by rw[l6];lia,(zf rfl (zf rfl ⟨l1,by rw[l6];lia,q _ k1 T1⟩))⟩
theorem scNewT:FnScope ["self","token"] ["self"] (zp jo):=.ok
theorem JS(F:Fun K "new_token" "Tokens.new_token" jo f fd)(N:Tn K cT)(GN':Me P w K mg base CX0 1 cT "next_token" ["self"] (spNextT cT)):FnOk P w K mg base CX0 2 f fd ["self"] (spNewT cT):=by
 refine F.by scNewT (fun vs H Q E h=>?_) (fun cdv A outer s H vs Q E hr h=>?_)
 ·obtain⟨to,dx,td,tk,n,rfl,_⟩:=h
  rfl
 obtain⟨to,dx,td,tk,n,rfl,hT,hn,q⟩:=h;refine⟨_,zh (sE 1 scNewT.nd (Z8 (jv 0) N.cl GN' hr xR)) (zh (xU PassesOwn.never (za8 hr (jv 1) (yM (jv 0))) (zk (sE 1 scNewT.nd (Z8 (jv 0) N.cl GN' hr xR)))) (zk (zt (jv 1)))),?_⟩;have sl:=zJ;obtain⟨h1,h2,h3⟩:=xt tk n;refine(zf rfl ⟨to,dx,(zf rfl ⟨hT.o,rfl,?_⟩)⟩);refine⟨to,dx,td,tk,n,rfl,hT,by lia,fun H1 k1 T1=>?_⟩;refine⟨fun m σ H'=>∃j,m=nxT tk n-j/\σ=[oR to,some (.str (tokS j))]/\n < j/\j<=nxT tk n/\KM (·=to) H H'/\TkA cT H' to dx td tk j,⟨_,n+1,rfl,rfl,by lia,by lia,k1,T1⟩,?_⟩;rintro m σ H2 ⟨j,rfl,rfl,j1,j2,k2,T2⟩;refine(zf rfl (zf rfl ⟨to,cT,dx,_,_,rfl,T2.o,N.cl,N.a1,rfl,td,(zf rfl ⟨DGet.k (k:=.inr (tokS j)) T2.t,(zf rfl ?_)⟩)⟩));rw[jM];by_cases c:j=nxT tk n
 ·rw[c,decide_eq_false h2]
  exact iteF (zf rfl (q _ k2 (c ▸ T2)))
 ·rw[decide_eq_true (h3 j j1 (by lia))]
  refine iteT ⟨_,fun _ _ h=>h,?_⟩;refine(zf rfl ⟨to,dx,(zf rfl ⟨T2.o,rfl,to,dx,td,tk,j,rfl,T2,by lia,fun H3 k3 T3=>?_⟩)⟩);exact⟨_,by lia,j+1,rfl,rfl,by lia,by lia,k2.trans k3,T3⟩
theorem scTInit:FnScope ["self","code","one","name"] ["self","code"] (zp Yc):=.ok
theorem Vq(F:Fun K "__init__" "Tokens.__init__" Yc f fd)(N:Tn K cT)(GB:Ca P w K mg base CX0 2 "bound" ["one"] spBound):FnOk P w K mg base CX0 3 f fd ["self","code"] (spTInit cT):=by
 refine F.by scTInit (fun vs H Q E h=>?_) (fun cdv A outer s H vs Q E hr h=>?_)
 ·obtain⟨to,dx,p,ds,rfl,_⟩:=h
  rfl
 obtain⟨to,dx,p,ds,rfl,hto,⟨v,pd,os,h1,h2,h3⟩,hk,hl,q⟩:=h;have hr1:Room 1 _:=hr.mono (by decide);refine⟨_,
  (zh (wF (jv 0) vt)
  (zh (zM PassesOwn.never rfl (yn (xT 1)) (gN 2 scTInit.nd)
   (zk (zM PassesOwn.never rfl (zY (cA GB hr (jA1 (jv 2)))) (gN 3 scTInit.nd)
    (zk (wX hr1 (yM (jv 0)) (jv 3) yA)))))
  (zk (wF (jv 0) zn)))),?_⟩
 have sl:=zJ;intro td htd;have ntd:td≠to:=fun e=>by rw[e,hto]at htd;cases htd
 refine(zf rfl ⟨to,cT,dx,(zf rfl ⟨old htd hto,N.cl,N.a1,by show 0 < 1000;decide,?_⟩)⟩);have e0:HO.ins cT dx (putF "taken" (.ref td) [])=.ins cT dx [("taken",.ref td)]:=rfl;rw[e0];have k1:KM (·=to) H (upd (upd H td (.dK [])) to (.ins cT dx [("taken",.ref td)])):=fun b u nb e=>by rw[zj nb];exact old htd e
 have o1:=zg (H:=upd H td (.dK [])) (a:=to) (o:=.ins cT dx [("taken",.ref td)]);have d1:upd (upd H td (.dK [])) to (.ins cT dx [("taken",.ref td)]) td=some (.dK (ent [])):=by rw[zj ntd,zg];rfl
 generalize upd (upd H td (.dK [])) to (.ins cT dx [("taken",.ref td)])=H1 at *;have nto:∀{b:Addr}{xs:List V},H b=some (.tup xs)->b≠to:=fun e=>xh e hto (by intro z;cases z);have tp:∀{H':Hp},KM (·=to) H H'->Tups H H':=fun k b xs e=>k b _ (nto e) e;refine(zf rfl (ixT (tp k1 _ _ h1) aI1 ⟨pd,rfl,⟨_,SqT.of (tp k1 _ _ h2)⟩,xx (xs:=os.map V.ref) (fun i σ H'=>∃(tk:LS)(y z:Option V),σ=[oR to,oR p,y,z]/\KM (·=to) H H'/\H' to=some (.ins cT dx [("taken",.ref td)])/\H' td=some (.dK (ent tk))/\tk.length<=i*1001000/\∀x,x∈tk↔∃d∈ds.take i,x∈d.ps++d.b.binds) ⟨[],none,none,rfl,k1,o1,d1,uF _,fun x=>by simp⟩ (fun i σ H' _ h=>?_) ?_ ?_⟩))
 ·obtain⟨_,_,_,_,k,_⟩:=h
  exact SqT.of (tp k _ _ h2)
 ·rintro i v' σ H2 hv ⟨tk,y,z,rfl,k2,o2,d2,l2,m2⟩
  obtain⟨o,ho,rfl⟩:=L2.gM hv;have hi:i < ds.length:=by rw[h3.1];exact(ue.mp ho).1
  obtain⟨d,hd⟩:∃d,ds[i]?=some d:=⟨_,ui hi⟩;obtain⟨b1,b2,b3⟩:=hk d (uv hd);have hI:=(h3.2 i d o hd ho).keep (tp k2);have im:(i+1)*1001000=i*1001000+1001000:=Nat.succ_mul _ _;have i9:i*1001000<=9*1001000:=uN _ (by lia);refine(zf rfl ⟨o,d,rfl,hI,b1,b2,b3,fun H3 r s3 f3 e3=>?_⟩);have ol:=yY (d.ps++d.b.binds) [];rw[ub,List.length_nil]at ol;have om:∀x,x∈once [] (d.ps++d.b.binds)↔x∈d.ps++d.b.binds:=fun x=>by rw[vz];simp
  generalize once [] (d.ps++d.b.binds)=nm at *;have k3:=k2.trans (KM.of s3);have nrt:r≠td:=(zo d2 f3).symm;have nrto:r≠to:=(zo o2 f3).symm;refine⟨r,rfl,⟨_,SqL.of e3⟩,yz (xs:=nm.map V.str) (fun j σ H'=>∃z,σ=[oR to,oR p,oR o,z]/\KM (·=to) H H'/\H' to=some (.ins cT dx [("taken",.ref td)])/\H' td=some (.dK (ent (once tk (nm.take j))))/\H' r=some (.lst (nm.map V.str))) (zf rfl ⟨k3,s3 _ _ o2,s3 _ _ d2,e3⟩) (fun j σ H' _ h=>let ⟨_,_,_,_,_,e⟩:=h;SqL.of e) ?_ ?_⟩
  ·rintro j v σ H4 hv ⟨z,rfl,k4,o4,d4,e4⟩
   obtain⟨x,hx,rfl⟩:=L2.gM hv;have hj:j < nm.length:=(ue.mp hx).1;have ol2:=yY (nm.take j) tk;rw[uH]at ol2;refine(zf rfl ⟨to,cT,dx,_,_,rfl,o4,N.cl,N.a1,rfl,(zf rfl ⟨td,(zf rfl ⟨DPut.k (k:=.inr x) d4 (by unfold ent;rw[ua];lia),(zf rfl ⟨k4.put htd,by rw[zj ntd.symm];exact o4,?_,by rw[zj nrt];exact e4⟩)⟩)⟩)⟩);rw[zg,Y1,<- v0 hx]
  ·rintro σ H4 ⟨z,rfl,k4,o4,d4,e4⟩
   rw[ua,ux (ud _)]at d4;have ol2:=yY nm tk;refine⟨_,_,_,rfl,k4,o4,d4,by lia,fun x=>?_⟩;rw[vz,m2 x,om x,uI,hd]
   constructor
   ·rintro(⟨d',h1,h2⟩|h)
    ·exact⟨d',uP _ h1,h2⟩
    ·exact⟨d,by simp,h⟩
   ·rintro⟨d',h1,h2⟩
    rcases uJ.mp h1 with h1|h1
    ·exact .inl ⟨d',h1,h2⟩
    ·have:d'=d:=by simpa using h1
     exact .inr (this ▸ h2)
 ·rintro σ H2 ⟨tk,y,z,rfl,k2,o2,d2,l2,m2⟩
  rw[ua,<- h3.1]at l2 m2;rw[ux (ud _)]at m2;refine(zf rfl ⟨to,cT,dx,(zf rfl ⟨o2,N.cl,N.a2,by show 1 < 1000;decide,?_⟩)⟩);have l10:ds.length*1001000<=10*1001000:=uN _ hl;exact q _ td tk (fun b u nb e=>by rw[zj nb];exact k2 _ _ nb e) htd ⟨zg,by rw[zj ntd];exact d2⟩ (by lia) m2
end
def IsRW(H:Hp)(k:Str)(n:Nat)(b:Bd)(v:V):Prop:=∃q p,v=.ref q/\H q=some (.tup [.ref p,.bl (b.hasL n)])/\IsBd H (b.wy k n) p
theorem IsRW.keep{k:Str}{b:Bd}{v:V}(h:IsRW H k n b v)(t:Tups H H'):IsRW H' k n b v:=by obtain⟨q,p,e,h1,h2⟩:=h;exact⟨q,p,e,t _ _ h1,h2.keep t⟩
inductive spJoin(vs:List V)(H:Hp)(Q:VK)(e_3:XK):Prop
 |mk (k:Str) (n:Nat) (p:Addr) (rl:Addr) (b:Bd):(∃rs:List V,vs=[.str k,.ref p,.ref rl]/\IsBd H b p/\b.sz<=1000000/\H rl=some (.lst rs)/\All2 (IsRW H k n) b.kd rs/\b.isL n=false/\∀H' r,Same H H'->IsRW H' k n b (.ref r)->Q (.ref r) H')->spJoin vs H Q e_3
section
variable{K:uc}
theorem scJoin:FnScope ["token","body","results","within"] lS15 (zp jq):=.ok
theorem Vr:(["token","body","results","within","result"]:LS).Nodup:=by decide +kernel
theorem JT(F:Fun K "joined_ways" "joined_ways" jq f fd)(GW:Ca P w K mg base CX0 1 "with_bodies" lS17 spWB)(m_any:mg "any"=none):FnOk P w K mg base CX0 2 f fd lS15 spJoin:=by
 refine F.by scJoin (fun vs H Q E h=>?_) (fun cdv A outer s H vs Q E hr h=>?_)
 ·obtain⟨k,n,p,rl,b,rs,rfl,_⟩:=h
  rfl
 obtain⟨k,n,p,rl,b,rs,rfl,hb,hz,hrl,hrs,hL,q⟩:=h;refine⟨_,
  (zh (zy (yQ (ya (ym (wj rfl) rfl m_any PyProof.Rows.boot_any (jA1 (yo ["result"] rfl (zY (jv 2)) (fun _ _ _ _ _=>(gN 4 Vr)) (fun _ _ _ _ _=>zL) (fun _ _ _ _ _=>(yg (yh K) (jv 4) zn (fun _ _=>rfl))))))))
   (zk (zt (zr (jA2 (jv 1) yA)))) zu)
  (zh (ye ["result"] (i:=3) scJoin.nd rfl (Or.inl rfl) rfl (zY (jv 2)) (fun _ _ _ _ _=>(gN 4 Vr)) (fun _ _ _ _ _=>zL) (fun _ _ _ _ _=>(Wn (ya (yg (yh K) (jv 4) zn (fun _ _=>rfl))) (yg (yh K) (jv 4) zn (fun _ _=>rfl)) (zr (jA3 zq (jv 0) (yg (yh K) (jv 4) zn (fun _ _=>rfl)))))))
  (zk (zt (zr (jA2 (cA GW hr (jA2 (jv 1) (jv 3))) yA)))))),?_⟩
 have sl:=zJ;have rl1:=All2.len hrs;have kl:=Vl b;have hasE:b.hasL n=b.kd.any fun c=>c.hasL n:=by rw[JM,hL,Bool.false_or]
 refine(zf rfl ⟨rl,rfl,⟨_,SqL.of hrl⟩,yF (xs:=rs) (fun j τ ys H'=>H=H'/\(∃v,τ=[some (.str k),oR p,oR rl,none,v])/\ys=((b.kd.take j).map fun c=>c.hasL n).map V.bl) ⟨rfl,⟨none,rfl⟩,rfl⟩ (fun j τ ys H' _ h=>SqL.of (h.1 ▸ hrl)) ?_ ?_⟩)
 ·rintro j v τ ys H1 hv ⟨rfl,⟨v',rfl⟩,rfl⟩
  obtain⟨c,hc,q1,p1,rfl,h1,h2⟩:=All2.get hrs hv;have hj:=(ue.mp hc).1;refine(zf rfl (ixT h1 aI1 ⟨by rw[ua,ua,uH];lia,rfl,⟨_,rfl⟩,?_⟩));rw[uI,hc];simp
 rintro τ ys H1 ⟨rfl,_,rfl⟩ l1 f1;rw[<- rl1,ux (ud _)];have s1:=zi f1 (.lst ((b.kd.map fun c=>c.hasL n).map V.bl));refine⟨l1,b.kd.map fun c=>c.hasL n,rfl,SqL.of zg,(zf rfl ?_)⟩;have ea:(b.kd.map fun c=>c.hasL n).any _root_.id=b.hasL n:=by rw[hasE,List.any_map];rfl
 rw[ea];generalize upd H l1 (.lst ((b.kd.map fun c=>c.hasL n).map V.bl))=H1 at *;cases hh:b.hasL n with
 |false =>
  refine iteT (zf rfl ⟨sN2,fun r fr=>?_⟩);have s2:=s1.new (o:=.tup [.ref p,.bl false]) fr;exact q _ r s2 ⟨r,p,rfl,by rw[hh];exact zg,by rw[Bd.wy_id hh];exact hb.keep (.of s2)⟩
 |true =>
  refine iteF (nxtC ?_);have hrl1:=s1 _ _ hrl;have hrs1:All2 (IsRW H1 k n) b.kd rs:=hrs.imp fun _ _ z=>z.keep (.of s1);refine(zf rfl ⟨rl,rfl,⟨_,SqL.of hrl1⟩,yF (xs:=rs) (fun j τ ys H'=>Same H1 H'/\(∃v,τ=[some (.str k),oR p,oR rl,none,v])/\∃us:List Addr,ys=us.map V.ref/\IsBs H' ((b.kd.take j).map fun c=>if c.hasL n then c.wy k n else .loose k c) us) ⟨Same.refl _,⟨none,rfl⟩,[],rfl,.nil⟩ (fun j τ ys H' _ h=>SqL.of (h.1 _ _ hrl1)) ?_ ?_⟩)
  ·rintro j v τ ys H2 hv ⟨s2,⟨v',rfl⟩,us,rfl,hu⟩
   obtain⟨c,hc,hW⟩:=All2.get hrs1 hv;obtain⟨q1,p1,rfl,h1,h2⟩:=hW.keep (.of s2);have hj:=(ue.mp hc).1;have ul:=All2.len hu;rw[ua,uH]at ul;have ea:((b.kd.take (j+1)).map fun c=>if c.hasL n then c.wy k n else .loose k c)=((b.kd.take j).map fun c=>if c.hasL n then c.wy k n else .loose k c)++[if c.hasL n then c.wy k n else .loose k c]:=by rw[uI,hc];simp
   refine(zf rfl (ixT h1 aI1 (zf rfl ?_)));rw[ea];cases hc2:c.hasL n with
   |true =>
    refine iteT (zf rfl (ixT h1 aI0 ⟨by rw[ua];lia,s2,⟨_,rfl⟩,us++[p1],by rw[uh];rfl,?_⟩));rw[if_pos rfl];exact All2.app hu (.cons h2 .nil)
   |false =>
    refine iteF (zf rfl (zf rfl (ixT h1 aI0 ⟨sN3,fun r fr=>⟨by rw[ua];lia,s2.new fr,⟨_,rfl⟩,us++[r],by rw[uh];rfl,?_⟩⟩)));rw[if_neg (by decide)];rw[Bd.wy_id hc2]at h2;have t3:=Tups.of (zi fr (.tup [.str "loose",.str k,.ref p1]));exact All2.app (IsBs.keep hu t3) (.cons ⟨p1,zg,h2.keep t3⟩ .nil)
  rintro τ ys H2 ⟨s2,_,us,rfl,hu⟩ l2 f2;rw[<- rl1,ux (ud _)]at hu;have s3:=s2.new (o:=.lst (us.map V.ref)) f2;have s13:=s1.trans s3;refine(zf rfl (zf rfl ⟨p,l2,b,us,(zf rfl ⟨hb.keep (.of s13),hz,zg,IsBs.keep hu (.of (zi f2 _)),by rw[ua],fun H3 r s4 hr3=>⟨sN2,fun r2 fr=>?_⟩⟩)⟩));refine q _ r2 ((s13.trans s4).new fr) ⟨r2,r,rfl,by rw[hh];exact zg,?_⟩;have e:=JN (k:=k) hL;unfold Vf at e;rw[if_pos hh]at e;rw[e];exact hr3.keep (.of (zi fr _))
end
theorem Y2{cl:List (Str×Addr)}{fvs:List V}(nd:(cl.map (·.1)).Nodup)(na:(cl.map (·.2)).Nodup)(hl:fvs.length=cl.length)(h:∀(i:Nat)(p:Str×Addr)(v:V),cl[i]?=some p->fvs[i]?=some v->Cel H p.2 v):Clo H cl (cl.map (·.1)) fvs:=by
 have lk:∀{l:List (Str×Addr)}{x:Str}{a:Addr},(l.map (·.1)).Nodup->(x,a)∈l->l.lookup x=some a:=by
  intro l x a
  induction l with
  |nil=>intro _ h;cases h
  |cons p l ih =>
   intro n h;rw[ur,uM]at n;obtain⟨y,c⟩:=p;rcases uq.mp h with e|h
   ·cases e
    rw[Ug];simp
   ·have ne:(x == y)=false:=by
     rw[beq_eq_false_iff_ne];intro e;exact n.1 (uD.mpr ⟨_,h,e⟩)
    rw[Ug,ne];exact ih n.2 h
 have ml:∀{l:List (Str×Addr)}{x:Str}{a:Addr},l.lookup x=some a->(x,a)∈l:=fun e=>u0 e;refine⟨by rw[ua];exact hl,fun p hp=>?_,fun i x v e1 e2=>?_,fun x hx=>?_,fun x y a e1 e2=>?_⟩
 ·obtain⟨i,hi⟩:=List.mem_iff_getElem?.mp hp
  have:i < fvs.length:=by rw[hl];exact(ue.mp hi).1
  exact⟨_,h i p _ hi (ui this)⟩
 ·obtain⟨p,hp,rfl⟩:=L2.gM e1
  exact⟨p.2,lk nd (uv hp),h i p v hp e2⟩
 ·obtain⟨p,hp,rfl⟩:=uD.mp hx
  exact⟨p.2,lk nd hp⟩
 ·have m1:=ml e1
  have m2:=ml e2;have aux:∀{l:List (Str×Addr)},(l.map (·.2)).Nodup->(x,a)∈l->(y,a)∈l->x=y:=by
   intro l
   induction l with
   |nil=>intro _ h;cases h
   |cons p l ih =>
    intro n h1 h2;rw[ur,uM]at n;rcases uq.mp h1 with e1|h1<;>rcases uq.mp h2 with e2|h2
    ·rw[<- e1]at e2;exact(Prod.mk.inj e2).1.symm
    ·exact absurd (uD.mpr ⟨_,h2,by rw[<- e1]⟩) n.1
    ·exact absurd (uD.mpr ⟨_,h1,by rw[<- e2]⟩) n.1
    ·exact ih n.2 h1 h2
  exact aux na m1 m2
theorem Pub.same{H3:Hp}(h:Pub H H3 cvs):Same H H3:=fun b u e=>by
 rw[h.old b]
 ·exact e
 ·intro z
  obtain⟨p,hp,rfl⟩:=uD.mp z;rw[h.non p hp]at e;cases e
theorem yx(hc:∀a∈as,∃v,Cel H a v):Tups H (z0 H as):=fun p xs e=>zS hc e (by intro _ _ _ z;cases z)
theorem yZ(s:Same (z0 H as) H'):Same H (yW H' H as):=fun b u e=>by
 by_cases z:b∈as
 ·rw[wd z];exact e
 ·rw[yr z];exact s b u (by rw[zT z];exact e)
theorem y0{u:HO}(hn:∀a∈as,H' a=none)(e:H' b=some u):yW H' H as b=some u:=by
 rw[yr]
 ·exact e
 ·intro z;rw[hn b z]at e;cases e
def Zt:Expr->Expr
 |.Tuple [_,l] _ _=>l
 |.Call _ [_,l] _ _=>l
 |e=>e
def lmP:Expr->Arguments
 |.Lambda a _ _ _=>a
 |_=>z6 yN
def lmB:Expr->Expr
 |.Lambda _ b _ _=>b
 |e=>e
def lmS:Expr->Scope
 |.Lambda _ _ s _=>s
 |_=>zp yN
def xH:Expr->Pos
 |.Lambda _ _ _ p=>p
 |_=>⟨0,0,0,0⟩
def wo:Expr:=match zH yN with
 |[.If _ [_,.Return (some e) _] _ _,_]=>Zt e
 |_=>.Constant .none 0 ⟨0,0,0,0⟩
def wp:Expr:=match zH yN with
 |[_,.Return (some e) _]=>Zt e
 |_=>.Constant .none 0 ⟨0,0,0,0⟩
def xI:Str:=("begun_ways":Str)++(".<locals>.":Str)++("<lambda>":Str)
def ls4:List (Pos×Str):=[(xH wo,xI),(xH wp,xI)]
def cl4(c1 c2:Addr):List (Str×Addr):=[("deed",c2),("body",c1)]
def cl5(c1 c2:Addr):List (Str×Addr):=[("token",c1),("body",c2)]
abbrev vA(mg:Str->Option Value)(c1 c2 c:Addr)(ct:Value):FuncData:=lamC mg xI (lmP wo) (lmB wo) (lmS wo) (cl4 c1 c2) c ct
abbrev vB(mg:Str->Option Value)(c1 c2 c:Addr)(ct:Value):FuncData:=lamC mg xI (lmP wp) (lmB wp) (lmS wp) (cl5 c1 c2) c ct
theorem zbi:LamScope ["results","deed","body"] ["results"] ["deed","body"] (lmS wo):=⟨rfl,rfl,rfl,by decide +kernel,rfl,by decide +kernel,by decide +kernel,by decide +kernel,by decide +kernel⟩
theorem zbj:LamScope ["results","token","body"] ["results"] ["token","body"] (lmS wp):=⟨rfl,rfl,rfl,by decide +kernel,rfl,by decide +kernel,by decide +kernel,by decide +kernel,by decide +kernel⟩
theorem clo2{c2:Addr}{v1 v2:V}(hxy:x≠y)(h1:Cel H c1 v1)(h2:Cel H c2 v2)(n:c1≠c2):Clo H [(x,c1),(y,c2)] [x,y] [v1,v2] :=
 Y2 (cl:=[(x,c1),(y,c2)]) (by simp[hxy]) (by simp[n]) rfl fun i p v e1 e2=>by
  match i,e1,e2 with
  |0,e1,e2=>cases e1;cases e2;exact h1
  |1,e1,e2=>cases e1;cases e2;exact h2
  |i+2,e1,_=>simp at e1
def Clo4(mg:Str->Option Value)(H:Hp)(k:Str)(b:Bd)(f:Addr):Prop:=∃c1 c2 c ct p pd x d b',b=.lt x d b'/\H f=some (FunO f (vA mg c1 c2 c ct))/\H c=some (CodO c xI)/\Cel H c1 (.ref p)/\Cel H c2 (.ref pd)/\c1≠c2/\IsBd H b p/\IsDd H (setT k d) pd
def Clo5(mg:Str->Option Value)(H:Hp)(k:Str)(b:Bd)(f:Addr):Prop:=∃c1 c2 c ct p,H f=some (FunO f (vB mg c1 c2 c ct))/\H c=some (CodO c xI)/\Cel H c1 (.str k)/\Cel H c2 (.ref p)/\c1≠c2/\IsBd H b p
def KN(H H':Hp):Prop:=∀b u,H b=some u->(∀ps,u≠.tbl ps)->(∀xs,u≠.lst xs)->(∀C dx fs,u≠.ins C dx fs)->H' b=some u
theorem KN.tups(h:KN H H'):Tups H H':=fun b xs e=>h b _ e (by intro _ z;cases z) (by intro _ z;cases z) (by intro _ _ _ z;cases z)
theorem KN.fun(h:KN H H')(e:H f=some (FunO f fd)):H' f=some (FunO f fd):=h _ _ e (by intro _ z;unfold FunO at z;cases z) (by intro _ z;unfold FunO at z;cases z) (by intro _ _ _ z;unfold FunO at z;cases z)
theorem KN.cod(h:KN H H'){q:Str}(e:H c=some (CodO c q)):H' c=some (CodO c q):=h _ _ e (by intro _ z;unfold CodO at z;cases z) (by intro _ z;unfold CodO at z;cases z) (by intro _ _ _ z;unfold CodO at z;cases z)
theorem KN.cel(h:KN H H'){v:V}(e:Cel H c v):Cel H' c v:=by obtain⟨o,e⟩:=e;exact⟨o,h _ _ e (by intro _ z;cases z) (by intro _ z;cases z) (by intro _ _ _ z;cases z)⟩
theorem KN.of(s:Same H H'):KN H H':=fun b u e _ _ _=>s b u e
theorem Clo4.keep{k:Str}{b:Bd}(h:Clo4 mg H k b f)(s:KN H H'):Clo4 mg H' k b f:=by
 obtain⟨c1,c2,c,ct,p,pd,x,d,b',e,h1,h2,h3,h4,n,h5,h6⟩:=h;exact⟨c1,c2,c,ct,p,pd,x,d,b',e,s.fun h1,s.cod h2,s.cel h3,s.cel h4,n,h5.keep s.tups,h6.keep s.tups⟩
theorem Clo5.keep{k:Str}{b:Bd}(h:Clo5 mg H k b f)(s:KN H H'):Clo5 mg H' k b f:=by
 obtain⟨c1,c2,c,ct,p,h1,h2,h3,h4,n,h5⟩:=h;exact⟨c1,c2,c,ct,p,s.fun h1,s.cod h2,s.cel h3,s.cel h4,n,h5.keep s.tups⟩
inductive spLam4(mg:Str->Option Value)(f:Addr)(fd:FuncData)(vs:List V)(H:Hp)(Q:VK)(e_3:XK):Prop
 |mk (rl:Addr) (c1:Addr) (c2:Addr) (c:Addr) (p:Addr) (pd:Addr) (ct:Value) (k:Str) (n:Nat) (x:Str) (d:Dd):(∃b:Bd,vs=[.ref rl]/\fd=vA mg c1 c2 c ct/\H f=some (FunO f fd)/\H c=some (CodO c xI)/\Cel H c1 (.ref p)/\Cel H c2 (.ref pd)/\c1≠c2/\IsBd H (.lt x d b) p/\IsDd H (setT k d) pd/\isLD n d=true/\∀H' r,Same H H'->IsRW H' k n (.lt x d b) (.ref r)->Q (.ref r) H')->spLam4 mg f fd vs H Q e_3
inductive spLam5(mg:Str->Option Value)(f:Addr)(fd:FuncData)(vs:List V)(H:Hp)(Q:VK)(e_3:XK):Prop
 |mk (rl:Addr) (c1:Addr) (c2:Addr) (c:Addr) (p:Addr) (ct:Value) (k:Str) (n:Nat) (b:Bd):(∃rs:List V,vs=[.ref rl]/\fd=vB mg c1 c2 c ct/\H f=some (FunO f fd)/\H c=some (CodO c xI)/\Cel H c1 (.str k)/\Cel H c2 (.ref p)/\c1≠c2/\IsBd H b p/\b.sz<=1000000/\H rl=some (.lst rs)/\All2 (IsRW H k n) b.kd rs/\b.isL n=false/\∀H' r,Same H H'->IsRW H' k n b (.ref r)->Q (.ref r) H')->spLam5 mg f fd vs H Q e_3
section
variable{K:uc}
theorem JU(f c1 c2 c:Addr)(ct:Value):FnOk P w K mg base CX0 4 f (vA mg c1 c2 c ct) ["results"] (spLam4 mg f (vA mg c1 c2 c ct)):=by
 refine wf (k:=3) zbi (fun vs H Q E h=>?_) (fun A outer s H vs Q E hr h=>?_)
 ·obtain⟨rl,_,_,_,_,_,_,_,_,_,_,_,rfl,_⟩:=h
  rfl
 ·obtain⟨rl,d1,d2,d0,p,pd,ct',k,n,x,d,b,rfl,efd,hf,hc,h1,h2,n1,hb,hd,hL,q⟩:=h
  have ecl:cl4 c1 c2=cl4 d1 d2:=congrArg FuncData.closure efd;have ec:Value.ref c=Value.ref d0:=congrArg FuncData.code efd;cases ec;have e2:c2=d2:=by injection ecl with a b;exact(Prod.mk.inj a).2
  have e1:c1=d1:=by injection ecl with a b;injection b with a b;exact(Prod.mk.inj a).2
  subst e1;subst e2;have C:=clo2 (x:="deed") (y:="body") (by decide) h2 h1 n1.symm;refine⟨hf,hc,_,C,?_⟩;have hcA:∀a∈(cl4 c1 c2).map (·.2),∃v,Cel H a v:=fun a ha=>by
   obtain⟨p,hp,rfl⟩:=uD.mp ha;exact C.all p hp
  have tp:=yx hcA;refine⟨_,(zr (jA2 (zw yy (zX yi (jv 2) yc (yd zn)) (zr (jA2 (jv 1) (xT 2)))) yA)),?_⟩;obtain⟨p1,p2,hp,hd0,hb'⟩:=hb;have hpm:=tp _ _ hp;refine(zf rfl ⟨2,rfl,p,(zf rfl ⟨hpm,fun p3 H1 s1 h3=>(zf rfl (zf rfl (ixT (s1 _ _ hpm) aI3 ⟨sN2,fun t4 f4=>?_⟩)))⟩)⟩);refine⟨p3,t4,[.str "let",.str x],(zf rfl ⟨rfl,SqT.of (old f4 h3),SqT.of zg,(by intro z;cases z),sN4,(fun e=>by simp at e),fun _ r fr=>⟨sN2,fun r2 fr2 hnn=>?_⟩⟩)⟩;have s2:Same (z0 H ((cl4 c1 c2).map (·.2))) (upd (upd (upd H1 t4 (.tup [.ref pd,.ref p2])) r (.tup ([.str "let",.str x]++[.ref pd,.ref p2]))) r2 (.tup [.ref r,.bl true])):=(((show Same _ H1 from s1).new f4).new fr).new fr2;refine q _ r2 (yZ s2) ⟨r2,r,rfl,?_,?_⟩
  ·have e:(Bd.lt x d b).hasL n=true:=by rw[Bd.hasL,hL];rfl
   rw[e];exact y0 hnn zg
  ·rw[Bd.wy,if_pos hL]
   exact⟨pd,p2,y0 hnn (old fr2 zg),hd.keep (.of (yZ s2)),hb'.keep (.of (yZ s2))⟩
theorem JV(c1 c2 c:Addr)(ct:Value):Binds K (vA mg c1 c2 c ct) ["results"] []:=.all (us1 fun _=>rfl)
theorem JW(GJ:Ca P w K mg base CX0 2 "joined_ways" lS15 spJoin)(f c1 c2 c:Addr)(ct:Value):FnOk P w K mg base CX0 3 f (vB mg c1 c2 c ct) ["results"] (spLam5 mg f (vB mg c1 c2 c ct)):=by
 refine wf (k:=2) zbj (fun vs H Q E h=>?_) (fun A outer s H vs Q E hr h=>?_)
 ·obtain⟨rl,_,_,_,_,_,_,_,_,_,rfl,_⟩:=h
  rfl
 ·obtain⟨rl,d1,d2,d0,p,ct',k,n,b,rs,rfl,efd,hf,hc,h1,h2,n1,hb,hz,hrl,hrs,hL,q⟩:=h
  have ecl:cl5 c1 c2=cl5 d1 d2:=congrArg FuncData.closure efd;have ec:Value.ref c=Value.ref d0:=congrArg FuncData.code efd;cases ec;have e1:c1=d1:=by injection ecl with a b;exact(Prod.mk.inj a).2
  have e2:c2=d2:=by injection ecl with a b;injection b with a b;exact(Prod.mk.inj a).2
  subst e1;subst e2;have C:=clo2 (x:="token") (y:="body") (by decide) h1 h2 n1;refine⟨hf,hc,_,C,?_⟩;have hcA:∀a∈(cl5 c1 c2).map (·.2),∃v,Cel H a v:=fun a ha=>by
   obtain⟨p,hp,rfl⟩:=uD.mp ha;exact C.all p hp
  have tp:=yx hcA;refine⟨_,(cA GJ hr (jA3 (jv 1) (jv 2) (jv 0))),?_⟩;refine(zf rfl (zf rfl (zf rfl ⟨k,n,p,rl,b,rs,rfl,hb.keep tp,hz,zS hcA hrl (by intro _ _ _ z;cases z),hrs.imp fun _ _ z=>z.keep tp,hL,fun H' r s1 h1 hnn=>?_⟩)));refine q _ r (yZ s1) ?_;obtain⟨q1,p1,e,g1,g2⟩:=h1;cases e;have sp:Same H' (yW H' H ((cl5 c1 c2).map (·.2))):=fun b u e=>y0 hnn e;exact⟨r,p1,rfl,sp _ _ g1,g2.keep (.of sp)⟩
theorem JX(c1 c2 c:Addr)(ct:Value):Binds K (vB mg c1 c2 c ct) ["results"] []:=.all (us1 fun _=>rfl)
end
end GN
namespace L2
open PySem
theorem TbG.same(h:TbG T ls H)(s:Same H H'):TbG T ls H':=h.keep (fun ps e=>s _ _ e) fun c q e=>s _ _ e
theorem TbG.no(h:TbG T ls H){u:HO}(e:H b=some u)(n:∀ps,u≠.tbl ps):b≠T:=fun z=>by
 obtain⟨ps,h,_⟩:=h;rw[z,h]at e;exact n _ (u5.inj e).symm
end L2
namespace GN
open PySem L2 K11
def IsKv(H:Hp)(l:List Bd)(vs:List V):Prop:=All2 (fun b v=>∃p,v=.ref p/\IsBd H b p) l vs
theorem IsKv.keep{l:List Bd}{vs:List V}(h:IsKv H l vs)(t:Tups H H'):IsKv H' l vs:=All2.imp h fun _ _ ⟨p,e,z⟩=>⟨p,e,z.keep t⟩
theorem IsBs.kv{l:List Bd}{ps:List Addr}(h:IsBs H l ps):IsKv H l (ps.map V.ref):=by
 induction h with
 |nil=>exact .nil
 |cons a _ ih=>exact .cons (zf rfl (a)) ih
theorem IsKv.bs{H:Hp}:∀{l:List Bd}{vs:List V},IsKv H l vs->∃ps:List Addr,vs=ps.map V.ref/\IsBs H l ps
 |_,_,.nil=>⟨[],rfl,.nil⟩
 |_,_,.cons ⟨p,e,z⟩ r=>let ⟨ps,e2,h⟩:=IsKv.bs r;⟨p::ps,by rw[e,e2];rfl,.cons z h⟩
def wyK(n:Nat)(b:Bd):List Bd:=if b.isL n then[]else b.kd
def FinW(mg:Str->Option Value)(H:Hp)(k:Str)(n:Nat)(b:Bd)(f:Addr):Prop:=(b.isL n=true/\Clo4 mg H k b f)\/(b.isL n=false/\Clo5 mg H k b f)
theorem FinW.keep{k:Str}{b:Bd}(h:FinW mg H k n b f)(s:KN H H'):FinW mg H' k n b f:=h.imp (fun⟨a,c⟩=>⟨a,c.keep s⟩) fun⟨a,c⟩=>⟨a,c.keep s⟩
def PsW(mg:Str->Option Value)(T:Addr)(k:Str)(n:Nat)(b:Bd)(H:Hp)(Q:VK):Prop:=∀H' q l fl vs,KM (·=T) H H'->TbG T ls4 H'->H' q=some (.tup [.ref l,.ref fl])->H l=none->H' l=some (.lst vs)->IsKv H' (wyK n b) vs->FinW mg H' k n b fl->Q (.ref q) H'
inductive spBegW(mg:Str->Option Value)(T:Addr)(vs:List V)(H:Hp)(Q:VK)(e_3:XK):Prop
 |mk (k:Str) (n:Nat) (p:Addr):(∃b:Bd,vs=[.str k,.int (n:Nat),.ref p]/\IsBd H b p/\b.sz<=1000000/\TbG T ls4 H/\PsW mg T k n b H Q)->spBegW mg T vs H Q e_3
section
variable{K:uc}
theorem scBegW:FnScope ["token","many","body","deed"] lS16 (zp yN):=.ok
theorem JY(F:FunC K "begun_ways" yN c f fd)(hB:BMn mg base)(hc:Uh K c T=true)(GL:Ca P w K mg base CX0 1 "is_left" lS22 spIsL)(GW:Ca P w K mg base CX0 2 "bodies_within" ["body"] spBW):FnOk P w K mg base CX0 3 f fd lS16 (spBegW mg T):=by
 refine F.byR scBegW (fun vs H Q E h=>?_) (fun A outer s H vs Q E hr h fresh=>?_)
 ·obtain⟨k,n,p,b,rfl,_⟩:=h
  rfl
 obtain⟨k,n,p,b,rfl,hb,hz,hT,q⟩:=h;have hr1:Room 1 _:=hr.mono (by decide);refine⟨_,
  (QP (ya (cA GL hr1 (jA2 (jv 2) (jv 1))))
   (jx (sE 3 scBegW.nd (zw yy (zX yi (xT 2) yc (yd zn)) (zr (jA1 (jv 0)))))
   (Yk (zr (jA2 (zC zE) (we (params:=lmP wo) (body:=lmB wo) (scope:=lmS wo) (pos:=xH wo) (T:=T) (qual:=xI) (cl:=cl4 (s.heap.objs.size+2) (s.heap.objs.size+3)) hB rfl hc rfl)))))
  (Yk (zr (jA2 (cA GW hr (jA1 (jv 2))) (we (params:=lmP wp) (body:=lmB wp) (scope:=lmS wp) (pos:=xH wp) (T:=T) (qual:=xI) (cl:=cl5 (s.heap.objs.size+1) (s.heap.objs.size+2)) hB rfl hc rfl))))),?_⟩
 have sl:=zJ;refine(zf rfl (zf rfl ⟨p,b,n,rfl,hb,(zf rfl ?_)⟩));cases hL:b.isL n with
 |true =>
  refine iteT ?_;cases b with
  |lt x d b =>
   cases d with
   |mk t ns k0 =>
    obtain⟨p1,p2,hp,⟨q1,h1,h2⟩,hb'⟩:=id hb;refine(zf rfl (ixT hp aI2 ⟨3,rfl,p1,(zf rfl ⟨h1,fun p3 H1 s1 h3=>(zf rfl ⟨sN1,fun t4 f4=>?_⟩)⟩)⟩));refine⟨p3,t4,[.str "make",.str t,.ref q1],(zf rfl ⟨rfl,SqT.of (old f4 h3),SqT.of zg,(by intro z;cases z),sN4,(fun e=>by simp at e),fun _ pd fd'=>?_⟩)⟩;have s2:Same H (upd (upd H1 t4 (.tup [.str k])) pd (.tup ([.str "make",.str t,.ref q1]++[.str k]))):=((show Same H H1 from s1).new f4).new fd';have hd2:IsDd (upd (upd H1 t4 (.tup [.str k])) pd (.tup ([.str "make",.str t,.ref q1]++[.str k]))) (.mk t ns k) pd:=⟨q1,zg,s2 _ _ h2⟩;dsimp only
    generalize upd (upd H1 t4 (.tup [.str k])) pd (.tup ([.str "make",.str t,.ref q1]++[.str k]))=H2 at *;refine⟨sN0,fun l fl=>?_⟩;have s3:=s2.new (o:=.lst []) fl;have f0:H l=none:=s2.free fl;have hd3:=hd2.keep (.of (zi fl (.lst [])));have el:=zg (H:=H2) (a:=l) (o:=.lst []);generalize upd H2 l (.lst [])=H3 at *;refine yX (hT.same s3) (by unfold ls4;exact .head _) (fun p hp _=>by unfold ls4 at hp;simp at hp;rcases hp with rfl|rfl<;>rfl) fun H4 fl4 cc ct k4 T4 hfl nfT ncT hfl4 hcc=>?_;refine⟨sN2,fun r fr=>?_⟩;have no3:∀{b:Addr}{u:HO},H3 b=some u->(∀ps,u≠.tbl ps)->b≠T:=fun e n=>(hT.same s3).no e n;have k5:KM (·=T) H3 (upd H4 r (.tup [.ref l,.ref fl4])):=fun b u n e=>old fr (k4 b u n e);have t5:Tups H3 (upd H4 r (.tup [.ref l,.ref fl4])):=fun b xs e=>k5 b _ (no3 e (by intro _ z;cases z)) e;have T5:=T4.same (zi fr (.tup [.ref l,.ref fl4]));have hr5:=zg (H:=H4) (a:=r) (o:=.tup [.ref l,.ref fl4]);have el5:=k5 _ _ (no3 el (by intro _ z;cases z)) el;have hf5:=old (o:=.tup [.ref l,.ref fl4]) fr hfl4;have hc5:=old (o:=.tup [.ref l,.ref fl4]) fr hcc;generalize upd H4 r (.tup [.ref l,.ref fl4])=H5 at *;refine⟨[(s.heap.objs.size+2,.ref p),(s.heap.objs.size+3,.ref pd)],fun x hx=>?_,fun H6 pb=>?_⟩
    ·simp only[uq,Ui,or_false]at hx
     rcases hx with rfl|rfl
     ·exact⟨2,"body",rfl,rfl,rfl,.inl rfl⟩
     ·exact⟨3,"deed",rfl,rfl,rfl,.inl rfl⟩
    have s6:=Pub.same pb;refine q H6 r l fl4 [] ((KM.of s3).trans (k5.trans (.of s6))) (T5.same s6) (s6 _ _ hr5) f0 (s6 _ _ el5) (by unfold wyK;rw[if_pos hL];exact .nil) (.inl ⟨hL,?_⟩);exact⟨_,_,cc,ct,p,pd,x,_,b,rfl,s6 _ _ hf5,s6 _ _ hc5,pb.cel (_,_) (.head _),pb.cel (_,_) (.tail _ (.head _)),by simp,((hb.keep (.of s3)).keep t5).keep (.of s6),(hd3.keep t5).keep (.of s6)⟩
   |_=>cases hL
  |_=>cases hL
 |false =>
  refine iteF ?_;refine(zf rfl ⟨p,b,rfl,hb,hz,fun H3 l ps s3 f0 el hk=>?_⟩);refine yX (hT.same s3) (by unfold ls4;exact .tail _ (.head _)) (fun p hp _=>by unfold ls4 at hp;simp at hp;rcases hp with rfl|rfl<;>rfl) fun H4 fl4 cc ct k4 T4 hfl nfT ncT hfl4 hcc=>?_;refine⟨sN2,fun r fr=>?_⟩;have no3:∀{b:Addr}{u:HO},H3 b=some u->(∀ps,u≠.tbl ps)->b≠T:=fun e n=>(hT.same s3).no e n;have k5:KM (·=T) H3 (upd H4 r (.tup [.ref l,.ref fl4])):=fun b u n e=>old fr (k4 b u n e);have t5:Tups H3 (upd H4 r (.tup [.ref l,.ref fl4])):=fun b xs e=>k5 b _ (no3 e (by intro _ z;cases z)) e;have T5:=T4.same (zi fr (.tup [.ref l,.ref fl4]));have hr5:=zg (H:=H4) (a:=r) (o:=.tup [.ref l,.ref fl4]);have el5:=k5 _ _ (no3 el (by intro _ z;cases z)) el;have hf5:=old (o:=.tup [.ref l,.ref fl4]) fr hfl4;have hc5:=old (o:=.tup [.ref l,.ref fl4]) fr hcc;generalize upd H4 r (.tup [.ref l,.ref fl4])=H5 at *;refine⟨[(s.heap.objs.size+1,.str k),(s.heap.objs.size+2,.ref p)],fun x hx=>?_,fun H6 pb=>?_⟩
  ·simp only[uq,Ui,or_false]at hx
   rcases hx with rfl|rfl
   ·exact⟨0,"token",rfl,rfl,rfl,.inl rfl⟩
   ·exact⟨2,"body",rfl,rfl,rfl,.inl rfl⟩
  have s6:=Pub.same pb;refine q H6 r l fl4 _ ((KM.of s3).trans (k5.trans (.of s6))) (T5.same s6) (s6 _ _ hr5) f0 (s6 _ _ el5) (by unfold wyK;rw[if_neg (by rw[hL];decide)];exact(hk.kv.keep t5).keep (.of s6)) (.inr ⟨hL,?_⟩);exact⟨_,_,cc,ct,p,s6 _ _ hf5,s6 _ _ hc5,pb.cel (_,_) (.head _),pb.cel (_,_) (.tail _ (.head _)),by simp,((hb.keep (.of s3)).keep t5).keep (.of s6)⟩
end
end GN
namespace L2
open PySem
theorem cutR{t:TS}{D:Ends}{P:St->Hp->Prop}(h:∀D':Ends,D'.rt=D.rt->(∀σ H,P σ H->D'.nx σ H)->t D' σ H)(p:∀σ H,P σ H->D.nx σ H):t D σ H:=h D rfl p
end L2
namespace GN
open PySem L2
inductive spWorked(P:Program)(w:World)(K:uc)(mg:Str->Option Value)(base:Heap)(k:Nat)(vs:List V)(H:Hp)(Q:VK)(e_3:XK):Prop
 |mk (D:WoD P w K mg base k) (v:V) (root:D.Tk):(∃R:Addr->Prop,vs=[v,.ref D.fb]/\D.IT H R root v/\D.Ok (D.pre root) H/\(∀b,R b->H b≠none)/\(∀b,R b->¬ D.M b)/\D.wt root<=10000000/\((∃fd,H D.fb=some (FunO D.fb fd))/\¬ D.M D.fb\/uL K (.ref D.fb)=true)/\∀H' v' R',KM D.M H H'->D.Ok (D.post root) H'->(∀b,R' b->¬ D.M b)->D.IR H' R' root v'->Q v' H')->spWorked P w K mg base k vs H Q e_3
inductive WkV{P:Program}{w:World}{K:uc}{mg:Str->Option Value}{base:Heap}{k:Nat}(D:WoD P w K mg base k)(cB fo wl:Addr)(v:V)(root:D.Tk)(H:Hp)(m:Nat)(σ:St)(H':Hp):Prop
 |mk (es:List (En D.Tk)) (cur:D.S) (R:Addr->Prop) (y3 y4 y5 y6:Option V) (_:m=mall D es) (_:σ=[some v,some (.ref D.fb),oR wl,y3,y4,y5,y6]) (_:KM D.M H H') (_:D.Ok cur H') (_:H' wl=some (.lst (es.reverse.map fun e=>V.ref e.bo))) (_:¬ R wl) (_:(∀e∈es,EnOk D cB fo root H' R e)) (_:(∀e∈es,H e.ra=none)) (_:Lnk D es) (_:(∀b,R b->H' b≠none)) (_:(∀b,R b->¬ D.M b)) (_:(wl::es.map (·.ra)).Nodup) (_:mall D es<=D.wt root+1) (_:(∀e∈es,e.ts.length<=10000000)) (_:Stk D root cur es):WkV D cB fo wl v root H m σ H'
section
variable{K:uc}{fo:Addr}{fdo:FuncData}{k:Nat}
theorem scWorked:FnScope ["task","begin","waiting","last","pair","finish","result"] lS21 (zp jn):=.ok
theorem vC{t:TA}{Q:VK}{vs:List V}(hi:σ[i]?=some (some (.ref f)))(ha:∀R:List V->Hp->Prop,R vs H->t σ H R)(h:CanC P w K mg base k H f vs Q E0):WU P w K mg base k E0 i t σ H Q:=by
 obtain⟨fd,ps,sp,F,b,q,c⟩:=h;rcases c with c|c
 ·exact⟨f,hi,.inl ⟨⟨fd,c⟩,ha _ ⟨fd,ps,sp,F,b,c,q⟩⟩⟩
 ·exact⟨f,hi,.inr ⟨c,ha _ ⟨fd,ps,sp,F,b,q⟩⟩⟩
theorem v6(F:Fun K "worked_out" "worked_out" jn f fd)(N:Bn K cB)(GB:Ma P w K mg base CX0 1 "Begun" cB lS18 (spBInit cB))(GO:FnOk P w K mg base CX0 1 fo fdo ["results"] spOnly)(bO:Binds K fdo ["results"] [])(kO:uL K (.ref fo)=true)(mO:mg "only_one"=some (.ref fo))(m_len:mg "len"=none)(hk:2<=k):FnOk P w K mg base CX0 (k+1) f fd lS21 (spWorked P w K mg base k):=by
 refine F.by scWorked (fun vs H Q E h=>?_) (fun cdv A outer s H vs Q E hr h=>?_)
 ·obtain⟨D,v,root,R,rfl,_⟩:=h
  rfl
 obtain⟨D,v,root,R0,rfl,hIT,hOk,hR0,hRM0,hwt,hfb,q⟩:=h;have hr2:Room (1+1) _:=hr.mono (by lia);refine⟨_,
  (zh (sE 2 scWorked.nd (zC (jA1 (Wx GB hr2 rfl xR (jA2 (zC (jA1 (jv 0))) (Ju (v:=.ref fo) rfl mO rfl))))))
  (zk (xU PassesOwn.never (ya yA)
   (zh (sE 3 scWorked.nd (xX z7 (jv 2) (yu zn)))
   (zk (zy (tN Zg (jL m_len (yM (jv 3))) (jL m_len (yM (jv 3))))
    (zh (sE 4 scWorked.nd (Zj hr (jv 1) xR (jA1 (xX z7 (yM (jv 3)) (jL m_len (yM (jv 3)))))))
    (zk (zF (zV uk uy uz zG (jv 2) (jA1 (Wx GB hr2 rfl xR (jA2 (xT 4) (xT 4))))))))
    (zh (sE 5 scWorked.nd (yM (jv 3)))
    (zh (sE 6 scWorked.nd (Zj hr (jv 5) xR (jA1 (yM (jv 3)))))
    (zh (zF (xK uk uY uZ xM (jv 2)))
    (zh (zy (tN zD (jL m_len (jv 2)) zn)
     (zk (zt (jv 6))) zu)
    (zk (zF (zV uk uy uz zG (yM (xX z7 (jv 2) (yu zn))) (jA1 (jv 6))))))))))))))),?_⟩
 have sl:=zJ;refine(zf rfl ⟨sN1,fun l0 hl0=>?_⟩);have s0:Same H (upd H l0 (.lst [v])):=fun b u e=>by rw[zj (zo e hl0)];exact e
 have hl0':=zg (H:=H) (a:=l0) (o:=.lst [v]);generalize upd H l0 (.lst [v])=H1 at *;intro x dx hx hdx nxd;refine⟨x,dx,l0,fo,rfl,zg,fun H2 ra kp hra hra2 hx2=>⟨rfl,sN1,fun wl hwl=>?_⟩⟩;have hM:∀b,H b=none->¬ D.M b:=fun b e m=>D.okM hOk m e;have s12:Same H1 H2:=fun b u e=>kp b u (zo e hx) (by rw[zj (zo e hx),zj (zo e hdx)];exact e);have s2:Same H H2:=s0.trans s12;have s3:Same H (upd H2 wl (.lst [.ref x])):=s2.new hwl;have nra:ra≠x:=fun z=>by
  rw[z,zg]at hra;cases hra
 have nrd:ra≠dx:=fun z=>by
  rw[z,zj nxd,zg]at hra;cases hra
 have hra1:H1 ra=none:=by
  rw[zj nra,zj nrd]at hra;exact hra
 have hra0:H ra=none:=s0.free hra1;have hx0:H x=none:=s0.free hx;have nl0:l0≠ra:=zo hl0' hra1;have nwr:ra≠wl:=zo hra2 hwl;have nwx:x≠wl:=zo hx2 hwl;have nwl:l0≠wl:=zo (s12 _ _ hl0') hwl;have hwl0:H wl=none:=s2.free hwl;refine⟨WkV D cB fo wl v root H,
  ⟨_,[⟨x,dx,l0,ra,fo,none,[root],[]⟩],D.pre root,(fun b=>R0 b\/b=l0),none,none,none,none,rfl,rfl,.of s3,D.okk hOk (fun b u e _=>s3 b u e),zg,?_,?_,?_,.bot rfl,?_,?_,?_,?_,?_,⟨⟨rfl,rfl⟩,trivial⟩⟩,?_⟩
 ·rintro(z|z)
  ·exact hR0 _ z hwl0
  ·exact nwl z.symm
 ·intro e he
  rw[uE.mp he];refine⟨by rw[zj nwx];exact hx2,hM _ hx0,⟨[v],by rw[zj nwl];exact s12 _ _ hl0',.cons (D.itk hIT hOk (fun b u e _ _=>s3 b u e) fun b z=>.inl z) .nil⟩,.inr rfl,by rw[zj nwr];exact hra2,?_,hM _ hra0,uF _,.nil,rfl,rfl⟩;rintro(z|z)
  ·exact hR0 _ z hra0
  ·exact nl0 z.symm
 ·intro e he
  rw[uE.mp he];exact hra0
 ·rintro b (z|z)
  ·cases e:H b with
   |none=>exact absurd e (hR0 b z)
   |some u=>rw[s3 b u e];simp
  ·rw[z,zj nwl,s12 _ _ hl0'];simp
 ·rintro b (z|z)
  ·exact hRM0 b z
  ·rw[z];exact hM _ hl0
 ·show[wl,ra].Nodup
  simp[nwr.symm]
 ·unfold mall mlow
  simp
  lia
 ·intro e he
  rw[uE.mp he];show 1<=10000000
  decide
 rintro m σ Ha ⟨es,cur,R,y3,y4,y5,y6,rfl,rfl,kHa,okA,hwlA,nRw,hes,hra,lk,hRd,hRM,nd,hms,hln,stk⟩;refine(zf rfl (iteT ⟨_,fun _ _ h=>h,?_⟩));refine cutR (fun D_ rt_ fin=>?_) (fun _ _ h=>h);have hMA:∀b,Ha b=none->¬ D.M b:=fun b e m=>D.okM okA m e;have mwl:¬ D.M wl:=hM _ hwl0;cases es with
 |nil=>cases lk
 |cons e es =>
 have he:=hes e (.head _);have eo:=he.o;obtain⟨ws,hw,hIT'⟩:=he.w;have wlen:=hIT'.len;have els:((e::es).reverse.map fun e=>V.ref e.bo)=(es.reverse.map fun e=>V.ref e.bo)++[.ref e.bo]:=by simp
 rw[els]at hwlA;have elen:=WW D (e::es);rw[um]at elen;have dr:∀t,e.ts[e.rs.length]?=some t->e.ts.drop e.rs.length=t::e.ts.drop (e.rs.length+1):=fun t ht=>(List.drop_eq_getElem_cons (ue.mp ht).1).trans (by rw[(ue.mp ht).2]);refine(zf rfl (zf rfl ⟨wl,_,_,_,rfl,rfl,SqL.of hwlA,yV _ _,?_⟩));refine(zf rfl ⟨e.bo,cB,e.dx,_,_,rfl,eo,N.cl,N.b3,rfl,_,_,rfl,.inl (SqL.of he.r),(zf rfl ⟨e.bo,cB,e.dx,_,_,rfl,eo,N.cl,N.b1,rfl,_,_,rfl,.inl (SqL.of hw),(zv rfl rfl (zf rfl ?_))⟩)⟩);refine ite2 (fun c=>?_) (fun c=>?_)
 ·rw[decide_eq_true_eq]at c
  have c:e.rs.length < ws.length:=by lia
  obtain⟨t,ht,hIt⟩:=hIT'.get (ui c);obtain⟨sk1,sk2⟩:=stk;rw[dr t ht]at sk1;obtain⟨spre,sk3⟩:=sk1;refine vC rfl (fun R h=>(zf rfl ⟨e.bo,cB,e.dx,_,_,rfl,eo,N.cl,N.b1,rfl,(zf rfl ⟨e.bo,cB,e.dx,_,_,rfl,eo,N.cl,N.b3,rfl,_,_,rfl,.inl (SqL.of he.r),_,_,_,_,rfl,rfl,SqL.of hw,zN (ui c),h⟩)⟩)) (D.beg hIt (show D.Ok (D.pre t) Ha by rw[spre];exact okA) hRd hRM fun Hb pq l fl vs R' kB okB hq hl hlB sub sub' dom' Rl hks hfin=>?_);refine(zf rfl ⟨.inl ⟨rfl,_,SqL.of (kB _ _ mwl hwlA)⟩,(zf rfl (ixT hq aI0 (zf rfl (ixT hq aI1 (fun x' dx' hx' hdx' nxd'=>?_)))))⟩);refine⟨x',dx',l,fl,rfl,zg,fun Hc rb kp' hrb hrb2 hxc=>⟨rfl,?_⟩⟩;have sbc:Same Hb Hc:=fun b u e=>kp' b u (zo e hx') (by rw[zj (zo e hx'),zj (zo e hdx')];exact e);have nrx:rb≠x':=fun z=>by
   rw[z,zg]at hrb;cases hrb
  have nrd':rb≠dx':=fun z=>by
   rw[z,zj nxd',zg]at hrb;cases hrb
  have hrbB:Hb rb=none:=by
   rw[zj nrx,zj nrd']at hrb;exact hrb
  have okC:D.Ok (D.mid t) Hc:=D.okk okB fun b u e _=>sbc b u e;have hMB:∀b,Hb b=none->¬ D.M b:=fun b e m=>D.okM okB m e;have hwlC:Hc wl=some (.lst ((es.reverse.map fun e=>V.ref e.bo)++[.ref e.bo])):=sbc _ _ (kB _ _ mwl hwlA);refine⟨wl,(zv rfl rfl ⟨hwlC,by rw[ub,ua,u4];show es.length+1 < _;lia,?_⟩)⟩;have nR'w:¬ R' wl:=fun z=>by
   rcases sub' _ z with z|z
   ·exact nRw z
   ·rw[hwlA]at z;cases z
  have kzA:Kz D.M R Ha (upd Hc wl (.lst ((es.reverse.map fun e=>V.ref e.bo)++[.ref e.bo]++[.ref x']))):=fun b u q1 q2 q3=>by
   rw[zj]
   ·exact sbc _ _ (kB _ _ q2 q1)
   ·intro z
    rw[z,hwlA]at q1;cases q1;rw[z]at q3;exact nRw (q3 _ rfl)
  have kzB:Kz D.M R' Hb (upd Hc wl (.lst ((es.reverse.map fun e=>V.ref e.bo)++[.ref e.bo]++[.ref x']))):=fun b u q1 q2 q3=>by
   rw[zj]
   ·exact sbc _ _ q1
   ·intro z
    rw[z,kB _ _ mwl hwlA]at q1;cases q1;rw[z]at q3;exact nR'w (q3 _ rfl)
  have nx':x'≠wl:=zo (by exact kB _ _ mwl hwlA) hx' |>.symm
  have nrb:rb≠wl:=(zo (kB _ _ mwl hwlA) hrbB).symm;have nl:l≠wl:=fun z=>nR'w (z ▸ Rl);have nolds:∀e'∈e::es,Hc e'.ra=some (.lst e'.rs)/\e'.ra≠wl/\¬ R' e'.ra:=fun e' he'=>by
   have h':=hes e' he';refine⟨sbc _ _ (kB _ _ h'.nM h'.r),fun z=>?_,fun z=>?_⟩
   ·have:=(uM.mp nd).1
    exact this (z ▸ uD.mpr ⟨e',he',rfl⟩)
   ·rcases sub' _ z with z|z
    ·exact h'.nr z
    ·rw[h'.r]at z;cases z
  refine fin _ _ ⟨_,?_,⟨x',dx',l,rb,fl,some t,D.kids t,[]⟩ :: e::es,D.mid t,R',_,_,_,_,rfl,rfl,?_,D.okk okC ?_,?_,nR'w,?_,?_,.up lk rfl ht,?_,?_,?_,?_,?_,⟨D.chn t,sk3,sk2⟩⟩
  ·show 1+(((D.kids t).drop 0).map D.wt).sum+mlow D (e::es) < 1+((e.ts.drop e.rs.length).map D.wt).sum+mlow D es
   rw[dr t ht]
   have:=D.wk t
   rw[show mlow D (e::es)=1+((e.ts.drop (e.rs.length+1)).map D.wt).sum+mlow D es from rfl];simp only[List.drop_zero,ur,uS]
   lia
  ·exact((kHa.trans kB).trans (.of sbc)).put hwl0
  ·intro b u q1 q2
   rw[zj]
   ·exact q1
   ·intro z
    rw[z,hwlC]at q1;cases q1;rw[z]at q2;exact mwl (q2 _ rfl)
  ·rw[zg]
   simp
  ·intro e' he'
   rcases uq.mp he' with rfl|he'
   ·exact⟨by rw[zj nx'];exact hxc,hMB _ hx',⟨vs,by rw[zj nl];exact sbc _ _ hlB,hks.imp fun a b q=>D.itk q okB kzB fun _ z=>z⟩,Rl,by rw[zj nrb];exact hrb2,fun z=>dom' _ z hrbB,hMB _ hrbB,uF _,.nil,D.ifk hfin okB kzB fun _ z=>z,rfl⟩
   ·obtain⟨n1,n2,n3⟩:=nolds e' he'
    exact(hes e' he').keep okA kzA hRM sub (by rw[zj n2];exact n1) n3
  ·intro e' he'
   rcases uq.mp he' with rfl|he'
   ·exact(kHa.trans kB).free (hMB _ hrbB) hrbB
   ·exact hra e' he'
  ·intro b z
   by_cases hb:b=wl
   ·rw[hb,zg];simp
   ·rw[zj hb]
    cases q:Hb b with
    |none=>exact absurd q (dom' b z)
    |some u=>rw[sbc _ _ q];simp
  ·intro b z
   rcases sub' b z with z|z
   ·exact hRM b z
   ·exact hMA b z
  ·rw[ur,uM]at *
   refine⟨fun z=>?_,uM.mpr ⟨fun z=>?_,nd.2⟩⟩
   ·rcases uq.mp z with z|z
    ·exact nrb z.symm
    ·exact nd.1 z
   ·obtain⟨e',he',z⟩:=uD.mp z
    have:=kB _ _ (hes e' he').nM (hes e' he').r
    rw[z,hrbB]at this;cases this
  ·refine uC ?_ hms
   show 1+(((D.kids t).drop 0).map D.wt).sum+mlow D (e::es)<=1+((e.ts.drop e.rs.length).map D.wt).sum+mlow D es;rw[dr t ht]
   have:=D.wk t
   rw[show mlow D (e::es)=1+((e.ts.drop (e.rs.length+1)).map D.wt).sum+mlow D es from rfl];simp only[List.drop_zero,ur,uS]
   lia
  ·intro e' he'
   rcases uq.mp he' with rfl|he'
   ·have h1:=D.wk t
    have h2:D.wt t<=mall D (e::es):=by
     show _<=1+((e.ts.drop e.rs.length).map D.wt).sum+mlow D es;rw[dr t ht,ur,uS];lia
    have h3:=WX D (D.kids t);show(D.kids t).length<=10000000;lia
   ·exact hln e' he'
 ·have c:¬ e.rs.length < ws.length:=fun z=>c (decide_eq_true (by lia))
  have le:=he.le;have rr:=he.rr;obtain⟨sk1,sk2⟩:=stk;rw[List.drop_eq_nil_of_le (by lia)]at sk1;have sk1:cur=eEnd D root e:=sk1;rw[ux (by lia)]at rr;refine(zf rfl ⟨e.bo,cB,e.dx,_,_,rfl,eo,N.cl,N.b2,rfl,?_⟩);have pop:∀{Hb:Hp},Hb wl=some (.lst ((es.reverse.map fun e=>V.ref e.bo)++[.ref e.bo]))->∀{Q:VK},Q (.ref e.bo) (upd Hb wl (.lst (es.reverse.map fun e=>V.ref e.bo)))->rPop (.ref wl) [] Hb Q:=fun h Q q=>⟨wl,_,.ref e.bo,rfl,rfl,h,by simp,by rw[List.dropLast_concat];exact q⟩;cases htk:e.tk with
  |none =>
   have ecur:cur=D.post root:=by rw[sk1];unfold eEnd;rw[htk]
   subst ecur;have fin:=he.fin;rw[htk]at fin;obtain⟨e1,e2⟩:=fin;have es0:es=[]:=by
    cases lk with
    |bot _=>rfl
    |up _ q _=>rw[htk]at q;cases q
   subst es0;rw[e2]at rr;have hrs:=he.r;generalize e.rs=rs at *;cases rr with
   |cons hv hn =>
   cases hn;rw[e1];refine vC rfl (fun R h=>(zf rfl ⟨e.bo,cB,e.dx,_,_,rfl,eo,N.cl,N.b3,rfl,h⟩)) ⟨fdo,_,_,GO.mono (by lia),bO,⟨e.ra,_,[],rfl,hrs,?_⟩,.inr kO⟩;refine(zf rfl ⟨.inl ⟨rfl,_,SqL.of hwlA⟩,pop hwlA ?_⟩);refine(zf rfl ⟨_,_,rfl,.inl (SqL.of zg),rfl,(zf rfl (iteT (zf rfl ?_)))⟩);rw[rt_];refine q _ _ R (kHa.put hwl0) (D.okk okA fun b u q1 q2=>?_) hRM (D.irk hv okA (fun b u q1 q2 q3=>?_) fun _ z=>z)
   ·rw[zj]
    ·exact q1
    ·intro z
     rw[z,hwlA]at q1;cases q1;rw[z]at q2;exact mwl (q2 _ rfl)
   ·rw[zj]
    ·exact q1
    ·intro z
     rw[z,hwlA]at q1;cases q1;rw[z]at q3;exact nRw (q3 _ rfl)
  |some t =>
   have eE:eEnd D root e=D.post t:=by unfold eEnd;rw[htk]
   have ecur:cur=D.post t:=sk1.trans eE;subst ecur;rw[eE]at sk2;have fin:=he.fin;rw[htk]at fin;obtain⟨e1,e2⟩:=fin;rw[e2]at rr;cases lk with
   |bot q=>rw[htk]at q;cases q
   |@up _ e' es' t' lk' q ht' =>
   rw[htk]at q;cases q;have he':=hes e' (.tail _ (.head _));have ndA:=nd;rw[ur,ur,uM,uM,uM]at ndA;obtain⟨nd1,nd2,nd3,nd4⟩:=ndA;have nwe:e.ra≠wl:=fun z=>nd1 (z ▸ .head _);have nwe':e'.ra≠wl:=fun z=>nd1 (z ▸ .tail _ (.head _));have nee':e'.ra≠e.ra:=fun z=>nd2 (z ▸ .head _);have kzR:Kz D.M R Ha Ha:=fun b u q _ _=>q;refine vC rfl (fun R h=>(zf rfl ⟨e.bo,cB,e.dx,_,_,rfl,eo,N.cl,N.b3,rfl,h⟩)) (D.fin (R:=fun b=>R b\/b=e.ra) (D.ifk e1 okA kzR fun _ z=>.inl z) okA ?_ ?_ (.inr rfl) he.r (rr.imp fun a b q=>D.irk q okA kzR fun _ z=>.inl z) fun Hb rv R' kB okB sub sub' dom' hIR=>?_)
   ·rintro b (z|z)
    ·exact hRd b z
    ·rw[z,he.r];simp
   ·rintro b (z|z)
    ·exact hRM b z
    ·rw[z];exact he.nM
   have hwlB:=kB _ _ mwl hwlA;have heB:=kB _ _ he'.nM he'.r;have hoB:=kB _ _ he'.nb he'.o;have no':e'.bo≠wl:=xh hoB hwlB (by unfold BO;intro z;cases z);refine(zf rfl ⟨.inl ⟨rfl,_,SqL.of hwlB⟩,pop hwlB ?_⟩);have els':((e'::es').reverse.map fun e=>V.ref e.bo)=(es'.reverse.map fun e=>V.ref e.bo)++[.ref e'.bo]:=by simp
   rw[els'];refine(zf rfl ⟨_,_,rfl,.inl (SqL.of zg),rfl,(zf rfl (iteN ?_ ?_))⟩)
   ·rw[ub]
    exact decide_eq_false (by intro z;have:=V.int.inj z;simp at this;lia)
   refine(zf rfl (zf rfl ⟨wl,_,_,_,rfl,rfl,SqL.of zg,yV _ _,e'.bo,cB,e'.dx,_,.ref e'.ra,rfl,by rw[zj no'];exact hoB,N.cl,N.b3,rfl,.inl ⟨rfl,_,SqL.of (by rw[zj nwe'];exact heB)⟩,(zf rfl ⟨e'.ra,(zv rfl rfl ⟨by rw[zj nwe'];exact heB,?_,?_⟩)⟩)⟩))
   ·have:=(ue.mp ht').1
    have:=hln e' (.tail _ (.head _))
    lia
   have nR'w:¬ R' wl:=fun z=>by
    rcases sub' _ z with(z|z)|z
    ·exact nRw z
    ·exact nwe z.symm
    ·rw[hwlA]at z;cases z
   have nR':∀e1∈e'::es',¬ R' e1.ra:=fun e1 h1 z=>by
    rcases sub' _ z with(z|z)|z
    ·exact(hes e1 (.tail _ h1)).nr z
    ·exact nd2 (z ▸ uD.mpr ⟨e1,h1,rfl⟩)
    ·rw[(hes e1 (.tail _ h1)).r]at z;cases z
   have kzB:Kz D.M R' Hb (upd (upd Hb wl (.lst ((es'.reverse.map fun e=>V.ref e.bo)++[.ref e'.bo]))) e'.ra (.lst (e'.rs++[rv]))):=fun b u q1 q2 q3=>by
    have n1:b≠e'.ra:=fun z=>by
     rw[z,heB]at q1;cases q1;rw[z]at q3;exact nR' e' (.head _) (q3 _ rfl)
    have n2:b≠wl:=fun z=>by
     rw[z,hwlB]at q1;cases q1;rw[z]at q3;exact nR'w (q3 _ rfl)
    rw[zj n1,zj n2];exact q1
   have kzA:Kz D.M R Ha (upd (upd Hb wl (.lst ((es'.reverse.map fun e=>V.ref e.bo)++[.ref e'.bo]))) e'.ra (.lst (e'.rs++[rv]))):=fun b u q1 q2 q3=>kzB b u (kB _ _ q2 q1) q2 fun xs z=>sub _ (.inl (q3 xs z));have subR:∀b,R b->R' b:=fun b z=>sub _ (.inl z);refine fin _ _ ⟨_,?_,{ e' with rs:=e'.rs++[rv] } :: es',D.post t,R',_,_,_,_,rfl,rfl,((kHa.trans kB).put hwl0).put (hra e' (.tail _ (.head _))),D.okk okB ?_,?_,nR'w,?_,?_,?_,?_,?_,?_,?_,?_,?_⟩
   ·show 1+((e'.ts.drop (e'.rs++[rv]).length).map D.wt).sum+mlow D es' < 1+((e.ts.drop e.rs.length).map D.wt).sum+(1+((e'.ts.drop (e'.rs.length+1)).map D.wt).sum+mlow D es')
    rw[ub,Uj];lia
   ·intro b u q1 q2
    have n1:b≠e'.ra:=fun z=>by
     rw[z,heB]at q1;cases q1;rw[z]at q2;exact he'.nM (q2 _ rfl)
    have n2:b≠wl:=fun z=>by
     rw[z,hwlB]at q1;cases q1;rw[z]at q2;exact mwl (q2 _ rfl)
    rw[zj n1,zj n2];exact q1
   ·rw[zj nwe'.symm,zg]
    simp
   ·intro e1 h1
    rcases uq.mp h1 with rfl|h1
    ·obtain⟨o,nb,⟨ws',w1,w2⟩,Rw,r,nr',nM,le',rr',fin⟩:=he'
     refine⟨kzA _ _ o nb (by intro xs q;unfold BO at q;cases q),nb,⟨ws',kzA _ _ w1 (hRM _ Rw) (fun _ _=>Rw),w2.imp fun a b q=>D.itk q okA kzA subR⟩,subR _ Rw,zg,nR' e' (.head _),nM,?_,?_,?_⟩
     ·show(e'.rs++[rv]).length<=_
      rw[ub,Uj];exact(ue.mp ht').1
     ·show All2 _ (e'.ts.take (e'.rs++[rv]).length) (e'.rs++[rv])
      rw[ub,Uj,uI,ht'];exact(rr'.imp fun a b q=>D.irk q okA kzA subR).app (.cons (D.irk hIR okB kzB fun _ z=>z) .nil)
     ·show(match e'.tk with|none=>_|some t=>_)
      cases q:e'.tk with
      |none=>rw[q]at fin;exact fin
      |some t=>rw[q]at fin;exact⟨D.ifk fin.1 okA kzA subR,fin.2⟩
    ·have h1':=hes e1 (.tail _ (.tail _ h1))
     have m1:e1.ra≠e'.ra:=fun z=>nd3 (z ▸ uD.mpr ⟨e1,h1,rfl⟩);have m2:e1.ra≠wl:=fun z=>nd1 (z ▸ .tail _ (.tail _ (uD.mpr ⟨e1,h1,rfl⟩)));exact h1'.keep okA kzA hRM subR (by rw[zj m1,zj m2];exact kB _ _ h1'.nM h1'.r) (nR' e1 (.tail _ h1))
   ·intro e1 h1
    rcases uq.mp h1 with rfl|h1
    ·exact hra e' (.tail _ (.head _))
    ·exact hra e1 (.tail _ (.tail _ h1))
   ·cases lk' with
    |bot q=>exact .bot q
    |up a b c=>exact .up a b c
   ·intro b z
    have:=dom' b z
    unfold upd;split
    ·simp
    ·split
     ·simp
     ·exact this
   ·intro b z
    rcases sub' b z with(z|z)|z
    ·exact hRM b z
    ·rw[z];exact he.nM
    ·exact hMA b z
   ·exact uM.mpr ⟨fun z=>nd1 (.tail _ z),uM.mpr ⟨nd3,nd4⟩⟩
   ·refine uC ?_ hms
    show 1+((e'.ts.drop (e'.rs++[rv]).length).map D.wt).sum+mlow D es'<=1+((e.ts.drop e.rs.length).map D.wt).sum+(1+((e'.ts.drop (e'.rs.length+1)).map D.wt).sum+mlow D es');rw[ub,Uj];lia
   ·intro e1 h1
    rcases uq.mp h1 with rfl|h1
    ·exact hln e' (.tail _ (.head _))
    ·exact hln e1 (.tail _ (.tail _ h1))
   ·refine⟨?_,sk2.2⟩
    show Chn D.pre D.post (D.post t) (e'.ts.drop (e'.rs++[rv]).length) _;rw[ub,Uj];exact sk2.1
end
end GN
namespace GN
open PySem L2 K11
variable{u:HO}
def wq:Expr:=match zH x9 with
 |[_,_,_,_,.Return (some (.BinOp _ _ (.Tuple [_,.Subscript e _ _] _ _) _)) _]=>Zt e
 |_=>.Constant .none 0 ⟨0,0,0,0⟩
def Zu:Str:=("with_token":Str)++(".<locals>.":Str)++("<lambda>":Str)
def ls3:List (Pos×Str):=[(xH wq,Zu)]
def cl3(c1 c2:Addr):List (Str×Addr):=[("token",c1),("many",c2)]
abbrev vD(mg:Str->Option Value)(c1 c2 c:Addr)(ct:Value):FuncData:=lamC mg Zu (lmP wq) (lmB wq) (lmS wq) (cl3 c1 c2) c ct
theorem zbk:LamScope ["body","token","many"] ["body"] ["token","many"] (lmS wq):=⟨rfl,rfl,rfl,by decide +kernel,rfl,by decide +kernel,by decide +kernel,by decide +kernel,by decide +kernel⟩
inductive spLam3(mg:Str->Option Value)(T:Addr)(f:Addr)(fd:FuncData)(vs:List V)(H:Hp)(Q:VK)(e_3:XK):Prop
 |mk (p:Addr) (c1:Addr) (c2:Addr) (c:Addr) (ct:Value) (k:Str) (n:Nat):(∃b:Bd,vs=[.ref p]/\fd=vD mg c1 c2 c ct/\H f=some (FunO f fd)/\H c=some (CodO c Zu)/\Cel H c1 (.str k)/\Cel H c2 (.int (n:Nat))/\c1≠c2/\IsBd H b p/\b.sz<=1000000/\TbG T ls4 H/\PsW mg T k n b H Q)->spLam3 mg T f fd vs H Q e_3
section
variable{K:uc}
theorem JZ(GB:Ca P w K mg base CX0 3 "begun_ways" lS16 (spBegW mg T))(f c1 c2 c:Addr)(ct:Value):FnOk P w K mg base CX0 4 f (vD mg c1 c2 c ct) ["body"] (spLam3 mg T f (vD mg c1 c2 c ct)):=by
 refine wf (k:=3) zbk (fun vs H Q E h=>?_) (fun A outer s H vs Q E hr h=>?_)
 ·obtain⟨p,_,_,_,_,_,_,_,rfl,_⟩:=h
  rfl
 ·obtain⟨p,d1,d2,d0,ct',k,n,b,rfl,efd,hf,hc,h1,h2,n1,hb,hz,hT,q⟩:=h
  have ecl:cl3 c1 c2=cl3 d1 d2:=congrArg FuncData.closure efd;have ec:Value.ref c=Value.ref d0:=congrArg FuncData.code efd;cases ec;have e1:c1=d1:=by injection ecl with a b;exact(Prod.mk.inj a).2
  have e2:c2=d2:=by injection ecl with a b;injection b with a b;exact(Prod.mk.inj a).2
  subst e1;subst e2;have C:=clo2 (x:="token") (y:="many") (by decide) h1 h2 n1;refine⟨hf,hc,_,C,?_⟩;have hcA:∀a∈(cl3 c1 c2).map (·.2),∃v,Cel H a v:=fun a ha=>by
   obtain⟨p,hp,rfl⟩:=uD.mp ha;exact C.all p hp
  have tp:=yx hcA;refine⟨_,(cA GB hr (jA3 (jv 1) (jv 2) (jv 0))),?_⟩;refine(zf rfl (zf rfl (zf rfl ⟨k,n,p,b,rfl,hb.keep tp,hz,hT.keep (fun ps e=>zS hcA e (by intro _ _ _ z;cases z)) (fun c q e=>zS hcA e (by intro _ _ _ z;unfold CodO at z;cases z)),fun H' r l fl vs k1 T1 hr1 hl hl1 hk hfin hnn=>?_⟩)));have sp:Same H' (yW H' H ((cl3 c1 c2).map (·.2))):=fun b u e=>y0 hnn e;have out:∀{b:Addr}{u:HO},H' b=some u->z0 H ((cl3 c1 c2).map (·.2)) b=none->H b=none:=fun{b u} e n=>by
   rw[zT]at n
   ·exact n
   ·intro z;rw[hnn b z]at e;cases e
  refine q _ r l fl vs (fun b u n e=>?_) (T1.same sp) (sp _ _ hr1) (out hl1 hl) (sp _ _ hl1) (hk.keep (.of sp)) (hfin.keep (.of sp));by_cases z:b∈(cl3 c1 c2).map (·.2)
  ·rw[wd z];exact e
  ·rw[yr z]
   exact k1 b u n (by rw[zT z];exact e)
theorem J0(c1 c2 c:Addr)(ct:Value):Binds K (vD mg c1 c2 c ct) ["body"] []:=.all (us1 fun _=>rfl)
end
structure WOk(mg:Str->Option Value)(T fl c1 c2 cc:Addr)(ct:Value)(k:Str)(n:Nat)(H:Hp):Prop where
 t:TbG T ls4 H
 f:H fl=some (FunO fl (vD mg c1 c2 cc ct))
 c:H cc=some (CodO cc Zu)
 e1:Cel H c1 (.str k)
 e2:Cel H c2 (.int (n:Nat))
 ne:c1≠c2
section
variable{fl c2 cc:Addr}{k:Str}
theorem WOk.keep(h:WOk mg T fl c1 c2 cc ct k n H)(s:KN H H')(t:TbG T ls4 H'):WOk mg T fl c1 c2 cc ct k n H':=⟨t,s.fun h.f,s.cod h.c,s.cel h.e1,s.cel h.e2,h.ne⟩
theorem WOk.kz(h:WOk mg T fl c1 c2 cc ct k n H){R:Addr->Prop}(z:Kz (·=T) R H H'):KN H H':=fun b u e n1 n2 _=>z b u e (h.t.no e n1) fun xs q=>absurd q (n2 xs)
theorem WOk.km(h:WOk mg T fl c1 c2 cc ct k n H)(z:KM (·=T) H H'):KN H H':=fun b u e n1 _ _=>z b u (h.t.no e n1) e
end
theorem Zv{T:Type}:∀l:List T,Chn (fun _:T=>()) (fun _=>()) () l ()
 |[]=>rfl
 |_::l=>⟨rfl,Zv l⟩
theorem Y3(n:Nat)(b:Bd):bsz (wyK n b) < b.sz:=by
 unfold wyK;split
 ·exact b.sz_pos
 ·exact Vn b
theorem jP:∀{l:List Bd}{b:Bd},b∈l->b.sz<=bsz l
 |c::l,b,h=>by
  unfold bsz;rw[ur,uS];rcases uq.mp h with rfl|h
  ·lia
  ·have:=jP h
   unfold bsz at this;lia
theorem All2.memP{α β:Type}{F:α->β->Prop}{Pr:α->Prop}:∀{l:List α}{m:List β},All2 F l m->(∀a∈l,Pr a)->All2 (fun a b=>Pr a/\F a b) l m
 |_,_,.nil,_=>.nil
 |_,_,.cons a r,h=>.cons ⟨h _ (.head _),a⟩ (All2.memP r fun a ha=>h a (.tail _ ha))
section
variable{K:uc}
def zbl(GB:Ca P w K mg base CX0 3 "begun_ways" lS16 (spBegW mg T))(GJ:Ca P w K mg base CX0 2 "joined_ways" lS15 spJoin)(fl c1 c2 cc:Addr)(ct:Value)(k:Str)(n:Nat):WoD P w K mg base 4 where
 Tk:=Bd
 M:=fun b=>b=T
 fb:=fl
 wt:=fun b=>3*b.sz
 kids:=fun b=>wyK n b
 wk:=fun b=>by
  have h:=Y3 n b;have e:∀l:List Bd,(l.map fun b:Bd=>3*b.sz).sum=3*bsz l:=by
   intro l
   induction l with
   |nil=>rfl
   |cons p l ih =>
    unfold bsz at ih ⊢;rw[ur,ur,uS,uS,ih];lia
  rw[e];lia
 IT:=fun H _ b v=>b.sz<=1000000/\∃p,v=.ref p/\IsBd H b p
 IR:=fun H _ b v=>IsRW H k n b v
 IF:=fun H _ b v=>b.sz<=1000000/\∃f,v=.ref f/\FinW mg H k n b f
 S:=Unit
 pre:=fun _=>()
 mid:=fun _=>()
 post:=fun _=>()
 chn:=fun _=>Zv _
 Ok:=fun _ H=>WOk mg T fl c1 c2 cc ct k n H
 itk:=fun⟨h,p,e,hb⟩ ok z _=>⟨h,p,e,hb.keep (ok.kz z).tups⟩
 irk:=fun h ok z _=>h.keep (ok.kz z).tups
 ifk:=fun⟨h,f,e,hf⟩ ok z _=>⟨h,f,e,hf.keep (ok.kz z)⟩
 okk:=fun{H H' s} ok z=>ok.keep (fun b u e n1 n2 n3=>z b u e fun xs q=>absurd q (n2 xs)) (ok.t.keep (fun ps e=>z _ _ e (by intro _ q;cases q)) fun c q e=>z _ _ e (by intro _ q;unfold CodO at q;cases q))
 okM:=fun{H b s} ok z=>by
  obtain⟨ps,q,_⟩:=ok.t;rw[z,q];simp
 beg:=fun{H R t v Q}⟨hz,p,e,hb⟩ ok hRd hRM q=>by
  subst e;refine⟨_,_,_,JZ GB fl c1 c2 cc ct,J0 c1 c2 cc ct,⟨p,c1,c2,cc,ct,k,n,t,rfl,rfl,ok.f,ok.c,ok.e1,ok.e2,ok.ne,hb,hz,ok.t,fun H' r l f2 vs k1 t2 hr hl hl1 hk hfin=>?_⟩,.inl ok.f⟩;have ok':=ok.keep (ok.km k1) t2;refine q H' r l f2 vs (fun b=>R b\/b=l) k1 ok' hr hl hl1 (fun _ z=>.inl z) ?_ ?_ (.inr rfl) ?_ ⟨hz,f2,rfl,hfin⟩
  ·rintro b (z|rfl)
   ·exact .inl z
   ·exact .inr hl
  ·rintro b (z|rfl)
   ·cases e:H b with
    |none=>exact absurd e (hRd b z)
    |some u=>rw[k1 b u (fun y=>hRM b z y) e];simp
   ·rw[hl1];simp
  ·refine(All2.memP hk (Pr:=fun c:Bd=>c.sz<=1000000) fun a ha=>?_).imp fun a b h=>h
   have:=jP ha
   have:=Y3 n t
   lia
 fin:=fun{H R t f2 rl rs Q} hh ok hRd hRM hRr hrl hrs q=>by
  obtain⟨hz,f,e,hf⟩:=hh;cases e;have q':∀H' r,Same H H'->IsRW H' k n t (.ref r)->Q (.ref r) H':=fun H' r s1 h=>q H' (.ref r) R (.of s1) (ok.keep (.of s1) (ok.t.same s1)) (fun _ z=>z) (fun _ z=>.inl z) (fun b z=>by
   cases e:H b with
   |none=>exact absurd e (hRd b z)
   |some u=>rw[s1 b u e];simp) h
  rcases hf with⟨hL,hf⟩|⟨hL,hf⟩
  ·obtain⟨d1,d2,c,ct',p,pd,x,d,b',e,h1,h2,h3,h4,n1,h5,h6⟩:=hf
   subst e;exact⟨_,_,_,JU f2 d1 d2 c ct',JV d1 d2 c ct',⟨rl,d1,d2,c,p,pd,ct',k,n,x,d,b',rfl,rfl,h1,h2,h3,h4,n1,h5,h6,hL,q'⟩,.inl h1⟩
  ·obtain⟨d1,d2,c,ct',p,h1,h2,h3,h4,n1,h5⟩:=hf
   unfold wyK at hrs;rw[if_neg (by rw[hL];decide)]at hrs;exact⟨_,_,_,(JW GJ f2 d1 d2 c ct').mono (by decide),JX d1 d2 c ct',⟨rl,d1,d2,c,p,ct',k,n,t,rs,rfl,rfl,h1,h2,h3,h4,n1,h5,hz,hrl,hrs,hL,q'⟩,.inl h1⟩
end
def ArmR.tk(nx:Nat->Nat)(a:ArmR)(n:Nat):ArmR×Nat:=if armK a.m a.ns a.b then(⟨a.t,a.ns,a.m,tokS (nx n),a.b.wy (tokS (nx n)) a.ns.length⟩,nx n)else(a,n)
def MK(to T3 T4:Addr)(b:Addr):Prop:=b=to\/b=T3\/b=T4
structure TA3(cT T3 T4 to dx td:Addr)(tk:LS)(n:Nat)(H:Hp):Prop where
 k:TkA cT H to dx td tk n
 t3:TbG T3 ls3 H
 t4:TbG T4 ls4 H
inductive spWithT(cT T3 T4:Addr)(vs:List V)(H:Hp)(Q:VK)(e_3:XK):Prop
 |mk (to:Addr) (dx:Addr) (td:Addr) (pa:Addr) (tk:LS) (n:Nat):(∃a:ArmR,vs=[.ref to,.ref pa]/\IsAr H a pa/\a.b.sz<=1000000/\TA3 cT T3 T4 to dx td tk n H/\(a.tk (nxT tk) n).2<=LIMT/\∀H' r,KM (MK to T3 T4) H H'->TA3 cT T3 T4 to dx td tk (a.tk (nxT tk) n).2 H'->IsAr H' (a.tk (nxT tk) n).1 r->Q (.ref r) H')->spWithT cT T3 T4 vs H Q e_3
theorem TkA.same{tk:LS}(h:TkA cT H to dx td tk n)(s:Same H H'):TkA cT H' to dx td tk n:=⟨s _ _ h.o,s _ _ h.t⟩
theorem TA3.same{tk:LS}(h:TA3 cT T3 T4 to dx td tk n H)(s:Same H H'):TA3 cT T3 T4 to dx td tk n H':=⟨h.k.same s,h.t3.same s,h.t4.same s⟩
theorem TA3.nt{tk:LS}(h:TA3 cT T3 T4 to dx td tk n H)(e:H b=some u)(n1:∀ps,u≠.tbl ps)(n2:∀C dx fs,u≠.ins C dx fs):¬ MK to T3 T4 b:=by
 rintro(rfl|z|z)
 ·rw[h.k.o]at e
  exact n2 _ _ _ (u5.inj e).symm
 ·exact h.t3.no e n1 z
 ·exact h.t4.no e n1 z
theorem TA3.kn{tk:LS}(h:TA3 cT T3 T4 to dx td tk n H)(k:KM (MK to T3 T4) H H'):KN H H':=fun b u e n1 n2 n3=>k b u (h.nt e n1 n3) e
section
variable{K:uc}
theorem scWithT:FnScope ["tokens","arm","many","token"] ["tokens","arm"] (zp x9):=.ok
theorem J1:(["tokens","arm","many","token","body"]:LS).Nodup:=by decide +kernel
theorem Vs(F:FunC K "with_token" x9 c f fd)(N:Tn K cT)(hB:BMn mg base)(hc:Uh K c T3=true)(nT:T3≠T4)(GI:Ca P w K mg base CX0 3 "bodies_in" ["body"] spBIn)(GL:Ca P w K mg base CX0 1 "is_left" lS22 spIsL)(GN':Me P w K mg base CX0 2 cT "new_token" ["self"] (spNewT cT))(GB:Ca P w K mg base CX0 3 "begun_ways" lS16 (spBegW mg T4))(GJ:Ca P w K mg base CX0 2 "joined_ways" lS15 spJoin)(GW:Ca P w K mg base CX0 5 "worked_out" lS21 (spWorked P w K mg base 4))(m_len:mg "len"=none)(m_any:mg "any"=none):FnOk P w K mg base CX0 6 f fd ["tokens","arm"] (spWithT cT T3 T4):=by
 refine F.by scWithT (fun vs H Q E h=>?_) (fun A outer s H vs Q E hr h=>?_)
 ·obtain⟨to,dx,td,pa,tk,n,a,rfl,_⟩:=h
  rfl
 obtain⟨to,dx,td,pa,tk,n,a,rfl,ha,hz,hT,hlim,q⟩:=h;have hr1:Room 1 _:=hr.mono (by decide);have hr2:Room 2 _:=hr.mono (by decide);have hr3:Room 3 _:=hr.mono (by decide);refine⟨_,
  (zh (sE 2 scWithT.nd (jL m_len (xT 1)))
  (zh (zy (jW.pt (yt (tN wM (xT 1) zq) (yv (tN zD (jv 2) zn))))
   (zk (zt (jv 1))) zu)
  (zh (zy (yQ (ya (ym (wj rfl) rfl m_any PyProof.Rows.boot_any (jA1 (yo ["body"] rfl (zY (cA GI hr3 (jA1 (xT 1)))) (fun _ _ _ _ _=>(gN 4 J1)) (fun _ _ _ _ _=>zL) (fun _ _ _ _ _=>(cA GL hr1 (jA2 (jv 4) (jv 2)))))))))
   (zk (zt (jv 1))) zu)
  (zh (sE 3 scWithT.nd (Z8 (jv 0) N.cl GN' hr2 xR))
  (zk (zt (zw yy (zX yi (jv 1) yc (yd zn)) (zr (jA2 (jv 3) (yg yp (WT (E:=E0) GW hr scWithT.nd rfl (fun _=>rfl) (jA2 (xT 1) (we (params:=lmP wq) (body:=lmB wq) (scope:=lmS wq) (pos:=xH wq) (T:=T3) (qual:=Zu) (cl:=cl3 (s.heap.objs.size+2) (s.heap.objs.size+1)) hB rfl hc rfl))) zn (fun _ _=>rfl))))))))))),?_⟩
 have sl:=zJ;obtain⟨q1,sb,h1,h2,hb⟩:=id ha;have keep:armK a.m a.ns a.b=false->Q (.ref pa) H:=fun e=>q _ pa KM.refl (by unfold ArmR.tk;rw[if_neg (by rw[e];decide)];exact hT) (by unfold ArmR.tk;rw[if_neg (by rw[e];decide)];exact ha);refine(zf rfl (ixT h1 aI1 ⟨q1,(zf rfl ⟨.inr (SqT.of h2),?_⟩)⟩));rw[ua];refine(zf rfl (ixT h1 aI2 ⟨rfl,(zf rfl ?_)⟩));by_cases cm:¬ a.m="take"
 ·refine zR (show(!decide (V.str a.m=V.str "take"))=true by rw[decide_eq_false fun y=>cm (V.str.inj y)];rfl) (iteT (zf rfl (keep ?_)))
  unfold armK;rw[decide_eq_false cm]
  rfl
 replace cm:a.m="take":=Decidable.not_not.mp cm
 refine iteE (show(!decide (V.str a.m=V.str "take"))=false by rw[decide_eq_true (congrArg V.str cm)];rfl) ?_;refine(zf rfl ⟨rfl,(zf rfl ?_)⟩);by_cases c0:a.ns.length=0
 ·refine zR (decide_eq_true (by rw[c0];rfl)) (zf rfl (keep ?_))
  unfold armK;rw[c0];simp
 refine iteE (decide_eq_false fun y=>c0 (by have:=V.int.inj y;lia)) (nxtC ?_);refine(zf rfl (ixT h1 aI4 ⟨sb,a.b,rfl,hb,hz,fun H1 l rs s1 hl hrs lrs=>?_⟩));have ll:=All2.len hrs;refine⟨l,rfl,⟨_,SqL.of hl⟩,yF (xs:=rs.map V.ref) (fun j τ ys H'=>H1=H'/\(∃v,τ=[oR to,oR pa,some (.int (a.ns.length:Nat)),none,v])/\ys=((a.b.all.take j).map (Bd.isL a.ns.length)).map V.bl) ⟨rfl,⟨none,rfl⟩,rfl⟩ (fun j τ ys H' _ h=>SqL.of (h.1 ▸ hl)) ?_ ?_⟩
 ·rintro j v τ ys H2 hv ⟨rfl,⟨v',rfl⟩,rfl⟩
  obtain⟨r,hr',rfl⟩:=L2.gM hv;obtain⟨b,hb',hB'⟩:=All2.get hrs hr';have hj:=(ue.mp hb').1;refine(zf rfl (zf rfl ⟨r,b,a.ns.length,rfl,hB',by rw[ua,ua,uH];lia,rfl,⟨_,rfl⟩,?_⟩));rw[uI,hb'];simp
 rintro τ ys H2 ⟨rfl,_,rfl⟩ l1 f1;rw[ua,<- ll,ux (ud _)];have s2:=s1.new (o:=.lst ((a.b.all.map (Bd.isL a.ns.length)).map V.bl)) f1;refine⟨l1,a.b.all.map (Bd.isL a.ns.length),rfl,SqL.of zg,(zf rfl ?_)⟩;have ea:(a.b.all.map (Bd.isL a.ns.length)).any _root_.id=a.b.hasL a.ns.length:=by rw[<- Bd.all_any,List.any_map];rfl
 rw[ea];generalize upd H1 l1 (.lst ((a.b.all.map (Bd.isL a.ns.length)).map V.bl))=H2 at *;cases hh:a.b.hasL a.ns.length with
 |false =>
  have e:armK a.m a.ns a.b=false:=by unfold armK;rw[hh];simp
  refine iteT (zf rfl (q _ pa (.of s2) ?_ ?_))
  ·unfold ArmR.tk;rw[if_neg (by rw[e];decide)];exact hT.same s2
  ·unfold ArmR.tk;rw[if_neg (by rw[e];decide)];exact ha.keep (.of s2)
 |true =>
 have e:armK a.m a.ns a.b=true:=by unfold armK;rw[hh,decide_eq_true cm,decide_eq_true c0];rfl
 have et:a.tk (nxT tk) n=(⟨a.t,a.ns,a.m,tokS (nxT tk n),a.b.wy (tokS (nxT tk n)) a.ns.length⟩,nxT tk n):=by unfold ArmR.tk;rw[if_pos e]
 rw[et]at hlim q;refine iteF (nxtC ?_);have T2:=hT.same s2;refine(zf rfl ⟨to,dx,(zf rfl ⟨T2.k.o,rfl,to,dx,td,tk,n,rfl,T2.k,hlim,fun H3 k3 K3=>?_⟩)⟩);have no3:∀{b:Addr}{u:HO},H2 b=some u->(∀C dx fs,u≠.ins C dx fs)->b≠to:=fun{b u} e n z=>by
  rw[z,T2.k.o]at e;exact n _ _ _ (u5.inj e).symm
 have n3:KN H2 H3:=fun b u e _ _ n=>k3 b u (no3 e n) e;have t33:TbG T3 ls3 H3:=T2.t3.keep (fun ps e=>k3 _ _ (no3 e (by intro _ _ _ z;cases z)) e) fun c q e=>n3.cod e;have t43:TbG T4 ls4 H3:=T2.t4.keep (fun ps e=>k3 _ _ (no3 e (by intro _ _ _ z;cases z)) e) fun c q e=>n3.cod e;have k03:KM (MK to T3 T4) H H3:=fun b u nb e=>k3 b u (fun z=>nb (.inl z)) (s2 _ _ e);have t03:Tups H H3:=(Tups.of s2).trans n3.tups;clear T2 k3 n3 no3;generalize hk:tokS (nxT tk n)=k at *;refine(zf rfl ⟨3,rfl,pa,(zf rfl ⟨t03 _ _ h1,fun p3 H4 s4 h3=>(zf rfl ?_)⟩)⟩);have s4:Same H3 H4:=s4;have t34:=t33.same s4;have t44:=t43.same s4;have K4:=K3.same s4;refine(zf rfl (ixT (s4 _ _ (t03 _ _ h1)) aI4 (yX t34 (by unfold ls3;exact .head _) (fun p hp _=>by unfold ls3 at hp;rw[uE.mp hp]) fun H5 fl cc ct k5 t35 hfl nfT ncT hfl5 hcc=>?_)));have no5:∀{b:Addr}{u:HO},H4 b=some u->(∀ps,u≠.tbl ps)->b≠T3:=fun e n=>t34.no e n;have n5:KN H4 H5:=fun b u e n _ _=>k5 b u (no5 e n) e;have t45:TbG T4 ls4 H5:=t44.keep (fun ps e=>k5 _ _ nT.symm e) fun c q e=>n5.cod e;have K5:TkA cT H5 to dx td tk (nxT tk n):=⟨k5 _ _ (no5 K4.o (by intro _ z;cases z)) K4.o,k5 _ _ (no5 K4.t (by intro _ z;cases z)) K4.t⟩;refine⟨[(s.heap.objs.size+2,.str k),(s.heap.objs.size+1,.int (a.ns.length:Nat))],fun x hx=>?_,fun H6 pb=>?_⟩
 ·simp only[uq,Ui,or_false]at hx
  rcases hx with rfl|rfl
  ·exact⟨3,"token",rfl,rfl,rfl,.inl rfl⟩
  ·exact⟨2,"many",rfl,rfl,rfl,.inl rfl⟩
 have s6:=Pub.same pb;have ok6:WOk mg T4 fl (s.heap.objs.size+2) (s.heap.objs.size+1) cc ct k a.ns.length H6:=⟨t45.same s6,s6 _ _ hfl5,s6 _ _ hcc,pb.cel (_,_) (.head _),pb.cel (_,_) (.tail _ (.head _)),by simp⟩;have t06:Tups H H6:=((t03.trans (.of s4)).trans n5.tups).trans (.of s6);refine⟨zbl GB GJ fl (s.heap.objs.size+2) (s.heap.objs.size+1) cc ct k a.ns.length,.ref sb,a.b,fun _=>False,rfl,⟨hz,sb,rfl,hb.keep t06⟩,ok6,fun _ z=>z.elim,fun _ z=>z.elim,?_,.inl ⟨⟨_,ok6.f⟩,ok6.t.no ok6.f (by intro _ z;unfold FunO at z;cases z)⟩,fun H7 v R' k7 ok7 _ hv hcel=>?_⟩
 ·show 3*a.b.sz<=10000000
  lia
 have hcA:∀x∈([(s.heap.objs.size+2,V.str k),(s.heap.objs.size+1,V.int (a.ns.length:Nat))]:List (Addr×V)).map (·.1),∃v,Cel H7 x v:=fun x hx=>by
  obtain⟨y,hy,rfl⟩:=uD.mp hx;exact⟨_,hcel y hy⟩
 obtain⟨q7,p7,rfl,g1,g2⟩:=hv;have tm:=yx hcA;have k57:KM (·=T4) H5 (z0 H7 (([(s.heap.objs.size+2,V.str k),(s.heap.objs.size+1,V.int (a.ns.length:Nat))]:List (Addr×V)).map (·.1))):=fun b u nb e=>by
  rw[zT]
  ·exact k7 b u nb (s6 _ _ e)
  ·intro z
   obtain⟨x,hx,rfl⟩:=uD.mp z;rw[pb.non x hx]at e;cases e
 have t47:TbG T4 ls4 (z0 H7 (([(s.heap.objs.size+2,V.str k),(s.heap.objs.size+1,V.int (a.ns.length:Nat))]:List (Addr×V)).map (·.1))):=ok7.t.keep (fun ps e=>zS hcA e (by intro _ _ _ z;cases z)) fun c q e=>zS hcA e (by intro _ _ _ z;unfold CodO at z;cases z);have g1:=tm _ _ g1;have g2:=g2.keep tm;generalize z0 H7 (([(s.heap.objs.size+2,V.str k),(s.heap.objs.size+1,V.int (a.ns.length:Nat))]:List (Addr×V)).map (·.1))=H8 at *;have no8:∀{b:Addr}{u:HO},H5 b=some u->(∀ps,u≠.tbl ps)->b≠T4:=fun e n=>t45.no e n;have K8:TkA cT H8 to dx td tk (nxT tk n):=⟨k57 _ _ (no8 K5.o (by intro _ z;cases z)) K5.o,k57 _ _ (no8 K5.t (by intro _ z;cases z)) K5.t⟩;have n8:KN H5 H8:=fun b u e n _ _=>k57 b u (no8 e n) e;have t38:TbG T3 ls3 H8:=t35.keep (fun ps e=>k57 _ _ nT e) fun c q e=>n8.cod e;have k08:KM (MK to T3 T4) H H8:=fun b u nb e=>k57 b u (fun z=>nb (.inr (.inr z))) (k5 b u (fun z=>nb (.inr (.inl z))) (s4 _ _ (k03 b u nb e)));have t08:Tups H H8:=((t03.trans (.of s4)).trans n5.tups).trans n8.tups;have h38:=n8.tups _ _ (n5.tups _ _ h3);refine ixT g1 aI0 ⟨sN2,fun t9 f9=>?_⟩;refine⟨p3,t9,[.str a.t,.ref q1,.str a.m],(zf rfl ⟨rfl,SqT.of (old f9 h38),SqT.of zg,(by intro z;cases z),sN5,(fun e=>by simp at e),fun _ r fr=>?_⟩)⟩;have s9:Same H8 (upd (upd H8 t9 (.tup [.str k,.ref p7])) r (.tup ([.str a.t,.ref q1,.str a.m]++[.str k,.ref p7]))):=(zi f9 _).new fr;exact q _ r (k08.trans (.of s9)) ⟨K8.same s9,t38.same s9,t47.same s9⟩ ⟨q1,p7,zg,s9 _ _ (t08 _ _ h2),g2.keep (.of s9)⟩
mutual
theorem Bd.wy_sz{k:Str}{n:Nat}:∀b:Bd,b.sz<=(b.wy k n).sz
 |.give x=>by rw[Bd.wy];lia
 |.lt x d b=>by
  have:=Bd.wy_sz (k:=k) (n:=n) b
  rw[Bd.wy];split
  ·rw[Bd.sz,Bd.sz];lia
  ·rw[Bd.sz,Bd.sz];lia
 |.hold x y b=>by have:=Bd.wy_sz (k:=k) (n:=n) b;rw[Bd.wy,Bd.sz,Bd.sz];lia
 |.drop x b=>by have:=Bd.wy_sz (k:=k) (n:=n) b;rw[Bd.wy,Bd.sz,Bd.sz];lia
 |.loose x b=>by have:=Bd.wy_sz (k:=k) (n:=n) b;rw[Bd.wy,Bd.sz,Bd.sz];lia
 |.iff x b c=>by
  have h1:=Bd.wy_sz (k:=k) (n:=n) b;have h2:=Bd.wy_sz (k:=k) (n:=n) c;have l:∀z:Bd,(Bd.loose k z).sz=z.sz+1:=fun z=>by rw[Bd.sz]
  rw[Bd.wy];split
  ·rw[Bd.sz,Bd.sz]
   split<;>split<;>(try rw[l])<;>(try rw[l])<;>lia
  ·lia
 |.cs x as=>by
  have:=Arms.wy_sz (k:=k) (n:=n) as
  rw[Bd.wy];split
  ·rw[Bd.sz,Bd.sz];lia
  ·lia
theorem Arms.wy_sz{k:Str}{n:Nat}:∀as:Arms,as.sz<=(as.wy k n).sz
 |.nil=>by rw[Arms.wy];lia
 |.cons t ns m k' b r=>by
  have h1:=Bd.wy_sz (k:=k) (n:=n) b;have h2:=Arms.wy_sz (k:=k) (n:=n) r;rw[Arms.wy,Arms.sz,Arms.sz];split
  ·lia
  ·rw[Bd.sz];lia
end
mutual
theorem Bd.wy_sz2{k:Str}{n:Nat}:∀b:Bd,(b.wy k n).sz+1<=2*b.sz
 |.give x=>by rw[Bd.wy,Bd.sz];lia
 |.lt x d b=>by
  have:=Bd.wy_sz2 (k:=k) (n:=n) b
  have:=b.sz_pos
  rw[Bd.wy];split
  ·rw[Bd.sz,Bd.sz];lia
  ·rw[Bd.sz,Bd.sz];lia
 |.hold x y b=>by have:=Bd.wy_sz2 (k:=k) (n:=n) b;rw[Bd.wy,Bd.sz,Bd.sz];lia
 |.drop x b=>by have:=Bd.wy_sz2 (k:=k) (n:=n) b;rw[Bd.wy,Bd.sz,Bd.sz];lia
 |.loose x b=>by have:=Bd.wy_sz2 (k:=k) (n:=n) b;rw[Bd.wy,Bd.sz,Bd.sz];lia
 |.iff x b c=>by
  have h1:=Bd.wy_sz2 (k:=k) (n:=n) b;have h2:=Bd.wy_sz2 (k:=k) (n:=n) c
  have:=b.sz_pos
  have:=c.sz_pos
  have l:∀z:Bd,(Bd.loose k z).sz=z.sz+1:=fun z=>by rw[Bd.sz]
  rw[Bd.wy];split
  ·rw[Bd.sz,Bd.sz]
   split<;>split<;>(try rw[l])<;>(try rw[l])<;>lia
  ·rw[Bd.sz];lia
 |.cs x as=>by
  have:=Arms.wy_sz2 (k:=k) (n:=n) as
  rw[Bd.wy];split
  ·rw[Bd.sz,Bd.sz];lia
  ·rw[Bd.sz];lia
theorem Arms.wy_sz2{k:Str}{n:Nat}:∀as:Arms,(as.wy k n).sz<=2*as.sz
 |.nil=>by rw[Arms.wy,Arms.sz];lia
 |.cons t ns m k' b r=>by
  have h1:=Bd.wy_sz2 (k:=k) (n:=n) b;have h2:=Arms.wy_sz2 (k:=k) (n:=n) r
  have:=b.sz_pos
  rw[Arms.wy,Arms.sz,Arms.sz];split
  ·lia
  ·rw[Bd.sz];lia
end
section
theorem Y4:∀(as:Arms)(n:Nat),as.sz<=(as.tk nx n).1.sz/\(as.tk nx n).1.sz<=2*as.sz
 |.nil,n=>by unfold Arms.tk;show Arms.nil.sz<=Arms.nil.sz/\Arms.nil.sz<=_;lia
 |.cons t ns m k b r,n=>by
  unfold Arms.tk;have h:=Bd.wy_sz (k:=tokS (nx n)) (n:=ns.length) b;have h':=Bd.wy_sz2 (k:=tokS (nx n)) (n:=ns.length) b;have h1:=Y4 r (nx n);have h2:=Y4 r n;split
  ·show _<=(Arms.cons t ns m (tokS (nx n)) (b.wy (tokS (nx n)) ns.length) (r.tk nx (nx n)).1).sz/\(Arms.cons t ns m (tokS (nx n)) (b.wy (tokS (nx n)) ns.length) (r.tk nx (nx n)).1).sz<=_
   rw[Arms.sz,Arms.sz];lia
  ·show _<=(Arms.cons t ns m k b (r.tk nx n).1).sz/\(Arms.cons t ns m k b (r.tk nx n).1).sz<=_
   rw[Arms.sz,Arms.sz];lia
theorem Vt(b:Bd)(n:Nat):b.sz<=(b.chg nx n).1.sz:=by
 cases b with
 |cs x as =>
  show _<=(Bd.cs x (as.tk nx n).1).sz
  have:=(Y4 (nx:=nx) as n).1
  rw[Bd.sz,Bd.sz];lia
 |_=>exact ud _
theorem Zw:∀{as:Arms}{l:List Bd},All2 (fun b c:Bd=>b.sz<=c.sz) as.bs l->as.sz<=(as.wb l).sz
 |.nil,l,h=>by unfold Arms.bs at h;cases h;exact ud _
 |.cons t ns m k b r,l,h=>by
  unfold Arms.bs at h;cases h with
  |cons h1 h2=>have:=Zw h2;unfold Arms.wb;rw[Arms.sz,Arms.sz];lia
theorem Zx{b:Bd}{l:List Bd}(h:All2 (fun b c:Bd=>b.sz<=c.sz) b.kd l):b.sz<=(b.wb l).sz:=by
 cases b with
 |give x=>exact ud _
 |cs x as=>have:=Zw (as:=as) h;unfold Bd.wb;rw[Bd.sz,Bd.sz];lia
 |iff x b c =>
  cases h with
  |cons h1 h=>cases h with
   |cons h2 h=>cases h;show _<=(Bd.iff _ _ _).sz;rw[Bd.sz,Bd.sz];lia
 |lt x d b=>cases h with
  |cons h1 h=>cases h;show _<=(Bd.lt _ _ _).sz;rw[Bd.sz,Bd.sz];lia
 |hold x d b=>cases h with
  |cons h1 h=>cases h;show _<=(Bd.hold _ _ _).sz;rw[Bd.sz,Bd.sz];lia
 |drop x b=>cases h with
  |cons h1 h=>cases h;show _<=(Bd.drop _ _).sz;rw[Bd.sz,Bd.sz];lia
 |loose x b=>cases h with
  |cons h1 h=>cases h;show _<=(Bd.loose _ _).sz;rw[Bd.sz,Bd.sz];lia
theorem jQ{g:Bd->Nat->Bd×Nat}(hg:∀b n,b.sz<=(g b n).1.sz):∀(l:List Bd)(n:Nat),All2 (fun b c:Bd=>b.sz<=c.sz) l (mapL g l n).1
 |[],_=>.nil
 |b::l,n=>by unfold mapL;exact .cons (hg b n) (jQ hg l _)
theorem Q2:∀(f:Nat)(b:Bd)(n:Nat),b.sz<=(AB nx f b n).1.sz
 |0,b,n=>ud _
 |f+1,b,n=>by
  have h1:=Vt (nx:=nx) b n;have h2:=Zx (b:=(b.chg nx n).1) (jQ (g:=AB nx f) (Q2 f) (b.chg nx n).1.kd (b.chg nx n).2);show _<=((b.chg nx n).1.wb (mapL (AB nx f) (b.chg nx n).1.kd (b.chg nx n).2).1).sz;lia
variable(hnx:∀n,n < nx n)
include hnx
theorem tk_n:∀(as:Arms)(n:Nat),n<=(as.tk nx n).2
 |.nil,n=>ud _
 |.cons t ns m k b r,n=>by
  unfold Arms.tk
  have:=hnx n
  have h1:=tk_n r (nx n);have h2:=tk_n r n;split
  ·show n<=(r.tk nx (nx n)).2;lia
  ·exact h2
theorem zb2(b:Bd)(n:Nat):n<=(b.chg nx n).2:=by
 cases b with
 |cs x as=>exact tk_n hnx as n
 |_=>exact ud _
theorem xO{g:Bd->Nat->Bd×Nat}(hg:∀b n,n<=(g b n).2):∀(l:List Bd)(n:Nat),n<=(mapL g l n).2
 |[],n=>ud _
 |b::l,n=>by
  unfold mapL;have h1:=hg b n;have h2:=xO hg l (g b n).2;show n<=(mapL g l (g b n).2).2;lia
theorem AB_n:∀(f:Nat)(b:Bd)(n:Nat),n<=(AB nx f b n).2
 |0,b,n=>ud _
 |f+1,b,n=>by
  have h1:=zb2 hnx b n;have h2:=xO hnx (AB_n f) (b.chg nx n).1.kd (b.chg nx n).2;show n<=(mapL (AB nx f) (b.chg nx n).1.kd (b.chg nx n).2).2;lia
theorem Zy{f:Nat}:∀(l:List Bd)(n:Nat),∀t∈ksL nx f l n,t.post nx<=(mapL (AB nx f) l n).2
 |[],_,t,h=>by cases h
 |b::l,n,t,h=>by
  unfold ksL at h;unfold mapL;rcases uq.mp h with rfl|h
  ·exact xO hnx (AB_n hnx f) l _
  ·exact Zy l _ t h
omit hnx
structure TOk(nx:Nat->Nat)(t:ATk):Prop where
 m:t.b.mu<=t.f
 z:(t.res nx).sz<=1000000
 p:t.post nx<=LIMT
theorem Bd.mu_pos(b:Bd):0 < b.mu:=by cases b<;>rw[Bd.mu]<;>lia
theorem J2{f:Nat}{l:List Bd}{t:ATk}(h:t∈ksL nx f l n):t.b∈l:=by
 have:t.b∈(ksL nx f l n).map (·.b):=uD.mpr ⟨t,h,rfl⟩
 rwa [Vh]at this
include hnx in
theorem TOk.kid{f:Nat}{b:Bd}(h:TOk nx ⟨f+1,n,b⟩){t:ATk}(ht:t∈ksL nx f (b.chg nx n).1.kd (b.chg nx n).2):TOk nx t:=by
 have h1:=Yo (J2 ht);have h2:=Q0 _ _ t ht;refine⟨?_,?_,uC (Zy hnx _ _ t ht) h.p⟩
 ·have:=h.m
  have:b.mu<=f+1:=this
  lia
 ·have hz:((b.chg nx n).1.wb (mapL (AB nx f) (b.chg nx n).1.kd (b.chg nx n).2).1).sz<=1000000:=h.z
  have h3:=QX (b:=(b.chg nx n).1) (l:=(mapL (AB nx f) (b.chg nx n).1.kd (b.chg nx n).2).1) (xu _ _);rw[<- wm]at h3 hz;have h4:(t.res nx).sz<=bsz ((ksL nx f (b.chg nx n).1.kd (b.chg nx n).2).map (ATk.res nx)):=jP (uD.mpr ⟨t,ht,rfl⟩);unfold bsz at h4;lia
theorem TOk.chg{f:Nat}{b:Bd}(h:TOk nx ⟨f+1,n,b⟩):(b.chg nx n).1.sz<=1000000:=by
 have hz:((b.chg nx n).1.wb (mapL (AB nx f) (b.chg nx n).1.kd (b.chg nx n).2).1).sz<=1000000:=h.z;have h2:=Zx (b:=(b.chg nx n).1) (jQ (g:=AB nx f) (Q2 f) (b.chg nx n).1.kd (b.chg nx n).2);lia
include hnx in
theorem TOk.mid{f:Nat}{b:Bd}(h:TOk nx ⟨f+1,n,b⟩):(b.chg nx n).2<=LIMT:=uC (xO hnx (AB_n hnx f) (b.chg nx n).1.kd (b.chg nx n).2) h.p
def tkL(nx:Nat->Nat):List ArmR->Nat->List ArmR×Nat
 |[],n=>([],n)
 |a::l,n=>((a.tk nx n).1::(tkL nx l (a.tk nx n).2).1,(tkL nx l (a.tk nx n).2).2)
theorem Zz:∀(as:Arms)(n:Nat),(as.tk nx n).1.l=(tkL nx as.l n).1/\(as.tk nx n).2=(tkL nx as.l n).2
 |.nil,n=>⟨rfl,rfl⟩
 |.cons t ns m k b r,n=>by
  unfold Arms.tk;show _=(tkL nx (⟨t,ns,m,k,b⟩ :: r.l) n).1/\_=(tkL nx (⟨t,ns,m,k,b⟩ :: r.l) n).2;unfold tkL ArmR.tk;by_cases c:armK m ns b=true
  ·rw[if_pos c,if_pos c]
   obtain⟨h1,h2⟩:=Zz r (nx n);exact⟨by show _::(r.tk nx (nx n)).1.l=_;rw[h1],h2⟩
  ·rw[if_neg c,if_neg c]
   obtain⟨h1,h2⟩:=Zz r n;exact⟨by show _::(r.tk nx n).1.l=_;rw[h1],h2⟩
theorem ZA:∀(l:List ArmR)(a:ArmR)(n:Nat),tkL nx (l++[a]) n=((tkL nx l n).1++[(a.tk nx (tkL nx l n).2).1],(a.tk nx (tkL nx l n).2).2)
 |[],a,n=>rfl
 |x::l,a,n=>by
  show((x.tk nx n).1::(tkL nx (l++[a]) (x.tk nx n).2).1,(tkL nx (l++[a]) (x.tk nx n).2).2)=_;rw[ZA l]
  rfl
include hnx in
theorem J3(a:ArmR)(n:Nat):n<=(a.tk nx n).2:=by
 unfold ArmR.tk
 have:=hnx n
 split
 ·show n<=nx n;lia
 ·exact ud _
include hnx in
theorem Q3:∀(l:List ArmR)(n:Nat),n<=(tkL nx l n).2
 |[],n=>ud _
 |a::l,n=>by
  have h1:=J3 hnx a n;have h2:=Q3 l (a.tk nx n).2;show n<=(tkL nx l (a.tk nx n).2).2;lia
include hnx in
theorem ZB:∀(l:List ArmR)(j n:Nat),(tkL nx (l.take j) n).2<=(tkL nx l n).2
 |[],j,n=>by rw[List.take_nil];exact ud _
 |a::l,0,n=>Q3 hnx (a::l) n
 |a::l,j+1,n=>ZB l j (a.tk nx n).2
end
def wr:Expr:=match zH wU with
 |[_,_,.Return (some e) _]=>Zt e
 |_=>.Constant .none 0 ⟨0,0,0,0⟩
def ZC:Str:=("begun_tokens":Str)++(".<locals>.":Str)++("<lambda>":Str)
def ls2:List (Pos×Str):=[(xH wr,ZC)]
def cl2(c1:Addr):List (Str×Addr):=[("changed",c1)]
abbrev vE(mg:Str->Option Value)(c1 c:Addr)(ct:Value):FuncData:=lamC mg ZC (lmP wr) (lmB wr) (lmS wr) (cl2 c1) c ct
theorem zbm:LamScope ["results","changed"] ["results"] ["changed"] (lmS wr):=⟨rfl,rfl,rfl,by decide +kernel,rfl,by decide +kernel,by decide +kernel,by decide +kernel,by decide +kernel⟩
theorem clo1{v1:V}(h1:Cel H c1 v1):Clo H [(x,c1)] [x] [v1] :=
 Y2 (cl:=[(x,c1)]) (by simp) (by simp) rfl fun i p v e1 e2=>by
  match i,e1,e2 with
  |0,e1,e2=>cases e1;cases e2;exact h1
  |i+1,e1,_=>simp at e1
def Clo2(mg:Str->Option Value)(H:Hp)(b:Bd)(f:Addr):Prop:=∃c1 c ct p,H f=some (FunO f (vE mg c1 c ct))/\H c=some (CodO c ZC)/\Cel H c1 (.ref p)/\IsBd H b p
theorem Clo2.keep{b:Bd}(h:Clo2 mg H b f)(s:KN H H'):Clo2 mg H' b f:=by
 obtain⟨c1,c,ct,p,h1,h2,h3,h4⟩:=h;exact⟨c1,c,ct,p,s.fun h1,s.cod h2,s.cel h3,h4.keep s.tups⟩
inductive spLam2(mg:Str->Option Value)(f:Addr)(fd:FuncData)(vs:List V)(H:Hp)(Q:VK)(e_3:XK):Prop
 |mk (rl:Addr) (c1:Addr) (c:Addr) (p:Addr) (ct:Value) (b:Bd) (ps:List Addr):(∃cs:List Bd,vs=[.ref rl]/\fd=vE mg c1 c ct/\H f=some (FunO f fd)/\H c=some (CodO c ZC)/\Cel H c1 (.ref p)/\IsBd H b p/\b.sz<=1000000/\H rl=some (.lst (ps.map V.ref))/\IsBs H cs ps/\cs.length=b.kd.length/\∀H' r,Same H H'->IsBd H' (b.wb cs) r->Q (.ref r) H')->spLam2 mg f fd vs H Q e_3
def MK4(to T2 T3 T4:Addr)(b:Addr):Prop:=b=to\/b=T2\/b=T3\/b=T4
structure TA4(cT T2 T3 T4 to dx td:Addr)(tk:LS)(n:Nat)(H:Hp):Prop where
 k:TkA cT H to dx td tk n
 t2:TbG T2 ls2 H
 t3:TbG T3 ls3 H
 t4:TbG T4 ls4 H
section
variable{tk:LS}
theorem TA4.same(h:TA4 cT T2 T3 T4 to dx td tk n H)(s:Same H H'):TA4 cT T2 T3 T4 to dx td tk n H':=⟨h.k.same s,h.t2.same s,h.t3.same s,h.t4.same s⟩
theorem TA4.nt(h:TA4 cT T2 T3 T4 to dx td tk n H)(e:H b=some u)(n1:∀ps,u≠.tbl ps)(n2:∀C dx fs,u≠.ins C dx fs):¬ MK4 to T2 T3 T4 b:=by
 rintro(rfl|z|z|z)
 ·rw[h.k.o]at e
  exact n2 _ _ _ (u5.inj e).symm
 ·exact h.t2.no e n1 z
 ·exact h.t3.no e n1 z
 ·exact h.t4.no e n1 z
theorem TA4.kn(h:TA4 cT T2 T3 T4 to dx td tk n H)(k:KM (MK4 to T2 T3 T4) H H'):KN H H':=fun b u e n1 n2 n3=>k b u (h.nt e n1 n3) e
end
def PsT(mg:Str->Option Value)(cT T2 T3 T4 to dx td:Addr)(tk:LS)(n:Nat)(b:Bd)(H:Hp)(Q:VK):Prop:=∀H' q l fl vs,KM (MK4 to T2 T3 T4) H H'->TA4 cT T2 T3 T4 to dx td tk (b.chg (nxT tk) n).2 H'->H' q=some (.tup [.ref l,.ref fl])->H l=none->H' l=some (.lst vs)->IsKv H' (b.chg (nxT tk) n).1.kd vs->Clo2 mg H' (b.chg (nxT tk) n).1 fl->Q (.ref q) H'
inductive spBegT(mg:Str->Option Value)(cT T2 T3 T4:Addr)(vs:List V)(H:Hp)(Q:VK)(e_3:XK):Prop
 |mk (to:Addr) (dx:Addr) (td:Addr) (p:Addr) (tk:LS) (n:Nat):(∃b:Bd,vs=[.ref to,.ref p]/\IsBd H b p/\(b.chg (nxT tk) n).1.sz<=1000000/\(b.chg (nxT tk) n).2<=LIMT/\TA4 cT T2 T3 T4 to dx td tk n H/\PsT mg cT T2 T3 T4 to dx td tk n b H Q)->spBegT mg cT T2 T3 T4 vs H Q e_3
theorem v7{a:ArmR}:∀{as:Arms},a∈as.l->a.b.sz<=as.sz
 |.nil,h=>by unfold Arms.l at h;cases h
 |.cons t ns m k b r,h=>by
  unfold Arms.l at h;rw[Arms.sz];rcases uq.mp h with rfl|h
  ·show b.sz<=_;lia
  ·have:=v7 h;lia
theorem J4(GW:Ca P w K mg base CX0 1 "with_bodies" lS17 spWB)(f c1 c:Addr)(ct:Value):FnOk P w K mg base CX0 2 f (vE mg c1 c ct) ["results"] (spLam2 mg f (vE mg c1 c ct)):=by
 refine wf (k:=1) zbm (fun vs H Q E h=>?_) (fun A outer s H vs Q E hr h=>?_)
 ·obtain⟨rl,_,_,_,_,_,_,_,rfl,_⟩:=h
  rfl
 ·obtain⟨rl,d1,d0,p,ct',b,ps,cs,rfl,efd,hf,hc,h1,hb,hz,hrl,hcs,hlen,q⟩:=h
  have ecl:cl2 c1=cl2 d1:=congrArg FuncData.closure efd;have ec:Value.ref c=Value.ref d0:=congrArg FuncData.code efd;cases ec;have e1:c1=d1:=by injection ecl with a b;exact(Prod.mk.inj a).2
  subst e1;have C:=clo1 (x:="changed") h1;refine⟨hf,hc,_,C,?_⟩;have hcA:∀a∈(cl2 c1).map (·.2),∃v,Cel H a v:=fun a ha=>by
   obtain⟨p,hp,rfl⟩:=uD.mp ha;exact C.all p hp
  have tp:=yx hcA;refine⟨_,(cA GW hr (jA2 (jv 1) (jv 0))),?_⟩;refine(zf rfl (zf rfl ⟨p,rl,b,ps,cs,rfl,hb.keep tp,hz,zS hcA hrl (by intro _ _ _ z;cases z),hcs.keep tp,hlen,fun H' r s1 h1 hnn=>?_⟩));have sp:Same H' (yW H' H ((cl2 c1).map (·.2))):=fun b u e=>y0 hnn e;exact q _ r (yZ s1) (h1.keep (.of sp))
theorem J5(c1 c:Addr)(ct:Value):Binds K (vE mg c1 c ct) ["results"] []:=.all (us1 fun _=>rfl)
theorem scBegT:FnScope ["tokens","body","changed"] lS20 (zp wU):=.ok
theorem zbn:(["tokens","body","changed","arm"]:LS).Nodup:=by decide +kernel
theorem J6(F:FunC K "begun_tokens" wU c f fd)(hB:BMn mg base)(hc:Uh K c T2=true)(n23:T2≠T3)(n24:T2≠T4)(GT:Ca P w K mg base CX0 6 "with_token" ["tokens","arm"] (spWithT cT T3 T4))(GW:Ca P w K mg base CX0 2 "bodies_within" ["body"] spBW)(m_tuple:mg "tuple"=none):FnOk P w K mg base CX0 7 f fd lS20 (spBegT mg cT T2 T3 T4):=by
 refine F.byR scBegT (fun vs H Q E h=>?_) (fun A outer s H vs Q E hr h fresh=>?_)
 ·obtain⟨to,dx,td,p,tk,n,b,rfl,_⟩:=h
  rfl
 obtain⟨to,dx,td,p,tk,n,b,rfl,hb,hz,hlim,hT,q⟩:=h;have hr2:Room 2 _:=hr.mono (by decide);refine⟨_,
  (jx (sE 2 scBegT.nd (jv 1))
  (QP (tN zD (xT 1) zq)
   (jx (sE 2 scBegT.nd (zr (jA3 zq (xT 1) (zB zz rfl m_tuple ut (jA1 (yo ["arm"] rfl (yn (xT 1)) (fun _ _ _ _ _=>(gN 3 zbn)) (fun _ _ _ _ _=>zL) (fun _ _ _ _ _=>(cA GT hr (jA2 (jv 0) (jv 3)))))))))) zaW)
  (Yk (zr (jA2 (cA GW hr2 (jA1 (jv 2))) (we (params:=lmP wr) (body:=lmB wr) (scope:=lmS wr) (pos:=xH wr) (T:=T2) (qual:=ZC) (cl:=cl2 (s.heap.objs.size+2)) hB rfl hc rfl)))))),?_⟩
 have sl:=zJ;have hnx:∀m,m < nxT tk m:=fun m=>(xt tk m).1;have fm:(∃(z:Str)(r:List V),H p=some (.tup (.str z::r))/\z≠"case"/\b.chg (nxT tk) n=(b,n))\/∃x as,b=.cs x as:=by
  cases b with
  |give x=>exact .inl ⟨_,_,hb,by decide,rfl⟩
  |hold x y b=>obtain⟨_,hp,_⟩:=hb;exact .inl ⟨_,_,hp,by decide,rfl⟩
  |drop x b=>obtain⟨_,hp,_⟩:=hb;exact .inl ⟨_,_,hp,by decide,rfl⟩
  |loose x b=>obtain⟨_,hp,_⟩:=hb;exact .inl ⟨_,_,hp,by decide,rfl⟩
  |iff x b c=>obtain⟨_,_,hp,_⟩:=hb;exact .inl ⟨_,_,hp,by decide,rfl⟩
  |lt x d b=>obtain⟨_,_,hp,_⟩:=hb;exact .inl ⟨_,_,hp,by decide,rfl⟩
  |cs x as=>exact .inr ⟨x,as,rfl⟩
 rcases fm with⟨z,r0,hp,hne,e⟩|⟨x,as,rfl⟩
 ·refine(zf rfl ?_)
  refine(zf rfl (ixT hp aI0 ⟨rfl,(zf rfl (iteE (decide_eq_false fun y=>hne (V.str.inj y)) ?_))⟩));have T1:TA4 cT T2 T3 T4 to dx td tk (b.chg (nxT tk) n).2 H:=by rw[e];exact hT
  have hb1:IsBd H (b.chg (nxT tk) n).1 p:=by rw[e];exact hb
  have k1:KM (MK4 to T2 T3 T4) H H:=KM.refl;generalize hp1:p=p1 at *;refine(zf rfl ⟨p1,(b.chg (nxT tk) n).1,rfl,hb1,hz,fun H3 l ps s3 f3 el hk=>?_⟩);have T3':=T1.same s3;refine yX T3'.t2 (by unfold ls2;exact .head _) (fun p hp _=>by unfold ls2 at hp;rw[uE.mp hp]) fun H4 fl4 cc ct k4 t24 hfl nfT ncT hfl4 hcc=>?_;refine⟨sN2,fun r fr=>?_⟩;have no3:∀{b:Addr}{u:HO},H3 b=some u->(∀ps,u≠.tbl ps)->b≠T2:=fun e n=>T3'.t2.no e n;have k5:KM (·=T2) H3 (upd H4 r (.tup [.ref l,.ref fl4])):=fun b u n e=>old fr (k4 b u n e);have n5:KN H3 (upd H4 r (.tup [.ref l,.ref fl4])):=fun b u e n _ _=>k5 b u (no3 e n) e;have t25:=t24.same (zi fr (.tup [.ref l,.ref fl4]));have t35:TbG T3 ls3 (upd H4 r (.tup [.ref l,.ref fl4])):=T3'.t3.keep (fun ps e=>k5 _ _ n23.symm e) fun c q e=>n5.cod e;have t45:TbG T4 ls4 (upd H4 r (.tup [.ref l,.ref fl4])):=T3'.t4.keep (fun ps e=>k5 _ _ n24.symm e) fun c q e=>n5.cod e;have K5:TkA cT (upd H4 r (.tup [.ref l,.ref fl4])) to dx td tk (b.chg (nxT tk) n).2:=⟨k5 _ _ (no3 T3'.k.o (by intro _ z;cases z)) T3'.k.o,k5 _ _ (no3 T3'.k.t (by intro _ z;cases z)) T3'.k.t⟩;have hr5:=zg (H:=H4) (a:=r) (o:=.tup [.ref l,.ref fl4]);have el5:=k5 _ _ (no3 el (by intro _ z;cases z)) el;have hf5:=old (o:=.tup [.ref l,.ref fl4]) fr hfl4;have hc5:=old (o:=.tup [.ref l,.ref fl4]) fr hcc;generalize upd H4 r (.tup [.ref l,.ref fl4])=H5 at *;refine⟨[(s.heap.objs.size+2,.ref p1)],fun x hx=>?_,fun H6 pb=>?_⟩
  ·rw[uE.mp hx]
   exact⟨2,"changed",rfl,rfl,rfl,.inl rfl⟩
  have s6:=Pub.same pb;have k06:KM (MK4 to T2 T3 T4) H H6:=fun b u nb e=>s6 _ _ (k5 b u (fun z=>nb (.inr (.inl z))) (s3 _ _ (k1 b u nb e)));refine q H6 r l fl4 _ k06 ⟨K5.same s6,t25.same s6,t35.same s6,t45.same s6⟩ (s6 _ _ hr5) ?_ (s6 _ _ el5) ((hk.kv.keep n5.tups).keep (.of s6)) ?_
  ·cases e:H l with
   |none=>rfl
   |some u =>
    exfalso
    have:¬ MK4 to T2 T3 T4 l:=fun z=>by
     rcases z with z|z|z|z
     ·rw[z,T1.k.o]at f3;cases f3
     ·obtain⟨ps,h,_⟩:=T1.t2;rw[z,h]at f3;cases f3
     ·obtain⟨ps,h,_⟩:=T1.t3;rw[z,h]at f3;cases f3
     ·obtain⟨ps,h,_⟩:=T1.t4;rw[z,h]at f3;cases f3
    rw[k1 l u this e]at f3;cases f3
  ·exact⟨_,cc,ct,p1,s6 _ _ hf5,s6 _ _ hc5,pb.cel (_,_) (.head _),((hb1.keep (.of s3)).keep n5.tups).keep (.of s6)⟩
 ·obtain⟨q1,ts,hp,hts,has⟩:=id hb
  have aa:=yO has;have al:=All2.len aa;have hb0:(Bd.cs x as).sz<=1000000:=uC (Vt (nx:=nxT tk) _ n) hz;rw[Bd.sz]at hb0;have asl:=Arms.lLen as;have hlim2:(tkL (nxT tk) as.l n).2<=LIMT:=by rw[<- (Zz as n).2];exact hlim
  refine(zf rfl ?_);refine(zf rfl (ixT hp aI0 ⟨rfl,(zf rfl (iteT ?_))⟩));refine(zf rfl (ixT hp aI1 (zf rfl (ixT hp aI2 ⟨q1,rfl,⟨_,SqT.of hts⟩,xo (xs:=ts.map V.ref) (fun j τ ys H'=>KM (MK to T3 T4) H H'/\TA3 cT T3 T4 to dx td tk (tkL (nxT tk) (as.l.take j) n).2 H'/\(∃v,τ=[oR to,oR p,oR p,v])/\∃us:List Addr,ys=us.map V.ref/\All2 (IsAr H') (tkL (nxT tk) (as.l.take j) n).1 us) ⟨KM.refl,⟨hT.k,hT.t3,hT.t4⟩,⟨none,rfl⟩,[],rfl,.nil⟩ (fun j τ ys H' _ h=>SqT.of (h.1 _ _ (fun z=>hT.nt hts (by intro _ z;cases z) (by intro _ _ _ z;cases z) (z.imp id .inr)) hts)) ?_ ?_⟩))))
  ·rintro j v τ ys H1 hv ⟨k1,T1,⟨v',rfl⟩,us,rfl,hu⟩
   obtain⟨t,ht,rfl⟩:=L2.gM hv;obtain⟨a,ha,hA⟩:=All2.get aa ht;have hj:j < as.l.length:=(ue.mp ha).1;have az:=v7 (uv ha);have tp1:Tups H H1:=fun b xs e=>k1 b _ (fun z=>hT.nt e (by intro _ z;cases z) (by intro _ _ _ z;cases z) (z.imp id .inr)) e;have sn:=ZA (nx:=nxT tk) (as.l.take j) a n;have tj:as.l.take (j+1)=as.l.take j++[a]:=by rw[uI,ha];rfl
   have lm:=ZB hnx as.l (j+1) n;rw[tj,sn]at lm;have ul:=All2.len hu;have ll:∀(l:List ArmR)(n:Nat),(tkL (nxT tk) l n).1.length=l.length:=by
    intro l
    induction l with
    |nil=>intro n;rfl
    |cons a l ih=>intro n;unfold tkL;rw[um,um,ih]
   rw[ll,uH]at ul;refine(zf rfl (zf rfl ⟨to,dx,td,t,tk,_,a,rfl,hA.keep tp1,by lia,T1,by lia,fun H2 r k2 T2' hr2'=>⟨by rw[ua];lia,k1.trans k2,?_,⟨_,rfl⟩,us++[r],by rw[uh];rfl,?_⟩⟩))
   ·rw[tj,sn];exact T2'
   ·rw[tj,sn]
    exact(hu.imp fun _ _ z=>z.keep (T1.kn k2).tups).app (.cons hr2' .nil)
  rintro τ ys H1 ⟨k1',T1',_,us,rfl,hu⟩ l2 f2;rw[ua,<- al,ux (ud _)]at T1' hu;refine⟨l2,(zf rfl (.inl ⟨SqL.of zg,fun t3 f3=>⟨sN3,fun p1 fp=>?_⟩⟩))⟩;have s1:Same H1 (upd (upd (upd H1 l2 (.lst (us.map V.ref))) t3 (.tup (us.map V.ref))) p1 (.tup [.str "case",.str x,.ref t3])):=((zi f2 _).new f3).new fp;have e2:(Bd.chg (nxT tk) (.cs x as) n)=(.cs x (as.tk (nxT tk) n).1,(as.tk (nxT tk) n).2):=rfl;have hb1:IsBd (upd (upd (upd H1 l2 (.lst (us.map V.ref))) t3 (.tup (us.map V.ref))) p1 (.tup [.str "case",.str x,.ref t3])) (Bd.chg (nxT tk) (.cs x as) n).1 p1:=⟨t3,us,zg,old fp zg,xv (by rw[(Zz as n).1];exact hu.imp fun _ _ z=>z.keep (.of s1))⟩;have k1:KM (MK4 to T2 T3 T4) H (upd (upd (upd H1 l2 (.lst (us.map V.ref))) t3 (.tup (us.map V.ref))) p1 (.tup [.str "case",.str x,.ref t3])):=fun b u nb e=>s1 _ _ (k1' b u (fun z=>nb (z.imp id .inr)) e);have nt2:¬ MK to T3 T4 T2:=fun z=>by
   rcases z with z|z|z
   ·obtain⟨ps,h,_⟩:=hT.t2;rw[z,hT.k.o]at h;cases h
   ·exact n23 z
   ·exact n24 z
  have T1:TA4 cT T2 T3 T4 to dx td tk (Bd.chg (nxT tk) (.cs x as) n).2 (upd (upd (upd H1 l2 (.lst (us.map V.ref))) t3 (.tup (us.map V.ref))) p1 (.tup [.str "case",.str x,.ref t3])):=by
   rw[e2,(Zz as n).2];refine⟨T1'.k.same s1,(hT.t2.keep (fun ps e=>k1' _ _ nt2 e) fun c q e=>k1' _ _ (fun z=>hT.nt e (by intro _ z;unfold CodO at z;cases z) (by intro _ _ _ z;unfold CodO at z;cases z) (z.imp id .inr)) e).same s1,T1'.t3.same s1,T1'.t4.same s1⟩
  dsimp only
  generalize upd (upd (upd H1 l2 (.lst (us.map V.ref))) t3 (.tup (us.map V.ref))) p1 (.tup [.str "case",.str x,.ref t3])=H2 at *;generalize hbx:Bd.cs x as=b at *;refine(zf rfl ⟨p1,(b.chg (nxT tk) n).1,rfl,hb1,hz,fun H3 l ps s3 f3 el hk=>?_⟩);have T3':=T1.same s3;refine yX T3'.t2 (by unfold ls2;exact .head _) (fun p hp _=>by unfold ls2 at hp;rw[uE.mp hp]) fun H4 fl4 cc ct k4 t24 hfl nfT ncT hfl4 hcc=>?_;refine⟨sN2,fun r fr=>?_⟩;have no3:∀{b:Addr}{u:HO},H3 b=some u->(∀ps,u≠.tbl ps)->b≠T2:=fun e n=>T3'.t2.no e n;have k5:KM (·=T2) H3 (upd H4 r (.tup [.ref l,.ref fl4])):=fun b u n e=>old fr (k4 b u n e);have n5:KN H3 (upd H4 r (.tup [.ref l,.ref fl4])):=fun b u e n _ _=>k5 b u (no3 e n) e;have t25:=t24.same (zi fr (.tup [.ref l,.ref fl4]));have t35:TbG T3 ls3 (upd H4 r (.tup [.ref l,.ref fl4])):=T3'.t3.keep (fun ps e=>k5 _ _ n23.symm e) fun c q e=>n5.cod e;have t45:TbG T4 ls4 (upd H4 r (.tup [.ref l,.ref fl4])):=T3'.t4.keep (fun ps e=>k5 _ _ n24.symm e) fun c q e=>n5.cod e;have K5:TkA cT (upd H4 r (.tup [.ref l,.ref fl4])) to dx td tk (b.chg (nxT tk) n).2:=⟨k5 _ _ (no3 T3'.k.o (by intro _ z;cases z)) T3'.k.o,k5 _ _ (no3 T3'.k.t (by intro _ z;cases z)) T3'.k.t⟩;have hr5:=zg (H:=H4) (a:=r) (o:=.tup [.ref l,.ref fl4]);have el5:=k5 _ _ (no3 el (by intro _ z;cases z)) el;have hf5:=old (o:=.tup [.ref l,.ref fl4]) fr hfl4;have hc5:=old (o:=.tup [.ref l,.ref fl4]) fr hcc;generalize upd H4 r (.tup [.ref l,.ref fl4])=H5 at *;refine⟨[(s.heap.objs.size+2,.ref p1)],fun x hx=>?_,fun H6 pb=>?_⟩
  ·rw[uE.mp hx]
   exact⟨2,"changed",rfl,rfl,rfl,.inl rfl⟩
  have s6:=Pub.same pb;have k06:KM (MK4 to T2 T3 T4) H H6:=fun b u nb e=>s6 _ _ (k5 b u (fun z=>nb (.inr (.inl z))) (s3 _ _ (k1 b u nb e)));refine q H6 r l fl4 _ k06 ⟨K5.same s6,t25.same s6,t35.same s6,t45.same s6⟩ (s6 _ _ hr5) ?_ (s6 _ _ el5) ((hk.kv.keep n5.tups).keep (.of s6)) ?_
  ·cases e:H l with
   |none=>rfl
   |some u =>
    exfalso
    have:¬ MK4 to T2 T3 T4 l:=fun z=>by
     rcases z with z|z|z|z
     ·rw[z,T1.k.o]at f3;cases f3
     ·obtain⟨ps,h,_⟩:=T1.t2;rw[z,h]at f3;cases f3
     ·obtain⟨ps,h,_⟩:=T1.t3;rw[z,h]at f3;cases f3
     ·obtain⟨ps,h,_⟩:=T1.t4;rw[z,h]at f3;cases f3
    rw[k1 l u this e]at f3;cases f3
  ·exact⟨_,cc,ct,p1,s6 _ _ hf5,s6 _ _ hc5,pb.cel (_,_) (.head _),((hb1.keep (.of s3)).keep n5.tups).keep (.of s6)⟩
def wu:Expr:=match zH xZ with
 |[.Return (some (.BinOp _ _ (.Tuple [e] _ _) _)) _]=>Zt e
 |_=>.Constant .none 0 ⟨0,0,0,0⟩
def ZD:Str:=("anew_def":Str)++(".<locals>.":Str)++("<lambda>":Str)
def ls1:List (Pos×Str):=[(xH wu,ZD)]
def cl1(c1:Addr):List (Str×Addr):=[("tokens",c1)]
abbrev vF(mg:Str->Option Value)(c1 c:Addr)(ct:Value):FuncData:=lamC mg ZD (lmP wu) (lmB wu) (lmS wu) (cl1 c1) c ct
theorem zbo:LamScope ["body","tokens"] ["body"] ["tokens"] (lmS wu):=⟨rfl,rfl,rfl,by decide +kernel,rfl,by decide +kernel,by decide +kernel,by decide +kernel,by decide +kernel⟩
inductive spLam1(mg:Str->Option Value)(cT T2 T3 T4:Addr)(f:Addr)(fd:FuncData)(vs:List V)(H:Hp)(Q:VK)(e_3:XK):Prop
 |mk (p:Addr) (c1:Addr) (c:Addr) (to:Addr) (dx:Addr) (td:Addr) (ct:Value) (tk:LS) (n:Nat):(∃b:Bd,vs=[.ref p]/\fd=vF mg c1 c ct/\H f=some (FunO f fd)/\H c=some (CodO c ZD)/\Cel H c1 (.ref to)/\IsBd H b p/\(b.chg (nxT tk) n).1.sz<=1000000/\(b.chg (nxT tk) n).2<=LIMT/\TA4 cT T2 T3 T4 to dx td tk n H/\PsT mg cT T2 T3 T4 to dx td tk n b H Q)->spLam1 mg cT T2 T3 T4 f fd vs H Q e_3
theorem J7(GB:Ca P w K mg base CX0 7 "begun_tokens" lS20 (spBegT mg cT T2 T3 T4))(f c1 c:Addr)(ct:Value):FnOk P w K mg base CX0 8 f (vF mg c1 c ct) ["body"] (spLam1 mg cT T2 T3 T4 f (vF mg c1 c ct)):=by
 refine wf (k:=7) zbo (fun vs H Q E h=>?_) (fun A outer s H vs Q E hr h=>?_)
 ·obtain⟨p,_,_,_,_,_,_,_,_,_,rfl,_⟩:=h
  rfl
 ·obtain⟨p,d1,d0,to,dx,td,ct',tk,n,b,rfl,efd,hf,hc,h1,hb,hz,hlim,hT,q⟩:=h
  have ecl:cl1 c1=cl1 d1:=congrArg FuncData.closure efd;have ec:Value.ref c=Value.ref d0:=congrArg FuncData.code efd;cases ec;have e1:c1=d1:=by injection ecl with a b;exact(Prod.mk.inj a).2
  subst e1;have C:=clo1 (x:="tokens") h1;refine⟨hf,hc,_,C,?_⟩;have hcA:∀a∈(cl1 c1).map (·.2),∃v,Cel H a v:=fun a ha=>by
   obtain⟨p,hp,rfl⟩:=uD.mp ha;exact C.all p hp
  have tp:=yx hcA;have mk:∀{b:Addr}{u:HO},H b=some u->(∀o c v,u≠.frz o (CelO c v))->z0 H ((cl1 c1).map (·.2)) b=some u:=fun e n=>zS hcA e n;have tm:∀{T:Addr}{ls:List (Pos×Str)},TbG T ls H->TbG T ls (z0 H ((cl1 c1).map (·.2))):=fun h=>h.keep (fun ps e=>mk e (by intro _ _ _ z;cases z)) (fun c q e=>mk e (by intro _ _ _ z;unfold CodO at z;cases z));have hTm:TA4 cT T2 T3 T4 to dx td tk n (z0 H ((cl1 c1).map (·.2))):=⟨⟨mk hT.k.o (by intro _ _ _ z;unfold TO at z;cases z),mk hT.k.t (by intro _ _ _ z;cases z)⟩,tm hT.t2,tm hT.t3,tm hT.t4⟩;refine⟨_,(cA GB hr (jA2 (jv 1) (jv 0))),?_⟩;refine(zf rfl (zf rfl ⟨to,dx,td,p,tk,n,b,rfl,hb.keep tp,hz,hlim,hTm,fun H' r l fl vs k1 T1 hr1 hl hl1 hk hfin hnn=>?_⟩));have sp:Same H' (yW H' H ((cl1 c1).map (·.2))):=fun b u e=>y0 hnn e;have out:∀{b:Addr}{u:HO},H' b=some u->z0 H ((cl1 c1).map (·.2)) b=none->H b=none:=fun{b u} e n=>by
   rw[zT]at n
   ·exact n
   ·intro z;rw[hnn b z]at e;cases e
  refine q _ r l fl vs (fun b u n e=>?_) (T1.same sp) (sp _ _ hr1) (out hl1 hl) (sp _ _ hl1) (hk.keep (.of sp)) (hfin.keep (.of sp));by_cases z:b∈(cl1 c1).map (·.2)
  ·rw[wd z];exact e
  ·rw[yr z]
   exact k1 b u n (by rw[zT z];exact e)
theorem J8(c1 c:Addr)(ct:Value):Binds K (vF mg c1 c ct) ["body"] []:=.all (us1 fun _=>rfl)
structure AOk(mg:Str->Option Value)(cT T2 T3 T4 to dx td fl c1 cc:Addr)(ct:Value)(tk:LS)(n:Nat)(H:Hp):Prop where
 a:TA4 cT T2 T3 T4 to dx td tk n H
 f:H fl=some (FunO fl (vF mg c1 cc ct))
 c:H cc=some (CodO cc ZD)
 e1:Cel H c1 (.ref to)
theorem All2.mapl{α β γ:Type}{F:α->β->Prop}{g:γ->α}:∀{l:List γ}{m:List β},All2 (fun c b=>F (g c) b) l m->All2 F (l.map g) m
 |_,_,.nil=>.nil
 |_,_,.cons a r=>.cons a (All2.mapl r)
theorem All2.unmapl{α β γ:Type}{F:α->β->Prop}{g:γ->α}:∀{l:List γ}{m:List β},All2 F (l.map g) m->All2 (fun c b=>F (g c) b) l m
 |[],_,.nil=>.nil
 |_::_,_,.cons a r=>.cons a (All2.unmapl r)
noncomputable def anewWo (GB:Ca P w K mg base CX0 7 "begun_tokens" lS20 (spBegT mg cT T2 T3 T4)) (GW:Ca P w K mg base CX0 1 "with_bodies" lS17 spWB) (to dx td fl c1 cc:Addr) (ct:Value) (tk:LS):WoD P w K mg base 8 where
 Tk:=ATk
 M:=MK4 to T2 T3 T4
 fb:=fl
 wt:=ATk.wt (nxT tk)
 kids:=ATk.kids (nxT tk)
 wk:=JP
 IT:=fun H _ t v=>TOk (nxT tk) t/\∃p,v=.ref p/\IsBd H t.b p
 IR:=fun H _ t v=>∃p,v=.ref p/\IsBd H (t.res (nxT tk)) p
 IF:=fun H _ t v=>TOk (nxT tk) t/\∃f,v=.ref f/\Clo2 mg H (t.b.chg (nxT tk) t.n).1 f
 S:=Nat
 pre:=ATk.n
 mid:=ATk.mid (nxT tk)
 post:=ATk.post (nxT tk)
 chn:=Vi
 Ok:=fun n H=>AOk mg cT T2 T3 T4 to dx td fl c1 cc ct tk n H
 itk:=fun⟨h,p,e,hb⟩ ok z _=>⟨h,p,e,hb.keep fun b xs e=>z b _ e (ok.a.nt e (by intro _ z;cases z) (by intro _ _ _ z;cases z)) (by intro _ z;cases z)⟩
 irk:=fun⟨p,e,hb⟩ ok z _=>⟨p,e,hb.keep fun b xs e=>z b _ e (ok.a.nt e (by intro _ z;cases z) (by intro _ _ _ z;cases z)) (by intro _ z;cases z)⟩
 ifk:=fun⟨h,f,e,hf⟩ ok z _=>⟨h,f,e,hf.keep fun b u e n1 n2 n3=>z b u e (ok.a.nt e n1 n3) fun xs q=>absurd q (n2 xs)⟩
 okk:=fun{H H' s} ok z=>by
  have g:∀b u,H b=some u->(∀xs,u≠.lst xs)->H' b=some u:=fun b u e n=>z b u e fun xs q=>absurd q (n xs);have t:∀{T:Addr}{ls:List (Pos×Str)},TbG T ls H->TbG T ls H':=fun h=>h.keep (fun ps e=>g _ _ e (by intro _ z;cases z)) fun c q e=>g _ _ e (by intro _ z;unfold CodO at z;cases z);have s:KN H H':=fun b u e _ n _=>g b u e n;exact⟨⟨⟨g _ _ ok.a.k.o (by intro _ z;unfold TO at z;cases z),g _ _ ok.a.k.t (by intro _ z;cases z)⟩,t ok.a.t2,t ok.a.t3,t ok.a.t4⟩,s.fun ok.f,s.cod ok.c,s.cel ok.e1⟩
 okM:=fun{H b s} ok z=>by
  rcases z with z|z|z|z
  ·rw[z,ok.a.k.o];simp
  ·obtain⟨ps,q,_⟩:=ok.a.t2;rw[z,q];simp
  ·obtain⟨ps,q,_⟩:=ok.a.t3;rw[z,q];simp
  ·obtain⟨ps,q,_⟩:=ok.a.t4;rw[z,q];simp
 beg:=fun{H R t v Q}⟨hz,p,e,hb⟩ ok hRd hRM q=>by
  subst e;have hnx:∀m,m < nxT tk m:=fun m=>(xt tk m).1;obtain⟨f,n,b⟩:=t;cases f with
  |zero=>have:=hz.m;have:=b.mu_pos;exact absurd hz.m (by show ¬ b.mu<=0;lia)
  |succ f =>
  refine⟨_,_,_,J7 GB fl c1 cc ct,J8 c1 cc ct,⟨p,c1,cc,to,dx,td,ct,tk,n,b,rfl,rfl,ok.f,ok.c,ok.e1,hb,hz.chg,hz.mid hnx,ok.a,fun H' r l f2 vs k1 t2 hr hl hl1 hk hfin=>?_⟩,.inl ok.f⟩;have kn:=ok.a.kn k1;refine q H' r l f2 vs (fun b=>R b\/b=l) k1 ⟨t2,kn.fun ok.f,kn.cod ok.c,kn.cel ok.e1⟩ hr hl hl1 (fun _ z=>.inl z) ?_ ?_ (.inr rfl) ?_ ⟨hz,f2,rfl,hfin⟩
  ·rintro b (z|rfl)
   ·exact .inl z
   ·exact .inr hl
  ·rintro b (z|rfl)
   ·cases e:H b with
    |none=>exact absurd e (hRd b z)
    |some u=>rw[k1 b u (fun y=>hRM b z y) e];simp
   ·rw[hl1];simp
  ·have hk2:IsKv H' ((ksL (nxT tk) f (b.chg (nxT tk) n).1.kd (b.chg (nxT tk) n).2).map ATk.b) vs:=by rw[Vh];exact hk
   have hk':All2 (fun(t:ATk) v=>∃p,v=V.ref p/\IsBd H' t.b p) (ksL (nxT tk) f (b.chg (nxT tk) n).1.kd (b.chg (nxT tk) n).2) vs:=All2.unmapl hk2;exact All2.memP hk' fun t ht=>hz.kid hnx ht
 fin:=fun{H R t f2 rl rs Q} hh ok hRd hRM hRr hrl hrs q=>by
  obtain⟨hz,f',e,hf⟩:=hh;cases e;obtain⟨f,n,b⟩:=t;cases f with
  |zero=>have:=b.mu_pos;exact absurd hz.m (by show ¬ b.mu<=0;lia)
  |succ f =>
  obtain⟨d1,c,ct',p,h1,h2,h3,h4⟩:=hf;have hrs':IsKv H ((ksL (nxT tk) f (b.chg (nxT tk) n).1.kd (b.chg (nxT tk) n).2).map (ATk.res (nxT tk))) rs:=All2.mapl hrs;rw[wm]at hrs';obtain⟨ps,rfl,hps⟩:=hrs'.bs;refine⟨_,_,_,(J4 GW f2 d1 c ct').mono (by decide),J5 d1 c ct',⟨rl,d1,c,p,ct',_,ps,(zf rfl ⟨rfl,h1,h2,h3,h4,hz.chg,hrl,hps,xu _ _,fun H' r s1 hr=>?_⟩)⟩,.inl h1⟩;refine q H' (.ref r) R (.of s1) ⟨ok.a.same s1,s1 _ _ ok.f,s1 _ _ ok.c,(KN.of s1).cel ok.e1⟩ (fun _ z=>z) (fun _ z=>.inl z) (fun b z=>by
   cases e:H b with
   |none=>exact absurd e (hRd b z)
   |some u=>rw[s1 b u e];simp) ⟨r,rfl,hr⟩
noncomputable def Df.an (nx:Nat->Nat) (d:Df) (n:Nat):Df×Nat:=(⟨d.g,d.ps,d.os,(AB nx d.b.mu d.b n).1⟩,(AB nx d.b.mu d.b n).2)
structure TA5(cT T1 T2 T3 T4 to dx td:Addr)(tk:LS)(n:Nat)(H:Hp):Prop where
 a:TA4 cT T2 T3 T4 to dx td tk n H
 t1:TbG T1 ls1 H
def MK5(to T1 T2 T3 T4:Addr)(b:Addr):Prop:=b=T1\/MK4 to T2 T3 T4 b
inductive spADef(cT T1 T2 T3 T4:Addr)(vs:List V)(H:Hp)(Q:VK)(e_3:XK):Prop
 |mk (to:Addr) (dx:Addr) (td:Addr) (o:Addr) (tk:LS) (n:Nat):(∃d:Df,vs=[.ref to,.ref o]/\IsDf H d o/\TOk (nxT tk) ⟨d.b.mu,n,d.b⟩/\TA5 cT T1 T2 T3 T4 to dx td tk n H/\∀H' r,KM (MK5 to T1 T2 T3 T4) H H'->TA5 cT T1 T2 T3 T4 to dx td tk (d.an (nxT tk) n).2 H'->IsDf H' (d.an (nxT tk) n).1 r->Q (.ref r) H')->spADef cT T1 T2 T3 T4 vs H Q e_3
theorem scADef:FnScope ["tokens","one"] ["tokens","one"] (zp xZ):=.ok
theorem J9(F:FunC K "anew_def" xZ c f fd)(hB:BMn mg base)(hc:Uh K c T1=true)(n2:T1≠T2)(n3:T1≠T3)(n4:T1≠T4)(GB:Ca P w K mg base CX0 7 "begun_tokens" lS20 (spBegT mg cT T2 T3 T4))(GW:Ca P w K mg base CX0 1 "with_bodies" lS17 spWB)(GO:Ca P w K mg base CX0 9 "worked_out" lS21 (spWorked P w K mg base 8)):FnOk P w K mg base CX0 10 f fd ["tokens","one"] (spADef cT T1 T2 T3 T4):=by
 refine F.by scADef (fun vs H Q E h=>?_) (fun A outer s H vs Q E hr h=>?_)
 ·obtain⟨to,dx,td,o,tk,n,d,rfl,_⟩:=h
  rfl
 obtain⟨to,dx,td,o,tk,n,d,rfl,hI,hz,hT,q⟩:=h;refine⟨_,
  (zk (zt (zw yy (zX yi (jv 1) yc (yd zn)) (zr (jA1 (WT (E:=E0) GO hr scADef.nd rfl (fun _=>rfl) (jA2 (xT 1) (we (params:=lmP wu) (body:=lmB wu) (scope:=lmS wu) (pos:=xH wu) (T:=T1) (qual:=ZD) (cl:=cl1 (s.heap.objs.size+1)) hB rfl hc rfl)))))))),?_⟩
 have sl:=zJ;obtain⟨pp,po,pb,h1,h2,h3,h4⟩:=id hI;refine(zf rfl ⟨3,rfl,o,(zf rfl ⟨h1,fun p3 H4 s4 g3=>?_⟩)⟩);have s4:Same H H4:=s4;have t14:=hT.t1.same s4;have a4:=hT.a.same s4;refine(zf rfl (ixT (s4 _ _ h1) aI3 (yX t14 (by unfold ls1;exact .head _) (fun p hp _=>by unfold ls1 at hp;rw[uE.mp hp]) fun H5 fl cc ct k5 t15 hfl nfT ncT hfl5 hcc=>?_)));have no5:∀{b:Addr}{u:HO},H4 b=some u->(∀ps,u≠.tbl ps)->b≠T1:=fun e n=>t14.no e n;have n5:KN H4 H5:=fun b u e n _ _=>k5 b u (no5 e n) e;have tb:∀{T:Addr}{ls:List (Pos×Str)},T1≠T->TbG T ls H4->TbG T ls H5:=fun n h=>h.keep (fun ps e=>k5 _ _ n.symm e) fun c q e=>n5.cod e;have a5:TA4 cT T2 T3 T4 to dx td tk n H5:=⟨⟨k5 _ _ (no5 a4.k.o (by intro _ z;unfold TO at z;cases z)) a4.k.o,k5 _ _ (no5 a4.k.t (by intro _ z;cases z)) a4.k.t⟩,tb n2 a4.t2,tb n3 a4.t3,tb n4 a4.t4⟩;refine⟨[(s.heap.objs.size+1,.ref to)],fun x hx=>?_,fun H6 pb'=>?_⟩
 ·rw[uE.mp hx]
  exact⟨0,"tokens",rfl,rfl,rfl,.inl rfl⟩
 have s6:=Pub.same pb';have ok6:AOk mg cT T2 T3 T4 to dx td fl (s.heap.objs.size+1) cc ct tk n H6:=⟨a5.same s6,s6 _ _ hfl5,s6 _ _ hcc,pb'.cel (_,_) (.head _)⟩;have t06:Tups H H6:=((Tups.of s4).trans n5.tups).trans (.of s6);refine⟨anewWo GB GW to dx td fl (s.heap.objs.size+1) cc ct tk,.ref pb,⟨d.b.mu,n,d.b⟩,fun _=>False,rfl,⟨hz,pb,rfl,h4.keep t06⟩,ok6,fun _ z=>z.elim,fun _ z=>z.elim,?_,.inl ⟨⟨_,ok6.f⟩,ok6.a.nt ok6.f (by intro _ z;unfold FunO at z;cases z) (by intro _ _ _ z;unfold FunO at z;cases z)⟩,fun H7 v R' k7 ok7 _ hv hcel=>?_⟩
 ·show 3*(ATk.res (nxT tk) ⟨d.b.mu,n,d.b⟩).sz<=10000000
  have:=hz.z
  lia
 have hcA:∀x∈([(s.heap.objs.size+1,V.ref to)]:List (Addr×V)).map (·.1),∃v,Cel H7 x v:=fun x hx=>by
  obtain⟨y,hy,rfl⟩:=uD.mp hx;exact⟨_,hcel y hy⟩
 obtain⟨p7,rfl,g2⟩:=hv;have tm:=yx hcA;have k57:KM (MK4 to T2 T3 T4) H5 (z0 H7 (([(s.heap.objs.size+1,V.ref to)]:List (Addr×V)).map (·.1))):=fun b u nb e=>by
  rw[zT]
  ·exact k7 b u nb (s6 _ _ e)
  ·intro z
   obtain⟨x,hx,rfl⟩:=uD.mp z;rw[pb'.non x hx]at e;cases e
 have mk:∀{b:Addr}{u:HO},H7 b=some u->(∀o c v,u≠.frz o (CelO c v))->z0 H7 (([(s.heap.objs.size+1,V.ref to)]:List (Addr×V)).map (·.1)) b=some u:=fun e n=>zS hcA e n;have tmm:∀{T:Addr}{ls:List (Pos×Str)},TbG T ls H7->TbG T ls (z0 H7 (([(s.heap.objs.size+1,V.ref to)]:List (Addr×V)).map (·.1))):=fun h=>h.keep (fun ps e=>mk e (by intro _ _ _ z;cases z)) (fun c q e=>mk e (by intro _ _ _ z;unfold CodO at z;cases z));have a8:TA4 cT T2 T3 T4 to dx td tk (d.an (nxT tk) n).2 (z0 H7 (([(s.heap.objs.size+1,V.ref to)]:List (Addr×V)).map (·.1))):=⟨⟨mk ok7.a.k.o (by intro _ _ _ z;unfold TO at z;cases z),mk ok7.a.k.t (by intro _ _ _ z;cases z)⟩,tmm ok7.a.t2,tmm ok7.a.t3,tmm ok7.a.t4⟩;have g2:=g2.keep tm;generalize z0 H7 (([(s.heap.objs.size+1,V.ref to)]:List (Addr×V)).map (·.1))=H8 at *;have n8:KN H5 H8:=a5.kn k57;have nt1:¬ MK4 to T2 T3 T4 T1:=fun z=>by
  rcases z with z|z|z|z
  ·obtain⟨ps,h,_⟩:=hT.t1;rw[z,hT.a.k.o]at h;cases h
  ·exact n2 z
  ·exact n3 z
  ·exact n4 z
 have t18:TbG T1 ls1 H8:=t15.keep (fun ps e=>k57 _ _ nt1 e) fun c q e=>n8.cod e;have k08:KM (MK5 to T1 T2 T3 T4) H H8:=fun b u nb e=>k57 b u (fun z=>nb (.inr z)) (k5 b u (fun z=>nb (.inl z)) (s4 _ _ e));have t08:Tups H H8:=((Tups.of s4).trans n5.tups).trans n8.tups;have g38:=n8.tups _ _ (n5.tups _ _ g3);refine⟨sN1,fun t9 f9=>?_⟩;refine⟨p3,t9,[.str d.g,.ref pp,.ref po],(zf rfl ⟨rfl,SqT.of (old f9 g38),SqT.of zg,(by intro z;cases z),sN4,(fun e=>by simp at e),fun _ r fr=>?_⟩)⟩;have s9:Same H8 (upd (upd H8 t9 (.tup [.ref p7])) r (.tup ([.str d.g,.ref pp,.ref po]++[.ref p7]))):=(zi f9 _).new fr;exact q _ r (k08.trans (.of s9)) ⟨a8.same s9,t18.same s9⟩ ⟨pp,po,p7,zg,s9 _ _ (t08 _ _ h2),s9 _ _ (t08 _ _ h3),g2.keep (.of s9)⟩
def mkD:Dd->List (Nat×Str)
 |.mk _ ns k=>[(ns.length,k)]
 |_=>[]
mutual
def Bd.mks:Bd->List (Nat×Str)
 |.give _=>[]
 |.lt _ d b=>mkD d++b.mks
 |.hold _ _ b=>b.mks
 |.drop _ b=>b.mks
 |.loose _ b=>b.mks
 |.iff _ b c=>b.mks++c.mks
 |.cs _ as=>as.mks
def Arms.mks:Arms->List (Nat×Str)
 |.nil=>[]
 |.cons _ _ _ _ b r=>b.mks++r.mks
end
mutual
def Bd.atk:Bd->LS
 |.give _=>[]
 |.lt _ _ b=>b.atk
 |.hold _ _ b=>b.atk
 |.drop _ b=>b.atk
 |.loose _ b=>b.atk
 |.iff _ b c=>b.atk++c.atk
 |.cs _ as=>as.atk
def Arms.atk:Arms->LS
 |.nil=>[]
 |.cons _ _ _ k b r=>k::(b.atk++r.atk)
end
mutual
def Bd.cd:Bd->Nat
 |.give _=>0
 |.lt _ _ b=>b.cd
 |.hold _ _ b=>b.cd
 |.drop _ b=>b.cd
 |.loose _ b=>b.cd
 |.iff _ b c=>max b.cd c.cd
 |.cs _ as=>as.cd+1
def Arms.cd:Arms->Nat
 |.nil=>0
 |.cons _ _ _ _ b r=>max b.cd r.cd
end
mutual
def Bd.na:Bd->Nat
 |.give _=>0
 |.lt _ _ b=>b.na
 |.hold _ _ b=>b.na
 |.drop _ b=>b.na
 |.loose _ b=>b.na
 |.iff _ b c=>b.na+c.na
 |.cs _ as=>as.na
def Arms.na:Arms->Nat
 |.nil=>0
 |.cons _ _ _ _ b r=>b.na+r.na+1
end
mutual
theorem Bd.na_sz:∀b:Bd,b.na<=b.sz
 |.give _=>by rw[Bd.na];lia
 |.lt _ _ b=>by have:=Bd.na_sz b;rw[Bd.na,Bd.sz];lia
 |.hold _ _ b=>by have:=Bd.na_sz b;rw[Bd.na,Bd.sz];lia
 |.drop _ b=>by have:=Bd.na_sz b;rw[Bd.na,Bd.sz];lia
 |.loose _ b=>by have:=Bd.na_sz b;rw[Bd.na,Bd.sz];lia
 |.iff _ b c=>by have:=Bd.na_sz b;have:=Bd.na_sz c;rw[Bd.na,Bd.sz];lia
 |.cs _ as=>by have:=Arms.na_sz as;rw[Bd.na,Bd.sz];lia
theorem Arms.na_sz:∀as:Arms,as.na<=as.sz
 |.nil=>by rw[Arms.na];lia
 |.cons _ _ _ _ b r=>by have:=Bd.na_sz b;have:=Arms.na_sz r;rw[Arms.na,Arms.sz];lia
end
mutual
def Bd.ar:Bd->List ArmR
 |.give _=>[]
 |.lt _ _ b=>b.ar
 |.hold _ _ b=>b.ar
 |.drop _ b=>b.ar
 |.loose _ b=>b.ar
 |.iff _ b c=>b.ar++c.ar
 |.cs _ as=>as.l++as.ar
def Arms.ar:Arms->List ArmR
 |.nil=>[]
 |.cons _ _ _ _ b r=>b.ar++r.ar
end
mutual
theorem Bd.wy_st{k:Str}{n:Nat}:∀b:Bd,(b.wy k n).atk=b.atk/\(b.wy k n).cd=b.cd/\(b.wy k n).na=b.na/\(b.wy k n).ar.length=b.ar.length
 |.give _=>by rw[Bd.wy];exact⟨rfl,rfl,rfl,rfl⟩
 |.lt x d b=>by
  obtain⟨h1,h2,h3,h4⟩:=Bd.wy_st (k:=k) (n:=n) b;rw[Bd.wy];split
  ·refine⟨by rw[Bd.atk,Bd.atk],by rw[Bd.cd,Bd.cd],by rw[Bd.na,Bd.na],by rw[Bd.ar,Bd.ar]⟩
  ·refine⟨by rw[Bd.atk,Bd.atk,h1],by rw[Bd.cd,Bd.cd,h2],by rw[Bd.na,Bd.na,h3],by rw[Bd.ar,Bd.ar,h4]⟩
 |.hold _ _ b=>by
  obtain⟨h1,h2,h3,h4⟩:=Bd.wy_st (k:=k) (n:=n) b;rw[Bd.wy];exact⟨by rw[Bd.atk,Bd.atk,h1],by rw[Bd.cd,Bd.cd,h2],by rw[Bd.na,Bd.na,h3],by rw[Bd.ar,Bd.ar,h4]⟩
 |.drop _ b=>by
  obtain⟨h1,h2,h3,h4⟩:=Bd.wy_st (k:=k) (n:=n) b;rw[Bd.wy];exact⟨by rw[Bd.atk,Bd.atk,h1],by rw[Bd.cd,Bd.cd,h2],by rw[Bd.na,Bd.na,h3],by rw[Bd.ar,Bd.ar,h4]⟩
 |.loose _ b=>by
  obtain⟨h1,h2,h3,h4⟩:=Bd.wy_st (k:=k) (n:=n) b;rw[Bd.wy];exact⟨by rw[Bd.atk,Bd.atk,h1],by rw[Bd.cd,Bd.cd,h2],by rw[Bd.na,Bd.na,h3],by rw[Bd.ar,Bd.ar,h4]⟩
 |.iff x b c=>by
  obtain⟨h1,h2,h3,h4⟩:=Bd.wy_st (k:=k) (n:=n) b;obtain⟨g1,g2,g3,g4⟩:=Bd.wy_st (k:=k) (n:=n) c;have l:∀z:Bd,(Bd.loose k z).atk=z.atk/\(Bd.loose k z).cd=z.cd/\(Bd.loose k z).na=z.na/\(Bd.loose k z).ar=z.ar:=fun z=>⟨by rw[Bd.atk],by rw[Bd.cd],by rw[Bd.na],by rw[Bd.ar]⟩;have e:∀z:Bd,(z.wy k n).atk=z.atk->(z.wy k n).cd=z.cd->(z.wy k n).na=z.na->(z.wy k n).ar.length=z.ar.length->(if z.hasL n then z.wy k n else .loose k z).atk=z.atk/\(if z.hasL n then z.wy k n else .loose k z).cd=z.cd/\(if z.hasL n then z.wy k n else .loose k z).na=z.na/\(if z.hasL n then z.wy k n else .loose k z).ar.length=z.ar.length:=fun z a1 a2 a3 a4=>by
   obtain⟨l1,l2,l3,l4⟩:=l z;split
   ·exact⟨a1,a2,a3,a4⟩
   ·exact⟨l1,l2,l3,by rw[l4]⟩
  obtain⟨p1,p2,p3,p4⟩:=e b h1 h2 h3 h4;obtain⟨q1,q2,q3,q4⟩:=e c g1 g2 g3 g4;rw[Bd.wy];split
  ·exact⟨by rw[Bd.atk,Bd.atk,p1,q1],by rw[Bd.cd,Bd.cd,p2,q2],by rw[Bd.na,Bd.na,p3,q3],by rw[Bd.ar,Bd.ar,ub,ub,p4,q4]⟩
  ·exact⟨rfl,rfl,rfl,rfl⟩
 |.cs x as=>by
  obtain⟨h1,h2,h3,h4,h5⟩:=Arms.wy_st (k:=k) (n:=n) as;rw[Bd.wy];split
  ·exact⟨by rw[Bd.atk,Bd.atk,h1],by rw[Bd.cd,Bd.cd,h2],by rw[Bd.na,Bd.na,h3],by rw[Bd.ar,Bd.ar,ub,ub,h4,h5]⟩
  ·exact⟨rfl,rfl,rfl,rfl⟩
theorem Arms.wy_st{k:Str}{n:Nat}:∀as:Arms,(as.wy k n).atk=as.atk/\(as.wy k n).cd=as.cd/\(as.wy k n).na=as.na/\(as.wy k n).l.length=as.l.length/\(as.wy k n).ar.length=as.ar.length
 |.nil=>by rw[Arms.wy];exact⟨rfl,rfl,rfl,rfl,rfl⟩
 |.cons t ns m k' b r=>by
  obtain⟨h1,h2,h3,h4⟩:=Bd.wy_st (k:=k) (n:=n) b;obtain⟨g1,g2,g3,g4,g5⟩:=Arms.wy_st (k:=k) (n:=n) r;have l:∀z:Bd,(Bd.loose k z).atk=z.atk/\(Bd.loose k z).cd=z.cd/\(Bd.loose k z).na=z.na/\(Bd.loose k z).ar=z.ar:=fun z=>⟨by rw[Bd.atk],by rw[Bd.cd],by rw[Bd.na],by rw[Bd.ar]⟩;obtain⟨l1,l2,l3,l4⟩:=l b;rw[Arms.wy];split
  ·exact⟨by rw[Arms.atk,Arms.atk,h1,g1],by rw[Arms.cd,Arms.cd,h2,g2],by rw[Arms.na,Arms.na,h3,g3],by rw[Arms.l,Arms.l,um,um,g4],by rw[Arms.ar,Arms.ar,ub,ub,h4,g5]⟩
  ·exact⟨by rw[Arms.atk,Arms.atk,l1,g1],by rw[Arms.cd,Arms.cd,l2,g2],by rw[Arms.na,Arms.na,l3,g3],by rw[Arms.l,Arms.l,um,um,g4],by rw[Arms.ar,Arms.ar,ub,ub,l4,g5]⟩
end
def wiB(b:Bd):LS:=b.atk.filter fun k=>decide (k≠"")
def Tk(lo hi:Nat)(k:Str):Prop:=∃j,lo < j/\j<=hi/\k=tokS j
def resA(g:Bd->Nat->Bd×Nat)(as:Arms)(m:Nat):Arms×Nat:=(as.wb (mapL g as.bs m).1,(mapL g as.bs m).2)
mutual
def Bd.dp:Bd->Nat
 |.give _=>1
 |.lt _ _ b=>b.dp+1
 |.hold _ _ b=>b.dp+1
 |.drop _ b=>b.dp+1
 |.loose _ b=>b.dp+1
 |.iff _ b c=>max b.dp c.dp+1
 |.cs _ as=>as.dp+1
def Arms.dp:Arms->Nat
 |.nil=>0
 |.cons _ _ _ _ b r=>max b.dp r.dp
end
theorem Bd.dp_pos(b:Bd):0 < b.dp:=by cases b<;>rw[Bd.dp]<;>lia
mutual
theorem Bd.mu_dp:∀b:Bd,b.mu<=b.dp+b.cd
 |.give _=>by rw[Bd.mu,Bd.dp];lia
 |.lt _ _ b=>by have:=Bd.mu_dp b;rw[Bd.mu,Bd.dp,Bd.cd];lia
 |.hold _ _ b=>by have:=Bd.mu_dp b;rw[Bd.mu,Bd.dp,Bd.cd];lia
 |.drop _ b=>by have:=Bd.mu_dp b;rw[Bd.mu,Bd.dp,Bd.cd];lia
 |.loose _ b=>by have:=Bd.mu_dp b;rw[Bd.mu,Bd.dp,Bd.cd];lia
 |.iff _ b c=>by have:=Bd.mu_dp b;have:=Bd.mu_dp c;rw[Bd.mu,Bd.dp,Bd.cd];lia
 |.cs _ as=>by have:=Arms.mu_dp as;rw[Bd.mu,Bd.dp,Bd.cd];lia
theorem Arms.mu_dp:∀as:Arms,as.mu<=as.dp+as.cd
 |.nil=>by rw[Arms.mu];lia
 |.cons _ _ _ _ b r=>by have:=Bd.mu_dp b;have:=Arms.mu_dp r;rw[Arms.mu,Arms.dp,Arms.cd];lia
end
theorem ZE{M:Nat}:∀{as:Arms}{l:List Bd},l.length=as.bs.length->(∀c∈l,c.dp<=M)->(as.wb l).dp<=M
 |.nil,l,h,_=>by
  have:l=[]:=Uc.mp h
  rw[this];show Arms.nil.dp<=M;rw[Arms.dp];lia
 |.cons t ns m k b r,[],h,_=>by simp[Arms.bs]at h
 |.cons t ns m k b r,c::l,h,hc=>by
  unfold Arms.wb;rw[Arms.dp];have h1:=hc c (.head _);have h2:=ZE (as:=r) (l:=l) (by simpa[Arms.bs]using h) fun c h=>hc c (.tail _ h);lia
theorem zb3{M:Nat}{b:Bd}{l:List Bd}(h:l.length=b.kd.length)(hc:∀c∈l,c.dp<=M):(b.wb l).dp<=M+1:=by
 cases b with
 |give x=>show(Bd.give x).dp<=_;rw[Bd.dp];lia
 |cs x as=>show(Bd.cs x (as.wb l)).dp<=_;rw[Bd.dp];have:=ZE (as:=as) h hc;lia
 |iff x b c =>
  match l,h with
  |[b',c'],_=>show(Bd.iff x b' c').dp<=_;rw[Bd.dp];have:=hc b' (by simp);have:=hc c' (by simp);lia
 |lt x d b =>
  match l,h with
  |[b'],_=>show(Bd.lt x d b').dp<=_;rw[Bd.dp];have:=hc b' (by simp);lia
 |hold x d b =>
  match l,h with
  |[b'],_=>show(Bd.hold x d b').dp<=_;rw[Bd.dp];have:=hc b' (by simp);lia
 |drop x b =>
  match l,h with
  |[b'],_=>show(Bd.drop x b').dp<=_;rw[Bd.dp];have:=hc b' (by simp);lia
 |loose x b =>
  match l,h with
  |[b'],_=>show(Bd.loose x b').dp<=_;rw[Bd.dp];have:=hc b' (by simp);lia
theorem ZG{g:Bd->Nat->Bd×Nat}{c:Bd}:∀{l:List Bd}{n:Nat},c∈(mapL g l n).1->∃b∈l,∃m,c=(g b m).1
 |[],n,h=>by cases h
 |b::l,n,h=>by
  unfold mapL at h;rcases uq.mp h with e|h
  ·exact⟨b,.head _,n,e⟩
  ·obtain⟨b',h1,m,h2⟩:=ZG h
   exact⟨b',.tail _ h1,m,h2⟩
section
theorem Q4:∀(f:Nat)(b:Bd)(n:Nat),b.mu<=f->(AB nx f b n).1.dp<=b.mu
 |0,b,n,h=>by have:=b.mu_pos;lia
 |f+1,b,n,h=>by
  have hp:=b.mu_pos
  have:=zb3 (M:=b.mu-1) (b:=(b.chg nx n).1) (l:=(mapL (AB nx f) (b.chg nx n).1.kd (b.chg nx n).2).1) (xu _ _) fun c hc=>by
   obtain⟨b',h1,m,rfl⟩:=ZG hc;have h2:=Yo h1;have h3:=Q4 f b' m (by lia);lia
  show((b.chg nx n).1.wb (mapL (AB nx f) (b.chg nx n).1.kd (b.chg nx n).2).1).dp<=_;lia
theorem Y5:∀(as:Arms)(n:Nat),(as.tk nx n).1.cd=as.cd/\(as.tk nx n).1.bs.map Bd.na=as.bs.map Bd.na
 |.nil,n=>⟨rfl,rfl⟩
 |.cons t ns m k b r,n=>by
  unfold Arms.tk;obtain⟨w1,w2,w3,w4⟩:=Bd.wy_st (k:=tokS (nx n)) (n:=ns.length) b;obtain⟨a1,a2⟩:=Y5 r (nx n);obtain⟨b1,b2⟩:=Y5 r n;split
  ·refine⟨?_,?_⟩
   ·show(Arms.cons t ns m (tokS (nx n)) (b.wy (tokS (nx n)) ns.length) (r.tk nx (nx n)).1).cd=_
    rw[Arms.cd,Arms.cd,w2,a1]
   ·show(b.wy (tokS (nx n)) ns.length::(r.tk nx (nx n)).1.bs).map Bd.na=(b::r.bs).map Bd.na
    rw[ur,ur,w3,a2]
  ·refine⟨?_,?_⟩
   ·show(Arms.cons t ns m k b (r.tk nx n).1).cd=_
    rw[Arms.cd,Arms.cd,b1]
   ·show(b::(r.tk nx n).1.bs).map Bd.na=(b::r.bs).map Bd.na
    rw[ur,ur,b2]
theorem Y6{g:Bd->Nat->Bd×Nat}(hg:∀b n,(g b n).1.sz<=2 ^ b.cd*b.sz):∀(as:Arms)(m:Nat),(resA g as m).1.sz<=2 ^ as.cd*as.sz
 |.nil,m=>by show Arms.nil.sz<=_;rw[Arms.sz];lia
 |.cons t ns m' k b r,m=>by
  have h1:=hg b m;have h2:=Y6 hg r (g b m).2;show(Arms.cons t ns m' k (g b m).1 (resA g r (g b m).2).1).sz<=_;rw[Arms.sz,Arms.sz,Arms.cd];have p1:2 ^ b.cd<=2 ^ (max b.cd r.cd):=Uw (by decide) (by lia);have p2:2 ^ r.cd<=2 ^ (max b.cd r.cd):=Uw (by decide) (by lia);have p3:1<=2 ^ (max b.cd r.cd):=Nat.one_le_two_pow;generalize 2 ^ (max b.cd r.cd)=q at *;have q1:2 ^ b.cd*b.sz<=q*b.sz:=uN _ p1;have q2:2 ^ r.cd*r.sz<=q*r.sz:=uN _ p2;have q3:q*(b.sz+r.sz+1)=q*b.sz+q*r.sz+q:=by rw[Nat.mul_add,Nat.mul_add,Nat.mul_one]
  lia
theorem Vu:∀(f:Nat)(b:Bd)(n:Nat),(AB nx f b n).1.sz<=2 ^ b.cd*b.sz
 |0,b,n=>Nat.le_mul_of_pos_left _ (Nat.two_pow_pos _)
 |f+1,b,n=>by
  have ih:=Vu f;have one:∀{c p z:Nat},z<=2 ^ c*p->z+1<=2 ^ c*(p+1):=fun{c p z} h=>by
   have p3:1<=2 ^ c:=Nat.one_le_two_pow;rw[Nat.mul_add,Nat.mul_one];lia
  cases b with
  |give x=>exact Nat.le_mul_of_pos_left _ (Nat.two_pow_pos _)
  |lt x d b=>show(Bd.lt x d (AB nx f b n).1).sz<=_;rw[Bd.sz,Bd.sz,Bd.cd];exact one (ih b n)
  |hold x d b=>show(Bd.hold x d (AB nx f b n).1).sz<=_;rw[Bd.sz,Bd.sz,Bd.cd];exact one (ih b n)
  |drop x b=>show(Bd.drop x (AB nx f b n).1).sz<=_;rw[Bd.sz,Bd.sz,Bd.cd];exact one (ih b n)
  |loose x b=>show(Bd.loose x (AB nx f b n).1).sz<=_;rw[Bd.sz,Bd.sz,Bd.cd];exact one (ih b n)
  |iff x b c =>
   show(Bd.iff x (AB nx f b n).1 (AB nx f c (AB nx f b n).2).1).sz<=_;have h1:=ih b n;have h2:=ih c (AB nx f b n).2;rw[Bd.sz,Bd.sz,Bd.cd];have p1:2 ^ b.cd<=2 ^ (max b.cd c.cd):=Uw (by decide) (by lia);have p2:2 ^ c.cd<=2 ^ (max b.cd c.cd):=Uw (by decide) (by lia);have p3:1<=2 ^ (max b.cd c.cd):=Nat.one_le_two_pow;generalize 2 ^ (max b.cd c.cd)=q at *;have q1:2 ^ b.cd*b.sz<=q*b.sz:=uN _ p1;have q2:2 ^ c.cd*c.sz<=q*c.sz:=uN _ p2;have q3:q*(b.sz+c.sz+1)=q*b.sz+q*c.sz+q:=by rw[Nat.mul_add,Nat.mul_add,Nat.mul_one]
   lia
  |cs x as =>
   have h1:=Y6 ih (as.tk nx n).1 (as.tk nx n).2;have h2:=(Y4 (nx:=nx) as n).2;rw[(Y5 as n).1]at h1;show(Bd.cs x (resA (AB nx f) (as.tk nx n).1 (as.tk nx n).2).1).sz<=_;rw[Bd.sz,Bd.sz,Bd.cd,Nat.pow_succ];have p3:1<=2 ^ as.cd:=Nat.one_le_two_pow;generalize 2 ^ as.cd=q at *;have q1:q*(as.tk nx n).1.sz<=q*(2*as.sz):=Nat.mul_le_mul_left _ h2;have q2:q*2*(as.sz+1)=q*(2*as.sz)+q*2:=by rw[Nat.mul_assoc,Nat.mul_add,Nat.mul_add]
   lia
variable{C:Nat}(hC:∀m,nx m<=m+C)
include hC
theorem Yp:∀(as:Arms)(n:Nat),(as.tk nx n).2<=n+as.l.length*C
 |.nil,n=>by show n<=_;lia
 |.cons t ns m k b r,n=>by
  unfold Arms.tk;have h:=hC n;have h1:=Yp r (nx n);have h2:=Yp r n;show(if armK m ns b=true then _ else _:Arms×Nat).2<=n+(r.l.length+1)*C;rw[Nat.add_mul,Nat.one_mul];split
  ·show(r.tk nx (nx n)).2<=_;lia
  ·show(r.tk nx n).2<=_;lia
theorem ZH{g:Bd->Nat->Bd×Nat}(hg:∀b n,(g b n).2<=n+b.na*C):∀(l:List Bd)(n:Nat),(mapL g l n).2<=n+(l.map Bd.na).sum*C
 |[],n=>by show n<=_;lia
 |b::l,n=>by
  have h1:=hg b n;have h2:=ZH hg l (g b n).2;show(mapL g l (g b n).2).2<=_;rw[ur,uS,Nat.add_mul];lia
omit hC in
theorem Q5:∀as:Arms,as.na=as.l.length+(as.bs.map Bd.na).sum
 |.nil=>by rw[Arms.na];rfl
 |.cons t ns m k b r=>by
  rw[Arms.na,Q5 r];show _=(r.l.length+1)+((b::r.bs).map Bd.na).sum;rw[ur,uS];lia
theorem Yq:∀(f:Nat)(b:Bd)(n:Nat),(AB nx f b n).2<=n+b.na*C
 |0,b,n=>by show n<=_;lia
 |f+1,b,n=>by
  have ih:=Yq f;cases b with
  |give x=>show n<=_;lia
  |lt x d b=>rw[Bd.na];exact ih b n
  |hold x d b=>rw[Bd.na];exact ih b n
  |drop x b=>rw[Bd.na];exact ih b n
  |loose x b=>rw[Bd.na];exact ih b n
  |iff x b c =>
   have h1:=ih b n;have h2:=ih c (AB nx f b n).2;show(AB nx f c (AB nx f b n).2).2<=_;rw[Bd.na,Nat.add_mul];lia
  |cs x as =>
   have h1:=Yp hC as n;have h2:=ZH hC ih (as.tk nx n).1.bs (as.tk nx n).2;rw[(Y5 as n).2]at h2;show(mapL (AB nx f) (as.tk nx n).1.bs (as.tk nx n).2).2<=_;rw[Bd.na,Q5,Nat.add_mul];lia
end
noncomputable def anL (nx:Nat->Nat):List Df->Nat->List Df×Nat
 |[],n=>([],n)
 |d::l,n=>((d.an nx n).1::(anL nx l (d.an nx n).2).1,(anL nx l (d.an nx n).2).2)
theorem vG{nx:Nat->Nat}:∀(l:List Df)(a:Df)(n:Nat),anL nx (l++[a]) n=((anL nx l n).1++[(a.an nx (anL nx l n).2).1],(a.an nx (anL nx l n).2).2)
 |[],a,n=>rfl
 |x::l,a,n=>by
  show((x.an nx n).1::(anL nx (l++[a]) (x.an nx n).2).1,(anL nx (l++[a]) (x.an nx n).2).2)=_;rw[vG l]
  rfl
theorem Y7{nx:Nat->Nat}:∀(l:List Df)(n:Nat),(anL nx l n).1.length=l.length
 |[],n=>rfl
 |x::l,n=>by unfold anL;rw[um,um,Y7 l]
structure AnOk(d:Df):Prop where
 ps:d.ps.length<=1000
 bn:d.b.binds.length<=1000000
 sz:2 ^ d.b.cd*d.b.sz<=1000000
theorem AnOk.sz1(h:AnOk d):d.b.sz<=1000000:=uC (Nat.le_mul_of_pos_left _ (Nat.two_pow_pos _)) h.sz
theorem jU{tk:LS}(ht:tk.length<=11000000):∀(l:List Df)(n:Nat),(∀d∈l,AnOk d)->(anL (nxT tk) l n).2<=n+l.length*11000001000000
 |[],n,_=>by show n<=_;lia
 |d::l,n,h=>by
  have h1:=jU ht l (d.an (nxT tk) n).2 fun d hd=>h d (.tail _ hd);have h2:(d.an (nxT tk) n).2<=n+d.b.na*11000001:=Yq (C:=11000001) (fun m=>by have:=Vo tk m;lia) d.b.mu d.b n;have h3:=Bd.na_sz d.b;have h4:=(h d (.head _)).sz1;show(anL (nxT tk) l (d.an (nxT tk) n).2).2<=n+(l.length+1)*11000001000000;lia
theorem q8{tk:LS}(ht:tk.length<=11000000){l:List Df}(hd:AnOk d)(hl:l.length<=100)(h:∀d∈l,AnOk d):TOk (nxT tk) ⟨d.b.mu,(anL (nxT tk) l 0).2,d.b⟩:=by
 have h1:=jU ht l 0 h;have h2:(AB (nxT tk) d.b.mu d.b (anL (nxT tk) l 0).2).2<=(anL (nxT tk) l 0).2+d.b.na*11000001:=Yq (C:=11000001) (fun m=>by have:=Vo tk m;lia) d.b.mu d.b _;have h3:=Bd.na_sz d.b;have h4:=hd.sz1;refine⟨ud _,uC (Vu _ _ _) hd.sz,?_⟩;show(AB (nxT tk) d.b.mu d.b (anL (nxT tk) l 0).2).2<=LIMT;unfold LIMT
 have:l.length*11000001000000<=100*11000001000000:=uN _ hl
 lia
structure Tb4(T1 T2 T3 T4:Addr)(H:Hp):Prop where
 t1:TbG T1 ls1 H
 t2:TbG T2 ls2 H
 t3:TbG T3 ls3 H
 t4:TbG T4 ls4 H
def MT4(T1 T2 T3 T4:Addr)(b:Addr):Prop:=b=T1\/b=T2\/b=T3\/b=T4
theorem Tb4.same(h:Tb4 T1 T2 T3 T4 H)(s:Same H H'):Tb4 T1 T2 T3 T4 H':=⟨h.t1.same s,h.t2.same s,h.t3.same s,h.t4.same s⟩
theorem Tb4.nt(h:Tb4 T1 T2 T3 T4 H)(e:H b=some u)(n:∀ps,u≠.tbl ps):¬ MT4 T1 T2 T3 T4 b:=by
 rintro(z|z|z|z)
 ·exact h.t1.no e n z
 ·exact h.t2.no e n z
 ·exact h.t3.no e n z
 ·exact h.t4.no e n z
theorem Tb4.tups(h:Tb4 T1 T2 T3 T4 H)(k:KM (MT4 T1 T2 T3 T4) H H'):Tups H H':=fun b xs e=>k b _ (h.nt e (by intro _ z;cases z)) e
inductive spAnew(T1 T2 T3 T4:Addr)(vs:List V)(H:Hp)(Q:VK)(e_3:XK):Prop
 |mk (p:Addr):(∃ds:List Df,vs=[.ref p]/\IsCode H ds p/\(∀d∈ds,AnOk d)/\ds.length<=10/\Tb4 T1 T2 T3 T4 H/\∀H' r tk,KM (MT4 T1 T2 T3 T4) H H'->Tb4 T1 T2 T3 T4 H'->tk.length<=11000000->(∀x,x∈tk↔∃d∈ds,x∈d.ps++d.b.binds)->(∃v pd pr os rs,H p=some (.tup [v,.ref pd])/\H pd=some (.tup (os.map V.ref))/\H' r=some (.tup [v,.ref pr])/\H' pr=some (.tup (rs.map V.ref))/\IsDfs H ds os/\IsDfs H' (anL (nxT tk) ds 0).1 rs)->Q (.ref r) H')->spAnew T1 T2 T3 T4 vs H Q e_3
theorem IsDfs.snoc{o:Addr}(h:IsDfs H ds os)(g:IsDf H d o):IsDfs H (ds++[d]) (os++[o]):=by
 refine⟨by rw[ub,ub,h.1];rfl,fun i x y h1 h2=>?_⟩;by_cases c:i < ds.length
 ·rw[uT c]at h1
  rw[uT (by rw[<- h.1];exact c)]at h2;exact h.2 i x y h1 h2
 ·rw[uR (by lia)]at h1
  rw[uR (by rw[<- h.1];lia),<- h.1]at h2
  match hk:i-ds.length,h1,h2 with
  |0,h1,h2=>cases h1;cases h2;exact g
  |n+1,h1,h2=>simp at h1
theorem scAnew:FnScope ["code","tokens"] ["code"] (zp WB):=.ok
theorem zbp:(["code","tokens","one"]:LS).Nodup:=by decide +kernel
theorem q9(F:Fun K "anew" "anew" WB f fd)(GI:Ma P w K mg base CX0 3 "Tokens" cT ["self","code"] (spTInit cT))(GD:Ca P w K mg base CX0 10 "anew_def" ["tokens","one"] (spADef cT T1 T2 T3 T4))(m_tuple:mg "tuple"=none):FnOk P w K mg base CX0 11 f fd ["code"] (spAnew T1 T2 T3 T4):=by
 refine F.by scAnew (fun vs H Q E h=>?_) (fun cdv A outer s H vs Q E hr h=>?_)
 ·obtain⟨p,ds,rfl,_⟩:=h
  rfl
 obtain⟨p,ds,rfl,hc,hk,hl,hT,q⟩:=h;have hr4:Room (3+1) _:=hr.mono (by decide);refine⟨_,
  (zh (sE 1 scAnew.nd (Wx GI hr4 rfl xR (jA1 (jv 0))))
  (zk (zt (zr (jA2 (xT 0) (zB zz rfl m_tuple ut (jA1 (yo ["one"] rfl (yn (xT 0)) (fun _ _ _ _ _=>(gN 2 zbp)) (fun _ _ _ _ _=>zL) (fun _ _ _ _ _=>(cA GD hr (jA2 (jv 1) (jv 2)))))))))))),?_⟩
 have sl:=zJ;refine(zf rfl ?_);intro to dx hto hdx nxd;have s1:Same H (upd (upd H dx (.own to)) to (.ins cT dx [])):=fun b u e=>by rw[zj (zo e hto),zj (zo e hdx)];exact e
 have o1:=zg (H:=upd H dx (.own to)) (a:=to) (o:=.ins cT dx []);refine⟨to,dx,p,ds,rfl,o1,hc.keep (.of s1),fun d hd=>⟨(hk d hd).ps,(hk d hd).sz1,(hk d hd).bn⟩,hl,fun H2 td tk k2 ftd K2 tl tm=>⟨rfl,?_⟩⟩;have s2:Same H H2:=fun b u e=>k2 b u (zo e hto) (s1 _ _ e);have T2':=hT.same s2;obtain⟨v,pd,os,h1,h2,h3⟩:=id hc;have hnx:∀m,m < nxT tk m:=fun m=>(xt tk m).1;have A2:TA5 cT T1 T2 T3 T4 to dx td tk 0 H2:=⟨⟨K2,T2'.t2,T2'.t3,T2'.t4⟩,T2'.t1⟩;have nto:∀{b:Addr}{u:HO},H b=some u->b≠to:=fun e=>zo e hto;have kk:∀{H':Hp},KM (MK5 to T1 T2 T3 T4) H2 H'->KM (MT4 T1 T2 T3 T4) H H':=fun k b u nb e=>k b u (fun z=>by
  rcases z with z|z|z|z|z
  ·exact nb (.inl z)
  ·exact nto e z
  ·exact nb (.inr (.inl z))
  ·exact nb (.inr (.inr (.inl z)))
  ·exact nb (.inr (.inr (.inr z)))) (s2 _ _ e)
 refine(zf rfl (ixT (s2 _ _ h1) aI0 (zf rfl (ixT (s2 _ _ h1) aI1 ⟨pd,rfl,⟨_,SqT.of (s2 _ _ h2)⟩,xo (xs:=os.map V.ref) (fun j τ ys H'=>KM (MK5 to T1 T2 T3 T4) H2 H'/\TA5 cT T1 T2 T3 T4 to dx td tk (anL (nxT tk) (ds.take j) 0).2 H'/\(∃v,τ=[oR p,oR to,v])/\∃rs:List Addr,ys=rs.map V.ref/\IsDfs H' (anL (nxT tk) (ds.take j) 0).1 rs) ⟨KM.refl,A2,⟨none,rfl⟩,[],rfl,rfl,fun i d o h=>by simp[anL]at h⟩ (fun j τ ys H' _ h=>SqT.of (hT.tups (kk h.1) _ _ h2)) ?_ ?_⟩))))
 ·rintro j v' τ ys H3 hv ⟨k3,A3,⟨y,rfl⟩,rs,rfl,hrs⟩
  obtain⟨o,ho,rfl⟩:=L2.gM hv;have hj:j < ds.length:=by rw[h3.1];exact(ue.mp ho).1
  obtain⟨d,hd⟩:∃d,ds[j]?=some d:=⟨_,ui hj⟩;have tp:=hT.tups (kk k3);have hI:=(h3.2 j d o hd ho).keep tp;have tj:ds.take (j+1)=ds.take j++[d]:=by rw[uI,hd];rfl
  have rl:=hrs.1;rw[Y7,uH]at rl;refine(zf rfl (zf rfl ⟨to,dx,td,o,tk,_,d,rfl,hI,q8 tl (hk d (uv hd)) (by rw[uH];lia) (fun d hd=>hk d (List.mem_of_mem_take hd)),A3,fun H4 r k4 A4 hr4'=>⟨by rw[ua];lia,k3.trans k4,?_,⟨_,rfl⟩,rs++[r],by rw[uh];rfl,?_⟩⟩))
  ·rw[tj,vG];exact A4
  ·rw[tj,vG]
   have t34:Tups H3 H4:=fun b xs e=>k4 b _ (fun z=>by
    rcases z with z|z
    ·exact A3.t1.no e (by intro _ z;cases z) z
    ·exact A3.a.nt e (by intro _ z;cases z) (by intro _ _ _ z;cases z) z) e
   exact(hrs.keep t34).snoc hr4'
 rintro τ ys H3 ⟨k3,A3,_,rs,rfl,hrs⟩ l2 f2;rw[ua,<- h3.1,ux (ud _)]at A3 hrs;refine⟨l2,(zf rfl (.inl ⟨SqL.of zg,fun t3 f3=>⟨sN2,fun r fr=>?_⟩⟩))⟩;have s4:Same H3 (upd (upd (upd H3 l2 (.lst (rs.map V.ref))) t3 (.tup (rs.map V.ref))) r (.tup [v,.ref t3])):=((zi f2 _).new f3).new fr;refine q _ r tk ((kk k3).trans (.of s4)) ⟨A3.t1.same s4,A3.a.t2.same s4,A3.a.t3.same s4,A3.a.t4.same s4⟩ tl tm ⟨v,pd,t3,os,rs,h1,h2,zg,old fr zg,h3,hrs.keep (.of s4)⟩
end
theorem Vv(h:j < n):seqIndex? (j:Int) n=some j:=by
 unfold seqIndex?;simp
 lia
theorem xE{α β:Type}(g:α->β):∀(l:List α)(j:Nat),(l.map g).eraseIdx j=(l.eraseIdx j).map g
 |[],_=>rfl
 |_::_,0=>rfl
 |a::l,j+1=>by show g a::(l.map g).eraseIdx j=g a::(l.eraseIdx j).map g;rw[xE g l j]
theorem vH:jMt X "list.pop" We:=⟨Wf⟩
structure Wg where
 z:Str
 b:Bool
 T:List (Str×Nat×Nat)
 D:List (Str×List Bool)
structure WgOk(o:Wg):Prop where
 z:o.z.length<=6
 T:∀t∈o.T,t.2.1<=9
 T0:∃t,o.T[0]?=some t/\t.2.1=0
 Tn:o.T.length<=15
 Dn:o.D.length=3
 D:∀d∈o.D,d.2.length<=3
 Dd:(o.D.map (·.1)).Nodup
def TsAt{α:Type}(R:α->Hp->Addr->Prop)(H:Hp)(l:List α)(ts:List Addr):Prop:=l.length=ts.length/\∀(i:Nat)(a:α)(t:Addr),l[i]?=some a->ts[i]?=some t->R a H t
theorem TsAt.keep{α:Type}{R:α->Hp->Addr->Prop}{l:List α}(h:TsAt R H l ts)(k:∀a t,R a H t->R a H' t):TsAt R H' l ts:=⟨h.1,fun i a t h1 h2=>k _ _ (h.2 i a t h1 h2)⟩
theorem TsAt.at{α:Type}{R:α->Hp->Addr->Prop}{l:List α}{t:Addr}(h:TsAt R H l ts)(ht:ts[i]?=some t):∃a,l[i]?=some a/\R a H t:=by
 have hi:=(ue.mp ht).1;have e:l[i]?=some (l[i]'(by rw[h.1];exact hi)):=ui _;exact⟨_,e,h.2 i _ t e ht⟩
theorem TsAt.snoc{α:Type}{R:α->Hp->Addr->Prop}{l:List α}{a:α}{t:Addr}(h:TsAt R H l ts)(ha:R a H t):TsAt R H (l++[a]) (ts++[t]):=by
 refine⟨by rw[ub,ub,h.1];rfl,fun i x y h1 h2=>?_⟩;by_cases c:i < l.length
 ·rw[uT c]at h1
  rw[uT (by rw[<- h.1];exact c)]at h2;exact h.2 i x y h1 h2
 ·rw[uR (by lia)]at h1
  rw[uR (by rw[<- h.1];lia),<- h.1]at h2
  match hk:i-l.length,h1,h2 with
  |0,h1,h2=>cases h1;cases h2;exact ha
  |n+1,h1,h2=>simp at h1
def tgR(a:Str×Nat×Nat)(H:Hp)(t:Addr):Prop:=H t=some (.tup [.str a.1,.int (a.2.1:Nat),.int (a.2.2:Nat)])
def dfR(a:Str×List Bool)(H:Hp)(t:Addr):Prop:=∃q,H t=some (.tup [.str a.1,.ref q])/\H q=some (.tup (a.2.map V.bl))
theorem tgR.tk{a:Str×Nat×Nat}{t:Addr}(k:Tups H H')(h:tgR a H t):tgR a H' t:=k _ _ h
theorem dfR.tk{a:Str×List Bool}{t:Addr}(k:Tups H H')(h:dfR a H t):dfR a H' t:=by obtain⟨q,h1,h2⟩:=h;exact⟨q,k _ _ h1,k _ _ h2⟩
inductive WlAt(H:Hp)(wl:Addr)(o:Wg):Prop
 |mk (tl:Addr) (dl:Addr) (ts:List Addr) (us:List Addr):(∃xs:List V,H wl=some (.lst (.str o.z::.bl o.b::.ref tl::.ref dl::xs))/\H tl=some (.lst (ts.map V.ref))/\TsAt tgR H o.T ts/\H dl=some (.lst (us.map V.ref))/\TsAt dfR H o.D us)->WlAt H wl o
section
variable{K:uc}{st lm:Addr}{H0:Hp}{o:Wg}{M M':LS}
theorem WlAt.kp(h:WlAt H wl o)(S:Sta K H st B)(k:Kp st H H'):WlAt H' wl o:=by
 obtain⟨tl,dl,ts,us,xs,h1,h2,h3,h4,h5⟩:=h;have t:=k.tups S;exact⟨tl,dl,ts,us,xs,k.k _ _ (S.neW h1) h1,k.k _ _ (S.neR h2) h2,h3.keep fun _ _ z=>z.tk t,k.k _ _ (S.neR h4) h4,h5.keep fun _ _ z=>z.tk t⟩
structure Hd(K:uc)(st wl:Addr)(o:Wg)(H0 H:Hp)(lm:Addr)(M:LS)(B:Nat):Prop where
 ok:WgOk o
 s0:∃B0,Sta K H0 st B0
 w:WlAt H0 wl o
 f:H0 lm=none
 kp:Kp st H0 H
 s:Sta K H st B
 m:H lm=some (.lst (M.map V.str))
theorem Hd.wa(h:Hd K st wl o H0 H lm M B):WlAt H wl o:=by obtain⟨_,s0⟩:=h.s0;exact h.w.kp s0 h.kp
theorem Hd.ne(h:Hd K st wl o H0 H lm M B):lm≠st:=by obtain⟨_,s0⟩:=h.s0;exact s0.ne h.f
theorem Hd.go(h:Hd K st wl o H0 H lm M B)(k:Kp st H H')(s:Sta K H' st B'):Hd K st wl o H0 H' lm M B':=⟨h.ok,h.s0,h.w,h.f,h.kp.trans k,s,k.k _ _ h.ne h.m⟩
theorem Hd.same(h:Hd K st wl o H0 H lm M B)(s:Same H H'):Hd K st wl o H0 H' lm M B:=h.go (.of s) (h.s.same s)
theorem Hd.mono(h:Hd K st wl o H0 H lm M B)(l:B<=B'):Hd K st wl o H0 H lm M B':=⟨h.ok,h.s0,h.w,h.f,h.kp,h.s.mono l,h.m⟩
theorem Hd.set(h:Hd K st wl o H0 H lm M B):Hd K st wl o H0 (upd H lm (.lst (M'.map V.str))) lm M' B/\Tups H (upd H lm (.lst (M'.map V.str))):=by
 obtain⟨B0,s0⟩:=h.s0;exact⟨⟨h.ok,h.s0,h.w,h.f,h.kp.put h.f,s0.put h.f h.kp h.s,zg⟩,fun p xs q=>by rw[zj fun e=>by rw[e,h.m]at q;cases q];exact q⟩
theorem Hd.put(h:Hd K st wl o H0 H lm M B)(hp:H0 p=none)(n:p≠lm)(e:H p=some (.lst xs)):Hd K st wl o H0 (upd H p u) lm M B/\Tups H (upd H p u):=by
 obtain⟨B0,s0⟩:=h.s0;exact⟨⟨h.ok,h.s0,h.w,h.f,h.kp.put hp,s0.put hp h.kp h.s,by rw[zj (Ne.symm n)];exact h.m⟩,fun q ys z=>by rw[zj fun x=>by rw[x,e]at z;cases z];exact z⟩
theorem Hd.new(h:Hd K st wl o H0 H lm M B)(hp:H p=none):H0 p=none/\p≠lm/\p≠st:=by
 refine⟨h.kp.free (h.s.ne hp) hp,fun e=>?_,h.s.ne hp⟩;rw[e,h.m]at hp;cases hp
end
def LnD(_:List (Str×List Bool))(d:Dd):Prop:=(xr d).length<=1000/\∀q∈mkD d,q.2=""
theorem raw0{d:Dd}(h:mkD d=[]):∀q∈mkD d,q.2="":=fun q hq=>by rw[h]at hq;cases hq
theorem rawM{t:Str}{ns:LS}:∀q∈mkD (.mk t ns ""),q.2="":=fun q hq=>by rw[uE.mp hq]
inductive spSome(K:uc)(vs:List V)(H:Hp)(Q:VK)(e_3:XK):Prop
 |mk (st:Addr) (lm:Addr) (n:Nat) (M:LS) (B:Nat) (H0:Hp) (wl:Addr):(∃o:Wg,vs=[.ref st,.ref lm,.int (n:Nat)]/\Hd K st wl o H0 H lm M B/\n<=M.length/\n<=100/\M.length<=1000/\B+200 < LIM/\∀(H':Hp)(r:Addr)(N M':LS),Hd K st wl o H0 H' lm M' (B+n)->Tups H H'->M'.length+n=M.length->(∀x∈M',x∈M)->H' r=some (.tup (N.map V.str))->N.length=n->Q (.ref r) H')->spSome K vs H Q e_3
section
variable{K:uc}
theorem scSome:FnScope ["_law_state","_law_mine","_law_many","_law_names","_law_k"] lS6 (zp WE):=.ok
theorem Qa(F:Fun K "_law_some" "_law_some" WE f fd)(GD:Ca P w K mg base CX0 1 "_law_draw" lS1 (spDraw K))(m_range:mg "range"=none)(m_len:mg "len"=none)(m_tuple:mg "tuple"=none):FnOk P w K mg base CX0 2 f fd lS6 (spSome K):=by
 refine F.by scSome (fun vs H Q E h=>?_) (fun cdv A outer s H vs Q E hr h=>?_)
 ·obtain⟨st,lm,n,M,B,H0,wl,o,rfl,_⟩:=h
  rfl
 obtain⟨st,lm,n,M,B,H0,wl,o,rfl,hd,hn,hn9,hM,hB,q⟩:=h;refine⟨_,
  (zh (sE 3 scSome.nd (zC zE))
  (zh (zM PassesOwn.never rfl (zW rfl m_range (jA1 (jv 2))) (gN 4 scSome.nd)
   (zk (zF (zV uk uy uz zG (jv 3) (jA1 (zV uk uY uZ vH (jv 1) (jA1 (cA GD hr (jA2 (jv 0) (jL m_len (jv 1)))))))))))
  (zk (zt (zB zz rfl m_tuple ut (jA1 (jv 3))))))),?_⟩
 have sl:=zJ;have LM:LIM=4611686018427387904:=rfl;rw[LM]at hB;refine⟨sN0,fun nl hnl=>?_⟩;obtain⟨fn0,nlm,nst⟩:=hd.new hnl;have s1:=zi (o:=.lst []) hnl;refine(zf rfl (zf rfl ⟨by lia,by lia,yT (n:=((n:Nat):Int).toNat) (fun i σ H'=>∃(N M':LS)(z:Option V),σ=[oR st,oR lm,some (.int (n:Nat)),oR nl,z]/\Hd K st wl o H0 H' lm M' (B+i)/\Tups H H'/\H' nl=some (.lst (N.map V.str))/\N.length=i/\M'.length+i=M.length/\∀x∈M',x∈M) ⟨[],M,none,rfl,hd.same s1,.of s1,zg,rfl,rfl,fun _ z=>z⟩ ?_ ?_⟩))
 ·rintro i σ H1 hi ⟨N,M',z,rfl,h1,t1,g1,nl1,ml1,sub⟩
  rw[u6]at hi;refine(zf rfl ⟨.inl ⟨rfl,_,SqL.of g1⟩,(zf rfl ⟨.inl ⟨rfl,_,SqL.of h1.m⟩,(zf rfl (zf rfl ⟨lm,(zf rfl ⟨.inl (SqL.of h1.m),st,((M'.map V.str).length:Nat),B+i,rfl,h1.s,by rw[LM];lia,by rw[ua];lia,fun H2 r k2 S2 r0 r1=>?_⟩)⟩))⟩)⟩);rw[ua]at r1;obtain⟨j,rfl⟩:∃j:Nat,r=(j:Int):=⟨r.toNat,by lia⟩;have hj:j < M'.length:=by lia
  have h2:=h1.go k2 S2;have g2:=k2.k _ _ nst g1;have t2:=t1.trans (k2.tups h1.s);refine⟨lm,_,_,j,(zf rfl ⟨rfl,h2.m,by lia,by lia,Vv (by rw[ua];exact hj),(by rw[ug,ui hj];rfl),?_⟩)⟩;have e3:(M'.map V.str).eraseIdx j=(M'.eraseIdx j).map V.str:=xE _ _ _;rw[e3];obtain⟨h3,t3⟩:=h2.set (M':=M'.eraseIdx j);have g3:upd H2 lm (.lst ((M'.eraseIdx j).map V.str)) nl=some (.lst (N.map V.str)):=by rw[zj nlm];exact g2
  refine⟨nl,(zv rfl rfl ⟨g3,by rw[ua];lia,?_⟩)⟩;obtain⟨h4,t4⟩:=h3.put (u:=.lst (N.map V.str++[.str M'[j]])) fn0 nlm g3;refine⟨N++[M'[j]],M'.eraseIdx j,(zf rfl ⟨h4,(t2.trans t3).trans t4,by rw[zg,uh];rfl,by rw[ub,nl1];rfl,?_,fun x hx=>sub x (List.mem_of_mem_eraseIdx hx)⟩)⟩;rw[UE hj];lia
 ·rintro σ H1 ⟨N,M',z,rfl,h1,t1,g1,nl1,ml1,sub⟩
  rw[u6]at h1 nl1 ml1;refine(zf rfl ⟨nl,(zf rfl (.inl ⟨SqL.of g1,fun p hp=>?_⟩))⟩);have s2:=zi (o:=.tup (N.map V.str)) hp;exact q _ p N M' (h1.same s2) (t1.trans (.of s2)) ml1 sub zg nl1
inductive spCallG(K:uc)(vs:List V)(H:Hp)(Q:VK)(e_3:XK):Prop
 |mk (st:Addr) (lm:Addr) (ll:Addr) (po:Addr) (pm:Addr) (M:LS) (L:LS) (B:Nat) (H0:Hp) (wl:Addr) (o:Wg) (g:Str):(∃ms:List Bool,vs=[.ref st,.ref lm,.ref ll,.ref po]/\Hd K st wl o H0 H lm M B/\H0 ll=some (.lst (L.map V.str))/\H po=some (.tup [.str g,.ref pm])/\H pm=some (.tup (ms.map V.bl))/\ms.length<=3/\M.length<=1000/\L.length<=1000/\B+300 < LIM/\∀(H':Hp)(r:Addr)(d:Dd)(M':LS),Hd K st wl o H0 H' lm M' (B+10)->Tups H H'->(∀x∈M',x∈M)->M'.length<=M.length->IsDd H' d r->LnD o.D d->Q (.ref r) H')->spCallG K vs H Q e_3
def cnt(ms:List Bool):Nat:=(ms.filter id).length
theorem Yr(ms:List Bool):cnt ms<=ms.length:=List.length_filter_le _ _
theorem ZI{b:Bool}(h:ms[i]?=some b):cnt (ms.take (i+1))=cnt (ms.take i)+if b=true then 1 else 0:=by
 unfold cnt;rw[uI,h,List.filter_append,ub];cases b<;>rfl
theorem zbq(ms:List Bool)(i:Nat):cnt (ms.take i)<=cnt ms:=by
 unfold cnt;exact(List.Sublist.filter _ (List.take_sublist i ms)).length_le
theorem zbr(h:ms[i]?=some false):cnt ms < ms.length:=by
 unfold cnt;exact List.length_filter_lt_length_iff_exists.mpr ⟨false,uv h,by decide⟩
theorem scCallG:FnScope ["_law_state","_law_mine","_law_lent","_law_one","_law_many","_law_some_here","_law_near","_law_names","_law_own"] lS13 (zp WF):=.ok
theorem Vw(F:Fun K "_law_call" "_law_call" WF f fd)(GD:Ca P w K mg base CX0 1 "_law_draw" lS1 (spDraw K))(GS:Ca P w K mg base CX0 2 "_law_some" lS6 (spSome K))(m_len:mg "len"=none)(m_list:mg "list"=none)(m_tuple:mg "tuple"=none):FnOk P w K mg base CX0 3 f fd lS13 (spCallG K):=by
 refine F.by scCallG (fun vs H Q E h=>?_) (fun cdv A outer s H vs Q E hr h=>?_)
 ·obtain⟨st,lm,ll,po,pm,M,L,B,H0,wl,o,g,ms,rfl,_⟩:=h
  rfl
 obtain⟨st,lm,ll,po,pm,M,L,B,H0,wl,o,g,ms,rfl,hd,hL0,hpo,hpm,h9,hM,hLl,hB,q⟩:=h;have hr1:Room 1 _:=hr.mono (by decide);refine⟨_,
  (zh (sE 4 scCallG.nd (jL m_len (Zf [8] [] rfl (yn (xT 3)) (fun _ _ _ _ _=>(gN 8 scCallG.nd)) (fun _ _ _ _ _=>(xA (ya (jv 8)))) (fun _ _ _ _ _=>(jv 8)))))
  (zh (zy (jW.pt (yt (tN xV (jv 4) (jL m_len (jv 1))) (yv (jW.pt (yD (tN Zg (jv 4) (jL m_len (xT 3))) (yD (tN zD (jv 4) (jL m_len (jv 1))) (yG (tN (vj hr1) (jv 2) (zC zE)))))))))
   (zk (zt (zr (jA2 zq zn)))) zu)
  (zh (sE 5 scCallG.nd (zB zZ rfl m_list uO (jA1 (cA GS hr (jA3 (jv 0) (jv 1) (jv 4))))))
  (zh (sE 6 scCallG.nd (zw yj (jv 1) (jv 2)))
  (zh (sE 7 scCallG.nd (zC zE))
  (zh (zM PassesOwn.never rfl (yn (xT 3)) (gN 8 scCallG.nd)
   (zk (zy (ya (jv 8))
    (zk (zF (zV uk uy uz zG (jv 7) (jA1 (xK uk uY uZ xM (jv 5))))))
    (zk (zF (zV uk uy uz zG (jv 7) (jA1 (xX z7 (jv 6) (cA GD hr1 (jA2 (jv 0) (jL m_len (jv 6))))))))))))
  (zk (zt (zr (jA3 zq (xT 3) (zB zz rfl m_tuple ut (jA1 (jv 7))))))))))))),?_⟩
 have sl:=zJ;have LM:LIM=4611686018427387904:=rfl;rw[LM]at hB;have hL:H ll=some (.lst (L.map V.str)):=hd.kp.k _ _ (let ⟨_,s0⟩:=hd.s0;s0.neS hL0) hL0;refine(show ∀u:TS,(cnt ms<=M.length->(cnt ms < ms.length->cnt ms=M.length->L≠[])->∀H2:Hp,Same H H2->u { nx:=fun _ H'=>Q .non H',rt:=Q } [oR st,oR lm,oR ll,oR po,some (.int ((cnt ms:Nat):Int)),none,none,none,none] H2)->(tSeq _ (tSeq _ u):TS) { nx:=fun _ H'=>Q .non H',rt:=Q } [oR st,oR lm,oR ll,oR po,none,none,none,none,none] H from ?key) _ ?rst
 case key =>
  intro u rest;refine(zf rfl (ixT hpo aI1 ⟨pm,rfl,⟨_,SqT.of hpm⟩,xo (xs:=ms.map V.bl) (fun j τ ys H'=>H=H'/\(∃v,τ=[oR st,oR lm,oR ll,oR po,none,none,none,none,v])/\ys.length=cnt (ms.take j)) ⟨rfl,⟨none,rfl⟩,rfl⟩ (fun j τ ys H' _ h=>SqT.of (h.1 ▸ hpm)) ?_ ?_⟩))
  ·rintro j v τ ys H1 hv ⟨rfl,⟨v',rfl⟩,hy⟩
   obtain⟨b,hb,rfl⟩:=L2.gM hv;have ct:=ZI hb;have c1:=Yr (ms.take j);rw[uH]at c1;cases b with
   |true=>exact(zf rfl (zf rfl (iteT (zf rfl ⟨by lia,rfl,⟨_,rfl⟩,by rw[ub,hy,ct];rfl⟩))))
   |false=>exact(zf rfl (zf rfl (iteF ⟨rfl,⟨_,rfl⟩,by rw[hy,ct];rfl⟩)))
  rintro τ ys H1 ⟨rfl,_,hy⟩ l1 hl1;rw[ua,ux (ud _)]at hy;have s1:=zi (o:=.lst ys) hl1;refine⟨l1,ys,rfl,.inl (SqL.of zg),?_⟩;rw[hy];have h1:=hd.same s1;have po1:=s1 _ _ hpo;have pm1:=s1 _ _ hpm;have hL1:=s1 _ _ hL;generalize upd H l1 (.lst ys)=H1 at *;have num:∀H2 r,Same H1 H2->H2 r=none->Q (.ref r) (upd H2 r (.tup [.str "num",.int 8])):=fun H2 r s2 f=>by
   have s3:=s2.new (o:=.tup [.str "num",.int 8]) f;exact q _ r (.num 8) M ((h1.same s3).mono (by lia)) (.of (s1.trans s3)) (fun _ z=>z) (ud _) zg ⟨by show 0<=1000;decide,raw0 rfl⟩
  refine(zf rfl (zf rfl ⟨lm,(zf rfl ⟨.inl (SqL.of h1.m),(zv rfl rfl (zf rfl ?_))⟩)⟩));rw[ua];by_cases c1:M.length < cnt ms
  ·exact zR (decide_eq_true (by lia)) (iteT ⟨sN2,fun r f=>num H1 r (Same.refl _) f⟩)
  ·refine iteE (decide_eq_false (by lia)) ?_
   refine(zf rfl (zf rfl (ixT po1 aI1 ⟨pm,(zf rfl ⟨.inr (SqT.of pm1),(zv rfl rfl (zf rfl ?_))⟩)⟩)));rw[ua];by_cases c2:cnt ms < ms.length
   ·refine zR (decide_eq_true (by lia)) ?_
    refine(zf rfl (zf rfl ⟨lm,(zf rfl ⟨.inl (SqL.of h1.m),rfl,(zf rfl ?_)⟩)⟩));by_cases c3:cnt ms=M.length
    ·refine zR (decide_eq_true (by rw[c3,ua])) ?_
     refine(zf rfl ⟨sN0,fun l2 f2=>?_⟩);have s2:=zi (o:=.lst []) f2;refine⟨ll,l2,(zf rfl ⟨rfl,SqL.of (s2 _ _ hL1),SqL.of zg,(zf rfl ?_)⟩)⟩;by_cases e:L=[]
     ·exact zR (show(L.map V.str).isEmpty=true by rw[e];rfl) ⟨sN2,fun r f=>num _ r s2 f⟩
     ·exact iteE (show(L.map V.str).isEmpty=false by rw[List.isEmpty_map];simpa using e) (nxtC (rest (by lia) (fun _ _=>e) _ (s1.trans s2)))
    ·refine iteE (decide_eq_false fun z=>c3 (by rw[V.int.injEq,ua]at z;lia)) (iteF (nxtC (rest (by lia) (fun _ z=>absurd z c3) _ s1)))
   ·exact iteE (decide_eq_false (by lia)) (iteF (nxtC (rest (by lia) (fun z=>absurd z c2) _ s1)))
 intro hcM hne H2 s2;have h2:=hd.same s2;refine(zf rfl (zf rfl (zf rfl ⟨st,lm,cnt ms,M,B,H0,wl,o,rfl,h2,hcM,by have:=Yr ms;lia,hM,by rw[LM];lia,fun H3 r3 N M' h3 t3 ml3 sub g3 nl3=>?_⟩)));refine⟨r3,(zf rfl ⟨.inr (SqT.of g3),fun l4 f4=>?_⟩)⟩;have h4:=h3.same (zi (o:=.lst (N.map V.str)) f4);obtain⟨f40,n4m,n4s⟩:=h3.new f4;have t4:Tups H2 (upd H3 l4 (.lst (N.map V.str))):=t3.trans (.of (zi f4 _));have g4:=zg (H:=H3) (a:=l4) (o:=.lst (N.map V.str));have hL4:upd H3 l4 (.lst (N.map V.str)) ll=some (.lst (L.map V.str)):=h4.kp.k _ _ (let ⟨_,s0⟩:=hd.s0;s0.neS hL0) hL0;refine(zf rfl (zf rfl ⟨lm,ll,(zv rfl rfl ⟨h4.m,hL4,by rw[ua,ua];lia,fun l5 f5=>?_⟩)⟩));have s5:=zi (o:=.lst (M'.map V.str++L.map V.str)) f5;have h5:=h4.same s5;obtain⟨f50,n5m,n5s⟩:=h4.new f5;have n54:l5≠l4:=(zo g4 f5).symm;refine⟨sN0,fun l6 f6=>?_⟩;have s6:=s5.new (o:=.lst []) f6;have h6:=h4.same s6;obtain⟨f60,n6m,n6s⟩:=h5.new f6;have n64:l6≠l4:=(zo (s5 _ _ g4) f6).symm;have n65:l6≠l5:=(zo zg f6).symm;have g46:=s6 _ _ g4;have g56:=old (o:=.lst []) f6 (zg (H:=upd H3 l4 (.lst (N.map V.str))) (a:=l5) (o:=.lst (M'.map V.str++L.map V.str)));have t6:=t4.trans (.of s6);have po6:=t6 _ _ (s2 _ _ hpo);have pm6:=t6 _ _ (s2 _ _ hpm);have cl:=Yr ms;refine(zf rfl (ixT po6 aI1 ⟨pm,rfl,⟨_,SqT.of pm6⟩,xx (xs:=ms.map V.bl) (fun i σ H'=>∃(N' X:LS)(z:Option V),σ=[oR st,oR lm,oR ll,oR po,some (.int ((cnt ms:Nat):Int)),oR l4,oR l5,oR l6,z]/\Hd K st wl o H0 H' lm M' (B+cnt ms+i)/\Tups H2 H'/\H' l4=some (.lst (N'.map V.str))/\N'.length+cnt (ms.take i)=cnt ms/\H' l5=some (.lst (M'.map V.str++L.map V.str))/\H' l6=some (.lst (X.map V.str))/\X.length=i) ⟨N,[],none,rfl,h6,t6,g46,nl3,g56,zg,rfl⟩ (fun i σ H' _ h=>?_) ?_ ?_⟩))
 ·obtain⟨_,_,_,_,_,t,_⟩:=h
  exact SqT.of (t _ _ (s2 _ _ hpm))
 ·rintro i v σ H7 hv ⟨N',X,z,rfl,h7,t7,g4',nl7,g5',g6',xl⟩
  obtain⟨b,hb,rfl⟩:=L2.gM hv;have hi:i < ms.length:=(ue.mp hb).1;have ct:=ZI hb;cases b with
  |true =>
   have ct1:cnt (ms.take (i+1))=cnt (ms.take i)+1:=ct;have ctl:=zbq ms (i+1);have hN:0 < N'.length:=by lia
   refine(zf rfl (zf rfl (iteT ?_)));refine(zf rfl ⟨.inl ⟨rfl,_,SqL.of g6'⟩,(zf rfl ⟨.inl ⟨rfl,_,SqL.of g4'⟩,l4,_,.str (N'[N'.length-1]'(by lia)),rfl,rfl,g4',by rw[ua,ug,ui (by lia)];rfl,?_⟩)⟩);rw[<- List.map_dropLast];obtain⟨h8,t8⟩:=h7.put (u:=.lst (N'.dropLast.map V.str)) f40 n4m g4';have g68:upd H7 l4 (.lst (N'.dropLast.map V.str)) l6=some (.lst (X.map V.str)):=by rw[zj n64];exact g6'
   refine⟨l6,(zv rfl rfl ⟨g68,by rw[ua];lia,?_⟩)⟩;obtain⟨h9',t9⟩:=h8.put (u:=.lst (X.map V.str++[.str (N'[N'.length-1]'(by lia))])) f60 n6m g68;refine⟨N'.dropLast,X++[N'[N'.length-1]'(by lia)],(zf rfl ⟨h9'.mono (by lia),(t7.trans t8).trans t9,by rw[zj (Ne.symm n64),zg],by rw[List.length_dropLast];lia,by rw[zj (Ne.symm n65),zj n54];exact g5',by rw[zg,uh];rfl,by rw[ub,xl];rfl⟩)⟩
  |false =>
   have ct1:cnt (ms.take (i+1))=cnt (ms.take i)+0:=ct;have clt:=zbr hb;have hne':0 < (M'.map V.str++L.map V.str).length:=by
    rw[ub,ua,ua];by_cases c:cnt ms=M.length
    ·have:=List.length_pos_iff.mpr (hne clt c)
     lia
    ·lia
   refine(zf rfl (zf rfl (iteF ?_)));refine(zf rfl ⟨.inl ⟨rfl,_,SqL.of g6'⟩,(zf rfl (zf rfl (zf rfl ⟨l5,(zf rfl ⟨.inl (SqL.of g5'),st,((M'.map V.str++L.map V.str).length:Nat),B+cnt ms+i,rfl,h7.s,by rw[LM];lia,by lia,fun H8 r k8 S8 r0 r1=>?_⟩)⟩)))⟩);obtain⟨j,rfl⟩:∃j:Nat,r=(j:Int):=⟨r.toNat,by lia⟩;have hj:j < (M'.map V.str++L.map V.str).length:=by lia
   have hjs:∃x:Str,(M'.map V.str++L.map V.str)[j]?=some (.str x):=by
    rw[<- uh,ug];rw[<- uh,ua]at hj;exact⟨_,by rw[ui hj];rfl⟩
   obtain⟨x,hx⟩:=hjs;have h8:=h7.go k8 S8;have g68:=k8.k _ _ n6s g6';refine⟨l5,_,_,_,rfl,rfl,SqL.of (k8.k _ _ n5s g5'),zN hx,l6,(zv rfl rfl ⟨g68,by rw[ua];lia,?_⟩)⟩;obtain⟨h9',t9⟩:=h8.put (u:=.lst (X.map V.str++[.str x])) f60 n6m g68;exact⟨N',X++[x],(zf rfl ⟨h9',(t7.trans (k8.tups h7.s)).trans t9,by rw[zj (Ne.symm n64)];exact k8.k _ _ n4s g4',by rw[ct1];exact nl7,by rw[zj (Ne.symm n65)];exact k8.k _ _ n5s g5',by rw[zg,uh];rfl,by rw[ub,xl];rfl⟩)⟩
 ·rintro σ H7 ⟨N',X,z,rfl,h7,t7,g4',nl7,g5',g6',xl⟩
  rw[ua]at h7 xl;have po7:=t7 _ _ (s2 _ _ hpo);refine(zf rfl (ixT po7 aI0 (zf rfl ⟨l6,(zf rfl (.inl ⟨SqL.of g6',fun t8 f8=>⟨sN3,fun r f9=>?_⟩⟩))⟩)));have s9:=(zi (o:=.tup (X.map V.str)) f8).new (o:=.tup [.str "call",.str g,.ref t8]) f9;refine q _ r (.call g X) M' ((h7.same s9).mono (by lia)) ((Tups.of s2).trans (t7.trans (.of s9))) sub (by lia) ⟨t8,zg,old f9 zg⟩ ⟨by show X.length<=1000;lia,raw0 rfl⟩
end
end GN
namespace L2
open PySem PySem.Spec PyProof.Rows
theorem XF(a b c:Value):argsOk "min" ⟨[a,b,c],[]⟩:=by unfold argsOk;kernel_rfl
theorem XG{a b c:Value}{ps:Array (Int×Tok)}(hps:intItems ps=#[a,b,c]){Q:VSP}(hh:A.handled=none)(q:∀v h' tk,(∃i:Nat,(intItems ps)[i]?=some v/\∀j,j < 3->numAt ps i<=numAt ps j)->(∀c o,s.heap.get? c=some o->h'.get? c=some o)->Q v { s with heap:=h',toks:=tk }):
  wpAny (model prog w) A (call (.builtin "min") [a,b,c]) Q E s:=by
 have nm:(toString "min" ++ toString ".loop":String)="min.loop":=by decide
 refine call_function_tree F.kind_min F.plain_min F.entry_min (XF _ _ _) ?_;show wpAny _ A.in1 (Builtin.Builtins.bindParams "min" ["key","default"] 0 ⟨[],[]⟩ >>= _) _ _ s;refine wpAny_bind (wpAny_of_eq (by exact rfl:Builtin.Builtins.bindParams "min" ["key","default"] 0 ⟨[],[]⟩=pure [none,none]) ?_);show wpAny _ A.in1 (newTuple [a,b,c] >>= _) _ _ s;refine wpAny_bind (wpAny_newObj_type ?_);have hT:(s.heap.push { cls:=.type "tuple",data:=.seq #[a,b,c] }).IsTuple s.heap.objs.size (intItems ps):=⟨_,uu _ rfl,rfl,0,by rw[hps]⟩;have z1:(s.heap.push { cls:=.type "tuple",data:=.seq #[a,b,c] }).objs.size=s.heap.objs.size+1:=Um ..;refine wpAny_bind (wpAny_pyIter_tuple hT ?_);refine wpAny_bind (wpAny_newObj_type ?_);rw[nm];have W:=Walks.tuple (prog:=prog) (w:=w) (A:=A.in1) hh (s.heap.push { cls:=.type "tuple",data:=.seq #[a,b,c] }).objs.size s.heap.objs.size (by rw[z1];exact uK (Uf _)) (intItems ps);have sz:(intItems ps).size=3:=by rw[hps];rfl
 have hst:((s.heap.push { cls:=.type "tuple",data:=.seq #[a,b,c] }).push { cls:=.type "tuple_iterator",data:=.fields #[.ref s.heap.objs.size,.int 0 0] }).objs.size=s.heap.objs.size+2:=by rw[Um,z1]
 refine wpAny_pure ⟨plainId_quiet F.plain_min_loop _,codeAny_min_loop_first W _ (CmpOf.ints_lt (numAt ps) (fun _ _=>intItems_at)) _ (fun hm=>?_) (by rw[sz];decide) (W.frame _ _ _ ⟨⟨_,uu _ rfl,rfl,rfl⟩,hT.push _⟩ fun b _ o e=>uf _ e) (uu _ rfl) fun v h' tk hP hk=>?_⟩
 ·dsimp only at hm
  simp only[uq,Ui,or_false]at hm
  rcases hm with e|e
  ·exact Nat.ne_of_gt (show _ < _ by rw[hst,z1];exact Uf _) e
  ·exact Nat.ne_of_gt (show _ < _ by rw[hst];exact Nat.lt_succ_of_lt (Uf _)) e
 ·obtain⟨b1,b2⟩:=argBest_lt (numAt ps) ((intItems ps).size-1)
  refine q v h' tk ⟨_,hP,fun j hj=>b2 j (by lia)⟩ fun x o e=>?_;have lt:=uA e;refine hk x o (fun hm=>?_) (fun e=>?_) (uf _ (uf _ (uf _ e)))
  ·simp only[uq,Ui,or_false]at hm
   exact uK (Nat.lt_trans lt (by rw[z1];exact Uf _)) hm
  ·exact uK (Nat.lt_trans lt (by rw[hst];exact Nat.lt_succ_of_lt (Uf _))) e
theorem XH(hc:X.calm=true):yE X (.builtin "min") (fun xs H Q=>∃i j k,xs=[.int i,.int j,.int k]/\∀r,(r=i\/r=j\/r=k)->r<=i->r<=j->r<=k->Q (.int r) H):=by
 intro pins s σ H xs us Q I r h;obtain⟨i,j,k,rfl,q⟩:=h;cases r with
 |cons a r =>
  obtain⟨u,w',rfl,⟨t2,rfl⟩,⟨t3,rfl⟩⟩:=YC r;obtain⟨t1,rfl⟩:=a;refine XG (ps:=#[(i,t1),(j,t2),(k,t3)]) (by simp[intItems]) (I.ok.hd hc) fun v h' tk ⟨n,hn,hle⟩ kk=>?_;have l0:=hle 0 (by decide);have l1:=hle 1 (by decide);have l2:=hle 2 (by decide);have hn3:n < 3:=by
   obtain⟨h,_⟩:=Array.getElem?_eq_some_iff.mp hn;simpa[intItems]using h
  match n,hn3 with
  |0,_ =>
   have e:Value.int i t1=v:=by simpa[intItems]using hn
   subst e;exact⟨.int i,H,I.kept kk,⟨_,rfl⟩,q i (.inl rfl) l0 l1 l2⟩
  |1,_ =>
   have e:Value.int j t2=v:=by simpa[intItems]using hn
   subst e;exact⟨.int j,H,I.kept kk,⟨_,rfl⟩,q j (.inr (.inl rfl)) l0 l1 l2⟩
  |2,_ =>
   have e:Value.int k t3=v:=by simpa[intItems]using hn
   subst e;exact⟨.int k,H,I.kept kk,⟨_,rfl⟩,q k (.inr (.inr rfl)) l0 l1 l2⟩
theorem Qb(hc:X.calm=true):jCa X (.builtin "min") (fun xs H Q=>∃i j k,xs=[.int i,.int j,.int k]/\∀r,(r=i\/r=j\/r=k)->r<=i->r<=j->r<=k->Q (.int r) H):=⟨XH hc⟩
end L2
namespace GN
open PySem L2 K11
variable{T:Str->Prop}
inductive spDeedG(K:uc)(vs:List V)(H:Hp)(Q:VK)(e_3:XK):Prop
 |mk (st:Addr) (lm:Addr) (ll:Addr) (wl:Addr) (M:LS) (L:LS) (B:Nat) (H0:Hp):(∃o:Wg,vs=[.ref st,.ref lm,.ref ll,.ref wl]/\Hd K st wl o H0 H lm M B/\H0 ll=some (.lst (L.map V.str))/\M.length<=500/\L.length<=500/\B+500 < LIM/\∀(H':Hp)(r:Addr)(d:Dd)(M':LS),Hd K st wl o H0 H' lm M' (B+30)->Tups H H'->(∀x∈M',x∈M)->M'.length<=M.length->IsDd H' d r->LnD o.D d->Q (.ref r) H')->spDeedG K vs H Q e_3
section
variable{K:uc}
theorem scDeedG:FnScope ["_law_state","_law_mine","_law_lent","_law_world_here","_law_near","_law_way","_law_some_here","_law_tag","_law_size","_law_kind","_law_name_here","_law_modes","_law_g"] lS11 (zp Ye):=.ok
theorem Qc:(["_law_state","_law_mine","_law_lent","_law_world_here","_law_near","_law_way","_law_some_here","_law_tag","_law_size","_law_kind","_law_name_here","_law_modes","_law_g","_law_one"]:LS).Nodup:=by decide +kernel
theorem Vx(F:Fun K "_law_deed" "_law_deed" Ye f fd)(GD:Ca P w K mg base CX0 1 "_law_draw" lS1 (spDraw K))(GS:Ca P w K mg base CX0 2 "_law_some" lS6 (spSome K))(GC:Ca P w K mg base CX0 3 "_law_call" lS13 (spCallG K))(m_len:mg "len"=none)(m_all:mg "all"=none)(m_min:mg "min"=none):FnOk P w K mg base CX0 4 f fd lS11 (spDeedG K):=by
 refine F.by scDeedG (fun vs H Q E h=>?_) (fun cdv A outer s H vs Q E hr h=>?_)
 ·obtain⟨st,lm,ll,wl,M,L,B,H0,o,rfl,_⟩:=h
  rfl
 obtain⟨st,lm,ll,wl,M,L,B,H0,o,rfl,hd,hL0,hM,hLl,hB,q⟩:=h;have hr1:Room 1 _:=hr.mono (by decide);have hr2:Room 2 _:=hr.mono (by decide);refine⟨_,
  (zh (sE 4 scDeedG.nd (zw yj (jv 1) (jv 2)))
  (zh (sE 5 scDeedG.nd (cA GD hr1 (jA2 (jv 0) zn)))
  (zh (zy (jW.pt (yt (tN zD (jv 5) zn) (yv (tN (vj hr1) (jv 4) (zC zE)))))
   (zk (zt (zr (jA2 zq (zw xc (cA GD hr1 (jA2 (jv 0) zn)) zn))))) zu)
  (zh (zy (tN zD (jv 5) zn)
   (zk (zt (zr (jA4 zq zq (xX z7 (jv 4) (cA GD hr1 (jA2 (jv 0) (jL m_len (jv 4))))) (xX z7 (jv 4) (cA GD hr1 (jA2 (jv 0) (jL m_len (jv 4))))))))) zu)
  (zh (zy (tN Zg (jv 5) zn)
   (zh (ye ["_law_one"] (i:=6) scDeedG.nd rfl (Or.inl rfl) rfl (zY (xL 3)) (fun _ _ _ _ _=>(gN 13 Qc)) (fun _ _ _ _ _=>(xA (tN Wo (yg (yh K) (jv 13) zn (fun _ _=>rfl)) (ym (Zi K) rfl m_len PySem.boot_len (jA1 (jv 1)))))) (fun _ _ _ _ _=>(jv 13)))
   (zh (xb (xX z7 (jv 6) (cA GD hr1 (jA2 (jv 0) (jL m_len (jv 6))))) (yR rfl (zA (gN 7 scDeedG.nd) (zA (gN 8 scDeedG.nd) (zA (gN 9 scDeedG.nd) yf)))))
   (zk (zt (zr (jA4 zq (jv 7) (cA GS hr2 (jA3 (jv 0) (jv 1) (jv 8))) zq)))))) zu)
  (zh (xb (xX z7 (xL 3) (cA GD hr1 (jA2 (jv 0) zn))) (yR rfl (zA (gN 10 scDeedG.nd) (zA (gN 11 scDeedG.nd) yf))))
  (zh (zy (tN zD (jv 5) zn)
   (zk (zt (cA GC hr (jA4 (jv 0) (jv 1) (jv 2) (zr (jA2 (jv 10) (jv 11))))))) zu)
  (zh (zy (jW.pt (yD (ya (ym (vN rfl) rfl m_all PyProof.Rows.boot_all (jA1 (jv 11)))) (yG (tN zD (cA GD hr1 (jA2 (jv 0) zn)) zn))))
   (zk (zt (zr (jA3 zq (jv 10) (cA GS hr2 (jA3 (jv 0) (jv 1) (ym (Qb rfl) rfl m_min UL (jA3 (jL m_len (jv 11)) (jL m_len (jv 1)) (cA GD hr1 (jA2 (jv 0) zn)))))))))) zu)
  (zh (zy (tN (vj hr1) (jv 1) (zC zE))
   (zk (zt (zr (jA2 zq zn)))) zu)
  (zh (sE 12 scDeedG.nd (zV uk uY uZ vH (jv 1) (jA1 (cA GD hr1 (jA2 (jv 0) (jL m_len (jv 1)))))))
  (zk (zt (zr (jA3 zq (jv 12) (cA GS hr2 (jA3 (jv 0) (jv 1) (ym (jD rfl) rfl m_min UL (jA2 (jL m_len (jv 1)) (cA GD hr1 (jA2 (jv 0) zn)))))))))))))))))))),?_⟩
 have sl:=zJ;have LM:LIM=4611686018427387904:=rfl;rw[LM]at hB;have hL:H ll=some (.lst (L.map V.str)):=hd.kp.k _ _ (let ⟨_,s0⟩:=hd.s0;s0.neS hL0) hL0;refine(zf rfl (zf rfl ⟨lm,ll,(zv rfl rfl ⟨hd.m,hL,by rw[ua,ua];lia,fun l1 f1=>?_⟩)⟩));have s1:=zi (o:=.lst (M.map V.str++L.map V.str)) f1;obtain⟨f10,n1m,n1s⟩:=hd.new f1;have h1:=hd.same s1;have g1:=zg (H:=H) (a:=l1) (o:=.lst (M.map V.str++L.map V.str));refine(zf rfl ⟨st,8,B,rfl,h1.s,by rw[LM];lia,by decide,fun H2 r k2 S2 r0 r1=>?_⟩);have h2:=h1.go k2 S2;have g2:=k2.k _ _ n1s g1;have t2:Tups H H2:=(Tups.of s1).trans (k2.tups h1.s);refine(zf rfl ⟨rfl,(zf rfl ?_)⟩);have dn:∀(x y:Int)(z:Str),LnD o.D (.num x):=fun x _ _=>⟨by show 0<=1000;decide,raw0 rfl⟩;by_cases c0:r=0
 ·refine zR (decide_eq_true (by rw[c0])) (iteT (zf rfl ⟨st,9,B+1,rfl,h2.s,by rw[LM];lia,by decide,fun H4 r4 k4 S4 _ _=>(zv rfl rfl ⟨sN2,fun p f=>?_⟩)⟩))
  exact q _ p (.num _) M (((h2.go k4 S4).same (zi f _)).mono (by lia)) (t2.trans ((k4.tups h2.s).trans (.of (zi f _)))) (fun _ z=>z) (ud _) zg (dn _ 0 "")
 refine iteE (decide_eq_false fun z=>c0 (V.int.inj z)) (zf rfl ⟨sN0,fun l3 f3=>?_⟩);have s3:=zi (o:=.lst []) f3;have h3:=h2.same s3;have g3:=s3 _ _ g2;have t3:=t2.trans (.of s3);refine⟨l1,l3,(zf rfl ⟨rfl,SqL.of g3,SqL.of zg,(zf rfl ?_)⟩)⟩;by_cases ce:(M.map V.str++L.map V.str).isEmpty=true
 ·refine zR ce (zf rfl ⟨st,9,B+1,rfl,h3.s,by rw[LM];lia,by decide,fun H4 r4 k4 S4 _ _=>(zv rfl rfl ⟨sN2,fun p f=>?_⟩)⟩)
  exact q _ p (.num _) M (((h3.go k4 S4).same (zi f _)).mono (by lia)) (t3.trans ((k4.tups h3.s).trans (.of (zi f _)))) (fun _ z=>z) (ud _) zg (dn _ 0 "")
 refine iteE (by simpa using ce) (nxtC ?_);have hnz:0 < (M.map V.str++L.map V.str).length:=by
  cases h:M.map V.str++L.map V.str with
  |nil=>rw[h]at ce;exact absurd rfl ce
  |cons a l=>exact Nat.succ_pos _
 have hnl:(M.map V.str++L.map V.str).length<=1000:=by rw[ub,ua,ua];lia
 generalize upd H2 l3 (.lst [])=H3 at *;have pick:∀j:Nat,j < (M.map V.str++L.map V.str).length->∃x:Str,(M.map V.str++L.map V.str)[j]?=some (.str x):=fun j hj=>by
  rw[<- uh,ua]at hj;rw[<- uh,ug];exact⟨_,by rw[ui hj];rfl⟩
 refine(zf rfl ⟨rfl,(zf rfl ?_)⟩);by_cases c1:r=1
 ·refine zR (decide_eq_true (by rw[c1])) ?_
  refine(zf rfl (zf rfl (zf rfl ⟨l1,(zf rfl ⟨.inl (SqL.of g3),st,((M.map V.str++L.map V.str).length:Nat),B+1,rfl,h3.s,by rw[LM];lia,by lia,fun H4 r4 k4 S4 a4 b4=>?_⟩)⟩)));obtain⟨j,rfl⟩:∃j:Nat,r4=(j:Int):=⟨r4.toNat,by lia⟩;obtain⟨x,hx⟩:=pick j (by lia);have h4:=h3.go k4 S4;have g4:=k4.k _ _ n1s g3;refine⟨l1,_,_,_,rfl,rfl,SqL.of g4,zN hx,(zf rfl (zf rfl (zf rfl ⟨l1,(zf rfl ⟨.inl (SqL.of g4),st,((M.map V.str++L.map V.str).length:Nat),B+1+1,rfl,h4.s,by rw[LM];lia,by lia,fun H5 r5 k5 S5 a5 b5=>?_⟩)⟩)))⟩;obtain⟨j5,rfl⟩:∃j:Nat,r5=(j:Int):=⟨r5.toNat,by lia⟩;obtain⟨y,hy⟩:=pick j5 (by lia);have h5:=h4.go k5 S5;refine⟨l1,_,_,_,rfl,rfl,SqL.of (k5.k _ _ n1s g4),zN hy,sN4,fun p f=>?_⟩;exact q _ p (.op "plus" x y) M ((h5.same (zi f _)).mono (by lia)) (t3.trans ((k4.tups h3.s).trans ((k5.tups h4.s).trans (.of (zi f _))))) (fun _ z=>z) (ud _) zg ⟨by show 2<=1000;decide,raw0 rfl⟩
 refine iteE (decide_eq_false fun z=>c1 (V.int.inj z)) (nxtC ?_);refine(zf rfl (zv rfl rfl (zf rfl ?_)));obtain⟨tl,dl,ts,us,xs,w1,w2,w3,w4,w5⟩:=h3.wa;have Tn:=hd.ok.Tn;by_cases c6:r < 6
 ·refine zR (decide_eq_true c6) ?_
  refine(zf rfl ⟨wl,_,_,_,rfl,rfl,SqL.of w1,aI2,tl,rfl,⟨_,SqL.of w2⟩,yF (xs:=ts.map V.ref) (fun j τ ys H'=>H3=H'/\(∃v,τ=[oR st,oR lm,oR ll,oR wl,oR l1,some (.int r),none,none,none,none,none,none,none,v])/\∃us:List Addr,ys=us.map V.ref/\us.length<=j/\(0 < j->us≠[])/\∀u∈us,∃a,tgR a H3 u/\a∈o.T/\a.2.1<=M.length) ⟨rfl,⟨none,rfl⟩,[],rfl,ud _,fun z=>absurd z (by decide),fun u hu=>by cases hu⟩ (fun j τ ys H' _ h=>SqL.of (h.1 ▸ w2)) ?_ ?_⟩)
  ·rintro j v τ ys H' hv ⟨rfl,⟨v',rfl⟩,vs,rfl,vl,vn,va⟩
   obtain⟨t,ht,rfl⟩:=L2.gM hv;obtain⟨a,ha,hR⟩:=w3.at ht;have hj:j < ts.length:=(ue.mp ht).1;have tl':=w3.1;refine(zf rfl (ixT hR aI1 (zf rfl ⟨lm,(zf rfl ⟨.inl (SqL.of h3.m),(zv rfl rfl (zf rfl ?_))⟩)⟩)));have ml:(M.map V.str).length=M.length:=ua _;by_cases c:a.2.1<=M.length
   ·refine zR (decide_eq_true (by rw[ml];exact Int.ofNat_le.mpr c)) (zf rfl ⟨by rw[ua];lia,rfl,⟨_,rfl⟩,vs++[t],by rw[uh];rfl,by rw[ub];show vs.length+1<=_;lia,fun _=>by simp,fun u hu=>?_⟩)
    rcases uJ.mp hu with hu|hu
    ·exact va u hu
    ·rw[uE.mp hu]
     exact⟨a,hR,uv ha,c⟩
   ·refine iteE (decide_eq_false (by rw[ml];exact fun z=>c (Int.ofNat_le.mp z))) ⟨rfl,⟨_,rfl⟩,vs,rfl,by lia,fun _ e=>?_,va⟩
    by_cases z:j=0
    ·obtain⟨t0,h0,h0'⟩:=hd.ok.T0
     rw[z,h0]at ha;cases ha;rw[h0']at c;exact c (uF _)
    ·exact vn (by lia) e
  rintro τ ys H' ⟨rfl,_,vs,rfl,vl,vn,va⟩ l4 f4;have tl':=w3.1;have Tp:0 < o.T.length:=by
   obtain⟨t0,h0,_⟩:=hd.ok.T0;exact UJ (uF _) (ue.mp h0).1
  rw[ua]at vl vn;have vp:0 < vs.length:=List.length_pos_iff.mpr (vn (by lia));have s4:=zi (o:=.lst (vs.map V.ref)) f4;have h4:=h3.same s4;have n4s:=h3.s.ne f4;refine(zf rfl (zf rfl (zf rfl ⟨l4,(zf rfl ⟨.inl (SqL.of zg),st,((vs.map V.ref).length:Nat),B+1,rfl,h4.s,by rw[LM];lia,by rw[ua];lia,fun H5 r5 k5 S5 a5 b5=>?_⟩)⟩)));rw[ua]at b5;obtain⟨j,rfl⟩:∃j:Nat,r5=(j:Int):=⟨r5.toNat,by lia⟩;have hj:j < vs.length:=by lia
  obtain⟨a,aR,aT,aM⟩:=va vs[j] (List.getElem_mem hj);have h5:=h4.go k5 S5;have tk5:=k5.tups h4.s;have aR5:tgR a H5 vs[j]:=tk5 _ _ (s4 _ _ aR);have a9:=hd.ok.T a aT;refine⟨l4,_,_,_,rfl,rfl,SqL.of (k5.k _ _ n4s zg),zN (by rw[ug,ui hj];rfl),_,_,rfl,SqT.of aR5,rfl,_,_,rfl,_,_,rfl,_,_,rfl,rfl,?_⟩;refine(zf rfl (zf rfl (zf rfl (zf rfl ⟨st,lm,a.2.1,M,B+1+1,H0,wl,o,rfl,h5,aM,by lia,by lia,by rw[LM];lia,fun H6 r6 N M' h6 t6 ml6 sub g6 nl6=>⟨sN4,fun p f=>?_⟩⟩))));have s7:=zi (o:=.tup [.str "make",.str a.1,.ref r6,.str ""]) f;exact q _ p (.mk a.1 N "") M' ((h6.same s7).mono (by lia)) ((t3.trans (.of s4)).trans (tk5.trans (t6.trans (.of s7)))) sub (by lia) ⟨r6,zg,s7 _ _ g6⟩ ⟨by show N.length<=1000;lia,rawM⟩
 refine iteE (decide_eq_false c6) (nxtC ?_);refine(zf rfl ⟨wl,_,_,_,rfl,rfl,SqL.of w1,aI3,(zf rfl ⟨st,3,B+1,rfl,h3.s,by rw[LM];lia,by decide,fun H4 r4 k4 S4 a4 b4=>?_⟩)⟩);obtain⟨j,rfl⟩:∃j:Nat,r4=(j:Int):=⟨r4.toNat,by lia⟩;have ul:=w5.1;have Dn:=hd.ok.Dn;have hj:j < us.length:=by lia
 have hju:us[j]?=some us[j]:=ui hj;obtain⟨dd,hdd,pm,hR1,hR2⟩:=w5.at hju;have ddm:=uv hdd;have h4:=h3.go k4 S4;have tk4:=k4.tups h3.s;have t4:=t3.trans tk4;have d9:=hd.ok.D dd ddm;refine⟨dl,_,_,_,rfl,rfl,SqL.of (k4.k _ _ (h3.s.neR w4) w4),zN (by rw[ug,hju];rfl),_,_,rfl,SqT.of (tk4 _ _ hR1),rfl,_,_,rfl,_,_,rfl,rfl,?_⟩;have pm4:=tk4 _ _ hR2;refine(zf rfl ⟨rfl,(zf rfl ?_)⟩);by_cases c6':r=6
 ·refine zR (decide_eq_true (by rw[c6'])) ?_
  refine(zf rfl (zf rfl (zf rfl (zf rfl (zf rfl ⟨sN2,fun po fo=>?_⟩)))));have s5:=zi (o:=.tup [.str dd.1,.ref pm]) fo;exact⟨st,lm,ll,po,pm,M,L,B+1+1,H0,wl,o,dd.1,dd.2,rfl,h4.same s5,hL0,zg,s5 _ _ pm4,d9,by lia,by lia,by rw[LM];lia,fun H6 r6 d6 M' h6 t6 sub ml6 I6 L6=>q _ r6 d6 M' (h6.mono (by lia)) (t4.trans ((Tups.of s5).trans t6)) sub ml6 I6 L6⟩
 refine iteE (decide_eq_false fun z=>c6' (V.int.inj z)) (nxtC ?_);dsimp only
 change (tSeq (tIfS _ _ _) (tSeq _ _):TS) { nx:=fun _ H'=>Q .non H',rt:=Q } [oR st,oR lm,oR ll,oR wl,oR l1,some (.int r),none,none,none,none,some (.str dd.1),oR pm,none] H4
 refine(show ∀u:TS,(∀H5:Hp,Hd K st wl o H0 H5 lm M (B+3)->Tups H H5->u { nx:=fun _ H'=>Q .non H',rt:=Q } [oR st,oR lm,oR ll,oR wl,oR l1,some (.int r),none,none,none,none,some (.str dd.1),oR pm,none] H5)->(tSeq (tIfS _ _ _) u:TS) { nx:=fun _ H'=>Q .non H',rt:=Q } [oR st,oR lm,oR ll,oR wl,oR l1,some (.int r),none,none,none,none,some (.str dd.1),oR pm,none] H4 from ?key) _ ?rst
 case key =>
  intro u rest;refine(zf rfl ⟨pm,dd.2,rfl,pm4,(zf rfl ?_)⟩);cases ca:dd.2.all id with
  |false=>exact iteF (iteF (nxtC (rest H4 (h4.mono (by lia)) t4)))
  |true =>
   refine iteT (zf rfl ⟨st,2,B+1+1,rfl,h4.s,by rw[LM];lia,by decide,fun H5 r5 k5 S5 a5 b5=>⟨rfl,(zf rfl ?_)⟩⟩);have h5:=h4.go k5 S5;have tk5:=k5.tups h4.s;have t5:=t4.trans tk5;by_cases c7:r5=1
   ·refine zR (decide_eq_true (by rw[c7])) ?_
    refine(zf rfl (zf rfl (zf rfl (zf rfl ⟨pm,(zf rfl ⟨.inr (SqT.of (tk5 _ _ pm4)),(zf rfl ⟨lm,(zf rfl ⟨.inl (SqL.of h5.m),(zf rfl ⟨st,4,B+1+1+1,rfl,h5.s,by rw[LM];lia,by decide,fun H6 r6 k6 S6 a6 b6=>⟨_,_,_,rfl,fun m0 hm1 hm2 hm3 hm4=>?_⟩⟩)⟩)⟩)⟩)⟩))));rw[ua]at hm1 hm2 hm3;obtain⟨n,rfl⟩:∃n:Nat,m0=(n:Int):=⟨m0.toNat,by rcases hm1 with e|e|e<;>lia⟩;have h6:=h5.go k6 S6;refine⟨st,lm,n,M,B+1+1+1+1,H0,wl,o,rfl,h6,by lia,by lia,by lia,by rw[LM];lia,fun H7 r7 N M' h7 t7 ml7 sub g7 nl7=>⟨sN3,fun p f=>?_⟩⟩;have s8:=zi (o:=.tup [.str "func",.str dd.1,.ref r7]) f;exact q _ p (.fn dd.1 N) M' ((h7.same s8).mono (by lia)) (t5.trans ((k6.tups h5.s).trans (t7.trans (.of s8)))) sub (by lia) ⟨r7,zg,s8 _ _ g7⟩ ⟨by show N.length<=1000;lia,raw0 rfl⟩
   ·exact iteE (decide_eq_false fun z=>c7 (V.int.inj z)) (nxtC (rest H5 (h5.mono (by lia)) t5))
 intro H5 h5 t5;refine(zf rfl ⟨sN0,fun l6 f6=>?_⟩);have s6:=zi (o:=.lst []) f6;have h6:=h5.same s6;have t6:=t5.trans (.of s6);refine⟨lm,l6,(zf rfl ⟨rfl,SqL.of h6.m,SqL.of zg,(zf rfl ?_)⟩)⟩;by_cases cm:(M.map V.str).isEmpty=true
 ·refine zR cm ⟨sN2,fun p f=>?_⟩
  exact q _ p (.num _) M ((h6.same (zi f _)).mono (by lia)) (t6.trans (.of (zi f _))) (fun _ z=>z) (ud _) zg (dn _ 0 "")
 refine iteE (by simpa using cm) (nxtC ?_);have mp:0 < M.length:=by
  rw[List.isEmpty_map]at cm;cases M with
  |nil=>exact absurd rfl cm
  |cons a l=>exact Nat.succ_pos _
 refine(zf rfl ⟨.inl ⟨rfl,_,SqL.of h6.m⟩,(zf rfl (zf rfl ⟨lm,(zf rfl ⟨.inl (SqL.of h6.m),st,((M.map V.str).length:Nat),B+3,rfl,h6.s,by rw[LM];lia,by rw[ua];lia,fun H7 r7 k7 S7 a7 b7=>?_⟩)⟩))⟩);rw[ua]at b7;obtain⟨i,rfl⟩:∃i:Nat,r7=(i:Int):=⟨r7.toNat,by lia⟩;have hi:i < M.length:=by lia
 have h7:=h6.go k7 S7;refine⟨lm,_,_,i,(zf rfl ⟨rfl,h7.m,by lia,by lia,Vv (by rw[ua];exact hi),(by rw[ug,ui hi];rfl),?_⟩)⟩;rw[xE];obtain⟨h8,t8⟩:=h7.set (M':=M.eraseIdx i);have el:(M.eraseIdx i).length=M.length-1:=UE hi;refine(zf rfl (zf rfl (zf rfl (zf rfl ⟨lm,(zf rfl ⟨.inl (SqL.of h8.m),(zf rfl ⟨st,4,B+3+1,rfl,h8.s,by rw[LM];lia,by decide,fun H9 r9 k9 S9 a9 b9=>⟨_,_,rfl,?_⟩⟩)⟩)⟩))));rw[ua];have h9:=h8.go k9 S9;obtain⟨n,hn,hn1,hn2⟩:∃n:Nat,(if r9 < (((M.eraseIdx i).length:Nat):Int)then r9 else(((M.eraseIdx i).length:Nat):Int))=(n:Int)/\n<=(M.eraseIdx i).length/\n<=4:=by
  split
  ·exact⟨r9.toNat,by lia,by lia,by lia⟩
  ·exact⟨(M.eraseIdx i).length,rfl,ud _,by lia⟩
 rw[hn];refine⟨st,lm,n,M.eraseIdx i,B+3+1+1,H0,wl,o,rfl,h9,hn1,by lia,by lia,by rw[LM];lia,fun H10 r10 N M' h10 t10 ml10 sub g10 nl10=>⟨sN3,fun p f=>?_⟩⟩;have s11:=zi (o:=.tup [.str "ask",.str M[i],.ref r10]) f;exact q _ p (.ask M[i] N) M' ((h10.same s11).mono (by lia)) (t6.trans ((k7.tups h6.s).trans (t8.trans ((k9.tups h8.s).trans (t10.trans (.of s11)))))) (fun x hx=>List.mem_of_mem_eraseIdx (sub x hx)) (by lia) ⟨r10,zg,s11 _ _ g10⟩ ⟨by show N.length+1<=1000;lia,raw0 rfl⟩
end
def ExD(T:Str->Prop)(d d':Dd):Prop:=d'=d\/∃t ns j,d=.mk t ns ""/\d'=.mk t ns j/\T j
mutual
def ExB(T:Str->Prop):Bd->Bd->Prop
 |c,.give x=>c=.give x
 |c,.lt x d' b'=>∃d b,c=.lt x d b/\ExD T d d'/\ExB T b b'
 |c,.hold x y b'=>∃b,c=.hold x y b/\ExB T b b'
 |c,.drop x b'=>∃b,c=.drop x b/\ExB T b b'
 |c,.loose j b'=>(∃b,c=.loose j b/\ExB T b b')\/(T j/\ExB T c b')
 |c,.iff x b' e'=>∃b e,c=.iff x b e/\ExB T b b'/\ExB T e e'
 |c,.cs x as'=>∃as,c=.cs x as/\ExA T as as'
def ExA(T:Str->Prop):Arms->Arms->Prop
 |as,.nil=>as=.nil
 |as,.cons t ns m k' b' r'=>∃k b r,as=.cons t ns m k b r/\(k'=k\/(k=""/\T k'))/\ExB T b b'/\ExA T r r'
end
mutual
theorem ExB.rfl{T:Str->Prop}:∀b:Bd,ExB T b b
 |.give x=>by rw[ExB]
 |.lt x d b=>by rw[ExB];exact⟨d,b,Eq.refl _,.inl (Eq.refl _),ExB.rfl b⟩
 |.hold x y b=>by rw[ExB];exact⟨b,Eq.refl _,ExB.rfl b⟩
 |.drop x b=>by rw[ExB];exact⟨b,Eq.refl _,ExB.rfl b⟩
 |.loose x b=>by rw[ExB];exact .inl ⟨b,Eq.refl _,ExB.rfl b⟩
 |.iff x b c=>by rw[ExB];exact⟨b,c,Eq.refl _,ExB.rfl b,ExB.rfl c⟩
 |.cs x as=>by rw[ExB];exact⟨as,Eq.refl _,ExA.rfl as⟩
theorem ExA.rfl{T:Str->Prop}:∀as:Arms,ExA T as as
 |.nil=>by rw[ExA]
 |.cons t ns m k b r=>by rw[ExA];exact⟨k,b,r,Eq.refl _,.inl (Eq.refl _),ExB.rfl b,ExA.rfl r⟩
end
theorem ExD.tr{U V:Str->Prop}(h1:∀k,T k->V k)(h2:∀k,U k->V k){a b c:Dd}(h:ExD T a b)(g:ExD U b c):ExD V a c:=by
 rcases g with rfl|⟨t,ns,j,e1,e2,hj⟩
 ·rcases h with rfl|⟨t,ns,j,e1,e2,hj⟩
  ·exact .inl rfl
  ·exact .inr ⟨t,ns,j,e1,e2,h1 _ hj⟩
 ·rcases h with rfl|⟨t',ns',j',f1,f2,hj'⟩
  ·exact .inr ⟨t,ns,j,e1,e2,h2 _ hj⟩
  ·rw[e1]at f2
   cases f2;exact .inr ⟨t,ns,j,f1,e2,h2 _ hj⟩
mutual
theorem ExB.tr{T U V:Str->Prop}(h1:∀k,T k->V k)(h2:∀k,U k->V k):∀{a b c:Bd},ExB T a b->ExB U b c->ExB V a c
 |a,b,.give x,h,g=>by rw[ExB]at g ⊢;rw[g,ExB]at h;exact h
 |a,b,.lt x d' c,h,g=>by
  rw[ExB]at g ⊢;obtain⟨d,b1,rfl,g1,g2⟩:=g;rw[ExB]at h;obtain⟨d0,a1,rfl,f1,f2⟩:=h;exact⟨d0,a1,rfl,f1.tr h1 h2 g1,ExB.tr h1 h2 f2 g2⟩
 |a,b,.hold x y c,h,g=>by
  rw[ExB]at g ⊢;obtain⟨b1,rfl,g2⟩:=g;rw[ExB]at h;obtain⟨a1,rfl,f2⟩:=h;exact⟨a1,rfl,ExB.tr h1 h2 f2 g2⟩
 |a,b,.drop x c,h,g=>by
  rw[ExB]at g ⊢;obtain⟨b1,rfl,g2⟩:=g;rw[ExB]at h;obtain⟨a1,rfl,f2⟩:=h;exact⟨a1,rfl,ExB.tr h1 h2 f2 g2⟩
 |a,b,.loose j c,h,g=>by
  rw[ExB]at g ⊢;rcases g with⟨b1,rfl,g2⟩|⟨gj,g2⟩
  ·rw[ExB]at h
   rcases h with⟨a1,rfl,f2⟩|⟨fj,f2⟩
   ·exact .inl ⟨a1,rfl,ExB.tr h1 h2 f2 g2⟩
   ·exact .inr ⟨h1 _ fj,ExB.tr h1 h2 f2 g2⟩
  ·exact .inr ⟨h2 _ gj,ExB.tr h1 h2 h g2⟩
 |a,b,.iff x c e,h,g=>by
  rw[ExB]at g ⊢;obtain⟨b1,b2,rfl,g1,g2⟩:=g;rw[ExB]at h;obtain⟨a1,a2,rfl,f1,f2⟩:=h;exact⟨a1,a2,rfl,ExB.tr h1 h2 f1 g1,ExB.tr h1 h2 f2 g2⟩
 |a,b,.cs x as,h,g=>by
  rw[ExB]at g ⊢;obtain⟨b1,rfl,g2⟩:=g;rw[ExB]at h;obtain⟨a1,rfl,f2⟩:=h;exact⟨a1,rfl,ExA.tr h1 h2 f2 g2⟩
theorem ExA.tr{T U V:Str->Prop}(h1:∀k,T k->V k)(h2:∀k,U k->V k):∀{a b c:Arms},ExA T a b->ExA U b c->ExA V a c
 |a,b,.nil,h,g=>by rw[ExA]at g ⊢;rw[g,ExA]at h;exact h
 |a,b,.cons t ns m k' c r,h,g=>by
  rw[ExA]at g ⊢;obtain⟨k1,b1,r1,rfl,gk,g1,g2⟩:=g;rw[ExA]at h;obtain⟨k0,b0,r0,rfl,fk,f1,f2⟩:=h;refine⟨k0,b0,r0,rfl,?_,ExB.tr h1 h2 f1 g1,ExA.tr h1 h2 f2 g2⟩;rcases gk with rfl|⟨e,gk⟩
  ·exact fk.imp (fun e=>e) fun⟨x,y⟩=>⟨x,h1 _ y⟩
  ·rcases fk with rfl|⟨e',_⟩
   ·exact .inr ⟨e,h2 _ gk⟩
   ·exact .inr ⟨e',h2 _ gk⟩
end
theorem ExB.mono{V:Str->Prop}(h:∀k,T k->V k){a b:Bd}(g:ExB T a b):ExB V a b:=ExB.tr h h g (ExB.rfl b)
mutual
theorem ExB.wy{k:Str}{n:Nat}:∀b:Bd,ExB (·=k) b (b.wy k n)
 |.give x=>by unfold Bd.wy;exact ExB.rfl _
 |.lt x d b=>by
  unfold Bd.wy;by_cases c:isLD n d=true
  ·rw[if_pos c,ExB]
   refine⟨d,b,rfl,?_,ExB.rfl b⟩;cases d with
   |mk t ns j =>
    unfold isLD at c;rw[UC,decide_eq_true_eq,decide_eq_true_eq]at c;rw[c.2];exact .inr ⟨t,ns,k,rfl,rfl,rfl⟩
   |_=>exact .inl rfl
  ·rw[if_neg c,ExB]
   exact⟨d,b,rfl,.inl rfl,ExB.wy b⟩
 |.hold x y b=>by unfold Bd.wy;rw[ExB];exact⟨b,rfl,ExB.wy b⟩
 |.drop x b=>by unfold Bd.wy;rw[ExB];exact⟨b,rfl,ExB.wy b⟩
 |.loose x b=>by unfold Bd.wy;rw[ExB];exact .inl ⟨b,rfl,ExB.wy b⟩
 |.iff x b c=>by
  have hb:=ExB.wy (k:=k) (n:=n) b;have hc:=ExB.wy (k:=k) (n:=n) c;unfold Bd.wy;split
  ·rw[ExB]
   refine⟨b,c,rfl,?_,?_⟩
   ·split
    ·exact hb
    ·rw[ExB];exact .inr ⟨rfl,ExB.rfl b⟩
   ·split
    ·exact hc
    ·rw[ExB];exact .inr ⟨rfl,ExB.rfl c⟩
  ·exact ExB.rfl _
 |.cs x as=>by
  have h:=ExA.wy (k:=k) (n:=n) as;unfold Bd.wy;split
  ·rw[ExB];exact⟨as,rfl,h⟩
  ·exact ExB.rfl _
theorem ExA.wy{k:Str}{n:Nat}:∀as:Arms,ExA (·=k) as (as.wy k n)
 |.nil=>by unfold Arms.wy;rw[ExA]
 |.cons t ns m k' b r=>by
  have hb:=ExB.wy (k:=k) (n:=n) b;have hr:=ExA.wy (k:=k) (n:=n) r;unfold Arms.wy;rw[ExA];refine⟨k',b,r,rfl,.inl rfl,?_,hr⟩;split
  ·exact hb
  ·rw[ExB];exact .inr ⟨rfl,ExB.rfl b⟩
end
theorem vI:∀{as:Arms}{q:ArmR},q∈as.l->q.b.dp<=as.dp
 |.nil,q,h=>by unfold Arms.l at h;cases h
 |.cons t xs m k b r,q,h=>by
  unfold Arms.l at h;rw[Arms.dp];rcases uq.mp h with rfl|h
  ·exact Nat.le_max_left _ _
  ·exact uC (vI h) (Nat.le_max_right _ _)
theorem Ys:∀{as:Arms}{q:ArmR},q∈as.l->q.b.sz<=as.sz
 |.nil,q,h=>by unfold Arms.l at h;cases h
 |.cons t xs m k b r,q,h=>by
  unfold Arms.l at h;rw[Arms.sz];rcases uq.mp h with rfl|h
  ·show b.sz<=_;lia
  ·have:=Ys h;lia
mutual
theorem Bd.atk_na:∀b:Bd,b.atk.length=b.na/\b.ar.length=b.na
 |.give _=>by rw[Bd.atk,Bd.na,Bd.ar];exact⟨rfl,rfl⟩
 |.lt _ _ b=>by rw[Bd.atk,Bd.na,Bd.ar];exact Bd.atk_na b
 |.hold _ _ b=>by rw[Bd.atk,Bd.na,Bd.ar];exact Bd.atk_na b
 |.drop _ b=>by rw[Bd.atk,Bd.na,Bd.ar];exact Bd.atk_na b
 |.loose _ b=>by rw[Bd.atk,Bd.na,Bd.ar];exact Bd.atk_na b
 |.iff _ b c=>by
  have h1:=Bd.atk_na b;have h2:=Bd.atk_na c;rw[Bd.atk,Bd.na,Bd.ar,ub,ub];lia
 |.cs _ as=>by
  have h1:=Arms.atk_na as;rw[Bd.atk,Bd.na,Bd.ar,ub];exact h1
theorem Arms.atk_na:∀as:Arms,as.atk.length=as.na/\as.l.length+as.ar.length=as.na
 |.nil=>by unfold Arms.l;rw[Arms.atk,Arms.na,Arms.ar];exact⟨rfl,rfl⟩
 |.cons _ _ _ _ b r=>by
  have h1:=Bd.atk_na b;have h2:=Arms.atk_na r;unfold Arms.l;rw[Arms.atk,Arms.na,Arms.ar,um,um,ub,ub];lia
end
theorem Q6(b:Bd):(wiB b).length<=b.sz:=by
 unfold wiB
 have:=List.length_filter_le (fun k:Str=>decide (k≠"")) b.atk
 have:=b.atk_na.1
 have:=b.na_sz
 lia
def wiA(a:ArmR):LS:=(if a.k≠""then[a.k]else[])++wiB a.b
theorem Y8{x:Str}:∀as:Arms,wiB (.cs x as)=as.l.flatMap wiA
 |.nil=>by unfold wiB Arms.l;rw[Bd.atk,Arms.atk];rfl
 |.cons t ns m k b r=>by
  have ih:=Y8 (x:=x) r;unfold wiB at ih ⊢;rw[Bd.atk]at ih ⊢;unfold Arms.l;rw[Arms.atk,List.filter_cons,List.filter_append,ih,Uk];unfold wiA;by_cases c:k≠""
  ·rw[if_pos (decide_eq_true c),if_pos c];rfl
  ·rw[if_neg (by simpa using c),if_neg c];rfl
theorem Yt{b c:Bd}:wiB (.iff x b c)=wiB b++wiB c:=by unfold wiB;rw[Bd.atk,List.filter_append]
theorem wH{α β:Type}(f:α->List β){l:List α}{a:α}(h:l[i]?=some a):(l.take (i+1)).flatMap f=(l.take i).flatMap f++f a:=by
 rw[uI,h,List.flatMap_append];show _++(f a++[])=_;rw[Ue]
theorem yI{α β:Type}(f:α->List β):∀(l:List α)(i:Nat),((l.take i).flatMap f).length<=(l.flatMap f).length
 |[],i=>by rw[List.take_nil];exact ud _
 |a::l,0=>uF _
 |a::l,i+1=>by
  rw[List.take_succ_cons,Uk,Uk,ub,ub]
  have:=yI f l i
  lia
theorem ExA.mono{V:Str->Prop}(h:∀k,T k->V k){a b:Arms}(g:ExA T a b):ExA V a b:=ExA.tr h h g (ExA.rfl b)
mutual
def Bd.pl:Bd->Prop
 |.give _=>True
 |.lt _ d b=>(xr d).length<=1000/\b.pl
 |.hold _ _ b=>b.pl
 |.drop _ b=>b.pl
 |.loose _ _=>False
 |.iff _ b c=>b.pl/\c.pl
 |.cs _ as=>as.pl
def Arms.pl:Arms->Prop
 |.nil=>True
 |.cons _ ns _ _ b r=>ns.length<=1000/\b.pl/\r.pl
end
def Y9:Dd->Dd
 |.mk t ns _=>.mk t ns ""
 |d=>d
mutual
def Bd.bare:Bd->Bd
 |.give x=>.give x
 |.lt x d b=>.lt x (Y9 d) b.bare
 |.hold x y b=>.hold x y b.bare
 |.drop x b=>.drop x b.bare
 |.loose _ b=>b.bare
 |.iff x b c=>.iff x b.bare c.bare
 |.cs x as=>.cs x as.bare
def Arms.bare:Arms->Arms
 |.nil=>.nil
 |.cons t ns m _ b r=>.cons t ns m "" b.bare r.bare
end
theorem ExD.bare{d d':Dd}(h:ExD T d d'):Y9 d'=Y9 d:=by
 rcases h with rfl|⟨t,ns,j,rfl,rfl,_⟩<;>rfl
mutual
theorem ExB.bare{T:Str->Prop}:∀{b c:Bd},ExB T b c->c.bare=b.bare
 |b,.give x,h=>by rw[ExB]at h;rw[h]
 |b,.lt x d c,h=>by
  rw[ExB]at h;obtain⟨d0,b0,rfl,f1,f2⟩:=h;rw[Bd.bare,Bd.bare,f1.bare,ExB.bare f2]
 |b,.hold x y c,h=>by
  rw[ExB]at h;obtain⟨b0,rfl,f2⟩:=h;rw[Bd.bare,Bd.bare,ExB.bare f2]
 |b,.drop x c,h=>by
  rw[ExB]at h;obtain⟨b0,rfl,f2⟩:=h;rw[Bd.bare,Bd.bare,ExB.bare f2]
 |b,.loose j c,h=>by
  rw[ExB]at h;rcases h with⟨b0,rfl,f2⟩|⟨fj,f2⟩
  ·rw[Bd.bare,Bd.bare,ExB.bare f2]
  ·rw[Bd.bare,ExB.bare f2]
 |b,.iff x c c2,h=>by
  rw[ExB]at h;obtain⟨b0,b1,rfl,f1,f2⟩:=h;rw[Bd.bare,Bd.bare,ExB.bare f1,ExB.bare f2]
 |b,.cs x as,h=>by
  rw[ExB]at h;obtain⟨b0,rfl,f2⟩:=h;rw[Bd.bare,Bd.bare,ExA.bare f2]
theorem ExA.bare{T:Str->Prop}:∀{b c:Arms},ExA T b c->c.bare=b.bare
 |b,.nil,h=>by rw[ExA]at h;rw[h]
 |b,.cons t ns m k' c r,h=>by
  rw[ExA]at h;obtain⟨k0,b0,r0,rfl,fk,f1,f2⟩:=h;rw[Arms.bare,Arms.bare,ExB.bare f1,ExA.bare f2]
end
mutual
theorem Bd.bare_id:∀{b:Bd},b.pl->(∀k∈b.atk,k="")->(∀q∈b.mks,q.2="")->b.bare=b
 |.give _,_,_,_=>by rw[Bd.bare]
 |.lt x d b,h,h1,h2=>by
  rw[Bd.pl]at h;rw[Bd.atk]at h1;rw[Bd.mks]at h2;rw[Bd.bare,Bd.bare_id h.2 h1 fun q hq=>h2 q (uG _ hq)];cases d with
  |mk t ns k =>
   have:k="":=h2 (_,k) (uP _ (.head _))
   rw[this]
   rfl
  |_=>rfl
 |.hold x y b,h,h1,h2=>by rw[Bd.pl]at h;rw[Bd.atk]at h1;rw[Bd.mks]at h2;rw[Bd.bare,Bd.bare_id h h1 h2]
 |.drop x b,h,h1,h2=>by rw[Bd.pl]at h;rw[Bd.atk]at h1;rw[Bd.mks]at h2;rw[Bd.bare,Bd.bare_id h h1 h2]
 |.loose x b,h,h1,h2=>by rw[Bd.pl]at h;cases h
 |.iff x b c,h,h1,h2=>by
  rw[Bd.pl]at h;rw[Bd.atk]at h1;rw[Bd.mks]at h2;rw[Bd.bare,Bd.bare_id h.1 (fun q hq=>h1 q (uP _ hq)) fun q hq=>h2 q (uP _ hq),Bd.bare_id h.2 (fun q hq=>h1 q (uG _ hq)) fun q hq=>h2 q (uG _ hq)]
 |.cs x as,h,h1,h2=>by rw[Bd.pl]at h;rw[Bd.atk]at h1;rw[Bd.mks]at h2;rw[Bd.bare,Arms.bare_id h h1 h2]
theorem Arms.bare_id:∀{as:Arms},as.pl->(∀k∈as.atk,k="")->(∀q∈as.mks,q.2="")->as.bare=as
 |.nil,_,_,_=>by rw[Arms.bare]
 |.cons t ns m k b r,h,h1,h2=>by
  rw[Arms.pl]at h;rw[Arms.atk]at h1;rw[Arms.mks]at h2;rw[Arms.bare,Bd.bare_id h.2.1 (fun q hq=>h1 q (.tail _ (uP _ hq))) fun q hq=>h2 q (uP _ hq),Arms.bare_id h.2.2 (fun q hq=>h1 q (.tail _ (uG _ hq))) fun q hq=>h2 q (uG _ hq),h1 k (.head _)]
end
mutual
theorem Bd.bare_binds:∀b:Bd,b.bare.binds=b.binds
 |.give _=>by rw[Bd.bare]
 |.lt _ _ b=>by rw[Bd.bare,Bd.binds,Bd.binds,Bd.bare_binds b]
 |.hold _ _ b=>by rw[Bd.bare,Bd.binds,Bd.binds,Bd.bare_binds b]
 |.drop _ b=>by rw[Bd.bare,Bd.binds,Bd.binds,Bd.bare_binds b]
 |.loose _ b=>by rw[Bd.bare,Bd.binds,Bd.bare_binds b]
 |.iff _ b c=>by rw[Bd.bare,Bd.binds,Bd.binds,Bd.bare_binds b,Bd.bare_binds c]
 |.cs _ as=>by rw[Bd.bare,Bd.binds,Bd.binds,Arms.bare_binds as]
theorem Arms.bare_binds:∀as:Arms,as.bare.binds=as.binds
 |.nil=>by rw[Arms.bare]
 |.cons _ _ _ _ b r=>by rw[Arms.bare,Arms.binds,Arms.binds,Bd.bare_binds b,Arms.bare_binds r]
end
def Tq(nx:Nat->Nat)(lo hi:Nat)(k:Str):Prop:=∃c,lo < nx c/\nx c<=hi/\k=tokS (nx c)
section
theorem Tq.mono{lo hi lo' hi':Nat}{k:Str}(h:Tq nx lo hi k)(h1:lo'<=lo)(h2:hi<=hi'):Tq nx lo' hi' k:=by obtain⟨j,a,b,c⟩:=h;exact⟨j,by lia,by lia,c⟩
theorem Tq.off{lo hi lo' hi':Nat}{k:Str}(h:Tq nx lo hi k)(g:Tq nx lo' hi' k)(e:hi<=lo'):False:=by
 obtain⟨c,a1,a2,a3⟩:=h;obtain⟨d,b1,b2,b3⟩:=g
 have:=jK (a3.symm.trans b3)
 lia
structure Nc(nx:Nat->Nat)(b:Bd)(n:Nat)(r:Bd×Nat):Prop where
 ex:ExB (Tq nx n r.2) b r.1
 tq:∀k∈wiB r.1,Tq nx n r.2 k
 nd:(wiB r.1).Nodup
structure NcA(nx:Nat->Nat)(as:Arms)(c e m:Nat)(r:Arms×Nat):Prop where
 ex:ExA (Tq nx c r.2) as r.1
 tq:∀k∈r.1.l.flatMap wiA,Tq nx c e k\/Tq nx m r.2 k
 nd:(r.1.l.flatMap wiA).Nodup
variable(hnx:∀n,n < nx n)
include hnx
theorem Vy{f:Nat}(ih:∀(b:Bd)(n:Nat),b.mu<=f->(∀k∈b.atk,k="")->Nc nx b n (AB nx f b n)):∀(as:Arms)(c m:Nat),(as.tk nx c).2<=m->(∀b∈(as.tk nx c).1.bs,b.mu<=f)->(∀k∈as.atk,k="")->NcA nx as c (as.tk nx c).2 m (resA (AB nx f) (as.tk nx c).1 m)
 |.nil,c,m,_,_,_=>⟨by show ExA _ .nil .nil;rw[ExA],fun k h=>(by cases h),List.nodup_nil⟩
 |.cons t ns m' k b r,c,m,hm,hmu,ha=>by
  have ek:k="":=ha k (by rw[Arms.atk];exact .head _);have hab:∀z∈b.atk,z="":=fun z hz=>ha z (by rw[Arms.atk];exact .tail _ (uP _ hz));have har:∀z∈r.atk,z="":=fun z hz=>ha z (by rw[Arms.atk];exact .tail _ (uG _ hz));by_cases hk:armK m' ns b=true
  ·have et:(Arms.cons t ns m' k b r).tk nx c=(.cons t ns m' (tokS (nx c)) (b.wy (tokS (nx c)) ns.length) (r.tk nx (nx c)).1,(r.tk nx (nx c)).2):=by rw[Arms.tk,if_pos hk]
   rw[et]at hm hmu ⊢;have hN:=hnx c;have hN2:=tk_n hnx r (nx c);have hm:(r.tk nx (nx c)).2<=m:=hm;have hb:(b.wy (tokS (nx c)) ns.length).mu<=f:=hmu _ (by show _∈_::_;exact .head _);have wx:ExB (·=tokS (nx c)) b (b.wy (tokS (nx c)) ns.length):=ExB.wy b;have ha1:∀k'∈(b.wy (tokS (nx c)) ns.length).atk,k'="":=by rw[(Bd.wy_st (k:=tokS (nx c)) (n:=ns.length) b).1];exact hab
   have G1:=ih (b.wy (tokS (nx c)) ns.length) m hb ha1;have l1:=AB_n hnx f (b.wy (tokS (nx c)) ns.length) m;have G2:=Vy ih r (nx c) (AB nx f (b.wy (tokS (nx c)) ns.length) m).2 (by lia) (fun b hb=>hmu b (.tail _ hb)) har;have er:resA (AB nx f) (.cons t ns m' (tokS (nx c)) (b.wy (tokS (nx c)) ns.length) (r.tk nx (nx c)).1) m=(.cons t ns m' (tokS (nx c)) (AB nx f (b.wy (tokS (nx c)) ns.length) m).1 (resA (AB nx f) (r.tk nx (nx c)).1 (AB nx f (b.wy (tokS (nx c)) ns.length) m).2).1,(resA (AB nx f) (r.tk nx (nx c)).1 (AB nx f (b.wy (tokS (nx c)) ns.length) m).2).2):=rfl;have l2:(AB nx f (b.wy (tokS (nx c)) ns.length) m).2<=(resA (AB nx f) (r.tk nx (nx c)).1 (AB nx f (b.wy (tokS (nx c)) ns.length) m).2).2:=xO hnx (AB_n hnx f) _ _;rw[er];generalize resA (AB nx f) (r.tk nx (nx c)).1 (AB nx f (b.wy (tokS (nx c)) ns.length) m).2=R at *;generalize AB nx f (b.wy (tokS (nx c)) ns.length) m=B at *;have e0:(Arms.cons t ns m' (tokS (nx c)) B.1 R.1).l.flatMap wiA=tokS (nx c)::(wiB B.1++R.1.l.flatMap wiA):=by
    rw[Arms.l,Uk];show(if tokS (nx c)≠""then[tokS (nx c)]else[])++wiB B.1++R.1.l.flatMap wiA=_;rw[if_pos (JO _)]
    rfl
   have tk0:∀{lo hi},lo < nx c->nx c<=hi->Tq nx lo hi (tokS (nx c)):=fun a b=>⟨c,a,b,rfl⟩;refine⟨?_,fun z hz=>?_,?_⟩
   ·show ExA (Tq nx c R.2) (.cons t ns m' k b r) (.cons t ns m' (tokS (nx c)) B.1 R.1)
    rw[ExA];exact⟨k,b,r,rfl,.inr ⟨ek,tk0 hN (by lia)⟩,ExB.tr (fun z e=>by rw[e];exact tk0 hN (by lia)) (fun z e=>e.mono (by lia) l2) wx G1.ex,G2.ex.mono fun z e=>e.mono (by lia) (ud _)⟩
   ·have hz:z∈(Arms.cons t ns m' (tokS (nx c)) B.1 R.1).l.flatMap wiA:=hz
    rw[e0]at hz;rcases uq.mp hz with rfl|hz
    ·exact .inl (tk0 hN hN2)
    rcases uJ.mp hz with hz|hz
    ·exact .inr ((G1.tq z hz).mono (ud _) l2)
    ·exact(G2.tq z hz).imp (fun y=>y.mono (by lia) (ud _)) fun y=>y.mono l1 (ud _)
   ·show((Arms.cons t ns m' (tokS (nx c)) B.1 R.1).l.flatMap wiA).Nodup
    rw[e0,uM,UM];have t0:Tq nx c (nx c) (tokS (nx c)):=tk0 hN (ud _);refine⟨fun hz=>?_,G1.nd,G2.nd,fun x hx y hy e=>?_⟩
    ·rcases uJ.mp hz with hz|hz
     ·exact t0.off (G1.tq _ hz) (by lia)
     ·exact(G2.tq _ hz).elim (fun y=>t0.off y (ud _)) fun y=>t0.off y (by lia)
    ·subst e
     exact(G2.tq _ hy).elim (fun z=>z.off (G1.tq _ hx) hm) fun z=>(G1.tq _ hx).off z (ud _)
  ·have et:(Arms.cons t ns m' k b r).tk nx c=(.cons t ns m' k b (r.tk nx c).1,(r.tk nx c).2):=by rw[Arms.tk,if_neg hk]
   rw[et]at hm hmu ⊢;have hN2:=tk_n hnx r c;have hm:(r.tk nx c).2<=m:=hm;have hb:b.mu<=f:=hmu _ (by show _∈_::_;exact .head _);have G1:=ih b m hb hab;have l1:=AB_n hnx f b m;have G2:=Vy ih r c (AB nx f b m).2 (by lia) (fun b hb=>hmu b (.tail _ hb)) har;have er:resA (AB nx f) (.cons t ns m' k b (r.tk nx c).1) m=(.cons t ns m' k (AB nx f b m).1 (resA (AB nx f) (r.tk nx c).1 (AB nx f b m).2).1,(resA (AB nx f) (r.tk nx c).1 (AB nx f b m).2).2):=rfl;have l2:(AB nx f b m).2<=(resA (AB nx f) (r.tk nx c).1 (AB nx f b m).2).2:=xO hnx (AB_n hnx f) _ _;rw[er];generalize resA (AB nx f) (r.tk nx c).1 (AB nx f b m).2=R at *;generalize AB nx f b m=B at *;have e0:(Arms.cons t ns m' k B.1 R.1).l.flatMap wiA=wiB B.1++R.1.l.flatMap wiA:=by
    rw[Arms.l,Uk];show(if k≠""then[k]else[])++wiB B.1++R.1.l.flatMap wiA=_;rw[if_neg fun z=>z ek]
    rfl
   refine⟨?_,fun z hz=>?_,?_⟩
   ·show ExA (Tq nx c R.2) (.cons t ns m' k b r) (.cons t ns m' k B.1 R.1)
    rw[ExA];exact⟨k,b,r,rfl,.inl rfl,G1.ex.mono fun z e=>e.mono (by lia) l2,G2.ex⟩
   ·have hz:z∈(Arms.cons t ns m' k B.1 R.1).l.flatMap wiA:=hz
    rw[e0]at hz;rcases uJ.mp hz with hz|hz
    ·exact .inr ((G1.tq z hz).mono (ud _) l2)
    ·exact(G2.tq z hz).imp (fun y=>y) fun y=>y.mono l1 (ud _)
   ·show((Arms.cons t ns m' k B.1 R.1).l.flatMap wiA).Nodup
    rw[e0,UM];refine⟨G1.nd,G2.nd,fun x hx y hy e=>?_⟩;subst e;exact(G2.tq _ hy).elim (fun z=>z.off (G1.tq _ hx) hm) fun z=>(G1.tq _ hx).off z (ud _)
theorem ABN:∀(f:Nat)(b:Bd)(n:Nat),b.mu<=f->(∀k∈b.atk,k="")->Nc nx b n (AB nx f b n)
 |0,b,n,h,_=>by have:=b.mu_pos;lia
 |f+1,b,n,h,ha=>by
  have ih:=ABN f;cases b with
  |give x=>exact⟨ExB.rfl _,fun a h=>(by cases h),List.nodup_nil⟩
  |lt x d b =>
   rw[Bd.mu]at h;rw[Bd.atk]at ha;have G:=ih b n (by lia) ha;have e:AB nx (f+1) (.lt x d b) n=(.lt x d (AB nx f b n).1,(AB nx f b n).2):=rfl;rw[e];generalize AB nx f b n=B at *;have e1:wiB (Bd.lt x d B.1)=wiB B.1:=by unfold wiB;rw[Bd.atk]
   refine⟨?_,by show ∀k∈wiB (Bd.lt x d B.1),_;rw[e1];exact G.tq,by show(wiB (Bd.lt x d B.1)).Nodup;rw[e1];exact G.nd⟩;show ExB _ (.lt x d b) (.lt x d B.1);rw[ExB];exact⟨d,b,rfl,.inl rfl,G.ex⟩
  |hold x y b =>
   rw[Bd.mu]at h;rw[Bd.atk]at ha;have G:=ih b n (by lia) ha;have e:AB nx (f+1) (.hold x y b) n=(.hold x y (AB nx f b n).1,(AB nx f b n).2):=rfl;rw[e];generalize AB nx f b n=B at *;have e1:wiB (Bd.hold x y B.1)=wiB B.1:=by unfold wiB;rw[Bd.atk]
   refine⟨?_,by show ∀k∈wiB (Bd.hold x y B.1),_;rw[e1];exact G.tq,by show(wiB (Bd.hold x y B.1)).Nodup;rw[e1];exact G.nd⟩;show ExB _ (.hold x y b) (.hold x y B.1);rw[ExB];exact⟨b,rfl,G.ex⟩
  |drop x b =>
   rw[Bd.mu]at h;rw[Bd.atk]at ha;have G:=ih b n (by lia) ha;have e:AB nx (f+1) (.drop x b) n=(.drop x (AB nx f b n).1,(AB nx f b n).2):=rfl;rw[e];generalize AB nx f b n=B at *;have e1:wiB (Bd.drop x B.1)=wiB B.1:=by unfold wiB;rw[Bd.atk]
   refine⟨?_,by show ∀k∈wiB (Bd.drop x B.1),_;rw[e1];exact G.tq,by show(wiB (Bd.drop x B.1)).Nodup;rw[e1];exact G.nd⟩;show ExB _ (.drop x b) (.drop x B.1);rw[ExB];exact⟨b,rfl,G.ex⟩
  |loose x b =>
   rw[Bd.mu]at h;rw[Bd.atk]at ha;have G:=ih b n (by lia) ha;have e:AB nx (f+1) (.loose x b) n=(.loose x (AB nx f b n).1,(AB nx f b n).2):=rfl;rw[e];generalize AB nx f b n=B at *;have e1:wiB (Bd.loose x B.1)=wiB B.1:=by unfold wiB;rw[Bd.atk]
   refine⟨?_,by show ∀k∈wiB (Bd.loose x B.1),_;rw[e1];exact G.tq,by show(wiB (Bd.loose x B.1)).Nodup;rw[e1];exact G.nd⟩;show ExB _ (.loose x b) (.loose x B.1);rw[ExB];exact .inl ⟨b,rfl,G.ex⟩
  |iff x b c =>
   rw[Bd.mu]at h;rw[Bd.atk]at ha;have l1:=AB_n hnx f b n;have l2:=AB_n hnx f c (AB nx f b n).2;have F:=ih b n (by lia) (fun k hk=>ha k (uP _ hk));have G:=ih c (AB nx f b n).2 (by lia) (fun k hk=>ha k (uG _ hk));have e:AB nx (f+1) (.iff x b c) n=(.iff x (AB nx f b n).1 (AB nx f c (AB nx f b n).2).1,(AB nx f c (AB nx f b n).2).2):=rfl;rw[e];generalize AB nx f c (AB nx f b n).2=C at *;generalize AB nx f b n=B at *;refine⟨?_,fun z hz=>?_,?_⟩
   ·show ExB (Tq nx n C.2) (.iff x b c) (.iff x B.1 C.1)
    rw[ExB];exact⟨b,c,rfl,F.ex.mono fun z e=>e.mono (ud _) l2,G.ex.mono fun z e=>e.mono l1 (ud _)⟩
   ·have hz:z∈wiB (.iff x B.1 C.1):=hz
    rw[Yt]at hz;exact(uJ.mp hz).elim (fun y=>(F.tq z y).mono (ud _) l2) fun y=>(G.tq z y).mono l1 (ud _)
   ·show(wiB (.iff x B.1 C.1)).Nodup
    rw[Yt,UM];exact⟨F.nd,G.nd,fun x hx y hy e=>(F.tq _ hx).off (e ▸ G.tq _ hy) (ud _)⟩
  |cs x as =>
   have hmu:∀b∈(as.tk nx n).1.bs,b.mu<=f:=fun b hb=>by
    have:b.mu < (Bd.cs x as).mu:=Yo (nx:=nx) (n:=n) (b:=.cs x as) hb
    lia
   rw[Bd.atk]at ha;have G:=Vy hnx ih as n (as.tk nx n).2 (ud _) hmu ha;have h1:=tk_n hnx as n;have h2:(as.tk nx n).2<=(resA (AB nx f) (as.tk nx n).1 (as.tk nx n).2).2:=xO hnx (AB_n hnx f) _ _;have e:AB nx (f+1) (.cs x as) n=(.cs x (resA (AB nx f) (as.tk nx n).1 (as.tk nx n).2).1,(resA (AB nx f) (as.tk nx n).1 (as.tk nx n).2).2):=rfl;rw[e];generalize resA (AB nx f) (as.tk nx n).1 (as.tk nx n).2=R at *;refine⟨?_,fun z hz=>?_,?_⟩
   ·show ExB _ (.cs x as) (.cs x R.1)
    rw[ExB];exact⟨as,rfl,G.ex⟩
   ·have hz:z∈wiB (.cs x R.1):=hz
    rw[Y8]at hz;exact(G.tq z hz).elim (fun y=>y.mono (ud _) h2) fun y=>y.mono h1 (ud _)
   ·show(wiB (.cs x R.1)).Nodup
    rw[Y8];exact G.nd
end
structure AnR(d:Df)(b:Bd):Prop where
 bare:b.bare=d.b
 nd:(wiB b).Nodup
 nm:∀k∈wiB b,k∉d.ps++d.b.binds
theorem Vz{tk:LS}(hl:d.b.pl)(ha:∀k∈d.b.atk,k="")(hm:∀q∈d.b.mks,q.2="")(ht:∀x∈d.ps++d.b.binds,x∈tk):AnR d (AB (nxT tk) d.b.mu d.b n).1:=by
 have h:=ABN (nx:=nxT tk) (fun n=>(xt tk n).1) d.b.mu d.b n (ud _) ha;refine⟨h.ex.bare.trans (Bd.bare_id hl ha hm),h.nd,fun k hk e=>?_⟩;obtain⟨c,_,_,rfl⟩:=h.tq k hk;exact(xt tk c).2.1 (ht _ e)
def rnD(f:Str->Str):Dd->Dd
 |.num i=>.num i
 |.op w a b=>.op w (f a) (f b)
 |.mk t ns k=>.mk t (ns.map f) k
 |.call g ns=>.call g (ns.map f)
 |.fn g ns=>.fn g (ns.map f)
 |.ask g ns=>.ask (f g) (ns.map f)
mutual
def Bd.rn(f:Str->Str):Bd->Bd
 |.give x=>.give (f x)
 |.lt x d b=>.lt (f x) (rnD f d) (b.rn f)
 |.hold x y b=>.hold (f x) (f y) (b.rn f)
 |.drop x b=>.drop (f x) (b.rn f)
 |.loose k b=>.loose k (b.rn f)
 |.iff x b c=>.iff (f x) (b.rn f) (c.rn f)
 |.cs x as=>.cs (f x) (as.rn f)
def Arms.rn(f:Str->Str):Arms->Arms
 |.nil=>.nil
 |.cons t ns m k b r=>.cons t (ns.map f) m k (b.rn f) (r.rn f)
end
theorem zbs(f:Str->Str)(d:Dd):mkD (rnD f d)=mkD d:=by
 cases d with
 |mk t ns k=>show[((ns.map f).length,k)]=[(ns.length,k)];rw[ua]
 |_=>rfl
theorem zbt(f:Str->Str)(d:Dd):(xr (rnD f d)).length=(xr d).length:=by
 cases d<;>simp[rnD,xr]
mutual
theorem Bd.rn_st{f:Str->Str}:∀b:Bd,(b.rn f).pl=b.pl/\(b.rn f).atk=b.atk/\(b.rn f).mks=b.mks/\(b.rn f).dp=b.dp/\(b.rn f).sz=b.sz/\(b.rn f).cd=b.cd/\(b.rn f).binds.length=b.binds.length
 |.give x=>by rw[Bd.rn];simp[Bd.pl,Bd.atk,Bd.mks,Bd.dp,Bd.sz,Bd.cd,Bd.binds]
 |.lt x d b=>by have h:=Bd.rn_st (f:=f) b;rw[Bd.rn];simp[Bd.pl,Bd.atk,Bd.mks,Bd.dp,Bd.sz,Bd.cd,Bd.binds,h,zbs,zbt]
 |.hold x y b=>by have h:=Bd.rn_st (f:=f) b;rw[Bd.rn];simp[Bd.pl,Bd.atk,Bd.mks,Bd.dp,Bd.sz,Bd.cd,Bd.binds,h]
 |.drop x b=>by have h:=Bd.rn_st (f:=f) b;rw[Bd.rn];simp[Bd.pl,Bd.atk,Bd.mks,Bd.dp,Bd.sz,Bd.cd,Bd.binds,h]
 |.loose x b=>by have h:=Bd.rn_st (f:=f) b;rw[Bd.rn];simp[Bd.pl,Bd.atk,Bd.mks,Bd.dp,Bd.sz,Bd.cd,Bd.binds,h]
 |.iff x b c=>by have h:=Bd.rn_st (f:=f) b;have g:=Bd.rn_st (f:=f) c;rw[Bd.rn];simp[Bd.pl,Bd.atk,Bd.mks,Bd.dp,Bd.sz,Bd.cd,Bd.binds,h,g]
 |.cs x as=>by have h:=Arms.rn_st (f:=f) as;rw[Bd.rn];simp[Bd.pl,Bd.atk,Bd.mks,Bd.dp,Bd.sz,Bd.cd,Bd.binds,h]
theorem Arms.rn_st{f:Str->Str}:∀as:Arms,(as.rn f).pl=as.pl/\(as.rn f).atk=as.atk/\(as.rn f).mks=as.mks/\(as.rn f).dp=as.dp/\(as.rn f).sz=as.sz/\(as.rn f).cd=as.cd/\(as.rn f).binds.length=as.binds.length
 |.nil=>by rw[Arms.rn];simp
 |.cons t ns m k b r=>by have h:=Bd.rn_st (f:=f) b;have g:=Arms.rn_st (f:=f) r;rw[Arms.rn];simp[Arms.pl,Arms.atk,Arms.mks,Arms.dp,Arms.sz,Arms.cd,Arms.binds,h,g]
end
end GN
namespace L2
open PySem PySem.Spec PyProof.Rows
theorem ZJ(l:Addr)(its:Array Value)(n:Nat)(x:Value)(e:Value->Bool)(j:Nat)(hj:j < its.size)(hit:e its[j]=true)(hz:its.size<=sizeLine):∀(k i:Nat),i+k=j->(∀m (hm:m < its.size),m < j->e its[m]=false)->Meets (Builtin.«list.remove.loop» ⟨[.ref l,x,rawInt i],[]⟩)
   (fun A R s=>s.heap.get? l=some (seqObj "list" its n)/\(∀y,y∈its->SeqAt.EqAt A.in1 s y x (e y))/\R (.ok (.ret .none)) { s with heap:=s.heap.update l (Obj.mapSeq fun xs=>xs.eraseIdxIfInBounds j) })
 |0,i,hk,hno=>by
  intro prog w A R s h;obtain⟨hp,g,d,tk,os⟩:=s;obtain⟨hl,he,h⟩:=h;obtain rfl:i=j:=by lia
  wp_walk using wpAny_loadPart' hl
  rw[show its[((i:Nat):Int).toNat]?=some its[i] by simp[hj]];refine wpAny_bind (he _ (Array.getElem_mem hj) prog w _ _ ?_);rw[hit];have z2:=uC (MeetsSeq.size_erased its i) (Nat.le_succ_of_le hz)
  wp_walk using(wpAny_updateSeq hl rfl (hz:=hz) (_hz':=z2)),wpAny_loadPart' hl
  simpa using h
 |k+1,i,hk,hno=>by
  intro prog w A R s h;obtain⟨hp,g,d,tk,os⟩:=s;obtain⟨hl,he,h⟩:=h;have hlt:i < its.size:=by lia
  wp_walk using wpAny_loadPart' hl
  rw[show its[((i:Nat):Int).toNat]?=some its[i] by simp[hlt]];refine wpAny_bind (he _ (Array.getElem_mem hlt) prog w _ _ ?_);rw[hno i hlt (by lia)]
  wp_walk
  rw[show((i:Int)+1)=((i+1:Nat):Int) by lia];refine⟨plainId_quiet MeetsSeq.plain_remove_loop _,codeAny_builtin MeetsSeq.entry_remove_loop ?_⟩;rw[Around.under_plainId MeetsSeq.plain_remove_loop _];exact ZJ l its n x e j hj hit hz k (i+1) (by lia) hno prog w A R _ ⟨hl,he,h⟩
theorem Qd(l:Addr)(its:Array Value)(n:Nat)(x:Value)(e:Value->Bool)(j:Nat)(hj:j < its.size)(hit:e its[j]=true)(hz:its.size<=sizeLine)(hno:∀m (hm:m < its.size),m < j->e its[m]=false):Meets (Builtin.«list.remove» ⟨[.ref l,x],[]⟩)
   (fun A R s=>s.heap.get? l=some (seqObj "list" its n)/\(∀y,y∈its->SeqAt.EqAt A.in1 s y x (e y))/\R (.ok (.ret .none)) { s with heap:=s.heap.update l (Obj.mapSeq fun xs=>xs.eraseIdxIfInBounds j) }):=by
 intro prog w A R s h;obtain⟨hp,g,d,tk,os⟩:=s;obtain⟨hl,he,h⟩:=h
 wp_walk using wpAny_loadPart' hl
 refine⟨plainId_quiet MeetsSeq.plain_remove_loop _,codeAny_builtin MeetsSeq.entry_remove_loop ?_⟩;rw[Around.under_plainId MeetsSeq.plain_remove_loop _];exact ZJ l its n x e j hj hit hz j 0 (by lia) hno prog w A R _ ⟨hl,he,h⟩
theorem erm{α β:Type}(g:α->β):∀(l:List α)(i:Nat),(l.eraseIdx i).map g=(l.map g).eraseIdx i
 |[],_=>rfl
 |_::_,0=>rfl
 |x::l,i+1=>by
  show g x::(l.eraseIdx i).map g=g x::(l.map g).eraseIdx i;rw[erm g l i]
def wI(k:Str):Value->Bool
 |.str a _=>a == k
 |_=>false
def Q7:V->List V->Hp->VK->Prop:=fun x vs H Q=>∃(l:Addr)(ns:LS)(k:Str),x=.ref l/\vs=[.str k]/\H l=some (.lst (ns.map V.str))/\k∈ns/\∀j,j < ns.length->Q .non (upd H l (.lst ((ns.eraseIdx j).map V.str)))
theorem Qe:MtM X "list.remove" Q7:=by
 intro pins s σ H x vs v us Q I rx rv h;obtain⟨l,ns,k,rfl,rfl,hH,hk,q⟩:=h;cases rx;obtain⟨u,rfl,ru⟩:=rv.one;obtain⟨t0,rfl⟩:=ru;obtain⟨z,its,n,r,hl,e⟩:=I.lstM hH;have hlr:=r.length;rw[ua]at hlr;have at_:∀(i:Nat)(h:i < its.length),∃(a:Str)(t:Tok),its[i]=.str a t/\ns[i]?=some a:=fun i hi=>by
  have hi':i < ns.length:=by lia
  obtain⟨u,o1,p1⟩:=r.get (i:=i) (x:=.str ns[i]) (by rw[ug,ui hi'];rfl);obtain⟨t,rfl⟩:=p1;exact⟨ns[i],t,(ue.mp o1).2,ui hi'⟩
 have eqs:∀y,y∈its.toArray->SeqAt.EqAt X.A.in1 s y (.str k t0) (wI k y):=fun y hy=>by
  obtain⟨i,hi,e⟩:=List.mem_iff_getElem.mp (by simpa using hy);obtain⟨a,t,e1,e2⟩:=at_ i hi;rw[<- e,e1];exact SeqAt.EqAt.str_str a t k t0
 obtain⟨i0,hi0⟩:=List.getElem?_of_mem hk;have h0:i0 < its.length:=by
  have:=(ue.mp hi0).1
  lia
 have hit0:wI k its[i0]=true:=by
  obtain⟨a,t,e1,e2⟩:=at_ i0 h0;rw[hi0]at e2;cases e2;rw[e1];exact beq_self_eq_true k
 have hj:its.findIdx (wI k) < its.length:=List.findIdx_lt_length_of_exists ⟨_,List.getElem_mem h0,hit0⟩;generalize hjj:its.findIdx (wI k)=j at hj;have hit:wI k its[j]=true:=by
  subst hjj;exact List.findIdx_getElem
 have hno:∀m (hm:m < its.toArray.size),m < j->wI k its.toArray[m]=false:=fun m hm hmj=>by
  subst hjj
  have:=List.not_of_lt_findIdx hmj
  simpa using this
 have hjt:j < ns.length:=by lia
 have q:=q j hjt;rw[erm]at q;refine call_meets F.slot_list_remove ⟨_,e,rfl⟩ F.entry_list_remove (F.args_list_remove_2 _ _) (Qd l its.toArray n (.str k t0) _ j (by simpa using hj) (by simpa using hit) (by rw[uo,<- hlr];rw[ua]at z;lia) hno) ⟨e,eqs,?_⟩;refine⟨.non,_,I.lset (its':=its.eraseIdx j) hH e ?_ (r.eraseIdx j) ?_,rfl,q⟩
 ·show its.toArray.eraseIdxIfInBounds j=(its.eraseIdx j).toArray
  rw[UH]
 ·have:=wE (ns.map V.str) j
  lia
theorem Qf:jMt X "list.remove" Q7:=⟨Qe⟩
end L2
namespace GN
open PySem L2 K11
variable{d s c:Nat}
structure Kw(st wl:Addr)(H H':Hp):Prop where
 k:∀b u,b≠st->b≠wl->H b=some u->H' b=some u
 s:∀a k,H st=some (.lst [.ref a,.int k])->∃k',H' st=some (.lst [.ref a,.int k'])
 w:wl≠st->∀z b tl dl xs,H wl=some (.lst (z::b::.ref tl::.ref dl::xs))->∃xs',H' wl=some (.lst (z::b::.ref tl::.ref dl::xs'))
inductive WlX(H:Hp)(wl:Addr)(o:Wg)(a r:Nat):Prop
 |mk (tl:Addr) (dl:Addr) (ts:List Addr):(∃us:List Addr,H wl=some (.lst [.str o.z,.bl o.b,.ref tl,.ref dl,.int (a:Nat),.int (r:Nat)])/\H tl=some (.lst (ts.map V.ref))/\TsAt tgR H o.T ts/\H dl=some (.lst (us.map V.ref))/\TsAt dfR H o.D us)->WlX H wl o a r
section
variable{K:uc}{st:Addr}{o:Wg}{a r:Nat}{x:HO}
theorem WlX.gen(h:WlX H wl o a r):WlAt H wl o:=by obtain⟨tl,dl,ts,us,h1,h2⟩:=h;exact⟨tl,dl,ts,us,_,h1,h2⟩
theorem WlX.ex(h:WlX H wl o a r):∃xs,H wl=some (.lst (.str o.z::xs)):=by obtain⟨_,_,_,_,h1,_⟩:=h;exact⟨_,h1⟩
theorem WlX.ne(h:WlX H wl o a r)(S:Sta K H st B):wl≠st:=by obtain⟨_,_,_,_,h1,_⟩:=h;exact S.neW h1
theorem WlX.kp(h:WlX H wl o a r)(S:Sta K H st B)(k:Kp st H H'):WlX H' wl o a r:=by
 obtain⟨tl,dl,ts,us,h1,h2,h3,h4,h5⟩:=h;have t:=k.tups S;exact⟨tl,dl,ts,us,k.k _ _ (S.neW h1) h1,k.k _ _ (S.neR h2) h2,h3.keep fun _ _ z=>z.tk t,k.k _ _ (S.neR h4) h4,h5.keep fun _ _ z=>z.tk t⟩
theorem WlX.neR{qs:List Addr}(h:WlX H wl o a r)(e:H p=some (.lst (qs.map V.ref))):p≠wl:=fun z=>by
 obtain⟨xs,h1⟩:=h.ex;rw[z,h1]at e;cases qs<;>cases e
theorem WlX.neS{qs:LS}(h:WlX H wl o a r)(e:H p=some (.lst (qs.map V.str))):p≠wl:=fun z=>by
 obtain⟨tl,dl,ts,us,h1,_⟩:=h;rw[z,h1]at e;have e:=HO.lst.inj (u5.inj e)
 match qs,e with
 |[],e=>cases e
 |[_],e=>cases e
 |_::_::_,e=>cases e
theorem Kw.trans(a:Kw st wl H H1)(b:Kw st wl H1 H2):Kw st wl H H2:=⟨fun c u n n' h=>b.k c u n n' (a.k c u n n' h),fun x k h=>let ⟨k',h'⟩:=a.s x k h;b.s x k' h',fun n z y tl dl xs h=>let ⟨xs',h'⟩:=a.w n z y tl dl xs h;b.w n z y tl dl xs' h'⟩
theorem Kw.kp(a:Kp st H H1):Kw st wl H H1:=⟨fun c u n _ h=>a.k c u n h,a.s,fun n z y tl dl xs h=>⟨xs,a.k _ _ n h⟩⟩
theorem Kw.of(a:Same H H1):Kw st wl H H1:=.kp (.of a)
theorem Kw.tups(k:Kw st wl H H')(h:Sta K H st B)(w:WlX H wl o a r):Tups H H':=fun p xs q=>k.k p _ (fun e=>by
  obtain⟨_,_,_,h1,_⟩:=h;rw[e,h1]at q;cases q) (fun e=>by
  obtain⟨_,h1⟩:=w.ex;rw[e,h1]at q;cases q) q
theorem Kw.put(a:Kw st wl H H1)(h:H p=none):Kw st wl H (upd H1 p x):=⟨fun b u n n' q=>by rw[zj (zo q h)];exact a.k b u n n' q,fun y k q=>by
 obtain⟨k',h'⟩:=a.s y k q;exact⟨k',by rw[zj (zo q h)];exact h'⟩,fun n z y tl dl xs q=>by
 obtain⟨xs',h'⟩:=a.w n z y tl dl xs q;exact⟨xs',by rw[zj (zo q h)];exact h'⟩⟩
theorem Sta.putS(S0:Sta K H st B)(hp:H p=none)(ks:∀a k,H st=some (.lst [.ref a,.int k])->∃k',H2 st=some (.lst [.ref a,.int k']))(S2:Sta K H2 st B'):Sta K (upd H2 p x) st B':=by
 obtain⟨a,ns,i,h1,h2,h3,_⟩:=S0;obtain⟨a',ns',i',g1,g2,g3,g4⟩:=S2;obtain⟨k',h'⟩:=ks a _ h1;rw[g1]at h';have ea:a'=a:=congrArg (fun o=>match o with|some (HO.lst (V.ref x::_))=>x|_=>0) h';subst ea;have g1':upd H2 p x st=some (.lst [.ref a',.int ((i':Nat):Int)]):=by rw[zj (zo h1 hp)];exact g1
 have key:a'≠p->Sta K (upd H2 p x) st B':=fun n=>by
  refine⟨a',ns',i',g1',g2,?_,g4⟩;rcases g3 with(g|⟨o,g⟩)|g
  ·exact .inl (.inl (by rw[zj n];exact g))
  ·exact .inl (.inr ⟨o,by rw[zj n];exact g⟩)
  ·exact .inr g
 rcases h3 with(h|⟨_,h⟩)|h
 ·exact key (zo h hp)
 ·exact key (zo h hp)
 ·exact⟨a',ns,i',g1',fun _ _=>.inr h,.inr h,g4⟩
theorem Sta.putW(S2:Sta K H st B)(hp:H p=some (.lst (.str z::xs))):Sta K (upd H p x) st B:=by
 have n:=S2.neW hp;obtain⟨a',ns',i',g1,g2,g3,g4⟩:=S2;refine⟨a',ns',i',by rw[zj (Ne.symm n)];exact g1,g2,?_,g4⟩;rcases g3 with(g|⟨o,g⟩)|g
 ·refine .inl (.inl ?_)
  rw[zj fun e=>?_]
  ·exact g
  ·rw[e,hp]at g
   cases ns' with
   |nil=>cases g
   |cons a b=>cases g
 ·refine .inl (.inr ⟨o,?_⟩)
  rw[zj fun e=>?_]
  ·exact g
  ·rw[e,hp]at g
   cases g
 ·exact .inr g
theorem WlX.put(h:WlX H wl o a r)(S:Sta K H st B){a':Nat}:∃tl dl,H wl=some (.lst [.str o.z,.bl o.b,.ref tl,.ref dl,.int (a:Nat),.int (r:Nat)])/\WlX (upd H wl (.lst [.str o.z,.bl o.b,.ref tl,.ref dl,.int (a':Nat),.int (r:Nat)])) wl o a' r/\Sta K (upd H wl (.lst [.str o.z,.bl o.b,.ref tl,.ref dl,.int (a':Nat),.int (r:Nat)])) st B/\Kw st wl H (upd H wl (.lst [.str o.z,.bl o.b,.ref tl,.ref dl,.int (a':Nat),.int (r:Nat)])):=by
 obtain⟨tl,dl,ts,us,h1,h2,h3,h4,h5⟩:=id h;have nt:=h.neR h2;have nd:=h.neR h4;have tp:Tups H (upd H wl (.lst [.str o.z,.bl o.b,.ref tl,.ref dl,.int (a':Nat),.int (r:Nat)])):=fun p xs q=>by rw[zj fun e=>by rw[e,h1]at q;cases q];exact q
 have n:=S.neW h1;exact⟨tl,dl,h1,⟨tl,dl,ts,us,zg,by rw[zj nt];exact h2,h3.keep fun _ _ z=>z.tk tp,by rw[zj nd];exact h4,h5.keep fun _ _ z=>z.tk tp⟩,S.putW h1,⟨fun b u _ nb q=>by rw[zj nb];exact q,fun y k q=>⟨k,by rw[zj (Ne.symm n)];exact q⟩,fun _ z y tl' dl' xs q=>by
  rw[h1]at q;cases q;exact⟨_,zg⟩⟩⟩
theorem WlX.putN{a0 r0:Nat}{ys:List V}(w0:WlX H wl o a0 r0)(S0:Sta K H st B)(k:Kw st wl H H2)(hp:H p=none)(e:H2 p=some (.lst ys))(w2:WlX H2 wl o a r):WlX (upd H2 p x) wl o a r:=by
 have n:=w0.ne S0;obtain⟨tl,dl,_,_,h1,h2,_,h4,_⟩:=w0;obtain⟨xs',k1⟩:=k.w n _ _ _ _ _ h1;obtain⟨tl',dl',ts,us,g1,g2,g3,g4,g5⟩:=w2;rw[g1]at k1;cases k1;have tp:Tups H2 (upd H2 p x):=fun q xs z=>by rw[zj fun y=>by rw[y,e]at z;cases z];exact z
 exact⟨tl,dl,ts,us,by rw[zj (zo h1 hp)];exact g1,by rw[zj (zo h2 hp)];exact g2,g3.keep fun _ _ z=>z.tk tp,by rw[zj (zo h4 hp)];exact g4,g5.keep fun _ _ z=>z.tk tp⟩
end
structure RG(b:Bd)(d s c:Nat):Prop where
 a:∀k∈b.atk,k=""
 m:∀q∈b.mks,q.2=""
 dp:b.dp<=d
 sz:b.sz<=s
 cd:b.cd<=c
 bn:b.binds.length<=10*b.sz
 l:b.pl
section
variable{b b':Bd}{d' s' c':Nat}{dd:Dd}{ow:List (Str×List Bool)}
theorem RG.mono(h:RG b d s c)(h1:d<=d')(h2:s<=s')(h3:c<=c'):RG b d' s' c':=⟨h.a,h.m,uC h.dp h1,uC h.sz h2,uC h.cd h3,h.bn,h.l⟩
theorem RG.give:RG (.give x) 1 1 c:=⟨fun k h=>(by rw[Bd.atk]at h;cases h),fun k h=>(by rw[Bd.mks]at h;cases h),by rw[Bd.dp];lia,by rw[Bd.sz];lia,by rw[Bd.cd];lia,by rw[Bd.binds];exact uF _,by rw[Bd.pl];trivial⟩
theorem RG.lt(h:RG b d s c)(hd:LnD ow dd):RG (.lt x dd b) (d+1) (s+1) c:=by
 have h1:=h.dp;have h2:=h.sz;have h3:=h.cd;have h4:=h.bn;refine⟨by rw[Bd.atk];exact h.a,fun q hq=>?_,by rw[Bd.dp];lia,by rw[Bd.sz];lia,by rw[Bd.cd];exact h3,by rw[Bd.binds,Bd.sz,um];lia,by rw[Bd.pl];exact⟨hd.1,h.l⟩⟩;rw[Bd.mks]at hq;exact(uJ.mp hq).elim (hd.2 q) (h.m q)
theorem RG.hold(h:RG b d s c):RG (.hold x y b) (d+1) (s+1) c:=by
 have h1:=h.dp;have h2:=h.sz;have h3:=h.cd;have h4:=h.bn;exact⟨by rw[Bd.atk];exact h.a,by rw[Bd.mks];exact h.m,by rw[Bd.dp];lia,by rw[Bd.sz];lia,by rw[Bd.cd];exact h3,by rw[Bd.binds,Bd.sz,um];lia,by rw[Bd.pl];exact h.l⟩
theorem RG.drop(h:RG b d s c):RG (.drop x b) (d+1) (s+1) c:=by
 have h1:=h.dp;have h2:=h.sz;have h3:=h.cd;have h4:=h.bn;exact⟨by rw[Bd.atk];exact h.a,by rw[Bd.mks];exact h.m,by rw[Bd.dp];lia,by rw[Bd.sz];lia,by rw[Bd.cd];exact h3,by rw[Bd.binds,Bd.sz];lia,by rw[Bd.pl];exact h.l⟩
theorem RG.iff(h:RG b d s c)(g:RG b' d s' c):RG (.iff x b b') (d+1) (s+s'+1) c:=by
 have h1:=h.dp;have h2:=h.sz;have h3:=h.cd;have h4:=h.bn;have g1:=g.dp;have g2:=g.sz;have g3:=g.cd;have g4:=g.bn;refine⟨fun k hk=>?_,fun q hq=>?_,by rw[Bd.dp];lia,by rw[Bd.sz];lia,by rw[Bd.cd];lia,by rw[Bd.binds,Bd.sz,ub];lia,by rw[Bd.pl];exact⟨h.l,g.l⟩⟩
 ·rw[Bd.atk]at hk
  exact(uJ.mp hk).elim (h.a k) (g.a k)
 ·rw[Bd.mks]at hq
  exact(uJ.mp hq).elim (h.m q) (g.m q)
end
def Arms.ofL:List ArmR->Arms
 |[]=>.nil
 |a::l=>.cons a.t a.ns a.m a.k a.b (Arms.ofL l)
structure RA(a:ArmR)(d s c:Nat):Prop where
 b:RG a.b d s c
 k:a.k=""
 n:a.ns.length<=9
structure RAs(as:Arms)(d s c:Nat):Prop where
 a:∀k∈as.atk,k=""
 m:∀q∈as.mks,q.2=""
 dp:as.dp<=d
 sz:as.sz<=s
 cd:as.cd<=c
 bn:as.binds.length<=10*as.sz
 l:as.pl
theorem Xa{d s c:Nat}:∀{l:List ArmR},(∀a∈l,RA a d s c)->RAs (Arms.ofL l) d (l.length*(s+1)) c
 |[],_=>⟨fun k h=>(by cases h),fun k h=>(by cases h),by show Arms.nil.dp<=d;rw[Arms.dp];lia,by show Arms.nil.sz<=_;rw[Arms.sz];lia,by show Arms.nil.cd<=c;rw[Arms.cd];lia,by show Arms.nil.binds.length<=_;rw[Arms.binds];exact uF _,by show Arms.nil.pl;rw[Arms.pl];trivial⟩
 |a::l,h=>by
  have ha:=h a (.head _);have hl:=Xa fun b hb=>h b (.tail _ hb);have h1:=ha.b.dp;have h2:=ha.b.sz;have h3:=ha.b.cd;have h4:=ha.b.bn;have g1:=hl.dp;have g2:=hl.sz;have g3:=hl.cd;have g4:=hl.bn;have n9:=ha.n;unfold Arms.ofL;refine⟨fun k hk=>?_,fun q hq=>?_,by rw[Arms.dp];lia,?_,by rw[Arms.cd];lia,?_,by rw[Arms.pl];exact⟨by lia,ha.b.l,hl.l⟩⟩
  ·rw[Arms.atk]at hk
   rcases uq.mp hk with e|hk
   ·rw[e];exact ha.k
   ·exact(uJ.mp hk).elim (ha.b.a k) (hl.a k)
  ·rw[Arms.mks]at hq
   exact(uJ.mp hq).elim (ha.b.m q) (hl.m q)
  ·rw[Arms.sz,um,Nat.succ_mul]
   lia
  ·rw[Arms.binds,Arms.sz,ub,ub]
   lia
theorem RG.cs{l:List ArmR}(h:∀a∈l,RA a d s c):RG (.cs x (Arms.ofL l)) (d+1) (l.length*(s+1)+1) (c+1):=by
 have g:=Xa h;have g1:=g.dp;have g2:=g.sz;have g3:=g.cd;have g4:=g.bn;exact⟨by rw[Bd.atk];exact g.a,by rw[Bd.mks];exact g.m,by rw[Bd.dp];lia,by rw[Bd.sz];lia,by rw[Bd.cd];lia,by rw[Bd.binds,Bd.sz];lia,by rw[Bd.pl];exact g.l⟩
theorem ZK:∀{zs:LS},(∀z∈zs,z.length=1)->(Str.join "" zs).length=zs.length
 |[],_=>rfl
 |[x],h=>h x Us
 |x::y::r,h=>by
  have ih:=ZK (zs:=y::r) fun z hz=>h z (Ul _ hz);rw[<- xg,jy,ub,ub,xg,xg,xg,ih,h x Us];show 1+(0+(y::r).length)=(y::r).length+1;lia
theorem VA{zs:LS}(h:∀z∈zs,z.length=1):wide "" zs=zs.length:=by
 unfold wide;have e:∀{l:LS},(∀z∈l,z.length=1)->(l.map (·.length)).sum=l.length:=by
  intro l
  induction l with
  |nil=>intro _;rfl
  |cons a l ih=>intro h;rw[ur,uS,ih fun z hz=>h z (Ul _ hz),h a Us,um];lia
 rw[e h]
 rfl
inductive spStem(K:uc)(vs:List V)(H:Hp)(Q:VK)(e_3:XK):Prop
 |mk (st:Addr):(∃B:Nat,vs=[.ref st]/\Sta K H st B/\B+10 < LIM/\∀(H':Hp)(r:Addr)(z:Str)(b:Bool),Kp st H H'->Sta K H' st (B+8)->z.length<=6->H' r=some (.lst [.str z,.bl b])->Q (.ref r) H')->spStem K vs H Q e_3
section
variable{K:uc}
theorem scStem:FnScope ["_law_state","_law_letters","_law_stem_here"] ["_law_state"] (zp WD):=.ok
theorem zbu:(["_law_state","_law_letters","_law_stem_here","_law_k"]:LS).Nodup:=by decide +kernel
theorem Qg(F:Fun K "_law_stem" "_law_stem" WD f fd)(GD:Ca P w K mg base CX0 1 "_law_draw" lS1 (spDraw K))(m_range:mg "range"=none):FnOk P w K mg base CX0 2 f fd ["_law_state"] (spStem K):=by
 refine F.by scStem (fun vs H Q E h=>?_) (fun cdv A outer s H vs Q E hr h=>?_)
 ·obtain⟨st,B,rfl,_⟩:=h
  rfl
 obtain⟨st,B,rfl,S0,hB,q⟩:=h;refine⟨_,
  (zh (sE 1 scStem.nd zq)
  (zh (sE 2 scStem.nd (zV PySem.F.plainAttrs_str PySem.F.slot_str_join PySem.F.type_str_join Jx zq (jA1 (yo ["_law_k"] rfl (zW rfl m_range (jA1 (cA GD hr (jA2 (jv 0) zn)))) (fun _ _ _ _ _=>(gN 3 zbu)) (fun _ _ _ _ _=>zL) (fun _ _ _ _ _=>(xX Z5 (jv 1) (cA GD hr (jA2 (jv 0) zn))))))))
  (zk (zt (zC (jA2 (jv 2) (xz zD (cA GD hr (jA2 (jv 0) zn)) zn (wB _)))))))),?_⟩
 have sl:=zJ;unfold LIM at hB;have LM:LIM=4611686018427387904:=rfl;refine⟨rfl,_,rfl,st,7,B,rfl,S0,by lia,by decide,fun H1 r k1 S1 r0 r1=>?_⟩;refine⟨_,rfl,by lia,by lia,yL (n:=r.toNat) (fun i τ ys H'=>Kp st H H'/\Sta K H' st (B+1+i)/\(∃x,τ=[oR st,some (.str LET),none,x])/\∃zs:LS,ys=zs.map V.str/\zs.length=i/\∀z∈zs,z.length=1) ⟨k1,S1,⟨none,rfl⟩,[],rfl,rfl,fun z hz=>by cases hz⟩ ?_ ?_⟩
 ·rintro i τ ys H2 hi ⟨k2,S2,⟨x,rfl⟩,zs,rfl,hl,h1⟩
  refine⟨_,rfl,_,rfl,st,26,B+1+i,rfl,S2,by lia,by decide,fun H3 r3 k3 S3 q0 q1=>?_⟩;refine⟨LET,_,_,rfl,rfl,by rw[jB];decide,jz q0 q1,by rw[ua];lia,k2.trans k3,S3,⟨_,rfl⟩,zs++[⟨#[97+r3.toNat]⟩],by simp,by simp[hl],?_⟩;intro z hz;rcases uJ.mp hz with hz|hz
  ·exact h1 z hz
  ·rw[uE.mp hz]
   rfl
 rintro τ ys H2 ⟨k2,S2,_,zs,rfl,hl,h1⟩ pj hpj;refine⟨"",pj,zs,rfl,rfl,SqL.of zg,by rw[VA h1];lia,?_⟩;have zl:(Str.join "" zs).length<=6:=by rw[ZK h1];lia
 replace k2:=k2.new (o:=.lst (zs.map V.str)) hpj
 replace S2:=(S2.mono (show _<=B+7 by lia)).new hpj (.lst (zs.map V.str))
 generalize upd H2 pj (.lst (zs.map V.str))=H3 at *;generalize Str.join "" zs=z at *;refine⟨_,rfl,_,rfl,st,2,B+7,rfl,S2,by lia,by decide,fun H4 r4 k4 S4 _ _=>?_⟩;exact⟨rfl,sN2,fun wl hw=>q _ wl z _ ((k2.trans k4).new hw) (S4.new hw _) zl zg⟩
inductive spEndW(K:uc)(vs:List V)(H:Hp)(Q:VK)(e_3:XK):Prop
 |mk (st:Addr) (lm:Addr) (x:Str) (M:LS):(∃B:Nat,vs=[.ref st,.ref lm,.str x]/\Sta K H st B/\H lm=some (.lst (M.map V.str))/\M.length<=100/\B+10 < LIM/\∀(H':Hp)(p:Addr)(b:Bd),Kp st H H'->Sta K H' st (B+1)->IsBd H' b p->RG b (M.length+2) (M.length+2) 0->Q (.ref p) H')->spEndW K vs H Q e_3
theorem scEndW:FnScope ["_law_state","_law_mine","_law_name_here","_law_left","_law_body_here","_law_one"] lS7 (zp sEnd):=.ok
theorem Qh(F:Fun K "_law_end" "_law_end" sEnd f fd)(GD:Ca P w K mg base CX0 1 "_law_draw" lS1 (spDraw K))(m_len:mg "len"=none)(m_list:mg "list"=none):FnOk P w K mg base CX0 2 f fd lS7 (spEndW K):=by
 refine F.by scEndW (fun vs H Q E h=>?_) (fun cdv A outer s H vs Q E hr h=>?_)
 ·obtain⟨st,lm,x,M,B,rfl,_⟩:=h
  rfl
 obtain⟨st,lm,x,M,B,rfl,hS,hm,hM,hB,q⟩:=h;refine⟨_,
  (zh (zy (tN (vj hr) (jv 1) (zC zE))
   (zk (zt (zr (jA4 zq (jv 2) (zr (jA2 zq (cA GD hr (jA2 (jv 0) zn)))) (zr (jA2 zq (jv 2))))))) zu)
  (zh (sE 3 scEndW.nd (zB zZ rfl m_list uO (jA1 (jv 1))))
  (zh (sE 4 scEndW.nd (zr (jA2 zq (zV uk uY uZ vH (jv 3) (jA1 (cA GD hr (jA2 (jv 0) (jL m_len (jv 3)))))))))
  (zh (zM PassesOwn.never rfl (zY (jv 3)) (gN 5 scEndW.nd)
   (zk (sE 4 scEndW.nd (zr (jA3 zq (jv 5) (jv 4))))))
  (zk (zt (jv 4))))))),?_⟩
 have sl:=zJ;have LM:LIM=4611686018427387904:=rfl;rw[LM]at hB;have nlm:=hS.neS hm;refine⟨_,rfl,sN0,fun l0 f0=>?_⟩;have s0:=zi (o:=.lst []) f0;refine⟨lm,l0,_,rfl,rfl,SqL.of (s0 _ _ hm),SqL.of zg,_,rfl,?_⟩;have S0:=hS.same s0;have hm0:=s0 _ _ hm;generalize upd H l0 (.lst [])=H0 at *;by_cases ce:(M.map V.str).isEmpty=true
 ·refine zR ce ⟨_,rfl,_,rfl,st,9,B,rfl,S0,by rw[LM];lia,by decide,fun H1 r k1 S1 _ _=>⟨sN2,fun t1 f1=>⟨_,rfl,sN2,fun t2 f2=>⟨sN4,fun t3 f3=>?_⟩⟩⟩⟩
  have s3:=((zi (o:=.tup [.str "num",.int r]) f1).new (o:=.tup [.str "give",.str x]) f2).new (o:=.tup [.str "let",.str x,.ref t1,.ref t2]) f3;exact q _ t3 (.lt x (.num r) (.give x)) ((Kp.of s0).trans (k1.trans (.of s3))) (S1.same s3) ⟨t1,t2,zg,old f3 (old f2 zg),old f3 zg⟩ ((RG.lt (ow:=[]) (RG.give (x:=x) (c:=0)) ⟨by show 0<=1000;decide,raw0 rfl⟩).mono (by lia) (by lia) (ud _))
 have mp:0 < M.length:=by
  rw[List.isEmpty_map]at ce;cases M with
  |nil=>exact absurd rfl ce
  |cons a l=>exact Nat.succ_pos _
 refine iteE (by simpa using ce) (nxtC ?_);refine⟨_,rfl,lm,_,rfl,.inl (SqL.of hm0),fun l1 f1=>?_⟩;have s1:=s0.new (o:=.lst (M.map V.str)) f1;have S1:=hS.same s1;have g1:=zg (H:=H0) (a:=l1) (o:=.lst (M.map V.str));have f10:H l1=none:=s0.free f1;have n1s:=hS.ne f10;dsimp only
 generalize upd H0 l1 (.lst (M.map V.str))=H1 at *;refine⟨_,rfl,.inl ⟨rfl,_,SqL.of g1⟩,_,rfl,_,rfl,l1,_,rfl,.inl (SqL.of g1),st,((M.map V.str).length:Nat),B,rfl,S1,by rw[LM];lia,by rw[ua];lia,fun H2 r k2 S2 a2 b2=>?_⟩;rw[ua]at b2;obtain⟨j,rfl⟩:∃j:Nat,r=(j:Int):=⟨r.toNat,by lia⟩;have hj:j < M.length:=by lia
 have g2:=k2.k _ _ n1s g1;refine⟨l1,_,_,j,_,rfl,rfl,g2,by lia,by lia,Vv (by rw[ua];exact hj),(by rw[ug,ui hj];rfl),?_⟩;rw[xE];have k3:Kp st H (upd H2 l1 (.lst ((M.eraseIdx j).map V.str))):=((Kp.of s1).trans k2).put f10;have S3:Sta K (upd H2 l1 (.lst ((M.eraseIdx j).map V.str))) st (B+1):=hS.put f10 ((Kp.of s1).trans k2) S2;have g3:=zg (H:=H2) (a:=l1) (o:=.lst ((M.eraseIdx j).map V.str));have el:(M.eraseIdx j).length=M.length-1:=UE hj;generalize upd H2 l1 (.lst ((M.eraseIdx j).map V.str))=H3 at *;refine⟨sN2,fun t4 f4=>?_⟩;have s4:=zi (o:=.tup [.str "give",.str M[j]]) f4;refine⟨_,rfl,l1,rfl,⟨_,SqL.of (s4 _ _ g3)⟩,yz (xs:=(M.eraseIdx j).map V.str) (fun i σ H'=>Same H3 H'/\∃(b:Bd)(p:Addr)(z:Option V),σ=[oR st,oR lm,some (.str x),oR l1,oR p,z]/\IsBd H' b p/\RG b (1+i) (1+i) 0) ⟨s4,.give M[j],t4,none,rfl,zg,RG.give⟩ (fun i σ H' _ h=>SqL.of (h.1 _ _ g3)) ?_ ?_⟩
 ·rintro i v σ H5 hv ⟨s5,b,p,z,rfl,hb,hg⟩
  obtain⟨y,hy,rfl⟩:=L2.gM hv;refine⟨_,rfl,_,rfl,sN3,fun t6 f6=>?_⟩;exact⟨s5.new f6,.drop y b,t6,_,rfl,⟨p,zg,hb.keep (.of (zi f6 _))⟩,hg.drop.mono (by lia) (by lia) (ud _)⟩
 ·rintro σ H5 ⟨s5,b,p,z,rfl,hb,hg⟩
  rw[ua]at hg;exact⟨_,rfl,q _ p b (k3.trans (.of s5)) (S3.same s5) hb (hg.mono (by lia) (by lia) (ud _))⟩
def dB(n a:Nat):Nat:=66+4*n+2*a
def sR:Nat->Nat
 |0=>66
 |1=>2041
 |2=>2042
 |3=>31666
 |4=>31667
 |_=>31681
def cR:Nat->Nat
 |0=>0
 |1=>1
 |2=>1
 |_=>2
def bB(n:Nat):Nat:=1000*20 ^ n
theorem zb4(h:n<=4):sR n+1<=sR (n+1)/\sR (n / 2)+sR (n / 2)+1<=sR (n+1)/\15*(sR (n / 2)+70)+1<=sR (n+1)/\cR n<=cR (n+1)/\cR (n / 2)+1<=cR (n+1):=by
 have a:n=0\/n=1\/n=2\/n=3\/n=4:=by lia
 rcases a with rfl|rfl|rfl|rfl|rfl<;>decide
theorem ZL(n:Nat):bB (n+1)=20*bB n/\bB (n / 2)<=bB n/\1000<=bB n:=by
 refine⟨by unfold bB;rw[Nat.pow_succ];lia,Nat.mul_le_mul_left _ (Uw (by decide) (Nat.div_le_self _ _)),?_⟩
 have:1<=20 ^ n:=Nat.one_le_pow _ _ (by decide)
 unfold bB;lia
structure Pw(K:uc)(st wl:Addr)(o:Wg)(a r:Nat)(H:Hp)(B:Nat)(lm ll:Addr)(M L:LS)(n:Nat):Prop where
 ok:WgOk o
 w:WlX H wl o a r
 s:Sta K H st B
 al:a<=34
 m:H lm=some (.lst (M.map V.str))
 l:H ll=some (.lst (L.map V.str))
 ml:M.length+12*n<=63
 ll:L.length<=3
def PsR(K:uc)(st wl:Addr)(o:Wg)(r:Nat)(H:Hp)(B a d s c:Nat)(Q:VK):Prop:=∀(H':Hp)(p:Addr)(b:Bd)(a':Nat),Kw st wl H H'->Sta K H' st B->WlX H' wl o a' r->a'<=a->IsBd H' b p->RG b d s c->Q (.ref p) H'
inductive spBodyW(K:uc)(n:Nat)(vs:List V)(H:Hp)(Q:VK)(e_3:XK):Prop
 |mk (st:Addr) (lm:Addr) (ll:Addr) (wl:Addr) (M:LS) (L:LS) (k:Nat) (room:Int) (B:Nat) (a:Nat) (r:Nat):(∃o:Wg,vs=[.ref st,.ref lm,.ref ll,.int (k:Nat),.int room,.ref wl]/\Pw K st wl o a r H B lm ll M L n/\room<=(n:Int)/\n<=5/\B+bB n < LIM/\PsR K st wl o r H (B+bB n) a (dB n a) (sR n) (cR n) Q)->spBodyW K n vs H Q e_3
inductive spArmW(K:uc)(n:Nat)(vs:List V)(H:Hp)(Q:VK)(e_3:XK):Prop
 |mk (st:Addr) (lm:Addr) (ll:Addr) (wl:Addr) (po:Addr) (M:LS) (L:LS) (k:Nat) (room:Int) (B:Nat) (a:Nat) (r:Nat) (z:Nat) (t:Str):(∃o:Wg,vs=[.ref st,.ref lm,.ref ll,.int (k:Nat),.int room,.ref wl,.ref po]/\Pw K st wl o a r H B lm ll M L n/\H po=some (.tup [.str t,.int (z:Nat)])/\z<=9/\z<=M.length/\(room-1) / 2<=(n:Int)/\n<=5/\B+bB n+20 < LIM/\PsR K st wl o r H (B+bB n+20) a (dB n a+1) (sR n+1) (cR n) Q)->spArmW K n vs H Q e_3
theorem scArmW:FnScope ["_law_state","_law_mine","_law_lent","_law_k","_law_room","_law_world_here","_law_one","_law_left","_law_new","_law_deed_here"] lS3 (zp WG):=.ok
theorem Qi{e:Nat}(he:2<=e)(F:Fun K "_law_arm" "_law_arm" WG f fd)(GD:Ca P w K mg base CX0 1 "_law_draw" lS1 (spDraw K))(GM:Ca P w K mg base CX0 1 "_law_name" lS5 spNm)(GS:Ca P w K mg base CX0 2 "_law_some" lS6 (spSome K))(GB:Ca P w K mg base CX0 e "_law_body" lS0 (spBodyW K n))(m_list:mg "list"=none):FnOk P w K mg base CX0 (e+1) f fd lS3 (spArmW K n):=by
 refine F.by scArmW (fun vs H Q E h=>?_) (fun cdv A outer s H vs Q E hr h=>?_)
 ·obtain⟨st,lm,ll,wl,po,M,L,k,room,B,a,r,z,t,o,rfl,_⟩:=h
  rfl
 obtain⟨st,lm,ll,wl,po,M,L,k,room,B,a,r,z,t,o,rfl,hP,hpo,hz,hzM,hroom,hn,hB,q⟩:=h;have hr1:Room 1 _:=hr.mono (by lia);have hr2:Room 2 _:=hr.mono he;refine⟨_,
  (zh (sE 7 scArmW.nd (zB zZ rfl m_list uO (jA1 (jv 1))))
  (zh (sE 8 scArmW.nd (cA GM hr1 (jA2 (jv 5) (jv 3))))
  (zh (zy (jW.pt (yD (tN xV (xT 6) zn) (yG (tN zD (cA GD hr1 (jA2 (jv 0) zn)) zn))))
   (zh (sE 9 scArmW.nd (zr (jA4 zq (xT 6) (cA GS hr2 (jA3 (jv 0) (jv 7) (xT 6))) zq)))
   (zk (zt (zr (jA4 zq (jv 8) (jv 9) (cA GB hr (jA6 (jv 0) (zw yj (jv 7) (zC (jA1 (jv 8)))) (jv 2) (zw zO (jv 3) zn) (zw xf (zw xc (jv 4) zn) zn) (jv 5)))))))) zu)
  (zk (zt (cA GB hr (jA6 (jv 0) (jv 7) (jv 2) (jv 3) (zw xf (zw xc (jv 4) zn) zn) (jv 5)))))))),?_⟩
 have sl:=zJ;have LM:LIM=4611686018427387904:=rfl;rw[LM]at hB;have ml:=hP.ml;have b1000:=(ZL n).2.2;refine(zf rfl ⟨lm,(zf rfl ⟨.inl (SqL.of hP.m),fun l1 f1=>?_⟩)⟩);have s1:=zi (o:=.lst (M.map V.str)) f1;have h1:Hd K st wl o H (upd H l1 (.lst (M.map V.str))) l1 M B:=⟨hP.ok,⟨B,hP.s⟩,hP.w.gen,f1,.of s1,hP.s.same s1,zg⟩;have nll:=hP.s.neS hP.l;have npo:∀{H':Hp},Kp st H H'->H' po=some (.tup [.str t,.int (z:Nat)]):=fun k=>k.tups hP.s _ _ hpo;dsimp only
 generalize upd H l1 (.lst (M.map V.str))=H1 at *;obtain⟨tl,dl,ts,us,w1,_⟩:=hP.w.kp hP.s h1.kp;refine(zf rfl (zf rfl ⟨wl,o.z,o.b,_,k,rfl,w1,hP.ok.z,?_⟩));have bod:∀(H2:Hp)(M2:LS)(l2:Addr)(k2 B2:Nat)(kk:Int),kk=((k2:Nat):Int)->Kp st H H2->Sta K H2 st B2->H2 l2=some (.lst (M2.map V.str))->M2.length<=M.length->B2<=B+20->∀Q':VK,(∀(H':Hp)(p:Addr)(b:Bd)(a':Nat),Kw st wl H2 H'->Sta K H' st (B+bB n+20)->WlX H' wl o a' r->a'<=a->IsBd H' b p->RG b (dB n a) (sR n) (cR n)->Q' (.ref p) H')->spBodyW K n [.ref st,.ref l2,.ref ll,.int kk,.int ((room-1) / 2),.ref wl] H2 Q' E0:=fun H2 M2 l2 k2 B2 kk ek kp2 S2 g2 m2 b2 Q' q' =>
  ⟨st,l2,ll,wl,M2,L,k2,_,B2,a,r,o,by rw[ek],⟨hP.ok,hP.w.kp hP.s kp2,S2,hP.al,g2,kp2.k _ _ nll hP.l,by lia,hP.ll⟩,hroom,hn,by rw[LM];lia,fun H' p b a' kw S' w' ha' hb hg=>q' H' p b a' kw (S'.mono (by lia)) w' ha' hb hg⟩
 refine(zf rfl (ixT (npo h1.kp) aI1 (zv rfl rfl (zf rfl ?_))));have low:∀(H2:Hp)(B2:Nat),Kp st H1 H2->Sta K H2 st B2->B2<=B+20->∀Q':VK,(∀(H':Hp)(p:Addr)(b:Bd)(a':Nat),Kw st wl H2 H'->Sta K H' st (B+bB n+20)->WlX H' wl o a' r->a'<=a->IsBd H' b p->RG b (dB n a) (sR n) (cR n)->Q' (.ref p) H')->spBodyW K n [.ref st,.ref l1,.ref ll,.int (k:Nat),.int ((room-1) / 2),.ref wl] H2 Q' E0:=fun H2 B2 kp2 S2 b2 Q' q'=>bod H2 M l1 k B2 _ rfl (h1.kp.trans kp2) S2 (kp2.k _ _ h1.ne h1.m) (ud _) b2 Q' q';have fin:∀(H2:Hp),Kp st H H2->∀(H':Hp)(p:Addr)(b:Bd)(a':Nat),Kw st wl H2 H'->Sta K H' st (B+bB n+20)->WlX H' wl o a' r->a'<=a->IsBd H' b p->RG b (dB n a) (sR n) (cR n)->Q (.ref p) H':=fun H2 kp2 H' p b a' kw S' w' ha' hb hg=>q H' p b a' ((Kw.kp kp2).trans kw) S' w' ha' hb (hg.mono (by lia) (by lia) (ud _));by_cases cz:z=0
 ·refine iteE (decide_eq_false (by rw[cz];decide)) (iteF (nxtC ?_))
  exact(zf rfl (zf rfl (zf rfl (zf rfl (zf rfl (zv rfl rfl (zv rfl rfl ⟨⟨by decide,by decide⟩,(zf rfl (low H1 B .refl h1.s (by lia) Q (fin H1 h1.kp)))⟩)))))))
 refine zR (decide_eq_true (by lia)) (zf rfl ⟨st,2,B,rfl,h1.s,by rw[LM];lia,by decide,fun H2 r2 k2 S2 _ _=>⟨rfl,(zf rfl ?_)⟩⟩);by_cases c1:¬ r2=1
 ·refine iteE (decide_eq_false fun y=>c1 (V.int.inj y)) (nxtC ?_)
  exact(zf rfl (zf rfl (zf rfl (zf rfl (zf rfl (zv rfl rfl (zv rfl rfl ⟨⟨by decide,by decide⟩,(zf rfl (low H2 (B+1) k2 S2 (by lia) Q (fin H2 (h1.kp.trans k2))))⟩)))))))
 replace c1:r2=1:=Decidable.not_not.mp c1
 refine zR (decide_eq_true (by rw[c1])) ?_;have h2:=h1.go k2 S2;refine(zf rfl (ixT (npo h2.kp) aI0 (zf rfl (zf rfl (zf rfl (ixT (npo h2.kp) aI1 ⟨st,l1,z,M,B+1,H,wl,o,rfl,h2,hzM,by lia,by lia,by rw[LM];lia,fun H3 r3 N M' h3 t3 ml3 sub g3 nl3=>⟨sN4,fun pd fd'=>?_⟩⟩))))));have s4:=zi (o:=.tup [.str "make",.str t,.ref r3,.str ""]) fd';have h4:=h3.same s4;have hd4:IsDd (upd H3 pd (.tup [.str "make",.str t,.ref r3,.str ""])) (.mk t N "") pd:=⟨r3,zg,s4 _ _ g3⟩;dsimp only
 generalize upd H3 pd (.tup [.str "make",.str t,.ref r3,.str ""])=H4 at *;refine(zf rfl (zf rfl (zf rfl (zf rfl (zf rfl ⟨sN1,fun l5 f5=>⟨l1,l5,(zv rfl rfl ⟨old f5 h4.m,zg,by rw[ua];show M'.length+1<=_;lia,fun l6 f6=>?_⟩)⟩⟩)))));have s6:=(zi (o:=.lst [.str (nm o.z o.b k)]) f5).new (o:=.lst (M'.map V.str++[.str (nm o.z o.b k)])) f6;have h6:=h4.same s6;have g6:=zg (H:=upd H4 l5 (.lst [.str (nm o.z o.b k)])) (a:=l6) (o:=.lst (M'.map V.str++[.str (nm o.z o.b k)]));have hd6:=hd4.keep (.of s6);generalize upd (upd H4 l5 (.lst [.str (nm o.z o.b k)])) l6 (.lst (M'.map V.str++[.str (nm o.z o.b k)]))=H6 at *;refine(zf rfl (zf rfl (zv rfl rfl (zf rfl (zv rfl rfl (zv rfl rfl ⟨⟨by decide,by decide⟩,(zf rfl ?_)⟩))))));refine bod H6 (M'++[nm o.z o.b k]) l6 (k+1) (B+1+z) _ (by lia) h6.kp h6.s (by rw[g6,uh];rfl) (by rw[ub];show M'.length+1<=_;lia) (by lia) _ fun H7 p b a' kw S' w' ha' hb hg=>⟨sN4,fun r8 f8=>?_⟩;have t67:Tups H6 H7:=kw.tups h6.s (hP.w.kp hP.s h6.kp);have s8:=zi (o:=.tup [.str "let",.str (nm o.z o.b k),.ref pd,.ref p]) f8;have k8:Kp st H7 (upd H7 r8 (.tup [.str "let",.str (nm o.z o.b k),.ref pd,.ref p])):=.of s8;exact q _ r8 (.lt (nm o.z o.b k) (.mk t N "") b) a' (((Kw.kp h6.kp).trans kw).trans (.kp k8)) (S'.same s8) (w'.kp S' k8) ha' ⟨pd,p,zg,(hd6.keep t67).keep (.of s8),hb.keep (.of s8)⟩ (hg.lt (ow:=[]) ⟨by show N.length<=1000;lia,rawM⟩)
theorem xF{x:Str}:∀{l:LS},inV (.str x) (l.map V.str)=decide (x∈l)
 |[]=>rfl
 |y::l=>by
  have ih:=xF (x:=x) (l:=l);unfold inV at ih ⊢;rw[ur,Uq,ih];show((y == x) || decide (x∈l))=_;by_cases e:y=x
  ·subst e;simp
  ·have e':(y == x)=false:=beq_eq_false_iff_ne.mpr e
   have e2:¬ x=y:=fun z=>e z.symm;simp[e',e2]
theorem yJ:∀{l:LS},(l.map V.str).all xi=true
 |[]=>rfl
 |_::l=>by rw[ur,List.all_cons,yJ (l:=l)];rfl
def arR(a:ArmR)(H:Hp)(p:Addr):Prop:=∃q s,H p=some (.tup [.str a.t,.ref q,.str a.m,.str a.k,.ref s])/\H q=some (.tup (a.ns.map V.str))/\IsBd H a.b s
theorem arR.tk{a:ArmR}(k:Tups H H')(h:arR a H p):arR a H' p:=by obtain⟨q,s,h1,h2,h3⟩:=h;exact⟨q,s,k _ _ h1,k _ _ h2,h3.keep k⟩
theorem Yu{H:Hp}:∀{l:List ArmR}{ts:List Addr},TsAt arR H l ts->IsArms H (Arms.ofL l) ts
 |[],ts,h=>by
  have:ts=[]:=Uc.mp h.1.symm
  subst this;rw[Arms.ofL,IsArms]
 |a::l,[],h=>by cases h.1
 |a::l,t::ts,h=>by
  obtain⟨q,s,h1,h2,h3⟩:=h.2 0 a t rfl rfl;rw[Arms.ofL,IsArms];exact⟨t,q,s,ts,rfl,h1,h2,h3,Yu ⟨Nat.succ.inj h.1,fun i x y e1 e2=>h.2 (i+1) x y e1 e2⟩⟩
inductive spCaseW(K:uc)(n:Nat)(vs:List V)(H:Hp)(Q:VK)(e_3:XK):Prop
 |mk (st:Addr) (lm:Addr) (ll:Addr) (wl:Addr) (M:LS) (L:LS) (k:Nat) (room:Int) (B:Nat) (a:Nat) (r:Nat):(∃o:Wg,vs=[.ref st,.ref lm,.ref ll,.int (k:Nat),.int room,.ref wl]/\Pw K st wl o a r H B lm ll M L n/\M.length+10+12*n<=63/\M++L≠[]/\(room-1) / 2<=(n:Int)/\n<=5/\B+15*(bB n+40)+20 < LIM/\PsR K st wl o r H (B+15*(bB n+40)+20) a (dB n a+2) (15*(sR n+70)+1) (cR n+1) Q)->spCaseW K n vs H Q e_3
theorem scCaseW:FnScope ["_law_state","_law_mine","_law_lent","_law_k","_law_room","_law_world_here","_law_near","_law_x","_law_sort","_law_arms","_law_tag","_law_size","_law_kind","_law_names","_law_mode","_law_left","_law_news","_law_inner","_law_new"] lS0 (zp Yf):=.ok
theorem Xb:(["_law_state","_law_mine","_law_lent","_law_k","_law_room","_law_world_here","_law_near","_law_x","_law_sort","_law_arms","_law_tag","_law_size","_law_kind","_law_names","_law_mode","_law_left","_law_news","_law_inner","_law_new","_law_j"]:LS).Nodup:=by decide +kernel
theorem VB{e:Nat}(he:2<=e)(F:Fun K "_law_case" "_law_case" Yf f fd)(GD:Ca P w K mg base CX0 1 "_law_draw" lS1 (spDraw K))(GM:Ca P w K mg base CX0 1 "_law_name" lS5 spNm)(GA:Ca P w K mg base CX0 e "_law_arm" lS3 (spArmW K n))(m_len:mg "len"=none)(m_range:mg "range"=none)(m_tuple:mg "tuple"=none):FnOk P w K mg base CX0 (e+1) f fd lS0 (spCaseW K n):=by
 refine F.by scCaseW (fun vs H Q E h=>?_) (fun cdv A outer s H vs Q E hr h=>?_)
 ·obtain⟨st,lm,ll,wl,M,L,k,room,B,a,r,o,rfl,_⟩:=h
  rfl
 obtain⟨st,lm,ll,wl,M,L,k,room,B,a,r,o,rfl,hP,hml,hne,hroom,hn,hB,q⟩:=h;have hr1:Room 1 _:=hr.mono (by lia);refine⟨_,
  (zh (sE 6 scCaseW.nd (zw yj (jv 1) (jv 2)))
  (zh (sE 7 scCaseW.nd (xX z7 (jv 6) (cA GD hr1 (jA2 (jv 0) (jL m_len (jv 6))))))
  (zh (sE 8 scCaseW.nd (zw zO zn (cA GD hr1 (jA2 (jv 0) zn))))
  (zh (sE 9 scCaseW.nd (zC zE))
  (zh (zM PassesOwn.never rfl (zY (xL 5)) (yR rfl (zA (gN 10 scCaseW.nd) (zA (gN 11 scCaseW.nd) (zA (gN 12 scCaseW.nd) yf))))
   (zk (zy (tN zD (jv 12) (jv 8))
    (zh (ye ["_law_j"] (i:=13) scCaseW.nd rfl (Or.inl rfl) rfl (zW rfl m_range (jA1 (jv 11))) (fun _ _ _ _ _=>(gN 19 Xb)) (fun _ _ _ _ _=>zL) (fun _ _ _ _ _=>(cA GM hr1 (jA2 (jv 5) (zw zO (jv 3) (jv 19))))))
    (zh (sE 14 scCaseW.nd zq)
    (zh (sE 15 scCaseW.nd (zw yj (jv 1) (jv 13)))
    (zh (zy (jW.pt (yD (xa xB (jv 7) (jv 1) (by with_unfolding_all rfl)) (yG (tN xV (cA GD hr1 (jA2 (jv 0) zn)) zn))))
     (zh (sE 14 scCaseW.nd zq)
     (zk (zF (zV uk PySem.F.slot_list_remove PySem.F.type_list_remove Qf (jv 15) (jA1 (jv 7))))))  zu)
    (zh (ye ["_law_j"] (i:=16) scCaseW.nd rfl (Or.inl rfl) rfl (zW rfl m_range (jA1 (xL 5))) (fun _ _ _ _ _=>(gN 19 Xb)) (fun _ _ _ _ _=>zL) (fun _ _ _ _ _=>(cA GM hr1 (jA2 (jv 5) (zw zO (zw zO (jv 3) (jv 11)) (jv 19))))))
    (zh (xb zn (xD (jv 5) zn))
    (zh (sE 17 scCaseW.nd (cA GA hr (jA7 (jv 0) (jv 15) (jv 2) (zw zO (zw zO (jv 3) (jv 11)) (jL m_len (jv 16))) (jv 4) (jv 5) (zr (jA2 (jv 10) (jv 11))))))
    (zh (zM PassesOwn.never rfl (zY (jv 16)) (gN 18 scCaseW.nd)
     (zk (sE 17 scCaseW.nd (zr (jA4 zq (jv 18) (zr (jA2 zq (jv 3))) (zr (jA3 zq (jv 18) (jv 17))))))))
    (zk (zF (zV uk uy uz zG (jv 9) (jA1 (zr (jA5 (jv 10) (zB zz rfl m_tuple ut (jA1 (jv 13))) (jv 14) zq (jv 17)))))))))))))))  zu)))
  (zk (zt (zr (jA3 zq (jv 7) (zB zz rfl m_tuple ut (jA1 (jv 9)))))))))))),?_⟩
 have sl:=zJ;have LM:LIM=4611686018427387904:=rfl;rw[LM]at hB;have b1000:=(ZL n).2.2;have hll:=hP.ll;have ha34:=hP.al;have nlm:=hP.s.neS hP.m;have nll:=hP.s.neS hP.l;have wlm:=hP.w.neS hP.m;have wll:=hP.w.neS hP.l;have nws:=hP.w.ne hP.s;refine cut4 fun r1_ hr1_=>?_;refine(zf rfl (zf rfl ⟨lm,ll,(zv rfl rfl ⟨hP.m,hP.l,by rw[ua,ua];lia,fun l2 f2=>?_⟩)⟩));have s2:=zi (o:=.lst (M.map V.str++L.map V.str)) f2;have e2:upd H l2 (.lst (M.map V.str++L.map V.str)) l2=some (.lst ((M++L).map V.str)):=by rw[zg,uh]
 have S2:=hP.s.same s2;have n2s:=hP.s.ne f2;rw[<- uh]at s2 e2 S2;dsimp only
 rw[<- uh];generalize upd H l2 (.lst ((M++L).map V.str))=H2 at *;have lne:0 < (M++L).length:=List.length_pos_iff.mpr hne;have lml:(M++L).length<=100:=by rw[ub];lia
 refine(zf rfl (zf rfl (zf rfl ⟨l2,(zf rfl ⟨.inl (SqL.of e2),st,(((M++L).map V.str).length:Nat),B,rfl,S2,by rw[LM];lia,by rw[ua];lia,fun H4 r4 k4 S4 a4 b4=>?_⟩)⟩)));rw[ua]at b4;obtain⟨j,rfl⟩:∃j:Nat,r4=(j:Int):=⟨r4.toNat,by lia⟩;have hj:j < (M++L).length:=by lia
 have hxj:(M++L)[j]?=some (M++L)[j]:=ui hj;have hxm:(M++L)[j]∈M++L:=List.getElem_mem hj;refine⟨l2,_,_,_,rfl,rfl,SqL.of (k4.k _ _ n2s e2),zN (by rw[ug,hxj];rfl),?_⟩;generalize (M++L)[j]=x at hxm;have k04:Kp st H H4:=(Kp.of s2).trans k4;refine(zf rfl ⟨st,2,B+1,rfl,S4,by rw[LM];lia,by decide,fun H5 r5 k5 S5 _ _=>(zv rfl rfl ?_)⟩);have k05:=k04.trans k5;refine⟨sN0,fun la fa=>?_⟩;have s6:=zi (o:=.lst []) fa;have k06:=k05.trans (.of s6);have S6:=S5.same s6;have fa0:H la=none:=k05.free (S5.ne fa) fa;have las:=S5.ne fa;have e6:=zg (H:=H5) (a:=la) (o:=.lst []);have law:la≠wl:=fun z=>by
  obtain⟨_,h1⟩:=hP.w.ex;rw[z,h1]at fa0;cases fa0
 have w5:=hP.w.kp hP.s k05;have kw6:Kw st wl H5 _:=.of s6;have w6:=w5.kp S5 (.of s6);dsimp only
 generalize upd H5 la (.lst [])=H6 at *;obtain⟨tl,dl,ts,us,x1,x2,x3,x4,x5⟩:=id w5;have Tn:=hP.ok.Tn;have tln:=x3.1;have nts:=S5.neR x2;have ntw:=w5.neR x2;subst hr1_;refine(zf rfl (ixL (s6 _ _ x1) aI2 ⟨tl,rfl,⟨_,SqL.of (s6 _ _ x2)⟩,yz (xs:=ts.map V.ref) (fun i σ H'=>∃y10 y11 y12 y13 y14 y15 y16 y17 y18,σ=[oR st,oR lm,oR ll,some (.int (k:Nat)),some (.int room),oR wl,oR l2,some (.str x),some (.int (1+r5)),oR la,y10,y11,y12,y13,y14,y15,y16,y17,y18]/\Kw st wl H5 H'/\Sta K H' st (B+2+i*(bB n+40))/\(∃a',a'<=a/\WlX H' wl o a' r)/\∃(as:List ArmR)(us:List Addr),H' la=some (.lst (us.map V.ref))/\as.length<=i/\TsAt arR H' as us/\∀z∈as,RA z (dB n a+1) (sR n+69) (cR n)) ⟨_,_,_,_,_,_,_,_,_,rfl,kw6,S6.mono (by lia),⟨a,ud _,w6⟩,[],[],e6,ud _,⟨rfl,fun i a t h=>by simp at h⟩,fun a ha=>by cases ha⟩ (fun i σ H' _ h=>?_) ?_ ?_⟩))
 ·obtain⟨_,_,_,_,_,_,_,_,_,_,k,_⟩:=h
  exact SqL.of (k.k _ _ nts ntw x2)
 ·rintro i v σ H7 hv ⟨y10,y11,y12,y13,y14,y15,y16,y17,y18,rfl,k7,S7,⟨a7,ha7,w7⟩,as,us,e7,al,hT,hG⟩
  obtain⟨t,ht,rfl⟩:=L2.gM hv;have hi:i < ts.length:=(ue.mp ht).1;obtain⟨⟨tg,size,kind⟩,haT,hR⟩:=x3.at ht;have a9:size<=9:=hP.ok.T _ (uv haT);have ul:=hT.1;have ib:(i+1)*(bB n+40)<=15*(bB n+40):=uN _ (by lia);have is:(i+1)*(bB n+40)=i*(bB n+40)+(bB n+40):=Nat.succ_mul _ _;have t67:=k7.tups S5 w5;have k07:Kw st wl H H7:=(Kw.kp k05).trans k7;have m7:=k07.k _ _ nlm wlm hP.m;have ll7:=k07.k _ _ nll wll hP.l;refine⟨t,(zf rfl ⟨SqT.of (t67 _ _ hR),rfl,_,_,rfl,_,_,rfl,_,_,rfl,rfl,?_⟩)⟩;refine(zf rfl (zf rfl ⟨rfl,(zf rfl ?_)⟩));refine ite2 (fun c=>?_) (fun c=>nxtC ⟨_,_,_,_,_,_,_,_,_,rfl,k7,S7.mono (by lia),⟨a7,ha7,w7⟩,as,us,e7,by lia,hT,hG⟩);obtain⟨tl7,dl7,ts7,us7,w71,_⟩:=id w7;refine cut3 fun r2_ hr2_=>?_;refine(zf rfl (zf rfl ⟨by lia,by lia,yL (n:=((size:Nat):Int).toNat) (fun i τ ys H'=>H7=H'/\(∃y,τ=[oR st,oR lm,oR ll,some (.int (k:Nat)),some (.int room),oR wl,oR l2,some (.str x),some (.int (1+r5)),oR la,some (.str tg),some (.int (size:Nat)),some (.int (kind:Nat)),y13,y14,y15,y16,y17,y18,y])/\∃Ns:LS,ys=Ns.map V.str/\Ns.length=i) ⟨rfl,⟨none,rfl⟩,[],rfl,rfl⟩ ?_ ?_⟩))
  ·rintro i τ ys H' hi ⟨rfl,⟨y,rfl⟩,Ns,rfl,nl⟩
   rw[u6]at hi;refine(zf rfl (zf rfl (zf rfl (zv rfl rfl ⟨wl,o.z,o.b,_,k+i,?_,w71,hP.ok.z,by rw[ua];lia,rfl,⟨_,rfl⟩,Ns++[nm o.z o.b (k+i)],by rw[uh];rfl,by rw[ub,nl];rfl⟩))));show[V.ref wl,V.int ((k:Int)+(0+(i:Int)))]=_;rw[Int.zero_add]
   rfl
  rintro τ ys H' ⟨rfl,_,Ns,rfl,nl⟩ l8 f8;rw[u6]at nl;have s8:=zi (o:=.lst (Ns.map V.str)) f8;have e8:=zg (H:=H7) (a:=l8) (o:=.lst (Ns.map V.str));have n8s:=S7.ne f8;dsimp only
  generalize upd H7 l8 (.lst (Ns.map V.str))=H8 at *;refine(zf rfl (zf rfl ⟨lm,l8,(zv rfl rfl ⟨s8 _ _ m7,e8,by rw[ua,ua];lia,fun l9 f9=>?_⟩)⟩));have s9:=s8.new (o:=.lst (M.map V.str++Ns.map V.str)) f9;have f97:H7 l9=none:=s8.free f9;have n9s:=S7.ne f97;have e89:=(zi (o:=.lst (M.map V.str++Ns.map V.str)) f9) _ _ e8;have e9:upd H8 l9 (.lst (M.map V.str++Ns.map V.str)) l9=some (.lst ((M++Ns).map V.str)):=by rw[zg,uh]
  have S9:=S7.same s9;dsimp only
  generalize upd H8 l9 (.lst (M.map V.str++Ns.map V.str))=H9 at *;subst hr2_;refine(show ∀(u:TS)(D:Ends),(∀(H10:Hp)(mode:Str)(M2:LS),Kp st H7 H10->Sta K H10 st (B+2+i*(bB n+40)+1)->H10 l9=some (.lst (M2.map V.str))->M2.length<=M.length+size->size<=M2.length->H10 l8=some (.lst (Ns.map V.str))->u D [oR st,oR lm,oR ll,some (.int (k:Nat)),some (.int room),oR wl,oR l2,some (.str x),some (.int (1+r5)),oR la,some (.str tg),some (.int (size:Nat)),some (.int (kind:Nat)),oR l8,some (.str mode),oR l9,y16,y17,y18] H10)->(tSeq (tIfS _ _ ve) u:TS) D [oR st,oR lm,oR ll,some (.int (k:Nat)),some (.int room),oR wl,oR l2,some (.str x),some (.int (1+r5)),oR la,some (.str tg),some (.int (size:Nat)),some (.int (kind:Nat)),oR l8,some (.str "look"),oR l9,y16,y17,y18] H9 from ?key) _ _ ?rst
  case key =>
   intro u D rest;have lS:(M++Ns).length=M.length+size:=by rw[ub,nl]
   refine(zf rfl (zf rfl ⟨lm,(zf rfl ⟨.inl (SqL.of (s9 _ _ m7)),rfl,yJ,(zf rfl ?_)⟩)⟩));by_cases c:¬ x∈M
   ·exact iteE (show inV _ _=false by rw[xF,decide_eq_false c]) (iteF (nxtC (rest H9 _ (M++Ns) (.of s9) (S9.mono (by lia)) e9 (by lia) (by lia) e89)))
   replace c:=Decidable.not_not.mp c
   refine zR (show inV _ _=true by rw[xF,decide_eq_true c]) (zf rfl ⟨st,4,(zf rfl ⟨S9,by rw[LM];lia,by decide,fun H10 r10 k10 S10 _ _=>(zv rfl rfl (zf rfl ?_))⟩)⟩);have k710:Kp st H7 H10:=(Kp.of s9).trans k10;have e10:=k10.k _ _ n9s e9;by_cases c2:¬ 0 < r10
   ·exact iteE (decide_eq_false c2) (nxtC (rest H10 _ (M++Ns) k710 S10 e10 (by lia) (by lia) (k10.k _ _ n8s e89)))
   refine zR (decide_eq_true (Decidable.not_not.mp c2)) (zf rfl ⟨.inl ⟨rfl,_,SqL.of e10⟩,(zf rfl ⟨l9,M++Ns,x,rfl,rfl,e10,uJ.mpr (.inl c),fun j hj=>?_⟩)⟩);have n89:l8≠l9:=fun z=>by rw[z]at e8;rw[e8]at f9;cases f9
   have mp:0 < M.length:=List.length_pos_of_mem c;have le:((M++Ns).eraseIdx j).length+1=M.length+size:=by rw[UE hj];lia
   exact nxtC (rest _ "take" _ (k710.put f97) (S7.put f97 k710 S10) zg (by lia) (by lia) (by rw[zj n89];exact k10.k _ _ n8s e89))
  intro H10 mode M2 k10 S10 e10 m2a m2b e810;have w10:=w7.kp S7 k10;have e10a:=k10.k _ _ las e7;have ll10:=k10.k _ _ (S7.neS ll7) ll7;have T710:=k10.tups S7;obtain⟨tl1,dl1,ts1,us1,w11,_⟩:=id w10;have ha7':a7<=34:=uC ha7 ha34;refine cut2 fun r3_ hr3_=>?_;refine(zf rfl (ixL w11 aI4 (zf rfl ⟨by lia,by lia,yL (n:=((a7:Nat):Int).toNat) (fun i τ ys H'=>H10=H'/\(∃y,τ=[oR st,oR lm,oR ll,some (.int (k:Nat)),some (.int room),oR wl,oR l2,some (.str x),some (.int (1+r5)),oR la,some (.str tg),some (.int (size:Nat)),some (.int (kind:Nat)),oR l8,some (.str mode),oR l9,y16,y17,y18,y])/\∃Ns:LS,ys=Ns.map V.str/\Ns.length=i) ⟨rfl,⟨none,rfl⟩,[],rfl,rfl⟩ ?_ ?_⟩)))
  ·rintro i τ ys H' hi ⟨rfl,⟨y,rfl⟩,Ns,rfl,nl⟩
   rw[u6]at hi;refine(zf rfl (zf rfl (zf rfl (zv rfl rfl (zf rfl (zv rfl rfl ⟨wl,o.z,o.b,_,k+size+i,?_,w11,hP.ok.z,by rw[ua];lia,rfl,⟨_,rfl⟩,Ns++[nm o.z o.b (k+size+i)],by rw[uh];rfl,by rw[ub,nl];rfl⟩))))));show[V.ref wl,V.int ((k:Int)+size+(0+(i:Int)))]=_;rw[Int.zero_add]
   rfl
  rintro τ ys H' ⟨rfl,_,Nw,rfl,nlw⟩ lw fw;rw[u6]at nlw;have sw:=zi (o:=.lst (Nw.map V.str)) fw;have ew:=zg (H:=H10) (a:=lw) (o:=.lst (Nw.map V.str));have w12:=w10.kp S10 (.of sw);have S12:=S10.same sw;have k12:Kp st H7 _:=k10.trans (.of sw);have e912:=sw _ _ e10;have e812:=sw _ _ e810;have ea12:=sw _ _ e10a;have ll12:=sw _ _ ll10;dsimp only
  generalize upd H10 lw (.lst (Nw.map V.str))=H12 at *;obtain⟨tl2,dl2,w21,w22,S13,k13⟩:=w12.put S12 (a':=0);refine(show ∀(u:TS)(D:Ends),(∀(H13:Hp),Sta K H13 st (B+2+i*(bB n+40)+1)->WlX H13 wl o 0 r->Kw st wl H12 H13->u D [oR st,oR lm,oR ll,some (.int (k:Nat)),some (.int room),oR wl,oR l2,some (.str x),some (.int (1+r5)),oR la,some (.str tg),some (.int (size:Nat)),some (.int (kind:Nat)),oR l8,some (.str mode),oR l9,oR lw,y17,y18] H13)->(tSeq _ u:TS) D [oR st,oR lm,oR ll,some (.int (k:Nat)),some (.int room),oR wl,oR l2,some (.str x),some (.int (1+r5)),oR la,some (.str tg),some (.int (size:Nat)),some (.int (kind:Nat)),oR l8,some (.str mode),oR l9,oR lw,y17,y18] H12 from ?key2) _ _ ?rst2
  case key2 =>
   intro u D rest;exact(zf rfl ⟨wl,_,4,4,rfl,rfl,w21,rfl,rest _ S13 w22 k13⟩)
  clear S13 w22 k13;intro H13 S13 w13 k13;subst hr3_;refine cut1 fun r4_ hr4_=>?_;have kp12:∀{q:Addr}{l:LS},H12 q=some (.lst (l.map V.str))->H13 q=some (.lst (l.map V.str)):=fun h=>k13.k _ _ (S12.neS h) (w12.neS h) h;refine(zf rfl (zf rfl (zf rfl (zf rfl (zf rfl (zv rfl rfl (zf rfl ⟨lw,(zf rfl ⟨.inl (SqL.of (kp12 ew)),(zv rfl rfl (zf rfl (zf rfl (zf rfl (zf rfl ⟨sN2,fun po fpo=>?_⟩)))))⟩)⟩)))))));have sp:=zi (o:=.tup [.str tg,.int (size:Nat)]) fpo;refine⟨st,l9,ll,wl,po,M2,L,k+size+(Nw.map V.str).length,room,_,0,r,size,tg,o,rfl,⟨hP.ok,w13.kp S13 (.of sp),S13.same sp,by lia,sp _ _ (kp12 e912),sp _ _ (kp12 ll12),by lia,hll⟩,zg,a9,m2b,hroom,hn,by rw[LM];lia,fun H14 p b a' kw S14 w14 ha' hb hg=>?_⟩;have w13':=w13.kp S13 (.of sp);have S13':=S13.same sp;have kw14:Kw st wl H12 H14:=(k13.trans (.of sp)).trans kw;have kp14:∀{q:Addr}{l:LS},H12 q=some (.lst (l.map V.str))->H14 q=some (.lst (l.map V.str)):=fun h=>kw14.k _ _ (S12.neS h) (w12.neS h) h;have ew14:=kp14 ew;have e814:=kp14 e812;have ea14:=kw14.k _ _ las law ea12;have T14:Tups H7 H14:=(k12.tups S7).trans (kw14.tups S12 w12);have kw514:Kw st wl H5 H14:=k7.trans ((Kw.kp k12).trans kw14);have a0:a'=0:=by lia
  subst a0;subst hr4_;refine(zf rfl ⟨lw,rfl,⟨_,SqL.of ew14⟩,yz (xs:=Nw.map V.str) (fun i σ H'=>∃(b:Bd)(p:Addr)(z:Option V),σ=[oR st,oR lm,oR ll,some (.int (k:Nat)),some (.int room),oR wl,oR l2,some (.str x),some (.int (1+r5)),oR la,some (.str tg),some (.int (size:Nat)),some (.int (kind:Nat)),oR l8,some (.str mode),oR l9,oR lw,oR p,z]/\Same H14 H'/\IsBd H' b p/\RG b (dB n 0+1+2*i) (sR n+1+2*i) (cR n)) ⟨b,p,(zf rfl ⟨.refl _,hb,hg⟩)⟩ (fun i σ H' _ h=>?_) ?_ ?_⟩)
  ·obtain⟨_,_,_,_,s,_⟩:=h
   exact SqL.of (s _ _ ew14)
  ·rintro i v σ H15 hv ⟨b,p,z,rfl,s15,hb,hg⟩
   obtain⟨y,hy,rfl⟩:=L2.gM hv;refine(zf rfl (zf rfl ⟨sN2,fun t1 f1=>(zf rfl (zf rfl ⟨sN3,fun t2 f2=>⟨sN4,fun t3 f3=>?_⟩⟩))⟩));have s3:=((zi (o:=.tup [.str "num",.int (k:Nat)]) f1).new (o:=.tup [.str "drop",.str y,.ref p]) f2).new (o:=.tup [.str "let",.str y,.ref t1,.ref t2]) f3;exact⟨.lt y (.num (k:Nat)) (.drop y b),t3,(zf rfl ⟨s15.trans s3,⟨t1,t2,zg,old f3 (old f2 zg),p,old f3 zg,hb.keep (.of s3)⟩,((hg.drop (x:=y)).lt (x:=y) (ow:=[]) ⟨by show 0<=1000;decide,raw0 rfl⟩).mono (by lia) (by lia) (ud _)⟩)⟩
  rintro σ H15 ⟨b,p,z,rfl,s15,hb,hg⟩;rw[ua,nlw]at hg;have ea15:=s15 _ _ ea14;have S15:=S14.same s15;have w15:=w14.kp S14 (.of s15);refine(zf rfl ⟨.inl ⟨rfl,_,SqL.of ea15⟩,(zf rfl (zf rfl ⟨l8,(zf rfl (.inl ⟨SqL.of (s15 _ _ e814),fun t1 f1=>(zf rfl (zf rfl ⟨sN5,fun t2 f2=>⟨la,(zv rfl rfl ⟨old f2 (old f1 ea15),by rw[ua];lia,?_⟩)⟩⟩))⟩))⟩))⟩);have s16:=(zi (o:=.tup (Ns.map V.str)) f1).new (o:=.tup [.str tg,.ref t1,.str mode,.str "",.ref p]) f2;have ar:arR ⟨tg,Ns,mode,"",b⟩ _ t2:=⟨t1,p,zg,old f2 zg,hb.keep (.of s16)⟩;have S16:=S15.same s16;have w16:=w15.kp S15 (.of s16);have ea16:=s16 _ _ ea15;have T16:Tups H7 _:=(T14.trans (.of s15)).trans (.of s16);have kw16:Kw st wl H5 _:=(kw514.trans (.of s15)).trans (.of s16);generalize upd (upd H15 t1 (.tup (Ns.map V.str))) t2 (.tup [.str tg,.ref t1,.str mode,.str "",.ref p])=H16 at *;have em:us.map V.ref++[V.ref t2]=(us++[t2]).map V.ref:=by rw[uh];rfl
  have T17:Tups H16 (upd H16 la (.lst (us.map V.ref++[V.ref t2]))):=fun q ys z=>by rw[zj fun x=>by rw[x,ea16]at z;cases z];exact z
  refine nxtC ⟨_,_,_,_,_,_,_,_,_,rfl,kw16.put fa,(S5.putS fa kw16.s S16).mono (by lia),⟨0,uF _,w5.putN S5 kw16 fa ea16 w16⟩,as++[⟨tg,Ns,mode,"",b⟩],us++[t2],by rw[zg,em],by rw[ub];show as.length+1<=_;lia,((hT.keep fun _ _ z=>z.tk T16).snoc ar).keep fun _ _ z=>z.tk T17,fun z hz=>?_⟩;rcases uJ.mp hz with hz|hz
  ·exact hG z hz
  ·rw[uE.mp hz]
   exact⟨hg.mono (by unfold dB;lia) (by lia) (ud _),rfl,by show Ns.length<=9;lia⟩
 rintro σ H7 ⟨y10,y11,y12,y13,y14,y15,y16,y17,y18,rfl,k7,S7,⟨a7,ha7,w7⟩,as,us,e7,al,hT,hG⟩;rw[ua]at al S7;have ib:ts.length*(bB n+40)<=15*(bB n+40):=uN _ (by lia);have ib2:as.length*(sR n+70)<=15*(sR n+70):=uN _ (by lia);refine(zf rfl (zf rfl ⟨la,(zf rfl (.inl ⟨SqL.of e7,fun t8 f8=>⟨sN3,fun t9 f9=>?_⟩⟩))⟩));have s9:=(zi (o:=.tup (us.map V.ref)) f8).new (o:=.tup [.str "case",.str x,.ref t8]) f9;exact q _ t9 (.cs x (Arms.ofL as)) a7 (((Kw.kp k05).trans k7).trans (.of s9)) ((S7.same s9).mono (by lia)) (w7.kp S7 (.of s9)) ha7 ⟨t8,us,zg,old f9 zg,Yu (hT.keep fun _ _ z=>z.tk (.of s9))⟩ ((RG.cs hG).mono (by lia) (by lia) (ud _))
end
end GN
namespace L2
open PySem
theorem XI:jSs X sts (fun _ _ _=>False):=⟨fun _ _ _ _ _ _ h=>h.elim⟩
end L2
namespace GN
open PySem L2 K11
variable{R:List Nat}
section
variable{K:uc}
theorem scBodyW:FnScope ["_law_state","_law_mine","_law_lent","_law_k","_law_room","_law_world_here","_law_way","_law_name_here","_law_near","_law_left","_law_deed_here","_law_x","_law_first"] lS0 (zp jr):=.ok
theorem Qj:(["_law_state","_law_mine","_law_lent","_law_k","_law_room","_law_world_here","_law_way","_law_name_here","_law_near","_law_left","_law_deed_here","_law_x","_law_first","_law_one"]:LS).Nodup:=by decide +kernel
theorem XJ(F:Fun K "_law_body" "_law_body" jr f fd)(GD:Ca P w K mg base CX0 1 "_law_draw" lS1 (spDraw K))(GM:Ca P w K mg base CX0 1 "_law_name" lS5 spNm)(GE:Ca P w K mg base CX0 2 "_law_end" lS7 (spEndW K)):FnOk P w K mg base CX0 5 f fd lS0 (spBodyW K 0):=by
 refine F.by scBodyW (fun vs H Q E h=>?_) (fun cdv A outer s H vs Q E hr h=>?_)
 ·obtain⟨st,lm,ll,wl,M,L,k,room,B,a,r,o,rfl,_⟩:=h
  rfl
 obtain⟨st,lm,ll,wl,M,L,k,room,B,a,r,o,rfl,hP,hroom,hn,hB,q⟩:=h;have hr1:Room 1 _:=hr.mono (by decide);have hr2:Room 2 _:=hr.mono (by decide);refine⟨_,
  (zh (sE 6 scBodyW.nd (cA GD hr1 (jA2 (jv 0) zn)))
  (zh (sE 7 scBodyW.nd (cA GM hr1 (jA2 (jv 5) (jv 3))))
  (zh (sE 8 scBodyW.nd (zw yj (jv 1) (jv 2)))
  (zh (zy (tN Wo (jv 4) zn)
   (zk (zt (cA GE hr2 (jA3 (jv 0) (jv 1) (jv 7)))))  zu)
  XI)))),?_⟩
 have sl:=zJ;have LM:LIM=4611686018427387904:=rfl;rw[LM]at hB;have ml:=hP.ml;have lll:=hP.ll;have ha34:=hP.al;have nlm:=hP.s.neS hP.m;have nll:=hP.s.neS hP.l;have nws:=hP.w.ne hP.s;have b1000:=(ZL 0).2.2;refine(zf rfl ⟨st,10,B,rfl,hP.s,by rw[LM];lia,by decide,fun H1 way k1 S1 _ _=>?_⟩);have w1:=hP.w.kp hP.s k1;obtain⟨tl,dl,ts,us,w11,_⟩:=id w1;have m1:=k1.k _ _ nlm hP.m;have ll1:=k1.k _ _ nll hP.l;refine(zf rfl (zf rfl ⟨wl,o.z,o.b,_,k,rfl,w11,hP.ok.z,?_⟩));refine(zf rfl (zf rfl ⟨lm,ll,(zv rfl rfl ⟨m1,ll1,by rw[ua,ua];lia,fun l2 f2=>?_⟩)⟩));have s2:=zi (o:=.lst (M.map V.str++L.map V.str)) f2;have e2:=zg (H:=H1) (a:=l2) (o:=.lst (M.map V.str++L.map V.str));have k2:Kp st H _:=k1.trans (.of s2);have S2:=S1.same s2;have n2s:=S1.ne f2;dsimp only
 generalize upd H1 l2 (.lst (M.map V.str++L.map V.str))=H2 at *;refine(zf rfl (zv rfl rfl (zf rfl ?_)));refine zR (decide_eq_true hroom) ?_;exact(zf rfl (zf rfl (zf rfl ⟨st,lm,_,M,B+1,rfl,S2,k2.k _ _ nlm hP.m,by lia,by rw[LM];lia,fun H3 p b k3 S3 hb hg=>q _ p b a (.kp (k2.trans k3)) (S3.mono (by lia)) (hP.w.kp hP.s (k2.trans k3)) (ud _) hb (hg.mono (by unfold dB;lia) (show M.length+2<=66 by lia) (uF _))⟩)))
theorem VC(F:Fun K "_law_body" "_law_body" jr f fd)(GD:Ca P w K mg base CX0 1 "_law_draw" lS1 (spDraw K))(GM:Ca P w K mg base CX0 1 "_law_name" lS5 spNm)(GE:Ca P w K mg base CX0 2 "_law_end" lS7 (spEndW K))(GG:Ca P w K mg base CX0 4 "_law_deed" lS11 (spDeedG K))(GB:Ca P w K mg base CX0 (5+3*n) "_law_body" lS0 (spBodyW K n))(GB2:Ca P w K mg base CX0 (5+3*(n / 2)) "_law_body" lS0 (spBodyW K (n / 2)))(GC:Ca P w K mg base CX0 (5+3*(n / 2)+2) "_law_case" lS0 (spCaseW K (n / 2)))(m_len:mg "len"=none)(m_list:mg "list"=none):FnOk P w K mg base CX0 (5+3*(n+1)) f fd lS0 (spBodyW K (n+1)):=by
 refine F.by scBodyW (fun vs H Q E h=>?_) (fun cdv A outer s H vs Q E hr h=>?_)
 ·obtain⟨st,lm,ll,wl,M,L,k,room,B,a,r,o,rfl,_⟩:=h
  rfl
 obtain⟨st,lm,ll,wl,M,L,k,room,B,a,r,o,rfl,hP,hroom,hn,hB,q⟩:=h;have hrT:Room (5+3*n+2) _:=hr;have hrB:Room (5+3*n) _:=hrT.mono (by lia);have hrC:Room (5+3*(n / 2)+2) _:=hrT.mono (by lia);have hrH:Room (5+3*(n / 2)) _:=hrT.mono (by lia);have hr4:Room 4 _:=hrT.mono (by lia);have hr2:Room 2 _:=hrT.mono (by lia);have hr1:Room 1 _:=hrT.mono (by lia);refine⟨_,
  (zh (sE 6 scBodyW.nd (cA GD hr1 (jA2 (jv 0) zn)))
  (zh (sE 7 scBodyW.nd (cA GM hr1 (jA2 (jv 5) (jv 3))))
  (zh (sE 8 scBodyW.nd (zw yj (jv 1) (jv 2)))
  (zh (zy (tN Wo (jv 4) zn)
   (zk (zt (cA GE hr2 (jA3 (jv 0) (jv 1) (jv 7)))))  zu)
  (zh (zy (jW.pt (yt (tN (vj hr1) (jv 8) (zC zE)) (yv (tN Zg (jv 6) zn))))
   (zh (sE 9 scBodyW.nd (zB zZ rfl m_list uO (jA1 (jv 1))))
   (zh (sE 10 scBodyW.nd (cA GG hr4 (jA4 (jv 0) (jv 9) (jv 2) (jv 5))))
   (zk (zt (zr (jA4 zq (jv 7) (jv 10) (cA GB hrB (jA6 (jv 0) (zw yj (jv 9) (zC (jA1 (jv 7)))) (jv 2) (zw zO (jv 3) zn) (zw xc (jv 4) zn) (jv 5)))))))))  zu)
  (zh (sE 11 scBodyW.nd (xX z7 (jv 8) (cA GD hr1 (jA2 (jv 0) (jL m_len (jv 8))))))
  (zh (zy (tN zD (jv 6) zn)
   (zk (zt (zr (jA4 zq (jv 7) (jv 11) (cA GB hrB (jA6 (jv 0) (zw yj (jv 1) (zC (jA1 (jv 7)))) (jv 2) (zw zO (jv 3) zn) (zw xc (jv 4) zn) (jv 5)))))))  zu)
  (zh (zy (jW.pt (yD (tN zD (jv 6) zn) (yG (xa xB (jv 11) (jv 1) (by with_unfolding_all rfl)))))
   (zh (ye ["_law_one"] (i:=9) scBodyW.nd rfl (Or.inl rfl) rfl (zY (jv 1)) (fun _ _ _ _ _=>(gN 13 Qj)) (fun _ _ _ _ _=>(xA (tN wM (jv 13) (jv 11)))) (fun _ _ _ _ _=>(jv 13)))
   (zk (zt (zr (jA3 zq (jv 11) (cA GB hrB (jA6 (jv 0) (jv 9) (jv 2) (jv 3) (zw xc (jv 4) zn) (jv 5))))))))  zu)
  (zh (zy (tN zD (jv 6) zn)
   (zh (sE 12 scBodyW.nd (cA GB2 hrH (jA6 (jv 0) (jv 1) (jv 2) (jv 3) (zw xf (zw xc (jv 4) zn) zn) (jv 5))))
   (zk (zt (zr (jA4 zq (jv 11) (jv 12) (cA GB2 hrH (jA6 (jv 0) (jv 1) (jv 2) (jv 3) (zw xf (zw xc (jv 4) zn) zn) (jv 5))))))))  zu)
  (zk (zt (cA GC hrC (jA6 (jv 0) (jv 1) (jv 2) (jv 3) (jv 4) (jv 5)))))))))))))),?_⟩
 have sl:=zJ;have LM:LIM=4611686018427387904:=rfl;rw[LM]at hB;have ml:=hP.ml;have lll:=hP.ll;have ha34:=hP.al;have nlm:=hP.s.neS hP.m;have nll:=hP.s.neS hP.l;have nws:=hP.w.ne hP.s;obtain⟨eb,bh,b1000⟩:=ZL n;obtain⟨z1,z2,z3,z4,z5⟩:=zb4 (show n<=4 by lia);rw[eb]at hB q;refine(zf rfl ⟨st,10,B,rfl,hP.s,by rw[LM];lia,by decide,fun H1 way k1 S1 _ _=>?_⟩);have w1:=hP.w.kp hP.s k1;obtain⟨tl,dl,ts,us,w11,_⟩:=id w1;have m1:=k1.k _ _ nlm hP.m;have ll1:=k1.k _ _ nll hP.l;refine(zf rfl (zf rfl ⟨wl,o.z,o.b,_,k,rfl,w11,hP.ok.z,?_⟩));refine(zf rfl (zf rfl ⟨lm,ll,(zv rfl rfl ⟨m1,ll1,by rw[ua,ua];lia,fun l2 f2=>?_⟩)⟩));have s2:=zi (o:=.lst (M.map V.str++L.map V.str)) f2;have e2:=zg (H:=H1) (a:=l2) (o:=.lst (M.map V.str++L.map V.str));have k2:Kp st H _:=k1.trans (.of s2);have S2:=S1.same s2;have n2s:=S1.ne f2;dsimp only
 generalize upd H1 l2 (.lst (M.map V.str++L.map V.str))=H2 at *;refine(zf rfl (zv rfl rfl (zf rfl ?_)));by_cases c0:room<=0
 ·refine zR (decide_eq_true c0) ?_
  exact(zf rfl (zf rfl (zf rfl ⟨st,lm,_,M,B+1,rfl,S2,k2.k _ _ nlm hP.m,by lia,by rw[LM];lia,fun H3 p b k3 S3 hb hg=>q _ p b a (.kp (k2.trans k3)) (S3.mono (by lia)) (hP.w.kp hP.s (k2.trans k3)) (ud _) hb (hg.mono (by unfold dB;lia) (by have:66<=sR n:=(by have a:n=0\/n=1\/n=2\/n=3\/n=4:=(by lia);rcases a with rfl|rfl|rfl|rfl|rfl<;>decide);lia) (uF _))⟩)))
 refine iteE (decide_eq_false c0) (nxtC ?_);have wlm:=hP.w.neS hP.m;have wll:=hP.w.neS hP.l;have d1:∀a,dB (n+1) a=dB n a+4:=fun a=>by unfold dB;lia
 have d2:∀a,dB (n / 2) a<=dB n a:=fun a=>by unfold dB;lia
 have d3:∀{m a':Nat},a'<=a->dB m a'<=dB m a:=fun h=>by unfold dB;lia
 have bod:∀(m:Nat),m<=n->∀(H2:Hp)(M2:LS)(l2:Addr)(k2 B2 a2:Nat)(kk rr:Int),kk=((k2:Nat):Int)->Kw st wl H H2->WlX H2 wl o a2 r->a2<=a->Sta K H2 st B2->H2 l2=some (.lst (M2.map V.str))->M2.length+12*m<=63->rr<=(m:Int)->B2+bB m < LIM->∀Q':VK,PsR K st wl o r H2 (B2+bB m) a2 (dB m a2) (sR m) (cR m) Q'->spBodyW K m [.ref st,.ref l2,.ref ll,.int kk,.int rr,.ref wl] H2 Q' E0:=fun m hm H2 M2 l2 k2 B2 a2 kk rr ek kw w2 ha2 S2 g2 m2 hrr b2 Q' q' =>
  ⟨st,l2,ll,wl,M2,L,k2,rr,B2,a2,r,o,by rw[ek],⟨hP.ok,w2,S2,uC ha2 ha34,g2,kw.k _ _ nll wll hP.l,m2,lll⟩,hrr,by lia,b2,q'⟩
 dsimp only
 change (tSeq (tIfS _ _ _) (tSeq _ _):TS) { nx:=fun _ H'=>Q .non H',rt:=Q } [oR st,oR lm,oR ll,some (.int (k:Nat)),some (.int room),oR wl,some (.int way),some (.str (nm o.z o.b k)),oR l2,none,none,none,none] H2
 refine(show ∀a' u:TS,(∀(D:Ends)(H3:Hp),D.rt=Q->Kp st H H3->Sta K H3 st (B+1)->a' D [oR st,oR lm,oR ll,some (.int (k:Nat)),some (.int room),oR wl,some (.int way),some (.str (nm o.z o.b k)),oR l2,none,none,none,none] H3)->(M++L≠[]->∀H3:Hp,Kp st H H3->Sta K H3 st (B+1)->H3 l2=some (.lst ((M++L).map V.str))->u { nx:=fun _ H'=>Q .non H',rt:=Q } [oR st,oR lm,oR ll,some (.int (k:Nat)),some (.int room),oR wl,some (.int way),some (.str (nm o.z o.b k)),oR l2,none,none,none,none] H3)->(tSeq (tIfS _ a' ve) u:TS) { nx:=fun _ H'=>Q .non H',rt:=Q } [oR st,oR lm,oR ll,some (.int (k:Nat)),some (.int room),oR wl,some (.int way),some (.str (nm o.z o.b k)),oR l2,none,none,none,none] H2 from ?key) _ _ ?lt ?rst
 case key =>
  intro a' u lt rest;refine(zf rfl ⟨sN0,fun l3 f3=>?_⟩);have s3:=zi (o:=.lst []) f3;have e3:=s3 _ _ e2;refine⟨l2,l3,(zf rfl ⟨rfl,SqL.of e3,SqL.of zg,(zf rfl ?_)⟩)⟩;by_cases ce:(M.map V.str++L.map V.str).isEmpty=true
  ·exact zR ce (iteT (lt _ _ rfl (k2.trans (.of s3)) (S2.same s3)))
  ·refine iteE (by simpa using ce) (zf rfl (zv rfl rfl (zf rfl ?_)))
   by_cases c5:way < 4
   ·exact zR (decide_eq_true c5) (lt _ _ rfl (k2.trans (.of s3)) (S2.same s3))
   ·refine iteE (decide_eq_false c5) (nxtC (rest (fun e=>ce ?_) _ (k2.trans (.of s3)) (S2.same s3) (by rw[uh];exact e3)))
    rw[<- uh,e]
    rfl
 case lt =>
  intro D H3 hD k3 S3;have w3:=hP.w.kp hP.s k3;have m3:=k3.k _ _ nlm hP.m;have ll3:=k3.k _ _ nll hP.l;refine(zf rfl ⟨lm,(zf rfl ⟨.inl (SqL.of m3),fun l4 f4=>?_⟩)⟩);have s4:=zi (o:=.lst (M.map V.str)) f4;have h4:Hd K st wl o H3 (upd H3 l4 (.lst (M.map V.str))) l4 M (B+1):=⟨hP.ok,⟨_,S3⟩,w3.gen,f4,.of s4,S3.same s4,zg⟩;refine(zf rfl (zf rfl (zf rfl (zf rfl ⟨st,l4,ll,wl,M,L,B+1,H3,o,rfl,h4,ll3,by lia,by lia,by rw[LM];lia,fun H5 r5 d M' h5 t5 sub5 ml5 I5 L5=>?_⟩))));have k5:=k3.trans h5.kp;refine(zf rfl (zf rfl (zf rfl (zf rfl (zf rfl ⟨sN1,fun l6 f6=>?_⟩)))));have s6:=zi (o:=.lst [.str (nm o.z o.b k)]) f6;refine⟨l4,l6,(zv rfl rfl ⟨s6 _ _ h5.m,zg,by rw[ua];show M'.length+1<=_;lia,fun l7 f7=>?_⟩)⟩;have s7:=s6.new (o:=.lst (M'.map V.str++[.str (nm o.z o.b k)])) f7;have h7:=h5.same s7;have e7:upd (upd H5 l6 (.lst [.str (nm o.z o.b k)])) l7 (.lst (M'.map V.str++[.str (nm o.z o.b k)])) l7=some (.lst ((M'++[nm o.z o.b k]).map V.str)):=by rw[zg,uh];rfl
  have k7:=k3.trans h7.kp;refine(zf rfl (zf rfl (zv rfl rfl (zf rfl (zv rfl rfl (zf rfl (bod n (ud _) _ (M'++[nm o.z o.b k]) l7 (k+1) _ a _ _ (by lia) (.kp k7) (hP.w.kp hP.s k7) (ud _) h7.s e7 (by rw[ub];show M'.length+1+_<=_;lia) (by lia) (by rw[LM];lia) _ fun H8 p b a' kw S8 w8 ha8 hb hg=>⟨sN4,fun t9 f9=>?_⟩)))))));have s9:=zi (o:=.tup [.str "let",.str (nm o.z o.b k),.ref r5,.ref p]) f9;have w7:=hP.w.kp hP.s k7;show D.rt _ _;rw[hD];exact q _ t9 (.lt (nm o.z o.b k) d b) a' (((Kw.kp k7).trans kw).trans (.of s9)) ((S8.same s9).mono (by lia)) (w8.kp S8 (.of s9)) ha8 ⟨r5,p,zg,((I5.keep (.of s7)).keep (kw.tups h7.s w7)).keep (.of s9),hb.keep (.of s9)⟩ ((hg.lt L5).mono (by rw[d1];lia) (by lia) (by lia))
 intro hne H3 k3 S3 e3;have m3:=k3.k _ _ nlm hP.m;have ll3:=k3.k _ _ nll hP.l;have lne:0 < (M++L).length:=List.length_pos_iff.mpr hne;have lml:(M++L).length<=100:=by rw[ub];lia
 refine(zf rfl (zf rfl (zf rfl ⟨l2,(zf rfl ⟨.inl (SqL.of e3),st,(((M++L).map V.str).length:Nat),B+1,rfl,S3,by rw[LM];lia,by rw[ua];lia,fun H4 r4 k4 S4 a4 b4=>?_⟩)⟩)));rw[ua]at b4;obtain⟨j,rfl⟩:∃j:Nat,r4=(j:Int):=⟨r4.toNat,by lia⟩;have hj:j < (M++L).length:=by lia
 have hxj:(M++L)[j]?=some (M++L)[j]:=ui hj;refine⟨l2,_,_,_,rfl,rfl,SqL.of (k4.k _ _ n2s e3),zN (by rw[ug,hxj];rfl),?_⟩;generalize (M++L)[j]=x;have k04:=k3.trans k4;have m4:=k04.k _ _ nlm hP.m;have ll4:=k04.k _ _ nll hP.l;have w4:=hP.w.kp hP.s k04;refine(zf rfl ⟨rfl,(zf rfl ?_)⟩);by_cases c4:way=4
 ·refine zR (decide_eq_true (by rw[c4])) ?_
  refine(zf rfl (zf rfl (zf rfl (zf rfl (zf rfl ⟨sN1,fun l6 f6=>?_⟩)))));have s6:=zi (o:=.lst [.str (nm o.z o.b k)]) f6;refine⟨lm,l6,(zv rfl rfl ⟨s6 _ _ m4,zg,by rw[ua];show M.length+1<=_;lia,fun l7 f7=>?_⟩)⟩;have s7:=s6.new (o:=.lst (M.map V.str++[.str (nm o.z o.b k)])) f7;have e7:upd (upd H4 l6 (.lst [.str (nm o.z o.b k)])) l7 (.lst (M.map V.str++[.str (nm o.z o.b k)])) l7=some (.lst ((M++[nm o.z o.b k]).map V.str)):=by rw[zg,uh];rfl
  refine(zf rfl (zf rfl (zv rfl rfl (zf rfl (zv rfl rfl (zf rfl (bod n (ud _) _ (M++[nm o.z o.b k]) l7 (k+1) _ a _ _ (by lia) (.kp (k04.trans (.of s7))) (w4.kp S4 (.of s7)) (ud _) (S4.same s7) e7 (by rw[ub];show M.length+1+_<=_;lia) (by lia) (by rw[LM];lia) _ fun H8 p b a' kw S8 w8 ha8 hb hg=>⟨sN4,fun t9 f9=>?_⟩)))))));have s9:=zi (o:=.tup [.str "hold",.str (nm o.z o.b k),.str x,.ref p]) f9;exact q _ t9 (.hold (nm o.z o.b k) x b) a' (((Kw.kp (k04.trans (.of s7))).trans kw).trans (.of s9)) ((S8.same s9).mono (by lia)) (w8.kp S8 (.of s9)) ha8 ⟨p,zg,hb.keep (.of s9)⟩ (hg.hold.mono (by rw[d1];lia) (by lia) (by lia))
 refine iteE (decide_eq_false fun z=>c4 (V.int.inj z)) (nxtC ?_);dsimp only
 change (tSeq (tIfS _ _ _) (tSeq _ _):TS) { nx:=fun _ H'=>Q .non H',rt:=Q } [oR st,oR lm,oR ll,some (.int (k:Nat)),some (.int room),oR wl,some (.int way),some (.str (nm o.z o.b k)),oR l2,none,none,some (.str x),none] H4
 refine(show ∀u:TS,u { nx:=fun _ H'=>Q .non H',rt:=Q } [oR st,oR lm,oR ll,some (.int (k:Nat)),some (.int room),oR wl,some (.int way),some (.str (nm o.z o.b k)),oR l2,none,none,some (.str x),none] H4->(tSeq (tIfS _ _ ve) u:TS) { nx:=fun _ H'=>Q .non H',rt:=Q } [oR st,oR lm,oR ll,some (.int (k:Nat)),some (.int room),oR wl,some (.int way),some (.str (nm o.z o.b k)),oR l2,none,none,some (.str x),none] H4 from ?key2) _ ?rst2
 case key2 =>
  intro u rest;refine(zf rfl ⟨rfl,(zf rfl ?_)⟩);by_cases c5:¬ way=5
  ·exact iteE (decide_eq_false fun z=>c5 (V.int.inj z)) (iteF (nxtC rest))
  refine zR (decide_eq_true (by rw[Decidable.not_not.mp c5])) (zf rfl (zf rfl ⟨lm,(zf rfl ⟨.inl (SqL.of m4),rfl,yJ,(zf rfl ?_)⟩)⟩));by_cases c:¬ x∈M
  ·exact iteE (show inV _ _=false by rw[xF,decide_eq_false c]) (nxtC rest)
  refine zR (show inV _ _=true by rw[xF,decide_eq_true (Decidable.not_not.mp c)]) ?_;refine(zf rfl ⟨lm,rfl,⟨_,SqL.of m4⟩,yF (xs:=M.map V.str) (fun j τ ys H'=>H4=H'/\(∃v,τ=[oR st,oR lm,oR ll,some (.int (k:Nat)),some (.int room),oR wl,some (.int way),some (.str (nm o.z o.b k)),oR l2,none,none,some (.str x),none,v])/\∃us:LS,ys=us.map V.str/\us.length<=j) ⟨rfl,⟨none,rfl⟩,[],rfl,ud _⟩ (fun j τ ys H' _ h=>SqL.of (h.1 ▸ m4)) ?_ ?_⟩)
  ·rintro j v τ ys H5 hv' ⟨rfl,⟨v',rfl⟩,us,rfl,ul⟩
   rw[ug]at hv';obtain⟨y,hy,rfl⟩:=uj.mp hv';have hj:=(ue.mp hy).1;refine(zf rfl (zf rfl ⟨rfl,(zf rfl ?_)⟩));by_cases c:y=x
   ·exact iteE (show(!decide (V.str y=V.str x))=false by rw[decide_eq_true (congrArg V.str c)];rfl) ⟨rfl,⟨_,rfl⟩,us,rfl,by lia⟩
   ·exact zR (show(!decide (V.str y=V.str x))=true by rw[decide_eq_false fun z=>c (V.str.inj z)];rfl) (zf rfl ⟨by rw[ua];lia,rfl,⟨_,rfl⟩,us++[y],by rw[uh];rfl,by rw[ub];show us.length+1<=_;lia⟩)
  rintro τ ys H5 ⟨rfl,_,M2,rfl,ul⟩ l5 f5;rw[ua]at ul;have s5:=zi (o:=.lst (M2.map V.str)) f5;refine(zf rfl (zf rfl (zf rfl (zf rfl (zf rfl (zf rfl (zv rfl rfl (zf rfl (bod n (ud _) _ M2 l5 k _ a _ _ rfl (.kp (k04.trans (.of s5))) (w4.kp S4 (.of s5)) (ud _) (S4.same s5) zg (by lia) (by lia) (by rw[LM];lia) _ fun H8 p b a' kw S8 w8 ha8 hb hg=>⟨sN3,fun t9 f9=>?_⟩)))))))));have s9:=zi (o:=.tup [.str "drop",.str x,.ref p]) f9;exact q _ t9 (.drop x b) a' (((Kw.kp (k04.trans (.of s5))).trans kw).trans (.of s9)) ((S8.same s9).mono (by lia)) (w8.kp S8 (.of s9)) ha8 ⟨p,zg,hb.keep (.of s9)⟩ (hg.drop.mono (by rw[d1];lia) (by lia) (by lia))
 refine(zf rfl ⟨rfl,(zf rfl ?_)⟩);have hdv:(room-1) / 2<=((n / 2:Nat):Int):=by lia
 have hn2:n / 2<=n:=Nat.div_le_self _ _;by_cases c6:way=6
 ·refine zR (decide_eq_true (by rw[c6])) ?_
  refine(zf rfl (zf rfl (zf rfl (zf rfl (zf rfl (zv rfl rfl (zv rfl rfl ⟨⟨by decide,by decide⟩,(zf rfl (bod (n / 2) hn2 _ M lm k _ a _ _ rfl (.kp k04) w4 (ud _) S4 m4 (by lia) hdv (by rw[LM];lia) _ fun H5 p5 b5 a5 kw5 S5 w5 ha5 hb5 hg5=>?_))⟩)))))));have k05:Kw st wl H H5:=(Kw.kp k04).trans kw5;refine(zf rfl (zf rfl (zf rfl (zf rfl (zf rfl (zf rfl (zf rfl (zv rfl rfl (zv rfl rfl ⟨⟨by decide,by decide⟩,(zf rfl (bod (n / 2) hn2 _ M lm k _ a5 _ _ rfl k05 w5 ha5 S5 (k05.k _ _ nlm wlm hP.m) (by lia) hdv (by rw[LM];lia) _ fun H6 p6 b6 a6 kw6 S6 w6 ha6 hb6 hg6=>⟨sN4,fun t7 f7=>?_⟩))⟩)))))))));have s7:=zi (o:=.tup [.str "if",.str x,.ref p5,.ref p6]) f7;have d5:=d3 (m:=n / 2) ha5;have d2':=d2 a;exact q _ t7 (.iff x b5 b6) a6 ((k05.trans kw6).trans (.of s7)) ((S6.same s7).mono (by lia)) (w6.kp S6 (.of s7)) (uC ha6 ha5) ⟨p5,p6,zg,(hb5.keep (kw6.tups S5 w5)).keep (.of s7),hb6.keep (.of s7)⟩ ((hg5.iff (hg6.mono d5 (ud _) (ud _))).mono (by rw[d1];lia) (by lia) (by lia))
 refine iteE (decide_eq_false fun z=>c6 (V.int.inj z)) (nxtC ?_);have d2':=d2 a;exact(zf rfl (zf rfl (zf rfl (zf rfl (zf rfl (zf rfl ⟨st,lm,ll,wl,M,L,k,room,B+1+1,a,r,o,rfl,⟨hP.ok,w4,S4,ha34,m4,ll4,by lia,lll⟩,by lia,hne,hdv,by lia,by rw[LM];lia,fun H8 p b a' kw S8 w8 ha8 hb hg=>q _ p b a' ((Kw.kp k04).trans kw) (S8.mono (by lia)) w8 ha8 hb (hg.mono (by rw[d1];lia) (by lia) (by lia))⟩))))))
def rowR(a:Str×Dd)(H:Hp)(t:Addr):Prop:=∃q,H t=some (.tup [.str a.1,.ref q])/\IsDd H a.2 q
theorem rowR.tk{a:Str×Dd}{t:Addr}(k:Tups H H')(h:rowR a H t):rowR a H' t:=by obtain⟨q,h1,h2⟩:=h;exact⟨q,k _ _ h1,h2.keep k⟩
def era(H:Hp)(p:Addr):Hp:=fun b=>if b=p then none else H b
theorem xP(n:b≠p):era H p b=H b:=if_neg n
theorem VD:era H p p=none:=if_pos rfl
theorem VE:Same (era H p) H:=fun b u h=>by
 by_cases e:b=p
 ·rw[e,VD]at h;cases h
 ·rwa [xP e]at h
theorem Hd.fresh{st lm:Addr}{o:Wg}{H0:Hp}{M:LS}(h:Hd K st wl o H0 H lm M B):Kp st H0 (era H lm)/\Hd K st wl o (era H lm) H lm M B:=by
 obtain⟨B0,S0⟩:=id h.s0;have kp:Kp st H0 (era H lm):=⟨fun b u n q=>by rw[xP (zo q h.f)];exact h.kp.k b u n q,fun a k q=>by
  obtain⟨k',h'⟩:=h.kp.s a k q;exact⟨k',by rw[xP (zo q h.f)];exact h'⟩⟩
 have S1:Sta K (era H lm) st B:=by
  obtain⟨a,ns,i,h1,h2,h3,_⟩:=S0;obtain⟨a',ns',i',g1,g2,g3,g4⟩:=h.s;obtain⟨k',h'⟩:=h.kp.s a _ h1;rw[g1]at h';have ea:a'=a:=congrArg (fun o=>match o with|some (HO.lst (V.ref x::_))=>x|_=>0) h';subst ea;have g1':era H lm st=some (.lst [.ref a',.int ((i':Nat):Int)]):=by rw[xP (zo h1 h.f)];exact g1
  have key:a'≠lm->Sta K (era H lm) st B:=fun n=>by
   refine⟨a',ns',i',g1',g2,?_,g4⟩;rcases g3 with(g|⟨o,g⟩)|g
   ·exact .inl (.inl (by rw[xP n];exact g))
   ·exact .inl (.inr ⟨o,by rw[xP n];exact g⟩)
   ·exact .inr g
  rcases h3 with(h3|⟨_,h3⟩)|h3
  ·exact key (zo h3 h.f)
  ·exact key (zo h3 h.f)
  ·exact⟨a',ns,i',g1',fun _ _=>.inr h3,.inr h3,g4⟩
 exact⟨kp,h.ok,⟨B,S1⟩,h.w.kp S0 kp,VD,.of VE,h.s,h.m⟩
inductive spFoot(K:uc)(vs:List V)(H:Hp)(Q:VK)(e_3:XK):Prop
 |mk (st:Addr) (lm:Addr) (wl:Addr) (M:LS) (k:Nat) (size:Nat) (B:Nat) (tag:Str):(∃o:Wg,vs=[.ref st,.ref lm,.int (k:Nat),.str tag,.int (size:Nat),.ref wl]/\WgOk o/\WlAt H wl o/\Sta K H st B/\H lm=some (.lst (M.map V.str))/\M.length<=60/\size<=9/\B+300 < LIM/\∀(H':Hp)(p:Addr)(b:Bd),Kp st H H'->Sta K H' st (B+40)->IsBd H' b p->RG b (M.length+8) (M.length+8) 0->Q (.ref p) H')->spFoot K vs H Q e_3
theorem scFoot:FnScope ["_law_state","_law_mine","_law_k","_law_tag","_law_size","_law_world_here","_law_left","_law_rows","_law_j","_law_body_here","_law_name_here","_law_deed_here"] lS4 (zp WH):=.ok
theorem Qk(F:Fun K "_law_foot" "_law_foot" WH f fd)(GD:Ca P w K mg base CX0 1 "_law_draw" lS1 (spDraw K))(GM:Ca P w K mg base CX0 1 "_law_name" lS5 spNm)(GS:Ca P w K mg base CX0 2 "_law_some" lS6 (spSome K))(GE:Ca P w K mg base CX0 2 "_law_end" lS7 (spEndW K))(m_len:mg "len"=none)(m_list:mg "list"=none)(m_range:mg "range"=none)(m_reversed:mg "reversed"=none):FnOk P w K mg base CX0 3 f fd lS4 (spFoot K):=by
 refine F.by scFoot (fun vs H Q E h=>?_) (fun cdv A outer s H vs Q E hr h=>?_)
 ·obtain⟨st,lm,wl,M,k,size,B,tag,o,rfl,_⟩:=h
  rfl
 obtain⟨st,lm,wl,M,k,size,B,tag,o,rfl,hok,hw,hS,hm,hM,h9,hB,q⟩:=h;have hr1:Room 1 _:=hr.mono (by decide);refine⟨_,
  (zh (sE 6 scFoot.nd (zB zZ rfl m_list uO (jA1 (jv 1))))
  (zh (sE 7 scFoot.nd (zC zE))
  (zh (zM PassesOwn.never rfl (zW rfl m_range (jA1 (cA GD hr1 (jA2 (jv 0) zn)))) (gN 8 scFoot.nd)
   (zk (zy (tN zbO (jL m_len (jv 6)) (jv 4))
    (zh (zF (zV uk uy uz zG (jv 7) (jA1 (zr (jA2 (cA GM hr1 (jA2 (jv 5) (zw zO (jv 2) (jv 8)))) (zr (jA4 zq (jv 3) (cA GS hr (jA3 (jv 0) (jv 6) (jv 4))) zq)))))))
    (zk (zF (zV uk uy uz zG (jv 6) (jA1 (yg yp (xX z7 (jv 7) (yu zn)) zn (fun _ _=>rfl)))))))  zu)))
  (zh (sE 9 scFoot.nd (cA GE hr (jA3 (jv 0) (jv 6) (cA GM hr1 (jA2 (jv 5) (zw zO (jv 2) zn))))))
  (zh (zM PassesOwn.never rfl (jw rfl m_reversed (jA1 (jv 7))) (yR rfl (zA (gN 10 scFoot.nd) (zA (gN 11 scFoot.nd) yf)))
   (zk (sE 9 scFoot.nd (zr (jA4 zq (jv 10) (jv 11) (jv 9))))))
  (zk (zt (jv 9)))))))),?_⟩
 have sl:=zJ;have LM:LIM=4611686018427387904:=rfl;rw[LM]at hB;refine(zf rfl ⟨lm,(zf rfl ⟨.inl (SqL.of hm),fun l6 f6=>?_⟩)⟩);have s6:=zi (o:=.lst (M.map V.str)) f6;have e6:=zg (H:=H) (a:=l6) (o:=.lst (M.map V.str));dsimp only
 generalize upd H l6 (.lst (M.map V.str))=H1 at *;refine⟨sN0,fun l7 f7=>?_⟩;have f70:H l7=none:=s6.free f7;have n76:l7≠l6:=fun z=>by rw[z,e6]at f7;cases f7
 have s7:=s6.new (o:=.lst []) f7;have e67:=zi (o:=.lst []) f7 _ _ e6;have e7:=zg (H:=H1) (a:=l7) (o:=.lst []);have n7s:=hS.ne f70;dsimp only
 generalize upd H1 l7 (.lst [])=H2 at *;have h2:Hd K st wl o H H2 l6 M B:=⟨hok,⟨B,hS⟩,hw,f6,.of s7,hS.same s7,e67⟩;refine(zf rfl ⟨st,4,B,rfl,h2.s,by rw[LM];lia,by decide,fun H3 r k3 S3 r0 r1=>?_⟩);refine(zf rfl ⟨by lia,by lia,yT (n:=r.toNat) (fun i σ H'=>∃(M':LS)(us:List Addr)(rs:List (Str×Dd))(y:Option V),σ=[oR st,oR lm,some (.int (k:Nat)),some (.str tag),some (.int (size:Nat)),oR wl,oR l6,oR l7,y,none,none,none]/\Hd K st wl o H H' l6 M' (B+1+9*i)/\H' l7=some (.lst (us.map V.ref))/\TsAt rowR H' rs us/\rs.length<=i/\(∀z∈rs,LnD [] z.2)/\M'.length<=M.length+i) ⟨M,[],[],none,rfl,h2.go k3 S3,k3.k _ _ n7s e7,⟨rfl,fun i a t h=>by simp at h⟩,ud _,(fun z h=>by cases h),ud _⟩ ?_ ?_⟩)
 ·rintro i σ H4 hi ⟨M',us,rs,y,rfl,h4,e4,hT,rl,hL,ml⟩
  have ul:=hT.1;have i4:i < 4:=by lia
  refine(zf rfl ⟨l6,(zf rfl ⟨.inl (SqL.of h4.m),(zf rfl (zv rfl rfl (zf rfl ?_)))⟩)⟩);refine ite2 (fun c=>?_) (fun c=>nxtC ⟨M',us,rs,(zf rfl ⟨h4.mono (by lia),e4,hT,by lia,hL,by lia⟩)⟩);rw[decide_eq_true_eq,ua]at c;obtain⟨tl,dl,ts,us',xs,w1,_⟩:=h4.wa;refine(zf rfl ⟨.inl ⟨rfl,_,SqL.of e4⟩,(zf rfl (zf rfl (zf rfl (zv rfl rfl ⟨wl,o.z,o.b,_,k+i,?_,w1,hok.z,?_⟩))))⟩)
  ·show[V.ref wl,V.int ((k:Int)+(0+(i:Int)))]=_
   rw[Int.zero_add]
   rfl
  obtain⟨kp4,h4'⟩:=h4.fresh;refine(zf rfl (zf rfl (zf rfl (zf rfl ⟨st,l6,size,M',_,_,wl,o,rfl,h4',by lia,by lia,by lia,by rw[LM];lia,fun H5 r5 N M5 h5' t5 ml5 sub g5 nl5=>⟨sN4,fun t1 f1=>⟨sN2,fun t2 f2=>?_⟩⟩⟩))));have e5:H5 l7=some (.lst (us.map V.ref)):=h5'.kp.k _ _ n7s (by rw[xP n76];exact e4);have h5:Hd K st wl o H H5 l6 M5 (B+1+9*i+size):=⟨hok,⟨B,hS⟩,hw,f6,kp4.trans h5'.kp,h5'.s,h5'.m⟩;have s6:=(zi (o:=.tup [.str "make",.str tag,.ref r5,.str ""]) f1).new (o:=.tup [.str (nm o.z o.b (k+i)),.ref t1]) f2;have rw6:rowR (nm o.z o.b (k+i),.mk tag N "") _ t2:=⟨t1,zg,r5,old f2 zg,s6 _ _ g5⟩;have tp6:=zg (H:=upd H5 t1 (.tup [.str "make",.str tag,.ref r5,.str ""])) (a:=t2) (o:=.tup [.str (nm o.z o.b (k+i)),.ref t1]);have h6:=h5.same s6;have e6':=s6 _ _ e5;have T6:Tups H4 _:=t5.trans (.of s6);refine⟨l7,(zv rfl rfl ⟨e6',by rw[ua];lia,?_⟩)⟩;dsimp only
  generalize upd (upd H5 t1 (.tup [.str "make",.str tag,.ref r5,.str ""])) t2 (.tup [.str (nm o.z o.b (k+i)),.ref t1])=H6 at *;have em:us.map V.ref++[V.ref t2]=(us++[t2]).map V.ref:=by rw[uh];rfl
  rw[em];obtain⟨h7,T7⟩:=h6.put (u:=.lst ((us++[t2]).map V.ref)) f70 n76 e6';have e77:=zg (H:=H6) (a:=l7) (o:=.lst ((us++[t2]).map V.ref));have tp7:=T7 _ _ tp6;have T47:=T6.trans T7;have hT7:=(hT.keep fun _ _ z=>z.tk T47).snoc (rw6.tk T7);generalize upd H6 l7 (.lst ((us++[t2]).map V.ref))=H7 at *;refine(zf rfl ⟨.inl ⟨rfl,_,SqL.of h7.m⟩,(zf rfl (zf rfl ⟨l7,_,_,_,rfl,rfl,SqL.of e77,by rw[uh];exact yV _ _,ixT tp7 aI0 ⟨l6,(zv rfl rfl ⟨h7.m,by rw[ua];lia,?_⟩)⟩⟩))⟩);have em2:M5.map V.str++[V.str (nm o.z o.b (k+i))]=(M5++[nm o.z o.b (k+i)]).map V.str:=by rw[uh];rfl
  obtain⟨h8,T8⟩:=h7.set (M':=M5++[nm o.z o.b (k+i)]);have e78:upd H7 l6 (.lst ((M5++[nm o.z o.b (k+i)]).map V.str)) l7=some (.lst ((us++[t2]).map V.ref)):=by rw[zj n76];exact e77
  have hT8:=hT7.keep fun _ _ z=>z.tk T8;rw[<- em2]at h8 e78 hT8;refine nxtC ⟨_,_,_,_,rfl,h8.mono (by lia),e78,hT8,by rw[ub];show rs.length+1<=_;lia,fun z hz=>?_,by rw[ub];show M5.length+1<=_;lia⟩;rcases uJ.mp hz with hz|hz
  ·exact hL z hz
  ·rw[uE.mp hz]
   exact⟨by show N.length<=1000;lia,rawM⟩
 rintro σ H4 ⟨M',us,rs,y,rfl,h4,e4,hT,rl,hL,ml⟩;have ul:=hT.1;have r3:r.toNat<=3:=by lia
 obtain⟨tl,dl,ts,us',xs,w1,_⟩:=h4.wa;refine(zf rfl (zf rfl (zf rfl (zf rfl (zv rfl rfl ⟨wl,o.z,o.b,_,k+4,rfl,w1,hok.z,st,l6,_,M',(zf rfl ⟨h4.s,h4.m,by lia,by rw[LM];lia,fun H5 p5 b5 k5 S5 hb5 hg5=>?_⟩)⟩)))));have e5:=k5.k _ _ n7s e4;have T5:=k5.tups h4.s;have hT5:=hT.keep fun _ _ z=>z.tk T5;refine(zf rfl ⟨_,_,rfl,SqL.of e5,wV (xs:=us.map V.ref) (fun i σ H'=>Same H5 H'/\∃(b:Bd)(p:Addr)(y x' y':Option V),σ=[oR st,oR lm,some (.int (k:Nat)),some (.str tag),some (.int (size:Nat)),oR wl,oR l6,oR l7,y,oR p,x',y']/\IsBd H' b p/\RG b (M'.length+2+i) (M'.length+2+i) 0) ⟨.refl _,b5,p5,_,none,none,rfl,hb5,hg5⟩ (fun i σ H' _ h=>SqL.of (h.1 _ _ e5)) ?_ ?_⟩)
 ·rintro i v σ H6 hv ⟨s6,b,p,y,x',y',rfl,hb,hg⟩
  rw[<- List.map_reverse,ug]at hv;obtain⟨t,ht,rfl⟩:=uj.mp hv;have hi:i < us.length:=by
   have:=(ue.mp ht).1
   rwa [u4]at this
  rw[List.getElem?_reverse hi]at ht;obtain⟨⟨n,d⟩,haT,qd,d1,d2⟩:=hT5.at ht;have hLd:=hL _ (uv haT);refine⟨_,_,rfl,SqT.of (s6 _ _ d1),rfl,_,_,rfl,_,_,rfl,rfl,(zf rfl (zf rfl (zf rfl ⟨sN4,fun t7 f7=>?_⟩)))⟩;have s7:=zi (o:=.tup [.str "let",.str n,.ref qd,.ref p]) f7;exact⟨s6.trans s7,.lt n d b,t7,_,_,_,rfl,⟨qd,p,zg,d2.keep (.of (s6.trans s7)),hb.keep (.of s7)⟩,(hg.lt hLd).mono (by lia) (by lia) (ud _)⟩
 ·rintro σ H6 ⟨s6,b,p,y,x',y',rfl,hb,hg⟩
  rw[ua]at hg;exact(zf rfl (q _ p b ((h4.kp.trans k5).trans (.of s6)) ((S5.same s6).mono (by lia)) hb (hg.mono (by lia) (by lia) (ud _))))
def hdR(l7 l8:Addr)(a:Str×LS)(H:Hp)(t:Addr):Prop:=∃q,H t=some (.tup [.str a.1,.ref q])/\H q=some (.lst (a.2.map V.str))/\q≠l7/\q≠l8
inductive spChain(K:uc)(vs:List V)(H:Hp)(Q:VK)(e_3:XK):Prop
 |mk (st:Addr) (lm:Addr) (wl:Addr) (M:LS) (k:Nat) (B:Nat):(∃o:Wg,vs=[.ref st,.ref lm,.int (k:Nat),.ref wl]/\WgOk o/\WlAt H wl o/\Sta K H st B/\H lm=some (.lst (M.map V.str))/\0 < M.length/\M.length<=3/\(∃tg,o.T[3]?=some tg/\1<=tg.2.1)/\B+1000 < LIM/\∀(H':Hp)(p:Addr)(b:Bd),Kp st H H'->Sta K H' st (B+100)->IsBd H' b p->RG b 60 200 5->Q (.ref p) H')->spChain K vs H Q e_3
theorem scChain:FnScope ["_law_state","_law_mine","_law_k","_law_world_here","_law_tag","_law_size","_law_kind","_law_left","_law_heads","_law_j","_law_x","_law_names","_law_first","_law_body_here"] lS12 (zp Yg):=.ok
theorem Ql:(["_law_state","_law_mine","_law_k","_law_world_here","_law_tag","_law_size","_law_kind","_law_left","_law_heads","_law_j","_law_x","_law_names","_law_first","_law_body_here","_law_one"]:LS).Nodup:=by decide +kernel
theorem VF(F:Fun K "_law_chain" "_law_chain" Yg f fd)(GD:Ca P w K mg base CX0 1 "_law_draw" lS1 (spDraw K))(GM:Ca P w K mg base CX0 1 "_law_name" lS5 spNm)(GF:Ca P w K mg base CX0 3 "_law_foot" lS4 (spFoot K))(m_list:mg "list"=none)(m_range:mg "range"=none)(m_reversed:mg "reversed"=none)(m_tuple:mg "tuple"=none):FnOk P w K mg base CX0 4 f fd lS12 (spChain K):=by
 refine F.by scChain (fun vs H Q E h=>?_) (fun cdv A outer s H vs Q E hr h=>?_)
 ·obtain⟨st,lm,wl,M,k,B,o,rfl,_⟩:=h
  rfl
 obtain⟨st,lm,wl,M,k,B,o,rfl,hok,hw,hS,hm,hM0,hM,⟨⟨tag,size,kind⟩,hT3,h1⟩,hB,q⟩:=h;have hr1:Room 1 _:=hr.mono (by decide);refine⟨_,
  (zh (xb (yg z7 (xL 3) zn (fun _ _=>rfl)) (yR rfl (zA (gN 4 scChain.nd) (zA (gN 5 scChain.nd) (zA (gN 6 scChain.nd) yf)))))
  (zh (sE 7 scChain.nd (zB zZ rfl m_list uO (jA1 (jv 1))))
  (zh (sE 8 scChain.nd (zC zE))
  (zh (zM PassesOwn.never rfl (zW rfl m_range (jA1 (zw zO zn (cA GD hr1 (jA2 (jv 0) zn))))) (gN 9 scChain.nd)
   (zh (sE 10 scChain.nd (xK uk uY uZ xM (jv 7)))
   (zh (ye ["_law_one"] (i:=11) scChain.nd rfl (Or.inl rfl) rfl (zW rfl m_range (jA1 (jv 5))) (fun _ _ _ _ _=>(gN 14 Ql)) (fun _ _ _ _ _=>zL) (fun _ _ _ _ _=>(cA GM hr1 (jA2 (jv 3) (zw zO (jv 2) (jv 14))))))
   (zh (sE 2 scChain.nd (zw zO (jv 2) (jv 5)))
   (zh (zF (zV uk uy uz zG (jv 8) (jA1 (zr (jA2 (jv 10) (jv 11))))))
   (zk (sE 7 scChain.nd (zw yj (jv 7) (jv 11)))))))))
  (zh (sE 12 scChain.nd (cA GF hr (jA6 (jv 0) (jv 7) (jv 2) (jv 4) (jv 5) (jv 3))))
  (zh (sE 13 scChain.nd (zr (jA4 zq (xL 7) (jv 12) (cA GF hr (jA6 (jv 0) (jv 7) (jv 2) (jv 4) (jv 5) (jv 3))))))
  (zh (zM PassesOwn.never rfl (jw rfl m_reversed (jA1 (jv 8))) (yR rfl (zA (gN 10 scChain.nd) (zA (gN 11 scChain.nd) yf)))
   (zk (sE 13 scChain.nd (zr (jA3 zq (jv 10) (zr (jA1 (zr (jA5 (jv 4) (zB zz rfl m_tuple ut (jA1 (jv 11))) zq zq (jv 13))))))))))
  (zk (zt (jv 13)))))))))),?_⟩
 have sl:=zJ;have LM:LIM=4611686018427387904:=rfl;rw[LM]at hB;have h9:size<=9:=hok.T _ (uv hT3)
 replace h1:1<=size:=h1
 obtain⟨tl,dl,ts,us0,xs0,w1,w2,w3,_⟩:=id hw;have t3l:3 < ts.length:=by rw[<- w3.1];exact(ue.mp hT3).1
 have ht3:ts[3]?=some ts[3]:=ui t3l;have hR3:=w3.2 3 _ _ hT3 ht3;refine(zf rfl (ixL w1 aI2 (ixL w2 (zN (j:=3) (by rw[ug,ht3];rfl)) ⟨_,_,rfl,SqT.of hR3,rfl,_,_,rfl,_,_,rfl,_,_,rfl,rfl,?_⟩)));refine(zf rfl ⟨lm,(zf rfl ⟨.inl (SqL.of hm),fun l7 f7=>?_⟩)⟩);have s7:=zi (o:=.lst (M.map V.str)) f7;have e7:=zg (H:=H) (a:=l7) (o:=.lst (M.map V.str));dsimp only
 generalize upd H l7 (.lst (M.map V.str))=H1 at *;refine⟨sN0,fun l8 f8=>?_⟩;have f80:H l8=none:=s7.free f8;have n78:l7≠l8:=fun z=>by rw[<- z,e7]at f8;cases f8
 have s8:=s7.new (o:=.lst []) f8;have e78:=zi (o:=.lst []) f8 _ _ e7;have e8:=zg (H:=H1) (a:=l8) (o:=.lst []);have n8s:=hS.ne f80;have n7s:=hS.ne f7;dsimp only
 generalize upd H1 l8 (.lst [])=H2 at *;refine(zf rfl ⟨st,5,B,rfl,hS.same s8,by rw[LM];lia,by decide,fun H3 r k3 S3 r0 r1=>(zv rfl rfl ?_)⟩);refine(zf rfl ⟨by lia,by lia,yT (n:=(1+r).toNat) (fun i σ H'=>∃(k':Nat)(l7:Addr)(M':LS)(us:List Addr)(hs:List (Str×LS))(y9 y10 y11:Option V),σ=[oR st,oR lm,some (.int (k':Nat)),oR wl,some (.str tag),some (.int (size:Nat)),some (.int (kind:Nat)),oR l7,oR l8,y9,y10,y11,none,none]/\Kp st H H'/\Sta K H' st (B+1)/\H l7=none/\l7≠l8/\H' l7=some (.lst (M'.map V.str))/\0 < M'.length/\M'.length<=3+8*i/\H' l8=some (.lst (us.map V.ref))/\TsAt (hdR l7 l8) H' hs us/\hs.length<=i/\∀z∈hs,z.2.length<=9) ⟨k,l7,M,[],[],_,_,_,rfl,(Kp.of s8).trans k3,S3,f7,n78,k3.k _ _ n7s e78,hM0,hM,k3.k _ _ n8s e8,⟨rfl,fun i a t h=>by simp at h⟩,ud _,(fun z h=>by cases h)⟩ ?_ ?_⟩)
 ·rintro i σ H4 hi ⟨k',l7,M',us,hs,y9,y10,y11,rfl,k4,S4,f7,n78,e4,hp,ml,e48,hT,hl,hL⟩
  have i5:i < 5:=by lia
  have ul:=hT.1;obtain⟨M0,x,rfl⟩:∃M0 x,M'=M0++[x]:=let ⟨a,b,e⟩:=(List.eq_nil_or_concat M').resolve_left (List.ne_nil_of_length_pos hp);⟨a,b,by rw[e,List.concat_eq_append]⟩
  rw[ub]at ml;have ml':M0.length+1<=3+8*i:=ml;have ea:(M0++[x]).map V.str=M0.map V.str++[V.str x]:=by rw[uh];rfl
  have eb:((M0++[x]).map V.str)[((M0++[x]).map V.str).length-1]?=some (.str x):=by rw[ea];simp
  have ec:((M0++[x]).map V.str).dropLast=M0.map V.str:=by rw[ea];simp
  refine(zf rfl ⟨.inl ⟨rfl,_,SqL.of e4⟩,l7,(zv rfl rfl ⟨e4,eb,?_⟩)⟩);rw[ec];have T5:Tups H4 (upd H4 l7 (.lst (M0.map V.str))):=fun b xs z=>by rw[zj (xh z e4 (by intro z;cases z))];exact z
  have k5:=k4.put (o:=.lst (M0.map V.str)) f7;have S5:=hS.put (o:=.lst (M0.map V.str)) f7 k4 S4;have e5:=zg (H:=H4) (a:=l7) (o:=.lst (M0.map V.str));have e58:upd H4 l7 (.lst (M0.map V.str)) l8=some (.lst (us.map V.ref)):=by rw[zj n78.symm];exact e48
  have hT5:TsAt (hdR l7 l8) (upd H4 l7 (.lst (M0.map V.str))) hs us:=hT.keep fun a t ⟨q,z1,z2,z3,z4⟩=>⟨q,T5 _ _ z1,by rw[zj z3];exact z2,z3,z4⟩;dsimp only
  generalize upd H4 l7 (.lst (M0.map V.str))=H5 at *;have w5:=hw.kp hS k5;obtain⟨tl5,dl5,ts5,us5,xs5,w51,_⟩:=id w5;refine(zf rfl (zf rfl ⟨by lia,by lia,yL (n:=((size:Nat):Int).toNat) (fun i' τ ys H'=>H5=H'/\(∃y,τ=[oR st,oR lm,some (.int (k':Nat)),oR wl,some (.str tag),some (.int (size:Nat)),some (.int (kind:Nat)),oR l7,oR l8,some (.int (0+(i:Int))),some (.str x),y11,none,none,y])/\∃Ns:LS,ys=Ns.map V.str/\Ns.length=i') ⟨rfl,⟨none,rfl⟩,[],rfl,rfl⟩ ?_ ?_⟩))
  ·rintro i τ ys H' hi ⟨rfl,⟨y,rfl⟩,Ns,rfl,nl⟩
   rw[u6]at hi;refine(zf rfl (zf rfl (zf rfl (zv rfl rfl ⟨wl,o.z,o.b,_,k'+i,?_,w51,hok.z,by rw[ua];lia,rfl,⟨_,rfl⟩,Ns++[nm o.z o.b (k'+i)],by rw[uh];rfl,by rw[ub,nl];rfl⟩))));show[V.ref wl,V.int ((k':Int)+(0+(i:Int)))]=_;rw[Int.zero_add]
   rfl
  rintro τ ys H' ⟨rfl,_,Ns,rfl,nl⟩ ln fn;rw[u6]at nl;have s6:=zi (o:=.lst (Ns.map V.str)) fn;have e6:=zg (H:=H5) (a:=ln) (o:=.lst (Ns.map V.str));have k6:Kp st H _:=k5.trans (.of s6);have S6:=S5.same s6;have e67:=s6 _ _ e5;have e68:=s6 _ _ e58;have n8n:ln≠l8:=fun z=>by rw[z,e58]at fn;cases fn
  have hT6:TsAt (hdR l7 l8) _ hs us:=hT5.keep fun a t ⟨q,z1,z2,z3,z4⟩=>⟨q,s6 _ _ z1,s6 _ _ z2,z3,z4⟩;dsimp only
  generalize upd H5 ln (.lst (Ns.map V.str))=H6 at *;refine(zf rfl (zf rfl (zv rfl rfl ?_)));refine(zf rfl ⟨.inl ⟨rfl,_,SqL.of e68⟩,(zf rfl (zf rfl ⟨sN2,fun t7 f7'=>⟨l8,(zv rfl rfl ⟨old f7' e68,by rw[ua];lia,?_⟩)⟩⟩))⟩);have s7:=zi (o:=.tup [.str x,.ref ln]) f7';have k7:Kp st H _:=k6.trans (.of s7);have S7:=S6.same s7;have e7:=s7 _ _ e6;have e77:=s7 _ _ e67;have e78:=s7 _ _ e68;have t7:=zg (H:=H6) (a:=t7) (o:=.tup [.str x,.ref ln]);have hT7:TsAt (hdR l7 l8) _ hs us:=hT6.keep fun a t ⟨q,z1,z2,z3,z4⟩=>⟨q,s7 _ _ z1,s7 _ _ z2,z3,z4⟩
  rename_i t7'
  dsimp only
  generalize upd H6 t7' (.tup [.str x,.ref ln])=H7 at *;have em:us.map V.ref++[V.ref t7']=(us++[t7']).map V.ref:=by rw[uh];rfl
  rw[em];have T8:Tups H7 (upd H7 l8 (.lst ((us++[t7']).map V.ref))):=fun b xs z=>by rw[zj (xh z e78 (by intro z;cases z))];exact z
  have k8:=k7.put (o:=.lst ((us++[t7']).map V.ref)) f80;have S8:=hS.put (o:=.lst ((us++[t7']).map V.ref)) f80 k7 S7;have e8:=zg (H:=H7) (a:=l8) (o:=.lst ((us++[t7']).map V.ref));have e87:upd H7 l8 (.lst ((us++[t7']).map V.ref)) l7=some (.lst (M0.map V.str)):=by rw[zj n78];exact e77
  have e8n:upd H7 l8 (.lst ((us++[t7']).map V.ref)) ln=some (.lst (Ns.map V.str)):=by rw[zj n8n];exact e7
  have hT8:TsAt (hdR l7 l8) (upd H7 l8 (.lst ((us++[t7']).map V.ref))) hs us:=hT7.keep fun a t ⟨q,z1,z2,z3,z4⟩=>⟨q,T8 _ _ z1,by rw[zj z4];exact z2,z3,z4⟩;have t8:=T8 _ _ t7;generalize upd H7 l8 (.lst ((us++[t7']).map V.ref))=H8 at *;refine(zf rfl (zf rfl ⟨l7,ln,(zv rfl rfl ⟨e87,e8n,by rw[ua,ua];lia,fun l9 f9=>?_⟩)⟩));have s9:=zi (o:=.lst (M0.map V.str++Ns.map V.str)) f9;have f90:H l9=none:=k8.free (S8.ne f9) f9;have n98:l9≠l8:=fun z=>by rw[z,e8]at f9;cases f9
  refine⟨k'+size,l9,M0++Ns,us++[t7'],hs++[(x,Ns)],_,_,_,rfl,k8.trans (.of s9),S8.same s9,f90,n98,by rw[uh];exact zg,by rw[ub];lia,by rw[ub];lia,s9 _ _ e8,(TsAt.snoc (R:=hdR l9 l8) ⟨hT8.1,fun i a t e1 e2=>(let ⟨q,z1,z2,z3,z4⟩:=hT8.2 i a t e1 e2;⟨q,s9 _ _ z1,s9 _ _ z2,zo z2 f9,z4⟩)⟩ ⟨ln,s9 _ _ t8,s9 _ _ e8n,zo e8n f9,n8n⟩),by rw[ub];show hs.length+1<=_;lia,fun z hz=>?_⟩;rcases uJ.mp hz with hz|hz
  ·exact hL z hz
  ·rw[uE.mp hz]
   show Ns.length<=9;lia
 rintro σ H4 ⟨k',l7,M',us,hs,y9,y10,y11,rfl,k4,S4,f7,n78,e4,hp,ml,e48,hT,hl,hL⟩;have r5:(1+r).toNat<=5:=by lia
 have ul:=hT.1;have n7s:=hS.ne f7;refine(zf rfl (zf rfl (zf rfl (zf rfl (zf rfl (zf rfl ⟨st,l7,wl,M',k',size,B+1,tag,o,rfl,hok,hw.kp hS k4,S4,e4,by lia,h9,by rw[LM];lia,fun H5 p5 b5 k5 S5 hb5 hg5=>?_⟩))))));have k05:=k4.trans k5;have e5:=k5.k _ _ n7s e4;have h0:M'[0]?=some M'[0]:=ui hp;refine(zf rfl (ixL e5 (zN (j:=0) (by rw[ug,h0];rfl)) (zf rfl (zf rfl (zf rfl (zf rfl (zf rfl (zf rfl (zf rfl ⟨st,l7,wl,M',k',size,_,tag,o,rfl,hok,hw.kp hS k05,S5,e5,by lia,h9,by rw[LM];lia,fun H6 p6 b6 k6 S6 hb6 hg6=>⟨sN4,fun t7 f7'=>?_⟩⟩)))))))));have s7:=zi (o:=.tup [.str "if",.str M'[0],.ref p5,.ref p6]) f7';have hb7:IsBd (upd H6 t7 (.tup [.str "if",.str M'[0],.ref p5,.ref p6])) (.iff M'[0] b5 b6) t7:=⟨p5,p6,zg,(hb5.keep (k6.tups S5)).keep (.of s7),hb6.keep (.of s7)⟩;have hg7:=(hg5.iff (x:=M'[0]) hg6).mono (d':=52) (s':=103) (c':=0) (by lia) (by lia) (ud _);have k47:Kp st H4 _:=(k5.trans k6).trans (.of s7);have S7:=S6.same s7;have hT7:=hT.keep (R:=hdR l7 l8) (k:=fun a t h=>(let ⟨q,z1,z2,z3,z4⟩:=h;⟨q,k47.tups S4 _ _ z1,k47.k _ _ (S4.neS z2) z2,z3,z4⟩:hdR l7 l8 a _ t));have e78:=k47.k _ _ n8s e48;have k07:=k4.trans k47;dsimp only
 generalize upd H6 t7 (.tup [.str "if",.str M'[0],.ref p5,.ref p6])=H7 at *;refine(zf rfl ⟨_,_,rfl,SqL.of e78,wV (xs:=us.map V.ref) (fun i σ H'=>Same H7 H'/\∃(b:Bd)(p:Addr)(y9 y10 y11 y12:Option V),σ=[oR st,oR lm,some (.int (k':Nat)),oR wl,some (.str tag),some (.int (size:Nat)),some (.int (kind:Nat)),oR l7,oR l8,y9,y10,y11,y12,oR p]/\IsBd H' b p/\RG b (52+i) (103+2*i) i) ⟨.refl _,_,t7,_,_,_,_,rfl,hb7,hg7⟩ (fun i σ H' _ h=>SqL.of (h.1 _ _ e78)) ?_ ?_⟩)
 ·rintro i v σ H8 hv ⟨s8,b,p,y9,y10,y11,y12,rfl,hb,hg⟩
  rw[<- List.map_reverse,ug]at hv;obtain⟨t,ht,rfl⟩:=uj.mp hv;have hi:i < us.length:=by
   have:=(ue.mp ht).1
   rwa [u4]at this
  rw[List.getElem?_reverse hi]at ht;obtain⟨⟨x,Ns⟩,haT,qd,d1,d2,_⟩:=hT7.at ht;have hLd:Ns.length<=9:=hL _ (uv haT);refine⟨_,_,rfl,SqT.of (s8 _ _ d1),rfl,_,_,rfl,_,_,rfl,rfl,(zf rfl (zf rfl (zf rfl ⟨qd,(zf rfl (.inl ⟨SqL.of (s8 _ _ d2),fun t1 f1=>(zf rfl ⟨sN5,fun t2 f2=>⟨sN1,fun t3 f3=>⟨sN3,fun t4 f4=>?_⟩⟩⟩)⟩))⟩)))⟩;have s9:=(((zi (o:=.tup (Ns.map V.str)) f1).new (o:=.tup [.str tag,.ref t1,.str "take",.str "",.ref p]) f2).new (o:=.tup [.ref t2]) f3).new (o:=.tup [.str "case",.str x,.ref t3]) f4;have ar:arR ⟨tag,Ns,"take","",b⟩ _ t2:=⟨t1,p,old f4 (old f3 zg),old f4 (old f3 (old f2 zg)),hb.keep (.of s9)⟩;refine⟨s8.trans s9,.cs x (Arms.ofL [⟨tag,Ns,"take","",b⟩]),t4,_,_,_,_,rfl,⟨t3,[t2],zg,old f4 zg,Yu (TsAt.snoc (l:=[]) (ts:=[]) ⟨rfl,fun i a t h=>(by simp at h)⟩ ar)⟩,(RG.cs (x:=x) (l:=[⟨tag,Ns,"take","",b⟩]) (d:=52+i) (s:=103+2*i) (c:=i) fun a ha=>?_).mono (by lia) (by show 1*(103+2*i+1)+1<=_;lia) (ud _)⟩;rw[uE.mp ha];exact⟨hg,rfl,hLd⟩
 ·rintro σ H8 ⟨s8,b,p,y9,y10,y11,y12,rfl,hb,hg⟩
  rw[ua]at hg;exact(zf rfl (q _ p b (k07.trans (.of s8)) ((S7.same s8).mono (by lia)) hb (hg.mono (by lia) (by lia) (by lia))))
theorem ZM{r:Addr}(s:Same H H')(h:H' r=none):H r=none:=by
 cases e:H r with
 |none=>rfl
 |some o=>rw[s _ _ e]at h;cases h
theorem jV(k:Nat):cl (ys k)=Ut (k % 2) 121:=by
 unfold ys;rcases(show k % 2=0\/k % 2=1 by lia)with e|e
 ·rw[e];decide +kernel
 ·rw[e];decide +kernel
theorem w9{b:Bool}{k:Nat}(hj:j < 1352)(hk:k < 1352)(h:nm z b j=nm z b k):j=k:=by
 have hl:∀i:Nat,(cl (core i)).length=3:=fun i=>by rw[wY];rfl
 have cinj:cl (core j)=cl (core k)->j % 2=k % 2->j=k:=fun e e0=>by
  rw[wY,wY]at e;injection e with e1 e2
  injection e2 with _ e3
  injection e3 with e3 _
  lia
 have e:=congrArg cl h;unfold nm at e;cases b with
 |true =>
  rw[if_pos rfl,if_pos rfl,yb,yb,yb,yb]at e;have el:=congrArg List.length e;rw[ub,ub,ub,ub,hl,hl,jV,jV,Uv,Uv]at el;rw[u7,u7]at e;exact cinj (List.append_inj_left e (by rw[hl,hl])) (by lia)
 |false =>
  rw[if_neg (by decide),if_neg (by decide),yb,yb,yb,yb]at e;have el:=congrArg List.length e;rw[ub,ub,ub,ub,hl,hl,jV,jV,Uv,Uv]at el;exact cinj (List.append_inj_right' e (by rw[hl,hl])) (by lia)
structure WI(K:uc)(st:Addr)(H H':Hp)(B:Nat)(z:Str)(b:Bool)(wl tl dl:Addr)(rm:Int)(T:List (Str×Nat×Nat))(D:List (Str×List Bool)):Prop where
 s0:∃B0,Sta K H st B0
 k:Kp st H H'
 s:Sta K H' st B
 w:H' wl=some (.lst [.str z,.bl b,.ref tl,.ref dl,.int 0,.int rm])
 t:∃ts,H' tl=some (.lst (ts.map V.ref))/\TsAt tgR H' T ts
 d:∃us,H' dl=some (.lst (us.map V.ref))/\TsAt dfR H' D us
 f1:H wl=none
 f2:H tl=none
 f3:H dl=none
 n1:wl≠tl
 n2:wl≠dl
 n3:tl≠dl
section
variable{st tl dl:Addr}{b:Bool}{rm:Int}{T:List (Str×Nat×Nat)}
theorem WI.by(h:WI K st H H' B z b wl tl dl rm T D)(k:∀c∈[wl,tl,dl],∀o,H' c=some o->H2 c=some o)(t:Tups H' H2)(kp:Kp st H H2)(s:Sta K H2 st B'):WI K st H H2 B' z b wl tl dl rm T D:=by
 obtain⟨ts,t1,t2⟩:=h.t;obtain⟨us,d1,d2⟩:=h.d;exact⟨h.s0,kp,s,k _ (by simp) _ h.w,⟨ts,k _ (by simp) _ t1,t2.keep fun _ _ z=>z.tk t⟩,⟨us,k _ (by simp) _ d1,d2.keep fun _ _ z=>z.tk t⟩,h.f1,h.f2,h.f3,h.n1,h.n2,h.n3⟩
theorem WI.ne(h:WI K st H H' B z b wl tl dl rm T D):∀c∈[wl,tl,dl],c≠st:=by
 intro c hc;obtain⟨B0,s0⟩:=h.s0;simp only[uq,Ui,or_false]at hc
 rcases hc with rfl|rfl|rfl
 ·exact s0.ne h.f1
 ·exact s0.ne h.f2
 ·exact s0.ne h.f3
theorem WI.go(h:WI K st H H' B z b wl tl dl rm T D)(k:Kp st H' H2)(s:Sta K H2 st B'):WI K st H H2 B' z b wl tl dl rm T D:=h.by (fun c hc o q=>k.k _ _ (h.ne c hc) q) (k.tups h.s) (h.k.trans k) s
theorem WI.same(h:WI K st H H' B z b wl tl dl rm T D)(s:Same H' H2):WI K st H H2 B z b wl tl dl rm T D:=h.go (.of s) (h.s.same s)
theorem WI.mono(h:WI K st H H' B z b wl tl dl rm T D)(l:B<=B'):WI K st H H' B' z b wl tl dl rm T D:=⟨h.s0,h.k,h.s.mono l,h.w,h.t,h.d,h.f1,h.f2,h.f3,h.n1,h.n2,h.n3⟩
theorem WI.new(h:WI K st H H' B z b wl tl dl rm T D)(hp:H' p=none):H p=none/\p∉[wl,tl,dl]:=by
 refine⟨h.k.free (h.s.ne hp) hp,fun hm=>?_⟩;obtain⟨ts,t1,t2⟩:=h.t;obtain⟨us,d1,d2⟩:=h.d;simp only[uq,Ui,or_false]at hm
 rcases hm with e|e|e
 ·rw[e,h.w]at hp;cases hp
 ·rw[e,t1]at hp;cases hp
 ·rw[e,d1]at hp;cases hp
theorem WI.put(h:WI K st H H' B z b wl tl dl rm T D){ys:List V}(hl:H' p=some (.lst xs))(hp:H p=none)(n:p∉[wl,tl,dl]):WI K st H (upd H' p (.lst ys)) B z b wl tl dl rm T D:=by
 obtain⟨B0,s0⟩:=h.s0;refine h.by (fun c hc o q=>by rw[zj (fun e=>n (by rw[<- e];exact hc))];exact q) (fun c xs q=>?_) (h.k.put hp) (s0.put hp h.k h.s);rw[zj (fun e=>by rw[e,hl]at q;cases q)];exact q
theorem WI.room(h:WI K st H H' B z b wl tl dl rm T D){rm':Int}:WI K st H (upd H' wl (.lst [.str z,.bl b,.ref tl,.ref dl,.int 0,.int rm'])) B z b wl tl dl rm' T D:=by
 obtain⟨B0,s0⟩:=h.s0;obtain⟨ts,t1,t2⟩:=h.t;obtain⟨us,d1,d2⟩:=h.d;have t:Tups H' (upd H' wl (.lst [.str z,.bl b,.ref tl,.ref dl,.int 0,.int rm'])):=fun c xs q=>by
  rw[zj (fun e=>by rw[e,h.w]at q;cases q)];exact q
 exact⟨h.s0,h.k.put h.f1,s0.put h.f1 h.k h.s,zg,⟨ts,by rw[zj (Ne.symm h.n1)];exact t1,t2.keep fun _ _ z=>z.tk t⟩,⟨us,by rw[zj (Ne.symm h.n2)];exact d1,d2.keep fun _ _ z=>z.tk t⟩,h.f1,h.f2,h.f3,h.n1,h.n2,h.n3⟩
theorem WI.addT(h:WI K st H H' B z b wl tl dl rm T D){tg:Str×Nat×Nat}(hp:tgR tg H' p)(e:H' tl=some (.lst (ts.map V.ref)))(et:TsAt tgR H' T ts):WI K st H (upd H' tl (.lst (ts.map V.ref++[.ref p]))) B z b wl tl dl rm (T++[tg]) D:=by
 obtain⟨B0,s0⟩:=h.s0;obtain⟨us,d1,d2⟩:=h.d;have t:Tups H' (upd H' tl (.lst (ts.map V.ref++[.ref p]))):=fun c xs q=>by
  rw[zj (fun x=>by rw[x,e]at q;cases q)];exact q
 exact⟨h.s0,h.k.put h.f2,s0.put h.f2 h.k h.s,by rw[zj h.n1];exact h.w,⟨ts++[p],by rw[zg,uh];rfl,(et.snoc hp).keep fun _ _ z=>z.tk t⟩,⟨us,by rw[zj (Ne.symm h.n3)];exact d1,d2.keep fun _ _ z=>z.tk t⟩,h.f1,h.f2,h.f3,h.n1,h.n2,h.n3⟩
theorem WI.addD(h:WI K st H H' B z b wl tl dl rm T D){df:Str×List Bool}(hp:dfR df H' p){us:List Addr}(e:H' dl=some (.lst (us.map V.ref)))(et:TsAt dfR H' D us):WI K st H (upd H' dl (.lst (us.map V.ref++[.ref p]))) B z b wl tl dl rm T (D++[df]):=by
 obtain⟨B0,s0⟩:=h.s0;obtain⟨ts,t1,t2⟩:=h.t;have t:Tups H' (upd H' dl (.lst (us.map V.ref++[.ref p]))):=fun c xs q=>by
  rw[zj (fun x=>by rw[x,e]at q;cases q)];exact q
 exact⟨h.s0,h.k.put h.f3,s0.put h.f3 h.k h.s,by rw[zj h.n2];exact h.w,⟨ts,by rw[zj h.n3];exact t1,t2.keep fun _ _ z=>z.tk t⟩,⟨us++[p],by rw[zg,uh];rfl,(et.snoc hp).keep fun _ _ z=>z.tk t⟩,h.f1,h.f2,h.f3,h.n1,h.n2,h.n3⟩
end
inductive spWorld(K:uc)(vs:List V)(H:Hp)(Q:VK)(e_3:XK):Prop
 |mk (st:Addr):(∃B:Nat,vs=[.ref st]/\Sta K H st B/\B+100 < LIM/\∀H' wl o (rm:Nat),Kp st H H'->Sta K H' st (B+100)->WgOk o->WlX H' wl o 0 rm->(o.T.length=4->∃tg,o.T[3]?=some tg/\1<=tg.2.1)->rm<=5->Q (.ref wl) H')->spWorld K vs H Q e_3
structure RmOk(R:List Nat):Prop where
 z:R[0]?=some 0
 n:∀x∈R,x<=9
 l:4<=R.length
 u:R.length<=15
 p:R.length=4->1<=R.getD 3 0
def tgs(z:Str)(b:Bool)(R:List Nat)(k:Nat):List (Str×Nat×Nat):=(uV k).map fun k=>(nm z b k,R.getD k 0,1+min (k / 3) 1)
theorem zb5(z:Str)(b:Bool)(R:List Nat)(k:Nat):tgs z b R (k+1)=tgs z b R k++[(nm z b k,R.getD k 0,1+min (k / 3) 1)]:=by
 unfold tgs;rw[List.range_succ,uh]
 rfl
theorem VG(z:Str)(b:Bool)(R:List Nat)(k:Nat):(tgs z b R k).length=k:=by
 unfold tgs;rw[ua,List.length_range]
theorem VH(z:Str)(b:Bool)(R:List Nat){k:Nat}(h:j < k):(tgs z b R k)[j]?=some (nm z b j,R.getD j 0,1+min (j / 3) 1):=by
 unfold tgs;rw[ug,List.getElem?_range h]
 rfl
theorem Qm(h:∀x∈R,x<=9)(j:Nat):R.getD j 0<=9:=by
 rw[UF];cases e:R[j]? with
 |none=>exact uF _
 |some x=>exact h x (uv e)
theorem zb6{b:Bool}(hz:z.length<=6)(hR:RmOk R)(hD:D.map (·.1)=[nm z b 2,nm z b 1,nm z b 0])(hl:∀d∈D,d.2.length<=3):WgOk ⟨z,b,tgs z b R R.length,D⟩:=by
 have l:=hR.l;refine⟨hz,fun t ht=>?_,?_,?_,?_,hl,?_⟩
 ·obtain⟨k,_,rfl⟩:=uD.mp ht
  exact Qm hR.n k
 ·refine⟨_,VH z b R (by lia),?_⟩
  show R.getD 0 0=0;rw[UF,hR.z]
  rfl
 ·show(tgs z b R R.length).length<=15
  rw[VG];exact hR.u
 ·show D.length=3
  have:=congrArg List.length hD
  rw[ua]at this;exact this
 ·show(D.map (·.1)).Nodup
  rw[hD];have e21:nm z b 2≠nm z b 1:=fun e=>by have:=w9 (by decide) (by decide) e;lia
  have e20:nm z b 2≠nm z b 0:=fun e=>by have:=w9 (by decide) (by decide) e;lia
  have e10:nm z b 1≠nm z b 0:=fun e=>by have:=w9 (by decide) (by decide) e;lia
  simp[e21,e20,e10]
theorem scWorld:FnScope ["_law_state","_law_world_here","_law_way","_law_rooms","_law_k","_law_modes"] ["_law_state"] (zp Yd):=.ok
theorem VI:(["_law_state","_law_world_here","_law_way","_law_rooms","_law_k","_law_modes","_law_j"]:LS).Nodup:=by decide +kernel
theorem VJ:(["_law_state","_law_world_here","_law_way","_law_rooms","_law_k","_law_modes","_law_own"]:LS).Nodup:=by decide +kernel
theorem VL(F:Fun K "_law_world" "_law_world" Yd f fd)(GD:Ca P w K mg base CX0 1 "_law_draw" lS1 (spDraw K))(GT:Ca P w K mg base CX0 2 "_law_stem" ["_law_state"] (spStem K))(GM:Ca P w K mg base CX0 1 "_law_name" lS5 spNm)(m_len:mg "len"=none)(m_range:mg "range"=none)(m_tuple:mg "tuple"=none)(m_min:mg "min"=none):FnOk P w K mg base CX0 3 f fd ["_law_state"] (spWorld K):=by
 refine F.by scWorld (fun vs H Q E h=>?_) (fun cdv A' outer s H vs Q E hr h=>?_)
 ·obtain⟨st,B,rfl,_⟩:=h
  rfl
 obtain⟨st,B,rfl,hS,hB,q⟩:=h;have hr1:Room 1 _:=hr.mono (by decide);refine⟨_,
  (zh (sE 1 scWorld.nd (zw yj (cA GT hr (jA1 (jv 0))) (zC (jA4 (zC zE) (zC zE) zn zn))))
  (zh (sE 2 scWorld.nd (cA GD hr1 (jA2 (jv 0) zn)))
  (zh (sE 3 scWorld.nd (zC (jA4 zn (zw zO zn (cA GD hr1 (jA2 (jv 0) zn))) (cA GD hr1 (jA2 (jv 0) zn)) (zw zO zn (cA GD hr1 (jA2 (jv 0) zn))))))
  (zh (zy (tN zD (jv 2) zn)
   (zh (sE 3 scWorld.nd (zw yj (zC (jA3 zn zn zn)) (Zf [4] [] rfl (zW rfl m_range (jA1 (zw zO zn (cA GD hr1 (jA2 (jv 0) zn))))) (fun _ _ _ _ _=>(gN 4 scWorld.nd)) (fun _ _ _ _ _=>zL) (fun _ _ _ _ _=>(cA GD hr1 (jA2 (jv 0) zn))))))
   (zk (xb zn (xD (jv 1) zn)))) zu)
  (zh (zy (jW.pt (yt (tN zD (jv 2) zn) (yv (tN zD (jv 2) zn))))
   (zk (xb (zw zO zn (cA GD hr1 (jA2 (jv 0) zn))) (xD (jv 3) zn))) zu)
  (zh (zy (tN zD (jv 2) zn)
   (zk (xb zn (xD (jv 1) zn))) zu)
  (zh (zM PassesOwn.never rfl (zW rfl m_range (jA1 (jL m_len (jv 3)))) (gN 4 scWorld.nd)
   (zk (zF (zV uk uy uz zG (xL 1) (jA1 (zr (jA3 (cA GM hr1 (jA2 (jv 1) (jv 4))) (xX z7 (jv 3) (jv 4)) (zw zO zn (ym (jD rfl) rfl m_min UL (jA2 (zw xf (jv 4) zn) zn))))))))))
  (zh (zM PassesOwn.never rfl (zW rfl m_range (jA1 zn)) (gN 4 scWorld.nd)
   (zh (ye ["_law_j"] (i:=5) scWorld.nd rfl (Or.inl rfl) rfl (zW rfl m_range (jA1 (cA GD hr1 (jA2 (jv 0) zn)))) (fun _ _ _ _ _=>(gN 6 VI)) (fun _ _ _ _ _=>zL) (fun _ _ _ _ _=>(xz xV (cA GD hr1 (jA2 (jv 0) zn)) zn (wB _))))
   (zh (zy (tN zD (jv 4) zn)
    (zk (ye ["_law_own"] (i:=5) scWorld.nd rfl (Or.inl rfl) rfl (zY (jv 5)) (fun _ _ _ _ _=>(gN 6 VJ)) (fun _ _ _ _ _=>zL) (fun _ _ _ _ _=>yA))) zu)
   (zk (zF (zV uk uy uz zG (xL 1) (jA1 (zr (jA2 (cA GM hr1 (jA2 (jv 1) (zw xc zn (jv 4)))) (zB zz rfl m_tuple ut (jA1 (jv 5))))))))))))
  (zk (zt (jv 1))))))))))),?_⟩
 have LM:LIM=4611686018427387904:=rfl;have sl':=zJ;refine(show ∀(v:TS)(D:Ends),(∀(H1:Hp)(z:Str)(b:Bool)(wl tl dl rl:Addr)(way:Int)(R:List Nat),z.length<=6->WI K st H H1 (B+12) z b wl tl dl 5 [] []->H1 rl=some (.lst (R.map fun x=>V.int ((x:Nat):Int)))->H rl=none->rl∉[wl,tl,dl]->RmOk R->v D [oR st,oR wl,some (.int way),oR rl,none,none] H1)->(tSeq _ (tSeq _ (tSeq _ v)):TS) D [oR st,none,none,none,none,none] H from ?a1) _ _ ?a2
 case a1 =>
  intro v D hV;refine(zf rfl ⟨st,B,rfl,hS,by lia,fun H1 r1 z b k1 S1 hz e1=>?_⟩);refine⟨sN0,fun tl g1=>⟨sN0,fun dl g2=>⟨sN4,fun l3 g3=>⟨r1,l3,(zv rfl rfl ⟨old g3 (old g2 (old g1 e1)),zg,sN6,fun wl g4=>?_⟩)⟩⟩⟩⟩;have s4:=(((zi g1 (.lst [])).new (o:=.lst []) g2).new (o:=.lst [.ref tl,.ref dl,.int 0,.int 5]) g3).new (o:=.lst ([.str z,.bl b]++[.ref tl,.ref dl,.int 0,.int 5])) g4;have n3:tl≠dl:=fun e=>by rw[<- e,zg]at g2;cases g2
  have n1:wl≠tl:=fun e=>by rw[e,old g3 (old g2 (zg (H:=H1) (a:=tl) (o:=.lst [])))]at g4;cases g4
  have n2:wl≠dl:=fun e=>by rw[e,old g3 (zg (H:=upd H1 tl (.lst [])) (a:=dl) (o:=.lst []))]at g4;cases g4
  have f2:H tl=none:=k1.free (S1.ne g1) g1;have g2':H1 dl=none:=ZM (zi g1 (.lst [])) g2;have f3:H dl=none:=k1.free (S1.ne g2') g2';have g4':H1 wl=none:=ZM (((zi g1 (.lst [])).new (o:=.lst []) g2).new (o:=.lst [.ref tl,.ref dl,.int 0,.int 5]) g3) g4;have f1:H wl=none:=k1.free (S1.ne g4') g4';have W4:WI K st H (upd (upd (upd (upd H1 tl (.lst [])) dl (.lst [])) l3 (.lst [.ref tl,.ref dl,.int 0,.int 5])) wl (.lst ([.str z,.bl b]++[.ref tl,.ref dl,.int 0,.int 5]))) (B+8) z b wl tl dl 5 [] []:=⟨⟨B,hS⟩,k1.trans (.of s4),S1.same s4,zg,⟨[],old g4 (old g3 (old g2 zg)),rfl,fun i a t h=>by simp at h⟩,⟨[],old g4 (old g3 zg),rfl,fun i a t h=>by simp at h⟩,f1,f2,f3,n1,n2,n3⟩;dsimp only
  generalize upd (upd (upd (upd H1 tl (.lst [])) dl (.lst [])) l3 (.lst [.ref tl,.ref dl,.int 0,.int 5])) wl (.lst ([.str z,.bl b]++[.ref tl,.ref dl,.int 0,.int 5]))=H4 at *;refine(zf rfl ⟨st,8,(zf rfl ⟨W4.s,by lia,by decide,fun H5 way k5 S5 _ _=>?_⟩)⟩);have W5:=W4.go k5 S5;refine(zf rfl ⟨st,3,(zf rfl ⟨S5,by lia,by decide,fun H6 r6 k6 S6 a0 a1=>(zv rfl rfl ?_)⟩)⟩);refine(zf rfl ⟨st,4,(zf rfl ⟨S6,by lia,by decide,fun H7 r7 k7 S7 b0 b1=>?_⟩)⟩);refine(zf rfl ⟨st,3,(zf rfl ⟨S7,by lia,by decide,fun H8 r8 k8 S8 c0 c1=>(zv rfl rfl ⟨sN4,fun rl g9=>?_⟩)⟩)⟩);have W8:=((W5.go k6 S6).go k7 S7).go k8 S8;obtain⟨h1,h2⟩:=W8.new g9;obtain⟨x6,rfl⟩:∃x:Nat,r6=(x:Nat):=⟨r6.toNat,by lia⟩;obtain⟨x7,rfl⟩:∃x:Nat,r7=(x:Nat):=⟨r7.toNat,by lia⟩;obtain⟨x8,rfl⟩:∃x:Nat,r8=(x:Nat):=⟨r8.toNat,by lia⟩;refine hV _ z b wl tl dl rl way [0,1+x6,x7,1+x8] hz ((W8.same (zi g9 _)).mono (by lia)) ?_ h1 h2 ⟨rfl,fun x hx=>?_,by show 4<=4;decide,by show 4<=15;decide,fun _=>by show 1<=1+x8;lia⟩
  ·rw[zg]
   show some (HO.lst [V.int 0,.int (1+((x6:Nat):Int)),.int ((x7:Nat):Int),.int (1+((x8:Nat):Int))])=some (.lst [.int ((0:Nat):Int),.int ((1+x6:Nat):Int),.int ((x7:Nat):Int),.int ((1+x8:Nat):Int)]);rw[show 1+((x6:Nat):Int)=((1+x6:Nat):Int) by lia,show 1+((x8:Nat):Int)=((1+x8:Nat):Int) by lia]
   rfl
  ·simp only[uq,Ui,or_false]at hx
   lia
 case a2 =>
 intro H1 z b wl tl dl rl way R hz W1 e1 f1 n1 hR;refine(show ∀(v:TS)(D:Ends),(∀(H1:Hp)(rl:Addr)(R:List Nat)(rm:Int),1<=rm->rm<=5->WI K st H H1 (B+40) z b wl tl dl rm [] []->H1 rl=some (.lst (R.map fun x=>V.int ((x:Nat):Int)))->H rl=none->rl∉[wl,tl,dl]->RmOk R->v D [oR st,oR wl,some (.int way),oR rl,none,none] H1)->(tSeq _ v:TS) D [oR st,oR wl,some (.int way),oR rl,none,none] H1 from ?b1) _ _ ?b2
 case b1 =>
  intro v D hV;refine(zf rfl ⟨rfl,(zf rfl (ite2 (fun _=>?_) (fun _=>nxtC (hV _ rl R 5 (by decide) (by decide) (W1.mono (by lia)) e1 f1 n1 hR))))⟩);refine⟨sN3,fun l3 g3=>?_⟩;have W3:=W1.same (zi g3 (.lst [.int 0,.int 1,.int 2]));have e3:=zg (H:=H1) (a:=l3) (o:=.lst [.int 0,.int 1,.int 2]);obtain⟨h3,h3'⟩:=W1.new g3;generalize upd H1 l3 (.lst [.int 0,.int 1,.int 2])=H3 at *;refine(zf rfl ⟨st,9,(zf rfl ⟨W3.s,by lia,by decide,fun H4 r4 k4 S4 a0 a1=>(zv rfl rfl (zf rfl ⟨by lia,by lia,?_⟩))⟩)⟩);have W4:=W3.go k4 S4;have l3s:l3≠st:=fun e=>by
   obtain⟨B0,s0⟩:=W1.s0;exact s0.ne h3 e
  have e4:=k4.k _ _ l3s e3;refine yL (n:=(1*4+r4).toNat) (fun i τ ys H'=>WI K st H H' (B+13+i) z b wl tl dl 5 [] []/\H' l3=some (.lst [.int 0,.int 1,.int 2])/\(∃y,τ=[oR st,oR wl,some (.int way),oR rl,y,none])/\∃ns:List Nat,ys=(ns.map fun x=>V.int ((x:Nat):Int))/\ns.length=i/\∀x∈ns,x<=9) ⟨W4,e4,⟨none,rfl⟩,[],rfl,rfl,fun x h=>by cases h⟩ ?_ ?_
  ·rintro i τ ys H5 hi ⟨W5,e5,⟨y,rfl⟩,ns,rfl,nl,hn⟩
   refine(zf rfl ⟨st,3,(zf rfl ⟨W5.s,by lia,by decide,fun H6 r6 k6 S6 b0 b1=>?_⟩)⟩);obtain⟨x6,rfl⟩:∃x:Nat,r6=(x:Nat):=⟨r6.toNat,by lia⟩;refine⟨by rw[ua];lia,W5.go k6 S6,k6.k _ _ l3s e5,⟨_,rfl⟩,ns++[x6],by rw[uh];rfl,by rw[ub,nl];rfl,fun x hx=>?_⟩;rcases uJ.mp hx with h|h
   ·exact hn x h
   ·rw[uE.mp h];lia
  ·rintro τ ys H5 ⟨W5,e5,_,ns,rfl,nl,hn⟩ l6 g6
   refine⟨l3,l6,(zv rfl rfl ⟨old g6 e5,zg,by rw[ua];show 3+ns.length<=_;lia,fun rl7 g7=>?_⟩)⟩;have W6:=W5.same (zi g6 (.lst (ns.map fun x=>V.int ((x:Nat):Int))));obtain⟨h7,h7'⟩:=W6.new g7;have W7:=W6.same (zi g7 (.lst ([.int 0,.int 1,.int 2]++ns.map fun x=>V.int ((x:Nat):Int))));have e7:=zg (H:=upd H5 l6 (.lst (ns.map fun x=>V.int ((x:Nat):Int)))) (a:=rl7) (o:=.lst ([.int 0,.int 1,.int 2]++ns.map fun x=>V.int ((x:Nat):Int)));dsimp only
   generalize upd (upd H5 l6 (.lst (ns.map fun x=>V.int ((x:Nat):Int)))) rl7 (.lst ([.int 0,.int 1,.int 2]++ns.map fun x=>V.int ((x:Nat):Int)))=H7 at *;refine(zf rfl ⟨wl,_,5,5,rfl,rfl,W7.w,rfl,?_⟩);have W8:=W7.room (rm':=1);have nw:rl7≠wl:=fun e=>h7' (by rw[e];simp);exact hV _ rl7 (0::1::2::ns) 1 (by decide) (by decide) (W8.mono (by lia)) (by rw[zj nw];exact e7) h7 h7' ⟨rfl,fun x hx=>by
    rcases uq.mp hx with h|hx
    ·lia
    ·rcases uq.mp hx with h|hx
     ·lia
     ·rcases uq.mp hx with h|hx
      ·lia
      ·exact hn x hx,by show 4<=ns.length+1+1+1;lia,by show ns.length+1+1+1<=15;lia,fun e=>absurd (show ns.length+1+1+1=4 from e) (by lia)⟩
 case b2 =>
 clear W1 e1 f1 n1 hR;clear H1 rl R;intro H1 rl R rm rm1 rm5 W1 e1 f1 n1 hR;refine(show ∀(v:TS)(D:Ends),(∀(H1:Hp)(R:List Nat),WI K st H H1 (B+41) z b wl tl dl rm [] []->H1 rl=some (.lst (R.map fun x=>V.int ((x:Nat):Int)))->RmOk R->v D [oR st,oR wl,some (.int way),oR rl,none,none] H1)->(tSeq _ v:TS) D [oR st,oR wl,some (.int way),oR rl,none,none] H1 from ?c1) _ _ ?c2
 case c1 =>
  intro v D hV;refine(show ∀(u:TS),(∀(D':Ends),D'.nx=v D->u D' [oR st,oR wl,some (.int way),oR rl,none,none] H1)->(tSeq (tIfS _ u ve) v:TS) D [oR st,oR wl,some (.int way),oR rl,none,none] H1 from ?d1) _ ?d2
  case d1 =>
   intro u hU;refine(zf rfl ⟨rfl,(zf rfl (ite2 (fun _=>iteT (hU _ rfl)) (fun _=>?_)))⟩);exact(zf rfl ⟨rfl,(zf rfl (ite2 (fun _=>hU _ rfl) (fun _=>nxtC (hV _ R (W1.mono (by lia)) e1 hR))))⟩)
  case d2 =>
   intro D' hD;have rls:rl≠st:=by
    obtain⟨B0,s0⟩:=W1.s0;exact s0.ne f1
   refine(zf rfl ⟨st,6,(zf rfl ⟨W1.s,by lia,by decide,fun H2 r2 k2 S2 a0 a1=>(zv rfl rfl ?_)⟩)⟩);have W2:=W1.go k2 S2;have e2:=k2.k _ _ rls e1;obtain⟨x2,rfl⟩:∃x:Nat,r2=(x:Nat):=⟨r2.toNat,by lia⟩;have l4:=hR.l;refine(zf rfl ⟨rl,_,3,3,rfl,rfl,e2,by rw[ua];unfold ixN;rw[if_pos (by decide),if_pos (by lia)];rfl,?_⟩);rw[hD];have es:((R.map fun x=>V.int ((x:Nat):Int)).set 3 (.int (4+((x2:Nat):Int))))=(R.set 3 (4+x2)).map fun x=>V.int ((x:Nat):Int):=by
    rw[show 4+((x2:Nat):Int)=((4+x2:Nat):Int) by lia];exact List.map_set.symm
   rw[es];refine hV _ (R.set 3 (4+x2)) (W2.put e2 f1 n1) zg ⟨?_,fun x hx=>?_,by rw[List.length_set];exact hR.l,by rw[List.length_set];exact hR.u,fun _=>by rw[UF,List.getElem?_set_self (by lia)];show 1<=4+x2;lia⟩
   ·rw[List.getElem?_set_ne (by decide)];exact hR.z
   ·rcases List.mem_or_eq_of_mem_set hx with h|h
    ·exact hR.n x h
    ·lia
 case c2 =>
 clear W1 e1 hR;clear H1 R;intro H1 R W1 e1 hR;refine(show ∀(v:TS)(D:Ends),(∀(H1:Hp)(rm:Int),1<=rm->rm<=5->WI K st H H1 (B+41) z b wl tl dl rm [] []->H1 rl=some (.lst (R.map fun x=>V.int ((x:Nat):Int)))->v D [oR st,oR wl,some (.int way),oR rl,none,none] H1)->(tSeq _ v:TS) D [oR st,oR wl,some (.int way),oR rl,none,none] H1 from ?e1) _ _ ?e2
 case e1 =>
  intro v D hV;refine(zf rfl ⟨rfl,(zf rfl (ite2 (fun _=>?_) (fun _=>nxtC (hV _ rm rm1 rm5 W1 e1))))⟩);refine(zf rfl ⟨wl,_,5,5,rfl,rfl,W1.w,rfl,?_⟩);have nw:rl≠wl:=fun e=>n1 (by rw[e];simp);exact hV _ 2 (by decide) (by decide) W1.room (by rw[zj nw];exact e1)
 case e2 =>
 clear W1 e1 rm1 rm5;clear H1 rm;intro H1 rm rm1 rm5 W1 e1;refine(show ∀(v:TS)(D:Ends),(∀(H1:Hp)(y:Option V),WI K st H H1 (B+41) z b wl tl dl rm (tgs z b R R.length) []->v D [oR st,oR wl,some (.int way),oR rl,y,none] H1)->(tSeq _ v:TS) D [oR st,oR wl,some (.int way),oR rl,none,none] H1 from ?f1) _ _ ?f2
 case f1 =>
  intro v D hV;have ru:=hR.u;refine(zf rfl ⟨rl,(zf rfl ⟨.inl (SqL.of e1),(zf rfl ⟨by rw[ua];lia,by rw[ua];lia,yT (n:=(((R.map fun x=>V.int ((x:Nat):Int)).length:Nat):Int).toNat) (fun i σ H'=>∃y,σ=[oR st,oR wl,some (.int way),oR rl,y,none]/\WI K st H H' (B+41) z b wl tl dl rm (tgs z b R i) []/\H' rl=some (.lst (R.map fun x=>V.int ((x:Nat):Int)))) ⟨none,rfl,W1,e1⟩ ?_ ?_⟩)⟩)⟩)
  ·rintro i σ H2 hi ⟨y,rfl,W2,e2⟩
   rw[ua]at hi;have hi':i < R.length:=by lia
   obtain⟨ts,t1,t2⟩:=W2.t;have tl24:ts.length<=15:=by rw[<- t2.1,VG];lia
   have ez:(0:Int)+((i:Nat):Int)=((i:Nat):Int):=by lia
   refine(zf rfl (ixL W2.w aI2 ⟨.inl ⟨rfl,_,SqL.of t1⟩,(zf rfl (zf rfl ⟨wl,z,b,_,i,by rw[ez];rfl,W2.w,hz,?_⟩))⟩));refine(zf rfl (zf rfl ⟨rl,_,_,.int ((R.getD i 0:Nat):Int),rfl,rfl,SqL.of e2,by rw[ez];exact zN (by rw[ug,UF,ui hi'];rfl),?_⟩));refine(zf rfl (zv rfl rfl ⟨⟨by decide,by decide⟩,_,_,rfl,_,_,rfl,rfl,sN3,fun p hp=>⟨tl,(zv rfl rfl ⟨old hp t1,by rw[ua];lia,?_⟩)⟩⟩));have em:(1:Int)+(if(1:Int) < (0+((i:Nat):Int)) / 3 then 1 else(0+((i:Nat):Int)) / 3)=((1+min (i / 3) 1:Nat):Int):=by
    split<;>lia
   dsimp only
   rw[em];have s3:=zi hp (.tup [.str (nm z b i),.int ((R.getD i 0:Nat):Int),.int ((1+min (i / 3) 1:Nat):Int)]);have W3:=W2.same s3;have np:rl≠tl:=fun e=>n1 (by rw[e];simp);refine(zf rfl ⟨?_,?_⟩)
   ·rw[zb5]
    exact W3.addT (tg:=(nm z b i,R.getD i 0,1+min (i / 3) 1)) zg (s3 _ _ t1) (t2.keep fun _ _ z=>z.tk (.of s3))
   ·rw[zj np]
    exact s3 _ _ e2
  ·rintro σ H2 ⟨y,rfl,W2,e2⟩
   rw[ua,u6]at W2;exact hV _ y W2
 case f2 =>
 clear W1 e1;clear H1;intro H1 y W1;refine(zf rfl ⟨by decide,by decide,yT (n:=(3:Int).toNat) (fun i σ H'=>∃(y1 y3:Option V)(D:List (Str×List Bool)),σ=[oR st,oR wl,some (.int way),oR rl,y1,y3]/\WI K st H H' (B+41+12*i) z b wl tl dl rm (tgs z b R R.length) D/\D.map (·.1)=([nm z b 2,nm z b 1,nm z b 0]).take i/\∀d∈D,d.2.length<=3) ⟨y,none,[],rfl,W1,rfl,fun d h=>by cases h⟩ ?_ ?_⟩)
 ·rintro i σ H2 hi ⟨y1,y3,D,rfl,W2,eD,hD⟩
  have hi:i < 3:=hi;refine(zf rfl ⟨st,4,(zf rfl ⟨W2.s,by lia,by decide,fun H4 r4 k4 S4 a0 a1=>(zf rfl ⟨by lia,by lia,?_⟩)⟩)⟩);have W4:=W2.go k4 S4;refine yL (n:=r4.toNat) (fun j τ ys H'=>WI K st H H' (B+41+12*i+1+j) z b wl tl dl rm (tgs z b R R.length) D/\(∃y,τ=[oR st,oR wl,some (.int way),oR rl,some (.int (0+(i:Nat))),y3,y])/\∃ms:List Bool,ys=ms.map V.bl/\ms.length=j) ⟨W4,⟨none,rfl⟩,[],rfl,rfl⟩ ?_ ?_
  ·rintro j τ ys H5 hj ⟨W5,⟨y,rfl⟩,ms,rfl,ml⟩
   refine(zf rfl ⟨st,3,(zf rfl ⟨W5.s,by lia,by decide,fun H6 r6 k6 S6 b0 b1=>(zv rfl rfl ⟨by rw[ua];lia,W5.go k6 S6,⟨_,rfl⟩,ms++[decide (0 < r6)],by rw[uh];rfl,by rw[ub,ml];rfl⟩)⟩)⟩)
  ·rintro τ ys H5 ⟨W5,_,ms,rfl,ml⟩ l6 g6
   have W6:=(W5.same (zi g6 (.lst (ms.map V.bl)))).mono (show _<=B+41+12*(i+1) by lia);have e6:=zg (H:=H5) (a:=l6) (o:=.lst (ms.map V.bl));have m9:ms.length<=3:=by lia
   dsimp only
   generalize upd H5 l6 (.lst (ms.map V.bl))=H6 at *;refine(show ∀(v:TS)(D':Ends),(∀(H7:Hp)(l7:Addr)(ms:List Bool),ms.length<=3->WI K st H H7 (B+41+12*(i+1)) z b wl tl dl rm (tgs z b R R.length) D->H7 l7=some (.lst (ms.map V.bl))->v D' [oR st,oR wl,some (.int way),oR rl,some (.int (0+(i:Nat))),oR l7] H7)->(tSeq _ v:TS) D' [oR st,oR wl,some (.int way),oR rl,some (.int (0+(i:Nat))),oR l6] H6 from ?g1) _ _ ?g2
   case g1 =>
    intro v D' hV;refine(zf rfl ⟨rfl,(zf rfl (ite2 (fun _=>?_) (fun _=>nxtC (hV _ l6 ms m9 W6 e6))))⟩);refine(zf rfl ⟨l6,rfl,⟨_,SqL.of e6⟩,yF (xs:=ms.map V.bl) (fun j τ ys H'=>H6=H'/\(∃y,τ=[oR st,oR wl,some (.int way),oR rl,some (.int (0+(i:Nat))),oR l6,y])/\∃ns:List Bool,ys=ns.map V.bl/\ns.length=j) ⟨rfl,⟨none,rfl⟩,[],rfl,rfl⟩ (fun i τ ys H' _ h=>by rw[<- h.1];exact SqL.of e6) ?_ ?_⟩)
    ·rintro j v τ ys H' hv ⟨rfl,⟨y,rfl⟩,ns,rfl,nl⟩
     have hj:=(ue.mp hv).1;rw[ua]at hj;exact⟨by rw[ua];lia,rfl,⟨_,rfl⟩,ns++[true],by rw[uh];rfl,by rw[ub,nl];rfl⟩
    ·rintro τ ys H' ⟨rfl,_,ns,rfl,nl⟩ l7 g7
     rw[ua]at nl;exact hV _ l7 ns (by lia) (W6.same (zi g7 _)) zg
   case g2 =>
   clear W6 e6 m9 ml W5;intro H7 l7 ms m9 W7 e7;obtain⟨us,u1,u2⟩:=W7.d;have lD:D.length=i:=by
    have:=congrArg List.length eD
    rw[ua,uH]at this
    have:min i [nm z b 2,nm z b 1,nm z b 0].length=i:=by show min i 3=i;lia
    lia
   have ul:us.length<=3:=by rw[<- u2.1];lia
   refine(zf rfl (ixL W7.w aI3 ⟨.inl ⟨rfl,_,SqL.of u1⟩,(zf rfl (zf rfl (zv rfl rfl ⟨wl,z,b,_,2-i,?_,W7.w,hz,?_⟩)))⟩))
   ·show[V.ref wl,V.int (2-(0+((i:Nat):Int)))]=_
    rw[show(2:Int)-(0+((i:Nat):Int))=((2-i:Nat):Int) by lia]
   refine(zf rfl ⟨l7,(zf rfl (.inl ⟨SqL.of e7,fun q1 h1=>⟨sN2,fun q2 h2=>⟨dl,(zv rfl rfl ⟨old h2 (old h1 u1),by rw[ua];lia,?_⟩)⟩⟩⟩))⟩);have s8:=(zi h1 (.tup (ms.map V.bl))).new (o:=.tup [.str (nm z b (2-i)),.ref q1]) h2;have W8:=W7.same s8;refine⟨_,_,D++[(nm z b (2-i),ms)],rfl,W8.addD (df:=(nm z b (2-i),ms)) ⟨q1,zg,old h2 zg⟩ (s8 _ _ u1) (u2.keep fun _ _ z=>z.tk (.of s8)),?_,fun d hd=>?_⟩
   ·rw[uh,eD]
    have a:i=0\/i=1\/i=2:=by lia
    rcases a with rfl|rfl|rfl<;>rfl
   ·rcases uJ.mp hd with h|h
    ·exact hD d h
    ·rw[uE.mp h];exact m9
 ·rintro σ H2 ⟨y1,y3,D,rfl,W2,eD,hD⟩
  obtain⟨ts,t1,t2⟩:=W2.t;obtain⟨us,u1,u2⟩:=W2.d;have er:rm=((rm.toNat:Nat):Int):=(Int.toNat_of_nonneg (by lia)).symm;have W2w:=W2.w;rw[er]at W2w;refine(zf rfl (q _ wl ⟨z,b,tgs z b R R.length,D⟩ rm.toNat W2.k (W2.s.mono (by show B+41+12*3<=_;lia)) (zb6 hz hR eD hD) ⟨tl,dl,ts,us,W2w,t1,t2,u1,u2⟩ (fun e=>?_) (by lia)));have e:(tgs z b R R.length).length=4:=e;rw[VG]at e;exact⟨_,VH z b R (by lia),hR.p e⟩
end
end GN
namespace L2
open PySem PySem.Spec PyProof.Rows
theorem Qn:jCa X (.type "int") (fun xs H Q=>(∃i,xs=[.int i]/\Q (.int i) H)\/∃k,xs=[.bl k]/\Q (.int (if k then 1 else 0)) H):=⟨Xn⟩
end L2
namespace GN
open PySem L2 K11
structure DfW(d:Df):Prop where
 an:AnOk d
 a:∀k∈d.b.atk,k=""
 m:∀q∈d.b.mks,q.2=""
 dp:d.b.dp+d.b.cd<=160
 l:d.b.pl
theorem DfW.of{g:Str}{os:List Bool}{b:Bd}{d s c:Nat}(h:RG b d s c)(hp:ps.length<=1000)(h1:d+c<=160)(h2:2 ^ c*s<=1000000)(h3:s<=100000):DfW ⟨g,ps,os,b⟩:=by
 have a1:=h.dp;have a2:=h.sz;have a3:=h.cd;have a4:=h.bn;exact⟨⟨hp,by show b.binds.length<=_;lia,uC (Nat.mul_le_mul (Uw (by decide) a3) a2) h2⟩,h.a,h.m,by show b.dp+b.cd<=_;lia,h.l⟩
theorem WlX.setA{K:uc}{st:Addr}{o:Wg}{a r a':Nat}(h:WlX H wl o a r)(S:Sta K H st B):∃xs,H wl=some (.lst xs)/\ixN xs.length 4=some 4/\WlX (upd H wl (.lst (xs.set 4 (.int (a':Nat))))) wl o a' r/\Sta K (upd H wl (.lst (xs.set 4 (.int (a':Nat))))) st B/\Kw st wl H (upd H wl (.lst (xs.set 4 (.int (a':Nat))))):=by
 obtain⟨tl,dl,h1,h2,h3,h4⟩:=h.put S (a':=a');exact⟨_,h1,rfl,h2,h3,h4⟩
def IsKn(H:Hp)(p:Addr):Prop:=∃pk v xs,H p=some (.tup [.ref pk,v])/\H pk=some (.tup xs)
inductive spCodeW(K:uc)(vs:List V)(H:Hp)(Q:VK)(e_3:XK):Prop
 |mk (st:Addr) (wl:Addr) (o:Wg) (a:Nat) (r:Nat) (B:Nat) (rm:Nat):(∃bb:Nat,vs=[.ref st,.ref wl,.int (rm:Nat)]/\bB 5+200<=bb/\WgOk o/\WlX H wl o a r/\(o.T.length=4->∃tg,o.T[3]?=some tg/\1<=tg.2.1)/\rm<=5/\Sta K H st B/\B+3*bb+2000 < LIM/\∀H' p ds,Kw st wl H H'->Sta K H' st (B+3*bb)->(∃a',WlX H' wl o a' r)->IsCode H' ds p->IsKn H' p->ds.length<=3->(∀d∈ds,DfW d)->Q (.ref p) H')->spCodeW K vs H Q e_3
theorem ZO{z:Str}{b:Bool}:∀{n:Nat},n<=1000->((uV n).map fun k=>nm z b k).Nodup
 |0,_=>List.nodup_nil
 |n+1,h=>by
  rw[List.range_succ,uh,UM];refine⟨ZO (by lia),by simp,fun x hx y hy e=>?_⟩;obtain⟨i,hi,rfl⟩:=uD.mp hx;rw[List.mem_range]at hi;have hy:y=nm z b n:=by simpa using hy
  rw[hy]at e
  have:=w9 (by lia) (by lia) e
  lia
section
variable{K:uc}
theorem scLCode:FnScope ["_law_state","_law_world_here","_law_room","_law_defs","_law_name_here","_law_modes","_law_params","_law_mine","_law_lent","_law_body_here","_law_some_here"] lS14 (zp Yh):=.ok
theorem VM:(["_law_state","_law_world_here","_law_room","_law_defs","_law_name_here","_law_modes","_law_params","_law_mine","_law_lent","_law_body_here","_law_some_here","_law_k"]:LS).Nodup:=by decide +kernel
theorem wv:(["_law_state","_law_world_here","_law_room","_law_defs","_law_name_here","_law_modes","_law_params","_law_mine","_law_lent","_law_body_here","_law_some_here","_law_param","_law_own"]:LS).Nodup:=by decide +kernel
theorem vJ:(["_law_state","_law_world_here","_law_room","_law_defs","_law_name_here","_law_modes","_law_params","_law_mine","_law_lent","_law_body_here","_law_some_here","_law_tag","_law_size","_law_kind"]:LS).Nodup:=by decide +kernel
theorem VN(F:Fun K "_law_code" "_law_code" Yh f fd)(GD:Ca P w K mg base CX0 1 "_law_draw" lS1 (spDraw K))(GM:Ca P w K mg base CX0 1 "_law_name" lS5 spNm)(GC:Ca P w K mg base CX0 4 "_law_chain" lS12 (spChain K))(GB:Ca P w K mg base CX0 20 "_law_body" lS0 (spBodyW K 5))(m_len:mg "len"=none)(m_range:mg "range"=none)(m_tuple:mg "tuple"=none)(m_zip:mg "zip"=none)(m_int:mg "int"=none):FnOk P w K mg base CX0 21 f fd lS14 (spCodeW K):=by
 refine F.by scLCode (fun vs H Q E h=>?_) (fun cdv A' outer s H vs Q E hr h=>?_)
 ·obtain⟨st,wl,o,a,r,B,rm,bb,rfl,_⟩:=h
  rfl
 obtain⟨st,wl,o,a0,r,B,rm,bb,rfl,hbb,hok,hw,hT4,hrm,hS,hB,q⟩:=h;have hr1:Room 1 _:=hr.mono (by decide);have hr4:Room 4 _:=hr.mono (by decide);refine⟨_,
  (zh (sE 3 scLCode.nd (zC zE))
  (zh (zM PassesOwn.never rfl (zY (xL 1)) (yR rfl (zA (gN 4 scLCode.nd) (zA (gN 5 scLCode.nd) yf)))
   (zh (xb (zw jm (zB Qn rfl m_int PyProof.Rows.boot_int (jA1 (xz zD (jv 2) zn (wB _)))) (zw zO zn (cA GD hr1 (jA2 (jv 0) zn)))) (xD (jv 1) zn))
   (zh (ye ["_law_k"] (i:=6) scLCode.nd rfl (Or.inl rfl) rfl (zW rfl m_range (jA1 (jL m_len (jv 5)))) (fun _ _ _ _ _=>(gN 11 VM)) (fun _ _ _ _ _=>zL) (fun _ _ _ _ _=>(cA GM hr1 (jA2 (jv 1) (jv 11)))))
   (zh (ye ["_law_param","_law_own"] (i:=7) scLCode.nd rfl (Or.inl rfl) rfl (vk rfl m_zip (jA2 (jv 6) (jv 5))) (fun _ _ _ _ _=>(wW K (n:=2) rfl (zA (gN 11 wv) (zA (gN 12 wv) yf)))) (fun _ _ _ _ _=>(xA (ya (jv 12)))) (fun _ _ _ _ _=>(jv 11)))
   (zh (ye ["_law_param","_law_own"] (i:=8) scLCode.nd rfl (Or.inl rfl) rfl (vk rfl m_zip (jA2 (jv 6) (jv 5))) (fun _ _ _ _ _=>(wW K (n:=2) rfl (zA (gN 11 wv) (zA (gN 12 wv) yf)))) (fun _ _ _ _ _=>(xA (yQ (ya (jv 12))))) (fun _ _ _ _ _=>(jv 11)))
   (zh (zy (jW.pt (yD (tN (Z7 hr1) (jv 7) (zC zE)) (yD (tN zD (jL m_len (xL 1)) zn) (yG (tN zD (cA GD hr1 (jA2 (jv 0) zn)) zn)))))
    (zk (sE 9 scLCode.nd (cA GC hr4 (jA4 (jv 0) (jv 7) (jL m_len (jv 6)) (jv 1)))))
    (zk (sE 9 scLCode.nd (cA GB hr (jA6 (jv 0) (jv 7) (jv 8) (jL m_len (jv 6)) (jv 2) (jv 1))))))
   (zk (zF (zV uk uy uz zG (jv 3) (jA1 (zr (jA4 (jv 4) (zB zz rfl m_tuple ut (jA1 (jv 6))) (jv 5) (jv 9)))))))))))))
  (zh (ye ["_law_tag","_law_size","_law_kind"] (i:=10) scLCode.nd rfl (Or.inl rfl) rfl (zY (xL 1)) (fun _ _ _ _ _=>(wW K (n:=3) rfl (zA (gN 11 vJ) (zA (gN 12 vJ) (zA (gN 13 vJ) yf))))) (fun _ _ _ _ _=>zL) (fun _ _ _ _ _=>(zr (jA2 (jv 11) (jv 12)))))
  (zk (zt (zr (jA2 (zr (jA2 (zB zz rfl m_tuple ut (jA1 (zX YL (jv 10) yc (yd zn)))) (zB zz rfl m_tuple ut (jA1 (zX YL (jv 10) (yd zn) yc))))) (zB zz rfl m_tuple ut (jA1 (jv 3)))))))))),?_⟩
 have LM:LIM=4611686018427387904:=rfl;have sl':=zJ;have b1000:=(ZL 5).2.2;obtain⟨tl,dl,ts,us,x1,x2,x3,x4,x5⟩:=id hw;have ul:us.length=3:=by rw[<- x5.1];exact hok.Dn
 have dls:=hS.neR x4;have dlw:=hw.neR x4;refine(show ∀(v:TS)(D:Ends),(∀(H1:Hp)(ld:Addr)(os:List Addr)(ds:List Df)(y4 y5 y6 y7 y8 y9:Option V),Kw st wl H H1->Sta K H1 st (B+3*bb)->(∃a',WlX H1 wl o a' r)->H1 ld=some (.lst (os.map V.ref))->IsDfs H1 ds os->ds.length<=3->(∀d∈ds,DfW d)->v D [oR st,oR wl,some (.int (rm:Nat)),oR ld,y4,y5,y6,y7,y8,y9,none] H1)->(tSeq _ (tSeq _ v):TS) D [oR st,oR wl,some (.int (rm:Nat)),none,none,none,none,none,none,none,none] H from ?a1) _ _ ?a2
 case a1 =>
  intro v D hV;refine⟨sN0,fun ld gd=>?_⟩;have s1:=zi gd (.lst []);have e1:=zg (H:=H) (a:=ld) (o:=.lst []);have w1:=hw.kp hS (Kp.of s1);have S1:=hS.same s1;have lds:=hS.ne gd;have ldw:ld≠wl:=fun e=>by rw[e,x1]at gd;cases gd
  dsimp only
  generalize upd H ld (.lst [])=H1 at *;refine(zf rfl (ixL (s1 _ _ x1) aI3 ⟨dl,rfl,⟨_,SqL.of (s1 _ _ x4)⟩,yz (xs:=us.map V.ref) (fun i σ H'=>∃(os:List Addr)(ds:List Df)(y4 y5 y6 y7 y8 y9:Option V),σ=[oR st,oR wl,some (.int (rm:Nat)),oR ld,y4,y5,y6,y7,y8,y9,none]/\Kw st wl H H'/\Sta K H' st (B+i*bb)/\(∃a',WlX H' wl o a' r)/\H' ld=some (.lst (os.map V.ref))/\IsDfs H' ds os/\ds.length=i/\∀d∈ds,DfW d) ⟨[],[],none,none,none,none,none,none,rfl,.of s1,S1.mono (by lia),⟨_,w1⟩,e1,⟨rfl,fun i d o h=>by simp at h⟩,rfl,fun d h=>by cases h⟩ (fun i σ H' _ h=>?_) ?_ ?_⟩))
  ·obtain⟨_,_,_,_,_,_,_,_,_,k,_⟩:=h
   exact SqL.of (k.k _ _ dls dlw x4)
  ·rintro i v σ H2 hv ⟨os,ds,y4,y5,y6,y7,y8,y9,rfl,k2,S2,⟨a2,w2⟩,e2,I2,dl2,hG⟩
   obtain⟨t,ht,rfl⟩:=L2.gM hv;have hi:i < 3:=by have:=(ue.mp ht).1;lia
   obtain⟨⟨g,ms⟩,ed,qm,d1,d2⟩:=x5.at ht;have dm:=uv ed;have lms:ms.length<=3:=hok.D _ dm;have im:(i+1)*bb=i*bb+bb:=Nat.succ_mul _ _;have i3:(i+1)*bb<=3*bb:=uN _ (by lia);have t2:=k2.tups hS hw;have od:os.length=i:=by have:=I2.1;lia
   refine⟨t,(zf rfl ⟨SqT.of (t2 _ _ d1),rfl,_,_,rfl,_,_,rfl,rfl,?_⟩)⟩;refine cut4 fun r1_ hr1_=>?_;refine(zf rfl ⟨rfl,.inr (zf rfl ?_)⟩);refine(zf rfl ⟨st,25,(zf rfl ⟨S2,by lia,by decide,fun H5 r5 k5 S5 a0 a1=>(zv rfl rfl (zv rfl rfl ⟨.inl ⟨by split<;>decide,by split<;>decide⟩,?_⟩))⟩)⟩);have w5:=w2.kp S2 k5;obtain⟨m5,hm5,m34⟩:∃m5:Nat,(if decide (V.int ((rm:Nat):Int)=V.int 2)=true then(1:Int)else 0)*(10+r5)=((m5:Nat):Int)/\m5<=34:=by
    cases decide (V.int ((rm:Nat):Int)=V.int 2)with
    |true=>exact⟨(10+r5).toNat,by rw[if_pos rfl];lia,by lia⟩
    |false=>exact⟨0,by rw[if_neg (by decide)];lia,by lia⟩
   dsimp only
   rw[hm5];obtain⟨xs6,z1,z2,w6,S6,k6⟩:=w5.setA S5 (a':=m5);refine(zf rfl ⟨wl,xs6,4,4,rfl,rfl,z1,z2,?_⟩);have k26:Kw st wl H2 (upd H5 wl (.lst (xs6.set 4 (.int ((m5:Nat):Int))))):=(Kw.kp k5).trans k6;dsimp only
   generalize upd H5 wl (.lst (xs6.set 4 (.int ((m5:Nat):Int))))=H6 at *;clear k5 k6 z1 z2 w5 S5 hm5;have t26:=k26.tups S2 w2;have t06:=t2.trans t26;have qm6:=t06 _ _ d2;have e6:=k26.k _ _ lds ldw e2;have I6:=I2.keep t26;dsimp only at qm6
   obtain⟨tl6,dl6,ts6,us6,x61,x62,x63,_⟩:=id w6;refine(zf rfl ⟨qm,(zf rfl ⟨.inr (SqT.of qm6),(zf rfl ⟨by rw[ua];lia,by rw[ua];lia,yL (n:=(((ms.map V.bl).length:Nat):Int).toNat) (fun j τ ys H'=>H6=H'/\(∃y,τ=[oR st,oR wl,some (.int (rm:Nat)),oR ld,some (.str g),oR qm,y6,y7,y8,y9,none,y])/\ys=((uV j).map fun k=>nm o.z o.b k).map V.str) ⟨rfl,⟨none,rfl⟩,rfl⟩ ?_ ?_⟩)⟩)⟩)
   ·rintro j τ ys H' hj ⟨rfl,⟨y,rfl⟩,rfl⟩
    rw[ua]at hj;refine(zf rfl (zf rfl ⟨wl,o.z,o.b,_,j,?_,x61,hok.z,by rw[ua,ua,List.length_range];lia,rfl,⟨_,rfl⟩,by rw[List.range_succ,uh,uh];rfl⟩));show[V.ref wl,V.int (0+((j:Nat):Int))]=_;rw[show(0:Int)+((j:Nat):Int)=((j:Nat):Int) by lia]
   rintro τ ys H' ⟨rfl,_,rfl⟩ lp gp;have ep:(((ms.map V.bl).length:Nat):Int).toNat=ms.length:=by rw[ua];lia
   rw[ep];have nd:=ZO (z:=o.z) (b:=o.b) (n:=ms.length) (by lia);have pl:((uV ms.length).map fun k=>nm o.z o.b k).length=ms.length:=by rw[ua,List.length_range]
   generalize ((uV ms.length).map fun k=>nm o.z o.b k)=ps at *;have s7:=zi gp (.lst (ps.map V.str));have e7:=zg (H:=H6) (a:=lp) (o:=.lst (ps.map V.str));have qm7:=s7 _ _ qm6;dsimp only
   generalize upd H6 lp (.lst (ps.map V.str))=H7 at *;have pm:(ps.map V.str).length=(ms.map V.bl).length:=by rw[ua,ua,pl]
   refine(zf rfl (zf rfl ⟨lp,qm,true,false,_,_,rfl,SqK.l e7,SqK.t qm7,Ym (k:=true) (m:=false) (xs:=ps.map V.str) (ys:=ms.map V.bl) pm (fun i τ zs H'=>Same H7 H'/\(∃y y',τ=[oR st,oR wl,some (.int (rm:Nat)),oR ld,some (.str g),oR qm,oR lp,y7,y8,y9,none,y,y'])/\∃ws:LS,zs=ws.map V.str/\ws.length<=i) ⟨Same.refl _,⟨none,none,rfl⟩,[],rfl,ud _⟩ (fun i τ zs H' _ h=>⟨SqK.l (h.1 _ _ e7),SqK.t (h.1 _ _ qm7)⟩) ?_ ?_⟩))
   ·rintro j x y T τ zs H' hx hy hT ⟨s8,⟨y1,y2,rfl⟩,ws,rfl,wl8⟩
    rw[ug]at hx hy;obtain⟨n,hn',rfl⟩:=uj.mp hx;obtain⟨b,hb',rfl⟩:=uj.mp hy;have hj:j < ms.length:=(ue.mp hb').1;exact⟨T,(zf rfl ⟨SqT.of zg,rfl,_,_,rfl,_,_,rfl,rfl,(zf rfl ⟨b,rfl,ite2 (fun _=>(zf rfl ⟨by rw[ua];lia,s8.new hT,⟨_,_,rfl⟩,ws++[n],by rw[uh];rfl,by rw[ub];show ws.length+1<=_;lia⟩)) (fun _=>⟨s8.new hT,⟨_,_,rfl⟩,ws,rfl,by lia⟩)⟩)⟩)⟩
   rintro τ zs H8 ⟨s8,_,n0,rfl,nl0⟩ lm gm;rw[ua,pl]at nl0;have s9:=s8.new (o:=.lst (n0.map V.str)) gm;have e9:=zg (H:=H8) (a:=lm) (o:=.lst (n0.map V.str));have e79:=s9 _ _ e7;have qm9:=s9 _ _ qm7;dsimp only
   generalize upd H8 lm (.lst (n0.map V.str))=H9 at *;refine(zf rfl (zf rfl ⟨lp,qm,true,false,_,_,rfl,SqK.l e79,SqK.t qm9,Ym (k:=true) (m:=false) (xs:=ps.map V.str) (ys:=ms.map V.bl) pm (fun i τ zs H'=>Same H9 H'/\(∃y y',τ=[oR st,oR wl,some (.int (rm:Nat)),oR ld,some (.str g),oR qm,oR lp,oR lm,y8,y9,none,y,y'])/\∃ws:LS,zs=ws.map V.str/\ws.length<=i) ⟨Same.refl _,⟨none,none,rfl⟩,[],rfl,ud _⟩ (fun i τ zs H' _ h=>⟨SqK.l (h.1 _ _ e79),SqK.t (h.1 _ _ qm9)⟩) ?_ ?_⟩))
   ·rintro j x y T τ zs H' hx hy hT ⟨s8,⟨y1,y2,rfl⟩,ws,rfl,wl8⟩
    rw[ug]at hx hy;obtain⟨n,hn',rfl⟩:=uj.mp hx;obtain⟨b,hb',rfl⟩:=uj.mp hy;have hj:j < ms.length:=(ue.mp hb').1;exact⟨T,(zf rfl ⟨SqT.of zg,rfl,_,_,rfl,_,_,rfl,rfl,(zf rfl ⟨b,rfl,ite2 (fun _=>(zf rfl ⟨by rw[ua];lia,s8.new hT,⟨_,_,rfl⟩,ws++[n],by rw[uh];rfl,by rw[ub];show ws.length+1<=_;lia⟩)) (fun _=>⟨s8.new hT,⟨_,_,rfl⟩,ws,rfl,by lia⟩)⟩)⟩)⟩
   rintro τ zs H10 ⟨s10,_,n1,rfl,nl1⟩ ll gl;rw[ua,pl]at nl1;have s11:=s10.new (o:=.lst (n1.map V.str)) gl;have e11:=zg (H:=H10) (a:=ll) (o:=.lst (n1.map V.str));dsimp only
   generalize upd H10 ll (.lst (n1.map V.str))=H11 at *;have e911:=s11 _ _ e9;have e711:=s11 _ _ e79;have s611:=(s7.trans s9).trans s11;have w11:=w6.kp S6 (Kp.of s611);have S11:=S6.same s611;have e6d:=s611 _ _ e6;have I11:=I6.keep (.of s611);have qm11:=s611 _ _ qm6;have k11:Kw st wl H H11:=k2.trans (k26.trans (.of s611));have tl11:=s611 _ _ x62;have wl11:=s611 _ _ x61;have Tn6:=x63.1;subst hr1_;refine(show ∀(u:TS)(D:Ends),(∀(H13:Hp)(pb:Addr)(b:Bd)(m13:Nat),Kw st wl H11 H13->Sta K H13 st (B+i*bb+bb)->WlX H13 wl o m13 r->IsBd H13 b pb->DfW ⟨g,ps,ms,b⟩->u D [oR st,oR wl,some (.int (rm:Nat)),oR ld,some (.str g),oR qm,oR lp,oR lm,oR ll,oR pb,none] H13)->(tSeq (tIfS _ _ _) u:TS) D [oR st,oR wl,some (.int (rm:Nat)),oR ld,some (.str g),oR qm,oR lp,oR lm,oR ll,y9,none] H11 from ?key) _ _ ?rst
   case key =>
    intro u D hV;refine(show ∀(x y:TS),(0 < n0.length->o.T.length=4->∀(D':Ends)(H12:Hp),D'.nx=u D->Kp st H11 H12->Sta K H12 st (B+i*bb+2)->x D' [oR st,oR wl,some (.int (rm:Nat)),oR ld,some (.str g),oR qm,oR lp,oR lm,oR ll,y9,none] H12)->(∀(D':Ends)(H12:Hp),D'.nx=u D->Kp st H11 H12->Sta K H12 st (B+i*bb+2)->y D' [oR st,oR wl,some (.int (rm:Nat)),oR ld,some (.str g),oR qm,oR lp,oR lm,oR ll,y9,none] H12)->(tSeq (tIfS _ x y) u:TS) D [oR st,oR wl,some (.int (rm:Nat)),oR ld,some (.str g),oR qm,oR lp,oR lm,oR ll,y9,none] H11 from ?k1) _ _ ?k2 ?k3
    case k1 =>
     intro x y hx hy;refine(zf rfl ⟨sN0,fun l3 f3=>?_⟩);have s3:=zi (o:=.lst []) f3;refine⟨lm,l3,(zf rfl ⟨rfl,SqL.of (s3 _ _ e911),SqL.of zg,(zf rfl ?_)⟩)⟩;have S3:=S11.same s3;refine ite2 (fun c=>?_) (fun c=>iteF (hy _ _ rfl (.of s3) (S3.mono (by lia))));have c0:0 < n0.length:=by
      cases n0 with
      |nil=>exact absurd c (by decide)
      |cons a l=>exact Nat.succ_pos _
     refine(zf rfl (ixL (s3 _ _ wl11) aI2 ⟨tl6,(zf rfl ⟨.inl (SqL.of (s3 _ _ tl11)),rfl,(zf rfl ?_)⟩)⟩));refine ite2 (fun c2=>?_) (fun c2=>iteF (hy _ _ rfl (.of s3) (S3.mono (by lia))));have c4:o.T.length=4:=by
      rw[decide_eq_true_eq,ua]at c2
      have:=V.int.inj c2
      lia
     refine(zf rfl ⟨st,3,(zf rfl ⟨S3,by lia,by decide,fun H12 r12 k12 S12 _ _=>⟨rfl,(zf rfl ?_)⟩⟩)⟩);exact ite2 (fun _=>hx c0 c4 _ _ rfl ((Kp.of s3).trans k12) S12) (fun _=>hy _ _ rfl ((Kp.of s3).trans k12) S12)
    case k2 =>
     intro c0 c4 D' H12 hD k12 S12;have lm12:=k12.k _ _ (S11.neS e911) e911;have lp12:=k12.k _ _ (S11.neS e711) e711;have w12:=w11.kp S11 k12;refine(zf rfl (zf rfl (zf rfl ⟨lp,(zf rfl ⟨.inl (SqL.of lp12),(zf rfl ⟨st,lm,wl,n0,ps.length,_,o,by rw[ua];rfl,hok,w12.gen,S12,lm12,c0,by lia,hT4 c4,by lia,fun H13 pb b k13 S13 hb hg=>?_⟩)⟩)⟩)));rw[hD];exact hV H13 pb b m5 (.kp (k12.trans k13)) (S13.mono (by lia)) (w12.kp S12 k13) hb (.of hg (by lia) (by decide) (by decide) (by decide))
    case k3 =>
     intro D' H12 hD k12 S12;have lm12:=k12.k _ _ (S11.neS e911) e911;have ll12:=k12.k _ _ (S11.neS e11) e11;have lp12:=k12.k _ _ (S11.neS e711) e711;have w12:=w11.kp S11 k12;refine(zf rfl (zf rfl (zf rfl (zf rfl ⟨lp,(zf rfl ⟨.inl (SqL.of lp12),(zf rfl (zf rfl ⟨st,lm,ll,wl,n0,n1,ps.length,(rm:Nat),_,m5,r,o,by rw[ua];rfl,⟨hok,w12,S12,m34,lm12,ll12,by lia,by lia⟩,by lia,ud _,by lia,fun H13 pb b m13 k13 S13 w13 _ hb hg=>?_⟩))⟩)⟩))));rw[hD];have hg':=hg.mono (d':=154) (s':=31681) (c':=2) (by unfold dB;lia) (by decide) (by decide);exact hV H13 pb b m13 ((Kw.kp k12).trans k13) (S13.mono (by lia)) w13 hb (.of hg' (by lia) (by decide) (by decide) (by decide))
   intro H13 pb b m13 k13 S13 w13 ib gb;have lpst:=S11.neS e711;have lpwl:=w11.neS e711;have e13:=k13.k _ _ lds ldw e6d;have p13:=k13.k _ _ lpst lpwl e711;have t13:=k13.tups S11 w11;refine(zf rfl ⟨.inl ⟨rfl,_,SqL.of e13⟩,(zf rfl (zf rfl ⟨lp,(zf rfl (.inl ⟨SqL.of p13,fun q1 h1=>(zf rfl (zf rfl ⟨sN4,fun q2 h2=>⟨ld,(zv rfl rfl ⟨old h2 (old h1 e13),by rw[ua];lia,?_⟩)⟩⟩))⟩))⟩))⟩);have s14:=(zi h1 (.tup (ps.map V.str))).new (o:=.tup [.str g,.ref q1,.ref qm,.ref pb]) h2;have S14:=S13.same s14;have w14:=w13.kp S13 (Kp.of s14);have k14:Kw st wl H (upd (upd H13 q1 (.tup (ps.map V.str))) q2 (.tup [.str g,.ref q1,.ref qm,.ref pb])):=k11.trans (k13.trans (.of s14));have I14:IsDfs (upd (upd H13 q1 (.tup (ps.map V.str))) q2 (.tup [.str g,.ref q1,.ref qm,.ref pb])) (ds++[⟨g,ps,ms,b⟩]) (os++[q2]):=((I11.keep t13).keep (.of s14)).snoc ⟨q1,qm,pb,zg,old h2 zg,s14 _ _ (t13 _ _ qm11),ib.keep (.of s14)⟩;have e14:=s14 _ _ e13;generalize upd (upd H13 q1 (.tup (ps.map V.str))) q2 (.tup [.str g,.ref q1,.ref qm,.ref pb])=H14 at *;have tp:Tups H14 (upd H14 ld (.lst (os.map V.ref++[.ref q2]))):=fun c xs q=>by
    rw[zj (fun x=>by rw[x,e14]at q;cases q)];exact q
   refine⟨os++[q2],ds++[⟨g,ps,ms,b⟩],_,_,_,_,_,_,rfl,k14.put gd,(hS.putS gd k14.s S14).mono (by lia),⟨_,hw.putN hS k14 gd e14 w14⟩,by rw[zg,uh];rfl,I14.keep tp,by rw[ub,dl2];rfl,fun d hd=>?_⟩;rcases uJ.mp hd with h|h
   ·exact hG d h
   ·rw[uE.mp h];exact gb
  ·rintro σ H2 ⟨os,ds,y4,y5,y6,y7,y8,y9,rfl,k2,S2,w2,e2,I2,eo,hG⟩
   rw[ua,ul]at S2 eo;exact hV _ _ _ _ _ _ _ _ _ _ k2 S2 w2 e2 I2 (by lia) hG
 case a2 =>
 intro H1 ld os ds y4 y5 y6 y7 y8 y9 k1 S1 ⟨m1,w1⟩ e1 I1 eo hG;obtain⟨tl1,dl1,ts1,us1,v1,v2,v3,v4,v5⟩:=id w1;have tl24:ts1.length<=15:=by rw[<- v3.1];exact hok.Tn
 have ol:os.length<=3:=by have:=I1.1;lia
 refine(zf rfl (ixL v1 aI2 ⟨tl1,rfl,⟨_,SqL.of v2⟩,yF (xs:=ts1.map V.ref) (fun i τ ys H'=>Same H1 H'/\(∃a b c,τ=[oR st,oR wl,some (.int (rm:Nat)),oR ld,y4,y5,y6,y7,y8,y9,none,a,b,c])/\ys.length=i) ⟨Same.refl _,⟨none,none,none,rfl⟩,rfl⟩ (fun i τ ys H' _ h=>SqL.of (h.1 _ _ v2)) ?_ ?_⟩))
 ·rintro i v τ ys H2 hv ⟨s2,⟨a,b,c,rfl⟩,yl⟩
  obtain⟨t,ht,rfl⟩:=L2.gM hv;have hi:=(ue.mp ht).1;obtain⟨tg,_,hR⟩:=v3.at ht;exact⟨t,(zf rfl ⟨SqT.of (s2 _ _ hR),rfl,_,_,rfl,_,_,rfl,_,_,rfl,rfl,(zf rfl (zf rfl ⟨sN2,fun p hp=>⟨by lia,s2.new hp,⟨_,_,_,rfl⟩,by rw[ub,yl];rfl⟩⟩))⟩)⟩
 rintro τ ys H2 ⟨s2,_,yl⟩ l3 g3;have s3:=s2.new (o:=.lst ys) g3;have e3:=zg (H:=H2) (a:=l3) (o:=.lst ys);dsimp only
 generalize upd H2 l3 (.lst ys)=H3 at *;refine(zf rfl ⟨3,rfl,l3,(zf rfl ⟨SqL.of e3,fun l4 g4=>⟨l4,(zf rfl (.inl ⟨SqL.of zg,fun l5 g5=>?_⟩))⟩⟩)⟩);have s5:=(s3.new (o:=.lst (cutV ys none (some 3))) g4).new (o:=.tup (cutV ys none (some 3))) g5;have e5:=old (o:=.tup (cutV ys none (some 3))) g5 (old (o:=.lst (cutV ys none (some 3))) g4 e3);generalize upd (upd H3 l4 (.lst (cutV ys none (some 3)))) l5 (.tup (cutV ys none (some 3)))=H5 at *;refine(zf rfl ⟨3,rfl,l3,(zf rfl ⟨SqL.of e5,fun l6 g6=>⟨l6,(zf rfl (.inl ⟨SqL.of zg,fun l7 g7=>⟨sN2,fun l8 g8=>?_⟩⟩))⟩⟩)⟩);have s8:=((s5.new (o:=.lst (cutV ys (some 3) none)) g6).new (o:=.tup (cutV ys (some 3) none)) g7).new (o:=.tup [.ref l5,.ref l7]) g8;have e8:=zg (H:=upd (upd H5 l6 (.lst (cutV ys (some 3) none))) l7 (.tup (cutV ys (some 3) none))) (a:=l8) (o:=.tup [.ref l5,.ref l7]);generalize upd (upd (upd H5 l6 (.lst (cutV ys (some 3) none))) l7 (.tup (cutV ys (some 3) none))) l8 (.tup [.ref l5,.ref l7])=H8 at *;refine(zf rfl ⟨ld,(zf rfl (.inl ⟨SqL.of (s8 _ _ e1),fun l9 g9=>⟨sN2,fun p gp=>?_⟩⟩))⟩);have s9:=(s8.new (o:=.tup (os.map V.ref)) g9).new (o:=.tup [.ref l8,.ref l9]) gp;exact q _ p ds (k1.trans (.of s9)) (S1.same s9) ⟨_,w1.kp S1 (Kp.of s9)⟩ ⟨_,l9,os,zg,old gp zg,I1.keep (.of s9)⟩ ⟨l8,_,_,zg,old gp (old g9 e8)⟩ (by have:=I1.1;lia) hG
end
end GN
namespace L2
open PySem PySem.Spec PyProof.Rows
variable{R:V->V->Prop}
def SmL(R:V->V->Prop):List V->List V->Prop
 |[],[]=>True
 |x::xs,y::ys=>R x y/\SmL R xs ys
 |_,_=>False
theorem SmL.get{R:V->V->Prop}:∀{xs ys:List V},SmL R xs ys->xs.length=ys.length/\∀(i:Nat) u v,xs[i]?=some u->ys[i]?=some v->R u v
 |[],[],_=>⟨rfl,fun i u v h=>by simp at h⟩
 |x::xs,y::ys,h=>by
  obtain⟨h1,h2⟩:=SmL.get h.2;refine⟨by rw[um,um,h1],fun i u v a b=>?_⟩;cases i with
  |zero=>cases a;cases b;exact h.1
  |succ i=>exact h2 i u v (by simpa using a) (by simpa using b)
def Smr:Nat->Hp->V->V->Prop
 |0,_,_,_=>False
 |n+1,H,x,y=>(xi x=true/\x=y)\/(∃a,x=.ref a/\y=.ref a)\/∃a b xs ys,x=.ref a/\y=.ref b/\H a=some (.tup xs)/\H b=some (.tup ys)/\SmL (Smr n H) xs ys
theorem Smr.str:Smr (n+1) H (.str z) (.str z):=.inl ⟨rfl,rfl⟩
theorem Smr.same:Smr (n+1) H (.ref a) (.ref a):=.inr (.inl ⟨a,rfl,rfl⟩)
theorem Smr.tup{ys:List V}(ha:H a=some (.tup xs))(hb:H b=some (.tup ys))(h:SmL (Smr n H) xs ys):Smr (n+1) H (.ref a) (.ref b):=.inr (.inr ⟨a,b,xs,ys,rfl,rfl,ha,hb,h⟩)
theorem SmL.strs{n:Nat}{H:Hp}:∀l:LS,SmL (Smr (n+1) H) (l.map V.str) (l.map V.str)
 |[]=>trivial
 |_::l=>⟨.str,SmL.strs l⟩
theorem SmL.bls{n:Nat}{H:Hp}:∀l:List Bool,SmL (Smr (n+1) H) (l.map V.bl) (l.map V.bl)
 |[]=>trivial
 |_::l=>⟨.inl ⟨rfl,rfl⟩,SmL.bls l⟩
theorem v9{ys:List V}(r:Vals xs us)(r':Vals ys vs)(go:∀{x y:V}{u v:Value},R x y->RelV x u->RelV y v->SeqAt.EqAt A s u v true)(h:SmL R xs ys)(j:Nat)(h1:j < us.toArray.size)(h2:j < vs.toArray.size):SeqAt.EqAt A s us.toArray[j] vs.toArray[j] true:=by
 have l1:=r.length;have l2:=r'.length;simp at h1 h2
 have hx:xs[j]?=some (xs[j]'(by lia)):=ui _;have hy:ys[j]?=some (ys[j]'(by lia)):=ui _;obtain⟨u,e1,rx⟩:=r.get hx;obtain⟨v,e2,ry⟩:=r'.get hy;have g1:us.toArray[j]=u:=by
  have:=ue.mp e1
  simpa using this.2
 have g2:vs.toArray[j]=v:=by
  have:=ue.mp e2
  simpa using this.2
 rw[g1,g2];exact go (h.get.2 j _ _ hx hy) rx ry
theorem Yv{m:Nat}(h:n=m):((uV (min n m)).all (fun _=>true) && n == m)=true:=by
 rw[show(uV (min n m)).all (fun _=>true)=true from UD.mpr fun _ _=>rfl];simpa using h
theorem VO(I:Inv X pins σ H s):∀(n:Nat){A:Around}(hu:A.units+n < cLine){x y:V}{u v:Value},Smr n H x y->RelV x u->RelV y v->SeqAt.EqAt A s u v true
 |0,_,_,_,_,_,_,h,_,_=>h.elim
 |n+1,A,hu,x,y,u,v,h,rx,ry=>by
  rcases h with⟨f,rfl⟩|⟨a,rfl,rfl⟩|⟨a,b,xs,ys,rfl,rfl,h1,h2,h⟩
  ·have k:=Wb (A:=A) (s:=s) rx ry f f
   rw[WM f]at k;exact k
  ·cases rx
   cases ry;exact .same _
  ·cases rx
   cases ry;by_cases c:a=b
   ·subst c
    exact .same _
   ·obtain⟨i1,v1,m1,_⟩:=I.tuple (SqT.of h1)
    obtain⟨i2,v2,m2,_⟩:=I.tuple (SqT.of h2);have n1:=v1.length;have n2:=v2.length;have hl:=h.get.1;have main:=SeqAt.RcAt.tuples (A:=A) (s:=s) (e:=fun _=>true) m1 m2 (by lia) (fun j x y=>v9 v1 v2 (fun{x y u v}=>VO I n (A:=A.in1) (by show A.units+1+n < cLine;lia)) h j x y);rw[Yv (by simp;lia)]at main;exact .of_refs c main
def rSmr(n:Nat):R2:=fun x y H Q=>∃a b xs,x=.ref a/\y=.ref b/\H a=some (.tup xs)/\Smr n H x y/\Q (.bl false) H
theorem Qo(hu:X.A.units+n+1 < cLine):OpR X (compareOp .NotEq) (rSmr n):=by
 intro pins s σ H x y v u Q I rx ry h;obtain⟨a,b,xs,rfl,rfl,h1,h,q⟩:=h;cases rx;cases ry;obtain⟨i1,v1,m1,_⟩:=I.tuple (SqT.of h1);cases n with
 |zero=>cases h
 |succ n =>
 rcases h with⟨f,_⟩|⟨c,e1,e2⟩|⟨a',b',xs',ys,e1,e2,h1',h2,h⟩
 ·cases f
 ·cases e1
  cases e2;have main:=SeqAt.RcNeAt.tuples (A:=X.A) (s:=s) (e:=fun _=>true) m1 m1 (by lia) (fun j _ _=>.same _);rw[Yv rfl]at main;exact main _ _ _ _ ⟨.bl false,H,I,rfl,q⟩
 ·cases e1
  cases e2;rw[h1]at h1';cases h1';obtain⟨i2,v2,m2,_⟩:=I.tuple (SqT.of h2);have n1:=v1.length;have n2:=v2.length;have hl:=h.get.1;have main:=SeqAt.RcNeAt.tuples (A:=X.A) (s:=s) (e:=fun _=>true) m1 m2 (by lia) (fun j x y=>v9 v1 v2 (fun{x y u v}=>VO I n (A:=X.A.in1) (by show X.A.units+1+n < cLine;lia)) h j x y);rw[Yv (by simp;lia)]at main;exact main _ _ _ _ ⟨.bl false,H,I,rfl,q⟩
theorem vb{k:Nat}(hr:Room k X.A)(hn:n<=16*k+100):jOp X (compareOp .NotEq) (rSmr n):=⟨Qo (by have:=hr.un;lia)⟩
theorem Yw(l:Addr)(items:Array Value)(n:Nat)(b:Addr)(items2:Array Value)(hlong:¬(!items.isEmpty && Builtin.List.listTooLong (items.size+items2.size))=true)(hz:items.size+items2.size<=sizeLine):Meets (Builtin.«list.extend» { pos:=[Value.ref l,Value.ref b] }) fun _ R s=>s.heap.get? l=some { cls:=Value.type "list",data:=Data.seq items n }/\IsTup s.heap b items2/\R (.ok (.ret .none)) { s with heap:=s.heap.update l (Obj.mapSeq (· ++ items2)) }:=by
 intro prog w A R s ⟨h1,⟨o,h2,hc,m,hd⟩,q⟩;show wpAny _ _ (Builtin.List.listExtendWith (.ref l) (.ref b) .none) _ _ _;unfold Builtin.List.listExtendWith;refine wpAny_bind (wpAny_typeOf (T:="tuple") ⟨o,h2,hc⟩ ?_);have e:(Builtin.List.listSameRef (.ref l) (.ref b) || (Value.type "tuple" == Value.type "list") || (Value.type "tuple" == Value.type "tuple"))=true:=by simp
 rw[if_pos e];refine wpAny_bind (wpAny_listItems h2 hd (wpAny_bind (wpAny_listItems h1 rfl ?_)));dsimp only
 rw[if_neg hlong];refine wpAny_bind ?_;show wpAny _ _ (updateSeq l (· ++ items2)) _ _ _;exact wpAny_updateSeq (hz:=by lia) h1 rfl (wpAny_pure q) (by rw[Array.size_append];lia)
def Q8(K:uc):V->List V->Hp->VK->Prop:=fun x vs H Q=>∃l b xs zs,x=.ref l/\vs=[.ref b]/\H l=some (.lst xs)/\SqT K H b zs/\xs.length+zs.length<=sizeLine/\Q .non (upd H l (.lst (xs++zs)))
theorem Qp:MtM X "list.extend" (Q8 X.K):=by
 intro pins s σ H x vs v us Q I rx rv h;obtain⟨l,b,xs,zs,rfl,rfl,hH,hB,hz,q⟩:=h;cases rx;obtain⟨u,rfl,ru⟩:=rv.one;cases ru;obtain⟨z,its,n,r,hl,e⟩:=I.lstM hH;obtain⟨its2,r2,t2,z2⟩:=I.tuple hB;have l1:=r.length;have l2:=r2.length;have hsz:its.toArray.size+its2.toArray.size<=sizeLine:=by rw[uo,uo];lia
 have hlong:¬ (!its.toArray.isEmpty && Builtin.List.listTooLong (its.toArray.size+its2.toArray.size))=true:=by
  rw[Zc hsz,Bool.and_false];exact uw
 refine call_meets UG ⟨_,e,rfl⟩ PySem.F.entry_list_extend (PySem.F.args_list_extend_2 _ _) (Yw l its.toArray n b its2.toArray hlong hsz) ⟨e,t2,?_⟩;refine⟨.non,_,I.lset (its':=its++its2) hH e (by simp) (r.append r2) ?_,rfl,q⟩;rw[ub];lia
theorem Qq:jMt X "list.extend" (Q8 X.K):=⟨Qp⟩
theorem jX:jOp X (compareOp .NotIn) (fun x y H Q=>∃i j,x=.str i/\y=.str j/\Q (.bl (!(!(Builtin.Str.occurrences j i 0 j.length 1).isEmpty))) H):=⟨jh⟩
theorem Qr{g:TG}{tb:TS}{D:Ends}(Pv:Nat->St->Hp->Prop)(h0:Pv 0 σ H)
  (hs:∀i c σ H,z.cps[i]?=some c->Pv i σ H->g (.str ⟨#[c]⟩) σ H fun σ2 H2=>tb { D with nx:=Pv (i+1),ct:=Pv (i+1),bk:=D.nx } σ2 H2) (hd:∀σ H,Pv z.cps.size σ H->D.nx σ H) :
  ∃W:Nat->Nat->St->Hp->Prop,(∃m,W 0 m σ H)/\∀i m σ H,W i m σ H ->
   (((Its z).stop i H/\D.nx σ H)\/((Its z).go i H/\∃N:St->Hp->Prop,(∀σ' H',N σ' H'->∃m',m' < m/\W (i+1) m' σ' H')/\∀x H',(Its z).yld i H x H'->g x σ H' fun σ2 H2=>tb { D with nx:=N,ct:=N,bk:=D.nx } σ2 H2)):=by
 refine⟨fun i m σ H=>m=z.cps.size-i/\i<=z.cps.size/\Pv i σ H,⟨z.cps.size,by simp,uF _,h0⟩,?_⟩;rintro i m σ H ⟨rfl,hi,p⟩;by_cases hlt:i < z.cps.size
 ·refine .inr ⟨hlt,Pv (i+1),fun σ' H' p'=>⟨z.cps.size-(i+1),by lia,rfl,hlt,p'⟩,fun x H' y=>?_⟩
  obtain⟨e,c,hc,rfl⟩:=y;subst e;exact hs i c σ _ hc p
 ·have e:i=z.cps.size:=by lia
  subst e;exact .inl ⟨rfl,hd σ H p⟩
end L2
namespace GN
open PySem L2 K11
theorem zbv{d:Dd}{q:Addr}(hp:IsDd H d p)(hq:IsDd H d q):Smr (n+3) H (.ref p) (.ref q):=by
 cases d with
 |num i=>exact .tup hp hq ⟨.str,.inl ⟨rfl,rfl⟩,trivial⟩
 |op w a b=>exact .tup hp hq ⟨.str,.str,.str,.str,trivial⟩
 |mk t ns k =>
  obtain⟨p1,h1,h2⟩:=hp;obtain⟨q1,g1,g2⟩:=hq;exact .tup h1 g1 ⟨.str,.str,.tup h2 g2 (SmL.strs ns),.str,trivial⟩
 |call g ns =>
  obtain⟨p1,h1,h2⟩:=hp;obtain⟨q1,g1,g2⟩:=hq;exact .tup h1 g1 ⟨.str,.str,.tup h2 g2 (SmL.strs ns),trivial⟩
 |fn g ns =>
  obtain⟨p1,h1,h2⟩:=hp;obtain⟨q1,g1,g2⟩:=hq;exact .tup h1 g1 ⟨.str,.str,.tup h2 g2 (SmL.strs ns),trivial⟩
 |ask g ns =>
  obtain⟨p1,h1,h2⟩:=hp;obtain⟨q1,g1,g2⟩:=hq;exact .tup h1 g1 ⟨.str,.str,.tup h2 g2 (SmL.strs ns),trivial⟩
mutual
theorem xw{H:Hp}:∀{b:Bd}{p q:Addr}{n:Nat},IsBd H b p->IsBd H b q->3*b.dp+1<=n->Smr n H (.ref p) (.ref q)
 |.give x,p,q,n,h,g,hn=>by
  obtain⟨n,rfl⟩:∃m,n=m+2:=⟨n-2,by rw[Bd.dp]at hn;lia⟩;exact .tup h g ⟨.str,.str,trivial⟩
 |.lt x d b,p,q,n,h,g,hn=>by
  rw[Bd.dp]at hn
  have:=b.dp_pos
  obtain⟨n,rfl⟩:∃m,n=m+4:=⟨n-4,by lia⟩;obtain⟨p1,p2,h1,h2,h3⟩:=h;obtain⟨q1,q2,g1,g2,g3⟩:=g;exact .tup h1 g1 ⟨.str,.str,zbv h2 g2,xw h3 g3 (by lia),trivial⟩
 |.hold x y b,p,q,n,h,g,hn=>by
  rw[Bd.dp]at hn;obtain⟨n,rfl⟩:∃m,n=m+2:=⟨n-2,by lia⟩;obtain⟨p2,h1,h3⟩:=h;obtain⟨q2,g1,g3⟩:=g;exact .tup h1 g1 ⟨.str,.str,.str,xw h3 g3 (by lia),trivial⟩
 |.drop x b,p,q,n,h,g,hn=>by
  rw[Bd.dp]at hn;obtain⟨n,rfl⟩:∃m,n=m+2:=⟨n-2,by lia⟩;obtain⟨p2,h1,h3⟩:=h;obtain⟨q2,g1,g3⟩:=g;exact .tup h1 g1 ⟨.str,.str,xw h3 g3 (by lia),trivial⟩
 |.loose x b,p,q,n,h,g,hn=>by
  rw[Bd.dp]at hn;obtain⟨n,rfl⟩:∃m,n=m+2:=⟨n-2,by lia⟩;obtain⟨p2,h1,h3⟩:=h;obtain⟨q2,g1,g3⟩:=g;exact .tup h1 g1 ⟨.str,.str,xw h3 g3 (by lia),trivial⟩
 |.iff x b c,p,q,n,h,g,hn=>by
  rw[Bd.dp]at hn;obtain⟨n,rfl⟩:∃m,n=m+2:=⟨n-2,by lia⟩;obtain⟨p1,p2,h1,h2,h3⟩:=h;obtain⟨q1,q2,g1,g2,g3⟩:=g;exact .tup h1 g1 ⟨.str,.str,xw h2 g2 (by lia),xw h3 g3 (by lia),trivial⟩
 |.cs x as,p,q,n,h,g,hn=>by
  rw[Bd.dp]at hn;obtain⟨n,rfl⟩:∃m,n=m+4:=⟨n-4,by lia⟩;obtain⟨p1,ps,h1,h2,h3⟩:=h;obtain⟨q1,qs,g1,g2,g3⟩:=g;exact .tup h1 g1 ⟨.str,.str,.tup h2 g2 (VP h3 g3 (by lia)),trivial⟩
theorem VP{H:Hp}:∀{as:Arms}{ps qs:List Addr}{n:Nat},IsArms H as ps->IsArms H as qs->3*as.dp+1<=n->SmL (Smr (n+1) H) (ps.map V.ref) (qs.map V.ref)
 |.nil,ps,qs,n,h,g,hn=>by
  have h:ps=[]:=h;have g:qs=[]:=g;rw[h,g]
  trivial
 |.cons t ns m k b r,ps,qs,n,h,g,hn=>by
  rw[Arms.dp]at hn
  have:=b.dp_pos
  obtain⟨n,rfl⟩:∃m,n=m+2:=⟨n-2,by lia⟩;obtain⟨p1,p2,p3,ps',rfl,h1,h2,h3,h4⟩:=h;obtain⟨q1,q2,q3,qs',rfl,g1,g2,g3,g4⟩:=g;exact⟨.tup h1 g1 ⟨.str,.tup h2 g2 (SmL.strs ns),.str,.str,xw h3 g3 (by lia),trivial⟩,VP h4 g4 (by lia)⟩
end
theorem zbw{d:Dd}(h:IsDd H d p):(∃t ns k q,d=.mk t ns k/\H p=some (.tup [.str "make",.str t,.ref q,.str k])/\H q=some (.tup (ns.map V.str)))\/∃(t:Str)(xs:List V),H p=some (.tup (.str t::xs))/\t≠"make"/\Y9 d=d:=by
 cases d with
 |num i=>exact .inr ⟨"num",_,h,by decide,rfl⟩
 |op w a b=>exact .inr ⟨"op",_,h,by decide,rfl⟩
 |mk t ns k=>obtain⟨q,h1,h2⟩:=h;exact .inl ⟨t,ns,k,q,rfl,h1,h2⟩
 |call g ns=>obtain⟨q,h1,_⟩:=h;exact .inr ⟨"call",_,h1,by decide,rfl⟩
 |fn g ns=>obtain⟨q,h1,_⟩:=h;exact .inr ⟨"func",_,h1,by decide,rfl⟩
 |ask g ns=>obtain⟨q,h1,_⟩:=h;exact .inr ⟨"ask",_,h1,by decide,rfl⟩
def ArmR.bare(a:ArmR):ArmR:=⟨a.t,a.ns,a.m,"",a.b.bare⟩
theorem VQ:∀as:Arms,as.bare.l=as.l.map ArmR.bare
 |.nil=>by rw[Arms.bare];rfl
 |.cons t ns m k b r=>by rw[Arms.bare,Arms.l,Arms.l,ur,VQ r];rfl
inductive spBare(n:Nat)(vs:List V)(H:Hp)(Q:VK)(e_3:XK):Prop
 |mk (p:Addr):(∃b:Bd,vs=[.ref p]/\IsBd H b p/\b.dp<=n/\b.sz<=1000000/\∀H' r,Same H H'->IsBd H' b.bare r->Q (.ref r) H')->spBare n vs H Q e_3
section
variable{K:uc}
theorem scBare:FnScope ["_law_body_here","_law_arms"] ["_law_body_here"] (zp YR):=.ok
theorem zbx:(["_law_body_here","_law_arms","_law_arm_here"]:LS).Nodup:=by decide +kernel
theorem VR(F:Fun K "_law_bare" "_law_bare" YR f fd):FnOk P w K mg base CX0 1 f fd ["_law_body_here"] (spBare 0):=by
 refine F.by scBare (fun vs H Q E h=>?_) (fun cdv A outer s H vs Q E hr h=>?_)
 ·obtain⟨p,b,rfl,_⟩:=h
  rfl
 obtain⟨p,b,rfl,_,hd,_⟩:=h;exact absurd hd (Nat.not_le_of_gt b.dp_pos)
theorem Qs(F:Fun K "_law_bare" "_law_bare" YR f fd)(GB:Ca P w K mg base CX0 (1+n) "_law_bare" ["_law_body_here"] (spBare n))(m_tuple:mg "tuple"=none):FnOk P w K mg base CX0 (1+(n+1)) f fd ["_law_body_here"] (spBare (n+1)):=by
 refine F.by scBare (fun vs H Q E h=>?_) (fun cdv A outer s H vs Q E hr h=>?_)
 ·obtain⟨p,b,rfl,_⟩:=h
  rfl
 obtain⟨p,b,rfl,hI,hd,hz,q⟩:=h;refine⟨_,
  (zh (zy (tN zD (xT 0) zq)
   (zk (zt (jv 0)))  zu)
  (zh (zy (tN zD (xT 0) zq)
   (zk (zt (cA GB hr (jA1 (xT 0)))))  zu)
  (zh (zy (tN zD (xT 0) zq)
   (zk (zt (zr (jA4 zq (xT 0) (cA GB hr (jA1 (xT 0))) (cA GB hr (jA1 (xT 0)))))))  zu)
  (zh (zy (tN zD (xT 0) zq)
   (zh (ye ["_law_arm_here"] (i:=1) scBare.nd rfl (Or.inl rfl) rfl (yn (xT 0)) (fun _ _ _ _ _=>(gN 2 zbx)) (fun _ _ _ _ _=>zL) (fun _ _ _ _ _=>(zr (jA5 (yg (yh K) (jv 2) zn (fun _ _=>rfl)) (yg (yh K) (jv 2) zn (fun _ _=>rfl)) (yg (yh K) (jv 2) zn (fun _ _=>rfl)) zq (cA GB hr (jA1 (yg (yh K) (jv 2) zn (fun _ _=>rfl))))))))
   (zk (zt (zr (jA3 zq (xT 0) (zB zz rfl m_tuple ut (jA1 (jv 1))))))))  zu)
  (zh (zy (jW.pt (yD (tN zD (xT 0) zq) (yG (tN zD (yg yp (xT 0) zn (fun _ _=>rfl)) zq))))
   (zk (zt (zr (jA4 zq (xT 0) (zw yy (zX yi (xT 0) yc (yd zn)) (zr (jA1 zq))) (cA GB hr (jA1 (xT 0)))))))  zu)
  (zk (zt (zw yy (zX yi (jv 0) yc (yd (yu zn))) (zr (jA1 (cA GB hr (jA1 (xX yp (jv 0) (yu zn)))))))))))))),?_⟩
 have sl:=zJ;refine cut5 fun r1_ hr1_=>?_;have fin:∀{t:Str}{xs:List V}{p1:Addr}{b1:Bd},H p=some (.tup (.str t::xs++[.ref p1]))->cutV (.str t::xs++[.ref p1]) none (some (-1))=.str t::xs->IsBd H b1 p1->b1.dp<=n->b1.sz<=1000000->xs.length<=3->(∀H' r r1,Same H H'->H' r=some (.tup (.str t::xs++[.ref r1]))->IsBd H' b1.bare r1->Q (.ref r) H')->r1_ { nx:=fun _ H'=>Q .non H',rt:=Q } [oR p,none] H:=by
  intro t xs p1 b1 h0 hc h1 d1 z1 xl q;subst hr1_;refine(zf rfl (zf rfl ⟨-1,rfl,p,(zf rfl ⟨h0,fun p3 H1 s1 h3=>(zf rfl (zf rfl ⟨p,_,_,_,rfl,rfl,SqT.of (s1 _ _ h0),yV (.str t::xs) _,p1,b1,rfl,h1.keep (.of s1),d1,z1,fun H2 r2 s2 e2=>⟨sN1,fun t4 f4=>?_⟩⟩))⟩)⟩));rw[hc]at h3;refine⟨p3,t4,.str t::xs,(zf rfl ⟨rfl,SqT.of (old f4 (s2 _ _ h3)),SqT.of zg,(by intro z;cases z),by show xs.length+1+1<=sizeLine;lia,(fun e=>by simp at e),fun _ r fr=>?_⟩)⟩;have s3:=(zi (H:=H2) (o:=.tup [.ref r2]) f4).new (o:=.tup (.str t::xs++[.ref r2])) fr;exact q _ r r2 (((show Same H H1 from s1).trans s2).trans s3) zg (e2.keep (.of s3))
 cases b with
 |give y =>
  have h0:H p=some (.tup [.str "give",.str y]):=hI;rw[Bd.bare]at q;exact(zf rfl (ixT h0 aI0 ⟨rfl,(zf rfl (iteT (zf rfl (q _ p (.refl _) hI))))⟩))
 |loose y b =>
  obtain⟨p1,h0,h1⟩:=hI;rw[Bd.dp]at hd;rw[Bd.sz]at hz;rw[Bd.bare]at q;refine(zf rfl (ixT h0 aI0 ⟨rfl,(zf rfl (iteF (nxtC ?_)))⟩));refine(zf rfl (ixT h0 aI0 ⟨rfl,(zf rfl (iteT ?_))⟩));exact(zf rfl (ixT h0 aI2 ⟨p1,b,rfl,h1,by lia,by lia,q⟩))
 |iff y b c =>
  obtain⟨p1,p2,h0,h1,h2⟩:=hI;rw[Bd.dp]at hd;rw[Bd.sz]at hz;rw[Bd.bare]at q;refine(zf rfl (ixT h0 aI0 ⟨rfl,(zf rfl (iteF (nxtC ?_)))⟩));refine(zf rfl (ixT h0 aI0 ⟨rfl,(zf rfl (iteF (nxtC ?_)))⟩));refine(zf rfl (ixT h0 aI0 ⟨rfl,(zf rfl (iteT ?_))⟩));refine(zf rfl (ixT h0 aI1 (zf rfl (ixT h0 aI2 ⟨p1,b,rfl,h1,by lia,by lia,fun H1 r1 s1 e1=>?_⟩))));refine(zf rfl (ixT (s1 _ _ h0) aI3 ⟨p2,c,rfl,h2.keep (.of s1),by lia,by lia,fun H2 r2 s2 e2=>?_⟩));refine⟨sN4,fun r fr=>?_⟩;have s3:=zi (H:=H2) (o:=.tup [.str "if",.str y,.ref r1,.ref r2]) fr;exact q _ r ((s1.trans s2).trans s3) ⟨r1,r2,zg,(e1.keep (.of s2)).keep (.of s3),e2.keep (.of s3)⟩
 |cs x as =>
  obtain⟨p1,ts,h0,h1,hA⟩:=hI;rw[Bd.dp]at hd;rw[Bd.sz]at hz;rw[Bd.bare]at q;have aa:=yO hA;have al:=All2.len aa;have sl2:=as.lLen;refine(zf rfl (ixT h0 aI0 ⟨rfl,(zf rfl (iteF (nxtC ?_)))⟩));refine(zf rfl (ixT h0 aI0 ⟨rfl,(zf rfl (iteF (nxtC ?_)))⟩));refine(zf rfl (ixT h0 aI0 ⟨rfl,(zf rfl (iteF (nxtC ?_)))⟩));refine(zf rfl (ixT h0 aI0 ⟨rfl,(zf rfl (iteT ?_))⟩));refine(zf rfl (ixT h0 aI2 ⟨p1,rfl,⟨_,SqT.of h1⟩,xo (xs:=ts.map V.ref) (fun i τ zs H'=>Same H H'/\(∃y,τ=[oR p,none,y])/\∃us:List Addr,zs=us.map V.ref/\All2 (IsAr H') ((as.l.map ArmR.bare).take i) us) ⟨.refl _,⟨none,rfl⟩,[],rfl,.nil⟩ (fun i τ zs H' _ h=>SqT.of (h.1 _ _ h1)) ?_ ?_⟩))
  ·rintro i v τ zs H1 hv ⟨s1,⟨y,rfl⟩,us,rfl,hu⟩
   obtain⟨t,ht,rfl⟩:=L2.gM hv;obtain⟨a,ha,hA1⟩:=All2.get aa ht;obtain⟨q1,r1,a1,a2,a3⟩:=hA1.keep (.of s1);have hm:=uv ha;have d1:=vI hm;have z1:=Ys hm;have ul:=All2.len hu;rw[uH,ua]at ul;have hi:=(ue.mp ha).1;refine(zf rfl (ixT a1 aI0 (zf rfl (ixT a1 aI1 (zf rfl (ixT a1 aI2 (zf rfl (ixT a1 aI4 ⟨r1,a.b,rfl,a3,by lia,by lia,fun H2 r2 s2 e2=>⟨sN5,fun r fr=>?_⟩⟩))))))));have s3:=s2.new (o:=.tup [.str a.t,.ref q1,.str a.m,.str "",.ref r2]) fr;refine⟨by rw[ua];lia,s1.trans s3,⟨_,rfl⟩,us++[r],by rw[uh];rfl,?_⟩;rw[uI,ug,ha];exact(hu.imp fun _ _ z=>z.keep (.of s3)).app (.cons ⟨q1,r2,zg,s3 _ _ a2,e2.keep (.of (zi fr _))⟩ .nil)
  rintro τ zs H1 ⟨s1,_,us,rfl,hu⟩ l2 f2;rw[ua,ux (by rw[ua];lia)]at hu;refine(zf rfl (ixT ((s1.new f2) _ _ h0) aI1 (zf rfl ⟨l2,(zf rfl (.inl ⟨SqL.of zg,fun t3 f3=>⟨sN3,fun r fr=>?_⟩⟩))⟩)));have s3:Same H1 (upd (upd (upd H1 l2 (.lst (us.map V.ref))) t3 (.tup (us.map V.ref))) r (.tup [.str "case",.str x,.ref t3])):=((zi f2 _).new f3).new fr;refine q _ r (s1.trans s3) ⟨t3,us,zg,old fr zg,xv ?_⟩;rw[VQ];exact hu.imp fun _ _ z=>z.keep (.of s3)
 |hold y z b =>
  obtain⟨p1,h0,h1⟩:=hI;rw[Bd.dp]at hd;rw[Bd.sz]at hz;rw[Bd.bare]at q;refine(zf rfl (ixT h0 aI0 ⟨rfl,(zf rfl (iteF (nxtC ?_)))⟩));refine(zf rfl (ixT h0 aI0 ⟨rfl,(zf rfl (iteF (nxtC ?_)))⟩));refine(zf rfl (ixT h0 aI0 ⟨rfl,(zf rfl (iteF (nxtC ?_)))⟩));refine(zf rfl (ixT h0 aI0 ⟨rfl,(zf rfl (iteF (nxtC ?_)))⟩));refine(zf rfl (ixT h0 aI0 ⟨rfl,(zf rfl (iteF (iteF (nxtC ?_))))⟩));exact fin (xs:=[.str y,.str z]) h0 rfl h1 (by lia) (by lia) (by show 2<=3;decide) fun H' r r1 s e1 e2=>q H' r s ⟨r1,e1,e2⟩
 |drop y b =>
  obtain⟨p1,h0,h1⟩:=hI;rw[Bd.dp]at hd;rw[Bd.sz]at hz;rw[Bd.bare]at q;refine(zf rfl (ixT h0 aI0 ⟨rfl,(zf rfl (iteF (nxtC ?_)))⟩));refine(zf rfl (ixT h0 aI0 ⟨rfl,(zf rfl (iteF (nxtC ?_)))⟩));refine(zf rfl (ixT h0 aI0 ⟨rfl,(zf rfl (iteF (nxtC ?_)))⟩));refine(zf rfl (ixT h0 aI0 ⟨rfl,(zf rfl (iteF (nxtC ?_)))⟩));refine(zf rfl (ixT h0 aI0 ⟨rfl,(zf rfl (iteF (iteF (nxtC ?_))))⟩));exact fin (xs:=[.str y]) h0 rfl h1 (by lia) (by lia) (by show 1<=3;decide) fun H' r r1 s e1 e2=>q H' r s ⟨r1,e1,e2⟩
 |lt y d b =>
  obtain⟨p0,p1,h0,hD,h1⟩:=hI;rw[Bd.dp]at hd;rw[Bd.sz]at hz;rw[Bd.bare]at q;refine(zf rfl (ixT h0 aI0 ⟨rfl,(zf rfl (iteF (nxtC ?_)))⟩));refine(zf rfl (ixT h0 aI0 ⟨rfl,(zf rfl (iteF (nxtC ?_)))⟩));refine(zf rfl (ixT h0 aI0 ⟨rfl,(zf rfl (iteF (nxtC ?_)))⟩));refine(zf rfl (ixT h0 aI0 ⟨rfl,(zf rfl (iteF (nxtC ?_)))⟩));refine(zf rfl (ixT h0 aI0 ⟨rfl,(zf rfl (iteT ?_))⟩));rcases zbw hD with⟨t,ns,k,q1,rfl,g0,g1⟩|⟨t,xs,g0,gt,gm⟩
  ·refine(zf rfl (ixT h0 aI2 (ixT g0 aI0 ⟨rfl,(zf rfl (iteT ?_))⟩)))
   refine(zf rfl (ixT h0 aI1 (zf rfl (ixT h0 aI2 ⟨3,rfl,p0,(zf rfl ⟨g0,fun p3 H1 s1 h3=>⟨sN1,fun t4 f4=>?_⟩⟩)⟩))));refine⟨p3,t4,[.str "make",.str t,.ref q1],(zf rfl ⟨rfl,SqT.of (old f4 h3),SqT.of zg,(by intro z;cases z),sN4,(fun e=>by simp at e),fun _ r fr=>?_⟩)⟩;have s3:Same H _:=((show Same H H1 from s1).new (o:=.tup [.str ""]) f4).new (o:=.tup [.str "make",.str t,.ref q1,.str ""]) fr;refine(zf rfl (ixT (s3 _ _ h0) aI3 ⟨p1,b,rfl,h1.keep (.of s3),by lia,by lia,fun H2 r2 s2 e2=>⟨sN4,fun r' fr'=>?_⟩⟩));have s5:=s2.new (o:=.tup [.str "let",.str y,.ref r,.ref r2]) fr';exact q _ r' (s3.trans s5) ⟨r,r2,zg,⟨q1,s5 _ _ zg,s5 _ _ (s3 _ _ g1)⟩,e2.keep (.of (zi fr' _))⟩
  ·refine(zf rfl (ixT h0 aI2 (ixT g0 aI0 ⟨rfl,(zf rfl (iteE (decide_eq_false fun z=>gt (V.str.inj z)) (nxtC ?_)))⟩)))
   exact fin (xs:=[.str y,.ref p0]) h0 rfl h1 (by lia) (by lia) (by show 2<=3;decide) fun H' r r1 s e1 e2=>q H' r s ⟨p0,r1,e1,by rw[gm];exact hD.keep (.of s),e2⟩
theorem jY:∀as:Arms,as.binds=as.l.flatMap fun a=>a.ns++a.b.binds
 |.nil=>by rw[Arms.binds];rfl
 |.cons t ns m k b r=>by rw[Arms.binds,Arms.l,Uk,jY r,u7]
def M2(x y:Addr):Addr->Prop:=fun a=>a=x\/a=y
structure Two(H:Hp)(tl nl:Addr)(ts ns:LS):Prop where
 t:H tl=some (.lst (ts.map V.str))
 n:H nl=some (.lst (ns.map V.str))
section
variable{tl nl:Addr}{ts ns:LS}
theorem Two.tups(h:Two H tl nl ts ns)(k:KM (M2 tl nl) H H'):Tups H H':=fun b xs e=>k b _ (fun z=>by
 rcases z with rfl|rfl
 ·rw[h.t]at e;cases e
 ·rw[h.n]at e;cases e) e
theorem Two.putT(h:Two H tl nl ts ns)(ne:tl≠nl){l:LS}:Two (upd H tl (.lst (l.map V.str))) tl nl l ns/\KM (M2 tl nl) H (upd H tl (.lst (l.map V.str))):=⟨⟨zg,by rw[zj fun e=>ne e.symm];exact h.n⟩,fun b u n e=>by rw[zj fun z=>n (.inl z)];exact e⟩
theorem Two.putN(h:Two H tl nl ts ns)(ne:tl≠nl){l:LS}:Two (upd H nl (.lst (l.map V.str))) tl nl ts l/\KM (M2 tl nl) H (upd H nl (.lst (l.map V.str))):=⟨⟨by rw[zj ne];exact h.t,zg⟩,fun b u n e=>by rw[zj fun z=>n (.inr z)];exact e⟩
end
inductive spHeard(n:Nat)(vs:List V)(H:Hp)(Q:VK)(e_3:XK):Prop
 |mk (p:Addr) (tl:Addr) (nl:Addr) (b:Bd) (ts:LS):(∃ns:LS,vs=[.ref p,.ref tl,.ref nl]/\IsBd H b p/\b.dp<=n/\Two H tl nl ts ns/\tl≠nl/\ts.length+(wiB b).length<=4000000/\ns.length+b.binds.length<=4000000/\∀H',KM (M2 tl nl) H H'->Two H' tl nl (ts++wiB b) (ns++b.binds)->Q .non H')->spHeard n vs H Q e_3
theorem scHeard:FnScope ["_law_body_here","_law_tokens","_law_names","_law_arm_here"] lS2 (zp js):=.ok
theorem XL(F:Fun K "_law_heard" "_law_heard" js f fd):FnOk P w K mg base CX0 1 f fd lS2 (spHeard 0):=by
 refine F.by scHeard (fun vs H Q E h=>?_) (fun cdv A outer s H vs Q E hr h=>?_)
 ·obtain⟨p,tl,nl,b,ts,ns,rfl,_⟩:=h
  rfl
 obtain⟨p,tl,nl,b,ts,ns,rfl,_,hd,_⟩:=h;exact absurd hd (Nat.not_le_of_gt b.dp_pos)
theorem VS(F:Fun K "_law_heard" "_law_heard" js f fd)(GH:Ca P w K mg base CX0 (1+n) "_law_heard" lS2 (spHeard n)):FnOk P w K mg base CX0 (1+(n+1)) f fd lS2 (spHeard (n+1)):=by
 refine F.by scHeard (fun vs H Q E h=>?_) (fun cdv A outer s H vs Q E hr h=>?_)
 ·obtain⟨p,tl,nl,b,ts,ns,rfl,_⟩:=h
  rfl
 obtain⟨p,tl,nl,b,ts,ns,rfl,hI,hd,hT,ne,hz,hy,q⟩:=h;refine⟨_,
  (zh (zy (tN zD (xT 0) zq)
   (zk YK)  zu)
  (zh (zy (tN zD (xT 0) zq)
   (zh (zM PassesOwn.never rfl (yn (xT 0)) (gN 3 scHeard.nd)
    (zh (zy (tN wM (xT 3) zq)
     (zk (zF (zV uk uy uz zG (jv 1) (jA1 (xT 3)))))  zu)
    (zh (zF (zV uk UG PySem.F.type_list_extend Qq (jv 2) (jA1 (xT 3))))
    (zk (zF (cA GH hr (jA3 (xT 3) (jv 1) (jv 2))))))))
   (zk YK))  zu)
  (zh (zy (tN zD (xT 0) zq)
   (zk (zF (cA GH hr (jA3 (xT 0) (jv 1) (jv 2)))))  zu)
  (zh (zy (jW.pt (yt (tN zD (xT 0) zq) (yv (tN zD (xT 0) zq))))
   (zk (zF (zV uk uy uz zG (jv 2) (jA1 (xT 0)))))  zu)
  (zk (zF (cA GH hr (jA3 (xX yp (jv 0) (yu zn)) (jv 1) (jv 2))))))))),?_⟩
 have sl:=zJ;refine cut4 fun r1_ hr1_=>?_;have fin:∀{t:Str}{xs:List V}{p1:Addr}{b1:Bd}{H1:Hp}{ts1 ns1:LS},H1 p=some (.tup (.str t::xs++[.ref p1]))->IsBd H1 b1 p1->b1.dp<=n->Two H1 tl nl ts1 ns1->ts1.length+(wiB b1).length<=4000000->ns1.length+b1.binds.length<=4000000->(∀H',KM (M2 tl nl) H1 H'->Two H' tl nl (ts1++wiB b1) (ns1++b1.binds)->Q .non H')->r1_ { nx:=fun _ H'=>Q .non H',rt:=Q } [oR p,oR tl,oR nl,none] H1:=by
  intro t xs p1 b1 H1 ts1 ns1 h0 h1 d1 T1 z1 y1 q;subst hr1_;exact(zf rfl (zf rfl ⟨p,_,_,_,rfl,rfl,SqT.of h0,yV (.str t::xs) _,(zf rfl (zf rfl ⟨p1,tl,nl,b1,ts1,ns1,rfl,h1,d1,T1,ne,z1,y1,q⟩))⟩))
 cases b with
 |give y =>
  have h0:H p=some (.tup [.str "give",.str y]):=hI;refine(zf rfl (ixT h0 aI0 ⟨rfl,(zf rfl (iteT (q H KM.refl ?_)))⟩));have e:wiB (.give y)=[]:=rfl;rw[e,Bd.binds,Ue,Ue];exact hT
 |cs x as =>
  obtain⟨p1,us,h0,h1,hA⟩:=hI;rw[Bd.dp]at hd;rw[Bd.binds,jY]at hy q;rw[Y8]at hz q;have aa:=yO hA;have al:=All2.len aa;refine(zf rfl (ixT h0 aI0 ⟨rfl,(zf rfl (iteF (nxtC ?_)))⟩));refine(zf rfl (ixT h0 aI0 ⟨rfl,(zf rfl (iteT ?_))⟩));refine(zf rfl (ixT h0 aI2 ⟨p1,rfl,⟨_,SqT.of h1⟩,xx (xs:=us.map V.ref) (fun i σ H'=>KM (M2 tl nl) H H'/\(∃y,σ=[oR p,oR tl,oR nl,y])/\Two H' tl nl (ts++(as.l.take i).flatMap wiA) (ns++(as.l.take i).flatMap fun a=>a.ns++a.b.binds)) ⟨.refl,⟨none,rfl⟩,by rw[List.take_zero,List.flatMap_nil,List.flatMap_nil,Ue,Ue];exact hT⟩ (fun i σ H' _ h=>SqT.of (hT.tups h.1 _ _ h1)) ?_ ?_⟩))
  ·rintro i v σ H1 hv ⟨k1,⟨y,rfl⟩,T1⟩
   obtain⟨t,ht,rfl⟩:=L2.gM hv;obtain⟨a,ha,hA1⟩:=All2.get aa ht;obtain⟨q1,r1,a1,a2,a3⟩:=hA1.keep (hT.tups k1);have d1:=vI (uv ha);have f1:=wH wiA ha;have f2:=wH (fun a:ArmR=>a.ns++a.b.binds) ha;have g1:=yI wiA as.l (i+1);have g2:=yI (fun a:ArmR=>a.ns++a.b.binds) as.l (i+1);rw[f1,ub]at g1;rw[f2,ub,ub]at g2;have e3:(wiA a).length=(if a.k≠""then[a.k]else[]).length+(wiB a.b).length:=by unfold wiA;rw[ub]
   refine(zf rfl (ixT a1 aI3 ⟨rfl,(zf rfl ?_)⟩))
   suffices rest:∀H2,KM (M2 tl nl) H1 H2->Two H2 tl nl (ts++(as.l.take i).flatMap wiA++(if a.k≠""then[a.k]else[])) (ns++(as.l.take i).flatMap fun a=>a.ns++a.b.binds)->(tSeq _ _:TS) _ [oR p,oR tl,oR nl,oR t] H2 by
    by_cases c:a.k=""
    ·refine iteE (show(!decide (V.str a.k=V.str ""))=false by rw[decide_eq_true (congrArg V.str c)];rfl) (nxtC (rest H1 .refl ?_))
     rw[if_neg fun z=>z c,Ue];exact T1
    ·refine zR (show(!decide (V.str a.k=V.str ""))=true by rw[decide_eq_false fun z=>c (V.str.inj z)];rfl) ?_
     obtain⟨T2,k2⟩:=T1.putT ne (l:=ts++(as.l.take i).flatMap wiA++[a.k]);rw[if_pos c]at e3 rest;have e3:(wiA a).length=1+(wiB a.b).length:=e3;refine(zf rfl ⟨.inl ⟨rfl,_,SqL.of T1.t⟩,(zf rfl (ixT a1 aI3 ⟨tl,(zv rfl rfl ⟨T1.t,by rw[ua,ub];lia,?_⟩)⟩))⟩);have e5:(ts++(as.l.take i).flatMap wiA).map V.str++[V.str a.k]=(ts++(as.l.take i).flatMap wiA++[a.k]).map V.str:=by rw[uh (l₂:=[a.k])];rfl
     rw[e5];exact rest _ k2 T2
   intro H2 k2 T2;have t2:=T1.tups k2;obtain⟨T3,k3⟩:=T2.putN ne (l:=ns++((as.l.take i).flatMap fun a=>a.ns++a.b.binds)++a.ns);refine(zf rfl ⟨.inl ⟨rfl,_,SqL.of T2.n⟩,(zf rfl (ixT (t2 _ _ a1) aI1 ⟨nl,q1,(zv rfl rfl ⟨T2.n,SqT.of (t2 _ _ a2),by rw[ua,ua,ub];lia,?_⟩)⟩))⟩);rw[<- uh];have t3:=T2.tups k3;refine(zf rfl (ixT (t3 _ _ (t2 _ _ a1)) aI4 (zf rfl (zf rfl ⟨r1,tl,nl,a.b,_,_,rfl,(a3.keep t2).keep t3,by lia,T3,ne,by rw[ub,ub];lia,by rw[ub,ub];lia,fun H4 k4 T4=>?_⟩))));refine⟨((k1.trans k2).trans k3).trans k4,⟨_,rfl⟩,?_⟩;rw[f1,f2,show wiA a=(if a.k≠""then[a.k]else[])++wiB a.b from rfl];simpa only[u7]using T4
  ·rintro σ H1 ⟨k1,_,T1⟩
   rw[ua,<- al,ux (ud _)]at T1;exact q H1 k1 T1
 |iff y b c =>
  obtain⟨p1,p2,h0,h1,h2⟩:=hI;rw[Bd.dp]at hd;rw[Bd.binds]at hy q;rw[Yt]at hz q;rw[ub]at hy hz;refine(zf rfl (ixT h0 aI0 ⟨rfl,(zf rfl (iteF (nxtC ?_)))⟩));refine(zf rfl (ixT h0 aI0 ⟨rfl,(zf rfl (iteF (nxtC ?_)))⟩));refine(zf rfl (ixT h0 aI0 ⟨rfl,(zf rfl (iteT ?_))⟩));refine(zf rfl (ixT h0 aI2 (zf rfl (zf rfl ⟨p1,tl,nl,b,ts,ns,rfl,h1,by lia,hT,ne,by lia,by lia,fun H1 k1 T1=>?_⟩))));have t1:=hT.tups k1;refine(zf rfl (ixT (t1 _ _ h0) aI0 ⟨rfl,(zf rfl (iteF ?_))⟩));refine(zf rfl (ixT (t1 _ _ h0) aI0 ⟨rfl,(zf rfl (iteF (nxtC ?_)))⟩));exact fin (xs:=[.str y,.ref p1]) (t1 _ _ h0) (h2.keep t1) (by lia) T1 (by rw[ub];lia) (by rw[ub];lia) fun H' k2 T2=>q H' (k1.trans k2) (by rw[<- u7,<- u7];exact T2)
 |lt y d b =>
  obtain⟨p0,p1,h0,hD,h1⟩:=hI;rw[Bd.dp]at hd;have e1:wiB (.lt y d b)=wiB b:=by unfold wiB;rw[Bd.atk]
  rw[e1]at hz q;rw[Bd.binds]at hy q;rw[um]at hy;refine(zf rfl (ixT h0 aI0 ⟨rfl,(zf rfl (iteF (nxtC ?_)))⟩));refine(zf rfl (ixT h0 aI0 ⟨rfl,(zf rfl (iteF (nxtC ?_)))⟩));refine(zf rfl (ixT h0 aI0 ⟨rfl,(zf rfl (iteF (nxtC ?_)))⟩));refine(zf rfl (ixT h0 aI0 ⟨rfl,(zf rfl (iteT (iteT ?_)))⟩));obtain⟨T2,k2⟩:=hT.putN ne (l:=ns++[y]);refine(zf rfl ⟨.inl ⟨rfl,_,SqL.of hT.n⟩,(zf rfl (ixT h0 aI1 ⟨nl,(zv rfl rfl ⟨hT.n,by rw[ua];lia,?_⟩)⟩))⟩);rw[show ns.map V.str++[V.str y]=(ns++[y]).map V.str by rw[uh];rfl];have t2:=hT.tups k2;exact fin (xs:=[.str y,.ref p0]) (t2 _ _ h0) (h1.keep t2) (by lia) T2 hz (by rw[ub];show ns.length+1+_<=_;lia) fun H' k3 T3=>q H' (k2.trans k3) (by rw[u7]at T3;exact T3)
 |hold y z b =>
  obtain⟨p1,h0,h1⟩:=hI;rw[Bd.dp]at hd;have e1:wiB (.hold y z b)=wiB b:=by unfold wiB;rw[Bd.atk]
  rw[e1]at hz q;rw[Bd.binds]at hy q;rw[um]at hy;refine(zf rfl (ixT h0 aI0 ⟨rfl,(zf rfl (iteF (nxtC ?_)))⟩));refine(zf rfl (ixT h0 aI0 ⟨rfl,(zf rfl (iteF (nxtC ?_)))⟩));refine(zf rfl (ixT h0 aI0 ⟨rfl,(zf rfl (iteF (nxtC ?_)))⟩));refine(zf rfl (ixT h0 aI0 ⟨rfl,(zf rfl (iteF ?_))⟩));refine(zf rfl (ixT h0 aI0 ⟨rfl,(zf rfl (iteT ?_))⟩));obtain⟨T2,k2⟩:=hT.putN ne (l:=ns++[y]);refine(zf rfl ⟨.inl ⟨rfl,_,SqL.of hT.n⟩,(zf rfl (ixT h0 aI1 ⟨nl,(zv rfl rfl ⟨hT.n,by rw[ua];lia,?_⟩)⟩))⟩);rw[show ns.map V.str++[V.str y]=(ns++[y]).map V.str by rw[uh];rfl];have t2:=hT.tups k2;exact fin (xs:=[.str y,.str z]) (t2 _ _ h0) (h1.keep t2) (by lia) T2 hz (by rw[ub];show ns.length+1+_<=_;lia) fun H' k3 T3=>q H' (k2.trans k3) (by rw[u7]at T3;exact T3)
 |drop y b =>
  obtain⟨p1,h0,h1⟩:=hI;rw[Bd.dp]at hd;have e1:wiB (.drop y b)=wiB b:=by unfold wiB;rw[Bd.atk]
  rw[e1]at hz q;rw[Bd.binds]at hy q;refine(zf rfl (ixT h0 aI0 ⟨rfl,(zf rfl (iteF (nxtC ?_)))⟩));refine(zf rfl (ixT h0 aI0 ⟨rfl,(zf rfl (iteF (nxtC ?_)))⟩));refine(zf rfl (ixT h0 aI0 ⟨rfl,(zf rfl (iteF (nxtC ?_)))⟩));refine(zf rfl (ixT h0 aI0 ⟨rfl,(zf rfl (iteF ?_))⟩));refine(zf rfl (ixT h0 aI0 ⟨rfl,(zf rfl (iteF (nxtC ?_)))⟩));exact fin (xs:=[.str y]) h0 h1 (by lia) hT hz hy q
 |loose y b =>
  obtain⟨p1,h0,h1⟩:=hI;rw[Bd.dp]at hd;have e1:wiB (.loose y b)=wiB b:=by unfold wiB;rw[Bd.atk]
  rw[e1]at hz q;rw[Bd.binds]at hy q;refine(zf rfl (ixT h0 aI0 ⟨rfl,(zf rfl (iteF (nxtC ?_)))⟩));refine(zf rfl (ixT h0 aI0 ⟨rfl,(zf rfl (iteF (nxtC ?_)))⟩));refine(zf rfl (ixT h0 aI0 ⟨rfl,(zf rfl (iteF (nxtC ?_)))⟩));refine(zf rfl (ixT h0 aI0 ⟨rfl,(zf rfl (iteF ?_))⟩));refine(zf rfl (ixT h0 aI0 ⟨rfl,(zf rfl (iteF (nxtC ?_)))⟩));exact fin (xs:=[.str y]) h0 h1 (by lia) hT hz hy q
theorem cut0{u:TS}{D:Ends}{σ:List (Option V)}(h:∀v:TS,u=v->v D σ H):u D σ H:=h u rfl
def nwF(l:List (Str×Str))(x:Str):Str:=(look l x).getD x
theorem nwG(l:List (Str×Str))(x:Str):(valV (em V.str l) (.inr x)).getD (.str x)=.str (nwF l x):=by
 rw[wZ];unfold nwF;cases look l x<;>rfl
inductive spODeed(vs:List V)(H:Hp)(Q:VK)(e_3:XK):Prop
 |mk (p:Addr) (d:Addr) (dd:Dd):(∃l:List (Str×Str),vs=[.ref p,.ref d]/\IsDd H dd p/\H d=some (.dK (em V.str l))/\(xr dd).length<=1000/\∀H' r,Same H H'->IsDd H' (rnD (nwF l) dd) r->Q (.ref r) H')->spODeed vs H Q e_3
theorem scODeed:FnScope ["_law_deed_here","_law_news","_law_names"] lS19 (zp Yi):=.ok
theorem Qt:(["_law_deed_here","_law_news","_law_names","_law_name_here"]:LS).Nodup:=by decide +kernel
theorem VT(F:Fun K "_law_other_deed" "_law_other_deed" Yi f fd)(m_tuple:mg "tuple"=none):FnOk P w K mg base CX0 1 f fd lS19 spODeed:=by
 refine F.by scODeed (fun vs H Q E h=>?_) (fun cdv A outer s H vs Q E hr h=>?_)
 ·obtain⟨p,d,dd,l,rfl,_⟩:=h
  rfl
 obtain⟨p,d,dd,l,rfl,hI,hN,hl,q⟩:=h;refine⟨_,
  (zh (zy (tN zD (xT 0) zq)
   (zk (zt (jv 0)))  zu)
  (zh (zy (tN zD (xT 0) zq)
   (zk (zt (zr (jA4 zq (xT 0) (yB hr (jv 1) (xT 0) (xT 0)) (yB hr (jv 1) (xT 0) (xT 0))))))  zu)
  (zh (sE 2 scODeed.nd (zB zz rfl m_tuple ut (jA1 (yo ["_law_name_here"] rfl (yn (xT 0)) (fun _ _ _ _ _=>(gN 3 Qt)) (fun _ _ _ _ _=>zL) (fun _ _ _ _ _=>(yB hr (jv 1) (jv 3) (jv 3)))))))
  (zh (zy (tN zD (xT 0) zq)
   (zk (zt (zr (jA3 zq (yB hr (jv 1) (xT 0) (xT 0)) (jv 2)))))  zu)
  (zk (zt (zw yy (zr (jA3 (xT 0) (xT 0) (jv 2))) (zX yi (jv 0) (yd zn) yc)))))))),?_⟩
 have sl:=zJ;refine cut0 fun r0_ hr0_=>?_;have mid:∀{t g:Str}{rs:List V}{q1:Addr}{ns:LS},H p=some (.tup (.str t::.str g::.ref q1::rs))->H q1=some (.tup (ns.map V.str))->ns.length<=1000->rs.length<=2->t≠"num"->t≠"op"->(t="ask"->rs=[])->cutV (V.str t::.str g::.ref q1::rs) (some 3) none=rs->(∀H' r q2,Same H H'->H' r=some (.tup (.str t::.str (if t="ask"then nwF l g else g)::.ref q2::rs))->H' q2=some (.tup ((ns.map (nwF l)).map V.str))->Q (.ref r) H')->r0_ { nx:=fun _ H'=>Q .non H',rt:=Q } [oR p,oR d,none] H:=by
  intro t g rs q1 ns h0 h1 nl rl n1 n2 na hc q;subst hr0_;refine(zf rfl (ixT h0 aI0 ⟨rfl,(zf rfl (iteE (decide_eq_false fun z=>n1 (V.str.inj z)) (nxtC ?_)))⟩));refine(zf rfl (ixT h0 aI0 ⟨rfl,(zf rfl (iteE (decide_eq_false fun z=>n2 (V.str.inj z)) (nxtC ?_)))⟩));refine(zf rfl (ixT h0 aI2 ⟨q1,rfl,⟨_,SqT.of h1⟩,xo (xs:=ns.map V.str) (fun i τ zs H'=>H=H'/\(∃y,τ=[oR p,oR d,none,y])/\zs=((ns.take i).map (nwF l)).map V.str) ⟨rfl,⟨none,rfl⟩,rfl⟩ (fun i τ zs H' _ h=>SqT.of (h.1 ▸ h1)) ?_ ?_⟩))
  ·rintro i v τ zs H1 hv ⟨rfl,⟨y,rfl⟩,rfl⟩
   obtain⟨x,hx,rfl⟩:=L2.gM hv;have hi:=(ue.mp hx).1;refine(zf rfl ⟨d,rfl,.inl ⟨_,.inl hN⟩,(zf rfl (zf rfl ⟨_,DGet.k (k:=.inr x) hN,?_⟩))⟩);rw[nwG];refine⟨by rw[ua,ua,uH];lia,rfl,⟨_,rfl⟩,?_⟩;rw[uI,hx,uh,uh]
   rfl
  rintro τ zs H1 ⟨rfl,_,rfl⟩ l1 f1;rw[ua,ux (ud _)];refine⟨l1,(zf rfl (.inl ⟨SqL.of zg,fun q2 f2=>?_⟩))⟩;have s2:=(zi (o:=.lst ((ns.map (nwF l)).map V.str)) f1).new (o:=.tup ((ns.map (nwF l)).map V.str)) f2;have e2:=zg (H:=upd H l1 (.lst ((ns.map (nwF l)).map V.str))) (a:=q2) (o:=.tup ((ns.map (nwF l)).map V.str));dsimp only[UO]
  generalize upd (upd H l1 (.lst ((ns.map (nwF l)).map V.str))) q2 (.tup ((ns.map (nwF l)).map V.str))=H2 at *;refine(zf rfl (ixT (s2 _ _ h0) aI0 ⟨rfl,(zf rfl ?_)⟩));by_cases c:t="ask"
  ·obtain rfl:=na c
   subst c;refine iteT (zf rfl ⟨d,rfl,.inl ⟨_,.inl (s2 _ _ hN)⟩,(zf rfl (ixT (s2 _ _ h0) aI1 (zf rfl (ixT (s2 _ _ h0) aI1 ⟨_,DGet.k (k:=.inr g) (s2 _ _ hN),?_⟩))))⟩);rw[nwG];refine(zf rfl ⟨sN3,fun r fr=>?_⟩);exact q _ r q2 (s2.new fr) zg (old fr e2)
  ·refine iteE (decide_eq_false fun z=>c (V.str.inj z)) (nxtC ?_)
   rw[if_neg c]at q;refine(zf rfl (ixT (s2 _ _ h0) aI0 (zf rfl (ixT (s2 _ _ h0) aI1 (zf rfl ⟨sN3,fun t3 f3=>?_⟩)))));refine(zf rfl ⟨3,rfl,p,(zf rfl ⟨old f3 (s2 _ _ h0),fun p4 H4 s4 h4=>?_⟩)⟩);rw[hc]at h4;have s24:Same H H4:=(s2.new (o:=.tup [.str t,.str g,.ref q2]) f3).trans s4;have e24:H4 q2=some (.tup ((ns.map (nwF l)).map V.str)):=(show Same _ H4 from s4) _ _ (old f3 e2);have e34:H4 t3=some (.tup [.str t,.str g,.ref q2]):=(show Same _ H4 from s4) _ _ zg;refine⟨t3,p4,(zv rfl rfl ⟨SqT.of e34,SqT.of h4,(by intro z;cases z),by show 3+rs.length<=sizeLine;lia,(fun e=>?_),fun _ r fr=>?_⟩)⟩
   ·rw[e]at q
    exact q _ t3 q2 s24 e34 e24
   ·exact q _ r q2 (s24.new fr) zg (old fr e24)
 cases dd with
 |num i =>
  have h0:H p=some (.tup [.str "num",.int i]):=hI;subst hr0_;exact(zf rfl (ixT h0 aI0 ⟨rfl,(zf rfl (iteT (zf rfl (q H p (.refl _) hI))))⟩))
 |op w a b =>
  have h0:H p=some (.tup [.str "op",.str w,.str a,.str b]):=hI;subst hr0_;refine(zf rfl (ixT h0 aI0 ⟨rfl,(zf rfl (iteF (nxtC ?_)))⟩));refine(zf rfl (ixT h0 aI0 ⟨rfl,(zf rfl (iteT ?_))⟩));refine(zf rfl (ixT h0 aI1 (zf rfl ⟨d,rfl,.inl ⟨_,.inl hN⟩,(zf rfl (ixT h0 aI2 (zf rfl (ixT h0 aI2 ⟨_,DGet.k (k:=.inr a) hN,?_⟩))))⟩)));rw[nwG];refine(zf rfl ⟨d,rfl,.inl ⟨_,.inl hN⟩,(zf rfl (ixT h0 aI3 (zf rfl (ixT h0 aI3 ⟨_,DGet.k (k:=.inr b) hN,?_⟩))))⟩);rw[nwG];refine⟨sN4,fun r fr=>?_⟩;exact q _ r (zi fr _) zg
 |mk t ns k =>
  obtain⟨q1,h0,h1⟩:=hI;exact mid (rs:=[.str k]) h0 h1 hl (by show 1<=2;decide) (by decide) (by decide) (fun z=>absurd z (by decide)) rfl fun H' r q2 s e1 e2=>q H' r s ⟨q2,e1,e2⟩
 |call g ns =>
  obtain⟨q1,h0,h1⟩:=hI;exact mid (rs:=[]) h0 h1 hl (by decide) (by decide) (by decide) (fun _=>rfl) rfl fun H' r q2 s e1 e2=>q H' r s ⟨q2,e1,e2⟩
 |fn g ns =>
  obtain⟨q1,h0,h1⟩:=hI;exact mid (rs:=[]) h0 h1 hl (by decide) (by decide) (by decide) (fun _=>rfl) rfl fun H' r q2 s e1 e2=>q H' r s ⟨q2,e1,e2⟩
 |ask g ns =>
  obtain⟨q1,h0,h1⟩:=hI;exact mid (rs:=[]) h0 h1 (by have:ns.length+1<=1000:=hl;lia) (by decide) (by decide) (by decide) (fun _=>rfl) rfl fun H' r q2 s e1 e2=>q H' r s ⟨q2,e1,e2⟩
def ArmR.rn(f:Str->Str)(a:ArmR):ArmR:=⟨a.t,a.ns.map f,a.m,a.k,a.b.rn f⟩
theorem rn_l(f:Str->Str):∀as:Arms,(as.rn f).l=as.l.map (ArmR.rn f)
 |.nil=>by rw[Arms.rn];rfl
 |.cons t ns m k b r=>by rw[Arms.rn,Arms.l,Arms.l,ur,rn_l f r];rfl
theorem VU:∀{as:Arms}{q:ArmR},as.pl->q∈as.l->q.ns.length<=1000/\q.b.pl
 |.nil,q,_,h=>by unfold Arms.l at h;cases h
 |.cons t xs m k b r,q,g,h=>by
  rw[Arms.pl]at g;unfold Arms.l at h;rcases uq.mp h with rfl|h
  ·exact⟨g.1,g.2.1⟩
  ·exact VU g.2.2 h
theorem vK{l:Addr}{ys:List V}(e:H l=some (.lst xs)):Tups H (upd H l (.lst ys)):=fun c zs q=>by
 rw[zj fun x=>by rw[x,e]at q;cases q];exact q
def Bd.x1:Bd->Str
 |.give x=>x
 |.lt x _ _=>x
 |.hold x _ _=>x
 |.drop x _=>x
 |.loose x _=>x
 |.iff x _ _=>x
 |.cs x _=>x
theorem zb7{b:Bd}(h:IsBd H b p):∃t rs,H p=some (.tup (.str t::.str b.x1::rs)):=by
 cases b with
 |give x=>exact⟨_,_,h⟩
 |lt x d b=>obtain⟨_,_,h,_⟩:=h;exact⟨_,_,h⟩
 |hold x d b=>obtain⟨_,h,_⟩:=h;exact⟨_,_,h⟩
 |drop x b=>obtain⟨_,h,_⟩:=h;exact⟨_,_,h⟩
 |loose x b=>obtain⟨_,h,_⟩:=h;exact⟨_,_,h⟩
 |iff x d b=>obtain⟨_,_,h,_⟩:=h;exact⟨_,_,h⟩
 |cs x b=>obtain⟨_,_,h,_⟩:=h;exact⟨_,_,h⟩
inductive spOBody(n:Nat)(vs:List V)(H:Hp)(Q:VK)(e_3:XK):Prop
 |mk (p:Addr) (d:Addr) (b:Bd):(∃l:List (Str×Str),vs=[.ref p,.ref d]/\IsBd H b p/\b.dp<=n/\b.sz<=1000000/\b.pl/\H d=some (.dK (em V.str l))/\∀H' r,Same H H'->IsBd H' (b.rn (nwF l)) r->Q (.ref r) H')->spOBody n vs H Q e_3
theorem scOBody:FnScope ["_law_body_here","_law_news","_law_name_here","_law_arms","_law_arm_here","_law_names"] lS8 (zp jt):=.ok
theorem Qu:(["_law_body_here","_law_news","_law_name_here","_law_arms","_law_arm_here","_law_names","_law_one"]:LS).Nodup:=by decide +kernel
theorem XM(F:Fun K "_law_other_body" "_law_other_body" jt f fd):FnOk P w K mg base CX0 1 f fd lS8 (spOBody 0):=by
 refine F.by scOBody (fun vs H Q E h=>?_) (fun cdv A outer s H vs Q E hr h=>?_)
 ·obtain⟨p,d,b,l,rfl,_⟩:=h
  rfl
 obtain⟨p,d,b,l,rfl,_,hd,_⟩:=h;exact absurd hd (Nat.not_le_of_gt b.dp_pos)
theorem VV(F:Fun K "_law_other_body" "_law_other_body" jt f fd)(GO:Ca P w K mg base CX0 (1+n) "_law_other_body" lS8 (spOBody n))(GD:Ca P w K mg base CX0 1 "_law_other_deed" lS19 spODeed)(m_tuple:mg "tuple"=none):FnOk P w K mg base CX0 (1+(n+1)) f fd lS8 (spOBody (n+1)):=by
 refine F.by scOBody (fun vs H Q E h=>?_) (fun cdv A outer s H vs Q E hr h=>?_)
 ·obtain⟨p,d,b,l,rfl,_⟩:=h
  rfl
 obtain⟨p,d,b,l,rfl,hI,hd,hz,hpl,hN,q⟩:=h;have hrG:Room (1+n) _:=hr;have hr1:Room 1 _:=hrG.mono (by lia);refine⟨_,
  (zh (sE 2 scOBody.nd (yB hr1 (jv 1) (xT 0) (xT 0)))
  (zh (zy (tN zD (xT 0) zq)
   (zk (zt (zr (jA2 zq (jv 2)))))  zu)
  (zh (zy (tN zD (xT 0) zq)
   (zk (zt (zr (jA4 zq (jv 2) (yB hr1 (jv 1) (xT 0) (xT 0)) (cA GO hr (jA2 (xT 0) (jv 1)))))))  zu)
  (zh (zy (tN zD (xT 0) zq)
   (zk (zt (zr (jA4 zq (jv 2) (cA GD hr1 (jA2 (xT 0) (jv 1))) (cA GO hr (jA2 (xT 0) (jv 1)))))))  zu)
  (zh (zy (tN zD (xT 0) zq)
   (zk (zt (zr (jA4 zq (jv 2) (cA GO hr (jA2 (xT 0) (jv 1))) (cA GO hr (jA2 (xT 0) (jv 1)))))))  zu)
  (zh (zy (tN zD (xT 0) zq)
   (zk (zt (zr (jA3 zq (jv 2) (cA GO hr (jA2 (xT 0) (jv 1)))))))  zu)
  (zh (sE 3 scOBody.nd (zC zE))
  (zh (zM PassesOwn.never rfl (yn (xT 0)) (gN 4 scOBody.nd)
   (zh (sE 5 scOBody.nd (zB zz rfl m_tuple ut (jA1 (yo ["_law_one"] rfl (yn (xT 4)) (fun _ _ _ _ _=>(gN 6 Qu)) (fun _ _ _ _ _=>zL) (fun _ _ _ _ _=>(yB hr1 (jv 1) (jv 6) (jv 6)))))))
   (zk (zF (zV uk uy uz zG (jv 3) (jA1 (zr (jA5 (xT 4) (jv 5) (xT 4) (xT 4) (cA GO hr (jA2 (xT 4) (jv 1)))))))))))
  (zk (zt (zr (jA3 zq (jv 2) (zB zz rfl m_tuple ut (jA1 (jv 3))))))))))))))),?_⟩
 have sl:=zJ;obtain⟨t0,rs0,hx⟩:=zb7 hI;refine(zf rfl ⟨d,rfl,.inl ⟨_,.inl hN⟩,(zf rfl (ixT hx aI1 (zf rfl (ixT hx aI1 ⟨_,DGet.k (k:=.inr b.x1) hN,?_⟩))))⟩);rw[nwG];clear hx;cases b with
 |give y =>
  have h0:H p=some (.tup [.str "give",.str y]):=hI;refine(zf rfl (ixT h0 aI0 ⟨rfl,(zf rfl (iteT (zf rfl ⟨sN2,fun r fr=>q _ r (zi fr _) ?_⟩)))⟩));rw[Bd.rn];exact zg
 |loose y b=>rw[Bd.pl]at hpl;cases hpl
 |hold y z b =>
  obtain⟨p1,h0,h1⟩:=hI;rw[Bd.dp]at hd;rw[Bd.sz]at hz;rw[Bd.pl]at hpl;rw[Bd.rn]at q;refine(zf rfl (ixT h0 aI0 ⟨rfl,(zf rfl (iteF (nxtC ?_)))⟩));refine(zf rfl (ixT h0 aI0 ⟨rfl,(zf rfl (iteT ?_))⟩));refine(zf rfl (zf rfl ⟨d,rfl,.inl ⟨_,.inl hN⟩,(zf rfl (ixT h0 aI2 (zf rfl (ixT h0 aI2 ⟨_,DGet.k (k:=.inr z) hN,?_⟩))))⟩));rw[nwG];refine(zf rfl (ixT h0 aI3 (zf rfl ⟨p1,d,b,l,rfl,h1,by lia,by lia,hpl,hN,fun H1 r1 s1 e1=>⟨sN4,fun r fr=>?_⟩⟩)));have s2:=zi (H:=H1) (o:=.tup [.str "hold",.str (nwF l y),.str (nwF l z),.ref r1]) fr;exact q _ r (s1.trans s2) ⟨r1,zg,e1.keep (.of s2)⟩
 |lt y dd b =>
  obtain⟨p0,p1,h0,hD,h1⟩:=hI;rw[Bd.dp]at hd;rw[Bd.sz]at hz;rw[Bd.pl]at hpl;rw[Bd.rn]at q;refine(zf rfl (ixT h0 aI0 ⟨rfl,(zf rfl (iteF (nxtC ?_)))⟩));refine(zf rfl (ixT h0 aI0 ⟨rfl,(zf rfl (iteF (nxtC ?_)))⟩));refine(zf rfl (ixT h0 aI0 ⟨rfl,(zf rfl (iteT ?_))⟩));refine(zf rfl (zf rfl (ixT h0 aI2 (zf rfl ⟨p0,d,dd,l,rfl,hD,hN,hpl.1,fun H0 r0 s0 e0=>?_⟩))));refine(zf rfl (ixT (s0 _ _ h0) aI3 (zf rfl ⟨p1,d,b,l,rfl,h1.keep (.of s0),by lia,by lia,hpl.2,s0 _ _ hN,fun H1 r1 s1 e1=>⟨sN4,fun r fr=>?_⟩⟩)));have s2:=zi (H:=H1) (o:=.tup [.str "let",.str (nwF l y),.ref r0,.ref r1]) fr;exact q _ r ((s0.trans s1).trans s2) ⟨r0,r1,zg,(e0.keep (.of s1)).keep (.of s2),e1.keep (.of s2)⟩
 |iff y b c =>
  obtain⟨p0,p1,h0,hD,h1⟩:=hI;rw[Bd.dp]at hd;rw[Bd.sz]at hz;rw[Bd.pl]at hpl;rw[Bd.rn]at q;refine(zf rfl (ixT h0 aI0 ⟨rfl,(zf rfl (iteF (nxtC ?_)))⟩));refine(zf rfl (ixT h0 aI0 ⟨rfl,(zf rfl (iteF (nxtC ?_)))⟩));refine(zf rfl (ixT h0 aI0 ⟨rfl,(zf rfl (iteF (nxtC ?_)))⟩));refine(zf rfl (ixT h0 aI0 ⟨rfl,(zf rfl (iteT ?_))⟩));refine(zf rfl (zf rfl (ixT h0 aI2 (zf rfl ⟨p0,d,b,l,rfl,hD,by lia,by lia,hpl.1,hN,fun H0 r0 s0 e0=>?_⟩))));refine(zf rfl (ixT (s0 _ _ h0) aI3 (zf rfl ⟨p1,d,c,l,rfl,h1.keep (.of s0),by lia,by lia,hpl.2,s0 _ _ hN,fun H1 r1 s1 e1=>⟨sN4,fun r fr=>?_⟩⟩)));have s2:=zi (H:=H1) (o:=.tup [.str "if",.str (nwF l y),.ref r0,.ref r1]) fr;exact q _ r ((s0.trans s1).trans s2) ⟨r0,r1,zg,(e0.keep (.of s1)).keep (.of s2),e1.keep (.of s2)⟩
 |drop y b =>
  obtain⟨p1,h0,h1⟩:=hI;rw[Bd.dp]at hd;rw[Bd.sz]at hz;rw[Bd.pl]at hpl;rw[Bd.rn]at q;refine(zf rfl (ixT h0 aI0 ⟨rfl,(zf rfl (iteF (nxtC ?_)))⟩));refine(zf rfl (ixT h0 aI0 ⟨rfl,(zf rfl (iteF (nxtC ?_)))⟩));refine(zf rfl (ixT h0 aI0 ⟨rfl,(zf rfl (iteF (nxtC ?_)))⟩));refine(zf rfl (ixT h0 aI0 ⟨rfl,(zf rfl (iteF (nxtC ?_)))⟩));refine(zf rfl (ixT h0 aI0 ⟨rfl,(zf rfl (iteT ?_))⟩));refine(zf rfl (zf rfl (ixT h0 aI2 (zf rfl ⟨p1,d,b,l,rfl,h1,by lia,by lia,hpl,hN,fun H1 r1 s1 e1=>⟨sN3,fun r fr=>?_⟩⟩))));have s2:=zi (H:=H1) (o:=.tup [.str "drop",.str (nwF l y),.ref r1]) fr;exact q _ r (s1.trans s2) ⟨r1,zg,e1.keep (.of s2)⟩
 |cs x as =>
  obtain⟨p1,ts,h0,h1,hA⟩:=hI;rw[Bd.dp]at hd;rw[Bd.sz]at hz;rw[Bd.pl]at hpl;rw[Bd.rn]at q;have aa:=yO hA;have al:=All2.len aa;have sl2:=as.lLen;refine(zf rfl (ixT h0 aI0 ⟨rfl,(zf rfl (iteF (nxtC ?_)))⟩));refine(zf rfl (ixT h0 aI0 ⟨rfl,(zf rfl (iteF (nxtC ?_)))⟩));refine(zf rfl (ixT h0 aI0 ⟨rfl,(zf rfl (iteF (nxtC ?_)))⟩));refine(zf rfl (ixT h0 aI0 ⟨rfl,(zf rfl (iteF (nxtC ?_)))⟩));refine(zf rfl (ixT h0 aI0 ⟨rfl,(zf rfl (iteF (nxtC ?_)))⟩));refine⟨sN0,fun la fa=>?_⟩;have s1:=zi fa (.lst []);have e1:=zg (H:=H) (a:=la) (o:=.lst []);dsimp only
  generalize upd H la (.lst [])=H1 at *;refine(zf rfl (ixT (s1 _ _ h0) aI2 ⟨p1,rfl,⟨_,SqT.of (s1 _ _ h1)⟩,xx (xs:=ts.map V.ref) (fun i σ H'=>Same H H'/\(∃y y',σ=[oR p,oR d,some (.str (nwF l x)),oR la,y,y'])/\∃us:List Addr,H' la=some (.lst (us.map V.ref))/\All2 (IsAr H') ((as.l.map (ArmR.rn (nwF l))).take i) us) ⟨s1,⟨none,none,rfl⟩,[],e1,.nil⟩ (fun i σ H' _ h=>SqT.of (h.1 _ _ h1)) ?_ ?_⟩))
  ·rintro i v σ H2 hv ⟨s2,⟨y,y',rfl⟩,us,e2,hu⟩
   obtain⟨t,ht,rfl⟩:=L2.gM hv;obtain⟨a,ha,hA1⟩:=All2.get aa ht;obtain⟨q1,r1,a1,a2,a3⟩:=hA1.keep (.of s2);have hm:=uv ha;have d1:=vI hm;have z1:=Ys hm;have pl1:=VU hpl hm;have ul:=All2.len hu;rw[uH,ua]at ul;have hi:=(ue.mp ha).1;have hN2:=s2 _ _ hN;refine(zf rfl (ixT a1 aI1 ⟨q1,rfl,⟨_,SqT.of a2⟩,xo (xs:=a.ns.map V.str) (fun j τ zs H'=>H2=H'/\(∃z,τ=[oR p,oR d,some (.str (nwF l x)),oR la,oR t,y',z])/\zs=((a.ns.take j).map (nwF l)).map V.str) ⟨rfl,⟨none,rfl⟩,rfl⟩ (fun j τ zs H' _ h=>SqT.of (h.1 ▸ a2)) ?_ ?_⟩))
   ·rintro j v τ zs H3 hv ⟨rfl,⟨z,rfl⟩,rfl⟩
    obtain⟨x3,hx3,rfl⟩:=L2.gM hv;have hj:=(ue.mp hx3).1;refine(zf rfl ⟨d,rfl,.inl ⟨_,.inl hN2⟩,(zf rfl (zf rfl ⟨_,DGet.k (k:=.inr x3) hN2,?_⟩))⟩);rw[nwG];refine⟨by rw[ua,ua,uH];lia,rfl,⟨_,rfl⟩,?_⟩;rw[uI,hx3,uh,uh]
    rfl
   rintro τ zs H3 ⟨rfl,_,rfl⟩ l3 f3;rw[ua,ux (ud _)];refine⟨l3,(zf rfl (.inl ⟨SqL.of zg,fun q3 f4=>?_⟩))⟩;have s4:=(zi (o:=.lst ((a.ns.map (nwF l)).map V.str)) f3).new (o:=.tup ((a.ns.map (nwF l)).map V.str)) f4;have e4:=zg (H:=upd H2 l3 (.lst ((a.ns.map (nwF l)).map V.str))) (a:=q3) (o:=.tup ((a.ns.map (nwF l)).map V.str));dsimp only[UO]
   generalize upd (upd H2 l3 (.lst ((a.ns.map (nwF l)).map V.str))) q3 (.tup ((a.ns.map (nwF l)).map V.str))=H4 at *;refine(zf rfl ⟨.inl ⟨rfl,_,SqL.of (s4 _ _ e2)⟩,(zf rfl (ixT (s4 _ _ a1) aI0 (zf rfl (zf rfl (ixT (s4 _ _ a1) aI2 (zf rfl (ixT (s4 _ _ a1) aI3 (zf rfl (ixT (s4 _ _ a1) aI4 (zf rfl ⟨r1,d,a.b,l,rfl,a3.keep (.of s4),by lia,by lia,pl1.2,s4 _ _ hN2,fun H5 r5 s5 e5=>⟨sN5,fun t6 f6=>?_⟩⟩))))))))))⟩);have s6:=s5.new (o:=.tup [.str a.t,.ref q3,.str a.m,.str a.k,.ref r5]) f6;have s26:=s4.trans s6;refine⟨la,(zv rfl rfl ⟨s26 _ _ e2,by rw[ua];lia,?_⟩)⟩;have hAr:IsAr (upd H5 t6 (.tup [.str a.t,.ref q3,.str a.m,.str a.k,.ref r5])) (ArmR.rn (nwF l) a) t6:=⟨q3,r5,zg,s6 _ _ e4,e5.keep (.of (zi f6 _))⟩;have tp:Tups _ (upd (upd H5 t6 (.tup [.str a.t,.ref q3,.str a.m,.str a.k,.ref r5])) la (.lst (us.map V.ref++[.ref t6]))):=vK (s26 _ _ e2);refine⟨(s2.trans s26).put fa,⟨_,_,rfl⟩,us++[t6],by rw[zg,uh];rfl,?_⟩;rw[uI,ug,ha];exact((hu.imp fun _ _ z=>z.keep (.of s26)).app (.cons hAr .nil)).imp fun _ _ z=>z.keep tp
  ·rintro σ H2 ⟨s2,⟨y,y',rfl⟩,us,e2,hu⟩
   rw[ua,ux (by rw[ua];lia)]at hu;refine(zf rfl (zf rfl ⟨la,(zf rfl (.inl ⟨SqL.of e2,fun t3 f3=>⟨sN3,fun r fr=>?_⟩⟩))⟩));have s3:=(zi (o:=.tup (us.map V.ref)) f3).new (o:=.tup [.str "case",.str (nwF l x),.ref t3]) fr;refine q _ r (s2.trans s3) ⟨t3,us,zg,old fr zg,xv ?_⟩;rw[rn_l];exact hu.imp fun _ _ z=>z.keep (.of s3)
def Q9:Sp:=fun vs H Q _=>∃z:Str,vs=[.str z]/\z.length<=1000/\∀H' b,Same H H'->Q (.bl b) H'
inductive spBndBy(n:Nat)(vs:List V)(H:Hp)(Q:VK)(e_3:XK):Prop
 |mk (p:Addr) (b:Bd):(∃z:Str,vs=[.ref p,.str z]/\IsBd H b p/\b.dp<=n/\b.binds.length<=1000000/\(z="let"\/z="hold")/\∀H' r (l:LS),Same H H'->H r=none->l.length<=b.binds.length->H' r=some (.lst (l.map V.str))->Q (.ref r) H')->spBndBy n vs H Q e_3
theorem scMay:FnScope ["_law_word","_law_sign","_law_some_here"] ["_law_word"] (zp sMay):=.ok
theorem zby(F:Fun K "_law_may_be_name" "_law_may_be_name" sMay f fd)(m_len:mg "len"=none):FnOk P w K mg base CX0 1 f fd ["_law_word"] Q9:=by
 refine F.by scMay (fun vs H Q E h=>?_) (fun cdv A outer s H vs Q E hr h=>?_)
 ·obtain⟨z,rfl,_⟩:=h
  rfl
 obtain⟨z,rfl,hz,q⟩:=h;refine⟨_,
  (zh (zy (jW.pt (yt (tN xV (ym Z6 rfl m_len PySem.boot_len (jA1 (jv 0))) zn) (yv (tN zD (jv 0) zq))))
   (zk (zt yA))  zu)
  (zh (zM PassesOwn.never rfl (zaP rfl (jv 0)) (gN 1 scMay.nd)
   (zk (zy (xa jX (jv 1) zq (by with_unfolding_all rfl))
    (zk (zt yA))  zu)))
  (zh (sE 2 scMay.nd zq)
  (zk (zt (xz xW (jv 0) (zV PySem.F.plainAttrs_str PySem.F.slot_str_split PySem.F.type_str_split Wp (jv 2) (jA1 zq)) (by with_unfolding_all rfl))))))),?_⟩
 have sl:=zJ;refine(zf rfl ⟨z,rfl,by lia,(zv rfl rfl (zf rfl (ite2 (fun _=>iteT (q H false (.refl _))) (fun _=>(zf rfl ⟨rfl,(zf rfl (ite2 (fun _=>q H false (.refl _)) (fun _=>nxtC ?_)))⟩)))))⟩);refine(zf rfl ⟨z,rfl,Qr (fun i σ H'=>H=H'/\∃y,σ=[some (.str z),y,none]) ⟨rfl,none,rfl⟩ ?_ ?_⟩)
 ·rintro i c σ H1 hc ⟨rfl,y,rfl⟩
  exact(zf rfl (zv rfl rfl (zf rfl (ite2 (fun _=>q H false (.refl _)) (fun _=>nxtC ⟨rfl,_,rfl⟩)))))
 ·rintro σ H1 ⟨rfl,y,rfl⟩
  refine(zf rfl (zf rfl ⟨rfl,(zv rfl rfl ⟨by decide +kernel,by decide +kernel,fun p2 hp2=>?_⟩)⟩));exact⟨p2,(zf rfl ⟨.inl (SqL.of zg),rfl,yJ,q _ _ (zi hp2 _)⟩)⟩
theorem scBndBy:FnScope ["_law_body_here","_law_word","_law_some_here","_law_arm_here"] lS9 (zp ju):=.ok
theorem XN(F:Fun K "_law_bound_by" "_law_bound_by" ju f fd):FnOk P w K mg base CX0 1 f fd lS9 (spBndBy 0):=by
 refine F.by scBndBy (fun vs H Q E h=>?_) (fun cdv A outer s H vs Q E hr h=>?_)
 ·obtain⟨p,b,z,rfl,_⟩:=h
  rfl
 obtain⟨p,b,z,rfl,_,hd,_⟩:=h;exact absurd hd (Nat.not_le_of_gt b.dp_pos)
theorem VW(F:Fun K "_law_bound_by" "_law_bound_by" ju f fd)(GB:Ca P w K mg base CX0 (1+n) "_law_bound_by" lS9 (spBndBy n))(m_list:mg "list"=none):FnOk P w K mg base CX0 (1+(n+1)) f fd lS9 (spBndBy (n+1)):=by
 refine F.by scBndBy (fun vs H Q E h=>?_) (fun cdv A outer s H vs Q E hr h=>?_)
 ·obtain⟨p,b,z,rfl,_⟩:=h
  rfl
 obtain⟨p,b,z,rfl,hI,hd,hb,hw,q⟩:=h;refine⟨_,
  (zh (zy (tN zD (xT 0) zq)
   (zk (zt (zC zE)))  zu)
  (zh (zy (tN zD (xT 0) zq)
   (zk (zt (zw yj (cA GB hr (jA2 (xT 0) (jv 1))) (cA GB hr (jA2 (xT 0) (jv 1))))))  zu)
  (zh (sE 2 scBndBy.nd (zC zE))
  (zh (zy (tN zD (xT 0) zq)
   (zh (zM PassesOwn.never rfl (yn (xT 0)) (gN 3 scBndBy.nd)
    (zh (zy (tN zD (jv 1) zq)
     (zk (zF (zV uk UG PySem.F.type_list_extend vX (jv 2) (jA1 (zB zZ rfl m_list uO (jA1 (xT 3)))))))  zu)
    (zk (zF (zV uk UG PySem.F.type_list_extend vX (jv 2) (jA1 (cA GB hr (jA2 (xT 3) (jv 1)))))))))
   (zk (zt (jv 2))))  zu)
  (zh (zy (tN zD (xT 0) (jv 1))
   (zk (zF (zV uk uy uz zG (jv 2) (jA1 (xT 0)))))  zu)
  (zk (zt (zw yj (jv 2) (cA GB hr (jA2 (xX yp (jv 0) (yu zn)) (jv 1))))))))))),?_⟩
 have sl:=zJ;refine cut2 fun r1_ hr1_=>?_;have fin:∀{t y:Str}{xs:List V}{p1:Addr}{b1:Bd},H p=some (.tup (.str t::.str y::xs++[.ref p1]))->IsBd H b1 p1->b1.dp<=n->t≠"case"->b1.binds.length+(if t=z then 1 else 0)<=b.binds.length->r1_ { nx:=fun _ H'=>Q .non H',rt:=Q } [oR p,some (.str z),none,none] H:=by
  intro t y xs p1 b1 h0 h1 d1 tc hle;subst hr1_;refine cut3 fun r2_ hr2_=>?_;refine⟨sN0,fun la fa=>?_⟩;have s1:=zi fa (.lst []);have e1:=zg (H:=H) (a:=la) (o:=.lst []);dsimp only
  generalize upd H la (.lst [])=H1 at *;refine(zf rfl (ixT (s1 _ _ h0) aI0 ⟨rfl,(zf rfl (iteE (decide_eq_false fun e=>tc (V.str.inj e)) (nxtC ?_)))⟩));refine(zf rfl (ixT (s1 _ _ h0) aI0 (zf rfl ⟨rfl,(zf rfl ?_)⟩)))
  suffices rest:∀H2 (l:LS),Same H H2->H2 la=some (.lst (l.map V.str))->l.length<=(if t=z then 1 else 0)->r2_ { nx:=fun _ H'=>Q .non H',rt:=Q } [oR p,some (.str z),oR la,none] H2 by
   refine ite2 (fun c=>?_) (fun c=>nxtC (rest H1 [] s1 e1 (uF _)));rw[decide_eq_true_eq]at c;refine(zf rfl ⟨.inl ⟨rfl,_,SqL.of e1⟩,(zf rfl (ixT (s1 _ _ h0) aI1 ⟨la,(zv rfl rfl ⟨e1,by show 0 < sizeLine;decide,?_⟩)⟩))⟩);exact rest _ [y] (s1.put fa) zg (by rw[if_pos (V.str.inj c)];exact ud _)
  intro H2 l s2 e2 hl;subst hr2_;refine(zf rfl (zf rfl (zf rfl ⟨p,_,_,_,rfl,rfl,SqT.of (s2 _ _ h0),yV (.str t::.str y::xs) _,(zf rfl ⟨p1,b1,z,rfl,h1.keep (.of s2),d1,by lia,hw,fun H3 r3 l3 s3 f3 n3 e3=>?_⟩)⟩)));refine⟨la,r3,(zv rfl rfl ⟨s3 _ _ e2,e3,by rw[ua,ua];split at hl<;>lia,fun r fr=>?_⟩)⟩;refine q _ r (l++l3) ((s2.trans s3).new fr) ((s2.trans s3).free fr) (by rw[ub];lia) (by rw[zg,uh])
 cases b with
 |give y =>
  have h0:H p=some (.tup [.str "give",.str y]):=hI;exact(zf rfl (ixT h0 aI0 ⟨rfl,(zf rfl (iteT ⟨sN0,fun r fr=>q _ r [] (zi fr _) fr (uF _) zg⟩))⟩))
 |iff y b c =>
  obtain⟨p1,p2,h0,h1,h2⟩:=hI;rw[Bd.dp]at hd;rw[Bd.binds,ub]at hb q;refine(zf rfl (ixT h0 aI0 ⟨rfl,(zf rfl (iteF (nxtC ?_)))⟩));refine(zf rfl (ixT h0 aI0 ⟨rfl,(zf rfl (iteT ?_))⟩));refine(zf rfl (ixT h0 aI2 (zf rfl ⟨p1,b,z,rfl,h1,by lia,by lia,hw,fun H1 r1 l1 s1 f1 n1 e1=>?_⟩)));refine(zf rfl (ixT (s1 _ _ h0) aI3 (zf rfl ⟨p2,c,z,rfl,h2.keep (.of s1),by lia,by lia,hw,fun H2 r2 l2 s2 f2 n2 e2=>?_⟩)));refine⟨r1,r2,(zv rfl rfl ⟨s2 _ _ e1,e2,by rw[ua,ua];lia,fun r fr=>?_⟩)⟩;exact q _ r (l1++l2) ((s1.trans s2).new fr) ((s1.trans s2).free fr) (by rw[ub];lia) (by rw[zg,uh])
 |cs x as =>
  obtain⟨p1,ts,h0,h1,hA⟩:=hI;rw[Bd.dp]at hd;rw[Bd.binds,jY]at hb q;have aa:=yO hA;have al:=All2.len aa;subst hr1_;refine(zf rfl (ixT h0 aI0 ⟨rfl,(zf rfl (iteF (nxtC ?_)))⟩));refine(zf rfl (ixT h0 aI0 ⟨rfl,(zf rfl (iteF (nxtC ?_)))⟩));refine⟨sN0,fun la fa=>?_⟩;have s1:=zi fa (.lst []);have e1:=zg (H:=H) (a:=la) (o:=.lst []);dsimp only
  generalize upd H la (.lst [])=H1 at *;refine(zf rfl (ixT (s1 _ _ h0) aI0 ⟨rfl,(zf rfl (iteT ?_))⟩));refine(zf rfl (ixT (s1 _ _ h0) aI2 ⟨p1,rfl,⟨_,SqT.of (s1 _ _ h1)⟩,xx (xs:=ts.map V.ref) (fun i σ H'=>Same H H'/\(∃y,σ=[oR p,some (.str z),oR la,y])/\∃l:LS,H' la=some (.lst (l.map V.str))/\l.length<=((as.l.take i).flatMap fun a=>a.ns++a.b.binds).length) ⟨s1,⟨none,rfl⟩,[],e1,uF _⟩ (fun i σ H' _ h=>SqT.of (h.1 _ _ h1)) ?_ ?_⟩))
  ·rintro i v σ H2 hv ⟨s2,⟨y,rfl⟩,l,e2,hl⟩
   obtain⟨t,ht,rfl⟩:=L2.gM hv;obtain⟨a,ha,hA1⟩:=All2.get aa ht;obtain⟨q1,r1,a1,a2,a3⟩:=hA1.keep (.of s2);have d1:=vI (uv ha);have g1:=yI (fun a:ArmR=>a.ns++a.b.binds) as.l (i+1);rw[wH _ ha,ub,ub]at g1 ⊢;refine cut1 fun r3_ hr3_=>?_
   suffices rest:∀H3 (l3:LS),Same H H3->Tups H2 H3->H3 la=some (.lst (l3.map V.str))->l3.length<=l.length+a.ns.length->r3_ _ [oR p,some (.str z),oR la,oR t] H3 by
    refine(zf rfl ⟨rfl,(zf rfl (ite2 (fun _=>?_) (fun _=>nxtC (rest H2 l s2 (.of (.refl _)) e2 (Nat.le_add_right _ _)))))⟩);refine(zf rfl ⟨.inl ⟨rfl,_,SqL.of e2⟩,(zf rfl (ixT a1 aI1 ⟨q1,(zf rfl ⟨.inr (SqT.of a2),fun l4 f4=>?_⟩)⟩))⟩);have s4:=zi f4 (.lst (a.ns.map V.str));refine⟨la,l4,(zv rfl rfl ⟨s4 _ _ e2,zg,by rw[ua,ua];lia,?_⟩)⟩;rw[<- uh];exact rest _ (l++a.ns) ((s2.trans s4).put fa) ((Tups.of s4).trans (vK (s4 _ _ e2))) zg (by rw[ub];lia)
   intro H3 l3 s3 t3 e3 hl3;subst hr3_;refine(zf rfl ⟨.inl ⟨rfl,_,SqL.of e3⟩,(zf rfl (ixT (t3 _ _ a1) aI4 (zf rfl ⟨r1,a.b,z,rfl,a3.keep t3,by lia,by lia,hw,fun H4 r4 l4 s4 f4 n4 e4=>?_⟩)))⟩);refine⟨la,r4,(zv rfl rfl ⟨s4 _ _ e3,e4,by rw[ua,ua];lia,?_⟩)⟩;rw[<- uh];exact⟨(s3.trans s4).put fa,⟨_,rfl⟩,l3++l4,zg,by rw[ub];lia⟩
  ·rintro σ H2 ⟨s2,⟨y,rfl⟩,l,e2,hl⟩
   rw[ua,<- al,ux (ud _)]at hl;exact(zf rfl (q H2 la l s2 fa hl e2))
 |lt y d b =>
  obtain⟨p0,p1,h0,hD,h1⟩:=hI;rw[Bd.dp]at hd;refine(zf rfl (ixT h0 aI0 ⟨rfl,(zf rfl (iteF (nxtC ?_)))⟩));refine(zf rfl (ixT h0 aI0 ⟨rfl,(zf rfl (iteF (nxtC ?_)))⟩));exact fin (xs:=[.ref p0]) h0 h1 (by lia) (by decide) (by rw[Bd.binds,um];split<;>lia)
 |hold y d b =>
  obtain⟨p1,h0,h1⟩:=hI;rw[Bd.dp]at hd;refine(zf rfl (ixT h0 aI0 ⟨rfl,(zf rfl (iteF (nxtC ?_)))⟩));refine(zf rfl (ixT h0 aI0 ⟨rfl,(zf rfl (iteF (nxtC ?_)))⟩));exact fin (xs:=[.str d]) h0 h1 (by lia) (by decide) (by rw[Bd.binds,um];split<;>lia)
 |drop y b =>
  obtain⟨p1,h0,h1⟩:=hI;rw[Bd.dp]at hd;refine(zf rfl (ixT h0 aI0 ⟨rfl,(zf rfl (iteF (nxtC ?_)))⟩));refine(zf rfl (ixT h0 aI0 ⟨rfl,(zf rfl (iteF (nxtC ?_)))⟩));exact fin (xs:=[]) h0 h1 (by lia) (by decide) (by rw[Bd.binds,if_neg (by rcases hw with rfl|rfl<;>decide)];lia)
 |loose y b =>
  obtain⟨p1,h0,h1⟩:=hI;rw[Bd.dp]at hd;refine(zf rfl (ixT h0 aI0 ⟨rfl,(zf rfl (iteF (nxtC ?_)))⟩));refine(zf rfl (ixT h0 aI0 ⟨rfl,(zf rfl (iteF (nxtC ?_)))⟩));exact fin (xs:=[]) h0 h1 (by lia) (by decide) (by rw[Bd.binds,if_neg (by rcases hw with rfl|rfl<;>decide)];lia)
structure NewOf(d d':Df):Prop where
 g:d'.g=d.g
 p:d'.ps=d.ps
 o:d'.os=d.os
 r:AnR d d'.b
 dp:d'.b.dp<=160
 sz:d'.b.sz<=1000000
 k:∀k∈wiB d'.b,k.length<=1000
def Codes(H:Hp)(p r:Addr)(ds ds':List Df):Prop:=∃kv pd pr os rs xs,H p=some (.tup [.ref kv,.ref pd])/\H pd=some (.tup (os.map V.ref))/\H r=some (.tup [.ref kv,.ref pr])/\H pr=some (.tup (rs.map V.ref))/\H kv=some (.tup xs)/\IsDfs H ds os/\IsDfs H ds' rs/\All2 NewOf ds ds'/\ds.length<=3/\∀d∈ds,DfW d
theorem ja{d':Df}(h:NewOf d d'):d'.b.binds=d.b.binds:=by rw[<- Bd.bare_binds,h.r.bare]
theorem DfW.rn(f:Str->Str)(h:DfW d):DfW ⟨d.g,d.ps.map f,d.os,d.b.rn f⟩:=by
 obtain⟨e1,e2,e3,e4,e5,e6,e7⟩:=Bd.rn_st (f:=f) d.b;exact⟨⟨by show(d.ps.map f).length<=_;rw[ua];exact h.an.ps,by show(d.b.rn f).binds.length<=_;rw[e7];exact h.an.bn,by show 2 ^ (d.b.rn f).cd*(d.b.rn f).sz<=_;rw[e5,e6];exact h.an.sz⟩,by show ∀k∈(d.b.rn f).atk,_;rw[e2];exact h.a,by show ∀q∈(d.b.rn f).mks,_;rw[e3];exact h.m,by show(d.b.rn f).dp+(d.b.rn f).cd<=_;rw[e4,e6];exact h.dp,by show(d.b.rn f).pl;rw[e1];exact h.l⟩
theorem pop_strs{ts:LS}{t:Str}:((ts++[t]).map V.str)[((ts++[t]).map V.str).length-1]?=some (.str t)/\((ts++[t]).map V.str).dropLast=ts.map V.str:=by
 rw[uh];refine⟨?_,by show(_++[_]).dropLast=_;rw[List.dropLast_concat]⟩;rw[ub,ua];show(ts.map V.str++[V.str t])[ts.length+1-1]?=_;rw[uR (by rw[ua];lia),ua];simp
theorem Xc{α:Type}:∀{l:List α},l≠[]->∃m a,l=m++[a]
 |l,h=>⟨l.dropLast,l.getLast h,(List.dropLast_concat_getLast h).symm⟩
theorem vc{x y:Addr}(s:Same H H1)(hx:H x=none)(hy:H y=none)(k:KM (M2 x y) H1 H2):Same H H2:=fun b u e=>k b u (fun z=>by
 rcases z with rfl|rfl
 ·rw[hx]at e;cases e
 ·rw[hy]at e;cases e) (s b u e)
structure Nws(H:Hp)(l d:Addr)(n:Nat)(H':Hp):Prop where
 k:KM (M2 l d) H H'
 e:∃(ts:LS)(nw:List (Str×Str)),H' l=some (.lst (ts.map V.str))/\H' d=some (.dK (em V.str nw))/\nw.length<=n/\ts.length<=1000000/\∀t∈ts,t.length<=1000
theorem Nws.same{l d:Addr}{m:Nat}(h:Nws H l d n H1)(s:Same H1 H2)(hn:n<=m):Nws H l d m H2:=by
 obtain⟨ts,nw,a,b,c,e⟩:=h.e;exact⟨h.k.trans (.of s),ts,nw,s _ _ a,s _ _ b,uC c hn,e⟩
theorem Nws.pop{l d:Addr}{ts:LS}{t:Str}(k:KM (M2 l d) H H1)(ne:l≠d)(hx:look nw x=none)(hl:nw.length<=n)(ht:(ts++[t]).length<=1000000/\∀z∈ts++[t],z.length<=1000):Nws H l d (n+1) (upd (upd H1 l (.lst ((ts++[t]).map V.str).dropLast)) d (.dK (putK (em V.str nw) (.inr x) (.str t)))):=by
 rw[pop_strs.2,JK _ hx];refine⟨fun b u nb e=>?_,ts,_,by rw[zj ne];exact zg,zg,by rw[ub];show nw.length+1<=_;lia,by have:=ht.1;rw[ub]at this;lia,fun z hz=>ht.2 z (uP _ hz)⟩;rw[zj fun z=>nb (.inr z),zj fun z=>nb (.inl z)];exact k b u nb e
theorem Xd(c:(!(valV (em V.str nw) (.inr x)).isSome)=true):look nw x=none:=by
 rw[wZ]at c;cases e:look nw x with
 |none=>rfl
 |some y=>rw[e]at c;cases c
inductive spExch(vs:List V)(H:Hp)(Q:VK)(e_3:XK):Prop
 |mk (p:Addr) (r:Addr) (ds:List Df):(∃ds':List Df,vs=[.ref p,.ref r]/\Codes H p r ds ds'/\∀H' q ds2,Same H H'->IsCode H' ds2 q->IsKn H' q->ds2.length<=3->(∀d∈ds2,DfW d)->Q (.ref q) H')->spExch vs H Q e_3
theorem scExch:FnScope ["_law_code_here","_law_got","_law_defs","_law_one","_law_new","_law_tokens","_law_names","_law_news","_law_others","_law_name_here","_law_words","_law_params"] lS10 (zp WJ):=.ok
theorem Qv:(["_law_code_here","_law_got","_law_defs","_law_one","_law_new","_law_tokens","_law_names","_law_news","_law_others","_law_name_here","_law_words","_law_params","_law_token"]:LS).Nodup:=by decide +kernel
theorem Qw:(["_law_code_here","_law_got","_law_defs","_law_one","_law_new","_law_tokens","_law_names","_law_news","_law_others","_law_name_here","_law_words","_law_params","_law_param"]:LS).Nodup:=by decide +kernel
theorem Qx(F:Fun K "_law_exchanged" "_law_exchanged" WJ f fd)(GH:Ca P w K mg base CX0 161 "_law_heard" lS2 (spHeard 160))(GB:Ca P w K mg base CX0 161 "_law_bound_by" lS9 (spBndBy 160))(GM:Ca P w K mg base CX0 1 "_law_may_be_name" ["_law_word"] Q9)(GO:Ca P w K mg base CX0 161 "_law_other_body" lS8 (spOBody 160))(m_tuple:mg "tuple"=none)(m_list:mg "list"=none)(m_zip:mg "zip"=none):FnOk P w K mg base CX0 162 f fd lS10 spExch:=by
 refine F.by scExch (fun vs H Q E h=>?_) (fun cdv A outer s H vs Q E hr h=>?_)
 ·obtain⟨p,r,ds,ds',rfl,_⟩:=h
  rfl
 obtain⟨p,r,ds,ds',rfl,⟨kv,pd,pr,os,rs,xs,c1,c2,c3,c4,c5,I,I',hA,dl3,hW⟩,q⟩:=h;have hrG:Room 161 _:=hr;have hr1:Room 1 _:=hrG.mono (by lia);refine⟨_,
  (zh (sE 2 scExch.nd (zC zE))
  (zh (zM PassesOwn.never rfl (vk rfl m_zip (jA2 (xT 0) (xT 1))) (yR rfl (zA (gN 3 scExch.nd) (zA (gN 4 scExch.nd) yf)))
   (zh (sE 5 scExch.nd (zC zE))
   (zh (sE 6 scExch.nd (zB zZ rfl m_list uO (jA1 (xT 3))))
   (zh (zF (cA GH hrG (jA3 (xT 4) (jv 5) (jv 6))))
   (zh (sE 7 scExch.nd vt)
   (zh (sE 8 scExch.nd (zw yj (zB zZ rfl m_list uO (jA1 (xT 3))) (cA GB hrG (jA2 (xT 3) zq))))
   (zh (zM PassesOwn.never rfl (zY (cA GB hrG (jA2 (xT 3) zq))) (gN 9 scExch.nd)
    (zk (zy (jW.pt (yD (vZ hr1 (jv 9) (jv 7)) (yD (xa xW (jv 9) (jv 8) (by with_unfolding_all rfl)) (yG (tN (Z7 hr1) (jv 5) (zC zE))))))
     (zk (wX hr1 (jv 7) (jv 9) (xK uk uY uZ xM (jv 5))))  zu)))
   (zh (ye ["_law_token"] (i:=10) scExch.nd rfl (Or.inl rfl) rfl (zY (jv 5)) (fun _ _ _ _ _=>(gN 12 Qv)) (fun _ _ _ _ _=>(xA (ya (cA GM hr1 (jA1 (jv 12)))))) (fun _ _ _ _ _=>(jv 12)))
   (zh (zM PassesOwn.never rfl (zY (jv 6)) (gN 9 scExch.nd)
    (zk (zy (jW.pt (yD (vZ hr1 (jv 9) (jv 7)) (yG (tN (Z7 hr1) (jv 10) (zC zE)))))
     (zk (wX hr1 (jv 7) (jv 9) (xK uk uY uZ xM (jv 10))))  zu)))
   (zh (sE 11 scExch.nd (zB zz rfl m_tuple ut (jA1 (yo ["_law_param"] rfl (yn (xT 3)) (fun _ _ _ _ _=>(gN 12 Qw)) (fun _ _ _ _ _=>zL) (fun _ _ _ _ _=>(yB hr1 (jv 7) (jv 12) (jv 12)))))))
   (zk (zF (zV uk uy uz zG (jv 2) (jA1 (zr (jA4 (xT 3) (jv 11) (xT 3) (cA GO hrG (jA2 (xT 3) (jv 7)))))))))))))))))))
  (zk (zt (zr (jA2 (xT 0) (zB zz rfl m_tuple ut (jA1 (jv 2))))))))),?_⟩
 have sl:=zJ;refine⟨sN0,fun la fa=>?_⟩;have s1:=zi fa (.lst []);have e1:=zg (H:=H) (a:=la) (o:=.lst []);dsimp only
 generalize upd H la (.lst [])=H1 at *;have ol:=I.1;have rl:=I'.1;have al:=All2.len hA;refine(zf rfl (ixT (s1 _ _ c1) aI1 (zf rfl (ixT (s1 _ _ c3) aI1 ⟨pd,pr,false,false,_,_,rfl,SqK.t (s1 _ _ c2),SqK.t (s1 _ _ c4),YV (k:=false) (m:=false) (xs:=os.map V.ref) (ys:=rs.map V.ref) (by rw[ua,ua];lia) (fun i σ H'=>Same H H'/\(∃y3 y4 y5 y6 y7 y8 y9 y10 y11,σ=[oR p,oR r,oR la,y3,y4,y5,y6,y7,y8,y9,y10,y11])/\∃(us:List Addr)(es:List Df),H' la=some (.lst (us.map V.ref))/\IsDfs H' es us/\us.length=i/\∀d∈es,DfW d) ⟨s1,⟨none,none,none,none,none,none,none,none,none,rfl⟩,[],[],e1,⟨rfl,fun i d o h=>by simp at h⟩,rfl,fun d h=>by cases h⟩ (fun i σ H' _ h=>⟨SqK.t (h.1 _ _ c2),SqK.t (h.1 _ _ c4)⟩) ?_ ?_⟩))))
 ·rintro i v1 v2 T σ H2 hv1 hv2 hT ⟨s2,⟨y3,y4,y5,y6,y7,y8,y9,y10,y11,rfl⟩,us,es,e2,Ie,ul,hG⟩
  rw[ug]at hv1 hv2;obtain⟨o1,ho1,rfl⟩:=uj.mp hv1;obtain⟨o2,ho2,rfl⟩:=uj.mp hv2;have hi:=(ue.mp ho1).1;have hd:ds[i]?=some ds[i]:=ui (by lia);generalize ds[i]=d at hd;obtain⟨d',hd',hn⟩:=All2.getl hA hd;have hw:=hW d (uv hd);obtain⟨pp,po,pb,i1,i2,i3,i4⟩:=I.2 i d o1 hd ho1;obtain⟨pp',po',pb',i1',i2',i3',i4'⟩:=I'.2 i d' o2 hd' ho2;have fT:=s2.free hT;have s3:=s2.new (o:=.tup [.ref o1,.ref o2]) hT;refine⟨T,(zf rfl ⟨SqT.of zg,rfl,_,_,rfl,_,_,rfl,rfl,?_⟩)⟩;have e3:=old (o:=.tup [.ref o1,.ref o2]) hT e2;have I3:=Ie.keep (.of (zi hT (.tup [.ref o1,.ref o2])));dsimp only[UO]
  generalize upd H2 T (.tup [.ref o1,.ref o2])=H3 at *;clear e2 Ie s2 hT;have j1:=s3 _ _ i1;have j2:=s3 _ _ i2;have j3:=s3 _ _ i3;have j4:=i4.keep (.of s3);have j1':=s3 _ _ i1';have j4':=i4'.keep (.of s3);have w1:=hw.an.ps;have w2:=hw.an.bn;have w3:=hw.an.sz1;have w4:=hw.dp;have w5:=hw.l;have n1:=hn.sz;have n2:=hn.dp;have n3:=ja hn;have n4:=Q6 d'.b;refine cut3 fun r1_ hr1_=>?_
  suffices st1:∀(l5 l6:Addr)(H6:Hp)(ns:LS),Same H3 H6->H3 l5=none->H3 l6=none->Two H6 l5 l6 (wiB d'.b) ns->l5≠l6->ns.length<=1001000->r1_ _ [oR p,oR r,oR la,oR o1,oR o2,oR l5,oR l6,y7,y8,y9,y10,y11] H6 by
   refine⟨sN0,fun l5 f5=>?_⟩;have s5:=zi f5 (.lst []);have e5:=zg (H:=H3) (a:=l5) (o:=.lst []);dsimp only[UO]
   generalize upd H3 l5 (.lst [])=H5 at *;refine(zf rfl (ixT (s5 _ _ j1) aI1 ⟨pp,(zf rfl ⟨.inr (SqT.of (s5 _ _ j2)),fun l6 f6=>?_⟩)⟩));have s6:=zi f6 (.lst (d.ps.map V.str));have T6:Two (upd H5 l6 (.lst (d.ps.map V.str))) l5 l6 [] d.ps:=⟨s6 _ _ e5,zg⟩;have ne:l5≠l6:=fun z=>by rw[z,f6]at e5;cases e5
   dsimp only[UO]
   generalize upd H5 l6 (.lst (d.ps.map V.str))=H6 at *;have s56:=s5.trans s6;refine(zf rfl (ixT (s56 _ _ j1') aI3 (zf rfl (zf rfl ⟨pb',l5,l6,d'.b,[],d.ps,rfl,j4'.keep (.of s56),n2,T6,ne,by show 0+_<=_;lia,by rw[n3];lia,fun H7 k7 T7=>?_⟩))));rw[List.nil_append]at T7;exact st1 l5 l6 H7 _ (vc s56 f5 (s5.free f6) k7) f5 (s5.free f6) T7 ne (by rw[ub,n3];lia)
  intro l5 l6 H6 ns s6 f5 f6 T6 ne56 nl;subst hr1_;refine cut3 fun r2_ hr2_=>?_
  suffices st2:∀(d7 l8:Addr)(y9:Option V)(H9:Hp),Same H3 H9->H3 d7=none->d7≠l6->Nws H9 l5 d7 1000000 H9->H9 l6=some (.lst (ns.map V.str))->r2_ _ [oR p,oR r,oR la,oR o1,oR o2,oR l5,oR l6,oR d7,oR l8,y9,y10,y11] H9 by
   refine fun d7 f7=>?_;have s7:=zi f7 (.dK []);have e7:=zg (H:=H6) (a:=d7) (o:=.dK []);dsimp only[UO]
   generalize upd H6 d7 (.dK [])=H7 at *;have s37:=s6.trans s7;refine(zf rfl (ixT (s37 _ _ j1) aI1 ⟨pp,(zf rfl ⟨.inr (SqT.of (s37 _ _ j2)),fun t8 g8=>(zf rfl (ixT (s37.new g8 _ _ j1) aI3 ⟨pb,d.b,"let",rfl,j4.keep (.of (s37.new g8)),by lia,w2,.inl rfl,fun H8 r8 m8 s8 f8 n8 e8=>?_⟩))⟩)⟩));have e8':=s8 _ _ (zg (H:=H7) (a:=t8) (o:=.lst (d.ps.map V.str)));refine⟨t8,r8,(zv rfl rfl ⟨e8',e8,by rw[ua,ua];lia,fun l8 f8'=>?_⟩)⟩;have s78:=((zi g8 _).trans s8).new (o:=.lst (d.ps.map V.str++m8.map V.str)) f8';have e88:=zg (H:=H8) (a:=l8) (o:=.lst (d.ps.map V.str++m8.map V.str));rw[<- uh]at e88 s78 ⊢;dsimp only[UO]
   generalize upd H8 l8 (.lst ((d.ps++m8).map V.str))=H9 at *;have s39:=s37.trans s78;refine(zf rfl (ixT (s39 _ _ j1) aI3 ⟨pb,d.b,"hold",rfl,j4.keep (.of s39),by lia,w2,.inr rfl,fun H10 r10 m10 s10 f10 n10 e10=>?_⟩));have s310:=s39.trans s10;have s610:=s7.trans (s78.trans s10);have a5:=s610 _ _ T6.t;have a6:=s610 _ _ T6.n;have a7:=s78.trans s10 _ _ e7;have a8:=s10 _ _ e88;have ne57:l5≠d7:=fun z=>by rw[z,a7]at a5;cases a5
   have ne67:d7≠l6:=fun z=>by rw[z,a6]at a7;cases a7
   have nr5:r10≠l5:=fun z=>by rw[z,s7.trans s78 _ _ T6.t]at f10;cases f10
   have nr7:r10≠d7:=fun z=>by rw[z,s78 _ _ e7]at f10;cases f10
   have n85:l8≠l5:=fun z=>by rw[z,(s7.trans ((zi g8 (.lst (d.ps.map V.str))).trans s8)) _ _ T6.t]at f8';cases f8'
   have n87:l8≠d7:=fun z=>by rw[z,a7]at a8;cases a8
   have ne65:=ne56.symm;clear e8' e88 e7 g8 f8' s8;refine⟨r10,rfl,⟨_,SqL.of e10⟩,yz (xs:=m10.map V.str) (fun j σ H'=>Nws H10 l5 d7 j H'/\∃y,σ=[oR p,oR r,oR la,oR o1,oR o2,oR l5,oR l6,oR d7,oR l8,y,y10,y11]) ⟨⟨.refl,wiB d'.b,[],a5,a7,uF _,by lia,hn.k⟩,_,rfl⟩ (fun j σ H' _ h=>SqL.of (h.1.k r10 _ (fun z=>z.elim nr5 nr7) e10)) ?_ ?_⟩
   ·rintro j v σ H11 hv ⟨N,y,rfl⟩
    obtain⟨x,hx,rfl⟩:=L2.gM hv;have hj:=(ue.mp hx).1;obtain⟨ts,nw,b1,b2,b3,b4⟩:=id N.e;have b8:=N.k l8 _ (fun z=>z.elim n85 n87) a8;refine(zf rfl (zf rfl ⟨d7,(zf rfl ⟨DGet.k (k:=.inr x) b2,(zf rfl (ite2 (fun c=>?_) (fun _=>iteF (nxtC ⟨N.same (.refl _) (UN _),_,rfl⟩))))⟩)⟩));refine(zf rfl (zf rfl ⟨l8,(zf rfl ⟨.inl (SqL.of b8),rfl,yJ,(zf rfl (ite2 (fun _=>?_) (fun _=>iteF (nxtC ⟨N.same (.refl _) (UN _),_,rfl⟩))))⟩)⟩));refine(zf rfl ⟨sN0,fun l0 f0=>?_⟩);have s0:=zi f0 (.lst []);refine⟨l5,l0,(zf rfl ⟨rfl,SqL.of (s0 _ _ b1),SqL.of zg,(zf rfl (ite2 (fun c2=>?_) (fun _=>nxtC ⟨N.same s0 (UN _),_,rfl⟩)))⟩)⟩;have tn:ts≠[]:=fun z=>by rw[z]at c2;exact absurd c2 (by decide)
    obtain⟨ts,t,rfl⟩:=Xc tn;refine(zf rfl ⟨.inl ⟨rfl,_,SqL.of (s0 _ _ b1)⟩,l5,(zv rfl rfl ⟨s0 _ _ b1,pop_strs.1,(zf rfl (zf rfl ⟨d7,(zf rfl ⟨DPut.k (k:=.inr x) (by rw[zj ne57.symm];exact s0 _ _ b2) (by rw[Ve];lia),?_⟩)⟩))⟩)⟩);exact⟨.pop (N.k.trans (.of s0)) ne57 (Xd c) b3 b4,_,rfl⟩
   ·rintro σ H11 ⟨N,y,rfl⟩
    rw[ua]at N;have k11:Same H3 H11:=vc s310 f5 (s6.free f7) N.k;refine st2 d7 l8 y H11 k11 (s6.free f7) ne67 ⟨.refl,?_⟩ (N.k l6 _ (fun z=>z.elim ne65 fun z=>ne67 z.symm) a6);obtain⟨ts,nw,b1,b2,b3,b4⟩:=N.e;exact⟨ts,nw,b1,b2,by lia,b4⟩
  intro d7 l8 y9' H9 s9 f7 ne76 N9 e6;subst hr2_;refine cut2 fun r3_ hr3_=>?_
  suffices st3:∀(nw:List (Str×Str))(y9 y10:Option V)(H12:Hp),Same H3 H12->H12 d7=some (.dK (em V.str nw))->r3_ _ [oR p,oR r,oR la,oR o1,oR o2,oR l5,oR l6,oR d7,oR l8,y9,y10,y11] H12 by
   obtain⟨ts,nw,b1,b2,b3,b4,b5⟩:=N9.e;refine(zf rfl ⟨l5,rfl,⟨_,SqL.of b1⟩,yF (xs:=ts.map V.str) (fun j τ zs H'=>Same H9 H'/\(∃y,τ=[oR p,oR r,oR la,oR o1,oR o2,oR l5,oR l6,oR d7,oR l8,y9',y10,y11,y])/\∃ws:LS,zs=ws.map V.str/\ws.length<=j/\∀z∈ws,z.length<=1000) ⟨.refl _,⟨none,rfl⟩,[],rfl,ud _,fun z h=>by cases h⟩ (fun j τ zs H' _ h=>SqL.of (h.1 _ _ b1)) ?_ ?_⟩)
   ·rintro j v τ zs H10 hv ⟨s10,⟨y,rfl⟩,ws,rfl,wl,wz⟩
    obtain⟨x,hx,rfl⟩:=L2.gM hv;have hj:=(ue.mp hx).1;have hz:=b5 x (uv hx);refine(zf rfl ⟨x,rfl,hz,fun H11 b s11=>⟨b,rfl,ite2 (fun _=>(zf rfl ⟨by rw[ua];lia,s10.trans s11,⟨_,rfl⟩,ws++[x],by rw[uh];rfl,by rw[ub];show ws.length+1<=_;lia,fun z h=>?_⟩)) (fun _=>⟨s10.trans s11,⟨_,rfl⟩,ws,rfl,by lia,wz⟩)⟩⟩);rcases uJ.mp h with h|h
    ·exact wz z h
    ·rw[uE.mp h];exact hz
   rintro τ zs H10 ⟨s10,_,ws,rfl,wl,wz⟩ l10 f10;rw[ua]at wl;have s910:=s10.new (o:=.lst (ws.map V.str)) f10;have e10:=zg (H:=H10) (a:=l10) (o:=.lst (ws.map V.str));dsimp only[UO]
   generalize upd H10 l10 (.lst (ws.map V.str))=H11 at *;have e66:=s910 _ _ e6;have e77:=s910 _ _ b2;have ne7:l10≠d7:=fun z=>by rw[z,e77]at e10;cases e10
   have ne6:l6≠l10:=fun z=>by rw[<- z,s10 _ _ e6]at f10;cases f10
   have f310:H3 l10=none:=(s9.trans s10).free f10;refine(zf rfl ⟨l6,rfl,⟨_,SqL.of e66⟩,yz (xs:=ns.map V.str) (fun j σ H'=>Nws H11 l10 d7 (1000000+j) H'/\∃y,σ=[oR p,oR r,oR la,oR o1,oR o2,oR l5,oR l6,oR d7,oR l8,y,oR l10,y11]) ⟨⟨.refl,ws,nw,e10,e77,by lia,by lia,wz⟩,_,rfl⟩ (fun j σ H' _ h=>SqL.of (h.1.k l6 _ (fun z=>z.elim ne6 fun z=>ne76 z.symm) e66)) ?_ ?_⟩)
   ·rintro j v σ H12 hv ⟨N,y,rfl⟩
    obtain⟨x,hx,rfl⟩:=L2.gM hv;have hj:=(ue.mp hx).1;obtain⟨ts,nw,b1,b2,b3,b4⟩:=id N.e;refine(zf rfl (zf rfl ⟨d7,(zf rfl ⟨DGet.k (k:=.inr x) b2,(zf rfl (ite2 (fun c=>?_) (fun _=>iteF (nxtC ⟨N.same (.refl _) (UN _),_,rfl⟩))))⟩)⟩));refine(zf rfl ⟨sN0,fun l0 f0=>?_⟩);have s0:=zi f0 (.lst []);refine⟨l10,l0,(zf rfl ⟨rfl,SqL.of (s0 _ _ b1),SqL.of zg,(zf rfl (ite2 (fun c2=>?_) (fun _=>nxtC ⟨N.same s0 (UN _),_,rfl⟩)))⟩)⟩;have tn:ts≠[]:=fun z=>by rw[z]at c2;exact absurd c2 (by decide)
    obtain⟨ts,t,rfl⟩:=Xc tn;refine(zf rfl ⟨.inl ⟨rfl,_,SqL.of (s0 _ _ b1)⟩,l10,(zv rfl rfl ⟨s0 _ _ b1,pop_strs.1,(zf rfl (zf rfl ⟨d7,(zf rfl ⟨DPut.k (k:=.inr x) (by rw[zj ne7.symm];exact s0 _ _ b2) (by rw[Ve];lia),?_⟩)⟩))⟩)⟩);exact⟨.pop (N.k.trans (.of s0)) ne7 (Xd c) b3 b4,_,rfl⟩
   ·rintro σ H12 ⟨N,y,rfl⟩
    obtain⟨ts,nw,b1,b2,b3,b4⟩:=id N.e;exact st3 nw y _ H12 (vc (s9.trans s910) f310 f7 N.k) b2
  intro nw y9 y10 H12 s12 e12;subst hr3_;refine(zf rfl (ixT (s12 _ _ j1) aI1 ⟨pp,rfl,⟨_,SqT.of (s12 _ _ j2)⟩,xo (xs:=d.ps.map V.str) (fun j τ zs H'=>H12=H'/\(∃z,τ=[oR p,oR r,oR la,oR o1,oR o2,oR l5,oR l6,oR d7,oR l8,y9,y10,y11,z])/\zs=((d.ps.take j).map (nwF nw)).map V.str) ⟨rfl,⟨none,rfl⟩,rfl⟩ (fun j τ zs H' _ h=>SqT.of (h.1 ▸ s12 _ _ j2)) ?_ ?_⟩))
  ·rintro j v τ zs H13 hv ⟨rfl,⟨z,rfl⟩,rfl⟩
   obtain⟨x3,hx3,rfl⟩:=L2.gM hv;have hj:=(ue.mp hx3).1;refine(zf rfl ⟨d7,rfl,.inl ⟨_,.inl e12⟩,(zf rfl (zf rfl ⟨_,DGet.k (k:=.inr x3) e12,?_⟩))⟩);rw[nwG];refine⟨by rw[ua,ua,uH];lia,rfl,⟨_,rfl⟩,?_⟩;rw[uI,hx3,uh,uh]
   rfl
  rintro τ zs H13 ⟨rfl,_,rfl⟩ l13 f13;rw[ua,ux (ud _)];refine⟨l13,(zf rfl (.inl ⟨SqL.of zg,fun t14 f14=>?_⟩))⟩;have s14:=(zi (o:=.lst ((d.ps.map (nwF nw)).map V.str)) f13).new (o:=.tup ((d.ps.map (nwF nw)).map V.str)) f14;have e14:=zg (H:=upd H12 l13 (.lst ((d.ps.map (nwF nw)).map V.str))) (a:=t14) (o:=.tup ((d.ps.map (nwF nw)).map V.str));dsimp only[UO]
  generalize upd (upd H12 l13 (.lst ((d.ps.map (nwF nw)).map V.str))) t14 (.tup ((d.ps.map (nwF nw)).map V.str))=H14 at *;have s314:=s12.trans s14;refine(zf rfl ⟨.inl ⟨rfl,_,SqL.of (s314 _ _ e3)⟩,(zf rfl (ixT (s314 _ _ j1) aI0 (zf rfl (zf rfl (ixT (s314 _ _ j1) aI2 (zf rfl (ixT (s314 _ _ j1) aI3 (zf rfl ⟨pb,d7,d.b,nw,rfl,j4.keep (.of s314),by lia,w3,w5,s14 _ _ e12,fun H15 r15 s15 e15=>⟨sN4,fun t16 f16=>?_⟩⟩))))))))⟩);have s16:=s15.new (o:=.tup [.str d.g,.ref t14,.ref po,.ref r15]) f16;have s316:=s314.trans s16;refine⟨la,(zv rfl rfl ⟨s316 _ _ e3,by rw[ua];lia,?_⟩)⟩;have tp:Tups _ (upd (upd H15 t16 (.tup [.str d.g,.ref t14,.ref po,.ref r15])) la (.lst (us.map V.ref++[.ref t16]))):=vK (s316 _ _ e3);refine⟨(s3.trans s316).put fa,⟨_,_,_,_,_,_,_,_,_,rfl⟩,us++[t16],es++[⟨d.g,d.ps.map (nwF nw),d.os,d.b.rn (nwF nw)⟩],by rw[zg,uh];rfl,((I3.keep (.of s316)).snoc (g:=(⟨t14,po,r15,zg,s16 _ _ e14,s316 _ _ j3,e15.keep (.of (zi f16 _))⟩:IsDf _ ⟨d.g,d.ps.map (nwF nw),d.os,d.b.rn (nwF nw)⟩ _))).keep tp,by rw[ub,ul];rfl,fun z hz=>?_⟩;rcases uJ.mp hz with h|h
  ·exact hG z h
  ·rw[uE.mp h];exact hw.rn _
 ·rintro σ H2 ⟨s2,⟨y3,y4,y5,y6,y7,y8,y9,y10,y11,rfl⟩,us,es,e2,Ie,ul,hG⟩
  refine(zf rfl (ixT (s2 _ _ c1) aI0 (zf rfl ⟨la,(zf rfl (.inl ⟨SqL.of e2,fun t3 f3=>⟨sN2,fun rr fr=>?_⟩⟩))⟩)));have s3:=(zi (o:=.tup (us.map V.ref)) f3).new (o:=.tup [.ref kv,.ref t3]) fr;refine q _ rr es (s2.trans s3) ⟨_,t3,us,zg,old fr zg,Ie.keep (.of s3)⟩ ⟨kv,_,_,zg,s3 _ _ (s2 _ _ c5)⟩ (by have:=Ie.1;rw[ul,ua]at this;lia) hG
end
end GN
namespace L2
open PySem PySem.Spec PyProof.Rows
def Yx(k:Str):Value->Bool
 |.str a _=>a == k
 |_=>false
def Xe:V->List V->Hp->VK->Prop:=fun x vs H Q=>∃(l:Addr)(xs:LS)(z:Str),x=.ref l/\vs=[.str z]/\H l=some (.lst (xs.map V.str))/\Q (.int ((xs.count z:Nat):Int)) H
theorem XO:MtM X "list.count" Xe:=by
 intro pins s σ H x vs v us Q I rx rv h;obtain⟨l,xs,z,rfl,rfl,hH,q⟩:=h;cases rx;obtain⟨u,rfl,ru⟩:=rv.one;obtain⟨t0,rfl⟩:=ru;obtain⟨its,n,r,e,hz⟩:=I.lst hH;have go:∀{ys:LS}{ws:List Value},Vals (ys.map V.str) ws->(∀y∈ws,∃a t,y=Value.str a t)/\ws.countP (Yx z)=ys.count z:=fun{ys}=>by
  induction ys with
  |nil =>
   intro ws r;cases r;exact⟨fun y hy=>(Ui hy).elim,rfl⟩
  |cons y ys ih =>
   intro ws r;cases r with
   |cons h t =>
    obtain⟨h1,h2⟩:=ih t;obtain⟨t1,rfl⟩:=h;refine⟨fun w hw=>?_,?_⟩
    ·rcases uq.mp hw with rfl|hw
     ·exact⟨_,_,rfl⟩
     ·exact h1 w hw
    ·rw[List.countP_cons,List.count_cons,h2]
     rfl
 obtain⟨g1,cnt⟩:=go r;refine call_meets PySem.F.slot_list_count ⟨_,e,rfl⟩ PySem.F.entry_list_count (PySem.F.args_list_count_2 _ _) (SeqAt.list_countAt l its.toArray n none _ (.str z t0) (Yx z)) ⟨e,fun y hy=>?_,?_⟩
 ·obtain⟨a,t,rfl⟩:=g1 y (by simpa using hy)
  exact SeqAt.EqAt.str_str a t z t0
 ·refine⟨.int _,H,I.tok _,⟨_,rfl⟩,?_⟩
  rw[show(its.toArray.toList.countP (Yx z))=xs.count z from cnt];exact q
theorem XQ:jMt X "list.count" Xe:=⟨XO⟩
end L2
namespace GN
open PySem L2 K11
theorem zbz{b:Bd}(h:IsBd H b p):∃xs,H p=some (.tup xs):=by
 cases b with
 |give x=>exact⟨_,h⟩
 |lt x d b=>obtain⟨_,_,h,_⟩:=h;exact⟨_,h⟩
 |hold x d b=>obtain⟨_,h,_⟩:=h;exact⟨_,h⟩
 |drop x b=>obtain⟨_,h,_⟩:=h;exact⟨_,h⟩
 |loose x b=>obtain⟨_,h,_⟩:=h;exact⟨_,h⟩
 |iff x d b=>obtain⟨_,_,h,_⟩:=h;exact⟨_,h⟩
 |cs x b=>obtain⟨_,_,h,_⟩:=h;exact⟨_,h⟩
inductive spRightX(vs:List V)(H:Hp)(Q:VK)(e_3:XK):Prop
 |mk (p:Addr) (r:Addr) (ds:List Df):(∃ds':List Df,vs=[.ref p,.ref r]/\Codes H p r ds ds'/\∀H',Same H H'->Q (.bl true) H')->spRightX vs H Q e_3
section
variable{K:uc}
theorem scRightX:FnScope ["_law_code_here","_law_got","_law_one","_law_new","_law_tokens","_law_names","_law_token"] lS10 (zp Yj):=.ok
theorem XR(F:Fun K "_law_right" "_law_right" Yj f fd)(GB:Ca P w K mg base CX0 161 "_law_bare" ["_law_body_here"] (spBare 160))(GH:Ca P w K mg base CX0 161 "_law_heard" lS2 (spHeard 160))(m_isinstance:mg "isinstance"=none)(m_tuple:mg "tuple"=none)(m_str:mg "str"=none)(m_list:mg "list"=none)(m_len:mg "len"=none)(m_zip:mg "zip"=none):FnOk P w K mg base CX0 162 f fd lS10 spRightX:=by
 refine F.by scRightX (fun vs H Q E h=>?_) (fun cdv A outer s H vs Q E hr h=>?_)
 ·obtain⟨p,r,ds,ds',rfl,_⟩:=h
  rfl
 obtain⟨p,r,ds,ds',rfl,⟨kv,pd,pr,os,rs,xs,c1,c2,c3,c4,c5,I,I',hA,dl3,hW⟩,q⟩:=h;have hrG:Room 161 _:=hr;refine⟨_,
  (zh (zy (jW.pt (yt (yQ (ya (ym xC rfl m_isinstance Uz (jA2 (jv 1) (wT (v:=.ty "tuple") rfl m_tuple ut rfl))))) (yt (tN wM (jL m_len (jv 1)) zn) (yt (tN (vb (n:=1) hrG (by decide)) (xT 1) (xT 0)) (yv (yQ (ya (ym xC rfl m_isinstance Uz (jA2 (xT 1) (wT (v:=.ty "tuple") rfl m_tuple ut rfl))))))))))
   (zk (zt yA))  zu)
  (zh (zy (tN wM (jL m_len (xT 1)) (jL m_len (xT 0)))
   (zk (zt yA))  zu)
  (zh (zM PassesOwn.never rfl (vk rfl m_zip (jA2 (xT 0) (xT 1))) (yR rfl (zA (gN 2 scRightX.nd) (zA (gN 3 scRightX.nd) yf)))
   (zh (zy (jW.pt (yt (yQ (ya (ym xC rfl m_isinstance Uz (jA2 (jv 3) (wT (v:=.ty "tuple") rfl m_tuple ut rfl))))) (yt (tN wM (jL m_len (jv 3)) zn) (yt (tN (vb (n:=3) hrG (by decide)) (zX yi (jv 3) yc (yd zn)) (zX yi (jv 2) yc (yd zn))) (yv (tN (vb (n:=481) hrG (by decide)) (cA GB hrG (jA1 (xT 3))) (xT 2)))))))
    (zk (zt yA))  zu)
   (zh (sE 4 scRightX.nd (zC zE))
   (zh (sE 5 scRightX.nd (zB zZ rfl m_list uO (jA1 (xT 3))))
   (zh (zF (cA GH hrG (jA3 (xT 3) (jv 4) (jv 5))))
   (zk (zM PassesOwn.never rfl (zY (jv 4)) (gN 6 scRightX.nd)
    (zk (zy (jW.pt (yt (yQ (ya (ym xC rfl m_isinstance Uz (jA2 (jv 6) (wT (v:=.ty "str") rfl m_str PyProof.Rows.boot_str rfl))))) (yt (xa xB (jv 6) (jv 5) (by with_unfolding_all rfl)) (yv (tN xV (zV uk PySem.F.slot_list_count PySem.F.type_list_count XQ (jv 4) (jA1 (jv 6))) zn)))))
     (zk (zt yA))  zu)))))))))
  (zk (zt yA))))),?_⟩
 have sl:=zJ;have ol:=I.1;have rl:=I'.1;have al:=All2.len hA;refine(zf rfl ⟨_,_,_,true,rfl,.tup c3,rfl,(zf rfl (iteF ?_))⟩);refine(zf rfl ⟨r,(zf rfl ⟨.inr (SqT.of c3),rfl,(zf rfl (iteF ?_))⟩)⟩);refine(zf rfl (ixT c3 aI0 (zf rfl (ixT c1 aI0 ⟨kv,kv,xs,rfl,rfl,c5,.same,(zf rfl (iteF ?_))⟩))));refine(zf rfl (ixT c3 aI1 ⟨_,_,_,true,rfl,.tup c4,rfl,(zf rfl (iteF (nxtC ?_)))⟩));refine(zf rfl (ixT c3 aI1 ⟨pr,(zf rfl ⟨.inr (SqT.of c4),(zf rfl (ixT c1 aI1 ⟨pd,(zf rfl ⟨.inr (SqT.of c2),rfl,(zf rfl (iteE (show(!decide (_=_))=false by rw[decide_eq_true (by rw[ua,ua,<- ol,<- rl,al])];rfl) (nxtC ?_)))⟩)⟩))⟩)⟩));refine(zf rfl (ixT c1 aI1 (zf rfl (ixT c3 aI1 ⟨pd,pr,false,false,_,_,rfl,SqK.t c2,SqK.t c4,YV (k:=false) (m:=false) (xs:=os.map V.ref) (ys:=rs.map V.ref) (by rw[ua,ua];lia) (fun i σ H'=>Same H H'/\(∃y3 y4 y5 y6 y7,σ=[oR p,oR r,y3,y4,y5,y6,y7])) ⟨.refl _,none,none,none,none,none,rfl⟩ (fun i σ H' _ h=>⟨SqK.t (h.1 _ _ c2),SqK.t (h.1 _ _ c4)⟩) ?_ ?_⟩))))
 ·rintro i v1 v2 T σ H2 hv1 hv2 hT ⟨s2,y3,y4,y5,y6,y7,rfl⟩
  rw[ug]at hv1 hv2;obtain⟨o1,ho1,rfl⟩:=uj.mp hv1;obtain⟨o2,ho2,rfl⟩:=uj.mp hv2;have hi:=(ue.mp ho1).1;have hd:ds[i]?=some ds[i]:=ui (by lia);generalize ds[i]=d at hd;obtain⟨d',hd',hn⟩:=All2.getl hA hd;have hw:=hW d (uv hd);obtain⟨pp,po,pb,i1,i2,i3,i4⟩:=I.2 i d o1 hd ho1;obtain⟨pp',po',pb',i1',i2',i3',i4'⟩:=I'.2 i d' o2 hd' ho2;rw[hn.g]at i1';rw[hn.p]at i2';rw[hn.o]at i3';have s3:=s2.new (o:=.tup [.ref o1,.ref o2]) hT;refine⟨T,(zf rfl ⟨SqT.of zg,rfl,_,_,rfl,_,_,rfl,rfl,?_⟩)⟩;dsimp only[UO]
  generalize upd H2 T (.tup [.ref o1,.ref o2])=H3 at *;have j1:=s3 _ _ i1;have j2:=s3 _ _ i2;have j3:=s3 _ _ i3;have j4:=i4.keep (.of s3);have j1':=s3 _ _ i1';have j2':=s3 _ _ i2';have j3':=s3 _ _ i3';have j4':=i4'.keep (.of s3);have w1:=hw.an.ps;have w2:=hw.an.bn;have w3:=hw.dp;have n1:=hn.sz;have n2:=hn.dp;have n3:=ja hn;have n4:=Q6 d'.b;refine cut1 fun r1_ hr1_=>?_
  suffices st1:∀H6,Same H3 H6->r1_ _ [oR p,oR r,oR o1,oR o2,y5,y6,y7] H6 by
   refine(zf rfl ⟨_,_,_,true,rfl,.tup j1',rfl,(zf rfl (iteF ?_))⟩);refine(zf rfl ⟨o2,(zf rfl ⟨.inr (SqT.of j1'),rfl,(zf rfl (iteF ?_))⟩)⟩);refine(zf rfl ⟨3,rfl,o2,(zf rfl ⟨j1',fun p4 H4 s4 h4=>(zf rfl ⟨3,rfl,o1,(zf rfl ⟨(show Same H3 H4 from s4) _ _ j1,fun p5 H5 s5 h5=>?_⟩)⟩)⟩)⟩);have s5:Same H4 H5:=s5;have s45:Same H3 H5:=(show Same H3 H4 from s4).trans s5;have h4':=s5 _ _ h4;refine⟨p4,p5,(zf rfl ⟨rfl,h4',.tup h4' h5 ⟨.str,.tup (s45 _ _ j2') (s45 _ _ j2) (SmL.strs _),.tup (s45 _ _ j3') (s45 _ _ j3) (SmL.bls _),trivial⟩,(zf rfl (iteF ?_))⟩)⟩;refine(zf rfl (ixT (s45 _ _ j1') aI3 ⟨pb',d'.b,rfl,j4'.keep (.of s45),n2,n1,fun H6 r6 s6 e6=>?_⟩));rw[hn.r.bare]at e6;obtain⟨xs6,hx6⟩:=zbz e6;have s46:=s45.trans s6;exact(zf rfl (ixT (s46 _ _ j1) aI3 ⟨r6,pb,xs6,rfl,rfl,hx6,xw e6 (j4.keep (.of s46)) (by lia),(zf rfl (iteF (nxtC (st1 H6 s46))))⟩))
  intro H6 s6;subst hr1_;refine⟨sN0,fun l5 f5=>?_⟩;have s7:=s6.new (o:=.lst []) f5;have e5:=zg (H:=H6) (a:=l5) (o:=.lst []);dsimp only[UO]
  generalize upd H6 l5 (.lst [])=H7 at *;refine(zf rfl (ixT (s7 _ _ j1') aI1 ⟨pp',(zf rfl ⟨.inr (SqT.of (s7 _ _ j2')),fun l6 f6=>?_⟩)⟩));have s8:=zi f6 (.lst (d.ps.map V.str));have T8:Two (upd H7 l6 (.lst (d.ps.map V.str))) l5 l6 [] d.ps:=⟨s8 _ _ e5,zg⟩;have ne:l5≠l6:=fun z=>by rw[z,f6]at e5;cases e5
  dsimp only[UO]
  generalize upd H7 l6 (.lst (d.ps.map V.str))=H8 at *;have s38:=s7.trans s8;refine(zf rfl (ixT (s38 _ _ j1') aI3 (zf rfl (zf rfl ⟨pb',l5,l6,d'.b,[],d.ps,rfl,j4'.keep (.of s38),n2,T8,ne,by show 0+_<=_;lia,by rw[n3];lia,fun H9 k9 T9=>?_⟩))));rw[List.nil_append,n3]at T9;have s39:Same H H9:=vc (s3.trans s38) ((s3.trans s6).free f5) ((s3.trans s7).free f6) k9;refine(zf rfl ⟨l5,rfl,⟨_,SqL.of T9.t⟩,yz (xs:=(wiB d'.b).map V.str) (fun j σ H'=>H9=H'/\∃y,σ=[oR p,oR r,oR o1,oR o2,oR l5,oR l6,y]) ⟨rfl,_,rfl⟩ (fun j σ H' _ h=>SqL.of (h.1 ▸ T9.t)) ?_ ?_⟩)
  ·rintro j v σ H10 hv ⟨rfl,y,rfl⟩
   obtain⟨t,ht,rfl⟩:=L2.gM hv;have hm:=uv ht;refine(zf rfl ⟨_,_,_,true,rfl,.str t,rfl,(zf rfl (iteF ?_))⟩);refine(zf rfl (zf rfl ⟨l6,(zf rfl ⟨.inl (SqL.of T9.n),rfl,yJ,(zf rfl (iteE (show inV _ _=false by rw[xF];exact decide_eq_false (hn.r.nm t hm)) ?_))⟩)⟩));refine(zf rfl ⟨.inl ⟨rfl,_,SqL.of T9.t⟩,(zf rfl ⟨l5,_,t,rfl,rfl,T9.t,(zv rfl rfl (zf rfl (iteE (decide_eq_false ?_) (nxtC ⟨rfl,_,rfl⟩))))⟩)⟩)
   have:=List.nodup_iff_count.mp hn.r.nd t
   lia
  ·rintro σ H10 ⟨rfl,y,rfl⟩
   exact⟨s39,_,_,_,_,_,rfl⟩
 ·rintro σ H2 ⟨s2,y3,y4,y5,y6,y7,rfl⟩
  exact q H2 s2
end
end GN
namespace L2
open PySem PySem.Spec PyProof.Rows
theorem Yy{K:uc}{mb:Str->Option Value}{k:Nat}{s₁:Shared}{ns:List Int}
  (KX:K.In s₁.heap) (hT:∀T∈Ts,s₁.heap.get? T=some { cls:=.none,data:=.fields #[] }) (hTK:∀T∈Ts,K.lookup T=none) (hTc:∀T∈Ts,isCodeTable s₁.heap T) (hns:s₁.heap.Ns mainGlobals mg) (hb:s₁.heap.Ns builtinsNs mb) (hbb:∀x:Str,x≠"__name__"->mb x=bootBuiltins x) (hlim:s₁.heap.NoLimit) (hBM:BMn mg s₁.heap) (hg:s₁.gens=#[])
  (ha:s₁.heap.get? a=some { cls:=.type "list",data:=.seq vs.toArray }) (hi:IntsAre vs ns) (hl:ns.length<=sizeLine) (hr:Room k callerA)
  (F:∀base:Heap,K.In base->base.Ns mainGlobals mg->BMn mg base->FnOk P w K mg base CX k fa fd [x] sp) (hbind:∀(s:Shared)(u:Value),BindsTo s fd ⟨[u],[]⟩ [(x,u)])
  (hsp:∀H:Hp,(∀T∈Ts,H T=some (.tbl #[]))->SqL K H a (ns.map V.int)->sp [.ref a] H (fun v _=>v=.bl true) fun _ _ _=>False)
  (hCX:∀H e s',CX [] H s₁ (fun _ _ _=>False) e s'->False) :
  codeAny (model P w) callerA (.call (.ref fa) ⟨[.ref a],[]⟩) (fun r s'=>r=.ok (.ret (.bool true))/\OldK s₁.heap s'.heap/\s'.os=s₁.os/\AllBare s'.gens) s₁:=by
 have rv:=vV hi;have lenV:=hi.length;have nTa:a∉Ts:=fun e=>by rw[hT a e]at ha;cases ha
 have core:∀H:Hp,(∀b,H b=none\/(∃o xs,H b=some (.frz o (.lst xs)))\/(b∈Ts/\H b=some (.tbl #[])))->(∀T∈Ts,H T=some (.tbl #[]))->SqL K H a (ns.map V.int)->HOk P w H s₁.heap->(∀b,H b≠none->b=a\/b∈Ts)->(H a≠none->K.lookup a=none) ->
   codeAny (model P w) callerA (.call (.ref fa) ⟨[.ref a],[]⟩) (fun r s'=>r=.ok (.ret (.bool true))/\OldK s₁.heap s'.heap/\s'.os=s₁.os/\AllBare s'.gens) s₁:=by
  intro H hO hHT hS hok hA hK;have base_of:∀{b:Addr}{o:Obj},s₁.heap.get? b=some o->H b=none->(hidT s₁.heap H).get? b=some o:=fun e n=>XS e n;have noA:∀{b:Addr}{o:Obj}{es:Array DictEntry}{ep:Nat},s₁.heap.get? b=some o->o.data=.dict es ep->H b=none:=fun{b o es ep} e d=>by
   cases q:H b with
   |none=>rfl
   |some u =>
    rcases hA b (by rw[q];simp)with e'|e'
    ·subst e'
     rw[ha]at e;cases e;have d':Data.seq vs.toArray _=Data.dict es ep:=d;cases d'
    ·rw[hT b e']at e;cases e
     have d':Data.fields #[]=Data.dict es ep:=d;cases d'
  have nsK:∀{b:Addr}{m:Str->Option Value},s₁.heap.Ns b m->(hidT s₁.heap H).Ns b m:=fun{b m}⟨o,es,ep,e,d,r⟩=>⟨o,es,ep,base_of e (noA e d),d,r⟩;have hBb:BMn mg (hidT s₁.heap H):=by
   obtain⟨bm,ob,b1,b2,b3,b4,b5,b6⟩:=hBM;refine⟨bm,ob,b1,b2,base_of b3 ?_,b4,b5,b6⟩;cases q:H bm with
   |none=>rfl
   |some u =>
    rcases hA bm (by rw[q];simp)with e'|e'
    ·subst e'
     rw[ha]at b3;cases b3;cases b6
    ·rw[hT bm e']at b3;cases b3;cases b6
  have hKb:K.In (hidT s₁.heap H):=fun b o e=>base_of (KX b o e) (by
   cases q:H b with
   |none=>rfl
   |some u =>
    rcases hA b (by rw[q];simp)with e'|e'
    ·subst e'
     rw[hK (by rw[q];simp)]at e;cases e
    ·rw[hTK b e']at e;cases e)
  have hM:Mod K mg (hidT s₁.heap H):=⟨hKb,nsK hns,⟨mb,nsK hb,hbb⟩,let ⟨mc,h1,h2⟩:=hlim;⟨mc,nsK h1,h2⟩⟩;have e0:Env0 P w K mg (hidT s₁.heap H) callerA [] s₁ H:=⟨rfl,hM,fun b o e=>V0 e,Nat.le_of_eq (Xi _ _),trivial,fun b hb=>absurd (show b∈([]:List Addr)from hb) (by simp),hok,.of_eq hg⟩;refine codeAny_mono ((F _ hKb (nsK hns) hBb).run callerA [] s₁ H ⟨[.ref a],[]⟩ [.ref a] [.ref a] _ _ hr e0 (hbind s₁ (.ref a)) (.cons rfl .nil) (hsp H hHT hS)) fun r s' h=>?_;cases r with
  |error e=>exact(hCX H e s' h).elim
  |ok fl =>
   cases fl with
   |next=>exact False.elim h
   |brk=>exact False.elim h
   |cont=>exact False.elim h
   |ret u =>
    obtain⟨v,H',os,bare,un,hok',r',q⟩:=h;have q':v=.bl true:=q;subst q';obtain rfl:u=Value.bool true:=r';refine⟨rfl,⟨fun b o e=>?_,fun b o e=>un.there b o e (by simp)⟩,os,bare⟩;cases q:H b with
    |none=>exact .inl (un.keep b o e q (by intro z;exact absurd (show b∈([]:List Addr)from z) (by simp)) (by simp))
    |some u =>
     rcases hO b with z|⟨ob,xs,z⟩|⟨zm,z⟩
     ·rw[q]at z;cases z
     ·have z2:=un.frzs b ob _ z
      obtain⟨e1,_⟩:=hok b _ z;obtain⟨e2,_⟩:=hok' b _ z2;rw[e]at e1;cases e1;exact .inl e2
     ·obtain⟨more,z2⟩:=un.tbls b _ z
      have e2:s'.heap.get? b=some { cls:=.none,data:=.fields (#[]++more) }:=hok' b _ z2;rw[hT b zm]at e;cases e;exact .inr (.inl ⟨hTc b zm,rfl,#[],more,rfl,e2⟩)
 cases hk:K.lookup a with
 |some o =>
  have e:=KX a o hk;rw[ha]at e;cases e;refine core (fun b=>if b∈Ts then some (.tbl #[])else none) (fun b=>?_) (fun T hT=>if_pos hT) (.inr ⟨_,vs.toArray,_,hk,rfl,rfl,rfl,by rw[uo,lenV];exact hl,by simpa using rv⟩) (fun b u z=>?_) (fun b z=>?_) fun z=>absurd (if_neg nTa) z
  ·by_cases hb:b∈Ts
   ·exact .inr (.inr ⟨hb,if_pos hb⟩)
   ·exact .inl (if_neg hb)
  ·by_cases hb:b∈Ts
   ·have z':=(if_pos hb).symm.trans z
    cases z';exact hT b hb
   ·have z':=(if_neg hb).symm.trans z
    cases z'
  ·by_cases hb:b∈Ts
   ·exact .inr hb
   ·exact absurd (if_neg hb) z
 |none =>
  refine core (fun b=>if b∈Ts then some (.tbl #[])else if b=a then some (.frz { cls:=.type "list",data:=.seq vs.toArray } (.lst (ns.map V.int)))else none) (fun b=>?_) (fun T hT=>if_pos hT) (.inl (.inr ⟨{ cls:=.type "list",data:=.seq vs.toArray },(if_neg nTa).trans (if_pos rfl)⟩)) (fun b u z=>?_) (fun b z=>?_) fun _=>hk
  ·by_cases hb:b∈Ts
   ·exact .inr (.inr ⟨hb,if_pos hb⟩)
   ·by_cases hb2:b=a
    ·exact .inr (.inl ⟨_,_,(if_neg hb).trans (if_pos hb2)⟩)
    ·exact .inl ((if_neg hb).trans (if_neg hb2))
  ·by_cases hb:b∈Ts
   ·have z':=(if_pos hb).symm.trans z
    cases z';exact hT b hb
   ·by_cases hb2:b=a
    ·have z':some (HO.frz { cls:=.type "list",data:=.seq vs.toArray } (.lst (ns.map V.int)))=some u:=((if_neg hb).trans (if_pos hb2)).symm.trans z
     cases z';subst hb2;exact⟨ha,by rw[ua];exact hl,vs,_,rv,ha⟩
    ·have z':none=some u:=((if_neg hb).trans (if_neg hb2)).symm.trans z
     cases z'
  ·by_cases hb:b∈Ts
   ·exact .inr hb
   ·by_cases hb2:b=a
    ·exact .inl hb2
    ·exact absurd ((if_neg hb).trans (if_neg hb2)) z
def ww(K:uc)(Ts:List Addr):Sp:=fun vs H Q _=>∃(a:Addr)(ns:List Int),vs=[.ref a]/\SqL K H a (ns.map V.int)/\ns.length<=63/\(∀T∈Ts,H T=some (.tbl #[]))/\∀H',Q (.bl true) H'
theorem VX{l:PySem.W.OpenLaw}{K:uc}{k:Nat}(d:DfIn K "law" st)(X:K.In h)(G:h.Ns mainGlobals mg)(hfa:mg "law"=some (.ref fa))
  (hb:∀(kV doc pm:Value)(an:Option Addr)(cdv ct:Value)(s:Shared)(u:Value),BindsTo s (uX "law" "law" (z6 st) (zH st) (zp st) .none kV doc pm an cdv ct) ⟨[u],[]⟩ [("_law_script",u)])
  (ok:∀(base:Heap)(fd:FuncData),BMn mg base->Fun K "law" "law" st fa fd->FnOk l.prog w K mg base CX0 k fa fd ["_law_script"] (ww K Ts)) :
  ∃fd:FuncData,(∀(s:Shared)(u:Value),BindsTo s fd ⟨[u],[]⟩ [("_law_script",u)])/\∀base:Heap,K.In base->base.Ns mainGlobals mg->BMn mg base->FnOk l.prog w K mg base CX0 k fa fd ["_law_script"] (ww K Ts):=by
 obtain⟨fl,al,oc,od,kV,doc,pm,an,cdv,ct,osl,lk,cc,kk⟩:=d;have e:fl=fa:=by
  have:=PySem.W.mg_of X G al
  rw[hfa]at this;injection this with this
  injection this with this
  exact this.symm
 subst e;exact⟨_,fun s v=>hb _ _ _ _ _ _ s v,fun base _ _ B=>ok base _ B (Wh (st:=st) lk cc kk)⟩
theorem walkTs{l:PySem.W.OpenLaw}{loose:LS}{d:DefRec}{K:Params->uc}{e:∀p,as=(K p).map (·.1)}{k:Nat}(hn:l.most=some 63)(hr:Room k callerA)(hdf:d.params.defaults=[])(hnm:d.name="law")
  (hc:∀p,∀T∈Ts,∃c,Uh (K p) c T=true) (hTK:∀p,∀T∈Ts,(K p).lookup T=none)
  (F:∀(w:World)(mg:Str->Option Value)(fa:Addr)(h:Heap),(K w.params).In h->h.Ns mainGlobals mg->mg "law"=some (.ref fa)->∃fd:FuncData,(∀(s:Shared)(u:Value),BindsTo s fd ⟨[u],[]⟩ [("_law_script",u)])/\∀base:Heap,(K w.params).In base->base.Ns mainGlobals mg->BMn mg base->FnOk l.prog w (K w.params) mg base CX0 k fa fd ["_law_script"] (ww (K w.params) Ts)) :
  PySem.W.WalkO q loose XP (PySem.W.kmHook K as e Ts).says l.row.toRowW d [] (fun f vs=>PySem.call f vs):=by
 refine Att.attach_call hn hdf fun w s₀ s₁ mg mb fa o pm cd doc a vs ns G Y ho hd hcd hmg hobj hints hlen hg=>?_;have KX:=PySem.W.km_in_of Y;have hT:∀T∈Ts,_:=fun T hm=>PySem.W.km_tabs_of Y T hm;obtain⟨fd,hb,hF⟩:=F w mg fa _ KX G.T.g (by rw[hnm]at hmg;exact hmg);have hTc:∀T∈Ts,isCodeTable s₁.heap T:=fun T hm=>by
  obtain⟨c,hc⟩:=hc w.params T hm;obtain⟨o1,vs1,_,_,_,_,_,_,_,c1,c2,c3,c4,_⟩:=PySem.W.codeHd_of_K KX hc;exact⟨c,o1,vs1,c1,c2,c3,c4⟩
 exact Yy KX hT (hTK w.params) hTc G.T.g G.T.b G.T.builtins G.T.nolimit G.T.bmain hg hobj hints (uC hlen (by decide)) hr hF hb (fun H hO hS=>⟨a,ns,rfl,hS,hlen,hO,fun _=>rfl⟩) fun _ _ _ z=>z
end L2
namespace GN
open PySem L2 K11
theorem zb8:∃bb,bB 5+200<=bb/\0+100+3*bb+3*bb+2000 < LIM:=⟨3200000200,by unfold bB;decide,by unfold LIM;decide⟩
theorem Qy(h:j < 10 ^ 40):(tokS j).length<=1000:=by
 have e:(toString ((j:Nat):Int)).length<=40:=(Nat.length_repr_le_iff (by decide)).mpr h;unfold tokS;rw[PySem.Str.length_append,PySem.Str.length_append,Str.ofString_eq_toList (toString ((j:Nat):Int))];have e1:(Str.empty:Str).length=0:=rfl;have e2:("place.":Str).length=6:=by decide +kernel
 rw[e1,e2];show 0+6+(((toString ((j:Nat):Int)).toList.map Char.toNat).toArray).size<=1000;rw[uo,ua,String.length_toList];lia
theorem zaa{nx:Nat->Nat}(hnx:∀n,n < nx n):∀(l:List Df)(n:Nat),n<=(anL nx l n).2
 |[],n=>ud _
 |d::l,n=>uC (AB_n hnx d.b.mu d.b n) (zaa hnx l _)
theorem Xf{tk:LS}:∀(l:List Df)(n:Nat),(anL (nxT tk) l n).2 < 10 ^ 40->(∀d∈l,DfW d)->(∀d∈l,∀x∈d.ps++d.b.binds,x∈tk)->All2 NewOf l (anL (nxT tk) l n).1
 |[],n,_,_,_=>.nil
 |d::l,n,hb,hW,ht=>by
  have hw:=hW d (.head _);have hnx:∀m,m < nxT tk m:=fun m=>(xt tk m).1;have hN:=ABN hnx d.b.mu d.b n (ud _) hw.a;have hm:(AB (nxT tk) d.b.mu d.b n).2<=(anL (nxT tk) (d::l) n).2:=zaa hnx l _;refine .cons ⟨rfl,rfl,rfl,Vz hw.l hw.a hw.m (ht d (.head _)),uC (Q4 _ _ _ (ud _)) (uC (Bd.mu_dp _) hw.dp),uC (Vu _ _ _) hw.an.sz,fun k hk=>?_⟩ (Xf l _ hb (fun d hd=>hW d (.tail _ hd)) fun d hd=>ht d (.tail _ hd));obtain⟨c,_,c2,rfl⟩:=hN.tq k hk;exact Qy (UJ (uC c2 hm) hb)
theorem VY{tk:LS}(hl:tk.length<=11000000)(hx:∀x,x∈tk↔∃d∈ds,x∈d.ps++d.b.binds)(hW:∀d∈ds,DfW d)(dl:ds.length<=3):All2 NewOf ds (anL (nxT tk) ds 0).1:=by
 refine Xf ds 0 ?_ hW fun d hd x h=>(hx x).mpr ⟨d,hd,h⟩
 have:=jU hl ds 0 fun d hd=>(hW d hd).an
 have:ds.length*11000001000000<=3*11000001000000:=uN _ dl
 lia
theorem Codes.keep{r:Addr}{ds':List Df}(t:Tups H H')(h:Codes H p r ds ds'):Codes H' p r ds ds':=by obtain⟨kv,pd,pr,os,rs,xs,c1,c2,c3,c4,c5,I,I',h⟩:=h;exact⟨kv,pd,pr,os,rs,xs,t _ _ c1,t _ _ c2,t _ _ c3,t _ _ c4,t _ _ c5,I.keep t,I'.keep t,h⟩
theorem IsKn.keep(t:Tups H H')(h:IsKn H p):IsKn H' p:=by obtain⟨k,v,xs,a,b⟩:=h;exact⟨k,v,xs,t _ _ a,t _ _ b⟩
structure Cd(H:Hp)(p:Addr)(ds:List Df):Prop where
 c:IsCode H ds p
 k:IsKn H p
 l:ds.length<=3
 w:∀d∈ds,DfW d
theorem Cd.keep(h:Cd H p ds)(t:Tups H H'):Cd H' p ds:=⟨h.c.keep t,h.k.keep t,h.l,h.w⟩
theorem VZ{r:Addr}{ds':List Df}(h:Cd H p ds)(t:Tups H H')(hx:∃v pd pr os rs,H p=some (.tup [v,.ref pd])/\H pd=some (.tup (os.map V.ref))/\H' r=some (.tup [v,.ref pr])/\H' pr=some (.tup (rs.map V.ref))/\IsDfs H ds os/\IsDfs H' ds' rs)(hn:All2 NewOf ds ds'):Codes H' p r ds ds':=by
 obtain⟨v,pd,pr,os,rs,c1,c2,c3,c4,I,I'⟩:=hx;obtain⟨kv,v',xs,k1,k2⟩:=h.k;rw[c1]at k1;cases k1;exact⟨kv,pd,pr,os,rs,xs,t _ _ c1,t _ _ c2,c3,c4,t _ _ k2,I.keep t,I',hn,h.l,h.w⟩
section
variable{K:uc}
theorem Ca.imp{k:Nat}{sp':Sp}(h:Ca P w K mg base CX k x ps sp)(g:∀vs H Q E,sp' vs H Q E->sp vs H Q E):Ca P w K mg base CX k x ps sp':=by obtain⟨f,fd,a,r⟩:=h.ex;exact⟨f,fd,a.imp g,r⟩
inductive spAnC(T1 T2 T3 T4:Addr)(vs:List V)(H:Hp)(Q:VK)(e_3:XK):Prop
 |mk (p:Addr):(∃ds:List Df,vs=[.ref p]/\Cd H p ds/\Tb4 T1 T2 T3 T4 H/\∀H' r ds',KM (MT4 T1 T2 T3 T4) H H'->Tb4 T1 T2 T3 T4 H'->Codes H' p r ds ds'->Q (.ref r) H')->spAnC T1 T2 T3 T4 vs H Q e_3
theorem anC(GA:Ca P w K mg base CX0 11 "anew" ["code"] (spAnew T1 T2 T3 T4)):Ca P w K mg base CX0 11 "anew" ["code"] (spAnC T1 T2 T3 T4):=Ca.imp GA fun vs H Q E h=>by
 obtain⟨p,ds,rfl,hc,hT,q⟩:=h;exact⟨p,ds,rfl,hc.c,fun d hd=>(hc.w d hd).an,by have:=hc.l;lia,hT,fun H' r tk k T' tl hx hr=>q H' r _ k T' (VZ hc (hT.tups k) hr (VY tl hx hc.w hc.l))⟩
theorem scLawX:FnScope ["_law_script","_law_state","_law_world_here","_law_code_here","_law_other","_law_got","_law_new"] ["_law_script"] (zp sLaw):=.ok
theorem Qz(F:Fun K "law" "law" sLaw f fd)(GW:Ca P w K mg base CX0 3 "_law_world" ["_law_state"] (spWorld K))(GC:Ca P w K mg base CX0 21 "_law_code" lS14 (spCodeW K))(GA:Ca P w K mg base CX0 11 "anew" ["code"] (spAnew T1 T2 T3 T4))(GR:Ca P w K mg base CX0 162 "_law_right" lS10 spRightX)(GX:Ca P w K mg base CX0 162 "_law_exchanged" lS10 spExch)(m_min:mg "min"=none):FnOk P w K mg base CX0 163 f fd ["_law_script"] (ww K [T4,T3,T2,T1]):=by
 replace GA:=anC GA
 refine F.by scLawX (fun vs H Q E h=>?_) (fun cdv A outer s H vs Q E hr h=>?_)
 ·obtain⟨a,ns,rfl,_⟩:=h
  rfl
 obtain⟨a0,ns,rfl,hS,h63,hTs,q⟩:=h;have hr3:Room 3 _:=hr.mono (by decide);have hr11:Room 11 _:=hr.mono (by decide);have hr21:Room 21 _:=hr.mono (by decide);refine⟨_,
  (zh (sE 1 scLawX.nd (zC (jA2 (jv 0) zn)))
  (zh (sE 2 scLawX.nd (cA GW hr3 (jA1 (jv 1))))
  (zh (sE 3 scLawX.nd (cA GC hr21 (jA3 (jv 1) (jv 2) (xL 2))))
  (zh (sE 4 scLawX.nd (cA GC hr21 (jA3 (jv 1) (jv 2) (ym (jD rfl) rfl m_min UL (jA2 (xL 2) zn)))))
  (zh (sE 5 scLawX.nd (cA GA hr11 (jA1 (jv 3))))
  (zh (zy (jW.pt (yt (yQ (ya (cA GR hr (jA2 (jv 3) (jv 5))))) (yv (yQ (ya (cA GR hr (jA2 (jv 4) (cA GA hr11 (jA1 (jv 4))))))))))
   (zk (zt yA))  zu)
  (zh (sE 6 scLawX.nd (cA GX hr (jA2 (jv 3) (jv 5))))
  (zh (zy (jW.pt (yt (yQ (ya (cA GR hr (jA2 (jv 6) (cA GA hr11 (jA1 (jv 6))))))) (yv (tN (vb (n:=2) hr11 (by decide)) (cA GA hr11 (jA1 (zr (jA2 (xT 3) (zr zE))))) (zr (jA2 (xT 3) (zr zE)))))))
   (zk (zt yA))  zu)
  (zk (zt (cA GR hr (jA2 (jv 3) (cA GA hr11 (jA1 (jv 3))))))))))))))),?_⟩
 have sl:=zJ;refine(zf rfl ⟨sN2,fun st h1=>?_⟩);have S1:Sta K (upd H st (.lst [.ref a0,.int ((0:Nat):Int)])) st 0:=by
  refine⟨a0,ns,0,zg,fun e=>?_,(zi h1 _).seq hS,ud _⟩;rcases hS with(h|⟨o,h⟩)|h
  ·exact absurd e (zo h h1)
  ·exact absurd e (zo h h1)
  ·exact fun _=>.inr h
 have hT1:∀T∈[T4,T3,T2,T1],T≠st/\upd H st (.lst [.ref a0,.int ((0:Nat):Int)]) T=some (.tbl #[]):=fun T hT=>⟨zo (hTs T hT) h1,old h1 (hTs T hT)⟩;show(tSeq _ _:TS) _ _ (upd H st (.lst [.ref a0,.int ((0:Nat):Int)]));generalize upd H st (.lst [.ref a0,.int ((0:Nat):Int)])=H1 at *;refine(zf rfl ⟨st,0,rfl,S1,by unfold LIM;decide,fun H2 wl o rm k2 S2 ok w2 t4 rm5=>?_⟩);obtain⟨tl,dl,ts,us,w21,_⟩:=id w2;obtain⟨bb,hbb,hbl⟩:=zb8;refine(zf rfl (zf rfl (zf rfl (ixL w21 aI5 ⟨st,wl,o,0,rm,0+100,rm,bb,rfl,hbb,ok,w2,t4,rm5,S2,by lia,fun H3 p ds k3 S3 ⟨a3,w3⟩ hC hK dl3 hG=>?_⟩))));obtain⟨tl3,dl3',ts3,us3,w31,_⟩:=id w3;obtain⟨rm',hrm,rm3⟩:∃m:Nat,(if(3:Int) < ((rm:Nat):Int)then(3:Int)else((rm:Nat):Int))=((m:Nat):Int)/\m<=5:=by
  by_cases c:(3:Int) < ((rm:Nat):Int)
  ·exact⟨3,by rw[if_pos c];rfl,by decide⟩
  ·exact⟨rm,by rw[if_neg c],rm5⟩
 refine(zf rfl (zf rfl (zf rfl (ixL w31 aI5 ⟨_,_,rfl,?_⟩))));rw[hrm];refine⟨st,wl,o,a3,rm,0+100+3*bb,rm',bb,rfl,hbb,ok,w3,t4,rm3,S3,by lia,fun H4 p' ds' k4 S4 w4 hC' hK' dl4 hG'=>?_⟩;have C4:Cd H4 p ds:=(Cd.mk hC hK dl3 hG).keep (k4.tups S3 w3);have C4':Cd H4 p' ds':=⟨hC',hK',dl4,hG'⟩;have hT4:∀T∈[T4,T3,T2,T1],H4 T=some (.tbl #[]):=fun T hT=>by
  obtain⟨n,e⟩:=hT1 T hT;have e2:=k2.k _ _ n e;have nw:T≠wl:=fun z=>by rw[z,w21]at e2;cases e2
  exact k4.k _ _ n nw (k3.k _ _ n nw e2)
 have B4:Tb4 T1 T2 T3 T4 H4:=⟨.empty (hT4 _ (by simp)),.empty (hT4 _ (by simp)),.empty (hT4 _ (by simp)),.empty (hT4 _ (by simp))⟩;clear hT4 hT1 hTs S1 S2 S3 S4 w2 w3 w4 w21 w31 k2 k3 k4 hC hK hG hC' hK' hG' hS;refine(zf rfl ⟨p,ds,rfl,C4,B4,fun H5 r dn k5 B5 D5=>?_⟩);have t5:=B4.tups k5;have C5:=C4.keep t5;have C5':=C4'.keep t5;refine(zf rfl (zf rfl ⟨p,r,ds,dn,rfl,D5,fun H6 s6=>(zf rfl (iteF ?_))⟩));refine(zf rfl (zf rfl ⟨p',ds',rfl,C5'.keep (.of s6),B5.same s6,fun H7 r' dn' k7 B7 D7=>?_⟩));have t7:=(B5.same s6).tups k7;have t57:=(Tups.of s6).trans t7;refine⟨p',r',ds',dn',rfl,D7,fun H8 s8=>(zf rfl (iteF (nxtC ?_)))⟩;have t58:=t57.trans (.of s8);refine(zf rfl (zf rfl ⟨p,r,ds,dn,rfl,D5.keep t58,fun H9 p2 ds2 s9 hC2 hK2 l2 hG2=>?_⟩));have B9:=B7.same (s8.trans s9);have C9:Cd H9 p2 ds2:=⟨hC2,hK2,l2,hG2⟩;refine(zf rfl (zf rfl ⟨p2,ds2,rfl,C9,B9,fun H10 r2 dn2 k10 B10 D10=>?_⟩));have t10:=B9.tups k10;refine⟨p2,r2,ds2,dn2,rfl,D10,fun H11 s11=>(zf rfl (iteF ?_))⟩;have t511:=t58.trans ((Tups.of s9).trans (t10.trans (.of s11)));have C11:=C5.keep t511;obtain⟨kv,v',xs,g1,g2⟩:=C11.k;refine(zf rfl (ixT g1 aI0 ⟨sN0,fun t12 f12=>⟨sN2,fun p3 f3=>?_⟩⟩));have s12:=(zi (o:=.tup []) f12).new (o:=.tup [.ref kv,.ref t12]) f3;have c12:=zg (H:=upd H11 t12 (.tup [])) (a:=p3) (o:=.tup [.ref kv,.ref t12]);have c12':=old (o:=.tup [.ref kv,.ref t12]) f3 (zg (H:=H11) (a:=t12) (o:=.tup []));generalize upd (upd H11 t12 (.tup [])) p3 (.tup [.ref kv,.ref t12])=H12 at *;have B12:=B10.same (s11.trans s12);refine⟨p3,[],rfl,⟨⟨_,t12,[],c12,c12',rfl,fun i d o h=>by simp at h⟩,⟨kv,_,xs,c12,s12 _ _ g2⟩,uF _,fun d h=>by cases h⟩,B12,fun H13 r3 dn3 k13 B13 D13=>?_⟩;have t13:=B12.tups k13;have t1113:=(Tups.of s12).trans t13;have g13:=t1113 _ _ g1;obtain⟨kv',pd3,pr3,os3,rs3,xs3,m1,m2,m3,m4,m5,J,J',hA3,_⟩:=D13;rw[t13 _ _ c12]at m1;cases m1;have dn0:dn3=[]:=by cases hA3;rfl
 subst dn0;have rs0:rs3=[]:=Uc.mp J'.1.symm;subst rs0;refine(zf rfl (ixT g13 aI0 ⟨sN0,fun t14 f14=>⟨sN2,fun p4 f4=>?_⟩⟩));have s14:=(zi (o:=.tup []) f14).new (o:=.tup [.ref kv,.ref t14]) f4;refine⟨r3,p4,(zf rfl ⟨rfl,s14 _ _ m3,.tup (s14 _ _ m3) zg ⟨.same,.tup (s14 _ _ m4) (old f4 zg) trivial,trivial⟩,(zf rfl (iteF (nxtC ?_)))⟩)⟩;have C14:=C11.keep (t1113.trans (.of s14));refine(zf rfl (zf rfl ⟨p,ds,rfl,C14,B13.same s14,fun H15 r5 dn5 k15 B15 D15=>?_⟩));exact⟨p,r5,ds,dn5,rfl,D15,fun H16 s16=>q H16⟩
end
structure TopK(K:uc)(cB cT:Addr):Prop where
 qU:OwnIn K "Begun" cB
 ql:uQ K (.ref cB) "within"=some none
 qm:uQ K (.ref cB) "finish"=some none
 qi:uQ K (.ref cB) "results"=some none
 qT:OwnIn K "Tokens" cT
 qn:uQ K (.ref cT) "taken"=some none
 qp:uQ K (.ref cT) "many"=some none
 qM:DcIn K "anew_def" xZ 89
 qo:DcIn K "begun_tokens" wU 129
 qs:DcIn K "with_token" x9 134
 qt:DcIn K "begun_ways" yN 148
 hc1:Uh K 89 85=true
 hc2:Uh K 129 127=true
 hc3:Uh K 134 132=true
 hc4:Uh K 148 144=true
 qR:DfIn K "ways_on" Wz
 qg:MeIn K cB "__init__" "Begun.__init__" Ya
 qN:DfIn K "only_one" WA
 qu:DfIn K "worked_out" jn
 qV:DfIn K "bound" Yb
 qj:DfIn K "bodies_within" yS
 qq:DfIn K "with_bodies" xn
 qA:DfIn K "bodies_in" wG
 qS:DfIn K "is_left" jp
 qa:MeIn K cT "next_token" "Tokens.next_token" vm
 qb:MeIn K cT "new_token" "Tokens.new_token" jo
 qd:MeIn K cT "__init__" "Tokens.__init__" Yc
 qr:DfIn K "joined_ways" jq
 qY:DfIn K "anew" WB
 qB:DfIn K "_law_draw" WC
 qC:DfIn K "_law_name" sNm
 qD:DfIn K "_law_stem" WD
 qv:DfIn K "_law_world" Yd
 qE:DfIn K "_law_some" WE
 qF:DfIn K "_law_call" WF
 qG:DfIn K "_law_deed" Ye
 qO:DfIn K "_law_end" sEnd
 qP:DfIn K "_law_arm" WG
 qH:DfIn K "_law_case" Yf
 qI:DfIn K "_law_body" jr
 qJ:DfIn K "_law_foot" WH
 qw:DfIn K "_law_chain" Yg
 qK:DfIn K "_law_code" Yh
 qL:DfIn K "_law_bare" YR
 qx:DfIn K "_law_heard" js
 qe:DfIn K "_law_other_deed" Yi
 qf:DfIn K "_law_other_body" jt
 qc:DfIn K "_law_may_be_name" sMay
 qk:DfIn K "_law_bound_by" ju
 qh:DfIn K "_law_exchanged" WJ
 qy:DfIn K "_law_right" Yj
 q0:DfIn K "law" sLaw
 q1:Ub K mainGlobals "len"=some none
 qW:Ub K mainGlobals "range"=some none
 qZ:Ub K mainGlobals "list"=some none
 qX:Ub K mainGlobals "tuple"=some none
 q2:Ub K mainGlobals "zip"=some none
 q3:Ub K mainGlobals "min"=some none
 q4:Ub K mainGlobals "all"=some none
 q5:Ub K mainGlobals "any"=some none
 q6:Ub K mainGlobals "int"=some none
 q7:Ub K mainGlobals "str"=some none
 qQ:Ub K mainGlobals "reversed"=some none
 qz:Ub K mainGlobals "isinstance"=some none
theorem top_ok{l:PySem.W.OpenLaw}{K:uc}(T:TopK K cB cT)(X:K.In h)(G:h.Ns mainGlobals mg)(hfa:mg "law"=some (.ref fa)):
  ∃fd:FuncData,(∀(s:Shared)(u:Value),BindsTo s fd ⟨[u],[]⟩ [("_law_script",u)])/\∀base:Heap,K.In base->base.Ns mainGlobals mg->BMn mg base->FnOk l.prog w K mg base CX0 163 fa fd ["_law_script"] (ww K [144,132,127,85]):=by
 refine VX T.q0 X G hfa (fun _ _ _ _ _ _ s v=>.of_eq rfl) fun base fd hBM FL=>?_;have q1:mg "len"=none:=uW X G T.q1;have qW:mg "range"=none:=uW X G T.qW;have qZ:mg "list"=none:=uW X G T.qZ;have qX:mg "tuple"=none:=uW X G T.qX;have q2:mg "zip"=none:=uW X G T.q2;have q3:mg "min"=none:=uW X G T.q3;have q4:mg "all"=none:=uW X G T.q4;have q5:mg "any"=none:=uW X G T.q5;have q6:mg "int"=none:=uW X G T.q6;have q7:mg "str"=none:=uW X G T.q7;have qQ:mg "reversed"=none:=uW X G T.qQ;have qz:mg "isinstance"=none:=uW X G T.qz;have n_Begun:mg "Begun"=some (.ref cB):=PySem.W.mg_of X G T.qU.n;have n_Tokens:mg "Tokens"=some (.ref cT):=PySem.W.mg_of X G T.qT.n;have BN:Bn K cB:=⟨T.qU.cls,T.ql,T.qm,T.qi⟩;have TN:Tn K cT:=⟨T.qT.cls,T.qn,T.qp⟩;have G1:=DfIn.ca (P:=l.prog) (w:=w) (base:=base) X G T.qR (ps:=["body"]) (fun _ _ _ _ _ _=>us1 fun _=>rfl) fun f fd F=>JL F;have GB:=T.qg.ma (P:=l.prog) (w:=w) (mg:=mg) (base:=base) (x:="Begun") (ps:=lS18) (fun _ _ _ _ _ _=>us3 fun _ _ _=>rfl) T.qU.mks T.qU.kp n_Begun fun f fd F=>WV F BN;have GO:=DfIn.ca (P:=l.prog) (w:=w) (base:=base) X G T.qN (ps:=["results"]) (fun _ _ _ _ _ _=>us1 fun _=>rfl) fun f fd F=>JF F;obtain⟨fo,fdo,GO1,GO2,GO3,GO4⟩:=GO.ex;have GW4:=DfIn.ca (P:=l.prog) (w:=w) (base:=base) X G T.qu (ps:=lS21) (fun _ _ _ _ _ _=>us2 fun _ _=>rfl) fun f fd F=>v6 (k:=4) F BN GB GO1 GO2 GO3 GO4 q1 (by decide);have GW8:=DfIn.ca (P:=l.prog) (w:=w) (base:=base) X G T.qu (ps:=lS21) (fun _ _ _ _ _ _=>us2 fun _ _=>rfl) fun f fd F=>v6 (k:=8) F BN GB GO1 GO2 GO3 GO4 q1 (by decide);have GBo:=DfIn.ca X G T.qV (ps:=["one"]) (fun _ _ _ _ _ _=>us1 fun _=>rfl) fun f fd F=>Vk F G1 q1 qQ qZ;have GBw:=DfIn.ca X G T.qj (ps:=["body"]) (fun _ _ _ _ _ _=>us1 fun _=>rfl) fun f fd F=>zbZ F G1;have GWb:=DfIn.ca (P:=l.prog) (w:=w) (base:=base) X G T.qq (ps:=lS17) (fun _ _ _ _ _ _=>us2 fun _ _=>rfl) fun f fd F=>zb0 F qX q2;have GBi:=DfIn.ca X G T.qA (ps:=["body"]) (fun _ _ _ _ _ _=>us1 fun _=>rfl) fun f fd F=>zbd F GBw q1 qQ;have GIs:=DfIn.ca (P:=l.prog) (w:=w) (base:=base) X G T.qS (ps:=lS22) (fun _ _ _ _ _ _=>us2 fun _ _=>rfl) fun f fd F=>zbe F q1;have MNx:=T.qa.me (P:=l.prog) (w:=w) (mg:=mg) (base:=base) (ps:=["self"]) (fun _ _ _ _ _ _=>us1 fun _=>rfl) fun f fd F=>Vp F TN;have MNw:=T.qb.me (P:=l.prog) (w:=w) (mg:=mg) (base:=base) (ps:=["self"]) (fun _ _ _ _ _ _=>us1 fun _=>rfl) fun f fd F=>JS F TN MNx;have GTi:=T.qd.ma (P:=l.prog) (w:=w) (mg:=mg) (base:=base) (x:="Tokens") (ps:=["self","code"]) (fun _ _ _ _ _ _=>us2 fun _ _=>rfl) T.qT.mks T.qT.kp n_Tokens fun f fd F=>Vq F TN GBo;have GJo:=DfIn.ca X G T.qr (ps:=lS15) (fun _ _ _ _ _ _=>us3 fun _ _ _=>rfl) fun f fd F=>JT F GWb q5;have GBy:=DcIn.ca (P:=l.prog) (w:=w) (base:=base) X G T.qt (ps:=lS16) (fun _ _ _ _ _=>us3 fun _ _ _=>rfl) fun f fd F=>JY F hBM T.hc4 GIs GBw;have GWt:=DcIn.ca (P:=l.prog) (w:=w) (base:=base) X G T.qs (ps:=["tokens","arm"]) (fun _ _ _ _ _=>us2 fun _ _=>rfl) fun f fd F=>Vs F TN hBM T.hc3 (by decide) GBi GIs MNw GBy GJo GW4 q1 q5;have GBt:=DcIn.ca (P:=l.prog) (w:=w) (base:=base) X G T.qo (ps:=lS20) (fun _ _ _ _ _=>us2 fun _ _=>rfl) fun f fd F=>J6 F hBM T.hc2 (by decide) (by decide) GWt GBw qX;have GAd:=DcIn.ca (P:=l.prog) (w:=w) (base:=base) X G T.qM (ps:=["tokens","one"]) (fun _ _ _ _ _=>us2 fun _ _=>rfl) fun f fd F=>J9 F hBM T.hc1 (by decide) (by decide) (by decide) GBt GWb GW8;have GAn:=DfIn.ca (P:=l.prog) (w:=w) (base:=base) X G T.qY (ps:=["code"]) (fun _ _ _ _ _ _=>us1 fun _=>rfl) fun f fd F=>q9 F GTi GAd qX;have LD:=DfIn.ca (P:=l.prog) (w:=w) (base:=base) X G T.qB (ps:=lS1) (fun _ _ _ _ _ _=>us2 fun _ _=>rfl) fun f fd F=>JJ F q1;have LN:=DfIn.ca (P:=l.prog) (w:=w) (base:=base) X G T.qC (ps:=lS5) (fun _ _ _ _ _ _=>us2 fun _ _=>rfl) fun f fd F=>zbU F;have LS_:=DfIn.ca X G T.qD (ps:=["_law_state"]) (fun _ _ _ _ _ _=>us1 fun _=>rfl) fun f fd F=>Qg F LD qW;have LW:=DfIn.ca X G T.qv (ps:=["_law_state"]) (fun _ _ _ _ _ _=>us1 fun _=>rfl) fun f fd F=>VL F LD LS_ LN q1 qW qX q3;have LSo:=DfIn.ca X G T.qE (ps:=lS6) (fun _ _ _ _ _ _=>us3 fun _ _ _=>rfl) fun f fd F=>Qa F LD qW q1 qX;have LCa:=DfIn.ca X G T.qF (ps:=lS13) (fun _ _ _ _ _ _=>us4 fun _ _ _ _=>rfl) fun f fd F=>Vw F LD LSo q1 qZ qX;have LDe:=DfIn.ca X G T.qG (ps:=lS11) (fun _ _ _ _ _ _=>us4 fun _ _ _ _=>rfl) fun f fd F=>Vx F LD LSo LCa q1 q4 q3;have LE:=DfIn.ca X G T.qO (ps:=lS7) (fun _ _ _ _ _ _=>us3 fun _ _ _=>rfl) fun f fd F=>Qh F LD q1 qZ;have LB:∀n:Nat,Ca l.prog w K mg base CX0 (5+3*n) "_law_body" lS0 (spBodyW K n):=by
  intro n
  induction n using Nat.strongRecOn with
  |_ n ih =>
   match n,ih with
   |0,_=>exact DfIn.ca (P:=l.prog) (w:=w) (base:=base) X G T.qI (ps:=lS0) (fun _ _ _ _ _ _=>us6 fun _ _ _ _ _ _=>rfl) fun f fd F=>XJ F LD LN LE
   |n+1,ih =>
    have i1:=ih n (Uf n);have i2:=ih (n / 2) (Nat.lt_succ_of_le (Nat.div_le_self n 2));have Lar:=DfIn.ca (P:=l.prog) (w:=w) (base:=base) X G T.qP (ps:=lS3) (fun _ _ _ _ _ _=>us7 fun _ _ _ _ _ _ _=>rfl) fun f fd F=>Qi (by lia) F LD LN LSo i2 qZ;have Lca:=DfIn.ca (P:=l.prog) (w:=w) (base:=base) X G T.qH (ps:=lS0) (fun _ _ _ _ _ _=>us6 fun _ _ _ _ _ _=>rfl) fun f fd F=>VB (by lia) F LD LN Lar q1 qW qX;exact DfIn.ca (P:=l.prog) (w:=w) (base:=base) X G T.qI (ps:=lS0) (fun _ _ _ _ _ _=>us6 fun _ _ _ _ _ _=>rfl) fun f fd F=>VC F LD LN LE LDe i1 i2 Lca q1 qZ
 have LFo:=DfIn.ca X G T.qJ (ps:=lS4) (fun _ _ _ _ _ _=>us6 fun _ _ _ _ _ _=>rfl) fun f fd F=>Qk F LD LN LSo LE q1 qZ qW qQ;have LCh:=DfIn.ca X G T.qw (ps:=lS12) (fun _ _ _ _ _ _=>us4 fun _ _ _ _=>rfl) fun f fd F=>VF F LD LN LFo qZ qW qQ qX;have LG:=DfIn.ca X G T.qK (ps:=lS14) (fun _ _ _ _ _ _=>us3 fun _ _ _=>rfl) fun f fd F=>VN F LD LN LCh (LB 5) q1 qW qX q2 q6;have LBa:∀n:Nat,Ca l.prog w K mg base CX0 (1+n) "_law_bare" ["_law_body_here"] (spBare n):=by
  intro n
  induction n with
  |zero=>exact DfIn.ca (P:=l.prog) (w:=w) (base:=base) X G T.qL (ps:=["_law_body_here"]) (fun _ _ _ _ _ _=>us1 fun _=>rfl) fun f fd F=>VR F
  |succ n ih=>exact DfIn.ca (P:=l.prog) (w:=w) (base:=base) X G T.qL (ps:=["_law_body_here"]) (fun _ _ _ _ _ _=>us1 fun _=>rfl) fun f fd F=>Qs F ih qX
 have LHe:∀n:Nat,Ca l.prog w K mg base CX0 (1+n) "_law_heard" lS2 (spHeard n):=by
  intro n
  induction n with
  |zero=>exact DfIn.ca (P:=l.prog) (w:=w) (base:=base) X G T.qx (ps:=lS2) (fun _ _ _ _ _ _=>us3 fun _ _ _=>rfl) fun f fd F=>XL F
  |succ n ih=>exact DfIn.ca (P:=l.prog) (w:=w) (base:=base) X G T.qx (ps:=lS2) (fun _ _ _ _ _ _=>us3 fun _ _ _=>rfl) fun f fd F=>VS F ih
 have LOd:=DfIn.ca (P:=l.prog) (w:=w) (base:=base) X G T.qe (ps:=lS19) (fun _ _ _ _ _ _=>us2 fun _ _=>rfl) fun f fd F=>VT F qX;have LOb:∀n:Nat,Ca l.prog w K mg base CX0 (1+n) "_law_other_body" lS8 (spOBody n):=by
  intro n
  induction n with
  |zero=>exact DfIn.ca (P:=l.prog) (w:=w) (base:=base) X G T.qf (ps:=lS8) (fun _ _ _ _ _ _=>us2 fun _ _=>rfl) fun f fd F=>XM F
  |succ n ih=>exact DfIn.ca (P:=l.prog) (w:=w) (base:=base) X G T.qf (ps:=lS8) (fun _ _ _ _ _ _=>us2 fun _ _=>rfl) fun f fd F=>VV F ih LOd qX
 have LMa:=DfIn.ca (P:=l.prog) (w:=w) (base:=base) X G T.qc (ps:=["_law_word"]) (fun _ _ _ _ _ _=>us1 fun _=>rfl) fun f fd F=>zby F q1;have LBb:∀n:Nat,Ca l.prog w K mg base CX0 (1+n) "_law_bound_by" lS9 (spBndBy n):=by
  intro n
  induction n with
  |zero=>exact DfIn.ca (P:=l.prog) (w:=w) (base:=base) X G T.qk (ps:=lS9) (fun _ _ _ _ _ _=>us2 fun _ _=>rfl) fun f fd F=>XN F
  |succ n ih=>exact DfIn.ca (P:=l.prog) (w:=w) (base:=base) X G T.qk (ps:=lS9) (fun _ _ _ _ _ _=>us2 fun _ _=>rfl) fun f fd F=>VW F ih qZ
 have LEx:=DfIn.ca X G T.qh (ps:=lS10) (fun _ _ _ _ _ _=>us2 fun _ _=>rfl) fun f fd F=>Qx F (LHe 160) (LBb 160) LMa (LOb 160) qX qZ q2;have LRi:=DfIn.ca (P:=l.prog) (w:=w) (base:=base) X G T.qy (ps:=lS10) (fun _ _ _ _ _ _=>us2 fun _ _=>rfl) fun f fd F=>XR F (LBa 160) (LHe 160) qz qX q7 qZ q1 q2;exact Qz FL LW LG GAn LRi LEx q3
end GN
namespace PySem.W.Fast
def tw8112221183565293736:=()
def tw16559980114502019373:=()
def tw1707057427408585503:=()
def tw7197351116170361921:=()
def tw7530976599563183406:=()
def tw347515557730396079:=()
def tw4091736375203761667:=()
def tw904396501125771051:=()
def tw13419014326070426685:=()
def tw5554456250843755883:=()
def tw5095252156304451744:=()
def tw3229471799478210961:=()
def tw15732742636097181665:=()
def tw6143309864118208349:=()
def tw166279053822051030:=()
def tw6037391500020138634:=()
def tw9868224818210209815:=()
def tw4052246653804476372:=()
def tw11693480545839651246:=()
def tw12973031426718773831:=()
def tw12200871303066984564:=()
def tw5537226467784900988:=()
def tw12889623986807850164:=()
def tw11140492085471262532:=()
def tw16116829685863794754:=()
def tw5235455908871936079:=()
def tw9929024758116496728:=()
def tw17152940531117223452:=()
def tw15833400230666901229:=()
def tw12326157250321578114:=()
def tw18115982700836637090:=()
def tw7584137889021497985:=()
def tw6460977492479642245:=()
def tw2767255568032459212:=()
def tw16492052397013518104:=()
def tw6384330150879770501:=()
def tw13112265145793227972:=()
def tw15454154632083641132:=()
def tw3926445669913479042:=()
def tw7165430662423017195:=()
def tw3102184136619307106:=()
def tw5191110900188320779:=()
def tw17250126753424532177:=()
def tw3356504270911831659:=()
def tw14326095583509730801:=()
def tw4785274288670612579:=()
def tw3240451028270734428:=()
def tw14299125425955971548:=()
def tw8436691658333950691:=()
def tw10100510924117348339:=()
def tw3112376066389937370:=()
def tw2544166832658531356:=()
def tw3131413343582517734:=()
def tw2393285155418926109:=()
def tw2747798899994811286:=()
def tw16072494527443750119:=()
def tw18250821712391162105:=()
def tw3963361521797275087:=()
def tw2900446642018404634:=()
def tw12118683799120210658:=()
def tw7463129672772876143:=()
def tw12066237180562127161:=()
def tw17678813971033467386:=()
def tw3713736523093357758:=()
def tw16548113398523272283:=()
def tw4082607615323543788:=()
def tw12078881675060105318:=()
def tw841739291950249335:=()
def tw17926909154124516928:=()
def tw3808026884606828127:=()
def tw8241291057847185992:=()
def tw17351488016866065627:=()
def tw2862237834347921695:=()
def tw316134037195652413:=()
def tw6069400150601010300:=()
def tw2877275411291235911:=()
def tw18131798411763106165:=()
def tw8999485877905767666:=()
def tw6461200667228625700:=()
def tw15708922185789752268:=()
def tw5097723684425108164:=()
def tw12949254513791005413:=()
def tw6947704600910454899:=()
def tw8975974351304847069:=()
def tw7475727439010225135:=()
def tw12044019552518648117:=()
def tw7037198911907693498:=()
def tw2952525319322229504:=()
def tw948955751469967370:=()
def tw12048923399985965274:=()
def tw9135396283544985163:=()
def tw11346948388730160374:=()
def tw1401743405193881534:=()
def tw5542427863630519291:=()
def tw5047186072328318140:=()
def tw3762998910232985376:=()
def tw13166654220106239277:=()
def tw12439292650611296645:=()
def tw1442132405440898088:=()
def tw18278976207498537086:=()
def tw13875984652992829632:=()
def tw1209189756711998170:=()
def tw5677369471335795216:=()
def tw9221140654744503933:=()
def tw18428728933862988619:=()
def tw12952052148044241105:=()
def tw7186236298308581771:=()
def tw8432112431437814377:=()
def tw10032319612822976538:=()
def tw7669005807407561999:=()
def tw16387224640744138195:=()
def tw12118359419152014114:=()
def tw8136992741609959453:=()
def tw4190984630137661673:=()
def tw10149609838195104023:=()
def tw1212522579397981182:=()
def tw6559877646179254241:=()
def tw5119309279986699004:=()
def tw509874972233234339:=()
def tw8197486872594288702:=()
def tw15466222433951281621:=()
def tw11676060252708591701:=()
def tw13269635423245883164:=()
def tw1771707961224166039:=()
def tw7640897381233010392:=()
def tw9434204653592766777:=()
def tw18444306993411281725:=()
def tw14100327391745152736:=()
def tw13628981467376028291:=()
def tw692929531773301391:=()
def tw6147844639823991243:=()
def tw8097910201948450151:=()
def tw5573376521934070298:=()
def tw9866884078824698837:=()
def tw10790202408805527801:=()
def tw8078179346957240183:=()
def tw3493490005845699788:=()
def tw6355971089582006372:=()
def tw17271124612324274391:=()
def tw17576362267374412017:=()
def tw10830502631809685853:=()
def tw9217322328377589969:=()
def tw16467858678329776191:=()
def tw3731581935394043838:=()
def tw2747256581611073134:=()
def tw16884106069188726075:=()
def tw10131259181348337292:=()
def tw3441330972915616536:=()
def tw2472512841376453839:=()
def tw493357328322994534:=()
def tw3948660297834954699:=()
def tw6146663559949224347:=()
def tw4843428079871919142:=()
def tw11046079038051028701:=()
def tw2474715110359449579:=()
def tw16369489185496166150:=()
def tw18075017257222884902:=()
def tw11768711499386781204:=()
def tw2050714862409331503:=()
def tw2392689356283367709:=()
def tw4932633383375672004:=()
def tw15897680600054852085:=()
def tw5612541716411198760:=()
def tw5969674821841770550:=()
def tw17027251181046803220:=()
def tw6278852088968915851:=()
def tw112535701721338629:=()
def tw5626287497240053083:=()
def tw16184916635874735313:=()
def tw11378608654832091892:=()
def tw8413273595312670864:=()
def tw14720760568122786516:=()
def tw18090920741786992987:=()
def tw9318912191796522858:=()
def tw14329416040860503152:=()
def tw5855261422870629451:=()
def tw3511155325110159941:=()
def tw13809417411003400758:=()
def tw969262935428068372:=()
def tw4039753998609103718:=()
def tw8802815598873273219:=()
def tw7026484001622274533:=()
def tw792919987956741800:=()
def tw9405306759716468074:=()
def tw16666412178508790322:=()
def tw10390137152686162571:=()
def tw566636992256624496:=()
def tw11339430716323637022:=()
def tw17608759210967991237:=()
def tw6512967663893539064:=()
def tw16968195272479041756:=()
def tw12987478053812716994:=()
def tw5987998371240405417:=()
def tw6028053736820843398:=()
end PySem.W.Fast
open PySem PySem.W PyProof.Rows
set_option maxRecDepth 100000 in
set_option maxHeartbeats 0 in
theorem PySem.Challenge.cw_reusewise_k61_the_same_code_holds : PySem.Challenge.rw_reusewise_k61_the_same_code.Holds := by
 w_on;o_law;k_head;(case hw=>w_witness2)
 k_fill
 refine L2.walkTs (l:=PySem.Challenge.rw_reusewise_k61_the_same_code) (k:=163) (Ts:=[144,132,127,85]) rfl ⟨rfl,by decide,by decide⟩ rfl rfl (fun p T hT=>by
  simp only[uq,Ui,or_false]at hT
  rcases hT with rfl|rfl|rfl|rfl
  ·exact⟨148,rfl⟩
  ·exact⟨134,rfl⟩
  ·exact⟨129,rfl⟩
  ·exact⟨89,rfl⟩
  ) (fun p T hT=>by
  simp only[uq,Ui,or_false]at hT
  rcases hT with rfl|rfl|rfl|rfl
  ·exact rfl
  ·exact rfl
  ·exact rfl
  ·exact rfl
  ) ?F
 case F =>
  intro w mg fa h KX G hm
  refine' GN.top_ok (GN.TopK.mk ?qU ?ql ?qm ?qi ?qT ?qn ?qp ?qM ?qo ?qs ?qt ?hc1 ?hc2 ?hc3 ?hc4 ?qR ?qg ?qN ?qu ?qV ?qj ?qq ?qA ?qS ?qa ?qb ?qd ?qr ?qY ?qB ?qC ?qD ?qv ?qE ?qF ?qG ?qO ?qP ?qH ?qI ?qJ ?qw ?qK ?qL ?qx ?qe ?qf ?qc ?qk ?qh ?qy ?q0 ?q1 ?qW ?qZ ?qX ?q2 ?q3 ?q4 ?q5 ?q6 ?q7 ?qQ ?qz) KX G hm
  (case qU|qT=>(refine' L2.OwnIn.mk ?n ?pg ?hd ?po ?sa ?mks ?kp;(case n=>k_is);(case pg=>k_is);(case hd=>k_is);(case po=>k_is);(case sa=>k_is);(case mks=>k_is);(case kp=>k_is)))
  (case ql|qm|qi|qn|qp|q1|qW|qZ|qX|q2|q3|q4|q5|q6|q7|qQ|qz=>k_is)
  (case qM|qo|qs|qt=>(refine' L2.DcIn.mk ?a ?l ?c ?k;(case a=>k_is);(case l=>k_is);(case c=>k_is);(case k=>k_is)))
  (case hc1|hc2|hc3|hc4=>(exact rfl))
  (case qR|qN|qu|qV|qj|qq|qA|qS|qr|qY|qB|qC|qD|qv|qE|qF|qG|qO|qP|qH|qI|qJ|qw|qK|qL|qx|qe|qf|qc|qk|qh|qy|q0=>(refine' L2.DfIn.mk ?a ?l ?c ?k;(case a=>k_is);(case l=>k_is);(case c=>k_is);(case k=>k_is)))
  (case qg|qa|qb|qd=>(refine' L2.MeIn.mk ?a ?l ?c ?k ?n;(case a=>k_is);(case l=>k_is);(case c=>k_is);(case k=>k_is);(case n=>k_is)))
#print axioms PySem.Challenge.cw_reusewise_k61_the_same_code_holds
