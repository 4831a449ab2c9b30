import PyProof.Rows.All
import Wide.All
import OpenK.AllK
import Wide.FinOn
import Lean
import PyProof.EqAt
import PyProof.EqKinds
import PyProof.TupleCall
import PyProof.PassesOwn
import PyProof.StationsW
import OpenK.KCls
import PyProof.ExcAttrAll.ValueError
import PyProof.ExcClass3
import PyProof.WalksEnum
import PyProof.EnumMake
import PyProof.EnumFor
import PyProof.EnumStmt
import PyProof.MeetsStr
import PyProof.StrLawsTight
import PyProof.NeKinds
import PyProof.Rows.SumAny
import PyProof.SeqI3
import PyProof.ZipIter
import PyProof.WalksMore
import PyProof.ListNew
import KE.KRevIter
import PyProof.AutoSeq1
import PyProof.FactsAll.list
import PyProof.IsRules
import KE.KItemsList
import PyProof.StrBlockL
import PyProof.StrBlockI
import PyProof.StrBlock2
import PyProof.StrLawsIn
import PyProof.StrLawsChain
import PyProof.Rows.StrLast
import PyProof.Rows.StrItems
import KE.IntTextText
import KE.KDictList
import KE.KLam
import KE.KNestM
import PyProof.IsiTupleOf
import KE.KDictSum
import PyProof.Rows.SortWalk
import KE.KDictOf
import PyProof.Draws
import PyProof.DictWalks
import PyProof.AttrMissHeap
import PyProof.Walks
import PyProof.MinMaxWalk
import KE.KEqDict
import KE.KIntText
import PySem.Challenge.RW_reusewise_k64_let_by_just_these
set_option Elab.async false
set_option linter.all false
set_option maxRecDepth 100000
set_option maxHeartbeats 4000000
open List renaming length_map → ua, length_append → uc, getElem?_eq_some_iff → ug, map_append → uj, getElem?_map → uk, getElem?_eq_getElem → um, size_toArray → uo, mem_cons → uu, mem_singleton → uv, mem_of_getElem? → uB, not_mem_nil → uD, mem_append → uF, mem_append_right → uG, getD_eq_getElem?_getD → uH, length_cons → uM, append_nil → uO, mem_cons_self → uP, range → uT, take_of_length_le → uV, length_take → uX, map_cons → uY, all_eq_true → u9, take_add_one → Ua, take_append_drop → Ug, getElem?_append_left → Uh, mem_append_left → Ui, append_assoc → Uj, replicate → Um, getElem?_append_right → Uo, mem_cons_of_mem → Up, append_eq_nil_iff → Uq, nodup_cons → Ur, take_length → Us, length_filter_le → Ut, find?_cons → Uu, lookup_cons → Ux, length_replicate → Uy, mem_map → UA, length_eq_zero_iff → UC, getElem?_set_self → UD, nodup_append → UG, map_eq_nil_iff → UI, length_set → UJ, length_singleton → UK, filter_append → UM, nodup_nil → UP, flatMap_append → UT, map_map → UV, lookup → UW, getElem_mem → UX, take_succ → UY, getElem?_zip_eq_some → U0, getElem?_set_ne → U1, length → U3, flatMap_cons → U4, length_range → U6, eraseIdxIfInBounds_toArray → U9, flatMap_nil → tm, all_cons → tF, getElem?_of_mem → tK, length_eraseIdx → tL, filter_cons → tO, getElem?_range → tR, length_pos_iff → tS, length_zip → tV, range_succ → tW, find?_eq_none → tX
open PySem.W renaming Frag → ub, findIn → uA, nsIn → uL, emptyDict → uR, mg_none_of → Uc, keepIn → Ud, mg_of → Uk, fnOf → Uw, kitOne → Uz, hasDictIn → UQ, instObj → US, callWith_K → tD, takerIn → tE, codeIn → tI, plainGet → tM, typeIn → tY, specialIn → tZ, cellsFrom_some → Ta
open PySem.Heap renaming get?_push_of_some → ud, lt_size → uq, get?_push_size → ut, get?_update_other → uE, get?_update_self → uU, size_push → Uf
open Option renaming map_eq_some_iff → uf, bind_some → uz, bind_eq_some_iff → uN, some → UB, isSome_map → UF, isSome_iff_exists → U7, isNone_iff_eq_none → tP
open Nat renaming le_refl → ui, lt_of_lt_of_le → ux, le_trans → uy, ne_of_lt → uC, zero_le → uW, lt_irrefl → Ub, succ_le_succ → Ue, lt_succ_self → Uv, mul_le_mul_right → UO, ne_of_gt → UU, le_succ → U2, le_succ_of_le → U5, le_add_right → tj, lt_succ_of_lt → Tb
open Bool renaming false_ne_true → uw, and_eq_true → UL, and_false → tf, eq_iff_iff → tU
open PySem.Builtin.SmallTypes renaming nextOf → uI, ownedTupleIsFree → uQ, ownedTupleHandOut → tQ
open PySem.F renaming plainAttrs_list → uJ, slot_list_append → uZ, type_list_append → u6, plainAttrs_dict → UR, slot_zip_getattribute → tq, slot_dict_pop → tG, excBase_ValueError → tJ, slot_dict_values → tT
open PyProof.Rows renaming boot_isinstance → uK, boot_tuple → uS, callWith_type1 → Ul, boot_list → UE, boot_min → UZ, slot_tuple_getitem → U8, boot_dict → Tc
open PySem renaming mem_of_lookup → UH, sizeLine → UN
open Int renaming toNat_natCast → tH
abbrev L2.lS0:List PySem.Str:=["_law_state","_law_at","_law_k","_law_room","_law_world_here"]
abbrev L2.lS1:List PySem.Str:=["_law_state","_law_at","_law_world_here"]
abbrev L2.lS2:List PySem.Str:=["_law_state","_law_at","_law_x","_law_k","_law_room","_law_world_here"]
abbrev L2.lS3:List PySem.Str:=["_law_state","_law_world_here","_law_many"]
abbrev L2.lS4:List PySem.Str:=["_law_state","_law_many"]
abbrev L2.lS5:List PySem.Str:=["self","name"]
abbrev L2.lS6:List PySem.Str:=["_law_body_here","_law_owns"]
abbrev L2.lS7:List PySem.Str:=["_law_state","_law_at","_law_x","_law_one","_law_k","_law_room","_law_world_here"]
abbrev L2.lS8:List PySem.Str:=["_law_state","_law_at","_law_name_here","_law_world_here"]
abbrev L2.lS9:List PySem.Str:=["_law_world_here","_law_k"]
abbrev L2.lS10:List PySem.Str:=["self","def_name","names","tokens"]
abbrev L2.lS11:List PySem.Str:=["_law_state","_law_at","_law_size","_law_world_here"]
abbrev L2.lS12:List PySem.Str:=["_law_at","_law_names"]
abbrev L2.lS13:List PySem.Str:=["self","fits"]
abbrev L2.lS14:List PySem.Str:=["_law_state","_law_world_here","_law_room"]
abbrev L2.lS15:List PySem.Str:=["_law_event","_law_hands","_law_tokens"]
abbrev L2.lS16:List PySem.Str:=["_law_way","_law_params","_law_modes"]
abbrev L2.lS17:List PySem.Str:=["body","hand"]
abbrev L2.lS18:List PySem.Str:=["__module__","__name__","__qualname__","__doc__","__annotations__"]
abbrev L2.lS19:List PySem.Str:=["self","token","many"]
abbrev L2.lS20:List PySem.Str:=["_law_deed_here","_law_owns"]
abbrev L2.lS21:List PySem.Str:=["owns","body","hand"]
abbrev L2.lS22:List PySem.Str:=["_law_x","_law_arm_here"]
abbrev L2.lS23:List PySem.Str:=["self","token"]
abbrev L2.lS24:List PySem.Str:=["_law_one","_law_owns"]
abbrev L2.lS25:List PySem.Str:=["owns","deed","hand"]
theorem L2.sN0:0<=UN:=by decide
theorem L2.sN1:1<=UN:=by decide
theorem L2.sN2:2<=UN:=by decide
theorem L2.sN3:3<=UN:=by decide
theorem L2.sN4:4<=UN:=by decide
theorem L2.sN5:5<=UN:=by decide
theorem L2.sN7:7<=UN:=by decide
theorem L2.sN8:8<=UN:=by decide
theorem L2.sN10:10<=UN:=by decide
namespace L2
open PySem PySem.Spec PyProof.Rows
abbrev Key:=Sum Int Str
def jc:Key->Value->Bool
 |.inl k,v=>Value.isInt k v
 |.inr x,v=>Value.isStrOf x v
def keyH(w:World):Key->Int
 |.inl k=>hashInt k
 |.inr x=>hashStr w x
theorem zU:∀{k:Key}{v:Value},jc k v=true->(∃i t,k=Sum.inl i/\v=Value.int i t)\/(∃x t,k=Sum.inr x/\v=Value.str x t)
 |.inl i,v,h=>by
  obtain⟨t,e⟩:=Value.isInt_shape (k:=i) (v:=v) h
  exact .inl ⟨i,t,rfl,e⟩
 |.inr x,v,h=>by
  obtain⟨t,e⟩:=Value.isStrOf_shape (x:=x) (v:=v) h
  exact .inr ⟨x,t,rfl,e⟩
theorem XS(i:Int)(t:Tok):jc (.inl i) (.int i t)=true:=by simp[jc,Value.isInt]
theorem XT(x:Str)(t:Tok):jc (.inr x) (.str x t)=true:=by simp[jc,Value.isStrOf]
theorem za5(a b:Int):decide ((Sum.inl a:Key)=Sum.inl b)=(a == b):=by
 by_cases e:a=b
 ·subst e;simp
 ·have h:¬ (Sum.inl a:Key)=Sum.inl b:=fun q=>e (Sum.inl.inj q)
  rw[decide_eq_false h]
  exact(beq_eq_false_iff_ne.mpr e).symm
theorem za6(a b:Str):decide ((Sum.inr a:Key)=Sum.inr b)=decide (a=b):=by
 by_cases e:a=b
 ·subst e;simp
 ·have h:¬ (Sum.inr a:Key)=Sum.inr b:=fun q=>e (Sum.inr.inj q)
  rw[decide_eq_false h,decide_eq_false e]
theorem za7(a:Int)(b:Str):decide ((Sum.inl a:Key)=Sum.inr b)=false:=decide_eq_false (fun q=>nomatch q)
theorem za8(a:Str)(b:Int):decide ((Sum.inr a:Key)=Sum.inl b)=false:=decide_eq_false (fun q=>nomatch q)
def zF(prog:Program)(w:World):PySem.KeyKind prog w Key where
 is:=jc
 hash:=keyH w
 inj:=fun v a b ha hb=>by
  rcases zU ha with⟨i,t,rfl,rfl⟩|⟨x,t,rfl,rfl⟩
  ·rcases zU hb with⟨j,u,rfl,e⟩|⟨y,u,rfl,e⟩
   ·injection e with e1 _;rw[e1]
   ·exact nomatch e
  ·rcases zU hb with⟨j,u,rfl,e⟩|⟨y,u,rfl,e⟩
   ·exact nomatch e
   ·injection e with e1 _;rw[e1]
 byValue:=fun k v h=>by
  rcases zU h with⟨i,t,rfl,rfl⟩|⟨x,t,rfl,rfl⟩<;>rfl
 pyHash:=fun hv h=>by
  rcases zU hv with⟨i,t,rfl,rfl⟩|⟨x,t,rfl,rfl⟩
  ·exact wpAny_pyHash_int h
  ·exact wpAny_pyHash_str h
 eqBool:=fun hu hv h=>by
  rcases zU hu with⟨i,t,rfl,rfl⟩|⟨x,t,rfl,rfl⟩
  ·rcases zU hv with⟨j,u,rfl,rfl⟩|⟨y,u,rfl,rfl⟩
   ·rw[za5]at h;exact wpAny_eqBool_int h
   ·rw[za7]at h;exact SeqAt.EqAt.int_str i t y u _ _ _ _ h
  ·rcases zU hv with⟨j,u,rfl,rfl⟩|⟨y,u,rfl,rfl⟩
   ·rw[za8]at h;exact SeqAt.EqAt.str_int x t j u _ _ _ _ h
   ·rw[za6]at h;exact wpAny_eqBool_str h
 «strs»:=fun k x t v h=>by
  rcases zU h with⟨i,u,rfl,e⟩|⟨y,u,rfl,e⟩
  ·exact nomatch e
  ·injection e with e1 _
   subst e1
   cases v<;>rfl
theorem ZD(prog:Program)(w:World)(i:Int)(t:Tok):(zF prog w).is (.inl i) (.int i t)=true:=XS i t
theorem wT(prog:Program)(w:World)(x:Str)(t:Tok):(zF prog w).is (.inr x) (.str x t)=true:=XT x t
inductive V where
 |non|bl (b:Bool)|int (i:Int)|str (x:Str)|byt (b:Array UInt8)|flt (b:UInt64)|ref (a:Addr)|ty (n:String)
 deriving DecidableEq
def RelV:V->Value->Prop
 |.non,u=>u=Value.none
 |.bl b,u=>u=Value.bool b
 |.int i,u=>∃t,u=Value.int i t
 |.str x,u=>∃t,u=Value.str x t
 |.byt b,u=>∃t,u=Value.bytes b t
 |.flt b,u=>∃t,u=Value.float b t
 |.ref a,u=>u=Value.ref a
 |.ty n,u=>u=Value.type n
abbrev Vals:List V->List Value->Prop:=Paired RelV
theorem Vals.length{xs:List V}{us:List Value}(r:Vals xs us):xs.length=us.length:=Paired.length r
theorem Vals.get:∀{xs:List V}{us:List Value}{i:Nat}{x:V},Vals xs us->xs[i]?=some x->∃u,us[i]?=some u/\RelV x u
 |_,_,_,_,.nil,e=>by simp at e
 |_,_,0,_,.cons r _,e=>by simp at e;subst e;exact⟨_,rfl,r⟩
 |_,_,i+1,x,.cons _ t,e=>by
  obtain⟨u,h1,h2⟩:=Vals.get (i:=i) (x:=x) t (by simpa using e)
  exact⟨u,by simpa using h1,h2⟩
theorem Vals.set{x:V}{u:Value}(r:RelV x u):∀{xs:List V}{us:List Value}(i:Nat),Vals xs us->Vals (xs.set i x) (us.set i u)
 |_,_,_,.nil=>.nil
 |_,_,0,.cons _ t=>.cons r t
 |_,_,i+1,.cons q t=>.cons q (Vals.set r i t)
theorem Vals.append:∀{xs ys:List V}{us ws:List Value},Vals xs us->Vals ys ws->Vals (xs++ys) (us++ws)
 |_,_,_,_,.nil,s=>s
 |_,_,_,_,.cons r t,s=>.cons r (Vals.append t s)
theorem Vals.take:∀{xs:List V}{us:List Value}(n:Nat),Vals xs us->Vals (xs.take n) (us.take n)
 |_,_,0,_=>.nil
 |_,_,_+1,.nil=>.nil
 |_,_,n+1,.cons r t=>.cons r (Vals.take n t)
theorem Vals.drop:∀{xs:List V}{us:List Value}(n:Nat),Vals xs us->Vals (xs.drop n) (us.drop n)
 |_,_,0,r=>r
 |_,_,_+1,.nil=>.nil
 |_,_,n+1,.cons _ t=>Vals.drop n t
def RelO:Option V->Option Value->Prop
 |some v,some u=>RelV v u
 |none,none=>True
 |_,_=>False
def KV{κ:Type}:List (κ×V)->List (κ×Value)->Prop:=Paired fun(p:κ×V)(q:κ×Value)=>p.1=q.1/\RelV p.2 q.2
def kV:Key->V
 |.inl i=>.int i
 |.inr x=>.str x
inductive HO where
 |lst (xs:List V)
 |tup (xs:List V)
 |dK (kvs:List (Key×V))|dT (kvs:List (List Key×V))
 |set (S:Int->Bool) (n:Nat)
 |ins (C dx:Addr) (fs:List (Str×V))
 |own (x:Addr)
 |xd (fs:List (Str×V))
 |met (f x:Addr)
 |rng (lo hi:Int)
 |frz (o:Obj) (u:HO)
 |tbl (ps:Array Value)
 |ext (φ:Heap->Prop)
abbrev Hp:=Addr->Option HO
def upd(H:Hp)(a:Addr)(o:HO):Hp:=fun b=>if b=a then some o else H b
theorem zg{H:Hp}{a:Addr}{o:HO}:upd H a o a=some o:=by unfold upd;rw[if_pos rfl]
theorem zm{H:Hp}{a b:Addr}{o:HO}(h:b≠a):upd H a o b=H b:=by unfold upd;rw[if_neg h]
theorem xB{H:Hp}{a b:Addr}{o u:HO}(h:H a=some o)(h':H b=some u)(d:o≠u):a≠b:=by
 intro e;subst e;rw[h]at h';exact d (UB.inj h')
theorem zr{H:Hp}{a b:Addr}{o:HO}(h:H a=some o)(h':H b=none):a≠b:=by
 intro e;subst e;rw[h]at h';cases h'
def IsTupN(h:Heap)(a:Addr)(items:Array Value):Prop:=∃o,h.get? a=some o/\o.cls=.type "tuple"/\o.dict=none/\∃n,o.data=.seq items n
theorem IsTupN.is{h:Heap}{a:Addr}{items:Array Value}(x:IsTupN h a items):IsTup h a items:=let ⟨o,a,b,_,c⟩:=x;⟨o,a,b,c⟩
theorem IsTupN.new(h:Heap)(items:Array Value):IsTupN (h.push { cls:=.type "tuple",data:=.seq items }) h.objs.size items:=⟨_,ut _ rfl,rfl,rfl,_,rfl⟩
section
variable(P:Program)(w:World)
def ObjOk(H:Hp)(h:Heap)(a:Addr):HO->Prop
 |.lst xs=>xs.length<=sizeLine/\∃(its:List Value)(n:Nat),Vals xs its/\h.get? a=some { cls:=.type "list",data:=.seq its.toArray n }
 |.tup xs=>xs.length<=sizeLine/\∃its:List Value,Vals xs its/\IsTupN h a its.toArray
 |.dK kvs=>kvs.length<=sizeLine/\(a == sysModules)=false/\∃vs,KV kvs vs/\h.DictOf (zF P w) a vs
 |.dT kvs=>kvs.length<=sizeLine/\(a == sysModules)=false/\∃xs:List (List Key×Addr×Value),
   Paired (fun(p:List Key×V)(q:List Key×Addr×Value)=>p.1=q.1/\H q.2.1=some (.tup (p.1.map kV))/\RelV p.2 q.2.2) kvs xs /\
   ∃o es ep,h.get? a=some o/\o.ExactDict/\o.data=.dict es ep/\es.toList=xs.map (entryOfKey (tupleKind (zF P w)))/\(xs.map (·.1)).Nodup
 |.set S n=>h.SetOf (intKind P w) a S n
 |.ins C dx fs=>H dx=some (.own a)/\fs.length<=1000/\dx≠a/\h.get? a=some (US C dx) /\
   ∃mA,h.Ns1 dx mA/\(∀f,RelO (fs.lookup f) (mA f))/\PySem.Within mA (fs.map (·.1))
 |.own _=>∃o,h.get? a=some o
 |.xd fs=>∃mA,h.Ns1 a mA/\∀f,RelO (fs.lookup f) (mA f)
 |.rng lo hi=>∃t u v,h.get? a=some { cls:=.type "range",data:=.fields #[.int lo t,.int hi u,.int 1 v] }
 |.frz o u=>h.get? a=some o/\ObjOk H h a u
 |.tbl ps=>h.get? a=some { cls:=.none,data:=.fields ps }
 |.met f x=>h.get? a=some (PySem.W.methodObj (.ref f) (.ref x))
 |.ext φ=>φ h/\(∃o,h.get? a=some o)/\∀h1 h2:Heap,φ h1->(∀o,h1.get? a=some o->h2.get? a=some o)->φ h2
def HOk(H:Hp)(h:Heap):Prop:=∀a o,H a=some o->ObjOk P w H h a o
end
section
variable{P:Program}{w:World}{H H':Hp}{h h':Heap}{a:Addr}{o:HO}
theorem ObjOk.lt(x:ObjOk P w H h a o):a < h.objs.size:=by
 cases o with
 |lst xs=>obtain⟨_,_,_,_,e⟩:=x;exact uq e
 |tup xs=>obtain⟨_,_,_,p⟩:=x;exact p.is.lt
 |dK kvs=>obtain⟨_,_,_,_,o,_,_,e,_⟩:=x;exact uq e
 |dT kvs=>obtain⟨_,_,_,_,o,_,_,e,_⟩:=x;exact uq e
 |set S n=>obtain⟨o,_,_,_,e,_⟩:=x;exact uq e
 |ins C dx fs=>obtain⟨_,_,_,e,_⟩:=x;exact uq e
 |own y=>obtain⟨_,e⟩:=x;exact uq e
 |xd fs=>obtain⟨_,⟨_,_,_,e,_⟩,_⟩:=x;exact uq e
 |rng lo hi=>obtain⟨_,_,_,e⟩:=x;exact uq e
 |frz ob u=>obtain⟨e,_⟩:=x;exact uq e
 |tbl ps=>exact uq (show h.get? a=some _ from x)
 |met f y=>exact uq (show h.get? a=some _ from x)
 |ext φ=>obtain⟨_,⟨_,e⟩,_⟩:=x;exact uq e
theorem Paired.mapP{α β:Type}{F G:α->β->Prop}:∀{l₁:List α}{l₂:List β},Paired F l₁ l₂->(∀a b,F a b->G a b)->Paired G l₁ l₂
 |_,_,.nil,_=>.nil
 |_,_,.cons r t,f=>.cons (f _ _ r) (Paired.mapP t f)
theorem ObjOk.stay(x:ObjOk P w H h a o)(k:∀b u,(b=a\/H b=some (.own a))->h.get? b=some u->h'.get? b=some u)
  (ho:∀b,H b=some (.own a)->H' b=some (.own a)) (ht:∀b xs,H b=some (.tup xs)->H' b=some (.tup xs)):ObjOk P w H' h' a o:=by
 induction o with
 |lst xs=>obtain⟨z,its,n,r,e⟩:=x;exact⟨z,its,n,r,k _ _ (.inl rfl) e⟩
 |tup xs=>obtain⟨z,its,r,ob,e,c⟩:=x;exact⟨z,its,r,ob,k _ _ (.inl rfl) e,c⟩
 |dK kvs=>obtain⟨z,y,vs,r,ob,es,ep,e,c⟩:=x;exact⟨z,y,vs,r,ob,es,ep,k _ _ (.inl rfl) e,c⟩
 |dT kvs =>
  obtain⟨z,y,xs,r,ob,es,ep,e,c⟩:=x
  exact⟨z,y,xs,Paired.mapP r fun p q z=>⟨z.1,ht _ _ z.2.1,z.2.2⟩,ob,es,ep,k _ _ (.inl rfl) e,c⟩
 |set S n=>obtain⟨ob,es,ep,t,e,c⟩:=x;exact⟨ob,es,ep,t,k _ _ (.inl rfl) e,c⟩
 |ins C dx fs =>
  obtain⟨d,z,ne,e,mA,⟨od,es,ep,e2,c⟩,r⟩:=x
  exact⟨ho _ d,z,ne,k _ _ (.inl rfl) e,mA,⟨od,es,ep,k _ _ (.inr d) e2,c⟩,r⟩
 |own y=>obtain⟨ob,e⟩:=x;exact⟨ob,k _ _ (.inl rfl) e⟩
 |xd fs=>obtain⟨mA,⟨od,es,ep,e,c⟩,r⟩:=x;exact⟨mA,⟨od,es,ep,k _ _ (.inl rfl) e,c⟩,r⟩
 |rng lo hi=>obtain⟨t,u,v,e⟩:=x;exact⟨t,u,v,k _ _ (.inl rfl) e⟩
 |frz ob u ih=>obtain⟨e,q⟩:=x;exact⟨k _ _ (.inl rfl) e,ih q⟩
 |tbl ps =>
  have e:h.get? a=some { cls:=.none,data:=.fields ps }:=x
  show h'.get? a=some { cls:=.none,data:=.fields ps }
  exact k a _ (.inl rfl) e
 |met f y =>
  have e:h.get? a=some (PySem.W.methodObj (.ref f) (.ref y)):=x
  show h'.get? a=some (PySem.W.methodObj (.ref f) (.ref y))
  exact k a _ (.inl rfl) e
 |ext φ=>obtain⟨p,⟨o,e⟩,st⟩:=x;exact⟨st _ _ p fun o q=>k _ _ (.inl rfl) q,⟨o,k _ _ (.inl rfl) e⟩,st⟩
theorem HOk.lt(x:HOk P w H h)(e:H a=some o):a < h.objs.size:=(x a o e).lt
theorem HOk.fresh(x:HOk P w H h)(e:h.objs.size<=a):H a=none:=by
 cases q:H a with
 |none=>rfl
 |some u=>exact absurd (ux (x.lt q) e) (Ub _)
theorem HOk.kept(x:HOk P w H h)(k:∀b u,h.get? b=some u->h'.get? b=some u):HOk P w H h':=fun a o e =>
 (x a o e).stay (fun b u _ q=>k b u q) (fun _ q=>q) fun _ _ q=>q
theorem HOk.laid(x:HOk P w H h)(k:∀b u,h.get? b=some u->h'.get? b=some u)(hp:h.objs.size<=a)(new:ObjOk P w (upd H a o) h' a o):HOk P w (upd H a o) h':=fun b u e=>by
 have hn:=x.fresh hp
 by_cases hb:b=a
 ·subst hb;rw[zg]at e;cases e;exact new
 ·rw[zm hb]at e
  exact(x b u e).stay (fun c v _ q=>k c v q) (fun c q=>by rw[zm (zr q hn)];exact q) fun c xs q=>by rw[zm (zr q hn)];exact q
end
def Rd(H:Hp)(a:Addr)(u:HO):Prop:=H a=some u\/∃o,H a=some (.frz o u)
theorem Rd.ok{P:Program}{w:World}{H:Hp}{h:Heap}{a:Addr}{u:HO}(r:Rd H a u)(x:HOk P w H h):ObjOk P w H h a u:=by
 rcases r with r|⟨o,r⟩
 ·exact x a u r
 ·obtain⟨_,q⟩:=x a _ r
  exact q
def Mut:Option HO->Prop
 |some (.lst _)=>True
 |some (.dK _)=>True
 |some (.dT _)=>True
 |some (.set _ _)=>True
 |some (.ins _ _ _)=>True
 |some (.ext _)=>True
 |_=>False
section
variable{P:Program}{w:World}{H:Hp}{h h':Heap}{x e:Addr}{o':HO}
theorem HOk.write(ok:HOk P w H h)(mu:Mut (H x))(he:e=x\/H e=some (.own x))(k:∀b u,b≠e->h.get? b=some u->h'.get? b=some u)(heo:∃u,h'.get? e=some u)
  (new:ObjOk P w (upd H x o') h' x o'):HOk P w (upd H x o') h':=fun b u q=>by
 have nown:∀c y,H c=some (.own y)->c≠x:=fun c y r z=>by subst z;rw[r]at mu;exact mu
 have ntup:∀c xs,H c=some (.tup xs)->c≠x:=fun c xs r z=>by subst z;rw[r]at mu;exact mu
 by_cases hb:b=x
 ·subst hb;rw[zg]at q;cases q;exact new
 ·rw[zm hb]at q
  by_cases hbe:b=e
  ·have q':H b=some (.own x):=by
    rcases he with z|z
    ·exact absurd (hbe.trans z) hb
    ·rw[hbe];exact z
   rw[q]at q';cases q'
   obtain⟨v,hv⟩:=heo
   exact⟨v,by rw[hbe];exact hv⟩
  ·refine(ok b u q).stay (fun c v hc r=>k c v ?_ r) (fun c r=>by rw[zm (nown c b r)];exact r) fun c xs r=>by rw[zm (ntup c xs r)];exact r
   rcases hc with rfl|hc
   ·exact hbe
   ·rintro rfl
    rcases he with z|z
    ·exact nown c b hc z
    ·rw[hc]at z;cases z;exact hb rfl
end
structure Un(fs ex:List Addr)(H H':Hp)(h h':Heap):Prop where
 keep:∀b o,h.get? b=some o->H b=none->b∉fs->b∉ex->h'.get? b=some o
 slot:∀b o,h.get? b=some o->H b=none->b∈fs->b∉ex->∃sl,h'.get? b=some { o with slots:=sl }
 free:∀b o,h.get? b=some o->H b=none->b∉ex->H' b=none
 there:∀b o,h.get? b=some o->b∉ex->∃o',h'.get? b=some o'
 tups:∀b xs,H b=some (.tup xs)->H' b=some (.tup xs)
 frzs:∀b o u,H b=some (.frz o u)->H' b=some (.frz o u)
 tbls:∀b ps,H b=some (.tbl ps)->∃more,H' b=some (.tbl (ps++more))
section
variable{fs fs' ex ex':List Addr}{H H1 H2:Hp}{h h1 h2 h':Heap}{a x e:Addr}{o:HO}
theorem Un.any(u:Un fs ex H H1 h h1){b:Addr}{ob:Obj}(q:h.get? b=some ob)(n:H b=none)(hx:b∉ex):∃sl,h1.get? b=some { ob with slots:=sl }:=by
 by_cases hb:b∈fs
 ·exact u.slot b ob q n hb hx
 ·exact⟨ob.slots,u.keep b ob q n hb hx⟩
theorem Un.kept(k:∀b u,h.get? b=some u->h'.get? b=some u):Un fs ex H H h h' :=
 ⟨fun b ob q _ _ _=>k b ob q,fun b ob q _ _ _=>⟨ob.slots,k b ob q⟩,fun _ _ _ n _=>n,fun b ob q _=>⟨ob,k b ob q⟩,fun _ _ q=>q,fun _ _ _ q=>q,fun _ ps q=>⟨#[],by rw[q];simp⟩⟩
theorem Un.refl:Un fs ex H H h h:=Un.kept fun _ _ q=>q
theorem Un.laid(k:∀b u,h.get? b=some u->h'.get? b=some u)(hp:h.objs.size<=a)(hn:H a=none):Un fs ex H (upd H a o) h h' where
 keep:=fun b u q _ _ _=>k b u q
 slot:=fun b u q _ _ _=>⟨u.slots,k b u q⟩
 free:=fun b u q n _=>by rw[zm (uC (ux (uq q) hp))];exact n
 there:=fun b u q _=>⟨u,k b u q⟩
 tups:=fun b xs q=>by rw[zm (zr q hn)];exact q
 frzs:=fun b u xs q=>by rw[zm (zr q hn)];exact q
 tbls:=fun b ps q=>⟨#[],by rw[zm (zr q hn),q];simp⟩
theorem Un.write(mu:Mut (H x))(he:e=x\/H e=some (.own x))(k:∀b u,b≠e->h.get? b=some u->h'.get? b=some u)(heo:∃u,h'.get? e=some u):Un fs ex H (upd H x o) h h':=by
 have hx:∀b,H b=none->b≠x:=fun b n z=>by subst z;rw[n]at mu;exact mu
 have hb:∀b,H b=none->b≠e:=fun b n z=>by
  subst z
  rcases he with r|r
  ·exact hx b n r
  ·rw[n]at r;cases r
 have hm:∀b u,H b=some u->¬ Mut (some u)->b≠x:=fun b u q nm z=>by subst z;rw[q]at mu;exact nm mu
 refine⟨fun b u q n _ _=>k b u (hb b n) q,fun b u q n _ _=>⟨u.slots,k b u (hb b n) q⟩,fun b u q n _=>by rw[zm (hx b n)];exact n,fun b u q _=>?_,
  fun b xs q=>by rw[zm (hm b _ q fun z=>z)];exact q,fun b u xs q=>by rw[zm (hm b _ q fun z=>z)];exact q,fun b ps q=>⟨#[],by rw[zm (hm b _ q fun z=>z),q];simp⟩⟩
 by_cases hbe:b=e
 ·subst hbe;exact heo
 ·exact⟨u,k b u hbe q⟩
end
def trk(h:Heap)(H:Hp):List Addr:=(uT h.objs.size).filter fun a=>(H a).isSome
def hidT(h:Heap)(H:Hp):Heap:=PySem.W.hideAll h (trk h H)
theorem XU(h:Heap)(H:Hp):(hidT h H).objs.size=h.objs.size:=PySem.W.hideAll_size _ _
theorem Wx{h:Heap}{H:Hp}{b:Addr}{o:Obj}(e:h.get? b=some o)(n:H b=none):(hidT h H).get? b=some o :=
 PySem.W.hideAll_get _ e fun hm=>by
  have q:(H b).isSome=true:=(List.mem_filter.mp hm).2
  rw[n]at q;simp at q
theorem JV{h:Heap}{H:Hp}{b:Addr}{o:Obj}(e:(hidT h H).get? b=some o):h.get? b=some o/\H b=none:=by
 have e':h.get? b=some o:=PySem.W.of_hideAll (trk h H) e
 refine⟨e',?_⟩
 cases q:H b with
 |none=>rfl
 |some x =>
  have hm:b∈trk h H:=List.mem_filter.mpr ⟨List.mem_range.mpr (uq e'),by simp[q]⟩
  have z:(hidT h H).get? b=none:=PySem.W.hideAll_none (trk h H) hm
  rw[z]at e;cases e
def JW(g h:Heap)(L:Addr):List (Addr×Obj):=(uT h.objs.size).filterMap fun a=>if a=L\/(g.get? a).isSome=true then none else(h.get? a).map fun o=>(a,o)
def rest(g h:Heap)(L d:Addr):List (Addr×Obj):=(JW g h L).filter fun p=>decide (p.1≠d)
structure Mod(K:ub)(mg:Str->Option Value)(base:Heap):Prop where
 kin:K.In base
 glob:base.Ns mainGlobals mg
 blt:∃mb,base.Ns builtinsNs mb/\∀x:Str,x≠"__name__"->mb x=bootBuiltins x
 nolimit:base.NoLimit
structure Cx where
 prog:Program
 w:World
 K:ub
 mg:Str->Option Value
 base:Heap
 A:Around
 N:List Str
 s₀:Shared
 H₀:Hp
 env:Env
 outer:List Env
 stack:List Env
 ex:List Addr
 fn:Str->Bool
 calm:Bool
 pn:List (Addr×Obj)
 xe:Value->Shared->Prop
def frs(l:List Env):List Addr:=l.filterMap (·.frame)
abbrev Cx.fs(X:Cx):List Addr:=frs X.outer
def Vis(sc:Scope)(x:Str):Prop:=sc.names.lookup x=some .local\/sc.names.lookup x=some .cell\/sc.names.lookup x=some .free
def Loc(sc:Scope)(x:Str):Prop:=sc.names.lookup x=some .local\/sc.names.lookup x=some .cell
def Look(env:Env)(h:Heap)(m:Str->Option Value)(x:Str)(u:Value):Prop :=
 (env.kindOf x=some .local/\m x=some u)\/((env.kindOf x=some .cell\/env.kindOf x=some .free)/\∃c,env.cells.lookup x=some c/\h.IsCell c (some u))
structure Cx.Ok(X:Cx):Prop where
 mod:Mod X.K X.mg X.base
 kind:X.env.scope.kind=.function
 glob:X.env.globals=mainGlobals
 blt:X.env.builtins=builtinsNs
 above:X.s₀.heap.objs.size<=X.env.locals
 inj:∀x y c,X.env.cells.lookup x=some c->X.env.cells.lookup y=some c->x=y
 has:∀x,(X.env.kindOf x=some .cell\/X.env.kindOf x=some .free)->∃c,X.env.cells.lookup x=some c
 cab:∀x c,X.fn x=true->X.env.cells.lookup x=some c->X.s₀.heap.objs.size<=c
 hd:X.calm=true->X.A.handled=none
 frames:X.A.frames=some X.stack
 stk:X.stack=X.outer\/(X.stack=X.env::X.outer/\X.env.frame=some X.env.locals)
 exf:∀b∈X.ex,b≠X.env.locals/\∀x c,X.env.cells.lookup x=some c->c≠b
 bs:∀b o,X.base.get? b=some o->X.s₀.heap.get? b=some o/\X.H₀ b=none
 bsz:X.base.objs.size<=X.s₀.heap.objs.size
 noex:∀b o,X.base.get? b=some o->b∉X.ex
 exfs:∀b∈X.ex,b∉X.fs
 funs:X.s₀.heap.FunFrames X.base X.outer
 frf:∀b∈X.fs,X.H₀ b=none
structure Inv(X:Cx)(pins:List (Addr×Obj))(σ:List (Option V))(H:Hp)(s:Shared):Prop where
 ok:X.Ok
 os:s.os=X.s₀.os
 bare:AllBare s.gens
 base:Un X.fs X.ex X.H₀ H X.s₀.heap s.heap
 loc:∃m,s.heap.Ns X.env.locals m/\∀(i:Nat)(x:Str)(v:V),X.N[i]?=some x->σ[i]?=some (some v)->Vis X.env.scope x->∃u,RelV v u/\Look X.env s.heap m x u
 cell:∀x c,X.env.cells.lookup x=some c->∃v,s.heap.IsCell c v
 free:H X.env.locals=none
 freeC:∀x c,X.env.cells.lookup x=some c->H c=none
 pin:∀p∈X.pn++pins,s.heap.get? p.1=some p.2/\H p.1=none/\p.1≠X.env.locals/\p.1∉X.fs/\∀v,p.2.data≠.cell v
 hok:HOk X.prog X.w H s.heap
 len:σ.length=X.N.length
section
variable{X:Cx}{pins:List (Addr×Obj)}{σ:List (Option V)}{H H':Hp}{s:Shared}{h':Heap}
theorem Cx.Ok.nofr(ok:X.Ok){b:Addr}{o:Obj}(e:X.base.get? b=some o):b∉X.fs:=fun hb=>by
 have:=(ok.funs.mem hb).1
 rw[e]at this;cases this
theorem Inv.bs(I:Inv X pins σ H s):∀b o,X.base.get? b=some o->s.heap.get? b=some o/\H b=none:=fun b o e =>
 ⟨I.base.keep b o (I.ok.bs b o e).1 (I.ok.bs b o e).2 (I.ok.nofr e) (I.ok.noex b o e),I.base.free b o (I.ok.bs b o e).1 (I.ok.bs b o e).2 (I.ok.noex b o e)⟩
theorem Inv.bk(I:Inv X pins σ H s):∀b o,X.base.get? b=some o->s.heap.get? b=some o:=fun b o e=>(I.bs b o e).1
theorem Inv.mod(I:Inv X pins σ H s):Mod X.K X.mg X.base:=I.ok.mod
theorem Inv.kIn(I:Inv X pins σ H s):X.K.In s.heap:=I.ok.mod.kin.keeps I.bk
theorem Inv.lt(I:Inv X pins σ H s):X.env.locals < s.heap.objs.size:=let ⟨_,hn,_⟩:=I.loc;hn.lt
theorem Inv.sz(I:Inv X pins σ H s):X.s₀.heap.objs.size<=s.heap.objs.size:=uy I.ok.above (Nat.le_of_lt I.lt)
theorem Inv.nofs(I:Inv X pins σ H s){a:Addr}(h:s.heap.objs.size<=a):a∉X.fs:=fun hb=>by
 obtain⟨_,o,ho,_⟩:=I.ok.funs.mem hb
 exact absurd (ux (uq ho) (uy I.sz h)) (Ub _)
theorem Inv.cne(I:Inv X pins σ H s):∀x c,X.env.cells.lookup x=some c->c≠X.env.locals:=fun x c e z=>by
 obtain⟨v,o,ho,hd⟩:=I.cell x c e
 obtain⟨m,⟨o',es,ep,ho',hd',_⟩,_⟩:=I.loc
 rw[z,ho']at ho;cases ho;rw[hd']at hd;cases hd
theorem Inv.funs(I:Inv X pins σ H s):s.heap.FunFrames X.base X.outer:=by
 have all:∀(l:List Env),(∀b∈frs l,b∈X.fs)->X.s₀.heap.FunFrames X.base l->s.heap.FunFrames X.base l:=by
  intro l
  induction l with
  |nil=>intro _ _;trivial
  |cons env r ih =>
   intro hs hl
   obtain⟨hk,⟨L,o,hf,hn,ho,hd⟩,hr⟩:=hl
   have hL:L∈X.fs:=hs L (by unfold frs;rw[List.filterMap_cons,hf];exact uP)
   obtain⟨sl,e⟩:=I.base.slot L o ho (I.ok.frf L hL) hL fun z=>I.ok.exfs L z hL
   exact⟨hk,⟨L,_,hf,hn,e,hd⟩,ih (fun b hb=>hs b (by unfold frs;rw[List.filterMap_cons,hf];exact Up _ hb)) hr⟩
 exact all X.outer (fun _ hb=>hb) I.ok.funs
theorem Inv.stack(I:Inv X pins σ H s):s.heap.FunFrames X.base X.stack:=by
 rcases I.ok.stk with e|⟨e,hf⟩
 ·rw[e];exact I.funs
 ·rw[e]
  obtain⟨m,hn,_⟩:=I.loc
  refine .cons (by rw[I.ok.kind];decide) hf hn ?_ I.funs
  exact Heap.get?_none_of_le (uy I.ok.bsz I.ok.above)
theorem Inv.stkSub(I:Inv X pins σ H s):∀b∈frs X.stack,b∈X.env.locals::X.fs:=fun b hb=>by
 rcases I.ok.stk with e|⟨e,hf⟩
 ·rw[e]at hb;exact Up _ hb
 ·rw[e]at hb
  unfold frs at hb
  rw[List.filterMap_cons,hf]at hb
  exact hb
theorem Inv.stkFree(I:Inv X pins σ H s):∀b∈frs X.stack,H b=none:=fun b hb=>by
 rcases uu.mp (I.stkSub b hb)with e|hb
 ·rw[e];exact I.free
 ·obtain⟨_,o,ho,_⟩:=I.ok.funs.mem hb
  exact I.base.free b o ho (I.ok.frf b hb) fun z=>I.ok.exfs b z hb
theorem Inv.step{g':Array GenState}{t':Nat}{d':Drawn}{ch:List Addr}(I:Inv X pins σ H s)
  (hch:∀b∈ch,(b∈X.ex\/X.s₀.heap.objs.size<=b)/\b≠X.env.locals/\(∀x c,X.env.cells.lookup x=some c->c≠b)/\∀p∈X.pn++pins,p.1≠b)
  (keep:∀b o,b≠X.env.locals->b∉X.fs->b∉ch->s.heap.get? b=some o->H b=none->h'.get? b=some o)
  (slot:∀b o,b≠X.env.locals->b∈X.fs->b∉ch->s.heap.get? b=some o->H b=none->∃sl,h'.get? b=some { o with slots:=sl }) (free:∀b o,b∉ch->s.heap.get? b=some o->H b=none->H' b=none)
  (there:∀b o,b∉ch->s.heap.get? b=some o->∃o',h'.get? b=some o')
  (tups:∀b xs,H b=some (.tup xs)->H' b=some (.tup xs)) (frzs:∀b o u,H b=some (.frz o u)->H' b=some (.frz o u)) (tbls:∀b ps,H b=some (.tbl ps)->∃more,H' b=some (.tbl (ps++more)))
  (ns:∀m,s.heap.Ns X.env.locals m->h'.Ns X.env.locals m) (hok:HOk X.prog X.w H' h') (hg:AllBare g') :
  Inv X pins σ H' { s with heap:=h',gens:=g',drawn:=d',toks:=t' }:=by
 have neL:∀b o,X.s₀.heap.get? b=some o->b≠X.env.locals:=fun b o e=>uC (ux (uq e) I.ok.above)
 have neC:∀b o,X.s₀.heap.get? b=some o->b∉X.ex->b∉ch:=fun b o e hx hb=>by
  rcases(hch b hb).1 with z|z
  ·exact hx z
  ·exact absurd (ux (uq e) z) (Ub _)
 have cellK:∀x c,X.env.cells.lookup x=some c->∀v,s.heap.IsCell c v->h'.IsCell c v:=fun x c e v ⟨o,ho,hd⟩=>by
  have nch:c∉ch:=fun z=>(hch c z).2.2.1 x c e rfl
  by_cases hc:c∈X.fs
  ·obtain⟨sl,q⟩:=slot c o (I.cne x c e) hc nch ho (I.freeC x c e)
   exact⟨_,q,hd⟩
  ·exact⟨o,keep c o (I.cne x c e) hc nch ho (I.freeC x c e),hd⟩
 refine⟨I.ok,I.os,hg,⟨fun b o e n hb hx=>?_,fun b o e n hb hx=>?_,fun b o e n hx=>?_,fun b o e hx=>?_,fun b xs e=>tups b xs (I.base.tups b xs e),fun b o xs e=>frzs b o xs (I.base.frzs b o xs e),fun b ps e=>?_⟩,?_,fun x c e=>?_,?_,fun x c e=>?_,fun p hp=>?_,hok,I.len⟩
 ·exact keep b o (neL b o e) hb (neC b o e hx) (I.base.keep b o e n hb hx) (I.base.free b o e n hx)
 ·obtain⟨sl,e1⟩:=I.base.slot b o e n hb hx
  obtain⟨sl',e2⟩:=slot b _ (neL b o e) hb (neC b o e hx) e1 (I.base.free b o e n hx)
  exact⟨sl',e2⟩
 ·obtain⟨o',e1⟩:=I.base.there b o e hx
  exact free b o' (neC b o e hx) e1 (I.base.free b o e n hx)
 ·obtain⟨o',e1⟩:=I.base.there b o e hx
  exact there b o' (neC b o e hx) e1
 ·obtain⟨m1,e1⟩:=I.base.tbls b ps e
  obtain⟨m2,e2⟩:=tbls b _ e1
  exact⟨m1++m2,by rw[e2,Array.append_assoc]⟩
 ·obtain⟨m,hn,hl⟩:=I.loc
  refine⟨m,ns m hn,fun i x v e1 e2 e3=>?_⟩
  obtain⟨u,r,l⟩:=hl i x v e1 e2 e3
  refine⟨u,r,?_⟩
  rcases l with l|⟨k,c,e,z⟩
  ·exact .inl l
  ·exact .inr ⟨k,c,e,cellK x c e _ z⟩
 ·obtain⟨v,z⟩:=I.cell x c e
  exact⟨v,cellK x c e v z⟩
 ·obtain⟨m,⟨o,_,_,ho,_⟩,_⟩:=I.loc
  exact free _ o (fun z=>(hch _ z).2.1 rfl) ho I.free
 ·obtain⟨v,o,ho,hd⟩:=I.cell x c e
  exact free c o (fun z=>(hch c z).2.2.1 x c e rfl) ho (I.freeC x c e)
 ·obtain⟨e,n,ne,nf,d⟩:=I.pin p hp
  have nch:p.1∉ch:=fun z=>(hch p.1 z).2.2.2 p hp rfl
  exact⟨keep p.1 p.2 ne nf nch e n,free p.1 p.2 nch e n,ne,nf,d⟩
theorem Inv.un{t':Nat}(I:Inv X pins σ H s)(u:Un X.fs [] H H' s.heap h')(hok:HOk X.prog X.w H' h'):Inv X pins σ H' { s with heap:=h',toks:=t' }:=by
 obtain⟨m,⟨o,es,ep,ho,r⟩,_⟩:=id I.loc
 obtain⟨sl,hL⟩:=u.any ho I.free (by simp)
 exact I.step (g':=s.gens) (d':=s.drawn) (ch:=[]) (fun _ z=>nomatch z) (fun b o _ hb _ e n=>u.keep b o e n hb (by simp)) (fun b o _ hb _ e n=>u.slot b o e n hb (by simp)) (fun b o _ e n=>u.free b o e n (by simp)) (fun b o _ e=>u.there b o e (by simp)) u.tups u.frzs u.tbls (fun m' hm=>by
  obtain⟨o',es',ep',ho',r'⟩:=hm
  rw[ho]at ho';cases ho'
  exact⟨_,es',ep',hL,r'⟩) hok I.bare
theorem Inv.call{g':Array GenState}{t':Nat}{d':Drawn}{ch:List Addr}(I:Inv X pins σ H s)(u:Un (frs X.stack) ch H H' s.heap h')(hok:HOk X.prog X.w H' h')(hg:AllBare g')
  (hch:∀b∈ch,(b∈X.ex\/X.s₀.heap.objs.size<=b)/\b≠X.env.locals/\(∀x c,X.env.cells.lookup x=some c->c≠b)/\∀p∈X.pn++pins,p.1≠b) :
  Inv X pins σ H' { s with heap:=h',gens:=g',drawn:=d',toks:=t' }:=by
 obtain⟨m,⟨o,es,ep,ho,r⟩,_⟩:=id I.loc
 obtain⟨sl,hL⟩:=u.any ho I.free fun z=>(hch _ z).2.1 rfl
 exact I.step (ch:=ch) hch (fun b o hL hb hc e n=>u.keep b o e n (fun z=>(uu.mp (I.stkSub b z)).elim hL hb) hc) (fun b o _ _ hc e n=>u.any e n hc) (fun b o hc e n=>u.free b o e n hc) (fun b o hc e=>u.there b o e hc) u.tups u.frzs u.tbls (fun m' hm=>by
  obtain⟨o',es',ep',ho',r'⟩:=hm
  rw[ho]at ho';cases ho'
  exact⟨_,es',ep',hL,r'⟩) hok hg
theorem Inv.turned{t':Nat}{it:Addr}(I:Inv X pins σ H s)(k:∀b o,b≠it->s.heap.get? b=some o->h'.get? b=some o)(hn:H it=none)(hL:it≠X.env.locals)
  (h1:it∈X.ex\/X.s₀.heap.objs.size<=it) (h2:∀x c,X.env.cells.lookup x=some c->c≠it) (h3:∀p∈X.pn++pins,p.1≠it):Inv X pins σ H { s with heap:=h',toks:=t' }:=by
 have nit:∀b u,H b=some u->b≠it:=fun b u e z=>by rw[z,hn]at e;cases e
 refine I.step (g':=s.gens) (d':=s.drawn) (ch:=[it]) (fun b hb=>?_) (fun b o _ _ hc e _=>k b o (fun z=>hc (by simp[z])) e) (fun b o _ _ hc e _=>⟨o.slots,k b o (fun z=>hc (by simp[z])) e⟩) (fun _ _ _ _ n=>n)
  (fun b o hc e=>⟨o,k b o (fun z=>hc (by simp[z])) e⟩) (fun _ _ e=>e) (fun _ _ _ e=>e) (fun b ps e=>⟨#[],by rw[e];simp⟩) (fun m hm=>?_) (fun b u e=>?_) I.bare
 ·have e:b=it:=by simpa using hb
  subst e
  exact⟨h1,hL,h2,h3⟩
 ·obtain⟨o,es,ep,ho,r⟩:=hm
  exact⟨o,es,ep,k _ o (Ne.symm hL) ho,r⟩
 ·refine(I.hok b u e).stay (fun c v hc q=>k c v ?_ q) (fun _ q=>q) fun _ _ q=>q
  rcases hc with z|z
  ·rw[z];exact nit b u e
  ·exact nit c _ z
theorem Inv.tok(I:Inv X pins σ H s)(t:Nat):Inv X pins σ H { s with toks:=t }:=I.un (h':=s.heap) (t':=t) Un.refl I.hok
theorem Inv.kept{t':Nat}(I:Inv X pins σ H s)(k:∀b u,s.heap.get? b=some u->h'.get? b=some u):Inv X pins σ H { s with heap:=h',toks:=t' }:=I.un (Un.kept k) (I.hok.kept k)
theorem Inv.laid{a:Addr}{o:HO}{t':Nat}(I:Inv X pins σ H s)(k:∀b u,s.heap.get? b=some u->h'.get? b=some u)(hp:s.heap.objs.size<=a)(new:ObjOk X.prog X.w (upd H a o) h' a o):
  Inv X pins σ (upd H a o) { s with heap:=h',toks:=t' }:=I.un (Un.laid k hp (I.hok.fresh hp)) (I.hok.laid k hp new)
theorem Inv.write{x e:Addr}{o:HO}{t':Nat}(I:Inv X pins σ H s)(mu:Mut (H x))(he:e=x\/H e=some (.own x))(k:∀b u,b≠e->s.heap.get? b=some u->h'.get? b=some u)(heo:∃u,h'.get? e=some u)
  (new:ObjOk X.prog X.w (upd H x o) h' x o):Inv X pins σ (upd H x o) { s with heap:=h',toks:=t' }:=I.un (Un.write mu he k heo) (I.hok.write mu he k heo new)
theorem Inv.pins_of{pins':List (Addr×Obj)}(I:Inv X pins σ H s)(h:∀p∈pins',s.heap.get? p.1=some p.2/\H p.1=none/\p.1≠X.env.locals/\p.1∉X.fs/\∀v,p.2.data≠.cell v):Inv X pins' σ H s :=
 ⟨I.ok,I.os,I.bare,I.base,I.loc,I.cell,I.free,I.freeC,fun p hp=>(uF.mp hp).elim (fun z=>I.pin p (Ui _ z)) (h p),I.hok,I.len⟩
theorem vt{N:List Str}(hN:N.Nodup){i j:Nat}{x:Str}(a:N[i]?=some x)(b:N[j]?=some x):i=j:=by
 obtain⟨h1,e1⟩:=ug.mp a
 obtain⟨h2,e2⟩:=ug.mp b
 exact(List.getElem_inj hN).mp (e1.trans e2.symm)
theorem jd{M:Model}{A:Around}{E:Value->Shared->Prop}{i:Nat}{x:Str}{v:V}{u:Value}{Q:Unit->Shared->Prop}(I:Inv X pins σ H s)(hN:X.N.Nodup)(hi:X.N[i]?=some x)(hx:Loc X.env.scope x)(r:RelV v u)
  (h:∀s',Inv X pins (σ.set i (some v)) H s'->(∃a,Heap.SameBut a s.heap s'.heap/\(a=X.env.locals\/X.env.cells.lookup x=some a))->Q () s') (hf:X.fn x=true\/X.env.scope.names.lookup x=some .local:=by first|exact .inl rfl|exact .inr rfl|assumption):wpAny M A (storeName X.env x u) Q E s:=by
 obtain⟨m,hn,hl⟩:=id I.loc
 have hcls:(X.env.scope.kind == .class || (X.env.scope.kind == .module && X.env.locals != X.env.globals))=false:=by rw[I.ok.kind];rfl
 have hiσ:i < σ.length:=by rw[I.len];exact(ug.mp hi).1
 have cne:=I.cne
 have tracked:∀{a:Addr}{h':Heap},(∃o,s.heap.get? a=some o/\H a=none)->Heap.SameBut a s.heap h'->HOk X.prog X.w H h':=fun{a h'} ha hs b ob e=>by
  obtain⟨_,_,hfree⟩:=ha
  refine(I.hok b ob e).stay (fun c w' hc q=>(hs.2 c ?_).trans q) (fun _ q=>q) fun _ _ q=>q
  rintro rfl
  rcases hc with rfl|hc
  ·rw[hfree]at e;cases e
  ·rw[hfree]at hc;cases hc
 rcases hx with hk|hk
 ·refine wpAny_storeName_local hk hn (fun h' hn' hs=>?_) hcls
  obtain⟨oL,_,_,hoL,_⟩:=id hn
  refine h _ ⟨I.ok,I.os,I.bare,⟨fun b o e n hb hx=>?_,fun b o e n hb hx=>?_,I.base.free,fun b o e hx=>?_,I.base.tups,I.base.frzs,I.base.tbls⟩,⟨_,hn',fun j y v' e1 e2 e3=>?_⟩,fun y c e=>?_,I.free,I.freeC,fun p hp=>?_,tracked ⟨oL,hoL,I.free⟩ hs,by simpa using I.len⟩ ⟨_,hs,.inl rfl⟩
  ·exact(hs.2 b (uC (ux (uq e) I.ok.above))).trans (I.base.keep b o e n hb hx)
  ·obtain⟨sl,e1⟩:=I.base.slot b o e n hb hx
   exact⟨sl,(hs.2 b (uC (ux (uq e) I.ok.above))).trans e1⟩
  ·obtain⟨o',e1⟩:=I.base.there b o e hx
   exact⟨o',(hs.2 b (uC (ux (uq e) I.ok.above))).trans e1⟩
  ·by_cases hj:j=i
   ·subst hj
    rw[hi]at e1;cases e1
    rw[UD hiσ]at e2
    cases e2
    exact⟨u,r,.inl ⟨hk,by simp⟩⟩
   ·rw[U1 (Ne.symm hj)]at e2
    obtain⟨u',r',q⟩:=hl j y v' e1 e2 e3
    refine⟨u',r',?_⟩
    rcases q with⟨k,e⟩|⟨k,c,e,z⟩
    ·refine .inl ⟨k,?_⟩
     have:y≠x:=fun e=>hj (vt hN e1 (e ▸ hi))
     simp[this,e]
    ·exact .inr ⟨k,c,e,z.sameBut hs (cne y c e)⟩
  ·obtain⟨w',z⟩:=I.cell y c e
   exact⟨w',z.sameBut hs (cne y c e)⟩
  ·obtain⟨e,n,ne,nf,d⟩:=I.pin p hp
   exact⟨(hs.2 p.1 ne).trans e,n,ne,nf,d⟩
 ·have hfn:X.fn x=true:=by
   rcases hf with z|z
   ·exact z
   ·rw[z]at hk;cases hk
  obtain⟨c,hc⟩:=I.ok.has x (.inl hk)
  obtain⟨w',z⟩:=I.cell x c hc
  refine wpAny_storeName_cell I.ok.kind hk hc z (fun h' hc' hs=>?_)
  obtain⟨oc,hoc,hocd⟩:=id z
  refine h { s with heap:=h' } ⟨I.ok,I.os,I.bare,⟨fun b o e n hb hx=>?_,fun b o e n hb hx=>?_,I.base.free,fun b o e hx=>?_,I.base.tups,I.base.frzs,I.base.tbls⟩,⟨m,hn.sameBut hs (Ne.symm (cne x c hc)),fun j y v' e1 e2 e3=>?_⟩,fun y c' e=>?_,I.free,I.freeC,fun p hp=>?_,tracked ⟨oc,hoc,I.freeC x c hc⟩ hs,by simpa using I.len⟩ ⟨c,hs,.inr hc⟩
  ·exact(hs.2 b (uC (ux (uq e) (I.ok.cab x c hfn hc)))).trans (I.base.keep b o e n hb hx)
  ·obtain⟨sl,e1⟩:=I.base.slot b o e n hb hx
   exact⟨sl,(hs.2 b (uC (ux (uq e) (I.ok.cab x c hfn hc)))).trans e1⟩
  ·obtain⟨o',e1⟩:=I.base.there b o e hx
   exact⟨o',(hs.2 b (uC (ux (uq e) (I.ok.cab x c hfn hc)))).trans e1⟩
  ·by_cases hj:j=i
   ·subst hj
    rw[hi]at e1;cases e1
    rw[UD hiσ]at e2
    cases e2
    exact⟨u,r,.inr ⟨.inl hk,c,hc,hc'⟩⟩
   ·rw[U1 (Ne.symm hj)]at e2
    obtain⟨u',r',q⟩:=hl j y v' e1 e2 e3
    refine⟨u',r',?_⟩
    rcases q with q|⟨k,c',e,z'⟩
    ·exact .inl q
    ·refine .inr ⟨k,c',e,z'.sameBut hs ?_⟩
     rintro rfl
     exact hj (vt hN e1 (I.ok.inj _ _ _ e hc ▸ hi))
  ·by_cases hcc:c'=c
   ·subst hcc;exact⟨_,hc'⟩
   ·obtain⟨w2,z2⟩:=I.cell y c' e
    exact⟨w2,z2.sameBut hs hcc⟩
  ·obtain⟨e,n,ne,nf,d⟩:=I.pin p hp
   refine⟨(hs.2 p.1 ?_).trans e,n,ne,nf,d⟩
   intro q
   rw[q,hoc]at e
   have q':oc=p.2:=UB.inj e
   exact d w' (by rw[<- q'];exact hocd)
theorem vv{M:Model}{A:Around}{E:Value->Shared->Prop}{i:Nat}{x:Str}{v:V}{u:Value}{Q:Unit->Shared->Prop}(I:Inv X pins σ H s)(hN:X.N.Nodup)(hi:X.N[i]?=some x)(hx:Loc X.env.scope x)(r:RelV v u)
  (h:∀s',Inv X pins (σ.set i (some v)) H s'->Q () s') (hf:X.fn x=true\/X.env.scope.names.lookup x=some .local:=by first|exact .inl rfl|exact .inr rfl|assumption):wpAny M A (storeName X.env x u) Q E s :=
 jd I hN hi hx r (fun s' I' _=>h s' I') hf
theorem Inv.call'{s':Shared}{ch:List Addr}(I:Inv X pins σ H s)(ho:s'.os=s.os)(u:Un (frs X.stack) ch H H' s.heap s'.heap)(hok:HOk X.prog X.w H' s'.heap)(hg:AllBare s'.gens)
  (hch:∀b∈ch,(b∈X.ex\/X.s₀.heap.objs.size<=b)/\b≠X.env.locals/\(∀x c,X.env.cells.lookup x=some c->c≠b)/\∀p∈X.pn++pins,p.1≠b):Inv X pins σ H' s':=by
 obtain⟨h',g',d',t',o'⟩:=s'
 have e:o'=s.os:=ho
 subst e
 exact I.call (g':=g') (t':=t') (d':=d') u hok hg hch
end
abbrev XK:=Value->Option Addr->Hp->Prop
abbrev St:=List (Option V)
abbrev VK:=V->Hp->Prop
abbrev TE:=St->Hp->VK->Prop
abbrev TT:=St->Hp->(Bool->Hp->Prop)->Prop
abbrev TA:=St->Hp->(List V->Hp->Prop)->Prop
structure Ends where
 nx:St->Hp->Prop
 rt:VK
 bk:St->Hp->Prop:=fun _ _=>False
 ct:St->Hp->Prop:=fun _ _=>False
abbrev TS:=Ends->St->Hp->Prop
def EP(X:Cx)(pins:List (Addr×Obj))(σ:St)(Q:VK)(u:Value)(s':Shared):Prop:=∃v H',Inv X pins σ H' s'/\RelV v u/\Q v H'
def TP(X:Cx)(pins:List (Addr×Obj))(σ:St)(Q:Bool->Hp->Prop)(b:Bool)(s':Shared):Prop:=∃H',Inv X pins σ H' s'/\Q b H'
def AP(X:Cx)(pins:List (Addr×Obj))(σ:St)(Q:List V->Hp->Prop)(us:List Value)(s':Shared):Prop:=∃vs H',Inv X pins σ H' s'/\Vals vs us/\Q vs H'
def SP(X:Cx)(pins:List (Addr×Obj))(D:Ends)(f:Flow)(s':Shared):Prop :=
 match f with
 |.next=>∃σ' H',Inv X pins σ' H' s'/\D.nx σ' H'
 |.brk=>∃σ' H',Inv X pins σ' H' s'/\D.bk σ' H'
 |.cont=>∃σ' H',Inv X pins σ' H' s'/\D.ct σ' H'
 |.ret u=>∃v σ' H',Inv X pins σ' H' s'/\RelV v u/\D.rt v H'
def PE(X:Cx)(e:Expr)(t:TE):Prop :=
 ∀(pins:List (Addr×Obj))(s:Shared)(σ:St)(H:Hp)(Q:VK),Inv X pins σ H s->t σ H Q->wpAny (model X.prog X.w) X.A (eval e X.env) (EP X pins σ Q) X.xe s
def PT(X:Cx)(e:Expr)(t:TT):Prop :=
 ∀(pins:List (Addr×Obj))(s:Shared)(σ:St)(H:Hp)(Q:Bool->Hp->Prop),Inv X pins σ H s->t σ H Q->wpAny (model X.prog X.w) X.A (isTrue e X.env (eval e X.env)) (TP X pins σ Q) X.xe s
def PW(X:Cx)(e:Expr)(t:TT):Prop :=
 ∀(whole:Sem Value)(pins:List (Addr×Obj))(s:Shared)(σ:St)(H:Hp)(Q:Bool->Hp->Prop),Inv X pins σ H s->t σ H Q->wpAny (model X.prog X.w) X.A (isTrue e X.env whole) (TP X pins σ Q) X.xe s
theorem PW.pt{X:Cx}{e:Expr}{t:TT}(h:PW X e t):PT X e t:=h _
def PA(X:Cx)(es:List Expr)(t:TA):Prop :=
 ∀(pos:Pos)(pins:List (Addr×Obj))(s:Shared)(σ:St)(H:Hp)(Q:List V->Hp->Prop),Inv X pins σ H s->t σ H Q->wpAny (model X.prog X.w) X.A (spliced (backTo pos (starEach es X.env))) (AP X pins σ Q) X.xe s
def PS(X:Cx)(st:Stmt)(t:TS):Prop :=
 ∀(pins:List (Addr×Obj))(s:Shared)(σ:St)(H:Hp)(D:Ends),Inv X pins σ H s->t D σ H->wpAny (model X.prog X.w) X.A (exec st X.env) (SP X pins D) X.xe s
def PSs(X:Cx)(st:List Stmt)(t:TS):Prop :=
 ∀(pins:List (Addr×Obj))(s:Shared)(σ:St)(H:Hp)(D:Ends),Inv X pins σ H s->t D σ H->wpAny (model X.prog X.w) X.A (execs st X.env) (SP X pins D) X.xe s
theorem thn{α:Type}{t:Sem α}{Q Q':α->Shared->Prop}{M:Model}{A:Around}{E:Value->Shared->Prop}{s:Shared}(h:wpAny M A t Q E s)(hQ:∀a s,Q a s->Q' a s):wpAny M A t Q' E s:=wpAny_mono h hQ fun _ _ x=>x
section
variable{X:Cx}
def tVar(i:Nat):TE:=fun σ H Q=>∃v,σ[i]?=some (some v)/\Q v H
def tC(v:V):TE:=fun _ H Q=>Q v H
theorem za9{i:Nat}{x:Str}{pos:Pos}(hN:X.N[i]?=some x)(hv:Vis X.env.scope x)(hd:(x == ("__debug__":Str))=false:=by decide)(hcd:(x == ("__classdict__":Str))=false:=by decide):PE X (.Name x pos) (tVar i):=by
 intro pins s σ H Q I h
 obtain⟨v,e,h⟩:=h
 obtain⟨m,hn,hl⟩:=I.loc
 obtain⟨u,r,l⟩:=hl i x v hN e hv
 have fin:EP X pins σ Q u s:=⟨v,H,I,r,h⟩
 rcases l with⟨hk,hm⟩|⟨hk,c,hc,hcell⟩
 ·exact wpAny_Name (wpAny_loadName_local I.ok.kind hk hn hm fin) hd
 ·rcases hk with hk|hk
  ·exact wpAny_Name (wpAny_loadName_cell I.ok.kind hk hc hcell fin) hd
  ·exact wpAny_Name (wpAny_loadName_free I.ok.kind hk hc hcell fin hcd) hd
theorem zba{i j pos}:PE X (.Constant (.int i) j pos) (tC (.int i)):=fun _ _ _ H _ I h=>wpAny_Constant_int ⟨.int i,H,I.tok _,⟨_,rfl⟩,h⟩
theorem zcr{b j pos}:PE X (.Constant (.bool b) j pos) (tC (.bl b)):=fun _ _ _ H _ I h=>Constant_bool ⟨.bl b,H,I,rfl,h⟩
theorem zbb{j pos}:PE X (.Constant .none j pos) (tC .non):=fun _ _ _ H _ I h=>Constant_none ⟨.non,H,I,rfl,h⟩
theorem zbc{x j pos}:PE X (.Constant (.str x) j pos) (tC (.str x)):=fun _ _ _ H _ I h=>Calls.Constant_str ⟨.str x,H,I.tok _,⟨_,rfl⟩,h⟩
def Gl(X:Cx)(x:Str):Prop:=X.env.kindOf x=some .globalImplicit
theorem xu{E:Value->Shared->Prop}{pins:List (Addr×Obj)}{s:Shared}{σ:St}{H:Hp}{x:Str}{u:Value}{pos:Pos}{Q:Value->Shared->Prop}(I:Inv X pins σ H s)(hg:Gl X x)(hm:X.mg x=some u)(h:Q u s)
  (hd:(x == ("__debug__":Str))=false:=by decide):wpAny (model X.prog X.w) X.A (eval (.Name x pos) X.env) Q E s :=
 Calls.Name_function_global I.ok.kind hg (Calls.loadGlobal_global (by rw[I.ok.glob];exact I.mod.glob.keeps I.bk) hm h) hd
theorem xv{E:Value->Shared->Prop}{pins:List (Addr×Obj)}{s:Shared}{σ:St}{H:Hp}{x:Str}{u:Value}{pos:Pos}{Q:Value->Shared->Prop}(I:Inv X pins σ H s)(hg:Gl X x)(hm:X.mg x=none)(hv:bootBuiltins x=some u)(h:Q u s)
  (hn:x≠"__name__":=by decide) (hd:(x == ("__debug__":Str))=false:=by decide):wpAny (model X.prog X.w) X.A (eval (.Name x pos) X.env) Q E s:=by
 obtain⟨mb,h1,h2⟩:=I.mod.blt
 exact Calls.Name_function_global I.ok.kind hg (Calls.loadGlobal_builtin (by rw[I.ok.glob];exact I.mod.glob.keeps I.bk) hm (by rw[I.ok.blt];exact h1.keeps I.bk) ((h2 x hn).trans hv) h) hd
theorem JX{x:Str}{v:V}{u:Value}{pos:Pos}(hg:Gl X x)(hm:X.mg x=some u)(r:RelV v u)(hd:(x == ("__debug__":Str))=false:=by decide):PE X (.Name x pos) (tC v) :=
 fun _ _ _ H _ I h=>xu I hg hm ⟨v,H,I,r,h⟩ hd
theorem JY{x:Str}{v:V}{u:Value}{pos:Pos}(hg:Gl X x)(hm:X.mg x=none)(hv:bootBuiltins x=some u)(r:RelV v u)(hn:x≠"__name__":=by decide)(hd:(x == ("__debug__":Str))=false:=by decide):PE X (.Name x pos) (tC v) :=
 fun _ _ _ H _ I h=>xv I hg hm hv ⟨v,H,I,r,h⟩ hn hd
variable{a b:Expr}{ta tb:TE}{pos:Pos}
def PC(X:Cx)(op:CmpOp)(a b:Expr)(t:TE):Prop :=
 ∀(pins:List (Addr×Obj))(s:Shared)(σ:St)(H:Hp)(Q:VK),Inv X pins σ H s->t σ H Q ->
  wpAny (model X.prog X.w) X.A (eval a X.env) (fun v s₁=>wpAny (model X.prog X.w) X.A (eval b X.env) (fun u s₂=>wpAny (model X.prog X.w) X.A (compareOp op v u) (EP X pins σ Q) X.xe s₂) X.xe s₁) X.xe s
def tB(t:TE):TT:=fun σ H Q=>t σ H fun x H1=>∃c,x=.bl c/\Q c H1
theorem Wy{op:CmpOp}{t:TE}(h:PC X op a b t)(h1:behindInMarks op b=false:=by first|exact nobehind _ (by decide) (by decide)|rfl):PE X (.Compare a [op] [b] pos) t:=fun pins s σ H Q I hw=>wpAny_Compare1 (h pins s σ H Q I hw) h1
theorem zbd{e:Expr}{t:TE}(h:PE X e t)(he:∀whole,isTrue e X.env whole=(do let v <- whole;standAt e.pos;holding [v] (truthy v)):=by intro _;rfl):PT X e (tB t):=by
 intro pins s σ H Q I hw
 refine isTrue_plain (thn (h pins s σ H _ I hw) fun v s1 ⟨x,H1,I1,r1,q1⟩=>?_) (he _)
 obtain⟨d,rfl,q⟩:=q1
 cases r1
 exact wpAny_truthy_bool ⟨H1,I1,q⟩
variable{tA tB':TT}{rest:List Expr}
def tAnd(t u:TT):TT:=fun σ H Q=>t σ H fun c H1=>if c=true then u σ H1 Q else Q false H1
def tOr(t u:TT):TT:=fun σ H Q=>t σ H fun c H1=>if c=true then Q true H1 else u σ H1 Q
def tNot(t:TT):TT:=fun σ H Q=>t σ H fun c H1=>Q (!c) H1
theorem pw_and1(ha:PT X a tA):PW X (.BoolOp .And [a] pos) tA:=by
 intro wh pins s σ H Q I h
 refine isTrue_and (thn (ha pins s σ H Q I h) fun c s1 e=>?_)
 cases c with
 |true=>exact isTrue_and_nil e
 |false=>exact e
theorem pw_or1(ha:PT X a tA):PW X (.BoolOp .Or [a] pos) tA:=by
 intro wh pins s σ H Q I h
 refine isTrue_or (thn (ha pins s σ H Q I h) fun c s1 e=>?_)
 cases c with
 |false=>exact isTrue_or_nil e
 |true=>exact e
theorem pw_and(ha:PT X a tA)(hb:PW X (.BoolOp .And (b::rest) pos) tB'):PW X (.BoolOp .And (a::b::rest) pos) (tAnd tA tB'):=by
 intro wh pins s σ H Q I h
 refine isTrue_and (thn (ha pins s σ H _ I h) fun c s1 ⟨H1,I1,q1⟩=>?_)
 cases c with
 |true=>exact hb wh pins s1 σ H1 Q I1 q1
 |false=>exact⟨H1,I1,q1⟩
theorem pw_or(ha:PT X a tA)(hb:PW X (.BoolOp .Or (b::rest) pos) tB'):PW X (.BoolOp .Or (a::b::rest) pos) (tOr tA tB'):=by
 intro wh pins s σ H Q I h
 refine isTrue_or (thn (ha pins s σ H _ I h) fun c s1 ⟨H1,I1,q1⟩=>?_)
 cases c with
 |true=>exact⟨H1,I1,q1⟩
 |false=>exact hb wh pins s1 σ H1 Q I1 q1
theorem zbe(ha:PT X a tA):PT X (.UnaryOp .Not a pos) (tNot tA):=by
 intro pins s σ H Q I h
 exact isTrue_not (ha pins s σ H (fun c H1=>Q (!c) H1) I h)
def zaz(ta tb:TE):TE:=fun σ H Q=>ta σ H fun x H1=>∃c,x=.bl c/\if c=true then tb σ H1 Q else Q (.bl false) H1
def tOrV(ta tb:TE):TE:=fun σ H Q=>ta σ H fun x H1=>∃c,x=.bl c/\if c=true then Q (.bl true) H1 else tb σ H1 Q
def zaA(ta:TE):TE:=fun σ H Q=>ta σ H fun x H1=>∃c,x=.bl c/\Q (.bl (!c)) H1
theorem zbf{op}{t:TE}(h:PE X a t):PE X (.BoolOp op [a] pos) t:=fun pins s σ H Q I hw=>BoolOp_one (h pins s σ H Q I hw)
theorem zbg(ha:PE X a ta)(hb:PE X (.BoolOp .And (b::rest) pos) tb):PE X (.BoolOp .And (a::b::rest) pos) (zaz ta tb):=by
 intro pins s σ H Q I h
 refine BoolOp_and (thn (ha pins s σ H _ I h) fun v s1 ⟨x,H1,I1,r1,q1⟩=>?_)
 obtain⟨c,rfl,q1⟩:=q1
 cases r1
 refine wpAny_truthy_bool ?_
 cases c with
 |true=>exact hb pins s1 σ H1 Q I1 q1
 |false=>exact⟨.bl false,H1,I1,rfl,q1⟩
theorem zcs(ha:PE X a ta)(hb:PE X (.BoolOp .Or (b::rest) pos) tb):PE X (.BoolOp .Or (a::b::rest) pos) (tOrV ta tb):=by
 intro pins s σ H Q I h
 refine BoolOp_or (thn (ha pins s σ H _ I h) fun v s1 ⟨x,H1,I1,r1,q1⟩=>?_)
 obtain⟨c,rfl,q1⟩:=q1
 cases r1
 refine wpAny_truthy_bool ?_
 cases c with
 |false=>exact hb pins s1 σ H1 Q I1 q1
 |true=>exact⟨.bl true,H1,I1,rfl,q1⟩
theorem zbh(ha:PE X a ta):PE X (.UnaryOp .Not a pos) (zaA ta):=by
 intro pins s σ H Q I h
 refine UnaryOp_ (thn (ha pins s σ H _ I h) fun v s1 ⟨x,H1,I1,r1,q1⟩=>?_)
 obtain⟨c,rfl,q1⟩:=q1
 cases r1
 exact not_of (wpAny_truthy_bool ⟨.bl (!c),H1,I1,rfl,q1⟩)
end
def SqL(K:ub)(H:Hp)(a:Addr)(xs:List V):Prop :=
 Rd H a (.lst xs) \/
  ∃(o:Obj)(its:Array Value)(n:Nat),K.lookup a=some o/\o.cls=.type "list"/\o.dict=none/\o.data=.seq its n/\its.size<=sizeLine/\Vals xs its.toList
def SqT(K:ub)(H:Hp)(a:Addr)(xs:List V):Prop :=
 Rd H a (.tup xs) \/
  ∃(o:Obj)(its:Array Value)(n:Nat),K.lookup a=some o/\o.cls=.type "tuple"/\o.data=.seq its n/\its.size<=sizeLine/\Vals xs its.toList
def absV:Value->Option V
 |.none=>some .non
 |.bool b=>some (.bl b)
 |.int i _=>some (.int i)
 |.str x _=>some (.str x)
 |.bytes b _=>some (.byt b)
 |.float b _=>some (.flt b)
 |.ref a=>some (.ref a)
 |.type n=>some (.ty n)
 |_=>none
theorem RelV.abs{x:V}{u:Value}(r:RelV x u):absV u=some x:=by
 cases x with
 |non=>cases r;rfl
 |bl _=>cases r;rfl
 |int _=>obtain⟨t,rfl⟩:=r;rfl
 |str _=>obtain⟨t,rfl⟩:=r;rfl
 |byt _=>obtain⟨t,rfl⟩:=r;rfl
 |flt _=>obtain⟨t,rfl⟩:=r;rfl
 |ref _=>cases r;rfl
 |ty _=>cases r;rfl
theorem RelV.inj{x y:V}{u:Value}(r:RelV x u)(q:RelV y u):x=y:=UB.inj (r.abs.symm.trans q.abs)
theorem Vals.inj:∀{xs ys:List V}{us:List Value},Vals xs us->Vals ys us->xs=ys
 |_,_,_,.nil,.nil=>rfl
 |_,_,_,.cons r t,.cons r' t'=>by rw[r.inj r',Vals.inj t t']
section
variable{X:Cx}{pins:List (Addr×Obj)}{σ:St}{H:Hp}{s:Shared}{a:Addr}{xs ys:List V}
theorem SqL.of{K:ub}(h:H a=some (.lst xs)):SqL K H a xs:=.inl (.inl h)
theorem SqT.of{K:ub}(h:H a=some (.tup xs)):SqT K H a xs:=.inl (.inl h)
theorem Inv.list(I:Inv X pins σ H s)(h:SqL X.K H a xs):∃its:List Value,Vals xs its/\PlainL s.heap a its.toArray/\xs.length<=sizeLine:=by
 rcases h with h|⟨o,its,n,hk,hc,hd,hs,hz,r⟩
 ·obtain⟨z,its,n,r,e⟩:=h.ok I.hok
  exact⟨its,r,⟨_,n,e,rfl,rfl,rfl⟩,z⟩
 ·refine⟨its.toList,r,⟨o,n,I.kIn a o hk,hc,hd,by simpa using hs⟩,?_⟩
  have e:=r.length
  simp only[Array.length_toList]at e
  lia
theorem Inv.tuple(I:Inv X pins σ H s)(h:SqT X.K H a xs):∃its:List Value,Vals xs its/\IsTup s.heap a its.toArray/\xs.length<=sizeLine:=by
 rcases h with h|⟨o,its,n,hk,hc,hs,hz,r⟩
 ·obtain⟨z,its,r,p⟩:=h.ok I.hok
  exact⟨its,r,p.is,z⟩
 ·refine⟨its.toList,r,⟨o,I.kIn a o hk,hc,n,by simpa using hs⟩,?_⟩
  have e:=r.length
  simp only[Array.length_toList]at e
  lia
theorem Inv.list_inj(I:Inv X pins σ H s)(h:SqL X.K H a xs)(h':SqL X.K H a ys):xs=ys:=by
 obtain⟨its,r,⟨o,n,e,_,_,d⟩,_⟩:=I.list h
 obtain⟨its',r',⟨o',n',e',_,_,d'⟩,_⟩:=I.list h'
 rw[e]at e';cases e'
 rw[d]at d'
 injection d' with d1 _
 have:its=its':=by simpa using congrArg Array.toList d1
 subst this
 exact r.inj r'
theorem Inv.tuple_inj(I:Inv X pins σ H s)(h:SqT X.K H a xs)(h':SqT X.K H a ys):xs=ys:=by
 obtain⟨its,r,⟨o,e,_,n,d⟩,_⟩:=I.tuple h
 obtain⟨its',r',⟨o',e',_,n',d'⟩,_⟩:=I.tuple h'
 rw[e]at e';cases e'
 rw[d]at d'
 injection d' with d1 _
 have:its=its':=by simpa using congrArg Array.toList d1
 subst this
 exact r.inj r'
end
abbrev Cx.wish(X:Cx)(E:Value->Shared->Prop):Cx:={ X with xe:=E }
abbrev Cx.nox(X:Cx):Cx:=X.wish fun _ _=>False
theorem Cx.Ok.wish{X:Cx}(ok:X.Ok)(E:Value->Shared->Prop):(X.wish E).Ok :=
 ⟨ok.mod,ok.kind,ok.glob,ok.blt,ok.above,ok.inj,ok.has,ok.cab,ok.hd,ok.frames,ok.stk,ok.exf,ok.bs,ok.bsz,ok.noex,ok.exfs,ok.funs,ok.frf⟩
theorem Cx.Ok.unwish{X:Cx}{E:Value->Shared->Prop}(ok:(X.wish E).Ok):X.Ok :=
 ⟨ok.mod,ok.kind,ok.glob,ok.blt,ok.above,ok.inj,ok.has,ok.cab,ok.hd,ok.frames,ok.stk,ok.exf,ok.bs,ok.bsz,ok.noex,ok.exfs,ok.funs,ok.frf⟩
section
variable{X:Cx}{pins:List (Addr×Obj)}{σ:St}{H:Hp}{s:Shared}{E:Value->Shared->Prop}
theorem Inv.wish(I:Inv X pins σ H s)(E:Value->Shared->Prop):Inv (X.wish E) pins σ H s:=⟨I.ok.wish E,I.os,I.bare,I.base,I.loc,I.cell,I.free,I.freeC,I.pin,I.hok,I.len⟩
theorem Inv.unwish(I:Inv (X.wish E) pins σ H s):Inv X pins σ H s:=⟨I.ok.unwish,I.os,I.bare,I.base,I.loc,I.cell,I.free,I.freeC,I.pin,I.hok,I.len⟩
theorem SP.unwish{D:Ends}{f:Flow}{s':Shared}(h:SP (X.wish E) pins D f s'):SP X pins D f s':=by
 cases f with
 |next=>obtain⟨σ',H',I,q⟩:=h;exact⟨σ',H',I.unwish,q⟩
 |brk=>obtain⟨σ',H',I,q⟩:=h;exact⟨σ',H',I.unwish,q⟩
 |cont=>obtain⟨σ',H',I,q⟩:=h;exact⟨σ',H',I.unwish,q⟩
 |ret u=>obtain⟨v,σ',H',I,r,q⟩:=h;exact⟨v,σ',H',I.unwish,r,q⟩
theorem PSs.nox{st:List Stmt}{t:TS}(h:PSs X.nox st t):PSs X st t:=fun pins s σ H D I hw =>
 wpAny_mono (h pins s σ H D (I.wish _) hw) (fun _ _ q=>q.unwish) fun _ _ z=>False.elim z
end
section
variable{X:Cx}{st:Stmt}{rest:List Stmt}{t u:TS}{e:Expr}{te:TE}{pos:Pos}
def yP:TS:=fun D σ H=>D.nx σ H
def tSeq(t u:TS):TS:=fun D σ H=>t { D with nx:=u D } σ H
theorem JZ:PSs X [] yP:=fun _ _ σ H _ I h=>wpAny_execs_nil ⟨σ,H,I,h⟩
theorem Wz(h1:PS X st t)(h2:PSs X rest u):PSs X (st::rest) (tSeq t u):=by
 intro pins s σ H D I h
 refine wpAny_execs_cons (thn (h1 pins s σ H { D with nx:=u D } I h) fun f s1 q=>?_)
 cases f with
 |next =>
  obtain⟨σ',H',I',q⟩:=q
  exact h2 pins s1 σ' H' D I' q
 |ret v=>exact q
 |brk=>exact q
 |cont=>exact q
theorem J0(h1:PS X st t):PSs X [st] t:=by
 intro pins s σ H D I h
 refine wpAny_execs_cons (thn (h1 pins s σ H D I h) fun f s1 q=>?_)
 cases f with
 |next=>exact wpAny_execs_nil q
 |ret v=>exact q
 |brk=>exact q
 |cont=>exact q
theorem Inv.quiet{pins:List (Addr×Obj)}{σ:St}{H:Hp}{s:Shared}(I:Inv X pins σ H s):interactive X.env=false:=by simp[interactive,I.ok.kind]
def zaB(te:TE):TS:=fun D σ H=>te σ H fun _ H1=>D.nx σ H1
theorem J2(he:PE X e te)(hs:swapsWith e none pos.line X.env=pure false:=by rfl):PS X (.Expr e pos) (zaB te):=by
 intro pins s σ H D I h
 exact wpAny_Expr_any (thn (he pins s σ H _ I h) fun v s1 ⟨x,H1,I1,r1,q1⟩=>⟨σ,H1,I1,q1⟩) I.quiet hs
def tRet(te:TE):TS:=fun D σ H=>te σ H D.rt
theorem zbi(he:PE X e te):PS X (.Return (some e) pos) (tRet te):=by
 intro pins s σ H D I h
 exact wpAny_Return_some (thn (he pins s σ H _ I h) fun v s1 ⟨x,H1,I1,r1,q1⟩=>⟨x,σ,H1,I1,r1,q1⟩)
def tIfS(c:TT)(t u:TS):TS:=fun D σ H=>c σ H fun b H1=>if b=true then t D σ H1 else u D σ H1
theorem zct{c:Expr}{a b:List Stmt}{tc:TT}(hc:PT X c tc)(ha:PSs X a t)(hb:PSs X b u):PS X (.If c a b pos) (tIfS tc t u):=by
 intro pins s σ H D I h
 refine wpAny_If (thn (hc pins s σ H _ I h) fun d s1 ⟨H1,I1,q1⟩=>?_)
 cases d with
 |true=>exact ha pins s1 σ H1 D I1 q1
 |false=>exact hb pins s1 σ H1 D I1 q1
end
abbrev TG:=V->St->Hp->(St->Hp->Prop)->Prop
abbrev TGs:=List V->St->Hp->(St->Hp->Prop)->Prop
def PG(X:Cx)(target:Expr)(t:TG):Prop :=
 ∀(pins:List (Addr×Obj))(s:Shared)(σ:St)(H:Hp)(v:V)(u:Value)(Q:St->Hp->Prop),Inv X pins σ H s->RelV v u->t v σ H Q ->
  wpAny (model X.prog X.w) X.A (assign target X.env u) (fun _ s'=>∃σ' H',Inv X pins σ' H' s'/\Q σ' H') X.xe s
def PGs(X:Cx)(ts:List Expr)(t:TGs):Prop :=
 ∀(pins:List (Addr×Obj))(s:Shared)(σ:St)(H:Hp)(vs:List V)(us:List Value)(Q:St->Hp->Prop),Inv X pins σ H s->Vals vs us->t vs σ H Q ->
  wpAny (model X.prog X.w) X.A (assignInOrder ((assignEach ts X.env).map (·.2)) us) (fun _ s'=>∃σ' H',Inv X pins σ' H' s'/\Q σ' H') X.xe s
abbrev TSet:=V->V->V->Hp->(Hp->Prop)->Prop
def PSet(X:Cx)(t:TSet):Prop :=
 ∀(pins:List (Addr×Obj))(s:Shared)(σ:St)(H:Hp)(o i v:V)(ov iv u:Value)(Q:Hp->Prop),Inv X pins σ H s->RelV o ov->RelV i iv->RelV v u->t o i v H Q ->
  wpAny (model X.prog X.w) X.A (setItem ov iv u) (fun _ s'=>∃H',Inv X pins σ H' s'/\Q H') X.xe s
section
variable{X:Cx}{pos:Pos}
def wU(i:Nat):TG:=fun v σ H Q=>Q (σ.set i (some v)) H
theorem J6{i:Nat}{x:Str}(hN:X.N.Nodup)(hi:X.N[i]?=some x)(hx:Loc X.env.scope x)(hf:X.fn x=true\/X.env.scope.names.lookup x=some .local:=by first|exact .inl rfl|exact .inr rfl|assumption):PG X (.Name x pos) (wU i):=by
 intro pins s σ H v u Q I r h
 exact wpAny_assign_Name (vv I hN hi hx r (fun s' I'=>⟨_,H,I',h⟩) hf)
def gNil:TGs:=fun vs σ H Q=>vs=[]/\Q σ H
def zaC(t:TG)(u:TGs):TGs:=fun vs σ H Q=>∃v r,vs=v::r/\t v σ H fun σ' H'=>u r σ' H' Q
theorem J7:PGs X [] gNil:=by
 intro pins s σ H vs us Q I r h
 obtain⟨e,h⟩:=h
 subst e
 cases r
 exact assignInOrder_nil ⟨σ,H,I,h⟩
theorem WA{e:Expr}{es:List Expr}{t:TG}{u:TGs}(h1:PG X e t)(h2:PGs X es u)
  (hs:(assignEach (e::es) X.env).map (·.2)=assign e X.env::(assignEach es X.env).map (·.2):=by rfl):PGs X (e::es) (zaC t u):=by
 intro pins s σ H vs us Q I r h
 obtain⟨v,vr,e1,h⟩:=h
 subst e1
 cases r with
 |cons r rr =>
  rw[hs]
  refine assignInOrder_cons (thn (h1 pins s σ H _ _ _ I r h) fun _ s1 ⟨σ1,H1,I1,q1⟩=>?_)
  exact h2 pins s1 σ1 H1 _ _ Q I1 rr q1
def gTup(K:ub)(n:Nat)(t:TGs):TG:=fun v σ H Q=>∃a xs,v=.ref a/\SqT K H a xs/\xs.length=n/\t xs σ H Q
theorem zbj{es:List Expr}{k:Nat}{t:TGs}{n:Nat}(hc:X.calm=true)(h:PGs X es t)
  (hn:(assignEach es X.env).length=n:=by rfl) (hst:(assignEach es X.env).findIdx? (·.1)=none:=by rfl):PG X (.Tuple es k pos) (gTup X.K n t):=by
 intro pins s σ H v u Q I r hw
 obtain⟨a,xs,e1,hq,hl,hw⟩:=hw
 subst e1
 cases r
 obtain⟨its,rv,ht,hz⟩:=I.tuple hq
 refine assign_Tuple_tuple (I.ok.hd hc) ht (by simp[hn,<- hl,rv.length]) hst fun h' hx=>?_
 have I1:Inv X pins σ H { s with heap:=h' }:=I.kept (t':=s.toks) fun b o e=>hx b o (uC (uq e)) e
 exact h pins _ σ H xs _ Q I1 (by simpa using rv) hw
def gSub(to ti:TE)(t:TSet):TG:=fun v σ H Q=>to σ H fun o H1=>ti σ H1 fun i H2=>t o i v H2 fun H3=>Q σ H3
theorem zbk{o i:Expr}{to ti:TE}{t:TSet}(ho:PE X o to)(hi:PE X i ti)(hs:PSet X t)
  (ha:∀v,assign (.Subscript o i pos) X.env v=(do
   let ov <- holding [v] (eval o X.env)
   let iv <- holding [v,ov] (eval i X.env)
   standAt pos
   holding [v,ov,iv] (setItem ov iv v)
   release [v,ov,iv] []):=by intro _;rfl):PG X (.Subscript o i pos) (gSub to ti t):=by
 intro pins s σ H v u Q I r h
 rw[ha]
 refine wpAny_bind (wpAny_holding (thn (ho pins s σ H _ I h) fun ov s1 ⟨x,H1,I1,r1,q1⟩=>?_))
 refine wpAny_bind (wpAny_holding (thn (hi pins s1 σ H1 _ I1 q1) fun iv s2 ⟨y,H2,I2,r2,q2⟩=>?_))
 refine wpAny_bind (wpAny_standAt (wpAny_bind (wpAny_holding (thn (hs pins s2 σ H2 x y v ov iv u _ I2 r1 r2 r q2) fun _ s3 ⟨H3,I3,q3⟩=>?_))))
 exact wpAny_release ⟨σ,H3,I3,q3⟩
def tAsg(te:TE)(g:TG):TS:=fun D σ H=>te σ H fun x H1=>g x σ H1 D.nx
theorem zbl{tg e:Expr}{te:TE}{g:TG}(he:PE X e te)(hg:PG X tg g)(hs:swapsWithSole [tg] e pos.line X.env=pure false:=by rfl)(hw:swappedStores [tg] e X.env=pure none:=by rfl)
  (h1:(assignEach [tg] X.env).map (·.2)=[assign tg X.env]:=by rfl):PS X (.Assign [tg] e pos) (tAsg te g):=by
 intro pins s σ H D I h
 refine wpAny_Assign_stores (thn (he pins s σ H _ I h) fun v s1 ⟨x,H1,I1,r1,q1⟩=>?_) hs hw
 rw[h1]
 exact thn (hg pins s1 σ H1 x v _ I1 r1 q1) fun _ s2 q=>q
theorem zbm{i:Nat}{x:Str}{e:Expr}{te:TE}{pos':Pos}(hN:X.N.Nodup)(hi:X.N[i]?=some x)(hx:Loc X.env.scope x)(he:PE X e te)(hs:swapsWith e (some (.Name x pos')) pos.line X.env=pure false:=by rfl)(hf:X.fn x=true\/X.env.scope.names.lookup x=some .local:=by first|exact .inl rfl|exact .inr rfl|assumption):
  PS X (.Assign [.Name x pos'] e pos) (tAsg te (wU i)):=by
 intro pins s σ H D I h
 refine wpAny_Assign_Name (thn (he pins s σ H _ I h) fun v s1 ⟨y,H1,I1,r1,q1⟩=>?_) hs
 exact vv I1 hN hi hx r1 (fun s2 I2=>⟨_,H1,I2,q1⟩) hf
def WB(c:TT)(tb:TS):TS:=fun D σ H=>∃W:Nat->St->Hp->Prop,(∃m,W m σ H)/\∀m σ H,W m σ H ->
 c σ H fun b H1=>if b=true then ∃N:St->Hp->Prop,(∀σ' H',N σ' H'->∃m',m' < m/\W m' σ' H')/\tb { D with nx:=N,ct:=N,bk:=D.nx } σ H1 else D.nx σ H1
theorem WC{c:Expr}{body:List Stmt}{tc:TT}{tb:TS}(hp:PassesOwn (model X.prog X.w) X.A X.env X.xe)(hc:PT X c tc)(hb:PSs X body tb):PS X (.While c body [] pos) (WB tc tb):=by
 intro pins s σ H D I h
 obtain⟨W,⟨m0,w0⟩,turn⟩:=h
 refine wpAny_While (codeAny_whileLoop (fun n s'=>∃σ' H',Inv X pins σ' H' s'/\W n σ' H') ?_ m0 ⟨σ,H,I,w0⟩)
 rintro n s1 ⟨σ1,H1,I1,w1⟩
 refine wpAny_passesOwn hp (thn (hc pins s1 σ1 H1 _ I1 (turn n σ1 H1 w1)) fun b s2 ⟨H2,I2,q2⟩=>?_)
 cases b with
 |true =>
  obtain⟨N,hN,q2⟩:=q2
  rw[if_pos rfl]
  refine wpAny_passesOwn hp (thn (hb pins s2 σ1 H2 _ I2 q2) fun f s3 q3=>?_)
  cases f with
  |next =>
   obtain⟨σ3,H3,I3,n3⟩:=q3
   obtain⟨m',hm,w3⟩:=hN σ3 H3 n3
   exact⟨m',hm,σ3,H3,I3,w3⟩
  |cont =>
   obtain⟨σ3,H3,I3,n3⟩:=q3
   obtain⟨m',hm,w3⟩:=hN σ3 H3 n3
   exact⟨m',hm,σ3,H3,I3,w3⟩
  |brk=>exact q3
  |ret v=>exact q3
 |false =>
  rw[if_neg uw]
  exact wpAny_execs_nil ⟨σ1,H2,I2,q2⟩
end
structure It where
 go:Nat->Hp->Prop
 yld:Nat->Hp->V->Hp->Prop
 stop:Nat->Hp->Prop
def FpOk(X:Cx)(pins:List (Addr×Obj))(H:Hp)(b:Addr):Prop :=
 H b=none/\b≠X.env.locals/\b∉X.fs/\(b∈X.ex\/X.s₀.heap.objs.size<=b)/\(∀x c,X.env.cells.lookup x=some c->c≠b)/\∀p∈X.pn++pins,p.1≠b
theorem Inv.fpOk{X:Cx}{pins:List (Addr×Obj)}{σ:St}{H H':Hp}{s:Shared}{b:Addr}(I:Inv X pins σ H s)(hb:s.heap.objs.size<=b)(hn:H' b=none):FpOk X pins H' b:=by
 refine⟨hn,UU (ux I.lt hb),I.nofs hb,.inr (uy I.sz hb),fun x c e z=>?_,fun p hp z=>?_⟩
 ·obtain⟨v,q⟩:=I.cell x c e
  exact absurd (ux q.lt (by rw[z];exact hb)) (Ub _)
 ·exact absurd (ux (uq (I.pin p hp).1) (by rw[z];exact hb)) (Ub _)
structure Turn(P:Program)(w:World)(K:ub)(tg:Expr)(J:It)(fp:List Addr)(it:Addr)(tn:Nat->Heap->Prop):Prop where
 mem:it∈fp
 obj:∀i h,tn i h->∀b∈fp,∃o,h.get? b=some o/\∀v,o.data≠.cell v
 keep:∀i h h',tn i h->(∀b∈fp,∀o,h.get? b=some o->h'.get? b=some o)->tn i h'
 item:∀(X:Cx),X.prog=P->X.w=w->X.K=K->X.calm=true->∀(i:Nat)(pins:List (Addr×Obj))(s:Shared)(σ:St)(H:Hp)(E:Value->Shared->Prop),Inv X pins σ H s->(∀b∈fp,FpOk X pins H b)->tn i s.heap->J.go i H ->
  wpAny (model P w) X.A (pyNext (.ref it)) (fun r s1=>∃u,r=some u /\
   wpAny (model P w) X.A (letOwnedTupleGo tg (.ref it) u) (fun _ s2=>∃x H',Inv X pins σ H' s2/\RelV x u/\J.yld i H x H'/\tn (i+1) s2.heap/\∀b∈fp,H' b=none) E s1) E s
 done:∀(X:Cx),X.prog=P->X.w=w->X.K=K->X.calm=true->∀(i:Nat)(pins:List (Addr×Obj))(s:Shared)(σ:St)(H:Hp)(E:Value->Shared->Prop),Inv X pins σ H s->(∀b∈fp,FpOk X pins H b)->tn i s.heap->J.stop i H ->
  wpAny (model P w) X.A (pyNext (.ref it)) (fun r s1=>r=none/\Inv X pins σ H s1) E s
 self:∀(A:Around)(i:Nat)(s:Shared)(Q:Value->Shared->Prop)(E:Value->Shared->Prop),tn i s.heap->Q (.ref it) s->wpAny (model P w) A (pyIter (.ref it)) Q E s
abbrev TI:=St->Hp->(It->Hp->Prop)->Prop
def PIE(X:Cx)(pins:List (Addr×Obj))(σ:St)(tg:Expr)(R:It->Hp->Prop)(itv:Value)(s2:Shared):Prop :=
 ∃(it:Addr)(fp:List Addr)(tn:Nat->Heap->Prop)(J:It)(H':Hp),itv=.ref it/\Inv X pins σ H' s2/\Turn X.prog X.w X.K tg J fp it tn/\tn 0 s2.heap/\(∀b∈fp,FpOk X pins H' b)/\R J H'
def PI(X:Cx)(tg iter:Expr)(wi:TI):Prop :=
 ∀(pins:List (Addr×Obj))(s:Shared)(σ:St)(H:Hp)(R:It->Hp->Prop),Inv X pins σ H s->wi σ H R ->
  wpAny (model X.prog X.w) X.A (eval iter X.env) (fun v s1=>wpAny (model X.prog X.w) X.A (pyIter v) (PIE X pins σ tg R) X.xe s1) X.xe s
theorem ZE{M:Model}{A:Around}{E:Value->Shared->Prop}{s:Shared}{tg:Expr}{it:Addr}{u:Value}{o:Obj}{n:String}{vs:Array Value}{Q:Unit->Shared->Prop}(ho:s.heap.get? it=some o)(hc:o.cls=.type n)(hd:o.data=.fields vs)
  (hn:["enumerate","zip","dict_itemiterator","dict_reverseitemiterator","odict_iterator","itertools.zip_longest","itertools.pairwise"].contains n=false) (hQ:Q () s):wpAny M A (letOwnedTupleGo tg (.ref it) u) Q E s:=by
 unfold letOwnedTupleGo
 cases tg<;>first
  |exact wpAny_pure hQ
  | (cases u<;>first
    |exact wpAny_pure hQ
    | (refine wpAny_bind (wpAny_load ho ?_)
       rw[hc,hd]
       show wpAny M A (if(["enumerate","zip","dict_itemiterator","dict_reverseitemiterator","odict_iterator","itertools.zip_longest","itertools.pairwise"].contains n && vs[0]? == some (rawInt _))=true then _ else _) Q E s
       rw[if_neg (by intro h;rw[hn,Bool.false_and]at h;cases h)]
       exact wpAny_pure hQ))
def Itl(K:ub)(a:Addr):It :=
 ⟨fun i H=>∃xs x,SqL K H a xs/\xs[i]?=some x,fun i H x H'=>H'=H/\∀xs,SqL K H a xs->xs[i]?=some x,fun i H=>∃xs,SqL K H a xs/\xs.length<=i⟩
def Itt(K:ub)(a:Addr):It :=
 ⟨fun i H=>∃xs x,SqT K H a xs/\xs[i]?=some x,fun i H x H'=>H'=H/\∀xs,SqT K H a xs->xs[i]?=some x,fun i H=>∃xs,SqT K H a xs/\xs.length<=i⟩
def Itr(lo:Int)(n:Nat):It:=⟨fun i _=>i < n,fun i H x H'=>H'=H/\x=.int (lo+i),fun i _=>n<=i⟩
theorem XV{P:Program}{w:World}{K:ub}{tg:Expr}(a it:Addr):Turn P w K tg (Itl K a) [it] it (fun i h=>h.IsListIter it a i) where
 mem:=by simp
 obj:=fun i h st b hb=>by
  have e:b=it:=by simpa using hb
  subst e
  obtain⟨o,e,c,d⟩:=st
  exact⟨o,e,fun v z=>by rw[d]at z;cases z⟩
 keep:=fun i h h' st k=>st.at fun o e=>k it (by simp) o e
 item:=by
  intro X hP hw hK hc i pins s σ H E I hf st hg
  subst hP hw hK
  obtain⟨xs,x,hq,hx⟩:=hg
  obtain⟨its,rv,p,hz⟩:=I.list hq
  obtain⟨u,hu,ru⟩:=rv.get hx
  obtain⟨f0,f1,f2,f3,f4,f5⟩:=hf it (by simp)
  refine wpAny_pyNext_list_item st p.isList (x:=u) (by simpa using hu) fun h' st' sb=>?_
  have I1:Inv X pins σ H { s with heap:=h' }:=I.turned (t':=s.toks) (fun b o hb e=>(sb.2 b hb).trans e) f0 f1 f3 f4 f5
  obtain⟨o,e,c,d⟩:=id st'
  exact⟨u,rfl,ZE (s:={ s with heap:=h' }) e c d (by decide) ⟨x,H,I1,ru,⟨rfl,fun ys hy=>by rw[I.list_inj hy hq];exact hx⟩,st',fun b hb=>(hf b hb).1⟩⟩
 done:=by
  intro X hP hw hK hc i pins s σ H E I hf st hg
  subst hP hw hK
  obtain⟨xs,hq,hx⟩:=hg
  obtain⟨its,rv,p,hz⟩:=I.list hq
  obtain⟨f0,f1,f2,f3,f4,f5⟩:=hf it (by simp)
  have hl:=rv.length
  exact wpAny_pyNext_list_end (I.ok.hd hc) st p.isList (by simp;lia) fun h' eb=>⟨rfl,I.turned (t':=s.toks) (fun b o hb e=>eb b o hb e) f0 f1 f3 f4 f5⟩
 self:=fun _ _ _ _ _ st h=>wpAny_pyIter_listiter st h
theorem Yh{P:Program}{w:World}{K:ub}{tg:Expr}(a it:Addr):Turn P w K tg (Itt K a) [it] it (fun i h=>h.IsTupleIter it a i) where
 mem:=by simp
 obj:=fun i h st b hb=>by
  have e:b=it:=by simpa using hb
  subst e
  obtain⟨o,e,c,d⟩:=st
  exact⟨o,e,fun v z=>by rw[d]at z;cases z⟩
 keep:=fun i h h' st k=>st.at fun o e=>k it (by simp) o e
 item:=by
  intro X hP hw hK hc i pins s σ H E I hf st hg
  subst hP hw hK
  obtain⟨xs,x,hq,hx⟩:=hg
  obtain⟨its,rv,p,hz⟩:=I.tuple hq
  obtain⟨u,hu,ru⟩:=rv.get hx
  obtain⟨f0,f1,f2,f3,f4,f5⟩:=hf it (by simp)
  refine wpAny_pyNext_tuple_item st (show s.heap.IsTuple a its.toArray from p) (x:=u) (by simpa using hu) fun h' st' sb=>?_
  have I1:Inv X pins σ H { s with heap:=h' }:=I.turned (t':=s.toks) (fun b o hb e=>(sb.2 b hb).trans e) f0 f1 f3 f4 f5
  obtain⟨o,e,c,d⟩:=id st'
  exact⟨u,rfl,ZE (s:={ s with heap:=h' }) e c d (by decide) ⟨x,H,I1,ru,⟨rfl,fun ys hy=>by rw[I.tuple_inj hy hq];exact hx⟩,st',fun b hb=>(hf b hb).1⟩⟩
 done:=by
  intro X hP hw hK hc i pins s σ H E I hf st hg
  subst hP hw hK
  obtain⟨xs,hq,hx⟩:=hg
  obtain⟨its,rv,p,hz⟩:=I.tuple hq
  obtain⟨f0,f1,f2,f3,f4,f5⟩:=hf it (by simp)
  have hl:=rv.length
  exact wpAny_pyNext_tuple_end (I.ok.hd hc) st (show s.heap.IsTuple a its.toArray from p) (by simp;lia) fun h' eb=>⟨rfl,I.turned (t':=s.toks) (fun b o hb e=>eb b o hb e) f0 f1 f3 f4 f5⟩
 self:=fun _ _ _ _ _ st h=>wpAny_pyIter_tupleiter st h
theorem Yi{P:Program}{w:World}{K:ub}{tg:Expr}(it:Addr)(lo:Int)(n:Nat):Turn P w K tg (Itr lo n) [it] it (fun i h=>IsRangeIter h it (lo+(i:Nat)*1) ((n:Int)-(i:Nat)) 1) where
 mem:=by simp
 obj:=fun i h st b hb=>by
  have e:b=it:=by simpa using hb
  subst e
  exact⟨_,st,fun v z=>by
   have z':Data.fields _=Data.cell v:=z
   cases z'⟩
 keep:=fun i h h' st k=>k it (by simp) _ st
 item:=by
  intro X hP hw hK hc i pins s σ H E I hf st hg
  subst hP hw hK
  obtain⟨f0,f1,f2,f3,f4,f5⟩:=hf it (by simp)
  have W:=Walks.range (prog:=X.prog) (w:=X.w) (I.ok.hd hc) it lo 1 n
  refine W.item i s _ _ hg st fun v h' tk hv st' kk=>?_
  obtain⟨t,rfl⟩:=hv
  have I1:Inv X pins σ H { s with heap:=h',toks:=tk }:=I.turned (fun b o hb e=>kk b o (by simpa using hb) e) f0 f1 f3 f4 f5
  refine⟨_,rfl,ZE (s:={ s with heap:=h',toks:=tk }) (n:="range_iterator") st' rfl rfl (by decide) ⟨.int (lo+i),H,I1,⟨t,?_⟩,⟨rfl,rfl⟩,st',fun b hb=>(hf b hb).1⟩⟩
  rw[Int.mul_one]
 done:=by
  intro X hP hw hK hc i pins s σ H E I hf st hg
  subst hP hw hK
  obtain⟨f0,f1,f2,f3,f4,f5⟩:=hf it (by simp)
  exact wpAny_pyNext_range_end (I.ok.hd hc) st (by have:n<=i:=hg;lia) fun h' eb=>⟨rfl,I.turned (t':=s.toks) (fun b o hb e=>eb b o hb e) f0 f1 f3 f4 f5⟩
 self:=fun _ _ _ _ _ st h=>wpAny_pyIter_rangeiter st h
section
variable{X:Cx}{tg:Expr}
def Y7(K:ub)(tl:TE):TI:=fun σ H R=>tl σ H fun x H1=>∃a,x=.ref a/\(∃xs,SqL K H1 a xs)/\R (Itl K a) H1
def iTup(K:ub)(tl:TE):TI:=fun σ H R=>tl σ H fun x H1=>∃a,x=.ref a/\(∃xs,SqT K H1 a xs)/\R (Itt K a) H1
theorem J8{l:Expr}{tl:TE}(hl:PE X l tl):PI X tg l (Y7 X.K tl):=by
 intro pins s σ H R I h
 refine thn (hl pins s σ H _ I h) fun v s1 ⟨x,H1,I1,r1,q1⟩=>?_
 obtain⟨a,e,⟨xs,hq⟩,q⟩:=q1
 subst e
 cases r1
 obtain⟨its,rv,p,hz⟩:=I1.list hq
 refine wpAny_pyIter_list p.isList ?_
 refine⟨s1.heap.objs.size,[s1.heap.objs.size],_,_,H1,rfl,I1.kept (t':=s1.toks) fun b o e=>ud _ e,XV a _,⟨_,ut _ rfl,rfl,rfl⟩,fun b hb=>?_,q⟩
 have e:b=s1.heap.objs.size:=by simpa using hb
 subst e
 exact I1.fpOk (ui _) (I1.hok.fresh (ui _))
theorem zbn{l:Expr}{tl:TE}(hl:PE X l tl):PI X tg l (iTup X.K tl):=by
 intro pins s σ H R I h
 refine thn (hl pins s σ H _ I h) fun v s1 ⟨x,H1,I1,r1,q1⟩=>?_
 obtain⟨a,e,⟨xs,hq⟩,q⟩:=q1
 subst e
 cases r1
 obtain⟨its,rv,p,hz⟩:=I1.tuple hq
 refine wpAny_pyIter_tuple (show s1.heap.IsTuple a its.toArray from p) ?_
 refine⟨s1.heap.objs.size,[s1.heap.objs.size],_,_,H1,rfl,I1.kept (t':=s1.toks) fun b o e=>ud _ e,Yh a _,⟨_,ut _ rfl,rfl,rfl⟩,fun b hb=>?_,q⟩
 have e:b=s1.heap.objs.size:=by simpa using hb
 subst e
 exact I1.fpOk (ui _) (I1.hok.fresh (ui _))
theorem WD{pins:List (Addr×Obj)}{σ:St}{H:Hp}{s:Shared}{R:It->Hp->Prop}{E:Value->Shared->Prop}{lo hi:Int}{t u v:Tok}{tk:Nat}(I:Inv X pins σ H s)(h1:-(2 ^ 62)<=lo)(h2:lo < 2 ^ 62)(h3:-(2 ^ 62)<=hi)(h4:hi < 2 ^ 62)
  (q:R (Itr lo (hi-lo).toNat) H):wpAny (model X.prog X.w) X.A (pyIter (.ref s.heap.objs.size)) (PIE X pins σ tg R) E { s with heap:=s.heap.push { cls:=.type "range",data:=.fields #[.int lo t,.int hi u,.int 1 v] },toks:=tk }:=by
 refine wpAny_pyIter_range (IsRange.new ..) (small_one h1 h2 h3 h4) ?_
 have I1:Inv X pins σ H { s with heap:=s.heap.push { cls:=.type "range",data:=.fields #[.int lo t,.int hi u,.int 1 v] },toks:=tk }:=I.kept fun b o e=>ud _ e
 refine⟨(s.heap.push { cls:=.type "range",data:=.fields #[.int lo t,.int hi u,.int 1 v] }).objs.size,[(s.heap.push { cls:=.type "range",data:=.fields #[.int lo t,.int hi u,.int 1 v] }).objs.size],_,_,H,rfl,
  I1.kept (t':=tk) fun b o e=>ud _ e,Yi _ lo (hi-lo).toNat,?_,fun b hb=>?_,q⟩
 ·have e1:lo+((0:Nat):Int)*1=lo:=by simp
  have e2:(((hi-lo).toNat:Nat):Int)-((0:Nat):Int)=Builtin.Range.rangeSize lo hi 1:=by rw[rangeSize_one];split<;>lia
  show IsRangeIter _ _ (lo+((0:Nat):Int)*1) ((((hi-lo).toNat:Nat):Int)-((0:Nat):Int)) 1
  rw[e1,e2]
  exact ut _ rfl
 ·have e:b=(s.heap.push { cls:=.type "range",data:=.fields #[.int lo t,.int hi u,.int 1 v] }).objs.size:=by simpa using hb
  subst e
  exact I1.fpOk (ui _) (I1.hok.fresh (ui _))
def zaD(ta:TA):TI:=fun σ H R=>ta σ H fun vs H1=>∃j:Int,vs=[.int j]/\-(2 ^ 62)<=j/\j < 2 ^ 62/\R (Itr 0 j.toNat) H1
theorem XW{a:Expr}{ta:TA}{p pos:Pos}(hg:Gl X "range")(hm:X.mg "range"=none)(ha:PA X [a] ta)(hs:starEach [a] X.env=[(false,eval a X.env)]:=by rfl):PI X tg (.Call (.Name "range" p) [a] [] pos) (zaD ta):=by
 intro pins s σ H R I h
 refine Call_ (xv I hg hm boot_range (Ul (thn (ha pos pins s σ H _ I h) fun us s1 ⟨vs,H1,I1,r1,q1⟩=>?_) hs rfl))
 obtain⟨j,e,q1,q2,q⟩:=q1
 subst e
 cases r1 with
 |cons r rr =>
  cases rr
  obtain⟨t,rfl⟩:=r
  exact call_range_1 (WD I1 (by lia) (by lia) q1 q2 (by simpa using q))
def tFor(wi:TI)(g:TG)(tb:TS):TS:=fun D σ H=>wi σ H fun J H1=>∃W:Nat->Nat->St->Hp->Prop,(∃m,W 0 m σ H1)/\∀i m σ H,W i m σ H ->
 (J.stop i H/\D.nx σ H)\/(J.go i H/\∃N:St->Hp->Prop,(∀σ' H',N σ' H'->∃m',m' < m/\W (i+1) m' σ' H')/\∀x H',J.yld i H x H'->g x σ H' fun σ2 H2=>tb { D with nx:=N,ct:=N,bk:=D.nx } σ2 H2)
def wH(fp:List Addr)(h:Heap):List (Addr×Obj):=fp.filterMap fun b=>(h.get? b).map fun o=>(b,o)
theorem xx{fp:List Addr}{h:Heap}{b:Addr}{o:Obj}(hb:b∈fp)(e:h.get? b=some o):(b,o)∈wH fp h:=List.mem_filterMap.mpr ⟨b,hb,by rw[e];rfl⟩
theorem XY{fp:List Addr}{h:Heap}{p:Addr×Obj}(hp:p∈wH fp h):p.1∈fp/\h.get? p.1=some p.2:=by
 obtain⟨b,hb,e⟩:=List.mem_filterMap.mp hp
 cases q:h.get? b with
 |none=>rw[q]at e;cases e
 |some o =>
  rw[q]at e
  have e':(b,o)=p:=UB.inj e
  subst e'
  exact⟨hb,q⟩
theorem Inv.pinned{pins:List (Addr×Obj)}{σ:St}{H:Hp}{s:Shared}{fp:List Addr}(I:Inv X pins σ H s)(hf:∀b∈fp,FpOk X pins H b)(ho:∀b∈fp,∃o,s.heap.get? b=some o/\∀v,o.data≠.cell v):Inv X (pins++wH fp s.heap) σ H s :=
 I.pins_of fun p hp=>(uF.mp hp).elim (fun z=>I.pin p (uG _ z)) fun z=>by
  obtain⟨hb,e⟩:=XY z
  obtain⟨f0,f1,f2,_⟩:=hf p.1 hb
  obtain⟨o,e',d⟩:=ho p.1 hb
  rw[e]at e';cases e'
  exact⟨e,f0,f1,f2,d⟩
theorem Inv.unpinned{pins pl:List (Addr×Obj)}{σ:St}{H:Hp}{s:Shared}(I:Inv X (pins++pl) σ H s):Inv X pins σ H s:=I.pins_of fun p hp=>I.pin p (uG _ (Ui _ hp))
theorem zbo{iter:Expr}{body:List Stmt}{wi:TI}{g:TG}{tb:TS}{pos:Pos}(hp:PassesOwn (model X.prog X.w) X.A X.env X.xe)(hc:X.calm=true)(hi:PI X tg iter wi)(hg:PG X tg g)(hb:PSs X body tb)
  (hs:∀x,foldedSetIterable iter X.env x=pure x:=by intro _;rfl):PS X (.For tg iter body [] pos) (tFor wi g tb):=by
 intro pins s σ H D I h
 refine wpAny_For (thn (hi pins s σ H _ I h) fun v s1 h1=>thn h1 fun itv s2 h2=>?_) hs
 obtain⟨it,fp,tn,J,H2,e,I2,T,st2,f2,W,⟨m0,w0⟩,turn⟩:=h2
 subst e
 have stat:∀{H':Hp},(∀b∈fp,H' b=none)->∀b∈fp,FpOk X pins H' b:=fun hn b hb=>⟨hn b hb,(f2 b hb).2⟩
 refine codeAny_forLoop_any (fun n s'=>∃i σ' H',Inv X pins σ' H' s'/\tn i s'.heap/\(∀b∈fp,H' b=none)/\W i n σ' H') ?_ m0 ⟨0,σ,H2,I2,st2,fun b hb=>(f2 b hb).1,w0⟩
 rintro n s3 ⟨i,σ3,H3,I3,st3,fr3,w3⟩
 rcases turn i n σ3 H3 w3 with⟨stop,qn⟩|⟨go,N,hN,step⟩
 ·refine wpAny_passesOwn hp (thn (T.done X rfl rfl rfl hc i pins s3 σ3 H3 X.xe I3 (stat fr3) st3 stop) fun r s4 ⟨hr,I4⟩=>?_)
  subst hr
  exact wpAny_execs_nil ⟨σ3,H3,I4,qn⟩
 ·refine wpAny_passesOwn hp (thn (T.item X rfl rfl rfl hc i pins s3 σ3 H3 X.xe I3 (stat fr3) st3 go) fun r s4 ⟨u,hr,h4⟩=>?_)
  subst hr
  refine wpAny_passesOwn hp (thn h4 fun _ s5 ⟨x,H5,I5,r5,y5,st5,fr5⟩=>?_)
  have I5':=I5.pinned (stat fr5) (T.obj _ _ st5)
  refine wpAny_passesOwn hp (thn (hg _ s5 σ3 H5 x u _ I5' r5 (step x H5 y5)) fun _ s6 ⟨σ6,H6,I6,q6⟩=>?_)
  refine wpAny_passesOwn hp (thn (hb _ s6 σ6 H6 _ I6 q6) fun f s7 q7=>?_)
  have again:∀{σ7:St}{H7:Hp},Inv X (pins++wH fp s5.heap) σ7 H7 s7->N σ7 H7->∃m,m < n/\∃i σ' H',Inv X pins σ' H' s7/\tn i s7.heap/\(∀b∈fp,H' b=none)/\W i m σ' H':=fun{σ7 H7} I7 n7=>by
   obtain⟨m',hm,w7⟩:=hN σ7 H7 n7
   refine⟨m',hm,i+1,σ7,H7,I7.unpinned,T.keep _ _ _ st5 fun b hb o e=>(I7.pin (b,o) (uG _ (uG _ (xx hb e)))).1,fun b hb=>?_,w7⟩
   obtain⟨o,e,d⟩:=T.obj _ _ st5 b hb
   exact(I7.pin (b,o) (uG _ (uG _ (xx hb e)))).2.1
  cases f with
  |next=>obtain⟨σ7,H7,I7,n7⟩:=q7;exact again I7 n7
  |cont=>obtain⟨σ7,H7,I7,n7⟩:=q7;exact again I7 n7
  |brk=>obtain⟨σ7,H7,I7,q7⟩:=q7;exact⟨σ7,H7,I7.unpinned,q7⟩
  |ret v=>obtain⟨x7,σ7,H7,I7,r7,q7⟩:=q7;exact⟨x7,σ7,H7,I7.unpinned,r7,q7⟩
end
theorem yJ{K:ub}{a:Addr}{xs:List V}{g:TG}{tb:TS}{D:Ends}{σ:St}{H:Hp}(Pv:Nat->St->Hp->Prop)(h0:Pv 0 σ H)(hl:∀i σ H,i<=xs.length->Pv i σ H->SqL K H a xs)
  (hs:∀i x σ H,xs[i]?=some x->Pv i σ H->g x σ H fun σ2 H2=>tb { D with nx:=Pv (i+1),ct:=Pv (i+1),bk:=D.nx } σ2 H2) (hd:∀σ H,Pv xs.length σ H->D.nx σ H) :
  ∃W:Nat->Nat->St->Hp->Prop,(∃m,W 0 m σ H)/\∀i m σ H,W i m σ H ->
   ((Itl K a).stop i H/\D.nx σ H)\/((Itl K a).go i H/\∃N:St->Hp->Prop,(∀σ' H',N σ' H'->∃m',m' < m/\W (i+1) m' σ' H')/\∀x H',(Itl K a).yld i H x H'->g x σ H' fun σ2 H2=>tb { D with nx:=N,ct:=N,bk:=D.nx } σ2 H2):=by
 refine⟨fun i m σ H=>m=xs.length-i/\i<=xs.length/\Pv i σ H,⟨xs.length,by simp,uW _,h0⟩,?_⟩
 rintro i m σ H ⟨rfl,hi,p⟩
 have q:=hl i σ H hi p
 by_cases hlt:i < xs.length
 ·refine .inr ⟨⟨xs,xs[i],q,by simp[hlt]⟩,Pv (i+1),fun σ' H' p'=>⟨xs.length-(i+1),by lia,rfl,hlt,p'⟩,fun x H' y=>?_⟩
  obtain⟨e,y⟩:=y
  subst e
  exact hs i x σ _ (y xs q) p
 ·have e:i=xs.length:=by lia
  subst e
  exact .inl ⟨⟨xs,q,ui _⟩,hd σ H p⟩
theorem xc{K:ub}{a:Addr}{xs:List V}{g:TG}{tb:TS}{D:Ends}{σ:St}{H:Hp}(Pv:Nat->St->Hp->Prop)(h0:Pv 0 σ H)(hl:∀i σ H,i<=xs.length->Pv i σ H->SqT K H a xs)
  (hs:∀i x σ H,xs[i]?=some x->Pv i σ H->g x σ H fun σ2 H2=>tb { D with nx:=Pv (i+1),ct:=Pv (i+1),bk:=D.nx } σ2 H2) (hd:∀σ H,Pv xs.length σ H->D.nx σ H) :
  ∃W:Nat->Nat->St->Hp->Prop,(∃m,W 0 m σ H)/\∀i m σ H,W i m σ H ->
   ((Itt K a).stop i H/\D.nx σ H)\/((Itt K a).go i H/\∃N:St->Hp->Prop,(∀σ' H',N σ' H'->∃m',m' < m/\W (i+1) m' σ' H')/\∀x H',(Itt K a).yld i H x H'->g x σ H' fun σ2 H2=>tb { D with nx:=N,ct:=N,bk:=D.nx } σ2 H2):=by
 refine⟨fun i m σ H=>m=xs.length-i/\i<=xs.length/\Pv i σ H,⟨xs.length,by simp,uW _,h0⟩,?_⟩
 rintro i m σ H ⟨rfl,hi,p⟩
 have q:=hl i σ H hi p
 by_cases hlt:i < xs.length
 ·refine .inr ⟨⟨xs,xs[i],q,by simp[hlt]⟩,Pv (i+1),fun σ' H' p'=>⟨xs.length-(i+1),by lia,rfl,hlt,p'⟩,fun x H' y=>?_⟩
  obtain⟨e,y⟩:=y
  subst e
  exact hs i x σ _ (y xs q) p
 ·have e:i=xs.length:=by lia
  subst e
  exact .inl ⟨⟨xs,q,ui _⟩,hd σ H p⟩
theorem je{lo:Int}{n:Nat}{g:TG}{tb:TS}{D:Ends}{σ:St}{H:Hp}(Pv:Nat->St->Hp->Prop)(h0:Pv 0 σ H)
  (hs:∀i σ H,i < n->Pv i σ H->g (.int (lo+i)) σ H fun σ2 H2=>tb { D with nx:=Pv (i+1),ct:=Pv (i+1),bk:=D.nx } σ2 H2) (hd:∀σ H,Pv n σ H->D.nx σ H) :
  ∃W:Nat->Nat->St->Hp->Prop,(∃m,W 0 m σ H)/\∀i m σ H,W i m σ H ->
   ((Itr lo n).stop i H/\D.nx σ H)\/((Itr lo n).go i H/\∃N:St->Hp->Prop,(∀σ' H',N σ' H'->∃m',m' < m/\W (i+1) m' σ' H')/\∀x H',(Itr lo n).yld i H x H'->g x σ H' fun σ2 H2=>tb { D with nx:=N,ct:=N,bk:=D.nx } σ2 H2):=by
 refine⟨fun i m σ H=>m=n-i/\i<=n/\Pv i σ H,⟨n,by simp,uW _,h0⟩,?_⟩
 rintro i m σ H ⟨rfl,hi,p⟩
 by_cases hlt:i < n
 ·refine .inr ⟨hlt,Pv (i+1),fun σ' H' p'=>⟨n-(i+1),by lia,rfl,hlt,p'⟩,fun x H' y=>?_⟩
  obtain⟨e,y⟩:=y
  subst e y
  exact hs i σ _ hlt p
 ·have e:i=n:=by lia
  subst e
  exact .inl ⟨ui _,hd σ H p⟩
abbrev R2:=V->V->Hp->VK->Prop
def OpR(X:Cx)(f:Value->Value->Sem Value)(r:R2):Prop :=
 ∀(pins:List (Addr×Obj))(s:Shared)(σ:St)(H:Hp)(x y:V)(v u:Value)(Q:VK),Inv X pins σ H s->RelV x v->RelV y u->r x y H Q ->
  wpAny (model X.prog X.w) X.A (f v u) (EP X pins σ Q) X.xe s
def UnR(X:Cx)(f:Value->Sem Value)(r:V->Hp->VK->Prop):Prop :=
 ∀(pins:List (Addr×Obj))(s:Shared)(σ:St)(H:Hp)(x:V)(v:Value)(Q:VK),Inv X pins σ H s->RelV x v->r x H Q ->
  wpAny (model X.prog X.w) X.A (f v) (EP X pins σ Q) X.xe s
def yQ(X:Cx)(f:Value)(r:List V->Hp->VK->Prop):Prop :=
 ∀(pins:List (Addr×Obj))(s:Shared)(σ:St)(H:Hp)(xs:List V)(us:List Value)(Q:VK),Inv X pins σ H s->Vals xs us->r xs H Q ->
  wpAny (model X.prog X.w) X.A (call f us) (EP X pins σ Q) X.xe s
def tOp(r:R2)(ta tb:TE):TE:=fun σ H Q=>ta σ H fun x H1=>tb σ H1 fun y H2=>r x y H2 Q
def tUn(r:V->Hp->VK->Prop)(ta:TE):TE:=fun σ H Q=>ta σ H fun x H1=>r x H1 Q
def rI(C:Int->Int->Prop)(g:Int->Int->V):R2:=fun x y H Q=>∃i j,x=.int i/\y=.int j/\C i j/\Q (g i j) H
def rI0(g:Int->Int->V):R2:=fun x y H Q=>∃i j,x=.int i/\y=.int j/\Q (g i j) H
def rU(g:Int->V):V->Hp->VK->Prop:=fun x H Q=>∃i,x=.int i/\Q (g i) H
section
variable{X:Cx}{a b c:Expr}{ta tb tc:TE}{pos:Pos}
theorem binT(ha:PE X a ta)(hb:PE X b tb){pins:List (Addr×Obj)}{s:Shared}{σ:St}{H:Hp}{R:V->V->Hp->Prop}(I:Inv X pins σ H s)
  (h:ta σ H fun x H1=>tb σ H1 fun y H2=>R x y H2) {Q:Value->Shared->Prop} {f:Value->Value->Sem Value}
  (hf:∀v u s2 x y H2,Inv X pins σ H2 s2->RelV x v->RelV y u->R x y H2->wpAny (model X.prog X.w) X.A (f v u) Q X.xe s2) :
  wpAny (model X.prog X.w) X.A (eval a X.env) (fun v s₁=>wpAny (model X.prog X.w) X.A (eval b X.env) (fun u s₂=>wpAny (model X.prog X.w) X.A (f v u) Q X.xe s₂) X.xe s₁) X.xe s:=by
 refine thn (ha pins s σ H _ I h) fun v s1 ⟨x,H1,I1,r1,q1⟩=>?_
 refine thn (hb pins s1 σ H1 _ I1 q1) fun u s2 ⟨y,H2,I2,r2,q2⟩=>?_
 exact hf v u s2 x y H2 I2 r1 r2 q2
theorem zcu{op:Operator}{r:R2}(ho:OpR X (binaryOp op) r)(ha:PE X a ta)(hb:PE X b tb):PE X (.BinOp a op b pos) (tOp r ta tb):=by
 intro pins s σ H Q I h
 exact wpAny_BinOp (binT ha hb I h fun v u s2 x y H2 I2 rx ry q=>ho pins s2 σ H2 x y v u Q I2 rx ry q)
theorem zcv{op:UnaryOp}{r:V->Hp->VK->Prop}(ho:UnR X (unaryOp op) r)(ha:PE X a ta):PE X (.UnaryOp op a pos) (tUn r ta):=by
 intro pins s σ H Q I h
 exact UnaryOp_ (thn (ha pins s σ H _ I h) fun v s1 ⟨x,H1,I1,r1,q1⟩=>ho pins s1 σ H1 x v Q I1 r1 q1)
theorem opI{f:Value->Value->Sem Value}{C:Int->Int->Prop}{g:Int->Int->Int}
  (rule:∀(i j:Int)(t u:Tok)(s:Shared)(Q:Value->Shared->Prop)(E:Value->Shared->Prop),C i j->Q (.int (g i j) s.toks) { s with toks:=s.toks+1 }->wpAny (model X.prog X.w) X.A (f (.int i t) (.int j u)) Q E s) :
  OpR X f (rI C fun i j=>.int (g i j)):=by
 intro pins s σ H x y v u Q I rx ry h
 obtain⟨i,j,rfl,rfl,hc,q⟩:=h
 obtain⟨t,rfl⟩:=rx
 obtain⟨t',rfl⟩:=ry
 exact rule i j t t' s _ _ hc ⟨.int (g i j),H,I.tok _,⟨_,rfl⟩,q⟩
theorem opI0{f:Value->Value->Sem Value}{g:Int->Int->Int}
  (rule:∀(i j:Int)(t u:Tok)(s:Shared)(Q:Value->Shared->Prop)(E:Value->Shared->Prop),Q (.int (g i j) s.toks) { s with toks:=s.toks+1 }->wpAny (model X.prog X.w) X.A (f (.int i t) (.int j u)) Q E s) :
  OpR X f (rI0 fun i j=>.int (g i j)):=by
 intro pins s σ H x y v u Q I rx ry h
 obtain⟨i,j,rfl,rfl,q⟩:=h
 obtain⟨t,rfl⟩:=rx
 obtain⟨t',rfl⟩:=ry
 exact rule i j t t' s _ _ ⟨.int (g i j),H,I.tok _,⟨_,rfl⟩,q⟩
theorem opB0{f:Value->Value->Sem Value}{g:Int->Int->Bool}
  (rule:∀(i j:Int)(t u:Tok)(s:Shared)(Q:Value->Shared->Prop)(E:Value->Shared->Prop),Q (.bool (g i j)) s->wpAny (model X.prog X.w) X.A (f (.int i t) (.int j u)) Q E s) :
  OpR X f (rI0 fun i j=>.bl (g i j)):=by
 intro pins s σ H x y v u Q I rx ry h
 obtain⟨i,j,rfl,rfl,q⟩:=h
 obtain⟨t,rfl⟩:=rx
 obtain⟨t',rfl⟩:=ry
 exact rule i j t t' s _ _ ⟨.bl (g i j),H,I,rfl,q⟩
def CDiv(i j:Int):Prop:=0 < j/\j < 1073741824
def CMul(i j:Int):Prop:=(-(2 ^ 64) < i/\i < 2 ^ 64)\/(-(2 ^ 64) < j/\j < 2 ^ 64)
theorem CMul.ok{i j:Int}(h:CMul i j):IntMulOk i j:=by
 rcases h with⟨h1,h2⟩|⟨h1,h2⟩
 ·exact .of_left (intBits_le_64 h1 h2)
 ·exact .of_right (intBits_le_64 h1 h2)
theorem zbp:OpR X (binaryOp .Add) (rI0 fun i j=>.int (i+j)):=opI0 fun _ _ _ _ _ _ _ q=>add_int q
theorem zbq:OpR X (binaryOp .Sub) (rI0 fun i j=>.int (i-j)):=opI0 fun _ _ _ _ _ _ _ q=>sub_int q
theorem zbr:OpR X (binaryOp .Mult) (rI CMul fun i j=>.int (i*j)):=opI fun _ _ _ _ _ _ _ hc q=>mul_int q hc.ok
theorem J9:OpR X (binaryOp .FloorDiv) (rI CDiv fun i j=>.int (i / j)):=opI fun i j _ _ _ _ _ hc q=>by
 have h1:(0:Int) < j:=hc.1
 have h2:j < 1073741824:=hc.2
 exact floordiv_int (by lia) (by rw[Int.fdiv_eq_ediv_of_nonneg i (by lia)];exact q) (.inl (PyProof.noPylong_small (by lia)))
theorem zbs:OpR X (binaryOp .Mod) (rI (fun _ j=>0 < j) fun i j=>.int (i % j)):=opI fun i j _ _ _ _ _ hc q=>by
 have h1:(0:Int) < j:=hc
 exact mod_int' (by lia) (by rw[Int.fmod_eq_emod_of_nonneg i (by lia)];exact q)
theorem unI{f:Value->Sem Value}{g:Int->Int}
  (rule:∀(i:Int)(t:Tok)(s:Shared)(Q:Value->Shared->Prop)(E:Value->Shared->Prop),Q (.int (g i) s.toks) { s with toks:=s.toks+1 }->wpAny (model X.prog X.w) X.A (f (.int i t)) Q E s) :
  UnR X f (rU fun i=>.int (g i)):=by
 intro pins s σ H x v Q I rx h
 obtain⟨i,rfl,q⟩:=h
 obtain⟨t,rfl⟩:=rx
 exact rule i t s _ _ ⟨.int (g i),H,I.tok _,⟨_,rfl⟩,q⟩
theorem zbt:UnR X (unaryOp .USub) (rU fun i=>.int (-i)):=unI fun _ _ _ _ _ q=>neg_int q
def scal:V->V->Bool
 |.non,.non=>true|.non,.int _=>true|.int _,.non=>true|.non,.bl _=>true|.bl _,.non=>true|.non,.str _=>true|.str _,.non=>true
 |.int _,.int _=>true|.bl _,.bl _=>true|.str _,.str _=>true|.byt _,.byt _=>true
 |.int _,.str _=>true|.str _,.int _=>true|.bl _,.str _=>true|.str _,.bl _=>true
 |_,_=>false
def rEq:R2:=fun x y H Q=>scal x y=true/\Q (.bl (decide (x=y))) H
def rNe:R2:=fun x y H Q=>scal x y=true/\Q (.bl (!decide (x=y))) H
theorem Y8{i j:Int}:decide (V.int i=V.int j)=(i == j):=by
 rw[tU]
 simp
theorem WE{i j:Bool}:decide (V.bl i=V.bl j)=(i == j):=by
 rw[tU]
 simp
theorem Y9{i j:Str}:decide (V.str i=V.str j)=(i == j):=by
 rw[tU]
 simp
theorem Xb{i j:Array UInt8}:decide (V.byt i=V.byt j)=(i.toList == j.toList):=by
 rw[tU]
 cases i
 cases j
 simp
theorem zI{pins:List (Addr×Obj)}{σ:St}{H:Hp}{s:Shared}{Q:VK}{k k':Bool}(I:Inv X pins σ H s)(q:Q (.bl k) H)(e:k=k'):EP X pins σ Q (.bool k') s:=by
 subst e
 exact⟨.bl k,H,I,rfl,q⟩
theorem zcw:OpR X (compareOp .Eq) rEq:=by
 intro pins s σ H x y v u Q I rx ry h
 obtain⟨hs,q⟩:=h
 cases x with
 |non =>
  cases rx
  cases y with
  |non=>cases ry;exact PySem.EqNone.eq_none_none (zI I q (by simp))
  |bl j=>cases ry;exact PySem.EqNone.eq_none_bool (zI I q (by simp))
  |int j=>obtain⟨t',rfl⟩:=ry;exact PySem.EqNone.eq_none_int (zI I q (by simp))
  |str j=>obtain⟨t',rfl⟩:=ry;exact PySem.EqNone.eq_none_str (zI I q (by simp))
  |_=>exact absurd (show false=true from hs) uw
 |bl i =>
  cases rx
  cases y with
  |non=>cases ry;exact PySem.EqNone.eq_bool_none (zI I q (by simp))
  |bl j=>cases ry;exact eq_bool (zI I q WE)
  |str j=>obtain⟨t',rfl⟩:=ry;exact PySem.EqMixed.eq_bool_str (zI I q (by simp))
  |_=>exact absurd (show false=true from hs) uw
 |int i =>
  obtain⟨t,rfl⟩:=rx
  cases y with
  |non=>cases ry;exact PySem.EqNone.eq_int_none (zI I q (by simp))
  |int j=>obtain⟨t',rfl⟩:=ry;exact eq_int (zI I q Y8)
  |str j=>obtain⟨t',rfl⟩:=ry;exact PySem.EqMixed.eq_int_str (zI I q (by simp))
  |_=>exact absurd (show false=true from hs) uw
 |str i =>
  obtain⟨t,rfl⟩:=rx
  cases y with
  |non=>cases ry;exact PySem.EqNone.eq_str_none (zI I q (by simp))
  |bl j=>cases ry;exact PySem.EqMixed.eq_str_bool (zI I q (by simp))
  |int j=>obtain⟨t',rfl⟩:=ry;exact PySem.EqMixed.eq_str_int (zI I q (by simp))
  |str j=>obtain⟨t',rfl⟩:=ry;exact eq_str (zI I q Y9)
  |_=>exact absurd (show false=true from hs) uw
 |byt i =>
  obtain⟨t,rfl⟩:=rx
  cases y with
  |byt j=>obtain⟨t',rfl⟩:=ry;exact PySem.W.eq_bytes (zI I q Xb)
  |_=>exact absurd (show false=true from hs) uw
 |_=>cases y<;>exact absurd (show false=true from hs) uw
theorem zcx:OpR X (compareOp .NotEq) rNe:=by
 intro pins s σ H x y v u Q I rx ry h
 obtain⟨hs,q⟩:=h
 cases x with
 |non =>
  cases rx
  cases y with
  |non=>cases ry;exact PySem.EqNone.ne_none_none (zI I q (by simp))
  |bl j=>cases ry;exact PySem.EqNone.ne_none_bool (zI I q (by simp))
  |int j=>obtain⟨t',rfl⟩:=ry;exact PySem.EqNone.ne_none_int (zI I q (by simp))
  |str j=>obtain⟨t',rfl⟩:=ry;exact PySem.EqNone.ne_none_str (zI I q (by simp))
  |_=>exact absurd (show false=true from hs) uw
 |bl i =>
  cases rx
  cases y with
  |non=>cases ry;exact PySem.EqNone.ne_bool_none (zI I q (by simp))
  |bl j=>cases ry;exact ne_bool (zI I q (congrArg not WE))
  |str j=>obtain⟨t',rfl⟩:=ry;exact PySem.EqMixed.ne_bool_str (zI I q (by simp))
  |_=>exact absurd (show false=true from hs) uw
 |int i =>
  obtain⟨t,rfl⟩:=rx
  cases y with
  |non=>cases ry;exact PySem.EqNone.ne_int_none (zI I q (by simp))
  |int j=>obtain⟨t',rfl⟩:=ry;exact ne_int (zI I q (congrArg not Y8))
  |str j=>obtain⟨t',rfl⟩:=ry;exact PySem.EqMixed.ne_int_str (zI I q (by simp))
  |_=>exact absurd (show false=true from hs) uw
 |str i =>
  obtain⟨t,rfl⟩:=rx
  cases y with
  |non=>cases ry;exact PySem.EqNone.ne_str_none (zI I q (by simp))
  |bl j=>cases ry;exact PySem.EqMixed.ne_str_bool (zI I q (by simp))
  |int j=>obtain⟨t',rfl⟩:=ry;exact PySem.EqMixed.ne_str_int (zI I q (by simp))
  |str j=>obtain⟨t',rfl⟩:=ry;exact ne_str (zI I q (congrArg not Y9))
  |_=>exact absurd (show false=true from hs) uw
 |byt i =>
  obtain⟨t,rfl⟩:=rx
  cases y with
  |byt j=>obtain⟨t',rfl⟩:=ry;exact PySem.W.ne_bytes (zI I q (congrArg not Xb))
  |_=>exact absurd (show false=true from hs) uw
 |_=>cases y<;>exact absurd (show false=true from hs) uw
theorem zcy:OpR X (compareOp .Lt) (rI0 fun i j=>.bl (decide (i < j))):=opB0 fun _ _ _ _ _ _ _ q=>lt_int q
theorem zcz:OpR X (compareOp .LtE) (rI0 fun i j=>.bl (decide (i<=j))):=opB0 fun _ _ _ _ _ _ _ q=>le_int q
theorem zcA:OpR X (compareOp .Gt) (rI0 fun i j=>.bl (decide (j < i))):=opB0 fun _ _ _ _ _ _ _ q=>gt_int q
theorem zY(b:Expr){op:CmpOp}(h:op≠.In:=by decide)(h2:op≠.NotIn:=by decide):behindInMarks op b=false:=by
 have e1:(op == CmpOp.In)=false:=by cases op<;>first|rfl|exact absurd rfl h
 have e2:(op == CmpOp.NotIn)=false:=by cases op<;>first|rfl|exact absurd rfl h2
 cases b<;>simp[behindInMarks,e1,e2]
theorem Qa{op:CmpOp}{r:R2}(ho:OpR X (compareOp op) r)(ha:PE X a ta)(hb:PE X b tb)(hm:behindInMarks op b=false):PE X (.Compare a [op] [b] pos) (tOp r ta tb):=by
 intro pins s σ H Q I h
 exact wpAny_Compare1 (binT ha hb I h fun v u s2 x y H2 I2 rx ry q=>ho pins s2 σ H2 x y v u Q I2 rx ry q) hm
def WF(t:TE):TT:=fun σ H Q=>t σ H fun x H'=>∃k,x=.bl k/\Q k H'
theorem Qb{op:CmpOp}{r:R2}(ho:OpR X (compareOp op) r)(ha:PE X a ta)(hb:PE X b tb)(hm:behindInMarks op b=false):PT X (.Compare a [op] [b] pos) (WF (tOp r ta tb)):=by
 intro pins s σ H Q I h
 refine wpAny_isTrue_Compare1 (thn (ha pins s σ H _ I h) fun v s1 ⟨x,H1,I1,r1,q1⟩=>thn (hb pins s1 σ H1 _ I1 q1) fun u s2 ⟨y,H2,I2,r2,q2⟩ =>
  thn (ho pins s2 σ H2 x y v u _ I2 r1 r2 q2) fun c s3 ⟨z,H3,I3,r3,k,e,q3⟩=>?_) hm
 subst e
 cases r3
 exact wpAny_truthy_bool ⟨H3,I3,q3⟩
theorem vw:(sizeLine:Nat) < 2 ^ 63:=by rw[sizeLine_eq];decide
theorem Yj:OpR X (binaryOp .Add) (fun x y H Q=>∃i j,x=.str i/\y=.str j/\i.length+j.length<=sizeLine/\Q (.str (i++j)) H):=by
 intro pins s σ H x y v u Q I rx ry h
 obtain⟨i,j,rfl,rfl,hz,q⟩:=h
 obtain⟨t,rfl⟩:=rx
 obtain⟨t',rfl⟩:=ry
 exact add_str (fun t' tk=>⟨.str (i++j),H,I.tok _,⟨_,rfl⟩,q⟩) hz
theorem wk{x:V}{us:List Value}(r:Vals [x] us):∃u,us=[u]/\RelV x u:=by
 cases r with
 |cons r1 r2=>cases r2;exact⟨_,rfl,r1⟩
theorem vx{x y:V}{us:List Value}(r:Vals [x,y] us):∃u w',us=[u,w']/\RelV x u/\RelV y w':=by
 cases r with
 |cons r1 r2 =>
  cases r2 with
  |cons r3 r4=>cases r4;exact⟨_,_,rfl,r1,r3⟩
theorem XZ(hc:X.calm=true):yQ X (.builtin "min") (fun xs H Q=>∃i j,xs=[.int i,.int j]/\Q (.int (if j < i then j else i)) H):=by
 intro pins s σ H xs us Q I r h
 obtain⟨i,j,rfl,q⟩:=h
 obtain⟨u,w',rfl,⟨t,rfl⟩,⟨t',rfl⟩⟩:=vx r
 refine min_two_ints (I.ok.hd hc) fun h' tk k=>⟨_,H,I.kept k,?_,q⟩
 by_cases hj:j < i
 ·rw[if_pos hj,if_pos hj];exact⟨_,rfl⟩
 ·rw[if_neg hj,if_neg hj];exact⟨_,rfl⟩
theorem X0:yQ X (.type "int") (fun xs H Q=>(∃i,xs=[.int i]/\Q (.int i) H)\/∃k,xs=[.bl k]/\Q (.int (if k then 1 else 0)) H):=by
 intro pins s σ H xs us Q I r h
 rcases h with⟨i,rfl,q⟩|⟨k,rfl,q⟩
 ·obtain⟨u,rfl,t,rfl⟩:=wk r
  exact call_int_int ⟨.int i,H,I,⟨_,rfl⟩,q⟩
 ·obtain⟨u,rfl,r1⟩:=wk r
  cases r1
  exact call_int_bool ⟨.int (if k then 1 else 0),H,I.tok _,⟨_,rfl⟩,q⟩
theorem jN:yQ X (.type "str") (fun xs H Q=>∃i,xs=[.int i]/\i.natAbs.log2 < 1920/\Q (.str (toString i)) H):=by
 intro pins s σ H xs us Q I r h
 obtain⟨i,rfl,hz,q⟩:=h
 obtain⟨u,rfl,t,rfl⟩:=wk r
 exact PySem.P.str_of_int hz ⟨.str _,H,I.tok _,⟨_,rfl⟩,q⟩
end
structure ObjM(h:Heap)(x dx C:Addr)(mA:Str->Option Value):Prop where
 obj:h.get? x=some (US C dx)
 ns:h.Ns1 dx mA
 ne:dx≠x
theorem jf{h:Heap}{dx:Addr}{mA:Str->Option Value}(n:h.Ns1 dx mA):∃od,h.get? dx=some od/\∀name,PySem.W.lookIn name od=some (mA name):=by
 obtain⟨o,es,ep,ho,hd,hk,_,hm⟩:=n
 refine⟨o,ho,fun name=>?_⟩
 have e:=hm name
 unfold nsFind findBy at e
 rw[<- Array.find?_toList]at e
 unfold PySem.W.lookIn
 rw[hd]
 dsimp only
 split
 ·rename_i y q
  rw[q]at e
  exact congrArg some e
 ·rename_i q
  rw[q]at e
  have a:es.toList.any (·.refKey)=false:=by
   rw[List.any_eq_false]
   intro y hy
   obtain⟨z,t,hkey⟩:=hk y (Array.mem_toList_iff.mp hy)
   simp[DictEntry.refKey,hkey]
  have a':¬ es.toList.any (·.refKey)=true:=by rw[a];exact uw
  rw[if_neg a']
  exact congrArg some e
theorem ObjM.look{h:Heap}{x dx C:Addr}{mA:Str->Option Value}(I:ObjM h x dx C mA):∃od,PySem.W.InstAt h x (US C dx) C (some od)/\∀name,PySem.W.lookIn name od=some (mA name) :=
 let ⟨od,ho,hl⟩:=jf I.ns
 ⟨od,⟨I.obj,rfl,rfl,ho⟩,hl⟩
section
variable{prog:Program}{w:World}{A:Around}{E:Value->Shared->Prop}{s:Shared}{K:ub}{x dx C f:Addr}{mA:Str->Option Value}{name:Str}{v:Value}
theorem Qc{expr:Bool}{Q:Value->Shared->Prop}(X:K.In s.heap)(I:ObjM s.heap x dx C mA)(hg:tM K C name=true)(hh:UQ K C=true)
  (ha:uA K (.ref C) name=some none) (hv:mA name=some v) (hv':PySem.W.handedIn v=true) (h:Q v { s with toks:=s.toks+1 }) :
  wpAny (model prog w) A (getAttr (.ref x) name expr) Q E s:=by
 obtain⟨od,J,hl⟩:=I.look
 exact PySem.W.get_value X J (PySem.W.plainGet_of hg).1 (PySem.W.findObj_own hh ha rfl (by rw[hl,hv])) hv' h
theorem WG{pl:Sem Bool}{Q:Value×List Value->Shared->Prop}(X:K.In s.heap)(I:ObjM s.heap x dx C mA)(hg:tM K C name=true)
  (hf:uA K (.ref C) name=some (some (.ref f))) (ht:PySem.W.isFn K (.ref f)=true) (hv:mA name=none) (h:Q (.ref f,[.ref x]) s) :
  wpAny (model prog w) A (getMethod (.ref x) name pl) Q E s:=by
 obtain⟨od,J,hl⟩:=I.look
 exact PySem.W.method_fn X J (PySem.W.plainGet_of hg).1 (PySem.W.plainGet_of hg).2 hf (beq_iff_eq.mp ht) (by show(PySem.W.lookIn name od).map (·.isSome)=some false;rw[hl,hv];rfl) h
theorem Qd{ns:List Str}{Q:Unit->Shared->Prop}(X:K.In s.heap)(I:ObjM s.heap x dx C mA)
  (hs:uA K (.ref C) "__setattr__"=some (some (.builtin "object.__setattr__"))) (hp:PySem.W.plainOver K C=true) (ht:tE K C name=some none) (hh:UQ K C=true)
  (hw:PySem.Within mA ns) (hsz:ns.length<=sizeLine)
  (h:∀h',ObjM h' x dx C (fun y=>if y=name then some v else mA y)->Heap.SameBut dx s.heap h'->Q () { s with heap:=h',toks:=s.toks+2 }) :
  wpAny (model prog w) A (setAttr (.ref x) name v) Q E s:=by
 obtain⟨od,J,hl⟩:=I.look
 refine PySem.W.set_plain X J hs (PySem.W.osa_open (s:={ s with toks:=s.toks+1 }) (r:=none) X J hp ht fun b=>?_)
 obtain⟨cd,hc,hd'⟩:=PySem.W.any_some hh
 have hx:s.heap.get? x=some ⟨.ref C,some dx,.plain,#[]⟩:=I.obj
 refine wpAny_bind (wpAny_pure (wpAny_bind (wpAny_bind (wpAny_loadPart hx (wpAny_bind (PySem.W.Looks.here (s:={ s with toks:=s.toks+1 }) (PySem.W.looks_clsIn X hc) ?_))))))
 rw[hd']
 refine wpAny_pure (a:=some dx) (wpAny_bind (wpAny_pure (wpAny_bind ?_)))
 refine wpAny_nsSet1 (s:={ s with toks:=s.toks+1 }) I.ns fun h' hn2 hs2=>?_
 obtain⟨oD,esD,epD,hoD,hdD,hcD⟩:=hn2.count (PySem.Within.cons name v hw)
 refine wpAny_bind (wpAny_lookBehind hoD (by rw[hdD];exact pastItsLine_dict (uy hcD (by rw[uM];lia))) ?_)
 exact wpAny_pure (h _ ⟨(hs2.2 _ (Ne.symm I.ne)).trans I.obj,hn2,I.ne⟩ hs2)
theorem WH{R:Result->Shared->Prop}{vs:List Value}{kw:List (Str×Value)}(X:K.In s.heap)(hm:PySem.W.makesIn K C=true)
  (hi:uA K (.ref C) "__init__"=some (some (.ref f))) (hf:tY K (.ref f)=some (.type "function"))
  (h:codeAny (model prog w) (A.under (.builtin "type.__call__" ⟨.ref C::vs,kw⟩)) (.call (.ref f) ⟨.ref (s.heap.objs.size+1)::vs,kw⟩) (PySem.W.InitBack (s.heap.objs.size+1) R)
   { s with heap:=(s.heap.push uR).push (US C s.heap.objs.size) }) :
  codeAny (model prog w) A (.call (.ref C) ⟨vs,kw⟩) R s:=by
 obtain⟨hh,g,d,t,os⟩:=s
 exact PySem.W.make_core (PySem.W.makes_of X hm) (PySem.W.looks_findIn X hi) (fun self=>PySem.W.bind_fn X self hf) (.inl rfl) h
end
def putF(f:Str)(v:V):List (Str×V)->List (Str×V)
 |[]=>[(f,v)]
 | (g,x)::r=>if g=f then(g,v)::r else(g,x)::putF f v r
theorem wV(f g:Str)(v:V):∀fs:List (Str×V),(putF f v fs).lookup g=if g=f then some v else fs.lookup g
 |[]=>by
  show UW g [(f,v)]=_
  by_cases h:g=f
  ·have hb:(g == f)=true:=beq_iff_eq.mpr h
   simp only[UW,hb,if_pos h]
  ·have hb:(g == f)=false:=beq_eq_false_iff_ne.mpr h
   simp only[UW,hb,if_neg h]
 | (k,x)::r=>by
  have ih:=wV f g v r
  rw[show putF f v ((k,x)::r)=(if k=f then(k,v)::r else(k,x)::putF f v r)from rfl]
  by_cases hk:k=f
  ·rw[if_pos hk]
   by_cases h:g=k
   ·have hb:(g == k)=true:=beq_iff_eq.mpr h
    simp only[UW,hb,if_pos (h.trans hk)]
   ·have hb:(g == k)=false:=beq_eq_false_iff_ne.mpr h
    simp only[UW,hb,if_neg (fun e:g=f=>h (e.trans hk.symm))]
  ·rw[if_neg hk]
   by_cases h:g=k
   ·have hb:(g == k)=true:=beq_iff_eq.mpr h
    simp only[UW,hb,if_neg (fun e:g=f=>hk (h.symm.trans e))]
   ·have hb:(g == k)=false:=beq_eq_false_iff_ne.mpr h
    simp only[UW,hb]
    exact ih
theorem wI(f:Str)(v:V):∀fs:List (Str×V),f∈(putF f v fs).map (·.1)/\∀g,g∈fs.map (·.1)->g∈(putF f v fs).map (·.1)
 |[]=>⟨by simp[putF],fun g h=>by simp at h⟩
 | (k,x)::r=>by
  obtain⟨i1,i2⟩:=wI f v r
  rw[show putF f v ((k,x)::r)=(if k=f then(k,v)::r else(k,x)::putF f v r)from rfl]
  by_cases hk:k=f
  ·rw[if_pos hk]
   subst hk
   exact⟨by simp,fun g h=>by simpa using h⟩
  ·rw[if_neg hk]
   refine⟨?_,fun g h=>?_⟩
   ·rw[uY]
    exact Up _ i1
   ·rw[uY]at h ⊢
    rcases uu.mp h with e|e
    ·exact uu.mpr (.inl e)
    ·exact Up _ (i2 g e)
theorem wW(f:Str)(v:V):∀fs:List (Str×V),(putF f v fs).length<=fs.length+1
 |[]=>by simp[putF]
 | (k,x)::r=>by
  have ih:=wW f v r
  rw[show putF f v ((k,x)::r)=(if k=f then(k,v)::r else(k,x)::putF f v r)from rfl]
  by_cases hk:k=f
  ·rw[if_pos hk,uM,uM];lia
  ·rw[if_neg hk,uM,uM];lia
theorem RelO.some_of{v:V}{o:Option Value}(r:RelO (some v) o):∃u,o=some u/\RelV v u:=by
 cases o with
 |none=>exact(show False from r).elim
 |some u=>exact⟨u,rfl,r⟩
theorem RelO.none_of{o:Option Value}(r:RelO none o):o=none:=by
 cases o with
 |none=>rfl
 |some u=>exact(show False from r).elim
theorem jg{v:V}{u:Value}(r:RelV v u):PySem.W.handedIn u=true:=by
 cases v with
 |non=>cases(show u=Value.none from r);rfl
 |bl b=>cases(show u=Value.bool b from r);rfl
 |int i=>obtain⟨t,e⟩:=(show ∃t,u=Value.int i t from r);cases e;rfl
 |str x=>obtain⟨t,e⟩:=(show ∃t,u=Value.str x t from r);cases e;rfl
 |byt b=>obtain⟨t,e⟩:=(show ∃t,u=Value.bytes b t from r);cases e;rfl
 |flt b=>obtain⟨t,e⟩:=(show ∃t,u=Value.float b t from r);cases e;rfl
 |ref a=>cases(show u=Value.ref a from r);rfl
 |ty n=>cases(show u=Value.type n from r);rfl
section
variable{P:Program}{w:World}{H H':Hp}{h h':Heap}{a C dx:Addr}{fs fs':List (Str×V)}
theorem jP(hok:HOk P w H h)(e:H a=some (.ins C dx fs)):∃mA,ObjM h a dx C mA/\(∀f,RelO (fs.lookup f) (mA f))/\PySem.Within mA (fs.map (·.1))/\fs.length<=1000/\H dx=some (.own a):=by
 obtain⟨d,z,ne,ob,mA,n,r,q⟩:=(show ObjOk P w H h a (.ins C dx fs)from hok a _ e)
 exact⟨mA,⟨ob,n,ne⟩,r,q,z,d⟩
end
structure Cls(K:ub)(C:Addr):Prop where
 pg:tM K C Str.empty=true
 hd:UQ K C=true
 po:PySem.W.plainOver K C=true
 sa:uA K (.ref C) "__setattr__"=some (some (.builtin "object.__setattr__"))
theorem Cls.get{K:ub}{C:Addr}(c:Cls K C)(f:Str):tM K C f=true:=c.pg
def NoAttr(K:ub)(C:Addr)(f:Str):Prop:=uA K (.ref C) f=some none
theorem NoAttr.taker{K:ub}{C:Addr}{f:Str}(n:NoAttr K C f):tE K C f=some none:=by
 unfold tE
 rw[show uA K (.ref C) f=some none from n]
 rfl
structure Meth(K:ub)(C:Addr)(m:Str)(f:Addr):Prop where
 at_:uA K (.ref C) m=some (some (.ref f))
 fn:PySem.W.isFn K (.ref f)=true
 kp:Ud K (.ref f)=true
section
variable{X:Cx}{pins:List (Addr×Obj)}{σ:St}{H:Hp}{s:Shared}{a C dx:Addr}{fs:List (Str×V)}{f:Str}{v:V}{A:Around}{E:Value->Shared->Prop}
theorem Yk{b:Bool}{Q:Value->Shared->Prop}(I:Inv X pins σ H s)(e:H a=some (.ins C dx fs))(c:Cls X.K C)(n:NoAttr X.K C f)(l:fs.lookup f=some v)
  (h:∀u s',Inv X pins σ H s'->RelV v u->Q u s'):wpAny (model X.prog X.w) A (getAttr (.ref a) f b) Q E s:=by
 obtain⟨mA,O,r,_,_,_⟩:=jP I.hok e
 obtain⟨u,hu,ru⟩:=RelO.some_of (v:=v) (o:=mA f) (by rw[<- l];exact r f)
 exact Qc I.kIn O (c.get f) c.hd n hu (jg ru) (h u _ (I.tok _) ru)
theorem Yl{m:Str}{g:Addr}{pl:Sem Bool}{Q:Value×List Value->Shared->Prop}(I:Inv X pins σ H s)(e:H a=some (.ins C dx fs))(c:Cls X.K C)(k:Meth X.K C m g)(l:fs.lookup m=none)
  (h:Q (.ref g,[.ref a]) s):wpAny (model X.prog X.w) A (getMethod (.ref a) m pl) Q E s:=by
 obtain⟨mA,O,r,_,_,_⟩:=jP I.hok e
 have hn:mA m=none:=RelO.none_of (by rw[<- l];exact r m)
 exact WG I.kIn O (c.get m) k.at_ k.fn hn h
theorem Ym{y:V}{u:Value}{Q:Unit->Shared->Prop}(I:Inv X pins σ H s)(e:H a=some (.ins C dx fs))(c:Cls X.K C)(n:NoAttr X.K C f)(hl:fs.length < 1000)(ry:RelV y u)
  (h:∀s',Inv X pins σ (upd H a (.ins C dx (putF f y fs))) s'->Q () s'):wpAny (model X.prog X.w) A (setAttr (.ref a) f u) Q E s:=by
 obtain⟨mA,O,r,wi,_,ho⟩:=jP I.hok e
 have hz:(fs.map (·.1)).length<=sizeLine:=by rw[ua,sizeLine_eq];lia
 refine Qd I.kIn O c.sa c.po n.taker c.hd wi hz fun h' O' sb=>h _ ?_
 have hd:∃o,h'.get? dx=some o:=let ⟨o,_,_,e',_⟩:=O'.ns;⟨o,e'⟩
 refine I.write (x:=a) (e:=dx) (by rw[e];exact True.intro) (.inr ho) (fun b q hb z=>(sb.2 b hb).trans z) hd ?_
 refine⟨by rw[zm O.ne];exact ho,?_,O.ne,O'.obj,_,O'.ns,fun g=>?_,fun g hg=>?_⟩
 ·have:=wW f y fs;lia
 ·show RelO ((putF f y fs).lookup g) (if g=f then some u else mA g)
  rw[wV]
  by_cases q:g=f
  ·rw[if_pos q,if_pos q];exact ry
  ·rw[if_neg q,if_neg q];exact r g
 ·by_cases q:g=f
  ·rw[q];exact(wI f y fs).1
  ·refine(wI f y fs).2 g (wi g fun z=>hg ?_)
   show(if g=f then some u else mA g)=none
   rw[if_neg q];exact z
theorem Inv.made(I:Inv X pins σ H s):Inv X pins σ (upd (upd H s.heap.objs.size (.own (s.heap.objs.size+1))) (s.heap.objs.size+1) (.ins C s.heap.objs.size []))
  { s with heap:=(s.heap.push uR).push (US C s.heap.objs.size) }:=by
 have e1:(s.heap.push uR).get? s.heap.objs.size=some uR:=ut s.heap rfl
 have e2:((s.heap.push uR).push (US C s.heap.objs.size)).get? (s.heap.objs.size+1)=some (US C s.heap.objs.size):=by
  have:=ut (s.heap.push uR) (o:=US C s.heap.objs.size) rfl
  rwa [Uf]at this
 have e3:(s.heap.push uR).Ns s.heap.objs.size (fun _=>none):=⟨uR,#[],_,e1,rfl,(fun e he=>absurd he (by simp)),fun _=>rfl⟩
 have I1:=I.laid (a:=s.heap.objs.size) (o:=.own (s.heap.objs.size+1)) (h':=s.heap.push uR) (t':=s.toks) (fun b u q=>ud _ q) (ui _) ⟨_,e1⟩
 refine I1.laid (a:=s.heap.objs.size+1) (o:=.ins C s.heap.objs.size []) (t':=s.toks) (fun b u q=>ud _ q) (Nat.le_of_eq (Uf _ _)) ?_
 have ne:s.heap.objs.size≠s.heap.objs.size+1:=uC (Uv _)
 refine⟨by rw[zm ne,zg],uW _,ne,e2,fun _=>none,(Heap.Ns1.of_empty e3).at fun o q=>ud _ q,fun _=>True.intro,fun y hy=>absurd rfl hy⟩
theorem Xd{prog:Program}{w:World}{env:Env}{e:Expr}{f:Str}{pos:Pos}{s:Shared}{Q:Value->Shared->Prop}(hb:attributeBase e f env (eval e env)=eval e env)
  (h:wpAny (model prog w) A (eval e env) (fun o s₁=>wpAny (model prog w) A (getAttr o f true) Q E s₁) E s):wpAny (model prog w) A (eval (.Attribute e f pos) env) Q E s :=
 Attribute_any_ h (by rw[arm_eval_Attribute,hb])
end
def tFld(K:ub)(ta:TE)(f:Str):TE:=fun σ H Q=>ta σ H fun x H1=>∃a C dx fs v,x=.ref a/\H1 a=some (.ins C dx fs)/\Cls K C/\NoAttr K C f/\fs.lookup f=some v/\Q v H1
def sFld(K:ub)(ta tv:TE)(f:Str):TS:=fun D σ H=>tv σ H fun y H1=>ta σ H1 fun x H2=>∃a C dx fs,x=.ref a/\H2 a=some (.ins C dx fs)/\Cls K C/\NoAttr K C f/\fs.length < 1000 /\
 D.nx σ (upd H2 a (.ins C dx (putF f y fs)))
section
variable{X:Cx}{o e value:Expr}{f:Str}{pos pos' tpos:Pos}{ta tv:TE}
theorem zbu(he:PE X e ta)(hb:attributeBase e f X.env (eval e X.env)=eval e X.env):PE X (.Attribute e f pos) (tFld X.K ta f):=by
 intro pins s σ H Q I h
 refine Xd hb (thn (he pins s σ H _ I h) fun u s1 ⟨x,H1,I1,rx,a,C,dx,fs,v,ex,ea,c,n,l,q⟩=>?_)
 subst ex
 obtain rfl:u=Value.ref a:=rx
 exact Yk I1 ea c n l fun u' s2 I2 ru=>⟨v,H1,I2,ru,q⟩
theorem zbv(ha:PE X o ta)(hv:PE X value tv)(hs:swapsWith value (some (.Attribute o f pos')) pos.line X.env=pure false):PS X (.Assign [.Attribute o f pos'] value pos) (sFld X.K ta tv f):=by
 intro pins s σ H D I h
 refine plainObj_wpAny_Assign_Attribute (thn (hv pins s σ H _ I h) fun u s1 ⟨y,H1,I1,ry,q⟩=>thn (ha pins s1 σ H1 _ I1 q) fun ov s2 ⟨x,H2,I2,rx,a,C,dx,fs,ex,ea,c,n,l,q2⟩=>?_) hs
 subst ex
 obtain rfl:ov=Value.ref a:=rx
 exact Ym I2 ea c n l ry fun s3 I3=>⟨σ,_,I3,q2⟩
end
section
variable{X:Cx}{pins:List (Addr×Obj)}{σ:St}{H:Hp}{s:Shared}{A:Around}{E:Value->Shared->Prop}{Q:Value->Shared->Prop}{c:Value}{b:Bool}
inductive TyOf(K:ub)(H:Hp):V->Value->Prop where
 |non:TyOf K H .non (.type "NoneType")
 |bl (x:Bool):TyOf K H (.bl x) (.type "bool")
 |int (i:Int):TyOf K H (.int i) (.type "int")
 |str (x:Str):TyOf K H (.str x) (.type "str")
 |flt (x:UInt64):TyOf K H (.flt x) (.type "float")
 |lst {a:Addr} {xs:List V} (e:H a=some (.lst xs)):TyOf K H (.ref a) (.type "list")
 |frz {a:Addr} {o:Obj} {xs:List V} (e:H a=some (.frz o (.lst xs))):TyOf K H (.ref a) (.type "list")
 |tup {a:Addr} {xs:List V} (e:H a=some (.tup xs)):TyOf K H (.ref a) (.type "tuple")
 |dK {a:Addr} {kvs:List (Key×V)} (e:H a=some (.dK kvs)):TyOf K H (.ref a) (.type "dict")
 |dT {a:Addr} {kvs:List (List Key×V)} (e:H a=some (.dT kvs)):TyOf K H (.ref a) (.type "dict")
 |ins {a C dx:Addr} {fs:List (Str×V)} (e:H a=some (.ins C dx fs)) (cl:Cls K C) (ha:uA K (.ref C) "__class__"=some (some (.builtin "object.__class__")))
   (hn:tZ K (.builtin "object.__class__") "__get__"=some (some (.builtin "getset_descriptor.__get__"))) (htk:PySem.W.takesIn K (.builtin "object.__class__")=some true)
   (hm:PySem.W.mroIn K C (.type "object")=some true):TyOf K H (.ref a) (.ref C)
end
structure Room(k:Nat)(A:Around):Prop where
 hd:A.handled=none
 dp:A.depth+3*k+5 < recursionLimit
 un:A.units+16*k+200 < cLine
theorem Room.mono{j k:Nat}{A:Around}(r:Room k A)(h:j<=k):Room j A:=⟨r.hd,by have:=r.dp;lia,by have:=r.un;lia⟩
theorem Room.deeper{k:Nat}{A:Around}(r:Room (k+1) A)(env:Env):Room k (A.deeper env) :=
 ⟨r.hd,by have:=r.dp;show A.depth+1+3*k+5 < _;lia,by have:=r.un;show A.units+3+16*k+200 < _;lia⟩
theorem Yn{A:Around}{C:Addr}{us:List Value}{kw:List (Str×Value)}:(A.under (.builtin "type.__call__" ⟨.ref C::us,kw⟩)).depth=A.depth+1:=by
 first|rfl|simp[Around.under,Code.weight,Code.isCreation,Code.isGuard,Code.isCaller,Code.frames,Code.isFrame,guardIds]
theorem Yo{A:Around}{C:Addr}{us:List Value}{kw:List (Str×Value)}:(A.under (.builtin "type.__call__" ⟨.ref C::us,kw⟩)).units=A.units+1:=by
 first|rfl|simp[Around.under,Code.cUnits,Code.frames,Code.isFrame]
theorem Room.make{k:Nat}{A:Around}(r:Room (k+1) A)(C:Addr)(us:List Value)(kw:List (Str×Value)):Room k (A.under (.builtin "type.__call__" ⟨.ref C::us,kw⟩)) :=
 ⟨r.hd,by have:=r.dp;rw[Yn];lia,by have:=r.un;rw[Yo];lia⟩
theorem Room.depth{k:Nat}{A:Around}(r:Room k A):A.depth < recursionLimit:=by have:=r.dp;lia
theorem Room.units{k:Nat}{A:Around}(r:Room k A):A.units+64 < cLine:=by have:=r.un;lia
theorem Room.units0{k:Nat}{A:Around}(r:Room k A):A.units < cLine:=by have:=r.un;lia
def tNil:TA:=fun _ H Q=>Q [] H
def zR(ta:TE)(tr:TA):TA:=fun σ H Q=>ta σ H fun x H1=>tr σ H1 fun xs H2=>Q (x::xs) H2
section
variable{X:Cx}{e:Expr}{es:List Expr}{te:TE}{t:TA}{pos:Pos}
theorem zbw:PA X [] tNil:=fun _ _ _ _ H Q I h=>Calls.spliced_nil ⟨[],H,I,.nil,h⟩
theorem Qe(ha:PE X e te)(hr:PA X es t)(hs:starEach (e::es) X.env=(false,eval e X.env)::starEach es X.env:=by rfl):PA X (e::es) (zR te t):=by
 intro pos pins s σ H Q I h
 rw[hs]
 show wpAny _ _ (spliced ((false,eval e X.env)::backTo pos (starEach es X.env))) _ _ s
 refine Calls.spliced_cons (thn (ha pins s σ H _ I h) fun u s1 ⟨x,H1,I1,r1,q1⟩=>?_)
 exact thn (hr pos pins s1 σ H1 _ I1 q1) fun us s2 ⟨xs,H2,I2,r2,q2⟩=>⟨x::xs,H2,I2,.cons r1 r2,q2⟩
def tTup(t:TA):TE:=fun σ H Q=>t σ H fun xs H1=>xs.length<=sizeLine/\∀p,H1 p=none->Q (.ref p) (upd H1 p (.tup xs))
def tLst(t:TA):TE:=fun σ H Q=>t σ H fun xs H1=>xs.length<=sizeLine/\∀p,H1 p=none->Q (.ref p) (upd H1 p (.lst xs))
theorem zbx{x1}(h:PA X es t):PE X (.Tuple es x1 pos) (tTup t):=by
 intro pins s σ H Q I hq
 refine wpAny_Tuple_spliced (thn (h pos pins s σ H _ I hq) fun us s1 ⟨xs,H1,I1,r,z,q⟩=>⟨by rw[<- r.length];exact z,?_⟩)
 have hf:H1 s1.heap.objs.size=none:=I1.hok.fresh (ui _)
 refine⟨.ref s1.heap.objs.size,upd H1 s1.heap.objs.size (.tup xs),I1.laid (t':=s1.toks) (fun b u e=>ud _ e) (ui _) ?_,rfl,q _ hf⟩
 exact⟨z,us,r,⟨_,ut _ rfl,rfl,rfl,_,rfl⟩⟩
theorem zby(h:PA X es t):PE X (.List es pos) (tLst t):=by
 intro pins s σ H Q I hq
 refine wpAny_List_spliced (thn (h pos pins s σ H _ I hq) fun us s1 ⟨xs,H1,I1,r,z,q⟩=>⟨by rw[<- r.length];exact z,?_⟩)
 have hf:H1 s1.heap.objs.size=none:=I1.hok.fresh (ui _)
 refine⟨.ref s1.heap.objs.size,upd H1 s1.heap.objs.size (.lst xs),I1.laid (t':=s1.toks) (fun b u e=>ud _ e) (ui _) ?_,rfl,q _ hf⟩
 exact⟨z,us,0,r,ut _ rfl⟩
end
abbrev Sp:=List V->Hp->VK->XK->Prop
abbrev CXT:=List Env->Hp->Shared->XK->Value->Shared->Prop
structure Env0(P:Program)(w:World)(K:ub)(mg:Str->Option Value)(base:Heap)(A:Around)(outer:List Env)(s:Shared)(H:Hp):Prop where
 frames:A.frames=some outer
 mod:Mod K mg base
 bs:∀b o,base.get? b=some o->s.heap.get? b=some o/\H b=none
 bsz:base.objs.size<=s.heap.objs.size
 funs:s.heap.FunFrames base outer
 frf:∀b∈frs outer,H b=none
 hok:HOk P w H s.heap
 bare:AllBare s.gens
def CE(outer:List Env)(P:Program)(w:World)(H:Hp)(s:Shared)(Q:VK)(u:Value)(s':Shared):Prop :=
 ∃v H',s'.os=s.os/\AllBare s'.gens/\Un (frs outer) [] H H' s.heap s'.heap/\HOk P w H' s'.heap/\RelV v u/\Q v H'
def CR(CX:CXT)(outer:List Env)(P:Program)(w:World)(H:Hp)(s:Shared)(Q:VK)(E:XK)(r:Result)(s':Shared):Prop :=
 match r with
 |.ok (.ret u)=>CE outer P w H s Q u s'
 |.ok _=>False
 |.error e=>CX outer H s E e s'
structure FnOk(P:Program)(w:World)(K:ub)(mg:Str->Option Value)(base:Heap)(CX:CXT)(k:Nat)(f:Addr)(fd:FuncData)(ps:List Str)(sp:Sp):Prop where
 len:∀vs H Q E,sp vs H Q E->vs.length=ps.length
 run:∀(A:Around)(outer:List Env)(s:Shared)(H:Hp)(args:Args)(us:List Value)(vs:List V)(Q:VK)(E:XK),Room k A->Env0 P w K mg base A outer s H->BindsTo s fd args (ps.zip us)->Vals vs us->sp vs H Q E ->
  codeAny (model P w) A (.call (.ref f) args) (CR CX outer P w H s Q E) s
theorem Env0.make{P:Program}{w:World}{K:ub}{mg:Str->Option Value}{base:Heap}{A:Around}{outer:List Env}{s:Shared}{H:Hp}(e:Env0 P w K mg base A outer s H)(C:Addr)(us:List Value)(kw:List (Str×Value)):
  Env0 P w K mg base (A.under (.builtin "type.__call__" ⟨.ref C::us,kw⟩)) outer s H:=⟨by first|exact e.frames|(simpa[Around.under,Code.envs,Code.isFrame,pushEnvs]using e.frames),e.mod,e.bs,e.bsz,e.funs,e.frf,e.hok,e.bare⟩
section
variable{X:Cx}{pins:List (Addr×Obj)}{σ:St}{H:Hp}{s s':Shared}
theorem Inv.env0(I:Inv X pins σ H s):Env0 X.prog X.w X.K X.mg X.base X.A X.stack s H :=
 ⟨I.ok.frames,I.ok.mod,I.bs,uy I.ok.bsz I.sz,I.stack,I.stkFree,I.hok,I.bare⟩
theorem Inv.after{Q:VK}{u:Value}(I:Inv X pins σ H s)(h:CE X.stack X.prog X.w H s Q u s'):EP X pins σ Q u s':=by
 obtain⟨v,H',os,bare,un,hok,r,q⟩:=h
 obtain⟨hh,g,d,t,os'⟩:=s'
 obtain rfl:os'=s.os:=os
 exact⟨v,H',I.call (h':=hh) (g':=g) (d':=d) (t':=t) (ch:=[]) un hok bare (fun b z=>absurd z (by simp)),r,q⟩
end
def ZG(sp:Sp)(dvs:List V)(E:XK)(t:TA):TE:=fun σ H Q=>t σ H fun vs H1=>sp (vs++dvs) H1 Q E
def zaE(C:Addr)(m:Str)(sp:Sp)(dvs:List V)(E:XK)(ta:TE)(t:TA):TE:=fun σ H Q=>ta σ H fun x H1=>∃a dx fs,x=.ref a/\H1 a=some (.ins C dx fs)/\fs.lookup m=none /\
 t σ H1 fun vs H2=>sp (x::(vs++dvs)) H2 Q E
def zaF(C:Addr)(sp:Sp)(dvs:List V)(E:XK)(t:TA):TE:=fun σ H Q=>t σ H fun vs H1=>∀x dx,H1 x=none->H1 dx=none->dx≠x ->
 sp (.ref x::(vs++dvs)) (upd (upd H1 dx (.own x)) x (.ins C dx [])) (fun v H2=>v=.non/\Q (.ref x) H2) E
def Binds(K:ub)(fd:FuncData)(ps:List Str)(ds:List Value):Prop :=
 ∀(s:Shared)(us:List Value),K.In s.heap->(us++ds).length=ps.length->BindsTo s fd ⟨us,[]⟩ (ps.zip (us++ds))
theorem Binds.all{K:ub}{fd:FuncData}{ps:List Str}(h:∀us:List Value,us.length=ps.length->bindArgs fd ⟨us,[]⟩=pure (ps.zip us)):Binds K fd ps []:=fun s us _ hl=>by
 rw[uO]at hl ⊢
 exact .of_eq (h us hl)
def yG(CX:CXT)(X:Cx)(E:XK):Prop:=∀(pins:List (Addr×Obj))(σ:St)(H:Hp)(s:Shared)(e:Value)(s':Shared),Inv X pins σ H s->CX X.stack H s E e s'->X.xe e s'
section
variable{X:Cx}{CX:CXT}{k:Nat}{f C:Addr}{fd:FuncData}{ps:List Str}{sp:Sp}{dvs:List V}{ds:List Value}{E:XK}{x m:Str}{p pos apos:Pos}{e o:Expr}{es:List Expr}{ta:TE}{t:TA}
theorem WJ{pins:List (Addr×Obj)}{σ:St}{H:Hp}{s:Shared}{Q:VK}{us:List Value}{vs:List V}(F:FnOk X.prog X.w X.K X.mg X.base CX k f fd ps sp)(hr:Room k X.A)(hb:Binds X.K fd ps ds)(hd:Vals dvs ds)(hx:yG CX X E)
  (I:Inv X pins σ H s) (r:Vals vs us) (h:sp (vs++dvs) H Q E):wpAny (model X.prog X.w) X.A (call (.ref f) us) (EP X pins σ Q) X.xe s:=by
 have r2:Vals (vs++dvs) (us++ds):=r.append hd
 have hl:(us++ds).length=ps.length:=by rw[<- r2.length];exact F.len _ _ _ _ h
 refine wpAny_call (codeAny_mono (F.run X.A X.stack s H ⟨us,[]⟩ (us++ds) (vs++dvs) Q E hr I.env0 (hb s us I.kIn hl) r2 h) fun r s' hq=>?_)
 cases r with
 |error e=>exact hx pins σ H s e s' I hq
 |ok fl =>
  cases fl with
  |ret u=>exact I.after hq
  |next=>exact False.elim hq
  |brk=>exact False.elim hq
  |cont=>exact False.elim hq
theorem Qf(F:FnOk X.prog X.w X.K X.mg X.base CX k f fd ps sp)(hr:Room k X.A)(hg:Gl X x)(hm:X.mg x=some (.ref f))(hk:Ud X.K (.ref f)=true)(hb:Binds X.K fd ps ds)(hd:Vals dvs ds)(hx:yG CX X E)
  (ha:PA X (e::es) t) (hdb:(x == ("__debug__":Str))=false:=by decide) (he:starEach (e::es) X.env=(false,eval e X.env)::starEach es X.env:=by rfl) (hpl:(backTo pos (starEach es X.env)).any (·.1)=false:=by rfl) :
  PE X (.Call (.Name x p) (e::es) [] pos) (ZG sp dvs E t):=by
 intro pins s σ H Q I h
 refine wpAny_Call_Name_kw (xu I hg hm ?_ hdb)
 refine tD (h₀:=X.base) I.ok.mod.kin hk (thn (ha pos pins s σ H _ I h) fun us s1 ⟨vs,H1,I1,r,q⟩=>⟨I1.kIn,?_⟩) he hpl
 exact WJ F hr hb hd hx I1 r q
theorem Qg{pl:Sem Bool}(he:PE X o ta)(c:Cls X.K C)(hm:Meth X.K C m f)(F:FnOk X.prog X.w X.K X.mg X.base CX k f fd ps sp)(hr:Room k X.A)(hb:Binds X.K fd ps ds)(hd:Vals dvs ds)(hx:yG CX X E)(ha:PA X (e::es) t)
  (hst:starEach (e::es) X.env=(false,eval e X.env)::starEach es X.env:=by rfl) (hpl:(backTo pos (starEach es X.env)).any (·.1)=false:=by rfl)
  (ht:eval (.Call (.Attribute o m apos) (e::es) [] pos) X.env=(do
   let ov <- eval o X.env
   standAt apos.atName
   let (f,first) <- holding [ov] (getMethod ov m pl)
   callWith pos f first (backTo pos (starEach (e::es) X.env)) (backToKw pos (keywordEach [] X.env))):=by rfl) :
  PE X (.Call (.Attribute o m apos) (e::es) [] pos) (zaE C m sp dvs E ta t):=by
 intro pins s σ H Q I h
 refine PySem.W.methodCall_KW (pl:=pl) (thn (he pins s σ H _ I h) fun u s1 ⟨x,H1,I1,rx,a,dx,fs,ex,ea,l,q⟩=>?_) ht
 subst ex
 obtain rfl:u=Value.ref a:=rx
 refine Yl I1 ea c hm l ?_
 refine tD (first:=[.ref a]) (h₀:=X.base) I.ok.mod.kin hm.kp (thn (ha pos pins s1 σ H1 _ I1 q) fun us s2 ⟨vs,H2,I2,r,q2⟩=>⟨I2.kIn,?_⟩) hst hpl
 exact WJ (us:=.ref a::us) (vs:=.ref a::vs) F hr hb hd hx I2 (.cons rfl r) q2
structure Mk(K:ub)(C f:Addr):Prop where
 makes:PySem.W.makesIn K C=true
 init:uA K (.ref C) "__init__"=some (some (.ref f))
 fn:PySem.W.isFn K (.ref f)=true
 kp:Ud K (.ref C)=true
theorem WK{pins:List (Addr×Obj)}{σ:St}{H:Hp}{s:Shared}{Q:VK}{us:List Value}{vs:List V}(M:Mk X.K C f)(F:FnOk X.prog X.w X.K X.mg X.base CX k f fd ps sp)(hr:Room (k+1) X.A)(hb:Binds X.K fd ps ds)(hd:Vals dvs ds)
  (hx:yG CX X E) (I:Inv X pins σ H s) (r:Vals vs us)
  (h:∀x dx,H x=none->H dx=none->dx≠x->sp (.ref x::(vs++dvs)) (upd (upd H dx (.own x)) x (.ins C dx [])) (fun v H2=>v=.non/\Q (.ref x) H2) E) :
  wpAny (model X.prog X.w) X.A (call (.ref C) us) (EP X pins σ Q) X.xe s:=by
 have hq:=h (s.heap.objs.size+1) s.heap.objs.size (I.hok.fresh (U2 _)) (I.hok.fresh (ui _)) (uC (Uv _))
 have I2:=Inv.made (C:=C) I
 have r2:Vals (V.ref (s.heap.objs.size+1)::(vs++dvs)) (Value.ref (s.heap.objs.size+1)::(us++ds)):=.cons rfl (r.append hd)
 have hl:(Value.ref (s.heap.objs.size+1)::us++ds).length=ps.length:=by
  have e:=r2.length
  rw[F.len _ _ _ _ hq]at e
  exact e.symm
 refine wpAny_call (WH (f:=f) I.kIn M.makes M.init (beq_iff_eq.mp M.fn) (codeAny_mono (F.run _ X.stack _ _ ⟨Value.ref (s.heap.objs.size+1)::us,[]⟩ (Value.ref (s.heap.objs.size+1)::(us++ds)) _ _ E (hr.make C us [])
  (I2.env0.make C us []) (hb _ (Value.ref (s.heap.objs.size+1)::us) I2.kIn hl) r2 hq) fun r s' hq'=>?_))
 cases r with
 |error e=>exact hx pins σ _ _ e s' I2 hq'
 |ok fl =>
  cases fl with
  |ret u =>
   obtain⟨v,H',I3,rv,ev,q3⟩:=I2.after hq'
   subst ev
   exact⟨rv,⟨V.ref (s.heap.objs.size+1),H',I3,rfl,q3⟩⟩
  |next=>exact False.elim hq'
  |brk=>exact False.elim hq'
  |cont=>exact False.elim hq'
theorem Qh(M:Mk X.K C f)(F:FnOk X.prog X.w X.K X.mg X.base CX k f fd ps sp)(hr:Room (k+1) X.A)(hg:Gl X x)(hm:X.mg x=some (.ref C))(hb:Binds X.K fd ps ds)(hd:Vals dvs ds)(hx:yG CX X E)
  (ha:PA X (e::es) t) (hdb:(x == ("__debug__":Str))=false:=by decide) (he:starEach (e::es) X.env=(false,eval e X.env)::starEach es X.env:=by rfl) (hpl:(backTo pos (starEach es X.env)).any (·.1)=false:=by rfl) :
  PE X (.Call (.Name x p) (e::es) [] pos) (zaF C sp dvs E t):=by
 intro pins s σ H Q I h
 refine wpAny_Call_Name_kw (xu I hg hm ?_ hdb)
 refine tD (h₀:=X.base) I.ok.mod.kin M.kp (thn (ha pos pins s σ H _ I h) fun us s1 ⟨vs,H1,I1,r,q⟩=>⟨I1.kIn,?_⟩) he hpl
 exact WK M F hr hb hd hx I1 r q
end
section
variable{X:Cx}{CX:CXT}{k:Nat}{f C:Addr}{fd:FuncData}{ps ks:List Str}{sp:Sp}{E:XK}{x m:Str}{p pos apos kpos:Pos}{e o:Expr}{es:List Expr}{kws:List Keyword}{te ta:TE}{t tk:TA}{nm:Option Str}
variable{g:List Value->List Value->List Value}{gV:List V->List V->List V}
end
structure FnScope(N P:List Str)(sc:Scope):Prop where
 kind:sc.kind=.function
 co:sc.isCoroutine=false
 gen:sc.isGenerator=false
 nd:N.Nodup
 pre:N.take P.length=P
 par:∀x∈P,sc.names.lookup x=some .local\/sc.names.lookup x=some .cell
 nofree:∀y∈sc.names,y.2≠.free
theorem FnScope.ok{N P:List Str}{sc:Scope}(a:N.Nodup:=by decide +kernel)(b:∀x∈P,sc.names.lookup x=some .local\/sc.names.lookup x=some .cell:=by decide +kernel)(c:∀y∈sc.names,y.2≠.free:=by decide +kernel)(d:sc.kind=.function:=by rfl)(e:sc.isCoroutine=false:=by rfl)(f:sc.isGenerator=false:=by rfl)(g:N.take P.length=P:=by rfl):FnScope N P sc:=⟨d,e,f,a,g,b,c⟩
theorem jh{kindOf:Str->Option NameKind}{x:Str}:∀{binds:List (Str×Value)}{m:Str->Option Value},(∀v,(x,v)∉binds)->bindL kindOf binds m x=m x
 |[],_,_=>rfl
 | (n,v)::r,m,h=>by
  unfold bindL
  rw[jh fun w hw=>h w (Up _ hw)]
  split
  ·have:x≠n:=by rintro rfl;exact h v uP
   simp[this]
  ·rfl
theorem ji{kindOf:Str->Option NameKind}{x:Str}:∀{binds:List (Str×Value)}{m:Str->Option Value},(∀v,(x,v)∉binds)->bindC kindOf binds m x=m x
 |[],_,_=>rfl
 | (n,v)::r,m,h=>by
  unfold bindC
  rw[ji fun w hw=>h w (Up _ hw)]
  split
  ·rfl
  ·have:x≠n:=by rintro rfl;exact h v uP
   simp[this]
theorem jj{kindOf:Str->Option NameKind}{x:Str}{v:Value}:∀{P:List Str}{vs:List Value}{i:Nat}{m:Str->Option Value},P.Nodup->P[i]?=some x->vs[i]?=some v->kindOf x=some .local ->
  bindL kindOf (P.zip vs) m x=some v
 |[],_,_,_,_,h,_,_=>by simp at h
 |_::_,[],_,_,_,_,h,_=>by simp at h
 |p::P,w::vs,0,m,nd,h1,h2,hk=>by
  simp at h1 h2;subst h1;subst h2
  show bindL kindOf ((p,w)::P.zip vs) m p=_
  unfold bindL
  rw[jh fun v hv=>(Ur.mp nd).1 (List.of_mem_zip hv).1,if_pos hk]
  simp
 |p::P,w::vs,i+1,m,nd,h1,h2,hk=>by
  show bindL kindOf ((p,w)::P.zip vs) m x=_
  unfold bindL
  exact jj (i:=i) (Ur.mp nd).2 (by simpa using h1) (by simpa using h2) hk
theorem jk{kindOf:Str->Option NameKind}{x:Str}{v:Value}:∀{P:List Str}{vs:List Value}{i:Nat}{m:Str->Option Value},P.Nodup->P[i]?=some x->vs[i]?=some v->kindOf x≠some .local ->
  bindC kindOf (P.zip vs) m x=some v
 |[],_,_,_,_,h,_,_=>by simp at h
 |_::_,[],_,_,_,_,h,_=>by simp at h
 |p::P,w::vs,0,m,nd,h1,h2,hk=>by
  simp at h1 h2;subst h1;subst h2
  show bindC kindOf ((p,w)::P.zip vs) m p=_
  unfold bindC
  rw[ji fun v hv=>(Ur.mp nd).1 (List.of_mem_zip hv).1,if_neg hk]
  simp
 |p::P,w::vs,i+1,m,nd,h1,h2,hk=>by
  show bindC kindOf ((p,w)::P.zip vs) m x=_
  unfold bindC
  exact jk (i:=i) (Ur.mp nd).2 (by simpa using h1) (by simpa using h2) hk
def yU(N:List Str)(vs:List V):St:=vs.map some++Um (N.length-vs.length) none
def cxOf(CX:CXT)(P:Program)(w:World)(K:ub)(mg:Str->Option Value)(base:Heap)(N:List Str)(qual:Str)(scope:Scope)(f:Addr)(cd:Value)(A:Around)(outer:List Env)(s:Shared)(H:Hp)(E:XK):Cx where
 prog:=P
 w:=w
 K:=K
 mg:=mg
 base:=base
 A:=A.deeper (envOfC qual scope s.heap.objs.size f cd)
 N:=N
 s₀:=s
 H₀:=H
 env:=envOfC qual scope s.heap.objs.size f cd
 outer:=outer
 stack:=envOfC qual scope s.heap.objs.size f cd::outer
 ex:=[]
 calm:=true
 fn:=fun _=>true
 pn:=[]
 xe:=fun e s'=>wpAny (model P w) (A.deeper (envOfC qual scope s.heap.objs.size f cd)) (leaving (envOfC qual scope s.heap.objs.size f cd) e) (fun _ s''=>CX outer H s E e s'') (fun e' s''=>CX outer H s E e' s'') s'
theorem ZH{sc:Scope}{n:Nat}{x:Str}(h:sc.names.lookup x=some .cell):∃c,(cellsFrom n sc.names []).lookup x=some c:=by
 have q:=Ta sc.names n [] (.inl h)
 exact U7.mp q
theorem jl{CX:CXT}{P:Program}{w:World}{K:ub}{mg:Str->Option Value}{base:Heap}{N ps:List Str}{qual:Str}{scope:Scope}{f:Addr}{cd:Value}{A:Around}{outer:List Env}{s s1:Shared}{H:Hp}{E:XK}{us:List Value}{vs:List V}
  (S:FnScope N ps scope) (hd:A.handled=none) (e0:Env0 P w K mg base A outer s H) (hl:vs.length=ps.length) (r:Vals vs us)
  (x:InCallC s s.heap.objs.size (bindL (envOfC qual scope s.heap.objs.size f cd).kindOf (ps.zip us) fun _=>none) (cellsFrom (s.heap.objs.size+1) scope.names []) (bindC (envOfC qual scope s.heap.objs.size f cd).kindOf (ps.zip us) fun _=>none) s1) :
  Inv (cxOf CX P w K mg base N qual scope f cd A outer s H E) [] (yU N vs) H s1:=by
 have hpl:ps.length<=N.length:=by have:=congrArg U3 S.pre;rw[uX]at this;lia
 obtain⟨h1,tk,rfl,hk⟩:=x.done
 have noA:∀b:Addr,b∉(cxOf CX P w K mg base N qual scope f cd A outer s H E).ex:=fun b z=>absurd (show b∈([]:List Addr)from z) (by simp)
 refine⟨⟨e0.mod,S.kind,rfl,rfl,ui _,fun y z c h1 h2=>?_,fun y hy=>?_,fun y c _ h=>?_,fun _=>hd,Around.frames_deeper e0.frames,.inr ⟨rfl,rfl⟩,fun b z=>absurd z (noA b),e0.bs,e0.bsz,fun b _ _=>noA b,fun b z=>absurd z (noA b),e0.funs,e0.frf⟩,
  rfl,e0.bare,Un.kept hk,⟨_,x.toInCall.ns,fun i y v h1 h2 h3=>?_⟩,fun y c h=>⟨_,x.cell y c h⟩,e0.hok.fresh (ui _),fun y c h=>?_,fun p hp=>absurd (show p∈([]:List (Addr×Obj))from hp) (by simp),e0.hok.kept hk,?_⟩
 ·exact name_of_addr x.apart (UH h1) (UH h2)
 ·have hy:scope.names.lookup y=some .cell\/scope.names.lookup y=some .free:=hy
  rcases hy with hy|hy
  ·exact ZH hy
  ·exact absurd rfl (S.nofree _ (UH hy))
 ·exact Nat.le_of_lt (x.above y c (UH h))
 ·have hi:i < vs.length:=by
   unfold yU at h2
   by_cases hi:i < vs.length
   ·exact hi
   ·rw[Uo (by simpa using hi)]at h2
    rw[List.getElem?_replicate]at h2
    split at h2<;>cases h2
  have ha:vs[i]?=some v:=by
   unfold yU at h2
   rw[Uh (by simpa using hi),uk]at h2
   cases e:vs[i]? with
   |none=>rw[e]at h2;cases h2
   |some a=>rw[e]at h2;cases h2;rfl
  obtain⟨u,hu,rv⟩:=r.get ha
  have hp:ps[i]?=some y:=by
   rw[<- S.pre,List.getElem?_take_of_lt (by lia)];exact h1
  have ndP:ps.Nodup:=by rw[<- S.pre];exact S.nd.sublist (List.take_sublist _ _)
  refine⟨u,rv,?_⟩
  rcases S.par y (uB hp)with k|k
  ·exact .inl ⟨k,jj ndP hp hu k⟩
  ·obtain⟨c,e⟩:=ZH (n:=s.heap.objs.size+1) k
   refine .inr ⟨.inl k,c,e,?_⟩
   have q:=x.cell y c e
   rw[jk ndP hp hu (by show scope.names.lookup y≠_;rw[k];decide)]at q
   exact q
 ·exact e0.hok.fresh (Nat.le_of_lt (x.above y c (UH h)))
 ·unfold yU
  show _=N.length
  rw[uc,ua,Uy]
  lia
theorem zaG{CX:CXT}{P:Program}{w:World}{K:ub}{mg:Str->Option Value}{base:Heap}{k:Nat}{f:Addr}{name qual:Str}{params:Arguments}{body:List Stmt}{scope:Scope}{dV kV doc pm cdv ct oc:Value}{an od:Option Addr}
  {osl:Array (Option Value)} {N ps:List Str} {sp:Sp} (lk:K.lookup f=some ⟨oc,od,.func (Uw name qual params body scope dV kV doc pm an cdv ct),osl⟩) (hcd:tI K cdv qual=true) (S:FnScope N ps scope)
  (len:∀vs H Q E,sp vs H Q E->vs.length=ps.length)
  (hbody:∀(A:Around)(outer:List Env)(s:Shared)(H:Hp)(vs:List V)(Q:VK)(E:XK),Room k (A.deeper (envOfC qual scope s.heap.objs.size f cdv))->sp vs H Q E ->
   ∃t,PSs (cxOf CX P w K mg base N qual scope f cdv A outer s H E) body t/\t { nx:=fun _ H'=>Q .non H',rt:=Q } (yU N vs) H) :
  FnOk P w K mg base CX (k+1) f (Uw name qual params body scope dV kV doc pm an cdv ct) ps sp:=by
 refine⟨len,fun A outer s H args us vs Q E hr e0 hb r hsp=>?_⟩
 have hl:=len _ _ _ _ hsp
 have KX:K.In s.heap:=e0.mod.kin.keeps fun b o e=>(e0.bs b o e).1
 have lim:s.heap.NoLimit:=e0.mod.nolimit.keeps fun b o e=>(e0.bs b o e).1
 have hkind:∀y∈ps.zip us,scope.names.lookup y.1=some .local\/(scope.names.lookup y.1=some .cell/\((cellsFrom (s.heap.objs.size+1) scope.names []).lookup y.1).isSome=true):=fun⟨n,v⟩ hy=>by
  rcases S.par n (List.of_mem_zip hy).1 with q|q
  ·exact .inl q
  ·exact .inr ⟨q,Ta _ _ _ (.inl q)⟩
 refine codeAny_call_function hr.depth (KX _ _ lk) rfl S.co S.gen rfl (PySem.W.codeRec_of KX hcd) (hb _ _ _ _ ?_)
 refine wpAny_newFunctionEnv_cells S.kind hkind fun env he s1 x=>?_
 subst he
 refine⟨lim.keeps x.toInCall.keep,codeAny_func ?_⟩
 obtain⟨t,ht,hq⟩:=hbody A outer s H vs Q E (hr.deeper _) hsp
 have I:Inv (cxOf CX P w K mg base N qual scope f cdv A outer s H E) [] (yU N vs) H s1:=jl S hr.hd e0 hl r x
 refine wpAny_mono (ht [] s1 (yU N vs) H _ I hq) (fun fl s' hs=>?_) fun e s' hs=>hs
 have fin:∀{σ':St}{H':Hp}{v:V}{u:Value},Inv (cxOf CX P w K mg base N qual scope f cdv A outer s H E) [] σ' H' s'->RelV v u->Q v H'->CE outer P w H s Q u s' :=
  fun{σ' H' v u} J rv q=>⟨v,H',J.os,J.bare,J.base,J.hok,rv,q⟩
 cases fl with
 |ret u =>
  obtain⟨v,σ',H',J,rv,q⟩:=hs
  exact fin J rv q
 |next =>
  obtain⟨σ',H',J,q⟩:=hs
  exact fin (v:=V.non) (u:=Value.none) J rfl q
 |brk =>
  obtain⟨_,_,_,q⟩:=hs
  exact False.elim q
 |cont =>
  obtain⟨_,_,_,q⟩:=hs
  exact False.elim q
section
variable{X:Cx}{x:Str}{p pos:Pos}{e:Expr}{es:List Expr}{t:TA}{id T:String}{r:List V->Hp->VK->Prop}
def tCB(r:List V->Hp->VK->Prop)(t:TA):TE:=fun σ H Q=>t σ H fun vs H1=>r vs H1 Q
theorem WL(hc:yQ X (.builtin id) r)(hg:Gl X x)(hm:X.mg x=none)(hv:bootBuiltins x=some (.builtin id))(ha:PA X (e::es) t)(hn:x≠"__name__":=by decide)(hdb:(x == ("__debug__":Str))=false:=by decide)
  (he:starEach (e::es) X.env=(false,eval e X.env)::starEach es X.env:=by rfl) (hpl:(backTo pos (starEach es X.env)).any (·.1)=false:=by rfl):PE X (.Call (.Name x p) (e::es) [] pos) (tCB r t):=by
 intro pins s σ H Q I h
 refine wpAny_Call_Name_kw (xv I hg hm hv ?_ hn hdb)
 exact PyProof.Rows.callWith_builtin1 (thn (ha pos pins s σ H _ I h) fun us s1 ⟨vs,H1,I1,r1,q1⟩=>hc pins s1 σ H1 vs us Q I1 r1 q1) he hpl
theorem X1(hc:yQ X (.type T) r)(hg:Gl X x)(hm:X.mg x=none)(hv:bootBuiltins x=some (.type T))(ha:PA X (e::es) t)(hn:x≠"__name__":=by decide)(hdb:(x == ("__debug__":Str))=false:=by decide)
  (he:starEach (e::es) X.env=(false,eval e X.env)::starEach es X.env:=by rfl) (hpl:(backTo pos (starEach es X.env)).any (·.1)=false:=by rfl):PE X (.Call (.Name x p) (e::es) [] pos) (tCB r t):=by
 intro pins s σ H Q I h
 refine wpAny_Call_Name_kw (xv I hg hm hv ?_ hn hdb)
 exact Ul (thn (ha pos pins s σ H _ I h) fun us s1 ⟨vs,H1,I1,r1,q1⟩=>hc pins s1 σ H1 vs us Q I1 r1 q1) he hpl
end
end L2
namespace HT
open PySem PyProof.Rows
section
open PySem.SeqAt
open PySem.AutoSeq1 (wpAny_loadPart')
open PySem.MeetsSeq PySem.MeetsSeq2 PySem.MeetsSeq3
end
section
variable{prog:Program}{w:World}{A:Around}{E:Value->Shared->Prop}{s:Shared}
theorem cat_tup{t b:Addr}{vs ws:List Value}{Q:Value->Shared->Prop}(ht:IsTup s.heap t vs.toArray)(hb:IsTup s.heap b ws.toArray)(hv:vs≠[])
  (h1:ws=[]->Q (.ref t) s) (h2:ws≠[]->Q (.ref s.heap.objs.size) { s with heap:=s.heap.push { cls:=.type "tuple",data:=.seq (vs++ws).toArray } })
  (hsz:vs.length+ws.length<=sizeLine):wpAny (model prog w) A (binaryOp .Add (.ref t) (.ref b)) Q E s:=by
 obtain⟨⟨cls,dd,data,sl⟩,ho,hc,n,hd⟩:=id ht
 obtain⟨⟨cls2,dd2,data2,sl2⟩,ho2,hc2,n2,hd2⟩:=id hb
 simp only at hc hd hc2 hd2
 subst hc hd hc2 hd2
 have e:vs.toArray++ws.toArray=(vs++ws).toArray:=by simp
 by_cases hw:ws=[]
 ·exact concat_meets ⟨_,ho,rfl⟩ ⟨_,ho2,rfl⟩ noFill_tuple_add seq_tuple_add PySem.F.slot_tuple_add PySem.F.entry_tuple_add (PySem.F.args_tuple_add_2 _ _)
   (tuple_addW1 t b vs.toArray ws.toArray n n2 dd dd2 sl sl2 (by simpa using hv) (by simp[hw])) ⟨ho,ho2,h1 hw⟩
 ·refine concat_meets ⟨_,ho,rfl⟩ ⟨_,ho2,rfl⟩ noFill_tuple_add seq_tuple_add PySem.F.slot_tuple_add PySem.F.entry_tuple_add (PySem.F.args_tuple_add_2 _ _)
   (tuple_addW2 t b vs.toArray ws.toArray n n2 dd dd2 sl sl2 (by simpa using hv) (by simpa using hw) (by rw[uo,uo];exact hsz)) ⟨ho,ho2,?_⟩
  rw[e]
  exact h2 hw
def sIx(n d:Nat):Option Int->Nat
 |none=>d
 |some v=>if v < 0 then(v+(n:Int)).toNat else min v.toNat n
theorem zbz(n d:Nat)(hd:d<=n)(o:Option Int):sIx n d o<=n:=by
 cases o with
 |none=>exact hd
 |some v =>
  show(if v < 0 then(v+(n:Int)).toNat else min v.toNat n)<=n
  by_cases hv:v < 0
  ·rw[if_pos hv];lia
  ·rw[if_neg hv];exact Nat.min_le_right _ _
theorem Xe(v:Int)(n d:Nat):(if v < 0 then max (v+(n:Int)) 0 else min v (n:Int))=((sIx n d (some v):Nat):Int):=by
 show(if v < 0 then max (v+(n:Int)) 0 else min v (n:Int))=(((if v < 0 then(v+(n:Int)).toNat else min v.toNat n):Nat):Int)
 by_cases hv:v < 0
 ·simp only[if_pos hv];lia
 ·simp only[if_neg hv];lia
theorem Yp(lo hi:Option Int)(n:Nat):Builtin.Slice.sliceAdjust lo hi 1 (n:Int)=(((sIx n 0 lo:Nat):Int),((sIx n n hi:Nat):Int)):=by
 have h1:¬ ((1:Int) < 0):=by lia
 unfold Builtin.Slice.sliceAdjust
 simp only[h1,if_false]
 refine Prod.ext ?_ ?_
 ·cases lo with
  |none=>rfl
  |some v=>exact Xe v n 0
 ·cases hi with
  |none=>rfl
  |some v=>exact Xe v n n
theorem Yq(i j:Nat):Builtin.Slice.slicePlaces (i:Int) (j:Int) 1=j-i:=by
 unfold Builtin.Slice.slicePlaces
 have h1:(1:Int) > 0:=by lia
 simp only[h1,if_true,Int.ediv_one]
 split<;>lia
theorem vy{v:Value}{o:Option Int}{Q:Option Int->Shared->Prop}(p:IsPart v o)(h:Q o s):wpAny (model prog w) A (Builtin.Slice.slicePartIndex v) Q E s:=by
 cases p with
 |none=>exact slicePart_none h
 |int i t=>exact slicePart_int h
theorem wJ{sl:Addr}{vl vu:Value}{lo hi:Option Int}{n:Nat}{Q:Int×Int×Nat->Shared->Prop}(hs:s.heap.IsSliceOf sl vl vu .none)(pl:IsPart vl lo)(pu:IsPart vu hi)
  (h:Q (((sIx n 0 lo:Nat):Int),1,sIx n n hi-sIx n 0 lo) s):wpAny (model prog w) A (Builtin.Slice.sliceApplied (.ref sl) (pure (n:Int))) Q E s:=by
 obtain⟨os,hos,hcs,hds⟩:=id hs
 unfold Builtin.Slice.sliceApplied Builtin.Slice.sliceFields
 refine wpAny_bind (wpAny_bind (wpAny_field hos hds (x:=vl) rfl (wpAny_bind (wpAny_field hos hds (x:=vu) rfl (wpAny_bind (wpAny_field hos hds (x:=.none) rfl (wpAny_pure ?_)))))))
 refine wpAny_bind (slicePart_none ?_)
 show wpAny _ _ (if((1:Int) == 0)=true then _ else _) _ _ s
 rw[if_neg (by decide)]
 refine wpAny_bind (vy pl (wpAny_bind (vy pu (wpAny_bind (wpAny_pure ?_)))))
 show wpAny _ _ (match Builtin.Slice.sliceAdjust lo hi 1 (n:Int)with|(lo,hi)=>pure (lo,(1:Int),Builtin.Slice.slicePlaces lo hi 1)) _ _ s
 rw[Yp lo hi n]
 show wpAny _ _ (pure (((sIx n 0 lo:Nat):Int),(1:Int),Builtin.Slice.slicePlaces ((sIx n 0 lo:Nat):Int) ((sIx n n hi:Nat):Int) 1)) _ _ s
 rw[Yq]
 exact wpAny_pure h
theorem WM(xs:Array Value)(i k:Nat):((uT k).filterMap fun(m:Nat)=>xs[((i:Int)+(m:Int)*1).toNat]?).toArray=((xs.toList.drop i).take k).toArray:=by
 have e:(fun(m:Nat)=>xs[((i:Int)+(m:Int)*1).toNat]?)=fun m=>xs[i+m]?:=by
  funext m
  have:((i:Int)+(m:Int)*1).toNat=i+m:=by lia
  rw[this]
 rw[e]
 have:=pick_run xs i k
 rw[List.filterMap_map]at this
 have e2:((fun x=>xs[x]?) ∘ fun x=>i+x)=fun m=>xs[i+m]?:=rfl
 rw[e2]at this
 rw[this]
theorem getItem_tuple_cut{t sl:Addr}{items:Array Value}{vl vu:Value}{lo hi:Option Int}{Q:Value->Shared->Prop}(ht:IsTup s.heap t items)(hs:s.heap.IsSliceOf sl vl vu .none)(pl:IsPart vl lo)(pu:IsPart vu hi)
  (hw:¬ (sIx items.size 0 lo=0/\sIx items.size items.size hi=items.size))
  (h:Q (.ref s.heap.objs.size) { s with heap:=s.heap.push { cls:=.type "tuple",data:=.seq ((items.toList.drop (sIx items.size 0 lo)).take (sIx items.size items.size hi-sIx items.size 0 lo)).toArray } })
  (hsz:items.size<=sizeLine):wpAny (model prog w) A (getItem (.ref t) (.ref sl)) Q E s:=by
 have htake:sizeOk (.seq ((items.toList.drop (sIx items.size 0 lo)).take (sIx items.size items.size hi-sIx items.size 0 lo)).toArray):=by
  show((items.toList.drop (sIx items.size 0 lo)).take (sIx items.size items.size hi-sIx items.size 0 lo)).toArray.size<=sizeLine
  rw[uo,uX,List.length_drop,Array.length_toList]
  lia
 have hj:sIx items.size items.size hi<=items.size:=zbz _ _ (ui _) hi
 obtain⟨os,hos,hcs,hds⟩:=id hs
 have hTs:s.TypeIs (.ref sl) "slice":=⟨os,hos,hcs⟩
 unfold getItem
 try with_reducible refine wpAny_holding ?_
 first|refine wpAny_bind (wpAny_pure ?_)|skip
 refine wpAny_bind (wpAny_sequenceKey ht.typeIs (by decide) ?_)
 refine wpAny_bind (wpAny_callSpecial?_slot (name:=Str.ofString "__getitem__") ht.typeIs U8
  (wpAny_call_entry U8 ht.typeIs entry_tuple_getitem ?_ (args_tuple_getitem _ _)))
 show wpAny _ _ (Builtin.Tuple.tupleItemsOf (.ref t) >>= _) _ _ s
 refine wpAny_bind (tupleItemsOf_ ht ?_)
 refine wpAny_bind (wpAny_typeOf hTs ?_)
 rw[if_pos (by decide)]
 refine wpAny_bind (wJ hs pl pu ?_)
 have hno:¬ ((((sIx items.size 0 lo:Nat):Int) == 0 && (1:Int) == 1 && (sIx items.size items.size hi-sIx items.size 0 lo) == items.size)=true):=by
  intro q
  rw[UL,UL]at q
  have q1:((sIx items.size 0 lo:Nat):Int)=0:=eq_of_beq q.1.1
  have q2:sIx items.size items.size hi-sIx items.size 0 lo=items.size:=eq_of_beq q.2
  exact hw ⟨by lia,by lia⟩
 show wpAny _ _ (if(((sIx items.size 0 lo:Nat):Int) == 0 && (1:Int) == 1 && (sIx items.size items.size hi-sIx items.size 0 lo) == items.size)=true then _ else _) _ _ s
 rw[if_neg hno,WM]
 first
  |exact wpAny_bind (m:=Builtin.Tuple.tupleExact _) (wpAny_newObj_type (wpAny_pure ⟨_,rfl,wpAny_pure h⟩) htake)
  |exact wpAny_bind (m:=Builtin.Tuple.tupleExact _) (wpAny_newObj_type (wpAny_bind (wpAny_pure (wpAny_pure ⟨_,rfl,wpAny_pure h⟩))) htake)
  |exact wpAny_bind (wpAny_bind (m:=Builtin.Tuple.tupleExact _) (wpAny_newObj_type (wpAny_pure (wpAny_pure ⟨_,rfl,wpAny_pure h⟩)) htake))
  |exact wpAny_bind (wpAny_bind (m:=Builtin.Tuple.tupleExact _) (wpAny_newObj_type (wpAny_pure ⟨_,rfl,wpAny_pure h⟩) htake))
end
end HT
namespace L2
open PySem PySem.Spec PyProof.Rows
abbrev TO:=St->Hp->(Option Int->Hp->Prop)->Prop
def PO(X:Cx)(e:Option Expr)(t:TO):Prop :=
 ∀(pins:List (Addr×Obj))(s:Shared)(σ:St)(H:Hp)(Q:Option Int->Hp->Prop),Inv X pins σ H s->t σ H Q ->
  wpAny (model X.prog X.w) X.A (evalPart e X.env) (fun u s'=>∃o H',Inv X pins σ H' s'/\IsPart u o/\Q o H') X.xe s
def Xf:TO:=fun _ H Q=>Q none H
def zaH(t:TE):TO:=fun σ H Q=>t σ H fun x H1=>∃i,x=.int i/\Q (some i) H1
section
variable{X:Cx}{e:Expr}{te:TE}{lo hi:Option Expr}{tl th:TO}{pos p2:Pos}
theorem Qi:PO X none Xf:=by
 intro pins s σ H Q I h
 rw[evalPart_none]
 exact wpAny_pure ⟨none,H,I,.none,h⟩
theorem Qj(h:PE X e te):PO X (some e) (zaH te):=by
 intro pins s σ H Q I hw
 rw[evalPart_some]
 refine thn (h pins s σ H _ I hw) fun u s1 ⟨x,H1,I1,r1,q1⟩=>?_
 obtain⟨i,rfl,q⟩:=q1
 obtain⟨t,rfl⟩:=r1
 exact⟨some i,H1,I1,.int i t,q⟩
def SlR(X:Cx)(r:V->Option Int->Option Int->Hp->VK->Prop):Prop :=
 ∀(pins:List (Addr×Obj))(s:Shared)(σ:St)(H:Hp)(x:V)(v vl vu:Value)(lo hi:Option Int)(sl:Addr)(Q:VK),Inv X pins σ H s->RelV x v->s.heap.IsSliceOf sl vl vu .none->IsPart vl lo->IsPart vu hi->r x lo hi H Q ->
  ∃T id,typeLookup (.type T) "__getitem__"=pure (some (.builtin id))/\s.TypeIs v T/\wpAny (model X.prog X.w) X.A (getItem v (.ref sl)) (EP X pins σ Q) X.xe s
def tSl(r:V->Option Int->Option Int->Hp->VK->Prop)(te:TE)(tl th:TO):TE:=fun σ H Q=>te σ H fun x H1=>tl σ H1 fun l H2=>th σ H2 fun u H3=>r x l u H3 Q
theorem WN{r:V->Option Int->Option Int->Hp->VK->Prop}(hr:SlR X r)(he:PE X e te)(hl:PO X lo tl)(hu:PO X hi th):PE X (.Subscript e (.Slice lo hi none p2) pos) (tSl r te tl th):=by
 intro pins s σ H Q I h
 refine Subscript_ (thn (he pins s σ H _ I h) fun v s1 ⟨x,H1,I1,r1,q1⟩=>?_)
 refine wpAny_Slice (thn (hl pins s1 σ H1 _ I1 q1) fun vl s2 ⟨l,H2,I2,pl,q2⟩=>thn (hu pins s2 σ H2 _ I2 q2) fun vu s3 ⟨u,H3,I3,pu,q3⟩=>?_)
 rw[evalPart_none]
 refine wpAny_pure ?_
 have I4:Inv X pins σ H3 { s3 with heap:=s3.heap.push { cls:=.type "slice",data:=.fields #[vl,vu,.none] } }:=I3.kept (t':=s3.toks) fun b ob q=>ud _ q
 obtain⟨T,id,hT,ht,hg⟩:=hr pins { s3 with heap:=s3.heap.push { cls:=.type "slice",data:=.fields #[vl,vu,.none] } } σ H3 x v vl vu l u s3.heap.objs.size Q I4 r1 (Heap.IsSliceOf.new ..) pl pu q3
 show wpAny (model X.prog X.w) X.A (subscriptTail e (.Slice lo hi none p2) v (.ref s3.heap.objs.size)) (EP X pins σ Q) X.xe { s3 with heap:=s3.heap.push { cls:=.type "slice",data:=.fields #[vl,vu,.none] } }
 exact tail_any (ops:=[.ref s3.heap.objs.size,v]) ht hT hg (by with_unfolding_all rfl)
def cutV(xs:List V)(lo hi:Option Int):List V:=(xs.drop (HT.sIx xs.length 0 lo)).take (HT.sIx xs.length xs.length hi-HT.sIx xs.length 0 lo)
theorem wX(xs:List V)(lo hi:Option Int):(cutV xs lo hi).length<=xs.length:=by
 unfold cutV
 rw[uX,List.length_drop]
 lia
def rSlT(K:ub):V->Option Int->Option Int->Hp->VK->Prop:=fun x lo hi H Q=>∃a xs,x=.ref a/\SqT K H a xs /\
 ¬ (HT.sIx xs.length 0 lo=0/\HT.sIx xs.length xs.length hi=xs.length)/\∀p,H p=none->Q (.ref p) (upd H p (.tup (cutV xs lo hi)))
theorem zbA:SlR X (rSlT X.K):=by
 intro pins s σ H x v vl vu lo hi sl Q I rx hs pl pu h
 obtain⟨a,xs,rfl,hx,hw,q⟩:=h
 cases rx
 obtain⟨its,r,ht,hz⟩:=I.tuple hx
 have hlen:its.toArray.size=xs.length:=by rw[uo];exact r.length.symm
 refine⟨"tuple",_,U8.lookup,ht.typeIs,?_⟩
 refine HT.getItem_tuple_cut ht hs pl pu (by rw[hlen];exact hw) ?_ (by rw[hlen];exact hz)
 rw[hlen]
 refine⟨.ref s.heap.objs.size,_,I.laid (t':=s.toks) (o:=.tup (cutV xs lo hi)) (fun b ob q=>ud _ q) (ui _) ?_,rfl,q _ (I.hok.fresh (ui _))⟩
 exact⟨uy (wX xs lo hi) hz,_,(r.drop (HT.sIx xs.length 0 lo)).take (HT.sIx xs.length xs.length hi-HT.sIx xs.length 0 lo),IsTupN.new _ _⟩
def zaI(K:ub):R2:=fun x y H Q=>∃a b xs ys,x=.ref a/\y=.ref b/\SqT K H a xs/\SqT K H b ys/\xs≠[]/\xs.length+ys.length<=sizeLine /\
 (ys=[]->Q (.ref a) H)/\(ys≠[]->∀p,H p=none->Q (.ref p) (upd H p (.tup (xs++ys))))
theorem Vals.nil_iff{xs:List V}{us:List Value}(r:Vals xs us):us=[]↔xs=[]:=by
 cases r with
 |nil=>simp
 |cons _ _=>simp
theorem Qk:OpR X (binaryOp .Add) (zaI X.K):=by
 intro pins s σ H x y v u Q I rx ry h
 obtain⟨a,b,xs,ys,rfl,rfl,ha,hb,hx,hz,q1,q2⟩:=h
 cases rx
 cases ry
 obtain⟨its,r1,p1,_⟩:=I.tuple ha
 obtain⟨its2,r2,p2,_⟩:=I.tuple hb
 refine HT.cat_tup p1 p2 (fun z=>hx (r1.nil_iff.mp z)) (fun z=>⟨.ref a,H,I,rfl,q1 (r2.nil_iff.mp z)⟩) (fun z=>?_) (by rw[<- r1.length,<- r2.length];exact hz)
 refine⟨.ref s.heap.objs.size,_,I.laid (t':=s.toks) (o:=.tup (xs++ys)) (fun b ob q=>ud _ q) (ui _) ?_,rfl,q2 (fun w=>z (r2.nil_iff.mpr w)) _ (I.hok.fresh (ui _))⟩
 exact⟨by rw[uc];exact hz,_,r1.append r2,IsTupN.new _ _⟩
end
def ixN(n:Nat)(i:Int):Option Nat:=if 0<=i then(if i < n then some i.toNat else none)else if -(n:Int)<=i then some (i+n).toNat else none
def atI{α:Type}(xs:List α)(i:Int):Option α:=(ixN xs.length i).bind fun j=>xs[j]?
theorem Xg{n:Nat}{i:Int}{j:Nat}(h:ixN n i=some j):seqIndex? i n=some j/\j < n/\-(n:Int)<=i/\i < n:=by
 unfold ixN at h
 by_cases h0:0<=i
 ·rw[if_pos h0]at h
  by_cases h1:i < n
  ·rw[if_pos h1]at h
   have e:i.toNat=j:=UB.inj h
   exact⟨by rw[seqIndex_of h0 h1,e],by lia,by lia,h1⟩
  ·rw[if_neg h1]at h;cases h
 ·rw[if_neg h0]at h
  by_cases h1:-(n:Int)<=i
  ·rw[if_pos h1]at h
   have e:(i+n).toNat=j:=UB.inj h
   exact⟨by rw[seqIndex_neg (by lia) h1,e],by lia,h1,by lia⟩
  ·rw[if_neg h1]at h;cases h
theorem jQ{α:Type}{xs:List α}{i:Int}{v:α}(h:atI xs i=some v):∃j,seqIndex? i xs.length=some j/\xs[j]?=some v/\j < xs.length/\-(xs.length:Int)<=i/\i < xs.length:=by
 unfold atI at h
 cases e:ixN xs.length i with
 |none=>rw[e]at h;cases h
 |some j =>
  rw[e]at h
  obtain⟨h1,h2,h3,h4⟩:=Xg e
  exact⟨j,h1,h,h2,h3,h4⟩
theorem zJ{α:Type}{xs:List α}{j:Nat}{v:α}(h:xs[j]?=some v):atI xs (j:Int)=some v:=by
 have hj:j < xs.length:=(ug.mp h).1
 have e:ixN xs.length (j:Int)=some j:=by
  unfold ixN
  rw[if_pos (by lia),if_pos (by lia)];simp
 unfold atI;rw[e];exact h
theorem aI0{α:Type}{a:α}{r:List α}:atI (a::r) 0=some a:=zJ (j:=0) rfl
theorem aI1{α:Type}{a b:α}{r:List α}:atI (a::b::r) 1=some b:=zJ (j:=1) rfl
theorem aI2{α:Type}{a b c:α}{r:List α}:atI (a::b::c::r) 2=some c:=zJ (j:=2) rfl
theorem aI3{α:Type}{a b c d:α}{r:List α}:atI (a::b::c::d::r) 3=some d:=zJ (j:=3) rfl
theorem aI4{α:Type}{a b c d e:α}{r:List α}:atI (a::b::c::d::e::r) 4=some e:=zJ (j:=4) rfl
theorem aI5{α:Type}{a b c d e f:α}{r:List α}:atI (a::b::c::d::e::f::r) 5=some f:=zJ (j:=5) rfl
theorem aI6{α:Type}{a b c d e f g:α}{r:List α}:atI (a::b::c::d::e::f::g::r) 6=some g:=zJ (j:=6) rfl
def jR(b:Expr):Prop:=∀o i,subscripted b false o i=operate [o,i] (getItem o i)
def IxR(X:Cx)(r:R2):Prop :=
 ∀(value slice:Expr)(pins:List (Addr×Obj))(s:Shared)(σ:St)(H:Hp)(x y:V)(v u:Value)(Q:VK),Inv X pins σ H s->RelV x v->RelV y u->r x y H Q ->
  subscripted slice false v u=operate [v,u] (getItem v u)->wpAny (model X.prog X.w) X.A (subscriptTail value slice v u) (EP X pins σ Q) X.xe s
def MtR(X:Cx)(id:String)(r:V->List V->Hp->VK->Prop):Prop :=
 ∀(pins:List (Addr×Obj))(s:Shared)(σ:St)(H:Hp)(x:V)(xs:List V)(v:Value)(us:List Value)(Q:VK),Inv X pins σ H s->RelV x v->Vals xs us->r x xs H Q ->
  wpAny (model X.prog X.w) X.A (call (.builtin id) (v::us)) (EP X pins σ Q) X.xe s
section
variable{X:Cx}{a b:Expr}{ta tb:TE}{pos:Pos}
theorem zcB{r:R2}(hr:IxR X r)(ha:PE X a ta)(hb:PE X b tb)(hs:jR b):PE X (.Subscript a b pos) (tOp r ta tb):=by
 intro pins s σ H Q I h
 exact Subscript_ (binT ha hb I h fun v u s2 x y H2 I2 rx ry q=>hr a b pins s2 σ H2 x y v u Q I2 rx ry q (hs _ _))
def rIxL(K:ub):R2:=fun x y H Q=>∃p xs i v,x=.ref p/\y=.int i/\SqL K H p xs/\atI xs i=some v/\Q v H
def rIxT(K:ub):R2:=fun x y H Q=>∃p xs i v,x=.ref p/\y=.int i/\SqT K H p xs/\atI xs i=some v/\Q v H
def rIxS:R2:=fun x y H Q=>∃z i c,x=.str z/\y=.int i/\z.length<=sizeLine/\atI z.cps.toList i=some c/\Q (.str ⟨#[c]⟩) H
theorem Ql:IxR X (rIxL X.K):=by
 intro value slice pins s σ H x y v u Q I rx ry h hs
 obtain⟨p,xs,i,z,rfl,rfl,hq,he,q⟩:=h
 cases rx
 obtain⟨t,rfl⟩:=ry
 obtain⟨its,r,pl,hz⟩:=I.list hq
 obtain⟨j,h1,h2,h3,h4,h5⟩:=jQ he
 obtain⟨w,ew,rw'⟩:=r.get h2
 have hl:=r.length
 have hn:=vw
 have fin:EP X pins σ Q w s:=⟨z,H,I,rw',q⟩
 by_cases h0:0<=i
 ·have hj:i.toNat=j:=by
   rw[seqIndex_of h0 h5]at h1
   exact UB.inj h1
  exact item_listR pl.isList h0 (by lia) (by rw[hj];simpa using ew) fin hs
 ·have hj:(i+(its.toArray.size:Int)).toNat=j:=by
   rw[seqIndex_neg (by lia) h4]at h1
   rw[uo,<- hl]
   exact UB.inj h1
  exact subscriptTail_builtinR (x:=w) pl.isList.typeIs slot_list_getitem.lookup
   (wpAny_getItem_list_neg (Q:=fun r s'=>r=w/\EP X pins σ Q r s') pl.isList (by lia) (by rw[uo]<;>lia) (by lia) (by rw[hj];simpa using ew) ⟨rfl,fin⟩) hs
theorem zbB:IxR X (rIxT X.K):=by
 intro value slice pins s σ H x y v u Q I rx ry h hs
 obtain⟨p,xs,i,z,rfl,rfl,hq,he,q⟩:=h
 cases rx
 obtain⟨t,rfl⟩:=ry
 obtain⟨its,r,pl,hz⟩:=I.tuple hq
 obtain⟨j,h1,h2,h3,h4,h5⟩:=jQ he
 obtain⟨w,ew,rw'⟩:=r.get h2
 have hl:=r.length
 have hn:=vw
 have fin:EP X pins σ Q w s:=⟨z,H,I,rw',q⟩
 exact subscriptTail_builtinR (x:=w) pl.typeIs slot_tuple_getitem.lookup
  (getItem_tuple (j:=j) (Q:=fun r s'=>r=w/\EP X pins σ Q r s') pl (by lia) (by lia) (by rw[uo,<- hl];exact h1) (by simpa using ew) ⟨rfl,fin⟩) hs
theorem zbC:IxR X rIxS:=by
 intro value slice pins s σ H x y v u Q I rx ry h hs
 obtain⟨z,i,c,rfl,rfl,hz,he,q⟩:=h
 obtain⟨t,rfl⟩:=rx
 obtain⟨t',rfl⟩:=ry
 obtain⟨j,h1,h2,h3,h4,h5⟩:=jQ he
 have hl:z.cps.toList.length=z.length:=by simp[Str.length]
 rw[hl]at h1 h4 h5
 have hn:=vw
 exact tail_any (typeIs_str s z t) slot_str_getitem.lookup (getItem_str (c:=c) (by
  have e1:decide (i < -(2 ^ 63:Int))=false:=decide_eq_false (by lia)
  have e2:decide (i ≥ 2 ^ 63)=false:=decide_eq_false (by lia)
  rw[e1,e2,Bool.or_false]) (by rw[h1];simpa using h2) ⟨.str ⟨#[c]⟩,H,I.tok _,⟨_,rfl⟩,q⟩) hs
theorem Yr(its:List Value)(n j:Nat)(u:Value):Obj.mapSeq (·.setIfInBounds j u) { cls:=.type "list",data:=.seq its.toArray n }={ cls:=.type "list",data:=.seq (its.set j u).toArray n }:=by
 simp[Obj.mapSeq]
theorem Inv.lst{pins:List (Addr×Obj)}{σ:St}{H:Hp}{s:Shared}{p:Addr}{xs:List V}(I:Inv X pins σ H s)(h:H p=some (.lst xs)):
  ∃(its:List Value)(n:Nat),Vals xs its/\s.heap.get? p=some { cls:=.type "list",data:=.seq its.toArray n }/\xs.length<=sizeLine:=by
 obtain⟨z,its,n,r,e⟩:=I.hok p _ h
 exact⟨its,n,r,e,z⟩
theorem Inv.lstUpd{pins:List (Addr×Obj)}{σ:St}{H:Hp}{s:Shared}{p:Addr}{xs ys:List V}{its its':List Value}{n n':Nat}{f:Obj->Obj}(I:Inv X pins σ H s)(h:H p=some (.lst xs))
  (ho:s.heap.get? p=some { cls:=.type "list",data:=.seq its.toArray n }) (hf:f { cls:=.type "list",data:=.seq its.toArray n }={ cls:=.type "list",data:=.seq its'.toArray n' }) (r:Vals ys its') (hz:ys.length<=sizeLine) (t:Nat) :
  Inv X pins σ (upd H p (.lst ys)) { s with heap:=s.heap.update p f,toks:=t }:=by
 have e:(s.heap.update p f).get? p=some { cls:=.type "list",data:=.seq its'.toArray n' }:=by
  rw[uU f ho (by rw[hf]<;>rfl),hf]
 refine I.write (x:=p) (e:=p) (by rw[h];trivial) (.inl rfl) (fun b u hb q=>(uE _ _ (Ne.symm hb)).trans q) ⟨_,e⟩ ?_
 exact⟨hz,its',n',r,e⟩
def zaJ:V->V->V->Hp->(Hp->Prop)->Prop:=fun o i v H Q=>∃p xs k j,o=.ref p/\i=.int k/\H p=some (.lst xs)/\ixN xs.length k=some j/\Q (upd H p (.lst (xs.set j v)))
theorem WO:PSet X zaJ:=by
 intro pins s σ H o i v ov iv u Q I ro ri rv h
 obtain⟨p,xs,k,j,rfl,rfl,hp,hj,q⟩:=h
 cases ro
 obtain⟨t,rfl⟩:=ri
 obtain⟨its,n,r,ho,hz⟩:=I.lst hp
 obtain⟨h1,h2,h3,h4⟩:=Xg hj
 have hl:=r.length
 have hn:=vw
 have I':Inv X pins σ (upd H p (.lst (xs.set j v))) { s with heap:=s.heap.update p (Obj.mapSeq (·.setIfInBounds j u)) } :=
  I.lstUpd hp ho (Yr its n j u) (r.set rv j) (by rw[UJ];exact hz) s.toks
 by_cases h0:0<=k
 ·have hk:k.toNat=j:=by
   rw[seqIndex_of h0 h4]at h1
   exact UB.inj h1
  exact PySem.W.ki_setAt ho h0 (by lia) (by rw[uo,<- hl];exact h4) (by rw[hk];exact⟨_,I',q⟩)
 ·have hk:(k+(its.toArray.size:Int)).toNat=j:=by
   rw[seqIndex_neg (by lia) h3]at h1
   rw[uo,<- hl]
   exact UB.inj h1
  exact PySem.W.ki_setBack ho (by lia) (by rw[uo,<- hl];exact h3) (by lia) (by rw[hk];exact⟨_,I',q⟩)
theorem jU(lo hi:Option Int)(n:Nat):(sliceBounds lo hi none n).1=((HT.sIx n 0 lo:Nat):Int)/\(sliceBounds lo hi none n).2.1=((HT.sIx n n hi:Nat):Int)/\(sliceBounds lo hi none n).2.2=1:=by
 refine⟨?_,?_,rfl⟩
 ·cases lo with
  |none=>simp[sliceBounds,HT.sIx]
  |some i =>
   simp only[sliceBounds,HT.sIx,Option.getD_none,show(1:Int) > 0 by decide,if_true]
   by_cases h:i < 0
   ·simp only[h,if_true]<;>lia
   ·simp only[h,if_false]<;>lia
 ·cases hi with
  |none=>simp[sliceBounds,HT.sIx]
  |some i =>
   simp only[sliceBounds,HT.sIx,Option.getD_none,show(1:Int) > 0 by decide,if_true]
   by_cases h:i < 0
   ·simp only[h,if_true]<;>lia
   ·simp only[h,if_false]<;>lia
theorem v0(its:List Value)(lo hi:Option Int):slicePick its.toArray lo hi none=((its.drop (HT.sIx its.length 0 lo)).take (HT.sIx its.length its.length hi-HT.sIx its.length 0 lo)).toArray:=by
 obtain⟨h1,h2,h3⟩:=jU lo hi its.toArray.size
 unfold slicePick
 rw[h1,h2,h3]
 simp only[sliceRange_one,pick_run,uo]<;>rfl
def rSlL(K:ub):V->Option Int->Option Int->Hp->VK->Prop:=fun x lo hi H Q=>∃a xs,x=.ref a/\SqL K H a xs/\∀p,H p=none->Q (.ref p) (upd H p (.lst (cutV xs lo hi)))
theorem Qm:SlR X (rSlL X.K):=by
 intro pins s σ H x v vl vu lo hi sl Q I rx hs pl pu h
 obtain⟨a,xs,rfl,hx,q⟩:=h
 cases rx
 obtain⟨its,r,ht,hz⟩:=I.list hx
 have hlen:=r.length
 refine⟨"list",_,slot_list_getitem.lookup,ht.isList.typeIs,?_⟩
 refine wpAny_getItem_list_slice ht.isList hs pl pu .none (by simp) ?_ (by rw[uo]<;>lia)
 rw[v0,<- hlen]
 refine⟨.ref s.heap.objs.size,_,I.laid (t':=s.toks) (o:=.lst (cutV xs lo hi)) (fun b ob q=>ud _ q) (ui _) ?_,rfl,q _ (I.hok.fresh (ui _))⟩
 exact⟨uy (wX xs lo hi) hz,_,0,(r.drop (HT.sIx xs.length 0 lo)).take (HT.sIx xs.length xs.length hi-HT.sIx xs.length 0 lo),ut _ rfl⟩
def yp:V->Bool
 |.non=>true
 |.bl _=>true
 |.int _=>true
 |.str _=>true
 |_=>false
def eqV:V->V->Bool
 |.non,.non=>true
 |.bl a,.bl b=>a == b
 |.bl a,.int b=>(if a then 1 else 0) == b
 |.int a,.bl b=>a == (if b then 1 else 0)
 |.int a,.int b=>a == b
 |.str a,.str b=>a == b
 |_,_=>false
theorem Ys{A:Around}{s:Shared}{y x:V}{u v:Value}(ry:RelV y u)(rx:RelV x v)(fy:yp y=true)(fx:yp x=true):SeqAt.EqAt A s u v (eqV y x):=by
 cases y with
 |non =>
  cases ry
  cases x with
  |non=>cases rx;exact SeqAt.EqAt.same _
  |bl b=>cases rx;exact SeqAt.EqAt.none_bool b
  |int b=>obtain⟨t,rfl⟩:=rx;exact SeqAt.EqAt.none_int b t
  |str b=>obtain⟨t,rfl⟩:=rx;exact SeqAt.EqAt.none_str b t
  |_=>exact absurd (show false=true from fx) uw
 |bl a =>
  cases ry
  cases x with
  |non=>cases rx;exact SeqAt.EqAt.bool_none a
  |bl b=>cases rx;exact SeqAt.EqAt.bool_bool a b
  |int b=>obtain⟨t,rfl⟩:=rx;exact SeqAt.EqAt.bool_int a b t
  |str b=>obtain⟨t,rfl⟩:=rx;exact SeqAt.EqAt.bool_str a b t
  |_=>exact absurd (show false=true from fx) uw
 |int a =>
  obtain⟨t',rfl⟩:=ry
  cases x with
  |non=>cases rx;exact SeqAt.EqAt.int_none a t'
  |bl b=>cases rx;exact SeqAt.EqAt.int_bool a t' b
  |int b=>obtain⟨t,rfl⟩:=rx;exact SeqAt.EqAt.int_int a t' b t
  |str b=>obtain⟨t,rfl⟩:=rx;exact SeqAt.EqAt.int_str a t' b t
  |_=>exact absurd (show false=true from fx) uw
 |str a =>
  obtain⟨t',rfl⟩:=ry
  cases x with
  |non=>cases rx;exact SeqAt.EqAt.str_none a t'
  |bl b=>cases rx;exact SeqAt.EqAt.str_bool a t' b
  |int b=>obtain⟨t,rfl⟩:=rx;exact SeqAt.EqAt.str_int a t' b t
  |str b=>obtain⟨t,rfl⟩:=rx;exact SeqAt.EqAt.str_str a t' b t
  |_=>exact absurd (show false=true from fx) uw
 |_=>exact absurd (show false=true from fy) uw
def eqU(x:V)(u:Value):Bool:=match u with
 |.none=>eqV .non x
 |.bool b=>eqV (.bl b) x
 |.int i _=>eqV (.int i) x
 |.str z _=>eqV (.str z) x
 |_=>false
theorem WP{x y:V}{u:Value}(r:RelV y u)(f:yp y=true):eqU x u=eqV y x:=by
 cases y with
 |non=>cases r;rfl
 |bl b=>cases r;rfl
 |int i=>obtain⟨t,rfl⟩:=r;rfl
 |str z=>obtain⟨t,rfl⟩:=r;rfl
 |_=>exact absurd (show false=true from f) uw
theorem jV{x:V}:∀{xs:List V}{us:List Value},Vals xs us->xs.all yp=true->us.any (eqU x)=xs.any fun y=>eqV y x
 |_,_,.nil,_=>rfl
 |y::xs,u::us,.cons r t,f=>by
  rw[tF,UL]at f
  rw[List.any_cons,List.any_cons,WP r f.1,jV t f.2]
theorem vz{A:Around}{s:Shared}{x:V}{v:Value}(rx:RelV x v)(fx:yp x=true):∀{xs:List V}{us:List Value},Vals xs us->xs.all yp=true->∀u∈us,SeqAt.EqAt A s u v (eqU x u)
 |_,_,.nil,_=>fun u hu=>by cases hu
 |y::xs,u::us,.cons r t,f=>fun u' hu=>by
  rw[tF,UL]at f
  rcases uu.mp hu with rfl|hu
  ·rw[WP r f.1];exact Ys r rx f.1 fx
  ·exact vz rx fx t f.2 u' hu
def inV(x:V)(xs:List V):Bool:=xs.any fun y=>eqV y x
def rIn(K:ub)(neg:Bool):R2:=fun x y H Q=>∃p xs,y=.ref p/\(SqL K H p xs\/SqT K H p xs)/\yp x=true/\xs.all yp=true/\Q (.bl (if neg then !inV x xs else inV x xs)) H
theorem X2:OpR X (compareOp .In) (rIn X.K false):=by
 intro pins s σ H x y v u Q I rx ry h
 obtain⟨p,xs,rfl,hq,fx,fs,q⟩:=h
 cases ry
 rcases hq with hq|hq
 ·obtain⟨its,r,pl,hz⟩:=I.list hq
  refine SeqAt.in_listAt (eqU x) pl.isList (fun w hw=>vz rx fx r fs w (by simpa using hw)) ⟨.bl _,H,I,rfl,?_⟩
  rw[show its.toArray.any (eqU x)=its.any (eqU x) by simp,jV r fs]
  exact q
 ·obtain⟨its,r,pl,hz⟩:=I.tuple hq
  refine SeqAt.in_tupleAt (eqU x) pl (fun w hw=>vz rx fx r fs w (by simpa using hw)) ⟨.bl _,H,I,rfl,?_⟩
  rw[show its.toArray.any (eqU x)=its.any (eqU x) by simp,jV r fs]
  exact q
theorem jX:yQ X (.builtin "len") (fun xs H Q=>∃p ys,xs=[.ref p]/\(SqL X.K H p ys\/SqT X.K H p ys)/\Q (.int ys.length) H):=by
 intro pins s σ H xs us Q I r h
 obtain⟨p,ys,rfl,hq,q⟩:=h
 obtain⟨u,rfl,rx⟩:=wk r
 cases rx
 have hn:=vw
 rcases hq with hq|hq
 ·obtain⟨its,r',pl,hz⟩:=I.list hq
  have hlen:=r'.length
  exact Calls.call_len_list pl.isList (by simp only[uo]<;>lia) ⟨.int ys.length,H,I.tok _,⟨s.toks+1,by rw[uo,hlen]⟩,q⟩
 ·obtain⟨its,r',pl,hz⟩:=I.tuple hq
  have hlen:=r'.length
  exact len_tuple pl (by simp only[uo]<;>lia) ⟨.int ys.length,H,I.tok _,⟨s.toks+1,by rw[uo,hlen]⟩,q⟩
theorem jY:yQ X (.type "list") (fun xs H Q=>∃p ys,xs=[.ref p]/\(SqL X.K H p ys\/SqT X.K H p ys)/\∀l,H l=none->Q (.ref l) (upd H l (.lst ys))):=by
 intro pins s σ H xs us Q I r h
 obtain⟨p,ys,rfl,hq,q⟩:=h
 obtain⟨u,rfl,rx⟩:=wk r
 cases rx
 have fin:∀(its:List Value),Vals ys its->ys.length<=sizeLine->∀(h':Heap)(c':Nat),(∀b o',s.heap.get? b=some o'->h'.get? b=some o') ->
   h'.get? s.heap.objs.size=some { cls:=.type "list",dict:=none,data:=.seq its.toArray c',slots:=#[] }->EP X pins σ Q (.ref s.heap.objs.size) { s with heap:=h' }:=fun its r' hz h' c' kp e =>
  ⟨.ref s.heap.objs.size,_,I.laid (t':=s.toks) kp (ui _) (show ObjOk X.prog X.w _ h' _ (.lst ys)from⟨hz,its,c',r',e⟩),rfl,q _ (I.hok.fresh (ui _))⟩
 rcases hq with hq|hq
 ·obtain⟨its,r',pl,hz⟩:=I.list hq
  have hlen:=r'.length
  obtain⟨o,ho,hc,n,hd⟩:=pl.isList
  exact call_list_seq p (.inl rfl) ho hc hd (fun h' c' kp e=>fin its r' hz h' c' kp e) (by simp only[uo]<;>lia)
 ·obtain⟨its,r',pl,hz⟩:=I.tuple hq
  have hlen:=r'.length
  obtain⟨o,ho,hc,n,hd⟩:=pl
  exact call_list_seq p (.inr rfl) ho hc hd (fun h' c' kp e=>fin its r' hz h' c' kp e) (by simp only[uo]<;>lia)
theorem v6:yQ X (.type "tuple") (fun xs H Q=>∃p ys,xs=[.ref p]/\((SqL X.K H p ys/\∀l,H l=none->Q (.ref l) (upd H l (.tup ys)))\/(SqT X.K H p ys/\Q (.ref p) H))):=by
 intro pins s σ H xs us Q I r h
 obtain⟨p,ys,rfl,h⟩:=h
 obtain⟨u,rfl,rx⟩:=wk r
 cases rx
 rcases h with⟨hq,q⟩|⟨hq,q⟩
 ·obtain⟨its,r',pl,hz⟩:=I.list hq
  have hlen:=r'.length
  refine call_tuple_list pl.isList (fun h' kp=>?_) (by simp only[uo]<;>lia)
  have I1:Inv X pins σ H { s with heap:=h' }:=I.kept (t':=s.toks) kp
  have I2:Inv X pins σ (upd H h'.objs.size (.tup ys)) { s with heap:=h'.push { cls:=.type "tuple",data:=.seq its.toArray } } :=
   I1.laid (t':=s.toks) (fun b o e=>ud _ e) (ui _) (show ObjOk X.prog X.w _ _ _ (.tup ys)from⟨hz,its,r',IsTupN.new _ _⟩)
  exact⟨.ref h'.objs.size,_,I2,rfl,q _ (I1.hok.fresh (ui _))⟩
 ·obtain⟨its,r',pl,hz⟩:=I.tuple hq
  exact call_tuple_same pl ⟨.ref p,H,I,rfl,q⟩
def tyV(K:ub)(T:String)(x:V)(H:Hp):Prop:=match x with
 |.str _=>T="str"
 |.int _=>T="int"
 |.ref p=>(T="list"/\∃xs,SqL K H p xs)\/(T="tuple"/\((∃o,K.lookup p=some o/\o.cls=.type "tuple"/\o.dict=none)\/∃xs,H p=some (.tup xs))) \/
   (T="dict"/\((∃kvs,H p=some (.dK kvs))\/∃kvs,H p=some (.dT kvs)))\/(T="set"/\∃S n,H p=some (.set S n))
 |_=>False
theorem WQ{pins:List (Addr×Obj)}{σ:St}{H:Hp}{s:Shared}{T:String}{x:V}{v:Value}(I:Inv X pins σ H s)(r:RelV x v)(ty:tyV X.K T x H):
  s.TypeIs v T/\∀a,v=.ref a->∃ob,s.heap.get? a=some ob/\ob.dict=none:=by
 cases x with
 |str z =>
  obtain⟨t,rfl⟩:=r
  cases(show T="str"from ty)
  exact⟨typeIs_str s z t,fun _ e=>nomatch e⟩
 |int i =>
  obtain⟨t,rfl⟩:=r
  cases(show T="int"from ty)
  exact⟨typeIs_int s i t,fun _ e=>nomatch e⟩
 |ref p =>
  cases r
  rcases ty with⟨rfl,xs,hq⟩|⟨rfl,⟨o,hk,hc,hd⟩|⟨xs,hk⟩⟩|⟨rfl,hk⟩|⟨rfl,S,n,hk⟩
  ·obtain⟨its,_,pl,_⟩:=I.list hq
   refine⟨pl.isList.typeIs,fun a e=>?_⟩
   cases e
   obtain⟨o,n,e,c,hd,_⟩:=pl
   exact⟨o,e,hd⟩
  ·refine⟨⟨o,I.kIn p o hk,hc⟩,fun a e=>?_⟩
   cases e
   exact⟨o,I.kIn _ o hk,hd⟩
  ·obtain⟨_,_,_,o,ho,hc,hd,_⟩:=I.hok p _ hk
   refine⟨⟨o,ho,hc⟩,fun a e=>?_⟩
   cases e
   exact⟨o,ho,hd⟩
  ·have z:∃o,s.heap.get? p=some o/\o.ExactDict:=by
    rcases hk with⟨kvs,hk⟩|⟨kvs,hk⟩
    ·obtain⟨_,_,_,_,o,_,_,e,ex,_⟩:=I.hok p _ hk
     exact⟨o,e,ex⟩
    ·obtain⟨_,_,_,_,o,_,_,e,ex,_⟩:=I.hok p _ hk
     exact⟨o,e,ex⟩
   obtain⟨o,e,ex⟩:=z
   refine⟨⟨o,e,ex.1⟩,fun a e2=>?_⟩
   cases e2
   exact⟨o,e,ex.2.1⟩
  ·obtain⟨o,_,_,_,e,ex,_⟩:=I.hok p _ hk
   refine⟨⟨o,e,ex.1⟩,fun a e2=>?_⟩
   cases e2
   exact⟨o,e,ex.2.1⟩
 |_=>exact False.elim ty
def tBM0(K:ub)(T:String)(r:V->List V->Hp->VK->Prop)(to:TE):TE:=fun σ H Q=>to σ H fun x H1=>tyV K T x H1/\r x [] H1 Q
def tBM(K:ub)(T:String)(r:V->List V->Hp->VK->Prop)(to:TE)(t:TA):TE:=fun σ H Q=>to σ H fun x H1=>tyV K T x H1/\t σ H1 fun xs H2=>r x xs H2 Q
variable{o e:Expr}{es:List Expr}{to:TE}{t:TA}{name:Str}{apos cpos:Pos}{T id:String}{r:V->List V->Hp->VK->Prop}
theorem zbD(pa:PlainAttrs T)(slot:Slot T name id)(hty:typeOf (.builtin id)=pure (.type "method_descriptor"))(hm:MtR X id r)(ho:PE X o to)
  (hbase:attributeBase o name X.env (eval o X.env)=eval o X.env:=by rfl) (hline:(apos.endLine == cpos.line)=true:=by rfl):PE X (.Call (.Attribute o name apos) [] [] cpos) (tBM0 X.K T r to):=by
 intro pins s σ H Q I h
 refine wpAny_Call_method0_late hbase hline (thn (ho pins s σ H _ I h) fun v s1 ⟨x,H1,I1,r1,ty,q1⟩=>?_)
 obtain⟨h1,h2⟩:=WQ I1 r1 ty
 exact⟨T,id,pa,slot,hty,h1,h2,Calls.callWith_builtin rfl (PySem.evalArgs_none (hm pins s1 σ H1 x [] v [] Q I1 r1 .nil q1))⟩
theorem zcC(pa:PlainAttrs T)(slot:Slot T name id)(hty:typeOf (.builtin id)=pure (.type "method_descriptor"))(hm:MtR X id r)(ho:PE X o to)(ha:PA X (e::es) t)
  (hbase:attributeBase o name X.env (eval o X.env)=eval o X.env:=by rfl)
  (hfew:((backTo cpos (starEach (e::es) X.env)).all (fun x=>!x.1) && (backToKw cpos (keywordEach [] X.env)).all (fun x=>x.1.isSome)
   && decide ((e::es).length+([]:List Keyword).length+(if([]:List Keyword).isEmpty then 0 else 1) < 30))=true:=by rfl)
  (hline:(apos.endLine == cpos.line)=true:=by rfl) (hs:starEach (e::es) X.env=(false,eval e X.env)::starEach es X.env:=by rfl) (hplain:(backTo cpos (starEach es X.env)).any (·.1)=false:=by rfl) :
  PE X (.Call (.Attribute o name apos) (e::es) [] cpos) (tBM X.K T r to t):=by
 intro pins s σ H Q I h
 refine wpAny_Call_method_late hbase hfew hline rfl (thn (ho pins s σ H _ I h) fun v s1 ⟨x,H1,I1,r1,ty,q1⟩=>?_)
 obtain⟨h1,h2⟩:=WQ I1 r1 ty
 refine⟨T,id,pa,slot,hty,h1,h2,?_⟩
 have hA:=ha cpos pins s1 σ H1 _ I1 q1
 rw[hs]at hA ⊢
 refine Calls.callWith_builtin (by show(false || (backTo cpos (starEach es X.env)).any (·.1))=false;rw[hplain]<;>rfl) (Calls.evalArgs_plain ?_)
 exact thn hA fun us s2 ⟨vs,H2,I2,r2,q2⟩=>hm pins s2 σ H2 x vs v us Q I2 r1 r2 q2
end
def MtM(X:Cx)(id:String)(r:V->List V->Hp->VK->Prop):Prop :=
 ∀(pins:List (Addr×Obj))(s:Shared)(σ:St)(H:Hp)(x:V)(xs:List V)(v:Value)(us:List Value)(Q:VK),Inv X pins σ H s->RelV x v->Vals xs us->r x xs H Q ->
  wpAny (model X.prog X.w) X.A (call (.builtin id) (v::us)) (EP X pins σ Q) X.xe s
theorem Vals.one:∀{x:V}{us:List Value},Vals [x] us->∃u,us=[u]/\RelV x u
 |_,_,.cons r .nil=>⟨_,rfl,r⟩
theorem Vals.zero:∀{us:List Value},Vals [] us->us=[]
 |_,.nil=>rfl
theorem Vals.dropLast{xs:List V}{us:List Value}(h:Vals xs us):Vals xs.dropLast us.dropLast:=by
 induction h with
 |nil=>exact .nil
 |cons r t ih =>
  cases t with
  |nil=>exact .nil
  |cons q t'=>exact .cons r ih
theorem Vals.eraseIdx:∀{xs:List V}{us:List Value}(i:Nat),Vals xs us->Vals (xs.eraseIdx i) (us.eraseIdx i)
 |_,_,_,.nil=>.nil
 |_,_,0,.cons _ t=>t
 |_,_,i+1,.cons r t=>.cons r (Vals.eraseIdx i t)
theorem Yt{α:Type}(l:List α):l.eraseIdx (l.length-1)=l.dropLast:=by
 induction l with
 |nil=>rfl
 |cons a r ih =>
  cases r with
  |nil=>rfl
  |cons b r =>
   have e:(a::b::r).length-1=((b::r).length-1)+1:=by
    have h1:(a::b::r).length=r.length+2:=rfl
    have h2:(b::r).length=r.length+1:=rfl
    lia
   rw[e,List.eraseIdx_cons_succ,ih]
   all_goals rfl
theorem wK{α:Type}:∀(l:List α)(i:Nat),(l.eraseIdx i).length<=l.length
 |[],_=>ui _
 |_::_,0=>U2 _
 |_::r,i+1=>Ue (wK r i)
section
variable{X:Cx}{pins:List (Addr×Obj)}{σ:St}{H:Hp}{s:Shared}{l b:Addr}{xs ys zs:List V}
theorem Inv.lset{its its':List Value}{n:Nat}{f:Array Value->Array Value}{t':Nat}(I:Inv X pins σ H s)(hH:H l=some (.lst xs))
  (e:s.heap.get? l=some { cls:=.type "list",data:=.seq its.toArray n }) (hf:f its.toArray=its'.toArray) (hv:Vals ys its') (hz:ys.length<=sizeLine) :
  Inv X pins σ (upd H l (.lst ys)) { s with heap:=s.heap.update l (Obj.mapSeq f),toks:=t' }:=by
 have q:=PySem.IsL.update e f
 rw[hf]at q
 refine I.write (x:=l) (e:=l) (by rw[hH];exact trivial) (.inl rfl) (fun b' u hb hu=>(uE s.heap (Obj.mapSeq f) (Ne.symm hb)).trans hu) ⟨_,q⟩ ?_
 exact⟨hz,its',_,hv,q⟩
theorem Inv.lnew{its:List Value}{t':Nat}(I:Inv X pins σ H s)(hv:Vals ys its)(hz:ys.length<=sizeLine):
  Inv X pins σ (upd H s.heap.objs.size (.lst ys)) { s with heap:=s.heap.push { cls:=.type "list",data:=.seq its.toArray },toks:=t' } :=
 I.laid (fun _ _ q=>ud _ q) (ui _) ⟨hz,its,0,hv,ut _ rfl⟩
theorem Inv.fresh(I:Inv X pins σ H s):H s.heap.objs.size=none:=I.hok.fresh (ui _)
theorem Inv.lstM(I:Inv X pins σ H s)(hH:H l=some (.lst xs)):xs.length<=sizeLine/\∃(its:List Value)(n:Nat),Vals xs its/\xs.length=its.length/\s.heap.get? l=some { cls:=.type "list",data:=.seq its.toArray n }:=by
 obtain⟨z,its,n,r,e⟩:=I.hok l _ hH
 exact⟨z,its,n,r,r.length,e⟩
theorem WR{n:Nat}(h:n<=sizeLine):Builtin.List.listTooLong n=false:=by
 unfold Builtin.List.listTooLong
 exact decide_eq_false (by lia)
end
section
variable{X:Cx}
def Xh:V->List V->Hp->VK->Prop:=fun x vs H Q=>∃l xs y,x=.ref l/\vs=[y]/\H l=some (.lst xs)/\xs.length < sizeLine/\Q .non (upd H l (.lst (xs++[y])))
theorem X3:MtM X "list.append" Xh:=by
 intro pins s σ H x vs v us Q I rx rv h
 obtain⟨l,xs,y,rfl,rfl,hH,hz,q⟩:=h
 cases rx
 obtain⟨u,rfl,ru⟩:=rv.one
 obtain⟨z,its,n,r,hl,e⟩:=I.lstM hH
 refine call_meets F.slot_list_append ⟨_,e,rfl⟩ F.entry_list_append (F.args_list_append_2 _ _) (PySem.list_append l its.toArray n u (by rw[uo];lia)) ⟨e,?_⟩
 refine⟨.non,_,I.lset (its':=its++[u]) hH e (by simp) (r.append (.cons ru .nil)) ?_,rfl,q⟩
 rw[uc,UK]
 lia
def Xi:V->List V->Hp->VK->Prop:=fun x vs H Q=>∃l b xs zs,x=.ref l/\vs=[.ref b]/\H l=some (.lst xs)/\H b=some (.lst zs)/\xs.length+zs.length<=sizeLine/\Q .non (upd H l (.lst (xs++zs)))
theorem X4:MtM X "list.extend" Xi:=by
 intro pins s σ H x vs v us Q I rx rv h
 obtain⟨l,b,xs,zs,rfl,rfl,hH,hB,hz,q⟩:=h
 cases rx
 obtain⟨u,rfl,ru⟩:=rv.one
 cases ru
 obtain⟨z,its,n,r,hl,e⟩:=I.lstM hH
 obtain⟨z2,its2,n2,r2,hl2,e2⟩:=I.lstM hB
 have hsz:its.toArray.size+its2.toArray.size<=sizeLine:=by rw[uo,uo];lia
 have hlong:¬ (!its.toArray.isEmpty && Builtin.List.listTooLong (its.toArray.size+its2.toArray.size))=true:=by
  rw[WR hsz,tf]
  exact uw
 refine call_meets F.slot_list_extend ⟨_,e,rfl⟩ F.entry_list_extend (F.args_list_extend_2 _ _)
  (AutoSeq1.list_extend_list_list_0 l its.toArray n b its2.toArray n2 hlong (by rw[uo];lia) (by lia)) ⟨e,e2,?_⟩
 refine⟨.non,_,I.lset (its':=its++its2) hH e (by simp) (r.append r2) ?_,rfl,q⟩
 rw[uc]
 lia
def rPop:V->List V->Hp->VK->Prop:=fun x vs H Q=>∃l xs y,x=.ref l/\vs=[]/\H l=some (.lst xs)/\xs[xs.length-1]?=some y/\Q y (upd H l (.lst xs.dropLast))
theorem zbE:MtM X "list.pop" rPop:=by
 intro pins s σ H x vs v us Q I rx rv h
 obtain⟨l,xs,y,rfl,rfl,hH,hy,q⟩:=h
 cases rx
 have hus:=rv.zero
 subst hus
 obtain⟨z,its,n,r,hl,e⟩:=I.lstM hH
 obtain⟨u,hu,ru⟩:=r.get hy
 have hy':its.toArray[its.toArray.size-1]?=some u:=by
  show its.toArray[its.length-1]?=some u
  rw[<- Array.getElem?_toList,<- hl]
  exact hu
 refine call_meets F.slot_list_pop ⟨_,e,rfl⟩ F.entry_list_pop (F.args_list_pop_1 _) (MeetsSeq.list_pop_last l its.toArray n u hy' (by rw[uo];lia)) ⟨e,?_⟩
 refine⟨y,_,I.lset (its':=its.dropLast) hH e ?_ r.dropLast ?_,ru,q⟩
 ·show its.toArray.eraseIdxIfInBounds (its.toArray.size-1)=its.dropLast.toArray
  rw[uo,U9,Yt]
 ·rw[List.length_dropLast]
  lia
def WS:V->List V->Hp->VK->Prop:=fun x vs H Q=>∃l xs i k y,x=.ref l/\vs=[.int i]/\H l=some (.lst xs)/\-(2 ^ 63)<=i/\i < 2 ^ 63/\seqIndex? i xs.length=some k/\xs[k]?=some y/\Q y (upd H l (.lst (xs.eraseIdx k)))
theorem WT:MtM X "list.pop" WS:=by
 intro pins s σ H x vs v us Q I rx rv h
 obtain⟨l,xs,i,k,y,rfl,rfl,hH,h1,h2,hk,hy,q⟩:=h
 cases rx
 obtain⟨u,rfl,ru⟩:=rv.one
 obtain⟨t,rfl⟩:=ru
 obtain⟨z,its,n,r,hl,e⟩:=I.lstM hH
 obtain⟨w,hw,rw'⟩:=r.get hy
 refine call_meets F.slot_list_pop ⟨_,e,rfl⟩ F.entry_list_pop (F.args_list_pop_2 _ _)
  (MeetsSeq.list_pop_at l its.toArray n i t k w (fitsIndex_both h1 h2) (by rw[uo,<- hl];exact hk) (by rw[<- Array.getElem?_toList];exact hw) (by rw[uo];lia)) ⟨e,?_⟩
 refine⟨y,_,I.lset (its':=its.eraseIdx k) hH e ?_ (r.eraseIdx k) ?_,rw',q⟩
 ·show its.toArray.eraseIdxIfInBounds k=(its.eraseIdx k).toArray
  rw[U9]
 ·have:=wK xs k
  lia
def rCat:R2:=fun x y H Q=>∃l b xs zs,x=.ref l/\y=.ref b/\H l=some (.lst xs)/\H b=some (.lst zs)/\xs.length+zs.length<=sizeLine/\∀p,H p=none->Q (.ref p) (upd H p (.lst (xs++zs)))
theorem zbF:OpR X (binaryOp .Add) rCat:=by
 intro pins s σ H x y v u Q I rx ry h
 obtain⟨l,b,xs,zs,rfl,rfl,hH,hB,hz,q⟩:=h
 cases rx
 cases ry
 obtain⟨z,its,n,r,hl,e⟩:=I.lstM hH
 obtain⟨z2,its2,n2,r2,hl2,e2⟩:=I.lstM hB
 refine PySem.P.add_list e e2 ?_ (by rw[uo,uo];lia)
 have ea:its.toArray++its2.toArray=(its++its2).toArray:=by simp
 rw[ea]
 exact⟨.ref _,_,I.lnew (t':=s.toks) (r.append r2) (by rw[uc];lia),rfl,q _ I.fresh⟩
end
section
variable{prog:Program}{w:World}{A:Around}{E:Value->Shared->Prop}{s:Shared}
end
section
variable{X:Cx}
end
end L2
namespace Att
open PySem PySem.W PySem.Calls PyProof.Rows
theorem vi{P:Params}{h:Heap}:∀(ns:List Int)(vs:List Value),WellAll P h vs (ns.map WData.int)->IntsAre vs ns:=by
 intro ns
 induction ns with
 |nil =>
  intro vs w
  rw[List.map_nil]at w
  cases w
  exact .nil
 |cons n ns ih =>
  intro vs w
  rw[uY]at w
  cases w with
  |cons a b =>
   cases a
   exact .cons _ _ (ih _ b)
theorem X5{l:OpenLaw}{n:Nat}(hn:l.most=some n){P:Params}{h:Heap}{args:List WData}{vals:List Value}
  (hpre:l.row.toRowW.claim.pre args=true) (hwl:WellAll P h vals args) :
  ∃a vs ns,vals=[Value.ref a]/\args=[WData.list (ns.map WData.int)]/\h.get? a=some { cls:=.type "list",data:=.seq vs.toArray }/\IntsAre vs ns/\ns.length<=n:=by
 have hsh:WShape.hasAll [] args [.list .int]=true:=(pre_splitW hpre).1
 have hc:l.pre.holds [] { args:=args }=true:=(pre_splitW hpre).2
 obtain⟨d,r,rfl,h1,h2⟩:=hasAllW_cons hsh
 obtain rfl:=hasAllW_nil h2
 obtain⟨xs,rfl,h3⟩:=hasW_list h1
 obtain⟨ns,rfl⟩:=items_int h3
 have hlen:ns.length<=n:=by
  unfold OpenLaw.pre at hc
  have h4:(WTm.not (.lt (.lit (.int (n:Int))) (.len (.arg 0)))).holds [] { args:=[.list (ns.map .int)] }=true:=by
   have h4:=(holds_andW hc).1
   rw[hn]at h4
   exact h4
  have h5:=condW_of h4 (w_not (w_lt w_lit (w_len_list (w_arg rfl))))
  rw[ua]at h5
  refine Nat.le_of_not_lt fun q=>?_
  have q':(n:Int) < ((ns.length:Nat):Int):=by lia
  first
   | (rw[decide_eq_true q']at h5;exact absurd h5 (by decide))
   | (simp at h5;lia)
 cases hwl with
 |cons w1 w2 =>
  cases w2
  cases w1 with
  |list ho hall=>exact⟨_,_,ns,rfl,rfl,ho,vi ns _ hall,hlen⟩
theorem X6(l:OpenLaw)(args:List WData):l.row.toRowW.claim.post args (.bool true) args=true :=
 postW_of (r:=l.row.toRowW) (X:=(true == true))
  (show WShape.has [] (.bool true) .bool=true by first|rfl|decide|simp[WShape.has,WShape.arms,WShape.armsAll])
  (show(WTm.eq .res (.lit (.bool true))).value [] { args:=args,res:=some (.bool true),after:=args }=some (.bool (true == true))from w_eq_bool (w_res rfl) w_lit) rfl
theorem attach_call{l:OpenLaw}{n:Nat}{q:Program}{loose:List Str}{XP:(Str->Option Value)->Heap->Prop}{YP:World->Heap->Prop}{d:DefRec}
  (hn:l.most=some n) (hdf:d.params.defaults=[])
  (call:∀(w:World)(s₀ s₁:Shared)(mg mb:Str->Option Value)(fa:Addr)(o:Obj)(pm cd doc:Value)(a:Addr)(vs:List Value)(ns:List Int),
   Ground q loose [] XP w s₀ mg mb s₁.heap->YP w s₁.heap ->
   s₁.heap.get? fa=some o->o.data=.func (docDef d.name d.params d.body d.scope pm cd doc)->s₁.heap.CodeRec cd d.name->mg d.name=some (.ref fa) ->
   s₁.heap.get? a=some { cls:=.type "list",data:=.seq vs.toArray }->IntsAre vs ns->ns.length<=n->s₁.gens=#[] ->
   codeAny (model l.prog w) callerA (.call (.ref fa) ⟨[.ref a],[]⟩) (fun r s'=>r=.ok (.ret (.bool true))/\OldK s₁.heap s'.heap/\s'.os=s₁.os/\AllBare s'.gens) s₁) :
  WalkO q loose XP YP l.row.toRowW d [] (fun f vs=>PySem.call f vs):=by
 intro w s₀ s₁ mg mb G Y fa o pm cd doc dV kV ho hd hcd hD hmg hg args vals as hpre hlay hrd hwl hlo
 obtain rfl:dV=.none:=Dflts.none hD hdf
 obtain rfl:kV=.none:=Dflts.noKw hD
 obtain⟨a,vs,ns,rfl,rfl,hobj,hints,hlen⟩:=X5 hn hpre hwl
 refine enter_call (codeAny_mono (call w s₀ s₁ mg mb fa o pm cd doc a vs ns G Y ho (fd_plain hd) hcd hmg hobj hints hlen hg) fun r s' hq=>?_)
 obtain⟨rfl,h2,h3,h4⟩:=hq
 exact⟨.inl ⟨.bool true,.bool true,[],rfl,fun _=>rfl,.bool true,X6 l _,fun _=>⟨List.Pairwise.nil,fun _ hm=>(nomatch hm)⟩⟩,h2,h3,h4⟩
section
variable{prog:Program}{w:World}{A:Around}{E:Value->Shared->Prop}{s:Shared}{K:Frag}
def zc1(h:Heap)(L d:Addr):List (Addr×Obj):=(uT h.objs.size).filterMap fun a=>if a=L\/a=d then none else(h.get? a).map fun o=>(a,o)
end
end Att
namespace L2
open PySem PySem.Spec PyProof.Rows
theorem jm:∀{vs:List Value}{ns:List Int},IntsAre vs ns->Vals (ns.map V.int) vs
 |_,_,.nil=>.nil
 |_,_,.cons n t h=>.cons ⟨t,rfl⟩ (jm h)
def Only(H:Hp):Prop:=∀b,H b=none\/∃o xs,H b=some (.frz o (.lst xs))
theorem WU{P:Program}{w:World}{K:ub}{mg mb:Str->Option Value}{CX:CXT}{k:Nat}{fa a:Addr}{fd:FuncData}{x:Str}{sp:Sp}{s₁:Shared}{vs:List Value}{ns:List Int}
  (KX:K.In s₁.heap) (hns:s₁.heap.Ns mainGlobals mg) (hb:s₁.heap.Ns builtinsNs mb) (hbb:∀x:Str,x≠"__name__"->mb x=bootBuiltins x) (hlim:s₁.heap.NoLimit) (hg:s₁.gens=#[])
  (ha:s₁.heap.get? a=some { cls:=.type "list",data:=.seq vs.toArray }) (hi:IntsAre vs ns) (hl:ns.length<=sizeLine) (hr:Room k callerA)
  (F:∀base:Heap,K.In base->base.Ns mainGlobals mg->FnOk P w K mg base CX k fa fd [x] sp) (hbind:∀(s:Shared)(u:Value),BindsTo s fd ⟨[u],[]⟩ [(x,u)])
  (hsp:∀H:Hp,Only H->SqL K H a (ns.map V.int)->sp [.ref a] H (fun v _=>v=.bl true) fun _ _ _=>False)
  (hCX:∀H e s',CX [] H s₁ (fun _ _ _=>False) e s'->False) :
  codeAny (model P w) callerA (.call (.ref fa) ⟨[.ref a],[]⟩) (fun r s'=>r=.ok (.ret (.bool true))/\OldK s₁.heap s'.heap/\s'.os=s₁.os/\AllBare s'.gens) s₁:=by
 have rv:=jm hi
 have lenV:=hi.length
 have core:∀H:Hp,Only H->SqL K H a (ns.map V.int)->HOk P w H s₁.heap->(∀b,H b≠none->b=a)->(H a≠none->K.lookup a=none) ->
   codeAny (model P w) callerA (.call (.ref fa) ⟨[.ref a],[]⟩) (fun r s'=>r=.ok (.ret (.bool true))/\OldK s₁.heap s'.heap/\s'.os=s₁.os/\AllBare s'.gens) s₁:=by
  intro H hO hS hok hA hK
  have base_of:∀{b:Addr}{o:Obj},s₁.heap.get? b=some o->H b=none->(hidT s₁.heap H).get? b=some o:=fun e n=>Wx e n
  have noA:∀{b:Addr}{o:Obj}{es:Array DictEntry}{ep:Nat},s₁.heap.get? b=some o->o.data=.dict es ep->H b=none:=fun{b o es ep} e d=>by
   cases q:H b with
   |none=>rfl
   |some u =>
    have e':b=a:=hA b (by rw[q];simp)
    subst e'
    rw[ha]at e;cases e
    have d':Data.seq vs.toArray _=Data.dict es ep:=d
    cases d'
  have nsK:∀{b:Addr}{m:Str->Option Value},s₁.heap.Ns b m->(hidT s₁.heap H).Ns b m:=fun{b m}⟨o,es,ep,e,d,r⟩=>⟨o,es,ep,base_of e (noA e d),d,r⟩
  have hKb:K.In (hidT s₁.heap H):=fun b o e=>base_of (KX b o e) (by
   cases q:H b with
   |none=>rfl
   |some u =>
    have e':b=a:=hA b (by rw[q];simp)
    subst e'
    rw[hK (by rw[q];simp)]at e;cases e)
  have hM:Mod K mg (hidT s₁.heap H):=⟨hKb,nsK hns,⟨mb,nsK hb,hbb⟩,let ⟨mc,h1,h2⟩:=hlim;⟨mc,nsK h1,h2⟩⟩
  have e0:Env0 P w K mg (hidT s₁.heap H) callerA [] s₁ H:=⟨rfl,hM,fun b o e=>JV e,Nat.le_of_eq (XU _ _),trivial,fun b hb=>absurd (show b∈([]:List Addr)from hb) (by simp),hok,.of_eq hg⟩
  refine codeAny_mono ((F _ hKb (nsK hns)).run callerA [] s₁ H ⟨[.ref a],[]⟩ [.ref a] [.ref a] _ _ hr e0 (hbind s₁ (.ref a)) (.cons rfl .nil) (hsp H hO hS)) fun r s' h=>?_
  cases r with
  |error e=>exact(hCX H e s' h).elim
  |ok fl =>
   cases fl with
   |next=>exact False.elim h
   |brk=>exact False.elim h
   |cont=>exact False.elim h
   |ret u =>
    obtain⟨v,H',os,bare,un,hok',r',q⟩:=h
    have q':v=.bl true:=q
    subst q'
    obtain rfl:u=Value.bool true:=r'
    refine⟨rfl,OldK.of_keep fun b o e=>?_,os,bare⟩
    cases q:H b with
    |none=>exact un.keep b o e q (by intro z;exact absurd (show b∈([]:List Addr)from z) (by simp)) (by simp)
    |some u =>
     rcases hO b with z|⟨ob,xs,z⟩
     ·rw[q]at z;cases z
     ·have z2:=un.frzs b ob _ z
      obtain⟨e1,_⟩:=hok b _ z
      obtain⟨e2,_⟩:=hok' b _ z2
      rw[e]at e1;cases e1
      exact e2
 cases hk:K.lookup a with
 |some o =>
  have e:=KX a o hk
  rw[ha]at e
  cases e
  refine core (fun _=>none) (fun _=>.inl rfl) (.inr ⟨_,vs.toArray,_,hk,rfl,rfl,rfl,by rw[uo,lenV];exact hl,by simpa using rv⟩) (fun b u z=>by have z':(none:Option HO)=some u:=z;cases z') (fun b z=>absurd rfl z) fun z=>absurd rfl z
 |none =>
  refine core (fun b=>if b=a then some (.frz { cls:=.type "list",data:=.seq vs.toArray } (.lst (ns.map V.int)))else none) (fun b=>?_) (.inl (.inr ⟨{ cls:=.type "list",data:=.seq vs.toArray },if_pos rfl⟩)) (fun b u z=>?_) (fun b z=>?_) fun _=>hk
  ·by_cases hb:b=a
   ·exact .inr ⟨_,_,if_pos hb⟩
   ·exact .inl (if_neg hb)
  ·by_cases hb:b=a
   ·have z':=(if_pos hb).symm.trans z
    cases z'
    subst hb
    exact⟨ha,by rw[ua];exact hl,vs,_,rv,ha⟩
   ·have z':=(if_neg hb).symm.trans z
    cases z'
  ·by_cases hb:b=a
   ·exact hb
   ·exact absurd (if_neg hb) z
theorem walk_of{l:PySem.W.OpenLaw}{n k:Nat}{q:Program}{loose:List Str}{XP:(Str->Option Value)->Heap->Prop}{YP:World->Heap->Prop}{d:DefRec}{K:Params->ub}{CX:World->CXT}{sp:World->Sp}{x:Str}
  (hn:l.most=some n) (hn2:n<=sizeLine) (hdf:d.params.defaults=[]) (hr:Room k callerA)
  (hY:∀(w:World)(h:Heap),YP w h->(K w.params).In h)
  (F:∀(w:World)(mg:Str->Option Value)(fa:Addr)(h:Heap),(K w.params).In h->h.Ns mainGlobals mg->mg d.name=some (.ref fa) ->
   ∃fd:FuncData,(∀(s:Shared)(u:Value),BindsTo s fd ⟨[u],[]⟩ [(x,u)]) /\
    ∀base:Heap,(K w.params).In base->base.Ns mainGlobals mg->FnOk l.prog w (K w.params) mg base (CX w) k fa fd [x] (sp w))
  (hsp:∀(w:World)(H:Hp)(a:Addr)(ns:List Int),ns.length<=n->Only H->SqL (K w.params) H a (ns.map V.int)->sp w [.ref a] H (fun v _=>v=.bl true) fun _ _ _=>False)
  (hCX:∀(w:World)(H:Hp)(s:Shared)(e:Value)(s':Shared),CX w [] H s (fun _ _ _=>False) e s'->False) :
  PySem.W.WalkO q loose XP YP l.row.toRowW d [] (fun f vs=>PySem.call f vs):=by
 refine Att.attach_call hn hdf fun w s₀ s₁ mg mb fa o pm cd doc a vs ns G Y ho hd hcd hmg hobj hints hlen hg=>?_
 have KX:=hY w _ Y
 obtain⟨fd,hb,hF⟩:=F w mg fa _ KX G.T.g hmg
 exact WU KX G.T.g G.T.b G.T.builtins G.T.nolimit hg hobj hints (uy hlen hn2) hr hF hb (fun H hO hS=>hsp w H a ns hlen hO hS) fun H e s'=>hCX w H s₁ e s'
end L2
/- THE LAST THEOREM (shape; LID, My.* are yours):
   My.Adr: a structure of the addresses that your layer names (classes,functions);My.Txt K t: a structure (Prop) of the equations over K;
   My.txt_mk:{K} {implicit addresses ..} (e1:nsIn K mainGlobals "law"=some (some (.ref f))) (e2:K.lookup f=some ⟨oc,od,.func (fnOf "law" "law" params body scope dV kV doc pm an cdv ct),sl⟩) (e3:codeIn K cdv "law"=true) ..:∃t,My.Txt K t
set_option maxRecDepth 100000 in
set_option maxHeartbeats 0 in
theorem PySem.Challenge.cw_LID_holds : PySem.Challenge.rw_LID.Holds := by
 w_on;o_law;k_head;(case hw=>w_witness2)
 k_fill
 refine L2.walk_of (l:=PySem.Challenge.rw_LID) (n:=63) (k:=40) (x:="script") (CX:=fun w=>..) (sp:=fun _=>My.sp_law) rfl (by decide) rfl ⟨rfl,by decide,by decide⟩ (fun w h Y=>PySem.W.kIn_of Y) ?F ?S ?C
 case F =>
  intro w mg fa h KX G hmg
  have T:∃t,My.Txt (L2.KOf KX) t:=by
   dsimp only [L2.KOf]                          -- K must stand as «<heap const> w.params» for k_is
   refine' My.txt_mk ?e1 ?e2 ?e3 ..
   (case e1 => PySem.W.k_is)                    -- in the order: a name -> its address -> its object -> its parts
   (case e2=>PySem.W.k_is)
   ..
  obtain⟨t,T⟩:=T
  have e0:=hmg.symm.trans (Uk KX G T.law)
  cases e0                                       -- fa is the law's own address
  exact ⟨_, fun s u => .of_eq rfl, fun base kb nb => My.law_fn T kb nb⟩     -- if «.of_eq rfl» comes too early: refine' ⟨_, ?b, fun base kb nb => My.law_fn T kb nb⟩; exact fun s u => .of_eq rfl
 case S=>exact fun w H a ns hl hO hS=>..
 case C=>exact ..
(the tactic k_is has no namespace: write k_is) -/
namespace L2
open PySem PySem.Spec PyProof.Rows
def xf(s:Stmt)(j:Nat):Stmt:=match s with
 |.ClassDef _ _ _ body _ _ _ _ _ _ _=>body.getD j (.Pass ⟨0,0,0,0⟩)
 |_=>.Pass ⟨0,0,0,0⟩
def yr(s:Stmt):Arguments:=match s with
 |.FunctionDef _ a _ _ _ _ _ _ _ _=>a
 |_=>{ posonlyargs:=[],args:=[],vararg:=none,kwonlyargs:=[],kw_defaults:=[],kwarg:=none,defaults:=[] }
def z9(s:Stmt):List Stmt:=match s with
 |.FunctionDef _ _ b _ _ _ _ _ _ _=>b
 |_=>[]
def zn(s:Stmt):Scope:=match s with
 |.FunctionDef _ _ _ _ _ _ sc _ _ _=>sc
 |_=>{ kind:=.function,names:=[],isGenerator:=false,isCoroutine:=false }
abbrev CX0:CXT:=fun _ _ _ _ _ _=>False
abbrev E0:XK:=fun _ _ _=>False
theorem WV{X:Cx}:yG CX0 X E0:=fun _ _ _ _ _ _ _ h=>h.elim
structure Fun(K:ub)(x qual:Str)(st:Stmt)(f:Addr)(fd:FuncData):Prop where
 ex:∃(oc:Value)(od:Option Addr)(kV doc pm:Value)(an:Option Addr)(cdv ct:Value)(osl:Array (Option Value)),
  fd=Uw x qual (yr st) (z9 st) (zn st) .none kV doc pm an cdv ct/\K.lookup f=some ⟨oc,od,.func fd,osl⟩/\tI K cdv qual=true
 kp:Ud K (.ref f)=true
section
variable{P:Program}{w:World}{K:ub}{mg:Str->Option Value}{base:Heap}
theorem Fun.ok{x qual:Str}{st:Stmt}{f:Addr}{fd:FuncData}{N ps:List Str}{k:Nat}{sp:Sp}(F:Fun K x qual st f fd)(S:FnScope N ps (zn st))(len:∀vs H Q E,sp vs H Q E->vs.length=ps.length)
  (hbody:∀(cdv:Value)(A:Around)(outer:List Env)(s:Shared)(H:Hp)(vs:List V)(Q:VK)(E:XK),Room k (A.deeper (envOfC qual (zn st) s.heap.objs.size f cdv))->sp vs H Q E ->
   ∃t,PSs (cxOf CX0 P w K mg base N qual (zn st) f cdv A outer s H E).nox (z9 st) t/\t { nx:=fun _ H'=>Q .non H',rt:=Q } (yU N vs) H):FnOk P w K mg base CX0 (k+1) f fd ps sp:=by
 obtain⟨oc,od,kV,doc,pm,an,cdv,ct,osl,rfl,lk,hcd⟩:=F.ex
 refine zaG lk hcd S len fun A outer s H vs Q E hr hsp=>?_
 obtain⟨t,h,q⟩:=hbody cdv A outer s H vs Q E hr hsp
 exact⟨t,h.nox,q⟩
theorem Fun.binds{x qual:Str}{st:Stmt}{f:Addr}{fd:FuncData}{ps:List Str}(F:Fun K x qual st f fd)
  (h:∀(kV doc pm:Value)(an:Option Addr)(cdv ct:Value)(us:List Value),us.length=ps.length->bindArgs (Uw x qual (yr st) (z9 st) (zn st) .none kV doc pm an cdv ct) ⟨us,[]⟩=pure (ps.zip us)):Binds K fd ps []:=by
 obtain⟨oc,od,kV,doc,pm,an,cdv,ct,osl,rfl,lk,hcd⟩:=F.ex
 exact .all (h kV doc pm an cdv ct)
theorem WW{x qual:Str}{st:Stmt}{f:Addr}{oc:Value}{od an:Option Addr}{osl:Array (Option Value)}{kV doc pm cdv ct:Value}(l:K.lookup f=some ⟨oc,od,.func (Uw x qual (yr st) (z9 st) (zn st) .none kV doc pm an cdv ct),osl⟩)
  (c:tI K cdv qual=true) (k:Ud K (.ref f)=true):Fun K x qual st f (Uw x qual (yr st) (z9 st) (zn st) .none kV doc pm an cdv ct):=⟨⟨oc,od,kV,doc,pm,an,cdv,ct,osl,rfl,l,c⟩,k⟩
end
theorem Xj{A:Around}{k:Nat}(hr:Room k A):A.units+1 < cLine:=Nat.lt_of_le_of_lt (Nat.add_le_add_left (by decide:1<=64) _) hr.units
section
variable{X:Cx}
theorem pv(i:Nat){x:Str}{pos:Pos}(hN:X.N[i]?=some x:=by rfl)(hv:Vis X.env.scope x:=by first|exact Or.inl rfl|exact Or.inr (Or.inl rfl)|exact Or.inr (Or.inr rfl))(hd:(x == ("__debug__":Str))=false:=by decide)
  (hcd:(x == ("__classdict__":Str))=false:=by decide):PE X (.Name x pos) (tVar i):=za9 hN hv hd hcd
end
theorem iteF{A B:Prop}(h:B):if false=true then A else B:=by
 rw[if_neg uw]
 exact h
theorem iteT{A B:Prop}(h:A):if true=true then A else B:=by
 rw[if_pos rfl]
 exact h
theorem ite2{c A B:Prop}[Decidable c](h1:c->A)(h2:¬ c->B):if c then A else B:=by
 by_cases h:c
 ·rw[if_pos h]
  exact h1 h
 ·rw[if_neg h]
  exact h2 h
def Same(H H':Hp):Prop:=∀b o,H b=some o->H' b=some o
theorem Same.refl(H:Hp):Same H H:=fun _ _ h=>h
theorem Same.trans{H H1 H2:Hp}(a:Same H H1)(b:Same H1 H2):Same H H2:=fun c o h=>b c o (a c o h)
theorem Same.free{H H':Hp}(e:Same H H'){l:Addr}(h:H' l=Option.none):H l=Option.none:=by
 cases q:H l with
 |none=>rfl
 |some o =>
  rw[e l o q]at h
  cases h
theorem Same.seq{K:ub}{H H':Hp}{a:Addr}{xs:List V}(e:Same H H')(h:SqL K H a xs):SqL K H' a xs:=by
 rcases h with(h|⟨o,h⟩)|h
 ·exact .inl (.inl (e _ _ h))
 ·exact .inl (.inr ⟨o,e _ _ h⟩)
 ·exact .inr h
def AllIn(env:Env):List (Str×Addr)->Prop
 |[]=>True
 |p::r=>env.cells.lookup p.1=some p.2/\AllIn env r
theorem AllIn.get{env:Env}:∀{cl:List (Str×Addr)}{y:Str}{c:Addr},AllIn env cl->cl.lookup y=some c->env.cells.lookup y=some c
 |[],_,_,_,h=>by simp at h
 | (n,a)::r,y,c,⟨e,t⟩,h=>by
  rw[Ux]at h
  by_cases q:y=n
  ·subst q
   rw[beq_self_eq_true]at h
   cases h
   exact e
  ·have q':(y == n)=false:=beq_eq_false_iff_ne.mpr q
   rw[q']at h
   exact AllIn.get t h
def xC:List Nat->St->St
 |[],σ=>σ
 |i::S,σ=>xC S (σ.set i none)
theorem xU:∀(S:List Nat)(σ:St),(xC S σ).length=σ.length
 |[],_=>rfl
 |i::S,σ=>by rw[xC,xU S,UJ]
theorem jn:∀(S:List Nat)(σ:St){j:Nat}{v:V},(xC S σ)[j]?=some (some v)->σ[j]?=some (some v)/\j∉S
 |[],_,_,_,h=>⟨h,by simp⟩
 |i::S,σ,j,v,h=>by
  obtain⟨h1,h2⟩:=jn S (σ.set i none) h
  rw[List.getElem?_set]at h1
  by_cases e:i=j
  ·rw[if_pos e]at h1
   split at h1<;>cases h1
  ·rw[if_neg e]at h1
   exact⟨h1,fun z=>(uu.mp z).elim (fun z=>e z.symm) h2⟩
structure LcOk(X:Cx)(scope:Scope)(cl:List (Str×Addr))(S:List Nat):Prop where
 clos:closureFor scope X.env=pure cl
 kind:scope.kind=.function
 noC:scope.names.all (fun y=>y.2 != .cell)=true
 loc:scope.names.all (fun y=>y.2 != .local || scope.names.lookup y.1 == some .local)=true
 own:X.N.zipIdx.all (fun y=>S.contains y.2 || scope.names.lookup y.1 != some .local)=true
 sub:AllIn X.env cl
 has:scope.names.all (fun p=>p.2 != .free || ((cl.lookup p.1).isSome && (X.env.kindOf p.1 == some .cell || X.env.kindOf p.1 == some .free)))=true
section
variable{X:Cx}{scope:Scope}{cl:List (Str×Addr)}{S:List Nat}
theorem LcOk.nocell(L:LcOk X scope cl S):∀y∈scope.names,y.2≠.cell:=fun y hy=>by
 have h:=u9.mp L.noC y hy
 exact bne_iff_ne.mp h
theorem LcOk.locs(L:LcOk X scope cl S):∀y∈scope.names,y.2=.local->scope.names.lookup y.1=some .local:=fun y hy e=>by
 have h:=u9.mp L.loc y hy
 rw[e]at h
 simpa using h
theorem LcOk.apart(L:LcOk X scope cl S):∀(i:Nat)(y:Str),X.N[i]?=some y->i∉S->scope.names.lookup y≠some .local:=fun i y hy hi=>by
 have h:=u9.mp L.own (y,i) (List.mem_zipIdx_iff_getElem?.mpr hy)
 have hc:S.contains i=false:=by simpa using hi
 rw[hc,Bool.false_or]at h
 exact bne_iff_ne.mp h
theorem LcOk.free(L:LcOk X scope cl S){y:Str}(h:scope.names.lookup y=some .free):(∃c,cl.lookup y=some c)/\(X.env.kindOf y=some .cell\/X.env.kindOf y=some .free):=by
 have h1:=u9.mp L.has _ (UH h)
 simp only[bne_self_eq_false,Bool.false_or,UL,Bool.or_eq_true,beq_iff_eq]at h1
 exact⟨U7.mp h1.1,h1.2⟩
theorem yV(names:List (Str×NameKind))(env:Env)(y:Str):
  (names.map fun(n,k)=>if(k == NameKind.free && env.scope.kind == .function && env.kindOf n == some .cell)then(n,NameKind.cell)else(n,k)).lookup y =
   (names.lookup y).map fun k=>if(k == NameKind.free && env.scope.kind == .function && env.kindOf y == some .cell)then NameKind.cell else k:=by
 induction names with
 |nil=>rfl
 |cons p r ih =>
  obtain⟨n,k⟩:=p
  rw[uY]
  by_cases q:y=n
  ·subst q
   by_cases hc:(k == NameKind.free && env.scope.kind == .function && env.kindOf y == some .cell)=true
   ·show UW y ((if(k == NameKind.free && env.scope.kind == .function && env.kindOf y == some .cell)=true then(y,NameKind.cell)else(y,k))::_)=_
    rw[if_pos hc,Ux,Ux,beq_self_eq_true]
    show some NameKind.cell=some (if _ then _ else _)
    rw[if_pos hc]
   ·show UW y ((if(k == NameKind.free && env.scope.kind == .function && env.kindOf y == some .cell)=true then(y,NameKind.cell)else(y,k))::_)=_
    rw[if_neg hc,Ux,Ux,beq_self_eq_true]
    show some k=some (if _ then _ else _)
    rw[if_neg hc]
  ·have q':(y == n)=false:=beq_eq_false_iff_ne.mpr q
   by_cases hc:(k == NameKind.free && env.scope.kind == .function && env.kindOf n == some .cell)=true
   ·show UW y ((if(k == NameKind.free && env.scope.kind == .function && env.kindOf n == some .cell)=true then(n,NameKind.cell)else(n,k))::_)=_
    rw[if_pos hc,Ux,Ux,q']
    exact ih
   ·show UW y ((if(k == NameKind.free && env.scope.kind == .function && env.kindOf n == some .cell)=true then(n,NameKind.cell)else(n,k))::_)=_
    rw[if_neg hc,Ux,Ux,q']
    exact ih
theorem LcOk.kinds(L:LcOk X scope cl S){y:Str}(h:(relabel scope X.env).names.lookup y=some .cell\/(relabel scope X.env).names.lookup y=some .free):scope.names.lookup y=some .free:=by
 have e:(relabel scope X.env).names.lookup y=(scope.names.lookup y).map fun k=>if(k == NameKind.free && X.env.scope.kind == .function && X.env.kindOf y == some .cell)then NameKind.cell else k:=yV scope.names X.env y
 rw[e]at h
 cases q:scope.names.lookup y with
 |none=>rw[q]at h;rcases h with h|h<;>cases h
 |some k =>
  have hk:k≠.cell:=L.nocell _ (UH q)
  rw[q]at h
  by_cases hf:k=.free
  ·rw[hf]
  ·have z:(k == NameKind.free)=false:=beq_eq_false_iff_ne.mpr hf
   rw[Option.map_some,z,Bool.false_and,Bool.false_and,if_neg uw]at h
   rcases h with h|h
   ·exact absurd (UB.inj h) hk
   ·exact absurd (UB.inj h) hf
def cxLC(X:Cx)(scope:Scope)(cl:List (Str×Addr))(M:List Str)(C:Addr)(s₀:Shared)(H₀:Hp)(ex:List Addr)(E:Value->Shared->Prop):Cx where
 prog:=X.prog
 w:=X.w
 K:=X.K
 mg:=X.mg
 base:=X.base
 A:=X.A
 N:=X.N++M
 s₀:=s₀
 H₀:=H₀
 env:=compEnvC scope cl C X.env
 outer:=X.stack
 stack:=X.stack
 ex:=ex
 fn:=fun _=>false
 calm:=X.calm
 pn:=[]
 xe:=E
variable{pins:List (Addr×Obj)}{σ:St}{H:Hp}{s:Shared}{ex:List Addr}{M:List Str}{C:Addr}
theorem ZI{E:Value->Shared->Prop}{h1:Heap}{tk:Nat}{m:Str->Option Value}(I:Inv X pins σ H s)(L:LcOk X scope cl S)(hf:∀b∈ex,FpOk X pins H b)(hlt:∀b∈ex,b < s.heap.objs.size)
  (hk:∀b o,s.heap.get? b=some o->h1.get? b=some o) (hC:s.heap.objs.size<=C) (hns:h1.Ns C m) :
  Inv (cxLC X scope cl M C s H ex E) [] (xC S σ++Um M.length none) H { s with heap:=h1,toks:=tk }:=by
 refine⟨⟨I.ok.mod,L.kind,I.ok.glob,I.ok.blt,hC,fun x y c a b=>I.ok.inj x y c (L.sub.get a) (L.sub.get b),fun y hy=>(L.free (L.kinds hy)).1,(fun x c z=>nomatch z),I.ok.hd,I.ok.frames,.inl rfl,fun b hb=>⟨?_,fun x c e=>?_⟩,
   I.bs,uy I.ok.bsz I.sz,fun b o e hb=>?_,fun b hb z=>?_,I.stack,I.stkFree⟩,
  rfl,I.bare,Un.kept hk,⟨m,hns,fun i y v e1 e2 e3=>?_⟩,fun y c e=>?_,I.hok.fresh hC,fun y c e=>I.freeC y c (L.sub.get e),fun p hp=>absurd (show p∈([]:List (Addr×Obj))from hp) (by simp),I.hok.kept hk,?_⟩
 ·exact uC (ux (hlt b hb) hC)
 ·exact(hf b hb).2.2.2.2.1 x c (L.sub.get e)
 ·rcases(hf b hb).2.2.2.1 with z|z
  ·exact I.ok.noex b o e z
  ·exact absurd (ux (uq e) (uy I.ok.bsz z)) (Ub _)
 ·rcases uu.mp (I.stkSub b z)with q|q
  ·exact(hf b hb).2.1 q
  ·exact(hf b hb).2.2.1 q
 ·have e1':(X.N++M)[i]?=some y:=e1
  by_cases hi:i < σ.length
  ·rw[Uh (by rw[xU];exact hi)]at e2
   obtain⟨e2,hiS⟩:=jn S σ e2
   rw[Uh (by rw[<- I.len];exact hi)]at e1'
   obtain⟨m0,hn0,hl⟩:=I.loc
   have hy:scope.names.lookup y=some .free:=by
    rcases e3 with e3|e3
    ·have q:=yV scope.names X.env y
     have e3':(relabel scope X.env).names.lookup y=some .local:=e3
     cases z:scope.names.lookup y with
     |none =>
      rw[z]at q
      have q':(relabel scope X.env).names.lookup y=none:=q
      rw[e3']at q';cases q'
     |some k =>
      have hk1:k≠.local:=fun w=>L.apart i y e1' hiS (w ▸ z)
      rw[z,Option.map_some]at q
      have q':some NameKind.local=some (if(k == NameKind.free && X.env.scope.kind == .function && X.env.kindOf y == some .cell)=true then NameKind.cell else k):=e3'.symm.trans q
      have q2:=UB.inj q'
      by_cases hc:(k == NameKind.free && X.env.scope.kind == .function && X.env.kindOf y == some .cell)=true
      ·rw[if_pos hc]at q2;cases q2
      ·rw[if_neg hc]at q2;exact absurd q2.symm hk1
    ·exact L.kinds e3
   obtain⟨⟨c,hc⟩,hk2⟩:=L.free hy
   obtain⟨u,r,l⟩:=hl i y v e1' e2 (.inr hk2)
   refine⟨u,r,.inr ⟨?_,c,hc,?_⟩⟩
   ·have q:=yV scope.names X.env y
    rw[hy,Option.map_some]at q
    have q':(relabel scope X.env).names.lookup y=some (if(NameKind.free == NameKind.free && X.env.scope.kind == .function && X.env.kindOf y == some .cell)=true then NameKind.cell else NameKind.free):=q
    by_cases hc:(NameKind.free == NameKind.free && X.env.scope.kind == .function && X.env.kindOf y == some .cell)=true
    ·rw[if_pos hc]at q';exact .inl q'
    ·rw[if_neg hc]at q';exact .inr q'
   ·rcases l with⟨l1,_⟩|⟨_,c',e',z⟩
    ·rcases hk2 with w|w<;>(rw[l1]at w;cases w)
    ·have ec:c'=c:=by
      have w:=L.sub.get hc
      rw[e']at w
      exact UB.inj w
     subst ec
     obtain⟨o,ho,hd⟩:=z
     exact⟨o,hk _ _ ho,hd⟩
  ·rw[Uo (by rw[xU];exact Nat.not_lt.mp hi),List.getElem?_replicate]at e2
   split at e2<;>cases e2
 ·obtain⟨v,o,ho,hd⟩:=I.cell y c (L.sub.get e)
  exact⟨v,o,hk _ _ ho,hd⟩
 ·show(xC S σ++Um M.length none).length=(X.N++M).length
  rw[uc,uc,Uy,xU,I.len]
def PTs(X:Cx)(ifs:List Expr)(t:TT):Prop :=
 ∀(pins:List (Addr×Obj))(s:Shared)(σ:St)(H:Hp)(Q:Bool->Hp->Prop),Inv X pins σ H s->t σ H Q ->
  wpAny (model X.prog X.w) X.A (forIn ifs true fun c r=>if r=true then do let ok <- isTrue c X.env (eval c X.env);pure (ForInStep.yield ok)else pure (ForInStep.yield r)) (TP X pins σ Q) X.xe s
def tYes:TT:=fun _ H Q=>Q true H
theorem Qn{X:Cx}:PTs X [] tYes:=fun _ _ _ H _ I h=>wpAny_tests_nil ⟨H,I,h⟩
theorem Qo{X:Cx}{c:Expr}{t:TT}(h:PT X c t):PTs X [c] t:=fun pins s σ H Q I q=>wpAny_tests_one (h pins s σ H Q I q)
def lcBy(J:It)(g:TG)(tt:TT)(te:TE)(Q:VK)(W:Nat->Nat->St->List V->Hp->Prop):Prop:=∀i m τ ys H,W i m τ ys H ->
 (J.stop i H/\∀p,H p=none->Q (.ref p) (upd H p (.lst ys))) \/
 (J.go i H/\∃N:St->List V->Hp->Prop,(∀τ' ys' H',N τ' ys' H'->∃m',m' < m/\W (i+1) m' τ' ys' H')/\∀x H',J.yld i H x H'->g x τ H' fun τ2 H2=>tt τ2 H2 fun b H3 =>
  if b=true then te τ2 H3 fun y H4=>ys.length < sizeLine/\N τ2 (ys++[y]) H4 else N τ2 ys H3)
def tLC(wi:TI)(g:TG)(tt:TT)(te:TE)(n:Nat):TE:=fun σ H Q=>wi σ H fun J H1=>∃W,(∃m,W 0 m (σ++Um n none) [] H1)/\lcBy J g tt te Q W
def tLCS(S:List Nat)(wi:TI)(g:TG)(tt:TT)(te:TE)(n:Nat):TE:=fun σ H Q=>wi σ H fun J H1=>∃W,(∃m,W 0 m (xC S σ++Um n none) [] H1)/\lcBy J g tt te Q W
theorem Xk{tg elt iter:Expr}{ifs:List Expr}{pos:Pos}{g:TG}{tt:TT}{te:TE}{J:It}{fp:List Addr}{it:Addr}{tn:Nat->Heap->Prop}{Q:VK}{E:Value->Shared->Prop}{R:Value->Addr->Result->Shared->Prop}{Al:Addr->(Value->Shared->Prop)->Prop}
  {W:Nat->Nat->St->List V->Hp->Prop} {m0:Nat} (L:LcOk X scope cl S) (hc:X.calm=true) (I:Inv X pins σ H s) (T:Turn X.prog X.w X.K tg J fp it tn) (st:tn 0 s.heap) (hf:∀b∈fp,FpOk X pins H b)
  (hg:∀C s H ex E,PG (cxLC X scope cl M C s H ex E) tg g) (ht:∀C s H ex E,PTs (cxLC X scope cl M C s H ex E) ifs tt) (he:∀C E,Al C E->PE (cxLC X scope cl M C s H fp E) elt te)
  (hal:∀C,s.heap.objs.size < C->Al C (notedBy (model X.prog X.w) X.A (compEnvC scope cl C X.env) (fun e s'=>R (.ref s.heap.objs.size) C (.error e) s')))
  (w0:W 0 m0 (xC S σ++Um M.length none) [] H) (turn:lcBy J g tt te Q W)
  (hR:∀D C s' H' ys m,Inv X pins σ (upd H' D (.lst ys)) s'->FpOk X pins (upd H' D (.lst ys)) C->s'.heap.Ns C m->Q (.ref D) (upd H' D (.lst ys))->R (.ref D) C (.ok .next) s') :
  wpAny (model X.prog X.w) X.A (newList []) (fun acc s₃=>wpAny (model X.prog X.w) X.A (newFunctionEnv scope X.env.globals cl [] X.env.qual none .none (some X.env)) (fun cenv s₄ =>
   codeAny (model X.prog X.w) X.A (.compStart (.ListComp elt [⟨tg,iter,ifs,0⟩] scope pos) 0 (.ref it) acc { cenv with scope:=relabel scope X.env }) (R acc cenv.locals) s₄) E s₃) E s:=by
 refine wpAny_newObj_type (wpAny_newFunctionEnv L.nocell (by intro y hy;simp at hy) (fun h₁ hns₁ hsb₁=>?_) L.kind)
 dsimp only at hns₁ hsb₁ ⊢
 generalize hG:s.heap.push { cls:=.type "list",dict:=none,data:=.seq ([]:List Value).toArray }=G at hns₁ hsb₁ ⊢
 have hC:G.objs.size=s.heap.objs.size+1:=by rw[<- hG,Uf]
 have hDC:s.heap.objs.size≠G.objs.size:=by rw[hC];exact uC (Uv _)
 have hCle:s.heap.objs.size<=G.objs.size:=by rw[hC];exact U2 _
 have old:∀b o,s.heap.get? b=some o->h₁.get? b=some o:=fun b o e =>
  hsb₁.extBut b o (by rw[hC];exact uC (Tb (uq e))) (ud _ (hG ▸ ud _ e))
 have hacc:h₁.get? s.heap.objs.size=some { cls:=.type "list",data:=.seq ([]:List Value).toArray }:=hsb₁.extBut _ _ hDC (ud _ (hG ▸ ut _ rfl))
 have fpo:∀b∈fp,b < s.heap.objs.size:=fun b hb=>let ⟨o,e,_⟩:=T.obj 0 _ st b hb;uq e
 have st1:tn 0 h₁:=T.keep 0 _ _ st fun b _ o e=>old b o e
 have nofs:s.heap.objs.size∉frs X.stack:=fun z=>by
  rcases uu.mp (I.stkSub _ z)with q|q
  ·exact absurd (q ▸ I.lt) (Ub _)
  ·exact I.nofs (ui _) q
 have nocl:∀y c,cl.lookup y=some c->c≠s.heap.objs.size:=fun y c e z=>by
  obtain⟨v,o,ho,_⟩:=I.cell y c (L.sub.get e)
  exact absurd (z ▸ uq ho) (Ub _)
 have loop:∀s₃:Shared,s₃={ s with heap:=h₁,toks:=s.toks+([]:List (Str×Value)).length } ->
   codeAny (model X.prog X.w) X.A (.compLoop (.ListComp elt [⟨tg,iter,ifs,0⟩] scope pos) 0 (.ref it) (.ref s.heap.objs.size) (compEnvC scope cl G.objs.size X.env)) (R (.ref s.heap.objs.size) G.objs.size) s₃:=by
  rintro s₃ rfl
  have hAl:=hal G.objs.size (by rw[hC];exact Uv _)
  generalize hE:notedBy (model X.prog X.w) X.A (compEnvC scope cl G.objs.size X.env) (fun e s'=>R (.ref s.heap.objs.size) G.objs.size (.error e) s')=E' at hAl ⊢
  have IY:Inv (cxLC X scope cl M G.objs.size s H fp E') [] (xC S σ++Um M.length none) H { s with heap:=h₁,toks:=s.toks+([]:List (Str×Value)).length }:=ZI I L hf fpo old hCle hns₁
  refine codeAny_loop rfl (fun n s'=>∃(i:Nat)(τ:St)(H':Hp)(ys:List V)(its:List Value)(k:Nat),Inv (cxLC X scope cl M G.objs.size s H fp E') [] τ H' s'/\tn i s'.heap/\(∀b∈fp,H' b=none) /\
   s'.heap.get? s.heap.objs.size=some { cls:=.type "list",data:=.seq its.toArray k }/\H' s.heap.objs.size=none/\Vals ys its/\ys.length<=sizeLine/\W i n τ ys H') (fun n s' hI=>?_) m0
   ⟨0,_,H,[],[],_,IY,st1,fun b hb=>(hf b hb).1,hacc,I.hok.fresh (ui _),.nil,uW _,w0⟩
  obtain⟨i,τ,H1,ys,its,k,I1,st1,fr1,eD,fD,rv,hz,w1⟩:=hI
  show wpAny _ X.A ((compTurn (.ListComp elt [⟨tg,iter,ifs,0⟩] scope pos) 0 (.ref it) (.ref s.heap.objs.size) (compEnvC scope cl G.objs.size X.env)).onRaise (fun x=>do noteFrame x (compEnvC scope cl G.objs.size X.env);theTreesLotGoes x)) _ _ s'
  refine wpAny_noted ?_
  rw[hE,compTurn_list]
  have I1':Inv (cxLC X scope cl M G.objs.size s H fp E') [(s.heap.objs.size,{ cls:=.type "list",data:=.seq its.toArray k })] τ H1 s':=I1.pins_of fun p hp=>by
   have e:p=(s.heap.objs.size,{ cls:=.type "list",data:=.seq its.toArray k }):=by simpa using hp
   subst e
   exact⟨eD,fD,hDC,nofs,(fun v z=>nomatch z)⟩
  have stat:∀{H':Hp},(∀b∈fp,H' b=none)->∀b∈fp,FpOk (cxLC X scope cl M G.objs.size s H fp E') [(s.heap.objs.size,{ cls:=.type "list",data:=.seq its.toArray k })] H' b:=fun hn b hb=>by
   refine⟨hn b hb,?_,?_,.inl hb,fun x c e=>(hf b hb).2.2.2.2.1 x c (L.sub.get e),fun p hp z=>?_⟩
   ·exact uC (ux (fpo b hb) hCle)
   ·intro z
    rcases uu.mp (I.stkSub b z)with q|q
    ·exact(hf b hb).2.1 q
    ·exact(hf b hb).2.2.1 q
   ·have e:p=(s.heap.objs.size,{ cls:=.type "list",data:=.seq its.toArray k }):=by
     have hp':p∈[(s.heap.objs.size,({ cls:=.type "list",data:=.seq its.toArray k }:Obj))]:=hp
     simpa using hp'
    subst e
    exact absurd (z ▸ fpo b hb) (Ub _)
  refine wpAny_bind (wpAny_standAt (wpAny_bind ?_))
  rcases turn i n τ ys H1 w1 with⟨stop,q⟩|⟨go,N,hN,step⟩
  ·refine thn (T.done (cxLC X scope cl M G.objs.size s H fp E') rfl rfl rfl hc i _ s' τ H1 E' I1' (stat fr1) st1 stop) fun r s4 ⟨hr,I4⟩=>?_
   subst hr
   refine wpAny_pure ?_
   obtain⟨eD4,_,_⟩:=I4.pin (s.heap.objs.size,{ cls:=.type "list",data:=.seq its.toArray k }) (uG _ uP)
   have base4:Un (frs X.stack) fp H H1 s.heap s4.heap:=I4.base
   have un:Un (frs X.stack) fp H (upd H1 s.heap.objs.size (.lst ys)) s.heap s4.heap:=⟨base4.keep,base4.slot,fun b o e n hx=>by rw[zm (uC (uq e))];exact base4.free b o e n hx,base4.there,
    fun b xs e=>by rw[zm (zr (base4.tups b xs e) fD)];exact base4.tups b xs e,fun b o u e=>by rw[zm (zr (base4.frzs b o u e) fD)];exact base4.frzs b o u e,
    fun b ps e=>by
     obtain⟨more,w⟩:=base4.tbls b ps e
     exact⟨more,by rw[zm (zr w fD)];exact w⟩⟩
   have hok:HOk X.prog X.w (upd H1 s.heap.objs.size (.lst ys)) s4.heap:=fun b u e=>by
    by_cases hb:b=s.heap.objs.size
    ·subst hb
     rw[zg]at e
     cases e
     exact⟨hz,its,k,rv,eD4⟩
    ·rw[zm hb]at e
     exact(I4.hok b u e).stay (fun c v _ q=>q) (fun c q=>by rw[zm (zr q fD)];exact q) fun c xs q=>by rw[zm (zr q fD)];exact q
   have IX:Inv X pins σ (upd H1 s.heap.objs.size (.lst ys)) s4:=I.call' I4.os un hok I4.bare fun b hb=>⟨(hf b hb).2.2.2.1,(hf b hb).2.1,(hf b hb).2.2.2.2.1,(hf b hb).2.2.2.2.2⟩
   have fC:H1 G.objs.size=none:=I4.free
   obtain⟨m4,n4,_⟩:=I4.loc
   exact hR _ _ s4 H1 ys m4 IX (I.fpOk hCle (by rw[zm (Ne.symm hDC)];exact fC)) n4 (q _ fD)
  ·refine thn (T.item (cxLC X scope cl M G.objs.size s H fp E') rfl rfl rfl hc i _ s' τ H1 E' I1' (stat fr1) st1 go) fun r s4 ⟨u,hr,h4⟩=>?_
   subst hr
   refine wpAny_bind (thn h4 fun _ s5 ⟨x,H5,I5,r5,y5,st5,fr5⟩=>?_)
   have I5':=I5.pinned (stat fr5) (T.obj _ _ st5)
   have kept:∀{τ6:St}{H6:Hp}{s6:Shared},Inv (cxLC X scope cl M G.objs.size s H fp E') ([(s.heap.objs.size,{ cls:=.type "list",data:=.seq its.toArray k })]++wH fp s5.heap) τ6 H6 s6 ->
     Inv (cxLC X scope cl M G.objs.size s H fp E') [] τ6 H6 s6/\tn (i+1) s6.heap/\(∀b∈fp,H6 b=none)/\s6.heap.get? s.heap.objs.size=some { cls:=.type "list",data:=.seq its.toArray k }/\H6 s.heap.objs.size=none:=fun{τ6 H6 s6} I6=>by
    have pin:∀b∈fp,∀o,s5.heap.get? b=some o->s6.heap.get? b=some o/\H6 b=none:=fun b hb o e =>
     let w:=I6.pin (b,o) (uG _ (uG _ (xx hb e)))
     ⟨w.1,w.2.1⟩
    have pD:=I6.pin (s.heap.objs.size,{ cls:=.type "list",data:=.seq its.toArray k }) (uG _ (Ui _ uP))
    refine⟨I6.pins_of (fun p hp=>nomatch hp),T.keep _ _ _ st5 fun b hb o e=>(pin b hb o e).1,fun b hb=>?_,pD.1,pD.2.1⟩
    obtain⟨o,e,_⟩:=T.obj _ _ st5 b hb
    exact(pin b hb o e).2
   refine wpAny_bind (thn (hg _ _ _ _ _ _ s5 τ H5 x u _ I5' r5 (step x H5 y5)) fun _ s6 ⟨σ6,H6,I6,q6⟩=>?_)
   refine wpAny_bind (thn (ht _ _ _ _ _ _ s6 σ6 H6 _ I6 q6) fun ok s7 ⟨H7,I7,q7⟩=>?_)
   cases ok with
   |false =>
    have q7':N σ6 ys H7:=by simpa using q7
    obtain⟨m',hm,w7⟩:=hN _ _ _ q7'
    obtain⟨K1,K2,K3,K4,K5⟩:=kept I7
    exact wpAny_pure ⟨rfl,m',hm,i+1,σ6,H7,ys,its,k,K1,K2,K3,K4,K5,rv,hz,w7⟩
   |true =>
    have q7':te σ6 H7 fun y H4=>ys.length < sizeLine/\N σ6 (ys++[y]) H4:=by simpa using q7
    refine wpAny_bind (wpAny_bind (thn (he _ _ hAl _ s7 σ6 H7 _ I7 q7') fun y s8 ⟨v8,H8,I8,r8,hz8,n8⟩=>?_))
    obtain⟨m',hm,w8⟩:=hN _ _ _ n8
    obtain⟨K1,K2,K3,K4,K5⟩:=kept I8
    have hl:=rv.length
    refine wpAny_bind (wpAny_list_append_plain (hsz:=by rw[uo];lia) ⟨k,K4⟩ fun h9 hl9 hs9=>wpAny_pure (wpAny_pure ⟨rfl,m',hm,?_⟩))
    obtain⟨k9,e9⟩:=hl9
    have I9:Inv (cxLC X scope cl M G.objs.size s H fp E') [] σ6 H8 { s8 with heap:=h9 }:=K1.turned (t':=s8.toks) (it:=s.heap.objs.size) (fun b o hb e=>(hs9.2 b hb).trans e) K5 hDC (.inr (ui _))
     (fun y c e=>nocl y c e) fun p hp=>nomatch hp
    refine⟨i+1,σ6,H8,ys++[v8],its++[y],k9,I9,T.keep _ _ _ K2 fun b hb o e=>(hs9.2 b (uC (fpo b hb))).trans e,K3,?_,K5,rv.append (.cons r8 .nil),?_,w8⟩
    ·rw[e9]
     simp
    ·rw[uc,UK]
     lia
 exact codeAny_compStart_list (loop _ rfl) (T.self X.A 0 _ _ _ st1 (loop _ rfl))
variable{tg elt iter:Expr}{ifs:List Expr}{pos:Pos}{wi:TI}{g:TG}{tt:TT}{te:TE}
theorem zaK(L:LcOk X scope cl S)(hc:X.calm=true)(hi:PI X tg iter wi)(hg:∀C s H ex E,PG (cxLC X scope cl M C s H ex E) tg g)(ht:∀C s H ex E,PTs (cxLC X scope cl M C s H ex E) ifs tt)(he:∀C s H ex E,PE (cxLC X scope cl M C s H ex E) elt te)
  (hs:∀x,foldedSetIterable iter X.env x=pure x:=by intro _;rfl):PE X (.ListComp elt [⟨tg,iter,ifs,0⟩] scope pos) (tLCS S wi g tt te M.length):=by
 intro pins s σ H Q I h
 rw[eval_ListComp]
 refine wpAny_comprehension_free (use:=none) rfl hs L.clos L.kind L.locs (thn (hi pins s σ H _ I h) fun v s1 h1=>thn h1 fun itv s2 h2=>?_)
 obtain⟨it,fp,tn,J,H2,rfl,I2,T,st2,f2,W,⟨m0,w0⟩,turn⟩:=h2
 refine Xk (R:=fun acc C=>compPost (model X.prog X.w) X.A X.xe none (EP X pins σ Q) acc C) (Al:=fun _ _=>True) L hc I2 T st2 f2 hg ht (fun C E _=>he C _ _ _ E) (fun _ _=>trivial) w0 turn ?_
 intro D C s' H' ys m IX fC ns q
 exact⟨m,ns,fun h' sb=>⟨.ref D,_,IX.turned (t':=s'.toks) (fun b o hb e=>(sb.2 b hb).trans e) fC.1 fC.2.1 fC.2.2.2.1 fC.2.2.2.2.1 fC.2.2.2.2.2,rfl,q⟩⟩
theorem jo{i:Nat}{y:Str}{py spos:Pos}(hN:X.N.Nodup)(hi':X.N[i]?=some y)(hy:Loc X.env.scope y)(L:LcOk X scope cl S)(hc:X.calm=true)(hi:PI X tg iter wi)(hg:∀C s H ex E,PG (cxLC X scope cl M C s H ex E) tg g)
  (ht:∀C s H ex E,PTs (cxLC X scope cl M C s H ex E) ifs tt) (he:∀C s H ex E,PE (cxLC X scope cl M C s H ex E) elt te) (hs:∀x,foldedSetIterable iter X.env x=pure x:=by intro _;rfl)
  (hsw:swapsWith (.ListComp elt [⟨tg,iter,ifs,0⟩] scope pos) (some (.Name y py)) spos.line X.env=pure true:=by rfl)
  (hf:X.fn y=true\/X.env.scope.names.lookup y=some .local:=by first|exact .inl rfl|exact .inr rfl|assumption) :
  PS X (.Assign [.Name y py] (.ListComp elt [⟨tg,iter,ifs,0⟩] scope pos) spos) (fun D σ H=>tLCS S wi g tt te M.length σ H fun v H1=>D.nx (σ.set i (some v)) H1):=by
 intro pins s σ H D I h
 rw[exec_Assign_Name_used _ _ _ _ hsw]
 refine wpAny_bind (wpAny_standAt (wpAny_bind ?_))
 show wpAny _ X.A (do let _ <- comprehension (.ListComp elt [⟨tg,iter,ifs,0⟩] scope pos) scope X.env _ (newList []) false (eval iter X.env) (some (assign (.Name y py) X.env))) _ _ s
 refine wpAny_bind (wpAny_mono (wpAny_comprehension_free (use:=some (assign (.Name y py) X.env)) (Q:=fun _ s'=>SP X pins D .next s') rfl hs L.clos L.kind L.locs
  (thn (hi pins s σ H _ I h) fun v s1 h1=>thn h1 fun itv s2 h2=>?_)) (fun _ s' hq=>wpAny_pure (wpAny_pure hq)) fun _ _ e=>e)
 obtain⟨it,fp,tn,J,H2,rfl,I2,T,st2,f2,W,⟨m0,w0⟩,turn⟩:=h2
 refine Xk (R:=fun acc C=>compPost (model X.prog X.w) X.A X.xe (some (assign (.Name y py) X.env)) (fun _ s'=>SP X pins D .next s') acc C) (Al:=fun _ _=>True) L hc I2 T st2 f2 hg ht (fun C E _=>he C _ _ _ E) (fun _ _=>trivial) w0 turn ?_
 intro D' C s' H' ys m IX fC ns q
 show wpAny _ X.A (assign (.Name y py) X.env (.ref D')) _ _ s'
 refine wpAny_assign_Name (jd IX hN hi' hy (v:=.ref D') rfl (fun s'' I'' ⟨a,sb,ha⟩=>?_) hf)
 refine⟨m,ns.sameBut sb ?_,fun h' sb'=>⟨_,_,I''.turned (t':=s''.toks) (fun b o hb e=>(sb'.2 b hb).trans e) fC.1 fC.2.1 fC.2.2.2.1 fC.2.2.2.2.1 fC.2.2.2.2.2,q⟩⟩
 rcases ha with ha|ha
 ·rw[ha];exact fC.2.1
 ·exact Ne.symm (fC.2.2.2.2.1 y a ha)
end
def clOf(scope:Scope)(env:Env):List (Str×Addr):=scope.names.foldl (fun cs p=>if p.2 == .free then(match env.cells.lookup p.1 with|some a=>(p.1,a)::cs|none=>cs)else cs) []
theorem Xl(env:Env):∀(names:List (Str×NameKind))(acc:List (Str×Addr)),AllIn env acc->AllIn env (names.foldl (fun cs p=>if p.2 == .free then(match env.cells.lookup p.1 with|some a=>(p.1,a)::cs|none=>cs)else cs) acc)
 |[],_,h=>h
 | (n,k)::r,acc,h=>by
  rw[List.foldl_cons]
  refine Xl env r _ ?_
  by_cases hk:(k == NameKind.free)=true
  ·rw[if_pos hk]
   cases e:env.cells.lookup n with
   |none=>exact h
   |some a=>exact⟨e,h⟩
  ·rw[if_neg hk]
   exact h
section
variable{X:Cx}{scope:Scope}{M:List Str}{tg elt iter:Expr}{ifs:List Expr}{pos:Pos}{wi:TI}{g:TG}{tt:TT}{te:TE}
theorem WX{S:List Nat}(h1:closureFor scope X.env=pure (clOf scope X.env))(h2:scope.kind=.function)(h3:scope.names.all (fun y=>y.2 != .cell)=true)(h4:scope.names.all (fun y=>y.2 != .local || scope.names.lookup y.1 == some .local)=true)
  (h5:X.N.zipIdx.all (fun y=>S.contains y.2 || scope.names.lookup y.1 != some .local)=true) (h6:scope.names.all (fun p=>p.2 != .free || (((clOf scope X.env).lookup p.1).isSome && (X.env.kindOf p.1 == some .cell || X.env.kindOf p.1 == some .free)))=true) :
  LcOk X scope (clOf scope X.env) S:=⟨h1,h2,h3,h4,h5,Xl X.env scope.names [] trivial,h6⟩
theorem lcOk(h1:closureFor scope X.env=pure (clOf scope X.env))(h2:scope.kind=.function)(h3:scope.names.all (fun y=>y.2 != .cell)=true)(h4:scope.names.all (fun y=>y.2 != .local || scope.names.lookup y.1 == some .local)=true)
  (h5:X.N.all (fun y=>scope.names.lookup y != some .local)=true) (h6:scope.names.all (fun p=>p.2 != .free || (((clOf scope X.env).lookup p.1).isSome && (X.env.kindOf p.1 == some .cell || X.env.kindOf p.1 == some .free)))=true) :
  LcOk X scope (clOf scope X.env) []:=WX h1 h2 h3 h4 (u9.mpr fun y hy=>by
   have hm:y.1∈X.N:=uB (List.mem_zipIdx_iff_getElem?.mp hy)
   rw[u9.mp h5 y.1 hm,Bool.or_true]) h6
theorem Qp(M:List Str)(hc:X.calm=true)(hi:PI X tg iter wi)(hg:∀C s H ex E,PG (cxLC X scope (clOf scope X.env) M C s H ex E) tg g)(ht:∀C s H ex E,PTs (cxLC X scope (clOf scope X.env) M C s H ex E) ifs tt)
  (he:∀C s H ex E,PE (cxLC X scope (clOf scope X.env) M C s H ex E) elt te) (hs:∀x,foldedSetIterable iter X.env x=pure x:=by intro _;rfl)
  (h1:closureFor scope X.env=pure (clOf scope X.env):=by with_unfolding_all rfl) (h2:scope.kind=.function:=by rfl) (h3:scope.names.all (fun y=>y.2 != .cell)=true:=by rfl) (h4:scope.names.all (fun y=>y.2 != .local || scope.names.lookup y.1 == some .local)=true:=by rfl)
  (h5:X.N.all (fun y=>scope.names.lookup y != some .local)=true:=by rfl) (h6:scope.names.all (fun p=>p.2 != .free || (((clOf scope X.env).lookup p.1).isSome && (X.env.kindOf p.1 == some .cell || X.env.kindOf p.1 == some .free)))=true:=by rfl) :
  PE X (.ListComp elt [⟨tg,iter,ifs,0⟩] scope pos) (tLC wi g tt te M.length):=zaK (lcOk h1 h2 h3 h4 h5 h6) hc hi hg ht he hs
theorem Qr(M:List Str){i:Nat}{y:Str}{py spos:Pos}(hN:X.N.Nodup)(hi':X.N[i]?=some y)(hy:Loc X.env.scope y)(hc:X.calm=true)(hi:PI X tg iter wi)(hg:∀C s H ex E,PG (cxLC X scope (clOf scope X.env) M C s H ex E) tg g)
  (ht:∀C s H ex E,PTs (cxLC X scope (clOf scope X.env) M C s H ex E) ifs tt) (he:∀C s H ex E,PE (cxLC X scope (clOf scope X.env) M C s H ex E) elt te) (hs:∀x,foldedSetIterable iter X.env x=pure x:=by intro _;rfl)
  (hsw:swapsWith (.ListComp elt [⟨tg,iter,ifs,0⟩] scope pos) (some (.Name y py)) spos.line X.env=pure true:=by rfl)
  (hf:X.fn y=true\/X.env.scope.names.lookup y=some .local:=by first|exact .inl rfl|exact .inr rfl|assumption)
  (h1:closureFor scope X.env=pure (clOf scope X.env):=by with_unfolding_all rfl) (h2:scope.kind=.function:=by rfl) (h3:scope.names.all (fun y=>y.2 != .cell)=true:=by rfl) (h4:scope.names.all (fun y=>y.2 != .local || scope.names.lookup y.1 == some .local)=true:=by rfl)
  (h5:X.N.all (fun y=>scope.names.lookup y != some .local)=true:=by rfl) (h6:scope.names.all (fun p=>p.2 != .free || (((clOf scope X.env).lookup p.1).isSome && (X.env.kindOf p.1 == some .cell || X.env.kindOf p.1 == some .free)))=true:=by rfl) :
  PS X (.Assign [.Name y py] (.ListComp elt [⟨tg,iter,ifs,0⟩] scope pos) spos) (fun D σ H=>tLC wi g tt te M.length σ H fun v H1=>D.nx (σ.set i (some v)) H1):=jo hN hi' hy (lcOk h1 h2 h3 h4 h5 h6) hc hi hg ht he hs hsw hf
theorem WY(S:List Nat)(M:List Str)(hc:X.calm=true)(hi:PI X tg iter wi)(hg:∀C s H ex E,PG (cxLC X scope (clOf scope X.env) M C s H ex E) tg g)(ht:∀C s H ex E,PTs (cxLC X scope (clOf scope X.env) M C s H ex E) ifs tt)
  (he:∀C s H ex E,PE (cxLC X scope (clOf scope X.env) M C s H ex E) elt te) (hs:∀x,foldedSetIterable iter X.env x=pure x:=by intro _;rfl)
  (h1:closureFor scope X.env=pure (clOf scope X.env):=by with_unfolding_all rfl) (h2:scope.kind=.function:=by rfl) (h3:scope.names.all (fun y=>y.2 != .cell)=true:=by rfl) (h4:scope.names.all (fun y=>y.2 != .local || scope.names.lookup y.1 == some .local)=true:=by rfl)
  (h5:X.N.zipIdx.all (fun y=>S.contains y.2 || scope.names.lookup y.1 != some .local)=true:=by rfl) (h6:scope.names.all (fun p=>p.2 != .free || (((clOf scope X.env).lookup p.1).isSome && (X.env.kindOf p.1 == some .cell || X.env.kindOf p.1 == some .free)))=true:=by rfl) :
  PE X (.ListComp elt [⟨tg,iter,ifs,0⟩] scope pos) (tLCS S wi g tt te M.length):=zaK (WX h1 h2 h3 h4 h5 h6) hc hi hg ht he hs
theorem WZ(S:List Nat)(M:List Str){i:Nat}{y:Str}{py spos:Pos}(hN:X.N.Nodup)(hi':X.N[i]?=some y)(hy:Loc X.env.scope y)(hc:X.calm=true)(hi:PI X tg iter wi)(hg:∀C s H ex E,PG (cxLC X scope (clOf scope X.env) M C s H ex E) tg g)
  (ht:∀C s H ex E,PTs (cxLC X scope (clOf scope X.env) M C s H ex E) ifs tt) (he:∀C s H ex E,PE (cxLC X scope (clOf scope X.env) M C s H ex E) elt te) (hs:∀x,foldedSetIterable iter X.env x=pure x:=by intro _;rfl)
  (hsw:swapsWith (.ListComp elt [⟨tg,iter,ifs,0⟩] scope pos) (some (.Name y py)) spos.line X.env=pure true:=by rfl)
  (hf:X.fn y=true\/X.env.scope.names.lookup y=some .local:=by first|exact .inl rfl|exact .inr rfl|assumption)
  (h1:closureFor scope X.env=pure (clOf scope X.env):=by with_unfolding_all rfl) (h2:scope.kind=.function:=by rfl) (h3:scope.names.all (fun y=>y.2 != .cell)=true:=by rfl) (h4:scope.names.all (fun y=>y.2 != .local || scope.names.lookup y.1 == some .local)=true:=by rfl)
  (h5:X.N.zipIdx.all (fun y=>S.contains y.2 || scope.names.lookup y.1 != some .local)=true:=by rfl) (h6:scope.names.all (fun p=>p.2 != .free || (((clOf scope X.env).lookup p.1).isSome && (X.env.kindOf p.1 == some .cell || X.env.kindOf p.1 == some .free)))=true:=by rfl) :
  PS X (.Assign [.Name y py] (.ListComp elt [⟨tg,iter,ifs,0⟩] scope pos) spos) (fun D σ H=>tLCS S wi g tt te M.length σ H fun v H1=>D.nx (σ.set i (some v)) H1):=jo hN hi' hy (WX h1 h2 h3 h4 h5 h6) hc hi hg ht he hs hsw hf
end
section
variable{g:TG}{tt:TT}{te:TE}{Q:VK}{σ:St}{H:Hp}
theorem ym{K:ub}{a:Addr}{xs:List V}(Pv:Nat->St->List V->Hp->Prop)(h0:Pv 0 σ [] H)(hl:∀i τ ys H,i<=xs.length->Pv i τ ys H->SqL K H a xs)
  (hs:∀i x τ ys H,xs[i]?=some x->Pv i τ ys H->g x τ H fun τ2 H2=>tt τ2 H2 fun b H3=>if b=true then te τ2 H3 fun y H4=>ys.length < sizeLine/\Pv (i+1) τ2 (ys++[y]) H4 else Pv (i+1) τ2 ys H3)
  (hd:∀τ ys H,Pv xs.length τ ys H->∀p,H p=none->Q (.ref p) (upd H p (.lst ys))):∃W,(∃m,W 0 m σ [] H)/\lcBy (Itl K a) g tt te Q W:=by
 refine⟨fun i m τ ys H=>m=xs.length-i/\i<=xs.length/\Pv i τ ys H,⟨xs.length,by simp,uW _,h0⟩,?_⟩
 rintro i m τ ys H ⟨rfl,hi,p⟩
 have q:=hl i τ ys H hi p
 by_cases hlt:i < xs.length
 ·refine .inr ⟨⟨xs,xs[i],q,by simp[hlt]⟩,Pv (i+1),fun τ' ys' H' p'=>⟨xs.length-(i+1),by lia,rfl,hlt,p'⟩,fun x H' y=>?_⟩
  obtain⟨e,y⟩:=y
  subst e
  exact hs i x τ ys _ (y xs q) p
 ·have e:i=xs.length:=by lia
  subst e
  exact .inl ⟨⟨xs,q,ui _⟩,hd τ ys H p⟩
theorem yx{lo:Int}{n:Nat}(Pv:Nat->St->List V->Hp->Prop)(h0:Pv 0 σ [] H)
  (hs:∀i τ ys H,i < n->Pv i τ ys H->g (.int (lo+i)) τ H fun τ2 H2=>tt τ2 H2 fun b H3=>if b=true then te τ2 H3 fun y H4=>ys.length < sizeLine/\Pv (i+1) τ2 (ys++[y]) H4 else Pv (i+1) τ2 ys H3)
  (hd:∀τ ys H,Pv n τ ys H->∀p,H p=none->Q (.ref p) (upd H p (.lst ys))):∃W,(∃m,W 0 m σ [] H)/\lcBy (Itr lo n) g tt te Q W:=by
 refine⟨fun i m τ ys H=>m=n-i/\i<=n/\Pv i τ ys H,⟨n,by simp,uW _,h0⟩,?_⟩
 rintro i m τ ys H ⟨rfl,hi,p⟩
 by_cases hlt:i < n
 ·refine .inr ⟨hlt,Pv (i+1),fun τ' ys' H' p'=>⟨n-(i+1),by lia,rfl,hlt,p'⟩,fun x H' y=>?_⟩
  obtain⟨e,y⟩:=y
  subst e y
  exact hs i τ ys _ hlt p
 ·have e:i=n:=by lia
  subst e
  exact .inl ⟨ui _,hd τ ys H p⟩
end
end L2
namespace L2
open PySem PySem.Spec PyProof.Rows Builtin Builtin.Str
section
variable{X:Cx}{tg:Expr}
theorem Yu:OpR X (binaryOp .Mult) (fun x y H Q=>∃z n,x=.str z/\y=.int n/\MulOk z n/\Q (.str (Txt.mul z n)) H):=by
 intro pins s σ H x y v u Q I rx ry h
 obtain⟨z,n,rfl,rfl,ok,q⟩:=h
 obtain⟨t,rfl⟩:=rx
 obtain⟨t',rfl⟩:=ry
 exact SB.mul ok fun t'' k=>⟨.str (Txt.mul z n),H,I.tok k,⟨t'',rfl⟩,q⟩
theorem X7(bs:List Bool):(uT bs.length).all (fun i=>bs.getD i false)=bs.all id:=by
 induction bs with
 |nil=>rfl
 |cons b r ih =>
  rw[uM,List.range_succ_eq_map,tF,List.all_map,tF]
  have e:(uT r.length).all ((fun i=>(b::r).getD i false) ∘ Nat.succ)=(uT r.length).all fun i=>r.getD i false:=by
   congr 1
  rw[e,ih]
  rfl
end
end L2
namespace L2
open PySem PySem.Spec PyProof.Rows
def zt:Expr->Bool
 |.Starred ..=>true
 |_=>false
theorem zD{e:Expr}{es:List Expr}{env:Env}(h:zt e=false):starEach (e::es) env=(false,eval e env)::starEach es env:=by
 cases e<;>first
  |rfl
  |exact absurd (show true=false from h) (by decide)
theorem yq{env:Env}{pos:Pos}:∀{es:List Expr},es.all (fun e=>!zt e)=true->(backTo pos (starEach es env)).any (·.1)=false
 |[],_=>rfl
 |e::es,h=>by
  rw[tF,UL]at h
  have h1:zt e=false:=by simpa using h.1
  rw[zD h1]
  show(false || (backTo pos (starEach es env)).any (·.1))=false
  rw[yq h.2]
  rfl
section
variable{X:Cx}{CX:CXT}{k:Nat}{f C:Addr}{fd:FuncData}{ps:List Str}{sp:Sp}{dvs:List V}{ds:List Value}{E:XK}{x m:Str}{p pos apos:Pos}{e o:Expr}{es:List Expr}{te ta:TE}{t:TA}{id T:String}{r:List V->Hp->VK->Prop}
theorem pa_c(ha:PE X e te)(hr:PA X es t)(h:zt e=false:=by rfl):PA X (e::es) (zR te t):=Qe ha hr (zD h)
theorem zcD(F:FnOk X.prog X.w X.K X.mg X.base CX k f fd ps sp)(hr:Room k X.A)(hg:Gl X x)(hm:X.mg x=some (.ref f))(hk:Ud X.K (.ref f)=true)(hb:Binds X.K fd ps ds)(hd:Vals dvs ds)(hx:yG CX X E)
  (ha:PA X (e::es) t) (hdb:(x == ("__debug__":Str))=false:=by decide) (h1:zt e=false:=by rfl) (h2:es.all (fun e=>!zt e)=true:=by rfl) :
  PE X (.Call (.Name x p) (e::es) [] pos) (ZG sp dvs E t):=Qf F hr hg hm hk hb hd hx ha hdb (zD h1) (yq h2)
theorem zbG(hc:yQ X (.builtin id) r)(hg:Gl X x)(hm:X.mg x=none)(hv:bootBuiltins x=some (.builtin id))(ha:PA X (e::es) t)(hn:x≠"__name__":=by decide)(hdb:(x == ("__debug__":Str))=false:=by decide)
  (h1:zt e=false:=by rfl) (h2:es.all (fun e=>!zt e)=true:=by rfl):PE X (.Call (.Name x p) (e::es) [] pos) (tCB r t):=WL hc hg hm hv ha hn hdb (zD h1) (yq h2)
theorem Qs(hc:yQ X (.type T) r)(hg:Gl X x)(hm:X.mg x=none)(hv:bootBuiltins x=some (.type T))(ha:PA X (e::es) t)(hn:x≠"__name__":=by decide)(hdb:(x == ("__debug__":Str))=false:=by decide)
  (h1:zt e=false:=by rfl) (h2:es.all (fun e=>!zt e)=true:=by rfl):PE X (.Call (.Name x p) (e::es) [] pos) (tCB r t):=X1 hc hg hm hv ha hn hdb (zD h1) (yq h2)
end
structure jE(X:Cx)(e:Expr)(t:TE):Prop where
 out:PE X e t
structure jT(X:Cx)(e:Expr)(t:TT):Prop where
 out:PT X e t
structure jW(X:Cx)(e:Expr)(t:TT):Prop where
 out:PW X e t
structure jA(X:Cx)(es:List Expr)(t:TA):Prop where
 out:PA X es t
structure jS(X:Cx)(st:Stmt)(t:TS):Prop where
 out:PS X st t
structure jSs(X:Cx)(sts:List Stmt)(t:TS):Prop where
 out:PSs X sts t
structure jG(X:Cx)(tg:Expr)(t:TG):Prop where
 out:PG X tg t
structure jGs(X:Cx)(tg:List Expr)(t:TGs):Prop where
 out:PGs X tg t
structure jI(X:Cx)(tg iter:Expr)(t:TI):Prop where
 out:PI X tg iter t
structure jO(X:Cx)(e:Option Expr)(t:TO):Prop where
 out:PO X e t
structure jTs(X:Cx)(ifs:List Expr)(t:TT):Prop where
 out:PTs X ifs t
structure jOp(X:Cx)(f:Value->Value->Sem Value)(r:R2):Prop where
 out:OpR X f r
structure jIx(X:Cx)(r:R2):Prop where
 out:IxR X r
structure jSl(X:Cx)(r:V->Option Int->Option Int->Hp->VK->Prop):Prop where
 out:SlR X r
structure jMt(X:Cx)(id:String)(r:V->List V->Hp->VK->Prop):Prop where
 out:MtR X id r
structure jCa(X:Cx)(f:Value)(r:List V->Hp->VK->Prop):Prop where
 out:yQ X f r
section
variable{X:Cx}{a b c e o:Expr}{es rest:List Expr}{ta tb tc te to:TE}{t u:TA}{tA tB':TT}{pos p p2 apos cpos px:Pos}{x y m:Str}{op op':CmpOp}{bop:Operator}{r r':R2}
theorem jv(i:Nat)(hN:X.N[i]?=some x:=by rfl)(hv:Vis X.env.scope x:=by first|exact Or.inl rfl|exact Or.inr (Or.inl rfl)|exact Or.inr (Or.inr rfl))(hd:(x == ("__debug__":Str))=false:=by decide)
  (hcd:(x == ("__classdict__":Str))=false:=by decide):jE X (.Name x pos) (tVar i):=⟨pv i hN hv hd hcd⟩
theorem zk{i j}:jE X (.Constant (.int i) j pos) (tC (.int i)):=⟨zba⟩
theorem xm{b j}:jE X (.Constant (.bool b) j pos) (tC (.bl b)):=⟨zcr⟩
theorem zbH{j}:jE X (.Constant .none j pos) (tC .non):=⟨zbb⟩
theorem zo{x j}:jE X (.Constant (.str x) j pos) (tC (.str x)):=⟨zbc⟩
theorem yy{v:V}{w:Value}(hg:Gl X x)(hm:X.mg x=some w)(r:RelV v w)(hd:(x == ("__debug__":Str))=false:=by decide):jE X (.Name x pos) (tC v):=⟨JX hg hm r hd⟩
theorem Qt{v:V}{w:Value}(hg:Gl X x)(hm:X.mg x=none)(hv:bootBuiltins x=some w)(r:RelV v w)(hn:x≠"__name__":=by decide)(hd:(x == ("__debug__":Str))=false:=by decide):jE X (.Name x pos) (tC v):=⟨JY hg hm hv r hn hd⟩
theorem zx(ho:jOp X (binaryOp bop) r)(ha:jE X a ta)(hb:jE X b tb):jE X (.BinOp a bop b pos) (tOp r ta tb):=⟨zcu ho.out ha.out hb.out⟩
theorem vA(ha:jE X a ta):jE X (.UnaryOp .USub a pos) (tUn (rU fun i=>.int (-i)) ta):=⟨zcv zbt ha.out⟩
theorem zP(ho:jOp X (compareOp op) r)(ha:jE X a ta)(hb:jE X b tb)(hm:behindInMarks op b=false):jE X (.Compare a [op] [b] pos) (tOp r ta tb):=⟨Qa ho.out ha.out hb.out hm⟩
theorem vk(ho:jOp X (compareOp op) r)(ha:jE X a ta)(hb:jE X b tb)(hm:behindInMarks op b=false):jT X (.Compare a [op] [b] pos) (WF (tOp r ta tb)):=⟨Qb ho.out ha.out hb.out hm⟩
theorem zE(h:jE X e te)(he:∀whole,isTrue e X.env whole=(do let v <- whole;standAt e.pos;holding [v] (truthy v)):=by intro _;rfl):jT X e (tB te):=⟨zbd h.out he⟩
theorem yd(ha:jT X a tA):jW X (.BoolOp .And [a] pos) tA:=⟨pw_and1 ha.out⟩
theorem yW(ha:jT X a tA):jW X (.BoolOp .Or [a] pos) tA:=⟨pw_or1 ha.out⟩
theorem yh(ha:jT X a tA)(hb:jW X (.BoolOp .And (b::rest) pos) tB'):jW X (.BoolOp .And (a::b::rest) pos) (tAnd tA tB'):=⟨pw_and ha.out hb.out⟩
theorem xD(ha:jT X a tA)(hb:jW X (.BoolOp .Or (b::rest) pos) tB'):jW X (.BoolOp .Or (a::b::rest) pos) (tOr tA tB'):=⟨pw_or ha.out hb.out⟩
theorem jW.pt(h:jW X e tA):jT X e tA:=⟨PW.pt h.out⟩
theorem yM(ha:jT X a tA):jT X (.UnaryOp .Not a pos) (tNot tA):=⟨zbe ha.out⟩
theorem wp{op}(h:jE X a te):jE X (.BoolOp op [a] pos) te:=⟨zbf h.out⟩
theorem xE(ha:jE X a ta)(hb:jE X (.BoolOp .And (b::rest) pos) tb):jE X (.BoolOp .And (a::b::rest) pos) (zaz ta tb):=⟨zbg ha.out hb.out⟩
theorem zcE(ha:jE X a ta)(hb:jE X (.BoolOp .Or (b::rest) pos) tb):jE X (.BoolOp .Or (a::b::rest) pos) (tOrV ta tb):=⟨zcs ha.out hb.out⟩
theorem zbI(ha:jE X a ta):jE X (.UnaryOp .Not a pos) (zaA ta):=⟨zbh ha.out⟩
theorem zA:jA X [] tNil:=⟨zbw⟩
theorem ja_c(ha:jE X e te)(hr:jA X es t)(h:zt e=false:=by rfl):jA X (e::es) (zR te t):=⟨pa_c ha.out hr.out h⟩
theorem zv(h:jA X es t):jE X (.List es pos) (tLst t):=⟨zby h.out⟩
theorem zu{x1}(h:jA X es t):jE X (.Tuple es x1 pos) (tTup t):=⟨zbx h.out⟩
theorem xn(hr:jIx X r)(ha:jE X a ta)(hb:jE X b tb)(hs:jR b):jE X (.Subscript a b pos) (tOp r ta tb):=⟨zcB hr.out ha.out hb.out hs⟩
theorem jZ:jO X none Xf:=⟨Qi⟩
theorem j7(h:jE X e te):jO X (some e) (zaH te):=⟨Qj h.out⟩
theorem vB{r:V->Option Int->Option Int->Hp->VK->Prop}{lo hi:Option Expr}{tl th:TO}(hr:jSl X r)(he:jE X e te)(hl:jO X lo tl)(hu:jO X hi th):jE X (.Subscript e (.Slice lo hi none p2) pos) (tSl r te tl th):=⟨WN hr.out he.out hl.out hu.out⟩
variable{CX:CXT}{k:Nat}{f C:Addr}{fd:FuncData}{ps:List Str}{sp:Sp}{dvs:List V}{ds:List Value}{E:XK}{id T:String}{rc:List V->Hp->VK->Prop}{rm:V->List V->Hp->VK->Prop}
theorem zcF(F:FnOk X.prog X.w X.K X.mg X.base CX k f fd ps sp)(hr:Room k X.A)(hg:Gl X x)(hm:X.mg x=some (.ref f))(hk:Ud X.K (.ref f)=true)(hb:Binds X.K fd ps ds)(hd:Vals dvs ds)(hx:yG CX X E)
  (ha:jA X (e::es) t) (hdb:(x == ("__debug__":Str))=false:=by decide) (h1:zt e=false:=by rfl) (h2:es.all (fun e=>!zt e)=true:=by rfl) :
  jE X (.Call (.Name x p) (e::es) [] pos) (ZG sp dvs E t):=⟨zcD F hr hg hm hk hb hd hx ha.out hdb h1 h2⟩
theorem zS(hc:jCa X (.builtin id) rc)(hg:Gl X x)(hm:X.mg x=none)(hv:bootBuiltins x=some (.builtin id))(ha:jA X (e::es) t)(hn:x≠"__name__":=by decide)(hdb:(x == ("__debug__":Str))=false:=by decide)
  (h1:zt e=false:=by rfl) (h2:es.all (fun e=>!zt e)=true:=by rfl):jE X (.Call (.Name x p) (e::es) [] pos) (tCB rc t):=⟨zbG hc.out hg hm hv ha.out hn hdb h1 h2⟩
theorem zK(hc:jCa X (.type T) rc)(hg:Gl X x)(hm:X.mg x=none)(hv:bootBuiltins x=some (.type T))(ha:jA X (e::es) t)(hn:x≠"__name__":=by decide)(hdb:(x == ("__debug__":Str))=false:=by decide)
  (h1:zt e=false:=by rfl) (h2:es.all (fun e=>!zt e)=true:=by rfl):jE X (.Call (.Name x p) (e::es) [] pos) (tCB rc t):=⟨Qs hc.out hg hm hv ha.out hn hdb h1 h2⟩
theorem j8{name:Str}(pa:PlainAttrs T)(slot:Slot T name id)(hty:typeOf (.builtin id)=pure (.type "method_descriptor"))(hm:jMt X id rm)(ho:jE X o to)
  (hbase:attributeBase o name X.env (eval o X.env)=eval o X.env:=by rfl) (hline:(apos.endLine == cpos.line)=true:=by rfl):jE X (.Call (.Attribute o name apos) [] [] cpos) (tBM0 X.K T rm to):=⟨zbD pa slot hty hm.out ho.out hbase hline⟩
theorem xg{name:Str}(pa:PlainAttrs T)(slot:Slot T name id)(hty:typeOf (.builtin id)=pure (.type "method_descriptor"))(hm:jMt X id rm)(ho:jE X o to)(ha:jA X (e::es) t)
  (hbase:attributeBase o name X.env (eval o X.env)=eval o X.env:=by rfl)
  (hfew:((backTo cpos (starEach (e::es) X.env)).all (fun x=>!x.1) && (backToKw cpos (keywordEach [] X.env)).all (fun x=>x.1.isSome)
   && decide ((e::es).length+([]:List Keyword).length+(if([]:List Keyword).isEmpty then 0 else 1) < 30))=true:=by rfl)
  (hline:(apos.endLine == cpos.line)=true:=by rfl) (h1:zt e=false:=by rfl) (h2:es.all (fun e=>!zt e)=true:=by rfl) :
  jE X (.Call (.Attribute o name apos) (e::es) [] cpos) (tBM X.K T rm to t):=⟨zcC pa slot hty hm.out ho.out ha.out hbase hfew hline (zD h1) (yq h2)⟩
variable{st:Stmt}{sts:List Stmt}{s1 s2:TS}{tg iter elt:Expr}{g:TG}{wi:TI}{tb1:TS}{ifs:List Expr}{tt:TT}
theorem zp:jSs X [] yP:=⟨JZ⟩
theorem zh(h1:jS X st s1)(h2:jSs X sts s2):jSs X (st::sts) (tSeq s1 s2):=⟨Wz h1.out h2.out⟩
theorem zj(h1:jS X st s1):jSs X [st] s1:=⟨J0 h1.out⟩
theorem zy(he:jE X e te)(hs:swapsWith e none pos.line X.env=pure false:=by rfl):jS X (.Expr e pos) (zaB te):=⟨J2 he.out hs⟩
theorem zq(he:jE X e te):jS X (.Return (some e) pos) (tRet te):=⟨zbi he.out⟩
theorem zw{A B:List Stmt}(hc:jT X c tA)(ha:jSs X A s1)(hb:jSs X B s2):jS X (.If c A B pos) (tIfS tA s1 s2):=⟨zct hc.out ha.out hb.out⟩
theorem zbJ{i:Nat}{pos':Pos}(hN:X.N.Nodup)(hi:X.N[i]?=some x)(hx:Loc X.env.scope x)(he:jE X e te)(hs:swapsWith e (some (.Name x pos')) pos.line X.env=pure false:=by rfl)
  (hf:X.fn x=true\/X.env.scope.names.lookup x=some .local:=by first|exact .inl rfl|exact .inr rfl|assumption):jS X (.Assign [.Name x pos'] e pos) (tAsg te (wU i)):=⟨zbm hN hi hx he.out hs hf⟩
theorem yz(he:jE X e te)(hg:jG X tg g)(hs:swapsWithSole [tg] e pos.line X.env=pure false:=by rfl)(hw:swappedStores [tg] e X.env=pure none:=by rfl)(h1:(assignEach [tg] X.env).map (·.2)=[assign tg X.env]:=by rfl):jS X (.Assign [tg] e pos) (tAsg te g):=⟨zbl he.out hg.out hs hw h1⟩
theorem Qu{i:Nat}(hN:X.N.Nodup)(hi:X.N[i]?=some x)(hx:Loc X.env.scope x)(hf:X.fn x=true\/X.env.scope.names.lookup x=some .local:=by first|exact .inl rfl|exact .inr rfl|assumption):jG X (.Name x pos) (wU i):=⟨J6 hN hi hx hf⟩
theorem yA:jGs X [] gNil:=⟨J7⟩
theorem zC{g:TG}{gs:TGs}(h1:jG X e g)(h2:jGs X es gs)(hs:(assignEach (e::es) X.env).map (·.2)=assign e X.env::(assignEach es X.env).map (·.2):=by rfl):jGs X (e::es) (zaC g gs):=⟨WA h1.out h2.out hs⟩
theorem wq{k:Nat}{gs:TGs}{n:Nat}(hc:X.calm=true)(h:jGs X es gs)(hn:(assignEach es X.env).length=n:=by rfl)(hst:(assignEach es X.env).findIdx? (·.1)=none:=by rfl):jG X (.Tuple es k pos) (gTup X.K n gs):=⟨zbj hc h.out hn hst⟩
theorem zQ{l:Expr}{tl:TE}(hl:jE X l tl):jI X tg l (Y7 X.K tl):=⟨J8 hl.out⟩
theorem yB{l:Expr}{tl:TE}(hl:jE X l tl):jI X tg l (iTup X.K tl):=⟨zbn hl.out⟩
theorem yc(hg:Gl X "range")(hm:X.mg "range"=none)(ha:jA X [a] t)(h:zt a=false:=by rfl):jI X tg (.Call (.Name "range" p) [a] [] pos) (zaD t):=⟨XW hg hm ha.out (zD h)⟩
theorem yg(hp:PassesOwn (model X.prog X.w) X.A X.env X.xe)(hc:X.calm=true)(hi:jI X tg iter wi)(hg:jG X tg g)(hb:jSs X sts tb1)(hs:∀x,foldedSetIterable iter X.env x=pure x:=by intro _;rfl):jS X (.For tg iter sts [] pos) (tFor wi g tb1):=⟨zbo hp hc hi.out hg.out hb.out hs⟩
theorem W0(hp:PassesOwn (model X.prog X.w) X.A X.env X.xe)(hc:jT X c tA)(hb:jSs X sts tb1):jS X (.While c sts [] pos) (WB tA tb1):=⟨WC hp hc.out hb.out⟩
theorem zV:jTs X [] tYes:=⟨Qn⟩
theorem ya(h:jT X c tA):jTs X [c] tA:=⟨Qo h.out⟩
theorem zW{scope:Scope}(M:List Str)(hc:X.calm=true)(hi:jI X tg iter wi)(hg:∀C s H ex E,jG (cxLC X scope (clOf scope X.env) M C s H ex E) tg g)(ht:∀C s H ex E,jTs (cxLC X scope (clOf scope X.env) M C s H ex E) ifs tt)
  (he:∀C s H ex E,jE (cxLC X scope (clOf scope X.env) M C s H ex E) elt te) (hs:∀x,foldedSetIterable iter X.env x=pure x:=by intro _;rfl)
  (h1:closureFor scope X.env=pure (clOf scope X.env):=by with_unfolding_all rfl) (h2:scope.kind=.function:=by rfl) (h3:scope.names.all (fun y=>y.2 != .cell)=true:=by rfl) (h4:scope.names.all (fun y=>y.2 != .local || scope.names.lookup y.1 == some .local)=true:=by rfl)
  (h5:X.N.all (fun y=>scope.names.lookup y != some .local)=true:=by rfl) (h6:scope.names.all (fun p=>p.2 != .free || (((clOf scope X.env).lookup p.1).isSome && (X.env.kindOf p.1 == some .cell || X.env.kindOf p.1 == some .free)))=true:=by rfl) :
  jE X (.ListComp elt [⟨tg,iter,ifs,0⟩] scope pos) (tLC wi g tt te M.length):=⟨Qp M hc hi.out (fun C s H ex E=>(hg C s H ex E).out) (fun C s H ex E=>(ht C s H ex E).out) (fun C s H ex E=>(he C s H ex E).out) hs h1 h2 h3 h4 h5 h6⟩
theorem yC{scope:Scope}(M:List Str){i:Nat}{py spos:Pos}(hN:X.N.Nodup)(hi':X.N[i]?=some y)(hy:Loc X.env.scope y)(hc:X.calm=true)(hi:jI X tg iter wi)(hg:∀C s H ex E,jG (cxLC X scope (clOf scope X.env) M C s H ex E) tg g)
  (ht:∀C s H ex E,jTs (cxLC X scope (clOf scope X.env) M C s H ex E) ifs tt) (he:∀C s H ex E,jE (cxLC X scope (clOf scope X.env) M C s H ex E) elt te) (hs:∀x,foldedSetIterable iter X.env x=pure x:=by intro _;rfl)
  (hsw:swapsWith (.ListComp elt [⟨tg,iter,ifs,0⟩] scope pos) (some (.Name y py)) spos.line X.env=pure true:=by rfl)
  (hf:X.fn y=true\/X.env.scope.names.lookup y=some .local:=by first|exact .inl rfl|exact .inr rfl|assumption)
  (h1:closureFor scope X.env=pure (clOf scope X.env):=by with_unfolding_all rfl) (h2:scope.kind=.function:=by rfl) (h3:scope.names.all (fun y=>y.2 != .cell)=true:=by rfl) (h4:scope.names.all (fun y=>y.2 != .local || scope.names.lookup y.1 == some .local)=true:=by rfl)
  (h5:X.N.all (fun y=>scope.names.lookup y != some .local)=true:=by rfl) (h6:scope.names.all (fun p=>p.2 != .free || (((clOf scope X.env).lookup p.1).isSome && (X.env.kindOf p.1 == some .cell || X.env.kindOf p.1 == some .free)))=true:=by rfl) :
  jS X (.Assign [.Name y py] (.ListComp elt [⟨tg,iter,ifs,0⟩] scope pos) spos) (fun D σ H=>tLC wi g tt te M.length σ H fun v H1=>D.nx (σ.set i (some v)) H1) :=
 ⟨Qr M hN hi' hy hc hi.out (fun C s H ex E=>(hg C s H ex E).out) (fun C s H ex E=>(ht C s H ex E).out) (fun C s H ex E=>(he C s H ex E).out) hs hsw hf h1 h2 h3 h4 h5 h6⟩
theorem ZJ{scope:Scope}(S:List Nat)(M:List Str)(hc:X.calm=true)(hi:jI X tg iter wi)(hg:∀C s H ex E,jG (cxLC X scope (clOf scope X.env) M C s H ex E) tg g)(ht:∀C s H ex E,jTs (cxLC X scope (clOf scope X.env) M C s H ex E) ifs tt)
  (he:∀C s H ex E,jE (cxLC X scope (clOf scope X.env) M C s H ex E) elt te) (hs:∀x,foldedSetIterable iter X.env x=pure x:=by intro _;rfl)
  (h1:closureFor scope X.env=pure (clOf scope X.env):=by with_unfolding_all rfl) (h2:scope.kind=.function:=by rfl) (h3:scope.names.all (fun y=>y.2 != .cell)=true:=by rfl) (h4:scope.names.all (fun y=>y.2 != .local || scope.names.lookup y.1 == some .local)=true:=by rfl)
  (h5:X.N.zipIdx.all (fun y=>S.contains y.2 || scope.names.lookup y.1 != some .local)=true:=by rfl) (h6:scope.names.all (fun p=>p.2 != .free || (((clOf scope X.env).lookup p.1).isSome && (X.env.kindOf p.1 == some .cell || X.env.kindOf p.1 == some .free)))=true:=by rfl) :
  jE X (.ListComp elt [⟨tg,iter,ifs,0⟩] scope pos) (tLCS S wi g tt te M.length):=⟨WY S M hc hi.out (fun C s H ex E=>(hg C s H ex E).out) (fun C s H ex E=>(ht C s H ex E).out) (fun C s H ex E=>(he C s H ex E).out) hs h1 h2 h3 h4 h5 h6⟩
theorem ZK{scope:Scope}(S:List Nat)(M:List Str){i:Nat}{py spos:Pos}(hN:X.N.Nodup)(hi':X.N[i]?=some y)(hy:Loc X.env.scope y)(hc:X.calm=true)(hi:jI X tg iter wi)(hg:∀C s H ex E,jG (cxLC X scope (clOf scope X.env) M C s H ex E) tg g)
  (ht:∀C s H ex E,jTs (cxLC X scope (clOf scope X.env) M C s H ex E) ifs tt) (he:∀C s H ex E,jE (cxLC X scope (clOf scope X.env) M C s H ex E) elt te) (hs:∀x,foldedSetIterable iter X.env x=pure x:=by intro _;rfl)
  (hsw:swapsWith (.ListComp elt [⟨tg,iter,ifs,0⟩] scope pos) (some (.Name y py)) spos.line X.env=pure true:=by rfl)
  (hf:X.fn y=true\/X.env.scope.names.lookup y=some .local:=by first|exact .inl rfl|exact .inr rfl|assumption)
  (h1:closureFor scope X.env=pure (clOf scope X.env):=by with_unfolding_all rfl) (h2:scope.kind=.function:=by rfl) (h3:scope.names.all (fun y=>y.2 != .cell)=true:=by rfl) (h4:scope.names.all (fun y=>y.2 != .local || scope.names.lookup y.1 == some .local)=true:=by rfl)
  (h5:X.N.zipIdx.all (fun y=>S.contains y.2 || scope.names.lookup y.1 != some .local)=true:=by rfl) (h6:scope.names.all (fun p=>p.2 != .free || (((clOf scope X.env).lookup p.1).isSome && (X.env.kindOf p.1 == some .cell || X.env.kindOf p.1 == some .free)))=true:=by rfl) :
  jS X (.Assign [.Name y py] (.ListComp elt [⟨tg,iter,ifs,0⟩] scope pos) spos) (fun D σ H=>tLCS S wi g tt te M.length σ H fun v H1=>D.nx (σ.set i (some v)) H1) :=
 ⟨WZ S M hN hi' hy hc hi.out (fun C s H ex E=>(hg C s H ex E).out) (fun C s H ex E=>(ht C s H ex E).out) (fun C s H ex E=>(he C s H ex E).out) hs hsw hf h1 h2 h3 h4 h5 h6⟩
theorem ye:jOp X (binaryOp .Add) (rI0 fun i j=>.int (i+j)):=⟨zbp⟩
theorem xF:jOp X (binaryOp .Sub) (rI0 fun i j=>.int (i-j)):=⟨zbq⟩
theorem j9:jOp X (binaryOp .Mult) (rI CMul fun i j=>.int (i*j)):=⟨zbr⟩
theorem xV:jOp X (binaryOp .FloorDiv) (rI CDiv fun i j=>.int (i / j)):=⟨J9⟩
theorem xG:jOp X (binaryOp .Mod) (rI (fun _ j=>0 < j) fun i j=>.int (i % j)):=⟨zbs⟩
theorem zz:jOp X (compareOp .Eq) rEq:=⟨zcw⟩
theorem wY:jOp X (compareOp .NotEq) rNe:=⟨zcx⟩
theorem W9:jOp X (compareOp .Lt) (rI0 fun i j=>.bl (decide (i < j))):=⟨zcy⟩
theorem Va:jOp X (compareOp .LtE) (rI0 fun i j=>.bl (decide (i<=j))):=⟨zcz⟩
theorem wm:jOp X (compareOp .Gt) (rI0 fun i j=>.bl (decide (j < i))):=⟨zcA⟩
theorem wL:jOp X (compareOp .In) (rIn X.K false):=⟨X2⟩
theorem yv:jOp X (binaryOp .Add) (fun x y H Q=>∃i j,x=.str i/\y=.str j/\i.length+j.length<=sizeLine/\Q (.str (i++j)) H):=⟨Yj⟩
theorem vC:jOp X (binaryOp .Mult) (fun x y H Q=>∃z n,x=.str z/\y=.int n/\MulOk z n/\Q (.str (Txt.mul z n)) H):=⟨Yu⟩
theorem zZ:jOp X (binaryOp .Add) rCat:=⟨zbF⟩
theorem Qv:jOp X (binaryOp .Add) (zaI X.K):=⟨Qk⟩
theorem yb:jIx X (rIxL X.K):=⟨Ql⟩
theorem vD:jIx X (rIxT X.K):=⟨zbB⟩
theorem Yv:jIx X rIxS:=⟨zbC⟩
theorem Xm:jSl X (rSlL X.K):=⟨Qm⟩
theorem zbK:jSl X (rSlT X.K):=⟨zbA⟩
theorem yf:jMt X "list.append" Xh:=⟨X3⟩
theorem Vb:jMt X "list.pop" rPop:=⟨zbE⟩
theorem X8:jMt X "list.extend" Xi:=⟨X4⟩
theorem vE:jCa X (.builtin "len") (fun xs H Q=>∃p ys,xs=[.ref p]/\(SqL X.K H p ys\/SqT X.K H p ys)/\Q (.int ys.length) H):=⟨jX⟩
theorem Yw:jCa X (.type "str") (fun xs H Q=>∃i,xs=[.int i]/\i.natAbs.log2 < 1920/\Q (.str (toString i)) H):=⟨jN⟩
theorem zM:jCa X (.type "tuple") (fun xs H Q=>∃p ys,xs=[.ref p]/\((SqL X.K H p ys/\∀l,H l=none->Q (.ref l) (upd H l (.tup ys)))\/(SqT X.K H p ys/\Q (.ref p) H))):=⟨v6⟩
theorem yX:jCa X (.type "list") (fun xs H Q=>∃p ys,xs=[.ref p]/\(SqL X.K H p ys\/SqT X.K H p ys)/\∀l,H l=none->Q (.ref l) (upd H l (.lst ys))):=⟨jY⟩
end
section
variable{P:Program}{w:World}{K:ub}{mg:Str->Option Value}{base:Heap}
theorem Fun.by{x qual:Str}{st:Stmt}{f:Addr}{fd:FuncData}{N ps:List Str}{k:Nat}{sp:Sp}(F:Fun K x qual st f fd)(S:FnScope N ps (zn st))(len:∀vs H Q E,sp vs H Q E->vs.length=ps.length)
  (hbody:∀(cdv:Value)(A:Around)(outer:List Env)(s:Shared)(H:Hp)(vs:List V)(Q:VK)(E:XK),Room k (A.deeper (envOfC qual (zn st) s.heap.objs.size f cdv))->sp vs H Q E ->
   ∃t,jSs (cxOf CX0 P w K mg base N qual (zn st) f cdv A outer s H E).nox (z9 st) t/\t { nx:=fun _ H'=>Q .non H',rt:=Q } (yU N vs) H):FnOk P w K mg base CX0 (k+1) f fd ps sp :=
 F.ok S len fun cdv A outer s H vs Q E hr h=>let ⟨t,b,q⟩:=hbody cdv A outer s H vs Q E hr h;⟨t,b.out,q⟩
end
end L2
namespace L2
open PySem
structure Mv(fs xs:List Addr)(h h':Heap):Prop where
 keep:∀b o,h.get? b=some o->b∉fs->b∉xs->h'.get? b=some o
 slot:∀b o,h.get? b=some o->b∉xs->∃sl,h'.get? b=some { o with slots:=sl }
 there:∀b o,h.get? b=some o->∃o',h'.get? b=some o'
theorem Mv.trans{fs xs:List Addr}{h h1 h2:Heap}(a:Mv fs xs h h1)(b:Mv fs xs h1 h2):Mv fs xs h h2 :=
 ⟨fun c o e f x=>b.keep c o (a.keep c o e f x) f x,fun c o e x=>let ⟨_,e1⟩:=a.slot c o e x;let ⟨sl,e2⟩:=b.slot c _ e1 x;⟨sl,e2⟩,fun c o e=>let ⟨o1,e1⟩:=a.there c o e;b.there c o1 e1⟩
theorem Mv.mono{fs fs' xs xs':List Addr}{h h1:Heap}(a:Mv fs xs h h1)(hf:∀b∈fs,b∈fs')(hx:∀b∈xs,b∈xs'):Mv fs' xs' h h1 :=
 ⟨fun c o e f x=>a.keep c o e (fun z=>f (hf c z)) fun z=>x (hx c z),fun c o e x=>a.slot c o e fun z=>x (hx c z),a.there⟩
structure Tr(h:Heap)(e:Addr)(C:Value)(dx:Option Addr)(T:Addr)(fl:Value):Prop where
 ex:∃oe vs,h.get? e=some oe/\oe.cls=C/\oe.dict=dx/\oe.data=.fields vs/\vs[1]?=some (.ref T)/\vs[2]?=some .none
 tb:∃ot ts,h.get? T=some ot/\ot.data=.fields ts/\ts[3]?=some fl
 ne:T≠e
theorem xH(f:Array Value->Array Value)(o:Obj):(Obj.mapFields f o).dict=o.dict:=by
 unfold Obj.mapFields
 split<;>rfl
theorem Yx{h base:Heap}{l:List Env}(hl:h.FunFrames base l){e:Addr}{oe:Obj}{vs:Array Value}(he:h.get? e=some oe)(hd:oe.data=.fields vs):e∉l.filterMap (·.frame):=fun z=>by
 obtain⟨_,o,ho,nf⟩:=hl.mem z
 rw[he]at ho
 cases ho
 exact nf vs hd
section
variable{M:Model}{A:Around}{E:Value->Shared->Prop}{s:Shared}{base:Heap}{env:Env}{outer:List Env}{L e T:Addr}{C:Value}{dx:Option Addr}{Q:Unit->Shared->Prop}
theorem jp{oe:Obj}{vs:Array Value}{head:Value}{had:Bool}(hfr:A.frames=some (env::outer))(hl:s.heap.FunFrames base (env::outer))(hf:env.frame=some L)
  (he:s.heap.get? e=some oe) (hd:oe.data=.fields vs) (hsz:1 < vs.size) (hz2:vs[2]?=some .none)
  (hq:∀h' T,s.heap.objs.size<=T->Tr h' e oe.cls oe.dict T (rawInt L)->Mv ((env::outer).filterMap (·.frame)) [e] s.heap h'->Q () { s with heap:=h' }) :
  wpAny M A (do let a <- frameOf env;let pl <- entryPlaceOf L had;let b <- EntryCells.newEntry head a .none (rawInt L) .none pl;setField (.ref e) 1 b) Q E s:=by
 have nf:=Yx hl he hd
 refine wpAny_bind (wpAny_frameOf_fun hfr hl hf fun h1 s1=>wpAny_bind (wpAny_entryPlaceOf fun pl hp=>?_))
 unfold EntryCells.newEntry newFields
 refine wpAny_bind (wpAny_newObj_type ?_ (by exact hp.sizeOk5 _ _ _ _ _))
 have e1:h1.get? e=some oe:=(s1.2.1 e nf).trans he
 have ne:h1.objs.size≠e:=UU (uq e1)
 generalize ho:({ cls:=.type "traceback",dict:=none,data:=.fields ([head,.ref L,.none,rawInt L,.none]++(if pl.isEmpty then Um 6 Value.none else pl)).toArray }:Obj)=ob
 have t3:∃ts,ob.data=.fields ts/\ts[3]?=some (rawInt L):=by
  subst ho
  refine⟨_,rfl,?_⟩
  simp
 have fr:ob.isFreed=false:=by
  obtain⟨ts,q,_⟩:=t3
  exact Obj.isFreed_of_fields q
 have e2:=ud (h:=h1) ob e1
 refine wpAny_setField e2 hd hsz (hq _ h1.objs.size (Nat.le_of_eq s1.1.symm) ⟨?_,?_,ne⟩ ⟨fun b o q f x=>?_,fun b o q x=>?_,fun b o q=>?_⟩)
 ·exact⟨_,_,uU _ e2 (Obj.isFreed_of_fields (Obj.data_mapFields hd _)),Obj.cls_mapFields _ _,xH _ _,Obj.data_mapFields hd _,by simp[hsz],by simp[hz2]⟩
 ·obtain⟨ts,q1,q2⟩:=t3
  exact⟨ob,ts,(uE _ _ (Ne.symm ne)).trans (ut _ fr),q1,q2⟩
 ·rw[uE _ _ (fun z=>x (by simp[z]))]
  exact ud _ ((s1.2.1 b f).trans q)
 ·obtain⟨sl,q1⟩:=s1.2.2 b o q
  exact⟨sl,by rw[uE _ _ (fun z=>x (by simp[z]))];exact ud _ q1⟩
 ·obtain⟨sl,q1⟩:=s1.2.2 b o q
  by_cases z:b=e
  ·subst z
   exact⟨_,uU _ e2 (Obj.isFreed_of_fields (Obj.data_mapFields hd _))⟩
  ·exact⟨_,by rw[uE _ _ (Ne.symm z)];exact ud _ q1⟩
theorem jq{oe:Obj}{vs:Array Value}(hfr:A.frames=some (env::outer))(hl:s.heap.FunFrames base (env::outer))(hf:env.frame=some L)
  (he:s.heap.get? e=some oe) (hd:oe.data=.fields vs) (h1:vs[1]?=some .none) (hz2:vs[2]?=some .none)
  (hq:∀h' T,s.heap.objs.size<=T->Tr h' e oe.cls oe.dict T (rawInt L)->Mv ((env::outer).filterMap (·.frame)) [e] s.heap h'->Q () { s with heap:=h' }) :
  wpAny M A (noteFrame (.ref e) env) Q E s:=by
 unfold noteFrame
 simp only[hf]
 refine wpAny_bind (wpAny_field he hd h1 ?_)
 rw[if_neg (by decide:¬ ((Value.none != Value.none)=true))]
 exact jp hfr hl hf he hd (Array.getElem?_eq_some_iff.mp h1).1 hz2 hq
theorem vm{fl:Value}{v:Option Addr}(t:Tr s.heap e C dx T fl)(hq:∀h',Tr h' e C dx T (v.elim .none fun f=>rawInt f)->Mv [] [T] s.heap h'->Q () { s with heap:=h' }):
  wpAny M A (setFlight (.ref e) v) Q E s:=by
 obtain⟨⟨oe,vs,he,hc,hx,hd,h1,hz2⟩,⟨ot,ts,ht,hdt,h3⟩,ne⟩:=t
 unfold setFlight
 refine wpAny_bind (wpAny_field he hd h1 ?_)
 rw[if_pos (by simp:(Value.ref T != Value.none)=true)]
 have up:=uU (Obj.mapFields (·.setIfInBounds 3 (v.elim .none fun f=>rawInt f))) ht (Obj.isFreed_of_fields (Obj.data_mapFields hdt _))
 refine wpAny_setField ht hdt (Array.getElem?_eq_some_iff.mp h3).1 (hq _ ⟨⟨oe,vs,(uE _ _ ne).trans he,hc,hx,hd,h1,hz2⟩,⟨_,_,up,Obj.data_mapFields hdt _,?_⟩,ne⟩ ⟨fun b o q _ x=>?_,fun b o q x=>⟨o.slots,?_⟩,fun b o q=>?_⟩)
 ·simp[(Array.getElem?_eq_some_iff.mp h3).1]
 ·exact(uE _ _ (fun z=>x (by simp[z]))).trans q
 ·exact(uE _ _ (fun z=>x (by simp[z]))).trans q
 ·by_cases z:b=T
  ·subst z
   exact⟨_,up⟩
  ·exact⟨o,(uE _ _ (Ne.symm z)).trans q⟩
theorem ZM(hfr:A.frames=some (env::outer))(hl:s.heap.FunFrames base (env::outer))(hf:env.frame=some L)(t:Tr s.heap e C dx T .none)
  (hq:∀h' T',s.heap.objs.size<=T'->Tr h' e C dx T' (rawInt L)->Mv ((env::outer).filterMap (·.frame)) [e,T] s.heap h'->Q () { s with heap:=h' }) :
  wpAny M A (noteFrame (.ref e) env) Q E s:=by
 obtain⟨⟨oe,vs,he,hc,hx,hd,h1,hz2⟩,⟨ot,ts,ht,hdt,h3⟩,ne⟩:=t
 subst hc
 subst hx
 unfold noteFrame
 simp only[hf]
 refine wpAny_bind (wpAny_field he hd h1 ?_)
 rw[if_pos (by simp:(Value.ref T != Value.none)=true)]
 refine wpAny_bind (wpAny_field ht hdt h3 ?_)
 rw[if_neg (by simp[rawInt]:¬ ((Value.none == rawInt L)=true))]
 have up:=uU (Obj.mapFields (·.setIfInBounds 3 .none)) ht (Obj.isFreed_of_fields (Obj.data_mapFields hdt _))
 have k:∀b o,b≠T->s.heap.get? b=some o->(s.heap.update T (Obj.mapFields (·.setIfInBounds 3 .none))).get? b=some o:=fun b o z q=>(uE _ _ (Ne.symm z)).trans q
 refine wpAny_bind (wpAny_setField ht hdt (Array.getElem?_eq_some_iff.mp h3).1 ?_)
 refine jp (base:=base) hfr (hl.of_keeps fun b o q nf=>⟨o,k b o (fun z=>?_) q,rfl⟩) hf (k e oe (Ne.symm ne) he) hd (Array.getElem?_eq_some_iff.mp h1).1 hz2 fun h' T' hs t m=>hq h' T' ?_ t ⟨fun b o q f x=>?_,fun b o q x=>?_,fun b o q=>?_⟩
 ·rw[z,ht]at q
  cases q
  exact nf ts hdt
 ·rw[Heap.size_after_update]at hs
  exact hs
 ·exact m.keep b o (k b o (fun z=>x (by simp[z])) q) f fun z=>x (by simp at z;simp[z])
 ·exact m.slot b o (k b o (fun z=>x (by simp[z])) q) fun z=>x (by simp at z;simp[z])
 ·by_cases z:b=T
  ·subst z
   exact m.there b _ up
  ·exact m.there b o (k b o z q)
end
end L2
namespace L2
open PySem PySem.Spec PyProof.Rows
theorem HOk.moved{P:Program}{w:World}{H:Hp}{h h':Heap}{fs xs:List Addr}(x:HOk P w H h)(m:Mv fs xs h h')(hf:∀b∈fs,H b=none)(hx:∀b∈xs,H b=none):HOk P w H h':=fun a o e =>
 (x a o e).stay (fun b u hb q=>m.keep b u q (fun z=>by
   have n:=hf b z
   rcases hb with r|r
   ·rw[r,e]at n
    cases n
   ·rw[r]at n
    cases n) fun z=>by
   have n:=hx b z
   rcases hb with r|r
   ·rw[r,e]at n
    cases n
   ·rw[r]at n
    cases n) (fun _ q=>q) fun _ _ q=>q
def CXf(P:Program)(w:World):CXT:=fun outer H s E u s'=>∃(e T:Addr)(C:Value)(dx:Option Addr)(H':Hp),u=.ref e/\s'.os=s.os/\AllBare s'.gens/\Un (frs outer) [] H H' s.heap s'.heap/\HOk P w H' s'.heap /\
 Tr s'.heap e C dx T .none/\(s.heap.objs.size<=e/\s.heap.objs.size<=T)/\(H' e=none/\H' T=none)/\E C dx H'
def Fl(h:Heap)(H:Hp)(n:Nat)(e:Addr)(C:Value)(dx:Option Addr):Prop :=
 (∃oe vs,h.get? e=some oe/\oe.cls=C/\oe.dict=dx/\oe.data=.fields vs/\vs[1]?=some .none/\vs[2]?=some .none)\/∃T,Tr h e C dx T .none/\H T=none/\n<=T
def Air(X:Cx)(pins:List (Addr×Obj))(σ:St)(E:XK)(u:Value)(s':Shared):Prop:=∃(e:Addr)(C:Value)(dx:Option Addr)(H':Hp)(n:Nat),u=.ref e/\Inv X pins σ H' s'/\H' e=none/\X.s₀.heap.objs.size<=n/\n<=e/\(∀p∈X.pn++pins,p.1 < n)/\Fl s'.heap H' n e C dx/\E C dx H'
section
variable{P:Program}{w:World}{K:ub}{mg:Str->Option Value}{base:Heap}{N:List Str}{qual:Str}{scope:Scope}{f:Addr}{cd:Value}{A:Around}{outer:List Env}{s:Shared}{H:Hp}{E:XK}
theorem jr{pins:List (Addr×Obj)}{σ:St}{u:Value}{s':Shared}(h:Air (cxOf (CXf P w) P w K mg base N qual scope f cd A outer s H E) pins σ E u s'):(cxOf (CXf P w) P w K mg base N qual scope f cd A outer s H E).xe u s':=by
 obtain⟨e,C,dx,H',n,rfl,I,ne,hn,he,hp,st,hE⟩:=h
 have fin:∀(h2:Heap)(T:Addr)(xs:List Addr),Tr h2 e C dx T .none->Mv (frs (cxOf (CXf P w) P w K mg base N qual scope f cd A outer s H E).stack) xs s'.heap h2->(∀b∈xs,H' b=none/\s.heap.objs.size<=b)->H' T=none->s.heap.objs.size<=T ->
   CXf P w outer H s E (.ref e) { s' with heap:=h2 }:=by
  intro h2 T xs t m hx nT sT
  have nst:∀(b:Addr)(o:Obj),s.heap.get? b=some o->b∉frs outer->b∉frs (cxOf (CXf P w) P w K mg base N qual scope f cd A outer s H E).stack:=fun b o q nb z=>by
   rcases uu.mp (I.stkSub b z)with r|r
   ·exact absurd (show b=(cxOf (CXf P w) P w K mg base N qual scope f cd A outer s H E).env.locals from r) (uC (ux (uq q) I.ok.above))
   ·exact nb r
  have nx:∀(b:Addr)(o:Obj),s.heap.get? b=some o->b∉xs:=fun b o q z=>absurd (ux (uq q) (hx b z).2) (Ub _)
  have B:Un (frs outer) [] H H' s.heap s'.heap:=I.base
  refine⟨e,T,C,dx,H',rfl,I.os,I.bare,⟨fun b o q n hb hx=>?_,fun b o q n hb hx=>?_,B.free,fun b o q hx=>?_,B.tups,B.frzs,B.tbls⟩,I.hok.moved m I.stkFree fun b hb=>(hx b hb).1,t,⟨uy hn he,sT⟩,⟨ne,nT⟩,hE⟩
  ·exact m.keep b o (B.keep b o q n hb hx) (nst b o q hb) (nx b o q)
  ·obtain⟨sl,q1⟩:=B.slot b o q n hb hx
   obtain⟨sl2,q2⟩:=m.slot b _ q1 (nx b o q)
   exact⟨sl2,q2⟩
  ·obtain⟨o1,q1⟩:=B.there b o q hx
   exact m.there b o1 q1
 show wpAny (model P w) _ (leaving _ (.ref e)) _ _ s'
 unfold leaving
 rcases st with⟨oe,vs,h1,rfl,rfl,h4,h5,h6⟩|⟨T0,t0,n0,s0⟩
 ·refine wpAny_bind (jq I.ok.frames I.stack rfl h1 h4 h5 h6 fun h' T hs t m=>vm t fun h2 t2 m2=>?_)
  refine fin h2 T [e,T] t2 ((m.mono (fun _ z=>z) fun b z=>?_).trans (m2.mono (fun b z=>nomatch z) fun b z=>?_)) (fun b hb=>?_) (I.hok.fresh hs) (uy I.sz hs)
  ·simp at z
   simp[z]
  ·simp at z
   simp[z]
  ·rcases uu.mp hb with r|hb
   ·rw[r]
    exact⟨ne,uy hn he⟩
   ·rw[uv.mp hb]
    exact⟨I.hok.fresh hs,uy I.sz hs⟩
 ·refine wpAny_bind (ZM I.ok.frames I.stack rfl t0 fun h' T hs t m=>vm t fun h2 t2 m2=>?_)
  refine fin h2 T [e,T0,T] t2 ((m.mono (fun _ z=>z) fun b z=>?_).trans (m2.mono (fun b z=>nomatch z) fun b z=>?_)) (fun b hb=>?_) (I.hok.fresh hs) (uy I.sz hs)
  ·simp at z
   rcases z with z|z<;>simp[z]
  ·simp at z
   simp[z]
  ·rcases uu.mp hb with r|hb
   ·rw[r]
    exact⟨ne,uy hn he⟩
   ·rcases uu.mp hb with r|hb
    ·rw[r]
     exact⟨n0,uy hn s0⟩
    ·rw[uv.mp hb]
     exact⟨I.hok.fresh hs,uy I.sz hs⟩
theorem Vc{X:Cx}{pins:List (Addr×Obj)}{σ:St}{H1:Hp}{s1 s2:Shared}{u:Value}{E':XK}(hP:X.prog=P)(hw:X.w=w)(I:Inv X pins σ H1 s1)(h:CXf P w X.stack H1 s1 E' u s2):Air X pins σ E' u s2:=by
 obtain⟨e,T,C,dx,H',rfl,os,bare,un,hok,t,⟨se,sT⟩,⟨ne,nT⟩,hE⟩:=h
 have I2:Inv X pins σ H' s2:=I.call' (ch:=[]) os un (by rw[hP,hw];exact hok) bare (fun b z=>absurd z (by simp))
 exact⟨e,C,dx,H',s1.heap.objs.size,rfl,I2,ne,I.sz,se,fun p hp=>uq (I.pin p hp).1,.inr ⟨T,t,nT,sT⟩,hE⟩
theorem zX:yG (CXf P w) (cxOf (CXf P w) P w K mg base N qual scope f cd A outer s H E) E:=fun pins σ H1 s1 u s2 I h=>jr (Vc rfl rfl I h)
theorem ownx:PassesOwn (model P w) (cxOf (CXf P w) P w K mg base N qual scope f cd A outer s H E).A (cxOf (CXf P w) P w K mg base N qual scope f cd A outer s H E).env (cxOf (CXf P w) P w K mg base N qual scope f cd A outer s H E).xe:=PassesOwn.leaving
theorem Fun.byx{x:Str}{st:Stmt}{fd:FuncData}{ps:List Str}{k:Nat}{sp:Sp}(F:Fun K x qual st f fd)(S:FnScope N ps (zn st))(len:∀vs H Q E,sp vs H Q E->vs.length=ps.length)
  (hbody:∀(cdv:Value)(A:Around)(outer:List Env)(s:Shared)(H:Hp)(vs:List V)(Q:VK)(E:XK),Room k (A.deeper (envOfC qual (zn st) s.heap.objs.size f cdv))->sp vs H Q E ->
   ∃t,jSs (cxOf (CXf P w) P w K mg base N qual (zn st) f cdv A outer s H E) (z9 st) t/\t { nx:=fun _ H'=>Q .non H',rt:=Q } (yU N vs) H):FnOk P w K mg base (CXf P w) (k+1) f fd ps sp:=by
 obtain⟨oc,od,kV,doc,pm,an,cdv,ct,osl,rfl,lk,hcd⟩:=F.ex
 refine zaG lk hcd S len fun A outer s H vs Q E hr hsp=>?_
 obtain⟨t,h,q⟩:=hbody cdv A outer s H vs Q E hr hsp
 exact⟨t,h.out,q⟩
end
end L2
namespace L2
open PySem
section
variable{M:Model}{A:Around}{E:Value->Shared->Prop}{env:Env}{nm q:Str}{C N:Addr}{bs bm:List Value}{hdct:Bool}{sn:List Str}{sub:List Value}{ab:Bool}{col:Option Bool}{dd:Option Addr}{k0 k1 k2 k3 k5:Option Value}{newId:String}
theorem Qw{s:Shared}{x:Sem Value}{Q:Flow->Shared->Prop}(hb:bm.contains (.type "BaseException")=true)(hh:A.handled=none)
  (h:wpAny M A x (fun v s1=>∃e oe vs,v=.ref e/\s1.heap.get? C=some (excClassObj nm q C N bs bm hdct sn sub ab col dd k0 k1 k2 k3 k5 newId)/\s1.heap.get? e=some oe/\oe.cls=.ref C/\oe.data=.fields vs/\vs[1]?=some .none/\E (.ref e) s1) E s) :
  wpAny M A (raiseStmt env (some x) none) Q E s:=by
 have cB:(Value.ref C::bm).contains (.type "BaseException")=true:=by rw[List.contains_cons,hb,Bool.or_true]
 unfold raiseStmt
 refine wpAny_bind (wpAny_mono h (fun v s1 h1=>?_) fun _ _ x=>x)
 obtain⟨e,⟨c,d0,dt,sl⟩,vs,rfl,hC,he,hc,hd,hv,hE⟩:=h1
 dsimp only at hc hd
 subst hc hd
 obtain⟨hp,g,d,tk,os⟩:=s1
 repeat (first|(with_reducible refine wpAny_field he rfl hv ?_)|with_reducible refine wpAny_loadPart_at he ?_|with_reducible refine wpAny_loadPart_at hC ?_|(with_reducible refine wpAny_isSubtype_exc hC ?_;rw[cB])|wp_step)
 exact wpAny_raiseNew_none hh hE
end
theorem Qx{M:Model}{A:Around}{E:Value->Shared->Prop}{s:Shared}{f:Addr}{ob:Obj}{self:Value}{Q:Value×List Value->Shared->Prop}(h1:s.heap.get? f=some ob)(h2:ob.cls=.type "function")(q:Q (.ref f,[self]) s):wpAny M A (bindSpecial (.ref f) self) Q E s:=by
 unfold bindSpecial
 refine wpAny_bind (wpAny_typeOf (T:="function") ⟨ob,h1,h2⟩ ?_)
 exact wpAny_pure q
abbrev xI(rest:List Value):Obj:={ cls:=.type "tuple",data:=.seq rest.toArray }
abbrev wn(C t:Addr):Obj:={ cls:=.ref C,data:=.fields #[.ref t,.none,.none,.none,.bool false,.none] }
section
variable{prog:Program}{w:World}{A:Around}{E:Value->Shared->Prop}{h:Heap}{g:Array GenState}{d:Drawn}{t:Nat}{os:OsState}
variable{nm q:Str}{C N f:Addr}{bs bm bmB:List Value}{hdct:Bool}{sn:List Str}{sub:List Value}{ab:Bool}{col:Option Bool}{dd:Option Addr}{k0 k1 k2 k3 k5:Option Value}{B Bn newId nid initId inN:String}{bmN:List Value}
theorem ZN(Fn:ExcBaseFacts Bn newId inN bmN)(hBn:bmB.contains (.type Bn)=true)(F:ExcBaseFacts B nid initId bmB)(T:OwnTail h bmB bm){mN:Str->Option Value}{rest:List Value}{Q:Fin->Shared->Prop}{ob:Obj}
  (hC:h.get? C=some (excClassObj nm q C N bs bm hdct sn sub ab col dd k0 k1 k2 k3 k5 newId)) (hn:h.Ns N mN) (hi:mN "__init__"=some (.ref f)) (hf:h.get? f=some ob) (hfc:ob.cls=.type "function") (hrest:rest.length<=sizeLine)
  (hq:wpAny (model prog w) A (call (.ref f) (.ref (h.objs.size+1)::rest)) (fun v s'=>v=.none/\Q (.done (.ret (.ref (h.objs.size+1)))) s') E ⟨(h.push (xI rest)).push (wn C h.objs.size),g,d,t,os⟩) :
  wpAny (model prog w) A (Builtin.«type.__call__» ⟨.ref C::rest,[]⟩) Q E ⟨h,g,d,t,os⟩:=by
 repeat (first|with_reducible refine wpAny_madeBy_exc hC ?_|with_reducible refine wpAny_loadPart_at hC ?_|wp_step)
 refine codeAny_call_builtin_code (Code.quiet_builtin _ Fn.quiet) (wpAny_check_new_subU Fn hBn T hC (codeAny_exc_new_subU Fn hBn F T hC ?_ hrest))
 show wpAny _ _ _ _ _ _
 have k:∀b o,h.get? b=some o->((h.push (xI rest)).push (wn C h.objs.size)).get? b=some o:=fun b o e=>ud _ (ud _ e)
 have C1:=k _ _ hC
 have e1:((h.push (xI rest)).push (wn C h.objs.size)).get? (h.objs.size+1)=some (wn C h.objs.size):=Heap.get?_push_at (by simp only[Uf]) rfl
 have cC:(Value.ref C::bm).contains (.ref C)=true:=by simp
 unfold isInstance
 repeat (first|with_reducible refine wpAny_loadPart_at e1 ?_|(with_reducible refine wpAny_isSubtype_exc C1 ?_;rw[cC])|wp_step)
 show wpAny _ _ (typeLookup (.ref C) _) _ _ _
 refine wpAny_typeLookup_tail C1 (hn.keeps k) (T.keeps k) F.mroIs F.init.lookup ?_
 rw[hi]
 refine wpAny_holding (wpAny_bind (Qx (k _ _ hf) hfc ?_))
 refine wpAny_bind (wpAny_mono hq (fun v s' hv=>?_) fun _ _ x=>x)
 obtain⟨rfl,hv⟩:=hv
 exact wpAny_pure (wpAny_pure hv)
theorem Qy(Fn:ExcBaseFacts Bn newId inN bmN)(hBn:bmB.contains (.type Bn)=true)(F:ExcBaseFacts B nid initId bmB)(T:OwnTail h bmB bm){mN:Str->Option Value}{rest:List Value}{Q:Value->Shared->Prop}{ob:Obj}
  (hC:h.get? C=some (excClassObj nm q C N bs bm hdct sn sub ab col dd k0 k1 k2 k3 k5 newId)) (hn:h.Ns N mN) (hi:mN "__init__"=some (.ref f)) (hf:h.get? f=some ob) (hfc:ob.cls=.type "function") (hrest:rest.length<=sizeLine)
  (hq:wpAny (model prog w) (A.under (.builtin "type.__call__" ⟨.ref C::rest,[]⟩)) (call (.ref f) (.ref (h.objs.size+1)::rest)) (fun v s'=>v=.none/\Q (.ref (h.objs.size+1)) s') E ⟨(h.push (xI rest)).push (wn C h.objs.size),g,d,t,os⟩) :
  wpAny (model prog w) A (call (.ref C) rest) Q E ⟨h,g,d,t,os⟩:=by
 have f1:=tc_lookup
 have f2:=tc_bind (.ref C)
 have hT:(⟨h,g,d,t,os⟩:Shared).TypeIs (.ref C) "type":=⟨_,hC,rfl⟩
 refine wpAny_call (codeAny_of_tree ?_)
 show wpAny _ _ (callAny (.ref C) ⟨rest,[]⟩) _ _ _
 repeat (any_goals (first|assumption|(with_reducible refine wpAny_loadPart_at hC ?_)|wp_step))
 refine⟨rfl,codeAny_call_builtin_at (Code.quiet_builtin _ (by decide +kernel)) entry_typeCall (wpAny_check_type_call_sub hC ?_)⟩
 exact ZN Fn hBn F T hC hn hi hf hfc hrest hq
theorem Qz(F:ExcBaseFacts B nid initId bmB)(T:OwnTail h bmB bm){e t0:Addr}{oe:Obj}{vs:Array Value}{rest:List Value}{Q:Value->Shared->Prop}
  (hC:h.get? C=some (excClassObj nm q C N bs bm hdct sn sub ab col dd k0 k1 k2 k3 k5 newId)) (he:h.get? e=some oe) (hc:oe.cls=.ref C) (hd:oe.data=.fields vs) (h0:vs[0]?=some (.ref t0)) (hrest:rest.length<=sizeLine)
  (hq:Q .none ⟨(h.push (xI rest)).update e (Obj.mapFields (·.setIfInBounds 0 (.ref h.objs.size))),g,d,t,os⟩) :
  wpAny (model prog w) A (call (.builtin initId) (.ref e::rest)) Q E ⟨h,g,d,t,os⟩:=by
 refine wpAny_call (codeAny_call_builtin F.init.plain F.initEntry (wpAny_check_init_subU F T hC he hc ?_))
 unfold Builtin.«BaseException.__init__»
 dsimp only
 rw[if_neg (by simp:¬ ((!List.isEmpty ([]:List (Str×Value)))=true))]
 unfold newTuple Builtin.BaseException.bexcPut
 have e1:=ud (h:=h) (xI rest) he
 refine wpAny_bind (wpAny_newObj_type ?_ (by show rest.toArray.size<=sizeLine;rw[uo];exact hrest))
 refine wpAny_bind (wpAny_bind (wpAny_field e1 hd h0 (wpAny_bind (wpAny_setField e1 hd (Array.getElem?_eq_some_iff.mp h0).1 ?_))))
 exact wpAny_letGo (wpAny_pure hq)
end
end L2
namespace L2
open PySem PySem.W PySem.Calls PyProof.Rows Builtin Builtin.ObjectAttr
def bmV:List Value:=[.type "ValueError",.type "Exception",.type "BaseException",.type "object"]
theorem Vd(self:Value):refuseLoop self "__setattr__" bmV=pure ():=by kernel_rfl
def js:List Value->Bool
 |[]=>false
 |v::r=>(v::r) == bmV || (match v with
  |.ref _=>js r
  |_=>false)
theorem wZ(self:Value):∀{l:List Value},js l=true->refuseLoop self "__setattr__" l=pure ()
 |[],e=>by cases e
 |v::r,e=>by
  unfold js at e
  rcases Bool.or_eq_true_iff.mp e with q|q
  ·rw[beq_iff_eq.mp q]
   exact Vd self
  ·split at q
   ·rw[refuseLoop_ref]
    exact wZ self q
   ·cases q
theorem vF:∀{l:List Value},js l=true->l.contains (.type "object")=true/\l.isEmpty=false
 |[],e=>by cases e
 |v::r,e=>by
  unfold js at e
  rcases Bool.or_eq_true_iff.mp e with q|q
  ·rw[beq_iff_eq.mp q]
   exact⟨by decide,rfl⟩
  ·split at q
   ·exact⟨by rw[List.contains_cons,(vF q).1,Bool.or_true],rfl⟩
   ·cases q
def Za(K:Frag)(C:Addr):Bool:=(clsIn K C).any fun cd=>js cd.mro
section
variable{prog:Program}{w:World}{A:Around}{E:Value->Shared->Prop}{K:Frag}{C e:Addr}{s:Shared}{ox:Obj}{od:Option Obj}{name:Str}{R:Result->Shared->Prop}
theorem QA{tk:Tok}{v:Value}(X:K.In s.heap)(I:InstAt s.heap e ox C od)(hp:Za K C=true)(ht:takerIn K C name=some none)
  (h:∀b,wpAny (model prog w) A.in1 (storeInOwnDict (.ref e) (.ref C) (.str name tk) name v b) (fun fin s'=>match fin with|.done f=>R (.ok f) s'|.again c'=>c'.quiet=true/\codeAny (model prog w) A c' R s') (fun u s'=>R (.error u) s') s) :
  codeAny (model prog w) A (.call (.builtin "object.__setattr__") ⟨[.ref e,.str name tk,v],[]⟩) R s:=by
 have SF:=PySem.F.store_object
 obtain⟨cd,hc,ho⟩:=any_some hp
 have hm:Looks (model prog w) s.heap (mroOf (.ref C)) cd.mro:=(looks_clsIn X hc).andThen .now
 have sub:Looks (model prog w) s.heap (isInstance (.ref e) (.type "object")) true:=I.type.andThen (looks_mroIn X (by unfold mroIn;rw[hc,uz,if_neg (by rw[(vF ho).2];decide),(vF ho).1]))
 obtain⟨attr,ha,hr⟩:=uN.mp ht
 have tk3:Looks (model prog w) s.heap (storeTaker? attr) none:=by
  cases attr with
  |none=>exact .now
  |some a =>
   obtain⟨b,hb,hn⟩:=uf.mp hr
   refine(looks_takesIn X hb).andThen ?_
   cases b
   ·exact .now
   ·cases hn
 refine codeAny_call_builtin SF.slot.plain SF.entry (@check_slot (model prog w) _ _ s "object.__setattr__" "object" "__setattr__" (.ref e) [.str name tk,v] [] _ SF.kind SF.split sub (SF.args (.ref e) (.str name tk) v) ?_)
 rw[osa_eq,refuse_eq]
 refine wpAny_bind (wpAny_bind (I.type.here (wpAny_bind (hm.here ?_))))
 rw[wZ _ ho]
 exact wpAny_pure (wpAny_bind (I.type.here (wpAny_bind ((looks_findIn X ha).here (wpAny_bind (tk3.here (h _)))))))
theorem zbL{oe:Obj}{vs:Array Value}{v:Value}{Q:Unit->Shared->Prop}(X:K.In s.heap)(he:s.heap.get? e=some oe)(hc:oe.cls=.ref C)(hx:oe.dict=none)(hd:oe.data=.fields vs)
  (hs:findIn K (.ref C) "__setattr__"=some (some (.builtin "object.__setattr__"))) (hp:Za K C=true) (ht:takerIn K C name=some none) (hh:(clsIn K C).any (·.hasDict)=true)
  (h:∀h',h'.Ns1 s.heap.objs.size (fun y=>if y=name then some v else none)->h'.get? e=some { oe with dict:=some s.heap.objs.size }->(∀b o,b≠e->s.heap.get? b=some o->h'.get? b=some o)->Q () { s with heap:=h',toks:=s.toks+2 }) :
  wpAny (model prog w) A (setAttr (.ref e) name v) Q E s:=by
 have J:InstAt s.heap e oe C none:=⟨he,hc,by unfold notCls;rw[hd],by rw[hx];trivial⟩
 refine set_plain X J hs (QA (s:={ s with toks:=s.toks+1 }) X J hp ht fun b=>?_)
 obtain⟨cd,hcd,hdd⟩:=any_some hh
 obtain⟨oc,odi,oda,osl⟩:=oe
 dsimp only at hc hx hd
 subst hc hx hd
 refine wpAny_bind (wpAny_pure (wpAny_bind (wpAny_bind (wpAny_loadPart he (wpAny_bind (Looks.here (s:={ s with toks:=s.toks+1 }) (looks_clsIn X hcd) ?_))))))
 rw[hdd]
 have e1:=ud (h:=s.heap) uR he
 have ne:s.heap.objs.size≠e:=UU (uq he)
 have d1:(s.heap.push uR).get? s.heap.objs.size=some uR:=ut _ rfl
 have d2:((s.heap.push uR).update e fun o=>{ o with dict:=some s.heap.objs.size }).get? s.heap.objs.size=some uR:=(uE _ _ (Ne.symm ne)).trans d1
 have e2:=uU (fun o=>{ o with dict:=some s.heap.objs.size }) e1 rfl
 have n2:((s.heap.push uR).update e fun o=>{ o with dict:=some s.heap.objs.size }).Ns s.heap.objs.size (fun _=>none):=⟨uR,#[],_,d2,rfl,(fun z hz=>absurd hz (by simp)),fun _=>rfl⟩
 show wpAny _ _ (alloc uR >>= _) _ _ _
 refine wpAny_bind (wpAny_alloc (wpAny_bind (wpAny_update e1 ?_)))
 refine wpAny_pure (a:=some s.heap.objs.size) (wpAny_bind (wpAny_pure (wpAny_bind ?_)))
 refine wpAny_nsSet1 (Heap.Ns1.of_empty n2) fun h' hn hsb=>?_
 obtain⟨oD,esD,epD,hoD,hdD,hcD⟩:=hn.count (PySem.Within.cons name v PySem.Within.nil)
 refine wpAny_bind (wpAny_lookBehind hoD (by rw[hdD];exact pastItsLine_dict (uy hcD (by show 1<=sizeLine+1;lia))) (wpAny_pure ?_))
 refine h h' hn ((hsb.2 _ (Ne.symm ne)).trans e2) fun b o nb q=>?_
 rw[hsb.2 b (uC (uq q)),uE _ _ (Ne.symm nb)]
 exact ud _ q
theorem xg_slot:Slot "ValueError" "__getattribute__" "BaseException.__getattribute__":=PySem.F.attr_ValueError.ga
theorem zbM{v:Value}{expr:Bool}{Q:Value->Shared->Prop}(X:K.In s.heap)(I:InstAt s.heap e ox C od)(hga:findIn K (.ref C) "__getattribute__"=some (some (.builtin "BaseException.__getattribute__")))(hk:findIn K (.ref C) "__getattr__"=some none)
  (hb:subIn K (.ref C) (.type "BaseException")=some true) (hf:findObj K C od name=some (.value v)) (hh:handedIn v=true) (h:Q v { s with toks:=s.toks+1 }):wpAny (model prog w) A (getAttr (.ref e) name expr) Q E s:=by
 have ty:=I.type (M:=model prog w)
 have fd:=looks_find (M:=model prog w) X I hf
 refine wpAny_bind (wpAny_mkText (wpAny_holding (wpAny_bind (ty _ _ _ _ (fun _ _ q=>q) (wpAny_bind (looks_findIn X hga _ _ _ _ (fun _ _ q=>q) ?_))))))
 dsimp only
 rw[show(onTheHeap (Value.ref C) && Value.builtin "BaseException.__getattribute__" == Value.builtin "object.__getattribute__")=false from by rw[show(Value.builtin "BaseException.__getattribute__" == Value.builtin "object.__getattribute__")=false from by decide +kernel,tf],if_neg (by decide:¬ (false=true))]
 refine wpAny_bind ((looks_hook (mc:=.ref C) X (by rw[if_pos (show onTheHeap (.ref C)=true from rfl)];exact hk)) _ _ _ _ (fun _ _ q=>q) (wpAny_bind (wpAny_attempt (wpAny_holding ?_))))
 unfold callGetattribute
 rw[show(expr && onTheHeap (Value.builtin "BaseException.__getattribute__"))=false from tf _,if_neg (by decide:¬ (false=true))]
 unfold boundAndCalled
 rw[xg_slot.bind]
 refine wpAny_bind (wpAny_pure (wpAny_call (codeAny_call_builtin xg_slot.plain PySem.F.entry_bexc_ga ?_)))
 refine @check_slot (model prog w) _ _ { s with toks:=s.toks+1 } "BaseException.__getattribute__" "BaseException" "__getattribute__" (.ref e) [.str name s.toks] [] _ (by decide +kernel) (by decide +kernel) (ty.andThen (looks_subIn X hb)) (PySem.F.args_bexc_ga (.ref e) (.str name s.toks)) ?_
 refine wpAny_bind (wpAny_pure (wpAny_bind (wpAny_pure (wpAny_bind (ty _ _ _ _ (fun _ _ q=>q) (wpAny_bind (fd _ _ _ _ (fun _ _ q=>q) ?_)))))))
 refine wpAny_pure ?_
 show wpAny _ _ (handedOut v) _ _ _
 rw[handedOut_of hh]
 exact wpAny_pure h
end
end L2
namespace L2
open PySem PySem.Spec PyProof.Rows
def XO(e C:Addr)(dx:Option Addr):HO:=.ext fun h=>∃oe vs t0,h.get? e=some oe/\oe.cls=.ref C/\oe.dict=dx/\oe.data=.fields vs/\vs[0]?=some (.ref t0)/\vs[1]?=some .none/\vs[2]?=some .none
theorem XO.ok{P:Program}{w:World}{H:Hp}{h:Heap}{e C:Addr}{dx:Option Addr}(p:∃oe vs t0,h.get? e=some oe/\oe.cls=.ref C/\oe.dict=dx/\oe.data=.fields vs/\vs[0]?=some (.ref t0)/\vs[1]?=some .none/\vs[2]?=some .none):ObjOk P w H h e (XO e C dx) :=
 ⟨p,let ⟨oe,_,_,q,_⟩:=p;⟨oe,q⟩,fun _ _ ⟨oe,vs,t0,a,r⟩ k=>⟨oe,vs,t0,k oe a,r⟩⟩
theorem XO.get{P:Program}{w:World}{H:Hp}{h:Heap}{e C:Addr}{dx:Option Addr}(x:HOk P w H h)(q:H e=some (XO e C dx)):∃oe vs t0,h.get? e=some oe/\oe.cls=.ref C/\oe.dict=dx/\oe.data=.fields vs/\vs[0]?=some (.ref t0)/\vs[1]?=some .none/\vs[2]?=some .none :=
 (show ObjOk P w H h e (.ext _)from x e _ q).1
def XD(d:Addr)(fs:List (Str×V)):HO:=.ext fun h=>∃mA,h.Ns1 d mA/\(∀f,RelO (fs.lookup f) (mA f))/\PySem.Within mA (fs.map (·.1))/\fs.length<=1000
theorem XD.ok{P:Program}{w:World}{H:Hp}{h:Heap}{d:Addr}{fs:List (Str×V)}(p:∃mA,h.Ns1 d mA/\(∀f,RelO (fs.lookup f) (mA f))/\PySem.Within mA (fs.map (·.1))/\fs.length<=1000):ObjOk P w H h d (XD d fs) :=
 ⟨p,let ⟨_,⟨o,_,_,q,_⟩,_⟩:=p;⟨o,q⟩,fun _ _ ⟨mA,n,r⟩ k=>⟨mA,n.at k,r⟩⟩
theorem XD.get{P:Program}{w:World}{H:Hp}{h:Heap}{d:Addr}{fs:List (Str×V)}(x:HOk P w H h)(q:H d=some (XD d fs)):∃mA,h.Ns1 d mA/\(∀f,RelO (fs.lookup f) (mA f))/\PySem.Within mA (fs.map (·.1))/\fs.length<=1000 :=
 (show ObjOk P w H h d (.ext _)from x d _ q).1
def xIn(K:ub)(C f:Addr):Bool:=match K.lookup C with
 |some ⟨.type "type",_,.cls cd,sl⟩=>(match cd.mro,sl.toList with
  |.ref C'::bm,[_,_,_,_,some (.builtin n),_]=>C' == C && n == "ValueError.__new__" && !cd.hasDel && PySem.W.tailIn K bmV bm && PySem.W.nsOkIn K cd.ns && uL K cd.ns "__init__" == some (some (.ref f)) && bm.contains (.type "BaseException")
  |_,_=>false)
 |_=>false
structure XCl(K:ub)(C f:Addr):Prop where
 cls:xIn K C f=true
 fn:tY K (.ref f)=some (.type "function")
 kp:Ud K (.ref C)=true
 over:Za K C=true
 sa:uA K (.ref C) "__setattr__"=some (some (.builtin "object.__setattr__"))
 hd:(PySem.W.clsIn K C).any (·.hasDict)=true
 ga:uA K (.ref C) "__getattribute__"=some (some (.builtin "BaseException.__getattribute__"))
 ha:uA K (.ref C) "__getattr__"=some none
 sb:PySem.W.subIn K (.ref C) (.type "BaseException")=some true
theorem QB{K:ub}{h:Heap}{N:Addr}{mg:Str->Option Value}{n:Str}{v:Value}(X:K.In h)(G:h.Ns N mg)(e:uL K N n=some (some v)):mg n=some v:=by
 obtain⟨o,es,ep,ho,hd,_,hf⟩:=G
 unfold uL at e
 split at e
 ·rename_i c d es' n' sl q
  have:=X _ _ q
  rw[ho]at this
  cases this
  cases hd
  split at e
  ·rename_i en he
   cases e
   rw[<- hf]
   unfold nsFind findBy
   rw[<- Array.find?_toList,he]
   rfl
  ·split at e<;>cases e
 ·cases e
theorem XCl.at{K:ub}{C f:Addr}(c:XCl K C f){h:Heap}(X:K.In h):∃nm q N bs bm hdct sn sub ab col dd k0 k1 k2 k3 k5 mN,h.get? C=some (excClassObj nm q C N bs bm hdct sn sub ab col dd k0 k1 k2 k3 k5 "ValueError.__new__") /\
  OwnTail h bmV bm/\h.Ns N mN/\mN "__init__"=some (.ref f)/\bm.contains (.type "BaseException")=true:=by
 have q:=c.cls
 unfold xIn at q
 split at q
 ·rename_i dd cd sl ho
  split at q
  ·rename_i C' bm k0 k1 k2 k3 n k5 hm hs
   simp only[UL,beq_iff_eq,Bool.not_eq_true']at q
   obtain⟨⟨⟨⟨⟨⟨rfl,rfl⟩,hdel⟩,ht⟩,hok⟩,hi⟩,hb⟩:=q
   obtain⟨nm,bs,mro,ns,qn,hd,sn,sub,ab,col,del⟩:=cd
   dsimp only at hm hdel hok hi
   subst hm hdel
   have es:sl=#[k0,k1,k2,k3,some (.builtin "ValueError.__new__"),k5]:=by
    obtain⟨l⟩:=sl
    simp only at hs
    rw[hs]
   subst es
   have nN:=PySem.Heap.Ns.of_isNs (PySem.W.isNs_of_in X hok)
   exact⟨nm,qn,ns,bs,bm,hd,sn,sub,ab,col,dd,k0,k1,k2,k3,k5,_,X _ _ ho,PySem.W.tail_of_in X ht,nN,QB X nN hi,hb⟩
  ·cases q
 ·cases q
def drp(H:Hp)(e:Addr):Hp:=fun b=>if b=e then none else H b
theorem vG{H:Hp}{e:Addr}:drp H e e=none:=if_pos rfl
theorem vH{H:Hp}{e b:Addr}(h:b≠e):drp H e b=H b:=if_neg h
theorem Inv.drop{X:Cx}{pins:List (Addr×Obj)}{σ:St}{H:Hp}{s:Shared}{e:Addr}{φ:Heap->Prop}(I:Inv X pins σ H s)(he:H e=some (.ext φ)):Inv X pins σ (drp H e) s:=by
 have no:∀b,H b=none->drp H e b=none:=fun b h=>by
  by_cases q:b=e
  ·rw[q]
   exact vG
  ·rw[vH q]
   exact h
 have nx:∀(b:Addr)(o:HO),H b=some o->(∀ψ,o≠.ext ψ)->drp H e b=some o:=fun b o h n=>by
  have q:b≠e:=fun z=>by
   rw[z,he]at h
   cases h
   exact n _ rfl
  rw[vH q]
  exact h
 refine⟨I.ok,I.os,I.bare,⟨I.base.keep,I.base.slot,fun b o q n x=>no b (I.base.free b o q n x),I.base.there,fun b xs q=>nx _ _ (I.base.tups b xs q) (by intro ψ z;cases z),fun b o u q=>nx _ _ (I.base.frzs b o u q) (by intro ψ z;cases z),fun b ps q=>?_⟩,I.loc,I.cell,no _ I.free,fun x c q=>no _ (I.freeC x c q),fun p hp=>?_,fun a o q=>?_,I.len⟩
 ·obtain⟨m,r⟩:=I.base.tbls b ps q
  exact⟨m,nx _ _ r (by intro ψ z;cases z)⟩
 ·obtain⟨a,b,c⟩:=I.pin p hp
  exact⟨a,no _ b,c⟩
 ·have na:a≠e:=fun z=>by
   rw[z,vG]at q
   cases q
  rw[vH na]at q
  exact(I.hok a o q).stay (fun _ _ _ z=>z) (fun b z=>nx b _ z (by intro ψ y;cases y)) fun b xs z=>nx b _ z (by intro ψ y;cases y)
def Yy(X:Cx)(E:XK):Prop:=∀(pins:List (Addr×Obj))(σ:St)(u:Value)(s':Shared),Air X pins σ E u s'->X.xe u s'
theorem zbN{P:Program}{w:World}{K:ub}{mg:Str->Option Value}{base:Heap}{N:List Str}{qual:Str}{scope:Scope}{f:Addr}{cd:Value}{A:Around}{outer:List Env}{s:Shared}{H:Hp}{E:XK}:
  Yy (cxOf (CXf P w) P w K mg base N qual scope f cd A outer s H E) E:=fun _ _ _ _ h=>jr h
def Ve(C:Addr)(sp:Sp)(E:XK)(t:TA):TS:=fun _ σ H=>t σ H fun vs H1=>vs.length<=sizeLine/\∀e,H1 e=none->sp (.ref e::vs) (upd H1 e (XO e C none)) (fun v H2=>v=.non/\∃dx,H2 e=some (XO e C dx)/\E (.ref C) dx (drp H2 e)) E0
section
variable{X:Cx}{k:Nat}{f C:Addr}{fd:FuncData}{ps:List Str}{sp:Sp}{E:XK}{x:Str}{np cpos pos:Pos}{a:Expr}{as:List Expr}{t:TA}
theorem Vf(M:XCl X.K C f)(F:FnOk X.prog X.w X.K X.mg X.base CX0 k f fd ps sp)(hr:Room (k+1) X.A)(hg:Gl X x)(hm:X.mg x=some (.ref C))(hb:Binds X.K fd ps [])(hx:Yy X E)
  (ha:PA X (a::as) t) (hdb:(x == ("__debug__":Str))=false:=by decide) (h1:zt a=false:=by rfl) (h2:as.all (fun e=>!zt e)=true:=by rfl) :
  PS X (.Raise (some (.Call (.Name x np) (a::as) [] cpos)) none pos) (Ve C sp E t):=by
 intro pins s σ H D I h
 obtain⟨nm,q,N,bs,bm,hdct,sn,sub,ab,col,dd,k0,k1,k2,k3,k5,mN,hC0,T0,n0,i0,hB⟩:=M.at I.mod.kin
 rw[arm_exec_Raise]
 simp only[evalOpt,Option.map]
 refine wpAny_bind (wpAny_standAt (Qw (C:=C) (nm:=nm) (q:=q) (N:=N) (bs:=bs) (hdct:=hdct) (sn:=sn) (sub:=sub) (ab:=ab) (col:=col) (dd:=dd) (k0:=k0) (k1:=k1) (k2:=k2) (k3:=k3) (k5:=k5) (newId:="ValueError.__new__") hB hr.hd (wpAny_bind ?_)))
 refine wpAny_Call_Name_kw (xu I hg hm ?_ hdb)
 refine tD (h₀:=X.base) I.ok.mod.kin M.kp (thn (ha cpos pins s σ H _ I h) fun us s1 ⟨vs,H1,I1,r,hl,q1⟩=>⟨I1.kIn,?_⟩) (zD h1) (yq h2)
 obtain⟨hh,g,d,tk,os⟩:=s1
 have kb:∀b o,X.base.get? b=some o->hh.get? b=some o:=I1.bk
 have e0:H1 (hh.objs.size+1)=none:=I1.hok.fresh (U2 _)
 obtain⟨of,hof,hofc⟩:=uf.mp M.fn
 have hof':hh.get? f=some of:=I1.kIn _ _ hof
 refine Qy tJ (by decide +kernel) tJ (T0.keeps kb) (kb _ _ hC0) (n0.keeps kb) i0 hof' hofc (show us.length<=sizeLine by rw[<- r.length];exact hl) ?_
 have ex:((hh.push (xI us)).push (wn C hh.objs.size)).get? (hh.objs.size+1)=some (wn C hh.objs.size):=Heap.get?_push_at (by simp only[Uf]) rfl
 have I2:Inv X pins σ (upd H1 (hh.objs.size+1) (XO (hh.objs.size+1) C none)) ⟨(hh.push (xI us)).push (wn C hh.objs.size),g,d,tk,os⟩ :=
  I1.laid (a:=hh.objs.size+1) (o:=XO (hh.objs.size+1) C none) (t':=tk) (fun b u q=>ud _ (ud _ q)) (U2 _) (XO.ok ⟨wn C hh.objs.size,_,hh.objs.size,ex,rfl,rfl,rfl,rfl,rfl,rfl⟩)
 have hq:=q1 _ e0
 have r2:Vals (V.ref (hh.objs.size+1)::vs) (Value.ref (hh.objs.size+1)::us):=.cons rfl r
 have hlen:(Value.ref (hh.objs.size+1)::us).length=ps.length:=by rw[<- r2.length];exact F.len _ _ _ _ hq
 have bd:=hb ⟨(hh.push (xI us)).push (wn C hh.objs.size),g,d,tk,os⟩ (Value.ref (hh.objs.size+1)::us) I2.kIn (by rw[uO];exact hlen)
 rw[uO]at bd
 refine wpAny_call (codeAny_mono (F.run _ X.stack _ _ ⟨Value.ref (hh.objs.size+1)::us,[]⟩ (Value.ref (hh.objs.size+1)::us) _ _ E0 (hr.make C us []) (I2.env0.make C us []) bd r2 hq) fun r s' hq'=>?_)
 cases r with
 |error u=>exact False.elim hq'
 |ok fl =>
  cases fl with
  |ret u =>
   obtain⟨v,H',I3,rv,ev,dx,hH,hE⟩:=I2.after hq'
   subst ev
   obtain⟨oe,ws,t0,g1,g2,g3,g4,g5,g6⟩:=XO.get I3.hok hH
   exact⟨rv,wpAny_bind (wpAny_standAt (wpAny_pure ⟨_,oe,ws,rfl,I3.bk _ _ hC0,g1,g2,g4,g6.1,hx pins σ _ s' ⟨_,.ref C,dx,drp H' (hh.objs.size+1),hh.objs.size,rfl,I3.drop hH,vG,I1.sz,U2 _,fun p hp=>uq (I1.pin p hp).1,.inl ⟨oe,ws,g1,g2,g3,g4,g6⟩,hE⟩⟩))⟩
  |next=>exact False.elim hq'
  |brk=>exact False.elim hq'
  |cont=>exact False.elim hq'
end
structure XBase(K:ub)(R:Addr):Prop where
 sp:tZ K (.ref R) "__getattribute__"=some (some (.builtin "type.__getattribute__"))
 rd:PySem.W.readsIn K R (.type "type")=true
 fi:PySem.W.findCls K (.ref R) (.type "type") "__init__"=some (.val (.builtin "ValueError.__init__"))
def zbO(C:Addr)(t:TA):TE:=fun σ H Q=>t σ H fun vs H1=>∃e rest dx,vs=.ref e::rest/\rest.length<=sizeLine/\H1 e=some (XO e C dx)/\Q .non H1
theorem zbP{H:Hp}{e:Addr}{o:HO}(h:H e=some o):upd H e o=H:=by
 funext b
 unfold upd
 split
 ·rename_i q
  rw[q,h]
 ·rfl
section
variable{X:Cx}{f C R:Addr}{x m:Str}{np apos pos pos':Pos}{a o e value:Expr}{as:List Expr}{t:TA}{ta tv te:TE}
theorem Vg{pl:Sem Bool}(M:XCl X.K C f)(B:XBase X.K R)(hg:Gl X x)(hm:X.mg x=some (.ref R))(ha:PA X (a::as) t)(hdb:(x == ("__debug__":Str))=false:=by decide)(h1:zt a=false:=by rfl)(h2:as.all (fun e=>!zt e)=true:=by rfl)
  (ht:eval (.Call (.Attribute (.Name x np) "__init__" apos) (a::as) [] pos) X.env=(do
   let ov <- eval (.Name x np) X.env
   standAt apos.atName
   let (f,first) <- holding [ov] (getMethod ov "__init__" pl)
   callWith pos f first (backTo pos (starEach (a::as) X.env)) (backToKw pos (keywordEach [] X.env))):=by rfl) :
  PE X (.Call (.Attribute (.Name x np) "__init__" apos) (a::as) [] pos) (zbO C t):=by
 intro pins s σ H Q I h
 refine PySem.W.methodCall_KW (pl:=pl) (xu I hg hm ?_ hdb) ht
 refine PySem.W.method_cls I.kIn B.sp (PySem.W.cls_value I.kIn B.rd B.fi (by decide +kernel) ?_)
 have I0:Inv X pins σ H { s with toks:=s.toks+1 }:=I.tok _
 refine PyProof.Rows.callWith_builtin1 (thn (ha pos pins _ σ H _ I0 h) fun us s1 ⟨vs,H1,I1,r,e,rest,dx,ev,hl,hH,q⟩=>?_) (zD h1) (yq h2)
 subst ev
 obtain⟨ue,ur,rfl,re,rr⟩:∃ue ur,us=ue::ur/\RelV (.ref e) ue/\Vals rest ur:=by
  cases r with
  |cons p q=>exact⟨_,_,rfl,p,q⟩
 obtain rfl:ue=Value.ref e:=re
 obtain⟨oe,ws,t0,g1,g2,g3,g4,g5,g6⟩:=XO.get I1.hok hH
 obtain⟨nm,q',N,bs,bm,hdct,sn,sub,ab,col,dd,k0,k1,k2,k3,k5,mN,hC,T,_,_,_⟩:=M.at I1.kIn
 obtain⟨hh,g,d,tk,os⟩:=s1
 refine Qz tJ T hC g1 g2 g4 g5 (by rw[<- rr.length];exact hl) ?_
 have e1:=ud (h:=hh) (xI ur) g1
 have up:=uU (Obj.mapFields (·.setIfInBounds 0 (.ref hh.objs.size))) e1 (Obj.isFreed_of_fields (Obj.data_mapFields g4 _))
 have sz:0 < ws.size:=(Array.getElem?_eq_some_iff.mp g5).1
 have I2:=I1.write (x:=e) (e:=e) (o:=XO e C dx) (h':=(hh.push (xI ur)).update e (Obj.mapFields (·.setIfInBounds 0 (.ref hh.objs.size)))) (t':=tk) (by rw[hH];exact True.intro) (.inl rfl)
  (fun b u nb q=>(uE _ _ (Ne.symm nb)).trans (ud _ q)) ⟨_,up⟩
  (XO.ok ⟨_,_,hh.objs.size,up,(Obj.cls_mapFields _ _).trans g2,(xH _ _).trans g3,Obj.data_mapFields g4 _,by simp[sz],by rw[Array.getElem?_setIfInBounds_ne (by decide)];exact g6.1,by rw[Array.getElem?_setIfInBounds_ne (by decide)];exact g6.2⟩)
 rw[zbP hH]at I2
 exact⟨.non,H1,I2,rfl,q⟩
def zcG(K:ub)(C:Addr)(ta tv:TE)(m:Str):TS:=fun D σ H=>tv σ H fun y H1=>ta σ H1 fun x H2=>∃e,x=.ref e/\H2 e=some (XO e C none)/\tE K C m=some none/\∀d,H2 d=none->d≠e->D.nx σ (upd (upd H2 d (XD d [(m,y)])) e (XO e C (some d)))
theorem QC(M:XCl X.K C f)(ha:PE X o ta)(hv:PE X value tv)(hs:swapsWith value (some (.Attribute o m pos')) pos.line X.env=pure false:=by rfl):PS X (.Assign [.Attribute o m pos'] value pos) (zcG X.K C ta tv m):=by
 intro pins s σ H D I h
 refine plainObj_wpAny_Assign_Attribute (thn (hv pins s σ H _ I h) fun u s1 ⟨y,H1,I1,ry,q⟩=>thn (ha pins s1 σ H1 _ I1 q) fun ov s2 ⟨x,H2,I2,rx,e,ex,hH,hk,q2⟩=>?_) hs
 subst ex
 obtain rfl:ov=Value.ref e:=rx
 obtain⟨oe,ws,t0,g1,g2,g3,g4,g5,g6⟩:=XO.get I2.hok hH
 refine zbL I2.kIn g1 g2 g3 g4 M.sa M.over hk M.hd fun h' hn he kp=>?_
 have nd:s2.heap.objs.size≠e:=UU (uq g1)
 have fd:H2 s2.heap.objs.size=none:=I2.hok.fresh (ui _)
 have ns:∀(b:Addr)(u:HO),H2 b=some u->(∀ψ,u≠.ext ψ)->upd (upd H2 s2.heap.objs.size (XD s2.heap.objs.size [(m,y)])) e (XO e C (some s2.heap.objs.size)) b=some u:=fun b u q nx=>by
  have n1:b≠e:=fun z=>by
   rw[z,hH]at q
   cases q
   exact nx _ rfl
  rw[zm n1,zm (zr q fd)]
  exact q
 have ne':∀b,H2 b=none->b≠e:=fun b q z=>by
  rw[z,hH]at q
  cases q
 refine⟨σ,_,I2.un (H':=upd (upd H2 s2.heap.objs.size (XD s2.heap.objs.size [(m,y)])) e (XO e C (some s2.heap.objs.size))) (h':=h') (t':=s2.toks+2) ⟨fun b o q n _ _=>kp b o (ne' b n) q,fun b o q n _ _=>⟨o.slots,kp b o (ne' b n) q⟩,fun b o q n _=>?_,fun b o q _=>?_,fun b xs q=>ns b _ q (by intro ψ z;cases z),fun b o u q=>ns b _ q (by intro ψ z;cases z),fun b ps q=>⟨#[],by rw[ns b _ q (by intro ψ z;cases z)];simp⟩⟩ fun b u q=>?_,q2 _ fd nd⟩
 ·rw[zm (ne' b n),zm (uC (uq q))]
  exact n
 ·by_cases z:b=e
  ·rw[z]
   exact⟨_,he⟩
  ·exact⟨o,kp b o z q⟩
 ·by_cases z:b=e
  ·subst z
   rw[zg]at q
   cases q
   exact XO.ok ⟨_,ws,t0,he,g2,rfl,g4,g5,g6⟩
  ·rw[zm z]at q
   by_cases z2:b=s2.heap.objs.size
   ·subst z2
    rw[zg]at q
    cases q
    refine XD.ok ⟨_,hn,fun f=>?_,fun f hf=>?_,show 1<=1000 by decide⟩
    ·rw[Ux]
     by_cases w:f=m
     ·rw[if_pos w,w,beq_self_eq_true]
      exact ry
     ·rw[if_neg w,beq_eq_false_iff_ne.mpr w]
      exact True.intro
    ·by_cases w:f=m
     ·rw[w]
      exact uP
     ·exact absurd (if_neg w) hf
   ·rw[zm z2]at q
    refine(I2.hok b u q).stay (fun c v hc r=>kp c v (fun w=>?_) r) (fun c r=>ns c _ r (by intro ψ z;cases z)) fun c xs r=>ns c _ r (by intro ψ z;cases z)
    rcases hc with hc|hc
    ·exact z (hc.symm.trans w)
    ·rw[w,hH]at hc
     cases hc
end
section
variable{X:Cx}{pins:List (Addr×Obj)}{σ:St}{H:Hp}{s:Shared}{h':Heap}{xs:List Addr}
theorem Inv.moved(I:Inv X pins σ H s)(m:Mv (frs X.stack) xs s.heap h')
  (hx:∀b∈xs,H b=none/\(b∈X.ex\/X.s₀.heap.objs.size<=b)/\b≠X.env.locals/\(∀x c,X.env.cells.lookup x=some c->c≠b)/\∀p∈X.pn++pins,p.1≠b):Inv X pins σ H { s with heap:=h' } :=
 I.call (g':=s.gens) (d':=s.drawn) (t':=s.toks) (ch:=xs) ⟨fun b o q _ f x=>m.keep b o q f x,fun b o q _ _ x=>m.slot b o q x,fun _ _ _ n _=>n,fun b o q _=>m.there b o q,fun _ _ q=>q,fun _ _ _ q=>q,fun _ ps q=>⟨#[],by rw[q];simp⟩⟩
  (I.hok.moved m I.stkFree fun b hb=>(hx b hb).1) I.bare fun b hb=>(hx b hb).2
theorem Inv.apart(I:Inv X pins σ H s){b:Addr}{o:Obj}{vs:Array Value}(q:s.heap.get? b=some o)(d:o.data=.fields vs):b≠X.env.locals/\∀x c,X.env.cells.lookup x=some c->c≠b:=by
 refine⟨fun z=>?_,fun x c e z=>?_⟩
 ·obtain⟨m,⟨o',es,ep,ho,hd,_⟩,_⟩:=I.loc
  rw[z,ho]at q
  cases q
  rw[hd]at d
  cases d
 ·obtain⟨v,o',ho,hd⟩:=I.cell x c e
  rw[z,q]at ho
  cases ho
  rw[d]at hd
  cases hd
abbrev Cx.inEx(X:Cx)(u:Value)(p:List (Addr×Obj)):Cx:={ X with A:=X.A.mark (some u),calm:=false,pn:=p++X.pn,xe:=fun _ _=>False }
theorem Inv.inEx(I:Inv X pins σ H s)(u:Value){p:List (Addr×Obj)}(hp:∀q∈p,s.heap.get? q.1=some q.2/\H q.1=none/\q.1≠X.env.locals/\q.1∉X.fs/\∀v,q.2.data≠.cell v):Inv (X.inEx u p) pins σ H s :=
 ⟨⟨I.ok.mod,I.ok.kind,I.ok.glob,I.ok.blt,I.ok.above,I.ok.inj,I.ok.has,I.ok.cab,(fun z=>nomatch z),I.ok.frames,I.ok.stk,I.ok.exf,I.ok.bs,I.ok.bsz,I.ok.noex,I.ok.exfs,I.ok.funs,I.ok.frf⟩,I.os,I.bare,I.base,I.loc,I.cell,I.free,I.freeC,fun q hq=>by
  have hq':q∈(p++X.pn)++pins:=hq
  rw[Uj]at hq'
  rcases uF.mp hq' with z|z
  ·exact hp q z
  ·exact I.pin q z,I.hok,I.len⟩
theorem Inv.outEx{u:Value}{p:List (Addr×Obj)}(ok:X.Ok)(I:Inv (X.inEx u p) pins σ H s):Inv X pins σ H s :=
 ⟨ok,I.os,I.bare,I.base,I.loc,I.cell,I.free,I.freeC,fun q hq=>I.pin q (by
  show q∈(p++X.pn)++pins
  rw[Uj]
  exact uG _ hq),I.hok,I.len⟩
theorem xW{A:Around}{E:Value->Shared->Prop}{i:Nat}{n:Str}{pos:Pos}{Q:Unit->Shared->Prop}(I:Inv X pins σ H s)(hN:X.N.Nodup)(hi:X.N[i]?=some n)(hl:X.env.scope.names.lookup n=some .local)
  (h:∀s',Inv X pins (σ.set i none) H s'->Q () s'):wpAny (model X.prog X.w) A (do bindName X.env n .none;unbindBehindTheSuite X.env n pos) Q E s:=by
 obtain⟨m,hn,hlk⟩:=id I.loc
 have iσ:i < σ.length:=by rw[I.len];exact(ug.mp hi).1
 refine wpAny_nameGoes_keeps (env:=X.env) hl hn (by rw[I.ok.kind];rfl) fun h' v hn' hs=>h _ ?_
 have nl:∀(b:Addr)(o:Obj),X.s₀.heap.get? b=some o->b≠X.env.locals:=fun b o q=>uC (ux (uq q) I.ok.above)
 refine⟨I.ok,I.os,I.bare,⟨fun b o q n hb hx=>(hs.2 b (nl b o q)).trans (I.base.keep b o q n hb hx),fun b o q n hb hx=>?_,I.base.free,fun b o q hx=>?_,I.base.tups,I.base.frzs,I.base.tbls⟩,⟨_,hn',fun j y v' e1 e2 e3=>?_⟩,fun y c q=>?_,I.free,I.freeC,fun p hp=>?_,fun b u q=>?_,by rw[UJ];exact I.len⟩
 ·obtain⟨sl,q1⟩:=I.base.slot b o q n hb hx
  exact⟨sl,(hs.2 b (nl b o q)).trans q1⟩
 ·obtain⟨o1,q1⟩:=I.base.there b o q hx
  exact⟨o1,(hs.2 b (nl b o q)).trans q1⟩
 ·have hj:j≠i:=fun z=>by
   rw[z,UD iσ]at e2
   cases e2
  rw[U1 (Ne.symm hj)]at e2
  obtain⟨u,r,q⟩:=hlk j y v' e1 e2 e3
  refine⟨u,r,?_⟩
  rcases q with⟨k,e⟩|⟨k,c,e,z⟩
  ·have ny:y≠n:=fun z=>hj (vt hN e1 (z ▸ hi))
   exact .inl ⟨k,by simp[ny,e]⟩
  ·exact .inr ⟨k,c,e,z.sameBut hs (I.cne y c e)⟩
 ·obtain⟨w,z⟩:=I.cell y c q
  exact⟨w,z.sameBut hs (I.cne y c q)⟩
 ·obtain⟨a,b,c,d⟩:=I.pin p hp
  exact⟨(hs.2 p.1 c).trans a,b,c,d⟩
 ·refine(I.hok b u q).stay (fun c v hc r=>(hs.2 c fun z=>?_).trans r) (fun _ r=>r) fun _ _ r=>r
  rcases hc with hc|hc
  ·rw[<- hc,z,I.free]at q
   cases q
  ·rw[z,I.free]at hc
   cases hc
end
abbrev Ends.behind(D:Ends)(i:Nat):Ends:={ nx:=fun σ H=>D.nx (σ.set i none) H,rt:=D.rt,bk:=fun σ H=>D.bk (σ.set i none) H,ct:=fun σ H=>D.ct (σ.set i none) H }
section
variable{X:Cx}{Ch:Addr}{x n:Str}{i:Nat}{np hpos tpos:Pos}{b0:Stmt}{suite:List Stmt}{th:Addr->Obj->TS}
variable{k:Nat}{f:Addr}{fd:FuncData}{ps:List Str}{sp:Sp}{y:Str}{p cpos epos:Pos}{a:Expr}{as:List Expr}{t:TA}
end
section
variable{X:Cx}{pins:List (Addr×Obj)}{σ:St}{H:Hp}{s:Shared}{h':Heap}
theorem Inv.turns{t':Nat}{ch:List Addr}(I:Inv X pins σ H s)(k:∀b o,b∉ch->s.heap.get? b=some o->h'.get? b=some o)(hf:∀b∈ch,FpOk X pins H b):Inv X pins σ H { s with heap:=h',toks:=t' }:=by
 have nit:∀b u,H b=some u->b∉ch:=fun b u e z=>by rw[(hf b z).1]at e;cases e
 refine I.call (g':=s.gens) (d':=s.drawn) (t':=t') (ch:=ch) ⟨fun b o q _ _ x=>k b o x q,fun b o q _ _ x=>⟨o.slots,k b o x q⟩,fun _ _ _ n _=>n,fun b o q x=>⟨o,k b o x q⟩,fun _ _ q=>q,fun _ _ _ q=>q,fun _ ps q=>⟨#[],by rw[q];simp⟩⟩
  (fun b u e=>(I.hok b u e).stay (fun c v hc q=>k c v ?_ q) (fun _ q=>q) fun _ _ q=>q) I.bare fun b hb=>?_
 ·rcases hc with z|z
  ·rw[z];exact nit b u e
  ·exact nit c _ z
 ·obtain⟨f0,f1,f2,f3,f4,f5⟩:=hf b hb
  exact⟨f3,f1,f4,f5⟩
theorem Inv.turnsLaid{t':Nat}{ch:List Addr}{a:Addr}{o:HO}(I:Inv X pins σ H s)(k:∀b o,b∉ch->s.heap.get? b=some o->h'.get? b=some o)(hf:∀b∈ch,FpOk X pins H b)(hp:s.heap.objs.size<=a)(new:ObjOk X.prog X.w (upd H a o) h' a o):
  Inv X pins σ (upd H a o) { s with heap:=h',toks:=t' }:=by
 have hn:=I.hok.fresh hp
 have nit:∀b u,H b=some u->b∉ch:=fun b u e z=>by rw[(hf b z).1]at e;cases e
 refine I.call (g':=s.gens) (d':=s.drawn) (t':=t') (ch:=ch) ⟨fun b o q _ _ x=>k b o x q,fun b o q _ _ x=>⟨o.slots,k b o x q⟩,fun b u q n _=>by rw[zm (uC (ux (uq q) hp))];exact n,fun b o q x=>⟨o,k b o x q⟩,
   fun b xs q=>by rw[zm (zr q hn)];exact q,fun b u xs q=>by rw[zm (zr q hn)];exact q,fun b ps q=>⟨#[],by rw[zm (zr q hn),q];simp⟩⟩
  (fun b u e=>?_) I.bare fun b hb=>?_
 ·by_cases hb:b=a
  ·subst hb
   rw[zg]at e
   cases e
   exact new
  ·rw[zm hb]at e
   refine(I.hok b u e).stay (fun c v hc q=>k c v ?_ q) (fun c q=>by rw[zm (zr q hn)];exact q) fun c xs q=>by rw[zm (zr q hn)];exact q
   rcases hc with z|z
   ·rw[z];exact nit b u e
   ·exact nit c _ z
 ·obtain⟨f0,f1,f2,f3,f4,f5⟩:=hf b hb
  exact⟨f3,f1,f4,f5⟩
end
section
variable{X:Cx}{elts:List Expr}{k:Nat}{tpos:Pos}
end
end L2
namespace L2
open PySem PySem.Spec PyProof.Rows Builtin Builtin.Str
section
variable{X:Cx}
theorem wu:∀{zs:List Str}{us:List Value},Vals (zs.map V.str) us->∃l:List (Str×Tok),us=strValues l/\l.map (·.1)=zs
 |[],_,.nil=>⟨[],rfl,rfl⟩
 |z::zs,_,.cons ⟨t,e⟩ r=>by
  obtain⟨l,rfl,h⟩:=wu r
  exact⟨(z,t)::l,by rw[e];rfl,by rw[uY,h]⟩
theorem ZO(sep:Str):∀(zs:List Str)(a:Nat),zs.foldl (· + ·.length+sep.length) a=a+((zs.map (·.length)).sum+zs.length*sep.length)
 |[],a=>by simp
 |z::zs,a=>by
  rw[List.foldl_cons,ZO sep zs]
  simp only[uY,List.sum_cons,uM,Nat.add_mul,Nat.one_mul]
  lia
def wide(sep:Str)(zs:List Str):Nat:=(zs.map (·.length)).sum+zs.length*sep.length
def zaL(K:ub):V->List V->Hp->VK->Prop:=fun x vs H Q=>∃sep p zs,x=.str sep/\vs=[.ref p]/\SqL K H p (zs.map V.str)/\wide sep zs<=sizeLine/\Q (.str (Str.join sep zs)) H
theorem QD:MtR X "str.join" (zaL X.K):=by
 intro pins s σ H x vs v us Q I rx rv h
 obtain⟨sep,p,zs,rfl,rfl,hq,hw,q⟩:=h
 obtain⟨t,rfl⟩:=rx
 obtain⟨u,rfl,ru⟩:=rv.one
 cases ru
 obtain⟨its,r,pl,hz⟩:=I.list hq
 obtain⟨l,rfl,hl⟩:=wu r
 have big:tooLong ((l.map (·.1)).toArray.foldl (· + ·.length+sep.length) 0)=false:=by
  rw[hl,List.foldl_toArray,ZO]
  unfold tooLong
  rw[decide_eq_false_iff_not]
  unfold wide at hw
  lia
 have hg:=size_glued sep zs
 have hle:(glued sep zs).length<=sizeLine:=by
  rw[hg]
  unfold wide at hw
  have:(zs.length-1)*sep.length<=zs.length*sep.length:=UO _ (Nat.sub_le _ _)
  lia
 refine call_meets F.slot_str_join (typeIs_str _ _ _) F.entry_str_join (F.args_str_join_2 _ _) (meets_str_join_list sep t p l big) ⟨pl.isList,?_⟩
 rw[<- StrLaws.glued_eq_join]at q
 match l,hl with
 |[],hl=>exact⟨by rw[hl];exact hle,.str _,H,I.tok _,⟨_,rfl⟩,by rw[hl];exact q⟩
 |[(z,tz)],hl =>
  have e:glued sep zs=z:=by
   rw[<- hl]
   rfl
  rw[e]at q
  exact⟨.str z,H,I,⟨tz,rfl⟩,q⟩
 |a::b::r,hl=>exact⟨by rw[hl];exact hle,.str _,H,I.tok _,⟨_,rfl⟩,by rw[hl];exact q⟩
theorem QE:jMt X "str.join" (zaL X.K):=⟨QD⟩
def rEqE(K:ub)(neg:Bool):R2:=fun x y H Q=>∃p p' xs,x=.ref p/\y=.ref p'/\SqL K H p xs/\SqL K H p' []/\Q (.bl (if neg then !xs.isEmpty else xs.isEmpty)) H
theorem zbQ(hu:X.A.units < cLine):OpR X (compareOp .Eq) (rEqE X.K false):=by
 intro pins s σ H x y v u Q I rx ry h
 obtain⟨p,p',xs,rfl,rfl,h1,h2,q⟩:=h
 cases rx
 cases ry
 obtain⟨its,r,pl,_⟩:=I.list h1
 obtain⟨its',r',pl',_⟩:=I.list h2
 cases r'
 cases r with
 |nil=>exact SeqAt.eq_listAt (e:=fun _=>true) pl.isList pl'.isList rfl hu (fun j h=>absurd h (Nat.not_lt_zero _)) ⟨.bl true,H,I,rfl,q⟩
 |cons a b=>exact SeqAt.eq_list_lengthsAt pl.isList pl'.isList rfl hu ⟨.bl false,H,I,rfl,q⟩
theorem zbR(hu:X.A.units < cLine):OpR X (compareOp .NotEq) (rEqE X.K true):=by
 intro pins s σ H x y v u Q I rx ry h
 obtain⟨p,p',xs,rfl,rfl,h1,h2,q⟩:=h
 cases rx
 cases ry
 obtain⟨its,r,pl,_⟩:=I.list h1
 obtain⟨its',r',pl',_⟩:=I.list h2
 cases r'
 cases r with
 |nil=>exact SeqAt.RcNeAt.lists (e:=fun _=>true) pl.isList pl'.isList rfl hu (fun j h=>absurd h (Nat.not_lt_zero _)) _ _ _ _ ⟨.bl false,H,I,rfl,q⟩
 |cons a b=>exact SeqAt.RcNeAt.lists_lengths pl.isList pl'.isList rfl hu _ _ _ _ ⟨.bl true,H,I,rfl,q⟩
theorem xy{k:Nat}(hr:Room k X.A):jOp X (compareOp .Eq) (rEqE X.K false):=⟨zbQ hr.units0⟩
theorem xJ{k:Nat}(hr:Room k X.A):jOp X (compareOp .NotEq) (rEqE X.K true):=⟨zbR hr.units0⟩
end
end L2
namespace L2
open PySem PySem.Spec PyProof.Rows
def Sq(k:Bool)(h:Heap)(l:Addr)(xs:Array Value):Prop:=match k with
 |true=>h.IsList l xs
 |false=>h.IsTuple l xs
def SqI(k:Bool)(h:Heap)(j l:Addr)(n:Nat):Prop:=match k with
 |true=>h.IsListIter j l n
 |false=>h.IsTupleIter j l n
def SqN(k:Bool):String:=if k then "list_iterator"else "tuple_iterator"
theorem Sq.at{k:Bool}{h h':Heap}{l:Addr}{xs:Array Value}(x:Sq k h l xs)(e:∀o,h.get? l=some o->h'.get? l=some o):Sq k h' l xs:=by
 cases k<;>obtain⟨o,ho,r⟩:=x<;>exact⟨o,e _ ho,r⟩
theorem SqI.at{k:Bool}{h h':Heap}{j l:Addr}{n:Nat}(x:SqI k h j l n)(e:∀o,h.get? j=some o->h'.get? j=some o):SqI k h' j l n:=by
 cases k<;>obtain⟨o,ho,r⟩:=x<;>exact⟨o,e _ ho,r⟩
theorem SqI.ex{k:Bool}{h:Heap}{j l:Addr}{n:Nat}(x:SqI k h j l n):∃o,h.get? j=some o/\o.cls=.type (SqN k)/\o.data=.fields #[.ref l,.int n 0]:=by
 cases k<;>exact x
theorem SqI.of{k:Bool}{h:Heap}{j l:Addr}{n:Nat}(x:∃o,h.get? j=some o/\o.cls=.type (SqN k)/\o.data=.fields #[.ref l,.int n 0]):SqI k h j l n:=by
 cases k<;>exact x
section
variable{P:Program}{w:World}{A:Around}{E:Value->Shared->Prop}{s:Shared}
theorem Vh{j l:Addr}{n:Nat}{xs:Array Value}{x:Value}{Q:Value->Shared->Prop}(hj:s.heap.IsTupleIter j l n)(hl:s.heap.IsTuple l xs)(hx:xs[n]?=some x)
  (q:∀h',h'.IsTupleIter j l (n+1)->Heap.SameBut j s.heap h'->Q x { s with heap:=h' }):wpAny (model P w) A (uI (.ref j)) Q E s:=by
 have⟨oj,hoj,cj,dj⟩:=hj
 have⟨ol,hol,_,m,dl⟩:=hl
 unfold uI
 refine wpAny_bind (wpAny_callSpecial?_slot hj.typeIs F.slot_tuple_iterator_next (wpAny_call_entry F.slot_tuple_iterator_next hj.typeIs F.entry_tuple_iterator_next ?_ (F.args_tuple_iterator_next_1 (.ref j))))
 refine wpAny_bind (m:=field (.ref j) 0) (wpAny_field hoj dj (x:=.ref l) rfl ?_)
 have nn:¬ ((Value.ref l == Value.none)=true):=uw
 show wpAny _ _ (ite ((Value.ref l == Value.none)=true) _ _) _ _ _
 rw[if_neg nn]
 refine wpAny_bind (m:=field (.ref j) 1) (wpAny_field hoj dj (x:=.int n 0) rfl ?_)
 refine wpAny_bind (m:=seqItems? (.ref l)) (wpAny_seqItems hol dl ?_)
 simp only[tH,hx]
 refine wpAny_bind (wpAny_setField hoj dj (by simp) (wpAny_pure ⟨x,rfl,wpAny_pure (q _ ⟨_,uU _ hoj (Obj.isFreed_of_fields (Obj.data_mapFields dj _)),(Obj.cls_mapFields ..).trans cj,?_⟩ (Heap.SameBut.update ..))⟩))
 rw[Obj.data_mapFields dj]
 simp[rawInt]
theorem QF{j l:Addr}{n:Nat}{xs:Array Value}{Q:Value->Shared->Prop}(hA:A.handled=none)(hj:s.heap.IsTupleIter j l n)(hl:s.heap.IsTuple l xs)(hx:xs[n]?=none)
  (q:∀h' e,Heap.ExtBut j s.heap h'->(∃o,h'.get? e=some o/\o.cls=.type "StopIteration")->E (.ref e) { s with heap:=h' }):wpAny (model P w) A (uI (.ref j)) Q E s:=by
 have⟨oj,hoj,cj,dj⟩:=hj
 have⟨ol,hol,_,m,dl⟩:=hl
 unfold uI
 refine wpAny_bind (wpAny_callSpecial?_slot hj.typeIs F.slot_tuple_iterator_next (wpAny_call_entry F.slot_tuple_iterator_next hj.typeIs F.entry_tuple_iterator_next ?_ (F.args_tuple_iterator_next_1 (.ref j))))
 refine wpAny_bind (m:=field (.ref j) 0) (wpAny_field hoj dj (x:=.ref l) rfl ?_)
 have nn:¬ ((Value.ref l == Value.none)=true):=uw
 show wpAny _ _ (ite ((Value.ref l == Value.none)=true) _ _) _ _ _
 rw[if_neg nn]
 refine wpAny_bind (m:=field (.ref j) 1) (wpAny_field hoj dj (x:=.int n 0) rfl ?_)
 refine wpAny_bind (m:=seqItems? (.ref l)) (wpAny_seqItems hol dl ?_)
 simp only[tH,hx]
 refine wpAny_bind (wpAny_rule (wpAny_bind (wpAny_setField hoj dj (by simp) ?_)))
 refine wpAny_bind (m:=newExc (.type "StopIteration") []) ?_
 unfold newExc newTuple
 refine wpAny_bind (wpAny_newObj_type (wpAny_bind (m:=firstArgMember _ _) (wpAny_of_eq (a:=Value.none) (by first|rfl|(simp only[firstArgMember];rfl)) (wpAny_newObj_type ?_ (by size_fits)))) (by size_fits))
 unfold raiseNew
 refine wpAny_bind (wpAny_handled ?_)
 rw[show A.in1.handled=none from hA]
 exact wpAny_bind (wpAny_pure (wpAny_throw (q _ _ (((Heap.SameBut.update ..).extBut.push _).push _) ⟨_,ut _ rfl,rfl⟩)))
theorem xY{k:Bool}{j l:Addr}{n:Nat}{xs:Array Value}{x:Value}{Q:Value->Shared->Prop}(hj:SqI k s.heap j l n)(hl:Sq k s.heap l xs)(hx:xs[n]?=some x)
  (q:∀h',SqI k h' j l (n+1)->Heap.SameBut j s.heap h'->Q x { s with heap:=h' }):wpAny (model P w) A (uI (.ref j)) Q E s:=by
 cases k with
 |true=>exact wpAny_nextOf_list_item hj hl hx q
 |false=>exact Vh hj hl hx q
theorem Zb{k:Bool}{j l:Addr}{n:Nat}{xs:Array Value}{Q:Value->Shared->Prop}(hA:A.handled=none)(hj:SqI k s.heap j l n)(hl:Sq k s.heap l xs)(hx:xs[n]?=none)
  (q:∀h' e,Heap.ExtBut j s.heap h'->(∃o,h'.get? e=some o/\o.cls=.type "StopIteration")->E (.ref e) { s with heap:=h' }):wpAny (model P w) A (uI (.ref j)) Q E s:=by
 cases k with
 |true=>exact wpAny_nextOf_list_end hA hj hl hx q
 |false=>exact QF hA hj hl hx q
theorem Xn{k:Bool}{l:Addr}{xs:Array Value}{Q:Value->Shared->Prop}(hl:Sq k s.heap l xs)(q:Q (.ref s.heap.objs.size) { s with heap:=s.heap.push { cls:=.type (SqN k),data:=.fields #[.ref l,.int 0 0] } }):
  wpAny (model P w) A (pyIter (.ref l)) Q E s:=by
 cases k with
 |true=>exact wpAny_pyIter_list hl q
 |false=>exact wpAny_pyIter_tuple hl q
end
abbrev za(k:Bool)(h:Heap)(l:Addr):Heap:=h.push { cls:=.type (SqN k),data:=.fields #[.ref l,.int 0 0] }
abbrev zb(k m:Bool)(h:Heap)(l r:Addr):Heap:=za m (za k h l) r
abbrev zc(k m:Bool)(h:Heap)(l r:Addr):Heap:=(zb k m h l r).push { cls:=.type "tuple",data:=.seq #[.ref h.objs.size,.ref (za k h l).objs.size] }
abbrev zd(k m:Bool)(h:Heap)(l r:Addr):Heap:=(zc k m h l r).push { cls:=.type "tuple",data:=.seq #[.none,.none] }
abbrev ze(k m:Bool)(h:Heap)(l r:Addr):Heap:=(zd k m h l r).push { cls:=.type "zip",data:=.fields #[.none,.bool false,.bool false,.ref (zb k m h l r).objs.size,.ref (zc k m h l r).objs.size] }
theorem Vi(k m:Bool)(l r:Addr)(xs ys:Array Value):Meets (Builtin.«zip.__new__» ⟨[.type "zip",.ref l,.ref r],[]⟩)
  (fun _ R s=>Sq k s.heap l xs/\Sq m s.heap r ys/\R (.ok (.ret (.ref (zd k m s.heap l r).objs.size))) { s with heap:=ze k m s.heap l r }) :=
 .of_wp fun prog w A R s h=>by
  obtain⟨hp,g,d,tk,os⟩:=s
  obtain⟨h1,h2,h⟩:=h
  have hs:=sub_zip
  have q1:Sq k (Shared.heap ⟨hp,g,d,tk,os⟩) l xs:=h1
  have q2:Sq m (Shared.heap ⟨za k hp l,g,d,tk,os⟩) r ys:=h2.at fun o e=>ud _ e
  wp_walk using Xn q1,Xn q2
  exact⟨_,rfl,h⟩
structure ZS(k m:Bool)(h:Heap)(B l r:Nat)(n:Nat)(f g:Value):Prop where
 z:h.get? (B+4)=some { cls:=.type "zip",data:=.fields #[f,g,.bool false,.ref (B+2),.ref (B+3)] }
 ti:IsPair h (B+2) (.ref B) (.ref (B+1))
 to:∃a b,IsPair h (B+3) a b
 i:SqI k h B l n
 j:SqI m h (B+1) r n
theorem ZS.at{k m:Bool}{h h':Heap}{B l r:Nat}{n:Nat}{f g:Value}(x:ZS k m h B l r n f g)(e:∀(b:Nat) o,B<=b->b<=B+4->h.get? b=some o->h'.get? b=some o):ZS k m h' B l r n f g where
 z:=e _ _ (by lia) (by lia) x.z
 ti:=e _ _ (by lia) (by lia) x.ti
 to:=let ⟨a,b,y⟩:=x.to;⟨a,b,e _ _ (by lia) (by lia) y⟩
 i:=x.i.at fun o=>e _ o (by lia) (by lia)
 j:=x.j.at fun o=>e _ o (by lia) (by lia)
def KeptZ(B:Nat)(h h':Heap):Prop:=∀(c:Nat) o,(c < B\/B+4 < c)->h.get? c=some o->h'.get? c=some o
section
variable{P:Program}{w:World}{A:Around}{E:Value->Shared->Prop}{s:Shared}{k m:Bool}{B l r:Nat}{n:Nat}{xs ys:Array Value}{x y f g:Value}
theorem vI{Q:Value->Shared->Prop}(hl:Sq k s.heap l xs)(hr:Sq m s.heap r ys)
  (q:∀h',ZS k m h' s.heap.objs.size l r 0 .none (.bool false)->h'.objs.size=s.heap.objs.size+5->(∀c o,s.heap.get? c=some o->h'.get? c=some o)->Q (.ref (s.heap.objs.size+4)) { s with heap:=h' }) :
  wpAny (model P w) A (call (.type "zip") [.ref l,.ref r]) Q E s:=by
 apply callType_new F.called_zip (by decide) (F.typeCall_zip_2 _ _) (F.newCall_zip_2 _ _) (fun obj=>F.args_object_init_3 obj _ _) F.entry_zip_new (Vi k m l r xs ys)
 refine⟨hl,hr,?_⟩
 have s1:(za k s.heap l).objs.size=s.heap.objs.size+1:=Uf ..
 have s2:(zb k m s.heap l r).objs.size=s.heap.objs.size+2:=by rw[Uf,s1]
 have s3:(zc k m s.heap l r).objs.size=s.heap.objs.size+3:=by rw[Uf,s2]
 have s4:(zd k m s.heap l r).objs.size=s.heap.objs.size+4:=by rw[Uf,s3]
 have s5:(ze k m s.heap l r).objs.size=s.heap.objs.size+5:=by rw[Uf,s4]
 have up:∀{c o},(zd k m s.heap l r).get? c=some o->(ze k m s.heap l r).get? c=some o:=fun e=>ud _ e
 have p5:(ze k m s.heap l r).get? (zd k m s.heap l r).objs.size=some _:=ut _ rfl
 have p4:(ze k m s.heap l r).get? (zc k m s.heap l r).objs.size=some _:=up (ut _ rfl)
 have p3:(ze k m s.heap l r).get? (zb k m s.heap l r).objs.size=some _:=up (ud _ (ut _ rfl))
 have p2:(ze k m s.heap l r).get? (za k s.heap l).objs.size=some _:=up (ud _ (ud _ (ut _ rfl)))
 have p1:(ze k m s.heap l r).get? s.heap.objs.size=some _:=up (ud _ (ud _ (ud _ (ut _ rfl))))
 rw[s4,s2,s3]at p5
 rw[s3]at p4
 rw[s2,s1]at p3
 rw[s1]at p2
 show _/\_
 rw[s4]
 exact⟨⟨_,p5,rfl⟩,q _ ⟨p5,p3,⟨_,_,p4⟩,.of ⟨_,p1,rfl,rfl⟩,.of ⟨_,p2,rfl,rfl⟩⟩ s5 fun c o e=>up (ud _ (ud _ (ud _ (ud _ e))))⟩
theorem ZP{Q:Value->Shared->Prop}(Z:ZS k m s.heap B l r n .none g)(hl:Sq k s.heap l xs)(hr:Sq m s.heap r ys)(ll:l < B)(rl:r < B)(hx:xs[n]?=some x)(hy:ys[n]?=some y)
  (q:∀h',ZS k m h' B l r (n+1) (rawInt s.heap.objs.size) (.bool false)->IsPair h' s.heap.objs.size x y->h'.objs.size=s.heap.objs.size+1->KeptZ B s.heap h'->Q (.ref s.heap.objs.size) { s with heap:=h' }) :
  wpAny (model P w) A (Builtin.«zip.__next__» ⟨[.ref (B+4)],[]⟩) (fun fin s'=>∃v,fin=.done (.ret v)/\Q v s') E s:=by
 obtain⟨a,b,hto⟩:=Z.to
 refine wpAny_bind (m:=field (.ref (B+4)) 2) (wpAny_field Z.z rfl (x:=.bool false) rfl ?_)
 refine wpAny_bind (m:=field (.ref (B+4)) 3) (wpAny_field Z.z rfl (x:=.ref (B+2)) rfl (wpAny_bind (wpAny_seqItems Z.ti rfl ?_)))
 refine wpAny_bind (m:=uQ (.ref (B+4))) ?_
 unfold uQ
 refine wpAny_bind (wpAny_field Z.z rfl (x:=.none) rfl (wpAny_pure ?_))
 rw[if_pos rfl]
 refine wpAny_bind (wpAny_rule (wpAny_bind (wpAny_field Z.z rfl (x:=.ref (B+3)) rfl (wpAny_bind (wpAny_setField_rec Z.z (by simp) fun h1 z1 u1=>wpAny_bind ?_)))))
 replace z1:h1.get? (B+4)=some { cls:=.type "zip",data:=.fields #[.ellipsis,g,.bool false,.ref (B+2),.ref (B+3)] }:=z1
 have k1:∀(c:Nat) o,c≠B+4->s.heap.get? c=some o->h1.get? c=some o:=fun c o n e=>(u1.2 c n).trans e
 simp only[List.zipIdx_cons,List.zipIdx_nil,List.forIn_cons,List.forIn_nil]
 refine wpAny_bind (wpAny_bind (wpAny_onRaise (wpAny_bind (m:=uI (.ref B)) ?_)))
 refine xY (Z.i.at fun o=>k1 _ o (by lia)) (hl.at fun o=>k1 _ o (by lia)) hx fun h2 i2 u2=>wpAny_pure ?_
 have k2:∀(c:Nat) o,c≠B->h1.get? c=some o->h2.get? c=some o:=fun c o n e=>(u2.2 c n).trans e
 have to2:IsPair h2 (B+3) a b:=k2 _ _ (by lia) (k1 _ _ (by lia) hto)
 refine wpAny_bind (wpAny_seqItems to2 rfl (wpAny_bind (wpAny_updateSeq_pair to2 fun h3 to3 u3=>?_)))
 replace to3:IsPair h3 (B+3) x b:=to3
 have k3:∀(c:Nat) o,c≠B+3->h2.get? c=some o->h3.get? c=some o:=fun c o n e=>(u3.2 c n).trans e
 refine wpAny_bind (wpAny_letGo (wpAny_pure (wpAny_bind (wpAny_bind (wpAny_onRaise (wpAny_bind (m:=uI (.ref (B+1))) ?_))))))
 refine xY (Z.j.at fun o e=>k3 _ o (by lia) (k2 _ o (by lia) (k1 _ o (by lia) e))) (hr.at fun o e=>k3 _ o (by lia) (k2 _ o (by lia) (k1 _ o (by lia) e))) hy fun h4 i4 u4=>wpAny_pure ?_
 have k4:∀(c:Nat) o,c≠B+1->h3.get? c=some o->h4.get? c=some o:=fun c o n e=>(u4.2 c n).trans e
 have to4:IsPair h4 (B+3) x b:=k4 _ _ (by lia) to3
 refine wpAny_bind (wpAny_seqItems to4 rfl (wpAny_bind (wpAny_updateSeq_pair to4 fun h5 to5 u5=>?_)))
 replace to5:IsPair h5 (B+3) x y:=to5
 have k5:∀(c:Nat) o,c≠B+3->h4.get? c=some o->h5.get? c=some o:=fun c o n e=>(u5.2 c n).trans e
 refine wpAny_bind (wpAny_letGo (wpAny_pure (wpAny_pure (wpAny_bind (wpAny_seqItems to5 rfl (wpAny_bind (wpAny_newTuple ?_)))))))
 have sz:h5.objs.size=s.heap.objs.size:=by rw[u5.1,u4.1,u3.1,u2.1,u1.1]
 have z5:h5.get? (B+4)=some { cls:=.type "zip",data:=.fields #[.ellipsis,g,.bool false,.ref (B+2),.ref (B+3)] }:=k5 _ _ (by lia) (k4 _ _ (by lia) (k3 _ _ (by lia) (k2 _ _ (by lia) z1)))
 have lt4:B+4 < h5.objs.size:=uq z5
 refine wpAny_bind (m:=tQ (.ref (B+4)) (.ref h5.objs.size)) ?_
 unfold tQ
 refine wpAny_bind (wpAny_setField_rec (ud { cls:=.type "tuple",data:=.seq #[x,y] } z5) (by simp) fun h7 z7 u7=>?_)
 refine wpAny_setField_rec z7 (by simp) fun h8 z8 u8=>wpAny_pure ⟨.ref h5.objs.size,rfl,?_⟩
 have k8:∀(c:Nat) o,c≠B+4->h5.get? c=some o->h8.get? c=some o:=fun c o n e=>(u8.2 c n).trans ((u7.2 c n).trans (ud _ e))
 have p8:IsPair h8 h5.objs.size x y:=(u8.2 _ (UU lt4)).trans ((u7.2 _ (UU lt4)).trans (ut _ rfl))
 have s8:h8.objs.size=h5.objs.size+1:=by rw[u8.1,u7.1,Uf]
 rw[sz]at p8 s8 ⊢
 refine q h8 ⟨?_,k8 _ _ (by lia) (k5 _ _ (by lia) (k4 _ _ (by lia) (k3 _ _ (by lia) (k2 _ _ (by lia) (k1 _ _ (by lia) Z.ti))))),⟨x,y,k8 _ _ (by lia) to5⟩,
  i2.at fun o e=>k8 _ _ (by lia) (k5 _ _ (by lia) (k4 _ _ (by lia) (k3 _ _ (by lia) e))),i4.at fun o e=>k8 _ _ (by lia) (k5 _ _ (by lia) e)⟩ p8 s8
  fun c o hc e=>k8 _ _ (by lia) (k5 _ _ (by lia) (k4 _ _ (by lia) (k3 _ _ (by lia) (k2 _ _ (by lia) (k1 _ _ (by lia) e)))))
 rw[<- sz]
 exact z8
theorem Vj{a:Addr}{o:Obj}{Q:Option Obj->Shared->Prop}(ho:s.heap.get? a=some o)(h:Q (some o) s):wpAny (model P w) A (loadIfAlive a) Q E s:=fun Γ p _=>by
 unfold loadIfAlive
 rw[Sem.wp_loadIfAlive,ho]
 simpa using h
theorem ZQ{Q:Bool->Shared->Prop}{T:Nat}{ot:Obj}{c:Bool}(hz:s.heap.get? (B+4)=some { cls:=.type "zip",data:=.fields #[rawInt T,.bool c,.bool false,.ref (B+2),.ref (B+3)] })(hT:s.heap.get? T=some ot)
  (q:∀h1,h1.get? (B+4)=some { cls:=.type "zip",data:=.fields #[rawInt T,.bool true,.bool false,.ref (B+2),.ref (B+3)] }->h1.objs.size=s.heap.objs.size->(∀(d:Nat) o,d≠B+4->s.heap.get? d=some o->h1.get? d=some o)->Q false { s with heap:=h1 }) :
  wpAny (model P w) A (uQ (.ref (B+4))) Q E s:=by
 unfold uQ
 refine wpAny_bind (wpAny_field hz rfl (x:=rawInt T) rfl ?_)
 refine wpAny_bind (m:=loadIfAlive ((T:Int).toNat)) (Vj (o:=ot) (by rw[tH];exact hT) ?_)
 rw[if_neg (by simp)]
 refine wpAny_bind (wpAny_field hz rfl (x:=.bool c) rfl ?_)
 cases c with
 |true =>
  rw[if_neg (by decide)]
  exact wpAny_pure (q _ hz rfl fun d o _ e=>e)
 |false =>
  rw[if_pos (by decide)]
  exact wpAny_bind (wpAny_setField_rec hz (by simp) fun h1 z1 u1=>wpAny_pure (q h1 z1 u1.1 fun d o n e=>(u1.2 d n).trans e))
theorem Vk{Q:Value->Shared->Prop}{T:Nat}{ot:Obj}{c:Bool}(Z:ZS k m s.heap B l r n (rawInt T) (.bool c))(hT:s.heap.get? T=some ot)(hl:Sq k s.heap l xs)(hr:Sq m s.heap r ys)(ll:l < B)(rl:r < B)(hx:xs[n]?=some x)(hy:ys[n]?=some y)
  (q:∀h',ZS k m h' B l r (n+1) (rawInt T) (.bool true)->IsPair h' s.heap.objs.size x y->h'.objs.size=s.heap.objs.size+1->KeptZ B s.heap h'->Q (.ref s.heap.objs.size) { s with heap:=h' }) :
  wpAny (model P w) A (Builtin.«zip.__next__» ⟨[.ref (B+4)],[]⟩) (fun fin s'=>∃v,fin=.done (.ret v)/\Q v s') E s:=by
 obtain⟨a,b,hto⟩:=Z.to
 refine wpAny_bind (m:=field (.ref (B+4)) 2) (wpAny_field Z.z rfl (x:=.bool false) rfl ?_)
 refine wpAny_bind (m:=field (.ref (B+4)) 3) (wpAny_field Z.z rfl (x:=.ref (B+2)) rfl (wpAny_bind (wpAny_seqItems Z.ti rfl ?_)))
 refine wpAny_bind (m:=uQ (.ref (B+4))) (ZQ Z.z hT fun h1 z1 s1 k1=>?_)
 rw[if_neg uw]
 refine wpAny_bind ?_
 rw[<- Array.forIn_toList]
 simp only[List.forIn_cons,List.forIn_nil]
 refine wpAny_bind (wpAny_bind (wpAny_holding (wpAny_bind (m:=uI (.ref B)) ?_)))
 refine xY (Z.i.at fun o=>k1 _ o (by lia)) (hl.at fun o=>k1 _ o (by lia)) hx fun h2 i2 u2=>wpAny_pure (wpAny_pure ?_)
 have k2:∀(c:Nat) o,c≠B->h1.get? c=some o->h2.get? c=some o:=fun c o n e=>(u2.2 c n).trans e
 refine wpAny_bind (wpAny_bind (wpAny_holding (wpAny_bind (m:=uI (.ref (B+1))) ?_)))
 refine xY (Z.j.at fun o e=>k2 _ o (by lia) (k1 _ o (by lia) e)) (hr.at fun o e=>k2 _ o (by lia) (k1 _ o (by lia) e)) hy fun h4 i4 u4=>wpAny_pure (wpAny_pure (wpAny_pure ?_))
 have k4:∀(c:Nat) o,c≠B+1->h2.get? c=some o->h4.get? c=some o:=fun c o n e=>(u4.2 c n).trans e
 have sz:h4.objs.size=s.heap.objs.size:=by rw[u4.1,u2.1];exact s1
 refine wpAny_bind (wpAny_newTuple (hsz:=sN2) (wpAny_pure ⟨.ref h4.objs.size,rfl,?_⟩))
 have p5:IsPair (h4.push { cls:=.type "tuple",data:=.seq #[x,y] }) h4.objs.size x y:=ut _ rfl
 have s5:(h4.push { cls:=.type "tuple",data:=.seq #[x,y] }).objs.size=h4.objs.size+1:=Uf ..
 rw[sz]at p5 s5 ⊢
 have k5:∀(c:Nat) o,h4.get? c=some o->(h4.push { cls:=.type "tuple",data:=.seq #[x,y] }).get? c=some o:=fun c o e=>ud _ e
 exact q _ ⟨k5 _ _ (k4 _ _ (by lia) (k2 _ _ (by lia) z1)),k5 _ _ (k4 _ _ (by lia) (k2 _ _ (by lia) (k1 _ _ (by lia) Z.ti))),⟨a,b,k5 _ _ (k4 _ _ (by lia) (k2 _ _ (by lia) (k1 _ _ (by lia) hto)))⟩,
  i2.at fun o e=>k5 _ _ (k4 _ _ (by lia) e),i4.at fun o e=>k5 _ _ e⟩ p5 s5 fun c o hc e=>k5 _ _ (k4 _ _ (by lia) (k2 _ _ (by lia) (k1 _ _ (by lia) e)))
theorem QG{Q:PySem.Fin->Shared->Prop}(hA:A.handled=none)(Z:ZS k m s.heap B l r n .none g)(hl:Sq k s.heap l xs)(hr:Sq m s.heap r ys)(ll:l < B)(rl:r < B)(hx:xs[n]?=none\/ys[n]?=none)
  (q:∀h' e,KeptZ B s.heap h'->(∃o,h'.get? e=some o/\o.cls=.type "StopIteration")->E (.ref e) { s with heap:=h' }):wpAny (model P w) A (Builtin.«zip.__next__» ⟨[.ref (B+4)],[]⟩) Q E s:=by
 obtain⟨a,b,hto⟩:=Z.to
 refine wpAny_bind (m:=field (.ref (B+4)) 2) (wpAny_field Z.z rfl (x:=.bool false) rfl ?_)
 refine wpAny_bind (m:=field (.ref (B+4)) 3) (wpAny_field Z.z rfl (x:=.ref (B+2)) rfl (wpAny_bind (wpAny_seqItems Z.ti rfl ?_)))
 refine wpAny_bind (m:=uQ (.ref (B+4))) ?_
 unfold uQ
 refine wpAny_bind (wpAny_field Z.z rfl (x:=.none) rfl (wpAny_pure ?_))
 rw[if_pos rfl]
 refine wpAny_bind (wpAny_rule (wpAny_bind (wpAny_field Z.z rfl (x:=.ref (B+3)) rfl (wpAny_bind (wpAny_setField_rec Z.z (by simp) fun h1 z1 u1=>wpAny_bind ?_)))))
 replace z1:h1.get? (B+4)=some { cls:=.type "zip",data:=.fields #[.ellipsis,g,.bool false,.ref (B+2),.ref (B+3)] }:=z1
 have k1:∀(c:Nat) o,c≠B+4->s.heap.get? c=some o->h1.get? c=some o:=fun c o n e=>(u1.2 c n).trans e
 have nz:∀{h:Heap}{e:Nat}{v:Value}{o:Obj},h.get? (B+4)=some { cls:=.type "zip",data:=.fields #[v,g,.bool false,.ref (B+2),.ref (B+3)] }->h.get? e=some o->o.cls=.type "StopIteration"->e≠B+4:=fun h1 h2 h3 e=>by
  rw[e,h1]at h2
  cases h2
  simp at h3
 simp only[List.zipIdx_cons,List.zipIdx_nil,List.forIn_cons,List.forIn_nil]
 refine wpAny_bind (wpAny_bind (wpAny_onRaise (wpAny_bind (m:=uI (.ref B)) ?_)))
 cases e1:xs[n]? with
 |none =>
  refine Zb hA (Z.i.at fun o=>k1 _ o (by lia)) (hl.at fun o=>k1 _ o (by lia)) e1 fun h2 e u2 he=>?_
  obtain⟨oe,he,ce⟩:=he
  have k2:∀(c:Nat) o,c≠B->h1.get? c=some o->h2.get? c=some o:=fun c o n e=>u2 c o n e
  have z2:=k2 _ _ (show B+4≠B by lia) z1
  refine wpAny_setField_rec z2 (by simp) fun h3 z3 u3=>q h3 e (fun c o hc x=>(u3.2 c (show(c:Nat)≠B+4 by lia)).trans (k2 _ _ (by lia) (k1 _ _ (by lia) x))) ⟨oe,(u3.2 e (nz z2 he ce)).trans he,ce⟩
 |some x =>
  have hy:ys[n]?=none:=hx.resolve_left (by rw[e1];simp)
  refine xY (Z.i.at fun o=>k1 _ o (by lia)) (hl.at fun o=>k1 _ o (by lia)) e1 fun h2 i2 u2=>wpAny_pure ?_
  have k2:∀(c:Nat) o,c≠B->h1.get? c=some o->h2.get? c=some o:=fun c o n e=>(u2.2 c n).trans e
  have to2:IsPair h2 (B+3) a b:=k2 _ _ (by lia) (k1 _ _ (by lia) hto)
  refine wpAny_bind (wpAny_seqItems to2 rfl (wpAny_bind (wpAny_updateSeq_pair to2 fun h3 to3 u3=>?_)))
  have k3:∀(c:Nat) o,c≠B+3->h2.get? c=some o->h3.get? c=some o:=fun c o n e=>(u3.2 c n).trans e
  refine wpAny_bind (wpAny_letGo (wpAny_pure (wpAny_bind (wpAny_bind (wpAny_onRaise (wpAny_bind (m:=uI (.ref (B+1))) ?_))))))
  refine Zb hA (Z.j.at fun o e=>k3 _ o (by lia) (k2 _ o (by lia) (k1 _ o (by lia) e))) (hr.at fun o e=>k3 _ o (by lia) (k2 _ o (by lia) (k1 _ o (by lia) e))) hy fun h4 e u4 he=>?_
  obtain⟨oe,he,ce⟩:=he
  have k4:∀(c:Nat) o,c≠B+1->h3.get? c=some o->h4.get? c=some o:=fun c o n e=>u4 c o n e
  have z4:=k4 _ _ (show B+4≠B+1 by lia) (k3 _ _ (by lia) (k2 _ _ (by lia) z1))
  refine wpAny_setField_rec z4 (by simp) fun h5 z5 u5=>q h5 e (fun c o hc x=>(u5.2 c (show(c:Nat)≠B+4 by lia)).trans (k4 _ _ (by lia) (k3 _ _ (by lia) (k2 _ _ (by lia) (k1 _ _ (by lia) x))))) ⟨oe,(u5.2 e (nz z4 he ce)).trans he,ce⟩
theorem Zc{Q:PySem.Fin->Shared->Prop}{T:Nat}{ot:Obj}{c:Bool}(hA:A.handled=none)(Z:ZS k m s.heap B l r n (rawInt T) (.bool c))(hT:s.heap.get? T=some ot)(hl:Sq k s.heap l xs)(hr:Sq m s.heap r ys)(ll:l < B)(rl:r < B)(hx:xs[n]?=none\/ys[n]?=none)
  (q:∀h' e,KeptZ B s.heap h'->(∃o,h'.get? e=some o/\o.cls=.type "StopIteration")->E (.ref e) { s with heap:=h' }):wpAny (model P w) A (Builtin.«zip.__next__» ⟨[.ref (B+4)],[]⟩) Q E s:=by
 refine wpAny_bind (m:=field (.ref (B+4)) 2) (wpAny_field Z.z rfl (x:=.bool false) rfl ?_)
 refine wpAny_bind (m:=field (.ref (B+4)) 3) (wpAny_field Z.z rfl (x:=.ref (B+2)) rfl (wpAny_bind (wpAny_seqItems Z.ti rfl ?_)))
 refine wpAny_bind (m:=uQ (.ref (B+4))) (ZQ Z.z hT fun h1 z1 s1 k1=>?_)
 rw[if_neg uw]
 refine wpAny_bind ?_
 rw[<- Array.forIn_toList]
 simp only[List.forIn_cons,List.forIn_nil]
 refine wpAny_bind (wpAny_bind (wpAny_holding (wpAny_bind (m:=uI (.ref B)) ?_)))
 cases e1:xs[n]? with
 |none=>exact Zb hA (Z.i.at fun o=>k1 _ o (by lia)) (hl.at fun o=>k1 _ o (by lia)) e1 fun h2 e u2 he=>q h2 e (fun c o hc x=>u2 _ _ (show(c:Nat)≠B by lia) (k1 _ _ (by lia) x)) he
 |some x =>
  have hy:ys[n]?=none:=hx.resolve_left (by rw[e1];simp)
  refine xY (Z.i.at fun o=>k1 _ o (by lia)) (hl.at fun o=>k1 _ o (by lia)) e1 fun h2 i2 u2=>wpAny_pure (wpAny_pure ?_)
  have k2:∀(c:Nat) o,c≠B->h1.get? c=some o->h2.get? c=some o:=fun c o n e=>(u2.2 c n).trans e
  refine wpAny_bind (wpAny_bind (wpAny_holding (wpAny_bind (m:=uI (.ref (B+1))) ?_)))
  exact Zb hA (Z.j.at fun o e=>k2 _ o (by lia) (k1 _ o (by lia) e)) (hr.at fun o e=>k2 _ o (by lia) (k1 _ o (by lia) e)) hy fun h4 e u4 he=>q h4 e (fun c o hc x=>u4 _ _ (show(c:Nat)≠B+1 by lia) (k2 _ _ (by lia) (k1 _ _ (by lia) x))) he
def ZF(B:Nat)(h:Heap)(f g:Value):Prop:=f=.none\/∃(T:Nat)(c:Bool)(o:Obj),f=rawInt T/\g=.bool c/\h.get? T=some o/\B+5 < T
theorem ZR{Q:Option Value->Shared->Prop}(Z:ZS k m s.heap B l r n f g)(hf:ZF B s.heap f g)(hl:Sq k s.heap l xs)(hr:Sq m s.heap r ys)(ll:l < B)(rl:r < B)(hx:xs[n]?=some x)(hy:ys[n]?=some y)
  (q:∀h' (T:Nat) (c:Bool),ZS k m h' B l r (n+1) (rawInt T) (.bool c)->(T=s.heap.objs.size\/B+5 < T/\∃o,s.heap.get? T=some o)->IsPair h' s.heap.objs.size x y->h'.objs.size=s.heap.objs.size+1->KeptZ B s.heap h'->Q (some (.ref s.heap.objs.size)) { s with heap:=h' }) :
  wpAny (model P w) A (pyNext (.ref (B+4))) Q E s:=by
 have ty:s.TypeIs (.ref (B+4)) "zip":=⟨_,Z.z,rfl⟩
 unfold pyNext
 refine wpAny_bind (wpAny_attempt (wpAny_callSpecial?_slot ty F.slot_zip_next (wpAny_call_entry F.slot_zip_next ty F.entry_zip_next ?_ (F.args_zip_next_1 (.ref (B+4))))))
 rcases hf with rfl|⟨T,c,o,rfl,rfl,hT,lT⟩
 ·exact ZP Z hl hr ll rl hx hy fun h' z p sz kz=>wpAny_pure (q h' _ _ z (.inl rfl) p sz kz)
 ·exact Vk Z hT hl hr ll rl hx hy fun h' z p sz kz=>wpAny_pure (q h' _ _ z (.inr ⟨lT,o,hT⟩) p sz kz)
theorem vJ{Q:Option Value->Shared->Prop}(hA:A.handled=none)(Z:ZS k m s.heap B l r n f g)(hf:ZF B s.heap f g)(hl:Sq k s.heap l xs)(hr:Sq m s.heap r ys)(ll:l < B)(rl:r < B)(hx:xs[n]?=none\/ys[n]?=none)
  (q:∀h',KeptZ B s.heap h'->Q none { s with heap:=h' }):wpAny (model P w) A (pyNext (.ref (B+4))) Q E s:=by
 have ty:s.TypeIs (.ref (B+4)) "zip":=⟨_,Z.z,rfl⟩
 unfold pyNext
 refine wpAny_bind (wpAny_attempt (wpAny_callSpecial?_slot ty F.slot_zip_next (wpAny_call_entry F.slot_zip_next ty F.entry_zip_next ?_ (F.args_zip_next_1 (.ref (B+4))))))
 have fin:∀h' e,KeptZ B s.heap h'->(∃o,h'.get? e=some o/\o.cls=.type "StopIteration")->wpAny (model P w) A (do
   if <- isInstance (.ref e) (.type "StopIteration")then pure none else throw (.ref e)) Q E { s with heap:=h' }:=by
  intro h' e kz ⟨o,ho,hc⟩
  exact wpAny_bind (wpAny_isInstance (T:="StopIteration") (b:=true) ⟨o,ho,hc⟩ isSubtype_stop (wpAny_pure (q _ kz)))
 rcases hf with rfl|⟨T,c,o,rfl,rfl,hT,lT⟩
 ·exact QG hA Z hl hr ll rl hx fun h' e kz he=>fin h' e kz he
 ·exact Zc hA Z hT hl hr ll rl hx fun h' e kz he=>fin h' e kz he
end
structure ZL(k m:Bool)(h0 h:Heap)(B l r n:Nat)(xs ys acc:Array Value)(c:Nat)(f g:Value):Prop where
 zs:ZS k m h B l r n f g
 zf:ZF B h f g
 hl:Sq k h l xs
 hr:Sq m h r ys
 sz:h.objs.size=B+6+n
 lst:h.get? (B+5)=some { cls:=.type "list",data:=.seq acc c }
 asz:acc.size=n
 par:∀i x y,i < n->xs[i]?=some x->ys[i]?=some y->acc[i]?=some (.ref (B+6+i))/\IsPair h (B+6+i) x y
 old:∀(b:Nat) o,b < B->h0.get? b=some o->h.get? b=some o
section
variable{P:Program}{w:World}{A:Around}{R:Result->Shared->Prop}{h0:Heap}{k m:Bool}{B l r N:Nat}{xs ys:Array Value}{res:Value}
theorem ZT(hA:A.handled=none)(ll:l < B)(rl:r < B)(hN:N<=sizeLine)(hx:N<=xs.size)(hy:N<=ys.size)(he:xs.size<=N\/ys.size<=N):∀(d n:Nat)(s:Shared)(acc:Array Value)(c:Nat)(f g:Value),n+d=N->ZL k m h0 s.heap B l r n xs ys acc c f g ->
  (∀h' acc' c',h'.get? (B+5)=some { cls:=.type "list",data:=.seq acc' c' }->acc'.size=N->(∀i x y,i < N->xs[i]?=some x->ys[i]?=some y->acc'[i]?=some (.ref (B+6+i))/\IsPair h' (B+6+i) x y)->(∀(b:Nat) o,b < B->h0.get? b=some o->h'.get? b=some o)->R (.ok (.ret res)) { s with heap:=h' }) ->
  codeAny (model P w) A (.builtin "list.extend.loop" ⟨[.ref (B+5),.ref (B+4),res],[]⟩) R s
 |0,n,s,acc,c,f,g,hd,Z,q=>by
  have e:n=N:=by lia
  subst e
  refine codeAny_builtin F.entry_extend_loop ?_
  rw[Around.under_plainId F.plain_extend_loop _]
  refine wpAny_bind (m:=pyNext (.ref (B+4))) (vJ (A:=A.in1) hA Z.zs Z.zf Z.hl Z.hr ll rl ?_ fun h' kz=>wpAny_pure (q h' acc c (kz _ _ (by lia) Z.lst) Z.asz ?_ fun b o hb x=>kz _ _ (by lia) (Z.old b o hb x)))
  ·rcases he with he|he
   ·exact .inl (Array.getElem?_eq_none (by lia))
   ·exact .inr (Array.getElem?_eq_none (by lia))
  ·intro i x y hi h1 h2
   obtain⟨p1,p2⟩:=Z.par i x y hi h1 h2
   exact⟨p1,kz _ _ (by lia) p2⟩
 |d+1,n,s,acc,c,f,g,hd,Z,q=>by
  refine codeAny_builtin F.entry_extend_loop ?_
  rw[Around.under_plainId F.plain_extend_loop _]
  have hx':n < xs.size:=by lia
  have hy':n < ys.size:=by lia
  refine wpAny_bind (m:=pyNext (.ref (B+4))) (ZR (A:=A.in1) Z.zs Z.zf Z.hl Z.hr ll rl (Array.getElem?_eq_getElem hx') (Array.getElem?_eq_getElem hy') fun h' T ct z hT p sz kz=>?_)
  have s0:=Z.sz
  rw[s0]at p sz
  have l1:h'.get? (B+5)=some { cls:=.type "list",data:=.seq acc c }:=kz _ _ (by lia) Z.lst
  have as:=Z.asz
  have up:∀(b:Nat) o,b≠B+5->h'.get? b=some o->(h'.update (B+5) (Obj.mapSeq (·.push (.ref (B+6+n))))).get? b=some o:=fun b o nb e=>(uE _ _ (Ne.symm nb)).trans e
  rw[s0]
  refine wpAny_bind (m:=updateSeq (B+5) (·.push (.ref (B+6+n)))) (wpAny_updateSeq l1 rfl (wpAny_pure ⟨plainId_quiet F.plain_extend_loop _,ZT hA ll rl hN hx hy he d (n+1) _ (acc.push (.ref (B+6+n))) _ (rawInt T) (.bool ct) (by lia) ⟨?_,?_,?_,?_,?_,uU _ l1 rfl,?_,?_,?_⟩ q⟩) (by lia) (by show(acc.push _).size<=sizeLine+1;rw[Array.size_push];lia))
  ·exact z.at fun b o h1 h2 e=>up b o (by lia) e
  ·rcases hT with e|⟨lT,o,hT⟩
   ·rw[s0]at e
    subst e
    exact .inr ⟨_,ct,_,rfl,rfl,up _ _ (by lia) p,by lia⟩
   ·exact .inr ⟨T,ct,o,rfl,rfl,up _ _ (by lia) (kz _ _ (by lia) hT),lT⟩
  ·exact Z.hl.at fun o e=>up _ o (by lia) (kz _ o (by lia) e)
  ·exact Z.hr.at fun o e=>up _ o (by lia) (kz _ o (by lia) e)
  ·show(h'.update _ _).objs.size=_
   rw[Heap.size_update,sz]
   lia
  ·rw[Array.size_push,as]
  ·intro i x y hi h1 h2
   by_cases c1:i=n
   ·subst c1
    rw[Array.getElem?_eq_getElem hx']at h1
    rw[Array.getElem?_eq_getElem hy']at h2
    cases h1
    cases h2
    refine⟨?_,up _ _ (by lia) p⟩
    rw[Array.getElem?_push,if_pos as.symm]
   ·obtain⟨p1,p2⟩:=Z.par i x y (by lia) h1 h2
    refine⟨?_,up _ _ (by lia) (kz _ _ (by lia) p2)⟩
    rw[Array.getElem?_push,if_neg (by lia)]
    exact p1
  ·exact fun b o hb x=>up _ _ (by lia) (kz _ _ (by lia) (Z.old b o hb x))
end
theorem QH:typeLookup (.type "zip") "__len__"=pure none:=by rw[typeLookup_type,builtinLookup_eq_fast];kernel_rfl
theorem Vl:typeLookup (.type "zip") "__length_hint__"=pure none:=by rw[typeLookup_type,builtinLookup_eq_fast];kernel_rfl
section
variable{P:Program}{w:World}{A:Around}{E:Value->Shared->Prop}{s:Shared}{k m:Bool}{B l r N:Nat}{xs ys:Array Value}
theorem Vm{Q:Value->Shared->Prop}(hA:A.handled=none)(Z:ZS k m s.heap B l r 0 .none (.bool false))(hl:Sq k s.heap l xs)(hr:Sq m s.heap r ys)(ll:l < B)(rl:r < B)(sz:s.heap.objs.size=B+5)
  (hN:N<=sizeLine) (hx:N<=xs.size) (hy:N<=ys.size) (he:xs.size<=N\/ys.size<=N)
  (q:∀h' acc' c',h'.get? (B+5)=some { cls:=.type "list",data:=.seq acc' c' }->acc'.size=N->(∀i x y,i < N->xs[i]?=some x->ys[i]?=some y->acc'[i]?=some (.ref (B+6+i))/\IsPair h' (B+6+i) x y)->(∀(b:Nat) o,b < B->s.heap.get? b=some o->h'.get? b=some o)->Q (.ref (B+5)) { s with heap:=h' }) :
  wpAny (model P w) A (call (.type "list") [.ref (B+4)]) Q E s:=by
 refine callType_codes (Q₁:=fun obj s₁=>obj=.ref (B+5)/\s₁={ s with heap:=s.heap.push { cls:=.type "list",data:=.seq #[] } }) F.called_list (F.typeCall_list_1 _) F.entry_list_init (code_list_new _ ⟨by rw[sz],rfl⟩) ?_
 rintro obj s1 ⟨rfl,rfl⟩
 have l0:(s.heap.push { cls:=.type "list",data:=.seq #[] }).get? (B+5)=some { cls:=.type "list",data:=.seq #[] }:=by
  rw[<- sz]
  exact ut _ rfl
 have z0:(s.heap.push { cls:=.type "list",data:=.seq #[] }).objs.size=B+6:=by rw[Uf,sz]
 have up:∀(b:Nat) o,s.heap.get? b=some o->(s.heap.push { cls:=.type "list",data:=.seq #[] }).get? b=some o:=fun b o e=>ud _ e
 generalize s.heap.push { cls:=.type "list",data:=.seq #[] }=h at l0 z0 up
 refine⟨⟨_,l0,rfl⟩,F.args_list_init_2 _ _,?_⟩
 refine wpAny_bind (m:=Builtin.List.listItems (.ref (B+5))) ?_
 unfold Builtin.List.listItems
 refine wpAny_bind (wpAny_seqItems l0 rfl (wpAny_pure ?_))
 refine wpAny_bind (m:=updateSeq (B+5) (fun _=>#[])) (wpAny_updateSeq l0 rfl ?_)
 have l1:=uU (Obj.mapSeq (fun _=>(#[]:Array Value))) l0 rfl
 have u1:∀(b:Nat) o,b≠B+5->h.get? b=some o->(h.update (B+5) (Obj.mapSeq (fun _=>(#[]:Array Value)))).get? b=some o:=fun b o n e=>(uE _ _ (Ne.symm n)).trans e
 have z1:(h.update (B+5) (Obj.mapSeq (fun _=>(#[]:Array Value)))).objs.size=B+6:=by rw[Heap.size_update,z0]
 refine wpAny_bind (wpAny_letGo ?_)
 show wpAny _ _ (Builtin.List.listExtendWith (.ref (B+5)) (.ref (B+4)) .none) _ _ _
 generalize h.update (B+5) (Obj.mapSeq (fun _=>(#[]:Array Value)))=h1 at l1 u1 z1 ⊢
 replace up:∀(b:Nat) o,b < B+5->s.heap.get? b=some o->h1.get? b=some o:=fun b o n e=>u1 b o (by lia) (up b o e)
 have Z1:ZS k m h1 B l r 0 .none (.bool false):=Z.at fun b o h1 h2 e=>up b o (by lia) e
 unfold Builtin.List.listExtendWith
 refine wpAny_bind (wpAny_typeOf (T:="zip") ⟨_,Z1.z,rfl⟩ ?_)
 have n1:Builtin.List.listSameRef (.ref (B+5)) (.ref (B+4))=false:=by simp[Builtin.List.listSameRef]
 have n2:(Value.type "zip" == Value.type "list" || Value.type "zip" == Value.type "tuple")=false:=by decide
 rw[n1,Bool.false_or,n2,if_neg uw]
 refine wpAny_bind (wpAny_pyIter_zip Z1.z (wpAny_bind (wpAny_holding ?_)))
 unfold Builtin.List.listLengthHint
 refine wpAny_bind (wpAny_specialOf (T:="zip") ⟨_,Z1.z,rfl⟩ QH ?_)
 refine wpAny_bind (m:=specialOf (Value.ref (B+4)) (Str.ofString "__length_hint__")) (wpAny_specialOf (T:="zip") ⟨_,Z1.z,rfl⟩ Vl (wpAny_pure ?_))
 refine wpAny_bind (m:=rule "list.extend.makes-room") (wpAny_rule (wpAny_bind ?_))
 refine wpAny_bind (m:=updateSeq (B+5) (·.push .none)) (wpAny_updateSeq l1 rfl ?_)
 have l2:=uU (Obj.mapSeq (·.push Value.none)) l1 rfl
 refine wpAny_updateSeq (a:=B+5) (f:=(·.pop)) (hz:=by seq_fits) l2 rfl ?_
 have l3:=uU (Obj.mapSeq (·.pop)) l2 rfl
 have u3:∀(b:Nat) o,b≠B+5->h1.get? b=some o->((h1.update (B+5) (Obj.mapSeq (·.push Value.none))).update (B+5) (Obj.mapSeq (·.pop))).get? b=some o:=fun b o n e=>(uE _ _ (Ne.symm n)).trans ((uE _ _ (Ne.symm n)).trans e)
 refine wpAny_pure ⟨plainId_quiet F.plain_extend_loop _,ZT (h0:=s.heap) (A:=A.in1) (acc:=#[]) hA ll rl hN hx hy he N 0 _ _ .none (.bool false) (by lia) ⟨Z1.at fun b o h1 h2 e=>u3 b o (by lia) e,.inl rfl,?_,?_,?_,l3,rfl,?_,?_⟩ ?_⟩
 ·exact hl.at fun o e=>u3 _ o (by lia) (up _ o (by lia) e)
 ·exact hr.at fun o e=>u3 _ o (by lia) (up _ o (by lia) e)
 ·show(Heap.update (Heap.update _ _ _) _ _).objs.size=_
  rw[Heap.size_update,Heap.size_update,z1]
 ·intro i x y hi
  lia
 ·exact fun b o hb e=>u3 _ _ (by lia) (up _ _ (by lia) e)
 ·exact fun h' acc' c' h1 h2 h3 h4=>⟨rfl,q h' acc' c' h1 h2 h3 h4⟩
end
theorem jt(g:Nat->Nat):∀l:List Nat,Vals (l.map fun i=>V.ref (g i)) (l.map fun i=>Value.ref (g i))
 |[]=>.nil
 |i::l=>.cons rfl (jt g l)
def hpZ(H:Hp)(B N:Nat)(f:Nat->List V):Hp:=fun(b:Nat)=>if b=B+5 then some (.lst ((uT N).map fun i=>V.ref (B+6+i)))else if B+6<=b/\b < B+6+N then some (.tup (f (b-(B+6))))else H b
theorem xz{H:Hp}{B N:Nat}{f:Nat->List V}{b:Nat}(h:b < B+5):hpZ H B N f b=H b:=by
 unfold hpZ
 rw[if_neg (by lia),if_neg (by lia)]
theorem Xo{H:Hp}{B N:Nat}{f:Nat->List V}:hpZ H B N f (B+5)=some (.lst ((uT N).map fun i=>V.ref (B+6+i))):=if_pos rfl
theorem Xp{H:Hp}{B N:Nat}{f:Nat->List V}{i:Nat}(h:i < N):hpZ H B N f (B+6+i)=some (.tup (f i)):=by
 unfold hpZ
 rw[if_neg (by lia),if_pos (by lia)]
 rw[show B+6+i-(B+6)=i by lia]
theorem Inv.zipped{X:Cx}{pins:List (Addr×Obj)}{σ:St}{H:Hp}{s:Shared}{h':Heap}{B N:Nat}{f:Nat->List V}{us:Nat->Array Value}{acc:Array Value}{c:Nat}(I:Inv X pins σ H s)(hB:s.heap.objs.size=B)(k:∀(b:Nat) o,b < B->s.heap.get? b=some o->h'.get? b=some o)
  (hl:h'.get? (B+5)=some { cls:=.type "list",data:=.seq acc c }) (hN:N<=sizeLine) (hs:acc.size=N) (ha:∀i,i < N->acc[i]?=some (.ref (B+6+i))) (ht:∀i,i < N->(f i).length<=sizeLine/\Vals (f i) (us i).toList/\h'.get? (B+6+i)=some { cls:=.type "tuple",data:=.seq (us i) }) :
  Inv X pins σ (hpZ H B N f) { s with heap:=h' }:=by
 have lt:∀{b:Nat}{u},H b=some u->b < B:=fun e=>by rw[<- hB];exact I.hok.lt e
 have lt':∀{b:Nat}{o},s.heap.get? b=some o->b < B:=fun e=>by rw[<- hB];exact uq e
 refine I.un (t':=s.toks) ⟨fun b o e _ _ _=>k b o (lt' e) e,fun b o e _ _ _=>⟨o.slots,k b o (lt' e) e⟩,fun b o e n _=>by rw[xz (by have:=lt' e;lia)];exact n,fun b o e _=>⟨o,k b o (lt' e) e⟩,
  fun b xs e=>by rw[xz (by have:=lt e;lia)];exact e,fun b u xs e=>by rw[xz (by have:=lt e;lia)];exact e,fun b ps e=>⟨#[],by rw[xz (by have:=lt e;lia),e];simp⟩⟩ fun(b:Nat) u e=>?_
 by_cases c1:b=B+5
 ·subst c1
  rw[Xo]at e
  cases e
  refine⟨by simpa using hN,acc.toList,c,?_,by simpa using hl⟩
  have e2:acc.toList=(uT N).map fun i=>Value.ref (B+6+i):=by
   apply List.ext_getElem?
   intro i
   by_cases hi:i < N
   ·have:=ha i hi
    simp[hi]
    simpa using this
   ·simp[hi]
    lia
  rw[e2]
  exact jt _ _
 ·by_cases c2:B+6<=b/\b < B+6+N
  ·obtain⟨i,rfl⟩:∃i,b=B+6+i:=⟨b-(B+6),by lia⟩
   have hi:i < N:=by lia
   rw[Xp hi]at e
   cases e
   obtain⟨t1,t2,t3⟩:=ht i hi
   exact⟨t1,(us i).toList,t2,⟨_,t3,rfl,rfl,0,rfl⟩⟩
  ·have e':H b=some u:=by
    unfold hpZ at e
    rw[if_neg c1,if_neg c2]at e
    exact e
   exact(I.hok b u e').stay (fun d v _ q=>k d v (lt' q) q) (fun d q=>by rw[xz (by have:=lt q;lia)];exact q) fun d xs q=>by rw[xz (by have:=lt q;lia)];exact q
def zcH(K:ub):List V->Hp->VK->Prop:=fun vs H Q=>∃a b xs ys,vs=[.ref a,.ref b]/\(SqL K H a xs\/SqT K H a xs)/\(SqL K H b ys\/SqT K H b ys) /\
 ∀(H':Hp)(p:Addr)(ps:List Addr),Same H H'->H p=none->H' p=some (.lst (ps.map V.ref))->ps.length=min xs.length ys.length->(∀t∈ps,H t=none/\t≠p)->ps.Nodup->(∀(i:Nat) x y,xs[i]?=some x->ys[i]?=some y->∃t,ps[i]?=some t/\H' t=some (.tup [x,y]))->Q (.ref p) H'
def zaM(K:ub)(ta:TA):TE:=fun σ H Q=>ta σ H fun vs H1=>zcH K vs H1 Q
theorem Inv.sq{X:Cx}{pins:List (Addr×Obj)}{σ:St}{H:Hp}{s:Shared}{a:Addr}{xs:List V}(I:Inv X pins σ H s)(h:SqL X.K H a xs\/SqT X.K H a xs):∃(k:Bool)(its:List Value),Vals xs its/\Sq k s.heap a its.toArray/\xs.length<=sizeLine/\(a:Nat) < s.heap.objs.size:=by
 rcases h with h|h
 ·obtain⟨its,r,p,z⟩:=I.list h
  have⟨o,n,e,_⟩:=p
  exact⟨true,its,r,p.isList,z,uq e⟩
 ·obtain⟨its,r,p,z⟩:=I.tuple h
  have⟨o,e,_⟩:=p
  exact⟨false,its,r,p,z,uq e⟩
section
variable{X:Cx}{a b:Expr}{ta:TA}{p1 p2 pos1 pos2:Pos}
theorem QI(hc:X.calm=true)(hgL:Gl X "list")(hmL:X.mg "list"=none)(hgZ:Gl X "zip")(hmZ:X.mg "zip"=none)(ha:PA X [a,b] ta)
  (h1:starEach [a,b] X.env=[(false,eval a X.env),(false,eval b X.env)]:=by rfl) (h2:starEach [b] X.env=[(false,eval b X.env)]:=by rfl):PE X (.Call (.Name "list" p1) [.Call (.Name "zip" p2) [a,b] [] pos2] [] pos1) (zaM X.K ta):=by
 intro pins s σ H Q I h
 refine Call_ (xv I hgL hmL UE (Ul (Calls.spliced_cons (Call_ (xv I hgZ hmZ boot_zip (Ul (thn (ha pos2 pins s σ H _ I h) fun us s1 g=>?_) (by rw[h1,h2]) (by rw[h2];rfl))))) rfl rfl))
 obtain⟨vs,H1,I1,r1,a1,b1,xs,ys,rfl,hq1,hq2,q⟩:=g
 obtain⟨u,u',rfl,e1,e2⟩:=vx r1
 cases e1
 cases e2
 obtain⟨k1,i1,v1,q1,z1,l1⟩:=I1.sq hq1
 obtain⟨k2,i2,v2,q2,z2,l2⟩:=I1.sq hq2
 refine vI q1 q2 fun h' Z sz kp=>Calls.spliced_nil ?_
 have hh:X.A.handled=none:=I1.ok.hd hc
 have n1:=v1.length
 have n2:=v2.length
 refine Vm (s:={ s1 with heap:=h' }) (N:=min xs.length ys.length) hh Z (q1.at fun o=>kp _ o) (q2.at fun o=>kp _ o) l1 l2 sz (by lia) (by rw[uo];lia) (by rw[uo];lia) (by rw[uo,uo];lia) fun h'' acc c hl hs hp ho=>?_
 have pairs:∀i,i < min xs.length ys.length->∃x y u v,xs[i]?=some x/\ys[i]?=some y/\i1[i]?=some u/\i2[i]?=some v/\RelV x u/\RelV y v:=fun i hi=>by
  have c1:i < xs.length:=by lia
  have c2:i < ys.length:=by lia
  obtain⟨u,e1,r1⟩:=v1.get (um c1)
  obtain⟨v,e2,r2⟩:=v2.get (um c2)
  exact⟨_,_,u,v,um c1,um c2,e1,e2,r1,r2⟩
 have I2:Inv X pins σ (hpZ H1 s1.heap.objs.size (min xs.length ys.length) fun i=>[xs.getD i .non,ys.getD i .non]) { s1 with heap:=h'' }:=by
  refine I1.zipped (us:=fun i=>#[i1.getD i .none,i2.getD i .none]) (acc:=acc) (c:=c) rfl (fun b o hb e=>ho b o hb (kp _ _ e)) hl (by lia) hs (fun i hi=>?_) fun i hi=>?_
  ·obtain⟨x,y,u,v,_,_,e1,e2,_⟩:=pairs i hi
   exact(hp i u v hi (by simpa using e1) (by simpa using e2)).1
  ·obtain⟨x,y,u,v,f1,f2,e1,e2,r1,r2⟩:=pairs i hi
   refine⟨sN2,?_,?_⟩
   ·rw[uH,uH,f1,f2]
    rw[uH,uH,e1,e2]
    exact .cons r1 (.cons r2 .nil)
   ·rw[uH,uH,e1,e2]
    exact(hp i u v hi (by simpa using e1) (by simpa using e2)).2
 have old:∀{c:Nat}{o},H1 c=some o->c < s1.heap.objs.size:=fun e=>I1.hok.lt e
 refine⟨.ref (s1.heap.objs.size+5),_,I2,rfl,q _ _ ((uT (min xs.length ys.length)).map fun i=>s1.heap.objs.size+6+i) (fun c o e=>?_) (I1.hok.fresh (tj _ _)) ?_ (by simp) ?_ ?_ ?_⟩
 ·rw[xz (by have:=old e;lia)]
  exact e
 ·rw[Xo,UV]
  rfl
 ·intro t ht
  obtain⟨i,_,rfl⟩:=UA.mp ht
  refine⟨I1.hok.fresh ?_,?_⟩
  ·show s1.heap.objs.size<=s1.heap.objs.size+6+i
   lia
  ·show s1.heap.objs.size+6+i≠s1.heap.objs.size+5
   lia
 ·refine List.Pairwise.map _ (fun i j (ne:i≠j) e=>ne ?_) List.nodup_range
  have e':s1.heap.objs.size+6+i=s1.heap.objs.size+6+j:=e
  exact Nat.add_left_cancel e'
 ·intro i x y hx hy
  have c1:i < xs.length:=(ug.mp hx).1
  have c2:i < ys.length:=(ug.mp hy).1
  refine⟨s1.heap.objs.size+6+i,?_,?_⟩
  ·rw[uk,tR (by lia)]
   rfl
  ·rw[Xp (by lia),uH,uH,hx,hy]
   rfl
theorem QJ(hc:X.calm=true)(hgL:Gl X "list")(hmL:X.mg "list"=none)(hgZ:Gl X "zip")(hmZ:X.mg "zip"=none)(ha:jA X [a,b] ta)(h1:zt a=false:=by rfl)(h2:zt b=false:=by rfl):
  jE X (.Call (.Name "list" p1) [.Call (.Name "zip" p2) [a,b] [] pos2] [] pos1) (zaM X.K ta):=⟨QI hc hgL hmL hgZ hmZ ha.out (by rw[zD h1,zD h2];rfl) (by rw[zD h2];rfl)⟩
end
def SqK(k:Bool)(K:ub)(H:Hp)(a:Addr)(xs:List V):Prop:=match k with
 |true=>SqL K H a xs
 |false=>SqT K H a xs
theorem Inv.sqk{X:Cx}{pins:List (Addr×Obj)}{σ:St}{H:Hp}{s:Shared}{k:Bool}{a:Addr}{xs:List V}(I:Inv X pins σ H s)(h:SqK k X.K H a xs):∃its:List Value,Vals xs its/\Sq k s.heap a its.toArray/\xs.length<=sizeLine/\(a:Nat) < s.heap.objs.size:=by
 cases k with
 |true =>
  obtain⟨its,r,p,z⟩:=I.list h
  have⟨o,n,e,_⟩:=p
  exact⟨its,r,p.isList,z,uq e⟩
 |false =>
  obtain⟨its,r,p,z⟩:=I.tuple h
  have⟨o,e,_⟩:=p
  exact⟨its,r,p,z,uq e⟩
theorem Inv.sqk_inj{X:Cx}{pins:List (Addr×Obj)}{σ:St}{H:Hp}{s:Shared}{k:Bool}{a:Addr}{xs ys:List V}(I:Inv X pins σ H s)(h:SqK k X.K H a xs)(h':SqK k X.K H a ys):xs=ys:=by
 cases k with
 |true=>exact I.list_inj h h'
 |false=>exact I.tuple_inj h h'
def Itz(K:ub)(k m:Bool)(a b:Addr):It :=
 ⟨fun i H=>∃xs ys x y,SqK k K H a xs/\SqK m K H b ys/\xs[i]?=some x/\ys[i]?=some y,
   fun i H v H'=>∃T x y,v=.ref T/\H T=none/\H'=upd H T (.tup [x,y])/\(∀xs,SqK k K H a xs->xs[i]?=some x)/\∀ys,SqK m K H b ys->ys[i]?=some y,
   fun i H=>∃xs ys,SqK k K H a xs/\SqK m K H b ys/\(xs.length<=i\/ys.length<=i)⟩
theorem KeptZ.of{B:Nat}{h h':Heap}(z:KeptZ B h h'):∀(b:Nat) o,b∉[B,B+1,B+2,B+3,B+4]->h.get? b=some o->h'.get? b=some o:=fun b o n e=>z b o (by simp only[uu,uD,or_false,not_or]at n;lia) e
theorem Xq{k m:Bool}{h:Heap}{B l r n:Nat}{f g:Value}(Z:ZS k m h B l r n f g):∀b∈[B,B+1,B+2,B+3,B+4],∃o,h.get? b=some o/\∀v,o.data≠.cell v:=by
 intro b hb
 simp only[uu,uD,or_false]at hb
 rcases hb with rfl|rfl|rfl|rfl|rfl
 ·obtain⟨o,e,_,d⟩:=Z.i.ex
  exact⟨o,e,fun v z=>by rw[d]at z;cases z⟩
 ·obtain⟨o,e,_,d⟩:=Z.j.ex
  exact⟨o,e,fun v z=>by rw[d]at z;cases z⟩
 ·exact⟨_,Z.ti,fun v z=>by cases z⟩
 ·obtain⟨x,y,e⟩:=Z.to
  exact⟨_,e,fun v z=>by cases z⟩
 ·exact⟨_,Z.z,fun v z=>by cases z⟩
theorem Vn{P:Program}{w:World}{K:ub}{elts:List Expr}{n:Nat}{pos:Pos}{k m:Bool}{a b:Addr}{B:Nat}(la:(a:Nat) < B)(lb:(b:Nat) < B):
  Turn P w K (.Tuple elts n pos) (Itz K k m a b) [B,B+1,B+2,B+3,B+4] (B+4) (fun i h=>ZS k m h B a b i .none (.bool false)) where
 mem:=by simp
 obj:=fun i h st=>Xq st
 keep:=fun i h h' st kp=>st.at fun c o h1 h2 e=>kp c (by
  have:c=B\/c=B+1\/c=B+2\/c=B+3\/c=B+4:=by lia
  simpa using this) o e
 item:=by
  intro X hP hw hK hc i pins s σ H E I hf st hg
  subst hP hw hK
  obtain⟨xs,ys,x,y,h1,h2,hx,hy⟩:=hg
  obtain⟨i1,v1,q1,z1,l1⟩:=I.sqk h1
  obtain⟨i2,v2,q2,z2,l2⟩:=I.sqk h2
  obtain⟨u,eu,ru⟩:=v1.get hx
  obtain⟨v,ev,rv⟩:=v2.get hy
  have ty:s.TypeIs (.ref (B+4)) "zip":=⟨_,st.z,rfl⟩
  unfold pyNext
  refine wpAny_bind (wpAny_attempt (wpAny_callSpecial?_slot ty F.slot_zip_next (wpAny_call_entry F.slot_zip_next ty F.entry_zip_next ?_ (F.args_zip_next_1 (.ref (B+4))))))
  refine ZP st q1 q2 la lb (by simpa using eu) (by simpa using ev) fun h' z p sz kz=>wpAny_pure ⟨_,rfl,?_⟩
  have new:ObjOk X.prog X.w (upd H s.heap.objs.size (.tup [x,y])) h' s.heap.objs.size (.tup [x,y]):=⟨sN2,[u,v],.cons ru (.cons rv .nil),⟨_,p,rfl,rfl,_,rfl⟩⟩
  have I1:Inv X pins σ (upd H s.heap.objs.size (.tup [x,y])) { s with heap:=h' }:=I.turnsLaid (t':=s.toks) (ch:=[B,B+1,B+2,B+3,B+4]) kz.of hf (ui _) new
  have hn:∀c∈[B,B+1,B+2,B+3,B+4],upd H s.heap.objs.size (.tup [x,y]) c=none:=fun c hc=>by
   obtain⟨o,e,_⟩:=Xq st c hc
   rw[zm (uC (uq e))]
   exact(hf c hc).1
  have hf1:∀c∈[B,B+1,B+2,B+3,B+4],FpOk X pins (upd H s.heap.objs.size (.tup [x,y])) c:=fun c hc=>⟨hn c hc,(hf c hc).2⟩
  refine wpAny_letOwnedTupleGo_zip z.z fun h3 z2 u2=>?_
  have I2:Inv X pins σ (upd H s.heap.objs.size (.tup [x,y])) { s with heap:=h3 }:=Inv.turns (s:={ s with heap:=h' }) (t':=s.toks) (ch:=[B,B+1,B+2,B+3,B+4]) I1 (fun c o hc e=>(u2.2 c fun z=>hc (by simp[z])).trans e) hf1
  refine⟨.ref s.heap.objs.size,_,I2,rfl,⟨_,x,y,rfl,I.fresh,rfl,fun zs hz=>by rw[I.sqk_inj hz h1];exact hx,fun zs hz=>by rw[I.sqk_inj hz h2];exact hy⟩,?_,hn⟩
  have up:∀(c:Nat) o,c≠B+4->h'.get? c=some o->h3.get? c=some o:=fun c o n e=>(u2.2 c n).trans e
  exact⟨z2,up _ _ (by lia) z.ti,let ⟨c,d,e⟩:=z.to;⟨c,d,up _ _ (by lia) e⟩,z.i.at fun o e=>up _ _ (by lia) e,z.j.at fun o e=>up _ _ (by lia) e⟩
 done:=by
  intro X hP hw hK hc i pins s σ H E I hf st hg
  subst hP hw hK
  obtain⟨xs,ys,h1,h2,hl⟩:=hg
  obtain⟨i1,v1,q1,z1,l1⟩:=I.sqk h1
  obtain⟨i2,v2,q2,z2,l2⟩:=I.sqk h2
  have n1:=v1.length
  have n2:=v2.length
  refine vJ (I.ok.hd hc) st (.inl rfl) q1 q2 la lb ?_ fun h' kz=>⟨rfl,I.turns (t':=s.toks) (ch:=[B,B+1,B+2,B+3,B+4]) kz.of hf⟩
  rcases hl with hl|hl
  ·exact .inl (by simp;lia)
  ·exact .inr (by simp;lia)
 self:=fun _ _ _ _ _ st h=>by
  have ty:Shared.TypeIs _ (.ref (B+4)) "zip":=⟨_,st.z,rfl⟩
  exact wpAny_pyIter_slot ty F.slot_zip_iter (wpAny_call_entry F.slot_zip_iter ty F.entry_zip_iter (wpAny_pure ⟨_,rfl,"zip",_,ty,F.slot_zip_next.lookup,h⟩) (F.args_zip_iter_1 (.ref (B+4))))
section
variable{X:Cx}{elts:List Expr}{n:Nat}{tpos:Pos}
def iZip(K:ub)(ta:TA):TI:=fun σ H R=>ta σ H fun vs H1=>∃a b k m xs ys,vs=[.ref a,.ref b]/\SqK k K H1 a xs/\SqK m K H1 b ys/\R (Itz K k m a b) H1
theorem zbS{a b:Expr}{ta:TA}{p pos:Pos}(hg:Gl X "zip")(hm:X.mg "zip"=none)(ha:PA X [a,b] ta)(h1:starEach [a,b] X.env=[(false,eval a X.env),(false,eval b X.env)]:=by rfl)(h2:starEach [b] X.env=[(false,eval b X.env)]:=by rfl):
  PI X (.Tuple elts n tpos) (.Call (.Name "zip" p) [a,b] [] pos) (iZip X.K ta):=by
 intro pins s σ H R I h
 refine Call_ (xv I hg hm boot_zip (Ul (thn (ha pos pins s σ H _ I h) fun us s1 g=>?_) (by rw[h1,h2]) (by rw[h2];rfl)))
 obtain⟨vs,H1,I1,r1,a1,b1,k,m,xs,ys,rfl,g1,g2,q⟩:=g
 obtain⟨u,u',rfl,e1,e2⟩:=vx r1
 cases e1
 cases e2
 obtain⟨i1,v1,q1,z1,l1⟩:=I1.sqk g1
 obtain⟨i2,v2,q2,z2,l2⟩:=I1.sqk g2
 refine vI q1 q2 fun h' Z sz kp=>?_
 have tz:=Vn (P:=X.prog) (w:=X.w) (K:=X.K) (elts:=elts) (n:=n) (pos:=tpos) (k:=k) (m:=m) l1 l2
 refine tz.self X.A 0 { s1 with heap:=h' } _ _ Z ⟨s1.heap.objs.size+4,_,_,_,H1,rfl,I1.kept (t':=s1.toks) kp,tz,Z,fun c hc=>?_,q⟩
 have hc':c=s1.heap.objs.size\/c=s1.heap.objs.size+1\/c=s1.heap.objs.size+2\/c=s1.heap.objs.size+3\/c=s1.heap.objs.size+4:=by simpa using hc
 have le:s1.heap.objs.size<=c:=by
  rcases hc' with e|e|e|e|e<;>rw[e]<;>first|exact ui _|exact tj _ _
 exact I1.fpOk le (I1.hok.fresh le)
theorem Zd{a b:Expr}{t:TA}{p pos:Pos}(hg:Gl X "zip")(hm:X.mg "zip"=none)(ha:jA X [a,b] t)(h1:zt a=false:=by rfl)(h2:zt b=false:=by rfl):jI X (.Tuple elts n tpos) (.Call (.Name "zip" p) [a,b] [] pos) (iZip X.K t) :=
 ⟨zbS hg hm ha.out (by rw[zD h1,zD h2];rfl) (by rw[zD h2];rfl)⟩
end
structure Ca(P:Program)(w:World)(K:ub)(mg:Str->Option Value)(base:Heap)(CX:CXT)(k:Nat)(x:Str)(ps:List Str)(sp:Sp):Prop where
 ex:∃f fd,FnOk P w K mg base CX k f fd ps sp/\Binds K fd ps []/\Ud K (.ref f)=true/\mg x=some (.ref f)
structure Me(P:Program)(w:World)(K:ub)(mg:Str->Option Value)(base:Heap)(CX:CXT)(k:Nat)(C:Addr)(m:Str)(ps:List Str)(sp:Sp):Prop where
 ex:∃f fd,FnOk P w K mg base CX k f fd ps sp/\Binds K fd ps []/\Meth K C m f
structure Ma(P:Program)(w:World)(K:ub)(mg:Str->Option Value)(base:Heap)(CX:CXT)(k:Nat)(x:Str)(C:Addr)(ps:List Str)(sp:Sp):Prop where
 ex:∃f fd,Mk K C f/\FnOk P w K mg base CX k f fd ps sp/\Binds K fd ps []/\mg x=some (.ref C)
structure Xa(P:Program)(w:World)(K:ub)(mg:Str->Option Value)(base:Heap)(k:Nat)(x:Str)(C:Addr)(ps:List Str)(sp:Sp):Prop where
 ex:∃f fd,XCl K C f/\FnOk P w K mg base CX0 k f fd ps sp/\Binds K fd ps []/\mg x=some (.ref C)
section
variable{P:Program}{w:World}{K:ub}{mg:Str->Option Value}{base:Heap}{CX:CXT}{k j:Nat}{x m:Str}{C:Addr}{ps:List Str}{sp sp':Sp}
end
section
variable{X:Cx}{CX:CXT}{k i:Nat}{C:Addr}{ps:List Str}{sp:Sp}{E:XK}{x m n f:Str}{p pos apos cpos np pos' epos hpos tpos:Pos}{e o a value:Expr}{es as:List Expr}{ta te tv to t1 t2:TE}{t:TA}
theorem w9(F:Ca X.prog X.w X.K X.mg X.base CX k x ps sp)(hr:Room k X.A)(hg:Gl X x)(hx:yG CX X E)(ha:jA X (e::es) t)(hdb:(x == ("__debug__":Str))=false:=by decide)(h1:zt e=false:=by rfl)(h2:es.all (fun e=>!zt e)=true:=by rfl):
  jE X (.Call (.Name x p) (e::es) [] pos) (ZG sp [] E t):=let ⟨_,_,G,b,kp,mg⟩:=F.ex;zcF G hr hg mg kp b .nil hx ha hdb h1 h2
theorem yi{pl:Sem Bool}(he:jE X o ta)(c:Cls X.K C)(F:Me X.prog X.w X.K X.mg X.base CX k C m ps sp)(hr:Room k X.A)(hx:yG CX X E)(ha:jA X (e::es) t)(h1:zt e=false:=by rfl)(h2:es.all (fun e=>!zt e)=true:=by rfl)
  (ht:eval (.Call (.Attribute o m apos) (e::es) [] pos) X.env=(do
   let ov <- eval o X.env
   standAt apos.atName
   let (f,first) <- holding [ov] (getMethod ov m pl)
   callWith pos f first (backTo pos (starEach (e::es) X.env)) (backToKw pos (keywordEach [] X.env))):=by rfl) :
  jE X (.Call (.Attribute o m apos) (e::es) [] pos) (zaE C m sp [] E ta t):=let ⟨_,_,G,b,mt⟩:=F.ex;⟨Qg he.out c mt G hr b .nil hx ha.out (zD h1) (yq h2) ht⟩
theorem zaN(F:Ma X.prog X.w X.K X.mg X.base CX k x C ps sp)(hr:Room (k+1) X.A)(hg:Gl X x)(hx:yG CX X E)(ha:jA X (e::es) t)(hdb:(x == ("__debug__":Str))=false:=by decide)(h1:zt e=false:=by rfl)(h2:es.all (fun e=>!zt e)=true:=by rfl):
  jE X (.Call (.Name x p) (e::es) [] pos) (zaF C sp [] E t):=let ⟨_,_,M,G,b,mg⟩:=F.ex;⟨Qh M G hr hg mg b .nil hx ha.out hdb (zD h1) (yq h2)⟩
theorem yw(he:jE X e ta)(hb:attributeBase e f X.env (eval e X.env)=eval e X.env:=by rfl):jE X (.Attribute e f pos) (tFld X.K ta f):=⟨zbu he.out hb⟩
theorem Yz(ha:jE X o ta)(hv:jE X value tv)(hs:swapsWith value (some (.Attribute o f pos')) pos.line X.env=pure false:=by rfl):jS X (.Assign [.Attribute o f pos'] value pos) (sFld X.K ta tv f):=⟨zbv ha.out hv.out hs⟩
theorem Vo(F:Xa X.prog X.w X.K X.mg X.base k x C ps sp)(hr:Room (k+1) X.A)(hg:Gl X x)(hx:Yy X E)(ha:jA X (a::as) t)(hdb:(x == ("__debug__":Str))=false:=by decide)(h1:zt a=false:=by rfl)(h2:as.all (fun e=>!zt e)=true:=by rfl):
  jS X (.Raise (some (.Call (.Name x np) (a::as) [] cpos)) none pos) (Ve C sp E t):=let ⟨_,_,M,G,b,mg⟩:=F.ex;⟨Vf M G hr hg mg b hx ha.out hdb h1 h2⟩
end
end L2
namespace L2
open PySem
section
variable{X:Cx}{x:Str}{pos p q p2:Pos}
theorem jA1{e1:Expr}{t1:TE}(h1:jE X e1 t1)(s1:zt e1=false:=by rfl):jA X [e1] (zR t1 tNil):=(ja_c h1 zA s1)
theorem jA2{e1:Expr}{t1:TE}{e2:Expr}{t2:TE}(h1:jE X e1 t1)(h2:jE X e2 t2)(s1:zt e1=false:=by rfl)(s2:zt e2=false:=by rfl):jA X [e1,e2] (zR t1 (zR t2 tNil)):=(ja_c h1 (ja_c h2 zA s2) s1)
theorem jA3{e1:Expr}{t1:TE}{e2:Expr}{t2:TE}{e3:Expr}{t3:TE}(h1:jE X e1 t1)(h2:jE X e2 t2)(h3:jE X e3 t3)(s1:zt e1=false:=by rfl)(s2:zt e2=false:=by rfl)(s3:zt e3=false:=by rfl):jA X [e1,e2,e3] (zR t1 (zR t2 (zR t3 tNil))):=(ja_c h1 (ja_c h2 (ja_c h3 zA s3) s2) s1)
theorem jA4{e1:Expr}{t1:TE}{e2:Expr}{t2:TE}{e3:Expr}{t3:TE}{e4:Expr}{t4:TE}(h1:jE X e1 t1)(h2:jE X e2 t2)(h3:jE X e3 t3)(h4:jE X e4 t4)(s1:zt e1=false:=by rfl)(s2:zt e2=false:=by rfl)(s3:zt e3=false:=by rfl)(s4:zt e4=false:=by rfl):jA X [e1,e2,e3,e4] (zR t1 (zR t2 (zR t3 (zR t4 tNil)))):=(ja_c h1 (ja_c h2 (ja_c h3 (ja_c h4 zA s4) s3) s2) s1)
theorem jA5{e1:Expr}{t1:TE}{e2:Expr}{t2:TE}{e3:Expr}{t3:TE}{e4:Expr}{t4:TE}{e5:Expr}{t5:TE}(h1:jE X e1 t1)(h2:jE X e2 t2)(h3:jE X e3 t3)(h4:jE X e4 t4)(h5:jE X e5 t5)(s1:zt e1=false:=by rfl)(s2:zt e2=false:=by rfl)(s3:zt e3=false:=by rfl)(s4:zt e4=false:=by rfl)(s5:zt e5=false:=by rfl):jA X [e1,e2,e3,e4,e5] (zR t1 (zR t2 (zR t3 (zR t4 (zR t5 tNil))))):=(ja_c h1 (ja_c h2 (ja_c h3 (ja_c h4 (ja_c h5 zA s5) s4) s3) s2) s1)
theorem jA6{e1:Expr}{t1:TE}{e2:Expr}{t2:TE}{e3:Expr}{t3:TE}{e4:Expr}{t4:TE}{e5:Expr}{t5:TE}{e6:Expr}{t6:TE}(h1:jE X e1 t1)(h2:jE X e2 t2)(h3:jE X e3 t3)(h4:jE X e4 t4)(h5:jE X e5 t5)(h6:jE X e6 t6)(s1:zt e1=false:=by rfl)(s2:zt e2=false:=by rfl)(s3:zt e3=false:=by rfl)(s4:zt e4=false:=by rfl)(s5:zt e5=false:=by rfl)(s6:zt e6=false:=by rfl):jA X [e1,e2,e3,e4,e5,e6] (zR t1 (zR t2 (zR t3 (zR t4 (zR t5 (zR t6 tNil)))))):=(ja_c h1 (ja_c h2 (ja_c h3 (ja_c h4 (ja_c h5 (ja_c h6 zA s6) s5) s4) s3) s2) s1)
theorem jA7{e1:Expr}{t1:TE}{e2:Expr}{t2:TE}{e3:Expr}{t3:TE}{e4:Expr}{t4:TE}{e5:Expr}{t5:TE}{e6:Expr}{t6:TE}{e7:Expr}{t7:TE}(h1:jE X e1 t1)(h2:jE X e2 t2)(h3:jE X e3 t3)(h4:jE X e4 t4)(h5:jE X e5 t5)(h6:jE X e6 t6)(h7:jE X e7 t7)(s1:zt e1=false:=by rfl)(s2:zt e2=false:=by rfl)(s3:zt e3=false:=by rfl)(s4:zt e4=false:=by rfl)(s5:zt e5=false:=by rfl)(s6:zt e6=false:=by rfl)(s7:zt e7=false:=by rfl):jA X [e1,e2,e3,e4,e5,e6,e7] (zR t1 (zR t2 (zR t3 (zR t4 (zR t5 (zR t6 (zR t7 tNil))))))):=(ja_c h1 (ja_c h2 (ja_c h3 (ja_c h4 (ja_c h5 (ja_c h6 (ja_c h7 zA s7) s6) s5) s4) s3) s2) s1)
theorem cA{k:Nat}{ps:List Str}{sp:Sp}{e:Expr}{es:List Expr}{t:TA}(F:Ca X.prog X.w X.K X.mg X.base CX0 k x ps sp)(hr:Room k X.A)(ha:jA X (e::es) t)(hg:Gl X x:=by rfl)(hdb:(x == ("__debug__":Str))=false:=by decide)(h1:zt e=false:=by rfl)(h2:es.all (fun e=>!zt e)=true:=by rfl):jE X (.Call (.Name x p) (e::es) [] pos) (ZG sp [] E0 t):=w9 F hr hg WV ha hdb h1 h2
theorem xX{r:R2}{a b:Expr}{ta tb:TE}(hr:jIx X r)(ha:jE X a ta)(hb:jE X b tb)(hs:jR b:=by exact fun _ _=>rfl):jE X (.Subscript a b pos) (tOp r ta tb):=xn hr ha hb hs
theorem xT(i:Nat){n j}(hN:X.N[i]?=some x:=by rfl)(hv:Vis X.env.scope x:=by first|exact Or.inl rfl|exact Or.inr (Or.inl rfl)|exact Or.inr (Or.inr rfl))(hd:(x == ("__debug__":Str))=false:=by decide)(hcd:(x == ("__classdict__":Str))=false:=by decide):jE X (.Subscript (.Name x p) (.Constant (.int n) j q) pos) (tOp (rIxT X.K) (tVar i) (tC (.int n))):=xn vD (jv i hN hv hd hcd) zk (fun _ _=>rfl)
theorem xL(i:Nat){n j}(hN:X.N[i]?=some x:=by rfl)(hv:Vis X.env.scope x:=by first|exact Or.inl rfl|exact Or.inr (Or.inl rfl)|exact Or.inr (Or.inr rfl))(hd:(x == ("__debug__":Str))=false:=by decide)(hcd:(x == ("__classdict__":Str))=false:=by decide):jE X (.Subscript (.Name x p) (.Constant (.int n) j q) pos) (tOp (rIxL X.K) (tVar i) (tC (.int n))):=xn yb (jv i hN hv hd hcd) zk (fun _ _=>rfl)
theorem sE{e:Expr}{te:TE}(i:Nat)(hN:X.N.Nodup)(he:jE X e te)(hi:X.N[i]?=some x:=by rfl)(hx:Loc X.env.scope x:=by first|exact Or.inl rfl|exact Or.inr rfl)(hs:swapsWith e (some (.Name x q)) pos.line X.env=pure false:=by rfl)(hf:X.fn x=true\/X.env.scope.names.lookup x=some .local:=by first|exact .inl rfl|exact .inr rfl|assumption):jS X (.Assign [.Name x q] e pos) (tAsg te (wU i)):=zbJ hN hi hx he hs hf
theorem gN(i:Nat)(hN:X.N.Nodup)(hi:X.N[i]?=some x:=by rfl)(hx:Loc X.env.scope x:=by first|exact Or.inl rfl|exact Or.inr rfl)(hf:X.fn x=true\/X.env.scope.names.lookup x=some .local:=by first|exact .inl rfl|exact .inr rfl|assumption):jG X (.Name x pos) (wU i):=Qu hN hi hx hf
theorem tN{op:CmpOp}{r:R2}{a c:Expr}{ta tb:TE}(ho:jOp X (compareOp op) r)(ha:jE X a ta)(hb:jE X c tb)(hm:behindInMarks op c=false:=by exact zY _):jT X (.Compare a [op] [c] pos) (WF (tOp r ta tb)):=vk ho ha hb hm
theorem jL{e:Expr}{te:TE}(hm:X.mg "len"=none)(h:jE X e te)(hg:Gl X "len":=by rfl)(h1:zt e=false:=by rfl):jE X (.Call (.Name "len" p) [e] [] pos) (tCB (fun xs H Q=>∃p ys,xs=[.ref p]/\(SqL X.K H p ys\/SqT X.K H p ys)/\Q (.int ys.length) H) (zR te tNil)):=zS vE hg hm PySem.boot_len (ja_c h zA h1) (by decide) (by decide) h1 rfl
theorem aB{p q:Prop}[Decidable p](h:¬ p:=by decide):p->q:=fun c=>absurd c h
end
end L2
namespace L2
open PySem PySem.Spec PySem.Calls PyProof.Rows
section
variable{P:Program}{w:World}{A:Around}{E:Value->Shared->Prop}{s:Shared}{K:ub}
end
section
variable{X:Cx}{e C:Addr}{oe:Obj}{ex:Expr}{te:TE}{name:Str}{pos:Pos}{f:Addr}
def zaO(C e:Addr)(oe:Obj)(te:TE)(name:Str):TE:=fun σ H Q=>te σ H fun x H1=>x=.ref e/\oe.cls=.ref C/\(∃vs,oe.data=.fields vs)/\∃d fs v,oe.dict=some d/\H1 d=some (XD d fs)/\fs.lookup name=some v/\Q v H1
theorem QK(hp:(e,oe)∈X.pn)(M:XCl X.K C f)(hn:uA X.K (.ref C) name=some none)(hh:UQ X.K C=true)(he:PE X ex te)(hb:attributeBase ex name X.env (eval ex X.env)=eval ex X.env):
  PE X (.Attribute ex name pos) (zaO C e oe te name):=by
 intro pins s σ H Q I h
 refine Xd hb (thn (he pins s σ H _ I h) fun u s1 g=>?_)
 obtain⟨x,H1,I1,rx,rfl,hc,⟨vs,hd⟩,d,fs,v,h1,h2,h3,q⟩:=g
 obtain rfl:u=Value.ref e:=rx
 obtain⟨mA,ns,r,_⟩:=XD.get I1.hok h2
 obtain⟨u',hu,ru⟩:=RelO.some_of (v:=v) (o:=mA name) (by rw[<- h3];exact r name)
 obtain⟨od,ho,hl⟩:=jf ns
 have J:PySem.W.InstAt s1.heap e oe C (some od):=⟨(I1.pin (e,oe) (Ui _ hp)).1,hc,by unfold PySem.W.notCls;rw[hd],by rw[h1];exact ho⟩
 exact zbM I1.kIn J M.ga M.ha M.sb (PySem.W.findObj_own hh hn rfl (by rw[hl,hu])) (jg ru) ⟨v,H1,I1.tok _,ru,q⟩
theorem QL(hp:(e,oe)∈X.pn)(M:XCl X.K C f)(hn:uA X.K (.ref C) name=some none)(hh:UQ X.K C=true)(he:jE X ex te)(hb:attributeBase ex name X.env (eval ex X.env)=eval ex X.env:=by rfl):
  jE X (.Attribute ex name pos) (zaO C e oe te name):=⟨QK hp M hn hh he.out hb⟩
end
section
variable{X:Cx}{Ch:Addr}{x n:Str}{i k:Nat}{np hpos tpos:Pos}{b0:Stmt}{suite:List Stmt}{th:Addr->Obj->TS}{ps:List Str}{sp:Sp}{y:Str}{p cpos epos:Pos}{a:Expr}{as:List Expr}{t:TA}
end
end L2
namespace L2
open PySem PySem.Spec PyProof.Rows
section
variable{P:Program}{w:World}{A:Around}{E:Value->Shared->Prop}
end
section
variable{X:Cx}{pos:Pos}
end
end L2
namespace L2
open PySem
theorem zN:sizeLine=16777216:=by decide
theorem itD{c A B:Prop}[Decidable c](e:c)(h:A):if decide c=true then A else B:=by
 rw[if_pos (decide_eq_true e)];exact h
theorem itDN{c A B:Prop}[Decidable c](e:¬ c)(h:B):if decide c=true then A else B:=by
 rw[if_neg (by rw[decide_eq_false e];decide)];exact h
def FnIn(K:ub)(x qual:Str)(st:Stmt)(f:Addr):Prop:=∃(oc:Value)(od:Option Addr)(kV doc pm:Value)(an:Option Addr)(cdv ct:Value)(osl:Array (Option Value)),K.lookup f=some ⟨oc,od,.func (Uw x qual (yr st) (z9 st) (zn st) .none kV doc pm an cdv ct),osl⟩/\tI K cdv qual=true/\Ud K (.ref f)=true
theorem FnIn.fn{K:ub}{x qual:Str}{st:Stmt}{f:Addr}(h:FnIn K x qual st f):∃fd,Fun K x qual st f fd/\Ud K (.ref f)=true:=by
 obtain⟨_,_,_,_,_,_,_,_,_,l,c,k⟩:=h
 exact⟨_,WW l c k,k⟩
def DfIn(K:ub)(x:Str)(st:Stmt):Prop:=∃f,uL K mainGlobals x=some (some (.ref f))/\FnIn K x x st f
def MeIn(K:ub)(C:Addr)(x qual:Str)(st:Stmt):Prop:=∃f,uA K (.ref C) x=some (some (.ref f))/\PySem.W.isFn K (.ref f)=true/\FnIn K x qual st f
theorem MeIn.me{P:Program}{w:World}{K:ub}{mg:Str->Option Value}{base:Heap}{CX:CXT}{k:Nat}{C:Addr}{x qual:Str}{st:Stmt}{ps:List Str}{sp:Sp}(h:MeIn K C x qual st)(hb:∀(kV doc pm:Value)(an:Option Addr)(cdv ct:Value)(us:List Value),us.length=ps.length->bindArgs (Uw x qual (yr st) (z9 st) (zn st) .none kV doc pm an cdv ct) ⟨us,[]⟩=pure (ps.zip us))
  (ok:∀f fd,Fun K x qual st f fd->FnOk P w K mg base CX k f fd ps sp):Me P w K mg base CX k C x ps sp:=by
 obtain⟨f,a,n,g⟩:=h
 obtain⟨fd,F,kp⟩:=g.fn
 exact⟨f,fd,ok f fd F,F.binds hb,a,n,kp⟩
theorem MeIn.ma{P:Program}{w:World}{K:ub}{mg:Str->Option Value}{base:Heap}{CX:CXT}{k:Nat}{C:Addr}{x qual:Str}{st:Stmt}{ps:List Str}{sp:Sp}(h:MeIn K C "__init__" qual st)(hb:∀(kV doc pm:Value)(an:Option Addr)(cdv ct:Value)(us:List Value),us.length=ps.length->bindArgs (Uw "__init__" qual (yr st) (z9 st) (zn st) .none kV doc pm an cdv ct) ⟨us,[]⟩=pure (ps.zip us))
  (mk:PySem.W.makesIn K C=true) (kp:Ud K (.ref C)=true) (hm:mg x=some (.ref C)) (ok:∀f fd,Fun K "__init__" qual st f fd->FnOk P w K mg base CX k f fd ps sp):Ma P w K mg base CX k x C ps sp:=by
 obtain⟨f,a,n,g⟩:=h
 obtain⟨fd,F,_⟩:=g.fn
 exact⟨f,fd,⟨mk,a,n,kp⟩,ok f fd F,F.binds hb,hm⟩
theorem DfIn.ca{P:Program}{w:World}{K:ub}{mg:Str->Option Value}{base h:Heap}{CX:CXT}{k:Nat}{x:Str}{st:Stmt}{ps:List Str}{sp:Sp}(X:K.In h)(G:h.Ns mainGlobals mg)(d:DfIn K x st)(hb:∀(kV doc pm:Value)(an:Option Addr)(cdv ct:Value)(us:List Value),us.length=ps.length->bindArgs (Uw x x (yr st) (z9 st) (zn st) .none kV doc pm an cdv ct) ⟨us,[]⟩=pure (ps.zip us))
  (ok:∀f fd,Fun K x x st f fd->FnOk P w K mg base CX k f fd ps sp):Ca P w K mg base CX k x ps sp:=by
 obtain⟨f,a,g⟩:=d
 obtain⟨fd,F,kp⟩:=g.fn
 exact⟨f,fd,ok f fd F,F.binds hb,kp,Uk X G a⟩
theorem DfIn.mk{K:ub}{x:Str}{st:Stmt}{f:Addr}{oc:Value}{od:Option Addr}{kV doc pm:Value}{an:Option Addr}{cdv ct:Value}{osl:Array (Option Value)}(a:uL K mainGlobals x=some (some (.ref f)))(l:K.lookup f=some ⟨oc,od,.func (Uw x x (yr st) (z9 st) (zn st) .none kV doc pm an cdv ct),osl⟩)(c:tI K cdv x=true)(k:Ud K (.ref f)=true):DfIn K x st:=⟨f,a,oc,od,kV,doc,pm,an,cdv,ct,osl,l,c,k⟩
theorem MeIn.mk{K:ub}{C:Addr}{x qual:Str}{st:Stmt}{f:Addr}{oc:Value}{od:Option Addr}{kV doc pm:Value}{an:Option Addr}{cdv ct:Value}{osl:Array (Option Value)}(a:uA K (.ref C) x=some (some (.ref f)))(l:K.lookup f=some ⟨oc,od,.func (Uw x qual (yr st) (z9 st) (zn st) .none kV doc pm an cdv ct),osl⟩)(c:tI K cdv qual=true)(k:Ud K (.ref f)=true)(n:PySem.W.isFn K (.ref f)=true):MeIn K C x qual st:=⟨f,a,n,oc,od,kV,doc,pm,an,cdv,ct,osl,l,c,k⟩
theorem XcIn.mk{K:ub}{C f:Addr}(a:uA K (.ref C) "__init__"=some (some (.ref f)))(b:xIn K C f=true)(c:tY K (.ref f)=some (.type "function")):∃f,uA K (.ref C) "__init__"=some (some (.ref f))/\xIn K C f=true/\tY K (.ref f)=some (.type "function"):=⟨f,a,b,c⟩
structure OwnIn(K:ub)(x:Str)(C:Addr):Prop where
 n:uL K mainGlobals x=some (some (.ref C))
 pg:tM K C Str.empty=true
 hd:UQ K C=true
 po:PySem.W.plainOver K C=true
 sa:uA K (.ref C) "__setattr__"=some (some (.builtin "object.__setattr__"))
 mks:PySem.W.makesIn K C=true
 kp:Ud K (.ref C)=true
theorem OwnIn.cls{K:ub}{x:Str}{C:Addr}(o:OwnIn K x C):Cls K C:=⟨o.pg,o.hd,o.po,o.sa⟩
def ZU(K:ub):Sp:=fun vs H Q _=>∃(a:Addr)(ns:List Int),vs=[.ref a]/\SqL K H a (ns.map V.int)/\ns.length<=63/\∀H',Q (.bl true) H'
theorem zbT{l:PySem.W.OpenLaw}{w:World}{K:ub}{h:Heap}{mg:Str->Option Value}{fa:Addr}{st:Stmt}{k:Nat}(d:DfIn K "law" st)(X:K.In h)(G:h.Ns mainGlobals mg)(hfa:mg "law"=some (.ref fa))
  (hb:∀(kV doc pm:Value)(an:Option Addr)(cdv ct:Value)(s:Shared)(u:Value),BindsTo s (Uw "law" "law" (yr st) (z9 st) (zn st) .none kV doc pm an cdv ct) ⟨[u],[]⟩ [("_law_script",u)])
  (ok:∀(base:Heap)(fd:FuncData),Fun K "law" "law" st fa fd->FnOk l.prog w K mg base CX0 k fa fd ["_law_script"] (ZU K)) :
  ∃fd:FuncData,(∀(s:Shared)(u:Value),BindsTo s fd ⟨[u],[]⟩ [("_law_script",u)])/\∀base:Heap,K.In base->base.Ns mainGlobals mg->FnOk l.prog w K mg base CX0 k fa fd ["_law_script"] (ZU K):=by
 obtain⟨fl,al,oc,od,kV,doc,pm,an,cdv,ct,osl,lk,cc,kk⟩:=d
 have e:fl=fa:=by
  have:=Uk X G al
  rw[hfa]at this
  injection this with this
  injection this with this
  exact this.symm
 subst e
 exact⟨_,fun s v=>hb _ _ _ _ _ _ s v,fun base _ _=>ok base _ (WW (st:=st) lk cc kk)⟩
theorem walk1{l:PySem.W.OpenLaw}{q:Program}{loose:List Str}{XP:(Str->Option Value)->Heap->Prop}{YP:World->Heap->Prop}{d:DefRec}{K:Params->ub}{k:Nat}(hn:l.most=some 63)(hr:Room k callerA)(hdf:d.params.defaults=[])(hnm:d.name="law")
  (hY:∀(w:World)(h:Heap),YP w h->(K w.params).In h)
  (F:∀(w:World)(mg:Str->Option Value)(fa:Addr)(h:Heap),(K w.params).In h->h.Ns mainGlobals mg->mg "law"=some (.ref fa)->∃fd:FuncData,(∀(s:Shared)(u:Value),BindsTo s fd ⟨[u],[]⟩ [("_law_script",u)])/\∀base:Heap,(K w.params).In base->base.Ns mainGlobals mg->FnOk l.prog w (K w.params) mg base CX0 k fa fd ["_law_script"] (ZU (K w.params))) :
  PySem.W.WalkO q loose XP YP l.row.toRowW d [] (fun f vs=>PySem.call f vs) :=
 L2.walk_of (n:=63) (k:=k) (x:="_law_script") (CX:=fun _=>CX0) (sp:=fun w=>ZU (K w.params)) hn (by decide) hdf hr hY (fun w mg fa h X G hm=>F w mg fa h X G (by rw[hnm]at hm;exact hm)) (fun _ _ a ns hl _ hS=>⟨a,ns,rfl,hS,hl,fun _=>rfl⟩) fun _ _ _ _ _ z=>z
theorem usS{n:Nat}{p:List Value->Prop}(h:∀a us,us.length=n->p (a::us)):∀us:List Value,us.length=n+1->p us:=fun us=>by
 cases us with
 |nil=>exact fun e=>by cases e
 |cons a r=>exact fun e=>h a r (Nat.succ.inj e)
theorem us1{p:List Value->Prop}(h:∀a,p [a]):∀us:List Value,us.length=1->p us:=usS fun a us e=>by rw[UC.mp e];exact h a
theorem us2{p:List Value->Prop}(h:∀a b,p [a,b]):∀us:List Value,us.length=2->p us:=usS fun a=>us1 (p:=fun l=>p (a::l)) (h a)
theorem us3{p:List Value->Prop}(h:∀a b c,p [a,b,c]):∀us:List Value,us.length=3->p us:=usS fun a=>us2 (p:=fun l=>p (a::l)) (h a)
theorem us4{p:List Value->Prop}(h:∀a b c d,p [a,b,c,d]):∀us:List Value,us.length=4->p us:=usS fun a=>us3 (p:=fun l=>p (a::l)) (h a)
theorem us5{p:List Value->Prop}(h:∀a b c d e,p [a,b,c,d,e]):∀us:List Value,us.length=5->p us:=usS fun a=>us4 (p:=fun l=>p (a::l)) (h a)
theorem us6{p:List Value->Prop}(h:∀a b c d e f,p [a,b,c,d,e,f]):∀us:List Value,us.length=6->p us:=usS fun a=>us5 (p:=fun l=>p (a::l)) (h a)
theorem us7{p:List Value->Prop}(h:∀a b c d e f g,p [a,b,c,d,e,f,g]):∀us:List Value,us.length=7->p us:=usS fun a=>us6 (p:=fun l=>p (a::l)) (h a)
section
variable{a b c d e u:TS}{D:Ends}{σ:List (Option V)}{H:Hp}
theorem ixT{K:ub}{Q:VK}{p:Addr}{xs:List V}{i:Int}{v:V}(h:H p=some (.tup xs))(a:atI xs i=some v)(q:Q v H):tC (.int i) σ H fun y H2=>rIxT K (.ref p) y H2 Q:=⟨p,xs,i,v,rfl,rfl,SqT.of h,a,q⟩
theorem ixL{K:ub}{Q:VK}{p:Addr}{xs:List V}{i:Int}{v:V}(h:H p=some (.lst xs))(a:atI xs i=some v)(q:Q v H):tC (.int i) σ H fun y H2=>rIxL K (.ref p) y H2 Q:=⟨p,xs,i,v,rfl,rfl,SqL.of h,a,q⟩
theorem nxtC{E:Ends}(h:E.nx σ H):yP E σ H:=h
end
end L2
namespace L2
open PySem PySem.Spec PyProof.Rows
section
variable{X:Cx}{tg:Expr}
end
section
variable{g:TG}{tt:TT}{te:TE}{Q:VK}{σ:St}{H:Hp}
theorem wM{K:ub}{a:Addr}{xs:List V}(Pv:Nat->St->List V->Hp->Prop)(h0:Pv 0 σ [] H)(hl:∀i τ ys H,i<=xs.length->Pv i τ ys H->SqT K H a xs)
  (hs:∀i x τ ys H,xs[i]?=some x->Pv i τ ys H->g x τ H fun τ2 H2=>tt τ2 H2 fun b H3=>if b=true then te τ2 H3 fun y H4=>ys.length < sizeLine/\Pv (i+1) τ2 (ys++[y]) H4 else Pv (i+1) τ2 ys H3)
  (hd:∀τ ys H,Pv xs.length τ ys H->∀p,H p=none->Q (.ref p) (upd H p (.lst ys))):∃W,(∃m,W 0 m σ [] H)/\lcBy (Itt K a) g tt te Q W:=by
 refine⟨fun i m τ ys H=>m=xs.length-i/\i<=xs.length/\Pv i τ ys H,⟨xs.length,by simp,uW _,h0⟩,?_⟩
 rintro i m τ ys H ⟨rfl,hi,p⟩
 have q:=hl i τ ys H hi p
 by_cases hlt:i < xs.length
 ·refine .inr ⟨⟨xs,xs[i],q,by simp[hlt]⟩,Pv (i+1),fun τ' ys' H' p'=>⟨xs.length-(i+1),by lia,rfl,hlt,p'⟩,fun x H' y=>?_⟩
  obtain⟨e,y⟩:=y
  subst e
  exact hs i x τ ys _ (y xs q) p
 ·have e:i=xs.length:=by lia
  subst e
  exact .inl ⟨⟨xs,q,ui _⟩,hd τ ys H p⟩
end
theorem old{H:Hp}{p q:Addr}{o u:HO}(hp:H p=none)(h:H q=some u):upd H p o q=some u:=by rw[zm (zr h hp)];exact h
theorem Same.new{H H1:Hp}{p:Addr}{o:HO}(s:Same H H1)(hp:H1 p=none):Same H (upd H1 p o):=fun b u q=>old hp (s b u q)
theorem Same.put{H H1:Hp}{p:Addr}{o:HO}(s:Same H H1)(hp:H p=none):Same H (upd H1 p o):=fun b u q=>by rw[zm (zr q hp)];exact s b u q
theorem ZV{x:V}(h:yp x=true):eqV x x=true:=by
 cases x<;>first
  |rfl
  | (show((_:Bool) == _)=true;simp)
  | (show((_:Int) == _)=true;simp)
  | (show((_:Str) == _)=true;simp)
  | (cases h)
section
variable{X:Cx}
theorem Vp{A:Around}{s:Shared}{xs:List V}{us us':List Value}(r:Vals xs us)(r':Vals xs us')(f:xs.all yp=true)(j:Nat)(h1:j < us.toArray.size)(h2:j < us'.toArray.size):SeqAt.EqAt A s us.toArray[j] us'.toArray[j] true:=by
 have l1:=r.length
 have l2:=r'.length
 simp at h1 h2
 have hx:xs[j]?=some (xs[j]'(by lia)):=um _
 obtain⟨u,e1,rx⟩:=r.get hx
 obtain⟨u',e2,rx'⟩:=r'.get hx
 have g1:us.toArray[j]=u:=by
  have:=ug.mp e1
  simpa using this.2
 have g2:us'.toArray[j]=u':=by
  have:=ug.mp e2
  simpa using this.2
 rw[g1,g2]
 have fx:yp (xs[j]'(by lia))=true:=u9.mp f _ (UX _)
 have k:=Ys (A:=A) (s:=s) rx rx' fx fx
 rw[ZV fx]at k
 exact k
end
section
variable(P:Program)(w:World)
end
section
variable{P:Program}{w:World}{H H':Hp}{h h':Heap}{a:Addr}{o:HO}
end
section
variable{P:Program}{w:World}{H:Hp}{h h':Heap}{x e:Addr}{o':HO}
end
section
variable{fs fs' ex ex':List Addr}{H H1 H2:Hp}{h h1 h2 h':Heap}{a x e:Addr}{o:HO}
end
section
variable{X:Cx}{pins:List (Addr×Obj)}{σ:List (Option V)}{H H':Hp}{s:Shared}{h':Heap}
end
section
variable{X:Cx}
variable{a b:Expr}{ta tb:TE}{pos:Pos}
variable{tA tB':TT}{rest:List Expr}
end
section
variable{X:Cx}{pins:List (Addr×Obj)}{σ:St}{H:Hp}{s:Shared}{a:Addr}{xs ys:List V}
end
section
variable{X:Cx}{pins:List (Addr×Obj)}{σ:St}{H:Hp}{s:Shared}{E:Value->Shared->Prop}
end
section
variable{X:Cx}{st:Stmt}{rest:List Stmt}{t u:TS}{e:Expr}{te:TE}{pos:Pos}
end
section
variable{X:Cx}{pos:Pos}
end
section
variable{X:Cx}{tg:Expr}
end
section
variable{X:Cx}{a b c:Expr}{ta tb tc:TE}{pos:Pos}
end
section
variable{prog:Program}{w:World}{A:Around}{E:Value->Shared->Prop}{s:Shared}{K:ub}{x dx C f:Addr}{mA:Str->Option Value}{name:Str}{v:Value}
end
section
variable{P:Program}{w:World}{H H':Hp}{h h':Heap}{a C dx:Addr}{fs fs':List (Str×V)}
end
section
variable{X:Cx}{pins:List (Addr×Obj)}{σ:St}{H:Hp}{s:Shared}{a C dx:Addr}{fs:List (Str×V)}{f:Str}{v:V}{A:Around}{E:Value->Shared->Prop}
end
section
variable{X:Cx}{o e value:Expr}{f:Str}{pos pos' tpos:Pos}{ta tv:TE}
end
section
variable{X:Cx}{pins:List (Addr×Obj)}{σ:St}{H:Hp}{s:Shared}{A:Around}{E:Value->Shared->Prop}{Q:Value->Shared->Prop}{c:Value}{b:Bool}
end
section
variable{X:Cx}{e:Expr}{es:List Expr}{te:TE}{t:TA}{pos:Pos}
end
section
variable{X:Cx}{pins:List (Addr×Obj)}{σ:St}{H:Hp}{s s':Shared}
end
section
variable{X:Cx}{CX:CXT}{k:Nat}{f C:Addr}{fd:FuncData}{ps:List Str}{sp:Sp}{dvs:List V}{ds:List Value}{E:XK}{x m:Str}{p pos apos:Pos}{e o:Expr}{es:List Expr}{ta:TE}{t:TA}
end
section
variable{X:Cx}{CX:CXT}{k:Nat}{f C:Addr}{fd:FuncData}{ps ks:List Str}{sp:Sp}{E:XK}{x m:Str}{p pos apos kpos:Pos}{e o:Expr}{es:List Expr}{kws:List Keyword}{te ta:TE}{t tk:TA}{nm:Option Str}
variable{g:List Value->List Value->List Value}{gV:List V->List V->List V}
end
section
variable{X:Cx}{x:Str}{p pos:Pos}{e:Expr}{es:List Expr}{t:TA}{id T:String}{r:List V->Hp->VK->Prop}
end
section
variable{κ:Type}[DecidableEq κ]
def valV(kvs:List (κ×V))(k:κ):Option V:=(kvs.find? fun kv=>decide (kv.1=k)).map (·.2)
def putK(kvs:List (κ×V))(k:κ)(v:V):List (κ×V) :=
 if(kvs.any fun kv=>decide (kv.1=k))=true then kvs.map (fun kv=>if kv.1=k then(kv.1,v)else kv)else kvs++[(k,v)]
def va(kvs:List (κ×V))(k:κ):List (κ×V):=kvs.filter fun kv=>decide (kv.1≠k)
theorem ww{p:κ×V}{r:List (κ×V)}{k:κ}(e:p.1=k):valV (p::r) k=some p.2:=by simp[valV,Uu,e]
theorem wx{p:κ×V}{r:List (κ×V)}{k:κ}(e:¬ p.1=k):valV (p::r) k=valV r k:=by simp[valV,Uu,e]
theorem vK(k:κ):∀kvs:List (κ×V),(kvs.any fun kv=>decide (kv.1=k))=(valV kvs k).isSome
 |[]=>rfl
 |p::r=>by
  rw[List.any_cons]
  by_cases e:p.1=k
  ·simp only[ww e,decide_eq_true e,Bool.true_or,Option.isSome_some]
  ·rw[wx e,decide_eq_false e,Bool.false_or];exact vK k r
theorem vb(kvs:List (κ×V))(k:κ)(v:V):(putK kvs k v).length<=kvs.length+1:=by
 unfold putK
 split
 ·rw[ua];lia
 ·rw[uc,uM,List.length_nil];lia
theorem RelO.isSome_eq{o:Option V}{u:Option Value}(r:RelO o u):o.isSome=u.isSome:=by
 cases o with
 |none=>cases u with
  |none=>rfl
  |some _=>exact(show False from r).elim
 |some _=>cases u with
  |none=>exact(show False from r).elim
  |some _=>rfl
theorem RelO.getD{o:Option V}{u:Option Value}{d:V}{d':Value}(r:RelO o u)(rd:RelV d d'):RelV (o.getD d) (u.getD d'):=by
 cases o with
 |none=>cases u with
  |none=>exact rd
  |some _=>exact(show False from r).elim
 |some _=>cases u with
  |none=>exact(show False from r).elim
  |some _=>exact r
theorem KV.val{kvs:List (κ×V)}{vs:List (κ×Value)}(r:KV kvs vs)(k:κ):RelO (valV kvs k) (valueAt vs k):=by
 unfold KV at r
 induction r with
 |nil=>exact True.intro
 |@cons p q ps qs h t ih =>
  obtain⟨h1,h2⟩:=h
  by_cases e:p.1=k
  ·have e':q.1=k:=h1.symm.trans e
   have b:valueAt (q::qs) k=some q.2:=by simp[valueAt,Uu,e']
   rw[ww e,b];exact h2
  ·have e':¬ q.1=k:=fun z=>e (h1.trans z)
   have b:valueAt (q::qs) k=valueAt qs k:=by simp[valueAt,Uu,e']
   rw[wx e,b];exact ih
theorem KV.any{kvs:List (κ×V)}{vs:List (κ×Value)}(r:KV kvs vs)(k:κ):(kvs.any fun kv=>decide (kv.1=k))=vs.any fun kv=>decide (kv.1=k):=by
 unfold KV at r
 induction r with
 |nil=>rfl
 |cons h t ih=>rw[List.any_cons,List.any_cons,ih,h.1]
theorem KV.repl{kvs:List (κ×V)}{vs:List (κ×Value)}(r:KV kvs vs)(k:κ){y:V}{u:Value}(ry:RelV y u):
  KV (kvs.map fun kv=>if kv.1=k then(kv.1,y)else kv) (vs.map fun kv=>if kv.1=k then(kv.1,u)else kv):=by
 unfold KV at r ⊢
 induction r with
 |nil=>exact .nil
 |@cons p q ps qs h t ih =>
  rw[uY,uY]
  refine .cons ?_ ih
  obtain⟨h1,h2⟩:=h
  by_cases e:p.1=k
  ·rw[if_pos e,if_pos (h1.symm.trans e)];exact⟨h1,ry⟩
  ·rw[if_neg e,if_neg (fun z=>e (h1.trans z))];exact⟨h1,h2⟩
theorem KV.put{kvs:List (κ×V)}{vs:List (κ×Value)}(r:KV kvs vs)(k:κ){y:V}{u:Value}(ry:RelV y u):KV (putK kvs k y) (stored vs k u):=by
 unfold putK stored
 rw[r.any k]
 by_cases e:(vs.any fun kv=>decide (kv.1=k))=true
 ·rw[if_pos e,if_pos e];exact r.repl k ry
 ·rw[if_neg e,if_neg e];exact Paired.snoc r ⟨rfl,ry⟩
theorem KV.drop{kvs:List (κ×V)}{vs:List (κ×Value)}(r:KV kvs vs)(k:κ):KV (va kvs k) (without vs k):=by
 unfold KV at r ⊢
 unfold va without
 induction r with
 |nil=>exact .nil
 |@cons p q ps qs h t ih =>
  obtain⟨h1,h2⟩:=h
  rw[tO,tO]
  by_cases e:p.1=k
  ·have a:¬ decide (p.1≠k)=true:=by simp[e]
   have b:¬ decide (q.1≠k)=true:=by simp[h1.symm.trans e]
   rw[if_neg a,if_neg b];exact ih
  ·have e':¬ q.1=k:=fun z=>e (h1.trans z)
   have a:decide (p.1≠k)=true:=by simp[e]
   have b:decide (q.1≠k)=true:=by simp[e']
   rw[if_pos a,if_pos b];exact .cons ⟨h1,h2⟩ ih
theorem KV.length{kvs:List (κ×V)}{vs:List (κ×Value)}(r:KV kvs vs):kvs.length=vs.length:=Paired.length r
theorem Vq(kvs:List (κ×V))(k:κ):(va kvs k).length<=kvs.length:=Ut _ _
end
theorem vc{P:Program}{w:World}{k:Key}{u:Value}(r:RelV (kV k) u):(zF P w).is k u=true:=by
 cases k with
 |inl i=>obtain⟨t,e⟩:=(show ∃t,u=Value.int i t from r);subst e;exact ZD P w i t
 |inr x=>obtain⟨t,e⟩:=(show ∃t,u=Value.str x t from r);subst e;exact wT P w x t
theorem ju{P:Program}{w:World}:∀{ks:List Key}{us:List Value},Vals (ks.map kV) us->ItemsAre (zF P w) ks us
 |[],_,r=>by rw[List.map_nil]at r;cases r;exact .nil
 |k::ks,_,r=>by
  rw[uY]at r
  cases r with
  |cons h t=>exact .cons (vc h) (ju t)
abbrev KT(H:Hp):List (List Key×V)->List (List Key×Addr×Value)->Prop:=Paired fun p q=>p.1=q.1/\H q.2.1=some (.tup (p.1.map kV))/\RelV p.2 q.2.2
theorem KT.val{H:Hp}{kvs:List (List Key×V)}{xs:List (List Key×Addr×Value)}(r:KT H kvs xs)(k:List Key):RelO (valV kvs k) ((atKey xs k).map (·.2)):=by
 induction r with
 |nil=>exact True.intro
 |@cons p q ps qs h t ih =>
  obtain⟨h1,_,h2⟩:=h
  by_cases e:p.1=k
  ·have e':q.1=k:=h1.symm.trans e
   have b:atKey (q::qs) k=some q.2:=by simp[atKey,Uu,e']
   rw[ww e,b];exact h2
  ·have e':¬ q.1=k:=fun z=>e (h1.trans z)
   have b:atKey (q::qs) k=atKey qs k:=by simp[atKey,Uu,e']
   rw[wx e,b];exact ih
theorem KT.repl{H:Hp}{kvs:List (List Key×V)}{xs:List (List Key×Addr×Value)}(r:KT H kvs xs)(k:List Key){y:V}{u:Value}(ry:RelV y u):
  KT H (kvs.map fun kv=>if kv.1=k then(kv.1,y)else kv) (xs.map (putAt k u)):=by
 induction r with
 |nil=>exact .nil
 |@cons p q ps qs h t ih =>
  rw[uY,uY]
  refine .cons ?_ ih
  obtain⟨h1,h2,h3⟩:=h
  unfold putAt
  by_cases e:p.1=k
  ·rw[if_pos e,if_pos (h1.symm.trans e)];exact⟨h1,h2,ry⟩
  ·rw[if_neg e,if_neg (fun z=>e (h1.trans z))];exact⟨h1,h2,h3⟩
theorem KT.put{H:Hp}{kvs:List (List Key×V)}{xs:List (List Key×Addr×Value)}(r:KT H kvs xs)(k:List Key){b:Addr}{y:V}{u:Value}(hb:H b=some (.tup (k.map kV)))(ry:RelV y u):
  KT H (putK kvs k y) (storedH xs k b u):=by
 have e:(kvs.any fun kv=>decide (kv.1=k))=(atKey xs k).isSome:=by
  rw[vK,(r.val k).isSome_eq,UF]
 unfold putK storedH
 rw[e]
 by_cases q:(atKey xs k).isSome=true
 ·rw[if_pos q,if_pos q];exact r.repl k ry
 ·rw[if_neg q,if_neg q];exact Paired.snoc r ⟨rfl,hb,ry⟩
theorem KT.keeps{H H':Hp}{kvs:List (List Key×V)}{xs:List (List Key×Addr×Value)}(r:KT H kvs xs)(ht:∀b ys,H b=some (.tup ys)->H' b=some (.tup ys)):KT H' kvs xs :=
 Paired.mapP r fun _ _ z=>⟨z.1,ht _ _ z.2.1,z.2.2⟩
section
variable{P:Program}{w:World}{H:Hp}{h:Heap}{a:Addr}
theorem zaP{u:HO}(ok:HOk P w H h)(e:Rd H a u):ObjOk P w H h a u:=e.ok ok
theorem vd{kvs:List (Key×V)}(ok:HOk P w H h)(e:Rd H a (.dK kvs)):kvs.length<=sizeLine/\(a == sysModules)=false/\∃vs,KV kvs vs/\h.DictOf (zF P w) a vs :=
 show ObjOk P w H h a (.dK kvs)from zaP ok e
theorem vf{kvs:List (Key×V)}(ok:HOk P w H h)(e:H a=some (.dK kvs)):kvs.length<=sizeLine/\(a == sysModules)=false/\∃vs,KV kvs vs/\h.DictOf (zF P w) a vs:=vd ok (.inl e)
theorem wN{ks:List Key}(ok:HOk P w H h)(e:H a=some (.tup (ks.map kV))):(tupleKind (zF P w)).is h ks a:=by
 obtain⟨_,its,r,o,h1,h2,_,n,h3⟩:=(show ObjOk P w H h a (.tup (ks.map kV))from ok a _ e)
 exact⟨o,its.toArray,n,h1,h2,h3,by simpa using ju r⟩
theorem vL{kvs:List (List Key×V)}(ok:HOk P w H h)(e:Rd H a (.dT kvs)):kvs.length<=sizeLine/\(a == sysModules)=false /\
  ∃xs,KT H kvs xs/\h.DictOfH (tupleKind (zF P w)) a xs:=by
 obtain⟨z,y,xs,r,o,es,ep,h1,h2,h3,h4,h5⟩:=(show ObjOk P w H h a (.dT kvs)from zaP ok e)
 refine⟨z,y,xs,r,o,es,ep,h1,h2,h3,h4,fun x hx=>?_,h5⟩
 have all:∀{l:List (List Key×V)}{m:List (List Key×Addr×Value)},KT H l m->∀x∈m,(tupleKind (zF P w)).is h x.1 x.2.1:=by
  intro l m q
  induction q with
  |nil=>intro x hx;exact nomatch hx
  |@cons p q ps qs hq t ih =>
   intro x hx
   rcases uu.mp hx with e|hx
   ·subst e
    exact wN ok (by rw[<- hq.1];exact hq.2.1)
   ·exact ih x hx
 exact all r x hx
theorem zcI{kvs:List (List Key×V)}(ok:HOk P w H h)(e:H a=some (.dT kvs)):kvs.length<=sizeLine/\(a == sysModules)=false /\
  ∃xs,KT H kvs xs/\h.DictOfH (tupleKind (zF P w)) a xs:=vL ok (.inl e)
end
def DGet(H:Hp)(a:Addr)(y:V)(r:Option V):Prop :=
 (∃kvs k,Rd H a (.dK kvs)/\y=kV k/\r=valV kvs k)\/∃kvs k b,Rd H a (.dT kvs)/\y=.ref b/\H b=some (.tup (k.map kV))/\r=valV kvs k
def DPut(H:Hp)(a:Addr)(y v:V)(H':Hp):Prop :=
 (∃kvs k,H a=some (.dK kvs)/\y=kV k/\kvs.length < sizeLine/\H'=upd H a (.dK (putK kvs k v))) \/
 ∃kvs k b,H a=some (.dT kvs)/\y=.ref b/\H b=some (.tup (k.map kV))/\kvs.length < sizeLine/\H'=upd H a (.dT (putK kvs k v))
theorem DGet.k{H:Hp}{a:Addr}{kvs:List (Key×V)}{k:Key}(e:H a=some (.dK kvs)):DGet H a (kV k) (valV kvs k):=.inl ⟨kvs,k,.inl e,rfl,rfl⟩
theorem DPut.k{H:Hp}{a:Addr}{kvs:List (Key×V)}{k:Key}{v:V}(e:H a=some (.dK kvs))(hl:kvs.length < sizeLine):DPut H a (kV k) v (upd H a (.dK (putK kvs k v))):=.inl ⟨kvs,k,e,rfl,hl,rfl⟩
section
variable{X:Cx}{pins:List (Addr×Obj)}{σ:St}{H:Hp}{s:Shared}{a:Addr}{y v:V}{u r:Value}{o:Option V}{A:Around}{E:Value->Shared->Prop}
theorem Inv.big(I:Inv X pins σ H s):sysModules < s.heap.objs.size:=by
 have h:mainGlobals < s.heap.objs.size:=(I.mod.glob.keeps I.bk).lt
 exact Nat.lt_trans (by decide) h
theorem X9{Q:Value->Shared->Prop}(hu:A.units+1 < cLine)(I:Inv X pins σ H s)(g:DGet H a y (some v))(ry:RelV y u)(h:∀w' s',Inv X pins σ H s'->RelV v w'->Q w' s'):
  wpAny (model X.prog X.w) A (getItem (.ref a) u) Q E s:=by
 rcases g with⟨kvs,k,e,ey,l⟩|⟨kvs,k,b,e,ey,eb,l⟩
 ·subst ey
  obtain⟨z,hd,vs,rel,dd⟩:=vd I.hok e
  obtain⟨w',hw,rw'⟩:=RelO.some_of (v:=v) (o:=valueAt vs k) (by rw[l];exact rel.val k)
  exact wpAny_getItem_of (vc ry) dd.mapOf hw (h w' _ (I.tok _) rw')
 ·subst ey
  cases(show u=Value.ref b from ry)
  obtain⟨z,hd,xs,rel,dd⟩:=vL I.hok e
  obtain⟨w',hw,rw'⟩:=RelO.some_of (v:=v) (o:=(atKey xs k).map (·.2)) (by rw[l];exact rel.val k)
  obtain⟨p,hp,hp2⟩:=uf.mp hw
  refine wpAny_getItem_heap (tupleKind_room_in1 hu) (wN I.hok eb) dd hp ?_
  rw[hp2]
  exact h w' _ (I.tok _) rw'
theorem d_in{Q:Value->Shared->Prop}(hu:A.units+1 < cLine)(I:Inv X pins σ H s)(g:DGet H a y o)(ry:RelV y u)(h:∀s',Inv X pins σ H s'->Q (.bool o.isSome) s'):
  wpAny (model X.prog X.w) A (compareOp .In u (.ref a)) Q E s:=by
 rcases g with⟨kvs,k,e,ey,l⟩|⟨kvs,k,b,e,ey,eb,l⟩
 ·subst ey
  obtain⟨z,hd,vs,rel,dd⟩:=vd I.hok e
  refine wpAny_in_of (vc ry) hd dd.mapOf ?_
  rw[<- (rel.val k).isSome_eq,<- l]
  exact h _ (I.tok _)
 ·subst ey
  cases(show u=Value.ref b from ry)
  obtain⟨z,hd,xs,rel,dd⟩:=vL I.hok e
  refine wpAny_in_heap (tupleKind_room_in1 hu) (wN I.hok eb) hd dd ?_
  have q:=(rel.val k).isSome_eq
  rw[UF]at q
  rw[<- q,<- l]
  exact h _ (I.tok _)
theorem QM{Q:Value->Shared->Prop}(hu:A.units+1 < cLine)(I:Inv X pins σ H s)(g:DGet H a y o)(ry:RelV y u)(h:∀s',Inv X pins σ H s'->Q (.bool (!o.isSome)) s'):
  wpAny (model X.prog X.w) A (compareOp .NotIn u (.ref a)) Q E s:=by
 rcases g with⟨kvs,k,e,ey,l⟩|⟨kvs,k,b,e,ey,eb,l⟩
 ·subst ey
  obtain⟨z,hd,vs,rel,dd⟩:=vd I.hok e
  refine wpAny_notIn_of (vc ry) hd dd.mapOf ?_
  rw[<- (rel.val k).isSome_eq,<- l]
  exact h _ (I.tok _)
 ·subst ey
  cases(show u=Value.ref b from ry)
  obtain⟨z,hd,xs,rel,dd⟩:=vL I.hok e
  refine wpAny_notIn_heap (tupleKind_room_in1 hu) (wN I.hok eb) hd dd ?_
  have q:=(rel.val k).isSome_eq
  rw[UF]at q
  rw[<- q,<- l]
  exact h _ (I.tok _)
theorem Ze{h':Heap}{t':Nat}{ob:HO}(I:Inv X pins σ H s)(mu:Mut (H a))(hs:Heap.SameBut a s.heap h')(he:∃q,h'.get? a=some q)(new:ObjOk X.prog X.w (upd H a ob) h' a ob):
  Inv X pins σ (upd H a ob) { s with heap:=h',toks:=t' } :=
 I.write (x:=a) (e:=a) mu (.inl rfl) (fun b q hb z=>(hs.2 b hb).trans z) he new
theorem Vr{P:Program}{w:World}{H':Hp}{h':Heap}{kvs:List (Key×V)}{vs:List (Key×Value)}(z:kvs.length<=sizeLine)(hd:(a == sysModules)=false)(rel:KV kvs vs)(dd:h'.DictOf (zF P w) a vs):
  ObjOk P w H' h' a (.dK kvs):=⟨z,hd,vs,rel,dd⟩
theorem Wa{H':Hp}{Q:Unit->Shared->Prop}(hu:A.units+1 < cLine)(I:Inv X pins σ H s)(g:DPut H a y v H')(ry:RelV y u)(rv:RelV v r)(h:∀s',Inv X pins σ H' s'->Q () s'):
  wpAny (model X.prog X.w) A (setItem (.ref a) u r) Q E s:=by
 rcases g with⟨kvs,k,e,ey,l,eH⟩|⟨kvs,k,b,e,ey,eb,l,eH⟩
 ·subst ey eH
  obtain⟨z,hd,vs,rel,dd⟩:=vf I.hok e
  have hz:vs.length<=sizeLine:=by rw[<- rel.length];exact z
  have hl:(putK kvs k v).length<=sizeLine:=by have:=vb kvs k v;lia
  refine wpAny_setItem_pairs (hsz:=hz) (vc ry) dd fun h' dd' hs=>h _ ?_
  have he:∃q,h'.get? a=some q:=let ⟨q,_,_,hq,_⟩:=dd';⟨q,hq⟩
  exact Ze I (by rw[e];exact True.intro) hs he (Vr hl hd (rel.put k rv) dd')
 ·subst ey eH
  cases(show u=Value.ref b from ry)
  obtain⟨z,hd,xs,rel,dd⟩:=zcI I.hok e
  have hz:xs.length<=sizeLine:=by rw[<- Paired.length rel];exact z
  have hl:(putK kvs k v).length<=sizeLine:=by have:=vb kvs k v;lia
  refine wpAny_setItem_heap (hsz:=hz) (tupleKind_room_in1 hu) (wN I.hok eb) dd fun h' dd' hs=>h _ ?_
  obtain⟨q,es,ep,hq,h2,h3,h4,_,h5⟩:=dd'
  refine Ze I (by rw[e];exact True.intro) hs ⟨q,hq⟩ ⟨hl,hd,_,(rel.put k eb rv).keeps fun c ys ec=>?_,q,es,ep,hq,h2,h3,h4,h5⟩
  rw[zm (xB ec e (fun z=>nomatch z))]
  exact ec
end
section
variable{X:Cx}{pins:List (Addr×Obj)}{σ:St}{H:Hp}{s:Shared}{a:Addr}{kvs:List (Key×V)}{k:Key}{u:Value}{A:Around}{E:Value->Shared->Prop}
theorem zaQ{v:V}{more:List Value}{Q:Value->Shared->Prop}(I:Inv X pins σ H s)(e:H a=some (.dK kvs))(ry:RelV (kV k) u)(l:valV kvs k=some v)(hm:more=[]\/∃x,more=[x])
  (h:∀w' s',Inv X pins σ (upd H a (.dK (va kvs k))) s'->RelV v w'->Q w' s'):wpAny (model X.prog X.w) A (call (.builtin "dict.pop") (.ref a::u::more)) Q E s:=by
 obtain⟨z,hd,vs,rel,dd⟩:=vf I.hok e
 obtain⟨w',hw,rw'⟩:=RelO.some_of (v:=v) (o:=valueAt vs k) (by rw[<- l];exact rel.val k)
 have hp:(keyPart u).isSome=true:=by
  cases k with
  |inl i=>obtain⟨t,q⟩:=(show ∃t,u=Value.int i t from ry);subst q;rfl
  |inr x=>obtain⟨t,q⟩:=(show ∃t,u=Value.str x t from ry);subst q;rfl
 have ha:argsOk "dict.pop" ⟨.ref a::u::more,[]⟩:=by
  rcases hm with q|⟨x,q⟩
  ·subst q;exact PySem.F.args_dict_pop_2 _ _
  ·subst q;exact PySem.F.args_dict_pop_3 _ _ _
 refine call_meetsIn tG dd.typeIs PySem.F.entry_dict_pop ha (meets_dict_pop_there (zF X.prog X.w) a (vc ry) more hm hp)
  ⟨vs,w',dd,by rw[<- rel.length];exact z,hw,fun h' dd' hs=>h w' _ ?_ rw'⟩
 have he:∃q,h'.get? a=some q:=let ⟨q,_,_,hq,_⟩:=dd';⟨q,hq⟩
 exact Ze I (by rw[e];exact True.intro) hs he (Vr (uy (Vq kvs k) z) hd (rel.drop k) dd')
theorem zbU{r:Value}{Q:Value->Shared->Prop}(I:Inv X pins σ H s)(e:H a=some (.dK kvs))(ry:RelV (kV k) u)(l:valV kvs k=none)(h:∀s',Inv X pins σ H s'->Q r s'):
  wpAny (model X.prog X.w) A (call (.builtin "dict.pop") [.ref a,u,r]) Q E s:=by
 obtain⟨z,hd,vs,rel,dd⟩:=vf I.hok e
 have hn:valueAt vs k=none:=RelO.none_of (by rw[<- l];exact rel.val k)
 have hp:(keyPart u).isSome=true:=by
  cases k with
  |inl i=>obtain⟨t,q⟩:=(show ∃t,u=Value.int i t from ry);subst q;rfl
  |inr x=>obtain⟨t,q⟩:=(show ∃t,u=Value.str x t from ry);subst q;rfl
 exact call_meetsIn tG dd.typeIs PySem.F.entry_dict_pop (PySem.F.args_dict_pop_3 _ _ _) (meets_dict_pop_default (zF X.prog X.w) a (vc ry) hd hp r) ⟨vs,dd,hn,h _ (I.tok _)⟩
theorem zcJ{Q:Value->Shared->Prop}(I:Inv X pins σ H s)(e:Rd H a (.dK kvs))(h:∀t s',Inv X pins σ H s'->Q (.int kvs.length t) s'):wpAny (model X.prog X.w) A (call (.builtin "len") [.ref a]) Q E s:=by
 obtain⟨z,hd,vs,rel,dd⟩:=vd I.hok e
 refine call_len_dict hd dd (by rw[<- rel.length];rw[sizeLine_eq]at z;lia) ?_
 rw[<- rel.length]
 exact h _ _ (I.tok _)
end
def NoSl(i:Expr):Prop:=∀ov iv,subscripted i false ov iv=operate [ov,iv] (getItem ov iv)
theorem QN{prog:Program}{w:World}{A:Around}{E:Value->Shared->Prop}{s:Shared}{env:Env}{value slice:Expr}{pos:Pos}{T id:String}{Q:Value->Shared->Prop}
  (hl:typeLookup (.type T) "__getitem__"=pure (some (.builtin id))) (hs:NoSl slice)
  (h:wpAny (model prog w) A (eval value env) (fun o s₁=>wpAny (model prog w) A (eval slice env) (fun i s₂=>s₂.TypeIs o T/\wpAny (model prog w) A (getItem o i) Q E s₂) E s₁) E s) :
  wpAny (model prog w) A (eval (.Subscript value slice pos) env) Q E s:=by
 refine Subscript_ (wpAny_mono h (fun o s₁ h₁=>wpAny_mono h₁ (fun i s₂ h₂=>?_) fun _ _ x=>x) fun _ _ x=>x)
 obtain⟨hT,h₂⟩:=h₂
 unfold subscriptTail
 refine wpAny_bind ?_
 rw[getitemInPython_of_ne hT.not_modules]
 refine wpAny_bind (wpAny_specialOf hT hl ?_)
 have fin:wpAny (model prog w) A (subscripted slice false o i) (fun r s₃=>wpAny (model prog w) A (letTemporaryGo value o r >>= fun _=>pure r) Q E s₃) E s₂:=by
  rw[hs o i]
  exact wpAny_operating (wpAny_mono h₂ (fun r s₃ h₃=>wpAny_bind (wpAny_letTemporaryGo (wpAny_pure h₃))) fun _ _ x=>x)
 first
  |exact wpAny_pure (wpAny_bind fin)
  |exact wpAny_bind (wpAny_pure (wpAny_bind fin))
  |exact wpAny_bind fin
theorem ZW{X:Cx}{pins:List (Addr×Obj)}{σ:St}{H:Hp}{s:Shared}{a:Addr}{y:V}{o:Option V}(I:Inv X pins σ H s)(g:DGet H a y o):s.TypeIs (.ref a) "dict":=by
 rcases g with⟨kvs,k,e,_,_⟩|⟨kvs,k,b,e,_,_,_⟩
 ·obtain⟨_,_,vs,_,dd⟩:=vd I.hok e
  exact dd.typeIs
 ·obtain⟨_,_,xs,_,dd⟩:=vL I.hok e
  exact dd.typeIs
def zaR(td ty:TE):TE:=fun σ H Q=>td σ H fun x H1=>ty σ H1 fun y H2=>∃a v,x=.ref a/\DGet H2 a y (some v)/\Q v H2
def tDIn(ty td:TE):TE:=fun σ H Q=>ty σ H fun y H1=>td σ H1 fun x H2=>∃a o,x=.ref a/\DGet H2 a y o/\Q (.bl o.isSome) H2
def Xs(ty td:TE):TE:=fun σ H Q=>ty σ H fun y H1=>td σ H1 fun x H2=>∃a o,x=.ref a/\DGet H2 a y o/\Q (.bl (!o.isSome)) H2
def zaS(td ty tv:TE):TS:=fun D σ H=>tv σ H fun v H1=>td σ H1 fun x H2=>ty σ H2 fun y H3=>∃a H4,x=.ref a/\DPut H3 a y v H4/\D.nx σ H4
section
variable{X:Cx}{o i e value:Expr}{pos pos' tpos:Pos}{td ty tv:TE}
theorem QO(hu:X.A.units+1 < cLine)(ho:PE X o td)(hi:PE X i ty)(hs:NoSl i):PE X (.Subscript o i pos) (zaR td ty):=by
 intro pins s σ H Q I h
 refine QN PySem.F.slot_dict_getitem.lookup hs (thn (ho pins s σ H _ I h) fun u s1 ⟨x,H1,I1,rx,q1⟩=>thn (hi pins s1 σ H1 _ I1 q1) fun iv s2 ⟨y,H2,I2,ry,a,v,ex,g,q2⟩=>?_)
 subst ex
 obtain rfl:u=Value.ref a:=rx
 exact⟨ZW I2 g,X9 hu I2 g ry fun w' s3 I3 rw'=>⟨v,H2,I3,rw',q2⟩⟩
theorem zbV(hu:X.A.units+1 < cLine)(hi:PE X i ty)(ho:PE X o td):PC X .In i o (tDIn ty td):=by
 intro pins s σ H Q I h
 refine thn (hi pins s σ H _ I h) fun iv s1 ⟨y,H1,I1,ry,q1⟩=>thn (ho pins s1 σ H1 _ I1 q1) fun u s2 ⟨x,H2,I2,rx,a,ov,ex,g,q2⟩=>?_
 subst ex
 obtain rfl:u=Value.ref a:=rx
 exact d_in hu I2 g ry fun s3 I3=>⟨.bl ov.isSome,H2,I3,rfl,q2⟩
theorem Wb(hu:X.A.units+1 < cLine)(hi:PE X i ty)(ho:PE X o td):PC X .NotIn i o (Xs ty td):=by
 intro pins s σ H Q I h
 refine thn (hi pins s σ H _ I h) fun iv s1 ⟨y,H1,I1,ry,q1⟩=>thn (ho pins s1 σ H1 _ I1 q1) fun u s2 ⟨x,H2,I2,rx,a,ov,ex,g,q2⟩=>?_
 subst ex
 obtain rfl:u=Value.ref a:=rx
 exact QM hu I2 g ry fun s3 I3=>⟨.bl (!ov.isSome),H2,I3,rfl,q2⟩
theorem QP(hu:X.A.units+1 < cLine)(ho:PE X o td)(hi:PE X i ty)(hv:PE X value tv)(hs:swapsWith value (some (.Subscript o i pos')) pos.line X.env=pure false):
  PS X (.Assign [.Subscript o i pos'] value pos) (zaS td ty tv):=by
 intro pins s σ H D I h
 refine wpAny_Assign_Subscript (thn (hv pins s σ H _ I h) fun r s1 ⟨v,H1,I1,rv,q1⟩=>thn (ho pins s1 σ H1 _ I1 q1) fun u s2 ⟨x,H2,I2,rx,q2⟩=>thn (hi pins s2 σ H2 _ I2 q2) fun iv s3 ⟨y,H3,I3,ry,a,H4,ex,g,q3⟩=>?_) hs
 subst ex
 obtain rfl:u=Value.ref a:=rx
 exact Wa hu I3 g ry rv fun s4 I4=>⟨σ,H4,I4,q3⟩
end
theorem Vs{P:Program}{w:World}{H:Hp}(h:Heap)(hb:sysModules < h.objs.size):ObjOk P w H (h.push { cls:=.type "dict",data:=.dict #[] }) h.objs.size (.dK []) :=
 ⟨uW _,beq_eq_false_iff_ne.mpr (Ne.symm (uC hb)),[],.nil,Heap.DictOf.new h⟩
def Vt:TE:=fun _ H Q=>∀p,H p=none->Q (.ref p) (upd H p (.dK []))
section
variable{X:Cx}{pos:Pos}
theorem Vu:PE X (.Dict [] [] pos) Vt:=fun pins s σ H Q I h =>
 wpAny_Dict_empty ⟨.ref s.heap.objs.size,_,I.laid (a:=s.heap.objs.size) (o:=.dK []) (t':=s.toks) (fun _ _ q=>ud _ q) (ui _) (Vs s.heap I.big),rfl,h _ (I.hok.fresh (ui _))⟩
end
structure M1(X:Cx)(o:Expr)(m:Str)(apos:Pos)(e:Expr)(cpos:Pos):Prop where
 base:attributeBase o m X.env (eval o X.env)=eval o X.env
 few:((backTo cpos (starEach [e] X.env)).all (fun x=>!x.1) && (backToKw cpos (keywordEach [] X.env)).all (fun x=>x.1.isSome)
  && decide (([e]:List Expr).length+([]:List Keyword).length+(if([]:List Keyword).isEmpty then 0 else 1) < 30))=true
 line:(apos.endLine == cpos.line)=true
 trees:backTo cpos (starEach [e] X.env)=[(false,eval e X.env)]
structure M2(X:Cx)(o:Expr)(m:Str)(apos:Pos)(e f:Expr)(cpos:Pos):Prop where
 base:attributeBase o m X.env (eval o X.env)=eval o X.env
 few:((backTo cpos (starEach [e,f] X.env)).all (fun x=>!x.1) && (backToKw cpos (keywordEach [] X.env)).all (fun x=>x.1.isSome)
  && decide (([e,f]:List Expr).length+([]:List Keyword).length+(if([]:List Keyword).isEmpty then 0 else 1) < 30))=true
 line:(apos.endLine == cpos.line)=true
 trees:backTo cpos (starEach [e,f] X.env)=[(false,eval e X.env),(false,eval f X.env)]
def IsD(H:Hp)(a:Addr):Prop:=(∃kvs,Rd H a (.dK kvs))\/∃kvs,Rd H a (.dT kvs)
theorem YA{X:Cx}{pins:List (Addr×Obj)}{σ:St}{H:Hp}{s:Shared}{a:Addr}(I:Inv X pins σ H s)(d:IsD H a):
  s.TypeIs (.ref a) "dict"/\(∀b,Value.ref a=.ref b->∃ob,s.heap.get? b=some ob/\ob.dict=none)/\(a == sysModules)=false:=by
 rcases d with⟨kvs,e⟩|⟨kvs,e⟩
 ·obtain⟨_,hd,vs,_,dd⟩:=vd I.hok e
  refine⟨dd.typeIs,fun b q=>?_,hd⟩
  cases q
  obtain⟨ob,_,_,h1,h2,_⟩:=dd
  exact⟨ob,h1,h2.2.1⟩
 ·obtain⟨_,hd,xs,_,dd⟩:=vL I.hok e
  refine⟨dd.typeIs,fun b q=>?_,hd⟩
  cases q
  obtain⟨ob,_,_,h1,h2,_⟩:=dd
  exact⟨ob,h1,h2.2.1⟩
section
variable{X:Cx}{pins:List (Addr×Obj)}{σ:St}{H:Hp}{s:Shared}{a:Addr}{y d:V}{u r:Value}{o:Option V}{A:Around}{E:Value->Shared->Prop}
theorem zbW{Q:Value->Shared->Prop}(hu:A.units+1 < cLine)(I:Inv X pins σ H s)(g:DGet H a y o)(ry:RelV y u)(rd:RelV d r)(h:∀w' s',Inv X pins σ H s'->RelV (o.getD d) w'->Q w' s'):
  wpAny (model X.prog X.w) A (call (.builtin "dict.get") [.ref a,u,r]) Q E s:=by
 rcases g with⟨kvs,k,e,ey,l⟩|⟨kvs,k,b,e,ey,eb,l⟩
 ·subst ey
  obtain⟨z,hd,vs,rel,dd⟩:=vd I.hok e
  refine call_meetsIn PySem.F.slot_dict_get dd.typeIs PySem.F.entry_dict_get (PySem.F.args_dict_get_3 _ _ _) (meets_dict_get_default (zF X.prog X.w) a (vc ry) hd r) ⟨_,dd.mapOf,h _ _ (I.tok _) ?_⟩
  rw[l]
  exact(rel.val k).getD rd
 ·subst ey
  cases(show u=Value.ref b from ry)
  obtain⟨z,hd,xs,rel,dd⟩:=vL I.hok e
  refine call_meetsIn PySem.F.slot_dict_get dd.typeIs PySem.F.entry_dict_get (PySem.F.args_dict_get_3 _ _ _) (meetsH_dict_get_default (tupleKind (zF X.prog X.w)) a b hd r) ⟨tupleKind_room_in1 hu,k,xs,wN I.hok eb,dd,h _ _ (I.tok _) ?_⟩
  rw[l]
  exact(rel.val k).getD rd
end
def Vv(td ty tx:TE):TE:=fun σ H Q=>td σ H fun x H1=>∃a,x=.ref a/\IsD H1 a/\ty σ H1 fun y H2=>tx σ H2 fun z H3=>∃o,DGet H3 a y o/\Q (o.getD z) H3
def Vw(td ty:TE):TE:=fun σ H Q=>td σ H fun x H1=>∃a,x=.ref a/\IsD H1 a/\ty σ H1 fun y H2=>∃kvs k v,H2 a=some (.dK kvs)/\y=kV k/\valV kvs k=some v/\Q v (upd H2 a (.dK (va kvs k)))
def Vx(td ty tx:TE):TE:=fun σ H Q=>td σ H fun x H1=>∃a,x=.ref a/\IsD H1 a/\ty σ H1 fun y H2=>tx σ H2 fun z H3=>∃kvs k,H3 a=some (.dK kvs)/\y=kV k /\
 (∀v,valV kvs k=some v->Q v (upd H3 a (.dK (va kvs k))))/\(valV kvs k=none->Q z H3)
section
variable{X:Cx}{o e f:Expr}{apos cpos:Pos}{td ty tx:TE}
theorem Vy(hu:X.A.units+1 < cLine)(ho:PE X o td)(he:PE X e ty)(hf:PE X f tx)(m:M2 X o "get" apos e f cpos):PE X (.Call (.Attribute o "get" apos) [e,f] [] cpos) (Vv td ty tx):=by
 intro pins s σ H Q I h
 refine wpAny_Call_method m.base m.few m.line UR PySem.F.slot_dict_get PySem.F.type_dict_get (thn (ho pins s σ H _ I h) fun u s1 ⟨x,H1,I1,rx,a,ex,d,q1⟩=>?_)
 subst ex
 obtain rfl:u=Value.ref a:=rx
 obtain⟨t1,t2,_⟩:=YA I1 d
 refine⟨t1,t2,?_⟩
 rw[m.trees]
 refine Calls.callWith_builtin rfl (Calls.evalArgs_plain (Calls.spliced_cons (thn (he pins s1 σ H1 _ I1 q1) fun iv s2 ⟨y,H2,I2,ry,q2⟩ =>
  Calls.spliced_cons (thn (hf pins s2 σ H2 _ I2 q2) fun fv s3 ⟨z,H3,I3,rz,ov,g,q3⟩=>Calls.spliced_nil ?_))))
 exact zbW hu I3 g ry rz fun w' s4 I4 rw'=>⟨_,H3,I4,rw',q3⟩
theorem Vz(ho:PE X o td)(he:PE X e ty)(m:M1 X o "pop" apos e cpos):PE X (.Call (.Attribute o "pop" apos) [e] [] cpos) (Vw td ty):=by
 intro pins s σ H Q I h
 refine wpAny_Call_method m.base m.few m.line UR tG PySem.F.type_dict_pop (thn (ho pins s σ H _ I h) fun u s1 ⟨x,H1,I1,rx,a,ex,d,q1⟩=>?_)
 subst ex
 obtain rfl:u=Value.ref a:=rx
 obtain⟨t1,t2,_⟩:=YA I1 d
 refine⟨t1,t2,?_⟩
 rw[m.trees]
 refine Calls.callWith_builtin rfl (Calls.evalArgs_plain (Calls.spliced_cons (thn (he pins s1 σ H1 _ I1 q1) fun iv s2 ⟨y,H2,I2,ry,kvs,k,v,ea,ey,l,q2⟩=>Calls.spliced_nil ?_)))
 subst ey
 exact zaQ I2 ea ry l (.inl rfl) fun w' s3 I3 rw'=>⟨v,_,I3,rw',q2⟩
theorem VA(ho:PE X o td)(he:PE X e ty)(hf:PE X f tx)(m:M2 X o "pop" apos e f cpos):PE X (.Call (.Attribute o "pop" apos) [e,f] [] cpos) (Vx td ty tx):=by
 intro pins s σ H Q I h
 refine wpAny_Call_method m.base m.few m.line UR tG PySem.F.type_dict_pop (thn (ho pins s σ H _ I h) fun u s1 ⟨x,H1,I1,rx,a,ex,d,q1⟩=>?_)
 subst ex
 obtain rfl:u=Value.ref a:=rx
 obtain⟨t1,t2,_⟩:=YA I1 d
 refine⟨t1,t2,?_⟩
 rw[m.trees]
 refine Calls.callWith_builtin rfl (Calls.evalArgs_plain (Calls.spliced_cons (thn (he pins s1 σ H1 _ I1 q1) fun iv s2 ⟨y,H2,I2,ry,q2⟩ =>
  Calls.spliced_cons (thn (hf pins s2 σ H2 _ I2 q2) fun fv s3 ⟨z,H3,I3,rz,kvs,k,ea,ey,q3,q4⟩=>Calls.spliced_nil ?_))))
 subst ey
 cases l:valV kvs k with
 |some v=>exact zaQ I3 ea ry l (.inr ⟨fv,rfl⟩) fun w' s4 I4 rw'=>⟨v,_,I4,rw',q3 v l⟩
 |none=>exact zbU I3 ea ry l fun s4 I4=>⟨z,H3,I4,rz,q4 l⟩
end
section
variable{X:Cx}{pins:List (Addr×Obj)}{σ:St}{H:Hp}{s:Shared}{a:Addr}{kvs:List (Key×V)}{A:Around}{E:Value->Shared->Prop}
end
section
variable{X:Cx}{pins:List (Addr×Obj)}{σ:St}{H:Hp}{s:Shared}{a:Addr}{y:V}{u:Value}{A:Around}{E:Value->Shared->Prop}
end
end L2
namespace Att
open PySem PySem.W PySem.Calls PyProof.Rows
section
variable{prog:Program}{w:World}{A:Around}{E:Value->Shared->Prop}{s:Shared}{K:Frag}
end
end Att
namespace L2
open PySem PySem.Spec PyProof.Rows
section
variable{P:Program}{w:World}{K:ub}{mg:Str->Option Value}{base:Heap}
end
section
variable{X:Cx}
theorem Wc:yQ X (.builtin "len") (fun xs H Q=>∃a kvs,xs=[V.ref a]/\H a=some (.dK kvs)/\Q (.int kvs.length) H):=by
 intro pins s σ H xs us Q I r h
 obtain⟨a,kvs,rfl,ha,q⟩:=h
 obtain⟨u,rfl,ru⟩:=wk r
 cases ru
 exact zcJ I (.inl ha) fun t s' I'=>⟨.int kvs.length,H,I',⟨t,rfl⟩,q⟩
end
section
variable{κ:Type}[DecidableEq κ]
end
section
variable{X:Cx}{pos:Pos}
def rIsB:R2:=fun x y H Q=>∃b c,x=.bl b/\y=.bl c/\Q (.bl (decide (b=c))) H
theorem zbX:OpR X (compareOp .Is) rIsB:=by
 intro pins s σ H x y v u Q I rx ry h
 obtain⟨b,c,rfl,rfl,q⟩:=h
 cases rx
 cases ry
 refine wpAny_is_plain rfl ⟨.bl (decide (b=c)),H,I,?_,q⟩
 cases b<;>cases c<;>rfl
theorem zbY:jOp X (compareOp .Is) rIsB:=⟨zbX⟩
theorem xK:jE X (.Dict [] [] pos) Vt:=⟨Vu⟩
end
theorem SqK.l{K:ub}{H:Hp}{a:Addr}{xs:List V}(h:H a=some (.lst xs)):SqK true K H a xs:=SqL.of h
theorem SqK.t{K:ub}{H:Hp}{a:Addr}{xs:List V}(h:H a=some (.tup xs)):SqK false K H a xs:=SqT.of h
section
variable{X:Cx}{pins:List (Addr×Obj)}{σ:St}{H:Hp}{s:Shared}{h':Heap}
end
section
variable{X:Cx}
theorem xZ{o i value:Expr}{td ty tv:TE}{pos pos':Pos}{k:Nat}(hr:Room k X.A)(ho:jE X o td)(hi:jE X i ty)(hv:jE X value tv)(hs:swapsWith value (some (.Subscript o i pos')) pos.line X.env=pure false:=by rfl):
  jS X (.Assign [.Subscript o i pos'] value pos) (zaS td ty tv):=⟨QP (by have:=hr.units;lia) ho.out hi.out hv.out hs⟩
theorem KV.get{kvs:List (Key×V)}{ws:List (Key×Value)}(r:KV kvs ws){j:Nat}{k:Key}{x:Value}(h:ws[j]?=some (k,x)):∃y,kvs[j]?=some (k,y)/\RelV y x:=by
 unfold KV at r
 induction r generalizing j with
 |nil=>simp at h
 |@cons p q ps qs hh t ih =>
  cases j with
  |zero =>
   simp at h
   subst h
   obtain⟨p1,p2⟩:=p
   have e:p1=k:=hh.1
   subst e
   exact⟨p2,rfl,hh.2⟩
  |succ j =>
   obtain⟨y,h1,h2⟩:=ih (j:=j) (by simpa using h)
   exact⟨y,by simpa using h1,h2⟩
end
section
variable{X:Cx}{pos:Pos}
theorem wb(K:ub)(h:X.K=K:=by rfl):jIx X (rIxT K):=h ▸ vD
theorem ZX(K:ub)(h:X.K=K:=by rfl):jIx X (rIxL K):=h ▸ yb
theorem zbZ(K:ub)(h:X.K=K:=by rfl):jOp X (compareOp .In) (rIn K false):=h ▸ wL
theorem wy(K:ub){es:List Expr}{k:Nat}{gs:TGs}{n:Nat}(hc:X.calm=true)(g:jGs X es gs)(h:X.K=K:=by rfl)(hn:(assignEach es X.env).length=n:=by rfl)(hst:(assignEach es X.env).findIdx? (·.1)=none:=by rfl):jG X (.Tuple es k pos) (gTup K n gs):=h ▸ wq hc g hn hst
theorem ZY(K:ub)(h:X.K=K:=by rfl):jCa X (.builtin "len") (fun xs H Q=>∃p ys,xs=[.ref p]/\(SqL K H p ys\/SqT K H p ys)/\Q (.int ys.length) H):=h ▸ vE
end
end L2
namespace K11
open PySem
def sg(c:Nat):Str:=⟨#[c]⟩
theorem vM(a:Array Nat):∀(k:Nat)(acc:Array Nat),((Um k a).foldl (· ++ ·) acc).size=acc.size+k*a.size
 |0,acc=>by simp
 |k+1,acc=>by
  rw[List.replicate_succ,List.foldl_cons,vM a k,Array.size_append,Nat.add_mul]
  lia
theorem QQ{z:Str}{n:Int}(hz:z.length=1):(Txt.mul z n).length<=n.toNat:=by
 unfold Txt.mul
 split
 ·simp[Str.empty,Str.length]
 ·rename_i h
  split
  ·rw[hz];lia
  ·show((Um n.toNat z.cps).foldl (· ++ ·) #[]).size<=n.toNat
   have e:z.cps.size=1:=hz
   rw[vM,e]
   simp
theorem zb0{z:Str}{n:Int}(hz:z.length=1)(h0:0<=n)(h1:n<=1000):MulOk z n:=by
 have hs:sizeLine=16777216:=by decide
 refine⟨?_,fun a b=>?_,fun a b=>?_⟩
 ·have e1:decide (n < -(2 ^ 63:Int))=false:=decide_eq_false (by lia)
  have e2:decide (n ≥ 2 ^ 63)=false:=decide_eq_false (by lia)
  rw[e1,e2];rfl
 ·rw[hz]
  have:(1:Int)<=(2 ^ 63-1) / n:=Int.le_ediv_of_mul_le (by lia) (by lia)
  intro c
  have c':(1:Int) > (2 ^ 63-1) / n:=c
  lia
 ·rw[hz]
  unfold Builtin.Str.tooLong
  exact decide_eq_false (by rw[hs];lia)
end K11
namespace K11
open PySem PySem.Spec PyProof.Rows Builtin Builtin.Str
abbrev cl(z:Str):List Nat:=z.cps.toList
theorem xM(z:Str):(cl z).length=z.length:=by simp[Str.length]
theorem yH(x y:Str):cl (x++y)=cl x++cl y:=by
 show(x.cps++y.cps).toList=_
 simp
theorem Zf{sep x y:Str}{r:List Str}:cl (Str.join sep (x::y::r))=cl x++(cl sep++cl (Str.join sep (y::r))):=by
 show cl (x++sep++Str.join sep (y::r))=_
 rw[yH,yH,Uj]
end K11
namespace GN
open PySem L2
def top(i:Nat):Stmt:=PySem.Challenge.pw_reusewise_k64_let_by_just_these.main.body.getD i (.Pass ⟨0,0,0,0⟩)
abbrev vN:Stmt:=top 13
abbrev Zg:Stmt:=top 14
abbrev vO:Stmt:=top 16
abbrev VB:Stmt:=top 17
abbrev YB:Stmt:=xf (top 18) 0
abbrev Zh:Stmt:=xf (top 18) 1
abbrev Zi:Stmt:=xf (top 18) 2
abbrev YC:Stmt:=xf (top 18) 3
abbrev VC:Stmt:=xf (top 18) 4
abbrev VD:Stmt:=xf (top 18) 5
abbrev Zj:Stmt:=xf (top 18) 6
abbrev YD:Stmt:=top 19
abbrev vP:Stmt:=top 20
abbrev Zk:Stmt:=top 21
abbrev Zl:Stmt:=top 22
abbrev Zm:Stmt:=top 23
abbrev Zn:Stmt:=top 24
abbrev YE:Stmt:=top 25
abbrev Zo:Stmt:=xf (top 6) 0
abbrev VE:Stmt:=top 27
abbrev sNm:Stmt:=top 28
abbrev VF:Stmt:=top 29
abbrev YF:Stmt:=top 30
abbrev YG:Stmt:=top 31
abbrev sUp:Stmt:=top 32
abbrev VG:Stmt:=top 33
abbrev sTok:Stmt:=top 34
abbrev YH:Stmt:=top 35
abbrev YI:Stmt:=top 36
abbrev VH:Stmt:=top 37
abbrev sEnd:Stmt:=top 38
abbrev VI:Stmt:=top 39
abbrev YJ:Stmt:=top 40
abbrev YK:Stmt:=top 41
abbrev VJ:Stmt:=top 42
abbrev Zp:Stmt:=top 43
abbrev YL:Stmt:=top 44
abbrev VL:Stmt:=top 45
abbrev VM:Stmt:=top 46
abbrev VN:Stmt:=top 47
abbrev Xt:Stmt:=top 48
abbrev VO:Stmt:=top 49
abbrev vQ:Stmt:=top 50
abbrev vR:Stmt:=top 51
abbrev sOne:Stmt:=top 52
abbrev sGot:Stmt:=top 53
abbrev sDue:Stmt:=top 54
abbrev sLaw:Stmt:=top 55
end GN
namespace L2
open PySem
section
variable{X:Cx}{o i:Expr}{to ti:TE}{pos:Pos}
theorem yD(ho:jE X o to)(hi:jE X i ti)(ha:∀v,assign (.Subscript o i pos) X.env v=(do
   let ov <- holding [v] (eval o X.env)
   let iv <- holding [v,ov] (eval i X.env)
   standAt pos
   holding [v,ov,iv] (setItem ov iv v)
   release [v,ov,iv] []):=by intro _;rfl):jG X (.Subscript o i pos) (gSub to ti zaJ):=⟨zbk ho.out hi.out WO ha⟩
end
end L2
namespace GN
open PySem L2 K11
theorem zi{H:Hp}{p:Addr}(h:H p=none)(o:HO):Same H (upd H p o):=fun b u q=>by rw[zm (zr q h)];exact q
def LIM:Nat:=4611686018427387904
def Sta(K:ub)(H:Hp)(st:Addr)(B:Nat):Prop:=∃(a:Addr)(ns:List Int)(k:Nat),H st=some (.lst [.ref a,.int (k:Nat)])/\(a=st->∀H',SqL K H' a (ns.map V.int))/\SqL K H a (ns.map V.int)/\k<=B
structure Kp(st:Addr)(H H':Hp):Prop where
 k:∀b u,b≠st->H b=some u->H' b=some u
 s:∀a k,H st=some (.lst [.ref a,.int k])->∃k',H' st=some (.lst [.ref a,.int k'])
theorem Kp.refl{st:Addr}{H:Hp}:Kp st H H:=⟨fun _ _ _ h=>h,fun _ k h=>⟨k,h⟩⟩
theorem Kp.trans{st:Addr}{H H1 H2:Hp}(a:Kp st H H1)(b:Kp st H1 H2):Kp st H H2:=⟨fun c u n h=>b.k c u n (a.k c u n h),fun x k h=>let ⟨k',h'⟩:=a.s x k h;b.s x k' h'⟩
theorem Kp.of{st:Addr}{H H1:Hp}(a:Same H H1):Kp st H H1:=⟨fun c u _ h=>a c u h,fun _ k h=>⟨k,a _ _ h⟩⟩
theorem Kp.new{st p:Addr}{H H1:Hp}{o:HO}(a:Kp st H H1)(h:H1 p=none):Kp st H (upd H1 p o):=a.trans (.of (zi h o))
theorem Kp.put{st p:Addr}{H H1:Hp}{o:HO}(a:Kp st H H1)(h:H p=none):Kp st H (upd H1 p o):=⟨fun b u n q=>by rw[zm (zr q h)];exact a.k b u n q,fun x k q=>by
 obtain⟨k',h'⟩:=a.s x k q
 exact⟨k',by rw[zm (zr q h)];exact h'⟩⟩
theorem Kp.seq{K:ub}{st a:Addr}{H H':Hp}{xs:List V}(e:Kp st H H')(n:a≠st)(h:SqL K H a xs):SqL K H' a xs:=by
 rcases h with(h|⟨o,h⟩)|h
 ·exact .inl (.inl (e.k _ _ n h))
 ·exact .inl (.inr ⟨o,e.k _ _ n h⟩)
 ·exact .inr h
theorem Kp.free{st p:Addr}{H H':Hp}(e:Kp st H H')(n:p≠st)(h:H' p=none):H p=none:=by
 cases q:H p with
 |none=>rfl
 |some o =>
  rw[e.k p o n q]at h
  cases h
section
variable{K:ub}{H H':Hp}{st:Addr}{B B':Nat}
theorem Sta.ex(h:Sta K H st B):∃o,H st=some o:=let ⟨_,_,_,e,_⟩:=h;⟨_,e⟩
theorem Sta.mono(h:Sta K H st B)(l:B<=B'):Sta K H st B':=let ⟨a,ns,k,h1,h2,h3,h4⟩:=h;⟨a,ns,k,h1,h2,h3,uy h4 l⟩
theorem Sta.same(h:Sta K H st B)(s:Same H H'):Sta K H' st B:=let ⟨a,ns,k,h1,h2,h3,h4⟩:=h;⟨a,ns,k,s _ _ h1,h2,s.seq h3,h4⟩
theorem Sta.new(h:Sta K H st B){p:Addr}(hp:H p=none)(o:HO):Sta K (upd H p o) st B:=h.same (zi hp o)
theorem Sta.ne{p:Addr}(h:Sta K H st B)(hp:H p=none):p≠st:=fun e=>by
 obtain⟨o,q⟩:=h.ex
 rw[e,q]at hp
 cases hp
theorem Sta.neR{p:Addr}{ts:List Addr}(h:Sta K H st B)(hp:H p=some (.lst (ts.map V.ref))):p≠st:=fun e=>by
 obtain⟨a,ns,k,h1,_⟩:=h
 rw[e,h1]at hp
 have e2:=congrArg (fun o=>match o with|some (HO.lst l)=>l|_=>[]) hp
 simp only at e2
 match ts,e2 with
 |[_,_],e2=>simp at e2
 |[],e2=>simp at e2
 |[_],e2=>simp at e2
 |_::_::_::_,e2=>simp at e2
theorem Sta.neS{p:Addr}{ts:List Str}(h:Sta K H st B)(hp:H p=some (.lst (ts.map V.str))):p≠st:=fun e=>by
 obtain⟨a,ns,k,h1,_⟩:=h
 rw[e,h1]at hp
 have e2:=congrArg (fun o=>match o with|some (HO.lst l)=>l|_=>[]) hp
 simp only at e2
 match ts,e2 with
 |[],e2=>simp at e2
 |_::_,e2=>simp at e2
theorem Sta.neW{p:Addr}{x:Str}{xs:List V}(h:Sta K H st B)(hp:H p=some (.lst (.str x::xs))):p≠st:=fun e=>by
 obtain⟨a,ns,k,h1,_⟩:=h
 rw[e,h1]at hp
 simp at hp
theorem Sta.put{H2:Hp}{p:Addr}{o:HO}(S0:Sta K H st B)(hp:H p=none)(k:Kp st H H2)(S2:Sta K H2 st B'):Sta K (upd H2 p o) st B':=by
 obtain⟨a,ns,i,h1,h2,h3,_⟩:=S0
 obtain⟨a',ns',i',g1,g2,g3,g4⟩:=S2
 obtain⟨k',h'⟩:=k.s a _ h1
 rw[g1]at h'
 have ea:a'=a:=by
  have:=congrArg (fun o=>match o with|some (HO.lst (V.ref x::_))=>x|_=>0) h'
  exact this
 subst ea
 have g1':upd H2 p o st=some (.lst [.ref a',.int ((i':Nat):Int)]):=by rw[zm (zr h1 hp)];exact g1
 have key:a'≠p->Sta K (upd H2 p o) st B':=fun n=>by
  refine⟨a',ns',i',g1',g2,?_,g4⟩
  rcases g3 with(g|⟨o,g⟩)|g
  ·exact .inl (.inl (by rw[zm n];exact g))
  ·exact .inl (.inr ⟨o,by rw[zm n];exact g⟩)
  ·exact .inr g
 rcases h3 with(h|⟨_,h⟩)|h
 ·exact key (zr h hp)
 ·exact key (zr h hp)
 ·exact⟨a',ns,i',g1',fun _ _=>.inr h,.inr h,g4⟩
def Tups(H H':Hp):Prop:=∀p xs,H p=some (.tup xs)->H' p=some (.tup xs)
theorem Tups.of(s:Same H H'):Tups H H':=fun p xs h=>s p _ h
theorem Tups.trans{H2:Hp}(a:Tups H H')(b:Tups H' H2):Tups H H2:=fun p xs h=>b p xs (a p xs h)
theorem Kp.tups(k:Kp st H H')(h:Sta K H st B):Tups H H':=fun p xs q=>k.k p _ (fun e=>by
 obtain⟨_,_,_,h1,_⟩:=h
 rw[e,h1]at q
 cases q) q
end
def yj(K:ub):Sp:=fun vs H Q _=>∃(st:Addr)(m:Int)(B:Nat),vs=[.ref st,.int m]/\Sta K H st B/\B < LIM/\0 < m/\∀(H':Hp)(r:Int),Kp st H H'->Sta K H' st (B+1)->0<=r->r < m->Q (.int r) H'
def LET:Str:="abcdefghijklmnopqrstuvwxyz"
theorem zb1:cl LET=(uT 26).map (97 + ·):=by decide +kernel
def lt(i:Nat):Str:=sg (97+i)
theorem zb2{i:Nat}(h:i < 26):atI LET.cps.toList (i:Int)=some (97+i):=by
 refine zJ ?_
 show(cl LET)[i]?=_
 rw[zb1,uk,tR h]
 rfl
theorem Zq{m:Int}(h0:0<=m)(h:m < 26):atI LET.cps.toList m=some (97+m.toNat):=by
 have e:=zb2 (i:=m.toNat) (by lia)
 rw[Int.toNat_of_nonneg h0]at e
 exact e
theorem Zr:LET.length=26:=by decide +kernel
def core(k:Nat):Str:=lt (k / 2 % 26)++("z":Str)++lt (k / 52 % 26)
def ys(k:Nat):Str:=Txt.mul "y" ((k % 2:Nat):Int)
def nm(z:Str)(b:Bool)(k:Nat):Str:=if b=true then core k++z++ys k else ys k++z++core k
theorem vn(k:Nat):cl (core k)=[97+k / 2 % 26,122,97+k / 52 % 26]:=by
 unfold core
 rw[yH,yH]
 rfl
theorem VP(k:Nat):(core k).length=3:=by rw[<- xM,vn];rfl
theorem zb3(k:Nat):(ys k).length<=1:=by
 have h:=QQ (z:="y") (n:=((k % 2:Nat):Int)) rfl
 unfold ys
 lia
theorem Xu(a b:Str):(a++b).length=a.length+b.length:=by rw[<- xM,yH,uc,xM,xM]
def spNm:Sp:=fun vs H Q _=>∃(p:Addr)(z:Str)(b:Bool)(xs:List V)(k:Nat),vs=[.ref p,.int (k:Nat)]/\H p=some (.lst (.str z::.bl b::xs))/\z.length<=6/\Q (.str (nm z b k)) H
section
variable{P:Program}{w:World}{K:ub}{mg:Str->Option Value}{base:Heap}{f:Addr}{fd:FuncData}
theorem scDraw:FnScope ["_law_state","_law_many","_law_k","_law_cell"] lS4 (zn VE):=.ok
theorem QR(F:Fun K "_law_draw" "_law_draw" VE f fd)(m_len:mg "len"=none):FnOk P w K mg base CX0 1 f fd lS4 (yj K):=by
 refine F.by scDraw (fun vs H Q E h=>?_) (fun cdv A outer s H vs Q E hr h=>?_)
 ·obtain⟨st,m,B,rfl,_⟩:=h
  rfl
 obtain⟨st,m,B,rfl,⟨a,ns,k,hst,hne,hS,hk⟩,hB,hm,q⟩:=h
 refine⟨_,
  (zh (sE 2 scDraw.nd (xL 0))
  (zh (yz (zx ye (jv 2) zk) (yD (jv 0) zk))
  (zh (zw (tN W9 (jv 2) (jL m_len (xL 0)))
   (zj (zq (zx xG (xX yb (xL 0) (jv 2)) (jv 1)))) zp)
  (zh (sE 3 scDraw.nd (zx ye (zx j9 (jv 2) zk) zk))
  (zh (zw (tN wm (jL m_len (xL 0)) zk)
   (zj (sE 3 scDraw.nd (zx ye (jv 3) (zx j9 (xX yb (xL 0) (zx xG (zx j9 (jv 2) zk) (jL m_len (xL 0)))) (zx ye zk (jv 2)))))) zp)
  (zj (zq (zx xG (zx xG (jv 3) zk) (jv 1))))))))),?_⟩
 refine⟨_,rfl,ixL hst aI1 ?_⟩
 refine⟨_,rfl,_,_,rfl,rfl,_,rfl,st,_,1,1,rfl,rfl,hst,rfl,?_⟩
 have kp:Kp st H (upd H st (.lst [.ref a,.int ((k+1:Nat):Int)])):=⟨fun b u n h=>by rw[zm n];exact h,fun x y h=>by
  rw[hst]at h
  cases h
  exact⟨_,zg⟩⟩
 have hst1:=zg (H:=H) (a:=st) (o:=.lst [.ref a,.int ((k+1:Nat):Int)])
 have hS1:SqL K (upd H st (.lst [.ref a,.int ((k+1:Nat):Int)])) a (ns.map V.int):=by
  by_cases e:a=st
  ·exact hne e _
  ·exact kp.seq e hS
 have fin:∀r:Int,0<=r->r < m->Q (.int r) (upd H st (.lst [.ref a,.int ((k+1:Nat):Int)])):=fun r h0 h1=>q _ r kp ⟨a,ns,k+1,hst1,hne,hS1,by lia⟩ h0 h1
 show(tSeq _ _:TS) _ _ (upd H st (.lst [.ref a,.int ((k+1:Nat):Int)]))
 generalize upd H st (.lst [.ref a,.int ((k+1:Nat):Int)])=H1 at *
 have ix0:atI [V.ref a,V.int ((k+1:Nat):Int)] 0=some (.ref a):=aI0
 have mm:∀x:Int,0<=x % m/\x % m < m:=fun x=>⟨Int.emod_nonneg x (by lia),Int.emod_lt_of_pos x hm⟩
 refine⟨_,rfl,_,rfl,st,_,_,_,rfl,rfl,SqL.of hst1,ix0,_,_,rfl,.inl hS1,_,_,rfl,rfl,_,rfl,?_⟩
 rw[ua]
 refine ite2 (fun c=>?_) (fun c=>?_)
 ·rw[decide_eq_true_eq]at c
  have hi:k < ns.length:=by lia
  have hx:(ns.map V.int)[k]?=some (.int ns[k]):=by rw[uk,um hi];rfl
  exact⟨_,rfl,st,_,_,_,rfl,rfl,SqL.of hst1,ix0,_,rfl,a,_,_,_,rfl,rfl,hS1,zJ hx,_,rfl,_,_,rfl,rfl,hm,fin _ (mm _).1 (mm _).2⟩
 ·refine⟨_,rfl,_,_,rfl,rfl,.inr ⟨by decide,by decide⟩,_,_,rfl,rfl,?_⟩
  have tail:∀(c:Int)(D:Ends),D.rt=Q->(tRet (tOp (rI (fun _ j=>0 < j) fun i j=>V.int (i % j)) (tOp (rI (fun _ j=>0 < j) fun i j=>V.int (i % j)) (tVar 3) (tC (.int 2147483629))) (tVar 1)):TS) D [some (.ref st),some (.int m),some (.int (k:Nat)),some (.int c)] H1:=fun c D e=>by
   refine⟨_,rfl,_,_,rfl,rfl,(by show(0:Int) < _;decide),_,rfl,_,_,rfl,rfl,hm,?_⟩
   rw[e]
   exact fin _ (mm _).1 (mm _).2
  refine⟨_,rfl,st,_,_,_,rfl,rfl,SqL.of hst1,ix0,_,_,rfl,.inl hS1,_,_,rfl,rfl,_,rfl,?_⟩
  rw[ua]
  refine ite2 (fun c2=>?_) (fun c2=>tail _ _ rfl)
  rw[decide_eq_true_eq]at c2
  have hl:(0:Int) < (ns.length:Nat):=by lia
  have c0:=Int.emod_nonneg ((k:Nat)*7:Int) (show((ns.length:Nat):Int)≠0 by lia)
  have c1:=Int.emod_lt_of_pos ((k:Nat)*7:Int) hl
  have hi:(((k:Nat)*7:Int) % (ns.length:Nat)).toNat < ns.length:=by lia
  have hx:(ns.map V.int)[(((k:Nat)*7:Int) % (ns.length:Nat)).toNat]?=some (.int ns[(((k:Nat)*7:Int) % (ns.length:Nat)).toNat]):=by rw[uk,um hi];rfl
  have hx2:atI (ns.map V.int) (((k:Nat)*7:Int) % (ns.length:Nat))=some (.int ns[(((k:Nat)*7:Int) % (ns.length:Nat)).toNat]):=by
   have e:=zJ hx
   rw[Int.toNat_of_nonneg c0]at e
   exact e
  refine⟨_,rfl,_,rfl,st,_,_,_,rfl,rfl,SqL.of hst1,ix0,_,rfl,_,_,rfl,rfl,.inr ⟨by decide,by decide⟩,_,rfl,st,_,_,_,rfl,rfl,SqL.of hst1,ix0,_,_,rfl,.inl hS1,_,_,rfl,rfl,(by rw[ua];exact hl),?_⟩
  refine⟨a,_,_,_,rfl,rfl,hS1,(by rw[ua];exact hx2),_,rfl,_,_,rfl,rfl,_,_,rfl,rfl,.inr ⟨by show -(2 ^ 64) < (48271+(k:Nat):Int);lia,by show(48271+(k:Nat):Int) < 2 ^ 64;unfold LIM at hB;lia⟩,_,_,rfl,rfl,tail _ _ rfl⟩
theorem scNm:FnScope ["_law_world_here","_law_k","_law_letters","_law_core"] lS9 (zn sNm):=.ok
theorem zcK(F:Fun K "_law_name" "_law_name" sNm f fd):FnOk P w K mg base CX0 1 f fd lS9 spNm:=by
 refine F.by scNm (fun vs H Q E h=>?_) (fun cdv A outer s H vs Q E hr h=>?_)
 ·obtain⟨p,z,b,xs,k,rfl,_⟩:=h
  rfl
 obtain⟨p,z,b,xs,k,rfl,hp,hz,q⟩:=h
 refine⟨_,
  (zh (sE 2 scNm.nd zo)
  (zh (sE 3 scNm.nd (zx yv (zx yv (xX Yv (jv 2) (zx xG (zx xV (jv 1) zk) zk)) zo) (xX Yv (jv 2) (zx xG (zx xV (jv 1) zk) zk))))
  (zh (zw (zE (xL 0))
   (zj (zq (zx yv (zx yv (jv 3) (xL 0)) (zx vC zo (zx xG (jv 1) zk))))) zp)
  (zj (zq (zx yv (zx yv (zx vC zo (zx xG (jv 1) zk)) (xL 0)) (jv 3))))))),?_⟩
 have sl:=zN
 have e1:((k:Nat):Int) / 2 % 26=((k / 2 % 26:Nat):Int):=by lia
 have e2:((k:Nat):Int) / 52 % 26=((k / 52 % 26:Nat):Int):=by lia
 have e3:((k:Nat):Int) % 2=((k % 2:Nat):Int):=by lia
 have cl3:=VP k
 have yl:=zb3 k
 have ec:(⟨#[97+(((k:Nat):Int) / 2 % 26).toNat]⟩:Str)++("z":Str)++(⟨#[97+(((k:Nat):Int) / 52 % 26).toNat]⟩:Str)=core k:=by
  rw[e1,e2]
  rfl
 suffices rest:∀c3:Str,c3=core k->(tSeq _ _:TS) { nx:=fun _ H'=>Q .non H',rt:=Q } [some (.ref p),some (.int (k:Nat)),some (.str LET),some (.str c3)] H by
  exact⟨_,rfl,_,rfl,_,_,rfl,rfl,⟨by decide,by decide⟩,_,_,rfl,rfl,(by show(0:Int) < _;decide),LET,_,_,rfl,rfl,by rw[Zr];decide,Zq (by lia) (by lia),_,_,rfl,rfl,by show 1+1<=sizeLine;decide,_,rfl,_,rfl,_,_,rfl,rfl,⟨by decide,by decide⟩,_,_,rfl,rfl,(by show(0:Int) < _;decide),LET,_,_,rfl,rfl,by rw[Zr];decide,Zq (by lia) (by lia),_,_,rfl,rfl,by show 2+1<=sizeLine;decide,rest _ ec⟩
 rintro _ rfl
 have mo:MulOk "y" (((k % 2:Nat):Int)):=zb0 rfl (by lia) (by lia)
 refine⟨_,rfl,ixL hp aI1 ⟨_,rfl,?_⟩⟩
 unfold nm at q
 cases b with
 |true =>
  rw[if_pos rfl]at q
  refine iteT ?_
  refine⟨_,rfl,_,rfl,ixL hp aI0 ⟨_,_,rfl,rfl,by lia,_,rfl,_,_,rfl,rfl,(by show(0:Int) < _;decide),_,_,rfl,rfl,by rw[e3];exact mo,?_⟩⟩
  rw[e3]
  exact⟨_,_,rfl,rfl,by rw[Xu];show(core k).length+z.length+(ys k).length<=_;lia,q⟩
 |false =>
  rw[if_neg (by decide)]at q
  refine iteF ?_
  refine⟨_,rfl,_,_,rfl,rfl,(by show(0:Int) < _;decide),_,_,rfl,rfl,by rw[e3];exact mo,?_⟩
  rw[e3]
  refine⟨_,rfl,ixL hp aI0 ⟨_,_,rfl,rfl,by show(ys k).length+z.length<=_;lia,_,rfl,_,_,rfl,rfl,by show(Txt.mul "y" (((k % 2:Nat):Int))++z).length+(core k).length<=_;rw[Xu];show(ys k).length+z.length+(core k).length<=_;lia,q⟩⟩
end
end GN
namespace L2
open PySem PySem.Spec PyProof.Rows
section
variable{X:Cx}
end
section
variable{X:Cx}{CX:CXT}{k:Nat}{x:Str}{ps:List Str}{sp:Sp}{dvs:List V}{E:XK}{p pos:Pos}{e:Expr}{es:List Expr}{t:TA}
end
section
variable{prog:Program}{w:World}{A:Around}{E:Value->Shared->Prop}
end
inductive TyN(H:Hp):V->Bool->Prop where
 |int (i:Int):TyN H (.int i) false
 |str (z:Str):TyN H (.str z) false
 |bl (b:Bool):TyN H (.bl b) false
 |non:TyN H .non false
 |lst {a:Addr} {xs:List V} (e:H a=some (.lst xs)):TyN H (.ref a) true
 |tup {a:Addr} {xs:List V} (e:H a=some (.tup xs)):TyN H (.ref a) true
section
variable{X:Cx}
variable{CX:CXT}{k:Nat}{C:Addr}{ps:List Str}{sp:Sp}{E:XK}{x m:Str}{p pos apos:Pos}{e o:Expr}{es:List Expr}{ta:TE}{t:TA}
theorem wz{o i:Expr}{td ty:TE}{pos:Pos}(hr:Room k X.A)(ho:jE X o td)(hi:jE X i ty)(hs:NoSl i:=by intro _ _;rfl):jE X (.Subscript o i pos) (zaR td ty):=⟨QO (Xj hr) ho.out hi.out hs⟩
theorem VQ{o e f:Expr}{td ty tx:TE}{apos cpos:Pos}(hr:Room k X.A)(ho:jE X o td)(he:jE X e ty)(hf:jE X f tx)(m:M2 X o "get" apos e f cpos:=by exact⟨rfl,rfl,rfl,rfl⟩):jE X (.Call (.Attribute o "get" apos) [e,f] [] cpos) (Vv td ty tx):=⟨Vy (Xj hr) ho.out he.out hf.out m⟩
theorem QS:jCa X (.builtin "len") (fun xs H Q=>∃a kvs,xs=[V.ref a]/\H a=some (.dK kvs)/\Q (.int kvs.length) H):=⟨Wc⟩
end
section
variable{g:TG}{tt:TT}{te:TE}{Q:VK}{σ:St}{H:Hp}
theorem Zs{K:ub}{k m:Bool}{a b:Addr}{xs ys:List V}(hlen:xs.length=ys.length)(Pv:Nat->St->List V->Hp->Prop)(h0:Pv 0 σ [] H)(hl:∀i τ zs H,i<=xs.length->Pv i τ zs H->SqK k K H a xs/\SqK m K H b ys)
  (hs:∀i x y T τ zs H,xs[i]?=some x->ys[i]?=some y->H T=none->Pv i τ zs H->g (.ref T) τ (upd H T (.tup [x,y])) fun τ2 H2=>tt τ2 H2 fun b H3=>if b=true then te τ2 H3 fun y H4=>zs.length < sizeLine/\Pv (i+1) τ2 (zs++[y]) H4 else Pv (i+1) τ2 zs H3)
  (hd:∀τ zs H,Pv xs.length τ zs H->∀p,H p=none->Q (.ref p) (upd H p (.lst zs))):∃W,(∃m,W 0 m σ [] H)/\lcBy (Itz K k m a b) g tt te Q W:=by
 refine⟨fun i m τ zs H=>m=xs.length-i/\i<=xs.length/\Pv i τ zs H,⟨xs.length,by simp,uW _,h0⟩,?_⟩
 rintro i n τ zs H ⟨rfl,hi,p⟩
 obtain⟨q1,q2⟩:=hl i τ zs H hi p
 by_cases hlt:i < xs.length
 ·refine .inr ⟨⟨xs,ys,xs[i],ys[i]'(by lia),q1,q2,by simp[hlt],by simp[<- hlen,hlt]⟩,Pv (i+1),fun τ' zs' H' p'=>⟨xs.length-(i+1),by lia,rfl,hlt,p'⟩,fun x H' y=>?_⟩
  obtain⟨T,x,y,rfl,hT,rfl,e1,e2⟩:=y
  exact hs i x y T τ zs H (e1 xs q1) (e2 ys q2) hT p
 ·have e:i=xs.length:=by lia
  subst e
  exact .inl ⟨⟨xs,ys,q1,q2,.inl (ui _)⟩,hd τ zs H p⟩
end
section
variable{X:Cx}{k:Nat}{o e f i:Expr}{td ty tx:TE}{apos cpos pos:Pos}
theorem ZZ(ho:jE X o td)(he:jE X e ty)(m:M1 X o "pop" apos e cpos:=by exact⟨rfl,rfl,rfl,rfl⟩):jE X (.Call (.Attribute o "pop" apos) [e] [] cpos) (Vw td ty):=⟨Vz ho.out he.out m⟩
theorem YM(hr:Room k X.A)(hi:jE X i ty)(ho:jE X o td)(h1:behindInMarks .In o=false:=by rfl):jE X (.Compare i [.In] [o] pos) (tDIn ty td):=⟨Wy (zbV (Xj hr) hi.out ho.out) (h1:=h1)⟩
theorem wc(hr:Room k X.A)(hi:jE X i ty)(ho:jE X o td)(h1:behindInMarks .NotIn o=false:=by rfl):jE X (.Compare i [.NotIn] [o] pos) (Xs ty td):=⟨Wy (Wb (Xj hr) hi.out ho.out) (h1:=h1)⟩
theorem vo(hc:X.calm=true):jCa X (.builtin "min") (fun xs H Q=>∃i j,xs=[.int i,.int j]/\Q (.int (if j < i then j else i)) H):=⟨XZ hc⟩
end
theorem v7:entryFor table "proto.unchain"=some Builtin.«proto.unchain»:=entryFor_of_fast (by kernel_rfl)
theorem QT{a b:Addr}(h:a≠b):(Value.ref a != Value.ref b)=true:=by
 rw[bne_iff_ne]
 intro e
 injection e with e
 exact h e
section
variable{prog:Program}{w:World}{A:Around}{s:Shared}{E:Value->Shared->Prop}
theorem Wd{it l eh:Addr}{i:Nat}{items}{oe:Obj}{ve:Array Value}{Q:Option Value->Shared->Prop}(hh:A.handled=some (.ref eh))(he:s.heap.get? eh=some oe)(hde:oe.data=.fields ve)(h2:ve[2]?=some .none)(hne:eh≠it)
  (hit:s.heap.IsListIter it l i) (hl:s.heap.IsList l items) (hx:items[i]?=none)
  (hQ:∀h',Heap.ExtBut it s.heap h'->Q none { s with heap:=h' }):wpAny (model prog w) A (pyNext (.ref it)) Q E s:=by
 obtain⟨o,ho,hc,hd⟩:=id hit
 obtain⟨ol,hol,_,nl,hdl⟩:=hl
 unfold pyNext
 refine wpAny_bind (wpAny_attempt (wpAny_callSpecial?_slot (name:=Str.ofString "__next__") hit.typeIs slot_listiter_next
  (wpAny_call_entry slot_listiter_next hit.typeIs entry_listiter_next ?_ (args_listiter_next _))))
 show wpAny _ _ (field (.ref it) 0 >>= _) _ _ s
 refine wpAny_bind (wpAny_field ho hd (x:=.ref l) rfl ?_)
 show wpAny _ _ (if(Value.ref l == Value.none)=true then _ else _) _ _ s
 rw[if_neg (show ¬ ((Value.ref l == Value.none)=true)from uw)]
 show wpAny _ _ (field (.ref it) 1 >>= _) _ _ s
 refine wpAny_bind (wpAny_field ho hd (x:=.int i 0) rfl ?_)
 show wpAny _ _ (seqItems? (.ref l) >>= _) _ _ s
 refine wpAny_bind (wpAny_seqItems hol hdl ?_)
 simp only[tH,hx]
 refine wpAny_bind (wpAny_rule (wpAny_bind (wpAny_setField ho hd (by simp) ?_)))
 show wpAny _ _ (newExc (.type "StopIteration") [] >>= _) _ _ _
 refine wpAny_bind ?_
 simp only[newExc,newTuple]
 refine wpAny_bind (wpAny_newObj_type ?_ (by size_fits))
 refine wpAny_bind (m:=firstArgMember _ _) (wpAny_of_eq (a:=Value.none) (by first|rfl|(simp only[firstArgMember];rfl)) ?_)
 refine wpAny_newObj_type ?_ (by size_fits)
 simp only[raiseNew]
 refine wpAny_bind (wpAny_handled ?_)
 rw[show A.in1.handled=some (.ref eh)from hh]
 generalize hG:(s.heap.update it (Obj.mapFields fun x=>x.setIfInBounds 0 Value.none)).push { cls:=.type "tuple",data:=.seq #[] }=G
 have kG:∀b o,b≠it->s.heap.get? b=some o->G.get? b=some o:=fun b o n e=>by
  rw[<- hG]
  exact ud _ ((Heap.SameBut.update ..).extBut b o n e)
 have eG:=kG eh oe hne he
 have la:eh≠G.objs.size:=uC (uq eG)
 show wpAny _ _ (if(Value.ref eh != Value.ref G.objs.size)=true then _ else _) _ _ _
 rw[if_pos (QT la)]
 refine wpAny_bind (wpAny_holding (wpAny_runValue (codeAny_builtin v7 ?_)))
 show wpAny _ _ (field (.ref eh) 2 >>= _) _ _ _
 refine wpAny_bind (wpAny_field (ud _ eG) hde (x:=.none) h2 ?_)
 show wpAny _ _ (if(Value.none == Value.none)=true then _ else _) _ _ _
 rw[if_pos (show(Value.none == Value.none)=true from rfl)]
 refine wpAny_bind (wpAny_pure (wpAny_pure ?_))
 show wpAny (model prog w) A.in1 (updateField G.objs.size 2 (.ref eh) >>= fun _=>throw (.ref G.objs.size)) _ _ _
 refine wpAny_bind ?_
 simp only[updateField]
 refine wpAny_bind (wpAny_load (ut _ rfl) ?_)
 show wpAny _ _ (if 2 < _ then _ else _) _ _ _
 rw[if_pos (by rw[Array.size_append];show 2 < 6+_;lia)]
 refine wpAny_update (ut _ rfl) (wpAny_throw ?_)
 refine wpAny_bind (wpAny_isInstance (T:="StopIteration") (b:=true) ⟨_,uU _ (ut _ rfl) rfl,rfl⟩ isSubtype_stop ?_)
 exact wpAny_pure (hQ _ fun b o n e=>(Heap.SameBut.update ..).extBut b o (uC (uq (kG b o n e))) (ud _ (kG b o n e)))
end
def HandP(X:Cx):Prop:=∃(eh:Addr)(oe:Obj)(ve:Array Value),X.A.handled=some (.ref eh)/\X.s₀.heap.get? eh=some oe/\X.H₀ eh=none/\eh∉X.fs/\eh∉X.ex/\oe.data=.fields ve/\ve[2]?=some .none
theorem HandP.now{X:Cx}{pins:List (Addr×Obj)}{σ:St}{H:Hp}{s:Shared}(h:HandP X)(I:Inv X pins σ H s):∃(eh:Addr)(oe:Obj)(ve:Array Value),X.A.handled=some (.ref eh)/\s.heap.get? eh=some oe/\H eh=none/\eh∉X.fs/\eh < X.s₀.heap.objs.size/\eh∉X.ex/\oe.data=.fields ve/\ve[2]?=some .none:=by
 obtain⟨eh,oe,ve,a1,a2,a3,a4,a5,a6,a7⟩:=h
 exact⟨eh,oe,ve,a1,I.base.keep eh oe a2 a3 a4 a5,I.base.free eh oe a2 a3 a5,a4,uq a2,a5,a6,a7⟩
theorem HandP.lc{X:Cx}{pins:List (Addr×Obj)}{σ:St}{H:Hp}{s:Shared}{scope:Scope}{cl:List (Str×Addr)}{M:List Str}{C:Addr}{fp:List Addr}{E:Value->Shared->Prop}(h:HandP X)(I:Inv X pins σ H s)(hf:∀b∈fp,FpOk X pins H b):HandP (cxLC X scope cl M C s H fp E):=by
 obtain⟨eh,oe,ve,a1,a2,a3,a4,a5,a6,a7,a8⟩:=h.now I
 refine⟨eh,oe,ve,a1,a2,a3,fun z=>?_,fun z=>?_,a7,a8⟩
 ·rcases uu.mp (I.stkSub eh z)with q|q
  ·exact(I.apart a2 a7).1 q
  ·exact a4 q
 ·rcases(hf eh z).2.2.2.1 with q|q
  ·exact a6 q
  ·exact absurd (ux a5 q) (Ub _)
structure TurnC(Cn:Cx->Prop)(P:Program)(w:World)(K:ub)(tg:Expr)(J:It)(fp:List Addr)(it:Addr)(tn:Nat->Heap->Prop):Prop where
 mem:it∈fp
 obj:∀i h,tn i h->∀b∈fp,∃o,h.get? b=some o/\∀v,o.data≠.cell v
 keep:∀i h h',tn i h->(∀b∈fp,∀o,h.get? b=some o->h'.get? b=some o)->tn i h'
 item:∀(X:Cx),X.prog=P->X.w=w->X.K=K->Cn X->∀(i:Nat)(pins:List (Addr×Obj))(s:Shared)(σ:St)(H:Hp)(E:Value->Shared->Prop),Inv X pins σ H s->(∀b∈fp,FpOk X pins H b)->tn i s.heap->J.go i H ->
  wpAny (model P w) X.A (pyNext (.ref it)) (fun r s1=>∃u,r=some u /\
   wpAny (model P w) X.A (letOwnedTupleGo tg (.ref it) u) (fun _ s2=>∃x H',Inv X pins σ H' s2/\RelV x u/\J.yld i H x H'/\tn (i+1) s2.heap/\∀b∈fp,H' b=none) E s1) E s
 done:∀(X:Cx),X.prog=P->X.w=w->X.K=K->Cn X->∀(i:Nat)(pins:List (Addr×Obj))(s:Shared)(σ:St)(H:Hp)(E:Value->Shared->Prop),Inv X pins σ H s->(∀b∈fp,FpOk X pins H b)->tn i s.heap->J.stop i H ->
  wpAny (model P w) X.A (pyNext (.ref it)) (fun r s1=>r=none/\Inv X pins σ H s1) E s
 self:∀(A:Around)(i:Nat)(s:Shared)(Q:Value->Shared->Prop)(E:Value->Shared->Prop),tn i s.heap->Q (.ref it) s->wpAny (model P w) A (pyIter (.ref it)) Q E s
theorem YN{P:Program}{w:World}{K:ub}{tg:Expr}(a it:Addr):TurnC HandP P w K tg (Itl K a) [it] it (fun i h=>h.IsListIter it a i) where
 mem:=by simp
 obj:=fun i h st b hb=>by
  have e:b=it:=by simpa using hb
  subst e
  obtain⟨o,e,c,d⟩:=st
  exact⟨o,e,fun v z=>by rw[d]at z;cases z⟩
 keep:=fun i h h' st k=>st.at fun o e=>k it (by simp) o e
 item:=by
  intro X hP hw hK hc i pins s σ H E I hf st hg
  subst hP hw hK
  obtain⟨xs,x,hq,hx⟩:=hg
  obtain⟨its,rv,p,hz⟩:=I.list hq
  obtain⟨u,hu,ru⟩:=rv.get hx
  obtain⟨f0,f1,f2,f3,f4,f5⟩:=hf it (by simp)
  refine wpAny_pyNext_list_item st p.isList (x:=u) (by simpa using hu) fun h' st' sb=>?_
  have I1:Inv X pins σ H { s with heap:=h' }:=I.turned (t':=s.toks) (fun b o hb e=>(sb.2 b hb).trans e) f0 f1 f3 f4 f5
  obtain⟨o,e,c,d⟩:=id st'
  exact⟨u,rfl,ZE (s:={ s with heap:=h' }) e c d (by decide) ⟨x,H,I1,ru,⟨rfl,fun ys hy=>by rw[I.list_inj hy hq];exact hx⟩,st',fun b hb=>(hf b hb).1⟩⟩
 done:=by
  intro X hP hw hK hc i pins s σ H E I hf st hg
  subst hP hw hK
  obtain⟨xs,hq,hx⟩:=hg
  obtain⟨its,rv,p,hz⟩:=I.list hq
  obtain⟨f0,f1,f2,f3,f4,f5⟩:=hf it (by simp)
  have hl:=rv.length
  obtain⟨eh,oe,ve,a1,a2,a3,a4,a5,a6,a7,a8⟩:=hc.now I
  have hne:eh≠it:=fun z=>by
   rcases f3 with q|q
   ·exact a6 (z ▸ q)
   ·exact absurd (ux a5 (z ▸ q)) (Ub _)
  exact Wd a1 a2 a7 a8 hne st p.isList (by simp;lia) fun h' eb=>⟨rfl,I.turned (t':=s.toks) (fun b o hb e=>eb b o hb e) f0 f1 f3 f4 f5⟩
 self:=fun _ _ _ _ _ st h=>wpAny_pyIter_listiter st h
def PIEH(X:Cx)(pins:List (Addr×Obj))(σ:St)(tg:Expr)(R:It->Hp->Prop)(itv:Value)(s2:Shared):Prop :=
 ∃(it:Addr)(fp:List Addr)(tn:Nat->Heap->Prop)(J:It)(H':Hp),itv=.ref it/\Inv X pins σ H' s2/\TurnC HandP X.prog X.w X.K tg J fp it tn/\tn 0 s2.heap/\(∀b∈fp,FpOk X pins H' b)/\R J H'
def PIH(X:Cx)(tg iter:Expr)(wi:TI):Prop :=
 ∀(pins:List (Addr×Obj))(s:Shared)(σ:St)(H:Hp)(R:It->Hp->Prop),Inv X pins σ H s->wi σ H R ->
  wpAny (model X.prog X.w) X.A (eval iter X.env) (fun v s1=>wpAny (model X.prog X.w) X.A (pyIter v) (PIEH X pins σ tg R) X.xe s1) X.xe s
theorem VR{X:Cx}{tg l:Expr}{tl:TE}(hl:PE X l tl):PIH X tg l (Y7 X.K tl):=by
 intro pins s σ H R I h
 refine thn (hl pins s σ H _ I h) fun v s1 ⟨x,H1,I1,r1,q1⟩=>?_
 obtain⟨a,e,⟨xs,hq⟩,q⟩:=q1
 subst e
 cases r1
 obtain⟨its,rv,p,hz⟩:=I1.list hq
 refine wpAny_pyIter_list p.isList ?_
 refine⟨s1.heap.objs.size,[s1.heap.objs.size],_,_,H1,rfl,I1.kept (t':=s1.toks) fun b o e=>ud _ e,YN a _,⟨_,ut _ rfl,rfl,rfl⟩,fun b hb=>?_,q⟩
 have e:b=s1.heap.objs.size:=by simpa using hb
 subst e
 exact I1.fpOk (ui _) (I1.hok.fresh (ui _))
section
variable{X:Cx}{scope:Scope}{cl:List (Str×Addr)}{S:List Nat}{pins:List (Addr×Obj)}{σ:St}{H:Hp}{s:Shared}{ex:List Addr}{M:List Str}{C:Addr}
theorem VS{tg elt iter:Expr}{ifs:List Expr}{pos:Pos}{g:TG}{tt:TT}{te:TE}{J:It}{fp:List Addr}{it:Addr}{tn:Nat->Heap->Prop}{Q:VK}{E:Value->Shared->Prop}{R:Value->Addr->Result->Shared->Prop}
  {W:Nat->Nat->St->List V->Hp->Prop} {m0:Nat} (L:LcOk X scope cl S) (hc:HandP X) (I:Inv X pins σ H s) (T:TurnC HandP X.prog X.w X.K tg J fp it tn) (st:tn 0 s.heap) (hf:∀b∈fp,FpOk X pins H b)
  (hg:∀C s H ex E,PG (cxLC X scope cl M C s H ex E) tg g) (ht:∀C s H ex E,PTs (cxLC X scope cl M C s H ex E) ifs tt) (he:∀C s H ex E,PE (cxLC X scope cl M C s H ex E) elt te)
  (w0:W 0 m0 (xC S σ++Um M.length none) [] H) (turn:lcBy J g tt te Q W)
  (hR:∀D C s' H' ys m,Inv X pins σ (upd H' D (.lst ys)) s'->FpOk X pins (upd H' D (.lst ys)) C->s'.heap.Ns C m->Q (.ref D) (upd H' D (.lst ys))->R (.ref D) C (.ok .next) s') :
  wpAny (model X.prog X.w) X.A (newList []) (fun acc s₃=>wpAny (model X.prog X.w) X.A (newFunctionEnv scope X.env.globals cl [] X.env.qual none .none (some X.env)) (fun cenv s₄ =>
   codeAny (model X.prog X.w) X.A (.compStart (.ListComp elt [⟨tg,iter,ifs,0⟩] scope pos) 0 (.ref it) acc { cenv with scope:=relabel scope X.env }) (R acc cenv.locals) s₄) E s₃) E s:=by
 refine wpAny_newObj_type (wpAny_newFunctionEnv L.nocell (by intro y hy;simp at hy) (fun h₁ hns₁ hsb₁=>?_) L.kind)
 dsimp only at hns₁ hsb₁ ⊢
 generalize hG:s.heap.push { cls:=.type "list",dict:=none,data:=.seq ([]:List Value).toArray }=G at hns₁ hsb₁ ⊢
 have hC:G.objs.size=s.heap.objs.size+1:=by rw[<- hG,Uf]
 have hDC:s.heap.objs.size≠G.objs.size:=by rw[hC];exact uC (Uv _)
 have hCle:s.heap.objs.size<=G.objs.size:=by rw[hC];exact U2 _
 have old:∀b o,s.heap.get? b=some o->h₁.get? b=some o:=fun b o e =>
  hsb₁.extBut b o (by rw[hC];exact uC (Tb (uq e))) (ud _ (hG ▸ ud _ e))
 have hacc:h₁.get? s.heap.objs.size=some { cls:=.type "list",data:=.seq ([]:List Value).toArray }:=hsb₁.extBut _ _ hDC (ud _ (hG ▸ ut _ rfl))
 have fpo:∀b∈fp,b < s.heap.objs.size:=fun b hb=>let ⟨o,e,_⟩:=T.obj 0 _ st b hb;uq e
 have st1:tn 0 h₁:=T.keep 0 _ _ st fun b _ o e=>old b o e
 have nofs:s.heap.objs.size∉frs X.stack:=fun z=>by
  rcases uu.mp (I.stkSub _ z)with q|q
  ·exact absurd (q ▸ I.lt) (Ub _)
  ·exact I.nofs (ui _) q
 have nocl:∀y c,cl.lookup y=some c->c≠s.heap.objs.size:=fun y c e z=>by
  obtain⟨v,o,ho,_⟩:=I.cell y c (L.sub.get e)
  exact absurd (z ▸ uq ho) (Ub _)
 have loop:∀s₃:Shared,s₃={ s with heap:=h₁,toks:=s.toks+([]:List (Str×Value)).length } ->
   codeAny (model X.prog X.w) X.A (.compLoop (.ListComp elt [⟨tg,iter,ifs,0⟩] scope pos) 0 (.ref it) (.ref s.heap.objs.size) (compEnvC scope cl G.objs.size X.env)) (R (.ref s.heap.objs.size) G.objs.size) s₃:=by
  rintro s₃ rfl
  generalize hE:notedBy (model X.prog X.w) X.A (compEnvC scope cl G.objs.size X.env) (fun e s'=>R (.ref s.heap.objs.size) G.objs.size (.error e) s')=E'
  have IY:Inv (cxLC X scope cl M G.objs.size s H fp E') [] (xC S σ++Um M.length none) H { s with heap:=h₁,toks:=s.toks+([]:List (Str×Value)).length }:=ZI I L hf fpo old hCle hns₁
  refine codeAny_loop rfl (fun n s'=>∃(i:Nat)(τ:St)(H':Hp)(ys:List V)(its:List Value)(k:Nat),Inv (cxLC X scope cl M G.objs.size s H fp E') [] τ H' s'/\tn i s'.heap/\(∀b∈fp,H' b=none) /\
   s'.heap.get? s.heap.objs.size=some { cls:=.type "list",data:=.seq its.toArray k }/\H' s.heap.objs.size=none/\Vals ys its/\ys.length<=sizeLine/\W i n τ ys H') (fun n s' hI=>?_) m0
   ⟨0,_,H,[],[],_,IY,st1,fun b hb=>(hf b hb).1,hacc,I.hok.fresh (ui _),.nil,uW _,w0⟩
  obtain⟨i,τ,H1,ys,its,k,I1,st1,fr1,eD,fD,rv,hz,w1⟩:=hI
  show wpAny _ X.A ((compTurn (.ListComp elt [⟨tg,iter,ifs,0⟩] scope pos) 0 (.ref it) (.ref s.heap.objs.size) (compEnvC scope cl G.objs.size X.env)).onRaise (fun x=>do noteFrame x (compEnvC scope cl G.objs.size X.env);theTreesLotGoes x)) _ _ s'
  refine wpAny_noted ?_
  rw[hE,compTurn_list]
  have I1':Inv (cxLC X scope cl M G.objs.size s H fp E') [(s.heap.objs.size,{ cls:=.type "list",data:=.seq its.toArray k })] τ H1 s':=I1.pins_of fun p hp=>by
   have e:p=(s.heap.objs.size,{ cls:=.type "list",data:=.seq its.toArray k }):=by simpa using hp
   subst e
   exact⟨eD,fD,hDC,nofs,(fun v z=>nomatch z)⟩
  have stat:∀{H':Hp},(∀b∈fp,H' b=none)->∀b∈fp,FpOk (cxLC X scope cl M G.objs.size s H fp E') [(s.heap.objs.size,{ cls:=.type "list",data:=.seq its.toArray k })] H' b:=fun hn b hb=>by
   refine⟨hn b hb,?_,?_,.inl hb,fun x c e=>(hf b hb).2.2.2.2.1 x c (L.sub.get e),fun p hp z=>?_⟩
   ·exact uC (ux (fpo b hb) hCle)
   ·intro z
    rcases uu.mp (I.stkSub b z)with q|q
    ·exact(hf b hb).2.1 q
    ·exact(hf b hb).2.2.1 q
   ·have e:p=(s.heap.objs.size,{ cls:=.type "list",data:=.seq its.toArray k }):=by
     have hp':p∈[(s.heap.objs.size,({ cls:=.type "list",data:=.seq its.toArray k }:Obj))]:=hp
     simpa using hp'
    subst e
    exact absurd (z ▸ fpo b hb) (Ub _)
  refine wpAny_bind (wpAny_standAt (wpAny_bind ?_))
  rcases turn i n τ ys H1 w1 with⟨stop,q⟩|⟨go,N,hN,step⟩
  ·refine thn (T.done (cxLC X scope cl M G.objs.size s H fp E') rfl rfl rfl (hc.lc I hf) i _ s' τ H1 E' I1' (stat fr1) st1 stop) fun r s4 ⟨hr,I4⟩=>?_
   subst hr
   refine wpAny_pure ?_
   obtain⟨eD4,_,_⟩:=I4.pin (s.heap.objs.size,{ cls:=.type "list",data:=.seq its.toArray k }) (uG _ uP)
   have base4:Un (frs X.stack) fp H H1 s.heap s4.heap:=I4.base
   have un:Un (frs X.stack) fp H (upd H1 s.heap.objs.size (.lst ys)) s.heap s4.heap:=⟨base4.keep,base4.slot,fun b o e n hx=>by rw[zm (uC (uq e))];exact base4.free b o e n hx,base4.there,
    fun b xs e=>by rw[zm (zr (base4.tups b xs e) fD)];exact base4.tups b xs e,fun b o u e=>by rw[zm (zr (base4.frzs b o u e) fD)];exact base4.frzs b o u e,
    fun b ps e=>by
     obtain⟨more,w⟩:=base4.tbls b ps e
     exact⟨more,by rw[zm (zr w fD)];exact w⟩⟩
   have hok:HOk X.prog X.w (upd H1 s.heap.objs.size (.lst ys)) s4.heap:=fun b u e=>by
    by_cases hb:b=s.heap.objs.size
    ·subst hb
     rw[zg]at e
     cases e
     exact⟨hz,its,k,rv,eD4⟩
    ·rw[zm hb]at e
     exact(I4.hok b u e).stay (fun c v _ q=>q) (fun c q=>by rw[zm (zr q fD)];exact q) fun c xs q=>by rw[zm (zr q fD)];exact q
   have IX:Inv X pins σ (upd H1 s.heap.objs.size (.lst ys)) s4:=I.call' I4.os un hok I4.bare fun b hb=>⟨(hf b hb).2.2.2.1,(hf b hb).2.1,(hf b hb).2.2.2.2.1,(hf b hb).2.2.2.2.2⟩
   have fC:H1 G.objs.size=none:=I4.free
   obtain⟨m4,n4,_⟩:=I4.loc
   exact hR _ _ s4 H1 ys m4 IX (I.fpOk hCle (by rw[zm (Ne.symm hDC)];exact fC)) n4 (q _ fD)
  ·refine thn (T.item (cxLC X scope cl M G.objs.size s H fp E') rfl rfl rfl (hc.lc I hf) i _ s' τ H1 E' I1' (stat fr1) st1 go) fun r s4 ⟨u,hr,h4⟩=>?_
   subst hr
   refine wpAny_bind (thn h4 fun _ s5 ⟨x,H5,I5,r5,y5,st5,fr5⟩=>?_)
   have I5':=I5.pinned (stat fr5) (T.obj _ _ st5)
   have kept:∀{τ6:St}{H6:Hp}{s6:Shared},Inv (cxLC X scope cl M G.objs.size s H fp E') ([(s.heap.objs.size,{ cls:=.type "list",data:=.seq its.toArray k })]++wH fp s5.heap) τ6 H6 s6 ->
     Inv (cxLC X scope cl M G.objs.size s H fp E') [] τ6 H6 s6/\tn (i+1) s6.heap/\(∀b∈fp,H6 b=none)/\s6.heap.get? s.heap.objs.size=some { cls:=.type "list",data:=.seq its.toArray k }/\H6 s.heap.objs.size=none:=fun{τ6 H6 s6} I6=>by
    have pin:∀b∈fp,∀o,s5.heap.get? b=some o->s6.heap.get? b=some o/\H6 b=none:=fun b hb o e =>
     let w:=I6.pin (b,o) (uG _ (uG _ (xx hb e)))
     ⟨w.1,w.2.1⟩
    have pD:=I6.pin (s.heap.objs.size,{ cls:=.type "list",data:=.seq its.toArray k }) (uG _ (Ui _ uP))
    refine⟨I6.pins_of (fun p hp=>nomatch hp),T.keep _ _ _ st5 fun b hb o e=>(pin b hb o e).1,fun b hb=>?_,pD.1,pD.2.1⟩
    obtain⟨o,e,_⟩:=T.obj _ _ st5 b hb
    exact(pin b hb o e).2
   refine wpAny_bind (thn (hg _ _ _ _ _ _ s5 τ H5 x u _ I5' r5 (step x H5 y5)) fun _ s6 ⟨σ6,H6,I6,q6⟩=>?_)
   refine wpAny_bind (thn (ht _ _ _ _ _ _ s6 σ6 H6 _ I6 q6) fun ok s7 ⟨H7,I7,q7⟩=>?_)
   cases ok with
   |false =>
    have q7':N σ6 ys H7:=by simpa using q7
    obtain⟨m',hm,w7⟩:=hN _ _ _ q7'
    obtain⟨K1,K2,K3,K4,K5⟩:=kept I7
    exact wpAny_pure ⟨rfl,m',hm,i+1,σ6,H7,ys,its,k,K1,K2,K3,K4,K5,rv,hz,w7⟩
   |true =>
    have q7':te σ6 H7 fun y H4=>ys.length < sizeLine/\N σ6 (ys++[y]) H4:=by simpa using q7
    refine wpAny_bind (wpAny_bind (thn (he _ _ _ _ _ _ s7 σ6 H7 _ I7 q7') fun y s8 ⟨v8,H8,I8,r8,hz8,n8⟩=>?_))
    obtain⟨m',hm,w8⟩:=hN _ _ _ n8
    obtain⟨K1,K2,K3,K4,K5⟩:=kept I8
    have hl:=rv.length
    refine wpAny_bind (wpAny_list_append_plain (hsz:=by rw[uo];lia) ⟨k,K4⟩ fun h9 hl9 hs9=>wpAny_pure (wpAny_pure ⟨rfl,m',hm,?_⟩))
    obtain⟨k9,e9⟩:=hl9
    have I9:Inv (cxLC X scope cl M G.objs.size s H fp E') [] σ6 H8 { s8 with heap:=h9 }:=K1.turned (t':=s8.toks) (it:=s.heap.objs.size) (fun b o hb e=>(hs9.2 b hb).trans e) K5 hDC (.inr (ui _))
     (fun y c e=>nocl y c e) fun p hp=>nomatch hp
    refine⟨i+1,σ6,H8,ys++[v8],its++[y],k9,I9,T.keep _ _ _ K2 fun b hb o e=>(hs9.2 b (uC (fpo b hb))).trans e,K3,?_,K5,rv.append (.cons r8 .nil),?_,w8⟩
    ·rw[e9]
     simp
    ·rw[uc,UK]
     lia
 exact codeAny_compStart_list (loop _ rfl) (T.self X.A 0 _ _ _ st1 (loop _ rfl))
variable{tg elt iter:Expr}{ifs:List Expr}{pos:Pos}{wi:TI}{g:TG}{tt:TT}{te:TE}
theorem zb4(L:LcOk X scope cl S)(hc:HandP X)(hi:PIH X tg iter wi)(hg:∀C s H ex E,PG (cxLC X scope cl M C s H ex E) tg g)(ht:∀C s H ex E,PTs (cxLC X scope cl M C s H ex E) ifs tt)(he:∀C s H ex E,PE (cxLC X scope cl M C s H ex E) elt te)
  (hs:∀x,foldedSetIterable iter X.env x=pure x:=by intro _;rfl):PE X (.ListComp elt [⟨tg,iter,ifs,0⟩] scope pos) (tLCS S wi g tt te M.length):=by
 intro pins s σ H Q I h
 rw[eval_ListComp]
 refine wpAny_comprehension_free (use:=none) rfl hs L.clos L.kind L.locs (thn (hi pins s σ H _ I h) fun v s1 h1=>thn h1 fun itv s2 h2=>?_)
 obtain⟨it,fp,tn,J,H2,rfl,I2,T,st2,f2,W,⟨m0,w0⟩,turn⟩:=h2
 refine VS (R:=fun acc C=>compPost (model X.prog X.w) X.A X.xe none (EP X pins σ Q) acc C) L hc I2 T st2 f2 hg ht he w0 turn ?_
 intro D C s' H' ys m IX fC ns q
 exact⟨m,ns,fun h' sb=>⟨.ref D,_,IX.turned (t':=s'.toks) (fun b o hb e=>(sb.2 b hb).trans e) fC.1 fC.2.1 fC.2.2.2.1 fC.2.2.2.2.1 fC.2.2.2.2.2,rfl,q⟩⟩
end
section
variable{X:Cx}{scope:Scope}{M:List Str}{tg elt l:Expr}{ifs:List Expr}{pos:Pos}{tl:TE}{g:TG}{tt:TT}{te:TE}
theorem VT(M:List Str)(hc:HandP X)(hl:jE X l tl)(hg:∀C s H ex E,jG (cxLC X scope (clOf scope X.env) M C s H ex E) tg g)(ht:∀C s H ex E,jTs (cxLC X scope (clOf scope X.env) M C s H ex E) ifs tt)
  (he:∀C s H ex E,jE (cxLC X scope (clOf scope X.env) M C s H ex E) elt te) (hs:∀x,foldedSetIterable l X.env x=pure x:=by intro _;rfl)
  (h1:closureFor scope X.env=pure (clOf scope X.env):=by with_unfolding_all rfl) (h2:scope.kind=.function:=by rfl) (h3:scope.names.all (fun y=>y.2 != .cell)=true:=by rfl) (h4:scope.names.all (fun y=>y.2 != .local || scope.names.lookup y.1 == some .local)=true:=by rfl)
  (h5:X.N.all (fun y=>scope.names.lookup y != some .local)=true:=by rfl) (h6:scope.names.all (fun p=>p.2 != .free || (((clOf scope X.env).lookup p.1).isSome && (X.env.kindOf p.1 == some .cell || X.env.kindOf p.1 == some .free)))=true:=by rfl) :
  jE X (.ListComp elt [⟨tg,l,ifs,0⟩] scope pos) (tLC (Y7 X.K tl) g tt te M.length):=⟨zb4 (lcOk h1 h2 h3 h4 h5 h6) hc (VR hl.out) (fun C s H ex E=>(hg C s H ex E).out) (fun C s H ex E=>(ht C s H ex E).out) (fun C s H ex E=>(he C s H ex E).out) hs⟩
end
structure RoomH(k:Nat)(A:Around):Prop where
 dp:A.depth+3*k+5 < recursionLimit
 un:A.units+16*k+200 < cLine
theorem RoomH.deeper{k:Nat}{A:Around}(r:RoomH (k+1) A)(env:Env):RoomH k (A.deeper env) :=
 ⟨by have:=r.dp;show A.depth+1+3*k+5 < _;lia,by have:=r.un;show A.units+3+16*k+200 < _;lia⟩
theorem Room.h{k:Nat}{A:Around}(r:Room k A)(u:Option Value):RoomH k (A.mark u):=⟨r.dp,r.un⟩
structure Hnd(A:Around)(outer:List Env)(s:Shared)(H:Hp)(e:Addr)(oe:Obj):Prop where
 h:A.handled=some (.ref e)
 g:s.heap.get? e=some oe
 n:H e=none
 f:e∉frs outer
 d:∃ve:Array Value,oe.data=.fields ve/\ve[2]?=some .none
structure FnOkH(P:Program)(w:World)(K:ub)(mg:Str->Option Value)(base:Heap)(k:Nat)(f:Addr)(fd:FuncData)(ps:List Str)(sp:Addr->Obj->Sp):Prop where
 len:∀e oe vs H Q E,sp e oe vs H Q E->vs.length=ps.length
 run:∀(A:Around)(outer:List Env)(s:Shared)(H:Hp)(args:Args)(us:List Value)(vs:List V)(Q:VK)(e:Addr)(oe:Obj),RoomH k A->Env0 P w K mg base A outer s H->Hnd A outer s H e oe->BindsTo s fd args (ps.zip us)->Vals vs us->sp e oe vs H Q E0 ->
  codeAny (model P w) A (.call (.ref f) args) (CR CX0 outer P w H s Q E0) s
abbrev jw(P:Program)(w:World)(K:ub)(mg:Str->Option Value)(base:Heap)(N:List Str)(qual:Str)(scope:Scope)(f:Addr)(cd:Value)(A:Around)(outer:List Env)(s:Shared)(H:Hp):Cx :=
 { cxOf CX0 P w K mg base N qual scope f cd A outer s H E0 with calm:=false,xe:=fun _ _=>False }
theorem YO{P:Program}{w:World}{K:ub}{mg:Str->Option Value}{base:Heap}{N ps:List Str}{qual:Str}{scope:Scope}{f:Addr}{cd:Value}{A:Around}{outer:List Env}{s s1:Shared}{H:Hp}{us:List Value}{vs:List V}
  (S:FnScope N ps scope) (e0:Env0 P w K mg base A outer s H) (hl:vs.length=ps.length) (r:Vals vs us)
  (x:InCallC s s.heap.objs.size (bindL (envOfC qual scope s.heap.objs.size f cd).kindOf (ps.zip us) fun _=>none) (cellsFrom (s.heap.objs.size+1) scope.names []) (bindC (envOfC qual scope s.heap.objs.size f cd).kindOf (ps.zip us) fun _=>none) s1) :
  Inv (jw P w K mg base N qual scope f cd A outer s H) [] (yU N vs) H s1:=by
 have I0:Inv { cxOf CX0 P w K mg base N qual scope f cd { A with handled:=none } outer s H E0 with xe:=fun _ _=>False } [] (yU N vs) H s1:=by
  have J:=jl (CX:=CX0) (E:=E0) (A:={ A with handled:=none }) S rfl (⟨e0.frames,e0.mod,e0.bs,e0.bsz,e0.funs,e0.frf,e0.hok,e0.bare⟩:Env0 P w K mg base { A with handled:=none } outer s H) hl r x
  exact⟨⟨J.ok.mod,J.ok.kind,J.ok.glob,J.ok.blt,J.ok.above,J.ok.inj,J.ok.has,J.ok.cab,J.ok.hd,J.ok.frames,J.ok.stk,J.ok.exf,J.ok.bs,J.ok.bsz,J.ok.noex,J.ok.exfs,J.ok.funs,J.ok.frf⟩,J.os,J.bare,J.base,J.loc,J.cell,J.free,J.freeC,J.pin,J.hok,J.len⟩
 exact⟨⟨I0.ok.mod,I0.ok.kind,I0.ok.glob,I0.ok.blt,I0.ok.above,I0.ok.inj,I0.ok.has,I0.ok.cab,(fun z=>nomatch z),I0.ok.frames,I0.ok.stk,I0.ok.exf,I0.ok.bs,I0.ok.bsz,I0.ok.noex,I0.ok.exfs,I0.ok.funs,I0.ok.frf⟩,I0.os,I0.bare,I0.base,I0.loc,I0.cell,I0.free,I0.freeC,I0.pin,I0.hok,I0.len⟩
theorem Fun.byH{P:Program}{w:World}{K:ub}{mg:Str->Option Value}{base:Heap}{x qual:Str}{st:Stmt}{f:Addr}{fd:FuncData}{N ps:List Str}{k:Nat}{sp:Addr->Obj->Sp}(F:Fun K x qual st f fd)(S:FnScope N ps (zn st))(len:∀e oe vs H Q E,sp e oe vs H Q E->vs.length=ps.length)
  (hbody:∀(cdv:Value)(A:Around)(outer:List Env)(s:Shared)(H:Hp)(vs:List V)(Q:VK)(e:Addr)(oe:Obj),RoomH k (A.deeper (envOfC qual (zn st) s.heap.objs.size f cdv))->sp e oe vs H Q E0->Hnd A outer s H e oe ->
   ∃t,jSs (jw P w K mg base N qual (zn st) f cdv A outer s H) (z9 st) t/\t { nx:=fun _ H'=>Q .non H',rt:=Q } (yU N vs) H):FnOkH P w K mg base (k+1) f fd ps sp:=by
 obtain⟨oc,od,kV,doc,pm,an,cdv,ct,osl,rfl,lk,hcd⟩:=F.ex
 refine⟨len,fun A outer s H args us vs Q e oe hr e0 hn hb r hsp=>?_⟩
 have hl:=len _ _ _ _ _ _ hsp
 have KX:K.In s.heap:=e0.mod.kin.keeps fun b o e=>(e0.bs b o e).1
 have lim:s.heap.NoLimit:=e0.mod.nolimit.keeps fun b o e=>(e0.bs b o e).1
 have hkind:∀y∈ps.zip us,(zn st).names.lookup y.1=some .local\/((zn st).names.lookup y.1=some .cell/\((cellsFrom (s.heap.objs.size+1) (zn st).names []).lookup y.1).isSome=true):=fun⟨n,v⟩ hy=>by
  rcases S.par n (List.of_mem_zip hy).1 with q|q
  ·exact .inl q
  ·exact .inr ⟨q,Ta _ _ _ (.inl q)⟩
 refine codeAny_call_function (by have:=hr.dp;lia) (KX _ _ lk) rfl S.co S.gen rfl (PySem.W.codeRec_of KX hcd) (hb _ _ _ _ ?_)
 refine wpAny_newFunctionEnv_cells S.kind hkind fun env he s1 x=>?_
 subst he
 refine⟨lim.keeps x.toInCall.keep,codeAny_func ?_⟩
 obtain⟨t,ht,hq⟩:=hbody cdv A outer s H vs Q e oe (hr.deeper _) hsp hn
 have I:Inv (jw P w K mg base N qual (zn st) f cdv A outer s H) [] (yU N vs) H s1:=YO S e0 hl r x
 refine wpAny_mono (ht.out [] s1 (yU N vs) H _ I hq) (fun fl s' hs=>?_) fun e s' hs=>False.elim hs
 have fin:∀{σ':St}{H':Hp}{v:V}{u:Value},Inv (jw P w K mg base N qual (zn st) f cdv A outer s H) [] σ' H' s'->RelV v u->Q v H'->CE outer P w H s Q u s' :=
  fun{σ' H' v u} J rv q=>⟨v,H',J.os,J.bare,J.base,J.hok,rv,q⟩
 cases fl with
 |ret u =>
  obtain⟨v,σ',H',J,rv,q⟩:=hs
  exact fin J rv q
 |next =>
  obtain⟨σ',H',J,q⟩:=hs
  exact fin (v:=V.non) (u:=Value.none) J rfl q
 |brk =>
  obtain⟨_,_,_,q⟩:=hs
  exact False.elim q
 |cont =>
  obtain⟨_,_,_,q⟩:=hs
  exact False.elim q
theorem Hnd.p{P:Program}{w:World}{K:ub}{mg:Str->Option Value}{base:Heap}{N:List Str}{qual:Str}{scope:Scope}{f:Addr}{cd:Value}{A:Around}{outer:List Env}{s:Shared}{H:Hp}{e:Addr}{oe:Obj}(h:Hnd A outer s H e oe):HandP (jw P w K mg base N qual scope f cd A outer s H) :=
 let ⟨ve,d1,d2⟩:=h.d;⟨e,oe,ve,h.h,h.g,h.n,h.f,(fun z=>absurd (show e∈([]:List Addr)from z) (by simp)),d1,d2⟩
structure CaH(P:Program)(w:World)(K:ub)(mg:Str->Option Value)(base:Heap)(k:Nat)(x:Str)(ps:List Str)(sp:Addr->Obj->Sp):Prop where
 ex:∃f fd,FnOkH P w K mg base k f fd ps sp/\Binds K fd ps []/\Ud K (.ref f)=true/\mg x=some (.ref f)
theorem DfIn.caH{P:Program}{w:World}{K:ub}{mg:Str->Option Value}{base h:Heap}{k:Nat}{x:Str}{st:Stmt}{ps:List Str}{sp:Addr->Obj->Sp}(X:K.In h)(G:h.Ns mainGlobals mg)(d:DfIn K x st)(hb:∀(kV doc pm:Value)(an:Option Addr)(cdv ct:Value)(us:List Value),us.length=ps.length->bindArgs (Uw x x (yr st) (z9 st) (zn st) .none kV doc pm an cdv ct) ⟨us,[]⟩=pure (ps.zip us))
  (ok:∀f fd,Fun K x x st f fd->FnOkH P w K mg base k f fd ps sp):CaH P w K mg base k x ps sp:=by
 obtain⟨f,a,g⟩:=d
 obtain⟨fd,F,kp⟩:=g.fn
 exact⟨f,fd,ok f fd F,F.binds hb,kp,Uk X G a⟩
def tCaH(e:Addr)(oe:Obj)(sp:Addr->Obj->Sp)(t:TA):TE:=fun σ H Q=>t σ H fun vs H1=>(∃ve:Array Value,oe.data=.fields ve/\ve[2]?=some .none)/\sp e oe vs H1 Q E0
theorem zb5{X:Cx}{k:Nat}{x:Str}{ps:List Str}{sp:Addr->Obj->Sp}{p pos:Pos}{a:Expr}{as:List Expr}{t:TA}{e:Addr}{oe:Obj}(F:CaH X.prog X.w X.K X.mg X.base k x ps sp)(hr:RoomH k X.A)(hg:Gl X x)(hh:X.A.handled=some (.ref e))(hp:(e,oe)∈X.pn)(ha:jA X (a::as) t)
  (hdb:(x == ("__debug__":Str))=false:=by decide) (h1:zt a=false:=by rfl) (h2:as.all (fun e=>!zt e)=true:=by rfl):jE X (.Call (.Name x p) (a::as) [] pos) (tCaH e oe sp t):=by
 constructor
 intro pins s σ H Q I h
 obtain⟨f,fd,G,hb,hk,hm⟩:=F.ex
 refine wpAny_Call_Name_kw (xu I hg hm ?_ hdb)
 refine tD (h₀:=X.base) I.ok.mod.kin hk (thn (ha.out pos pins s σ H _ I h) fun us s1 ⟨vs,H1,I1,r,hd,q⟩=>⟨I1.kIn,?_⟩) (zD h1) (yq h2)
 have hlen:us.length=ps.length:=by rw[<- r.length];exact G.len _ _ _ _ _ _ q
 have bd:=hb s1 us I1.kIn (by rw[uO];exact hlen)
 rw[uO]at bd
 obtain⟨p1,p2,p3,p4,p5⟩:=I1.pin (e,oe) (Ui _ hp)
 have hn:Hnd X.A X.stack s1 H1 e oe:=⟨hh,p1,p2,fun z=>(uu.mp (I1.stkSub e z)).elim p3 p4,hd⟩
 refine wpAny_call (codeAny_mono (G.run X.A X.stack s1 H1 ⟨us,[]⟩ us vs Q e oe hr I1.env0 hn bd r q) fun r s' hq=>?_)
 cases r with
 |error e=>exact False.elim hq
 |ok fl =>
  cases fl with
  |ret u=>exact I1.after hq
  |next=>exact False.elim hq
  |brk=>exact False.elim hq
  |cont=>exact False.elim hq
end L2
namespace PySem.W
open PySem PySem.Spec PySem.Calls PyProof.Rows
section
variable{prog:Program}{w:World}{A:Around}{E:Value->Shared->Prop}{s:Shared}{K:Frag}{e C:Addr}{ox od:Obj}
theorem VU{Q:Option Value->Shared->Prop}(X:K.In s.heap)(I:InstAt s.heap e ox C (some od))(hga:findIn K (.ref C) "__getattribute__"=some (some (.builtin "BaseException.__getattribute__")))(hk:findIn K (.ref C) "__getattr__"=some none)
  (hb:subIn K (.ref C) (.type "BaseException")=some true) (hf:findObj K C (some od) "__class__"=some (.bind (.builtin "getset_descriptor.__get__") (.builtin "object.__class__"))) (hm:mroIn K C (.type "object")=some true)
  (h:Q (some (.ref C)) { s with toks:=s.toks+1 }):wpAny (model prog w) A (getAttr? (.ref e) "__class__") Q E s:=by
 have ty:=I.type (M:=model prog w)
 have fd:=looks_find (M:=model prog w) X I hf
 unfold getAttr? getAttrBy?
 refine wpAny_bind (wpAny_mkText (wpAny_bind (wpAny_attempt ?_)))
 refine wpAny_holding (wpAny_bind (ty _ _ _ _ (fun _ _ q=>q) (wpAny_bind (looks_findIn X hga _ _ _ _ (fun _ _ q=>q) ?_))))
 dsimp only
 rw[show(onTheHeap (Value.ref C) && Value.builtin "BaseException.__getattribute__" == Value.builtin "object.__getattribute__")=false from by rw[show(Value.builtin "BaseException.__getattribute__" == Value.builtin "object.__getattribute__")=false from by decide +kernel,tf],if_neg (by decide:¬ (false=true))]
 refine wpAny_bind ((looks_hook (mc:=.ref C) X (by rw[if_pos (show onTheHeap (.ref C)=true from rfl)];exact hk)) _ _ _ _ (fun _ _ q=>q) (wpAny_bind (wpAny_attempt (wpAny_holding ?_))))
 unfold callGetattribute
 rw[show(false && onTheHeap (Value.builtin "BaseException.__getattribute__"))=false from rfl,if_neg (by decide:¬ (false=true))]
 unfold boundAndCalled
 rw[L2.xg_slot.bind]
 refine wpAny_bind (wpAny_pure (wpAny_call (codeAny_call_builtin L2.xg_slot.plain PySem.F.entry_bexc_ga ?_)))
 refine @check_slot (model prog w) _ _ { s with toks:=s.toks+1 } "BaseException.__getattribute__" "BaseException" "__getattribute__" (.ref e) [.str "__class__" s.toks] [] _ (by decide +kernel) (by decide +kernel) (ty.andThen (looks_subIn X hb)) (PySem.F.args_bexc_ga (.ref e) (.str "__class__" s.toks)) ?_
 refine wpAny_bind (wpAny_pure (wpAny_bind (wpAny_pure (wpAny_bind (ty _ _ _ _ (fun _ _ q=>q) (wpAny_bind (fd _ _ _ _ (fun _ _ q=>q) ?_)))))))
 show wpAny _ _ (holding [Value.builtin "object.__class__"] (call (.builtin "getset_descriptor.__get__") [.builtin "object.__class__",.ref e,.ref C]) >>= ret) _ _ _
 refine wpAny_bind (wpAny_holding (wpAny_call (class_get (s:={ s with toks:=s.toks+1 }) X I hm ?_)))
 refine wpAny_pure ?_
 show wpAny _ _ (handedOut (.ref C)) _ _ _
 rw[handedOut_of rfl]
 exact wpAny_pure (wpAny_pure h)
end
structure XIs(K:Frag)(C:Addr):Prop where
 ga:findIn K (.ref C) "__getattribute__"=some (some (.builtin "BaseException.__getattribute__"))
 ha:findIn K (.ref C) "__getattr__"=some none
 sb:subIn K (.ref C) (.type "BaseException")=some true
 hd:hasDictIn K C=true
 cl:findIn K (.ref C) "__class__"=some (some (.builtin "object.__class__"))
 gs:specialIn K (.builtin "object.__class__") "__get__"=some (some (.builtin "getset_descriptor.__get__"))
 tk:takesIn K (.builtin "object.__class__")=some true
 mo:mroIn K C (.type "object")=some true
theorem kitx_exc{K:Frag}{x D:Addr}{ox od:Obj}(c:XIs K D):KitX K (.ref x) (.ref D) (fun h=>InstAt h x ox D (some od)) where
 ty:=fun _ _ _ I=>I.type
 it:=fun _ _ X _=>by
  obtain⟨cdD,hcD,_⟩:=any_some c.hd
  unfold clsIn at hcD
  split at hcD
  ·rename_i c' d' cd' sl' ho
   intro A' Q' E' s' k q
   unfold isType loadHead
   exact wpAny_bind (wpAny_loadPart (k _ _ (X _ _ ho)) (wpAny_pure q))
  ·cases hcD
 ne:=fun h tp dd its n sl X htp=>by
  obtain⟨cdD,hcD,_⟩:=any_some c.hd
  refine Bool.eq_false_iff.mpr fun q=>?_
  have e:D=tp:=Value.ref.inj (beq_iff_eq.mp q)
  subst e
  unfold clsIn at hcD
  split at hcD
  ·rename_i c' d' cd' sl' ho
   have z:=(X _ _ ho).symm.trans htp
   cases z
  ·cases hcD
 ca:=fun X I k=>VU X I c.ga c.ha c.sb (findObj_data (by obtain⟨cd,hc,_⟩:=any_some c.hd;rw[hc];rfl) c.cl c.gs c.tk) c.mo k
end PySem.W
namespace L2
open PySem PySem.Spec PyProof.Rows
theorem zb6{X:Cx}{e C d:Addr}{oe:Obj}{D:V}{c:Value}(hh:∀pins σ H s,Inv X pins σ H s->s.heap.get? e=some oe)(hx:PySem.W.XIs X.K C)(hD:RelV D c)(hu:∀c',RelV D c'->c'=c):
  jCa X (.builtin "isinstance") (fun xs H Q=>xs=[.ref e,D]/\oe.cls=.ref C/\oe.dict=some d/\(∃vs,oe.data=.fields vs)/\(∃fs,H d=some (XD d fs))/\∃b,Uz X.K (.ref C) c=some b/\Q (.bl b) H):=by
 constructor
 intro pins s σ H xs us Q I r h
 obtain⟨rfl,hc,hdx,⟨vs,hd⟩,⟨fs,hdo⟩,b,hk,q⟩:=h
 obtain⟨u,u',rfl,r1,r2⟩:=vx r
 cases r1
 obtain rfl:=hu _ r2
 obtain⟨mA,⟨od,es,ep,ho,_⟩,_⟩:=XD.get I.hok hdo
 have J:PySem.W.InstAt s.heap e oe C (some od):=⟨hh _ _ _ _ I,hc,by unfold PySem.W.notCls;rw[hd],by rw[hdx];exact ho⟩
 exact PySem.W.kia_one (PySem.W.kitx_exc hx) I.kIn J hk (fun z=>nomatch z) fun tk=>⟨.bl b,H,I.tok tk,rfl,q⟩
section
variable{prog:Program}{w:World}{A:Around}{E:Value->Shared->Prop}{h:Heap}{g:Array GenState}{d:Drawn}{t:Nat}{os:OsState}
variable{nm q:Str}{C N:Addr}{bs bm bmB:List Value}{hdct:Bool}{sn:List Str}{sub:List Value}{ab:Bool}{col:Option Bool}{dd:Option Addr}{k0 k1 k2 k3 k5:Option Value}{B Bn newId nid initId inN:String}{bmN:List Value}
end
section
variable{X:Cx}{k:Nat}{C:Addr}{E:XK}{x:Str}{np cpos pos:Pos}
end
end L2
namespace PySem.W
open PySem PySem.Spec PySem.Calls PyProof.Rows
theorem v9{K:Frag}{C:Addr}{od:Option Obj}{name:Str}{a g:Value}(hc:(clsIn K C).isSome=true)(ha:findIn K (.ref C) name=some (some a))(hg:specialIn K a "__get__"=some (some g))(ht:takesIn K a=some true):findObj K C od name=some (.bind g a):=by
 obtain⟨cd,hc⟩:=U7.mp hc
 unfold findObj
 rw[hc,uz,ha,uz]
 simp[hg,ht]
section
variable{prog:Program}{w:World}{A:Around}{E:Value->Shared->Prop}{s:Shared}{K:Frag}{e C:Addr}{ox:Obj}{od:Option Obj}
theorem We{Q:Option Value->Shared->Prop}(X:K.In s.heap)(I:InstAt s.heap e ox C od)(hga:findIn K (.ref C) "__getattribute__"=some (some (.builtin "BaseException.__getattribute__")))(hk:findIn K (.ref C) "__getattr__"=some none)
  (hb:subIn K (.ref C) (.type "BaseException")=some true) (hf:findObj K C od "__class__"=some (.bind (.builtin "getset_descriptor.__get__") (.builtin "object.__class__"))) (hm:mroIn K C (.type "object")=some true)
  (h:Q (some (.ref C)) { s with toks:=s.toks+1 }):wpAny (model prog w) A (getAttr? (.ref e) "__class__") Q E s:=by
 have ty:=I.type (M:=model prog w)
 have fd:=looks_find (M:=model prog w) X I hf
 unfold getAttr? getAttrBy?
 refine wpAny_bind (wpAny_mkText (wpAny_bind (wpAny_attempt ?_)))
 refine wpAny_holding (wpAny_bind (ty _ _ _ _ (fun _ _ q=>q) (wpAny_bind (looks_findIn X hga _ _ _ _ (fun _ _ q=>q) ?_))))
 dsimp only
 rw[show(onTheHeap (Value.ref C) && Value.builtin "BaseException.__getattribute__" == Value.builtin "object.__getattribute__")=false from by rw[show(Value.builtin "BaseException.__getattribute__" == Value.builtin "object.__getattribute__")=false from by decide +kernel,tf],if_neg (by decide:¬ (false=true))]
 refine wpAny_bind ((looks_hook (mc:=.ref C) X (by rw[if_pos (show onTheHeap (.ref C)=true from rfl)];exact hk)) _ _ _ _ (fun _ _ q=>q) (wpAny_bind (wpAny_attempt (wpAny_holding ?_))))
 unfold callGetattribute
 rw[show(false && onTheHeap (Value.builtin "BaseException.__getattribute__"))=false from rfl,if_neg (by decide:¬ (false=true))]
 unfold boundAndCalled
 rw[L2.xg_slot.bind]
 refine wpAny_bind (wpAny_pure (wpAny_call (codeAny_call_builtin L2.xg_slot.plain PySem.F.entry_bexc_ga ?_)))
 refine @check_slot (model prog w) _ _ { s with toks:=s.toks+1 } "BaseException.__getattribute__" "BaseException" "__getattribute__" (.ref e) [.str "__class__" s.toks] [] _ (by decide +kernel) (by decide +kernel) (ty.andThen (looks_subIn X hb)) (PySem.F.args_bexc_ga (.ref e) (.str "__class__" s.toks)) ?_
 refine wpAny_bind (wpAny_pure (wpAny_bind (wpAny_pure (wpAny_bind (ty _ _ _ _ (fun _ _ q=>q) (wpAny_bind (fd _ _ _ _ (fun _ _ q=>q) ?_)))))))
 show wpAny _ _ (holding [Value.builtin "object.__class__"] (call (.builtin "getset_descriptor.__get__") [.builtin "object.__class__",.ref e,.ref C]) >>= ret) _ _ _
 refine wpAny_bind (wpAny_holding (wpAny_call (class_get (s:={ s with toks:=s.toks+1 }) X I hm ?_)))
 refine wpAny_pure ?_
 show wpAny _ _ (handedOut (.ref C)) _ _ _
 rw[handedOut_of rfl]
 exact wpAny_pure (wpAny_pure h)
end
theorem kitx_excO{K:Frag}{x D:Addr}{ox:Obj}{od:Option Obj}(c:XIs K D):KitX K (.ref x) (.ref D) (fun h=>InstAt h x ox D od) where
 ty:=fun _ _ _ I=>I.type
 it:=fun _ _ X _=>by
  obtain⟨cdD,hcD,_⟩:=any_some c.hd
  unfold clsIn at hcD
  split at hcD
  ·rename_i c' d' cd' sl' ho
   intro A' Q' E' s' k q
   unfold isType loadHead
   exact wpAny_bind (wpAny_loadPart (k _ _ (X _ _ ho)) (wpAny_pure q))
  ·cases hcD
 ne:=fun h tp dd its n sl X htp=>by
  obtain⟨cdD,hcD,_⟩:=any_some c.hd
  refine Bool.eq_false_iff.mpr fun q=>?_
  have e:D=tp:=Value.ref.inj (beq_iff_eq.mp q)
  subst e
  unfold clsIn at hcD
  split at hcD
  ·rename_i c' d' cd' sl' ho
   have z:=(X _ _ ho).symm.trans htp
   cases z
  ·cases hcD
 ca:=fun X I k=>We X I c.ga c.ha c.sb (v9 (by obtain⟨cd,hc,_⟩:=any_some c.hd;rw[hc];rfl) c.cl c.gs c.tk) c.mo k
end PySem.W
namespace L2
open PySem PySem.Spec PyProof.Rows
inductive ClsV:V->Value->Prop where
 |ref (C:Addr):ClsV (.ref C) (.ref C)
 |ty (T:String):ClsV (.ty T) (.type T)
inductive ClsVs:List V->List Value->Prop where
 |nil:ClsVs [] []
 |cons {D:V} {c:Value} {Ds:List V} {cs:List Value} (h:ClsV D c) (t:ClsVs Ds cs):ClsVs (D::Ds) (c::cs)
inductive Asked(K:ub)(t:Value)(H:Hp):V->Bool->Prop where
 |one {D:V} {c:Value} {b:Bool} (h:ClsV D c) (e:Uz K t c=some b):Asked K t H D b
 |tup {tp:Addr} {Ds:List V} {cs:List Value} {b:Bool} (ht:H tp=some (.tup Ds)) (h:ClsVs Ds cs) (e:PySem.W.kitAny K t cs=some b):Asked K t H (.ref tp) b
section
variable{X:Cx}{e C d:Addr}{oe:Obj}{pins:List (Addr×Obj)}{s:Shared}{σ:St}{H:Hp}{od:Option Obj}{D:V}{b:Bool}{u:Value}{Q:VK}
end
section
variable{X:Cx}{k:Nat}{C f:Addr}{ps:List Str}{sp:Sp}{x name:Str}{np cpos pos:Pos}{a ex:Expr}{as:List Expr}{t:TA}{te:TE}
end
end L2
namespace GN
open PySem L2 K11
section
variable{α:Type}
def look(l:List (Str×α))(x:Str):Option α:=(l.find? fun p=>decide (p.1=x)).map (·.2)
def drpA(l:List (Str×α))(x:Str):List (Str×α):=l.filter fun p=>decide (p.1≠x)
def em(e:α->V)(l:List (Str×α)):List (Key×V):=l.map fun p=>(.inr p.1,e p.2)
theorem yn(e:α->V):∀(l:List (Str×α))(x:Str),valV (em e l) (.inr x)=(look l x).map e
 |[],x=>rfl
 |p::l,x=>by
  have ih:=yn e l x
  by_cases c:p.1=x
  ·show valV ((.inr p.1,e p.2)::em e l) (.inr x)=_
   rw[ww (by rw[c])]
   unfold look
   rw[Uu,decide_eq_true c]
   rfl
  ·show valV ((.inr p.1,e p.2)::em e l) (.inr x)=_
   rw[wx (fun z=>c (Sum.inr.inj z)),ih]
   unfold look
   rw[Uu,decide_eq_false c]
theorem xO(e:α->V)(l:List (Str×α))(x:Str):va (em e l) (.inr x)=em e (drpA l x):=by
 unfold va em drpA
 rw[List.filter_map]
 congr 1
 refine List.filter_congr fun p _=>?_
 show decide ((Sum.inr p.1:Key)≠.inr x)=decide (p.1≠x)
 by_cases c:p.1=x<;>simp[c]
theorem we(e:α->V){l:List (Str×α)}{x:Str}{a:α}(h:look l x=none):putK (em e l) (.inr x) (e a)=em e (l++[(x,a)]):=by
 unfold putK
 rw[vK,yn,h,if_neg (by simp)]
 unfold em
 rw[uj]
 rfl
theorem xP(e:α->V)(l:List (Str×α)):(em e l).length=l.length:=ua _
end
structure Hs where
 ns:List (Str×Bool)
 ts:List (Str×Int)
inductive Dd
 |num (i:Int)
 |op (w a b:Str)
 |mk (t:Str) (ns:List Str) (k:Str)
 |call (g:Str) (ns:List Str)
 |fn (g:Str) (ns:List Str)
 |ask (g:Str) (ns:List Str)
mutual
inductive Bd
 |give (x:Str)
 |lt (x:Str) (d:Dd) (b:Bd)
 |hold (x y:Str) (b:Bd)
 |drop (x:Str) (b:Bd)
 |loose (t:Str) (b:Bd)
 |iff (x:Str) (b c:Bd)
 |cs (x:Str) (as:Arms)
inductive Arms
 |nil
 |cons (t:Str) (ns:List Str) (m k:Str) (b:Bd) (r:Arms)
end
def IsDd(H:Hp):Dd->Addr->Prop
 |.num i,p=>H p=some (.tup [.str "num",.int i])
 |.op w a b,p=>H p=some (.tup [.str "op",.str w,.str a,.str b])
 |.mk t ns k,p=>∃q,H p=some (.tup [.str "make",.str t,.ref q,.str k])/\H q=some (.tup (ns.map V.str))
 |.call g ns,p=>∃q,H p=some (.tup [.str "call",.str g,.ref q])/\H q=some (.tup (ns.map V.str))
 |.fn g ns,p=>∃q,H p=some (.tup [.str "func",.str g,.ref q])/\H q=some (.tup (ns.map V.str))
 |.ask g ns,p=>∃q,H p=some (.tup [.str "ask",.str g,.ref q])/\H q=some (.tup (ns.map V.str))
theorem IsDd.keep{H H':Hp}(t:Tups H H'):∀{d:Dd}{p:Addr},IsDd H d p->IsDd H' d p
 |.num _,p,h=>t _ _ h
 |.op _ _ _,p,h=>t _ _ h
 |.mk _ _ _,p,⟨q,a,b⟩=>⟨q,t _ _ a,t _ _ b⟩
 |.call _ _,p,⟨q,a,b⟩=>⟨q,t _ _ a,t _ _ b⟩
 |.fn _ _,p,⟨q,a,b⟩=>⟨q,t _ _ a,t _ _ b⟩
 |.ask _ _,p,⟨q,a,b⟩=>⟨q,t _ _ a,t _ _ b⟩
mutual
def IsBd(H:Hp):Bd->Addr->Prop
 |.give x,p=>H p=some (.tup [.str "give",.str x])
 |.lt x d b,p=>∃q r,H p=some (.tup [.str "let",.str x,.ref q,.ref r])/\IsDd H d q/\IsBd H b r
 |.hold x y b,p=>∃r,H p=some (.tup [.str "hold",.str x,.str y,.ref r])/\IsBd H b r
 |.drop x b,p=>∃r,H p=some (.tup [.str "drop",.str x,.ref r])/\IsBd H b r
 |.loose x b,p=>∃r,H p=some (.tup [.str "loose",.str x,.ref r])/\IsBd H b r
 |.iff x b c,p=>∃q r,H p=some (.tup [.str "if",.str x,.ref q,.ref r])/\IsBd H b q/\IsBd H c r
 |.cs x as,p=>∃q ts,H p=some (.tup [.str "case",.str x,.ref q])/\H q=some (.tup (ts.map V.ref))/\IsArms H as ts
def IsArms(H:Hp):Arms->List Addr->Prop
 |.nil,ts=>ts=[]
 |.cons t ns m k b r,ts=>∃p q s ts',ts=p::ts'/\H p=some (.tup [.str t,.ref q,.str m,.str k,.ref s])/\H q=some (.tup (ns.map V.str))/\IsBd H b s/\IsArms H r ts'
end
mutual
theorem IsBd.keep{H H':Hp}(t:Tups H H'):∀{b:Bd}{p:Addr},IsBd H b p->IsBd H' b p
 |.give x,p,h=>t _ _ h
 |.lt x d b,p,h=>let ⟨q,r,a,e,f⟩:=h;⟨q,r,t _ _ a,e.keep t,IsBd.keep t f⟩
 |.hold x y b,p,h=>let ⟨r,a,f⟩:=h;⟨r,t _ _ a,IsBd.keep t f⟩
 |.drop x b,p,h=>let ⟨r,a,f⟩:=h;⟨r,t _ _ a,IsBd.keep t f⟩
 |.loose x b,p,h=>let ⟨r,a,f⟩:=h;⟨r,t _ _ a,IsBd.keep t f⟩
 |.iff x b c,p,h=>let ⟨q,r,a,e,f⟩:=h;⟨q,r,t _ _ a,IsBd.keep t e,IsBd.keep t f⟩
 |.cs x as,p,h=>let ⟨q,ts,a,e,f⟩:=h;⟨q,ts,t _ _ a,t _ _ e,IsArms.keep t f⟩
theorem IsArms.keep{H H':Hp}(t:Tups H H'):∀{as:Arms}{ts:List Addr},IsArms H as ts->IsArms H' as ts
 |.nil,ts,h=>h
 |.cons g ns m k b r,ts,h=>let ⟨p,q,s,ts',e,a1,a2,a3,a4⟩:=h;⟨p,q,s,ts',e,t _ _ a1,t _ _ a2,IsBd.keep t a3,IsArms.keep t a4⟩
end
mutual
def Bd.sz:Bd->Nat
 |.give _=>1
 |.lt _ _ b=>b.sz+1
 |.hold _ _ b=>b.sz+1
 |.drop _ b=>b.sz+1
 |.loose _ b=>b.sz+1
 |.iff _ b c=>b.sz+c.sz+1
 |.cs _ as=>as.sz+1
def Arms.sz:Arms->Nat
 |.nil=>0
 |.cons _ _ _ _ b r=>b.sz+r.sz+1
end
def zL(x:Str)(s:Hs):Option Hs:=if look s.ns x=some true then some ⟨drpA s.ns x,s.ts⟩else none
def zG(x:Str)(s:Hs):Option Hs:=if look s.ns x=none then some ⟨s.ns++[(x,true)],s.ts⟩else none
def zB(x:Str)(s:Hs):Bool:=(look s.ns x).isSome
def xo(t:Str)(n:Int)(s:Hs):Option Hs:=if look s.ts t=none then some ⟨s.ns,s.ts++[(t,n)]⟩else none
def useT(t:Str)(s:Hs):Option (Int×Hs):=(look s.ts t).map fun n=>(n,⟨s.ns,drpA s.ts t⟩)
abbrev Ow:=List (Str×List Bool)
def yk:Dd->List Str
 |.num _=>[]
 |.op _ a b=>[a,b]
 |.mk _ ns _=>ns
 |.call _ ns=>ns
 |.fn _ ns=>ns
 |.ask g ns=>g::ns
def wo(ow:Ow):Dd->List Bool
 |.num _=>[]
 |.op _ _ _=>[false,false]
 |.mk _ ns _=>ns.map fun _=>true
 |.call g _=>(look ow g).getD []
 |.fn _ ns=>ns.map fun _=>true
 |.ask _ ns=>true::ns.map fun _=>true
def zT:List (Str×Bool)->Hs->Option Hs
 |[],s=>some s
 | (x,true)::r,s=>(zL x s).bind (zT r)
 | (_,false)::r,s=>zT r s
def yI:List (Str×Bool)->Hs->Bool
 |[],_=>true
 | (_,true)::r,s=>yI r s
 | (x,false)::r,s=>zB x s && yI r s
def vg(ow:Ow):Dd->Hs->Option Hs
 |.fn g _,s=>if((look ow g).getD []).all id=true then some s else none
 |.mk _ ns k,s=>if k=""then some s else(useT k s).bind fun p=>if p.1=((ns.length:Nat):Int)then some p.2 else none
 |_,s=>some s
def yE(ow:Ow)(d:Dd)(s:Hs):Option Hs:=(zT ((yk d).zip (wo ow d)) s).bind fun s1=>if yI ((yk d).zip (wo ow d)) s1=true then vg ow d s1 else none
def zH:List Str->Hs->Option Hs
 |[],s=>some s
 |x::r,s=>(zG x s).bind (zH r)
def armC(x:Str)(ns:List Str)(m k:Str)(s:Hs):Option Hs:=(if m="take"then zL x s else some s).bind fun s1=>(zH ns s1).bind fun s2=>if k=""then some s2 else if m="take"/\0 < ns.length then xo k ((ns.length:Nat):Int) s2 else none
def xp(x:Str):Arms->Hs->Option (List (Bd×Hs))
 |.nil,_=>some []
 |.cons _ ns m k b r,s=>(armC x ns m k s).bind fun s1=>(xp x r s).map fun l=>(b,s1)::l
def yY(s:Hs):Bool:=s.ts.isEmpty && !(s.ns.any (·.2))
def pc(ow:Ow):Bd->Hs->Option (List (Bd×Hs))
 |.give x,s=>(zL x s).bind fun s1=>if yY s1=true then some []else none
 |.lt x d b,s=>(yE ow d s).bind fun s1=>(zG x s1).map fun s2=>[(b,s2)]
 |.hold x y b,s=>if zB y s=true then(zG x s).map fun s2=>[(b,s2)]else none
 |.drop x b,s=>(zL x s).map fun s2=>[(b,s2)]
 |.loose t b,s=>(useT t s).map fun p=>[(b,p.2)]
 |.iff x b c,s=>if zB x s=true then some [(b,s),(c,s)]else none
 |.cs x as,s=>if zB x s=true then xp x as s else none
mutual
def okB(ow:Ow):Bd->Hs->Bool
 |.give x,s=>(pc ow (.give x) s).isSome
 |.lt x d b,s=>match (yE ow d s).bind (zG x)with
  |none=>false
  |some s2=>okB ow b s2
 |.hold x y b,s=>zB y s && match zG x s with
  |none=>false
  |some s2=>okB ow b s2
 |.drop x b,s=>match zL x s with
  |none=>false
  |some s2=>okB ow b s2
 |.loose t b,s=>match useT t s with
  |none=>false
  |some p=>okB ow b p.2
 |.iff x b c,s=>zB x s && (okB ow b s && okB ow c s)
 |.cs x as,s=>zB x s && okA ow x as s
def okA(ow:Ow)(x:Str):Arms->Hs->Bool
 |.nil,_=>true
 |.cons _ ns m k b r,s=>(match armC x ns m k s with
  |none=>false
  |some s1=>okB ow b s1) && okA ow x r s
end
theorem Xv{ow:Ow}{x:Str}:∀{as:Arms}{s:Hs},okA ow x as s=match xp x as s with
  |none=>false
  |some l=>l.all fun q=>okB ow q.1 q.2
 |.nil,s=>by rw[okA,xp];rfl
 |.cons t ns m k b r,s=>by
  rw[okA,xp]
  rw[Xv (as:=r)]
  cases armC x ns m k s with
  |none=>rfl
  |some s1 =>
   dsimp only[uz]
   cases xp x r s with
   |none=>exact tf _
   |some l=>rfl
theorem VV{ow:Ow}{b:Bd}{s:Hs}:okB ow b s=match pc ow b s with
  |none=>false
  |some l=>l.all fun q=>okB ow q.1 q.2:=by
 cases b with
 |give x =>
  rw[okB]
  have:pc ow (.give x) s=none\/pc ow (.give x) s=some []:=by
   rw[pc]
   cases zL x s with
   |none=>exact .inl rfl
   |some s1 =>
    dsimp only[uz]
    split
    ·exact .inr rfl
    ·exact .inl rfl
  rcases this with e|e<;>rw[e]<;>rfl
 |lt x d b =>
  rw[okB,pc]
  cases yE ow d s with
  |none=>rfl
  |some s1 =>
   dsimp only[uz]
   cases zG x s1 with
   |none=>rfl
   |some s2=>simp
 |hold x y b =>
  rw[okB,pc]
  cases zB y s with
  |false=>rfl
  |true =>
   rw[if_pos rfl,Bool.true_and]
   cases zG x s with
   |none=>rfl
   |some s2=>simp
 |drop x b =>
  rw[okB,pc]
  cases zL x s with
  |none=>rfl
  |some s2=>simp
 |loose t b =>
  rw[okB,pc]
  cases useT t s with
  |none=>rfl
  |some s2=>simp
 |iff x b c =>
  rw[okB,pc]
  cases zB x s with
  |false=>rfl
  |true=>simp
 |cs x as =>
  rw[okB,pc]
  cases zB x s with
  |false=>rfl
  |true =>
   rw[if_pos rfl,Bool.true_and]
   exact Xv
theorem Z0{x:Str}:∀{as:Arms}{s:Hs}{l:List (Bd×Hs)},xp x as s=some l->(l.map fun q=>q.1.sz).sum<=as.sz
 |.nil,s,l,h=>by
  unfold xp at h
  cases h
  exact uW _
 |.cons t ns m k b r,s,l,h=>by
  unfold xp at h
  obtain⟨s1,_,h⟩:=uN.mp h
  obtain⟨l1,h1,h2⟩:=uf.mp h
  have:=Z0 h1
  subst h2
  unfold Arms.sz
  rw[uY,List.sum_cons]
  dsimp only
  lia
theorem zcL{ow:Ow}{b:Bd}{s:Hs}{l:List (Bd×Hs)}(h:pc ow b s=some l):(l.map fun q=>q.1.sz).sum < b.sz:=by
 cases b with
 |give x =>
  rw[pc]at h
  obtain⟨s1,_,h⟩:=uN.mp h
  split at h
  ·cases h
   rw[Bd.sz]
   exact Nat.zero_lt_one
  ·cases h
 |lt x d b =>
  rw[pc]at h
  obtain⟨s1,_,h⟩:=uN.mp h
  obtain⟨s2,_,h⟩:=uf.mp h
  subst h
  rw[Bd.sz]
  simp
 |hold x y b =>
  rw[pc]at h
  split at h
  ·obtain⟨s2,_,h⟩:=uf.mp h
   subst h
   rw[Bd.sz]
   simp
  ·cases h
 |drop x b =>
  rw[pc]at h
  obtain⟨s2,_,h⟩:=uf.mp h
  subst h
  rw[Bd.sz]
  simp
 |loose x b =>
  rw[pc]at h
  obtain⟨s2,_,h⟩:=uf.mp h
  subst h
  rw[Bd.sz]
  simp
 |iff x b c =>
  rw[pc]at h
  split at h
  ·cases h
   rw[Bd.sz]
   simp
  ·cases h
 |cs x as =>
  rw[pc]at h
  split at h
  ·have:=Z0 h
   rw[Bd.sz]
   lia
  ·cases h
end GN
namespace L2
open PySem PySem.Spec PyProof.Rows
section
variable{X:Cx}
def VW:List V->Hp->VK->Prop:=fun xs H Q=>∃d kvs,xs=[.ref d]/\H d=some (.dK kvs)/\∀l,H l=none->Q (.ref l) (upd H l (.dK kvs))
theorem vS:yQ X (.type "dict") VW:=by
 intro pins s σ H xs us Q I r h
 obtain⟨d,kvs,rfl,hd,q⟩:=h
 obtain⟨u,rfl,rx⟩:=wk r
 cases rx
 obtain⟨z,hs,ws,rel,dd⟩:=vf I.hok hd
 refine kt_call_dict (knd:=zF X.prog X.w) hs dd (by rw[<- rel.length];exact z) fun h' dn sb=>?_
 have hk:∀b o,s.heap.get? b=some o->h'.get? b=some o:=fun b o e=>(sb.2 b (uC (uq e))).trans (ud _ e)
 refine⟨.ref s.heap.objs.size,_,I.laid (t':=s.toks) hk (ui _) (show ObjOk X.prog X.w _ h' _ (.dK kvs)from⟨z,?_,ws,rel,dn⟩),rfl,q _ (I.hok.fresh (ui _))⟩
 have:=I.big
 exact beq_eq_false_iff_ne.mpr (fun e=>by rw[e]at this;exact Ub _ this)
theorem wC:jCa X (.type "dict") VW:=⟨vS⟩
end
end L2
namespace GN
open PySem L2 K11
def KpS(S:Addr->Prop)(H H':Hp):Prop:=∀b o,¬ S b->H b=some o->H' b=some o
theorem KpS.refl{S:Addr->Prop}{H:Hp}:KpS S H H:=fun _ _ _ h=>h
theorem KpS.trans{S:Addr->Prop}{H H1 H2:Hp}(a:KpS S H H1)(b:KpS S H1 H2):KpS S H H2:=fun c o n h=>b c o n (a c o n h)
theorem KpS.mono{S S':Addr->Prop}{H H1:Hp}(a:KpS S H H1)(h:∀b,S b->S' b):KpS S' H H1:=fun c o n q=>a c o (fun z=>n (h c z)) q
theorem KpS.of{S:Addr->Prop}{H H1:Hp}(a:Same H H1):KpS S H H1:=fun c o _ q=>a c o q
theorem KpS.put{S:Addr->Prop}{H:Hp}{a:Addr}{o:HO}(h:S a):KpS S H (upd H a o):=fun c u n q=>by
 rw[zm (fun z=>n (by rw[z];exact h))]
 exact q
structure Ha where
 h:Addr
 dx:Addr
 dn:Addr
 dt:Addr
def Ha.own(a:Ha):Addr->Prop:=fun b=>b=a.dn\/b=a.dt
structure HandAt(cH:Addr)(H:Hp)(a:Ha)(g:Str)(s:Hs):Prop where
 o:H a.h=some (.ins cH a.dx [("def_name",.str g),("names",.ref a.dn),("tokens",.ref a.dt)])
 n:H a.dn=some (.dK (em V.bl s.ns))
 t:H a.dt=some (.dK (em V.int s.ts))
 ne:a.dn≠a.dt
theorem HandAt.keep{cH:Addr}{H H':Hp}{a:Ha}{g:Str}{s:Hs}(h:HandAt cH H a g s)(k:∀b o,(b=a.h\/b=a.dn\/b=a.dt)->H b=some o->H' b=some o):HandAt cH H' a g s:=⟨k _ _ (.inl rfl) h.o,k _ _ (.inr (.inl rfl)) h.n,k _ _ (.inr (.inr rfl)) h.t,h.ne⟩
theorem HandAt.same{cH:Addr}{H H':Hp}{a:Ha}{g:Str}{s:Hs}(h:HandAt cH H a g s)(k:Same H H'):HandAt cH H' a g s:=h.keep fun b o _ q=>k b o q
theorem HandAt.hn{cH:Addr}{H:Hp}{a:Ha}{g:Str}{s:Hs}(h:HandAt cH H a g s):a.h≠a.dn/\a.h≠a.dt:=⟨xB h.o h.n (by intro z;cases z),xB h.o h.t (by intro z;cases z)⟩
theorem HandAt.putN{cH:Addr}{H:Hp}{a:Ha}{g:Str}{s:Hs}(h:HandAt cH H a g s)(ns:List (Str×Bool)):HandAt cH (upd H a.dn (.dK (em V.bl ns))) a g ⟨ns,s.ts⟩:=⟨by rw[zm h.hn.1];exact h.o,zg,by rw[zm h.ne.symm];exact h.t,h.ne⟩
theorem HandAt.putT{cH:Addr}{H:Hp}{a:Ha}{g:Str}{s:Hs}(h:HandAt cH H a g s)(ts:List (Str×Int)):HandAt cH (upd H a.dt (.dK (em V.int ts))) a g ⟨s.ns,ts⟩:=⟨by rw[zm h.hn.2];exact h.o,by rw[zm h.ne];exact h.n,zg,h.ne⟩
def ErrU(uh:Addr)(E:XK)(S:Addr->Prop)(H:Hp)(g:Str):Prop:=∀d H',KpS S H H'->H' d=some (XD d [("name",.str g)])->E (.ref uh) (some d) H'
theorem ErrU.at{uh:Addr}{E:XK}{S S':Addr->Prop}{H H1:Hp}{g:Str}(h:ErrU uh E S H g)(k:KpS S H H1)(m:∀b,S' b->S b):ErrU uh E S' H1 g:=fun d H' k' q=>h d H' (k.trans (k'.mono m)) q
theorem ErrU.mk{uh:Addr}{E:XK}{S:Addr->Prop}{H:Hp}{g:Str}(h:ErrU uh E S H g):ErrU uh E (fun _=>False) H g:=h.at .refl fun _ z=>z.elim
def spX(C:Addr)(f:Str):Sp:=fun vs H Q _=>∃e v,vs=[.ref e,v]/\H e=some (XO e C none)/\∀d,H d=none->d≠e->Q .non (upd (upd H d (XD d [(f,v)])) e (XO e C (some d)))
structure TH(K:ub)(cH:Addr):Prop where
 cl:Cls K cH
 nd:uA K (.ref cH) "def_name"=some none
 nn:uA K (.ref cH) "names"=some none
 nt:uA K (.ref cH) "tokens"=some none
def yF(cH uh:Addr):Sp:=fun vs H Q E=>∃(a:Ha)(g:Str)(s:Hs)(b:Bool),vs=[.ref a.h,.bl b]/\HandAt cH H a g s/\(b=true->Q .non H)/\(b=false->ErrU uh E (fun _=>False) H g)
def Zt(cH uh:Addr):Sp:=fun vs H Q E=>∃(a:Ha)(g:Str)(s:Hs)(x:Str),vs=[.ref a.h,.str x]/\HandAt cH H a g s/\(zB x s=true->Q .non H)/\(zB x s=false->ErrU uh E (fun _=>False) H g)
def vh(cH uh:Addr)(f:Str->Hs->Option Hs):Sp:=fun vs H Q E=>∃(a:Ha)(g:Str)(s:Hs)(x:Str),vs=[.ref a.h,.str x]/\HandAt cH H a g s/\s.ns.length < 1000000/\(∀s',f x s=some s'->∀H',KpS a.own H H'->HandAt cH H' a g s'->Q .non H')/\(f x s=none->ErrU uh E (fun _=>False) H g)
def VX(cH uh:Addr):Sp:=fun vs H Q E=>∃(a:Ha)(g:Str)(s:Hs)(x:Str)(n:Int),vs=[.ref a.h,.str x,.int n]/\HandAt cH H a g s/\s.ts.length < 1000000/\(∀s',xo x n s=some s'->∀H',KpS a.own H H'->HandAt cH H' a g s'->Q .non H')/\(xo x n s=none->ErrU uh E (fun _=>False) H g)
def YQ(cH uh:Addr):Sp:=fun vs H Q E=>∃(a:Ha)(g:Str)(s:Hs)(x:Str),vs=[.ref a.h,.str x]/\HandAt cH H a g s/\(∀p,useT x s=some p->∀H',KpS a.own H H'->HandAt cH H' a g p.2->Q (.int p.1) H')/\(useT x s=none->ErrU uh E (fun _=>False) H g)
section
variable{P:Program}{w:World}{K:ub}{mg:Str->Option Value}{base:Heap}{f R C cH uh:Addr}{fd:FuncData}
theorem Wf:FnScope lS5 lS5 (zn Zo):=.ok
theorem YR{fi:Addr}(F:Fun K "__init__" "Unheld.__init__" Zo f fd)(xw:tE K C "name"=some none)(M:XCl K C fi)(B:XBase K R)(mR:mg "ReuseError"=some (.ref R)):FnOk P w K mg base CX0 1 f fd lS5 (spX C "name"):=by
 refine F.by Wf (fun vs H Q E h=>?_) (fun cdv A' outer s H vs Q E hr h=>?_)
 ·obtain⟨e,v,rfl,_⟩:=h
  rfl
 obtain⟨e,v,rfl,hX,q⟩:=h
 refine⟨_,zh (zy ⟨Vg M B rfl mR (jA2 (jv 0) (jv 1)).out⟩) (zj ⟨QC M (jv 0).out (jv 1).out⟩),?_⟩
 refine⟨_,rfl,_,rfl,e,[v],none,rfl,sN1,hX,?_⟩
 exact⟨_,rfl,_,rfl,e,rfl,hX,xw,fun d hd ne=>q d hd ne⟩
theorem VY:FnScope lS13 lS13 (zn Zh):=.ok
theorem Wh(F:Fun K "insist" "Hand.insist" Zh f fd)(T:TH K cH)(G:Xa P w K mg base 1 "Unheld" uh lS5 (spX uh "name")):FnOk P w K mg base (CXf P w) 3 f fd lS13 (yF cH uh):=by
 refine F.byx VY (fun vs H Q E h=>?_) (fun cdv A' outer s H vs Q E hr h=>?_)
 ·obtain⟨a,g,s,b,rfl,_⟩:=h
  rfl
 obtain⟨a,g,s,b,rfl,hA,hT,hF⟩:=h
 refine⟨_,zj (zw (yM (zE (jv 1))) (zj (Vo G hr rfl zbN (jA1 (yw (jv 0))))) zp),?_⟩
 refine⟨_,rfl,b,rfl,?_⟩
 cases b with
 |true=>exact iteF (hT rfl)
 |false =>
  refine iteT ⟨_,rfl,a.h,cH,a.dx,_,_,rfl,hA.o,T.cl,T.nd,rfl,sN1,fun e he=>⟨e,.str g,rfl,zg,fun d hd ne=>⟨rfl,some d,zg,?_⟩⟩⟩
  have hd':H d=none:=by
   rw[zm ne]at hd
   exact hd
  refine hF rfl d _ (fun b o _ q=>?_) ?_
  ·have n1:b≠e:=zr q he
   have n2:b≠d:=zr q hd'
   rw[vH n1,zm n1,zm n2,zm n1]
   exact q
  ·rw[vH ne,zm ne,zg]
theorem VZ:FnScope lS5 lS5 (zn Zi):=.ok
theorem QU(F:Fun K "look_at" "Hand.look_at" Zi f fd)(T:TH K cH)(GI:Me P w K mg base (CXf P w) 3 cH "insist" lS13 (yF cH uh)):FnOk P w K mg base (CXf P w) 4 f fd lS5 (Zt cH uh):=by
 refine F.byx VZ (fun vs H Q E h=>?_) (fun cdv A' outer s H vs Q E hr h=>?_)
 ·obtain⟨a,g,s,x,rfl,_⟩:=h
  rfl
 obtain⟨a,g,s,x,rfl,hA,hT,hF⟩:=h
 refine⟨_,zj (zy (yi (jv 0) T.cl GI hr zX (jA1 (YM hr (jv 1) (yw (jv 0)))))),?_⟩
 have e:(valV (em V.bl s.ns) (.inr x)).isSome=zB x s:=by rw[yn,UF];rfl
 refine⟨_,rfl,a.h,a.dx,_,rfl,hA.o,rfl,_,rfl,_,rfl,a.h,cH,a.dx,_,_,rfl,hA.o,T.cl,T.nn,rfl,a.dn,_,rfl,DGet.k (k:=.inr x) hA.n,a,g,s,_,rfl,hA,fun hb=>?_,fun hb=>?_⟩
 ·exact hT (by rw[<- e];exact hb)
 ·exact hF (by rw[<- e];exact hb)
theorem QV:FnScope lS5 lS5 (zn YC):=.ok
theorem V0(F:Fun K "use_up" "Hand.use_up" YC f fd)(T:TH K cH)(GI:Me P w K mg base (CXf P w) 3 cH "insist" lS13 (yF cH uh)):FnOk P w K mg base (CXf P w) 4 f fd lS5 (vh cH uh zL):=by
 refine F.byx QV (fun vs H Q E h=>?_) (fun cdv A' outer s H vs Q E hr h=>?_)
 ·obtain⟨a,g,s,x,rfl,_⟩:=h
  rfl
 obtain⟨a,g,s,x,rfl,hA,hL,hT,hF⟩:=h
 refine⟨_,zh (zy (yi (jv 0) T.cl GI hr zX (jA1 (VQ hr (yw (jv 0)) (jv 1) xm)))) (zj (zy (ZZ (yw (jv 0)) (jv 1)))),?_⟩
 have e:(valV (em V.bl s.ns) (.inr x)).getD (.bl false)=.bl ((look s.ns x).getD false):=by
  rw[yn]
  cases look s.ns x<;>rfl
 refine⟨_,rfl,a.h,a.dx,_,rfl,hA.o,rfl,_,rfl,a.h,cH,a.dx,_,_,rfl,hA.o,T.cl,T.nn,rfl,a.dn,rfl,.inl ⟨_,.inl hA.n⟩,_,rfl,_,DGet.k (k:=.inr x) hA.n,?_⟩
 rw[e]
 refine⟨a,g,s,_,rfl,hA,fun hb=>?_,fun hb=>?_⟩
 ·have hl:look s.ns x=some true:=by
   cases c:look s.ns x with
   |none=>rw[c]at hb;cases hb
   |some b=>rw[c]at hb;exact congrArg some hb
  refine⟨_,rfl,a.h,cH,a.dx,_,_,rfl,hA.o,T.cl,T.nn,rfl,a.dn,rfl,.inl ⟨_,.inl hA.n⟩,_,rfl,_,.inr x,.bl true,hA.n,rfl,by rw[yn,hl];rfl,?_⟩
  rw[xO]
  exact hT _ (if_pos hl) _ (.put (.inl rfl)) (hA.putN _)
 ·refine hF (if_neg fun z=>?_)
  rw[z]at hb
  cases hb
theorem zb7:FnScope lS5 lS5 (zn VC):=.ok
theorem QW(F:Fun K "bind" "Hand.bind" VC f fd)(T:TH K cH)(GI:Me P w K mg base (CXf P w) 3 cH "insist" lS13 (yF cH uh)):FnOk P w K mg base (CXf P w) 4 f fd lS5 (vh cH uh zG):=by
 refine F.byx zb7 (fun vs H Q E h=>?_) (fun cdv A' outer s H vs Q E hr h=>?_)
 ·obtain⟨a,g,s,x,rfl,_⟩:=h
  rfl
 obtain⟨a,g,s,x,rfl,hA,hL,hT,hF⟩:=h
 refine⟨_,zh (zy (yi (jv 0) T.cl GI hr zX (jA1 (wc hr (jv 1) (yw (jv 0)))))) (zj (xZ hr (yw (jv 0)) (jv 1) xm)),?_⟩
 have sl:=zN
 have e:(!(valV (em V.bl s.ns) (.inr x)).isSome)=(look s.ns x).isNone:=by
  rw[yn]
  cases look s.ns x<;>rfl
 refine⟨_,rfl,a.h,a.dx,_,rfl,hA.o,rfl,_,rfl,_,rfl,a.h,cH,a.dx,_,_,rfl,hA.o,T.cl,T.nn,rfl,a.dn,_,rfl,DGet.k (k:=.inr x) hA.n,?_⟩
 rw[e]
 refine⟨a,g,s,_,rfl,hA,fun hb=>?_,fun hb=>?_⟩
 ·have hl:look s.ns x=none:=tP.mp hb
  refine⟨_,rfl,a.h,cH,a.dx,_,_,rfl,hA.o,T.cl,T.nn,rfl,_,rfl,a.dn,_,rfl,DPut.k (k:=.inr x) hA.n (by rw[xP];lia),?_⟩
  rw[we V.bl hl]
  exact hT _ (if_pos hl) _ (.put (.inl rfl)) (hA.putN _)
 ·refine hF (if_neg fun z=>?_)
  rw[z]at hb
  cases hb
theorem zb8:FnScope lS19 lS19 (zn VD):=.ok
theorem QX(F:Fun K "keep" "Hand.keep" VD f fd)(T:TH K cH)(GI:Me P w K mg base (CXf P w) 3 cH "insist" lS13 (yF cH uh)):FnOk P w K mg base (CXf P w) 4 f fd lS19 (VX cH uh):=by
 refine F.byx zb8 (fun vs H Q E h=>?_) (fun cdv A' outer s H vs Q E hr h=>?_)
 ·obtain⟨a,g,s,x,n,rfl,_⟩:=h
  rfl
 obtain⟨a,g,s,x,n,rfl,hA,hL,hT,hF⟩:=h
 refine⟨_,zh (zy (yi (jv 0) T.cl GI hr zX (jA1 (wc hr (jv 1) (yw (jv 0)))))) (zj (xZ hr (yw (jv 0)) (jv 1) (jv 2))),?_⟩
 have sl:=zN
 have e:(!(valV (em V.int s.ts) (.inr x)).isSome)=(look s.ts x).isNone:=by
  rw[yn]
  cases look s.ts x<;>rfl
 refine⟨_,rfl,a.h,a.dx,_,rfl,hA.o,rfl,_,rfl,_,rfl,a.h,cH,a.dx,_,_,rfl,hA.o,T.cl,T.nt,rfl,a.dt,_,rfl,DGet.k (k:=.inr x) hA.t,?_⟩
 rw[e]
 refine⟨a,g,s,_,rfl,hA,fun hb=>?_,fun hb=>?_⟩
 ·have hl:look s.ts x=none:=tP.mp hb
  refine⟨_,rfl,_,rfl,a.h,cH,a.dx,_,_,rfl,hA.o,T.cl,T.nt,rfl,_,rfl,a.dt,_,rfl,DPut.k (k:=.inr x) hA.t (by rw[xP];lia),?_⟩
  rw[we V.int hl]
  exact hT _ (if_pos hl) _ (.put (.inr rfl)) (hA.putT _)
 ·refine hF (if_neg fun z=>?_)
  rw[z]at hb
  cases hb
theorem V9:FnScope lS23 lS23 (zn Zj):=.ok
theorem Wi(F:Fun K "use_up_token" "Hand.use_up_token" Zj f fd)(T:TH K cH)(GI:Me P w K mg base (CXf P w) 3 cH "insist" lS13 (yF cH uh)):FnOk P w K mg base (CXf P w) 4 f fd lS23 (YQ cH uh):=by
 refine F.byx V9 (fun vs H Q E h=>?_) (fun cdv A' outer s H vs Q E hr h=>?_)
 ·obtain⟨a,g,s,x,rfl,_⟩:=h
  rfl
 obtain⟨a,g,s,x,rfl,hA,hT,hF⟩:=h
 refine⟨_,zh (zy (yi (jv 0) T.cl GI hr zX (jA1 (YM hr (jv 1) (yw (jv 0)))))) (zj (zq (ZZ (yw (jv 0)) (jv 1)))),?_⟩
 have e:(valV (em V.int s.ts) (.inr x)).isSome=(look s.ts x).isSome:=by rw[yn,UF]
 refine⟨_,rfl,a.h,a.dx,_,rfl,hA.o,rfl,_,rfl,_,rfl,a.h,cH,a.dx,_,_,rfl,hA.o,T.cl,T.nt,rfl,a.dt,_,rfl,DGet.k (k:=.inr x) hA.t,?_⟩
 rw[e]
 refine⟨a,g,s,_,rfl,hA,fun hb=>?_,fun hb=>?_⟩
 ·obtain⟨n,hl⟩:=U7.mp hb
  refine⟨_,rfl,a.h,cH,a.dx,_,_,rfl,hA.o,T.cl,T.nt,rfl,a.dt,rfl,.inl ⟨_,.inl hA.t⟩,_,rfl,_,.inr x,.int n,hA.t,rfl,by rw[yn,hl];rfl,?_⟩
  rw[xO]
  exact hT (n,⟨s.ns,drpA s.ts x⟩) (by unfold useT;rw[hl];rfl) _ (.put (.inr rfl)) (hA.putT _)
 ·refine hF ?_
  unfold useT
  rw[Option.isSome_eq_false_iff,tP]at hb
  rw[hb]
  rfl
end
end GN
namespace L2
open PySem PySem.Spec PyProof.Rows
section
variable{X:Cx}
end
section
variable{prog:Program}{w:World}{A:Around}{E:Value->Shared->Prop}{s:Shared}
end
section
variable{X:Cx}{elts:List Expr}{k:Nat}{tpos:Pos}
end
section
variable{X:Cx}
def zaT:V->List V->Hp->VK->Prop:=fun x vs H Q=>∃d kvs,x=.ref d/\vs=[]/\H d=some (.dK kvs)/\∀p,H p=none->Q (.ref p) (upd H p (.ext fun h=>h.IsValuesView p d))
theorem QY:MtM X "dict.values" zaT:=by
 intro pins s σ H x vs v us Q I rx rv h
 obtain⟨d,kvs,rfl,rfl,hd,q⟩:=h
 cases rx
 have hus:=rv.zero
 subst hus
 obtain⟨z,hs,ws,rel,dd⟩:=vf I.hok hd
 refine call_meetsIn tT dd.typeIs PySem.F.entry_dict_values (PySem.F.args_dict_values_1 _) (meets_dict_values (zF X.prog X.w) d hs) ⟨⟨ws,dd⟩,?_⟩
 have e:=ut (h:=s.heap) (o:={ cls:=.type "dict_values",data:=.fields #[.ref d] }) rfl
 refine⟨.ref _,_,I.laid (t':=s.toks) (fun b o e=>ud _ e) (ui _) ?_,rfl,q _ (I.hok.fresh (ui _))⟩
 refine⟨⟨_,e,rfl,rfl⟩,⟨_,e⟩,fun h1 h2 ⟨o,a,b⟩ k=>⟨o,k o a,b⟩⟩
theorem Xw:jMt X "dict.values" zaT:=⟨QY⟩
theorem ja(hc:X.calm=true):yQ X (.builtin "any") (fun xs H Q=>∃(p d:Addr)(l:List (Key×Bool)),xs=[.ref p]/\H p=some (.ext fun h=>h.IsValuesView p d)/\H d=some (.dK (l.map fun q=>(q.1,V.bl q.2)))/\Q (.bl (l.any (·.2))) H):=by
 intro pins s σ H xs us Q I r h
 obtain⟨p,d,l,rfl,hv,hd,q⟩:=h
 obtain⟨u,rfl,rx⟩:=wk r
 cases rx
 have hh:X.A.handled=none:=I.ok.hd hc
 obtain⟨z,hs,ws,rel,dd⟩:=vf I.hok hd
 obtain⟨ep,da⟩:=dd.dictAt
 have hvw:s.heap.IsValuesView p d:=(I.hok p _ hv).1
 have wl:=rel.length
 rw[ua]at wl
 have hlt:d < s.heap.objs.size:=I.hok.lt hd
 have hne:d≠s.heap.objs.size:=uC hlt
 refine call_any_walk (wpAny_pyIter_values (knd:=zF X.prog X.w) hvw da ?_)
 refine⟨s.heap.objs.size,_,_,_,_,_,fun i=>((l.map (·.2))[i]?).getD false,rfl,Walks.dictValues (knd:=zF X.prog X.w) (A:=X.A.in1) hh _ d hne ws ep,⟨⟨_,ut _ rfl,rfl,rfl⟩,da.at' fun o e=>ud _ e⟩,fun i v s1 Q1 E1 hv hQ=>?_,fun h' tk kk=>?_⟩
 ·obtain⟨k,hk⟩:=hv
  obtain⟨y,h1,h2⟩:=rel.get hk
  rw[uk]at h1
  obtain⟨b,hb,e⟩:=uf.mp h1
  cases e
  cases h2
  have:((l.map (·.2))[i]?).getD false=b.2:=by
   rw[uk,hb]
   rfl
  dsimp only at hQ
  rw[this]at hQ
  exact wpAny_truthy_bool hQ
 ·have e:(uT ws.length).any (fun i=>((l.map (·.2))[i]?).getD false)=l.any (·.2):=by
   rw[<- wl,show l.length=(l.map (·.2)).length by rw[ua],LSm.range_any,List.any_map]
   rfl
  rw[e]
  have I1:Inv X pins σ H { s with heap:=s.heap.push { cls:=.type "dict_valueiterator",data:=.fields #[.ref d,.int 0 0,.int ws.length 0,.int ep 0] } }:=I.kept (t':=s.toks) fun b o e=>ud _ e
  have f:=I.fpOk (H':=H) (ui _) I.fresh
  exact⟨.bl (l.any (·.2)),H,I1.turned (it:=s.heap.objs.size) (fun b o hb e=>kk b o (by simpa using hb) e) f.1 f.2.1 f.2.2.2.1 f.2.2.2.2.1 f.2.2.2.2.2,rfl,q⟩
theorem Z3(hc:X.calm=true):jCa X (.builtin "any") (fun xs H Q=>∃(p d:Addr)(l:List (Key×Bool)),xs=[.ref p]/\H p=some (.ext fun h=>h.IsValuesView p d)/\H d=some (.dK (l.map fun q=>(q.1,V.bl q.2)))/\Q (.bl (l.any (·.2))) H):=⟨ja hc⟩
theorem vj(hc:X.calm=true):yQ X (.builtin "all") (fun xs H Q=>∃(p:Addr)(bs:List Bool),xs=[.ref p]/\H p=some (.tup (bs.map V.bl))/\Q (.bl (bs.all _root_.id)) H):=by
 intro pins s σ H xs us Q I r h
 obtain⟨p,bs,rfl,hq,q⟩:=h
 obtain⟨u,rfl,rx⟩:=wk r
 cases rx
 obtain⟨its,rv,pl,hz⟩:=I.tuple (SqT.of hq)
 have hh:X.A.handled=none:=I.ok.hd hc
 have hlen:its.toArray.size=bs.length:=by rw[uo,<- rv.length,ua]
 have hne:p≠s.heap.objs.size:=uC (I.hok.lt hq)
 refine call_all_walk (wpAny_pyIter_tuple (show s.heap.IsTuple p its.toArray from pl) ?_)
 refine⟨s.heap.objs.size,_,_,_,_,_,fun i=>bs.getD i false,rfl,Walks.tuple (A:=X.A.in1) hh _ p hne its.toArray,⟨⟨_,ut _ rfl,rfl,rfl⟩,(show s.heap.IsTuple p its.toArray from pl).at fun o e=>ud _ e⟩,fun i v s1 Q1 E1 hv hQ=>?_,fun h' tk kk=>?_⟩
 ·have hi:i < bs.length:=by
   obtain⟨hi,_⟩:=Array.getElem?_eq_some_iff.mp hv
   rw[hlen]at hi
   exact hi
  have hb:(bs.map V.bl)[i]?=some (V.bl (bs.getD i false)):=by
   rw[uk,um hi]
   simp[List.getD,um hi]
  obtain⟨u',hu,ru⟩:=rv.get hb
  have e:its.toArray[i]?=some u':=by simpa using hu
  have hv':its.toArray[i]?=some v:=hv
  rw[hv']at e
  cases e
  cases ru
  exact wpAny_truthy_bool hQ
 ·have e:(uT its.toArray.size).all (fun i=>bs.getD i false)=bs.all _root_.id:=by
   rw[hlen]
   exact X7 bs
  rw[e]
  have I1:Inv X pins σ H { s with heap:=s.heap.push { cls:=.type "tuple_iterator",data:=.fields #[.ref p,.int 0 0] } }:=I.kept (t':=s.toks) fun b o e=>ud _ e
  have f:=I.fpOk (H':=H) (ui _) I.fresh
  exact⟨.bl (bs.all _root_.id),H,I1.turned (it:=s.heap.objs.size) (fun b o hb e=>kk b o (by simpa using hb) e) f.1 f.2.1 f.2.2.2.1 f.2.2.2.2.1 f.2.2.2.2.2,rfl,q⟩
theorem jb(hc:X.calm=true):jCa X (.builtin "all") (fun xs H Q=>∃(p:Addr)(bs:List Bool),xs=[.ref p]/\H p=some (.tup (bs.map V.bl))/\Q (.bl (bs.all _root_.id)) H):=⟨vj hc⟩
end
end L2
namespace GN
open PySem L2 K11
theorem jx{H:Hp}{x dx:Addr}{o o':HO}(hx:H x=none)(hd:H dx=none)(n:dx≠x):Same H (upd (upd H dx o) x o'):=(zi hd o).trans (zi (by rw[zm n.symm];exact hx) o')
theorem iteE{b:Bool}{A B:Prop}(e:b=false)(h:B):if b=true then A else B:=by rw[if_neg (by rw[e];decide)];exact h
def Zu(cH:Addr):Sp:=fun vs H Q _=>∃(b dx dn0 dt0:Addr)(g:Str)(s:Hs),vs=[.ref b,.str g,.ref dn0,.ref dt0]/\H b=some (.ins cH dx [])/\H dn0=some (.dK (em V.bl s.ns))/\H dt0=some (.dK (em V.int s.ts))/\∀H' dn dt,KpS (·=b) H H'->H dn=none->H dt=none->HandAt cH H' ⟨b,dx,dn,dt⟩ g s->Q .non H'
structure New(H:Hp)(a:Ha):Prop where
 h:H a.h=none
 n:H a.dn=none
 t:H a.dt=none
def vT(cH:Addr):Sp:=fun vs H Q _=>∃(a:Ha)(g:Str)(s:Hs),vs=[.ref a.h]/\HandAt cH H a g s/\∀H' a',Same H H'->New H a'->HandAt cH H' a' g s->Q (.ref a'.h) H'
def wO:Sp:=fun vs H Q _=>∃(p:Addr)(d:Dd),vs=[.ref p]/\IsDd H d p/\(yk d).length<=1000/\∀H' r,Same H H'->H' r=some (.tup ((yk d).map V.str))->Q (.ref r) H'
def OwAt(H:Hp)(od:Addr)(ow:Ow):Prop:=∃kvs,H od=some (.dK kvs)/\∀g bs,look ow g=some bs->∃q,valV kvs (.inr g)=some (.ref q)/\H q=some (.tup (bs.map V.bl))
theorem OwAt.keep{H H':Hp}{od:Addr}{ow:Ow}(h:OwAt H od ow)(k:∀b o,(b=od\/∃xs,o=.tup xs)->H b=some o->H' b=some o):OwAt H' od ow:=by
 obtain⟨kvs,a,b⟩:=h
 refine⟨kvs,k _ _ (.inl rfl) a,fun g bs e=>?_⟩
 obtain⟨q,h1,h2⟩:=b g bs e
 exact⟨q,h1,k _ _ (.inr ⟨_,rfl⟩) h2⟩
theorem OwAt.same{H H':Hp}{od:Addr}{ow:Ow}(h:OwAt H od ow)(s:Same H H'):OwAt H' od ow:=h.keep fun b o _ q=>s b o q
def OkD(ow:Ow):Dd->Prop
 |.call g ns=>∃bs,look ow g=some bs
 |.fn g _=>∃bs,look ow g=some bs
 |_=>True
def Z4:Sp:=fun vs H Q _=>∃(p od:Addr)(d:Dd)(ow:Ow),vs=[.ref p,.ref od]/\IsDd H d p/\(yk d).length<=1000/\OwAt H od ow/\OkD ow d/\∀H' r,Same H H'->H' r=some (.tup ((wo ow d).map V.bl))->Q (.ref r) H'
section
variable{P:Program}{w:World}{K:ub}{mg:Str->Option Value}{base:Heap}{f R C cH uh:Addr}{fd:FuncData}
theorem QZ:FnScope lS10 lS10 (zn YB):=.ok
theorem Ja(F:Fun K "__init__" "Hand.__init__" YB f fd)(T:TH K cH)(m_dict:mg "dict"=none):FnOk P w K mg base CX0 1 f fd lS10 (Zu cH):=by
 refine F.by QZ (fun vs H Q E h=>?_) (fun cdv A' outer s H vs Q E hr h=>?_)
 ·obtain⟨b,dx,dn0,dt0,g,s,rfl,_⟩:=h
  rfl
 obtain⟨b,dx,dn0,dt0,g,s,rfl,hb,hn,ht,q⟩:=h
 refine⟨_,zh (Yz (jv 0) (jv 1)) (zh (Yz (jv 0) (zK wC rfl m_dict Tc (jA1 (jv 2)))) (zj (Yz (jv 0) (zK wC rfl m_dict Tc (jA1 (jv 3)))))),?_⟩
 have nbn:dn0≠b:=xB hn hb (by intro z;cases z)
 have nbt:dt0≠b:=xB ht hb (by intro z;cases z)
 refine⟨_,rfl,_,rfl,b,cH,dx,_,rfl,hb,T.cl,T.nd,by show 0 < 1000;decide,?_⟩
 have k1:KpS (·=b) H (upd H b (.ins cH dx (putF "def_name" (.str g) []))):=.put rfl
 have b1:=zg (H:=H) (a:=b) (o:=.ins cH dx (putF "def_name" (.str g) []))
 generalize upd H b (.ins cH dx (putF "def_name" (.str g) []))=H1 at *
 refine⟨_,rfl,dn0,_,rfl,k1 _ _ nbn hn,fun dn hdn=>?_⟩
 have nd:dn≠b:=fun e=>by rw[e,b1]at hdn;cases hdn
 have f1:H dn=none:=by
  cases z:H dn with
  |none=>rfl
  |some o=>rw[k1 _ _ nd z]at hdn;cases hdn
 have s2:=zi hdn (.dK (em V.bl s.ns))
 have d2:=zg (H:=H1) (a:=dn) (o:=.dK (em V.bl s.ns))
 generalize upd H1 dn (.dK (em V.bl s.ns))=H2 at *
 refine⟨_,rfl,b,cH,dx,_,rfl,s2 _ _ b1,T.cl,T.nn,by show 1 < 1000;decide,?_⟩
 have k3:KpS (·=b) H (upd H2 b (.ins cH dx (putF "names" (.ref dn) (putF "def_name" (.str g) [])))):=(k1.trans (.of s2)).trans (.put rfl)
 have b3:=zg (H:=H2) (a:=b) (o:=.ins cH dx (putF "names" (.ref dn) (putF "def_name" (.str g) [])))
 have d3:upd H2 b (.ins cH dx (putF "names" (.ref dn) (putF "def_name" (.str g) []))) dn=some (.dK (em V.bl s.ns)):=by rw[zm nd];exact d2
 generalize upd H2 b (.ins cH dx (putF "names" (.ref dn) (putF "def_name" (.str g) [])))=H3 at *
 refine⟨_,rfl,dt0,_,rfl,k3 _ _ nbt ht,fun dt hdt=>?_⟩
 have ndt:dt≠b:=fun e=>by rw[e,b3]at hdt;cases hdt
 have nnt:dn≠dt:=fun e=>by rw[<- e,d3]at hdt;cases hdt
 have f3:H dt=none:=by
  cases z:H dt with
  |none=>rfl
  |some o=>rw[k3 _ _ ndt z]at hdt;cases hdt
 refine⟨_,rfl,b,cH,dx,_,rfl,old hdt b3,T.cl,T.nt,by show 2 < 1000;decide,?_⟩
 refine q _ dn dt ((k3.trans (.of (zi hdt _))).trans (.put rfl)) f1 f3 ⟨zg,?_,?_,nnt⟩
 ·rw[zm nd]
  exact old hdt d3
 ·rw[zm ndt]
  exact zg
theorem Jb:FnScope ["hand"] ["hand"] (zn Zk):=.ok
theorem Wj(F:Fun K "copied" "copied" Zk f fd)(T:TH K cH)(GH:Ma P w K mg base CX0 1 "Hand" cH lS10 (Zu cH)):FnOk P w K mg base CX0 3 f fd ["hand"] (vT cH):=by
 refine F.by Jb (fun vs H Q E h=>?_) (fun cdv A' outer s H vs Q E hr h=>?_)
 ·obtain⟨a,g,s,rfl,_⟩:=h
  rfl
 obtain⟨a,g,s,rfl,hA,q⟩:=h
 refine⟨_,zj (zq (zaN GH hr rfl WV (jA3 (yw (jv 0)) (yw (jv 0)) (yw (jv 0))))),?_⟩
 refine⟨_,rfl,a.h,cH,a.dx,_,_,rfl,hA.o,T.cl,T.nd,rfl,_,rfl,a.h,cH,a.dx,_,_,rfl,hA.o,T.cl,T.nn,rfl,_,rfl,a.h,cH,a.dx,_,_,rfl,hA.o,T.cl,T.nt,rfl,fun b dx hb hdx ndx=>?_⟩
 have sm:=jx (o:=.own b) (o':=.ins cH dx []) hb hdx ndx
 refine⟨b,dx,a.dn,a.dt,g,s,rfl,zg,sm _ _ hA.n,sm _ _ hA.t,fun H' dn dt k fn ft hA'=>⟨rfl,?_⟩⟩
 have hbn:∀c,H c≠none->c≠b:=fun c h e=>h (by rw[e];exact hb)
 have fr:∀c,upd (upd H dx (.own b)) b (.ins cH dx []) c=none->H c=none:=fun c h=>by
  cases z:H c with
  |none=>rfl
  |some o=>rw[sm _ _ z]at h;cases h
 exact q H' ⟨b,dx,dn,dt⟩ (fun c o z=>k _ _ (fun e=>hbn c (by rw[z];simp) e) (sm _ _ z)) ⟨hb,fr _ fn,fr _ ft⟩ hA'
theorem Wk:FnScope ["deed"] ["deed"] (zn vN):=.ok
theorem YS(F:Fun K "names_of" "names_of" vN f fd):FnOk P w K mg base CX0 1 f fd ["deed"] wO:=by
 refine F.by Wk (fun vs H Q E h=>?_) (fun cdv A outer s H vs Q E hr h=>?_)
 ·obtain⟨p,d,rfl,_⟩:=h
  rfl
 obtain⟨p,d,rfl,hI,hl,q⟩:=h
 refine⟨_,
  (zh (zw (tN zz (xT 0) zo)
   (zj (zq (zu zA))) zp)
  (zh (zw (tN zz (xT 0) zo)
   (zj (zq (vB zbK (jv 0) (j7 zk) jZ))) zp)
  (zh (zw (tN zz (xT 0) zo)
   (zj (zq (zx Qv (zu (jA1 (xT 0))) (xT 0)))) zp)
  (zj (zq (xT 0)))))),?_⟩
 have sl:=zN
 cases d with
 |num i =>
  have hI:H p=_:=hI
  exact⟨_,rfl,ixT hI aI0 ⟨rfl,_,rfl,iteT ⟨sN0,fun r hr=>q _ r (zi hr _) zg⟩⟩⟩
 |op o a b =>
  have hI:H p=_:=hI
  refine⟨_,rfl,ixT hI aI0 ⟨rfl,_,rfl,iteF (nxtC ?_)⟩⟩
  exact⟨_,rfl,ixT hI aI0 ⟨rfl,_,rfl,iteT ⟨_,rfl,_,rfl,p,_,rfl,SqT.of hI,(fun z=>absurd z.1 (show ¬ (HT.sIx 4 0 (some 2)=0) by decide)),fun r hr=>q _ r (zi hr _) zg⟩⟩⟩
 |mk t ns k =>
  obtain⟨r,h1,h2⟩:=hI
  refine⟨_,rfl,ixT h1 aI0 ⟨rfl,_,rfl,iteF (nxtC ?_)⟩⟩
  refine⟨_,rfl,ixT h1 aI0 ⟨rfl,_,rfl,iteF (nxtC ?_)⟩⟩
  refine⟨_,rfl,ixT h1 aI0 ⟨rfl,_,rfl,iteF (nxtC ?_)⟩⟩
  exact⟨_,rfl,ixT h1 aI2 (q _ r (Same.refl _) h2)⟩
 |call g ns =>
  obtain⟨r,h1,h2⟩:=hI
  refine⟨_,rfl,ixT h1 aI0 ⟨rfl,_,rfl,iteF (nxtC ?_)⟩⟩
  refine⟨_,rfl,ixT h1 aI0 ⟨rfl,_,rfl,iteF (nxtC ?_)⟩⟩
  refine⟨_,rfl,ixT h1 aI0 ⟨rfl,_,rfl,iteF (nxtC ?_)⟩⟩
  exact⟨_,rfl,ixT h1 aI2 (q _ r (Same.refl _) h2)⟩
 |fn g ns =>
  obtain⟨r,h1,h2⟩:=hI
  refine⟨_,rfl,ixT h1 aI0 ⟨rfl,_,rfl,iteF (nxtC ?_)⟩⟩
  refine⟨_,rfl,ixT h1 aI0 ⟨rfl,_,rfl,iteF (nxtC ?_)⟩⟩
  refine⟨_,rfl,ixT h1 aI0 ⟨rfl,_,rfl,iteF (nxtC ?_)⟩⟩
  exact⟨_,rfl,ixT h1 aI2 (q _ r (Same.refl _) h2)⟩
 |ask g ns =>
  obtain⟨r,h1,h2⟩:=hI
  refine⟨_,rfl,ixT h1 aI0 ⟨rfl,_,rfl,iteF (nxtC ?_)⟩⟩
  refine⟨_,rfl,ixT h1 aI0 ⟨rfl,_,rfl,iteF (nxtC ?_)⟩⟩
  refine⟨_,rfl,ixT h1 aI0 ⟨rfl,_,rfl,iteT ?_⟩⟩
  refine⟨_,rfl,ixT h1 aI1 ⟨sN1,fun p1 hp1=>?_⟩⟩
  refine⟨_,rfl,ixT (old hp1 h1) aI2 ⟨p1,r,[.str g],_,rfl,rfl,SqT.of zg,SqT.of (old hp1 h2),by simp,?_,fun e=>?_,fun _ p2 hp2=>?_⟩⟩
  ·have hl:(g::ns).length<=1000:=hl
   rw[uM]at hl
   rw[ua]
   show 1+_<=_
   lia
  ·rw[UI]at e
   subst e
   exact q _ p1 (zi hp1 _) zg
  ·exact q _ p2 ((zi hp1 _).new hp2) zg
theorem Jc:FnScope ["deed","owns"] ["deed","owns"] (zn Zg):=.ok
theorem Jd:(["deed","owns","name"]:List Str).Nodup:=by decide +kernel
theorem Wl(F:Fun K "used_up" "used_up" Zg f fd)(GN':Ca P w K mg base CX0 1 "names_of" ["deed"] wO)(m_tuple:mg "tuple"=none):FnOk P w K mg base CX0 2 f fd ["deed","owns"] Z4:=by
 refine F.by Jc (fun vs H Q E h=>?_) (fun cdv A outer s H vs Q E hr h=>?_)
 ·obtain⟨p,od,d,ow,rfl,_⟩:=h
  rfl
 obtain⟨p,od,d,ow,rfl,hI,hl,hO,hok,q⟩:=h
 refine⟨_,
  (zh (zw (tN zz (xT 0) zo)
   (zj (zq (wz hr (jv 1) (xT 0)))) zp)
  (zj (zq (zK zM rfl m_tuple uS (jA1 (zW ["name"] rfl (yB (cA GN' hr (jA1 (jv 0)))) (fun _ _ _ _ _=>(gN 2 Jd)) (fun _ _ _ _ _=>zV) (fun _ _ _ _ _=>(zP wY (xn (wb K) (jv 0) zk (fun _ _=>rfl)) zo (zY _))))))))),?_⟩
 have sl:=zN
 obtain⟨tg,xs,h0,hc⟩:∃(tg:Str)(xs:List V),H p=some (.tup (.str tg::xs))/\((tg="call"/\∃g ns,d=.call g ns/\xs[0]?=some (.str g))\/(tg≠"call"/\wo ow d=(yk d).map fun _=>!decide (tg="op"))):=by
  cases d with
  |num i=>exact⟨_,_,hI,.inr ⟨by decide,rfl⟩⟩
  |op o a b=>exact⟨_,_,hI,.inr ⟨by decide,rfl⟩⟩
  |mk t ns k=>obtain⟨r,h1,h2⟩:=hI;exact⟨_,_,h1,.inr ⟨by decide,rfl⟩⟩
  |call g ns=>obtain⟨r,h1,h2⟩:=hI;exact⟨_,_,h1,.inl ⟨rfl,g,ns,rfl,rfl⟩⟩
  |fn g ns=>obtain⟨r,h1,h2⟩:=hI;exact⟨_,_,h1,.inr ⟨by decide,rfl⟩⟩
  |ask g ns=>obtain⟨r,h1,h2⟩:=hI;exact⟨_,_,h1,.inr ⟨by decide,rfl⟩⟩
 refine⟨_,rfl,ixT h0 aI0 ⟨rfl,_,rfl,?_⟩⟩
 rcases hc with⟨rfl,g,ns,rfl,hg⟩|⟨hc,e⟩
 ·obtain⟨kvs,o1,o2⟩:=hO
  obtain⟨bs,hb⟩:=hok
  obtain⟨r,v1,v2⟩:=o2 g bs hb
  refine iteT ⟨_,rfl,_,rfl,ixT h0 (zJ (j:=1) (by rw[List.getElem?_cons_succ];exact hg)) ⟨od,.ref r,rfl,?_,?_⟩⟩
  ·rw[<- v1]
   exact DGet.k (k:=.inr g) o1
  ·refine q _ r (Same.refl _) ?_
   show H r=some (.tup (((look ow g).getD []).map V.bl))
   rw[hb]
   exact v2
 ·refine iteE (decide_eq_false fun z=>hc (V.str.inj z)) (nxtC ?_)
  refine⟨_,rfl,p,d,rfl,hI,hl,fun H1 r1 s1 h1=>⟨r1,rfl,⟨_,SqT.of h1⟩,wM (xs:=(yk d).map V.str) (fun i τ ys H'=>H1=H'/\(∃v,τ=[some (.ref p),some (.ref od),v])/\ys=(Um i (V.bl (!decide (tg="op"))))) ⟨rfl,⟨none,rfl⟩,rfl⟩ (fun i τ ys H' _ pv=>pv.1 ▸ SqT.of h1) ?_ ?_⟩⟩
  ·rintro i x τ ys H' hx ⟨rfl,⟨v,rfl⟩,rfl⟩
   have hi:=(ug.mp hx).1
   rw[ua]at hi
   refine⟨_,rfl,ixT (s1 _ _ h0) aI0 ⟨rfl,by rw[Uy];lia,rfl,⟨_,rfl⟩,?_⟩⟩
   rw[List.replicate_succ']
   congr 4
   by_cases c:tg="op"
   ·rw[decide_eq_true c,decide_eq_true (congrArg V.str c)]
   ·rw[decide_eq_false c,decide_eq_false fun z=>c (V.str.inj z)]
  ·rintro τ ys H' ⟨rfl,_,rfl⟩ p2 hp2
   refine⟨p2,_,rfl,.inl ⟨SqL.of zg,fun p3 hp3=>q _ p3 ((s1.new hp2).new hp3) ?_⟩⟩
   rw[zg,e,ua,UV]
   congr 2
   rw[<- List.map_const']
   rfl
def Je(cH uh:Addr):Sp:=fun vs H Q E=>∃(p:Addr)(x:Str)(a:Ha)(g:Str)(s:Hs),vs=[.ref p,.ref a.h]/\H p=some (.tup [.str "give",.str x])/\HandAt cH H a g s/\s.ns.length < 1000000/\(∀s1,zL x s=some s1->yY s1=true->∀H',KpS a.own H H'->HandAt cH H' a g s1->Q .non H')/\((∀s1,zL x s=some s1->yY s1=false)->ErrU uh E a.own H g)
def zaU(cH uh:Addr):Sp:=fun vs H Q E=>∃(p q:Addr)(x t m k:Str)(ns:List Str)(v:V)(a:Ha)(g:Str)(s:Hs),vs=[.str x,.ref p,.ref a.h]/\H p=some (.tup [.str t,.ref q,.str m,.str k,v])/\H q=some (.tup (ns.map V.str))/\HandAt cH H a g s/\s.ns.length+ns.length < 1000000/\s.ts.length < 1000000/\(∀s1,armC x ns m k s=some s1->∀H',KpS a.own H H'->HandAt cH H' a g s1->Q .non H')/\(armC x ns m k s=none->ErrU uh E a.own H g)
theorem wf{x:Str}{s s':Hs}(h:zL x s=some s'):s'.ns.length<=s.ns.length/\s'.ts=s.ts:=by
 unfold zL at h
 split at h
 ·cases h
  exact⟨Ut _ _,rfl⟩
 ·cases h
theorem jy{x:Str}{s s':Hs}(h:zG x s=some s'):s'.ns.length=s.ns.length+1/\s'.ts=s.ts:=by
 unfold zG at h
 split at h
 ·cases h
  exact⟨by rw[uc];rfl,rfl⟩
 ·cases h
theorem Jf:FnScope lS17 lS17 (zn Zl):=.ok
theorem Q0(F:Fun K "check_give" "check_give" Zl f fd)(T:TH K cH)(GI:Me P w K mg base (CXf P w) 3 cH "insist" lS13 (yF cH uh))(GU:Me P w K mg base (CXf P w) 4 cH "use_up" lS5 (vh cH uh zL))(m_len:mg "len"=none)(m_any:mg "any"=none):FnOk P w K mg base (CXf P w) 5 f fd lS17 (Je cH uh):=by
 refine F.byx Jf (fun vs H Q E h=>?_) (fun cdv A' outer s H vs Q E hr h=>?_)
 ·obtain⟨p,x,a,g,s,rfl,_⟩:=h
  rfl
 obtain⟨p,x,a,g,s,rfl,hp,hA,hL,hT,hF⟩:=h
 have hr3:Room 3 _:=hr.mono (by decide)
 refine⟨_,zh (zy (yi (jv 1) T.cl GU hr zX (jA1 (xT 0))))
  (zj (zy (yi (jv 1) T.cl GI hr3 zX (jA1 (xE (zP zz (zS QS rfl m_len PySem.boot_len (jA1 (yw (jv 1)))) zk (zY _)) (wp (zbI (zS (Z3 rfl) rfl m_any PyProof.Rows.boot_any (jA1 (j8 UR tT PySem.F.type_dict_values Xw (yw (jv 1)))))))))))),?_⟩
 refine⟨_,rfl,a.h,a.dx,_,rfl,hA.o,rfl,_,rfl,ixT hp aI1 ⟨a,g,s,x,rfl,hA,hL,fun s1 e1 H1 k1 hA1=>?_,fun e=>(hF fun s1 z=>by rw[e]at z;cases z).mk⟩⟩
 have hF1:yY s1=false->ErrU uh E a.own H1 g:=fun c=>(hF fun s2 z=>by rw[e1]at z;cases z;exact c).at k1 fun _ z=>z
 refine⟨_,rfl,a.h,a.dx,_,rfl,hA1.o,rfl,_,rfl,a.h,cH,a.dx,_,_,rfl,hA1.o,T.cl,T.nt,rfl,a.dt,_,rfl,hA1.t,rfl,_,rfl,?_⟩
 rw[xP]
 by_cases c:s1.ts.length=0
 ·have ct:s1.ts=[]:=UC.mp c
  rw[decide_eq_true (congrArg V.int (by lia))]
  refine iteT ⟨_,rfl,a.h,cH,a.dx,_,_,rfl,hA1.o,T.cl,T.nn,rfl,.inr (.inr (.inl ⟨rfl,.inl ⟨_,hA1.n⟩⟩)),a.dn,_,rfl,rfl,hA1.n,fun pv hpv=>?_⟩
  have s2:=zi hpv (.ext fun h=>h.IsValuesView pv a.dn)
  have hA2:=hA1.same s2
  have v2:=zg (H:=H1) (a:=pv) (o:=.ext fun h=>h.IsValuesView pv a.dn)
  generalize upd H1 pv (.ext fun h=>h.IsValuesView pv a.dn)=H2 at *
  refine⟨pv,a.dn,s1.ns.map fun q=>(.inr q.1,q.2),rfl,v2,by rw[UV];exact hA2.n,_,rfl,?_⟩
  rw[List.any_map]
  have ec:yY s1=!(s1.ns.any ((·.2) ∘ fun q=>((.inr q.1:Key),q.2))):=by
   unfold yY
   rw[ct]
   rfl
  refine⟨a,g,s1,_,rfl,hA2,fun hb=>?_,fun hb=>?_⟩
  ·exact hT s1 e1 (by rw[ec];exact hb) H2 (k1.trans (.of s2)) hA2
  ·exact((hF1 (by rw[ec];exact hb)).at (.of s2) fun _ z=>z).mk
 ·rw[decide_eq_false (fun z=>c (by have:=V.int.inj z;lia))]
  refine iteF ?_
  refine⟨a,g,s1,_,rfl,hA1,(fun hb=>by cases hb),fun hb=>(hF1 ?_).mk⟩
  unfold yY
  cases h:s1.ts with
  |nil=>rw[h]at c;exact absurd rfl c
  |cons _ _=>rfl
theorem scCkArm:FnScope ["name","arm","hand","part"] ["name","arm","hand"] (zn YE):=.ok
theorem yR:∀(l:List Str)(x:Str)(s:Hs),zH (l++[x]) s=(zH l s).bind (zG x)
 |[],x,s=>by
  show(zG x s).bind (fun s=>some s)=zG x s
  cases zG x s<;>rfl
 |y::l,x,s=>by
  show(zG y s).bind (zH (l++[x]))=((zG y s).bind (zH l)).bind (zG x)
  cases zG y s with
  |none=>rfl
  |some s1=>exact yR l x s1
theorem Zv{l:List Str}{s:Hs}{i:Nat}(h:zH (l.take i) s=none):zH l s=none:=by
 rw[<- Ug i l]
 generalize l.drop i=r
 generalize l.take i=l' at *
 induction r generalizing l' with
 |nil=>rw[uO];exact h
 |cons x r ih =>
  have:=ih (l':=l'++[x]) (by rw[yR,h];rfl)
  rwa [Uj]at this
theorem HandAt.tup{H H':Hp}{a:Ha}{g:Str}{s:Hs}{p:Addr}{xs:List V}(h:HandAt cH H a g s)(k:KpS a.own H H')(hp:H p=some (.tup xs)):H' p=some (.tup xs):=k _ _ (fun z=>z.elim (fun e=>by rw[e,h.n]at hp;cases hp) fun e=>by rw[e,h.t]at hp;cases hp) hp
theorem HandAt.tups{H H':Hp}{a:Ha}{g:Str}{s:Hs}(h:HandAt cH H a g s)(k:KpS a.own H H'):Tups H H':=fun p xs hp=>h.tup k hp
theorem jz{a u:TS}{D:Ends}{σ:St}{H:Hp}(R:St->Hp->Prop)(fin:∀σ' H',R σ' H'->u D σ' H')(key:∀(v:TS)(D':Ends),D'.rt=D.rt->(∀σ' H',R σ' H'->v D' σ' H')->(tSeq a v:TS) D' σ H):(tSeq a u:TS) D σ H:=key u D rfl fin
theorem zb9(F:Fun K "check_arm" "check_arm" YE f fd)(T:TH K cH)(GI:Me P w K mg base (CXf P w) 3 cH "insist" lS13 (yF cH uh))(GU:Me P w K mg base (CXf P w) 4 cH "use_up" lS5 (vh cH uh zL))(GB:Me P w K mg base (CXf P w) 4 cH "bind" lS5 (vh cH uh zG))(GK:Me P w K mg base (CXf P w) 4 cH "keep" lS19 (VX cH uh))(m_len:mg "len"=none):FnOk P w K mg base (CXf P w) 5 f fd ["name","arm","hand"] (zaU cH uh):=by
 refine F.byx scCkArm (fun vs H Q E h=>?_) (fun cdv A' outer s H vs Q E hr h=>?_)
 ·obtain⟨p,q,x,t,m,k,ns,v,a,g,s,rfl,_⟩:=h
  rfl
 obtain⟨p,r,x,t,m,k,ns,v,a,g,s,rfl,hp,hq,hA,hL,hL2,hT,hF⟩:=h
 have hr3:Room 3 _:=hr.mono (by decide)
 refine⟨_,
  (zh (zw (tN zz (xT 1) zo)
   (zj (zy (yi (jv 2) T.cl GU hr zX (jA1 (jv 0))))) zp)
  (zh (yg ownx rfl (yB (xT 1)) (gN 3 scCkArm.nd)
   (zj (zy (yi (jv 2) T.cl GB hr zX (jA1 (jv 3))))))
  (zj (zw (tN wY (xT 1) zo)
   (zh (zy (yi (jv 2) T.cl GI hr3 zX (jA1 (xE (zP zz (xT 1) zo (zY _)) (wp (zP wm (jL m_len (xT 1)) zk (zY _)))))))
   (zj (zy (yi (jv 2) T.cl GK hr zX (jA2 (xT 1) (jL m_len (xT 1))))))) zp)))),?_⟩
 have sl:=zN
 have tk:∀{c:Bool},c=decide (m="take")->decide (V.str m=V.str "take")=c:=fun e=>by
  rw[e]
  by_cases c:m="take"
  ·rw[decide_eq_true c,decide_eq_true (congrArg V.str c)]
  ·rw[decide_eq_false c,decide_eq_false fun z=>c (V.str.inj z)]
 refine jz (fun σ' H'=>∃s1,σ'=[some (.str x),some (.ref p),some (.ref a.h),none]/\KpS a.own H H'/\HandAt cH H' a g s1/\(if m="take"then zL x s else some s)=some s1) ?fin ?key
 case key =>
  intro u Dn _ fin
  refine⟨_,rfl,ixT hp aI2 ⟨rfl,_,rfl,?_⟩⟩
  rw[tk rfl]
  by_cases c:m="take"
  ·rw[decide_eq_true c]
   refine iteT ⟨_,rfl,a.h,a.dx,_,rfl,hA.o,rfl,_,rfl,a,g,s,x,rfl,hA,by lia,fun s1 e1 H1 k1 hA1=>?_,fun e=>(hF ?_).mk⟩
   ·exact fin _ _ ⟨s1,rfl,k1,hA1,by rw[if_pos c];exact e1⟩
   ·unfold armC
    rw[if_pos c,e]
    rfl
  ·rw[decide_eq_false c]
   exact iteF (nxtC (fin _ _ ⟨s,rfl,.refl,hA,if_neg c⟩))
 case fin =>
 rintro σ' H1 ⟨s1,rfl,k1,hA1,e1⟩
 have hF1:zH ns s1=none->ErrU uh E a.own H g:=fun e=>hF (by unfold armC;rw[e1,uz,e];rfl)
 have l1:s1.ns.length<=s.ns.length/\s1.ts=s.ts:=by
  split at e1
  ·exact wf e1
  ·cases e1;exact⟨ui _,rfl⟩
 have hp1:=hA.tup k1 hp
 have hq1:=hA.tup k1 hq
 refine⟨_,rfl,ixT hp1 aI1 ⟨r,rfl,⟨_,SqT.of hq1⟩,xc (xs:=ns.map V.str) (fun i σ H'=>∃s2 y,σ=[some (.str x),some (.ref p),some (.ref a.h),y]/\KpS a.own H H'/\HandAt cH H' a g s2/\zH (ns.take i) s1=some s2/\s2.ns.length=s1.ns.length+(ns.take i).length/\s2.ts=s1.ts) ⟨s1,none,rfl,k1,hA1,rfl,rfl,rfl⟩ (fun i σ H' _ h=>?_) ?_ ?_⟩⟩
 ·obtain⟨_,_,_,k2,_⟩:=h
  exact SqT.of (hA.tup k2 hq)
 ·rintro i y σ H2 hy ⟨s2,z,rfl,k2,hA2,e2,l2,t2⟩
  rw[uk]at hy
  obtain⟨n,hn,rfl⟩:=uf.mp hy
  have hi:=(ug.mp hn).1
  have tn:ns.take (i+1)=ns.take i++[n]:=by
   rw[UY,hn]
   rfl
  have lt:(ns.take i).length=i:=by rw[uX];lia
  refine⟨_,rfl,a.h,a.dx,_,rfl,hA2.o,rfl,_,rfl,a,g,s2,n,rfl,hA2,by lia,fun s3 e3 H3 k3 hA3=>?_,fun e=>?_⟩
  ·obtain⟨l3,t3⟩:=jy e3
   refine⟨s3,_,rfl,k2.trans k3,hA3,by rw[tn,yR,e2];exact e3,?_,by rw[t3,t2]⟩
   rw[tn,uc,UK]
   lia
  ·exact((hF1 (Zv (i:=i+1) (by rw[tn,yR,e2];exact e))).at k2 fun _ z=>z).mk
 ·rintro σ H2 ⟨s2,z,rfl,k2,hA2,e2,l2,t2⟩
  rw[ua,uV (ui _)]at e2 l2
  have hp2:=hA.tup k2 hp
  have hq2:=hA.tup k2 hq
  have eC:armC x ns m k s=if k=""then some s2 else if m="take"/\0 < ns.length then xo k ((ns.length:Nat):Int) s2 else none:=by
   unfold armC
   rw[e1,uz,e2,uz]
  have ll:(ns.map V.str).length=ns.length:=ua _
  refine⟨_,rfl,ixT hp2 aI3 ⟨rfl,_,rfl,?_⟩⟩
  by_cases ck:k=""
  ·rw[decide_eq_true (congrArg V.str ck)]
   exact iteF (nxtC (hT s2 (by rw[eC,if_pos ck]) H2 k2 hA2))
  ·rw[decide_eq_false fun z=>ck (V.str.inj z)]
   rw[if_neg ck]at eC
   refine iteT ⟨_,rfl,a.h,a.dx,_,rfl,hA2.o,rfl,_,rfl,ixT hp2 aI2 ⟨rfl,_,rfl,?_⟩⟩
   rw[tk rfl]
   by_cases cm:m="take"
   ·rw[decide_eq_true cm]
    refine iteT ⟨_,rfl,ixT hp2 aI1 ⟨r,_,rfl,.inr (SqT.of hq2),_,_,rfl,rfl,a,g,s2,_,rfl,hA2,fun hb=>?_,fun hb=>?_⟩⟩
    ·rw[decide_eq_true_eq,ll]at hb
     rw[if_pos ⟨cm,by lia⟩]at eC
     refine⟨_,rfl,a.h,a.dx,_,rfl,hA2.o,rfl,_,rfl,ixT hp2 aI3 ⟨_,rfl,ixT hp2 aI1 ⟨r,_,rfl,.inr (SqT.of hq2),?_⟩⟩⟩
     rw[ll]
     refine⟨a,g,s2,k,_,rfl,hA2,by rw[t2,l1.2];exact hL2,fun s3 e3 H3 k3 hA3=>hT s3 (by rw[eC];exact e3) H3 (k2.trans k3) hA3,fun e=>((hF (by rw[eC];exact e)).at k2 fun _ z=>z).mk⟩
    ·rw[decide_eq_false_iff_not,ll]at hb
     exact((hF (by rw[eC,if_neg (fun z=>hb (by lia))])).at k2 fun _ z=>z).mk
   ·rw[decide_eq_false cm]
    refine iteF ⟨a,g,s2,_,rfl,hA2,(fun hb=>by cases hb),fun hb=>?_⟩
    exact((hF (by rw[eC,if_neg (fun z=>cm z.1)])).at k2 fun _ z=>z).mk
def Jg(cH uh:Addr):Sp:=fun vs H Q E=>∃(od p:Addr)(d:Dd)(ow:Ow)(a:Ha)(g:Str)(s:Hs),vs=[.ref od,.ref p,.ref a.h]/\IsDd H d p/\(yk d).length<=1000/\OwAt H od ow/\OkD ow d/\HandAt cH H a g s/\¬ a.own od/\s.ns.length < 1000000/\(∀s1,yE ow d s=some s1->∀H',KpS a.own H H'->HandAt cH H' a g s1->Q .non H')/\(yE ow d s=none->ErrU uh E a.own H g)
def wP(q:Str×Bool)(s:Hs):Option Hs:=if q.2=true then zL q.1 s else some s
theorem xQ(q:Str×Bool)(l:List (Str×Bool))(s:Hs):zT (q::l) s=(wP q s).bind (zT l):=by
 obtain⟨x,b⟩:=q
 cases b<;>rfl
theorem yK:∀(l:List (Str×Bool))(q:Str×Bool)(s:Hs),zT (l++[q]) s=(zT l s).bind (wP q)
 |[],q,s=>by
  rw[List.nil_append,xQ]
  show(wP q s).bind (fun s=>some s)=wP q s
  cases wP q s<;>rfl
 |y::l,q,s=>by
  rw[List.cons_append,xQ,xQ]
  cases wP y s with
  |none=>rfl
  |some s1=>exact yK l q s1
theorem Z5{l:List (Str×Bool)}{s:Hs}{i:Nat}(h:zT (l.take i) s=none):zT l s=none:=by
 rw[<- Ug i l]
 generalize l.drop i=r
 generalize l.take i=l' at *
 induction r generalizing l' with
 |nil=>rw[uO];exact h
 |cons x r ih =>
  have:=ih (l':=l'++[x]) (by rw[yK,h];rfl)
  rwa [Uj]at this
def wD(q:Str×Bool)(s:Hs):Bool:=q.2 || zB q.1 s
theorem xA:∀(l:List (Str×Bool))(s:Hs),yI l s=l.all fun q=>wD q s
 |[],s=>rfl
 | (x,true)::l,s=>by
  show yI l s=_
  rw[xA l s]
  rfl
 | (x,false)::l,s=>by
  show(zB x s && yI l s)=_
  rw[xA l s]
  rfl
theorem Jh{H:Hp}{d:Dd}{p:Addr}(ow:Ow)(h:IsDd H d p):∃(tg:Str)(xs:List V),H p=some (.tup (.str tg::xs))/\((tg="func"/\∃g ns,d=.fn g ns/\xs[0]?=some (.str g))\/(tg="make"/\∃t ns k q,d=.mk t ns k/\xs=[.str t,.ref q,.str k]/\H q=some (.tup (ns.map V.str)))\/(tg≠"func"/\tg≠"make"/\∀s,vg ow d s=some s)):=by
 cases d with
 |num i=>exact⟨_,_,h,.inr (.inr ⟨by decide,by decide,fun _=>rfl⟩)⟩
 |op o a b=>exact⟨_,_,h,.inr (.inr ⟨by decide,by decide,fun _=>rfl⟩)⟩
 |mk t ns k=>obtain⟨r,h1,h2⟩:=h;exact⟨_,_,h1,.inr (.inl ⟨rfl,t,ns,k,r,rfl,rfl,h2⟩)⟩
 |call g ns=>obtain⟨r,h1,h2⟩:=h;exact⟨_,_,h1,.inr (.inr ⟨by decide,by decide,fun _=>rfl⟩)⟩
 |fn g ns=>obtain⟨r,h1,h2⟩:=h;exact⟨_,_,h1,.inl ⟨rfl,g,ns,rfl,rfl⟩⟩
 |ask g ns=>obtain⟨r,h1,h2⟩:=h;exact⟨_,_,h1,.inr (.inr ⟨by decide,by decide,fun _=>rfl⟩)⟩
theorem strd(a b:Str):decide (V.str a=V.str b)=decide (a=b):=by
 by_cases c:a=b
 ·rw[decide_eq_true c,decide_eq_true (congrArg V.str c)]
 ·rw[decide_eq_false c,decide_eq_false fun z=>c (V.str.inj z)]
theorem scCkDeed:FnScope ["owns","deed","hand","ends","name","end"] lS25 (zn Zm):=.ok
theorem Wm(F:Fun K "check_deed" "check_deed" Zm f fd)(T:TH K cH)(GN':Ca P w K mg base CX0 1 "names_of" ["deed"] wO)(GD:Ca P w K mg base CX0 2 "used_up" ["deed","owns"] Z4)(GI:Me P w K mg base (CXf P w) 3 cH "insist" lS13 (yF cH uh))(GU:Me P w K mg base (CXf P w) 4 cH "use_up" lS5 (vh cH uh zL))(GL:Me P w K mg base (CXf P w) 4 cH "look_at" lS5 (Zt cH uh))(GT:Me P w K mg base (CXf P w) 4 cH "use_up_token" lS23 (YQ cH uh))
  (m_len:mg "len"=none) (m_list:mg "list"=none) (m_zip:mg "zip"=none) (m_all:mg "all"=none):FnOk P w K mg base (CXf P w) 5 f fd lS25 (Jg cH uh):=by
 refine F.byx scCkDeed (fun vs H Q E h=>?_) (fun cdv A' outer s H vs Q E hr h=>?_)
 ·obtain⟨od,p,d,ow,a,g,s,rfl,_⟩:=h
  rfl
 obtain⟨od,p,d,ow,a,g,s,rfl,hI,hl,hO,hok,hA,hno,hL,hT,hF⟩:=h
 have hr3:Room 3 _:=hr.mono (by decide)
 have hr2:Room 2 _:=hr.mono (by decide)
 have hr1:Room 1 _:=hr.mono (by decide)
 refine⟨_,
  (zh (sE 3 scCkDeed.nd (QJ rfl rfl m_list rfl m_zip (jA2 (cA GN' hr1 (jA1 (jv 1))) (cA GD hr2 (jA2 (jv 1) (jv 0))))))
  (zh (yg ownx rfl (zQ (jv 3)) (wq rfl (zC (gN 4 scCkDeed.nd) (zC (gN 5 scCkDeed.nd) yA)))
   (zj (zw (zE (jv 5))
    (zj (zy (yi (jv 2) T.cl GU hr zX (jA1 (jv 4))))) zp)))
  (zh (yg ownx rfl (zQ (jv 3)) (wq rfl (zC (gN 4 scCkDeed.nd) (zC (gN 5 scCkDeed.nd) yA)))
   (zj (zw (yM (zE (jv 5)))
    (zj (zy (yi (jv 2) T.cl GL hr zX (jA1 (jv 4))))) zp)))
  (zh (zw (tN zz (xT 1) zo)
   (zj (zy (yi (jv 2) T.cl GI hr3 zX (jA1 (zS (jb rfl) rfl m_all PyProof.Rows.boot_all (jA1 (wz hr (jv 0) (xT 1)))))))) zp)
  (zj (zw (jW.pt (yh (tN zz (xT 1) zo) (yd (tN wY (xT 1) zo))))
   (zj (zy (yi (jv 2) T.cl GI hr3 zX (jA1 (zP zz (yi (jv 2) T.cl GT hr zX (jA1 (xT 1))) (jL m_len (xT 1)) (zY _)))))) zp)))))),?_⟩
 have sl:=zN
 refine⟨_,rfl,p,d,rfl,hI,hl,fun H1 r1 s1 h1=>⟨_,rfl,_,rfl,p,od,d,ow,rfl,hI.keep (.of s1),hl,hO.same s1,hok,fun H2 r2 s2 h2=>?_⟩⟩
 refine⟨r1,r2,(yk d).map V.str,(wo ow d).map V.bl,rfl,.inr (SqT.of (s2 _ _ h1)),.inr (SqT.of h2),fun H3 pl ps s3 _ hpl hps _ _ hpt=>?_⟩
 generalize hes:(yk d).zip (wo ow d)=es at *
 have lps:ps.length=es.length:=by rw[hps,<- hes,tV,ua,ua]
 have pt:∀(i:Nat)(t:Addr),ps[i]?=some t->∃e:Str×Bool,es[i]?=some e/\H3 t=some (.tup [.str e.1,.bl e.2]):=fun i t ht=>by
  have hi:i < es.length:=by rw[<- lps];exact(ug.mp ht).1
  obtain⟨e,he⟩:∃e,es[i]?=some e:=⟨_,um hi⟩
  have he2:((yk d).zip (wo ow d))[i]?=some e:=by rw[hes];exact he
  rw[U0]at he2
  obtain⟨t',h1',h2'⟩:=hpt i (.str e.1) (.bl e.2) (by rw[uk,he2.1];rfl) (by rw[uk,he2.2];rfl)
  rw[ht]at h1'
  cases h1'
  exact⟨_,he,h2'⟩
 have s03:=(s1.trans s2).trans s3
 have hA3:=hA.same s03
 have hI3:=hI.keep (.of s03)
 have hO3:=hO.same s03
 have hF3:yE ow d s=none->ErrU uh E a.own H3 g:=fun e=>(hF e).at (.of s03) fun _ z=>z
 have hT3:∀st,yE ow d s=some st->∀H',KpS a.own H3 H'->HandAt cH H' a g st->Q .non H':=fun st e H' k=>hT st e H' ((KpS.of s03).trans k)
 clear hF hT hI hO hA s1 s2 s3 s03 h1 h2 hpt hps hl
 have lst:∀{H':Hp},KpS a.own H3 H'->H' pl=some (.lst (ps.map V.ref)):=fun k=>k _ _ (fun z=>z.elim (fun e=>by rw[e,hA3.n]at hpl;cases hpl) fun e=>by rw[e,hA3.t]at hpl;cases hpl) hpl
 have eD:yE ow d s=(zT es s).bind fun s1=>if yI es s1=true then vg ow d s1 else none:=by unfold yE;rw[hes]
 dsimp only
 refine⟨_,rfl,⟨_,rfl,⟨_,SqL.of hpl⟩,yJ (xs:=ps.map V.ref) (fun i σ H'=>∃s1 x y,σ=[some (.ref od),some (.ref p),some (.ref a.h),some (.ref pl),x,y]/\KpS a.own H3 H'/\HandAt cH H' a g s1/\zT (es.take i) s=some s1/\s1.ns.length<=s.ns.length) ⟨s,none,none,rfl,.refl,hA3,rfl,ui _⟩ (fun i σ H' _ h=>?_) ?_ ?_⟩⟩
 ·obtain⟨_,_,_,_,k,_⟩:=h
  exact SqL.of (lst k)
 ·rintro i v σ H4 hv ⟨s4,x,y,rfl,k4,hA4,e4,l4⟩
  rw[uk]at hv
  obtain⟨t,ht,rfl⟩:=uf.mp hv
  obtain⟨e,he,ht3⟩:=pt i t ht
  have tn:es.take (i+1)=es.take i++[e]:=by rw[UY,he];rfl
  refine⟨_,_,rfl,SqT.of (hA3.tup k4 ht3),rfl,_,_,rfl,_,_,rfl,rfl,?_⟩
  refine⟨_,rfl,_,rfl,?_⟩
  obtain⟨n,b⟩:=e
  cases b with
  |true =>
   refine iteT ⟨_,rfl,a.h,a.dx,_,rfl,hA4.o,rfl,_,rfl,a,g,s4,n,rfl,hA4,by lia,fun s5 e5 H5 k5 hA5=>?_,fun er=>?_⟩
   ·exact⟨s5,_,_,rfl,k4.trans k5,hA5,by rw[tn,yK,e4];exact e5,uy (wf e5).1 l4⟩
   ·refine((hF3 ?_).at k4 fun _ z=>z).mk
    rw[eD,Z5 (i:=i+1) (by rw[tn,yK,e4];exact er)]
    rfl
  |false =>
   refine iteF (nxtC ?_)
   exact⟨s4,_,_,rfl,k4,hA4,by rw[tn,yK,e4];rfl,l4⟩
 rintro σ H4 ⟨s1,x,y,rfl,k4,hA4,e4,l4⟩
 rw[ua,lps,uV (ui _)]at e4
 rw[e4,uz]at eD
 refine⟨_,rfl,⟨_,rfl,⟨_,SqL.of (lst k4)⟩,yJ (xs:=ps.map V.ref) (fun i σ H'=>H4=H'/\(∃x y,σ=[some (.ref od),some (.ref p),some (.ref a.h),some (.ref pl),x,y])/\∀q∈es.take i,wD q s1=true) ⟨rfl,⟨_,_,rfl⟩,fun q hq=>by simp at hq⟩ (fun i σ H' _ h=>h.1 ▸ SqL.of (lst k4)) ?_ ?_⟩⟩
 ·rintro i v σ H5 hv ⟨rfl,⟨x,y,rfl⟩,hall⟩
  rw[uk]at hv
  obtain⟨t,ht,rfl⟩:=uf.mp hv
  obtain⟨e,he,ht3⟩:=pt i t ht
  have tn:es.take (i+1)=es.take i++[e]:=by rw[UY,he];rfl
  have go:wD e s1=true->∀q∈es.take (i+1),wD q s1=true:=fun h q hq=>by
   rw[tn]at hq
   rcases uF.mp hq with z|z
   ·exact hall q z
   ·rw[uv.mp z]
    exact h
  refine⟨_,_,rfl,SqT.of (hA3.tup k4 ht3),rfl,_,_,rfl,_,_,rfl,rfl,?_⟩
  refine⟨_,rfl,_,rfl,?_⟩
  obtain⟨n,b⟩:=e
  cases b with
  |true=>exact iteF (nxtC ⟨rfl,⟨_,_,rfl⟩,go rfl⟩)
  |false =>
   refine iteT ⟨_,rfl,a.h,a.dx,_,rfl,hA4.o,rfl,_,rfl,a,g,s1,n,rfl,hA4,fun hb=>⟨rfl,⟨_,_,rfl⟩,go hb⟩,fun hb=>?_⟩
   refine((hF3 ?_).at k4 fun _ z=>z).mk
   rw[eD,if_neg (fun z=>?_)]
   rw[xA,u9]at z
   have:=z (n,false) (uB he)
   rw[show wD (n,false) s1=zB n s1 from rfl,hb]at this
   cases this
 rintro σ H5 ⟨rfl,⟨x,y,rfl⟩,hall⟩
 rw[ua,lps,uV (ui _)]at hall
 rw[if_pos (by rw[xA,u9];exact hall)]at eD
 obtain⟨tg,xs,h0,hc⟩:=Jh ow (hI3.keep (hA3.tups k4))
 dsimp only
 refine jz (fun σ' H'=>σ'=[some (.ref od),some (.ref p),some (.ref a.h),some (.ref pl),x,y]/\H'=H4/\(tg="make"\/vg ow d s1=some s1)) ?fin ?key
 case key =>
  intro u Dn _ fin
  refine⟨_,rfl,ixT h0 aI0 ⟨rfl,_,rfl,?_⟩⟩
  rw[strd]
  rcases hc with⟨rfl,g',ns,rfl,hg⟩|⟨rfl,_⟩|⟨h1,h2,h3⟩
  ·obtain⟨kvs,o1,o2⟩:=hO3.keep (H':=H4) fun b o hb q=>by
    rcases hb with rfl|⟨xs,rfl⟩
    ·exact k4 _ _ hno q
    ·exact hA3.tup k4 q
   obtain⟨bs,hbs⟩:=hok
   obtain⟨r,v1,v2⟩:=o2 g' bs hbs
   refine iteT ⟨_,rfl,a.h,a.dx,_,rfl,hA4.o,rfl,_,rfl,_,rfl,ixT h0 (zJ (j:=1) (by rw[List.getElem?_cons_succ];exact hg)) ⟨od,.ref r,rfl,by rw[<- v1];exact DGet.k (k:=.inr g') o1,r,bs,rfl,v2,a,g,s1,_,rfl,hA4,fun hb=>?_,fun hb=>?_⟩⟩
   ·refine fin _ _ ⟨rfl,rfl,.inr ?_⟩
    show(if((look ow g').getD []).all id=true then some s1 else none)=_
    rw[hbs]
    exact if_pos hb
   ·refine((hF3 ?_).at k4 fun _ z=>z).mk
    rw[eD]
    show(if((look ow g').getD []).all id=true then some s1 else none)=_
    rw[hbs]
    exact if_neg (fun z=>by rw[show(some bs).getD []=bs from rfl]at z;rw[z]at hb;cases hb)
  ·exact iteF (nxtC (fin _ _ ⟨rfl,rfl,.inl rfl⟩))
  ·rw[decide_eq_false h1]
   exact iteF (nxtC (fin _ _ ⟨rfl,rfl,.inr (h3 s1)⟩))
 case fin =>
 rintro σ' H6 ⟨rfl,rfl,hm⟩
 refine⟨_,rfl,ixT h0 aI0 ⟨rfl,_,rfl,?_⟩⟩
 rw[strd]
 by_cases cm:tg="make"
 ·rcases hc with⟨rfl,_⟩|⟨_,t,ns,k,q,rfl,rfl,hq⟩|⟨_,h2,_⟩
  ·exact absurd cm (by decide)
  ·subst cm
   refine iteT ⟨_,rfl,ixT h0 aI3 ⟨rfl,_,rfl,?_⟩⟩
   rw[strd]
   by_cases ck:k=""
   ·rw[decide_eq_true ck]
    refine iteF (nxtC (hT3 s1 ?_ _ k4 hA4))
    rw[eD]
    exact if_pos ck
   ·rw[decide_eq_false ck]
    have eR:yE ow (.mk t ns k) s=(useT k s1).bind fun p=>if p.1=((ns.length:Nat):Int)then some p.2 else none:=by
     rw[eD]
     exact if_neg ck
    refine iteT ⟨_,rfl,a.h,a.dx,_,rfl,hA4.o,rfl,_,rfl,a.h,a.dx,_,rfl,hA4.o,rfl,_,rfl,ixT h0 aI3 ⟨a,g,s1,k,rfl,hA4,fun st e5 H5 k5 hA5=>?_,fun e=>?_⟩⟩
    ·rw[e5,uz]at eR
     have h05:=hA4.tup k5 h0
     have hq5:=hA4.tup k5 hq
     refine⟨_,rfl,ixT h05 aI2 ⟨q,_,rfl,.inr (SqT.of hq5),rfl,?_⟩⟩
     rw[ua]
     refine⟨a,g,st.2,_,rfl,hA5,fun hb=>?_,fun hb=>?_⟩
     ·refine hT3 st.2 ?_ _ (k4.trans k5) hA5
      rw[eR,if_pos (V.int.inj (of_decide_eq_true hb))]
     ·refine((hF3 ?_).at (k4.trans k5) fun _ z=>z).mk
      rw[eR,if_neg (fun z=>of_decide_eq_false hb (congrArg V.int z))]
    ·refine((hF3 ?_).at k4 fun _ z=>z).mk
     rw[eR,e]
     rfl
  ·exact absurd cm h2
 ·rw[decide_eq_false cm]
  have hr1:vg ow d s1=some s1:=hm.resolve_left cm
  exact iteF (iteF (nxtC (hT3 s1 (by rw[eD];exact hr1) _ k4 hA4)))
end
mutual
def Bd.wt:Bd->Nat
 |.give _=>0
 |.lt _ _ b=>b.wt+1
 |.hold _ _ b=>b.wt+1
 |.drop _ b=>b.wt
 |.loose _ b=>b.wt
 |.iff _ b c=>b.wt+c.wt
 |.cs _ as=>as.wt
def Arms.wt:Arms->Nat
 |.nil=>0
 |.cons _ ns _ _ b r=>ns.length+1+b.wt+r.wt
end
structure ArmR where
 t:Str
 ns:List Str
 m:Str
 k:Str
 b:Bd
def Arms.l:Arms->List ArmR
 |.nil=>[]
 |.cons t ns m k b r=>⟨t,ns,m,k,b⟩ :: r.l
mutual
def OkBd(ow:Ow):Bd->Prop
 |.give _=>True
 |.lt _ d b=>(yk d).length<=1000/\OkD ow d/\OkBd ow b
 |.hold _ _ b=>OkBd ow b
 |.drop _ b=>OkBd ow b
 |.loose _ b=>OkBd ow b
 |.iff _ b c=>OkBd ow b/\OkBd ow c
 |.cs _ as=>as.l.length<=1000/\OkAs ow as
def OkAs(ow:Ow):Arms->Prop
 |.nil=>True
 |.cons _ _ _ _ b r=>OkBd ow b/\OkAs ow r
end
def yN(x:Str):List ArmR->Hs->Option (List (Bd×Hs))
 |[],_=>some []
 |q::r,s=>(armC x q.ns q.m q.k s).bind fun s1=>(yN x r s).map fun l=>(q.b,s1)::l
theorem Xx{x:Str}{s:Hs}:∀{as:Arms},xp x as s=yN x as.l s
 |.nil=>rfl
 |.cons t ns m k b r=>by
  show(armC x ns m k s).bind _=(armC x ns m k s).bind _
  rw[Xx (as:=r)]
theorem xj{x:Str}{s:Hs}:∀(l:List ArmR)(q:ArmR),yN x (l++[q]) s=(yN x l s).bind fun r=>(armC x q.ns q.m q.k s).map fun s1=>r++[(q.b,s1)]
 |[],q=>by
  show(armC x q.ns q.m q.k s).bind (fun s1=>some [(q.b,s1)])=(armC x q.ns q.m q.k s).map _
  cases armC x q.ns q.m q.k s<;>rfl
 |y::l,q=>by
  rw[List.cons_append,yN,yN,xj l q]
  cases armC x y.ns y.m y.k s with
  |none=>rfl
  |some s1 =>
   dsimp only[uz]
   cases yN x l s with
   |none=>rfl
   |some r =>
    dsimp only[uz,Option.map_some]
    cases armC x q.ns q.m q.k s<;>rfl
theorem Z6{x:Str}{s:Hs}{l:List ArmR}{i:Nat}(h:yN x (l.take i) s=none):yN x l s=none:=by
 rw[<- Ug i l]
 generalize l.drop i=r
 generalize l.take i=l' at *
 induction r generalizing l' with
 |nil=>rw[uO];exact h
 |cons y r ih =>
  have:=ih (l':=l'++[y]) (by rw[xj,h];rfl)
  rwa [Uj]at this
theorem Arms.l_wt:∀{as:Arms}{q:ArmR},q∈as.l->q.ns.length+1+q.b.wt<=as.wt
 |.nil,q,h=>by cases h
 |.cons t ns m k b r,q,h=>by
  rw[Arms.wt]
  rcases uu.mp h with e|e
  ·rw[e]
   dsimp only
   lia
  ·have:=Arms.l_wt e
   lia
theorem IsArms.len{H:Hp}:∀{as:Arms}{ts:List Addr},IsArms H as ts->ts.length=as.l.length
 |.nil,ts,h=>by
  have h:ts=[]:=h
  rw[h]
  rfl
 |.cons t ns m k b r,ts,h=>by
  obtain⟨p,q,s,ts',rfl,_,_,_,h⟩:=h
  rw[uM,IsArms.len h]
  rfl
theorem IsArms.get{H:Hp}:∀{as:Arms}{ts:List Addr}{i:Nat}{t:Addr},IsArms H as ts->ts[i]?=some t->∃(q:ArmR)(p s:Addr),as.l[i]?=some q/\H t=some (.tup [.str q.t,.ref p,.str q.m,.str q.k,.ref s])/\H p=some (.tup (q.ns.map V.str))/\IsBd H q.b s
 |.nil,ts,i,t,h,e=>by
  have h:ts=[]:=h
  rw[h]at e
  simp at e
 |.cons tg ns m k b r,ts,i,t,h,e=>by
  obtain⟨p,q,s,ts',rfl,h1,h2,h3,h4⟩:=h
  cases i with
  |zero =>
   simp at e
   subst e
   exact⟨⟨tg,ns,m,k,b⟩,q,s,rfl,h1,h2,h3⟩
  |succ i =>
   obtain⟨q',p',s',g1,g2⟩:=IsArms.get (i:=i) h4 (by simpa using e)
   exact⟨q',p',s',by simpa[Arms.l]using g1,g2⟩
structure En where
 t:Addr
 p:Addr
 b:Bd
 a:Ha
 s:Hs
structure EnAt(cH:Addr)(H:Hp)(g:Str)(e:En):Prop where
 t:H e.t=some (.tup [.ref e.p,.ref e.a.h])
 b:IsBd H e.b e.p
 a:HandAt cH H e.a g e.s
theorem EnAt.same{cH:Addr}{H H':Hp}{g:Str}{e:En}(h:EnAt cH H g e)(k:Same H H'):EnAt cH H' g e:=⟨k _ _ h.t,h.b.keep (.of k),h.a.same k⟩
theorem EnAt.putL{cH:Addr}{H:Hp}{g:Str}{e:En}{w:Addr}{xs ys:List V}(h:EnAt cH H g e)(hw:H w=some (.lst xs)):EnAt cH (upd H w (.lst ys)) g e :=
 ⟨by rw[zm (xB h.t hw (by intro z;cases z))];exact h.t,h.b.keep fun p xs q=>by rw[zm (xB q hw (by intro z;cases z))];exact q,h.a.keep fun b o hb q=>by
  rw[zm (fun z=>?_)]
  ·exact q
  ·rw[z]at hb
   rcases hb with e|e|e
   ·rw[e,h.a.o]at hw;cases hw
   ·rw[e,h.a.n]at hw;cases hw
   ·rw[e,h.a.t]at hw;cases hw⟩
def En.fp(e:En):List Addr:=[e.a.dn,e.a.dt]
structure Ens(cH:Addr)(H:Hp)(g:Str)(es:List En):Prop where
 at_:∀e∈es,EnAt cH H g e
 nd:(es.flatMap En.fp).Nodup
theorem Ens.same{cH:Addr}{H H':Hp}{g:Str}{es:List En}(h:Ens cH H g es)(k:Same H H'):Ens cH H' g es:=⟨fun e he=>(h.at_ e he).same k,h.nd⟩
theorem Ens.putL{cH:Addr}{H:Hp}{g:Str}{es:List En}{w:Addr}{xs ys:List V}(h:Ens cH H g es)(hw:H w=some (.lst xs)):Ens cH (upd H w (.lst ys)) g es:=⟨fun e he=>(h.at_ e he).putL hw,h.nd⟩
theorem Ens.in_{cH:Addr}{H:Hp}{g:Str}{es:List En}(h:Ens cH H g es){b:Addr}(hb:b∈es.flatMap En.fp):∃o,H b=some o:=by
 obtain⟨e,he,hm⟩:=List.mem_flatMap.mp hb
 unfold En.fp at hm
 simp only[uu,uD,or_false]at hm
 rcases hm with z|z
 ·rw[z];exact⟨_,(h.at_ e he).a.n⟩
 ·rw[z];exact⟨_,(h.at_ e he).a.t⟩
theorem Ens.snoc{cH:Addr}{H:Hp}{g:Str}{es:List En}{e:En}(h:Ens cH H g es)(he:EnAt cH H g e)(hn:∀b∈e.fp,b∉es.flatMap En.fp):Ens cH H g (es++[e]):=by
 refine⟨fun x hx=>?_,?_⟩
 ·rcases uF.mp hx with z|z
  ·exact h.at_ x z
  ·rw[uv.mp z]
   exact he
 ·rw[UT,UG]
  refine⟨h.nd,?_,fun a ha b hb=>?_⟩
  ·rw[U4,tm,uO]
   unfold En.fp
   simp[he.a.ne]
  ·rw[U4,tm,uO]at hb
   exact fun z=>hn b hb (z ▸ ha)
def Ji(cH uh:Addr):Sp:=fun vs H Q E=>∃(p q:Addr)(ts:List Addr)(x:Str)(as:Arms)(a:Ha)(g:Str)(s:Hs),vs=[.ref p,.ref a.h]/\H p=some (.tup [.str "case",.str x,.ref q])/\H q=some (.tup (ts.map V.ref))/\IsArms H as ts/\ts.length<=1000/\HandAt cH H a g s/\s.ns.length+s.ts.length+as.wt < 1000000 /\
 (∀l,pc [] (.cs x as) s=some l->∀(H':Hp)(r:Addr)(es:List En),Same H H'->H r=none->H' r=some (.lst (es.map fun e=>.ref e.t))->Ens cH H' g es->es.map (fun e=>(e.b,e.s))=l->(∀e∈es,New H e.a)->Q (.ref r) H')/\(pc [] (.cs x as) s=none->ErrU uh E (fun _=>False) H g)
section
variable{P:Program}{w:World}{K:ub}{mg:Str->Option Value}{base:Heap}{f R C cH uh:Addr}{fd:FuncData}
theorem scCkCase:FnScope ["body","hand","within","arm","there"] lS17 (zn Zn):=.ok
theorem Wn(F:Fun K "check_case" "check_case" Zn f fd)(T:TH K cH)(GL:Me P w K mg base (CXf P w) 4 cH "look_at" lS5 (Zt cH uh))(GC:Ca P w K mg base CX0 3 "copied" ["hand"] (vT cH))(GA:Ca P w K mg base (CXf P w) 5 "check_arm" ["name","arm","hand"] (zaU cH uh)):FnOk P w K mg base (CXf P w) 6 f fd lS17 (Ji cH uh):=by
 refine F.byx scCkCase (fun vs H Q E h=>?_) (fun cdv A' outer s H vs Q E hr h=>?_)
 ·obtain⟨p,q,ts,x,as,a,g,s,rfl,_⟩:=h
  rfl
 obtain⟨p,q0,ts,x,as,a,g,s,rfl,hp,hq,hI,ht1,hA,hL,hT,hF⟩:=h
 have hr4:Room 4 _:=hr.mono (by decide)
 have hr3:Room 3 _:=hr.mono (by decide)
 refine⟨_,
  (zh (zy (yi (jv 1) T.cl GL hr4 zX (jA1 (xT 0))))
  (zh (sE 2 scCkCase.nd (zv zA))
  (zh (yg ownx rfl (yB (xT 0)) (gN 3 scCkCase.nd)
   (zh (sE 4 scCkCase.nd (cA GC hr3 (jA1 (jv 1))))
   (zh (zy (w9 GA hr rfl zX (jA3 (xT 0) (jv 3) (jv 4))))
   (zj (zy (xg uJ uZ u6 yf (jv 2) (jA1 (zu (jA2 (xT 3) (jv 4))))))))))
  (zj (zq (jv 2)))))),?_⟩
 have sl:=zN
 have tl:=hI.len
 refine⟨_,rfl,a.h,a.dx,_,rfl,hA.o,rfl,_,rfl,ixT hp aI1 ⟨a,g,s,x,rfl,hA,fun hb=>?_,fun hb=>hF (by rw[pc,if_neg (by rw[hb];decide)])⟩⟩
 have ePc:pc [] (.cs x as) s=yN x as.l s:=by rw[pc,if_pos hb,Xx]
 rw[ePc]at hT hF
 refine⟨sN0,fun lw hlw=>?_⟩
 have s1:=zi hlw (.lst [])
 have w1:=zg (H:=H) (a:=lw) (o:=.lst [])
 dsimp only
 generalize upd H lw (.lst [])=H1 at *
 refine⟨_,rfl,ixT (s1 _ _ hp) aI2 ⟨q0,rfl,⟨_,SqT.of (s1 _ _ hq)⟩,xc (xs:=ts.map V.ref) (fun i σ H'=>∃es y z,σ=[some (.ref p),some (.ref a.h),some (.ref lw),y,z]/\Same H H'/\H' lw=some (.lst (es.map fun e=>.ref e.t))/\Ens cH H' g es/\yN x (as.l.take i) s=some (es.map fun e=>(e.b,e.s))/\(∀e∈es,New H e.a)/\es.length=i) ⟨[],none,none,rfl,s1,w1,⟨(fun e he=>by cases he),UP⟩,rfl,(fun e he=>by cases he),rfl⟩ (fun i σ H' _ h=>?_) ?_ ?_⟩⟩
 ·obtain⟨_,_,_,_,k,_⟩:=h
  exact SqT.of (k _ _ hq)
 ·rintro i v σ H2 hv ⟨es,y,z,rfl,s2,w2,hE2,e2,n2,el⟩
  rw[uk]at hv
  obtain⟨t,ht,rfl⟩:=uf.mp hv
  have hi:=(ug.mp ht).1
  obtain⟨q,pn,ps,hq1,hq2,hq3,hq4⟩:=hI.get ht
  have tn:as.l.take (i+1)=as.l.take i++[q]:=by rw[UY,hq1];rfl
  have hwt:=Arms.l_wt (uB hq1)
  refine⟨_,rfl,a,g,s,rfl,hA.same s2,fun H3 a3 s3 n3 hA3=>?_⟩
  have s03:=s2.trans s3
  refine⟨_,rfl,ixT (s03 _ _ hp) aI1 ⟨_,rfl,_,rfl,t,pn,x,q.t,q.m,q.k,q.ns,.ref ps,a3,g,s,rfl,s03 _ _ hq2,s03 _ _ hq3,hA3,by lia,by lia,fun s4 e4 H4 k4 hA4=>?_,fun e=>?_⟩⟩
  ·have s24:Same H2 H4:=fun b o hb=>k4 _ _ (fun z=>z.elim (fun e=>by rw[e,n3.n]at hb;cases hb) fun e=>by rw[e,n3.t]at hb;cases hb) (s3 _ _ hb)
   have s04:=s2.trans s24
   have w4:=s24 _ _ w2
   have hE4:=hE2.same s24
   refine⟨_,rfl,.inl ⟨rfl,_,SqL.of w4⟩,_,rfl,ixT (s04 _ _ hq2) aI4 ⟨_,rfl,sN2,fun p5 hp5=>?_⟩⟩
   have s5:=zi hp5 (.tup [.ref ps,.ref a3.h])
   have w5:=s5 _ _ w4
   have hE5:=hE4.same s5
   have hA5:=hA4.same s5
   have t5:=zg (H:=H4) (a:=p5) (o:=.tup [.ref ps,.ref a3.h])
   have b5:=hq4.keep (.of (s04.trans s5))
   generalize upd H4 p5 (.tup [.ref ps,.ref a3.h])=H5 at *
   refine⟨lw,_,_,rfl,rfl,w5,by rw[ua];lia,?_⟩
   have hEn:EnAt cH H5 g ⟨p5,ps,q.b,a3,s4⟩:=⟨t5,b5,hA5⟩
   have hEs:Ens cH H5 g (es++[⟨p5,ps,q.b,a3,s4⟩]):=hE5.snoc hEn fun b hb hm=>by
    obtain⟨o,ho⟩:=hE2.in_ hm
    unfold En.fp at hb
    simp only[uu,uD,or_false]at hb
    rcases hb with e|e
    ·rw[e,n3.n]at ho;cases ho
    ·rw[e,n3.t]at ho;cases ho
   have fr:∀{c:Addr},H2 c=none->H c=none:=fun{c} h=>s2.free h
   refine⟨es++[⟨p5,ps,q.b,a3,s4⟩],_,_,rfl,(s04.trans s5).put hlw,by rw[zg,uj];rfl,hEs.putL w5,?_,?_,by rw[uc,el];rfl⟩
   ·rw[tn,xj,e2,uz,e4,uj]
    rfl
   ·intro e he
    rcases uF.mp he with z|z
    ·exact n2 e z
    ·rw[uv.mp z]
     exact⟨fr n3.h,fr n3.n,fr n3.t⟩
  ·have hn:yN x as.l s=none:=Z6 (i:=i+1) (by rw[tn,xj,e2,uz,e];rfl)
   refine fun d H' k' hd=>hF hn d H' (fun b o _ hb=>?_) hd
   exact k' _ _ (fun z=>z.elim (fun e=>by rw[e,s2.free n3.n]at hb;cases hb) fun e=>by rw[e,s2.free n3.t]at hb;cases hb) (s03 _ _ hb)
 ·rintro σ H2 ⟨es,y,z,rfl,s2,w2,hE2,e2,n2,el⟩
  rw[ua,tl,uV (ui _)]at e2
  exact⟨_,rfl,hT _ e2 H2 lw es s2 hlw w2 hE2 rfl n2⟩
def Xy(cH uh:Addr):Sp:=fun vs H Q E=>∃(od p:Addr)(b:Bd)(ow:Ow)(a:Ha)(g:Str)(s:Hs),vs=[.ref od,.ref p,.ref a.h]/\IsBd H b p/\OwAt H od ow/\OkBd ow b/\HandAt cH H a g s/\¬ a.own od/\s.ns.length+s.ts.length+b.wt < 1000000 /\
 (∀l,pc ow b s=some l->∀(H':Hp)(r:Addr)(es:List En),KpS a.own H H'->H r=none->H' r=some (.lst (es.map fun e=>.ref e.t))->Ens cH H' g es->es.map (fun e=>(e.b,e.s))=l->(∀e∈es,e.a=a\/New H e.a)->Q (.ref r) H')/\(pc ow b s=none->ErrU uh E a.own H g)
theorem KpS.free{S:Addr->Prop}{H H':Hp}{c:Addr}(k:KpS S H H')(n:¬ S c)(h:H' c=none):H c=none:=by
 cases z:H c with
 |none=>rfl
 |some o=>rw[k _ _ n z]at h;cases h
theorem HandAt.no{cH:Addr}{H:Hp}{a:Ha}{g:Str}{s:Hs}(h:HandAt cH H a g s){c:Addr}(hc:H c=none):¬ a.own c:=fun z=>z.elim (fun e=>by rw[e,h.n]at hc;cases hc) fun e=>by rw[e,h.t]at hc;cases hc
theorem wg{cH:Addr}{H:Hp}{g:Str}{e:En}(h:EnAt cH H g e):Ens cH H g [e]:=(⟨(fun e he=>by cases he),UP⟩:Ens cH H g []).snoc h fun b _ hm=>by cases hm
theorem wr:∀{l:List (Str×Bool)}{s s':Hs},zT l s=some s'->s'.ns.length<=s.ns.length/\s'.ts=s.ts
 |[],s,s',h=>by cases h;exact⟨ui _,rfl⟩
 | (x,true)::r,s,s',h=>by
  obtain⟨s1,h1,h2⟩:=uN.mp (show(zL x s).bind (zT r)=some s' from h)
  have a:=wf h1
  have b:=wr h2
  exact⟨uy b.1 a.1,by rw[b.2,a.2]⟩
 | (x,false)::r,s,s',h=>wr (l:=r) h
theorem Z7{t:Str}{s:Hs}{p:Int×Hs}(h:useT t s=some p):p.2.ns=s.ns/\p.2.ts.length<=s.ts.length:=by
 unfold useT at h
 obtain⟨n,_,rfl⟩:=uf.mp h
 exact⟨rfl,Ut _ _⟩
theorem Wo{ow:Ow}{d:Dd}{s s':Hs}(h:vg ow d s=some s'):s'.ns.length<=s.ns.length/\s'.ts.length<=s.ts.length:=by
 cases d with
 |fn g ns =>
  have h:(if((look ow g).getD []).all id=true then some s else none)=some s':=h
  split at h
  ·cases h;exact⟨ui _,ui _⟩
  ·cases h
 |mk t ns k =>
  have h:(if k=""then some s else(useT k s).bind fun p=>if p.1=((ns.length:Nat):Int)then some p.2 else none)=some s':=h
  split at h
  ·cases h;exact⟨ui _,ui _⟩
  ·obtain⟨p,h1,h2⟩:=uN.mp h
   split at h2
   ·cases h2
    have:=Z7 h1
    exact⟨by rw[this.1];exact ui _,this.2⟩
   ·cases h2
 |num i=>cases h;exact⟨ui _,ui _⟩
 |op _ _ _=>cases h;exact⟨ui _,ui _⟩
 |call _ _=>cases h;exact⟨ui _,ui _⟩
 |ask _ _=>cases h;exact⟨ui _,ui _⟩
theorem jB{ow:Ow}{d:Dd}{s s':Hs}(h:yE ow d s=some s'):s'.ns.length<=s.ns.length/\s'.ts.length<=s.ts.length:=by
 unfold yE at h
 obtain⟨s1,h1,h2⟩:=uN.mp h
 split at h2
 ·have a:=wr h1
  have b:=Wo h2
  rw[a.2]at b
  exact⟨uy b.1 a.1,b.2⟩
 ·cases h2
theorem Wp:FnScope lS21 lS21 (zn vP):=.ok
theorem YT(F:Fun K "check_piece" "check_piece" vP f fd)(T:TH K cH)(GC:Ca P w K mg base (CXf P w) 6 "check_case" lS17 (Ji cH uh))(GL:Me P w K mg base (CXf P w) 4 cH "look_at" lS5 (Zt cH uh))(GCo:Ca P w K mg base CX0 3 "copied" ["hand"] (vT cH))(GG:Ca P w K mg base (CXf P w) 5 "check_give" lS17 (Je cH uh))(GD:Ca P w K mg base (CXf P w) 5 "check_deed" lS25 (Jg cH uh))
  (GB:Me P w K mg base (CXf P w) 4 cH "bind" lS5 (vh cH uh zG)) (GU:Me P w K mg base (CXf P w) 4 cH "use_up" lS5 (vh cH uh zL)) (GT:Me P w K mg base (CXf P w) 4 cH "use_up_token" lS23 (YQ cH uh)):FnOk P w K mg base (CXf P w) 7 f fd lS21 (Xy cH uh):=by
 refine F.byx Wp (fun vs H Q E h=>?_) (fun cdv A' outer s H vs Q E hr h=>?_)
 ·obtain⟨od,p,b,ow,a,g,s,rfl,_⟩:=h
  rfl
 obtain⟨od,p,b,ow,a,g,s,rfl,hI,hO,hok,hA,hno,hL,hT,hF⟩:=h
 have hr5:Room 5 _:=hr.mono (by decide)
 have hr4:Room 4 _:=hr.mono (by decide)
 have hr3:Room 3 _:=hr.mono (by decide)
 refine⟨_,
  (zh (zw (tN zz (xT 1) zo)
   (zj (zq (w9 GC hr rfl zX (jA2 (jv 1) (jv 2))))) zp)
  (zh (zw (tN zz (xT 1) zo)
   (zh (zy (yi (jv 2) T.cl GL hr4 zX (jA1 (xT 1))))
   (zj (zq (zv (jA2 (zu (jA2 (xT 1) (jv 2))) (zu (jA2 (xT 1) (cA GCo hr3 (jA1 (jv 2)))))))))) zp)
  (zh (zw (tN zz (xT 1) zo)
   (zh (zy (w9 GG hr5 rfl zX (jA2 (jv 1) (jv 2))))
   (zj (zq (zv zA)))) zp)
  (zh (zw (tN zz (xT 1) zo)
   (zh (zy (w9 GD hr5 rfl zX (jA3 (jv 0) (xT 1) (jv 2))))
   (zj (zy (yi (jv 2) T.cl GB hr4 zX (jA1 (xT 1))))))
   (zj (zw (tN zz (xT 1) zo)
    (zh (zy (yi (jv 2) T.cl GL hr4 zX (jA1 (xT 1))))
    (zj (zy (yi (jv 2) T.cl GB hr4 zX (jA1 (xT 1))))))
    (zj (zw (tN zz (xT 1) zo)
     (zj (zy (yi (jv 2) T.cl GU hr4 zX (jA1 (xT 1)))))
     (zj (zy (yi (jv 2) T.cl GT hr4 zX (jA1 (xT 1))))))))))
  (zj (zq (zv (jA1 (zu (jA2 (xX vD (jv 1) (vA zk)) (jv 2))))))))))),?_⟩
 have sl:=zN
 cases b with
 |cs x as =>
  obtain⟨q,ts,h1,h2,h3⟩:=hI
  have tl:=h3.len
  have ep:pc ow (.cs x as) s=pc [] (.cs x as) s:=by rw[pc,pc]
  refine⟨_,rfl,ixT h1 aI0 ⟨rfl,_,rfl,iteT ⟨_,rfl,_,rfl,p,q,ts,x,as,a,g,s,rfl,h1,h2,h3,by rw[tl];exact hok.1,hA,hL,fun l e H' r es s' fr hr' hE em' hn=>?_,fun e=>(hF (by rw[ep];exact e)).mk⟩⟩⟩
  exact hT l (by rw[ep];exact e) H' r es (.of s') fr hr' hE em' fun e he=>.inr (hn e he)
 |iff x b c =>
  obtain⟨q,r,h1,h2,h3⟩:=hI
  refine⟨_,rfl,ixT h1 aI0 ⟨rfl,_,rfl,iteF (nxtC ?_)⟩⟩
  refine⟨_,rfl,ixT h1 aI0 ⟨rfl,_,rfl,iteT ⟨_,rfl,a.h,a.dx,_,rfl,hA.o,rfl,_,rfl,ixT h1 aI1 ⟨a,g,s,x,rfl,hA,fun hb=>?_,fun hb=>(hF (by rw[pc,if_neg (by rw[hb];decide)])).mk⟩⟩⟩⟩
  refine⟨_,rfl,ixT h1 aI2 ⟨_,rfl,sN2,fun p1 hp1=>?_⟩⟩
  have s1:=zi hp1 (.tup [.ref q,.ref a.h])
  have t1:=zg (H:=H) (a:=p1) (o:=.tup [.ref q,.ref a.h])
  generalize upd H p1 (.tup [.ref q,.ref a.h])=H1 at *
  refine⟨_,rfl,ixT (s1 _ _ h1) aI3 ⟨_,rfl,a,g,s,rfl,hA.same s1,fun H2 a2 s2 n2 hA2=>⟨sN2,fun p3 hp3=>⟨sN2,fun pl hpl=>?_⟩⟩⟩⟩
  have s3:=(s1.trans s2).new (o:=.tup [.ref r,.ref a2.h]) hp3
  have s4:=s3.new (o:=.lst [.ref p1,.ref p3]) hpl
  have t3:=old (o:=.lst [.ref p1,.ref p3]) hpl (zg (H:=H2) (a:=p3) (o:=.tup [.ref r,.ref a2.h]))
  have t4:=old (o:=.lst [.ref p1,.ref p3]) hpl (old (o:=.tup [.ref r,.ref a2.h]) hp3 (s2 _ _ t1))
  have hA2':=(hA2.same (zi hp3 (.tup [.ref r,.ref a2.h]))).same (zi hpl (.lst [.ref p1,.ref p3]))
  have eA:EnAt cH (upd (upd H2 p3 (.tup [.ref r,.ref a2.h])) pl (.lst [.ref p1,.ref p3])) g ⟨p1,q,b,a,s⟩:=⟨t4,h2.keep (.of s4),hA.same s4⟩
  have eB:EnAt cH (upd (upd H2 p3 (.tup [.ref r,.ref a2.h])) pl (.lst [.ref p1,.ref p3])) g ⟨p3,r,c,a2,s⟩:=⟨t3,h3.keep (.of s4),hA2'⟩
  refine hT [(b,s),(c,s)] (by rw[pc,if_pos hb]) _ pl [⟨p1,q,b,a,s⟩,⟨p3,r,c,a2,s⟩] (.of s4) (s3.free hpl) zg ((wg eA).snoc eB fun x hx hm=>?_) rfl fun e he=>?_
  ·rw[U4,tm,uO]at hm
   unfold En.fp at hx hm
   simp only[uu,uD,or_false]at hx hm
   have hx1:H1 x=none:=by
    rcases hx with e|e
    ·rw[e];exact n2.n
    ·rw[e];exact n2.t
   rcases hm with e|e
   ·rw[e,s1 _ _ hA.n]at hx1;cases hx1
   ·rw[e,s1 _ _ hA.t]at hx1;cases hx1
  ·simp only[uu,uD,or_false]at he
   rcases he with e|e
   ·rw[e];exact .inl rfl
   ·rw[e];exact .inr ⟨s1.free n2.h,s1.free n2.n,s1.free n2.t⟩
 |give x =>
  have h1:H p=_:=hI
  refine⟨_,rfl,ixT h1 aI0 ⟨rfl,_,rfl,iteF (nxtC ?_)⟩⟩
  refine⟨_,rfl,ixT h1 aI0 ⟨rfl,_,rfl,iteF (nxtC ?_)⟩⟩
  refine⟨_,rfl,ixT h1 aI0 ⟨rfl,_,rfl,iteT ⟨_,rfl,_,rfl,p,x,a,g,s,rfl,h1,hA,by lia,fun s1 e1 c H1 k1 hA1=>⟨sN0,fun r hr'=>?_⟩,fun hn=>hF ?_⟩⟩⟩
  ·refine hT [] (by rw[pc,e1,uz,if_pos c]) _ r [] (k1.trans (.of (zi hr' _))) ?_ zg ⟨(fun e he=>by cases he),UP⟩ rfl (fun e he=>by cases he)
   exact k1.free (hA1.no hr') hr'
  ·rw[pc]
   cases c:zL x s with
   |none=>rfl
   |some s1 =>
    rw[uz,if_neg]
    rw[hn s1 c]
    decide
 |lt x d b =>
  obtain⟨q,r,h1,h2,h3⟩:=hI
  obtain⟨o1,o2,o3⟩:=hok
  rw[Bd.wt]at hL
  refine⟨_,rfl,ixT h1 aI0 ⟨rfl,_,rfl,iteF (nxtC ?_)⟩⟩
  refine⟨_,rfl,ixT h1 aI0 ⟨rfl,_,rfl,iteF (nxtC ?_)⟩⟩
  refine⟨_,rfl,ixT h1 aI0 ⟨rfl,_,rfl,iteF (nxtC ?_)⟩⟩
  dsimp only
  refine jz (fun σ' H'=>∃s2,σ'=[some (.ref od),some (.ref p),some (.ref a.h)]/\KpS a.own H H'/\HandAt cH H' a g s2/\pc ow (.lt x d b) s=some [(b,s2)]) ?fin ?key
  case fin =>
   rintro σ' H1 ⟨s2,rfl,k1,hA1,e1⟩
   have hp1:=hA.tup k1 h1
   refine⟨_,rfl,_,rfl,p,_,_,_,rfl,rfl,SqT.of hp1,rfl,_,rfl,sN2,fun p2 hp2=>⟨sN1,fun pl hpl=>?_⟩⟩
   have s2':=(zi hp2 (.tup [.ref r,.ref a.h])).new (o:=.lst [.ref p2]) hpl
   have t2:=old (o:=.lst [.ref p2]) hpl (zg (H:=H1) (a:=p2) (o:=.tup [.ref r,.ref a.h]))
   refine hT _ e1 _ pl [⟨p2,r,b,a,s2⟩] (k1.trans (.of s2')) ?_ zg (wg ⟨t2,(h3.keep (hA.tups k1)).keep (.of s2'),hA1.same s2'⟩) rfl fun e he=>.inl (by rw[uv.mp he])
   exact k1.free (fun z=>by
    have f:=(zi hp2 (.tup [.ref r,.ref a.h])).free hpl
    exact hA1.no f z) ((zi hp2 (.tup [.ref r,.ref a.h])).free hpl)
  case key =>
  intro u Dn _ fin
  refine⟨_,rfl,ixT h1 aI0 ⟨rfl,_,rfl,iteT ⟨_,rfl,_,rfl,ixT h1 aI2 ⟨_,rfl,od,q,d,ow,a,g,s,rfl,h2,o1,hO,o2,hA,hno,by lia,fun s1 e1 H1 k1 hA1=>?_,fun e=>hF (by rw[pc,e];rfl)⟩⟩⟩⟩
  have l1:=jB e1
  refine⟨_,rfl,a.h,a.dx,_,rfl,hA1.o,rfl,_,rfl,ixT (hA.tup k1 h1) aI1 ⟨a,g,s1,x,rfl,hA1,by lia,fun s2 e2 H2 k2 hA2=>fin _ _ ⟨s2,rfl,k1.trans k2,hA2,by rw[pc,e1,uz,e2];rfl⟩,fun e=>?_⟩⟩
  exact((hF (by rw[pc,e1,uz,e];rfl)).at k1 fun _ z=>z).mk
 |hold x y b =>
  obtain⟨r,h1,h3⟩:=hI
  rw[Bd.wt]at hL
  refine⟨_,rfl,ixT h1 aI0 ⟨rfl,_,rfl,iteF (nxtC ?_)⟩⟩
  refine⟨_,rfl,ixT h1 aI0 ⟨rfl,_,rfl,iteF (nxtC ?_)⟩⟩
  refine⟨_,rfl,ixT h1 aI0 ⟨rfl,_,rfl,iteF (nxtC ?_)⟩⟩
  dsimp only
  refine jz (fun σ' H'=>∃s2,σ'=[some (.ref od),some (.ref p),some (.ref a.h)]/\KpS a.own H H'/\HandAt cH H' a g s2/\pc ow (.hold x y b) s=some [(b,s2)]) ?fin ?key
  case fin =>
   rintro σ' H1 ⟨s2,rfl,k1,hA1,e1⟩
   have hp1:=hA.tup k1 h1
   refine⟨_,rfl,_,rfl,p,_,_,_,rfl,rfl,SqT.of hp1,rfl,_,rfl,sN2,fun p2 hp2=>⟨sN1,fun pl hpl=>?_⟩⟩
   have s2':=(zi hp2 (.tup [.ref r,.ref a.h])).new (o:=.lst [.ref p2]) hpl
   have t2:=old (o:=.lst [.ref p2]) hpl (zg (H:=H1) (a:=p2) (o:=.tup [.ref r,.ref a.h]))
   refine hT _ e1 _ pl [⟨p2,r,b,a,s2⟩] (k1.trans (.of s2')) ?_ zg (wg ⟨t2,(h3.keep (hA.tups k1)).keep (.of s2'),hA1.same s2'⟩) rfl fun e he=>.inl (by rw[uv.mp he])
   exact k1.free (fun z=>by
    have f:=(zi hp2 (.tup [.ref r,.ref a.h])).free hpl
    exact hA1.no f z) ((zi hp2 (.tup [.ref r,.ref a.h])).free hpl)
  case key =>
  intro u Dn _ fin
  refine⟨_,rfl,ixT h1 aI0 ⟨rfl,_,rfl,iteF ?_⟩⟩
  refine⟨_,rfl,ixT h1 aI0 ⟨rfl,_,rfl,iteT ⟨_,rfl,a.h,a.dx,_,rfl,hA.o,rfl,_,rfl,ixT h1 aI2 ⟨a,g,s,y,rfl,hA,fun hb=>?_,fun hb=>(hF (by rw[pc,if_neg (by rw[hb];decide)])).mk⟩⟩⟩⟩
  refine⟨_,rfl,a.h,a.dx,_,rfl,hA.o,rfl,_,rfl,ixT h1 aI1 ⟨a,g,s,x,rfl,hA,by lia,fun s2 e2 H2 k2 hA2=>fin _ _ ⟨s2,rfl,k2,hA2,by rw[pc,if_pos hb,e2];rfl⟩,fun e=>?_⟩⟩
  exact(hF (by rw[pc,if_pos hb,e];rfl)).mk
 |drop x b =>
  obtain⟨r,h1,h3⟩:=hI
  rw[Bd.wt]at hL
  refine⟨_,rfl,ixT h1 aI0 ⟨rfl,_,rfl,iteF (nxtC ?_)⟩⟩
  refine⟨_,rfl,ixT h1 aI0 ⟨rfl,_,rfl,iteF (nxtC ?_)⟩⟩
  refine⟨_,rfl,ixT h1 aI0 ⟨rfl,_,rfl,iteF (nxtC ?_)⟩⟩
  dsimp only
  refine jz (fun σ' H'=>∃s2,σ'=[some (.ref od),some (.ref p),some (.ref a.h)]/\KpS a.own H H'/\HandAt cH H' a g s2/\pc ow (.drop x b) s=some [(b,s2)]) ?fin ?key
  case fin =>
   rintro σ' H1 ⟨s2,rfl,k1,hA1,e1⟩
   have hp1:=hA.tup k1 h1
   refine⟨_,rfl,_,rfl,p,_,_,_,rfl,rfl,SqT.of hp1,rfl,_,rfl,sN2,fun p2 hp2=>⟨sN1,fun pl hpl=>?_⟩⟩
   have s2':=(zi hp2 (.tup [.ref r,.ref a.h])).new (o:=.lst [.ref p2]) hpl
   have t2:=old (o:=.lst [.ref p2]) hpl (zg (H:=H1) (a:=p2) (o:=.tup [.ref r,.ref a.h]))
   refine hT _ e1 _ pl [⟨p2,r,b,a,s2⟩] (k1.trans (.of s2')) ?_ zg (wg ⟨t2,(h3.keep (hA.tups k1)).keep (.of s2'),hA1.same s2'⟩) rfl fun e he=>.inl (by rw[uv.mp he])
   exact k1.free (fun z=>by
    have f:=(zi hp2 (.tup [.ref r,.ref a.h])).free hpl
    exact hA1.no f z) ((zi hp2 (.tup [.ref r,.ref a.h])).free hpl)
  case key =>
  intro u Dn _ fin
  refine⟨_,rfl,ixT h1 aI0 ⟨rfl,_,rfl,iteF ?_⟩⟩
  refine⟨_,rfl,ixT h1 aI0 ⟨rfl,_,rfl,iteF ?_⟩⟩
  refine⟨_,rfl,ixT h1 aI0 ⟨rfl,_,rfl,iteT ⟨_,rfl,a.h,a.dx,_,rfl,hA.o,rfl,_,rfl,ixT h1 aI1 ⟨a,g,s,x,rfl,hA,by lia,fun s2 e2 H2 k2 hA2=>fin _ _ ⟨s2,rfl,k2,hA2,by rw[pc,e2];rfl⟩,fun e=>(hF (by rw[pc,e];rfl)).mk⟩⟩⟩⟩
 |loose x b =>
  obtain⟨r,h1,h3⟩:=hI
  rw[Bd.wt]at hL
  refine⟨_,rfl,ixT h1 aI0 ⟨rfl,_,rfl,iteF (nxtC ?_)⟩⟩
  refine⟨_,rfl,ixT h1 aI0 ⟨rfl,_,rfl,iteF (nxtC ?_)⟩⟩
  refine⟨_,rfl,ixT h1 aI0 ⟨rfl,_,rfl,iteF (nxtC ?_)⟩⟩
  dsimp only
  refine jz (fun σ' H'=>∃s2,σ'=[some (.ref od),some (.ref p),some (.ref a.h)]/\KpS a.own H H'/\HandAt cH H' a g s2/\pc ow (.loose x b) s=some [(b,s2)]) ?fin ?key
  case fin =>
   rintro σ' H1 ⟨s2,rfl,k1,hA1,e1⟩
   have hp1:=hA.tup k1 h1
   refine⟨_,rfl,_,rfl,p,_,_,_,rfl,rfl,SqT.of hp1,rfl,_,rfl,sN2,fun p2 hp2=>⟨sN1,fun pl hpl=>?_⟩⟩
   have s2':=(zi hp2 (.tup [.ref r,.ref a.h])).new (o:=.lst [.ref p2]) hpl
   have t2:=old (o:=.lst [.ref p2]) hpl (zg (H:=H1) (a:=p2) (o:=.tup [.ref r,.ref a.h]))
   refine hT _ e1 _ pl [⟨p2,r,b,a,s2⟩] (k1.trans (.of s2')) ?_ zg (wg ⟨t2,(h3.keep (hA.tups k1)).keep (.of s2'),hA1.same s2'⟩) rfl fun e he=>.inl (by rw[uv.mp he])
   exact k1.free (fun z=>by
    have f:=(zi hp2 (.tup [.ref r,.ref a.h])).free hpl
    exact hA1.no f z) ((zi hp2 (.tup [.ref r,.ref a.h])).free hpl)
  case key =>
  intro u Dn _ fin
  refine⟨_,rfl,ixT h1 aI0 ⟨rfl,_,rfl,iteF ?_⟩⟩
  refine⟨_,rfl,ixT h1 aI0 ⟨rfl,_,rfl,iteF ?_⟩⟩
  refine⟨_,rfl,ixT h1 aI0 ⟨rfl,_,rfl,iteF ⟨_,rfl,a.h,a.dx,_,rfl,hA.o,rfl,_,rfl,ixT h1 aI1 ⟨a,g,s,x,rfl,hA,fun st e2 H2 k2 hA2=>fin _ _ ⟨st.2,rfl,k2,hA2,by rw[pc,e2];rfl⟩,fun e=>(hF (by rw[pc,e];rfl)).mk⟩⟩⟩⟩
end
end GN
namespace L2
open PySem PySem.Spec PyProof.Rows
theorem YU:(lS18:List Str).contains ("keys":Str)=false:=by decide +kernel
theorem xq:entryFor table "dict.update.loop"=some Builtin.«dict.update.loop»:=entryFor_of_tree (by kernel_rfl)
theorem yo:plainId "dict.update.loop"=true:=by decide +kernel
section
variable{prog:Program}{w:World}{A:Around}
end
section
variable{X:Cx}
end
theorem YV:typeLookup (.type "zip") "keys"=pure none:=am_miss_of_fast (by decide +kernel)
theorem wQ:typeLookup (.type "zip") "__getattr__"=pure none:=by rw[typeLookup_type,builtinLookup_eq_fast];kernel_rfl
theorem xb:entryFor table "zip.__getattribute__"=some Builtin.«object.__getattribute__» :=
 entryFor_alias (id':="object.__getattribute__") (by kernel_rfl) (by decide +kernel) (by decide +kernel) (by kernel_rfl)
theorem yS(a:Addr)(fs:Array Value)(sl:Array (Option Value))(name:Str)(u:Tok)(hmiss:typeLookup (.type "zip") name=pure none)(hname:(lS18:List Str).contains name=false)(hsz:name.length+100<=sizeLine:=by size_fits):
  Meets (Builtin.«object.__getattribute__» ⟨[.ref a,.str name u],[]⟩) (fun A R s=>s.heap.get? a=some { cls:=.type "zip",dict:=none,data:=.fields fs,slots:=sl }/\raisesAttr (.ref a) name A R s) :=
 Meets.of_wp fun prog w A R s hs=>by
  obtain⟨hp,g,d,tk,os⟩:=s
  obtain⟨hx,hs⟩:=hs
  have hT:(⟨hp,g,d,tk,os⟩:Shared).TypeIs (.ref a) "zip":=⟨_,hx,rfl⟩
  unfold Builtin.«object.__getattribute__»
  repeat (any_goals (first|assumption|wp_step))
  simp only[hname,Bool.false_eq_true,if_false]
  repeat (any_goals (first|assumption|wp_step))
  exact wpAny_raiseAttrError hs.1 hs.2 (attrMsg_fits (by decide +kernel) hsz)
section
variable{prog:Program}{w:World}{A:Around}
theorem YW{E:Value->Shared->Prop}{s:Shared}{a:Addr}{fs:Array Value}{Q:Option Value->Shared->Prop}(hx:s.heap.get? a=some { cls:=.type "zip",data:=.fields fs })(hA:A.handled=none)
  (h:∀h' tk,(∀b o,s.heap.get? b=some o->h'.get? b=some o)->Q none { s with heap:=h',toks:=tk }):wpAny (model prog w) A (getAttr? (.ref a) "keys") Q E s:=by
 obtain⟨hp,g,d,tk,os⟩:=s
 have hT:∀t',(⟨hp,g,d,t',os⟩:Shared).TypeIs (.ref a) "zip":=fun _=>⟨_,hx,rfl⟩
 have g1:=sub_AttributeError
 have g2:=tq.lookup
 have g3:=tq.bind (.ref a)
 have g4:=wQ
 unfold getAttr? getAttrBy? getAttrBy
 repeat (any_goals (first|assumption|exact hT _|((with_reducible show wpAny _ _ (call (Value.builtin "zip.__getattribute__") _ _) _ _ _);refine call_meets tq (hT _) xb (PySem.F.args_zip_getattribute_2 _ _) (yS a fs #[] "keys" _ YV YU (by show 4+100<=sizeLine;decide)) ⟨hx,hA,fun h' tk' e hx'=>?_⟩)|wp_step))
 obtain⟨t',u',he⟩:=hx'.there
 show wpAny _ _ (getattributeRaised _ _ _ _ _ _ _) _ _ _
 unfold getattributeRaised
 repeat (any_goals (first|assumption|wp_step))
 exact h _ _ hx'.keeps
theorem Z8{κ:Type}[DecidableEq κ]{knd:KeyKind prog w κ}{R:Result->Shared->Prop}{k m:Bool}{B l r D:Nat}{xs ys:Array Value}{more:List (κ×Value)}{res:Value}(hh:A.handled=none)(ll:l < B)(rl:r < B)(hD:B+4 < D)(hz:more.length<=sizeLine)(hx:xs.size=more.length)
  (hp:∀(j:Nat) k v,more[j]?=some (k,v)->∃ku,xs[j]?=some ku/\ys[j]?=some v/\knd.is k ku=true) :
  ∀(d i:Nat)(s:Shared)(f g:Value),more.length-i=d->i<=more.length->ZS k m s.heap B l r i f g->ZF B s.heap f g->Sq k s.heap l xs->Sq m s.heap r ys->D < s.heap.objs.size->s.heap.DictOf knd D (merged [] (more.take i)) ->
   (∀h' tk,(∀(b:Nat) o,(b < B\/B+4 < b)->b≠D->s.heap.get? b=some o->h'.get? b=some o)->h'.DictOf knd D (merged [] more)->R (.ok (.ret res)) { s with heap:=h',toks:=tk }) ->
   codeAny (model prog w) A (.builtin "dict.update.loop" ⟨[.ref D,.ref (B+4),rawInt i,res],[]⟩) R s:=by
 intro d
 induction d with
 |zero =>
  intro i s f g hm hi Z hf hl hr hs hd hR
  have e:i=more.length:=by lia
  refine codeAny_builtin xq ?_
  rw[Around.under_plainId yo _]
  show wpAny _ A.in1 (pyNext (.ref (B+4)) >>= _) _ _ s
  refine wpAny_bind (vJ (A:=A.in1) hh Z hf hl hr ll rl (.inl (Array.getElem?_eq_none (by lia))) fun h' kz=>?_)
  show wpAny _ A.in1 (Builtin.Dict.addKeywords D [] >>= fun _=>ret res) _ _ _
  refine wpAny_bind (wpAny_pure (wpAny_pure ?_))
  rw[e,uV (ui _)]at hd
  obtain⟨o,es,ep,ho,hr'⟩:=hd
  exact hR h' s.toks (fun b o nb _ e'=>kz b o nb e') ⟨o,es,ep,kz _ _ (.inr hD) ho,hr'⟩
 |succ d ih =>
  intro i s f g hm hi Z hf hl hr hs hd hR
  have hlt:i < more.length:=by lia
  obtain⟨kv,ekv⟩:∃kv,more[i]?=some kv:=⟨_,um hlt⟩
  obtain⟨ke,v⟩:=kv
  obtain⟨ku,e1,e2,e3⟩:=hp i ke v ekv
  refine codeAny_builtin xq ?_
  rw[Around.under_plainId yo _]
  show wpAny _ A.in1 (pyNext (.ref (B+4)) >>= _) _ _ s
  refine wpAny_bind (ZR (A:=A.in1) Z hf hl hr ll rl e1 e2 fun h' T ct z hT p sz kz=>?_)
  show wpAny _ A.in1 (holding [Value.ref s.heap.objs.size] _ >>= _) _ _ _
  refine wpAny_bind (wpAny_holding (wpAny_bind (wpAny_tryCatch ?_)))
  unfold Builtin.Dict.pairItems
  refine wpAny_bind (wpAny_typeOf ⟨_,p,rfl⟩ ?_)
  rw[if_pos (by decide +kernel)]
  refine wpAny_bind ?_
  unfold seqItems?
  refine wpAny_bind (wpAny_load p ?_)
  refine wpAny_pure (wpAny_pure ?_)
  show wpAny _ A.in1 (holding [ku,v] (dictSet D ku v)) _ _ _
  have hd':h'.DictOf knd D (merged [] (more.take i)):=by
   obtain⟨o,es,ep,ho,hr'⟩:=hd
   exact⟨o,es,ep,kz _ _ (.inr hD) ho,hr'⟩
  have lz:(merged [] (more.take i)).length<=sizeLine:=by
   have:=merged_length_le [] (more.take i)
   rw[uX]at this
   simp only[List.length_nil]at this
   lia
  refine wpAny_holding (wpAny_dictSet_pairs (hsz:=lz) e3 hd' fun h'' hd'' sb''=>?_)
  rw[<- merged_take_succ [] more i (ke,v) ekv]at hd''
  have up:∀(b:Nat) o,b≠D->h'.get? b=some o->h''.get? b=some o:=fun b o nb e=>sb''.extBut b o nb e
  have sz'':s.heap.objs.size < h''.objs.size:=uq (up _ _ (UU hs) p)
  refine wpAny_pure ⟨plainId_quiet yo _,ih (i+1) _ (rawInt T) (.bool ct) (by lia) hlt (z.at fun b o h1 h2 e=>up b o (by lia) e) ?_ ((hl.at fun o e=>kz _ o (by lia) e).at fun o e=>up _ o (by lia) e) ((hr.at fun o e=>kz _ o (by lia) e).at fun o e=>up _ o (by lia) e) (Nat.lt_trans hs sz'') hd'' fun h3 tk k3 d3=>?_⟩
  ·rcases hT with e|⟨lT,o,hT⟩
   ·subst e
    exact .inr ⟨_,ct,_,rfl,rfl,up _ _ (UU hs) p,by lia⟩
   ·by_cases c:T=D
    ·obtain⟨o,es,ep,ho,_⟩:=hd''
     exact .inr ⟨T,ct,o,rfl,rfl,by rw[c];exact ho,lT⟩
    ·exact .inr ⟨T,ct,o,rfl,rfl,up _ _ c (kz _ _ (by lia) hT),lT⟩
  ·exact hR h3 tk (fun b o b1 b2 e'=>k3 b o b1 b2 (up _ _ b2 (kz _ _ b1 e'))) d3
end
section
variable{X:Cx}{a b:Expr}{ta:TA}{p1 p2 pos1 pos2:Pos}
def zkv(ns:List Str)(ys:List V):List (Key×V):=(ns.zip ys).map fun p=>(.inr p.1,p.2)
def Jj(K:ub)(ta:TA):TE:=fun σ H Q=>ta σ H fun vs H1=>∃(a b:Addr)(ns:List Str)(ys:List V),vs=[.ref a,.ref b]/\(SqL K H1 a (ns.map V.str)\/SqT K H1 a (ns.map V.str))/\(SqL K H1 b ys\/SqT K H1 b ys)/\ns.length=ys.length/\ns.Nodup/\∀d,H1 d=none->Q (.ref d) (upd H1 d (.dK (zkv ns ys)))
theorem Jk{ns:List Str}{ys:List V}(h:ns.length=ys.length):(zkv ns ys).map (·.1)=ns.map Sum.inr:=by
 unfold zkv
 rw[UV]
 have:((fun x=>x.1) ∘ fun(p:Str×V)=>((Sum.inr p.1:Key),p.2))=fun p=>(Sum.inr p.1:Key):=rfl
 rw[this]
 have e:=List.map_fst_zip (l₁:=ns) (l₂:=ys) (by lia)
 conv=>rhs;rw[<- e]
 rw[UV]
 rfl
theorem Jl(hc:X.calm=true)(hgL:Gl X "dict")(hmL:X.mg "dict"=none)(hgZ:Gl X "zip")(hmZ:X.mg "zip"=none)(ha:PA X [a,b] ta)
  (h1:starEach [a,b] X.env=[(false,eval a X.env),(false,eval b X.env)]:=by rfl) (h2:starEach [b] X.env=[(false,eval b X.env)]:=by rfl):PE X (.Call (.Name "dict" p1) [.Call (.Name "zip" p2) [a,b] [] pos2] [] pos1) (Jj X.K ta):=by
 intro pins s σ H Q I h
 refine Call_ (xv I hgL hmL Tc (Ul (Calls.spliced_cons (Call_ (xv I hgZ hmZ boot_zip (Ul (thn (ha pos2 pins s σ H _ I h) fun us s1 g=>?_) (by rw[h1,h2]) (by rw[h2];rfl))))) rfl rfl))
 obtain⟨vs,H1,I1,r1,a1,b1,ns,ys,rfl,hq1,hq2,ll,hn,q⟩:=g
 obtain⟨u,u',rfl,e1,e2⟩:=vx r1
 cases e1
 cases e2
 obtain⟨k1,i1,v1,q1,z1,l1⟩:=I1.sq hq1
 obtain⟨k2,i2,v2,q2,z2,l2⟩:=I1.sq hq2
 refine vI q1 q2 fun h' Z sz kp=>Calls.spliced_nil ?_
 have hh:X.A.handled=none:=I1.ok.hd hc
 have n1:=v1.length
 have n2:=v2.length
 rw[ua]at n1 z1
 have big:=I1.big
 obtain⟨B,eB⟩:∃B:Nat,B=s1.heap.objs.size:=⟨_,rfl⟩
 rw[<- eB]at Z sz l1 l2 ⊢
 obtain⟨more,emore⟩:∃more:List (Key×Value),more=(ns.zip i2).map fun p=>(.inr p.1,p.2):=⟨_,rfl⟩
 have lmore:more.length=ns.length:=by rw[emore,ua,tV];lia
 have hmore:∀(j:Nat) k v,more[j]?=some (k,v)->∃ku,i1.toArray[j]?=some ku/\i2.toArray[j]?=some v/\(zF X.prog X.w).is k ku=true:=fun j k v hj=>by
  rw[emore,uk]at hj
  obtain⟨⟨n,v'⟩,hz,e⟩:=uf.mp hj
  cases e
  rw[U0]at hz
  obtain⟨ku,hu,ru⟩:=v1.get (i:=j) (x:=.str n) (by rw[uk,hz.1];rfl)
  obtain⟨t,rfl⟩:=ru
  exact⟨_,by simpa using hu,by simpa using hz.2,wT _ _ n t⟩
 have km:KV (zkv ns ys) more:=by
  have:∀{ns:List Str}{ys:List V}{us:List Value},Vals ys us->ns.length=ys.length->KV (zkv ns ys) ((ns.zip us).map fun p=>((.inr p.1:Key),p.2)):=fun{ns ys us} hv hl=>by
   induction hv generalizing ns with
   |nil =>
    cases ns with
    |nil=>exact .nil
    |cons _ _=>simp at hl
   |cons r _ ih =>
    cases ns with
    |nil=>simp at hl
    |cons n ns=>exact .cons ⟨rfl,r⟩ (ih (by simpa using hl))
  rw[emore]
  exact this v2 ll
 have keys:more.map (·.1)=ns.map Sum.inr:=by
  rw[<- Jk ll]
  have:∀{a:List (Key×V)}{b:List (Key×Value)},KV a b->b.map (·.1)=a.map (·.1):=fun{a b} z=>by
   induction z with
   |nil=>rfl
   |cons h _ ih=>rw[uY,uY,h.1,ih]
  exact this km
 refine callType_codes (Q₁:=fun obj s₁=>obj=.ref h'.objs.size/\s₁={ s1 with heap:=h'.push { cls:=.type "dict",data:=.dict #[] } }) PySem.F.kt_called_dict (PySem.F.kt_typeCall_dict_1 _) PySem.F.entry_dict_init (kt_code_dict_new _ ⟨rfl,rfl⟩) ?_
 rintro obj s₁ ⟨rfl,rfl⟩
 have new:(h'.push { cls:=.type "dict",data:=.dict #[] }).DictOf (zF X.prog X.w) h'.objs.size []:=Heap.DictOf.new h'
 have Z1:ZS k1 k2 (h'.push { cls:=.type "dict",data:=.dict #[] }) B a1 b1 0 .none (.bool false):=Z.at fun b o _ _ e=>ud _ e
 refine⟨new.typeIs,PySem.F.args_dict_init_2 _ _,?_⟩
 unfold Builtin.«dict.__init__»
 refine wpAny_bind ?_
 unfold Builtin.Dict.selfAndRest
 refine wpAny_bind (wpAny_notOrdered_dict new.typeIs ?_)
 show wpAny _ _ (pure (h'.objs.size,[Value.ref (B+4)])) _ _ _
 refine wpAny_pure ?_
 show wpAny _ _ (Builtin.Dict.updateFrom "dict.__init__" h'.objs.size (.ref (B+4)) [] .none) _ _ _
 unfold Builtin.Dict.updateFrom
 refine wpAny_bind (wpAny_typeOf ⟨_,Z1.z,rfl⟩ ?_)
 rw[if_pos (by decide +kernel)]
 refine wpAny_bind (YW Z1.z hh fun h2 t2 k2'=>?_)
 rw[if_pos (show((none:Option Value).isNone=true)from rfl)]
 have Z2:ZS k1 k2 h2 B a1 b1 0 .none (.bool false):=Z1.at fun b o _ _ e=>k2' _ _ e
 obtain⟨o,es,ep,ho,hr⟩:=id new
 have ho1:=k2' _ _ ho
 have ltD:h'.objs.size < h2.objs.size:=uq ho1
 have kall:∀b o,s1.heap.get? b=some o->h2.get? b=some o:=fun b o e=>k2' _ _ (ud _ (kp _ _ e))
 have ty:∀t,Shared.TypeIs { s1 with heap:=h2,toks:=t } (.ref (B+4)) "zip":=fun t=>⟨_,Z2.z,rfl⟩
 refine wpAny_bind (wpAny_rule (wpAny_bind (wpAny_pyIter_slot (ty _) PySem.F.slot_zip_iter (wpAny_call_entry PySem.F.slot_zip_iter (ty _) PySem.F.entry_zip_iter ?_ (PySem.F.args_zip_iter_1 _)))))
 show wpAny _ _ (ret (.ref (B+4))) _ _ _
 refine wpAny_pure ⟨_,rfl,"zip",_,ty _,PySem.F.slot_zip_next.lookup,?_⟩
 refine wpAny_pure ⟨plainId_quiet yo _,?_⟩
 refine Z8 (A:=X.A.in1) (knd:=zF X.prog X.w) (B:=B) (xs:=i1.toArray) (ys:=i2.toArray) (more:=more) hh l1 l2 (by rw[sz];lia) (by lia) (by rw[uo];lia) hmore more.length 0 _ _ _ (by lia) (uW _) Z2 (.inl rfl) (q1.at fun o e=>kall _ o e) (q2.at fun o e=>kall _ o e) ltD ⟨o,es,ep,ho1,hr⟩ (fun h3 tk kk dd=>?_)
 rw[merged_nil_of_nodup more (by rw[keys];exact List.Pairwise.map _ (fun i j (ne:i≠j) e=>ne (Sum.inr.inj e)) hn)]at dd
 have hk:∀b o,s1.heap.get? b=some o->h3.get? b=some o:=fun b o e=>by
  have lb:b < B:=by rw[eB];exact uq e
  exact kk b o (.inl lb) (uC (ux lb (by rw[sz];exact tj _ _))) (kall _ _ e)
 refine⟨rfl,.ref h'.objs.size,_,I1.laid (t':=tk) hk (by rw[sz,eB];exact tj _ _) (show ObjOk X.prog X.w _ h3 _ (.dK (zkv ns ys))from⟨by rw[Paired.length km];lia,?_,more,km,dd⟩),rfl,q _ (I1.hok.fresh (by rw[sz,eB];exact tj _ _))⟩
 exact beq_eq_false_iff_ne.mpr (fun e=>by rw[sz,eB]at e;rw[<- e]at big;exact absurd big (Nat.not_lt.mpr (tj _ _)))
theorem Z9(hc:X.calm=true)(hgL:Gl X "dict")(hmL:X.mg "dict"=none)(hgZ:Gl X "zip")(hmZ:X.mg "zip"=none)(ha:jA X [a,b] ta)(h1:zt a=false:=by rfl)(h2:zt b=false:=by rfl):
  jE X (.Call (.Name "dict" p1) [.Call (.Name "zip" p2) [a,b] [] pos2] [] pos1) (Jj X.K ta):=⟨Jl hc hgL hmL hgZ hmZ ha.out (by rw[zD h1,zD h2];rfl) (by rw[zD h2];rfl)⟩
end
end L2
namespace GN
open PySem L2 K11
structure Df where
 g:Str
 ps:List Str
 os:List Bool
 b:Bd
def IsDf(H:Hp)(d:Df)(o:Addr):Prop:=∃pp po pb,H o=some (.tup [.str d.g,.ref pp,.ref po,.ref pb])/\H pp=some (.tup (d.ps.map V.str))/\H po=some (.tup (d.os.map V.bl))/\IsBd H d.b pb
theorem IsDf.keep{H H':Hp}{d:Df}{o:Addr}(t:Tups H H')(h:IsDf H d o):IsDf H' d o:=let ⟨pp,po,pb,a,b,c,e⟩:=h;⟨pp,po,pb,t _ _ a,t _ _ b,t _ _ c,e.keep t⟩
structure DfOk(ow:Ow)(d:Df):Prop where
 nd:d.ps.Nodup
 len:d.ps.length=d.os.length
 ok:OkBd ow d.b
 few:d.ps.length+d.b.wt < 1000000
 sz:d.b.sz < 1000000
def Df.s0(d:Df):Hs:=⟨d.ps.zip d.os,[]⟩
def Xz(cH uh:Addr):Sp:=fun vs H Q E=>∃(od o:Addr)(ow:Ow)(d:Df),vs=[.ref od,.ref o]/\OwAt H od ow/\IsDf H d o/\DfOk ow d/\(okB ow d.b d.s0=true->∀H',Same H H'->Q .non H')/\(okB ow d.b d.s0=false->ErrU uh E (fun _=>False) H d.g)
theorem Bd.sz_pos:∀b:Bd,0 < b.sz
 |.give _=>by rw[Bd.sz];exact Nat.zero_lt_one
 |.lt _ _ _=>by rw[Bd.sz];lia
 |.hold _ _ _=>by rw[Bd.sz];lia
 |.drop _ _=>by rw[Bd.sz];lia
 |.loose _ _=>by rw[Bd.sz];lia
 |.iff _ _ _=>by rw[Bd.sz];lia
 |.cs _ _=>by rw[Bd.sz];lia
def Hs.n(s:Hs):Nat:=s.ns.length+s.ts.length
theorem XA{x:Str}{s s':Hs}(h:zL x s=some s'):s'.n<=s.n:=by
 have:=wf h
 unfold Hs.n
 rw[this.2]
 lia
theorem Zw{x:Str}{s s':Hs}(h:zG x s=some s'):s'.n=s.n+1:=by
 have:=jy h
 unfold Hs.n
 rw[this.2]
 lia
theorem jC:∀{l:List Str}{s s':Hs},zH l s=some s'->s'.n=s.n+l.length
 |[],s,s',h=>by cases h;rfl
 |x::l,s,s',h=>by
  obtain⟨s1,h1,h2⟩:=uN.mp (show(zG x s).bind (zH l)=some s' from h)
  rw[jC h2,Zw h1,uM]
  lia
theorem zca{x m k:Str}{ns:List Str}{s s':Hs}(h:armC x ns m k s=some s'):s'.n<=s.n+ns.length+1:=by
 unfold armC at h
 obtain⟨s1,h1,h⟩:=uN.mp h
 obtain⟨s2,h2,h⟩:=uN.mp h
 have l1:s1.n<=s.n:=by
  split at h1
  ·exact XA h1
  ·cases h1;exact ui _
 have l2:=jC h2
 split at h
 ·cases h
  lia
 ·split at h
  ·unfold xo at h
   split at h
   ·cases h
    unfold Hs.n at *
    rw[uc,UK]
    dsimp only
    lia
   ·cases h
  ·cases h
theorem Ya{ow:Ow}{x:Str}{s:Hs}:∀{as:Arms}{l:List (Bd×Hs)},xp x as s=some l->OkAs ow as->∀q∈l,OkBd ow q.1/\q.2.n+q.1.wt<=s.n+as.wt
 |.nil,l,h,_,q,hq=>by
  rw[xp]at h
  cases h
  cases hq
 |.cons t ns m k b r,l,h,ho,q,hq=>by
  rw[xp]at h
  obtain⟨s1,h1,h⟩:=uN.mp h
  obtain⟨l1,h2,rfl⟩:=uf.mp h
  rw[OkAs]at ho
  rw[Arms.wt]
  rcases uu.mp hq with e|e
  ·rw[e]
   have:=zca h1
   exact⟨ho.1,by dsimp only;lia⟩
  ·have:=Ya h2 ho.2 q e
   exact⟨this.1,by lia⟩
theorem zcM{ow:Ow}{b:Bd}{s:Hs}{l:List (Bd×Hs)}(h:pc ow b s=some l)(ho:OkBd ow b):∀q∈l,OkBd ow q.1/\q.2.n+q.1.wt<=s.n+b.wt:=by
 intro q hq
 cases b with
 |give x =>
  rw[pc]at h
  obtain⟨s1,_,h⟩:=uN.mp h
  split at h
  ·cases h;cases hq
  ·cases h
 |lt x d b =>
  rw[pc]at h
  rw[OkBd]at ho
  obtain⟨s1,h1,h⟩:=uN.mp h
  obtain⟨s2,h2,rfl⟩:=uf.mp h
  rw[uv.mp hq,Bd.wt]
  have:=jB h1
  have:=Zw h2
  unfold Hs.n at *
  exact⟨ho.2.2,by dsimp only;lia⟩
 |hold x y b =>
  rw[pc]at h
  rw[OkBd]at ho
  split at h
  ·obtain⟨s2,h2,rfl⟩:=uf.mp h
   rw[uv.mp hq,Bd.wt]
   have:=Zw h2
   exact⟨ho,by dsimp only;lia⟩
  ·cases h
 |drop x b =>
  rw[pc]at h
  rw[OkBd]at ho
  obtain⟨s2,h2,rfl⟩:=uf.mp h
  rw[uv.mp hq,Bd.wt]
  have:=XA h2
  exact⟨ho,by dsimp only;lia⟩
 |loose x b =>
  rw[pc]at h
  rw[OkBd]at ho
  obtain⟨s2,h2,rfl⟩:=uf.mp h
  rw[uv.mp hq,Bd.wt]
  have:=Z7 h2
  unfold Hs.n
  exact⟨ho,by dsimp only;rw[this.1];lia⟩
 |iff x b c =>
  rw[pc]at h
  rw[OkBd]at ho
  split at h
  ·cases h
   rw[Bd.wt]
   simp only[uu,uD,or_false]at hq
   rcases hq with e|e
   ·rw[e];exact⟨ho.1,by dsimp only;lia⟩
   ·rw[e];exact⟨ho.2,by dsimp only;lia⟩
  ·cases h
 |cs x as =>
  rw[pc]at h
  rw[OkBd]at ho
  split at h
  ·rw[Bd.wt]
   exact Ya h ho.2 q hq
  ·cases h
theorem Jn(ps:List Str)(os:List Bool):zkv ps (os.map V.bl)=em V.bl (ps.zip os):=by
 unfold zkv em
 rw[List.zip_map_right,UV]
 rfl
theorem EnAt.kp{cH:Addr}{H H':Hp}{g:Str}{e:En}{a:Ha}{s:Hs}(h:EnAt cH H g e)(hA:HandAt cH H a g s)(k:KpS a.own H H')(n:∀b∈e.fp,¬ a.own b):EnAt cH H' g e :=
 ⟨hA.tup k h.t,h.b.keep (hA.tups k),h.a.keep fun b o hb q=>k _ _ (fun z=>by
  rcases hb with e'|e'|e'
  ·rw[e']at z
   rcases z with z|z
   ·have:=h.a.o;rw[z,hA.n]at this;cases this
   ·have:=h.a.o;rw[z,hA.t]at this;cases this
  ·exact n b (by rw[e'];unfold En.fp;simp) z
  ·exact n b (by rw[e'];unfold En.fp;simp) z) q⟩
theorem Ens.app{cH:Addr}{H:Hp}{g:Str}{es fs:List En}(h:Ens cH H g es)(k:Ens cH H g fs)(n:∀b∈fs.flatMap En.fp,b∉es.flatMap En.fp):Ens cH H g (es++fs):=by
 refine⟨fun e he=>(uF.mp he).elim (h.at_ e) (k.at_ e),?_⟩
 rw[UT,UG]
 exact⟨h.nd,k.nd,fun a ha b hb z=>n b hb (z ▸ ha)⟩
theorem zcN{b:Bool}{A B:Prop}(e:b=true)(h:A):if b=true then A else B:=by rw[if_pos e];exact h
section
variable{P:Program}{w:World}{K:ub}{mg:Str->Option Value}{base:Heap}{f R C cH uh:Addr}{fd:FuncData}
theorem scCkDef:FnScope ["owns","one","left","pair"] ["owns","one"] (zn YD):=.ok
theorem Jo(F:Fun K "check_def" "check_def" YD f fd)(T:TH K cH)(GH:Ma P w K mg base CX0 1 "Hand" cH lS10 (Zu cH))(GP:Ca P w K mg base (CXf P w) 7 "check_piece" lS21 (Xy cH uh))(m_len:mg "len"=none)(m_dict:mg "dict"=none)(m_zip:mg "zip"=none):FnOk P w K mg base (CXf P w) 8 f fd ["owns","one"] (Xz cH uh):=by
 refine F.byx scCkDef (fun vs H Q E h=>?_) (fun cdv A' outer s H vs Q E hr h=>?_)
 ·obtain⟨od,o,ow,d,rfl,_⟩:=h
  rfl
 obtain⟨od,o,ow,d,rfl,hO,⟨pp,po,pb,h1,h2,h3,h4⟩,hok,hT,hF⟩:=h
 have hr2:Room 2 _:=hr.mono (by decide)
 refine⟨_,
  (zh (sE 2 scCkDef.nd (zv (jA1 (zu (jA2 (xT 1) (zaN GH hr2 rfl WV (jA3 (xT 1) (Z9 rfl rfl m_dict rfl m_zip (jA2 (xT 1) (xT 1))) xK)))))))
  (zj (W0 ownx (tN wm (jL m_len (jv 2)) zk)
   (zh (sE 3 scCkDef.nd (j8 uJ PySem.F.slot_list_pop PySem.F.type_list_pop Vb (jv 2)))
   (zj (zy (xg uJ PySem.F.slot_list_extend PySem.F.type_list_extend X8 (jv 2) (jA1 (w9 GP hr rfl zX (jA3 (jv 0) (xT 3) (xT 3))))))))))),?_⟩
 have sl:=zN
 refine⟨_,rfl,ixT h1 aI3 ⟨_,rfl,ixT h1 aI0 ⟨_,rfl,ixT h1 aI1 ⟨_,rfl,ixT h1 aI2 ⟨pp,po,d.ps,d.os.map V.bl,rfl,.inr (SqT.of h2),.inr (SqT.of h3),by rw[ua];exact hok.len,hok.nd,fun dz hdz=>?_⟩⟩⟩⟩⟩
 rw[Jn]
 have s1:=zi hdz (.dK (em V.bl (d.ps.zip d.os)))
 have z1:=zg (H:=H) (a:=dz) (o:=.dK (em V.bl (d.ps.zip d.os)))
 generalize upd H dz (.dK (em V.bl (d.ps.zip d.os)))=H1 at *
 refine fun dt hdt b dx hb hdx ndx=>?_
 have s2:=s1.new (o:=.dK []) hdt
 have z2:=old (o:=.dK []) hdt z1
 have u2:=zg (H:=H1) (a:=dt) (o:=.dK [])
 generalize upd H1 dt (.dK [])=H2 at *
 have sm:=jx (o:=.own b) (o':=.ins cH dx []) hb hdx ndx
 refine⟨b,dx,dz,dt,d.g,d.s0,rfl,zg,sm _ _ z2,sm _ _ u2,fun H3 dn3 dt3 k3 fn ft hA3=>⟨rfl,?_⟩⟩
 have s23:Same H2 H3:=fun c o z=>k3 _ _ (fun e=>by rw[e,hb]at z;cases z) (sm _ _ z)
 have fr:∀c,upd (upd H2 dx (.own b)) b (.ins cH dx []) c=none->H2 c=none:=fun c h=>by
  cases z:H2 c with
  |none=>rfl
  |some o=>rw[sm _ _ z]at h;cases h
 have s03:=s2.trans s23
 have n3:New H ⟨b,dx,dn3,dt3⟩:=⟨s2.free hb,s2.free (fr _ fn),s2.free (fr _ ft)⟩
 refine⟨sN2,fun p4 hp4=>⟨sN1,fun lf hlf=>?_⟩⟩
 have s4:=(s03.new (o:=.tup [.ref pb,.ref b]) hp4).new (o:=.lst [.ref p4]) hlf
 have s34:=(zi hp4 (.tup [.ref pb,.ref b])).new (o:=.lst [.ref p4]) hlf
 have t4:=old (o:=.lst [.ref p4]) hlf (zg (H:=H3) (a:=p4) (o:=.tup [.ref pb,.ref b]))
 have l4:=zg (H:=upd H3 p4 (.tup [.ref pb,.ref b])) (a:=lf) (o:=.lst [.ref p4])
 have hA4:=hA3.same s34
 have nlf:H lf=none:=(s03.new (o:=.tup [.ref pb,.ref b]) hp4).free hlf
 dsimp only
 generalize upd (upd H3 p4 (.tup [.ref pb,.ref b])) lf (.lst [.ref p4])=H4 at *
 have e4:EnAt cH H4 d.g ⟨p4,pb,d.b,⟨b,dx,dn3,dt3⟩,d.s0⟩:=⟨t4,h4.keep (.of s4),hA4⟩
 have l0:d.s0.n<=d.ps.length:=by
  show(d.ps.zip d.os).length+0<=_
  rw[tV]
  lia
 have few:=hok.few
 have dsz:=hok.sz
 clear h2 h3 h4 z1 z2 u2 s1 s2 s23 s03 s34 t4 hA3 hA4 k3 fr fn ft sm hdz hdt hb hdx ndx hp4 hlf
 refine⟨fun m σ H'=>∃(es:List En)(y:Option V),m=(es.map fun e=>e.b.sz).sum/\m<=d.b.sz/\σ=[some (.ref od),some (.ref o),some (.ref lf),y]/\Same H H'/\H' lf=some (.lst (es.map fun e=>.ref e.t))/\Ens cH H' d.g es/\(∀e∈es,New H e.a/\OkBd ow e.b/\e.s.n+e.b.wt<=d.s0.n+d.b.wt)/\(es.all fun e=>okB ow e.b e.s)=okB ow d.b d.s0,⟨_,[⟨p4,pb,d.b,⟨b,dx,dn3,dt3⟩,d.s0⟩],none,rfl,by simp,rfl,s4,l4,wg e4,fun e he=>by rw[uv.mp he];exact⟨n3,hok.ok,ui _⟩,by simp⟩,?_⟩
 rintro m σ H5 ⟨es,y,rfl,hm,rfl,s5,l5,hE5,ha5,eo⟩
 refine⟨_,rfl,lf,_,rfl,.inl (SqL.of l5),_,_,rfl,rfl,_,rfl,?_⟩
 rw[ua]
 cases hes:es.reverse with
 |nil =>
  have:es=[]:=by rw[<- List.reverse_reverse es,hes];rfl
  subst this
  exact iteF (hT (by rw[<- eo];rfl) H5 s5)
 |cons e es' =>
  obtain⟨es1,rfl⟩:∃es1,es=es1++[e]:=⟨es'.reverse,by rw[<- List.reverse_reverse es,hes,List.reverse_cons]⟩
  clear hes es'
  rw[uc,UK]
  refine zcN (decide_eq_true (by lia)) ?_
  obtain⟨n5,ok5,w5⟩:=ha5 e (uG _ uP)
  have hEe:=hE5.at_ e (uG _ uP)
  have lall:((es1++[e]).map fun e=>e.b.sz).sum=(es1.map fun e=>e.b.sz).sum+e.b.sz:=by rw[uj,List.sum_append];simp
  have les:es1.length<=(es1.map fun e=>e.b.sz).sum:=by
   have:∀l:List En,l.length<=(l.map fun e=>e.b.sz).sum:=fun l=>by
    induction l with
    |nil=>exact ui _
    |cons a l ih =>
     have:=Bd.sz_pos a.b
     rw[uY,List.sum_cons,uM]
     lia
   exact this es1
  refine⟨fun σ' H'=>∃m',m' < ((es1++[e]).map fun e=>e.b.sz).sum/\∃(es:List En)(y:Option V),m'=(es.map fun e=>e.b.sz).sum/\m'<=d.b.sz/\σ'=[some (.ref od),some (.ref o),some (.ref lf),y]/\Same H H'/\H' lf=some (.lst (es.map fun e=>.ref e.t))/\Ens cH H' d.g es/\(∀e∈es,New H e.a/\OkBd ow e.b/\e.s.n+e.b.wt<=d.s0.n+d.b.wt)/\(es.all fun e=>okB ow e.b e.s)=okB ow d.b d.s0,fun σ' H' h=>h,?_⟩
  rw[uj]at l5
  refine⟨_,rfl,.inl ⟨rfl,_,SqL.of l5⟩,lf,_,.ref e.t,rfl,rfl,l5,by simp,?_⟩
  rw[List.map_singleton,List.dropLast_concat]
  have kE:Ens cH (upd H5 lf (.lst (es1.map fun e=>.ref e.t))) d.g (es1++[e]):=hE5.putL l5
  have s6:Same H (upd H5 lf (.lst (es1.map fun e=>.ref e.t))):=s5.put nlf
  have l6:=zg (H:=H5) (a:=lf) (o:=.lst (es1.map fun e=>.ref e.t))
  dsimp only
  generalize upd H5 lf (.lst (es1.map fun e=>.ref e.t))=H6 at *
  have hE6:=kE.at_ e (uG _ uP)
  have nod:¬ e.a.own od:=fun z=>by
   obtain⟨kvs,ho,_⟩:=hO
   rcases z with z|z
   ·rw[z,n5.n]at ho;cases ho
   ·rw[z,n5.t]at ho;cases ho
  refine⟨_,rfl,.inl ⟨rfl,_,SqL.of l6⟩,_,rfl,_,rfl,ixT hE6.t aI0 ⟨_,rfl,ixT hE6.t aI1 ⟨od,e.p,e.b,ow,e.a,d.g,e.s,rfl,hE6.b,hO.same s6,ok5,hE6.a,nod,by have:e.s.ns.length+e.s.ts.length=e.s.n:=rfl;lia,fun l el H7 r es2 k7 fr7 hr7 hE7 em7 hn7=>?_,fun el=>?_⟩⟩⟩
  ·have l7:H7 lf=some (.lst (es1.map fun e=>.ref e.t)):=k7 _ _ (fun z=>by
    rcases z with z|z
    ·rw[z,hE6.a.n]at l6;cases l6
    ·rw[z,hE6.a.t]at l6;cases l6) l6
   have nd:=kE.nd
   rw[UT,UG]at nd
   have dis:∀c,e.a.own c->c∉es1.flatMap En.fp:=fun c hc hm=>by
    refine nd.2.2 c hm c ?_ rfl
    rw[U4,tm,uO]
    unfold En.fp
    rcases hc with z|z<;>rw[z]<;>simp
   have k1:Ens cH H7 d.g es1:=⟨fun e1 h1=>(kE.at_ e1 (Ui _ h1)).kp hE6.a k7 fun c hc z=>dis c z (List.mem_flatMap.mpr ⟨e1,h1,hc⟩),nd.1⟩
   have k1':Ens cH H6 d.g es1:=⟨fun e1 h1=>kE.at_ e1 (Ui _ h1),nd.1⟩
   have kk:Ens cH H7 d.g (es1++es2):=k1.app hE7 fun c hc hm=>by
    obtain⟨e2,he2,hc2⟩:=List.mem_flatMap.mp hc
    have own2:e2.a.own c:=by
     unfold En.fp at hc2
     simp only[uu,uD,or_false]at hc2
     exact hc2
    rcases hn7 e2 he2 with z|z
    ·rw[z]at own2
     exact dis c own2 hm
    ·obtain⟨o',ho'⟩:=k1'.in_ hm
     rcases own2 with q|q
     ·rw[q,z.n]at ho';cases ho'
     ·rw[q,z.t]at ho';cases ho'
   have s7:Same H H7:=fun c o' hc=>k7 _ _ (fun z=>by
    rcases z with z|z
    ·rw[z,n5.n]at hc;cases hc
    ·rw[z,n5.t]at hc;cases hc) (s6 _ _ hc)
   have szl:=zcL el
   have es2sz:(es2.map fun e=>e.b.sz).sum=(l.map fun q=>q.1.sz).sum:=by
    rw[<- em7,UV]
    rfl
   have les2:es2.length<=(es2.map fun e=>e.b.sz).sum:=by
    have:∀l:List En,l.length<=(l.map fun e=>e.b.sz).sum:=fun l=>by
     induction l with
     |nil=>exact ui _
     |cons a l ih =>
      have:=Bd.sz_pos a.b
      rw[uY,List.sum_cons,uM]
      lia
    exact this es2
   have sums:((es1++es2).map fun e=>e.b.sz).sum=(es1.map fun e=>e.b.sz).sum+(es2.map fun e=>e.b.sz).sum:=by rw[uj,List.sum_append]
   refine⟨lf,r,_,_,rfl,rfl,l7,hr7,by rw[ua,ua];lia,?_⟩
   refine⟨_,?_,es1++es2,_,rfl,?_,rfl,s7.put nlf,by rw[zg,uj],kk.putL l7,?_,?_⟩
   ·lia
   ·lia
   ·intro e3 he3
    rcases uF.mp he3 with z|z
    ·exact ha5 e3 (Ui _ z)
    ·have hq:(e3.b,e3.s)∈l:=by rw[<- em7];exact UA.mpr ⟨e3,z,rfl⟩
     obtain⟨q1,q2⟩:=zcM el ok5 _ hq
     dsimp only at q1 q2
     refine⟨?_,q1,by lia⟩
     rcases hn7 e3 z with y'|y'
     ·rw[y'];exact n5
     ·exact⟨s6.free y'.h,s6.free y'.n,s6.free y'.t⟩
   ·rw[List.all_append]at eo ⊢
    rw[<- eo]
    congr 1
    rw[tF,List.all_nil,Bool.and_true,VV,el,<- em7]
    dsimp only
    rw[List.all_map]
    rfl
  ·have hb0:okB ow d.b d.s0=false:=by
    rw[<- eo,List.all_append,tF,List.all_nil,Bool.and_true,VV,el]
    exact tf _
   exact fun dd H7 k7 hd=>hF hb0 dd H7 (fun c o' _ hc=>k7 _ _ (fun z=>by
    rcases z with z|z
    ·rw[z,n5.n]at hc;cases hc
    ·rw[z,n5.t]at hc;cases hc) (s6 _ _ hc)) hd
def IsDfs(H:Hp)(ds:List Df)(os:List Addr):Prop:=ds.length=os.length/\∀(i:Nat)(d:Df)(o:Addr),ds[i]?=some d->os[i]?=some o->IsDf H d o
theorem IsDfs.keep{H H':Hp}{ds:List Df}{os:List Addr}(t:Tups H H')(h:IsDfs H ds os):IsDfs H' ds os:=⟨h.1,fun i d o a b=>(h.2 i d o a b).keep t⟩
def IsCode(H:Hp)(ds:List Df)(p:Addr):Prop:=∃v pd os,H p=some (.tup [v,.ref pd])/\H pd=some (.tup (os.map V.ref))/\IsDfs H ds os
theorem IsCode.keep{H H':Hp}{ds:List Df}{p:Addr}(t:Tups H H')(h:IsCode H ds p):IsCode H' ds p:=let ⟨v,pd,os,a,b,c⟩:=h;⟨v,pd,os,t _ _ a,t _ _ b,c.keep t⟩
def owOf(ds:List Df):Ow:=ds.map fun d=>(d.g,d.os)
theorem vU{α β:Type}(h:α->β):∀(l:List (Str×α))(x:Str),look (l.map fun q=>(q.1,h q.2)) x=(look l x).map h
 |[],x=>rfl
 |q::l,x=>by
  have ih:=vU h l x
  unfold look at *
  rw[uY,Uu,Uu]
  by_cases c:q.1=x
  ·rw[decide_eq_true c]
   rfl
  ·rw[decide_eq_false c]
   exact ih
theorem Zx{α:Type}{l:List (Str×α)}{x:Str}{a:α}(h:look l x=some a):(x,a)∈l:=by
 unfold look at h
 obtain⟨q,h1,rfl⟩:=uf.mp h
 have e:decide (q.1=x)=true:=List.find?_some (p:=fun p:Str×α=>decide (p.1=x)) h1
 rw[decide_eq_true_eq]at e
 rw[<- e]
 exact List.mem_of_find?_eq_some h1
theorem XB{α:Type}{l:List (Str×α)}{x:Str}(h:x∉l.map (·.1)):look l x=none:=by
 cases c:look l x with
 |none=>rfl
 |some a=>exact absurd (UA.mpr ⟨_,Zx c,rfl⟩) h
def Jp:Sp:=fun vs H Q _=>∃(p:Addr)(ds:List Df),vs=[.ref p]/\IsCode H ds p/\(ds.map (·.g)).Nodup/\ds.length<=1000/\∀H' od,Same H H'->OwAt H' od (owOf ds)->Q (.ref od) H'
def bad1(ds:List Df):Option Df:=ds.find? fun d=>!okB (owOf ds) d.b d.s0
def jD(uh:Addr):Sp:=fun vs H Q E=>∃(p:Addr)(ds:List Df),vs=[.ref p]/\IsCode H ds p/\(ds.map (·.g)).Nodup/\ds.length<=1000/\(∀d∈ds,DfOk (owOf ds) d)/\(bad1 ds=none->∀H',Same H H'->Q (.bl true) H')/\(∀d,bad1 ds=some d->ErrU uh E (fun _=>False) H d.g)
theorem scOwns:FnScope ["code","owns","one"] ["code"] (zn VB):=.ok
theorem Q2(F:Fun K "all_owns" "all_owns" VB f fd):FnOk P w K mg base CX0 1 f fd ["code"] Jp:=by
 refine F.by scOwns (fun vs H Q E h=>?_) (fun cdv A outer s H vs Q E hr h=>?_)
 ·obtain⟨p,ds,rfl,_⟩:=h
  rfl
 obtain⟨p,ds,rfl,⟨v,pd,os,h1,h2,h3⟩,hn,hl,q⟩:=h
 refine⟨_,
  (zh (sE 1 scOwns.nd xK)
  (zh (yg PassesOwn.never rfl (yB (xT 0)) (gN 2 scOwns.nd)
   (zj (xZ hr (jv 1) (xT 2) (xT 2))))
  (zj (zq (jv 1))))),?_⟩
 have sl:=zN
 refine fun od hod=>?_
 have s1:=zi hod (.dK [])
 have d1:=zg (H:=H) (a:=od) (o:=.dK [])
 dsimp only
 generalize upd H od (.dK [])=H1 at *
 refine⟨_,rfl,ixT (s1 _ _ h1) aI1 ⟨pd,rfl,⟨_,SqT.of (s1 _ _ h2)⟩,xc (xs:=os.map V.ref) (fun i σ H'=>∃(L:List (Str×(List Bool×Addr)))(y:Option V),σ=[some (.ref p),some (.ref od),y]/\Same H H'/\H' od=some (.dK (em (fun q=>V.ref q.2) L))/\L.map (fun x=>(x.1,x.2.1))=owOf (ds.take i)/\∀x∈L,H x.2.2=some (.tup (x.2.1.map V.bl))) ⟨[],none,rfl,s1,d1,rfl,fun x hx=>by cases hx⟩ (fun i σ H' _ h=>?_) ?_ ?_⟩⟩
 ·obtain⟨_,_,_,k,_⟩:=h
  exact SqT.of (k _ _ h2)
 ·rintro i v σ H2 hv ⟨L,y,rfl,s2,d2,eL,hL⟩
  rw[uk]at hv
  obtain⟨o,ho,rfl⟩:=uf.mp hv
  have hi:i < ds.length:=by rw[h3.1];exact(ug.mp ho).1
  obtain⟨d,hd⟩:∃d,ds[i]?=some d:=⟨_,um hi⟩
  obtain⟨pp,po,pb,g1,g2,g3,g4⟩:=h3.2 i d o hd ho
  have tn:ds.take (i+1)=ds.take i++[d]:=by rw[UY,hd];rfl
  have ll:L.length=i:=by
   have:=congrArg U3 eL
   unfold owOf at this
   rw[ua,ua,uX]at this
   lia
  have no:look L d.g=none:=by
   refine XB fun hm=>?_
   have e:L.map (·.1)=(ds.take i).map (·.g):=by
    have:=congrArg (fun l=>l.map (·.1)) eL
    unfold owOf at this
    simp only[UV]at this
    exact this
   rw[e]at hm
   rw[<- Ug (i+1) ds,uj,tn,uj,UG,UG]at hn
   exact hn.1.2.2 _ hm _ (by simp) rfl
  refine⟨_,rfl,ixT (s2 _ _ g1) aI2 ⟨_,rfl,_,rfl,ixT (s2 _ _ g1) aI0 ⟨od,_,rfl,DPut.k (k:=.inr d.g) d2 (by rw[xP];lia),?_⟩⟩⟩
  have ep:=we (fun q:List Bool×Addr=>V.ref q.2) (a:=(d.os,po)) no
  refine⟨L++[(d.g,(d.os,po))],_,rfl,s2.put hod,by rw[zg];exact congrArg (fun z=>some (HO.dK z)) ep,?_,fun x hx=>?_⟩
  ·rw[uj,eL,tn]
   unfold owOf
   rw[uj]
   rfl
  ·rcases uF.mp hx with z|z
   ·exact hL x z
   ·rw[uv.mp z]
    exact g3
 ·rintro σ H2 ⟨L,y,rfl,s2,d2,eL,hL⟩
  rw[ua,<- h3.1,uV (ui _)]at eL
  refine⟨_,rfl,q _ od s2 ⟨_,d2,fun g bs hb=>?_⟩⟩
  rw[<- eL,vU (fun q:List Bool×Addr=>q.1)]at hb
  obtain⟨a,ha,rfl⟩:=uf.mp hb
  exact⟨a.2,by rw[yn,ha];rfl,s2 _ _ (hL _ (Zx ha))⟩
theorem scChecked:FnScope ["code","owns","one"] ["code"] (zn vO):=.ok
theorem YX(F:Fun K "checked" "checked" vO f fd)(GO:Ca P w K mg base CX0 1 "all_owns" ["code"] Jp)(GD:Ca P w K mg base (CXf P w) 8 "check_def" ["owns","one"] (Xz cH uh)):FnOk P w K mg base (CXf P w) 9 f fd ["code"] (jD uh):=by
 refine F.byx scChecked (fun vs H Q E h=>?_) (fun cdv A outer s H vs Q E hr h=>?_)
 ·obtain⟨p,ds,rfl,_⟩:=h
  rfl
 obtain⟨p,ds,rfl,hI,hn,hl,hok,hT,hF⟩:=h
 have hr1:Room 1 _:=hr.mono (by decide)
 refine⟨_,
  (zh (sE 1 scChecked.nd (cA GO hr1 (jA1 (jv 0))))
  (zh (yg ownx rfl (yB (xT 0)) (gN 2 scChecked.nd)
   (zj (zy (w9 GD hr rfl zX (jA2 (jv 1) (jv 2))))))
  (zj (zq xm)))),?_⟩
 refine⟨_,rfl,p,ds,rfl,hI,hn,hl,fun H1 od s1 hO=>?_⟩
 obtain⟨v,pd,os,h1,h2,h3⟩:=hI
 dsimp only
 refine⟨_,rfl,ixT (s1 _ _ h1) aI1 ⟨pd,rfl,⟨_,SqT.of (s1 _ _ h2)⟩,xc (xs:=os.map V.ref) (fun i σ H'=>∃y:Option V,σ=[some (.ref p),some (.ref od),y]/\Same H1 H'/\∀d∈ds.take i,okB (owOf ds) d.b d.s0=true) ⟨none,rfl,Same.refl _,fun d hd=>by simp at hd⟩ (fun i σ H' _ h=>?_) ?_ ?_⟩⟩
 ·obtain⟨_,_,k,_⟩:=h
  exact SqT.of (k _ _ (s1 _ _ h2))
 ·rintro i v σ H2 hv ⟨y,rfl,s2,hall⟩
  rw[uk]at hv
  obtain⟨o,ho,rfl⟩:=uf.mp hv
  have hi:i < ds.length:=by rw[h3.1];exact(ug.mp ho).1
  obtain⟨d,hd⟩:∃d,ds[i]?=some d:=⟨_,um hi⟩
  have tn:ds.take (i+1)=ds.take i++[d]:=by rw[UY,hd];rfl
  have s02:=s1.trans s2
  refine⟨_,rfl,_,rfl,od,o,owOf ds,d,rfl,hO.same s2,(h3.2 i d o hd ho).keep (.of s02),hok d (uB hd),fun hb H3 s3=>⟨_,rfl,s2.trans s3,fun d' hd'=>?_⟩,fun hb=>?_⟩
  ·rw[tn]at hd'
   rcases uF.mp hd' with z|z
   ·exact hall d' z
   ·rw[uv.mp z]
    exact hb
  ·refine(hF d ?_).at (.of s02) fun _ z=>z
   unfold bad1
   have e:ds=ds.take i++d::ds.drop (i+1):=by
    have:=Ug (i+1) ds
    rw[tn,Uj]at this
    exact this.symm
   conv=>lhs;arg 2;rw[e]
   rw[List.find?_append,tX.mpr (fun d' hd'=>by rw[hall d' hd'];decide),Option.none_or,List.find?_cons_of_pos (by rw[hb];rfl)]
 ·rintro σ H2 ⟨y,rfl,s2,hall⟩
  rw[ua,<- h3.1,uV (ui _)]at hall
  refine hT ?_ _ (s1.trans s2)
  unfold bad1
  exact tX.mpr fun d' hd'=>by rw[hall d' hd'];decide
end
inductive Ev
 |look (x:Str)
 |up (x:Str)
 |bind (x:Str)
 |keep (t:Str) (n:Nat)
 |fill (t:Str) (n:Nat)
 |loose (t:Str)
 |fin
 |bad
def stE:Ev->Hs->Option Hs
 |.look x,s=>if zB x s=true then some s else none
 |.up x,s=>zL x s
 |.bind x,s=>zG x s
 |.keep t n,s=>xo t ((n:Nat):Int) s
 |.fill t n,s=>if t=""then some s else(useT t s).bind fun p=>if p.1=((n:Nat):Int)then some p.2 else none
 |.loose t,s=>(useT t s).map (·.2)
 |.fin,s=>if yY s=true then some s else none
 |.bad,_=>none
def rE:List Ev->Hs->Option Hs
 |[],s=>some s
 |e::r,s=>(stE e s).bind (rE r)
theorem yZ:∀(a b:List Ev)(s:Hs),rE (a++b) s=(rE a s).bind (rE b)
 |[],b,s=>rfl
 |e::a,b,s=>by
  show(stE e s).bind (rE (a++b))=((stE e s).bind (rE a)).bind (rE b)
  cases stE e s with
  |none=>rfl
  |some s1=>exact yZ a b s1
def dE(ow:Ow):Dd->List Ev
 |.num _=>[]
 |.op _ a b=>[.look a,.look b]
 |.mk _ ns k=>ns.map .up++[.fill k ns.length]
 |.call g ns=>((ns.zip ((look ow g).getD [])).filter (·.2)).map (fun p=>.up p.1)++((ns.zip ((look ow g).getD [])).filter (!·.2)).map (fun p=>.look p.1)
 |.fn g ns=>ns.map .up++(((look ow g).getD []).filter (!·)).map (fun _=>.bad)
 |.ask g ns=>.up g::ns.map .up
theorem Zy:∀(l:List (Str×Bool))(s:Hs),rE ((l.filter (·.2)).map fun p=>.up p.1) s=zT l s
 |[],s=>rfl
 | (x,true)::r,s=>by
  show(zL x s).bind (rE _)=(zL x s).bind (zT r)
  cases zL x s with
  |none=>rfl
  |some s1=>exact Zy r s1
 | (x,false)::r,s=>Zy r s
theorem vV:∀(l:List (Str×Bool))(s:Hs),rE ((l.filter (!·.2)).map fun p=>.look p.1) s=if yI l s=true then some s else none
 |[],s=>rfl
 | (x,true)::r,s=>vV r s
 | (x,false)::r,s=>by
  show(if zB x s=true then some s else none).bind (rE _)=if(zB x s && yI r s)=true then some s else none
  cases zB x s with
  |false=>rfl
  |true=>exact vV r s
theorem wE:∀(ns:List Str),ns.zip (ns.map fun _=>true)=ns.map fun x=>(x,true)
 |[]=>rfl
 |x::ns=>by rw[uY,List.zip_cons_cons,wE ns];rfl
theorem wF:∀(ns:List Str)(s:Hs),rE (ns.map .up) s=zT (ns.map fun x=>(x,true)) s
 |[],s=>rfl
 |x::ns,s=>by
  show(zL x s).bind (rE _)=(zL x s).bind (zT _)
  cases zL x s with
  |none=>rfl
  |some s1=>exact wF ns s1
theorem wj:∀(ns:List Str)(s:Hs),yI (ns.map fun x=>(x,true)) s=true
 |[],s=>rfl
 |x::ns,s=>wj ns s
theorem bads:∀(l:List Bool)(s:Hs),rE ((l.filter (!·)).map fun _=>.bad) s=if l.all id=true then some s else none
 |[],s=>rfl
 |true::l,s=>bads l s
 |false::l,s=>rfl
theorem yT{α:Type}(o:Option α):o.bind some=o:=by cases o<;>rfl
theorem zcO(ow:Ow)(d:Dd)(s:Hs):rE (dE ow d) s=yE ow d s:=by
 cases d with
 |num i=>rfl
 |op w a b =>
  show(if zB a s=true then some s else none).bind _=_
  unfold yE
  show _=if(zB a s && (zB b s && true))=true then some s else none
  cases zB a s with
  |false=>rfl
  |true =>
   show(if zB b s=true then some s else none).bind _=_
   cases zB b s<;>rfl
 |mk t ns k =>
  unfold dE yE
  rw[yZ,wF,show(yk (.mk t ns k)).zip (wo ow (.mk t ns k))=ns.map fun x=>(x,true)from wE ns]
  cases zT (ns.map fun x=>(x,true)) s with
  |none=>rfl
  |some s1 =>
   rw[uz,uz,if_pos (wj ns s1)]
   show(stE (.fill k ns.length) s1).bind (rE [])=vg ow (.mk t ns k) s1
   rw[vg]
   show(if k=""then some s1 else _).bind some=_
   rw[yT]
 |call g ns =>
  unfold dE yE
  rw[yZ,Zy]
  show _=(zT (ns.zip ((look ow g).getD [])) s).bind _
  cases zT (ns.zip ((look ow g).getD [])) s with
  |none=>rfl
  |some s1=>exact vV _ s1
 |fn g ns =>
  unfold dE yE
  rw[yZ,wF,show(yk (.fn g ns)).zip (wo ow (.fn g ns))=ns.map fun x=>(x,true)from wE ns]
  cases zT (ns.map fun x=>(x,true)) s with
  |none=>rfl
  |some s1 =>
   rw[uz,uz,if_pos (wj ns s1)]
   exact bads _ s1
 |ask g ns =>
  unfold dE yE
  rw[show(yk (.ask g ns)).zip (wo ow (.ask g ns))=(g::ns).map fun x=>(x,true)from wE (g::ns)]
  show rE ((g::ns).map .up) s=_
  rw[wF]
  cases zT ((g::ns).map fun x=>(x,true)) s with
  |none=>rfl
  |some s1 =>
   rw[uz,if_pos (wj (g::ns) s1)]
   rfl
theorem binds:∀(ns:List Str)(s:Hs),rE (ns.map .bind) s=zH ns s
 |[],s=>rfl
 |x::ns,s=>by
  show(zG x s).bind (rE _)=(zG x s).bind (zH ns)
  cases zG x s with
  |none=>rfl
  |some s1=>exact binds ns s1
theorem XC:∀(ns:List Str)(s:Hs)(ts:List (Str×Int)),zH ns ⟨s.ns,ts⟩=(zH ns s).map fun s'=>⟨s'.ns,ts⟩
 |[],s,ts=>rfl
 |x::ns,s,ts=>by
  show(zG x ⟨s.ns,ts⟩).bind (zH ns)=((zG x s).bind (zH ns)).map _
  unfold zG
  by_cases c:look s.ns x=none
  ·rw[if_pos c,if_pos c]
   exact XC ns ⟨s.ns++[(x,true)],s.ts⟩ ts
  ·rw[if_neg c,if_neg c]
   rfl
theorem vW:∀(ns:List Str)(s s':Hs),zH ns s=some s'->s'.ts=s.ts
 |[],s,s',h=>by cases h;rfl
 |x::ns,s,s',h=>by
  obtain⟨s1,h1,h2⟩:=uN.mp (show(zG x s).bind (zH ns)=some s' from h)
  have:=vW ns s1 s' h2
  unfold zG at h1
  split at h1
  ·cases h1;exact this
  ·cases h1
def hE(x:Str)(ns:List Str)(m k:Str):List Ev:=[.look x]++(if m="take"then[.up x]else[])++(if k=""then[]else .keep k ns.length::(if m="look"\/ns.length=0 then[.bad]else[]))++ns.map .bind
theorem zaV{x:Str}{ns:List Str}{m k:Str}{s:Hs}(hm:m="take"\/m="look"):rE (hE x ns m k) s=if zB x s=true then armC x ns m k s else none:=by
 unfold hE
 rw[yZ,yZ,yZ]
 show((((if zB x s=true then some s else none).bind (rE [])).bind _).bind _).bind _=_
 cases zB x s with
 |false=>rfl
 |true =>
  rw[if_pos rfl,if_pos rfl]
  show(((some s).bind _).bind _).bind _=_
  rw[uz]
  unfold armC
  have nt:("look":Str)≠"take":=by decide
  have e1:rE (if m="take"then[.up x]else[]) s=if m="take"then zL x s else some s:=by
   split
   ·exact yT _
   ·rfl
  rw[e1]
  cases(if m="take"then zL x s else some s)with
  |none=>rfl
  |some s1 =>
   rw[uz,uz]
   by_cases ck:k=""
   ·rw[if_pos ck]
    show(some s1).bind _=_
    rw[uz,binds]
    simp only[if_pos ck]
    rw[yT]
   ·rw[if_neg ck]
    simp only[if_neg ck]
    show((xo k _ s1).bind (rE _)).bind _=_
    by_cases cm:m="look"\/ns.length=0
    ·rw[if_pos cm]
     have:¬ (m="take"/\0 < ns.length):=by
      rintro⟨a,b⟩
      rcases cm with c|c
      ·exact nt (c.symm.trans a)
      ·lia
     simp only[if_neg this]
     cases xo k ((ns.length:Nat):Int) s1 with
     |none=>cases zH ns s1<;>rfl
     |some s2=>cases zH ns s1<;>rfl
    ·rw[if_neg cm]
     have:m="take"/\0 < ns.length:=by
      refine⟨hm.resolve_right fun c=>cm (.inl c),?_⟩
      exact Nat.pos_of_ne_zero fun c=>cm (.inr c)
     simp only[if_pos this]
     unfold xo
     by_cases ct:look s1.ts k=none
     ·rw[if_pos ct]
      show rE (ns.map .bind) _=_
      rw[binds,XC]
      cases cb:zH ns s1 with
      |none=>rfl
      |some s2 =>
       have:=vW _ _ _ cb
       rw[uz,this,if_pos ct]
       rfl
     ·rw[if_neg ct]
      cases cb:zH ns s1 with
      |none=>rfl
      |some s2 =>
       have:=vW _ _ _ cb
       rw[uz,this,if_neg ct]
       rfl
mutual
def wB(ow:Ow):Bd->List (List Ev)
 |.give x=>[[.up x,.fin]]
 |.lt x d b=>(wB ow b).map ((dE ow d++[.bind x]) ++ ·)
 |.hold x y b=>(wB ow b).map ([.look y,.bind x] ++ ·)
 |.drop x b=>(wB ow b).map ([.up x] ++ ·)
 |.loose t b=>(wB ow b).map ([.loose t] ++ ·)
 |.iff x b c=>(wB ow b++wB ow c).map ([.look x] ++ ·)
 |.cs x as=>wA ow x as
def wA(ow:Ow)(x:Str):Arms->List (List Ev)
 |.nil=>[]
 |.cons _ ns m k b r=>(wB ow b).map (hE x ns m k ++ ·)++wA ow x r
end
mutual
def NeB:Bd->Prop
 |.give _=>True
 |.lt _ _ b=>NeB b
 |.hold _ _ b=>NeB b
 |.drop _ b=>NeB b
 |.loose _ b=>NeB b
 |.iff _ b c=>NeB b/\NeB c
 |.cs _ as=>as≠.nil/\NeA as
def NeA:Arms->Prop
 |.nil=>True
 |.cons _ _ m _ b r=>(m="take"\/m="look")/\NeB b/\NeA r
end
def good(w:List (List Ev))(s:Hs):Bool:=w.all fun e=>(rE e s).isSome
theorem xa{p:List Ev}{w:List (List Ev)}{s:Hs}(hw:w≠[]):good (w.map (p ++ ·)) s=match rE p s with
  |none=>false
  |some s1=>good w s1:=by
 unfold good
 rw[List.all_map]
 have e:((fun e=>(rE e s).isSome) ∘ fun x=>p++x)=fun e=>((rE p s).bind (rE e)).isSome:=by
  funext e
  show(rE (p++e) s).isSome=_
  rw[yZ]
 rw[e]
 cases rE p s with
 |some s1=>rfl
 |none =>
  cases w with
  |nil=>exact absurd rfl hw
  |cons a w=>rfl
theorem xR{a b:List (List Ev)}{s:Hs}:good (a++b) s=(good a s && good b s):=List.all_append
mutual
theorem xt{ow:Ow}:∀{b:Bd},NeB b->wB ow b≠[]
 |.give x,_=>by rw[wB];intro h;cases h
 |.lt x d b,h=>by rw[wB];rw[NeB]at h;intro z;exact xt h (UI.mp z)
 |.hold x y b,h=>by rw[wB];rw[NeB]at h;intro z;exact xt h (UI.mp z)
 |.drop x b,h=>by rw[wB];rw[NeB]at h;intro z;exact xt h (UI.mp z)
 |.loose x b,h=>by rw[wB];rw[NeB]at h;intro z;exact xt h (UI.mp z)
 |.iff x b c,h=>by rw[wB];rw[NeB]at h;intro z;exact xt h.1 (Uq.mp (UI.mp z)).1
 |.cs x as,h=>by rw[wB];rw[NeB]at h;exact zcP h.1 h.2
theorem zcP{ow:Ow}{x:Str}:∀{as:Arms},as≠.nil->NeA as->wA ow x as≠[]
 |.nil,h,_=>absurd rfl h
 |.cons t ns m k b r,_,h=>by rw[wA];rw[NeA]at h;intro z;exact xt h.2.1 (UI.mp (Uq.mp z).1)
end
mutual
theorem yL{ow:Ow}:∀{b:Bd}{s:Hs},NeB b->okB ow b s=good (wB ow b) s
 |.give x,s,_=>by
  rw[okB,pc,wB]
  show _=(((zL x s).bind (rE [.fin])).isSome && true)
  rw[Bool.and_true]
  cases zL x s with
  |none=>rfl
  |some s1 =>
   show(if yY s1=true then some []else none).isSome=((if yY s1=true then some s1 else none).bind some).isSome
   cases yY s1<;>rfl
 |.lt x d b,s,h=>by
  rw[NeB]at h
  rw[okB,wB,xa (xt h),yZ,zcO]
  cases yE ow d s with
  |none=>rfl
  |some s1 =>
   show(match zG x s1 with|none=>false|some s2=>okB ow b s2)=match (zG x s1).bind some with|none=>false|some s1=>good (wB ow b) s1
   rw[yT]
   cases zG x s1 with
   |none=>rfl
   |some s2=>exact yL h
 |.hold x y b,s,h=>by
  rw[NeB]at h
  rw[okB,wB,xa (xt h)]
  show _=match (if zB y s=true then some s else none).bind fun s=>(zG x s).bind some with|none=>false|some s1=>good (wB ow b) s1
  cases zB y s with
  |false=>rfl
  |true =>
   show(match zG x s with|none=>false|some s2=>okB ow b s2)=match (zG x s).bind some with|none=>false|some s1=>good (wB ow b) s1
   rw[yT]
   cases zG x s with
   |none=>rfl
   |some s2=>exact yL h
 |.drop x b,s,h=>by
  rw[NeB]at h
  rw[okB,wB,xa (xt h)]
  show _=match (zL x s).bind some with|none=>false|some s1=>good (wB ow b) s1
  rw[yT]
  cases zL x s with
  |none=>rfl
  |some s2=>exact yL h
 |.loose x b,s,h=>by
  rw[NeB]at h
  rw[okB,wB,xa (xt h)]
  show _=match ((useT x s).map (·.2)).bind some with|none=>false|some s1=>good (wB ow b) s1
  rw[yT]
  cases useT x s with
  |none=>rfl
  |some s2=>exact yL h
 |.iff x b c,s,h=>by
  rw[NeB]at h
  rw[okB,wB,xa (fun z=>xt h.1 (Uq.mp z).1)]
  show _=match (if zB x s=true then some s else none).bind some with|none=>false|some s1=>good (wB ow b++wB ow c) s1
  rw[yT]
  cases zB x s with
  |false=>rfl
  |true =>
   show(okB ow b s && okB ow c s)=good (wB ow b++wB ow c) s
   rw[xR,yL h.1,yL h.2]
 |.cs x as,s,h=>by
  rw[NeB]at h
  rw[okB,wB]
  cases cl:zB x s with
  |true=>rw[Yb h.2 cl];rfl
  |false =>
   cases as with
   |nil=>exact absurd rfl h.1
   |cons t ns m k b r =>
    have h2:=h.2
    rw[NeA]at h2
    rw[wA,xR,xa (xt h2.2.1),zaV h2.1,cl]
    rfl
theorem Yb{ow:Ow}{x:Str}:∀{as:Arms}{s:Hs},NeA as->zB x s=true->okA ow x as s=good (wA ow x as) s
 |.nil,s,_,_=>by rw[okA,wA];rfl
 |.cons t ns m k b r,s,h,hl=>by
  rw[NeA]at h
  rw[okA,wA,xR,xa (xt h.2.1),zaV h.1,if_pos hl,Yb h.2.2 hl]
  cases armC x ns m k s with
  |none=>rfl
  |some s1 =>
   show(okB ow b s1 && good (wA ow x r) s)=(good (wB ow b) s1 && good (wA ow x r) s)
   rw[yL h.2.1]
end
def evT:Ev->List V
 |.look x=>[.str "look",.str x,.int 0]
 |.up x=>[.str "up",.str x,.int 0]
 |.bind x=>[.str "bind",.str x,.int 0]
 |.keep t n=>[.str "keep",.str t,.int (n:Nat)]
 |.fill t n=>[.str "fill",.str t,.int (n:Nat)]
 |.loose t=>[.str "loose",.str t,.int 0]
 |.fin=>[.str "end",.str "",.int 0]
 |.bad=>[.str "bad",.str "",.int 0]
def EvAt(H:Hp):List Ev->List Addr->Prop
 |[],[]=>True
 |e::es,t::ts=>H t=some (.tup (evT e))/\EvAt H es ts
 |_,_=>False
theorem EvAt.keep{H H':Hp}(t:Tups H H'):∀{es:List Ev}{ts:List Addr},EvAt H es ts->EvAt H' es ts
 |[],[],_=>trivial
 |e::es,a::ts,⟨h1,h2⟩=>⟨t _ _ h1,EvAt.keep t h2⟩
theorem EvAt.len{H:Hp}:∀{es:List Ev}{ts:List Addr},EvAt H es ts->es.length=ts.length
 |[],[],_=>rfl
 |e::es,a::ts,⟨_,h⟩=>by rw[uM,uM,EvAt.len h]
theorem EvAt.app{H:Hp}:∀{es:List Ev}{ts:List Addr}{es':List Ev}{ts':List Addr},EvAt H es ts->EvAt H es' ts'->EvAt H (es++es') (ts++ts')
 |[],[],_,_,_,h=>h
 |e::es,a::ts,_,_,⟨h1,h2⟩,h=>⟨h1,EvAt.app h2 h⟩
theorem zO{H H':Hp}{r:Addr}(s:Same H H')(h:H' r=none):H r=none:=by
 cases c:H r with
 |none=>rfl
 |some o=>rw[s _ _ c]at h;cases h
theorem ifTT{b:Bool}{A B:Prop}(e:b=true)(h:A):if b=true then A else B:=by rw[if_pos e];exact h
theorem ifFF{b:Bool}{A B:Prop}(e:b=false)(h:B):if b=true then A else B:=by rw[if_neg (by rw[e];decide)];exact h
theorem YY{H H1:Hp}{l0 a:Addr}{es:List Ev}{ts:List Addr}{e:Ev}(s:Same H H1)(n0:H l0=none)(L:H1 l0=some (.lst (ts.map V.ref)))(E:EvAt H1 es ts)(hp:H1 a=none):Same H (upd (upd H1 a (.tup (evT e))) l0 (.lst (ts.map V.ref++[.ref a])))/\(upd (upd H1 a (.tup (evT e))) l0 (.lst (ts.map V.ref++[.ref a]))) l0=some (.lst ((ts++[a]).map V.ref))/\EvAt (upd (upd H1 a (.tup (evT e))) l0 (.lst (ts.map V.ref++[.ref a]))) (es++[e]) (ts++[a]):=by
 have t1:Tups H1 (upd (upd H1 a (.tup (evT e))) l0 (.lst (ts.map V.ref++[.ref a]))):=fun p xs h=>by
  rw[zm (fun z=>by rw[z,L]at h;cases h)]
  exact old hp h
 refine⟨(s.new hp).put n0,by rw[zg,uj];rfl,(E.keep t1).app ⟨?_,trivial⟩⟩
 rw[zm (fun z=>by rw[z,L]at hp;cases hp)]
 exact zg
def Jq:Sp:=fun vs H Q _=>∃(x t m k:Str)(p q s:Addr)(ns:List Str),vs=[.str x,.ref p]/\H p=some (.tup [.str t,.ref q,.str m,.str k,.ref s])/\H q=some (.tup (ns.map V.str))/\ns.length<=1000/\∀H' r ts,Same H H'->H' r=some (.lst (ts.map V.ref))->EvAt H' (hE x ns m k) ts->Q (.ref r) H'
section
variable{P:Program}{w:World}{K:ub}{mg:Str->Option Value}{base:Heap}{f:Addr}{fd:FuncData}
theorem scHevs:FnScope ["_law_x","_law_arm_here","_law_events"] lS22 (zn VM):=.ok
theorem zcb:(["_law_x","_law_arm_here","_law_events","_law_name_here"]:List Str).Nodup:=by decide +kernel
theorem Q3(F:Fun K "_law_head_events" "_law_head_events" VM f fd)(m_len:mg "len"=none):FnOk P w K mg base CX0 1 f fd lS22 Jq:=by
 refine F.by scHevs (fun vs H Q E h=>?_) (fun cdv A outer s H vs Q E hr h=>?_)
 ·obtain⟨x,t,m,k,p,q,s,ns,rfl,_⟩:=h
  rfl
 obtain⟨x,t,m,k,p,q,s',ns,rfl,hp,hq,ln,Qq⟩:=h
 refine⟨_,
  (zh (sE 2 scHevs.nd (zv (jA1 (zu (jA3 zo (jv 0) zk)))))
  (zh (zw (tN zz (xT 1) zo)
   (zj (zy (xg uJ uZ u6 yf (jv 2) (jA1 (zu (jA3 zo (jv 0) zk)))))) zp)
  (zh (zw (tN wY (xT 1) zo)
   (zh (zy (xg uJ uZ u6 yf (jv 2) (jA1 (zu (jA3 zo (xT 1) (jL m_len (xT 1)))))))
   (zj (zw (jW.pt (xD (tN zz (xT 1) zo) (yW (tN zz (jL m_len (xT 1)) zk))))
    (zj (zy (xg uJ uZ u6 yf (jv 2) (jA1 (zu (jA3 zo zo zk)))))) zp))) zp)
  (zj (zq (zx zZ (jv 2) (zW ["_law_name_here"] rfl (yB (xT 1)) (fun _ _ _ _ _=>(gN 3 zcb)) (fun _ _ _ _ _=>zV) (fun _ _ _ _ _=>(zu (jA3 zo (jv 3) zk)))))))))),?_⟩
 have sl:=zN
 refine⟨_,rfl,sN3,fun a1 h1=>⟨sN1,fun l0 h2=>?_⟩⟩
 have s2:=(zi h1 (.tup [.str "look",.str x,.int 0])).new (o:=.lst [.ref a1]) h2
 have n0:H l0=none:=zO (zi h1 (.tup [.str "look",.str x,.int 0])) h2
 have L2':=zg (H:=upd H a1 (.tup [.str "look",.str x,.int 0])) (a:=l0) (o:=.lst [.ref a1])
 have E2:EvAt (upd (upd H a1 (.tup [.str "look",.str x,.int 0])) l0 (.lst [.ref a1])) [.look x] [a1]:=⟨old h2 zg,trivial⟩
 generalize upd (upd H a1 (.tup [.str "look",.str x,.int 0])) l0 (.lst [.ref a1])=H2 at *
 unfold wU
 dsimp only
 refine(show ∀(u:TS)(D:Ends),(∀(H3:Hp)(es:List Ev)(ts:List Addr),Same H H3->H3 l0=some (.lst (ts.map V.ref))->EvAt H3 es ts->es=[.look x]++(if m="take"then[.up x]else[])->u D [some (.str x),some (.ref p),some (.ref l0)] H3)->(tSeq _ u:TS) D [some (.str x),some (.ref p),some (.ref l0)] H2 from ?k1) _ _ ?k2
 case k1 =>
  intro u D hU
  refine⟨_,rfl,p,_,_,_,rfl,rfl,SqT.of (s2 _ _ hp),aI2,rfl,_,rfl,?_⟩
  by_cases c:m="take"
  ·refine ifTT (decide_eq_true (congrArg V.str c)) ⟨_,rfl,.inl ⟨rfl,_,SqL.of L2'⟩,_,rfl,sN3,fun a2 h3=>?_⟩
   obtain⟨b1,b2,b3⟩:=YY (e:=.up x) (ts:=[a1]) s2 n0 L2' E2 h3
   exact⟨l0,_,_,rfl,rfl,old h3 L2',by show 1 < sizeLine;decide,hU _ _ _ b1 b2 b3 (by rw[if_pos c])⟩
  ·exact ifFF (decide_eq_false fun z=>c (by injection z)) (nxtC (hU _ _ [a1] s2 L2' E2 (by rw[if_neg c];rfl)))
 case k2 =>
  intro H3 es ts s3 L3 E3 hes
  have l3:ts.length<=2:=by
   rw[<- E3.len,hes]
   split
   ·exact ui 2
   ·exact U2 1
  clear s2 L2' E2
  refine(show ∀(u:TS)(D:Ends),(∀(H3:Hp)(es:List Ev)(ts:List Addr),Same H H3->H3 l0=some (.lst (ts.map V.ref))->EvAt H3 es ts->es=[.look x]++(if m="take"then[.up x]else[])++(if k=""then[]else .keep k ns.length::(if m="look"\/ns.length=0 then[.bad]else[]))->u D [some (.str x),some (.ref p),some (.ref l0)] H3)->(tSeq _ u:TS) D [some (.str x),some (.ref p),some (.ref l0)] H3 from ?k3) _ _ ?k4
  case k3 =>
   intro u D hU
   refine⟨_,rfl,p,_,_,_,rfl,rfl,SqT.of (s3 _ _ hp),aI3,rfl,_,rfl,?_⟩
   by_cases c:k=""
   ·exact ifFF (by rw[decide_eq_true (congrArg V.str c)];rfl) (nxtC (hU _ _ _ s3 L3 E3 (by rw[if_pos c,uO];exact hes)))
   ·refine ifTT (by rw[decide_eq_false (fun z=>c (by injection z))];rfl) ?_
    refine⟨_,rfl,.inl ⟨rfl,_,SqL.of L3⟩,_,rfl,p,_,_,_,rfl,rfl,SqT.of (s3 _ _ hp),aI3,_,rfl,p,_,_,_,rfl,rfl,SqT.of (s3 _ _ hp),aI1,q,_,rfl,.inr (SqT.of (s3 _ _ hq)),sN3,fun a2 h3=>?_⟩
    obtain⟨b1,b2,b3⟩:=YY (e:=.keep k (ns.map V.str).length) s3 n0 L3 E3 h3
    refine⟨l0,_,_,rfl,rfl,old h3 L3,by rw[ua];lia,?_⟩
    dsimp only
    rw[show evT (.keep k (ns.map V.str).length)=[.str "keep",.str k,.int ((ns.map V.str).length:Nat)]from rfl]at b1 b2 b3
    generalize upd (upd H3 a2 (.tup [.str "keep",.str k,.int ((ns.map V.str).length:Nat)])) l0 (.lst (ts.map V.ref++[.ref a2]))=H5 at *
    rw[ua]at b3
    have fin:m="look"\/ns.length=0->∀a3,H5 a3=none->(upd H5 a3 (.tup [.str "bad",.str "",.int 0])) l0=some (.lst ((ts++[a2]).map V.ref))/\((ts++[a2]).map V.ref).length < sizeLine/\u D [some (.str x),some (.ref p),some (.ref l0)] (upd (upd H5 a3 (.tup [.str "bad",.str "",.int 0])) l0 (.lst ((ts++[a2]).map V.ref++[.ref a3]))):=fun cm a3 h4=>by
     obtain⟨d1,d2,d3⟩:=YY (e:=.bad) b1 n0 b2 b3 h4
     exact⟨old h4 b2,by rw[ua,uc];show ts.length+1 < _;lia,hU _ _ _ d1 d2 d3 (by rw[if_neg c,if_pos cm,hes,Uj];rfl)⟩
    refine⟨_,rfl,p,_,_,_,rfl,rfl,SqT.of (b1 _ _ hp),aI2,rfl,_,rfl,?_⟩
    by_cases cm:m="look"
    ·refine ifTT (decide_eq_true (congrArg V.str cm)) (iteT ⟨_,rfl,.inl ⟨rfl,_,SqL.of b2⟩,sN3,fun a3 h4=>?_⟩)
     obtain⟨f1,f2,f3⟩:=fin (.inl cm) a3 h4
     exact⟨l0,_,_,rfl,rfl,f1,f2,f3⟩
    ·refine ifFF (decide_eq_false fun z=>cm (by injection z)) ⟨_,rfl,p,_,_,_,rfl,rfl,SqT.of (b1 _ _ hp),aI1,q,_,rfl,.inr (SqT.of (b1 _ _ hq)),rfl,_,rfl,?_⟩
     by_cases cn:ns.length=0
     ·refine ifTT (decide_eq_true (by rw[ua,cn];rfl)) ⟨_,rfl,.inl ⟨rfl,_,SqL.of b2⟩,sN3,fun a3 h4=>?_⟩
      obtain⟨f1,f2,f3⟩:=fin (.inr cn) a3 h4
      exact⟨l0,_,_,rfl,rfl,f1,f2,f3⟩
     ·refine ifFF (decide_eq_false fun z=>cn (by rw[ua]at z;injection z with z;lia)) (nxtC (hU _ _ _ b1 b2 b3 ?_))
      have cz:¬ (m="look"\/ns.length=0):=fun z=>z.elim cm cn
      rw[if_neg c,if_neg cz,hes]
  case k4 =>
   intro H4 es4 ts4 s4 L4 E4 he4
   have l4:ts4.length<=4:=by
    rw[<- E4.len,he4,<- hes,uc,E3.len]
    have:(if k=""then([]:List Ev)else .keep k ns.length::(if m="look"\/ns.length=0 then[.bad]else[])).length<=2:=by
     split
     ·exact uW _
     ·split
      ·exact ui 2
      ·exact U2 1
    lia
   refine⟨_,rfl,_,rfl,p,_,_,_,rfl,rfl,SqT.of (s4 _ _ hp),aI1,q,rfl,⟨_,SqT.of (s4 _ _ hq)⟩,wM (xs:=ns.map V.str) (fun i τ ys H'=>Same H4 H'/\(∃y,τ=[some (.str x),some (.ref p),some (.ref l0),y])/\∃us,ys=us.map V.ref/\EvAt H' ((ns.take i).map .bind) us) ⟨Same.refl _,⟨none,rfl⟩,[],rfl,trivial⟩ (fun i τ ys H' _ h=>SqT.of (h.1 _ _ (s4 _ _ hq))) ?_ ?_⟩
   ·rintro i v τ ys H' hv ⟨s5,⟨y,rfl⟩,us,rfl,he⟩
    rw[uk]at hv
    obtain⟨n,hn,rfl⟩:=uf.mp hv
    refine⟨_,rfl,sN3,fun a5 h5=>⟨?_,s5.new h5,⟨_,rfl⟩,us++[a5],by rw[uj];rfl,?_⟩⟩
    ·rw[ua,<- he.len,ua,uX]
     lia
    ·rw[Ua,hn,uj]
     exact(he.keep (Tups.of (zi h5 _))).app ⟨zg,trivial⟩
   ·rintro τ ys H5 ⟨s5,_,us,rfl,he⟩ l5 h5
    rw[ua,Us]at he
    have ul:us.length=ns.length:=by rw[<- he.len,ua]
    refine⟨l0,l5,_,_,rfl,rfl,old h5 (s5 _ _ L4),zg,by rw[ua,ua];lia,fun l6 h6=>?_⟩
    have s7:=(s5.new (o:=.lst (us.map V.ref)) h5).new (o:=.lst (ts4.map V.ref++us.map V.ref)) h6
    refine Qq _ l6 (ts4++us) (s4.trans s7) (by rw[zg,uj]) ?_
    unfold hE
    rw[<- he4]
    exact(E4.keep (Tups.of s7)).app (he.keep (Tups.of ((zi h5 _).new h6)))
def OkE(ow:Ow):Dd->Prop
 |.call g ns=>∃bs,look ow g=some bs/\bs.length=ns.length
 |.fn g _=>∃bs,look ow g=some bs/\bs.length<=1000
 |_=>True
def Jr:Sp:=fun vs H Q _=>∃(p od:Addr)(d:Dd)(ow:Ow),vs=[.ref p,.ref od]/\IsDd H d p/\(yk d).length<=1000/\OwAt H od ow/\OkD ow d/\OkE ow d/\∀H' r ts,Same H H'->H' r=some (.lst (ts.map V.ref))->EvAt H' (dE ow d) ts->ts.length<=10000->Q (.ref r) H'
def pE(ow:Ow):Bd->Option (List Ev×Bd)
 |.lt x d b=>some (dE ow d++[.bind x],b)
 |.hold x y b=>some ([.look y,.bind x],b)
 |.drop x b=>some ([.up x],b)
 |.loose t b=>some ([.loose t],b)
 |_=>none
def Js:Sp:=fun vs H Q _=>∃(p od:Addr)(b b':Bd)(ow:Ow)(es:List Ev),vs=[.ref p,.ref od]/\IsBd H b p/\OkBd ow b/\OwAt H od ow/\(∀x d b',b=.lt x d b'->OkE ow d)/\pE ow b=some (es,b')/\∀H' r ts,Same H H'->H' r=some (.lst (ts.map V.ref))->EvAt H' es ts->ts.length<=10001->Q (.ref r) H'
theorem zcc:FnScope lS6 lS6 (zn VN):=.ok
theorem Q4(F:Fun K "_law_piece_events" "_law_piece_events" VN f fd)(GD:Ca P w K mg base CX0 1 "_law_deed_events" lS20 Jr):FnOk P w K mg base CX0 2 f fd lS6 Js:=by
 refine F.by zcc (fun vs H Q E h=>?_) (fun cdv A outer s H vs Q E hr h=>?_)
 ·obtain⟨p,od,b,b',ow,es,rfl,_⟩:=h
  rfl
 obtain⟨p,od,b,b',ow,es,rfl,hI,hok,hO,hoe,he,q⟩:=h
 refine⟨_,
  (zh (zw (tN zz (xT 0) zo)
   (zj (zq (zx zZ (cA GD hr (jA2 (xT 0) (jv 1))) (zv (jA1 (zu (jA3 zo (xT 0) zk))))))) zp)
  (zh (zw (tN zz (xT 0) zo)
   (zj (zq (zv (jA2 (zu (jA3 zo (xT 0) zk)) (zu (jA3 zo (xT 0) zk)))))) zp)
  (zh (zw (tN zz (xT 0) zo)
   (zj (zq (zv (jA1 (zu (jA3 zo (xT 0) zk)))))) zp)
  (zj (zq (zv (jA1 (zu (jA3 zo (xT 0) zk))))))))),?_⟩
 have sl:=zN
 cases b with
 |give x=>cases he
 |iff x b c=>cases he
 |cs x as=>cases he
 |lt x d b =>
  cases he
  rw[IsBd]at hI
  obtain⟨pd,pb,h0,h1,h2⟩:=hI
  rw[OkBd]at hok
  refine⟨_,rfl,p,_,_,_,rfl,rfl,SqT.of h0,aI0,rfl,_,rfl,iteT ?_⟩
  refine⟨_,rfl,p,_,_,_,rfl,rfl,SqT.of h0,aI2,_,rfl,pd,od,d,ow,rfl,h1,hok.1,hO,hok.2.1,hoe _ _ _ rfl,fun H1 r1 ts s1 hr1 he1 l1=>?_⟩
  refine⟨_,rfl,p,_,_,_,rfl,rfl,SqT.of (s1 _ _ h0),aI1,sN3,fun a1 g1=>⟨sN1,fun l2 g2=>⟨r1,l2,_,[.ref a1],rfl,rfl,old g2 (old g1 hr1),zg,by rw[ua];show ts.length+1<=_;lia,fun l3 g3=>?_⟩⟩⟩
  have s3:=((zi g1 (.tup (evT (.bind x)))).new (o:=.lst [.ref a1]) g2).new (o:=.lst (ts.map V.ref++[.ref a1])) g3
  refine q _ l3 (ts++[a1]) (s1.trans s3) (by rw[zg,uj];rfl) ((he1.keep (Tups.of s3)).app ⟨old g3 (old g2 zg),trivial⟩) (by rw[uc];show ts.length+1<=_;lia)
 |hold x y b =>
  cases he
  rw[IsBd]at hI
  obtain⟨pb,h0,h2⟩:=hI
  refine⟨_,rfl,p,_,_,_,rfl,rfl,SqT.of h0,aI0,rfl,_,rfl,iteF (nxtC ?_)⟩
  refine⟨_,rfl,p,_,_,_,rfl,rfl,SqT.of h0,aI0,rfl,_,rfl,iteT ?_⟩
  refine⟨_,rfl,p,_,_,_,rfl,rfl,SqT.of h0,aI2,sN3,fun a1 g1=>⟨_,rfl,p,_,_,_,rfl,rfl,SqT.of (old g1 h0),aI1,sN3,fun a2 g2=>⟨sN2,fun l3 g3=>?_⟩⟩⟩
  exact q _ l3 [a1,a2] (((zi g1 _).new g2).new g3) zg ⟨old g3 (old g2 zg),old g3 zg,trivial⟩ (by show 2<=_;decide)
 |drop x b =>
  cases he
  rw[IsBd]at hI
  obtain⟨pb,h0,h2⟩:=hI
  refine⟨_,rfl,p,_,_,_,rfl,rfl,SqT.of h0,aI0,rfl,_,rfl,iteF (nxtC ?_)⟩
  refine⟨_,rfl,p,_,_,_,rfl,rfl,SqT.of h0,aI0,rfl,_,rfl,iteF (nxtC ?_)⟩
  refine⟨_,rfl,p,_,_,_,rfl,rfl,SqT.of h0,aI0,rfl,_,rfl,iteT ?_⟩
  refine⟨_,rfl,p,_,_,_,rfl,rfl,SqT.of h0,aI1,sN3,fun a1 g1=>⟨sN1,fun l3 g3=>?_⟩⟩
  exact q _ l3 [a1] ((zi g1 _).new g3) zg ⟨old g3 zg,trivial⟩ (by show 1<=_;decide)
 |loose x b =>
  cases he
  rw[IsBd]at hI
  obtain⟨pb,h0,h2⟩:=hI
  refine⟨_,rfl,p,_,_,_,rfl,rfl,SqT.of h0,aI0,rfl,_,rfl,iteF (nxtC ?_)⟩
  refine⟨_,rfl,p,_,_,_,rfl,rfl,SqT.of h0,aI0,rfl,_,rfl,iteF (nxtC ?_)⟩
  refine⟨_,rfl,p,_,_,_,rfl,rfl,SqT.of h0,aI0,rfl,_,rfl,iteF (nxtC ?_)⟩
  refine⟨_,rfl,p,_,_,_,rfl,rfl,SqT.of h0,aI1,sN3,fun a1 g1=>⟨sN1,fun l3 g3=>?_⟩⟩
  exact q _ l3 [a1] ((zi g1 _).new g3) zg ⟨old g3 zg,trivial⟩ (by show 1<=_;decide)
theorem scDevs:FnScope ["_law_deed_here","_law_owns","_law_ups_of","_law_mine"] lS20 (zn VL):=.ok
theorem Q5:(["_law_deed_here","_law_owns","_law_ups_of","_law_mine","_law_name_here"]:List Str).Nodup:=by decide +kernel
theorem Q6:(["_law_deed_here","_law_owns","_law_ups_of","_law_mine","_law_own"]:List Str).Nodup:=by decide +kernel
theorem vp:(["_law_deed_here","_law_owns","_law_ups_of","_law_mine","_law_name_here","_law_own"]:List Str).Nodup:=by decide +kernel
theorem Q7(F:Fun K "_law_deed_events" "_law_deed_events" VL f fd)(m_len:mg "len"=none)(m_zip:mg "zip"=none):FnOk P w K mg base CX0 1 f fd lS20 Jr:=by
 refine F.by scDevs (fun vs H Q E h=>?_) (fun cdv A outer s H vs Q E hr h=>?_)
 ·obtain⟨p,od,d,ow,rfl,_⟩:=h
  rfl
 obtain⟨p,od,d,ow,rfl,hI,hl,hO,hok,hoe,q⟩:=h
 refine⟨_,
  (zh (zw (tN zz (xT 0) zo)
   (zj (zq (zv zA))) zp)
  (zh (zw (tN zz (xT 0) zo)
   (zj (zq (zv (jA2 (zu (jA3 zo (xT 0) zk)) (zu (jA3 zo (xT 0) zk)))))) zp)
  (zh (yC ["_law_name_here"] (i:=2) scDevs.nd rfl (Or.inl rfl) rfl (yB (xT 0)) (fun _ _ _ _ _=>(gN 4 Q5)) (fun _ _ _ _ _=>zV) (fun _ _ _ _ _=>(zu (jA3 zo (jv 4) zk))))
  (zh (zw (tN zz (xT 0) zo)
   (zj (zq (zx zZ (jv 2) (zv (jA1 (zu (jA3 zo (xT 0) (jL m_len (xT 0))))))))) zp)
  (zh (zw (tN zz (xT 0) zo)
   (zj (zq (zx zZ (zv (jA1 (zu (jA3 zo (xT 0) zk)))) (jv 2)))) zp)
  (zh (zw (tN zz (xT 0) zo)
   (zj (zq (zx zZ (jv 2) (zW ["_law_own"] rfl (yB (wz hr (jv 1) (xT 0))) (fun _ _ _ _ _=>(gN 4 Q6)) (fun _ _ _ _ _=>(ya (yM (zE (jv 4))))) (fun _ _ _ _ _=>(zu (jA3 zo zo zk))))))) zp)
  (zh (yC ["_law_name_here","_law_own"] (i:=3) scDevs.nd rfl (Or.inl rfl) rfl (Zd rfl m_zip (jA2 (xT 0) (wz hr (jv 1) (xT 0)))) (fun _ _ _ _ _=>(wy K (n:=2) rfl (zC (gN 4 vp) (zC (gN 5 vp) yA)))) (fun _ _ _ _ _=>(ya (zE (jv 5)))) (fun _ _ _ _ _=>(zu (jA3 zo (jv 4) zk))))
  (zj (zq (zx zZ (jv 3) (zW ["_law_name_here","_law_own"] rfl (Zd rfl m_zip (jA2 (xT 0) (wz hr (jv 1) (xT 0)))) (fun _ _ _ _ _=>(wy K (n:=2) rfl (zC (gN 4 vp) (zC (gN 5 vp) yA)))) (fun _ _ _ _ _=>(ya (yM (zE (jv 5))))) (fun _ _ _ _ _=>(zu (jA3 zo (jv 4) zk))))))))))))))
  , ?_⟩
 have sl:=zN
 have key:∀(wd:Str)(g:V)(q1:Addr)(xs:List V)(ns:List Str),H p=some (.tup (.str wd::g::.ref q1::xs))->H q1=some (.tup (ns.map V.str))->ns.length<=1000->wd≠"num"->wd≠"op"->True:=fun _ _ _ _ _ _ _ _ _ _=>trivial
 by_cases hn:(∃i,d=.num i)\/∃o a b,d=.op o a b
 ·rcases hn with⟨i,rfl⟩|⟨o,a,b,rfl⟩
  ·have h0:H p=some (.tup [.str "num",.int i]):=hI
   exact⟨_,rfl,p,_,_,_,rfl,rfl,SqT.of h0,aI0,rfl,_,rfl,iteT ⟨sN0,fun l g=>q _ l [] (zi g _) zg trivial (by show 0<=_;decide)⟩⟩
  ·have h0:H p=some (.tup [.str "op",.str o,.str a,.str b]):=hI
   refine⟨_,rfl,p,_,_,_,rfl,rfl,SqT.of h0,aI0,rfl,_,rfl,iteF (nxtC ?_)⟩
   refine⟨_,rfl,p,_,_,_,rfl,rfl,SqT.of h0,aI0,rfl,_,rfl,iteT ?_⟩
   refine⟨_,rfl,p,_,_,_,rfl,rfl,SqT.of h0,aI2,sN3,fun a1 g1=>⟨_,rfl,p,_,_,_,rfl,rfl,SqT.of (old g1 h0),aI3,sN3,fun a2 g2=>⟨sN2,fun l3 g3=>?_⟩⟩⟩
   exact q _ l3 [a1,a2] (((zi g1 _).new g2).new g3) zg ⟨old g3 (old g2 zg),old g3 zg,trivial⟩ (by show 2<=_;decide)
 ·obtain⟨wd,g,q1,xs,ns,h0,h1,l1,w1,w2,hd⟩:∃(wd g:Str)(q1:Addr)(xs:List V)(ns:List Str),H p=some (.tup (.str wd::.str g::.ref q1::xs))/\H q1=some (.tup (ns.map V.str))/\ns.length<=1000/\wd≠"num"/\wd≠"op"/\((wd="make"/\∃k,xs=[.str k]/\d=.mk g ns k)\/(wd="ask"/\d=.ask g ns)\/(wd="func"/\d=.fn g ns)\/(wd="call"/\d=.call g ns)):=by
   cases d with
   |num i=>exact absurd (.inl ⟨_,rfl⟩) hn
   |op o a b=>exact absurd (.inr ⟨_,_,_,rfl⟩) hn
   |mk t ns k=>obtain⟨r,g1,g2⟩:=hI;exact⟨_,_,_,_,ns,g1,g2,hl,by decide,by decide,.inl ⟨rfl,k,rfl,rfl⟩⟩
   |call g ns=>obtain⟨r,g1,g2⟩:=hI;exact⟨_,_,_,_,ns,g1,g2,hl,by decide,by decide,.inr (.inr (.inr ⟨rfl,rfl⟩))⟩
   |fn g ns=>obtain⟨r,g1,g2⟩:=hI;exact⟨_,_,_,_,ns,g1,g2,hl,by decide,by decide,.inr (.inr (.inl ⟨rfl,rfl⟩))⟩
   |ask g ns=>obtain⟨r,g1,g2⟩:=hI;exact⟨_,_,_,_,ns,g1,g2,Nat.le_of_succ_le hl,by decide,by decide,.inr (.inl ⟨rfl,rfl⟩)⟩
  refine⟨_,rfl,p,_,_,_,rfl,rfl,SqT.of h0,aI0,rfl,_,rfl,ifFF (decide_eq_false fun z=>w1 (by injection z)) (nxtC ?_)⟩
  refine⟨_,rfl,p,_,_,_,rfl,rfl,SqT.of h0,aI0,rfl,_,rfl,ifFF (decide_eq_false fun z=>w2 (by injection z)) (nxtC ?_)⟩
  refine⟨_,rfl,p,_,_,_,rfl,rfl,SqT.of h0,aI2,q1,rfl,⟨_,SqT.of h1⟩,wM (xs:=ns.map V.str) (fun i τ ys H'=>Same H H'/\(∃y,τ=[some (.ref p),some (.ref od),none,none,y])/\∃us,ys=us.map V.ref/\EvAt H' ((ns.take i).map .up) us) ⟨Same.refl _,⟨none,rfl⟩,[],rfl,trivial⟩ (fun i τ ys H' _ h=>SqT.of (h.1 _ _ h1)) ?_ ?_⟩
  ·rintro i v τ ys H' hv ⟨s5,⟨y,rfl⟩,us,rfl,he⟩
   rw[uk]at hv
   obtain⟨n,hn,rfl⟩:=uf.mp hv
   refine⟨_,rfl,sN3,fun a5 h5=>⟨?_,s5.new h5,⟨_,rfl⟩,us++[a5],by rw[uj];rfl,?_⟩⟩
   ·rw[ua,<- he.len,ua,uX]
    lia
   ·rw[Ua,hn,uj]
    exact(he.keep (Tups.of (zi h5 _))).app ⟨zg,trivial⟩
  rintro τ ys H5 ⟨s5,_,us,rfl,he⟩ l5 h5
  rw[ua,Us]at he
  have ul:us.length=ns.length:=by rw[<- he.len,ua]
  have s6:=s5.new (o:=.lst (us.map V.ref)) h5
  have L6:=zg (H:=H5) (a:=l5) (o:=.lst (us.map V.ref))
  have e6:=he.keep (Tups.of (zi (o:=.lst (us.map V.ref)) h5))
  dsimp only
  generalize upd H5 l5 (.lst (us.map V.ref))=H6 at *
  have h06:=s6 _ _ h0
  have h16:=s6 _ _ h1
  refine⟨_,rfl,p,_,_,_,rfl,rfl,SqT.of h06,aI0,rfl,_,rfl,?_⟩
  rcases hd with⟨rfl,k,rfl,rfl⟩|⟨rfl,rfl⟩|hd
  ·refine iteT ⟨_,rfl,_,rfl,p,_,_,_,rfl,rfl,SqT.of h06,aI3,_,rfl,p,_,_,_,rfl,rfl,SqT.of h06,aI2,q1,_,rfl,.inr (SqT.of h16),sN3,fun a1 g1=>⟨sN1,fun l2 g2=>⟨l5,l2,_,[.ref a1],rfl,rfl,old g2 (old g1 L6),zg,by rw[ua];show us.length+1<=_;lia,fun l3 g3=>?_⟩⟩⟩
   have s3:=((zi g1 (.tup [.str "fill",.str k,.int ((ns.map V.str).length:Nat)])).new (o:=.lst [.ref a1]) g2).new (o:=.lst (us.map V.ref++[.ref a1])) g3
   refine q _ l3 (us++[a1]) (s6.trans s3) (by rw[zg,uj];rfl) ((e6.keep (Tups.of s3)).app ⟨?_,trivial⟩) (by rw[uc];show us.length+1<=_;lia)
   rw[show evT (.fill k ns.length)=[.str "fill",.str k,.int ((ns.map V.str).length:Nat)] by rw[ua];rfl]
   exact old g3 (old g2 zg)
  ·refine iteF (nxtC ?_)
   refine⟨_,rfl,p,_,_,_,rfl,rfl,SqT.of h06,aI0,rfl,_,rfl,iteT ?_⟩
   refine⟨_,rfl,p,_,_,_,rfl,rfl,SqT.of h06,aI1,sN3,fun a1 g1=>⟨sN1,fun l2 g2=>⟨_,rfl,l2,l5,[.ref a1],_,rfl,rfl,zg,old g2 (old g1 L6),by rw[ua];show 1+us.length<=_;lia,fun l3 g3=>?_⟩⟩⟩
   have s3:=((zi g1 (.tup (evT (.up g)))).new (o:=.lst [.ref a1]) g2).new (o:=.lst ([.ref a1]++us.map V.ref)) g3
   exact q _ l3 (a1::us) (s6.trans s3) zg ⟨old g3 (old g2 zg),e6.keep (Tups.of s3)⟩ (by rw[uM];lia)
  ·obtain⟨kvs,o1,o2⟩:=hO
   rcases hd with⟨rfl,rfl⟩|⟨rfl,rfl⟩
   ·obtain⟨bs,hb,bl⟩:=hoe
    obtain⟨r,v1,v2⟩:=o2 g bs hb
    refine iteF (nxtC ?_)
    refine⟨_,rfl,p,_,_,_,rfl,rfl,SqT.of h06,aI0,rfl,_,rfl,iteF (nxtC ?_)⟩
    refine⟨_,rfl,p,_,_,_,rfl,rfl,SqT.of h06,aI0,rfl,_,rfl,iteT ?_⟩
    refine⟨_,rfl,_,rfl,_,rfl,p,_,_,_,rfl,rfl,SqT.of h06,aI1,od,.ref r,rfl,(by rw[<- v1];exact DGet.k (k:=.inr g) (s6 _ _ o1)),r,rfl,⟨_,SqT.of (s6 _ _ v2)⟩,wM (xs:=bs.map V.bl) (fun i τ ys H'=>Same H6 H'/\(∃y,τ=[some (.ref p),some (.ref od),some (.ref l5),none,y])/\∃ws,ys=ws.map V.ref/\ws.length<=i/\EvAt H' (((bs.take i).filter (!·)).map fun _=>.bad) ws) ⟨Same.refl _,⟨none,rfl⟩,[],rfl,ui _,trivial⟩ (fun i τ ys H' _ h=>SqT.of (h.1 _ _ (s6 _ _ v2))) ?_ ?_⟩
    ·rintro i v τ ys H' hv ⟨s7,⟨y,rfl⟩,ws,rfl,wl,he7⟩
     rw[uk]at hv
     obtain⟨b,hb',rfl⟩:=uf.mp hv
     have hi:i < bs.length:=(ug.mp hb').1
     have tk:bs.take (i+1)=bs.take i++[b]:=by rw[Ua,hb'];rfl
     rw[tk,UM,uj]
     cases b with
     |true=>exact⟨_,rfl,_,rfl,iteF ⟨s7,⟨_,rfl⟩,ws,rfl,by lia,by simpa using he7⟩⟩
     |false=>exact⟨_,rfl,_,rfl,iteT ⟨sN3,fun a5 h5=>⟨by rw[ua];lia,s7.new h5,⟨_,rfl⟩,ws++[a5],by rw[uj];rfl,by rw[uc];show ws.length+1<=_;lia,(he7.keep (Tups.of (zi h5 _))).app ⟨zg,trivial⟩⟩⟩⟩
    ·rintro τ ys H7 ⟨s7,_,ws,rfl,wl,he7⟩ l7 h7
     rw[ua]at wl he7
     rw[Us]at he7
     refine⟨l5,l7,_,_,rfl,rfl,old h7 (s7 _ _ L6),zg,by rw[ua,ua];lia,fun l8 h8=>?_⟩
     have s9:=(s7.new (o:=.lst (ws.map V.ref)) h7).new (o:=.lst (us.map V.ref++ws.map V.ref)) h8
     refine q _ l8 (us++ws) (s6.trans s9) (by rw[zg,uj]) ?_ (by rw[uc];lia)
     show EvAt _ (ns.map .up++(((look ow g).getD []).filter (!·)).map fun _=>.bad) _
     rw[hb]
     exact(e6.keep (Tups.of s9)).app (he7.keep (Tups.of ((zi h7 _).new h8)))
   ·obtain⟨bs,hb,bl⟩:=hoe
    obtain⟨r,v1,v2⟩:=o2 g bs hb
    refine iteF (nxtC ?_)
    refine⟨_,rfl,p,_,_,_,rfl,rfl,SqT.of h06,aI0,rfl,_,rfl,iteF (nxtC ?_)⟩
    refine⟨_,rfl,p,_,_,_,rfl,rfl,SqT.of h06,aI0,rfl,_,rfl,iteF (nxtC ?_)⟩
    refine⟨_,rfl,p,_,_,_,rfl,rfl,SqT.of h06,aI2,_,rfl,_,rfl,p,_,_,_,rfl,rfl,SqT.of h06,aI1,od,.ref r,rfl,(by rw[<- v1];exact DGet.k (k:=.inr g) (s6 _ _ o1)),q1,r,false,false,_,_,rfl,SqK.t (s6 _ _ h1),SqK.t (s6 _ _ v2),Zs (k:=false) (m:=false) (xs:=ns.map V.str) (ys:=bs.map V.bl) (by rw[ua,ua,bl]) (fun i τ zs H'=>Same H6 H'/\(∃y y',τ=[some (.ref p),some (.ref od),some (.ref l5),none,y,y'])/\∃ws,zs=ws.map V.ref/\ws.length<=i/\EvAt H' ((((ns.zip bs).take i).filter (·.2)).map fun p=>.up p.1) ws) ⟨Same.refl _,⟨none,none,rfl⟩,[],rfl,ui _,trivial⟩ (fun i τ zs H' _ h=>⟨SqK.t (h.1 _ _ (s6 _ _ h1)),SqK.t (h.1 _ _ (s6 _ _ v2))⟩) ?_ ?_⟩
    ·rintro i x y T τ zs H' hx hy hT ⟨s7,⟨y1,y2,rfl⟩,ws,rfl,wl,he7⟩
     rw[uk]at hx hy
     obtain⟨n,hn',rfl⟩:=uf.mp hx
     obtain⟨b,hb',rfl⟩:=uf.mp hy
     have hi:i < ns.length:=(ug.mp hn').1
     have hz:(ns.zip bs)[i]?=some (n,b):=U0.mpr ⟨hn',hb'⟩
     have tk:(ns.zip bs).take (i+1)=(ns.zip bs).take i++[(n,b)]:=by rw[Ua,hz];rfl
     rw[tk,UM,uj]
     have he8:=he7.keep (Tups.of (zi (o:=.tup [.str n,.bl b]) hT))
     cases b with
     |false=>exact⟨T,_,rfl,SqT.of zg,rfl,_,_,rfl,_,_,rfl,rfl,_,rfl,_,rfl,iteF ⟨s7.new hT,⟨_,_,rfl⟩,ws,rfl,by lia,by simpa using he8⟩⟩
     |true=>exact⟨T,_,rfl,SqT.of zg,rfl,_,_,rfl,_,_,rfl,rfl,_,rfl,_,rfl,iteT ⟨_,rfl,sN3,fun a5 h5=>⟨by rw[ua];lia,(s7.new hT).new h5,⟨_,_,rfl⟩,ws++[a5],by rw[uj];rfl,by rw[uc];show ws.length+1<=_;lia,(he8.keep (Tups.of (zi h5 _))).app ⟨zg,trivial⟩⟩⟩⟩
    rintro τ zs H7 ⟨s7,_,ws,rfl,wl,he7⟩ l7 h7
    have zl:(ns.zip bs).length=ns.length:=by rw[tV,bl,Nat.min_self]
    rw[ua]at wl he7
    rw[uV (by lia)]at he7
    have s8:=(s6.trans s7).new (o:=.lst (ws.map V.ref)) h7
    have L8:=zg (H:=H7) (a:=l7) (o:=.lst (ws.map V.ref))
    have e8:=he7.keep (Tups.of (zi (o:=.lst (ws.map V.ref)) h7))
    dsimp only
    generalize upd H7 l7 (.lst (ws.map V.ref))=H8 at *
    have h08:=s8 _ _ h0
    refine⟨_,rfl,_,rfl,p,_,_,_,rfl,rfl,SqT.of h08,aI2,_,rfl,_,rfl,p,_,_,_,rfl,rfl,SqT.of h08,aI1,od,.ref r,rfl,(by rw[<- v1];exact DGet.k (k:=.inr g) (s8 _ _ o1)),q1,r,false,false,_,_,rfl,SqK.t (s8 _ _ h1),SqK.t (s8 _ _ v2),Zs (k:=false) (m:=false) (xs:=ns.map V.str) (ys:=bs.map V.bl) (by rw[ua,ua,bl]) (fun i τ zs H'=>Same H8 H'/\(∃y y',τ=[some (.ref p),some (.ref od),some (.ref l5),some (.ref l7),y,y'])/\∃ws,zs=ws.map V.ref/\ws.length<=i/\EvAt H' ((((ns.zip bs).take i).filter (!·.2)).map fun p=>.look p.1) ws) ⟨Same.refl _,⟨none,none,rfl⟩,[],rfl,ui _,trivial⟩ (fun i τ zs H' _ h=>⟨SqK.t (h.1 _ _ (s8 _ _ h1)),SqK.t (h.1 _ _ (s8 _ _ v2))⟩) ?_ ?_⟩
    ·rintro i x y T τ zs H' hx hy hT ⟨s7,⟨y1,y2,rfl⟩,ws,rfl,wl,he7⟩
     rw[uk]at hx hy
     obtain⟨n,hn',rfl⟩:=uf.mp hx
     obtain⟨b,hb',rfl⟩:=uf.mp hy
     have hi:i < ns.length:=(ug.mp hn').1
     have hz:(ns.zip bs)[i]?=some (n,b):=U0.mpr ⟨hn',hb'⟩
     have tk:(ns.zip bs).take (i+1)=(ns.zip bs).take i++[(n,b)]:=by rw[Ua,hz];rfl
     rw[tk,UM,uj]
     have he8:=he7.keep (Tups.of (zi (o:=.tup [.str n,.bl b]) hT))
     cases b with
     |true=>exact⟨T,_,rfl,SqT.of zg,rfl,_,_,rfl,_,_,rfl,rfl,_,rfl,_,rfl,iteF ⟨s7.new hT,⟨_,_,rfl⟩,ws,rfl,by lia,by simpa using he8⟩⟩
     |false=>exact⟨T,_,rfl,SqT.of zg,rfl,_,_,rfl,_,_,rfl,rfl,_,rfl,_,rfl,iteT ⟨_,rfl,sN3,fun a5 h5=>⟨by rw[ua];lia,(s7.new hT).new h5,⟨_,_,rfl⟩,ws++[a5],by rw[uj];rfl,by rw[uc];show ws.length+1<=_;lia,(he8.keep (Tups.of (zi h5 _))).app ⟨zg,trivial⟩⟩⟩⟩
    rintro τ zs H9 ⟨s9,_,us2,rfl,wl9,he9⟩ l9 h9
    rw[ua]at wl9 he9
    rw[uV (by lia)]at he9
    refine⟨l7,l9,_,_,rfl,rfl,old h9 (s9 _ _ L8),zg,by rw[ua,ua];lia,fun l8 g8=>?_⟩
    have s10:=(s9.new (o:=.lst (us2.map V.ref)) h9).new (o:=.lst (ws.map V.ref++us2.map V.ref)) g8
    refine q _ l8 (ws++us2) (s8.trans s10) (by rw[zg,uj]) ?_ (by rw[uc];lia)
    show EvAt _ (((ns.zip ((look ow g).getD [])).filter (·.2)).map (fun p=>Ev.up p.1)++((ns.zip ((look ow g).getD [])).filter (!·.2)).map (fun p=>Ev.look p.1)) _
    rw[hb]
    exact(e8.keep (Tups.of s10)).app (he9.keep (Tups.of ((zi h9 _).new g8)))
end
def WsAt(H:Hp):List (List Ev)->List Addr->Prop
 |[],[]=>True
 |e::es,t::ts=>(∃us:List Addr,H t=some (.lst (us.map V.ref))/\EvAt H e us)/\WsAt H es ts
 |_,_=>False
theorem WsAt.keep{H H':Hp}(s:Same H H'):∀{es:List (List Ev)}{ts:List Addr},WsAt H es ts->WsAt H' es ts
 |[],[],_=>trivial
 |e::es,a::ts,⟨⟨us,h1,h3⟩,h2⟩=>⟨⟨us,s _ _ h1,h3.keep (Tups.of s)⟩,WsAt.keep s h2⟩
theorem WsAt.len{H:Hp}:∀{es:List (List Ev)}{ts:List Addr},WsAt H es ts->es.length=ts.length
 |[],[],_=>rfl
 |e::es,a::ts,⟨_,h⟩=>by rw[uM,uM,WsAt.len h]
theorem WsAt.app{H:Hp}:∀{es:List (List Ev)}{ts:List Addr}{es':List (List Ev)}{ts':List Addr},WsAt H es ts->WsAt H es' ts'->WsAt H (es++es') (ts++ts')
 |[],[],_,_,_,h=>h
 |e::es,a::ts,_,_,⟨h1,h2⟩,h=>⟨h1,WsAt.app h2 h⟩
theorem WsAt.at{H:Hp}:∀{es:List (List Ev)}{ts:List Addr}{i:Nat}{t:Addr},WsAt H es ts->ts[i]?=some t->∃e us,es[i]?=some e/\H t=some (.lst (us.map V.ref))/\EvAt H e us
 |[],[],i,t,_,h=>by simp at h
 |e::es,a::ts,0,t,⟨⟨us,h1,h2⟩,_⟩,h=>by cases h;exact⟨e,us,rfl,h1,h2⟩
 |e::es,a::ts,i+1,t,⟨_,h2⟩,h=>WsAt.at (i:=i) h2 h
mutual
def Bd.dp:Bd->Nat
 |.give _=>1
 |.lt _ _ b=>b.dp+1
 |.hold _ _ b=>b.dp+1
 |.drop _ b=>b.dp+1
 |.loose _ b=>b.dp+1
 |.iff _ b c=>max b.dp c.dp+1
 |.cs _ as=>as.dp+1
def Arms.dp:Arms->Nat
 |.nil=>0
 |.cons _ _ _ _ b r=>max b.dp r.dp
end
mutual
def OeB(ow:Ow):Bd->Prop
 |.give _=>True
 |.lt _ d b=>OkE ow d/\OeB ow b
 |.hold _ _ b=>OeB ow b
 |.drop _ b=>OeB ow b
 |.loose _ b=>OeB ow b
 |.iff _ b c=>OeB ow b/\OeB ow c
 |.cs _ as=>OeA ow as
def OeA(ow:Ow):Arms->Prop
 |.nil=>True
 |.cons _ ns _ _ b r=>ns.length<=1000/\OeB ow b/\OeA ow r
end
mutual
theorem yO{ow:Ow}:∀{b:Bd},(wB ow b).length<=b.sz
 |.give x=>by rw[wB,Bd.sz];exact ui 1
 |.lt x d b=>by rw[wB,Bd.sz,ua];exact U5 yO
 |.hold x y b=>by rw[wB,Bd.sz,ua];exact U5 yO
 |.drop x b=>by rw[wB,Bd.sz,ua];exact U5 yO
 |.loose x b=>by rw[wB,Bd.sz,ua];exact U5 yO
 |.iff x b c=>by
  have h1:=yO (ow:=ow) (b:=b)
  have h2:=yO (ow:=ow) (b:=c)
  rw[wB,Bd.sz,ua,uc];lia
 |.cs x as=>by rw[wB,Bd.sz];exact U5 YZ
theorem YZ{ow:Ow}{x:Str}:∀{as:Arms},(wA ow x as).length<=as.sz
 |.nil=>by rw[wA];exact uW _
 |.cons t ns m k b r=>by
  have h1:=yO (ow:=ow) (b:=b)
  have h2:=YZ (ow:=ow) (x:=x) (as:=r)
  rw[wA,Arms.sz,uc,ua];lia
end
theorem Bd.dp_pos:∀b:Bd,0 < b.dp
 |.give _=>by rw[Bd.dp];exact Nat.zero_lt_one
 |.lt _ _ _=>by rw[Bd.dp];lia
 |.hold _ _ _=>by rw[Bd.dp];lia
 |.drop _ _=>by rw[Bd.dp];lia
 |.loose _ _=>by rw[Bd.dp];lia
 |.iff _ _ _=>by rw[Bd.dp];lia
 |.cs _ _=>by rw[Bd.dp];lia
theorem zcd{x:Str}{ns:List Str}{m k:Str}(h:ns.length<=1000):(hE x ns m k).length<=1004:=by
 unfold hE
 rw[uc,uc,uc,ua]
 have h1:(if m="take"then[Ev.up x]else[]).length<=1:=by
  split
  ·exact ui 1
  ·exact uW _
 have h2:(if k=""then([]:List Ev)else .keep k ns.length::(if m="look"\/ns.length=0 then[.bad]else[])).length<=2:=by
  split
  ·exact uW _
  ·split
   ·exact ui 2
   ·exact U2 1
 show 1+_+_+_<=_
 lia
def Shw(n:Nat)(ws:List (List Ev)):Prop:=∀w∈ws,w.length<=10005*n
theorem Shw.pre{n k:Nat}{ws:List (List Ev)}{es:List Ev}(h:Shw n ws)(hk:es.length<=10005):Shw (n+1) (ws.map (es ++ ·)):=by
 intro w hw
 obtain⟨w1,h1,rfl⟩:=UA.mp hw
 have:=h w1 h1
 rw[uc]
 lia
theorem Shw.mono{n k:Nat}{ws:List (List Ev)}(h:Shw n ws)(hk:n<=k):Shw k ws:=fun w hw=>uy (h w hw) (Nat.mul_le_mul_left _ hk)
theorem Shw.app{n:Nat}{a b:List (List Ev)}(h:Shw n a)(g:Shw n b):Shw n (a++b):=fun w hw=>(uF.mp hw).elim (h w) (g w)
def aW(ow:Ow)(x:Str)(q:ArmR):List (List Ev):=(wB ow q.b).map (hE x q.ns q.m q.k ++ ·)
theorem wA_l{ow:Ow}{x:Str}:∀{as:Arms},wA ow x as=as.l.flatMap (aW ow x)
 |.nil=>by rw[wA];rfl
 |.cons t ns m k b r=>by rw[wA,wA_l (as:=r)];rfl
theorem XE{ow:Ow}:∀{as:Arms}{q:ArmR},q∈as.l->OkAs ow as->OeA ow as->OkBd ow q.b/\OeB ow q.b/\q.ns.length<=1000/\q.b.dp<=as.dp/\q.b.sz<=as.sz
 |.nil,q,h,_,_=>by cases h
 |.cons t ns m k b r,q,h,h1,h2=>by
  rw[OkAs]at h1
  rw[OeA]at h2
  rw[Arms.dp,Arms.sz]
  rcases uu.mp h with rfl|h
  ·exact⟨h1.1,h2.2.1,h2.1,Nat.le_max_left _ _,by dsimp only;lia⟩
  ·obtain⟨a1,a2,a3,a4,a5⟩:=XE h h1.2 h2.2.2
   exact⟨a1,a2,a3,uy a4 (Nat.le_max_right _ _),by lia⟩
theorem Q8{α β:Type}(F:α->List β)(l:List α)(i:Nat):((l.take i).flatMap F).length<=(l.flatMap F).length:=by
 conv=>rhs;rw[<- Ug i l,UT,uc]
 lia
def vX(n:Nat):Sp:=fun vs H Q _=>∃(p od:Addr)(b:Bd)(ow:Ow),vs=[.ref p,.ref od]/\IsBd H b p/\OkBd ow b/\OeB ow b/\OwAt H od ow/\b.dp<=n/\n<=400/\b.sz<=1000000/\∀H' r ts,Same H H'->H' r=some (.lst (ts.map V.ref))->WsAt H' (wB ow b) ts->Shw b.dp (wB ow b)->Q (.ref r) H'
section
variable{P:Program}{w:World}{K:ub}{mg:Str->Option Value}{base:Heap}{f:Addr}{fd:FuncData}
theorem scWays:FnScope ["_law_body_here","_law_owns","_law_both","_law_ways_here","_law_arm_here","_law_head"] lS6 (zn Xt):=.ok
theorem Y0:(["_law_body_here","_law_owns","_law_both","_law_ways_here","_law_arm_here","_law_head","_law_way"]:List Str).Nodup:=by decide +kernel
theorem Jt(F:Fun K "_law_ways" "_law_ways" Xt f fd):FnOk P w K mg base CX0 3 f fd lS6 (vX 0):=by
 refine F.by scWays (fun vs H Q E h=>?_) (fun cdv A outer s H vs Q E hr h=>?_)
 ·obtain⟨p,od,b,ow,rfl,_⟩:=h
  rfl
 obtain⟨p,od,b,ow,rfl,hI,hok,hoe,hO,hd,_⟩:=h
 exact absurd hd (Nat.not_le_of_gt b.dp_pos)
theorem Q9{n:Nat}(F:Fun K "_law_ways" "_law_ways" Xt f fd)(GW:Ca P w K mg base CX0 (3+n) "_law_ways" lS6 (vX n))(GH:Ca P w K mg base CX0 1 "_law_head_events" lS22 Jq)(GP:Ca P w K mg base CX0 2 "_law_piece_events" lS6 Js):FnOk P w K mg base CX0 (3+n+1) f fd lS6 (vX (n+1)):=by
 refine F.by scWays (fun vs H Q E h=>?_) (fun cdv A outer s H vs Q E hr h=>?_)
 ·obtain⟨p,od,b,ow,rfl,_⟩:=h
  rfl
 obtain⟨p,od,b,ow,rfl,hI,hok,hoe,hO,hd,hn,hz,q⟩:=h
 have hr1:Room 1 _:=hr.mono (by lia)
 have hr2:Room 2 _:=hr.mono (by lia)
 refine⟨_,
  (zh (zw (tN zz (xT 0) zo)
   (zj (zq (zv (jA1 (zv (jA2 (zu (jA3 zo (xT 0) zk)) (zu (jA3 zo zo zk)))))))) zp)
  (zh (zw (tN zz (xT 0) zo)
   (zh (sE 2 scWays.nd (zx zZ (cA GW hr (jA2 (xT 0) (jv 1))) (cA GW hr (jA2 (xT 0) (jv 1)))))
   (zj (zq (zW ["_law_way"] rfl (zQ (jv 2)) (fun _ _ _ _ _=>(gN 6 Y0)) (fun _ _ _ _ _=>zV) (fun _ _ _ _ _=>(zx zZ (zv (jA1 (zu (jA3 zo (xn (wb K) (jv 0) zk (fun _ _=>rfl)) zk)))) (jv 6))))))) zp)
  (zh (zw (tN zz (xT 0) zo)
   (zh (sE 3 scWays.nd (zv zA))
   (zh (yg PassesOwn.never rfl (yB (xT 0)) (gN 4 scWays.nd)
    (zh (sE 5 scWays.nd (cA GH hr1 (jA2 (xT 0) (jv 4))))
    (zj (sE 3 scWays.nd (zx zZ (jv 3) (zW ["_law_way"] rfl (zQ (cA GW hr (jA2 (xT 4) (jv 1)))) (fun _ _ _ _ _=>(gN 6 Y0)) (fun _ _ _ _ _=>zV) (fun _ _ _ _ _=>(zx zZ (jv 5) (jv 6)))))))))
   (zj (zq (jv 3))))) zp)
  (zh (sE 5 scWays.nd (cA GP hr2 (jA2 (jv 0) (jv 1))))
  (zj (zq (zW ["_law_way"] rfl (zQ (cA GW hr (jA2 (xX vD (jv 0) (vA zk)) (jv 1)))) (fun _ _ _ _ _=>(gN 6 Y0)) (fun _ _ _ _ _=>zV) (fun _ _ _ _ _=>(zx zZ (jv 5) (jv 6)))))))))),?_⟩
 have sl:=zN
 have hws:=yO (ow:=ow) (b:=b)
 by_cases hg:∃x,b=.give x
 ·obtain⟨x,rfl⟩:=hg
  have h0:H p=some (.tup [.str "give",.str x]):=hI
  refine⟨_,rfl,ixT h0 aI0 ⟨rfl,_,rfl,iteT ?_⟩⟩
  refine⟨_,rfl,ixT h0 aI1 ⟨sN3,fun a1 g1=>⟨sN3,fun a2 g2=>⟨sN2,fun l3 g3=>⟨sN1,fun l4 g4=>?_⟩⟩⟩⟩⟩
  refine q _ l4 [l3] ((((zi g1 _).new g2).new g3).new g4) zg ?_ ?_
  ·rw[wB]
   exact⟨⟨[a1,a2],old g4 zg,old g4 (old g3 (old g2 zg)),old g4 (old g3 zg),trivial⟩,trivial⟩
  ·rw[wB,Bd.dp]
   intro w hw
   rw[uv.mp hw]
   show 2<=_
   decide
 by_cases hi:∃x c d,b=.iff x c d
 ·obtain⟨x,c,d,rfl⟩:=hi
  rw[IsBd]at hI
  obtain⟨p1,p2,h0,h1,h2⟩:=hI
  rw[OkBd]at hok
  rw[OeB]at hoe
  rw[Bd.dp]at hd
  rw[Bd.sz]at hz
  have w1:=yO (ow:=ow) (b:=c)
  have w2:=yO (ow:=ow) (b:=d)
  refine⟨_,rfl,ixT h0 aI0 ⟨rfl,_,rfl,iteF (nxtC ?_)⟩⟩
  refine⟨_,rfl,ixT h0 aI0 ⟨rfl,_,rfl,iteT ?_⟩⟩
  refine⟨_,rfl,ixT h0 aI2 ⟨_,rfl,p1,od,c,ow,rfl,h1,hok.1,hoe.1,hO,by lia,by lia,by lia,fun H1 r1 t1 s1 L1 W1 S1=>?_⟩⟩
  refine⟨_,rfl,ixT (s1 _ _ h0) aI3 ⟨_,rfl,p2,od,d,ow,rfl,h2.keep (Tups.of s1),hok.2,hoe.2,hO.same s1,by lia,by lia,by lia,fun H2 r2 t2 s2 L2 W2 S2=>?_⟩⟩
  have l1:=W1.len
  have l2:=W2.len
  refine⟨r1,r2,_,_,rfl,rfl,s2 _ _ L1,L2,by rw[ua,ua];lia,fun r3 g3=>?_⟩
  have s3:=(s1.trans s2).new (o:=.lst (t1.map V.ref++t2.map V.ref)) g3
  have W3:WsAt (upd H2 r3 (.lst (t1.map V.ref++t2.map V.ref))) (wB ow c++wB ow d) (t1++t2):=((W1.keep s2).app W2).keep (zi g3 _)
  have L3:(upd H2 r3 (.lst (t1.map V.ref++t2.map V.ref))) r3=some (.lst ((t1++t2).map V.ref)):=by rw[zg,uj]
  have S3:Shw (max c.dp d.dp) (wB ow c++wB ow d):=(S1.mono (Nat.le_max_left _ _)).app (S2.mono (Nat.le_max_right _ _))
  unfold wU
  dsimp only
  generalize upd H2 r3 (.lst (t1.map V.ref++t2.map V.ref))=H3 at *
  have l3:=W3.len
  have e3:(wB ow c++wB ow d).length<=1000000:=by rw[uc];lia
  have ew:wB ow (.iff x c d)=(wB ow c++wB ow d).map ([.look x] ++ ·):=by rw[wB]
  rw[ew,Bd.dp]at q
  generalize wB ow c++wB ow d=ws at *
  generalize t1++t2=ts at *
  refine⟨_,rfl,r3,rfl,⟨_,SqL.of L3⟩,ym (xs:=ts.map V.ref) (fun i τ ys H'=>Same H3 H'/\(∃y,τ=[some (.ref p),some (.ref od),some (.ref r3),none,none,none,y])/\∃vs,ys=vs.map V.ref/\WsAt H' ((ws.take i).map ([.look x] ++ ·)) vs) ⟨Same.refl _,⟨none,rfl⟩,[],rfl,trivial⟩ (fun i τ ys H' _ h=>SqL.of (h.1 _ _ L3)) ?_ ?_⟩
  ·rintro i v τ ys H4 hv ⟨s4,⟨y,rfl⟩,vs,rfl,W4⟩
   rw[uk]at hv
   obtain⟨t,ht,rfl⟩:=uf.mp hv
   obtain⟨e,us,he,hL,hE⟩:=(W3.keep s4).at ht
   have ul:=hE.len
   have el:=S3 e (uB he)
   have hil:i < ws.length:=(ug.mp he).1
   have vl:=W4.len
   rw[ua,uX]at vl
   refine⟨_,rfl,ixT (s4 _ _ (s3 _ _ h0)) aI1 ⟨sN3,fun a1 g1=>⟨sN1,fun l2 g2=>⟨_,rfl,l2,t,[.ref a1],_,rfl,rfl,zg,old g2 (old g1 hL),by rw[ua];show 1+us.length<=_;lia,fun l3 g3=>?_⟩⟩⟩⟩
   have s5:=((zi g1 (.tup [.str "look",.str x,.int 0])).new (o:=.lst [.ref a1]) g2).new (o:=.lst ([.ref a1]++us.map V.ref)) g3
   refine⟨by rw[ua];lia,s4.trans s5,⟨_,rfl⟩,vs++[l3],by rw[uj];rfl,?_⟩
   rw[Ua,he,uj]
   exact(W4.keep s5).app ⟨⟨a1::us,zg,old g3 (old g2 zg),hE.keep (Tups.of s5)⟩,trivial⟩
  ·rintro τ ys H5 ⟨s5,_,vs,rfl,W5⟩ l5 g5
   rw[ua,<- l3,Us]at W5
   exact q _ l5 vs ((s3.trans s5).new g5) zg (W5.keep (zi g5 _)) (S3.pre (k:=0) (by show 1<=_;decide))
 by_cases hc:∃x as,b=.cs x as
 ·obtain⟨x,as,rfl⟩:=hc
  rw[IsBd]at hI
  obtain⟨pa,tas,h0,h1,h2⟩:=hI
  rw[OkBd]at hok
  rw[OeB]at hoe
  rw[Bd.dp]at hd
  rw[Bd.sz]at hz
  refine⟨_,rfl,ixT h0 aI0 ⟨rfl,_,rfl,iteF (nxtC ?_)⟩⟩
  refine⟨_,rfl,ixT h0 aI0 ⟨rfl,_,rfl,iteF (nxtC ?_)⟩⟩
  refine⟨_,rfl,ixT h0 aI0 ⟨rfl,_,rfl,iteT ?_⟩⟩
  have ew:wB ow (.cs x as)=as.l.flatMap (aW ow x):=by rw[wB,wA_l]
  have el:(as.l.flatMap (aW ow x)).length<=as.sz:=by rw[<- wA_l];exact YZ
  rw[ew,Bd.dp]at q
  have hl2:=h2.len
  refine(show ∀(u:TS)(D:Ends),(∀(H':Hp)(rw_:Addr)(ts:List Addr)(y y':Option V),Same H H'->H' rw_=some (.lst (ts.map V.ref))->WsAt H' (as.l.flatMap (aW ow x)) ts->Shw (as.dp+1) (as.l.flatMap (aW ow x))->u D [some (.ref p),some (.ref od),none,some (.ref rw_),y,y'] H')->(tSeq _ (tSeq _ u):TS) D [some (.ref p),some (.ref od),none,none,none,none] H from ?k1) _ _ ?k2
  case k2 =>
   intro H' rw_ ts y y' s2 L2 W2 S2
   exact⟨_,rfl,q _ rw_ ts s2 L2 W2 S2⟩
  case k1 =>
   intro u D hU
   refine⟨sN0,fun r0 g0=>?_⟩
   have s0:=zi g0 (.lst [])
   have L0:=zg (H:=H) (a:=r0) (o:=.lst [])
   generalize upd H r0 (.lst [])=H0 at *
   refine⟨_,rfl,ixT (s0 _ _ h0) aI2 ⟨pa,rfl,⟨_,SqT.of (s0 _ _ h1)⟩,xc (xs:=tas.map V.ref) (fun i σ H'=>∃(rw_:Addr)(ts:List Addr)(y y':Option V),σ=[some (.ref p),some (.ref od),none,some (.ref rw_),y,y']/\Same H H'/\H' rw_=some (.lst (ts.map V.ref))/\WsAt H' ((as.l.take i).flatMap (aW ow x)) ts/\Shw (as.dp+1) ((as.l.take i).flatMap (aW ow x))) ⟨r0,[],none,none,rfl,s0,L0,trivial,fun w hw=>by cases hw⟩ (fun i σ H' _ h=>?_) ?_ ?_⟩⟩
   ·obtain⟨_,_,_,_,_,k,_⟩:=h
    exact SqT.of (k _ _ h1)
   ·rintro i v σ H2 hv ⟨rw2,ts,y,y',rfl,s2,L2,W2,S2⟩
    rw[uk]at hv
    obtain⟨ta,hta,rfl⟩:=uf.mp hv
    obtain⟨aq,qn,qb,e1,e2,e3,e4⟩:=h2.get hta
    obtain⟨o1,o2,o3,o4,o5⟩:=XE (uB e1) hok.2 hoe
    refine⟨_,rfl,ixT (s2 _ _ h0) aI1 ⟨_,rfl,x,aq.t,aq.m,aq.k,ta,qn,qb,aq.ns,rfl,s2 _ _ e2,s2 _ _ e3,o3,fun H3 r3 t3 s3 L3 E3=>?_⟩⟩
    have s03:=s2.trans s3
    refine⟨_,rfl,_,rfl,ixT (s03 _ _ e2) aI4 ⟨_,rfl,qb,od,aq.b,ow,rfl,e4.keep (Tups.of s03),o1,o2,hO.same s03,by lia,by lia,by lia,fun H4 r4 t4 s4 L4 W4 S4=>?_⟩⟩
    have hl:=zcd (x:=x) (m:=aq.m) (k:=aq.k) o3
    have e3l:=E3.len
    have w4:=yO (ow:=ow) (b:=aq.b)
    have l4:=W4.len
    have tk:as.l.take (i+1)=as.l.take i++[aq]:=by rw[Ua,e1];rfl
    have tl:=Q8 (aW ow x) as.l (i+1)
    have w2:=W2.len
    rw[tk,UT,uc,U4,tm,uO,aW,ua]at tl
    rw[tk,UT,U4,tm,uO,show aW ow x aq=(wB ow aq.b).map (hE x aq.ns aq.m aq.k ++ ·)from rfl]
    generalize ((as.l.take i).flatMap (aW ow x))=W at *
    have S5:=((S4.pre (k:=0) (es:=hE x aq.ns aq.m aq.k) (by lia))).mono (Ue o4)
    generalize hE x aq.ns aq.m aq.k=es at *
    refine⟨r4,rfl,⟨_,SqL.of L4⟩,ym (xs:=t4.map V.ref) (fun j τ ys H'=>Same H4 H'/\(∃y,τ=[some (.ref p),some (.ref od),none,some (.ref rw2),some (.ref ta),some (.ref r3),y])/\∃vs,ys=vs.map V.ref/\WsAt H' (((wB ow aq.b).take j).map (es ++ ·)) vs) ⟨Same.refl _,⟨none,rfl⟩,[],rfl,trivial⟩ (fun i τ ys H' _ h=>SqL.of (h.1 _ _ L4)) ?_ ?_⟩
    ·rintro j v τ ys H5 hv ⟨s5,⟨y,rfl⟩,vs,rfl,W5⟩
     rw[uk]at hv
     obtain⟨t,ht,rfl⟩:=uf.mp hv
     obtain⟨e,us,he,hL,hE'⟩:=(W4.keep s5).at ht
     have ul:=hE'.len
     have ell:=S4 e (uB he)
     have hil:j < (wB ow aq.b).length:=(ug.mp he).1
     have vl:=W5.len
     rw[ua,uX]at vl
     refine⟨_,rfl,_,rfl,r3,t,_,_,rfl,rfl,s5 _ _ (s4 _ _ L3),hL,by rw[ua,ua];lia,fun l3 g3=>?_⟩
     have s6:=zi g3 (.lst (t3.map V.ref++us.map V.ref))
     refine⟨by rw[ua];lia,s5.trans s6,⟨_,rfl⟩,vs++[l3],by rw[uj];rfl,?_⟩
     rw[Ua,he,uj]
     exact(W5.keep s6).app ⟨⟨t3++us,by rw[zg,uj],((E3.keep (Tups.of (s4.trans (s5.trans s6)))).app (hE'.keep (Tups.of s6)))⟩,trivial⟩
    ·rintro τ ys H5 ⟨s5,_,vs,rfl,W5⟩ l5 g5
     rw[ua,<- l4,Us]at W5
     have l5':=W5.len
     rw[ua]at l5'
     refine⟨rw2,l5,_,_,rfl,rfl,old g5 (s5 _ _ (s4 _ _ (s3 _ _ L2))),zg,by rw[ua,ua];lia,fun l6 g6=>?_⟩
     have s7:=((s4.trans s5).new (o:=.lst (vs.map V.ref)) g5).new (o:=.lst (ts.map V.ref++vs.map V.ref)) g6
     refine⟨l6,ts++vs,_,_,rfl,s03.trans s7,by rw[zg,uj],(W2.keep (s3.trans s7)).app (W5.keep ((zi g5 _).new g6)),S2.app S5⟩
   ·rintro σ H2 ⟨rw2,ts,y,y',rfl,s2,L2,W2,S2⟩
    rw[ua,hl2,Us]at W2 S2
    exact hU _ _ _ _ _ s2 L2 W2 S2
 obtain⟨wd,xs,pb,b',es,h0,hx,h1,w1,w2,w3,he,k1,k2,k3,k4,k5,k6⟩:∃(wd:Str)(xs:List V)(pb:Addr)(b':Bd)(es:List Ev),H p=some (.tup (.str wd::xs))/\atI (.str wd::xs) (-1)=some (.ref pb)/\IsBd H b' pb/\wd≠"give"/\wd≠"if"/\wd≠"case"/\pE ow b=some (es,b')/\OkBd ow b'/\OeB ow b'/\b.dp=b'.dp+1/\b'.sz<=b.sz/\wB ow b=(wB ow b').map (es ++ ·)/\∀x d b',b=.lt x d b'->OkE ow d:=by
  cases b with
  |give x=>exact absurd ⟨_,rfl⟩ hg
  |iff x b c=>exact absurd ⟨_,_,_,rfl⟩ hi
  |cs x as=>exact absurd ⟨_,_,rfl⟩ hc
  |lt x d b =>
   rw[IsBd]at hI
   obtain⟨pd,pb,h0,h1,h2⟩:=hI
   rw[OkBd]at hok
   rw[OeB]at hoe
   exact⟨_,_,pb,b,_,h0,rfl,h2,by decide,by decide,by decide,rfl,hok.2.2,hoe.2,by rw[Bd.dp],by rw[Bd.sz];lia,by rw[wB],fun _ _ _ e=>by cases e;exact hoe.1⟩
  |hold x y b =>
   rw[IsBd]at hI
   obtain⟨pb,h0,h2⟩:=hI
   rw[OkBd]at hok
   rw[OeB]at hoe
   exact⟨_,_,pb,b,_,h0,rfl,h2,by decide,by decide,by decide,rfl,hok,hoe,by rw[Bd.dp],by rw[Bd.sz];lia,by rw[wB],fun _ _ _ e=>by cases e⟩
  |drop x b =>
   rw[IsBd]at hI
   obtain⟨pb,h0,h2⟩:=hI
   rw[OkBd]at hok
   rw[OeB]at hoe
   exact⟨_,_,pb,b,_,h0,rfl,h2,by decide,by decide,by decide,rfl,hok,hoe,by rw[Bd.dp],by rw[Bd.sz];lia,by rw[wB],fun _ _ _ e=>by cases e⟩
  |loose x b =>
   rw[IsBd]at hI
   obtain⟨pb,h0,h2⟩:=hI
   rw[OkBd]at hok
   rw[OeB]at hoe
   exact⟨_,_,pb,b,_,h0,rfl,h2,by decide,by decide,by decide,rfl,hok,hoe,by rw[Bd.dp],by rw[Bd.sz];lia,by rw[wB],fun _ _ _ e=>by cases e⟩
 refine⟨_,rfl,ixT h0 aI0 ⟨rfl,_,rfl,ifFF (decide_eq_false fun z=>w1 (by injection z)) (nxtC ?_)⟩⟩
 refine⟨_,rfl,ixT h0 aI0 ⟨rfl,_,rfl,ifFF (decide_eq_false fun z=>w2 (by injection z)) (nxtC ?_)⟩⟩
 refine⟨_,rfl,ixT h0 aI0 ⟨rfl,_,rfl,ifFF (decide_eq_false fun z=>w3 (by injection z)) (nxtC ?_)⟩⟩
 refine⟨_,rfl,_,rfl,p,od,b,b',ow,es,rfl,hI,hok,hO,k6,he,fun H3 r3 t3 s3 L3 E3 e3l=>?_⟩
 rw[k5]at q
 refine⟨_,rfl,1,rfl,p,_,_,_,rfl,rfl,SqT.of (s3 _ _ h0),hx,_,rfl,pb,od,b',ow,rfl,h1.keep (Tups.of s3),k1,k2,hO.same s3,by lia,by lia,by lia,fun H4 r4 t4 s4 L4 W4 S4=>?_⟩
 have w4:=yO (ow:=ow) (b:=b')
 have l4:=W4.len
 have ee:=E3.len
 refine⟨r4,rfl,⟨_,SqL.of L4⟩,ym (xs:=t4.map V.ref) (fun j τ ys H'=>Same H4 H'/\(∃y,τ=[some (.ref p),some (.ref od),none,none,none,some (.ref r3),y])/\∃vs,ys=vs.map V.ref/\WsAt H' (((wB ow b').take j).map (es ++ ·)) vs) ⟨Same.refl _,⟨none,rfl⟩,[],rfl,trivial⟩ (fun i τ ys H' _ h=>SqL.of (h.1 _ _ L4)) ?_ ?_⟩
 ·rintro j v τ ys H5 hv ⟨s5,⟨y,rfl⟩,vs,rfl,W5⟩
  rw[uk]at hv
  obtain⟨t,ht,rfl⟩:=uf.mp hv
  obtain⟨e,us,he,hL,hE'⟩:=(W4.keep s5).at ht
  have ul:=hE'.len
  have ell:=S4 e (uB he)
  have hil:j < (wB ow b').length:=(ug.mp he).1
  have vl:=W5.len
  rw[ua,uX]at vl
  refine⟨_,rfl,_,rfl,r3,t,_,_,rfl,rfl,s5 _ _ (s4 _ _ L3),hL,by rw[ua,ua];lia,fun l3 g3=>?_⟩
  have s6:=zi g3 (.lst (t3.map V.ref++us.map V.ref))
  refine⟨by rw[ua];lia,s5.trans s6,⟨_,rfl⟩,vs++[l3],by rw[uj];rfl,?_⟩
  rw[Ua,he,uj]
  exact(W5.keep s6).app ⟨⟨t3++us,by rw[zg,uj],((E3.keep (Tups.of (s4.trans (s5.trans s6)))).app (hE'.keep (Tups.of s6)))⟩,trivial⟩
 ·rintro τ ys H5 ⟨s5,_,vs,rfl,W5⟩ l5 g5
  rw[ua,<- l4,Us]at W5
  refine q _ l5 vs ((s3.trans (s4.trans s5)).new g5) zg (W5.keep (zi g5 _)) ?_
  rw[k3]
  exact S4.pre (k:=0) (by lia)
end
end GN
namespace L2
open PySem PySem.Spec PyProof.Rows
section
variable{X:Cx}
end
section
variable{X:Cx}{pins:List (Addr×Obj)}{σ:St}{H:Hp}{s:Shared}
end
def eqVs(a b:List V):Bool:=(uT (min a.length b.length)).all (fun j=>eqV (a.getD j .non) (b.getD j .non)) && a.length == b.length
theorem jF{a:List V}(h:a.all yp=true):eqVs a a=true:=by
 unfold eqVs
 rw[UL]
 refine⟨u9.mpr fun j hj=>?_,by simp⟩
 have hj:=List.mem_range.mp hj
 rw[Nat.min_self]at hj
 rw[uH,um hj]
 exact ZV (u9.mp h _ (UX hj))
def tupO(C:List V->Bool):Option HO->Bool
 |some (.tup c)=>C c
 |_=>false
def tupF(H:Hp)(C:List V->Bool):Value->Bool
 |.ref t=>tupO C (H t)
 |_=>false
theorem Yc{H:Hp}{C:List V->Bool}{c:List V}{t:Addr}(h:H t=some (.tup c)):tupF H C (.ref t)=C c:=by
 show tupO C (H t)=_
 rw[h]
 rfl
section
variable{X:Cx}{pins:List (Addr×Obj)}{σ:L2.St}{H:Hp}{s:Shared}
theorem jH{xs:List V}{us:List Value}(r:Vals xs us){j:Nat}(h:j < us.length):RelV (xs.getD j .non) us[j]:=by
 have hl:=r.length
 obtain⟨u,e1,rx⟩:=r.get (i:=j) (x:=xs[j]'(by lia)) (um _)
 rw[uH,um (by lia),(ug.mp e1).2]
 exact rx
theorem jJ{xs:List V}(h:xs.all yp=true){j:Nat}(hj:j < xs.length):yp (xs.getD j .non)=true:=by
 rw[uH,um hj]
 exact u9.mp h _ (UX hj)
theorem zaa{A:Around}(hu:A.units < cLine)(I:Inv X pins σ H s){p q:Addr}{a b:List V}(hp:H p=some (.tup a))(hq:H q=some (.tup b))(f:∀j,j < a.length->j < b.length->yp (a.getD j .non)=true/\yp (b.getD j .non)=true)(fe:p=q->eqVs a b=true):SeqAt.EqAt A s (.ref p) (.ref q) (eqVs a b):=by
 by_cases e:p=q
 ·rw[fe e,e]
  exact .same _
 ·refine .of_refs e ?_
  obtain⟨i1,v1,m1,_⟩:=I.tuple (SqT.of hp)
  obtain⟨i2,v2,m2,_⟩:=I.tuple (SqT.of hq)
  have l1:=v1.length
  have l2:=v2.length
  have main:=SeqAt.RcAt.tuples (A:=A) (s:=s) (e:=fun j=>eqV (a.getD j .non) (b.getD j .non)) m1 m2 hu (fun j h1 h2=>by
   simp at h1 h2
   obtain⟨f1,f2⟩:=f j (by lia) (by lia)
   exact Ys (by simpa using jH v1 h1) (by simpa using jH v2 h2) f1 f2)
  rw[uo,uo,<- l1,<- l2]at main
  exact main
end
section
variable{X:Cx}{pins:List (Addr×Obj)}{σ:St}{H:Hp}{s:Shared}{d:Addr}{kvs:List (Key×V)}{tg:Expr}
theorem Inv.freeze(I:Inv X pins σ H s)(e:H d=some (.dK kvs)):∃ob,s.heap.get? d=some ob/\Inv X pins σ (upd H d (.frz ob (.dK kvs))) s:=by
 have ok:=I.hok d _ e
 obtain⟨_,_,vs,r,ob,es,ep,g,c⟩:=id (show ObjOk X.prog X.w H s.heap d (.dK kvs)from ok)
 refine⟨ob,g,?_⟩
 have tu:∀b xs,H b=some (.tup xs)->upd H d (.frz ob (.dK kvs)) b=some (.tup xs):=fun b xs q=>by rw[zm (xB q e (by intro z;cases z))];exact q
 have ow:∀b a,H b=some (.own a)->upd H d (.frz ob (.dK kvs)) b=some (.own a):=fun b a q=>by rw[zm (xB q e (by intro z;cases z))];exact q
 refine I.step (h':=s.heap) (g':=s.gens) (d':=s.drawn) (t':=s.toks) (ch:=[]) (fun _ z=>nomatch z) (fun b o _ _ _ q _=>q) (fun b o _ _ _ q _=>⟨o.slots,q⟩) (fun b o _ _ n=>by rw[zm (Ne.symm (zr e n))];exact n) (fun b o _ q=>⟨o,q⟩) tu (fun b o u q=>by rw[zm (xB q e (by intro z;cases z))];exact q) (fun b ps q=>⟨#[],by rw[zm (xB q e (by intro z;cases z)),Array.append_empty];exact q⟩) (fun m n=>n) (fun b o q=>?_) I.bare
 by_cases c:b=d
 ·subst c
  rw[zg]at q
  cases q
  exact⟨g,ok.stay (fun _ _ _ q=>q) (fun b q=>ow b _ q) tu⟩
 ·rw[zm c]at q
  exact(I.hok b o q).stay (fun _ _ _ q=>q) (fun b' q=>ow b' _ q) tu
end
section
variable{σ:St}{H:Hp}{g:TG}{tt:TT}{te:TE}{Q:VK}
end
theorem Yd(l:Addr)(its:Array Value)(n:Nat)(x:Value)(e:Value->Bool)(j:Nat)(hj:j < its.size)(hit:e its[j]=true)(hz:its.size<=sizeLine):∀(k i:Nat),i+k=j->(∀m (hm:m < its.size),m < j->e its[m]=false)->Meets (Builtin.«list.remove.loop» ⟨[.ref l,x,rawInt i],[]⟩)
   (fun A R s=>s.heap.get? l=some (seqObj "list" its n)/\(∀y,y∈its->SeqAt.EqAt A.in1 s y x (e y))/\R (.ok (.ret .none)) { s with heap:=s.heap.update l (Obj.mapSeq fun xs=>xs.eraseIdxIfInBounds j) })
 |0,i,hk,hno=>by
  intro prog w A R s h
  obtain⟨hp,g,d,tk,os⟩:=s
  obtain⟨hl,he,h⟩:=h
  obtain rfl:i=j:=by lia
  wp_walk using wpAny_loadPart' hl
  rw[show its[((i:Nat):Int).toNat]?=some its[i] by simp[hj]]
  refine wpAny_bind (he _ (Array.getElem_mem hj) prog w _ _ ?_)
  rw[hit]
  have z2:=uy (MeetsSeq.size_erased its i) (U5 hz)
  wp_walk using(wpAny_updateSeq hl rfl (hz:=hz) (_hz':=z2)),wpAny_loadPart' hl
  simpa using h
 |k+1,i,hk,hno=>by
  intro prog w A R s h
  obtain⟨hp,g,d,tk,os⟩:=s
  obtain⟨hl,he,h⟩:=h
  have hlt:i < its.size:=by lia
  wp_walk using wpAny_loadPart' hl
  rw[show its[((i:Nat):Int).toNat]?=some its[i] by simp[hlt]]
  refine wpAny_bind (he _ (Array.getElem_mem hlt) prog w _ _ ?_)
  rw[hno i hlt (by lia)]
  wp_walk
  rw[show((i:Int)+1)=((i+1:Nat):Int) by lia]
  refine⟨plainId_quiet MeetsSeq.plain_remove_loop _,codeAny_builtin MeetsSeq.entry_remove_loop ?_⟩
  rw[Around.under_plainId MeetsSeq.plain_remove_loop _]
  exact Yd l its n x e j hj hit hz k (i+1) (by lia) hno prog w A R _ ⟨hl,he,h⟩
theorem zab(l:Addr)(its:Array Value)(n:Nat)(x:Value)(e:Value->Bool)(j:Nat)(hj:j < its.size)(hit:e its[j]=true)(hz:its.size<=sizeLine)(hno:∀m (hm:m < its.size),m < j->e its[m]=false):Meets (Builtin.«list.remove» ⟨[.ref l,x],[]⟩)
   (fun A R s=>s.heap.get? l=some (seqObj "list" its n)/\(∀y,y∈its->SeqAt.EqAt A.in1 s y x (e y))/\R (.ok (.ret .none)) { s with heap:=s.heap.update l (Obj.mapSeq fun xs=>xs.eraseIdxIfInBounds j) }):=by
 intro prog w A R s h
 obtain⟨hp,g,d,tk,os⟩:=s
 obtain⟨hl,he,h⟩:=h
 wp_walk using wpAny_loadPart' hl
 refine⟨plainId_quiet MeetsSeq.plain_remove_loop _,codeAny_builtin MeetsSeq.entry_remove_loop ?_⟩
 rw[Around.under_plainId MeetsSeq.plain_remove_loop _]
 exact Yd l its n x e j hj hit hz j 0 (by lia) hno prog w A R _ ⟨hl,he,h⟩
theorem erm{α β:Type}(g:α->β):∀(l:List α)(i:Nat),(l.eraseIdx i).map g=(l.map g).eraseIdx i
 |[],_=>rfl
 |_::_,0=>rfl
 |x::l,i+1=>by
  show g x::(l.eraseIdx i).map g=g x::(l.map g).eraseIdx i
  rw[erm g l i]
section
variable{X:Cx}
def zaW:V->List V->Hp->VK->Prop:=fun x vs H Q=>∃(l p:Addr)(xs:List V)(ts:List Addr),x=.ref l/\vs=[.ref p]/\H l=some (.lst (ts.map V.ref))/\H p=some (.tup xs)/\xs.all yp=true/\p∈ts/\(∀t∈ts,∃c,H t=some (.tup c)/\c.all yp=true)/\∀j,j < ts.length->Q .non (upd H l (.lst ((ts.eraseIdx j).map V.ref)))
theorem zac(hu:X.A.units+64 < cLine):MtM X "list.remove" zaW:=by
 intro pins s σ H x vs v us Q I rx rv h
 obtain⟨l,p,xs,ts,rfl,rfl,hH,hp,fx,pm,ht,q⟩:=h
 cases rx
 obtain⟨u,rfl,ru⟩:=rv.one
 cases ru
 obtain⟨z,its,n,r,hl,e⟩:=I.lstM hH
 have hlr:=r.length
 rw[ua]at hlr
 have at_:∀(i:Nat)(h:i < its.length),∃(t:Addr)(c:List V),its[i]=.ref t/\ts[i]?=some t/\H t=some (.tup c)/\c.all yp=true:=fun i hi=>by
  have hi':i < ts.length:=by lia
  obtain⟨u,o1,p1⟩:=r.get (i:=i) (x:=.ref ts[i]) (by rw[uk,um hi'];rfl)
  cases p1
  obtain⟨c,c1,c2⟩:=ht ts[i] (UX hi')
  exact⟨ts[i],c,(ug.mp o1).2,um hi',c1,c2⟩
 have eqs:∀y,y∈its.toArray->SeqAt.EqAt X.A.in1 s y (.ref p) (tupF H (fun c=>eqVs c xs) y):=fun y hy=>by
  obtain⟨i,hi,e⟩:=List.mem_iff_getElem.mp (by simpa using hy)
  obtain⟨t,c,e1,e2,e3,e4⟩:=at_ i hi
  rw[<- e,e1,Yc e3]
  refine zaa (A:=X.A.in1) (by show X.A.units+1 < cLine;lia) I e3 hp (fun j h1 h2=>⟨jJ e4 h1,jJ fx h2⟩) fun z=>?_
  rw[z,hp]at e3
  cases e3
  exact jF fx
 obtain⟨i0,hi0⟩:=tK pm
 have h0:i0 < its.length:=by
  have:=(ug.mp hi0).1
  lia
 have hit0:tupF H (fun c=>eqVs c xs) its[i0]=true:=by
  obtain⟨t,c,e1,e2,e3,e4⟩:=at_ i0 h0
  rw[hi0]at e2
  cases e2
  rw[hp]at e3
  cases e3
  rw[e1,Yc hp]
  exact jF fx
 have hj:its.findIdx (tupF H fun c=>eqVs c xs) < its.length:=List.findIdx_lt_length_of_exists ⟨_,UX h0,hit0⟩
 generalize hjj:its.findIdx (tupF H fun c=>eqVs c xs)=j at hj
 have hit:tupF H (fun c=>eqVs c xs) its[j]=true:=by
  subst hjj
  exact List.findIdx_getElem
 have hno:∀m (hm:m < its.toArray.size),m < j->tupF H (fun c=>eqVs c xs) its.toArray[m]=false:=fun m hm hmj=>by
  subst hjj
  have:=List.not_of_lt_findIdx hmj
  simpa using this
 have hjt:j < ts.length:=by lia
 have q:=q j hjt
 rw[erm]at q
 refine call_meets F.slot_list_remove ⟨_,e,rfl⟩ F.entry_list_remove (F.args_list_remove_2 _ _) (zab l its.toArray n (.ref p) _ j (by simpa using hj) (by simpa using hit) (by rw[uo,<- hlr];rw[ua]at z;lia) hno) ⟨e,eqs,?_⟩
 refine⟨.non,_,I.lset (its':=its.eraseIdx j) hH e ?_ (r.eraseIdx j) ?_,rfl,q⟩
 ·show its.toArray.eraseIdxIfInBounds j=(its.eraseIdx j).toArray
  rw[U9]
 ·have:=wK (ts.map V.ref) j
  lia
theorem zad{k:Nat}(hr:Room k X.A):jMt X "list.remove" zaW:=⟨zac hr.units⟩
theorem vY{o e f:Expr}{td ty tx:TE}{apos cpos:Pos}(ho:jE X o td)(he:jE X e ty)(hf:jE X f tx)(m:M2 X o "pop" apos e f cpos:=by exact⟨rfl,rfl,rfl,rfl⟩):jE X (.Call (.Attribute o "pop" apos) [e,f] [] cpos) (Vx td ty tx):=⟨VA ho.out he.out hf.out m⟩
end
section
variable{X:Cx}{pins:List (Addr×Obj)}{σ:St}{H:Hp}{s:Shared}
end
section
variable{X:Cx}{k n:Nat}
end
section
variable{X:Cx}{pins:List (Addr×Obj)}{σ:St}{H:Hp}{s:Shared}{d:Addr}{kvs:List (Key×V)}{tg:Expr}
def Itw(d:Addr)(ob:Obj)(kvs:List (Key×V)):It :=
 ⟨fun i H=>i < kvs.length/\H d=some (.frz ob (.dK kvs)),fun i H x H'=>H'=H/\∃kv,kvs[i]?=some kv/\x=kv.2,fun i H=>kvs.length<=i/\H d=some (.frz ob (.dK kvs))⟩
theorem Ju(I:Inv X pins σ H s){ob:Obj}{es:Array DictEntry}{ep:Nat}(hob:ob.data=.dict es ep)(hd:H d=some (.frz ob (.dK kvs))):∃vs,KV kvs vs/\s.heap.DictAt (zF X.prog X.w) d vs ep:=by
 obtain⟨g,_,_,vs,r,ob',es',ep',g',c1,c2,c3⟩:=(show ObjOk X.prog X.w H s.heap d (.frz ob (.dK kvs))from I.hok d _ hd)
 have eo:ob'=ob:=by rw[g]at g';injection g' with g';exact g'.symm
 subst eo
 rw[hob]at c2
 injection c2 with c2 c2'
 subst c2 c2'
 exact⟨vs,r,ob',es,g,c1,hob,c3⟩
theorem Wq{P:Program}{w:World}{K:ub}(it:Addr){ob:Obj}{es:Array DictEntry}{ep:Nat}(hob:ob.data=.dict es ep):Turn P w K tg (Itw d ob kvs) [it] it (fun i h=>h.IsValIter it d i kvs.length ep) where
 mem:=by simp
 obj:=fun i h st b hb=>by
  obtain rfl:b=it:=by simpa using hb
  obtain⟨o,e,c,d⟩:=st
  exact⟨o,e,fun v z=>by rw[d]at z;cases z⟩
 keep:=fun i h h' st k=>st.at fun o e=>k it (by simp) o e
 item:=by
  intro X hP hw hK hc i pins s σ H E I hf st hg
  subst hP hw hK
  obtain⟨hi,hd⟩:=hg
  obtain⟨vs,r,dat⟩:=Ju I hob hd
  have hl:=r.length
  obtain⟨⟨k,u⟩,hu⟩:∃p,vs[i]?=some p:=⟨vs[i]'(by lia),by rw[um]⟩
  obtain⟨x,hx,hxu⟩:=r.get hu
  obtain⟨f0,f1,f2,f3,f4,f5⟩:=hf it (by simp)
  have st':s.heap.IsValIter it d i vs.length ep:=by rw[<- hl];exact st
  refine wpAny_pyNext_values_item st' dat hu fun h' hit' hs'=>?_
  have I1:Inv X pins σ H { s with heap:=h' }:=I.turned (t':=s.toks) (fun b o hb e=>hs'.extBut b o hb e) f0 f1 f3 f4 f5
  obtain⟨o,e,c,dd⟩:=id hit'
  exact⟨u,rfl,ZE (s:={ s with heap:=h' }) e c dd (by decide) ⟨x,H,I1,hxu,⟨rfl,_,hx,rfl⟩,by rw[hl];exact hit',fun b hb=>(hf b hb).1⟩⟩
 done:=by
  intro X hP hw hK hc i pins s σ H E I hf st hg
  subst hP hw hK
  obtain⟨hi,hd⟩:=hg
  obtain⟨vs,r,dat⟩:=Ju I hob hd
  have hl:=r.length
  obtain⟨f0,f1,f2,f3,f4,f5⟩:=hf it (by simp)
  have st':s.heap.IsValIter it d i vs.length ep:=by rw[<- hl];exact st
  exact wpAny_pyNext_values_end (I.ok.hd hc) st' dat (List.getElem?_eq_none (by lia)) fun h' eb=>⟨rfl,I.turned (t':=s.toks) (fun b o hb e=>eb b o hb e) f0 f1 f3 f4 f5⟩
 self:=fun _ _ _ _ _ st h=>wpAny_pyIter_valiter st h
def zaX(tl:TE):TI:=fun σ H R=>tl σ H fun x H1=>∃p d kvs,x=.ref p/\H1 p=some (.ext fun h=>h.IsValuesView p d)/\H1 d=some (.dK kvs)/\∀ob,R (Itw d ob kvs) (upd H1 d (.frz ob (.dK kvs)))
theorem zae{l:Expr}{tl:TE}(hl:PE X l tl):PI X tg l (zaX tl):=by
 intro pins s σ H R I h
 refine thn (hl pins s σ H _ I h) fun v s1 ⟨x,H1,I1,r1,q1⟩=>?_
 obtain⟨p,a,kvs,e,hp,hq,q⟩:=q1
 subst e
 cases r1
 have hvw:s1.heap.IsValuesView p a:=(I1.hok p _ hp).1
 obtain⟨_,hs,vs,r,ob',es,ep,g',c1,c2,c3⟩:=(show ObjOk X.prog X.w H1 s1.heap a (.dK kvs)from I1.hok a _ hq)
 obtain⟨ob,g,I2⟩:=I1.freeze hq
 have eo:ob'=ob:=by rw[g]at g';injection g' with g';exact g'.symm
 subst eo
 have dat:s1.heap.DictAt (zF X.prog X.w) a vs ep:=⟨ob',es,g,c1,c2,c3⟩
 have hl:=r.length
 refine wpAny_pyIter_values hvw dat ?_
 refine⟨s1.heap.objs.size,[s1.heap.objs.size],_,_,_,rfl,I2.kept (t':=s1.toks) fun b o e=>ud _ e,Wq _ c2,?_,fun b hb=>?_,q ob'⟩
 ·rw[hl]
  exact⟨_,ut _ rfl,rfl,rfl⟩
 have e:b=s1.heap.objs.size:=by simpa using hb
 subst e
 exact I2.fpOk (ui _) (I2.hok.fresh (ui _))
theorem zaf{l:Expr}{tl:TE}(hl:jE X l tl):jI X tg l (zaX tl):=⟨zae hl.out⟩
end
section
variable{σ:St}{H:Hp}{g:TG}{tt:TT}{te:TE}{Q:VK}
theorem zag{d:Addr}{ob:Obj}{kvs:List (Key×V)}(Pv:Nat->St->List V->Hp->Prop)(h0:Pv 0 σ [] H)(hl:∀i τ ys H,i<=kvs.length->Pv i τ ys H->H d=some (.frz ob (.dK kvs)))
  (hs:∀i kv τ ys H,kvs[i]?=some kv->Pv i τ ys H->g kv.2 τ H fun τ2 H2=>tt τ2 H2 fun b H3=>if b=true then te τ2 H3 fun y H4=>ys.length < sizeLine/\Pv (i+1) τ2 (ys++[y]) H4 else Pv (i+1) τ2 ys H3)
  (hd:∀τ ys H,Pv kvs.length τ ys H->∀p,H p=none->Q (.ref p) (upd H p (.lst ys))):∃W,(∃m,W 0 m σ [] H)/\lcBy (Itw d ob kvs) g tt te Q W:=by
 refine⟨fun i m τ ys H=>m=kvs.length-i/\i<=kvs.length/\Pv i τ ys H,⟨kvs.length,by simp,uW _,h0⟩,?_⟩
 rintro i m τ ys H ⟨rfl,hi,p⟩
 have q:=hl i τ ys H hi p
 by_cases hlt:i < kvs.length
 ·refine .inr ⟨⟨hlt,q⟩,Pv (i+1),fun τ' ys' H' p'=>⟨kvs.length-(i+1),by lia,rfl,hlt,p'⟩,fun x H' y=>?_⟩
  obtain⟨e,kv,y,rfl⟩:=y
  subst e
  exact hs i kv τ ys _ y p
 ·have e:i=kvs.length:=by lia
  subst e
  exact .inl ⟨⟨ui _,q⟩,hd τ ys H p⟩
end
def rDE:R2:=fun x y H Q=>∃p p' kvs,x=.ref p/\y=.ref p'/\H p=some (.dK kvs)/\H p'=some (.dK [])/\Q (.bl kvs.isEmpty) H
section
variable{X:Cx}
theorem zcQ(hu:X.A.units+64 < cLine):OpR X (compareOp .Eq) rDE:=by
 intro pins s σ H x y v u Q I rx ry h
 obtain⟨p,p',kvs,rfl,rfl,h1,h2,q⟩:=h
 cases rx
 cases ry
 obtain⟨z1,d1,vs,r1,dd1⟩:=vf I.hok h1
 obtain⟨z2,d2,vs',r2,dd2⟩:=vf I.hok h2
 cases r2
 have l1:=r1.length
 refine PySem.W.keq_eq d1 d2 dd1 dd2 (by lia) (r:=true) (fun e=>?_) ?_
 ·cases vs with
  |nil=>exact .nil
  |cons a b=>cases e
 ·have e:(vs.length == ([]:List (Key×Value)).length && true)=kvs.isEmpty:=by
   cases kvs with
   |nil=>rw[<- l1];rfl
   |cons a b=>rw[<- l1];rfl
  rw[e]
  exact⟨.bl _,H,I,rfl,q⟩
theorem zcR{k:Nat}(hr:Room k X.A):jOp X (compareOp .Eq) rDE:=⟨zcQ hr.units⟩
section
variable{prog:Program}{w:World}{A:Around}{E:Value->Shared->Prop}{s:Shared}
theorem Wr(a b c:Value):argsOk "min" ⟨[a,b,c],[]⟩:=by unfold argsOk;kernel_rfl
theorem Ws{a b c:Value}{ps:Array (Int×Tok)}(hps:intItems ps=#[a,b,c]){Q:Value->Shared->Prop}(hh:A.handled=none)(q:∀v h' tk,(∃i:Nat,(intItems ps)[i]?=some v/\∀j,j < 3->numAt ps i<=numAt ps j)->(∀c o,s.heap.get? c=some o->h'.get? c=some o)->Q v { s with heap:=h',toks:=tk }):
  wpAny (model prog w) A (call (.builtin "min") [a,b,c]) Q E s:=by
 have nm:(toString "min" ++ toString ".loop":String)="min.loop":=by decide
 refine call_function_tree F.kind_min F.plain_min F.entry_min (Wr _ _ _) ?_
 show wpAny _ A.in1 (Builtin.Builtins.bindParams "min" ["key","default"] 0 ⟨[],[]⟩ >>= _) _ _ s
 refine wpAny_bind (wpAny_of_eq (by exact rfl:Builtin.Builtins.bindParams "min" ["key","default"] 0 ⟨[],[]⟩=pure [none,none]) ?_)
 show wpAny _ A.in1 (newTuple [a,b,c] >>= _) _ _ s
 refine wpAny_bind (wpAny_newObj_type ?_)
 have hT:(s.heap.push { cls:=.type "tuple",data:=.seq #[a,b,c] }).IsTuple s.heap.objs.size (intItems ps):=⟨_,ut _ rfl,rfl,0,by rw[hps]⟩
 have z1:(s.heap.push { cls:=.type "tuple",data:=.seq #[a,b,c] }).objs.size=s.heap.objs.size+1:=Uf ..
 refine wpAny_bind (wpAny_pyIter_tuple hT ?_)
 refine wpAny_bind (wpAny_newObj_type ?_)
 rw[nm]
 have W:=Walks.tuple (prog:=prog) (w:=w) (A:=A.in1) hh (s.heap.push { cls:=.type "tuple",data:=.seq #[a,b,c] }).objs.size s.heap.objs.size (by rw[z1];exact uC (Uv _)) (intItems ps)
 have sz:(intItems ps).size=3:=by rw[hps];rfl
 have hst:((s.heap.push { cls:=.type "tuple",data:=.seq #[a,b,c] }).push { cls:=.type "tuple_iterator",data:=.fields #[.ref s.heap.objs.size,.int 0 0] }).objs.size=s.heap.objs.size+2:=by rw[Uf,z1]
 refine wpAny_pure ⟨plainId_quiet F.plain_min_loop _,codeAny_min_loop_first W _ (CmpOf.ints_lt (numAt ps) (fun _ _=>intItems_at)) _ (fun hm=>?_) (by rw[sz];decide) (W.frame _ _ _ ⟨⟨_,ut _ rfl,rfl,rfl⟩,hT.push _⟩ fun b _ o e=>ud _ e) (ut _ rfl) fun v h' tk hP hk=>?_⟩
 ·dsimp only at hm
  simp only[uu,uD,or_false]at hm
  rcases hm with e|e
  ·exact UU (show _ < _ by rw[hst,z1];exact Uv _) e
  ·exact UU (show _ < _ by rw[hst];exact Tb (Uv _)) e
 ·obtain⟨b1,b2⟩:=argBest_lt (numAt ps) ((intItems ps).size-1)
  refine q v h' tk ⟨_,hP,fun j hj=>b2 j (by lia)⟩ fun x o e=>?_
  have lt:=uq e
  refine hk x o (fun hm=>?_) (fun e=>?_) (ud _ (ud _ (ud _ e)))
  ·simp only[uu,uD,or_false]at hm
   exact uC (Nat.lt_trans lt (by rw[z1];exact Uv _)) hm
  ·exact uC (Nat.lt_trans lt (by rw[hst];exact Tb (Uv _))) e
end
theorem Wt(hc:X.calm=true):yQ X (.builtin "min") (fun xs H Q=>∃i j k,xs=[.int i,.int j,.int k]/\∀r,(r=i\/r=j\/r=k)->r<=i->r<=j->r<=k->Q (.int r) H):=by
 intro pins s σ H xs us Q I r h
 obtain⟨i,j,k,rfl,q⟩:=h
 cases r with
 |cons a r =>
  obtain⟨u,w',rfl,⟨t2,rfl⟩,⟨t3,rfl⟩⟩:=vx r
  obtain⟨t1,rfl⟩:=a
  refine Ws (ps:=#[(i,t1),(j,t2),(k,t3)]) (by simp[intItems]) (I.ok.hd hc) fun v h' tk ⟨n,hn,hle⟩ kk=>?_
  have l0:=hle 0 (by decide)
  have l1:=hle 1 (by decide)
  have l2:=hle 2 (by decide)
  have hn3:n < 3:=by
   obtain⟨h,_⟩:=Array.getElem?_eq_some_iff.mp hn
   simpa[intItems]using h
  match n,hn3 with
  |0,_ =>
   have e:Value.int i t1=v:=by simpa[intItems]using hn
   subst e
   exact⟨.int i,H,I.kept kk,⟨_,rfl⟩,q i (.inl rfl) l0 l1 l2⟩
  |1,_ =>
   have e:Value.int j t2=v:=by simpa[intItems]using hn
   subst e
   exact⟨.int j,H,I.kept kk,⟨_,rfl⟩,q j (.inr (.inl rfl)) l0 l1 l2⟩
  |2,_ =>
   have e:Value.int k t3=v:=by simpa[intItems]using hn
   subst e
   exact⟨.int k,H,I.kept kk,⟨_,rfl⟩,q k (.inr (.inr rfl)) l0 l1 l2⟩
theorem zah(hc:X.calm=true):jCa X (.builtin "min") (fun xs H Q=>∃i j k,xs=[.int i,.int j,.int k]/\∀r,(r=i\/r=j\/r=k)->r<=i->r<=j->r<=k->Q (.int r) H):=⟨Wt hc⟩
end
end L2
namespace GN
open PySem L2 K11
def K2(a b:Addr)(H H':Hp):Prop:=∀c o,c≠a->c≠b->H c=some o->H' c=some o
theorem K2.refl{a b:Addr}{H:Hp}:K2 a b H H:=fun _ _ _ _ h=>h
theorem K2.of{a b:Addr}{H H':Hp}(s:Same H H'):K2 a b H H':=fun _ _ _ _ h=>s _ _ h
theorem K2.trans{a b:Addr}{H H1 H2:Hp}(s:K2 a b H H1)(t:K2 a b H1 H2):K2 a b H H2:=fun _ _ x y h=>t _ _ x y (s _ _ x y h)
theorem K2.put1{a b:Addr}{H:Hp}{o:HO}:K2 a b H (upd H a o):=fun c o x y h=>by rw[zm x];exact h
theorem K2.put2{a b:Addr}{H:Hp}{o:HO}:K2 a b H (upd H b o):=fun c o x y h=>by rw[zm y];exact h
def tokP(s:Hs):Prop:=∀x∈s.ts,(0:Int)<=x.2
theorem XF{α:Type}{l:List (Str×α)}{x:Str}{y:Str×α}(h:y∈drpA l x):y∈l:=(List.mem_filter.mp h).1
theorem Zz{α:Type}{l:List (Str×α)}{x:Str}:(drpA l x).length<=l.length:=Ut _ _
theorem zce{e:Ev}{s s':Hs}(h:stE e s=some s')(t:tokP s):tokP s'/\s'.ns.length<=s.ns.length+1/\s'.ts.length<=s.ts.length+1:=by
 cases e with
 |look x =>
  have h:(if zB x s=true then some s else none)=some s':=h
  split at h
  ·cases h;exact⟨t,by lia,by lia⟩
  ·cases h
 |up x =>
  have h:zL x s=some s':=h
  unfold zL at h
  split at h
  ·cases h
   have:=Zz (l:=s.ns) (x:=x)
   exact⟨t,by dsimp only;lia,by dsimp only;lia⟩
  ·cases h
 |bind x =>
  have h:zG x s=some s':=h
  unfold zG at h
  split at h
  ·cases h
   exact⟨t,by dsimp only;rw[uc];exact ui _,by dsimp only;lia⟩
  ·cases h
 |keep k n =>
  have h:xo k (n:Nat) s=some s':=h
  unfold xo at h
  split at h
  ·cases h
   refine⟨fun x hx=>?_,by dsimp only;lia,by dsimp only;rw[uc];exact ui _⟩
   rcases uF.mp hx with z|z
   ·exact t x z
   ·rw[uv.mp z];exact Int.natCast_nonneg n
  ·cases h
 |fill k n =>
  have h:(if k=""then some s else(useT k s).bind fun p=>if p.1=((n:Nat):Int)then some p.2 else none)=some s':=h
  split at h
  ·cases h;exact⟨t,by lia,by lia⟩
  ·unfold useT at h
   have hd:=Zz (l:=s.ts) (x:=k)
   cases c:look s.ts k with
   |none=>rw[c]at h;cases h
   |some v =>
    rw[c]at h
    have h:(if v=((n:Nat):Int)then some (Hs.mk s.ns (drpA s.ts k))else none)=some s':=h
    split at h
    ·cases h
     exact⟨fun x hx=>t x (XF hx),by dsimp only;lia,by dsimp only;lia⟩
    ·cases h
 |loose k =>
  have h:(useT k s).map (·.2)=some s':=h
  unfold useT at h
  have hd:=Zz (l:=s.ts) (x:=k)
  cases c:look s.ts k with
  |none=>rw[c]at h;cases h
  |some v =>
   rw[c]at h
   cases h
   exact⟨fun x hx=>t x (XF hx),by dsimp only;lia,by dsimp only;lia⟩
 |fin =>
  have h:(if yY s=true then some s else none)=some s':=h
  split at h
  ·cases h;exact⟨t,by lia,by lia⟩
  ·cases h
 |bad=>cases h
def Jv:Sp:=fun vs H Q _=>∃(t hd td:Addr)(e:Ev)(s:Hs),vs=[.ref t,.ref hd,.ref td]/\H t=some (.tup (evT e))/\H hd=some (.dK (em V.bl s.ns))/\H td=some (.dK (em V.int s.ts))/\hd≠td/\tokP s/\s.ns.length < 10000000/\s.ts.length < 10000000/\(∀H' s',stE e s=some s'->K2 hd td H H'->(e≠.fin->H' hd=some (.dK (em V.bl s'.ns))/\H' td=some (.dK (em V.int s'.ts)))->Q (.bl true) H')/\(∀H',stE e s=none->K2 hd td H H'->Q (.bl false) H')
section
variable{P:Program}{w:World}{K:ub}{mg:Str->Option Value}{base:Heap}{f:Addr}{fd:FuncData}
theorem scStep:FnScope ["_law_event","_law_hands","_law_tokens","_law_word","_law_name_here","_law_many","_law_new"] lS15 (zn VO):=.ok
theorem zcf:(["_law_event","_law_hands","_law_tokens","_law_word","_law_name_here","_law_many","_law_new","_law_own"]:List Str).Nodup:=by decide +kernel
theorem Jw{s:Hs}{t:Str}{v:Int}(h:tokP s)(e:look s.ts t=some v):0<=v:=by
 unfold look at e
 obtain⟨p,h1,rfl⟩:=uf.mp e
 exact h p (List.mem_of_find?_eq_some h1)
theorem zai(F:Fun K "_law_step" "_law_step" VO f fd):FnOk P w K mg base CX0 1 f fd lS15 Jv:=by
 refine F.by scStep (fun vs H Q E h=>?_) (fun cdv A outer s H vs Q E hr h=>?_)
 ·obtain⟨t,hd,td,e,s,rfl,_⟩:=h
  rfl
 obtain⟨t,hd,td,e,s',rfl,ht,hh,hk,hne,tp,n1,n2,qT,qF⟩:=h
 refine⟨_,
  (zh (yz (jv 0) (wq rfl (zC (gN 3 scStep.nd) (zC (gN 4 scStep.nd) (zC (gN 5 scStep.nd) yA)))))
  (zh (zw (tN zz (jv 3) zo)
   (zj (zq (YM hr (jv 4) (jv 1)))) zp)
  (zh (zw (tN zz (jv 3) zo)
   (zj (zq (vY (jv 1) (jv 4) xm))) zp)
  (zh (zw (tN zz (jv 3) zo)
   (zh (sE 6 scStep.nd (wc hr (jv 4) (jv 1)))
   (zh (xZ hr (jv 1) (jv 4) xm)
   (zj (zq (jv 6))))) zp)
  (zh (zw (tN zz (jv 3) zo)
   (zh (sE 6 scStep.nd (wc hr (jv 4) (jv 2)))
   (zh (xZ hr (jv 2) (jv 4) (jv 5))
   (zj (zq (jv 6))))) zp)
  (zh (zw (tN zz (jv 3) zo)
   (zj (zq (zcE (zP zz (jv 4) zo (zY _)) (wp (zP zz (vY (jv 2) (jv 4) (vA zk)) (jv 5) (zY _)))))) zp)
  (zh (zw (tN zz (jv 3) zo)
   (zj (zq (zP wY (vY (jv 2) (jv 4) (vA zk)) (vA zk) (zY _)))) zp)
  (zh (zw (tN zz (jv 3) zo)
   (zj (zq (xE (zP (xy hr) (zW ["_law_own"] rfl (zaf (j8 UR tT PySem.F.type_dict_values Xw (jv 1))) (fun _ _ _ _ _=>(gN 7 zcf)) (fun _ _ _ _ _=>(ya (zE (jv 7)))) (fun _ _ _ _ _=>(jv 7))) (zv zA) (zY _)) (wp (zP (zcR hr) (jv 2) xK (zY _)))))) zp)
  (zj (zq xm)))))))))),?_⟩
 have sl:=zN
 have isd:IsD H hd:=.inl ⟨_,.inl hh⟩
 have ist:IsD H td:=.inl ⟨_,.inl hk⟩
 have e0:∀(x:Str),valV (em V.bl s'.ns) (.inr x)=(look s'.ns x).map V.bl:=fun x=>yn V.bl s'.ns x
 have e1:∀(x:Str),valV (em V.int s'.ts) (.inr x)=(look s'.ts x).map V.int:=fun x=>yn V.int s'.ts x
 cases e with
 |look x =>
  refine⟨_,rfl,t,_,rfl,SqT.of ht,rfl,_,_,rfl,_,_,rfl,_,_,rfl,rfl,?_⟩
  refine⟨_,rfl,rfl,_,rfl,iteT ?_⟩
  refine⟨_,rfl,_,rfl,hd,_,rfl,DGet.k (k:=.inr x) hh,?_⟩
  rw[e0,UF]
  cases c:(look s'.ns x).isSome with
  |true=>exact qT _ s' (show(if zB x s'=true then some s' else none)=_ from if_pos c) K2.refl fun _=>⟨hh,hk⟩
  |false=>exact qF _ (show(if zB x s'=true then some s' else none)=_ from if_neg (by unfold zB;rw[c];decide)) K2.refl
 |up x =>
  refine⟨_,rfl,t,_,rfl,SqT.of ht,rfl,_,_,rfl,_,_,rfl,_,_,rfl,rfl,?_⟩
  refine⟨_,rfl,rfl,_,rfl,iteF (nxtC ?_)⟩
  refine⟨_,rfl,rfl,_,rfl,iteT ?_⟩
  refine⟨_,rfl,hd,rfl,isd,_,rfl,_,.inr x,hh,rfl,fun v hv=>?_,fun hv=>?_⟩
  ·rw[e0]at hv
   obtain⟨b,hb,rfl⟩:=uf.mp hv
   rw[xO]
   cases b with
   |true=>exact qT _ ⟨drpA s'.ns x,s'.ts⟩ (show zL x s'=_ from if_pos hb) K2.put1 fun _=>⟨zg,by rw[zm (Ne.symm hne)];exact hk⟩
   |false=>exact qF _ (show zL x s'=_ from if_neg (by rw[hb];intro z;cases z)) K2.put1
  ·rw[e0,Option.map_eq_none_iff]at hv
   exact qF _ (show zL x s'=_ from if_neg (by rw[hv];intro z;cases z)) K2.refl
 |bind x =>
  refine⟨_,rfl,t,_,rfl,SqT.of ht,rfl,_,_,rfl,_,_,rfl,_,_,rfl,rfl,?_⟩
  refine⟨_,rfl,rfl,_,rfl,iteF (nxtC ?_)⟩
  refine⟨_,rfl,rfl,_,rfl,iteF (nxtC ?_)⟩
  refine⟨_,rfl,rfl,_,rfl,iteT ?_⟩
  refine⟨_,rfl,_,rfl,hd,_,rfl,DGet.k (k:=.inr x) hh,?_⟩
  refine⟨_,rfl,_,rfl,hd,_,rfl,DPut.k (k:=.inr x) hh (by rw[xP];lia),?_⟩
  refine⟨_,rfl,?_⟩
  rw[e0,UF]
  cases c:look s'.ns x with
  |none=>exact qT _ ⟨s'.ns++[(x,true)],s'.ts⟩ (show zG x s'=_ from if_pos c) K2.put1 fun _=>⟨by rw[zg];exact congrArg (fun z=>some (HO.dK z)) (we V.bl (a:=true) c),by rw[zm (Ne.symm hne)];exact hk⟩
  |some b=>exact qF _ (show zG x s'=_ from if_neg (by rw[c];intro z;cases z)) K2.put1
 |keep k n =>
  refine⟨_,rfl,t,_,rfl,SqT.of ht,rfl,_,_,rfl,_,_,rfl,_,_,rfl,rfl,?_⟩
  refine⟨_,rfl,rfl,_,rfl,iteF (nxtC ?_)⟩
  refine⟨_,rfl,rfl,_,rfl,iteF (nxtC ?_)⟩
  refine⟨_,rfl,rfl,_,rfl,iteF (nxtC ?_)⟩
  refine⟨_,rfl,rfl,_,rfl,iteT ?_⟩
  refine⟨_,rfl,_,rfl,td,_,rfl,DGet.k (k:=.inr k) hk,?_⟩
  refine⟨_,rfl,_,rfl,_,rfl,td,_,rfl,DPut.k (k:=.inr k) hk (by rw[xP];lia),?_⟩
  refine⟨_,rfl,?_⟩
  rw[e1,UF]
  cases c:look s'.ts k with
  |none=>exact qT _ ⟨s'.ns,s'.ts++[(k,((n:Nat):Int))]⟩ (show xo k _ s'=_ from if_pos c) K2.put2 fun _=>⟨by rw[zm hne];exact hh,by rw[zg];exact congrArg (fun z=>some (HO.dK z)) (we V.int (a:=((n:Nat):Int)) c)⟩
  |some b=>exact qF _ (show xo k _ s'=_ from if_neg (by rw[c];intro z;cases z)) K2.put2
 |fill k n =>
  have es:stE (.fill k n) s'=if k=""then some s' else(useT k s').bind fun p=>if p.1=((n:Nat):Int)then some p.2 else none:=rfl
  refine⟨_,rfl,t,_,rfl,SqT.of ht,rfl,_,_,rfl,_,_,rfl,_,_,rfl,rfl,?_⟩
  refine⟨_,rfl,rfl,_,rfl,iteF (nxtC ?_)⟩
  refine⟨_,rfl,rfl,_,rfl,iteF (nxtC ?_)⟩
  refine⟨_,rfl,rfl,_,rfl,iteF (nxtC ?_)⟩
  refine⟨_,rfl,rfl,_,rfl,iteF (nxtC ?_)⟩
  refine⟨_,rfl,rfl,_,rfl,iteT ?_⟩
  refine⟨_,rfl,rfl,_,rfl,?_⟩
  by_cases ck:k=""
  ·exact ifTT (decide_eq_true (congrArg V.str ck)) (qT _ s' (by rw[es,if_pos ck]) K2.refl fun _=>⟨hh,hk⟩)
  ·refine ifFF (decide_eq_false fun z=>ck (by injection z)) ?_
   rw[if_neg ck]at es
   unfold useT at es
   refine⟨_,rfl,td,rfl,ist,_,rfl,1,rfl,_,.inr k,hk,rfl,fun v hv=>?_,fun hv=>?_⟩
   ·rw[e1]at hv
    obtain⟨b,hb,rfl⟩:=uf.mp hv
    rw[xO]
    rw[hb]at es
    have es:stE (.fill k n) s'=if b=((n:Nat):Int)then some (Hs.mk s'.ns (drpA s'.ts k))else none:=es
    refine⟨_,rfl,rfl,?_⟩
    by_cases cb:b=((n:Nat):Int)
    ·rw[show decide (V.int b=V.int ((n:Nat):Int))=true from decide_eq_true (congrArg V.int cb)]
     exact qT _ ⟨s'.ns,drpA s'.ts k⟩ (by rw[es,if_pos cb]) K2.put2 fun _=>⟨by rw[zm hne];exact hh,zg⟩
    ·rw[show decide (V.int b=V.int ((n:Nat):Int))=false from decide_eq_false fun z=>cb (by injection z)]
     exact qF _ (by rw[es,if_neg cb]) K2.put2
   ·rw[e1,Option.map_eq_none_iff]at hv
    refine⟨_,rfl,rfl,?_⟩
    rw[hv]at es
    rw[show decide (V.int (-1)=V.int ((n:Nat):Int))=false from decide_eq_false fun z=>by injection z with z;lia]
    exact qF _ es K2.refl
 |loose k =>
  have es:stE (.loose k) s'=(useT k s').map (·.2):=rfl
  unfold useT at es
  refine⟨_,rfl,t,_,rfl,SqT.of ht,rfl,_,_,rfl,_,_,rfl,_,_,rfl,rfl,?_⟩
  refine⟨_,rfl,rfl,_,rfl,iteF (nxtC ?_)⟩
  refine⟨_,rfl,rfl,_,rfl,iteF (nxtC ?_)⟩
  refine⟨_,rfl,rfl,_,rfl,iteF (nxtC ?_)⟩
  refine⟨_,rfl,rfl,_,rfl,iteF (nxtC ?_)⟩
  refine⟨_,rfl,rfl,_,rfl,iteF (nxtC ?_)⟩
  refine⟨_,rfl,rfl,_,rfl,iteT ?_⟩
  refine⟨_,rfl,td,rfl,ist,_,rfl,1,rfl,_,.inr k,hk,rfl,fun v hv=>?_,fun hv=>?_⟩
  ·rw[e1]at hv
   obtain⟨b,hb,rfl⟩:=uf.mp hv
   have b0:=Jw tp hb
   rw[xO]
   rw[hb]at es
   refine⟨1,rfl,rfl,?_⟩
   rw[show decide (V.int b=V.int (-1))=false from decide_eq_false fun z=>by injection z with z;lia]
   exact qT _ ⟨s'.ns,drpA s'.ts k⟩ es K2.put2 fun _=>⟨by rw[zm hne];exact hh,zg⟩
  ·rw[e1,Option.map_eq_none_iff]at hv
   rw[hv]at es
   exact⟨1,rfl,rfl,qF _ es K2.refl⟩
 |fin =>
  have es:stE .fin s'=if yY s'=true then some s' else none:=rfl
  refine⟨_,rfl,t,_,rfl,SqT.of ht,rfl,_,_,rfl,_,_,rfl,_,_,rfl,rfl,?_⟩
  refine⟨_,rfl,rfl,_,rfl,iteF (nxtC ?_)⟩
  refine⟨_,rfl,rfl,_,rfl,iteF (nxtC ?_)⟩
  refine⟨_,rfl,rfl,_,rfl,iteF (nxtC ?_)⟩
  refine⟨_,rfl,rfl,_,rfl,iteF (nxtC ?_)⟩
  refine⟨_,rfl,rfl,_,rfl,iteF (nxtC ?_)⟩
  refine⟨_,rfl,rfl,_,rfl,iteF (nxtC ?_)⟩
  refine⟨_,rfl,rfl,_,rfl,iteT ?_⟩
  refine⟨_,rfl,.inr (.inr (.inl ⟨rfl,.inl ⟨_,hh⟩⟩)),hd,_,rfl,rfl,hh,fun pv hpv=>⟨pv,hd,_,rfl,zg,old hpv hh,fun ob=>?_⟩⟩
  have k1:K2 hd td H (upd (upd H pv (.ext fun h=>h.IsValuesView pv hd)) hd (.frz ob (.dK (em V.bl s'.ns)))):=(K2.of (zi hpv _)).trans K2.put1
  have f1:=zg (H:=upd H pv (.ext fun h=>h.IsValuesView pv hd)) (a:=hd) (o:=.frz ob (.dK (em V.bl s'.ns)))
  have t1:(upd (upd H pv (.ext fun h=>h.IsValuesView pv hd)) hd (.frz ob (.dK (em V.bl s'.ns)))) td=some (.dK (em V.int s'.ts)):=by rw[zm (Ne.symm hne)];exact old hpv hk
  generalize upd (upd H pv (.ext fun h=>h.IsValuesView pv hd)) hd (.frz ob (.dK (em V.bl s'.ns)))=H1 at *
  refine zag (kvs:=em V.bl s'.ns) (fun i τ ys H'=>H1=H'/\(∃y,τ=[some (.ref t),some (.ref hd),some (.ref td),some (.str "end"),some (.str ""),some (.int 0),none,y])/\ys=((s'.ns.take i).filter (·.2)).map fun _=>V.bl true) ⟨rfl,⟨none,rfl⟩,rfl⟩ (fun i τ ys H' _ h=>by rw[<- h.1];exact f1) ?_ ?_
  ·rintro i kv τ ys H' hv ⟨rfl,⟨y,rfl⟩,rfl⟩
   unfold em at hv
   rw[uk]at hv
   obtain⟨⟨n,b⟩,hn,rfl⟩:=uf.mp hv
   have hi:i < s'.ns.length:=(ug.mp hn).1
   have fl:=Ut (·.2) (s'.ns.take i)
   rw[uX]at fl
   rw[Ua,hn,UM,uj]
   cases b with
   |false=>exact⟨_,rfl,_,rfl,iteF ⟨rfl,⟨_,rfl⟩,by simp⟩⟩
   |true=>exact⟨_,rfl,_,rfl,iteT ⟨_,rfl,by rw[ua];lia,rfl,⟨_,rfl⟩,rfl⟩⟩
  ·rintro τ ys H' ⟨rfl,_,rfl⟩ pl hpl
   rw[xP,Us]
   refine⟨sN0,fun l2 h2=>⟨pl,l2,_,rfl,rfl,SqL.of (old h2 zg),SqL.of zg,_,rfl,?_⟩⟩
   have s2:=(zi hpl (.lst ((s'.ns.filter (·.2)).map fun _=>V.bl true))).new (o:=.lst []) h2
   generalize upd (upd H1 pl (.lst ((s'.ns.filter (·.2)).map fun _=>V.bl true))) l2 (.lst [])=H2 at *
   have en:((s'.ns.filter (·.2)).map fun _=>V.bl true).isEmpty=!(s'.ns.any (·.2)):=by
    rw[List.isEmpty_map,tU,List.isEmpty_iff,List.filter_eq_nil_iff]
    simp
   have ec:yY s'=(!(s'.ns.any (·.2)) && s'.ts.isEmpty):=by unfold yY;rw[Bool.and_comm]
   cases ca:s'.ns.any (·.2)with
   |true=>exact ifFF (by rw[if_neg (by decide),en,ca];rfl) (qF _ (by rw[es,ec,ca];rfl) (k1.trans (.of s2)))
   |false =>
    refine ifTT (by rw[if_neg (by decide),en,ca];rfl) ⟨_,rfl,fun d3 h3=>⟨td,d3,_,rfl,rfl,old h3 (s2 _ _ t1),zg,?_⟩⟩
    have k3:=(k1.trans (.of s2)).trans (.of (zi h3 (.dK [])))
    rw[show(em V.int s'.ts).isEmpty=s'.ts.isEmpty from List.isEmpty_map]
    cases cs:s'.ts.isEmpty with
    |true=>exact qT _ s' (by rw[es,ec,ca,cs];rfl) k3 fun z=>absurd rfl z
    |false=>exact qF _ (by rw[es,ec,ca,cs];rfl) k3
 |bad =>
  refine⟨_,rfl,t,_,rfl,SqT.of ht,rfl,_,_,rfl,_,_,rfl,_,_,rfl,rfl,?_⟩
  refine⟨_,rfl,rfl,_,rfl,iteF (nxtC ?_)⟩
  refine⟨_,rfl,rfl,_,rfl,iteF (nxtC ?_)⟩
  refine⟨_,rfl,rfl,_,rfl,iteF (nxtC ?_)⟩
  refine⟨_,rfl,rfl,_,rfl,iteF (nxtC ?_)⟩
  refine⟨_,rfl,rfl,_,rfl,iteF (nxtC ?_)⟩
  refine⟨_,rfl,rfl,_,rfl,iteF (nxtC ?_)⟩
  refine⟨_,rfl,rfl,_,rfl,iteF (nxtC ?_)⟩
  exact qF _ rfl K2.refl
end
end GN
namespace L2
open PySem PySem.Spec PyProof.Rows
section
variable{X:Cx}
theorem ZA:jCa X (.type "int") (fun xs H Q=>(∃i,xs=[.int i]/\Q (.int i) H)\/∃k,xs=[.bl k]/\Q (.int (if k then 1 else 0)) H):=⟨X0⟩
def Jx(K:ub):R2:=fun x y H Q=>∃p p' xs,x=.ref p/\y=.ref p'/\p≠p'/\SqT K H p xs/\SqT K H p' xs/\xs.all yp=true/\Q (.bl true) H
theorem zcg(hu:X.A.units+64 < cLine):OpR X (compareOp .Eq) (Jx X.K):=by
 intro pins s σ H x y v u Q I rx ry h
 obtain⟨p,p',xs,rfl,rfl,hne,h1,h2,f,q⟩:=h
 cases rx
 cases ry
 obtain⟨i1,v1,m1,_⟩:=I.tuple h1
 obtain⟨i2,v2,m2,_⟩:=I.tuple h2
 have n1:=v1.length
 have n2:=v2.length
 have main:=SeqAt.RcAt.tuples (A:=X.A) (e:=fun _=>true) m1 m2 (by lia) (fun j a b=>Vp v1 v2 f j a b)
 have eb:((uT (min i1.toArray.size i2.toArray.size)).all (fun _=>true) && i1.toArray.size == i2.toArray.size)=true:=by
  rw[show(uT (min i1.toArray.size i2.toArray.size)).all (fun _=>true)=true from u9.mpr fun _ _=>rfl]
  simp
  lia
 rw[eb]at main
 exact main _ _ _ _ ⟨.bl true,H,I,rfl,q⟩
theorem Y1{k:Nat}(hr:Room k X.A):jOp X (compareOp .Eq) (Jx X.K):=⟨zcg hr.units⟩
end
section
variable{X:Cx}{Ch:Addr}{x n z:Str}{i j k:Nat}{np hpos tpos pz spos:Pos}{b0:Stmt}{suite:List Stmt}{th:Addr->Obj->TS}{ps:List Str}{sp:Sp}{y:Str}{p cpos:Pos}{a:Expr}{as:List Expr}{t:TA}
end
abbrev Cx.plusP(X:Cx)(pins:List (Addr×Obj)):Cx:={ X with pn:=X.pn++pins }
abbrev Cx.inTry(X:Cx)(pins:List (Addr×Obj))(E:XK):Cx:={ X with pn:=X.pn++pins,xe:=fun u s'=>∃pins' σ',Air (X.plusP pins) pins' σ' E u s' }
section
variable{X:Cx}{Ch:Addr}{x:Str}{np hpos tpos:Pos}{b0:Stmt}{suite body:List Stmt}{th:Addr->Obj->TS}{tb:XK->TS}
theorem Inv.toTry{pins:List (Addr×Obj)}{σ:St}{H:Hp}{s:Shared}{E:XK}(I:Inv X pins σ H s):Inv (X.inTry pins E) [] σ H s :=
 ⟨⟨I.ok.mod,I.ok.kind,I.ok.glob,I.ok.blt,I.ok.above,I.ok.inj,I.ok.has,I.ok.cab,I.ok.hd,I.ok.frames,I.ok.stk,I.ok.exf,I.ok.bs,I.ok.bsz,I.ok.noex,I.ok.exfs,I.ok.funs,I.ok.frf⟩,I.os,I.bare,I.base,I.loc,I.cell,I.free,I.freeC,fun q hq=>I.pin q (by simpa using hq),I.hok,I.len⟩
theorem Inv.ofTry{pins:List (Addr×Obj)}{σ:St}{H:Hp}{s:Shared}{E:XK}(ok:X.Ok)(I:Inv (X.inTry pins E) [] σ H s):Inv X pins σ H s :=
 ⟨ok,I.os,I.bare,I.base,I.loc,I.cell,I.free,I.freeC,fun q hq=>I.pin q (by simpa using hq),I.hok,I.len⟩
theorem Inv.ofPlus{pins pins':List (Addr×Obj)}{σ:St}{H:Hp}{s:Shared}(ok:X.Ok)(I:Inv (X.plusP pins) pins' σ H s):Inv X (pins++pins') σ H s :=
 ⟨ok,I.os,I.bare,I.base,I.loc,I.cell,I.free,I.freeC,fun q hq=>I.pin q (by simpa using hq),I.hok,I.len⟩
theorem Inv.few{pins pins':List (Addr×Obj)}{σ:St}{H:Hp}{s:Shared}(I:Inv X (pins++pins') σ H s):Inv X pins σ H s :=
 ⟨I.ok,I.os,I.bare,I.base,I.loc,I.cell,I.free,I.freeC,fun q hq=>I.pin q (by rw[<- Uj];exact Ui _ hq),I.hok,I.len⟩
theorem Jy{pins:List (Addr×Obj)}{E:XK}:yG (CXf X.prog X.w) (X.inTry pins E) E:=fun pins' σ H1 s1 u s2 I h =>
 ⟨pins',σ,Vc (X:=X.plusP pins) rfl rfl ⟨⟨I.ok.mod,I.ok.kind,I.ok.glob,I.ok.blt,I.ok.above,I.ok.inj,I.ok.has,I.ok.cab,I.ok.hd,I.ok.frames,I.ok.stk,I.ok.exf,I.ok.bs,I.ok.bsz,I.ok.noex,I.ok.exfs,I.ok.funs,I.ok.frf⟩,I.os,I.bare,I.base,I.loc,I.cell,I.free,I.freeC,I.pin,I.hok,I.len⟩ h⟩
end
def HB(X:Cx)(hs:List ExceptHandler)(Tk:Ends->XK):Prop:=∀(pins:List (Addr×Obj))(σ:St)(D:Ends)(e:Addr)(C:Value)(dx:Option Addr)(H':Hp)(T:Addr)(s:Shared),Tr s.heap e C dx T .none->Inv X pins σ H' s->H' e=none->H' T=none->X.s₀.heap.objs.size<=T->(∀p∈X.pn++pins,p.1≠T)->Tk D C dx H' ->
 wpAny (model X.prog X.w) X.A (handleBy (.ref e) X.env hs) (SP X pins D) X.xe s
def xN(K:ub)(Ch:Addr)(i n:Nat)(th:Addr->Obj->TS)(Tk:Ends->XK):Ends->XK:=fun D C dx H =>
 (PySem.W.exmOne K C (.ref Ch)=some true/\∀(e:Addr)(oe:Obj)(vs:Array Value)(σ:St),σ.length=n->oe.cls=C->oe.dict=dx->oe.data=.fields vs->vs[2]?=some .none->H e=none->th e oe (D.behind i) (σ.set i (some (.ref e))) H)\/(PySem.W.exmOne K C (.ref Ch)=some false/\Tk D C dx H)
def xNil:Ends->XK:=fun _ _ _ _=>False
section
variable{X:Cx}{Ch:Addr}{x n:Str}{i:Nat}{np hpos tpos:Pos}{b0:Stmt}{suite body:List Stmt}{th:Addr->Obj->TS}{tb:XK->TS}{h0:ExceptHandler}{hs:List ExceptHandler}{Tk:Ends->XK}
theorem zch:HB X [] xNil:=fun _ _ _ _ _ _ _ _ _ _ _ _ _ _ _ h=>False.elim h
theorem zcS(R:HB X hs Tk)(hN:X.N.Nodup)(hi:X.N[i]?=some n)(hg:Gl X x)(hm:X.mg x=some (.ref Ch))(hS:∀e oe,jSs (X.inEx (.ref e) [(e,oe)]) (b0::suite) (th e oe))(hl:X.env.scope.names.lookup n=some .local:=by rfl)(hdb:(x == ("__debug__":Str))=false:=by decide):
  HB X (.ExceptHandler (some (.Name x np)) (some n) (b0::suite) hpos::hs) (xN X.K Ch i X.N.length th Tk):=by
 intro pins σ D e C dx H' T s t J ne nT sT pT h
 obtain⟨oe,vs,g1,g2,g3,g4,g5⟩:=t.ex
 have Jm:Inv (X.inEx (.ref e) []) pins σ H' s:=J.inEx (.ref e) fun q hq=>nomatch hq
 have LT:PySem.W.Looks (model X.prog X.w) s.heap (typeOf (.ref e)) C:=g2 ▸ (PySem.W.Looks.ld g1).andThen .now
 refine wpAny_handleBy_cons (codeAny_handlers_test (xu Jm hg hm ?_ hdb)) (by intro q;cases q)
 rcases h with⟨hex,hth⟩|⟨hex,hn⟩
 ·refine PySem.W.Looks.here (PySem.W.exm_one (K:=X.K) J.kIn LT hex) ?_
  refine codeAny_handlers_suite_as (vm (v:=none) t fun h3 t3 m3=>?_)
  have J3:Inv X pins σ H' { s with heap:=h3 }:=Inv.moved J (m3.mono (fun b z=>nomatch z) fun _ z=>z) fun b hb=>by
   rw[uv.mp hb]
   obtain⟨ot,ts,q1,q2,_⟩:=t.tb
   exact⟨nT,.inr sT,(J.apart q1 q2).1,(J.apart q1 q2).2,pT⟩
  obtain⟨oe3,vs3,a1,a2,a3,a4,a5⟩:=t3.ex
  have ap:=Inv.apart (s:={ s with heap:=h3 }) J3 a1 a4
  have J4:Inv (X.inEx (.ref e) [(e,oe3)]) pins σ H' { s with heap:=h3 }:=J3.inEx (.ref e) fun q hq=>by
   rw[uv.mp hq]
   exact⟨a1,ne,ap.1,fun z=>by
    obtain⟨_,o,ho,nf⟩:=J3.funs.mem z
    have ho':h3.get? e=some o:=ho
    rw[a1]at ho'
    cases ho'
    exact nf vs3 a4,fun v z=>by rw[a4]at z;cases z⟩
  refine vv (X:=X.inEx (.ref e) [(e,oe3)]) (v:=.ref e) J4 hN hi (.inl hl) rfl (fun s4 J5=>?_) (.inr hl)
  refine wpAny_mono ((hS e oe3).out pins s4 _ H' (D.behind i) J5 (hth e oe3 vs3 _ J3.len a2 a3 a4 a5.2 ne)) (fun f s5 q=>?_) fun _ _ z=>False.elim z
  cases f with
  |next =>
   obtain⟨σ',H5,I5,q⟩:=q
   exact xW (I5.outEx J.ok) hN hi hl fun s6 I6=>⟨_,_,I6,q⟩
  |brk =>
   obtain⟨σ',H5,I5,q⟩:=q
   exact xW (I5.outEx J.ok) hN hi hl fun s6 I6=>⟨_,_,I6,q⟩
  |cont =>
   obtain⟨σ',H5,I5,q⟩:=q
   exact xW (I5.outEx J.ok) hN hi hl fun s6 I6=>⟨_,_,I6,q⟩
  |ret w =>
   obtain⟨v,σ',H5,I5,r,q⟩:=q
   exact xW (I5.outEx J.ok) hN hi hl fun s6 I6=>⟨v,_,_,I6,r,q⟩
 ·refine PySem.W.Looks.here (PySem.W.exm_one (K:=X.K) J.kIn LT hex) ?_
  exact R pins σ D e C dx H' T s t J ne nT sT pT hn
theorem Wu{pins:List (Addr×Obj)}{σ:St}{D:Ends}{u:Value}{s':Shared}(hst:X.stack=X.env::X.outer)(hf:X.env.frame=some X.env.locals)(R:HB X hs Tk)
  (h:Air X pins σ (Tk D) u s') :
  wpAny (model X.prog X.w) X.A (noteFrame u X.env) (fun _ s2=>wpAny (model X.prog X.w) X.A (setFlight u none) (fun _ s3=>wpAny (model X.prog X.w) X.A (handleBy u X.env hs) (SP X pins D) X.xe s3) X.xe s2) X.xe s':=by
 obtain⟨e,C,dx,H',k,rfl,I,ne,hk,he,hp,st,hth⟩:=h
 have fr:X.A.frames=some (X.env::X.outer):=hst ▸ I.ok.frames
 have fs:s'.heap.FunFrames X.base (X.env::X.outer):=hst ▸ I.stack
 have pk:∀b,k<=b->∀p∈X.pn++pins,p.1≠b:=fun b hb p q z=>absurd (ux (hp p q) hb) (by rw[z];exact Ub _)
 have two:∀(h1:Heap)(T:Addr)(xs:List Addr),Tr h1 e C dx T (rawInt X.env.locals)->Mv ((X.env::X.outer).filterMap (·.frame)) xs s'.heap h1->(∀b∈xs,H' b=none/\X.s₀.heap.objs.size<=b/\(∀p∈X.pn++pins,p.1≠b)/\∃o vs,s'.heap.get? b=some o/\o.data=.fields vs)->s'.heap.objs.size<=T ->
   wpAny (model X.prog X.w) X.A (setFlight (.ref e) none) (fun _ s3=>wpAny (model X.prog X.w) X.A (handleBy (.ref e) X.env hs) (SP X pins D) X.xe s3) X.xe { s' with heap:=h1 }:=by
  intro h1 T xs t m hxs hT
  have J1:Inv X pins σ H' { s' with heap:=h1 }:=I.moved (hst ▸ m) fun b hb=>by
   obtain⟨r1,r2,r3,o,vs,r4,r5⟩:=hxs b hb
   exact⟨r1,.inr r2,(I.apart r4 r5).1,(I.apart r4 r5).2,r3⟩
  have nT:H' T=none:=I.hok.fresh hT
  have sT:X.s₀.heap.objs.size<=T:=uy I.sz hT
  have pT:∀p∈X.pn++pins,p.1≠T:=fun p q z=>absurd (ux (uq (I.pin p q).1) hT) (by rw[z];exact Ub _)
  refine vm (s:={ s' with heap:=h1 }) (v:=none) t fun h2 t2 m2=>R pins σ D e C dx H' T { s' with heap:=h2 } t2 (Inv.moved (s:={ s' with heap:=h1 }) J1 (m2.mono (fun b z=>nomatch z) fun _ z=>z) fun b hb=>?_) ne nT sT pT hth
  rw[uv.mp hb]
  obtain⟨ot,ts,q1,q2,_⟩:=t.tb
  exact⟨nT,.inr sT,(J1.apart q1 q2).1,(J1.apart q1 q2).2,pT⟩
 rcases st with⟨oe,vs,h1,rfl,rfl,h4,h5,h6⟩|⟨T0,t0,n0,s0⟩
 ·refine jq fr fs hf h1 h4 h5 h6 fun h' T hs t m=>two h' T [e] t m (fun b hb=>?_) hs
  rw[uv.mp hb]
  exact⟨ne,uy hk he,pk e he,oe,vs,h1,h4⟩
 ·refine ZM fr fs hf t0 fun h' T hs t m=>two h' T [e,T0] t m (fun b hb=>?_) hs
  rcases uu.mp hb with r|hb
  ·rw[r]
   obtain⟨oe,vs,q1,_,_,q4,_⟩:=t0.ex
   exact⟨ne,uy hk he,pk e he,oe,vs,q1,q4⟩
  ·rw[uv.mp hb]
   obtain⟨ot,ts,q1,q2,_⟩:=t0.tb
   exact⟨n0,uy hk s0,pk T0 s0,ot,ts,q1,q2⟩
def zcT(Tk:Ends->XK)(tb:XK->TS):TS:=fun D σ H=>tb (Tk D) D σ H
theorem zaj(hb:∀pins E,jSs (X.inTry pins E) body (tb E))(R:HB X (h0::hs) Tk)(hst:X.stack=X.env::X.outer:=by rfl)(hf:X.env.frame=some X.env.locals:=by rfl):
  jS X (.Try body (h0::hs) [] [] tpos) (zcT Tk tb):=by
 constructor
 intro pins s σ H D I h
 refine wpAny_Try_except (wpAny_mono ((hb pins _).out [] s σ H D I.toTry h) (fun f s1 q=>?_) (fun u s1 q=>?_))
 ·cases f with
  |next =>
   obtain⟨σ',H5,I5,q⟩:=q
   exact wpAny_execs_nil ⟨_,_,I5.ofTry I.ok,q⟩
  |brk =>
   obtain⟨σ',H5,I5,q⟩:=q
   exact⟨_,_,I5.ofTry I.ok,q⟩
  |cont =>
   obtain⟨σ',H5,I5,q⟩:=q
   exact⟨_,_,I5.ofTry I.ok,q⟩
  |ret w =>
   obtain⟨v,σ',H5,I5,r,q⟩:=q
   exact⟨v,_,_,I5.ofTry I.ok,r,q⟩
 ·obtain⟨pins',σ',e,C,dx,H',k,rfl,I5,ne,hk,he,hp,st,hE⟩:=q
  have a:Air X (pins++pins') σ' (Tk D) (.ref e) s1:=⟨e,C,dx,H',k,rfl,I5.ofPlus I.ok,ne,hk,he,fun p q=>hp p (by simpa using q),st,hE⟩
  have g:=Wu hst hf R a
  have sp:∀f s3,SP X (pins++pins') D f s3->SP X pins D f s3:=fun f s3 q=>by
   cases f with
   |next=>obtain⟨σ',H5,I5,q⟩:=q;exact⟨_,_,I5.few,q⟩
   |brk=>obtain⟨σ',H5,I5,q⟩:=q;exact⟨_,_,I5.few,q⟩
   |cont=>obtain⟨σ',H5,I5,q⟩:=q;exact⟨_,_,I5.few,q⟩
   |ret w=>obtain⟨v,σ',H5,I5,r,q⟩:=q;exact⟨v,_,_,I5.few,r,q⟩
  exact wpAny_mono g (fun _ s2 q=>wpAny_mono q (fun _ s3 q=>wpAny_mono q sp fun _ _ z=>z) fun _ _ z=>z) fun _ _ z=>z
end
theorem zak{X:Cx}{e C:Addr}{oe:Obj}{D:V}{c:Value}(hh:∀pins σ H s,Inv X pins σ H s->s.heap.get? e=some oe)(hx:PySem.W.XIs X.K C)(hD:RelV D c)(hu:∀c',RelV D c'->c'=c):
  jCa X (.builtin "isinstance") (fun xs H Q=>xs=[.ref e,D]/\oe.cls=.ref C/\oe.dict=none/\(∃vs,oe.data=.fields vs)/\∃b,Uz X.K (.ref C) c=some b/\Q (.bl b) H):=by
 constructor
 intro pins s σ H xs us Q I r h
 obtain⟨rfl,hc,hdx,⟨vs,hd⟩,b,hk,q⟩:=h
 obtain⟨u,u',rfl,r1,r2⟩:=vx r
 cases r1
 obtain rfl:=hu _ r2
 have J:PySem.W.InstAt s.heap e oe C none:=⟨hh _ _ _ _ I,hc,by unfold PySem.W.notCls;rw[hd],by rw[hdx];exact True.intro⟩
 exact PySem.W.kia_one (PySem.W.kitx_excO hx) I.kIn J hk (fun z=>nomatch z) fun tk=>⟨.bl b,H,I.tok tk,rfl,q⟩
def DxOk(H:Hp)(oe:Obj):Prop:=oe.dict=none\/∃d fs,oe.dict=some d/\H d=some (XD d fs)
theorem DxOk.same{H H':Hp}{oe:Obj}(h:DxOk H oe)(s:Same H H'):DxOk H' oe:=h.imp id fun⟨d,fs,a,b⟩=>⟨d,fs,a,s _ _ b⟩
theorem yt{X:Cx}{e C:Addr}{oe:Obj}{D:V}{c:Value}(hh:∀pins σ H s,Inv X pins σ H s->s.heap.get? e=some oe)(hx:PySem.W.XIs X.K C)(hD:RelV D c)(hu:∀c',RelV D c'->c'=c):
  jCa X (.builtin "isinstance") (fun xs H Q=>xs=[.ref e,D]/\oe.cls=.ref C/\DxOk H oe/\(∃vs,oe.data=.fields vs)/\∃b,Uz X.K (.ref C) c=some b/\Q (.bl b) H):=by
 constructor
 intro pins s σ H xs us Q I r h
 obtain⟨h1,h2,hd|⟨d,fs,hd,hf⟩,h3⟩:=h
 ·exact(zak hh hx hD hu).out pins s σ H xs us Q I r ⟨h1,h2,hd,h3⟩
 ·exact(zb6 (d:=d) hh hx hD hu).out pins s σ H xs us Q I r ⟨h1,h2,hd,h3.1,⟨fs,hf⟩,h3.2⟩
end L2
namespace GN
open PySem L2 K11
structure Xc where
 nt:Addr
 tw:Addr
 un:Addr
 mi:Addr
 uh:Addr
 la:Addr
 nv:Addr
 go:Addr
 fu:Addr
 fa:Addr
 R:Addr
abbrev Xc.all(c:Xc):List Addr:=[c.nt,c.tw,c.un,c.mi,c.uh,c.la,c.nv,c.go,c.fu,c.fa]
def kitRow(K:ub)(C:Addr)(cs:List Addr)(k:Nat):Bool:=cs.zipIdx.all fun y=>Uz K (.ref C) (.ref y.1) == some (decide (y.2=k))
theorem kitRow.at{K:ub}{C:Addr}{cs:List Addr}{k:Nat}(h:kitRow K C cs k=true)(j:Nat)(D:Addr)(hj:cs[j]?=some D):Uz K (.ref C) (.ref D)=some (decide (j=k)):=by
 unfold kitRow at h
 have m:(D,j)∈cs.zipIdx:=uB (i:=j) (by rw[List.getElem?_zipIdx,hj];simp)
 exact beq_iff_eq.mp (u9.mp h _ m)
structure Xr(K:ub)(c:Xc)(C:Addr)(k:Nat):Prop where
 xi:PySem.W.XIs K C
 kit:kitRow K C c.all k=true
 kR:Uz K (.ref C) (.ref c.R)=some true
 kV:Uz K (.ref C) (.type "ValueError")=some true
structure X65(K:ub)(mg:Str->Option Value)(c:Xc):Prop where
 nt:mg "NoText"=some (.ref c.nt)
 tw:mg "Twice"=some (.ref c.tw)
 un:mg "Unknown"=some (.ref c.un)
 mi:mg "Misfit"=some (.ref c.mi)
 uh:mg "Unheld"=some (.ref c.uh)
 la:mg "Lacking"=some (.ref c.la)
 nv:mg "NoValue"=some (.ref c.nv)
 go:mg "Gone"=some (.ref c.go)
 fu:mg "Full"=some (.ref c.fu)
 fa:mg "Fault"=some (.ref c.fa)
 R:mg "ReuseError"=some (.ref c.R)
 V:mg "ValueError"=none
 xh:Xr K c c.uh 4
 eh:PySem.W.exmOne K (.ref c.uh) (.ref c.uh)=some true
 fh:uA K (.ref c.uh) "name"=some none
 ch:∃f,XCl K c.uh f
theorem zal:bootBuiltins "ValueError"=some (.type "ValueError"):=by decide +kernel
theorem ifT{b:Bool}{A B:Prop}(e:b=true)(h:A):if b=true then A else B:=by rw[if_pos e];exact h
theorem ifF{b:Bool}{A B:Prop}(e:b=false)(h:B):if b=true then A else B:=by rw[if_neg (by rw[e];decide)];exact h
def zaY(K:ub)(c:Xc)(e:Addr)(oe:Obj):Sp:=fun vs H Q _=>∃(k:Nat)(C:Addr),vs=[.ref e]/\k < 10/\Xr K c C k/\oe.cls=.ref C/\DxOk H oe/\(∃ws,oe.data=.fields ws)/\∀H',Same H H'->Q (.bl true) H'
theorem len1{k:Nat}(h:k < 10):((uT 10).filter fun j=>decide (j=k)).length=1:=by
 have a:k=0\/k=1\/k=2\/k=3\/k=4\/k=5\/k=6\/k=7\/k=8\/k=9:=by lia
 rcases a with rfl|rfl|rfl|rfl|rfl|rfl|rfl|rfl|rfl|rfl<;>rfl
section
variable{P:Program}{w:World}{K:ub}{mg:Str->Option Value}{base:Heap}{f R C T:Addr}{fd:FuncData}{c:Xc}
theorem scOne:FnScope ["_law_e","_law_some"] ["_law_e"] (zn sOne):=.ok
theorem zcU:(["_law_e","_law_some","_law_one"]:List Str).Nodup:=by decide +kernel
theorem zci(F:Fun K "_law_one_class" "_law_one_class" sOne f fd)(T:X65 K mg c)(m_isinstance:mg "isinstance"=none)(m_len:mg "len"=none):FnOkH P w K mg base 1 f fd ["_law_e"] (zaY K c):=by
 refine F.byH scOne (fun e oe vs H Q E h=>?_) (fun cdv A outer s H vs Q e oe hr h hn=>?_)
 ·obtain⟨k,C,rfl,_⟩:=h
  rfl
 obtain⟨k,C,rfl,k10,xr,hc,hdx,hda,q⟩:=h
 have xi:=xr.xi
 have hh:∀pins σ H' s',Inv (jw P w K mg base ["_law_e","_law_some"] "_law_one_class" (zn sOne) f cdv A outer s H) pins σ H' s'->s'.heap.get? e=some oe:=fun pins σ H' s' I=>I.base.keep e oe hn.g hn.n hn.f (fun z=>nomatch z)
 refine⟨_,
  (zh (sE 1 scOne.nd (zv (jA4 (zS (yt (D:=.ref c.nt) (c:=.ref c.nt) (C:=C) hh xi rfl (fun _ z=>z)) rfl m_isinstance uK (jA2 (jv 0) (yy (v:=.ref c.nt) rfl T.nt rfl))) (zS (yt (D:=.ref c.tw) (c:=.ref c.tw) (C:=C) hh xi rfl (fun _ z=>z)) rfl m_isinstance uK (jA2 (jv 0) (yy (v:=.ref c.tw) rfl T.tw rfl))) (zS (yt (D:=.ref c.un) (c:=.ref c.un) (C:=C) hh xi rfl (fun _ z=>z)) rfl m_isinstance uK (jA2 (jv 0) (yy (v:=.ref c.un) rfl T.un rfl))) (zS (yt (D:=.ref c.mi) (c:=.ref c.mi) (C:=C) hh xi rfl (fun _ z=>z)) rfl m_isinstance uK (jA2 (jv 0) (yy (v:=.ref c.mi) rfl T.mi rfl))))))
  (zh (sE 1 scOne.nd (zx zZ (jv 1) (zv (jA4 (zS (yt (D:=.ref c.uh) (c:=.ref c.uh) (C:=C) hh xi rfl (fun _ z=>z)) rfl m_isinstance uK (jA2 (jv 0) (yy (v:=.ref c.uh) rfl T.uh rfl))) (zS (yt (D:=.ref c.la) (c:=.ref c.la) (C:=C) hh xi rfl (fun _ z=>z)) rfl m_isinstance uK (jA2 (jv 0) (yy (v:=.ref c.la) rfl T.la rfl))) (zS (yt (D:=.ref c.nv) (c:=.ref c.nv) (C:=C) hh xi rfl (fun _ z=>z)) rfl m_isinstance uK (jA2 (jv 0) (yy (v:=.ref c.nv) rfl T.nv rfl))) (zS (yt (D:=.ref c.go) (c:=.ref c.go) (C:=C) hh xi rfl (fun _ z=>z)) rfl m_isinstance uK (jA2 (jv 0) (yy (v:=.ref c.go) rfl T.go rfl)))))))
  (zh (sE 1 scOne.nd (zx zZ (jv 1) (zv (jA2 (zS (yt (D:=.ref c.fu) (c:=.ref c.fu) (C:=C) hh xi rfl (fun _ z=>z)) rfl m_isinstance uK (jA2 (jv 0) (yy (v:=.ref c.fu) rfl T.fu rfl))) (zS (yt (D:=.ref c.fa) (c:=.ref c.fa) (C:=C) hh xi rfl (fun _ z=>z)) rfl m_isinstance uK (jA2 (jv 0) (yy (v:=.ref c.fa) rfl T.fa rfl)))))))
  (zj (zq (xE (zP zz (jL m_len (VT ["_law_one"] hn.p (jv 1) (fun _ _ _ _ _=>(gN 2 zcU)) (fun _ _ _ _ _=>(ya (zE (jv 2)))) (fun _ _ _ _ _=>(jv 2)))) zk (zY _)) (xE (zS (yt (D:=.ty "ValueError") (c:=.type "ValueError") (C:=C) hh xi rfl (fun _ z=>z)) rfl m_isinstance uK (jA2 (jv 0) (Qt (v:=.ty "ValueError") rfl T.V zal rfl))) (wp (zS (yt (D:=.ref c.R) (c:=.ref c.R) (C:=C) hh xi rfl (fun _ z=>z)) rfl m_isinstance uK (jA2 (jv 0) (yy (v:=.ref c.R) rfl T.R rfl))))))))))),?_⟩
 obtain⟨bs,ebs⟩:∃bs:Nat->Bool,bs=fun j=>decide (j=k):=⟨_,rfl⟩
 have kt:∀(j:Nat)(D:Addr),c.all[j]?=some D->Uz K (.ref C) (.ref D)=some (bs j):=fun j D h=>by rw[ebs];exact kitRow.at xr.kit j D h
 refine⟨_,rfl,rfl,hc,hdx,hda,_,kt 0 _ rfl,_,rfl,rfl,hc,hdx,hda,_,kt 1 _ rfl,_,rfl,rfl,hc,hdx,hda,_,kt 2 _ rfl,_,rfl,rfl,hc,hdx,hda,_,kt 3 _ rfl,sN4,fun p1 h1=>?_⟩
 have s1:=zi (o:=.lst [.bl (bs 0),.bl (bs 1),.bl (bs 2),.bl (bs 3)]) h1
 have t1:=zg (H:=H) (a:=p1) (o:=.lst [.bl (bs 0),.bl (bs 1),.bl (bs 2),.bl (bs 3)])
 show(tSeq _ _:TS) _ _ (upd H p1 (.lst [.bl (bs 0),.bl (bs 1),.bl (bs 2),.bl (bs 3)]))
 generalize upd H p1 (.lst [.bl (bs 0),.bl (bs 1),.bl (bs 2),.bl (bs 3)])=H1 at *
 have dx1:=hdx.same s1
 refine⟨_,rfl,_,rfl,rfl,hc,dx1,hda,_,kt 4 _ rfl,_,rfl,rfl,hc,dx1,hda,_,kt 5 _ rfl,_,rfl,rfl,hc,dx1,hda,_,kt 6 _ rfl,_,rfl,rfl,hc,dx1,hda,_,kt 7 _ rfl,sN4,fun p2 h2=>⟨p1,p2,_,_,rfl,rfl,old h2 t1,zg,sN8,fun p3 h3=>?_⟩⟩
 have s3:=(s1.new (o:=.lst [.bl (bs 4),.bl (bs 5),.bl (bs 6),.bl (bs 7)]) h2).new (o:=.lst [.bl (bs 0),.bl (bs 1),.bl (bs 2),.bl (bs 3),.bl (bs 4),.bl (bs 5),.bl (bs 6),.bl (bs 7)]) h3
 have t3:=zg (H:=upd H1 p2 (.lst [.bl (bs 4),.bl (bs 5),.bl (bs 6),.bl (bs 7)])) (a:=p3) (o:=.lst [.bl (bs 0),.bl (bs 1),.bl (bs 2),.bl (bs 3),.bl (bs 4),.bl (bs 5),.bl (bs 6),.bl (bs 7)])
 show(tSeq _ _:TS) _ _ (upd (upd H1 p2 (.lst [.bl (bs 4),.bl (bs 5),.bl (bs 6),.bl (bs 7)])) p3 (.lst [.bl (bs 0),.bl (bs 1),.bl (bs 2),.bl (bs 3),.bl (bs 4),.bl (bs 5),.bl (bs 6),.bl (bs 7)]))
 generalize upd (upd H1 p2 (.lst [.bl (bs 4),.bl (bs 5),.bl (bs 6),.bl (bs 7)])) p3 (.lst [.bl (bs 0),.bl (bs 1),.bl (bs 2),.bl (bs 3),.bl (bs 4),.bl (bs 5),.bl (bs 6),.bl (bs 7)])=H3 at *
 have dx3:=hdx.same s3
 refine⟨_,rfl,_,rfl,rfl,hc,dx3,hda,_,kt 8 _ rfl,_,rfl,rfl,hc,dx3,hda,_,kt 9 _ rfl,sN2,fun p4 h4=>⟨p3,p4,_,_,rfl,rfl,old h4 t3,zg,sN10,fun p5 h5=>?_⟩⟩
 have s5:=(s3.new (o:=.lst [.bl (bs 8),.bl (bs 9)]) h4).new (o:=.lst ((uT 10).map fun j=>V.bl (bs j))) h5
 obtain⟨H5,hH5⟩:∃H5:Hp,H5=upd (upd H3 p4 (.lst [.bl (bs 8),.bl (bs 9)])) p5 (.lst ((uT 10).map fun j=>V.bl (bs j))):=⟨_,rfl⟩
 have t5:H5 p5=some (.lst ((uT 10).map fun j=>V.bl (bs j))):=by rw[hH5];exact zg
 rw[<- hH5]at s5
 refine⟨_,rfl,p5,rfl,⟨_,SqL.of zg⟩,ym (xs:=(uT 10).map fun j=>V.bl (bs j)) (fun i τ ys H'=>H'=H5/\(∃x,τ=[some (.ref e),some (.ref p5),x])/\ys=((uT i).filter bs).map fun _=>V.bl true) ⟨hH5.symm,⟨none,rfl⟩,rfl⟩ (fun i τ ys H' _ h=>by rw[h.1];exact SqL.of t5) ?_ ?_⟩
 clear hH5
 ·rintro i x τ ys H' hx ⟨rfl,⟨y,rfl⟩,rfl⟩
  rw[uk]at hx
  obtain⟨j,hj,rfl⟩:=uf.mp hx
  have hi:i < 10:=by
   have:=(ug.mp hj).1
   rwa [U6]at this
  rw[tR hi]at hj
  cases hj
  cases c':bs i with
  |false =>
   refine⟨_,rfl,_,rfl,iteF ⟨rfl,⟨_,rfl⟩,?_⟩⟩
   rw[tW,UM,tO,c']
   simp
  |true =>
   refine⟨_,rfl,_,rfl,iteT ⟨_,rfl,?_,rfl,⟨_,rfl⟩,?_⟩⟩
   ·have:=Ut bs (uT i)
    rw[U6]at this
    rw[ua]
    have:sizeLine ≥ 100:=by decide
    lia
   ·rw[tW,UM,tO,c',uj]
    rfl
 ·rintro τ ys H' ⟨rfl,_,rfl⟩ p6 h6
  rw[ua,U6]
  have s6:=s5.new (o:=.lst (((uT 10).filter bs).map fun _=>V.bl true)) h6
  have l1:(((uT 10).filter bs).map fun _=>V.bl true).length=1:=by rw[ua,ebs];exact len1 k10
  have dx6:=hdx.same s6
  refine⟨_,_,rfl,.inl (SqL.of zg),rfl,_,rfl,ifT (by rw[l1];rfl) ?_⟩
  exact⟨_,rfl,rfl,hc,dx6,hda,_,xr.kV,_,rfl,iteT ⟨_,rfl,rfl,hc,dx6,hda,_,xr.kR,q _ s6⟩⟩
theorem Ye:∀{zs:List Str},(∀z∈zs,z.length=1)->(Str.join "" zs).length=zs.length
 |[],_=>rfl
 |[x],h=>h x uP
 |x::y::r,h=>by
  have ih:=Ye (zs:=y::r) fun z hz=>h z (Up _ hz)
  rw[<- xM,Zf,uc,uc,xM,xM,xM,ih,h x uP]
  show 1+(0+(y::r).length)=(y::r).length+1
  lia
theorem Jz{zs:List Str}(h:∀z∈zs,z.length=1):wide "" zs=zs.length:=by
 unfold wide
 have e:∀{l:List Str},(∀z∈l,z.length=1)->(l.map (·.length)).sum=l.length:=by
  intro l
  induction l with
  |nil=>intro _;rfl
  |cons a l ih=>intro h;rw[uY,List.sum_cons,ih fun z hz=>h z (Up _ hz),h a uP,uM];lia
 rw[e h]
 rfl
def JA(K:ub):Sp:=fun vs H Q _=>∃(st:Addr)(B:Nat),vs=[.ref st]/\Sta K H st B/\B+10 < LIM/\∀(H':Hp)(r:Addr)(z:Str)(b:Bool),Kp st H H'->Sta K H' st (B+8)->z.length<=6->H' r=some (.lst [.str z,.bl b])->Q (.ref r) H'
def verd(ds:List Df):Str×Str:=match bad1 ds with
 |none=>("good","")
 |some d=>("unheld",d.g)
theorem none_of{H H':Hp}{r:Addr}(s:Same H H')(h:H' r=none):H r=none:=by
 cases c:H r with
 |none=>rfl
 |some o=>rw[s _ _ c]at h;cases h
def zaZ:Sp:=fun vs H Q _=>∃(p:Addr)(ds:List Df),vs=[.ref p]/\IsCode H ds p/\(ds.map (·.g)).Nodup/\ds.length<=1000/\(∀d∈ds,DfOk (owOf ds) d)/\∀H' r,H r=none->Same H H'->H' r=some (.tup [.str (verd ds).1,.str (verd ds).2])->Q (.ref r) H'
theorem scGot:FnScope ["_law_code_here","_law_said","_law_got_here","_law_e"] ["_law_code_here"] (zn sGot):=.ok
theorem zcj(F:Fun K "_law_got" "_law_got" sGot f fd)(X:X65 K mg c)(GR:Ca P w K mg base (CXf P w) 9 "checked" ["code"] (jD c.uh))(GO:CaH P w K mg base 1 "_law_one_class" ["_law_e"] (zaY K c)):FnOk P w K mg base CX0 10 f fd ["_law_code_here"] zaZ:=by
 refine F.by scGot (fun vs H Q E h=>?_) (fun cdv A outer s H vs Q E hr h=>?_)
 ·obtain⟨p,ds,rfl,_⟩:=h
  rfl
 obtain⟨p,ds,rfl,hC,nd,ln,ok,q⟩:=h
 obtain⟨f1,M1⟩:=X.ch
 have hr1:Room 1 _:=hr.mono (by decide)
 refine⟨_,
  (zh (sE 1 scGot.nd (zv zA))
  (zh (sE 2 scGot.nd zbH)
  (zh (zaj (tb:=fun E=>_) (fun pins E=>zj (sE 2 scGot.nd (w9 GR hr rfl Jy (jA1 (jv 0)))))
   (zcS (i:=3) (th:=fun e oe=>_) zch
    scGot.nd rfl rfl X.uh (fun e oe=>zj (sE 1 scGot.nd (zv (jA2 (QL (e:=e) (oe:=oe) uP M1 X.fh X.xh.xi.hd (jv 3)) (zb5 (e:=e) (oe:=oe) GO (hr1.h _) rfl rfl uP (jA1 (jv 3)))))))))
  (zh (zw (jW.pt (yh (tN (xJ hr) (jv 1) (zv zA)) (yd (zE (xL 1)))))
   (zj (zq (zu (jA2 zo (xL 1))))) zp)
  (zh (zw (jW.pt (yh (tN (xy hr) (jv 1) (zv zA)) (yd (tN zbY (jv 2) xm))))
   (zj (zq (zu (jA2 zo zo)))) zp)
  (zj (zq (zu (jA2 zo zo))))))))),?_⟩
 have sl:=zN
 refine(show ∀(u:TS)(D:Ends),(∀(σ:St)(H3:Hp)(l:Addr)(d:Df),bad1 ds=some d->σ.length=4->σ[1]?=some (some (.ref l))->Same H H3->H3 l=some (.lst [.str d.g,.bl true])->u D σ H3) ->
   (∀(H3:Hp)(l0:Addr),bad1 ds=none->Same H H3->H3 l0=some (.lst [])->u D [some (.ref p),some (.ref l0),some (.bl true),none] H3)->(tSeq _ (tSeq _ (tSeq _ u)):TS) D [some (.ref p),none,none,none] H from ?key) _ _ ?r1 ?r2
 case key =>
  intro u D q1 q2
  refine⟨sN0,fun l0 h0=>?_⟩
  have s0:=zi (o:=.lst []) h0
  have e0:=zg (H:=H) (a:=l0) (o:=.lst [])
  refine⟨_,rfl,p,ds,rfl,hC.keep (.of s0),nd,ln,ok,fun hb H2 s2=>?_,fun d hb d' H2 k2 hd=>?_⟩
  ·exact q2 H2 l0 hb (s0.trans s2) (s2 _ _ e0)
  ·have s2:Same _ H2:=fun b o h=>k2 b o (fun z=>z) h
   refine .inl ⟨X.eh,fun e oe ws σ hσ hc hdx hda hz he=>?_⟩
   have hσ:σ.length=4:=hσ
   refine⟨_,by rw[UD (by lia)],rfl,hc,⟨ws,hda⟩,d',_,_,hdx,hd,rfl,?_⟩
   refine⟨_,by rw[UD (by lia)],⟨ws,hda,hz⟩,4,c.uh,rfl,by decide,X.xh,hc,.inr ⟨d',_,hdx,hd⟩,⟨ws,hda⟩,fun H4 s4=>⟨sN2,fun l hl=>?_⟩⟩
   refine q1 _ _ l d hb (by rw[UJ,UJ,UJ];exact hσ) ?_ (((s0.trans s2).trans s4).new hl) zg
   rw[U1 (by decide),UD (by rw[UJ];lia)]
 case r1 =>
  intro σ H3 l d hb hσ hl s3 e3
  have hv:verd ds=(("unheld":Str),d.g):=by unfold verd;rw[hb]
  rw[hv]at q
  refine⟨_,hl,sN0,fun pe he=>?_⟩
  have o1:=s3.new (o:=.lst []) he
  have e4:=old (o:=.lst []) he e3
  exact⟨_,_,_,rfl,rfl,SqL.of e4,SqL.of zg,_,rfl,ifT rfl ⟨_,hl,l,_,_,_,rfl,rfl,SqL.of e4,aI1,_,rfl,iteT ⟨_,hl,l,_,_,_,rfl,rfl,SqL.of e4,aI0,sN2,fun r hr=>q _ r (none_of o1 hr) (o1.new hr) zg⟩⟩⟩
 case r2 =>
  intro H3 l0 hb s3 e3
  have hv:verd ds=(("good":Str),("":Str)):=by unfold verd;rw[hb]
  rw[hv]at q
  refine⟨_,rfl,sN0,fun pe he=>?_⟩
  have o1:=s3.new (o:=.lst []) he
  have e4:=old (o:=.lst []) he e3
  refine⟨_,_,_,rfl,rfl,SqL.of e4,SqL.of zg,_,rfl,ifF rfl (iteF (nxtC ?_))⟩
  refine⟨_,rfl,sN0,fun pe2 he2=>?_⟩
  exact⟨_,_,_,rfl,rfl,SqL.of (old he2 e4),SqL.of zg,_,rfl,ifT rfl ⟨_,rfl,_,_,rfl,rfl,_,rfl,iteT ⟨sN2,fun r hr=>q _ r (none_of (o1.new he2) hr) ((o1.new he2).new hr) zg⟩⟩⟩
theorem scStem:FnScope ["_law_state","_law_letters","_law_stem_here"] ["_law_state"] (zn VF):=.ok
theorem zck:(["_law_state","_law_letters","_law_stem_here","_law_k"]:List Str).Nodup:=by decide +kernel
theorem zam(F:Fun K "_law_stem" "_law_stem" VF f fd)(GD:Ca P w K mg base CX0 1 "_law_draw" lS4 (yj K))(m_range:mg "range"=none):FnOk P w K mg base CX0 2 f fd ["_law_state"] (JA K):=by
 refine F.by scStem (fun vs H Q E h=>?_) (fun cdv A outer s H vs Q E hr h=>?_)
 ·obtain⟨st,B,rfl,_⟩:=h
  rfl
 obtain⟨st,B,rfl,S0,hB,q⟩:=h
 refine⟨_,
  (zh (sE 1 scStem.nd zo)
  (zh (sE 2 scStem.nd (xg PySem.F.plainAttrs_str PySem.F.slot_str_join PySem.F.type_str_join QE zo (jA1 (zW ["_law_k"] rfl (yc rfl m_range (jA1 (cA GD hr (jA2 (jv 0) zk)))) (fun _ _ _ _ _=>(gN 3 zck)) (fun _ _ _ _ _=>zV) (fun _ _ _ _ _=>(xX Yv (jv 1) (cA GD hr (jA2 (jv 0) zk))))))))
  (zj (zq (zv (jA2 (jv 2) (zP zz (cA GD hr (jA2 (jv 0) zk)) zk (zY _)))))))),?_⟩
 have sl:=zN
 unfold LIM at hB
 have LM:LIM=4611686018427387904:=rfl
 refine⟨rfl,_,rfl,st,7,B,rfl,S0,by lia,by decide,fun H1 r k1 S1 r0 r1=>?_⟩
 refine⟨_,rfl,by lia,by lia,yx (n:=r.toNat) (fun i τ ys H'=>Kp st H H'/\Sta K H' st (B+1+i)/\(∃x,τ=[some (.ref st),some (.str LET),none,x])/\∃zs:List Str,ys=zs.map V.str/\zs.length=i/\∀z∈zs,z.length=1) ⟨k1,S1,⟨none,rfl⟩,[],rfl,rfl,fun z hz=>by cases hz⟩ ?_ ?_⟩
 ·rintro i τ ys H2 hi ⟨k2,S2,⟨x,rfl⟩,zs,rfl,hl,h1⟩
  refine⟨_,rfl,_,rfl,st,26,B+1+i,rfl,S2,by lia,by decide,fun H3 r3 k3 S3 q0 q1=>?_⟩
  refine⟨LET,_,_,rfl,rfl,by rw[Zr];decide,Zq q0 q1,by rw[ua];lia,k2.trans k3,S3,⟨_,rfl⟩,zs++[⟨#[97+r3.toNat]⟩],by simp,by simp[hl],?_⟩
  intro z hz
  rcases uF.mp hz with hz|hz
  ·exact h1 z hz
  ·rw[uv.mp hz]
   rfl
 rintro τ ys H2 ⟨k2,S2,_,zs,rfl,hl,h1⟩ pj hpj
 refine⟨"",pj,zs,rfl,rfl,SqL.of zg,by rw[Jz h1];lia,?_⟩
 have zl:(Str.join "" zs).length<=6:=by rw[Ye h1];lia
 replace k2:=k2.new (o:=.lst (zs.map V.str)) hpj
 replace S2:=(S2.mono (show _<=B+7 by lia)).new hpj (.lst (zs.map V.str))
 generalize upd H2 pj (.lst (zs.map V.str))=H3 at *
 generalize Str.join "" zs=z at *
 refine⟨_,rfl,_,rfl,st,2,B+7,rfl,S2,by lia,by decide,fun H4 r4 k4 S4 _ _=>?_⟩
 exact⟨rfl,sN2,fun wl hw=>q _ wl z _ ((k2.trans k4).new hw) (S4.new hw _) zl zg⟩
end
def Lst(w:List Ev):Prop:=∀i,w[i]?=some .fin->i+1=w.length
theorem Lst.pre{es w:List Ev}(h:Lst w)(n:.fin∉es):Lst (es++w):=by
 intro i hi
 by_cases c:i < es.length
 ·rw[Uh c]at hi
  exact absurd (uB hi) n
 ·rw[Uo (by lia)]at hi
  have:=h _ hi
  rw[uc]
  lia
theorem zcl{ow:Ow}{d:Dd}:.fin∉dE ow d:=by
 intro h
 cases d with
 |num i=>cases h
 |op o a b=>simp[dE]at h
 |mk t ns k=>simp[dE]at h
 |call g ns=>simp[dE]at h
 |fn g ns=>simp[dE]at h
 |ask g ns=>simp[dE]at h
theorem zcm{x:Str}{ns:List Str}{m k:Str}:.fin∉hE x ns m k:=by
 unfold hE
 intro h
 rcases uF.mp h with h|h
 ·rcases uF.mp h with h|h
  ·rcases uF.mp h with h|h
   ·simp at h
   ·split at h<;>simp at h
  ·split at h
   ·simp at h
   ·split at h<;>simp at h
 ·simp at h
mutual
theorem xS{ow:Ow}:∀{b:Bd}{w:List Ev},w∈wB ow b->Lst w
 |.give x,w,h=>by
  rw[wB,uv]at h
  subst h
  intro i hi
  match i,hi with
  |0,hi=>cases hi
  |1,_=>rfl
 |.lt x d b,w,h=>by
  rw[wB]at h
  obtain⟨w1,h1,rfl⟩:=UA.mp h
  exact(xS h1).pre fun z=>(uF.mp z).elim zcl fun z=>by simp at z
 |.hold x y b,w,h=>by
  rw[wB]at h
  obtain⟨w1,h1,rfl⟩:=UA.mp h
  exact(xS h1).pre fun z=>by simp at z
 |.drop x b,w,h=>by
  rw[wB]at h
  obtain⟨w1,h1,rfl⟩:=UA.mp h
  exact(xS h1).pre fun z=>by simp at z
 |.loose x b,w,h=>by
  rw[wB]at h
  obtain⟨w1,h1,rfl⟩:=UA.mp h
  exact(xS h1).pre fun z=>by simp at z
 |.iff x b c,w,h=>by
  rw[wB]at h
  obtain⟨w1,h1,rfl⟩:=UA.mp h
  rcases uF.mp h1 with h1|h1
  ·exact(xS h1).pre fun z=>by simp at z
  ·exact(xS h1).pre fun z=>by simp at z
 |.cs x as,w,h=>by
  rw[wB]at h
  exact JB h
theorem JB{ow:Ow}{x:Str}:∀{as:Arms}{w:List Ev},w∈wA ow x as->Lst w
 |.nil,w,h=>by rw[wA]at h;cases h
 |.cons t ns m k b r,w,h=>by
  rw[wA]at h
  rcases uF.mp h with h|h
  ·obtain⟨w1,h1,rfl⟩:=UA.mp h
   exact(xS h1).pre zcm
  ·exact JB h
end
theorem EvAt.at{H:Hp}:∀{es:List Ev}{ts:List Addr}{i:Nat}{t:Addr},EvAt H es ts->ts[i]?=some t->∃e,es[i]?=some e/\H t=some (.tup (evT e))
 |[],[],i,t,_,h=>by simp at h
 |e::es,a::ts,0,t,⟨h1,_⟩,h=>by cases h;exact⟨e,rfl,h1⟩
 |e::es,a::ts,i+1,t,⟨_,h2⟩,h=>EvAt.at (i:=i) h2 h
def jK:Sp:=fun vs H Q _=>∃(p pp po:Addr)(w:List Ev)(us:List Addr)(ps:List Str)(os:List Bool),vs=[.ref p,.ref pp,.ref po]/\H p=some (.lst (us.map V.ref))/\EvAt H w us/\Lst w/\H pp=some (.tup (ps.map V.str))/\H po=some (.tup (os.map V.bl))/\ps.Nodup/\ps.length=os.length/\ps.length<=1000/\w.length<=4100000/\∀H',Same H H'->Q (.bl (rE w ⟨ps.zip os,[]⟩).isSome) H'
def jM(n:Nat):Sp:=fun vs H Q _=>∃(o od:Addr)(d:Df)(ow:Ow),vs=[.ref o,.ref od]/\IsDf H d o/\OwAt H od ow/\DfOk ow d/\OeB ow d.b/\NeB d.b/\d.b.dp<=n/\n<=400/\d.ps.length<=1000/\∀H',Same H H'->Q (.bl (okB ow d.b d.s0)) H'
structure DfG(ow:Ow)(n:Nat)(d:Df):Prop where
 ok:DfOk ow d
 oe:OeB ow d.b
 ne:NeB d.b
 dp:d.b.dp<=n
 ps:d.ps.length<=1000
def za0(n:Nat):Sp:=fun vs H Q _=>∃(p:Addr)(ds:List Df),vs=[.ref p]/\IsCode H ds p/\(ds.map (·.g)).Nodup/\ds.length<=1000/\n<=400/\(∀d∈ds,DfG (owOf ds) n d)/\∀H' r,H r=none->Same H H'->H' r=some (.tup [.str (verd ds).1,.str (verd ds).2])->Q (.ref r) H'
section
variable{P:Program}{w:World}{K:ub}{mg:Str->Option Value}{base:Heap}{f:Addr}{fd:FuncData}
theorem scWayGood:FnScope ["_law_way","_law_params","_law_modes","_law_hands","_law_tokens","_law_event"] lS16 (zn vQ):=.ok
theorem Y2(F:Fun K "_law_way_good" "_law_way_good" vQ f fd)(GS:Ca P w K mg base CX0 1 "_law_step" lS15 Jv)(m_dict:mg "dict"=none)(m_zip:mg "zip"=none):FnOk P w K mg base CX0 2 f fd lS16 jK:=by
 refine F.by scWayGood (fun vs H Q E h=>?_) (fun cdv A outer s H vs Q E hr h=>?_)
 ·obtain⟨p,pp,po,w,us,ps,os,rfl,_⟩:=h
  rfl
 obtain⟨p,pp,po,w',us,ps,os,rfl,hp,hE,hL,hpp,hpo,nd,ln,l1,lw,q⟩:=h
 refine⟨_,
  (zh (sE 3 scWayGood.nd (Z9 rfl rfl m_dict rfl m_zip (jA2 (jv 1) (jv 2))))
  (zh (sE 4 scWayGood.nd xK)
  (zh (yg PassesOwn.never rfl (zQ (jv 0)) (gN 5 scWayGood.nd)
   (zj (zw (yM (zE (cA GS hr (jA3 (jv 5) (jv 3) (jv 4)))))
    (zj (zq xm)) zp)))
  (zj (zq xm))))),?_⟩
 have sl:=zN
 refine⟨_,rfl,_,rfl,pp,po,ps,os.map V.bl,rfl,.inr (SqT.of hpp),.inr (SqT.of hpo),by rw[ua];exact ln,nd,fun hd hhd=>?_⟩
 rw[Jn]
 refine fun td htd=>?_
 have nt:H td=none:=zO (zi hhd _) htd
 have hne:hd≠td:=fun e=>by rw[<- e,zg]at htd;cases htd
 have s1:=(zi hhd (.dK (em V.bl (ps.zip os)))).new (o:=.dK []) htd
 have d1:=old (o:=.dK []) htd (zg (H:=H) (a:=hd) (o:=.dK (em V.bl (ps.zip os))))
 have d2:=zg (H:=upd H hd (.dK (em V.bl (ps.zip os)))) (a:=td) (o:=.dK [])
 dsimp only
 generalize upd (upd H hd (.dK (em V.bl (ps.zip os)))) td (.dK [])=H1 at *
 have sam:∀{H'},K2 hd td H1 H'->Same H H':=fun k c o h=>k c o (fun e=>by rw[e,hhd]at h;cases h) (fun e=>by rw[e,nt]at h;cases h) (s1 _ _ h)
 have el:=hE.len
 have zl:(ps.zip os).length<=1000:=by rw[tV];lia
 refine⟨_,rfl,p,rfl,⟨_,SqL.of (s1 _ _ hp)⟩,yJ (xs:=us.map V.ref) (fun i σ H'=>∃(y:Option V)(s:Hs),σ=[some (.ref p),some (.ref pp),some (.ref po),some (.ref hd),some (.ref td),y]/\K2 hd td H1 H'/\rE (w'.take i) ⟨ps.zip os,[]⟩=some s/\tokP s/\s.ns.length<=1000+i/\s.ts.length<=i/\((∀j,i=j+1->w'[j]?≠some .fin)->H' hd=some (.dK (em V.bl s.ns))/\H' td=some (.dK (em V.int s.ts)))) ⟨none,⟨ps.zip os,[]⟩,rfl,K2.refl,rfl,(fun x hx=>by cases hx),zl,ui _,fun _=>⟨d1,d2⟩⟩ (fun i σ H' _ h=>?_) ?_ ?_⟩
 ·obtain⟨_,_,_,k,_⟩:=h
  exact SqL.of (sam k _ _ hp)
 ·rintro i v σ H2 hv ⟨y,s2,rfl,k2,e2,t2,n2,m2,hd2⟩
  rw[uk]at hv
  obtain⟨t,ht,rfl⟩:=uf.mp hv
  obtain⟨e,he,hHt⟩:=hE.at ht
  have hi:i < w'.length:=(ug.mp he).1
  obtain⟨g1,g2⟩:=hd2 fun j ej hj=>by
   have:=hL _ hj
   lia
  have tk:w'.take (i+1)=w'.take i++[e]:=by rw[Ua,he];rfl
  have er:rE (w'.take (i+1)) ⟨ps.zip os,[]⟩=stE e s2:=by
   rw[tk,yZ,e2]
   exact yT _
  refine⟨_,rfl,_,rfl,_,rfl,t,hd,td,e,s2,rfl,sam k2 _ _ hHt,g1,g2,hne,t2,by lia,by lia,fun H3 s3 es k3 hd3=>⟨_,rfl,?_⟩,fun H3 es k3=>⟨_,rfl,?_⟩⟩
  ·obtain⟨t3,n3,m3⟩:=zce es t2
   refine iteF (nxtC ⟨_,s3,rfl,k2.trans k3,by rw[er,es],t3,by lia,by lia,fun hj=>hd3 fun z=>?_⟩)
   exact hj i rfl (by rw[he,z])
  ·refine iteT ?_
   have ew:rE w' ⟨ps.zip os,[]⟩=none:=by
    rw[<- Ug (i+1) w',yZ,er,es]
    rfl
   rw[ew]at q
   exact q _ (sam (k2.trans k3))
 ·rintro σ H2 ⟨y,s2,rfl,k2,e2,_⟩
  rw[ua,<- el,Us]at e2
  rw[e2]at q
  exact q _ (sam k2)
theorem scDefGood:FnScope ["_law_one","_law_owns","_law_way"] lS24 (zn vR):=.ok
theorem Y3{n:Nat}(F:Fun K "_law_def_good" "_law_def_good" vR f fd)(GW:Ca P w K mg base CX0 (3+n) "_law_ways" lS6 (vX n))(GG:Ca P w K mg base CX0 2 "_law_way_good" lS16 jK):FnOk P w K mg base CX0 (3+n+1) f fd lS24 (jM n):=by
 refine F.by scDefGood (fun vs H Q E h=>?_) (fun cdv A outer s H vs Q E hr h=>?_)
 ·obtain⟨o,od,d,ow,rfl,_⟩:=h
  rfl
 obtain⟨o,od,d,ow,rfl,⟨pp,po,pb,h1,h2,h3,h4⟩,hO,hok,hoe,hne,hd,hn,hp,q⟩:=h
 have hr2:Room 2 _:=hr.mono (by lia)
 refine⟨_,
  (zh (yg PassesOwn.never rfl (zQ (cA GW hr (jA2 (xT 0) (jv 1)))) (gN 2 scDefGood.nd)
   (zj (zw (yM (zE (cA GG hr2 (jA3 (jv 2) (xT 0) (xT 0)))))
    (zj (zq xm)) zp)))
  (zj (zq xm))),?_⟩
 have sl:=zN
 have e0:okB ow d.b d.s0=good (wB ow d.b) d.s0:=yL hne
 rw[e0]at q
 have hsz:=hok.sz
 refine⟨_,rfl,ixT h1 aI3 ⟨_,rfl,pb,od,d.b,ow,rfl,h4,hok.ok,hoe,hO,hd,hn,by lia,fun H1 r1 ts s1 L1 W1 S1=>?_⟩⟩
 have wl:=W1.len
 refine⟨r1,rfl,⟨_,SqL.of L1⟩,yJ (xs:=ts.map V.ref) (fun i σ H'=>∃(y:Option V),σ=[some (.ref o),some (.ref od),y]/\Same H1 H'/\good ((wB ow d.b).take i) d.s0=true) ⟨none,rfl,Same.refl _,rfl⟩ (fun i σ H' _ h=>?_) ?_ ?_⟩
 ·obtain⟨_,_,k,_⟩:=h
  exact SqL.of (k _ _ L1)
 ·rintro i v σ H2 hv ⟨y,rfl,s2,g2⟩
  rw[uk]at hv
  obtain⟨t,ht,rfl⟩:=uf.mp hv
  obtain⟨e,us,he,hL,hE⟩:=(W1.keep s2).at ht
  have s02:=s1.trans s2
  have me:=uB he
  have tk:(wB ow d.b).take (i+1)=(wB ow d.b).take i++[e]:=by rw[Ua,he];rfl
  have ell:=S1 e me
  refine⟨_,rfl,_,rfl,ixT (s02 _ _ h1) aI1 ⟨_,rfl,ixT (s02 _ _ h1) aI2 ⟨t,pp,po,e,us,d.ps,d.os,rfl,hL,hE,xS me,s02 _ _ h2,s02 _ _ h3,hok.nd,hok.len,hp,by lia,fun H3 s3=>⟨_,rfl,?_⟩⟩⟩⟩
  have eg:good ((wB ow d.b).take (i+1)) d.s0=(rE e d.s0).isSome:=by
   rw[tk,xR,g2,Bool.true_and]
   exact Bool.and_true _
  cases cg:(rE e ⟨d.ps.zip d.os,[]⟩).isSome with
  |true=>exact iteF (nxtC ⟨_,rfl,s2.trans s3,by rw[eg];exact cg⟩)
  |false =>
   refine iteT ?_
   have ew:good (wB ow d.b) d.s0=false:=by
    rw[<- Ug (i+1) (wB ow d.b),xR,eg,show(rE e d.s0).isSome=false from cg]
    rfl
   rw[ew]at q
   exact q _ (s02.trans s3)
 ·rintro σ H2 ⟨y,rfl,s2,g2⟩
  rw[ua,<- wl,Us]at g2
  rw[g2]at q
  exact q _ (s1.trans s2)
theorem scDue:FnScope ["_law_code_here","_law_owns","_law_one"] ["_law_code_here"] (zn sDue):=.ok
theorem zcn{n:Nat}(F:Fun K "_law_due" "_law_due" sDue f fd)(GD:Ca P w K mg base CX0 (4+n) "_law_def_good" lS24 (jM n)):FnOk P w K mg base CX0 (4+n+1) f fd ["_law_code_here"] (za0 n):=by
 refine F.by scDue (fun vs H Q E h=>?_) (fun cdv A outer s H vs Q E hr h=>?_)
 ·obtain⟨p,ds,rfl,_⟩:=h
  rfl
 obtain⟨p,ds,rfl,⟨v,pd,os,h1,h2,h3⟩,hn,hl,hn4,hG,q⟩:=h
 refine⟨_,
  (zh (sE 1 scDue.nd xK)
  (zh (yg PassesOwn.never rfl (yB (xT 0)) (gN 2 scDue.nd)
   (zj (xZ hr (jv 1) (xT 2) (xT 2))))
  (zh (yg PassesOwn.never rfl (yB (xT 0)) (gN 2 scDue.nd)
   (zj (zw (yM (zE (cA GD hr (jA2 (jv 2) (jv 1)))))
    (zj (zq (zu (jA2 zo (xT 2))))) zp)))
  (zj (zq (zu (jA2 zo zo))))))),?_⟩
 have sl:=zN
 refine(show ∀(u:TS)(D:Ends),(∀(H':Hp)(od:Addr)(y:Option V),Same H H'->OwAt H' od (owOf ds)->u D [some (.ref p),some (.ref od),y] H')->(tSeq _ (tSeq _ u):TS) D [some (.ref p),none,none] H from ?k1) _ _ ?k2
 case k1 =>
  intro u D hU
  refine fun od hod=>?_
  have s1:=zi hod (.dK [])
  have d1:=zg (H:=H) (a:=od) (o:=.dK [])
  dsimp only
  generalize upd H od (.dK [])=H1 at *
  refine⟨_,rfl,ixT (s1 _ _ h1) aI1 ⟨pd,rfl,⟨_,SqT.of (s1 _ _ h2)⟩,xc (xs:=os.map V.ref) (fun i σ H'=>∃(L:List (Str×(List Bool×Addr)))(y:Option V),σ=[some (.ref p),some (.ref od),y]/\Same H H'/\H' od=some (.dK (em (fun q=>V.ref q.2) L))/\L.map (fun x=>(x.1,x.2.1))=owOf (ds.take i)/\∀x∈L,H x.2.2=some (.tup (x.2.1.map V.bl))) ⟨[],none,rfl,s1,d1,rfl,fun x hx=>by cases hx⟩ (fun i σ H' _ h=>?_) ?_ ?_⟩⟩
  ·obtain⟨_,_,_,k,_⟩:=h
   exact SqT.of (k _ _ h2)
  ·rintro i v σ H2 hv ⟨L,y,rfl,s2,d2,eL,hL⟩
   rw[uk]at hv
   obtain⟨o,ho,rfl⟩:=uf.mp hv
   have hi:i < ds.length:=by rw[h3.1];exact(ug.mp ho).1
   obtain⟨d,hd⟩:∃d,ds[i]?=some d:=⟨_,um hi⟩
   obtain⟨pp,po,pb,g1,g2,g3,g4⟩:=h3.2 i d o hd ho
   have tn:ds.take (i+1)=ds.take i++[d]:=by rw[UY,hd];rfl
   have ll:L.length=i:=by
    have:=congrArg U3 eL
    unfold owOf at this
    rw[ua,ua,uX]at this
    lia
   have no:look L d.g=none:=by
    refine XB fun hm=>?_
    have e:L.map (·.1)=(ds.take i).map (·.g):=by
     have:=congrArg (fun l=>l.map (·.1)) eL
     unfold owOf at this
     simp only[UV]at this
     exact this
    rw[e]at hm
    rw[<- Ug (i+1) ds,uj,tn,uj,UG,UG]at hn
    exact hn.1.2.2 _ hm _ (by simp) rfl
   refine⟨_,rfl,ixT (s2 _ _ g1) aI2 ⟨_,rfl,_,rfl,ixT (s2 _ _ g1) aI0 ⟨od,_,rfl,DPut.k (k:=.inr d.g) d2 (by rw[xP];lia),?_⟩⟩⟩
   have ep:=we (fun q:List Bool×Addr=>V.ref q.2) (a:=(d.os,po)) no
   refine⟨L++[(d.g,(d.os,po))],_,rfl,s2.put hod,by rw[zg];exact congrArg (fun z=>some (HO.dK z)) ep,?_,fun x hx=>?_⟩
   ·rw[uj,eL,tn]
    unfold owOf
    rw[uj]
    rfl
   ·rcases uF.mp hx with z|z
    ·exact hL x z
    ·rw[uv.mp z]
     exact g3
  ·rintro σ H2 ⟨L,y,rfl,s2,d2,eL,hL⟩
   rw[ua,<- h3.1,uV (ui _)]at eL
   refine hU _ od y s2 ⟨_,d2,fun g bs hb=>?_⟩
   rw[<- eL,vU (fun q:List Bool×Addr=>q.1)]at hb
   obtain⟨a,ha,rfl⟩:=uf.mp hb
   exact⟨a.2,by rw[yn,ha];rfl,s2 _ _ (hL _ (Zx ha))⟩
 case k2 =>
  intro H1 od y0 s1 hO
  refine⟨_,rfl,ixT (s1 _ _ h1) aI1 ⟨pd,rfl,⟨_,SqT.of (s1 _ _ h2)⟩,xc (xs:=os.map V.ref) (fun i σ H'=>∃(y:Option V),σ=[some (.ref p),some (.ref od),y]/\Same H1 H'/\∀d∈ds.take i,okB (owOf ds) d.b d.s0=true) ⟨_,rfl,Same.refl _,fun d hd=>by simp at hd⟩ (fun i σ H' _ h=>?_) ?_ ?_⟩⟩
  ·obtain⟨_,_,k,_⟩:=h
   exact SqT.of (k _ _ (s1 _ _ h2))
  ·rintro i v σ H2 hv ⟨y,rfl,s2,g2⟩
   rw[uk]at hv
   obtain⟨o,ho,rfl⟩:=uf.mp hv
   have hi:i < ds.length:=by rw[h3.1];exact(ug.mp ho).1
   obtain⟨d,hd⟩:∃d,ds[i]?=some d:=⟨_,um hi⟩
   have tn:ds.take (i+1)=ds.take i++[d]:=by rw[UY,hd];rfl
   have s02:=s1.trans s2
   have G:=hG d (uB hd)
   have hI:=h3.2 i d o hd ho
   refine⟨_,rfl,_,rfl,o,od,d,owOf ds,rfl,hI.keep (.of s02),hO.same s2,G.ok,G.oe,G.ne,G.dp,hn4,G.ps,fun H3 s3=>⟨_,rfl,?_⟩⟩
   cases cb:okB (owOf ds) d.b d.s0 with
   |true =>
    refine iteF (nxtC ⟨_,rfl,s2.trans s3,fun d' hd'=>?_⟩)
    rw[tn]at hd'
    rcases uF.mp hd' with z|z
    ·exact g2 d' z
    ·rw[uv.mp z];exact cb
   |false =>
    refine iteT ?_
    obtain⟨pp,po,pb,g1,_⟩:=hI
    have ev:verd ds=(("unheld":Str),d.g):=by
     unfold verd bad1
     have e:ds=ds.take i++d::ds.drop (i+1):=by
      have:=Ug (i+1) ds
      rw[tn,Uj]at this
      exact this.symm
     have ef:ds.find? (fun d=>!okB (owOf ds) d.b d.s0)=some d:=by
      conv=>lhs;arg 2;rw[e]
      rw[List.find?_append,tX.mpr (fun d' hd'=>by rw[g2 d' hd'];decide),Option.none_or,List.find?_cons_of_pos (by rw[cb];rfl)]
     rw[ef]
    rw[ev]at q
    exact⟨_,rfl,ixT ((s02.trans s3) _ _ g1) aI0 ⟨sN2,fun pr hpr=>q _ pr (zO (s02.trans s3) hpr) ((s02.trans s3).new hpr) zg⟩⟩
  ·rintro σ H2 ⟨y,rfl,s2,g2⟩
   rw[ua,<- h3.1,uV (ui _)]at g2
   have ev:verd ds=(("good":Str),("":Str)):=by
    unfold verd bad1
    rw[tX.mpr fun d' hd'=>by rw[g2 d' hd'];decide]
   rw[ev]at q
   exact⟨sN2,fun pr hpr=>q _ pr (zO (s1.trans s2) hpr) ((s1.trans s2).new hpr) zg⟩
end
structure Wg where
 z:Str
 b:Bool
 T:List (Str×Nat×Nat)
 D:List (Str×List Bool)
 v:V
 tl:Addr
 dl:Addr
structure WgOk(o:Wg):Prop where
 z:o.z.length<=6
 T:∀t∈o.T,t.2.1<=9
 T0:∃t,o.T[0]?=some t/\t.2.1=0
 T1:∃t∈o.T,t.2.2=1
 T2:∃t∈o.T,t.2.2=2
 Tn:o.T.length<=24
 Dn:o.D.length=3
 D:∀d∈o.D,d.2.length<=9
 Dd:(o.D.map (·.1)).Nodup
def TsAt{α:Type}(R:α->Hp->Addr->Prop)(H:Hp)(l:List α)(ts:List Addr):Prop:=l.length=ts.length/\∀(i:Nat)(a:α)(t:Addr),l[i]?=some a->ts[i]?=some t->R a H t
theorem TsAt.keep{α:Type}{R:α->Hp->Addr->Prop}{H H':Hp}{l:List α}{ts:List Addr}(h:TsAt R H l ts)(k:∀a t,R a H t->R a H' t):TsAt R H' l ts:=⟨h.1,fun i a t h1 h2=>k _ _ (h.2 i a t h1 h2)⟩
theorem TsAt.at{α:Type}{R:α->Hp->Addr->Prop}{H:Hp}{l:List α}{ts:List Addr}{i:Nat}{t:Addr}(h:TsAt R H l ts)(ht:ts[i]?=some t):∃a,l[i]?=some a/\R a H t:=by
 have hi:=(ug.mp ht).1
 have e:l[i]?=some (l[i]'(by rw[h.1];exact hi)):=um _
 exact⟨_,e,h.2 i _ t e ht⟩
theorem TsAt.snoc{α:Type}{R:α->Hp->Addr->Prop}{H:Hp}{l:List α}{ts:List Addr}{a:α}{t:Addr}(h:TsAt R H l ts)(ha:R a H t):TsAt R H (l++[a]) (ts++[t]):=by
 refine⟨by rw[uc,uc,h.1];rfl,fun i x y h1 h2=>?_⟩
 by_cases c:i < l.length
 ·rw[Uh c]at h1
  rw[Uh (by rw[<- h.1];exact c)]at h2
  exact h.2 i x y h1 h2
 ·rw[Uo (by lia)]at h1
  rw[Uo (by rw[<- h.1];lia),<- h.1]at h2
  match hk:i-l.length,h1,h2 with
  |0,h1,h2=>cases h1;cases h2;exact ha
  |n+1,h1,h2=>simp at h1
def tgR(a:Str×Nat×Nat)(H:Hp)(t:Addr):Prop:=H t=some (.tup [.str a.1,.int (a.2.1:Nat),.int (a.2.2:Nat)])
def dfR(a:Str×List Bool)(H:Hp)(t:Addr):Prop:=∃q,H t=some (.tup [.str a.1,.ref q])/\H q=some (.tup (a.2.map V.bl))
def tkR(a:Str×Int)(H:Hp)(t:Addr):Prop:=H t=some (.tup [.str a.1,.int a.2])
theorem tgR.tk{a:Str×Nat×Nat}{H H':Hp}{t:Addr}(k:Tups H H')(h:tgR a H t):tgR a H' t:=k _ _ h
theorem dfR.tk{a:Str×List Bool}{H H':Hp}{t:Addr}(k:Tups H H')(h:dfR a H t):dfR a H' t:=let ⟨q,h1,h2⟩:=h;⟨q,k _ _ h1,k _ _ h2⟩
theorem tkR.tk{a:Str×Int}{H H':Hp}{t:Addr}(k:Tups H H')(h:tkR a H t):tkR a H' t:=k _ _ h
structure WlAt(H:Hp)(wl:Addr)(o:Wg)(sl:Bool)(m:Nat):Prop where
 e:∃(tl dl:Addr)(ts us:List Addr)(v:V),H wl=some (.lst [.str o.z,.bl o.b,.ref tl,.ref dl,.bl sl,.int (m:Nat),o.v])/\H tl=some (.lst (ts.map V.ref))/\TsAt tgR H o.T ts/\H dl=some (.lst (us.map V.ref))/\TsAt dfR H o.D us
 p:∃x y,H wl=some (.lst [.str o.z,.bl o.b,.ref o.tl,.ref o.dl,x,y,o.v])
section
variable{K:ub}{st wl:Addr}{B B':Nat}{H H':Hp}{o:Wg}{sl:Bool}{m:Nat}
theorem WlAt.kp(h:WlAt H wl o sl m)(S:Sta K H st B)(k:Kp st H H'):WlAt H' wl o sl m:=by
 obtain⟨tl,dl,ts,us,v,h1,h2,h3,h4,h5⟩:=h.e
 have t:=k.tups S
 obtain⟨x,y,hp⟩:=h.p
 exact⟨⟨tl,dl,ts,us,v,k.k _ _ (S.neW h1) h1,k.k _ _ (S.neR h2) h2,h3.keep fun _ _ z=>z.tk t,k.k _ _ (S.neR h4) h4,h5.keep fun _ _ z=>z.tk t⟩,x,y,k.k _ _ (S.neW h1) hp⟩
theorem WlAt.tds(h:WlAt H wl o sl m){tl dl:Addr}{x y v:V}(e:H wl=some (.lst [.str o.z,.bl o.b,.ref tl,.ref dl,x,y,v])):tl=o.tl/\dl=o.dl:=by
 obtain⟨x',y',hp⟩:=h.p
 rw[hp]at e
 have e2:=congrArg (fun z=>match z with|some (HO.lst [_,_,V.ref a,V.ref b,_,_,_])=>(a,b)|_=>(0,0)) e
 have e3:(o.tl,o.dl)=(tl,dl):=e2
 injection e3 with e4 e5
 exact⟨e4.symm,e5.symm⟩
end
structure Kw(st wl:Addr)(H H':Hp):Prop where
 k:∀b u,b≠st->b≠wl->H b=some u->H' b=some u
 s:∀a k,H st=some (.lst [.ref a,.int k])->∃k',H' st=some (.lst [.ref a,.int k'])
section
variable{K:ub}{st wl p:Addr}{B B':Nat}{H H' H1 H2:Hp}{o:Wg}{sl:Bool}{m:Nat}{x:HO}
theorem Kw.refl:Kw st wl H H:=⟨fun _ _ _ _ h=>h,fun _ k h=>⟨k,h⟩⟩
theorem Kw.trans(a:Kw st wl H H1)(b:Kw st wl H1 H2):Kw st wl H H2:=⟨fun c u n n' h=>b.k c u n n' (a.k c u n n' h),fun x k h=>let ⟨k',h'⟩:=a.s x k h;b.s x k' h'⟩
theorem Kw.kp(a:Kp st H H1):Kw st wl H H1:=⟨fun c u n _ h=>a.k c u n h,a.s⟩
theorem Kw.of(a:Same H H1):Kw st wl H H1:=.kp (.of a)
theorem Kw.new(a:Kw st wl H H1)(h:H1 p=none):Kw st wl H (upd H1 p x):=a.trans (.of (zi h x))
theorem Kw.tups(k:Kw st wl H H')(h:Sta K H st B)(w:WlAt H wl o sl m):Tups H H':=fun p xs q=>k.k p _ (fun e=>by
  obtain⟨_,_,_,h1,_⟩:=h
  rw[e,h1]at q
  cases q) (fun e=>by
  obtain⟨_,_,_,_,_,h1,_⟩:=w.e
  rw[e,h1]at q
  cases q) q
theorem Sta.putS(S0:Sta K H st B)(hp:H p=none)(ks:∀a k,H st=some (.lst [.ref a,.int k])->∃k',H2 st=some (.lst [.ref a,.int k']))(S2:Sta K H2 st B'):Sta K (upd H2 p x) st B':=by
 obtain⟨a,ns,i,h1,h2,h3,_⟩:=S0
 obtain⟨a',ns',i',g1,g2,g3,g4⟩:=S2
 obtain⟨k',h'⟩:=ks a _ h1
 rw[g1]at h'
 have ea:a'=a:=congrArg (fun o=>match o with|some (HO.lst (V.ref x::_))=>x|_=>0) h'
 subst ea
 have g1':upd H2 p x st=some (.lst [.ref a',.int ((i':Nat):Int)]):=by rw[zm (zr h1 hp)];exact g1
 have key:a'≠p->Sta K (upd H2 p x) st B':=fun n=>by
  refine⟨a',ns',i',g1',g2,?_,g4⟩
  rcases g3 with(g|⟨o,g⟩)|g
  ·exact .inl (.inl (by rw[zm n];exact g))
  ·exact .inl (.inr ⟨o,by rw[zm n];exact g⟩)
  ·exact .inr g
 rcases h3 with(h|⟨_,h⟩)|h
 ·exact key (zr h hp)
 ·exact key (zr h hp)
 ·exact⟨a',ns,i',g1',fun _ _=>.inr h,.inr h,g4⟩
theorem Sta.putW{z:Str}{xs:List V}(S2:Sta K H st B)(hp:H p=some (.lst (.str z::xs))):Sta K (upd H p x) st B:=by
 have n:=S2.neW hp
 obtain⟨a',ns',i',g1,g2,g3,g4⟩:=S2
 refine⟨a',ns',i',by rw[zm (Ne.symm n)];exact g1,g2,?_,g4⟩
 rcases g3 with(g|⟨o,g⟩)|g
 ·refine .inl (.inl ?_)
  rw[zm fun e=>?_]
  ·exact g
  ·rw[e,hp]at g
   cases ns' with
   |nil=>cases g
   |cons a b=>cases g
 ·refine .inl (.inr ⟨o,?_⟩)
  rw[zm fun e=>?_]
  ·exact g
  ·rw[e,hp]at g
   cases g
 ·exact .inr g
theorem Kw.put(a:Kw st wl H H1)(h:H p=none):Kw st wl H (upd H1 p x):=⟨fun b u n n' q=>by rw[zm (zr q h)];exact a.k b u n n' q,fun y k q=>by
 obtain⟨k',h'⟩:=a.s y k q
 exact⟨k',by rw[zm (zr q h)];exact h'⟩⟩
theorem WlAt.put(h:WlAt H wl o sl m)(S:Sta K H st B){i:Nat}{y:V}{sl':Bool}{m':Nat}:(i=4/\y=.bl sl'/\m'=m)\/(i=5/\y=.int (m':Nat)/\sl'=sl)->∃xs,H wl=some (.lst xs)/\ixN xs.length ((i:Nat):Int)=some i/\WlAt (upd H wl (.lst (xs.set i y))) wl o sl' m'/\Sta K (upd H wl (.lst (xs.set i y))) st B/\Kw st wl H (upd H wl (.lst (xs.set i y))):=by
 intro hi
 obtain⟨tl,dl,ts,us,v,h1,h2,h3,h4,h5⟩:=h.e
 obtain⟨et,ed⟩:=h.tds h1
 have n:=S.neW h1
 have nt:tl≠wl:=fun e=>by
  rw[e,h1]at h2
  cases ts with
  |nil=>cases h2
  |cons a b=>cases h2
 have nd:dl≠wl:=fun e=>by
  rw[e,h1]at h4
  cases us with
  |nil=>cases h4
  |cons a b=>cases h4
 have tp:∀x,Tups H (upd H wl (.lst x)):=fun x p xs q=>by
  rw[zm (fun e=>by rw[e,h1]at q;cases q)]
  exact q
 have kw:∀x,Kw st wl H (upd H wl x):=fun x=>⟨fun b u _ nb q=>by rw[zm nb];exact q,fun a k q=>⟨k,by rw[zm (Ne.symm n)];exact q⟩⟩
 refine⟨_,h1,?_,?_,S.putW h1,kw _⟩
 ·rcases hi with⟨rfl,_⟩|⟨rfl,_⟩<;>rfl
 ·rcases hi with⟨rfl,rfl,rfl⟩|⟨rfl,rfl,rfl⟩
  ·exact⟨⟨tl,dl,ts,us,v,zg,by rw[zm nt];exact h2,h3.keep fun _ _ z=>z.tk (tp _),by rw[zm nd];exact h4,h5.keep fun _ _ z=>z.tk (tp _)⟩,_,_,by rw[zg,et,ed];rfl⟩
  ·exact⟨⟨tl,dl,ts,us,v,zg,by rw[zm nt];exact h2,h3.keep fun _ _ z=>z.tk (tp _),by rw[zm nd];exact h4,h5.keep fun _ _ z=>z.tk (tp _)⟩,_,_,by rw[zg,et,ed];rfl⟩
end
structure At where
 p:Addr
 a0:Addr
 a1:Addr
 a2:Addr
 a3:Addr
 a4:Addr
abbrev At.l(A:At):List Addr:=[A.p,A.a0,A.a1,A.a2,A.a3,A.a4]
structure AtS where
 n0:List Str
 n1:List Str
 n2:List Str
 t3:List (Str×Int)
 n4:List Str
structure AtIs(H:Hp)(A:At)(S:AtS):Prop where
 p:H A.p=some (.lst [.ref A.a0,.ref A.a1,.ref A.a2,.ref A.a3,.ref A.a4])
 h0:H A.a0=some (.lst (S.n0.map V.str))
 h1:H A.a1=some (.lst (S.n1.map V.str))
 h2:H A.a2=some (.lst (S.n2.map V.str))
 h3:∃ts,H A.a3=some (.lst (ts.map V.ref))/\TsAt tkR H S.t3 ts
 h4:H A.a4=some (.lst (S.n4.map V.str))
theorem AtIs.same{H H':Hp}{A:At}{S:AtS}(h:AtIs H A S)(s:Same H H'):AtIs H' A S:=⟨s _ _ h.p,s _ _ h.h0,s _ _ h.h1,s _ _ h.h2,let ⟨ts,a,b⟩:=h.h3;⟨ts,s _ _ a,b.keep fun _ _ z=>z.tk (.of s)⟩,s _ _ h.h4⟩
section
variable{K:ub}{st wl p:Addr}{B B':Nat}{H H' H0 H1 H2:Hp}{A:At}{S:AtS}{x:HO}
theorem AtIs.ne(h:AtIs H A S)(T:Sta K H st B):∀c∈A.l,c≠st:=by
 intro c hc
 obtain⟨ts,g,_⟩:=h.h3
 simp only[uu,uD,or_false]at hc
 rcases hc with rfl|rfl|rfl|rfl|rfl|rfl
 ·exact T.neR (ts:=[A.a0,A.a1,A.a2,A.a3,A.a4]) h.p
 ·exact T.neS h.h0
 ·exact T.neS h.h1
 ·exact T.neS h.h2
 ·exact T.neR g
 ·exact T.neS h.h4
theorem AtIs.by(h:AtIs H A S)(k:∀c∈A.l,∀o,H c=some o->H' c=some o)(t:Tups H H'):AtIs H' A S:=⟨k _ (by simp) _ h.p,k _ (by simp) _ h.h0,k _ (by simp) _ h.h1,k _ (by simp) _ h.h2,let ⟨ts,a,b⟩:=h.h3;⟨ts,k _ (by simp) _ a,b.keep fun _ _ z=>z.tk t⟩,k _ (by simp) _ h.h4⟩
theorem AtIs.kp(h:AtIs H A S)(T:Sta K H st B)(k:Kp st H H'):AtIs H' A S:=h.by (fun c hc o q=>k.k _ _ (h.ne T c hc) q) (k.tups T)
structure AtG(st:Addr)(H0 H:Hp)(A:At)(S:AtS):Prop where
 at_:AtIs H A S
 nd:A.l.Nodup
 fr:∀c∈A.l,H0 c=none
 kp:Kp st H0 H
theorem AtG.go(h:AtG st H0 H A S)(T:Sta K H st B)(k:Kp st H H'):AtG st H0 H' A S:=⟨h.at_.kp T k,h.nd,h.fr,h.kp.trans k⟩
end
structure AtS.le(S' S:AtS):Prop where
 l0:S'.n0.length<=S.n0.length
 e1:S'.n1=S.n1
 e2:S'.n2=S.n2
 l3:S'.t3.length<=S.t3.length
 e4:S'.n4=S.n4
theorem AtS.le.refl{S:AtS}:S.le S:=⟨ui _,rfl,rfl,ui _,rfl⟩
theorem AtS.le.trans{S S1 S2:AtS}(a:S2.le S1)(b:S1.le S):S2.le S:=⟨uy a.l0 b.l0,a.e1.trans b.e1,a.e2.trans b.e2,uy a.l3 b.l3,a.e4.trans b.e4⟩
theorem zcV{j n:Nat}(h:j < n):seqIndex? (j:Int) n=some j:=by
 unfold seqIndex?
 simp
 lia
theorem JC{X:Cx}:jMt X "list.pop" WS:=⟨WT⟩
def yu(K:ub):Sp:=fun vs H Q _=>∃(st wl:Addr)(o:Wg)(sl:Bool)(m B:Nat)(i:Int),vs=[.ref st,.ref wl,.int i]/\0 < i/\WlAt H wl o sl m/\Sta K H st B/\B < LIM/\∀H' c,Kp st H H'->Sta K H' st (B+1)->Q (.bl c) H'
structure Ask(K:ub)(st wl:Addr)(o:Wg)(sl:Bool)(m:Nat)(H0 H:Hp)(A:At)(S:AtS)(B:Nat):Prop where
 ok:WgOk o
 s0:∃B0,Sta K H0 st B0
 w:WlAt H0 wl o sl m
 g:AtG st H0 H A S
 s:Sta K H st B
 ne:S.n0++S.n1≠[]->S.n2≠[]
 l0:S.n0.length<=1000
 l1:S.n1.length<=1000
 l3:S.t3.length<=1000
section
variable{K:ub}{st wl:Addr}{o:Wg}{sl:Bool}{m:Nat}{H0 H H':Hp}{A:At}{S S':AtS}{B B':Nat}
theorem Ask.wa(h:Ask K st wl o sl m H0 H A S B):WlAt H wl o sl m:=let ⟨_,s0⟩:=h.s0;h.w.kp s0 h.g.kp
theorem Ask.go(h:Ask K st wl o sl m H0 H A S B)(k:Kp st H H')(s:Sta K H' st B'):Ask K st wl o sl m H0 H' A S B':=⟨h.ok,h.s0,h.w,h.g.go h.s k,s,h.ne,h.l0,h.l1,h.l3⟩
theorem Ask.same(h:Ask K st wl o sl m H0 H A S B)(s:Same H H'):Ask K st wl o sl m H0 H' A S B:=h.go (.of s) (h.s.same s)
theorem Ask.mono(h:Ask K st wl o sl m H0 H A S B)(l:B<=B'):Ask K st wl o sl m H0 H A S B':=⟨h.ok,h.s0,h.w,h.g,h.s.mono l,h.ne,h.l0,h.l1,h.l3⟩
theorem Ask.put0(h:Ask K st wl o sl m H0 H A S B){l:List Str}(hl:l=[]\/S.n0≠[])(hl1:l.length<=1000):Ask K st wl o sl m H0 (upd H A.a0 (.lst (l.map V.str))) A { S with n0:=l } B/\Tups H (upd H A.a0 (.lst (l.map V.str))):=by
 obtain⟨B0,s0⟩:=h.s0
 have f0:H0 A.a0=none:=h.g.fr _ (by simp)
 have nd:=h.g.nd
 simp only[At.l,Ur,uu,uD,or_false,not_or]at nd
 obtain⟨⟨p0,p1,p2,p3,p4⟩,⟨q1,q2,q3,q4⟩,_⟩:=nd
 have t:Tups H (upd H A.a0 (.lst (l.map V.str))):=fun p xs q=>by
  rw[zm fun e=>by rw[e,h.g.at_.h0]at q;cases q]
  exact q
 have a:=h.g.at_
 obtain⟨ts,a3,a3'⟩:=a.h3
 refine⟨⟨h.ok,h.s0,h.w,⟨⟨?_,zg,?_,?_,⟨ts,?_,a3'.keep fun _ _ z=>z.tk t⟩,?_⟩,h.g.nd,h.g.fr,h.g.kp.put f0⟩,s0.put f0 h.g.kp h.s,fun z=>h.ne fun e=>?_,hl1,h.l1,h.l3⟩,t⟩
 ·rw[zm p0];exact a.p
 ·rw[zm (Ne.symm q1)];exact a.h1
 ·rw[zm (Ne.symm q2)];exact a.h2
 ·rw[zm (Ne.symm q3)];exact a3
 ·rw[zm (Ne.symm q4)];exact a.h4
 ·obtain⟨e1,e2⟩:=Uq.mp e
  rcases hl with rfl|hl
  ·exact z (by rw[e2];rfl)
  ·exact hl e1
theorem Ask.put3(h:Ask K st wl o sl m H0 H A S B){ts:List Addr}{l:List (Str×Int)}(hl:TsAt tkR H l ts)(hl1:l.length<=1000):Ask K st wl o sl m H0 (upd H A.a3 (.lst (ts.map V.ref))) A { S with t3:=l } B/\Tups H (upd H A.a3 (.lst (ts.map V.ref))):=by
 obtain⟨B0,s0⟩:=h.s0
 have f0:H0 A.a3=none:=h.g.fr _ (by simp)
 have nd:=h.g.nd
 simp only[At.l,Ur,uu,uD,or_false,not_or]at nd
 obtain⟨⟨p0,p1,p2,p3,p4⟩,⟨q1,q2,q3,q4⟩,⟨r2,r3,r4⟩,⟨u3,u4⟩,v4,_⟩:=nd
 obtain⟨ts0,a3,a3'⟩:=h.g.at_.h3
 have t:Tups H (upd H A.a3 (.lst (ts.map V.ref))):=fun p xs q=>by
  rw[zm fun e=>by rw[e,a3]at q;cases q]
  exact q
 have a:=h.g.at_
 refine⟨⟨h.ok,h.s0,h.w,⟨⟨?_,?_,?_,?_,⟨ts,zg,hl.keep fun _ _ z=>z.tk t⟩,?_⟩,h.g.nd,h.g.fr,h.g.kp.put f0⟩,s0.put f0 h.g.kp h.s,h.ne,h.l0,h.l1,hl1⟩,t⟩
 ·rw[zm p3];exact a.p
 ·rw[zm q3];exact a.h0
 ·rw[zm r3];exact a.h1
 ·rw[zm u3];exact a.h2
 ·rw[zm (Ne.symm v4)];exact a.h4
end
def spUp(K:ub):Sp:=fun vs H Q _=>∃(st wl:Addr)(o:Wg)(sl:Bool)(m:Nat)(H0:Hp)(A:At)(S:AtS)(B:Nat),vs=[.ref st,.ref A.p,.ref wl]/\Ask K st wl o sl m H0 H A S B/\B+2 < LIM/\S.n2≠[]/\∀H' x S',Ask K st wl o sl m H0 H' A S' (B+2)->Tups H H'->S'.le S->Q (.str x) H'
def ZB(K:ub):Sp:=fun vs H Q _=>∃(st wl:Addr)(o:Wg)(sl:Bool)(m:Nat)(A:At)(S:AtS)(B:Nat),vs=[.ref st,.ref A.p,.ref wl]/\WlAt H wl o sl m/\AtIs H A S/\Sta K H st B/\B+2 < LIM/\S.n2≠[]/\S.n0.length+S.n1.length<=2000/\∀H' x,Kp st H H'->Sta K H' st (B+2)->Q (.str x) H'
def za1(K:ub):Sp:=fun vs H Q _=>∃(st wl:Addr)(o:Wg)(sl:Bool)(m:Nat)(H0:Hp)(A:At)(S:AtS)(B:Nat)(i:Int),vs=[.ref st,.ref A.p,.int i,.ref wl]/\Ask K st wl o sl m H0 H A S B/\B+3 < LIM/\∀H' x S',Ask K st wl o sl m H0 H' A S' (B+3)->Tups H H'->S'.le S->Q (.str x) H'
section
variable{P:Program}{w:World}{K:ub}{mg:Str->Option Value}{base:Heap}{f:Addr}{fd:FuncData}
theorem zan:FnScope lS3 lS3 (zn YG):=.ok
theorem JD(F:Fun K "_law_slips" "_law_slips" YG f fd)(GD:Ca P w K mg base CX0 1 "_law_draw" lS4 (yj K)):FnOk P w K mg base CX0 2 f fd lS3 (yu K):=by
 refine F.by zan (fun vs H Q E h=>?_) (fun cdv A outer s H vs Q E hr h=>?_)
 ·obtain⟨st,wl,o,sl,m,B,i,rfl,_⟩:=h
  rfl
 obtain⟨st,wl,o,sl,m,B,i,rfl,hi,hw,hS,hB,q⟩:=h
 refine⟨_,
  (zj (zq (xE (xL 1) (wp (zP zz (cA GD hr (jA2 (jv 0) (jv 2))) zk (zY _)))))),?_⟩
 obtain⟨tl,dl,ts,us,v,h1,_⟩:=hw.e
 refine⟨_,rfl,ixL h1 aI4 ⟨sl,rfl,?_⟩⟩
 cases sl with
 |false=>exact iteF (q _ _ .refl (hS.mono (by lia)))
 |true=>exact iteT ⟨_,rfl,_,rfl,st,i,B,rfl,hS,hB,hi,fun H1 r k1 S1 _ _=>⟨rfl,q _ _ k1 S1⟩⟩
theorem scUp:FnScope lS1 lS1 (zn sUp):=.ok
theorem zcW(F:Fun K "_law_up" "_law_up" sUp f fd)(GD:Ca P w K mg base CX0 1 "_law_draw" lS4 (yj K))(GS:Ca P w K mg base CX0 2 "_law_slips" lS3 (yu K))(m_len:mg "len"=none):FnOk P w K mg base CX0 3 f fd lS1 (spUp K):=by
 refine F.by scUp (fun vs H Q E h=>?_) (fun cdv A' outer s H vs Q E hr h=>?_)
 ·obtain⟨st,wl,o,sl,m,H0,A,S,B,rfl,_⟩:=h
  rfl
 obtain⟨st,wl,o,sl,m,H0,A,S,B,rfl,hA,hB,hne,q⟩:=h
 have hr1:Room 1 _:=hr.mono (by decide)
 refine⟨_,
  (zh (zw (jW.pt (xD (tN (xy hr) (xL 1) (zv zA)) (yW (zE (cA GS hr (jA3 (jv 0) (jv 2) zk))))))
   (zj (zq (xX yb (xL 1) (cA GD hr1 (jA2 (jv 0) (jL m_len (xL 1))))))) zp)
  (zj (zq (xg uJ PySem.F.slot_list_pop PySem.F.type_list_pop JC (xL 1) (jA1 (cA GD hr1 (jA2 (jv 0) (jL m_len (xL 1))))))))),?_⟩
 have LM:LIM=4611686018427387904:=rfl
 refine(show ∀(u v:TS)(D:Ends),(∀(D':Ends)(H1:Hp),D'.rt=D.rt->Ask K st wl o sl m H0 H1 A S (B+1)->Tups H H1->u D' [some (.ref st),some (.ref A.p),some (.ref wl)] H1)->(∀(H1:Hp),S.n0≠[]->Ask K st wl o sl m H0 H1 A S (B+1)->Tups H H1->v D [some (.ref st),some (.ref A.p),some (.ref wl)] H1)->(tSeq (tIfS _ u yP) v:TS) D [some (.ref st),some (.ref A.p),some (.ref wl)] H from ?k1) _ _ _ ?k2 ?k3
 case k1 =>
  intro u v D hU hV
  refine⟨_,rfl,ixL hA.g.at_.p aI0 ⟨sN0,fun l hl=>?_⟩⟩
  have s1:=zi hl (.lst [])
  have h1:=hA.same s1
  refine⟨A.a0,l,_,rfl,rfl,SqL.of h1.g.at_.h0,SqL.of zg,_,rfl,?_⟩
  generalize upd H l (.lst [])=H1 at *
  cases he:S.n0 with
  |nil=>exact iteT (iteT (hU _ _ rfl (h1.mono (by lia)) (.of s1)))
  |cons x0 xs0 =>
   refine iteF ⟨_,rfl,_,rfl,st,wl,o,sl,m,B,24,rfl,by decide,h1.wa,h1.s,by lia,fun H2 c k2 S2=>⟨c,rfl,?_⟩⟩
   have h2:=h1.go k2 S2
   have t2:=(Tups.of s1).trans (k2.tups h1.s)
   cases c with
   |true=>exact iteT (hU _ _ rfl h2 t2)
   |false=>exact iteF (nxtC (hV _ (by rw[he];intro z;cases z) h2 t2))
 case k2 =>
  intro D' H1 hD h1 t1
  have l2:0 < S.n2.length:=tS.mpr hne
  refine⟨_,rfl,ixL h1.g.at_.p aI2 ⟨_,rfl,_,rfl,ixL h1.g.at_.p aI2 ⟨A.a2,_,rfl,.inl (SqL.of h1.g.at_.h2),st,_,B+1,rfl,h1.s,by lia,by rw[ua];lia,fun H2 r k2 S2 r0 r1=>?_⟩⟩⟩
  obtain⟨i,rfl⟩:∃i:Nat,r=(i:Nat):=⟨r.toNat,by lia⟩
  rw[ua]at r1
  have hi:i < S.n2.length:=by lia
  have h2:=h1.go k2 S2
  refine⟨A.a2,_,_,.str S.n2[i],rfl,rfl,SqL.of h2.g.at_.h2,zJ (by rw[uk,um hi];rfl),?_⟩
  rw[hD]
  exact q _ _ S h2 (t1.trans (k2.tups h1.s)) .refl
 case k3 =>
  intro H1 hn h1 t1
  have l0:0 < S.n0.length:=tS.mpr hn
  refine⟨_,rfl,ixL h1.g.at_.p aI0 ⟨.inl ⟨rfl,_,SqL.of h1.g.at_.h0⟩,_,rfl,_,rfl,ixL h1.g.at_.p aI0 ⟨A.a0,_,rfl,.inl (SqL.of h1.g.at_.h0),st,_,B+1,rfl,h1.s,by lia,by rw[ua];lia,fun H2 r k2 S2 r0 r1=>?_⟩⟩⟩
  obtain⟨i,rfl⟩:∃i:Nat,r=(i:Nat):=⟨r.toNat,by lia⟩
  rw[ua]at r1
  have hi:i < S.n0.length:=by lia
  have h2:=h1.go k2 S2
  refine⟨A.a0,_,_,i,.str S.n0[i],rfl,rfl,h2.g.at_.h0,by lia,by have:=hA.l0;lia,zcV (by rw[ua];exact hi),by rw[uk,um hi];rfl,?_⟩
  rw[<- erm]
  have le:(S.n0.eraseIdx i).length<=S.n0.length:=by rw[tL];split<;>lia
  obtain⟨h3,t3⟩:=h2.put0 (l:=S.n0.eraseIdx i) (.inr hn) (uy le hA.l0)
  exact q _ _ _ h3 ((t1.trans (k2.tups h1.s)).trans t3) ⟨le,rfl,rfl,ui _,rfl⟩
theorem scNear:FnScope ["_law_state","_law_at","_law_world_here","_law_some"] lS1 (zn VG):=.ok
theorem zao(F:Fun K "_law_near" "_law_near" VG f fd)(GD:Ca P w K mg base CX0 1 "_law_draw" lS4 (yj K))(GS:Ca P w K mg base CX0 2 "_law_slips" lS3 (yu K))(m_len:mg "len"=none):FnOk P w K mg base CX0 3 f fd lS1 (ZB K):=by
 refine F.by scNear (fun vs H Q E h=>?_) (fun cdv A' outer s H vs Q E hr h=>?_)
 ·obtain⟨st,wl,o,sl,m,A,S,B,rfl,_⟩:=h
  rfl
 obtain⟨st,wl,o,sl,m,A,S,B,rfl,hw,hA,hS,hB,hne,hl,q⟩:=h
 have hr1:Room 1 _:=hr.mono (by decide)
 refine⟨_,
  (zh (sE 3 scNear.nd (zx zZ (xL 1) (xL 1)))
  (zh (zw (jW.pt (xD (tN (xy hr) (jv 3) (zv zA)) (yW (zE (cA GS hr (jA3 (jv 0) (jv 2) zk))))))
   (zj (sE 3 scNear.nd (xL 1))) zp)
  (zj (zq (xX yb (jv 3) (cA GD hr1 (jA2 (jv 0) (jL m_len (jv 3))))))))),?_⟩
 have LM:LIM=4611686018427387904:=rfl
 have sl':=zN
 refine(show ∀(v:TS)(D:Ends),(∀(H1:Hp)(l:Addr)(ns:List Str),ns≠[]->H1 l=some (.lst (ns.map V.str))->Kp st H H1->Sta K H1 st (B+1)->v D [some (.ref st),some (.ref A.p),some (.ref wl),some (.ref l)] H1)->(tSeq _ (tSeq _ v):TS) D [some (.ref st),some (.ref A.p),some (.ref wl),none] H from ?k1) _ _ ?k2
 case k1 =>
  intro v D hV
  refine⟨_,rfl,ixL hA.p aI0 ⟨_,rfl,ixL hA.p aI1 ⟨A.a0,A.a1,_,_,rfl,rfl,hA.h0,hA.h1,by rw[ua,ua];lia,fun l hl=>?_⟩⟩⟩
  have s1:=zi hl (.lst (S.n0.map V.str++S.n1.map V.str))
  have e1:(upd H l (.lst (S.n0.map V.str++S.n1.map V.str))) l=some (.lst ((S.n0++S.n1).map V.str)):=by rw[zg,uj]
  dsimp only
  generalize upd H l (.lst (S.n0.map V.str++S.n1.map V.str))=H1 at *
  refine⟨_,rfl,sN0,fun l2 hl2=>⟨l,l2,_,rfl,rfl,SqL.of (old hl2 e1),SqL.of zg,_,rfl,?_⟩⟩
  have s2:=s1.new (o:=.lst []) hl2
  have e2:=old (o:=.lst []) hl2 e1
  generalize upd H1 l2 (.lst [])=H2 at *
  have S2:=hS.same s2
  have fin:∀(H3:Hp),Kp st H H3->Sta K H3 st (B+1)->∃(x:V),([some (V.ref st),some (.ref A.p),some (.ref wl),some (.ref l)]:St)[1]?=some (some x)/\x=.ref A.p/\H3 A.p=some (.lst [.ref A.a0,.ref A.a1,.ref A.a2,.ref A.a3,.ref A.a4])/\v D [some (.ref st),some (.ref A.p),some (.ref wl),some (.ref A.a2)] H3:=fun H3 k3 S3=>by
   have h3:=hA.kp hS k3
   exact⟨_,rfl,rfl,h3.p,hV _ A.a2 S.n2 hne h3.h2 k3 S3⟩
  cases he:S.n0++S.n1 with
  |nil =>
   obtain⟨_,_,_,g1,g2⟩:=fin H2 (.of s2) (S2.mono (by lia))
   exact iteT (iteT ⟨_,rfl,ixL g1 aI2 g2⟩)
  |cons x0 xs0 =>
   refine iteF ⟨_,rfl,_,rfl,st,wl,o,sl,m,B,24,rfl,by decide,hw.kp hS (.of s2),S2,by lia,fun H3 c k3 S3=>⟨c,rfl,?_⟩⟩
   have k03:Kp st H H3:=(Kp.of s2).trans k3
   cases c with
   |true =>
    obtain⟨_,_,_,g1,g2⟩:=fin H3 k03 S3
    exact iteT ⟨_,rfl,ixL g1 aI2 g2⟩
   |false =>
    refine iteF (nxtC (hV _ l _ (by rw[he];intro z;cases z) (k3.k _ _ ?_ e2) k03 S3))
    exact S2.neS e2
 case k2 =>
  intro H1 l ns hn e1 k1 S1
  have l0:0 < ns.length:=tS.mpr hn
  have nl:=S1.neS e1
  refine⟨_,rfl,_,rfl,_,rfl,l,_,rfl,.inl (SqL.of e1),st,_,B+1,rfl,S1,by lia,by rw[ua];lia,fun H2 r k2 S2 r0 r1=>?_⟩
  obtain⟨i,rfl⟩:∃i:Nat,r=(i:Nat):=⟨r.toNat,by lia⟩
  rw[ua]at r1
  have hi:i < ns.length:=by lia
  exact⟨l,_,_,.str ns[i],rfl,rfl,SqL.of (k2.k _ _ nl e1),zJ (by rw[uk,um hi];rfl),q _ _ (k1.trans k2) S2⟩
theorem scTok:FnScope ["_law_state","_law_at","_law_size","_law_world_here","_law_some","_law_one"] lS11 (zn sTok):=.ok
theorem TsAt.er{α:Type}{R:α->Hp->Addr->Prop}{H:Hp}{l:List α}{ts:List Addr}(h:TsAt R H l ts)(j:Nat):TsAt R H (l.eraseIdx j) (ts.eraseIdx j):=by
 refine⟨by rw[tL,tL,h.1],fun i a t h1 h2=>?_⟩
 rw[List.getElem?_eraseIdx]at h1 h2
 split at h1
 ·rename_i c
  rw[if_pos c]at h2
  exact h.2 _ _ _ h1 h2
 ·rename_i c
  rw[if_neg c]at h2
  exact h.2 _ _ _ h1 h2
theorem TsAt.mem{α:Type}{R:α->Hp->Addr->Prop}{H:Hp}{l:List α}{ts:List Addr}{t:Addr}(h:TsAt R H l ts)(ht:t∈ts):∃a,R a H t:=by
 obtain⟨i,hi⟩:=tK ht
 obtain⟨a,_,ha⟩:=h.at hi
 exact⟨a,ha⟩
theorem zco(F:Fun K "_law_token" "_law_token" sTok f fd)(GD:Ca P w K mg base CX0 1 "_law_draw" lS4 (yj K))(GS:Ca P w K mg base CX0 2 "_law_slips" lS3 (yu K))(m_len:mg "len"=none)(m_list:mg "list"=none):FnOk P w K mg base CX0 3 f fd lS11 (za1 K):=by
 refine F.by scTok (fun vs H Q E h=>?_) (fun cdv A' outer s H vs Q E hr h=>?_)
 ·obtain⟨st,wl,o,sl,m,H0,A,S,B,i,rfl,_⟩:=h
  rfl
 obtain⟨st,wl,o,sl,m,H0,A,S,B,sz,rfl,hA,hB,q⟩:=h
 have hr1:Room 1 _:=hr.mono (by decide)
 refine⟨_,
  (zh (ZK [5] [] (i:=4) scTok.nd rfl (Or.inl rfl) rfl (zQ (xL 1)) (fun _ _ _ _ _=>(gN 5 scTok.nd)) (fun _ _ _ _ _=>(ya (tN zz (xn (wb K) (jv 5) zk (fun _ _=>rfl)) (jv 2)))) (fun _ _ _ _ _=>(jv 5)))
  (zh (zw (zE (cA GS hr (jA3 (jv 0) (jv 3) zk)))
   (zj (sE 4 scTok.nd (zK yX rfl m_list UE (jA1 (xL 1))))) zp)
  (zh (zw (tN (xy hr) (jv 4) (zv zA))
   (zj (zq zo)) zp)
  (zh (sE 5 scTok.nd (xX yb (jv 4) (cA GD hr1 (jA2 (jv 0) (jL m_len (jv 4))))))
  (zh (zw (yM (zE (cA GS hr (jA3 (jv 0) (jv 3) zk))))
   (zj (zy (xg uJ PySem.F.slot_list_remove PySem.F.type_list_remove (zad hr) (xL 1) (jA1 (jv 5))))) zp)
  (zj (zq (xT 5)))))))),?_⟩
 have LM:LIM=4611686018427387904:=rfl
 have sl':=zN
 obtain⟨ts,a3,a3'⟩:=hA.g.at_.h3
 have tl:ts.length<=1000:=by rw[<- a3'.1];exact hA.l3
 refine(show ∀(v:TS)(D:Ends),(∀(H1:Hp)(l:Addr)(us:List Addr),(∀t∈us,t∈ts)->H1 l=some (.lst (us.map V.ref))->Kp st H H1->Sta K H1 st (B+1)->v D [some (.ref st),some (.ref A.p),some (.int sz),some (.ref wl),some (.ref l),none] H1)->(tSeq _ (tSeq _ v):TS) D [some (.ref st),some (.ref A.p),some (.int sz),some (.ref wl),none,none] H from ?k1) _ _ ?k2
 case k1 =>
  intro v D hV
  refine⟨_,rfl,ixL hA.g.at_.p aI3 ⟨A.a3,rfl,⟨_,SqL.of a3⟩,ym (xs:=ts.map V.ref) (fun i τ ys H'=>H=H'/\(∃y,τ=[some (.ref st),some (.ref A.p),some (.int sz),some (.ref wl),none,y])/\∃us:List Addr,ys=us.map V.ref/\us.length<=i/\∀t∈us,t∈ts) ⟨rfl,⟨none,rfl⟩,[],rfl,ui _,fun t h=>by cases h⟩ (fun i τ ys H' _ h=>by rw[<- h.1];exact SqL.of a3) ?_ ?_⟩⟩
  ·rintro i v τ ys H' hv ⟨rfl,⟨y,rfl⟩,us,rfl,ul,hu⟩
   rw[uk]at hv
   obtain⟨t,ht,rfl⟩:=uf.mp hv
   obtain⟨a,ha,hR⟩:=a3'.at ht
   have hi:i < ts.length:=(ug.mp ht).1
   refine⟨_,rfl,ixT hR aI1 ⟨_,rfl,rfl,_,rfl,?_⟩⟩
   refine ite2 (fun _=>⟨_,rfl,by rw[ua];lia,rfl,⟨_,rfl⟩,us++[t],by rw[uj];rfl,by rw[uc];show us.length+1<=_;lia,fun x hx=>?_⟩) (fun _=>⟨rfl,⟨_,rfl⟩,us,rfl,by lia,hu⟩)
   rcases uF.mp hx with z|z
   ·exact hu x z
   ·rw[uv.mp z];exact uB ht
  ·rintro τ ys H' ⟨rfl,_,us,rfl,ul,hu⟩ l hl
   have s1:=zi hl (.lst (us.map V.ref))
   have e1:=zg (H:=H) (a:=l) (o:=.lst (us.map V.ref))
   have h1:=hA.same s1
   dsimp only
   generalize upd H l (.lst (us.map V.ref))=H1 at *
   refine⟨_,rfl,_,rfl,st,wl,o,sl,m,B,3,rfl,by decide,h1.wa,h1.s,by lia,fun H2 c k2 S2=>⟨c,rfl,?_⟩⟩
   have h2:=h1.go k2 S2
   have nl:=h1.s.neR e1
   cases c with
   |false=>exact iteF (nxtC (hV _ l us hu (k2.k _ _ nl e1) ((Kp.of s1).trans k2) S2))
   |true =>
    have k02:Kp st H H2:=(Kp.of s1).trans k2
    have b3:H2 A.a3=some (.lst (ts.map V.ref)):=k02.k _ _ (hA.s.neR a3) a3
    exact iteT ⟨_,rfl,ixL h2.g.at_.p aI3 ⟨A.a3,_,rfl,.inl (SqL.of b3),fun l3 hl3=>hV _ l3 ts (fun _ z=>z) zg (k02.new hl3) (S2.new hl3 _)⟩⟩
 case k2 =>
  intro H1 l us hu e1 k1 S1
  have h1:=hA.go k1 S1
  have nl:=S1.neR e1
  refine⟨_,rfl,sN0,fun l2 hl2=>⟨l,l2,_,rfl,rfl,SqL.of (old hl2 e1),SqL.of zg,_,rfl,?_⟩⟩
  have s2:=zi hl2 (.lst [])
  have h2:=h1.same s2
  have e2:=old (o:=.lst []) hl2 e1
  have t2:=(k1.tups hA.s).trans (.of s2)
  have k2:Kp st H (upd H1 l2 (.lst [])):=k1.trans (.of s2)
  generalize upd H1 l2 (.lst [])=H2 at *
  cases he:us with
  |nil=>exact iteT (q _ _ S (h2.mono (by lia)) t2 .refl)
  |cons u0 us0 =>
   refine iteF (nxtC ?_)
   rw[he]at e2
   refine⟨_,rfl,_,rfl,_,rfl,l,_,rfl,.inl (SqL.of e2),st,_,B+1,rfl,h2.s,by lia,by rw[ua];show(0:Int) < ((us0.length+1:Nat):Int);lia,fun H3 r k3 S3 r0 r1=>?_⟩
   obtain⟨i,rfl⟩:∃i:Nat,r=(i:Nat):=⟨r.toNat,by lia⟩
   rw[ua]at r1
   have hi:i < (u0::us0).length:=by lia
   have h3:=h2.go k3 S3
   have k03:=k2.trans k3
   have t3:=t2.trans (k3.tups h2.s)
   have ht:(u0::us0)[i]∈ts:=hu _ (by rw[he];exact UX hi)
   refine⟨l,_,_,.ref (u0::us0)[i],rfl,rfl,SqL.of (k3.k _ _ (h2.s.neR e2) e2),zJ (by rw[uk,um hi];rfl),?_⟩
   generalize (u0::us0)[i]=t at *
   obtain⟨a,ha⟩:=a3'.mem ht
   refine⟨_,rfl,_,rfl,st,wl,o,sl,m,_,16,rfl,by decide,h3.wa,h3.s,by lia,fun H4 c k4 S4=>⟨c,rfl,?_⟩⟩
   have h4:=h3.go k4 S4
   have k04:=k03.trans k4
   have t4:=t3.trans (k4.tups h3.s)
   cases c with
   |true=>exact iteF (nxtC ⟨_,rfl,ixT (t4 _ _ ha) aI0 (q _ _ S h4 t4 .refl)⟩)
   |false =>
    have b4:H4 A.a3=some (.lst (ts.map V.ref)):=k04.k _ _ (hA.s.neR a3) a3
    have b4':TsAt tkR H4 S.t3 ts:=a3'.keep fun _ _ z=>z.tk t4
    refine iteT ⟨_,rfl,ixL h4.g.at_.p aI3 ⟨.inl ⟨rfl,_,SqL.of b4⟩,_,rfl,A.a3,t,_,ts,rfl,rfl,b4,t4 _ _ ha,rfl,ht,fun x hx=>?_,fun j hj=>?_⟩⟩
    ·obtain⟨c,hc⟩:=b4'.mem hx
     exact⟨_,hc,rfl⟩
    ·have er:=b4'.er j
     have le:(S.t3.eraseIdx j).length<=S.t3.length:=by rw[tL];split<;>lia
     obtain⟨h5,t5⟩:=h4.put3 er (uy le hA.l3)
     have t05:=t4.trans t5
     exact⟨_,rfl,ixT (t05 _ _ ha) aI0 (q _ _ _ h5 t05 ⟨ui _,rfl,rfl,le,rfl⟩)⟩
structure DdG(ow:Ow)(d:Dd):Prop where
 n:(yk d).length<=1000
 ok:OkD ow d
 oe:OkE ow d
theorem XG{α:Type}:∀{l:List (Str×α)}{x:Str}{a:α},(l.map (·.1)).Nodup->(x,a)∈l->look l x=some a
 |[],x,a,_,h=>by cases h
 | (y,b)::l,x,a,nd,h=>by
  rw[uY,Ur]at nd
  unfold look
  rw[Uu]
  rcases uu.mp h with e|h
  ·cases e
   rw[decide_eq_true rfl]
   rfl
  ·have:y≠x:=fun e=>nd.1 (by rw[show((y,b).1)=x from e];exact UA.mpr ⟨_,h,rfl⟩)
   rw[decide_eq_false this]
   exact XG nd.2 h
def XH(K:ub):Sp:=fun vs H Q _=>∃(st wl:Addr)(o:Wg)(sl:Bool)(m:Nat)(H0:Hp)(A:At)(S:AtS)(B:Nat),vs=[.ref st,.ref A.p,.ref wl]/\Ask K st wl o sl m H0 H A S B/\B+60 < LIM/\∀H' p d S',Ask K st wl o sl m H0 H' A S' (B+60)->Tups H H'->S'.le S->IsDd H' d p->DdG o.D d->Q (.ref p) H'
theorem Ask.ne2{K:ub}{st wl:Addr}{o:Wg}{sl:Bool}{m:Nat}{H0 H:Hp}{A:At}{S:AtS}{B:Nat}(h:Ask K st wl o sl m H0 H A S B)(n:S.n0≠[]):S.n2≠[]:=h.ne fun e=>n (Uq.mp e).1
theorem scNamed:FnScope ["_law_state","_law_at","_law_world_here","_law_name_here","_law_modes","_law_many","_law_few","_law_some","_law_names","_law_own"] lS1 (zn YH):=.ok
theorem zap:(["_law_state","_law_at","_law_world_here","_law_name_here","_law_modes","_law_many","_law_few","_law_some","_law_names","_law_own","_law_k"]:List Str).Nodup:=by decide +kernel
theorem JE(F:Fun K "_law_named_deed" "_law_named_deed" YH f fd)(GD:Ca P w K mg base CX0 1 "_law_draw" lS4 (yj K))(GS:Ca P w K mg base CX0 2 "_law_slips" lS3 (yu K))(GU:Ca P w K mg base CX0 3 "_law_up" lS1 (spUp K))(GN':Ca P w K mg base CX0 3 "_law_near" lS1 (ZB K))(m_len:mg "len"=none)(m_range:mg "range"=none)(m_tuple:mg "tuple"=none)(m_min:mg "min"=none):FnOk P w K mg base CX0 4 f fd lS1 (XH K):=by
 refine F.by scNamed (fun vs H Q E h=>?_) (fun cdv A' outer s H vs Q E hr h=>?_)
 ·obtain⟨st,wl,o,sl,m,H0,A,S,B,rfl,_⟩:=h
  rfl
 obtain⟨st,wl,o,sl,m,H0,A,S,B,rfl,hA,hB,q⟩:=h
 have hr1:Room 1 _:=hr.mono (by decide)
 have hr2:Room 2 _:=hr.mono (by decide)
 refine⟨_,
  (zh (yz (xX yb (xL 2) (cA GD hr1 (jA2 (jv 0) zk))) (wq rfl (zC (gN 3 scNamed.nd) (zC (gN 4 scNamed.nd) yA))))
  (zh (sE 5 scNamed.nd (jL m_len (ZJ [9] [] rfl (yB (jv 4)) (fun _ _ _ _ _=>(gN 9 scNamed.nd)) (fun _ _ _ _ _=>(ya (zE (jv 9)))) (fun _ _ _ _ _=>(jv 9)))))
  (zh (zw (jW.pt (xD (tN (xy hr) (xL 1) (zv zA)) (yW (jW.pt (yh (tN wm (jv 5) (jL m_len (xL 1))) (yd (yM (zE (cA GS hr2 (jA3 (jv 0) (jv 2) zk))))))))))
   (zj (zq (zu (jA2 zo zk)))) zp)
  (zh (zw (jW.pt (yh (tN zz (jv 5) (jL m_len (xL 1))) (yh (tN W9 (jv 5) (jL m_len (jv 4))) (yd (tN (xy hr) (xL 1) (zv zA))))))
   (zj (zq (zu (jA2 zo zk)))) zp)
  (zh (zw (jW.pt (yh (jW.pt (xD (tN zz (jv 5) (jL m_len (jv 4))) (yW (zE (cA GS hr2 (jA3 (jv 0) (jv 2) zk)))))) (yd (tN zz (cA GD hr1 (jA2 (jv 0) zk)) zk))))
   (zh (sE 6 scNamed.nd (zS (zah rfl) rfl m_min UZ (jA3 (jL m_len (jv 4)) (jL m_len (xL 1)) (cA GD hr1 (jA2 (jv 0) zk)))))
   (zj (zq (zu (jA3 zo (jv 3) (zK zM rfl m_tuple uS (jA1 (zW ["_law_k"] rfl (yc rfl m_range (jA1 (jv 6))) (fun _ _ _ _ _=>(gN 10 zap)) (fun _ _ _ _ _=>zV) (fun _ _ _ _ _=>(cA GU hr (jA3 (jv 0) (jv 1) (jv 2)))))))))))) zp)
  (zh (ZK [9] [] (i:=7) scNamed.nd rfl (Or.inl rfl) rfl (yB (jv 4)) (fun _ _ _ _ _=>(gN 9 scNamed.nd)) (fun _ _ _ _ _=>(ya (zE (jv 9)))) (fun _ _ _ _ _=>(cA GU hr (jA3 (jv 0) (jv 1) (jv 2)))))
  (zh (sE 8 scNamed.nd (zv zA))
  (zh (yg PassesOwn.never rfl (yB (jv 4)) (gN 9 scNamed.nd)
   (zj (zw (zE (jv 9))
    (zj (zy (xg uJ uZ u6 yf (jv 8) (jA1 (j8 uJ PySem.F.slot_list_pop PySem.F.type_list_pop Vb (jv 7))))))
    (zj (zy (xg uJ uZ u6 yf (jv 8) (jA1 (cA GN' hr (jA3 (jv 0) (jv 1) (jv 2))))))))))
  (zj (zq (zu (jA3 zo (jv 3) (zK zM rfl m_tuple uS (jA1 (jv 8))))))))))))))),?_⟩
 have LM:LIM=4611686018427387904:=rfl
 have sl':=zN
 obtain⟨tl,dl,ts,us,v,w1,w2,w3,w4,w5⟩:=hA.wa.e
 have ndl:=hA.s.neR w4
 refine⟨_,rfl,ixL w1 aI3 ⟨_,rfl,st,3,B,rfl,hA.s,by lia,by decide,fun H1 r k1 S1 r0 r1=>?_⟩⟩
 obtain⟨i,rfl⟩:∃i:Nat,r=(i:Nat):=⟨r.toNat,by lia⟩
 have hi:i < us.length:=by rw[<- w5.1,hA.ok.Dn];lia
 have h1:=hA.go k1 S1
 have t1:=k1.tups hA.s
 obtain⟨⟨g,ms⟩,ed,qm,d1,d2⟩:=w5.at (um hi)
 have dm:=uB ed
 have lk:=XG hA.ok.Dd dm
 have lms:ms.length<=9:=hA.ok.D _ dm
 refine⟨dl,_,_,.ref us[i],rfl,rfl,SqL.of (k1.k _ _ ndl w4),zJ (by rw[uk,um hi];rfl),us[i],_,rfl,SqT.of (t1 _ _ d1),rfl,_,_,rfl,_,_,rfl,rfl,?_⟩
 have qm1:=t1 _ _ d2
 have qm0:=d2
 clear w1 w2 w3 w4 w5 d1 d2
 dsimp only at qm1 qm0 lk
 refine⟨_,rfl,qm,rfl,⟨_,SqT.of qm1⟩,wM (xs:=ms.map V.bl) (fun i τ ys H'=>H1=H'/\(∃y,τ=[some (.ref st),some (.ref A.p),some (.ref wl),some (.str g),some (.ref qm),none,none,none,none,y])/\ys.length<=i) ⟨rfl,⟨none,rfl⟩,ui _⟩ (fun i τ ys H' _ h=>by rw[<- h.1];exact SqT.of qm1) ?_ ?_⟩
 ·rintro i v τ ys H' hv ⟨rfl,⟨y,rfl⟩,hy⟩
  rw[uk]at hv
  obtain⟨b,hb,rfl⟩:=uf.mp hv
  have hi:i < ms.length:=(ug.mp hb).1
  refine⟨_,rfl,b,rfl,ite2 (fun _=>⟨_,rfl,by lia,rfl,⟨_,rfl⟩,by rw[uc];show ys.length+1<=_;lia⟩) (fun _=>⟨rfl,⟨_,rfl⟩,by lia⟩)⟩
 rintro τ ys H' ⟨rfl,_,hy⟩ l2 hl2
 rw[ua]at hy
 have s2:=zi hl2 (.lst ys)
 have h2:=h1.same s2
 have t2:=t1.trans (.of s2)
 refine⟨l2,_,rfl,.inl (SqL.of zg),?_⟩
 generalize upd H1 l2 (.lst ys)=H2 at *
 generalize ys.length=many at *
 clear t1 h1 s2 qm1 hl2 S1 k1 hA ys
 dsimp only
 have retn:∀(i:Int)(H3:Hp)(B3:Nat)(S3:AtS),B3<=B+60->Ask K st wl o sl m H0 H3 A S3 B3->Tups H H3->S3.le S->∀p,H3 p=none->Q (.ref p) (upd H3 p (.tup [.str "num",.int i])):=fun i H3 B3 S3 hB3 h3 t3 le p hp =>
  q _ p (.num i) S3 ((h3.same (zi hp _)).mono hB3) (t3.trans (.of (zi hp _))) le zg ⟨uW _,trivial,trivial⟩
 refine(show ∀(u v:TS)(D:Ends),(∀(D':Ends)(H3:Hp),D'.rt=D.rt->Ask K st wl o sl m H0 H3 A S (B+2)->Tups H H3->u D' [some (.ref st),some (.ref A.p),some (.ref wl),some (.str g),some (.ref qm),some (.int (many:Nat)),none,none,none,none] H3)->(∀(H3:Hp),Ask K st wl o sl m H0 H3 A S (B+2)->Tups H H3->S.n2≠[]->v D [some (.ref st),some (.ref A.p),some (.ref wl),some (.str g),some (.ref qm),some (.int (many:Nat)),none,none,none,none] H3)->(tSeq (tIfS _ u yP) v:TS) D [some (.ref st),some (.ref A.p),some (.ref wl),some (.str g),some (.ref qm),some (.int (many:Nat)),none,none,none,none] H2 from ?a1) _ _ _ ?a2 ?a3
 case a2 =>
  intro D' H3 hD h3 t3
  refine⟨sN2,fun p hp=>?_⟩
  rw[hD]
  exact retn 1 H3 _ S (by lia) h3 t3 .refl p hp
 case a1 =>
  intro u v D hU hV
  refine⟨_,rfl,ixL h2.g.at_.p aI2 ⟨sN0,fun l hl=>?_⟩⟩
  have s3:=zi hl (.lst [])
  have h3:=h2.same s3
  have t3:=t2.trans (.of s3)
  refine⟨A.a2,l,_,rfl,rfl,SqL.of h3.g.at_.h2,SqL.of zg,_,rfl,?_⟩
  generalize upd H2 l (.lst [])=H3 at *
  cases he:S.n2 with
  |nil=>exact iteT (iteT (hU _ _ rfl (h3.mono (by lia)) t3))
  |cons x0 xs0 =>
   have n2:S.n2≠[]:=by rw[he];intro z;cases z
   refine iteF ⟨_,rfl,_,rfl,ixL h3.g.at_.p aI0 ⟨A.a0,_,rfl,.inl (SqL.of h3.g.at_.h0),_,_,rfl,rfl,_,rfl,?_⟩⟩
   refine ite2 (fun _=>?_) (fun _=>iteF (nxtC (hV _ (h3.mono (by lia)) t3 n2)))
   refine⟨_,rfl,_,rfl,st,wl,o,sl,m,_,4,rfl,by decide,h3.wa,h3.s,by lia,fun H4 c k4 S4=>⟨c,rfl,?_⟩⟩
   have h4:=h3.go k4 S4
   have t4:=t3.trans (k4.tups h3.s)
   cases c with
   |true=>exact iteF (nxtC (hV _ (h4.mono (by lia)) t4 n2))
   |false=>exact iteT (hU _ _ rfl (h4.mono (by lia)) t4)
 case a3 =>
 clear h2 t2
 clear H2
 intro H2 h2 t2 n2
 refine(show ∀(u v:TS)(D:Ends),(∀(D':Ends)(H3:Hp),D'.rt=D.rt->Ask K st wl o sl m H0 H3 A S (B+2)->Tups H H3->u D' [some (.ref st),some (.ref A.p),some (.ref wl),some (.str g),some (.ref qm),some (.int (many:Nat)),none,none,none,none] H3)->(∀(H3:Hp),Ask K st wl o sl m H0 H3 A S (B+2)->Tups H H3->v D [some (.ref st),some (.ref A.p),some (.ref wl),some (.str g),some (.ref qm),some (.int (many:Nat)),none,none,none,none] H3)->(tSeq (tIfS _ u yP) v:TS) D [some (.ref st),some (.ref A.p),some (.ref wl),some (.str g),some (.ref qm),some (.int (many:Nat)),none,none,none,none] H2 from ?b1) _ _ _ ?b2 ?b3
 case b2 =>
  intro D' H3 hD h3 t3
  refine⟨sN2,fun p hp=>?_⟩
  rw[hD]
  exact retn 2 H3 _ S (by lia) h3 t3 .refl p hp
 case b1 =>
  intro u v D hU hV
  refine⟨_,rfl,_,rfl,ixL h2.g.at_.p aI0 ⟨A.a0,_,rfl,.inl (SqL.of h2.g.at_.h0),rfl,_,rfl,?_⟩⟩
  refine ite2 (fun _=>?_) (fun _=>iteF (nxtC (hV _ h2 t2)))
  refine⟨_,rfl,_,rfl,qm,_,rfl,.inr (SqT.of (t2 _ _ qm0)),_,_,rfl,rfl,_,rfl,?_⟩
  refine ite2 (fun _=>?_) (fun _=>iteF (nxtC (hV _ h2 t2)))
  refine⟨_,rfl,ixL h2.g.at_.p aI1 ⟨sN0,fun l hl=>?_⟩⟩
  have s3:=zi hl (.lst [])
  have h3:=h2.same s3
  have t3:=t2.trans (.of s3)
  refine⟨A.a1,l,_,rfl,rfl,SqL.of h3.g.at_.h1,SqL.of zg,_,rfl,?_⟩
  exact ite2 (fun _=>hU _ _ rfl h3 t3) (fun _=>nxtC (hV _ h3 t3))
 case b3 =>
 clear h2 t2
 clear H2
 intro H2 h2 t2
 refine(show ∀(u v:TS)(D:Ends),(∀(D':Ends)(H3:Hp),D'.rt=D.rt->Ask K st wl o sl m H0 H3 A S (B+4)->Tups H H3->u D' [some (.ref st),some (.ref A.p),some (.ref wl),some (.str g),some (.ref qm),some (.int (many:Nat)),none,none,none,none] H3)->(∀(H3:Hp),Ask K st wl o sl m H0 H3 A S (B+4)->Tups H H3->v D [some (.ref st),some (.ref A.p),some (.ref wl),some (.str g),some (.ref qm),some (.int (many:Nat)),none,none,none,none] H3)->(tSeq (tIfS _ u yP) v:TS) D [some (.ref st),some (.ref A.p),some (.ref wl),some (.str g),some (.ref qm),some (.int (many:Nat)),none,none,none,none] H2 from ?c1) _ _ _ ?c2 ?c3
 case c1 =>
  intro u v D hU hV
  refine⟨_,rfl,_,rfl,qm,_,rfl,.inr (SqT.of (t2 _ _ qm0)),rfl,_,rfl,?_⟩
  refine ite2 (fun _=>?_) (fun _=>?_)
  ·refine iteT ⟨_,rfl,st,2,_,rfl,(h2.mono (show _<=B+3 by lia)).s,by lia,by decide,fun H4 r k4 S4 _ _=>⟨rfl,_,rfl,?_⟩⟩
   have h4:=h2.go k4 S4
   have t4:=t2.trans (k4.tups h2.s)
   exact ite2 (fun _=>hU _ _ rfl h4 t4) (fun _=>nxtC (hV _ h4 t4))
  ·refine⟨_,rfl,_,rfl,st,wl,o,sl,m,_,6,rfl,by decide,h2.wa,h2.s,by lia,fun H3 c k3 S3=>⟨c,rfl,?_⟩⟩
   have h3:=h2.go k3 S3
   have t3:=t2.trans (k3.tups h2.s)
   cases c with
   |false=>exact iteF (iteF (nxtC (hV _ (h3.mono (by lia)) t3)))
   |true =>
    refine iteT ⟨_,rfl,st,2,_,rfl,h3.s,by lia,by decide,fun H4 r k4 S4 _ _=>⟨rfl,_,rfl,?_⟩⟩
    have h4:=h3.go k4 S4
    have t4:=t3.trans (k4.tups h3.s)
    exact ite2 (fun _=>hU _ _ rfl (h4.mono (by lia)) t4) (fun _=>nxtC (hV _ (h4.mono (by lia)) t4))
 case c2 =>
  intro D' H3 hD h3 t3
  refine⟨_,rfl,qm,_,rfl,.inr (SqT.of (t3 _ _ qm0)),_,rfl,ixL h3.g.at_.p aI0 ⟨A.a0,_,rfl,.inl (SqL.of h3.g.at_.h0),_,rfl,st,10,_,rfl,h3.s,by lia,by decide,fun H4 r k4 S4 r0 r1=>⟨_,_,_,rfl,fun few _ f1 f2 f3=>?_⟩⟩⟩
  have h4:=h3.go k4 S4
  have t4:=t3.trans (k4.tups h3.s)
  rw[ua]at f1
  dsimp only
  refine⟨_,rfl,_,rfl,few,rfl,by lia,by lia,yx (n:=few.toNat) (fun i τ ys H'=>(∃y,τ=[some (.ref st),some (.ref A.p),some (.ref wl),some (.str g),some (.ref qm),some (.int (many:Nat)),some (.int few),none,none,none,y])/\∃(S':AtS)(ns:List Str),ys=ns.map V.str/\ns.length=i/\Ask K st wl o sl m H0 H' A S' (B+5+2*i)/\Tups H H'/\S'.le S) ⟨⟨none,rfl⟩,S,[],rfl,rfl,h4,t4,.refl⟩ ?_ ?_⟩
  ·rintro i τ ys H5 hi ⟨⟨y,rfl⟩,S5,ns,rfl,nl,h5,t5,le5⟩
   refine⟨_,rfl,_,rfl,_,rfl,st,wl,o,sl,m,H0,A,S5,_,rfl,h5,by lia,by rw[le5.e2];exact n2,fun H6 x S6 h6 t6 le6=>⟨by rw[ua];lia,⟨_,rfl⟩,S6,ns++[x],by rw[uj];rfl,by rw[uc,nl];rfl,h6.mono (by lia),t5.trans t6,le6.trans le5⟩⟩
  ·rintro τ ys H5 ⟨_,S5,ns,rfl,nl,h5,t5,le5⟩ l6 hl6
   refine⟨l6,_,rfl,.inl ⟨SqL.of zg,fun l7 hl7=>⟨sN3,fun p hp=>?_⟩⟩⟩
   have s7:=((zi hl6 (.lst (ns.map V.str))).new (o:=.tup (ns.map V.str)) hl7).new (o:=.tup [.str "func",.str g,.ref l7]) hp
   rw[hD]
   exact q _ p (.fn g ns) S5 ((h5.same s7).mono (by lia)) (t5.trans (.of s7)) le5 ⟨l7,zg,old hp zg⟩ ⟨by show ns.length<=_;lia,⟨ms,lk⟩,⟨ms,lk,by lia⟩⟩
 case c3 =>
 clear h2 t2
 clear H2
 intro H2 h2 t2
 have lf:=Ut id ms
 refine⟨_,rfl,qm,rfl,⟨_,SqT.of (t2 _ _ qm0)⟩,wM (xs:=ms.map V.bl) (fun i τ ys H'=>(∃y,τ=[some (.ref st),some (.ref A.p),some (.ref wl),some (.str g),some (.ref qm),some (.int (many:Nat)),none,none,none,y])/\∃(S':AtS)(ns:List Str),ys=ns.map V.str/\ns.length=((ms.take i).filter id).length/\Ask K st wl o sl m H0 H' A S' (B+4+2*i)/\Tups H H'/\S'.le S) ⟨⟨none,rfl⟩,S,[],rfl,rfl,h2,t2,.refl⟩ (fun i τ ys H' _ h=>by obtain⟨_,_,_,_,_,_,t,_⟩:=h;exact SqT.of (t _ _ qm0)) ?_ ?_⟩
 ·rintro i v τ ys H5 hv ⟨⟨y,rfl⟩,S5,ns,rfl,nl,h5,t5,le5⟩
  rw[uk]at hv
  obtain⟨b,hb,rfl⟩:=uf.mp hv
  have hi:i < ms.length:=(ug.mp hb).1
  have tk:ms.take (i+1)=ms.take i++[b]:=by rw[Ua,hb];rfl
  have fl:=Ut id (ms.take i)
  rw[uX]at fl
  rw[tk,UM,uc]
  cases b with
  |false=>exact⟨_,rfl,_,rfl,iteF ⟨⟨_,rfl⟩,S5,ns,rfl,nl,h5.mono (by lia),t5,le5⟩⟩
  |true=>exact⟨_,rfl,_,rfl,iteT ⟨_,rfl,_,rfl,_,rfl,st,wl,o,sl,m,H0,A,S5,_,rfl,h5,by lia,by rw[le5.e2];exact n2,fun H6 x S6 h6 t6 le6=>⟨by rw[ua];lia,⟨_,rfl⟩,S6,ns++[x],by rw[uj];rfl,by rw[uc,nl];rfl,h6.mono (by lia),t5.trans t6,le6.trans le5⟩⟩⟩
 rintro τ ys H5 ⟨_,S5,ns,rfl,nl,h5,t5,le5⟩ l6 hl6
 rw[ua,Us]at nl
 rw[ua]at h5
 refine⟨sN0,fun l7 hl7=>?_⟩
 have n6:l6≠l7:=fun e=>by rw[e,zg]at hl7;cases hl7
 have s7:=(zi hl6 (.lst (ns.map V.str))).new (o:=.lst []) hl7
 have f6:H5 l6=none:=hl6
 have f7:H5 l7=none:=zO (zi hl6 _) hl7
 have e6:=old (o:=.lst []) hl7 (zg (H:=H5) (a:=l6) (o:=.lst (ns.map V.str)))
 have e7:=zg (H:=upd H5 l6 (.lst (ns.map V.str))) (a:=l7) (o:=.lst [])
 have kp7:Kp st H5 (upd (upd H5 l6 (.lst (ns.map V.str))) l7 (.lst [])):=.of s7
 have S7:=h5.s.same s7
 dsimp only
 generalize upd (upd H5 l6 (.lst (ns.map V.str))) l7 (.lst [])=H7 at *
 have n6s:=h5.s.ne f6
 have n7s:=h5.s.ne f7
 refine⟨_,rfl,qm,rfl,⟨_,SqT.of (s7 _ _ (t5 _ _ qm0))⟩,xc (xs:=ms.map V.bl) (fun i σ H'=>∃(y:Option V)(ns' xs:List Str),σ=[some (.ref st),some (.ref A.p),some (.ref wl),some (.str g),some (.ref qm),some (.int (many:Nat)),none,some (.ref l6),some (.ref l7),y]/\Kp st H5 H'/\Sta K H' st (B+4+2*ms.length+2*i)/\H' l6=some (.lst (ns'.map V.str))/\ns'.length=((ms.drop i).filter id).length/\H' l7=some (.lst (xs.map V.str))/\xs.length=i) ⟨none,ns,[],rfl,kp7,S7,e6,nl,e7,rfl⟩ (fun i σ H' _ h=>?_) ?_ ?_⟩
 ·obtain⟨_,_,_,_,k,_⟩:=h
  exact SqT.of (k.tups h5.s _ _ (t5 _ _ qm0))
 ·rintro i v σ H8 hv ⟨y,ns8,xs,rfl,k8,S8,e8,nl8,x8,xl⟩
  rw[uk]at hv
  obtain⟨b,hb,rfl⟩:=uf.mp hv
  have hi:i < ms.length:=(ug.mp hb).1
  have dr:ms.drop i=b::ms.drop (i+1):=by rw[List.drop_eq_getElem_cons hi,(ug.mp hb).2]
  rw[dr,tO]at nl8
  cases b with
  |true =>
   rw[if_pos (show id true=true from rfl),uM]at nl8
   refine⟨_,rfl,_,rfl,iteT ⟨_,rfl,.inl ⟨rfl,_,SqL.of x8⟩,_,rfl,.inl ⟨rfl,_,SqL.of e8⟩,l6,_,.str (ns8[ns8.length-1]'(by lia)),rfl,rfl,e8,by rw[ua,uk,um (by lia)];rfl,?_⟩⟩
   have x9:(upd H8 l6 (.lst (ns8.map V.str).dropLast)) l7=some (.lst (xs.map V.str)):=by rw[zm (Ne.symm n6)];exact x8
   refine⟨l7,_,_,rfl,rfl,x9,by rw[ua];lia,?_⟩
   refine⟨_,ns8.dropLast,xs++[ns8[ns8.length-1]'(by lia)],rfl,(k8.put f6).put f7,h5.s.put f7 (k8.put f6) (h5.s.put f6 k8 (S8.mono (by lia))),?_,by rw[List.length_dropLast];lia,by rw[zg,uj];rfl,by rw[uc,xl];rfl⟩
   rw[zm n6,zg,List.map_dropLast]
  |false =>
   rw[if_neg (show ¬ id false=true by decide)]at nl8
   have h8:=h5.go k8 S8
   refine⟨_,rfl,_,rfl,iteF ⟨_,rfl,.inl ⟨rfl,_,SqL.of x8⟩,_,rfl,_,rfl,_,rfl,st,wl,o,sl,m,A,S5,_,rfl,h8.wa,h8.g.at_,S8,by lia,by rw[le5.e2];exact n2,by have:=h8.l0;have:=h8.l1;lia,fun H9 x k9 S9=>?_⟩⟩
   have x9:=k9.k _ _ n7s x8
   have e9:=k9.k _ _ n6s e8
   refine⟨l7,_,_,rfl,rfl,x9,by rw[ua];lia,?_⟩
   exact⟨_,ns8,xs++[x],rfl,(k8.trans k9).put f7,h5.s.put f7 (k8.trans k9) (S9.mono (by lia)),by rw[zm n6];exact e9,nl8,by rw[zg,uj];rfl,by rw[uc,xl];rfl⟩
 ·rintro σ H8 ⟨y,ns8,xs,rfl,k8,S8,e8,nl8,x8,xl⟩
  rw[ua]at xl S8
  have h8:=h5.go k8 S8
  refine⟨_,rfl,_,rfl,l7,_,rfl,.inl ⟨SqL.of x8,fun l9 hl9=>⟨sN3,fun p hp=>?_⟩⟩⟩
  have s9:=(zi hl9 (.tup (xs.map V.str))).new (o:=.tup [.str "call",.str g,.ref l9]) hp
  exact q _ p (.call g xs) S5 ((h8.same s9).mono (by lia)) ((t5.trans (k8.tups h5.s)).trans (.of s9)) le5 ⟨l9,zg,old hp zg⟩ ⟨by show xs.length<=_;lia,⟨ms,lk⟩,⟨ms,lk,by lia⟩⟩
def XI(K:ub):Sp:=fun vs H Q _=>∃(st wl:Addr)(o:Wg)(sl:Bool)(m:Nat)(H0:Hp)(A:At)(S:AtS)(B:Nat),vs=[.ref st,.ref A.p,.ref wl]/\Ask K st wl o sl m H0 H A S B/\B+70 < LIM/\∀H' p d S',Ask K st wl o sl m H0 H' A S' (B+70)->Tups H H'->S'.le S->IsDd H' d p->DdG o.D d->Q (.ref p) H'
theorem scLDeed:FnScope ["_law_state","_law_at","_law_world_here","_law_way","_law_g","_law_few","_law_some","_law_tag","_law_size","_law_kind","_law_names"] lS1 (zn YI):=.ok
theorem Yf:(["_law_state","_law_at","_law_world_here","_law_way","_law_g","_law_few","_law_some","_law_tag","_law_size","_law_kind","_law_names","_law_k"]:List Str).Nodup:=by decide +kernel
theorem JF:(["_law_state","_law_at","_law_world_here","_law_way","_law_g","_law_few","_law_some","_law_tag","_law_size","_law_kind","_law_names","_law_one"]:List Str).Nodup:=by decide +kernel
theorem JG(F:Fun K "_law_deed" "_law_deed" YI f fd)(GD:Ca P w K mg base CX0 1 "_law_draw" lS4 (yj K))(GS:Ca P w K mg base CX0 2 "_law_slips" lS3 (yu K))(GU:Ca P w K mg base CX0 3 "_law_up" lS1 (spUp K))(GN':Ca P w K mg base CX0 3 "_law_near" lS1 (ZB K))(GT:Ca P w K mg base CX0 3 "_law_token" lS11 (za1 K))(GM:Ca P w K mg base CX0 4 "_law_named_deed" lS1 (XH K))(m_len:mg "len"=none)(m_range:mg "range"=none)(m_tuple:mg "tuple"=none)(m_min:mg "min"=none)(m_int:mg "int"=none):FnOk P w K mg base CX0 5 f fd lS1 (XI K):=by
 refine F.by scLDeed (fun vs H Q E h=>?_) (fun cdv A' outer s H vs Q E hr h=>?_)
 ·obtain⟨st,wl,o,sl,m,H0,A,S,B,rfl,_⟩:=h
  rfl
 obtain⟨st,wl,o,sl,m,H0,A,S,B,rfl,hA,hB,q⟩:=h
 have hr1:Room 1 _:=hr.mono (by decide)
 have hr2:Room 2 _:=hr.mono (by decide)
 have hr3:Room 3 _:=hr.mono (by decide)
 refine⟨_,
  (zh (sE 3 scLDeed.nd (cA GD hr1 (jA2 (jv 0) zk)))
  (zh (zw (jW.pt (yh (tN (xJ hr) (xL 1) (zv zA)) (yd (tN zz (cA GD hr1 (jA2 (jv 0) zk)) zk))))
   (zj (sE 3 scLDeed.nd zk)) zp)
  (zh (zw (jW.pt (xD (tN zz (jv 3) zk) (yW (tN (xy hr) (zx zZ (xL 1) (xL 1)) (zv zA)))))
   (zj (zq (zu (jA2 zo (zx xF (cA GD hr1 (jA2 (jv 0) zk)) zk))))) zp)
  (zh (zw (tN zz (jv 3) zk)
   (zj (zq (zu (jA4 zo zo (cA GN' hr3 (jA3 (jv 0) (jv 1) (jv 2))) (cA GN' hr3 (jA3 (jv 0) (jv 1) (jv 2))))))) zp)
  (zh (zw (tN wm (jv 3) zk)
   (zj (zq (cA GM hr (jA3 (jv 0) (jv 1) (jv 2))))) zp)
  (zh (zw (jW.pt (yh (tN zz (jv 3) zk) (yd (tN (xJ hr) (xL 1) (zv zA)))))
   (zh (sE 4 scLDeed.nd (cA GU hr3 (jA3 (jv 0) (jv 1) (jv 2))))
   (zh (sE 5 scLDeed.nd (zS (vo rfl) rfl m_min UZ (jA2 zk (zx ye (zS (vo rfl) rfl m_min UZ (jA2 (jL m_len (xL 1)) (cA GD hr1 (jA2 (jv 0) zk)))) (zK ZA rfl m_int PyProof.Rows.boot_int (jA1 (cA GS hr2 (jA3 (jv 0) (jv 2) zk))))))))
   (zj (zq (zu (jA3 zo (jv 4) (zK zM rfl m_tuple uS (jA1 (zW ["_law_k"] rfl (yc rfl m_range (jA1 (jv 5))) (fun _ _ _ _ _=>(gN 11 Yf)) (fun _ _ _ _ _=>zV) (fun _ _ _ _ _=>(cA GU hr3 (jA3 (jv 0) (jv 1) (jv 2))))))))))))) zp)
  (zh (yC ["_law_one"] (i:=6) scLDeed.nd rfl (Or.inl rfl) rfl (zQ (xL 2)) (fun _ _ _ _ _=>(gN 11 JF)) (fun _ _ _ _ _=>(ya (tN Va (xn (wb K) (jv 11) zk (fun _ _=>rfl)) (zS (ZY K) rfl m_len PySem.boot_len (jA1 (xn (ZX K) (jv 1) zk (fun _ _=>rfl))))))) (fun _ _ _ _ _=>(jv 11)))
  (zh (yz (xX yb (jv 6) (cA GD hr1 (jA2 (jv 0) (jL m_len (jv 6))))) (wq rfl (zC (gN 7 scLDeed.nd) (zC (gN 8 scLDeed.nd) (zC (gN 9 scLDeed.nd) yA)))))
  (zh (sE 10 scLDeed.nd (zK zM rfl m_tuple uS (jA1 (zW ["_law_k"] rfl (yc rfl m_range (jA1 (jv 8))) (fun _ _ _ _ _=>(gN 11 Yf)) (fun _ _ _ _ _=>zV) (fun _ _ _ _ _=>(cA GU hr3 (jA3 (jv 0) (jv 1) (jv 2))))))))
  (zj (zq (zu (jA4 zo (jv 7) (jv 10) (cA GT hr3 (jA4 (jv 0) (jv 1) (jv 8) (jv 2)))))))))))))))),?_⟩
 have LM:LIM=4611686018427387904:=rfl
 have sl':=zN
 refine(show ∀(v:TS)(D:Ends),(∀(H1:Hp)(way:Int),Ask K st wl o sl m H0 H1 A S (B+2)->Tups H H1->v D [some (.ref st),some (.ref A.p),some (.ref wl),some (.int way),none,none,none,none,none,none,none] H1)->(tSeq _ (tSeq _ v):TS) D [some (.ref st),some (.ref A.p),some (.ref wl),none,none,none,none,none,none,none,none] H from ?a1) _ _ ?a2
 case a1 =>
  intro v D hV
  refine⟨_,rfl,st,8,B,rfl,hA.s,by lia,by decide,fun H1 way k1 S1 _ _=>?_⟩
  have h1:=hA.go k1 S1
  have t1:=k1.tups hA.s
  dsimp only
  obtain⟨ts,a3,_⟩:=h1.g.at_.h3
  refine⟨_,rfl,ixL h1.g.at_.p aI3 ⟨sN0,fun l hl=>?_⟩⟩
  have s2:=zi hl (.lst [])
  have h2:=h1.same s2
  have t2:=t1.trans (.of s2)
  refine⟨A.a3,l,_,rfl,rfl,SqL.of (s2 _ _ a3),SqL.of zg,_,rfl,?_⟩
  generalize upd H1 l (.lst [])=H2 at *
  refine ite2 (fun _=>?_) (fun _=>iteF (nxtC (hV _ _ (h2.mono (by lia)) t2)))
  refine⟨_,rfl,st,2,_,rfl,h2.s,by lia,by decide,fun H3 r k3 S3 _ _=>⟨rfl,_,rfl,?_⟩⟩
  have h3:=h2.go k3 S3
  have t3:=t2.trans (k3.tups h2.s)
  exact ite2 (fun _=>hV _ _ (h3.mono (by lia)) t3) (fun _=>nxtC (hV _ _ (h3.mono (by lia)) t3))
 case a2 =>
 intro H1 way h1 t1
 refine(show ∀(u v:TS)(D:Ends),(∀(D':Ends)(H3:Hp),D'.rt=D.rt->Ask K st wl o sl m H0 H3 A S (B+2)->Tups H H3->u D' [some (.ref st),some (.ref A.p),some (.ref wl),some (.int way),none,none,none,none,none,none,none] H3)->(∀(H3:Hp),S.n2≠[]->Ask K st wl o sl m H0 H3 A S (B+2)->Tups H H3->v D [some (.ref st),some (.ref A.p),some (.ref wl),some (.int way),none,none,none,none,none,none,none] H3)->(tSeq (tIfS _ u yP) v:TS) D [some (.ref st),some (.ref A.p),some (.ref wl),some (.int way),none,none,none,none,none,none,none] H1 from ?b1) _ _ _ ?b2 ?b3
 case b1 =>
  intro u v D hU hV
  refine⟨_,rfl,rfl,_,rfl,?_⟩
  refine ite2 (fun _=>iteT (hU _ _ rfl h1 t1)) (fun _=>?_)
  have l0:=h1.l0
  have l1:=h1.l1
  refine⟨_,rfl,ixL h1.g.at_.p aI0 ⟨_,rfl,ixL h1.g.at_.p aI1 ⟨A.a0,A.a1,_,_,rfl,rfl,h1.g.at_.h0,h1.g.at_.h1,by rw[ua,ua];lia,fun l hl=>⟨sN0,fun l2 hl2=>⟨l,l2,_,rfl,rfl,SqL.of (old hl2 zg),SqL.of zg,_,rfl,?_⟩⟩⟩⟩⟩
  have s2:=(zi hl (.lst (S.n0.map V.str++S.n1.map V.str))).new (o:=.lst []) hl2
  have h2:=h1.same s2
  have t2:=t1.trans (.of s2)
  generalize upd (upd H1 l (.lst (S.n0.map V.str++S.n1.map V.str))) l2 (.lst [])=H2 at *
  rw[<- uj]
  cases he:S.n0++S.n1 with
  |nil=>exact iteT (hU _ _ rfl h2 t2)
  |cons x0 xs0=>exact iteF (nxtC (hV _ (h2.ne (by rw[he];intro z;cases z)) h2 t2))
 case b2 =>
  intro D' H3 hD h3 t3
  refine⟨_,rfl,st,9,_,rfl,h3.s,by lia,by decide,fun H4 r k4 S4 _ _=>⟨_,_,rfl,rfl,sN2,fun p hp=>?_⟩⟩
  have h4:=h3.go k4 S4
  have t4:=t3.trans (k4.tups h3.s)
  rw[hD]
  exact q _ p (.num (r-4)) S ((h4.same (zi hp _)).mono (by lia)) (t4.trans (.of (zi hp _))) .refl zg ⟨uW _,trivial,trivial⟩
 case b3 =>
 clear h1 t1
 clear H1
 intro H1 n2 h1 t1
 refine⟨_,rfl,rfl,_,rfl,?_⟩
 refine ite2 (fun _=>?_) (fun _=>nxtC ?_)
 ·have l0:=h1.l0
  have l1:=h1.l1
  refine⟨_,rfl,_,rfl,_,rfl,st,wl,o,sl,m,A,S,_,rfl,h1.wa,h1.g.at_,h1.s,by lia,n2,by lia,fun H2 x k2 S2=>?_⟩
  have h2:=h1.go k2 S2
  have t2:=t1.trans (k2.tups h1.s)
  refine⟨_,rfl,_,rfl,_,rfl,st,wl,o,sl,m,A,S,_,rfl,h2.wa,h2.g.at_,h2.s,by lia,n2,by lia,fun H3 x' k3 S3=>⟨sN4,fun p hp=>?_⟩⟩
  have h3:=h2.go k3 S3
  have t3:=t2.trans (k3.tups h2.s)
  exact q _ p (.op "less" x x') S ((h3.same (zi hp _)).mono (by lia)) (t3.trans (.of (zi hp _))) .refl zg ⟨by show 2<=1000;decide,trivial,trivial⟩
 refine⟨_,rfl,_,_,rfl,rfl,_,rfl,?_⟩
 refine ite2 (fun _=>?_) (fun _=>nxtC ?_)
 ·exact⟨_,rfl,_,rfl,_,rfl,st,wl,o,sl,m,H0,A,S,_,rfl,h1,by lia,fun H2 p d S2 h2 t2 le2 hd gd=>q _ p d S2 (h2.mono (by lia)) (t1.trans t2) le2 hd gd⟩
 dsimp only
 refine(show ∀(u v:TS)(D:Ends),(∀(D':Ends)(H3:Hp),D'.rt=D.rt->Ask K st wl o sl m H0 H3 A S (B+2)->Tups H H3->u D' [some (.ref st),some (.ref A.p),some (.ref wl),some (.int way),none,none,none,none,none,none,none] H3)->(∀(H3:Hp),Ask K st wl o sl m H0 H3 A S (B+2)->Tups H H3->v D [some (.ref st),some (.ref A.p),some (.ref wl),some (.int way),none,none,none,none,none,none,none] H3)->(tSeq (tIfS _ u yP) v:TS) D [some (.ref st),some (.ref A.p),some (.ref wl),some (.int way),none,none,none,none,none,none,none] H1 from ?c1) _ _ _ ?c2 ?c3
 case c1 =>
  intro u v D hU hV
  refine⟨_,rfl,rfl,_,rfl,?_⟩
  refine ite2 (fun _=>?_) (fun _=>iteF (nxtC (hV _ h1 t1)))
  refine⟨_,rfl,ixL h1.g.at_.p aI0 ⟨sN0,fun l hl=>?_⟩⟩
  have s2:=zi hl (.lst [])
  have h2:=h1.same s2
  have t2:=t1.trans (.of s2)
  refine⟨A.a0,l,_,rfl,rfl,SqL.of h2.g.at_.h0,SqL.of zg,_,rfl,?_⟩
  exact ite2 (fun _=>hU _ _ rfl h2 t2) (fun _=>nxtC (hV _ h2 t2))
 case c2 =>
  intro D' H3 hD h3 t3
  refine⟨_,rfl,_,rfl,_,rfl,st,wl,o,sl,m,H0,A,S,_,rfl,h3,by lia,n2,fun H4 g S4 h4 t4 le4=>?_⟩
  have t04:=t3.trans t4
  dsimp only
  refine⟨_,rfl,ixL h4.g.at_.p aI0 ⟨A.a0,_,rfl,.inl (SqL.of h4.g.at_.h0),_,rfl,st,10,_,rfl,h4.s,by lia,by decide,fun H5 r k5 S5 r0 r1=>⟨_,_,rfl,?_⟩⟩⟩
  have h5:=h4.go k5 S5
  have t5:=t04.trans (k5.tups h4.s)
  rw[ua]
  refine⟨_,rfl,_,rfl,st,wl,o,sl,m,_,6,rfl,by decide,h5.wa,h5.s,by lia,fun H6 c k6 S6=>.inr ⟨c,rfl,_,_,rfl,rfl,_,_,rfl,?_⟩⟩
  have h6:=h5.go k6 S6
  have t6:=t5.trans (k6.tups h5.s)
  obtain⟨few,hf,f0,f9⟩:∃few:Int,(if(if r < ((S4.n0.length:Nat):Int)then r else((S4.n0.length:Nat):Int))+(if c=true then 1 else 0) < 9 then(if r < ((S4.n0.length:Nat):Int)then r else((S4.n0.length:Nat):Int))+(if c=true then 1 else 0)else 9)=few/\0<=few/\few<=9:=⟨_,rfl,by split<;>(try split)<;>(try split)<;>lia,by split<;>lia⟩
  rw[hf]
  dsimp only
  refine⟨_,rfl,_,rfl,few,rfl,by lia,by lia,yx (n:=few.toNat) (fun i τ ys H'=>(∃y,τ=[some (.ref st),some (.ref A.p),some (.ref wl),some (.int way),some (.str g),some (.int few),none,none,none,none,none,y])/\∃(S':AtS)(ns:List Str),ys=ns.map V.str/\ns.length=i/\Ask K st wl o sl m H0 H' A S' (B+6+2*i)/\Tups H H'/\S'.le S) ⟨⟨none,rfl⟩,S4,[],rfl,rfl,h6.mono (by lia),t6,le4⟩ ?_ ?_⟩
  ·rintro i τ ys H7 hi ⟨⟨y,rfl⟩,S7,ns,rfl,nl,h7,t7,le7⟩
   refine⟨_,rfl,_,rfl,_,rfl,st,wl,o,sl,m,H0,A,S7,_,rfl,h7,by lia,by rw[le7.e2];exact n2,fun H8 x S8 h8 t8 le8=>⟨by rw[ua];lia,⟨_,rfl⟩,S8,ns++[x],by rw[uj];rfl,by rw[uc,nl];rfl,h8.mono (by lia),t7.trans t8,le8.trans le7⟩⟩
  ·rintro τ ys H7 ⟨_,S7,ns,rfl,nl,h7,t7,le7⟩ l6 hl6
   refine⟨l6,_,rfl,.inl ⟨SqL.of zg,fun l7 hl7=>⟨sN3,fun p hp=>?_⟩⟩⟩
   have s7:=((zi hl6 (.lst (ns.map V.str))).new (o:=.tup (ns.map V.str)) hl7).new (o:=.tup [.str "ask",.str g,.ref l7]) hp
   rw[hD]
   exact q _ p (.ask g ns) S7 ((h7.same s7).mono (by lia)) (t7.trans (.of s7)) le7 ⟨l7,zg,old hp zg⟩ ⟨by show ns.length+1<=_;lia,trivial,trivial⟩
 case c3 =>
 clear h1 t1
 clear H1
 intro H1 h1 t1
 obtain⟨tl,dl,ts,us,wv,w1,w2,w3,w4,w5⟩:=h1.wa.e
 have tl':ts.length<=24:=by rw[<- w3.1];exact h1.ok.Tn
 obtain⟨tg0,eT0,zT0⟩:=h1.ok.T0
 have lt0:0 < ts.length:=by rw[<- w3.1];exact(ug.mp eT0).1
 refine⟨_,rfl,ixL w1 aI2 ⟨tl,rfl,⟨_,SqL.of w2⟩,ym (xs:=ts.map V.ref) (fun i τ ys H'=>H1=H'/\(∃y,τ=[some (.ref st),some (.ref A.p),some (.ref wl),some (.int way),none,none,none,none,none,none,none,y])/\∃us:List Addr,ys=us.map V.ref/\us.length<=i/\(0 < i->0 < us.length)/\∀t∈us,t∈ts) ⟨rfl,⟨none,rfl⟩,[],rfl,ui _,fun z=>absurd z (Ub _),fun t h=>by cases h⟩ (fun i τ ys H' _ h=>by rw[<- h.1];exact SqL.of w2) ?_ ?_⟩⟩
 ·rintro i v τ ys H' hv ⟨rfl,⟨y,rfl⟩,us,rfl,ul,u0,hu⟩
  rw[uk]at hv
  obtain⟨t,ht,rfl⟩:=uf.mp hv
  obtain⟨a,ha,hR⟩:=w3.at ht
  have hi:i < ts.length:=(ug.mp ht).1
  refine⟨_,rfl,ixT hR aI1 ⟨_,rfl,ixL h1.g.at_.p aI0 ⟨A.a0,_,rfl,.inl (SqL.of h1.g.at_.h0),_,_,rfl,rfl,_,rfl,?_⟩⟩⟩
  refine ite2 (fun _=>⟨_,rfl,by rw[ua];lia,rfl,⟨_,rfl⟩,us++[t],by rw[uj];rfl,by rw[uc];show us.length+1<=_;lia,fun _=>by rw[uc];show 0 < us.length+1;lia,fun x hx=>?_⟩) (fun c=>⟨rfl,⟨_,rfl⟩,us,rfl,by lia,fun _=>?_,hu⟩)
  ·rcases uF.mp hx with z|z
   ·exact hu x z
   ·rw[uv.mp z];exact uB ht
  ·by_cases ci:0 < i
   ·exact u0 ci
   ·have ei:i=0:=by lia
    subst ei
    rw[eT0]at ha
    cases ha
    rw[decide_eq_true_eq]at c
    exact absurd (by rw[zT0];exact Int.natCast_nonneg _) c
 rintro τ ys H' ⟨rfl,_,us',rfl,ul,u0,hu⟩ l2 hl2
 rw[ua]at u0 ul
 have u0:=u0 lt0
 have s2:=zi hl2 (.lst (us'.map V.ref))
 have h2:=h1.same s2
 have t2:=t1.trans (.of s2)
 have e2:=zg (H:=H1) (a:=l2) (o:=.lst (us'.map V.ref))
 have w3':TsAt tgR (upd H1 l2 (.lst (us'.map V.ref))) o.T ts:=w3.keep fun _ _ z=>z.tk (.of s2)
 dsimp only
 generalize upd H1 l2 (.lst (us'.map V.ref))=H2 at *
 refine⟨_,rfl,_,rfl,_,rfl,l2,_,rfl,.inl (SqL.of e2),st,_,_,rfl,h2.s,by lia,by rw[ua];lia,fun H3 r k3 S3 r0 r1=>?_⟩
 obtain⟨i,rfl⟩:∃i:Nat,r=(i:Nat):=⟨r.toNat,by lia⟩
 rw[ua]at r1
 have hi:i < us'.length:=by lia
 have h3:=h2.go k3 S3
 have t23:=k3.tups h2.s
 have t3:=t2.trans t23
 obtain⟨j,hj⟩:=tK (hu _ (UX hi))
 obtain⟨⟨tag,size,kind⟩,ha,hR⟩:=w3'.at hj
 have sz9:size<=9:=h1.ok.T _ (uB ha)
 have hR3:=t23 _ _ hR
 refine⟨l2,_,_,.ref us'[i],rfl,rfl,SqL.of (k3.k _ _ (h2.s.neR e2) e2),zJ (by rw[uk,um hi];rfl),us'[i],_,rfl,SqT.of hR3,rfl,_,_,rfl,_,_,rfl,_,_,rfl,rfl,?_⟩
 dsimp only
 refine⟨_,rfl,((size:Nat):Int),rfl,by lia,by lia,yx (n:=((size:Nat):Int).toNat) (fun i τ ys H'=>(∃y,τ=[some (.ref st),some (.ref A.p),some (.ref wl),some (.int way),none,none,some (.ref l2),some (.str tag),some (.int (size:Nat)),some (.int (kind:Nat)),none,y])/\∃(S':AtS)(ns:List Str),ys=ns.map V.str/\ns.length=i/\Ask K st wl o sl m H0 H' A S' (B+3+2*i)/\Tups H H'/\S'.le S) ⟨⟨none,rfl⟩,S,[],rfl,rfl,h3,t3,.refl⟩ ?_ ?_⟩
 ·rintro i τ ys H7 hi ⟨⟨y,rfl⟩,S7,ns,rfl,nl,h7,t7,le7⟩
  refine⟨_,rfl,_,rfl,_,rfl,st,wl,o,sl,m,H0,A,S7,_,rfl,h7,by lia,by rw[le7.e2];exact n2,fun H8 x S8 h8 t8 le8=>⟨by rw[ua];lia,⟨_,rfl⟩,S8,ns++[x],by rw[uj];rfl,by rw[uc,nl];rfl,h8.mono (by lia),t7.trans t8,le8.trans le7⟩⟩
 ·rintro τ ys H7 ⟨_,S7,ns,rfl,nl,h7,t7,le7⟩ l6 hl6
  refine⟨l6,_,rfl,.inl ⟨SqL.of zg,fun l7 hl7=>?_⟩⟩
  have s7:=(zi hl6 (.lst (ns.map V.str))).new (o:=.tup (ns.map V.str)) hl7
  have e7:=zg (H:=upd H7 l6 (.lst (ns.map V.str))) (a:=l7) (o:=.tup (ns.map V.str))
  have h7':=h7.same s7
  have t7':=t7.trans (.of s7)
  dsimp only
  generalize upd (upd H7 l6 (.lst (ns.map V.str))) l7 (.tup (ns.map V.str))=H8 at *
  refine⟨_,rfl,_,rfl,_,rfl,_,rfl,_,rfl,_,rfl,st,wl,o,sl,m,H0,A,S7,_,_,rfl,h7',by lia,fun H9 x S9 h9 t9 le9=>⟨sN4,fun p hp=>?_⟩⟩
  exact q _ p (.mk tag ns x) S9 ((h9.same (zi hp _)).mono (by lia)) ((t7'.trans t9).trans (.of (zi hp _))) (le9.trans le7) ⟨l7,zg,old hp (t9 _ _ e7)⟩ ⟨by show ns.length<=_;lia,trivial,trivial⟩
structure Hnd(S:AtS)(r:Nat):Prop where
 ne:S.n0++S.n1≠[]->S.n2≠[]
 l0:S.n0.length+9*r<=60
 l1:S.n1.length<=9
 l2:S.n2.length+9*r<=100
 l3:S.t3.length+r<=10
 l4:S.n4.length+r<=100
structure BdG(ow:Ow)(b:Bd)(d s t:Nat):Prop where
 ok:OkBd ow b
 oe:OeB ow b
 ne:NeB b
 dp:b.dp<=d
 sz:b.sz<=s
 wt:b.wt<=t
theorem BdG.mono{ow:Ow}{b:Bd}{d s t d' s' t':Nat}(h:BdG ow b d s t)(h1:d<=d')(h2:s<=s')(h3:t<=t'):BdG ow b d' s' t':=⟨h.ok,h.oe,h.ne,uy h.dp h1,uy h.sz h2,uy h.wt h3⟩
theorem BdG.give{ow:Ow}{x:Str}:BdG ow (.give x) 1 1 0:=⟨by rw[OkBd];trivial,by rw[OeB];trivial,by rw[NeB];trivial,by rw[Bd.dp];exact ui _,by rw[Bd.sz];exact ui _,by rw[Bd.wt];exact ui _⟩
theorem BdG.lt{ow:Ow}{b:Bd}{d s t:Nat}{x:Str}{e:Dd}(h:BdG ow b d s t)(g:DdG ow e):BdG ow (.lt x e b) (d+1) (s+1) (t+1):=⟨by rw[OkBd];exact⟨g.n,g.ok,h.ok⟩,by rw[OeB];exact⟨g.oe,h.oe⟩,by rw[NeB];exact h.ne,by rw[Bd.dp];exact Ue h.dp,by rw[Bd.sz];exact Ue h.sz,by rw[Bd.wt];exact Ue h.wt⟩
theorem BdG.hold{ow:Ow}{b:Bd}{d s t:Nat}{x y:Str}(h:BdG ow b d s t):BdG ow (.hold x y b) (d+1) (s+1) (t+1):=⟨by rw[OkBd];exact h.ok,by rw[OeB];exact h.oe,by rw[NeB];exact h.ne,by rw[Bd.dp];exact Ue h.dp,by rw[Bd.sz];exact Ue h.sz,by rw[Bd.wt];exact Ue h.wt⟩
theorem BdG.drop{ow:Ow}{b:Bd}{d s t:Nat}{x:Str}(h:BdG ow b d s t):BdG ow (.drop x b) (d+1) (s+1) t:=⟨by rw[OkBd];exact h.ok,by rw[OeB];exact h.oe,by rw[NeB];exact h.ne,by rw[Bd.dp];exact Ue h.dp,by rw[Bd.sz];exact Ue h.sz,by rw[Bd.wt];exact h.wt⟩
theorem BdG.loose{ow:Ow}{b:Bd}{d s t:Nat}{x:Str}(h:BdG ow b d s t):BdG ow (.loose x b) (d+1) (s+1) t:=⟨by rw[OkBd];exact h.ok,by rw[OeB];exact h.oe,by rw[NeB];exact h.ne,by rw[Bd.dp];exact Ue h.dp,by rw[Bd.sz];exact Ue h.sz,by rw[Bd.wt];exact h.wt⟩
theorem BdG.iff{ow:Ow}{b c:Bd}{d s t s' t':Nat}{x:Str}(h:BdG ow b d s t)(g:BdG ow c d s' t'):BdG ow (.iff x b c) (d+1) (s+s'+1) (t+t'):=⟨by rw[OkBd];exact⟨h.ok,g.ok⟩,by rw[OeB];exact⟨h.oe,g.oe⟩,by rw[NeB];exact⟨h.ne,g.ne⟩,by rw[Bd.dp];exact Ue (Nat.max_le.mpr ⟨h.dp,g.dp⟩),by rw[Bd.sz];have:=h.sz;have:=g.sz;lia,by rw[Bd.wt];have:=h.wt;have:=g.wt;lia⟩
theorem DdG.num{ow:Ow}{i:Int}:DdG ow (.num i):=⟨uW _,trivial,trivial⟩
def wR:Sp:=fun vs H Q _=>∃(A:At)(S:AtS)(nl:Addr)(ns:List Str),vs=[.ref A.p,.ref nl]/\AtIs H A S/\H nl=some (.lst (ns.map V.str))/\S.n0.length+ns.length<=10000/\S.n2.length+ns.length<=10000/\∀H' A',Same H H'->AtIs H' A' ⟨S.n0++ns,S.n1,S.n2++ns,S.t3,S.n4⟩->A'.l.Nodup->(∀c∈A'.l,H c=none)->Q (.ref A'.p) H'
def Y4(K:ub):Sp:=fun vs H Q _=>∃(st wl:Addr)(o:Wg)(sl:Bool)(m:Nat)(A:At)(S:AtS)(B:Nat)(x:Str),vs=[.ref st,.ref A.p,.str x,.ref wl]/\WgOk o/\WlAt H wl o sl m/\AtIs H A S/\Hnd S 0/\Sta K H st B/\B+80 < LIM/\∀H' p b,Kp st H H'->Sta K H' st (B+80)->IsBd H' b p->BdG o.D b 80 80 1->Q (.ref p) H'
theorem zcp:FnScope lS12 lS12 (zn VH):=.ok
theorem zaq(F:Fun K "_law_copy" "_law_copy" VH f fd)(m_list:mg "list"=none):FnOk P w K mg base CX0 1 f fd lS12 wR:=by
 refine F.by zcp (fun vs H Q E h=>?_) (fun cdv A' outer s H vs Q E hr h=>?_)
 ·obtain⟨A,S,nl,ns,rfl,_⟩:=h
  rfl
 obtain⟨A,S,nl,ns,rfl,hA,hn,l0,l2,q⟩:=h
 refine⟨_,
  (zj (zq (zv (jA5 (zx zZ (xL 0) (jv 1)) (zK yX rfl m_list UE (jA1 (xL 0))) (zx zZ (xL 0) (jv 1)) (zK yX rfl m_list UE (jA1 (xL 0))) (zK yX rfl m_list UE (jA1 (xL 0))))))),?_⟩
 have sl:=zN
 obtain⟨ts,a3,a3'⟩:=hA.h3
 refine⟨_,rfl,ixL hA.p aI0 ⟨_,rfl,A.a0,nl,_,_,rfl,rfl,hA.h0,hn,by rw[ua,ua];lia,fun b0 g0=>?_⟩⟩
 have s0:=zi g0 (.lst (S.n0.map V.str++ns.map V.str))
 have e0:=zg (H:=H) (a:=b0) (o:=.lst (S.n0.map V.str++ns.map V.str))
 generalize upd H b0 (.lst (S.n0.map V.str++ns.map V.str))=H0 at *
 refine⟨_,rfl,ixL (s0 _ _ hA.p) aI1 ⟨A.a1,_,rfl,.inl (SqL.of (s0 _ _ hA.h1)),fun b1 g1=>?_⟩⟩
 have s1:=zi g1 (.lst (S.n1.map V.str))
 have e1:=zg (H:=H0) (a:=b1) (o:=.lst (S.n1.map V.str))
 generalize upd H0 b1 (.lst (S.n1.map V.str))=H1 at *
 have s01:=s0.trans s1
 refine⟨_,rfl,ixL (s01 _ _ hA.p) aI2 ⟨_,rfl,A.a2,nl,_,_,rfl,rfl,s01 _ _ hA.h2,s01 _ _ hn,by rw[ua,ua];lia,fun b2 g2=>?_⟩⟩
 have s2:=zi g2 (.lst (S.n2.map V.str++ns.map V.str))
 have e2:=zg (H:=H1) (a:=b2) (o:=.lst (S.n2.map V.str++ns.map V.str))
 generalize upd H1 b2 (.lst (S.n2.map V.str++ns.map V.str))=H2 at *
 have s02:=s01.trans s2
 refine⟨_,rfl,ixL (s02 _ _ hA.p) aI3 ⟨A.a3,_,rfl,.inl (SqL.of (s02 _ _ a3)),fun b3 g3=>?_⟩⟩
 have s3:=zi g3 (.lst (ts.map V.ref))
 have e3:=zg (H:=H2) (a:=b3) (o:=.lst (ts.map V.ref))
 generalize upd H2 b3 (.lst (ts.map V.ref))=H3 at *
 have s03:=s02.trans s3
 refine⟨_,rfl,ixL (s03 _ _ hA.p) aI4 ⟨A.a4,_,rfl,.inl (SqL.of (s03 _ _ hA.h4)),fun b4 g4=>?_⟩⟩
 have s4:=zi g4 (.lst (S.n4.map V.str))
 have e4:=zg (H:=H3) (a:=b4) (o:=.lst (S.n4.map V.str))
 generalize upd H3 b4 (.lst (S.n4.map V.str))=H4 at *
 have s04:=s03.trans s4
 refine⟨sN5,fun bp gp=>?_⟩
 have s5:=zi gp (.lst [.ref b0,.ref b1,.ref b2,.ref b3,.ref b4])
 have e5:=zg (H:=H4) (a:=bp) (o:=.lst [.ref b0,.ref b1,.ref b2,.ref b3,.ref b4])
 generalize upd H4 bp (.lst [.ref b0,.ref b1,.ref b2,.ref b3,.ref b4])=H5 at *
 have s05:=s04.trans s5
 have k0:H5 b0=some (.lst ((S.n0++ns).map V.str)):=by rw[uj];exact s5 _ _ (s4 _ _ (s3 _ _ (s2 _ _ (s1 _ _ e0))))
 have k2:H5 b2=some (.lst ((S.n2++ns).map V.str)):=by rw[uj];exact s5 _ _ (s4 _ _ (s3 _ _ e2))
 refine q H5 ⟨bp,b0,b1,b2,b3,b4⟩ s05 ⟨e5,k0,s5 _ _ (s4 _ _ (s3 _ _ (s2 _ _ e1))),k2,⟨ts,s5 _ _ (s4 _ _ e3),a3'.keep fun _ _ z=>z.tk (.of s05)⟩,s5 _ _ e4⟩ ?_ ?_
 ·have ne:∀{h:Hp}{a b:Addr}{x:HO},h a=some x->h b=none->a≠b:=fun{h a b x} p q e=>by rw[e,q]at p;cases p
  have i0:=ne (s4 _ _ (s3 _ _ (s2 _ _ (s1 _ _ e0)))) gp
  have i1:=ne (s4 _ _ (s3 _ _ (s2 _ _ e1))) gp
  have i2:=ne (s4 _ _ (s3 _ _ e2)) gp
  have i3:=ne (s4 _ _ e3) gp
  have i4:=ne e4 gp
  have j0:=ne (s3 _ _ (s2 _ _ (s1 _ _ e0))) g4
  have j1:=ne (s3 _ _ (s2 _ _ e1)) g4
  have j2:=ne (s3 _ _ e2) g4
  have j3:=ne e3 g4
  have k0':=ne (s2 _ _ (s1 _ _ e0)) g3
  have k1':=ne (s2 _ _ e1) g3
  have k2':=ne e2 g3
  have m0:=ne (s1 _ _ e0) g2
  have m1:=ne e1 g2
  have n0:=ne e0 g1
  simp only[At.l,Ur,uu,uD,or_false,not_or,UP,and_true,not_false_eq_true]
  exact⟨⟨Ne.symm i0,Ne.symm i1,Ne.symm i2,Ne.symm i3,Ne.symm i4⟩,⟨n0,m0,k0',j0⟩,⟨m1,k1',j1⟩,⟨k2',j2⟩,j3⟩
 ·intro c hc
  simp only[At.l,uu,uD,or_false]at hc
  rcases hc with rfl|rfl|rfl|rfl|rfl|rfl
  ·exact zO s04 gp
  ·exact g0
  ·exact zO s0 g1
  ·exact zO s01 g2
  ·exact zO s02 g3
  ·exact zO s03 g4
theorem Ask.mk'{K:ub}{st wl:Addr}{o:Wg}{sl:Bool}{m:Nat}{H H1:Hp}{A1:At}{S1:AtS}{B r:Nat}(ok:WgOk o)(w:WlAt H wl o sl m)(T:Sta K H st B)(s:Same H H1)(a:AtIs H1 A1 S1)(nd:A1.l.Nodup)(fr:∀c∈A1.l,H c=none)(h:Hnd S1 r):Ask K st wl o sl m H H1 A1 S1 B :=
 ⟨ok,⟨B,T⟩,w,⟨a,nd,fr,.of s⟩,T.same s,h.ne,by have:=h.l0;lia,by have:=h.l1;lia,by have:=h.l3;lia⟩
theorem scLEnd:FnScope ["_law_state","_law_at","_law_name_here","_law_world_here","_law_left","_law_body_here","_law_one"] lS8 (zn sEnd):=.ok
theorem zar(F:Fun K "_law_end" "_law_end" sEnd f fd)(GD:Ca P w K mg base CX0 1 "_law_draw" lS4 (yj K))(GS:Ca P w K mg base CX0 2 "_law_slips" lS3 (yu K))(GU:Ca P w K mg base CX0 3 "_law_up" lS1 (spUp K))(GC:Ca P w K mg base CX0 1 "_law_copy" lS12 wR)(m_len:mg "len"=none):FnOk P w K mg base CX0 4 f fd lS8 (Y4 K):=by
 refine F.by scLEnd (fun vs H Q E h=>?_) (fun cdv A' outer s H vs Q E hr h=>?_)
 ·obtain⟨st,wl,o,sl,m,A,S,B,x,rfl,_⟩:=h
  rfl
 obtain⟨st,wl,o,sl,m,A,S,B,x,rfl,hok,hw,hA,hH,hS,hB,q⟩:=h
 have hr1:Room 1 _:=hr.mono (by decide)
 have hr2:Room 2 _:=hr.mono (by decide)
 refine⟨_,
  (zh (sE 4 scLEnd.nd (cA GC hr1 (jA2 (jv 1) (zv zA))))
  (zh (sE 5 scLEnd.nd (zu (jA4 zo (jv 2) (zu (jA2 zo zk)) (zu (jA2 zo (jv 2))))))
  (zh (zw (tN (xJ hr) (xL 4) (zv zA))
   (zj (sE 5 scLEnd.nd (zu (jA2 zo (cA GU hr (jA3 (jv 0) (jv 4) (jv 3))))))) zp)
  (zh (yg PassesOwn.never rfl (zQ (xL 4)) (gN 6 scLEnd.nd)
   (zj (zw (yM (zE (cA GS hr2 (jA3 (jv 0) (jv 3) zk))))
    (zj (sE 5 scLEnd.nd (zu (jA3 zo (jv 6) (jv 5))))) zp)))
  (zh (yg PassesOwn.never rfl (zQ (xL 4)) (gN 6 scLEnd.nd)
   (zj (zw (yM (zE (cA GS hr2 (jA3 (jv 0) (jv 3) zk))))
    (zj (sE 5 scLEnd.nd (zu (jA3 zo (xT 6) (jv 5))))) zp)))
  (zh (zw (jW.pt (yh (tN (xJ hr) (xL 4) (zv zA)) (yd (zE (cA GS hr2 (jA3 (jv 0) (jv 3) zk))))))
   (zj (sE 5 scLEnd.nd (zu (jA3 zo (xX yb (xL 4) (cA GD hr1 (jA2 (jv 0) (jL m_len (xL 4))))) (jv 5))))) zp)
  (zj (zq (jv 5))))))))),?_⟩
 have LM:LIM=4611686018427387904:=rfl
 have sl':=zN
 have b0:=hH.l0
 have b1:=hH.l1
 have b2:=hH.l2
 have b3:=hH.l3
 refine(show ∀(v:TS)(D:Ends),(∀(H2:Hp)(A1:At)(S2:AtS)(p:Addr)(b:Bd),Ask K st wl o sl m H H2 A1 S2 (B+2)->S2.le S->IsBd H2 b p->BdG o.D b 2 2 1->v D [some (.ref st),some (.ref A.p),some (.str x),some (.ref wl),some (.ref A1.p),some (.ref p),none] H2)->(tSeq _ (tSeq _ (tSeq _ v)):TS) D [some (.ref st),some (.ref A.p),some (.str x),some (.ref wl),none,none,none] H from ?a1) _ _ ?a2
 case a1 =>
  intro v D hV
  refine⟨_,rfl,sN0,fun nl hnl=>?_⟩
  have s1:=zi hnl (.lst [])
  refine⟨A,S,nl,[],rfl,hA.same s1,zg,by show S.n0.length+0<=_;lia,by show S.n2.length+0<=_;lia,fun H1 A1 s2 a1 nd fr=>?_⟩
  rw[uO,uO]at a1
  have s12:=s1.trans s2
  have k1:=Ask.mk' hok hw hS s12 a1 nd (fun c hc=>zO s1 (fr c hc)) hH
  dsimp only
  generalize upd H nl (.lst [])=Hn at *
  refine⟨_,rfl,sN2,fun p1 g1=>⟨_,rfl,sN2,fun p2 g2=>⟨sN4,fun p3 g3=>?_⟩⟩⟩
  have s3:=((zi g1 (.tup [.str "num",.int 3])).new (o:=.tup [.str "give",.str x]) g2).new (o:=.tup [.str "let",.str x,.ref p1,.ref p2]) g3
  have i3:IsBd (upd (upd (upd H1 p1 (.tup [.str "num",.int 3])) p2 (.tup [.str "give",.str x])) p3 (.tup [.str "let",.str x,.ref p1,.ref p2])) (.lt x (.num 3) (.give x)) p3:=⟨p1,p2,zg,old g3 (old g2 zg),old g3 zg⟩
  have k3:=k1.same s3
  dsimp only
  generalize upd (upd (upd H1 p1 (.tup [.str "num",.int 3])) p2 (.tup [.str "give",.str x])) p3 (.tup [.str "let",.str x,.ref p1,.ref p2])=H3 at *
  refine⟨_,rfl,ixL k3.g.at_.p aI0 ⟨sN0,fun l hl=>?_⟩⟩
  have s4:=zi hl (.lst [])
  have k4:=k3.same s4
  refine⟨A1.a0,l,_,rfl,rfl,SqL.of k4.g.at_.h0,SqL.of zg,_,rfl,?_⟩
  have i4:=i3.keep (.of s4)
  generalize upd H3 l (.lst [])=H4 at *
  cases he:S.n0 with
  |nil=>exact iteF (nxtC (hV _ _ S p3 _ (k4.mono (by lia)) .refl i4 (BdG.give.lt .num)))
  |cons x0 xs0 =>
   refine iteT ⟨_,rfl,_,rfl,_,rfl,st,wl,o,sl,m,H,A1,S,_,rfl,k4,by lia,k4.ne2 (by rw[he];intro z;cases z),fun H5 y S5 k5 t5 le5=>⟨sN2,fun p5 g5=>?_⟩⟩
   exact hV _ _ S5 p5 (.give y) (k5.same (zi g5 _)) le5 zg (BdG.give.mono (by lia) (by lia) (by lia))
 case a2 =>
 intro H2 A1 S2 p b k2 le2 i2 g2
 have c0:=le2.l0
 have c3:=le2.l3
 refine(show ∀(v:TS)(D:Ends),(∀(H3:Hp)(p:Addr)(b:Bd)(y:Option V),Ask K st wl o sl m H H3 A1 S2 (B+2+60)->IsBd H3 b p->BdG o.D b 62 62 1->v D [some (.ref st),some (.ref A.p),some (.str x),some (.ref wl),some (.ref A1.p),some (.ref p),y] H3)->(tSeq _ v:TS) D [some (.ref st),some (.ref A.p),some (.str x),some (.ref wl),some (.ref A1.p),some (.ref p),none] H2 from ?b1) _ _ ?b2
 case b1 =>
  intro v D hV
  refine⟨_,rfl,ixL k2.g.at_.p aI0 ⟨A1.a0,rfl,⟨_,SqL.of k2.g.at_.h0⟩,yJ (xs:=S2.n0.map V.str) (fun i σ H'=>∃(p:Addr)(b:Bd)(y:Option V),σ=[some (.ref st),some (.ref A.p),some (.str x),some (.ref wl),some (.ref A1.p),some (.ref p),y]/\Ask K st wl o sl m H H' A1 S2 (B+2+i)/\IsBd H' b p/\BdG o.D b (2+i) (2+i) 1) ⟨p,b,none,rfl,k2,i2,g2⟩ (fun i σ H' _ h=>?_) ?_ ?_⟩⟩
  ·obtain⟨_,_,_,_,k,_⟩:=h
   exact SqL.of k.g.at_.h0
  ·rintro i v σ H3 hv ⟨p3,d3,y,rfl,k3,i3,g3⟩
   rw[uk]at hv
   obtain⟨n,hn,rfl⟩:=uf.mp hv
   have hi:i < S2.n0.length:=(ug.mp hn).1
   refine⟨_,rfl,_,rfl,st,wl,o,sl,m,_,20,rfl,by decide,k3.wa,k3.s,by lia,fun H4 c j4 S4=>⟨c,rfl,?_⟩⟩
   have k4:=k3.go j4 S4
   have i4:=i3.keep (j4.tups k3.s)
   cases c with
   |true=>exact iteF (nxtC ⟨p3,d3,_,rfl,k4,i4,g3.mono (by lia) (by lia) (by lia)⟩)
   |false=>exact iteT ⟨_,rfl,_,rfl,sN3,fun p5 g5=>⟨p5,.drop n d3,_,rfl,k4.same (zi g5 _),⟨p3,zg,i4.keep (.of (zi g5 _))⟩,g3.drop⟩⟩
  ·rintro σ H3 ⟨p3,d3,y,rfl,k3,i3,g3⟩
   rw[ua]at k3 g3
   exact hV _ _ _ _ (k3.mono (by lia)) i3 (g3.mono (by lia) (by lia) (by lia))
 case b2 =>
 clear k2 i2 g2
 clear H2 p b
 intro H2 p b y k2 i2 g2
 obtain⟨ts,a3,a3'⟩:=k2.g.at_.h3
 have c4:ts.length<=10:=by rw[<- a3'.1];lia
 refine(show ∀(v:TS)(D:Ends),(∀(H3:Hp)(p:Addr)(b:Bd)(y:Option V),Ask K st wl o sl m H H3 A1 S2 (B+62+10)->IsBd H3 b p->BdG o.D b 72 72 1->v D [some (.ref st),some (.ref A.p),some (.str x),some (.ref wl),some (.ref A1.p),some (.ref p),y] H3)->(tSeq _ v:TS) D [some (.ref st),some (.ref A.p),some (.str x),some (.ref wl),some (.ref A1.p),some (.ref p),y] H2 from ?c1) _ _ ?c2
 case c1 =>
  intro v D hV
  refine⟨_,rfl,ixL k2.g.at_.p aI3 ⟨A1.a3,rfl,⟨_,SqL.of a3⟩,yJ (xs:=ts.map V.ref) (fun i σ H'=>∃(p:Addr)(b:Bd)(y:Option V),σ=[some (.ref st),some (.ref A.p),some (.str x),some (.ref wl),some (.ref A1.p),some (.ref p),y]/\Kp st H2 H'/\Ask K st wl o sl m H H' A1 S2 (B+62+i)/\IsBd H' b p/\BdG o.D b (62+i) (62+i) 1) ⟨p,b,y,rfl,.refl,k2,i2,g2⟩ (fun i σ H' _ h=>?_) ?_ ?_⟩⟩
  ·obtain⟨_,_,_,_,k,_⟩:=h
   exact SqL.of (k.k _ _ (k2.s.neR a3) a3)
  ·rintro i v σ H3 hv ⟨p3,d3,y,rfl,j3,k3,i3,g3⟩
   rw[uk]at hv
   obtain⟨t,ht,rfl⟩:=uf.mp hv
   obtain⟨a,_,hR⟩:=a3'.at ht
   have hi:i < ts.length:=(ug.mp ht).1
   refine⟨_,rfl,_,rfl,st,wl,o,sl,m,_,12,rfl,by decide,k3.wa,k3.s,by lia,fun H4 c j4 S4=>⟨c,rfl,?_⟩⟩
   have k4:=k3.go j4 S4
   have i4:=i3.keep (j4.tups k3.s)
   have j04:=j3.trans j4
   cases c with
   |true=>exact iteF (nxtC ⟨p3,d3,_,rfl,j04,k4,i4,g3.mono (by lia) (by lia) (by lia)⟩)
   |false=>exact iteT ⟨_,rfl,ixT (j04.tups k2.s _ _ hR) aI0 ⟨_,rfl,sN3,fun p5 g5=>⟨p5,.loose a.1 d3,_,rfl,j04.new g5,k4.same (zi g5 _),⟨p3,zg,i4.keep (.of (zi g5 _))⟩,g3.loose⟩⟩⟩
  ·rintro σ H3 ⟨p3,d3,y,rfl,j3,k3,i3,g3⟩
   rw[ua]at k3 g3
   exact hV _ _ _ _ (k3.mono (by lia)) i3 (g3.mono (by lia) (by lia) (by lia))
 case c2 =>
 clear k2 i2 g2 a3 a3' c4
 clear H2 p b y ts
 intro H2 p b y k2 i2 g2
 refine(show ∀(v:TS)(D:Ends),(∀(H3:Hp)(p:Addr)(b:Bd),Ask K st wl o sl m H H3 A1 S2 (B+80)->IsBd H3 b p->BdG o.D b 80 80 1->v D [some (.ref st),some (.ref A.p),some (.str x),some (.ref wl),some (.ref A1.p),some (.ref p),y] H3)->(tSeq _ v:TS) D [some (.ref st),some (.ref A.p),some (.str x),some (.ref wl),some (.ref A1.p),some (.ref p),y] H2 from ?d1) _ _ ?d2
 case d2 =>
  intro H3 p3 d3 k3 i3 g3
  exact⟨_,rfl,q _ p3 d3 k3.g.kp k3.s i3 g3⟩
 case d1 =>
  intro v D hV
  refine⟨_,rfl,ixL k2.g.at_.p aI2 ⟨sN0,fun l hl=>?_⟩⟩
  have s4:=zi hl (.lst [])
  have k4:=k2.same s4
  have i4:=i2.keep (.of s4)
  refine⟨A1.a2,l,_,rfl,rfl,SqL.of k4.g.at_.h2,SqL.of zg,_,rfl,?_⟩
  generalize upd H2 l (.lst [])=H4 at *
  cases he:S2.n2 with
  |nil=>exact iteF (iteF (nxtC (hV _ p b (k4.mono (by lia)) i4 (g2.mono (by lia) (by lia) (by lia)))))
  |cons x0 xs0 =>
   have n2:0 < S2.n2.length:=by rw[he];exact Nat.zero_lt_succ _
   refine iteT ⟨_,rfl,_,rfl,st,wl,o,sl,m,_,24,rfl,by decide,k4.wa,k4.s,by lia,fun H5 c j5 S5=>⟨c,rfl,?_⟩⟩
   have k5:=k4.go j5 S5
   have i5:=i4.keep (j5.tups k4.s)
   cases c with
   |false=>exact iteF (nxtC (hV _ p b (k5.mono (by lia)) i5 (g2.mono (by lia) (by lia) (by lia))))
   |true =>
    refine iteT ⟨_,rfl,ixL k5.g.at_.p aI2 ⟨_,rfl,_,rfl,ixL k5.g.at_.p aI2 ⟨A1.a2,_,rfl,.inl (SqL.of k5.g.at_.h2),st,_,_,rfl,k5.s,by lia,by rw[ua];lia,fun H6 r j6 S6 r0 r1=>?_⟩⟩⟩
    obtain⟨i,rfl⟩:∃i:Nat,r=(i:Nat):=⟨r.toNat,by lia⟩
    rw[ua]at r1
    have hi:i < S2.n2.length:=by lia
    have k6:=k5.go j6 S6
    have i6:=i5.keep (j6.tups k5.s)
    refine⟨A1.a2,_,_,.str S2.n2[i],rfl,rfl,SqL.of k6.g.at_.h2,zJ (by rw[uk,um hi];rfl),_,rfl,sN3,fun p7 g7=>?_⟩
    exact hV _ p7 (.drop S2.n2[i] b) ((k6.same (zi g7 _)).mono (by lia)) ⟨p,zg,i6.keep (.of (zi g7 _))⟩ (g2.drop.mono (by lia) (by lia) (by lia))
end
def bdr(r:Nat):Nat:=100*30 ^ r
theorem JH(r:Nat):bdr (r+1)=30*bdr r:=by unfold bdr;rw[Nat.pow_succ];lia
theorem JI(r:Nat):bdr (r / 2)<=bdr r:=Nat.mul_le_mul_left _ (Nat.pow_le_pow_right (by decide) (Nat.div_le_self _ _))
theorem XJ(r:Nat):100<=bdr r:=Nat.le_mul_of_pos_right _ (Nat.pow_pos (by decide))
def szR:Nat->Nat
 |0=>400
 |1=>12001
 |2=>12002
 |r=>360000+r
def wtR:Nat->Nat
 |0=>1
 |1=>1201
 |2=>1202
 |r=>30000+r
theorem szwt{r:Nat}(h:r<=4):szR r+1<=szR (r+1)/\wtR r+1<=wtR (r+1)/\szR (r / 2)+szR (r / 2)+1<=szR (r+1)/\wtR (r / 2)+wtR (r / 2)<=wtR (r+1)/\24*(szR (r / 2)+69)+1<=szR (r+1)/\24*(wtR (r / 2)+44)<=wtR (r+1):=by
 have a:r=0\/r=1\/r=2\/r=3\/r=4:=by lia
 rcases a with rfl|rfl|rfl|rfl|rfl<;>decide
section
variable{K:ub}{st wl p:Addr}{B B':Nat}{H H' H0 H1 H2:Hp}{A:At}{S:AtS}{x:HO}{o:Wg}{sl:Bool}{m:Nat}
theorem WlAt.neS(h:WlAt H wl o sl m){c:Addr}{ns:List Str}(e:H c=some (.lst (ns.map V.str))):c≠wl:=fun z=>by
 obtain⟨_,_,_,_,_,h1,_⟩:=h.e
 rw[z,h1]at e
 match ns,e with
 |[],e=>cases e
 |[_],e=>simp at e
 |_::_::_,e=>simp at e
theorem WlAt.neR(h:WlAt H wl o sl m){c:Addr}{ns:List Addr}(e:H c=some (.lst (ns.map V.ref))):c≠wl:=fun z=>by
 obtain⟨_,_,_,_,_,h1,_⟩:=h.e
 rw[z,h1]at e
 match ns,e with
 |[],e=>cases e
 |_::_,e=>simp at e
theorem AtIs.kw(h:AtIs H A S)(T:Sta K H st B)(w:WlAt H wl o sl m)(k:Kw st wl H H'):AtIs H' A S:=by
 obtain⟨ts,g,_⟩:=h.h3
 refine h.by (fun c hc u q=>k.k _ _ (h.ne T c hc) ?_ q) (k.tups T w)
 simp only[At.l,uu,uD,or_false]at hc
 rcases hc with rfl|rfl|rfl|rfl|rfl|rfl
 ·exact w.neR (ns:=[A.a0,A.a1,A.a2,A.a3,A.a4]) h.p
 ·exact w.neS h.h0
 ·exact w.neS h.h1
 ·exact w.neS h.h2
 ·exact w.neR g
 ·exact w.neS h.h4
end
structure AskB(K:ub)(st wl:Addr)(o:Wg)(sl:Bool)(m:Nat)(H:Hp)(A:At)(S:AtS)(B k r:Nat):Prop where
 ok:WgOk o
 w:WlAt H wl o sl m
 m:m<=34
 a:AtIs H A S
 h:Hnd S r
 k:k+50*r<=300
 r:r<=5
 s:Sta K H st B
structure Mad(K:ub)(st wl:Addr)(o:Wg)(sl:Bool)(m:Nat)(H H':Hp)(B:Nat):Prop where
 k:Kw st wl H H'
 s:Sta K H' st B
 w:∃m',m'<=m/\WlAt H' wl o sl m'
def xk(K:ub)(n:Nat):Sp:=fun vs H Q _=>∃(st wl:Addr)(o:Wg)(sl:Bool)(m:Nat)(A:At)(S:AtS)(B k r:Nat),vs=[.ref st,.ref A.p,.int (k:Nat),.int (r:Nat),.ref wl]/\AskB K st wl o sl m H A S B k r/\r<=n/\B+bdr r < LIM/\∀H' p b,Mad K st wl o sl m H H' (B+bdr r)->IsBd H' b p->BdG o.D b (80+r+2*m) (szR r) (wtR r)->Q (.ref p) H'
def XL(K:ub)(n:Nat):Sp:=fun vs H Q _=>∃(st wl:Addr)(o:Wg)(sl:Bool)(m:Nat)(A:At)(S:AtS)(B k r:Nat)(x:Str),vs=[.ref st,.ref A.p,.str x,.int (k:Nat),.int ((r+1:Nat):Int),.ref wl]/\AskB K st wl o sl m H A S B k (r+1)/\S.n2≠[]/\r<=n/\B+10+bdr r < LIM/\∀H' p b,Mad K st wl o sl m H H' (B+10+bdr r)->IsBd H' b p->BdG o.D b (80+(r+1)+2*m) (szR (r+1)) (wtR (r+1))->Q (.ref p) H'
def JJ(K:ub)(n:Nat):Sp:=fun vs H Q _=>∃(st wl:Addr)(o:Wg)(sl:Bool)(m:Nat)(A:At)(S:AtS)(B k r:Nat),vs=[.ref st,.ref A.p,.int (k:Nat),.int ((r+1:Nat):Int),.ref wl]/\AskB K st wl o sl m H A S B k (r+1)/\r<=n/\B+80+bdr r < LIM/\∀H' p b,Mad K st wl o sl m H H' (B+80+bdr r)->IsBd H' b p->BdG o.D b (80+(r+1)+2*m) (szR (r+1)) (wtR (r+1))->Q (.ref p) H'
section
variable{K:ub}{st wl:Addr}{o:Wg}{sl:Bool}{m:Nat}{H0 H H':Hp}{A:At}{S S':AtS}{B B':Nat}
theorem Ask.set4(h:Ask K st wl o sl m H0 H A S B){l:Addr}{ns:List Str}(hl:H l=some (.lst (ns.map V.str)))(f:H0 l=none)(n:l∉A.l):Ask K st wl o sl m H0 (upd H A.p (.lst [.ref A.a0,.ref A.a1,.ref A.a2,.ref A.a3,.ref l])) { A with a4:=l } { S with n4:=ns } B/\Tups H (upd H A.p (.lst [.ref A.a0,.ref A.a1,.ref A.a2,.ref A.a3,.ref l])):=by
 obtain⟨B0,s0⟩:=h.s0
 have f0:H0 A.p=none:=h.g.fr _ (by simp)
 have nd:=h.g.nd
 simp only[At.l,Ur,uu,uD,or_false,not_or,UP,and_true,not_false_eq_true]at nd n
 obtain⟨⟨p0,p1,p2,p3,p4⟩,⟨q1,q2,q3,q4⟩,⟨r2,r3,r4⟩,⟨u3,u4⟩,v4⟩:=nd
 obtain⟨ts0,a3,a3'⟩:=h.g.at_.h3
 have a:=h.g.at_
 have t:Tups H (upd H A.p (.lst [.ref A.a0,.ref A.a1,.ref A.a2,.ref A.a3,.ref l])):=fun p xs q=>by
  rw[zm fun e=>by rw[e,a.p]at q;cases q]
  exact q
 refine⟨⟨h.ok,h.s0,h.w,⟨⟨zg,?_,?_,?_,⟨ts0,?_,a3'.keep fun _ _ z=>z.tk t⟩,?_⟩,?_,?_,h.g.kp.put f0⟩,s0.put f0 h.g.kp h.s,h.ne,h.l0,h.l1,h.l3⟩,t⟩
 ·rw[zm (Ne.symm p0)];exact a.h0
 ·rw[zm (Ne.symm p1)];exact a.h1
 ·rw[zm (Ne.symm p2)];exact a.h2
 ·rw[zm (Ne.symm p3)];exact a3
 ·rw[zm n.1];exact hl
 ·simp only[At.l,Ur,uu,uD,or_false,not_or,UP,and_true,not_false_eq_true]
  exact⟨⟨p0,p1,p2,p3,Ne.symm n.1⟩,⟨q1,q2,q3,Ne.symm n.2.1⟩,⟨r2,r3,Ne.symm n.2.2.1⟩,⟨u3,Ne.symm n.2.2.2.1⟩,Ne.symm n.2.2.2.2.1⟩
 ·intro c hc
  simp only[At.l,uu,uD,or_false]at hc
  rcases hc with rfl|rfl|rfl|rfl|rfl|rfl
  ·exact h.g.fr _ (by simp)
  ·exact h.g.fr _ (by simp)
  ·exact h.g.fr _ (by simp)
  ·exact h.g.fr _ (by simp)
  ·exact h.g.fr _ (by simp)
  ·exact f
theorem Ask.set0(h:Ask K st wl o sl m H0 H A S B){l:Addr}{ns:List Str}(hl:H l=some (.lst (ns.map V.str)))(f:H0 l=none)(n:l∉A.l)(hn:ns.length<=1000)(he:ns=[]\/S.n0≠[]):Ask K st wl o sl m H0 (upd H A.p (.lst [.ref l,.ref A.a1,.ref A.a2,.ref A.a3,.ref A.a4])) { A with a0:=l } { S with n0:=ns } B/\Tups H (upd H A.p (.lst [.ref l,.ref A.a1,.ref A.a2,.ref A.a3,.ref A.a4])):=by
 obtain⟨B0,s0⟩:=h.s0
 have f0:H0 A.p=none:=h.g.fr _ (by simp)
 have nd:=h.g.nd
 simp only[At.l,Ur,uu,uD,or_false,not_or,UP,and_true,not_false_eq_true]at nd n
 obtain⟨⟨p0,p1,p2,p3,p4⟩,⟨q1,q2,q3,q4⟩,⟨r2,r3,r4⟩,⟨u3,u4⟩,v4⟩:=nd
 obtain⟨ts0,a3,a3'⟩:=h.g.at_.h3
 have a:=h.g.at_
 have t:Tups H (upd H A.p (.lst [.ref l,.ref A.a1,.ref A.a2,.ref A.a3,.ref A.a4])):=fun p xs q=>by
  rw[zm fun e=>by rw[e,a.p]at q;cases q]
  exact q
 refine⟨⟨h.ok,h.s0,h.w,⟨⟨zg,?_,?_,?_,⟨ts0,?_,a3'.keep fun _ _ z=>z.tk t⟩,?_⟩,?_,?_,h.g.kp.put f0⟩,s0.put f0 h.g.kp h.s,fun z=>h.ne fun e=>?_,hn,h.l1,h.l3⟩,t⟩
 ·rw[zm n.1];exact hl
 ·rw[zm (Ne.symm p1)];exact a.h1
 ·rw[zm (Ne.symm p2)];exact a.h2
 ·rw[zm (Ne.symm p3)];exact a3
 ·rw[zm (Ne.symm p4)];exact a.h4
 ·simp only[At.l,Ur,uu,uD,or_false,not_or,UP,and_true,not_false_eq_true]
  exact⟨⟨Ne.symm n.1,p1,p2,p3,p4⟩,⟨n.2.2.1,n.2.2.2.1,n.2.2.2.2.1,n.2.2.2.2.2⟩,⟨r2,r3,r4⟩,⟨u3,u4⟩,v4⟩
 ·intro c hc
  simp only[At.l,uu,uD,or_false]at hc
  rcases hc with rfl|rfl|rfl|rfl|rfl|rfl
  ·exact h.g.fr _ (by simp)
  ·exact f
  ·exact h.g.fr _ (by simp)
  ·exact h.g.fr _ (by simp)
  ·exact h.g.fr _ (by simp)
  ·exact h.g.fr _ (by simp)
 ·obtain⟨e1,e2⟩:=Uq.mp e
  rcases he with rfl|he
  ·exact z (by show[]++S.n1=[];rw[e2];rfl)
  ·exact he e1
theorem Ask.b(h:Ask K st wl o sl m H0 H A S B)(hm:m<=34){k r:Nat}(hh:Hnd S r)(hk:k+50*r<=300)(hr:r<=5):AskB K st wl o sl m H A S B k r:=⟨h.ok,h.wa,hm,h.g.at_,hh,hk,hr,h.s⟩
theorem Mad.on(h:Mad K st wl o sl m H H' B)(k:Kp st H0 H):Mad K st wl o sl m H0 H' B:=⟨(Kw.kp k).trans h.k,h.s,h.w⟩
theorem Mad.new(h:Mad K st wl o sl m H H' B){p:Addr}{x:HO}(hp:H' p=none):Mad K st wl o sl m H (upd H' p x) B:=by
 obtain⟨m',h1,h2⟩:=h.w
 exact⟨h.k.new hp,h.s.new hp x,m',h1,h2.kp h.s (.of (zi hp x))⟩
theorem Mad.mono(h:Mad K st wl o sl m H H' B)(l:B<=B'):Mad K st wl o sl m H H' B':=⟨h.k,h.s.mono l,h.w⟩
end
theorem Ask.fresh{K:ub}{st wl:Addr}{o:Wg}{sl:Bool}{m:Nat}{H0 H:Hp}{A:At}{S:AtS}{B:Nat}(h:Ask K st wl o sl m H0 H A S B){l:Addr}(hl:H l=none):H0 l=none/\l∉A.l:=by
 refine⟨h.g.kp.free (h.s.ne hl) hl,fun hm=>?_⟩
 have a:=h.g.at_
 obtain⟨ts,a3,_⟩:=a.h3
 simp only[At.l,uu,uD,or_false]at hm
 rcases hm with e|e|e|e|e|e
 ·rw[e,a.p]at hl;cases hl
 ·rw[e,a.h0]at hl;cases hl
 ·rw[e,a.h1]at hl;cases hl
 ·rw[e,a.h2]at hl;cases hl
 ·rw[e,a3]at hl;cases hl
 ·rw[e,a.h4]at hl;cases hl
theorem wS(ns:List Str):(ns.map V.str).all yp=true:=by
 rw[List.all_map]
 exact u9.mpr fun _ _=>rfl
section
variable{P:Program}{w:World}{K:ub}{mg:Str->Option Value}{base:Heap}{f:Addr}{fd:FuncData}{n:Nat}
theorem scLHold:FnScope ["_law_state","_law_at","_law_x","_law_k","_law_room","_law_world_here","_law_name_here","_law_mine","_law_left"] lS2 (zn YK):=.ok
theorem zas:(["_law_state","_law_at","_law_x","_law_k","_law_room","_law_world_here","_law_name_here","_law_mine","_law_left","_law_one"]:List Str).Nodup:=by decide +kernel
theorem JK(F:Fun K "_law_hold" "_law_hold" YK f fd)(GD:Ca P w K mg base CX0 1 "_law_draw" lS4 (yj K))(GS:Ca P w K mg base CX0 2 "_law_slips" lS3 (yu K))(GC:Ca P w K mg base CX0 1 "_law_copy" lS12 wR)(GM:Ca P w K mg base CX0 1 "_law_name" lS9 spNm)(GB:Ca P w K mg base CX0 (6+3*n) "_law_body" lS0 (xk K n))(m_len:mg "len"=none):FnOk P w K mg base CX0 (6+3*n+1) f fd lS2 (XL K n):=by
 refine F.by scLHold (fun vs H Q E h=>?_) (fun cdv A' outer s H vs Q E hr h=>?_)
 ·obtain⟨st,wl,o,sl,m,A,S,B,k,r,x,rfl,_⟩:=h
  rfl
 obtain⟨st,wl,o,sl,m,A,S,B,k,r,x,rfl,hA,hn2,hrn,hB,q⟩:=h
 have hr1:Room 1 _:=hr.mono (by lia)
 have hr2:Room 2 _:=hr.mono (by lia)
 refine⟨_,
  (zh (sE 6 scLHold.nd (cA GM hr1 (jA2 (jv 5) (jv 3))))
  (zh (sE 7 scLHold.nd (zx zZ (xL 1) (zv (jA1 (jv 6)))))
  (zh (zw (jW.pt (yh (tN (xJ hr) (xL 1) (zv zA)) (yd (zE (cA GS hr2 (jA3 (jv 0) (jv 5) zk))))))
   (zj (sE 6 scLHold.nd (xX yb (xL 1) (cA GD hr1 (jA2 (jv 0) (jL m_len (xL 1)))))))
   (zj (zw (zE (cA GS hr2 (jA3 (jv 0) (jv 5) zk)))
    (zj (sE 6 scLHold.nd (xX yb (xL 1) (cA GD hr1 (jA2 (jv 0) (jL m_len (xL 1))))))) zp)))
  (zh (sE 8 scLHold.nd (cA GC hr1 (jA2 (jv 1) (zv (jA1 (jv 6))))))
  (zh (yz (zW ["_law_one"] rfl (zQ (jv 7)) (fun _ _ _ _ _=>(gN 9 zas)) (fun _ _ _ _ _=>(ya (jW.pt (xD (vk (zbZ K) (jv 9) (xn (ZX K) (jv 1) zk (fun _ _=>rfl)) (by with_unfolding_all rfl)) (yW (tN zz (jv 9) (jv 6))))))) (fun _ _ _ _ _=>(jv 9))) (yD (jv 8) zk))
  (zj (zq (zu (jA4 zo (jv 6) (jv 2) (cA GB hr (jA5 (jv 0) (jv 8) (zx ye (jv 3) zk) (zx xF (jv 4) zk) (jv 5)))))))))))),?_⟩
 have LM:LIM=4611686018427387904:=rfl
 have sl':=zN
 have b0:=hA.h.l0
 have b1:=hA.h.l1
 have b2:=hA.h.l2
 have b3:=hA.h.l3
 have b4:=hA.h.l4
 have bk:=hA.k
 have br:=hA.r
 have bm:=hA.m
 obtain⟨z1,z2,_⟩:=szwt (show r<=4 by lia)
 have a:=hA.a
 have l2:0 < S.n2.length:=tS.mpr hn2
 refine(show ∀(v:TS)(D:Ends),(∀(H1:Hp)(y:Str)(lm:Addr)(ms:List Str),Kp st H H1->Sta K H1 st (B+3)->H1 lm=some (.lst (ms.map V.str))->ms.length=S.n4.length+1->v D [some (.ref st),some (.ref A.p),some (.str x),some (.int (k:Nat)),some (.int ((r+1:Nat):Int)),some (.ref wl),some (.str y),some (.ref lm),none] H1)->(tSeq _ (tSeq _ (tSeq _ v)):TS) D [some (.ref st),some (.ref A.p),some (.str x),some (.int (k:Nat)),some (.int ((r+1:Nat):Int)),some (.ref wl),none,none,none] H from ?a1) _ _ ?a2
 case a1 =>
  intro v D hV
  obtain⟨tl,dl,ts,us,wv,w1,_⟩:=hA.w.e
  refine⟨_,rfl,_,rfl,wl,o.z,o.b,_,k,rfl,w1,hA.ok.z,?_⟩
  dsimp only
  refine⟨_,rfl,ixL a.p aI4 ⟨_,rfl,sN1,fun l1 g1=>⟨A.a4,l1,_,[.str (nm o.z o.b k)],rfl,rfl,old g1 a.h4,zg,by rw[ua];show S.n4.length+1<=_;lia,fun lm gm=>?_⟩⟩⟩
  have s1:=(zi g1 (.lst [.str (nm o.z o.b k)])).new (o:=.lst (S.n4.map V.str++[.str (nm o.z o.b k)])) gm
  have e1:(upd (upd H l1 (.lst [.str (nm o.z o.b k)])) lm (.lst (S.n4.map V.str++[.str (nm o.z o.b k)]))) lm=some (.lst ((S.n4++[nm o.z o.b k]).map V.str)):=by rw[zg,uj];rfl
  have ml:(S.n4++[nm o.z o.b k]).length=S.n4.length+1:=by rw[uc];rfl
  dsimp only
  generalize upd (upd H l1 (.lst [.str (nm o.z o.b k)])) lm (.lst (S.n4.map V.str++[.str (nm o.z o.b k)]))=H1 at *
  generalize S.n4++[nm o.z o.b k]=ms at *
  generalize nm o.z o.b k=y at *
  have a1:=a.same s1
  refine⟨_,rfl,ixL a1.p aI4 ⟨sN0,fun l2' g2=>⟨A.a4,l2',_,rfl,rfl,SqL.of (old g2 a1.h4),SqL.of zg,_,rfl,?_⟩⟩⟩
  have s2:=s1.new (o:=.lst []) g2
  have e2:=old (o:=.lst []) g2 e1
  generalize upd H1 l2' (.lst [])=H2 at *
  have S2:=hA.s.same s2
  have k2:Kp st H H2:=.of s2
  have pick:∀(c:Addr)(ns:List Str)(j:Nat)(H3:Hp),H3 A.p=some (.lst [.ref A.a0,.ref A.a1,.ref A.a2,.ref A.a3,.ref A.a4])->True:=fun _ _ _ _ _=>trivial
  cases he:S.n4 with
  |nil =>
   refine iteF (iteF ?_)
   refine⟨_,rfl,_,rfl,st,wl,o,sl,m,_,4,rfl,by decide,hA.w.kp hA.s k2,S2,by lia,fun H3 c k3 S3=>⟨c,rfl,?_⟩⟩
   have k03:=k2.trans k3
   have e3:=k3.k _ _ (S2.neS e2) e2
   cases c with
   |false=>exact iteF (nxtC (hV _ _ lm ms k03 (S3.mono (by lia)) e3 ml))
   |true =>
    have a3:=a.kp hA.s k03
    refine iteT ⟨_,rfl,ixL a3.p aI2 ⟨_,rfl,_,rfl,ixL a3.p aI2 ⟨A.a2,_,rfl,.inl (SqL.of a3.h2),st,_,_,rfl,S3,by lia,by rw[ua];lia,fun H4 i k4 S4 r0 r1=>?_⟩⟩⟩
    obtain⟨i,rfl⟩:∃i':Nat,i=(i':Nat):=⟨i.toNat,by lia⟩
    rw[ua]at r1
    have hi:i < S.n2.length:=by lia
    exact⟨A.a2,_,_,.str S.n2[i],rfl,rfl,SqL.of (k4.k _ _ (S3.neS a3.h2) a3.h2),zJ (by rw[uk,um hi];rfl),hV _ _ lm ms (k03.trans k4) (S4.mono (by lia)) (k4.k _ _ (S3.neS e3) e3) ml⟩
  |cons u0 us0 =>
   have n4:0 < S.n4.length:=by rw[he];exact Nat.zero_lt_succ _
   refine iteT ⟨_,rfl,_,rfl,st,wl,o,sl,m,_,4,rfl,by decide,hA.w.kp hA.s k2,S2,by lia,fun H3 c k3 S3=>⟨c,rfl,?_⟩⟩
   have k03:=k2.trans k3
   have e3:=k3.k _ _ (S2.neS e2) e2
   have a3:=a.kp hA.s k03
   cases c with
   |true =>
    refine iteT ⟨_,rfl,ixL a3.p aI4 ⟨_,rfl,_,rfl,ixL a3.p aI4 ⟨A.a4,_,rfl,.inl (SqL.of a3.h4),st,_,_,rfl,S3,by lia,by rw[ua];lia,fun H4 i k4 S4 r0 r1=>?_⟩⟩⟩
    obtain⟨i,rfl⟩:∃i':Nat,i=(i':Nat):=⟨i.toNat,by lia⟩
    rw[ua]at r1
    have hi:i < S.n4.length:=by lia
    exact⟨A.a4,_,_,.str S.n4[i],rfl,rfl,SqL.of (k4.k _ _ (S3.neS a3.h4) a3.h4),zJ (by rw[uk,um hi];rfl),hV _ _ lm ms (k03.trans k4) (S4.mono (by lia)) (k4.k _ _ (S3.neS e3) e3) ml⟩
   |false =>
    refine iteF ⟨_,rfl,_,rfl,st,wl,o,sl,m,_,4,rfl,by decide,hA.w.kp hA.s k03,S3,by lia,fun H4 c k4 S4=>⟨c,rfl,?_⟩⟩
    have k04:=k03.trans k4
    have e4:=k4.k _ _ (S3.neS e3) e3
    have a4:=a.kp hA.s k04
    cases c with
    |false=>exact iteF (nxtC (hV _ _ lm ms k04 (S4.mono (by lia)) e4 ml))
    |true =>
     refine iteT ⟨_,rfl,ixL a4.p aI2 ⟨_,rfl,_,rfl,ixL a4.p aI2 ⟨A.a2,_,rfl,.inl (SqL.of a4.h2),st,_,_,rfl,S4,by lia,by rw[ua];lia,fun H5 i k5 S5 r0 r1=>?_⟩⟩⟩
     obtain⟨i,rfl⟩:∃i':Nat,i=(i':Nat):=⟨i.toNat,by lia⟩
     rw[ua]at r1
     have hi:i < S.n2.length:=by lia
     exact⟨A.a2,_,_,.str S.n2[i],rfl,rfl,SqL.of (k5.k _ _ (S4.neS a4.h2) a4.h2),zJ (by rw[uk,um hi];rfl),hV _ _ lm ms (k04.trans k5) (S5.mono (by lia)) (k5.k _ _ (S4.neS e4) e4) ml⟩
 case a2 =>
 intro H1 y lm ms k1 S1 e1 ml
 have a1:=a.kp hA.s k1
 refine⟨_,rfl,_,rfl,sN1,fun l2' g2=>?_⟩
 have s2:=zi g2 (.lst [.str y])
 refine⟨A,S,l2',[y],rfl,a1.same s2,zg,by show S.n0.length+1<=_;lia,by show S.n2.length+1<=_;lia,fun H3 A3 s3 a3 nd fr=>?_⟩
 have s13:=s2.trans s3
 have w1:=hA.w.kp hA.s k1
 have hH:Hnd ⟨S.n0++[y],S.n1,S.n2++[y],S.t3,S.n4⟩ r:=⟨fun _ z=>by simp at z,by show(S.n0++[y]).length+_<=_;rw[uc];show S.n0.length+1+_<=_;lia,b1,by show(S.n2++[y]).length+_<=_;rw[uc];show S.n2.length+1+_<=_;lia,by show S.t3.length+_<=_;lia,by show S.n4.length+_<=_;lia⟩
 have k3:=Ask.mk' hA.ok w1 S1 s13 a3 nd (fun c hc=>zO s2 (fr c hc)) hH
 have e3:=s13 _ _ e1
 have b4':=(a1.same s13).h4
 have p4':=(a1.same s13).p
 dsimp only
 generalize upd H1 l2' (.lst [.str y])=Hx at *
 refine⟨_,rfl,lm,rfl,⟨_,SqL.of e3⟩,ym (xs:=ms.map V.str) (fun i τ ys H'=>H3=H'/\(∃v,τ=[some (.ref st),some (.ref A.p),some (.str x),some (.int (k:Nat)),some (.int ((r+1:Nat):Int)),some (.ref wl),some (.str y),some (.ref lm),some (.ref A3.p),v])/\∃us:List Str,ys=us.map V.str/\us.length<=i) ⟨rfl,⟨none,rfl⟩,[],rfl,ui _⟩ (fun i τ ys H' _ h=>by rw[<- h.1];exact SqL.of e3) ?_ ?_⟩
 ·rintro i v τ ys H' hv ⟨rfl,⟨v',rfl⟩,us,rfl,ul⟩
  rw[uk]at hv
  obtain⟨u,hu,rfl⟩:=uf.mp hv
  have hi:i < ms.length:=(ug.mp hu).1
  have go:∀b:Bool,if b=true then(tVar 9:TE) [some (.ref st),some (.ref A.p),some (.str x),some (.int (k:Nat)),some (.int ((r+1:Nat):Int)),some (.ref wl),some (.str y),some (.ref lm),some (.ref A3.p),some (.str u)] H3 (fun v4 H4=>(us.map V.str).length < sizeLine/\H3=H4/\(∃v,([some (.ref st),some (.ref A.p),some (.str x),some (.int (k:Nat)),some (.int ((r+1:Nat):Int)),some (.ref wl),some (.str y),some (.ref lm),some (.ref A3.p),some (.str u)]:St)=[some (.ref st),some (.ref A.p),some (.str x),some (.int (k:Nat)),some (.int ((r+1:Nat):Int)),some (.ref wl),some (.str y),some (.ref lm),some (.ref A3.p),v])/\∃us':List Str,us.map V.str++[v4]=us'.map V.str/\us'.length<=i+1)else(H3=H3/\(∃v,([some (.ref st),some (.ref A.p),some (.str x),some (.int (k:Nat)),some (.int ((r+1:Nat):Int)),some (.ref wl),some (.str y),some (.ref lm),some (.ref A3.p),some (.str u)]:St)=[some (.ref st),some (.ref A.p),some (.str x),some (.int (k:Nat)),some (.int ((r+1:Nat):Int)),some (.ref wl),some (.str y),some (.ref lm),some (.ref A3.p),v])/\∃us':List Str,us.map V.str=us'.map V.str/\us'.length<=i+1):=fun b=>by
   cases b with
   |true=>exact iteT ⟨_,rfl,by rw[ua];lia,rfl,⟨_,rfl⟩,us++[u],by rw[uj];rfl,by rw[uc];show us.length+1<=_;lia⟩
   |false=>exact iteF ⟨rfl,⟨_,rfl⟩,us,rfl,by lia⟩
  refine⟨_,rfl,_,rfl,ixL p4' aI4 ⟨A.a4,_,rfl,.inl (SqL.of b4'),rfl,wS _,_,rfl,?_⟩⟩
  exact ite2 (fun _=>go true) (fun _=>⟨_,rfl,_,rfl,rfl,_,rfl,go _⟩)
 rintro τ ys H' ⟨rfl,_,us,rfl,ul⟩ l5 g5
 rw[ua]at ul
 have s5:=zi g5 (.lst (us.map V.str))
 have k5:=k3.same s5
 have fr5:=k3.fresh g5
 have e5:=zg (H:=H3) (a:=l5) (o:=.lst (us.map V.str))
 obtain⟨k6,t6⟩:=k5.set4 e5 fr5.1 fr5.2
 generalize upd H3 l5 (.lst (us.map V.str))=H5 at *
 refine⟨_,rfl,A3.p,_,4,4,rfl,rfl,k5.g.at_.p,rfl,?_⟩
 dsimp only[List.set]
 generalize upd H5 A3.p (.lst [.ref A3.a0,.ref A3.a1,.ref A3.a2,.ref A3.a3,.ref l5])=H6 at *
 have hH6:Hnd ⟨S.n0++[y],S.n1,S.n2++[y],S.t3,us⟩ r:=⟨hH.ne,hH.l0,hH.l1,hH.l2,hH.l3,by show us.length+_<=_;lia⟩
 refine⟨_,rfl,_,rfl,_,rfl,_,rfl,_,rfl,_,_,rfl,rfl,_,rfl,_,_,rfl,rfl,_,rfl,st,wl,o,sl,m,{ A3 with a4:=l5 },_,_,k+1,r,?_,k6.b bm hH6 (by lia) (by lia),hrn,by lia,fun H7 p b md ib gb=>?_⟩
 ·show[V.ref st,.ref A3.p,.int ((k:Nat)+1),.int (((r+1:Nat):Int)-1),.ref wl]=_
  rw[show((k:Nat):Int)+1=((k+1:Nat):Int) by lia,show((r+1:Nat):Int)-1=((r:Nat):Int) by lia]
 refine⟨sN4,fun p8 g8=>?_⟩
 exact q _ p8 (.hold y x b) (((md.on (k1.trans k6.g.kp)).new g8).mono (by lia)) ⟨p,zg,ib.keep (.of (zi g8 _))⟩ (gb.hold.mono (by lia) (by lia) (by lia))
theorem scLLet:FnScope ["_law_state","_law_at","_law_k","_law_room","_law_world_here","_law_left","_law_deed_here","_law_name_here"] lS0 (zn VJ):=.ok
theorem zcq:(["_law_state","_law_at","_law_k","_law_room","_law_world_here","_law_left","_law_deed_here","_law_name_here","_law_one"]:List Str).Nodup:=by decide +kernel
theorem zat(F:Fun K "_law_let" "_law_let" VJ f fd)(GD:Ca P w K mg base CX0 1 "_law_draw" lS4 (yj K))(GS:Ca P w K mg base CX0 2 "_law_slips" lS3 (yu K))(GC:Ca P w K mg base CX0 1 "_law_copy" lS12 wR)(GM:Ca P w K mg base CX0 1 "_law_name" lS9 spNm)(GE:Ca P w K mg base CX0 5 "_law_deed" lS1 (XI K))(GB:Ca P w K mg base CX0 (6+3*n) "_law_body" lS0 (xk K n))(m_len:mg "len"=none):FnOk P w K mg base CX0 (6+3*n+1) f fd lS0 (JJ K n):=by
 refine F.by scLLet (fun vs H Q E h=>?_) (fun cdv A' outer s H vs Q E hr h=>?_)
 ·obtain⟨st,wl,o,sl,m,A,S,B,k,r,rfl,_⟩:=h
  rfl
 obtain⟨st,wl,o,sl,m,A,S,B,k,r,rfl,hA,hrn,hB,q⟩:=h
 have hr1:Room 1 _:=hr.mono (by lia)
 have hr2:Room 2 _:=hr.mono (by lia)
 have hr5:Room 5 _:=hr.mono (by lia)
 refine⟨_,
  (zh (sE 5 scLLet.nd (cA GC hr1 (jA2 (jv 1) (zv zA))))
  (zh (sE 6 scLLet.nd (cA GE hr5 (jA3 (jv 0) (jv 5) (jv 4))))
  (zh (sE 7 scLLet.nd (cA GM hr1 (jA2 (jv 4) (jv 2))))
  (zh (zw (jW.pt (yh (tN (xJ hr) (xL 5) (zv zA)) (yd (zE (cA GS hr2 (jA3 (jv 0) (jv 4) zk))))))
   (zh (sE 7 scLLet.nd (xX yb (xL 5) (cA GD hr1 (jA2 (jv 0) (jL m_len (xL 5))))))
   (zj (yz (zW ["_law_one"] rfl (zQ (xL 5)) (fun _ _ _ _ _=>(gN 8 zcq)) (fun _ _ _ _ _=>(ya (tN wY (jv 8) (jv 7)))) (fun _ _ _ _ _=>(jv 8))) (yD (jv 5) zk)))) zp)
  (zj (zq (zu (jA4 zo (jv 7) (jv 6) (cA GB hr (jA5 (jv 0) (cA GC hr1 (jA2 (jv 5) (zv (jA1 (jv 7))))) (zx ye (jv 2) zk) (zx xF (jv 3) zk) (jv 4))))))))))),?_⟩
 have LM:LIM=4611686018427387904:=rfl
 have sl':=zN
 have b0:=hA.h.l0
 have b1:=hA.h.l1
 have b2:=hA.h.l2
 have b3:=hA.h.l3
 have b4:=hA.h.l4
 have bk:=hA.k
 have br:=hA.r
 have bm:=hA.m
 obtain⟨z1,z2,_⟩:=szwt (show r<=4 by lia)
 have a:=hA.a
 refine(show ∀(v:TS)(D:Ends),(∀(H1:Hp)(y:Str)(A1:At)(S1:AtS)(pd:Addr)(d:Dd),Ask K st wl o sl m H H1 A1 S1 (B+72)->S1.n0.length<=S.n0.length->S1.n1=S.n1->S1.n2=S.n2->S1.t3.length<=S.t3.length->S1.n4.length<=S.n4.length->IsDd H1 d pd->DdG o.D d->v D [some (.ref st),some (.ref A.p),some (.int (k:Nat)),some (.int ((r+1:Nat):Int)),some (.ref wl),some (.ref A1.p),some (.ref pd),some (.str y)] H1)->(tSeq _ (tSeq _ (tSeq _ (tSeq _ v))):TS) D [some (.ref st),some (.ref A.p),some (.int (k:Nat)),some (.int ((r+1:Nat):Int)),some (.ref wl),none,none,none] H from ?a1) _ _ ?a2
 case a1 =>
  intro v D hV
  refine⟨_,rfl,sN0,fun nl hnl=>?_⟩
  have s1:=zi hnl (.lst [])
  refine⟨A,S,nl,[],rfl,hA.a.same s1,zg,by show S.n0.length+0<=_;lia,by show S.n2.length+0<=_;lia,fun H1 A1 s2 a1 nd fr=>?_⟩
  rw[uO,uO]at a1
  have s12:=s1.trans s2
  have k1:=Ask.mk' hA.ok hA.w hA.s s12 a1 nd (fun c hc=>zO s1 (fr c hc)) hA.h
  dsimp only
  generalize upd H nl (.lst [])=Hn at *
  refine⟨_,rfl,_,rfl,_,rfl,st,wl,o,sl,m,H,A1,S,B,rfl,k1,by lia,fun H3 pd d S3 k3 t3 le3 id3 gd3=>?_⟩
  obtain⟨tl,dl,ts,us,wv,w1,_⟩:=k3.wa.e
  refine⟨_,rfl,_,rfl,wl,o.z,o.b,_,k,rfl,w1,hA.ok.z,?_⟩
  have c0:=le3.l0
  have c3:=le3.l3
  have c4:=le3.e4
  dsimp only
  generalize nm o.z o.b k=y
  refine⟨_,rfl,ixL k3.g.at_.p aI4 ⟨sN0,fun l2' g2=>⟨A1.a4,l2',_,rfl,rfl,SqL.of (old g2 k3.g.at_.h4),SqL.of zg,_,rfl,?_⟩⟩⟩
  have s4:=zi g2 (.lst [])
  have k4:=k3.same s4
  have id4:=id3.keep (Tups.of s4)
  generalize upd H3 l2' (.lst [])=H4 at *
  cases he:S3.n4 with
  |nil=>exact iteF (iteF (nxtC (hV _ _ A1 S3 pd d (k4.mono (by lia)) c0 le3.e1 le3.e2 c3 (by rw[c4];exact ui _) id4 gd3)))
  |cons u0 us0 =>
   have n4:0 < S3.n4.length:=by rw[he];exact Nat.zero_lt_succ _
   refine iteT ⟨_,rfl,_,rfl,st,wl,o,sl,m,_,4,rfl,by decide,k4.wa,k4.s,by lia,fun H5 c j5 S5=>⟨c,rfl,?_⟩⟩
   have k5:=k4.go j5 S5
   have id5:=id4.keep (j5.tups k4.s)
   cases c with
   |false=>exact iteF (nxtC (hV _ _ A1 S3 pd d (k5.mono (by lia)) c0 le3.e1 le3.e2 c3 (by rw[c4];exact ui _) id5 gd3))
   |true =>
    refine iteT ⟨_,rfl,ixL k5.g.at_.p aI4 ⟨_,rfl,_,rfl,ixL k5.g.at_.p aI4 ⟨A1.a4,_,rfl,.inl (SqL.of k5.g.at_.h4),st,_,_,rfl,k5.s,by lia,by rw[ua];lia,fun H6 i j6 S6 r0 r1=>?_⟩⟩⟩
    obtain⟨i,rfl⟩:∃i':Nat,i=(i':Nat):=⟨i.toNat,by lia⟩
    rw[ua]at r1
    have hi:i < S3.n4.length:=by lia
    have k6:=k5.go j6 S6
    have id6:=id5.keep (j6.tups k5.s)
    refine⟨A1.a4,_,_,.str S3.n4[i],rfl,rfl,SqL.of k6.g.at_.h4,zJ (by rw[uk,um hi];rfl),?_⟩
    generalize S3.n4[i]=y' at *
    refine⟨_,rfl,ixL k6.g.at_.p aI4 ⟨A1.a4,rfl,⟨_,SqL.of k6.g.at_.h4⟩,ym (xs:=S3.n4.map V.str) (fun i τ ys H'=>H6=H'/\(∃v,τ=[some (.ref st),some (.ref A.p),some (.int (k:Nat)),some (.int ((r+1:Nat):Int)),some (.ref wl),some (.ref A1.p),some (.ref pd),some (.str y'),v])/\∃us:List Str,ys=us.map V.str/\us.length<=i) ⟨rfl,⟨none,rfl⟩,[],rfl,ui _⟩ (fun i τ ys H' _ h=>by rw[<- h.1];exact SqL.of k6.g.at_.h4) ?_ ?_⟩⟩
    ·rintro i v τ ys H' hv ⟨rfl,⟨v',rfl⟩,us,rfl,ul⟩
     rw[uk]at hv
     obtain⟨u,hu,rfl⟩:=uf.mp hv
     have hi:i < S3.n4.length:=(ug.mp hu).1
     have nb:S3.n4.length<=100:=by rw[c4];lia
     exact⟨_,rfl,_,rfl,rfl,_,rfl,ite2 (fun _=>⟨_,rfl,by rw[ua];lia,rfl,⟨_,rfl⟩,us++[u],by rw[uj];rfl,by rw[uc];show us.length+1<=_;lia⟩) (fun _=>⟨rfl,⟨_,rfl⟩,us,rfl,by lia⟩)⟩
    ·rintro τ ys H' ⟨rfl,_,us,rfl,ul⟩ l7 g7
     rw[ua,c4]at ul
     have s7:=zi g7 (.lst (us.map V.str))
     have k7:=k6.same s7
     have fr7:=k6.fresh g7
     have e7:=zg (H:=H6) (a:=l7) (o:=.lst (us.map V.str))
     have id7:=id6.keep (Tups.of s7)
     obtain⟨k8,t8⟩:=k7.set4 e7 fr7.1 fr7.2
     generalize upd H6 l7 (.lst (us.map V.str))=H7 at *
     refine⟨_,rfl,A1.p,_,4,4,rfl,rfl,k7.g.at_.p,rfl,?_⟩
     exact hV _ _ { A1 with a4:=l7 } _ pd d (k8.mono (by lia)) c0 le3.e1 le3.e2 c3 ul (id7.keep t8) gd3
 case a2 =>
 intro H1 y A1 S1 pd d k1 c0 c1 c2 c3 c4 id1 gd1
 have c1':S1.n1.length=S.n1.length:=by rw[c1]
 have c2':S1.n2.length=S.n2.length:=by rw[c2]
 refine⟨_,rfl,_,rfl,_,rfl,_,rfl,_,rfl,sN1,fun l2' g2=>?_⟩
 have s2:=zi g2 (.lst [.str y])
 refine⟨A1,S1,l2',[y],rfl,k1.g.at_.same s2,zg,by show S1.n0.length+1<=_;lia,by show S1.n2.length+1<=_;lia,fun H3 A3 s3 a3 nd fr=>?_⟩
 have s13:=s2.trans s3
 have hH:Hnd ⟨S1.n0++[y],S1.n1,S1.n2++[y],S1.t3,S1.n4⟩ r:=⟨fun _ z=>by simp at z,by show(S1.n0++[y]).length+_<=_;rw[uc];show S1.n0.length+1+_<=_;lia,by show S1.n1.length<=_;lia,by show(S1.n2++[y]).length+_<=_;rw[uc];show S1.n2.length+1+_<=_;lia,by show S1.t3.length+_<=_;lia,by show S1.n4.length+_<=_;lia⟩
 have k3:=Ask.mk' hA.ok k1.wa k1.s s13 a3 nd (fun c hc=>zO s2 (fr c hc)) hH
 refine⟨_,rfl,_,_,rfl,rfl,_,rfl,_,_,rfl,rfl,_,rfl,st,wl,o,sl,m,A3,_,_,k+1,r,?_,k3.b bm hH (by lia) (by lia),hrn,by lia,fun H7 p b md ib gb=>?_⟩
 ·show[V.ref st,.ref A3.p,.int ((k:Nat)+1),.int (((r+1:Nat):Int)-1),.ref wl]=_
  rw[show((k:Nat):Int)+1=((k+1:Nat):Int) by lia,show((r+1:Nat):Int)-1=((r:Nat):Int) by lia]
 refine⟨sN4,fun p8 g8=>?_⟩
 have md1:=md.on ((Kp.of s13).trans .refl)
 exact q _ p8 (.lt y d b) (((md1.on k1.g.kp).new g8).mono (by lia)) ⟨pd,p,zg,((id1.keep (Tups.of s13)).keep (md.k.tups k3.s k3.wa)).keep (Tups.of (zi g8 _)),ib.keep (.of (zi g8 _))⟩ ((gb.lt gd1).mono (by lia) (by lia) (by lia))
def arR(a:ArmR)(H:Hp)(p:Addr):Prop:=∃q s,H p=some (.tup [.str a.t,.ref q,.str a.m,.str a.k,.ref s])/\H q=some (.tup (a.ns.map V.str))/\IsBd H a.b s
theorem arR.tk{a:ArmR}{H H':Hp}{p:Addr}(k:Tups H H')(h:arR a H p):arR a H' p:=let ⟨q,s,h1,h2,h3⟩:=h;⟨q,s,k _ _ h1,k _ _ h2,h3.keep k⟩
structure ArG(ow:Ow)(a:ArmR)(d s t:Nat):Prop where
 n:a.ns.length<=9
 m:a.m="take"\/a.m="look"
 b:BdG ow a.b d s t
def JL(K:ub)(n:Nat):Sp:=fun vs H Q _=>∃(st wl t:Addr)(o:Wg)(sl:Bool)(m:Nat)(A:At)(S:AtS)(B k r:Nat)(x:Str)(tg:Str×Nat×Nat),vs=[.ref st,.ref A.p,.str x,.ref t,.int (k:Nat),.int ((r+1:Nat):Int),.ref wl]/\AskB K st wl o sl m H A S B k (r+1)/\tgR tg H t/\tg.2.1<=9/\r / 2<=n/\B+6+bdr (r / 2) < LIM/\∀H' p a,Mad K st wl o sl m H H' (B+6+bdr (r / 2))->arR a H' p->ArG o.D a (80+r / 2+2*m) (szR (r / 2)+2*m) (wtR (r / 2)+m)->Q (.ref p) H'
theorem zcX:∀n:Fin 301,(Str.ofString (toString ((n.val:Nat):Int))).length<=3/\((n.val:Nat):Int).natAbs.log2 < 1920:=by decide +kernel
theorem numL{k:Nat}(h:k<=300):(Str.ofString (toString ((k:Nat):Int))).length<=3/\((k:Nat):Int).natAbs.log2 < 1920:=zcX ⟨k,by lia⟩
theorem scLArm:FnScope ["_law_state","_law_at","_law_x","_law_one","_law_k","_law_room","_law_world_here","_law_names","_law_left","_law_mode","_law_token_here","_law_news","_law_inner","_law_new"] lS7 (zn VI):=.ok
theorem XM:(["_law_state","_law_at","_law_x","_law_one","_law_k","_law_room","_law_world_here","_law_names","_law_left","_law_mode","_law_token_here","_law_news","_law_inner","_law_new","_law_j"]:List Str).Nodup:=by decide +kernel
theorem zau:(["_law_state","_law_at","_law_x","_law_one","_law_k","_law_room","_law_world_here","_law_names","_law_left","_law_mode","_law_token_here","_law_news","_law_inner","_law_new","_law_name_here"]:List Str).Nodup:=by decide +kernel
theorem zav(F:Fun K "_law_arm" "_law_arm" VI f fd)(GD:Ca P w K mg base CX0 1 "_law_draw" lS4 (yj K))(GS:Ca P w K mg base CX0 2 "_law_slips" lS3 (yu K))(GC:Ca P w K mg base CX0 1 "_law_copy" lS12 wR)(GM:Ca P w K mg base CX0 1 "_law_name" lS9 spNm)(GB:Ca P w K mg base CX0 (6+3*n) "_law_body" lS0 (xk K n))(m_len:mg "len"=none)(m_range:mg "range"=none)(m_tuple:mg "tuple"=none)(m_str:mg "str"=none):FnOk P w K mg base CX0 (6+3*n+1) f fd lS7 (JL K n):=by
 refine F.by scLArm (fun vs H Q E h=>?_) (fun cdv A' outer s H vs Q E hr h=>?_)
 ·obtain⟨st,wl,t,o,sl,m,A,S,B,k,r,x,tg,rfl,_⟩:=h
  rfl
 obtain⟨st,wl,t,o,sl,m,A,S,B,k,r,x,⟨tag,size,sort⟩,rfl,hA,ht,hz,hrn,hB,q⟩:=h
 have hr1:Room 1 _:=hr.mono (by lia)
 have hr2:Room 2 _:=hr.mono (by lia)
 refine⟨_,
  (zh (yC ["_law_j"] (i:=7) scLArm.nd rfl (Or.inl rfl) rfl (yc rfl m_range (jA1 (xT 3))) (fun _ _ _ _ _=>(gN 14 XM)) (fun _ _ _ _ _=>zV) (fun _ _ _ _ _=>(cA GM hr1 (jA2 (jv 6) (zx ye (jv 4) (jv 14))))))
  (zh (sE 8 scLArm.nd (cA GC hr1 (jA2 (jv 1) (jv 7))))
  (zh (sE 9 scLArm.nd zo)
  (zh (sE 10 scLArm.nd zo)
  (zh (zw (jW.pt (xD (jW.pt (yh (vk wL (jv 2) (xL 8) (by with_unfolding_all rfl)) (yd (tN wm (cA GD hr1 (jA2 (jv 0) zk)) zk)))) (yW (zE (cA GS hr2 (jA3 (jv 0) (jv 6) zk))))))
   (zh (sE 9 scLArm.nd zo)
   (zj (yz (zW ["_law_name_here"] rfl (zQ (xL 8)) (fun _ _ _ _ _=>(gN 14 zau)) (fun _ _ _ _ _=>(ya (tN wY (jv 14) (jv 2)))) (fun _ _ _ _ _=>(jv 14))) (yD (jv 8) zk)))) zp)
  (zh (zw (jW.pt (xD (jW.pt (yh (tN zz (jv 9) zo) (yh (tN wm (xT 3) zk) (yd (tN wm (cA GD hr1 (jA2 (jv 0) zk)) zk))))) (yW (zE (cA GS hr2 (jA3 (jv 0) (jv 6) zk))))))
   (zh (sE 10 scLArm.nd (zx yv zo (zK Yw rfl m_str PyProof.Rows.boot_str (jA1 (jv 4)))))
   (zh (zw (jW.pt (yh (tN (xJ hr) (xL 8) (zv zA)) (yd (zE (cA GS hr2 (jA3 (jv 0) (jv 6) zk))))))
    (zj (sE 10 scLArm.nd (xn vD (xn yb (xL 8) zk (fun _ _=>rfl)) zk (fun _ _=>rfl)))) zp)
   (zj (zy (xg uJ uZ u6 yf (xL 8) (jA1 (zu (jA2 (jv 10) (xT 3))))))))) zp)
  (zh (yC ["_law_j"] (i:=11) scLArm.nd rfl (Or.inl rfl) rfl (yc rfl m_range (jA1 (xL 6))) (fun _ _ _ _ _=>(gN 14 XM)) (fun _ _ _ _ _=>zV) (fun _ _ _ _ _=>(cA GM hr1 (jA2 (jv 6) (zx ye (zx ye (jv 4) (xn (wb K) (jv 3) zk (fun _ _=>rfl))) (jv 14))))))
  (zh (yz zk (yD (jv 6) zk))
  (zh (sE 12 scLArm.nd (cA GB hr (jA5 (jv 0) (jv 8) (zx ye (zx ye (jv 4) (xT 3)) (jL m_len (jv 11))) (zx xV (zx xF (jv 5) zk) zk) (jv 6))))
  (zh (yg PassesOwn.never rfl (zQ (jv 11)) (gN 13 scLArm.nd)
   (zj (sE 12 scLArm.nd (zu (jA4 zo (jv 13) (zu (jA2 zo (jv 4))) (zu (jA3 zo (jv 13) (jv 12))))))))
  (zj (zq (zu (jA5 (xT 3) (zK zM rfl m_tuple uS (jA1 (jv 7))) (jv 9) (jv 10) (jv 12))))))))))))))),?_⟩
 have LM:LIM=4611686018427387904:=rfl
 have sl':=zN
 have b0:=hA.h.l0
 have b1:=hA.h.l1
 have b2:=hA.h.l2
 have b3:=hA.h.l3
 have b4:=hA.h.l4
 have bk:=hA.k
 have br:=hA.r
 have bm:=hA.m
 dsimp only at hz
 have a:=hA.a
 refine(show ∀(v:TS)(D:Ends),(∀(H1 Hn:Hp)(ln:Addr)(ns:List Str)(A1:At)(S1:AtS),Same H Hn->Hn ln=some (.lst (ns.map V.str))->ns.length=size->Ask K st wl o sl m Hn H1 A1 S1 B->S1.n0.length<=S.n0.length+9->S1.n1.length<=9->S1.n2.length<=S.n2.length+9->S1.t3.length=S.t3.length->S1.n4.length=S.n4.length->v D [some (.ref st),some (.ref A.p),some (.str x),some (.ref t),some (.int (k:Nat)),some (.int ((r+1:Nat):Int)),some (.ref wl),some (.ref ln),some (.ref A1.p),some (.str "look"),some (.str ""),none,none,none] H1)->(tSeq _ (tSeq _ (tSeq _ (tSeq _ v))):TS) D [some (.ref st),some (.ref A.p),some (.str x),some (.ref t),some (.int (k:Nat)),some (.int ((r+1:Nat):Int)),some (.ref wl),none,none,none,none,none,none,none] H from ?a1) _ _ ?a2
 case a1 =>
  intro v D hV
  obtain⟨tl,dl,ts,us,wv,w1,_⟩:=hA.w.e
  refine⟨_,rfl,ixT ht aI1 ⟨((size:Nat):Int),rfl,by lia,by lia,yx (n:=((size:Nat):Int).toNat) (fun i τ ys H'=>H=H'/\(∃y,τ=[some (.ref st),some (.ref A.p),some (.str x),some (.ref t),some (.int (k:Nat)),some (.int ((r+1:Nat):Int)),some (.ref wl),none,none,none,none,none,none,none,y])/\∃ns:List Str,ys=ns.map V.str/\ns.length=i) ⟨rfl,⟨none,rfl⟩,[],rfl,rfl⟩ ?_ ?_⟩⟩
  ·rintro i τ ys H' hi ⟨rfl,⟨y,rfl⟩,ns,rfl,nl⟩
   refine⟨_,rfl,_,rfl,_,rfl,_,_,rfl,rfl,wl,o.z,o.b,_,k+i,?_,w1,hA.ok.z,by rw[ua];lia,rfl,⟨_,rfl⟩,ns++[nm o.z o.b (k+i)],by rw[uj];rfl,by rw[uc,nl];rfl⟩
   show[V.ref wl,V.int (((k:Nat):Int)+(0+((i:Nat):Int)))]=_
   rw[show((k:Nat):Int)+(0+((i:Nat):Int))=((k+i:Nat):Int) by lia]
  rintro τ ys H' ⟨rfl,_,ns,rfl,nl⟩ ln gn
  have s1:=zi gn (.lst (ns.map V.str))
  have e1:=zg (H:=H) (a:=ln) (o:=.lst (ns.map V.str))
  have w1':=hA.w.kp hA.s (Kp.of s1)
  have S1:=hA.s.same s1
  dsimp only
  generalize upd H ln (.lst (ns.map V.str))=Hn at *
  have nz:ns.length=size:=by lia
  refine⟨_,rfl,_,rfl,A,S,ln,ns,rfl,a.same s1,e1,by lia,by lia,fun H1 A1 s2 a1 nd fr=>?_⟩
  have hH:Hnd ⟨S.n0++ns,S.n1,S.n2++ns,S.t3,S.n4⟩ 0:=⟨fun z1 z2=>by
    obtain⟨c1,c2⟩:=Uq.mp z2
    exact hA.h.ne (fun e=>z1 (by show(S.n0++ns)++S.n1=[];obtain⟨d1,d2⟩:=Uq.mp e;rw[d1,d2,c2];rfl)) c1,by show(S.n0++ns).length+_<=_;rw[uc];lia,b1,by show(S.n2++ns).length+_<=_;rw[uc];lia,by show S.t3.length+_<=_;lia,by show S.n4.length+_<=_;lia⟩
  have k1:=Ask.mk' hA.ok w1' S1 s2 a1 nd fr hH
  exact hV H1 Hn ln ns A1 _ s1 e1 nz k1 (by show(S.n0++ns).length<=_;rw[uc];lia) b1 (by show(S.n2++ns).length<=_;rw[uc];lia) rfl rfl
 case a2 =>
 intro H1 Hn ln ns A1 S1 sn en nz k1 c0 c1 c2 c3 c4
 have htn:tgR (tag,size,sort) Hn t:=ht.tk (.of sn)
 obtain⟨Bn,Sn⟩:=k1.s0
 refine(show ∀(v:TS)(D:Ends),(∀(H1:Hp)(A1:At)(S1:AtS)(md:Str),Ask K st wl o sl m Hn H1 A1 S1 (B+2)->S1.n0.length<=S.n0.length+9->S1.n1.length<=9->S1.n2.length<=S.n2.length+9->S1.t3.length=S.t3.length->S1.n4.length=S.n4.length->(md="take"\/md="look")->v D [some (.ref st),some (.ref A.p),some (.str x),some (.ref t),some (.int (k:Nat)),some (.int ((r+1:Nat):Int)),some (.ref wl),some (.ref ln),some (.ref A1.p),some (.str md),some (.str ""),none,none,none] H1)->(tSeq _ v:TS) D [some (.ref st),some (.ref A.p),some (.str x),some (.ref t),some (.int (k:Nat)),some (.int ((r+1:Nat):Int)),some (.ref wl),some (.ref ln),some (.ref A1.p),some (.str "look"),some (.str ""),none,none,none] H1 from ?b1) _ _ ?b2
 case b1 =>
  intro v D hV
  have tk:∀(H2:Hp),Ask K st wl o sl m Hn H2 A1 S1 (B+2)->∃(y:V),([some (V.ref A1.p)]:St)[0]?=some (some y)/\∀(l:Addr)(us:List Str),H2 l=none->us.length<=S1.n0.length->v D [some (.ref st),some (.ref A.p),some (.str x),some (.ref t),some (.int (k:Nat)),some (.int ((r+1:Nat):Int)),some (.ref wl),some (.ref ln),some (.ref A1.p),some (.str "take"),some (.str ""),none,none,none] (upd (upd H2 l (.lst (us.map V.str))) A1.p (.lst [.ref l,.ref A1.a1,.ref A1.a2,.ref A1.a3,.ref A1.a4])):=fun H2 k2=>⟨_,rfl,fun l us gl ul=>by
   have s3:=zi gl (.lst (us.map V.str))
   have k3:=k2.same s3
   have fr3:=k2.fresh gl
   obtain⟨k4,t4⟩:=k3.set0 (ns:=us) zg fr3.1 fr3.2 (by lia) (by
    by_cases c:S1.n0=[]
    ·left
     rw[c]at ul
     exact UC.mp (Nat.le_zero.mp ul)
    ·exact .inr c)
   exact hV _ { A1 with a0:=l } _ _ k4 (uy ul c0) c1 c2 c3 c4 (.inl rfl)⟩
  have cmp:∀(H2:Hp),Ask K st wl o sl m Hn H2 A1 S1 (B+2)->∀(Q':VK),(∀(l:Addr)(us:List Str),H2 l=none->us.length<=S1.n0.length->Q' (.ref l) (upd H2 l (.lst (us.map V.str))))->True:=fun _ _ _ _=>trivial
  refine(show ∀(u:TS),(∀(D':Ends)(H2:Hp),D'.nx=v D->Ask K st wl o sl m Hn H2 A1 S1 (B+2)->u D' [some (.ref st),some (.ref A.p),some (.str x),some (.ref t),some (.int (k:Nat)),some (.int ((r+1:Nat):Int)),some (.ref wl),some (.ref ln),some (.ref A1.p),some (.str "look"),some (.str ""),none,none,none] H2)->(tSeq (tIfS _ u yP) v:TS) D [some (.ref st),some (.ref A.p),some (.str x),some (.ref t),some (.int (k:Nat)),some (.int ((r+1:Nat):Int)),some (.ref wl),some (.ref ln),some (.ref A1.p),some (.str "look"),some (.str ""),none,none,none] H1 from ?c1) _ ?c2
  case c1 =>
   intro u hU
   have sp:∀H2,Ask K st wl o sl m Hn H2 A1 S1 (B+1)->yu K [.ref st,.ref wl,.int 24] H2 (fun z H3=>∃c,z=.bl c/\if c=true then u { D with nx:=v D } [some (.ref st),some (.ref A.p),some (.str x),some (.ref t),some (.int (k:Nat)),some (.int ((r+1:Nat):Int)),some (.ref wl),some (.ref ln),some (.ref A1.p),some (.str "look"),some (.str ""),none,none,none] H3 else yP { D with nx:=v D } [some (.ref st),some (.ref A.p),some (.str x),some (.ref t),some (.int (k:Nat)),some (.int ((r+1:Nat):Int)),some (.ref wl),some (.ref ln),some (.ref A1.p),some (.str "look"),some (.str ""),none,none,none] H3) E0:=fun H2 k2=>⟨st,wl,o,sl,m,_,24,rfl,by decide,k2.wa,k2.s,by lia,fun H3 c j3 S3=>⟨c,rfl,by
    have k3:=k2.go j3 S3
    cases c with
    |true=>exact iteT (hU _ _ rfl k3)
    |false=>exact iteF (nxtC (hV _ A1 S1 _ k3 c0 c1 c2 c3 c4 (.inr rfl)))⟩⟩
   refine⟨_,rfl,_,rfl,ixL k1.g.at_.p aI0 ⟨A1.a0,_,rfl,.inl (SqL.of k1.g.at_.h0),rfl,wS _,_,rfl,?_⟩⟩
   refine ite2 (fun _=>?_) (fun _=>iteF ⟨_,rfl,_,rfl,sp _ (k1.mono (by lia))⟩)
   refine⟨_,rfl,st,4,_,rfl,k1.s,by lia,by decide,fun H2 i j2 S2 _ _=>⟨_,_,rfl,rfl,_,rfl,?_⟩⟩
   have k2:=k1.go j2 S2
   exact ite2 (fun _=>hU _ _ rfl (k2.mono (by lia))) (fun _=>⟨_,rfl,_,rfl,sp _ k2⟩)
  case c2 =>
   intro D' H2 hD k2
   obtain⟨_,_,tkk⟩:=tk H2 k2
   refine⟨_,rfl,ixL k2.g.at_.p aI0 ⟨A1.a0,rfl,⟨_,SqL.of k2.g.at_.h0⟩,ym (xs:=S1.n0.map V.str) (fun i τ ys H'=>H2=H'/\(∃y,τ=[some (.ref st),some (.ref A.p),some (.str x),some (.ref t),some (.int (k:Nat)),some (.int ((r+1:Nat):Int)),some (.ref wl),some (.ref ln),some (.ref A1.p),some (.str "take"),some (.str ""),none,none,none,y])/\∃us:List Str,ys=us.map V.str/\us.length<=i) ⟨rfl,⟨none,rfl⟩,[],rfl,ui _⟩ (fun i τ ys H' _ h=>by rw[<- h.1];exact SqL.of k2.g.at_.h0) ?_ ?_⟩⟩
   ·rintro i v τ ys H' hv ⟨rfl,⟨v',rfl⟩,us,rfl,ul⟩
    rw[uk]at hv
    obtain⟨u,hu,rfl⟩:=uf.mp hv
    have hi:i < S1.n0.length:=(ug.mp hu).1
    exact⟨_,rfl,_,rfl,rfl,_,rfl,ite2 (fun _=>⟨_,rfl,by rw[ua];lia,rfl,⟨_,rfl⟩,us++[u],by rw[uj];rfl,by rw[uc];show us.length+1<=_;lia⟩) (fun _=>⟨rfl,⟨_,rfl⟩,us,rfl,by lia⟩)⟩
   ·rintro τ ys H' ⟨rfl,_,us,rfl,ul⟩ l7 g7
    rw[ua]at ul
    refine⟨_,rfl,A1.p,_,0,0,rfl,rfl,(k2.same (zi g7 _)).g.at_.p,rfl,?_⟩
    rw[hD]
    exact tkk l7 us g7 ul
 case b2 =>
 clear k1 c0 c1 c2 c3 c4
 clear H1 A1 S1
 intro H1 A1 S1 md k1 c0 c1 c2 c3 c4 hmd
 refine(show ∀(v:TS)(D:Ends),(∀(H2:Hp)(S2:AtS)(tok:Str),Ask K st wl o sl m Hn H2 A1 S2 (B+5)->S2.n0.length<=S.n0.length+9->S2.n1.length<=9->S2.n2.length<=S.n2.length+9->S2.t3.length<=S.t3.length+1->S2.n4.length=S.n4.length->v D [some (.ref st),some (.ref A.p),some (.str x),some (.ref t),some (.int (k:Nat)),some (.int ((r+1:Nat):Int)),some (.ref wl),some (.ref ln),some (.ref A1.p),some (.str md),some (.str tok),none,none,none] H2)->(tSeq _ v:TS) D [some (.ref st),some (.ref A.p),some (.str x),some (.ref t),some (.int (k:Nat)),some (.int ((r+1:Nat):Int)),some (.ref wl),some (.ref ln),some (.ref A1.p),some (.str md),some (.str ""),none,none,none] H1 from ?d1) _ _ ?d2
 case d1 =>
  intro v D hV
  refine(show ∀(u:TS),(∀(D':Ends)(H2:Hp),D'.nx=v D->Ask K st wl o sl m Hn H2 A1 S1 (B+4)->u D' [some (.ref st),some (.ref A.p),some (.str x),some (.ref t),some (.int (k:Nat)),some (.int ((r+1:Nat):Int)),some (.ref wl),some (.ref ln),some (.ref A1.p),some (.str md),some (.str ""),none,none,none] H2)->(tSeq (tIfS _ u yP) v:TS) D [some (.ref st),some (.ref A.p),some (.str x),some (.ref t),some (.int (k:Nat)),some (.int ((r+1:Nat):Int)),some (.ref wl),some (.ref ln),some (.ref A1.p),some (.str md),some (.str ""),none,none,none] H1 from ?e1) _ ?e2
  case e1 =>
   intro u hU
   have sp:∀H2,Ask K st wl o sl m Hn H2 A1 S1 (B+3)->yu K [.ref st,.ref wl,.int 24] H2 (fun z H3=>∃c,z=.bl c/\if c=true then u { D with nx:=v D } [some (.ref st),some (.ref A.p),some (.str x),some (.ref t),some (.int (k:Nat)),some (.int ((r+1:Nat):Int)),some (.ref wl),some (.ref ln),some (.ref A1.p),some (.str md),some (.str ""),none,none,none] H3 else yP { D with nx:=v D } [some (.ref st),some (.ref A.p),some (.str x),some (.ref t),some (.int (k:Nat)),some (.int ((r+1:Nat):Int)),some (.ref wl),some (.ref ln),some (.ref A1.p),some (.str md),some (.str ""),none,none,none] H3) E0:=fun H2 k2=>⟨st,wl,o,sl,m,_,24,rfl,by decide,k2.wa,k2.s,by lia,fun H3 c j3 S3=>⟨c,rfl,by
    have k3:=k2.go j3 S3
    cases c with
    |true=>exact iteT (hU _ _ rfl k3)
    |false=>exact iteF (nxtC (hV _ S1 _ (k3.mono (by lia)) c0 c1 c2 (by lia) c4))⟩⟩
   refine⟨_,rfl,rfl,_,rfl,?_⟩
   refine ite2 (fun _=>?_) (fun _=>iteF ⟨_,rfl,_,rfl,sp _ (k1.mono (by lia))⟩)
   refine⟨_,rfl,ixT (k1.g.kp.tups Sn _ _ htn) aI1 ⟨_,_,rfl,rfl,_,rfl,?_⟩⟩
   refine ite2 (fun _=>?_) (fun _=>iteF ⟨_,rfl,_,rfl,sp _ (k1.mono (by lia))⟩)
   refine⟨_,rfl,st,3,_,rfl,k1.s,by lia,by decide,fun H2 i j2 S2 _ _=>⟨_,_,rfl,rfl,_,rfl,?_⟩⟩
   have k2:=k1.go j2 S2
   exact ite2 (fun _=>hU _ _ rfl (k2.mono (by lia))) (fun _=>⟨_,rfl,_,rfl,sp _ k2⟩)
  case e2 =>
   intro D' H2 hD k2
   have nl:=numL (show k<=300 by lia)
   refine⟨_,rfl,_,rfl,nl.2,_,_,rfl,rfl,by show 1+_<=_;lia,?_⟩
   generalize ("t":Str)++Str.ofString (toString ((k:Nat):Int))=tok
   dsimp only
   have fin:∀(H3:Hp)(tok:Str),Ask K st wl o sl m Hn H3 A1 S1 (B+5)->∀(ts:List Addr),H3 A1.a3=some (.lst (ts.map V.ref))->TsAt tkR H3 S1.t3 ts->∀p,H3 p=none->v D [some (.ref st),some (.ref A.p),some (.str x),some (.ref t),some (.int (k:Nat)),some (.int ((r+1:Nat):Int)),some (.ref wl),some (.ref ln),some (.ref A1.p),some (.str md),some (.str tok),none,none,none] (upd (upd H3 p (.tup [.str tok,.int (size:Nat)])) A1.a3 (.lst (ts.map V.ref++[.ref p]))):=fun H3 tok k3 ts a3 a3' p hp=>by
    have s4:=zi hp (.tup [.str tok,.int ((size:Nat):Int)])
    have k4:=k3.same s4
    have b4':TsAt tkR (upd H3 p (.tup [.str tok,.int ((size:Nat):Int)])) (S1.t3++[(tok,((size:Nat):Int))]) (ts++[p]):=(a3'.keep fun _ _ z=>z.tk (.of s4)).snoc zg
    obtain⟨k5,t5⟩:=k4.put3 b4' (by rw[uc];show S1.t3.length+1<=_;lia)
    rw[uj]at k5
    exact hV _ _ _ k5 c0 c1 c2 (by show(S1.t3++[(tok,((size:Nat):Int))]).length<=_;rw[uc];show S1.t3.length+1<=_;lia) c4
   refine(show ∀(u2:TS),(∀(H3:Hp)(tok:Str),Ask K st wl o sl m Hn H3 A1 S1 (B+5)->u2 D' [some (.ref st),some (.ref A.p),some (.str x),some (.ref t),some (.int (k:Nat)),some (.int ((r+1:Nat):Int)),some (.ref wl),some (.ref ln),some (.ref A1.p),some (.str md),some (.str tok),none,none,none] H3)->(tSeq _ u2:TS) D' [some (.ref st),some (.ref A.p),some (.str x),some (.ref t),some (.int (k:Nat)),some (.int ((r+1:Nat):Int)),some (.ref wl),some (.ref ln),some (.ref A1.p),some (.str md),some (.str tok),none,none,none] H2 from ?f1) _ ?f2
   case f2 =>
    intro H3 tok k3
    obtain⟨ts,a3,a3'⟩:=k3.g.at_.h3
    have tl3:=a3'.1
    refine⟨_,rfl,ixL k3.g.at_.p aI3 ⟨.inl ⟨rfl,_,SqL.of a3⟩,_,rfl,_,rfl,ixT (k3.g.kp.tups Sn _ _ htn) aI1 ⟨sN2,fun p hp=>⟨A1.a3,_,_,rfl,rfl,old hp a3,by rw[ua];lia,?_⟩⟩⟩⟩
    rw[hD]
    exact fin H3 tok k3 ts a3 a3' p hp
   case f1 =>
    intro u2 hU2
    obtain⟨ts,a3,a3'⟩:=k2.g.at_.h3
    refine⟨_,rfl,ixL k2.g.at_.p aI3 ⟨sN0,fun l hl=>⟨A1.a3,l,_,rfl,rfl,SqL.of (old hl a3),SqL.of zg,_,rfl,?_⟩⟩⟩
    have s3:=zi hl (.lst [])
    have k3:=k2.same s3
    have b3':=s3 _ _ a3
    have b3'':TsAt tkR (upd H2 l (.lst [])) S1.t3 ts:=a3'.keep fun _ _ z=>z.tk (.of s3)
    generalize upd H2 l (.lst [])=H3 at *
    cases he:ts with
    |nil=>exact iteF (iteF (nxtC (hU2 _ _ (k3.mono (by lia)))))
    |cons t0 ts0 =>
     rw[he]at b3' b3''
     refine iteT ⟨_,rfl,_,rfl,st,wl,o,sl,m,_,8,rfl,by decide,k3.wa,k3.s,by lia,fun H4 c j4 S4=>⟨c,rfl,?_⟩⟩
     have k4:=k3.go j4 S4
     cases c with
     |false=>exact iteF (nxtC (hU2 _ _ k4))
     |true =>
      obtain⟨a0,_,hR⟩:=b3''.at (i:=0) rfl
      exact iteT ⟨_,rfl,ixL k4.g.at_.p aI3 (ixL (j4.k _ _ (k3.s.neR b3') b3') aI0 (ixT (j4.tups k3.s _ _ hR) aI0 (hU2 _ _ k4)))⟩
 case d2 =>
 clear k1 c0 c1 c2 c3 c4
 clear H1 S1
 intro H1 S1 tok k1 c0 c1 c2 c3 c4
 obtain⟨tl,dl,ts,us,wv,w1,_⟩:=k1.wa.e
 have ht1:tgR (tag,size,sort) H1 t:=htn.tk (k1.g.kp.tups Sn)
 refine⟨_,rfl,ixL w1 aI5 ⟨((m:Nat):Int),rfl,by lia,by lia,yx (n:=((m:Nat):Int).toNat) (fun i τ ys H'=>H1=H'/\(∃y,τ=[some (.ref st),some (.ref A.p),some (.str x),some (.ref t),some (.int (k:Nat)),some (.int ((r+1:Nat):Int)),some (.ref wl),some (.ref ln),some (.ref A1.p),some (.str md),some (.str tok),none,none,none,y])/\∃ns:List Str,ys=ns.map V.str/\ns.length=i) ⟨rfl,⟨none,rfl⟩,[],rfl,rfl⟩ ?_ ?_⟩⟩
 ·rintro i τ ys H' hi ⟨rfl,⟨y,rfl⟩,ns,rfl,nl⟩
  refine⟨_,rfl,_,rfl,_,rfl,ixT ht1 aI1 ⟨_,_,rfl,rfl,_,rfl,_,_,rfl,rfl,wl,o.z,o.b,_,k+size+i,?_,w1,hA.ok.z,by rw[ua];lia,rfl,⟨_,rfl⟩,ns++[nm o.z o.b (k+size+i)],by rw[uj];rfl,by rw[uc,nl];rfl⟩⟩
  show[V.ref wl,V.int (((k:Nat):Int)+((size:Nat):Int)+(0+((i:Nat):Int)))]=_
  rw[show((k:Nat):Int)+((size:Nat):Int)+(0+((i:Nat):Int))=((k+size+i:Nat):Int) by lia]
 rintro τ ys H' ⟨rfl,_,ms,rfl,ml⟩ lw gw
 have mm:ms.length=m:=by lia
 have s2:=zi gw (.lst (ms.map V.str))
 have k2:=k1.same s2
 have e2:=zg (H:=H1) (a:=lw) (o:=.lst (ms.map V.str))
 have n2:(upd H1 lw (.lst (ms.map V.str))) ln=some (.lst (ns.map V.str)):=s2 _ _ (k1.g.kp.k _ _ (Sn.neS en) en)
 have ht2:=ht1.tk (Tups.of s2)
 dsimp only
 generalize upd H1 lw (.lst (ms.map V.str))=H2 at *
 obtain⟨xs,x1,x2,w3,S3,kw3⟩:=k2.wa.put k2.s (i:=5) (y:=.int ((0:Nat):Int)) (sl':=sl) (m':=0) (.inr ⟨rfl,rfl,rfl⟩)
 refine⟨_,rfl,wl,xs,5,5,rfl,rfl,x1,x2,?_⟩
 have a3:=k2.g.at_.kw k2.s k2.wa kw3
 have t3:=kw3.tups k2.s k2.wa
 have lwst:=k2.s.neS e2
 have lwwl:=k2.wa.neS e2
 have lnst:=k2.s.neS n2
 have lnwl:=k2.wa.neS n2
 have e3:=kw3.k _ _ lwst lwwl e2
 have n3:=kw3.k _ _ lnst lnwl n2
 have kk:=kw3
 have ht3:=ht2.tk t3
 dsimp only
 generalize upd H2 wl (.lst (xs.set 5 (.int ((0:Nat):Int))))=H3 at *
 have hH:Hnd S1 (r / 2):=⟨k1.ne,by lia,c1,by lia,by lia,by lia⟩
 refine⟨_,rfl,_,rfl,_,rfl,_,rfl,ixT ht3 aI1 ⟨_,_,rfl,rfl,_,rfl,lw,_,rfl,.inl (SqL.of e3),_,_,rfl,rfl,?_⟩⟩
 refine⟨_,rfl,_,_,rfl,rfl,_,_,rfl,rfl,⟨by decide,by decide⟩,_,rfl,st,wl,o,sl,0,A1,S1,B+5,k+size+m,r / 2,?_,⟨hA.ok,w3,by lia,a3,hH,by lia,by lia,S3⟩,hrn,by lia,fun H4 p b md4 ib gb=>?_⟩
 ·show[V.ref st,.ref A1.p,.int (((k:Nat):Int)+((size:Nat):Int)+(((ms.map V.str).length:Nat):Int)),.int ((((r+1:Nat):Int)-1) / 2),.ref wl]=_
  rw[ua,mm,show((k:Nat):Int)+((size:Nat):Int)+((m:Nat):Int)=((k+size+m:Nat):Int) by lia,show(((r+1:Nat):Int)-1) / 2=((r / 2:Nat):Int) by lia]
 obtain⟨m4,hm4,w4⟩:=md4.w
 have e4:=md4.k.k _ _ lwst lwwl e3
 have n4:=md4.k.k _ _ lnst lnwl n3
 have ht4:=ht3.tk (md4.k.tups S3 w3)
 have kall:Kw st wl H H4:=(Kw.of sn).trans ((Kw.kp k2.g.kp).trans (kw3.trans md4.k))
 dsimp only
 refine⟨_,rfl,lw,rfl,⟨_,SqL.of e4⟩,yJ (xs:=ms.map V.str) (fun i σ H'=>∃(p:Addr)(b:Bd)(y:Option V),σ=[some (.ref st),some (.ref A.p),some (.str x),some (.ref t),some (.int (k:Nat)),some (.int ((r+1:Nat):Int)),some (.ref wl),some (.ref ln),some (.ref A1.p),some (.str md),some (.str tok),some (.ref lw),some (.ref p),y]/\Same H4 H'/\IsBd H' b p/\BdG o.D b (80+r / 2+2*i) (szR (r / 2)+2*i) (wtR (r / 2)+i)) ⟨p,b,none,rfl,Same.refl _,ib,gb⟩ (fun i σ H' _ h=>?_) ?_ ?_⟩
 ·obtain⟨_,_,_,_,k,_⟩:=h
  exact SqL.of (k _ _ e4)
 ·rintro i v σ H5 hv ⟨p5,b5,y,rfl,s5,i5,g5⟩
  rw[uk]at hv
  obtain⟨u,hu,rfl⟩:=uf.mp hv
  refine⟨_,rfl,_,rfl,sN2,fun q1 h1=>⟨_,rfl,_,rfl,sN3,fun q2 h2=>⟨sN4,fun q3 h3=>?_⟩⟩⟩
  have s6:=((zi h1 (.tup [.str "num",.int (k:Nat)])).new (o:=.tup [.str "drop",.str u,.ref p5]) h2).new (o:=.tup [.str "let",.str u,.ref q1,.ref q2]) h3
  refine⟨q3,.lt u (.num (k:Nat)) (.drop u b5),_,rfl,s5.trans s6,⟨q1,q2,zg,old h3 (old h2 zg),p5,old h3 zg,i5.keep (.of s6)⟩,(g5.drop.lt .num).mono (by lia) (by lia) (by lia)⟩
 ·rintro σ H5 ⟨p5,b5,y,rfl,s5,i5,g5⟩
  rw[ua,mm]at g5
  refine⟨_,rfl,ixT (s5 _ _ ht4) aI0 ⟨_,rfl,ln,_,rfl,.inl ⟨SqL.of (s5 _ _ n4),fun q1 h1=>⟨_,rfl,_,rfl,_,rfl,sN5,fun q2 h2=>?_⟩⟩⟩⟩
  have s6:=(zi h1 (.tup (ns.map V.str))).new (o:=.tup [.str tag,.ref q1,.str md,.str tok,.ref p5]) h2
  have s46:=s5.trans s6
  exact q _ q2 ⟨tag,ns,md,tok,b5⟩ ⟨kall.trans (.of s46),(md4.s.same s46).mono (by lia),m4,by lia,w4.kp md4.s (.of s46)⟩ ⟨q1,p5,zg,old h2 zg,i5.keep (.of s6)⟩ ⟨by show ns.length<=9;lia,hmd,g5⟩
def mkA:List ArmR->Arms
 |[]=>.nil
 |a::l=>.cons a.t a.ns a.m a.k a.b (mkA l)
theorem za2:∀(l:List ArmR),(mkA l).l=l
 |[]=>rfl
 |a::l=>by rw[mkA,Arms.l,za2 l]
theorem JM{H:Hp}:∀{l:List ArmR}{ts:List Addr},TsAt arR H l ts->IsArms H (mkA l) ts
 |[],ts,h=>by
  have:ts=[]:=UC.mp h.1.symm
  subst this
  rw[mkA,IsArms]
 |a::l,[],h=>by cases h.1
 |a::l,t::ts,h=>by
  obtain⟨q,s,h1,h2,h3⟩:=h.2 0 a t rfl rfl
  rw[mkA,IsArms]
  exact⟨t,q,s,ts,rfl,h1,h2,h3,JM ⟨Nat.succ.inj h.1,fun i x y e1 e2=>h.2 (i+1) x y e1 e2⟩⟩
theorem za3{ow:Ow}{d s t:Nat}:∀{l:List ArmR},(∀a∈l,ArG ow a d s t)->OkAs ow (mkA l)/\OeA ow (mkA l)/\NeA (mkA l)/\(mkA l).dp<=d/\(mkA l).sz<=l.length*(s+1)/\(mkA l).wt<=l.length*(t+10)
 |[],_=>by
  rw[mkA,OkAs,OeA,NeA,Arms.dp,Arms.sz,Arms.wt]
  exact⟨trivial,trivial,trivial,uW _,uW _,uW _⟩
 |a::l,h=>by
  obtain⟨i1,i2,i3,i4,i5,i6⟩:=za3 (l:=l) fun x hx=>h x (Up _ hx)
  have g:=h a uP
  have g1:=g.n
  have g2:=g.b.sz
  have g3:=g.b.wt
  rw[mkA,OkAs,OeA,NeA,Arms.dp,Arms.sz,Arms.wt,uM]
  refine⟨⟨g.b.ok,i1⟩,⟨by lia,g.b.oe,i2⟩,⟨g.m,g.b.ne,i3⟩,Nat.max_le.mpr ⟨g.b.dp,i4⟩,?_,?_⟩
  ·rw[Nat.succ_mul];lia
  ·rw[Nat.succ_mul];lia
theorem BdG.cs{ow:Ow}{x:Str}{l:List ArmR}{d s t:Nat}(h:∀a∈l,ArG ow a d s t)(n:l≠[])(ln:l.length<=24):BdG ow (.cs x (mkA l)) (d+1) (24*(s+1)+1) (24*(t+10)):=by
 obtain⟨i1,i2,i3,i4,i5,i6⟩:=za3 h
 have nn:mkA l≠.nil:=fun e=>by
  cases l with
  |nil=>exact n rfl
  |cons a l=>rw[mkA]at e;cases e
 refine⟨by rw[OkBd,za2];exact⟨by lia,i1⟩,by rw[OeB];exact i2,by rw[NeB];exact⟨nn,i3⟩,by rw[Bd.dp];lia,?_,?_⟩
 ·rw[Bd.sz]
  exact Ue (uy i5 (UO _ ln))
 ·rw[Bd.wt]
  exact uy i6 (UO _ ln)
def XN(K:ub)(n:Nat):Sp:=fun vs H Q _=>∃(st wl:Addr)(o:Wg)(sl:Bool)(m:Nat)(A:At)(S:AtS)(B k r:Nat)(x:Str),vs=[.ref st,.ref A.p,.str x,.int (k:Nat),.int ((r+1:Nat):Int),.ref wl]/\AskB K st wl o sl m H A S B k (r+1)/\r / 2<=n/\B+1+24*(6+bdr (r / 2)) < LIM/\∀H' p b,Mad K st wl o sl m H H' (B+1+24*(6+bdr (r / 2)))->IsBd H' b p->BdG o.D b (80+(r+1)+2*m) (szR (r+1)) (wtR (r+1))->Q (.ref p) H'
theorem scLCase:FnScope ["_law_state","_law_at","_law_x","_law_k","_law_room","_law_world_here","_law_sort"] lS2 (zn YJ):=.ok
theorem zaw:(["_law_state","_law_at","_law_x","_law_k","_law_room","_law_world_here","_law_sort","_law_one"]:List Str).Nodup:=by decide +kernel
theorem JN(F:Fun K "_law_case" "_law_case" YJ f fd)(GD:Ca P w K mg base CX0 1 "_law_draw" lS4 (yj K))(GA:Ca P w K mg base CX0 (6+3*n+1) "_law_arm" lS7 (JL K n))(m_tuple:mg "tuple"=none):FnOk P w K mg base CX0 (6+3*n+2) f fd lS2 (XN K n):=by
 refine F.by scLCase (fun vs H Q E h=>?_) (fun cdv A' outer s H vs Q E hr h=>?_)
 ·obtain⟨st,wl,o,sl,m,A,S,B,k,r,x,rfl,_⟩:=h
  rfl
 obtain⟨st,wl,o,sl,m,A,S,B,k,r,x,rfl,hA,hrn,hB,q⟩:=h
 have hr1:Room 1 _:=hr.mono (by lia)
 refine⟨_,
  (zh (sE 6 scLCase.nd (zx ye zk (cA GD hr1 (jA2 (jv 0) zk))))
  (zj (zq (zu (jA3 zo (jv 2) (zK zM rfl m_tuple uS (jA1 (zW ["_law_one"] rfl (zQ (xL 5)) (fun _ _ _ _ _=>(gN 7 zaw)) (fun _ _ _ _ _=>(ya (tN zz (xn (wb K) (jv 7) zk (fun _ _=>rfl)) (jv 6)))) (fun _ _ _ _ _=>(cA GA hr (jA7 (jv 0) (jv 1) (jv 2) (jv 7) (jv 3) (jv 4) (jv 5)))))))))))),?_⟩
 have LM:LIM=4611686018427387904:=rfl
 have sl':=zN
 have br:=hA.r
 have bm:=hA.m
 obtain⟨_,_,_,_,z5,z6⟩:=szwt (show r<=4 by lia)
 refine⟨_,rfl,st,2,B,rfl,hA.s,by lia,by decide,fun H1 i k1 S1 r0 r1=>⟨_,_,rfl,rfl,?_⟩⟩
 obtain⟨sort,hso,so12⟩:∃sort:Nat,1+i=((sort:Nat):Int)/\(sort=1\/sort=2):=⟨(1+i).toNat,by lia,by lia⟩
 dsimp only
 rw[hso]
 have w1:=hA.w.kp hA.s k1
 have a1:=hA.a.kp hA.s k1
 obtain⟨tl,dl,ts,us,wv,x1,x2,x3,x4,x5⟩:=w1.e
 have tl24:ts.length<=24:=by rw[<- x3.1];exact hA.ok.Tn
 have nts:=S1.neR x2
 have ntw:=w1.neR x2
 refine⟨_,rfl,_,rfl,ixL x1 aI2 ⟨tl,rfl,⟨_,SqL.of x2⟩,ym (xs:=ts.map V.ref) (fun i τ ys H'=>(∃y,τ=[some (.ref st),some (.ref A.p),some (.str x),some (.int (k:Nat)),some (.int ((r+1:Nat):Int)),some (.ref wl),some (.int (sort:Nat)),y])/\Mad K st wl o sl m H1 H' (B+1+i*(6+bdr (r / 2)))/\∃(as:List ArmR)(vs:List Addr),ys=vs.map V.ref/\TsAt arR H' as vs/\(∀a∈as,ArG o.D a (80+r / 2+2*m) (szR (r / 2)+2*m) (wtR (r / 2)+m))/\as.length<=i/\(∀j tg,j < i->o.T[j]?=some tg->tg.2.2=sort->as≠[])) ⟨⟨none,rfl⟩,⟨.refl,S1.mono (by lia),m,ui _,w1⟩,[],[],rfl,⟨rfl,fun i a t h=>by simp at h⟩,(fun a h=>by cases h),ui _,fun j tg h=>absurd h (Nat.not_lt_zero _)⟩ (fun i τ ys H' _ h=>?_) ?_ ?_⟩⟩
 ·obtain⟨_,md,_⟩:=h
  exact SqL.of (md.k.k _ _ nts ntw x2)
 ·rintro i v τ ys H2 hv ⟨⟨y,rfl⟩,md,as,vs,rfl,hT,hG,al,hN⟩
  rw[uk]at hv
  obtain⟨t,ht,rfl⟩:=uf.mp hv
  obtain⟨tg,ha,hR⟩:=x3.at ht
  have hi:i < ts.length:=(ug.mp ht).1
  have sz9:tg.2.1<=9:=hA.ok.T _ (uB ha)
  have t12:=md.k.tups S1 w1
  have hR2:=hR.tk t12
  have im:(i+1)*(6+bdr (r / 2))=i*(6+bdr (r / 2))+(6+bdr (r / 2)):=Nat.succ_mul _ _
  have i24:(i+1)*(6+bdr (r / 2))<=24*(6+bdr (r / 2)):=UO _ (by lia)
  have vl:=hT.1
  refine⟨_,rfl,ixT hR2 aI2 ⟨_,rfl,rfl,_,rfl,?_⟩⟩
  refine ite2 (fun c=>?_) (fun c=>?_)
  ·obtain⟨m2,hm2,w2⟩:=md.w
   have a2:=a1.kw S1 w1 md.k
   refine⟨_,rfl,_,rfl,_,rfl,_,rfl,_,rfl,_,rfl,_,rfl,st,wl,t,o,sl,m2,A,S,_,k,r,x,tg,rfl,⟨hA.ok,w2,by lia,a2,hA.h,hA.k,hA.r,md.s⟩,hR2,sz9,hrn,by lia,fun H3 p a md3 ar3 g3=>?_⟩
   have t23:=md3.k.tups md.s w2
   obtain⟨m3,hm3,w3⟩:=md3.w
   refine⟨by rw[ua];lia,⟨_,rfl⟩,⟨md.k.trans md3.k,md3.s.mono (by lia),m3,by lia,w3⟩,as++[a],vs++[p],by rw[uj];rfl,(hT.keep fun _ _ z=>z.tk t23).snoc ar3,fun b hb=>?_,by rw[uc];show as.length+1<=_;lia,fun _ _ _ _ _ e=>by simp at e⟩
   rcases uF.mp hb with z|z
   ·exact hG b z
   ·rw[uv.mp z]
    exact⟨g3.n,g3.m,g3.b.mono (by lia) (by lia) (by lia)⟩
  ·refine⟨⟨_,rfl⟩,md.mono (by lia),as,vs,rfl,hT,hG,by lia,fun j tg' hj e1 e2=>?_⟩
   by_cases cj:j < i
   ·exact hN j tg' cj e1 e2
   ·have ej:j=i:=by lia
    subst ej
    rw[ha]at e1
    cases e1
    rw[decide_eq_true_eq]at c
    exact absurd (by rw[e2]) c
 ·rintro τ ys H2 ⟨_,md,as,vs,rfl,hT,hG,al,hN⟩ l3 g3
  rw[ua]at al md hN
  have i24:ts.length*(6+bdr (r / 2))<=24*(6+bdr (r / 2)):=UO _ (by lia)
  have ne:as≠[]:=by
   have:∃tg∈o.T,tg.2.2=sort:=by
    rcases so12 with e|e
    ·rw[e];exact hA.ok.T1
    ·rw[e];exact hA.ok.T2
   obtain⟨tg,h1,h2⟩:=this
   obtain⟨j,hj⟩:=tK h1
   have lj:=(ug.mp hj).1
   exact hN j tg (by rw[<- x3.1];exact lj) hj h2
  refine⟨l3,_,rfl,.inl ⟨SqL.of zg,fun q1 h1=>⟨sN3,fun q2 h2=>?_⟩⟩⟩
  have s4:=((zi g3 (.lst (vs.map V.ref))).new (o:=.tup (vs.map V.ref)) h1).new (o:=.tup [.str "case",.str x,.ref q1]) h2
  have md4:Mad K st wl o sl m H (upd (upd (upd H2 l3 (.lst (vs.map V.ref))) q1 (.tup (vs.map V.ref))) q2 (.tup [.str "case",.str x,.ref q1])) (B+1+24*(6+bdr (r / 2))):=(((md.on k1).new g3).new h1).new h2 |>.mono (by lia)
  refine q _ q2 (.cs x (mkA as)) md4 ?_ ((BdG.cs hG ne (by lia)).mono (by lia) (by lia) (by lia))
  rw[IsBd]
  exact⟨q1,vs,zg,old h2 zg,JM (hT.keep fun _ _ z=>z.tk (.of s4))⟩
theorem Wv{X:Cx}{sts:List Stmt}:jSs X sts (fun _ _ _=>False):=⟨fun _ _ _ _ _ _ h=>h.elim⟩
theorem scLBody:FnScope ["_law_state","_law_at","_law_k","_law_room","_law_world_here","_law_way","_law_x","_law_left","_law_first"] lS0 (zn Zp):=.ok
theorem zax:(["_law_state","_law_at","_law_k","_law_room","_law_world_here","_law_way","_law_x","_law_left","_law_first","_law_name_here"]:List Str).Nodup:=by decide +kernel
theorem Ww(F:Fun K "_law_body" "_law_body" Zp f fd)(GD:Ca P w K mg base CX0 1 "_law_draw" lS4 (yj K))(GM:Ca P w K mg base CX0 1 "_law_name" lS9 spNm)(GE:Ca P w K mg base CX0 4 "_law_end" lS8 (Y4 K)):FnOk P w K mg base CX0 6 f fd lS0 (xk K 0):=by
 refine F.by scLBody (fun vs H Q E h=>?_) (fun cdv A' outer s H vs Q E hr h=>?_)
 ·obtain⟨st,wl,o,sl,m,A,S,B,k,r,rfl,_⟩:=h
  rfl
 obtain⟨st,wl,o,sl,m,A,S,B,k,r,rfl,hA,hrn,hB,q⟩:=h
 have er:r=0:=by lia
 subst er
 have hr1:Room 1 _:=hr.mono (by decide)
 have hr4:Room 4 _:=hr.mono (by decide)
 refine⟨_,
  (zh (sE 5 scLBody.nd (cA GD hr1 (jA2 (jv 0) zk)))
  (zh (zw (tN Va (jv 3) zk)
   (zj (zq (cA GE hr4 (jA4 (jv 0) (jv 1) (cA GM hr1 (jA2 (jv 4) (jv 2))) (jv 4))))) zp)
  Wv)),?_⟩
 have LM:LIM=4611686018427387904:=rfl
 have e0:bdr 0=100:=rfl
 rw[e0]at hB q
 refine⟨_,rfl,st,10,B,rfl,hA.s,by lia,by decide,fun H1 way k1 S1 _ _=>?_⟩
 have w1:=hA.w.kp hA.s k1
 obtain⟨tl,dl,ts,us,wv,x1,_⟩:=w1.e
 refine⟨_,rfl,_,_,rfl,rfl,_,rfl,itD (by show((0:Nat):Int)<=0;decide) ?_⟩
 refine⟨_,rfl,_,rfl,_,rfl,_,rfl,wl,o.z,o.b,_,k,rfl,x1,hA.ok.z,_,rfl,st,wl,o,sl,m,A,S,_,_,rfl,hA.ok,w1,hA.a.kp hA.s k1,hA.h,S1,by lia,fun H2 p b k2 S2 ib gb=>?_⟩
 exact q _ p b ⟨.kp (k1.trans k2),S2.mono (by lia),m,ui _,w1.kp S1 k2⟩ ib (gb.mono (by lia) (by decide) (by decide))
theorem JO(F:Fun K "_law_body" "_law_body" Zp f fd)(GD:Ca P w K mg base CX0 1 "_law_draw" lS4 (yj K))(GM:Ca P w K mg base CX0 1 "_law_name" lS9 spNm)(GE:Ca P w K mg base CX0 4 "_law_end" lS8 (Y4 K))(GN':Ca P w K mg base CX0 3 "_law_near" lS1 (ZB K))(GC:Ca P w K mg base CX0 1 "_law_copy" lS12 wR)(GL:Ca P w K mg base CX0 (6+3*n+1) "_law_let" lS0 (JJ K n))(GO:Ca P w K mg base CX0 (6+3*n+1) "_law_hold" lS2 (XL K n))(GK:Ca P w K mg base CX0 (6+3*n+2) "_law_case" lS2 (XN K n))(GB:Ca P w K mg base CX0 (6+3*n) "_law_body" lS0 (xk K n)):FnOk P w K mg base CX0 (6+3*n+2+1) f fd lS0 (xk K (n+1)):=by
 refine F.by scLBody (fun vs H Q E h=>?_) (fun cdv A' outer s H vs Q E hr h=>?_)
 ·obtain⟨st,wl,o,sl,m,A,S,B,k,r,rfl,_⟩:=h
  rfl
 obtain⟨st,wl,o,sl,m,A,S,B,k,r,rfl,hA,hrn,hB,q⟩:=h
 have hr1:Room 1 _:=hr.mono (by lia)
 have hr3:Room 3 _:=hr.mono (by lia)
 have hr4:Room 4 _:=hr.mono (by lia)
 have hrB:Room (6+3*n) _:=hr.mono (by lia)
 have hrL:Room (6+3*n+1) _:=hr.mono (by lia)
 refine⟨_,
  (zh (sE 5 scLBody.nd (cA GD hr1 (jA2 (jv 0) zk)))
  (zh (zw (tN Va (jv 3) zk)
   (zj (zq (cA GE hr4 (jA4 (jv 0) (jv 1) (cA GM hr1 (jA2 (jv 4) (jv 2))) (jv 4))))) zp)
  (zh (zw (jW.pt (xD (tN (xy hr) (zx zZ (xL 1) (xL 1)) (zv zA)) (yW (tN W9 (jv 5) zk))))
   (zj (zq (cA GL hrL (jA5 (jv 0) (jv 1) (jv 2) (jv 3) (jv 4))))) zp)
  (zh (sE 6 scLBody.nd (cA GN' hr3 (jA3 (jv 0) (jv 1) (jv 4))))
  (zh (zw (tN zz (jv 5) zk)
   (zj (zq (cA GO hrL (jA6 (jv 0) (jv 1) (jv 6) (jv 2) (jv 3) (jv 4))))) zp)
  (zh (zw (jW.pt (yh (tN zz (jv 5) zk) (yd (vk wL (jv 6) (xL 1) (by with_unfolding_all rfl)))))
   (zh (sE 7 scLBody.nd (cA GC hr1 (jA2 (jv 1) (zv zA))))
   (zh (yz (zW ["_law_name_here"] rfl (zQ (xL 7)) (fun _ _ _ _ _=>(gN 9 zax)) (fun _ _ _ _ _=>(ya (tN wY (jv 9) (jv 6)))) (fun _ _ _ _ _=>(jv 9))) (yD (jv 7) zk))
   (zj (zq (zu (jA3 zo (jv 6) (cA GB hrB (jA5 (jv 0) (jv 7) (jv 2) (zx xF (jv 3) zk) (jv 4))))))))) zp)
  (zh (zw (tN zz (jv 5) zk)
   (zh (sE 8 scLBody.nd (cA GB hrB (jA5 (jv 0) (jv 1) (jv 2) (zx xV (zx xF (jv 3) zk) zk) (jv 4))))
   (zj (zq (zu (jA4 zo (jv 6) (jv 8) (cA GB hrB (jA5 (jv 0) (jv 1) (jv 2) (zx xV (zx xF (jv 3) zk) zk) (jv 4)))))))) zp)
  (zj (zq (cA GK hr (jA6 (jv 0) (jv 1) (jv 6) (jv 2) (jv 3) (jv 4)))))))))))),?_⟩
 have LM:LIM=4611686018427387904:=rfl
 have sl':=zN
 have bp:=XJ r
 refine⟨_,rfl,st,10,B,rfl,hA.s,by lia,by decide,fun H1 way k1 S1 _ _=>?_⟩
 have w1:=hA.w.kp hA.s k1
 have a1:=hA.a.kp hA.s k1
 have h1:AskB K st wl o sl m H1 A S (B+1) k r:=⟨hA.ok,w1,hA.m,a1,hA.h,hA.k,hA.r,S1⟩
 obtain⟨tl,dl,ts,us,wv,x1,_⟩:=w1.e
 refine⟨_,rfl,_,_,rfl,rfl,_,rfl,?_⟩
 cases r with
 |zero =>
  have e0:bdr 0=100:=rfl
  rw[e0]at hB q
  refine itD (by show((0:Nat):Int)<=0;decide) ?_
  refine⟨_,rfl,_,rfl,_,rfl,_,rfl,wl,o.z,o.b,_,k,rfl,x1,hA.ok.z,_,rfl,st,wl,o,sl,m,A,S,_,_,rfl,hA.ok,w1,a1,hA.h,S1,by lia,fun H2 p b k2 S2 ib gb=>?_⟩
  exact q _ p b ⟨.kp (k1.trans k2),S2.mono (by lia),m,ui _,w1.kp S1 k2⟩ ib (gb.mono (by lia) (by decide) (by decide))
 |succ r =>
  have bs:=JH r
  have bh:=JI r
  have bp':=XJ r
  have br:=hA.r
  have bk:=hA.k
  have b0:=hA.h.l0
  have b1:=hA.h.l1
  have b2:=hA.h.l2
  have b3:=hA.h.l3
  have b4:=hA.h.l4
  have bm:=hA.m
  obtain⟨z1,z2,z3,z4,z5,z6⟩:=szwt (show r<=4 by lia)
  rw[bs]at hB q
  refine itDN (by lia) (nxtC ?_)
  dsimp only
  refine(show ∀(u v:TS)(D:Ends),(∀(D':Ends)(H2:Hp),D'.rt=D.rt->Kp st H1 H2->Sta K H2 st (B+1)->u D' [some (.ref st),some (.ref A.p),some (.int (k:Nat)),some (.int ((r+1:Nat):Int)),some (.ref wl),some (.int way),none,none,none] H2)->(∀(H2:Hp),S.n2≠[]->Kp st H1 H2->Sta K H2 st (B+1)->v D [some (.ref st),some (.ref A.p),some (.int (k:Nat)),some (.int ((r+1:Nat):Int)),some (.ref wl),some (.int way),none,none,none] H2)->(tSeq (tIfS _ u yP) v:TS) D [some (.ref st),some (.ref A.p),some (.int (k:Nat)),some (.int ((r+1:Nat):Int)),some (.ref wl),some (.int way),none,none,none] H1 from ?a1) _ _ _ ?a2 ?a3
  case a1 =>
   intro u v D hU hV
   refine⟨_,rfl,ixL a1.p aI0 ⟨_,rfl,ixL a1.p aI1 ⟨A.a0,A.a1,_,_,rfl,rfl,a1.h0,a1.h1,by rw[ua,ua];lia,fun l hl=>⟨sN0,fun l2 hl2=>⟨l,l2,_,rfl,rfl,SqL.of (old hl2 zg),SqL.of zg,_,rfl,?_⟩⟩⟩⟩⟩
   have s2:=(zi hl (.lst (S.n0.map V.str++S.n1.map V.str))).new (o:=.lst []) hl2
   have S2:=S1.same s2
   generalize upd (upd H1 l (.lst (S.n0.map V.str++S.n1.map V.str))) l2 (.lst [])=H2 at *
   rw[<- uj]
   cases he:S.n0++S.n1 with
   |nil=>exact iteT (iteT (hU _ _ rfl (.of s2) S2))
   |cons x0 xs0 =>
    refine iteF ⟨_,rfl,_,_,rfl,rfl,_,rfl,?_⟩
    exact ite2 (fun _=>hU _ _ rfl (.of s2) S2) (fun _=>nxtC (hV _ (hA.h.ne (by rw[he];intro z;cases z)) (.of s2) S2))
  case a2 =>
   intro D' H2 hD k2 S2
   refine⟨_,rfl,_,rfl,_,rfl,_,rfl,_,rfl,st,wl,o,sl,m,A,S,_,k,r,rfl,⟨hA.ok,w1.kp S1 k2,hA.m,a1.kp S1 k2,hA.h,hA.k,hA.r,S2⟩,by lia,by lia,fun H3 p b md ib gb=>?_⟩
   rw[hD]
   exact q _ p b ((md.on (k1.trans k2)).mono (by lia)) ib gb
  case a3 =>
  clear h1
  intro H2 n2 k2 S2
  have k02:=k1.trans k2
  have a2:=a1.kp S1 k2
  have w2:=w1.kp S1 k2
  refine⟨_,rfl,_,rfl,_,rfl,st,wl,o,sl,m,A,S,_,rfl,w2,a2,S2,by lia,n2,by lia,fun H3 x k3 S3=>?_⟩
  have k03:=k02.trans k3
  have a3:=a2.kp S2 k3
  have w3:=w2.kp S2 k3
  have h3:AskB K st wl o sl m H3 A S (B+1+2) k (r+1):=⟨hA.ok,w3,hA.m,a3,hA.h,hA.k,hA.r,S3⟩
  refine⟨_,rfl,rfl,_,rfl,ite2 (fun _=>?_) (fun _=>nxtC ?_)⟩
  ·exact⟨_,rfl,_,rfl,_,rfl,_,rfl,_,rfl,_,rfl,st,wl,o,sl,m,A,S,_,k,r,x,rfl,h3,n2,by lia,by lia,fun H4 p b md ib gb=>q _ p b ((md.on k03).mono (by lia)) ib gb⟩
  dsimp only
  refine(show ∀(u v:TS)(D:Ends),(∀(D':Ends),D'.rt=D.rt->S.n0≠[]->u D' [some (.ref st),some (.ref A.p),some (.int (k:Nat)),some (.int ((r+1:Nat):Int)),some (.ref wl),some (.int way),some (.str x),none,none] H3)->(v D [some (.ref st),some (.ref A.p),some (.int (k:Nat)),some (.int ((r+1:Nat):Int)),some (.ref wl),some (.int way),some (.str x),none,none] H3)->(tSeq (tIfS _ u yP) v:TS) D [some (.ref st),some (.ref A.p),some (.int (k:Nat)),some (.int ((r+1:Nat):Int)),some (.ref wl),some (.int way),some (.str x),none,none] H3 from ?b1) _ _ _ ?b2 ?b3
  case b1 =>
   intro u v D hU hV
   refine⟨_,rfl,rfl,_,rfl,ite2 (fun _=>?_) (fun _=>iteF (nxtC hV))⟩
   refine⟨_,rfl,_,rfl,ixL a3.p aI0 ⟨A.a0,_,rfl,.inl (SqL.of a3.h0),rfl,wS _,_,rfl,?_⟩⟩
   cases he:S.n0 with
   |nil=>exact iteF (nxtC hV)
   |cons u0 us0=>exact ite2 (fun _=>hU _ rfl (by rw[he];intro z;cases z)) (fun _=>nxtC hV)
  case b2 =>
   intro D' hD n0
   refine⟨_,rfl,sN0,fun nl hnl=>?_⟩
   have s4:=zi hnl (.lst [])
   refine⟨A,S,nl,[],rfl,a3.same s4,zg,by show S.n0.length+0<=_;lia,by show S.n2.length+0<=_;lia,fun H5 A5 s5 a5 nd fr=>?_⟩
   rw[uO,uO]at a5
   have s35:=s4.trans s5
   have k5:=Ask.mk' hA.ok w3 S3 s35 a5 nd (fun c hc=>zO s4 (fr c hc)) hA.h
   dsimp only
   generalize upd H3 nl (.lst [])=Hx at *
   refine⟨_,rfl,ixL k5.g.at_.p aI0 ⟨A5.a0,rfl,⟨_,SqL.of k5.g.at_.h0⟩,ym (xs:=S.n0.map V.str) (fun i τ ys H'=>H5=H'/\(∃v,τ=[some (.ref st),some (.ref A.p),some (.int (k:Nat)),some (.int ((r+1:Nat):Int)),some (.ref wl),some (.int way),some (.str x),some (.ref A5.p),none,v])/\∃us:List Str,ys=us.map V.str/\us.length<=i) ⟨rfl,⟨none,rfl⟩,[],rfl,ui _⟩ (fun i τ ys H' _ h=>by rw[<- h.1];exact SqL.of k5.g.at_.h0) ?_ ?_⟩⟩
   ·rintro i v τ ys H' hv ⟨rfl,⟨v',rfl⟩,us,rfl,ul⟩
    rw[uk]at hv
    obtain⟨u,hu,rfl⟩:=uf.mp hv
    have hi:i < S.n0.length:=(ug.mp hu).1
    exact⟨_,rfl,_,rfl,rfl,_,rfl,ite2 (fun _=>⟨_,rfl,by rw[ua];lia,rfl,⟨_,rfl⟩,us++[u],by rw[uj];rfl,by rw[uc];show us.length+1<=_;lia⟩) (fun _=>⟨rfl,⟨_,rfl⟩,us,rfl,by lia⟩)⟩
   ·rintro τ ys H' ⟨rfl,_,us,rfl,ul⟩ l7 g7
    rw[ua]at ul
    have s7:=zi g7 (.lst (us.map V.str))
    have k7:=k5.same s7
    have fr7:=k5.fresh g7
    have e7:=zg (H:=H5) (a:=l7) (o:=.lst (us.map V.str))
    obtain⟨k8,t8⟩:=k7.set0 e7 fr7.1 fr7.2 (by lia) (.inr n0)
    generalize upd H5 l7 (.lst (us.map V.str))=H7 at *
    refine⟨_,rfl,A5.p,_,0,0,rfl,rfl,k7.g.at_.p,rfl,?_⟩
    dsimp only[List.set]
    generalize upd H7 A5.p (.lst [.ref l7,.ref A5.a1,.ref A5.a2,.ref A5.a3,.ref A5.a4])=H8 at *
    have hH:Hnd ⟨us,S.n1,S.n2,S.t3,S.n4⟩ r:=⟨k8.ne,by show us.length+_<=_;lia,b1,by show S.n2.length+_<=_;lia,by show S.t3.length+_<=_;lia,by show S.n4.length+_<=_;lia⟩
    refine⟨_,rfl,_,rfl,_,rfl,_,rfl,_,rfl,_,_,rfl,rfl,_,rfl,st,wl,o,sl,m,{ A5 with a0:=l7 },_,_,k,r,?_,k8.b bm hH (by lia) (by lia),by lia,by lia,fun H9 p b md ib gb=>?_⟩
    ·show[V.ref st,.ref A5.p,.int (k:Nat),.int (((r+1:Nat):Int)-1),.ref wl]=_
     rw[show((r+1:Nat):Int)-1=((r:Nat):Int) by lia]
    refine⟨sN3,fun p8 g8=>?_⟩
    rw[hD]
    exact q _ p8 (.drop x b) (((md.on (k03.trans k8.g.kp)).new g8).mono (by lia)) ⟨p,zg,ib.keep (.of (zi g8 _))⟩ (gb.drop.mono (by lia) (by lia) (by lia))
  case b3 =>
  have hH2:Hnd S (r / 2):=⟨hA.h.ne,by lia,b1,by lia,by lia,by lia⟩
  have ea:[V.ref st,.ref A.p,.int (k:Nat),.int ((((r+1:Nat):Int)-1) / 2),.ref wl]=[V.ref st,.ref A.p,.int (k:Nat),.int ((r / 2:Nat):Int),.ref wl]:=by rw[show(((r+1:Nat):Int)-1) / 2=((r / 2:Nat):Int) by lia]
  refine⟨_,rfl,rfl,_,rfl,ite2 (fun _=>?_) (fun _=>nxtC ?_)⟩
  ·refine⟨_,rfl,_,rfl,_,rfl,_,rfl,_,_,rfl,rfl,_,_,rfl,rfl,⟨by decide,by decide⟩,_,rfl,st,wl,o,sl,m,A,S,_,k,r / 2,ea,⟨hA.ok,w3,hA.m,a3,hH2,by lia,by lia,S3⟩,by lia,by lia,fun H4 p b md ib gb=>?_⟩
   obtain⟨m4,hm4,w4⟩:=md.w
   have a4:=a3.kw S3 w3 md.k
   dsimp only
   refine⟨_,rfl,_,rfl,_,rfl,_,rfl,_,rfl,_,rfl,_,_,rfl,rfl,_,_,rfl,rfl,⟨by decide,by decide⟩,_,rfl,st,wl,o,sl,m4,A,S,_,k,r / 2,ea,⟨hA.ok,w4,by lia,a4,hH2,by lia,by lia,md.s⟩,by lia,by lia,fun H5 p5 b5 md5 ib5 gb5=>⟨sN4,fun p8 g8=>?_⟩⟩
   obtain⟨m5,hm5,w5⟩:=md5.w
   have ib':=ib.keep (md5.k.tups md.s w4)
   have md05:Mad K st wl o sl m H H5 (B+1+2+bdr (r / 2)+bdr (r / 2)):=⟨(Kw.kp k03).trans (md.k.trans md5.k),md5.s,m5,by lia,w5⟩
   have g5':BdG o.D b5 (80+r / 2+2*m) (szR (r / 2)) (wtR (r / 2)):=gb5.mono (by lia) (by lia) (by lia)
   exact q _ p8 (.iff x b b5) ((md05.new g8).mono (by lia)) ⟨p,p5,zg,ib'.keep (.of (zi g8 _)),ib5.keep (.of (zi g8 _))⟩ ((gb.iff g5').mono (by lia) (by lia) (by lia))
  ·exact⟨_,rfl,_,rfl,_,rfl,_,rfl,_,rfl,_,rfl,st,wl,o,sl,m,A,S,_,k,r,x,rfl,h3,by lia,by lia,fun H4 p b md ib gb=>q _ p b ((md.on k03).mono (by lia)) ib gb⟩
end
theorem ZC(k:Nat):cl (ys k)=Um (k % 2) 121:=by
 unfold ys
 rcases(show k % 2=0\/k % 2=1 by lia)with e|e
 ·rw[e];decide +kernel
 ·rw[e];decide +kernel
theorem vq{z:Str}{b:Bool}{j k:Nat}(hj:j < 1352)(hk:k < 1352)(h:nm z b j=nm z b k):j=k:=by
 have hl:∀i:Nat,(cl (core i)).length=3:=fun i=>by rw[vn];rfl
 have cinj:cl (core j)=cl (core k)->j % 2=k % 2->j=k:=fun e e0=>by
  rw[vn,vn]at e
  injection e with e1 e2
  injection e2 with _ e3
  injection e3 with e3 _
  lia
 have e:=congrArg cl h
 unfold nm at e
 cases b with
 |true =>
  rw[if_pos rfl,if_pos rfl,yH,yH,yH,yH]at e
  have el:=congrArg U3 e
  rw[uc,uc,uc,uc,hl,hl,ZC,ZC,Uy,Uy]at el
  rw[Uj,Uj]at e
  exact cinj (List.append_inj_left e (by rw[hl,hl])) (by lia)
 |false =>
  rw[if_neg (by decide),if_neg (by decide),yH,yH,yH,yH]at e
  have el:=congrArg U3 e
  rw[uc,uc,uc,uc,hl,hl,ZC,ZC,Uy,Uy]at el
  exact cinj (List.append_inj_right' e (by rw[hl,hl])) (by lia)
structure WI(K:ub)(st:Addr)(H H':Hp)(B:Nat)(z:Str)(b:Bool)(wl tl dl:Addr)(rm:Int)(T:List (Str×Nat×Nat))(D:List (Str×List Bool)):Prop where
 s0:∃B0,Sta K H st B0
 k:Kp st H H'
 s:Sta K H' st B
 w:H' wl=some (.lst [.str z,.bl b,.ref tl,.ref dl,.bl false,.int 0,.int rm])
 t:∃ts,H' tl=some (.lst (ts.map V.ref))/\TsAt tgR H' T ts
 d:∃us,H' dl=some (.lst (us.map V.ref))/\TsAt dfR H' D us
 f1:H wl=none
 f2:H tl=none
 f3:H dl=none
 n1:wl≠tl
 n2:wl≠dl
 n3:tl≠dl
section
variable{K:ub}{st wl tl dl:Addr}{H H' H2:Hp}{B B':Nat}{z:Str}{b:Bool}{rm:Int}{T:List (Str×Nat×Nat)}{D:List (Str×List Bool)}
theorem WI.by(h:WI K st H H' B z b wl tl dl rm T D)(k:∀c∈[wl,tl,dl],∀o,H' c=some o->H2 c=some o)(t:Tups H' H2)(kp:Kp st H H2)(s:Sta K H2 st B'):WI K st H H2 B' z b wl tl dl rm T D:=by
 obtain⟨ts,t1,t2⟩:=h.t
 obtain⟨us,d1,d2⟩:=h.d
 exact⟨h.s0,kp,s,k _ (by simp) _ h.w,⟨ts,k _ (by simp) _ t1,t2.keep fun _ _ z=>z.tk t⟩,⟨us,k _ (by simp) _ d1,d2.keep fun _ _ z=>z.tk t⟩,h.f1,h.f2,h.f3,h.n1,h.n2,h.n3⟩
theorem WI.ne(h:WI K st H H' B z b wl tl dl rm T D):∀c∈[wl,tl,dl],c≠st:=by
 intro c hc
 obtain⟨B0,s0⟩:=h.s0
 simp only[uu,uD,or_false]at hc
 rcases hc with rfl|rfl|rfl
 ·exact s0.ne h.f1
 ·exact s0.ne h.f2
 ·exact s0.ne h.f3
theorem WI.go(h:WI K st H H' B z b wl tl dl rm T D)(k:Kp st H' H2)(s:Sta K H2 st B'):WI K st H H2 B' z b wl tl dl rm T D:=h.by (fun c hc o q=>k.k _ _ (h.ne c hc) q) (k.tups h.s) (h.k.trans k) s
theorem WI.same(h:WI K st H H' B z b wl tl dl rm T D)(s:Same H' H2):WI K st H H2 B z b wl tl dl rm T D:=h.go (.of s) (h.s.same s)
theorem WI.mono(h:WI K st H H' B z b wl tl dl rm T D)(l:B<=B'):WI K st H H' B' z b wl tl dl rm T D:=⟨h.s0,h.k,h.s.mono l,h.w,h.t,h.d,h.f1,h.f2,h.f3,h.n1,h.n2,h.n3⟩
theorem WI.new(h:WI K st H H' B z b wl tl dl rm T D){p:Addr}(hp:H' p=none):H p=none/\p∉[wl,tl,dl]:=by
 refine⟨h.k.free (h.s.ne hp) hp,fun hm=>?_⟩
 obtain⟨ts,t1,t2⟩:=h.t
 obtain⟨us,d1,d2⟩:=h.d
 simp only[uu,uD,or_false]at hm
 rcases hm with e|e|e
 ·rw[e,h.w]at hp;cases hp
 ·rw[e,t1]at hp;cases hp
 ·rw[e,d1]at hp;cases hp
theorem WI.put(h:WI K st H H' B z b wl tl dl rm T D){p:Addr}{xs ys:List V}(hl:H' p=some (.lst xs))(hp:H p=none)(n:p∉[wl,tl,dl]):WI K st H (upd H' p (.lst ys)) B z b wl tl dl rm T D:=by
 obtain⟨B0,s0⟩:=h.s0
 refine h.by (fun c hc o q=>by rw[zm (fun e=>n (by rw[<- e];exact hc))];exact q) (fun c xs q=>?_) (h.k.put hp) (s0.put hp h.k h.s)
 rw[zm (fun e=>by rw[e,hl]at q;cases q)]
 exact q
theorem WI.room(h:WI K st H H' B z b wl tl dl rm T D){rm':Int}:WI K st H (upd H' wl (.lst [.str z,.bl b,.ref tl,.ref dl,.bl false,.int 0,.int rm'])) B z b wl tl dl rm' T D:=by
 obtain⟨B0,s0⟩:=h.s0
 obtain⟨ts,t1,t2⟩:=h.t
 obtain⟨us,d1,d2⟩:=h.d
 have t:Tups H' (upd H' wl (.lst [.str z,.bl b,.ref tl,.ref dl,.bl false,.int 0,.int rm'])):=fun c xs q=>by
  rw[zm (fun e=>by rw[e,h.w]at q;cases q)]
  exact q
 exact⟨h.s0,h.k.put h.f1,s0.put h.f1 h.k h.s,zg,⟨ts,by rw[zm (Ne.symm h.n1)];exact t1,t2.keep fun _ _ z=>z.tk t⟩,⟨us,by rw[zm (Ne.symm h.n2)];exact d1,d2.keep fun _ _ z=>z.tk t⟩,h.f1,h.f2,h.f3,h.n1,h.n2,h.n3⟩
theorem WI.addT(h:WI K st H H' B z b wl tl dl rm T D){tg:Str×Nat×Nat}{p:Addr}(hp:tgR tg H' p){ts:List Addr}(e:H' tl=some (.lst (ts.map V.ref)))(et:TsAt tgR H' T ts):WI K st H (upd H' tl (.lst (ts.map V.ref++[.ref p]))) B z b wl tl dl rm (T++[tg]) D:=by
 obtain⟨B0,s0⟩:=h.s0
 obtain⟨us,d1,d2⟩:=h.d
 have t:Tups H' (upd H' tl (.lst (ts.map V.ref++[.ref p]))):=fun c xs q=>by
  rw[zm (fun x=>by rw[x,e]at q;cases q)]
  exact q
 exact⟨h.s0,h.k.put h.f2,s0.put h.f2 h.k h.s,by rw[zm h.n1];exact h.w,⟨ts++[p],by rw[zg,uj];rfl,(et.snoc hp).keep fun _ _ z=>z.tk t⟩,⟨us,by rw[zm (Ne.symm h.n3)];exact d1,d2.keep fun _ _ z=>z.tk t⟩,h.f1,h.f2,h.f3,h.n1,h.n2,h.n3⟩
theorem WI.addD(h:WI K st H H' B z b wl tl dl rm T D){df:Str×List Bool}{p:Addr}(hp:dfR df H' p){us:List Addr}(e:H' dl=some (.lst (us.map V.ref)))(et:TsAt dfR H' D us):WI K st H (upd H' dl (.lst (us.map V.ref++[.ref p]))) B z b wl tl dl rm T (D++[df]):=by
 obtain⟨B0,s0⟩:=h.s0
 obtain⟨ts,t1,t2⟩:=h.t
 have t:Tups H' (upd H' dl (.lst (us.map V.ref++[.ref p]))):=fun c xs q=>by
  rw[zm (fun x=>by rw[x,e]at q;cases q)]
  exact q
 exact⟨h.s0,h.k.put h.f3,s0.put h.f3 h.k h.s,by rw[zm h.n2];exact h.w,⟨ts,by rw[zm h.n3];exact t1,t2.keep fun _ _ z=>z.tk t⟩,⟨us++[p],by rw[zg,uj];rfl,(et.snoc hp).keep fun _ _ z=>z.tk t⟩,h.f1,h.f2,h.f3,h.n1,h.n2,h.n3⟩
end
def XQ(K:ub):Sp:=fun vs H Q _=>∃(st:Addr)(B:Nat),vs=[.ref st]/\Sta K H st B/\B+100 < LIM/\∀H' wl o (rm:Nat),Kp st H H'->Sta K H' st (B+100)->WgOk o->WlAt H' wl o false 0->o.v=.int (rm:Nat)->rm<=5->Q (.ref wl) H'
structure RmOk(R:List Nat):Prop where
 z:R[0]?=some 0
 n:∀x∈R,x<=9
 l:4<=R.length
 u:R.length<=24
def tgs(z:Str)(b:Bool)(R:List Nat)(k:Nat):List (Str×Nat×Nat):=(uT k).map fun k=>(nm z b k,R.getD k 0,1+min (k / 3) 1)
theorem zcY(z:Str)(b:Bool)(R:List Nat)(k:Nat):tgs z b R (k+1)=tgs z b R k++[(nm z b k,R.getD k 0,1+min (k / 3) 1)]:=by
 unfold tgs
 rw[tW,uj]
 rfl
theorem za4(z:Str)(b:Bool)(R:List Nat)(k:Nat):(tgs z b R k).length=k:=by
 unfold tgs
 rw[ua,U6]
theorem Y5(z:Str)(b:Bool)(R:List Nat){k j:Nat}(h:j < k):(tgs z b R k)[j]?=some (nm z b j,R.getD j 0,1+min (j / 3) 1):=by
 unfold tgs
 rw[uk,tR h]
 rfl
theorem zay{R:List Nat}(h:∀x∈R,x<=9)(j:Nat):R.getD j 0<=9:=by
 rw[uH]
 cases e:R[j]? with
 |none=>exact uW _
 |some x=>exact h x (uB e)
theorem zcZ{z:Str}{b:Bool}{R:List Nat}{D:List (Str×List Bool)}{v:V}{tl dl:Addr}(hz:z.length<=6)(hR:RmOk R)(hD:D.map (·.1)=[nm z b 2,nm z b 1,nm z b 0])(hl:∀d∈D,d.2.length<=9):WgOk ⟨z,b,tgs z b R R.length,D,v,tl,dl⟩:=by
 have l:=hR.l
 refine⟨hz,fun t ht=>?_,?_,?_,?_,?_,?_,hl,?_⟩
 ·obtain⟨k,_,rfl⟩:=UA.mp ht
  exact zay hR.n k
 ·refine⟨_,Y5 z b R (by lia),?_⟩
  show R.getD 0 0=0
  rw[uH,hR.z]
  rfl
 ·exact⟨_,uB (Y5 z b R (j:=0) (by lia)),rfl⟩
 ·exact⟨_,uB (Y5 z b R (j:=3) (by lia)),rfl⟩
 ·show(tgs z b R R.length).length<=24
  rw[za4]
  exact hR.u
 ·show D.length=3
  have:=congrArg U3 hD
  rw[ua]at this
  exact this
 ·show(D.map (·.1)).Nodup
  rw[hD]
  have e21:nm z b 2≠nm z b 1:=fun e=>by have:=vq (by decide) (by decide) e;lia
  have e20:nm z b 2≠nm z b 0:=fun e=>by have:=vq (by decide) (by decide) e;lia
  have e10:nm z b 1≠nm z b 0:=fun e=>by have:=vq (by decide) (by decide) e;lia
  simp[e21,e20,e10]
section
variable{P:Program}{w:World}{K:ub}{mg:Str->Option Value}{base:Heap}{f:Addr}{fd:FuncData}
theorem scWorld:FnScope ["_law_state","_law_world_here","_law_way","_law_rooms","_law_k","_law_most","_law_modes"] ["_law_state"] (zn YF):=.ok
theorem JP:(["_law_state","_law_world_here","_law_way","_law_rooms","_law_k","_law_most","_law_modes","_law_j"]:List Str).Nodup:=by decide +kernel
theorem JQ:(["_law_state","_law_world_here","_law_way","_law_rooms","_law_k","_law_most","_law_modes","_law_own"]:List Str).Nodup:=by decide +kernel
theorem JR(F:Fun K "_law_world" "_law_world" YF f fd)(GD:Ca P w K mg base CX0 1 "_law_draw" lS4 (yj K))(GT:Ca P w K mg base CX0 2 "_law_stem" ["_law_state"] (JA K))(GM:Ca P w K mg base CX0 1 "_law_name" lS9 spNm)(m_len:mg "len"=none)(m_range:mg "range"=none)(m_tuple:mg "tuple"=none)(m_min:mg "min"=none)(m_int:mg "int"=none):FnOk P w K mg base CX0 3 f fd ["_law_state"] (XQ K):=by
 refine F.by scWorld (fun vs H Q E h=>?_) (fun cdv A' outer s H vs Q E hr h=>?_)
 ·obtain⟨st,B,rfl,_⟩:=h
  rfl
 obtain⟨st,B,rfl,hS,hB,q⟩:=h
 have hr1:Room 1 _:=hr.mono (by decide)
 refine⟨_,
  (zh (sE 1 scWorld.nd (zx zZ (cA GT hr (jA1 (jv 0))) (zv (jA5 (zv zA) (zv zA) xm zk zk))))
  (zh (sE 2 scWorld.nd (cA GD hr1 (jA2 (jv 0) zk)))
  (zh (sE 3 scWorld.nd (zv (jA4 zk (zx ye zk (cA GD hr1 (jA2 (jv 0) zk))) (cA GD hr1 (jA2 (jv 0) zk)) (zx ye zk (cA GD hr1 (jA2 (jv 0) zk))))))
  (zh (zw (tN zz (jv 2) zk)
   (zh (sE 3 scWorld.nd (zx zZ (zv (jA3 zk zk zk)) (ZJ [4] [] rfl (yc rfl m_range (jA1 (zx ye zk (cA GD hr1 (jA2 (jv 0) zk))))) (fun _ _ _ _ _=>(gN 4 scWorld.nd)) (fun _ _ _ _ _=>zV) (fun _ _ _ _ _=>(cA GD hr1 (jA2 (jv 0) zk))))))
   (zj (yz zk (yD (jv 1) zk)))) zp)
  (zh (zw (jW.pt (xD (tN zz (jv 2) zk) (yW (tN zz (jv 2) zk))))
   (zj (yz (zx ye zk (cA GD hr1 (jA2 (jv 0) zk))) (yD (jv 3) zk))) zp)
  (zh (zw (tN zz (jv 2) zk)
   (zj (yz zk (yD (jv 1) zk))) zp)
  (zh (yg PassesOwn.never rfl (yc rfl m_range (jA1 (jL m_len (jv 3)))) (gN 4 scWorld.nd)
   (zj (zy (xg uJ uZ u6 yf (xL 1) (jA1 (zu (jA3 (cA GM hr1 (jA2 (jv 1) (jv 4))) (xX yb (jv 3) (jv 4)) (zx ye zk (zS (vo rfl) rfl m_min UZ (jA2 (zx xV (jv 4) zk) zk))))))))))
  (zh (yg PassesOwn.never rfl (yc rfl m_range (jA1 zk)) (gN 4 scWorld.nd)
   (zh (sE 5 scWorld.nd (xX yb (zv (jA2 zk zk)) (zK ZA rfl m_int PyProof.Rows.boot_int (jA1 (zP zz (jv 2) zk (zY _))))))
   (zh (yC ["_law_j"] (i:=6) scWorld.nd rfl (Or.inl rfl) rfl (yc rfl m_range (jA1 (cA GD hr1 (jA2 (jv 0) (jv 5))))) (fun _ _ _ _ _=>(gN 7 JP)) (fun _ _ _ _ _=>zV) (fun _ _ _ _ _=>(zP wm (cA GD hr1 (jA2 (jv 0) zk)) zk (zY _))))
   (zh (zw (tN zz (jv 4) zk)
    (zj (yC ["_law_own"] (i:=6) scWorld.nd rfl (Or.inl rfl) rfl (zQ (jv 6)) (fun _ _ _ _ _=>(gN 7 JQ)) (fun _ _ _ _ _=>zV) (fun _ _ _ _ _=>xm))) zp)
   (zj (zy (xg uJ uZ u6 yf (xL 1) (jA1 (zu (jA2 (cA GM hr1 (jA2 (jv 1) (zx xF zk (jv 4)))) (zK zM rfl m_tuple uS (jA1 (jv 6)))))))))))))
  (zj (zq (jv 1))))))))))),?_⟩
 have LM:LIM=4611686018427387904:=rfl
 have sl':=zN
 refine(show ∀(v:TS)(D:Ends),(∀(H1:Hp)(z:Str)(b:Bool)(wl tl dl rl:Addr)(way:Int)(R:List Nat),z.length<=6->WI K st H H1 (B+12) z b wl tl dl 5 [] []->H1 rl=some (.lst (R.map fun x=>V.int ((x:Nat):Int)))->H rl=none->rl∉[wl,tl,dl]->RmOk R->v D [some (.ref st),some (.ref wl),some (.int way),some (.ref rl),none,none,none] H1)->(tSeq _ (tSeq _ (tSeq _ v)):TS) D [some (.ref st),none,none,none,none,none,none] H from ?a1) _ _ ?a2
 case a1 =>
  intro v D hV
  refine⟨_,rfl,st,B,rfl,hS,by lia,fun H1 r1 z b k1 S1 hz e1=>?_⟩
  refine⟨sN0,fun tl g1=>⟨sN0,fun dl g2=>⟨sN5,fun l3 g3=>⟨r1,l3,_,_,rfl,rfl,old g3 (old g2 (old g1 e1)),zg,sN7,fun wl g4=>?_⟩⟩⟩⟩
  have s4:=(((zi g1 (.lst [])).new (o:=.lst []) g2).new (o:=.lst [.ref tl,.ref dl,.bl false,.int 0,.int 5]) g3).new (o:=.lst ([.str z,.bl b]++[.ref tl,.ref dl,.bl false,.int 0,.int 5])) g4
  have n3:tl≠dl:=fun e=>by rw[<- e,zg]at g2;cases g2
  have n1:wl≠tl:=fun e=>by rw[e,old g3 (old g2 (zg (H:=H1) (a:=tl) (o:=.lst [])))]at g4;cases g4
  have n2:wl≠dl:=fun e=>by rw[e,old g3 (zg (H:=upd H1 tl (.lst [])) (a:=dl) (o:=.lst []))]at g4;cases g4
  have f2:H tl=none:=k1.free (S1.ne g1) g1
  have g2':H1 dl=none:=zO (zi g1 (.lst [])) g2
  have f3:H dl=none:=k1.free (S1.ne g2') g2'
  have g4':H1 wl=none:=zO (((zi g1 (.lst [])).new (o:=.lst []) g2).new (o:=.lst [.ref tl,.ref dl,.bl false,.int 0,.int 5]) g3) g4
  have f1:H wl=none:=k1.free (S1.ne g4') g4'
  have W4:WI K st H (upd (upd (upd (upd H1 tl (.lst [])) dl (.lst [])) l3 (.lst [.ref tl,.ref dl,.bl false,.int 0,.int 5])) wl (.lst ([.str z,.bl b]++[.ref tl,.ref dl,.bl false,.int 0,.int 5]))) (B+8) z b wl tl dl 5 [] []:=⟨⟨B,hS⟩,k1.trans (.of s4),S1.same s4,zg,⟨[],old g4 (old g3 (old g2 zg)),rfl,fun i a t h=>by simp at h⟩,⟨[],old g4 (old g3 zg),rfl,fun i a t h=>by simp at h⟩,f1,f2,f3,n1,n2,n3⟩
  dsimp only
  generalize upd (upd (upd (upd H1 tl (.lst [])) dl (.lst [])) l3 (.lst [.ref tl,.ref dl,.bl false,.int 0,.int 5])) wl (.lst ([.str z,.bl b]++[.ref tl,.ref dl,.bl false,.int 0,.int 5]))=H4 at *
  refine⟨_,rfl,st,8,_,rfl,W4.s,by lia,by decide,fun H5 way k5 S5 _ _=>?_⟩
  have W5:=W4.go k5 S5
  refine⟨_,rfl,st,3,_,rfl,S5,by lia,by decide,fun H6 r6 k6 S6 a0 a1=>⟨_,_,rfl,rfl,?_⟩⟩
  refine⟨_,rfl,st,4,_,rfl,S6,by lia,by decide,fun H7 r7 k7 S7 b0 b1=>?_⟩
  refine⟨_,rfl,st,3,_,rfl,S7,by lia,by decide,fun H8 r8 k8 S8 c0 c1=>⟨_,_,rfl,rfl,sN4,fun rl g9=>?_⟩⟩
  have W8:=((W5.go k6 S6).go k7 S7).go k8 S8
  obtain⟨h1,h2⟩:=W8.new g9
  obtain⟨x6,rfl⟩:∃x:Nat,r6=(x:Nat):=⟨r6.toNat,by lia⟩
  obtain⟨x7,rfl⟩:∃x:Nat,r7=(x:Nat):=⟨r7.toNat,by lia⟩
  obtain⟨x8,rfl⟩:∃x:Nat,r8=(x:Nat):=⟨r8.toNat,by lia⟩
  refine hV _ z b wl tl dl rl way [0,1+x6,x7,1+x8] hz ((W8.same (zi g9 _)).mono (by lia)) ?_ h1 h2 ⟨rfl,fun x hx=>?_,by show 4<=4;decide,by show 4<=24;decide⟩
  ·rw[zg]
   show some (HO.lst [V.int 0,.int (1+((x6:Nat):Int)),.int ((x7:Nat):Int),.int (1+((x8:Nat):Int))])=some (.lst [.int ((0:Nat):Int),.int ((1+x6:Nat):Int),.int ((x7:Nat):Int),.int ((1+x8:Nat):Int)])
   rw[show 1+((x6:Nat):Int)=((1+x6:Nat):Int) by lia,show 1+((x8:Nat):Int)=((1+x8:Nat):Int) by lia]
   rfl
  ·simp only[uu,uD,or_false]at hx
   lia
 case a2 =>
 intro H1 z b wl tl dl rl way R hz W1 e1 f1 n1 hR
 refine(show ∀(v:TS)(D:Ends),(∀(H1:Hp)(rl:Addr)(R:List Nat)(rm:Int),1<=rm->rm<=5->WI K st H H1 (B+40) z b wl tl dl rm [] []->H1 rl=some (.lst (R.map fun x=>V.int ((x:Nat):Int)))->H rl=none->rl∉[wl,tl,dl]->RmOk R->v D [some (.ref st),some (.ref wl),some (.int way),some (.ref rl),none,none,none] H1)->(tSeq _ v:TS) D [some (.ref st),some (.ref wl),some (.int way),some (.ref rl),none,none,none] H1 from ?b1) _ _ ?b2
 case b1 =>
  intro v D hV
  refine⟨_,rfl,rfl,_,rfl,ite2 (fun _=>?_) (fun _=>nxtC (hV _ rl R 5 (by decide) (by decide) (W1.mono (by lia)) e1 f1 n1 hR))⟩
  refine⟨sN3,fun l3 g3=>?_⟩
  have W3:=W1.same (zi g3 (.lst [.int 0,.int 1,.int 2]))
  have e3:=zg (H:=H1) (a:=l3) (o:=.lst [.int 0,.int 1,.int 2])
  obtain⟨h3,h3'⟩:=W1.new g3
  generalize upd H1 l3 (.lst [.int 0,.int 1,.int 2])=H3 at *
  refine⟨_,rfl,st,17,_,rfl,W3.s,by lia,by decide,fun H4 r4 k4 S4 a0 a1=>⟨_,_,rfl,rfl,_,rfl,by lia,by lia,?_⟩⟩
  have W4:=W3.go k4 S4
  have l3s:l3≠st:=fun e=>by
   obtain⟨B0,s0⟩:=W1.s0
   exact s0.ne h3 e
  have e4:=k4.k _ _ l3s e3
  refine yx (n:=(1*4+r4).toNat) (fun i τ ys H'=>WI K st H H' (B+13+i) z b wl tl dl 5 [] []/\H' l3=some (.lst [.int 0,.int 1,.int 2])/\(∃y,τ=[some (.ref st),some (.ref wl),some (.int way),some (.ref rl),y,none,none])/\∃ns:List Nat,ys=(ns.map fun x=>V.int ((x:Nat):Int))/\ns.length=i/\∀x∈ns,x<=9) ⟨W4,e4,⟨none,rfl⟩,[],rfl,rfl,fun x h=>by cases h⟩ ?_ ?_
  ·rintro i τ ys H5 hi ⟨W5,e5,⟨y,rfl⟩,ns,rfl,nl,hn⟩
   refine⟨_,rfl,st,3,_,rfl,W5.s,by lia,by decide,fun H6 r6 k6 S6 b0 b1=>?_⟩
   obtain⟨x6,rfl⟩:∃x:Nat,r6=(x:Nat):=⟨r6.toNat,by lia⟩
   refine⟨by rw[ua];lia,W5.go k6 S6,k6.k _ _ l3s e5,⟨_,rfl⟩,ns++[x6],by rw[uj];rfl,by rw[uc,nl];rfl,fun x hx=>?_⟩
   rcases uF.mp hx with h|h
   ·exact hn x h
   ·rw[uv.mp h];lia
  ·rintro τ ys H5 ⟨W5,e5,_,ns,rfl,nl,hn⟩ l6 g6
   refine⟨l3,l6,_,_,rfl,rfl,old g6 e5,zg,by rw[ua];show 3+ns.length<=_;lia,fun rl7 g7=>?_⟩
   have W6:=W5.same (zi g6 (.lst (ns.map fun x=>V.int ((x:Nat):Int))))
   obtain⟨h7,h7'⟩:=W6.new g7
   have W7:=W6.same (zi g7 (.lst ([.int 0,.int 1,.int 2]++ns.map fun x=>V.int ((x:Nat):Int))))
   have e7:=zg (H:=upd H5 l6 (.lst (ns.map fun x=>V.int ((x:Nat):Int)))) (a:=rl7) (o:=.lst ([.int 0,.int 1,.int 2]++ns.map fun x=>V.int ((x:Nat):Int)))
   dsimp only
   generalize upd (upd H5 l6 (.lst (ns.map fun x=>V.int ((x:Nat):Int)))) rl7 (.lst ([.int 0,.int 1,.int 2]++ns.map fun x=>V.int ((x:Nat):Int)))=H7 at *
   refine⟨_,rfl,wl,_,6,6,rfl,rfl,W7.w,rfl,?_⟩
   have W8:=W7.room (rm':=1)
   have nw:rl7≠wl:=fun e=>h7' (by rw[e];simp)
   exact hV _ rl7 (0::1::2::ns) 1 (by decide) (by decide) (W8.mono (by lia)) (by rw[zm nw];exact e7) h7 h7' ⟨rfl,fun x hx=>by
    rcases uu.mp hx with h|hx
    ·lia
    ·rcases uu.mp hx with h|hx
     ·lia
     ·rcases uu.mp hx with h|hx
      ·lia
      ·exact hn x hx,by show 4<=ns.length+1+1+1;lia,by show ns.length+1+1+1<=24;lia⟩
 case b2 =>
 clear W1 e1 f1 n1 hR
 clear H1 rl R
 intro H1 rl R rm rm1 rm5 W1 e1 f1 n1 hR
 refine(show ∀(v:TS)(D:Ends),(∀(H1:Hp)(R:List Nat),WI K st H H1 (B+41) z b wl tl dl rm [] []->H1 rl=some (.lst (R.map fun x=>V.int ((x:Nat):Int)))->RmOk R->v D [some (.ref st),some (.ref wl),some (.int way),some (.ref rl),none,none,none] H1)->(tSeq _ v:TS) D [some (.ref st),some (.ref wl),some (.int way),some (.ref rl),none,none,none] H1 from ?c1) _ _ ?c2
 case c1 =>
  intro v D hV
  refine(show ∀(u:TS),(∀(D':Ends),D'.nx=v D->u D' [some (.ref st),some (.ref wl),some (.int way),some (.ref rl),none,none,none] H1)->(tSeq (tIfS _ u yP) v:TS) D [some (.ref st),some (.ref wl),some (.int way),some (.ref rl),none,none,none] H1 from ?d1) _ ?d2
  case d1 =>
   intro u hU
   refine⟨_,rfl,rfl,_,rfl,ite2 (fun _=>iteT (hU _ rfl)) (fun _=>?_)⟩
   exact⟨_,rfl,rfl,_,rfl,ite2 (fun _=>hU _ rfl) (fun _=>nxtC (hV _ R (W1.mono (by lia)) e1 hR))⟩
  case d2 =>
   intro D' hD
   have rls:rl≠st:=by
    obtain⟨B0,s0⟩:=W1.s0
    exact s0.ne f1
   refine⟨_,rfl,st,6,_,rfl,W1.s,by lia,by decide,fun H2 r2 k2 S2 a0 a1=>⟨_,_,rfl,rfl,?_⟩⟩
   have W2:=W1.go k2 S2
   have e2:=k2.k _ _ rls e1
   obtain⟨x2,rfl⟩:∃x:Nat,r2=(x:Nat):=⟨r2.toNat,by lia⟩
   have l4:=hR.l
   refine⟨_,rfl,rl,_,3,3,rfl,rfl,e2,by rw[ua];unfold ixN;rw[if_pos (by decide),if_pos (by lia)];rfl,?_⟩
   rw[hD]
   have es:((R.map fun x=>V.int ((x:Nat):Int)).set 3 (.int (4+((x2:Nat):Int))))=(R.set 3 (4+x2)).map fun x=>V.int ((x:Nat):Int):=by
    rw[show 4+((x2:Nat):Int)=((4+x2:Nat):Int) by lia]
    exact List.map_set.symm
   rw[es]
   refine hV _ (R.set 3 (4+x2)) (W2.put e2 f1 n1) zg ⟨?_,fun x hx=>?_,by rw[UJ];exact hR.l,by rw[UJ];exact hR.u⟩
   ·rw[U1 (by decide)];exact hR.z
   ·rcases List.mem_or_eq_of_mem_set hx with h|h
    ·exact hR.n x h
    ·lia
 case c2 =>
 clear W1 e1 hR
 clear H1 R
 intro H1 R W1 e1 hR
 refine(show ∀(v:TS)(D:Ends),(∀(H1:Hp)(rm:Int),1<=rm->rm<=5->WI K st H H1 (B+41) z b wl tl dl rm [] []->H1 rl=some (.lst (R.map fun x=>V.int ((x:Nat):Int)))->v D [some (.ref st),some (.ref wl),some (.int way),some (.ref rl),none,none,none] H1)->(tSeq _ v:TS) D [some (.ref st),some (.ref wl),some (.int way),some (.ref rl),none,none,none] H1 from ?e1) _ _ ?e2
 case e1 =>
  intro v D hV
  refine⟨_,rfl,rfl,_,rfl,ite2 (fun _=>?_) (fun _=>nxtC (hV _ rm rm1 rm5 W1 e1))⟩
  refine⟨_,rfl,wl,_,6,6,rfl,rfl,W1.w,rfl,?_⟩
  have nw:rl≠wl:=fun e=>n1 (by rw[e];simp)
  exact hV _ 2 (by decide) (by decide) W1.room (by rw[zm nw];exact e1)
 case e2 =>
 clear W1 e1 rm1 rm5
 clear H1 rm
 intro H1 rm rm1 rm5 W1 e1
 refine(show ∀(v:TS)(D:Ends),(∀(H1:Hp)(y:Option V),WI K st H H1 (B+41) z b wl tl dl rm (tgs z b R R.length) []->v D [some (.ref st),some (.ref wl),some (.int way),some (.ref rl),y,none,none] H1)->(tSeq _ v:TS) D [some (.ref st),some (.ref wl),some (.int way),some (.ref rl),none,none,none] H1 from ?f1) _ _ ?f2
 case f1 =>
  intro v D hV
  have ru:=hR.u
  refine⟨_,rfl,rl,_,rfl,.inl (SqL.of e1),_,rfl,by rw[ua];lia,by rw[ua];lia,je (n:=(((R.map fun x=>V.int ((x:Nat):Int)).length:Nat):Int).toNat) (fun i σ H'=>∃y,σ=[some (.ref st),some (.ref wl),some (.int way),some (.ref rl),y,none,none]/\WI K st H H' (B+41) z b wl tl dl rm (tgs z b R i) []/\H' rl=some (.lst (R.map fun x=>V.int ((x:Nat):Int)))) ⟨none,rfl,W1,e1⟩ ?_ ?_⟩
  ·rintro i σ H2 hi ⟨y,rfl,W2,e2⟩
   rw[ua]at hi
   have hi':i < R.length:=by lia
   obtain⟨ts,t1,t2⟩:=W2.t
   have tl24:ts.length<=24:=by rw[<- t2.1,za4];lia
   have ez:(0:Int)+((i:Nat):Int)=((i:Nat):Int):=by lia
   refine⟨_,rfl,ixL W2.w aI2 ⟨.inl ⟨rfl,_,SqL.of t1⟩,_,rfl,_,rfl,wl,z,b,_,i,by rw[ez];rfl,W2.w,hz,?_⟩⟩
   refine⟨_,rfl,_,rfl,rl,_,_,.int ((R.getD i 0:Nat):Int),rfl,rfl,SqL.of e2,by rw[ez];exact zJ (by rw[uk,uH,um hi'];rfl),?_⟩
   refine⟨_,rfl,_,_,rfl,rfl,⟨by decide,by decide⟩,_,_,rfl,_,_,rfl,rfl,sN3,fun p hp=>⟨tl,_,_,rfl,rfl,old hp t1,by rw[ua];lia,?_⟩⟩
   have em:(1:Int)+(if(1:Int) < (0+((i:Nat):Int)) / 3 then 1 else(0+((i:Nat):Int)) / 3)=((1+min (i / 3) 1:Nat):Int):=by
    split<;>lia
   dsimp only
   rw[em]
   have s3:=zi hp (.tup [.str (nm z b i),.int ((R.getD i 0:Nat):Int),.int ((1+min (i / 3) 1:Nat):Int)])
   have W3:=W2.same s3
   have np:rl≠tl:=fun e=>n1 (by rw[e];simp)
   refine⟨_,rfl,?_,?_⟩
   ·rw[zcY]
    exact W3.addT (tg:=(nm z b i,R.getD i 0,1+min (i / 3) 1)) zg (s3 _ _ t1) (t2.keep fun _ _ z=>z.tk (.of s3))
   ·rw[zm np]
    exact s3 _ _ e2
  ·rintro σ H2 ⟨y,rfl,W2,e2⟩
   rw[ua,tH]at W2
   exact hV _ y W2
 case f2 =>
 clear W1 e1
 clear H1
 intro H1 y W1
 refine⟨_,rfl,by decide,by decide,je (n:=(3:Int).toNat) (fun i σ H'=>∃(y1 y2 y3:Option V)(D:List (Str×List Bool)),σ=[some (.ref st),some (.ref wl),some (.int way),some (.ref rl),y1,y2,y3]/\WI K st H H' (B+41+12*i) z b wl tl dl rm (tgs z b R R.length) D/\D.map (·.1)=([nm z b 2,nm z b 1,nm z b 0]).take i/\∀d∈D,d.2.length<=9) ⟨y,none,none,[],rfl,W1,rfl,fun d h=>by cases h⟩ ?_ ?_⟩
 ·rintro i σ H2 hi ⟨y1,y2,y3,D,rfl,W2,eD,hD⟩
  have hi:i < 3:=hi
  refine⟨sN2,fun l3 g3=>⟨_,rfl,rfl,.inr ⟨_,rfl,?_⟩⟩⟩
  have W3:=W2.same (zi g3 (.lst [.int 4,.int 10]))
  obtain⟨most,hm1,hm2⟩:∃most:Int,atI [V.int 4,V.int 10] (if(decide (V.int way=V.int 3))=true then 1 else 0)=some (.int most)/\(0 < most/\most<=10):=by
   cases decide (V.int way=V.int 3)with
   |true=>exact⟨10,rfl,by decide,by decide⟩
   |false=>exact⟨4,rfl,by decide,by decide⟩
  refine⟨l3,_,_,_,rfl,rfl,SqL.of zg,hm1,?_⟩
  dsimp only
  generalize upd H2 l3 (.lst [.int 4,.int 10])=H3 at *
  refine⟨_,rfl,_,rfl,st,most,_,rfl,W3.s,by lia,hm2.1,fun H4 r4 k4 S4 a0 a1=>⟨_,rfl,by lia,by lia,?_⟩⟩
  have W4:=W3.go k4 S4
  refine yx (n:=r4.toNat) (fun j τ ys H'=>WI K st H H' (B+41+12*i+1+j) z b wl tl dl rm (tgs z b R R.length) D/\(∃y,τ=[some (.ref st),some (.ref wl),some (.int way),some (.ref rl),some (.int (0+(i:Nat))),some (.int most),y3,y])/\∃ms:List Bool,ys=ms.map V.bl/\ms.length=j) ⟨W4,⟨none,rfl⟩,[],rfl,rfl⟩ ?_ ?_
  ·rintro j τ ys H5 hj ⟨W5,⟨y,rfl⟩,ms,rfl,ml⟩
   refine⟨_,rfl,st,3,_,rfl,W5.s,by lia,by decide,fun H6 r6 k6 S6 b0 b1=>⟨_,_,rfl,rfl,by rw[ua];lia,W5.go k6 S6,⟨_,rfl⟩,ms++[decide (0 < r6)],by rw[uj];rfl,by rw[uc,ml];rfl⟩⟩
  ·rintro τ ys H5 ⟨W5,_,ms,rfl,ml⟩ l6 g6
   have W6:=(W5.same (zi g6 (.lst (ms.map V.bl)))).mono (show _<=B+41+12*(i+1) by lia)
   have e6:=zg (H:=H5) (a:=l6) (o:=.lst (ms.map V.bl))
   have m9:ms.length<=9:=by lia
   dsimp only
   generalize upd H5 l6 (.lst (ms.map V.bl))=H6 at *
   refine(show ∀(v:TS)(D':Ends),(∀(H7:Hp)(l7:Addr)(ms:List Bool),ms.length<=9->WI K st H H7 (B+41+12*(i+1)) z b wl tl dl rm (tgs z b R R.length) D->H7 l7=some (.lst (ms.map V.bl))->v D' [some (.ref st),some (.ref wl),some (.int way),some (.ref rl),some (.int (0+(i:Nat))),some (.int most),some (.ref l7)] H7)->(tSeq _ v:TS) D' [some (.ref st),some (.ref wl),some (.int way),some (.ref rl),some (.int (0+(i:Nat))),some (.int most),some (.ref l6)] H6 from ?g1) _ _ ?g2
   case g1 =>
    intro v D' hV
    refine⟨_,rfl,rfl,_,rfl,ite2 (fun _=>?_) (fun _=>nxtC (hV _ l6 ms m9 W6 e6))⟩
    refine⟨_,rfl,l6,rfl,⟨_,SqL.of e6⟩,ym (xs:=ms.map V.bl) (fun j τ ys H'=>H6=H'/\(∃y,τ=[some (.ref st),some (.ref wl),some (.int way),some (.ref rl),some (.int (0+(i:Nat))),some (.int most),some (.ref l6),y])/\∃ns:List Bool,ys=ns.map V.bl/\ns.length=j) ⟨rfl,⟨none,rfl⟩,[],rfl,rfl⟩ (fun i τ ys H' _ h=>by rw[<- h.1];exact SqL.of e6) ?_ ?_⟩
    ·rintro j v τ ys H' hv ⟨rfl,⟨y,rfl⟩,ns,rfl,nl⟩
     have hj:=(ug.mp hv).1
     rw[ua]at hj
     exact⟨by rw[ua];lia,rfl,⟨_,rfl⟩,ns++[true],by rw[uj];rfl,by rw[uc,nl];rfl⟩
    ·rintro τ ys H' ⟨rfl,_,ns,rfl,nl⟩ l7 g7
     rw[ua]at nl
     exact hV _ l7 ns (by lia) (W6.same (zi g7 _)) zg
   case g2 =>
   clear W6 e6 m9 ml W5
   intro H7 l7 ms m9 W7 e7
   obtain⟨us,u1,u2⟩:=W7.d
   have lD:D.length=i:=by
    have:=congrArg U3 eD
    rw[ua,uX]at this
    have:min i [nm z b 2,nm z b 1,nm z b 0].length=i:=by show min i 3=i;lia
    lia
   have ul:us.length<=3:=by rw[<- u2.1];lia
   refine⟨_,rfl,ixL W7.w aI3 ⟨.inl ⟨rfl,_,SqL.of u1⟩,_,rfl,_,rfl,_,_,rfl,rfl,wl,z,b,_,2-i,?_,W7.w,hz,?_⟩⟩
   ·show[V.ref wl,V.int (2-(0+((i:Nat):Int)))]=_
    rw[show(2:Int)-(0+((i:Nat):Int))=((2-i:Nat):Int) by lia]
   refine⟨_,rfl,l7,_,rfl,.inl ⟨SqL.of e7,fun q1 h1=>⟨sN2,fun q2 h2=>⟨dl,_,_,rfl,rfl,old h2 (old h1 u1),by rw[ua];lia,?_⟩⟩⟩⟩
   have s8:=(zi h1 (.tup (ms.map V.bl))).new (o:=.tup [.str (nm z b (2-i)),.ref q1]) h2
   have W8:=W7.same s8
   refine⟨_,_,_,D++[(nm z b (2-i),ms)],rfl,W8.addD (df:=(nm z b (2-i),ms)) ⟨q1,zg,old h2 zg⟩ (s8 _ _ u1) (u2.keep fun _ _ z=>z.tk (.of s8)),?_,fun d hd=>?_⟩
   ·rw[uj,eD]
    have a:i=0\/i=1\/i=2:=by lia
    rcases a with rfl|rfl|rfl<;>rfl
   ·rcases uF.mp hd with h|h
    ·exact hD d h
    ·rw[uv.mp h];exact m9
 ·rintro σ H2 ⟨y1,y2,y3,D,rfl,W2,eD,hD⟩
  obtain⟨ts,t1,t2⟩:=W2.t
  obtain⟨us,u1,u2⟩:=W2.d
  refine⟨_,rfl,q _ wl ⟨z,b,tgs z b R R.length,D,.int rm,tl,dl⟩ rm.toNat W2.k (W2.s.mono (by show B+41+12*3<=_;lia)) (zcZ hz hR eD hD) ⟨⟨tl,dl,ts,us,.non,W2.w,t1,t2,u1,u2⟩,_,_,W2.w⟩ (by show V.int rm=_;rw[Int.toNat_of_nonneg (by lia)]) (by lia)⟩
def XR(K:ub):Sp:=fun vs H Q _=>∃(st wl:Addr)(o:Wg)(sl:Bool)(m B rm:Nat),vs=[.ref st,.ref wl,.int (rm:Nat)]/\WgOk o/\WlAt H wl o sl m/\rm<=5/\Sta K H st B/\B+3*(2+bdr rm) < LIM/\∀H' p ds,Kw st wl H H'->Sta K H' st (B+3*(2+bdr rm))->(∃sl' m',WlAt H' wl o sl' m')->IsCode H' ds p->owOf ds=o.D->(∀d∈ds,DfG o.D 153 d)->Q (.ref p) H'
theorem IsDfs.snoc{H:Hp}{ds:List Df}{os:List Addr}{d:Df}{o:Addr}(h:IsDfs H ds os)(g:IsDf H d o):IsDfs H (ds++[d]) (os++[o]):=by
 refine⟨by rw[uc,uc,h.1];rfl,fun i x y h1 h2=>?_⟩
 by_cases c:i < ds.length
 ·rw[Uh c]at h1
  rw[Uh (by rw[<- h.1];exact c)]at h2
  exact h.2 i x y h1 h2
 ·rw[Uo (by lia)]at h1
  rw[Uo (by rw[<- h.1];lia),<- h.1]at h2
  match hk:i-ds.length,h1,h2 with
  |0,h1,h2=>cases h1;cases h2;exact g
  |n+1,h1,h2=>simp at h1
theorem Yg{z:Str}{b:Bool}:∀{n:Nat},n<=1000->((uT n).map fun k=>nm z b k).Nodup
 |0,_=>UP
 |n+1,h=>by
  rw[tW,uj,UG]
  refine⟨Yg (by lia),by simp,fun x hx y hy e=>?_⟩
  obtain⟨i,hi,rfl⟩:=UA.mp hx
  rw[List.mem_range]at hi
  have hy:y=nm z b n:=by simpa using hy
  rw[hy]at e
  have:=vq (by lia) (by lia) e
  lia
theorem scLCode:FnScope ["_law_state","_law_world_here","_law_room","_law_defs","_law_name_here","_law_modes","_law_params","_law_mine","_law_lent","_law_body_here","_law_some"] lS14 (zn YL):=.ok
theorem JS:(["_law_state","_law_world_here","_law_room","_law_defs","_law_name_here","_law_modes","_law_params","_law_mine","_law_lent","_law_body_here","_law_some","_law_k"]:List Str).Nodup:=by decide +kernel
theorem wG:(["_law_state","_law_world_here","_law_room","_law_defs","_law_name_here","_law_modes","_law_params","_law_mine","_law_lent","_law_body_here","_law_some","_law_param","_law_own"]:List Str).Nodup:=by decide +kernel
theorem vZ:(["_law_state","_law_world_here","_law_room","_law_defs","_law_name_here","_law_modes","_law_params","_law_mine","_law_lent","_law_body_here","_law_some","_law_tag","_law_size","_law_kind"]:List Str).Nodup:=by decide +kernel
theorem JT(F:Fun K "_law_code" "_law_code" YL f fd)(GD:Ca P w K mg base CX0 1 "_law_draw" lS4 (yj K))(GM:Ca P w K mg base CX0 1 "_law_name" lS9 spNm)(GB:Ca P w K mg base CX0 21 "_law_body" lS0 (xk K 5))(m_len:mg "len"=none)(m_range:mg "range"=none)(m_tuple:mg "tuple"=none)(m_list:mg "list"=none)(m_zip:mg "zip"=none)(m_int:mg "int"=none):FnOk P w K mg base CX0 22 f fd lS14 (XR K):=by
 refine F.by scLCode (fun vs H Q E h=>?_) (fun cdv A' outer s H vs Q E hr h=>?_)
 ·obtain⟨st,wl,o,sl,m,B,rm,rfl,_⟩:=h
  rfl
 obtain⟨st,wl,o,sl,m,B,rm,rfl,hok,hw,hrm,hS,hB,q⟩:=h
 have hr1:Room 1 _:=hr.mono (by decide)
 refine⟨_,
  (zh (sE 3 scLCode.nd (zv zA))
  (zh (yg PassesOwn.never rfl (zQ (xL 1)) (wq rfl (zC (gN 4 scLCode.nd) (zC (gN 5 scLCode.nd) yA)))
   (zh (yz (zP wm (cA GD hr1 (jA2 (jv 0) zk)) zk (zY _)) (yD (jv 1) zk))
   (zh (yz (zx j9 (zK ZA rfl m_int PyProof.Rows.boot_int (jA1 (zP zz (jv 2) zk (zY _)))) (zx ye zk (cA GD hr1 (jA2 (jv 0) zk)))) (yD (jv 1) zk))
   (zh (yC ["_law_k"] (i:=6) scLCode.nd rfl (Or.inl rfl) rfl (yc rfl m_range (jA1 (jL m_len (jv 5)))) (fun _ _ _ _ _=>(gN 11 JS)) (fun _ _ _ _ _=>zV) (fun _ _ _ _ _=>(cA GM hr1 (jA2 (jv 1) (jv 11)))))
   (zh (yC ["_law_param","_law_own"] (i:=7) scLCode.nd rfl (Or.inl rfl) rfl (Zd rfl m_zip (jA2 (jv 6) (jv 5))) (fun _ _ _ _ _=>(wy K (n:=2) rfl (zC (gN 11 wG) (zC (gN 12 wG) yA)))) (fun _ _ _ _ _=>(ya (zE (jv 12)))) (fun _ _ _ _ _=>(jv 11)))
   (zh (yC ["_law_param","_law_own"] (i:=8) scLCode.nd rfl (Or.inl rfl) rfl (Zd rfl m_zip (jA2 (jv 6) (jv 5))) (fun _ _ _ _ _=>(wy K (n:=2) rfl (zC (gN 11 wG) (zC (gN 12 wG) yA)))) (fun _ _ _ _ _=>(ya (yM (zE (jv 12))))) (fun _ _ _ _ _=>(jv 11)))
   (zh (sE 9 scLCode.nd (cA GB hr (jA5 (jv 0) (zv (jA5 (jv 7) (jv 8) (zK yX rfl m_list UE (jA1 (jv 6))) (zv zA) (zv zA))) (jL m_len (jv 6)) (jv 2) (jv 1))))
   (zj (zy (xg uJ uZ u6 yf (jv 3) (jA1 (zu (jA4 (jv 4) (zK zM rfl m_tuple uS (jA1 (jv 6))) (jv 5) (jv 9))))))))))))))
  (zh (yC ["_law_tag","_law_size","_law_kind"] (i:=10) scLCode.nd rfl (Or.inl rfl) rfl (zQ (xL 1)) (fun _ _ _ _ _=>(wy K (n:=3) rfl (zC (gN 11 vZ) (zC (gN 12 vZ) (zC (gN 13 vZ) yA))))) (fun _ _ _ _ _=>zV) (fun _ _ _ _ _=>(zu (jA2 (jv 11) (jv 12)))))
  (zj (zq (zu (jA2 (zu (jA2 (zK zM rfl m_tuple uS (jA1 (vB Xm (jv 10) jZ (j7 zk)))) (zK zM rfl m_tuple uS (jA1 (vB Xm (jv 10) (j7 zk) jZ))))) (zK zM rfl m_tuple uS (jA1 (jv 3)))))))))),?_⟩
 have LM:LIM=4611686018427387904:=rfl
 have sl':=zN
 obtain⟨tl,dl,ts,us,wv,x1,x2,x3,x4,x5⟩:=hw.e
 have ul:us.length=3:=by rw[<- x5.1];exact hok.Dn
 have dls:=hS.neR x4
 have dlw:=hw.neR x4
 refine(show ∀(v:TS)(D:Ends),(∀(H1:Hp)(ld:Addr)(os:List Addr)(ds:List Df)(y4 y5 y6 y7 y8 y9:Option V),Kw st wl H H1->Sta K H1 st (B+3*(2+bdr rm))->(∃sl' m',WlAt H1 wl o sl' m')->H1 ld=some (.lst (os.map V.ref))->IsDfs H1 ds os->owOf ds=o.D->(∀d∈ds,DfG o.D 153 d)->v D [some (.ref st),some (.ref wl),some (.int (rm:Nat)),some (.ref ld),y4,y5,y6,y7,y8,y9,none] H1)->(tSeq _ (tSeq _ v):TS) D [some (.ref st),some (.ref wl),some (.int (rm:Nat)),none,none,none,none,none,none,none,none] H from ?a1) _ _ ?a2
 case a1 =>
  intro v D hV
  refine⟨sN0,fun ld gd=>?_⟩
  have s1:=zi gd (.lst [])
  have e1:=zg (H:=H) (a:=ld) (o:=.lst [])
  have w1:=hw.kp hS (Kp.of s1)
  have S1:=hS.same s1
  have lds:=hS.ne gd
  have ldw:ld≠wl:=fun e=>by rw[e,x1]at gd;cases gd
  dsimp only
  generalize upd H ld (.lst [])=H1 at *
  refine⟨_,rfl,ixL (s1 _ _ x1) aI3 ⟨dl,rfl,⟨_,SqL.of (s1 _ _ x4)⟩,yJ (xs:=us.map V.ref) (fun i σ H'=>∃(os:List Addr)(ds:List Df)(y4 y5 y6 y7 y8 y9:Option V),σ=[some (.ref st),some (.ref wl),some (.int (rm:Nat)),some (.ref ld),y4,y5,y6,y7,y8,y9,none]/\Kw st wl H H'/\Sta K H' st (B+i*(2+bdr rm))/\(∃sl' m',WlAt H' wl o sl' m')/\H' ld=some (.lst (os.map V.ref))/\IsDfs H' ds os/\owOf ds=o.D.take i/\∀d∈ds,DfG o.D 153 d) ⟨[],[],none,none,none,none,none,none,rfl,.of s1,S1.mono (by lia),⟨_,_,w1⟩,e1,⟨rfl,fun i d o h=>by simp at h⟩,rfl,fun d h=>by cases h⟩ (fun i σ H' _ h=>?_) ?_ ?_⟩⟩
  ·obtain⟨_,_,_,_,_,_,_,_,_,k,_⟩:=h
   exact SqL.of (k.k _ _ dls dlw x4)
  ·rintro i v σ H2 hv ⟨os,ds,y4,y5,y6,y7,y8,y9,rfl,k2,S2,⟨sl2,m2,w2⟩,e2,I2,eo,hG⟩
   rw[uk]at hv
   obtain⟨t,ht,rfl⟩:=uf.mp hv
   have hi:i < 3:=by have:=(ug.mp ht).1;lia
   obtain⟨⟨g,ms⟩,ed,qm,d1,d2⟩:=x5.at ht
   have dm:=uB ed
   have lms:ms.length<=9:=hok.D _ dm
   have im:(i+1)*(2+bdr rm)=i*(2+bdr rm)+(2+bdr rm):=Nat.succ_mul _ _
   have i3:(i+1)*(2+bdr rm)<=3*(2+bdr rm):=UO _ (by lia)
   have t2:=k2.tups hS hw
   have od:os.length=i:=by
    have:=congrArg U3 eo
    unfold owOf at this
    rw[ua,uX,hok.Dn]at this
    have:=I2.1
    lia
   refine⟨t,_,rfl,SqT.of (t2 _ _ d1),rfl,_,_,rfl,_,_,rfl,rfl,?_⟩
   refine⟨_,rfl,st,3,_,rfl,S2,by lia,by decide,fun H3 r3 k3 S3 _ _=>⟨_,_,rfl,rfl,?_⟩⟩
   have w3:=w2.kp S2 k3
   obtain⟨xs4,z1,z2,w4,S4,k4⟩:=w3.put S3 (i:=4) (y:=.bl (decide (0 < r3))) (sl':=decide (0 < r3)) (m':=m2) (.inl ⟨rfl,rfl,rfl⟩)
   refine⟨_,rfl,wl,xs4,4,4,rfl,rfl,z1,z2,?_⟩
   have k24:Kw st wl H2 (upd H3 wl (.lst (xs4.set 4 (.bl (decide (0 < r3)))))):=(Kw.kp k3).trans k4
   dsimp only
   generalize upd H3 wl (.lst (xs4.set 4 (.bl (decide (0 < r3)))))=H4 at *
   generalize decide (0 < r3)=sl4 at *
   refine⟨_,rfl,rfl,.inr ⟨_,rfl,?_⟩⟩
   refine⟨_,rfl,st,25,_,rfl,S4,by lia,by decide,fun H5 r5 k5 S5 a0 a1=>⟨_,_,rfl,rfl,_,_,rfl,rfl,.inl ⟨by split<;>decide,by split<;>decide⟩,?_⟩⟩
   have w5:=w4.kp S4 k5
   obtain⟨m5,hm5,m34⟩:∃m5:Nat,(if decide (V.int ((rm:Nat):Int)=V.int 2)=true then(1:Int)else 0)*(10+r5)=((m5:Nat):Int)/\m5<=34:=by
    cases decide (V.int ((rm:Nat):Int)=V.int 2)with
    |true=>exact⟨(10+r5).toNat,by rw[if_pos rfl];lia,by lia⟩
    |false=>exact⟨0,by rw[if_neg (by decide)];lia,by lia⟩
   dsimp only
   rw[hm5]
   obtain⟨xs6,z3,z4,w6,S6,k6⟩:=w5.put S5 (i:=5) (y:=.int ((m5:Nat):Int)) (sl':=sl4) (m':=m5) (.inr ⟨rfl,rfl,rfl⟩)
   refine⟨_,rfl,wl,xs6,5,5,rfl,rfl,z3,z4,?_⟩
   have k26:Kw st wl H2 (upd H5 wl (.lst (xs6.set 5 (.int ((m5:Nat):Int))))):=k24.trans ((Kw.kp k5).trans k6)
   dsimp only
   generalize upd H5 wl (.lst (xs6.set 5 (.int ((m5:Nat):Int))))=H6 at *
   clear k24 k3 k4 k5 k6 z1 z2 z3 z4 w3 w4 w5 S3 S4 S5 hm5
   have t26:=k26.tups S2 w2
   have t06:=t2.trans t26
   have qm6:=t06 _ _ d2
   have e6:=k26.k _ _ lds ldw e2
   have I6:=I2.keep t26
   dsimp only at qm6
   obtain⟨tl6,dl6,ts6,us6,wv6,x61,_⟩:=w6.e
   refine⟨_,rfl,qm,_,rfl,.inr (SqT.of qm6),_,rfl,by rw[ua];lia,by rw[ua];lia,yx (n:=(((ms.map V.bl).length:Nat):Int).toNat) (fun j τ ys H'=>H6=H'/\(∃y,τ=[some (.ref st),some (.ref wl),some (.int (rm:Nat)),some (.ref ld),some (.str g),some (.ref qm),y6,y7,y8,y9,none,y])/\ys=((uT j).map fun k=>nm o.z o.b k).map V.str) ⟨rfl,⟨none,rfl⟩,rfl⟩ ?_ ?_⟩
   ·rintro j τ ys H' hj ⟨rfl,⟨y,rfl⟩,rfl⟩
    rw[ua]at hj
    refine⟨_,rfl,_,rfl,wl,o.z,o.b,_,j,?_,x61,hok.z,by rw[ua,ua,U6];lia,rfl,⟨_,rfl⟩,by rw[tW,uj,uj];rfl⟩
    show[V.ref wl,V.int (0+((j:Nat):Int))]=_
    rw[show(0:Int)+((j:Nat):Int)=((j:Nat):Int) by lia]
   rintro τ ys H' ⟨rfl,_,rfl⟩ lp gp
   have ep:(((ms.map V.bl).length:Nat):Int).toNat=ms.length:=by rw[ua];lia
   rw[ep]
   have nd:=Yg (z:=o.z) (b:=o.b) (n:=ms.length) (by lia)
   have pl:((uT ms.length).map fun k=>nm o.z o.b k).length=ms.length:=by rw[ua,U6]
   generalize ((uT ms.length).map fun k=>nm o.z o.b k)=ps at *
   have s7:=zi gp (.lst (ps.map V.str))
   have e7:=zg (H:=H6) (a:=lp) (o:=.lst (ps.map V.str))
   have qm7:=s7 _ _ qm6
   dsimp only
   generalize upd H6 lp (.lst (ps.map V.str))=H7 at *
   have pm:(ps.map V.str).length=(ms.map V.bl).length:=by rw[ua,ua,pl]
   refine⟨_,rfl,_,rfl,lp,qm,true,false,_,_,rfl,SqK.l e7,SqK.t qm7,Zs (k:=true) (m:=false) (xs:=ps.map V.str) (ys:=ms.map V.bl) pm (fun i τ zs H'=>Same H7 H'/\(∃y y',τ=[some (.ref st),some (.ref wl),some (.int (rm:Nat)),some (.ref ld),some (.str g),some (.ref qm),some (.ref lp),y7,y8,y9,none,y,y'])/\∃ws:List Str,zs=ws.map V.str/\ws.length<=i) ⟨Same.refl _,⟨none,none,rfl⟩,[],rfl,ui _⟩ (fun i τ zs H' _ h=>⟨SqK.l (h.1 _ _ e7),SqK.t (h.1 _ _ qm7)⟩) ?_ ?_⟩
   ·rintro j x y T τ zs H' hx hy hT ⟨s8,⟨y1,y2,rfl⟩,ws,rfl,wl8⟩
    rw[uk]at hx hy
    obtain⟨n,hn',rfl⟩:=uf.mp hx
    obtain⟨b,hb',rfl⟩:=uf.mp hy
    have hj:j < ms.length:=(ug.mp hb').1
    exact⟨T,_,rfl,SqT.of zg,rfl,_,_,rfl,_,_,rfl,rfl,_,rfl,b,rfl,ite2 (fun _=>⟨_,rfl,by rw[ua];lia,s8.new hT,⟨_,_,rfl⟩,ws++[n],by rw[uj];rfl,by rw[uc];show ws.length+1<=_;lia⟩) (fun _=>⟨s8.new hT,⟨_,_,rfl⟩,ws,rfl,by lia⟩)⟩
   rintro τ zs H8 ⟨s8,_,n0,rfl,nl0⟩ lm gm
   rw[ua,pl]at nl0
   have s9:=s8.new (o:=.lst (n0.map V.str)) gm
   have e9:=zg (H:=H8) (a:=lm) (o:=.lst (n0.map V.str))
   have e79:=s9 _ _ e7
   have qm9:=s9 _ _ qm7
   dsimp only
   generalize upd H8 lm (.lst (n0.map V.str))=H9 at *
   refine⟨_,rfl,_,rfl,lp,qm,true,false,_,_,rfl,SqK.l e79,SqK.t qm9,Zs (k:=true) (m:=false) (xs:=ps.map V.str) (ys:=ms.map V.bl) pm (fun i τ zs H'=>Same H9 H'/\(∃y y',τ=[some (.ref st),some (.ref wl),some (.int (rm:Nat)),some (.ref ld),some (.str g),some (.ref qm),some (.ref lp),some (.ref lm),y8,y9,none,y,y'])/\∃ws:List Str,zs=ws.map V.str/\ws.length<=i) ⟨Same.refl _,⟨none,none,rfl⟩,[],rfl,ui _⟩ (fun i τ zs H' _ h=>⟨SqK.l (h.1 _ _ e79),SqK.t (h.1 _ _ qm9)⟩) ?_ ?_⟩
   ·rintro j x y T τ zs H' hx hy hT ⟨s8,⟨y1,y2,rfl⟩,ws,rfl,wl8⟩
    rw[uk]at hx hy
    obtain⟨n,hn',rfl⟩:=uf.mp hx
    obtain⟨b,hb',rfl⟩:=uf.mp hy
    have hj:j < ms.length:=(ug.mp hb').1
    exact⟨T,_,rfl,SqT.of zg,rfl,_,_,rfl,_,_,rfl,rfl,_,rfl,b,rfl,ite2 (fun _=>⟨_,rfl,by rw[ua];lia,s8.new hT,⟨_,_,rfl⟩,ws++[n],by rw[uj];rfl,by rw[uc];show ws.length+1<=_;lia⟩) (fun _=>⟨s8.new hT,⟨_,_,rfl⟩,ws,rfl,by lia⟩)⟩
   rintro τ zs H10 ⟨s10,_,n1,rfl,nl1⟩ ll gl
   rw[ua,pl]at nl1
   have s11:=s10.new (o:=.lst (n1.map V.str)) gl
   have e11:=zg (H:=H10) (a:=ll) (o:=.lst (n1.map V.str))
   dsimp only
   generalize upd H10 ll (.lst (n1.map V.str))=H11 at *
   have e911:=s11 _ _ e9
   have e711:=s11 _ _ e79
   have s611:=(s7.trans s9).trans s11
   refine⟨_,rfl,_,rfl,_,rfl,_,rfl,lp,_,rfl,.inl (SqL.of e711),fun l2 g2=>⟨sN0,fun l3 g3=>⟨sN0,fun l4 g4=>⟨sN5,fun pa ga=>?_⟩⟩⟩⟩
   have s12:=(((zi g2 (.lst (ps.map V.str))).new (o:=.lst []) g3).new (o:=.lst []) g4).new (o:=.lst [.ref lm,.ref ll,.ref l2,.ref l3,.ref l4]) ga
   have aI:AtIs (upd (upd (upd (upd H11 l2 (.lst (ps.map V.str))) l3 (.lst [])) l4 (.lst [])) pa (.lst [.ref lm,.ref ll,.ref l2,.ref l3,.ref l4])) ⟨pa,lm,ll,l2,l3,l4⟩ ⟨n0,n1,ps,[],[]⟩:=⟨zg,s12 _ _ e911,s12 _ _ e11,old ga (old g4 (old g3 zg)),⟨[],old ga (old g4 zg),rfl,fun i a t h=>by simp at h⟩,old ga zg⟩
   generalize upd (upd (upd (upd H11 l2 (.lst (ps.map V.str))) l3 (.lst [])) l4 (.lst [])) pa (.lst [.ref lm,.ref ll,.ref l2,.ref l3,.ref l4])=H12 at *
   have s612:=s611.trans s12
   have w12:=w6.kp S6 (Kp.of s612)
   have S12:=S6.same s612
   have hH:Hnd ⟨n0,n1,ps,[],[]⟩ rm:=⟨fun z1 z2=>by
     have z2:ps=[]:=z2
     rw[z2]at pl
     have:ms.length=0:=pl.symm
     refine z1 ?_
     have a1:n0=[]:=UC.mp (by lia)
     have a2:n1=[]:=UC.mp (by lia)
     show n0++n1=[]
     rw[a1,a2]
     rfl,by show n0.length+_<=_;lia,by show n1.length<=_;lia,by show ps.length+_<=_;lia,by show 0+_<=_;lia,by show 0+_<=_;lia⟩
   refine⟨_,rfl,lp,_,rfl,.inl (SqL.of (s12 _ _ e711)),_,rfl,_,rfl,st,wl,o,sl4,m5,⟨pa,lm,ll,l2,l3,l4⟩,_,_,ps.length,rm,by rw[ua];rfl,⟨hok,w12,m34,aI,hH,by lia,by lia,S12⟩,hrm,by lia,fun H13 pb b md ib gb=>?_⟩
   have lpst:=S12.neS (s12 _ _ e711)
   have lpwl:=w12.neS (s12 _ _ e711)
   have e13:=md.k.k _ _ lds ldw (s612 _ _ e6)
   have p13:=md.k.k _ _ lpst lpwl (s12 _ _ e711)
   have t13:=md.k.tups S12 w12
   obtain⟨m13,_,w13⟩:=md.w
   dsimp only
   refine⟨_,rfl,.inl ⟨rfl,_,SqL.of e13⟩,_,rfl,_,rfl,lp,_,rfl,.inl ⟨SqL.of p13,fun q1 h1=>⟨_,rfl,_,rfl,sN4,fun q2 h2=>⟨ld,_,_,rfl,rfl,old h2 (old h1 e13),by rw[ua];lia,?_⟩⟩⟩⟩
   have s14:=(zi h1 (.tup (ps.map V.str))).new (o:=.tup [.str g,.ref q1,.ref qm,.ref pb]) h2
   have S14:=md.s.same s14
   have w14:=w13.kp md.s (Kp.of s14)
   have k14:Kw st wl H (upd (upd H13 q1 (.tup (ps.map V.str))) q2 (.tup [.str g,.ref q1,.ref qm,.ref pb])):=k2.trans (k26.trans ((Kw.of s612).trans (md.k.trans (.of s14))))
   have I14:IsDfs (upd (upd H13 q1 (.tup (ps.map V.str))) q2 (.tup [.str g,.ref q1,.ref qm,.ref pb])) (ds++[⟨g,ps,ms,b⟩]) (os++[q2]):=(((I6.keep (.of s612)).keep t13).keep (.of s14)).snoc ⟨q1,qm,pb,zg,old h2 zg,s14 _ _ (t13 _ _ (s612 _ _ qm6)),ib.keep (.of s14)⟩
   have e14:=s14 _ _ e13
   generalize upd (upd H13 q1 (.tup (ps.map V.str))) q2 (.tup [.str g,.ref q1,.ref qm,.ref pb])=H14 at *
   have tp:Tups H14 (upd H14 ld (.lst (os.map V.ref++[.ref q2]))):=fun c xs q=>by
    rw[zm (fun x=>by rw[x,e14]at q;cases q)]
    exact q
   obtain⟨tl8,dl8,ts8,us8,wv8,v1,v2,v3,v4,v5⟩:=w14.e
   have n1':wl≠ld:=Ne.symm ldw
   have w15:WlAt (upd H14 ld (.lst (os.map V.ref++[.ref q2]))) wl o sl4 m13:=by
    have nt:tl8≠ld:=fun e=>by rw[(w14.tds v1).1,<- (hw.tds x1).1]at e;rw[e,gd]at x2;cases x2
    have nd':dl8≠ld:=fun e=>by rw[(w14.tds v1).2,<- (hw.tds x1).2]at e;rw[e,gd]at x4;cases x4
    obtain⟨p1,p2,p3⟩:=w14.p
    exact⟨⟨tl8,dl8,ts8,us8,wv8,by rw[zm n1'];exact v1,by rw[zm nt];exact v2,v3.keep fun _ _ z=>z.tk tp,by rw[zm nd'];exact v4,v5.keep fun _ _ z=>z.tk tp⟩,p1,p2,by rw[zm n1'];exact p3⟩
   have ss:=szwt (r:=4) (by decide)
   refine⟨os++[q2],ds++[⟨g,ps,ms,b⟩],_,_,_,_,_,_,rfl,k14.put gd,(hS.putS gd k14.s S14).mono (by lia),⟨_,_,w15⟩,by rw[zg,uj];rfl,I14.keep tp,?_,fun d hd=>?_⟩
   ·unfold owOf at *
    rw[uj,eo,Ua,ed]
    rfl
   ·rcases uF.mp hd with h|h
    ·exact hG d h
    ·rw[uv.mp h]
     have z5:szR rm<=400000:=by
      have a:rm=0\/rm=1\/rm=2\/rm=3\/rm=4\/rm=5:=by lia
      rcases a with rfl|rfl|rfl|rfl|rfl|rfl<;>decide
     have z6:wtR rm<=40000:=by
      have a:rm=0\/rm=1\/rm=2\/rm=3\/rm=4\/rm=5:=by lia
      rcases a with rfl|rfl|rfl|rfl|rfl|rfl<;>decide
     have g1:=gb.dp
     have g2:=gb.sz
     have g3:=gb.wt
     exact⟨⟨nd,pl,gb.ok,by show ps.length+b.wt < _;lia,by show b.sz < _;lia⟩,gb.oe,gb.ne,by show b.dp<=_;lia,by show ps.length<=_;lia⟩
  ·rintro σ H2 ⟨os,ds,y4,y5,y6,y7,y8,y9,rfl,k2,S2,w2,e2,I2,eo,hG⟩
   rw[ua,ul]at S2 eo
   rw[uV (by rw[hok.Dn];exact ui _)]at eo
   exact hV _ _ _ _ _ _ _ _ _ _ k2 S2 w2 e2 I2 eo hG
 case a2 =>
 intro H1 ld os ds y4 y5 y6 y7 y8 y9 k1 S1 ⟨sl1,m1,w1⟩ e1 I1 eo hG
 obtain⟨tl1,dl1,ts1,us1,wv1,v1,v2,v3,v4,v5⟩:=w1.e
 have tl24:ts1.length<=24:=by rw[<- v3.1];exact hok.Tn
 have ol:os.length<=3:=by
  have:=congrArg U3 eo
  unfold owOf at this
  rw[ua,hok.Dn]at this
  have:=I1.1
  lia
 refine⟨_,rfl,ixL v1 aI2 ⟨tl1,rfl,⟨_,SqL.of v2⟩,ym (xs:=ts1.map V.ref) (fun i τ ys H'=>Same H1 H'/\(∃a b c,τ=[some (.ref st),some (.ref wl),some (.int (rm:Nat)),some (.ref ld),y4,y5,y6,y7,y8,y9,none,a,b,c])/\ys.length=i) ⟨Same.refl _,⟨none,none,none,rfl⟩,rfl⟩ (fun i τ ys H' _ h=>SqL.of (h.1 _ _ v2)) ?_ ?_⟩⟩
 ·rintro i v τ ys H2 hv ⟨s2,⟨a,b,c,rfl⟩,yl⟩
  rw[uk]at hv
  obtain⟨t,ht,rfl⟩:=uf.mp hv
  have hi:=(ug.mp ht).1
  obtain⟨tg,_,hR⟩:=v3.at ht
  exact⟨t,_,rfl,SqT.of (s2 _ _ hR),rfl,_,_,rfl,_,_,rfl,_,_,rfl,rfl,_,rfl,_,rfl,sN2,fun p hp=>⟨by lia,s2.new hp,⟨_,_,_,rfl⟩,by rw[uc,yl];rfl⟩⟩
 rintro τ ys H2 ⟨s2,_,yl⟩ l3 g3
 have s3:=s2.new (o:=.lst ys) g3
 have e3:=zg (H:=H2) (a:=l3) (o:=.lst ys)
 dsimp only
 generalize upd H2 l3 (.lst ys)=H3 at *
 refine⟨_,rfl,3,rfl,l3,_,rfl,SqL.of e3,fun l4 g4=>⟨l4,_,rfl,.inl ⟨SqL.of zg,fun l5 g5=>?_⟩⟩⟩
 have s5:=(s3.new (o:=.lst (cutV ys none (some 3))) g4).new (o:=.tup (cutV ys none (some 3))) g5
 have e5:=old (o:=.tup (cutV ys none (some 3))) g5 (old (o:=.lst (cutV ys none (some 3))) g4 e3)
 generalize upd (upd H3 l4 (.lst (cutV ys none (some 3)))) l5 (.tup (cutV ys none (some 3)))=H5 at *
 refine⟨_,rfl,3,rfl,l3,_,rfl,SqL.of e5,fun l6 g6=>⟨l6,_,rfl,.inl ⟨SqL.of zg,fun l7 g7=>⟨sN2,fun l8 g8=>?_⟩⟩⟩⟩
 have s8:=((s5.new (o:=.lst (cutV ys (some 3) none)) g6).new (o:=.tup (cutV ys (some 3) none)) g7).new (o:=.tup [.ref l5,.ref l7]) g8
 generalize upd (upd (upd H5 l6 (.lst (cutV ys (some 3) none))) l7 (.tup (cutV ys (some 3) none))) l8 (.tup [.ref l5,.ref l7])=H8 at *
 refine⟨_,rfl,ld,_,rfl,.inl ⟨SqL.of (s8 _ _ e1),fun l9 g9=>⟨sN2,fun p gp=>?_⟩⟩⟩
 have s9:=(s8.new (o:=.tup (os.map V.ref)) g9).new (o:=.tup [.ref l8,.ref l9]) gp
 exact q _ p ds (k1.trans (.of s9)) (S1.same s9) ⟨_,_,w1.kp S1 (Kp.of s9)⟩ ⟨_,l9,os,zg,old gp zg,I1.keep (.of s9)⟩ eo hG
def zc0(K:ub):Sp:=fun vs H Q _=>∃(a:Addr)(ns:List Int),vs=[.ref a]/\SqL K H a (ns.map V.int)/\ns.length<=63/\∀H',Q (.bl true) H'
theorem Y6{ow:Ow}{ds:List Df}(h:∀d∈ds,DfG ow 153 d):∀d∈ds,DfOk ow d:=fun d hd=>(h d hd).ok
theorem scLaw:FnScope ["_law_script","_law_state","_law_world_here","_law_code_here","_law_other","_law_due_here"] ["_law_script"] (zn sLaw):=.ok
theorem JU(F:Fun K "law" "law" sLaw f fd)(GW:Ca P w K mg base CX0 3 "_law_world" ["_law_state"] (XQ K))(GC:Ca P w K mg base CX0 22 "_law_code" lS14 (XR K))(GU:Ca P w K mg base CX0 158 "_law_due" ["_law_code_here"] (za0 153))(GT:Ca P w K mg base CX0 10 "_law_got" ["_law_code_here"] zaZ)(m_min:mg "min"=none):FnOk P w K mg base CX0 159 f fd ["_law_script"] (zc0 K):=by
 refine F.by scLaw (fun vs H Q E h=>?_) (fun cdv A outer s H vs Q E hr h=>?_)
 ·obtain⟨a,ns,rfl,_⟩:=h
  rfl
 obtain⟨a,ns,rfl,hS,h63,q⟩:=h
 have r3:Room 3 _:=hr.mono (by decide)
 have r10:Room 10 _:=hr.mono (by decide)
 have r22:Room 22 _:=hr.mono (by decide)
 refine⟨_,
  (zh (sE 1 scLaw.nd (zv (jA2 (jv 0) zk)))
  (zh (sE 2 scLaw.nd (cA GW r3 (jA1 (jv 1))))
  (zh (sE 3 scLaw.nd (cA GC r22 (jA3 (jv 1) (jv 2) (xL 2))))
  (zh (sE 4 scLaw.nd (cA GC r22 (jA3 (jv 1) (jv 2) (zS (vo rfl) rfl m_min UZ (jA2 (xL 2) zk)))))
  (zh (sE 5 scLaw.nd (cA GU hr (jA1 (jv 3))))
  (zj (zq (xE (zP (Y1 hr) (cA GT r10 (jA1 (jv 3))) (jv 5) (zY _)) (xE (zP (Y1 hr) (cA GT r10 (jA1 (jv 4))) (cA GU hr (jA1 (jv 4))) (zY _)) (wp (zP (Y1 hr) (cA GT r10 (jA1 (jv 3))) (jv 5) (zY _)))))))))))),?_⟩
 have sl:=zN
 have LM:LIM=4611686018427387904:=rfl
 have b5:∀{r:Nat},r<=5->bdr r<=2430000000:=fun{r} h=>by
  have z:r=0\/r=1\/r=2\/r=3\/r=4\/r=5:=by lia
  rcases z with rfl|rfl|rfl|rfl|rfl|rfl<;>decide
 refine⟨_,rfl,sN2,fun st h1=>?_⟩
 have S1:Sta K (upd H st (.lst [.ref a,.int ((0:Nat):Int)])) st 0:=by
  refine⟨a,ns,0,zg,fun e=>?_,(zi h1 _).seq hS,ui _⟩
  rcases hS with(h|⟨o,h⟩)|h
  ·exact absurd e (zr h h1)
  ·exact absurd e (zr h h1)
  ·exact fun _=>.inr h
 show(tSeq _ _:TS) _ _ (upd H st (.lst [.ref a,.int ((0:Nat):Int)]))
 generalize upd H st (.lst [.ref a,.int ((0:Nat):Int)])=H1 at *
 refine⟨_,rfl,st,0,rfl,S1,by lia,fun H2 wl o rm k2 S2 hok w2 hv rm5=>?_⟩
 obtain⟨x2,y2,p2⟩:=w2.p
 have br:=b5 rm5
 rw[hv]at p2
 refine⟨_,rfl,_,rfl,_,rfl,ixL p2 aI6 ⟨st,wl,o,false,0,_,rm,rfl,hok,w2,rm5,S2,by lia,fun H3 pc ds k3 S3 w3 ic eo hG=>?_⟩⟩
 obtain⟨sl3,m3,w3⟩:=w3
 obtain⟨x3,y3,p3⟩:=w3.p
 rw[hv]at p3
 obtain⟨rm',hrm',rm5'⟩:∃rm':Nat,(if(3:Int) < ((rm:Nat):Int)then(3:Int)else((rm:Nat):Int))=((rm':Nat):Int)/\rm'<=5:=⟨min rm 3,by split<;>lia,by lia⟩
 have br':=b5 rm5'
 refine⟨_,rfl,_,rfl,_,rfl,ixL p3 aI6 ⟨_,_,rfl,?_⟩⟩
 rw[hrm']
 refine⟨st,wl,o,sl3,m3,_,rm',rfl,hok,w3,rm5',S3,by lia,fun H4 pc4 ds4 k4 S4 w4 ic4 eo4 hG4=>?_⟩
 have t34:=k4.tups S3 w3
 have icx:=ic.keep t34
 have nd:∀{ds:List Df},owOf ds=o.D->(ds.map (·.g)).Nodup/\ds.length<=1000:=fun{ds} e=>by
  have e1:ds.map (·.g)=o.D.map (·.1):=by
   rw[<- e]
   unfold owOf
   rw[UV]
   rfl
  have e2:=congrArg U3 e1
  rw[ua,ua,hok.Dn]at e2
  exact⟨by rw[e1];exact hok.Dd,by lia⟩
 have hG':∀d∈ds,DfG (owOf ds) 153 d:=by rw[eo];exact hG
 have hG4':∀d∈ds4,DfG (owOf ds4) 153 d:=by rw[eo4];exact hG4
 refine⟨_,rfl,pc,ds,rfl,icx,(nd eo).1,(nd eo).2,by decide,hG',fun H5 r5 f5 s5 h5=>?_⟩
 have fl:∀ds:List Df,[V.str (verd ds).1,V.str (verd ds).2].all yp=true:=fun _=>rfl
 refine⟨_,rfl,pc,ds,rfl,icx.keep (.of s5),(nd eo).1,(nd eo).2,Y6 hG',fun H6 r6 f6 s6 h6=>?_⟩
 refine⟨_,rfl,r6,r5,_,rfl,rfl,fun e=>?_,SqT.of h6,SqT.of (s6 _ _ h5),fl ds,_,rfl,iteT ?_⟩
 ·rw[e,h5]at f6
  cases f6
 have s56:=s5.trans s6
 refine⟨_,rfl,pc4,ds4,rfl,ic4.keep (.of s56),(nd eo4).1,(nd eo4).2,Y6 hG4',fun H7 r7 f7 s7 h7=>?_⟩
 have s57:=s56.trans s7
 refine⟨_,rfl,pc4,ds4,rfl,ic4.keep (.of s57),(nd eo4).1,(nd eo4).2,by decide,hG4',fun H8 r8 f8 s8 h8=>?_⟩
 refine⟨r7,r8,_,rfl,rfl,fun e=>?_,SqT.of (s8 _ _ h7),SqT.of h8,fl ds4,_,rfl,iteT ?_⟩
 ·rw[<- e,h7]at f8
  cases f8
 have s58:=s57.trans s8
 refine⟨_,rfl,pc,ds,rfl,icx.keep (.of s58),(nd eo).1,(nd eo).2,Y6 hG',fun H9 r9 f9 s9 h9=>?_⟩
 have h58:H8 r5=_:=s8 _ _ (s7 _ _ (s6 _ _ h5))
 refine⟨_,rfl,r9,r5,_,rfl,rfl,fun e=>?_,SqT.of h9,SqT.of (s9 _ _ h58),fl ds,q _⟩
 rw[e,h58]at f9
 cases f9
end
structure TopK(K:ub)(cH R nt tw un mi uh la nv go fu fA:Addr):Prop where
 qab:OwnIn K "Hand" cH
 qg:uA K (.ref cH) "def_name"=some none
 qp:uA K (.ref cH) "names"=some none
 ql:uA K (.ref cH) "tokens"=some none
 qq:uL K mainGlobals "ReuseError"=some (some (.ref R))
 qau:tZ K (.ref R) "__getattribute__"=some (some (.builtin "type.__getattribute__"))
 qav:PySem.W.readsIn K R (.type "type")=true
 qaw:PySem.W.findCls K (.ref R) (.type "type") "__init__"=some (.val (.builtin "ValueError.__init__"))
 qax:tZ K (.builtin "object.__class__") "__get__"=some (some (.builtin "getset_descriptor.__get__"))
 qay:PySem.W.takesIn K (.builtin "object.__class__")=some true
 eh:PySem.W.exmOne K (.ref uh) (.ref uh)=some true
 q2:uL K mainGlobals "NoText"=some (some (.ref nt))
 q6:uL K mainGlobals "Twice"=some (some (.ref tw))
 qW:uL K mainGlobals "Unknown"=some (some (.ref un))
 q3:uL K mainGlobals "Misfit"=some (some (.ref mi))
 q4:uL K mainGlobals "Unheld"=some (some (.ref uh))
 qX:uL K mainGlobals "Lacking"=some (some (.ref la))
 qY:uL K mainGlobals "NoValue"=some (some (.ref nv))
 qac:uL K mainGlobals "Gone"=some (some (.ref go))
 qad:uL K mainGlobals "Full"=some (some (.ref fu))
 q7:uL K mainGlobals "Fault"=some (some (.ref fA))
 qae:MeIn K uh "__init__" "Unheld.__init__" Zo
 qaf:tE K uh "name"=some none
 qag:uA K (.ref uh) "name"=some none
 qah:Za K uh=true
 qaz:uA K (.ref uh) "__setattr__"=some (some (.builtin "object.__setattr__"))
 qak:(PySem.W.clsIn K uh).any (·.hasDict)=true
 qaA:∃f,uA K (.ref uh) "__init__"=some (some (.ref f))/\xIn K uh f=true/\tY K (.ref f)=some (.type "function")
 qaB:UQ K uh=true
 qaC:Ud K (.ref uh)=true
 qaD:uA K (.ref uh) "__getattribute__"=some (some (.builtin "BaseException.__getattribute__"))
 qaE:uA K (.ref uh) "__getattr__"=some none
 qaF:PySem.W.subIn K (.ref uh) (.type "BaseException")=some true
 q8:uA K (.ref uh) "__class__"=some (some (.builtin "object.__class__"))
 qaG:PySem.W.mroIn K uh (.type "object")=some true
 qal:kitRow K uh [nt,tw,un,mi,uh,la,nv,go,fu,fA] 4=true
 qaH:Uz K (.ref uh) (.ref R)=some true
 qaI:Uz K (.ref uh) (.type "ValueError")=some true
 qP:DfIn K "names_of" vN
 qZ:DfIn K "used_up" Zg
 qh:MeIn K cH "__init__" "Hand.__init__" YB
 qm:MeIn K cH "insist" "Hand.insist" Zh
 qk:MeIn K cH "look_at" "Hand.look_at" Zi
 qn:MeIn K cH "use_up" "Hand.use_up" YC
 qz:MeIn K cH "bind" "Hand.bind" VC
 qA:MeIn K cH "keep" "Hand.keep" VD
 qa:MeIn K cH "use_up_token" "Hand.use_up_token" Zj
 q5:DfIn K "copied" Zk
 qr:DfIn K "check_give" Zl
 qB:DfIn K "check_arm" YE
 qs:DfIn K "check_deed" Zm
 qt:DfIn K "check_case" Zn
 qo:DfIn K "check_piece" vP
 qC:DfIn K "check_def" YD
 qQ:DfIn K "all_owns" VB
 q0:DfIn K "checked" vO
 qD:DfIn K "_law_draw" VE
 qE:DfIn K "_law_name" sNm
 qF:DfIn K "_law_stem" VF
 qu:DfIn K "_law_world" YF
 qv:DfIn K "_law_slips" YG
 q1:DfIn K "_law_up" sUp
 qG:DfIn K "_law_near" VG
 qw:DfIn K "_law_token" sTok
 qe:DfIn K "_law_named_deed" YH
 qH:DfIn K "_law_deed" YI
 qI:DfIn K "_law_copy" VH
 qR:DfIn K "_law_end" sEnd
 qS:DfIn K "_law_arm" VI
 qJ:DfIn K "_law_case" YJ
 qK:DfIn K "_law_hold" YK
 qT:DfIn K "_law_let" VJ
 qL:DfIn K "_law_body" Zp
 qM:DfIn K "_law_code" YL
 qc:DfIn K "_law_deed_events" VL
 qd:DfIn K "_law_head_events" VM
 qb:DfIn K "_law_piece_events" VN
 qN:DfIn K "_law_ways" Xt
 qO:DfIn K "_law_step" VO
 qi:DfIn K "_law_way_good" vQ
 qj:DfIn K "_law_def_good" vR
 qU:DfIn K "_law_due" sDue
 qf:DfIn K "_law_one_class" sOne
 qV:DfIn K "_law_got" sGot
 qam:DfIn K "law" sLaw
 qan:uL K mainGlobals "len"=some none
 q9:uL K mainGlobals "range"=some none
 qx:uL K mainGlobals "isinstance"=some none
 qao:uL K mainGlobals "int"=some none
 qap:uL K mainGlobals "any"=some none
 qaq:uL K mainGlobals "all"=some none
 qai:uL K mainGlobals "list"=some none
 qar:uL K mainGlobals "str"=some none
 qaa:uL K mainGlobals "tuple"=some none
 qaj:uL K mainGlobals "dict"=some none
 qas:uL K mainGlobals "zip"=some none
 qat:uL K mainGlobals "min"=some none
 qy:uL K mainGlobals "ValueError"=some none
theorem top_ok{l:PySem.W.OpenLaw}{w:World}{K:ub}{h:Heap}{mg:Str->Option Value}{fa cH R nt tw un mi uh la nv go fu fA:Addr}(T:TopK K cH R nt tw un mi uh la nv go fu fA)(X:K.In h)(G:h.Ns mainGlobals mg)(hfa:mg "law"=some (.ref fa)):
  ∃fd:FuncData,(∀(s:Shared)(u:Value),BindsTo s fd ⟨[u],[]⟩ [("_law_script",u)])/\∀base:Heap,K.In base->base.Ns mainGlobals mg->FnOk l.prog w K mg base CX0 159 fa fd ["_law_script"] (ZU K):=by
 refine zbT T.qam X G hfa (fun _ _ _ _ _ _ s v=>.of_eq rfl) fun base fd FL=>?_
 have qan:mg "len"=none:=Uc X G T.qan
 have q9:mg "range"=none:=Uc X G T.q9
 have qx:mg "isinstance"=none:=Uc X G T.qx
 have qao:mg "int"=none:=Uc X G T.qao
 have qap:mg "any"=none:=Uc X G T.qap
 have qaq:mg "all"=none:=Uc X G T.qaq
 have qai:mg "list"=none:=Uc X G T.qai
 have qar:mg "str"=none:=Uc X G T.qar
 have qaa:mg "tuple"=none:=Uc X G T.qaa
 have qaj:mg "dict"=none:=Uc X G T.qaj
 have qas:mg "zip"=none:=Uc X G T.qas
 have qat:mg "min"=none:=Uc X G T.qat
 have qy:mg "ValueError"=none:=Uc X G T.qy
 have n_Hand:mg "Hand"=some (.ref cH):=Uk X G T.qab.n
 have q2:=Uk X G T.q2
 have q6:=Uk X G T.q6
 have qW:=Uk X G T.qW
 have q3:=Uk X G T.q3
 have q4:=Uk X G T.q4
 have qX:=Uk X G T.qX
 have qY:=Uk X G T.qY
 have qac:=Uk X G T.qac
 have qad:=Uk X G T.qad
 have q7:=Uk X G T.q7
 have qq:=Uk X G T.qq
 have B:XBase K R:=⟨T.qau,T.qav,T.qaw⟩
 obtain⟨fxu,axu,xinu,xtyu⟩:=T.qaA
 have Mu:XCl K uh fxu:=⟨xinu,xtyu,T.qaC,T.qah,T.qaz,T.qak,T.qaD,T.qaE,T.qaF⟩
 have GXu:Xa l.prog w K mg base 1 "Unheld" uh lS5 (spX uh "name"):=by
  obtain⟨f,a,n,g⟩:=T.qae
  obtain⟨fd,F,kp⟩:=g.fn
  have e:f=fxu:=by
   rw[axu]at a
   injection a with a
   injection a with a
   injection a with a
   exact a.symm
  subst e
  exact⟨f,fd,Mu,YR F T.qaf Mu B qq,F.binds (ps:=lS5) fun _ _ _ _ _ _=>us2 fun _ _=>rfl,q4⟩
 have N:TH K cH:=⟨T.qab.cls,T.qg,T.qp,T.ql⟩
 have XX:X65 K mg ⟨nt,tw,un,mi,uh,la,nv,go,fu,fA,R⟩:=⟨q2,q6,qW,q3,q4,qX,qY,qac,qad,q7,qq,qy,⟨⟨T.qaD,T.qaE,T.qaF,T.qaB,T.q8,T.qax,T.qay,T.qaG⟩,T.qal,T.qaH,T.qaI⟩,T.eh,T.qag,⟨fxu,Mu⟩⟩
 have C1:=DfIn.ca (P:=l.prog) (w:=w) (base:=base) X G T.qP (ps:=["deed"]) (fun _ _ _ _ _ _=>us1 fun _=>rfl) fun f fd F=>YS F
 have C2:=DfIn.ca X G T.qZ (ps:=["deed","owns"]) (fun _ _ _ _ _ _=>us2 fun _ _=>rfl) fun f fd F=>Wl F C1 qaa
 have M0:=T.qh.ma (P:=l.prog) (w:=w) (mg:=mg) (base:=base) (x:="Hand") (ps:=lS10) (fun _ _ _ _ _ _=>us4 fun _ _ _ _=>rfl) T.qab.mks T.qab.kp n_Hand fun f fd F=>Ja F N qaj
 have M1:=T.qm.me (P:=l.prog) (w:=w) (mg:=mg) (base:=base) (ps:=lS13) (fun _ _ _ _ _ _=>us2 fun _ _=>rfl) fun f fd F=>Wh F N GXu
 have M2:=T.qk.me (P:=l.prog) (w:=w) (mg:=mg) (base:=base) (ps:=lS5) (fun _ _ _ _ _ _=>us2 fun _ _=>rfl) fun f fd F=>QU F N M1
 have M3:=T.qn.me (P:=l.prog) (w:=w) (mg:=mg) (base:=base) (ps:=lS5) (fun _ _ _ _ _ _=>us2 fun _ _=>rfl) fun f fd F=>V0 F N M1
 have M4:=T.qz.me (P:=l.prog) (w:=w) (mg:=mg) (base:=base) (ps:=lS5) (fun _ _ _ _ _ _=>us2 fun _ _=>rfl) fun f fd F=>QW F N M1
 have M5:=T.qA.me (P:=l.prog) (w:=w) (mg:=mg) (base:=base) (ps:=lS19) (fun _ _ _ _ _ _=>us3 fun _ _ _=>rfl) fun f fd F=>QX F N M1
 have M6:=T.qa.me (P:=l.prog) (w:=w) (mg:=mg) (base:=base) (ps:=lS23) (fun _ _ _ _ _ _=>us2 fun _ _=>rfl) fun f fd F=>Wi F N M1
 have C3:=DfIn.ca (P:=l.prog) (w:=w) (base:=base) X G T.q5 (ps:=["hand"]) (fun _ _ _ _ _ _=>us1 fun _=>rfl) fun f fd F=>Wj F N M0
 have C4:=DfIn.ca (P:=l.prog) (w:=w) (base:=base) X G T.qr (ps:=lS17) (fun _ _ _ _ _ _=>us2 fun _ _=>rfl) fun f fd F=>Q0 F N M1 M3 qan qap
 have C5:=DfIn.ca (P:=l.prog) (w:=w) (base:=base) X G T.qB (ps:=["name","arm","hand"]) (fun _ _ _ _ _ _=>us3 fun _ _ _=>rfl) fun f fd F=>zb9 F N M1 M3 M4 M5 qan
 have C6:=DfIn.ca X G T.qs (ps:=lS25) (fun _ _ _ _ _ _=>us3 fun _ _ _=>rfl) fun f fd F=>Wm F N C1 C2 M1 M3 M2 M6 qan qai qas qaq
 have C7:=DfIn.ca X G T.qt (ps:=lS17) (fun _ _ _ _ _ _=>us2 fun _ _=>rfl) fun f fd F=>Wn F N M2 C3 C5
 have C8:=DfIn.ca X G T.qo (ps:=lS21) (fun _ _ _ _ _ _=>us3 fun _ _ _=>rfl) fun f fd F=>YT F N C7 M2 C3 C4 C6 M4 M3 M6
 have C9:=DfIn.ca X G T.qC (ps:=["owns","one"]) (fun _ _ _ _ _ _=>us2 fun _ _=>rfl) fun f fd F=>Jo F N M0 C8 qan qaj qas
 have CA:=DfIn.ca (P:=l.prog) (w:=w) (base:=base) X G T.qQ (ps:=["code"]) (fun _ _ _ _ _ _=>us1 fun _=>rfl) fun f fd F=>Q2 F
 have CB:=DfIn.ca X G T.q0 (ps:=["code"]) (fun _ _ _ _ _ _=>us1 fun _=>rfl) fun f fd F=>YX F CA C9
 have LD:=DfIn.ca (P:=l.prog) (w:=w) (base:=base) X G T.qD (ps:=lS4) (fun _ _ _ _ _ _=>us2 fun _ _=>rfl) fun f fd F=>QR F qan
 have LN:=DfIn.ca (P:=l.prog) (w:=w) (base:=base) X G T.qE (ps:=lS9) (fun _ _ _ _ _ _=>us2 fun _ _=>rfl) fun f fd F=>zcK F
 have LS_:=DfIn.ca X G T.qF (ps:=["_law_state"]) (fun _ _ _ _ _ _=>us1 fun _=>rfl) fun f fd F=>zam F LD q9
 have LW:=DfIn.ca X G T.qu (ps:=["_law_state"]) (fun _ _ _ _ _ _=>us1 fun _=>rfl) fun f fd F=>JR F LD LS_ LN qan q9 qaa qat qao
 have LI:=DfIn.ca X G T.qv (ps:=lS3) (fun _ _ _ _ _ _=>us3 fun _ _ _=>rfl) fun f fd F=>JD F LD
 have LU:=DfIn.ca X G T.q1 (ps:=lS1) (fun _ _ _ _ _ _=>us3 fun _ _ _=>rfl) fun f fd F=>zcW F LD LI qan
 have LR:=DfIn.ca X G T.qG (ps:=lS1) (fun _ _ _ _ _ _=>us3 fun _ _ _=>rfl) fun f fd F=>zao F LD LI qan
 have LK:=DfIn.ca X G T.qw (ps:=lS11) (fun _ _ _ _ _ _=>us4 fun _ _ _ _=>rfl) fun f fd F=>zco F LD LI qan qai
 have LM:=DfIn.ca X G T.qe (ps:=lS1) (fun _ _ _ _ _ _=>us3 fun _ _ _=>rfl) fun f fd F=>JE F LD LI LU LR qan q9 qaa qat
 have LE:=DfIn.ca X G T.qH (ps:=lS1) (fun _ _ _ _ _ _=>us3 fun _ _ _=>rfl) fun f fd F=>JG F LD LI LU LR LK LM qan q9 qaa qat qao
 have LC:=DfIn.ca (P:=l.prog) (w:=w) (base:=base) X G T.qI (ps:=lS12) (fun _ _ _ _ _ _=>us2 fun _ _=>rfl) fun f fd F=>zaq F qai
 have LZ:=DfIn.ca X G T.qR (ps:=lS8) (fun _ _ _ _ _ _=>us4 fun _ _ _ _=>rfl) fun f fd F=>zar F LD LI LU LC qan
 have LB:∀n:Nat,Ca l.prog w K mg base CX0 (6+3*n) "_law_body" lS0 (xk K n):=by
  intro n
  induction n with
  |zero=>exact DfIn.ca (P:=l.prog) (w:=w) (base:=base) X G T.qL (ps:=lS0) (fun _ _ _ _ _ _=>us5 fun _ _ _ _ _=>rfl) fun f fd F=>Ww F LD LN LZ
  |succ n ih =>
   have Lar:=DfIn.ca (P:=l.prog) (w:=w) (base:=base) X G T.qS (ps:=lS7) (fun _ _ _ _ _ _=>us7 fun _ _ _ _ _ _ _=>rfl) fun f fd F=>zav F LD LI LC LN ih qan q9 qaa qar
   have Lca:=DfIn.ca (P:=l.prog) (w:=w) (base:=base) X G T.qJ (ps:=lS2) (fun _ _ _ _ _ _=>us6 fun _ _ _ _ _ _=>rfl) fun f fd F=>JN F LD Lar qaa
   have Lho:=DfIn.ca (P:=l.prog) (w:=w) (base:=base) X G T.qK (ps:=lS2) (fun _ _ _ _ _ _=>us6 fun _ _ _ _ _ _=>rfl) fun f fd F=>JK F LD LI LC LN ih qan
   have Lle:=DfIn.ca (P:=l.prog) (w:=w) (base:=base) X G T.qT (ps:=lS0) (fun _ _ _ _ _ _=>us5 fun _ _ _ _ _=>rfl) fun f fd F=>zat F LD LI LC LN LE ih qan
   exact DfIn.ca (P:=l.prog) (w:=w) (base:=base) X G T.qL (ps:=lS0) (fun _ _ _ _ _ _=>us5 fun _ _ _ _ _=>rfl) fun f fd F=>JO F LD LN LZ LR LC Lle Lho Lca ih
 have LG:=DfIn.ca X G T.qM (ps:=lS14) (fun _ _ _ _ _ _=>us3 fun _ _ _=>rfl) fun f fd F=>JT F LD LN (LB 5) qan q9 qaa qai qas qao
 have V1:=DfIn.ca (P:=l.prog) (w:=w) (base:=base) X G T.qc (ps:=lS20) (fun _ _ _ _ _ _=>us2 fun _ _=>rfl) fun f fd F=>Q7 F qan qas
 have V2:=DfIn.ca (P:=l.prog) (w:=w) (base:=base) X G T.qd (ps:=lS22) (fun _ _ _ _ _ _=>us2 fun _ _=>rfl) fun f fd F=>Q3 F qan
 have V3:=DfIn.ca X G T.qb (ps:=lS6) (fun _ _ _ _ _ _=>us2 fun _ _=>rfl) fun f fd F=>Q4 F V1
 have V4:∀n:Nat,Ca l.prog w K mg base CX0 (3+n) "_law_ways" lS6 (vX n):=by
  intro n
  induction n with
  |zero=>exact DfIn.ca (P:=l.prog) (w:=w) (base:=base) X G T.qN (ps:=lS6) (fun _ _ _ _ _ _=>us2 fun _ _=>rfl) fun f fd F=>Jt F
  |succ n ih=>exact DfIn.ca (P:=l.prog) (w:=w) (base:=base) X G T.qN (ps:=lS6) (fun _ _ _ _ _ _=>us2 fun _ _=>rfl) fun f fd F=>Q9 F ih V2 V3
 have V5:=DfIn.ca (P:=l.prog) (w:=w) (base:=base) X G T.qO (ps:=lS15) (fun _ _ _ _ _ _=>us3 fun _ _ _=>rfl) fun f fd F=>zai F
 have V6:=DfIn.ca X G T.qi (ps:=lS16) (fun _ _ _ _ _ _=>us3 fun _ _ _=>rfl) fun f fd F=>Y2 F V5 qaj qas
 have V7:=DfIn.ca X G T.qj (ps:=lS24) (fun _ _ _ _ _ _=>us2 fun _ _=>rfl) fun f fd F=>Y3 F (V4 153) V6
 have V8:=DfIn.ca X G T.qU (ps:=["_law_code_here"]) (fun _ _ _ _ _ _=>us1 fun _=>rfl) fun f fd F=>zcn (n:=153) F V7
 have LO:=DfIn.caH (P:=l.prog) (w:=w) (base:=base) X G T.qf (ps:=["_law_e"]) (fun _ _ _ _ _ _=>us1 fun _=>rfl) fun f fd F=>zci F XX qx qan
 have LT:=DfIn.ca X G T.qV (ps:=["_law_code_here"]) (fun _ _ _ _ _ _=>us1 fun _=>rfl) fun f fd F=>zcj F XX CB LO
 exact JU FL LW LG V8 LT qat
end GN
namespace PySem.W.Fast
def tw9780438654111222086:=()
def tw1878998248963065169:=()
def tw639391223773157298:=()
def tw5012251797431751580:=()
def tw17704156459767859372:=()
def tw3723917790748938544:=()
def tw6516391389820325366:=()
def tw14908984051297816556:=()
def tw7864990715822800761:=()
def tw11810455524632103636:=()
def tw14406646679550831060:=()
def tw16913139764001739949:=()
def tw3192530241161713724:=()
def tw16800032848546304808:=()
def tw15397503369193082125:=()
def tw8130971894547792366:=()
def tw2282433045618825768:=()
def tw5812334368496236306:=()
def tw14311682781270651740:=()
def tw622543333016306222:=()
def tw12831072601386357569:=()
def tw14665056713530913055:=()
def tw16597399666999355655:=()
def tw9764949307831808444:=()
def tw4678758473386037882:=()
def tw6548901760248699023:=()
def tw335959581605023221:=()
def tw13024744791681465773:=()
def tw12011591202901265580:=()
def tw10656112923421412422:=()
def tw856631240089827570:=()
def tw4255184498021345737:=()
def tw14872272055061369775:=()
def tw13891270206256972094:=()
def tw6883597332211851434:=()
def tw107030331119160643:=()
def tw748666957931434705:=()
def tw14637734323803780154:=()
def tw12325268575481361778:=()
def tw13405971146073172145:=()
def tw10235677624163275673:=()
def tw1036142844073025012:=()
def tw16849690166251324214:=()
def tw10771509388429666766:=()
def tw18281896370318446274:=()
def tw12467906821123451040:=()
def tw2953726959086536131:=()
def tw11469975820945112101:=()
def tw5103536877130520628:=()
def tw604014755707773083:=()
def tw547486274044427810:=()
def tw6345462936207412398:=()
def tw4303541725056943172:=()
def tw14913878218119094092:=()
def tw17793808264861633426:=()
def tw3132760898087944126:=()
def tw3330440685660957339:=()
def tw5599183149465062449:=()
def tw3316180309018077681:=()
def tw10781454146349100628:=()
def tw455422845830009317:=()
def tw1462747196086229957:=()
def tw3283174228998742279:=()
def tw13255037350314921454:=()
def tw10562316780816401349:=()
def tw8910705114932856515:=()
def tw624777937890133428:=()
def tw4090565551201398244:=()
def tw526235898424764410:=()
def tw9738061290242385574:=()
def tw10473084596879481128:=()
def tw3696193360140311530:=()
def tw2699814429604582385:=()
def tw2934763157884059504:=()
def tw4510509618033875443:=()
def tw15181173636980877608:=()
def tw12925130358688256828:=()
def tw17740673961332336973:=()
def tw261717830223186226:=()
def tw3517163942578297767:=()
def tw3232157094409666786:=()
def tw17084920169149974702:=()
def tw9431978047391087281:=()
def tw13471209433876518774:=()
def tw14715855211040558575:=()
def tw16015693282841795891:=()
def tw14014080974719083321:=()
def tw10054515203340092622:=()
def tw2574308686687525544:=()
def tw2259375446116777961:=()
def tw1119919809147032316:=()
def tw14436753278979306735:=()
def tw17237670309309236988:=()
def tw6407355990514209436:=()
def tw8490937372233066801:=()
def tw2002935364462071951:=()
def tw4335629624837674555:=()
def tw1613204081491463644:=()
def tw4293738644734469842:=()
def tw410311522230033830:=()
def tw9623909057198004627:=()
def tw18066338155972308285:=()
def tw1912380753331865678:=()
def tw949922922125617871:=()
def tw16939049387149731558:=()
def tw4100355538088162594:=()
def tw14846698428730950047:=()
def tw4446666646654263302:=()
def tw13396176445524340821:=()
def tw14519800655462069453:=()
def tw12565141539330688495:=()
def tw5951887256278380121:=()
def tw6540959706381543121:=()
def tw5471205887933286157:=()
def tw11878238896318883557:=()
def tw8154861365571248885:=()
def tw14175368009619926498:=()
def tw17745897897881231393:=()
def tw14913461195535686429:=()
def tw14956955144806019181:=()
def tw16545498464267200641:=()
def tw11480072349717935422:=()
def tw624675169644444662:=()
def tw7448513340928292066:=()
def tw12422611019233546160:=()
def tw11130002077180766446:=()
def tw13481390549073004999:=()
def tw13181562393202688264:=()
def tw5584606512995530645:=()
def tw17898290584914164161:=()
def tw1274284506331375120:=()
def tw4138988298908072565:=()
def tw9517335318842723592:=()
def tw5812232833651196260:=()
def tw18320727514082516809:=()
def tw6968349256652019778:=()
def tw17617734760199830269:=()
def tw8468121125188955539:=()
def tw9564526176651330657:=()
def tw764604571812715708:=()
def tw9006540190362451750:=()
def tw14622195003680309377:=()
def tw7776704271424089645:=()
def tw6818266294547874964:=()
def tw14379613691891159165:=()
def tw12456687066388482633:=()
def tw13081768512808839242:=()
def tw1112034871150669073:=()
def tw6852568603319555281:=()
def tw280774124598978888:=()
def tw11896137246094022748:=()
def tw5563632835521821252:=()
def tw12111749479224242156:=()
def tw813290180234693358:=()
def tw11489033559518754568:=()
def tw7748696702039015567:=()
def tw15453739282336914685:=()
def tw12734142133384768448:=()
def tw12673729159073942593:=()
def tw2246179924020655253:=()
def tw12082346016751961141:=()
def tw13919785317722157374:=()
def tw4700349676148713556:=()
def tw2516246628074507645:=()
def tw15930711540671262823:=()
def tw6930116901458544690:=()
def tw16460312921031980467:=()
def tw4578214274598574275:=()
def tw6328074280275116194:=()
def tw3729919504590908516:=()
def tw6835800552969942467:=()
def tw9572212894099731877:=()
def tw14881111132266711687:=()
def tw5947792763199137467:=()
def tw4117092331574685158:=()
def tw8768384618777813694:=()
def tw1231280793534037326:=()
def tw14991770274384446791:=()
def tw10246513651431371960:=()
def tw10847788162622105332:=()
def tw12645665234895351262:=()
def tw5524699125360850634:=()
def tw16326704832843747590:=()
def tw4686584921200654650:=()
def tw837782052617029240:=()
def tw9176255603767031699:=()
def tw4115297761526926241:=()
def tw15045742800818100069:=()
def tw7043497845591669628:=()
def tw13935517094546449676:=()
def tw5657217640922616778:=()
def tw12632973910920907946:=()
def tw18258156083782542418:=()
def tw6883446282346763095:=()
def tw18423398228654772754:=()
def tw2367205700804360404:=()
def tw16087828777039904057:=()
def tw4873155559641100386:=()
def tw4561491500424300263:=()
def tw6558172159132997579:=()
def tw2986259797465838908:=()
def tw4765969972545416600:=()
def tw16921732019841288021:=()
def tw5916150622765757544:=()
def tw16971574841394024098:=()
def tw9087034310401453810:=()
def tw13874710640940624810:=()
def tw4086722999174384811:=()
def tw10928934372144579265:=()
def tw12222715562342847889:=()
def tw5078011298033457727:=()
def tw9444003754971455842:=()
def tw13364436021064389810:=()
def tw10518463868595138600:=()
def tw12688388115968074434:=()
def tw6739704101307775420:=()
def tw15972552218018627880:=()
def tw1215139896050408721:=()
def tw6003423706591115620:=()
def tw6935931981842268747:=()
def tw2202395640383086954:=()
def tw8832282303344085581:=()
def tw10939510963059039497:=()
def tw2441223932322992951:=()
def tw13178810734406241245:=()
def tw10156726716480597681:=()
def tw5940663385104980986:=()
def tw1660265543504193592:=()
def tw15117094346776120004:=()
def tw11604969356766087434:=()
def tw17562694915354712459:=()
def tw13313517129304838475:=()
def tw850429892256705640:=()
def tw14146843065250323095:=()
def tw11161296006640356068:=()
def tw14505181424265344587:=()
def tw8372722778114967207:=()
def tw10467324153022065448:=()
def tw7169272805726491383:=()
def tw13762542864511098825:=()
def tw896831754544009774:=()
def tw56350503957887564:=()
def tw17772454559866618080:=()
def tw16957551492391061717:=()
def tw17091371889038206983:=()
def tw5897493298379876092:=()
def tw15018985488038212665:=()
def tw9632340213988817697:=()
def tw17909883161484210323:=()
def tw1966363656287468695:=()
def tw6023478391062869451:=()
def tw14899495787626089387:=()
def tw14900194883153222244:=()
def tw172385029614828692:=()
def tw9253248491584930269:=()
def tw11319952881121113397:=()
def tw2871156200022677364:=()
def tw16714596012568210475:=()
def tw3691167103580617569:=()
def tw5518843810631674749:=()
def tw10322873152610009970:=()
def tw9558467560617283439:=()
def tw5681363592641782702:=()
def tw15740402804456866689:=()
def tw10127140071222931932:=()
def tw946494314118313902:=()
def tw7360824064349210478:=()
def tw13421976751634483998:=()
def tw17831364316732040905:=()
def tw6753541921800361443:=()
def tw9066818519177763390:=()
def tw14239924831596001809:=()
def tw10667396719368097337:=()
def tw9040678953148471875:=()
def tw17665610731526216466:=()
def tw7389891726474281876:=()
def tw3209693839153514586:=()
def tw5214140458673284267:=()
def tw17698314511772275679:=()
def tw17676061956125879268:=()
def tw10974937138336352032:=()
def tw3537638426447118477:=()
def tw4071959745838810676:=()
def tw15429769200056117928:=()
def tw248849967909161768:=()
def tw15281718670784496303:=()
def tw8873243717208241083:=()
def tw6788528288015993692:=()
def tw12883015007755403789:=()
def tw2180193830473227291:=()
def tw2919182606858644153:=()
def tw8904257328675186829:=()
def tw8100461501564803667:=()
def tw13851589131633099690:=()
def tw8542418617073046477:=()
def tw6088644698464005921:=()
def tw1719615561312573955:=()
def tw9214585392226522478:=()
def tw11750409826311972967:=()
def tw12117518828771581073:=()
def tw4709787931662886946:=()
def tw5120981117128707497:=()
def tw15626541466143920292:=()
def tw6867908232209726303:=()
def tw9706166889750077700:=()
def tw6290550677387362709:=()
def tw12170226956287948581:=()
def tw7381393638314498451:=()
def tw7053500175741099357:=()
def tw13646635796863193570:=()
def tw11694607372473392103:=()
def tw3491374041914387790:=()
def tw16140800130721267734:=()
def tw7268983149652605724:=()
def tw12297510507061698392:=()
def tw5797848387730908271:=()
def tw17780824228597045555:=()
def tw172165022446709885:=()
def tw13343181971684413575:=()
def tw8614577896855826069:=()
def tw9508867493249242880:=()
def tw2998950363411603384:=()
def tw14747531605032269253:=()
def tw17725903266434175264:=()
def tw2560852842344866641:=()
def tw16693826170657068891:=()
def tw17512542376608705733:=()
def tw8901923054059711932:=()
def tw12575892759784580377:=()
def tw860863210263196697:=()
def tw14511232488211408654:=()
def tw2893961085783764794:=()
def tw13508517796782076368:=()
def tw4039778120595130684:=()
def tw9282272573274049823:=()
def tw10874868982010175231:=()
def tw17906821484548390357:=()
def tw7442966211643337002:=()
def tw15012678717632225172:=()
def tw5190050134399060620:=()
def tw9596315334836532069:=()
def tw6486928004282604218:=()
def tw7850984225742854984:=()
def tw15854159418479843235:=()
def tw2636182435174834948:=()
def tw471110511753894746:=()
def tw1613683340999163585:=()
end PySem.W.Fast
open PySem PySem.W PyProof.Rows
set_option maxRecDepth 100000 in
set_option maxHeartbeats 0 in
theorem PySem.Challenge.cw_reusewise_k64_let_by_just_these_holds : PySem.Challenge.rw_reusewise_k64_let_by_just_these.Holds := by
 w_on;o_law;k_head;(case hw=>w_witness2)
 k_fill
 refine L2.walk1 (l:=PySem.Challenge.rw_reusewise_k64_let_by_just_these) (k:=159) rfl ⟨rfl,by decide,by decide⟩ rfl rfl (fun w h Y=>PySem.W.kIn_of Y) ?F
 case F =>
  intro w mg fa h KX G hm
  refine' GN.top_ok (GN.TopK.mk ?qab ?qg ?qp ?ql ?qq ?qau ?qav ?qaw ?qax ?qay ?eh ?q2 ?q6 ?qW ?q3 ?q4 ?qX ?qY ?qac ?qad ?q7 ?qae ?qaf ?qag ?qah ?qaz ?qak ?qaA ?qaB ?qaC ?qaD ?qaE ?qaF ?q8 ?qaG ?qal ?qaH ?qaI ?qP ?qZ ?qh ?qm ?qk ?qn ?qz ?qA ?qa ?q5 ?qr ?qB ?qs ?qt ?qo ?qC ?qQ ?q0 ?qD ?qE ?qF ?qu ?qv ?q1 ?qG ?qw ?qe ?qH ?qI ?qR ?qS ?qJ ?qK ?qT ?qL ?qM ?qc ?qd ?qb ?qN ?qO ?qi ?qj ?qU ?qf ?qV ?qam ?qan ?q9 ?qx ?qao ?qap ?qaq ?qai ?qar ?qaa ?qaj ?qas ?qat ?qy) KX G hm
  (case qab=>(refine' L2.OwnIn.mk ?n ?pg ?hd ?po ?sa ?mks ?kp;(case n=>k_is);(case pg=>k_is);(case hd=>k_is);(case po=>k_is);(case sa=>k_is);(case mks=>k_is);(case kp=>k_is)))
  (case qg|qp|ql|qq|qau|qav|qaw|qax|qay|q2|q6|qW|q3|q4|qX|qY|qac|qad|q7|qaf|qag|qaz|qaB|qaC|qaD|qaE|qaF|q8|qaG|qan|q9|qx|qao|qap|qaq|qai|qar|qaa|qaj|qas|qat|qy=>k_is)
  (case eh|qah|qak|qal|qaH|qaI=>(first|kernel_rfl|rfl|decide +kernel))
  (case qae|qh|qm|qk|qn|qz|qA|qa=>(refine' L2.MeIn.mk ?a ?l ?c ?k ?n;(case a=>k_is);(case l=>k_is);(case c=>k_is);(case k=>k_is);(case n=>k_is)))
  (case qaA=>(refine' L2.XcIn.mk ?a ?b ?c;(case a=>k_is);(case b=>(first|kernel_rfl|rfl|decide +kernel));(case c=>k_is)))
  (case qP|qZ|q5|qr|qB|qs|qt|qo|qC|qQ|q0|qD|qE|qF|qu|qv|q1|qG|qw|qe|qH|qI|qR|qS|qJ|qK|qT|qL|qM|qc|qd|qb|qN|qO|qi|qj|qU|qf|qV|qam=>(refine' L2.DfIn.mk ?a ?l ?c ?k;(case a=>k_is);(case l=>k_is);(case c=>k_is);(case k=>k_is)))
#print axioms PySem.Challenge.cw_reusewise_k64_let_by_just_these_holds
