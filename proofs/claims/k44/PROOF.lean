import PyProof.Rows.All
import Wide.All
import OpenK.AllK
import PySem.Challenge.RW_reusewise_k44_the_same_program
abbrev VSP:=PySem.Value->PySem.Shared->Prop
set_option Elab.async false
set_option compiler.extract_closed false
set_option bootstrap.genMatcherCode false
set_option backward.match.sparseCases false
set_option genSizeOf false
set_option linter.all false
set_option maxRecDepth 100000
set_option maxHeartbeats 4000000
theorem aq1(h:True:=by rfl):True:=h
theorem aq2(h:True:=by decide):True:=h
theorem aq3(h:True:=by intro _;rfl):True:=h
theorem aq4(h:True:=by first|exact .inl rfl|exact .inr rfl|assumption):True:=h
theorem aq5(h:True:=by decide +kernel):True:=h
theorem aq6(h:True:=by first|exact Or.inl rfl|exact Or.inr (Or.inl rfl)|exact Or.inr (Or.inr rfl)):True:=h
theorem aq7(h:True:=by exact X1 (by with_unfolding_all rfl) (by rfl) (by rfl) (by rfl) (by rfl) (by rfl)):True:=h
theorem aq8(h:True:=by with_unfolding_all rfl):True:=h
theorem aq9(h:True:=by first|exact Or.inl rfl|exact Or.inr rfl):True:=h
theorem aq10(h:True:=by lia):True:=h
theorem aq11(h:True:=by simp):True:=h
theorem aq12(h:True:=by rw[ub];lia):True:=h
theorem aq13(h:True:=by simpa using h1):True:=h
theorem aq14(h:True:=by simp at h):True:=h
theorem aq15(h:True:=by simpa using hb):True:=h
theorem aq16(h:True:=by rw[<- hX]):True:=h
theorem aq17(h:True:=by intro z;cases z):True:=h
theorem aq18(h:True:=by rw[ub,ub];lia):True:=h
theorem aq19(h:True:=by intro e;cases e):True:=h
theorem b8{p:Prop}(h:autoParam p aq10._auto_1):p:=h
theorem b9{p:Prop}(h:autoParam p aq2._auto_1):p:=h
theorem ba{p:Prop}(h:autoParam p aq11._auto_1):p:=h
theorem bc{p:Prop}(h:autoParam p aq12._auto_1):p:=h
theorem be{p:Prop}(h:autoParam p aq5._auto_1):p:=h
theorem bf{p:Prop}(h:autoParam p aq13._auto_1):p:=h
theorem bg{p:Prop}(h:autoParam p aq14._auto_1):p:=h
theorem bh{p:Prop}(h:autoParam p aq15._auto_1):p:=h
theorem bi{p:Prop}(h:autoParam p aq16._auto_1):p:=h
theorem bj{p:Prop}(h:autoParam p aq17._auto_1):p:=h
theorem bp{p:Prop}(h:autoParam p aq18._auto_1):p:=h
theorem bq{p:Prop}(h:autoParam p aq19._auto_1):p:=h
set_option hygiene false
local macro_rules
|`(%[$t|1])=>`(autoParam $t aq1._auto_1)
|`(%[$t|2])=>`(autoParam $t aq2._auto_1)
|`(%[$t|3])=>`(autoParam $t aq3._auto_1)
|`(%[$t|4])=>`(autoParam $t aq4._auto_1)
|`(%[$t|5])=>`(autoParam $t aq5._auto_1)
|`(%[$t|6])=>`(autoParam $t aq6._auto_1)
|`(%[$t|7])=>`(autoParam $t aq7._auto_1)
|`(%[$t|8])=>`(autoParam $t aq8._auto_1)
|`(%[$t|9])=>`(autoParam $t aq9._auto_1)
local macro_rules
|`(¬($a∈$b))=>`(Not ($a∈$b))
|`(¬$t)=>`(L2.zg rfl $t)
local macro_rules
|`(!$n:num)=>`(L2.jv $n)
set_option hygiene true
open List renaming length_map → ub, length_append → ud, getElem?_eq_some_iff → uf, getElem?_map → uh, length_cons → ui, getElem?_eq_getElem → uj, take_of_length_le → um, mem_cons → uq, map_append → ur, mem_singleton → ut, mem_of_getElem? → uu, length_take → uv, size_toArray → uw, mem_append → uy, mem_map → uz, take_add_one → uA, map_cons → uB, length_singleton → uH, mem_append_right → uK, length_filter_le → uM, range → uQ, replicate → uT, nodup_cons → uV, mem_append_left → uX, getD_eq_getElem?_getD → u5, append_nil → u7, flatMap_cons → Uf, not_mem_nil → Ug, mem_cons_self → Ui, exists_cons_of_length_eq_add_one → Uj, length_zip → Ul, length_eq_zero_iff → Um, append_assoc → Uo, mem_cons_of_mem → Uq, getElem?_append_left → Ur, mem_range → Ut, lookup_cons → Uv, sum_cons → Uw, length_reverse → Ux, flatMap_append → Uy, length_replicate → Uz, getElem?_append_right → UA, of_mem_zip → UC, getElem?_zip_eq_some → UF, replicate_succ → UG, mem_map_of_mem → UH, mem_filter → UL, foldl_cons → UN, drop_eq_getElem_cons → UO, map_map → UP, length_range → UR, lookup → UV, take_length → UW, reverse_append → UZ, filter_append → U4, find?_cons → U6, set → U7, mem_iff_getElem? → U9, reverse_cons → tj, flatten_cons → tm, length → tu, all_eq_true → tF, getElem?_range → tJ, all_cons → tM, any_cons → tO
open PySem.W renaming Frag → uc, findIn → uU, keepIn → uY, codeHdIn → u6, mg_none_of → Ub, fnOf → Ue, nsIn → Uh, kia_one → UB, emptyDict → UI, codeIn → UM, instObj → US, callWith_K → U3, mg_of → U8, plainGet → tD, envX → tH, hasDictIn → tS, cellsFrom_some → tT
open PySem.Heap renaming get?_push_of_some → ue, get?_push_size → ux, lt_size → uD, size_push → Ud, get?_update_other → UD, get?_update_self → UK, size_update → tG
open Option renaming map_eq_some_iff → ug, some → u4, map_some → UX, isSome_iff_exists → tL
open Nat renaming le_refl → uk, le_trans → uF, lt_of_lt_of_le → uJ, zero_le → uS, ne_of_lt → uZ, lt_of_le_of_lt → Us, lt_irrefl → Uu, le_add_right → UE, add_mul → UJ, mul_le_mul_right → UY, one_mul → tw, lt_succ_self → tE, succ → tP, not_lt_zero → tQ
open PyProof.Rows renaming boot_tuple → uo, boot_isinstance → uI, callWith_type1 → Ua, slot_tuple_getitem → Uk, boot_list → UT, boot_dict → UU
open Bool renaming false_ne_true → uC, and_eq_true → U1, eq_iff_iff → U5
open PySem.F renaming plainAttrs_list → uE, slot_list_append → uN, type_list_append → uO, slot_zip_getattribute → U2
open PySem renaming boot_len → uP, mem_of_lookup → uW, sizeLine → U0
open PySem.Builtin.SmallTypes renaming nextOf → Uc, ownedTupleIsFree → Up, ownedTupleHandOut → tI
open Int renaming toNat_natCast → UQ, toNat_of_nonneg → tK, natCast_nonneg → tR
open Option renaming some→sO,none→nO
open Bool renaming true→tU,false→fO
open PySem renaming Addr→aO,Value→aA,wpAny_bind→bA,wpAny_pure→pO
theorem dA{p:Prop}[Decidable p]:(decide p=true)=p:=decide_eq_true_eq
theorem eO{p:Prop}[Decidable p](h:Not p):decide p=false:=decide_eq_false h
theorem iN{c:Prop}{h:Decidable c}(hnc:Not c){α:Sort u}{t e:α}:ite c t e=e:=if_neg hnc
theorem iP{c:Prop}{h:Decidable c}(hc:c){α:Sort u}{t e:α}:ite c t e=t:=if_pos hc
abbrev L2.lS0:List PySem.Str:=["_law_state","_law_scope","_law_k","_law_room","_law_world_here","_law_at"]
abbrev L2.lS1:List PySem.Str:=["putter","place"]
abbrev L2.lS2:List PySem.Str:=["_law_state","_law_many"]
abbrev L2.lS3:List PySem.Str:=["self","body","note","names"]
abbrev L2.lS4:List PySem.Str:=["_law_state","_law_scope","_law_sort"]
abbrev L2.lS5:List PySem.Str:=["_law_pieces_here","_law_params"]
abbrev L2.lS6:List PySem.Str:=["_law_state","_law_scope","_law_sorts_here"]
abbrev L2.lS7:List PySem.Str:=["_law_world_here","_law_k"]
abbrev L2.lS8:List PySem.Str:=["_law_body_here","_law_stands"]
abbrev L2.lS9:List PySem.Str:=["_law_body_here","_law_names"]
abbrev L2.lS10:List PySem.Str:=["_law_state","_law_world_here","_law_room"]
abbrev L2.lS11:List PySem.Str:=["_law_found","_law_due"]
abbrev L2.lS12:List PySem.Str:=["body","bits"]
abbrev L2.lS13:List PySem.Str:=["_law_state","_law_scope","_law_world_here","_law_at"]
abbrev L2.lS14:List PySem.Str:=["_law_state","_law_world_here","_law_at","_law_room"]
abbrev L2.lS15:List PySem.Str:=["self","name","note"]
abbrev L2.lS16:List PySem.Str:=["body","ways","notes","bits"]
abbrev L2.lS17:List PySem.Str:=["_law_state","_law_least","_law_most"]
abbrev L2.lS18:List PySem.Str:=["_law_state","_law_room","_law_many"]
abbrev L2.lS19:List PySem.Str:=["_law_program_here","_law_owns_here","_law_code"]
abbrev L2.lS20:List PySem.Str:=["__module__","__name__","__qualname__","__doc__","__annotations__"]
abbrev L2.lS21:List PySem.Str:=["_law_state","_law_scope","_law_world_here"]
abbrev L2.lS22:List PySem.Str:=["self","within","finish"]
abbrev L2.lS23:List PySem.Str:=["_law_state","_law_world_here","_law_one"]
abbrev L2.lS24:List PySem.Str:=["self","names","free"]
abbrev L2.lS25:List PySem.Str:=["self","one","owns"]
abbrev L2.lS26:List PySem.Str:=["arms","modes","bodies"]
abbrev L2.lS27:List PySem.Str:=["_law_state","_law_program_here"]
abbrev L2.lS28:List PySem.Str:=["_law_program_here","_law_code"]
theorem L2.sN0:0<=U0:=b9
theorem L2.sN1:1<=U0:=b9
theorem L2.sN2:2<=U0:=b9
theorem L2.sN3:3<=U0:=b9
theorem L2.sN4:4<=U0:=b9
theorem L2.sN5:5<=U0:=b9
theorem L2.sN7:7<=U0:=b9
noncomputable section
theorem L2.gM{α β:Type}{f:α->β}{l:List α}{i:Nat}{v:β}(h:(l.map f)[i]?=sO v):∃z,l[i]?=sO z/\f z=v:=by rw[List.getElem?_map]at h;exact Option.map_eq_some_iff.mp h
abbrev lS:=List PySem.Str
variable{u doc pm cdv ct oc vl vu:aA}{ws vs ds its its':List aA}{a b it c f p C dx sl T fa cB c1 T1 T2 fl c0 cc cP cL:aO}{h h' base h0:Heap}{items:Array aA}{P prog:Program}{w:World}{x name qual y z w0:Str}{e o tg iter value elt e1 e2 e3 e4 e5:Expr}{pins:List (aO×Obj)}{s s':Shared}{g':Array GenState}{t' i j n m B:Nat}{ch fp q as Ts ts:List aO}{N ns ps:lS}{A:Around}{E:VSP}{Q:Unit->Shared->Prop}{pos pos' tpos apos p2 cpos py:Pos}{st:Stmt}{es ifs elts:List Expr}{body:List Stmt}{lo hi:Option Int}{op:CmpOp}{mA mg:Str->Option aA}{R R':aO->Prop}{kw:List (Str×aA)}{env:Env}{fd:FuncData}{sc scope:Scope}{kindOf:Str->Option NameKind}{params:Arguments}{an od:Option aO}{osl:Array (Option aA)}{zs:List (Bool×Nat)}{XP:(Str->Option aA)->Heap->Prop}{S:List Nat}{ow:Str->List Bool}{F:Str->Str}
namespace L2
open PySem PySem.Spec PyProof.Rows
variable{c:Expr}{g:Int->Int->Int}{p:Pos}
abbrev Key:=Sum Int Str
noncomputable def keyIs:Key->aA->Bool
 |.inl k,v=>Value.isInt k v
 |.inr x,v=>Value.isStrOf x v
def keyH(w:World):Key->Int
 |.inl k=>hashInt k
 |.inr x=>hashStr w x
theorem yj:∀{k:Key}{v:aA},keyIs k v=tU->(∃i t,k=Sum.inl i/\v=Value.int i t)\/(∃x t,k=Sum.inr x/\v=Value.str x t)
 |.inl i,v,h=>by
  obtain⟨t,e⟩:=Value.isInt_shape (k:=i) (v:=v) h;exact .inl ⟨i,t,rfl,e⟩
 |.inr x,v,h=>by
  obtain⟨t,e⟩:=Value.isStrOf_shape (x:=x) (v:=v) h;exact .inr ⟨x,t,rfl,e⟩
theorem WJ(i:Int)(t:Tok):keyIs (.inl i) (.int i t)=tU:=by simp[keyIs,Value.isInt]
theorem WK(x:Str)(t:Tok):keyIs (.inr x) (.str x t)=tU:=by simp[keyIs,Value.isStrOf]
theorem zcc(a b:Int):decide ((Sum.inl a:Key)=Sum.inl b)=(a == b):=by
 by_cases e:a=b
 .subst e;simp
 .have h:Not ((Sum.inl a:Key)=Sum.inl b):=λq=>e (Sum.inl.inj q)
  rw[eO h];exact(beq_eq_false_iff_ne.mpr e).symm
theorem zcd(a b:Str):decide ((Sum.inr a:Key)=Sum.inr b)=decide (a=b):=by
 by_cases e:a=b
 .subst e;simp
 .have h:Not ((Sum.inr a:Key)=Sum.inr b):=λq=>e (Sum.inr.inj q)
  rw[eO h,eO e]
theorem zce(a:Int)(b:Str):decide ((Sum.inl a:Key)=Sum.inr b)=fO:=eO (λq=>nomatch q)
theorem zcf(a:Str)(b:Int):decide ((Sum.inr a:Key)=Sum.inl b)=fO:=eO (λq=>nomatch q)
def yf(prog:Program)(w:World):PySem.KeyKind prog w Key where
 is:=keyIs
 hash:=keyH w
 inj:=λv a b ha hb=>by
  rcases yj ha with⟨i,t,rfl,rfl⟩|⟨x,t,rfl,rfl⟩
  .rcases yj hb with⟨j,u,rfl,e⟩|⟨y,u,rfl,e⟩
   .injection e with e1 _;rw[e1]
   .exact nomatch e
  .rcases yj hb with⟨j,u,rfl,e⟩|⟨y,u,rfl,e⟩
   .exact nomatch e
   .injection e with e1 _;rw[e1]
 byValue:=λk v h=>by
  rcases yj h with⟨i,t,rfl,rfl⟩|⟨x,t,rfl,rfl⟩<;>rfl
 pyHash:=λhv h=>by
  rcases yj hv with⟨i,t,rfl,rfl⟩|⟨x,t,rfl,rfl⟩
  .exact wpAny_pyHash_int h
  .exact wpAny_pyHash_str h
 eqBool:=λhu hv h=>by
  rcases yj hu with⟨i,t,rfl,rfl⟩|⟨x,t,rfl,rfl⟩
  .rcases yj hv with⟨j,u,rfl,rfl⟩|⟨y,u,rfl,rfl⟩
   .rw[zcc]at h;exact wpAny_eqBool_int h
   .rw[zce]at h;exact SeqAt.EqAt.int_str i t y u _ _ _ _ h
  .rcases yj hv with⟨j,u,rfl,rfl⟩|⟨y,u,rfl,rfl⟩
   .rw[zcf]at h;exact SeqAt.EqAt.str_int x t j u _ _ _ _ h
   .rw[zcd]at h;exact wpAny_eqBool_str h
 «strs»:=λk x t v h=>by
  rcases yj h with⟨i,u,rfl,e⟩|⟨y,u,rfl,e⟩
  .exact nomatch e
  .injection e with e1 _
   subst e1;cases v<;>rfl
theorem YX(prog:Program)(w:World)(k:Key)(v:aA):(yf prog w).is k v=keyIs k v:=rfl
theorem ZP(prog:Program)(w:World)(i:Int)(t:Tok):(yf prog w).is (.inl i) (.int i t)=tU:=WJ i t
theorem ZQ(prog:Program)(w:World)(x:Str)(t:Tok):(yf prog w).is (.inr x) (.str x t)=tU:=WK x t
inductive V where
 |non|bl (b:Bool)|int (i:Int)|str (x:Str)|byt (b:Array UInt8)|flt (b:UInt64)|ref (a:aO)|ty (n:String)
 deriving DecidableEq
variable{xs:List V}{v:V}
abbrev sR(a:aO):Option V:=sO (.ref a)
def RelV:V->aA->Prop
 |.non,u=>u=Value.none
 |.bl b,u=>u=Value.bool b
 |.int i,u=>∃t,u=Value.int i t
 |.str x,u=>∃t,u=Value.str x t
 |.byt b,u=>∃t,u=Value.bytes b t
 |.flt b,u=>∃t,u=Value.float b t
 |.ref a,u=>u=Value.ref a
 |.ty n,u=>u=Value.type n
abbrev Vals:List V->List aA->Prop:=Paired RelV
theorem Vals.length{us:List aA}(r:Vals xs us):xs.length=us.length:=Paired.length r
theorem Vals.get:∀{xs:List V}{us:List aA}{i:Nat}{x:V},Vals xs us->xs[i]?=sO x->∃u,us[i]?=sO u/\RelV x u
 |_,_,_,_,.nil,e=>by simp at e
 |_,_,0,_,.cons r _,e=>by simp at e;subst e;exact⟨_,rfl,r⟩
 |_,_,i+1,x,.cons _ t,e=>by
  obtain⟨u,h1,h2⟩:=Vals.get (i:=i) (x:=x) t (by simpa using e);exact⟨u,bf,h2⟩
theorem Vals.set{x:V}{u:aA}(r:RelV x u):∀{xs:List V}{us:List aA}(i:Nat),Vals xs us->Vals (xs.set i x) (us.set i u)
 |_,_,_,.nil=>.nil
 |_,_,0,.cons _ t=>.cons r t
 |_,_,i+1,.cons q t=>.cons q (Vals.set r i t)
theorem Vals.append{ys:List V}{us:List aA}(h:Vals xs us)(s:Vals ys ws):Vals (xs++ys) (us++ws):=by
 induction h with
 |nil=>exact s
 |cons r _ i=>exact .cons r i
theorem Vals.take:∀{xs:List V}{us:List aA}(n:Nat),Vals xs us->Vals (xs.take n) (us.take n)
 |_,_,0,_=>.nil
 |_,_,_+1,.nil=>.nil
 |_,_,n+1,.cons r t=>.cons r (Vals.take n t)
theorem Vals.drop:∀{xs:List V}{us:List aA}(n:Nat),Vals xs us->Vals (xs.drop n) (us.drop n)
 |_,_,0,r=>r
 |_,_,_+1,.nil=>.nil
 |_,_,n+1,.cons _ t=>Vals.drop n t
def RelO:Option V->Option aA->Prop
 |some v,sO u=>RelV v u
 |none,nO=>True
 |_,_=>False
def KV{κ:Type}:List (κ×V)->List (κ×aA)->Prop:=Paired λ(p:κ×V)(q:κ×aA)=>p.1=q.1/\RelV p.2 q.2
def kV:Key->V
 |.inl i=>.int i
 |.inr x=>.str x
inductive HO where
 |lst (xs:List V)
 |tup (xs:List V)
 |dK (kvs:List (Key×V))|dT (kvs:List (List Key×V))
 |set (S:Int->Bool) (n:Nat)
 |ins (C dx:aO) (fs:List (Str×V))
 |own (x:aO)
 |xd (fs:List (Str×V))
 |met (f x:aO)
 |rng (lo hi:Int)
 |frz (o:Obj) (u:HO)
 |tbl (ps:Array aA)
 |ext (φ:Heap->Prop)
variable{o:HO}
abbrev Hp:=aO->Option HO
variable{H H':Hp}
def upd(H:Hp)(a:aO)(o:HO):Hp:=λb=>if b=a then sO o else H b
theorem uX9:upd H a o a=sO o:=by unfold upd;rw[iP rfl]
theorem zo(h:b≠a):upd H a o b=H b:=by unfold upd;rw[iN h]
theorem yE{u:HO}(h:H a=sO o)(h':H b=sO u)(d:o≠u):a≠b:=by
 intro e;subst e;rw[h]at h';exact d (u4.inj h')
theorem zk(h:H a=sO o)(h':H b=nO):a≠b:=by
 intro e;subst e;rw[h]at h';cases h'
def IsTupN(h:Heap)(a:aO)(items:Array aA):Prop:=∃o,h.get? a=sO o/\o.cls=.type "tuple"/\o.dict=nO/\∃n,o.data=.seq items n
theorem IsTupN.is(x:IsTupN h a items):IsTup h a items:=by obtain⟨o,a,b,_,c⟩:=x;exact⟨o,a,b,c⟩
theorem IsTupN.new(h:Heap)(items:Array aA):IsTupN (h.push { cls:=.type "tuple",data:=.seq items }) h.objs.size items:=⟨_,ux _ rfl,rfl,rfl,_,rfl⟩
section
variable(P:Program)(w:World)
def ObjOk(H:Hp)(h:Heap)(a:aO):HO->Prop
 |.lst xs=>xs.length<=sizeLine/\∃(its:List aA)(n:Nat),Vals xs its/\h.get? a=sO { cls:=.type "list",data:=.seq its.toArray n }
 |.tup xs=>xs.length<=sizeLine/\∃its:List aA,Vals xs its/\IsTupN h a its.toArray
 |.dK kvs=>kvs.length<=sizeLine/\(a == sysModules)=fO/\∃vs,KV kvs vs/\h.DictOf (yf P w) a vs
 |.dT kvs=>kvs.length<=sizeLine/\(a == sysModules)=fO/\∃xs:List (List Key×aO×aA),
   Paired (λ(p:List Key×V)(q:List Key×aO×aA)=>p.1=q.1/\H q.2.1=sO (.tup (p.1.map kV))/\RelV p.2 q.2.2) kvs xs /\
   ∃o es ep,h.get? a=sO o/\o.ExactDict/\o.data=.dict es ep/\es.toList=xs.map (entryOfKey (tupleKind (yf P w)))/\(xs.map (·.1)).Nodup
 |.set S n=>h.SetOf (intKind P w) a S n
 |.ins C dx fs=>H dx=sO (.own a)/\fs.length<=1000/\dx≠a/\h.get? a=sO (US C dx) /\
   ∃mA,h.Ns1 dx mA/\(∀f,RelO (fs.lookup f) (mA f))/\PySem.Within mA (fs.map (·.1))
 |.own _=>∃o,h.get? a=sO o
 |.xd fs=>∃mA,h.Ns1 a mA/\∀f,RelO (fs.lookup f) (mA f)
 |.rng lo hi=>∃t u v,h.get? a=sO { cls:=.type "range",data:=.fields #[.int lo t,.int hi u,.int 1 v] }
 |.frz o u=>h.get? a=sO o/\ObjOk H h a u
 |.tbl ps=>h.get? a=sO { cls:=.none,data:=.fields ps }
 |.met f x=>h.get? a=sO (PySem.W.methodObj (.ref f) (.ref x))
 |.ext φ=>φ h/\(∃o,h.get? a=sO o)/\∀h1 h2:Heap,φ h1->(∀o,h1.get? a=sO o->h2.get? a=sO o)->φ h2
def HOk(H:Hp)(h:Heap):Prop:=∀a o,H a=sO o->ObjOk P w H h a o
end
theorem ObjOk.lt(x:ObjOk P w H h a o):a < h.objs.size:=by
 cases o with
 |lst xs=>obtain⟨_,_,_,_,e⟩:=x;exact uD e
 |tup xs=>obtain⟨_,_,_,p⟩:=x;exact p.is.lt
 |dK kvs=>obtain⟨_,_,_,_,o,_,_,e,_⟩:=x;exact uD e
 |dT kvs=>obtain⟨_,_,_,_,o,_,_,e,_⟩:=x;exact uD e
 |set S n=>obtain⟨o,_,_,_,e,_⟩:=x;exact uD e
 |ins C dx fs=>obtain⟨_,_,_,e,_⟩:=x;exact uD e
 |own y=>obtain⟨_,e⟩:=x;exact uD e
 |xd fs=>obtain⟨_,⟨_,_,_,e,_⟩,_⟩:=x;exact uD e
 |rng lo hi=>obtain⟨_,_,_,e⟩:=x;exact uD e
 |frz ob u=>obtain⟨e,_⟩:=x;exact uD e
 |tbl ps=>exact uD (show h.get? a=sO _ from x)
 |met f y=>exact uD (show h.get? a=sO _ from x)
 |ext φ=>obtain⟨_,⟨_,e⟩,_⟩:=x;exact uD e
theorem Paired.mapP{α β:Type}{F G:α->β->Prop}{l₁:List α}{l₂:List β}(h:Paired F l₁ l₂)(f:∀a b,F a b->G a b):Paired G l₁ l₂:=by
 induction h with
 |nil=>exact .nil
 |cons r _ i=>exact .cons (f _ _ r) i
theorem ObjOk.stay(x:ObjOk P w H h a o)(k:∀b u,(b=a\/H b=sO (.own a))->h.get? b=sO u->h'.get? b=sO u)
  (ho:∀b,H b=sO (.own a)->H' b=sO (.own a)) (ht:∀b xs,H b=sO (.tup xs)->H' b=sO (.tup xs)):ObjOk P w H' h' a o:=by
 induction o with
 |lst xs=>obtain⟨z,its,n,r,e⟩:=x;exact⟨z,its,n,r,k _ _ (.inl rfl) e⟩
 |tup xs=>obtain⟨z,its,r,ob,e,c⟩:=x;exact⟨z,its,r,ob,k _ _ (.inl rfl) e,c⟩
 |dK kvs=>obtain⟨z,y,vs,r,ob,es,ep,e,c⟩:=x;exact⟨z,y,vs,r,ob,es,ep,k _ _ (.inl rfl) e,c⟩
 |dT kvs =>
  obtain⟨z,y,xs,r,ob,es,ep,e,c⟩:=x;exact⟨z,y,xs,Paired.mapP r λp q z=>⟨z.1,ht _ _ z.2.1,z.2.2⟩,ob,es,ep,k _ _ (.inl rfl) e,c⟩
 |set S n=>obtain⟨ob,es,ep,t,e,c⟩:=x;exact⟨ob,es,ep,t,k _ _ (.inl rfl) e,c⟩
 |ins C dx fs =>
  obtain⟨d,z,ne,e,mA,⟨od,es,ep,e2,c⟩,r⟩:=x;exact⟨ho _ d,z,ne,k _ _ (.inl rfl) e,mA,⟨od,es,ep,k _ _ (.inr d) e2,c⟩,r⟩
 |own y=>obtain⟨ob,e⟩:=x;exact⟨ob,k _ _ (.inl rfl) e⟩
 |xd fs=>obtain⟨mA,⟨od,es,ep,e,c⟩,r⟩:=x;exact⟨mA,⟨od,es,ep,k _ _ (.inl rfl) e,c⟩,r⟩
 |rng lo hi=>obtain⟨t,u,v,e⟩:=x;exact⟨t,u,v,k _ _ (.inl rfl) e⟩
 |frz ob u ih=>obtain⟨e,q⟩:=x;exact⟨k _ _ (.inl rfl) e,ih q⟩
 |tbl ps =>
  have e:h.get? a=sO { cls:=.none,data:=.fields ps }:=x;show h'.get? a=sO { cls:=.none,data:=.fields ps };exact k a _ (.inl rfl) e
 |met f y =>
  have e:h.get? a=sO (PySem.W.methodObj (.ref f) (.ref y)):=x;show h'.get? a=sO (PySem.W.methodObj (.ref f) (.ref y));exact k a _ (.inl rfl) e
 |ext φ=>obtain⟨p,⟨o,e⟩,st⟩:=x;exact⟨st _ _ p λo q=>k _ _ (.inl rfl) q,⟨o,k _ _ (.inl rfl) e⟩,st⟩
theorem HOk.lt(x:HOk P w H h)(e:H a=sO o):a < h.objs.size:=(x a o e).lt
theorem HOk.fresh(x:HOk P w H h)(e:h.objs.size<=a):H a=nO:=by
 cases q:H a with
 |none=>rfl
 |some u=>exact absurd (uJ (x.lt q) e) (Uu _)
theorem HOk.kept(x:HOk P w H h)(k:∀b u,h.get? b=sO u->h'.get? b=sO u):HOk P w H h':=λa o e =>
 (x a o e).stay (λb u _ q=>k b u q) (λ_ q=>q) λ_ _ q=>q
theorem HOk.laid(x:HOk P w H h)(k:∀b u,h.get? b=sO u->h'.get? b=sO u)(hp:h.objs.size<=a)(new:ObjOk P w (upd H a o) h' a o):HOk P w (upd H a o) h':=λb u e=>by
 have hn:=x.fresh hp;by_cases hb:b=a
 .subst hb;rw[uX9]at e;cases e;exact new
 .rw[zo hb]at e
  exact(x b u e).stay (λc v _ q=>k c v q) (λc q=>by rw[zo (zk q hn)];exact q) λc xs q=>by rw[zo (zk q hn)];exact q
def Rd(H:Hp)(a:aO)(u:HO):Prop:=H a=sO u\/∃o,H a=sO (.frz o u)
theorem Rd.ok{u:HO}(r:Rd H a u)(x:HOk P w H h):ObjOk P w H h a u:=by
 rcases r with r|⟨o,r⟩
 .exact x a u r
 .obtain⟨_,q⟩:=x a _ r
  exact q
def Mut:Option HO->Prop
 |some (.lst _)=>True
 |some (.dK _)=>True
 |some (.dT _)=>True
 |some (.set _ _)=>True
 |some (.ins _ _ _)=>True
 |some (.ext _)=>True
 |_=>False
section
variable{x e:aO}{o':HO}
theorem HOk.write(ok:HOk P w H h)(mu:Mut (H x))(he:e=x\/H e=sO (.own x))(k:∀b u,b≠e->h.get? b=sO u->h'.get? b=sO u)(heo:∃u,h'.get? e=sO u)
  (new:ObjOk P w (upd H x o') h' x o'):HOk P w (upd H x o') h':=λb u q=>by
 have nown:∀c y,H c=sO (.own y)->c≠x:=λc y r z=>by subst z;rw[r]at mu;exact mu
 have ntup:∀c xs,H c=sO (.tup xs)->c≠x:=λc xs r z=>by subst z;rw[r]at mu;exact mu
 by_cases hb:b=x
 .subst hb;rw[uX9]at q;cases q;exact new
 .rw[zo hb]at q
  by_cases hbe:b=e
  .have q':H b=sO (.own x):=by
    rcases he with z|z
    .exact absurd (hbe.trans z) hb
    .rw[hbe];exact z
   rw[q]at q';cases q';obtain⟨v,hv⟩:=heo;exact⟨v,by rw[hbe];exact hv⟩
  .refine(ok b u q).stay (λc v hc r=>k c v ?_ r) (λc r=>by rw[zo (nown c b r)];exact r) λc xs r=>by rw[zo (ntup c xs r)];exact r
   rcases hc with rfl|hc
   .exact hbe
   .rintro rfl
    rcases he with z|z
    .exact nown c b hc z
    .rw[hc]at z;cases z;exact hb rfl
end
structure Un(fs ex:List aO)(H H':Hp)(h h':Heap):Prop where
 keep:∀b o,h.get? b=sO o->H b=nO->b∉fs->b∉ex->h'.get? b=sO o
 slot:∀b o,h.get? b=sO o->H b=nO->b∈fs->b∉ex->∃sl,h'.get? b=sO { o with slots:=sl }
 free:∀b o,h.get? b=sO o->H b=nO->b∉ex->H' b=nO
 there:∀b o,h.get? b=sO o->b∉ex->∃o',h'.get? b=sO o'
 tups:∀b xs,H b=sO (.tup xs)->H' b=sO (.tup xs)
 frzs:∀b o u,H b=sO (.frz o u)->H' b=sO (.frz o u)
 tbls:∀b ps,H b=sO (.tbl ps)->∃more,H' b=sO (.tbl (ps++more))
section
variable{fs fs' ex ex':List aO}{H1 H2:Hp}{h1 h2:Heap}{x e:aO}
theorem Un.any(u:Un fs ex H H1 h h1){ob:Obj}(q:h.get? b=sO ob)(n:H b=nO)(hx:b∉ex):∃sl,h1.get? b=sO { ob with slots:=sl }:=by
 by_cases hb:b∈fs
 .exact u.slot b ob q n hb hx
 .exact⟨ob.slots,u.keep b ob q n hb hx⟩
theorem Un.kept(k:∀b u,h.get? b=sO u->h'.get? b=sO u):Un fs ex H H h h' :=
 ⟨λb ob q _ _ _=>k b ob q,λb ob q _ _ _=>⟨ob.slots,k b ob q⟩,λ_ _ _ n _=>n,λb ob q _=>⟨ob,k b ob q⟩,λ_ _ q=>q,λ_ _ _ q=>q,λ_ ps q=>⟨#[],by rw[q];simp⟩⟩
theorem Un.refl:Un fs ex H H h h:=Un.kept λ_ _ q=>q
theorem Un.laid(k:∀b u,h.get? b=sO u->h'.get? b=sO u)(hp:h.objs.size<=a)(hn:H a=nO):Un fs ex H (upd H a o) h h' where
 keep:=λb u q _ _ _=>k b u q
 slot:=λb u q _ _ _=>⟨u.slots,k b u q⟩
 free:=λb u q n _=>by rw[zo (uZ (uJ (uD q) hp))];exact n
 there:=λb u q _=>⟨u,k b u q⟩
 tups:=λb xs q=>by rw[zo (zk q hn)];exact q
 frzs:=λb u xs q=>by rw[zo (zk q hn)];exact q
 tbls:=λb ps q=>⟨#[],by rw[zo (zk q hn),q];simp⟩
theorem Un.write(mu:Mut (H x))(he:e=x\/H e=sO (.own x))(k:∀b u,b≠e->h.get? b=sO u->h'.get? b=sO u)(heo:∃u,h'.get? e=sO u):Un fs ex H (upd H x o) h h':=by
 have hx:∀b,H b=nO->b≠x:=λb n z=>by subst z;rw[n]at mu;exact mu
 have hb:∀b,H b=nO->b≠e:=λb n z=>by
  subst z;rcases he with r|r
  .exact hx b n r
  .rw[n]at r;cases r
 have hm:∀b u,H b=sO u->Not (Mut (sO u))->b≠x:=λb u q nm z=>by subst z;rw[q]at mu;exact nm mu
 refine⟨λb u q n _ _=>k b u (hb b n) q,λb u q n _ _=>⟨u.slots,k b u (hb b n) q⟩,λb u q n _=>by rw[zo (hx b n)];exact n,λb u q _=>?_,
  λb xs q=>by rw[zo (hm b _ q λz=>z)];exact q,λb u xs q=>by rw[zo (hm b _ q λz=>z)];exact q,λb ps q=>⟨#[],by rw[zo (hm b _ q λz=>z),q];simp⟩⟩
 by_cases hbe:b=e
 .subst hbe;exact heo
 .exact⟨u,k b u hbe q⟩
end
noncomputable def trk (h:Heap) (H:Hp):List aO:=(uQ h.objs.size).filter λa=>(H a).isSome
def hidT(h:Heap)(H:Hp):Heap:=PySem.W.hideAll h (trk h H)
theorem WL(h:Heap)(H:Hp):(hidT h H).objs.size=h.objs.size:=PySem.W.hideAll_size _ _
theorem VE{o:Obj}(e:h.get? b=sO o)(n:H b=nO):(hidT h H).get? b=sO o :=
 PySem.W.hideAll_get _ e λhm=>by
  have q:(H b).isSome=tU:=(UL.mp hm).2;rw[n]at q;simp at q
theorem QR{o:Obj}(e:(hidT h H).get? b=sO o):h.get? b=sO o/\H b=nO:=by
 have e':h.get? b=sO o:=PySem.W.of_hideAll (trk h H) e;refine⟨e',?_⟩;cases q:H b with
 |none=>rfl
 |some x =>
  have hm:b∈trk h H:=UL.mpr ⟨Ut.mpr (uD e'),by simp[q]⟩;have z:(hidT h H).get? b=nO:=PySem.W.hideAll_none (trk h H) hm;rw[z]at e;cases e
noncomputable def allNews (g h:Heap) (L:aO):List (aO×Obj):=(uQ h.objs.size).filterMap λa=>if a=L\/(g.get? a).isSome=tU then nO else(h.get? a).map λo=>(a,o)
def rest(g h:Heap)(L d:aO):List (aO×Obj):=(allNews g h L).filter λp=>decide (p.1≠d)
structure Mod(K:uc)(mg:Str->Option aA)(base:Heap):Prop where
 kin:K.In base
 glob:base.Ns mainGlobals mg
 blt:∃mb,base.Ns builtinsNs mb/\∀x:Str,x≠"__name__"->mb x=bootBuiltins x
 nolimit:base.NoLimit
structure Cx where
 prog:Program
 w:World
 K:uc
 mg:Str->Option aA
 base:Heap
 A:Around
 N:lS
 s₀:Shared
 H₀:Hp
 env:Env
 outer:List Env
 stack:List Env
 ex:List aO
 fn:Str->Bool
 calm:Bool
 pn:List (aO×Obj)
 xe:aA->Shared->Prop
variable{X:Cx}
def frs(l:List Env):List aO:=l.filterMap (·.frame)
abbrev Cx.fs(X:Cx):List aO:=frs X.outer
def Vis(sc:Scope)(x:Str):Prop:=sc.names.lookup x=sO .local\/sc.names.lookup x=sO .cell\/sc.names.lookup x=sO .free
def Loc(sc:Scope)(x:Str):Prop:=sc.names.lookup x=sO .local\/sc.names.lookup x=sO .cell
def Look(env:Env)(h:Heap)(m:Str->Option aA)(x:Str)(u:aA):Prop :=
 (env.kindOf x=sO .local/\m x=sO u)\/((env.kindOf x=sO .cell\/env.kindOf x=sO .free)/\∃c,env.cells.lookup x=sO c/\h.IsCell c (sO u))
structure Cx.Ok(X:Cx):Prop where
 mod:Mod X.K X.mg X.base
 kind:X.env.scope.kind=.function
 glob:X.env.globals=mainGlobals
 blt:X.env.builtins=builtinsNs
 above:X.s₀.heap.objs.size<=X.env.locals
 inj:∀x y c,X.env.cells.lookup x=sO c->X.env.cells.lookup y=sO c->x=y
 has:∀x,(X.env.kindOf x=sO .cell\/X.env.kindOf x=sO .free)->∃c,X.env.cells.lookup x=sO c
 cab:∀x c,X.fn x=tU->X.env.cells.lookup x=sO c->X.s₀.heap.objs.size<=c
 hd:X.calm=tU->X.A.handled=nO
 frames:X.A.frames=sO X.stack
 stk:X.stack=X.outer\/(X.stack=X.env::X.outer/\X.env.frame=sO X.env.locals)
 exf:∀b∈X.ex,b≠X.env.locals/\∀x c,X.env.cells.lookup x=sO c->c≠b
 bs:∀b o,X.base.get? b=sO o->X.s₀.heap.get? b=sO o/\X.H₀ b=nO
 bsz:X.base.objs.size<=X.s₀.heap.objs.size
 noex:∀b o,X.base.get? b=sO o->b∉X.ex
 exfs:∀b∈X.ex,b∉X.fs
 funs:X.s₀.heap.FunFrames X.base X.outer
 frf:∀b∈X.fs,X.H₀ b=nO
structure Inv(X:Cx)(pins:List (aO×Obj))(σ:List (Option V))(H:Hp)(s:Shared):Prop where
 ok:X.Ok
 os:s.os=X.s₀.os
 bare:AllBare s.gens
 base:Un X.fs X.ex X.H₀ H X.s₀.heap s.heap
 loc:∃m,s.heap.Ns X.env.locals m/\∀(i:Nat)(x:Str)(v:V),X.N[i]?=sO x->σ[i]?=sO (sO v)->Vis X.env.scope x->∃u,RelV v u/\Look X.env s.heap m x u
 cell:∀x c,X.env.cells.lookup x=sO c->∃v,s.heap.IsCell c v
 free:H X.env.locals=nO
 freeC:∀x c,X.env.cells.lookup x=sO c->H c=nO
 pin:∀p∈X.pn++pins,s.heap.get? p.1=sO p.2/\H p.1=nO/\p.1≠X.env.locals/\p.1∉X.fs/\∀v,p.2.data≠.cell v
 hok:HOk X.prog X.w H s.heap
 len:σ.length=X.N.length
section
variable{σ:List (Option V)}
theorem Cx.Ok.nofr(ok:X.Ok){o:Obj}(e:X.base.get? b=sO o):b∉X.fs:=λhb=>by
 have:=(ok.funs.mem hb).1
 rw[e]at this;cases this
theorem Inv.bs(I:Inv X pins σ H s):∀b o,X.base.get? b=sO o->s.heap.get? b=sO o/\H b=nO:=λb o e =>
 ⟨I.base.keep b o (I.ok.bs b o e).1 (I.ok.bs b o e).2 (I.ok.nofr e) (I.ok.noex b o e),I.base.free b o (I.ok.bs b o e).1 (I.ok.bs b o e).2 (I.ok.noex b o e)⟩
theorem Inv.bk(I:Inv X pins σ H s):∀b o,X.base.get? b=sO o->s.heap.get? b=sO o:=λb o e=>(I.bs b o e).1
theorem Inv.mod(I:Inv X pins σ H s):Mod X.K X.mg X.base:=I.ok.mod
theorem Inv.kIn(I:Inv X pins σ H s):X.K.In s.heap:=I.ok.mod.kin.keeps I.bk
theorem Inv.lt(I:Inv X pins σ H s):X.env.locals < s.heap.objs.size:=by obtain⟨_,hn,_⟩:=I.loc;exact hn.lt
theorem Inv.sz(I:Inv X pins σ H s):X.s₀.heap.objs.size<=s.heap.objs.size:=uF I.ok.above (Nat.le_of_lt I.lt)
theorem Inv.nofs(I:Inv X pins σ H s)(h:s.heap.objs.size<=a):a∉X.fs:=λhb=>by
 obtain⟨_,o,ho,_⟩:=I.ok.funs.mem hb;exact absurd (uJ (uD ho) (uF I.sz h)) (Uu _)
theorem Inv.cne(I:Inv X pins σ H s):∀x c,X.env.cells.lookup x=sO c->c≠X.env.locals:=λx c e z=>by
 obtain⟨v,o,ho,hd⟩:=I.cell x c e;obtain⟨m,⟨o',es,ep,ho',hd',_⟩,_⟩:=I.loc;rw[z,ho']at ho;cases ho;rw[hd']at hd;cases hd
theorem Inv.funs(I:Inv X pins σ H s):s.heap.FunFrames X.base X.outer:=by
 have all:∀(l:List Env),(∀b∈frs l,b∈X.fs)->X.s₀.heap.FunFrames X.base l->s.heap.FunFrames X.base l:=by
  intro l
  induction l with
  |nil=>intro _ _;trivial
  |cons env r ih =>
   intro hs hl;obtain⟨hk,⟨L,o,hf,hn,ho,hd⟩,hr⟩:=hl;have hL:L∈X.fs:=hs L (by unfold frs;rw[List.filterMap_cons,hf];exact Ui);obtain⟨sl,e⟩:=I.base.slot L o ho (I.ok.frf L hL) hL λz=>I.ok.exfs L z hL;exact⟨hk,⟨L,_,hf,hn,e,hd⟩,ih (λb hb=>hs b (by unfold frs;rw[List.filterMap_cons,hf];exact Uq _ hb)) hr⟩
 exact all X.outer (λ_ hb=>hb) I.ok.funs
theorem Inv.stack(I:Inv X pins σ H s):s.heap.FunFrames X.base X.stack:=by
 rcases I.ok.stk with e|⟨e,hf⟩
 .rw[e];exact I.funs
 .rw[e]
  obtain⟨m,hn,_⟩:=I.loc;refine .cons (by rw[I.ok.kind];decide) hf hn ?_ I.funs;exact Heap.get?_none_of_le (uF I.ok.bsz I.ok.above)
theorem Inv.stkSub(I:Inv X pins σ H s):∀b∈frs X.stack,b∈X.env.locals::X.fs:=λb hb=>by
 rcases I.ok.stk with e|⟨e,hf⟩
 .rw[e]at hb;exact Uq _ hb
 .rw[e]at hb
  unfold frs at hb;rw[List.filterMap_cons,hf]at hb;exact hb
theorem Inv.stkFree(I:Inv X pins σ H s):∀b∈frs X.stack,H b=nO:=λb hb=>by
 rcases uq.mp (I.stkSub b hb)with e|hb
 .rw[e];exact I.free
 .obtain⟨_,o,ho,_⟩:=I.ok.funs.mem hb
  exact I.base.free b o ho (I.ok.frf b hb) λz=>I.ok.exfs b z hb
theorem Inv.step{d':Drawn}(I:Inv X pins σ H s)
  (hch:∀b∈ch,(b∈X.ex\/X.s₀.heap.objs.size<=b)/\b≠X.env.locals/\(∀x c,X.env.cells.lookup x=sO c->c≠b)/\∀p∈X.pn++pins,p.1≠b)
  (keep:∀b o,b≠X.env.locals->b∉X.fs->b∉ch->s.heap.get? b=sO o->H b=nO->h'.get? b=sO o)
  (slot:∀b o,b≠X.env.locals->b∈X.fs->b∉ch->s.heap.get? b=sO o->H b=nO->∃sl,h'.get? b=sO { o with slots:=sl }) (free:∀b o,b∉ch->s.heap.get? b=sO o->H b=nO->H' b=nO)
  (there:∀b o,b∉ch->s.heap.get? b=sO o->∃o',h'.get? b=sO o')
  (tups:∀b xs,H b=sO (.tup xs)->H' b=sO (.tup xs)) (frzs:∀b o u,H b=sO (.frz o u)->H' b=sO (.frz o u)) (tbls:∀b ps,H b=sO (.tbl ps)->∃more,H' b=sO (.tbl (ps++more)))
  (ns:∀m,s.heap.Ns X.env.locals m->h'.Ns X.env.locals m) (hok:HOk X.prog X.w H' h') (hg:AllBare g') :
  Inv X pins σ H' { s with heap:=h',gens:=g',drawn:=d',toks:=t' }:=by
 have neL:∀b o,X.s₀.heap.get? b=sO o->b≠X.env.locals:=λb o e=>uZ (uJ (uD e) I.ok.above);have neC:∀b o,X.s₀.heap.get? b=sO o->b∉X.ex->b∉ch:=λb o e hx hb=>by
  rcases(hch b hb).1 with z|z
  .exact hx z
  .exact absurd (uJ (uD e) z) (Uu _)
 have cellK:∀x c,X.env.cells.lookup x=sO c->∀v,s.heap.IsCell c v->h'.IsCell c v:=λx c e v ⟨o,ho,hd⟩=>by
  have nch:c∉ch:=λz=>(hch c z).2.2.1 x c e rfl;by_cases hc:c∈X.fs
  .obtain⟨sl,q⟩:=slot c o (I.cne x c e) hc nch ho (I.freeC x c e)
   exact⟨_,q,hd⟩
  .exact⟨o,keep c o (I.cne x c e) hc nch ho (I.freeC x c e),hd⟩
 refine⟨I.ok,I.os,hg,⟨λb o e n hb hx=>?_,λb o e n hb hx=>?_,λb o e n hx=>?_,λb o e hx=>?_,λb xs e=>tups b xs (I.base.tups b xs e),λb o xs e=>frzs b o xs (I.base.frzs b o xs e),λb ps e=>?_⟩,?_,λx c e=>?_,?_,λx c e=>?_,λp hp=>?_,hok,I.len⟩
 .exact keep b o (neL b o e) hb (neC b o e hx) (I.base.keep b o e n hb hx) (I.base.free b o e n hx)
 .obtain⟨sl,e1⟩:=I.base.slot b o e n hb hx
  obtain⟨sl',e2⟩:=slot b _ (neL b o e) hb (neC b o e hx) e1 (I.base.free b o e n hx);exact⟨sl',e2⟩
 .obtain⟨o',e1⟩:=I.base.there b o e hx
  exact free b o' (neC b o e hx) e1 (I.base.free b o e n hx)
 .obtain⟨o',e1⟩:=I.base.there b o e hx
  exact there b o' (neC b o e hx) e1
 .obtain⟨m1,e1⟩:=I.base.tbls b ps e
  obtain⟨m2,e2⟩:=tbls b _ e1;exact⟨m1++m2,by rw[e2,Array.append_assoc]⟩
 .obtain⟨m,hn,hl⟩:=I.loc
  refine⟨m,ns m hn,λi x v e1 e2 e3=>?_⟩;obtain⟨u,r,l⟩:=hl i x v e1 e2 e3;refine⟨u,r,?_⟩;rcases l with l|⟨k,c,e,z⟩
  .exact .inl l
  .exact .inr ⟨k,c,e,cellK x c e _ z⟩
 .obtain⟨v,z⟩:=I.cell x c e
  exact⟨v,cellK x c e v z⟩
 .obtain⟨m,⟨o,_,_,ho,_⟩,_⟩:=I.loc
  exact free _ o (λz=>(hch _ z).2.1 rfl) ho I.free
 .obtain⟨v,o,ho,hd⟩:=I.cell x c e
  exact free c o (λz=>(hch c z).2.2.1 x c e rfl) ho (I.freeC x c e)
 .obtain⟨e,n,ne,nf,d⟩:=I.pin p hp
  have nch:p.1∉ch:=λz=>(hch p.1 z).2.2.2 p hp rfl;exact⟨keep p.1 p.2 ne nf nch e n,free p.1 p.2 nch e n,ne,nf,d⟩
theorem Inv.un(I:Inv X pins σ H s)(u:Un X.fs [] H H' s.heap h')(hok:HOk X.prog X.w H' h'):Inv X pins σ H' { s with heap:=h',toks:=t' }:=by
 obtain⟨m,⟨o,es,ep,ho,r⟩,_⟩:=id I.loc;obtain⟨sl,hL⟩:=u.any ho I.free ba;exact I.step (g':=s.gens) (d':=s.drawn) (ch:=[]) (λ_ z=>nomatch z) (λb o _ hb _ e n=>u.keep b o e n hb ba) (λb o _ hb _ e n=>u.slot b o e n hb ba) (λb o _ e n=>u.free b o e n ba) (λb o _ e=>u.there b o e ba) u.tups u.frzs u.tbls (λm' hm=>by
  obtain⟨o',es',ep',ho',r'⟩:=hm;rw[ho]at ho';cases ho';exact⟨_,es',ep',hL,r'⟩) hok I.bare
theorem Inv.call{d':Drawn}(I:Inv X pins σ H s)(u:Un (frs X.stack) ch H H' s.heap h')(hok:HOk X.prog X.w H' h')(hg:AllBare g')
  (hch:∀b∈ch,(b∈X.ex\/X.s₀.heap.objs.size<=b)/\b≠X.env.locals/\(∀x c,X.env.cells.lookup x=sO c->c≠b)/\∀p∈X.pn++pins,p.1≠b) :
  Inv X pins σ H' { s with heap:=h',gens:=g',drawn:=d',toks:=t' }:=by
 obtain⟨m,⟨o,es,ep,ho,r⟩,_⟩:=id I.loc;obtain⟨sl,hL⟩:=u.any ho I.free λz=>(hch _ z).2.1 rfl;exact I.step (ch:=ch) hch (λb o hL hb hc e n=>u.keep b o e n (λz=>(uq.mp (I.stkSub b z)).elim hL hb) hc) (λb o _ _ hc e n=>u.any e n hc) (λb o hc e n=>u.free b o e n hc) (λb o hc e=>u.there b o e hc) u.tups u.frzs u.tbls (λm' hm=>by
  obtain⟨o',es',ep',ho',r'⟩:=hm;rw[ho]at ho';cases ho';exact⟨_,es',ep',hL,r'⟩) hok hg
theorem Inv.turned(I:Inv X pins σ H s)(k:∀b o,b≠it->s.heap.get? b=sO o->h'.get? b=sO o)(hn:H it=nO)(hL:it≠X.env.locals)
  (h1:it∈X.ex\/X.s₀.heap.objs.size<=it) (h2:∀x c,X.env.cells.lookup x=sO c->c≠it) (h3:∀p∈X.pn++pins,p.1≠it):Inv X pins σ H { s with heap:=h',toks:=t' }:=by
 have nit:∀b u,H b=sO u->b≠it:=λb u e z=>by rw[z,hn]at e;cases e
 refine I.step (g':=s.gens) (d':=s.drawn) (ch:=[it]) (λb hb=>?_) (λb o _ _ hc e _=>k b o (λz=>hc (by simp[z])) e) (λb o _ _ hc e _=>⟨o.slots,k b o (λz=>hc (by simp[z])) e⟩) (λ_ _ _ _ n=>n)
  (λb o hc e=>⟨o,k b o (λz=>hc (by simp[z])) e⟩) (λ_ _ e=>e) (λ_ _ _ e=>e) (λb ps e=>⟨#[],by rw[e];simp⟩) (λm hm=>?_) (λb u e=>?_) I.bare
 .have e:b=it:=bh
  subst e;exact⟨h1,hL,h2,h3⟩
 .obtain⟨o,es,ep,ho,r⟩:=hm
  exact⟨o,es,ep,k _ o (Ne.symm hL) ho,r⟩
 .refine(I.hok b u e).stay (λc v hc q=>k c v ?_ q) (λ_ q=>q) λ_ _ q=>q
  rcases hc with z|z
  .rw[z];exact nit b u e
  .exact nit c _ z
theorem Inv.tok(I:Inv X pins σ H s)(t:Nat):Inv X pins σ H { s with toks:=t }:=I.un (h':=s.heap) (t':=t) Un.refl I.hok
theorem Inv.kept(I:Inv X pins σ H s)(k:∀b u,s.heap.get? b=sO u->h'.get? b=sO u):Inv X pins σ H { s with heap:=h',toks:=t' }:=I.un (Un.kept k) (I.hok.kept k)
theorem Inv.laid(I:Inv X pins σ H s)(k:∀b u,s.heap.get? b=sO u->h'.get? b=sO u)(hp:s.heap.objs.size<=a)(new:ObjOk X.prog X.w (upd H a o) h' a o):
  Inv X pins σ (upd H a o) { s with heap:=h',toks:=t' }:=I.un (Un.laid k hp (I.hok.fresh hp)) (I.hok.laid k hp new)
theorem Inv.write{x e:aO}(I:Inv X pins σ H s)(mu:Mut (H x))(he:e=x\/H e=sO (.own x))(k:∀b u,b≠e->s.heap.get? b=sO u->h'.get? b=sO u)(heo:∃u,h'.get? e=sO u)
  (new:ObjOk X.prog X.w (upd H x o) h' x o):Inv X pins σ (upd H x o) { s with heap:=h',toks:=t' }:=I.un (Un.write mu he k heo) (I.hok.write mu he k heo new)
theorem Inv.pins_of{pins':List (aO×Obj)}(I:Inv X pins σ H s)(h:∀p∈pins',s.heap.get? p.1=sO p.2/\H p.1=nO/\p.1≠X.env.locals/\p.1∉X.fs/\∀v,p.2.data≠.cell v):Inv X pins' σ H s :=
 ⟨I.ok,I.os,I.bare,I.base,I.loc,I.cell,I.free,I.freeC,λp hp=>(uy.mp hp).elim (λz=>I.pin p (uX _ z)) (h p),I.hok,I.len⟩
theorem ZR(hN:N.Nodup)(a:N[i]?=sO x)(b:N[j]?=sO x):i=j:=by
 obtain⟨h1,e1⟩:=uf.mp a;obtain⟨h2,e2⟩:=uf.mp b;exact(List.getElem_inj hN).mp (e1.trans e2.symm)
theorem jq{M:Model}(I:Inv X pins σ H s)(hN:X.N.Nodup)(hi:X.N[i]?=sO x)(hx:Loc X.env.scope x)(r:RelV v u)
  (h:∀s',Inv X pins (σ.set i (sO v)) H s'->(∃a,Heap.SameBut a s.heap s'.heap/\(a=X.env.locals\/X.env.cells.lookup x=sO a))->Q () s') (hf:%[X.fn x=tU\/X.env.scope.names.lookup x=sO .local|4]):wpAny M A (storeName X.env x u) Q E s:=by
 obtain⟨m,hn,hl⟩:=id I.loc;have hcls:(X.env.scope.kind == .class || (X.env.scope.kind == .module && X.env.locals != X.env.globals))=fO:=by rw[I.ok.kind];rfl
 have hiσ:i < σ.length:=by rw[I.len];exact(uf.mp hi).1
 have cne:=I.cne;have tracked:∀{a:aO}{h':Heap},(∃o,s.heap.get? a=sO o/\H a=nO)->Heap.SameBut a s.heap h'->HOk X.prog X.w H h':=λ{a h'} ha hs b ob e=>by
  obtain⟨_,_,hfree⟩:=ha;refine(I.hok b ob e).stay (λc w' hc q=>(hs.2 c ?_).trans q) (λ_ q=>q) λ_ _ q=>q;rintro rfl;rcases hc with rfl|hc
  .rw[hfree]at e;cases e
  .rw[hfree]at hc;cases hc
 rcases hx with hk|hk
 .refine wpAny_storeName_local hk hn (λh' hn' hs=>?_) hcls
  obtain⟨oL,_,_,hoL,_⟩:=id hn;refine h _ ⟨I.ok,I.os,I.bare,⟨λb o e n hb hx=>?_,λb o e n hb hx=>?_,I.base.free,λb o e hx=>?_,I.base.tups,I.base.frzs,I.base.tbls⟩,⟨_,hn',λj y v' e1 e2 e3=>?_⟩,λy c e=>?_,I.free,I.freeC,λp hp=>?_,tracked ⟨oL,hoL,I.free⟩ hs,by simpa using I.len⟩ ⟨_,hs,.inl rfl⟩
  .exact(hs.2 b (uZ (uJ (uD e) I.ok.above))).trans (I.base.keep b o e n hb hx)
  .obtain⟨sl,e1⟩:=I.base.slot b o e n hb hx
   exact⟨sl,(hs.2 b (uZ (uJ (uD e) I.ok.above))).trans e1⟩
  .obtain⟨o',e1⟩:=I.base.there b o e hx
   exact⟨o',(hs.2 b (uZ (uJ (uD e) I.ok.above))).trans e1⟩
  .by_cases hj:j=i
   .subst hj
    rw[hi]at e1;cases e1;rw[List.getElem?_set_self hiσ]at e2;cases e2;exact⟨u,r,.inl ⟨hk,ba⟩⟩
   .rw[List.getElem?_set_ne (Ne.symm hj)]at e2
    obtain⟨u',r',q⟩:=hl j y v' e1 e2 e3;refine⟨u',r',?_⟩;rcases q with⟨k,e⟩|⟨k,c,e,z⟩
    .refine .inl ⟨k,?_⟩
     have:y≠x:=λe=>hj (ZR hN e1 (e ▸ hi))
     simp[this,e]
    .exact .inr ⟨k,c,e,z.sameBut hs (cne y c e)⟩
  .obtain⟨w',z⟩:=I.cell y c e
   exact⟨w',z.sameBut hs (cne y c e)⟩
  .obtain⟨e,n,ne,nf,d⟩:=I.pin p hp
   exact⟨(hs.2 p.1 ne).trans e,n,ne,nf,d⟩
 .have hfn:X.fn x=tU:=by
   rcases hf with z|z
   .exact z
   .rw[z]at hk;cases hk
  obtain⟨c,hc⟩:=I.ok.has x (.inl hk);obtain⟨w',z⟩:=I.cell x c hc;refine wpAny_storeName_cell I.ok.kind hk hc z (λh' hc' hs=>?_);obtain⟨oc,hoc,hocd⟩:=id z;refine h { s with heap:=h' } ⟨I.ok,I.os,I.bare,⟨λb o e n hb hx=>?_,λb o e n hb hx=>?_,I.base.free,λb o e hx=>?_,I.base.tups,I.base.frzs,I.base.tbls⟩,⟨m,hn.sameBut hs (Ne.symm (cne x c hc)),λj y v' e1 e2 e3=>?_⟩,λy c' e=>?_,I.free,I.freeC,λp hp=>?_,tracked ⟨oc,hoc,I.freeC x c hc⟩ hs,by simpa using I.len⟩ ⟨c,hs,.inr hc⟩
  .exact(hs.2 b (uZ (uJ (uD e) (I.ok.cab x c hfn hc)))).trans (I.base.keep b o e n hb hx)
  .obtain⟨sl,e1⟩:=I.base.slot b o e n hb hx
   exact⟨sl,(hs.2 b (uZ (uJ (uD e) (I.ok.cab x c hfn hc)))).trans e1⟩
  .obtain⟨o',e1⟩:=I.base.there b o e hx
   exact⟨o',(hs.2 b (uZ (uJ (uD e) (I.ok.cab x c hfn hc)))).trans e1⟩
  .by_cases hj:j=i
   .subst hj
    rw[hi]at e1;cases e1;rw[List.getElem?_set_self hiσ]at e2;cases e2;exact⟨u,r,.inr ⟨.inl hk,c,hc,hc'⟩⟩
   .rw[List.getElem?_set_ne (Ne.symm hj)]at e2
    obtain⟨u',r',q⟩:=hl j y v' e1 e2 e3;refine⟨u',r',?_⟩;rcases q with q|⟨k,c',e,z'⟩
    .exact .inl q
    .refine .inr ⟨k,c',e,z'.sameBut hs ?_⟩
     rintro rfl;exact hj (ZR hN e1 (I.ok.inj _ _ _ e hc ▸ hi))
  .by_cases hcc:c'=c
   .subst hcc;exact⟨_,hc'⟩
   .obtain⟨w2,z2⟩:=I.cell y c' e
    exact⟨w2,z2.sameBut hs hcc⟩
  .obtain⟨e,n,ne,nf,d⟩:=I.pin p hp
   refine⟨(hs.2 p.1 ?_).trans e,n,ne,nf,d⟩;intro q;rw[q,hoc]at e;have q':oc=p.2:=u4.inj e;exact d w' (by rw[<- q'];exact hocd)
theorem ZT{M:Model}(I:Inv X pins σ H s)(hN:X.N.Nodup)(hi:X.N[i]?=sO x)(hx:Loc X.env.scope x)(r:RelV v u)
  (h:∀s',Inv X pins (σ.set i (sO v)) H s'->Q () s') (hf:%[X.fn x=tU\/X.env.scope.names.lookup x=sO .local|4]):wpAny M A (storeName X.env x u) Q E s :=
 jq I hN hi hx r (λs' I' _=>h s' I') hf
theorem Inv.call'(I:Inv X pins σ H s)(ho:s'.os=s.os)(u:Un (frs X.stack) ch H H' s.heap s'.heap)(hok:HOk X.prog X.w H' s'.heap)(hg:AllBare s'.gens)
  (hch:∀b∈ch,(b∈X.ex\/X.s₀.heap.objs.size<=b)/\b≠X.env.locals/\(∀x c,X.env.cells.lookup x=sO c->c≠b)/\∀p∈X.pn++pins,p.1≠b):Inv X pins σ H' s':=by
 obtain⟨h',g',d',t',o'⟩:=s';have e:o'=s.os:=ho;subst e;exact I.call (g':=g') (t':=t') (d':=d') u hok hg hch
end
abbrev XK:=aA->Option aO->Hp->Prop
abbrev St:=List (Option V)
variable{σ:St}
abbrev VK:=V->Hp->Prop
abbrev TE:=St->Hp->VK->Prop
variable{ta te:TE}
abbrev TT:=St->Hp->(Bool->Hp->Prop)->Prop
abbrev TA:=St->Hp->(List V->Hp->Prop)->Prop
structure Ends where
 nx:St->Hp->Prop
 rt:VK
 bk:St->Hp->Prop:=λ_ _=>False
 ct:St->Hp->Prop:=λ_ _=>False
variable{D:Ends}
abbrev TS:=Ends->St->Hp->Prop
variable{tb:TS}
def EP(X:Cx)(pins:List (aO×Obj))(σ:St)(Q:VK)(u:aA)(s':Shared):Prop:=∃v H',Inv X pins σ H' s'/\RelV v u/\Q v H'
def TP(X:Cx)(pins:List (aO×Obj))(σ:St)(Q:Bool->Hp->Prop)(b:Bool)(s':Shared):Prop:=∃H',Inv X pins σ H' s'/\Q b H'
def AP(X:Cx)(pins:List (aO×Obj))(σ:St)(Q:List V->Hp->Prop)(us:List aA)(s':Shared):Prop:=∃vs H',Inv X pins σ H' s'/\Vals vs us/\Q vs H'
def SP(X:Cx)(pins:List (aO×Obj))(D:Ends)(f:Flow)(s':Shared):Prop :=
 match f with
 |.next=>∃σ' H',Inv X pins σ' H' s'/\D.nx σ' H'
 |.brk=>∃σ' H',Inv X pins σ' H' s'/\D.bk σ' H'
 |.cont=>∃σ' H',Inv X pins σ' H' s'/\D.ct σ' H'
 |.ret u=>∃v σ' H',Inv X pins σ' H' s'/\RelV v u/\D.rt v H'
def PE(X:Cx)(e:Expr)(t:TE):Prop :=
 ∀(pins:List (aO×Obj))(s:Shared)(σ:St)(H:Hp)(Q:VK),Inv X pins σ H s->t σ H Q->wpAny (model X.prog X.w) X.A (eval e X.env) (EP X pins σ Q) X.xe s
def PT(X:Cx)(e:Expr)(t:TT):Prop :=
 ∀(pins:List (aO×Obj))(s:Shared)(σ:St)(H:Hp)(Q:Bool->Hp->Prop),Inv X pins σ H s->t σ H Q->wpAny (model X.prog X.w) X.A (isTrue e X.env (eval e X.env)) (TP X pins σ Q) X.xe s
def PW(X:Cx)(e:Expr)(t:TT):Prop :=
 ∀(whole:Sem aA)(pins:List (aO×Obj))(s:Shared)(σ:St)(H:Hp)(Q:Bool->Hp->Prop),Inv X pins σ H s->t σ H Q->wpAny (model X.prog X.w) X.A (isTrue e X.env whole) (TP X pins σ Q) X.xe s
theorem PW.pt{t:TT}(h:PW X e t):PT X e t:=h _
def PA(X:Cx)(es:List Expr)(t:TA):Prop :=
 ∀(pos:Pos)(pins:List (aO×Obj))(s:Shared)(σ:St)(H:Hp)(Q:List V->Hp->Prop),Inv X pins σ H s->t σ H Q->wpAny (model X.prog X.w) X.A (spliced (backTo pos (starEach es X.env))) (AP X pins σ Q) X.xe s
def PS(X:Cx)(st:Stmt)(t:TS):Prop :=
 ∀(pins:List (aO×Obj))(s:Shared)(σ:St)(H:Hp)(D:Ends),Inv X pins σ H s->t D σ H->wpAny (model X.prog X.w) X.A (exec st X.env) (SP X pins D) X.xe s
def PSs(X:Cx)(st:List Stmt)(t:TS):Prop :=
 ∀(pins:List (aO×Obj))(s:Shared)(σ:St)(H:Hp)(D:Ends),Inv X pins σ H s->t D σ H->wpAny (model X.prog X.w) X.A (execs st X.env) (SP X pins D) X.xe s
theorem thn{α:Type}{t:Sem α}{Q Q':α->Shared->Prop}{M:Model}(h:wpAny M A t Q E s)(hQ:∀a s,Q a s->Q' a s):wpAny M A t Q' E s:=wpAny_mono h hQ λ_ _ x=>x
section
def tVar(i:Nat):TE:=λσ H Q=>∃v,σ[i]?=sO (sO v)/\Q v H
def tC(v:V):TE:=λ_ H Q=>Q v H
theorem zcg(hN:X.N[i]?=sO x)(hv:Vis X.env.scope x)(hd:%[(x == ("__debug__":Str))=fO|2])(hcd:%[(x == ("__classdict__":Str))=fO|2]):PE X (.Name x pos) (tVar i):=by
 intro pins s σ H Q I h;obtain⟨v,e,h⟩:=h;obtain⟨m,hn,hl⟩:=I.loc;obtain⟨u,r,l⟩:=hl i x v hN e hv;have fin:EP X pins σ Q u s:=⟨v,H,I,r,h⟩;rcases l with⟨hk,hm⟩|⟨hk,c,hc,hcell⟩
 .exact wpAny_Name (wpAny_loadName_local I.ok.kind hk hn hm fin) hd
 .rcases hk with hk|hk
  .exact wpAny_Name (wpAny_loadName_cell I.ok.kind hk hc hcell fin) hd
  .exact wpAny_Name (wpAny_loadName_free I.ok.kind hk hc hcell fin hcd) hd
theorem zch{i j pos}:PE X (.Constant (.int i) j pos) (tC (.int i)):=λ_ _ _ H _ I h=>wpAny_Constant_int ⟨.int i,H,I.tok _,⟨_,rfl⟩,h⟩
theorem zdV{b j pos}:PE X (.Constant (.bool b) j pos) (tC (.bl b)):=λ_ _ _ H _ I h=>Constant_bool ⟨.bl b,H,I,rfl,h⟩
theorem zci{x j pos}:PE X (.Constant (.str x) j pos) (tC (.str x)):=λ_ _ _ H _ I h=>Calls.Constant_str ⟨.str x,H,I.tok _,⟨_,rfl⟩,h⟩
def Gl(X:Cx)(x:Str):Prop:=X.env.kindOf x=sO .globalImplicit
theorem vo{Q:VSP}(I:Inv X pins σ H s)(hg:Gl X x)(hm:X.mg x=sO u)(h:Q u s)
  (hd:%[(x == ("__debug__":Str))=fO|2]):wpAny (model X.prog X.w) X.A (eval (.Name x pos) X.env) Q E s :=
 Calls.Name_function_global I.ok.kind hg (Calls.loadGlobal_global (by rw[I.ok.glob];exact I.mod.glob.keeps I.bk) hm h) hd
theorem xk{Q:VSP}(I:Inv X pins σ H s)(hg:Gl X x)(hm:X.mg x=nO)(hv:bootBuiltins x=sO u)(h:Q u s)
  (hn:%[x≠"__name__"|2]) (hd:%[(x == ("__debug__":Str))=fO|2]):wpAny (model X.prog X.w) X.A (eval (.Name x pos) X.env) Q E s:=by
 obtain⟨mb,h1,h2⟩:=I.mod.blt;exact Calls.Name_function_global I.ok.kind hg (Calls.loadGlobal_builtin (by rw[I.ok.glob];exact I.mod.glob.keeps I.bk) hm (by rw[I.ok.blt];exact h1.keeps I.bk) ((h2 x hn).trans hv) h) hd
theorem QS(hg:Gl X x)(hm:X.mg x=sO u)(r:RelV v u)(hd:%[(x == ("__debug__":Str))=fO|2]):PE X (.Name x pos) (tC v) :=
 λ_ _ _ H _ I h=>vo I hg hm ⟨v,H,I,r,h⟩ hd
theorem QT(hg:Gl X x)(hm:X.mg x=nO)(hv:bootBuiltins x=sO u)(r:RelV v u)(hn:%[x≠"__name__"|2])(hd:%[(x == ("__debug__":Str))=fO|2]):PE X (.Name x pos) (tC v) :=
 λ_ _ _ H _ I h=>xk I hg hm hv ⟨v,H,I,r,h⟩ hn hd
variable{a b:Expr}{tb:TE}
def tB(t:TE):TT:=λσ H Q=>t σ H λx H1=>∃c,x=.bl c/\Q c H1
theorem zcj{t:TE}(h:PE X e t)(he:%[∀whole,isTrue e X.env whole=(do let v <- whole;standAt e.pos;holding [v] (truthy v))|3]):PT X e (tB t):=by
 intro pins s σ H Q I hw;refine isTrue_plain (thn (h pins s σ H _ I hw) λv s1 h_=>?_) (he _);obtain⟨x,H1,I1,r1,q1⟩:=h_;obtain⟨d,rfl,q⟩:=q1;cases r1;exact wpAny_truthy_bool ⟨H1,I1,q⟩
variable{tA tB':TT}{rest:List Expr}
def tAnd(t u:TT):TT:=λσ H Q=>t σ H λc H1=>if c=tU then u σ H1 Q else Q fO H1
def tOr(t u:TT):TT:=λσ H Q=>t σ H λc H1=>if c=tU then Q tU H1 else u σ H1 Q
def tNot(t:TT):TT:=λσ H Q=>t σ H λc H1=>Q (!c) H1
theorem pw_and1(ha:PT X a tA):PW X (.BoolOp .And [a] pos) tA:=by
 intro wh pins s σ H Q I h;refine isTrue_and (thn (ha pins s σ H Q I h) λc s1 e=>?_);cases c with
 |true=>exact isTrue_and_nil e
 |false=>exact e
theorem pw_or1(ha:PT X a tA):PW X (.BoolOp .Or [a] pos) tA:=by
 intro wh pins s σ H Q I h;refine isTrue_or (thn (ha pins s σ H Q I h) λc s1 e=>?_);cases c with
 |false=>exact isTrue_or_nil e
 |true=>exact e
theorem pw_and(ha:PT X a tA)(hb:PW X (.BoolOp .And (b::rest) pos) tB'):PW X (.BoolOp .And (a::b::rest) pos) (tAnd tA tB'):=by
 intro wh pins s σ H Q I h;refine isTrue_and (thn (ha pins s σ H _ I h) λc s1 h_=>?_);obtain⟨H1,I1,q1⟩:=h_;cases c with
 |true=>exact hb wh pins s1 σ H1 Q I1 q1
 |false=>exact⟨H1,I1,q1⟩
theorem pw_or(ha:PT X a tA)(hb:PW X (.BoolOp .Or (b::rest) pos) tB'):PW X (.BoolOp .Or (a::b::rest) pos) (tOr tA tB'):=by
 intro wh pins s σ H Q I h;refine isTrue_or (thn (ha pins s σ H _ I h) λc s1 h_=>?_);obtain⟨H1,I1,q1⟩:=h_;cases c with
 |true=>exact⟨H1,I1,q1⟩
 |false=>exact hb wh pins s1 σ H1 Q I1 q1
theorem zck(ha:PT X a tA):PT X (.UnaryOp .Not a pos) (tNot tA):=by
 intro pins s σ H Q I h;exact isTrue_not (ha pins s σ H (λc H1=>Q (!c) H1) I h)
def VF(ta tb:TE):TE:=λσ H Q=>ta σ H λx H1=>∃c,x=.bl c/\if c=tU then tb σ H1 Q else Q (.bl fO) H1
def tOrV(ta tb:TE):TE:=λσ H Q=>ta σ H λx H1=>∃c,x=.bl c/\if c=tU then Q (.bl tU) H1 else tb σ H1 Q
def zbw(ta:TE):TE:=λσ H Q=>ta σ H λx H1=>∃c,x=.bl c/\Q (.bl (!c)) H1
theorem zcl{op}{t:TE}(h:PE X a t):PE X (.BoolOp op [a] pos) t:=λpins s σ H Q I hw=>BoolOp_one (h pins s σ H Q I hw)
theorem zcm(ha:PE X a ta)(hb:PE X (.BoolOp .And (b::rest) pos) tb):PE X (.BoolOp .And (a::b::rest) pos) (VF ta tb):=by
 intro pins s σ H Q I h;refine BoolOp_and (thn (ha pins s σ H _ I h) λv s1 h_=>?_);obtain⟨x,H1,I1,r1,q1⟩:=h_;obtain⟨c,rfl,q1⟩:=q1;cases r1;refine wpAny_truthy_bool ?_;cases c with
 |true=>exact hb pins s1 σ H1 Q I1 q1
 |false=>exact⟨.bl fO,H1,I1,rfl,q1⟩
theorem zdW(ha:PE X a ta)(hb:PE X (.BoolOp .Or (b::rest) pos) tb):PE X (.BoolOp .Or (a::b::rest) pos) (tOrV ta tb):=by
 intro pins s σ H Q I h;refine BoolOp_or (thn (ha pins s σ H _ I h) λv s1 h_=>?_);obtain⟨x,H1,I1,r1,q1⟩:=h_;obtain⟨c,rfl,q1⟩:=q1;cases r1;refine wpAny_truthy_bool ?_;cases c with
 |false=>exact hb pins s1 σ H1 Q I1 q1
 |true=>exact⟨.bl tU,H1,I1,rfl,q1⟩
theorem zcn(ha:PE X a ta):PE X (.UnaryOp .Not a pos) (zbw ta):=by
 intro pins s σ H Q I h;refine UnaryOp_ (thn (ha pins s σ H _ I h) λv s1 h_=>?_);obtain⟨x,H1,I1,r1,q1⟩:=h_;obtain⟨c,rfl,q1⟩:=q1;cases r1;exact not_of (wpAny_truthy_bool ⟨.bl (!c),H1,I1,rfl,q1⟩)
def tIf(t:TT)(ta tb:TE):TE:=λσ H Q=>t σ H λc H1=>if c=tU then ta σ H1 Q else tb σ H1 Q
theorem VG(hc:PT X c tA)(ha:PE X a ta)(hb:PE X b tb):PE X (.IfExp c a b pos) (tIf tA ta tb):=by
 intro pins s σ H Q I h;refine wpAny_IfExp (thn (hc pins s σ H _ I h) λd s1 h_=>?_);obtain⟨H1,I1,q1⟩:=h_;cases d with
 |true=>exact ha pins s1 σ H1 Q I1 q1
 |false=>exact hb pins s1 σ H1 Q I1 q1
end
def SqL(K:uc)(H:Hp)(a:aO)(xs:List V):Prop :=
 Rd H a (.lst xs) \/
  ∃(o:Obj)(its:Array aA)(n:Nat),K.lookup a=sO o/\o.cls=.type "list"/\o.dict=nO/\o.data=.seq its n/\its.size<=sizeLine/\Vals xs its.toList
def SqT(K:uc)(H:Hp)(a:aO)(xs:List V):Prop :=
 Rd H a (.tup xs) \/
  ∃(o:Obj)(its:Array aA)(n:Nat),K.lookup a=sO o/\o.cls=.type "tuple"/\o.data=.seq its n/\its.size<=sizeLine/\Vals xs its.toList
noncomputable def absV:aA->Option V
 |.none=>sO .non
 |.bool b=>sO (.bl b)
 |.int i _=>sO (.int i)
 |.str x _=>sO (.str x)
 |.bytes b _=>sO (.byt b)
 |.float b _=>sO (.flt b)
 |.ref a=>sO (.ref a)
 |.type n=>sO (.ty n)
 |_=>nO
theorem RelV.abs{x:V}(r:RelV x u):absV u=sO x:=by
 cases x with
 |non=>cases r;rfl
 |bl _=>cases r;rfl
 |int _=>obtain⟨t,rfl⟩:=r;rfl
 |str _=>obtain⟨t,rfl⟩:=r;rfl
 |byt _=>obtain⟨t,rfl⟩:=r;rfl
 |flt _=>obtain⟨t,rfl⟩:=r;rfl
 |ref _=>cases r;rfl
 |ty _=>cases r;rfl
theorem RelV.inj{x y:V}(r:RelV x u)(q:RelV y u):x=y:=u4.inj (r.abs.symm.trans q.abs)
theorem Vals.inj{ys:List V}{us:List aA}(h:Vals xs us)(g:Vals ys us):xs=ys:=by
 induction h generalizing ys with
 |nil=>cases g;rfl
 |cons r _ i=>cases g with
  |cons q t=>rw[r.inj q,i t]
section
variable{ys:List V}
theorem SqL.of{K:uc}(h:H a=sO (.lst xs)):SqL K H a xs:=.inl (.inl h)
theorem SqT.of{K:uc}(h:H a=sO (.tup xs)):SqT K H a xs:=.inl (.inl h)
theorem Inv.list(I:Inv X pins σ H s)(h:SqL X.K H a xs):∃its:List aA,Vals xs its/\PlainL s.heap a its.toArray/\xs.length<=sizeLine:=by
 rcases h with h|⟨o,its,n,hk,hc,hd,hs,hz,r⟩
 .obtain⟨z,its,n,r,e⟩:=h.ok I.hok
  exact⟨its,r,⟨_,n,e,rfl,rfl,rfl⟩,z⟩
 .refine⟨its.toList,r,⟨o,n,I.kIn a o hk,hc,hd,by simpa using hs⟩,?_⟩
  have e:=r.length;simp only[Array.length_toList]at e
  lia
theorem Inv.tuple(I:Inv X pins σ H s)(h:SqT X.K H a xs):∃its:List aA,Vals xs its/\IsTup s.heap a its.toArray/\xs.length<=sizeLine:=by
 rcases h with h|⟨o,its,n,hk,hc,hs,hz,r⟩
 .obtain⟨z,its,r,p⟩:=h.ok I.hok
  exact⟨its,r,p.is,z⟩
 .refine⟨its.toList,r,⟨o,I.kIn a o hk,hc,n,by simpa using hs⟩,?_⟩
  have e:=r.length;simp only[Array.length_toList]at e
  lia
theorem Inv.list_inj(I:Inv X pins σ H s)(h:SqL X.K H a xs)(h':SqL X.K H a ys):xs=ys:=by
 obtain⟨its,r,⟨o,n,e,_,_,d⟩,_⟩:=I.list h;obtain⟨its',r',⟨o',n',e',_,_,d'⟩,_⟩:=I.list h';rw[e]at e';cases e';rw[d]at d';injection d' with d1 _
 have:its=its':=by simpa using congrArg Array.toList d1
 subst this;exact r.inj r'
theorem Inv.tuple_inj(I:Inv X pins σ H s)(h:SqT X.K H a xs)(h':SqT X.K H a ys):xs=ys:=by
 obtain⟨its,r,⟨o,e,_,n,d⟩,_⟩:=I.tuple h;obtain⟨its',r',⟨o',e',_,n',d'⟩,_⟩:=I.tuple h';rw[e]at e';cases e';rw[d]at d';injection d' with d1 _
 have:its=its':=by simpa using congrArg Array.toList d1
 subst this;exact r.inj r'
end
abbrev Cx.wish(X:Cx)(E:VSP):Cx:={ X with xe:=E }
abbrev Cx.nox(X:Cx):Cx:=X.wish λ_ _=>False
theorem Cx.Ok.wish(ok:X.Ok)(E:VSP):(X.wish E).Ok :=
 ⟨ok.mod,ok.kind,ok.glob,ok.blt,ok.above,ok.inj,ok.has,ok.cab,ok.hd,ok.frames,ok.stk,ok.exf,ok.bs,ok.bsz,ok.noex,ok.exfs,ok.funs,ok.frf⟩
theorem Cx.Ok.unwish(ok:(X.wish E).Ok):X.Ok :=
 ⟨ok.mod,ok.kind,ok.glob,ok.blt,ok.above,ok.inj,ok.has,ok.cab,ok.hd,ok.frames,ok.stk,ok.exf,ok.bs,ok.bsz,ok.noex,ok.exfs,ok.funs,ok.frf⟩
theorem Inv.wish(I:Inv X pins σ H s)(E:VSP):Inv (X.wish E) pins σ H s:=⟨I.ok.wish E,I.os,I.bare,I.base,I.loc,I.cell,I.free,I.freeC,I.pin,I.hok,I.len⟩
theorem Inv.unwish(I:Inv (X.wish E) pins σ H s):Inv X pins σ H s:=⟨I.ok.unwish,I.os,I.bare,I.base,I.loc,I.cell,I.free,I.freeC,I.pin,I.hok,I.len⟩
theorem SP.unwish{f:Flow}(h:SP (X.wish E) pins D f s'):SP X pins D f s':=by
 cases f with
 |next=>obtain⟨σ',H',I,q⟩:=h;exact⟨σ',H',I.unwish,q⟩
 |brk=>obtain⟨σ',H',I,q⟩:=h;exact⟨σ',H',I.unwish,q⟩
 |cont=>obtain⟨σ',H',I,q⟩:=h;exact⟨σ',H',I.unwish,q⟩
 |ret u=>obtain⟨v,σ',H',I,r,q⟩:=h;exact⟨v,σ',H',I.unwish,r,q⟩
theorem PSs.nox{st:List Stmt}{t:TS}(h:PSs X.nox st t):PSs X st t:=λpins s σ H D I hw =>
 wpAny_mono (h pins s σ H D (I.wish _) hw) (λ_ _ q=>q.unwish) λ_ _ z=>False.elim z
section
variable{rest:List Stmt}{t u:TS}
def jr:TS:=λD σ H=>D.nx σ H
def tSeq(t u:TS):TS:=λD σ H=>t { D with nx:=u D } σ H
theorem QU:PSs X [] jr:=λ_ _ σ H _ I h=>wpAny_execs_nil ⟨σ,H,I,h⟩
theorem VH(h1:PS X st t)(h2:PSs X rest u):PSs X (st::rest) (tSeq t u):=by
 intro pins s σ H D I h;refine wpAny_execs_cons (thn (h1 pins s σ H { D with nx:=u D } I h) λf s1 q=>?_);cases f with
 |next =>
  obtain⟨σ',H',I',q⟩:=q;exact h2 pins s1 σ' H' D I' q
 |ret v=>exact q
 |brk=>exact q
 |cont=>exact q
theorem QV(h1:PS X st t):PSs X [st] t:=by
 intro pins s σ H D I h;refine wpAny_execs_cons (thn (h1 pins s σ H D I h) λf s1 q=>?_);cases f with
 |next=>exact wpAny_execs_nil q
 |ret v=>exact q
 |brk=>exact q
 |cont=>exact q
theorem Inv.quiet(I:Inv X pins σ H s):interactive X.env=fO:=by simp[interactive,I.ok.kind]
def VI(te:TE):TS:=λD σ H=>te σ H λ_ H1=>D.nx σ H1
theorem QW(he:PE X e te)(hs:%[swapsWith e nO pos.line X.env=pure fO|1]):PS X (.Expr e pos) (VI te):=by
 intro pins s σ H D I h;refine wpAny_Expr_any (thn (he pins s σ H _ I h) λv s1 h_=>?_) I.quiet hs;obtain⟨x,H1,I1,r1,q1⟩:=h_;exact⟨σ,H1,I1,q1⟩
def tRet(te:TE):TS:=λD σ H=>te σ H D.rt
theorem zco(he:PE X e te):PS X (.Return (sO e) pos) (tRet te):=by
 intro pins s σ H D I h;refine wpAny_Return_some (thn (he pins s σ H _ I h) λv s1 h_=>?_);obtain⟨x,H1,I1,r1,q1⟩:=h_;exact⟨x,σ,H1,I1,r1,q1⟩
def tIfS(c:TT)(t u:TS):TS:=λD σ H=>c σ H λb H1=>if b=tU then t D σ H1 else u D σ H1
theorem zdX{a b:List Stmt}{tc:TT}(hc:PT X c tc)(ha:PSs X a t)(hb:PSs X b u):PS X (.If c a b pos) (tIfS tc t u):=by
 intro pins s σ H D I h;refine wpAny_If (thn (hc pins s σ H _ I h) λd s1 h_=>?_);obtain⟨H1,I1,q1⟩:=h_;cases d with
 |true=>exact ha pins s1 σ H1 D I1 q1
 |false=>exact hb pins s1 σ H1 D I1 q1
end
abbrev TG:=V->St->Hp->(St->Hp->Prop)->Prop
abbrev TGs:=List V->St->Hp->(St->Hp->Prop)->Prop
def PG(X:Cx)(target:Expr)(t:TG):Prop :=
 ∀(pins:List (aO×Obj))(s:Shared)(σ:St)(H:Hp)(v:V)(u:aA)(Q:St->Hp->Prop),Inv X pins σ H s->RelV v u->t v σ H Q ->
  wpAny (model X.prog X.w) X.A (assign target X.env u) (λ_ s'=>∃σ' H',Inv X pins σ' H' s'/\Q σ' H') X.xe s
def PGs(X:Cx)(ts:List Expr)(t:TGs):Prop :=
 ∀(pins:List (aO×Obj))(s:Shared)(σ:St)(H:Hp)(vs:List V)(us:List aA)(Q:St->Hp->Prop),Inv X pins σ H s->Vals vs us->t vs σ H Q ->
  wpAny (model X.prog X.w) X.A (assignInOrder ((assignEach ts X.env).map (·.2)) us) (λ_ s'=>∃σ' H',Inv X pins σ' H' s'/\Q σ' H') X.xe s
abbrev TSet:=V->V->V->Hp->(Hp->Prop)->Prop
def PSet(X:Cx)(t:TSet):Prop :=
 ∀(pins:List (aO×Obj))(s:Shared)(σ:St)(H:Hp)(o i v:V)(ov iv u:aA)(Q:Hp->Prop),Inv X pins σ H s->RelV o ov->RelV i iv->RelV v u->t o i v H Q ->
  wpAny (model X.prog X.w) X.A (setItem ov iv u) (λ_ s'=>∃H',Inv X pins σ H' s'/\Q H') X.xe s
def wz(i:Nat):TG:=λv σ H Q=>Q (σ.set i (sO v)) H
theorem QX(hN:X.N.Nodup)(hi:X.N[i]?=sO x)(hx:Loc X.env.scope x)(hf:%[X.fn x=tU\/X.env.scope.names.lookup x=sO .local|4]):PG X (.Name x pos) (wz i):=by
 intro pins s σ H v u Q I r h;exact wpAny_assign_Name (ZT I hN hi hx r (λs' I'=>⟨_,H,I',h⟩) hf)
def gNil:TGs:=λvs σ H Q=>vs=[]/\Q σ H
def zbx(t:TG)(u:TGs):TGs:=λvs σ H Q=>∃v r,vs=v::r/\t v σ H λσ' H'=>u r σ' H' Q
theorem QY:PGs X [] gNil:=by
 intro pins s σ H vs us Q I r h;obtain⟨e,h⟩:=h;subst e;cases r;exact assignInOrder_nil ⟨σ,H,I,h⟩
theorem VJ{t:TG}{u:TGs}(h1:PG X e t)(h2:PGs X es u)
  (hs:%[(assignEach (e::es) X.env).map (·.2)=assign e X.env::(assignEach es X.env).map (·.2)|1]):PGs X (e::es) (zbx t u):=by
 intro pins s σ H vs us Q I r h;obtain⟨v,vr,e1,h⟩:=h;subst e1;cases r with
 |cons r rr =>
  rw[hs];refine assignInOrder_cons (thn (h1 pins s σ H _ _ _ I r h) λ_ s1 h_=>?_);obtain⟨σ1,H1,I1,q1⟩:=h_;exact h2 pins s1 σ1 H1 _ _ Q I1 rr q1
def gTup(K:uc)(n:Nat)(t:TGs):TG:=λv σ H Q=>∃a xs,v=.ref a/\SqT K H a xs/\xs.length=n/\t xs σ H Q
theorem zcp{k:Nat}{t:TGs}(hc:X.calm=tU)(h:PGs X es t)
  (hn:%[(assignEach es X.env).length=n|1]) (hst:%[(assignEach es X.env).findIdx? (·.1)=nO|1]):PG X (.Tuple es k pos) (gTup X.K n t):=by
 intro pins s σ H v u Q I r hw;obtain⟨a,xs,e1,hq,hl,hw⟩:=hw;subst e1;cases r;obtain⟨its,rv,ht,hz⟩:=I.tuple hq;refine assign_Tuple_tuple (I.ok.hd hc) ht (by simp[hn,<- hl,rv.length]) hst λh' hx=>?_;have I1:Inv X pins σ H { s with heap:=h' }:=I.kept (t':=s.toks) λb o e=>hx b o (uZ (uD e)) e;exact h pins _ σ H xs _ Q I1 (by simpa using rv) hw
def gSub(to ti:TE)(t:TSet):TG:=λv σ H Q=>to σ H λo H1=>ti σ H1 λi H2=>t o i v H2 λH3=>Q σ H3
theorem zcq{o i:Expr}{to ti:TE}{t:TSet}(ho:PE X o to)(hi:PE X i ti)(hs:PSet X t)
  (ha:%[∀v,assign (.Subscript o i pos) X.env v=(do
   let ov <- holding [v] (eval o X.env)
   let iv <- holding [v,ov] (eval i X.env)
   standAt pos
   holding [v,ov,iv] (setItem ov iv v)
   release [v,ov,iv] [])|3]):PG X (.Subscript o i pos) (gSub to ti t):=by
 intro pins s σ H v u Q I r h;rw[ha];refine bA (wpAny_holding (thn (ho pins s σ H _ I h) λov s1 h_=>?_));obtain⟨x,H1,I1,r1,q1⟩:=h_;refine bA (wpAny_holding (thn (hi pins s1 σ H1 _ I1 q1) λiv s2 h_=>?_));obtain⟨y,H2,I2,r2,q2⟩:=h_;refine bA (wpAny_standAt (bA (wpAny_holding (thn (hs pins s2 σ H2 x y v ov iv u _ I2 r1 r2 r q2) λ_ s3 h_=>?_))));obtain⟨H3,I3,q3⟩:=h_;exact wpAny_release ⟨σ,H3,I3,q3⟩
def tAsg(te:TE)(g:TG):TS:=λD σ H=>te σ H λx H1=>g x σ H1 D.nx
theorem zcr{g:TG}(he:PE X e te)(hg:PG X tg g)(hs:%[swapsWithSole [tg] e pos.line X.env=pure fO|1])(hw:%[swappedStores [tg] e X.env=pure nO|1])
  (h1:%[(assignEach [tg] X.env).map (·.2)=[assign tg X.env]|1]):PS X (.Assign [tg] e pos) (tAsg te g):=by
 intro pins s σ H D I h;refine wpAny_Assign_stores (thn (he pins s σ H _ I h) λv s1 h_=>?_) hs hw;obtain⟨x,H1,I1,r1,q1⟩:=h_;rw[h1];exact thn (hg pins s1 σ H1 x v _ I1 r1 q1) λ_ s2 q=>q
theorem zcs(hN:X.N.Nodup)(hi:X.N[i]?=sO x)(hx:Loc X.env.scope x)(he:PE X e te)(hs:%[swapsWith e (sO (.Name x pos')) pos.line X.env=pure fO|1])(hf:%[X.fn x=tU\/X.env.scope.names.lookup x=sO .local|4]):
  PS X (.Assign [.Name x pos'] e pos) (tAsg te (wz i)):=by
 intro pins s σ H D I h;refine wpAny_Assign_Name (thn (he pins s σ H _ I h) λv s1 h_=>?_) hs;obtain⟨y,H1,I1,r1,q1⟩:=h_;exact ZT I1 hN hi hx r1 (λs2 I2=>⟨_,H1,I2,q1⟩) hf
def VL(c:TT)(tb:TS):TS:=λD σ H=>∃W:Nat->St->Hp->Prop,(∃m,W m σ H)/\∀m σ H,W m σ H ->
 c σ H λb H1=>if b=tU then ∃N:St->Hp->Prop,(∀σ' H',N σ' H'->∃m',m' < m/\W m' σ' H')/\tb { D with nx:=N,ct:=N,bk:=D.nx } σ H1 else D.nx σ H1
theorem VM{tc:TT}(hp:PassesOwn (model X.prog X.w) X.A X.env X.xe)(hc:PT X c tc)(hb:PSs X body tb):PS X (.While c body [] pos) (VL tc tb):=by
 intro pins s σ H D I h;obtain⟨W,⟨m0,w0⟩,turn⟩:=h;refine wpAny_While (codeAny_whileLoop (λn s'=>∃σ' H',Inv X pins σ' H' s'/\W n σ' H') ?_ m0 ⟨σ,H,I,w0⟩);rintro n s1 ⟨σ1,H1,I1,w1⟩;refine wpAny_passesOwn hp (thn (hc pins s1 σ1 H1 _ I1 (turn n σ1 H1 w1)) λb s2 h_=>?_);obtain⟨H2,I2,q2⟩:=h_;cases b with
 |true =>
  obtain⟨N,hN,q2⟩:=q2;rw[iP rfl];refine wpAny_passesOwn hp (thn (hb pins s2 σ1 H2 _ I2 q2) λf s3 q3=>?_);cases f with
  |next =>
   obtain⟨σ3,H3,I3,n3⟩:=q3;obtain⟨m',hm,w3⟩:=hN σ3 H3 n3;exact⟨m',hm,σ3,H3,I3,w3⟩
  |cont =>
   obtain⟨σ3,H3,I3,n3⟩:=q3;obtain⟨m',hm,w3⟩:=hN σ3 H3 n3;exact⟨m',hm,σ3,H3,I3,w3⟩
  |brk=>exact q3
  |ret v=>exact q3
 |false =>
  rw[iN uC];exact wpAny_execs_nil ⟨σ1,H2,I2,q2⟩
structure It where
 go:Nat->Hp->Prop
 yld:Nat->Hp->V->Hp->Prop
 stop:Nat->Hp->Prop
def FpOk(X:Cx)(pins:List (aO×Obj))(H:Hp)(b:aO):Prop :=
 H b=nO/\b≠X.env.locals/\b∉X.fs/\(b∈X.ex\/X.s₀.heap.objs.size<=b)/\(∀x c,X.env.cells.lookup x=sO c->c≠b)/\∀p∈X.pn++pins,p.1≠b
theorem Inv.fpOk(I:Inv X pins σ H s)(hb:s.heap.objs.size<=b)(hn:H' b=nO):FpOk X pins H' b:=by
 refine⟨hn,Nat.ne_of_gt (uJ I.lt hb),I.nofs hb,.inr (uF I.sz hb),λx c e z=>?_,λp hp z=>?_⟩
 .obtain⟨v,q⟩:=I.cell x c e
  exact absurd (uJ q.lt (by rw[z];exact hb)) (Uu _)
 .exact absurd (uJ (uD (I.pin p hp).1) (by rw[z];exact hb)) (Uu _)
structure Turn(P:Program)(w:World)(K:uc)(tg:Expr)(J:It)(fp:List aO)(it:aO)(tn:Nat->Heap->Prop):Prop where
 mem:it∈fp
 obj:∀i h,tn i h->∀b∈fp,∃o,h.get? b=sO o/\∀v,o.data≠.cell v
 keep:∀i h h',tn i h->(∀b∈fp,∀o,h.get? b=sO o->h'.get? b=sO o)->tn i h'
 item:∀(X:Cx),X.prog=P->X.w=w->X.K=K->X.calm=tU->∀(i:Nat)(pins:List (aO×Obj))(s:Shared)(σ:St)(H:Hp)(E:VSP),Inv X pins σ H s->(∀b∈fp,FpOk X pins H b)->tn i s.heap->J.go i H ->
  wpAny (model P w) X.A (pyNext (.ref it)) (λr s1=>∃u,r=sO u /\
   wpAny (model P w) X.A (letOwnedTupleGo tg (.ref it) u) (λ_ s2=>∃x H',Inv X pins σ H' s2/\RelV x u/\J.yld i H x H'/\tn (i+1) s2.heap/\∀b∈fp,H' b=nO) E s1) E s
 done:∀(X:Cx),X.prog=P->X.w=w->X.K=K->X.calm=tU->∀(i:Nat)(pins:List (aO×Obj))(s:Shared)(σ:St)(H:Hp)(E:VSP),Inv X pins σ H s->(∀b∈fp,FpOk X pins H b)->tn i s.heap->J.stop i H ->
  wpAny (model P w) X.A (pyNext (.ref it)) (λr s1=>r=nO/\Inv X pins σ H s1) E s
 self:∀(A:Around)(i:Nat)(s:Shared)(Q:VSP)(E:VSP),tn i s.heap->Q (.ref it) s->wpAny (model P w) A (pyIter (.ref it)) Q E s
abbrev TI:=St->Hp->(It->Hp->Prop)->Prop
def PIE(X:Cx)(pins:List (aO×Obj))(σ:St)(tg:Expr)(R:It->Hp->Prop)(itv:aA)(s2:Shared):Prop :=
 ∃(it:aO)(fp:List aO)(tn:Nat->Heap->Prop)(J:It)(H':Hp),itv=.ref it/\Inv X pins σ H' s2/\Turn X.prog X.w X.K tg J fp it tn/\tn 0 s2.heap/\(∀b∈fp,FpOk X pins H' b)/\R J H'
def PI(X:Cx)(tg iter:Expr)(wi:TI):Prop :=
 ∀(pins:List (aO×Obj))(s:Shared)(σ:St)(H:Hp)(R:It->Hp->Prop),Inv X pins σ H s->wi σ H R ->
  wpAny (model X.prog X.w) X.A (eval iter X.env) (λv s1=>wpAny (model X.prog X.w) X.A (pyIter v) (PIE X pins σ tg R) X.xe s1) X.xe s
theorem ZU{M:Model}{o:Obj}{n:String}{vs:Array aA}(ho:s.heap.get? it=sO o)(hc:o.cls=.type n)(hd:o.data=.fields vs)
  (hn:["enumerate","zip","dict_itemiterator","dict_reverseitemiterator","odict_iterator","itertools.zip_longest","itertools.pairwise"].contains n=fO) (hQ:Q () s):wpAny M A (letOwnedTupleGo tg (.ref it) u) Q E s:=by
 unfold letOwnedTupleGo;cases tg<;>first
  |exact pO hQ
  | (cases u<;>first
    |exact pO hQ
    | (refine bA (wpAny_load ho ?_)
       rw[hc,hd];show wpAny M A (if(["enumerate","zip","dict_itemiterator","dict_reverseitemiterator","odict_iterator","itertools.zip_longest","itertools.pairwise"].contains n && vs[0]? == sO (rawInt _))=tU then _ else _) Q E s;rw[iN (by intro h;rw[hn,Bool.false_and]at h;cases h)];exact pO hQ))
def Itl(K:uc)(a:aO):It :=
 ⟨λi H=>∃xs x,SqL K H a xs/\xs[i]?=sO x,λi H x H'=>H'=H/\∀xs,SqL K H a xs->xs[i]?=sO x,λi H=>∃xs,SqL K H a xs/\xs.length<=i⟩
def Itt(K:uc)(a:aO):It :=
 ⟨λi H=>∃xs x,SqT K H a xs/\xs[i]?=sO x,λi H x H'=>H'=H/\∀xs,SqT K H a xs->xs[i]?=sO x,λi H=>∃xs,SqT K H a xs/\xs.length<=i⟩
def Itr(lo:Int)(n:Nat):It:=⟨λi _=>i < n,λi H x H'=>H'=H/\x=.int (lo+i),λi _=>n<=i⟩
theorem WM{K:uc}(a it:aO):Turn P w K tg (Itl K a) [it] it (λi h=>h.IsListIter it a i) where
 mem:=ba
 obj:=λi h st b hb=>by
  have e:b=it:=bh
  subst e;obtain⟨o,e,c,d⟩:=st;exact⟨o,e,λv z=>by rw[d]at z;cases z⟩
 keep:=λi h h' st k=>st.at λo e=>k it ba o e
 item:=by
  intro X hP hw hK hc i pins s σ H E I hf st hg;subst hP hw hK;obtain⟨xs,x,hq,hx⟩:=hg;obtain⟨its,rv,p,hz⟩:=I.list hq;obtain⟨u,hu,ru⟩:=rv.get hx;obtain⟨f0,f1,f2,f3,f4,f5⟩:=hf it ba;refine wpAny_pyNext_list_item st p.isList (x:=u) (by simpa using hu) λh' st' sb=>?_;have I1:Inv X pins σ H { s with heap:=h' }:=I.turned (t':=s.toks) (λb o hb e=>(sb.2 b hb).trans e) f0 f1 f3 f4 f5;obtain⟨o,e,c,d⟩:=id st';exact⟨u,rfl,ZU (s:={ s with heap:=h' }) e c d b9 ⟨x,H,I1,ru,⟨rfl,λys hy=>by rw[I.list_inj hy hq];exact hx⟩,st',λb hb=>(hf b hb).1⟩⟩
 done:=by
  intro X hP hw hK hc i pins s σ H E I hf st hg;subst hP hw hK;obtain⟨xs,hq,hx⟩:=hg;obtain⟨its,rv,p,hz⟩:=I.list hq;obtain⟨f0,f1,f2,f3,f4,f5⟩:=hf it ba;have hl:=rv.length;exact wpAny_pyNext_list_end (I.ok.hd hc) st p.isList (by simp;lia) λh' eb=>⟨rfl,I.turned (t':=s.toks) (λb o hb e=>eb b o hb e) f0 f1 f3 f4 f5⟩
 self:=λ_ _ _ _ _ st h=>wpAny_pyIter_listiter st h
theorem YY{K:uc}(a it:aO):Turn P w K tg (Itt K a) [it] it (λi h=>h.IsTupleIter it a i) where
 mem:=ba
 obj:=λi h st b hb=>by
  have e:b=it:=bh
  subst e;obtain⟨o,e,c,d⟩:=st;exact⟨o,e,λv z=>by rw[d]at z;cases z⟩
 keep:=λi h h' st k=>st.at λo e=>k it ba o e
 item:=by
  intro X hP hw hK hc i pins s σ H E I hf st hg;subst hP hw hK;obtain⟨xs,x,hq,hx⟩:=hg;obtain⟨its,rv,p,hz⟩:=I.tuple hq;obtain⟨u,hu,ru⟩:=rv.get hx;obtain⟨f0,f1,f2,f3,f4,f5⟩:=hf it ba;refine wpAny_pyNext_tuple_item st (show s.heap.IsTuple a its.toArray from p) (x:=u) (by simpa using hu) λh' st' sb=>?_;have I1:Inv X pins σ H { s with heap:=h' }:=I.turned (t':=s.toks) (λb o hb e=>(sb.2 b hb).trans e) f0 f1 f3 f4 f5;obtain⟨o,e,c,d⟩:=id st';exact⟨u,rfl,ZU (s:={ s with heap:=h' }) e c d b9 ⟨x,H,I1,ru,⟨rfl,λys hy=>by rw[I.tuple_inj hy hq];exact hx⟩,st',λb hb=>(hf b hb).1⟩⟩
 done:=by
  intro X hP hw hK hc i pins s σ H E I hf st hg;subst hP hw hK;obtain⟨xs,hq,hx⟩:=hg;obtain⟨its,rv,p,hz⟩:=I.tuple hq;obtain⟨f0,f1,f2,f3,f4,f5⟩:=hf it ba;have hl:=rv.length;exact wpAny_pyNext_tuple_end (I.ok.hd hc) st (show s.heap.IsTuple a its.toArray from p) (by simp;lia) λh' eb=>⟨rfl,I.turned (t':=s.toks) (λb o hb e=>eb b o hb e) f0 f1 f3 f4 f5⟩
 self:=λ_ _ _ _ _ st h=>wpAny_pyIter_tupleiter st h
theorem YZ{K:uc}(it:aO)(lo:Int)(n:Nat):Turn P w K tg (Itr lo n) [it] it (λi h=>IsRangeIter h it (lo+(i:Nat)*1) ((n:Int)-(i:Nat)) 1) where
 mem:=ba
 obj:=λi h st b hb=>by
  have e:b=it:=bh
  subst e;exact⟨_,st,λv z=>by
   have z':Data.fields _=Data.cell v:=z;cases z'⟩
 keep:=λi h h' st k=>k it ba _ st
 item:=by
  intro X hP hw hK hc i pins s σ H E I hf st hg;subst hP hw hK;obtain⟨f0,f1,f2,f3,f4,f5⟩:=hf it ba;have W:=Walks.range (prog:=X.prog) (w:=X.w) (I.ok.hd hc) it lo 1 n;refine W.item i s _ _ hg st λv h' tk hv st' kk=>?_;obtain⟨t,rfl⟩:=hv;have I1:Inv X pins σ H { s with heap:=h',toks:=tk }:=I.turned (λb o hb e=>kk b o bh e) f0 f1 f3 f4 f5;refine⟨_,rfl,ZU (s:={ s with heap:=h',toks:=tk }) (n:="range_iterator") st' rfl rfl b9 ⟨.int (lo+i),H,I1,⟨t,?_⟩,⟨rfl,rfl⟩,st',λb hb=>(hf b hb).1⟩⟩;rw[Int.mul_one]
 done:=by
  intro X hP hw hK hc i pins s σ H E I hf st hg;subst hP hw hK;obtain⟨f0,f1,f2,f3,f4,f5⟩:=hf it ba;exact wpAny_pyNext_range_end (I.ok.hd hc) st (by have:n<=i:=hg;lia) λh' eb=>⟨rfl,I.turned (t':=s.toks) (λb o hb e=>eb b o hb e) f0 f1 f3 f4 f5⟩
 self:=λ_ _ _ _ _ st h=>wpAny_pyIter_rangeiter st h
def VN(K:uc)(tl:TE):TI:=λσ H R=>tl σ H λx H1=>∃a,x=.ref a/\(∃xs,SqL K H1 a xs)/\R (Itl K a) H1
def iTup(K:uc)(tl:TE):TI:=λσ H R=>tl σ H λx H1=>∃a,x=.ref a/\(∃xs,SqT K H1 a xs)/\R (Itt K a) H1
theorem QZ{l:Expr}{tl:TE}(hl:PE X l tl):PI X tg l (VN X.K tl):=by
 intro pins s σ H R I h;refine thn (hl pins s σ H _ I h) λv s1 h_=>?_;obtain⟨x,H1,I1,r1,q1⟩:=h_;obtain⟨a,e,⟨xs,hq⟩,q⟩:=q1;subst e;cases r1;obtain⟨its,rv,p,hz⟩:=I1.list hq;refine wpAny_pyIter_list p.isList ?_;refine⟨s1.heap.objs.size,[s1.heap.objs.size],_,_,H1,rfl,I1.kept (t':=s1.toks) λb o e=>ue _ e,WM a _,⟨_,ux _ rfl,rfl,rfl⟩,λb hb=>?_,q⟩;have e:b=s1.heap.objs.size:=bh
 subst e;exact I1.fpOk (uk _) (I1.hok.fresh (uk _))
theorem zct{l:Expr}{tl:TE}(hl:PE X l tl):PI X tg l (iTup X.K tl):=by
 intro pins s σ H R I h;refine thn (hl pins s σ H _ I h) λv s1 h_=>?_;obtain⟨x,H1,I1,r1,q1⟩:=h_;obtain⟨a,e,⟨xs,hq⟩,q⟩:=q1;subst e;cases r1;obtain⟨its,rv,p,hz⟩:=I1.tuple hq;refine wpAny_pyIter_tuple (show s1.heap.IsTuple a its.toArray from p) ?_;refine⟨s1.heap.objs.size,[s1.heap.objs.size],_,_,H1,rfl,I1.kept (t':=s1.toks) λb o e=>ue _ e,YY a _,⟨_,ux _ rfl,rfl,rfl⟩,λb hb=>?_,q⟩;have e:b=s1.heap.objs.size:=bh
 subst e;exact I1.fpOk (uk _) (I1.hok.fresh (uk _))
theorem VO{R:It->Hp->Prop}{lo hi:Int}{t u v:Tok}{tk:Nat}(I:Inv X pins σ H s)(h1:-(2 ^ 62)<=lo)(h2:lo < 2 ^ 62)(h3:-(2 ^ 62)<=hi)(h4:hi < 2 ^ 62)
  (q:R (Itr lo (hi-lo).toNat) H):wpAny (model X.prog X.w) X.A (pyIter (.ref s.heap.objs.size)) (PIE X pins σ tg R) E { s with heap:=s.heap.push { cls:=.type "range",data:=.fields #[.int lo t,.int hi u,.int 1 v] },toks:=tk }:=by
 refine wpAny_pyIter_range (IsRange.new ..) (small_one h1 h2 h3 h4) ?_;have I1:Inv X pins σ H { s with heap:=s.heap.push { cls:=.type "range",data:=.fields #[.int lo t,.int hi u,.int 1 v] },toks:=tk }:=I.kept λb o e=>ue _ e;refine⟨(s.heap.push { cls:=.type "range",data:=.fields #[.int lo t,.int hi u,.int 1 v] }).objs.size,[(s.heap.push { cls:=.type "range",data:=.fields #[.int lo t,.int hi u,.int 1 v] }).objs.size],_,_,H,rfl,
  I1.kept (t':=tk) λb o e=>ue _ e,YZ _ lo (hi-lo).toNat,?_,λb hb=>?_,q⟩
 .have e1:lo+((0:Nat):Int)*1=lo:=ba
  have e2:(((hi-lo).toNat:Nat):Int)-((0:Nat):Int)=Builtin.Range.rangeSize lo hi 1:=by rw[rangeSize_one];split<;>lia
  show IsRangeIter _ _ (lo+((0:Nat):Int)*1) ((((hi-lo).toNat:Nat):Int)-((0:Nat):Int)) 1;rw[e1,e2];exact ux _ rfl
 .have e:b=(s.heap.push { cls:=.type "range",data:=.fields #[.int lo t,.int hi u,.int 1 v] }).objs.size:=bh
  subst e;exact I1.fpOk (uk _) (I1.hok.fresh (uk _))
def zby(ta:TA):TI:=λσ H R=>ta σ H λvs H1=>∃j:Int,vs=[.int j]/\-(2 ^ 62)<=j/\j < 2 ^ 62/\R (Itr 0 j.toNat) H1
theorem WN{a:Expr}{ta:TA}(hg:Gl X "range")(hm:X.mg "range"=nO)(ha:PA X [a] ta)(hs:%[starEach [a] X.env=[(fO,eval a X.env)]|1]):PI X tg (.Call (.Name "range" p) [a] [] pos) (zby ta):=by
 intro pins s σ H R I h;refine Call_ (xk I hg hm boot_range (Ua (thn (ha pos pins s σ H _ I h) λus s1 h_=>?_) hs rfl));obtain⟨vs,H1,I1,r1,q1⟩:=h_;obtain⟨j,e,q1,q2,q⟩:=q1;subst e;cases r1 with
 |cons r rr =>
  cases rr;obtain⟨t,rfl⟩:=r;exact call_range_1 (VO I1 b8 b8 q1 q2 (by simpa using q))
def tFor(wi:TI)(g:TG)(tb:TS):TS:=λD σ H=>wi σ H λJ H1=>∃W:Nat->Nat->St->Hp->Prop,(∃m,W 0 m σ H1)/\∀i m σ H,W i m σ H ->
 (J.stop i H/\D.nx σ H)\/(J.go i H/\∃N:St->Hp->Prop,(∀σ' H',N σ' H'->∃m',m' < m/\W (i+1) m' σ' H')/\∀x H',J.yld i H x H'->g x σ H' λσ2 H2=>tb { D with nx:=N,ct:=N,bk:=D.nx } σ2 H2)
def vC(fp:List aO)(h:Heap):List (aO×Obj):=fp.filterMap λb=>(h.get? b).map λo=>(b,o)
theorem wq{o:Obj}(hb:b∈fp)(e:h.get? b=sO o):(b,o)∈vC fp h:=List.mem_filterMap.mpr ⟨b,hb,by rw[e];rfl⟩
theorem WO{p:aO×Obj}(hp:p∈vC fp h):p.1∈fp/\h.get? p.1=sO p.2:=by
 obtain⟨b,hb,e⟩:=List.mem_filterMap.mp hp;cases q:h.get? b with
 |none=>rw[q]at e;cases e
 |some o =>
  rw[q]at e;have e':(b,o)=p:=u4.inj e;subst e';exact⟨hb,q⟩
theorem Inv.pinned(I:Inv X pins σ H s)(hf:∀b∈fp,FpOk X pins H b)(ho:∀b∈fp,∃o,s.heap.get? b=sO o/\∀v,o.data≠.cell v):Inv X (pins++vC fp s.heap) σ H s :=
 I.pins_of λp hp=>(uy.mp hp).elim (λz=>I.pin p (uK _ z)) λz=>by
  obtain⟨hb,e⟩:=WO z;obtain⟨f0,f1,f2,_⟩:=hf p.1 hb;obtain⟨o,e',d⟩:=ho p.1 hb;rw[e]at e';cases e';exact⟨e,f0,f1,f2,d⟩
theorem Inv.unpinned{pl:List (aO×Obj)}(I:Inv X (pins++pl) σ H s):Inv X pins σ H s:=I.pins_of λp hp=>I.pin p (uK _ (uX _ hp))
theorem zcu{wi:TI}{g:TG}(hp:PassesOwn (model X.prog X.w) X.A X.env X.xe)(hc:X.calm=tU)(hi:PI X tg iter wi)(hg:PG X tg g)(hb:PSs X body tb)
  (hs:%[∀x,foldedSetIterable iter X.env x=pure x|3]):PS X (.For tg iter body [] pos) (tFor wi g tb):=by
 intro pins s σ H D I h;refine wpAny_For (thn (hi pins s σ H _ I h) λv s1 h1=>thn h1 λitv s2 h2=>?_) hs;obtain⟨it,fp,tn,J,H2,e,I2,T,st2,f2,W,⟨m0,w0⟩,turn⟩:=h2;subst e;have stat:∀{H':Hp},(∀b∈fp,H' b=nO)->∀b∈fp,FpOk X pins H' b:=λhn b hb=>⟨hn b hb,(f2 b hb).2⟩;refine codeAny_forLoop_any (λn s'=>∃i σ' H',Inv X pins σ' H' s'/\tn i s'.heap/\(∀b∈fp,H' b=nO)/\W i n σ' H') ?_ m0 ⟨0,σ,H2,I2,st2,λb hb=>(f2 b hb).1,w0⟩;rintro n s3 ⟨i,σ3,H3,I3,st3,fr3,w3⟩;rcases turn i n σ3 H3 w3 with⟨stop,qn⟩|⟨go,N,hN,step⟩
 .refine wpAny_passesOwn hp (thn (T.done X rfl rfl rfl hc i pins s3 σ3 H3 X.xe I3 (stat fr3) st3 stop) λr s4 h_=>?_)
  obtain⟨hr,I4⟩:=h_;subst hr;exact wpAny_execs_nil ⟨σ3,H3,I4,qn⟩
 .refine wpAny_passesOwn hp (thn (T.item X rfl rfl rfl hc i pins s3 σ3 H3 X.xe I3 (stat fr3) st3 go) λr s4 h_=>?_)
  obtain⟨u,hr,h4⟩:=h_;subst hr;refine wpAny_passesOwn hp (thn h4 λ_ s5 h_=>?_);obtain⟨x,H5,I5,r5,y5,st5,fr5⟩:=h_;have I5':=I5.pinned (stat fr5) (T.obj _ _ st5);refine wpAny_passesOwn hp (thn (hg _ s5 σ3 H5 x u _ I5' r5 (step x H5 y5)) λ_ s6 h_=>?_);obtain⟨σ6,H6,I6,q6⟩:=h_;refine wpAny_passesOwn hp (thn (hb _ s6 σ6 H6 _ I6 q6) λf s7 q7=>?_);have again:∀{σ7:St}{H7:Hp},Inv X (pins++vC fp s5.heap) σ7 H7 s7->N σ7 H7->∃m,m < n/\∃i σ' H',Inv X pins σ' H' s7/\tn i s7.heap/\(∀b∈fp,H' b=nO)/\W i m σ' H':=λ{σ7 H7} I7 n7=>by
   obtain⟨m',hm,w7⟩:=hN σ7 H7 n7;refine⟨m',hm,i+1,σ7,H7,I7.unpinned,T.keep _ _ _ st5 λb hb o e=>(I7.pin (b,o) (uK _ (uK _ (wq hb e)))).1,λb hb=>?_,w7⟩;obtain⟨o,e,d⟩:=T.obj _ _ st5 b hb;exact(I7.pin (b,o) (uK _ (uK _ (wq hb e)))).2.1
  cases f with
  |next=>obtain⟨σ7,H7,I7,n7⟩:=q7;exact again I7 n7
  |cont=>obtain⟨σ7,H7,I7,n7⟩:=q7;exact again I7 n7
  |brk=>obtain⟨σ7,H7,I7,q7⟩:=q7;exact⟨σ7,H7,I7.unpinned,q7⟩
  |ret v=>obtain⟨x7,σ7,H7,I7,r7,q7⟩:=q7;exact⟨x7,σ7,H7,I7.unpinned,r7,q7⟩
theorem xm{K:uc}{g:TG}(Pv:Nat->St->Hp->Prop)(h0:Pv 0 σ H)(hl:∀i σ H,i<=xs.length->Pv i σ H->SqL K H a xs)
  (hs:∀i x σ H,xs[i]?=sO x->Pv i σ H->g x σ H λσ2 H2=>tb { D with nx:=Pv (i+1),ct:=Pv (i+1),bk:=D.nx } σ2 H2) (hd:∀σ H,Pv xs.length σ H->D.nx σ H) :
  ∃W:Nat->Nat->St->Hp->Prop,(∃m,W 0 m σ H)/\∀i m σ H,W i m σ H ->
   ((Itl K a).stop i H/\D.nx σ H)\/((Itl K a).go i H/\∃N:St->Hp->Prop,(∀σ' H',N σ' H'->∃m',m' < m/\W (i+1) m' σ' H')/\∀x H',(Itl K a).yld i H x H'->g x σ H' λσ2 H2=>tb { D with nx:=N,ct:=N,bk:=D.nx } σ2 H2):=by
 refine⟨λi m σ H=>m=xs.length-i/\i<=xs.length/\Pv i σ H,⟨xs.length,ba,uS _,h0⟩,?_⟩;rintro i m σ H ⟨rfl,hi,p⟩;have q:=hl i σ H hi p;by_cases hlt:i < xs.length
 .refine .inr ⟨⟨xs,xs[i],q,by simp[hlt]⟩,Pv (i+1),λσ' H' p'=>⟨xs.length-(i+1),b8,rfl,hlt,p'⟩,λx H' y=>?_⟩
  obtain⟨e,y⟩:=y;subst e;exact hs i x σ _ (y xs q) p
 .have e:i=xs.length:=b8
  subst e;exact .inl ⟨⟨xs,q,uk _⟩,hd σ H p⟩
theorem xc{K:uc}{g:TG}(Pv:Nat->St->Hp->Prop)(h0:Pv 0 σ H)(hl:∀i σ H,i<=xs.length->Pv i σ H->SqT K H a xs)
  (hs:∀i x σ H,xs[i]?=sO x->Pv i σ H->g x σ H λσ2 H2=>tb { D with nx:=Pv (i+1),ct:=Pv (i+1),bk:=D.nx } σ2 H2) (hd:∀σ H,Pv xs.length σ H->D.nx σ H) :
  ∃W:Nat->Nat->St->Hp->Prop,(∃m,W 0 m σ H)/\∀i m σ H,W i m σ H ->
   ((Itt K a).stop i H/\D.nx σ H)\/((Itt K a).go i H/\∃N:St->Hp->Prop,(∀σ' H',N σ' H'->∃m',m' < m/\W (i+1) m' σ' H')/\∀x H',(Itt K a).yld i H x H'->g x σ H' λσ2 H2=>tb { D with nx:=N,ct:=N,bk:=D.nx } σ2 H2):=by
 refine⟨λi m σ H=>m=xs.length-i/\i<=xs.length/\Pv i σ H,⟨xs.length,ba,uS _,h0⟩,?_⟩;rintro i m σ H ⟨rfl,hi,p⟩;have q:=hl i σ H hi p;by_cases hlt:i < xs.length
 .refine .inr ⟨⟨xs,xs[i],q,by simp[hlt]⟩,Pv (i+1),λσ' H' p'=>⟨xs.length-(i+1),b8,rfl,hlt,p'⟩,λx H' y=>?_⟩
  obtain⟨e,y⟩:=y;subst e;exact hs i x σ _ (y xs q) p
 .have e:i=xs.length:=b8
  subst e;exact .inl ⟨⟨xs,q,uk _⟩,hd σ H p⟩
theorem wX{lo:Int}{g:TG}(Pv:Nat->St->Hp->Prop)(h0:Pv 0 σ H)
  (hs:∀i σ H,i < n->Pv i σ H->g (.int (lo+i)) σ H λσ2 H2=>tb { D with nx:=Pv (i+1),ct:=Pv (i+1),bk:=D.nx } σ2 H2) (hd:∀σ H,Pv n σ H->D.nx σ H) :
  ∃W:Nat->Nat->St->Hp->Prop,(∃m,W 0 m σ H)/\∀i m σ H,W i m σ H ->
   ((Itr lo n).stop i H/\D.nx σ H)\/((Itr lo n).go i H/\∃N:St->Hp->Prop,(∀σ' H',N σ' H'->∃m',m' < m/\W (i+1) m' σ' H')/\∀x H',(Itr lo n).yld i H x H'->g x σ H' λσ2 H2=>tb { D with nx:=N,ct:=N,bk:=D.nx } σ2 H2):=by
 refine⟨λi m σ H=>m=n-i/\i<=n/\Pv i σ H,⟨n,ba,uS _,h0⟩,?_⟩;rintro i m σ H ⟨rfl,hi,p⟩;by_cases hlt:i < n
 .refine .inr ⟨hlt,Pv (i+1),λσ' H' p'=>⟨n-(i+1),b8,rfl,hlt,p'⟩,λx H' y=>?_⟩
  obtain⟨e,y⟩:=y;subst e y;exact hs i σ _ hlt p
 .have e:i=n:=b8
  subst e;exact .inl ⟨uk _,hd σ H p⟩
abbrev R2:=V->V->Hp->VK->Prop
def OpR(X:Cx)(f:aA->aA->Sem aA)(r:R2):Prop :=
 ∀(pins:List (aO×Obj))(s:Shared)(σ:St)(H:Hp)(x y:V)(v u:aA)(Q:VK),Inv X pins σ H s->RelV x v->RelV y u->r x y H Q ->
  wpAny (model X.prog X.w) X.A (f v u) (EP X pins σ Q) X.xe s
def UnR(X:Cx)(f:aA->Sem aA)(r:V->Hp->VK->Prop):Prop :=
 ∀(pins:List (aO×Obj))(s:Shared)(σ:St)(H:Hp)(x:V)(v:aA)(Q:VK),Inv X pins σ H s->RelV x v->r x H Q ->
  wpAny (model X.prog X.w) X.A (f v) (EP X pins σ Q) X.xe s
def xr(X:Cx)(f:aA)(r:List V->Hp->VK->Prop):Prop :=
 ∀(pins:List (aO×Obj))(s:Shared)(σ:St)(H:Hp)(xs:List V)(us:List aA)(Q:VK),Inv X pins σ H s->Vals xs us->r xs H Q ->
  wpAny (model X.prog X.w) X.A (call f us) (EP X pins σ Q) X.xe s
def tOp(r:R2)(ta tb:TE):TE:=λσ H Q=>ta σ H λx H1=>tb σ H1 λy H2=>r x y H2 Q
def tUn(r:V->Hp->VK->Prop)(ta:TE):TE:=λσ H Q=>ta σ H λx H1=>r x H1 Q
def rI(C:Int->Int->Prop)(g:Int->Int->V):R2:=λx y H Q=>∃i j,x=.int i/\y=.int j/\C i j/\Q (g i j) H
def rI0(g:Int->Int->V):R2:=λx y H Q=>∃i j,x=.int i/\y=.int j/\Q (g i j) H
def rU(g:Int->V):V->Hp->VK->Prop:=λx H Q=>∃i,x=.int i/\Q (g i) H
section
variable{a b:Expr}{tb tc:TE}
theorem binT(ha:PE X a ta)(hb:PE X b tb){R:V->V->Hp->Prop}(I:Inv X pins σ H s)
  (h:ta σ H λx H1=>tb σ H1 λy H2=>R x y H2) {Q:VSP} {f:aA->aA->Sem aA}
  (hf:∀v u s2 x y H2,Inv X pins σ H2 s2->RelV x v->RelV y u->R x y H2->wpAny (model X.prog X.w) X.A (f v u) Q X.xe s2) :
  wpAny (model X.prog X.w) X.A (eval a X.env) (λv s₁=>wpAny (model X.prog X.w) X.A (eval b X.env) (λu s₂=>wpAny (model X.prog X.w) X.A (f v u) Q X.xe s₂) X.xe s₁) X.xe s:=by
 refine thn (ha pins s σ H _ I h) λv s1 h_=>?_;obtain⟨x,H1,I1,r1,q1⟩:=h_;refine thn (hb pins s1 σ H1 _ I1 q1) λu s2 h_=>?_;obtain⟨y,H2,I2,r2,q2⟩:=h_;exact hf v u s2 x y H2 I2 r1 r2 q2
theorem zdY{op:Operator}{r:R2}(ho:OpR X (binaryOp op) r)(ha:PE X a ta)(hb:PE X b tb):PE X (.BinOp a op b pos) (tOp r ta tb):=by
 intro pins s σ H Q I h;exact wpAny_BinOp (binT ha hb I h λv u s2 x y H2 I2 rx ry q=>ho pins s2 σ H2 x y v u Q I2 rx ry q)
theorem zbz{op:UnaryOp}{r:V->Hp->VK->Prop}(ho:UnR X (unaryOp op) r)(ha:PE X a ta):PE X (.UnaryOp op a pos) (tUn r ta):=by
 intro pins s σ H Q I h;refine UnaryOp_ (thn (ha pins s σ H _ I h) λv s1 h_=>?_);obtain⟨x,H1,I1,r1,q1⟩:=h_;exact ho pins s1 σ H1 x v Q I1 r1 q1
theorem opI{f:aA->aA->Sem aA}{C:Int->Int->Prop}
  (rule:∀(i j:Int)(t u:Tok)(s:Shared)(Q:VSP)(E:VSP),C i j->Q (.int (g i j) s.toks) { s with toks:=s.toks+1 }->wpAny (model X.prog X.w) X.A (f (.int i t) (.int j u)) Q E s) :
  OpR X f (rI C λi j=>.int (g i j)):=by
 intro pins s σ H x y v u Q I rx ry h;obtain⟨i,j,rfl,rfl,hc,q⟩:=h;obtain⟨t,rfl⟩:=rx;obtain⟨t',rfl⟩:=ry;exact rule i j t t' s _ _ hc ⟨.int (g i j),H,I.tok _,⟨_,rfl⟩,q⟩
theorem opI0{f:aA->aA->Sem aA}
  (rule:∀(i j:Int)(t u:Tok)(s:Shared)(Q:VSP)(E:VSP),Q (.int (g i j) s.toks) { s with toks:=s.toks+1 }->wpAny (model X.prog X.w) X.A (f (.int i t) (.int j u)) Q E s) :
  OpR X f (rI0 λi j=>.int (g i j)):=by
 intro pins s σ H x y v u Q I rx ry h;obtain⟨i,j,rfl,rfl,q⟩:=h;obtain⟨t,rfl⟩:=rx;obtain⟨t',rfl⟩:=ry;exact rule i j t t' s _ _ ⟨.int (g i j),H,I.tok _,⟨_,rfl⟩,q⟩
theorem opB0{f:aA->aA->Sem aA}{g:Int->Int->Bool}
  (rule:∀(i j:Int)(t u:Tok)(s:Shared)(Q:VSP)(E:VSP),Q (.bool (g i j)) s->wpAny (model X.prog X.w) X.A (f (.int i t) (.int j u)) Q E s) :
  OpR X f (rI0 λi j=>.bl (g i j)):=by
 intro pins s σ H x y v u Q I rx ry h;obtain⟨i,j,rfl,rfl,q⟩:=h;obtain⟨t,rfl⟩:=rx;obtain⟨t',rfl⟩:=ry;exact rule i j t t' s _ _ ⟨.bl (g i j),H,I,rfl,q⟩
def CDiv(i j:Int):Prop:=0 < j/\j < 1073741824
def CPow(i j:Int):Prop:=0<=j/\j<=1000000/\i.natAbs < 2 ^ 64
def CMul(i j:Int):Prop:=(-(2 ^ 64) < i/\i < 2 ^ 64)\/(-(2 ^ 64) < j/\j < 2 ^ 64)
theorem CMul.ok{i j:Int}(h:CMul i j):IntMulOk i j:=by
 rcases h with⟨h1,h2⟩|⟨h1,h2⟩
 .exact .of_left (intBits_le_64 h1 h2)
 .exact .of_right (intBits_le_64 h1 h2)
theorem zcv:OpR X (binaryOp .Add) (rI0 λi j=>.int (i+j)):=opI0 λ_ _ _ _ _ _ _ q=>add_int q
theorem zcw:OpR X (binaryOp .Sub) (rI0 λi j=>.int (i-j)):=opI0 λ_ _ _ _ _ _ _ q=>sub_int q
theorem zcx:OpR X (binaryOp .Mult) (rI CMul λi j=>.int (i*j)):=opI λ_ _ _ _ _ _ _ hc q=>mul_int q hc.ok
theorem Q0:OpR X (binaryOp .FloorDiv) (rI CDiv λi j=>.int (i / j)):=opI λi j _ _ _ _ _ hc q=>by
 have h1:(0:Int) < j:=hc.1;have h2:j < 1073741824:=hc.2;exact floordiv_int b8 (by rw[Int.fdiv_eq_ediv_of_nonneg i b8];exact q) (.inl (PyProof.noPylong_small b8))
theorem zcy:OpR X (binaryOp .Mod) (rI (λ_ j=>0 < j) λi j=>.int (i % j)):=opI λi j _ _ _ _ _ hc q=>by
 have h1:(0:Int) < j:=hc;exact mod_int' b8 (by rw[Int.fmod_eq_emod_of_nonneg i b8];exact q)
theorem zcz:OpR X (binaryOp .Pow) (rI CPow λi j=>.int (i ^ j.toNat)):=opI λ_ _ _ _ _ _ _ hc q=>pow_int_small hc.1 hc.2.1 hc.2.2 q
theorem zcA:OpR X (binaryOp .BitAnd) (rI0 λi j=>.int (Builtin.bitAnd i j)):=opI0 λ_ _ _ _ _ _ _ q=>and_int q
theorem zdZ:OpR X (binaryOp .BitOr) (rI0 λi j=>.int (Builtin.bitOr i j)):=opI0 λ_ _ _ _ _ _ _ q=>or_int q
theorem unI{f:aA->Sem aA}{g:Int->Int}
  (rule:∀(i:Int)(t:Tok)(s:Shared)(Q:VSP)(E:VSP),Q (.int (g i) s.toks) { s with toks:=s.toks+1 }->wpAny (model X.prog X.w) X.A (f (.int i t)) Q E s) :
  UnR X f (rU λi=>.int (g i)):=by
 intro pins s σ H x v Q I rx h;obtain⟨i,rfl,q⟩:=h;obtain⟨t,rfl⟩:=rx;exact rule i t s _ _ ⟨.int (g i),H,I.tok _,⟨_,rfl⟩,q⟩
theorem zcB:UnR X (unaryOp .USub) (rU λi=>.int (-i)):=unI λ_ _ _ _ _ q=>neg_int q
theorem zcC:UnR X (unaryOp .Invert) (rU λi=>.int (Builtin.bitNot i)):=unI λ_ _ _ _ _ q=>invert_int q
noncomputable def scal:V->V->Bool
 |.non,.non=>tU|.non,.int _=>tU|.int _,.non=>tU|.non,.bl _=>tU|.bl _,.non=>tU|.non,.str _=>tU|.str _,.non=>tU
 |.int _,.int _=>tU|.bl _,.bl _=>tU|.str _,.str _=>tU|.byt _,.byt _=>tU
 |.int _,.str _=>tU|.str _,.int _=>tU|.bl _,.str _=>tU|.str _,.bl _=>tU
 |_,_=>fO
def rEq:R2:=λx y H Q=>scal x y=tU/\Q (.bl (decide (x=y))) H
def rNe:R2:=λx y H Q=>scal x y=tU/\Q (.bl (!decide (x=y))) H
theorem XT{i j:Int}:decide (V.int i=V.int j)=(i == j):=by
 rw[U5];simp
theorem VP{i j:Bool}:decide (V.bl i=V.bl j)=(i == j):=by
 rw[U5];simp
theorem XU{i j:Str}:decide (V.str i=V.str j)=(i == j):=by
 rw[U5];simp
theorem XV{i j:Array UInt8}:decide (V.byt i=V.byt j)=(i.toList == j.toList):=by
 rw[U5];cases i;cases j;simp
theorem z4{Q:VK}{k k':Bool}(I:Inv X pins σ H s)(q:Q (.bl k) H)(e:k=k'):EP X pins σ Q (.bool k') s:=by
 subst e;exact⟨.bl k,H,I,rfl,q⟩
theorem zd0:OpR X (compareOp .Eq) rEq:=by
 intro pins s σ H x y v u Q I rx ry h;obtain⟨hs,q⟩:=h;cases x with
 |non =>
  cases rx;cases y with
  |non=>cases ry;exact PySem.EqNone.eq_none_none (z4 I q ba)
  |bl j=>cases ry;exact PySem.EqNone.eq_none_bool (z4 I q ba)
  |int j=>obtain⟨t',rfl⟩:=ry;exact PySem.EqNone.eq_none_int (z4 I q ba)
  |str j=>obtain⟨t',rfl⟩:=ry;exact PySem.EqNone.eq_none_str (z4 I q ba)
  |_=>exact absurd (show fO=tU from hs) uC
 |bl i =>
  cases rx;cases y with
  |non=>cases ry;exact PySem.EqNone.eq_bool_none (z4 I q ba)
  |bl j=>cases ry;exact eq_bool (z4 I q VP)
  |str j=>obtain⟨t',rfl⟩:=ry;exact PySem.EqMixed.eq_bool_str (z4 I q ba)
  |_=>exact absurd (show fO=tU from hs) uC
 |int i =>
  obtain⟨t,rfl⟩:=rx;cases y with
  |non=>cases ry;exact PySem.EqNone.eq_int_none (z4 I q ba)
  |int j=>obtain⟨t',rfl⟩:=ry;exact eq_int (z4 I q XT)
  |str j=>obtain⟨t',rfl⟩:=ry;exact PySem.EqMixed.eq_int_str (z4 I q ba)
  |_=>exact absurd (show fO=tU from hs) uC
 |str i =>
  obtain⟨t,rfl⟩:=rx;cases y with
  |non=>cases ry;exact PySem.EqNone.eq_str_none (z4 I q ba)
  |bl j=>cases ry;exact PySem.EqMixed.eq_str_bool (z4 I q ba)
  |int j=>obtain⟨t',rfl⟩:=ry;exact PySem.EqMixed.eq_str_int (z4 I q ba)
  |str j=>obtain⟨t',rfl⟩:=ry;exact eq_str (z4 I q XU)
  |_=>exact absurd (show fO=tU from hs) uC
 |byt i =>
  obtain⟨t,rfl⟩:=rx;cases y with
  |byt j=>obtain⟨t',rfl⟩:=ry;exact PySem.W.eq_bytes (z4 I q XV)
  |_=>exact absurd (show fO=tU from hs) uC
 |_=>cases y<;>exact absurd (show fO=tU from hs) uC
theorem zd1:OpR X (compareOp .NotEq) rNe:=by
 intro pins s σ H x y v u Q I rx ry h;obtain⟨hs,q⟩:=h;cases x with
 |non =>
  cases rx;cases y with
  |non=>cases ry;exact PySem.EqNone.ne_none_none (z4 I q ba)
  |bl j=>cases ry;exact PySem.EqNone.ne_none_bool (z4 I q ba)
  |int j=>obtain⟨t',rfl⟩:=ry;exact PySem.EqNone.ne_none_int (z4 I q ba)
  |str j=>obtain⟨t',rfl⟩:=ry;exact PySem.EqNone.ne_none_str (z4 I q ba)
  |_=>exact absurd (show fO=tU from hs) uC
 |bl i =>
  cases rx;cases y with
  |non=>cases ry;exact PySem.EqNone.ne_bool_none (z4 I q ba)
  |bl j=>cases ry;exact ne_bool (z4 I q (congrArg not VP))
  |str j=>obtain⟨t',rfl⟩:=ry;exact PySem.EqMixed.ne_bool_str (z4 I q ba)
  |_=>exact absurd (show fO=tU from hs) uC
 |int i =>
  obtain⟨t,rfl⟩:=rx;cases y with
  |non=>cases ry;exact PySem.EqNone.ne_int_none (z4 I q ba)
  |int j=>obtain⟨t',rfl⟩:=ry;exact ne_int (z4 I q (congrArg not XT))
  |str j=>obtain⟨t',rfl⟩:=ry;exact PySem.EqMixed.ne_int_str (z4 I q ba)
  |_=>exact absurd (show fO=tU from hs) uC
 |str i =>
  obtain⟨t,rfl⟩:=rx;cases y with
  |non=>cases ry;exact PySem.EqNone.ne_str_none (z4 I q ba)
  |bl j=>cases ry;exact PySem.EqMixed.ne_str_bool (z4 I q ba)
  |int j=>obtain⟨t',rfl⟩:=ry;exact PySem.EqMixed.ne_str_int (z4 I q ba)
  |str j=>obtain⟨t',rfl⟩:=ry;exact ne_str (z4 I q (congrArg not XU))
  |_=>exact absurd (show fO=tU from hs) uC
 |byt i =>
  obtain⟨t,rfl⟩:=rx;cases y with
  |byt j=>obtain⟨t',rfl⟩:=ry;exact PySem.W.ne_bytes (z4 I q (congrArg not XV))
  |_=>exact absurd (show fO=tU from hs) uC
 |_=>cases y<;>exact absurd (show fO=tU from hs) uC
theorem zd2:OpR X (compareOp .Lt) (rI0 λi j=>.bl (decide (i < j))):=opB0 λ_ _ _ _ _ _ _ q=>lt_int q
theorem zd3:OpR X (compareOp .LtE) (rI0 λi j=>.bl (decide (i<=j))):=opB0 λ_ _ _ _ _ _ _ q=>le_int q
theorem zd4:OpR X (compareOp .Gt) (rI0 λi j=>.bl (decide (j < i))):=opB0 λ_ _ _ _ _ _ _ q=>gt_int q
theorem zd5:OpR X (compareOp .GtE) (rI0 λi j=>.bl (decide (j<=i))):=opB0 λ_ _ _ _ _ _ _ q=>ge_int q
theorem xv(b:Expr)(h:%[op≠.In|2])(h2:%[op≠.NotIn|2]):behindInMarks op b=fO:=by
 have e1:(op == CmpOp.In)=fO:=by cases op<;>first|rfl|exact absurd rfl h
 have e2:(op == CmpOp.NotIn)=fO:=by cases op<;>first|rfl|exact absurd rfl h2
 cases b<;>simp[behindInMarks,e1,e2]
theorem Q3{r:R2}(ho:OpR X (compareOp op) r)(ha:PE X a ta)(hb:PE X b tb)(hm:behindInMarks op b=fO):PE X (.Compare a [op] [b] pos) (tOp r ta tb):=by
 intro pins s σ H Q I h;exact wpAny_Compare1 (binT ha hb I h λv u s2 x y H2 I2 rx ry q=>ho pins s2 σ H2 x y v u Q I2 rx ry q) hm
def vD(t:TE):TT:=λσ H Q=>t σ H λx H'=>∃k,x=.bl k/\Q k H'
theorem Q4{r:R2}(ho:OpR X (compareOp op) r)(ha:PE X a ta)(hb:PE X b tb)(hm:behindInMarks op b=fO):PT X (.Compare a [op] [b] pos) (vD (tOp r ta tb)):=by
 intro pins s σ H Q I h;refine wpAny_isTrue_Compare1 (thn (ha pins s σ H _ I h) λv s1 ⟨x,H1,I1,r1,q1⟩=>thn (hb pins s1 σ H1 _ I1 q1) λu s2 ⟨y,H2,I2,r2,q2⟩ =>
  thn (ho pins s2 σ H2 x y v u _ I2 r1 r2 q2) λc s3 ⟨z,H3,I3,r3,k,e,q3⟩=>?_) hm
 subst e;cases r3;exact wpAny_truthy_bool ⟨H3,I3,q3⟩
theorem vE:(sizeLine:Nat) < 2 ^ 63:=by rw[sizeLine_eq];decide
theorem Y0:OpR X (binaryOp .Add) (λx y H Q=>∃i j,x=.str i/\y=.str j/\i.length+j.length<=sizeLine/\Q (.str (i++j)) H):=by
 intro pins s σ H x y v u Q I rx ry h;obtain⟨i,j,rfl,rfl,hz,q⟩:=h;obtain⟨t,rfl⟩:=rx;obtain⟨t',rfl⟩:=ry;exact add_str (λt' tk=>⟨.str (i++j),H,I.tok _,⟨_,rfl⟩,q⟩) hz
theorem wA{x:V}{us:List aA}(r:Vals [x] us):∃u,us=[u]/\RelV x u:=by
 cases r with
 |cons r1 r2=>cases r2;exact⟨_,rfl,r1⟩
theorem ZV{x y:V}{us:List aA}(r:Vals [x,y] us):∃u w',us=[u,w']/\RelV x u/\RelV y w':=by
 cases r with
 |cons r1 r2 =>
  cases r2 with
  |cons r3 r4=>cases r4;exact⟨_,_,rfl,r1,r3⟩
theorem WP(hc:X.calm=tU):xr X (.builtin "max") (λxs H Q=>∃i j,xs=[.int i,.int j]/\Q (.int (if j > i then j else i)) H):=by
 intro pins s σ H xs us Q I r h;obtain⟨i,j,rfl,q⟩:=h;obtain⟨u,w',rfl,⟨t,rfl⟩,⟨t',rfl⟩⟩:=ZV r;refine max_two_ints (I.ok.hd hc) λh' tk k=>⟨_,H,I.kept k,?_,q⟩;by_cases hj:j > i
 .rw[iP hj,iP hj];exact⟨_,rfl⟩
 .rw[iN hj,iN hj];exact⟨_,rfl⟩
theorem WQ:xr X (.type "int") (λxs H Q=>(∃i,xs=[.int i]/\Q (.int i) H)\/∃k,xs=[.bl k]/\Q (.int (if k then 1 else 0)) H):=by
 intro pins s σ H xs us Q I r h;rcases h with⟨i,rfl,q⟩|⟨k,rfl,q⟩
 .obtain⟨u,rfl,t,rfl⟩:=wA r
  exact call_int_int ⟨.int i,H,I,⟨_,rfl⟩,q⟩
 .obtain⟨u,rfl,r1⟩:=wA r
  cases r1;exact call_int_bool ⟨.int (if k then 1 else 0),H,I.tok _,⟨_,rfl⟩,q⟩
end
structure ObjM(h:Heap)(x dx C:aO)(mA:Str->Option aA):Prop where
 obj:h.get? x=sO (US C dx)
 ns:h.Ns1 dx mA
 ne:dx≠x
theorem WR(n:h.Ns1 dx mA):∃od,h.get? dx=sO od/\∀name,PySem.W.lookIn name od=sO (mA name):=by
 obtain⟨o,es,ep,ho,hd,hk,_,hm⟩:=n;refine⟨o,ho,λname=>?_⟩;have e:=hm name;unfold nsFind findBy at e;rw[<- Array.find?_toList]at e;unfold PySem.W.lookIn;rw[hd];dsimp only
 split
 .rename_i y q
  rw[q]at e;exact congrArg sO e
 .rename_i q
  rw[q]at e;have a:es.toList.any (·.refKey)=fO:=by
   rw[List.any_eq_false];intro y hy;obtain⟨z,t,hkey⟩:=hk y (Array.mem_toList_iff.mp hy);simp[DictEntry.refKey,hkey]
  have a':Not (es.toList.any (·.refKey)=tU):=by rw[a];exact uC
  rw[iN a'];exact congrArg sO e
theorem ObjM.look{x:aO}(I:ObjM h x dx C mA):∃od,PySem.W.InstAt h x (US C dx) C (sO od)/\∀name,PySem.W.lookIn name od=sO (mA name) :=
 let ⟨od,ho,hl⟩:=WR I.ns
 ⟨od,⟨I.obj,rfl,rfl,ho⟩,hl⟩
section
variable{K:uc}{x:aO}{v:aA}
theorem Q6{expr:Bool}{Q:VSP}(X:K.In s.heap)(I:ObjM s.heap x dx C mA)(hg:tD K C name=tU)(hh:tS K C=tU)
  (ha:uU K (.ref C) name=sO nO) (hv:mA name=sO v) (hv':PySem.W.handedIn v=tU) (h:Q v { s with toks:=s.toks+1 }) :
  wpAny (model prog w) A (getAttr (.ref x) name expr) Q E s:=by
 obtain⟨od,J,hl⟩:=I.look;exact PySem.W.get_value X J (PySem.W.plainGet_of hg).1 (PySem.W.findObj_own hh ha rfl (by rw[hl,hv])) hv' h
theorem VQ{pl:Sem Bool}{Q:aA×List aA->Shared->Prop}(X:K.In s.heap)(I:ObjM s.heap x dx C mA)(hg:tD K C name=tU)
  (hf:uU K (.ref C) name=sO (sO (.ref f))) (ht:PySem.W.isFn K (.ref f)=tU) (hv:mA name=nO) (h:Q (.ref f,[.ref x]) s) :
  wpAny (model prog w) A (getMethod (.ref x) name pl) Q E s:=by
 obtain⟨od,J,hl⟩:=I.look;exact PySem.W.method_fn X J (PySem.W.plainGet_of hg).1 (PySem.W.plainGet_of hg).2 hf (beq_iff_eq.mp ht) (by show(PySem.W.lookIn name od).map (·.isSome)=sO fO;rw[hl,hv];rfl) h
theorem Q7(X:K.In s.heap)(I:ObjM s.heap x dx C mA)
  (hs:uU K (.ref C) "__setattr__"=sO (sO (.builtin "object.__setattr__"))) (hp:PySem.W.plainOver K C=tU) (ht:PySem.W.takerIn K C name=sO nO) (hh:tS K C=tU)
  (hw:PySem.Within mA ns) (hsz:ns.length<=sizeLine)
  (h:∀h',ObjM h' x dx C (λy=>if y=name then sO v else mA y)->Heap.SameBut dx s.heap h'->Q () { s with heap:=h',toks:=s.toks+2 }) :
  wpAny (model prog w) A (setAttr (.ref x) name v) Q E s:=by
 obtain⟨od,J,hl⟩:=I.look;refine PySem.W.set_plain X J hs (PySem.W.osa_open (s:={ s with toks:=s.toks+1 }) (r:=nO) X J hp ht λb=>?_);obtain⟨cd,hc,hd'⟩:=PySem.W.any_some hh;have hx:s.heap.get? x=sO ⟨.ref C,sO dx,.plain,#[]⟩:=I.obj;refine bA (pO (bA (bA (wpAny_loadPart hx (bA (PySem.W.Looks.here (s:={ s with toks:=s.toks+1 }) (PySem.W.looks_clsIn X hc) ?_))))));rw[hd'];refine pO (a:=sO dx) (bA (pO (bA ?_)));refine wpAny_nsSet1 (s:={ s with toks:=s.toks+1 }) I.ns λh' hn2 hs2=>?_;obtain⟨oD,esD,epD,hoD,hdD,hcD⟩:=hn2.count (PySem.Within.cons name v hw);refine bA (wpAny_lookBehind hoD (by rw[hdD];exact pastItsLine_dict (uF hcD (by rw[ui];lia))) ?_);exact pO (h _ ⟨(hs2.2 _ (Ne.symm I.ne)).trans I.obj,hn2,I.ne⟩ hs2)
theorem VR{R:Result->Shared->Prop}(X:K.In s.heap)(hm:PySem.W.makesIn K C=tU)
  (hi:uU K (.ref C) "__init__"=sO (sO (.ref f))) (hf:PySem.W.typeIn K (.ref f)=sO (.type "function"))
  (h:codeAny (model prog w) (A.under (.builtin "type.__call__" ⟨.ref C::vs,kw⟩)) (.call (.ref f) ⟨.ref (s.heap.objs.size+1)::vs,kw⟩) (PySem.W.InitBack (s.heap.objs.size+1) R)
   { s with heap:=(s.heap.push UI).push (US C s.heap.objs.size) }) :
  codeAny (model prog w) A (.call (.ref C) ⟨vs,kw⟩) R s:=by
 obtain⟨hh,g,d,t,os⟩:=s;exact PySem.W.make_core (PySem.W.makes_of X hm) (PySem.W.looks_findIn X hi) (λself=>PySem.W.bind_fn X self hf) (.inl rfl) h
end
noncomputable def putF (f:Str) (v:V):List (Str×V)->List (Str×V)
 |[]=>[(f,v)]
 | (g,x)::r=>if g=f then(g,v)::r else(g,x)::putF f v r
theorem vf(f g:Str)(v:V):∀fs:List (Str×V),(putF f v fs).lookup g=if g=f then sO v else fs.lookup g
 |[]=>by
  show UV g [(f,v)]=_;by_cases h:g=f
  .have hb:(g == f)=tU:=beq_iff_eq.mpr h
   simp only[UV,hb,iP h]
  .have hb:(g == f)=fO:=beq_eq_false_iff_ne.mpr h
   simp only[UV,hb,iN h]
 | (k,x)::r=>by
  have ih:=vf f g v r;rw[show putF f v ((k,x)::r)=(if k=f then(k,v)::r else(k,x)::putF f v r)from rfl];by_cases hk:k=f
  .rw[iP hk]
   by_cases h:g=k
   .have hb:(g == k)=tU:=beq_iff_eq.mpr h
    simp only[UV,hb,iP (h.trans hk)]
   .have hb:(g == k)=fO:=beq_eq_false_iff_ne.mpr h
    simp only[UV,hb,iN (λe:g=f=>h (e.trans hk.symm))]
  .rw[iN hk]
   by_cases h:g=k
   .have hb:(g == k)=tU:=beq_iff_eq.mpr h
    simp only[UV,hb,iN (λe:g=f=>hk (h.symm.trans e))]
   .have hb:(g == k)=fO:=beq_eq_false_iff_ne.mpr h
    simp only[UV,hb]
    exact ih
theorem wY(f:Str)(v:V):∀fs:List (Str×V),f∈(putF f v fs).map (·.1)/\∀g,g∈fs.map (·.1)->g∈(putF f v fs).map (·.1)
 |[]=>⟨by simp[putF],λg h=>bg⟩
 | (k,x)::r=>by
  obtain⟨i1,i2⟩:=wY f v r;rw[show putF f v ((k,x)::r)=(if k=f then(k,v)::r else(k,x)::putF f v r)from rfl];by_cases hk:k=f
  .rw[iP hk]
   subst hk;exact⟨ba,λg h=>by simpa using h⟩
  .rw[iN hk]
   refine⟨?_,λg h=>?_⟩
   .rw[uB]
    exact Uq _ i1
   .rw[uB]at h ⊢
    rcases uq.mp h with e|e
    .exact uq.mpr (.inl e)
    .exact Uq _ (i2 g e)
theorem vg(f:Str)(v:V):∀fs:List (Str×V),(putF f v fs).length<=fs.length+1
 |[]=>by simp[putF]
 | (k,x)::r=>by
  have ih:=vg f v r;rw[show putF f v ((k,x)::r)=(if k=f then(k,v)::r else(k,x)::putF f v r)from rfl];by_cases hk:k=f
  .rw[iP hk,ui,ui];lia
  .rw[iN hk,ui,ui];lia
theorem RelO.some_of{o:Option aA}(r:RelO (sO v) o):∃u,o=sO u/\RelV v u:=by
 cases o with
 |none=>exact(show False from r).elim
 |some u=>exact⟨u,rfl,r⟩
theorem RelO.none_of{o:Option aA}(r:RelO nO o):o=nO:=by
 cases o with
 |none=>rfl
 |some u=>exact(show False from r).elim
theorem WS(r:RelV v u):PySem.W.handedIn u=tU:=by
 cases v with
 |non=>cases(show u=Value.none from r);rfl
 |bl b=>cases(show u=Value.bool b from r);rfl
 |int i=>obtain⟨t,e⟩:=(show ∃t,u=Value.int i t from r);cases e;rfl
 |str x=>obtain⟨t,e⟩:=(show ∃t,u=Value.str x t from r);cases e;rfl
 |byt b=>obtain⟨t,e⟩:=(show ∃t,u=Value.bytes b t from r);cases e;rfl
 |flt b=>obtain⟨t,e⟩:=(show ∃t,u=Value.float b t from r);cases e;rfl
 |ref a=>cases(show u=Value.ref a from r);rfl
 |ty n=>cases(show u=Value.type n from r);rfl
section
variable{fs fs':List (Str×V)}
theorem vp(hok:HOk P w H h)(e:H a=sO (.ins C dx fs)):∃mA,ObjM h a dx C mA/\(∀f,RelO (fs.lookup f) (mA f))/\PySem.Within mA (fs.map (·.1))/\fs.length<=1000/\H dx=sO (.own a):=by
 obtain⟨d,z,ne,ob,mA,n,r,q⟩:=(show ObjOk P w H h a (.ins C dx fs)from hok a _ e);exact⟨mA,⟨ob,n,ne⟩,r,q,z,d⟩
end
structure Cls(K:uc)(C:aO):Prop where
 pg:tD K C Str.empty=tU
 hd:tS K C=tU
 po:PySem.W.plainOver K C=tU
 sa:uU K (.ref C) "__setattr__"=sO (sO (.builtin "object.__setattr__"))
theorem Cls.get{K:uc}(c:Cls K C)(f:Str):tD K C f=tU:=c.pg
def NoAttr(K:uc)(C:aO)(f:Str):Prop:=uU K (.ref C) f=sO nO
theorem NoAttr.taker{K:uc}{f:Str}(n:NoAttr K C f):PySem.W.takerIn K C f=sO nO:=by
 unfold PySem.W.takerIn;rw[show uU K (.ref C) f=sO nO from n]
 rfl
structure Meth(K:uc)(C:aO)(m:Str)(f:aO):Prop where
 at_:uU K (.ref C) m=sO (sO (.ref f))
 fn:PySem.W.isFn K (.ref f)=tU
 kp:uY K (.ref f)=tU
section
variable{fs:List (Str×V)}{f:Str}
theorem Y1{b:Bool}{Q:VSP}(I:Inv X pins σ H s)(e:H a=sO (.ins C dx fs))(c:Cls X.K C)(n:NoAttr X.K C f)(l:fs.lookup f=sO v)
  (h:∀u s',Inv X pins σ H s'->RelV v u->Q u s'):wpAny (model X.prog X.w) A (getAttr (.ref a) f b) Q E s:=by
 obtain⟨mA,O,r,_,_,_⟩:=vp I.hok e;obtain⟨u,hu,ru⟩:=RelO.some_of (v:=v) (o:=mA f) (by rw[<- l];exact r f);exact Q6 I.kIn O (c.get f) c.hd n hu (WS ru) (h u _ (I.tok _) ru)
theorem Y2{m:Str}{g:aO}{pl:Sem Bool}{Q:aA×List aA->Shared->Prop}(I:Inv X pins σ H s)(e:H a=sO (.ins C dx fs))(c:Cls X.K C)(k:Meth X.K C m g)(l:fs.lookup m=nO)
  (h:Q (.ref g,[.ref a]) s):wpAny (model X.prog X.w) A (getMethod (.ref a) m pl) Q E s:=by
 obtain⟨mA,O,r,_,_,_⟩:=vp I.hok e;have hn:mA m=nO:=RelO.none_of (by rw[<- l];exact r m);exact VQ I.kIn O (c.get m) k.at_ k.fn hn h
theorem Y3{y:V}(I:Inv X pins σ H s)(e:H a=sO (.ins C dx fs))(c:Cls X.K C)(n:NoAttr X.K C f)(hl:fs.length < 1000)(ry:RelV y u)
  (h:∀s',Inv X pins σ (upd H a (.ins C dx (putF f y fs))) s'->Q () s'):wpAny (model X.prog X.w) A (setAttr (.ref a) f u) Q E s:=by
 obtain⟨mA,O,r,wi,_,ho⟩:=vp I.hok e;have hz:(fs.map (·.1)).length<=sizeLine:=by rw[ub,sizeLine_eq];lia
 refine Q7 I.kIn O c.sa c.po n.taker c.hd wi hz λh' O' sb=>h _ ?_;have hd:∃o,h'.get? dx=sO o:=let ⟨o,_,_,e',_⟩:=O'.ns;⟨o,e'⟩
 refine I.write (x:=a) (e:=dx) (by rw[e];exact True.intro) (.inr ho) (λb q hb z=>(sb.2 b hb).trans z) hd ?_;refine⟨by rw[zo O.ne];exact ho,?_,O.ne,O'.obj,_,O'.ns,λg=>?_,λg hg=>?_⟩
 .have:=vg f y fs;lia
 .show RelO ((putF f y fs).lookup g) (if g=f then sO u else mA g)
  rw[vf];by_cases q:g=f
  .rw[iP q,iP q];exact ry
  .rw[iN q,iN q];exact r g
 .by_cases q:g=f
  .rw[q];exact(wY f y fs).1
  .refine(wY f y fs).2 g (wi g λz=>hg ?_)
   show(if g=f then sO u else mA g)=nO;rw[iN q];exact z
theorem Inv.made(I:Inv X pins σ H s):Inv X pins σ (upd (upd H s.heap.objs.size (.own (s.heap.objs.size+1))) (s.heap.objs.size+1) (.ins C s.heap.objs.size []))
  { s with heap:=(s.heap.push UI).push (US C s.heap.objs.size) }:=by
 have e1:(s.heap.push UI).get? s.heap.objs.size=sO UI:=ux s.heap rfl;have e2:((s.heap.push UI).push (US C s.heap.objs.size)).get? (s.heap.objs.size+1)=sO (US C s.heap.objs.size):=by
  have:=ux (s.heap.push UI) (o:=US C s.heap.objs.size) rfl
  rwa [Ud]at this
 have e3:(s.heap.push UI).Ns s.heap.objs.size (λ_=>nO):=⟨UI,#[],_,e1,rfl,(λe he=>absurd he ba),λ_=>rfl⟩;have I1:=I.laid (a:=s.heap.objs.size) (o:=.own (s.heap.objs.size+1)) (h':=s.heap.push UI) (t':=s.toks) (λb u q=>ue _ q) (uk _) ⟨_,e1⟩;refine I1.laid (a:=s.heap.objs.size+1) (o:=.ins C s.heap.objs.size []) (t':=s.toks) (λb u q=>ue _ q) (Nat.le_of_eq (Ud _ _)) ?_;have ne:s.heap.objs.size≠s.heap.objs.size+1:=uZ (tE _);refine⟨by rw[zo ne,uX9],uS _,ne,e2,λ_=>nO,(Heap.Ns1.of_empty e3).at λo q=>ue _ q,λ_=>True.intro,λy hy=>absurd rfl hy⟩
theorem Q8{Q:VSP}(hb:attributeBase e f env (eval e env)=eval e env)
  (h:wpAny (model prog w) A (eval e env) (λo s₁=>wpAny (model prog w) A (getAttr o f tU) Q E s₁) E s):wpAny (model prog w) A (eval (.Attribute e f pos) env) Q E s :=
 Attribute_any_ h (by rw[arm_eval_Attribute,hb])
end
def tFld(K:uc)(ta:TE)(f:Str):TE:=λσ H Q=>ta σ H λx H1=>∃a C dx fs v,x=.ref a/\H1 a=sO (.ins C dx fs)/\Cls K C/\NoAttr K C f/\fs.lookup f=sO v/\Q v H1
def sFld(K:uc)(ta tv:TE)(f:Str):TS:=λD σ H=>tv σ H λy H1=>ta σ H1 λx H2=>∃a C dx fs,x=.ref a/\H2 a=sO (.ins C dx fs)/\Cls K C/\NoAttr K C f/\fs.length < 1000 /\
 D.nx σ (upd H2 a (.ins C dx (putF f y fs)))
section
variable{o:Expr}{f:Str}{tv:TE}
theorem zcD(he:PE X e ta)(hb:attributeBase e f X.env (eval e X.env)=eval e X.env):PE X (.Attribute e f pos) (tFld X.K ta f):=by
 intro pins s σ H Q I h;refine Q8 hb (thn (he pins s σ H _ I h) λu s1 h_=>?_);obtain⟨x,H1,I1,rx,a,C,dx,fs,v,ex,ea,c,n,l,q⟩:=h_;subst ex;obtain rfl:u=Value.ref a:=rx;exact Y1 I1 ea c n l λu' s2 I2 ru=>⟨v,H1,I2,ru,q⟩
theorem zcE(ha:PE X o ta)(hv:PE X value tv)(hs:swapsWith value (sO (.Attribute o f pos')) pos.line X.env=pure fO):PS X (.Assign [.Attribute o f pos'] value pos) (sFld X.K ta tv f):=by
 intro pins s σ H D I h;refine plainObj_wpAny_Assign_Attribute (thn (hv pins s σ H _ I h) λu s1 h_=>?_) hs;obtain⟨y,H1,I1,ry,q⟩:=h_;refine thn (ha pins s1 σ H1 _ I1 q) λov s2 h_=>?_;obtain⟨x,H2,I2,rx,a,C,dx,fs,ex,ea,c,n,l,q2⟩:=h_;subst ex;obtain rfl:ov=Value.ref a:=rx;exact Y3 I2 ea c n l ry λs3 I3=>⟨σ,_,I3,q2⟩
end
section
variable{Q:VSP}{c:aA}{b:Bool}
inductive TyOf(K:uc)(H:Hp):V->aA->Prop where
 |non:TyOf K H .non (.type "NoneType")
 |bl (x:Bool):TyOf K H (.bl x) (.type "bool")
 |int (i:Int):TyOf K H (.int i) (.type "int")
 |str (x:Str):TyOf K H (.str x) (.type "str")
 |flt (x:UInt64):TyOf K H (.flt x) (.type "float")
 |lst {a:aO} {xs:List V} (e:H a=sO (.lst xs)):TyOf K H (.ref a) (.type "list")
 |frz {a:aO} {o:Obj} {xs:List V} (e:H a=sO (.frz o (.lst xs))):TyOf K H (.ref a) (.type "list")
 |tup {a:aO} {xs:List V} (e:H a=sO (.tup xs)):TyOf K H (.ref a) (.type "tuple")
 |dK {a:aO} {kvs:List (Key×V)} (e:H a=sO (.dK kvs)):TyOf K H (.ref a) (.type "dict")
 |dT {a:aO} {kvs:List (List Key×V)} (e:H a=sO (.dT kvs)):TyOf K H (.ref a) (.type "dict")
 |ins {a C dx:aO} {fs:List (Str×V)} (e:H a=sO (.ins C dx fs)) (cl:Cls K C) (ha:uU K (.ref C) "__class__"=sO (sO (.builtin "object.__class__")))
   (hn:PySem.W.specialIn K (.builtin "object.__class__") "__get__"=sO (sO (.builtin "getset_descriptor.__get__"))) (htk:PySem.W.takesIn K (.builtin "object.__class__")=sO tU)
   (hm:PySem.W.mroIn K C (.type "object")=sO tU):TyOf K H (.ref a) (.ref C)
theorem WT{x:V}{t:aA}(I:Inv X pins σ H s)(rx:RelV x u)(ty:TyOf X.K H x t)(e:PySem.W.kitOne X.K t c=sO b)(h:∀tk,Q (.bool b) { s with toks:=tk }):
  wpAny (model X.prog X.w) A (call (.builtin "isinstance") [u,c]) Q E s:=by
 cases ty with
 |non=>cases(show u=Value.none from rx);exact UB PySem.W.kitx_none I.kIn True.intro e (λz=>nomatch z) h
 |bl y=>cases(show u=Value.bool y from rx);exact UB PySem.W.kitx_bool I.kIn True.intro e (λz=>nomatch z) h
 |int i=>obtain⟨t,q⟩:=(show ∃t,u=Value.int i t from rx);cases q;exact UB PySem.W.kitx_int I.kIn True.intro e (λz=>nomatch z) h
 |str y=>obtain⟨t,q⟩:=(show ∃t,u=Value.str y t from rx);cases q;exact UB PySem.W.kitx_str I.kIn True.intro e (λz=>nomatch z) h
 |flt y=>obtain⟨t,q⟩:=(show ∃t,u=Value.float y t from rx);cases q;exact UB PySem.W.kitx_float I.kIn True.intro e (λz=>nomatch z) h
 |@lst a xs ea =>
  cases(show u=Value.ref a from rx);obtain⟨_,_,n,_,h1⟩:=(show ObjOk X.prog X.w H s.heap a (.lst xs)from I.hok a _ ea);exact UB PySem.W.kitx_list I.kIn ⟨_,h1,rfl⟩ e (λz=>nomatch z) h
 |@frz a ob xs ea =>
  cases(show u=Value.ref a from rx);obtain⟨_,_,_,n,_,h1⟩:=(show ObjOk X.prog X.w H s.heap a (.frz ob (.lst xs))from I.hok a _ ea);exact UB PySem.W.kitx_list I.kIn ⟨_,h1,rfl⟩ e (λz=>nomatch z) h
 |@tup a xs ea =>
  cases(show u=Value.ref a from rx);obtain⟨_,_,_,p⟩:=(show ObjOk X.prog X.w H s.heap a (.tup xs)from I.hok a _ ea);obtain⟨o,h1,h2,_⟩:=p;exact UB PySem.W.kitx_tuple I.kIn ⟨o,h1,h2⟩ e (λz=>nomatch z) h
 |@dK a kvs ea =>
  cases(show u=Value.ref a from rx);obtain⟨_,_,vs,_,p⟩:=(show ObjOk X.prog X.w H s.heap a (.dK kvs)from I.hok a _ ea);obtain⟨o,es,ep,h1,h2,_⟩:=p;exact UB PySem.W.kitx_dict I.kIn ⟨o,h1,h2.1⟩ e (λz=>nomatch z) h
 |@dT a kvs ea =>
  cases(show u=Value.ref a from rx);obtain⟨_,_,xs,_,o,es,ep,h1,h2,_⟩:=(show ObjOk X.prog X.w H s.heap a (.dT kvs)from I.hok a _ ea);exact UB PySem.W.kitx_dict I.kIn ⟨o,h1,h2.1⟩ e (λz=>nomatch z) h
 |@ins a C dx fs ea cl ha hn htk hm =>
  cases(show u=Value.ref a from rx);obtain⟨mA,O,_⟩:=vp I.hok ea;obtain⟨od,J,_⟩:=O.look;exact UB (PySem.W.kitx_own (cl.get _) cl.hd ha hn htk hm) I.kIn J e (λz=>nomatch z) h
end
structure Room(k:Nat)(A:Around):Prop where
 hd:A.handled=nO
 dp:A.depth+3*k+5 < recursionLimit
 un:A.units+16*k+200 < cLine
theorem Room.mono{k:Nat}(r:Room k A)(h:j<=k):Room j A:=⟨r.hd,by have:=r.dp;lia,by have:=r.un;lia⟩
theorem Room.deeper{k:Nat}(r:Room (k+1) A)(env:Env):Room k (A.deeper env) :=
 ⟨r.hd,by have:=r.dp;show A.depth+1+3*k+5 < _;lia,by have:=r.un;show A.units+3+16*k+200 < _;lia⟩
theorem Y4{us:List aA}:(A.under (.builtin "type.__call__" ⟨.ref C::us,kw⟩)).depth=A.depth+1:=by
 first|rfl|simp[Around.under,Code.weight,Code.isCreation,Code.isGuard,Code.isCaller,Code.frames,Code.isFrame,guardIds]
theorem Y5{us:List aA}:(A.under (.builtin "type.__call__" ⟨.ref C::us,kw⟩)).units=A.units+1:=by
 first|rfl|simp[Around.under,Code.cUnits,Code.frames,Code.isFrame]
theorem Room.make{k:Nat}(r:Room (k+1) A)(C:aO)(us:List aA)(kw:List (Str×aA)):Room k (A.under (.builtin "type.__call__" ⟨.ref C::us,kw⟩)) :=
 ⟨r.hd,by have:=r.dp;rw[Y4];lia,by have:=r.un;rw[Y5];lia⟩
theorem Room.depth{k:Nat}(r:Room k A):A.depth < recursionLimit:=by have:=r.dp;lia
theorem Room.units{k:Nat}(r:Room k A):A.units+64 < cLine:=by have:=r.un;lia
theorem Room.units0{k:Nat}(r:Room k A):A.units < cLine:=by have:=r.un;lia
def tNil:TA:=λ_ H Q=>Q [] H
def yk(ta:TE)(tr:TA):TA:=λσ H Q=>ta σ H λx H1=>tr σ H1 λxs H2=>Q (x::xs) H2
section
variable{t:TA}
theorem zcF:PA X [] tNil:=λ_ _ _ _ H Q I h=>Calls.spliced_nil ⟨[],H,I,.nil,h⟩
theorem Q9(ha:PE X e te)(hr:PA X es t)(hs:%[starEach (e::es) X.env=(fO,eval e X.env)::starEach es X.env|1]):PA X (e::es) (yk te t):=by
 intro pos pins s σ H Q I h;rw[hs];show wpAny _ _ (spliced ((fO,eval e X.env)::backTo pos (starEach es X.env))) _ _ s;refine Calls.spliced_cons (thn (ha pins s σ H _ I h) λu s1 h_=>?_);obtain⟨x,H1,I1,r1,q1⟩:=h_;refine thn (hr pos pins s1 σ H1 _ I1 q1) λus s2 h_=>?_;obtain⟨xs,H2,I2,r2,q2⟩:=h_;exact⟨x::xs,H2,I2,.cons r1 r2,q2⟩
def tTup(t:TA):TE:=λσ H Q=>t σ H λxs H1=>xs.length<=sizeLine/\∀p,H1 p=nO->Q (.ref p) (upd H1 p (.tup xs))
def tLst(t:TA):TE:=λσ H Q=>t σ H λxs H1=>xs.length<=sizeLine/\∀p,H1 p=nO->Q (.ref p) (upd H1 p (.lst xs))
theorem zcG{x1}(h:PA X es t):PE X (.Tuple es x1 pos) (tTup t):=by
 intro pins s σ H Q I hq;refine wpAny_Tuple_spliced (thn (h pos pins s σ H _ I hq) λus s1 h_=>?_);obtain⟨xs,H1,I1,r,z,q⟩:=h_;refine⟨by rw[<- r.length];exact z,?_⟩;have hf:H1 s1.heap.objs.size=nO:=I1.hok.fresh (uk _);refine⟨.ref s1.heap.objs.size,upd H1 s1.heap.objs.size (.tup xs),I1.laid (t':=s1.toks) (λb u e=>ue _ e) (uk _) ?_,rfl,q _ hf⟩;exact⟨z,us,r,⟨_,ux _ rfl,rfl,rfl,_,rfl⟩⟩
theorem zcH(h:PA X es t):PE X (.List es pos) (tLst t):=by
 intro pins s σ H Q I hq;refine wpAny_List_spliced (thn (h pos pins s σ H _ I hq) λus s1 h_=>?_);obtain⟨xs,H1,I1,r,z,q⟩:=h_;refine⟨by rw[<- r.length];exact z,?_⟩;have hf:H1 s1.heap.objs.size=nO:=I1.hok.fresh (uk _);refine⟨.ref s1.heap.objs.size,upd H1 s1.heap.objs.size (.lst xs),I1.laid (t':=s1.toks) (λb u e=>ue _ e) (uk _) ?_,rfl,q _ hf⟩;exact⟨z,us,0,r,ux _ rfl⟩
end
abbrev Sp:=List V->Hp->VK->XK->Prop
abbrev CXT:=List Env->Hp->Shared->XK->aA->Shared->Prop
variable{CX:CXT}
structure Env0(P:Program)(w:World)(K:uc)(mg:Str->Option aA)(base:Heap)(A:Around)(outer:List Env)(s:Shared)(H:Hp):Prop where
 frames:A.frames=sO outer
 mod:Mod K mg base
 bs:∀b o,base.get? b=sO o->s.heap.get? b=sO o/\H b=nO
 bsz:base.objs.size<=s.heap.objs.size
 funs:s.heap.FunFrames base outer
 frf:∀b∈frs outer,H b=nO
 hok:HOk P w H s.heap
 bare:AllBare s.gens
def CE(outer:List Env)(P:Program)(w:World)(H:Hp)(s:Shared)(Q:VK)(u:aA)(s':Shared):Prop :=
 ∃v H',s'.os=s.os/\AllBare s'.gens/\Un (frs outer) [] H H' s.heap s'.heap/\HOk P w H' s'.heap/\RelV v u/\Q v H'
def CR(CX:CXT)(outer:List Env)(P:Program)(w:World)(H:Hp)(s:Shared)(Q:VK)(E:XK)(r:Result)(s':Shared):Prop :=
 match r with
 |.ok (.ret u)=>CE outer P w H s Q u s'
 |.ok _=>False
 |.error e=>CX outer H s E e s'
structure FnOk(P:Program)(w:World)(K:uc)(mg:Str->Option aA)(base:Heap)(CX:CXT)(k:Nat)(f:aO)(fd:FuncData)(ps:lS)(sp:Sp):Prop where
 len:∀vs H Q E,sp vs H Q E->vs.length=ps.length
 run:∀(A:Around)(outer:List Env)(s:Shared)(H:Hp)(args:Args)(us:List aA)(vs:List V)(Q:VK)(E:XK),Room k A->Env0 P w K mg base A outer s H->BindsTo s fd args (ps.zip us)->Vals vs us->sp vs H Q E ->
  codeAny (model P w) A (.call (.ref f) args) (CR CX outer P w H s Q E) s
theorem FnOk.mono{K:uc}{k:Nat}{sp:Sp}(F:FnOk P w K mg base CX j f fd ps sp)(h:j<=k):
  FnOk P w K mg base CX k f fd ps sp:=⟨F.len,λA outer s H args us vs Q E hr=>F.run A outer s H args us vs Q E (hr.mono h)⟩
theorem Env0.make{K:uc}{outer:List Env}(e:Env0 P w K mg base A outer s H)(C:aO)(us:List aA)(kw:List (Str×aA)):
  Env0 P w K mg base (A.under (.builtin "type.__call__" ⟨.ref C::us,kw⟩)) outer s H:=⟨by first|exact e.frames|(simpa[Around.under,Code.envs,Code.isFrame,pushEnvs]using e.frames),e.mod,e.bs,e.bsz,e.funs,e.frf,e.hok,e.bare⟩
theorem Inv.env0(I:Inv X pins σ H s):Env0 X.prog X.w X.K X.mg X.base X.A X.stack s H :=
 ⟨I.ok.frames,I.ok.mod,I.bs,uF I.ok.bsz I.sz,I.stack,I.stkFree,I.hok,I.bare⟩
theorem Inv.after{Q:VK}(I:Inv X pins σ H s)(h:CE X.stack X.prog X.w H s Q u s'):EP X pins σ Q u s':=by
 obtain⟨v,H',os,bare,un,hok,r,q⟩:=h;obtain⟨hh,g,d,t,os'⟩:=s';obtain rfl:os'=s.os:=os;exact⟨v,H',I.call (h':=hh) (g':=g) (d':=d) (t':=t) (ch:=[]) un hok bare (λb z=>absurd z ba),r,q⟩
def ZX(sp:Sp)(dvs:List V)(E:XK)(t:TA):TE:=λσ H Q=>t σ H λvs H1=>sp (vs++dvs) H1 Q E
def zbA(C:aO)(m:Str)(sp:Sp)(dvs:List V)(E:XK)(ta:TE)(t:TA):TE:=λσ H Q=>ta σ H λx H1=>∃a dx fs,x=.ref a/\H1 a=sO (.ins C dx fs)/\fs.lookup m=nO /\
 t σ H1 λvs H2=>sp (x::(vs++dvs)) H2 Q E
def zbB(C:aO)(sp:Sp)(dvs:List V)(E:XK)(t:TA):TE:=λσ H Q=>t σ H λvs H1=>∀x dx,H1 x=nO->H1 dx=nO->dx≠x ->
 sp (.ref x::(vs++dvs)) (upd (upd H1 dx (.own x)) x (.ins C dx [])) (λv H2=>v=.non/\Q (.ref x) H2) E
def Binds(K:uc)(fd:FuncData)(ps:lS)(ds:List aA):Prop :=
 ∀(s:Shared)(us:List aA),K.In s.heap->(us++ds).length=ps.length->BindsTo s fd ⟨us,[]⟩ (ps.zip (us++ds))
theorem Binds.all{K:uc}(h:∀us:List aA,us.length=ps.length->bindArgs fd ⟨us,[]⟩=pure (ps.zip us)):Binds K fd ps []:=λs us _ hl=>by
 rw[u7]at hl ⊢;exact .of_eq (h us hl)
def xb(CX:CXT)(X:Cx)(E:XK):Prop:=∀(pins:List (aO×Obj))(σ:St)(H:Hp)(s:Shared)(e:aA)(s':Shared),Inv X pins σ H s->CX X.stack H s E e s'->X.xe e s'
section
variable{k:Nat}{sp:Sp}{dvs:List V}{E:XK}{m:Str}{o:Expr}{t:TA}
theorem jY{Q:VK}{us:List aA}{vs:List V}(F:FnOk X.prog X.w X.K X.mg X.base CX k f fd ps sp)(hr:Room k X.A)(hb:Binds X.K fd ps ds)(hd:Vals dvs ds)(hx:xb CX X E)
  (I:Inv X pins σ H s) (r:Vals vs us) (h:sp (vs++dvs) H Q E):wpAny (model X.prog X.w) X.A (call (.ref f) us) (EP X pins σ Q) X.xe s:=by
 have r2:Vals (vs++dvs) (us++ds):=r.append hd;have hl:(us++ds).length=ps.length:=by rw[<- r2.length];exact F.len _ _ _ _ h
 refine wpAny_call (codeAny_mono (F.run X.A X.stack s H ⟨us,[]⟩ (us++ds) (vs++dvs) Q E hr I.env0 (hb s us I.kIn hl) r2 h) λr s' hq=>?_);cases r with
 |error e=>exact hx pins σ H s e s' I hq
 |ok fl =>
  cases fl with
  |ret u=>exact I.after hq
  |next=>exact False.elim hq
  |brk=>exact False.elim hq
  |cont=>exact False.elim hq
theorem zaa(F:FnOk X.prog X.w X.K X.mg X.base CX k f fd ps sp)(hr:Room k X.A)(hg:Gl X x)(hm:X.mg x=sO (.ref f))(hk:uY X.K (.ref f)=tU)(hb:Binds X.K fd ps ds)(hd:Vals dvs ds)(hx:xb CX X E)
  (ha:PA X (e::es) t) (hdb:%[(x == ("__debug__":Str))=fO|2]) (he:%[starEach (e::es) X.env=(fO,eval e X.env)::starEach es X.env|1]) (hpl:%[(backTo pos (starEach es X.env)).any (·.1)=fO|1]) :
  PE X (.Call (.Name x p) (e::es) [] pos) (ZX sp dvs E t):=by
 intro pins s σ H Q I h;refine wpAny_Call_Name_kw (vo I hg hm ?_ hdb);refine U3 (h₀:=X.base) I.ok.mod.kin hk (thn (ha pos pins s σ H _ I h) λus s1 h_=>?_) he hpl;obtain⟨vs,H1,I1,r,q⟩:=h_;refine⟨I1.kIn,?_⟩;exact jY F hr hb hd hx I1 r q
theorem zab{pl:Sem Bool}(he:PE X o ta)(c:Cls X.K C)(hm:Meth X.K C m f)(F:FnOk X.prog X.w X.K X.mg X.base CX k f fd ps sp)(hr:Room k X.A)(hb:Binds X.K fd ps ds)(hd:Vals dvs ds)(hx:xb CX X E)(ha:PA X (e::es) t)
  (hst:%[starEach (e::es) X.env=(fO,eval e X.env)::starEach es X.env|1]) (hpl:%[(backTo pos (starEach es X.env)).any (·.1)=fO|1])
  (ht:%[eval (.Call (.Attribute o m apos) (e::es) [] pos) X.env=(do
   let ov <- eval o X.env
   standAt apos.atName
   let (f,first) <- holding [ov] (getMethod ov m pl)
   callWith pos f first (backTo pos (starEach (e::es) X.env)) (backToKw pos (keywordEach [] X.env)))|1]) :
  PE X (.Call (.Attribute o m apos) (e::es) [] pos) (zbA C m sp dvs E ta t):=by
 intro pins s σ H Q I h;refine PySem.W.methodCall_KW (pl:=pl) (thn (he pins s σ H _ I h) λu s1 h_=>?_) ht;obtain⟨x,H1,I1,rx,a,dx,fs,ex,ea,l,q⟩:=h_;subst ex;obtain rfl:u=Value.ref a:=rx;refine Y2 I1 ea c hm l ?_;refine U3 (first:=[.ref a]) (h₀:=X.base) I.ok.mod.kin hm.kp (thn (ha pos pins s1 σ H1 _ I1 q) λus s2 h_=>?_) hst hpl;obtain⟨vs,H2,I2,r,q2⟩:=h_;refine⟨I2.kIn,?_⟩;exact jY (us:=.ref a::us) (vs:=.ref a::vs) F hr hb hd hx I2 (.cons rfl r) q2
structure Mk(K:uc)(C f:aO):Prop where
 makes:PySem.W.makesIn K C=tU
 init:uU K (.ref C) "__init__"=sO (sO (.ref f))
 fn:PySem.W.isFn K (.ref f)=tU
 kp:uY K (.ref C)=tU
theorem VS{Q:VK}{us:List aA}{vs:List V}(M:Mk X.K C f)(F:FnOk X.prog X.w X.K X.mg X.base CX k f fd ps sp)(hr:Room (k+1) X.A)(hb:Binds X.K fd ps ds)(hd:Vals dvs ds)
  (hx:xb CX X E) (I:Inv X pins σ H s) (r:Vals vs us)
  (h:∀x dx,H x=nO->H dx=nO->dx≠x->sp (.ref x::(vs++dvs)) (upd (upd H dx (.own x)) x (.ins C dx [])) (λv H2=>v=.non/\Q (.ref x) H2) E) :
  wpAny (model X.prog X.w) X.A (call (.ref C) us) (EP X pins σ Q) X.xe s:=by
 have hq:=h (s.heap.objs.size+1) s.heap.objs.size (I.hok.fresh (Nat.le_succ _)) (I.hok.fresh (uk _)) (uZ (tE _));have I2:=Inv.made (C:=C) I;have r2:Vals (V.ref (s.heap.objs.size+1)::(vs++dvs)) (Value.ref (s.heap.objs.size+1)::(us++ds)):=.cons rfl (r.append hd);have hl:(Value.ref (s.heap.objs.size+1)::us++ds).length=ps.length:=by
  have e:=r2.length;rw[F.len _ _ _ _ hq]at e;exact e.symm
 refine wpAny_call (VR (f:=f) I.kIn M.makes M.init (beq_iff_eq.mp M.fn) (codeAny_mono (F.run _ X.stack _ _ ⟨Value.ref (s.heap.objs.size+1)::us,[]⟩ (Value.ref (s.heap.objs.size+1)::(us++ds)) _ _ E (hr.make C us [])
  (I2.env0.make C us []) (hb _ (Value.ref (s.heap.objs.size+1)::us) I2.kIn hl) r2 hq) λr s' hq'=>?_))
 cases r with
 |error e=>exact hx pins σ _ _ e s' I2 hq'
 |ok fl =>
  cases fl with
  |ret u =>
   obtain⟨v,H',I3,rv,ev,q3⟩:=I2.after hq';subst ev;exact⟨rv,⟨V.ref (s.heap.objs.size+1),H',I3,rfl,q3⟩⟩
  |next=>exact False.elim hq'
  |brk=>exact False.elim hq'
  |cont=>exact False.elim hq'
theorem zac(M:Mk X.K C f)(F:FnOk X.prog X.w X.K X.mg X.base CX k f fd ps sp)(hr:Room (k+1) X.A)(hg:Gl X x)(hm:X.mg x=sO (.ref C))(hb:Binds X.K fd ps ds)(hd:Vals dvs ds)(hx:xb CX X E)
  (ha:PA X (e::es) t) (hdb:%[(x == ("__debug__":Str))=fO|2]) (he:%[starEach (e::es) X.env=(fO,eval e X.env)::starEach es X.env|1]) (hpl:%[(backTo pos (starEach es X.env)).any (·.1)=fO|1]) :
  PE X (.Call (.Name x p) (e::es) [] pos) (zbB C sp dvs E t):=by
 intro pins s σ H Q I h;refine wpAny_Call_Name_kw (vo I hg hm ?_ hdb);refine U3 (h₀:=X.base) I.ok.mod.kin M.kp (thn (ha pos pins s σ H _ I h) λus s1 h_=>?_) he hpl;obtain⟨vs,H1,I1,r,q⟩:=h_;refine⟨I1.kIn,?_⟩;exact VS M F hr hb hd hx I1 r q
end
structure FnScope(N P:lS)(sc:Scope):Prop where
 kind:sc.kind=.function
 co:sc.isCoroutine=fO
 gen:sc.isGenerator=fO
 nd:N.Nodup
 pre:N.take P.length=P
 par:∀x∈P,sc.names.lookup x=sO .local\/sc.names.lookup x=sO .cell
 nofree:∀y∈sc.names,y.2≠.free
theorem FnScope.ok{P:lS}(a:%[N.Nodup|5])(b:%[∀x∈P,sc.names.lookup x=sO .local\/sc.names.lookup x=sO .cell|5])(c:%[∀y∈sc.names,y.2≠.free|5])(d:%[sc.kind=.function|1])(e:%[sc.isCoroutine=fO|1])(f:%[sc.isGenerator=fO|1])(g:%[N.take P.length=P|1]):FnScope N P sc:=⟨d,e,f,a,g,b,c⟩
theorem js{kindOf:Str->Option NameKind}{x:Str}:∀{binds:List (Str×aA)}{m:Str->Option aA},(∀v,(x,v)∉binds)->bindL kindOf binds m x=m x
 |[],_,_=>rfl
 | (n,v)::r,m,h=>by
  unfold bindL;rw[js λw hw=>h w (Uq _ hw)];split
  .have:x≠n:=by rintro rfl;exact h v Ui
   simp[this]
  .rfl
theorem jt{kindOf:Str->Option NameKind}{x:Str}:∀{binds:List (Str×aA)}{m:Str->Option aA},(∀v,(x,v)∉binds)->bindC kindOf binds m x=m x
 |[],_,_=>rfl
 | (n,v)::r,m,h=>by
  unfold bindC;rw[jt λw hw=>h w (Uq _ hw)];split
  .rfl
  .have:x≠n:=by rintro rfl;exact h v Ui
   simp[this]
theorem ju{kindOf:Str->Option NameKind}{x:Str}{v:aA}:∀{P:lS}{vs:List aA}{i:Nat}{m:Str->Option aA},P.Nodup->P[i]?=sO x->vs[i]?=sO v->kindOf x=sO .local ->
  bindL kindOf (P.zip vs) m x=sO v
 |[],_,_,_,_,h,_,_=>bg
 |_::_,[],_,_,_,_,h,_=>bg
 |p::P,w::vs,0,m,nd,h1,h2,hk=>by
  simp at h1 h2;subst h1;subst h2
  show bindL kindOf ((p,w)::P.zip vs) m p=_;unfold bindL;rw[js λv hv=>(uV.mp nd).1 (UC hv).1,iP hk];simp
 |p::P,w::vs,i+1,m,nd,h1,h2,hk=>by
  show bindL kindOf ((p,w)::P.zip vs) m x=_;unfold bindL;exact ju (i:=i) (uV.mp nd).2 bf (by simpa using h2) hk
theorem jw{kindOf:Str->Option NameKind}{x:Str}{v:aA}:∀{P:lS}{vs:List aA}{i:Nat}{m:Str->Option aA},P.Nodup->P[i]?=sO x->vs[i]?=sO v->kindOf x≠sO .local ->
  bindC kindOf (P.zip vs) m x=sO v
 |[],_,_,_,_,h,_,_=>bg
 |_::_,[],_,_,_,_,h,_=>bg
 |p::P,w::vs,0,m,nd,h1,h2,hk=>by
  simp at h1 h2;subst h1;subst h2
  show bindC kindOf ((p,w)::P.zip vs) m p=_;unfold bindC;rw[jt λv hv=>(uV.mp nd).1 (UC hv).1,iN hk];simp
 |p::P,w::vs,i+1,m,nd,h1,h2,hk=>by
  show bindC kindOf ((p,w)::P.zip vs) m x=_;unfold bindC;exact jw (i:=i) (uV.mp nd).2 bf (by simpa using h2) hk
def start(N:lS)(vs:List V):St:=vs.map sO++uT (N.length-vs.length) nO
noncomputable def cxOf (CX:CXT) (P:Program) (w:World) (K:uc) (mg:Str->Option aA) (base:Heap) (N:lS) (qual:Str) (scope:Scope) (f:aO) (cd:aA) (A:Around) (outer:List Env) (s:Shared) (H:Hp) (E:XK):Cx where
 prog:=P
 w:=w
 K:=K
 mg:=mg
 base:=base
 A:=A.deeper (envOfC qual scope s.heap.objs.size f cd)
 N:=N
 s₀:=s
 H₀:=H
 env:=envOfC qual scope s.heap.objs.size f cd
 outer:=outer
 stack:=envOfC qual scope s.heap.objs.size f cd::outer
 ex:=[]
 calm:=tU
 fn:=λ_=>tU
 pn:=[]
 xe:=λe s'=>wpAny (model P w) (A.deeper (envOfC qual scope s.heap.objs.size f cd)) (leaving (envOfC qual scope s.heap.objs.size f cd) e) (λ_ s''=>CX outer H s E e s'') (λe' s''=>CX outer H s E e' s'') s'
theorem ZY(h:sc.names.lookup x=sO .cell):∃c,(cellsFrom n sc.names []).lookup x=sO c:=by
 have q:=tT sc.names n [] (.inl h);exact tL.mp q
theorem jx{K:uc}{cd:aA}{outer:List Env}{s1:Shared}{E:XK}{us:List aA}{vs:List V}
  (S:FnScope N ps scope) (hd:A.handled=nO) (e0:Env0 P w K mg base A outer s H) (hl:vs.length=ps.length) (r:Vals vs us)
  (x:InCallC s s.heap.objs.size (bindL (envOfC qual scope s.heap.objs.size f cd).kindOf (ps.zip us) λ_=>nO) (cellsFrom (s.heap.objs.size+1) scope.names []) (bindC (envOfC qual scope s.heap.objs.size f cd).kindOf (ps.zip us) λ_=>nO) s1) :
  Inv (cxOf CX P w K mg base N qual scope f cd A outer s H E) [] (start N vs) H s1:=by
 have hpl:ps.length<=N.length:=by have:=congrArg tu S.pre;rw[uv]at this;lia
 obtain⟨h1,tk,rfl,hk⟩:=x.done;have noA:∀b:aO,b∉(cxOf CX P w K mg base N qual scope f cd A outer s H E).ex:=λb z=>absurd (show b∈([]:List aO)from z) ba;refine⟨⟨e0.mod,S.kind,rfl,rfl,uk _,λy z c h1 h2=>?_,λy hy=>?_,λy c _ h=>?_,λ_=>hd,Around.frames_deeper e0.frames,.inr ⟨rfl,rfl⟩,λb z=>absurd z (noA b),e0.bs,e0.bsz,λb _ _=>noA b,λb z=>absurd z (noA b),e0.funs,e0.frf⟩,
  rfl,e0.bare,Un.kept hk,⟨_,x.toInCall.ns,λi y v h1 h2 h3=>?_⟩,λy c h=>⟨_,x.cell y c h⟩,e0.hok.fresh (uk _),λy c h=>?_,λp hp=>absurd (show p∈([]:List (aO×Obj))from hp) ba,e0.hok.kept hk,?_⟩
 .exact name_of_addr x.apart (uW h1) (uW h2)
 .have hy:scope.names.lookup y=sO .cell\/scope.names.lookup y=sO .free:=hy
  rcases hy with hy|hy
  .exact ZY hy
  .exact absurd rfl (S.nofree _ (uW hy))
 .exact Nat.le_of_lt (x.above y c (uW h))
 .have hi:i < vs.length:=by
   unfold start at h2;by_cases hi:i < vs.length
   .exact hi
   .rw[UA (by simpa using hi)]at h2
    rw[List.getElem?_replicate]at h2;split at h2<;>cases h2
  have ha:vs[i]?=sO v:=by
   unfold start at h2;rw[Ur (by simpa using hi),uh]at h2;cases e:vs[i]? with
   |none=>rw[e]at h2;cases h2
   |some a=>rw[e]at h2;cases h2;rfl
  obtain⟨u,hu,rv⟩:=r.get ha;have hp:ps[i]?=sO y:=by
   rw[<- S.pre,List.getElem?_take_of_lt b8];exact h1
  have ndP:ps.Nodup:=by rw[<- S.pre];exact S.nd.sublist (List.take_sublist _ _)
  refine⟨u,rv,?_⟩;rcases S.par y (uu hp)with k|k
  .exact .inl ⟨k,ju ndP hp hu k⟩
  .obtain⟨c,e⟩:=ZY (n:=s.heap.objs.size+1) k
   refine .inr ⟨.inl k,c,e,?_⟩;have q:=x.cell y c e;rw[jw ndP hp hu (by show scope.names.lookup y≠_;rw[k];decide)]at q;exact q
 .exact e0.hok.fresh (Nat.le_of_lt (x.above y c (uW h)))
 .unfold start
  show _=N.length;rw[ud,ub,Uz];lia
theorem zbC{K:uc}{k:Nat}{dV kV:aA} {sp:Sp} (lk:K.lookup f=sO ⟨oc,od,.func (Ue name qual params body scope dV kV doc pm an cdv ct),osl⟩) (hcd:UM K cdv qual=tU) (S:FnScope N ps scope)
  (len:∀vs H Q E,sp vs H Q E->vs.length=ps.length)
  (hbody:∀(A:Around)(outer:List Env)(s:Shared)(H:Hp)(vs:List V)(Q:VK)(E:XK),Room k (A.deeper (envOfC qual scope s.heap.objs.size f cdv))->sp vs H Q E ->
   ∃t,PSs (cxOf CX P w K mg base N qual scope f cdv A outer s H E) body t/\t { nx:=λ_ H'=>Q .non H',rt:=Q } (start N vs) H) :
  FnOk P w K mg base CX (k+1) f (Ue name qual params body scope dV kV doc pm an cdv ct) ps sp:=by
 refine⟨len,λA outer s H args us vs Q E hr e0 hb r hsp=>?_⟩;have hl:=len _ _ _ _ hsp;have KX:K.In s.heap:=e0.mod.kin.keeps λb o e=>(e0.bs b o e).1;have lim:s.heap.NoLimit:=e0.mod.nolimit.keeps λb o e=>(e0.bs b o e).1;have hkind:∀y∈ps.zip us,scope.names.lookup y.1=sO .local\/(scope.names.lookup y.1=sO .cell/\((cellsFrom (s.heap.objs.size+1) scope.names []).lookup y.1).isSome=tU):=λ⟨n,v⟩ hy=>by
  rcases S.par n (UC hy).1 with q|q
  .exact .inl q
  .exact .inr ⟨q,tT _ _ _ (.inl q)⟩
 refine codeAny_call_function hr.depth (KX _ _ lk) rfl S.co S.gen rfl (PySem.W.codeRec_of KX hcd) (hb _ _ _ _ ?_);refine wpAny_newFunctionEnv_cells S.kind hkind λenv he s1 x=>?_;subst he;refine⟨lim.keeps x.toInCall.keep,codeAny_func ?_⟩;obtain⟨t,ht,hq⟩:=hbody A outer s H vs Q E (hr.deeper _) hsp;have I:Inv (cxOf CX P w K mg base N qual scope f cdv A outer s H E) [] (start N vs) H s1:=jx S hr.hd e0 hl r x;refine wpAny_mono (ht [] s1 (start N vs) H _ I hq) (λfl s' hs=>?_) λe s' hs=>hs;have fin:∀{σ':St}{H':Hp}{v:V}{u:aA},Inv (cxOf CX P w K mg base N qual scope f cdv A outer s H E) [] σ' H' s'->RelV v u->Q v H'->CE outer P w H s Q u s' :=
  λ{σ' H' v u} J rv q=>⟨v,H',J.os,J.bare,J.base,J.hok,rv,q⟩
 cases fl with
 |ret u =>
  obtain⟨v,σ',H',J,rv,q⟩:=hs;exact fin J rv q
 |next =>
  obtain⟨σ',H',J,q⟩:=hs;exact fin (v:=V.non) (u:=Value.none) J rfl q
 |brk =>
  obtain⟨_,_,_,q⟩:=hs;exact False.elim q
 |cont =>
  obtain⟨_,_,_,q⟩:=hs;exact False.elim q
section
variable{t:TA}{id T:String}{r:List V->Hp->VK->Prop}
def tCB(r:List V->Hp->VK->Prop)(t:TA):TE:=λσ H Q=>t σ H λvs H1=>r vs H1 Q
theorem VT(hc:xr X (.builtin id) r)(hg:Gl X x)(hm:X.mg x=nO)(hv:bootBuiltins x=sO (.builtin id))(ha:PA X (e::es) t)(hn:%[x≠"__name__"|2])(hdb:%[(x == ("__debug__":Str))=fO|2])
  (he:%[starEach (e::es) X.env=(fO,eval e X.env)::starEach es X.env|1]) (hpl:%[(backTo pos (starEach es X.env)).any (·.1)=fO|1]):PE X (.Call (.Name x p) (e::es) [] pos) (tCB r t):=by
 intro pins s σ H Q I h;refine wpAny_Call_Name_kw (xk I hg hm hv ?_ hn hdb);refine PyProof.Rows.callWith_builtin1 (thn (ha pos pins s σ H _ I h) λus s1 h_=>?_) he hpl;obtain⟨vs,H1,I1,r1,q1⟩:=h_;exact hc pins s1 σ H1 vs us Q I1 r1 q1
theorem WU(hc:xr X (.type T) r)(hg:Gl X x)(hm:X.mg x=nO)(hv:bootBuiltins x=sO (.type T))(ha:PA X (e::es) t)(hn:%[x≠"__name__"|2])(hdb:%[(x == ("__debug__":Str))=fO|2])
  (he:%[starEach (e::es) X.env=(fO,eval e X.env)::starEach es X.env|1]) (hpl:%[(backTo pos (starEach es X.env)).any (·.1)=fO|1]):PE X (.Call (.Name x p) (e::es) [] pos) (tCB r t):=by
 intro pins s σ H Q I h;refine wpAny_Call_Name_kw (xk I hg hm hv ?_ hn hdb);refine Ua (thn (ha pos pins s σ H _ I h) λus s1 h_=>?_) he hpl;obtain⟨vs,H1,I1,r1,q1⟩:=h_;exact hc pins s1 σ H1 vs us Q I1 r1 q1
end
end L2
variable{v:L2.V}{g:L2.TG}{X:L2.Cx}{te ta tb to tl t1 t2 t3 t4 td ty:L2.TE}{r:L2.V->Option Int->Option Int->L2.Hp->L2.VK->Prop}{xs:List L2.V}{σ:L2.St}{H H1 H2 H':L2.Hp}{sp:L2.Sp}{tt:L2.TT}{CX:L2.CXT}{gs:L2.TGs}{D:L2.Ends}{cvs:List (aO×L2.V)}{kvs:List (List L2.Key×L2.V)}{kv:List (L2.Key×L2.V)}
namespace HT
open PySem PyProof.Rows
theorem cat_tup{t:aO}{Q:VSP}(ht:IsTup s.heap t vs.toArray)(hb:IsTup s.heap b ws.toArray)(hv:vs≠[])
  (h1:ws=[]->Q (.ref t) s) (h2:ws≠[]->Q (.ref s.heap.objs.size) { s with heap:=s.heap.push { cls:=.type "tuple",data:=.seq (vs++ws).toArray } })
  (hsz:vs.length+ws.length<=sizeLine):wpAny (model prog w) A (binaryOp .Add (.ref t) (.ref b)) Q E s:=by
 obtain⟨⟨cls,dd,data,sl⟩,ho,hc,n,hd⟩:=id ht;obtain⟨⟨cls2,dd2,data2,sl2⟩,ho2,hc2,n2,hd2⟩:=id hb;simp only at hc hd hc2 hd2
 subst hc hd hc2 hd2;have e:vs.toArray++ws.toArray=(vs++ws).toArray:=ba
 by_cases hw:ws=[]
 .exact concat_meets ⟨_,ho,rfl⟩ ⟨_,ho2,rfl⟩ noFill_tuple_add seq_tuple_add PySem.F.slot_tuple_add PySem.F.entry_tuple_add (PySem.F.args_tuple_add_2 _ _)
   (tuple_addW1 t b vs.toArray ws.toArray n n2 dd dd2 sl sl2 (by simpa using hv) (by simp[hw])) ⟨ho,ho2,h1 hw⟩
 .refine concat_meets ⟨_,ho,rfl⟩ ⟨_,ho2,rfl⟩ noFill_tuple_add seq_tuple_add PySem.F.slot_tuple_add PySem.F.entry_tuple_add (PySem.F.args_tuple_add_2 _ _)
   (tuple_addW2 t b vs.toArray ws.toArray n n2 dd dd2 sl sl2 (by simpa using hv) (by simpa using hw) (by rw[uw,uw];exact hsz)) ⟨ho,ho2,?_⟩
  rw[e];exact h2 hw
noncomputable def sIx (n d:Nat):Option Int->Nat
 |none=>d
 |some v=>if v < 0 then(v+(n:Int)).toNat else min v.toNat n
theorem zcI(n d:Nat)(hd:d<=n)(o:Option Int):sIx n d o<=n:=by
 cases o with
 |none=>exact hd
 |some v =>
  show(if v < 0 then(v+(n:Int)).toNat else min v.toNat n)<=n;by_cases hv:v < 0
  .rw[iP hv];lia
  .rw[iN hv];exact Nat.min_le_right _ _
theorem XW(v:Int)(n d:Nat):(if v < 0 then max (v+(n:Int)) 0 else min v (n:Int))=((sIx n d (sO v):Nat):Int):=by
 show(if v < 0 then max (v+(n:Int)) 0 else min v (n:Int))=(((if v < 0 then(v+(n:Int)).toNat else min v.toNat n):Nat):Int);by_cases hv:v < 0
 .simp only[iP hv];lia
 .simp only[iN hv];lia
theorem Y6(lo hi:Option Int)(n:Nat):Builtin.Slice.sliceAdjust lo hi 1 (n:Int)=(((sIx n 0 lo:Nat):Int),((sIx n n hi:Nat):Int)):=by
 have h1:Not ((1:Int) < 0):=b8
 unfold Builtin.Slice.sliceAdjust;simp only[h1,if_false]
 refine Prod.ext ?_ ?_
 .cases lo with
  |none=>rfl
  |some v=>exact XW v n 0
 .cases hi with
  |none=>rfl
  |some v=>exact XW v n n
theorem Y7(i j:Nat):Builtin.Slice.slicePlaces (i:Int) (j:Int) 1=j-i:=by
 unfold Builtin.Slice.slicePlaces;have h1:(1:Int) > 0:=b8
 simp only[h1,if_true,Int.ediv_one]
 split<;>lia
theorem vF{v:aA}{o:Option Int}{Q:Option Int->Shared->Prop}(p:IsPart v o)(h:Q o s):wpAny (model prog w) A (Builtin.Slice.slicePartIndex v) Q E s:=by
 cases p with
 |none=>exact slicePart_none h
 |int i t=>exact slicePart_int h
theorem xz{Q:Int×Int×Nat->Shared->Prop}(hs:s.heap.IsSliceOf sl vl vu .none)(pl:IsPart vl lo)(pu:IsPart vu hi)
  (h:Q (((sIx n 0 lo:Nat):Int),1,sIx n n hi-sIx n 0 lo) s):wpAny (model prog w) A (Builtin.Slice.sliceApplied (.ref sl) (pure (n:Int))) Q E s:=by
 obtain⟨os,hos,hcs,hds⟩:=id hs;unfold Builtin.Slice.sliceApplied Builtin.Slice.sliceFields;refine bA (bA (wpAny_field hos hds (x:=vl) rfl (bA (wpAny_field hos hds (x:=vu) rfl (bA (wpAny_field hos hds (x:=.none) rfl (pO ?_)))))));refine bA (slicePart_none ?_);show wpAny _ _ (if((1:Int) == 0)=tU then _ else _) _ _ s;rw[iN b9];refine bA (vF pl (bA (vF pu (bA (pO ?_)))));show wpAny _ _ (match Builtin.Slice.sliceAdjust lo hi 1 (n:Int)with|(lo,hi)=>pure (lo,(1:Int),Builtin.Slice.slicePlaces lo hi 1)) _ _ s;rw[Y6 lo hi n];show wpAny _ _ (pure (((sIx n 0 lo:Nat):Int),(1:Int),Builtin.Slice.slicePlaces ((sIx n 0 lo:Nat):Int) ((sIx n n hi:Nat):Int) 1)) _ _ s;rw[Y7];exact pO h
theorem VU(xs:Array aA)(i k:Nat):((uQ k).filterMap λ(m:Nat)=>xs[((i:Int)+(m:Int)*1).toNat]?).toArray=((xs.toList.drop i).take k).toArray:=by
 have e:(λ(m:Nat)=>xs[((i:Int)+(m:Int)*1).toNat]?)=λm=>xs[i+m]?:=by
  funext m
  have:((i:Int)+(m:Int)*1).toNat=i+m:=b8
  rw[this]
 rw[e]
 have:=pick_run xs i k
 rw[List.filterMap_map]at this;have e2:((λx=>xs[x]?) ∘ λx=>i+x)=λm=>xs[i+m]?:=rfl;rw[e2]at this;rw[this]
theorem getItem_tuple_cut{t:aO}{Q:VSP}(ht:IsTup s.heap t items)(hs:s.heap.IsSliceOf sl vl vu .none)(pl:IsPart vl lo)(pu:IsPart vu hi)
  (hw:Not (sIx items.size 0 lo=0/\sIx items.size items.size hi=items.size))
  (h:Q (.ref s.heap.objs.size) { s with heap:=s.heap.push { cls:=.type "tuple",data:=.seq ((items.toList.drop (sIx items.size 0 lo)).take (sIx items.size items.size hi-sIx items.size 0 lo)).toArray } })
  (hsz:items.size<=sizeLine):wpAny (model prog w) A (getItem (.ref t) (.ref sl)) Q E s:=by
 have htake:sizeOk (.seq ((items.toList.drop (sIx items.size 0 lo)).take (sIx items.size items.size hi-sIx items.size 0 lo)).toArray):=by
  show((items.toList.drop (sIx items.size 0 lo)).take (sIx items.size items.size hi-sIx items.size 0 lo)).toArray.size<=sizeLine;rw[uw,uv,List.length_drop,Array.length_toList];lia
 have hj:sIx items.size items.size hi<=items.size:=zcI _ _ (uk _) hi;obtain⟨os,hos,hcs,hds⟩:=id hs;have hTs:s.TypeIs (.ref sl) "slice":=⟨os,hos,hcs⟩;unfold getItem
 try with_reducible refine wpAny_holding ?_
 first|refine bA (pO ?_)|skip
 refine bA (wpAny_sequenceKey ht.typeIs b9 ?_);refine bA (wpAny_callSpecial?_slot (name:=Str.ofString "__getitem__") ht.typeIs Uk
  (wpAny_call_entry Uk ht.typeIs entry_tuple_getitem ?_ (args_tuple_getitem _ _)))
 show wpAny _ _ (Builtin.Tuple.tupleItemsOf (.ref t) >>= _) _ _ s;refine bA (tupleItemsOf_ ht ?_);refine bA (wpAny_typeOf hTs ?_);rw[iP b9];refine bA (xz hs pl pu ?_);have hno:Not ((((sIx items.size 0 lo:Nat):Int) == 0 && (1:Int) == 1 && (sIx items.size items.size hi-sIx items.size 0 lo) == items.size)=tU):=by
  intro q;rw[U1,U1]at q;have q1:((sIx items.size 0 lo:Nat):Int)=0:=eq_of_beq q.1.1;have q2:sIx items.size items.size hi-sIx items.size 0 lo=items.size:=eq_of_beq q.2;exact hw ⟨b8,b8⟩
 show wpAny _ _ (if(((sIx items.size 0 lo:Nat):Int) == 0 && (1:Int) == 1 && (sIx items.size items.size hi-sIx items.size 0 lo) == items.size)=tU then _ else _) _ _ s;rw[iN hno,VU]
 first
  |exact bA (m:=Builtin.Tuple.tupleExact _) (wpAny_newObj_type (pO ⟨_,rfl,pO h⟩) htake)
  |exact bA (m:=Builtin.Tuple.tupleExact _) (wpAny_newObj_type (bA (pO (pO ⟨_,rfl,pO h⟩))) htake)
  |exact bA (bA (m:=Builtin.Tuple.tupleExact _) (wpAny_newObj_type (pO (pO ⟨_,rfl,pO h⟩)) htake))
  |exact bA (bA (m:=Builtin.Tuple.tupleExact _) (wpAny_newObj_type (pO ⟨_,rfl,pO h⟩) htake))
end HT
namespace L2
open PySem PySem.Spec PyProof.Rows
variable{x:V}{v:aA}
abbrev TO:=St->Hp->(Option Int->Hp->Prop)->Prop
def PO(X:Cx)(e:Option Expr)(t:TO):Prop :=
 ∀(pins:List (aO×Obj))(s:Shared)(σ:St)(H:Hp)(Q:Option Int->Hp->Prop),Inv X pins σ H s->t σ H Q ->
  wpAny (model X.prog X.w) X.A (evalPart e X.env) (λu s'=>∃o H',Inv X pins σ H' s'/\IsPart u o/\Q o H') X.xe s
def XX:TO:=λ_ H Q=>Q nO H
def zbD(t:TE):TO:=λσ H Q=>t σ H λx H1=>∃i,x=.int i/\Q (sO i) H1
section
variable{lo hi:Option Expr}{tl th:TO}
theorem zad:PO X nO XX:=by
 intro pins s σ H Q I h;rw[evalPart_none];exact pO ⟨nO,H,I,.none,h⟩
theorem zae(h:PE X e te):PO X (sO e) (zbD te):=by
 intro pins s σ H Q I hw;rw[evalPart_some];refine thn (h pins s σ H _ I hw) λu s1 h_=>?_;obtain⟨x,H1,I1,r1,q1⟩:=h_;obtain⟨i,rfl,q⟩:=q1;obtain⟨t,rfl⟩:=r1;exact⟨sO i,H1,I1,.int i t,q⟩
def SlR(X:Cx)(r:V->Option Int->Option Int->Hp->VK->Prop):Prop :=
 ∀(pins:List (aO×Obj))(s:Shared)(σ:St)(H:Hp)(x:V)(v vl vu:aA)(lo hi:Option Int)(sl:aO)(Q:VK),Inv X pins σ H s->RelV x v->s.heap.IsSliceOf sl vl vu .none->IsPart vl lo->IsPart vu hi->r x lo hi H Q ->
  ∃T id,typeLookup (.type T) "__getitem__"=pure (sO (.builtin id))/\s.TypeIs v T/\wpAny (model X.prog X.w) X.A (getItem v (.ref sl)) (EP X pins σ Q) X.xe s
def tSl(r:V->Option Int->Option Int->Hp->VK->Prop)(te:TE)(tl th:TO):TE:=λσ H Q=>te σ H λx H1=>tl σ H1 λl H2=>th σ H2 λu H3=>r x l u H3 Q
theorem VV(hr:SlR X r)(he:PE X e te)(hl:PO X lo tl)(hu:PO X hi th):PE X (.Subscript e (.Slice lo hi nO p2) pos) (tSl r te tl th):=by
 intro pins s σ H Q I h;refine Subscript_ (thn (he pins s σ H _ I h) λv s1 h_=>?_);obtain⟨x,H1,I1,r1,q1⟩:=h_;refine wpAny_Slice (thn (hl pins s1 σ H1 _ I1 q1) λvl s2 h_=>?_);obtain⟨l,H2,I2,pl,q2⟩:=h_;refine thn (hu pins s2 σ H2 _ I2 q2) λvu s3 h_=>?_;obtain⟨u,H3,I3,pu,q3⟩:=h_;rw[evalPart_none];refine pO ?_;have I4:Inv X pins σ H3 { s3 with heap:=s3.heap.push { cls:=.type "slice",data:=.fields #[vl,vu,.none] } }:=I3.kept (t':=s3.toks) λb ob q=>ue _ q;obtain⟨T,id,hT,ht,hg⟩:=hr pins { s3 with heap:=s3.heap.push { cls:=.type "slice",data:=.fields #[vl,vu,.none] } } σ H3 x v vl vu l u s3.heap.objs.size Q I4 r1 (Heap.IsSliceOf.new ..) pl pu q3;show wpAny (model X.prog X.w) X.A (subscriptTail e (.Slice lo hi nO p2) v (.ref s3.heap.objs.size)) (EP X pins σ Q) X.xe { s3 with heap:=s3.heap.push { cls:=.type "slice",data:=.fields #[vl,vu,.none] } };exact tail_any (ops:=[.ref s3.heap.objs.size,v]) ht hT hg (by with_unfolding_all rfl)
def cutV(xs:List V)(lo hi:Option Int):List V:=(xs.drop (HT.sIx xs.length 0 lo)).take (HT.sIx xs.length xs.length hi-HT.sIx xs.length 0 lo)
theorem vh(xs:List V)(lo hi:Option Int):(cutV xs lo hi).length<=xs.length:=by
 unfold cutV;rw[uv,List.length_drop];lia
def rSlT(K:uc):V->Option Int->Option Int->Hp->VK->Prop:=λx lo hi H Q=>∃a xs,x=.ref a/\SqT K H a xs /\
 Not (HT.sIx xs.length 0 lo=0/\HT.sIx xs.length xs.length hi=xs.length)/\∀p,H p=nO->Q (.ref p) (upd H p (.tup (cutV xs lo hi)))
theorem zcJ:SlR X (rSlT X.K):=by
 intro pins s σ H x v vl vu lo hi sl Q I rx hs pl pu h;obtain⟨a,xs,rfl,hx,hw,q⟩:=h;cases rx;obtain⟨its,r,ht,hz⟩:=I.tuple hx;have hlen:its.toArray.size=xs.length:=by rw[uw];exact r.length.symm
 refine⟨"tuple",_,Uk.lookup,ht.typeIs,?_⟩;refine HT.getItem_tuple_cut ht hs pl pu (by rw[hlen];exact hw) ?_ (by rw[hlen];exact hz);rw[hlen];refine⟨.ref s.heap.objs.size,_,I.laid (t':=s.toks) (o:=.tup (cutV xs lo hi)) (λb ob q=>ue _ q) (uk _) ?_,rfl,q _ (I.hok.fresh (uk _))⟩;exact⟨uF (vh xs lo hi) hz,_,(r.drop (HT.sIx xs.length 0 lo)).take (HT.sIx xs.length xs.length hi-HT.sIx xs.length 0 lo),IsTupN.new _ _⟩
def zbE(K:uc):R2:=λx y H Q=>∃a b xs ys,x=.ref a/\y=.ref b/\SqT K H a xs/\SqT K H b ys/\xs≠[]/\xs.length+ys.length<=sizeLine /\
 (ys=[]->Q (.ref a) H)/\(ys≠[]->∀p,H p=nO->Q (.ref p) (upd H p (.tup (xs++ys))))
theorem Vals.nil_iff{us:List aA}(r:Vals xs us):us=[]↔xs=[]:=by
 cases r with
 |nil=>simp
 |cons _ _=>simp
theorem zaf:OpR X (binaryOp .Add) (zbE X.K):=by
 intro pins s σ H x y v u Q I rx ry h;obtain⟨a,b,xs,ys,rfl,rfl,ha,hb,hx,hz,q1,q2⟩:=h;cases rx;cases ry;obtain⟨its,r1,p1,_⟩:=I.tuple ha;obtain⟨its2,r2,p2,_⟩:=I.tuple hb;refine HT.cat_tup p1 p2 (λz=>hx (r1.nil_iff.mp z)) (λz=>⟨.ref a,H,I,rfl,q1 (r2.nil_iff.mp z)⟩) (λz=>?_) (by rw[<- r1.length,<- r2.length];exact hz);refine⟨.ref s.heap.objs.size,_,I.laid (t':=s.toks) (o:=.tup (xs++ys)) (λb ob q=>ue _ q) (uk _) ?_,rfl,q2 (λw=>z (r2.nil_iff.mpr w)) _ (I.hok.fresh (uk _))⟩;exact⟨by rw[ud];exact hz,_,r1.append r2,IsTupN.new _ _⟩
end
noncomputable def ixN (n:Nat) (i:Int):Option Nat:=if 0<=i then(if i < n then sO i.toNat else nO)else if -(n:Int)<=i then sO (i+n).toNat else nO
def atI{α:Type}(xs:List α)(i:Int):Option α:=(ixN xs.length i).bind λj=>xs[j]?
theorem XY{i:Int}(h:ixN n i=sO j):seqIndex? i n=sO j/\j < n/\-(n:Int)<=i/\i < n:=by
 unfold ixN at h;by_cases h0:0<=i
 .rw[iP h0]at h
  by_cases h1:i < n
  .rw[iP h1]at h
   have e:i.toNat=j:=u4.inj h;exact⟨by rw[seqIndex_of h0 h1,e],b8,b8,h1⟩
  .rw[iN h1]at h;cases h
 .rw[iN h0]at h
  by_cases h1:-(n:Int)<=i
  .rw[iP h1]at h
   have e:(i+n).toNat=j:=u4.inj h;exact⟨by rw[seqIndex_neg b8 h1,e],b8,h1,b8⟩
  .rw[iN h1]at h;cases h
theorem jZ{α:Type}{xs:List α}{i:Int}{v:α}(h:atI xs i=sO v):∃j,seqIndex? i xs.length=sO j/\xs[j]?=sO v/\j < xs.length/\-(xs.length:Int)<=i/\i < xs.length:=by
 unfold atI at h;cases e:ixN xs.length i with
 |none=>rw[e]at h;cases h
 |some j =>
  rw[e]at h;obtain⟨h1,h2,h3,h4⟩:=XY e;exact⟨j,h1,h,h2,h3,h4⟩
theorem yx{α:Type}{xs:List α}{v:α}(h:xs[j]?=sO v):atI xs (j:Int)=sO v:=by
 have hj:j < xs.length:=(uf.mp h).1;have e:ixN xs.length (j:Int)=sO j:=by
  unfold ixN;rw[iP b8,iP b8];simp
 unfold atI;rw[e];exact h
theorem aI0{α:Type}{a:α}{r:List α}:atI (a::r) 0=sO a:=yx (j:=0) rfl
theorem aI1{α:Type}{a b:α}{r:List α}:atI (a::b::r) 1=sO b:=yx (j:=1) rfl
theorem aI2{α:Type}{a b c:α}{r:List α}:atI (a::b::c::r) 2=sO c:=yx (j:=2) rfl
theorem aI3{α:Type}{a b c d:α}{r:List α}:atI (a::b::c::d::r) 3=sO d:=yx (j:=3) rfl
theorem aI4{α:Type}{a b c d e:α}{r:List α}:atI (a::b::c::d::e::r) 4=sO e:=yx (j:=4) rfl
theorem xA{α:Type}(xs:List α)(v:α):atI (xs++[v]) (-1)=sO v:=by
 have hl:(xs++[v]).length=xs.length+1:=ba
 have e:ixN (xs++[v]).length (-1)=sO xs.length:=by
  unfold ixN;rw[hl,iN b9,iP b8]
  congr 1
  lia
 unfold atI;rw[e];show(xs++[v])[xs.length]?=sO v;simp
def j4(b:Expr):Prop:=∀o i,subscripted b fO o i=operate [o,i] (getItem o i)
def IxR(X:Cx)(r:R2):Prop :=
 ∀(value slice:Expr)(pins:List (aO×Obj))(s:Shared)(σ:St)(H:Hp)(x y:V)(v u:aA)(Q:VK),Inv X pins σ H s->RelV x v->RelV y u->r x y H Q ->
  subscripted slice fO v u=operate [v,u] (getItem v u)->wpAny (model X.prog X.w) X.A (subscriptTail value slice v u) (EP X pins σ Q) X.xe s
def MtR(X:Cx)(id:String)(r:V->List V->Hp->VK->Prop):Prop :=
 ∀(pins:List (aO×Obj))(s:Shared)(σ:St)(H:Hp)(x:V)(xs:List V)(v:aA)(us:List aA)(Q:VK),Inv X pins σ H s->RelV x v->Vals xs us->r x xs H Q ->
  wpAny (model X.prog X.w) X.A (call (.builtin id) (v::us)) (EP X pins σ Q) X.xe s
section
variable{a b:Expr}
theorem zd6{r:R2}(hr:IxR X r)(ha:PE X a ta)(hb:PE X b tb)(hs:j4 b):PE X (.Subscript a b pos) (tOp r ta tb):=by
 intro pins s σ H Q I h;exact Subscript_ (binT ha hb I h λv u s2 x y H2 I2 rx ry q=>hr a b pins s2 σ H2 x y v u Q I2 rx ry q (hs _ _))
def rIxL(K:uc):R2:=λx y H Q=>∃p xs i v,x=.ref p/\y=.int i/\SqL K H p xs/\atI xs i=sO v/\Q v H
def rIxT(K:uc):R2:=λx y H Q=>∃p xs i v,x=.ref p/\y=.int i/\SqT K H p xs/\atI xs i=sO v/\Q v H
def rIxS:R2:=λx y H Q=>∃z i c,x=.str z/\y=.int i/\z.length<=sizeLine/\atI z.cps.toList i=sO c/\Q (.str ⟨#[c]⟩) H
theorem zag:IxR X (rIxL X.K):=by
 intro value slice pins s σ H x y v u Q I rx ry h hs;obtain⟨p,xs,i,z,rfl,rfl,hq,he,q⟩:=h;cases rx;obtain⟨t,rfl⟩:=ry;obtain⟨its,r,pl,hz⟩:=I.list hq;obtain⟨j,h1,h2,h3,h4,h5⟩:=jZ he;obtain⟨w,ew,rw'⟩:=r.get h2;have hl:=r.length;have hn:=vE;have fin:EP X pins σ Q w s:=⟨z,H,I,rw',q⟩;by_cases h0:0<=i
 .have hj:i.toNat=j:=by
   rw[seqIndex_of h0 h5]at h1;exact u4.inj h1
  exact item_listR pl.isList h0 b8 (by rw[hj];simpa using ew) fin hs
 .have hj:(i+(its.toArray.size:Int)).toNat=j:=by
   rw[seqIndex_neg b8 h4]at h1;rw[uw,<- hl];exact u4.inj h1
  exact subscriptTail_builtinR (x:=w) pl.isList.typeIs slot_list_getitem.lookup
   (wpAny_getItem_list_neg (Q:=λr s'=>r=w/\EP X pins σ Q r s') pl.isList b8 (by rw[uw]<;>lia) b8 (by rw[hj];simpa using ew) ⟨rfl,fin⟩) hs
theorem zcK:IxR X (rIxT X.K):=by
 intro value slice pins s σ H x y v u Q I rx ry h hs;obtain⟨p,xs,i,z,rfl,rfl,hq,he,q⟩:=h;cases rx;obtain⟨t,rfl⟩:=ry;obtain⟨its,r,pl,hz⟩:=I.tuple hq;obtain⟨j,h1,h2,h3,h4,h5⟩:=jZ he;obtain⟨w,ew,rw'⟩:=r.get h2;have hl:=r.length;have hn:=vE;have fin:EP X pins σ Q w s:=⟨z,H,I,rw',q⟩;exact subscriptTail_builtinR (x:=w) pl.typeIs slot_tuple_getitem.lookup
  (getItem_tuple (j:=j) (Q:=λr s'=>r=w/\EP X pins σ Q r s') pl b8 b8 (by rw[uw,<- hl];exact h1) (by simpa using ew) ⟨rfl,fin⟩) hs
theorem zcL:IxR X rIxS:=by
 intro value slice pins s σ H x y v u Q I rx ry h hs;obtain⟨z,i,c,rfl,rfl,hz,he,q⟩:=h;obtain⟨t,rfl⟩:=rx;obtain⟨t',rfl⟩:=ry;obtain⟨j,h1,h2,h3,h4,h5⟩:=jZ he;have hl:z.cps.toList.length=z.length:=by simp[Str.length]
 rw[hl]at h1 h4 h5;have hn:=vE;exact tail_any (typeIs_str s z t) slot_str_getitem.lookup (getItem_str (c:=c) (by
  have e1:decide (i < -(2 ^ 63:Int))=fO:=eO b8;have e2:decide (i ≥ 2 ^ 63)=fO:=eO b8;rw[e1,e2,Bool.or_false]) (by rw[h1];simpa using h2) ⟨.str ⟨#[c]⟩,H,I.tok _,⟨_,rfl⟩,q⟩) hs
theorem Y8(its:List aA)(n j:Nat)(u:aA):Obj.mapSeq (·.setIfInBounds j u) { cls:=.type "list",data:=.seq its.toArray n }={ cls:=.type "list",data:=.seq (its.set j u).toArray n }:=by
 simp[Obj.mapSeq]
theorem Inv.lst(I:Inv X pins σ H s)(h:H p=sO (.lst xs)):
  ∃(its:List aA)(n:Nat),Vals xs its/\s.heap.get? p=sO { cls:=.type "list",data:=.seq its.toArray n }/\xs.length<=sizeLine:=by
 obtain⟨z,its,n,r,e⟩:=I.hok p _ h;exact⟨its,n,r,e,z⟩
theorem Inv.lstUpd{ys:List V}{n':Nat}{f:Obj->Obj}(I:Inv X pins σ H s)(h:H p=sO (.lst xs))
  (ho:s.heap.get? p=sO { cls:=.type "list",data:=.seq its.toArray n }) (hf:f { cls:=.type "list",data:=.seq its.toArray n }={ cls:=.type "list",data:=.seq its'.toArray n' }) (r:Vals ys its') (hz:ys.length<=sizeLine) (t:Nat) :
  Inv X pins σ (upd H p (.lst ys)) { s with heap:=s.heap.update p f,toks:=t }:=by
 have e:(s.heap.update p f).get? p=sO { cls:=.type "list",data:=.seq its'.toArray n' }:=by
  rw[UK f ho (by rw[hf]<;>rfl),hf]
 refine I.write (x:=p) (e:=p) (by rw[h];trivial) (.inl rfl) (λb u hb q=>(UD _ _ (Ne.symm hb)).trans q) ⟨_,e⟩ ?_;exact⟨hz,its',n',r,e⟩
def zbF:V->V->V->Hp->(Hp->Prop)->Prop:=λo i v H Q=>∃p xs k j,o=.ref p/\i=.int k/\H p=sO (.lst xs)/\ixN xs.length k=sO j/\Q (upd H p (.lst (xs.set j v)))
theorem VW:PSet X zbF:=by
 intro pins s σ H o i v ov iv u Q I ro ri rv h;obtain⟨p,xs,k,j,rfl,rfl,hp,hj,q⟩:=h;cases ro;obtain⟨t,rfl⟩:=ri;obtain⟨its,n,r,ho,hz⟩:=I.lst hp;obtain⟨h1,h2,h3,h4⟩:=XY hj;have hl:=r.length;have hn:=vE;have I':Inv X pins σ (upd H p (.lst (xs.set j v))) { s with heap:=s.heap.update p (Obj.mapSeq (·.setIfInBounds j u)) } :=
  I.lstUpd hp ho (Y8 its n j u) (r.set rv j) (by rw[List.length_set];exact hz) s.toks
 by_cases h0:0<=k
 .have hk:k.toNat=j:=by
   rw[seqIndex_of h0 h4]at h1;exact u4.inj h1
  exact PySem.W.ki_setAt ho h0 b8 (by rw[uw,<- hl];exact h4) (by rw[hk];exact⟨_,I',q⟩)
 .have hk:(k+(its.toArray.size:Int)).toNat=j:=by
   rw[seqIndex_neg b8 h3]at h1;rw[uw,<- hl];exact u4.inj h1
  exact PySem.W.ki_setBack ho b8 (by rw[uw,<- hl];exact h3) b8 (by rw[hk];exact⟨_,I',q⟩)
theorem j5(lo hi:Option Int)(n:Nat):(sliceBounds lo hi nO n).1=((HT.sIx n 0 lo:Nat):Int)/\(sliceBounds lo hi nO n).2.1=((HT.sIx n n hi:Nat):Int)/\(sliceBounds lo hi nO n).2.2=1:=by
 refine⟨?_,?_,rfl⟩
 .cases lo with
  |none=>simp[sliceBounds,HT.sIx]
  |some i =>
   simp only[sliceBounds,HT.sIx,Option.getD_none,show(1:Int) > 0 by decide,if_true]
   by_cases h:i < 0
   .simp only[h,if_true]<;>lia
   .simp only[h,if_false]<;>lia
 .cases hi with
  |none=>simp[sliceBounds,HT.sIx]
  |some i =>
   simp only[sliceBounds,HT.sIx,Option.getD_none,show(1:Int) > 0 by decide,if_true]
   by_cases h:i < 0
   .simp only[h,if_true]<;>lia
   .simp only[h,if_false]<;>lia
theorem jn(its:List aA)(lo hi:Option Int):slicePick its.toArray lo hi nO=((its.drop (HT.sIx its.length 0 lo)).take (HT.sIx its.length its.length hi-HT.sIx its.length 0 lo)).toArray:=by
 obtain⟨h1,h2,h3⟩:=j5 lo hi its.toArray.size;unfold slicePick;rw[h1,h2,h3];simp only[sliceRange_one,pick_run,uw]<;>rfl
def rSlL(K:uc):V->Option Int->Option Int->Hp->VK->Prop:=λx lo hi H Q=>∃a xs,x=.ref a/\SqL K H a xs/\∀p,H p=nO->Q (.ref p) (upd H p (.lst (cutV xs lo hi)))
theorem zah:SlR X (rSlL X.K):=by
 intro pins s σ H x v vl vu lo hi sl Q I rx hs pl pu h;obtain⟨a,xs,rfl,hx,q⟩:=h;cases rx;obtain⟨its,r,ht,hz⟩:=I.list hx;have hlen:=r.length;refine⟨"list",_,slot_list_getitem.lookup,ht.isList.typeIs,?_⟩;refine wpAny_getItem_list_slice ht.isList hs pl pu .none ba ?_ (by rw[uw]<;>lia);rw[jn,<- hlen];refine⟨.ref s.heap.objs.size,_,I.laid (t':=s.toks) (o:=.lst (cutV xs lo hi)) (λb ob q=>ue _ q) (uk _) ?_,rfl,q _ (I.hok.fresh (uk _))⟩;exact⟨uF (vh xs lo hi) hz,_,0,(r.drop (HT.sIx xs.length 0 lo)).take (HT.sIx xs.length xs.length hi-HT.sIx xs.length 0 lo),ux _ rfl⟩
def wo:V->Bool
 |.non=>tU
 |.bl _=>tU
 |.int _=>tU
 |.str _=>tU
 |_=>fO
noncomputable def eqV:V->V->Bool
 |.non,.non=>tU
 |.bl a,.bl b=>a == b
 |.bl a,.int b=>(if a then 1 else 0) == b
 |.int a,.bl b=>a == (if b then 1 else 0)
 |.int a,.int b=>a == b
 |.str a,.str b=>a == b
 |_,_=>fO
theorem zcM{y:V}(ry:RelV y u)(rx:RelV x v)(fy:wo y=tU)(fx:wo x=tU):SeqAt.EqAt A s u v (eqV y x):=by
 cases y with
 |non =>
  cases ry;cases x with
  |non=>cases rx;exact SeqAt.EqAt.same _
  |bl b=>cases rx;exact SeqAt.EqAt.none_bool b
  |int b=>obtain⟨t,rfl⟩:=rx;exact SeqAt.EqAt.none_int b t
  |str b=>obtain⟨t,rfl⟩:=rx;exact SeqAt.EqAt.none_str b t
  |_=>exact absurd (show fO=tU from fx) uC
 |bl a =>
  cases ry;cases x with
  |non=>cases rx;exact SeqAt.EqAt.bool_none a
  |bl b=>cases rx;exact SeqAt.EqAt.bool_bool a b
  |int b=>obtain⟨t,rfl⟩:=rx;exact SeqAt.EqAt.bool_int a b t
  |str b=>obtain⟨t,rfl⟩:=rx;exact SeqAt.EqAt.bool_str a b t
  |_=>exact absurd (show fO=tU from fx) uC
 |int a =>
  obtain⟨t',rfl⟩:=ry;cases x with
  |non=>cases rx;exact SeqAt.EqAt.int_none a t'
  |bl b=>cases rx;exact SeqAt.EqAt.int_bool a t' b
  |int b=>obtain⟨t,rfl⟩:=rx;exact SeqAt.EqAt.int_int a t' b t
  |str b=>obtain⟨t,rfl⟩:=rx;exact SeqAt.EqAt.int_str a t' b t
  |_=>exact absurd (show fO=tU from fx) uC
 |str a =>
  obtain⟨t',rfl⟩:=ry;cases x with
  |non=>cases rx;exact SeqAt.EqAt.str_none a t'
  |bl b=>cases rx;exact SeqAt.EqAt.str_bool a t' b
  |int b=>obtain⟨t,rfl⟩:=rx;exact SeqAt.EqAt.str_int a t' b t
  |str b=>obtain⟨t,rfl⟩:=rx;exact SeqAt.EqAt.str_str a t' b t
  |_=>exact absurd (show fO=tU from fx) uC
 |_=>exact absurd (show fO=tU from fy) uC
def eqU(x:V)(u:aA):Bool:=match u with
 |.none=>eqV .non x
 |.bool b=>eqV (.bl b) x
 |.int i _=>eqV (.int i) x
 |.str z _=>eqV (.str z) x
 |_=>fO
theorem VX{y:V}(r:RelV y u)(f:wo y=tU):eqU x u=eqV y x:=by
 cases y with
 |non=>cases r;rfl
 |bl b=>cases r;rfl
 |int i=>obtain⟨t,rfl⟩:=r;rfl
 |str z=>obtain⟨t,rfl⟩:=r;rfl
 |_=>exact absurd (show fO=tU from f) uC
theorem vq{us:List aA}(h:Vals xs us)(f:xs.all wo=tU):us.any (eqU x)=xs.any λy=>eqV y x:=by
 induction h with
 |nil=>rfl
 |cons r _ i =>
  rw[tM,U1]at f;rw[tO,tO,VX r f.1,i f.2]
theorem xP{A:Around}{s:Shared}{x:V}{v:aA}(rx:RelV x v)(fx:wo x=tU):∀{xs:List V}{us:List aA},Vals xs us->xs.all wo=tU->∀u∈us,SeqAt.EqAt A s u v (eqU x u)
 |_,_,.nil,_=>λu hu=>by cases hu
 |y::xs,u::us,.cons r t,f=>λu' hu=>by
  rw[tM,U1]at f;rcases uq.mp hu with rfl|hu
  .rw[VX r f.1];exact zcM r rx f.1 fx
  .exact xP rx fx t f.2 u' hu
def inV(x:V)(xs:List V):Bool:=xs.any λy=>eqV y x
def rIn(K:uc)(neg:Bool):R2:=λx y H Q=>∃p xs,y=.ref p/\(SqL K H p xs\/SqT K H p xs)/\wo x=tU/\xs.all wo=tU/\Q (.bl (if neg then !inV x xs else inV x xs)) H
theorem WV:OpR X (compareOp .In) (rIn X.K fO):=by
 intro pins s σ H x y v u Q I rx ry h;obtain⟨p,xs,rfl,hq,fx,fs,q⟩:=h;cases ry;rcases hq with hq|hq
 .obtain⟨its,r,pl,hz⟩:=I.list hq
  refine SeqAt.in_listAt (eqU x) pl.isList (λw hw=>xP rx fx r fs w (by simpa using hw)) ⟨.bl _,H,I,rfl,?_⟩;rw[show its.toArray.any (eqU x)=its.any (eqU x) by simp,vq r fs];exact q
 .obtain⟨its,r,pl,hz⟩:=I.tuple hq
  refine SeqAt.in_tupleAt (eqU x) pl (λw hw=>xP rx fx r fs w (by simpa using hw)) ⟨.bl _,H,I,rfl,?_⟩;rw[show its.toArray.any (eqU x)=its.any (eqU x) by simp,vq r fs];exact q
theorem j6:OpR X (compareOp .NotIn) (rIn X.K tU):=by
 intro pins s σ H x y v u Q I rx ry h;obtain⟨p,xs,rfl,hq,fx,fs,q⟩:=h;cases ry;rcases hq with hq|hq
 .obtain⟨its,r,pl,hz⟩:=I.list hq
  refine SeqAt.notIn_listAt (eqU x) pl.isList (λw hw=>xP rx fx r fs w (by simpa using hw)) ⟨.bl _,H,I,rfl,?_⟩;rw[show its.toArray.any (eqU x)=its.any (eqU x) by simp,vq r fs];exact q
 .obtain⟨its,r,pl,hz⟩:=I.tuple hq
  refine SeqAt.notIn_tupleAt (eqU x) pl (λw hw=>xP rx fx r fs w (by simpa using hw)) ⟨.bl _,H,I,rfl,?_⟩;rw[show its.toArray.any (eqU x)=its.any (eqU x) by simp,vq r fs];exact q
theorem j7:OpR X (compareOp .NotIn) (λx y H Q=>∃i j,x=.str i/\y=.str j/\Q (.bl (!(!(Builtin.Str.occurrences j i 0 j.length 1).isEmpty))) H):=by
 intro pins s σ H x y v u Q I rx ry h;obtain⟨i,j,rfl,rfl,q⟩:=h;obtain⟨t,rfl⟩:=rx;obtain⟨t',rfl⟩:=ry;exact notIn_str ⟨.bl _,H,I,rfl,q⟩
theorem j8:xr X (.builtin "len") (λxs H Q=>∃p ys,xs=[.ref p]/\(SqL X.K H p ys\/SqT X.K H p ys)/\Q (.int ys.length) H):=by
 intro pins s σ H xs us Q I r h;obtain⟨p,ys,rfl,hq,q⟩:=h;obtain⟨u,rfl,rx⟩:=wA r;cases rx;have hn:=vE;rcases hq with hq|hq
 .obtain⟨its,r',pl,hz⟩:=I.list hq
  have hlen:=r'.length;exact Calls.call_len_list pl.isList (by simp only[uw]<;>lia) ⟨.int ys.length,H,I.tok _,⟨s.toks+1,by rw[uw,hlen]⟩,q⟩
 .obtain⟨its,r',pl,hz⟩:=I.tuple hq
  have hlen:=r'.length;exact len_tuple pl (by simp only[uw]<;>lia) ⟨.int ys.length,H,I.tok _,⟨s.toks+1,by rw[uw,hlen]⟩,q⟩
theorem j9:xr X (.type "list") (λxs H Q=>∃p ys,xs=[.ref p]/\(SqL X.K H p ys\/SqT X.K H p ys)/\∀l,H l=nO->Q (.ref l) (upd H l (.lst ys))):=by
 intro pins s σ H xs us Q I r h;obtain⟨p,ys,rfl,hq,q⟩:=h;obtain⟨u,rfl,rx⟩:=wA r;cases rx;have fin:∀(its:List aA),Vals ys its->ys.length<=sizeLine->∀(h':Heap)(c':Nat),(∀b o',s.heap.get? b=sO o'->h'.get? b=sO o') ->
   h'.get? s.heap.objs.size=sO { cls:=.type "list",dict:=nO,data:=.seq its.toArray c',slots:=#[] }->EP X pins σ Q (.ref s.heap.objs.size) { s with heap:=h' }:=λits r' hz h' c' kp e =>
  ⟨.ref s.heap.objs.size,_,I.laid (t':=s.toks) kp (uk _) (show ObjOk X.prog X.w _ h' _ (.lst ys)from⟨hz,its,c',r',e⟩),rfl,q _ (I.hok.fresh (uk _))⟩
 rcases hq with hq|hq
 .obtain⟨its,r',pl,hz⟩:=I.list hq
  have hlen:=r'.length;obtain⟨o,ho,hc,n,hd⟩:=pl.isList;exact call_list_seq p (.inl rfl) ho hc hd (λh' c' kp e=>fin its r' hz h' c' kp e) (by simp only[uw]<;>lia)
 .obtain⟨its,r',pl,hz⟩:=I.tuple hq
  have hlen:=r'.length;obtain⟨o,ho,hc,n,hd⟩:=pl;exact call_list_seq p (.inr rfl) ho hc hd (λh' c' kp e=>fin its r' hz h' c' kp e) (by simp only[uw]<;>lia)
theorem jo:xr X (.type "tuple") (λxs H Q=>∃p ys,xs=[.ref p]/\((SqL X.K H p ys/\∀l,H l=nO->Q (.ref l) (upd H l (.tup ys)))\/(SqT X.K H p ys/\Q (.ref p) H))):=by
 intro pins s σ H xs us Q I r h;obtain⟨p,ys,rfl,h⟩:=h;obtain⟨u,rfl,rx⟩:=wA r;cases rx;rcases h with⟨hq,q⟩|⟨hq,q⟩
 .obtain⟨its,r',pl,hz⟩:=I.list hq
  have hlen:=r'.length;refine call_tuple_list pl.isList (λh' kp=>?_) (by simp only[uw]<;>lia);have I1:Inv X pins σ H { s with heap:=h' }:=I.kept (t':=s.toks) kp;have I2:Inv X pins σ (upd H h'.objs.size (.tup ys)) { s with heap:=h'.push { cls:=.type "tuple",data:=.seq its.toArray } } :=
   I1.laid (t':=s.toks) (λb o e=>ue _ e) (uk _) (show ObjOk X.prog X.w _ _ _ (.tup ys)from⟨hz,its,r',IsTupN.new _ _⟩)
  exact⟨.ref h'.objs.size,_,I2,rfl,q _ (I1.hok.fresh (uk _))⟩
 .obtain⟨its,r',pl,hz⟩:=I.tuple hq
  exact call_tuple_same pl ⟨.ref p,H,I,rfl,q⟩
def tyV(K:uc)(T:String)(x:V)(H:Hp):Prop:=match x with
 |.str _=>T="str"
 |.int _=>T="int"
 |.ref p=>(T="list"/\∃xs,SqL K H p xs)\/(T="tuple"/\((∃o,K.lookup p=sO o/\o.cls=.type "tuple"/\o.dict=nO)\/∃xs,H p=sO (.tup xs))) \/
   (T="dict"/\((∃kvs,H p=sO (.dK kvs))\/∃kvs,H p=sO (.dT kvs)))\/(T="set"/\∃S n,H p=sO (.set S n))
 |_=>False
theorem VY{T:String}(I:Inv X pins σ H s)(r:RelV x v)(ty:tyV X.K T x H):
  s.TypeIs v T/\∀a,v=.ref a->∃ob,s.heap.get? a=sO ob/\ob.dict=nO:=by
 cases x with
 |str z =>
  obtain⟨t,rfl⟩:=r;cases(show T="str"from ty);exact⟨typeIs_str s z t,λ_ e=>nomatch e⟩
 |int i =>
  obtain⟨t,rfl⟩:=r;cases(show T="int"from ty);exact⟨typeIs_int s i t,λ_ e=>nomatch e⟩
 |ref p =>
  cases r;rcases ty with⟨rfl,xs,hq⟩|⟨rfl,⟨o,hk,hc,hd⟩|⟨xs,hk⟩⟩|⟨rfl,hk⟩|⟨rfl,S,n,hk⟩
  .obtain⟨its,_,pl,_⟩:=I.list hq
   refine⟨pl.isList.typeIs,λa e=>?_⟩;cases e;obtain⟨o,n,e,c,hd,_⟩:=pl;exact⟨o,e,hd⟩
  .refine⟨⟨o,I.kIn p o hk,hc⟩,λa e=>?_⟩
   cases e;exact⟨o,I.kIn _ o hk,hd⟩
  .obtain⟨_,_,_,o,ho,hc,hd,_⟩:=I.hok p _ hk
   refine⟨⟨o,ho,hc⟩,λa e=>?_⟩;cases e;exact⟨o,ho,hd⟩
  .have z:∃o,s.heap.get? p=sO o/\o.ExactDict:=by
    rcases hk with⟨kvs,hk⟩|⟨kvs,hk⟩
    .obtain⟨_,_,_,_,o,_,_,e,ex,_⟩:=I.hok p _ hk
     exact⟨o,e,ex⟩
    .obtain⟨_,_,_,_,o,_,_,e,ex,_⟩:=I.hok p _ hk
     exact⟨o,e,ex⟩
   obtain⟨o,e,ex⟩:=z;refine⟨⟨o,e,ex.1⟩,λa e2=>?_⟩;cases e2;exact⟨o,e,ex.2.1⟩
  .obtain⟨o,_,_,_,e,ex,_⟩:=I.hok p _ hk
   refine⟨⟨o,e,ex.1⟩,λa e2=>?_⟩;cases e2;exact⟨o,e,ex.2.1⟩
 |_=>exact False.elim ty
def tBM0(K:uc)(T:String)(r:V->List V->Hp->VK->Prop)(to:TE):TE:=λσ H Q=>to σ H λx H1=>tyV K T x H1/\r x [] H1 Q
def tBM(K:uc)(T:String)(r:V->List V->Hp->VK->Prop)(to:TE)(t:TA):TE:=λσ H Q=>to σ H λx H1=>tyV K T x H1/\t σ H1 λxs H2=>r x xs H2 Q
variable{t:TA}{T id:String}{r:V->List V->Hp->VK->Prop}
theorem zcN(pa:PlainAttrs T)(slot:Slot T name id)(hty:typeOf (.builtin id)=pure (.type "method_descriptor"))(hm:MtR X id r)(ho:PE X o to)
  (hbase:%[attributeBase o name X.env (eval o X.env)=eval o X.env|1]) (hline:%[(apos.endLine == cpos.line)=tU|1]):PE X (.Call (.Attribute o name apos) [] [] cpos) (tBM0 X.K T r to):=by
 intro pins s σ H Q I h;refine wpAny_Call_method0_late hbase hline (thn (ho pins s σ H _ I h) λv s1 h_=>?_);obtain⟨x,H1,I1,r1,ty,q1⟩:=h_;obtain⟨h1,h2⟩:=VY I1 r1 ty;exact⟨T,id,pa,slot,hty,h1,h2,Calls.callWith_builtin rfl (PySem.evalArgs_none (hm pins s1 σ H1 x [] v [] Q I1 r1 .nil q1))⟩
theorem zd7(pa:PlainAttrs T)(slot:Slot T name id)(hty:typeOf (.builtin id)=pure (.type "method_descriptor"))(hm:MtR X id r)(ho:PE X o to)(ha:PA X (e::es) t)
  (hbase:%[attributeBase o name X.env (eval o X.env)=eval o X.env|1])
  (hfew:%[((backTo cpos (starEach (e::es) X.env)).all (λx=>!x.1) && (backToKw cpos (keywordEach [] X.env)).all (λx=>x.1.isSome)
   && decide ((e::es).length+([]:List Keyword).length+(if([]:List Keyword).isEmpty then 0 else 1) < 30))=tU|1])
  (hline:%[(apos.endLine == cpos.line)=tU|1]) (hs:%[starEach (e::es) X.env=(fO,eval e X.env)::starEach es X.env|1]) (hplain:%[(backTo cpos (starEach es X.env)).any (·.1)=fO|1]) :
  PE X (.Call (.Attribute o name apos) (e::es) [] cpos) (tBM X.K T r to t):=by
 intro pins s σ H Q I h;refine wpAny_Call_method_late hbase hfew hline rfl (thn (ho pins s σ H _ I h) λv s1 h_=>?_);obtain⟨x,H1,I1,r1,ty,q1⟩:=h_;obtain⟨h1,h2⟩:=VY I1 r1 ty;refine⟨T,id,pa,slot,hty,h1,h2,?_⟩;have hA:=ha cpos pins s1 σ H1 _ I1 q1;rw[hs]at hA ⊢;refine Calls.callWith_builtin (by show(fO || (backTo cpos (starEach es X.env)).any (·.1))=fO;rw[hplain]<;>rfl) (Calls.evalArgs_plain ?_);refine thn hA λus s2 h_=>?_;obtain⟨vs,H2,I2,r2,q2⟩:=h_;exact hm pins s2 σ H2 x vs v us Q I2 r1 r2 q2
end
def MtM(X:Cx)(id:String)(r:V->List V->Hp->VK->Prop):Prop :=
 ∀(pins:List (aO×Obj))(s:Shared)(σ:St)(H:Hp)(x:V)(xs:List V)(v:aA)(us:List aA)(Q:VK),Inv X pins σ H s->RelV x v->Vals xs us->r x xs H Q ->
  wpAny (model X.prog X.w) X.A (call (.builtin id) (v::us)) (EP X pins σ Q) X.xe s
theorem Vals.one{us:List aA}(h:Vals [x] us):∃u,us=[u]/\RelV x u:=by
 cases h with
 |cons r t=>cases t;exact⟨_,rfl,r⟩
theorem Vals.zero:∀{us:List aA},Vals [] us->us=[]
 |_,.nil=>rfl
theorem Vals.dropLast{us:List aA}(h:Vals xs us):Vals xs.dropLast us.dropLast:=by
 induction h with
 |nil=>exact .nil
 |cons r t ih =>
  cases t with
  |nil=>exact .nil
  |cons q t'=>exact .cons r ih
theorem Vals.reverse{us:List aA}(h:Vals xs us):Vals xs.reverse us.reverse:=by
 induction h with
 |nil=>exact .nil
 |cons r t ih=>rw[tj,tj];exact Vals.append ih (.cons r .nil)
theorem Vals.rep{xs:List V}{us:List aA}(h:Vals xs us):∀k:Nat,Vals (uT k xs).flatten (uT k us).flatten
 |0=>.nil
 |k+1=>by
  rw[UG,UG,tm,tm];exact Vals.append h (Vals.rep h k)
theorem Y9{α:Type}(l:List α):l.eraseIdx (l.length-1)=l.dropLast:=by
 induction l with
 |nil=>rfl
 |cons a r ih =>
  cases r with
  |nil=>rfl
  |cons b r =>
   have e:(a::b::r).length-1=((b::r).length-1)+1:=by
    have h1:(a::b::r).length=r.length+2:=rfl;have h2:(b::r).length=r.length+1:=rfl;lia
   rw[e,List.eraseIdx_cons_succ,ih]
   all_goals rfl
theorem jy(its:List aA):∀(k:Nat)(acc:List aA),
  List.foldl (λx1 x2=>x1++x2) acc.toArray (uT k its.toArray)=(acc++(uT k its).flatten).toArray
 |0,acc=>ba
 |k+1,acc=>by
  have e:acc.toArray++its.toArray=(acc++its).toArray:=ba
  have e2:(acc++its)++(uT k its).flatten=acc++(uT (k+1) its).flatten:=by
   rw[UG,tm,Uo]
  rw[<- e2,<- jy its k (acc++its),<- e,UG,UN]
section
variable{l:aO}{ys zs:List V}
theorem Inv.lset{f:Array aA->Array aA}(I:Inv X pins σ H s)(hH:H l=sO (.lst xs))
  (e:s.heap.get? l=sO { cls:=.type "list",data:=.seq its.toArray n }) (hf:f its.toArray=its'.toArray) (hv:Vals ys its') (hz:ys.length<=sizeLine) :
  Inv X pins σ (upd H l (.lst ys)) { s with heap:=s.heap.update l (Obj.mapSeq f),toks:=t' }:=by
 have q:=PySem.IsL.update e f;rw[hf]at q;refine I.write (x:=l) (e:=l) (by rw[hH];exact trivial) (.inl rfl) (λb' u hb hu=>(UD s.heap (Obj.mapSeq f) (Ne.symm hb)).trans hu) ⟨_,q⟩ ?_;exact⟨hz,its',_,hv,q⟩
theorem Inv.lnew(I:Inv X pins σ H s)(hv:Vals ys its)(hz:ys.length<=sizeLine):
  Inv X pins σ (upd H s.heap.objs.size (.lst ys)) { s with heap:=s.heap.push { cls:=.type "list",data:=.seq its.toArray },toks:=t' } :=
 I.laid (λ_ _ q=>ue _ q) (uk _) ⟨hz,its,0,hv,ux _ rfl⟩
theorem Inv.fresh(I:Inv X pins σ H s):H s.heap.objs.size=nO:=I.hok.fresh (uk _)
theorem Inv.lstM(I:Inv X pins σ H s)(hH:H l=sO (.lst xs)):xs.length<=sizeLine/\∃(its:List aA)(n:Nat),Vals xs its/\xs.length=its.length/\s.heap.get? l=sO { cls:=.type "list",data:=.seq its.toArray n }:=by
 obtain⟨z,its,n,r,e⟩:=I.hok l _ hH;exact⟨z,its,n,r,r.length,e⟩
theorem ZZ(h:n<=sizeLine):Builtin.List.listTooLong n=fO:=by
 unfold Builtin.List.listTooLong;exact eO b8
end
def Za:V->List V->Hp->VK->Prop:=λx vs H Q=>∃l xs y,x=.ref l/\vs=[y]/\H l=sO (.lst xs)/\xs.length < sizeLine/\Q .non (upd H l (.lst (xs++[y])))
theorem WW:MtM X "list.append" Za:=by
 intro pins s σ H x vs v us Q I rx rv h;obtain⟨l,xs,y,rfl,rfl,hH,hz,q⟩:=h;cases rx;obtain⟨u,rfl,ru⟩:=rv.one;obtain⟨z,its,n,r,hl,e⟩:=I.lstM hH;refine call_meets F.slot_list_append ⟨_,e,rfl⟩ F.entry_list_append (F.args_list_append_2 _ _) (PySem.list_append l its.toArray n u (by rw[uw];lia)) ⟨e,?_⟩;refine⟨.non,_,I.lset (its':=its++[u]) hH e ba (r.append (.cons ru .nil)) ?_,rfl,q⟩;rw[ud,uH];lia
def rPop:V->List V->Hp->VK->Prop:=λx vs H Q=>∃l xs y,x=.ref l/\vs=[]/\H l=sO (.lst xs)/\xs[xs.length-1]?=sO y/\Q y (upd H l (.lst xs.dropLast))
theorem zcO:MtM X "list.pop" rPop:=by
 intro pins s σ H x vs v us Q I rx rv h;obtain⟨l,xs,y,rfl,rfl,hH,hy,q⟩:=h;cases rx;have hus:=rv.zero;subst hus;obtain⟨z,its,n,r,hl,e⟩:=I.lstM hH;obtain⟨u,hu,ru⟩:=r.get hy;have hy':its.toArray[its.toArray.size-1]?=sO u:=by
  show its.toArray[its.length-1]?=sO u;rw[<- Array.getElem?_toList,<- hl];exact hu
 refine call_meets F.slot_list_pop ⟨_,e,rfl⟩ F.entry_list_pop (F.args_list_pop_1 _) (MeetsSeq.list_pop_last l its.toArray n u hy' (by rw[uw];lia)) ⟨e,?_⟩;refine⟨y,_,I.lset (its':=its.dropLast) hH e ?_ r.dropLast ?_,ru,q⟩
 .show its.toArray.eraseIdxIfInBounds (its.toArray.size-1)=its.dropLast.toArray
  rw[uw,List.eraseIdxIfInBounds_toArray,Y9]
 .rw[List.length_dropLast]
  lia
def Z0:V->List V->Hp->VK->Prop:=λx vs H Q=>∃l xs,x=.ref l/\vs=[]/\H l=sO (.lst xs)/\Q .non (upd H l (.lst xs.reverse))
theorem Xa:MtM X "list.reverse" Z0:=by
 intro pins s σ H x vs v us Q I rx rv h;obtain⟨l,xs,rfl,rfl,hH,q⟩:=h;cases rx;have hus:=rv.zero;subst hus;obtain⟨z,its,n,r,hl,e⟩:=I.lstM hH;refine call_meets F.slot_list_reverse ⟨_,e,rfl⟩ F.entry_list_reverse (F.args_list_reverse_1 _) (AutoSeq1.list_reverse_list_0 l its.toArray n (by rw[uw];lia)) ⟨e,?_⟩;refine⟨.non,_,I.lset (its':=its.reverse) hH e ba r.reverse ?_,rfl,q⟩;rw[Ux];lia
def rCat:R2:=λx y H Q=>∃l b xs zs,x=.ref l/\y=.ref b/\H l=sO (.lst xs)/\H b=sO (.lst zs)/\xs.length+zs.length<=sizeLine/\∀p,H p=nO->Q (.ref p) (upd H p (.lst (xs++zs)))
theorem zcP:OpR X (binaryOp .Add) rCat:=by
 intro pins s σ H x y v u Q I rx ry h;obtain⟨l,b,xs,zs,rfl,rfl,hH,hB,hz,q⟩:=h;cases rx;cases ry;obtain⟨z,its,n,r,hl,e⟩:=I.lstM hH;obtain⟨z2,its2,n2,r2,hl2,e2⟩:=I.lstM hB;refine PySem.P.add_list e e2 ?_ (by rw[uw,uw];lia);have ea:its.toArray++its2.toArray=(its++its2).toArray:=ba
 rw[ea];exact⟨.ref _,_,I.lnew (t':=s.toks) (r.append r2) (by rw[ud];lia),rfl,q _ I.fresh⟩
def rRep:R2:=λx y H Q=>∃l k xs,x=.ref l/\y=.int k/\H l=sO (.lst xs)/\-(2 ^ 63)<=k/\k < 2 ^ 63/\xs.length*k.toNat<=sizeLine /\
 ∀p,H p=nO->Q (.ref p) (upd H p (.lst (uT k.toNat xs).flatten))
theorem zai{α:Type}(xs:List α)(k:Nat):(uT k xs).flatten.length=k*xs.length:=by
 induction k with
 |zero=>simp
 |succ k ih=>rw[UG,tm,ud,ih,Nat.succ_mul,Nat.add_comm]
theorem zcQ:OpR X (binaryOp .Mult) rRep:=by
 intro pins s σ H x y v u Q I rx ry h;obtain⟨l,k,xs,rfl,rfl,hH,h1,h2,hz,q⟩:=h;cases rx;obtain⟨t,rfl⟩:=ry;obtain⟨z,its,n,r,hl,e⟩:=I.lstM hH;have hlen:its.toArray.size*k.toNat<=sizeLine:=by rw[uw,<- hl];exact hz
 have hcap:Not (its.toArray.size*k.toNat > (2 ^ 63-1) / 8):=by
  have:(sizeLine:Nat)<=(2 ^ 63-1) / 8:=b9
  lia
 have hfit:Not ((!Builtin.List.listFitsIndex k)=tU):=by
  rw[fitsIndex_both h1 h2];exact uC
 have hlong:Not (Builtin.List.listTooLong (its.toArray.size*k.toNat)=tU):=by
  rw[ZZ hlen];exact uC
 have hnew:List.foldl (λx1 x2=>x1++x2) #[] (uT (if its.toArray.isEmpty=tU then 0 else k.toNat) its.toArray)=(uT k.toNat its).flatten.toArray:=by
  have f0:∀m:Nat,List.foldl (λx1 x2=>x1++x2) #[] (uT m its.toArray)=(uT m its).flatten.toArray:=λm=>by
   have:=jy its m []
   rw[List.nil_append]at this;exact this
  rw[f0];cases its with
  |nil=>simp
  |cons a r'=>rw[iN ba]
 refine wpAny_binaryOp_repeat_ref (T:="list") (U:="int") b9 ⟨_,e,rfl⟩ (λs'=>typeIs_int s' k t) noFill_list_mul F.fills_int_mul F.slot_int_rmul repeat_list F.slot_int_index.lookup
  (call_meets F.slot_int_rmul (typeIs_int s k t) F.entry_int_rmul (F.args_int_rmul_2 _ _) (int___rmul___int_list k t l its.toArray n)
   ⟨e,rfl,⟨_,e,rfl⟩,call_meets F.slot_list_mul ⟨_,e,rfl⟩ F.entry_list_mul (F.args_list_mul_2 _ _) (AutoListH.list___mul___list_int_3 l its.toArray n k t hfit hcap hlong) ⟨e,?_⟩⟩)
 rw[hnew];exact⟨.ref _,_,I.lnew (t':=s.toks) (r.rep k.toNat) (by rw[zai,Nat.mul_comm];exact hz),rfl,q _ I.fresh⟩
end L2
namespace Att
open PySem PySem.W PySem.Calls PyProof.Rows
variable{P:Params}
theorem vm:∀(ns:List Int)(vs:List aA),WellAll P h vs (ns.map WData.int)->IntsAre vs ns:=by
 intro ns
 induction ns with
 |nil =>
  intro vs w;rw[List.map_nil]at w;cases w;exact .nil
 |cons n ns ih =>
  intro vs w;rw[uB]at w;cases w with
  |cons a b =>
   cases a;exact .cons _ _ (ih _ b)
theorem WX{l:OpenLaw}(hn:l.most=sO n){args:List WData}{vals:List aA}
  (hpre:l.row.toRowW.claim.pre args=tU) (hwl:WellAll P h vals args) :
  ∃a vs ns,vals=[Value.ref a]/\args=[WData.list (ns.map WData.int)]/\h.get? a=sO { cls:=.type "list",data:=.seq vs.toArray }/\IntsAre vs ns/\ns.length<=n:=by
 have hsh:WShape.hasAll [] args [.list .int]=tU:=(pre_splitW hpre).1;have hc:l.pre.holds [] { args:=args }=tU:=(pre_splitW hpre).2;obtain⟨d,r,rfl,h1,h2⟩:=hasAllW_cons hsh;obtain rfl:=hasAllW_nil h2;obtain⟨xs,rfl,h3⟩:=hasW_list h1;obtain⟨ns,rfl⟩:=items_int h3;have hlen:ns.length<=n:=by
  unfold OpenLaw.pre at hc;have h4:(WTm.not (.lt (.lit (.int (n:Int))) (.len (.arg 0)))).holds [] { args:=[.list (ns.map .int)] }=tU:=by
   have h4:=(holds_andW hc).1;rw[hn]at h4;exact h4
  have h5:=condW_of h4 (w_not (w_lt w_lit (w_len_list (w_arg rfl))));rw[ub]at h5;refine Nat.le_of_not_lt λq=>?_;have q':(n:Int) < ((ns.length:Nat):Int):=b8
  first
   | (rw[decide_eq_true q']at h5;exact absurd h5 b9)
   | (simp at h5;lia)
 cases hwl with
 |cons w1 w2 =>
  cases w2;cases w1 with
  |list ho hall=>exact⟨_,_,ns,rfl,rfl,ho,vm ns _ hall,hlen⟩
theorem WY(l:OpenLaw)(args:List WData):l.row.toRowW.claim.post args (.bool tU) args=tU :=
 postW_of (r:=l.row.toRowW) (X:=(tU == tU))
  (show WShape.has [] (.bool tU) .bool=tU by first|rfl|decide|simp[WShape.has,WShape.arms,WShape.armsAll])
  (show(WTm.eq .res (.lit (.bool tU))).value [] { args:=args,res:=sO (.bool tU),after:=args }=sO (.bool (tU == tU))from w_eq_bool (w_res rfl) w_lit) rfl
theorem attach_call{l:OpenLaw}{q:Program}{loose:lS}{YP:World->Heap->Prop}{d:DefRec}
  (hn:l.most=sO n) (hdf:d.params.defaults=[])
  (call:∀(w:World)(s₀ s₁:Shared)(mg mb:Str->Option aA)(fa:aO)(o:Obj)(pm cd doc:aA)(a:aO)(vs:List aA)(ns:List Int),
   Ground q loose [] XP w s₀ mg mb s₁.heap->YP w s₁.heap ->
   s₁.heap.get? fa=sO o->o.data=.func (docDef d.name d.params d.body d.scope pm cd doc)->s₁.heap.CodeRec cd d.name->mg d.name=sO (.ref fa) ->
   s₁.heap.get? a=sO { cls:=.type "list",data:=.seq vs.toArray }->IntsAre vs ns->ns.length<=n->s₁.gens=#[] ->
   codeAny (model l.prog w) callerA (.call (.ref fa) ⟨[.ref a],[]⟩) (λr s'=>r=.ok (.ret (.bool tU))/\OldK s₁.heap s'.heap/\s'.os=s₁.os/\AllBare s'.gens) s₁) :
  WalkO q loose XP YP l.row.toRowW d [] (λf vs=>PySem.call f vs):=by
 intro w s₀ s₁ mg mb G Y fa o pm cd doc dV kV ho hd hcd hD hmg hg args vals as hpre hlay hrd hwl hlo;obtain rfl:dV=.none:=Dflts.none hD hdf;obtain rfl:kV=.none:=Dflts.noKw hD;obtain⟨a,vs,ns,rfl,rfl,hobj,hints,hlen⟩:=WX hn hpre hwl;refine enter_call (codeAny_mono (call w s₀ s₁ mg mb fa o pm cd doc a vs ns G Y ho (fd_plain hd) hcd hmg hobj hints hlen hg) λr s' hq=>?_);obtain⟨rfl,h2,h3,h4⟩:=hq;exact⟨.inl ⟨.bool tU,.bool tU,[],rfl,λ_=>rfl,.bool tU,WY l _,λ_=>⟨List.Pairwise.nil,λ_ hm=>(nomatch hm)⟩⟩,h2,h3,h4⟩
section
variable{K:Frag}
def zeC(h:Heap)(L d:aO):List (aO×Obj):=(uQ h.objs.size).filterMap λa=>if a=L\/a=d then nO else(h.get? a).map λo=>(a,o)
end
end Att
namespace L2
open PySem PySem.Spec PyProof.Rows
theorem WZ{ns:List Int}(h:IntsAre vs ns):Vals (ns.map V.int) vs:=by
 induction h with
 |nil=>exact .nil
 |cons n t _ i=>exact .cons ⟨t,rfl⟩ i
end L2
/- THE LAST THEOREM (shape; LID, My.* are yours):
   My.Adr: a structure of the addresses that your layer names (classes,functions);My.Txt K t: a structure (Prop) of the equations over K;
   My.txt_mk:{K} {implicit addresses ..} (e1:nsIn K mainGlobals "law"=sO (sO (.ref f))) (e2:K.lookup f=sO ⟨oc,od,.func (fnOf "law" "law" params body scope dV kV doc pm an cdv ct),sl⟩) (e3:codeIn K cdv "law"=tU) ..:∃t,My.Txt K t
set_option maxRecDepth 100000 in
set_option maxHeartbeats 0 in
theorem PySem.Challenge.cw_LID_holds : PySem.Challenge.rw_LID.Holds := by
 w_on;o_law;k_head;(case hw=>w_witness2)
 k_fill
 refine L2.walk_of (l:=PySem.Challenge.rw_LID) (n:=63) (k:=40) (x:="script") (CX:=λw=>..) (sp:=λ_=>My.sp_law) rfl b9 rfl ⟨rfl,b9,b9⟩ (λw h Y=>PySem.W.kIn_of Y) ?F ?S ?C
 case F =>
  intro w mg fa h KX G hmg;have T:∃t,My.Txt (L2.KOf KX) t:=by
   dsimp only [L2.KOf]                          -- K must stand as «<heap const> w.params» for k_is
   refine' My.txt_mk ?e1 ?e2 ?e3 ..
   (case e1 => PySem.W.k_is)                    -- in the order: a name -> its address -> its object -> its parts
   (case e2=>PySem.W.k_is)
   ..
  obtain⟨t,T⟩:=T;have e0:=hmg.symm.trans (U8 KX G T.law);cases e0                                       -- fa is the law's own address;exact ⟨_, λs u => .of_eq rfl, λbase kb nb => My.law_fn T kb nb⟩     -- if «.of_eq rfl» comes too early: refine' ⟨_, ?b, λbase kb nb => My.law_fn T kb nb⟩; exactλs u => .of_eq rfl
 case S=>exactλw H a ns hl hO hS=>..
 case C=>exact ..
(the tactic k_is has no namespace: write k_is) -/
namespace L2
open PySem PySem.Spec PyProof.Rows
def xW(s:Stmt)(j:Nat):Stmt:=match s with
 |.ClassDef _ _ _ body _ _ _ _ _ _ _=>body.getD j (.Pass ⟨0,0,0,0⟩)
 |_=>.Pass ⟨0,0,0,0⟩
def yi(s:Stmt):Arguments:=match s with
 |.FunctionDef _ a _ _ _ _ _ _ _ _=>a
 |_=>{ posonlyargs:=[],args:=[],vararg:=nO,kwonlyargs:=[],kw_defaults:=[],kwarg:=nO,defaults:=[] }
def zP(s:Stmt):List Stmt:=match s with
 |.FunctionDef _ _ b _ _ _ _ _ _ _=>b
 |_=>[]
def zq(s:Stmt):Scope:=match s with
 |.FunctionDef _ _ _ _ _ _ sc _ _ _=>sc
 |_=>{ kind:=.function,names:=[],isGenerator:=fO,isCoroutine:=fO }
abbrev CX0:CXT:=λ_ _ _ _ _ _=>False
abbrev E0:XK:=λ_ _ _=>False
theorem yN:xb CX0 X E0:=λ_ _ _ _ _ _ _ h=>h.elim
structure Fun(K:uc)(x qual:Str)(st:Stmt)(f:aO)(fd:FuncData):Prop where
 ex:∃(oc:aA)(od:Option aO)(kV doc pm:aA)(an:Option aO)(cdv ct:aA)(osl:Array (Option aA)),
  fd=Ue x qual (yi st) (zP st) (zq st) .none kV doc pm an cdv ct/\K.lookup f=sO ⟨oc,od,.func fd,osl⟩/\UM K cdv qual=tU
 kp:uY K (.ref f)=tU
section
variable{K:uc}
theorem Fun.ok{k:Nat}(F:Fun K x qual st f fd)(S:FnScope N ps (zq st))(len:∀vs H Q E,sp vs H Q E->vs.length=ps.length)
  (hbody:∀(cdv:aA)(A:Around)(outer:List Env)(s:Shared)(H:Hp)(vs:List V)(Q:VK)(E:XK),Room k (A.deeper (envOfC qual (zq st) s.heap.objs.size f cdv))->sp vs H Q E ->
   ∃t,PSs (cxOf CX0 P w K mg base N qual (zq st) f cdv A outer s H E).nox (zP st) t/\t { nx:=λ_ H'=>Q .non H',rt:=Q } (start N vs) H):FnOk P w K mg base CX0 (k+1) f fd ps sp:=by
 obtain⟨oc,od,kV,doc,pm,an,cdv,ct,osl,rfl,lk,hcd⟩:=F.ex;refine zbC lk hcd S len λA outer s H vs Q E hr hsp=>?_;obtain⟨t,h,q⟩:=hbody cdv A outer s H vs Q E hr hsp;exact⟨t,h.nox,q⟩
theorem Fun.binds(F:Fun K x qual st f fd)
  (h:∀(kV doc pm:aA)(an:Option aO)(cdv ct:aA)(us:List aA),us.length=ps.length->bindArgs (Ue x qual (yi st) (zP st) (zq st) .none kV doc pm an cdv ct) ⟨us,[]⟩=pure (ps.zip us)):Binds K fd ps []:=by
 obtain⟨oc,od,kV,doc,pm,an,cdv,ct,osl,rfl,lk,hcd⟩:=F.ex;exact .all (h kV doc pm an cdv ct)
theorem VZ{kV:aA}(l:K.lookup f=sO ⟨oc,od,.func (Ue x qual (yi st) (zP st) (zq st) .none kV doc pm an cdv ct),osl⟩)
  (c:UM K cdv qual=tU) (k:uY K (.ref f)=tU):Fun K x qual st f (Ue x qual (yi st) (zP st) (zq st) .none kV doc pm an cdv ct):=⟨⟨oc,od,kV,doc,pm,an,cdv,ct,osl,rfl,l,c⟩,k⟩
end
theorem zbG{k:Nat}(hr:Room k A):A.units+1 < cLine:=Us (Nat.add_le_add_left (by decide:1<=64) _) hr.units
theorem pv(i:Nat)(hN:%[X.N[i]?=sO x|1])(hv:%[Vis X.env.scope x|6])(hd:%[(x == ("__debug__":Str))=fO|2])
  (hcd:%[(x == ("__classdict__":Str))=fO|2]):PE X (.Name x pos) (tVar i):=zcg hN hv hd hcd
theorem iteF{A B:Prop}(h:B):if fO=tU then A else B:=by
 rw[iN uC];exact h
theorem iteT{A B:Prop}(h:A):if tU=tU then A else B:=by
 rw[iP rfl];exact h
theorem ite2{c A B:Prop}[Decidable c](h1:c->A)(h2:Not c->B):if c then A else B:=by
 by_cases h:c
 .rw[iP h]
  exact h1 h
 .rw[iN h]
  exact h2 h
def Same(H H':Hp):Prop:=∀b o,H b=sO o->H' b=sO o
theorem Same.refl(H:Hp):Same H H:=λ_ _ h=>h
theorem Same.trans(a:Same H H1)(b:Same H1 H2):Same H H2:=λc o h=>b c o (a c o h)
theorem Same.free(e:Same H H'){l:aO}(h:H' l=Option.none):H l=Option.none:=by
 cases q:H l with
 |none=>rfl
 |some o =>
  rw[e l o q]at h;cases h
theorem Same.seq{K:uc}(e:Same H H')(h:SqL K H a xs):SqL K H' a xs:=by
 rcases h with(h|⟨o,h⟩)|h
 .exact .inl (.inl (e _ _ h))
 .exact .inl (.inr ⟨o,e _ _ h⟩)
 .exact .inr h
def AllIn(env:Env):List (Str×aO)->Prop
 |[]=>True
 |p::r=>env.cells.lookup p.1=sO p.2/\AllIn env r
theorem AllIn.get{env:Env}:∀{cl:List (Str×aO)}{y:Str}{c:aO},AllIn env cl->cl.lookup y=sO c->env.cells.lookup y=sO c
 |[],_,_,_,h=>bg
 | (n,a)::r,y,c,⟨e,t⟩,h=>by
  rw[Uv]at h;by_cases q:y=n
  .subst q
   rw[beq_self_eq_true]at h;cases h;exact e
  .have q':(y == n)=fO:=beq_eq_false_iff_ne.mpr q
   rw[q']at h;exact AllIn.get t h
def wB:List Nat->St->St
 |[],σ=>σ
 |i::S,σ=>wB S (σ.set i nO)
theorem xY:∀(S:List Nat)(σ:St),(wB S σ).length=σ.length
 |[],_=>rfl
 |i::S,σ=>by rw[wB,xY S,List.length_set]
theorem jz:∀(S:List Nat)(σ:St){j:Nat}{v:V},(wB S σ)[j]?=sO (sO v)->σ[j]?=sO (sO v)/\j∉S
 |[],_,_,_,h=>⟨h,ba⟩
 |i::S,σ,j,v,h=>by
  obtain⟨h1,h2⟩:=jz S (σ.set i nO) h;rw[List.getElem?_set]at h1;by_cases e:i=j
  .rw[iP e]at h1
   split at h1<;>cases h1
  .rw[iN e]at h1
   exact⟨h1,λz=>(uq.mp z).elim (λz=>e z.symm) h2⟩
structure LcOk(X:Cx)(scope:Scope)(cl:List (Str×aO))(S:List Nat):Prop where
 clos:closureFor scope X.env=pure cl
 kind:scope.kind=.function
 noC:scope.names.all (λy=>y.2 != .cell)=tU
 loc:scope.names.all (λy=>y.2 != .local || scope.names.lookup y.1 == sO .local)=tU
 own:X.N.zipIdx.all (λy=>S.contains y.2 || scope.names.lookup y.1 != sO .local)=tU
 sub:AllIn X.env cl
 has:scope.names.all (λp=>p.2 != .free || ((cl.lookup p.1).isSome && (X.env.kindOf p.1 == sO .cell || X.env.kindOf p.1 == sO .free)))=tU
section
variable{cl:List (Str×aO)}
theorem LcOk.nocell(L:LcOk X scope cl S):∀y∈scope.names,y.2≠.cell:=λy hy=>by
 have h:=tF.mp L.noC y hy;exact bne_iff_ne.mp h
theorem LcOk.locs(L:LcOk X scope cl S):∀y∈scope.names,y.2=.local->scope.names.lookup y.1=sO .local:=λy hy e=>by
 have h:=tF.mp L.loc y hy;rw[e]at h;simpa using h
theorem LcOk.apart(L:LcOk X scope cl S):∀(i:Nat)(y:Str),X.N[i]?=sO y->i∉S->scope.names.lookup y≠sO .local:=λi y hy hi=>by
 have h:=tF.mp L.own (y,i) (List.mem_zipIdx_iff_getElem?.mpr hy);have hc:S.contains i=fO:=by simpa using hi
 rw[hc,Bool.false_or]at h;exact bne_iff_ne.mp h
theorem LcOk.free(L:LcOk X scope cl S)(h:scope.names.lookup y=sO .free):(∃c,cl.lookup y=sO c)/\(X.env.kindOf y=sO .cell\/X.env.kindOf y=sO .free):=by
 have h1:=tF.mp L.has _ (uW h);simp only[bne_self_eq_false,Bool.false_or,U1,Bool.or_eq_true,beq_iff_eq]at h1
 exact⟨tL.mp h1.1,h1.2⟩
theorem xn(names:List (Str×NameKind))(env:Env)(y:Str):
  (names.map λ(n,k)=>if(k == NameKind.free && env.scope.kind == .function && env.kindOf n == sO .cell)then(n,NameKind.cell)else(n,k)).lookup y =
   (names.lookup y).map λk=>if(k == NameKind.free && env.scope.kind == .function && env.kindOf y == sO .cell)then NameKind.cell else k:=by
 induction names with
 |nil=>rfl
 |cons p r ih =>
  obtain⟨n,k⟩:=p;rw[uB];by_cases q:y=n
  .subst q
   by_cases hc:(k == NameKind.free && env.scope.kind == .function && env.kindOf y == sO .cell)=tU
   .show UV y ((if(k == NameKind.free && env.scope.kind == .function && env.kindOf y == sO .cell)=tU then(y,NameKind.cell)else(y,k))::_)=_
    rw[iP hc,Uv,Uv,beq_self_eq_true];show sO NameKind.cell=sO (if _ then _ else _);rw[iP hc]
   .show UV y ((if(k == NameKind.free && env.scope.kind == .function && env.kindOf y == sO .cell)=tU then(y,NameKind.cell)else(y,k))::_)=_
    rw[iN hc,Uv,Uv,beq_self_eq_true];show sO k=sO (if _ then _ else _);rw[iN hc]
  .have q':(y == n)=fO:=beq_eq_false_iff_ne.mpr q
   by_cases hc:(k == NameKind.free && env.scope.kind == .function && env.kindOf n == sO .cell)=tU
   .show UV y ((if(k == NameKind.free && env.scope.kind == .function && env.kindOf n == sO .cell)=tU then(n,NameKind.cell)else(n,k))::_)=_
    rw[iP hc,Uv,Uv,q'];exact ih
   .show UV y ((if(k == NameKind.free && env.scope.kind == .function && env.kindOf n == sO .cell)=tU then(n,NameKind.cell)else(n,k))::_)=_
    rw[iN hc,Uv,Uv,q'];exact ih
theorem LcOk.kinds(L:LcOk X scope cl S)(h:(relabel scope X.env).names.lookup y=sO .cell\/(relabel scope X.env).names.lookup y=sO .free):scope.names.lookup y=sO .free:=by
 have e:(relabel scope X.env).names.lookup y=(scope.names.lookup y).map λk=>if(k == NameKind.free && X.env.scope.kind == .function && X.env.kindOf y == sO .cell)then NameKind.cell else k:=xn scope.names X.env y
 rw[e]at h;cases q:scope.names.lookup y with
 |none=>rw[q]at h;rcases h with h|h<;>cases h
 |some k =>
  have hk:k≠.cell:=L.nocell _ (uW q);rw[q]at h;by_cases hf:k=.free
  .rw[hf]
  .have z:(k == NameKind.free)=fO:=beq_eq_false_iff_ne.mpr hf
   rw[UX,z,Bool.false_and,Bool.false_and,iN uC]at h;rcases h with h|h
   .exact absurd (u4.inj h) hk
   .exact absurd (u4.inj h) hf
noncomputable def cxLC (X:Cx) (scope:Scope) (cl:List (Str×aO)) (M:lS) (C:aO) (s₀:Shared) (H₀:Hp) (ex:List aO) (E:VSP):Cx where
 prog:=X.prog
 w:=X.w
 K:=X.K
 mg:=X.mg
 base:=X.base
 A:=X.A
 N:=X.N++M
 s₀:=s₀
 H₀:=H₀
 env:=compEnvC scope cl C X.env
 outer:=X.stack
 stack:=X.stack
 ex:=ex
 fn:=λ_=>fO
 calm:=X.calm
 pn:=[]
 xe:=E
variable{ex:List aO}{M:lS}
theorem V0{h1:Heap}{tk:Nat}{m:Str->Option aA}(I:Inv X pins σ H s)(L:LcOk X scope cl S)(hf:∀b∈ex,FpOk X pins H b)(hlt:∀b∈ex,b < s.heap.objs.size)
  (hk:∀b o,s.heap.get? b=sO o->h1.get? b=sO o) (hC:s.heap.objs.size<=C) (hns:h1.Ns C m) :
  Inv (cxLC X scope cl M C s H ex E) [] (wB S σ++uT M.length nO) H { s with heap:=h1,toks:=tk }:=by
 refine⟨⟨I.ok.mod,L.kind,I.ok.glob,I.ok.blt,hC,λx y c a b=>I.ok.inj x y c (L.sub.get a) (L.sub.get b),λy hy=>(L.free (L.kinds hy)).1,(λx c z=>nomatch z),I.ok.hd,I.ok.frames,.inl rfl,λb hb=>⟨?_,λx c e=>?_⟩,
   I.bs,uF I.ok.bsz I.sz,λb o e hb=>?_,λb hb z=>?_,I.stack,I.stkFree⟩,
  rfl,I.bare,Un.kept hk,⟨m,hns,λi y v e1 e2 e3=>?_⟩,λy c e=>?_,I.hok.fresh hC,λy c e=>I.freeC y c (L.sub.get e),λp hp=>absurd (show p∈([]:List (aO×Obj))from hp) ba,I.hok.kept hk,?_⟩
 .exact uZ (uJ (hlt b hb) hC)
 .exact(hf b hb).2.2.2.2.1 x c (L.sub.get e)
 .rcases(hf b hb).2.2.2.1 with z|z
  .exact I.ok.noex b o e z
  .exact absurd (uJ (uD e) (uF I.ok.bsz z)) (Uu _)
 .rcases uq.mp (I.stkSub b z)with q|q
  .exact(hf b hb).2.1 q
  .exact(hf b hb).2.2.1 q
 .have e1':(X.N++M)[i]?=sO y:=e1
  by_cases hi:i < σ.length
  .rw[Ur (by rw[xY];exact hi)]at e2
   obtain⟨e2,hiS⟩:=jz S σ e2;rw[Ur (by rw[<- I.len];exact hi)]at e1';obtain⟨m0,hn0,hl⟩:=I.loc;have hy:scope.names.lookup y=sO .free:=by
    rcases e3 with e3|e3
    .have q:=xn scope.names X.env y
     have e3':(relabel scope X.env).names.lookup y=sO .local:=e3;cases z:scope.names.lookup y with
     |none =>
      rw[z]at q;have q':(relabel scope X.env).names.lookup y=nO:=q;rw[e3']at q';cases q'
     |some k =>
      have hk1:k≠.local:=λw=>L.apart i y e1' hiS (w ▸ z);rw[z,UX]at q;have q':sO NameKind.local=sO (if(k == NameKind.free && X.env.scope.kind == .function && X.env.kindOf y == sO .cell)=tU then NameKind.cell else k):=e3'.symm.trans q;have q2:=u4.inj q';by_cases hc:(k == NameKind.free && X.env.scope.kind == .function && X.env.kindOf y == sO .cell)=tU
      .rw[iP hc]at q2;cases q2
      .rw[iN hc]at q2;exact absurd q2.symm hk1
    .exact L.kinds e3
   obtain⟨⟨c,hc⟩,hk2⟩:=L.free hy;obtain⟨u,r,l⟩:=hl i y v e1' e2 (.inr hk2);refine⟨u,r,.inr ⟨?_,c,hc,?_⟩⟩
   .have q:=xn scope.names X.env y
    rw[hy,UX]at q;have q':(relabel scope X.env).names.lookup y=sO (if(NameKind.free == NameKind.free && X.env.scope.kind == .function && X.env.kindOf y == sO .cell)=tU then NameKind.cell else NameKind.free):=q;by_cases hc:(NameKind.free == NameKind.free && X.env.scope.kind == .function && X.env.kindOf y == sO .cell)=tU
    .rw[iP hc]at q';exact .inl q'
    .rw[iN hc]at q';exact .inr q'
   .rcases l with⟨l1,_⟩|⟨_,c',e',z⟩
    .rcases hk2 with w|w<;>(rw[l1]at w;cases w)
    .have ec:c'=c:=by
      have w:=L.sub.get hc;rw[e']at w;exact u4.inj w
     subst ec;obtain⟨o,ho,hd⟩:=z;exact⟨o,hk _ _ ho,hd⟩
  .rw[UA (by rw[xY];exact Nat.not_lt.mp hi),List.getElem?_replicate]at e2
   split at e2<;>cases e2
 .obtain⟨v,o,ho,hd⟩:=I.cell y c (L.sub.get e)
  exact⟨v,o,hk _ _ ho,hd⟩
 .show(wB S σ++uT M.length nO).length=(X.N++M).length
  rw[ud,ud,Uz,xY,I.len]
def PTs(X:Cx)(ifs:List Expr)(t:TT):Prop :=
 ∀(pins:List (aO×Obj))(s:Shared)(σ:St)(H:Hp)(Q:Bool->Hp->Prop),Inv X pins σ H s->t σ H Q ->
  wpAny (model X.prog X.w) X.A (forIn ifs tU λc r=>if r=tU then do let ok <- isTrue c X.env (eval c X.env);pure (ForInStep.yield ok)else pure (ForInStep.yield r)) (TP X pins σ Q) X.xe s
def tYes:TT:=λ_ H Q=>Q tU H
theorem zaj:PTs X [] tYes:=λ_ _ _ H _ I h=>wpAny_tests_nil ⟨H,I,h⟩
theorem zak{c:Expr}{t:TT}(h:PT X c t):PTs X [c] t:=λpins s σ H Q I q=>wpAny_tests_one (h pins s σ H Q I q)
def lcBy(J:It)(g:TG)(tt:TT)(te:TE)(Q:VK)(W:Nat->Nat->St->List V->Hp->Prop):Prop:=∀i m τ ys H,W i m τ ys H ->
 (J.stop i H/\∀p,H p=nO->Q (.ref p) (upd H p (.lst ys))) \/
 (J.go i H/\∃N:St->List V->Hp->Prop,(∀τ' ys' H',N τ' ys' H'->∃m',m' < m/\W (i+1) m' τ' ys' H')/\∀x H',J.yld i H x H'->g x τ H' λτ2 H2=>tt τ2 H2 λb H3 =>
  if b=tU then te τ2 H3 λy H4=>ys.length < sizeLine/\N τ2 (ys++[y]) H4 else N τ2 ys H3)
def tLC(wi:TI)(g:TG)(tt:TT)(te:TE)(n:Nat):TE:=λσ H Q=>wi σ H λJ H1=>∃W,(∃m,W 0 m (σ++uT n nO) [] H1)/\lcBy J g tt te Q W
def tLCS(S:List Nat)(wi:TI)(g:TG)(tt:TT)(te:TE)(n:Nat):TE:=λσ H Q=>wi σ H λJ H1=>∃W,(∃m,W 0 m (wB S σ++uT n nO) [] H1)/\lcBy J g tt te Q W
theorem XZ{J:It}{tn:Nat->Heap->Prop}{Q:VK}{R:aA->aO->Result->Shared->Prop}{Al:aO->(aA->Shared->Prop)->Prop}
  {W:Nat->Nat->St->List V->Hp->Prop} {m0:Nat} (L:LcOk X scope cl S) (hc:X.calm=tU) (I:Inv X pins σ H s) (T:Turn X.prog X.w X.K tg J fp it tn) (st:tn 0 s.heap) (hf:∀b∈fp,FpOk X pins H b)
  (hg:∀C s H ex E,PG (cxLC X scope cl M C s H ex E) tg g) (ht:∀C s H ex E,PTs (cxLC X scope cl M C s H ex E) ifs tt) (he:∀C E,Al C E->PE (cxLC X scope cl M C s H fp E) elt te)
  (hal:∀C,s.heap.objs.size < C->Al C (notedBy (model X.prog X.w) X.A (compEnvC scope cl C X.env) (λe s'=>R (.ref s.heap.objs.size) C (.error e) s')))
  (w0:W 0 m0 (wB S σ++uT M.length nO) [] H) (turn:lcBy J g tt te Q W)
  (hR:∀D C s' H' ys m,Inv X pins σ (upd H' D (.lst ys)) s'->FpOk X pins (upd H' D (.lst ys)) C->s'.heap.Ns C m->Q (.ref D) (upd H' D (.lst ys))->R (.ref D) C (.ok .next) s') :
  wpAny (model X.prog X.w) X.A (newList []) (λacc s₃=>wpAny (model X.prog X.w) X.A (newFunctionEnv scope X.env.globals cl [] X.env.qual nO .none (sO X.env)) (λcenv s₄ =>
   codeAny (model X.prog X.w) X.A (.compStart (.ListComp elt [⟨tg,iter,ifs,0⟩] scope pos) 0 (.ref it) acc { cenv with scope:=relabel scope X.env }) (R acc cenv.locals) s₄) E s₃) E s:=by
 refine wpAny_newObj_type (wpAny_newFunctionEnv L.nocell (by intro y hy;simp at hy) (λh₁ hns₁ hsb₁=>?_) L.kind);dsimp only at hns₁ hsb₁ ⊢
 generalize hG:s.heap.push { cls:=.type "list",dict:=nO,data:=.seq ([]:List aA).toArray }=G at hns₁ hsb₁ ⊢;have hC:G.objs.size=s.heap.objs.size+1:=by rw[<- hG,Ud]
 have hDC:s.heap.objs.size≠G.objs.size:=by rw[hC];exact uZ (tE _)
 have hCle:s.heap.objs.size<=G.objs.size:=by rw[hC];exact Nat.le_succ _
 have old:∀b o,s.heap.get? b=sO o->h₁.get? b=sO o:=λb o e =>
  hsb₁.extBut b o (by rw[hC];exact uZ (Nat.lt_succ_of_lt (uD e))) (ue _ (hG ▸ ue _ e))
 have hacc:h₁.get? s.heap.objs.size=sO { cls:=.type "list",data:=.seq ([]:List aA).toArray }:=hsb₁.extBut _ _ hDC (ue _ (hG ▸ ux _ rfl));have fpo:∀b∈fp,b < s.heap.objs.size:=λb hb=>let ⟨o,e,_⟩:=T.obj 0 _ st b hb;uD e
 have st1:tn 0 h₁:=T.keep 0 _ _ st λb _ o e=>old b o e;have nofs:s.heap.objs.size∉frs X.stack:=λz=>by
  rcases uq.mp (I.stkSub _ z)with q|q
  .exact absurd (q ▸ I.lt) (Uu _)
  .exact I.nofs (uk _) q
 have nocl:∀y c,cl.lookup y=sO c->c≠s.heap.objs.size:=λy c e z=>by
  obtain⟨v,o,ho,_⟩:=I.cell y c (L.sub.get e);exact absurd (z ▸ uD ho) (Uu _)
 have loop:∀s₃:Shared,s₃={ s with heap:=h₁,toks:=s.toks+([]:List (Str×aA)).length } ->
   codeAny (model X.prog X.w) X.A (.compLoop (.ListComp elt [⟨tg,iter,ifs,0⟩] scope pos) 0 (.ref it) (.ref s.heap.objs.size) (compEnvC scope cl G.objs.size X.env)) (R (.ref s.heap.objs.size) G.objs.size) s₃:=by
  rintro s₃ rfl;have hAl:=hal G.objs.size (by rw[hC];exact tE _);generalize hE:notedBy (model X.prog X.w) X.A (compEnvC scope cl G.objs.size X.env) (λe s'=>R (.ref s.heap.objs.size) G.objs.size (.error e) s')=E' at hAl ⊢;have IY:Inv (cxLC X scope cl M G.objs.size s H fp E') [] (wB S σ++uT M.length nO) H { s with heap:=h₁,toks:=s.toks+([]:List (Str×aA)).length }:=V0 I L hf fpo old hCle hns₁;refine codeAny_loop rfl (λn s'=>∃(i:Nat)(τ:St)(H':Hp)(ys:List V)(its:List aA)(k:Nat),Inv (cxLC X scope cl M G.objs.size s H fp E') [] τ H' s'/\tn i s'.heap/\(∀b∈fp,H' b=nO) /\
   s'.heap.get? s.heap.objs.size=sO { cls:=.type "list",data:=.seq its.toArray k }/\H' s.heap.objs.size=nO/\Vals ys its/\ys.length<=sizeLine/\W i n τ ys H') (λn s' hI=>?_) m0
   ⟨0,_,H,[],[],_,IY,st1,λb hb=>(hf b hb).1,hacc,I.hok.fresh (uk _),.nil,uS _,w0⟩
  obtain⟨i,τ,H1,ys,its,k,I1,st1,fr1,eD,fD,rv,hz,w1⟩:=hI;show wpAny _ X.A ((compTurn (.ListComp elt [⟨tg,iter,ifs,0⟩] scope pos) 0 (.ref it) (.ref s.heap.objs.size) (compEnvC scope cl G.objs.size X.env)).onRaise (λx=>do noteFrame x (compEnvC scope cl G.objs.size X.env);theTreesLotGoes x)) _ _ s';refine wpAny_noted ?_;rw[hE,compTurn_list];have I1':Inv (cxLC X scope cl M G.objs.size s H fp E') [(s.heap.objs.size,{ cls:=.type "list",data:=.seq its.toArray k })] τ H1 s':=I1.pins_of λp hp=>by
   have e:p=(s.heap.objs.size,{ cls:=.type "list",data:=.seq its.toArray k }):=by simpa using hp
   subst e;exact⟨eD,fD,hDC,nofs,(λv z=>nomatch z)⟩
  have stat:∀{H':Hp},(∀b∈fp,H' b=nO)->∀b∈fp,FpOk (cxLC X scope cl M G.objs.size s H fp E') [(s.heap.objs.size,{ cls:=.type "list",data:=.seq its.toArray k })] H' b:=λhn b hb=>by
   refine⟨hn b hb,?_,?_,.inl hb,λx c e=>(hf b hb).2.2.2.2.1 x c (L.sub.get e),λp hp z=>?_⟩
   .exact uZ (uJ (fpo b hb) hCle)
   .intro z
    rcases uq.mp (I.stkSub b z)with q|q
    .exact(hf b hb).2.1 q
    .exact(hf b hb).2.2.1 q
   .have e:p=(s.heap.objs.size,{ cls:=.type "list",data:=.seq its.toArray k }):=by
     have hp':p∈[(s.heap.objs.size,({ cls:=.type "list",data:=.seq its.toArray k }:Obj))]:=hp;simpa using hp'
    subst e;exact absurd (z ▸ fpo b hb) (Uu _)
  refine bA (wpAny_standAt (bA ?_));rcases turn i n τ ys H1 w1 with⟨stop,q⟩|⟨go,N,hN,step⟩
  .refine thn (T.done (cxLC X scope cl M G.objs.size s H fp E') rfl rfl rfl hc i _ s' τ H1 E' I1' (stat fr1) st1 stop) λr s4 h_=>?_
   obtain⟨hr,I4⟩:=h_;subst hr;refine pO ?_;obtain⟨eD4,_,_⟩:=I4.pin (s.heap.objs.size,{ cls:=.type "list",data:=.seq its.toArray k }) (uK _ Ui);have base4:Un (frs X.stack) fp H H1 s.heap s4.heap:=I4.base;have un:Un (frs X.stack) fp H (upd H1 s.heap.objs.size (.lst ys)) s.heap s4.heap:=⟨base4.keep,base4.slot,λb o e n hx=>by rw[zo (uZ (uD e))];exact base4.free b o e n hx,base4.there,
    λb xs e=>by rw[zo (zk (base4.tups b xs e) fD)];exact base4.tups b xs e,λb o u e=>by rw[zo (zk (base4.frzs b o u e) fD)];exact base4.frzs b o u e,
    λb ps e=>by
     obtain⟨more,w⟩:=base4.tbls b ps e;exact⟨more,by rw[zo (zk w fD)];exact w⟩⟩
   have hok:HOk X.prog X.w (upd H1 s.heap.objs.size (.lst ys)) s4.heap:=λb u e=>by
    by_cases hb:b=s.heap.objs.size
    .subst hb
     rw[uX9]at e;cases e;exact⟨hz,its,k,rv,eD4⟩
    .rw[zo hb]at e
     exact(I4.hok b u e).stay (λc v _ q=>q) (λc q=>by rw[zo (zk q fD)];exact q) λc xs q=>by rw[zo (zk q fD)];exact q
   have IX:Inv X pins σ (upd H1 s.heap.objs.size (.lst ys)) s4:=I.call' I4.os un hok I4.bare λb hb=>⟨(hf b hb).2.2.2.1,(hf b hb).2.1,(hf b hb).2.2.2.2.1,(hf b hb).2.2.2.2.2⟩;have fC:H1 G.objs.size=nO:=I4.free;obtain⟨m4,n4,_⟩:=I4.loc;exact hR _ _ s4 H1 ys m4 IX (I.fpOk hCle (by rw[zo (Ne.symm hDC)];exact fC)) n4 (q _ fD)
  .refine thn (T.item (cxLC X scope cl M G.objs.size s H fp E') rfl rfl rfl hc i _ s' τ H1 E' I1' (stat fr1) st1 go) λr s4 h_=>?_
   obtain⟨u,hr,h4⟩:=h_;subst hr;refine bA (thn h4 λ_ s5 h_=>?_);obtain⟨x,H5,I5,r5,y5,st5,fr5⟩:=h_;have I5':=I5.pinned (stat fr5) (T.obj _ _ st5);have kept:∀{τ6:St}{H6:Hp}{s6:Shared},Inv (cxLC X scope cl M G.objs.size s H fp E') ([(s.heap.objs.size,{ cls:=.type "list",data:=.seq its.toArray k })]++vC fp s5.heap) τ6 H6 s6 ->
     Inv (cxLC X scope cl M G.objs.size s H fp E') [] τ6 H6 s6/\tn (i+1) s6.heap/\(∀b∈fp,H6 b=nO)/\s6.heap.get? s.heap.objs.size=sO { cls:=.type "list",data:=.seq its.toArray k }/\H6 s.heap.objs.size=nO:=λ{τ6 H6 s6} I6=>by
    have pin:∀b∈fp,∀o,s5.heap.get? b=sO o->s6.heap.get? b=sO o/\H6 b=nO:=λb hb o e =>
     let w:=I6.pin (b,o) (uK _ (uK _ (wq hb e)))
     ⟨w.1,w.2.1⟩
    have pD:=I6.pin (s.heap.objs.size,{ cls:=.type "list",data:=.seq its.toArray k }) (uK _ (uX _ Ui));refine⟨I6.pins_of (λp hp=>nomatch hp),T.keep _ _ _ st5 λb hb o e=>(pin b hb o e).1,λb hb=>?_,pD.1,pD.2.1⟩;obtain⟨o,e,_⟩:=T.obj _ _ st5 b hb;exact(pin b hb o e).2
   refine bA (thn (hg _ _ _ _ _ _ s5 τ H5 x u _ I5' r5 (step x H5 y5)) λ_ s6 h_=>?_);obtain⟨σ6,H6,I6,q6⟩:=h_;refine bA (thn (ht _ _ _ _ _ _ s6 σ6 H6 _ I6 q6) λok s7 h_=>?_);obtain⟨H7,I7,q7⟩:=h_;cases ok with
   |false =>
    have q7':N σ6 ys H7:=by simpa using q7
    obtain⟨m',hm,w7⟩:=hN _ _ _ q7';obtain⟨K1,K2,K3,K4,K5⟩:=kept I7;exact pO ⟨rfl,m',hm,i+1,σ6,H7,ys,its,k,K1,K2,K3,K4,K5,rv,hz,w7⟩
   |true =>
    have q7':te σ6 H7 λy H4=>ys.length < sizeLine/\N σ6 (ys++[y]) H4:=by simpa using q7
    refine bA (bA (thn (he _ _ hAl _ s7 σ6 H7 _ I7 q7') λy s8 h_=>?_));obtain⟨v8,H8,I8,r8,hz8,n8⟩:=h_;obtain⟨m',hm,w8⟩:=hN _ _ _ n8;obtain⟨K1,K2,K3,K4,K5⟩:=kept I8;have hl:=rv.length;refine bA (wpAny_list_append_plain (hsz:=by rw[uw];lia) ⟨k,K4⟩ λh9 hl9 hs9=>pO (pO ⟨rfl,m',hm,?_⟩));obtain⟨k9,e9⟩:=hl9;have I9:Inv (cxLC X scope cl M G.objs.size s H fp E') [] σ6 H8 { s8 with heap:=h9 }:=K1.turned (t':=s8.toks) (it:=s.heap.objs.size) (λb o hb e=>(hs9.2 b hb).trans e) K5 hDC (.inr (uk _))
     (λy c e=>nocl y c e) λp hp=>nomatch hp
    refine⟨i+1,σ6,H8,ys++[v8],its++[y],k9,I9,T.keep _ _ _ K2 λb hb o e=>(hs9.2 b (uZ (fpo b hb))).trans e,K3,?_,K5,rv.append (.cons r8 .nil),?_,w8⟩
    .rw[e9]
     simp
    .rw[ud,uH]
     lia
 exact codeAny_compStart_list (loop _ rfl) (T.self X.A 0 _ _ _ st1 (loop _ rfl))
variable{wi:TI}
theorem zd8(L:LcOk X scope cl S)(hc:X.calm=tU)(hi:PI X tg iter wi)(hg:∀C s H ex E,PG (cxLC X scope cl M C s H ex E) tg g)(ht:∀C s H ex E,PTs (cxLC X scope cl M C s H ex E) ifs tt)(he:∀C s H ex E,PE (cxLC X scope cl M C s H ex E) elt te)
  (hs:%[∀x,foldedSetIterable iter X.env x=pure x|3]):PE X (.ListComp elt [⟨tg,iter,ifs,0⟩] scope pos) (tLCS S wi g tt te M.length):=by
 intro pins s σ H Q I h;rw[eval_ListComp];refine wpAny_comprehension_free (use:=nO) rfl hs L.clos L.kind L.locs (thn (hi pins s σ H _ I h) λv s1 h1=>thn h1 λitv s2 h2=>?_);obtain⟨it,fp,tn,J,H2,rfl,I2,T,st2,f2,W,⟨m0,w0⟩,turn⟩:=h2;refine XZ (R:=λacc C=>compPost (model X.prog X.w) X.A X.xe nO (EP X pins σ Q) acc C) (Al:=λ_ _=>True) L hc I2 T st2 f2 hg ht (λC E _=>he C _ _ _ E) (λ_ _=>trivial) w0 turn ?_;intro D C s' H' ys m IX fC ns q;exact⟨m,ns,λh' sb=>⟨.ref D,_,IX.turned (t':=s'.toks) (λb o hb e=>(sb.2 b hb).trans e) fC.1 fC.2.1 fC.2.2.2.1 fC.2.2.2.2.1 fC.2.2.2.2.2,rfl,q⟩⟩
theorem W3{spos:Pos}(hN:X.N.Nodup)(hi':X.N[i]?=sO y)(hy:Loc X.env.scope y)(L:LcOk X scope cl S)(hc:X.calm=tU)(hi:PI X tg iter wi)(hg:∀C s H ex E,PG (cxLC X scope cl M C s H ex E) tg g)
  (ht:∀C s H ex E,PTs (cxLC X scope cl M C s H ex E) ifs tt) (he:∀C s H ex E,PE (cxLC X scope cl M C s H ex E) elt te) (hs:%[∀x,foldedSetIterable iter X.env x=pure x|3])
  (hsw:%[swapsWith (.ListComp elt [⟨tg,iter,ifs,0⟩] scope pos) (sO (.Name y py)) spos.line X.env=pure tU|1])
  (hf:%[X.fn y=tU\/X.env.scope.names.lookup y=sO .local|4]) :
  PS X (.Assign [.Name y py] (.ListComp elt [⟨tg,iter,ifs,0⟩] scope pos) spos) (λD σ H=>tLCS S wi g tt te M.length σ H λv H1=>D.nx (σ.set i (sO v)) H1):=by
 intro pins s σ H D I h;rw[exec_Assign_Name_used _ _ _ _ hsw];refine bA (wpAny_standAt (bA ?_));show wpAny _ X.A (do let _ <- comprehension (.ListComp elt [⟨tg,iter,ifs,0⟩] scope pos) scope X.env _ (newList []) fO (eval iter X.env) (sO (assign (.Name y py) X.env))) _ _ s;refine bA (wpAny_mono (wpAny_comprehension_free (use:=sO (assign (.Name y py) X.env)) (Q:=λ_ s'=>SP X pins D .next s') rfl hs L.clos L.kind L.locs
  (thn (hi pins s σ H _ I h) λv s1 h1=>thn h1 λitv s2 h2=>?_)) (λ_ s' hq=>pO (pO hq)) λ_ _ e=>e)
 obtain⟨it,fp,tn,J,H2,rfl,I2,T,st2,f2,W,⟨m0,w0⟩,turn⟩:=h2;refine XZ (R:=λacc C=>compPost (model X.prog X.w) X.A X.xe (sO (assign (.Name y py) X.env)) (λ_ s'=>SP X pins D .next s') acc C) (Al:=λ_ _=>True) L hc I2 T st2 f2 hg ht (λC E _=>he C _ _ _ E) (λ_ _=>trivial) w0 turn ?_;intro D' C s' H' ys m IX fC ns q;show wpAny _ X.A (assign (.Name y py) X.env (.ref D')) _ _ s';refine wpAny_assign_Name (jq IX hN hi' hy (v:=.ref D') rfl (λs'' I'' h_=>?_) hf);obtain⟨a,sb,ha⟩:=h_;refine⟨m,ns.sameBut sb ?_,λh' sb'=>⟨_,_,I''.turned (t':=s''.toks) (λb o hb e=>(sb'.2 b hb).trans e) fC.1 fC.2.1 fC.2.2.2.1 fC.2.2.2.2.1 fC.2.2.2.2.2,q⟩⟩;rcases ha with ha|ha
 .rw[ha];exact fC.2.1
 .exact Ne.symm (fC.2.2.2.2.1 y a ha)
end
noncomputable def clOf (scope:Scope) (env:Env):List (Str×aO):=scope.names.foldl (λcs p=>if p.2 == .free then(match env.cells.lookup p.1 with|some a=>(p.1,a)::cs|none=>cs)else cs) []
theorem X0(env:Env):∀(names:List (Str×NameKind))(acc:List (Str×aO)),AllIn env acc->AllIn env (names.foldl (λcs p=>if p.2 == .free then(match env.cells.lookup p.1 with|some a=>(p.1,a)::cs|none=>cs)else cs) acc)
 |[],_,h=>h
 | (n,k)::r,acc,h=>by
  rw[UN];refine X0 env r _ ?_;by_cases hk:(k == NameKind.free)=tU
  .rw[iP hk]
   cases e:env.cells.lookup n with
   |none=>exact h
   |some a=>exact⟨e,h⟩
  .rw[iN hk]
   exact h
section
variable{M:lS}{wi:TI}
theorem X1(h1:closureFor scope X.env=pure (clOf scope X.env))(h2:scope.kind=.function)(h3:scope.names.all (λy=>y.2 != .cell)=tU)(h4:scope.names.all (λy=>y.2 != .local || scope.names.lookup y.1 == sO .local)=tU)
  (h5:X.N.zipIdx.all (λy=>S.contains y.2 || scope.names.lookup y.1 != sO .local)=tU) (h6:scope.names.all (λp=>p.2 != .free || (((clOf scope X.env).lookup p.1).isSome && (X.env.kindOf p.1 == sO .cell || X.env.kindOf p.1 == sO .free)))=tU) :
  LcOk X scope (clOf scope X.env) S:=⟨h1,h2,h3,h4,h5,X0 X.env scope.names [] trivial,h6⟩
end
section
variable{Q:VK}
theorem yy{K:uc}(Pv:Nat->St->List V->Hp->Prop)(h0:Pv 0 σ [] H)(hl:∀i τ ys H,i<=xs.length->Pv i τ ys H->SqL K H a xs)
  (hs:∀i x τ ys H,xs[i]?=sO x->Pv i τ ys H->g x τ H λτ2 H2=>tt τ2 H2 λb H3=>if b=tU then te τ2 H3 λy H4=>ys.length < sizeLine/\Pv (i+1) τ2 (ys++[y]) H4 else Pv (i+1) τ2 ys H3)
  (hd:∀τ ys H,Pv xs.length τ ys H->∀p,H p=nO->Q (.ref p) (upd H p (.lst ys))):∃W,(∃m,W 0 m σ [] H)/\lcBy (Itl K a) g tt te Q W:=by
 refine⟨λi m τ ys H=>m=xs.length-i/\i<=xs.length/\Pv i τ ys H,⟨xs.length,ba,uS _,h0⟩,?_⟩;rintro i m τ ys H ⟨rfl,hi,p⟩;have q:=hl i τ ys H hi p;by_cases hlt:i < xs.length
 .refine .inr ⟨⟨xs,xs[i],q,by simp[hlt]⟩,Pv (i+1),λτ' ys' H' p'=>⟨xs.length-(i+1),b8,rfl,hlt,p'⟩,λx H' y=>?_⟩
  obtain⟨e,y⟩:=y;subst e;exact hs i x τ ys _ (y xs q) p
 .have e:i=xs.length:=b8
  subst e;exact .inl ⟨⟨xs,q,uk _⟩,hd τ ys H p⟩
theorem yW{lo:Int}(Pv:Nat->St->List V->Hp->Prop)(h0:Pv 0 σ [] H)
  (hs:∀i τ ys H,i < n->Pv i τ ys H->g (.int (lo+i)) τ H λτ2 H2=>tt τ2 H2 λb H3=>if b=tU then te τ2 H3 λy H4=>ys.length < sizeLine/\Pv (i+1) τ2 (ys++[y]) H4 else Pv (i+1) τ2 ys H3)
  (hd:∀τ ys H,Pv n τ ys H->∀p,H p=nO->Q (.ref p) (upd H p (.lst ys))):∃W,(∃m,W 0 m σ [] H)/\lcBy (Itr lo n) g tt te Q W:=by
 refine⟨λi m τ ys H=>m=n-i/\i<=n/\Pv i τ ys H,⟨n,ba,uS _,h0⟩,?_⟩;rintro i m τ ys H ⟨rfl,hi,p⟩;by_cases hlt:i < n
 .refine .inr ⟨hlt,Pv (i+1),λτ' ys' H' p'=>⟨n-(i+1),b8,rfl,hlt,p'⟩,λx H' y=>?_⟩
  obtain⟨e,y⟩:=y;subst e y;exact hs i τ ys _ hlt p
 .have e:i=n:=b8
  subst e;exact .inl ⟨uk _,hd τ ys H p⟩
end
end L2
namespace L2
open PySem PySem.Spec PyProof.Rows Builtin Builtin.Str
def Its(z:Str):It:=⟨λi _=>i < z.cps.size,λi H x H'=>H'=H/\∃c,z.cps[i]?=sO c/\x=.str ⟨#[c]⟩,λi _=>i=z.cps.size⟩
theorem Z3{K:uc}{t:Tok}{nm:String}(W:∀A:Around,A.handled=nO->Walks P w A it [it] [it] z.cps.size (SignAt z) (λi h=>h.IsStrIter it nm z t i))
  (self:∀(A:Around)(i:Nat)(s:Shared)(Q:VSP)(E:VSP),s.heap.IsStrIter it nm z t i->Q (.ref it) s->wpAny (model P w) A (pyIter (.ref it)) Q E s)
  (hn:["enumerate","zip","dict_itemiterator","dict_reverseitemiterator","odict_iterator","itertools.zip_longest","itertools.pairwise"].contains nm=fO) :
  Turn P w K tg (Its z) [it] it (λi h=>h.IsStrIter it nm z t i) where
 mem:=ba
 obj:=λi h st b hb=>by
  have e:b=it:=bh
  subst e;obtain⟨o,e,c,d⟩:=st;exact⟨o,e,λv z=>by rw[d]at z;cases z⟩
 keep:=λi h h' st k=>by
  obtain⟨o,e,r⟩:=st;exact⟨o,k it ba o e,r⟩
 item:=by
  intro X hP hw hK hc i pins s σ H E I hf st hg;subst hP hw hK;obtain⟨f0,f1,f2,f3,f4,f5⟩:=hf it ba;refine(W X.A (I.ok.hd hc)).item i s _ _ hg st λv h' tk hv st' kk=>?_;obtain⟨c,u,hcu,rfl⟩:=hv;have I1:Inv X pins σ H { s with heap:=h',toks:=tk }:=I.turned (λb o hb e=>kk b o bh e) f0 f1 f3 f4 f5;obtain⟨o,e,c',d⟩:=id st';exact⟨_,rfl,ZU (s:={ s with heap:=h',toks:=tk }) e c' d hn ⟨.str ⟨#[c]⟩,H,I1,⟨u,rfl⟩,⟨rfl,c,hcu,rfl⟩,st',λb hb=>(hf b hb).1⟩⟩
 done:=by
  intro X hP hw hK hc i pins s σ H E I hf st hg;subst hP hw hK;obtain⟨f0,f1,f2,f3,f4,f5⟩:=hf it ba;have hg':i=z.cps.size:=hg;subst hg';exact(W X.A (I.ok.hd hc)).done s _ _ st λh' tk kk=>⟨rfl,I.turned (λb o hb e=>kk b o bh e) f0 f1 f3 f4 f5⟩
 self:=self
def iStr(tl:TE):TI:=λσ H R=>tl σ H λx H1=>∃z,x=.str z/\R (Its z) H1
theorem zcR(hc:X.calm=tU){l:Expr}(hl:PE X l tl):PI X tg l (iStr tl):=by
 intro pins s σ H R I h;refine thn (hl pins s σ H _ I h) λv s1 h_=>?_;obtain⟨x,H1,I1,r1,q1⟩:=h_;obtain⟨z,e,q⟩:=q1;subst e;obtain⟨t,rfl⟩:=r1;have fp:∀b∈[s1.heap.objs.size],FpOk X pins H1 b:=λb hb=>by
  have e:b=s1.heap.objs.size:=bh
  subst e;exact I1.fpOk (uk _) (I1.hok.fresh (uk _))
 cases ha:z.cps.all (· < 128)
 .refine wpAny_pyIter_wide ha ?_
  exact⟨s1.heap.objs.size,[s1.heap.objs.size],_,_,H1,rfl,I1.kept (t':=s1.toks) λb o e=>ue _ e,
   Z3 (nm:="str_iterator") (λA hA=>Walks.strWide hA _ z t) (λ_ _ _ _ _ st q=>wpAny_pyIter_striter_wide st q) b9,⟨_,ux _ rfl,rfl,rfl⟩,fp,q⟩
 .refine wpAny_pyIter_ascii ha ?_
  exact⟨s1.heap.objs.size,[s1.heap.objs.size],_,_,H1,rfl,I1.kept (t':=s1.toks) λb o e=>ue _ e,
   Z3 (nm:="str_ascii_iterator") (λA hA=>Walks.strAscii hA _ z t) (λ_ _ _ _ _ st q=>wpAny_pyIter_striter_ascii st q) b9,⟨_,ux _ rfl,rfl,rfl⟩,fp,q⟩
theorem Xb:OpR X (binaryOp .Mult) (λx y H Q=>∃z n,x=.str z/\y=.int n/\MulOk z n/\Q (.str (Txt.mul z n)) H):=by
 intro pins s σ H x y v u Q I rx ry h;obtain⟨z,n,rfl,rfl,ok,q⟩:=h;obtain⟨t,rfl⟩:=rx;obtain⟨t',rfl⟩:=ry;exact SB.mul ok λt'' k=>⟨.str (Txt.mul z n),H,I.tok k,⟨t'',rfl⟩,q⟩
theorem Z4:xr X (.builtin "isinstance") (λxs H Q=>∃x t T b,xs=[x,.ty T]/\TyOf X.K H x t/\PySem.W.kitOne X.K t (.type T)=sO b/\Q (.bl b) H):=by
 intro pins s σ H xs us Q I r h;obtain⟨x,t,T,b,rfl,ty,e,q⟩:=h;obtain⟨u,u',rfl,rx,ru⟩:=ZV r;cases ru;exact WT I rx ty e λtk=>⟨.bl b,H,I.tok tk,rfl,q⟩
theorem W4(bs:List Bool):(uQ bs.length).all (λi=>bs.getD i fO)=bs.all id:=by
 induction bs with
 |nil=>rfl
 |cons b r ih =>
  rw[ui,List.range_succ_eq_map,tM,List.all_map,tM];have e:(uQ r.length).all ((λi=>(b::r).getD i fO) ∘ tP)=(uQ r.length).all λi=>r.getD i fO:=by
   congr 1
  rw[e,ih]
  rfl
theorem vG(hc:X.calm=tU):xr X (.builtin "all") (λxs H Q=>∃(p:aO)(bs:List Bool),xs=[.ref p]/\SqL X.K H p (bs.map V.bl)/\Q (.bl (bs.all id)) H):=by
 intro pins s σ H xs us Q I r h;obtain⟨p,bs,rfl,hq,q⟩:=h;obtain⟨u,rfl,rx⟩:=wA r;cases rx;obtain⟨its,rv,pl,hz⟩:=I.list hq;have hh:X.A.handled=nO:=I.ok.hd hc;have hlen:its.toArray.size=bs.length:=by rw[uw,<- rv.length,ub]
 have hne:p≠s.heap.objs.size:=by
  obtain⟨o,n,e,_⟩:=pl;exact uZ (uD e)
 refine call_all_walk (wpAny_pyIter_list pl.isList ?_);refine⟨s.heap.objs.size,_,_,_,_,_,λi=>bs.getD i fO,rfl,Walks.list (A:=X.A.in1) hh _ p hne its.toArray,⟨⟨_,ux _ rfl,rfl,rfl⟩,pl.isList.at λo e=>ue _ e⟩,λi v s1 Q1 E1 hv hQ=>?_,λh' tk kk=>?_⟩
 .have hi:i < bs.length:=by
   obtain⟨hi,_⟩:=Array.getElem?_eq_some_iff.mp hv;rw[hlen]at hi;exact hi
  have hb:(bs.map V.bl)[i]?=sO (V.bl (bs.getD i fO)):=by
   rw[uh,uj hi];simp[List.getD,uj hi]
  obtain⟨u',hu,ru⟩:=rv.get hb;have e:its.toArray[i]?=sO u':=by simpa using hu
  have hv':its.toArray[i]?=sO v:=hv;rw[hv']at e;cases e;cases ru;exact wpAny_truthy_bool hQ
 .rw[hlen,W4]
  have I1:Inv X pins σ H { s with heap:=s.heap.push { cls:=.type "list_iterator",data:=.fields #[.ref p,.int 0 0] } }:=I.kept (t':=s.toks) λb o e=>ue _ e;have f:=I.fpOk (H':=H) (uk _) I.fresh;exact⟨.bl (bs.all id),H,I1.turned (it:=s.heap.objs.size) (λb o hb e=>kk b o bh e) f.1 f.2.1 f.2.2.2.1 f.2.2.2.2.1 f.2.2.2.2.2,rfl,q⟩
end L2
namespace L2
open PySem PySem.Spec PyProof.Rows
def zA:Expr->Bool
 |.Starred ..=>tU
 |_=>fO
theorem zH(h:zA e=fO):starEach (e::es) env=(fO,eval e env)::starEach es env:=by
 cases e<;>first
  |rfl
  |exact absurd (show tU=fO from h) b9
theorem yH{env:Env}{pos:Pos}:∀{es:List Expr},es.all (λe=>!zA e)=tU->(backTo pos (starEach es env)).any (·.1)=fO
 |[],_=>rfl
 |e::es,h=>by
  rw[tM,U1]at h;have h1:zA e=fO:=by simpa using h.1
  rw[zH h1];show(fO || (backTo pos (starEach es env)).any (·.1))=fO;rw[yH h.2]
  rfl
section
variable{k:Nat}{dvs:List V}{E:XK}{m:Str}{p:Pos}{t:TA}{id T:String}{r:List V->Hp->VK->Prop}
theorem pa_c(ha:PE X e te)(hr:PA X es t)(h:%[zA e=fO|1]):PA X (e::es) (yk te t):=Q9 ha hr (zH h)
theorem zd9(F:FnOk X.prog X.w X.K X.mg X.base CX k f fd ps sp)(hr:Room k X.A)(hg:Gl X x)(hm:X.mg x=sO (.ref f))(hk:uY X.K (.ref f)=tU)(hb:Binds X.K fd ps ds)(hd:Vals dvs ds)(hx:xb CX X E)
  (ha:PA X (e::es) t) (hdb:%[(x == ("__debug__":Str))=fO|2]) (h1:%[zA e=fO|1]) (h2:%[es.all (λe=>!zA e)=tU|1]) :
  PE X (.Call (.Name x p) (e::es) [] pos) (ZX sp dvs E t):=zaa F hr hg hm hk hb hd hx ha hdb (zH h1) (yH h2)
theorem zcS(hc:xr X (.builtin id) r)(hg:Gl X x)(hm:X.mg x=nO)(hv:bootBuiltins x=sO (.builtin id))(ha:PA X (e::es) t)(hn:%[x≠"__name__"|2])(hdb:%[(x == ("__debug__":Str))=fO|2])
  (h1:%[zA e=fO|1]) (h2:%[es.all (λe=>!zA e)=tU|1]):PE X (.Call (.Name x p) (e::es) [] pos) (tCB r t):=VT hc hg hm hv ha hn hdb (zH h1) (yH h2)
theorem zal(hc:xr X (.type T) r)(hg:Gl X x)(hm:X.mg x=nO)(hv:bootBuiltins x=sO (.type T))(ha:PA X (e::es) t)(hn:%[x≠"__name__"|2])(hdb:%[(x == ("__debug__":Str))=fO|2])
  (h1:%[zA e=fO|1]) (h2:%[es.all (λe=>!zA e)=tU|1]):PE X (.Call (.Name x p) (e::es) [] pos) (tCB r t):=WU hc hg hm hv ha hn hdb (zH h1) (yH h2)
end
structure jE(X:Cx)(e:Expr)(t:TE):Prop where
 out:PE X e t
structure jT(X:Cx)(e:Expr)(t:TT):Prop where
 out:PT X e t
structure jW(X:Cx)(e:Expr)(t:TT):Prop where
 out:PW X e t
structure jA(X:Cx)(es:List Expr)(t:TA):Prop where
 out:PA X es t
structure jS(X:Cx)(st:Stmt)(t:TS):Prop where
 out:PS X st t
structure jSs(X:Cx)(sts:List Stmt)(t:TS):Prop where
 out:PSs X sts t
structure jG(X:Cx)(tg:Expr)(t:TG):Prop where
 out:PG X tg t
structure jGs(X:Cx)(tg:List Expr)(t:TGs):Prop where
 out:PGs X tg t
structure jI(X:Cx)(tg iter:Expr)(t:TI):Prop where
 out:PI X tg iter t
structure jO(X:Cx)(e:Option Expr)(t:TO):Prop where
 out:PO X e t
structure jTs(X:Cx)(ifs:List Expr)(t:TT):Prop where
 out:PTs X ifs t
structure jOp(X:Cx)(f:aA->aA->Sem aA)(r:R2):Prop where
 out:OpR X f r
structure jIx(X:Cx)(r:R2):Prop where
 out:IxR X r
structure jSl(X:Cx)(r:V->Option Int->Option Int->Hp->VK->Prop):Prop where
 out:SlR X r
structure jMt(X:Cx)(id:String)(r:V->List V->Hp->VK->Prop):Prop where
 out:MtR X id r
structure jCa(X:Cx)(f:aA)(r:List V->Hp->VK->Prop):Prop where
 out:xr X f r
section
variable{a b c:Expr}{rest:List Expr}{tc:TE}{t u:TA}{tA tB':TT}{p px:Pos}{m:Str}{op':CmpOp}{bop:Operator}{r r':R2}
theorem jv(i:Nat)(hN:%[X.N[i]?=sO x|1])(hv:%[Vis X.env.scope x|6])(hd:%[(x == ("__debug__":Str))=fO|2])
  (hcd:%[(x == ("__classdict__":Str))=fO|2]):jE X (.Name x pos) (tVar i):=⟨pv i hN hv hd hcd⟩
theorem zp{i j}:jE X (.Constant (.int i) j pos) (tC (.int i)):=⟨zch⟩
theorem yC{b j}:jE X (.Constant (.bool b) j pos) (tC (.bl b)):=⟨zdV⟩
theorem zu{x j}:jE X (.Constant (.str x) j pos) (tC (.str x)):=⟨zci⟩
theorem zam{w:aA}(hg:Gl X x)(hm:X.mg x=sO w)(r:RelV v w)(hd:%[(x == ("__debug__":Str))=fO|2]):jE X (.Name x pos) (tC v):=⟨QS hg hm r hd⟩
theorem yt{w:aA}(hg:Gl X x)(hm:X.mg x=nO)(hv:bootBuiltins x=sO w)(r:RelV v w)(hn:%[x≠"__name__"|2])(hd:%[(x == ("__debug__":Str))=fO|2]):jE X (.Name x pos) (tC v):=⟨QT hg hm hv r hn hd⟩
theorem zC(ho:jOp X (binaryOp bop) r)(ha:jE X a ta)(hb:jE X b tb):jE X (.BinOp a bop b pos) (tOp r ta tb):=⟨zdY ho.out ha.out hb.out⟩
theorem xw(ha:jE X a ta):jE X (.UnaryOp .USub a pos) (tUn (rU λi=>.int (-i)) ta):=⟨zbz zcB ha.out⟩
theorem yM(ho:jOp X (compareOp op) r)(ha:jE X a ta)(hb:jE X b tb)(hm:behindInMarks op b=fO):jE X (.Compare a [op] [b] pos) (tOp r ta tb):=⟨Q3 ho.out ha.out hb.out hm⟩
theorem vt(ho:jOp X (compareOp op) r)(ha:jE X a ta)(hb:jE X b tb)(hm:behindInMarks op b=fO):jT X (.Compare a [op] [b] pos) (vD (tOp r ta tb)):=⟨Q4 ho.out ha.out hb.out hm⟩
theorem zS(h:jE X e te)(he:%[∀whole,isTrue e X.env whole=(do let v <- whole;standAt e.pos;holding [v] (truthy v))|3]):jT X e (tB te):=⟨zcj h.out he⟩
theorem xt(ha:jT X a tA):jW X (.BoolOp .And [a] pos) tA:=⟨pw_and1 ha.out⟩
theorem yG(ha:jT X a tA):jW X (.BoolOp .Or [a] pos) tA:=⟨pw_or1 ha.out⟩
theorem xQ(ha:jT X a tA)(hb:jW X (.BoolOp .And (b::rest) pos) tB'):jW X (.BoolOp .And (a::b::rest) pos) (tAnd tA tB'):=⟨pw_and ha.out hb.out⟩
theorem yI(ha:jT X a tA)(hb:jW X (.BoolOp .Or (b::rest) pos) tB'):jW X (.BoolOp .Or (a::b::rest) pos) (tOr tA tB'):=⟨pw_or ha.out hb.out⟩
theorem jW.pt(h:jW X e tA):jT X e tA:=⟨PW.pt h.out⟩
theorem yv(ha:jT X a tA):jT X (.UnaryOp .Not a pos) (tNot tA):=⟨zck ha.out⟩
theorem wZ{op}(h:jE X a te):jE X (.BoolOp op [a] pos) te:=⟨zcl h.out⟩
theorem vH(ha:jE X a ta)(hb:jE X (.BoolOp .And (b::rest) pos) tb):jE X (.BoolOp .And (a::b::rest) pos) (VF ta tb):=⟨zcm ha.out hb.out⟩
theorem zbH(ha:jE X a ta)(hb:jE X (.BoolOp .Or (b::rest) pos) tb):jE X (.BoolOp .Or (a::b::rest) pos) (tOrV ta tb):=⟨zdW ha.out hb.out⟩
theorem V1(ha:jE X a ta):jE X (.UnaryOp .Not a pos) (zbw ta):=⟨zcn ha.out⟩
theorem xR(hc:jT X c tA)(ha:jE X a ta)(hb:jE X b tb):jE X (.IfExp c a b pos) (tIf tA ta tb):=⟨VG hc.out ha.out hb.out⟩
theorem zQ:jA X [] tNil:=⟨zcF⟩
theorem ja_c(ha:jE X e te)(hr:jA X es t)(h:%[zA e=fO|1]):jA X (e::es) (yk te t):=⟨pa_c ha.out hr.out h⟩
theorem zI(h:jA X es t):jE X (.List es pos) (tLst t):=⟨zcH h.out⟩
theorem zy{x1}(h:jA X es t):jE X (.Tuple es x1 pos) (tTup t):=⟨zcG h.out⟩
theorem Z5(hr:jIx X r)(ha:jE X a ta)(hb:jE X b tb)(hs:j4 b):jE X (.Subscript a b pos) (tOp r ta tb):=⟨zd6 hr.out ha.out hb.out hs⟩
theorem yU:jO X nO XX:=⟨zad⟩
theorem yV(h:jE X e te):jO X (sO e) (zbD te):=⟨zae h.out⟩
theorem yJ{r:V->Option Int->Option Int->Hp->VK->Prop}{lo hi:Option Expr}{tl th:TO}(hr:jSl X r)(he:jE X e te)(hl:jO X lo tl)(hu:jO X hi th):jE X (.Subscript e (.Slice lo hi nO p2) pos) (tSl r te tl th):=⟨VV hr.out he.out hl.out hu.out⟩
variable{k:Nat}{dvs:List V}{E:XK}{id T:String}{rc:List V->Hp->VK->Prop}{rm:V->List V->Hp->VK->Prop}
theorem zea(F:FnOk X.prog X.w X.K X.mg X.base CX k f fd ps sp)(hr:Room k X.A)(hg:Gl X x)(hm:X.mg x=sO (.ref f))(hk:uY X.K (.ref f)=tU)(hb:Binds X.K fd ps ds)(hd:Vals dvs ds)(hx:xb CX X E)
  (ha:jA X (e::es) t) (hdb:%[(x == ("__debug__":Str))=fO|2]) (h1:%[zA e=fO|1]) (h2:%[es.all (λe=>!zA e)=tU|1]) :
  jE X (.Call (.Name x p) (e::es) [] pos) (ZX sp dvs E t):=⟨zd9 F hr hg hm hk hb hd hx ha.out hdb h1 h2⟩
theorem zG(hc:jCa X (.builtin id) rc)(hg:Gl X x)(hm:X.mg x=nO)(hv:bootBuiltins x=sO (.builtin id))(ha:jA X (e::es) t)(hn:%[x≠"__name__"|2])(hdb:%[(x == ("__debug__":Str))=fO|2])
  (h1:%[zA e=fO|1]) (h2:%[es.all (λe=>!zA e)=tU|1]):jE X (.Call (.Name x p) (e::es) [] pos) (tCB rc t):=⟨zcS hc.out hg hm hv ha.out hn hdb h1 h2⟩
theorem zK(hc:jCa X (.type T) rc)(hg:Gl X x)(hm:X.mg x=nO)(hv:bootBuiltins x=sO (.type T))(ha:jA X (e::es) t)(hn:%[x≠"__name__"|2])(hdb:%[(x == ("__debug__":Str))=fO|2])
  (h1:%[zA e=fO|1]) (h2:%[es.all (λe=>!zA e)=tU|1]):jE X (.Call (.Name x p) (e::es) [] pos) (tCB rc t):=⟨zal hc.out hg hm hv ha.out hn hdb h1 h2⟩
theorem Xc(pa:PlainAttrs T)(slot:Slot T name id)(hty:typeOf (.builtin id)=pure (.type "method_descriptor"))(hm:jMt X id rm)(ho:jE X o to)
  (hbase:%[attributeBase o name X.env (eval o X.env)=eval o X.env|1]) (hline:%[(apos.endLine == cpos.line)=tU|1]):jE X (.Call (.Attribute o name apos) [] [] cpos) (tBM0 X.K T rm to):=⟨zcN pa slot hty hm.out ho.out hbase hline⟩
theorem yO(pa:PlainAttrs T)(slot:Slot T name id)(hty:typeOf (.builtin id)=pure (.type "method_descriptor"))(hm:jMt X id rm)(ho:jE X o to)(ha:jA X (e::es) t)
  (hbase:%[attributeBase o name X.env (eval o X.env)=eval o X.env|1])
  (hfew:%[((backTo cpos (starEach (e::es) X.env)).all (λx=>!x.1) && (backToKw cpos (keywordEach [] X.env)).all (λx=>x.1.isSome)
   && decide ((e::es).length+([]:List Keyword).length+(if([]:List Keyword).isEmpty then 0 else 1) < 30))=tU|1])
  (hline:%[(apos.endLine == cpos.line)=tU|1]) (h1:%[zA e=fO|1]) (h2:%[es.all (λe=>!zA e)=tU|1]) :
  jE X (.Call (.Attribute o name apos) (e::es) [] cpos) (tBM X.K T rm to t):=⟨zd7 pa slot hty hm.out ho.out ha.out hbase hfew hline (zH h1) (yH h2)⟩
variable{sts:List Stmt}{s1 s2:TS}{wi:TI}{tb1:TS}
theorem zw:jSs X [] jr:=⟨QU⟩
theorem zh(h1:jS X st s1)(h2:jSs X sts s2):jSs X (st::sts) (tSeq s1 s2):=⟨VH h1.out h2.out⟩
theorem zi(h1:jS X st s1):jSs X [st] s1:=⟨QV h1.out⟩
theorem yg(he:jE X e te)(hs:%[swapsWith e nO pos.line X.env=pure fO|1]):jS X (.Expr e pos) (VI te):=⟨QW he.out hs⟩
theorem zt(he:jE X e te):jS X (.Return (sO e) pos) (tRet te):=⟨zco he.out⟩
theorem zF{A B:List Stmt}(hc:jT X c tA)(ha:jSs X A s1)(hb:jSs X B s2):jS X (.If c A B pos) (tIfS tA s1 s2):=⟨zdX hc.out ha.out hb.out⟩
theorem V2(hN:X.N.Nodup)(hi:X.N[i]?=sO x)(hx:Loc X.env.scope x)(he:jE X e te)(hs:%[swapsWith e (sO (.Name x pos')) pos.line X.env=pure fO|1])
  (hf:%[X.fn x=tU\/X.env.scope.names.lookup x=sO .local|4]):jS X (.Assign [.Name x pos'] e pos) (tAsg te (wz i)):=⟨zcs hN hi hx he.out hs hf⟩
theorem xS(he:jE X e te)(hg:jG X tg g)(hs:%[swapsWithSole [tg] e pos.line X.env=pure fO|1])(hw:%[swappedStores [tg] e X.env=pure nO|1])(h1:%[(assignEach [tg] X.env).map (·.2)=[assign tg X.env]|1]):jS X (.Assign [tg] e pos) (tAsg te g):=⟨zcr he.out hg.out hs hw h1⟩
theorem zan(hN:X.N.Nodup)(hi:X.N[i]?=sO x)(hx:Loc X.env.scope x)(hf:%[X.fn x=tU\/X.env.scope.names.lookup x=sO .local|4]):jG X (.Name x pos) (wz i):=⟨QX hN hi hx hf⟩
theorem zV:jGs X [] gNil:=⟨QY⟩
theorem zx(h1:jG X e g)(h2:jGs X es gs)(hs:%[(assignEach (e::es) X.env).map (·.2)=assign e X.env::(assignEach es X.env).map (·.2)|1]):jGs X (e::es) (zbx g gs):=⟨VJ h1.out h2.out hs⟩
theorem zcT(hc:X.calm=tU)(h:jGs X es gs)(hn:%[(assignEach es X.env).length=n|1])(hst:%[(assignEach es X.env).findIdx? (·.1)=nO|1]):jG X (.Tuple es k pos) (gTup X.K n gs):=⟨zcp hc h.out hn hst⟩
theorem zao{l:Expr}(hl:jE X l tl):jI X tg l (VN X.K tl):=⟨QZ hl.out⟩
theorem zcU{l:Expr}(hl:jE X l tl):jI X tg l (iTup X.K tl):=⟨zct hl.out⟩
theorem zcV(hc:X.calm=tU){l:Expr}(hl:jE X l tl):jI X tg l (iStr tl):=⟨zcR hc hl.out⟩
theorem yw(hg:Gl X "range")(hm:X.mg "range"=nO)(ha:jA X [a] t)(h:%[zA a=fO|1]):jI X tg (.Call (.Name "range" p) [a] [] pos) (zby t):=⟨WN hg hm ha.out (zH h)⟩
theorem z5(hp:PassesOwn (model X.prog X.w) X.A X.env X.xe)(hc:X.calm=tU)(hi:jI X tg iter wi)(hg:jG X tg g)(hb:jSs X sts tb1)(hs:%[∀x,foldedSetIterable iter X.env x=pure x|3]):jS X (.For tg iter sts [] pos) (tFor wi g tb1):=⟨zcu hp hc hi.out hg.out hb.out hs⟩
theorem Z6(hp:PassesOwn (model X.prog X.w) X.A X.env X.xe)(hc:jT X c tA)(hb:jSs X sts tb1):jS X (.While c sts [] pos) (VL tA tb1):=⟨VM hp hc.out hb.out⟩
theorem zZ:jTs X [] tYes:=⟨zaj⟩
theorem yD(h:jT X c tA):jTs X [c] tA:=⟨zak h.out⟩
theorem vI(S:List Nat)(M:lS)(hc:X.calm=tU)(hi:jI X tg iter wi)(hg:∀C s H ex E,jG (cxLC X scope (clOf scope X.env) M C s H ex E) tg g)(ht:∀C s H ex E,jTs (cxLC X scope (clOf scope X.env) M C s H ex E) ifs tt)(he:∀C s H ex E,jE (cxLC X scope (clOf scope X.env) M C s H ex E) elt te)(hs:%[∀x,foldedSetIterable iter X.env x=pure x|3])(L:%[LcOk X scope (clOf scope X.env) S|7]):jE X (.ListComp elt [⟨tg,iter,ifs,0⟩] scope pos) (tLCS S wi g tt te M.length):=⟨zd8 L hc hi.out (λC s H ex E=>(hg C s H ex E).out) (λC s H ex E=>(ht C s H ex E).out) (λC s H ex E=>(he C s H ex E).out) hs⟩
theorem yn(M:lS)(hc:X.calm=tU)(hi:jI X tg iter wi)(hg:∀C s H ex E,jG (cxLC X scope (clOf scope X.env) M C s H ex E) tg g)(ht:∀C s H ex E,jTs (cxLC X scope (clOf scope X.env) M C s H ex E) ifs tt)(he:∀C s H ex E,jE (cxLC X scope (clOf scope X.env) M C s H ex E) elt te)(hs:%[∀x,foldedSetIterable iter X.env x=pure x|3])(L:%[LcOk X scope (clOf scope X.env) []|7]):jE X (.ListComp elt [⟨tg,iter,ifs,0⟩] scope pos) (tLC wi g tt te M.length):=vI [] M hc hi hg ht he hs L
theorem Z7(S:List Nat)(M:lS){spos:Pos}(hN:X.N.Nodup)(hi':X.N[i]?=sO y)(hy:Loc X.env.scope y)(hc:X.calm=tU)(hi:jI X tg iter wi)(hg:∀C s H ex E,jG (cxLC X scope (clOf scope X.env) M C s H ex E) tg g)(ht:∀C s H ex E,jTs (cxLC X scope (clOf scope X.env) M C s H ex E) ifs tt)(he:∀C s H ex E,jE (cxLC X scope (clOf scope X.env) M C s H ex E) elt te)(hs:%[∀x,foldedSetIterable iter X.env x=pure x|3])(hsw:%[swapsWith (.ListComp elt [⟨tg,iter,ifs,0⟩] scope pos) (sO (.Name y py)) spos.line X.env=pure tU|1])(hf:%[X.fn y=tU\/X.env.scope.names.lookup y=sO .local|4])(L:%[LcOk X scope (clOf scope X.env) S|7]):jS X (.Assign [.Name y py] (.ListComp elt [⟨tg,iter,ifs,0⟩] scope pos) spos) (λD σ H=>tLCS S wi g tt te M.length σ H λv H1=>D.nx (σ.set i (sO v)) H1):=⟨W3 hN hi' hy L hc hi.out (λC s H ex E=>(hg C s H ex E).out) (λC s H ex E=>(ht C s H ex E).out) (λC s H ex E=>(he C s H ex E).out) hs hsw hf⟩
theorem yu(M:lS){spos:Pos}(hN:X.N.Nodup)(hi':X.N[i]?=sO y)(hy:Loc X.env.scope y)(hc:X.calm=tU)(hi:jI X tg iter wi)(hg:∀C s H ex E,jG (cxLC X scope (clOf scope X.env) M C s H ex E) tg g)(ht:∀C s H ex E,jTs (cxLC X scope (clOf scope X.env) M C s H ex E) ifs tt)(he:∀C s H ex E,jE (cxLC X scope (clOf scope X.env) M C s H ex E) elt te)(hs:%[∀x,foldedSetIterable iter X.env x=pure x|3])(hsw:%[swapsWith (.ListComp elt [⟨tg,iter,ifs,0⟩] scope pos) (sO (.Name y py)) spos.line X.env=pure tU|1])(hf:%[X.fn y=tU\/X.env.scope.names.lookup y=sO .local|4])(L:%[LcOk X scope (clOf scope X.env) []|7]):jS X (.Assign [.Name y py] (.ListComp elt [⟨tg,iter,ifs,0⟩] scope pos) spos) (λD σ H=>tLC wi g tt te M.length σ H λv H1=>D.nx (σ.set i (sO v)) H1):=Z7 [] M hN hi' hy hc hi hg ht he hs hsw hf L
theorem yz:jOp X (binaryOp .Add) (rI0 λi j=>.int (i+j)):=⟨zcv⟩
theorem xo:jOp X (binaryOp .Sub) (rI0 λi j=>.int (i-j)):=⟨zcw⟩
theorem Zb:jOp X (binaryOp .Mult) (rI CMul λi j=>.int (i*j)):=⟨zcx⟩
theorem xZ:jOp X (binaryOp .FloorDiv) (rI CDiv λi j=>.int (i / j)):=⟨Q0⟩
theorem xH:jOp X (binaryOp .Mod) (rI (λ_ j=>0 < j) λi j=>.int (i % j)):=⟨zcy⟩
theorem zcW:jOp X (binaryOp .Pow) (rI CPow λi j=>.int (i ^ j.toNat)):=⟨zcz⟩
theorem zJ:jOp X (compareOp .Eq) rEq:=⟨zd0⟩
theorem xp:jOp X (compareOp .NotEq) rNe:=⟨zd1⟩
theorem jB:jOp X (compareOp .Lt) (rI0 λi j=>.bl (decide (i < j))):=⟨zd2⟩
theorem zbI:jOp X (compareOp .LtE) (rI0 λi j=>.bl (decide (i<=j))):=⟨zd3⟩
theorem vJ:jOp X (compareOp .Gt) (rI0 λi j=>.bl (decide (j < i))):=⟨zd4⟩
theorem zeb:jOp X (compareOp .GtE) (rI0 λi j=>.bl (decide (j<=i))):=⟨zd5⟩
theorem W5:jOp X (compareOp .In) (rIn X.K fO):=⟨WV⟩
theorem Zc:jOp X (compareOp .NotIn) (rIn X.K tU):=⟨j6⟩
theorem yS:jOp X (binaryOp .Add) (λx y H Q=>∃i j,x=.str i/\y=.str j/\i.length+j.length<=sizeLine/\Q (.str (i++j)) H):=⟨Y0⟩
theorem vK:jOp X (binaryOp .Mult) (λx y H Q=>∃z n,x=.str z/\y=.int n/\MulOk z n/\Q (.str (Txt.mul z n)) H):=⟨Xb⟩
theorem yP:jOp X (binaryOp .Add) rCat:=⟨zcP⟩
theorem wC:jOp X (binaryOp .Add) (zbE X.K):=⟨zaf⟩
theorem X2:jIx X (rIxL X.K):=⟨zag⟩
theorem V3:jIx X (rIxT X.K):=⟨zcK⟩
theorem Xd:jIx X rIxS:=⟨zcL⟩
theorem zap:jSl X (rSlL X.K):=⟨zah⟩
theorem zY:jMt X "list.append" Za:=⟨WW⟩
theorem V4:jMt X "list.pop" rPop:=⟨zcO⟩
theorem Xe:jCa X (.builtin "len") (λxs H Q=>∃p ys,xs=[.ref p]/\(SqL X.K H p ys\/SqT X.K H p ys)/\Q (.int ys.length) H):=⟨j8⟩
theorem Zd(hc:X.calm=tU):jCa X (.builtin "all") (λxs H Q=>∃(p:aO)(bs:List Bool),xs=[.ref p]/\SqL X.K H p (bs.map V.bl)/\Q (.bl (bs.all _root_.id)) H):=⟨vG hc⟩
theorem W6:jCa X (.builtin "isinstance") (λxs H Q=>∃x t T b,xs=[x,.ty T]/\TyOf X.K H x t/\PySem.W.kitOne X.K t (.type T)=sO b/\Q (.bl b) H):=⟨Z4⟩
theorem Z8:jCa X (.type "tuple") (λxs H Q=>∃p ys,xs=[.ref p]/\((SqL X.K H p ys/\∀l,H l=nO->Q (.ref l) (upd H l (.tup ys)))\/(SqT X.K H p ys/\Q (.ref p) H))):=⟨jo⟩
theorem Xf:jCa X (.type "list") (λxs H Q=>∃p ys,xs=[.ref p]/\(SqL X.K H p ys\/SqT X.K H p ys)/\∀l,H l=nO->Q (.ref l) (upd H l (.lst ys))):=⟨j9⟩
end
section
variable{K:uc}
theorem Fun.by{k:Nat}(F:Fun K x qual st f fd)(S:FnScope N ps (zq st))(len:∀vs H Q E,sp vs H Q E->vs.length=ps.length)
  (hbody:∀(cdv:aA)(A:Around)(outer:List Env)(s:Shared)(H:Hp)(vs:List V)(Q:VK)(E:XK),Room k (A.deeper (envOfC qual (zq st) s.heap.objs.size f cdv))->sp vs H Q E ->
   ∃t,jSs (cxOf CX0 P w K mg base N qual (zq st) f cdv A outer s H E).nox (zP st) t/\t { nx:=λ_ H'=>Q .non H',rt:=Q } (start N vs) H):FnOk P w K mg base CX0 (k+1) f fd ps sp :=
 F.ok S len λcdv A outer s H vs Q E hr h=>let ⟨t,b,q⟩:=hbody cdv A outer s H vs Q E hr h;⟨t,b.out,q⟩
end
end L2
namespace L2
open PySem PySem.W PySem.Calls PyProof.Rows Builtin Builtin.ObjectAttr
def bmV:List aA:=[.type "ValueError",.type "Exception",.type "BaseException",.type "object"]
def zec:List aA->Bool
 |[]=>fO
 |v::r=>(v::r) == bmV || (match v with
  |.ref _=>zec r
  |_=>fO)
end L2
namespace L2
open PySem PySem.Spec PyProof.Rows
abbrev Ends.behind(D:Ends)(i:Nat):Ends:={ nx:=λσ H=>D.nx (σ.set i nO) H,rt:=D.rt,bk:=λσ H=>D.bk (σ.set i nO) H,ct:=λσ H=>D.ct (σ.set i nO) H }
theorem Inv.turns(I:Inv X pins σ H s)(k:∀b o,b∉ch->s.heap.get? b=sO o->h'.get? b=sO o)(hf:∀b∈ch,FpOk X pins H b):Inv X pins σ H { s with heap:=h',toks:=t' }:=by
 have nit:∀b u,H b=sO u->b∉ch:=λb u e z=>by rw[(hf b z).1]at e;cases e
 refine I.call (g':=s.gens) (d':=s.drawn) (t':=t') (ch:=ch) ⟨λb o q _ _ x=>k b o x q,λb o q _ _ x=>⟨o.slots,k b o x q⟩,λ_ _ _ n _=>n,λb o q x=>⟨o,k b o x q⟩,λ_ _ q=>q,λ_ _ _ q=>q,λ_ ps q=>⟨#[],by rw[q];simp⟩⟩
  (λb u e=>(I.hok b u e).stay (λc v hc q=>k c v ?_ q) (λ_ q=>q) λ_ _ q=>q) I.bare λb hb=>?_
 .rcases hc with z|z
  .rw[z];exact nit b u e
  .exact nit c _ z
 .obtain⟨f0,f1,f2,f3,f4,f5⟩:=hf b hb
  exact⟨f3,f1,f4,f5⟩
theorem Inv.turnsLaid{o:HO}(I:Inv X pins σ H s)(k:∀b o,b∉ch->s.heap.get? b=sO o->h'.get? b=sO o)(hf:∀b∈ch,FpOk X pins H b)(hp:s.heap.objs.size<=a)(new:ObjOk X.prog X.w (upd H a o) h' a o):
  Inv X pins σ (upd H a o) { s with heap:=h',toks:=t' }:=by
 have hn:=I.hok.fresh hp;have nit:∀b u,H b=sO u->b∉ch:=λb u e z=>by rw[(hf b z).1]at e;cases e
 refine I.call (g':=s.gens) (d':=s.drawn) (t':=t') (ch:=ch) ⟨λb o q _ _ x=>k b o x q,λb o q _ _ x=>⟨o.slots,k b o x q⟩,λb u q n _=>by rw[zo (uZ (uJ (uD q) hp))];exact n,λb o q x=>⟨o,k b o x q⟩,
   λb xs q=>by rw[zo (zk q hn)];exact q,λb u xs q=>by rw[zo (zk q hn)];exact q,λb ps q=>⟨#[],by rw[zo (zk q hn),q];simp⟩⟩
  (λb u e=>?_) I.bare λb hb=>?_
 .by_cases hb:b=a
  .subst hb
   rw[uX9]at e;cases e;exact new
  .rw[zo hb]at e
   refine(I.hok b u e).stay (λc v hc q=>k c v ?_ q) (λc q=>by rw[zo (zk q hn)];exact q) λc xs q=>by rw[zo (zk q hn)];exact q
   rcases hc with z|z
   .rw[z];exact nit b u e
   .exact nit c _ z
 .obtain⟨f0,f1,f2,f3,f4,f5⟩:=hf b hb
  exact⟨f3,f1,f4,f5⟩
end L2
namespace L2
open PySem PySem.Spec PyProof.Rows Builtin Builtin.Str
theorem wE:∀{zs:lS}{us:List aA},Vals (zs.map V.str) us->∃l:List (Str×Tok),us=strValues l/\l.map (·.1)=zs
 |[],_,.nil=>⟨[],rfl,rfl⟩
 |z::zs,_,.cons ⟨t,e⟩ r=>by
  obtain⟨l,rfl,h⟩:=wE r;exact⟨(z,t)::l,by rw[e];rfl,by rw[uB,h]⟩
theorem Ya(sep:Str):∀(zs:lS)(a:Nat),zs.foldl (· + ·.length+sep.length) a=a+((zs.map (·.length)).sum+zs.length*sep.length)
 |[],a=>ba
 |z::zs,a=>by
  rw[UN,Ya sep zs];simp only[uB,Uw,ui,UJ,tw]
  lia
def wide(sep:Str)(zs:lS):Nat:=(zs.map (·.length)).sum+zs.length*sep.length
def zbJ(K:uc):V->List V->Hp->VK->Prop:=λx vs H Q=>∃sep p zs,x=.str sep/\vs=[.ref p]/\SqL K H p (zs.map V.str)/\wide sep zs<=sizeLine/\Q (.str (Str.join sep zs)) H
theorem zaq:MtR X "str.join" (zbJ X.K):=by
 intro pins s σ H x vs v us Q I rx rv h;obtain⟨sep,p,zs,rfl,rfl,hq,hw,q⟩:=h;obtain⟨t,rfl⟩:=rx;obtain⟨u,rfl,ru⟩:=rv.one;cases ru;obtain⟨its,r,pl,hz⟩:=I.list hq;obtain⟨l,rfl,hl⟩:=wE r;have big:tooLong ((l.map (·.1)).toArray.foldl (· + ·.length+sep.length) 0)=fO:=by
  rw[hl,List.foldl_toArray,Ya];unfold tooLong;rw[decide_eq_false_iff_not];unfold wide at hw;lia
 have hg:=size_glued sep zs;have hle:(glued sep zs).length<=sizeLine:=by
  rw[hg];unfold wide at hw
  have:(zs.length-1)*sep.length<=zs.length*sep.length:=UY _ (Nat.sub_le _ _)
  lia
 refine call_meets F.slot_str_join (typeIs_str _ _ _) F.entry_str_join (F.args_str_join_2 _ _) (meets_str_join_list sep t p l big) ⟨pl.isList,?_⟩;rw[<- StrLaws.glued_eq_join]at q
 match l,hl with
 |[],hl=>exact⟨by rw[hl];exact hle,.str _,H,I.tok _,⟨_,rfl⟩,by rw[hl];exact q⟩
 |[(z,tz)],hl =>
  have e:glued sep zs=z:=by
   rw[<- hl]
   rfl
  rw[e]at q;exact⟨.str z,H,I,⟨tz,rfl⟩,q⟩
 |a::b::r,hl=>exact⟨by rw[hl];exact hle,.str _,H,I.tok _,⟨_,rfl⟩,by rw[hl];exact q⟩
theorem zar:jMt X "str.join" (zbJ X.K):=⟨zaq⟩
def rEqE(K:uc)(neg:Bool):R2:=λx y H Q=>∃p p' xs,x=.ref p/\y=.ref p'/\SqL K H p xs/\SqL K H p' []/\Q (.bl (if neg then !xs.isEmpty else xs.isEmpty)) H
theorem zcX(hu:X.A.units < cLine):OpR X (compareOp .Eq) (rEqE X.K fO):=by
 intro pins s σ H x y v u Q I rx ry h;obtain⟨p,p',xs,rfl,rfl,h1,h2,q⟩:=h;cases rx;cases ry;obtain⟨its,r,pl,_⟩:=I.list h1;obtain⟨its',r',pl',_⟩:=I.list h2;cases r';cases r with
 |nil=>exact SeqAt.eq_listAt (e:=λ_=>tU) pl.isList pl'.isList rfl hu (λj h=>absurd h (tQ _)) ⟨.bl tU,H,I,rfl,q⟩
 |cons a b=>exact SeqAt.eq_list_lengthsAt pl.isList pl'.isList rfl hu ⟨.bl fO,H,I,rfl,q⟩
theorem zcY(hu:X.A.units < cLine):OpR X (compareOp .NotEq) (rEqE X.K tU):=by
 intro pins s σ H x y v u Q I rx ry h;obtain⟨p,p',xs,rfl,rfl,h1,h2,q⟩:=h;cases rx;cases ry;obtain⟨its,r,pl,_⟩:=I.list h1;obtain⟨its',r',pl',_⟩:=I.list h2;cases r';cases r with
 |nil=>exact SeqAt.RcNeAt.lists (e:=λ_=>tU) pl.isList pl'.isList rfl hu (λj h=>absurd h (tQ _)) _ _ _ _ ⟨.bl fO,H,I,rfl,q⟩
 |cons a b=>exact SeqAt.RcNeAt.lists_lengths pl.isList pl'.isList rfl hu _ _ _ _ ⟨.bl tU,H,I,rfl,q⟩
theorem Xg{k:Nat}(hr:Room k X.A):jOp X (compareOp .Eq) (rEqE X.K fO):=⟨zcX hr.units0⟩
theorem V5{k:Nat}(hr:Room k X.A):jOp X (compareOp .NotEq) (rEqE X.K tU):=⟨zcY hr.units0⟩
end L2
namespace L2
open PySem PySem.Spec PyProof.Rows
variable{xs:Array aA}{j:aO}{x g:aA}{Q:Option aA->Shared->Prop}{f:Nat->List V}{m:Bool}{r N:Nat}{p:Pos}
def Sq(k:Bool)(h:Heap)(l:aO)(xs:Array aA):Prop:=match k with
 |true=>h.IsList l xs
 |false=>h.IsTuple l xs
def SqI(k:Bool)(h:Heap)(j l:aO)(n:Nat):Prop:=match k with
 |true=>h.IsListIter j l n
 |false=>h.IsTupleIter j l n
noncomputable def SqN (k:Bool):String:=if k then "list_iterator"else "tuple_iterator"
theorem Sq.at{k:Bool}{l:aO}(x:Sq k h l xs)(e:∀o,h.get? l=sO o->h'.get? l=sO o):Sq k h' l xs:=by
 cases k<;>obtain⟨o,ho,r⟩:=x<;>exact⟨o,e _ ho,r⟩
theorem SqI.at{k:Bool}{l:aO}(x:SqI k h j l n)(e:∀o,h.get? j=sO o->h'.get? j=sO o):SqI k h' j l n:=by
 cases k<;>obtain⟨o,ho,r⟩:=x<;>exact⟨o,e _ ho,r⟩
theorem SqI.ex{k:Bool}{l:aO}(x:SqI k h j l n):∃o,h.get? j=sO o/\o.cls=.type (SqN k)/\o.data=.fields #[.ref l,.int n 0]:=by
 cases k<;>exact x
theorem SqI.of{k:Bool}{l:aO}(x:∃o,h.get? j=sO o/\o.cls=.type (SqN k)/\o.data=.fields #[.ref l,.int n 0]):SqI k h j l n:=by
 cases k<;>exact x
theorem V6{l:aO}{Q:VSP}(hj:s.heap.IsTupleIter j l n)(hl:s.heap.IsTuple l xs)(hx:xs[n]?=sO x)
  (q:∀h',h'.IsTupleIter j l (n+1)->Heap.SameBut j s.heap h'->Q x { s with heap:=h' }):wpAny (model P w) A (Uc (.ref j)) Q E s:=by
 have⟨oj,hoj,cj,dj⟩:=hj;have⟨ol,hol,_,m,dl⟩:=hl;unfold Uc;refine bA (wpAny_callSpecial?_slot hj.typeIs F.slot_tuple_iterator_next (wpAny_call_entry F.slot_tuple_iterator_next hj.typeIs F.entry_tuple_iterator_next ?_ (F.args_tuple_iterator_next_1 (.ref j))));refine bA (m:=field (.ref j) 0) (wpAny_field hoj dj (x:=.ref l) rfl ?_);have nn:Not ((Value.ref l == Value.none)=tU):=uC;show wpAny _ _ (ite ((Value.ref l == Value.none)=tU) _ _) _ _ _;rw[iN nn];refine bA (m:=field (.ref j) 1) (wpAny_field hoj dj (x:=.int n 0) rfl ?_);refine bA (m:=seqItems? (.ref l)) (wpAny_seqItems hol dl ?_);simp only[UQ,hx]
 refine bA (wpAny_setField hoj dj ba (pO ⟨x,rfl,pO (q _ ⟨_,UK _ hoj (Obj.isFreed_of_fields (Obj.data_mapFields dj _)),(Obj.cls_mapFields ..).trans cj,?_⟩ (Heap.SameBut.update ..))⟩));rw[Obj.data_mapFields dj];simp[rawInt]
theorem zas{l:aO}{Q:VSP}(hA:A.handled=nO)(hj:s.heap.IsTupleIter j l n)(hl:s.heap.IsTuple l xs)(hx:xs[n]?=nO)
  (q:∀h' e,Heap.ExtBut j s.heap h'->(∃o,h'.get? e=sO o/\o.cls=.type "StopIteration")->E (.ref e) { s with heap:=h' }):wpAny (model P w) A (Uc (.ref j)) Q E s:=by
 have⟨oj,hoj,cj,dj⟩:=hj;have⟨ol,hol,_,m,dl⟩:=hl;unfold Uc;refine bA (wpAny_callSpecial?_slot hj.typeIs F.slot_tuple_iterator_next (wpAny_call_entry F.slot_tuple_iterator_next hj.typeIs F.entry_tuple_iterator_next ?_ (F.args_tuple_iterator_next_1 (.ref j))));refine bA (m:=field (.ref j) 0) (wpAny_field hoj dj (x:=.ref l) rfl ?_);have nn:Not ((Value.ref l == Value.none)=tU):=uC;show wpAny _ _ (ite ((Value.ref l == Value.none)=tU) _ _) _ _ _;rw[iN nn];refine bA (m:=field (.ref j) 1) (wpAny_field hoj dj (x:=.int n 0) rfl ?_);refine bA (m:=seqItems? (.ref l)) (wpAny_seqItems hol dl ?_);simp only[UQ,hx]
 refine bA (wpAny_rule (bA (wpAny_setField hoj dj ba ?_)));refine bA (m:=newExc (.type "StopIteration") []) ?_;unfold newExc newTuple;refine bA (wpAny_newObj_type (bA (m:=firstArgMember _ _) (wpAny_of_eq (a:=Value.none) (by first|rfl|(simp only[firstArgMember];rfl)) (wpAny_newObj_type ?_ (by size_fits)))) (by size_fits));unfold raiseNew;refine bA (wpAny_handled ?_);rw[show A.in1.handled=nO from hA];exact bA (pO (wpAny_throw (q _ _ (((Heap.SameBut.update ..).extBut.push _).push _) ⟨_,ux _ rfl,rfl⟩)))
theorem zat{k:Bool}{l:aO}{Q:VSP}(hj:SqI k s.heap j l n)(hl:Sq k s.heap l xs)(hx:xs[n]?=sO x)
  (q:∀h',SqI k h' j l (n+1)->Heap.SameBut j s.heap h'->Q x { s with heap:=h' }):wpAny (model P w) A (Uc (.ref j)) Q E s:=by
 cases k with
 |true=>exact wpAny_nextOf_list_item hj hl hx q
 |false=>exact V6 hj hl hx q
theorem zcZ{k:Bool}{l:aO}{Q:VSP}(hA:A.handled=nO)(hj:SqI k s.heap j l n)(hl:Sq k s.heap l xs)(hx:xs[n]?=nO)
  (q:∀h' e,Heap.ExtBut j s.heap h'->(∃o,h'.get? e=sO o/\o.cls=.type "StopIteration")->E (.ref e) { s with heap:=h' }):wpAny (model P w) A (Uc (.ref j)) Q E s:=by
 cases k with
 |true=>exact wpAny_nextOf_list_end hA hj hl hx q
 |false=>exact zas hA hj hl hx q
theorem wF{k:Bool}{l:aO}{Q:VSP}(hl:Sq k s.heap l xs)(q:Q (.ref s.heap.objs.size) { s with heap:=s.heap.push { cls:=.type (SqN k),data:=.fields #[.ref l,.int 0 0] } }):
  wpAny (model P w) A (pyIter (.ref l)) Q E s:=by
 cases k with
 |true=>exact wpAny_pyIter_list hl q
 |false=>exact wpAny_pyIter_tuple hl q
abbrev za(k:Bool)(h:Heap)(l:aO):Heap:=h.push { cls:=.type (SqN k),data:=.fields #[.ref l,.int 0 0] }
abbrev zb(k m:Bool)(h:Heap)(l r:aO):Heap:=za m (za k h l) r
abbrev zc(k m:Bool)(h:Heap)(l r:aO):Heap:=(zb k m h l r).push { cls:=.type "tuple",data:=.seq #[.ref h.objs.size,.ref (za k h l).objs.size] }
abbrev zd(k m:Bool)(h:Heap)(l r:aO):Heap:=(zc k m h l r).push { cls:=.type "tuple",data:=.seq #[.none,.none] }
abbrev ze(k m:Bool)(h:Heap)(l r:aO):Heap:=(zd k m h l r).push { cls:=.type "zip",data:=.fields #[.none,.bool fO,.bool fO,.ref (zb k m h l r).objs.size,.ref (zc k m h l r).objs.size] }
theorem V7(k m:Bool)(l r:aO)(xs ys:Array aA):Meets (Builtin.«zip.__new__» ⟨[.type "zip",.ref l,.ref r],[]⟩)
  (λ_ R s=>Sq k s.heap l xs/\Sq m s.heap r ys/\R (.ok (.ret (.ref (zd k m s.heap l r).objs.size))) { s with heap:=ze k m s.heap l r }) :=
 .of_wp λprog w A R s h=>by
  obtain⟨hp,g,d,tk,os⟩:=s;obtain⟨h1,h2,h⟩:=h;have hs:=sub_zip;have q1:Sq k (Shared.heap ⟨hp,g,d,tk,os⟩) l xs:=h1;have q2:Sq m (Shared.heap ⟨za k hp l,g,d,tk,os⟩) r ys:=h2.at λo e=>ue _ e
  wp_walk using wF q1,wF q2
  exact⟨_,rfl,h⟩
structure ZN(zs:List (Bool×Nat))(h:Heap)(B n:Nat)(f g:aA):Prop where
 z:h.get? (B+zs.length+2)=sO { cls:=.type "zip",data:=.fields #[f,g,.bool fO,.ref (B+zs.length),.ref (B+zs.length+1)] }
 ti:h.get? (B+zs.length)=sO { cls:=.type "tuple",data:=.seq ((uQ zs.length).map λj=>Value.ref (B+j)).toArray }
 to:∃us:Array aA,us.size=zs.length/\h.get? (B+zs.length+1)=sO { cls:=.type "tuple",data:=.seq us }
 it:∀(j:Nat) k l,zs[j]?=sO (k,l)->SqI k h (B+j) l n
theorem ZN.at{f:aA}(x:ZN zs h B n f g)(e:∀(b:Nat) o,B<=b->b<=B+zs.length+2->h.get? b=sO o->h'.get? b=sO o):ZN zs h' B n f g where
 z:=e _ _ b8 b8 x.z
 ti:=e _ _ b8 b8 x.ti
 to:=let ⟨us,c,y⟩:=x.to;⟨us,c,e _ _ b8 b8 y⟩
 it:=λj k l hj=>(x.it j k l hj).at λo=>e _ o b8 (by have:=(uf.mp hj).1;lia)
def KeptN(B N:Nat)(h h':Heap):Prop:=∀(c:Nat) o,(c < B\/B+N+2 < c)->h.get? c=sO o->h'.get? c=sO o
def AtN(zs:List (Bool×Nat))(h:Heap)(B n:Nat)(va:Nat->Option aA):Prop:=∀(j:Nat) k l,zs[j]?=sO (k,l)->l < B/\∃xs:Array aA,Sq k h l xs/\xs[n]?=va j
structure ZW(zs:List (Bool×Nat))(h0 h:Heap)(B n j:Nat)(f g:aA)(us:Array aA):Prop where
 z:h.get? (B+zs.length+2)=sO { cls:=.type "zip",data:=.fields #[f,g,.bool fO,.ref (B+zs.length),.ref (B+zs.length+1)] }
 ti:h.get? (B+zs.length)=sO { cls:=.type "tuple",data:=.seq ((uQ zs.length).map λj=>Value.ref (B+j)).toArray }
 ts:us.size=zs.length
 to:h.get? (B+zs.length+1)=sO { cls:=.type "tuple",data:=.seq us }
 it:∀(i:Nat) k l,zs[i]?=sO (k,l)->SqI k h (B+i) l (if i < j then n+1 else n)
 kp:KeptN B zs.length h0 h
 sz:h.objs.size=h0.objs.size
theorem ZW.next{h2:Heap}{j l:Nat}{k:Bool}{f:aA}{us:Array aA}(W:ZW zs h0 h B n j f g us)(hj:zs[j]?=sO (k,l))(i2:SqI k h2 (B+j) l (n+1))(u2:Heap.SameBut (B+j) h h2):ZW zs h0 h2 B n (j+1) f g us:=by
 have jl:=(uf.mp hj).1;have k2:∀(c:Nat) o,c≠B+j->h.get? c=sO o->h2.get? c=sO o:=λc o n e=>(u2.2 c n).trans e;refine⟨k2 _ _ b8 W.z,k2 _ _ b8 W.ti,W.ts,k2 _ _ b8 W.to,λi k' l' hi=>?_,λc o hc e=>k2 _ _ b8 (W.kp c o hc e),by rw[u2.1,W.sz]⟩;by_cases c:i=j
 .subst c
  rw[hj]at hi;cases hi;rw[iP (tE _)];exact i2
 .simp only[Nat.lt_succ_iff_lt_or_eq,c,or_false]
  exact(W.it i k' l' hi).at λo e=>k2 _ o b8 e
theorem ZW.done{h9:Heap}{j:Nat}{f f' g':aA}{us:Array aA}(W:ZW zs h0 h B n zs.length f g us)(k9:∀(c:Nat) o,c≠B+zs.length+2->h.get? c=sO o->h9.get? c=sO o)(z9:h9.get? (B+zs.length+2)=sO { cls:=.type "zip",data:=.fields #[f',g',.bool fO,.ref (B+zs.length),.ref (B+zs.length+1)] }):ZN zs h9 B (n+1) f' g' :=
 ⟨z9,k9 _ _ b8 W.ti,⟨us,W.ts,k9 _ _ b8 W.to⟩,λi k l hi=>by
  have il:=(uf.mp hi).1;have e:=W.it i k l hi;rw[iP il]at e;exact e.at λo e=>k9 _ o b8 e⟩
theorem V8{α:Type}{L rest:List α}{x:α}{j:Nat}(hr:x::rest=L.drop j):∃jl:j < L.length,x=L[j]/\rest=L.drop (j+1):=by
 rcases Nat.lt_or_ge j L.length with c|c
 .rw[UO c]at hr
  injection hr with e1 e2
  exact⟨c,e1,e2⟩
 .rw[List.drop_of_length_le c]at hr
  cases hr
section
variable{f:aA}{va:Nat->Option aA}
theorem V9{o:Obj}{Q:Option Obj->Shared->Prop}(ho:s.heap.get? a=sO o)(h:Q (sO o) s):wpAny (model P w) A (loadIfAlive a) Q E s:=λΓ p _=>by
 unfold loadIfAlive;rw[Sem.wp_loadIfAlive,ho];simpa using h
def ZF(B N:Nat)(h:Heap)(f g:aA):Prop:=f=.none\/∃(T:Nat)(c:Bool)(o:Obj),f=rawInt T/\g=.bool c/\h.get? T=sO o/\B+N+3 < T
theorem zipN{Q:VSP}(hA:A.handled=nO)(Z:ZN zs s.heap B n f g)(hf:ZF B zs.length s.heap f g)(hz:0 < zs.length)(hs:zs.length<=sizeLine)(hq:AtN zs s.heap B n va)
  (q:∀h' us (T:Nat) (c:Bool),us.size=zs.length->(∀i,i < zs.length->us[i]?=va i)->ZN zs h' B (n+1) (rawInt T) (.bool c)->(T=s.heap.objs.size/\f=.none/\c=fO\/f=rawInt T/\B+zs.length+3 < T/\∃o,s.heap.get? T=sO o)->h'.get? s.heap.objs.size=sO { cls:=.type "tuple",data:=.seq us }->h'.objs.size=s.heap.objs.size+1->KeptN B zs.length s.heap h'->Q (.ref s.heap.objs.size) { s with heap:=h' })
  (qe:∀h' e j,j < zs.length->va j=nO->KeptN B zs.length s.heap h'->(∃o,h'.get? e=sO o/\o.cls=.type "StopIteration")->E (.ref e) { s with heap:=h' }) :
  wpAny (model P w) A (Builtin.«zip.__next__» ⟨[.ref (B+zs.length+2)],[]⟩) (λfin s'=>∃v,fin=.done (.ret v)/\Q v s') E s:=by
 obtain⟨us0,hu0,hto⟩:=Z.to;refine bA (m:=field (.ref (B+zs.length+2)) 2) (wpAny_field Z.z rfl (x:=.bool fO) rfl ?_);refine bA (m:=field (.ref (B+zs.length+2)) 3) (wpAny_field Z.z rfl (x:=.ref (B+zs.length)) rfl (bA (wpAny_seqItems Z.ti rfl ?_)));have ne:((uQ zs.length).map λj=>Value.ref (B+j)).toArray.isEmpty=fO:=by
  rw[Array.isEmpty_eq_false_iff_exists_mem];exact⟨.ref (B+0),by simp;exact hz⟩
 show wpAny _ _ (if((uQ zs.length).map λj=>Value.ref (B+j)).toArray.isEmpty=tU then _ else _) _ _ _;rw[ne,iN uC];have W0:∀{h1:Heap}{f' g':aA},h1.get? (B+zs.length+2)=sO { cls:=.type "zip",data:=.fields #[f',g',.bool fO,.ref (B+zs.length),.ref (B+zs.length+1)] }->h1.objs.size=s.heap.objs.size->(∀(c:Nat) o,c≠B+zs.length+2->s.heap.get? c=sO o->h1.get? c=sO o)->ZW zs s.heap h1 B n 0 f' g' us0:=λz1 s1 k1=>⟨z1,k1 _ _ b8 Z.ti,hu0,k1 _ _ b8 hto,λi k l hi=>by
  rw[iN (tQ _)];exact(Z.it i k l hi).at λo=>k1 _ o (by have:=(uf.mp hi).1;lia),λc o hc=>k1 c o b8,s1⟩
 have draw:∀{h:Heap}{j:Nat}{f' g':aA}{us:Array aA}{R:VSP}{E':VSP},ZW zs s.heap h B n j f' g' us->j < zs.length->(∀v h2,va j=sO v->ZW zs s.heap h2 B n (j+1) f' g' us->R v { s with heap:=h2 })->(∀h2 e,va j=nO->(∀(c:Nat) o,c≠B+j->h.get? c=sO o->h2.get? c=sO o)->(∃o,h2.get? e=sO o/\o.cls=.type "StopIteration")->E' (.ref e) { s with heap:=h2 })->∀A':Around,A'.handled=nO->wpAny (model P w) A' (Uc (.ref (B+j))) R E' { s with heap:=h }:=by
  intro h j f' g' us R E' W jl r re A' hA';obtain⟨⟨k,l⟩,hkl⟩:∃p,zs[j]?=sO p:=⟨_,uj jl⟩;obtain⟨ll,xs,hl,hv⟩:=hq j k l hkl;have hl':Sq k h l xs:=hl.at λo=>W.kp _ o (.inl ll);have it:=W.it j k l hkl;rw[iN (Uu _)]at it;cases e1:va j with
  |none=>exact zcZ (s:={ s with heap:=h }) hA' it hl' (hv.trans e1) λh2 e u2 he=>re h2 e e1 u2 he
  |some v=>exact zat (s:={ s with heap:=h }) it hl' (hv.trans e1) λh2 i2 u2=>r v h2 e1 (W.next hkl i2 u2)
 rcases hf with rfl|⟨T,c,ot,rfl,rfl,hT,lT⟩
 .refine bA (m:=Up (.ref (B+zs.length+2))) ?_
  unfold Up;refine bA (wpAny_field Z.z rfl (x:=.none) rfl (pO ?_));rw[iP rfl];refine bA (wpAny_rule (bA (wpAny_field Z.z rfl (x:=.ref (B+zs.length+1)) rfl (bA (wpAny_setField_rec Z.z ba λh1 z1 u1=>bA ?_)))));refine wpAny_forIn_list _ (λrest b s'=>b=(nO,())/\∃j us h,rest=((((uQ zs.length).map λj=>Value.ref (B+j)).toArray).toList.zipIdx).drop j/\j<=zs.length/\s'={ s with heap:=h }/\ZW zs s.heap h B n j .ellipsis g us/\∀i,i < j->us[i]?=va i) _ ?step ?done _ _ ⟨rfl,0,us0,h1,rfl,uS _,rfl,W0 z1 u1.1 λc o n e=>(u1.2 c n).trans e,λi hi=>absurd hi (tQ _)⟩
  case step =>
   rintro x rest b s' ⟨rfl,j,us,h,hr,hj,rfl,W,hva⟩;obtain⟨jl,rfl,rfl⟩:=V8 hr;have jl:j < zs.length:=by simpa using jl
   simp only[List.getElem_zipIdx,List.getElem_map,List.getElem_range,Nat.zero_add]
   refine bA (wpAny_onRaise (bA (m:=Uc (.ref (B+j))) (draw W jl (λv h2 e1 W2=>pO ?_) (λh2 e e1 k2 he=>?_) _ hA)))
   .refine bA (wpAny_seqItems W2.to rfl (bA (wpAny_updateSeq W2.to rfl (bA (wpAny_letGo (pO ⟨rfl,j+1,us.setIfInBounds j v,_,rfl,jl,rfl,?_,λi hi=>?_⟩))) (by rw[W.ts];exact hs) (by rw[Array.size_setIfInBounds,W.ts];lia))))
    .have k3:∀(c:Nat) o,c≠B+zs.length+1->h2.get? c=sO o->(h2.update (B+zs.length+1) (Obj.mapSeq (·.setIfInBounds j v))).get? c=sO o:=λc o n e=>(UD _ _ (Ne.symm n)).trans e
     exact⟨k3 _ _ b8 W2.z,k3 _ _ b8 W2.ti,by rw[Array.size_setIfInBounds,W.ts],by(show(h2.update _ _).get? _=_);rw[UK _ W2.to rfl];simp[Obj.mapSeq],λi k' l' hi=>(W2.it i k' l' hi).at λo e=>k3 _ o (by have:=(uf.mp hi).1;lia) e,λc o hc e=>k3 _ _ b8 (W2.kp c o hc e),by rw[tG];exact W2.sz⟩
    .rw[Array.getElem?_setIfInBounds]
     by_cases c:j=i
     .rw[iP c,iP (by rw[W.ts];lia),<- c,e1]
     .rw[iN c]
      exact hva i b8
   .obtain⟨oe,he,ce⟩:=he
    have z2:=k2 _ _ (show B+zs.length+2≠B+j by lia) W.z;have ne:e≠B+zs.length+2:=λx=>by
     rw[x,z2]at he;cases he;simp at ce
    exact wpAny_setField_rec z2 ba λh3 z3 u3=>qe h3 e j jl e1 (λc o hc x=>(u3.2 c (show(c:Nat)≠B+zs.length+2 by lia)).trans (k2 c o (show(c:Nat)≠B+j by lia) (W.kp c o hc x))) ⟨oe,(u3.2 e ne).trans he,ce⟩
  case done =>
   rintro b s' ⟨rfl,j,us,h,hr,hj,rfl,W,hva⟩;have je:j=zs.length:=by
    have:=congrArg tu hr
    simp at this
    lia
   subst je;refine bA (wpAny_seqItems W.to rfl (bA (wpAny_newTuple (hsz:=by simp[W.ts];exact hs) ?_)));have lt5:B+zs.length+2 < h.objs.size:=uD W.z;refine bA (m:=tI (.ref (B+zs.length+2)) (.ref h.objs.size)) ?_;unfold tI;refine bA (wpAny_setField_rec (ue { cls:=.type "tuple",data:=.seq us } W.z) ba λh8 z8 u8=>?_);refine wpAny_setField_rec z8 ba λh9 z9 u9=>pO ⟨.ref h.objs.size,rfl,?_⟩;have k9:∀(c:Nat) o,c≠B+zs.length+2->h.get? c=sO o->h9.get? c=sO o:=λc o n e=>(u9.2 c n).trans ((u8.2 c n).trans (ue _ e));have p9:h9.get? h.objs.size=sO { cls:=.type "tuple",data:=.seq us }:=(u9.2 _ (Nat.ne_of_gt lt5)).trans ((u8.2 _ (Nat.ne_of_gt lt5)).trans (ux _ rfl));have s9:h9.objs.size=h.objs.size+1:=by rw[u9.1,u8.1,Ud]
   have Z9:=W.done (j:=0) k9 z9;rw[W.sz]at p9 s9 Z9 ⊢;exact q h9 us _ fO W.ts hva Z9 (.inl ⟨rfl,rfl,rfl⟩) p9 s9 λc o hc e=>k9 _ _ b8 (W.kp c o hc e)
 .have held:∀{Q':Bool->Shared->Prop},(∀h1,ZW zs s.heap h1 B n 0 (rawInt T) (.bool tU) us0->Q' fO { s with heap:=h1 })->wpAny (model P w) A (Up (.ref (B+zs.length+2))) Q' E s:=by
   intro Q' qq;unfold Up;refine bA (wpAny_field Z.z rfl (x:=rawInt T) rfl ?_);refine bA (m:=loadIfAlive ((T:Int).toNat)) (V9 (o:=ot) (by rw[UQ];exact hT) ?_);rw[iN ba];refine bA (wpAny_field Z.z rfl (x:=.bool c) rfl ?_);cases c with
   |true =>
    rw[iN b9];exact pO (qq _ (W0 Z.z rfl λd o _ e=>e))
   |false =>
    rw[iP b9];exact bA (wpAny_setField_rec Z.z ba λh1 z1 u1=>pO (qq h1 (W0 z1 u1.1 λd o n e=>(u1.2 d n).trans e)))
  refine bA (m:=Up (.ref (B+zs.length+2))) (held λh1 W1=>?_);rw[iN uC];refine bA ?_;rw[<- Array.forIn_toList];refine wpAny_forIn_list _ (λrest b s'=>b.1=nO/\∃j h,rest=((((uQ zs.length).map λj=>Value.ref (B+j)).toArray).toList).drop j/\j<=zs.length/\s'={ s with heap:=h }/\ZW zs s.heap h B n j (rawInt T) (.bool tU) us0/\b.2.size=j/\∀i,i < j->b.2[i]?=va i) _ ?step ?done _ _ ⟨rfl,0,h1,rfl,uS _,rfl,W1,rfl,λi hi=>absurd hi (tQ _)⟩
  case step =>
   rintro x rest ⟨b,items⟩ s' ⟨hb,j,h,hr,hj,rfl,W,bs,hva⟩;obtain⟨jl,rfl,rfl⟩:=V8 hr;have jl:j < zs.length:=by simpa using jl
   simp only[List.getElem_map,List.getElem_range]
   refine bA (wpAny_holding (bA (m:=Uc (.ref (B+j))) (draw W jl (λv h2 e1 W2=>pO ?_) (λh2 e e1 k2 he=>qe h2 e j jl e1 (λc o hc x=>k2 c o (show(c:Nat)≠B+j by lia) (W.kp c o hc x)) he) _ hA)));refine pO ⟨rfl,j+1,_,rfl,jl,rfl,W2,?_,λi hi=>?_⟩
   .show(items.push v).size=_
    rw[Array.size_push,bs]
   .show(items.push v)[i]?=_
    rw[Array.getElem?_push];by_cases c:i=items.size
    .rw[iP c,c,bs,e1]
    .rw[iN c]
     exact hva i (by have:items.size=j:=bs;lia)
  case done =>
   rintro⟨b,items⟩ s' ⟨hb,j,h,hr,hj,rfl,W,bs,hva⟩;have je:j=zs.length:=by
    have:=congrArg tu hr
    simp at this
    lia
   subst je;cases hb;have bs:items.size=zs.length:=bs;refine bA (wpAny_newTuple (hsz:=by simp[bs];exact hs) (pO ⟨.ref h.objs.size,rfl,?_⟩));have p5:(h.push { cls:=.type "tuple",data:=.seq items }).get? h.objs.size=sO { cls:=.type "tuple",data:=.seq items }:=ux _ rfl;have s5:(h.push { cls:=.type "tuple",data:=.seq items }).objs.size=h.objs.size+1:=Ud ..;have k5:∀(c:Nat) o,h.get? c=sO o->(h.push { cls:=.type "tuple",data:=.seq items }).get? c=sO o:=λc o e=>ue _ e;rw[W.sz]at p5 s5 ⊢;exact q _ items T tU bs hva (W.done (j:=0) (λc o _ e=>k5 c o e) (k5 _ _ W.z)) (.inr ⟨rfl,lT,ot,hT⟩) p5 s5 λc o hc e=>k5 _ _ (W.kp c o hc e)
theorem vv(hA:A.handled=nO)(Z:ZN zs s.heap B n f g)(hf:ZF B zs.length s.heap f g)(hz:0 < zs.length)(hs:zs.length<=sizeLine)(hq:AtN zs s.heap B n va)
  (q:∀h' us (T:Nat) (c:Bool),us.size=zs.length->(∀i,i < zs.length->us[i]?=va i)->ZN zs h' B (n+1) (rawInt T) (.bool c)->(T=s.heap.objs.size/\f=.none/\c=fO\/f=rawInt T/\B+zs.length+3 < T/\∃o,s.heap.get? T=sO o)->h'.get? s.heap.objs.size=sO { cls:=.type "tuple",data:=.seq us }->h'.objs.size=s.heap.objs.size+1->KeptN B zs.length s.heap h'->Q (sO (.ref s.heap.objs.size)) { s with heap:=h' })
  (qe:∀h' j,j < zs.length->va j=nO->KeptN B zs.length s.heap h'->Q nO { s with heap:=h' }):wpAny (model P w) A (pyNext (.ref (B+zs.length+2))) Q E s:=by
 have ty:s.TypeIs (.ref (B+zs.length+2)) "zip":=⟨_,Z.z,rfl⟩;unfold pyNext;refine bA (wpAny_attempt (wpAny_callSpecial?_slot ty F.slot_zip_next (wpAny_call_entry F.slot_zip_next ty F.entry_zip_next ?_ (F.args_zip_next_1 (.ref (B+zs.length+2))))));refine zipN hA Z hf hz hs hq (λh' us T c h1 h2 h3 h4 h5 h6 h7=>pO (q h' us T c h1 h2 h3 h4 h5 h6 h7)) λh' e j jl hv kz h_=>?_;obtain⟨o,ho,hc⟩:=h_;exact bA (wpAny_isInstance (T:="StopIteration") (b:=tU) ⟨o,ho,hc⟩ isSubtype_stop (pO (qe _ j jl hv kz)))
end
abbrev ZS(k m:Bool)(h:Heap)(B l r:Nat)(n:Nat)(f g:aA):Prop:=ZN [(k,l),(m,r)] h B n f g
abbrev zbK(B:Nat)(h h':Heap):Prop:=KeptN B 2 h h'
theorem ZS.at{k:Bool}{l:Nat}{f:aA}(x:ZS k m h B l r n f g)(e:∀(b:Nat) o,B<=b->b<=B+4->h.get? b=sO o->h'.get? b=sO o):ZS k m h' B l r n f g:=ZN.at x e
noncomputable def va2 (n:Nat) (xs ys:Array aA) (j:Nat):Option aA:=if j=0 then xs[n]? else ys[n]?
section
variable{k:Bool}{l:Nat}{ys:Array aA}{y f:aA}
theorem at2(hl:Sq k h l xs)(hr:Sq m h r ys)(ll:l < B)(rl:r < B):AtN [(k,l),(m,r)] h B n (va2 n xs ys):=λj k' l' hj=>by
 match j,hj with
 |0,hj=>cases hj;exact⟨ll,xs,hl,rfl⟩
 |1,hj=>cases hj;exact⟨rl,ys,hr,rfl⟩
theorem vL{Q:VSP}(hl:Sq k s.heap l xs)(hr:Sq m s.heap r ys)
  (q:∀h',ZS k m h' s.heap.objs.size l r 0 .none (.bool fO)->h'.objs.size=s.heap.objs.size+5->(∀c o,s.heap.get? c=sO o->h'.get? c=sO o)->Q (.ref (s.heap.objs.size+4)) { s with heap:=h' }) :
  wpAny (model P w) A (call (.type "zip") [.ref l,.ref r]) Q E s:=by
 apply callType_new F.called_zip b9 (F.typeCall_zip_2 _ _) (F.newCall_zip_2 _ _) (λobj=>F.args_object_init_3 obj _ _) F.entry_zip_new (V7 k m l r xs ys)
 refine⟨hl,hr,?_⟩;have s1:(za k s.heap l).objs.size=s.heap.objs.size+1:=Ud ..;have s2:(zb k m s.heap l r).objs.size=s.heap.objs.size+2:=by rw[Ud,s1]
 have s3:(zc k m s.heap l r).objs.size=s.heap.objs.size+3:=by rw[Ud,s2]
 have s4:(zd k m s.heap l r).objs.size=s.heap.objs.size+4:=by rw[Ud,s3]
 have s5:(ze k m s.heap l r).objs.size=s.heap.objs.size+5:=by rw[Ud,s4]
 have up:∀{c o},(zd k m s.heap l r).get? c=sO o->(ze k m s.heap l r).get? c=sO o:=λe=>ue _ e;have p5:(ze k m s.heap l r).get? (zd k m s.heap l r).objs.size=sO _:=ux _ rfl;have p4:(ze k m s.heap l r).get? (zc k m s.heap l r).objs.size=sO _:=up (ux _ rfl);have p3:(ze k m s.heap l r).get? (zb k m s.heap l r).objs.size=sO _:=up (ue _ (ux _ rfl));have p2:(ze k m s.heap l r).get? (za k s.heap l).objs.size=sO _:=up (ue _ (ue _ (ux _ rfl)));have p1:(ze k m s.heap l r).get? s.heap.objs.size=sO _:=up (ue _ (ue _ (ue _ (ux _ rfl))));rw[s4,s2,s3]at p5;rw[s3]at p4;rw[s2,s1]at p3;rw[s1]at p2;show _/\_;rw[s4];exact⟨⟨_,p5,rfl⟩,q _ ⟨p5,p3,⟨_,rfl,p4⟩,λj k' l' hj=>by
  match j,hj with
  |0,hj=>cases hj;exact .of ⟨_,p1,rfl,rfl⟩
  |1,hj=>cases hj;exact .of ⟨_,p2,rfl,rfl⟩⟩ s5 λc o e=>up (ue _ (ue _ (ue _ (ue _ e))))⟩
theorem Ja(hA:A.handled=nO)(Z:ZS k m s.heap B l r n f g)(hf:ZF B 2 s.heap f g)(hl:Sq k s.heap l xs)(hr:Sq m s.heap r ys)(ll:l < B)(rl:r < B)(hx:xs[n]?=sO x)(hy:ys[n]?=sO y)
  (q:∀h' (T:Nat) (c:Bool),ZS k m h' B l r (n+1) (rawInt T) (.bool c)->(T=s.heap.objs.size/\f=.none/\c=fO\/f=rawInt T/\B+5 < T/\∃o,s.heap.get? T=sO o)->IsPair h' s.heap.objs.size x y->h'.objs.size=s.heap.objs.size+1->zbK B s.heap h'->Q (sO (.ref s.heap.objs.size)) { s with heap:=h' }) :
  wpAny (model P w) A (pyNext (.ref (B+4))) Q E s:=by
 refine vv hA Z hf (by show 0 < 2;decide) sN2 (at2 hl hr ll rl) (λh' us T c h1 h2 h3 h4 h5 h6 h7=>q h' T c h3 h4 ?_ h6 h7) λh' j jl hv _=>?_
 .have e:us=#[x,y]:=by
   apply Array.ext_getElem?
   intro i
   match i with
   |0=>exact(h2 0 (by show 0 < 2;decide)).trans hx
   |1=>exact(h2 1 (by show 1 < 2;decide)).trans hy
   |i+2=>rw[Array.getElem?_eq_none (by rw[h1];show 2<=_;lia),Array.getElem?_eq_none (by show 2<=_;lia)]
  rw[e]at h5;exact h5
 .unfold va2 at hv
  split at hv
  .rw[hx]at hv;cases hv
  .rw[hy]at hv;cases hv
theorem Yb(hA:A.handled=nO)(Z:ZS k m s.heap B l r n f g)(hf:ZF B 2 s.heap f g)(hl:Sq k s.heap l xs)(hr:Sq m s.heap r ys)(ll:l < B)(rl:r < B)(hx:xs[n]?=nO\/ys[n]?=nO)
  (q:∀h',zbK B s.heap h'->Q nO { s with heap:=h' }):wpAny (model P w) A (pyNext (.ref (B+4))) Q E s:=by
 refine vv hA Z hf (by show 0 < 2;decide) sN2 (at2 hl hr ll rl) (λh' us T c h1 h2 h3 h4 h5 h6 h7=>?_) λh' j jl hv kz=>q h' kz;rcases hx with e|e
 .have:=(h2 0 (by show 0 < 2;decide)).trans e
  rw[Array.getElem?_eq_none_iff,h1]at this;exact absurd this (by show Not (2<=0);decide)
 .have:=(h2 1 (by show 1 < 2;decide)).trans e
  rw[Array.getElem?_eq_none_iff,h1]at this;exact absurd this (by show Not (2<=1);decide)
end
structure ZL(k m:Bool)(h0 h:Heap)(B l r n:Nat)(xs ys acc:Array aA)(c:Nat)(f g:aA):Prop where
 zs:ZS k m h B l r n f g
 zf:ZF B 2 h f g
 hl:Sq k h l xs
 hr:Sq m h r ys
 sz:h.objs.size=B+6+n
 lst:h.get? (B+5)=sO { cls:=.type "list",data:=.seq acc c }
 asz:acc.size=n
 par:∀i x y,i < n->xs[i]?=sO x->ys[i]?=sO y->acc[i]?=sO (.ref (B+6+i))/\IsPair h (B+6+i) x y
 old:∀(b:Nat) o,b < B->h0.get? b=sO o->h.get? b=sO o
section
variable{R:Result->Shared->Prop}{k:Bool}{l:Nat}{ys:Array aA}{res:aA}
theorem Yc(hA:A.handled=nO)(ll:l < B)(rl:r < B)(hN:N<=sizeLine)(hx:N<=xs.size)(hy:N<=ys.size)(he:xs.size<=N\/ys.size<=N):∀(d n:Nat)(s:Shared)(acc:Array aA)(c:Nat)(f g:aA),n+d=N->ZL k m h0 s.heap B l r n xs ys acc c f g ->
  (∀h' acc' c',h'.get? (B+5)=sO { cls:=.type "list",data:=.seq acc' c' }->acc'.size=N->(∀i x y,i < N->xs[i]?=sO x->ys[i]?=sO y->acc'[i]?=sO (.ref (B+6+i))/\IsPair h' (B+6+i) x y)->(∀(b:Nat) o,b < B->h0.get? b=sO o->h'.get? b=sO o)->R (.ok (.ret res)) { s with heap:=h' }) ->
  codeAny (model P w) A (.builtin "list.extend.loop" ⟨[.ref (B+5),.ref (B+4),res],[]⟩) R s
 |0,n,s,acc,c,f,g,hd,Z,q=>by
  have e:n=N:=b8
  subst e;refine codeAny_builtin F.entry_extend_loop ?_;rw[Around.under_plainId F.plain_extend_loop _];refine bA (m:=pyNext (.ref (B+4))) (Yb (A:=A.in1) hA Z.zs Z.zf Z.hl Z.hr ll rl ?_ λh' kz=>pO (q h' acc c (kz _ _ b8 Z.lst) Z.asz ?_ λb o hb x=>kz _ _ b8 (Z.old b o hb x)))
  .rcases he with he|he
   .exact .inl (Array.getElem?_eq_none b8)
   .exact .inr (Array.getElem?_eq_none b8)
  .intro i x y hi h1 h2
   obtain⟨p1,p2⟩:=Z.par i x y hi h1 h2;exact⟨p1,kz _ _ b8 p2⟩
 |d+1,n,s,acc,c,f,g,hd,Z,q=>by
  refine codeAny_builtin F.entry_extend_loop ?_;rw[Around.under_plainId F.plain_extend_loop _];have hx':n < xs.size:=b8
  have hy':n < ys.size:=b8
  refine bA (m:=pyNext (.ref (B+4))) (Ja (A:=A.in1) hA Z.zs Z.zf Z.hl Z.hr ll rl (Array.getElem?_eq_getElem hx') (Array.getElem?_eq_getElem hy') λh' T ct z hT p sz kz=>?_);have s0:=Z.sz;rw[s0]at p sz;have l1:h'.get? (B+5)=sO { cls:=.type "list",data:=.seq acc c }:=kz _ _ b8 Z.lst;have as:=Z.asz;have up:∀(b:Nat) o,b≠B+5->h'.get? b=sO o->(h'.update (B+5) (Obj.mapSeq (·.push (.ref (B+6+n))))).get? b=sO o:=λb o nb e=>(UD _ _ (Ne.symm nb)).trans e;rw[s0];refine bA (m:=updateSeq (B+5) (·.push (.ref (B+6+n)))) (wpAny_updateSeq l1 rfl (pO ⟨plainId_quiet F.plain_extend_loop _,Yc hA ll rl hN hx hy he d (n+1) _ (acc.push (.ref (B+6+n))) _ (rawInt T) (.bool ct) b8 ⟨?_,?_,?_,?_,?_,UK _ l1 rfl,?_,?_,?_⟩ q⟩) b8 (by show(acc.push _).size<=sizeLine+1;rw[Array.size_push];lia))
  .exact z.at λb o h1 h2 e=>up b o b8 e
  .rcases hT with⟨e,_,_⟩|⟨_,lT,o,hT⟩
   .rw[s0]at e
    subst e;exact .inr ⟨_,ct,_,rfl,rfl,up _ _ b8 p,b8⟩
   .exact .inr ⟨T,ct,o,rfl,rfl,up _ _ b8 (kz _ _ b8 hT),lT⟩
  .exact Z.hl.at λo e=>up _ o b8 (kz _ o b8 e)
  .exact Z.hr.at λo e=>up _ o b8 (kz _ o b8 e)
  .show(h'.update _ _).objs.size=_
   rw[tG,sz];lia
  .rw[Array.size_push,as]
  .intro i x y hi h1 h2
   by_cases c1:i=n
   .subst c1
    rw[Array.getElem?_eq_getElem hx']at h1;rw[Array.getElem?_eq_getElem hy']at h2;cases h1;cases h2;refine⟨?_,up _ _ b8 p⟩;rw[Array.getElem?_push,iP as.symm]
   .obtain⟨p1,p2⟩:=Z.par i x y b8 h1 h2
    refine⟨?_,up _ _ b8 (kz _ _ b8 p2)⟩;rw[Array.getElem?_push,iN b8];exact p1
  .exactλb o hb x=>up _ _ b8 (kz _ _ b8 (Z.old b o hb x))
end
theorem zau:typeLookup (.type "zip") "__len__"=pure nO:=by rw[typeLookup_type,builtinLookup_eq_fast];kernel_rfl
theorem Jb:typeLookup (.type "zip") "__length_hint__"=pure nO:=by rw[typeLookup_type,builtinLookup_eq_fast];kernel_rfl
section
variable{k:Bool}{l:Nat}{ys:Array aA}
theorem Jc{Q:VSP}(hA:A.handled=nO)(Z:ZS k m s.heap B l r 0 .none (.bool fO))(hl:Sq k s.heap l xs)(hr:Sq m s.heap r ys)(ll:l < B)(rl:r < B)(sz:s.heap.objs.size=B+5)
  (hN:N<=sizeLine) (hx:N<=xs.size) (hy:N<=ys.size) (he:xs.size<=N\/ys.size<=N)
  (q:∀h' acc' c',h'.get? (B+5)=sO { cls:=.type "list",data:=.seq acc' c' }->acc'.size=N->(∀i x y,i < N->xs[i]?=sO x->ys[i]?=sO y->acc'[i]?=sO (.ref (B+6+i))/\IsPair h' (B+6+i) x y)->(∀(b:Nat) o,b < B->s.heap.get? b=sO o->h'.get? b=sO o)->Q (.ref (B+5)) { s with heap:=h' }) :
  wpAny (model P w) A (call (.type "list") [.ref (B+4)]) Q E s:=by
 refine callType_codes (Q₁:=λobj s₁=>obj=.ref (B+5)/\s₁={ s with heap:=s.heap.push { cls:=.type "list",data:=.seq #[] } }) F.called_list (F.typeCall_list_1 _) F.entry_list_init (code_list_new _ ⟨by rw[sz],rfl⟩) ?_;rintro obj s1 ⟨rfl,rfl⟩;have l0:(s.heap.push { cls:=.type "list",data:=.seq #[] }).get? (B+5)=sO { cls:=.type "list",data:=.seq #[] }:=by
  rw[<- sz];exact ux _ rfl
 have z0:(s.heap.push { cls:=.type "list",data:=.seq #[] }).objs.size=B+6:=by rw[Ud,sz]
 have up:∀(b:Nat) o,s.heap.get? b=sO o->(s.heap.push { cls:=.type "list",data:=.seq #[] }).get? b=sO o:=λb o e=>ue _ e;generalize s.heap.push { cls:=.type "list",data:=.seq #[] }=h at l0 z0 up;refine⟨⟨_,l0,rfl⟩,F.args_list_init_2 _ _,?_⟩;refine bA (m:=Builtin.List.listItems (.ref (B+5))) ?_;unfold Builtin.List.listItems;refine bA (wpAny_seqItems l0 rfl (pO ?_));refine bA (m:=updateSeq (B+5) (λ_=>#[])) (wpAny_updateSeq l0 rfl ?_);have l1:=UK (Obj.mapSeq (λ_=>(#[]:Array aA))) l0 rfl;have u1:∀(b:Nat) o,b≠B+5->h.get? b=sO o->(h.update (B+5) (Obj.mapSeq (λ_=>(#[]:Array aA)))).get? b=sO o:=λb o n e=>(UD _ _ (Ne.symm n)).trans e;have z1:(h.update (B+5) (Obj.mapSeq (λ_=>(#[]:Array aA)))).objs.size=B+6:=by rw[tG,z0]
 refine bA (wpAny_letGo ?_);show wpAny _ _ (Builtin.List.listExtendWith (.ref (B+5)) (.ref (B+4)) .none) _ _ _;generalize h.update (B+5) (Obj.mapSeq (λ_=>(#[]:Array aA)))=h1 at l1 u1 z1 ⊢
 replace up:∀(b:Nat) o,b < B+5->s.heap.get? b=sO o->h1.get? b=sO o:=λb o n e=>u1 b o b8 (up b o e)
 have Z1:ZS k m h1 B l r 0 .none (.bool fO):=Z.at λb o h1 h2 e=>up b o b8 e;unfold Builtin.List.listExtendWith;refine bA (wpAny_typeOf (T:="zip") ⟨_,Z1.z,rfl⟩ ?_);have n1:Builtin.List.listSameRef (.ref (B+5)) (.ref (B+4))=fO:=by simp[Builtin.List.listSameRef]
 have n2:(Value.type "zip" == Value.type "list" || Value.type "zip" == Value.type "tuple")=fO:=b9
 rw[n1,Bool.false_or,n2,iN uC];refine bA (wpAny_pyIter_zip Z1.z (bA (wpAny_holding ?_)));unfold Builtin.List.listLengthHint;refine bA (wpAny_specialOf (T:="zip") ⟨_,Z1.z,rfl⟩ zau ?_);refine bA (m:=specialOf (Value.ref (B+4)) (Str.ofString "__length_hint__")) (wpAny_specialOf (T:="zip") ⟨_,Z1.z,rfl⟩ Jb (pO ?_));refine bA (m:=rule "list.extend.makes-room") (wpAny_rule (bA ?_));refine bA (m:=updateSeq (B+5) (·.push .none)) (wpAny_updateSeq l1 rfl ?_);have l2:=UK (Obj.mapSeq (·.push Value.none)) l1 rfl;refine wpAny_updateSeq (a:=B+5) (f:=(·.pop)) (hz:=by seq_fits) l2 rfl ?_;have l3:=UK (Obj.mapSeq (·.pop)) l2 rfl;have u3:∀(b:Nat) o,b≠B+5->h1.get? b=sO o->((h1.update (B+5) (Obj.mapSeq (·.push Value.none))).update (B+5) (Obj.mapSeq (·.pop))).get? b=sO o:=λb o n e=>(UD _ _ (Ne.symm n)).trans ((UD _ _ (Ne.symm n)).trans e);refine pO ⟨plainId_quiet F.plain_extend_loop _,Yc (h0:=s.heap) (A:=A.in1) (acc:=#[]) hA ll rl hN hx hy he N 0 _ _ .none (.bool fO) b8 ⟨Z1.at λb o h1 h2 e=>u3 b o b8 e,.inl rfl,?_,?_,?_,l3,rfl,?_,?_⟩ ?_⟩
 .exact hl.at λo e=>u3 _ o b8 (up _ o b8 e)
 .exact hr.at λo e=>u3 _ o b8 (up _ o b8 e)
 .show(Heap.update (Heap.update _ _ _) _ _).objs.size=_
  rw[tG,tG,z1]
 .intro i x y hi
  lia
 .exactλb o hb e=>u3 _ _ b8 (up _ _ b8 e)
 .exactλh' acc' c' h1 h2 h3 h4=>⟨rfl,q h' acc' c' h1 h2 h3 h4⟩
end
theorem jC(g:Nat->Nat):∀l:List Nat,Vals (l.map λi=>V.ref (g i)) (l.map λi=>Value.ref (g i))
 |[]=>.nil
 |i::l=>.cons rfl (jC g l)
noncomputable def hpZ (H:Hp) (B N:Nat) (f:Nat->List V):Hp:=λ(b:Nat)=>if b=B+5 then sO (.lst ((uQ N).map λi=>V.ref (B+6+i)))else if B+6<=b/\b < B+6+N then sO (.tup (f (b-(B+6))))else H b
theorem xI{b:Nat}(h:b < B+5):hpZ H B N f b=H b:=by
 unfold hpZ;rw[iN b8,iN b8]
theorem X3:hpZ H B N f (B+5)=sO (.lst ((uQ N).map λi=>V.ref (B+6+i))):=iP rfl
theorem X4(h:i < N):hpZ H B N f (B+6+i)=sO (.tup (f i)):=by
 unfold hpZ;rw[iN b8,iP b8];rw[show B+6+i-(B+6)=i by lia]
theorem Inv.zipped{us:Nat->Array aA}{acc:Array aA}{c:Nat}(I:Inv X pins σ H s)(hB:s.heap.objs.size=B)(k:∀(b:Nat) o,b < B->s.heap.get? b=sO o->h'.get? b=sO o)
  (hl:h'.get? (B+5)=sO { cls:=.type "list",data:=.seq acc c }) (hN:N<=sizeLine) (hs:acc.size=N) (ha:∀i,i < N->acc[i]?=sO (.ref (B+6+i))) (ht:∀i,i < N->(f i).length<=sizeLine/\Vals (f i) (us i).toList/\h'.get? (B+6+i)=sO { cls:=.type "tuple",data:=.seq (us i) }) :
  Inv X pins σ (hpZ H B N f) { s with heap:=h' }:=by
 have lt:∀{b:Nat}{u},H b=sO u->b < B:=λe=>by rw[<- hB];exact I.hok.lt e
 have lt':∀{b:Nat}{o},s.heap.get? b=sO o->b < B:=λe=>by rw[<- hB];exact uD e
 refine I.un (t':=s.toks) ⟨λb o e _ _ _=>k b o (lt' e) e,λb o e _ _ _=>⟨o.slots,k b o (lt' e) e⟩,λb o e n _=>by rw[xI (by have:=lt' e;lia)];exact n,λb o e _=>⟨o,k b o (lt' e) e⟩,
  λb xs e=>by rw[xI (by have:=lt e;lia)];exact e,λb u xs e=>by rw[xI (by have:=lt e;lia)];exact e,λb ps e=>⟨#[],by rw[xI (by have:=lt e;lia),e];simp⟩⟩ λ(b:Nat) u e=>?_
 by_cases c1:b=B+5
 .subst c1
  rw[X3]at e;cases e;refine⟨by simpa using hN,acc.toList,c,?_,by simpa using hl⟩;have e2:acc.toList=(uQ N).map λi=>Value.ref (B+6+i):=by
   apply List.ext_getElem?
   intro i;by_cases hi:i < N
   .have:=ha i hi
    simp[hi]
    simpa using this
   .simp[hi]
    lia
  rw[e2];exact jC _ _
 .by_cases c2:B+6<=b/\b < B+6+N
  .obtain⟨i,rfl⟩:∃i,b=B+6+i:=⟨b-(B+6),b8⟩
   have hi:i < N:=b8
   rw[X4 hi]at e;cases e;obtain⟨t1,t2,t3⟩:=ht i hi;exact⟨t1,(us i).toList,t2,⟨_,t3,rfl,rfl,0,rfl⟩⟩
  .have e':H b=sO u:=by
    unfold hpZ at e;rw[iN c1,iN c2]at e;exact e
   exact(I.hok b u e').stay (λd v _ q=>k d v (lt' q) q) (λd q=>by rw[xI (by have:=lt q;lia)];exact q) λd xs q=>by rw[xI (by have:=lt q;lia)];exact q
def zed(K:uc):List V->Hp->VK->Prop:=λvs H Q=>∃a b xs ys,vs=[.ref a,.ref b]/\(SqL K H a xs\/SqT K H a xs)/\(SqL K H b ys\/SqT K H b ys) /\
 ∀(H':Hp)(p:aO)(ps:List aO),Same H H'->H p=nO->H' p=sO (.lst (ps.map V.ref))->ps.length=min xs.length ys.length->(∀t∈ps,H t=nO/\t≠p)->ps.Nodup->(∀(i:Nat) x y,xs[i]?=sO x->ys[i]?=sO y->∃t,ps[i]?=sO t/\H' t=sO (.tup [x,y]))->Q (.ref p) H'
def zbL(K:uc)(ta:TA):TE:=λσ H Q=>ta σ H λvs H1=>zed K vs H1 Q
theorem Inv.sq{xs:List V}(I:Inv X pins σ H s)(h:SqL X.K H a xs\/SqT X.K H a xs):∃(k:Bool)(its:List aA),Vals xs its/\Sq k s.heap a its.toArray/\xs.length<=sizeLine/\(a:Nat) < s.heap.objs.size:=by
 rcases h with h|h
 .obtain⟨its,r,p,z⟩:=I.list h
  have⟨o,n,e,_⟩:=p;exact⟨tU,its,r,p.isList,z,uD e⟩
 .obtain⟨its,r,p,z⟩:=I.tuple h
  have⟨o,e,_⟩:=p;exact⟨fO,its,r,p,z,uD e⟩
section
variable{a b:Expr}{ta:TA}{p1 pos1 pos2:Pos}
theorem zav(hc:X.calm=tU)(hgL:Gl X "list")(hmL:X.mg "list"=nO)(hgZ:Gl X "zip")(hmZ:X.mg "zip"=nO)(ha:PA X [a,b] ta)
  (h1:%[starEach [a,b] X.env=[(fO,eval a X.env),(fO,eval b X.env)]|1]) (h2:%[starEach [b] X.env=[(fO,eval b X.env)]|1]):PE X (.Call (.Name "list" p1) [.Call (.Name "zip" p2) [a,b] [] pos2] [] pos1) (zbL X.K ta):=by
 intro pins s σ H Q I h;refine Call_ (xk I hgL hmL UT (Ua (Calls.spliced_cons (Call_ (xk I hgZ hmZ boot_zip (Ua (thn (ha pos2 pins s σ H _ I h) λus s1 g=>?_) (by rw[h1,h2]) (by rw[h2];rfl))))) rfl rfl));obtain⟨vs,H1,I1,r1,a1,b1,xs,ys,rfl,hq1,hq2,q⟩:=g;obtain⟨u,u',rfl,e1,e2⟩:=ZV r1;cases e1;cases e2;obtain⟨k1,i1,v1,q1,z1,l1⟩:=I1.sq hq1;obtain⟨k2,i2,v2,q2,z2,l2⟩:=I1.sq hq2;refine vL q1 q2 λh' Z sz kp=>Calls.spliced_nil ?_;have hh:X.A.handled=nO:=I1.ok.hd hc;have n1:=v1.length;have n2:=v2.length;refine Jc (s:={ s1 with heap:=h' }) (N:=min xs.length ys.length) hh Z (q1.at λo=>kp _ o) (q2.at λo=>kp _ o) l1 l2 sz b8 (by rw[uw];lia) (by rw[uw];lia) (by rw[uw,uw];lia) λh'' acc c hl hs hp ho=>?_;have pairs:∀i,i < min xs.length ys.length->∃x y u v,xs[i]?=sO x/\ys[i]?=sO y/\i1[i]?=sO u/\i2[i]?=sO v/\RelV x u/\RelV y v:=λi hi=>by
  have c1:i < xs.length:=b8
  have c2:i < ys.length:=b8
  obtain⟨u,e1,r1⟩:=v1.get (uj c1);obtain⟨v,e2,r2⟩:=v2.get (uj c2);exact⟨_,_,u,v,uj c1,uj c2,e1,e2,r1,r2⟩
 have I2:Inv X pins σ (hpZ H1 s1.heap.objs.size (min xs.length ys.length) λi=>[xs.getD i .non,ys.getD i .non]) { s1 with heap:=h'' }:=by
  refine I1.zipped (us:=λi=>#[i1.getD i .none,i2.getD i .none]) (acc:=acc) (c:=c) rfl (λb o hb e=>ho b o hb (kp _ _ e)) hl b8 hs (λi hi=>?_) λi hi=>?_
  .obtain⟨x,y,u,v,_,_,e1,e2,_⟩:=pairs i hi
   exact(hp i u v hi (by simpa using e1) (by simpa using e2)).1
  .obtain⟨x,y,u,v,f1,f2,e1,e2,r1,r2⟩:=pairs i hi
   refine⟨sN2,?_,?_⟩
   .rw[u5,u5,f1,f2]
    rw[u5,u5,e1,e2];exact .cons r1 (.cons r2 .nil)
   .rw[u5,u5,e1,e2]
    exact(hp i u v hi (by simpa using e1) (by simpa using e2)).2
 have old:∀{c:Nat}{o},H1 c=sO o->c < s1.heap.objs.size:=λe=>I1.hok.lt e;refine⟨.ref (s1.heap.objs.size+5),_,I2,rfl,q _ _ ((uQ (min xs.length ys.length)).map λi=>s1.heap.objs.size+6+i) (λc o e=>?_) (I1.hok.fresh (UE _ _)) ?_ ba ?_ ?_ ?_⟩
 .rw[xI (by have:=old e;lia)]
  exact e
 .rw[X3,UP]
  rfl
 .intro t ht
  obtain⟨i,_,rfl⟩:=uz.mp ht;refine⟨I1.hok.fresh ?_,?_⟩
  .show s1.heap.objs.size<=s1.heap.objs.size+6+i
   lia
  .show s1.heap.objs.size+6+i≠s1.heap.objs.size+5
   lia
 .refine List.Pairwise.map _ (λi j (ne:i≠j) e=>ne ?_) List.nodup_range
  have e':s1.heap.objs.size+6+i=s1.heap.objs.size+6+j:=e;exact Nat.add_left_cancel e'
 .intro i x y hx hy
  have c1:i < xs.length:=(uf.mp hx).1;have c2:i < ys.length:=(uf.mp hy).1;refine⟨s1.heap.objs.size+6+i,?_,?_⟩
  .rw[uh,tJ b8]
   rfl
  .rw[X4 b8,u5,u5,hx,hy]
   rfl
theorem X5(hc:X.calm=tU)(hgL:Gl X "list")(hmL:X.mg "list"=nO)(hgZ:Gl X "zip")(hmZ:X.mg "zip"=nO)(ha:jA X [a,b] ta)(h1:%[zA a=fO|1])(h2:%[zA b=fO|1]):
  jE X (.Call (.Name "list" p1) [.Call (.Name "zip" p2) [a,b] [] pos2] [] pos1) (zbL X.K ta):=⟨zav hc hgL hmL hgZ hmZ ha.out (by rw[zH h1,zH h2];rfl) (by rw[zH h2];rfl)⟩
end
def SqK(k:Bool)(K:uc)(H:Hp)(a:aO)(xs:List V):Prop:=match k with
 |true=>SqL K H a xs
 |false=>SqT K H a xs
theorem Inv.sqk{k:Bool}{xs:List V}(I:Inv X pins σ H s)(h:SqK k X.K H a xs):∃its:List aA,Vals xs its/\Sq k s.heap a its.toArray/\xs.length<=sizeLine/\(a:Nat) < s.heap.objs.size:=by
 cases k with
 |true =>
  obtain⟨its,r,p,z⟩:=I.list h;have⟨o,n,e,_⟩:=p;exact⟨its,r,p.isList,z,uD e⟩
 |false =>
  obtain⟨its,r,p,z⟩:=I.tuple h;have⟨o,e,_⟩:=p;exact⟨its,r,p,z,uD e⟩
theorem Inv.sqk_inj{k:Bool}{xs ys:List V}(I:Inv X pins σ H s)(h:SqK k X.K H a xs)(h':SqK k X.K H a ys):xs=ys:=by
 cases k with
 |true=>exact I.list_inj h h'
 |false=>exact I.tuple_inj h h'
def ItN(K:uc)(zs:List (Bool×aO)):It :=
 ⟨λi H=>∃vs:List V,vs.length=zs.length/\∀(j:Nat) k a,zs[j]?=sO (k,a)->∃xs,SqK k K H a xs/\xs[i]?=vs[j]?,
   λi H v H'=>∃T vs,v=.ref T/\H T=nO/\H'=upd H T (.tup vs)/\vs.length=zs.length/\∀(j:Nat) k a xs,zs[j]?=sO (k,a)->SqK k K H a xs->xs[i]?=vs[j]?,
   λi H=>(∀(j:Nat) k a,zs[j]?=sO (k,a)->∃xs,SqK k K H a xs)/\∃(j:Nat)(k:Bool)(a:aO)(xs:List V),zs[j]?=sO (k,a)/\SqK k K H a xs/\xs.length<=i⟩
def fpN(B N:Nat):List Nat:=(uQ (N+3)).map (B + ·)
theorem fpN_iff{c:Nat}:c∈fpN B N↔B<=c/\c<=B+N+2:=by
 unfold fpN;rw[uz];exact⟨λ⟨i,hi,e⟩=>by have:=Ut.mp hi;lia,λh=>⟨c-B,Ut.mpr b8,b8⟩⟩
theorem KeptN.of(z:KeptN B N h h'):∀(b:Nat) o,b∉fpN B N->h.get? b=sO o->h'.get? b=sO o:=λb o n e=>z b o (by rw[fpN_iff]at n;lia) e
theorem X6{f:aA}(Z:ZN zs h B n f g):∀b∈fpN B zs.length,∃o,h.get? b=sO o/\∀v,o.data≠.cell v:=by
 intro b hb;rw[fpN_iff]at hb;obtain⟨us,_,e2⟩:=Z.to;rcases(show b < B+zs.length\/b=B+zs.length\/b=B+zs.length+1\/b=B+zs.length+2 by lia)with c|rfl|rfl|rfl
 .obtain⟨o,e,_,d⟩:=(Z.it (b-B) _ _ (uj b8)).ex
  exact⟨o,by rw[show b=B+(b-B) by lia];exact e,λv z=>by rw[d]at z;cases z⟩
 .exact⟨_,Z.ti,λv z=>by cases z⟩
 .exact⟨_,e2,λv z=>by cases z⟩
 .exact⟨_,Z.z,λv z=>by cases z⟩
theorem Jd{α β:Type}{R:α->β->Prop}:∀l:List α,(∀(j:Nat) a,l[j]?=sO a->∃b,R a b)->∃m:List β,∀(j:Nat) a,l[j]?=sO a->∃b,m[j]?=sO b/\R a b
 |[],_=>⟨[],λj a h=>bg⟩
 |a::l,h=>by
  obtain⟨b,hb⟩:=h 0 a rfl;obtain⟨m,hm⟩:=Jd l λj a h'=>h (j+1) a (by simpa using h');refine⟨b::m,λj a' h'=>?_⟩;cases j with
  |zero=>cases h';exact⟨b,rfl,hb⟩
  |succ j=>exact hm j a' (by simpa using h')
theorem X7:∀{xs:List V}{us:List aA},xs.length=us.length->(∀(j:Nat) x u,xs[j]?=sO x->us[j]?=sO u->RelV x u)->Vals xs us
 |[],[],_,_=>.nil
 |[],_::_,h,_=>bg
 |_::_,[],h,_=>bg
 |x::xs,u::us,h,g=>.cons (g 0 x u rfl rfl) (X7 (by simpa using h) λj a b h1 h2=>g (j+1) a b bf (by simpa using h2))
theorem Yd{K:uc}{zs:List (Bool×aO)}(hz:0 < zs.length)(hs:zs.length<=sizeLine)(la:∀(j:Nat) k a,zs[j]?=sO (k,a)->(a:Nat) < B):
  Turn P w K (.Tuple elts n pos) (ItN K zs) (fpN B zs.length) (B+zs.length+2) (λi h=>ZN zs h B i .none (.bool fO)) where
 mem:=fpN_iff.mpr ⟨b8,b8⟩
 obj:=λi h st=>X6 st
 keep:=λi h h' st kp=>st.at λc o h1 h2 e=>kp c (fpN_iff.mpr ⟨h1,h2⟩) o e
 item:=by
  intro X hP hw hK hc i pins s σ H E I hf st hg;subst hP hw hK;obtain⟨vs,vl,hv⟩:=hg;obtain⟨m,hm⟩:=Jd (R:=λp (q:List V×List aA)=>SqK p.1 X.K H p.2 q.1/\Vals q.1 q.2/\Sq p.1 s.heap p.2 q.2.toArray) zs λj p hj=>by
   obtain⟨xs,h1,_⟩:=hv j p.1 p.2 hj;obtain⟨its,v1,q1,_⟩:=I.sqk h1;exact⟨(xs,its),h1,v1,q1⟩
  have at_:AtN zs s.heap B i λj=>(m[j]?).bind λq=>q.2[i]?:=λj k a hj=>by
   obtain⟨q,e1,_,_,e2⟩:=hm j (k,a) hj;exact⟨la j k a hj,_,e2,by(show _=(m[j]?).bind _);rw[e1];simp⟩
  refine vv (I.ok.hd hc) st (.inl rfl) hz hs at_ (λh' us T c h1 h2 h3 h4 h5 h6 h7=>⟨_,rfl,?_⟩) λh' j jl hn _=>?_
  .rcases h4 with⟨rfl,_,rfl⟩|⟨z,_⟩
   .have new:ObjOk X.prog X.w (upd H s.heap.objs.size (.tup vs)) h' s.heap.objs.size (.tup vs):=by
     refine⟨by rw[vl];exact hs,us.toList,X7 (vl.trans (h1.symm.trans Array.length_toList.symm)) λj x u e1 e2=>?_,⟨_,h5,rfl,rfl,_,rfl⟩⟩;have jl:j < zs.length:=by rw[<- vl];exact(uf.mp e1).1
     obtain⟨xs,g1,g2⟩:=hv j _ _ (uj jl);obtain⟨q,f1,f2,f3,_⟩:=hm j _ (uj jl);rw[I.sqk_inj g1 f2,e1]at g2;obtain⟨u',f4,f5⟩:=f3.get g2;rw[Array.getElem?_toList,h2 j jl,f1,Option.bind_some,f4]at e2;cases e2;exact f5
    have I1:Inv X pins σ (upd H s.heap.objs.size (.tup vs)) { s with heap:=h' }:=I.turnsLaid (t':=s.toks) (ch:=fpN B zs.length) h7.of hf (uk _) new;have hn:∀c∈fpN B zs.length,upd H s.heap.objs.size (.tup vs) c=nO:=λc hc=>by
     obtain⟨o,e,_⟩:=X6 st c hc;rw[zo (uZ (uD e))];exact(hf c hc).1
    refine wpAny_letOwnedTupleGo_zip h3.z λh8 z2 u2=>?_;have I2:Inv X pins σ (upd H s.heap.objs.size (.tup vs)) { s with heap:=h8 }:=Inv.turns (s:={ s with heap:=h' }) (t':=s.toks) (ch:=fpN B zs.length) I1 (λc o hc e=>(u2.2 c λz=>hc (by rw[z];exact fpN_iff.mpr ⟨b8,b8⟩)).trans e) λc hc=>⟨hn c hc,(hf c hc).2⟩;have up:∀(c:Nat) o,c≠B+zs.length+2->h'.get? c=sO o->h8.get? c=sO o:=λc o n e=>(u2.2 c n).trans e;refine⟨.ref s.heap.objs.size,_,I2,rfl,⟨_,vs,rfl,I.fresh,rfl,vl,λj k a xs hj hx=>?_⟩,⟨z2,up _ _ b8 h3.ti,let ⟨us,c,e⟩:=h3.to;⟨us,c,up _ _ b8 e⟩,λj k a hj=>(h3.it j k a hj).at λo e=>up _ _ (by have:=(uf.mp hj).1;lia) e⟩,hn⟩;obtain⟨xs',g1,g2⟩:=hv j k a hj;rw[I.sqk_inj hx g1];exact g2
   .unfold rawInt at z
    cases z
  .obtain⟨xs,g1,g2⟩:=hv j _ _ (uj jl)
   obtain⟨q,f1,f2,f3,_⟩:=hm j _ (uj jl);obtain⟨v,hw⟩:∃v,vs[j]?=sO v:=⟨_,uj b8⟩;rw[I.sqk_inj g1 f2,hw]at g2;obtain⟨u',f4,f5⟩:=f3.get g2;rw[f1,Option.bind_some,f4]at hn;cases hn
 done:=by
  intro X hP hw hK hc i pins s σ H E I hf st hg;subst hP hw hK;obtain⟨hv,j0,k0,a0,x0,hj0,hx0,hl0⟩:=hg;obtain⟨m,hm⟩:=Jd (R:=λp (q:List V×List aA)=>SqK p.1 X.K H p.2 q.1/\Vals q.1 q.2/\Sq p.1 s.heap p.2 q.2.toArray) zs λj p hj=>by
   obtain⟨xs,h1⟩:=hv j p.1 p.2 hj;obtain⟨its,v1,q1,_⟩:=I.sqk h1;exact⟨(xs,its),h1,v1,q1⟩
  have at_:AtN zs s.heap B i λj=>(m[j]?).bind λq=>q.2[i]?:=λj k a hj=>by
   obtain⟨q,e1,_,_,e2⟩:=hm j (k,a) hj;exact⟨la j k a hj,_,e2,by(show _=(m[j]?).bind _);rw[e1];simp⟩
  refine vv (I.ok.hd hc) st (.inl rfl) hz hs at_ (λh' us T c h1 h2 h3 h4 h5 h6 h7=>?_) λh' j jl hn kz=>⟨rfl,I.turns (t':=s.toks) (ch:=fpN B zs.length) kz.of hf⟩;have jl:=(uf.mp hj0).1;obtain⟨q,f1,f2,f3,_⟩:=hm j0 _ hj0;have f4:=f3.length;have e:=h2 j0 jl;rw[<- I.sqk_inj hx0 f2]at f4;rw[f1,Option.bind_some,List.getElem?_eq_none b8,Array.getElem?_eq_none_iff]at e;lia
 self:=λ_ _ _ _ _ st h=>by
  have ty:Shared.TypeIs _ (.ref (B+zs.length+2)) "zip":=⟨_,st.z,rfl⟩;exact wpAny_pyIter_slot ty F.slot_zip_iter (wpAny_call_entry F.slot_zip_iter ty F.entry_zip_iter (pO ⟨_,rfl,"zip",_,ty,F.slot_zip_next.lookup,h⟩) (F.args_zip_iter_1 (.ref (B+zs.length+2))))
abbrev Itz(K:uc)(k m:Bool)(a b:aO):It:=ItN K [(k,a),(m,b)]
section
variable{K:uc}{k e:Bool}{xs ys zs:List V}{x y z:V}
theorem go2(q1:SqK k K H a xs)(q2:SqK m K H b ys)(hx:xs[i]?=sO x)(hy:ys[i]?=sO y):(Itz K k m a b).go i H:=⟨[x,y],rfl,λj k' a' hj=>by
 match j,hj with
 |0,hj=>cases hj;exact⟨xs,q1,hx⟩
 |1,hj=>cases hj;exact⟨ys,q2,hy⟩⟩
theorem zbM(q1:SqK k K H a xs)(q2:SqK m K H b ys)(h:xs.length<=i):(Itz K k m a b).stop i H:=⟨λj k' a' hj=>by
 match j,hj with
 |0,hj=>cases hj;exact⟨xs,q1⟩
 |1,hj=>cases hj;exact⟨ys,q2⟩,0,k,a,xs,rfl,q1,h⟩
theorem yld2(h:(Itz K k m a b).yld i H v H')(q1:SqK k K H a xs)(q2:SqK m K H b ys):∃T x y,v=.ref T/\H T=nO/\H'=upd H T (.tup [x,y])/\xs[i]?=sO x/\ys[i]?=sO y:=by
 obtain⟨T,vs,h1,h2,h3,h4,h5⟩:=h;obtain⟨x,vs,rfl⟩:=Uj h4;obtain⟨y,vs,rfl⟩:=Uj (tP.inj h4);rw[Um.mp (tP.inj (tP.inj h4))]at h3 h5;exact⟨T,x,y,h1,h2,h3,h5 0 k a xs rfl q1,h5 1 m b ys rfl q2⟩
end
def iZip(K:uc)(ta:TA):TI:=λσ H R=>ta σ H λvs H1=>∃a b k m xs ys,vs=[.ref a,.ref b]/\SqK k K H1 a xs/\SqK m K H1 b ys/\R (Itz K k m a b) H1
theorem zc0{a b:Expr}{ta:TA}(hg:Gl X "zip")(hm:X.mg "zip"=nO)(ha:PA X [a,b] ta)(h1:%[starEach [a,b] X.env=[(fO,eval a X.env),(fO,eval b X.env)]|1])(h2:%[starEach [b] X.env=[(fO,eval b X.env)]|1]):
  PI X (.Tuple elts n tpos) (.Call (.Name "zip" p) [a,b] [] pos) (iZip X.K ta):=by
 intro pins s σ H R I h;refine Call_ (xk I hg hm boot_zip (Ua (thn (ha pos pins s σ H _ I h) λus s1 g=>?_) (by rw[h1,h2]) (by rw[h2];rfl)));obtain⟨vs,H1,I1,r1,a1,b1,k,m,xs,ys,rfl,g1,g2,q⟩:=g;obtain⟨u,u',rfl,e1,e2⟩:=ZV r1;cases e1;cases e2;obtain⟨i1,v1,q1,z1,l1⟩:=I1.sqk g1;obtain⟨i2,v2,q2,z2,l2⟩:=I1.sqk g2;refine vL q1 q2 λh' Z sz kp=>?_;have tz:=Yd (P:=X.prog) (w:=X.w) (K:=X.K) (elts:=elts) (n:=n) (pos:=tpos) (zs:=[(k,a1),(m,b1)]) (B:=s1.heap.objs.size) (by show 0 < 2;decide) sN2 λj k' a' hj=>by
  match j,hj with
  |0,hj=>cases hj;exact l1
  |1,hj=>cases hj;exact l2
 refine tz.self X.A 0 { s1 with heap:=h' } _ _ Z ⟨s1.heap.objs.size+4,_,_,_,H1,rfl,I1.kept (t':=s1.toks) kp,tz,Z,λc hc=>?_,q⟩;have le:s1.heap.objs.size<=c:=(fpN_iff.mp hc).1;exact I1.fpOk le (I1.hok.fresh le)
theorem zc1{a b:Expr}{t:TA}(hg:Gl X "zip")(hm:X.mg "zip"=nO)(ha:jA X [a,b] t)(h1:%[zA a=fO|1])(h2:%[zA b=fO|1]):jI X (.Tuple elts n tpos) (.Call (.Name "zip" p) [a,b] [] pos) (iZip X.K t) :=
 ⟨zc0 hg hm ha.out (by rw[zH h1,zH h2];rfl) (by rw[zH h2];rfl)⟩
structure Ca(P:Program)(w:World)(K:uc)(mg:Str->Option aA)(base:Heap)(CX:CXT)(k:Nat)(x:Str)(ps:lS)(sp:Sp):Prop where
 ex:∃f fd,FnOk P w K mg base CX k f fd ps sp/\Binds K fd ps []/\uY K (.ref f)=tU/\mg x=sO (.ref f)
structure Me(P:Program)(w:World)(K:uc)(mg:Str->Option aA)(base:Heap)(CX:CXT)(k:Nat)(C:aO)(m:Str)(ps:lS)(sp:Sp):Prop where
 ex:∃f fd,FnOk P w K mg base CX k f fd ps sp/\Binds K fd ps []/\Meth K C m f
structure Ma(P:Program)(w:World)(K:uc)(mg:Str->Option aA)(base:Heap)(CX:CXT)(k:Nat)(x:Str)(C:aO)(ps:lS)(sp:Sp):Prop where
 ex:∃f fd,Mk K C f/\FnOk P w K mg base CX k f fd ps sp/\Binds K fd ps []/\mg x=sO (.ref C)
section
variable{k:Nat}{E:XK}{x m n f:Str}{np epos hpos:Pos}{a:Expr}{as:List Expr}{tv:TE}{t:TA}
theorem zbN(F:Ca X.prog X.w X.K X.mg X.base CX k x ps sp)(hr:Room k X.A)(hg:Gl X x)(hx:xb CX X E)(ha:jA X (e::es) t)(hdb:%[(x == ("__debug__":Str))=fO|2])(h1:%[zA e=fO|1])(h2:%[es.all (λe=>!zA e)=tU|1]):
  jE X (.Call (.Name x p) (e::es) [] pos) (ZX sp [] E t):=let ⟨_,_,G,b,kp,mg⟩:=F.ex;zea G hr hg mg kp b .nil hx ha hdb h1 h2
theorem vM{pl:Sem Bool}(he:jE X o ta)(c:Cls X.K C)(F:Me X.prog X.w X.K X.mg X.base CX k C m ps sp)(hr:Room k X.A)(hx:xb CX X E)(ha:jA X (e::es) t)(h1:%[zA e=fO|1])(h2:%[es.all (λe=>!zA e)=tU|1])
  (ht:%[eval (.Call (.Attribute o m apos) (e::es) [] pos) X.env=(do
   let ov <- eval o X.env
   standAt apos.atName
   let (f,first) <- holding [ov] (getMethod ov m pl)
   callWith pos f first (backTo pos (starEach (e::es) X.env)) (backToKw pos (keywordEach [] X.env)))|1]) :
  jE X (.Call (.Attribute o m apos) (e::es) [] pos) (zbA C m sp [] E ta t):=let ⟨_,_,G,b,mt⟩:=F.ex;⟨zab he.out c mt G hr b .nil hx ha.out (zH h1) (yH h2) ht⟩
theorem vi(F:Ma X.prog X.w X.K X.mg X.base CX k x C ps sp)(hr:Room (k+1) X.A)(hg:Gl X x)(hx:xb CX X E)(ha:jA X (e::es) t)(hdb:%[(x == ("__debug__":Str))=fO|2])(h1:%[zA e=fO|1])(h2:%[es.all (λe=>!zA e)=tU|1]):
  jE X (.Call (.Name x p) (e::es) [] pos) (zbB C sp [] E t):=let ⟨_,_,M,G,b,mg⟩:=F.ex;⟨zac M G hr hg mg b .nil hx ha.out hdb (zH h1) (yH h2)⟩
theorem zc2(he:jE X e ta)(hb:%[attributeBase e f X.env (eval e X.env)=eval e X.env|1]):jE X (.Attribute e f pos) (tFld X.K ta f):=⟨zcD he.out hb⟩
theorem xx(ha:jE X o ta)(hv:jE X value tv)(hs:%[swapsWith value (sO (.Attribute o f pos')) pos.line X.env=pure fO|1]):jS X (.Assign [.Attribute o f pos'] value pos) (sFld X.K ta tv f):=⟨zcE ha.out hv.out hs⟩
end
end L2
namespace L2
open PySem
variable{p:List aA->Prop}
section
variable{p q:Pos}
theorem jA1(h1:jE X e1 t1)(s1:%[zA e1=fO|1]):jA X [e1] (yk t1 tNil):=(ja_c h1 zQ s1)
theorem jA2(h1:jE X e1 t1)(h2:jE X e2 t2)(s1:%[zA e1=fO|1])(s2:%[zA e2=fO|1]):jA X [e1,e2] (yk t1 (yk t2 tNil)):=(ja_c h1 (ja_c h2 zQ s2) s1)
theorem jA3(h1:jE X e1 t1)(h2:jE X e2 t2)(h3:jE X e3 t3)(s1:%[zA e1=fO|1])(s2:%[zA e2=fO|1])(s3:%[zA e3=fO|1]):jA X [e1,e2,e3] (yk t1 (yk t2 (yk t3 tNil))):=(ja_c h1 (ja_c h2 (ja_c h3 zQ s3) s2) s1)
theorem jA4(h1:jE X e1 t1)(h2:jE X e2 t2)(h3:jE X e3 t3)(h4:jE X e4 t4)(s1:%[zA e1=fO|1])(s2:%[zA e2=fO|1])(s3:%[zA e3=fO|1])(s4:%[zA e4=fO|1]):jA X [e1,e2,e3,e4] (yk t1 (yk t2 (yk t3 (yk t4 tNil)))):=(ja_c h1 (ja_c h2 (ja_c h3 (ja_c h4 zQ s4) s3) s2) s1)
theorem jA5{t5:TE}(h1:jE X e1 t1)(h2:jE X e2 t2)(h3:jE X e3 t3)(h4:jE X e4 t4)(h5:jE X e5 t5)(s1:%[zA e1=fO|1])(s2:%[zA e2=fO|1])(s3:%[zA e3=fO|1])(s4:%[zA e4=fO|1])(s5:%[zA e5=fO|1]):jA X [e1,e2,e3,e4,e5] (yk t1 (yk t2 (yk t3 (yk t4 (yk t5 tNil))))):=(ja_c h1 (ja_c h2 (ja_c h3 (ja_c h4 (ja_c h5 zQ s5) s4) s3) s2) s1)
theorem jA6{t5:TE}{e6:Expr}{t6:TE}(h1:jE X e1 t1)(h2:jE X e2 t2)(h3:jE X e3 t3)(h4:jE X e4 t4)(h5:jE X e5 t5)(h6:jE X e6 t6)(s1:%[zA e1=fO|1])(s2:%[zA e2=fO|1])(s3:%[zA e3=fO|1])(s4:%[zA e4=fO|1])(s5:%[zA e5=fO|1])(s6:%[zA e6=fO|1]):jA X [e1,e2,e3,e4,e5,e6] (yk t1 (yk t2 (yk t3 (yk t4 (yk t5 (yk t6 tNil)))))):=(ja_c h1 (ja_c h2 (ja_c h3 (ja_c h4 (ja_c h5 (ja_c h6 zQ s6) s5) s4) s3) s2) s1)
theorem jA7{t5:TE}{e6:Expr}{t6:TE}{e7:Expr}{t7:TE}(h1:jE X e1 t1)(h2:jE X e2 t2)(h3:jE X e3 t3)(h4:jE X e4 t4)(h5:jE X e5 t5)(h6:jE X e6 t6)(h7:jE X e7 t7)(s1:%[zA e1=fO|1])(s2:%[zA e2=fO|1])(s3:%[zA e3=fO|1])(s4:%[zA e4=fO|1])(s5:%[zA e5=fO|1])(s6:%[zA e6=fO|1])(s7:%[zA e7=fO|1]):jA X [e1,e2,e3,e4,e5,e6,e7] (yk t1 (yk t2 (yk t3 (yk t4 (yk t5 (yk t6 (yk t7 tNil))))))):=(ja_c h1 (ja_c h2 (ja_c h3 (ja_c h4 (ja_c h5 (ja_c h6 (ja_c h7 zQ s7) s6) s5) s4) s3) s2) s1)
theorem cA{k:Nat}{t:TA}(F:Ca X.prog X.w X.K X.mg X.base CX0 k x ps sp)(hr:Room k X.A)(ha:jA X (e::es) t)(hg:%[Gl X x|1])(hdb:%[(x == ("__debug__":Str))=fO|2])(h1:%[zA e=fO|1])(h2:%[es.all (λe=>!zA e)=tU|1]):jE X (.Call (.Name x p) (e::es) [] pos) (ZX sp [] E0 t):=zbN F hr hg yN ha hdb h1 h2
theorem xX{r:R2}{a b:Expr}(hr:jIx X r)(ha:jE X a ta)(hb:jE X b tb)(hs:j4 b:=by exactλ_ _=>rfl):jE X (.Subscript a b pos) (tOp r ta tb):=Z5 hr ha hb hs
theorem xT(i:Nat){n j}(hN:%[X.N[i]?=sO x|1])(hv:%[Vis X.env.scope x|6])(hd:%[(x == ("__debug__":Str))=fO|2])(hcd:%[(x == ("__classdict__":Str))=fO|2]):jE X (.Subscript (.Name x p) (.Constant (.int n) j q) pos) (tOp (rIxT X.K) (tVar i) (tC (.int n))):=Z5 V3 (jv i hN hv hd hcd) zp (λ_ _=>rfl)
theorem xL(i:Nat){n j}(hN:%[X.N[i]?=sO x|1])(hv:%[Vis X.env.scope x|6])(hd:%[(x == ("__debug__":Str))=fO|2])(hcd:%[(x == ("__classdict__":Str))=fO|2]):jE X (.Subscript (.Name x p) (.Constant (.int n) j q) pos) (tOp (rIxL X.K) (tVar i) (tC (.int n))):=Z5 X2 (jv i hN hv hd hcd) zp (λ_ _=>rfl)
theorem sE(i:Nat)(hN:X.N.Nodup)(he:jE X e te)(hi:%[X.N[i]?=sO x|1])(hx:%[Loc X.env.scope x|9])(hs:%[swapsWith e (sO (.Name x q)) pos.line X.env=pure fO|1])(hf:%[X.fn x=tU\/X.env.scope.names.lookup x=sO .local|4]):jS X (.Assign [.Name x q] e pos) (tAsg te (wz i)):=V2 hN hi hx he hs hf
theorem gN(i:Nat)(hN:X.N.Nodup)(hi:%[X.N[i]?=sO x|1])(hx:%[Loc X.env.scope x|9])(hf:%[X.fn x=tU\/X.env.scope.names.lookup x=sO .local|4]):jG X (.Name x pos) (wz i):=zan hN hi hx hf
theorem tN{r:R2}{a c:Expr}(ho:jOp X (compareOp op) r)(ha:jE X a ta)(hb:jE X c tb)(hm:behindInMarks op c=fO:=by exact xv _):jT X (.Compare a [op] [c] pos) (vD (tOp r ta tb)):=vt ho ha hb hm
theorem aB{p q:Prop}[Decidable p](h:%[Not p|2]):p->q:=λc=>absurd c h
end
theorem zN:sizeLine=16777216:=b9
def FnIn(K:uc)(x qual:Str)(st:Stmt)(f:aO):Prop:=∃(oc:aA)(od:Option aO)(kV doc pm:aA)(an:Option aO)(cdv ct:aA)(osl:Array (Option aA)),K.lookup f=sO ⟨oc,od,.func (Ue x qual (yi st) (zP st) (zq st) .none kV doc pm an cdv ct),osl⟩/\UM K cdv qual=tU/\uY K (.ref f)=tU
theorem FnIn.fn{K:uc}(h:FnIn K x qual st f):∃fd,Fun K x qual st f fd/\uY K (.ref f)=tU:=by
 obtain⟨_,_,_,_,_,_,_,_,_,l,c,k⟩:=h;exact⟨_,VZ l c k,k⟩
def DfIn(K:uc)(x:Str)(st:Stmt):Prop:=∃f,Uh K mainGlobals x=sO (sO (.ref f))/\FnIn K x x st f
def MeIn(K:uc)(C:aO)(x qual:Str)(st:Stmt):Prop:=∃f,uU K (.ref C) x=sO (sO (.ref f))/\PySem.W.isFn K (.ref f)=tU/\FnIn K x qual st f
theorem MeIn.me{K:uc}{k:Nat}(h:MeIn K C x qual st)(hb:∀(kV doc pm:aA)(an:Option aO)(cdv ct:aA)(us:List aA),us.length=ps.length->bindArgs (Ue x qual (yi st) (zP st) (zq st) .none kV doc pm an cdv ct) ⟨us,[]⟩=pure (ps.zip us))
  (ok:∀f fd,Fun K x qual st f fd->FnOk P w K mg base CX k f fd ps sp):Me P w K mg base CX k C x ps sp:=by
 obtain⟨f,a,n,g⟩:=h;obtain⟨fd,F,kp⟩:=g.fn;exact⟨f,fd,ok f fd F,F.binds hb,a,n,kp⟩
theorem MeIn.ma{K:uc}{k:Nat}(h:MeIn K C "__init__" qual st)(hb:∀(kV doc pm:aA)(an:Option aO)(cdv ct:aA)(us:List aA),us.length=ps.length->bindArgs (Ue "__init__" qual (yi st) (zP st) (zq st) .none kV doc pm an cdv ct) ⟨us,[]⟩=pure (ps.zip us))
  (mk:PySem.W.makesIn K C=tU) (kp:uY K (.ref C)=tU) (hm:mg x=sO (.ref C)) (ok:∀f fd,Fun K "__init__" qual st f fd->FnOk P w K mg base CX k f fd ps sp):Ma P w K mg base CX k x C ps sp:=by
 obtain⟨f,a,n,g⟩:=h;obtain⟨fd,F,_⟩:=g.fn;exact⟨f,fd,⟨mk,a,n,kp⟩,ok f fd F,F.binds hb,hm⟩
theorem DfIn.ca{K:uc}{k:Nat}(X:K.In h)(G:h.Ns mainGlobals mg)(d:DfIn K x st)(hb:∀(kV doc pm:aA)(an:Option aO)(cdv ct:aA)(us:List aA),us.length=ps.length->bindArgs (Ue x x (yi st) (zP st) (zq st) .none kV doc pm an cdv ct) ⟨us,[]⟩=pure (ps.zip us))
  (ok:∀f fd,Fun K x x st f fd->FnOk P w K mg base CX k f fd ps sp):Ca P w K mg base CX k x ps sp:=by
 obtain⟨f,a,g⟩:=d;obtain⟨fd,F,kp⟩:=g.fn;exact⟨f,fd,ok f fd F,F.binds hb,kp,U8 X G a⟩
theorem DfIn.mk{K:uc}{kV:aA}(a:Uh K mainGlobals x=sO (sO (.ref f)))(l:K.lookup f=sO ⟨oc,od,.func (Ue x x (yi st) (zP st) (zq st) .none kV doc pm an cdv ct),osl⟩)(c:UM K cdv x=tU)(k:uY K (.ref f)=tU):DfIn K x st:=⟨f,a,oc,od,kV,doc,pm,an,cdv,ct,osl,l,c,k⟩
theorem MeIn.mk{K:uc}{kV:aA}(a:uU K (.ref C) x=sO (sO (.ref f)))(l:K.lookup f=sO ⟨oc,od,.func (Ue x qual (yi st) (zP st) (zq st) .none kV doc pm an cdv ct),osl⟩)(c:UM K cdv qual=tU)(k:uY K (.ref f)=tU)(n:PySem.W.isFn K (.ref f)=tU):MeIn K C x qual st:=⟨f,a,n,oc,od,kV,doc,pm,an,cdv,ct,osl,l,c,k⟩
structure OwnIn(K:uc)(x:Str)(C:aO):Prop where
 n:Uh K mainGlobals x=sO (sO (.ref C))
 pg:tD K C Str.empty=tU
 hd:tS K C=tU
 po:PySem.W.plainOver K C=tU
 sa:uU K (.ref C) "__setattr__"=sO (sO (.builtin "object.__setattr__"))
 mks:PySem.W.makesIn K C=tU
 kp:uY K (.ref C)=tU
theorem OwnIn.cls{K:uc}(o:OwnIn K x C):Cls K C:=⟨o.pg,o.hd,o.po,o.sa⟩
theorem usS(h:∀a us,us.length=n->p (a::us)):∀us:List aA,us.length=n+1->p us:=λus=>by
 cases us with
 |nil=>exactλe=>by cases e
 |cons a r=>exactλe=>h a r (tP.inj e)
theorem us1(h:∀a,p [a]):∀us:List aA,us.length=1->p us:=usS λa us e=>by rw[Um.mp e];exact h a
theorem us2(h:∀a b,p [a,b]):∀us:List aA,us.length=2->p us:=usS λa=>us1 (p:=λl=>p (a::l)) (h a)
theorem us3(h:∀a b c,p [a,b,c]):∀us:List aA,us.length=3->p us:=usS λa=>us2 (p:=λl=>p (a::l)) (h a)
theorem us4(h:∀a b c d,p [a,b,c,d]):∀us:List aA,us.length=4->p us:=usS λa=>us3 (p:=λl=>p (a::l)) (h a)
theorem us5(h:∀a b c d e,p [a,b,c,d,e]):∀us:List aA,us.length=5->p us:=usS λa=>us4 (p:=λl=>p (a::l)) (h a)
theorem us6(h:∀a b c d e f,p [a,b,c,d,e,f]):∀us:List aA,us.length=6->p us:=usS λa=>us5 (p:=λl=>p (a::l)) (h a)
end L2
namespace L2
open PySem PySem.Spec PyProof.Rows
variable{o:HO}
def BMn(mg:Str->Option aA)(h:Heap):Prop:=∃bm ob,mg "__builtins__"=sO (.ref bm)/\bm≠builtinsNs/\h.get? bm=sO ob/\ob.cls=.type "module"/\ob.dict=sO builtinsNs/\ob.data=.plain
theorem BMn.at{P:aO}{ps:Array aA}(B:BMn mg h)(g:h.Ns mainGlobals mg)(hP:h.get? P=sO { cls:=.none,data:=.fields ps }):h.BuiltinsAt mg P/\mainGlobals≠P:=by
 obtain⟨bm,ob,b1,b2,b3,b4,b5,b6⟩:=B;refine⟨⟨bm,ob,b1,b2,λq=>?_,λq=>?_,b3,b4,b5,b6⟩,λq=>?_⟩
 .obtain⟨o,es,ep,e,hd,_⟩:=g
  rw[q,e]at b3;cases b3;rw[hd]at b6;cases b6
 .rw[q,hP]at b3;cases b3;cases b4
 .obtain⟨o,es,ep,e,hd,_⟩:=g
  rw[q,hP]at e;cases e;cases hd
theorem BMn.keeps(B:BMn mg h)(k:∀b o,h.get? b=sO o->h'.get? b=sO o):BMn mg h' :=
 let ⟨bm,ob,b1,b2,b3,r⟩:=B;⟨bm,ob,b1,b2,k _ _ b3,r⟩
def FunO(f:aO)(fd:FuncData):HO:=.ext λh=>h.get? f=sO { cls:=.type "function",data:=.func fd }
def CodO(c:aO)(qual:Str):HO:=.ext λh=>h.CodeRec (.ref c) qual
theorem Je(e:h.get? f=sO { cls:=.type "function",data:=.func fd }):ObjOk P w H h f (FunO f fd) :=
 ⟨e,⟨_,e⟩,λ_ _ p k=>k _ p⟩
theorem zc3(e:h.CodeRec (.ref c) qual):ObjOk P w H h c (CodO c qual) :=
 ⟨e,(let ⟨_,oc,_,_,q,e,_⟩:=e;by cases q;exact⟨oc,e⟩),λ_ _ ⟨d,oc,vs,t,q,e,r⟩ k=>by cases q;exact⟨c,oc,vs,t,rfl,k _ e,r⟩⟩
structure CaD(P:Program)(w:World)(K:uc)(mg:Str->Option aA)(base:Heap)(CX:CXT)(k:Nat)(x:Str)(ps:lS)(dvs:List V)(sp:Sp):Prop where
 ex:∃f fd,FnOk P w K mg base CX k f fd ps sp/\Binds K fd ps []/\(∃ds,Binds K fd ps ds/\Vals dvs ds)/\uY K (.ref f)=tU/\mg x=sO (.ref f)
def Itv(K:uc)(a:aO)(n:Nat):It :=
 ⟨λi H=>i < n/\∃xs x,SqL K H a xs/\xs[n-1-i]?=sO x,λi H x H'=>H'=H/\∀xs,SqL K H a xs->xs[n-1-i]?=sO x,λi _=>n<=i⟩
theorem Jf{K:uc}(a it:aO)(n:Nat):Turn P w K tg (Itv K a n) [it] it (λi h=>i<=n/\h.IsRevIter it a ((n:Int)-1-(i:Nat))) where
 mem:=ba
 obj:=λi h st b hb=>by
  have e:b=it:=bh
  subst e;obtain⟨_,o,e,c,d⟩:=st;exact⟨o,e,λv z=>by rw[d]at z;cases z⟩
 keep:=λi h h' st k=>⟨st.1,st.2.at λo e=>k it ba o e⟩
 item:=by
  intro X hP hw hK hc i pins s σ H E I hf st hg;subst hP hw hK;obtain⟨hi,xs,x,hq,hx⟩:=hg;obtain⟨its,rv,p,hz⟩:=I.list hq;obtain⟨u,hu,ru⟩:=rv.get hx;obtain⟨f0,f1,f2,f3,f4,f5⟩:=hf it ba;obtain⟨_,st2⟩:=st;have e1:(n:Int)-1-(i:Nat)=((n-1-i:Nat):Int):=b8
  rw[e1]at st2;refine wpAny_pyNext_rev_item st2 p.isList (x:=u) (by simpa using hu) λh' st' sb=>?_;have I1:Inv X pins σ H { s with heap:=h' }:=I.turned (t':=s.toks) (λb o hb e=>(sb.2 b hb).trans e) f0 f1 f3 f4 f5;obtain⟨o,e,c,d⟩:=id st';refine⟨u,rfl,ZU (s:={ s with heap:=h' }) e c d b9 ⟨x,H,I1,ru,⟨rfl,λys hy=>by rw[I.list_inj hy hq];exact hx⟩,⟨hi,?_⟩,λb hb=>(hf b hb).1⟩⟩;have e2:(n:Int)-1-((i+1:Nat):Int)=((n-1-i:Nat):Int)-1:=b8
  rw[e2];exact st'
 done:=by
  intro X hP hw hK hc i pins s σ H E I hf st hg;subst hP hw hK;obtain⟨f0,f1,f2,f3,f4,f5⟩:=hf it ba;obtain⟨h1,st2⟩:=st;have h2:n<=i:=hg;have e1:(n:Int)-1-(i:Nat)=-1:=b8
  rw[e1]at st2;exact wpAny_pyNext_rev_end (I.ok.hd hc) st2 λh' eb=>⟨rfl,I.turned (t':=s.toks) (λb o hb e=>eb b o hb e) f0 f1 f3 f4 f5⟩
 self:=λ_ _ _ _ _ st h=>wpAny_pyIter_revIter st.2 h
def iRev(K:uc)(ta:TA):TI:=λσ H R=>ta σ H λvs H1=>∃a xs,vs=[.ref a]/\SqL K H1 a xs/\R (Itv K a xs.length) H1
theorem zc4{a:Expr}{ta:TA}{p:Pos}(hg:Gl X "reversed")(hm:X.mg "reversed"=nO)(ha:PA X [a] ta)(hs:%[starEach [a] X.env=[(fO,eval a X.env)]|1]):PI X tg (.Call (.Name "reversed" p) [a] [] pos) (iRev X.K ta):=by
 intro pins s σ H R I h;refine Call_ (xk I hg hm boot_reversed (Ua (thn (ha pos pins s σ H _ I h) λus s1 h_=>?_) hs rfl));obtain⟨vs,H1,I1,r1,q1⟩:=h_;obtain⟨l,xs,e,hq,q⟩:=q1;subst e;obtain⟨u,rfl,rx⟩:=wA r1;cases rx;obtain⟨its,rv,pl,hz⟩:=I1.list hq;have hl:=rv.length;refine call_reversed_list pl.isList ?_;have hr:(s1.heap.push (revObj l ((its.toArray.size:Int)-1))).IsRevIter s1.heap.objs.size l ((its.toArray.size:Int)-1):=⟨_,ux _ rfl,rfl,rfl⟩;refine wpAny_pyIter_revIter (s:={ s1 with heap:=s1.heap.push (revObj l ((its.toArray.size:Int)-1)) }) hr ?_;refine⟨s1.heap.objs.size,[s1.heap.objs.size],_,_,H1,rfl,I1.kept (t':=s1.toks) λb o e=>ue _ e,Jf l _ xs.length,⟨uS _,?_⟩,λb hb=>?_,q⟩
 .have e:(xs.length:Int)-1-((0:Nat):Int)=(its.toArray.size:Int)-1:=by simp[hl]
  rw[e];exact hr
 have e:b=s1.heap.objs.size:=bh
 subst e;exact I1.fpOk (uk _) (I1.hok.fresh (uk _))
theorem Xh{a:Expr}{t:TA}{p:Pos}(hg:Gl X "reversed")(hm:X.mg "reversed"=nO)(ha:jA X [a] t)(h:%[zA a=fO|1]):jI X tg (.Call (.Name "reversed" p) [a] [] pos) (iRev X.K t):=⟨zc4 hg hm ha.out (zH h)⟩
theorem Ze{K:uc}{tb:TS}(Pv:Nat->St->Hp->Prop)(h0:Pv 0 σ H)(hl:∀i σ H,i<=xs.length->Pv i σ H->SqL K H a xs)
  (hs:∀i x σ H,xs.reverse[i]?=sO x->Pv i σ H->g x σ H λσ2 H2=>tb { D with nx:=Pv (i+1),ct:=Pv (i+1),bk:=D.nx } σ2 H2) (hd:∀σ H,Pv xs.length σ H->D.nx σ H) :
  ∃W:Nat->Nat->St->Hp->Prop,(∃m,W 0 m σ H)/\∀i m σ H,W i m σ H ->
   ((Itv K a xs.length).stop i H/\D.nx σ H)\/((Itv K a xs.length).go i H/\∃N:St->Hp->Prop,(∀σ' H',N σ' H'->∃m',m' < m/\W (i+1) m' σ' H')/\∀x H',(Itv K a xs.length).yld i H x H'->g x σ H' λσ2 H2=>tb { D with nx:=N,ct:=N,bk:=D.nx } σ2 H2):=by
 refine⟨λi m σ H=>m=xs.length-i/\i<=xs.length/\Pv i σ H,⟨xs.length,ba,uS _,h0⟩,?_⟩;rintro i m σ H ⟨rfl,hi,p⟩;have q:=hl i σ H hi p;by_cases hlt:i < xs.length
 .refine .inr ⟨⟨hlt,xs,xs[xs.length-1-i],q,by rw[uj]⟩,Pv (i+1),λσ' H' p'=>⟨xs.length-(i+1),b8,rfl,hlt,p'⟩,λx H' y=>?_⟩
  obtain⟨e,y⟩:=y;subst e;refine hs i x σ _ ?_ p;rw[List.getElem?_reverse hlt];exact y xs q
 .have e:i=xs.length:=b8
  subst e;exact .inl ⟨uk _,hd σ H p⟩
section
variable{Q:VK}
theorem xJ{K:uc}(Pv:Nat->St->List V->Hp->Prop)(h0:Pv 0 σ [] H)(hl:∀i τ ys H,i<=xs.length->Pv i τ ys H->SqT K H a xs)
  (hs:∀i x τ ys H,xs[i]?=sO x->Pv i τ ys H->g x τ H λτ2 H2=>tt τ2 H2 λb H3=>if b=tU then te τ2 H3 λy H4=>ys.length < sizeLine/\Pv (i+1) τ2 (ys++[y]) H4 else Pv (i+1) τ2 ys H3)
  (hd:∀τ ys H,Pv xs.length τ ys H->∀p,H p=nO->Q (.ref p) (upd H p (.lst ys))):∃W,(∃m,W 0 m σ [] H)/\lcBy (Itt K a) g tt te Q W:=by
 refine⟨λi m τ ys H=>m=xs.length-i/\i<=xs.length/\Pv i τ ys H,⟨xs.length,ba,uS _,h0⟩,?_⟩;rintro i m τ ys H ⟨rfl,hi,p⟩;have q:=hl i τ ys H hi p;by_cases hlt:i < xs.length
 .refine .inr ⟨⟨xs,xs[i],q,by simp[hlt]⟩,Pv (i+1),λτ' ys' H' p'=>⟨xs.length-(i+1),b8,rfl,hlt,p'⟩,λx H' y=>?_⟩
  obtain⟨e,y⟩:=y;subst e;exact hs i x τ ys _ (y xs q) p
 .have e:i=xs.length:=b8
  subst e;exact .inl ⟨⟨xs,q,uk _⟩,hd τ ys H p⟩
end
theorem old{q:aO}{u:HO}(hp:H p=nO)(h:H q=sO u):upd H p o q=sO u:=by rw[zo (zk h hp)];exact h
theorem Same.new(s:Same H H1)(hp:H1 p=nO):Same H (upd H1 p o):=λb u q=>old hp (s b u q)
theorem Same.put(s:Same H H1)(hp:H p=nO):Same H (upd H1 p o):=λb u q=>by rw[zo (zk q hp)];exact s b u q
theorem xK(K:uc)(h:%[X.K=K|1]):jIx X (rIxT K):=h ▸ V3
theorem zT(K:uc)(h:%[X.K=K|1]):jIx X (rIxL K):=h ▸ X2
theorem wG(K:uc)(h:%[X.K=K|1]):jSl X (rSlL K):=h ▸ zap
theorem Zf(K:uc)(h:%[X.K=K|1]):jOp X (compareOp .In) (rIn K fO):=h ▸ W5
theorem W7(K:uc)(h:%[X.K=K|1]):jOp X (compareOp .NotIn) (rIn K tU):=h ▸ Zc
theorem zW(K:uc){k:Nat}(hc:X.calm=tU)(g:jGs X es gs)(h:%[X.K=K|1])(hn:%[(assignEach es X.env).length=n|1])(hst:%[(assignEach es X.env).findIdx? (·.1)=nO|1]):jG X (.Tuple es k pos) (gTup K n gs):=h ▸ zcT hc g hn hst
theorem zB(K:uc)(h:%[X.K=K|1]):jCa X (.builtin "len") (λxs H Q=>∃p ys,xs=[.ref p]/\(SqL K H p ys\/SqT K H p ys)/\Q (.int ys.length) H):=h ▸ Xe
theorem zR(K:uc)(h:%[X.K=K|1]):jCa X (.builtin "isinstance") (λxs H Q=>∃x t T b,xs=[x,.ty T]/\TyOf K H x t/\PySem.W.kitOne K t (.type T)=sO b/\Q (.bl b) H):=h ▸ W6
theorem zD(K:uc)(h:%[X.K=K|1]):jCa X (.type "tuple") (λxs H Q=>∃p ys,xs=[.ref p]/\((SqL K H p ys/\∀l,H l=nO->Q (.ref l) (upd H l (.tup ys)))\/(SqT K H p ys/\Q (.ref p) H))):=h ▸ Z8
theorem xU(K:uc)(h:%[X.K=K|1]):jCa X (.type "list") (λxs H Q=>∃p ys,xs=[.ref p]/\(SqL K H p ys\/SqT K H p ys)/\∀l,H l=nO->Q (.ref l) (upd H l (.lst ys))):=h ▸ Xf
theorem zO(K:uc){f:Str}(he:jE X e ta)(h:%[X.K=K|1])(hb:%[attributeBase e f X.env (eval e X.env)=eval e X.env|1]):jE X (.Attribute e f pos) (tFld K ta f):=h ▸ zc2 he hb
def CelO(c:aO)(v:V):HO:=.ext λh=>∃u,RelV v u/\h.IsCell c (sO u)
def Cel(H:Hp)(c:aO)(v:V):Prop:=∃o,H c=sO (.frz o (CelO c v))
theorem Jg{o:Obj}(e:h.get? c=sO o)(d:o.data=.cell (sO u))(r:RelV v u):ObjOk P w H h c (.frz o (CelO c v)) :=
 ⟨e,⟨u,r,o,e,d⟩,⟨o,e⟩,λ_ _ ⟨u,r,o,e,d⟩ k=>⟨u,r,o,k _ e,d⟩⟩
def yh(H:Hp)(as:List aO):Hp:=λb=>if b∈as then nO else H b
def xB(H' H:Hp)(as:List aO):Hp:=λb=>if b∈as then H b else H' b
theorem wI(h:b∈as):yh H as b=nO:=iP h
theorem ya(h:b∉as):yh H as b=H b:=iN h
theorem wJ(h:b∈as):xB H' H as b=H b:=iP h
theorem yQ(h:b∉as):xB H' H as b=H' b:=iN h
abbrev lamC(mg:Str->Option aA)(qual:Str)(params:Arguments)(body:Expr)(scope:Scope)(cl:List (Str×aO))(c:aO)(ctv:aA):FuncData:=PySem.W.kla_fn "<lambda>" qual params body scope cl ((mg "__name__").getD .none) (.ref c) ctv
def Jh(mg:Str->Option aA)(T:aO)(qual:Str)(params:Arguments)(body:Expr)(scope:Scope)(pos:Pos)(cl:List (Str×aO)):TE:=λ_ H Q=>∃ps,H T=sO (.tbl ps)/\TriplesOk ps.toList /\
 ((codeAmong pos ps.toList=nO/\∀(c f:aO)(ctv:aA),H c=nO->H f=nO->f≠c->Q (.ref f) (upd (upd (upd H T (.tbl (ps ++ #[rawInt pos.line,rawInt pos.col,.ref c]))) c (CodO c qual)) f (FunO f (lamC mg qual params body scope cl c ctv)))) \/
   (∃c,codeAmong pos ps.toList=sO (.ref c)/\∀(f:aO)(ctv:aA),H f=nO->Q (.ref f) (upd H f (FunO f (lamC mg qual params body scope cl c ctv)))))
theorem zaw{cl:List (Str×aO)}{body:Expr}(hB:BMn X.mg X.base)(hcode:X.env.code=.ref c)(hc:u6 X.K c T=tU)(hq:X.env.qual ++ "<lambda>"=qual)
  (hdef:defaultsOf params X.env=([],[])) (hcl:closureFor scope X.env=pure cl):PE X (.Lambda params body scope pos) (Jh X.mg T qual params body scope pos cl):=by
 intro pins s σ H Q I h;refine PySem.W.kla_eval hdef ?_;rw[hq];obtain⟨ps,hT,tr,h⟩:=h;have gT:s.heap.get? T=sO { cls:=.none,data:=.fields ps }:=I.hok T _ hT;have hg:=I.mod.glob.keeps I.bk;obtain⟨bAt,hgP⟩:=(hB.keeps I.bk).at hg gT;rcases h with⟨nf,h⟩|⟨c',hit,h⟩
 .refine PySem.W.kla_makeFunction (mg:=X.mg) hcl I.ok.glob hg hcode (PySem.W.codeHd_of_K I.kIn hc) gT tr nf hgP bAt λc' ctv h' tk ext ge lt rec tab=>?_
  have hc0:H c'=nO:=I.hok.fresh ge;have hf0:H h'.objs.size=nO:=I.hok.fresh (uF ge (Nat.le_of_lt lt));have nfc:h'.objs.size≠c':=Nat.ne_of_gt lt;have ncT:T≠c':=zk hT hc0;have nfT:T≠h'.objs.size:=zk hT hf0;have elsewhere:∀b,b≠T->b≠c'->b≠h'.objs.size->upd (upd (upd H T (.tbl (ps ++ #[rawInt pos.line,rawInt pos.col,.ref c']))) c' (CodO c' qual)) h'.objs.size (FunO h'.objs.size (lamC X.mg qual params body scope cl c' ctv)) b=H b:=λb h1 h2 h3=>by rw[zo h3,zo h2,zo h1]
  have hU:∀b u,H b=sO u->b≠T->upd (upd (upd H T (.tbl (ps ++ #[rawInt pos.line,rawInt pos.col,.ref c']))) c' (CodO c' qual)) h'.objs.size (FunO h'.objs.size (lamC X.mg qual params body scope cl c' ctv)) b=sO u:=λb u e n=>by
   rw[elsewhere b n (zk e hc0) (zk e hf0)];exact e
  have hTb:upd (upd (upd H T (.tbl (ps ++ #[rawInt pos.line,rawInt pos.col,.ref c']))) c' (CodO c' qual)) h'.objs.size (FunO h'.objs.size (lamC X.mg qual params body scope cl c' ctv)) T=sO (.tbl (ps ++ #[rawInt pos.line,rawInt pos.col,.ref c'])):=by
   rw[zo nfT,zo ncT];exact uX9
  have keep:∀b o,b≠T->s.heap.get? b=sO o->(h'.push (PySem.W.kla_obj "<lambda>" qual params body scope cl ((X.mg "__name__").getD .none) c' ctv)).get? b=sO o:=λb o n e=>ue _ (ext b o n e);have neT:∀b,H b=nO->b≠T:=λb e n=>by rw[n,hT]at e;cases e
  refine⟨.ref h'.objs.size,_,I.un (t':=tk) (H':=upd (upd (upd H T (.tbl (ps ++ #[rawInt pos.line,rawInt pos.col,.ref c']))) c' (CodO c' qual)) h'.objs.size (FunO h'.objs.size (lamC X.mg qual params body scope cl c' ctv))) ⟨λb o e n _ _=>keep b o (neT b n) e,λb o e n _ _=>⟨o.slots,keep b o (neT b n) e⟩,λb o e n _=>?_,λb o e _=>?_,λb xs e=>hU b _ e (λz=>by rw[z,hT]at e;cases e),λb o xs e=>hU b _ e (λz=>by rw[z,hT]at e;cases e),λb qs e=>?_⟩ ?_,rfl,h c' _ ctv hc0 hf0 nfc⟩
  .have l:=uD e
   rw[elsewhere b (neT b n) (uZ (uJ l ge)) (uZ (Nat.lt_trans (uJ l ge) lt))];exact n
  .by_cases z:b=T
   .rw[z];exact⟨_,ue _ tab⟩
   .exact⟨o,keep b o z e⟩
  .by_cases z:b=T
   .subst z
    rw[hT]at e;cases e;exact⟨_,hTb⟩
   .exact⟨#[],by rw[hU b _ e z];simp⟩
  .intro b u e
   by_cases z1:b=h'.objs.size
   .subst z1
    rw[uX9]at e;cases e;exact Je (ux _ rfl)
   rw[zo z1]at e;by_cases z2:b=c'
   .subst z2
    rw[uX9]at e;cases e;obtain⟨d,oc,vs,t,q,e,r⟩:=rec;exact zc3 ⟨d,oc,vs,t,q,ue _ e,r⟩
   rw[zo z2]at e;by_cases z3:b=T
   .subst z3
    rw[uX9]at e;cases e;exact ue _ tab
   rw[zo z3]at e;refine(I.hok b u e).stay (λd v hd q=>keep d v ?_ q) (λd q=>hU d _ q λz=>by rw[z,hT]at q;cases q) λd xs q=>hU d _ q λz=>by rw[z,hT]at q;cases q
   rcases hd with rfl|hd
   .exact z3
   .intro z
    rw[z,hT]at hd;cases hd
 .refine PySem.W.kla_makeFunctionHit (mg:=X.mg) hcl I.ok.glob hg hcode (PySem.W.codeHd_of_K I.kIn hc) gT tr hit bAt λctv h' tk kp sz=>?_
  have hf0:H h'.objs.size=nO:=I.hok.fresh sz;exact⟨.ref h'.objs.size,_,I.laid (t':=tk) (o:=FunO h'.objs.size (lamC X.mg qual params body scope cl c' ctv)) (λb u e=>ue _ (kp b u e)) sz (Je (ux _ rfl)),rfl,h _ ctv hf0⟩
theorem xu{cl:List (Str×aO)}{body:Expr}(hB:BMn X.mg X.base)(hcode:X.env.code=.ref c)(hc:u6 X.K c T=tU)(hq:X.env.qual ++ "<lambda>"=qual)
  (hdef:%[defaultsOf params X.env=([],[])|1]) (hcl:%[closureFor scope X.env=pure cl|8]):jE X (.Lambda params body scope pos) (Jh X.mg T qual params body scope pos cl):=⟨zaw hB hcode hc hq hdef hcl⟩
structure LamScope(N ps fs:lS)(sc:Scope):Prop where
 kind:sc.kind=.function
 co:sc.isCoroutine=fO
 gen:sc.isGenerator=fO
 nd:N.Nodup
 cat:N=ps++fs
 par:∀x∈ps,sc.names.lookup x=sO .local
 fre:∀x∈fs,sc.names.lookup x=sO .free
 nocell:∀y∈sc.names,y.2≠.cell
 has:∀y∈sc.names,y.2=.free->y.1∈fs
theorem LamScope.ok{fs:lS}(k:%[sc.kind=.function|1])(o:%[sc.isCoroutine=fO|1])(g:%[sc.isGenerator=fO|1])(a:%[N.Nodup|5])(c:%[N=ps++fs|1])(p:%[∀x∈ps,sc.names.lookup x=sO .local|5])(q:%[∀x∈fs,sc.names.lookup x=sO .free|5])(r:%[∀y∈sc.names,y.2≠.cell|5])(h:%[∀y∈sc.names,y.2=.free → y.1∈fs|5]):LamScope N ps fs sc:=⟨k,o,g,a,c,p,q,r,h⟩
structure Clo(H:Hp)(cl:List (Str×aO))(fs:lS)(fvs:List V):Prop where
 len:fvs.length=fs.length
 all:∀p∈cl,∃v,Cel H p.2 v
 get:∀(i:Nat)(x:Str)(v:V),fs[i]?=sO x->fvs[i]?=sO v->∃a,cl.lookup x=sO a/\Cel H a v
 has:∀x∈fs,∃a,cl.lookup x=sO a
 inj:∀x y a,cl.lookup x=sO a->cl.lookup y=sO a->x=y
def X8(CX:CXT)(P:Program)(w:World)(K:uc)(mg:Str->Option aA)(base:Heap)(N:lS)(qual:Str)(scope:Scope)(f:aO)(cd:aA)(cl:List (Str×aO))(A:Around)(outer:List Env)(s:Shared)(H:Hp)(E:XK):Cx where
 prog:=P
 w:=w
 K:=K
 mg:=mg
 base:=base
 A:=A.deeper (tH qual scope s.heap.objs.size f cd cl)
 N:=N
 s₀:=s
 H₀:=yh H (cl.map (·.2))
 env:=tH qual scope s.heap.objs.size f cd cl
 outer:=outer
 stack:=tH qual scope s.heap.objs.size f cd cl::outer
 ex:=[]
 calm:=tU
 fn:=λ_=>fO
 pn:=[]
 xe:=λe s'=>wpAny (model P w) (A.deeper (tH qual scope s.heap.objs.size f cd cl)) (leaving (tH qual scope s.heap.objs.size f cd cl) e) (λ_ s''=>CX outer H s E e s'') (λe' s''=>CX outer H s E e' s'') s'
theorem vN{x:Str}{v:aA}:∀{P:lS}{vs:List aA}{i:Nat},P.Nodup->P[i]?=sO x->vs[i]?=sO v->(P.zip vs).reverse.lookup x=sO v
 |[],_,_,_,h,_=>bg
 |_::_,[],_,_,_,h=>bg
 |p::P,w::vs,0,nd,h1,h2=>by
  simp at h1 h2;subst h1;subst h2
  have hn:∀y∈(P.zip vs).reverse,y.1≠p:=λy hy z=>(uV.mp nd).1 (z ▸ (UC (List.mem_reverse.mp hy)).1);rw[List.zip_cons_cons,tj,List.lookup_append]
  have:(P.zip vs).reverse.lookup p=nO:=List.lookup_eq_none_iff.mpr λy hy=>by simpa using λz=>hn y hy z.symm
  rw[this];simp
 |p::P,w::vs,i+1,nd,h1,h2=>by
  rw[List.zip_cons_cons,tj,List.lookup_append,vN (i:=i) (uV.mp nd).2 bf (by simpa using h2)]
  rfl
theorem zL(hc:∀a∈as,∃v,Cel H a v){u:HO}(e:H b=sO u)(n:∀o c v,u≠.frz o (CelO c v)):yh H as b=sO u:=by
 rw[ya]
 .exact e
 .intro z
  obtain⟨v,o,q⟩:=hc b z;rw[e]at q;exact n _ _ _ (u4.inj q)
theorem X9(hc:∀a∈as,∃v,Cel H a v)(x:HOk P w H h):HOk P w (yh H as) h:=λb u e=>by
 have nb:b∉as:=λz=>by rw[wI z]at e;cases e
 rw[ya nb]at e;exact(x b u e).stay (λ_ _ _ q=>q) (λd q=>zL hc q (by intro _ _ _ z;cases z)) λd xs q=>zL hc q (by intro _ _ _ z;cases z)
theorem zax(hn:∀a∈as,H' a=nO)(hk:∀a∈as,∀u,H a=sO u->∃v o,u=.frz o (CelO a v)/\h.get? a=sO o/\h'.get? a=sO o)(x:HOk P w H h)(x':HOk P w H' h'):HOk P w (xB H' H as) h':=λb u e=>by
 have up:∀d z,H' d=sO z->xB H' H as d=sO z:=λd z q=>by
  rw[yQ]
  .exact q
  .intro y;rw[hn d y]at q;cases q
 by_cases nb:b∈as
 .rw[wJ nb]at e
  obtain⟨v,o,rfl,e1,e2⟩:=hk b nb u e;obtain⟨_,⟨u',r,o',e3,d⟩,_⟩:=x b _ e;rw[e1]at e3;cases e3;exact Jg e2 d r
 .rw[yQ nb]at e
  exact(x' b u e).stay (λ_ _ _ q=>q) (λd q=>up d _ q) λd xs q=>up d _ q
theorem zay{fs:List aO}(hc:∀a∈as,∃v,Cel H a v)(u:Un fs [] (yh H as) H' h h')(hn:∀a∈as,H' a=nO):Un fs [] H (xB H' H as) h h':=by
 have no:∀b,H b=nO->b∉as:=λb n z=>by
  obtain⟨v,o,q⟩:=hc b z;rw[n]at q;cases q
 have mk:∀b,H b=nO->yh H as b=nO:=λb n=>by rw[ya (no b n)];exact n
 have up:∀d z,H' d=sO z->xB H' H as d=sO z:=λd z q=>by
  rw[yQ]
  .exact q
  .intro y;rw[hn d y]at q;cases q
 refine⟨λb o e n hb hx=>u.keep b o e (mk b n) hb hx,λb o e n hb hx=>u.slot b o e (mk b n) hb hx,λb o e n hx=>?_,u.there,λb xs e=>up _ _ (u.tups b xs (zL hc e (by intro _ _ _ z;cases z))),λb o x e=>?_,λb ps e=>?_⟩
 .rw[yQ (no b n)]
  exact u.free b o e (mk b n) hx
 .by_cases z:b∈as
  .rw[wJ z];exact e
  .rw[yQ z]
   exact u.frzs b o x (by rw[ya z];exact e)
 .obtain⟨more,q⟩:=u.tbls b ps (zL hc e (by intro _ _ _ z;cases z))
  exact⟨more,up _ _ q⟩
theorem Zg{K:uc}{k:Nat}{body:Expr}{cl:List (Str×aO)}
  {fs:lS} (S:LamScope N ps fs scope) (len:∀vs H Q E,sp vs H Q E->vs.length=ps.length)
  (hbody:∀(A:Around)(outer:List Env)(s:Shared)(H:Hp)(vs:List V)(Q:VK)(E:XK),Room k (A.deeper (tH qual scope s.heap.objs.size f (.ref c) cl))->sp vs H Q E ->
   H f=sO (FunO f (PySem.W.kla_fn name qual params body scope cl pm (.ref c) ct))/\H c=sO (CodO c qual)/\∃fvs,Clo H cl fs fvs /\
   ∃t,jE (X8 CX P w K mg base N qual scope f (.ref c) cl A outer s H E) body t/\t (vs.map sO++fvs.map sO) (yh H (cl.map (·.2))) λv H'=>(∀a∈cl.map (·.2),H' a=nO)->Q v (xB H' H (cl.map (·.2)))) :
  FnOk P w K mg base CX (k+1) f (PySem.W.kla_fn name qual params body scope cl pm (.ref c) ct) ps sp:=by
 refine⟨len,λA outer s H args us vs Q E hr e0 hb r hsp=>?_⟩;have hl:=len _ _ _ _ hsp;have lim:s.heap.NoLimit:=e0.mod.nolimit.keeps λb o e=>(e0.bs b o e).1;obtain⟨hf,hc,fvs,C,t,ht,hq⟩:=hbody A outer s H vs Q E (hr.deeper _) hsp;have of:=(e0.hok f _ hf).1;have oc:=(e0.hok c _ hc).1;have hcA:∀a∈cl.map (·.2),∃v,Cel H a v:=λa ha=>by
  obtain⟨p,hp,rfl⟩:=uz.mp ha;exact C.all p hp
 have hcl:∀x a,cl.lookup x=sO a->a∈cl.map (·.2):=λx a e=>uz.mpr ⟨(x,a),uW e,rfl⟩;refine PySem.W.kla_callFunE hr.depth of rfl S.co S.gen rfl oc (hb _ _ _ _ ?_);refine wpAny_newFunctionEnv S.nocell (λy hy=>S.par _ (UC hy).1) (λh₁ hns hsb=>?_) S.kind;have hk₁:∀b o,s.heap.get? b=sO o->h₁.get? b=sO o:=λb o e=>hsb.extBut b o (uZ (uD e)) (ue _ e);refine⟨lim.keeps hk₁,PySem.W.kla_codeExpr ?_⟩;have isc:∀x a,cl.lookup x=sO a->∃v,Cel H a v:=λx a e=>hcA a (hcl x a e);have cget:∀a v,Cel H a v->∃u,RelV v u/\s.heap.IsCell a (sO u):=λa v ⟨o,q⟩=>(e0.hok a _ q).2.1;have I:Inv (X8 CX P w K mg base N qual scope f (.ref c) cl A outer s H E) [] (vs.map sO++fvs.map sO) (yh H (cl.map (·.2))) { s with heap:=h₁,toks:=s.toks+(ps.zip us).length }:=by
  have noA:∀b:aO,b∉(X8 CX P w K mg base N qual scope f (.ref c) cl A outer s H E).ex:=λb z=>absurd (show b∈([]:List aO)from z) ba;have mnone:∀b,H b=nO->yh H (cl.map (·.2)) b=nO:=λb e=>by
   unfold yh;split
   .rfl
   .exact e
  refine⟨⟨e0.mod,S.kind,rfl,rfl,uk _,λy z a h1 h2=>C.inj y z a h1 h2,λy hy=>?_,λy a z=>absurd (show fO=tU from z) b9,λ_=>hr.hd,Around.frames_deeper e0.frames,.inr ⟨rfl,rfl⟩,λb z=>absurd z (noA b),λb o e=>⟨(e0.bs b o e).1,mnone _ (e0.bs b o e).2⟩,e0.bsz,λb _ _=>noA b,λb z=>absurd z (noA b),e0.funs,λb hb=>mnone _ (e0.frf b hb)⟩,
   rfl,e0.bare,Un.kept hk₁,⟨_,hns,λi y v h1 h2 h3=>?_⟩,λy a h=>?_,mnone _ (e0.hok.fresh (uk _)),λy a h=>wI (hcl y a h),λp hp=>absurd (show p∈([]:List (aO×Obj))from hp) ba,X9 hcA (e0.hok.kept hk₁),?_⟩
  .have hy:scope.names.lookup y=sO .cell\/scope.names.lookup y=sO .free:=hy
   rcases hy with hy|hy
   .exact absurd rfl (S.nocell _ (uW hy))
   .exact C.has y (S.has _ (uW hy) rfl)
  .have h1:(ps++fs)[i]?=sO y:=by rw[<- S.cat];exact h1
   have ndP:ps.Nodup:=by have:=S.nd;rw[S.cat]at this;exact(List.nodup_append.mp this).1
   by_cases hi:i < vs.length
   .rw[Ur (by simpa using hi),uh]at h2
    rw[Ur b8]at h1;cases e:vs[i]? with
    |none=>rw[e]at h2;cases h2
    |some a =>
     rw[e]at h2;cases h2;obtain⟨u,hu,rv⟩:=r.get e;exact⟨u,rv,.inl ⟨S.par y (uu h1),vN ndP h1 hu⟩⟩
   .rw[UA (by simpa using hi),uh]at h2
    rw[UA b8]at h1;rw[ub,hl]at h2;cases e:fvs[i-ps.length]? with
    |none=>rw[e]at h2;cases h2
    |some a =>
     rw[e]at h2;cases h2;obtain⟨ca,g1,g2⟩:=C.get _ _ _ h1 e;obtain⟨u,rv,q⟩:=cget _ _ g2;exact⟨u,rv,.inr ⟨.inr (S.fre y (uu h1)),ca,g1,q.keeps hk₁⟩⟩
  .obtain⟨v,q⟩:=isc y a h
   obtain⟨u,_,q⟩:=cget _ _ q;exact⟨_,q.keeps hk₁⟩
  .show _=N.length
   rw[S.cat,ud,ud,ub,ub,C.len,hl]
 refine wpAny_mono (ht.out [] _ _ _ _ I hq) (λu s' hs=>?_) λe s' hs=>hs;obtain⟨v,H',J,rv,q⟩:=hs;have hn:∀a∈cl.map (·.2),H' a=nO:=λa ha=>by
  obtain⟨v,o,q⟩:=hcA a ha;obtain⟨e1,_⟩:=e0.hok a _ q;exact J.base.free a o e1 (wI ha) (by exactλz=>absurd (show a∈([]:List aO)from z) ba)
 refine⟨v,_,J.os,J.bare,zay hcA J.base hn,zax hn (λa ha u e=>?_) e0.hok J.hok,rv,q hn⟩;obtain⟨v',o,q'⟩:=hcA a ha;rw[q']at e;cases e;obtain⟨e1,_⟩:=e0.hok a _ q';refine⟨v',o,rfl,e1,J.base.keep a o e1 (wI ha) (λz=>?_) (λz=>absurd (show a∈([]:List aO)from z) ba)⟩;rw[e0.frf a z]at q';cases q'
structure EndsR where
 nx:St->Hp->Prop
 rt:St->V->Hp->Prop
abbrev TR:=EndsR->St->Hp->Prop
def SPR(X:Cx)(D:EndsR)(f:Flow)(s':Shared):Prop :=
 match f with
 |.next=>∃σ' H',Inv X [] σ' H' s'/\D.nx σ' H'
 |.ret u=>∃v σ' H',Inv X [] σ' H' s'/\RelV v u/\D.rt σ' v H'
 |_=>False
structure jR(X:Cx)(st:List Stmt)(t:TR):Prop where
 out:∀(s:Shared)(σ:St)(H:Hp)(D:EndsR),Inv X [] σ H s->t D σ H->wpAny (model X.prog X.w) X.A (execs st X.env) (SPR X D) X.xe s
section
variable{rest A:List Stmt}{t:TS}{u tA:TR}{c:Expr}{tc:TT}
def xC(t:TS)(u:TR):TR:=λD σ H=>t { nx:=u D,rt:=λ_ _=>False } σ H
theorem z6(h1:jS X st t)(h2:jR X rest u):jR X (st::rest) (xC t u):=⟨by
 intro s σ H D I h;refine wpAny_execs_cons (thn (h1.out [] s σ H { nx:=u D,rt:=λ_ _=>False } I h) λf s1 q=>?_);cases f with
 |next =>
  obtain⟨σ',H',I',q⟩:=q;exact h2.out s1 σ' H' D I' q
 |ret v =>
  obtain⟨_,_,_,_,_,q⟩:=q;exact False.elim q
 |brk =>
  obtain⟨_,_,_,q⟩:=q;exact False.elim q
 |cont =>
  obtain⟨_,_,_,q⟩:=q;exact False.elim q⟩
theorem xV(he:jE X e te):jR X [.Return (sO e) pos] (λD σ H=>te σ H (D.rt σ)):=⟨by
 intro s σ H D I h;refine wpAny_execs_cons (wpAny_Return_some (thn (he.out [] s σ H _ I h) λv s1 h_=>?_));obtain⟨x,H1,I1,r1,q1⟩:=h_;exact⟨x,σ,H1,I1,r1,q1⟩⟩
def tIfR(tc:TT)(tA u:TR):TR:=λD σ H=>tc σ H λb H1=>if b=tU then tA { D with nx:=u D } σ H1 else u D σ H1
theorem Ji(hc:jT X c tc)(hA:jR X A tA)(hR:jR X rest u):jR X (.If c A [] pos::rest) (tIfR tc tA u):=⟨by
 intro s σ H D I h;refine wpAny_execs_cons (wpAny_If (thn (hc.out [] s σ H _ I h) λb s1 h_=>?_));obtain⟨H1,I1,q1⟩:=h_;cases b with
 |true =>
  rw[iP rfl]at q1;refine thn (hA.out s1 σ H1 { D with nx:=u D } I1 q1) λf s2 q=>?_;cases f with
  |next =>
   obtain⟨σ',H',I',q⟩:=q;exact hR.out s2 σ' H' D I' q
  |ret v=>exact q
  |brk=>exact q
  |cont=>exact q
 |false =>
  rw[iN b9]at q1;exact wpAny_execs_nil (hR.out s1 σ H1 D I1 q1)⟩
end
structure Pub(H H3:Hp)(cvs:List (aO×V)):Prop where
 old:∀b,b∉cvs.map (·.1)->H3 b=H b
 non:∀p∈cvs,H p.1=nO
 cel:∀p∈cvs,Cel H3 p.1 p.2
def CellsAt(X:Cx)(σ:St)(cvs:List (aO×V)):Prop:=∀p∈cvs,∃(i:Nat)(x:Str),X.N[i]?=sO x/\σ[i]?=sO (sO p.2)/\X.env.cells.lookup x=sO p.1/\(X.env.scope.names.lookup x=sO .cell\/X.env.scope.names.lookup x=sO .free)
theorem CellsAt.cell(I:Inv X pins σ H s)(h:CellsAt X σ cvs):∀p∈cvs,∃o u,s.heap.get? p.1=sO o/\o.data=.cell (sO u)/\RelV p.2 u:=λp hp=>by
 obtain⟨i,x,e1,e2,e3,e4⟩:=h p hp;obtain⟨m,_,l⟩:=I.loc;obtain⟨u,r,l⟩:=l i x _ e1 e2 (.inr e4);rcases l with⟨k,_⟩|⟨_,c,q,o,e,d⟩
 .have k:X.env.scope.names.lookup x=sO .local:=k
  rcases e4 with e4|e4<;>rw[e4]at k<;>cases k
 .rw[e3]at q;cases q
  exact⟨o,u,e,d,r⟩
noncomputable def pubH (h:Heap) (H:Hp) (cvs:List (aO×V)):Hp:=λb=>match cvs.find? (λp=>p.1 == b)with
 |some p=>sO (.frz ((h.get? b).getD { cls:=.none,data:=.plain }) (CelO b p.2))
 |none=>H b
theorem Xi(hb:b∈cvs.map (·.1)):∃v,(b,v)∈cvs/\pubH h H cvs b=sO (.frz ((h.get? b).getD { cls:=.none,data:=.plain }) (CelO b v)):=by
 obtain⟨p,hp,rfl⟩:=uz.mp hb;cases e:cvs.find? (λq=>q.1 == p.1)with
 |none=>exact absurd (List.find?_eq_none.mp e p hp) ba
 |some q =>
  have h1:=List.find?_some e;have h2:=List.mem_of_find?_eq_some e;have h3:q.1=p.1:=bf
  refine⟨q.2,by rw[<- h3];exact h2,?_⟩;unfold pubH;rw[e]
theorem xf(hb:b∉cvs.map (·.1)):pubH h H cvs b=H b:=by
 unfold pubH;rw[List.find?_eq_none.mpr λp hp=>by simpa using λz:p.1=b=>hb (uz.mpr ⟨p,hp,z⟩)]
theorem zaz(I:Inv X pins σ H s)(h:CellsAt X σ cvs)(hN:X.N.Nodup){v':V}(h1:(b,v)∈cvs)(h2:(b,v')∈cvs):v=v':=by
 obtain⟨i,x,e1,e2,e3,_⟩:=h _ h1;obtain⟨j,y,g1,g2,g3,_⟩:=h _ h2
 have:=I.ok.inj x y b e3 g3
 subst this
 have:i=j:=(List.getElem?_inj (uf.mp e1).1 hN).mp (e1.trans g1.symm)
 subst this;rw[e2]at g2;cases g2
 rfl
theorem Jj(I:Inv X pins σ H s)(h:CellsAt X σ cvs)(hN:X.N.Nodup):Pub H (pubH s.heap H cvs) cvs :=
 ⟨λb hb=>xf hb,λp hp=>let ⟨_,x,_,_,e3,_⟩:=h p hp;I.freeC x _ e3,λp hp=>by
  obtain⟨v,hv,e⟩:=Xi (h:=s.heap) (H:=H) (uz.mpr ⟨p,hp,rfl⟩)
  have:=zaz I h hN (b:=p.1) (v:=v) (v':=p.2) hv hp
  subst this;exact⟨_,e⟩⟩
theorem Jk(I:Inv X pins σ H s)(h:CellsAt X σ cvs):HOk X.prog X.w (pubH s.heap H cvs) s.heap:=λb u e=>by
 have up:∀d z,H d=sO z->pubH s.heap H cvs d=sO z:=λd z q=>by
  rw[xf]
  .exact q
  .intro y
   obtain⟨p,hp,rfl⟩:=uz.mp y;obtain⟨_,x,_,_,e3,_⟩:=h p hp;rw[I.freeC x _ e3]at q;cases q
 by_cases hb:b∈cvs.map (·.1)
 .obtain⟨v,hv,e'⟩:=Xi (h:=s.heap) (H:=H) hb
  rw[e']at e;cases e;obtain⟨o,u,e1,e2,r⟩:=h.cell I _ hv;have e1:s.heap.get? b=sO o:=e1;rw[e1];exact Jg e1 e2 r
 .rw[xf hb]at e
  exact(I.hok b u e).stay (λ_ _ _ q=>q) (λd q=>up d _ q) λd xs q=>up d _ q
theorem zc5{K:uc}{k:Nat}{dV kV:aA} (lk:K.lookup f=sO ⟨oc,od,.func (Ue name qual params body scope dV kV doc pm an cdv ct),osl⟩) (hcd:UM K cdv qual=tU) (S:FnScope N ps scope)
  (len:∀vs H Q E,sp vs H Q E->vs.length=ps.length)
  (hbody:∀(A:Around)(outer:List Env)(s:Shared)(H:Hp)(vs:List V)(Q:VK)(E:XK),Room k (A.deeper (envOfC qual scope s.heap.objs.size f cdv))->sp vs H Q E->(∀b,s.heap.objs.size<=b->H b=nO) ->
   ∃t,jR (cxOf CX P w K mg base N qual scope f cdv A outer s H E) body t/\t { nx:=λ_ H'=>Q .non H',rt:=λσ v H'=>∃cvs,CellsAt (cxOf CX P w K mg base N qual scope f cdv A outer s H E) σ cvs/\∀H3,Pub H' H3 cvs->Q v H3 } (start N vs) H) :
  FnOk P w K mg base CX (k+1) f (Ue name qual params body scope dV kV doc pm an cdv ct) ps sp:=by
 refine⟨len,λA outer s H args us vs Q E hr e0 hb r hsp=>?_⟩;have hl:=len _ _ _ _ hsp;have KX:K.In s.heap:=e0.mod.kin.keeps λb o e=>(e0.bs b o e).1;have lim:s.heap.NoLimit:=e0.mod.nolimit.keeps λb o e=>(e0.bs b o e).1;have hkind:∀y∈ps.zip us,scope.names.lookup y.1=sO .local\/(scope.names.lookup y.1=sO .cell/\((cellsFrom (s.heap.objs.size+1) scope.names []).lookup y.1).isSome=tU):=λ⟨n,v⟩ hy=>by
  rcases S.par n (UC hy).1 with q|q
  .exact .inl q
  .exact .inr ⟨q,tT _ _ _ (.inl q)⟩
 refine codeAny_call_function hr.depth (KX _ _ lk) rfl S.co S.gen rfl (PySem.W.codeRec_of KX hcd) (hb _ _ _ _ ?_);refine wpAny_newFunctionEnv_cells S.kind hkind λenv he s1 x=>?_;subst he;refine⟨lim.keeps x.toInCall.keep,codeAny_func ?_⟩;obtain⟨t,ht,hq⟩:=hbody A outer s H vs Q E (hr.deeper _) hsp λb hb=>e0.hok.fresh hb;have I:Inv (cxOf CX P w K mg base N qual scope f cdv A outer s H E) [] (start N vs) H s1:=jx S hr.hd e0 hl r x;refine wpAny_mono (ht.out s1 (start N vs) H _ I hq) (λfl s' hs=>?_) λe s' hs=>hs;cases fl with
 |ret u =>
  obtain⟨v,σ',H',J,rv,cvs,hc,q⟩:=hs;have pb:=Jj J hc S.nd;have q:=q _ pb;have ab:∀b,b∈cvs.map (·.1)->s.heap.objs.size<=b:=λb hb=>by
   obtain⟨p,hp,rfl⟩:=uz.mp hb;obtain⟨_,x,_,_,e3,_⟩:=hc p hp;exact J.ok.cab x _ rfl e3
  have no:∀b o,H' b=sO o->b∉cvs.map (·.1):=λb o e hb=>by
   obtain⟨p,hp,rfl⟩:=uz.mp hb;rw[pb.non p hp]at e;cases e
  have un:Un (frs outer) [] H H' s.heap s'.heap:=J.base;refine⟨v,_,J.os,J.bare,⟨un.keep,un.slot,λb o e n hx=>?_,un.there,λb xs e=>?_,λb o xs e=>?_,λb p e=>?_⟩,Jk J hc,rv,q⟩
  .rw[pb.old b λz=>absurd (uJ (uD e) (ab b z)) (Uu _)]
   exact un.free b o e n hx
  .have e':=un.tups b xs e
   rw[pb.old b (no b _ e')];exact e'
  .have e':=un.frzs b o xs e
   rw[pb.old b (no b _ e')];exact e'
  .obtain⟨more,e'⟩:=un.tbls b p e
   exact⟨more,by rw[pb.old b (no b _ e')];exact e'⟩
 |next =>
  obtain⟨σ',H',J,q⟩:=hs;exact⟨.non,H',J.os,J.bare,J.base,J.hok,rfl,q⟩
 |brk=>exact False.elim hs
 |cont=>exact False.elim hs
def zc6(X:Cx)(sp:Sp)(E:XK)(t:TA):TE:=λσ H Q=>t σ H λvs H1=>∃cvs,CellsAt X σ cvs/\∀H3,Pub H1 H3 cvs->sp vs H3 (λr H4=>(∀p∈cvs,Cel H4 p.1 p.2)->Q r (yh H4 (cvs.map (·.1)))) E
theorem Jl{k:Nat}{E:XK}{p:Pos}{t:TA}(F:Ca X.prog X.w X.K X.mg X.base CX0 k x ps sp)(hr:Room k X.A)(hN:X.N.Nodup)(hg:Gl X x)(hfn:∀x,X.fn x=tU)(ha:jA X (e::es) t)
  (hdb:%[(x == ("__debug__":Str))=fO|2]) (h1:%[zA e=fO|1]) (h2:%[es.all (λe=>!zA e)=tU|1]) :
  jE X (.Call (.Name x p) (e::es) [] pos) (zc6 X sp E t):=⟨by
 obtain⟨f,fd,F,hb,hk,hm⟩:=F.ex;intro pins s σ H Q I h;refine wpAny_Call_Name_kw (vo I hg hm ?_ hdb);refine U3 (h₀:=X.base) I.ok.mod.kin hk (thn (ha.out pos pins s σ H _ I h) λus s1 h_=>?_) (zH h1) (yH h2);obtain⟨vs,H1,I1,r,cvs,hc,q⟩:=h_;refine⟨I1.kIn,?_⟩;have pb:=Jj I1 hc hN;have ok3:=Jk I1 hc;have q:=q _ pb;have hl:us.length=ps.length:=by rw[<- r.length];exact F.len _ _ _ _ q
 have nas:∀b o,H1 b=sO o->b∉cvs.map (·.1):=λb o e hb=>by
  obtain⟨p,hp,rfl⟩:=uz.mp hb;rw[pb.non p hp]at e;cases e
 have e0:Env0 X.prog X.w X.K X.mg X.base X.A X.stack s1 (pubH s1.heap H1 cvs):=by
  have z:=I1.env0;refine⟨z.frames,z.mod,λb o e=>⟨(z.bs b o e).1,?_⟩,z.bsz,z.funs,λb hb=>?_,ok3,z.bare⟩
  .rw[xf]
   .exact(z.bs b o e).2
   .intro hb
    obtain⟨p,hp,rfl⟩:=uz.mp hb;obtain⟨_,y,_,_,e3,_⟩:=hc p hp;exact absurd (uJ (uD e) (uF I1.ok.bsz (I1.ok.cab y _ (hfn y) e3))) (Uu _)
  .rw[xf]
   .exact z.frf b hb
   .intro hb'
    obtain⟨p,hp,rfl⟩:=uz.mp hb';obtain⟨_,y,_,_,e3,_⟩:=hc p hp;rcases uq.mp (I1.stkSub _ hb)with q|q
    .exact I1.cne y _ e3 q
    .obtain⟨_,o,ho,_⟩:=I1.ok.funs.mem q
     exact absurd (uJ (uD ho) (I1.ok.cab y _ (hfn y) e3)) (Uu _)
 refine wpAny_call (codeAny_mono (F.run X.A X.stack s1 _ ⟨us,[]⟩ us vs _ E hr e0 (by have:=hb s1 us I1.kIn (by simpa using hl);simpa using this) r q) λr s' hq=>?_);cases r with
 |error e=>exact False.elim hq
 |ok fl =>
  cases fl with
  |next=>exact False.elim hq
  |brk=>exact False.elim hq
  |cont=>exact False.elim hq
  |ret u =>
   refine I1.after ?_;obtain⟨v,H4,os,bare,un,hok,rv,q⟩:=hq;have cel4:∀b,b∈cvs.map (·.1)->∃o v,s1.heap.get? b=sO o/\s'.heap.get? b=sO o/\H4 b=sO (.frz o (CelO b v)):=λb hb=>by
    obtain⟨v,hv,e⟩:=Xi (h:=s1.heap) (H:=H1) hb;have e4:=un.frzs b _ _ e;exact⟨_,v,(ok3 b _ e).1,(hok b _ e4).1,e4⟩
   have hcA:∀a∈cvs.map (·.1),∃v,Cel H4 a v:=λa ha=>let ⟨o,v,_,_,e⟩:=cel4 a ha;⟨v,o,e⟩
   have up:∀b o,H1 b=sO o->pubH s1.heap H1 cvs b=sO o:=λb o e=>by rw[xf (nas b o e)];exact e
   refine⟨v,_,os,bare,⟨λb o e n hb hx=>?_,λb o e n hb hx=>?_,λb o e n hx=>?_,un.there,λb xs e=>?_,λb o xs e=>?_,λb p e=>?_⟩,X9 hcA hok,rv,q λp hp=>let ⟨o,e⟩:=pb.cel p hp;⟨o,un.frzs _ _ _ e⟩⟩
   .by_cases hb':b∈cvs.map (·.1)
    .obtain⟨o',_,e1,e2,_⟩:=cel4 b hb'
     rw[e]at e1;cases e1;exact e2
    .exact un.keep b o e (by rw[xf hb'];exact n) hb hx
   .by_cases hb':b∈cvs.map (·.1)
    .obtain⟨o',_,e1,e2,_⟩:=cel4 b hb'
     rw[e]at e1;cases e1;exact⟨o.slots,e2⟩
    .exact un.slot b o e (by rw[xf hb'];exact n) hb hx
   .by_cases hb':b∈cvs.map (·.1)
    .exact wI hb'
    .rw[ya hb']
     exact un.free b o e (by rw[xf hb'];exact n) hx
   .rw[ya (nas b _ e)]
    exact un.tups b xs (up _ _ e)
   .rw[ya (nas b _ e)]
    exact un.frzs b o xs (up _ _ e)
   .obtain⟨more,e'⟩:=un.tbls b p (up _ _ e)
    exact⟨more,by rw[ya (nas b _ e)];exact e'⟩⟩
def Jm(P:Program)(w:World)(K:uc)(mg:Str->Option aA)(base:Heap)(k:Nat)(E:XK)(i:Nat)(t:TA):TE:=λσ H Q=>∃f,σ[i]?=sO (sO (.ref f)) /\
 (((∃fd,H f=sO (FunO f fd))/\t σ H λvs H1=>∃fd ps sp,FnOk P w K mg base CX0 k f fd ps sp/\Binds K fd ps []/\H1 f=sO (FunO f fd)/\sp vs H1 Q E) \/
   (uY K (.ref f)=tU/\t σ H λvs H1=>∃fd ps sp,FnOk P w K mg base CX0 k f fd ps sp/\Binds K fd ps []/\sp vs H1 Q E))
theorem vO{k:Nat}{E:XK}{p:Pos}{t:TA}(hr:Room k X.A)(hn:jE X (.Name x p) (tVar i))(hx:xb CX0 X E)(ha:jA X (e::es) t)(h1:%[zA e=fO|1])(h2:%[es.all (λe=>!zA e)=tU|1]):
  jE X (.Call (.Name x p) (e::es) [] pos) (Jm X.prog X.w X.K X.mg X.base k E i t):=⟨by
 intro pins s σ H Q I h;obtain⟨f,hf,h⟩:=h;refine wpAny_Call_Name_kw (thn (hn.out pins s σ H (λv H1=>v=.ref f/\H1=H) I ⟨_,hf,rfl,rfl⟩) λu s0 h_=>?_);obtain⟨v,H0,I0,r0,e1,e2⟩:=h_;subst e1;subst e2;cases r0;rcases h with⟨⟨fd,hF⟩,h⟩|⟨hk,h⟩
 .refine PySem.W.callWith_F ⟨_,_,_,_,(I0.hok f _ hF).1⟩ (thn (ha.out pos pins s0 σ H0 _ I0 h) λus s1 h_=>?_) (zH h1) (yH h2)
  obtain⟨vs,H1,I1,r,fd,ps,sp,F,hb,hF1,q⟩:=h_;refine⟨⟨_,_,_,_,(I1.hok f _ hF1).1⟩,?_⟩;exact jY F hr hb .nil hx I1 r (by rw[u7];exact q)
 .refine U3 (h₀:=X.base) I0.ok.mod.kin hk (thn (ha.out pos pins s0 σ H0 _ I0 h) λus s1 h_=>?_) (zH h1) (yH h2)
  obtain⟨vs,H1,I1,r,fd,ps,sp,F,hb,q⟩:=h_;refine⟨I1.kIn,?_⟩;exact jY F hr hb .nil hx I1 r (by rw[u7];exact q)⟩
structure FunC(K:uc)(x:Str)(st:Stmt)(c f:aO)(fd:FuncData):Prop where
 ex:∃(oc:aA)(od:Option aO)(kV doc pm:aA)(an:Option aO)(ct:aA)(osl:Array (Option aA)),fd=Ue x x (yi st) (zP st) (zq st) .none kV doc pm an (.ref c) ct/\K.lookup f=sO ⟨oc,od,.func fd,osl⟩/\UM K (.ref c) x=tU
section
variable{K:uc}{k:Nat}
theorem FunC.by(F:FunC K x st c f fd)(S:FnScope N ps (zq st))(len:∀vs H Q E,sp vs H Q E->vs.length=ps.length)
  (hbody:∀(A:Around)(outer:List Env)(s:Shared)(H:Hp)(vs:List V)(Q:VK)(E:XK),Room k (A.deeper (envOfC x (zq st) s.heap.objs.size f (.ref c)))->sp vs H Q E ->
   ∃t,jSs (cxOf CX0 P w K mg base N x (zq st) f (.ref c) A outer s H E).nox (zP st) t/\t { nx:=λ_ H'=>Q .non H',rt:=Q } (start N vs) H):FnOk P w K mg base CX0 (k+1) f fd ps sp:=by
 obtain⟨oc,od,kV,doc,pm,an,ct,osl,rfl,lk,hcd⟩:=F.ex;refine zbC lk hcd S len λA outer s H vs Q E hr hsp=>?_;obtain⟨t,h,q⟩:=hbody A outer s H vs Q E hr hsp;exact⟨t,h.out.nox,q⟩
theorem FunC.byR(F:FunC K x st c f fd)(S:FnScope N ps (zq st))(len:∀vs H Q E,sp vs H Q E->vs.length=ps.length)
  (hbody:∀(A:Around)(outer:List Env)(s:Shared)(H:Hp)(vs:List V)(Q:VK)(E:XK),Room k (A.deeper (envOfC x (zq st) s.heap.objs.size f (.ref c)))->sp vs H Q E->(∀b,s.heap.objs.size<=b->H b=nO) ->
   ∃t,jR (cxOf CX0 P w K mg base N x (zq st) f (.ref c) A outer s H E) (zP st) t/\t { nx:=λ_ H'=>Q .non H',rt:=λσ v H'=>∃cvs,CellsAt (cxOf CX0 P w K mg base N x (zq st) f (.ref c) A outer s H E) σ cvs/\∀H3,Pub H' H3 cvs->Q v H3 } (start N vs) H) :
  FnOk P w K mg base CX0 (k+1) f fd ps sp:=by
 obtain⟨oc,od,kV,doc,pm,an,ct,osl,rfl,lk,hcd⟩:=F.ex;exact zc5 lk hcd S len hbody
def DcIn(K:uc)(x:Str)(st:Stmt)(c:aO):Prop:=∃f,Uh K mainGlobals x=sO (sO (.ref f))/\∃(oc:aA)(od:Option aO)(kV doc pm:aA)(an:Option aO)(ct:aA)(osl:Array (Option aA)),K.lookup f=sO ⟨oc,od,.func (Ue x x (yi st) (zP st) (zq st) .none kV doc pm an (.ref c) ct),osl⟩/\UM K (.ref c) x=tU/\uY K (.ref f)=tU
theorem DcIn.mk{kV:aA}(a:Uh K mainGlobals x=sO (sO (.ref f)))(l:K.lookup f=sO ⟨oc,od,.func (Ue x x (yi st) (zP st) (zq st) .none kV doc pm an (.ref c) ct),osl⟩)(cc:UM K (.ref c) x=tU)(k:uY K (.ref f)=tU):DcIn K x st c:=⟨f,a,oc,od,kV,doc,pm,an,ct,osl,l,cc,k⟩
theorem DcIn.ca(X:K.In h)(G:h.Ns mainGlobals mg)(d:DcIn K x st c)(hb:∀(kV doc pm:aA)(an:Option aO)(ct:aA)(us:List aA),us.length=ps.length->bindArgs (Ue x x (yi st) (zP st) (zq st) .none kV doc pm an (.ref c) ct) ⟨us,[]⟩=pure (ps.zip us))
  (ok:∀f fd,FunC K x st c f fd->FnOk P w K mg base CX0 k f fd ps sp):Ca P w K mg base CX0 k x ps sp:=by
 obtain⟨f,a,oc,od,kV,doc,pm,an,ct,osl,l,cc,kp⟩:=d;exact⟨f,_,ok f _ ⟨oc,od,kV,doc,pm,an,ct,osl,rfl,l,cc⟩,.all λus hl=>hb kV doc pm an ct us hl,kp,U8 X G a⟩
end
def TbG(T:aO)(ls:List (Pos×Str))(H:Hp):Prop:=∃ps,H T=sO (.tbl ps)/\TriplesOk ps.toList/\∀p∈ls,codeAmong p.1 ps.toList=nO\/∃c,codeAmong p.1 ps.toList=sO (.ref c)/\H c=sO (CodO c p.2)
theorem W8{a b:Int}{c:aA}(l:List aA)(h:TriplesOk l):TriplesOk (l++[rawInt a,rawInt b,c]):=by
 fun_induction TriplesOk l with
 |case1=>trivial
 |case2 i t j u v rest ih=>exact ih h
 |case3=>exact False.elim h
theorem Ye{p':Pos}{c:aA}(l:List aA)(h:TriplesOk l)(n:Not (p'.line=pos.line/\p'.col=pos.col)):codeAmong pos (l++[rawInt p'.line,rawInt p'.col,c])=codeAmong pos l:=by
 fun_induction TriplesOk l with
 |case1 =>
  show(if((p'.line:Nat):Int) == (pos.line:Nat) && ((p'.col:Nat):Int) == (pos.col:Nat)then sO c else codeAmong pos [])=_;rw[iN];simp
  intro e e';exact n ⟨b8,b8⟩
 |case2 i t j u v rest ih =>
  show(if i == (pos.line:Nat) && j == (pos.col:Nat)then sO v else codeAmong pos (rest++_))=if i == (pos.line:Nat) && j == (pos.col:Nat)then sO v else codeAmong pos rest
  rw[ih h]
 |case3=>exact False.elim h
theorem W9{p':Pos}(l:List aA)(n:p'.line=pos.line/\p'.col=pos.col):codeAmong pos l=codeAmong p' l:=by
 fun_induction codeAmong pos l with
 |case1 line _ col _ c rest h=>rw[codeAmong,n.1,n.2,iP h]
 |case2 line _ col _ c rest h ih=>rw[codeAmong,n.1,n.2,iN h];exact ih
 |case3 l h =>
  unfold codeAmong;split
  .exact absurd rfl (h _ _ _ _ _ _)
  .rfl
theorem TbG.keep{ls:List (Pos×Str)}(h:TbG T ls H)(kt:∀ps,H T=sO (.tbl ps)->H' T=sO (.tbl ps))(kc:∀c q,H c=sO (CodO c q)->H' c=sO (CodO c q)):TbG T ls H':=by
 obtain⟨ps,e,t,h⟩:=h;refine⟨ps,kt _ e,t,λp hp=>(h p hp).imp_right λh_=>?_⟩;obtain⟨c,a,b⟩:=h_;exact⟨c,a,kc _ _ b⟩
theorem TbG.empty{ls:List (Pos×Str)}(h:H T=sO (.tbl #[])):TbG T ls H:=⟨#[],h,trivial,λp _=>.inl rfl⟩
theorem yX{ls:List (Pos×Str)}{body:Expr}{cl:List (Str×aO)}{Q:VK}(h:TbG T ls H)(hm:(pos,qual)∈ls)(hu:∀p∈ls,(pos.line=p.1.line/\pos.col=p.1.col)->p.2=qual)
  (q:∀H' f c ct,(∀b u,b≠T->H b=sO u->H' b=sO u)->TbG T ls H'->H f=nO->f≠T->c≠T->H' f=sO (FunO f (lamC mg qual params body scope cl c ct))->H' c=sO (CodO c qual)->Q (.ref f) H'):Jh mg T qual params body scope pos cl σ H Q:=by
 obtain⟨ps,hT,tr,ha⟩:=h;refine⟨ps,hT,tr,?_⟩;rcases ha _ hm with hn|⟨c,hs,hc⟩
 .refine .inl ⟨hn,λc f ct h1 h2 h3=>?_⟩
  have n1:T≠c:=zk hT h1;have n2:T≠f:=zk hT h2;have kp:∀b u,b≠T->H b=sO u->upd (upd (upd H T (.tbl (ps ++ #[rawInt pos.line,rawInt pos.col,.ref c]))) c (CodO c qual)) f (FunO f (lamC mg qual params body scope cl c ct)) b=sO u:=λb u n e=>by rw[zo (zk e h2),zo (zk e h1),zo n];exact e
  have e2:upd (upd (upd H T (.tbl (ps ++ #[rawInt pos.line,rawInt pos.col,.ref c]))) c (CodO c qual)) f (FunO f (lamC mg qual params body scope cl c ct)) c=sO (CodO c qual):=by rw[zo h3.symm];exact uX9
  refine q _ f c ct kp ⟨_,by rw[zo n2,zo n1];exact uX9,?_,λp hp=>?_⟩ h2 n2.symm n1.symm uX9 e2
  .rw[Array.toList_append]
   exact W8 _ tr
  .rw[Array.toList_append]
   by_cases z:pos.line=p.1.line/\pos.col=p.1.col
   .refine .inr ⟨c,?_,by rw[e2,hu p hp z]⟩
    rw[W9 _ z];exact codeAmong_snoc _ tr hn
   .rw[show(#[rawInt pos.line,rawInt pos.col,Value.ref c]:Array aA).toList=[rawInt pos.line,rawInt pos.col,.ref c]from rfl,Ye _ tr z]
    refine(ha p hp).imp_right λh_=>?_;obtain⟨d,a,b⟩:=h_;refine⟨d,a,kp _ _ (λw=>?_) b⟩;rw[w,hT]at b;cases b
 .refine .inr ⟨c,hs,λf ct h2=>?_⟩
  have kp:∀b u,H b=sO u->upd H f (FunO f (lamC mg qual params body scope cl c ct)) b=sO u:=λb u e=>by rw[zo (zk e h2)];exact e
  refine q _ f c ct (λb u _ e=>kp b u e) ⟨ps,kp _ _ hT,tr,λp hp=>(ha p hp).imp_right λ⟨d,a,b⟩=>⟨d,a,kp _ _ b⟩⟩ h2 (zk hT h2).symm (λw=>?_) uX9 (kp _ _ hc);rw[w,hT]at hc;cases hc
end L2
namespace L2
open PySem
variable{a b:Expr}{σ:List (Option V)}{i:Int}
theorem DfIn.cb{K:uc}{k:Nat}(X:K.In h)(G:h.Ns mainGlobals mg)(d:DfIn K x st)(ok:∀f fd,Fun K x x st f fd->FnOk P w K mg base CX k f fd ps sp)
  (hb:∀(kV doc pm:aA)(an:Option aO)(cdv ct:aA)(us:List aA),us.length=ps.length->bindArgs (Ue x x (yi st) (zP st) (zq st) .none kV doc pm an cdv ct) ⟨us,[]⟩=pure (ps.zip us):=by
   intro _ _ _ _ _ _
   first
    |exact us1 λ_=>rfl
    |exact us2 λ_ _=>rfl
    |exact us3 λ_ _ _=>rfl
    |exact us4 λ_ _ _ _=>rfl
    |exact us5 λ_ _ _ _ _=>rfl
    |exact us6 λ_ _ _ _ _ _=>rfl):Ca P w K mg base CX k x ps sp:=d.ca X G hb ok
def ciH:HO->Nat
 |.lst _=>0
 |.tup _=>1
 |.dK _=>2
 |.dT _=>3
 |.tbl _=>4
 |.frz _ _=>5
 |.own _=>6
 |_=>7
theorem nqN{a b:HO}(h:(ciH a == ciH b)=fO):a≠b:=λe=>by
 rw[e,beq_self_eq_true]at h;cases h
theorem nq{α:Type}{a:HO}{f:α->HO}(h:∀x,(ciH a == ciH (f x))=fO:=by exactλ_=>rfl):∀x,a≠f x:=λx=>nqN (h x)
theorem nq3{α β γ:Type}{a:HO}{f:α->β->γ->HO}(h:∀x y z,(ciH a == ciH (f x y z))=fO:=by exactλ_ _ _=>rfl):∀x y z,a≠f x y z:=λx y z=>nqN (h x y z)
section
variable{a b c d e u:TS}
theorem cut1(h:∀v:TS,u=v->(tSeq a v:TS) D σ H):(tSeq a u:TS) D σ H:=h u rfl
theorem cut2(h:∀v:TS,u=v->(tSeq a (tSeq b v):TS) D σ H):(tSeq a (tSeq b u):TS) D σ H:=h u rfl
theorem cut4(h:∀v:TS,u=v->(tSeq a (tSeq b (tSeq c (tSeq d v))):TS) D σ H):(tSeq a (tSeq b (tSeq c (tSeq d u))):TS) D σ H:=h u rfl
theorem cut5(h:∀v:TS,u=v->(tSeq a (tSeq b (tSeq c (tSeq d (tSeq e v)))):TS) D σ H):(tSeq a (tSeq b (tSeq c (tSeq d (tSeq e u)))):TS) D σ H:=h u rfl
theorem ixT{K:uc}{Q:VK}(h:H p=sO (.tup xs))(a:atI xs i=sO v)(q:Q v H):tC (.int i) σ H λy H2=>rIxT K (.ref p) y H2 Q:=⟨p,xs,i,v,rfl,rfl,SqT.of h,a,q⟩
theorem ixL{K:uc}{Q:VK}(h:H p=sO (.lst xs))(a:atI xs i=sO v)(q:Q v H):tC (.int i) σ H λy H2=>rIxL K (.ref p) y H2 Q:=⟨p,xs,i,v,rfl,rfl,SqL.of h,a,q⟩
theorem nxtC{E:Ends}(h:E.nx σ H):jr E σ H:=h
end
section
variable{a b c d:TS}{u:TR}{D:EndsR}
theorem cutE(h:∀E:EndsR,D=E->u E σ H):u D σ H:=h D rfl
theorem Yf(h:∀v:TR,u=v->xC a v D σ H):xC a u D σ H:=h u rfl
theorem zee(h:∀v:TR,u=v->xC a (xC b v) D σ H):xC a (xC b u) D σ H:=h u rfl
theorem zbO(h:∀v:TR,u=v->xC a (xC b (xC c v)) D σ H):xC a (xC b (xC c u)) D σ H:=h u rfl
theorem Jn{t:TS}{D:Ends}(h:∀E:Ends,D=E->t E σ H):t D σ H:=h D rfl
theorem zv{α β:Type}{a:α->Prop}{b c:α->β->Prop}{w:α}{v:β}(h:a w)(i:b w v)(k:c w v):∃x,a x/\∃y,b x y/\c x y:=⟨w,h,v,i,k⟩
end
theorem zj(K:uc){j}{p:Pos}(ha:jE X a ta)(h:%[X.K=K|1]):jE X (.Subscript a (.Constant (.int i) j p) pos) (tOp (rIxT K) ta (tC (.int i))):=Z5 (xK K h) ha zp (λ_ _=>rfl)
theorem zM(K:uc){j}{p:Pos}(ha:jE X a ta)(h:%[X.K=K|1]):jE X (.Subscript a (.Constant (.int i) j p) pos) (tOp (rIxL K) ta (tC (.int i))):=Z5 (zT K h) ha zp (λ_ _=>rfl)
theorem wK(K:uc)(ha:jE X a ta)(hb:jE X b tb)(hm:%[behindInMarks .NotIn b=fO|8])(h:%[X.K=K|1]):jT X (.Compare a [.NotIn] [b] pos) (vD (tOp (rIn K tU) ta tb)):=vt (W7 K h) ha hb hm
theorem Zh(K:uc)(ha:jE X a ta)(hb:jE X b tb)(hm:%[behindInMarks .In b=fO|8])(h:%[X.K=K|1]):jT X (.Compare a [.In] [b] pos) (vD (tOp (rIn K fO) ta tb)):=vt (Zf K h) ha hb hm
theorem yY{K:uc}{σ:St}{A B:TS}{w1:Str}{rest:List V}(h0:σ[0]?=sO (sO (.ref p)))(hp:H p=sO (.tup (.str w0::rest)))(k:A D σ H)(e:%[decide (V.str w0=V.str w1)=tU|1]):tIfS (vD (tOp rEq (tOp (rIxT K) (tVar 0) (tC (.int 0))) (tC (.str w1)))) A B D σ H:=⟨_,h0,ixT hp aI0 ⟨rfl,_,rfl,by rw[e];exact k⟩⟩
theorem z7{K:uc}{σ:St}{A:TS}{w1:Str}{rest:List V}(h0:σ[0]?=sO (sO (.ref p)))(hp:H p=sO (.tup (.str w0::rest)))(k:D.nx σ H)(e:%[decide (V.str w0=V.str w1)=fO|1]):tIfS (vD (tOp rEq (tOp (rIxT K) (tVar 0) (tC (.int 0))) (tC (.str w1)))) A jr D σ H:=⟨_,h0,ixT hp aI0 ⟨rfl,_,rfl,by rw[e];exact k⟩⟩
theorem yo(K:uc){l:Expr}(hl:jE X l tl)(h:%[X.K=K|1]):jI X tg l (iTup K tl):=h ▸ zcU hl
theorem zU(K:uc){l:Expr}(hl:jE X l tl)(h:%[X.K=K|1]):jI X tg l (VN K tl):=h ▸ zao hl
theorem yR(K:uc){t:TA}{p:Pos}(hg:Gl X "zip")(hm:X.mg "zip"=nO)(ha:jA X [a,b] t)(h1:%[zA a=fO|1])(h2:%[zA b=fO|1])(h:%[X.K=K|1]):jI X (.Tuple elts n tpos) (.Call (.Name "zip" p) [a,b] [] pos) (iZip K t):=h ▸ zc1 hg hm ha h1 h2
theorem zg{α:Type}{a b:α->Prop}{w:α}(h:a w)(k:b w):∃x,a x/\b x:=⟨w,h,k⟩
end L2
namespace L2
theorem zE{α β:Type}{a:α->Prop}{b:β->Prop}{c:α->β->Prop}{w:α}{v:β}(h:a w)(i:b v)(k:c w v):∃x y,a x/\b y/\c x y:=⟨w,v,h,i,k⟩
end L2
namespace L2
open PySem PySem.Spec PyProof.Rows
variable{y:V}{xs:List (List Key×aO×aA)}{i:Expr}
theorem Xj{K:uc}{mb:Str->Option aA}{k:Nat}{s₁:Shared}{ns:List Int}
  (KX:K.In s₁.heap) (hT:∀T∈Ts,s₁.heap.get? T=sO { cls:=.none,data:=.fields #[] }) (hTK:∀T∈Ts,K.lookup T=nO) (hTc:∀T∈Ts,isCodeTable s₁.heap T) (hns:s₁.heap.Ns mainGlobals mg) (hb:s₁.heap.Ns builtinsNs mb) (hbb:∀x:Str,x≠"__name__"->mb x=bootBuiltins x) (hlim:s₁.heap.NoLimit) (hBM:BMn mg s₁.heap) (hg:s₁.gens=#[])
  (ha:s₁.heap.get? a=sO { cls:=.type "list",data:=.seq vs.toArray }) (hi:IntsAre vs ns) (hl:ns.length<=sizeLine) (hr:Room k callerA)
  (F:∀base:Heap,K.In base->base.Ns mainGlobals mg->BMn mg base->FnOk P w K mg base CX k fa fd [x] sp) (hbind:∀(s:Shared)(u:aA),BindsTo s fd ⟨[u],[]⟩ [(x,u)])
  (hsp:∀H:Hp,(∀T∈Ts,H T=sO (.tbl #[]))->SqL K H a (ns.map V.int)->sp [.ref a] H (λv _=>v=.bl tU) λ_ _ _=>False)
  (hCX:∀H e s',CX [] H s₁ (λ_ _ _=>False) e s'->False) :
  codeAny (model P w) callerA (.call (.ref fa) ⟨[.ref a],[]⟩) (λr s'=>r=.ok (.ret (.bool tU))/\OldK s₁.heap s'.heap/\s'.os=s₁.os/\AllBare s'.gens) s₁:=by
 have rv:=WZ hi;have lenV:=hi.length;have nTa:a∉Ts:=λe=>by rw[hT a e]at ha;cases ha
 have core:∀H:Hp,(∀b,H b=nO\/(∃o xs,H b=sO (.frz o (.lst xs)))\/(b∈Ts/\H b=sO (.tbl #[])))->(∀T∈Ts,H T=sO (.tbl #[]))->SqL K H a (ns.map V.int)->HOk P w H s₁.heap->(∀b,H b≠nO->b=a\/b∈Ts)->(H a≠nO->K.lookup a=nO) ->
   codeAny (model P w) callerA (.call (.ref fa) ⟨[.ref a],[]⟩) (λr s'=>r=.ok (.ret (.bool tU))/\OldK s₁.heap s'.heap/\s'.os=s₁.os/\AllBare s'.gens) s₁:=by
  intro H hO hHT hS hok hA hK;have base_of:∀{b:aO}{o:Obj},s₁.heap.get? b=sO o->H b=nO->(hidT s₁.heap H).get? b=sO o:=λe n=>VE e n;have noA:∀{b:aO}{o:Obj}{es:Array DictEntry}{ep:Nat},s₁.heap.get? b=sO o->o.data=.dict es ep->H b=nO:=λ{b o es ep} e d=>by
   cases q:H b with
   |none=>rfl
   |some u =>
    rcases hA b (by rw[q];simp)with e'|e'
    .subst e'
     rw[ha]at e;cases e;have d':Data.seq vs.toArray _=Data.dict es ep:=d;cases d'
    .rw[hT b e']at e;cases e
     have d':Data.fields #[]=Data.dict es ep:=d;cases d'
  have nsK:∀{b:aO}{m:Str->Option aA},s₁.heap.Ns b m->(hidT s₁.heap H).Ns b m:=λ{b m}⟨o,es,ep,e,d,r⟩=>⟨o,es,ep,base_of e (noA e d),d,r⟩;have hBb:BMn mg (hidT s₁.heap H):=by
   obtain⟨bm,ob,b1,b2,b3,b4,b5,b6⟩:=hBM;refine⟨bm,ob,b1,b2,base_of b3 ?_,b4,b5,b6⟩;cases q:H bm with
   |none=>rfl
   |some u =>
    rcases hA bm (by rw[q];simp)with e'|e'
    .subst e'
     rw[ha]at b3;cases b3;cases b6
    .rw[hT bm e']at b3;cases b3;cases b6
  have hKb:K.In (hidT s₁.heap H):=λb o e=>base_of (KX b o e) (by
   cases q:H b with
   |none=>rfl
   |some u =>
    rcases hA b (by rw[q];simp)with e'|e'
    .subst e'
     rw[hK (by rw[q];simp)]at e;cases e
    .rw[hTK b e']at e;cases e)
  have hM:Mod K mg (hidT s₁.heap H):=⟨hKb,nsK hns,⟨mb,nsK hb,hbb⟩,let ⟨mc,h1,h2⟩:=hlim;⟨mc,nsK h1,h2⟩⟩;have e0:Env0 P w K mg (hidT s₁.heap H) callerA [] s₁ H:=⟨rfl,hM,λb o e=>QR e,Nat.le_of_eq (WL _ _),trivial,λb hb=>absurd (show b∈([]:List aO)from hb) ba,hok,.of_eq hg⟩;refine codeAny_mono ((F _ hKb (nsK hns) hBb).run callerA [] s₁ H ⟨[.ref a],[]⟩ [.ref a] [.ref a] _ _ hr e0 (hbind s₁ (.ref a)) (.cons rfl .nil) (hsp H hHT hS)) λr s' h=>?_;cases r with
  |error e=>exact(hCX H e s' h).elim
  |ok fl =>
   cases fl with
   |next=>exact False.elim h
   |brk=>exact False.elim h
   |cont=>exact False.elim h
   |ret u =>
    obtain⟨v,H',os,bare,un,hok',r',q⟩:=h;have q':v=.bl tU:=q;subst q';obtain rfl:u=Value.bool tU:=r';refine⟨rfl,⟨λb o e=>?_,λb o e=>un.there b o e ba⟩,os,bare⟩;cases q:H b with
    |none=>exact .inl (un.keep b o e q (by intro z;exact absurd (show b∈([]:List aO)from z) ba) ba)
    |some u =>
     rcases hO b with z|⟨ob,xs,z⟩|⟨zm,z⟩
     .rw[q]at z;cases z
     .have z2:=un.frzs b ob _ z
      obtain⟨e1,_⟩:=hok b _ z;obtain⟨e2,_⟩:=hok' b _ z2;rw[e]at e1;cases e1;exact .inl e2
     .obtain⟨more,z2⟩:=un.tbls b _ z
      have e2:s'.heap.get? b=sO { cls:=.none,data:=.fields (#[]++more) }:=hok' b _ z2;rw[hT b zm]at e;cases e;exact .inr (.inl ⟨hTc b zm,rfl,#[],more,rfl,e2⟩)
 cases hk:K.lookup a with
 |some o =>
  have e:=KX a o hk;rw[ha]at e;cases e;refine core (λb=>if b∈Ts then sO (.tbl #[])else nO) (λb=>?_) (λT hT=>iP hT) (.inr ⟨_,vs.toArray,_,hk,rfl,rfl,rfl,by rw[uw,lenV];exact hl,by simpa using rv⟩) (λb u z=>?_) (λb z=>?_) λz=>absurd (iN nTa) z
  .by_cases hb:b∈Ts
   .exact .inr (.inr ⟨hb,iP hb⟩)
   .exact .inl (iN hb)
  .by_cases hb:b∈Ts
   .have z':=(iP hb).symm.trans z
    cases z';exact hT b hb
   .have z':=(iN hb).symm.trans z
    cases z'
  .by_cases hb:b∈Ts
   .exact .inr hb
   .exact absurd (iN hb) z
 |none =>
  refine core (λb=>if b∈Ts then sO (.tbl #[])else if b=a then sO (.frz { cls:=.type "list",data:=.seq vs.toArray } (.lst (ns.map V.int)))else nO) (λb=>?_) (λT hT=>iP hT) (.inl (.inr ⟨{ cls:=.type "list",data:=.seq vs.toArray },(iN nTa).trans (iP rfl)⟩)) (λb u z=>?_) (λb z=>?_) λ_=>hk
  .by_cases hb:b∈Ts
   .exact .inr (.inr ⟨hb,iP hb⟩)
   .by_cases hb2:b=a
    .exact .inr (.inl ⟨_,_,(iN hb).trans (iP hb2)⟩)
    .exact .inl ((iN hb).trans (iN hb2))
  .by_cases hb:b∈Ts
   .have z':=(iP hb).symm.trans z
    cases z';exact hT b hb
   .by_cases hb2:b=a
    .have z':sO (HO.frz { cls:=.type "list",data:=.seq vs.toArray } (.lst (ns.map V.int)))=sO u:=((iN hb).trans (iP hb2)).symm.trans z
     cases z';subst hb2;exact⟨ha,by rw[ub];exact hl,vs,_,rv,ha⟩
    .have z':nO=sO u:=((iN hb).trans (iN hb2)).symm.trans z
     cases z'
  .by_cases hb:b∈Ts
   .exact .inr hb
   .by_cases hb2:b=a
    .exact .inl hb2
    .exact absurd ((iN hb).trans (iN hb2)) z
def wL(K:uc)(Ts:List aO):Sp:=λvs H Q _=>∃(a:aO)(ns:List Int),vs=[.ref a]/\SqL K H a (ns.map V.int)/\ns.length<=63/\(∀T∈Ts,H T=sO (.tbl #[]))/\∀H',Q (.bl tU) H'
theorem Jo{l:PySem.W.OpenLaw}{K:uc}{k:Nat}(d:DfIn K "law" st)(X:K.In h)(G:h.Ns mainGlobals mg)(hfa:mg "law"=sO (.ref fa))
  (hb:∀(kV doc pm:aA)(an:Option aO)(cdv ct:aA)(s:Shared)(u:aA),BindsTo s (Ue "law" "law" (yi st) (zP st) (zq st) .none kV doc pm an cdv ct) ⟨[u],[]⟩ [("_law_script",u)])
  (ok:∀(base:Heap)(fd:FuncData),BMn mg base->Fun K "law" "law" st fa fd->FnOk l.prog w K mg base CX0 k fa fd ["_law_script"] (wL K Ts)) :
  ∃fd:FuncData,(∀(s:Shared)(u:aA),BindsTo s fd ⟨[u],[]⟩ [("_law_script",u)])/\∀base:Heap,K.In base->base.Ns mainGlobals mg->BMn mg base->FnOk l.prog w K mg base CX0 k fa fd ["_law_script"] (wL K Ts):=by
 obtain⟨fl,al,oc,od,kV,doc,pm,an,cdv,ct,osl,lk,cc,kk⟩:=d;have e:fl=fa:=by
  have:=U8 X G al
  rw[hfa]at this;injection this with this
  injection this with this
  exact this.symm
 subst e;exact⟨_,λs v=>hb _ _ _ _ _ _ s v,λbase _ _ B=>ok base _ B (VZ (st:=st) lk cc kk)⟩
theorem walkTs{l:PySem.W.OpenLaw}{q:Program}{loose:lS}{d:DefRec}{K:Params->uc}{e:∀p,as=(K p).map (·.1)}{k:Nat}(hn:l.most=sO 63)(hr:Room k callerA)(hdf:d.params.defaults=[])(hnm:d.name="law")
  (hc:∀p,∀T∈Ts,∃c,u6 (K p) c T=tU) (hTK:∀p,∀T∈Ts,(K p).lookup T=nO)
  (F:∀(w:World)(mg:Str->Option aA)(fa:aO)(h:Heap),(K w.params).In h->h.Ns mainGlobals mg->mg "law"=sO (.ref fa)->∃fd:FuncData,(∀(s:Shared)(u:aA),BindsTo s fd ⟨[u],[]⟩ [("_law_script",u)])/\∀base:Heap,(K w.params).In base->base.Ns mainGlobals mg->BMn mg base->FnOk l.prog w (K w.params) mg base CX0 k fa fd ["_law_script"] (wL (K w.params) Ts)) :
  PySem.W.WalkO q loose XP (PySem.W.kmHook K as e Ts).says l.row.toRowW d [] (λf vs=>PySem.call f vs):=by
 refine Att.attach_call hn hdf λw s₀ s₁ mg mb fa o pm cd doc a vs ns G Y ho hd hcd hmg hobj hints hlen hg=>?_;have KX:=PySem.W.km_in_of Y;have hT:∀T∈Ts,_:=λT hm=>PySem.W.km_tabs_of Y T hm;obtain⟨fd,hb,hF⟩:=F w mg fa _ KX G.T.g (by rw[hnm]at hmg;exact hmg);have hTc:∀T∈Ts,isCodeTable s₁.heap T:=λT hm=>by
  obtain⟨c,hc⟩:=hc w.params T hm;obtain⟨o1,vs1,_,_,_,_,_,_,_,c1,c2,c3,c4,_⟩:=PySem.W.codeHd_of_K KX hc;exact⟨c,o1,vs1,c1,c2,c3,c4⟩
 exact Xj KX hT (hTK w.params) hTc G.T.g G.T.b G.T.builtins G.T.nolimit G.T.bmain hg hobj hints (uF hlen b9) hr hF hb (λH hO hS=>⟨a,ns,rfl,hS,hlen,hO,λ_=>rfl⟩) λ_ _ _ z=>z
section
variable{κ:Type}[DecidableEq κ]
noncomputable def valV (kvs:List (κ×V)) (k:κ):Option V:=(kvs.find? λkv=>decide (kv.1=k)).map (·.2)
def putK(kvs:List (κ×V))(k:κ)(v:V):List (κ×V) :=
 if(kvs.any λkv=>decide (kv.1=k))=tU then kvs.map (λkv=>if kv.1=k then(kv.1,v)else kv)else kvs++[(k,v)]
theorem yp{p:κ×V}{r:List (κ×V)}{k:κ}(e:p.1=k):valV (p::r) k=sO p.2:=by simp[valV,U6,e]
theorem yr{p:κ×V}{r:List (κ×V)}{k:κ}(e:Not (p.1=k)):valV (p::r) k=valV r k:=by simp[valV,U6,e]
theorem xD(k:κ):∀kvs:List (κ×V),(kvs.any λkv=>decide (kv.1=k))=(valV kvs k).isSome
 |[]=>rfl
 |p::r=>by
  rw[tO];by_cases e:p.1=k
  .simp only[yp e,decide_eq_true e,Bool.true_or,Option.isSome_some]
  .rw[yr e,eO e,Bool.false_or];exact xD k r
theorem Yg(k j:κ)(y:V):∀kvs:List (κ×V),valV (kvs.map λkv=>if kv.1=k then(kv.1,y)else kv) j=(valV kvs j).map λx=>if j=k then y else x
 |[]=>rfl
 |p::r=>by
  have ih:=Yg k j y r;rw[uB];by_cases h:p.1=k
  .rw[iP h]
   by_cases e:p.1=j
   .rw[yp (p:=(p.1,y)) e,yp e,UX,iP (e.symm.trans h)]
   .rw[yr (p:=(p.1,y)) e,yr e,ih]
  .rw[iN h]
   by_cases e:p.1=j
   .rw[yp (p:=p) e,yp e,UX,iN (λz=>h (e.trans z))]
   .rw[yr (p:=p) e,yr e,ih]
theorem jD(k j:κ)(y:V):∀kvs:List (κ×V),valV kvs k=nO->valV (kvs++[(k,y)]) j=if j=k then sO y else valV kvs j
 |[],_=>by
  by_cases e:k=j
  .rw[iP e.symm];exact yp (p:=(k,y)) e
  .rw[iN (λz=>e z.symm)];exact yr (p:=(k,y)) e
 |p::r,hn=>by
  rw[List.cons_append];have hk:Not (p.1=k):=λz=>by rw[yp z]at hn;cases hn
  rw[yr hk]at hn;have ih:=jD k j y r hn;by_cases e:p.1=j
  .rw[yp e,yp e,iN (λz=>hk (e.trans z))]
  .rw[yr e,yr e,ih]
theorem vP(kvs:List (κ×V))(k j:κ)(y:V):valV (putK kvs k y) j=if j=k then sO y else valV kvs j:=by
 unfold putK;by_cases a:(kvs.any λkv=>decide (kv.1=k))=tU
 .rw[iP a,Yg]
  rw[xD]at a;by_cases e:j=k
  .obtain⟨x,hx⟩:=tL.mp a
   rw[iP e,e,hx,UX,iP rfl]
  .rw[iN e]
   cases valV kvs j with
   |none=>rfl
   |some x=>rw[UX,iN e]
 .rw[iN a]
  refine jD k j y kvs ?_;rw[xD]at a;cases q:valV kvs k with
  |none=>rfl
  |some x=>rw[q]at a;exact(a rfl).elim
theorem vj(kvs:List (κ×V))(k:κ)(v:V):(putK kvs k v).length<=kvs.length+1:=by
 unfold putK;split
 .rw[ub];lia
 .rw[ud,ui,List.length_nil];lia
theorem RelO.isSome_eq{o:Option V}{u:Option aA}(r:RelO o u):o.isSome=u.isSome:=by
 cases o with
 |none=>cases u with
  |none=>rfl
  |some _=>exact(show False from r).elim
 |some _=>cases u with
  |none=>exact(show False from r).elim
  |some _=>rfl
theorem RelO.getD{o:Option V}{u:Option aA}{d:V}{d':aA}(r:RelO o u)(rd:RelV d d'):RelV (o.getD d) (u.getD d'):=by
 cases o with
 |none=>cases u with
  |none=>exact rd
  |some _=>exact(show False from r).elim
 |some _=>cases u with
  |none=>exact(show False from r).elim
  |some _=>exact r
theorem KV.val{kvs:List (κ×V)}{vs:List (κ×aA)}(r:KV kvs vs)(k:κ):RelO (valV kvs k) (valueAt vs k):=by
 unfold KV at r
 induction r with
 |nil=>exact True.intro
 |@cons p q ps qs h t ih =>
  obtain⟨h1,h2⟩:=h;by_cases e:p.1=k
  .have e':q.1=k:=h1.symm.trans e
   have b:valueAt (q::qs) k=sO q.2:=by simp[valueAt,U6,e']
   rw[yp e,b];exact h2
  .have e':Not (q.1=k):=λz=>e (h1.trans z)
   have b:valueAt (q::qs) k=valueAt qs k:=by simp[valueAt,U6,e']
   rw[yr e,b];exact ih
theorem KV.any{kvs:List (κ×V)}{vs:List (κ×aA)}(r:KV kvs vs)(k:κ):(kvs.any λkv=>decide (kv.1=k))=vs.any λkv=>decide (kv.1=k):=by
 unfold KV at r
 induction r with
 |nil=>rfl
 |cons h t ih=>rw[tO,tO,ih,h.1]
theorem KV.repl{kvs:List (κ×V)}{vs:List (κ×aA)}(r:KV kvs vs)(k:κ)(ry:RelV y u):
  KV (kvs.map λkv=>if kv.1=k then(kv.1,y)else kv) (vs.map λkv=>if kv.1=k then(kv.1,u)else kv):=by
 unfold KV at r ⊢
 induction r with
 |nil=>exact .nil
 |@cons p q ps qs h t ih =>
  rw[uB,uB];refine .cons ?_ ih;obtain⟨h1,h2⟩:=h;by_cases e:p.1=k
  .rw[iP e,iP (h1.symm.trans e)];exact⟨h1,ry⟩
  .rw[iN e,iN (λz=>e (h1.trans z))];exact⟨h1,h2⟩
theorem KV.put{kvs:List (κ×V)}{vs:List (κ×aA)}(r:KV kvs vs)(k:κ)(ry:RelV y u):KV (putK kvs k y) (stored vs k u):=by
 unfold putK stored;rw[r.any k];by_cases e:(vs.any λkv=>decide (kv.1=k))=tU
 .rw[iP e,iP e];exact r.repl k ry
 .rw[iN e,iN e];exact Paired.snoc r ⟨rfl,ry⟩
theorem KV.length{kvs:List (κ×V)}{vs:List (κ×aA)}(r:KV kvs vs):kvs.length=vs.length:=Paired.length r
end
theorem Wa{k:Key}(r:RelV (kV k) u):(yf P w).is k u=tU:=by
 cases k with
 |inl i=>obtain⟨t,e⟩:=(show ∃t,u=Value.int i t from r);subst e;exact ZP P w i t
 |inr x=>obtain⟨t,e⟩:=(show ∃t,u=Value.str x t from r);subst e;exact ZQ P w x t
theorem jF{P:Program}{w:World}:∀{ks:List Key}{us:List aA},Vals (ks.map kV) us->ItemsAre (yf P w) ks us
 |[],_,r=>by rw[List.map_nil]at r;cases r;exact .nil
 |k::ks,_,r=>by
  rw[uB]at r;cases r with
  |cons h t=>exact .cons (Wa h) (jF t)
abbrev KT(H:Hp):List (List Key×V)->List (List Key×aO×aA)->Prop:=Paired λp q=>p.1=q.1/\H q.2.1=sO (.tup (p.1.map kV))/\RelV p.2 q.2.2
theorem KT.val(r:KT H kvs xs)(k:List Key):RelO (valV kvs k) ((atKey xs k).map (·.2)):=by
 induction r with
 |nil=>exact True.intro
 |@cons p q ps qs h t ih =>
  obtain⟨h1,_,h2⟩:=h;by_cases e:p.1=k
  .have e':q.1=k:=h1.symm.trans e
   have b:atKey (q::qs) k=sO q.2:=by simp[atKey,U6,e']
   rw[yp e,b];exact h2
  .have e':Not (q.1=k):=λz=>e (h1.trans z)
   have b:atKey (q::qs) k=atKey qs k:=by simp[atKey,U6,e']
   rw[yr e,b];exact ih
theorem KT.repl(r:KT H kvs xs)(k:List Key)(ry:RelV y u):
  KT H (kvs.map λkv=>if kv.1=k then(kv.1,y)else kv) (xs.map (putAt k u)):=by
 induction r with
 |nil=>exact .nil
 |@cons p q ps qs h t ih =>
  rw[uB,uB];refine .cons ?_ ih;obtain⟨h1,h2,h3⟩:=h;unfold putAt;by_cases e:p.1=k
  .rw[iP e,iP (h1.symm.trans e)];exact⟨h1,h2,ry⟩
  .rw[iN e,iN (λz=>e (h1.trans z))];exact⟨h1,h2,h3⟩
theorem KT.put(r:KT H kvs xs)(k:List Key)(hb:H b=sO (.tup (k.map kV)))(ry:RelV y u):
  KT H (putK kvs k y) (storedH xs k b u):=by
 have e:(kvs.any λkv=>decide (kv.1=k))=(atKey xs k).isSome:=by
  rw[xD,(r.val k).isSome_eq,Option.isSome_map]
 unfold putK storedH;rw[e];by_cases q:(atKey xs k).isSome=tU
 .rw[iP q,iP q];exact r.repl k ry
 .rw[iN q,iN q];exact Paired.snoc r ⟨rfl,hb,ry⟩
theorem KT.keeps(r:KT H kvs xs)(ht:∀b ys,H b=sO (.tup ys)->H' b=sO (.tup ys)):KT H' kvs xs :=
 Paired.mapP r λ_ _ z=>⟨z.1,ht _ _ z.2.1,z.2.2⟩
theorem zbP{u:HO}(ok:HOk P w H h)(e:Rd H a u):ObjOk P w H h a u:=e.ok ok
theorem Yh{kvs:List (Key×V)}(ok:HOk P w H h)(e:Rd H a (.dK kvs)):kvs.length<=sizeLine/\(a == sysModules)=fO/\∃vs,KV kvs vs/\h.DictOf (yf P w) a vs :=
 show ObjOk P w H h a (.dK kvs)from zbP ok e
theorem Yi{kvs:List (Key×V)}(ok:HOk P w H h)(e:H a=sO (.dK kvs)):kvs.length<=sizeLine/\(a == sysModules)=fO/\∃vs,KV kvs vs/\h.DictOf (yf P w) a vs:=Yh ok (.inl e)
theorem Zi{ks:List Key}(ok:HOk P w H h)(e:H a=sO (.tup (ks.map kV))):(tupleKind (yf P w)).is h ks a:=by
 obtain⟨_,its,r,o,h1,h2,_,n,h3⟩:=(show ObjOk P w H h a (.tup (ks.map kV))from ok a _ e);exact⟨o,its.toArray,n,h1,h2,h3,by simpa using jF r⟩
theorem Yj(ok:HOk P w H h)(e:Rd H a (.dT kvs)):kvs.length<=sizeLine/\(a == sysModules)=fO /\
  ∃xs,KT H kvs xs/\h.DictOfH (tupleKind (yf P w)) a xs:=by
 obtain⟨z,y,xs,r,o,es,ep,h1,h2,h3,h4,h5⟩:=(show ObjOk P w H h a (.dT kvs)from zbP ok e);refine⟨z,y,xs,r,o,es,ep,h1,h2,h3,h4,λx hx=>?_,h5⟩;have all:∀{l:List (List Key×V)}{m:List (List Key×aO×aA)},KT H l m->∀x∈m,(tupleKind (yf P w)).is h x.1 x.2.1:=by
  intro l m q
  induction q with
  |nil=>intro x hx;exact nomatch hx
  |@cons p q ps qs hq t ih =>
   intro x hx;rcases uq.mp hx with e|hx
   .subst e
    exact Zi ok (by rw[<- hq.1];exact hq.2.1)
   .exact ih x hx
 exact all r x hx
theorem zef(ok:HOk P w H h)(e:H a=sO (.dT kvs)):kvs.length<=sizeLine/\(a == sysModules)=fO /\
  ∃xs,KT H kvs xs/\h.DictOfH (tupleKind (yf P w)) a xs:=Yj ok (.inl e)
def DGet(H:Hp)(a:aO)(y:V)(r:Option V):Prop :=
 (∃kvs k,Rd H a (.dK kvs)/\y=kV k/\r=valV kvs k)\/∃kvs k b,Rd H a (.dT kvs)/\y=.ref b/\H b=sO (.tup (k.map kV))/\r=valV kvs k
def DPut(H:Hp)(a:aO)(y v:V)(H':Hp):Prop :=
 (∃kvs k,H a=sO (.dK kvs)/\y=kV k/\kvs.length < sizeLine/\H'=upd H a (.dK (putK kvs k v))) \/
 ∃kvs k b,H a=sO (.dT kvs)/\y=.ref b/\H b=sO (.tup (k.map kV))/\kvs.length < sizeLine/\H'=upd H a (.dT (putK kvs k v))
theorem DGet.k{kvs:List (Key×V)}{k:Key}(e:H a=sO (.dK kvs)):DGet H a (kV k) (valV kvs k):=.inl ⟨kvs,k,.inl e,rfl,rfl⟩
theorem DPut.k{kvs:List (Key×V)}{k:Key}(e:H a=sO (.dK kvs))(hl:kvs.length < sizeLine):DPut H a (kV k) v (upd H a (.dK (putK kvs k v))):=.inl ⟨kvs,k,e,rfl,hl,rfl⟩
section
variable{r:aA}{o:Option V}
theorem Inv.big(I:Inv X pins σ H s):sysModules < s.heap.objs.size:=by
 have h:mainGlobals < s.heap.objs.size:=(I.mod.glob.keeps I.bk).lt;exact Nat.lt_trans b9 h
theorem Va{Q:VSP}(hu:A.units+1 < cLine)(I:Inv X pins σ H s)(g:DGet H a y (sO v))(ry:RelV y u)(h:∀w' s',Inv X pins σ H s'->RelV v w'->Q w' s'):
  wpAny (model X.prog X.w) A (getItem (.ref a) u) Q E s:=by
 rcases g with⟨kvs,k,e,ey,l⟩|⟨kvs,k,b,e,ey,eb,l⟩
 .subst ey
  obtain⟨z,hd,vs,rel,dd⟩:=Yh I.hok e;obtain⟨w',hw,rw'⟩:=RelO.some_of (v:=v) (o:=valueAt vs k) (by rw[l];exact rel.val k);exact wpAny_getItem_of (Wa ry) dd.mapOf hw (h w' _ (I.tok _) rw')
 .subst ey
  cases(show u=Value.ref b from ry);obtain⟨z,hd,xs,rel,dd⟩:=Yj I.hok e;obtain⟨w',hw,rw'⟩:=RelO.some_of (v:=v) (o:=(atKey xs k).map (·.2)) (by rw[l];exact rel.val k);obtain⟨p,hp,hp2⟩:=ug.mp hw;refine wpAny_getItem_heap (tupleKind_room_in1 hu) (Zi I.hok eb) dd hp ?_;rw[hp2];exact h w' _ (I.tok _) rw'
theorem Wb{ob:HO}(I:Inv X pins σ H s)(mu:Mut (H a))(hs:Heap.SameBut a s.heap h')(he:∃q,h'.get? a=sO q)(new:ObjOk X.prog X.w (upd H a ob) h' a ob):
  Inv X pins σ (upd H a ob) { s with heap:=h',toks:=t' } :=
 I.write (x:=a) (e:=a) mu (.inl rfl) (λb q hb z=>(hs.2 b hb).trans z) he new
theorem zc7{kvs:List (Key×V)}{vs:List (Key×aA)}(z:kvs.length<=sizeLine)(hd:(a == sysModules)=fO)(rel:KV kvs vs)(dd:h'.DictOf (yf P w) a vs):
  ObjOk P w H' h' a (.dK kvs):=⟨z,hd,vs,rel,dd⟩
theorem Vb(hu:A.units+1 < cLine)(I:Inv X pins σ H s)(g:DPut H a y v H')(ry:RelV y u)(rv:RelV v r)(h:∀s',Inv X pins σ H' s'->Q () s'):
  wpAny (model X.prog X.w) A (setItem (.ref a) u r) Q E s:=by
 rcases g with⟨kvs,k,e,ey,l,eH⟩|⟨kvs,k,b,e,ey,eb,l,eH⟩
 .subst ey eH
  obtain⟨z,hd,vs,rel,dd⟩:=Yi I.hok e;have hz:vs.length<=sizeLine:=by rw[<- rel.length];exact z
  have hl:(putK kvs k v).length<=sizeLine:=by have:=vj kvs k v;lia
  refine wpAny_setItem_pairs (hsz:=hz) (Wa ry) dd λh' dd' hs=>h _ ?_;have he:∃q,h'.get? a=sO q:=let ⟨q,_,_,hq,_⟩:=dd';⟨q,hq⟩
  exact Wb I (by rw[e];exact True.intro) hs he (zc7 hl hd (rel.put k rv) dd')
 .subst ey eH
  cases(show u=Value.ref b from ry);obtain⟨z,hd,xs,rel,dd⟩:=zef I.hok e;have hz:xs.length<=sizeLine:=by rw[<- Paired.length rel];exact z
  have hl:(putK kvs k v).length<=sizeLine:=by have:=vj kvs k v;lia
  refine wpAny_setItem_heap (hsz:=hz) (tupleKind_room_in1 hu) (Zi I.hok eb) dd λh' dd' hs=>h _ ?_;obtain⟨q,es,ep,hq,h2,h3,h4,_,h5⟩:=dd';refine Wb I (by rw[e];exact True.intro) hs ⟨q,hq⟩ ⟨hl,hd,_,(rel.put k eb rv).keeps λc ys ec=>?_,q,es,ep,hq,h2,h3,h4,h5⟩;rw[zo (yE ec e (λz=>nomatch z))];exact ec
end
def NoSl(i:Expr):Prop:=∀ov iv,subscripted i fO ov iv=operate [ov,iv] (getItem ov iv)
theorem zaA{slice:Expr}{T id:String}{Q:VSP}
  (hl:typeLookup (.type T) "__getitem__"=pure (sO (.builtin id))) (hs:NoSl slice)
  (h:wpAny (model prog w) A (eval value env) (λo s₁=>wpAny (model prog w) A (eval slice env) (λi s₂=>s₂.TypeIs o T/\wpAny (model prog w) A (getItem o i) Q E s₂) E s₁) E s) :
  wpAny (model prog w) A (eval (.Subscript value slice pos) env) Q E s:=by
 refine Subscript_ (wpAny_mono h (λo s₁ h₁=>wpAny_mono h₁ (λi s₂ h₂=>?_) λ_ _ x=>x) λ_ _ x=>x);obtain⟨hT,h₂⟩:=h₂;unfold subscriptTail;refine bA ?_;rw[getitemInPython_of_ne hT.not_modules];refine bA (wpAny_specialOf hT hl ?_);have fin:wpAny (model prog w) A (subscripted slice fO o i) (λr s₃=>wpAny (model prog w) A (letTemporaryGo value o r >>= λ_=>pure r) Q E s₃) E s₂:=by
  rw[hs o i];exact wpAny_operating (wpAny_mono h₂ (λr s₃ h₃=>bA (wpAny_letTemporaryGo (pO h₃))) λ_ _ x=>x)
 first
  |exact pO (bA fin)
  |exact bA (pO (bA fin))
  |exact bA fin
theorem Yk{o:Option V}(I:Inv X pins σ H s)(g:DGet H a y o):s.TypeIs (.ref a) "dict":=by
 rcases g with⟨kvs,k,e,_,_⟩|⟨kvs,k,b,e,_,_,_⟩
 .obtain⟨_,_,vs,_,dd⟩:=Yh I.hok e
  exact dd.typeIs
 .obtain⟨_,_,xs,_,dd⟩:=Yj I.hok e
  exact dd.typeIs
def zbQ(td ty:TE):TE:=λσ H Q=>td σ H λx H1=>ty σ H1 λy H2=>∃a v,x=.ref a/\DGet H2 a y (sO v)/\Q v H2
def zbR(td ty tv:TE):TS:=λD σ H=>tv σ H λv H1=>td σ H1 λx H2=>ty σ H2 λy H3=>∃a H4,x=.ref a/\DPut H3 a y v H4/\D.nx σ H4
section
variable{tv:TE}
theorem zaB(hu:X.A.units+1 < cLine)(ho:PE X o td)(hi:PE X i ty)(hs:NoSl i):PE X (.Subscript o i pos) (zbQ td ty):=by
 intro pins s σ H Q I h;refine zaA PySem.F.slot_dict_getitem.lookup hs (thn (ho pins s σ H _ I h) λu s1 h_=>?_);obtain⟨x,H1,I1,rx,q1⟩:=h_;refine thn (hi pins s1 σ H1 _ I1 q1) λiv s2 h_=>?_;obtain⟨y,H2,I2,ry,a,v,ex,g,q2⟩:=h_;subst ex;obtain rfl:u=Value.ref a:=rx;exact⟨Yk I2 g,Va hu I2 g ry λw' s3 I3 rw'=>⟨v,H2,I3,rw',q2⟩⟩
theorem zaC(hu:X.A.units+1 < cLine)(ho:PE X o td)(hi:PE X i ty)(hv:PE X value tv)(hs:swapsWith value (sO (.Subscript o i pos')) pos.line X.env=pure fO):
  PS X (.Assign [.Subscript o i pos'] value pos) (zbR td ty tv):=by
 intro pins s σ H D I h;refine wpAny_Assign_Subscript (thn (hv pins s σ H _ I h) λr s1 h_=>?_) hs;obtain⟨v,H1,I1,rv,q1⟩:=h_;refine thn (ho pins s1 σ H1 _ I1 q1) λu s2 h_=>?_;obtain⟨x,H2,I2,rx,q2⟩:=h_;refine thn (hi pins s2 σ H2 _ I2 q2) λiv s3 h_=>?_;obtain⟨y,H3,I3,ry,a,H4,ex,g,q3⟩:=h_;subst ex;obtain rfl:u=Value.ref a:=rx;exact Vb hu I3 g ry rv λs4 I4=>⟨σ,H4,I4,q3⟩
end
theorem Jp(h:Heap)(hb:sysModules < h.objs.size):ObjOk P w H (h.push { cls:=.type "dict",data:=.dict #[] }) h.objs.size (.dK []) :=
 ⟨uS _,beq_eq_false_iff_ne.mpr (Ne.symm (uZ hb)),[],.nil,Heap.DictOf.new h⟩
def Jq:TE:=λ_ H Q=>∀p,H p=nO->Q (.ref p) (upd H p (.dK []))
theorem Jr:PE X (.Dict [] [] pos) Jq:=λpins s σ H Q I h =>
 wpAny_Dict_empty ⟨.ref s.heap.objs.size,_,I.laid (a:=s.heap.objs.size) (o:=.dK []) (t':=s.toks) (λ_ _ q=>ue _ q) (uk _) (Jp s.heap I.big),rfl,h _ (I.hok.fresh (uk _))⟩
structure M2(X:Cx)(o:Expr)(m:Str)(apos:Pos)(e f:Expr)(cpos:Pos):Prop where
 base:attributeBase o m X.env (eval o X.env)=eval o X.env
 few:((backTo cpos (starEach [e,f] X.env)).all (λx=>!x.1) && (backToKw cpos (keywordEach [] X.env)).all (λx=>x.1.isSome)
  && decide (([e,f]:List Expr).length+([]:List Keyword).length+(if([]:List Keyword).isEmpty then 0 else 1) < 30))=tU
 line:(apos.endLine == cpos.line)=tU
 trees:backTo cpos (starEach [e,f] X.env)=[(fO,eval e X.env),(fO,eval f X.env)]
def IsD(H:Hp)(a:aO):Prop:=(∃kvs,Rd H a (.dK kvs))\/∃kvs,Rd H a (.dT kvs)
theorem zc8(I:Inv X pins σ H s)(d:IsD H a):
  s.TypeIs (.ref a) "dict"/\(∀b,Value.ref a=.ref b->∃ob,s.heap.get? b=sO ob/\ob.dict=nO)/\(a == sysModules)=fO:=by
 rcases d with⟨kvs,e⟩|⟨kvs,e⟩
 .obtain⟨_,hd,vs,_,dd⟩:=Yh I.hok e
  refine⟨dd.typeIs,λb q=>?_,hd⟩;cases q;obtain⟨ob,_,_,h1,h2,_⟩:=dd;exact⟨ob,h1,h2.2.1⟩
 .obtain⟨_,hd,xs,_,dd⟩:=Yj I.hok e
  refine⟨dd.typeIs,λb q=>?_,hd⟩;cases q;obtain⟨ob,_,_,h1,h2,_⟩:=dd;exact⟨ob,h1,h2.2.1⟩
section
variable{d:V}{r:aA}{o:Option V}
theorem zc9{Q:VSP}(hu:A.units+1 < cLine)(I:Inv X pins σ H s)(g:DGet H a y o)(ry:RelV y u)(rd:RelV d r)(h:∀w' s',Inv X pins σ H s'->RelV (o.getD d) w'->Q w' s'):
  wpAny (model X.prog X.w) A (call (.builtin "dict.get") [.ref a,u,r]) Q E s:=by
 rcases g with⟨kvs,k,e,ey,l⟩|⟨kvs,k,b,e,ey,eb,l⟩
 .subst ey
  obtain⟨z,hd,vs,rel,dd⟩:=Yh I.hok e;refine call_meetsIn PySem.F.slot_dict_get dd.typeIs PySem.F.entry_dict_get (PySem.F.args_dict_get_3 _ _ _) (meets_dict_get_default (yf X.prog X.w) a (Wa ry) hd r) ⟨_,dd.mapOf,h _ _ (I.tok _) ?_⟩;rw[l];exact(rel.val k).getD rd
 .subst ey
  cases(show u=Value.ref b from ry);obtain⟨z,hd,xs,rel,dd⟩:=Yj I.hok e;refine call_meetsIn PySem.F.slot_dict_get dd.typeIs PySem.F.entry_dict_get (PySem.F.args_dict_get_3 _ _ _) (meetsH_dict_get_default (tupleKind (yf X.prog X.w)) a b hd r) ⟨tupleKind_room_in1 hu,k,xs,Zi I.hok eb,dd,h _ _ (I.tok _) ?_⟩;rw[l];exact(rel.val k).getD rd
end
def vQ(td ty tx:TE):TE:=λσ H Q=>td σ H λx H1=>∃a,x=.ref a/\IsD H1 a/\ty σ H1 λy H2=>tx σ H2 λz H3=>∃o,DGet H3 a y o/\Q (o.getD z) H3
section
variable{f:Expr}{tx:TE}
theorem Js(hu:X.A.units+1 < cLine)(ho:PE X o td)(he:PE X e ty)(hf:PE X f tx)(m:M2 X o "get" apos e f cpos):PE X (.Call (.Attribute o "get" apos) [e,f] [] cpos) (vQ td ty tx):=by
 intro pins s σ H Q I h;refine wpAny_Call_method m.base m.few m.line PySem.F.plainAttrs_dict PySem.F.slot_dict_get PySem.F.type_dict_get (thn (ho pins s σ H _ I h) λu s1 h_=>?_);obtain⟨x,H1,I1,rx,a,ex,d,q1⟩:=h_;subst ex;obtain rfl:u=Value.ref a:=rx;obtain⟨t1,t2,_⟩:=zc8 I1 d;refine⟨t1,t2,?_⟩;rw[m.trees];refine Calls.callWith_builtin rfl (Calls.evalArgs_plain (Calls.spliced_cons (thn (he pins s1 σ H1 _ I1 q1) λiv s2 ⟨y,H2,I2,ry,q2⟩ =>
  Calls.spliced_cons (thn (hf pins s2 σ H2 _ I2 q2) λfv s3 ⟨z,H3,I3,rz,ov,g,q3⟩=>Calls.spliced_nil ?_))))
 exact zc9 hu I3 g ry rz λw' s4 I4 rw'=>⟨_,H3,I4,rw',q3⟩
end
theorem wM:jE X (.Dict [] [] pos) Jq:=⟨Jr⟩
theorem SqK.l{K:uc}{xs:List V}(h:H a=sO (.lst xs)):SqK tU K H a xs:=SqL.of h
theorem SqK.t{K:uc}{xs:List V}(h:H a=sO (.tup xs)):SqK fO K H a xs:=SqT.of h
theorem x8{K:uc}{k m:Bool}{xs ys:List V}{tb:TS}(hlen:xs.length=ys.length)(Pv:Nat->St->Hp->Prop)(h0:Pv 0 σ H)(hl:∀i σ H,i<=xs.length->Pv i σ H->SqK k K H a xs/\SqK m K H b ys)
  (hs:∀i x y T σ H,xs[i]?=sO x->ys[i]?=sO y->H T=nO->Pv i σ H->g (.ref T) σ (upd H T (.tup [x,y])) λσ2 H2=>tb { D with nx:=Pv (i+1),ct:=Pv (i+1),bk:=D.nx } σ2 H2) (hd:∀σ H,Pv xs.length σ H->D.nx σ H) :
  ∃W:Nat->Nat->St->Hp->Prop,(∃m,W 0 m σ H)/\∀i n σ H,W i n σ H ->
   ((Itz K k m a b).stop i H/\D.nx σ H)\/((Itz K k m a b).go i H/\∃N:St->Hp->Prop,(∀σ' H',N σ' H'->∃m',m' < n/\W (i+1) m' σ' H')/\∀x H',(Itz K k m a b).yld i H x H'->g x σ H' λσ2 H2=>tb { D with nx:=N,ct:=N,bk:=D.nx } σ2 H2):=by
 refine⟨λi m σ H=>m=xs.length-i/\i<=xs.length/\Pv i σ H,⟨xs.length,ba,uS _,h0⟩,?_⟩;rintro i n σ H ⟨rfl,hi,p⟩;obtain⟨q1,q2⟩:=hl i σ H hi p;by_cases hlt:i < xs.length
 .refine .inr ⟨go2 q1 q2 (uj hlt) (uj (hlen ▸ hlt)),Pv (i+1),λσ' H' p'=>⟨xs.length-(i+1),b8,rfl,hlt,p'⟩,λx H' yq=>?_⟩
  obtain⟨T,x,y,rfl,hT,rfl,e1,e2⟩:=yld2 yq q1 q2;exact hs i x y T σ H e1 e2 hT p
 .have e:i=xs.length:=b8
  subst e;exact .inl ⟨zbM q1 q2 (uk _),hd σ H p⟩
def lay(H:Hp):List (aO×HO)->Hp
 |[]=>H
 |p::r=>upd (lay H r) p.1 p.2
theorem zeg{k:Key}(h:(yf P w).is k u=tU):RelV (kV k) u:=by
 rw[YX]at h;rcases yj h with⟨i,t,rfl,rfl⟩|⟨x,t,rfl,rfl⟩
 .exact⟨t,rfl⟩
 .exact⟨t,rfl⟩
theorem vw{tv:TE}{k:Nat}(hr:Room k X.A)(ho:jE X o td)(hi:jE X i ty)(hv:jE X value tv)(hs:%[swapsWith value (sO (.Subscript o i pos')) pos.line X.env=pure fO|1]):
  jS X (.Assign [.Subscript o i pos'] value pos) (zbR td ty tv):=⟨zaC (by have:=hr.units;lia) ho.out hi.out hv.out hs⟩
theorem KV.get{kvs:List (Key×V)}{ws:List (Key×aA)}(r:KV kvs ws){k:Key}{x:aA}(h:ws[j]?=sO (k,x)):∃y,kvs[j]?=sO (k,y)/\RelV y x:=by
 unfold KV at r
 induction r generalizing j with
 |nil=>simp at h
 |@cons p q ps qs hh t ih =>
  cases j with
  |zero =>
   simp at h
   subst h;obtain⟨p1,p2⟩:=p;have e:p1=k:=hh.1;subst e;exact⟨p2,rfl,hh.2⟩
  |succ j =>
   obtain⟨y,h1,h2⟩:=ih (j:=j) (by simpa using h);exact⟨y,bf,h2⟩
theorem Yl:∀{xs:List V}{us:List aA},xs.length=us.length->(∀(j:Nat) x u,xs[j]?=sO x->us[j]?=sO u->RelV x u)->Vals xs us
 |[],[],_,_=>.nil
 |[],_::_,h,_=>bg
 |_::_,[],h,_=>bg
 |x::xs,u::us,h,g=>.cons (g 0 x u rfl rfl) (Yl (by simpa using h) λj a b h1 h2=>g (j+1) a b bf (by simpa using h2))
def Jt:List V->Hp->VK->Prop:=λxs H Q=>∃d kvs,xs=[.ref d]/\H d=sO (.dK kvs)/\∀l,H l=nO->Q (.ref l) (upd H l (.lst (kvs.map λkv=>kV kv.1)))
theorem vR(hc:X.calm=tU):xr X (.type "list") Jt:=by
 intro pins s σ H xs us Q I r h;obtain⟨d,kvs,rfl,hd,q⟩:=h;obtain⟨u,rfl,rx⟩:=wA r;cases rx;obtain⟨z,hs,ws,rel,dd⟩:=Yi I.hok hd;obtain⟨ep,da⟩:=dd.dictAt;have wl:=rel.length;refine PySem.W.kdl_call (PySem.W.kdl_dict (knd:=yf X.prog X.w) (kvs:=ws) (ep:=ep) hs) (I.ok.hd hc) da b8 λh' tk acc c hk hS hacc=>?_;obtain⟨a1,a2⟩:=hacc;refine⟨.ref s.heap.objs.size,_,I.laid (t':=tk) hk (uk _) (show ObjOk X.prog X.w _ h' _ (.lst (kvs.map λkv=>kV kv.1))from⟨by rw[ub];exact z,acc.toList,c,?_,by rw[Array.toArray_toList];exact hS⟩),rfl,q _ (I.hok.fresh (uk _))⟩;have al:acc.toList.length=acc.size:=Array.length_toList;refine Yl (by rw[ub,al];lia) λj x v h1 h2=>?_;obtain⟨k,y,e1,e2⟩:=a2 j v (by rw[<- Array.getElem?_toList];exact h2);obtain⟨y',e3,_⟩:=rel.get e1;rw[uh,e3]at h1;cases h1;exact zeg e2
theorem Zj(hc:X.calm=tU):jCa X (.type "list") Jt:=⟨vR hc⟩
inductive TyN(H:Hp):V->Bool->Prop where
 |int (i:Int):TyN H (.int i) fO
 |str (z:Str):TyN H (.str z) fO
 |bl (b:Bool):TyN H (.bl b) fO
 |non:TyN H .non fO
 |lst {a:aO} {xs:List V} (e:H a=sO (.lst xs)):TyN H (.ref a) tU
 |tup {a:aO} {xs:List V} (e:H a=sO (.tup xs)):TyN H (.ref a) tU
section
variable{k:Nat}{E:XK}{m:Str}{p:Pos}{t:TA}
theorem wO(hr:Room k X.A)(ho:jE X o td)(hi:jE X i ty)(hs:NoSl i:=by intro _ _;rfl):jE X (.Subscript o i pos) (zbQ td ty):=⟨zaB (zbG hr) ho.out hi.out hs⟩
theorem yK{f:Expr}{tx:TE}(hr:Room k X.A)(ho:jE X o td)(he:jE X e ty)(hf:jE X f tx)(m:M2 X o "get" apos e f cpos:=by exact⟨rfl,rfl,rfl,rfl⟩):jE X (.Call (.Attribute o "get" apos) [e,f] [] cpos) (vQ td ty tx):=⟨Js (zbG hr) ho.out he.out hf.out m⟩
end
section
variable{Q:VK}
theorem vS{K:uc}{k m:Bool}{xs ys:List V}(hlen:xs.length=ys.length)(Pv:Nat->St->List V->Hp->Prop)(h0:Pv 0 σ [] H)(hl:∀i τ zs H,i<=xs.length->Pv i τ zs H->SqK k K H a xs/\SqK m K H b ys)
  (hs:∀i x y T τ zs H,xs[i]?=sO x->ys[i]?=sO y->H T=nO->Pv i τ zs H->g (.ref T) τ (upd H T (.tup [x,y])) λτ2 H2=>tt τ2 H2 λb H3=>if b=tU then te τ2 H3 λy H4=>zs.length < sizeLine/\Pv (i+1) τ2 (zs++[y]) H4 else Pv (i+1) τ2 zs H3)
  (hd:∀τ zs H,Pv xs.length τ zs H->∀p,H p=nO->Q (.ref p) (upd H p (.lst zs))):∃W,(∃m,W 0 m σ [] H)/\lcBy (Itz K k m a b) g tt te Q W:=by
 refine⟨λi m τ zs H=>m=xs.length-i/\i<=xs.length/\Pv i τ zs H,⟨xs.length,ba,uS _,h0⟩,?_⟩;rintro i n τ zs H ⟨rfl,hi,p⟩;obtain⟨q1,q2⟩:=hl i τ zs H hi p;by_cases hlt:i < xs.length
 .refine .inr ⟨go2 q1 q2 (uj hlt) (uj (hlen ▸ hlt)),Pv (i+1),λτ' zs' H' p'=>⟨xs.length-(i+1),b8,rfl,hlt,p'⟩,λx H' yq=>?_⟩
  obtain⟨T,x,y,rfl,hT,rfl,e1,e2⟩:=yld2 yq q1 q2;exact hs i x y T τ zs H e1 e2 hT p
 .have e:i=xs.length:=b8
  subst e;exact .inl ⟨zbM q1 q2 (uk _),hd τ zs H p⟩
end
theorem zaD{kvs:List (Key×V)}{vs:List (Key×aA)}(h:KV kvs vs):vs.map (·.1)=kvs.map (·.1):=by
 induction h with
 |nil=>rfl
 |cons h _ ih=>rw[uB,uB,h.1,ih]
theorem Wc:∀{kvs:List (Key×V)}{k:Key}{v:V},(kvs.map (·.1)).Nodup->(k,v)∈kvs->valV kvs k=sO v
 |p::kvs,k,v,h,m=>by
  rw[uB,uV]at h;rcases uq.mp m with rfl|m
  .exact yp (p:=(k,v)) rfl
  .rw[yr λe=>h.1 (by rw[e];exact UH m)]
   exact Wc h.2 m
theorem Wd{A:Around}{kvs':List (Key×V)}{vs':List (Key×aA)}(r':KV kvs' vs')(nd:(kvs'.map (·.1)).Nodup):∀{kvs:List (Key×V)}{vs:List (Key×aA)},KV kvs vs->(∀p∈kvs,p∈kvs'/\∃a,p.2=.ref a)->PySem.W.KeqHits A s vs' vs tU
 |_,_,.nil,_=>.nil
 | (k,v)::kvs,(k',u)::vs,.cons hr t,h=>by
  obtain⟨e,rv⟩:=hr;have e:k=k':=e;subst e;obtain⟨hm,a,e⟩:=h (k,v) (.head _);have e:v=.ref a:=e;subst e;have rr:=r'.val k;rw[Wc nd hm]at rr;cases hv:valueAt vs' k with
  |none=>rw[hv]at rr;exact False.elim rr
  |some u' =>
   rw[hv]at rr;cases rv;cases rr
   have:=PySem.W.KeqHits.hit (A:=A) (s:=s) (r:=vs) hv (.same _) (Wd r' nd t λp hp=>h p (.tail _ hp))
   simpa using this
def zbS:R2:=λx y H Q=>∃p p' kvs,x=.ref p/\y=.ref p'/\H p=sO (.dK kvs)/\H p'=sO (.dK kvs)/\(∀p∈kvs,∃a,p.2=.ref a)/\Q (.bl fO) H
section
variable{k:Nat}
theorem zaE(hu:X.A.units+64 < cLine):OpR X (compareOp .NotEq) zbS:=by
 intro pins s σ H x y v u Q I rx ry h;obtain⟨p,p',kvs,rfl,rfl,h1,h2,h3,q⟩:=h;cases rx;cases ry;obtain⟨z1,d1,vs,r1,dd1⟩:=Yi I.hok h1;obtain⟨z2,d2,vs',r2,dd2⟩:=Yi I.hok h2;have l1:=r1.length;have l2:=r2.length;have nd:(kvs.map (·.1)).Nodup:=by rw[<- zaD r2];obtain⟨_,_,_,_,_,_,_,_,n⟩:=dd2;exact n
 refine PySem.W.keq_ne d1 d2 dd1 dd2 b8 (r:=tU) (λ_=>Wd r2 nd r1 λp hp=>⟨hp,h3 p hp⟩) ?_;rw[show(!(vs.length == vs'.length && tU))=fO by simp;lia];exact⟨.bl fO,H,I,rfl,q⟩
theorem zaF(hr:Room k X.A):jOp X (compareOp .NotEq) zbS:=⟨zaE hr.units⟩
end
end L2
namespace L2
open PySem
variable{P:St->Hp->Prop}
theorem cutD{t:TS}(h:∀D':Ends,(∀σ H,P σ H->D'.nx σ H)->t D' σ H)(p:∀σ H,P σ H->D.nx σ H):t D σ H:=h D p
theorem cutR{t:TS}(h:∀D':Ends,D'.rt=D.rt->(∀σ H,P σ H->D'.nx σ H)->t D' σ H)(p:∀σ H,P σ H->D.nx σ H):t D σ H:=h D rfl p
end L2
namespace K11
open PySem
def sg(c:Nat):Str:=⟨#[c]⟩
theorem vT(a:Array Nat):∀(k:Nat)(acc:Array Nat),((uT k a).foldl (· ++ ·) acc).size=acc.size+k*a.size
 |0,acc=>ba
 |k+1,acc=>by
  rw[UG,UN,vT a k,Array.size_append,UJ];lia
theorem zaG{n:Int}(hz:z.length=1):(Txt.mul z n).length<=n.toNat:=by
 unfold Txt.mul;split
 .simp[Str.empty,Str.length]
 .rename_i h
  split
  .rw[hz];lia
  .show((uT n.toNat z.cps).foldl (· ++ ·) #[]).size<=n.toNat
   have e:z.cps.size=1:=hz;rw[vT,e];simp
theorem zda{n:Int}(hz:z.length=1)(h0:0<=n)(h1:n<=1000):MulOk z n:=by
 have hs:sizeLine=16777216:=b9
 refine⟨?_,λa b=>?_,λa b=>?_⟩
 .have e1:decide (n < -(2 ^ 63:Int))=fO:=eO b8
  have e2:decide (n ≥ 2 ^ 63)=fO:=eO b8;rw[e1,e2];rfl
 .rw[hz]
  have:(1:Int)<=(2 ^ 63-1) / n:=Int.le_ediv_of_mul_le b8 b8
  intro c;have c':(1:Int) > (2 ^ 63-1) / n:=c;lia
 .rw[hz]
  unfold Builtin.Str.tooLong;exact eO (by rw[hs];lia)
end K11
namespace K11
open PySem PySem.Spec PyProof.Rows Builtin Builtin.Str
abbrev cl(z:Str):List Nat:=z.cps.toList
theorem xM(z:Str):(cl z).length=z.length:=by simp[Str.length]
theorem zX(x y:Str):cl (x++y)=cl x++cl y:=by
 show(x.cps++y.cps).toList=_;simp
theorem wP{sep:Str}{r:lS}:cl (Str.join sep (x::y::r))=cl x++(cl sep++cl (Str.join sep (y::r))):=by
 show cl (x++sep++Str.join sep (y::r))=_;rw[zX,zX,Uo]
end K11
namespace GN
open PySem L2
noncomputable def top (i:Nat):Stmt:=PySem.Challenge.pw_reusewise_k44_the_same_program.main.body.getD i (.Pass ⟨0,0,0,0⟩)
abbrev Ju:Stmt:=top 1
abbrev Xk:Stmt:=top 6
abbrev Xl:Stmt:=xW (top 2) 0
abbrev Zk:Stmt:=top 3
abbrev Jv:Stmt:=top 4
abbrev Jw:Stmt:=top 7
abbrev sTog:Stmt:=top 8
abbrev w5:Stmt:=top 9
abbrev yZ:Stmt:=top 10
abbrev Zl:Stmt:=top 11
abbrev wr:Stmt:=top 12
abbrev vU:Stmt:=top 13
abbrev Jx:Stmt:=top 14
abbrev Jy:Stmt:=top 30
abbrev sNm:Stmt:=top 31
abbrev Xm:Stmt:=top 32
abbrev Xn:Stmt:=top 33
abbrev Xo:Stmt:=top 34
abbrev Jz:Stmt:=top 35
abbrev Xp:Stmt:=top 36
abbrev Zm:Stmt:=top 37
abbrev JA:Stmt:=top 38
abbrev Xq:Stmt:=top 39
abbrev JB:Stmt:=top 40
abbrev We:Stmt:=top 41
abbrev sDef:Stmt:=top 42
abbrev vV:Stmt:=top 43
abbrev Zn:Stmt:=top 60
abbrev Zo:Stmt:=top 55
abbrev sLaw:Stmt:=top 61
abbrev vx:Stmt:=top 49
abbrev Zp:Stmt:=top 15
abbrev JC:Stmt:=top 17
abbrev wQ:Stmt:=top 18
abbrev Zq:Stmt:=xW (top 19) 0
abbrev Zr:Stmt:=xW (top 20) 0
abbrev vW:Stmt:=xW (top 20) 1
abbrev vX:Stmt:=xW (top 20) 2
abbrev Xr:Stmt:=xW (top 20) 3
abbrev x9:Stmt:=top 21
abbrev xE:Stmt:=top 22
abbrev vy:Stmt:=top 23
abbrev w6:Stmt:=top 24
abbrev wR:Stmt:=top 25
abbrev w9:Stmt:=top 26
abbrev Xs:Stmt:=top 27
abbrev Xt:Stmt:=top 28
abbrev vz:Stmt:=top 45
abbrev Xu:Stmt:=top 46
abbrev Zs:Stmt:=top 44
abbrev Xv:Stmt:=top 47
abbrev Wf:Stmt:=top 48
abbrev Xw:Stmt:=top 50
abbrev Xx:Stmt:=top 51
abbrev Xy:Stmt:=top 52
abbrev JD:Stmt:=top 53
abbrev JE:Stmt:=top 54
abbrev JF:Stmt:=top 56
abbrev JG:Stmt:=top 57
abbrev Wg:Stmt:=top 58
abbrev JH:Stmt:=top 59
end GN
namespace L2
open PySem
section
variable{i:Expr}{ti:TE}
theorem Wh(ho:jE X o to)(hi:jE X i ti)(ha:%[∀v,assign (.Subscript o i pos) X.env v=(do
   let ov <- holding [v] (eval o X.env)
   let iv <- holding [v,ov] (eval i X.env)
   standAt pos
   holding [v,ov,iv] (setItem ov iv v)
   release [v,ov,iv] [])|3]):jG X (.Subscript o i pos) (gSub to ti zbF):=⟨zcq ho.out hi.out VW ha⟩
theorem zdb:jOp X (binaryOp .Mult) rRep:=⟨zcQ⟩
theorem Xz:jMt X "list.reverse" Z0:=⟨Xa⟩
theorem zaH(hc:X.calm=tU):jCa X (.builtin "max") (λxs H Q=>∃i j,xs=[.int i,.int j]/\Q (.int (if j > i then j else i)) H):=⟨WP hc⟩
end
end L2
namespace GN
open PySem L2 K11
variable{st:aO}{o:HO}
theorem zn(h:H p=nO)(o:HO):Same H (upd H p o):=λb u q=>by rw[zo (zk q h)];exact q
def LIM:Nat:=4611686018427387904
inductive Sta(K:uc)(H:Hp)(st:aO)(B:Nat):Prop
 |mk (a:aO) (ns:List Int):(∃k:Nat,H st=sO (.lst [.ref a,.int (k:Nat)])/\(a=st->∀H',SqL K H' a (ns.map V.int))/\SqL K H a (ns.map V.int)/\k<=B)->Sta K H st B
structure Kp(st:aO)(H H':Hp):Prop where
 k:∀b u,b≠st->H b=sO u->H' b=sO u
 s:∀a k,H st=sO (.lst [.ref a,.int k])->∃k',H' st=sO (.lst [.ref a,.int k'])
theorem Kp.refl:Kp st H H:=⟨λ_ _ _ h=>h,λ_ k h=>⟨k,h⟩⟩
theorem Kp.trans(a:Kp st H H1)(b:Kp st H1 H2):Kp st H H2:=⟨λc u n h=>b.k c u n (a.k c u n h),λx k h=>let ⟨k',h'⟩:=a.s x k h;b.s x k' h'⟩
theorem Kp.of(a:Same H H1):Kp st H H1:=⟨λc u _ h=>a c u h,λ_ k h=>⟨k,a _ _ h⟩⟩
theorem Kp.new(a:Kp st H H1)(h:H1 p=nO):Kp st H (upd H1 p o):=a.trans (.of (zn h o))
theorem Kp.put(a:Kp st H H1)(h:H p=nO):Kp st H (upd H1 p o):=⟨λb u n q=>by rw[zo (zk q h)];exact a.k b u n q,λx k q=>by
 obtain⟨k',h'⟩:=a.s x k q;exact⟨k',by rw[zo (zk q h)];exact h'⟩⟩
theorem Kp.seq{K:uc}(e:Kp st H H')(n:a≠st)(h:SqL K H a xs):SqL K H' a xs:=by
 rcases h with(h|⟨o,h⟩)|h
 .exact .inl (.inl (e.k _ _ n h))
 .exact .inl (.inr ⟨o,e.k _ _ n h⟩)
 .exact .inr h
theorem Kp.free(e:Kp st H H')(n:p≠st)(h:H' p=nO):H p=nO:=by
 cases q:H p with
 |none=>rfl
 |some o =>
  rw[e.k p o n q]at h;cases h
section
variable{K:uc}{B':Nat}
theorem Sta.ex(h:Sta K H st B):∃o,H st=sO o:=by obtain⟨_,_,_,e,_⟩:=h;exact⟨_,e⟩
theorem Sta.mono(h:Sta K H st B)(l:B<=B'):Sta K H st B':=by obtain⟨a,ns,k,h1,h2,h3,h4⟩:=h;exact⟨a,ns,k,h1,h2,h3,uF h4 l⟩
theorem Sta.same(h:Sta K H st B)(s:Same H H'):Sta K H' st B:=by obtain⟨a,ns,k,h1,h2,h3,h4⟩:=h;exact⟨a,ns,k,s _ _ h1,h2,s.seq h3,h4⟩
theorem Sta.new(h:Sta K H st B)(hp:H p=nO)(o:HO):Sta K (upd H p o) st B:=h.same (zn hp o)
theorem Sta.ne(h:Sta K H st B)(hp:H p=nO):p≠st:=λe=>by
 obtain⟨o,q⟩:=h.ex;rw[e,q]at hp;cases hp
theorem Sta.neR(h:Sta K H st B)(hp:H p=sO (.lst (ts.map V.ref))):p≠st:=λe=>by
 obtain⟨a,ns,k,h1,_⟩:=h;rw[e,h1]at hp;have e2:=congrArg (λo=>match o with|some (HO.lst l)=>l|_=>[]) hp;simp only at e2
 match ts,e2 with
 |[_,_],e2=>simp at e2
 |[],e2=>simp at e2
 |[_],e2=>simp at e2
 |_::_::_::_,e2=>simp at e2
theorem Sta.neI{ts:List Int}(h:Sta K H st B)(hp:H p=sO (.lst (ts.map V.int))):p≠st:=λe=>by
 obtain⟨a,ns,k,h1,_⟩:=h;rw[e,h1]at hp;have e2:=congrArg (λo=>match o with|some (HO.lst l)=>l|_=>[]) hp;simp only at e2
 match ts,e2 with
 |[],e2=>simp at e2
 |_::_,e2=>simp at e2
theorem Sta.neS{ts:lS}(h:Sta K H st B)(hp:H p=sO (.lst (ts.map V.str))):p≠st:=λe=>by
 obtain⟨a,ns,k,h1,_⟩:=h;rw[e,h1]at hp;have e2:=congrArg (λo=>match o with|some (HO.lst l)=>l|_=>[]) hp;simp only at e2
 match ts,e2 with
 |[],e2=>simp at e2
 |_::_,e2=>simp at e2
theorem Sta.neW(h:Sta K H st B)(hp:H p=sO (.lst (.str x::xs))):p≠st:=λe=>by
 obtain⟨a,ns,k,h1,_⟩:=h;rw[e,h1]at hp;simp at hp
theorem Sta.put(S0:Sta K H st B)(hp:H p=nO)(k:Kp st H H2)(S2:Sta K H2 st B'):Sta K (upd H2 p o) st B':=by
 obtain⟨a,ns,i,h1,h2,h3,_⟩:=S0;obtain⟨a',ns',i',g1,g2,g3,g4⟩:=S2;obtain⟨k',h'⟩:=k.s a _ h1;rw[g1]at h';have ea:a'=a:=by
  have:=congrArg (λo=>match o with|some (HO.lst (V.ref x::_))=>x|_=>0) h'
  exact this
 subst ea;have g1':upd H2 p o st=sO (.lst [.ref a',.int ((i':Nat):Int)]):=by rw[zo (zk h1 hp)];exact g1
 have key:a'≠p->Sta K (upd H2 p o) st B':=λn=>by
  refine⟨a',ns',i',g1',g2,?_,g4⟩;rcases g3 with(g|⟨o,g⟩)|g
  .exact .inl (.inl (by rw[zo n];exact g))
  .exact .inl (.inr ⟨o,by rw[zo n];exact g⟩)
  .exact .inr g
 rcases h3 with(h|⟨_,h⟩)|h
 .exact key (zk h hp)
 .exact key (zk h hp)
 .exact⟨a',ns,i',g1',λ_ _=>.inr h,.inr h,g4⟩
def Tups(H H':Hp):Prop:=∀p xs,H p=sO (.tup xs)->H' p=sO (.tup xs)
theorem Tups.of(s:Same H H'):Tups H H':=λp xs h=>s p _ h
theorem Tups.trans(a:Tups H H')(b:Tups H' H2):Tups H H2:=λp xs h=>b p xs (a p xs h)
theorem Kp.tups(k:Kp st H H')(h:Sta K H st B):Tups H H':=λp xs q=>k.k p _ (λe=>by
 obtain⟨_,_,_,h1,_⟩:=h;rw[e,h1]at q;cases q) q
end
inductive spDraw(K:uc)(vs:List V)(H:Hp)(Q:VK)(e_3:XK):Prop
 |mk (st:aO) (m:Int):∀B:Nat,(vs=[.ref st,.int m])->(Sta K H st B)->(B < LIM)->(0 < m)->(∀(H':Hp)(r:Int),Kp st H H'->Sta K H' st (B+1)->0<=r->r < m->Q (.int r) H')->spDraw K vs H Q e_3
def LET:Str:="abcdefghijklmnopqrstuvwxyz"
theorem zdc:cl LET=(uQ 26).map (97 + ·):=be
noncomputable def lt (i:Nat):Str:=sg (97+i)
theorem zdd(h:i < 26):atI LET.cps.toList (i:Int)=sO (97+i):=by
 refine yx ?_;show(cl LET)[i]?=_;rw[zdc,uh,tJ h]
 rfl
theorem Zt{m:Int}(h0:0<=m)(h:m < 26):atI LET.cps.toList m=sO (97+m.toNat):=by
 have e:=zdd (i:=m.toNat) b8;rw[tK h0]at e;exact e
theorem Zu:LET.length=26:=be
def core(k:Nat):Str:=lt (k / 2 % 26)++("z":Str)++lt (k / 52 % 26)
def ys(k:Nat):Str:=Txt.mul "y" ((k % 2:Nat):Int)
def nm(z:Str)(b:Bool)(k:Nat):Str:=if b=tU then core k++z++ys k else ys k++z++core k
theorem wS(k:Nat):cl (core k)=[97+k / 2 % 26,122,97+k / 52 % 26]:=by
 unfold core;rw[zX,zX]
 rfl
theorem Ym(k:Nat):(core k).length=3:=by rw[<- xM,wS];rfl
theorem JI(k:Nat):(ys k).length<=1:=by
 have h:=zaG (z:="y") (n:=((k % 2:Nat):Int)) rfl;unfold ys;lia
theorem wc(a b:Str):(a++b).length=a.length+b.length:=by rw[<- xM,zX,ud,xM,xM]
theorem zde{b:Bool}{k:Nat}(h:z.length<=6):(nm z b k).length<=10:=by
 have h1:=Ym k;have h2:=JI k;unfold nm;split
 .rw[wc,wc];lia
 .rw[wc,wc];lia
inductive spNm(vs:List V)(H:Hp)(Q:VK)(e_3:XK):Prop
 |mk (p:aO) (z:Str) (b:Bool) (xs:List V):∀k:Nat,(vs=[.ref p,.int (k:Nat)])->(H p=sO (.lst (.str z::.bl b::xs)))->(z.length<=6)->(Q (.str (nm z b k)) H)->spNm vs H Q e_3
def So(l:List Int):Prop:=∀x∈l,0<=x/\x<=2
theorem So.app{a b:List Int}(h:So a)(g:So b):So (a++b):=λx hx=>(uy.mp hx).elim (h x) (g x)
theorem So.nil:So []:=λx hx=>by cases hx
inductive spSorts(K:uc)(vs:List V)(H:Hp)(Q:VK)(e_3:XK):Prop
 |mk (st:aO) (l m:Nat):∀B:Nat,(vs=[.ref st,.int (l:Nat),.int (m:Nat)])->(l<=m)->(m<=9)->(Sta K H st B)->(B+11 < LIM)->(∀(H':Hp)(p:aO)(l:List Int),Kp st H H'->Sta K H' st (B+11)->H p=nO->l.length<=m->So l->H' p=sO (.lst (l.map V.int))->Q (.ref p) H')->spSorts K vs H Q e_3
section
variable{K:uc}
theorem scDraw:FnScope ["_law_state","_law_many","_law_k","_law_cell"] lS2 (zq Jy):=.ok
theorem zaI(F:Fun K "_law_draw" "_law_draw" Jy f fd)(m_len:mg "len"=nO):FnOk P w K mg base CX0 1 f fd lS2 (spDraw K):=by
 refine F.by scDraw ?_ ?_
 .rintro _ _ _ _ ⟨_,_,_,rfl,_⟩;rfl
 rintro _ _ _ _ H vs Q _ _ ⟨st,m,B,rfl,⟨a,ns,k,hst,hne,hS,hk⟩,hB,hm,q⟩;refine⟨_,
  (zh (sE 2 scDraw.nd (zM K !0))
  (zh (xS (zC yz (!2) zp) (Wh (!0) zp))
  (zh (zF (tN jB (!2) (zG (zB K) rfl m_len uP (jA1 (zM K !0))))
   (zi (zt (zC xH (xX (zT K) (zM K !0) !2) !1))) zw)
  (zh (sE 3 scDraw.nd (zC yz (zC Zb (!2) zp) zp))
  (zh (zF (tN vJ (zG (zB K) rfl m_len uP (jA1 (zM K !0))) zp)
   (zi (sE 3 scDraw.nd (zC yz (!3) (zC Zb (xX (zT K) (zM K !0) (zC xH (zC Zb (!2) zp) (zG (zB K) rfl m_len uP (jA1 (zM K !0))))) (zC yz zp !2))))) zw)
  (zi (zt (zC xH (zC xH (!3) zp) !1)))))))),?_⟩
 refine⟨_,rfl,ixL hst aI1 ?_⟩;refine⟨_,rfl,_,_,rfl,rfl,_,rfl,st,_,1,1,rfl,rfl,hst,rfl,?_⟩;have kp:Kp st H (upd H st (.lst [.ref a,.int ((k+1:Nat):Int)])):=⟨λb u n h=>by rw[zo n];exact h,λx y h=>by
  rw[hst]at h;cases h;exact⟨_,uX9⟩⟩
 have hst1:=uX9 (H:=H) (a:=st) (o:=.lst [.ref a,.int ((k+1:Nat):Int)]);have hS1:SqL K (upd H st (.lst [.ref a,.int ((k+1:Nat):Int)])) a (ns.map V.int):=by
  by_cases e:a=st
  .exact hne e _
  .exact kp.seq e hS
 have fin:∀r:Int,0<=r->r < m->Q (.int r) (upd H st (.lst [.ref a,.int ((k+1:Nat):Int)])):=λr h0 h1=>q _ r kp ⟨a,ns,k+1,hst1,hne,hS1,b8⟩ h0 h1;show(tSeq _ _:TS) _ _ (upd H st (.lst [.ref a,.int ((k+1:Nat):Int)]));generalize upd H st (.lst [.ref a,.int ((k+1:Nat):Int)])=H1 at *;have ix0:atI [V.ref a,V.int ((k+1:Nat):Int)] 0=sO (.ref a):=aI0;have mm:∀x:Int,0<=x % m/\x % m < m:=λx=>⟨Int.emod_nonneg x b8,Int.emod_lt_of_pos x hm⟩;refine⟨_,rfl,_,rfl,st,_,_,_,rfl,rfl,SqL.of hst1,ix0,_,_,rfl,.inl hS1,_,_,rfl,rfl,_,rfl,?_⟩;rw[ub];refine ite2 (λc=>?_) (λc=>?_)
 .rw[dA]at c
  have hi:k < ns.length:=b8
  have hx:(ns.map V.int)[k]?=sO (.int ns[k]):=by rw[uh,uj hi];rfl
  exact⟨_,rfl,st,_,_,_,rfl,rfl,SqL.of hst1,ix0,_,rfl,a,_,_,_,rfl,rfl,hS1,yx hx,_,rfl,_,_,rfl,rfl,hm,fin _ (mm _).1 (mm _).2⟩
 .refine⟨_,rfl,_,_,rfl,rfl,.inr ⟨b9,b9⟩,_,_,rfl,rfl,?_⟩
  have tail:∀(c:Int)(D:Ends),D.rt=Q->(tRet (tOp (rI (λ_ j=>0 < j) λi j=>V.int (i % j)) (tOp (rI (λ_ j=>0 < j) λi j=>V.int (i % j)) (tVar 3) (tC (.int 2147483629))) (tVar 1)):TS) D [sR st,sO (.int m),sO (.int (k:Nat)),sO (.int c)] H1:=λc D e=>by
   refine⟨_,rfl,_,_,rfl,rfl,(by show(0:Int) < _;decide),_,rfl,_,_,rfl,rfl,hm,?_⟩;rw[e];exact fin _ (mm _).1 (mm _).2
  refine⟨_,rfl,st,_,_,_,rfl,rfl,SqL.of hst1,ix0,_,_,rfl,.inl hS1,_,_,rfl,rfl,_,rfl,?_⟩;rw[ub];refine ite2 (λc2=>?_) (λc2=>tail _ _ rfl);rw[dA]at c2;have hl:(0:Int) < (ns.length:Nat):=b8
  have c0:=Int.emod_nonneg ((k:Nat)*7:Int) (show((ns.length:Nat):Int)≠0 by lia);have c1:=Int.emod_lt_of_pos ((k:Nat)*7:Int) hl;have hi:(((k:Nat)*7:Int) % (ns.length:Nat)).toNat < ns.length:=b8
  have hx:(ns.map V.int)[(((k:Nat)*7:Int) % (ns.length:Nat)).toNat]?=sO (.int ns[(((k:Nat)*7:Int) % (ns.length:Nat)).toNat]):=by rw[uh,uj hi];rfl
  have hx2:atI (ns.map V.int) (((k:Nat)*7:Int) % (ns.length:Nat))=sO (.int ns[(((k:Nat)*7:Int) % (ns.length:Nat)).toNat]):=by
   have e:=yx hx;rw[tK c0]at e;exact e
  refine⟨_,rfl,_,rfl,st,_,_,_,rfl,rfl,SqL.of hst1,ix0,_,rfl,_,_,rfl,rfl,.inr ⟨b9,b9⟩,_,rfl,st,_,_,_,rfl,rfl,SqL.of hst1,ix0,_,_,rfl,.inl hS1,_,_,rfl,rfl,(by rw[ub];exact hl),?_⟩;refine⟨a,_,_,_,rfl,rfl,hS1,(by rw[ub];exact hx2),_,rfl,_,_,rfl,rfl,_,_,rfl,rfl,.inr ⟨by show -(2 ^ 64) < (48271+(k:Nat):Int);lia,by show(48271+(k:Nat):Int) < 2 ^ 64;unfold LIM at hB;lia⟩,_,_,rfl,rfl,tail _ _ rfl⟩
theorem scNm:FnScope ["_law_world_here","_law_k","_law_letters","_law_core"] lS7 (zq sNm):=.ok
theorem zeh(F:Fun K "_law_name" "_law_name" sNm f fd):FnOk P w K mg base CX0 1 f fd lS7 spNm:=by
 refine F.by scNm ?_ ?_
 .rintro _ _ _ _ ⟨_,_,_,_,_,rfl,_⟩;rfl
 rintro _ _ _ _ H vs Q _ _ ⟨p,z,b,xs,k,rfl,hp,hz,q⟩;refine⟨_,
  (zh (sE 2 scNm.nd zu)
  (zh (sE 3 scNm.nd (zC yS (zC yS (xX Xd (!2) (zC xH (zC xZ (!1) zp) zp)) zu) (xX Xd (!2) (zC xH (zC xZ (!1) zp) zp))))
  (zh (zF (zS (zM K !0))
   (zi (zt (zC yS (zC yS (!3) (zM K !0)) (zC vK zu (zC xH (!1) zp))))) zw)
  (zi (zt (zC yS (zC yS (zC vK zu (zC xH (!1) zp)) (zM K !0)) !3)))))),?_⟩
 have sl:=zN;have e1:((k:Nat):Int) / 2 % 26=((k / 2 % 26:Nat):Int):=b8
 have e2:((k:Nat):Int) / 52 % 26=((k / 52 % 26:Nat):Int):=b8
 have e3:((k:Nat):Int) % 2=((k % 2:Nat):Int):=b8
 have cl3:=Ym k;have yl:=JI k;have ec:(⟨#[97+(((k:Nat):Int) / 2 % 26).toNat]⟩:Str)++("z":Str)++(⟨#[97+(((k:Nat):Int) / 52 % 26).toNat]⟩:Str)=core k:=by
  rw[e1,e2]
  rfl
 suffices rest:∀c3:Str,c3=core k->(tSeq _ _:TS) { nx:=λ_ H'=>Q .non H',rt:=Q } [sR p,sO (.int (k:Nat)),sO (.str LET),sO (.str c3)] H by
  exact⟨_,rfl,_,rfl,_,_,rfl,rfl,⟨b9,b9⟩,_,_,rfl,rfl,(by show(0:Int) < _;decide),LET,_,_,rfl,rfl,by rw[Zu];decide,Zt b8 b8,_,_,rfl,rfl,by show 1+1<=sizeLine;decide,_,rfl,_,rfl,_,_,rfl,rfl,⟨b9,b9⟩,_,_,rfl,rfl,(by show(0:Int) < _;decide),LET,_,_,rfl,rfl,by rw[Zu];decide,Zt b8 b8,_,_,rfl,rfl,by show 2+1<=sizeLine;decide,rest _ ec⟩
 rintro _ rfl;have mo:MulOk "y" (((k % 2:Nat):Int)):=zda rfl b8 b8;refine⟨_,rfl,ixL hp aI1 ⟨_,rfl,?_⟩⟩;unfold nm at q;cases b with
 |true =>
  rw[iP rfl]at q;refine iteT ?_;refine⟨_,rfl,_,rfl,ixL hp aI0 ⟨_,_,rfl,rfl,b8,_,rfl,_,_,rfl,rfl,(by show(0:Int) < _;decide),_,_,rfl,rfl,by rw[e3];exact mo,?_⟩⟩;rw[e3];exact⟨_,_,rfl,rfl,by rw[wc];show(core k).length+z.length+(ys k).length<=_;lia,q⟩
 |false =>
  rw[iN b9]at q;refine iteF ?_;refine⟨_,rfl,_,_,rfl,rfl,(by show(0:Int) < _;decide),_,_,rfl,rfl,by rw[e3];exact mo,?_⟩;rw[e3];refine⟨_,rfl,ixL hp aI0 ⟨_,_,rfl,rfl,by show(ys k).length+z.length<=_;lia,_,rfl,_,_,rfl,rfl,by show(Txt.mul "y" (((k % 2:Nat):Int))++z).length+(core k).length<=_;rw[wc];show(ys k).length+z.length+(core k).length<=_;lia,q⟩⟩
theorem zaJ:FnScope lS17 lS17 (zq Xm):=.ok
theorem zaK:(["_law_state","_law_least","_law_most","_law_k"]:lS).Nodup:=be
theorem JJ(F:Fun K "_law_sorts" "_law_sorts" Xm f fd)(GD:Ca P w K mg base CX0 1 "_law_draw" lS2 (spDraw K))(m_range:mg "range"=nO):FnOk P w K mg base CX0 2 f fd lS17 (spSorts K):=by
 refine F.by zaJ ?_ ?_
 .rintro _ _ _ _ ⟨_,_,_,_,rfl,_⟩;rfl
 rintro _ _ _ _ H vs _ _ hr ⟨st,l,m,B,rfl,hlm,hm,hS,hB,q⟩;refine⟨_,
  (zi (zt (yn ["_law_k"] rfl (yw rfl m_range (jA1 (zC yz (!1) (cA GD hr (jA2 (!0) (zC xo (zC yz (!2) zp) !1)))))) (λ_ _ _ _ _=>(gN 3 zaK)) (λ_ _ _ _ _=>zZ) (λ_ _ _ _ _=>(cA GD hr (jA2 (!0) zp)))))),?_⟩
 have sl:=zN;refine⟨_,rfl,_,rfl,_,rfl,_,_,rfl,rfl,_,rfl,_,_,rfl,rfl,st,_,B,rfl,hS,b8,b8,λH1 r k1 S1 r0 r1=>?_⟩;refine⟨_,_,rfl,rfl,_,rfl,b8,b8,yW (n:=(((l:Nat):Int)+r).toNat) (λi τ ys H'=>Kp st H H'/\Sta K H' st (B+1+i)/\(∃x,τ=[sR st,sO (.int (l:Nat)),sO (.int (m:Nat)),x])/\∃ns:List Int,ys=ns.map V.int/\ns.length=i/\So ns) ⟨k1,S1,⟨nO,rfl⟩,[],rfl,rfl,.nil⟩ ?_ ?_⟩
 .rintro i τ ys H2 hi ⟨k2,S2,⟨x,rfl⟩,ns,rfl,hl,hso⟩
  refine⟨_,rfl,st,3,B+1+i,rfl,S2,b8,b9,λH3 r3 k3 S3 q0 q1=>⟨bc,k2.trans k3,S3,⟨_,rfl⟩,ns++[r3],ba,by simp[hl],hso.app λx hx=>by rw[ut.mp hx];exact⟨q0,b8⟩⟩⟩
 .rintro τ ys H2 ⟨k2,S2,_,ns,rfl,hl,hso⟩ p hp
  exact q _ p ns (k2.new hp) ((S2.mono b8).new hp _) (k2.free (S2.ne hp) hp) b8 hso uX9
theorem Yn:∀{zs:lS},(∀z∈zs,z.length=1)->(Str.join "" zs).length=zs.length
 |[],_=>rfl
 |[x],h=>h x Ui
 |x::y::r,h=>by
  have ih:=Yn (zs:=y::r) λz hz=>h z (Uq _ hz);rw[<- xM,wP,ud,ud,xM,xM,xM,ih,h x Ui];show 1+(0+(y::r).length)=(y::r).length+1;lia
theorem Wi:∀{zs:lS},(∀z∈zs,∀c∈cl z,97<=c)->∀c∈cl (Str.join "" zs),97<=c
 |[],_,c,hc=>by cases hc
 |[x],h,c,hc=>h x Ui c hc
 |x::y::r,h,c,hc=>by
  rw[wP]at hc;rcases uy.mp hc with hc|hc
  .exact h x Ui c hc
  .rcases uy.mp hc with hc|hc
   .cases hc
   .exact Wi (zs:=y::r) (λz hz=>h z (Uq _ hz)) c hc
theorem JK{zs:lS}(h:∀z∈zs,z.length=1):wide "" zs=zs.length:=by
 unfold wide;have e:∀{l:lS},(∀z∈l,z.length=1)->(l.map (·.length)).sum=l.length:=by
  intro l
  induction l with
  |nil=>intro _;rfl
  |cons a l ih=>intro h;rw[uB,Uw,ih λz hz=>h z (Uq _ hz),h a Ui,ui];lia
 rw[e h]
 rfl
abbrev TS3:=List (Str×List Int×Int)
inductive Tri(H:Hp):TS3->List aO->Prop
 |nil:Tri H [] []
 |cons {z:Str} {s:List Int} {k:Int} {t q:aO} {l:TS3} {ts:List aO}:H t=sO (.tup [.str z,.ref q,.int k])->H q=sO (.lst (s.map V.int))->Tri H l ts->Tri H ((z,s,k)::l) (t::ts)
theorem Tri.keep{l:TS3}(h:Tri H l ts)(t:Tups H H')(i:∀q (s:List Int),H q=sO (.lst (s.map V.int))->H' q=sO (.lst (s.map V.int))):Tri H' l ts:=by
 induction h with
 |nil=>exact .nil
 |cons a b _ ih=>exact .cons (t _ _ a) (i _ _ b) ih
theorem Tri.kp{l:TS3}(h:Tri H l ts)(S:Sta K H st B)(k:Kp st H H'):Tri H' l ts:=h.keep (k.tups S) λq s e=>k.k _ _ (S.neI e) e
theorem Tri.app{a b:TS3}{p:List aO}(h:Tri H a p)(g:Tri H b q):Tri H (a++b) (p++q):=by
 induction h with
 |nil=>exact g
 |cons x y _ ih=>exact .cons x y ih
theorem Tri.len{l:TS3}(h:Tri H l ts):l.length=ts.length:=by
 induction h with
 |nil=>rfl
 |cons _ _ _ ih=>rw[ui,ui,ih]
theorem Tri.get{H:Hp}:∀{l:TS3}{ts:List aO}{i:Nat}{t:aO},Tri H l ts->ts[i]?=sO t->∃z s k q,l[i]?=sO (z,s,k)/\H t=sO (.tup [.str z,.ref q,.int k])/\H q=sO (.lst (s.map V.int))
 |_,_,_,_,.nil,e=>by simp at e
 |_,_,0,_,.cons a b _,e=>by
  simp at e
  subst e;exact⟨_,_,_,_,rfl,a,b⟩
 |_,_,i+1,_,.cons _ _ c,e=>by
  obtain⟨z,s,k,q,h1,h2⟩:=Tri.get (i:=i) c (by simpa using e);exact⟨z,s,k,q,bf,h2⟩
structure Wo where
 z:Str
 b:Bool
 tags:TS3
 defs:TS3
structure WOk(o:Wo):Prop where
 z:o.z.length<=6
 tn:o.tags.map (·.1)=(uQ 4).map (nm o.z o.b)
 tk:o.tags.map (·.2.2)=[1,1,1,2]
 ts:∀p∈o.tags,p.2.1.length<=9/\So p.2.1
 dn:o.defs.map (·.1)=(uQ 3).map λk=>nm o.z o.b (2-k)
 ds:∀p∈o.defs,p.2.1.length<=3/\So p.2.1/\0<=p.2.2/\p.2.2<=2
 zc:∀c∈cl o.z,97<=c
structure IsW(H:Hp)(o:Wo)(w:aO):Prop where
 ex:∃(tl dl:aO)(ts ds:List aO),H w=sO (.lst [.str o.z,.bl o.b,.ref tl,.ref dl])/\H tl=sO (.lst (ts.map V.ref))/\H dl=sO (.lst (ds.map V.ref))/\Tri H o.tags ts/\Tri H o.defs ds
 ok:WOk o
theorem IsW.kp{w:aO}{o:Wo}(h:IsW H o w)(S:Sta K H st B)(k:Kp st H H'):IsW H' o w:=by
 obtain⟨⟨tl,dl,ts,ds,h1,h2,h3,h4,h5⟩,ok⟩:=h;exact⟨⟨tl,dl,ts,ds,k.k _ _ (S.neW h1) h1,k.k _ _ (S.neR h2) h2,k.k _ _ (S.neR h3) h3,h4.kp S k,h5.kp S k⟩,ok⟩
theorem IsW.same{w:aO}{o:Wo}(h:IsW H o w)(s:Same H H'):IsW H' o w:=by
 obtain⟨⟨tl,dl,ts,ds,h1,h2,h3,h4,h5⟩,ok⟩:=h;exact⟨⟨tl,dl,ts,ds,s _ _ h1,s _ _ h2,s _ _ h3,h4.keep (.of s) (λ_ _ e=>s _ _ e),h5.keep (.of s) (λ_ _ e=>s _ _ e)⟩,ok⟩
theorem WOk.tlen{o:Wo}(h:WOk o):o.tags.length=4:=by
 have e:=congrArg tu h.tk;rw[ub]at e;exact e
theorem WOk.dlen{o:Wo}(h:WOk o):o.defs.length=3:=by
 have e:=congrArg tu h.dn;rw[ub,ub,UR]at e;exact e
inductive spWorld(K:uc)(vs:List V)(H:Hp)(Q:VK)(e_3:XK):Prop
 |mk (st:aO):∀B:Nat,(vs=[.ref st])->(Sta K H st B)->(B+200 < LIM)->(∀(H':Hp)(w:aO)(o:Wo),Kp st H H'->Sta K H' st (B+200)->IsW H' o w->Q (.ref w) H')->spWorld K vs H Q e_3
theorem Vc(k:Nat):(uT k [V.int 0]).flatten=(uT k (0:Int)).map V.int:=by
 induction k with
 |zero=>rfl
 |succ k ih=>rw[UG,tm,ih,UG,uB];rfl
theorem XA{H:Hp}:∀(nf:Nat->Str)(R:Nat->List Int->Int->Prop)(ts:List aO),(∀k t,ts[k]?=sO t->∃q s g,H t=sO (.tup [.str (nf k),.ref q,.int g])/\H q=sO (.lst (s.map V.int))/\R k s g)->∃l:TS3,Tri H l ts/\l.length=ts.length/\∀k p,l[k]?=sO p->p.1=nf k/\R k p.2.1 p.2.2
 |_,_,[],_=>⟨[],.nil,rfl,λk p h=>bg⟩
 |nf,R,t::ts,h=>by
  obtain⟨q,s,g,h1,h2,h3⟩:=h 0 t rfl;obtain⟨l,a,b,c⟩:=XA (λk=>nf (k+1)) (λk=>R (k+1)) ts λk u hu=>h (k+1) u (by simpa using hu);refine⟨(nf 0,s,g)::l,.cons h1 h2 a,by rw[ui,ui,b],λk p hp=>?_⟩;cases k with
  |zero =>
   simp at hp
   subst hp;exact⟨rfl,h3⟩
  |succ k=>exact c k p (by simpa using hp)
theorem names_of{α β:Type}{f:α->β}{g:Nat->β}{l:List α}(hl:l.length=n)(h:∀k p,l[k]?=sO p->f p=g k):l.map f=(uQ n).map g:=by
 apply List.ext_getElem?
 intro k;rw[uh,uh];rcases Nat.lt_or_ge k n with c|c
 .rw[tJ c,uj b8]
  simp[h k _ (uj b8)]
 .rw[List.getElem?_eq_none b8,List.getElem?_eq_none (by simp;lia)]
  rfl
theorem scWorld:FnScope ["_law_state","_law_letters","_law_stem","_law_world_here","_law_more","_law_some","_law_k"] ["_law_state"] (zq Xn):=.ok
theorem JL(F:Fun K "_law_world" "_law_world" Xn f fd)(GD:Ca P w K mg base CX0 1 "_law_draw" lS2 (spDraw K))(GN':Ca P w K mg base CX0 1 "_law_name" lS7 spNm)(GS:Ca P w K mg base CX0 2 "_law_sorts" lS17 (spSorts K))(m_range:mg "range"=nO):FnOk P w K mg base CX0 3 f fd ["_law_state"] (spWorld K):=by
 refine F.by scWorld ?_ ?_
 .rintro _ _ _ _ ⟨_,_,rfl,_⟩;rfl
 rintro _ _ _ s H vs _ _ hr ⟨st,B,rfl,S0,hB,q⟩;have hr1:Room 1 _:=hr.mono b9;refine⟨_,
  (zh (sE 1 scWorld.nd zu)
  (zh (sE 2 scWorld.nd (yO PySem.F.plainAttrs_str PySem.F.slot_str_join PySem.F.type_str_join zar zu (jA1 (vI [6] [] rfl (yw rfl m_range (jA1 (cA GD hr1 (jA2 (!0) zp)))) (λ_ _ _ _ _=>(gN 6 scWorld.nd)) (λ_ _ _ _ _=>zZ) (λ_ _ _ _ _=>(xX Xd (!1) (cA GD hr1 (jA2 (!0) zp))))))))
  (zh (sE 3 scWorld.nd (zI (jA4 (!2) (yM zJ (cA GD hr1 (jA2 (!0) zp)) zp (xv _)) (zI zQ) (zI zQ))))
  (zh (sE 4 scWorld.nd (zC zdb (zI (jA1 zp)) (zC Zb (zC xZ (cA GD hr1 (jA2 (!0) zp)) zp) (cA GD hr1 (jA2 (!0) zp)))))
  (zh (sE 5 scWorld.nd (zI (jA4 (zI zQ) (zC yP (cA GS hr (jA3 (!0) zp zp)) !4) (cA GS hr (jA3 (!0) zp zp)) (zC yP (cA GS hr (jA3 (!0) zp zp)) !4))))
  (zh (z5 PassesOwn.never rfl (yw rfl m_range (jA1 zp)) (gN 6 scWorld.nd)
   (zi (yg (yO uE uN uO zY (zM K !3) (jA1 (zy (jA3 (cA GN' hr1 (jA2 (!3) !6)) (xX (zT K) (!5) !6) (zC yz zp (zC xZ (!6) zp)))))))))
  (zh (z5 PassesOwn.never rfl (yw rfl m_range (jA1 zp)) (gN 6 scWorld.nd)
   (zi (yg (yO uE uN uO zY (zM K !3) (jA1 (zy (jA3 (cA GN' hr1 (jA2 (!3) (zC xo zp !6))) (cA GS hr (jA3 (!0) zp zp)) (cA GD hr1 (jA2 (!0) zp)))))))))
  (zi (zt !3))))))))),?_⟩
 have sl:=zN;unfold LIM at hB;have LM:LIM=4611686018427387904:=rfl;refine cut5 λr1_ hr1_=>?_;refine⟨rfl,_,rfl,st,7,B,rfl,S0,b8,b9,λH1 r k1 S1 r0 r1=>?_⟩;refine⟨_,rfl,b8,b8,yW (n:=r.toNat) (λi τ ys H'=>Kp st H H'/\Sta K H' st (B+1+i)/\(∃x,τ=[sR st,sO (.str LET),nO,nO,nO,nO,x])/\∃zs:lS,ys=zs.map V.str/\zs.length=i/\∀z∈zs,z.length=1/\∀c∈cl z,97<=c) ⟨k1,S1,⟨nO,rfl⟩,[],rfl,rfl,λz hz=>by cases hz⟩ ?_ ?_⟩
 .rintro i τ ys H2 hi ⟨k2,S2,⟨x,rfl⟩,zs,rfl,hl,h1⟩
  refine⟨_,rfl,_,rfl,st,26,B+1+i,rfl,S2,b8,b9,λH3 r3 k3 S3 q0 q1=>?_⟩;refine⟨LET,_,_,rfl,rfl,by rw[Zu];decide,Zt q0 q1,bc,k2.trans k3,S3,⟨_,rfl⟩,zs++[⟨#[97+r3.toNat]⟩],ba,by simp[hl],?_⟩;intro z hz;rcases uy.mp hz with hz|hz
  .exact h1 z hz
  .rw[ut.mp hz]
   refine⟨rfl,λc hc=>?_⟩;rw[show cl (⟨#[97+r3.toNat]⟩:Str)=[97+r3.toNat]from rfl]at hc;rw[ut.mp hc];lia
 rintro τ ys H2 ⟨k2,S2,_,zs,rfl,hl,h1⟩ pj hpj;have hzc:=Wi λz hz=>(h1 z hz).2
 replace h1:∀z∈zs,z.length=1:=λz hz=>(h1 z hz).1
 refine⟨"",pj,zs,rfl,rfl,SqL.of uX9,by rw[JK h1];lia,?_⟩;have zl:(Str.join "" zs).length<=6:=by rw[Yn h1];lia
 replace k2:=k2.new (o:=.lst (zs.map V.str)) hpj
 replace S2:=(S2.mono (show _<=B+7 by lia)).new hpj (.lst (zs.map V.str))
 generalize upd H2 pj (.lst (zs.map V.str))=H3 at *;generalize Str.join "" zs=z at *;refine⟨_,rfl,_,rfl,st,2,B+7,rfl,S2,b8,b9,λH4 r4 k4 S4 _ _=>?_⟩;refine⟨rfl,sN0,λtl h5=>⟨sN0,λdl h6=>⟨sN4,λw0 h7=>?_⟩⟩⟩;generalize decide (V.int r4=V.int 1)=b at *;have ntl:=S4.ne h5;have S5:=S4.new h5 (.lst []);have ndl:=S5.ne h6;have S6:=S5.new h6 (.lst []);have nw0:=S6.ne h7;have S7:=S6.new h7 (.lst [.str z,.bl b,.ref tl,.ref dl]);have ntd:tl≠dl:=zk (uX9 (H:=H4) (a:=tl) (o:=.lst [])) h6;have htl:upd (upd (upd H4 tl (.lst [])) dl (.lst [])) w0 (.lst [.str z,.bl b,.ref tl,.ref dl]) tl=sO (.lst []):=old h7 (old h6 uX9);have hdl:upd (upd (upd H4 tl (.lst [])) dl (.lst [])) w0 (.lst [.str z,.bl b,.ref tl,.ref dl]) dl=sO (.lst []):=old h7 uX9;have hw0:upd (upd (upd H4 tl (.lst [])) dl (.lst [])) w0 (.lst [.str z,.bl b,.ref tl,.ref dl]) w0=sO (.lst [.str z,.bl b,.ref tl,.ref dl]):=uX9;have k7:Kp st H (upd (upd (upd H4 tl (.lst [])) dl (.lst [])) w0 (.lst [.str z,.bl b,.ref tl,.ref dl])):=(((k2.trans k4).new h5).new h6).new h7;have f_tl:H tl=nO:=(k2.trans k4).free ntl h5;have f_dl:H dl=nO:=(k2.trans k4).free ndl (by rw[<- zo (H:=H4) (a:=tl) (o:=.lst []) ntd.symm];exact h6);clear h5 h6 h7 S5 S6 k4 S4;generalize upd (upd (upd H4 tl (.lst [])) dl (.lst [])) w0 (.lst [.str z,.bl b,.ref tl,.ref dl])=H5 at *;refine⟨sN1,λm0 h8=>?_⟩;have S8:=S7.new h8 (.lst [.int 0]);have nm0:=S7.ne h8;refine⟨_,rfl,st,6,_,rfl,S8,b8,b9,λH9 r9 k9 S9 q0 q1=>⟨_,_,rfl,rfl,⟨b9,b9⟩,_,rfl,st,7,_,rfl,S9,b8,b9,λH10 r10 k10 S10 q2 q3=>?_⟩⟩;have hmul:0<=r9 / 5*r10/\r9 / 5*r10<=6:=by
  have:r9 / 5=0\/r9 / 5=1:=b8
  rcases this with e|e<;>rw[e]<;>lia
 have hm0:=(k9.trans k10).k _ _ nm0 (uX9 (H:=H5) (a:=m0) (o:=.lst [.int 0]));refine⟨_,_,rfl,rfl,.inl ⟨b8,b8⟩,m0,_,_,rfl,rfl,hm0,b8,b8,by show 1*_<=_;lia,λpm h11=>?_⟩;rw[Vc];generalize hz9:uT (r9 / 5*r10).toNat (0:Int)=zr;have ozr:So zr:=by
  intro x hx;rw[<- hz9]at hx;rw[List.eq_of_mem_replicate hx];exact⟨b9,b9⟩
 have hzr:zr.length<=6:=by rw[<- hz9,Uz];lia
 have k11:Kp st H5 (upd H10 pm (.lst (zr.map V.int))):=(((Kp.refl.new h8).trans k9).trans k10).new h11;have S11:=S10.new h11 (.lst (zr.map V.int));have hpm:=uX9 (H:=H10) (a:=pm) (o:=.lst (zr.map V.int));clear hm0 h11 S10 S9 S8 k9 k10 h8;generalize upd H10 pm (.lst (zr.map V.int))=H6 at *
 replace htl:=k11.k _ _ ntl htl
 replace hdl:=k11.k _ _ ndl hdl
 replace hw0:=k11.k _ _ nw0 hw0
 replace k11:=k7.trans k11
 refine⟨sN0,λe0 h12=>?_⟩;have S12:=S11.new h12 (.lst []);have ne0:=S11.ne h12;refine⟨_,rfl,st,1,3,_,rfl,b9,b9,S12,b8,λH13 p1 l1 k13 S13 f1 b1 o1 hp1=>?_⟩;have hpm13:=k13.k _ _ (S12.neI (old h12 hpm)) (old h12 hpm);refine⟨_,rfl,p1,pm,_,_,rfl,rfl,hp1,hpm13,bp,λc1 h14=>?_⟩;rw[<- ur];have S14:=S13.new h14 (.lst ((l1++zr).map V.int));refine⟨_,rfl,st,0,2,_,rfl,b9,b9,S14,b8,λH15 p2 l2 k15 S15 f2 b2 o2 hp2=>?_⟩;refine⟨_,rfl,st,1,3,_,rfl,b9,b9,S15,b8,λH16 p3 l3 k16 S16 f3 b3 o3 hp3=>?_⟩;have hpm14:=old (o:=.lst ((l1++zr).map V.int)) h14 hpm13;have hpm15:=k15.k _ _ (S14.neI hpm14) hpm14;have hpm16:=k16.k _ _ (S15.neI hpm15) hpm15;refine⟨_,rfl,p3,pm,_,_,rfl,rfl,hp3,hpm16,bp,λc3 h17=>?_⟩;rw[<- ur];refine⟨sN4,λsm h18=>?_⟩;have S17:=S16.new h17 (.lst ((l3++zr).map V.int));have S18:=S17.new h18 (.lst [.ref e0,.ref c1,.ref p2,.ref c3]);have k18:Kp st H6 (upd (upd H16 c3 (.lst ((l3++zr).map V.int))) sm (.lst [.ref e0,.ref c1,.ref p2,.ref c3])):=((((((Kp.refl.new h12).trans k13).new h14).trans k15).trans k16).new h17).new h18;have he0:=(((((k13.new h14).trans k15).trans k16).new h17).new (o:=.lst [.ref e0,.ref c1,.ref p2,.ref c3]) h18).k _ _ ne0 (uX9 (H:=H6) (a:=e0) (o:=.lst []));have hc1:=(((k15.trans k16).new h17).new (o:=.lst [.ref e0,.ref c1,.ref p2,.ref c3]) h18).k c1 _ (S13.ne h14) (uX9 (H:=H13) (a:=c1) (o:=.lst ((l1++zr).map V.int)));have hp2':=((k16.new h17).new (o:=.lst [.ref e0,.ref c1,.ref p2,.ref c3]) h18).k _ _ (S15.neI hp2) hp2;have hc3:=old (o:=.lst [.ref e0,.ref c1,.ref p2,.ref c3]) h18 (uX9 (H:=H16) (a:=c3) (o:=.lst ((l3++zr).map V.int)));have hsm:=uX9 (H:=upd H16 c3 (.lst ((l3++zr).map V.int))) (a:=sm) (o:=.lst [.ref e0,.ref c1,.ref p2,.ref c3]);have k13':=(Kp.refl.new (o:=.lst []) h12).trans k13;have k16':=((k13'.new (o:=.lst ((l1++zr).map V.int)) h14).trans k15).trans k16;have apart:∀p,p≠st->H6 p=sO (.lst [])->p≠e0/\p≠c1/\p≠p2/\p≠c3/\p≠sm:=λp n hp=>by
  have g13:=k13'.k _ _ n hp;have g16:=k16'.k _ _ n hp;exact⟨zk hp h12,zk g13 h14,zk (old h14 g13) f2,zk g16 h17,zk (old h17 g16) h18⟩
 obtain⟨nt0,nt1,nt2,nt3,nts⟩:=apart tl ntl htl;obtain⟨nd0,nd1,nd2,nd3,nds⟩:=apart dl ndl hdl
 replace htl:=k18.k _ _ ntl htl
 replace hdl:=k18.k _ _ ndl hdl
 replace hw0:=k18.k _ _ nw0 hw0
 have kA:=k11.trans k18;have nwt:w0≠tl:=yE hw0 htl bq;have nwd:w0≠dl:=yE hw0 hdl bq
 replace S18:=S18.mono (show _<=B+43 by lia)
 have n0s:=ne0;have n1s:=S18.neI hc1;have n2s:=S18.neI hp2';have n3s:=S18.neI hc3;have nss:=S18.neR (ts:=[e0,c1,p2,c3]) hsm;clear hp1 hpm13 hp3 hpm16 hpm15 hpm14 hpm hp2 S17 S16 S15 S14 S13 S12 S11 k13' k16' k13 k15 k16 k18 apart S7 k7 k11;generalize upd (upd H16 c3 (.lst ((l3++zr).map V.int))) sm (.lst [.ref e0,.ref c1,.ref p2,.ref c3])=H0 at *
 let Fx:Hp->Prop:=λH'=>∀b u,b≠st->b≠tl->b≠dl->H0 b=sO u->H' b=sO u
 have Fx.kp:∀{H1 H2:Hp},Fx H1->Kp st H1 H2->Fx H2:=λf k b u n1 n2 n3 h=>k.k _ _ n1 (f b u n1 n2 n3 h);have Fx.tl:∀{H1:Hp}{o:HO},Fx H1->Fx (upd H1 tl o):=λf b u n1 n2 n3 h=>by rw[zo n2];exact f b u n1 n2 n3 h
 have Fx.dl:∀{H1:Hp}{o:HO},Fx H1->Fx (upd H1 dl o):=λf b u n1 n2 n3 h=>by rw[zo n3];exact f b u n1 n2 n3 h
 let AD:Nat->aO:=λk=>if k=0 then e0 else if k=1 then c1 else if k=2 then p2 else c3
 let SS:Nat->List Int:=λk=>if k=0 then[]else if k=1 then l1++zr else if k=2 then l2 else l3++zr
 have hAD:∀{H':Hp}(k:Nat),Fx H'->H' (AD k)=sO (.lst ((SS k).map V.int)):=λ{H'} k fx=>by
  show H' (if k=0 then e0 else if k=1 then c1 else if k=2 then p2 else c3)=sO (.lst ((if k=0 then([]:List Int)else if k=1 then l1++zr else if k=2 then l2 else l3++zr).map V.int));by_cases c0:k=0
  .rw[iP c0,iP c0];exact fx _ _ n0s nt0.symm nd0.symm he0
  .rw[iN c0,iN c0]
   by_cases c1:k=1
   .rw[iP c1,iP c1];exact fx _ _ n1s nt1.symm nd1.symm hc1
   .rw[iN c1,iN c1]
    by_cases c2:k=2
    .rw[iP c2,iP c2];exact fx _ _ n2s nt2.symm nd2.symm hp2'
    .rw[iN c2,iN c2];exact fx _ _ n3s nt3.symm nd3.symm hc3
 have hSS:∀k,(SS k).length<=9/\So (SS k):=λk=>by
  show(if k=0 then([]:List Int)else if k=1 then l1++zr else if k=2 then l2 else l3++zr).length<=9/\So (if k=0 then([]:List Int)else if k=1 then l1++zr else if k=2 then l2 else l3++zr);split
  .exact⟨b9,.nil⟩
  .split
   .exact⟨by rw[ud];lia,o1.app ozr⟩
   .split
    .exact⟨b8,o2⟩
    .exact⟨by rw[ud];lia,o3.app ozr⟩
 have aAD:∀k,k < 4->[V.ref e0,V.ref c1,V.ref p2,V.ref c3][k]?=sO (V.ref (AD k)):=λk hk=>by
  match k,hk with
  |0,_=>rfl
  |1,_=>rfl
  |2,_=>rfl
  |3,_=>rfl
 subst hr1_;refine⟨_,rfl,b9,b9,wX (n:=4) (λi σ H'=>Fx H'/\Kp st H H'/\Sta K H' st (B+43)/\H' dl=sO (.lst [])/\(∃ts:List aO,H' tl=sO (.lst (ts.map V.ref))/\ts.length=i/\∀k t,ts[k]?=sO t->H' t=sO (.tup [.str (nm z b k),.ref (AD k),.int (1+((k:Nat):Int) / 3)]))/\∃x,σ=[sR st,sO (.str LET),sO (.str z),sR w0,sR pm,sR sm,x])
  ⟨λb u _ _ _ h=>h,kA,S18,hdl,⟨[],htl,rfl,λk t h=>bg⟩,nO,rfl⟩ ?_ ?_⟩
 .rintro i σ H1 hi ⟨fx,kp,S1,hd1,⟨ts,ht1,hl1,hts⟩,x,rfl⟩
  have hw1:=fx _ _ nw0 nwt nwd hw0;unfold wz;dsimp only[U7]
  refine cutD (λD_ fin=>?_) (λ_ _ h=>h);refine⟨_,rfl,ixL hw1 aI2 ⟨.inl ⟨rfl,_,SqL.of ht1⟩,_,rfl,_,rfl,w0,z,b,_,i,(by show[V.ref w0,V.int (0+(i:Nat))]=_;rw[Int.zero_add]),hw1,zl,?_⟩⟩;refine⟨_,rfl,_,rfl,sm,_,_,_,rfl,rfl,SqL.of (fx _ _ nss nts.symm nds.symm hsm),(by rw[Int.zero_add];exact yx (aAD i hi)),_,rfl,_,_,rfl,rfl,⟨b9,b9⟩,_,_,rfl,rfl,sN3,λt ht=>?_⟩;rw[Int.zero_add];have tp:Tups H1 (upd (upd H1 t (.tup [.str (nm z b i),.ref (AD i),.int (1+((i:Nat):Int) / 3)])) tl (.lst (ts.map V.ref++[.ref t]))):=λp xs hp=>by
   rw[zo (yE hp ht1 bq)];exact old ht hp
  refine⟨tl,_,_,rfl,rfl,old ht ht1,bc,fin _ _ ⟨Fx.tl (Fx.kp fx (Kp.refl.new ht)),(kp.new ht).put f_tl,Sta.put S0 f_tl (kp.new ht) (S1.new ht _),?_,⟨ts++[t],by rw[uX9];simp,by simp[hl1],λk u hu=>?_⟩,_,rfl⟩⟩
  .rw[zo ntd.symm]
   exact old ht hd1
  .rcases Nat.lt_or_ge k ts.length with c|c
   .rw[Ur c]at hu
    exact tp _ _ (hts k u hu)
   .rw[UA c]at hu
    have c':k=i:=by
     have:=(uf.mp hu).1
     simp at this
     lia
    subst c';rw[hl1,Nat.sub_self]at hu;simp at hu
    subst hu;rw[zo (zk ht1 ht).symm];exact uX9
 rintro σ H1 ⟨fx1,kp1,S1,hd1,⟨ts,ht1,hl1,hts⟩,x,rfl⟩;refine⟨_,rfl,b9,b9,wX (n:=3) (λi σ H'=>Fx H'/\Kp st H H'/\Sta K H' st (B+43+12*i)/\(H' tl=sO (.lst (ts.map V.ref))/\∀k t,ts[k]?=sO t->H' t=sO (.tup [.str (nm z b k),.ref (AD k),.int (1+((k:Nat):Int) / 3)]))/\(∃ds:List aO,H' dl=sO (.lst (ds.map V.ref))/\ds.length=i/\∀k t,ds[k]?=sO t->∃(q:aO)(s:List Int)(g:Int),H' t=sO (.tup [.str (nm z b (2-k)),.ref q,.int g])/\H' q=sO (.lst (s.map V.int))/\(s.length<=3/\So s/\0<=g/\g<=2)/\q≠dl/\q≠st)/\∃x,σ=[sR st,sO (.str LET),sO (.str z),sR w0,sR pm,sR sm,x])
  ⟨fx1,kp1,S1,⟨ht1,hts⟩,⟨[],hd1,rfl,λk t h=>bg⟩,_,rfl⟩ ?_ ?_⟩
 .rintro i σ H2 hi ⟨fx,kp,S2,⟨ht2,hts2⟩,⟨ds,hd2,hl2,hds⟩,x,rfl⟩
  have hw1:=fx _ _ nw0 nwt nwd hw0;have e2:(2:Int)-(0+(i:Nat))=((2-i:Nat):Int):=b8
  unfold wz;dsimp only[U7]
  refine cutD (λD_ fin=>?_) (λ_ _ h=>h);refine⟨_,rfl,ixL hw1 aI3 ⟨.inl ⟨rfl,_,SqL.of hd2⟩,_,rfl,_,rfl,_,_,rfl,rfl,w0,z,b,_,2-i,(by show[V.ref w0,V.int (2-(0+(i:Nat)))]=_;rw[e2]),hw1,zl,?_⟩⟩;refine⟨_,rfl,st,0,3,_,rfl,b9,b9,S2,b8,λH3 p l k3 S3 f3 b3 o3 hp3=>?_⟩;refine⟨_,rfl,st,3,_,rfl,S3,b8,b9,λH4 r k4 S4 g0 g1=>⟨sN3,λt ht=>?_⟩⟩;have k24:=k3.trans k4;have hp4:=k4.k _ _ (S3.neI hp3) hp3;have hd4:=k24.k _ _ ndl hd2;have ht4:=k24.k _ _ ntl ht2;have npd:p≠dl:=(zk hd2 f3).symm;have tp:Tups H2 (upd (upd H4 t (.tup [.str (nm z b (2-i)),.ref p,.int r])) dl (.lst (ds.map V.ref++[.ref t]))):=λa xs ha=>by
   have g:=k24.tups S2 _ _ ha;rw[zo (yE g hd4 bq)];exact old ht g
  have kpt:=(kp.trans k24).new (o:=.tup [.str (nm z b (2-i)),.ref p,.int r]) ht;refine⟨dl,_,_,rfl,rfl,old ht hd4,bc,fin _ _ ⟨Fx.dl (Fx.kp fx (k24.new ht)),kpt.put f_dl,Sta.put S0 f_dl kpt ((S4.mono b8).new ht _),⟨?_,λk u hu=>tp _ _ (hts2 k u hu)⟩,⟨ds++[t],by rw[uX9];simp,by simp[hl2],λk u hu=>?_⟩,_,rfl⟩⟩
  .rw[zo ntd]
   exact old ht ht4
  .rcases Nat.lt_or_ge k ds.length with c|c
   .rw[Ur c]at hu
    obtain⟨q,s,g,h1,h2,h3,h4,h5⟩:=hds k u hu;exact⟨q,s,g,tp _ _ h1,by rw[zo h4];exact old ht (k24.k _ _ h5 h2),h3,h4,h5⟩
   .rw[UA c]at hu
    have c':k=i:=by
     have:=(uf.mp hu).1
     simp at this
     lia
    subst c';rw[hl2,Nat.sub_self]at hu;simp at hu
    subst hu;exact⟨p,l,r,by rw[zo (zk hd4 ht).symm];exact uX9,by rw[zo npd];exact old ht hp4,⟨b3,o3,g0,b8⟩,npd,S3.neI hp3⟩
 rintro σ H2 ⟨fx,kp,S2,⟨ht2,hts2⟩,⟨ds,hd2,hl2,hds⟩,x,rfl⟩;obtain⟨tags,hT,lT,aT⟩:=XA (H:=H2) (nm z b) (λk s g=>(s.length<=9/\So s)/\g=1+((k:Nat):Int) / 3) ts λk t h=>⟨AD k,SS k,_,hts2 k t h,hAD k fx,hSS k,rfl⟩;obtain⟨defs,hD,lD,aD⟩:=XA (H:=H2) (λk=>nm z b (2-k)) (λk s g=>s.length<=3/\So s/\0<=g/\g<=2) ds λk t h=>by
  obtain⟨q,s,g,h1,h2,h3,_⟩:=hds k t h;exact⟨q,s,g,h1,h2,h3⟩
 refine⟨_,rfl,q _ w0 ⟨z,b,tags,defs⟩ kp (S2.mono b8) ⟨⟨tl,dl,ts,ds,fx _ _ nw0 nwt nwd hw0,ht2,hd2,hT,hD⟩,?_⟩⟩;refine⟨zl,names_of (by show tags.length=4;lia) λk p h=>(aT k p h).1,?_,λp hp=>?_,names_of (by show defs.length=3;lia) λk p h=>(aD k p h).1,λp hp=>?_,hzc⟩
 .have e:([1,1,1,2]:List Int)=(uQ 4).map λk=>1+((k:Nat):Int) / 3:=b9
  show tags.map (·.2.2)=[1,1,1,2];rw[e];exact names_of b8 λk p h=>(aT k p h).2.2
 .obtain⟨k,h⟩:=U9.mp hp
  exact(aT k p h).2.1
 .obtain⟨k,h⟩:=U9.mp hp
  exact(aD k p h).2
inductive Tps(H:Hp):List (Str×Int)->List aO->Prop
 |nil:Tps H [] []
 |cons {a:Str} {s:Int} {t:aO} {l:List (Str×Int)} {ts:List aO}:H t=sO (.tup [.str a,.int s])->Tps H l ts->Tps H ((a,s)::l) (t::ts)
theorem Tps.keep(t:Tups H H'){l:List (Str×Int)}(h:Tps H l ts):Tps H' l ts:=by
 induction h with
 |nil=>exact .nil
 |cons a _ ih=>exact .cons (t _ _ a) ih
theorem Tps.app{a b:List (Str×Int)}{p:List aO}(h:Tps H a p)(g:Tps H b q):Tps H (a++b) (p++q):=by
 induction h with
 |nil=>exact g
 |cons x _ ih=>exact .cons x ih
theorem Tps.len{l:List (Str×Int)}(h:Tps H l ts):l.length=ts.length:=by
 induction h with
 |nil=>rfl
 |cons _ _ ih=>rw[ui,ui,ih]
theorem Tps.get{H:Hp}:∀{l:List (Str×Int)}{ts:List aO}{i:Nat}{t:aO},Tps H l ts->ts[i]?=sO t->∃a s,l[i]?=sO (a,s)/\H t=sO (.tup [.str a,.int s])
 |_,_,_,_,.nil,e=>by simp at e
 |_,_,0,_,.cons a _,e=>by
  simp at e
  subst e;exact⟨_,_,rfl,a⟩
 |_,_,i+1,_,.cons _ b,e=>by
  obtain⟨a,s,h1,h2⟩:=Tps.get (i:=i) b (by simpa using e);exact⟨a,s,bf,h2⟩
theorem Yo{α β:Type}{l:List α}{x:α}(f:α->β)(h:l[i]?=sO x):(l.take i).map f++[f x]=(l.take (i+1)).map f:=by
 rw[uA,h,ur]
 rfl
theorem Yp{α:Type}{l:List α}{x:α}(p:α->Bool)(h:l[i]?=sO x):(l.take (i+1)).filter p=(l.take i).filter p++(if p x=tU then[x]else[]):=by
 rw[uA,h,U4]
 congr 1
 cases e:p x<;>simp[e]
structure Sc(H:Hp)(l:List (Str×Int))(sc:aO):Prop where
 ex:∃ts,H sc=sO (.lst (ts.map V.ref))/\Tps H l ts
 n:l.length<=1000
 s:∀p∈l,0<=p.2/\p.2<=13
theorem Sc.kp{sc:aO}{l:List (Str×Int)}(h:Sc H l sc)(S:Sta K H st B)(k:Kp st H H'):Sc H' l sc:=by
 obtain⟨⟨ts,h1,h2⟩,n,s⟩:=h;exact⟨⟨ts,k.k _ _ (S.neR h1) h1,h2.keep (k.tups S)⟩,n,s⟩
theorem Sc.same{sc:aO}{l:List (Str×Int)}(h:Sc H l sc)(k:Same H H'):Sc H' l sc:=by
 obtain⟨⟨ts,h1,h2⟩,n,s⟩:=h;exact⟨⟨ts,k _ _ h1,h2.keep (.of k)⟩,n,s⟩
inductive spPick(K:uc)(vs:List V)(H:Hp)(Q:VK)(e_3:XK):Prop
 |mk (st sc:aO) (s:Int) (B:Nat):∀l:List (Str×Int),(vs=[.ref st,.ref sc,.int s])->(Sta K H st B)->(B+2 < LIM)->(Sc H l sc)->(l≠[])->(∀(H':Hp)(x:Str),Kp st H H'->Sta K H' st (B+2)->x∈l.map (·.1)->Q (.str x) H')->spPick K vs H Q e_3
inductive spPicks(K:uc)(vs:List V)(H:Hp)(Q:VK)(e_3:XK):Prop
 |mk (st sc q:aO) (s:List Int) (B:Nat):∀l:List (Str×Int),(vs=[.ref st,.ref sc,.ref q])->(Sta K H st B)->(B+80 < LIM)->(Sc H l sc)->(l≠[])->(H q=sO (.lst (s.map V.int)))->(s.length<=40)->(∀(H':Hp)(p:aO)(xs:lS),Kp st H H'->Sta K H' st (B+80)->H' p=sO (.tup (xs.map V.str))->xs.length=s.length->(∀x∈xs,x∈l.map (·.1))->Q (.ref p) H')->spPicks K vs H Q e_3
theorem scPick:FnScope ["_law_state","_law_scope","_law_sort","_law_some"] lS4 (zq Jz):=.ok
theorem Zv:(["_law_state","_law_scope","_law_sort","_law_some","_law_name_here","_law_one"]:lS).Nodup:=be
theorem zaL(F:Fun K "_law_pick" "_law_pick" Jz f fd)(GD:Ca P w K mg base CX0 1 "_law_draw" lS2 (spDraw K))(m_len:mg "len"=nO):FnOk P w K mg base CX0 2 f fd lS4 (spPick K):=by
 refine F.by scPick ?_ ?_
 .rintro _ _ _ _ ⟨_,_,_,_,_,rfl,_⟩;rfl
 rintro _ _ _ s H vs _ _ hr ⟨st,sc,s,B,l,rfl,S0,hB,hSc,hl0,q⟩;obtain⟨⟨ts,hsc,hT⟩,hn,_⟩:=hSc;refine⟨_,
  (zh (yu ["_law_name_here","_law_one"] (i:=3) scPick.nd rfl (Or.inl rfl) rfl (zU K !1) (λ_ _ _ _ _=>(zW K (n:=2) rfl (zx (gN 4 Zv) (zx (gN 5 Zv) zV)))) (λ_ _ _ _ _=>(yD (tN zJ (!5) !2))) (λ_ _ _ _ _=>!4))
  (zh (zF (jW.pt (yI (tN (Xg hr) (!3) (zI zQ)) (yG (tN zJ (cA GD hr (jA2 (!0) zp)) zp))))
   (zi (yu ["_law_name_here","_law_one"] (i:=3) scPick.nd rfl (Or.inl rfl) rfl (zU K !1) (λ_ _ _ _ _=>(zW K (n:=2) rfl (zx (gN 4 Zv) (zx (gN 5 Zv) zV)))) (λ_ _ _ _ _=>zZ) (λ_ _ _ _ _=>!4))) zw)
  (zi (zt (xX (zT K) (!3) (cA GD hr (jA2 (!0) (zG (zB K) rfl m_len uP (jA1 !3))))))))),?_⟩
 have sl:=zN;have LM:LIM=4611686018427387904:=rfl;have htl:=hT.len;refine(show ∀(u:TS)(D:Ends),(∀(H':Hp)(p:aO)(xs:lS),Kp st H H'->Sta K H' st (B+1)->H' p=sO (.lst (xs.map V.str))->xs≠[]->(∀x∈xs,x∈l.map (·.1))->u D [sR st,sR sc,sO (.int s),sR p] H')->(tSeq _ (tSeq _ u):TS) D _ H from ?key) _ _ ?rest
 case key =>
  intro u D tail;refine(zv rfl rfl ⟨⟨_,SqL.of hsc⟩,yy (xs:=ts.map V.ref) (λj τ ys H'=>H=H'/\(∃u v,τ=[sR st,sR sc,sO (.int s),nO,u,v])/\ys=((l.take j).filter λa=>decide (V.int a.2=V.int s)).map λa=>V.str a.1) ⟨rfl,⟨nO,nO,rfl⟩,rfl⟩ (λj τ ys H' _ h=>by rw[<- h.1];exact SqL.of hsc) ?_ ?_⟩)
  .rintro j v τ ys H3 hv ⟨rfl,⟨u,v',rfl⟩,rfl⟩
   obtain⟨tq,htq,rfl⟩:=L2.gM hv;obtain⟨a,n,e1,e2⟩:=hT.get htq;have hj:j < l.length:=(uf.mp e1).1;have tf:=Yp (λa:Str×Int=>decide (V.int a.2=V.int s)) e1;refine⟨_,_,rfl,SqT.of e2,rfl,_,_,rfl,_,_,rfl,rfl,(zv rfl rfl ⟨rfl,¬?_⟩)⟩;refine ite2 (λc=>?_) (λc=>?_)
   .refine¬⟨?_,rfl,⟨_,_,rfl⟩,?_⟩
    .rw[ub]
     have:=uM (λa:Str×Int=>decide (V.int a.2=V.int s)) (l.take j)
     rw[uv]at this;lia
    .rw[tf,iP c,ur]
     rfl
   .refine⟨rfl,⟨_,_,rfl⟩,?_⟩
    rw[tf,iN c,u7]
  rintro τ ys H3 ⟨rfl,_,rfl⟩ p1 hp1;rw[ub,<- htl,um (uk _)];generalize hf:l.filter (λa:Str×Int=>decide (V.int a.2=V.int s))=fl;have hfm:∀x∈fl.map (·.1),x∈l.map (·.1):=λx hx=>by
   obtain⟨a,h1,h2⟩:=uz.mp hx;rw[<- hf]at h1;exact uz.mpr ⟨a,(UL.mp h1).1,h2⟩
  have em:(fl.map λa=>V.str a.1)=(fl.map (·.1)).map V.str:=by rw[UP];rfl
  rw[em];have k1:Kp st H (upd H p1 (.lst ((fl.map (·.1)).map V.str))):=Kp.refl.new hp1;have S1:=S0.new hp1 (.lst ((fl.map (·.1)).map V.str));have h1:=uX9 (H:=H) (a:=p1) (o:=.lst ((fl.map (·.1)).map V.str));generalize upd H p1 (.lst ((fl.map (·.1)).map V.str))=H4 at *;refine¬⟨sN0,λpe h2=>?_⟩;have k2:=k1.new (o:=.lst []) h2;have S2:=S1.new h2 (.lst []);have h12:=old (o:=.lst []) h2 h1;refine⟨_,_,_,rfl,rfl,SqL.of h12,SqL.of uX9,¬?_⟩;show if(if fO=tU then !((fl.map (·.1)).map V.str).isEmpty else((fl.map (·.1)).map V.str).isEmpty)=tU then _ else _
  generalize upd H4 pe (.lst [])=H5 at *;by_cases hfe:fl=[]
  .have e0:((fl.map (·.1)).map V.str).isEmpty=tU:=by rw[hfe];rfl
   rw[e0];refine iteT ?_;obtain⟨hsc2,hT2⟩:H5 sc=sO (.lst (ts.map V.ref))/\Tps H5 l ts:=⟨(k2).k _ _ (S0.neR hsc) hsc,hT.keep ((k2).tups S0)⟩;refine(zv rfl rfl ⟨⟨_,SqL.of hsc2⟩,yy (xs:=ts.map V.ref) (λj τ ys H'=>H5=H'/\(∃u v,τ=[sR st,sR sc,sO (.int s),sR p1,u,v])/\ys=(l.take j).map λa=>V.str a.1) ⟨rfl,⟨nO,nO,rfl⟩,rfl⟩ (λj τ ys H' _ h=>by rw[<- h.1];exact SqL.of hsc2) ?_ ?_⟩)
   .rintro j v τ ys H3 hv ⟨rfl,⟨u,v',rfl⟩,rfl⟩
    obtain⟨tq,htq,rfl⟩:=L2.gM hv;obtain⟨a,n,e1,e2⟩:=hT2.get htq;have hj:j < l.length:=(uf.mp e1).1;refine⟨_,_,rfl,SqT.of e2,rfl,_,_,rfl,_,_,rfl,rfl,¬⟨?_,rfl,⟨_,_,rfl⟩,Yo (λa:Str×Int=>V.str a.1) e1⟩⟩;rw[ub,uv];lia
   .rintro τ ys H3 ⟨rfl,_,rfl⟩ p2 hp2
    rw[ub,<- htl,um (uk _)];have em:(l.map λa=>V.str a.1)=(l.map (·.1)).map V.str:=by rw[UP];rfl
    rw[em];exact tail _ p2 (l.map (·.1)) ((k2).new hp2) (((S2).mono b8).new hp2 _) uX9 (by simpa using hl0) (λx hx=>hx)
  .have e0:((fl.map (·.1)).map V.str).isEmpty=fO:=by
    cases fl with
    |nil=>exact absurd rfl hfe
    |cons _ _=>rfl
   rw[e0];refine iteF ?_;refine¬⟨st,16,B,rfl,S2,b8,b9,λH6 r k6 S6 _ _=>?_⟩;have k26:=k2.trans k6;refine⟨rfl,¬?_⟩;refine ite2 (λ_=>?_) (λ_=>?_)
   .obtain⟨hsc2,hT2⟩:H6 sc=sO (.lst (ts.map V.ref))/\Tps H6 l ts:=⟨(k26).k _ _ (S0.neR hsc) hsc,hT.keep ((k26).tups S0)⟩
    refine(zv rfl rfl ⟨⟨_,SqL.of hsc2⟩,yy (xs:=ts.map V.ref) (λj τ ys H'=>H6=H'/\(∃u v,τ=[sR st,sR sc,sO (.int s),sR p1,u,v])/\ys=(l.take j).map λa=>V.str a.1) ⟨rfl,⟨nO,nO,rfl⟩,rfl⟩ (λj τ ys H' _ h=>by rw[<- h.1];exact SqL.of hsc2) ?_ ?_⟩)
    .rintro j v τ ys H3 hv ⟨rfl,⟨u,v',rfl⟩,rfl⟩
     obtain⟨tq,htq,rfl⟩:=L2.gM hv;obtain⟨a,n,e1,e2⟩:=hT2.get htq;have hj:j < l.length:=(uf.mp e1).1;refine⟨_,_,rfl,SqT.of e2,rfl,_,_,rfl,_,_,rfl,rfl,¬⟨?_,rfl,⟨_,_,rfl⟩,Yo (λa:Str×Int=>V.str a.1) e1⟩⟩;rw[ub,uv];lia
    .rintro τ ys H3 ⟨rfl,_,rfl⟩ p2 hp2
     rw[ub,<- htl,um (uk _)];have em:(l.map λa=>V.str a.1)=(l.map (·.1)).map V.str:=by rw[UP];rfl
     rw[em];exact tail _ p2 (l.map (·.1)) ((k26).new hp2) (((S6).mono b8).new hp2 _) uX9 (by simpa using hl0) (λx hx=>hx)
   .exact tail _ p1 (fl.map (·.1)) k26 S6 (k6.k _ _ (S2.neS h12) h12) (by simpa using hfe) hfm
 case rest =>
  intro H' p xs kp S1 hp hx hm;have h0:0 < xs.length:=List.length_pos_iff.mpr hx;refine(zv rfl rfl ¬⟨_,_,rfl,.inl (SqL.of hp),st,_,_,rfl,S1,b8,bc,λH2 r k2 S2 r0 r1=>?_⟩);rw[ub]at r1;have hi:r.toNat < xs.length:=b8
  have e:atI (xs.map V.str) r=sO (.str xs[r.toNat]):=by
   have g:(xs.map V.str)[r.toNat]?=sO (.str xs[r.toNat]):=by rw[uh,uj hi];rfl
   have g2:=yx g;rw[tK r0]at g2;exact g2
  exact⟨p,_,_,_,rfl,rfl,SqL.of (k2.k _ _ (S1.neS hp) hp),e,q _ _ (kp.trans k2) S2 (hm _ (List.getElem_mem hi))⟩
theorem zaM:FnScope lS6 lS6 (zq Xp):=.ok
theorem zaN:(["_law_state","_law_scope","_law_sorts_here","_law_sort"]:lS).Nodup:=be
theorem JM(F:Fun K "_law_picks" "_law_picks" Xp f fd)(GP:Ca P w K mg base CX0 2 "_law_pick" lS4 (spPick K))(m_tuple:mg "tuple"=nO):FnOk P w K mg base CX0 3 f fd lS6 (spPicks K):=by
 refine F.by zaM ?_ ?_
 .rintro _ _ _ _ ⟨_,_,_,_,_,_,rfl,_⟩;rfl
 rintro _ _ _ s H vs _ _ hr ⟨st,sc,qs,s,B,l,rfl,S0,hB,hSc,hl0,hq,hs,q⟩;refine⟨_,
  (zi (zt (zK (zD K) rfl m_tuple uo (jA1 (yn ["_law_sort"] rfl (zU K !2) (λ_ _ _ _ _=>(gN 3 zaN)) (λ_ _ _ _ _=>zZ) (λ_ _ _ _ _=>(cA GP hr (jA3 (!0) (!1) !3)))))))),?_⟩
 have sl:=zN;have LM:LIM=4611686018427387904:=rfl;refine(zv rfl rfl ⟨⟨_,SqL.of hq⟩,yy (xs:=s.map V.int) (λi τ ys H'=>Kp st H H'/\Sta K H' st (B+2*i)/\(∃x,τ=[sR st,sR sc,sR qs,x])/\∃xs:lS,ys=xs.map V.str/\xs.length=i/\∀x∈xs,x∈l.map (·.1)) ⟨Kp.refl,S0,⟨nO,rfl⟩,[],rfl,rfl,λx hx=>by cases hx⟩ (λi τ ys H' _ h=>SqL.of (h.1.k _ _ (S0.neI hq) hq)) ?_ ?_⟩)
 .rintro i v τ ys H1 hv ⟨k1,S1,⟨x,rfl⟩,xs,rfl,hl,hm⟩
  obtain⟨n,hn,rfl⟩:=L2.gM hv;have hi:i < s.length:=(uf.mp hn).1;refine(zv rfl rfl ¬⟨st,sc,n,B+2*i,l,rfl,S1,b8,hSc.kp S0 k1,hl0,λH2 y k2 S2 hy=>⟨bc,k1.trans k2,S2,⟨_,rfl⟩,xs++[y],ba,by simp[hl],λz hz=>?_⟩⟩);rcases uy.mp hz with hz|hz
  .exact hm z hz
  .rw[ut.mp hz]
   exact hy
 .rintro τ ys H1 ⟨k1,S1,_,xs,rfl,hl,hm⟩ p hp
  rw[ub]at hl S1;refine⟨p,¬(.inl ⟨SqL.of uX9,λp2 hp2=>?_⟩)⟩;exact q _ p2 xs ((k1.new hp).new hp2) ((((S1.mono b8).new hp _)).new hp2 _) uX9 hl hm
inductive De
 |num (i:Int)
 |op (w a b:Str)
 |app (w f:Str) (xs:lS)
noncomputable def De.uses:De->lS
 |.num _=>[]
 |.op _ a b=>[a,b]
 |.app w f xs=>if w="ask"then f::xs else xs
theorem yL{f:Str}{xs:lS}:De.uses (.app "ask" f xs)=f::xs:=by unfold De.uses;exact iP rfl
theorem yA{w f:Str}{xs:lS}(h:w≠"ask"):De.uses (.app w f xs)=xs:=by unfold De.uses;exact iN h
inductive IsDe(H:Hp):De->aO->Prop
 |num {i:Int} {p:aO}:H p=sO (.tup [.str "num",.int i])->IsDe H (.num i) p
 |op {w a b:Str} {p:aO}:H p=sO (.tup [.str "op",.str w,.str a,.str b])->IsDe H (.op w a b) p
 |app {w f:Str} {xs:lS} {p q:aO}:(w≠"num"/\w≠"op"/\xs.length<=10)->H p=sO (.tup [.str w,.str f,.ref q])->H q=sO (.tup (xs.map V.str))->IsDe H (.app w f xs) p
theorem IsDe.keep{d:De}(h:IsDe H d p)(t:Tups H H'):IsDe H' d p:=by
 cases h with
 |num a=>exact .num (t _ _ a)
 |op a=>exact .op (t _ _ a)
 |app c a b=>exact .app c (t _ _ a) (t _ _ b)
theorem Yq{α:Type}{f:α->V}{s:List α}{m:Int}(h:0<=m):cutV (s.map f) nO (sO m)=(s.take m.toNat).map f:=by
 unfold cutV;have c1:HT.sIx (s.map f).length 0 nO=0:=rfl;have c2:HT.sIx (s.map f).length (s.map f).length (sO m)=min m.toNat (s.map f).length:=by
  show(if m < 0 then(m+((s.map f).length:Nat)).toNat else min m.toNat (s.map f).length)=_;rw[iN b8]
 rw[c1,c2,List.drop_zero,Nat.sub_zero,List.map_take,ub];rcases Nat.le_total m.toNat s.length with c|c
 .rw[Nat.min_eq_left c]
 .rw[Nat.min_eq_right c,um ba,um (by simpa using c)]
theorem wu{α β:Type}{f:α->β}{xs:List α}{r:Int}{x:α}(h0:0<=r)(h:xs[r.toNat]?=sO x):atI (xs.map f) r=sO (f x):=by
 have g:(xs.map f)[r.toNat]?=sO (f x):=by rw[uh,h];rfl
 have g2:=yx g;rw[tK h0]at g2;exact g2
def wp(o:Wo):De->Prop
 |.app w f xs=>w="call"->∃s∈o.defs,s.1=f/\s.2.1.length=xs.length
 |_=>True
def DeQ(K:uc)(o:Wo)(st:aO)(B:Nat)(l:List (Str×Int))(H:Hp)(Q:VK):Prop:=∀(H':Hp)(p q:aO)(d:De)(g:Int),Kp st H H'->Sta K H' st B->H' p=sO (.tup [.ref q,.int g])->IsDe H' d q->0<=g->g<=13->wp o d->(∀x∈d.uses,x∈l.map (·.1))->Q (.ref p) H'
inductive spHanded(K:uc)(vs:List V)(H:Hp)(Q:VK)(e_3:XK):Prop
 |mk (st sc w:aO) (B:Nat) (l:List (Str×Int)):∀o:Wo,(vs=[.ref st,.ref sc,.ref w])->(Sta K H st B)->(B+100 < LIM)->(Sc H l sc)->(l≠[])->(IsW H o w)->(DeQ K o st (B+100) l H Q)->spHanded K vs H Q e_3
inductive spDeed(K:uc)(vs:List V)(H:Hp)(Q:VK)(e_3:XK):Prop
 |mk (st sc w:aO) (B:Nat) (l:List (Str×Int)) (o:Wo):∀a:Nat,(vs=[.ref st,.ref sc,.ref w,.int (a:Nat)])->(a < 3)->(Sta K H st B)->(B+200 < LIM)->(Sc H l sc)->(IsW H o w)->(DeQ K o st (B+200) l H Q)->spDeed K vs H Q e_3
theorem zdf{i j:Int}(h:i<=3)(h2:j<=3)(h0:0<=j):0<=(if j > i then j else i)/\(if j > i then j else i)<=3:=by
 split<;>lia
theorem scHanded:FnScope ["_law_state","_law_scope","_law_world_here","_law_some","_law_way","_law_name_here","_law_sort","_law_sorts_here","_law_gives","_law_many"] lS21 (zq Zm):=.ok
theorem JN:(["_law_state","_law_scope","_law_world_here","_law_some","_law_way","_law_name_here","_law_sort","_law_sorts_here","_law_gives","_law_many","_law_one"]:lS).Nodup:=be
theorem Vd:(["_law_state","_law_scope","_law_world_here","_law_some","_law_way","_law_name_here","_law_sort","_law_sorts_here","_law_gives","_law_many","_law_k"]:lS).Nodup:=be
theorem Ve(F:Fun K "_law_handed" "_law_handed" Zm f fd)(GD:Ca P w K mg base CX0 1 "_law_draw" lS2 (spDraw K))(GP:Ca P w K mg base CX0 3 "_law_picks" lS6 (spPicks K))(m_len:mg "len"=nO)(m_range:mg "range"=nO)(m_max:mg "max"=nO):FnOk P w K mg base CX0 4 f fd lS21 (spHanded K):=by
 refine F.by scHanded ?_ ?_
 .rintro _ _ _ _ ⟨_,_,_,_,_,_,rfl,_⟩;rfl
 rintro _ _ _ _ H vs Q _ hr ⟨st,sc,w0,B,l,o,rfl,S0,hB,hSc,hl0,hW,q⟩;have hr1:Room 1 _:=hr.mono b9;refine⟨_,
  (zh (yu ["_law_one"] (i:=3) scHanded.nd rfl (Or.inl rfl) rfl (zU K !1) (λ_ _ _ _ _=>(gN 10 JN)) (λ_ _ _ _ _=>(yD (tN zeb (zj K (jv 10)) zp))) (λ_ _ _ _ _=>(jv 10)))
  (zh (sE 4 scHanded.nd (cA GD hr1 (jA2 (!0) zp)))
  (zh (zF (tN zJ (!4) zp)
   (zi (sE 3 scHanded.nd !1)) zw)
  (zh (zF (jW.pt (xQ (tN (V5 hr) (!3) (zI zQ)) (xt (tN vJ (!4) zp))))
   (zh (xS (xX (zT K) (!3) (cA GD hr1 (jA2 (!0) (zG (zB K) rfl m_len uP (jA1 !3))))) (zW K rfl (zx (gN 5 scHanded.nd) (zx (gN 6 scHanded.nd) zV))))
   (zi (zt (zy (jA2 (zy (jA3 zu (!5) (cA GP hr (jA3 (!0) (!1) (yn ["_law_k"] rfl (yw rfl m_range (jA1 (zG (zaH rfl) rfl m_max PyProof.Rows.boot_max (jA2 (zC xo (!6) zp) (cA GD hr1 (jA2 (!0) zp)))))) (λ_ _ _ _ _=>(gN 10 Vd)) (λ_ _ _ _ _=>zZ) (λ_ _ _ _ _=>(zC xH (jv 10) zp))))))) zp))))) zw)
  (zh (xS (xX (zT K) (zM K !2) (cA GD hr1 (jA2 (!0) zp))) (zW K rfl (zx (gN 5 scHanded.nd) (zx (gN 7 scHanded.nd) (zx (gN 8 scHanded.nd) zV)))))
  (zh (sE 9 scHanded.nd (cA GD hr1 (jA2 (!0) (zC yz (zG (zB K) rfl m_len uP (jA1 !7)) zp))))
  (zi (zt (zy (jA2 (zy (jA3 zu (!5) (cA GP hr (jA3 (!0) (!1) (yJ (wG K) (!7) yU (yV !9)))))) (zC xo (zC yz zp (zG (zB K) rfl m_len uP (jA1 !7))) !9))))))))))),?_⟩
 have sl:=zN;have LM:LIM=4611686018427387904:=rfl;obtain⟨⟨ts,hsc,hT⟩,hn,hs⟩:=id hSc;have htl:=hT.len;refine(show ∀(u:TS)(D:Ends),(∀(H':Hp)(p:aO)(fl:List (Str×Int))(fs:List aO)(r:Int),Kp st H H'->Sta K H' st (B+1)->H' p=sO (.lst (fs.map V.ref))->Tps H' fl fs->(∀x∈fl,x∈l)->u D [sR st,sR sc,sR w0,sR p,sO (.int r),nO,nO,nO,nO,nO] H')->(tSeq _ (tSeq _ (tSeq _ u)):TS) D _ H from ?key) _ _ ?rest
 case key =>
  intro u D tail;refine(zv rfl rfl ⟨⟨_,SqL.of hsc⟩,yy (xs:=ts.map V.ref) (λj τ ys H'=>H=H'/\(∃v,τ=[sR st,sR sc,sR w0,nO,nO,nO,nO,nO,nO,nO,v])/\∃(fl:List (Str×Int))(fs:List aO),ys=fs.map V.ref/\fs.length<=j/\Tps H fl fs/\∀x∈fl,x∈l) ⟨rfl,⟨nO,rfl⟩,[],[],rfl,uS _,.nil,λx hx=>by cases hx⟩ (λj τ ys H' _ h=>by rw[<- h.1];exact SqL.of hsc) ?_ ?_⟩)
  .rintro j v τ ys H3 hv ⟨rfl,⟨v',rfl⟩,fl,fs,rfl,hj,hf,hm⟩
   obtain⟨tq,htq,rfl⟩:=L2.gM hv;obtain⟨a,n,e1,e2⟩:=hT.get htq;have hjl:j < l.length:=(uf.mp e1).1;refine¬(ixT e2 aI1 (zE rfl rfl ¬?_));refine ite2 (λc=>?_) (λc=>?_)
   .refine¬⟨bc,rfl,⟨_,rfl⟩,fl++[(a,n)],fs++[tq],ba,by simp;lia,hf.app (.cons e2 .nil),λx hx=>?_⟩
    rcases uy.mp hx with hx|hx
    .exact hm x hx
    .rw[ut.mp hx]
     exact uu e1
   .exact⟨rfl,⟨_,rfl⟩,fl,fs,rfl,b8,hf,hm⟩
  rintro τ ys H3 ⟨rfl,_,fl,fs,rfl,hj,hf,hm⟩ p1 hp1;have S1:=S0.new hp1 (.lst (fs.map V.ref));refine¬⟨st,4,B,rfl,S1,b8,b9,λH2 r k2 S2 r0 r1=>?_⟩;have k12:=(Kp.refl.new (o:=.lst (fs.map V.ref)) hp1).trans k2;have hp2:=k2.k _ _ (S0.ne hp1) (uX9 (H:=H) (a:=p1) (o:=.lst (fs.map V.ref)));refine¬⟨rfl,¬?_⟩;refine ite2 (λc=>?_) (λc=>?_)
  .exact¬(tail _ sc l ts r k12 S2 (k12.k _ _ (S0.neR hsc) hsc) (hT.keep (k12.tups S0)) λx hx=>hx)
  .exact tail _ p1 fl fs r k12 S2 hp2 (hf.keep (k12.tups S0)) hm
 case rest =>
  intro H1 p1 fl fs r k1 S1 hp1 hf hm;have hfl:=hf.len;have gpos:∀x∈fl,0<=x.2/\x.2<=13:=λx hx=>hs x (hm x hx);refine(show ∀(u:TS)(D:Ends),D.rt=Q->(∀(H':Hp),Kp st H H'->Sta K H' st (B+1)->u D [sR st,sR sc,sR w0,sR p1,sO (.int r),nO,nO,nO,nO,nO] H')->(tSeq _ u:TS) D _ H1 from ?key2) _ _ rfl ?rest2
  case key2 =>
   intro u D hD tail;refine¬⟨sN0,λpe h2=>?_⟩;have k2:=k1.new (o:=.lst []) h2;have S2:=S1.new h2 (.lst []);have hp2:=old (o:=.lst []) h2 hp1;have hf2:=hf.keep (.of (zn h2 (.lst [])));refine⟨_,_,_,rfl,rfl,SqL.of hp2,SqL.of uX9,¬?_⟩;show if(if tU=tU then !(fs.map V.ref).isEmpty else(fs.map V.ref).isEmpty)=tU then _ else _
   generalize upd H1 pe (.lst [])=H2 at *;by_cases hfe:fs=[]
   .have e0:(fs.map V.ref).isEmpty=tU:=by rw[hfe];rfl
    rw[e0];exact iteF (tail _ k2 S2)
   have e0:(fs.map V.ref).isEmpty=fO:=by
    cases fs with
    |nil=>exact absurd rfl hfe
    |cons _ _=>rfl
   rw[e0];refine iteT ?_;refine¬(zE rfl rfl ¬?_);refine ite2 (λ_=>?_) (λ_=>tail _ k2 S2);have h0:0 < fs.length:=List.length_pos_iff.mpr hfe;refine(zv rfl rfl ¬⟨_,_,rfl,.inl (SqL.of hp2),st,_,_,rfl,S2,b8,bc,λH3 r3 k3 S3 q0 q1=>?_⟩);rw[ub]at q1;have hi:r3.toNat < fs.length:=b8
   obtain⟨t,ht⟩:∃t,fs[r3.toNat]?=sO t:=⟨_,uj hi⟩;have hf3:=hf2.keep (k3.tups S2);obtain⟨a,g,e1,e2⟩:=hf3.get ht;have hg:=gpos _ (uu e1);have ha:a∈l.map (·.1):=uz.mpr ⟨_,hm _ (uu e1),rfl⟩;have hp3:=k3.k _ _ (S2.neR hp2) hp2;refine⟨p1,_,_,_,rfl,rfl,SqL.of hp3,wu q0 ht,_,_,rfl,SqT.of e2,rfl,_,_,rfl,_,_,rfl,rfl,?_⟩;refine(zv rfl rfl (zv rfl rfl (zE rfl rfl ¬⟨st,3,_,rfl,S3,b8,b9,λH4 r4 k4 S4 q2 q3=>?_⟩)));have mx:=zdf (i:=g-10) (j:=r4) b8 b8 q2;refine⟨_,_,rfl,?_⟩;generalize (if r4 > g-10 then r4 else g-10)=n at *;refine¬⟨b8,b8,yW (n:=n.toNat) (λi τ ys H'=>H4=H'/\(∃x,τ=[sR st,sR sc,sR w0,sR p1,sO (.int r),sO (.str a),sO (.int g),nO,nO,nO,x])/\∃ns:List Int,ys=ns.map V.int/\ns.length=i) ⟨rfl,⟨nO,rfl⟩,[],rfl,rfl⟩ ?_ ?_⟩
   .rintro i τ ys H5 hi ⟨rfl,⟨x,rfl⟩,ns,rfl,hln⟩
    exact¬(zE rfl rfl ⟨(by show(0:Int) < _;decide),bc,rfl,⟨_,rfl⟩,ns++[_],by rw[ur];rfl,by simp[hln]⟩)
   rintro τ ys H5 ⟨rfl,_,ns,rfl,hln⟩ p5 hp5;have k04:=(k2.trans k3).trans k4;have k5:=k04.new (o:=.lst (ns.map V.int)) hp5;have S5:=S4.new hp5 (.lst (ns.map V.int));refine⟨st,sc,p5,ns,_,l,rfl,S5,b8,hSc.kp S0 k5,hl0,uX9,b8,λH6 p6 xs k6 S6 hp6 hl6 hm6=>?_⟩;refine⟨sN3,λt1 h7=>⟨sN2,λt2 h8=>?_⟩⟩;rw[hD];refine q _ t2 t1 (.app "ask" a xs) 0 (((k5.trans k6).new h7).new h8) ((((S6.mono b8).new h7 _)).new h8 _) uX9 (.app ⟨b9,b9,b8⟩ (old h8 uX9) (old h8 (old h7 hp6))) b9 b9 (λe=>absurd e b9) λx hx=>?_;rw[yL]at hx;rcases uq.mp hx with e|e
   .rw[e];exact ha
   .exact hm6 x e
  case rest2 =>
   intro H2 k2 S2;obtain⟨⟨tl,dl,tt,ds,hw,htl2,hdl,hTt,hTd⟩,wok⟩:=hW.kp S0 k2;have dlen:=wok.dlen;have hdl2:=hTd.len;refine¬(ixL hw aI3 ¬⟨st,3,_,rfl,S2,b8,b9,λH3 r3 k3 S3 q0 q1=>?_⟩);have hi:r3.toNat < ds.length:=b8
   obtain⟨t,ht⟩:∃t,ds[r3.toNat]?=sO t:=⟨_,uj hi⟩;obtain⟨z,ss,g,sq,e1,e2,e3⟩:=(hTd.kp S2 k3).get ht;have wd:ss.length<=3/\So ss/\0<=g/\g<=2:=wok.ds _ (uu e1);refine⟨dl,_,_,_,rfl,rfl,SqL.of (k3.k _ _ (S2.neR hdl) hdl),wu q0 ht,_,_,rfl,SqT.of e2,rfl,_,_,rfl,_,_,rfl,_,_,rfl,rfl,?_⟩;refine(zv rfl rfl ⟨_,_,rfl,.inl (SqL.of e3),(zE rfl rfl ⟨st,_,_,rfl,S3,b8,b8,λH4 r4 k4 S4 q2 q3=>?_⟩)⟩);rw[ub]at q3;have e34:=k4.k _ _ (S3.neI e3) e3;refine(zv rfl rfl (zv rfl rfl (zv rfl rfl ⟨_,_,rfl,SqL.of e34,λp5 hp5=>?_⟩)));rw[Yq q2];have k04:=(k2.trans k3).trans k4;have k5:=k04.new (o:=.lst ((ss.take r4.toNat).map V.int)) hp5;have S5:=S4.new hp5 (.lst ((ss.take r4.toNat).map V.int));refine⟨st,sc,p5,ss.take r4.toNat,_,l,rfl,S5,b8,hSc.kp S0 k5,hl0,uX9,by rw[uv];lia,λH6 p6 xs k6 S6 hp6 hl6 hm6=>?_⟩;refine⟨sN3,λt1 h7=>?_⟩;have e37:=old (o:=.tup [.str "func",.str z,.ref p6]) h7 (k6.k _ _ (S5.neI (old hp5 e34)) (old hp5 e34));refine¬⟨_,_,rfl,.inl (SqL.of e37),(zE rfl rfl ¬(zE rfl rfl ⟨sN2,λt2 h8=>?_⟩))⟩;rw[ub];refine q _ t2 t1 (.app "func" z xs) _ (((k5.trans k6).new h7).new h8) ((((S6.mono b8).new h7 _)).new h8 _) uX9 (.app ⟨b9,b9,by rw[hl6,uv];lia⟩ (old h8 uX9) (old h8 (old h7 hp6))) b8 b8 (λe=>absurd e b9) λx hx=>?_;rw[yA b9]at hx;exact hm6 x hx
theorem scDeed:FnScope ["_law_state","_law_scope","_law_world_here","_law_at","_law_way","_law_word","_law_tag","_law_sorts_here","_law_kind","_law_to","_law_name_here","_law_gives"] lS13 (zq JA):=.ok
theorem zaO(F:Fun K "_law_deed" "_law_deed" JA f fd)(GD:Ca P w K mg base CX0 1 "_law_draw" lS2 (spDraw K))(GK:Ca P w K mg base CX0 2 "_law_pick" lS4 (spPick K))(GP:Ca P w K mg base CX0 3 "_law_picks" lS6 (spPicks K))(GH:Ca P w K mg base CX0 4 "_law_handed" lS21 (spHanded K)):FnOk P w K mg base CX0 5 f fd lS13 (spDeed K):=by
 refine F.by scDeed ?_ ?_
 .rintro _ _ _ _ ⟨_,_,_,_,_,_,_,rfl,_⟩;rfl
 rintro _ _ _ _ H vs Q _ hr ⟨st,sc,w0,B,l,o,a,rfl,ha,S0,hB,hSc,hW,q⟩;have hr1:Room 1 _:=hr.mono b9;have hr2:Room 2 _:=hr.mono b9;have hr3:Room 3 _:=hr.mono b9;refine⟨_,
  (zh (sE 4 scDeed.nd (cA GD hr1 (jA2 (!0) zp)))
  (zh (zF (jW.pt (yI (tN jB (!4) zp) (yG (tN (Xg hr) (!1) (zI zQ)))))
   (zi (zt (zy (jA2 (zy (jA2 zu (zC xo (cA GD hr1 (jA2 (!0) zp)) zp))) zp)))) zw)
  (zh (zF (tN zJ (!4) zp)
   (zh (sE 5 scDeed.nd (xX (zT K) (zI (jA7 zu zu zu zu zu zu zu)) (cA GD hr1 (jA2 (!0) zp))))
   (zi (zt (zy (jA2 (zy (jA4 zu (!5) (cA GK hr2 (jA3 (!0) (!1) zp)) (cA GK hr2 (jA3 (!0) (!1) zp)))) zp))))) zw)
  (zh (zF (tN jB (!4) zp)
   (zh (xS (xX (zT K) (zM K !2) (cA GD hr1 (jA2 (!0) zp))) (zW K rfl (zx (gN 6 scDeed.nd) (zx (gN 7 scDeed.nd) (zx (gN 8 scDeed.nd) zV)))))
   (zi (zt (zy (jA2 (zy (jA3 zu (!6) (cA GP hr3 (jA3 (!0) (!1) !7)))) !8))))) zw)
  (zh (zF (tN zJ (!4) zp)
   (zi (zt (cA GH hr (jA3 (!0) (!1) !2)))) zw)
  (zh (sE 9 scDeed.nd (cA GD hr1 (jA2 (!0) zp)))
  (zh (zF (jW.pt (xQ (tN jB (!3) zp) (xt (tN vJ (cA GD hr1 (jA2 (!0) zp)) zp))))
   (zi (sE 9 scDeed.nd (zC yz (zC yz (!3) zp) (cA GD hr1 (jA2 (!0) (zC xo zp !3)))))) zw)
  (zh (xS (xX (zT K) (zM K !2) !9) (zW K rfl (zx (gN 10 scDeed.nd) (zx (gN 7 scDeed.nd) (zx (gN 11 scDeed.nd) zV)))))
  (zi (zt (zy (jA2 (zy (jA3 zu (jv 10) (cA GP hr3 (jA3 (!0) (!1) !7)))) (jv 11))))))))))))),?_⟩
 have sl:=zN;have LM:LIM=4611686018427387904:=rfl;obtain⟨⟨ts,hsc,hT⟩,hn,hs⟩:=id hSc;have htl:=hT.len;refine¬⟨st,9,B,rfl,S0,b8,b9,λH1 r k1 S1 r0 r1=>?_⟩;refine(show ∀(u:TS)(D:Ends),D.rt=Q->(∀(H':Hp),l≠[]->Kp st H H'->Sta K H' st (B+1)->u D [sR st,sR sc,sR w0,sO (.int (a:Nat)),sO (.int r),nO,nO,nO,nO,nO,nO,nO] H')->(tSeq _ (tSeq _ u):TS) D _ H1 from ?key) _ _ rfl ?rest
 case key =>
  intro u D hD tail;refine¬(zE rfl rfl ¬?_);refine ite2 (λ_=>?_) (λ_=>?_)
  .refine¬⟨st,9,_,rfl,S1,b8,b9,λH2 r2 k2 S2 _ _=>(zE rfl rfl ⟨sN2,λt1 h3=>⟨sN2,λt2 h4=>?_⟩⟩)⟩
   rw[hD];exact q _ t2 t1 (.num (r2-4)) 0 (((k1.trans k2).new h3).new h4) (((S2.mono b8).new h3 _).new h4 _) uX9 (.num (old h4 uX9)) b9 b9 trivial λx hx=>by cases hx
  .refine¬⟨sN0,λpe h2=>?_⟩
   have k2:=k1.new (o:=.lst []) h2;have S2:=S1.new h2 (.lst []);have hsc2:=k2.k _ _ (S0.neR hsc) hsc;refine⟨_,_,_,rfl,rfl,SqL.of hsc2,SqL.of uX9,¬?_⟩;show if(if fO=tU then !(ts.map V.ref).isEmpty else(ts.map V.ref).isEmpty)=tU then _ else _
   generalize upd H1 pe (.lst [])=H2 at *;by_cases he:ts=[]
   .have e0:(ts.map V.ref).isEmpty=tU:=by rw[he];rfl
    rw[e0];refine iteT ?_;refine¬⟨st,9,_,rfl,S2,b8,b9,λH3 r2 k3 S3 _ _=>(zE rfl rfl ⟨sN2,λt1 h3=>⟨sN2,λt2 h4=>?_⟩⟩)⟩;rw[hD];exact q _ t2 t1 (.num (r2-4)) 0 (((k2.trans k3).new h3).new h4) (((S3.mono b8).new h3 _).new h4 _) uX9 (.num (old h4 uX9)) b9 b9 trivial λx hx=>by cases hx
   .have e0:(ts.map V.ref).isEmpty=fO:=by
     cases ts with
     |nil=>exact absurd rfl he
     |cons _ _=>rfl
    rw[e0];refine iteF (tail _ (λe=>he ?_) k2 S2);rw[e]at htl;exact Um.mp htl.symm
 case rest =>
  intro H2 hl0 k2 S2;have hSc2:=hSc.kp S0 k2;have hW2:=hW.kp S0 k2;refine cut1 λc_ hc_=>?_;refine¬⟨rfl,¬?_⟩;refine ite2 (λ_=>?_) (λ_=>?_)
  .refine⟨sN7,λpl h3=>?_⟩
   have S3:=S2.new h3 (.lst [.str "plus",.str "minus",.str "times",.str "over",.str "rest",.str "less",.str "same"]);have k3:=k2.new (o:=.lst [.str "plus",.str "minus",.str "times",.str "over",.str "rest",.str "less",.str "same"]) h3;refine¬⟨st,7,_,rfl,S3,b8,b9,λH4 r4 k4 S4 q0 q1=>?_⟩;have hpl:=k4.k _ _ (S2.ne h3) (uX9 (H:=H2) (a:=pl) (o:=.lst [.str "plus",.str "minus",.str "times",.str "over",.str "rest",.str "less",.str "same"]));have hi:r4.toNat < (["plus","minus","times","over","rest","less","same"]:lS).length:=by show r4.toNat < 7;lia
   obtain⟨wd,hwd⟩:∃x,(["plus","minus","times","over","rest","less","same"]:lS)[r4.toNat]?=sO x:=⟨_,uj hi⟩;refine⟨pl,_,_,_,rfl,rfl,SqL.of hpl,wu (f:=V.str) q0 hwd,?_⟩;have k34:=k3.trans k4;refine(zv rfl rfl ¬⟨st,sc,0,_,l,rfl,S4,b8,hSc.kp S0 k34,hl0,λH5 x k5 S5 hx=>?_⟩);have k35:=k34.trans k5;refine(zv rfl rfl ⟨st,sc,0,_,l,rfl,S5,b8,hSc.kp S0 k35,hl0,λH6 y k6 S6 hy=>?_⟩);refine⟨sN4,λt1 h7=>⟨sN2,λt2 h8=>?_⟩⟩;refine q _ t2 t1 (.op wd x y) 0 (((k35.trans k6).new h7).new h8) (((S6.mono b8).new h7 _).new h8 _) uX9 (.op (old h8 uX9)) b9 b9 trivial λz hz=>?_;have hz':z∈[x,y]:=hz;rcases uq.mp hz' with e|e
   .rw[e];exact hx
   .rw[ut.mp e];exact hy
  subst hc_;refine nxtC ?_;dsimp only
  refine cut1 λc_ hc_=>?_;refine¬(zE rfl rfl ¬?_);obtain⟨⟨tl,dl,tt,ds,hw,htl2,hdl,hTt,hTd⟩,wok⟩:=hW2;refine ite2 (λ_=>?_) (λ_=>?_)
  .have tlen:=wok.tlen
   have htl3:=hTt.len;refine¬(ixL hw aI2 ¬⟨st,4,_,rfl,S2,b8,b9,λH3 r3 k3 S3 q0 q1=>?_⟩);have hi:r3.toNat < tt.length:=b8
   obtain⟨t,ht⟩:∃t,tt[r3.toNat]?=sO t:=⟨_,uj hi⟩;obtain⟨z,ss,g,sq,e1,e2,e3⟩:=(hTt.kp S2 k3).get ht;have wd:ss.length<=9/\So ss:=wok.ts _ (uu e1);have hg:g=1\/g=2:=by
    have m:g∈o.tags.map (·.2.2):=uz.mpr ⟨_,uu e1,rfl⟩;rw[wok.tk]at m;simpa using m
   refine⟨tl,_,_,_,rfl,rfl,SqL.of (k3.k _ _ (S2.neR htl2) htl2),wu q0 ht,_,_,rfl,SqT.of e2,rfl,_,_,rfl,_,_,rfl,_,_,rfl,rfl,?_⟩;have k23:=k2.trans k3;refine(zv rfl rfl (zv rfl rfl ⟨st,sc,sq,ss,_,l,rfl,S3,b8,hSc.kp S0 k23,hl0,e3,b8,λH6 p6 xs k6 S6 hp6 hl6 hm6=>?_⟩));refine⟨sN3,λt1 h7=>¬⟨sN2,λt2 h8=>?_⟩⟩;refine q _ t2 t1 (.app "make" z xs) g (((k23.trans k6).new h7).new h8) (((S6.mono b8).new h7 _).new h8 _) uX9 (.app ⟨b9,b9,b8⟩ (old h8 uX9) (old h8 (old h7 hp6))) b8 b8 (λe=>absurd e b9) λx hx=>?_;rw[yA b9]at hx;exact hm6 x hx
  subst hc_;refine nxtC ?_;dsimp only
  refine cut1 λc_ hc_=>?_;refine¬⟨rfl,¬?_⟩;refine ite2 (λ_=>?_) (λ_=>?_)
  .refine(zv rfl rfl ¬⟨st,sc,w0,_,l,o,rfl,S2,b8,hSc2,hl0,⟨⟨tl,dl,tt,ds,hw,htl2,hdl,hTt,hTd⟩,wok⟩,λH3 p q' d g k3 S3 h1 h2 h3 h4 h5 h6=>?_⟩)
   exact q _ p q' d g (k2.trans k3) (S3.mono b8) h1 h2 h3 h4 h5 h6
  subst hc_;refine¬⟨st,3,_,rfl,S2,b8,b9,λH3 r3 k3 S3 q0 q1=>?_⟩;have k23:=k2.trans k3;refine(show ∀(u:TS)(D:Ends),(∀(H':Hp)(x:Int),Kp st H H'->Sta K H' st (B+4)->0<=x->x < 3->u D [sR st,sR sc,sR w0,sO (.int (a:Nat)),sO (.int r),nO,nO,nO,nO,sO (.int x),nO,nO] H')->(tSeq _ (tSeq _ u):TS) D _ H3 from ?key3) _ _ ?rest3
  case key3 =>
   intro u D tail;refine¬(zE rfl rfl ¬?_);refine ite2 (λc=>?_) (λ_=>tail _ r3 k23 (S3.mono b8) q0 q1);rw[dA]at c;refine¬⟨st,4,_,rfl,S3,b8,b9,λH4 r4 k4 S4 _ _=>(zE rfl rfl ¬?_)⟩;refine ite2 (λ_=>?_) (λ_=>tail _ r3 (k23.trans k4) (S4.mono b8) q0 q1);refine¬(zE rfl rfl (zv rfl rfl (zE rfl rfl ⟨st,_,_,rfl,S4,b8,b8,λH5 r5 k5 S5 p0 p1=>(zE rfl rfl ?_)⟩)));exact tail _ _ ((k23.trans k4).trans k5) (S5.mono b8) b8 b8
  case rest3 =>
   intro H4 x k4 S4 x0 x1;obtain⟨⟨tl,dl,tt,ds,hw,htl2,hdl,hTt,hTd⟩,wok⟩:=hW.kp S0 k4;have dlen:=wok.dlen;have hdl2:=hTd.len;have hi:x.toNat < ds.length:=b8
   obtain⟨t,ht⟩:∃t,ds[x.toNat]?=sO t:=⟨_,uj hi⟩;obtain⟨z,ss,g,sq,e1,e2,e3⟩:=hTd.get ht;have wd:ss.length<=3/\So ss/\0<=g/\g<=2:=wok.ds _ (uu e1);refine¬(ixL hw aI3 ¬⟨dl,_,_,_,rfl,rfl,SqL.of hdl,wu x0 ht,_,_,rfl,SqT.of e2,rfl,_,_,rfl,_,_,rfl,_,_,rfl,rfl,?_⟩);refine(zv rfl rfl (zv rfl rfl ⟨st,sc,sq,ss,_,l,rfl,S4,b8,hSc.kp S0 k4,hl0,e3,b8,λH6 p6 xs k6 S6 hp6 hl6 hm6=>?_⟩));refine⟨sN3,λt1 h7=>¬⟨sN2,λt2 h8=>?_⟩⟩;refine q _ t2 t1 (.app "call" z xs) g (((k4.trans k6).new h7).new h8) (((S6.mono b8).new h7 _).new h8 _) uX9 (.app ⟨b9,b9,b8⟩ (old h8 uX9) (old h8 (old h7 hp6))) b8 b8 (λ_=>⟨_,uu e1,rfl,hl6.symm⟩) λx hx=>?_;rw[yA b9]at hx;exact hm6 x hx
mutual
inductive Bd
 |give (x:Str)
 |lt (x:Str) (d:De) (b:Bd)
 |iff (x:Str) (a b:Bd)
 |case(x:Str) (as:Arms)
inductive Arms
 |nil
 |cons (t:Str) (ns:lS) (b:Bd) (r:Arms)
end
mutual
noncomputable def Bd.sz:Bd->Nat
 |.give _=>1
 |.lt _ _ b=>b.sz+1
 |.iff _ a b=>a.sz+b.sz+1
 |.case _ as=>as.sz+1
noncomputable def Arms.sz:Arms->Nat
 |.nil=>0
 |.cons _ ns b r=>ns.length+b.sz+r.sz+1
end
mutual
def Bd.dp:Bd->Nat
 |.give _=>1
 |.lt _ _ b=>b.dp+1
 |.iff _ a b=>max a.dp b.dp+1
 |.case _ as=>as.dp+1
def Arms.dp:Arms->Nat
 |.nil=>0
 |.cons _ _ b r=>max b.dp r.dp
end
noncomputable def Arms.app:Arms->Arms->Arms
 |.nil,b=>b
 |.cons t ns d r,b=>.cons t ns d (Arms.app r b)
def Arms.rev:Arms->Arms
 |.nil=>.nil
 |.cons t ns d r=>Arms.app (Arms.rev r) (.cons t ns d .nil)
theorem Arms.sz_app:∀(a b:Arms),(Arms.app a b).sz=a.sz+b.sz
 |.nil,b=>by unfold Arms.app;rw[Arms.sz];lia
 |.cons t ns d r,b=>by unfold Arms.app;rw[Arms.sz,Arms.sz,Arms.sz_app r b];lia
theorem Arms.dp_app:∀(a b:Arms),(Arms.app a b).dp=max a.dp b.dp
 |.nil,b=>by unfold Arms.app;rw[Arms.dp];lia
 |.cons t ns d r,b=>by unfold Arms.app;rw[Arms.dp,Arms.dp,Arms.dp_app r b];lia
theorem Arms.dp_rev:∀(a:Arms),(Arms.rev a).dp=a.dp
 |.nil=>rfl
 |.cons t ns d r=>by unfold Arms.rev;rw[Arms.dp_app,Arms.dp_rev r,Arms.dp,Arms.dp,Arms.dp];lia
theorem Arms.sz_rev:∀(a:Arms),(Arms.rev a).sz=a.sz
 |.nil=>rfl
 |.cons t ns d r=>by unfold Arms.rev;rw[Arms.sz_app,Arms.sz_rev r,Arms.sz,Arms.sz,Arms.sz];lia
mutual
inductive IsB(H:Hp):Bd->aO->Prop
 |give {x:Str} {p:aO}:H p=sO (.tup [.str "give",.str x])->IsB H (.give x) p
 |lt {x:Str} {d:De} {b:Bd} {p q r:aO}:H p=sO (.tup [.str "let",.str x,.ref q,.ref r])->IsDe H d q->IsB H b r->IsB H (.lt x d b) p
 |iff {x:Str} {a b:Bd} {p q r:aO}:H p=sO (.tup [.str "if",.str x,.ref q,.ref r])->IsB H a q->IsB H b r->IsB H (.iff x a b) p
 |case{x:Str} {as:Arms} {ps:List aO} {p q:aO}:H p=sO (.tup [.str "case",.str x,.ref q])->H q=sO (.tup (ps.map V.ref))->0 < ps.length->IsA H as ps->IsB H (.case x as) p
inductive IsA(H:Hp):Arms->List aO->Prop
 |nil:IsA H .nil []
 |cons {t:Str} {ns:lS} {b:Bd} {r:Arms} {p q s:aO} {ps:List aO}:H p=sO (.tup [.str t,.ref q,.ref s])->H q=sO (.tup (ns.map V.str))->IsB H b s->IsA H r ps->IsA H (.cons t ns b r) (p::ps)
end
mutual
theorem IsB.keep{H H':Hp}(t:Tups H H'):∀{b:Bd}{p:aO},IsB H b p->IsB H' b p
 |_,_,.give a=>.give (t _ _ a)
 |_,_,.lt a d b=>.lt (t _ _ a) (d.keep t) (IsB.keep t b)
 |_,_,.iff a b c=>.iff (t _ _ a) (IsB.keep t b) (IsB.keep t c)
 |_,_,.case a b l c=>.case (t _ _ a) (t _ _ b) l (IsA.keep t c)
theorem IsA.keep{H H':Hp}(t:Tups H H'):∀{b:Arms}{p:List aO},IsA H b p->IsA H' b p
 |_,_,.nil=>.nil
 |_,_,.cons a b c d=>.cons (t _ _ a) (t _ _ b) (IsB.keep t c) (IsA.keep t d)
end
theorem IsA.app{H:Hp}{b:Arms}{q:List aO}(g:IsA H b q):∀{a:Arms}{p:List aO},IsA H a p->IsA H (Arms.app a b) (p++q)
 |_,_,.nil=>by unfold Arms.app;exact g
 |_,_,.cons x y z r=>by unfold Arms.app;exact .cons x y z (IsA.app g r)
theorem IsA.rev{H:Hp}:∀{a:Arms}{p:List aO},IsA H a p->IsA H (Arms.rev a) p.reverse
 |_,_,.nil=>.nil
 |_,_,.cons x y z r=>by
  unfold Arms.rev;rw[tj];exact IsA.app (.cons x y z .nil) (IsA.rev r)
def CB:Nat->Nat
 |0=>0
 |n+1=>3*CB n+300
def SZ:Nat->Nat
 |0=>0
 |n+1=>3*SZ n+40
mutual
noncomputable def Bd.binds:Bd->lS
 |.give _=>[]
 |.lt x _ b=>x::b.binds
 |.iff _ a b=>a.binds++b.binds
 |.case _ as=>as.binds
noncomputable def Arms.binds:Arms->lS
 |.nil=>[]
 |.cons _ ns b r=>ns++(b.binds++r.binds)
end
mutual
noncomputable def SndB (o:Wo):lS->Bd->Prop
 |l,.give x=>x∈l
 |l,.lt x d b=>((∀y∈d.uses,y∈l)/\x∉l/\wp o d)/\SndB o (l++[x]) b
 |l,.iff x a b=>x∈l/\SndB o l a/\SndB o l b
 |l,.case x as=>x∈l/\SndA o l as
noncomputable def SndA (o:Wo):lS->Arms->Prop
 |_,.nil=>True
 |l,.cons _ ns b r=>(((ns.Nodup/\ns.length<=10)/\∀y∈ns,y∉l)/\SndB o (l++ns) b)/\SndA o l r
end
theorem SndA.app{o:Wo}{l:lS}:∀{a b:Arms},SndA o l a->SndA o l b->SndA o l (Arms.app a b)
 |.nil,b,_,h=>by unfold Arms.app;exact h
 |.cons t ns d r,b,h,h'=>by
  unfold Arms.app;rw[SndA]at h ⊢;exact⟨h.1,SndA.app h.2 h'⟩
theorem SndA.rev{o:Wo}{l:lS}:∀{a:Arms},SndA o l a->SndA o l a.rev
 |.nil,h=>h
 |.cons t ns d r,h=>by
  unfold Arms.rev;rw[SndA]at h;refine SndA.app (SndA.rev h.2) ?_;rw[SndA,SndA];exact⟨h.1,trivial⟩
def Bnm(o:Wo)(k m:Nat)(l:lS):Prop:=∀x∈l,∃j,k<=j/\j < m/\x=nm o.z o.b j
theorem Bnm.mono{o:Wo}{k k':Nat}{l:lS}(h:Bnm o k m l)(e:k'<=k):Bnm o k' m l:=λx hx=>let ⟨j,a,b,c⟩:=h x hx;⟨j,uF e a,b,c⟩
theorem Bnm.app{o:Wo}{k:Nat}{l l':lS}(h:Bnm o k m l)(h':Bnm o k m l'):Bnm o k m (l++l'):=λx hx=>(uy.mp hx).elim (h x) (h' x)
theorem Bnm.nil{o:Wo}{k:Nat}:Bnm o k m []:=λx hx=>by cases hx
theorem vY(k:Nat):cl (ys k)=uT (k % 2) 121:=by
 unfold ys;rcases(show k % 2=0\/k % 2=1 by lia)with e|e
 .rw[e];decide +kernel
 .rw[e];decide +kernel
theorem vA{b:Bool}{k:Nat}(hj:j < 1352)(hk:k < 1352)(h:nm z b j=nm z b k):j=k:=by
 have hl:∀i:Nat,(cl (core i)).length=3:=λi=>by rw[wS];rfl
 have cinj:cl (core j)=cl (core k)->j % 2=k % 2->j=k:=λe e0=>by
  rw[wS,wS]at e;injection e with e1 e2
  injection e2 with _ e3
  injection e3 with e3 _
  lia
 have e:=congrArg cl h;unfold nm at e;cases b with
 |true =>
  rw[iP rfl,iP rfl,zX,zX,zX,zX]at e;have el:=congrArg tu e;rw[ud,ud,ud,ud,hl,hl,vY,vY,Uz,Uz]at el;rw[Uo,Uo]at e;exact cinj (List.append_inj_left e (by rw[hl,hl])) b8
 |false =>
  rw[iN b9,iN b9,zX,zX,zX,zX]at e;have el:=congrArg tu e;rw[ud,ud,ud,ud,hl,hl,vY,vY,Uz,Uz]at el;exact cinj (List.append_inj_right' e (by rw[hl,hl])) b8
theorem zei{o:Wo}{k:Nat}(h:k+n<=1352):((uQ n).map λi=>nm o.z o.b (k+i)).Nodup:=by
 unfold List.Nodup;rw[List.pairwise_map];refine List.Pairwise.imp_of_mem (λ{a b} ha hb hab e=>hab ?_) List.nodup_range
 have:=Ut.mp ha
 have:=Ut.mp hb
 have:=vA b8 b8 e
 lia
theorem zdg{o:Wo}{k:Nat}(h:k+n<=1352){l:lS}(hl:Bnm o 0 k l):∀y∈(uQ n).map (λi=>nm o.z o.b (k+i)),y∉l:=λy hy hm=>by
 obtain⟨i,hi,rfl⟩:=uz.mp hy
 have:=Ut.mp hi
 obtain⟨j,_,hj,e⟩:=hl _ hm
 have:=vA b8 b8 e
 lia
theorem zej{o:Wo}{k:Nat}{l:lS}(hl:Bnm o 0 k l):Bnm o 0 (k+n) (l++(uQ n).map λi=>nm o.z o.b (k+i)):=λy hy=>by
 rcases uy.mp hy with hy|hy
 .obtain⟨j,a,b,c⟩:=hl y hy
  exact⟨j,a,b8,c⟩
 .obtain⟨i,hi,rfl⟩:=uz.mp hy
  have:=Ut.mp hi
  exact⟨k+i,uS _,b8,rfl⟩
theorem zaP{o:Wo}{k:Nat}(h:k < 1352){l:lS}(hl:Bnm o 0 k l)(hy:nm o.z o.b k=y):y∉l:=λhm=>by
 obtain⟨j,_,hj,e⟩:=hl _ hm
 have:=vA b8 b8 (hy.trans e)
 lia
theorem zdh{o:Wo}{k:Nat}{l:lS}(hl:Bnm o 0 k l)(hy:nm o.z o.b k=y):Bnm o 0 (k+1) (l++[y]):=λz hz=>by
 rcases uy.mp hz with hz|hz
 .obtain⟨j,a,b,c⟩:=hl z hz
  exact⟨j,a,b8,c⟩
 .rw[ut.mp hz]
  exact⟨k,uS _,b8,hy.symm⟩
theorem Arms.binds_app:∀(a b:Arms),(Arms.app a b).binds=a.binds++b.binds
 |.nil,b=>by unfold Arms.app;rw[Arms.binds];rfl
 |.cons t ns d r,b=>by unfold Arms.app;rw[Arms.binds,Arms.binds,Arms.binds_app r b,Uo,Uo]
theorem Bnm.rev{o:Wo}{k m:Nat}:∀{a:Arms},Bnm o k m a.binds->Bnm o k m a.rev.binds
 |.nil,h=>h
 |.cons t ns d r,h=>by
  unfold Arms.rev;rw[Arms.binds_app];rw[Arms.binds]at h;refine Bnm.app (Bnm.rev λx hx=>h x (uK _ (uK _ hx))) ?_;rw[Arms.binds,Arms.binds,u7];exactλx hx=>h x ((uy.mp hx).elim (uX _) λy=>uK _ (uX _ y))
inductive spRooms(K:uc)(vs:List V)(H:Hp)(Q:VK)(e_3:XK):Prop
 |mk (st:aO) (room:Int) (m:Nat):∀B:Nat,(vs=[.ref st,.int room,.int (m:Nat)])->(1<=room)->(1<=m)->(m<=10)->(Sta K H st B)->(B+1 < LIM)->(∀(H':Hp)(p:aO)(rs:List Int),Kp st H H'->Sta K H' st (B+1)->H p=nO->H' p=sO (.lst (rs.map V.int))->rs.length=m->(∀x∈rs,0<=x/\x<=room-1)->Q (.ref p) H')->spRooms K vs H Q e_3
inductive spBody(K:uc)(n:Nat)(vs:List V)(H:Hp)(Q:VK)(e_3:XK):Prop
 |mk (st sc w:aO) (k a B:Nat) (room:Int) (l:List (Str×Int)):∀o:Wo,(vs=[.ref st,.ref sc,.int (k:Nat),.int room,.ref w,.int (a:Nat)])->(a < 3)->(Sta K H st B)->(B+CB n < LIM)->(Sc H l sc)->(IsW H o w)->(room.toNat+(if l=[]then 1 else 0)+1<=n)->(l.length+10*n<=900)->((k+10*n<=900/\Bnm o 0 k (l.map (·.1))))->(∀(H':Hp)(p:aO)(b:Bd),Kp st H H'->Sta K H' st (B+CB n)->IsB H' b p->b.sz<=SZ n->b.dp<=n->Bnm o k 900 b.binds->SndB o (l.map (·.1)) b->Q (.ref p) H')->spBody K n vs H Q e_3
inductive spCase(K:uc)(n:Nat)(vs:List V)(H:Hp)(Q:VK)(e_3:XK):Prop
 |mk (st sc w:aO) (k a B:Nat) (room:Int) (l:List (Str×Int)):∀o:Wo,(vs=[.ref st,.ref sc,.int (k:Nat),.int room,.ref w,.int (a:Nat)])->(a < 3)->(Sta K H st B)->(B+(3*CB n+10) < LIM)->(Sc H l sc)->(l≠[])->(IsW H o w)->(1<=room)->(room.toNat<=n)->(l.length+10*(n+1)<=900)->((k+10*(n+1)<=900/\Bnm o 0 k (l.map (·.1))))->(∀(H':Hp)(p:aO)(b:Bd),Kp st H H'->Sta K H' st (B+(3*CB n+10))->IsB H' b p->b.sz<=3*SZ n+31->b.dp<=n+1->Bnm o k 900 b.binds->SndB o (l.map (·.1)) b->Q (.ref p) H')->spCase K n vs H Q e_3
theorem Zw{H:Hp}:∀{xs:lS}{ys:List Int}{ps:List aO},ps.length=min (xs.map V.str).length (ys.map V.int).length->(∀(i:Nat) x y,(xs.map V.str)[i]?=sO x->(ys.map V.int)[i]?=sO y->∃t,ps[i]?=sO t/\H t=sO (.tup [x,y]))->Tps H (xs.zip ys) ps
 |[],_,ps,hl,_=>by
  have:ps=[]:=Um.mp (by simpa using hl)
  rw[this];exact .nil
 |_::_,[],ps,hl,_=>by
  have:ps=[]:=Um.mp (by simpa using hl)
  rw[this];exact .nil
 |x::xs,y::ys,[],hl,_=>by simp at hl
 |x::xs,y::ys,p::ps,hl,h=>by
  obtain⟨t,h1,h2⟩:=h 0 (.str x) (.int y) rfl rfl;have e:p=t:=bf
  refine .cons (by rw[e];exact h2) (Zw (by simp only[uB,ui]at hl;lia) λi u v hu hv=>?_);obtain⟨t,h1,h2⟩:=h (i+1) u v (by simpa using hu) (by simpa using hv);exact⟨t,bf,h2⟩
theorem scRooms:FnScope ["_law_state","_law_room","_law_many","_law_rooms_here"] lS18 (zq Xq):=.ok
theorem zaQ:(["_law_state","_law_room","_law_many","_law_rooms_here","_law_k"]:lS).Nodup:=be
theorem JO(F:Fun K "_law_rooms" "_law_rooms" Xq f fd)(GD:Ca P w K mg base CX0 1 "_law_draw" lS2 (spDraw K))(m_range:mg "range"=nO):FnOk P w K mg base CX0 2 f fd lS18 (spRooms K):=by
 refine F.by scRooms ?_ ?_
 .rintro _ _ _ _ ⟨_,_,_,_,rfl,_⟩;rfl
 rintro _ _ _ _ H vs Q _ hr ⟨st,room,m,B,rfl,h1,m1,m2,S0,hB,q⟩;refine⟨_,
  (zh (yu ["_law_k"] (i:=3) scRooms.nd rfl (Or.inl rfl) rfl (yw rfl m_range (jA1 !2)) (λ_ _ _ _ _=>(gN 4 zaQ)) (λ_ _ _ _ _=>zZ) (λ_ _ _ _ _=>(zC xZ (zC xo (!1) zp) zp)))
  (zh (xS (zC xo (!1) zp) (Wh (!3) (cA GD hr (jA2 (!0) !2))))
  (zi (zt !3)))),?_⟩
 have sl:=zN;have LM:LIM=4611686018427387904:=rfl;refine(zv rfl rfl ⟨b8,b8,yW (n:=m) (λi τ ys H'=>H=H'/\(∃x,τ=[sR st,sO (.int room),sO (.int (m:Nat)),nO,x])/\∃rs:List Int,ys=rs.map V.int/\rs.length=i/\∀x∈rs,0<=x/\x<=room-1) ⟨rfl,⟨nO,rfl⟩,[],rfl,rfl,λx hx=>by cases hx⟩ ?_ ?_⟩)
 .rintro i τ ys H1 hi ⟨rfl,⟨x,rfl⟩,rs,rfl,hl,hx⟩
  refine¬(zE rfl rfl (zE rfl rfl ⟨⟨b9,b9⟩,bc,rfl,⟨_,rfl⟩,rs++[(room-1) / 3],by rw[ur];rfl,by simp[hl],λy hy=>?_⟩));rcases uy.mp hy with hy|hy
  .exact hx y hy
  .rw[ut.mp hy]
   lia
 rintro τ ys H1 ⟨rfl,_,rs,rfl,hl,hx⟩ p hp;have S1:=S0.new hp (.lst (rs.map V.int));refine¬(zE rfl rfl (zv rfl rfl ¬⟨st,_,_,rfl,S1,b8,b8,λH2 r k2 S2 r0 r1=>?_⟩));have hp2:=k2.k _ _ (S0.ne hp) (uX9 (H:=H) (a:=p) (o:=.lst (rs.map V.int)));have k02:=(Kp.refl.new (o:=.lst (rs.map V.int)) hp).trans k2;have ix:ixN (rs.map V.int).length r=sO r.toNat:=by
  unfold ixN;rw[iP r0,iP bc]
 refine⟨p,_,r,r.toNat,rfl,rfl,hp2,ix,¬?_⟩;have es:(rs.map V.int).set r.toNat (.int (room-1))=(rs.set r.toNat (room-1)).map V.int:=by rw[List.map_set]
 show Q (.ref p) (upd H2 p (.lst ((rs.map V.int).set r.toNat (.int (room-1)))));rw[es];refine q _ p _ (k02.put hp) (Sta.put S0 hp k02 S2) hp uX9 (by simp[hl]) λy hy=>?_;rcases List.mem_or_eq_of_mem_set hy with hy|hy
 .exact hx y hy
 .rw[hy]
  lia
theorem Vf{o:Wo}(h:WOk o){s:Int}(hs:s=1\/s=2):1<=(o.tags.filter λp=>decide (V.int p.2.2=V.int s)).length/\(o.tags.filter λp=>decide (V.int p.2.2=V.int s)).length<=3:=by
 have e:(o.tags.filter λp=>decide (V.int p.2.2=V.int s)).length=((o.tags.map (·.2.2)).filter λx=>decide (V.int x=V.int s)).length:=by
  rw[List.filter_map,ub]
  rfl
 rw[e,h.tk];rcases hs with rfl|rfl
 .exact⟨b9,b9⟩
 .exact⟨b9,b9⟩
theorem scCase:FnScope ["_law_state","_law_scope","_law_k","_law_room","_law_world_here","_law_at","_law_sort","_law_x","_law_arms","_law_tags","_law_one","_law_left","_law_names","_law_more"] lS0 (zq JB):=.ok
theorem zdi:(["_law_state","_law_scope","_law_k","_law_room","_law_world_here","_law_at","_law_sort","_law_x","_law_arms","_law_tags","_law_one","_law_left","_law_names","_law_more","_law_j"]:lS).Nodup:=be
theorem zaR(F:Fun K "_law_case" "_law_case" JB f fd)(GD:Ca P w K mg base CX0 1 "_law_draw" lS2 (spDraw K))(GN':Ca P w K mg base CX0 1 "_law_name" lS7 spNm)(GK:Ca P w K mg base CX0 2 "_law_pick" lS4 (spPick K))(GR:Ca P w K mg base CX0 2 "_law_rooms" lS18 (spRooms K))(GB:Ca P w K mg base CX0 (6+2*n) "_law_body" lS0 (spBody K n))(m_len:mg "len"=nO)(m_range:mg "range"=nO)(m_zip:mg "zip"=nO)(m_list:mg "list"=nO)(m_tuple:mg "tuple"=nO):FnOk P w K mg base CX0 (7+2*n) f fd lS0 (spCase K n):=by
 rw[show 7+2*n=(6+2*n)+1 by lia];refine F.by scCase ?_ ?_
 .rintro _ _ _ _ ⟨_,_,_,_,_,_,_,_,_,rfl,_⟩;rfl
 rintro _ _ _ _ H vs _ _ hr ⟨st,sc,w0,k,a,B,room,l,o,rfl,ha,S0,hB,hSc,hl0,hW,hroom,hrn,hln,⟨hkn,hbl⟩,q⟩;have hr1:Room 1 _:=hr.mono b8;have hr2:Room 2 _:=hr.mono b8;refine⟨_,
  (zh (sE 6 scCase.nd (zC yz zp (zC xZ (cA GD hr1 (jA2 (!0) zp)) zp)))
  (zh (sE 7 scCase.nd (cA GK hr2 (jA3 (!0) (!1) !6)))
  (zh (sE 8 scCase.nd (zI zQ))
  (zh (Z7 [10] [] (i:=9) scCase.nd rfl (Or.inl rfl) rfl (zU K (zM K !4)) (λ_ _ _ _ _=>(gN 10 scCase.nd)) (λ_ _ _ _ _=>(yD (tN zJ (zj K (jv 10)) !6))) (λ_ _ _ _ _=>(jv 10)))
  (zh (z5 PassesOwn.never rfl (yR K rfl m_zip (jA2 (!9) (cA GR hr2 (jA3 (!0) (!3) (zG (zB K) rfl m_len uP (jA1 !9)))))) (zW K rfl (zx (gN 10 scCase.nd) (zx (gN 11 scCase.nd) zV)))
   (zh (yu ["_law_j"] (i:=12) scCase.nd rfl (Or.inl rfl) rfl (yw rfl m_range (jA1 (zG (zB K) rfl m_len uP (jA1 (zj K (jv 10)))))) (λ_ _ _ _ _=>(gN 14 zdi)) (λ_ _ _ _ _=>zZ) (λ_ _ _ _ _=>(cA GN' hr1 (jA2 (!4) (zC yz (!2) (jv 14))))))
   (zh (sE 13 scCase.nd (zC yP (!1) (X5 rfl rfl m_list rfl m_zip (jA2 (jv 12) (zj K (jv 10))))))
   (zi (yg (yO uE uN uO zY (!8) (jA1 (zy (jA3 (zj K (jv 10)) (zK (zD K) rfl m_tuple uo (jA1 (jv 12))) (cA GB hr (jA6 (!0) (jv 13) (zC yz (!2) (zG (zB K) rfl m_len uP (jA1 (jv 12)))) (jv 11) (!4) !5)))))))))))
  (zh (zF (tN zJ (cA GD hr1 (jA2 (!0) zp)) zp)
   (zi (yg (Xc uE PySem.F.slot_list_reverse PySem.F.type_list_reverse Xz !8))) zw)
  (zi (zt (zy (jA3 zu (!7) (zK (zD K) rfl m_tuple uo (jA1 !8)))))))))))),?_⟩
 have sl:=zN;have LM:LIM=4611686018427387904:=rfl;refine cut4 λr1_ hr1_=>?_;refine¬⟨st,4,B,rfl,S0,b8,b9,λH1 r k1 S1 r0 r1=>(zE rfl rfl ⟨⟨b9,b9⟩,(zE rfl rfl ?_)⟩)⟩;have hsort:1+r / 3=1\/1+r / 3=2:=b8
 show(tSeq _ _:TS) _ [sR st,sR sc,sO (.int (k:Nat)),sO (.int room),sR w0,sO (.int (a:Nat)),sO (.int (1+r / 3)),nO,nO,nO,nO,nO,nO,nO] H1;generalize 1+r / 3=so at *;refine(zv rfl rfl ¬⟨st,sc,so,_,l,rfl,S1,b8,hSc.kp S0 k1,hl0,λH2 x k2 S2 hx=>?_⟩);refine⟨sN0,λpa h3=>?_⟩;have k12:=k1.trans k2;have k3:=k12.new (o:=.lst []) h3;have S3:=S2.new h3 (.lst []);have npa:=S2.ne h3;have fpa:H pa=nO:=k12.free npa h3;have hpa:=uX9 (H:=H2) (a:=pa) (o:=.lst []);generalize upd H2 pa (.lst [])=H3 at *;obtain⟨⟨tl,dl,tt,ds,hw0,htl0,hdl0,hTt,hTd⟩,wok⟩:=id hW;have hw:=k3.k _ _ (S0.neW hw0) hw0;have htl:=k3.k _ _ (S0.neR htl0) htl0;have tlen:=wok.tlen;have htt:=hTt.len;refine¬(ixL hw aI2 ⟨tl,rfl,⟨_,SqL.of htl⟩,yy (xs:=tt.map V.ref) (λj τ ys H'=>H3=H'/\(∃v,τ=[sR st,sR sc,sO (.int (k:Nat)),sO (.int room),sR w0,sO (.int (a:Nat)),sO (.int so),sO (.str x),sR pa,nO,v,nO,nO,nO])/\∃fs:List aO,ys=fs.map V.ref/\fs.length<=j/\Tri H ((o.tags.take j).filter λp=>decide (V.int p.2.2=V.int so)) fs) ⟨rfl,⟨nO,rfl⟩,[],rfl,uS _,.nil⟩ (λj τ ys H' _ h=>by rw[<- h.1];exact SqL.of htl) ?_ ?_⟩)
 .rintro j v τ ys H4 hv ⟨rfl,⟨v',rfl⟩,fs,rfl,hj,hf⟩
  obtain⟨t,ht,rfl⟩:=L2.gM hv;obtain⟨z,ss,g,sq,e1,e2,e3⟩:=hTt.get ht;have hjl:j < o.tags.length:=(uf.mp e1).1;have tf:=Yp (λp:Str×List Int×Int=>decide (V.int p.2.2=V.int so)) e1;refine¬(ixT (k3.tups S0 _ _ e2) aI2 ¬⟨rfl,¬?_⟩);refine ite2 (λc=>?_) (λc=>?_)
  .refine¬⟨bc,rfl,⟨_,rfl⟩,fs++[t],ba,by simp;lia,?_⟩
   rw[tf,iP c];exact hf.app (.cons e2 e3 .nil)
  .refine⟨rfl,⟨_,rfl⟩,fs,rfl,b8,?_⟩
   rw[tf,iN c,u7];exact hf
 rintro τ ys H4 ⟨rfl,_,fs,rfl,_,hf⟩ pt h4;rw[ub,<- htt,um (uk _)]at hf;obtain⟨fl1,fl2⟩:=Vf wok hsort;have ftl:∀p∈o.tags.filter (λp=>decide (V.int p.2.2=V.int so)),p.2.1.length<=9/\So p.2.1:=λp hp=>wok.ts p (UL.mp hp).1;generalize o.tags.filter (λp=>decide (V.int p.2.2=V.int so))=fl at *;have hfl:=hf.len;have S4:=S3.new h4 (.lst (fs.map V.ref));have k4:=k3.new (o:=.lst (fs.map V.ref)) h4;have hpt:=uX9 (H:=H3) (a:=pt) (o:=.lst (fs.map V.ref));have npt:pt≠pa:=(zk hpa h4).symm
 replace hpa:=old (o:=.lst (fs.map V.ref)) h4 hpa
 generalize upd H3 pt (.lst (fs.map V.ref))=H4 at *;subst hr1_;refine(zv rfl rfl (zv rfl rfl ⟨_,_,rfl,.inl (SqL.of hpt),st,room,(fs.map V.ref).length,_,rfl,hroom,bc,bc,S4,b8,λH5 pr rs k5 S5 fpr hpr hrl hrs=>?_⟩));rw[ub]at hrl;have npr:pr≠pa:=(zk hpa fpr).symm;have npt':=S4.neR hpt
 replace hpt:=k5.k _ _ npt' hpt
 replace hpa:=k5.k _ _ npa hpa
 replace k5:=k4.trans k5
 clear hw htl k4 S4;have hSc5:=hSc.kp S0 k5;have hW5:=hW.kp S0 k5;have npr':=S5.neI hpr
 let Fx:Hp->Prop:=λH'=>(∀b u,b≠st->b≠pa->H5 b=sO u->H' b=sO u)
 have Fx.kp:∀{H1 H2:Hp},Fx H1->Kp st H1 H2->Fx H2:=λf k b u n1 n2 h=>k.k _ _ n1 (f b u n1 n2 h);have Fx.pa:∀{H1:Hp}{o:HO},Fx H1->Fx (upd H1 pa o):=λf b u n1 n2 h=>by rw[zo n2];exact f b u n1 n2 h
 refine⟨_,_,tU,tU,_,_,rfl,SqK.l hpt,SqK.l hpr,x8 (xs:=fs.map V.ref) (ys:=rs.map V.int) bp (λi σ H'=>Fx H'/\Kp st H H'/\Sta K H' st (B+4+i*CB n)/\(∃(as:List aO)(ar:Arms),H' pa=sO (.lst (as.map V.ref))/\as.length=i/\IsA H' ar as/\ar.sz<=i*(SZ n+10)/\ar.dp<=n/\Bnm o k 900 ar.binds/\SndA o (l.map (·.1)) ar)/\∃v1 v2 v3 v4,σ=[sR st,sR sc,sO (.int (k:Nat)),sO (.int room),sR w0,sO (.int (a:Nat)),sO (.int so),sO (.str x),sR pa,sR pt,v1,v2,v3,v4])
  ⟨λb u _ _ h=>h,k5,(S5.mono b8),⟨[],.nil,hpa,rfl,.nil,by rw[Arms.sz];lia,by rw[Arms.dp];lia,by rw[Arms.binds];exact Bnm.nil,by rw[SndA];trivial⟩,nO,nO,nO,nO,rfl⟩ (λi σ H' _ h=>⟨SqK.l (h.1 _ _ npt' npt hpt),SqK.l (h.1 _ _ npr' npr hpr)⟩) ?_ ?_⟩
 .rintro i v y T σ H1 hv hy hT ⟨fx,kp,S1,⟨as,ar,hpa1,hal,hA,hz,hdp,hbn,hsn⟩,v1,v2,v3,v4,rfl⟩
  rw[uh]at hv hy;obtain⟨t,ht,rfl⟩:=ug.mp hv;obtain⟨rr,hrr,rfl⟩:=ug.mp hy;have hi:i < fs.length:=(uf.mp ht).1;have hrx:=hrs rr (uu hrr);refine⟨_,_,rfl,SqT.of uX9,rfl,_,_,rfl,_,_,rfl,rfl,?_⟩;refine cutD (λD' fin=>?_) (λ_ _ h=>h);refine cut2 λr2_ hr2_=>?_
  replace fx:=Fx.kp fx (Kp.refl.new (o:=.tup [.ref t,.int rr]) hT)
  replace kp:=kp.new (o:=.tup [.ref t,.int rr]) hT
  replace S1:=S1.new hT (.tup [.ref t,.int rr])
  replace hpa1:=old (o:=.tup [.ref t,.int rr]) hT hpa1
  replace hA:=hA.keep (.of (zn hT (.tup [.ref t,.int rr])))
  generalize upd H1 T (.tup [.ref t,.int rr])=H6 at *;obtain⟨z,ss,g,sq,e1,e2,e3⟩:=(hf.kp S0 kp).get ht;have hss:ss.length<=9/\So ss:=ftl _ (uu e1);have hw6:=kp.k _ _ (S0.neW hw0) hw0;refine¬(ixT e2 aI1 ⟨_,_,rfl,.inl (SqL.of e3),¬⟨bc,bc,yW (n:=(ss.map V.int).length) (λj τ ys H'=>H6=H'/\(∃v,τ=[sR st,sR sc,sO (.int (k:Nat)),sO (.int room),sR w0,sO (.int (a:Nat)),sO (.int so),sO (.str x),sR pa,sR pt,sR t,sO (.int rr),v3,v4,v])/\ys=((uQ j).map λi=>nm o.z o.b (k+i)).map V.str) ⟨rfl,⟨nO,rfl⟩,rfl⟩ ?_ ?_⟩⟩)
  .rintro j τ ys H7 hj ⟨rfl,⟨v,rfl⟩,rfl⟩
   rw[ub]at hj;have ek:((k:Nat):Int)+(0+(j:Nat))=((k+j:Nat):Int):=b8
   refine(zv rfl rfl ¬(zE rfl rfl ⟨w0,o.z,o.b,_,k+j,(by show[V.ref w0,V.int (((k:Nat):Int)+(0+(j:Nat)))]=_;rw[ek]),hw6,wok.z,by rw[ub,ub,UR];lia,rfl,⟨_,rfl⟩,?_⟩));rw[List.range_succ,ur,ur]
   rfl
  rintro τ ys H7 ⟨rfl,_,rfl⟩ pn hpn;rw[ub];have nl:((uQ ss.length).map λi=>nm o.z o.b (k+i)).length=ss.length:=by rw[ub,UR]
  have nb:Bnm o k 900 ((uQ ss.length).map λi=>nm o.z o.b (k+i)):=λx hx=>by
   obtain⟨j,hj,rfl⟩:=uz.mp hx
   have:=Ut.mp hj
   exact⟨k+j,UE _ _,b8,rfl⟩
  have nnd:((uQ ss.length).map λi=>nm o.z o.b (k+i)).Nodup/\((uQ ss.length).map λi=>nm o.z o.b (k+i)).length<=10:=⟨zei b8,by rw[ub,UR];lia⟩;have nnw:=zdg (n:=ss.length) b8 hbl;have nup:=zej (n:=ss.length) hbl;generalize (uQ ss.length).map (λi=>nm o.z o.b (k+i))=NS at *
  replace fx:=Fx.kp fx (Kp.refl.new (o:=.lst (NS.map V.str)) hpn)
  have kp7:=kp.new (o:=.lst (NS.map V.str)) hpn
  replace S1:=S1.new hpn (.lst (NS.map V.str))
  replace hpa1:=old (o:=.lst (NS.map V.str)) hpn hpa1
  replace hA:=hA.keep (.of (zn hpn (.lst (NS.map V.str))))
  replace e2:=old (o:=.lst (NS.map V.str)) hpn e2
  replace e3:=old (o:=.lst (NS.map V.str)) hpn e3
  have hpn7:=uX9 (H:=H6) (a:=pn) (o:=.lst (NS.map V.str));generalize upd H6 pn (.lst (NS.map V.str))=H7 at *;obtain⟨⟨ts,hsc,hTs⟩,scn,scs⟩:=id hSc;have htl2:=hTs.len;have npn:=S1.neS hpn7;refine(zv rfl rfl ¬(ixT e2 aI1 ⟨pn,sq,_,_,rfl,.inl (SqL.of hpn7),.inl (SqL.of e3),λH8 pz zs s8 f8 hpz hzl _ _ hpair=>?_⟩));have tz:=Zw hzl hpair;have hzl2:zs.length=ss.length:=by rw[hzl,ub,ub];lia
  have kp8:=kp7.trans (.of s8);refine⟨sc,pz,(zE rfl rfl ⟨kp8.k _ _ (S0.neR hsc) hsc,hpz,bp,λpm h9=>?_⟩)⟩;rw[<- ur];have kp9:=kp8.new (o:=.lst ((ts++zs).map V.ref)) h9;have s79:Same H7 (upd H8 pm (.lst ((ts++zs).map V.ref))):=s8.new h9;have hpm:=uX9 (H:=H8) (a:=pm) (o:=.lst ((ts++zs).map V.ref));have tz9:=tz.keep (.of (zn h9 (.lst ((ts++zs).map V.ref))));have sc9:Sc (upd H8 pm (.lst ((ts++zs).map V.ref))) (l++NS.zip ss) pm:=by
   refine⟨⟨ts++zs,hpm,(hTs.keep (kp9.tups S0)).app tz9⟩,?_,λp hp=>?_⟩
   .rw[ud,Ul]
    lia
   .rcases uy.mp hp with hp|hp
    .exact scs p hp
    .have:=hss.2 p.2 (UC hp).2
     lia
  replace fx:=Fx.kp fx (.of s79)
  replace S1:=S1.same s79
  replace hpa1:=s79 _ _ hpa1
  replace hA:=hA.keep (.of s79)
  replace e2:=s79 _ _ e2
  replace hpn7:=s79 _ _ hpn7
  generalize upd H8 pm (.lst ((ts++zs).map V.ref))=H9 at *;subst hr2_;refine¬⟨.inl ⟨rfl,_,SqL.of hpa1⟩,¬(ixT e2 aI0 ¬⟨pn,¬(.inl ⟨SqL.of hpn7,λpu h10=>?_⟩)⟩)⟩
  replace fx:=Fx.kp fx (Kp.refl.new (o:=.tup (NS.map V.str)) h10)
  have kp10:=kp9.new (o:=.tup (NS.map V.str)) h10
  replace S1:=S1.new h10 (.tup (NS.map V.str))
  replace hpa1:=old (o:=.tup (NS.map V.str)) h10 hpa1
  replace hA:=hA.keep (.of (zn h10 (.tup (NS.map V.str))))
  replace hpn7:=old (o:=.tup (NS.map V.str)) h10 hpn7
  replace sc9:=sc9.same (zn h10 (.tup (NS.map V.str)))
  have hpu:=uX9 (H:=H9) (a:=pu) (o:=.tup (NS.map V.str));generalize upd H9 pu (.tup (NS.map V.str))=H10 at *;have hne:l++NS.zip ss≠[]:=λe=>hl0 (List.append_eq_nil_iff.mp e).1;have hbnd:B+4+i*CB n+CB n<=B+4+3*CB n:=by
   have:i+1<=3:=b8
   have:=UY (CB n) this
   rw[UJ]at this;lia
  refine(zv rfl rfl (zv rfl rfl ⟨_,_,rfl,.inl (SqL.of hpn7),(zE rfl rfl (zv rfl rfl ¬⟨st,pm,w0,k+(NS.map V.str).length,a,_,rr,l++NS.zip ss,o,rfl,ha,S1,b8,sc9,hW.kp S0 kp10,?_,?_,⟨bc,by rw[ub,nl,ur,List.map_fst_zip b8];exact nup⟩,λH11 pb b k11 S11 hb hbz hbd hbb hsb=>?_⟩))⟩))
  .rw[iN hne]
   lia
  .rw[ud,Ul]
   lia
  refine⟨sN3,λtt h12=>?_⟩;have hpa11:=k11.k _ _ npa hpa1;have tp:Tups H10 (upd (upd H11 tt (.tup [.str z,.ref pu,.ref pb])) pa (.lst (as.map V.ref++[.ref tt]))):=λp xs hp=>by
   have g:=k11.tups S1 _ _ hp;rw[zo (yE g hpa11 bq)];exact old h12 g
  have tp2:Tups H11 (upd (upd H11 tt (.tup [.str z,.ref pu,.ref pb])) pa (.lst (as.map V.ref++[.ref tt]))):=λp xs g=>by
   rw[zo (yE g hpa11 bq)];exact old h12 g
  have kp12:=(kp10.trans k11).new (o:=.tup [.str z,.ref pu,.ref pb]) h12;refine⟨pa,(zE rfl rfl ⟨old h12 hpa11,bc,fin _ _ ⟨Fx.pa (Fx.kp fx (k11.new h12)),kp12.put fpa,Sta.put S0 fpa kp12 ((S11.mono ?_).new h12 _),⟨as++[tt],Arms.app ar (.cons z NS b .nil),by rw[uX9];simp,by simp[hal],?_,?_,by rw[Arms.dp_app,Arms.dp,Arms.dp];lia,by rw[Arms.binds_app,Arms.binds,Arms.binds,u7];exact hbn.app (nb.app (hbb.mono (UE _ _))),hsn.app (by rw[SndA,SndA];rw[ur,List.map_fst_zip b8]at hsb;exact⟨⟨⟨nnd,nnw⟩,hsb⟩,trivial⟩)⟩,_,_,_,_,rfl⟩⟩)⟩
  .rw[UJ]
   lia
  .refine IsA.app (.cons ?_ (tp _ _ hpu) (hb.keep tp2) .nil) (hA.keep tp)
   rw[zo (zk hpa11 h12).symm];exact uX9
  .rw[Arms.sz_app,Arms.sz,Arms.sz,UJ]
   lia
 rintro σ H6 ⟨fx,kp,S6,⟨as,ar,hpa6,hal,hA,hz,hdp,hbn,hsn⟩,v1,v2,v3,v4,rfl⟩;rw[ub]at hal S6 hz;have hl3:fs.length<=3:=b8
 have hc3:=UY (CB n) hl3;have hz3:=UY (SZ n+10) hl3;refine(show ∀(u:TS)(D:Ends),(∀(H':Hp)(as:List aO)(ar:Arms),Kp st H H'->Sta K H' st (B+(3*CB n+10))->H' pa=sO (.lst (as.map V.ref))->IsA H' ar as->0 < as.length->ar.sz<=3*SZ n+30->ar.dp<=n->Bnm o k 900 ar.binds->SndA o (l.map (·.1)) ar->u D [sR st,sR sc,sO (.int (k:Nat)),sO (.int room),sR w0,sO (.int (a:Nat)),sO (.int so),sO (.str x),sR pa,sR pt,v1,v2,v3,v4] H')->(tSeq _ (tSeq _ u):TS) D _ H6 from ?key) _ _ ?rest
 case key =>
  intro u D tail;refine¬⟨st,2,_,rfl,S6,b8,b9,λH7 r7 k7 S7 _ _=>?_⟩;have hpa7:=k7.k _ _ npa hpa6;have hA7:=hA.keep (k7.tups S6);have kp7:=kp.trans k7;refine⟨rfl,¬?_⟩;refine ite2 (λ_=>?_) (λ_=>?_)
  .refine¬⟨.inl ⟨rfl,_,SqL.of hpa7⟩,pa,¬⟨rfl,hpa7,?_⟩⟩
   have tp:Tups H7 (upd H7 pa (.lst (as.map V.ref).reverse)):=λp xs g=>by rw[zo (yE g hpa7 bq)];exact g
   exact tail _ as.reverse ar.rev (kp7.put fpa) (Sta.put S0 fpa kp7 (S7.mono b8)) (by rw[uX9,List.map_reverse]) ((hA7.rev).keep tp) (by rw[Ux];lia) (by rw[Arms.sz_rev];lia) (by rw[Arms.dp_rev];exact hdp) hbn.rev hsn.rev
  .exact tail _ as ar kp7 (S7.mono b8) hpa7 hA7 b8 b8 hdp hbn hsn
 case rest =>
  intro H8 as ar k8 S8 hpa8 hA8 hl8 hz8 hd8 hb8 hs8;refine(zv rfl rfl ⟨pa,¬(.inl ⟨SqL.of hpa8,λp9 h9=>⟨sN3,λt h10=>?_⟩⟩)⟩);refine q _ t (.case x ar) ((k8.new h9).new h10) ((S8.new h9 _).new h10 _) (.case uX9 (old h10 uX9) hl8 ((hA8.keep (.of (zn h9 _))).keep (.of (zn h10 _)))) ?_ ?_ (by rw[Bd.binds];exact hb8) (by rw[SndB];exact⟨hx,hs8⟩)
  .rw[Bd.sz]
   lia
  .rw[Bd.dp]
   lia
theorem scBody:FnScope ["_law_state","_law_scope","_law_k","_law_room","_law_world_here","_law_at","_law_way","_law_deed_here","_law_sort","_law_name_here","_law_rooms_here","_law_first"] lS0 (zq We):=.ok
theorem zaS(F:Fun K "_law_body" "_law_body" We f fd)(GD:Ca P w K mg base CX0 1 "_law_draw" lS2 (spDraw K))(GN':Ca P w K mg base CX0 1 "_law_name" lS7 spNm)(GK:Ca P w K mg base CX0 2 "_law_pick" lS4 (spPick K))(GR:Ca P w K mg base CX0 2 "_law_rooms" lS18 (spRooms K))(GE:Ca P w K mg base CX0 5 "_law_deed" lS13 (spDeed K))(GC:Ca P w K mg base CX0 (7+2*n) "_law_case" lS0 (spCase K n))(GB:Ca P w K mg base CX0 (6+2*n) "_law_body" lS0 (spBody K n)):FnOk P w K mg base CX0 (6+2*(n+1)) f fd lS0 (spBody K (n+1)):=by
 rw[show 6+2*(n+1)=(7+2*n)+1 by lia];refine F.by scBody ?_ ?_
 .rintro _ _ _ _ ⟨_,_,_,_,_,_,_,_,_,rfl,_⟩;rfl
 rintro _ _ _ _ H vs Q _ hr ⟨st,sc,w0,k,a,B,room,l,o,rfl,ha,S0,hB,hSc,hW,hme,hln,⟨hkn,hbl⟩,q⟩;have hr1:Room 1 _:=hr.mono b8;have hr2:Room 2 _:=hr.mono b8;have hr5:Room 5 _:=hr.mono b8;have hrB:Room (6+2*n) _:=hr.mono b8;refine⟨_,
  (zh (sE 6 scBody.nd (cA GD hr1 (jA2 (!0) zp)))
  (zh (zF (jW.pt (xQ (tN (V5 hr) (!1) (zI zQ)) (xt (jW.pt (yI (tN zbI (!3) zp) (yG (tN zJ (!6) zp)))))))
   (zi (zt (zy (jA2 zu (cA GK hr2 (jA3 (!0) (!1) (zj K (xX (zT K) (zM K !4) !5)))))))) zw)
  (zh (zF (jW.pt (yI (tN (Xg hr) (!1) (zI zQ)) (yI (tN zbI (!3) zp) (yG (tN jB (!6) zp)))))
   (zh (xS (cA GE hr5 (jA4 (!0) (!1) (!4) !5)) (zW K rfl (zx (gN 7 scBody.nd) (zx (gN 8 scBody.nd) zV))))
   (zh (sE 9 scBody.nd (cA GN' hr1 (jA2 (!4) !2)))
   (zi (zt (zy (jA4 zu (!9) (!7) (cA GB hrB (jA6 (!0) (zC yP (!1) (zI (jA1 (zy (jA2 (!9) !8))))) (zC yz (!2) zp) (zC xo (!3) zp) (!4) !5)))))))) zw)
  (zh (zF (tN vJ (!6) zp)
   (zi (zt (cA GC hr (jA6 (!0) (!1) (!2) (!3) (!4) !5)))) zw)
  (zh (sE 10 scBody.nd (cA GR hr2 (jA3 (!0) (!3) zp)))
  (zh (sE 11 scBody.nd (cA GB hrB (jA6 (!0) (!1) (!2) (zM K (jv 10)) (!4) !5)))
  (zi (zt (zy (jA4 zu (cA GK hr2 (jA3 (!0) (!1) zp)) (jv 11) (cA GB hrB (jA6 (!0) (!1) (!2) (zM K (jv 10)) (!4) !5)))))))))))),?_⟩
 have sl:=zN;have LM:LIM=4611686018427387904:=rfl;have cb:CB (n+1)=3*CB n+300:=rfl;have sz:SZ (n+1)=3*SZ n+40:=rfl;rw[cb]at hB q;rw[sz]at q;obtain⟨⟨ts,hsc,hT⟩,scn,scs⟩:=id hSc;have htl:=hT.len;have h0:l=[]↔ts=[]:=by
  rw[<- Um,<- Um,htl]
 refine(show ∀(uG uL uR:TS)(D:Ends),D.rt=Q->(∀(D':Ends)(H':Hp)(r:Int),D'.rt=Q->l≠[]->Kp st H H'->Sta K H' st (B+1)->uG D' [sR st,sR sc,sO (.int (k:Nat)),sO (.int room),sR w0,sO (.int (a:Nat)),sO (.int r),nO,nO,nO,nO,nO] H')->(∀(D':Ends)(H':Hp)(r:Int),D'.rt=Q->(l≠[]->1<=room)->Kp st H H'->Sta K H' st (B+1)->uL D' [sR st,sR sc,sO (.int (k:Nat)),sO (.int room),sR w0,sO (.int (a:Nat)),sO (.int r),nO,nO,nO,nO,nO] H')->(∀(H':Hp)(r:Int),l≠[]->1<=room->Kp st H H'->Sta K H' st (B+1)->uR D [sR st,sR sc,sO (.int (k:Nat)),sO (.int room),sR w0,sO (.int (a:Nat)),sO (.int r),nO,nO,nO,nO,nO] H')->(tSeq _ (tSeq (tIfS _ uG jr) (tSeq (tIfS _ uL jr) uR)):TS) D _ H from ?key) _ _ _ _ rfl ?g ?l ?r
 case key =>
  intro uG uL uR D hD hG hL hR;refine¬⟨st,8,B,rfl,S0,b8,b9,λH1 r k1 S1 r0 r1=>?_⟩;refine¬⟨sN0,λpe h2=>?_⟩;have k2:=k1.new (o:=.lst []) h2;have S2:=S1.new h2 (.lst []);have hsc2:=k2.k _ _ (S0.neR hsc) hsc;refine⟨_,_,_,rfl,rfl,SqL.of hsc2,SqL.of uX9,¬?_⟩;show if(if tU=tU then !(ts.map V.ref).isEmpty else(ts.map V.ref).isEmpty)=tU then _ else _
  generalize upd H1 pe (.lst [])=H2 at *;have test3:∀(b:Bool),(ts.map V.ref).isEmpty=b->True:=λ_ _=>trivial;by_cases he:ts=[]
  .have e0:(ts.map V.ref).isEmpty=tU:=by rw[he];rfl
   rw[e0];refine iteF ?_;refine¬⟨sN0,λpe3 h3=>?_⟩;have k3:=k2.new (o:=.lst []) h3;have S3:=S2.new h3 (.lst []);refine⟨_,_,_,rfl,rfl,SqL.of (old h3 hsc2),SqL.of uX9,¬?_⟩;show if(if fO=tU then !(ts.map V.ref).isEmpty else(ts.map V.ref).isEmpty)=tU then _ else _
   rw[e0];exact iteT (hL _ _ r hD (λe=>absurd (h0.mpr he) e) k3 S3)
  .have e0:(ts.map V.ref).isEmpty=fO:=by
    cases ts with
    |nil=>exact absurd rfl he
    |cons _ _=>rfl
   have hl0:l≠[]:=λe=>he (h0.mp e);rw[e0];refine iteT ?_;refine¬(zE rfl rfl ¬?_);refine ite2 (λ_=>hG _ _ r hD hl0 k2 S2) (λc=>?_);rw[dA]at c;have hroom:1<=room:=b8
   refine¬⟨rfl,¬?_⟩;refine ite2 (λ_=>hG _ _ r hD hl0 k2 S2) (λ_=>?_);refine¬⟨sN0,λpe3 h3=>?_⟩;have k3:=k2.new (o:=.lst []) h3;have S3:=S2.new h3 (.lst []);refine⟨_,_,_,rfl,rfl,SqL.of (old h3 hsc2),SqL.of uX9,¬?_⟩;show if(if fO=tU then !(ts.map V.ref).isEmpty else(ts.map V.ref).isEmpty)=tU then _ else _
   rw[e0];refine iteF ?_;refine¬(zE rfl rfl ¬?_);refine ite2 (λ_=>hL _ _ r hD (λ_=>hroom) k3 S3) (λ_=>?_);refine¬(zE rfl rfl ¬?_);exact ite2 (λ_=>hL _ _ r hD (λ_=>hroom) k3 S3) (λ_=>hR _ r hl0 hroom k3 S3)
 case g =>
  intro D' H1 r hD hl0 k1 S1;obtain⟨⟨tl,dl,tt,ds,hw,htl1,hdl,hTt,hTd⟩,wok⟩:=hW.kp S0 k1;have dlen:=wok.dlen;have hdl2:=hTd.len;obtain⟨t,ht⟩:∃t,ds[a]?=sO t:=⟨_,uj b8⟩;obtain⟨z,ss,g,sq,e1,e2,e3⟩:=hTd.get ht;have htr:(ds.map V.ref)[a]?=sO (.ref t):=by rw[uh,ht];rfl
  refine(zv rfl rfl ¬(ixL hw aI3 ¬⟨dl,_,_,_,rfl,rfl,SqL.of hdl,yx htr,ixT e2 aI2 ⟨st,sc,g,_,l,rfl,S1,b8,hSc.kp S0 k1,hl0,λH2 x k2 S2 hx=>⟨sN2,λt1 h3=>?_⟩⟩⟩));rw[hD];exact q _ t1 (.give x) ((k1.trans k2).new h3) ((S2.mono b8).new h3 _) (.give uX9) (by rw[Bd.sz];lia) (by rw[Bd.dp];lia) (by rw[Bd.binds];exact Bnm.nil) (by rw[SndB];exact hx)
 case l =>
  intro D' H1 r hD hroom k1 S1;refine(zv rfl rfl (zv rfl rfl ⟨st,sc,w0,_,l,o,a,rfl,ha,S1,b8,hSc.kp S0 k1,hW.kp S0 k1,λH2 p p' d g k2 S2 hp hd g0 g1 hcal hu=>?_⟩));refine⟨_,_,rfl,SqT.of hp,rfl,_,_,rfl,_,_,rfl,rfl,?_⟩;have k12:=k1.trans k2;obtain⟨⟨tl,dl,tt,ds,hw,htl1,hdl,hTt,hTd⟩,wok⟩:=hW.kp S0 k12;refine(zv rfl rfl ⟨w0,o.z,o.b,_,k,rfl,hw,wok.z,?_⟩);generalize hy:nm o.z o.b k=y;refine(zv rfl rfl (zv rfl rfl (zv rfl rfl ⟨sN2,λt1 h3=>⟨sN1,λpl h4=>?_⟩⟩)));have k3:=k12.new (o:=.tup [.str y,.int g]) h3;have k4:=k3.new (o:=.lst [.ref t1]) h4;refine⟨sc,pl,(zE rfl rfl ⟨k4.k _ _ (S0.neR hsc) hsc,uX9,by rw[ub];show _+1<=_;lia,λpm h5=>?_⟩)⟩;have em:ts.map V.ref++[V.ref t1]=(ts++[t1]).map V.ref:=by rw[ur];rfl
  rw[em];have k5:=k4.new (o:=.lst ((ts++[t1]).map V.ref)) h5;have S5:=((S2.new h3 (.tup [.str y,.int g])).new h4 (.lst [.ref t1])).new h5 (.lst ((ts++[t1]).map V.ref));have hd5:=(((hd.keep (.of (zn h3 (.tup [.str y,.int g])))).keep (.of (zn h4 (.lst [.ref t1])))).keep (.of (zn h5 (.lst ((ts++[t1]).map V.ref)))));have ht1:=old (o:=.lst ((ts++[t1]).map V.ref)) h5 (old (o:=.lst [.ref t1]) h4 (uX9 (H:=H2) (a:=t1) (o:=.tup [.str y,.int g])));have hpm:=uX9 (H:=upd (upd H2 t1 (.tup [.str y,.int g])) pl (.lst [.ref t1])) (a:=pm) (o:=.lst ((ts++[t1]).map V.ref));generalize upd (upd (upd H2 t1 (.tup [.str y,.int g])) pl (.lst [.ref t1])) pm (.lst ((ts++[t1]).map V.ref))=H5 at *;have sc5:Sc H5 (l++[(y,g)]) pm:=by
   refine⟨⟨ts++[t1],hpm,(hT.keep (k5.tups S0)).app (.cons ht1 .nil)⟩,?_,λx hx=>?_⟩
   .rw[ud,uH]
    lia
   .rcases uy.mp hx with hx|hx
    .exact scs x hx
    .rw[ut.mp hx]
     exact⟨g0,g1⟩
  refine¬(zE rfl rfl ¬(zE rfl rfl (zv rfl rfl ⟨st,pm,w0,k+1,a,_,room-1,l++[(y,g)],o,rfl,ha,S5,b8,sc5,hW.kp S0 k5,?_,?_,⟨b8,by rw[ur];exact zdh hbl hy⟩,λH6 pb b k6 S6 hb hbz hbd hbb hsb=>⟨sN4,λt2 h7=>?_⟩⟩)))
  .rw[iN ba]
   by_cases e:l=[]
   .rw[iP e]at hme
    lia
   .rw[iN e]at hme
    have:=hroom e
    lia
  .rw[ud,uH]
   lia
  rw[hD];exact q _ t2 (.lt y d b) ((k5.trans k6).new h7) ((S6.mono b8).new h7 _) (.lt uX9 ((hd5.keep (k6.tups S5)).keep (.of (zn h7 _))) (hb.keep (.of (zn h7 _)))) (by rw[Bd.sz];lia) (by rw[Bd.dp];lia) (by rw[Bd.binds];exactλx hx=>(uq.mp hx).elim (λe=>⟨k,uk _,b8,by rw[e,hy]⟩) (hbb.mono (Nat.le_succ _) x)) (by rw[SndB];rw[ur]at hsb;exact⟨⟨hu,zaP b8 hbl hy,hcal⟩,hsb⟩)
 case r =>
  intro H1 r hl0 hroom k1 S1;rw[iN hl0]at hme;refine¬(zE rfl rfl ¬?_);refine ite2 (λ_=>?_) (λ_=>?_)
  .refine(zv rfl rfl (zv rfl rfl (zv rfl rfl ⟨st,sc,w0,k,a,_,room,l,o,rfl,ha,S1,b8,hSc.kp S0 k1,hl0,hW.kp S0 k1,hroom,b8,b8,⟨b8,hbl⟩,λH2 p b k2 S2 hb hbz hbd hbb hsb=>?_⟩)))
   exact q _ p b (k1.trans k2) (S2.mono b8) hb b8 hbd hbb hsb
  refine(zv rfl rfl ⟨st,room,2,_,rfl,hroom,b9,b9,S1,b8,λH2 pr rs k2 S2 f2 hpr hrl hrs=>?_⟩);have k12:=k1.trans k2;obtain⟨r1,r2,rfl⟩:∃r1 r2,rs=[r1,r2]:=by
   match rs,hrl with
   |[x,y],_=>exact⟨x,y,rfl⟩
  have hr1':=hrs r1 ba;have hr2':=hrs r2 ba;refine(zv rfl rfl (zv rfl rfl (ixL hpr aI0 (zv rfl rfl ⟨st,sc,w0,k,a,_,r1,l,o,rfl,ha,S2,b8,hSc.kp S0 k12,hW.kp S0 k12,?_,b8,⟨b8,hbl⟩,λH3 p1 b1 k3 S3 hb1 hz1 hd1 hn1 hs1=>?_⟩))))
  .rw[iN hl0]
   lia
  have k13:=k12.trans k3;have hpr3:=k3.k _ _ (S2.neI hpr) hpr;refine(zv rfl rfl ⟨st,sc,0,_,l,rfl,S3,b8,hSc.kp S0 k13,hl0,λH4 x k4 S4 hx=>?_⟩);have k14:=k13.trans k4;refine(zv rfl rfl (zv rfl rfl ¬(ixL (k4.k _ _ (S3.neI hpr3) hpr3) aI1 (zv rfl rfl ⟨st,sc,w0,k,a,_,r2,l,o,rfl,ha,S4,b8,hSc.kp S0 k14,hW.kp S0 k14,?_,b8,⟨b8,hbl⟩,λH5 p2 b2 k5 S5 hb2 hz2 hd2 hn2 hs2=>⟨sN4,λt2 h7=>?_⟩⟩))))
  .rw[iN hl0]
   lia
  exact q _ t2 (.iff x b1 b2) ((k14.trans k5).new h7) ((S5.mono b8).new h7 _) (.iff uX9 (((hb1.keep (k4.tups S3)).keep (k5.tups S4)).keep (.of (zn h7 _))) (hb2.keep (.of (zn h7 _)))) (by rw[Bd.sz];lia) (by rw[Bd.dp];lia) (by rw[Bd.binds];exact hn1.app hn2) (by rw[SndB];exact⟨hx,hs1,hs2⟩)
structure Df where
 z:Str
 ns:lS
 b:Bd
structure IsF(H:Hp)(d:Df)(p:aO):Prop where
 ex:∃q pb,H p=sO (.tup [.str d.z,.ref q,.ref pb])/\H q=sO (.tup (d.ns.map V.str))/\IsB H d.b pb
theorem IsF.keep{d:Df}(h:IsF H d p)(t:Tups H H'):IsF H' d p:=by obtain⟨q,pb,h1,h2,h3⟩:=h.ex;exact⟨q,pb,t _ _ h1,t _ _ h2,h3.keep t⟩
inductive IsFs(H:Hp):List Df->List aO->Prop
 |nil:IsFs H [] []
 |cons {d:Df} {p:aO} {ds:List Df} {ps:List aO}:IsF H d p->IsFs H ds ps->IsFs H (d::ds) (p::ps)
theorem IsFs.keep{d:List Df}{p:List aO}(h:IsFs H d p)(t:Tups H H'):IsFs H' d p:=by
 induction h with
 |nil=>exact .nil
 |cons a _ ih=>exact .cons (a.keep t) ih
theorem IsFs.app{a b:List Df}{p:List aO}(h:IsFs H a p)(g:IsFs H b q):IsFs H (a++b) (p++q):=by
 induction h with
 |nil=>exact g
 |cons x _ ih=>exact .cons x ih
theorem IsFs.len{l:List Df}(h:IsFs H l ts):l.length=ts.length:=by
 induction h with
 |nil=>rfl
 |cons _ _ ih=>rw[ui,ui,ih]
theorem IsFs.get{H:Hp}:∀{l:List Df}{ts:List aO}{i:Nat}{t:aO},IsFs H l ts->ts[i]?=sO t->∃d,l[i]?=sO d/\IsF H d t
 |_,_,_,_,.nil,e=>by simp at e
 |_,_,0,_,.cons a _,e=>by
  simp at e
  subst e;exact¬(a)
 |_,_,i+1,_,.cons _ b,e=>by
  obtain⟨d,h1,h2⟩:=IsFs.get (i:=i) b (by simpa using e);exact⟨d,bf,h2⟩
def FOk(n:Nat)(d:Df):Prop:=d.ns.length<=3/\d.b.sz<=SZ n/\d.b.dp<=n
structure FNm(o:Wo)(d:Df):Prop where
 n:d.ns=(uQ d.ns.length).map λi=>nm o.z o.b i
 b:Bnm o d.ns.length 900 d.b.binds
 sn:SndB o d.ns d.b
 s:∃s∈o.defs,s.1=d.z/\s.2.1.length=d.ns.length
inductive spDef(K:uc)(n:Nat)(vs:List V)(H:Hp)(Q:VK)(e_3:XK):Prop
 |mk (st w:aO) (a B:Nat) (room:Int):∀o:Wo,(vs=[.ref st,.ref w,.int (a:Nat),.int room])->(a < 3)->(Sta K H st B)->(B+CB n < LIM)->(IsW H o w)->(room.toNat+2<=n)->(10*n<=800)->(∀(H':Hp)(p:aO)(d:Df),Kp st H H'->Sta K H' st (B+CB n)->IsF H' d p->FOk n d/\FNm o d->d.z=nm o.z o.b (2-a)->Q (.ref p) H')->spDef K n vs H Q e_3
noncomputable def kd (o:Wo):List (Str×Int):=o.tags.map λt=>(t.1,((t.2.1.length:Nat):Int))
inductive spKinds(vs:List V)(H:Hp)(Q:VK)(e_3:XK):Prop
 |mk (w:aO):∀o:Wo,(vs=[.ref w])->(IsW H o w)->(∀(H':Hp)(p p1 p2:aO)(t1 t2:List aO),Same H H'->H' p=sO (.tup [.ref p1,.ref p2])->H' p1=sO (.tup (t1.map V.ref))->H' p2=sO (.tup (t2.map V.ref))->Tps H' ((kd o).take 3) t1->Tps H' ((kd o).drop 3) t2->Q (.ref p) H')->spKinds vs H Q e_3
inductive spProgram(K:uc)(n:Nat)(vs:List V)(H:Hp)(Q:VK)(e_3:XK):Prop
 |mk (st w:aO) (B:Nat) (room:Int):∀o:Wo,(vs=[.ref st,.ref w,.int room])->(Sta K H st B)->(B+3*CB n < LIM)->(IsW H o w)->(room.toNat+2<=n)->(10*n<=800)->(∀(H':Hp)(p pk pd p1 p2:aO)(t1 t2 ds:List aO)(dfs:List Df),Kp st H H'->Sta K H' st (B+3*CB n)->H' p=sO (.tup [.ref pk,.ref pd])->H' pk=sO (.tup [.ref p1,.ref p2])->H' p1=sO (.tup (t1.map V.ref))->H' p2=sO (.tup (t2.map V.ref))->Tps H' ((kd o).take 3) t1->Tps H' ((kd o).drop 3) t2->H' pd=sO (.tup (ds.map V.ref))->IsFs H' dfs ds->ds.length=3->(∀d∈dfs,FOk n d/\FNm o d)->dfs.map (·.z)=(uQ 3).map (λk=>nm o.z o.b (2-k))->Q (.ref p) H')->spProgram K n vs H Q e_3
theorem Tps.take{l:List (Str×Int)}(h:Tps H l ts)(n:Nat):Tps H (l.take n) (ts.take n):=by
 induction h generalizing n with
 |nil=>rw[List.take_nil,List.take_nil];exact .nil
 |cons a _ ih =>
  cases n with
  |zero=>exact .nil
  |succ n=>rw[List.take_succ_cons,List.take_succ_cons];exact .cons a (ih n)
theorem Tps.drop{l:List (Str×Int)}(h:Tps H l ts)(n:Nat):Tps H (l.drop n) (ts.drop n):=by
 induction h generalizing n with
 |nil=>rw[List.drop_nil,List.drop_nil];exact .nil
 |cons a b ih =>
  cases n with
  |zero=>exact .cons a b
  |succ n=>rw[List.drop_succ_cons,List.drop_succ_cons];exact ih n
theorem Yr{α:Type}{f:α->V}{s:List α}{m:Int}(h:0<=m):cutV (s.map f) (sO m) nO=(s.drop m.toNat).map f:=by
 unfold cutV;have c2:HT.sIx (s.map f).length (s.map f).length nO=(s.map f).length:=rfl;have c1:HT.sIx (s.map f).length 0 (sO m)=min m.toNat (s.map f).length:=by
  show(if m < 0 then(m+((s.map f).length:Nat)).toNat else min m.toNat (s.map f).length)=_;rw[iN b8]
 rw[c1,c2,List.map_drop];rcases Nat.le_total m.toNat (s.map f).length with c|c
 .rw[Nat.min_eq_left c]
  exact um ba
 .rw[Nat.min_eq_right c,List.drop_of_length_le (uk _),List.drop_of_length_le c]
  exact List.take_nil
theorem JP(F:Fun K "_law_body" "_law_body" We f fd):FnOk P w K mg base CX0 (6+2*0) f fd lS0 (spBody K 0):=by
 refine F.by scBody (λvs H Q E h=>?_) (λcdv A outer s H vs Q E hr h=>?_)
 .obtain⟨st,sc,w,k,a,B,room,l,o,rfl,_⟩:=h
  rfl
 .obtain⟨st,sc,w,k,a,B,room,l,o,rfl,_,_,_,_,_,hme,_⟩:=h
  lia
theorem scDef:FnScope ["_law_state","_law_world_here","_law_at","_law_room","_law_name_here","_law_sorts_here","_law_gives","_law_params"] lS14 (zq sDef):=.ok
theorem zek:(["_law_state","_law_world_here","_law_at","_law_room","_law_name_here","_law_sorts_here","_law_gives","_law_params","_law_k"]:lS).Nodup:=be
theorem zdj(F:Fun K "_law_def" "_law_def" sDef f fd)(GN':Ca P w K mg base CX0 1 "_law_name" lS7 spNm)(GB:Ca P w K mg base CX0 (6+2*n) "_law_body" lS0 (spBody K n))(m_len:mg "len"=nO)(m_range:mg "range"=nO)(m_zip:mg "zip"=nO)(m_list:mg "list"=nO)(m_tuple:mg "tuple"=nO):FnOk P w K mg base CX0 (7+2*n) f fd lS14 (spDef K n):=by
 rw[show 7+2*n=(6+2*n)+1 by lia];refine F.by scDef ?_ ?_
 .rintro _ _ _ _ ⟨_,_,_,_,_,_,rfl,_⟩;rfl
 rintro _ _ _ _ H vs _ _ hr ⟨st,w0,a,B,room,o,rfl,ha,S0,hB,hW,hroom,hn,q⟩;have hr1:Room 1 _:=hr.mono b8;refine⟨_,
  (zh (xS (xX (zT K) (zM K !1) !2) (zW K rfl (zx (gN 4 scDef.nd) (zx (gN 5 scDef.nd) (zx (gN 6 scDef.nd) zV)))))
  (zh (yu ["_law_k"] (i:=7) scDef.nd rfl (Or.inl rfl) rfl (yw rfl m_range (jA1 (zG (zB K) rfl m_len uP (jA1 !5)))) (λ_ _ _ _ _=>(gN 8 zek)) (λ_ _ _ _ _=>zZ) (λ_ _ _ _ _=>(cA GN' hr1 (jA2 (!1) !8))))
  (zi (zt (zy (jA3 (!4) (zK (zD K) rfl m_tuple uo (jA1 !7)) (cA GB hr (jA6 (!0) (X5 rfl rfl m_list rfl m_zip (jA2 (!7) !5)) (zG (zB K) rfl m_len uP (jA1 !5)) (!3) (!1) !2)))))))),?_⟩
 have sl:=zN;have LM:LIM=4611686018427387904:=rfl;obtain⟨⟨tl,dl,tt,ds,hw,htl1,hdl,hTt,hTd⟩,wok⟩:=id hW;have dlen:=wok.dlen;have hdl2:=hTd.len;obtain⟨t,ht⟩:∃t,ds[a]?=sO t:=⟨_,uj b8⟩;obtain⟨z,ss,g,sq,e1,e2,e3⟩:=hTd.get ht;have wd:ss.length<=3/\So ss/\0<=g/\g<=2:=wok.ds _ (uu e1);have htr:(ds.map V.ref)[a]?=sO (.ref t):=by rw[uh,ht];rfl
 refine¬(ixL hw aI3 ¬⟨dl,_,_,_,rfl,rfl,SqL.of hdl,yx htr,_,_,rfl,SqT.of e2,rfl,_,_,rfl,_,_,rfl,_,_,rfl,rfl,?_⟩);refine¬⟨_,_,rfl,.inl (SqL.of e3),¬⟨bc,bc,yW (n:=(ss.map V.int).length) (λj τ ys H'=>H=H'/\(∃v,τ=[sR st,sR w0,sO (.int (a:Nat)),sO (.int room),sO (.str z),sR sq,sO (.int g),nO,v])/\ys=((uQ j).map λi=>nm o.z o.b i).map V.str) ⟨rfl,⟨nO,rfl⟩,rfl⟩ ?_ ?_⟩⟩
 .rintro j τ ys H7 hj ⟨rfl,⟨v,rfl⟩,rfl⟩
  rw[ub]at hj;refine(zv rfl rfl ⟨w0,o.z,o.b,_,j,(by show[V.ref w0,V.int (0+(j:Nat))]=_;rw[Int.zero_add]),hw,wok.z,by rw[ub,ub,UR];lia,rfl,⟨_,rfl⟩,?_⟩);rw[List.range_succ,ur,ur]
  rfl
 rintro τ ys H7 ⟨rfl,_,rfl⟩ pn hpn;rw[ub];have nl:((uQ ss.length).map λi=>nm o.z o.b i).length=ss.length:=by rw[ub,UR]
 generalize eNS:(uQ ss.length).map (λi=>nm o.z o.b i)=NS at *;refine(zv rfl rfl ⟨pn,¬(.inl ⟨SqL.of uX9,λpu hpu=>?_⟩)⟩);have s2:Same H (upd (upd H pn (.lst (NS.map V.str))) pu (.tup (NS.map V.str))):=(zn hpn _).new hpu;have hpn2:=old (o:=.tup (NS.map V.str)) hpu (uX9 (H:=H) (a:=pn) (o:=.lst (NS.map V.str)));have hpu2:=uX9 (H:=upd H pn (.lst (NS.map V.str))) (a:=pu) (o:=.tup (NS.map V.str));generalize upd (upd H pn (.lst (NS.map V.str))) pu (.tup (NS.map V.str))=H2 at *;refine(zv rfl rfl ¬⟨pn,sq,_,_,rfl,.inl (SqL.of hpn2),.inl (SqL.of (s2 _ _ e3)),λH3 pz zs s3 f3 hpz hzl _ _ hpair=>?_⟩);have tz:=Zw hzl hpair;have s13:=s2.trans s3;have sc3:Sc H3 (NS.zip ss) pz:=by
  refine⟨⟨zs,hpz,tz⟩,?_,λp hp=>?_⟩
  .rw[Ul]
   lia
  .have:=wd.2.1 p.2 (UC hp).2
   lia
 refine¬⟨_,_,rfl,.inl (SqL.of (s13 _ _ e3)),(zv rfl rfl ¬⟨st,pz,w0,(ss.map V.int).length,a,B,room,NS.zip ss,o,rfl,ha,S0.same s13,hB,sc3,hW.same s13,?_,?_,⟨bc,(by rw[ub,List.map_fst_zip b8];intro x hx;rw[<- eNS]at hx;obtain⟨j,hj,rfl⟩:=uz.mp hx;exact⟨j,uS _,Ut.mp hj,rfl⟩)⟩,λH4 pb b k4 S4 hb hbz hbd hbb hsb=>⟨sN3,λt4 h5=>?_⟩⟩)⟩
 .split<;>lia
 .rw[Ul]
  lia
 have ez:z=nm o.z o.b (2-a):=by
  have h1:(o.defs.map (·.1))[a]?=sO z:=by rw[uh,e1];rfl
  rw[wok.dn,uh,tJ ha]at h1;exact(u4.inj h1).symm
 refine q _ t4 ⟨z,NS,b⟩ (((Kp.of s13).trans k4).new h5) (S4.new h5 _) ⟨pu,pb,uX9,old h5 (k4.tups (S0.same s13) _ _ (s3 _ _ hpu2)),hb.keep (.of (zn h5 _))⟩ ⟨⟨by show NS.length<=3;lia,hbz,hbd⟩,⟨by show NS=(uQ NS.length).map _;rw[nl];exact eNS.symm,by show Bnm o NS.length 900 b.binds;rw[ub]at hbb;rw[nl];exact hbb,(by show SndB o NS b;rw[List.map_fst_zip b8]at hsb;exact hsb),⟨_,uu e1,rfl,nl.symm⟩⟩⟩ ez
theorem scKinds:FnScope ["_law_world_here","_law_some"] ["_law_world_here"] (zq Xo):=.ok
theorem Zx:(["_law_world_here","_law_some","_law_tag","_law_sorts_here","_law_kind"]:lS).Nodup:=be
theorem JQ(F:Fun K "_law_kinds" "_law_kinds" Xo f fd)(m_len:mg "len"=nO)(m_tuple:mg "tuple"=nO):FnOk P w K mg base CX0 1 f fd ["_law_world_here"] spKinds:=by
 refine F.by scKinds ?_ ?_
 .rintro _ _ _ _ ⟨_,_,rfl,_⟩;rfl
 rintro _ _ _ _ H vs _ _ _ ⟨w0,o,rfl,hW,q⟩;refine⟨_,
  (zh (yu ["_law_tag","_law_sorts_here","_law_kind"] (i:=1) scKinds.nd rfl (Or.inl rfl) rfl (zU K (zM K !0)) (λ_ _ _ _ _=>(zW K (n:=3) rfl (zx (gN 2 Zx) (zx (gN 3 Zx) (zx (gN 4 Zx) zV))))) (λ_ _ _ _ _=>zZ) (λ_ _ _ _ _=>(zy (jA2 (!2) (zG (zB K) rfl m_len uP (jA1 !3))))))
  (zi (zt (zy (jA2 (zK (zD K) rfl m_tuple uo (jA1 (yJ (wG K) (!1) yU (yV zp)))) (zK (zD K) rfl m_tuple uo (jA1 (yJ (wG K) (!1) (yV zp) yU)))))))),?_⟩
 have sl:=zN;obtain⟨⟨tl,dl,tt,ds,hw,htl1,hdl,hTt,hTd⟩,wok⟩:=id hW;have tlen:=wok.tlen;have htt:=hTt.len;refine¬(ixL hw aI2 ⟨tl,rfl,⟨_,SqL.of htl1⟩,yy (xs:=tt.map V.ref) (λj τ ys H'=>Same H H'/\(∃u v x,τ=[sR w0,nO,u,v,x])/\∃ps:List aO,ys=ps.map V.ref/\Tps H' ((kd o).take j) ps) ⟨Same.refl _,⟨nO,nO,nO,rfl⟩,[],rfl,.nil⟩ (λj τ ys H' _ h=>SqL.of (h.1 _ _ htl1)) ?_ ?_⟩)
 .rintro j v τ ys H1 hv ⟨s1,⟨u,v',x,rfl⟩,ps,rfl,hp⟩
  obtain⟨t,ht,rfl⟩:=L2.gM hv;obtain⟨z,ss,g,sq,e1,e2,e3⟩:=hTt.get ht;have hj:j < o.tags.length:=(uf.mp e1).1;have hpl:=hp.len;rw[uv]at hpl;refine⟨_,_,rfl,SqT.of (s1 _ _ e2),rfl,_,_,rfl,_,_,rfl,_,_,rfl,rfl,(zv rfl rfl ⟨_,_,rfl,.inl (SqL.of (s1 _ _ e3)),sN2,λt1 h2=>⟨?_,s1.new h2,⟨_,_,_,rfl⟩,ps++[t1],ba,?_⟩⟩)⟩
  .rw[ub]
   lia
  .have ek:(kd o)[j]?=sO (z,((ss.length:Nat):Int)):=by
    unfold kd;rw[uh,e1]
    rfl
   rw[uA,ek];refine(hp.keep (.of (zn h2 _))).app (.cons ?_ .nil);rw[uX9,ub]
 rintro τ ys H1 ⟨s1,_,ps,rfl,hp⟩ p1 h1;have kl:(kd o).length=4:=by unfold kd;rw[ub];exact tlen
 rw[ub,<- htt,um b8]at hp;refine(zv rfl rfl ⟨_,_,rfl,SqL.of uX9,λpa ha=>⟨pa,¬(.inl ⟨SqL.of uX9,λpb hb=>?_⟩)⟩⟩);refine(zv rfl rfl ⟨_,_,rfl,SqL.of (old hb (old ha uX9)),λpc hc=>⟨pc,¬(.inl ⟨SqL.of uX9,λpe he=>⟨sN2,λpf hf=>?_⟩⟩)⟩⟩);rw[Yq b9,Yr b9]at *;have s2:Same H1 _:=(((((zn h1 (.lst (ps.map V.ref))).new (o:=.lst ((ps.take 3).map V.ref)) ha).new (o:=.tup ((ps.take 3).map V.ref)) hb).new (o:=.lst ((ps.drop 3).map V.ref)) hc).new (o:=.tup ((ps.drop 3).map V.ref)) he).new (o:=.tup [.ref pb,.ref pe]) hf;exact q _ pf pb pe (ps.take 3) (ps.drop 3) (s1.trans s2) uX9 (old hf (old he (old hc uX9))) (old hf uX9) ((hp.keep (.of s2)).take 3) ((hp.keep (.of s2)).drop 3)
theorem Vg:FnScope lS10 lS10 (zq vV):=.ok
theorem Vh:(["_law_state","_law_world_here","_law_room","_law_at"]:lS).Nodup:=be
theorem XB(F:Fun K "_law_program" "_law_program" vV f fd)(GKs:Ca P w K mg base CX0 1 "_law_kinds" ["_law_world_here"] spKinds)(GF:Ca P w K mg base CX0 (7+2*n) "_law_def" lS14 (spDef K n))(m_range:mg "range"=nO)(m_tuple:mg "tuple"=nO):FnOk P w K mg base CX0 (8+2*n) f fd lS10 (spProgram K n):=by
 rw[show 8+2*n=(7+2*n)+1 by lia];refine F.by Vg ?_ ?_
 .rintro _ _ _ _ ⟨_,_,_,_,_,rfl,_⟩;rfl
 rintro _ _ _ _ _ vs _ _ hr ⟨st,w0,B,room,o,rfl,S0,hB,hW,hroom,hn,q⟩;have hr1:Room 1 _:=hr.mono b8;refine⟨_,
  (zi (zt (zy (jA2 (cA GKs hr1 (jA1 !1)) (zK (zD K) rfl m_tuple uo (jA1 (yn ["_law_at"] rfl (yw rfl m_range (jA1 zp)) (λ_ _ _ _ _=>(gN 3 Vh)) (λ_ _ _ _ _=>zZ) (λ_ _ _ _ _=>(cA GF hr (jA4 (!0) (!1) (!3) !2)))))))))),?_⟩
 have sl:=zN;have LM:LIM=4611686018427387904:=rfl;refine¬⟨w0,o,rfl,hW,λH1 pk p1 p2 t1 t2 s1 hpk hp1 hp2 hk1 hk2=>?_⟩;refine¬⟨b9,b9,yW (n:=3) (λi τ ys H'=>Kp st H1 H'/\Sta K H' st (B+i*CB n)/\(∃x,τ=[sR st,sR w0,sO (.int room),x])/\∃(ps:List aO)(dfs:List Df),ys=ps.map V.ref/\ps.length=i/\IsFs H' dfs ps/\(∀d∈dfs,FOk n d/\FNm o d)/\dfs.map (·.z)=(uQ i).map (λk=>nm o.z o.b (2-k))) ⟨Kp.refl,(S0.same s1).mono b8,⟨nO,rfl⟩,[],[],rfl,rfl,.nil,(λd hd=>by cases hd),rfl⟩ ?_ ?_⟩
 .rintro i τ ys H2 hi ⟨k2,S2,⟨x,rfl⟩,ps,dfs,rfl,hl,hF,hok,hnm⟩
  have hb:i*CB n+CB n<=3*CB n:=by
   have:=UY (CB n) (show i+1<=3 by lia)
   rw[UJ]at this;lia
  refine(zv rfl rfl (zv rfl rfl ⟨st,w0,i,_,room,o,(by show[V.ref st,V.ref w0,V.int (0+(i:Nat)),V.int room]=_;rw[Int.zero_add]),hi,S2,b8,(hW.same s1).kp (S0.same s1) k2,hroom,hn,λH3 p d k3 S3 hd hdk hdz=>⟨bc,k2.trans k3,S3.mono (by rw[UJ];lia),⟨_,rfl⟩,ps++[p],dfs++[d],ba,by simp[hl],(hF.keep (k3.tups S2)).app (.cons hd .nil),(λe he=>?_),by rw[List.range_succ,ur,ur,hnm];show _++[d.z]=_++[_];rw[hdz]⟩⟩));rcases uy.mp he with he|he
  .exact hok e he
  .rw[ut.mp he]
   exact hdk
 rintro τ ys H2 ⟨k2,S2,_,ps,dfs,rfl,hl,hF,hok,hnm⟩ p3 h3;refine⟨p3,¬(.inl ⟨SqL.of uX9,λp4 h4=>⟨sN2,λp5 h5=>?_⟩⟩)⟩;have s25:Same H2 _:=((zn h3 (.lst (ps.map V.ref))).new (o:=.tup (ps.map V.ref)) h4).new (o:=.tup [.ref pk,.ref p4]) h5;have tp:Tups H1 _:=(k2.tups (S0.same s1)).trans (.of s25);exact q _ p5 pk p4 p1 p2 t1 t2 ps dfs (((Kp.of s1).trans k2).trans (.of s25)) (S2.same s25) uX9 (tp _ _ hpk) (tp _ _ hp1) (tp _ _ hp2) (hk1.keep tp) (hk2.keep tp) (old h5 uX9) (hF.keep (.of s25)) hl hok hnm
mutual
theorem Bd.binds_len:∀b:Bd,b.binds.length<=b.sz
 |.give _=>by unfold Bd.binds Bd.sz;decide
 |.lt x d b=>by unfold Bd.binds Bd.sz;have:=Bd.binds_len b;rw[ui];lia
 |.iff x a b=>by unfold Bd.binds Bd.sz;have:=Bd.binds_len a;have:=Bd.binds_len b;rw[ud];lia
 |.case x as=>by unfold Bd.binds Bd.sz;have:=Arms.binds_len as;lia
theorem Arms.binds_len:∀a:Arms,a.binds.length<=a.sz
 |.nil=>by unfold Arms.binds Arms.sz;decide
 |.cons t ns b r=>by unfold Arms.binds Arms.sz;have:=Bd.binds_len b;have:=Arms.binds_len r;rw[ud,ud];lia
end
noncomputable def once (acc:lS):lS->lS
 |[]=>acc
 |x::r=>once (if x∈acc then acc else acc++[x]) r
theorem vZ:∀(a b acc:lS),once acc (a++b)=once (once acc a) b
 |[],b,acc=>rfl
 |x::a,b,acc=>by
  show once (if x∈acc then acc else acc++[x]) (a++b)=once (once (if x∈acc then acc else acc++[x]) a) b;exact vZ a b _
theorem Vi{l acc:lS}(h:l[i]?=sO x):once acc (l.take (i+1))=if x∈once acc (l.take i)then once acc (l.take i)else once acc (l.take i)++[x]:=by
 rw[uA,h,vZ]
 rfl
theorem v5:∀(l acc:lS),(once acc l).length<=acc.length+l.length
 |[],acc=>uk _
 |x::r,acc=>by
  unfold once
  have:=v5 r (if x∈acc then acc else acc++[x])
  rw[ui];split at this
  .split
   .lia
   .contradiction
  .split
   .contradiction
   .rw[ud,uH]at this
    lia
abbrev Wy:=List (lS×Bd)
inductive IsY(H:Hp):Wy->List aO->Prop
 |nil:IsY H [] []
 |cons {ns:lS} {b:Bd} {p q r:aO} {l:Wy} {ps:List aO}:H p=sO (.tup [.ref q,.ref r])->H q=sO (.tup (ns.map V.str))->IsB H b r->IsY H l ps->IsY H ((ns,b)::l) (p::ps)
theorem IsY.keep{l:Wy}{p:List aO}(h:IsY H l p)(t:Tups H H'):IsY H' l p:=by
 induction h with
 |nil=>exact .nil
 |cons a b c _ ih=>exact .cons (t _ _ a) (t _ _ b) (c.keep t) ih
theorem IsY.app{a b:Wy}{p:List aO}(h:IsY H a p)(g:IsY H b q):IsY H (a++b) (p++q):=by
 induction h with
 |nil=>exact g
 |cons x y z _ ih=>exact .cons x y z ih
theorem IsY.len{l:Wy}{p:List aO}(h:IsY H l p):l.length=p.length:=by
 induction h with
 |nil=>rfl
 |cons _ _ _ _ ih=>rw[ui,ui,ih]
noncomputable def Arms.ways:Arms->Wy
 |.nil=>[]
 |.cons _ ns b r=>(ns,b)::r.ways
def Bd.ways:Bd->Wy
 |.give _=>[]
 |.lt x _ b=>[([x],b)]
 |.iff _ a b=>[([],a),([],b)]
 |.case _ as=>as.ways
def pend(l:Wy):lS:=l.flatMap λp=>p.1++p.2.binds
theorem Arms.pend:∀as:Arms,GN.pend as.ways=as.binds
 |.nil=>by unfold Arms.ways Arms.binds;rfl
 |.cons t ns b r=>by
  unfold Arms.ways Arms.binds GN.pend;rw[Uf]
  have:=Arms.pend r
  unfold GN.pend at this;rw[this,Uo]
theorem Bd.pend(b:Bd):GN.pend b.ways=b.binds:=by
 cases b with
 |give x=>unfold Bd.ways Bd.binds;rfl
 |lt x d b=>unfold Bd.ways Bd.binds GN.pend;simp
 |iff x a b=>unfold Bd.ways Bd.binds GN.pend;simp
 |case x as=>unfold Bd.ways Bd.binds;exact Arms.pend as
def wsz(l:Wy):Nat:=(l.map λp=>p.2.sz).sum
theorem Arms.wsz:∀as:Arms,GN.wsz as.ways<=as.sz
 |.nil=>by unfold Arms.ways Arms.sz GN.wsz;decide
 |.cons t ns b r=>by
  unfold Arms.ways Arms.sz GN.wsz
  have:=Arms.wsz r
  unfold GN.wsz at this;rw[uB,Uw];show b.sz+_<=_;lia
theorem Bd.wsz(b:Bd):GN.wsz b.ways < b.sz:=by
 cases b with
 |give x=>rw[Bd.sz];show(0:Nat) < 1;decide
 |lt x d b=>rw[Bd.sz];show b.sz+0 < b.sz+1;lia
 |iff x a b=>rw[Bd.sz];show a.sz+(b.sz+0) < a.sz+b.sz+1;lia
 |case x as=>rw[Bd.sz];have:=Arms.wsz as;show GN.wsz as.ways < as.sz+1;lia
theorem vB(a b:Wy):wsz (a++b)=wsz a+wsz b:=by unfold wsz;rw[ur,List.sum_append]
theorem Ys(a b:Wy):pend (a++b)=pend a++pend b:=by unfold pend;rw[Uy]
theorem IsA.get{H:Hp}:∀{as:Arms}{ps:List aO}{i:Nat}{p:aO},IsA H as ps->ps[i]?=sO p->∃t q r ns b,as.ways[i]?=sO (ns,b)/\H p=sO (.tup [.str t,.ref q,.ref r])/\H q=sO (.tup (ns.map V.str))/\IsB H b r
 |_,_,_,_,.nil,e=>by simp at e
 |_,_,0,_,.cons a b c _,e=>by
  simp at e
  subst e;exact⟨_,_,_,_,_,by unfold Arms.ways;rfl,a,b,c⟩
 |_,_,i+1,_,.cons _ _ _ d,e=>by
  obtain⟨t,q,r,ns,b,h1,h2⟩:=IsA.get (i:=i) d (by simpa using e);exact⟨t,q,r,ns,b,by unfold Arms.ways;simpa using h1,h2⟩
theorem IsA.len{H:Hp}:∀{as:Arms}{ps:List aO},IsA H as ps->as.ways.length=ps.length
 |_,_,.nil=>by unfold Arms.ways;rfl
 |_,_,.cons _ _ _ d=>by unfold Arms.ways;rw[ui,ui,IsA.len d]
theorem Wj:∀a:Arms,a.ways.length<=a.sz
 |.nil=>by unfold Arms.ways Arms.sz;decide
 |.cons t ns b r=>by
  unfold Arms.ways Arms.sz
  have:=Wj r
  rw[ui];lia
inductive spWays(vs:List V)(H:Hp)(Q:VK)(e_3:XK):Prop
 |mk (p:aO):∀b:Bd,(vs=[.ref p])->(IsB H b p)->(b.sz<=1000000)->(∀(H':Hp)(r:aO)(ps:List aO),Same H H'->H r=nO->H' r=sO (.lst (ps.map V.ref))->IsY H' b.ways ps->Q (.ref r) H')->spWays vs H Q e_3
theorem zdk:FnScope ["body"] ["body"] (zq Ju):=.ok
theorem zdl:(["body","arm"]:lS).Nodup:=be
theorem zaT(F:Fun K "ways_on" "ways_on" Ju f fd):FnOk P w K mg base CX0 1 f fd ["body"] spWays:=by
 refine F.by zdk ?_ ?_
 .rintro _ _ _ _ ⟨_,_,rfl,_⟩;rfl
 rintro _ _ _ _ H vs _ _ hr ⟨p,b,rfl,hb,hz,q⟩;refine⟨_,
  (zh (zF (tN zJ (zj K !0) zu)
   (zi (zt (zI zQ))) zw)
  (zh (zF (tN zJ (zj K !0) zu)
   (zi (zt (zI (jA2 (zy (jA2 (zy zQ) (zj K !0))) (zy (jA2 (zy zQ) (zj K !0))))))) zw)
  (zh (zF (tN zJ (zj K !0) zu)
   (zi (zt (yn ["arm"] rfl (yo K (zj K !0)) (λ_ _ _ _ _=>(gN 1 zdl)) (λ_ _ _ _ _=>zZ) (λ_ _ _ _ _=>(zy (jA2 (zj K !1) (xX (xK K) (!1) (xw zp)))))))) zw)
  (zh (zF (Zh K (zj K !0) (zy (jA2 zu zu)))
   (zi (zt (zI (jA1 (zy (jA2 (zy (jA1 (zj K !0))) (xX (xK K) (!0) (xw zp)))))))) zw)
  (zi (zt (zI (jA1 (zy (jA2 (zy zQ) (xX (xK K) (!0) (xw zp)))))))))))),?_⟩
 have sl:=zN;cases hb with
 |@give x _ hp =>
  refine¬⟨p,_,_,_,rfl,rfl,SqT.of hp,aI0,rfl,¬?_⟩;refine ite2 (λ_=>?_) aB;refine⟨sN0,λr hr=>q _ r [] (zn hr _) hr uX9 ?_⟩;unfold Bd.ways;exact .nil
 |@iff x a b _ p1 p2 hp ha hb =>
  refine¬⟨p,_,_,_,rfl,rfl,SqT.of hp,aI0,rfl,¬?_⟩;refine ite2 aB (λ_=>?_);refine¬⟨p,_,_,_,rfl,rfl,SqT.of hp,aI0,rfl,¬?_⟩;refine ite2 (λ_=>?_) aB;refine⟨sN0,λt1 h1=>¬⟨p,_,_,_,rfl,rfl,SqT.of (old h1 hp),aI2,sN2,λt2 h2=>⟨sN0,λt3 h3=>¬⟨p,_,_,_,rfl,rfl,SqT.of (old h3 (old h2 (old h1 hp))),aI3,sN2,λt4 h4=>⟨sN2,λt5 h5=>?_⟩⟩⟩⟩⟩;have s4:Same H _:=(((zn h1 (.tup [])).new (o:=.tup [.ref t1,.ref p1]) h2).new (o:=.tup []) h3).new (o:=.tup [.ref t3,.ref p2]) h4;have s5:=s4.new (o:=.lst [.ref t2,.ref t4]) h5;refine q _ t5 [t2,t4] s5 (s4.free h5) uX9 ?_;unfold Bd.ways;exact .cons (old h5 (old h4 (old h3 uX9))) (old h5 (old h4 (old h3 (old h2 uX9)))) (ha.keep (.of s5)) (.cons (old h5 uX9) (old h5 (old h4 uX9)) (hb.keep (.of s5)) .nil)
 |@case x as ps _ p1 hp hp1 hl0 hA =>
  refine¬⟨p,_,_,_,rfl,rfl,SqT.of hp,aI0,rfl,¬?_⟩;refine ite2 aB (λ_=>?_);refine¬⟨p,_,_,_,rfl,rfl,SqT.of hp,aI0,rfl,¬?_⟩;refine ite2 aB (λ_=>?_);refine¬⟨p,_,_,_,rfl,rfl,SqT.of hp,aI0,rfl,¬?_⟩;refine ite2 (λ_=>?_) aB;have hl:=hA.len;have hsz:as.ways.length<=1000000:=by
   have e:∀a:Arms,a.ways.length<=a.sz:=by
    intro a;exact Wj a
   have:=e as
   rw[Bd.sz]at hz;lia
  refine¬⟨p,_,_,_,rfl,rfl,SqT.of hp,aI2,p1,rfl,⟨_,SqT.of hp1⟩,xJ (xs:=ps.map V.ref) (λj τ ys H'=>Same H H'/\(∃v,τ=[sR p,v])/\∃rs:List aO,ys=rs.map V.ref/\IsY H' (as.ways.take j) rs) ⟨Same.refl _,⟨nO,rfl⟩,[],rfl,.nil⟩ (λj τ ys H' _ h=>SqT.of (h.1 _ _ hp1)) ?_ ?_⟩
  .rintro j v τ ys H1 hv ⟨s1,⟨v',rfl⟩,rs,rfl,hy⟩
   obtain⟨pa,hpa,rfl⟩:=L2.gM hv;obtain⟨t,q1,r1,ns,b,e1,e2,e3,e4⟩:=hA.get hpa;have hj:j < as.ways.length:=(uf.mp e1).1;have hyl:=hy.len;rw[uv]at hyl;refine¬⟨pa,_,_,_,rfl,rfl,SqT.of (s1 _ _ e2),aI1,(zv rfl rfl ⟨pa,_,_,_,rfl,rfl,SqT.of (s1 _ _ e2),rfl,sN2,λt1 h1=>⟨bc,s1.new h1,⟨_,rfl⟩,rs++[t1],ba,?_⟩⟩)⟩;rw[uA,e1];exact(hy.keep (.of (zn h1 _))).app (.cons uX9 (old h1 (s1 _ _ e3)) (e4.keep (.of (s1.new h1))) .nil)
  .rintro τ ys H1 ⟨s1,_,rs,rfl,hy⟩ r hr
   rw[ub,<- hl,um (uk _)]at hy;refine q _ r rs (s1.new hr) (s1.free hr) uX9 ?_;unfold Bd.ways;exact hy.keep (.of (zn hr _))
 |@lt x d b _ p1 p2 hp hd hb =>
  refine¬⟨p,_,_,_,rfl,rfl,SqT.of hp,aI0,rfl,¬?_⟩;refine ite2 aB (λ_=>?_);refine¬⟨p,_,_,_,rfl,rfl,SqT.of hp,aI0,rfl,¬?_⟩;refine ite2 aB (λ_=>?_);refine¬⟨p,_,_,_,rfl,rfl,SqT.of hp,aI0,rfl,¬?_⟩;refine ite2 aB (λ_=>?_);refine¬⟨p,_,_,_,rfl,rfl,SqT.of hp,aI0,sN2,λt0 h0=>?_⟩;refine⟨t0,¬⟨.inr (SqT.of uX9),rfl,rfl,¬?_⟩⟩;refine ite2 (λ_=>?_) (λc=>absurd (show(if fO=tU then !inV (V.str "let") [V.str "let",V.str "hold"]else inV (V.str "let") [V.str "let",V.str "hold"])=tU by decide) c);have hp0:=old (o:=.tup [.str "let",.str "hold"]) h0 hp;refine¬⟨p,_,_,_,rfl,rfl,SqT.of hp0,aI1,sN1,λt1 h1=>(zv rfl rfl ⟨p,_,_,_,rfl,rfl,SqT.of (old h1 hp0),rfl,sN2,λt2 h2=>⟨sN1,λt3 h3=>?_⟩⟩)⟩;have s2:Same H _:=((zn h0 (.tup [.str "let",.str "hold"])).new (o:=.tup [.str x]) h1).new (o:=.tup [.ref t1,.ref p2]) h2;have s3:=s2.new (o:=.lst [.ref t2]) h3;refine q _ t3 [t2] s3 (s2.free h3) uX9 ?_;unfold Bd.ways;exact .cons (old h3 uX9) (old h3 (old h2 uX9)) (hb.keep (.of s3)) .nil
end
def dif(m n:Nat):Nat:=m-(m &&& n)
theorem Zy(m n:Nat):Builtin.bitOr (m:Int) (n:Int)=((m ||| n:Nat):Int):=by
 unfold Builtin.bitOr;have h1:Not (0<=Builtin.bitNot (m:Int)):=by unfold Builtin.bitNot;lia
 have h2:Not (0<=Builtin.bitNot (n:Int)):=by unfold Builtin.bitNot;lia
 have e:∀x:Int,Builtin.bitNot (Builtin.bitNot x)=x:=λx=>by unfold Builtin.bitNot;lia
 rw[PyProof.Rows.bitAnd_nn h1 h2,e,e,e]
 rfl
theorem JR(m n:Nat):Builtin.bitAnd (m:Int) (Builtin.bitNot (n:Int))=((dif m n:Nat):Int):=by
 rw[PyProof.Rows.bitAnd_not,PyProof.Rows.bitAnd_pp (tR m) (tR n)];have hle:(m &&& n)<=m:=Nat.and_le_left;unfold dif;rw[UQ,UQ];lia
noncomputable def bitN:lS->Str->Nat
 |[],_=>0
 |y::r,x=>if y=x then 1 else 2*bitN r x
theorem Yt{x:Str}:∀{ns:lS},x∉ns->bitN ns x=0
 |[],_=>rfl
 |y::r,h=>by
  unfold bitN;rw[iN (λe:y=x=>h (e ▸ Ui)),Yt (λz=>h (.tail _ z))]
def tog(ns xs:lS):Nat:=xs.foldl (λf x=>f ||| bitN ns x) 0
def yF:lS->Nat->List (Key×V)
 |[],_=>[]
 |x::r,b=>(.inr x,.int (b:Nat))::yF r (b+b)
theorem we{x:Str}:∀{ns:lS}{b:Nat},valV (yF ns b) (.inr x)=if x∈ns then sO (.int ((b*bitN ns x:Nat):Int))else nO
 |[],b=>rfl
 |y::r,b=>by
  unfold yF bitN;by_cases e:y=x
  .rw[yp (by rw[e]),iP (by rw[e];exact .head _),iP e,Nat.mul_one]
  .rw[yr (λz=>e (Sum.inr.inj z)),we,iN e]
   have e':Not (x=y):=λz=>e z.symm;by_cases c:x∈r
   .rw[iP c,iP (.tail _ c)]
    congr 3
    rw[UJ,Nat.mul_left_comm,Nat.two_mul]
   .rw[iN c,iN (by simp[e',c])]
theorem jH:∀(a:lS)(x:Str)(b:Nat),yF (a++[x]) b=yF a b++[(.inr x,.int ((b*2 ^ a.length:Nat):Int))]
 |[],x,b=>by show[_]=[_];rw[List.length_nil,Nat.pow_zero,Nat.mul_one]
 |y::a,x,b=>by
  show _::yF (a++[x]) (b+b)=_::(yF a (b+b)++_);rw[jH a x (b+b),ui,Nat.pow_succ,show(b+b)*2 ^ a.length=b*(2 ^ a.length*2) by rw[<- Nat.two_mul,Nat.mul_comm 2 b,Nat.mul_assoc,Nat.mul_comm 2]]
theorem jJ:∀(a:lS)(b:Nat),(yF a b).length=a.length
 |[],_=>rfl
 |_::a,b=>by show(yF a (b+b)).length+1=_;rw[jJ a];rfl
def Bd.used:Bd->lS
 |.give x=>[x]
 |.lt _ d _=>d.uses
 |.iff x _ _=>[x]
 |.case x _=>[x]
mutual
def Bd.mk(ns:lS):Bd->Nat
 |.give x=>0 ||| tog ns [x]
 |.lt x d b=>(0 ||| dif (b.mk ns) (tog ns [x])) ||| tog ns d.uses
 |.iff x a b=>((0 ||| dif (a.mk ns) (tog ns [])) ||| dif (b.mk ns) (tog ns [])) ||| tog ns [x]
 |.case x as=>Arms.mk ns as 0 ||| tog ns [x]
def Arms.mk(ns:lS):Arms->Nat->Nat
 |.nil,f=>f
 |.cons _ xs b r,f=>Arms.mk ns r (f ||| dif (b.mk ns) (tog ns xs))
end
def accW(ns:lS)(l:Wy)(f:Nat):Nat:=l.foldl (λf w=>f ||| dif (w.2.mk ns) (tog ns w.1)) f
theorem Arms.mk_ways(ns:lS):∀(as:Arms)(f:Nat),Arms.mk ns as f=accW ns as.ways f
 |.nil,f=>by unfold Arms.mk Arms.ways accW;rfl
 |.cons t xs b r,f=>by
  unfold Arms.mk Arms.ways accW;rw[UN];exact Arms.mk_ways ns r _
theorem Bd.mk_ways(ns:lS)(b:Bd):b.mk ns=accW ns b.ways 0 ||| tog ns b.used:=by
 cases b with
 |give x=>unfold Bd.mk Bd.ways Bd.used accW;rfl
 |lt x d b=>rw[Bd.mk];rfl
 |iff x a b=>rw[Bd.mk];rfl
 |case x as=>rw[Bd.mk,Arms.mk_ways];rfl
mutual
def Bd.fr(x:Str):Bd->Prop
 |.give y=>x=y
 |.lt y d b=>(b.fr x/\x≠y)\/x∈d.uses
 |.iff y a b=>(a.fr x\/b.fr x)\/x=y
 |.case y as=>as.fr x\/x=y
def Arms.fr(x:Str):Arms->Prop
 |.nil=>False
 |.cons _ xs b r=>(b.fr x/\x∉xs)\/r.fr x
end
theorem Bd.sz_pos'(b:Bd):1<=b.sz:=by
 cases b<;>rw[Bd.sz]<;>lia
theorem Yu:∀l:Wy,l.length<=wsz l
 |[]=>uS _
 |p::l=>by
  have h1:=Bd.sz_pos' p.2;have h2:=Yu l;unfold wsz at h2 ⊢;rw[uB,Uw,ui];lia
end GN
variable{d:GN.De}{dfs:List GN.Df}
namespace GN
open PySem L2
inductive All2{α β:Type}(F:α->β->Prop):List α->List β->Prop
 |nil:All2 F [] []
 |cons {a b l m}:F a b->All2 F l m->All2 F (a::l) (b::m)
section
variable{α β:Type}{F G:α->β->Prop}{l:List α}{m:List β}
theorem All2.imp(h:All2 F l m)(f:∀a b,F a b->G a b):All2 G l m:=by
 induction h with
 |nil=>exact .nil
 |cons a _ ih=>exact .cons (f _ _ a) ih
theorem All2.len(h:All2 F l m):l.length=m.length:=by
 induction h with
 |nil=>rfl
 |cons _ _ ih=>rw[ui,ui,ih]
theorem All2.app{l':List α}{m':List β}(h:All2 F l m)(g:All2 F l' m'):All2 F (l++l') (m++m'):=by
 induction h with
 |nil=>exact g
 |cons a _ ih=>exact .cons a ih
theorem All2.get(h:All2 F l m):∀{i:Nat}{b:β},m[i]?=sO b->∃a,l[i]?=sO a/\F a b:=by
 induction h with
 |nil=>intro i b e;simp at e
 |cons a _ ih =>
  intro i b e;cases i with
  |zero=>simp at e;subst e;exact¬(a)
  |succ i=>simp at e;obtain⟨x,h1,h2⟩:=ih e;exact⟨x,bf,h2⟩
theorem All2.getl(h:All2 F l m):∀{i:Nat}{a:α},l[i]?=sO a->∃b,m[i]?=sO b/\F a b:=by
 induction h with
 |nil=>intro i b e;simp at e
 |cons a _ ih =>
  intro i b e;cases i with
  |zero=>simp at e;subst e;exact¬(a)
  |succ i=>simp at e;obtain⟨x,h1,h2⟩:=ih e;exact⟨x,bf,h2⟩
end
theorem iteN{b:Bool}{A B:Prop}(e:b=fO)(h:B):if b=tU then A else B:=by rw[iN (by rw[e];decide)];exact h
def KM(M:aO->Prop)(H H':Hp):Prop:=∀b u,Not (M b)->H b=sO u->H' b=sO u
def Kz(M R:aO->Prop)(H H':Hp):Prop:=∀b u,H b=sO u->Not (M b)->(∀xs,u=.lst xs->R b)->H' b=sO u
def KO(M:aO->Prop)(H H':Hp):Prop:=∀b u,H b=sO u->(∀xs,u=.lst xs->M b)->H' b=sO u
theorem KM.refl{M:aO->Prop}:KM M H H:=λ_ _ _ h=>h
theorem KM.trans{M:aO->Prop}(a:KM M H H1)(b:KM M H1 H2):KM M H H2:=λc u n h=>b c u n (a c u n h)
theorem KM.of{M:aO->Prop}(a:Same H H1):KM M H H1:=λc u _ h=>a c u h
theorem KM.free{M:aO->Prop}(a:KM M H H1)(n:Not (M b))(h:H1 b=nO):H b=nO:=by
 cases e:H b with
 |none=>rfl
 |some u=>rw[a b u n e]at h;cases h
theorem KM.put{M:aO->Prop}{o:HO}(a:KM M H H1)(h:H p=nO):KM M H (upd H1 p o):=λb u n e=>by rw[zo (zk e h)];exact a b u n e
def CanC(P:Program)(w:World)(K:uc)(mg:Str->Option aA)(base:Heap)(k:Nat)(H:Hp)(f:aO)(vs:List V)(Q:VK)(E:XK):Prop :=
 ∃fd ps sp,FnOk P w K mg base CX0 k f fd ps sp/\Binds K fd ps []/\sp vs H Q E/\(H f=sO (FunO f fd)\/uY K (.ref f)=tU)
def Chn{T S:Type}(pre post:T->S):S->List T->S->Prop
 |s,[],s'=>s=s'
 |s,t::ts,s'=>pre t=s/\Chn pre post (post t) ts s'
set_option genInjectivity false in
structure WoD(P:Program)(w:World)(K:uc)(mg:Str->Option aA)(base:Heap)(k:Nat) where
 Tk:Type
 M:aO->Prop
 fb:aO
 wt:Tk->Nat
 kids:Tk->List Tk
 wk:∀t,((kids t).map wt).sum+2<=wt t
 IT:Hp->(aO->Prop)->Tk->V->Prop
 IR:Hp->(aO->Prop)->Tk->V->Prop
 IF:Hp->(aO->Prop)->Tk->V->Prop
 S:Type
 pre:Tk->S
 mid:Tk->S
 post:Tk->S
 chn:∀t,Chn pre post (mid t) (kids t) (post t)
 Ok:S->Hp->Prop
 itk:∀{H H' R R' t v s},IT H R t v->Ok s H->Kz M R H H'->(∀b,R b->R' b)->IT H' R' t v
 irk:∀{H H' R R' t v s},IR H R t v->Ok s H->Kz M R H H'->(∀b,R b->R' b)->IR H' R' t v
 ifk:∀{H H' R R' t v s},IF H R t v->Ok s H->Kz M R H H'->(∀b,R b->R' b)->IF H' R' t v
 okk:∀{H H' s},Ok s H->KO M H H'->Ok s H'
 okM:∀{H b s},Ok s H->M b->H b≠nO
 beg:∀{H R t v Q},IT H R t v->Ok (pre t) H->(∀b,R b->H b≠nO)->(∀b,R b->Not (M b)) ->
  (∀H' q l fl vs R',KM M H H'->Ok (mid t) H'->H' q=sO (.tup [.ref l,.ref fl])->H l=nO->H' l=sO (.lst vs)->(∀b,R b->R' b)->(∀b,R' b->R b\/H b=nO)->(∀b,R' b->H' b≠nO)->R' l->All2 (IT H' R') (kids t) vs->IF H' R' t (.ref fl)->Q (.ref q) H') ->
  CanC P w K mg base k H fb [v] Q E0
 fin:∀{H R t fl rl rs Q},IF H R t (.ref fl)->Ok (post t) H->(∀b,R b->H b≠nO)->(∀b,R b->Not (M b))->R rl->H rl=sO (.lst rs)->All2 (IR H R) (kids t) rs ->
  (∀H' v R',KM M H H'->Ok (post t) H'->(∀b,R b->R' b)->(∀b,R' b->R b\/H b=nO)->(∀b,R' b->H' b≠nO)->IR H' R' t v->Q v H') ->
  CanC P w K mg base k H fl [.ref rl] Q E0
structure Bn(K:uc)(cB:aO):Prop where
 cl:Cls K cB
 b1:NoAttr K cB "within"
 b2:NoAttr K cB "finish"
 b3:NoAttr K cB "results"
def BO(cB dx wa fl ra:aO):HO:=.ins cB dx [("within",.ref wa),("finish",.ref fl),("results",.ref ra)]
inductive spBInit(cB:aO)(vs:List V)(H:Hp)(Q:VK)(e_3:XK):Prop
 |mk (x dx wa:aO):∀fl:aO,(vs=[.ref x,.ref wa,.ref fl])->(H x=sO (.ins cB dx []))->(∀H' ra,(∀b u,b≠x->H b=sO u->H' b=sO u)->H ra=nO->H' ra=sO (.lst [])->H' x=sO (BO cB dx wa fl ra)->Q .non H')->spBInit cB vs H Q e_3
inductive spOnly(vs:List V)(H:Hp)(Q:VK)(e_3:XK):Prop
 |mk (p:aO) (v:V):∀xs:List V,(vs=[.ref p])->(H p=sO (.lst (v::xs)))->(Q v H)->spOnly vs H Q e_3
section
variable{K:uc}
theorem zaU:FnScope lS22 lS22 (zq Xl):=.ok
theorem JS(F:Fun K "__init__" "Begun.__init__" Xl f fd)(N:Bn K cB):FnOk P w K mg base CX0 1 f fd lS22 (spBInit cB):=by
 refine F.by zaU ?_ ?_
 .rintro _ _ _ _ ⟨_,_,_,_,rfl,_⟩;rfl
 rintro _ _ _ _ H vs _ _ _ ⟨x,dx,wa,fl,rfl,hx,q⟩;refine⟨_,(zh (xx (!0) !1) (zh (xx (!0) !2) (zi (xx (!0) (zI zQ))))),?_⟩;refine(zv rfl rfl ⟨x,cB,dx,¬⟨hx,N.cl,N.b1,by show 0 < 1000;decide,?_⟩⟩);refine(zv rfl rfl ⟨x,cB,dx,¬⟨uX9,N.cl,N.b2,by show 1 < 1000;decide,?_⟩⟩);refine⟨sN0,λra hra=>?_⟩;have nx:ra≠x:=λz=>by
  rw[z,uX9]at hra;cases hra
 have hra':H ra=nO:=by
  rw[zo nx,zo nx]at hra;exact hra
 refine¬⟨x,cB,dx,¬⟨by rw[zo nx.symm];exact uX9,N.cl,N.b3,by show 2 < 1000;decide,?_⟩⟩;refine q _ ra (λb u n e=>?_) hra' (by rw[zo nx];exact uX9) uX9;rw[zo n,zo (zk e hra'),zo n,zo n];exact e
theorem zdm:FnScope ["results"] ["results"] (zq Jv):=.ok
theorem zaV(F:Fun K "only_one" "only_one" Jv f fd):FnOk P w K mg base CX0 1 f fd ["results"] spOnly:=by
 refine F.by zdm ?_ ?_
 .rintro _ _ _ _ ⟨_,_,_,rfl,_⟩;rfl
 rintro _ _ _ _ _ vs _ _ _ ⟨p,v,xs,rfl,hp,q⟩;exact⟨_,(zi (zt (zM K !0))),¬(ixL hp aI0 (q))⟩
end
structure En(Tk:Type) where
 bo:aO
 dx:aO
 wa:aO
 ra:aO
 fl:aO
 tk:Option Tk
 ts:List Tk
 rs:List V
section
variable{K:uc}{k:Nat}(D:WoD P w K mg base k)(cB fo:aO)(root:D.Tk)
structure EnOk(H:Hp)(R:aO->Prop)(e:En D.Tk):Prop where
 o:H e.bo=sO (BO cB e.dx e.wa e.fl e.ra)
 nb:Not (D.M e.bo)
 w:∃ws,H e.wa=sO (.lst ws)/\All2 (D.IT H R) e.ts ws
 Rw:R e.wa
 r:H e.ra=sO (.lst e.rs)
 nr:Not (R e.ra)
 nM:Not (D.M e.ra)
 le:e.rs.length<=e.ts.length
 rr:All2 (D.IR H R) (e.ts.take e.rs.length) e.rs
 fin:match e.tk with
  |none=>e.fl=fo/\e.ts=[root]
  |some t=>D.IF H R t (.ref e.fl)/\e.ts=D.kids t
inductive Lnk:List (En D.Tk)->Prop
 |bot {e:En D.Tk}:e.tk=nO->Lnk [e]
 |up {e e':En D.Tk} {es:List (En D.Tk)} {t:D.Tk}:Lnk (e'::es)->e.tk=sO t->e'.ts[e'.rs.length]?=sO t->Lnk (e::e'::es)
noncomputable def mlow:List (En D.Tk)->Nat
 |[]=>0
 |e::es=>1+((e.ts.drop (e.rs.length+1)).map D.wt).sum+mlow es
def mall:List (En D.Tk)->Nat
 |[]=>0
 |e::es=>1+((e.ts.drop e.rs.length).map D.wt).sum+mlow D es
theorem Yv:∀es:List (En D.Tk),es.length<=mlow D es
 |[]=>uk _
 |e::es=>by
  unfold mlow
  have:=Yv es
  rw[ui];lia
theorem JT(es:List (En D.Tk)):es.length<=mall D es:=by
 cases es with
 |nil=>exact uk _
 |cons e es =>
  unfold mall
  have:=Yv D es
  rw[ui];lia
theorem JU:∀ts:List D.Tk,ts.length<=(ts.map D.wt).sum
 |[]=>uk _
 |t::ts=>by
  have:=JU ts
  have:=D.wk t
  rw[ui,uB,Uw];lia
noncomputable def eEnd (e:En D.Tk):D.S:=match e.tk with
 |none=>D.post root
 |some t=>D.post t
def StkL:D.S->List (En D.Tk)->Prop
 |_,[]=>True
 |s,e::es=>Chn D.pre D.post s (e.ts.drop (e.rs.length+1)) (eEnd D root e)/\StkL (eEnd D root e) es
def Stk:D.S->List (En D.Tk)->Prop
 |_,[]=>True
 |s,e::es=>Chn D.pre D.post s (e.ts.drop e.rs.length) (eEnd D root e)/\StkL D root (eEnd D root e) es
variable{D cB fo root}
theorem EnOk.keep{e:En D.Tk}{s:D.S}(h:EnOk D cB fo root H R e)(ok:D.Ok s H)(z:Kz D.M R H H')(rM:∀b,R b->Not (D.M b))(sub:∀b,R b->R' b)(hr:H' e.ra=sO (.lst e.rs))(nr:Not (R' e.ra)):EnOk D cB fo root H' R' e:=by
 obtain⟨o,nb,⟨ws,w1,w2⟩,Rw,r,nr',nM,le,rr,fin⟩:=h;refine⟨z _ _ o nb (by intro xs q;unfold BO at q;cases q),nb,⟨ws,z _ _ w1 (rM _ Rw) (λ_ _=>Rw),w2.imp λa b q=>D.itk q ok z sub⟩,sub _ Rw,hr,nr,nM,le,rr.imp λa b q=>D.irk q ok z sub,?_⟩;cases q:e.tk with
 |none=>rw[q]at fin;exact fin
 |some t=>rw[q]at fin;exact⟨D.ifk fin.1 ok z sub,fin.2⟩
end
inductive spWorked(P:Program)(w:World)(K:uc)(mg:Str->Option aA)(base:Heap)(k:Nat)(vs:List V)(H:Hp)(Q:VK)(e_3:XK):Prop
 |mk (D:WoD P w K mg base k) (v:V) (root:D.Tk):∀R:aO->Prop,(vs=[v,.ref D.fb])->(D.IT H R root v)->(D.Ok (D.pre root) H)->((∀b,R b->H b≠nO))->((∀b,R b->Not (D.M b)))->(D.wt root<=10000000)->(((∃fd,H D.fb=sO (FunO D.fb fd))/\Not (D.M D.fb)\/uY K (.ref D.fb)=tU))->(∀H' v' R',KM D.M H H'->D.Ok (D.post root) H'->(∀b,R' b->Not (D.M b))->D.IR H' R' root v'->Q v' H')->spWorked P w K mg base k vs H Q e_3
inductive WkV{P:Program}{w:World}{K:uc}{mg:Str->Option aA}{base:Heap}{k:Nat}(D:WoD P w K mg base k)(cB fo wl:aO)(v:V)(root:D.Tk)(H:Hp)(m:Nat)(σ:St)(H':Hp):Prop
 |mk (es:List (En D.Tk)) (cur:D.S) (R:aO->Prop) (y3 y4 y5 y6:Option V) (_:m=mall D es) (_:σ=[sO v,sO (.ref D.fb),sR wl,y3,y4,y5,y6]) (_:KM D.M H H') (_:D.Ok cur H') (_:H' wl=sO (.lst (es.reverse.map λe=>V.ref e.bo))) (_:Not (R wl)) (_:(∀e∈es,EnOk D cB fo root H' R e)) (_:(∀e∈es,H e.ra=nO)) (_:Lnk D es) (_:(∀b,R b->H' b≠nO)) (_:(∀b,R b->Not (D.M b))) (_:(wl::es.map (·.ra)).Nodup) (_:mall D es<=D.wt root+1) (_:(∀e∈es,e.ts.length<=10000000)) (_:Stk D root cur es):WkV D cB fo wl v root H m σ H'
section
variable{K:uc}{fo:aO}{fdo:FuncData}{k:Nat}
theorem scWorked:FnScope ["task","begin","waiting","last","pair","finish","result"] ["task","begin"] (zq Zk):=.ok
theorem wT{t:TA}{Q:VK}{vs:List V}(hi:σ[i]?=sO (sO (.ref f)))(ha:∀R:List V->Hp->Prop,R vs H->t σ H R)(h:CanC P w K mg base k H f vs Q E0):Jm P w K mg base k E0 i t σ H Q:=by
 obtain⟨fd,ps,sp,F,b,q,c⟩:=h;rcases c with c|c
 .exact⟨f,hi,.inl ⟨⟨fd,c⟩,ha _ ⟨fd,ps,sp,F,b,c,q⟩⟩⟩
 .exact⟨f,hi,.inr ⟨c,ha _ ⟨fd,ps,sp,F,b,q⟩⟩⟩
theorem jK(F:Fun K "worked_out" "worked_out" Zk f fd)(N:Bn K cB)(GB:Ma P w K mg base CX0 1 "Begun" cB lS22 (spBInit cB))(GO:FnOk P w K mg base CX0 1 fo fdo ["results"] spOnly)(bO:Binds K fdo ["results"] [])(kO:uY K (.ref fo)=tU)(mO:mg "only_one"=sO (.ref fo))(m_len:mg "len"=nO)(hk:2<=k):FnOk P w K mg base CX0 (k+1) f fd ["task","begin"] (spWorked P w K mg base k):=by
 refine F.by scWorked ?_ ?_
 .rintro _ _ _ _ ⟨_,_,_,_,rfl,_⟩;rfl
 rintro _ _ _ _ H vs Q _ hr ⟨D,v,root,R0,rfl,hIT,hOk,hR0,hRM0,hwt,hfb,q⟩;have hr2:Room (1+1) _:=hr.mono b8;refine⟨_,
  (zh (sE 2 scWorked.nd (zI (jA1 (vi GB hr2 rfl yN (jA2 (zI (jA1 !0)) (zam (v:=.ref fo) rfl mO rfl))))))
  (zi (Z6 PassesOwn.never (zS yC)
   (zh (sE 3 scWorked.nd (xX (zT K) (!2) (xw zp)))
   (zi (zF (tN jB (zG (zB K) rfl m_len uP (jA1 (zO K !3))) (zG (zB K) rfl m_len uP (jA1 (zO K !3))))
    (zh (sE 4 scWorked.nd (vO hr (!1) yN (jA1 (xX (zT K) (zO K !3) (zG (zB K) rfl m_len uP (jA1 (zO K !3)))))))
    (zi (yg (yO uE uN uO zY (!2) (jA1 (vi GB hr2 rfl yN (jA2 (zj K !4) (zj K !4))))))))
    (zh (sE 5 scWorked.nd (zO K !3))
    (zh (sE 6 scWorked.nd (vO hr (!5) yN (jA1 (zO K !3))))
    (zh (yg (Xc uE PySem.F.slot_list_pop PySem.F.type_list_pop V4 !2))
    (zh (zF (tN zJ (zG (zB K) rfl m_len uP (jA1 !2)) zp)
     (zi (zt !6)) zw)
    (zi (yg (yO uE uN uO zY (zO K (xX (zT K) (!2) (xw zp))) (jA1 !6)))))))))))))),?_⟩
 have sl:=zN;refine¬⟨sN1,λl0 hl0=>?_⟩;have s0:Same H (upd H l0 (.lst [v])):=λb u e=>by rw[zo (zk e hl0)];exact e
 have hl0':=uX9 (H:=H) (a:=l0) (o:=.lst [v]);generalize upd H l0 (.lst [v])=H1 at *;intro x dx hx hdx nxd;refine⟨x,dx,l0,fo,rfl,uX9,λH2 ra kp hra hra2 hx2=>⟨rfl,sN1,λwl hwl=>?_⟩⟩;have hM:∀b,H b=nO->Not (D.M b):=λb e m=>D.okM hOk m e;have s12:Same H1 H2:=λb u e=>kp b u (zk e hx) (by rw[zo (zk e hx),zo (zk e hdx)];exact e);have s2:Same H H2:=s0.trans s12;have s3:Same H (upd H2 wl (.lst [.ref x])):=s2.new hwl;have nra:ra≠x:=λz=>by
  rw[z,uX9]at hra;cases hra
 have nrd:ra≠dx:=λz=>by
  rw[z,zo nxd,uX9]at hra;cases hra
 have hra1:H1 ra=nO:=by
  rw[zo nra,zo nrd]at hra;exact hra
 have hra0:H ra=nO:=s0.free hra1;have hx0:H x=nO:=s0.free hx;have nl0:l0≠ra:=zk hl0' hra1;have nwr:ra≠wl:=zk hra2 hwl;have nwx:x≠wl:=zk hx2 hwl;have nwl:l0≠wl:=zk (s12 _ _ hl0') hwl;have hwl0:H wl=nO:=s2.free hwl;refine⟨WkV D cB fo wl v root H,
  ⟨_,[⟨x,dx,l0,ra,fo,nO,[root],[]⟩],D.pre root,(λb=>R0 b\/b=l0),nO,nO,nO,nO,rfl,rfl,.of s3,D.okk hOk (λb u e _=>s3 b u e),uX9,?_,?_,?_,.bot rfl,?_,?_,?_,?_,?_,⟨⟨rfl,rfl⟩,trivial⟩⟩,?_⟩
 .rintro(z|z)
  .exact hR0 _ z hwl0
  .exact nwl z.symm
 .intro e he
  rw[ut.mp he];refine⟨by rw[zo nwx];exact hx2,hM _ hx0,⟨[v],by rw[zo nwl];exact s12 _ _ hl0',.cons (D.itk hIT hOk (λb u e _ _=>s3 b u e) λb z=>.inl z) .nil⟩,.inr rfl,by rw[zo nwr];exact hra2,?_,hM _ hra0,uS _,.nil,rfl,rfl⟩;rintro(z|z)
  .exact hR0 _ z hra0
  .exact nl0 z.symm
 .intro e he
  rw[ut.mp he];exact hra0
 .rintro b (z|z)
  .cases e:H b with
   |none=>exact absurd e (hR0 b z)
   |some u=>rw[s3 b u e];simp
  .rw[z,zo nwl,s12 _ _ hl0'];simp
 .rintro b (z|z)
  .exact hRM0 b z
  .rw[z];exact hM _ hl0
 .show[wl,ra].Nodup
  simp[nwr.symm]
 .unfold mall mlow
  simp
  lia
 .intro e he
  rw[ut.mp he];show 1<=10000000
  decide
 rintro m σ Ha ⟨es,cur,R,y3,y4,y5,y6,rfl,rfl,kHa,okA,hwlA,nRw,hes,hra,lk,hRd,hRM,nd,hms,hln,stk⟩;refine¬(iteT ⟨_,λ_ _ h=>h,?_⟩);refine cutR (λD_ rt_ fin=>?_) (λ_ _ h=>h);have hMA:∀b,Ha b=nO->Not (D.M b):=λb e m=>D.okM okA m e;have mwl:Not (D.M wl):=hM _ hwl0;cases es with
 |nil=>cases lk
 |cons e es =>
 have he:=hes e (.head _);have eo:=he.o;obtain⟨ws,hw,hIT'⟩:=he.w;have wlen:=hIT'.len;have els:((e::es).reverse.map λe=>V.ref e.bo)=(es.reverse.map λe=>V.ref e.bo)++[.ref e.bo]:=ba
 rw[els]at hwlA;have elen:=JT D (e::es);rw[ui]at elen;have dr:∀t,e.ts[e.rs.length]?=sO t->e.ts.drop e.rs.length=t::e.ts.drop (e.rs.length+1):=λt ht=>(UO (uf.mp ht).1).trans (by rw[(uf.mp ht).2]);refine(zv rfl rfl ⟨wl,_,_,_,rfl,rfl,SqL.of hwlA,xA _ _,?_⟩);refine¬⟨e.bo,cB,e.dx,_,_,rfl,eo,N.cl,N.b3,rfl,_,_,rfl,.inl (SqL.of he.r),¬⟨e.bo,cB,e.dx,_,_,rfl,eo,N.cl,N.b1,rfl,_,_,rfl,.inl (SqL.of hw),(zE rfl rfl ¬?_)⟩⟩;refine ite2 (λc=>?_) (λc=>?_)
 .rw[dA]at c
  have c:e.rs.length < ws.length:=b8
  obtain⟨t,ht,hIt⟩:=hIT'.get (uj c);obtain⟨sk1,sk2⟩:=stk;rw[dr t ht]at sk1;obtain⟨spre,sk3⟩:=sk1;refine wT rfl (λR h=>¬⟨e.bo,cB,e.dx,_,_,rfl,eo,N.cl,N.b1,rfl,¬⟨e.bo,cB,e.dx,_,_,rfl,eo,N.cl,N.b3,rfl,_,_,rfl,.inl (SqL.of he.r),_,_,_,_,rfl,rfl,SqL.of hw,yx (uj c),h⟩⟩) (D.beg hIt (show D.Ok (D.pre t) Ha by rw[spre];exact okA) hRd hRM λHb pq l fl vs R' kB okB hq hl hlB sub sub' dom' Rl hks hfin=>?_);refine¬⟨.inl ⟨rfl,_,SqL.of (kB _ _ mwl hwlA)⟩,¬(ixT hq aI0 ¬(ixT hq aI1 (λx' dx' hx' hdx' nxd'=>?_)))⟩;refine⟨x',dx',l,fl,rfl,uX9,λHc rb kp' hrb hrb2 hxc=>⟨rfl,?_⟩⟩;have sbc:Same Hb Hc:=λb u e=>kp' b u (zk e hx') (by rw[zo (zk e hx'),zo (zk e hdx')];exact e);have nrx:rb≠x':=λz=>by
   rw[z,uX9]at hrb;cases hrb
  have nrd':rb≠dx':=λz=>by
   rw[z,zo nxd',uX9]at hrb;cases hrb
  have hrbB:Hb rb=nO:=by
   rw[zo nrx,zo nrd']at hrb;exact hrb
  have okC:D.Ok (D.mid t) Hc:=D.okk okB λb u e _=>sbc b u e;have hMB:∀b,Hb b=nO->Not (D.M b):=λb e m=>D.okM okB m e;have hwlC:Hc wl=sO (.lst ((es.reverse.map λe=>V.ref e.bo)++[.ref e.bo])):=sbc _ _ (kB _ _ mwl hwlA);refine⟨wl,(zE rfl rfl ⟨hwlC,by rw[ud,ub,Ux];show es.length+1 < _;lia,?_⟩)⟩;have nR'w:Not (R' wl):=λz=>by
   rcases sub' _ z with z|z
   .exact nRw z
   .rw[hwlA]at z;cases z
  have kzA:Kz D.M R Ha (upd Hc wl (.lst ((es.reverse.map λe=>V.ref e.bo)++[.ref e.bo]++[.ref x']))):=λb u q1 q2 q3=>by
   rw[zo]
   .exact sbc _ _ (kB _ _ q2 q1)
   .intro z
    rw[z,hwlA]at q1;cases q1;rw[z]at q3;exact nRw (q3 _ rfl)
  have kzB:Kz D.M R' Hb (upd Hc wl (.lst ((es.reverse.map λe=>V.ref e.bo)++[.ref e.bo]++[.ref x']))):=λb u q1 q2 q3=>by
   rw[zo]
   .exact sbc _ _ q1
   .intro z
    rw[z,kB _ _ mwl hwlA]at q1;cases q1;rw[z]at q3;exact nR'w (q3 _ rfl)
  have nx':x'≠wl:=zk (by exact kB _ _ mwl hwlA) hx' |>.symm
  have nrb:rb≠wl:=(zk (kB _ _ mwl hwlA) hrbB).symm;have nl:l≠wl:=λz=>nR'w (z ▸ Rl);have nolds:∀e'∈e::es,Hc e'.ra=sO (.lst e'.rs)/\e'.ra≠wl/\Not (R' e'.ra):=λe' he'=>by
   have h':=hes e' he';refine⟨sbc _ _ (kB _ _ h'.nM h'.r),λz=>?_,λz=>?_⟩
   .have:=(uV.mp nd).1
    exact this (z ▸ uz.mpr ⟨e',he',rfl⟩)
   .rcases sub' _ z with z|z
    .exact h'.nr z
    .rw[h'.r]at z;cases z
  refine fin _ _ ⟨_,?_,⟨x',dx',l,rb,fl,sO t,D.kids t,[]⟩ :: e::es,D.mid t,R',_,_,_,_,rfl,rfl,?_,D.okk okC ?_,?_,nR'w,?_,?_,.up lk rfl ht,?_,?_,?_,?_,?_,⟨D.chn t,sk3,sk2⟩⟩
  .show 1+(((D.kids t).drop 0).map D.wt).sum+mlow D (e::es) < 1+((e.ts.drop e.rs.length).map D.wt).sum+mlow D es
   rw[dr t ht]
   have:=D.wk t
   rw[show mlow D (e::es)=1+((e.ts.drop (e.rs.length+1)).map D.wt).sum+mlow D es from rfl];simp only[List.drop_zero,uB,Uw]
   lia
  .exact((kHa.trans kB).trans (.of sbc)).put hwl0
  .intro b u q1 q2
   rw[zo]
   .exact q1
   .intro z
    rw[z,hwlC]at q1;cases q1;rw[z]at q2;exact mwl (q2 _ rfl)
  .rw[uX9]
   simp
  .intro e' he'
   rcases uq.mp he' with rfl|he'
   .exact⟨by rw[zo nx'];exact hxc,hMB _ hx',⟨vs,by rw[zo nl];exact sbc _ _ hlB,hks.imp λa b q=>D.itk q okB kzB λ_ z=>z⟩,Rl,by rw[zo nrb];exact hrb2,λz=>dom' _ z hrbB,hMB _ hrbB,uS _,.nil,D.ifk hfin okB kzB λ_ z=>z,rfl⟩
   .obtain⟨n1,n2,n3⟩:=nolds e' he'
    exact(hes e' he').keep okA kzA hRM sub (by rw[zo n2];exact n1) n3
  .intro e' he'
   rcases uq.mp he' with rfl|he'
   .exact(kHa.trans kB).free (hMB _ hrbB) hrbB
   .exact hra e' he'
  .intro b z
   by_cases hb:b=wl
   .rw[hb,uX9];simp
   .rw[zo hb]
    cases q:Hb b with
    |none=>exact absurd q (dom' b z)
    |some u=>rw[sbc _ _ q];simp
  .intro b z
   rcases sub' b z with z|z
   .exact hRM b z
   .exact hMA b z
  .rw[uB,uV]at *
   refine⟨λz=>?_,uV.mpr ⟨λz=>?_,nd.2⟩⟩
   .rcases uq.mp z with z|z
    .exact nrb z.symm
    .exact nd.1 z
   .obtain⟨e',he',z⟩:=uz.mp z
    have:=kB _ _ (hes e' he').nM (hes e' he').r
    rw[z,hrbB]at this;cases this
  .refine uF ?_ hms
   show 1+(((D.kids t).drop 0).map D.wt).sum+mlow D (e::es)<=1+((e.ts.drop e.rs.length).map D.wt).sum+mlow D es;rw[dr t ht]
   have:=D.wk t
   rw[show mlow D (e::es)=1+((e.ts.drop (e.rs.length+1)).map D.wt).sum+mlow D es from rfl];simp only[List.drop_zero,uB,Uw]
   lia
  .intro e' he'
   rcases uq.mp he' with rfl|he'
   .have h1:=D.wk t
    have h2:D.wt t<=mall D (e::es):=by
     show _<=1+((e.ts.drop e.rs.length).map D.wt).sum+mlow D es;rw[dr t ht,uB,Uw];lia
    have h3:=JU D (D.kids t);show(D.kids t).length<=10000000;lia
   .exact hln e' he'
 .have c:Not (e.rs.length < ws.length):=λz=>c (decide_eq_true b8)
  have le:=he.le;have rr:=he.rr;obtain⟨sk1,sk2⟩:=stk;rw[List.drop_eq_nil_of_le b8]at sk1;have sk1:cur=eEnd D root e:=sk1;rw[um b8]at rr;refine¬⟨e.bo,cB,e.dx,_,_,rfl,eo,N.cl,N.b2,rfl,?_⟩;have pop:∀{Hb:Hp},Hb wl=sO (.lst ((es.reverse.map λe=>V.ref e.bo)++[.ref e.bo]))->∀{Q:VK},Q (.ref e.bo) (upd Hb wl (.lst (es.reverse.map λe=>V.ref e.bo)))->rPop (.ref wl) [] Hb Q:=λh Q q=>⟨wl,_,.ref e.bo,rfl,rfl,h,ba,by rw[List.dropLast_concat];exact q⟩;cases htk:e.tk with
  |none =>
   have ecur:cur=D.post root:=by rw[sk1];unfold eEnd;rw[htk]
   subst ecur;have fin:=he.fin;rw[htk]at fin;obtain⟨e1,e2⟩:=fin;have es0:es=[]:=by
    cases lk with
    |bot _=>rfl
    |up _ q _=>rw[htk]at q;cases q
   subst es0;rw[e2]at rr;have hrs:=he.r;generalize e.rs=rs at *;cases rr with
   |cons hv hn =>
   cases hn;rw[e1];refine wT rfl (λR h=>¬⟨e.bo,cB,e.dx,_,_,rfl,eo,N.cl,N.b3,rfl,h⟩) ⟨fdo,_,_,GO.mono b8,bO,⟨e.ra,_,[],rfl,hrs,?_⟩,.inr kO⟩;refine¬⟨.inl ⟨rfl,_,SqL.of hwlA⟩,pop hwlA ?_⟩;refine¬⟨_,_,rfl,.inl (SqL.of uX9),rfl,¬(iteT ¬?_)⟩;rw[rt_];refine q _ _ R (kHa.put hwl0) (D.okk okA λb u q1 q2=>?_) hRM (D.irk hv okA (λb u q1 q2 q3=>?_) λ_ z=>z)
   .rw[zo]
    .exact q1
    .intro z
     rw[z,hwlA]at q1;cases q1;rw[z]at q2;exact mwl (q2 _ rfl)
   .rw[zo]
    .exact q1
    .intro z
     rw[z,hwlA]at q1;cases q1;rw[z]at q3;exact nRw (q3 _ rfl)
  |some t =>
   have eE:eEnd D root e=D.post t:=by unfold eEnd;rw[htk]
   have ecur:cur=D.post t:=sk1.trans eE;subst ecur;rw[eE]at sk2;have fin:=he.fin;rw[htk]at fin;obtain⟨e1,e2⟩:=fin;rw[e2]at rr;cases lk with
   |bot q=>rw[htk]at q;cases q
   |@up _ e' es' t' lk' q ht' =>
   rw[htk]at q;cases q;have he':=hes e' (.tail _ (.head _));have ndA:=nd;rw[uB,uB,uV,uV,uV]at ndA;obtain⟨nd1,nd2,nd3,nd4⟩:=ndA;have nwe:e.ra≠wl:=λz=>nd1 (z ▸ .head _);have nwe':e'.ra≠wl:=λz=>nd1 (z ▸ .tail _ (.head _));have nee':e'.ra≠e.ra:=λz=>nd2 (z ▸ .head _);have kzR:Kz D.M R Ha Ha:=λb u q _ _=>q;refine wT rfl (λR h=>¬⟨e.bo,cB,e.dx,_,_,rfl,eo,N.cl,N.b3,rfl,h⟩) (D.fin (R:=λb=>R b\/b=e.ra) (D.ifk e1 okA kzR λ_ z=>.inl z) okA ?_ ?_ (.inr rfl) he.r (rr.imp λa b q=>D.irk q okA kzR λ_ z=>.inl z) λHb rv R' kB okB sub sub' dom' hIR=>?_)
   .rintro b (z|z)
    .exact hRd b z
    .rw[z,he.r];simp
   .rintro b (z|z)
    .exact hRM b z
    .rw[z];exact he.nM
   have hwlB:=kB _ _ mwl hwlA;have heB:=kB _ _ he'.nM he'.r;have hoB:=kB _ _ he'.nb he'.o;have no':e'.bo≠wl:=yE hoB hwlB (by unfold BO;intro z;cases z);refine¬⟨.inl ⟨rfl,_,SqL.of hwlB⟩,pop hwlB ?_⟩;have els':((e'::es').reverse.map λe=>V.ref e.bo)=(es'.reverse.map λe=>V.ref e.bo)++[.ref e'.bo]:=ba
   rw[els'];refine¬⟨_,_,rfl,.inl (SqL.of uX9),rfl,¬(iteN ?_ ?_)⟩
   .rw[ud]
    exact eO (by intro z;have:=V.int.inj z;simp at this;lia)
   refine(zv rfl rfl ⟨wl,_,_,_,rfl,rfl,SqL.of uX9,xA _ _,e'.bo,cB,e'.dx,_,.ref e'.ra,rfl,by rw[zo no'];exact hoB,N.cl,N.b3,rfl,.inl ⟨rfl,_,SqL.of (by rw[zo nwe'];exact heB)⟩,¬⟨e'.ra,(zE rfl rfl ⟨by rw[zo nwe'];exact heB,?_,?_⟩)⟩⟩)
   .have:=(uf.mp ht').1
    have:=hln e' (.tail _ (.head _))
    lia
   have nR'w:Not (R' wl):=λz=>by
    rcases sub' _ z with(z|z)|z
    .exact nRw z
    .exact nwe z.symm
    .rw[hwlA]at z;cases z
   have nR':∀e1∈e'::es',Not (R' e1.ra):=λe1 h1 z=>by
    rcases sub' _ z with(z|z)|z
    .exact(hes e1 (.tail _ h1)).nr z
    .exact nd2 (z ▸ uz.mpr ⟨e1,h1,rfl⟩)
    .rw[(hes e1 (.tail _ h1)).r]at z;cases z
   have kzB:Kz D.M R' Hb (upd (upd Hb wl (.lst ((es'.reverse.map λe=>V.ref e.bo)++[.ref e'.bo]))) e'.ra (.lst (e'.rs++[rv]))):=λb u q1 q2 q3=>by
    have n1:b≠e'.ra:=λz=>by
     rw[z,heB]at q1;cases q1;rw[z]at q3;exact nR' e' (.head _) (q3 _ rfl)
    have n2:b≠wl:=λz=>by
     rw[z,hwlB]at q1;cases q1;rw[z]at q3;exact nR'w (q3 _ rfl)
    rw[zo n1,zo n2];exact q1
   have kzA:Kz D.M R Ha (upd (upd Hb wl (.lst ((es'.reverse.map λe=>V.ref e.bo)++[.ref e'.bo]))) e'.ra (.lst (e'.rs++[rv]))):=λb u q1 q2 q3=>kzB b u (kB _ _ q2 q1) q2 λxs z=>sub _ (.inl (q3 xs z));have subR:∀b,R b->R' b:=λb z=>sub _ (.inl z);refine fin _ _ ⟨_,?_,{ e' with rs:=e'.rs++[rv] } :: es',D.post t,R',_,_,_,_,rfl,rfl,((kHa.trans kB).put hwl0).put (hra e' (.tail _ (.head _))),D.okk okB ?_,?_,nR'w,?_,?_,?_,?_,?_,?_,?_,?_,?_⟩
   .show 1+((e'.ts.drop (e'.rs++[rv]).length).map D.wt).sum+mlow D es' < 1+((e.ts.drop e.rs.length).map D.wt).sum+(1+((e'.ts.drop (e'.rs.length+1)).map D.wt).sum+mlow D es')
    rw[ud,uH];lia
   .intro b u q1 q2
    have n1:b≠e'.ra:=λz=>by
     rw[z,heB]at q1;cases q1;rw[z]at q2;exact he'.nM (q2 _ rfl)
    have n2:b≠wl:=λz=>by
     rw[z,hwlB]at q1;cases q1;rw[z]at q2;exact mwl (q2 _ rfl)
    rw[zo n1,zo n2];exact q1
   .rw[zo nwe'.symm,uX9]
    simp
   .intro e1 h1
    rcases uq.mp h1 with rfl|h1
    .obtain⟨o,nb,⟨ws',w1,w2⟩,Rw,r,nr',nM,le',rr',fin⟩:=he'
     refine⟨kzA _ _ o nb (by intro xs q;unfold BO at q;cases q),nb,⟨ws',kzA _ _ w1 (hRM _ Rw) (λ_ _=>Rw),w2.imp λa b q=>D.itk q okA kzA subR⟩,subR _ Rw,uX9,nR' e' (.head _),nM,?_,?_,?_⟩
     .show(e'.rs++[rv]).length<=_
      rw[ud,uH];exact(uf.mp ht').1
     .show All2 _ (e'.ts.take (e'.rs++[rv]).length) (e'.rs++[rv])
      rw[ud,uH,uA,ht'];exact(rr'.imp λa b q=>D.irk q okA kzA subR).app (.cons (D.irk hIR okB kzB λ_ z=>z) .nil)
     .show(match e'.tk with|none=>_|some t=>_)
      cases q:e'.tk with
      |none=>rw[q]at fin;exact fin
      |some t=>rw[q]at fin;exact⟨D.ifk fin.1 okA kzA subR,fin.2⟩
    .have h1':=hes e1 (.tail _ (.tail _ h1))
     have m1:e1.ra≠e'.ra:=λz=>nd3 (z ▸ uz.mpr ⟨e1,h1,rfl⟩);have m2:e1.ra≠wl:=λz=>nd1 (z ▸ .tail _ (.tail _ (uz.mpr ⟨e1,h1,rfl⟩)));exact h1'.keep okA kzA hRM subR (by rw[zo m1,zo m2];exact kB _ _ h1'.nM h1'.r) (nR' e1 (.tail _ h1))
   .intro e1 h1
    rcases uq.mp h1 with rfl|h1
    .exact hra e' (.tail _ (.head _))
    .exact hra e1 (.tail _ (.tail _ h1))
   .cases lk' with
    |bot q=>exact .bot q
    |up a b c=>exact .up a b c
   .intro b z
    have:=dom' b z
    unfold upd;split
    .simp
    .split
     .simp
     .exact this
   .intro b z
    rcases sub' b z with(z|z)|z
    .exact hRM b z
    .rw[z];exact he.nM
    .exact hMA b z
   .exact uV.mpr ⟨λz=>nd1 (.tail _ z),uV.mpr ⟨nd3,nd4⟩⟩
   .refine uF ?_ hms
    show 1+((e'.ts.drop (e'.rs++[rv]).length).map D.wt).sum+mlow D es'<=1+((e.ts.drop e.rs.length).map D.wt).sum+(1+((e'.ts.drop (e'.rs.length+1)).map D.wt).sum+mlow D es');rw[ud,uH];lia
   .intro e1 h1
    rcases uq.mp h1 with rfl|h1
    .exact hln e' (.tail _ (.head _))
    .exact hln e1 (.tail _ (.tail _ h1))
   .refine⟨?_,sk2.2⟩
    show Chn D.pre D.post (D.post t) (e'.ts.drop (e'.rs++[rv]).length) _;rw[ud,uH];exact sk2.1
end
end GN
namespace HT
open PySem PySem.Spec PyProof.Rows
theorem getItem_tuple_whole{t:aO}{Q:VSP}(ht:IsTup s.heap t items)(hs:s.heap.IsSliceOf sl vl vu .none)(pl:IsPart vl lo)(pu:IsPart vu hi)
  (hw:sIx items.size 0 lo=0/\sIx items.size items.size hi=items.size) (h:Q (.ref t) s):wpAny (model prog w) A (getItem (.ref t) (.ref sl)) Q E s:=by
 obtain⟨os,hos,hcs,hds⟩:=id hs;have hTs:s.TypeIs (.ref sl) "slice":=⟨os,hos,hcs⟩;unfold getItem
 try with_reducible refine wpAny_holding ?_
 first|refine bA (pO ?_)|skip
 refine bA (wpAny_sequenceKey ht.typeIs b9 ?_);refine bA (wpAny_callSpecial?_slot (name:=Str.ofString "__getitem__") ht.typeIs Uk
  (wpAny_call_entry Uk ht.typeIs entry_tuple_getitem ?_ (args_tuple_getitem _ _)))
 show wpAny _ _ (Builtin.Tuple.tupleItemsOf (.ref t) >>= _) _ _ s;refine bA (tupleItemsOf_ ht ?_);refine bA (wpAny_typeOf hTs ?_);rw[iP b9];refine bA (xz hs pl pu ?_);have hyes:(((sIx items.size 0 lo:Nat):Int) == 0 && (1:Int) == 1 && (sIx items.size items.size hi-sIx items.size 0 lo) == items.size)=tU:=by
  rw[hw.1,hw.2];simp
 show wpAny _ _ (if(((sIx items.size 0 lo:Nat):Int) == 0 && (1:Int) == 1 && (sIx items.size items.size hi-sIx items.size 0 lo) == items.size)=tU then _ else _) _ _ s;rw[iP hyes];have hx:wpAny (model prog w) A.in1 (Builtin.Tuple.tupleIsExact (.ref t)) (λb s'=>b=tU/\s'=s) (λ_ _=>False) s:=by
  unfold Builtin.Tuple.tupleIsExact;exact bA (wpAny_typeOf ht.typeIs (pO ⟨b9,rfl⟩))
 refine bA (wpAny_mono hx (λb s' q=>?_) λ_ _ z=>z.elim);obtain⟨rfl,rfl⟩:=q;rw[iP rfl];exact bA (wpAny_rule (pO ⟨_,rfl,pO h⟩))
end HT
namespace L2
open PySem PySem.Spec PyProof.Rows
def rSlW(K:uc):V->Option Int->Option Int->Hp->VK->Prop:=λx lo hi H Q=>∃a xs,x=.ref a/\SqT K H a xs /\
 (cutV xs lo hi=xs->Q (.ref a) H)/\∀p,H p=nO->Q (.ref p) (upd H p (.tup (cutV xs lo hi)))
theorem zaW:SlR X (rSlW X.K):=by
 intro pins s σ H x v vl vu lo hi sl Q I rx hs pl pu h;obtain⟨a,xs,rfl,hx,q1,q⟩:=h;by_cases hw:HT.sIx xs.length 0 lo=0/\HT.sIx xs.length xs.length hi=xs.length
 .cases rx
  obtain⟨its,r,ht,hz⟩:=I.tuple hx;have hlen:its.toArray.size=xs.length:=by rw[uw];exact r.length.symm
  refine⟨"tuple",_,Uk.lookup,ht.typeIs,?_⟩;refine HT.getItem_tuple_whole ht hs pl pu (by rw[hlen];exact hw) ⟨.ref a,H,I,rfl,q1 ?_⟩;unfold cutV;rw[hw.1,hw.2];simp
 .exact zcJ pins s σ H (.ref a) v vl vu lo hi sl Q I rx hs pl pu ⟨a,xs,rfl,hx,hw,q⟩
def rSlO:V->Option Int->Option Int->Hp->VK->Prop:=λx lo hi H Q=>∃a xs,x=.ref a/\H a=sO (.tup xs)/\∀p H',(∀b o,H b=sO o->H' b=sO o)->H' p=sO (.tup (cutV xs lo hi))->Q (.ref p) H'
theorem zaX:SlR X rSlO:=by
 intro pins s σ H x v vl vu lo hi sl Q I rx hs pl pu h;obtain⟨a,xs,rfl,hx,q⟩:=h;refine zaW pins s σ H (.ref a) v vl vu lo hi sl Q I rx hs pl pu ⟨a,xs,rfl,SqT.of hx,λe=>q a H (λ_ _ z=>z) (by rw[e];exact hx),λp hp=>q p _ (λb o z=>?_) uX9⟩;rw[zo (zk z hp)];exact z
theorem wf:jSl X rSlO:=⟨zaX⟩
end L2
namespace L2
open PySem
section
variable{a:Expr}
theorem XC:jOp X (binaryOp .BitOr) (rI0 λi j=>.int (Builtin.bitOr i j)):=⟨zdZ⟩
theorem Wk:jOp X (binaryOp .BitAnd) (rI0 λi j=>.int (Builtin.bitAnd i j)):=⟨zcA⟩
theorem zdn(ha:jE X a ta):jE X (.UnaryOp .Invert a pos) (tUn (rU λi=>.int (Builtin.bitNot i)) ta):=⟨zbz zcC ha.out⟩
end
end L2
namespace GN
open PySem L2 K11
variable{d:aO}
inductive spBits(vs:List V)(H:Hp)(Q:VK)(e_3:XK):Prop
 |mk (p:aO):∀ns:lS,(vs=[.ref p])->(H p=sO (.lst (ns.map V.str)))->(ns.Nodup)->(ns.length<=1000)->(∀(H':Hp)(d:aO),Same H H'->H d=nO->H' d=sO (.dK (yF ns 1))->Q (.ref d) H')->spBits vs H Q e_3
inductive spTog(vs:List V)(H:Hp)(Q:VK)(e_3:XK):Prop
 |mk (p d:aO) (xs:lS):∀ns:lS,(vs=[.ref p,.ref d])->(H p=sO (.tup (xs.map V.str)))->(H d=sO (.dK (yF ns 1)))->(Q (.int ((tog ns xs:Nat):Int)) H)->spTog vs H Q e_3
inductive spNamesOf(vs:List V)(H:Hp)(Q:VK)(e_3:XK):Prop
 |mk (p:aO):∀d:De,(vs=[.ref p])->(IsDe H d p)->(∀(H':Hp)(q:aO),Same H H'->H' q=sO (.tup (d.uses.map V.str))->Q (.ref q) H')->spNamesOf vs H Q e_3
inductive spUsed(vs:List V)(H:Hp)(Q:VK)(e_3:XK):Prop
 |mk (p:aO):∀b:Bd,(vs=[.ref p])->(IsB H b p)->(∀(H':Hp)(q:aO),Same H H'->H' q=sO (.tup (b.used.map V.str))->Q (.ref q) H')->spUsed vs H Q e_3
theorem Vj{b:Nat}(h:x∉ns):putK (yF ns b) (.inr x) (.int ((b*2 ^ ns.length:Nat):Int))=yF (ns++[x]) b:=by
 unfold putK;rw[xD,we,iN h,iN ba,jH]
theorem JV{xs:lS}(h:xs[i]?=sO x):tog ns (xs.take (i+1))=tog ns (xs.take i) ||| bitN ns x:=by
 unfold tog;rw[uA,h,List.foldl_append]
 rfl
section
variable{K:uc}
theorem scBits:FnScope ["names","bits","bit","name"] ["names"] (zq Jw):=.ok
theorem zaY(F:Fun K "bits_of" "bits_of" Jw f fd):FnOk P w K mg base CX0 1 f fd ["names"] spBits:=by
 refine F.by scBits ?_ ?_
 .rintro _ _ _ _ ⟨_,_,rfl,_⟩;rfl
 rintro _ _ _ _ H vs _ _ hr ⟨p,ns,rfl,hp,nd,hl,q⟩;refine⟨_,
  (zh (sE 1 scBits.nd wM)
  (zh (sE 2 scBits.nd zp)
  (zh (z5 PassesOwn.never rfl (zU K !0) (gN 3 scBits.nd)
   (zh (vw hr (!1) (!3) !2) (zi (sE 2 scBits.nd (zC yz (!2) !2)))))
  (zi (zt !1))))),?_⟩
 have sl:=zN;intro d hd;have s1:=zn (o:=.dK []) hd;have npd:p≠d:=zk hp hd;refine¬⟨p,rfl,⟨_,SqL.of (s1 _ _ hp)⟩,xm (xs:=ns.map V.str) (λi σ H'=>Same H H'/\H' d=sO (.dK (yF (ns.take i) 1))/\∃z,σ=[sR p,sR d,sO (.int ((2 ^ i:Nat):Int)),z]) ⟨s1,uX9,nO,rfl⟩ (λi σ H' _ h=>SqL.of (h.1 _ _ hp)) ?_ ?_⟩
 .rintro i v σ H1 hv ⟨s2,hd2,z,rfl⟩
  obtain⟨x,hx,rfl⟩:=L2.gM hv;have hi:=(uf.mp hx).1;have hnx:x∉ns.take i:=λhm=>by
   obtain⟨j,hj⟩:=U9.mp hm;have hj':j < i:=by
    have:=(uf.mp hj).1
    rw[uv]at this;lia
   rw[List.getElem?_take_of_lt hj']at hj
   have:=(List.getElem?_inj (uf.mp hj).1 nd).mp (hj.trans hx.symm)
   lia
  have tl:(ns.take i).length=i:=by rw[uv];lia
  have e:=Vj (b:=1) hnx;rw[tl,tw]at e;refine(zv rfl rfl ¬⟨d,¬⟨DPut.k (k:=.inr x) hd2 (by rw[jJ,tl];lia),?_⟩⟩);refine(zv rfl rfl (zE rfl rfl ⟨s2.put hd,?_,sO (.str x),?_⟩))
  .rw[uX9,e,uA,hx]
   rfl
  .show[_,_,sO (V.int (_+_)),_]=_
   rw[<- Int.natCast_add,<- Nat.two_mul,Nat.mul_comm,<- Nat.pow_succ]
 .rintro σ H1 ⟨s2,hd2,z,rfl⟩
  rw[ub,um (uk _)]at hd2;exact¬(q _ d s2 hd hd2)
theorem scTog:FnScope ["names","bits","found","name"] ["names","bits"] (zq sTog):=.ok
theorem zdo(F:Fun K "together" "together" sTog f fd):FnOk P w K mg base CX0 1 f fd ["names","bits"] spTog:=by
 refine F.by scTog ?_ ?_
 .rintro _ _ _ _ ⟨_,_,_,_,rfl,_⟩;rfl
 rintro _ _ _ _ H vs _ _ hr ⟨p,d,xs,ns,rfl,hp,hd,q⟩;refine⟨_,
  (zh (sE 2 scTog.nd zp)
  (zh (z5 PassesOwn.never rfl (yo K !0) (gN 3 scTog.nd)
   (zi (sE 2 scTog.nd (zC XC (!2) (yK hr (!1) (!3) zp)))))
  (zi (zt !2)))),?_⟩
 refine¬⟨p,rfl,⟨_,SqT.of hp⟩,xc (xs:=xs.map V.str) (λi σ H'=>H=H'/\∃z,σ=[sR p,sR d,sO (.int ((tog ns (xs.take i):Nat):Int)),z]) ⟨rfl,nO,rfl⟩ (λi σ H' _ h=>SqT.of (h.1 ▸ hp)) ?_ ?_⟩
 .rintro i v σ H1 hv ⟨rfl,z,rfl⟩
  obtain⟨x,hx,rfl⟩:=L2.gM hv;have e:((valV (yF ns 1) (.inr x)).getD (.int 0))=.int ((bitN ns x:Nat):Int):=by
   rw[we];by_cases c:x∈ns
   .rw[iP c,tw];rfl
   .rw[iN c,Yt c];rfl
  refine(zv rfl rfl ⟨d,rfl,.inl ⟨_,.inl hd⟩,¬⟨_,DGet.k (k:=.inr x) hd,?_⟩⟩);rw[e];refine(zE rfl rfl ⟨rfl,sO (.str x),?_⟩);show[_,_,sO (V.int (Builtin.bitOr _ _)),_]=_;rw[Zy,<- JV hx]
 .rintro σ H1 ⟨rfl,z,rfl⟩
  rw[ub,um (uk _)];exact¬(q)
theorem Vk:FnScope ["deed"] ["deed"] (zq vU):=.ok
theorem XD(F:Fun K "names_of" "names_of" vU f fd):FnOk P w K mg base CX0 1 f fd ["deed"] spNamesOf:=by
 refine F.by Vk ?_ ?_
 .rintro _ _ _ _ ⟨_,_,rfl,_⟩;rfl
 rintro _ _ _ _ _ vs _ _ hr ⟨p,d,rfl,hd,q⟩;refine⟨_,
  (zh (zF (tN zJ (zj K !0) zu) (zi (zt (zy zQ))) zw)
  (zh (zF (tN zJ (zj K !0) zu) (zi (zt (yJ wf (!0) (yV zp) yU))) zw)
  (zh (zF (tN zJ (zj K !0) zu) (zi (zt (zC wC (zy (jA1 (zj K !0))) (zj K !0)))) zw)
  (zi (zt (zj K !0)))))),?_⟩
 have sl:=zN;cases hd with
 |num hp =>
  refine¬(ixT hp aI0 ⟨rfl,¬(ite2 (λ_=>?_) aB)⟩);exact⟨sN0,λr hr=>q _ r (zn hr _) uX9⟩
 |@op w0 a b _ hp =>
  refine¬(ixT hp aI0 ⟨rfl,¬(ite2 aB (λ_=>?_))⟩);refine¬(ixT hp aI0 ⟨rfl,¬(ite2 (λ_=>?_) aB)⟩);exact(zv rfl rfl ⟨p,¬⟨hp,λr H' s1 h1=>q H' r s1 h1⟩⟩)
 |@app w0 g xs _ pq hw hp hq =>
  obtain⟨w1,w2,w3⟩:=hw;have n1:Not (decide (V.str w0=V.str "num")=tU):=λc=>w1 (V.str.inj (of_decide_eq_true c));have n2:Not (decide (V.str w0=V.str "op")=tU):=λc=>w2 (V.str.inj (of_decide_eq_true c));refine¬(ixT hp aI0 ⟨rfl,¬(ite2 (λc=>absurd c n1) (λ_=>?_))⟩);refine¬(ixT hp aI0 ⟨rfl,¬(ite2 (λc=>absurd c n2) (λ_=>?_))⟩);refine¬(ixT hp aI0 ⟨rfl,¬(ite2 (λc=>?_) (λc=>?_))⟩)
  .have e:w0="ask":=V.str.inj (of_decide_eq_true c)
   subst e;rw[yL]at q;refine¬(ixT hp aI1 ⟨sN1,λt1 h1=>?_⟩);have s1:=zn (o:=.tup [.str g]) h1;refine¬(ixT (s1 _ _ hp) aI2 ⟨t1,pq,(zE rfl rfl ⟨SqT.of uX9,SqT.of (s1 _ _ hq),ba,by rw[ub];show 1+xs.length<=_;lia,λe=>?_,λ_ r hr=>?_⟩)⟩)
   .have e:xs=[]:=List.map_eq_nil_iff.mp e
    subst e;exact q _ t1 s1 uX9
   .exact q _ r (s1.new hr) uX9
  .have e:w0≠"ask":=λe=>c (decide_eq_true (by rw[e]))
   rw[yA e]at q;exact¬(ixT hp aI2 (q _ pq (Same.refl _) hq))
theorem zdp:FnScope ["body"] ["body"] (zq wr):=.ok
theorem zaZ(F:Fun K "names_used" "names_used" wr f fd)(GN':Ca P w K mg base CX0 1 "names_of" ["deed"] spNamesOf):FnOk P w K mg base CX0 2 f fd ["body"] spUsed:=by
 refine F.by zdp ?_ ?_
 .rintro _ _ _ _ ⟨_,_,rfl,_⟩;rfl
 rintro _ _ _ _ H vs Q _ hr ⟨p,b,rfl,hb,q⟩;refine⟨_,
  (zh (zF (tN zJ (zj K !0) zu) (zi (zt (cA GN' hr (jA1 (zj K !0))))) zw)
  (zh (zF (tN zJ (zj K !0) zu) (zi (zt (zy (jA1 (zj K !0))))) zw)
  (zh (zF (Zh K (zj K !0) (zy (jA2 zu zu))) (zi (zt (zy zQ))) zw)
  (zi (zt (zy (jA1 (zj K !0)))))))),?_⟩
 have sl:=zN
 suffices tail:∀{t x:Str}{xs:List V},H p=sO (.tup (.str t::.str x::xs))->t≠"let"->t≠"hold"->inV (.str t) [V.str "drop",V.str "loose"]=fO->(∀(H':Hp)(q:aO),Same H H'->H' q=sO (.tup [.str x])->Q (.ref q) H') ->
   (tSeq _ (tSeq _ (tSeq _ _)):TS) { nx:=λ_ H'=>Q .non H',rt:=Q } [sR p] H by
  cases hb with
  |give hp=>exact tail hp b9 b9 b9 q
  |iff hp _ _=>exact tail hp b9 b9 b9 q
  |case hp _ _ _=>exact tail hp b9 b9 b9 q
  |@lt x d b _ p1 p2 hp hd hb =>
   refine¬(ixT hp aI0 ⟨rfl,¬(ite2 (λ_=>?_) aB)⟩);exact¬(ixT hp aI2 ⟨p1,d,rfl,hd,λH' r s1 h1=>q H' r s1 h1⟩)
 intro t x xs hp h1 h2 h3 q;have n1:Not (decide (V.str t=V.str "let")=tU):=λc=>h1 (V.str.inj (of_decide_eq_true c));have n2:Not (decide (V.str t=V.str "hold")=tU):=λc=>h2 (V.str.inj (of_decide_eq_true c));refine¬(ixT hp aI0 ⟨rfl,¬(ite2 (λc=>absurd c n1) (λ_=>?_))⟩);refine¬(ixT hp aI0 ⟨rfl,¬(ite2 (λc=>absurd c n2) (λ_=>?_))⟩);refine¬(ixT hp aI0 ⟨sN2,λt0 h0=>?_⟩);have s0:=zn (o:=.tup [.str "drop",.str "loose"]) h0;refine⟨t0,¬⟨.inr (SqT.of uX9),rfl,rfl,¬?_⟩⟩;refine ite2 (λc=>absurd (show inV (.str t) [V.str "drop",V.str "loose"]=tU from c) (by rw[h3];decide)) (λ_=>?_);exact¬(ixT (s0 _ _ hp) aI1 ⟨sN1,λr hr=>q _ r (s0.new hr) uX9⟩)
theorem IsY.get{H:Hp}:∀{l:Wy}{ps:List aO}{i:Nat}{p:aO},IsY H l ps->ps[i]?=sO p->∃ns b q r,l[i]?=sO (ns,b)/\H p=sO (.tup [.ref q,.ref r])/\H q=sO (.tup (ns.map V.str))/\IsB H b r
 |_,_,_,_,.nil,e=>by simp at e
 |_,_,0,_,.cons a b c _,e=>by
  simp at e
  subst e;exact⟨_,_,_,_,rfl,a,b,c⟩
 |_,_,i+1,_,.cons _ _ _ d,e=>by
  obtain⟨ns,b,q,r,h1,h2⟩:=IsY.get (i:=i) d (by simpa using e);exact⟨ns,b,q,r,bf,h2⟩
def Nt(H:Hp)(m:Nat)(v:V):Prop:=∃q l,v=.ref q/\H q=sO (.tup [.int ((m:Nat):Int),.ref l])
theorem Nt.keep(h:Nt H m v)(t:Tups H H'):Nt H' m v:=by obtain⟨q,l,e,h⟩:=h;exact⟨q,l,e,t _ _ h⟩
def NtL(H:Hp)(R:aO->Prop)(m:Nat)(v:V)(nv:List V):Prop:=∃q l,v=.ref q/\H q=sO (.tup [.int ((m:Nat):Int),.ref l])/\R l/\H l=sO (.lst nv)
mutual
noncomputable def IsN (ns:lS) (H:Hp) (R:aO->Prop):Bd->V->Prop
 |.give x,v=>NtL H R ((Bd.give x).mk ns) v []
 |.lt x d b,v=>∃w,NtL H R ((Bd.lt x d b).mk ns) v [w]/\IsN ns H R b w
 |.iff x a b,v=>∃w u,NtL H R ((Bd.iff x a b).mk ns) v [w,u]/\IsN ns H R a w/\IsN ns H R b u
 |.case x as,v=>∃ws,NtL H R ((Bd.case x as).mk ns) v ws/\IsNA ns H R as ws
noncomputable def IsNA (ns:lS) (H:Hp) (R:aO->Prop):Arms->List V->Prop
 |.nil,ws=>ws=[]
 |.cons _ _ b r,ws=>∃w ws',ws=w::ws'/\IsN ns H R b w/\IsNA ns H R r ws'
end
structure NK(H H':Hp)(R R':aO->Prop):Prop where
 t:Tups H H'
 l:∀a xs,R a->H a=sO (.lst xs)->H' a=sO (.lst xs)
 s:∀a,R a->R' a
theorem NtL.keep{nv:List V}(k:NK H H' R R')(h:NtL H R m v nv):NtL H' R' m v nv:=by obtain⟨q,l,e,a,b,c⟩:=h;exact⟨q,l,e,k.t _ _ a,k.s _ b,k.l _ _ b c⟩
mutual
theorem IsN.keep{ns:lS}{H H':Hp}{R R':aO->Prop}(k:NK H H' R R'):∀{b:Bd}{v:V},IsN ns H R b v->IsN ns H' R' b v
 |.give x,v,h=>NtL.keep k h
 |.lt x d b,v,h=>let ⟨w,a,e⟩:=h;⟨w,a.keep k,IsN.keep k e⟩
 |.iff x a b,v,h=>let ⟨w,u,a,e,g⟩:=h;⟨w,u,a.keep k,IsN.keep k e,IsN.keep k g⟩
 |.case x as,v,h=>let ⟨ws,a,e⟩:=h;⟨ws,a.keep k,IsNA.keep k e⟩
theorem IsNA.keep{ns:lS}{H H':Hp}{R R':aO->Prop}(k:NK H H' R R'):∀{as:Arms}{ws:List V},IsNA ns H R as ws->IsNA ns H' R' as ws
 |.nil,ws,h=>h
 |.cons _ _ b r,ws,h=>let ⟨w,ws',e,g,i⟩:=h;⟨w,ws',e,IsN.keep k g,IsNA.keep k i⟩
end
def IsNs(ns:lS)(H:Hp)(R:aO->Prop)(l:Wy)(nv:List V):Prop:=All2 (λ(w:lS×Bd) v=>IsN ns H R w.2 v) l nv
theorem IsNA.ways{ns:lS}{H:Hp}{R:aO->Prop}:∀{as:Arms}{ws:List V},IsNA ns H R as ws↔IsNs ns H R as.ways ws
 |.nil,ws=>by
  unfold IsNA IsNs Arms.ways
  constructor
  .rintro rfl;exact .nil
  .intro h;cases h;rfl
 |.cons t xs b r,ws=>by
  unfold IsNA IsNs Arms.ways
  constructor
  .rintro⟨w,ws',rfl,h1,h2⟩
   exact .cons h1 (IsNA.ways.mp h2)
  .intro h
   cases h with
   |cons a c=>exact⟨_,_,rfl,a,IsNA.ways.mpr c⟩
theorem IsN.ways{b:Bd}:IsN ns H R b v↔∃nv,NtL H R (b.mk ns) v nv/\IsNs ns H R b.ways nv:=by
 cases b with
 |give x =>
  unfold IsN Bd.ways
  constructor
  .intro h;exact⟨_,h,.nil⟩
  .rintro⟨nv,h1,h2⟩;cases h2;exact h1
 |lt x d b =>
  unfold IsN Bd.ways
  constructor
  .rintro⟨w,h1,h2⟩;exact⟨_,h1,.cons h2 .nil⟩
  .rintro⟨nv,h1,h2⟩
   cases h2 with
   |cons a c=>cases c;exact⟨_,h1,a⟩
 |iff x a b =>
  unfold IsN Bd.ways
  constructor
  .rintro⟨w,u,h1,h2,h3⟩;exact⟨_,h1,.cons h2 (.cons h3 .nil)⟩
  .rintro⟨nv,h1,h2⟩
   cases h2 with
   |cons a c =>
    cases c with
    |cons d e=>cases e;exact⟨_,_,h1,a,d⟩
 |case x as =>
  unfold IsN Bd.ways
  constructor
  .rintro⟨ws,h1,h2⟩;exact⟨ws,h1,IsNA.ways.mp h2⟩
  .rintro⟨ws,h1,h2⟩;exact⟨ws,h1,IsNA.ways.mpr h2⟩
theorem IsN.nt{b:Bd}(h:IsN ns H R b v):Nt H (b.mk ns) v:=by obtain⟨_,⟨q,l,e,a,_⟩,_⟩:=IsN.ways.mp h;exact⟨q,l,e,a⟩
def IsN0(ns:lS)(H:Hp)(l:Wy)(nv:List V):Prop:=All2 (λ(w:lS×Bd) v=>Nt H (w.2.mk ns) v) l nv
inductive spNoteOf(vs:List V)(H:Hp)(Q:VK)(e_3:XK):Prop
 |mk (p wl nl d:aO) (b:Bd) (ps:List aO) (nv:List V):∀ns:lS,(vs=[.ref p,.ref wl,.ref nl,.ref d])->(IsB H b p)->(H wl=sO (.lst (ps.map V.ref)))->(IsY H b.ways ps)->(H nl=sO (.lst nv))->(IsN0 ns H b.ways nv)->(H d=sO (.dK (yF ns 1)))->(∀H' r,Same H H'->H' r=sO (.tup [.int ((b.mk ns:Nat):Int),.ref nl])->Q (.ref r) H')->spNoteOf vs H Q e_3
theorem Vl{l:Wy}{xs:lS}{b:Bd}(h:l[i]?=sO (xs,b)):accW ns (l.take (i+1)) 0=accW ns (l.take i) 0 ||| dif (b.mk ns) (tog ns xs):=by
 unfold accW;rw[uA,h,List.foldl_append]
 rfl
theorem scNoteOf:FnScope ["body","ways","notes","bits","found","way","note"] lS16 (zq Zl):=.ok
theorem Vm(F:Fun K "note_of" "note_of" Zl f fd)(GT:Ca P w K mg base CX0 1 "together" ["names","bits"] spTog)(GU:Ca P w K mg base CX0 2 "names_used" ["body"] spUsed)(m_zip:mg "zip"=nO):FnOk P w K mg base CX0 3 f fd lS16 spNoteOf:=by
 refine F.by scNoteOf ?_ ?_
 .rintro _ _ _ _ ⟨_,_,_,_,_,_,_,_,rfl,_⟩;rfl
 rintro _ _ _ _ H vs _ _ hr ⟨p,wl,nl,d,b,ps,nv,ns,rfl,hb,hw,hy,hn,hnv,hd,q⟩;have hr1:Room 1 _:=hr.mono b9;refine⟨_,
  (zh (sE 4 scNoteOf.nd zp)
  (zh (z5 PassesOwn.never rfl (yR K rfl m_zip (jA2 (!1) !2)) (zW K rfl (zx (gN 5 scNoteOf.nd) (zx (gN 6 scNoteOf.nd) zV)))
   (zi (sE 4 scNoteOf.nd (zC XC (!4) (zC Wk (zj K !6) (zdn (cA GT hr1 (jA2 (zj K !5) !3))))))))
  (zi (zt (zy (jA2 (zC XC (!4) (cA GT hr1 (jA2 (cA GU hr (jA1 !0)) !3))) !2)))))),?_⟩
 have sl:=zN;have yl:=hy.len;have nl':b.ways.length=nv.length:=All2.len hnv;refine(zv rfl rfl ⟨wl,nl,tU,tU,_,_,rfl,SqK.l hw,SqK.l hn,x8 (xs:=ps.map V.ref) (ys:=nv) bc (λi σ H'=>Same H H'/\∃y z,σ=[sR p,sR wl,sR nl,sR d,sO (.int ((accW ns (b.ways.take i) 0:Nat):Int)),y,z]) ⟨Same.refl _,nO,nO,rfl⟩ (λi σ H' _ h=>⟨SqK.l (h.1 _ _ hw),SqK.l (h.1 _ _ hn)⟩) ?_ ?_⟩)
 .rintro i v1 v2 T σ H1 hv1 hv2 hT ⟨s1,y,z,rfl⟩
  obtain⟨pw,hpw,rfl⟩:=L2.gM hv1;obtain⟨xs,b',q1,r1,e1,e2,e3,e4⟩:=hy.get hpw;obtain⟨w',e1',qn,ln,rfl,en⟩:=All2.get hnv hv2;rw[e1]at e1';cases e1';have s2:=s1.new (o:=.tup [.ref pw,.ref qn]) hT;refine⟨T,¬⟨SqT.of uX9,rfl,_,_,rfl,_,_,rfl,rfl,?_⟩⟩;refine(zv rfl rfl (ixT (s2 _ _ en) aI0 ¬(ixT (s2 _ _ e2) aI0 ¬⟨q1,d,xs,ns,rfl,s2 _ _ e3,s2 _ _ hd,¬(zE rfl rfl (zE rfl rfl ⟨s2,sR pw,sR qn,?_⟩))⟩)));show[_,_,_,_,sO (V.int (Builtin.bitOr _ (Builtin.bitAnd _ _))),_,_]=_;rw[JR,Zy,<- Vl e1]
 .rintro σ H1 ⟨s1,y,z,rfl⟩
  rw[ub,<- yl,um (uk _)];refine(zv rfl rfl ⟨p,b,rfl,hb.keep (.of s1),λH2 qu s2 hqu=>?_⟩);refine¬⟨qu,d,_,ns,rfl,hqu,s2 _ _ (s1 _ _ hd),(zE rfl rfl ¬⟨sN2,λr hr=>?_⟩)⟩;refine q _ r ((s1.trans s2).new hr) ?_;rw[uX9];show sO (HO.tup [V.int (Builtin.bitOr _ _),_])=_;rw[Zy,<- Bd.mk_ways]
def Wl:Expr:=match zP yZ with
 |[_,.Return (sO (.Tuple [_,l] _ _)) _]=>l
 |_=>.Constant .none 0 ⟨0,0,0,0⟩
def zbT:Arguments:=match Wl with
 |.Lambda a _ _ _=>a
 |_=>yi yZ
def JW:Expr:=match Wl with
 |.Lambda _ b _ _=>b
 |e=>e
def JX:Scope:=match Wl with
 |.Lambda _ _ s _=>s
 |_=>zq yZ
def Wm:Pos:=match Wl with
 |.Lambda _ _ _ p=>p
 |_=>⟨0,0,0,0⟩
def Yw:Str:=("begun_note":Str)++(".<locals>.":Str)++("<lambda>":Str)
def cl2(c1 c2 c3:aO):List (Str×aO):=[("ways",c3),("body",c1),("bits",c2)]
abbrev ja(mg:Str->Option aA)(c1 c2 c3 c:aO)(ct:aA):FuncData:=lamC mg Yw zbT JW JX (cl2 c1 c2 c3) c ct
theorem zdq:LamScope ["notes","bits","body","ways"] ["notes"] ["bits","body","ways"] JX:=.ok
theorem JY:∃p0 p1 p2 p3 p4 p5,JW=.Call (.Name "note_of" p0) [.Name "body" p1,.Name "ways" p2,.Name "notes" p3,.Name "bits" p4] [] p5:=⟨_,_,_,_,_,_,rfl⟩
def Clo2(mg:Str->Option aA)(ns:lS)(H:Hp)(R:aO->Prop)(d:aO)(b:Bd)(f:aO):Prop:=∃c1 c2 c3 c ct p wl ps,H f=sO (FunO f (ja mg c1 c2 c3 c ct))/\H c=sO (CodO c Yw)/\Cel H c1 (.ref p)/\Cel H c2 (.ref d)/\Cel H c3 (.ref wl)/\c1≠c2/\c1≠c3/\c2≠c3/\IsB H b p/\H wl=sO (.lst (ps.map V.ref))/\R wl/\IsY H b.ways ps
inductive spLam2(mg:Str->Option aA)(ns:lS)(f:aO)(fd:FuncData)(vs:List V)(H:Hp)(Q:VK)(e_3:XK):Prop
 |mk (nl d c1 c2 c3 c p wl:aO) (ct:aA) (b:Bd) (ps:List aO):∀nv:List V,(vs=[.ref nl])->(fd=ja mg c1 c2 c3 c ct)->(H f=sO (FunO f fd))->(H c=sO (CodO c Yw))->(Cel H c1 (.ref p))->(Cel H c2 (.ref d))->(Cel H c3 (.ref wl))->(c1≠c2)->(c1≠c3)->(c2≠c3)->(IsB H b p)->(H wl=sO (.lst (ps.map V.ref)))->(IsY H b.ways ps)->(H nl=sO (.lst nv))->(IsN0 ns H b.ways nv)->(H d=sO (.dK (yF ns 1)))->(∀H' r,Same H H'->H' r=sO (.tup [.int ((b.mk ns:Nat):Int),.ref nl])->Q (.ref r) H')->spLam2 mg ns f fd vs H Q e_3
theorem clo3{c2 c3:aO}{v1 v2 v3:V}(h1:Cel H c1 v1)(h2:Cel H c2 v2)(h3:Cel H c3 v3)(n1:c1≠c2)(n2:c1≠c3)(n3:c2≠c3):Clo H (cl2 c1 c2 c3) ["bits","body","ways"] [v2,v1,v3]:=by
 have l1:(cl2 c1 c2 c3).lookup ("bits":Str)=sO c2:=rfl;have l2:(cl2 c1 c2 c3).lookup ("body":Str)=sO c1:=rfl;have l3:(cl2 c1 c2 c3).lookup ("ways":Str)=sO c3:=rfl;refine⟨rfl,λp hp=>?_,λi x v e1 e2=>?_,λx hx=>?_,λx y a e1 e2=>?_⟩
 .unfold cl2 at hp
  simp only[uq,Ug,or_false]at hp
  rcases hp with rfl|rfl|rfl
  .exact⟨_,h3⟩
  .exact⟨_,h1⟩
  .exact⟨_,h2⟩
 .match i,e1,e2 with
  |0,e1,e2=>cases e1;cases e2;exact⟨c2,l1,h2⟩
  |1,e1,e2=>cases e1;cases e2;exact⟨c1,l2,h1⟩
  |2,e1,e2=>cases e1;cases e2;exact⟨c3,l3,h3⟩
  |i+3,e1,_=>simp at e1
 .simp only[uq,Ug,or_false]at hx
  rcases hx with rfl|rfl|rfl
  .exact⟨_,l1⟩
  .exact⟨_,l2⟩
  .exact⟨_,l3⟩
 .have m1:=uW e1
  have m2:=uW e2;unfold cl2 at m1 m2;simp only[uq,Prod.mk.injEq,Ug,or_false]at m1 m2
  rcases m1 with⟨rfl,rfl⟩|⟨rfl,rfl⟩|⟨rfl,rfl⟩<;>rcases m2 with⟨rfl,z⟩|⟨rfl,z⟩|⟨rfl,z⟩<;>first|rfl|exact absurd z (by assumption)|exact absurd z.symm (by assumption)
theorem ym(hc:∀a∈as,∃v,Cel H a v):Tups H (yh H as):=λp xs e=>zL hc e nq3
theorem xj(s:Same (yh H as) H'):Same H (xB H' H as):=λb u e=>by
 by_cases z:b∈as
 .rw[wJ z];exact e
 .rw[yQ z];exact s b u (by rw[ya z];exact e)
theorem y0{u:HO}(hn:∀a∈as,H' a=nO)(e:H' b=sO u):xB H' H as b=sO u:=by
 rw[yQ]
 .exact e
 .intro z;rw[hn b z]at e;cases e
theorem za0(GN':Ca P w K mg base CX0 3 "note_of" lS16 spNoteOf)(ns:lS)(f c1 c2 c3 c:aO)(ct:aA):FnOk P w K mg base CX0 4 f (ja mg c1 c2 c3 c ct) ["notes"] (spLam2 mg ns f (ja mg c1 c2 c3 c ct)):=by
 refine Zg (k:=3) zdq (λvs H Q E h=>?_) (λA outer s H vs Q E hr h=>?_)
 .obtain⟨nl,d,_,_,_,_,p,wl,_,b,ps,nv,rfl,_⟩:=h
  rfl
 .obtain⟨nl,d,d1,d2,d3,d0,p,wl,ct',b,ps,nv,rfl,efd,hf,hc,h1,h2,h3,n1,n2,n3,hb,hw,hy,hn,hnv,hd,q⟩:=h
  have ecl:cl2 c1 c2 c3=cl2 d1 d2 d3:=congrArg FuncData.closure efd;have ec:Value.ref c=Value.ref d0:=congrArg FuncData.code efd;cases ec;have e3:c3=d3:=by injection ecl with a b;exact(Prod.mk.inj a).2
  have e1:c1=d1:=by injection ecl with a b;injection b with a b;exact(Prod.mk.inj a).2
  have e2:c2=d2:=by injection ecl with a b;injection b with a b;injection b with a b;exact(Prod.mk.inj a).2
  subst e1;subst e2;subst e3;refine⟨hf,hc,_,clo3 h1 h2 h3 n1 n2 n3,?_⟩;obtain⟨p0,p1,p2,p3,p4,p5,eb⟩:=JY;rw[eb];have hcA:∀a∈(cl2 c1 c2 c3).map (·.2),∃v,Cel H a v:=λa ha=>by
   obtain⟨p,hp,rfl⟩:=uz.mp ha;exact(clo3 h1 h2 h3 n1 n2 n3).all p hp
  have tp:=ym hcA;have ml:∀{b:aO}{xs:List V},H b=sO (.lst xs)->yh H ((cl2 c1 c2 c3).map (·.2)) b=sO (.lst xs):=λe=>zL hcA e nq3;refine⟨_,(cA GN' hr (jA4 (!2) (!3) (!0) !1)),?_⟩;refine(zv rfl rfl (zv rfl rfl ⟨p,wl,nl,d,b,ps,nv,ns,rfl,hb.keep tp,ml hw,hy.keep tp,ml hn,hnv.imp λ_ _ h=>h.keep tp,zL hcA hd nq3,λH' r s1 hr1 hnn=>?_⟩));exact q _ r (xj s1) (y0 hnn hr1)
theorem za1(c1 c2 c3 c:aO)(ct:aA):Binds K (ja mg c1 c2 c3 c ct) ["notes"] []:=.all λus hl=>match us,hl with|[_],_=>rfl
theorem Pub.same{H3:Hp}(h:Pub H H3 cvs):Same H H3:=λb u e=>by
 rw[h.old b]
 .exact e
 .intro z
  obtain⟨p,hp,rfl⟩:=uz.mp z;rw[h.non p hp]at e;cases e
def ls2:List (Pos×Str):=[(Wm,Yw)]
def IsKs(H:Hp)(l:Wy)(vs:List V):Prop:=All2 (λ(w:lS×Bd) v=>∃p,v=.ref p/\IsB H w.2 p) l vs
inductive spBegNote(mg:Str->Option aA)(T:aO)(vs:List V)(H:Hp)(Q:VK)(e_3:XK):Prop
 |mk (p d:aO) (b:Bd):∀ns:lS,(vs=[.ref p,.ref d])->(IsB H b p)->(b.sz<=1000000)->(TbG T ls2 H)->(∀H' q l fl wl vs,KM (·=T) H H'->TbG T ls2 H'->H' q=sO (.tup [.ref l,.ref fl])->H l=nO->H' l=sO (.lst vs)->IsKs H' b.ways vs->H wl=nO->(∃xs,H' wl=sO (.lst xs))->(∀R:aO->Prop,R wl->Clo2 mg ns H' R d b fl)->Q (.ref q) H')->spBegNote mg T vs H Q e_3
theorem scBegNote:FnScope ["body","bits","ways"] lS12 (zq yZ):=.ok
theorem Vn:(["body","bits","ways","way"]:lS).Nodup:=be
theorem XE(F:FunC K "begun_note" yZ c f fd)(hB:BMn mg base)(hc:u6 K c T=tU)(GW:Ca P w K mg base CX0 1 "ways_on" ["body"] spWays):FnOk P w K mg base CX0 2 f fd lS12 (spBegNote mg T):=by
 refine F.byR scBegNote (λvs H Q E h=>?_) (λA outer s H vs Q E hr h fresh=>?_)
 .obtain⟨p,d,b,ns,rfl,_⟩:=h
  rfl
 obtain⟨p,d,b,ns,rfl,hb,hz,hT,q⟩:=h;refine⟨_,
  (z6 (sE 2 scBegNote.nd (cA GW hr (jA1 !0)))
  (xV (zy (ja_c (yn ["way"] rfl (zU K !2) (λ_ _ _ _ _=>(gN 3 Vn)) (λ_ _ _ _ _=>zZ) (λ_ _ _ _ _=>(zj K !3)))
   (jA1 (xu (params:=zbT) (body:=JW) (scope:=JX) (pos:=Wm) (T:=T) (qual:=Yw) (cl:=cl2 (s.heap.objs.size+1) (s.heap.objs.size+2) (s.heap.objs.size+3)) hB rfl hc rfl)))))),?_⟩
 have sl:=zN;refine¬⟨p,b,rfl,hb,hz,λH1 wl ps s1 hwl hwl1 hy=>?_⟩;have yl:=hy.len;have wl1:=Yu b.ways;have wl2:=Bd.wsz b;refine¬⟨wl,rfl,⟨_,SqL.of hwl1⟩,yy (xs:=ps.map V.ref) (λj τ ys H'=>H1=H'/\(∃v,τ=[sR p,sR d,sR wl,v])/\IsKs H1 (b.ways.take j) ys) ⟨rfl,⟨nO,rfl⟩,.nil⟩ (λj τ ys H' _ h=>SqL.of (h.1 ▸ hwl1)) ?_ ?_⟩
 .rintro j v τ ys H2 hv ⟨rfl,⟨v',rfl⟩,hk⟩
  obtain⟨pw,hpw,rfl⟩:=L2.gM hv;obtain⟨xs,b',q1,r1,e1,e2,e3,e4⟩:=hy.get hpw;have kl:=All2.len hk;rw[uv]at kl;refine¬(ixT e2 aI1 ⟨by have:=(uf.mp e1).1;lia,rfl,⟨_,rfl⟩,?_⟩);rw[uA,e1];exact All2.app hk (.cons ⟨r1,rfl,e4⟩ .nil)
 rintro τ ys H2 ⟨rfl,_,hk⟩ l hl;rw[ub,<- yl,um (uk _)]at hk;have s2:=zn (o:=.lst ys) hl;have hTb:TbG T ls2 (upd H1 l (.lst ys)):=hT.keep (λps e=>s2 _ _ (s1 _ _ e)) (λc q e=>s2 _ _ (s1 _ _ e));refine yX hTb (by unfold ls2;exact .head _) (λp hp _=>by unfold ls2 at hp;rw[ut.mp hp]) λH3 fl cc ct k3 T3 hfl nfT ncT hfl3 hcc=>?_;refine⟨sN2,λr hr=>?_⟩;have nlT:∀{b:aO}{u:HO},upd H1 l (.lst ys) b=sO u->(∀ps,u≠.tbl ps)->b≠T:=λ{b u} e n z=>by
  obtain⟨ps,h,_⟩:=hTb;rw[z,h]at e;exact n _ (u4.inj e).symm
 have k4:∀b u,b≠T->upd H1 l (.lst ys) b=sO u->upd H3 r (.tup [.ref l,.ref fl]) b=sO u:=λb u n e=>by
  rw[zo (zk (k3 b u n e) hr)];exact k3 b u n e
 have t4:Tups (upd H1 l (.lst ys)) (upd H3 r (.tup [.ref l,.ref fl])):=λb xs e=>k4 b _ (nlT e nq) e;have T4:TbG T ls2 (upd H3 r (.tup [.ref l,.ref fl])):=T3.keep (λps e=>old hr e) (λc q e=>old hr e);have e_l:=k4 l _ (nlT uX9 nq) uX9;have e_w:=k4 wl _ (nlT (s2 _ _ hwl1) nq) (s2 _ _ hwl1);have k04:KM (·=T) H (upd H3 r (.tup [.ref l,.ref fl])):=λb u n e=>k4 b u n (s2 _ _ (s1 _ _ e));have tp04:Tups H1 (upd H3 r (.tup [.ref l,.ref fl])):=λb xs e=>t4 b xs (s2 _ _ e);have hr4:=uX9 (H:=H3) (a:=r) (o:=.tup [.ref l,.ref fl]);have hfl4:=old (o:=.tup [.ref l,.ref fl]) hr hfl3;have hcc4:=old (o:=.tup [.ref l,.ref fl]) hr hcc;generalize upd H3 r (.tup [.ref l,.ref fl])=H4 at *;refine⟨[(s.heap.objs.size+1,.ref p),(s.heap.objs.size+2,.ref d),(s.heap.objs.size+3,.ref wl)],λx hx=>?_,λH5 pb=>?_⟩
 .simp only[uq,Ug,or_false]at hx
  rcases hx with rfl|rfl|rfl
  .exact⟨0,"body",rfl,rfl,rfl,.inl rfl⟩
  .exact⟨1,"bits",rfl,rfl,rfl,.inl rfl⟩
  .exact⟨2,"ways",rfl,rfl,rfl,.inl rfl⟩
 have s5:=Pub.same pb;refine q H5 r l fl wl ys (k04.trans (.of s5)) (T4.keep (λps e=>s5 _ _ e) λc q e=>s5 _ _ e) (s5 _ _ hr4) (s1.free hl) (s5 _ _ e_l) (hk.imp λ_ _ ⟨p,e,h⟩=>⟨p,e,h.keep (tp04.trans (.of s5))⟩) hwl ⟨_,s5 _ _ e_w⟩ λR hR=>?_;exact⟨_,_,_,cc,ct,p,wl,ps,s5 _ _ hfl4,s5 _ _ hcc4,pb.cel (_,_) (.head _),pb.cel (_,_) (.tail _ (.head _)),pb.cel (_,_) (.tail _ (.tail _ (.head _))),ba,ba,ba,hb.keep ((Tups.of s1).trans (tp04.trans (.of s5))),s5 _ _ e_w,hR,hy.keep (tp04.trans (.of s5))⟩
def Wn:Expr:=match zP w5 with
 |[.Return (sO (.Call _ [_,l] _ _)) _]=>l
 |_=>.Constant .none 0 ⟨0,0,0,0⟩
def zbU:Arguments:=match Wn with
 |.Lambda a _ _ _=>a
 |_=>yi w5
def JZ:Expr:=match Wn with
 |.Lambda _ b _ _=>b
 |e=>e
def J0:Scope:=match Wn with
 |.Lambda _ _ s _=>s
 |_=>zq w5
def Wp:Pos:=match Wn with
 |.Lambda _ _ _ p=>p
 |_=>⟨0,0,0,0⟩
def Yx:Str:=("noted":Str)++(".<locals>.":Str)++("<lambda>":Str)
def ls1:List (Pos×Str):=[(Wp,Yx)]
def cl1(c0:aO):List (Str×aO):=[("bits",c0)]
abbrev jb(mg:Str->Option aA)(c0 c:aO)(ct:aA):FuncData:=lamC mg Yx zbU JZ J0 (cl1 c0) c ct
theorem zdr:LamScope ["task","bits"] ["task"] ["bits"] J0:=.ok
theorem J1:∃p0 p1 p2 p3,JZ=.Call (.Name "begun_note" p0) [.Name "task" p1,.Name "bits" p2] [] p3:=⟨_,_,_,_,rfl⟩
theorem clo1{v1:V}(h1:Cel H c1 v1):Clo H (cl1 c1) ["bits"] [v1]:=by
 have l1:(cl1 c1).lookup ("bits":Str)=sO c1:=rfl;refine⟨rfl,λp hp=>?_,λi x v e1 e2=>?_,λx hx=>?_,λx y a e1 e2=>?_⟩
 .unfold cl1 at hp
  rw[ut.mp hp];exact⟨_,h1⟩
 .match i,e1,e2 with
  |0,e1,e2=>cases e1;cases e2;exact⟨c1,l1,h1⟩
  |i+1,e1,_=>simp at e1
 .rw[ut.mp hx]
  exact⟨_,l1⟩
 .have m1:=uW e1
  have m2:=uW e2;unfold cl1 at m1 m2;rw[ut]at m1 m2;exact(Prod.mk.inj m1).1.trans (Prod.mk.inj m2).1.symm
theorem Clo2.same{b:Bd}(h:Clo2 mg ns H R d b f)(s:Same H H'):Clo2 mg ns H' R d b f:=by
 obtain⟨c1,c2,c3,c,ct,p,wl,ps,h1,h2,⟨o3,h3⟩,⟨o4,h4⟩,⟨o5,h5⟩,n1,n2,n3,h6,h7,h8,h9⟩:=h;exact⟨c1,c2,c3,c,ct,p,wl,ps,s _ _ h1,s _ _ h2,⟨o3,s _ _ h3⟩,⟨o4,s _ _ h4⟩,⟨o5,s _ _ h5⟩,n1,n2,n3,h6.keep (.of s),s _ _ h7,h8,h9.keep (.of s)⟩
inductive spLam1(mg:Str->Option aA)(T:aO)(ns:lS)(f:aO)(fd:FuncData)(vs:List V)(H:Hp)(Q:VK)(e_3:XK):Prop
 |mk (p d c0 c:aO) (ct:aA):∀b:Bd,(vs=[.ref p])->(fd=jb mg c0 c ct)->(H f=sO (FunO f fd))->(H c=sO (CodO c Yx))->(Cel H c0 (.ref d))->(IsB H b p)->(b.sz<=1000000)->(TbG T ls2 H)->(∀H' q l fl wl vs,KM (·=T) H H'->TbG T ls2 H'->H' q=sO (.tup [.ref l,.ref fl])->H l=nO->H' l=sO (.lst vs)->IsKs H' b.ways vs->H wl=nO->(∃xs,H' wl=sO (.lst xs))->(∀R:aO->Prop,R wl->Clo2 mg ns H' R d b fl)->Q (.ref q) H')->spLam1 mg T ns f fd vs H Q e_3
theorem za2(GB:Ca P w K mg base CX0 2 "begun_note" lS12 (spBegNote mg T))(ns:lS)(f c0 c:aO)(ct:aA):FnOk P w K mg base CX0 3 f (jb mg c0 c ct) ["task"] (spLam1 mg T ns f (jb mg c0 c ct)):=by
 refine Zg (k:=2) zdr (λvs H Q E h=>?_) (λA outer s H vs Q E hr h=>?_)
 .obtain⟨p,d,_,_,_,b,rfl,_⟩:=h
  rfl
 .obtain⟨p,d,d1,d0,ct',b,rfl,efd,hf,hc,h1,hb,hz,hT,q⟩:=h
  have ecl:cl1 c0=cl1 d1:=congrArg FuncData.closure efd;have ec:Value.ref c=Value.ref d0:=congrArg FuncData.code efd;cases ec;have e1:c0=d1:=by injection ecl with a b;exact(Prod.mk.inj a).2
  subst e1;refine⟨hf,hc,_,clo1 h1,?_⟩;obtain⟨p0,p1,p2,p3,eb⟩:=J1;rw[eb];have hcA:∀a∈(cl1 c0).map (·.2),∃v,Cel H a v:=λa ha=>by
   obtain⟨p,hp,rfl⟩:=uz.mp ha;exact(clo1 h1).all p hp
  have tp:=ym hcA;refine⟨_,(cA GB hr (jA2 (!0) !1)),?_⟩;refine(zv rfl rfl ⟨p,d,b,ns,rfl,hb.keep tp,hz,hT.keep (λps e=>zL hcA e nq3) (λc q e=>zL hcA e nq3),λH' r l fl wl vs k1 T1 hr1 hl hl1 hk hwl hwl1 hclo hnn=>?_⟩);have sp:Same H' (xB H' H ((cl1 c0).map (·.2))):=λb u e=>y0 hnn e;obtain⟨xs,hwl2⟩:=hwl1;have out:∀{b:aO}{u:HO},H' b=sO u->yh H ((cl1 c0).map (·.2)) b=nO->H b=nO:=λ{b u} e n=>by
   rw[ya]at n
   .exact n
   .intro z;rw[hnn b z]at e;cases e
  refine q _ r l fl wl vs (λb u n e=>?_) (T1.keep (λps e=>sp _ _ e) λc q e=>sp _ _ e) (sp _ _ hr1) (out hl1 hl) (sp _ _ hl1) (hk.imp λ_ _ ⟨p,e,h⟩=>⟨p,e,h.keep (.of sp)⟩) (out hwl2 hwl) ⟨xs,sp _ _ hwl2⟩ λR hR=>(hclo R hR).same sp;by_cases z:b∈(cl1 c0).map (·.2)
  .rw[wJ z];exact e
  .rw[yQ z]
   exact k1 b u n (by rw[ya z];exact e)
theorem za3(c0 c:aO)(ct:aA):Binds K (jb mg c0 c ct) ["task"] []:=.all (us1 λ_=>rfl)
theorem All2.mapl{α β γ:Type}{F:α->β->Prop}{g:γ->α}:∀{l:List γ}{m:List β},All2 (λc b=>F (g c) b) l m->All2 F (l.map g) m
 |_,_,.nil=>.nil
 |_,_,.cons a r=>.cons a (All2.mapl r)
theorem All2.unmapl{α β γ:Type}{F:α->β->Prop}{g:γ->α}:∀{l:List γ}{m:List β},All2 F (l.map g) m->All2 (λc b=>F (g c) b) l m
 |[],_,.nil=>.nil
 |_::_,_,.cons a r=>.cons a (All2.unmapl r)
theorem J2:∀{l:Wy}{w:lS×Bd},w∈l->w.2.sz<=wsz l
 |p::l,w,h=>by
  unfold wsz;rw[uB,Uw];rcases uq.mp h with rfl|h
  .lia
  .have:=J2 h
   unfold wsz at this;lia
theorem All2.memP{α β:Type}{F:α->β->Prop}{Pr:α->Prop}:∀{l:List α}{m:List β},All2 F l m->(∀a∈l,Pr a)->All2 (λa b=>Pr a/\F a b) l m
 |_,_,.nil,_=>.nil
 |_,_,.cons a r,h=>.cons ⟨h _ (.head _),a⟩ (All2.memP r λa ha=>h a (.tail _ ha))
structure NOk(mg:Str->Option aA)(T1 T2 d fl c0 cc:aO)(ct:aA)(ns:lS)(H:Hp):Prop where
 t1:TbG T1 ls1 H
 t2:TbG T2 ls2 H
 hd:H d=sO (.dK (yF ns 1))
 f:H fl=sO (FunO fl (jb mg c0 cc ct))
 c:H cc=sO (CodO cc Yx)
 cel:Cel H c0 (.ref d)
theorem NOk.keep(h:NOk mg T1 T2 d fl c0 cc ct ns H)(h1:TbG T1 ls1 H')(h2:TbG T2 ls2 H')(k:∀b u,H b=sO u->(∀ps,u≠.tbl ps)->(∀xs,u≠.lst xs)->H' b=sO u):NOk mg T1 T2 d fl c0 cc ct ns H' :=
 ⟨h1,h2,k _ _ h.hd nq nq,k _ _ h.f nq nq,k _ _ h.c nq nq,let ⟨o,e⟩:=h.cel;⟨o,k _ _ e nq nq⟩⟩
theorem NOk.noM(h:NOk mg T1 T2 d fl c0 cc ct ns H){u:HO}(e:H b=sO u)(n:∀ps,u≠.tbl ps):Not (b=T1\/b=T2):=by
 rintro(z|z)
 .obtain⟨ps,q,_⟩:=h.t1
  rw[z,q]at e;exact n _ (u4.inj e).symm
 .obtain⟨ps,q,_⟩:=h.t2
  rw[z,q]at e;exact n _ (u4.inj e).symm
theorem NOk.tups(h:NOk mg T1 T2 d fl c0 cc ct ns H)(z:Kz (λb=>b=T1\/b=T2) R H H'):Tups H H':=λb xs e=>z b _ e (h.noM e nq) (by intro _ z;cases z)
theorem Yy{T:Type}:∀(l:List T),Chn (λ_=>()) (λ_=>()) () l ()
 |[]=>rfl
 |_::l=>⟨rfl,Yy l⟩
def za4(nT:T1≠T2)(GB:Ca P w K mg base CX0 2 "begun_note" lS12 (spBegNote mg T2))(GO:Ca P w K mg base CX0 3 "note_of" lS16 spNoteOf)(d fl c0 cc:aO)(ct:aA)(ns:lS):WoD P w K mg base 4 where
 Tk:=Bd
 M:=λb=>b=T1\/b=T2
 fb:=fl
 wt:=λb=>2*b.sz
 kids:=λb=>b.ways.map (·.2)
 wk:=λb=>by
  have h:=Bd.wsz b;have e:∀l:Wy,((l.map (·.2)).map λb:Bd=>2*b.sz).sum=2*wsz l:=by
   intro l
   induction l with
   |nil=>rfl
   |cons p l ih =>
    unfold wsz at ih ⊢;rw[uB,uB,uB,Uw,Uw,ih];lia
  rw[e];lia
 IT:=λH _ b v=>b.sz<=1000000/\∃p,v=.ref p/\IsB H b p
 IR:=λH R b v=>IsN ns H R b v
 IF:=λH R b v=>∃f,v=.ref f/\Clo2 mg ns H R d b f
 S:=Unit
 pre:=λ_=>()
 mid:=λ_=>()
 post:=λ_=>()
 chn:=λt=>Yy _
 Ok:=λ_=>NOk mg T1 T2 d fl c0 cc ct ns
 itk:=λ⟨h,p,e,hb⟩ ok z _=>⟨h,p,e,hb.keep (ok.tups z)⟩
 irk:=λh ok z sub=>h.keep ⟨ok.tups z,λa xs ra e=>z a _ e (ok.noM e nq) λ_ _=>ra,sub⟩
 ifk:=λ{H H' R R' t v _} hh ok z sub=>by
  obtain⟨f,e,c1,c2,c3,c,ct,p,wl,ps,h1,h2,⟨o3,h3⟩,⟨o4,h4⟩,⟨o5,h5⟩,n1,n2,n3,h6,h7,h8,h9⟩:=hh;have g:∀b u,H b=sO u->(∀ps,u≠.tbl ps)->(∀xs,u≠.lst xs)->H' b=sO u:=λb u e n1 n2=>z b u e (ok.noM e n1) λxs q=>absurd q (n2 xs);exact⟨f,e,c1,c2,c3,c,ct,p,wl,ps,g _ _ h1 nq nq,g _ _ h2 nq nq,⟨o3,g _ _ h3 nq nq⟩,⟨o4,g _ _ h4 nq nq⟩,⟨o5,g _ _ h5 nq nq⟩,n1,n2,n3,h6.keep (ok.tups z),z _ _ h7 (ok.noM h7 nq) (λ_ _=>h8),sub _ h8,h9.keep (ok.tups z)⟩
 okk:=λ{H H' _} ok z=>by
  have g:∀b u,H b=sO u->(∀xs,u≠.lst xs)->H' b=sO u:=λb u e n=>z b u e λxs q=>absurd q (n xs);exact ok.keep (ok.t1.keep (λps e=>g _ _ e nq) λc q e=>g _ _ e nq) (ok.t2.keep (λps e=>g _ _ e nq) λc q e=>g _ _ e nq) λb u e _ n=>g b u e n
 okM:=λ{H b _} ok z=>by
  rcases z with z|z
  .obtain⟨ps,q,_⟩:=ok.t1
   rw[z,q];simp
  .obtain⟨ps,q,_⟩:=ok.t2
   rw[z,q];simp
 beg:=λ{H R t v Q}⟨hz,p,e,hb⟩ ok hRd hRM q=>by
  subst e;refine⟨_,_,_,(za2 GB ns fl c0 cc ct).mono b9,za3 c0 cc ct,⟨p,d,c0,cc,ct,t,rfl,rfl,ok.f,ok.c,ok.cel,hb,hz,ok.t2,λH' r l f2 wl vs k1 t2 hr hl hl1 hk hwl ⟨xs,hwl1⟩ hclo=>?_⟩,.inl ok.f⟩;have ok':NOk mg T1 T2 d fl c0 cc ct ns H':=by
   refine ok.keep (ok.t1.keep (λps e=>k1 _ _ nT e) λc q e=>k1 _ _ (λz=>ok.noM e nq (.inr z)) e) t2 λb u e n _=>k1 b u (λz=>ok.noM e n (.inr z)) e
  refine q H' r l f2 vs (λb=>R b\/b=l\/b=wl) (λb u n e=>k1 b u (λz=>n (.inr z)) e) ok' hr hl hl1 (λ_ z=>.inl z) ?_ ?_ (.inr (.inl rfl)) ?_ ⟨f2,rfl,hclo _ (.inr (.inr rfl))⟩
  .rintro b (z|rfl|rfl)
   .exact .inl z
   .exact .inr hl
   .exact .inr hwl
  .rintro b (z|rfl|rfl)
   .cases e:H b with
    |none=>exact absurd e (hRd b z)
    |some u=>rw[k1 b u (λy=>hRM b z (.inr y)) e];simp
   .rw[hl1];simp
   .rw[hwl1];simp
  .refine All2.mapl ((All2.memP hk (Pr:=λw:lS×Bd=>w.2.sz<=1000000) λa ha=>?_).imp λa b h=>h)
   have:=J2 ha
   have:=Bd.wsz t
   lia
 fin:=λ{H R t f2 rl rs Q} hh ok hRd hRM hRr hrl hrs q=>by
  obtain⟨f,e,c1,c2,c3,c,ct',p,wl,ps,h1,h2,h3,h4,h5,n1,n2,n3,h6,h7,h8,h9⟩:=hh;cases e;refine⟨_,_,_,za0 GO ns f2 c1 c2 c3 c ct',za1 c1 c2 c3 c ct',⟨rl,d,c1,c2,c3,c,p,wl,ct',t,ps,rs,rfl,rfl,h1,h2,h3,h4,h5,n1,n2,n3,h6,h7,h9,hrl,(All2.unmapl hrs).imp λ_ _ h=>IsN.nt h,ok.hd,λH' r s1 hr=>?_⟩,.inl h1⟩;refine q H' (.ref r) R (.of s1) ?_ (λ_ z=>z) (λ_ z=>.inl z) ?_ (IsN.ways.mpr ⟨rs,⟨r,rl,rfl,hr,hRr,s1 _ _ hrl⟩,(All2.unmapl hrs).imp λ_ _ h=>IsN.keep ⟨.of s1,λa xs _ e=>s1 _ _ e,λ_ z=>z⟩ h⟩)
  .exact ok.keep (ok.t1.keep (λps e=>s1 _ _ e) λc q e=>s1 _ _ e) (ok.t2.keep (λps e=>s1 _ _ e) λc q e=>s1 _ _ e) λb u e _ _=>s1 b u e
  .intro b z
   cases e:H b with
   |none=>exact absurd e (hRd b z)
   |some u=>rw[s1 b u e];simp
structure Tbs(T1 T2:aO)(H:Hp):Prop where
 t1:TbG T1 ls1 H
 t2:TbG T2 ls2 H
theorem Tbs.same(h:Tbs T1 T2 H)(s:Same H H'):Tbs T1 T2 H':=⟨h.t1.keep (λps e=>s _ _ e) λc q e=>s _ _ e,h.t2.keep (λps e=>s _ _ e) λc q e=>s _ _ e⟩
def MT(T1 T2 b:aO):Prop:=b=T1\/b=T2
inductive spNoted(T1 T2:aO)(vs:List V)(H:Hp)(Q:VK)(e_3:XK):Prop
 |mk (p d:aO) (b:Bd):∀ns:lS,(vs=[.ref p,.ref d])->(IsB H b p)->(b.sz<=400000)->(H d=sO (.dK (yF ns 1)))->(Tbs T1 T2 H)->(∀H' v R,KM (MT T1 T2) H H'->Tbs T1 T2 H'->IsN ns H' R b v->Q v H')->spNoted T1 T2 vs H Q e_3
theorem scNoted:FnScope lS12 lS12 (zq w5):=.ok
theorem J3(F:FunC K "noted" w5 c f fd)(hB:BMn mg base)(hc:u6 K c T1=tU)(nT:T1≠T2)(GB:Ca P w K mg base CX0 2 "begun_note" lS12 (spBegNote mg T2))(GO:Ca P w K mg base CX0 3 "note_of" lS16 spNoteOf)(GW:Ca P w K mg base CX0 5 "worked_out" ["task","begin"] (spWorked P w K mg base 4)):FnOk P w K mg base CX0 6 f fd lS12 (spNoted T1 T2):=by
 refine F.by scNoted ?_ ?_
 .rintro _ _ _ _ ⟨_,_,_,_,rfl,_⟩;rfl
 rintro _ _ s H vs _ E hr ⟨p,d,b,ns,rfl,hb,hz,hd,hT,q⟩;refine⟨_,
  (zi (zt (Jl (E:=E0) GW hr scNoted.nd rfl (λ_=>rfl) (jA2 (!0) (xu (params:=zbU) (body:=JZ) (scope:=J0) (pos:=Wp) (T:=T1) (qual:=Yx) (cl:=cl1 (s.heap.objs.size+1)) hB rfl hc rfl))))),?_⟩
 refine¬(yX hT.t1 (by unfold ls1;exact .head _) (λp hp _=>by unfold ls1 at hp;rw[ut.mp hp]) λH1 fl cc ct k1 T1' hfl nfT ncT hfl1 hcc=>?_);have noT1:∀{b:aO}{u:HO},H b=sO u->(∀ps,u≠.tbl ps)->b≠T1:=λ{b u} e n z=>by
  obtain⟨ps,h,_⟩:=hT.t1;rw[z,h]at e;exact n _ (u4.inj e).symm
 have tp1:Tups H H1:=λb xs e=>k1 b _ (noT1 e nq) e;have T2':TbG T2 ls2 H1:=hT.t2.keep (λps e=>k1 _ _ nT.symm e) λc q e=>k1 _ _ (noT1 e nq) e;refine⟨[(s.heap.objs.size+1,.ref d)],λx hx=>?_,λH3 pb=>?_⟩
 .rw[ut.mp hx]
  exact⟨1,"bits",rfl,rfl,rfl,.inl rfl⟩
 have s3:=Pub.same pb;have ok3:NOk mg T1 T2 d fl (s.heap.objs.size+1) cc ct ns H3:=⟨T1'.keep (λps e=>s3 _ _ e) λc q e=>s3 _ _ e,T2'.keep (λps e=>s3 _ _ e) λc q e=>s3 _ _ e,s3 _ _ (k1 _ _ (noT1 hd nq) hd),s3 _ _ hfl1,s3 _ _ hcc,pb.cel (_,_) (.head _)⟩;refine⟨za4 nT GB GO d fl (s.heap.objs.size+1) cc ct ns,.ref p,b,λ_=>False,rfl,⟨b8,p,rfl,hb.keep (tp1.trans (.of s3))⟩,ok3,λ_ z=>z.elim,λ_ z=>z.elim,?_,.inl ⟨⟨_,ok3.f⟩,ok3.noM ok3.f nq⟩,λH4 v R' k4 ok4 _ hv hcel=>?_⟩
 .show 2*b.sz<=10000000
  lia
 have hcA:∀a∈([(s.heap.objs.size+1,V.ref d)]:List (aO×V)).map (·.1),∃v,Cel H4 a v:=λa ha=>by
  obtain⟨x,hx,rfl⟩:=uz.mp ha;exact⟨_,hcel x hx⟩
 refine q _ v R' (λb u n e=>?_) ⟨ok4.t1.keep (λps e=>zL hcA e nq3) λc q e=>zL hcA e nq3,ok4.t2.keep (λps e=>zL hcA e nq3) λc q e=>zL hcA e nq3⟩ (IsN.keep ⟨ym hcA,λa xs _ e=>zL hcA e nq3,λ_ z=>z⟩ hv);have e1:=k1 b u (λz=>n (.inl z)) e;rw[ya]
 .exact k4 b u n (s3 _ _ e1)
 .intro z
  obtain⟨x,hx,rfl⟩:=uz.mp z;rw[pb.non x hx]at e1;cases e1
end
mutual
inductive Hc
 |give (x:Str)
 |lt (x:Str) (d:De) (b:Hc)
 |hold (n x:Str) (b:Hc)
 |drop (x:Str) (b:Hc)
 |iff (x:Str) (a b:Hc)
 |case(x:Str) (as:Ha)
inductive Ha
 |nil
 |cons (t:Str) (ns:lS) (m:Bool) (b:Hc) (r:Ha)
end
def xa(m:Bool):Str:=if m then "take"else "look"
def IsHd(H:Hp):De->aO->Prop
 |.num i,p=>H p=sO (.tup [.str "num",.int i])
 |.op w a b,p=>H p=sO (.tup [.str "op",.str w,.str a,.str b])
 |.app w f xs,p=>∃q,H p=sO (.tup (if w="make"then[.str w,.str f,.ref q,.str ""]else[.str w,.str f,.ref q]))/\H q=sO (.tup (xs.map V.str))
theorem IsHd.keep(t:Tups H H'):∀{d:De}{p:aO},IsHd H d p->IsHd H' d p
 |.num _,_,h=>t _ _ h
 |.op _ _ _,_,h=>t _ _ h
 |.app _ _ _,_,⟨q,h1,h2⟩=>⟨q,t _ _ h1,t _ _ h2⟩
mutual
def IsHc(H:Hp):Hc->V->Prop
 |.give x,v=>∃p,v=.ref p/\H p=sO (.tup [.str "give",.str x])
 |.lt x d b,v=>∃p q u,v=.ref p/\H p=sO (.tup [.str "let",.str x,.ref q,u])/\IsHd H d q/\IsHc H b u
 |.hold n x b,v=>∃p u,v=.ref p/\H p=sO (.tup [.str "hold",.str n,.str x,u])/\IsHc H b u
 |.drop x b,v=>∃p u,v=.ref p/\H p=sO (.tup [.str "drop",.str x,u])/\IsHc H b u
 |.iff x a b,v=>∃p u1 u2,v=.ref p/\H p=sO (.tup [.str "if",.str x,u1,u2])/\IsHc H a u1/\IsHc H b u2
 |.case x as,v=>∃p q vs,v=.ref p/\H p=sO (.tup [.str "case",.str x,.ref q])/\H q=sO (.tup vs)/\IsHa H as vs
def IsHa(H:Hp):Ha->List V->Prop
 |.nil,vs=>vs=[]
 |.cons t ns m b r,vs=>∃p q u vs',vs=.ref p::vs'/\H p=sO (.tup [.str t,.ref q,.str (xa m),.str "",u])/\H q=sO (.tup (ns.map V.str))/\IsHc H b u/\IsHa H r vs'
end
mutual
theorem IsHc.keep{H H':Hp}(t:Tups H H'):∀{c:Hc}{v:V},IsHc H c v->IsHc H' c v
 |.give _,_,⟨p,e,h⟩=>⟨p,e,t _ _ h⟩
 |.lt _ _ _,_,⟨p,q,u,e,h,d,b⟩=>⟨p,q,u,e,t _ _ h,IsHd.keep t d,IsHc.keep t b⟩
 |.hold _ _ _,_,⟨p,u,e,h,b⟩=>⟨p,u,e,t _ _ h,IsHc.keep t b⟩
 |.drop _ _,_,⟨p,u,e,h,b⟩=>⟨p,u,e,t _ _ h,IsHc.keep t b⟩
 |.iff _ _ _,_,⟨p,u1,u2,e,h,a,b⟩=>⟨p,u1,u2,e,t _ _ h,IsHc.keep t a,IsHc.keep t b⟩
 |.case _ _,_,⟨p,q,vs,e,h,h2,a⟩=>⟨p,q,vs,e,t _ _ h,t _ _ h2,IsHa.keep t a⟩
theorem IsHa.keep{H H':Hp}(t:Tups H H'):∀{c:Ha}{v:List V},IsHa H c v->IsHa H' c v
 |.nil,_,h=>h
 |.cons _ _ _ _ _,_,⟨p,q,u,vs,e,h,h2,b,a⟩=>⟨p,q,u,vs,e,t _ _ h,t _ _ h2,IsHc.keep t b,IsHa.keep t a⟩
end
noncomputable def nnm (x:Str) (m:Nat):Str:=Str.empty++x ++ "." ++ Str.ofString (toString ((m:Nat):Int))
abbrev SpR:=lS×List (Str×Str)×Nat
def spS(fr:lS)(s:SpR)(x:Str):SpR:=if x∈fr/\x∉s.1 then(s.1++[x],s.2.1,s.2.2)else(s.1++[nnm x (s.2.2+1)],s.2.1++[(nnm x (s.2.2+1),x)],s.2.2+1)
def spn(fr xs:lS)(m:Nat):SpR:=xs.foldl (spS fr) ([],[],m)
theorem J4{fr xs:lS}(h:xs[i]?=sO x):spn fr (xs.take (i+1)) m=spS fr (spn fr (xs.take i) m) x:=by
 unfold spn;rw[uA,h,List.foldl_append]
 rfl
theorem za5(fr:lS)(s:SpR)(x:Str):(spS fr s x).1.length=s.1.length+1/\s.2.2<=(spS fr s x).2.2/\(spS fr s x).2.2<=s.2.2+1/\(spS fr s x).2.1.length<=s.2.1.length+1:=by
 unfold spS
 split<;>simp
theorem Wq(fr:lS):∀(xs:lS)(s:SpR),(xs.foldl (spS fr) s).1.length=s.1.length+xs.length/\s.2.2<=(xs.foldl (spS fr) s).2.2/\(xs.foldl (spS fr) s).2.2<=s.2.2+xs.length/\(xs.foldl (spS fr) s).2.1.length<=s.2.1.length+xs.length
 |[],s=>ba
 |x::xs,s=>by
  obtain⟨h1,h2,h3,h4⟩:=Wq fr xs (spS fr s x);obtain⟨g1,g2,g3,g4⟩:=za5 fr s x;rw[UN,ui];lia
theorem xg(fr xs:lS)(m:Nat):(spn fr xs m).1.length=xs.length/\m<=(spn fr xs m).2.2/\(spn fr xs m).2.2<=m+xs.length/\(spn fr xs m).2.1.length<=xs.length:=by
 obtain⟨h1,h2,h3,h4⟩:=Wq fr xs ([],[],m);refine⟨by rw[show(spn fr xs m).1.length=_ from h1];simp,h2,h3,?_⟩
 have:(spn fr xs m).2.1.length<=0+xs.length:=h4
 lia
def ends(ow:Str->List Bool):De->List Bool
 |.num _=>[]
 |.op _ _ _=>[fO,fO]
 |.app w f xs=>if w="call"then ow f else(De.uses (.app w f xs)).map λ_=>tU
noncomputable def upN (xs:lS) (es:List Bool):lS:=((xs.zip es).filter (·.2)).map (·.1)
def ltN(xs:lS)(es:List Bool):lS:=((xs.zip es).filter λp=>!p.2).map (·.1)
noncomputable def rpS (st:lS) (s:lS×Nat) (p:Str×Bool):lS×Nat:=if p.2 then(s.1++[st.getD s.2 ""],s.2+1)else(s.1++[p.1],s.2)
def rpl(xs:lS)(es:List Bool)(st:lS):lS:=((xs.zip es).foldl (rpS st) ([],0)).1
noncomputable def wN:De->lS->De
 |.num i,_=>.num i
 |.op w _ _,l=>.op w (l.getD 0 "") (l.getD 1 "")
 |.app w f _,l=>if w="ask"then .app w (l.getD 0 "") (l.drop 1)else .app w f l
def hdD(ow:Str->List Bool)(d:De)(st:lS):De:=wN d (rpl d.uses (ends ow d) st)
def ahB(ns:lS)(b:Bd)(x:Str):Bool:=(b.mk ns &&& bitN ns x) != 0
def dO(ns:lS)(b:Bd)(l:lS):lS:=l.filter λx=>!ahB ns b x
def rO(ns:lS)(b:Bd)(l:lS):lS:=l.filter λx=>ahB ns b x
def wD(xs:lS)(c:Hc):Hc:=xs.foldr .drop c
noncomputable def wH (ps:List (Str×Str)) (c:Hc):Hc:=ps.foldr (λp c=>.hold p.1 p.2 c) c
def frL(ns:lS)(ow:Str->List Bool)(d:De)(b:Bd)(r:lS):lS:=r.filter λy=>!ahB ns b y && decide (y∉ltN d.uses (ends ow d))
def spL(ns:lS)(ow:Str->List Bool)(d:De)(b:Bd)(r:lS)(m:Nat):SpR:=spn (frL ns ow d b r) (upN d.uses (ends ow d)) m
def stL(r st:lS)(x:Str):lS:=(r.filter λy=>decide (y∉st))++[x]
def tkB(ns:lS)(x:Str)(r:lS)(b:Bd):Bool:=decide (x∈r) && !ahB ns b x
noncomputable def stA (tk:Bool) (x:Str) (r xs:lS):lS:=(r.filter λy=>!tk || decide (y≠x))++xs
mutual
def hB(ns:lS)(ow:Str->List Bool):Bd->lS->Nat->Hc×Nat
 |.give x,l,m=>(wD (dO ns (.give x) l) (wH (spn (rO ns (.give x) l) [x] m).2.1 (.give ((spn (rO ns (.give x) l) [x] m).1.getD 0 ""))),(spn (rO ns (.give x) l) [x] m).2.2)
 |.lt x d b,l,m =>
  (wD (dO ns (.lt x d b) l) (wH (spL ns ow d b (rO ns (.lt x d b) l) m).2.1 (.lt x (hdD ow d (spL ns ow d b (rO ns (.lt x d b) l) m).1) (hB ns ow b (stL (rO ns (.lt x d b) l) (spL ns ow d b (rO ns (.lt x d b) l) m).1 x) (spL ns ow d b (rO ns (.lt x d b) l) m).2.2).1)),(hB ns ow b (stL (rO ns (.lt x d b) l) (spL ns ow d b (rO ns (.lt x d b) l) m).1 x) (spL ns ow d b (rO ns (.lt x d b) l) m).2.2).2)
 |.iff x a b,l,m=>(wD (dO ns (.iff x a b) l) (.iff x (hB ns ow a (rO ns (.iff x a b) l) m).1 (hB ns ow b (rO ns (.iff x a b) l) (hB ns ow a (rO ns (.iff x a b) l) m).2).1),(hB ns ow b (rO ns (.iff x a b) l) (hB ns ow a (rO ns (.iff x a b) l) m).2).2)
 |.case x as,l,m=>(wD (dO ns (.case x as) l) (.case x (hA ns ow x (rO ns (.case x as) l) as m).1),(hA ns ow x (rO ns (.case x as) l) as m).2)
def hA(ns:lS)(ow:Str->List Bool)(x:Str)(r:lS):Arms->Nat->Ha×Nat
 |.nil,m=>(.nil,m)
 |.cons t xs b as,m=>(.cons t xs (tkB ns x r b) (hB ns ow b (stA (tkB ns x r b) x r xs) m).1 (hA ns ow x r as (hB ns ow b (stA (tkB ns x r b) x r xs) m).2).1,(hA ns ow x r as (hB ns ow b (stA (tkB ns x r b) x r xs) m).2).2)
end
structure Pk where
 b:Bd
 l:lS
 m:Nat
section
variable(ns:lS)(ow:Str->List Bool)
def kA(x:Str)(r:lS):Arms->Nat->List Pk
 |.nil,_=>[]
 |.cons _ xs b as,m=>⟨b,stA (tkB ns x r b) x r xs,m⟩ :: kA x r as (hB ns ow b (stA (tkB ns x r b) x r xs) m).2
def kP:Bd->lS->Nat->List Pk
 |.give _,_,_=>[]
 |.lt x d b,r,m=>[⟨b,stL r (spL ns ow d b r m).1 x,(spL ns ow d b r m).2.2⟩]
 |.iff _ a b,r,m=>[⟨a,r,m⟩,⟨b,r,(hB ns ow a r m).2⟩]
 |.case x as,r,m=>kA ns ow x r as m
def midP:Bd->lS->Nat->Nat
 |.give x,r,m=>(spn r [x] m).2.2
 |.lt x d b,r,m=>(spL ns ow d b r m).2.2
 |_,_,m=>m
def Pk.code(t:Pk):Hc:=(hB ns ow t.b t.l t.m).1
def Pk.kids(t:Pk):List Pk:=kP ns ow t.b (rO ns t.b t.l) t.m
def Pk.mid(t:Pk):Nat:=midP ns ow t.b (rO ns t.b t.l) t.m
def Pk.post(t:Pk):Nat:=(hB ns ow t.b t.l t.m).2
theorem J5(x:Str)(r:lS):∀(as:Arms)(m:Nat),Chn Pk.m (Pk.post ns ow) m (kA ns ow x r as m) (hA ns ow x r as m).2
 |.nil,m=>by unfold kA hA;rfl
 |.cons t xs b as,m=>by unfold kA hA;exact⟨rfl,J5 x r as _⟩
theorem Pk.chn(t:Pk):Chn Pk.m (Pk.post ns ow) (t.mid ns ow) (t.kids ns ow) (t.post ns ow):=by
 obtain⟨b,l,m⟩:=t;unfold Pk.kids Pk.mid Pk.post;cases b with
 |give x=>unfold kP midP hB;rfl
 |lt x d b=>unfold kP midP;rw[hB];exact⟨rfl,rfl⟩
 |iff x a b=>unfold kP midP;rw[hB];exact⟨rfl,rfl,rfl⟩
 |case x as=>unfold kP midP;rw[hB];exact J5 ns ow x _ as m
end
end GN
namespace L2
open PySem PySem.Spec PyProof.Rows
def tFs2(b:Str)(t1 t2:TE):TE:=λσ H Q=>t1 σ H λv1 H1=>∃x,v1=.str x/\x.length+b.length<=sizeLine/\t2 σ H1 λv2 H2=>∃i:Int,v2=.int i/\i.natAbs.log2 < 1920/\x.length+b.length+(Str.ofString (toString i)).length<=sizeLine/\Q (.str (Str.empty++x++b++Str.ofString (toString i))) H2
theorem zds{b:Str}{j'}{p3 p4:Pos}(h1:PE X e1 t1)(h2:PE X e2 t2):
  PE X (.JoinedStr [.FormattedValue e1 (-1) nO p2,.Constant (.str b) j' p3,.FormattedValue e2 (-1) nO p4] pos) (tFs2 b t1 t2):=by
 intro pins s σ H Q I hq;have l0:Str.empty.length=0:=rfl;refine wpAny_JoinedStr ?_;refine wpAny_FormattedValue_plain (thn (h1 pins _ σ H _ (I.tok _) hq) λv s1 hv=>?_);obtain⟨u,H1,I1,r1,x,e1,lx,q1⟩:=hv;subst e1;obtain⟨t,rfl⟩:=r1;have key:∀s2,Inv X pins σ H1 s2->∀t',∃y t0,Value.str x t'=.str y t0/\(Str.empty++y).length<=sizeLine/\Joins (model X.prog X.w) X.A X.xe (evalEach [.Constant (.str b) j' p3,.FormattedValue e2 (-1) nO p4] X.env) (Str.empty++y) (λout s₁=>out.length<=sizeLine/\EP X pins σ Q (.str out s₁.toks) { s₁ with toks:=s₁.toks+1 }) s2:=λs2 I2 t'=>by
  refine⟨x,t',rfl,by rw[strLen_append];lia,?_⟩;refine Calls.Constant_str ⟨b,_,rfl,by rw[strLen_append,strLen_append];lia,?_⟩;refine wpAny_FormattedValue_plain (thn (h2 pins _ σ H1 _ (I2.tok _) q1) λv s3 hv=>?_);obtain⟨u,H3,I3,r3,i,e3,li,lt,q3⟩:=hv;subst e3;obtain⟨t,rfl⟩:=r3;refine wpAny_formatField_int li ⟨_,_,rfl,by rw[strLen_append,strLen_append,strLen_append];lia,by rw[strLen_append,strLen_append,strLen_append];lia,?_⟩;exact⟨.str _,H3,(I3.tok _),⟨_,rfl⟩,q3⟩
 exact wpAny_formatField_str (key _ I1 _) (key _ (I1.tok _) _) b8
theorem zdt{b:Str}{j'}{p3 p4:Pos}(h1:jE X e1 t1)(h2:jE X e2 t2):
  jE X (.JoinedStr [.FormattedValue e1 (-1) nO p2,.Constant (.str b) j' p3,.FormattedValue e2 (-1) nO p4] pos) (tFs2 b t1 t2):=⟨zds h1.out h2.out⟩
end L2
namespace K11
open PySem PySem.Spec PyProof.Rows Builtin Builtin.Str NumText
theorem J6(m:Nat):AllDigits ((Nat.toDigits 10 m).map Char.toNat):=by
 induction m using Nat.strongRecOn with
 |_ m ih =>
  by_cases h:m < 10
  .rw[Nat.toDigits_of_lt_base h]
   intro c hc;rw[List.map_singleton,ut]at hc
   have:∀d:Nat,d < 10->48<=(Nat.digitChar d).toNat/\(Nat.digitChar d).toNat<=57:=b9
   rw[hc];exact this m h
  .rw[Nat.toDigits_of_base_le b9 b8,ur]
   intro c hc;rcases uy.mp hc with hc|hc
   .exact ih (m / 10) b8 c hc
   .rw[List.map_singleton,ut]at hc
    have:∀d:Nat,d < 10->48<=(Nat.digitChar d).toNat/\(Nat.digitChar d).toNat<=57:=b9
    rw[hc];exact this (m % 10) (Nat.mod_lt _ b9)
theorem J7(m:Nat):cl (Str.ofString (toString ((m:Nat):Int)))=(Nat.toDigits 10 m).map Char.toNat:=PySem.W.KIN.signs_num m
end K11
namespace GN
open PySem L2 K11
structure Pn(K:uc)(cP:aO):Prop where
 cl:Cls K cP
 a1:NoAttr K cP "owns"
 a2:NoAttr K cP "bits"
 a3:NoAttr K cP "many"
def LIMT:Nat:=2 ^ 60
def PO(cP dx od bd:aO)(n:Nat):HO:=.ins cP dx [("owns",.ref od),("bits",.ref bd),("many",.int (n:Nat))]
theorem Vo(h:j<=LIMT):((j:Nat):Int).natAbs.log2 < 1920/\(Str.ofString (toString ((j:Nat):Int))).length<=1000:=by
 unfold LIMT at h;refine⟨?_,?_⟩
 .rw[Int.natAbs_natCast]
  by_cases c:j=0
  .rw[c];decide
  .exact uJ ((Nat.log2_lt c).mpr (Us h (by decide:(2:Nat) ^ 60 < 2 ^ 61))) b9
 .rw[<- xM,J7,ub]
  exact uF ((Nat.length_toDigits_le_iff (k:=30) b9 b9).mpr (Us h b9)) b9
inductive spNew(cP:aO)(vs:List V)(H:Hp)(Q:VK)(e_3:XK):Prop
 |mk (pu dx od bd:aO) (x:Str):∀n:Nat,(vs=[.ref pu,.str x])->(H pu=sO (PO cP dx od bd n))->(n+1<=LIMT)->(x.length<=1000)->(∀H',H'=upd H pu (PO cP dx od bd (n+1))->Q (.str (nnm x (n+1))) H')->spNew cP vs H Q e_3
inductive spAhd(cP:aO)(vs:List V)(H:Hp)(Q:VK)(e_3:XK):Prop
 |mk (pu dx od bd:aO) (x:Str) (n m:Nat) (v:V):∀ns:lS,(vs=[.ref pu,.str x,v])->(H pu=sO (PO cP dx od bd n))->(H bd=sO (.dK (yF ns 1)))->(x∈ns)->(Nt H m v)->(Q (.bl ((m &&& bitN ns x) != 0)) H)->spAhd cP vs H Q e_3
inductive spSpent(cP:aO)(vs:List V)(H:Hp)(Q:VK)(e_3:XK):Prop
 |mk (pu dx od bd lx lf:aO) (xs fr:lS):∀n:Nat,(vs=[.ref pu,.ref lx,.ref lf])->(H pu=sO (PO cP dx od bd n))->(H lx=sO (.lst (xs.map V.str)))->(H lf=sO (.lst (fr.map V.str)))->(n+xs.length<=LIMT)->(xs.length<=100)->((∀x∈xs,x.length<=1000))->(∀H' t ls lp qs,KM (·=pu) H H'->H' pu=sO (PO cP dx od bd (spn fr xs n).2.2)->H' t=sO (.tup [.ref ls,.ref lp])->H ls=nO->H lp=nO->H' ls=sO (.lst ((spn fr xs n).1.map V.str))->H' lp=sO (.lst (qs.map V.ref))->All2 (λ(p:Str×Str) q=>H' q=sO (.tup [.str p.1,.str p.2])) (spn fr xs n).2.1 qs->Q (.ref t) H')->spSpent cP vs H Q e_3
inductive spDrops(vs:List V)(H:Hp)(Q:VK)(e_3:XK):Prop
 |mk (l:aO) (xs:lS) (c:Hc):∀v:V,(vs=[.ref l,v])->(H l=sO (.lst (xs.map V.str)))->(IsHc H c v)->(∀H' v',Same H H'->IsHc H' (wD xs c) v'->Q v' H')->spDrops vs H Q e_3
inductive spHolds(vs:List V)(H:Hp)(Q:VK)(e_3:XK):Prop
 |mk (l:aO) (ps:List (Str×Str)) (qs:List aO) (c:Hc):∀v:V,(vs=[.ref l,v])->(H l=sO (.lst (qs.map V.ref)))->(All2 (λ(p:Str×Str) q=>H q=sO (.tup [.str p.1,.str p.2])) ps qs)->(IsHc H c v)->(∀H' v',Same H H'->IsHc H' (wH ps c) v'->Q v' H')->spHolds vs H Q e_3
section
variable{K:uc}
theorem scNew:FnScope ["self","name","many"] ["self","name"] (zq vW):=.ok
theorem zdu(F:Fun K "new_name" "Putter.new_name" vW f fd)(N:Pn K cP):FnOk P w K mg base CX0 1 f fd ["self","name"] (spNew cP):=by
 refine F.by scNew ?_ ?_
 .rintro _ _ _ _ ⟨_,_,_,_,_,_,rfl,_⟩;rfl
 rintro _ _ _ _ H vs _ _ _ ⟨pu,dx,od,bd,x,n,rfl,ho,hn,hx,q⟩;refine⟨_,zh (xx (!0) (zC yz (zO K !0) zp)) (zh (sE 2 scNew.nd (zO K !0)) (zi (zt (zdt (!1) !2)))),?_⟩;have sl:=zN;refine¬⟨pu,cP,dx,_,_,rfl,ho,N.cl,N.a3,rfl,(zE rfl rfl ¬⟨pu,cP,dx,¬⟨ho,N.cl,N.a3,by show 3 < 1000;decide,?_⟩⟩)⟩;have e:(((n:Nat):Int)+1)=((n+1:Nat):Int):=b8
 have pf:HO.ins cP dx (putF "many" (.int (((n:Nat):Int)+1)) [("owns",V.ref od),("bits",V.ref bd),("many",V.int ((n:Nat):Int))])=PO cP dx od bd (n+1):=by rw[e];rfl
 rw[pf];have hu:=uX9 (H:=H) (a:=pu) (o:=PO cP dx od bd (n+1));generalize hH:upd H pu (PO cP dx od bd (n+1))=H1 at *;obtain⟨l1,l2⟩:=Vo hn;have l6:(".":Str).length=1:=be
 refine¬⟨pu,cP,dx,_,_,rfl,hu,N.cl,N.a3,rfl,?_⟩;exact(zv rfl rfl ⟨by rw[l6];lia,(zv rfl rfl ⟨l1,by rw[l6];lia,q _ rfl⟩)⟩)
theorem zel:FnScope lS15 lS15 (zq vX):=.ok
theorem zdv(F:Fun K "is_ahead" "Putter.is_ahead" vX f fd)(N:Pn K cP):FnOk P w K mg base CX0 1 f fd lS15 (spAhd cP):=by
 refine F.by zel ?_ ?_
 .rintro _ _ _ _ ⟨_,_,_,_,_,_,_,_,_,rfl,_⟩;rfl
 rintro _ _ _ _ H vs Q _ hr ⟨pu,dx,od,bd,x,n,m,v,ns,rfl,ho,hb,hx,⟨qn,ln,rfl,hn⟩,q⟩;refine⟨_,zi (zt (yM xp (zC Wk (zj K !2) (wO hr (zO K !0) !1)) zp (xv _))),?_⟩;have g:=we (x:=x) (ns:=ns) (b:=1);rw[iP hx,tw]at g;refine¬(ixT hn aI0 ?_);refine¬⟨pu,cP,dx,_,_,rfl,ho,N.cl,N.a2,rfl,?_⟩;refine¬⟨bd,.int ((bitN ns x:Nat):Int),rfl,(show DGet H bd (kV (.inr x)) (sO (.int ((bitN ns x:Nat):Int)))from g ▸ DGet.k hb),(zE rfl rfl ⟨rfl,?_⟩)⟩;show Q (V.bl (!decide (V.int (Builtin.bitAnd ((m:Nat):Int) ((bitN ns x:Nat):Int))=V.int 0))) H;rw[PyProof.Rows.bitAnd_pp (tR m) (tR _),UQ,UQ];have e:(!decide (V.int ((m &&& bitN ns x:Nat):Int)=V.int 0))=((m &&& bitN ns x) != 0):=by
  rw[U5];simp
 rw[e];exact q
theorem inVs(x:Str):∀xs:lS,inV (.str x) (xs.map V.str)=decide (x∈xs)
 |[]=>rfl
 |y::xs=>by
  show((y == x) || inV (.str x) (xs.map V.str))=_;rw[inVs x xs,U5,Bool.or_eq_true,beq_iff_eq,dA,dA,uq];exact⟨λh=>h.imp_left Eq.symm,λh=>h.imp_left Eq.symm⟩
theorem jc(xs:lS):(xs.map V.str).all wo=tU:=by
 rw[List.all_map,tF];intro x _
 rfl
theorem scSpent:FnScope ["self","names","free","stand","pairs","name"] lS24 (zq Xr):=.ok
theorem J8(F:Fun K "spent" "Putter.spent" Xr f fd)(N:Pn K cP)(GN':Me P w K mg base CX0 1 cP "new_name" ["self","name"] (spNew cP)):FnOk P w K mg base CX0 2 f fd lS24 (spSpent cP):=by
 refine F.by scSpent ?_ ?_
 .rintro _ _ _ _ ⟨_,_,_,_,_,_,_,_,_,rfl,_⟩;rfl
 rintro _ _ _ _ H vs _ _ hr ⟨pu,dx,od,bd,lx,lf,xs,fr,n,rfl,ho,hlx,hlf,hn,hxl,hx,q⟩;refine⟨_,
  (zh (sE 3 scSpent.nd (zI zQ))
  (zh (sE 4 scSpent.nd (zI zQ))
  (zh (z5 PassesOwn.never rfl (zU K !1) (gN 5 scSpent.nd)
   (zi (zF (jW.pt (xQ (Zh K (!5) !2) (xt (wK K (!5) !3))))
    (zi (yg (yO uE uN uO zY (!3) (jA1 !5))))
    (zh (yg (yO uE uN uO zY (!3) (jA1 (vM (!0) N.cl GN' hr yN (jA1 !5)))))
    (zi (yg (yO uE uN uO zY (!4) (jA1 (zy (jA2 (xX (zT K) (!3) (xw zp)) !5))))))))))
  (zi (zt (zy (jA2 (!3) !4))))))),?_⟩
 have sl:=zN;refine⟨sN0,λls hls=>⟨sN0,λlp hlp=>?_⟩⟩;have s1:Same H (upd (upd H ls (.lst [])) lp (.lst [])):=(zn hls _).new hlp;have nlp:H lp=nO:=(zn hls (.lst [])).free hlp;have nsp:ls≠lp:=zk uX9 hlp;have nup:∀{b:aO}{u:HO},H b=sO u->(∀C dx fs,u≠.ins C dx fs)->b≠pu:=λ{b u} e n z=>by rw[z,ho]at e;exact n _ _ _ (u4.inj e).symm
 refine¬⟨lx,rfl,⟨_,SqL.of (s1 _ _ hlx)⟩,xm (xs:=xs.map V.str) (λi σ H'=>(∃y,σ=[sR pu,sR lx,sR lf,sR ls,sR lp,y])/\KM (·=pu) H H'/\H' pu=sO (PO cP dx od bd (spn fr (xs.take i) n).2.2)/\H' ls=sO (.lst ((spn fr (xs.take i) n).1.map V.str))/\∃qs,H' lp=sO (.lst (qs.map V.ref))/\All2 (λ(p:Str×Str) q=>H' q=sO (.tup [.str p.1,.str p.2])) (spn fr (xs.take i) n).2.1 qs) ⟨⟨nO,rfl⟩,.of s1,s1 _ _ ho,old hlp uX9,[],uX9,.nil⟩ (λi σ H' _ h=>SqL.of (h.2.1 _ _ (nup hlx nq3) hlx)) ?_ ?_⟩
 .rintro i v σ H1 hv ⟨⟨y,rfl⟩,k1,o1,l1,qs,l2,al⟩
  obtain⟨x,hx1,rfl⟩:=L2.gM hv;have hil:=(uf.mp hx1).1;have hl:=xg fr (xs.take i) n;rw[uv,Nat.min_eq_left (Nat.le_of_lt hil)]at hl;rw[J4 hx1];have hlf1:=k1 _ _ (nup hlf nq3) hlf;generalize spn fr (xs.take i) n=S at *;obtain⟨st,ps,m⟩:=S;dsimp only at o1 l1 al hl
  unfold spS;dsimp only
  have nls:ls≠pu:=λz=>by rw[z,ho]at hls;cases hls
  have nlp':lp≠pu:=λz=>by rw[z,ho]at nlp;cases nlp
  have q0:∀q∈qs,∀{u},H1 q=sO (.tup u)->q≠ls/\q≠lp/\q≠pu:=λq _ {u} e=>⟨yE e l1 bj,yE e l2 bj,yE e o1 (by intro z;unfold PO at z;cases z)⟩;refine(zv rfl rfl ⟨lf,¬⟨.inl (SqL.of hlf1),rfl,jc fr,¬?_⟩⟩);rw[iN (show Not (fO=tU) by decide),inVs];by_cases c:x∈fr/\x∉st
  .rw[iP c,decide_eq_true c.1]
   refine iteT (zv rfl rfl ⟨ls,¬⟨.inl (SqL.of l1),rfl,jc st,¬?_⟩⟩);rw[iP rfl,inVs,eO c.2];refine iteT ¬⟨.inl ⟨rfl,_,SqL.of l1⟩,¬⟨ls,(zE rfl rfl ⟨l1,bc,?_⟩)⟩⟩;exact⟨⟨_,rfl⟩,k1.put hls,by rw[zo nls.symm];exact o1,by rw[uX9];simp,qs,by rw[zo nsp.symm];exact l2,al.imp λp q e=>by rw[zo (yE e l1 bj)];exact e⟩
  rw[iN c];cases c1:decide (x∈fr)
  all_goals first
   |refine iteF (iteF ?_)
   | (have c2:x∈st:=Classical.byContradiction λz=>c ⟨of_decide_eq_true c1,z⟩
      refine iteT (zv rfl rfl ⟨ls,¬⟨.inl (SqL.of l1),rfl,jc st,¬?_⟩⟩);rw[iP rfl,inVs,decide_eq_true c2];refine iteF ?_)
  all_goals
   refine¬⟨.inl ⟨rfl,_,SqL.of l1⟩,¬⟨pu,dx,¬⟨o1,rfl,¬⟨pu,dx,od,bd,x,m,rfl,o1,b8,hx _ (uu hx1),λH2 e2=>?_⟩⟩⟩⟩;have l1':H2 ls=sO (.lst (st.map V.str)):=by rw[e2,zo nls];exact l1
   have l2':H2 lp=sO (.lst (qs.map V.ref)):=by rw[e2,zo nlp'];exact l2
   have o2:H2 pu=sO (PO cP dx od bd (m+1)):=by rw[e2];exact uX9
   have k2:KM (·=pu) H H2:=λb u n e=>by rw[e2,zo n];exact k1 b u n e
   have t2:∀{q u},H1 q=sO (.tup u)->H2 q=sO (.tup u):=λ{q u} e=>by rw[e2,zo (yE e o1 (by intro z;unfold PO at z;cases z))];exact e
   refine⟨ls,(zE rfl rfl ⟨l1',bc,?_⟩)⟩;have hu:=uX9 (H:=H2) (a:=ls) (o:=.lst (st.map V.str++[.str (nnm x (m+1))]));have l3:upd H2 ls (.lst (st.map V.str++[.str (nnm x (m+1))])) lp=sO (.lst (qs.map V.ref)):=by rw[zo nsp.symm];exact l2'
   have o3:upd H2 ls (.lst (st.map V.str++[.str (nnm x (m+1))])) pu=sO (PO cP dx od bd (m+1)):=by rw[zo nls.symm];exact o2
   have k3:KM (·=pu) H (upd H2 ls (.lst (st.map V.str++[.str (nnm x (m+1))]))):=k2.put hls;have t3:∀{q u},H1 q=sO (.tup u)->upd H2 ls (.lst (st.map V.str++[.str (nnm x (m+1))])) q=sO (.tup u):=λ{q u} e=>by rw[zo (yE (t2 e) l1' bj)];exact t2 e
   generalize upd H2 ls (.lst (st.map V.str++[.str (nnm x (m+1))]))=H3 at *;refine¬⟨.inl ⟨rfl,_,SqL.of l3⟩,?_⟩;refine(zv rfl rfl ⟨ls,_,_,.str (nnm x (m+1)),rfl,rfl,SqL.of hu,?_,?_⟩)
   .exact xA _ _
   refine¬⟨sN2,λt ht=>?_⟩;have aql:=al.len;have h4:=zn (o:=.tup [.str (nnm x (m+1)),.str x]) ht;refine⟨lp,(zE rfl rfl ⟨h4 _ _ l3,bc,?_⟩)⟩;have tl:∀{q u},upd H3 t (.tup [.str (nnm x (m+1)),.str x]) q=sO (.tup u)->upd (upd H3 t (.tup [.str (nnm x (m+1)),.str x])) lp (.lst (qs.map V.ref++[.ref t])) q=sO (.tup u):=λ{q u} e=>by rw[zo (yE e (h4 _ _ l3) bj)];exact e
   refine⟨⟨_,rfl⟩,(k3.trans (.of h4)).put nlp,by rw[zo nlp'.symm];exact h4 _ _ o3,by rw[zo nsp];rw[h4 _ _ hu];simp,qs++[t],by rw[uX9];simp,All2.app (al.imp λp q e=>tl (h4 _ _ (t3 e))) (.cons (tl uX9) .nil)⟩
 .rintro σ H1 ⟨⟨y,rfl⟩,k1,o1,l1,qs,l2,al⟩
  rw[ub,UW]at o1 l1 al;refine(zv rfl rfl ⟨sN2,λt ht=>?_⟩);have hn2:=zn (o:=.tup [.ref ls,.ref lp]) ht;exact q _ t ls lp qs (k1.trans (.of hn2)) (hn2 _ _ o1) uX9 hls nlp (hn2 _ _ l1) (hn2 _ _ l2) (al.imp λp q e=>hn2 _ _ e)
theorem za6{xs:lS}{c:Hc}(hi:i < xs.length)(h:xs[xs.length-1-i]?=sO x):wD (xs.drop (xs.length-(i+1))) c=.drop x (wD (xs.drop (xs.length-i)) c):=by
 obtain⟨h1,h2⟩:=uf.mp h;have e:xs.length-(i+1)=xs.length-1-i:=b8
 have e2:xs.length-i=xs.length-1-i+1:=b8
 rw[e,UO h1,h2,e2]
 rfl
theorem za7{xs:List (Str×Str)}{c:Hc}{x:Str×Str}(hi:i < xs.length)(h:xs[xs.length-1-i]?=sO x):wH (xs.drop (xs.length-(i+1))) c=.hold x.1 x.2 (wH (xs.drop (xs.length-i)) c):=by
 obtain⟨h1,h2⟩:=uf.mp h;have e:xs.length-(i+1)=xs.length-1-i:=b8
 have e2:xs.length-i=xs.length-1-i+1:=b8
 rw[e,UO h1,h2,e2]
 rfl
theorem scDrops:FnScope ["names","body","name"] ["names","body"] (zq Xs):=.ok
theorem J9(F:Fun K "with_drops" "with_drops" Xs f fd)(m_reversed:mg "reversed"=nO):FnOk P w K mg base CX0 1 f fd ["names","body"] spDrops:=by
 refine F.by scDrops ?_ ?_
 .rintro _ _ _ _ ⟨_,_,_,_,rfl,_⟩;rfl
 rintro _ _ _ s H vs _ _ _ ⟨l,xs,c,v,rfl,hl,hc,q⟩;refine⟨_,(zh (z5 PassesOwn.never rfl (Xh rfl m_reversed (jA1 !0)) (gN 2 scDrops.nd)
   (zi (sE 1 scDrops.nd (zy (jA3 zu (!2) !1)))))
  (zi (zt !1))),?_⟩
 have sl:=zN;refine¬⟨l,¬⟨SqL.of hl,Ze (xs:=xs.map V.str) (λi σ H'=>∃v' y,σ=[sR l,sO v',y]/\Same H H'/\IsHc H' (wD (xs.drop (xs.length-i)) c) v') ⟨v,nO,rfl,Same.refl _,by rw[Nat.sub_zero,List.drop_length];exact hc⟩ (λi σ H' _ ⟨_,_,_,s,_⟩=>SqL.of (s _ _ hl)) ?_ ?_⟩⟩
 .rintro i x σ H1 hx ⟨v',y,rfl,s1,h1⟩
  have hi:i < xs.length:=by
   have:=(uf.mp hx).1
   rw[Ux,ub]at this;exact this
  rw[List.getElem?_reverse (by rw[ub];exact hi),ub,uh]at hx;obtain⟨z,hz,rfl⟩:=ug.mp hx;refine(zv rfl rfl ⟨sN3,λt ht=>⟨_,_,rfl,s1.new ht,?_⟩⟩);rw[za6 hi hz];exact⟨t,v',rfl,uX9,h1.keep (.of (zn ht _))⟩
 .rintro σ H1 ⟨v',y,rfl,s1,h1⟩
  rw[ub,Nat.sub_self,List.drop_zero]at h1;exact¬(q _ _ s1 h1)
theorem scHolds:FnScope ["pairs","body","pair"] ["pairs","body"] (zq Xt):=.ok
theorem Qa(F:Fun K "with_holds" "with_holds" Xt f fd)(m_reversed:mg "reversed"=nO):FnOk P w K mg base CX0 1 f fd ["pairs","body"] spHolds:=by
 refine F.by scHolds ?_ ?_
 .rintro _ _ _ _ ⟨_,_,_,_,_,rfl,_⟩;rfl
 rintro _ _ _ s H vs _ _ _ ⟨l,ps,qs,c,v,rfl,hl,hal,hc,q⟩;refine⟨_,(zh (z5 PassesOwn.never rfl (Xh rfl m_reversed (jA1 !0)) (gN 2 scHolds.nd)
   (zi (sE 1 scHolds.nd (zy (jA4 zu (zj K !2) (zj K !2) !1)))))
  (zi (zt !1))),?_⟩
 have sl:=zN;have le:=hal.len;refine¬⟨l,¬⟨SqL.of hl,Ze (xs:=qs.map V.ref) (λi σ H'=>∃v' y,σ=[sR l,sO v',y]/\Same H H'/\IsHc H' (wH (ps.drop (ps.length-i)) c) v') ⟨v,nO,rfl,Same.refl _,by rw[Nat.sub_zero,List.drop_length];exact hc⟩ (λi σ H' _ ⟨_,_,_,s,_⟩=>SqL.of (s _ _ hl)) ?_ ?_⟩⟩
 .rintro i x σ H1 hx ⟨v',y,rfl,s1,h1⟩
  have hi:i < qs.length:=by
   have:=(uf.mp hx).1
   rw[Ux,ub]at this;exact this
  rw[List.getElem?_reverse (by rw[ub];exact hi),ub,uh]at hx;obtain⟨z,hz,rfl⟩:=ug.mp hx;obtain⟨p,hp,hpz⟩:=hal.get hz;have hz1:=s1 _ _ hpz;refine¬(ixT hz1 aI0 ¬(ixT hz1 aI1 ¬⟨sN4,λt ht=>⟨_,_,rfl,s1.new ht,?_⟩⟩));rw[<- le]at hp hi;rw[za7 hi hp];exact⟨t,v',rfl,uX9,h1.keep (.of (zn ht _))⟩
 .rintro σ H1 ⟨v',y,rfl,s1,h1⟩
  rw[ub,<- le,Nat.sub_self,List.drop_zero]at h1;exact¬(q _ _ s1 h1)
end
end GN
namespace L2
open PySem PySem.Spec PyProof.Rows
theorem jd(a b c:aA):checkTypeCall "zip" ⟨[a,b,c],[]⟩=pure ():=by kernel_rfl
theorem jp(a b c:aA):checkBuiltinCall "zip.__new__" ⟨[.type "zip",a,b,c],[]⟩=pure ():=by kernel_rfl
theorem ww(a b c d:aA):argsOk "object.__init__" ⟨[a,b,c,d],[]⟩:=by
 unfold argsOk;rw[signature?_of (id:="object.__init__") (n:=['_','_','t','i','n','i','_','_']) (o:=['t','c','e','j','b','o']) (by kernel_rfl) F.owner_object];kernel_rfl
abbrev yb(k m e:Bool)(h:Heap)(l r t:aO):Heap:=za e (zb k m h l r) t
abbrev yc(k m e:Bool)(h:Heap)(l r t:aO):Heap:=(yb k m e h l r t).push { cls:=.type "tuple",data:=.seq #[.ref h.objs.size,.ref (za k h l).objs.size,.ref (zb k m h l r).objs.size] }
abbrev yd(k m e:Bool)(h:Heap)(l r t:aO):Heap:=(yc k m e h l r t).push { cls:=.type "tuple",data:=.seq #[.none,.none,.none] }
abbrev ye(k m e:Bool)(h:Heap)(l r t:aO):Heap:=(yd k m e h l r t).push { cls:=.type "zip",data:=.fields #[.none,.bool fO,.bool fO,.ref (yb k m e h l r t).objs.size,.ref (yc k m e h l r t).objs.size] }
theorem Vp(k m e:Bool)(l r t:aO)(xs ys zs:Array aA):Meets (Builtin.«zip.__new__» ⟨[.type "zip",.ref l,.ref r,.ref t],[]⟩)
  (λ_ R s=>Sq k s.heap l xs/\Sq m s.heap r ys/\Sq e s.heap t zs/\R (.ok (.ret (.ref (yd k m e s.heap l r t).objs.size))) { s with heap:=ye k m e s.heap l r t }) :=
 .of_wp λprog w A R s h=>by
  obtain⟨hp,g,d,tk,os⟩:=s;obtain⟨h1,h2,h3,h⟩:=h;have hs:=sub_zip;have q1:Sq k (Shared.heap ⟨hp,g,d,tk,os⟩) l xs:=h1;have q2:Sq m (Shared.heap ⟨za k hp l,g,d,tk,os⟩) r ys:=h2.at λo e=>ue _ e;have q3:Sq e (Shared.heap ⟨zb k m hp l r,g,d,tk,os⟩) t zs:=h3.at λo e=>ue _ (ue _ e)
  wp_walk using wF q1,wF q2,wF q3
  exact⟨_,rfl,h⟩
section
variable{k m e:Bool}{l r t:Nat}{xs ys zs:Array aA}
theorem Vq{Q:VSP}(hl:Sq k s.heap l xs)(hr:Sq m s.heap r ys)(ht:Sq e s.heap t zs)
  (q:∀h',ZN [(k,l),(m,r),(e,t)] h' s.heap.objs.size 0 .none (.bool fO)->h'.objs.size=s.heap.objs.size+6->(∀c o,s.heap.get? c=sO o->h'.get? c=sO o)->Q (.ref (s.heap.objs.size+5)) { s with heap:=h' }) :
  wpAny (model P w) A (call (.type "zip") [.ref l,.ref r,.ref t]) Q E s:=by
 apply callType_new F.called_zip b9 (jd _ _ _) (jp _ _ _) (λobj=>ww obj _ _ _) F.entry_zip_new (Vp k m e l r t xs ys zs)
 refine⟨hl,hr,ht,?_⟩;have s1:(za k s.heap l).objs.size=s.heap.objs.size+1:=Ud ..;have s2:(zb k m s.heap l r).objs.size=s.heap.objs.size+2:=by rw[Ud,s1]
 have s3:(yb k m e s.heap l r t).objs.size=s.heap.objs.size+3:=by rw[Ud,s2]
 have s4:(yc k m e s.heap l r t).objs.size=s.heap.objs.size+4:=by rw[Ud,s3]
 have s5:(yd k m e s.heap l r t).objs.size=s.heap.objs.size+5:=by rw[Ud,s4]
 have s6:(ye k m e s.heap l r t).objs.size=s.heap.objs.size+6:=by rw[Ud,s5]
 have up:∀{c o},(yd k m e s.heap l r t).get? c=sO o->(ye k m e s.heap l r t).get? c=sO o:=λe=>ue _ e;have p6:(ye k m e s.heap l r t).get? (yd k m e s.heap l r t).objs.size=sO _:=ux _ rfl;have p5:(ye k m e s.heap l r t).get? (yc k m e s.heap l r t).objs.size=sO _:=up (ux _ rfl);have p4:(ye k m e s.heap l r t).get? (yb k m e s.heap l r t).objs.size=sO _:=up (ue _ (ux _ rfl));have p3:(ye k m e s.heap l r t).get? (zb k m s.heap l r).objs.size=sO _:=up (ue _ (ue _ (ux _ rfl)));have p2:(ye k m e s.heap l r t).get? (za k s.heap l).objs.size=sO _:=up (ue _ (ue _ (ue _ (ux _ rfl))));have p1:(ye k m e s.heap l r t).get? s.heap.objs.size=sO _:=up (ue _ (ue _ (ue _ (ue _ (ux _ rfl)))));rw[s5,s3,s4]at p6;rw[s4]at p5;rw[s3,s1,s2]at p4;rw[s2]at p3;rw[s1]at p2;show _/\_;rw[s5];exact⟨⟨_,p6,rfl⟩,q _ ⟨p6,p4,⟨_,rfl,p5⟩,λj k' l' hj=>by
  match j,hj with
  |0,hj=>cases hj;exact .of ⟨_,p1,rfl,rfl⟩
  |1,hj=>cases hj;exact .of ⟨_,p2,rfl,rfl⟩
  |2,hj=>cases hj;exact .of ⟨_,p3,rfl,rfl⟩⟩ s6 λc o e=>up (ue _ (ue _ (ue _ (ue _ (ue _ e)))))⟩
end
abbrev It3(K:uc)(k m e:Bool)(a b c:aO):It:=ItN K [(k,a),(m,b),(e,c)]
section
variable{K:uc}{k m e:Bool}{ys zs:List V}{x y z:V}
theorem go3(q1:SqK k K H a xs)(q2:SqK m K H b ys)(q3:SqK e K H c zs)(hx:xs[i]?=sO x)(hy:ys[i]?=sO y)(hz:zs[i]?=sO z):(It3 K k m e a b c).go i H:=⟨[x,y,z],rfl,λj k' a' hj=>by
 match j,hj with
 |0,hj=>cases hj;exact⟨xs,q1,hx⟩
 |1,hj=>cases hj;exact⟨ys,q2,hy⟩
 |2,hj=>cases hj;exact⟨zs,q3,hz⟩⟩
theorem zem(q1:SqK k K H a xs)(q2:SqK m K H b ys)(q3:SqK e K H c zs)(h:xs.length<=i):(It3 K k m e a b c).stop i H:=⟨λj k' a' hj=>by
 match j,hj with
 |0,hj=>cases hj;exact⟨xs,q1⟩
 |1,hj=>cases hj;exact⟨ys,q2⟩
 |2,hj=>cases hj;exact⟨zs,q3⟩,0,k,a,xs,rfl,q1,h⟩
theorem yld3(h:(It3 K k m e a b c).yld i H v H')(q1:SqK k K H a xs)(q2:SqK m K H b ys)(q3:SqK e K H c zs):∃T x y z,v=.ref T/\H T=nO/\H'=upd H T (.tup [x,y,z])/\xs[i]?=sO x/\ys[i]?=sO y/\zs[i]?=sO z:=by
 obtain⟨T,vs,h1,h2,h3,h4,h5⟩:=h;obtain⟨x,vs,rfl⟩:=Uj h4;obtain⟨y,vs,rfl⟩:=Uj (tP.inj h4);obtain⟨z,vs,rfl⟩:=Uj (tP.inj (tP.inj h4));rw[Um.mp (tP.inj (tP.inj (tP.inj h4)))]at h3 h5;exact⟨T,x,y,z,h1,h2,h3,h5 0 k a xs rfl q1,h5 1 m b ys rfl q2,h5 2 e c zs rfl q3⟩
end
theorem zen{x y z:V}{us:List aA}(r:Vals [x,y,z] us):∃u v t,us=[u,v,t]/\RelV x u/\RelV y v/\RelV z t:=by
 cases r with
 |cons r1 r2 =>
  cases r2 with
  |cons r3 r4 =>
   cases r4 with
   |cons r5 r6=>cases r6;exact⟨_,_,_,rfl,r1,r3,r5⟩
def zbV(K:uc)(ta:TA):TI:=λσ H R=>ta σ H λvs H1=>∃a b c k m e xs ys zs,vs=[.ref a,.ref b,.ref c]/\SqK k K H1 a xs/\SqK m K H1 b ys/\SqK e K H1 c zs/\R (It3 K k m e a b c) H1
theorem za8{a b c:Expr}{ta:TA}{p:Pos}(hg:Gl X "zip")(hm:X.mg "zip"=nO)(ha:PA X [a,b,c] ta)(h1:%[starEach [a,b,c] X.env=[(fO,eval a X.env),(fO,eval b X.env),(fO,eval c X.env)]|1])(h2:%[starEach [b,c] X.env=[(fO,eval b X.env),(fO,eval c X.env)]|1]):
  PI X (.Tuple elts n tpos) (.Call (.Name "zip" p) [a,b,c] [] pos) (zbV X.K ta):=by
 intro pins s σ H R I h;refine Call_ (xk I hg hm boot_zip (Ua (thn (ha pos pins s σ H _ I h) λus s1 g=>?_) (by rw[h1,h2]) (by rw[h2];rfl)));obtain⟨vs,H1,I1,r1,a1,b1,c1,k,m,e,xs,ys,zs,rfl,g1,g2,g3,q⟩:=g;obtain⟨u,u',u'',rfl,e1,e2,e3⟩:=zen r1;cases e1;cases e2;cases e3;obtain⟨i1,v1,q1,z1,l1⟩:=I1.sqk g1;obtain⟨i2,v2,q2,z2,l2⟩:=I1.sqk g2;obtain⟨i3,v3,q3,z3,l3⟩:=I1.sqk g3;refine Vq q1 q2 q3 λh' Z sz kp=>?_;have tz:=Yd (P:=X.prog) (w:=X.w) (K:=X.K) (elts:=elts) (n:=n) (pos:=tpos) (zs:=[(k,a1),(m,b1),(e,c1)]) (B:=s1.heap.objs.size) (by show 0 < 3;decide) sN3 λj k' a' hj=>by
  match j,hj with
  |0,hj=>cases hj;exact l1
  |1,hj=>cases hj;exact l2
  |2,hj=>cases hj;exact l3
 refine tz.self X.A 0 { s1 with heap:=h' } _ _ Z ⟨s1.heap.objs.size+5,_,_,_,H1,rfl,I1.kept (t':=s1.toks) kp,tz,Z,λc hc=>?_,q⟩;have le:s1.heap.objs.size<=c:=(fpN_iff.mp hc).1;exact I1.fpOk le (I1.hok.fresh le)
theorem za9{a b c:Expr}{t:TA}{p:Pos}(hg:Gl X "zip")(hm:X.mg "zip"=nO)(ha:jA X [a,b,c] t)(h1:%[zA a=fO|1])(h2:%[zA b=fO|1])(h3:%[zA c=fO|1]):jI X (.Tuple elts n tpos) (.Call (.Name "zip" p) [a,b,c] [] pos) (zbV X.K t) :=
 ⟨za8 hg hm ha.out (by rw[zH h1,zH h2,zH h3];rfl) (by rw[zH h2,zH h3];rfl)⟩
end L2
namespace L2
open PySem
section
variable{Q:VK}
theorem zba{K:uc}{k m e:Bool}{ys us:List V}(hlen:xs.length=ys.length)(hlen':xs.length=us.length)(Pv:Nat->St->List V->Hp->Prop)(h0:Pv 0 σ [] H)(hl:∀i τ zs H,i<=xs.length->Pv i τ zs H->SqK k K H a xs/\SqK m K H b ys/\SqK e K H c us)
  (hs:∀i x y u T τ zs H,xs[i]?=sO x->ys[i]?=sO y->us[i]?=sO u->H T=nO->Pv i τ zs H->g (.ref T) τ (upd H T (.tup [x,y,u])) λτ2 H2=>tt τ2 H2 λb H3=>if b=tU then te τ2 H3 λy H4=>zs.length < sizeLine/\Pv (i+1) τ2 (zs++[y]) H4 else Pv (i+1) τ2 zs H3)
  (hd:∀τ zs H,Pv xs.length τ zs H->∀p,H p=nO->Q (.ref p) (upd H p (.lst zs))):∃W,(∃m,W 0 m σ [] H)/\lcBy (It3 K k m e a b c) g tt te Q W:=by
 refine⟨λi m τ zs H=>m=xs.length-i/\i<=xs.length/\Pv i τ zs H,⟨xs.length,ba,uS _,h0⟩,?_⟩;rintro i n τ zs H ⟨rfl,hi,p⟩;obtain⟨q1,q2,q3⟩:=hl i τ zs H hi p;by_cases hlt:i < xs.length
 .refine .inr ⟨go3 q1 q2 q3 (uj hlt) (uj (hlen ▸ hlt)) (uj (hlen' ▸ hlt)),Pv (i+1),λτ' zs' H' p'=>⟨xs.length-(i+1),b8,rfl,hlt,p'⟩,λx H' yq=>?_⟩
  obtain⟨T,x,y,z,rfl,hT,rfl,e1,e2,e3⟩:=yld3 yq q1 q2 q3;exact hs i x y z T τ zs H e1 e2 e3 hT p
 .have e:i=xs.length:=b8
  subst e;exact .inl ⟨zem q1 q2 q3 (uk _),hd τ zs H p⟩
end
end L2
namespace GN
open PySem L2 K11
def IsDp(H:Hp):De->aO->Prop
 |.num i,p=>H p=sO (.tup [.str "num",.int i])
 |.op w a b,p=>H p=sO (.tup [.str "op",.str w,.str a,.str b])
 |.app w f xs,p=>∃q,H p=sO (.tup [.str w,.str f,.ref q])/\H q=sO (.tup (xs.map V.str))
def OwA(H:Hp)(od:aO)(ow:Str->List Bool)(N:lS):Prop:=∃kv,H od=sO (.dK kv)/\∀f∈N,∃a,valV kv (.inr f)=sO (.ref a)/\H a=sO (.tup ((ow f).map V.bl))
def CaD(N:lS)(ow:Str->List Bool):De->Prop
 |.app w f xs=>w="call"->f∈N/\(ow f).length=xs.length
 |_=>True
def LnD:De->lS->Prop
 |.op _ _ _,xs=>xs.length=2
 |.app w _ _,xs=>w="ask"->xs≠[]
 |_,_=>True
theorem Zz{w f:Str}{xs0 xs:lS}(e:w≠"ask"):wN (.app w f xs0) xs=.app w f xs:=iN e
theorem zdw{f:Str}{xs0 xs:lS}:wN (.app "ask" f xs0) (y::xs)=.app "ask" y xs:=by unfold wN;exact iP rfl
inductive spWith(vs:List V)(H:Hp)(Q:VK)(e_3:XK):Prop
 |mk (p l:aO) (d:De):∀xs:lS,(vs=[.ref p,.ref l])->(IsDe H d p)->(H l=sO (.lst (xs.map V.str)))->(LnD d xs)->(xs.length<=100)->(∀H' q,Same H H'->IsDp H' (wN d xs) q->Q (.ref q) H')->spWith vs H Q e_3
inductive spUsedUp(vs:List V)(H:Hp)(Q:VK)(e_3:XK):Prop
 |mk (p od:aO) (d:De) (ow:Str->List Bool):∀N:lS,(vs=[.ref p,.ref od])->(IsDe H d p)->(OwA H od ow N)->(CaD N ow d)->(∀H' q,Same H H'->H' q=sO (.tup ((ends ow d).map V.bl))->Q (.ref q) H')->spUsedUp vs H Q e_3
theorem IsDe.head(ow:Str->List Bool)(h:IsDe H d p):∃w0 rest,H p=sO (.tup (.str w0::rest))/\(w0="call"->∃f xs q,d=.app "call" f xs/\rest=[.str f,.ref q])/\(w0≠"call"->d.uses.map (λ_=>V.bl (!decide (V.str w0=V.str "op")))=(ends ow d).map V.bl):=by
 cases h with
 |num a=>exact⟨_,_,a,λe=>absurd e b9,λ_=>rfl⟩
 |op a=>exact⟨_,_,a,λe=>absurd e b9,λ_=>rfl⟩
 |@app w0 f0 xs0 p q0 c a b =>
  refine⟨_,_,a,λe=>⟨f0,xs0,q0,by rw[e],rfl⟩,λe=>?_⟩;rw[show ends ow (.app w0 f0 xs0)=(De.uses (.app w0 f0 xs0)).map λ_=>tU from iN e,UP,eO (λz=>c.2.1 (V.str.inj z))]
  rfl
theorem IsDe.usl(h:IsDe H d p):d.uses.length<=41:=by
 cases h with
 |num a=>show 0<=41;decide
 |op a=>show 2<=41;decide
 |@app w0 f0 xs0 p q0 c a b =>
  by_cases e:w0="ask"
  .rw[e,yL,ui];lia
  .rw[yA e];lia
section
variable{K:uc}
theorem zdx:FnScope ["deed","names"] ["deed","names"] (zq Jx):=.ok
theorem zbb(F:Fun K "with_names" "with_names" Jx f fd)(m_tuple:mg "tuple"=nO):FnOk P w K mg base CX0 1 f fd ["deed","names"] spWith:=by
 refine F.by zdx ?_ ?_
 .rintro _ _ _ _ ⟨_,_,_,_,rfl,_⟩;rfl
 rintro _ _ _ _ H vs _ _ _ ⟨p,l,d,xs,rfl,hd,hl,hn,hx,q⟩;refine⟨_,
  (zh (zF (tN zJ (zj K !0) zu) (zi (zt !0)) zw)
  (zh (zF (tN zJ (zj K !0) zu) (zi (zt (zC wC (yJ wf (!0) yU (yV zp)) (zK (zD K) rfl m_tuple uo (jA1 !1))))) zw)
  (zh (zF (tN zJ (zj K !0) zu) (zi (zt (zy (jA3 zu (zM K !1) (zK (zD K) rfl m_tuple uo (jA1 (yJ (wG K) (!1) (yV zp) yU))))))) zw)
  (zi (zt (zC wC (yJ wf (!0) yU (yV zp)) (zy (jA1 (zK (zD K) rfl m_tuple uo (jA1 !1)))))))))),?_⟩
 have sl:=zN;cases hd with
 |num hp =>
  refine¬(ixT hp aI0 ⟨rfl,¬?_⟩);refine iteT ¬(q _ p (Same.refl _) hp)
 |@op w0 a b p hp =>
  refine¬(ixT hp aI0 ⟨rfl,¬(iteF ?_)⟩);refine(yY rfl hp ?_);refine¬⟨2,rfl,p,¬⟨hp,λp3 H1 s1 h3=>¬⟨l,¬(.inl ⟨SqL.of (s1 _ _ hl),λt4 f4=>?_⟩)⟩⟩⟩;have hn:xs.length=2:=hn
  match xs,hn with
  |[a1,b1],_ =>
  refine⟨p3,t4,[.str "op",.str w0],¬⟨rfl,SqT.of (old f4 h3),SqT.of uX9,bj,sN4,(λe=>by simp at e),λ_ pd fd'=>?_⟩⟩;exact q _ pd (((show Same H H1 from s1).new f4).new fd') uX9
 |@app w0 f0 xs0 p q0 c hp hq =>
  refine¬(ixT hp aI0 ⟨rfl,¬?_⟩);rw[eO (λe=>c.1 (V.str.inj e))];refine iteF ?_;refine¬(ixT hp aI0 ⟨rfl,¬?_⟩);rw[eO (λe=>c.2.1 (V.str.inj e))];refine iteF ?_;refine¬(ixT hp aI0 ⟨rfl,¬?_⟩);by_cases e:w0="ask"
  .subst e
   refine iteT ?_;have hn:=hn rfl
   match xs,hn with
   |y::ys,_ =>
   refine¬(ixL hl aI0 ?_);refine¬⟨1,rfl,l,¬⟨SqL.of hl,λl2 f2=>⟨l2,¬(.inl ⟨SqL.of uX9,λt3 f3=>⟨sN3,λpd fd'=>?_⟩⟩)⟩⟩⟩;have e2:cutV ((y::ys).map V.str) (sO 1) nO=ys.map V.str:=by rw[Yr b9];rfl
   refine q _ pd (((zn f2 _).new f3).new fd') ?_;rw[zdw];refine⟨t3,uX9,old fd' ?_⟩;rw[uX9,e2]
  .rw[eO (λz=>e (V.str.inj z))]
   refine iteF ?_;refine¬⟨2,rfl,p,¬⟨hp,λp3 H1 s1 h3=>¬⟨l,¬(.inl ⟨SqL.of (s1 _ _ hl),λt4 f4=>⟨sN1,λt5 f5=>?_⟩⟩)⟩⟩⟩;refine⟨p3,t5,[.str w0,.str f0],¬⟨rfl,SqT.of (old f5 (old f4 h3)),SqT.of uX9,bj,sN3,(λe=>by simp at e),λ_ pd fd'=>?_⟩⟩;refine q _ pd ((((show Same H H1 from s1).new f4).new f5).new fd') ?_;rw[Zz e];exact⟨t4,uX9,old fd' (old f5 uX9)⟩
theorem Qb:FnScope ["deed","owns"] ["deed","owns"] (zq Zp):=.ok
theorem Qc:(["deed","owns","name"]:lS).Nodup:=be
theorem Vr(F:Fun K "used_up" "used_up" Zp f fd)(GN':Ca P w K mg base CX0 1 "names_of" ["deed"] spNamesOf)(m_tuple:mg "tuple"=nO):FnOk P w K mg base CX0 2 f fd ["deed","owns"] spUsedUp:=by
 refine F.by Qb ?_ ?_
 .rintro _ _ _ _ ⟨_,_,_,_,_,rfl,_⟩;rfl
 rintro _ _ _ _ H vs _ _ hr ⟨p,od,d,ow,N,rfl,hd,ho,hc,q⟩;refine⟨_,
  (zh (zF (tN zJ (zj K !0) zu) (zi (zt (wO hr (!1) (zj K !0)))) zw)
  (zi (zt (zK (zD K) rfl m_tuple uo (jA1 (yn ["name"] rfl (yo K (cA GN' hr (jA1 !0))) (λ_ _ _ _ _=>(gN 2 Qc)) (λ_ _ _ _ _=>zZ) (λ_ _ _ _ _=>(yM xp (zj K !0) zu (xv _))))))))),?_⟩
 have sl:=zN;obtain⟨w0,rest,hp,h1,h2⟩:=hd.head ow;have hul:=hd.usl;refine¬(ixT hp aI0 ⟨rfl,¬?_⟩);by_cases e:w0="call"
 .subst e
  obtain⟨f0,xs,q0,rfl,rfl⟩:=h1 rfl;refine iteT ?_;obtain⟨kv,hkv,hN⟩:=ho;obtain⟨hf,_⟩:=hc rfl;obtain⟨a,g1,g2⟩:=hN _ hf;refine(zv rfl rfl (ixT hp aI1 ⟨od,.ref a,rfl,(show DGet H od (kV (.inr f0)) (sO (.ref a))from g1 ▸ DGet.k hkv),?_⟩));exact q _ a (Same.refl _) g2
 .rw[eO (λz=>e (V.str.inj z))]
  refine iteF ?_;refine¬⟨p,d,rfl,hd,λH1 q1 s1 hq1=>?_⟩;refine⟨q1,rfl,⟨_,SqT.of hq1⟩,xJ (xs:=d.uses.map V.str) (λj τ ys H'=>H1=H'/\(∃v,τ=[sR p,sR od,v])/\ys=(d.uses.take j).map (λ_=>V.bl (!decide (V.str w0=V.str "op")))) ⟨rfl,⟨nO,rfl⟩,rfl⟩ (λj τ ys H' _ h=>SqT.of (h.1 ▸ hq1)) ?_ ?_⟩
  .rintro j v τ ys H2 hv ⟨rfl,⟨v',rfl⟩,rfl⟩
   obtain⟨x,hx,rfl⟩:=L2.gM hv;refine¬(ixT (s1 _ _ hp) aI0 ⟨rfl,by rw[ub,uv];lia,rfl,⟨_,rfl⟩,?_⟩);rw[uA,hx,ur]
   rfl
  .rintro τ ys H2 ⟨rfl,_,rfl⟩ l hl
   rw[ub,UW,h2 e];refine⟨l,¬(.inl ⟨SqL.of uX9,λt ht=>?_⟩)⟩;exact q _ t ((s1.new hl).new ht) uX9
theorem ZA(st:lS):∀(l:List (Str×Bool))(s:lS×Nat),(l.foldl (rpS st) s).1.length=s.1.length+l.length/\(l.foldl (rpS st) s).2=s.2+(l.filter (·.2)).length
 |[],s=>ba
 |p::l,s=>by
  obtain⟨h1,h2⟩:=ZA st l (rpS st s p);rw[UN,h1,h2];unfold rpS;obtain⟨x,e⟩:=p;cases e
  .simp;lia
  .simp;lia
theorem zbc(xs:lS)(es:List Bool)(st:lS)(h:xs.length=es.length):(rpl xs es st).length=xs.length:=by
 unfold rpl;rw[(ZA st _ _).1,Ul,<- h];simp
theorem Vs{l:List (Str×Bool)}{e:Bool}(h:l[i]?=sO (x,e)):(l.filter (·.2)).length=((l.take i).filter (·.2)).length+(if e then 1 else 0)+((l.drop (i+1)).filter (·.2)).length:=by
 obtain⟨hi,h2⟩:=uf.mp h;have e1:l=l.take i++(x,e)::l.drop (i+1):=by rw[<- h2,<- UO hi,List.take_append_drop]
 have e2:(l.filter (·.2)).length=((l.take i++(x,e)::l.drop (i+1)).filter (·.2)).length:=by rw[<- e1]
 rw[e2,U4,ud];cases e
 .simp
 .simp;lia
theorem zdy{H3:Hp}{q3:aO}{rest:List V}{l:lS}(hd:IsDe H d p)(hp:H p=sO (.tup (.str w0::rest)))(h:IsDp H3 (wN d l) q3):(w0="make"/\∃f q,wN d l=.app "make" f l/\H3 q3=sO (.tup [.str "make",.str f,.ref q])/\H3 q=sO (.tup (l.map V.str)))\/(w0≠"make"/\IsHd H3 (wN d l) q3):=by
 cases hd with
 |num a=>rw[a]at hp;cases hp;exact .inr ⟨b9,h⟩
 |op a=>rw[a]at hp;cases hp;exact .inr ⟨b9,h⟩
 |@app w1 f1 xs1 p q1 c a b =>
  rw[a]at hp;cases hp;by_cases e:w0="ask"
  .subst e
   refine .inr ⟨b9,?_⟩;have e2:wN (.app "ask" f1 xs1) l=.app "ask" (l.getD 0 "") (l.drop 1):=by unfold wN;exact iP rfl
   rw[e2]at h ⊢;obtain⟨q,h1,h2⟩:=h;exact⟨q,h1,h2⟩
  .rw[Zz e]at h ⊢
   obtain⟨q,h1,h2⟩:=h;by_cases e3:w0="make"
   .subst e3
    exact .inl ⟨rfl,f1,q,rfl,h1,h2⟩
   .exact .inr ⟨e3,q,by rw[iN e3];exact h1,h2⟩
inductive spHeldDeed(vs:List V)(H:Hp)(Q:VK)(e_3:XK):Prop
 |mk (p qe ls:aO) (d:De) (es:List Bool):∀st:lS,(vs=[.ref p,.ref qe,.ref ls])->(IsDe H d p)->(H qe=sO (.tup (es.map V.bl)))->(H ls=sO (.lst (st.map V.str)))->(d.uses.length=es.length)->(st.length=((d.uses.zip es).filter (·.2)).length)->(∀H' q,Same H H'->IsHd H' (wN d (rpl d.uses es st)) q->Q (.ref q) H')->spHeldDeed vs H Q e_3
theorem scHeldDeed:FnScope ["deed","ends","stand","names","at","name","end","other"] ["deed","ends","stand"] (zq w6):=.ok
theorem Yz(F:Fun K "held_deed" "held_deed" w6 f fd)(GN':Ca P w K mg base CX0 1 "names_of" ["deed"] spNamesOf)(GW:Ca P w K mg base CX0 1 "with_names" ["deed","names"] spWith)(m_zip:mg "zip"=nO):FnOk P w K mg base CX0 2 f fd ["deed","ends","stand"] spHeldDeed:=by
 refine F.by scHeldDeed ?_ ?_
 .rintro _ _ _ _ ⟨_,_,_,_,_,_,rfl,_⟩;rfl
 rintro _ _ _ _ H vs _ _ hr ⟨p,qe,ls,d,es,st,rfl,hd,hqe,hls,hle,hst,q⟩;refine⟨_,
  (zh (sE 3 scHeldDeed.nd (zI zQ))
  (zh (sE 4 scHeldDeed.nd zp)
  (zh (z5 PassesOwn.never rfl (yR K rfl m_zip (jA2 (cA GN' hr (jA1 !0)) !1)) (zW K rfl (zx (gN 5 scHeldDeed.nd) (zx (gN 6 scHeldDeed.nd) zV)))
   (zh (yg (yO uE uN uO zY (!3) (jA1 (xR (zS !6) (xX (zT K) (!2) !4) !5))))
   (zi (sE 4 scHeldDeed.nd (xR (zS !6) (zC yz (!4) zp) !4)))))
  (zh (sE 7 scHeldDeed.nd (cA GW hr (jA2 (!0) !3)))
  (zi (zt (xR (tN zJ (zj K !0) zu) (zC wC (!7) (zy (jA1 zu))) !7))))))),?_⟩
 have sl:=zN;have hul:=hd.usl;refine⟨sN0,λln hln=>?_⟩;have s1:=zn (o:=.lst []) hln;refine¬⟨p,d,rfl,hd.keep (.of s1),λH1 qn s2 hqn=>¬⟨qn,qe,fO,fO,_,_,rfl,SqK.t hqn,SqK.t (s2 _ _ (s1 _ _ hqe)),?_⟩⟩;have hln1:=s2 _ _ (uX9 (H:=H) (a:=ln) (o:=.lst []));have s12:=s1.trans s2;refine x8 (xs:=d.uses.map V.str) (ys:=es.map V.bl) (by rw[ub,ub];exact hle) (λi σ H'=>(∃y z,σ=[sR p,sR qe,sR ls,sR ln,sO (.int (((((d.uses.zip es).take i).foldl (rpS st) ([],0)).2:Nat):Int)),y,z,nO])/\(∀b u,b≠ln->H1 b=sO u->H' b=sO u)/\H' ln=sO (.lst ((((d.uses.zip es).take i).foldl (rpS st) ([],0)).1.map V.str))) ⟨⟨nO,nO,rfl⟩,λ_ _ _ h=>h,hln1⟩ (λi σ H' _ h=>⟨SqK.t (h.2.1 _ _ (yE hqn hln1 bj) hqn),SqK.t (h.2.1 _ _ (yE (s12 _ _ hqe) hln1 bj) (s12 _ _ hqe))⟩) ?_ ?_
 .rintro i v1 v2 T σ H2 hv1 hv2 hT ⟨⟨y,z,rfl⟩,k2,l2⟩
  rw[uh]at hv1 hv2;obtain⟨x,hx,rfl⟩:=ug.mp hv1;obtain⟨e,he,rfl⟩:=ug.mp hv2;have hz:(d.uses.zip es)[i]?=sO (x,e):=UF.mpr ⟨hx,he⟩;have hi:=(uf.mp hz).1;obtain⟨r1,r2⟩:=ZA st ((d.uses.zip es).take i) ([],0);have cnt:=Vs hz;rw[uA,hz,List.foldl_append];generalize ((d.uses.zip es).take i).foldl (rpS st) ([],0)=S at *;obtain⟨nms,at0⟩:=S;dsimp only at r1 r2 l2 ⊢
  simp only[List.length_nil,Nat.zero_add]at r1 r2
  rw[uv]at r1;have hls2:=k2 _ _ (zk hls hln) (s12 _ _ hls);have k3:∀b u,b≠ln->H1 b=sO u->upd H2 T (.tup [.str x,.bl e]) b=sO u:=λb u n h=>old hT (k2 b u n h);have l3:=old (o:=.tup [.str x,.bl e]) hT l2;have hls3:=old (o:=.tup [.str x,.bl e]) hT hls2;refine⟨T,¬⟨SqT.of uX9,rfl,_,_,rfl,_,_,rfl,rfl,?_⟩⟩;generalize upd H2 T (.tup [.str x,.bl e])=H3 at *;have fin:∀(v:Str)(m:Nat),rpS st (nms,at0) (x,e)=(nms++[v],m)->(∃y z,[sO (V.ref p),sO (V.ref qe),sO (V.ref ls),sO (V.ref ln),sO (V.int ((m:Nat):Int)),sO (V.str x),sO (V.bl e),nO]=[sO (V.ref p),sO (V.ref qe),sO (V.ref ls),sO (V.ref ln),sO (V.int (((List.foldl (rpS st) (nms,at0) (Option.toList (sO (x,e)))).2:Nat):Int)),y,z,nO])/\(∀b u,b≠ln->H1 b=sO u->upd H3 ln (.lst (nms.map V.str++[.str v])) b=sO u)/\upd H3 ln (.lst (nms.map V.str++[.str v])) ln=sO (.lst ((List.foldl (rpS st) (nms,at0) (Option.toList (sO (x,e)))).1.map V.str)):=λv m h=>by
   have h':List.foldl (rpS st) (nms,at0) (Option.toList (sO (x,e)))=(nms++[v],m):=h;rw[h'];exact⟨⟨_,_,rfl⟩,λb u n g=>by rw[zo n];exact k3 b u n g,by rw[uX9];simp⟩
  have la:nms.length < sizeLine:=by rw[Ul]at hi;lia
  cases e with
  |true =>
   have ha:at0 < st.length:=by rw[iP rfl]at cnt;lia
   obtain⟨v,hv⟩:∃v,st[at0]?=sO v:=⟨_,uj ha⟩;have ev:rpS st (nms,at0) (x,tU)=(nms++[v],at0+1):=by
    unfold rpS;rw[iP rfl,u5,hv]
    rfl
   have g:=fin v (at0+1) ev;rw[Int.natCast_succ]at g;refine¬⟨.inl ⟨rfl,_,SqL.of l3⟩,(zv rfl rfl (iteT (zv rfl rfl ⟨ls,_,_,.str v,rfl,rfl,SqL.of hls3,?_,?_⟩)))⟩
   .exact yx (by rw[uh,hv];rfl)
   refine⟨ln,(zE rfl rfl ⟨l3,by rw[ub];exact la,?_⟩)⟩;exact(zv rfl rfl (iteT ¬(zE rfl rfl (g))))
  |false =>
   have ev:rpS st (nms,at0) (x,fO)=(nms++[x],at0):=rfl;refine¬⟨.inl ⟨rfl,_,SqL.of l3⟩,(zv rfl rfl (iteF ¬?_))⟩;refine⟨ln,(zE rfl rfl ⟨l3,by rw[ub];exact la,?_⟩)⟩;exact(zv rfl rfl (iteF ¬(fin x at0 ev)))
 .rintro σ H2 ⟨⟨y,z,rfl⟩,k2,l2⟩
  have et:((d.uses.zip es).take (d.uses.map V.str).length)=d.uses.zip es:=um (by rw[Ul,ub];lia);rw[et]at l2 ⊢;have k12:Same H H2:=λb u h=>k2 b u (zk h hln) (s12 _ _ h);have hrl:=zbc d.uses es st hle;refine(zv rfl rfl ⟨p,ln,d,rpl d.uses es st,rfl,hd.keep (.of k12),l2,?_,b8,λH3 q3 s3 h3=>?_⟩)
  .cases hd with
   |num _=>trivial
   |op _=>show(rpl _ _ _).length=2;rw[hrl];rfl
   |@app w0 f0 xs0 p q0 c _ _ =>
    intro e;subst e;intro z;rw[z,yL]at hrl;cases hrl
  obtain⟨w0,rest,hp,_,_⟩:=hd.head λ_=>[];have hp3:=s3 _ _ (k12 _ _ hp);refine¬(ixT hp3 aI0 ⟨rfl,¬?_⟩);rcases zdy hd hp h3 with⟨e,f0,q0,g1,g2,g3⟩|⟨e,g⟩
  .rw[decide_eq_true (by rw[e])]
   refine iteT ¬⟨sN1,λt4 f4=>?_⟩;refine⟨q3,t4,[.str "make",.str f0,.ref q0],¬⟨rfl,SqT.of (old f4 g2),SqT.of uX9,bj,sN4,(λe=>by simp at e),λ_ pd fd'=>?_⟩⟩;refine q _ pd (((k12.trans s3).new f4).new fd') ?_;rw[g1];exact⟨q0,uX9,old fd' (old f4 g3)⟩
  .rw[eO (λz=>e (V.str.inj z))]
   exact iteF ¬(q _ q3 (k12.trans s3) g)
end
def ent(l:lS):List (Key×V):=l.map λx=>(.inr x,.bl tU)
theorem Wr:∀{l:lS}{x:Str},(valV (ent l) (.inr x)).isSome=decide (x∈l)
 |[],x=>rfl
 |y::l,x=>by
  show(valV ((Sum.inr y,V.bl tU)::ent l) (.inr x)).isSome=_;by_cases e:y=x
  .rw[yp (by rw[e])]
   simp[e]
  .have e':Not (x=y):=λz=>e z.symm
   rw[yr (λz=>e (Sum.inr.inj z)),Wr];simp[e']
theorem zbd(l:lS)(x:Str):putK (ent l) (.inr x) (.bl tU)=ent (if x∈l then l else l++[x]):=by
 unfold putK;rw[xD,Wr];by_cases c:x∈l
 .rw[iP (by simpa using c),iP c]
  unfold ent;rw[UP];refine List.map_congr_left λy hy=>?_;show(if(Sum.inr y:Key)=Sum.inr x then((Sum.inr y:Key),V.bl tU)else(Sum.inr y,V.bl tU))=_
  split<;>rfl
 .rw[iN (by simpa using c),iN c]
  unfold ent;rw[ur]
  rfl
theorem Bd.sz_pos(b:Bd):1<=b.sz:=by
 cases b<;>rw[Bd.sz]<;>lia
theorem ZB:∀l:Wy,l.length<=wsz l
 |[]=>uS _
 |p::l=>by
  have h1:=Bd.sz_pos p.2;have h2:=ZB l;unfold wsz at h2 ⊢;rw[uB,Uw,ui];lia
inductive spBound(vs:List V)(H:Hp)(Q:VK)(e_3:XK):Prop
 |mk (p:aO):∀d:Df,(vs=[.ref p])->(IsF H d p)->(d.ns.length<=1000)->(d.b.sz<=1000000)->(∀(H':Hp)(r:aO),Same H H'->H r=nO->H' r=sO (.lst ((once [] (d.ns++d.b.binds)).map V.str))->Q (.ref r) H')->spBound vs H Q e_3
section
variable{K:uc}
theorem scBound:FnScope ["one","found","left","pair","name","way"] ["one"] (zq Xk):=.ok
theorem Qd(F:Fun K "bound" "bound" Xk f fd)(GW:Ca P w K mg base CX0 1 "ways_on" ["body"] spWays)(m_len:mg "len"=nO)(m_reversed:mg "reversed"=nO)(m_list:mg "list"=nO):FnOk P w K mg base CX0 2 f fd ["one"] spBound:=by
 refine F.by scBound ?_ ?_
 .rintro _ _ _ _ ⟨_,_,rfl,_⟩;rfl
 rintro _ _ _ _ H vs _ _ hr ⟨p,df,rfl,hF,hn1,hn2,q⟩;obtain⟨pq,pb,hp,hpq,hpb⟩:=hF.ex;refine⟨_,
  (zh (sE 1 scBound.nd wM)
  (zh (sE 2 scBound.nd (zI (jA1 (zy (jA2 (zj K !0) (xX (xK K) (!0) (xw zp)))))))
  (zh (Z6 PassesOwn.never (tN vJ (zG (zB K) rfl m_len uP (jA1 !2)) zp)
   (zh (sE 3 scBound.nd (Xc uE PySem.F.slot_list_pop PySem.F.type_list_pop V4 !2))
   (zh (z5 PassesOwn.never rfl (yo K (zj K !3)) (gN 4 scBound.nd)
    (zi (vw hr (!1) (!4) yC)))
   (zi (z5 PassesOwn.never rfl (Xh rfl m_reversed (jA1 (cA GW hr (jA1 (zj K !3))))) (gN 5 scBound.nd)
    (zi (yg (yO uE uN uO zY (!2) (jA1 !5)))))))))
  (zi (zt (zK (Zj rfl) rfl m_list UT (jA1 !1))))))),?_⟩
 have sl:=zN;intro d0 hd0;have s1:=zn (o:=.dK []) hd0;refine¬⟨p,_,_,_,rfl,rfl,SqT.of (s1 _ _ hp),aI1,(zv rfl rfl ⟨p,_,_,_,rfl,rfl,SqT.of (s1 _ _ hp),rfl,sN2,λt1 h1=>⟨sN1,λlf h2=>?_⟩⟩)⟩;have s2:=s1.new (o:=.tup [.ref pq,.ref pb]) h1;have flf:H lf=nO:=s2.free h2;have s3:=s2.new (o:=.lst [.ref t1]) h2;have nld:lf≠d0:=(zk (old h1 (uX9 (H:=H) (a:=d0) (o:=.dK []))) h2).symm;have bl:=Bd.binds_len df.b;refine⟨λm σ H'=>∃(stk:Wy)(ps:List aO)(acc:lS)(x y z:Option V),m=wsz stk/\σ=[sR p,sR d0,sR lf,x,y,z]/\Same H H'/\H' lf=sO (.lst (ps.reverse.map V.ref))/\IsY H' stk ps/\H' d0=sO (.dK (ent acc))/\once acc (pend stk)=once [] (df.ns++df.b.binds)/\acc.length+(pend stk).length<=1001000/\wsz stk<=1000000,
  ⟨_,[(df.ns,df.b)],[t1],[],nO,nO,nO,rfl,rfl,s3,uX9,.cons (old h2 uX9) (s3 _ _ hpq) (hpb.keep (.of s3)) .nil,old h2 (old h1 uX9),by unfold pend;simp,by unfold pend;simp;lia,by unfold wsz;simpa using hn2⟩,?_⟩
 rintro m σ H3 ⟨stk,ps,acc,x,y,z,rfl,rfl,sm,hl,hy,hd,ho,hal,hwz⟩;refine¬⟨_,_,rfl,.inl (SqL.of hl),(zE rfl rfl ¬?_)⟩;cases hy with
 |nil =>
  refine iteF ?_;unfold pend at ho;refine¬⟨d0,¬⟨hd,λr hr=>?_⟩⟩;have e:(ent acc).map (λkv=>kV kv.1)=acc.map V.str:=by unfold ent;rw[UP];rfl
  rw[e];refine q _ r (sm.new hr) (sm.free hr) ?_;rw[uX9,<- ho]
  rfl
 |@cons ns b pp q1 r1 l ps hpp hq1 hb hy =>
  have hne:decide ((0:Int) < ((((pp::ps).reverse.map V.ref).length:Nat):Int))=tU:=by
   rw[dA,ub,Ux,ui];lia
  rw[hne];refine iteT ⟨_,λ_ _ h=>h,?_⟩;have e1:(pp::ps).reverse.map V.ref=ps.reverse.map V.ref++[.ref pp]:=ba
  have e2:((pp::ps).reverse.map V.ref)[((pp::ps).reverse.map V.ref).length-1]?=sO (.ref pp):=by rw[e1];simp
  have e3:((pp::ps).reverse.map V.ref).dropLast=ps.reverse.map V.ref:=by rw[e1];simp
  refine¬⟨.inl ⟨rfl,_,SqL.of hl⟩,lf,(zE rfl rfl ⟨hl,e2,?_⟩)⟩;rw[e3];have t4:Tups H3 (upd H3 lf (.lst (ps.reverse.map V.ref))):=λb xs z=>by rw[zo (yE z hl bj)];exact z
  have s4:=sm.put (o:=.lst (ps.reverse.map V.ref)) flf;have hl4:=uX9 (H:=H3) (a:=lf) (o:=.lst (ps.reverse.map V.ref));have hd4:upd H3 lf (.lst (ps.reverse.map V.ref)) d0=sO (.dK (ent acc)):=by rw[zo nld.symm];exact hd
  replace hpp:=t4 _ _ hpp
  replace hq1:=t4 _ _ hq1
  replace hb:=hb.keep t4
  replace hy:=hy.keep t4
  generalize upd H3 lf (.lst (ps.reverse.map V.ref))=H4 at *;have hpd:pend ((ns,b)::l)=ns++(b.binds++pend l):=by unfold pend;rw[Uf,Uo]
  rw[hpd]at ho hal;rw[ud,ud]at hal;have hwc:wsz ((ns,b)::l)=b.sz+wsz l:=by unfold wsz;rw[uB,Uw]
  rw[hwc]at hwz;have hll:=ZB l;have hyl:=hy.len;refine¬⟨pp,_,_,_,rfl,rfl,SqT.of hpp,aI0,q1,rfl,⟨_,SqT.of hq1⟩,xc (xs:=ns.map V.str) (λi σ H'=>Same H H'/\Tups H4 H'/\H' lf=sO (.lst (ps.reverse.map V.ref))/\H' d0=sO (.dK (ent (once acc (ns.take i))))/\∃y z,σ=[sR p,sR d0,sR lf,sR pp,y,z]) ⟨s4,λ_ _ h=>h,hl4,hd4,_,_,rfl⟩ (λi σ H' _ h=>SqT.of (h.2.1 _ _ hq1)) ?_ ?_⟩
  .rintro i v σ H5 hv ⟨s5,t5,hl5,hd5,y,z,rfl⟩
   obtain⟨x,hx,rfl⟩:=L2.gM hv;have hi:i < ns.length:=(uf.mp hx).1;have ol:=v5 (ns.take i) acc;rw[uv]at ol;refine(zv rfl rfl ⟨d0,¬⟨DPut.k (k:=.inr x) hd5 (by unfold ent;rw[ub];lia),s5.put hd0,λb xs z=>?_,?_,?_,_,_,rfl⟩⟩)
   .rw[zo (yE (t5 _ _ z) hd5 bq)]
    exact t5 _ _ z
   .rw[zo nld]
    exact hl5
   .rw[uX9,zbd,<- Vi hx]
  rintro σ H5 ⟨s5,t5,hl5,hd5,y,z,rfl⟩;rw[ub,um (uk _)]at hd5;refine¬⟨pp,_,_,_,rfl,rfl,SqT.of (t5 _ _ hpp),aI1,r1,b,rfl,hb.keep t5,b8,λH6 rl rs s6 f6 hrl hyw=>?_⟩;have hywl:=hyw.len;have hww:=Bd.wsz b;have hwl:=ZB b.ways;have nlr:lf≠rl:=zk hl5 f6;have ndr:d0≠rl:=zk hd5 f6;refine⟨rl,¬⟨SqL.of hrl,Ze (xs:=rs.map V.ref) (λi σ H'=>Same H H'/\Tups H6 H'/\H' rl=sO (.lst (rs.map V.ref))/\H' lf=sO (.lst ((ps.reverse++rs.reverse.take i).map V.ref))/\H' d0=sO (.dK (ent (once acc ns)))/\∃z,σ=[sR p,sR d0,sR lf,sR pp,y,z]) ⟨s5.trans s6,λ_ _ h=>h,hrl,by rw[List.take_zero,u7];exact s6 _ _ hl5,s6 _ _ hd5,_,rfl⟩ (λi σ H' _ h=>SqL.of h.2.2.1) ?_ ?_⟩⟩
  .rintro i v σ H7 hv ⟨s7,t7,hr7,hl7,hd7,z,rfl⟩
   rw[<- List.map_reverse,uh]at hv;obtain⟨t,ht,rfl⟩:=ug.mp hv;have hi:i < rs.length:=by
    have:=(uf.mp ht).1
    rw[Ux]at this;exact this
   refine¬⟨.inl ⟨rfl,_,SqL.of hl7⟩,¬⟨lf,(zE rfl rfl ⟨hl7,?_,s7.put flf,λb xs z=>?_,?_,?_,?_,_,rfl⟩)⟩⟩
   .rw[ub,ud,Ux,uv]
    lia
   .rw[zo (yE (t7 _ _ z) hl7 bq)]
    exact t7 _ _ z
   .rw[zo nlr.symm]
    exact hr7
   .rw[uX9,uA,ht]
    simp
   .rw[zo nld.symm]
    exact hd7
  rintro σ H7 ⟨s7,t7,hr7,hl7,hd7,z,rfl⟩;rw[ub,<- Ux,um (uk _),<- UZ]at hl7;have t47:Tups H4 H7:=(t5.trans (.of s6)).trans t7;refine⟨wsz (b.ways++l),?_,b.ways++l,rs++ps,once acc ns,_,_,_,rfl,rfl,s7,hl7,(hyw.keep t7).app (hy.keep t47),hd7,?_,?_,?_⟩
  .rw[vB,hwc]
   lia
  .rw[Ys,Bd.pend,<- vZ]
   exact ho
  .have ol:=v5 ns acc
   rw[Ys,Bd.pend,ud];lia
  .rw[vB]
   lia
end
noncomputable def Arms.al:Arms->List (Str×lS×Bd)
 |.nil=>[]
 |.cons t ns b r=>(t,ns,b)::r.al
def haL:List (Str×lS×Bool×Hc)->Ha
 |[]=>.nil
 |x::l=>.cons x.1 x.2.1 x.2.2.1 x.2.2.2 (haL l)
def ArmR(H:Hp)(x:Str×lS×Bool×Hc)(v:V):Prop:=∃p q u,v=.ref p/\H p=sO (.tup [.str x.1,.ref q,.str (xa x.2.2.1),.str "",u])/\H q=sO (.tup (x.2.1.map V.str))/\IsHc H x.2.2.2 u
theorem ArmR.keep{x:Str×lS×Bool×Hc}(h:ArmR H x v)(t:Tups H H'):ArmR H' x v:=by obtain⟨p,q,u,e,a,b,c⟩:=h;exact⟨p,q,u,e,t _ _ a,t _ _ b,c.keep t⟩
theorem IsHa.of{l:List (Str×lS×Bool×Hc)}{vs:List V}(h:All2 (ArmR H) l vs):IsHa H (haL l) vs:=by
 induction h with
 |nil=>rfl
 |cons a _ ih=>obtain⟨p,q,u,rfl,h1,h2,h3⟩:=a;exact⟨p,q,u,¬⟨h1,h2,h3,ih⟩⟩
theorem IsA.al{H:Hp}:∀{as:Arms}{ps:List aO},IsA H as ps->All2 (λ(x:Str×lS×Bd) p=>∃q r,H p=sO (.tup [.str x.1,.ref q,.ref r])/\H q=sO (.tup (x.2.1.map V.str))/\IsB H x.2.2 r) as.al ps
 |_,_,.nil=>.nil
 |_,_,.cons a b c d=>.cons ⟨_,_,a,b,c⟩ (IsA.al d)
def armZ(as:Arms)(ms:List Bool)(cs:List Hc):List (Str×lS×Bool×Hc):=(as.al.zip (ms.zip cs)).map λx=>(x.1.1,x.1.2.1,x.2.1,x.2.2)
theorem zbW(ns:lS)(ow:Str->List Bool)(x:Str)(r:lS):∀(as:Arms)(m:Nat),(hA ns ow x r as m).1=haL (armZ as (as.al.map λa=>tkB ns x r a.2.2) ((kA ns ow x r as m).map (Pk.code ns ow)))
 |.nil,m=>by unfold hA kA Arms.al;rfl
 |.cons t xs b as,m=>by
  rw[hA,zbW ns ow x r as,kA,Arms.al]
  rfl
theorem XF(ns:lS)(ow:Str->List Bool)(x:Str)(r:lS):∀(as:Arms)(m:Nat),(kA ns ow x r as m).length=as.al.length
 |.nil,m=>rfl
 |.cons t xs b as,m=>by rw[kA,Arms.al,ui,ui,XF ns ow x r as]
inductive spHeldArms(vs:List V)(H:Hp)(Q:VK)(e_3:XK):Prop
 |mk (pa lm lb:aO) (as:Arms) (ps:List aO) (ms:List Bool) (cs:List Hc):∀us:List V,(vs=[.ref pa,.ref lm,.ref lb])->(H pa=sO (.tup (ps.map V.ref)))->(IsA H as ps)->(H lm=sO (.lst (ms.map λm=>V.str (xa m))))->(H lb=sO (.lst us))->(All2 (IsHc H) cs us)->(as.al.length=ms.length)->(as.al.length=cs.length)->(as.al.length<=1000000)->(∀H' q zs,Same H H'->H' q=sO (.tup zs)->IsHa H' (haL (armZ as ms cs)) zs->Q (.ref q) H')->spHeldArms vs H Q e_3
structure Ln(K:uc)(cL:aO):Prop where
 cl:Cls K cL
 a1:NoAttr K cL "body"
 a2:NoAttr K cL "note"
 a3:NoAttr K cL "names"
def LO(cL dx:aO)(vb vn vl:V):HO:=.ins cL dx [("body",vb),("note",vn),("names",vl)]
inductive spPlInit(cL:aO)(vs:List V)(H:Hp)(Q:VK)(e_3:XK):Prop
 |mk (x dx:aO) (vb vn:V):∀vl:V,(vs=[.ref x,vb,vn,vl])->(H x=sO (.ins cL dx []))->(∀H',(∀b u,b≠x->H b=sO u->H' b=sO u)->H' x=sO (LO cL dx vb vn vl)->Q .non H')->spPlInit cL vs H Q e_3
inductive spPuInit(cP:aO)(vs:List V)(H:Hp)(Q:VK)(e_3:XK):Prop
 |mk (x dx p od:aO):∀d:Df,(vs=[.ref x,.ref p,.ref od])->(H x=sO (.ins cP dx []))->(IsF H d p)->(d.ns.length<=1000)->(d.b.sz<=1000000)->((once [] (d.ns++d.b.binds)).length<=1000)->((once [] (d.ns++d.b.binds)).Nodup)->(∀H' bd,(∀b u,b≠x->H b=sO u->H' b=sO u)->H bd=nO->H' bd=sO (.dK (yF (once [] (d.ns++d.b.binds)) 1))->H' x=sO (PO cP dx od bd 0)->Q .non H')->spPuInit cP vs H Q e_3
section
variable{K:uc}
theorem Qe:FnScope lS3 lS3 (zq Zq):=.ok
theorem Vt(F:Fun K "__init__" "Place.__init__" Zq f fd)(N:Ln K cL):FnOk P w K mg base CX0 1 f fd lS3 (spPlInit cL):=by
 refine F.by Qe ?_ ?_
 .rintro _ _ _ _ ⟨_,_,_,_,_,rfl,_⟩;rfl
 rintro _ _ _ _ _ vs _ _ _ ⟨x,dx,vb,vn,vl,rfl,hx,q⟩;refine⟨_,(zh (xx (!0) !1) (zh (xx (!0) !2) (zi (xx (!0) !3)))),?_⟩;refine(zv rfl rfl ⟨x,cL,dx,¬⟨hx,N.cl,N.a1,by show 0 < 1000;decide,?_⟩⟩);refine(zv rfl rfl ⟨x,cL,dx,¬⟨uX9,N.cl,N.a2,by show 1 < 1000;decide,?_⟩⟩);refine(zv rfl rfl ⟨x,cL,dx,¬⟨uX9,N.cl,N.a3,by show 2 < 1000;decide,?_⟩⟩);refine q _ (λb u n e=>?_) uX9;rw[zo n,zo n,zo n];exact e
theorem Qf:FnScope lS25 lS25 (zq Zr):=.ok
theorem Vu(F:Fun K "__init__" "Putter.__init__" Zr f fd)(N:Pn K cP)(GB:Ca P w K mg base CX0 1 "bits_of" ["names"] spBits)(GD:Ca P w K mg base CX0 2 "bound" ["one"] spBound):FnOk P w K mg base CX0 3 f fd lS25 (spPuInit cP):=by
 refine F.by Qf ?_ ?_
 .rintro _ _ _ _ ⟨_,_,_,_,_,rfl,_⟩;rfl
 rintro _ _ _ _ H vs _ _ hr ⟨x,dx,p,od,d,rfl,hx,hF,h1,h2,h3,h4,q⟩;have hr1:Room 1 _:=hr.mono b9;refine⟨_,(zh (xx (!0) !2) (zh (xx (!0) (cA GB hr1 (jA1 (cA GD hr (jA1 !1))))) (zi (xx (!0) zp)))),?_⟩;refine(zv rfl rfl ⟨x,cP,dx,¬⟨hx,N.cl,N.a1,by show 0 < 1000;decide,?_⟩⟩);have tx:Tups H (upd H x (.ins cP dx (putF "owns" (.ref od) []))):=λb xs e=>by rw[zo (yE e hx bj)];exact e
 refine¬⟨p,d,rfl,hF.keep tx,h1,h2,λH1 r s1 hr1 hr2=>⟨r,_,rfl,hr2,h4,h3,λH2 bd s2 hbd hbd2=>?_⟩⟩;have hx2:=s2 _ _ (s1 _ _ (uX9 (H:=H) (a:=x) (o:=.ins cP dx (putF "owns" (.ref od) []))));have nbx:bd≠x:=λz=>by rw[z,s1 _ _ uX9]at hbd;cases hbd
 refine¬⟨x,cP,dx,¬⟨hx2,N.cl,N.a2,by show 1 < 1000;decide,?_⟩⟩;refine¬⟨x,cP,dx,¬⟨uX9,N.cl,N.a3,by show 2 < 1000;decide,?_⟩⟩;refine q _ bd (λb u n e=>?_) ?_ (by rw[zo nbx,zo nbx];exact hbd2) uX9
 .rw[zo n,zo n]
  exact s2 _ _ (s1 _ _ (by rw[zo n];exact e))
 .have:=s1.free hbd
  rw[zo nbx]at this;exact this
theorem XG:FnScope lS26 lS26 (zq w9):=.ok
theorem wx:(["arms","modes","bodies","arm","mode","body"]:lS).Nodup:=be
theorem YA(F:Fun K "held_arms" "held_arms" w9 f fd)(m_tuple:mg "tuple"=nO)(m_zip:mg "zip"=nO):FnOk P w K mg base CX0 1 f fd lS26 spHeldArms:=by
 refine F.by XG ?_ ?_
 .rintro _ _ _ _ ⟨_,_,_,_,_,_,_,_,rfl,_⟩;rfl
 rintro _ _ _ _ H vs _ _ _ ⟨pa,lm,lb,as,ps,ms,cs,us,rfl,hpa,hA,hlm,hlb,hcs,e1,e2,e3,q⟩;refine⟨_,(zi (zt (zK (zD K) rfl m_tuple uo (jA1 (yn ["arm","mode","body"] rfl (za9 rfl m_zip (jA3 (!0) (!1) !2)) (λ_ _ _ _ _=>(zW K (n:=3) rfl (zx (gN 3 wx) (zx (gN 4 wx) (zx (gN 5 wx) zV))))) (λ_ _ _ _ _=>zZ) (λ_ _ _ _ _=>(zy (jA5 (zj K !3) (zj K !3) (!4) zu !5)))))))),?_⟩;have sl:=zN;have hal:=hA.al;have pl:=hal.len;have cl:=hcs.len;refine(zv rfl rfl ¬⟨pa,lm,lb,fO,tU,tU,_,_,_,rfl,SqK.t hpa,SqK.l hlm,SqK.l hlb,zba (xs:=ps.map V.ref) (ys:=ms.map λm=>V.str (xa m)) (us:=us) bp bc (λj τ zs H'=>Same H H'/\(∃a b c,τ=[sR pa,sR lm,sR lb,a,b,c])/\All2 (ArmR H') ((armZ as ms cs).take j) zs) ⟨Same.refl _,⟨nO,nO,nO,rfl⟩,.nil⟩ (λj τ zs H' _ h=>⟨SqK.t (h.1 _ _ hpa),SqK.l (h.1 _ _ hlm),SqK.l (h.1 _ _ hlb)⟩) ?_ ?_⟩)
 .rintro i v1 v2 v3 T τ zs H1 g1 g2 g3 hT ⟨s1,⟨a,b,c,rfl⟩,hz⟩
  rw[uh]at g1 g2;obtain⟨p0,hp0,rfl⟩:=ug.mp g1;obtain⟨m0,hm0,rfl⟩:=ug.mp g2;obtain⟨x,hx,q0,r0,x1,x2,x3⟩:=hal.get hp0;obtain⟨c0,hc0,hcv⟩:=hcs.get g3;have hget:(armZ as ms cs)[i]?=sO (x.1,x.2.1,m0,c0):=by
   unfold armZ;rw[uh,(UF (z:=(x,(m0,c0)))).mpr ⟨hx,UF.mpr ⟨hm0,hc0⟩⟩]
   rfl
  have hi:=(uf.mp hx).1;have zl:=hz.len;rw[uv]at zl;have s2:=s1.new (o:=.tup [.ref p0,.str (xa m0),v3]) hT;refine⟨T,¬⟨SqT.of uX9,rfl,_,_,rfl,_,_,rfl,_,_,rfl,rfl,?_⟩⟩;have hz2:=hz.imp λ_ _ h=>ArmR.keep h (.of (zn hT (.tup [.ref p0,.str (xa m0),v3])));generalize upd H1 T (.tup [.ref p0,.str (xa m0),v3])=H2 at *;refine¬(ixT (s2 _ _ x1) aI0 ¬(ixT (s2 _ _ x1) aI1 (zv rfl rfl ⟨sN5,λt ht=>⟨b8,s2.new ht,⟨_,_,_,rfl⟩,?_⟩⟩)));rw[uA,hget];exact All2.app (hz2.imp λ_ _ h=>ArmR.keep h (.of (zn ht _))) (.cons ⟨t,q0,v3,rfl,uX9,old ht (s2 _ _ x2),hcv.keep (.of (s2.new ht))⟩ .nil)
 .rintro τ zs H1 ⟨s1,_,hz⟩ l hl
  have el:(armZ as ms cs).take (ps.map V.ref).length=armZ as ms cs:=um (by unfold armZ;rw[ub,ub,Ul,Ul];lia);rw[el]at hz;refine⟨l,¬(.inl ⟨SqL.of uX9,λt ht=>?_⟩)⟩;exact q _ t zs ((s1.new hl).new ht) uX9 (IsHa.of (hz.imp λ_ _ h=>ArmR.keep h (.of ((zn hl _).new ht))))
end
theorem wg{K:uc}{k:Nat}{body:Expr}{cl:List (Str×aO)}{fs:lS}{Q:VK}{fvs:List V}
  (S:LamScope N [x] fs scope) (bd:Binds K (lamC mg qual params body scope cl c ct) [x] []) (hf:H f=sO (FunO f (lamC mg qual params body scope cl c ct))) (hc:H c=sO (CodO c qual)) (C:Clo H cl fs fvs)
  (hb:∀(A:Around)(outer:List Env)(s:Shared),Room k (A.deeper (tH qual scope s.heap.objs.size f (.ref c) cl))->∃t,jE (X8 CX0 P w K mg base N qual scope f (.ref c) cl A outer s H E0) body t/\t (sO v::fvs.map sO) (yh H (cl.map (·.2))) λr H'=>(∀a∈cl.map (·.2),H' a=nO)->Q r (xB H' H (cl.map (·.2)))) :
  CanC P w K mg base (k+1) H f [v] Q E0:=by
 refine⟨lamC mg qual params body scope cl c ct,[x],λvs H1 Q1 E1=>vs=[v]/\H1=H/\Q1=Q/\E1=E0,Zg (k:=k) S (λvs H1 Q1 E1 h=>?_) (λA outer s H1 vs Q1 E1 hr h=>?_),bd,⟨rfl,rfl,rfl,rfl⟩,.inl hf⟩
 .rw[h.1];rfl
 .obtain⟨rfl,rfl,rfl,rfl⟩:=h
  exact⟨hf,hc,fvs,C,hb A outer s hr⟩
noncomputable def isLam:Expr->Expr
 |.Tuple [_,l] _ _=>l
 |.Call _ [_,l] _ _=>l
 |e=>e
def lmP:Expr->Arguments
 |.Lambda a _ _ _=>a
 |_=>yi yZ
def lmB:Expr->Expr
 |.Lambda _ b _ _=>b
 |e=>e
def lmS:Expr->Scope
 |.Lambda _ _ s _=>s
 |_=>zq yZ
def xO:Expr->Pos
 |.Lambda _ _ _ p=>p
 |_=>⟨0,0,0,0⟩
def wU:List Stmt->Expr
 |[.Return (sO e) _]=>isLam e
 |_::r=>wU r
 |[]=>.Constant .none 0 ⟨0,0,0,0⟩
def jL:Expr:=wU (zP x9)
def jM:Expr:=match zP xE with
 |[_,_,_,.If _ [_,.Return (sO e) _] _ _,_,_]=>isLam e
 |_=>.Constant .none 0 ⟨0,0,0,0⟩
def jN:Expr:=wU (zP xE)
def jP:Expr:=wU (zP vy)
def jQ:Expr:=wU (zP wR)
def zbX:Str:=("begun_place":Str)++(".<locals>.":Str)++("<lambda>":Str)
def Ws:Str:=("begun_piece":Str)++(".<locals>.":Str)++("<lambda>":Str)
def zbY:Str:=("begun_let":Str)++(".<locals>.":Str)++("<lambda>":Str)
def zbZ:Str:=("begun_case":Str)++(".<locals>.":Str)++("<lambda>":Str)
def ls4:List (Pos×Str):=[(xO jL,zbX)]
def ls5:List (Pos×Str):=[(xO jM,Ws),(xO jN,Ws)]
def ls6:List (Pos×Str):=[(xO jP,zbY)]
def ls7:List (Pos×Str):=[(xO jQ,zbZ)]
structure HX where
 cP:aO
 cL:aO
 pu:aO
 dx:aO
 od:aO
 bd:aO
 T4:aO
 T5:aO
 T6:aO
 T7:aO
 ns:lS
 ow:Str->List Bool
 N:lS
def HX.M(X:HX)(b:aO):Prop:=b=X.pu\/b=X.T4\/b=X.T5\/b=X.T6\/b=X.T7
structure XOk(X:HX):Prop where
 nd:[X.T4,X.T5,X.T6,X.T7].Nodup
 sh:∀x∈X.ns,x.length<=1000
structure POk(X:HX)(m:Nat)(H:Hp):Prop where
 o:H X.pu=sO (PO X.cP X.dx X.od X.bd m)
 b:H X.bd=sO (.dK (yF X.ns 1))
 w:OwA H X.od X.ow X.N
 t4:TbG X.T4 ls4 H
 t5:TbG X.T5 ls5 H
 t6:TbG X.T6 ls6 H
 t7:TbG X.T7 ls7 H
end GN
namespace L2
open PySem
theorem TbG.same{ls:List (Pos×Str)}(h:TbG T ls H)(s:Same H H'):TbG T ls H':=h.keep (λps e=>s _ _ e) λc q e=>s _ _ e
theorem TbG.no{ls:List (Pos×Str)}(h:TbG T ls H){u:HO}(e:H b=sO u)(n:∀ps,u≠.tbl ps):b≠T:=λz=>by
 obtain⟨ps,h,_⟩:=h;rw[z,h]at e;exact n _ (u4.inj e).symm
end L2
namespace GN
open PySem L2 K11
variable{X:HX}{Q:VK}
theorem OwA.keep{od:aO}(h:OwA H od ow N)(k:∀b u,H b=sO u->(∀ps,u≠.tbl ps)->(∀C dx fs,u≠.ins C dx fs)->(∀xs,u≠.lst xs)->H' b=sO u):OwA H' od ow N:=by
 obtain⟨kv,h1,h2⟩:=h;refine⟨kv,k _ _ h1 nq nq3 nq,λf hf=>?_⟩;obtain⟨a,g1,g2⟩:=h2 f hf;exact⟨a,g1,k _ _ g2 nq nq3 nq⟩
section
variable{m':Nat}
theorem POk.no(h:POk X m H){u:HO}(e:H b=sO u)(n:∀ps,u≠.tbl ps)(n2:∀k,u≠PO X.cP X.dx X.od X.bd k):Not (X.M b):=by
 rintro(z|z|z|z|z)
 .rw[z,h.o]at e;exact n2 _ (u4.inj e).symm
 .exact h.t4.no e n z
 .exact h.t5.no e n z
 .exact h.t6.no e n z
 .exact h.t7.no e n z
theorem POk.noL(h:POk X m H)(e:H b=sO (.lst xs)):Not (X.M b):=h.no e nq nq
theorem POk.noT(h:POk X m H)(e:H b=sO (.tup xs)):Not (X.M b):=h.no e nq nq
theorem POk.noI(h:POk X m H){vb vn vl:V}(e:H b=sO (LO X.cL dx vb vn vl)):Not (X.M b):=h.no e nq (by intro _ z;unfold LO PO at z;injection z with _ _ z;injection z with z _;injection z with z _;exact absurd z b9)
theorem POk.noF(h:POk X m H)(e:H b=sO (FunO b fd)):Not (X.M b):=h.no e nq (by intro _ z;unfold FunO PO at z;cases z)
theorem POk.noC(h:POk X m H){q:Str}(e:H b=sO (CodO b q)):Not (X.M b):=h.no e nq (by intro _ z;unfold CodO PO at z;cases z)
theorem POk.put(h:POk X m H)(k:KM X.M H H')(o:H' X.pu=sO (PO X.cP X.dx X.od X.bd m'))(t4:TbG X.T4 ls4 H')(t5:TbG X.T5 ls5 H')(t6:TbG X.T6 ls6 H')(t7:TbG X.T7 ls7 H'):POk X m' H':=by
 refine⟨o,k _ _ (h.no h.b nq nq) h.b,h.w.keep λb u e n1 n2 _=>k _ _ (h.no e n1 λk=>?_) e,t4,t5,t6,t7⟩;unfold PO;exact n2 _ _ _
theorem POk.same(h:POk X m H)(s:Same H H'):POk X m H':=h.put (.of s) (s _ _ h.o) (h.t4.same s) (h.t5.same s) (h.t6.same s) (h.t7.same s)
theorem POk.tups(h:POk X m H)(k:KM X.M H H'):Tups H H':=λb xs e=>k _ _ (h.noT e) e
theorem POk.cnt(h:POk X m H)(k:KM (·=X.pu) H H')(o:H' X.pu=sO (PO X.cP X.dx X.od X.bd m')):POk X m' H':=by
 have nT:∀{T ls},TbG T ls H->TbG T ls H':=λ{T ls} t=>t.keep (λps e=>k _ _ (λz=>by rw[z,h.o]at e;unfold PO at e;cases e) e) (λc q e=>k _ _ (λz=>by rw[z,h.o]at e;unfold PO CodO at e;cases e) e);exact h.put (λb u n e=>k b u (λz=>n (.inl z)) e) o (nT h.t4) (nT h.t5) (nT h.t6) (nT h.t7)
theorem yB{T':aO}{ls ls':List (Pos×Str)}(h:TbG T ls H)(k:KM (·=T') H H')(n:T≠T')(h':TbG T' ls' H):TbG T ls H':=h.keep (λps e=>k _ _ n e) λc q e=>k _ _ (h'.no e nq) e
theorem POk.tb4(x:XOk X)(h:POk X m H)(k:KM (·=X.T4) H H')(t:TbG X.T4 ls4 H'):POk X m H':=by
 have nd:=x.nd;simp at nd
 exact h.put (λb u n e=>k b u (λz=>n (.inr (.inl z))) e) (k _ _ (h.t4.no h.o nq) h.o) t (yB h.t5 k (λz=>nd.1.1 z.symm) h.t4) (yB h.t6 k (λz=>nd.1.2.1 z.symm) h.t4) (yB h.t7 k (λz=>nd.1.2.2 z.symm) h.t4)
theorem POk.tb5(x:XOk X)(h:POk X m H)(k:KM (·=X.T5) H H')(t:TbG X.T5 ls5 H'):POk X m H':=by
 have nd:=x.nd;simp at nd
 exact h.put (λb u n e=>k b u (λz=>n (.inr (.inr (.inl z)))) e) (k _ _ (h.t5.no h.o nq) h.o) (yB h.t4 k nd.1.1 h.t5) t (yB h.t6 k (λz=>nd.2.1.1 z.symm) h.t5) (yB h.t7 k (λz=>nd.2.1.2 z.symm) h.t5)
theorem POk.tb6(x:XOk X)(h:POk X m H)(k:KM (·=X.T6) H H')(t:TbG X.T6 ls6 H'):POk X m H':=by
 have nd:=x.nd;simp at nd
 exact h.put (λb u n e=>k b u (λz=>n (.inr (.inr (.inr (.inl z))))) e) (k _ _ (h.t6.no h.o nq) h.o) (yB h.t4 k nd.1.2.1 h.t6) (yB h.t5 k nd.2.1.1 h.t6) t (yB h.t7 k (λz=>nd.2.2 z.symm) h.t6)
theorem POk.tb7(x:XOk X)(h:POk X m H)(k:KM (·=X.T7) H H')(t:TbG X.T7 ls7 H'):POk X m H':=by
 have nd:=x.nd;simp at nd
 exact h.put (λb u n e=>k b u (λz=>n (.inr (.inr (.inr (.inr z))))) e) (k _ _ (h.t7.no h.o nq) h.o) (yB h.t4 k nd.1.2.2 h.t7) (yB h.t5 k nd.2.1.2 h.t7) (yB h.t6 k nd.2.2 h.t7) t
end
mutual
def OkB(X:HX):Bd->Prop
 |.give x=>x∈X.ns
 |.lt x d b=>(x∈X.ns/\(∀y∈d.uses,y∈X.ns)/\CaD X.N X.ow d)/\OkB X b
 |.iff _ a b=>OkB X a/\OkB X b
 |.case _ as=>OkA X as
def OkA(X:HX):Arms->Prop
 |.nil=>True
 |.cons _ xs b r=>((∀y∈xs,y∈X.ns)/\OkB X b)/\OkA X r
end
structure Side(X:HX)(b:Bd)(l:lS)(m:Nat):Prop where
 ln:∀x∈l,x∈X.ns
 ok:OkB X b
 mz:m+41*b.sz<=LIMT
 sz:b.sz<=400000
 nb:l.length+b.binds.length<=2000000
def ITp(X:HX)(H:Hp)(R:aO->Prop)(b:Bd)(l:lS)(v:V):Prop:=∃pl dxl p ln vn,v=.ref pl/\H pl=sO (LO X.cL dxl (.ref p) vn (.ref ln))/\IsB H b p/\IsN X.ns H R b vn/\H ln=sO (.lst (l.map V.str))/\R ln
def ITk(X:HX)(H:Hp)(R:aO->Prop)(t:Pk)(v:V):Prop:=Side X t.b t.l t.m/\ITp X H R t.b t.l v
theorem ITp.keep{b:Bd}{l:lS}(h:ITp X H R b l v)(ok:POk X m H)(z:Kz X.M R H H')(sub:∀b,R b->R' b):ITp X H' R' b l v:=by
 obtain⟨pl,dxl,p,ln,vn,e,h1,h2,h3,h4,h5⟩:=h;have tp:Tups H H':=λb xs e=>z _ _ e (ok.noT e) (by intro _ z;cases z);exact⟨pl,dxl,p,ln,vn,e,z _ _ h1 (ok.noI h1) (by intro _ z;unfold LO at z;cases z),h2.keep tp,h3.keep ⟨tp,λa xs ra e=>z a _ e (ok.noL e) λ_ _=>ra,sub⟩,z _ _ h4 (ok.noL h4) (λ_ _=>h5),sub _ h5⟩
def pcP(ns:lS)(ow:Str->List Bool):Bd->lS->Nat->Hc
 |.give x,r,m=>wH (spn r [x] m).2.1 (.give ((spn r [x] m).1.getD 0 ""))
 |.lt x d b,r,m=>wH (spL ns ow d b r m).2.1 (.lt x (hdD ow d (spL ns ow d b r m).1) (hB ns ow b (stL r (spL ns ow d b r m).1 x) (spL ns ow d b r m).2.2).1)
 |.iff x a b,r,m=>.iff x (hB ns ow a r m).1 (hB ns ow b r (hB ns ow a r m).2).1
 |.case x as,r,m=>.case x (hA ns ow x r as m).1
theorem zeo(ns:lS)(ow:Str->List Bool)(b:Bd)(l:lS)(m:Nat):(hB ns ow b l m).1=wD (dO ns b l) (pcP ns ow b (rO ns b l) m):=by
 cases b<;>rw[hB]<;>rfl
section
variable(P:Program)(w:World)(K:uc)(mg:Str->Option aA)(base:Heap)(k:Nat)(X:HX)
def Fin(H:Hp)(R:aO->Prop)(cs:List Hc)(c:Hc)(f:aO):Prop:=∀(H':Hp)(R':aO->Prop),Kz X.M R H H'->(∀b,R b->R' b)->∀rl rs Q,H' rl=sO (.lst rs)->All2 (IsHc H') cs rs->(∀H'' v,Same H' H''->IsHc H'' c v->Q v H'')->CanC P w K mg base k H' f [.ref rl] Q E0
def BegQ(m:Nat)(b:Bd)(r:lS)(H:Hp)(R:aO->Prop)(Q:VK):Prop:=∀(H':Hp)(q l fl:aO)(vs:List V)(R':aO->Prop),KM X.M H H'->POk X (midP X.ns X.ow b r m) H'->H' q=sO (.tup [.ref l,.ref fl])->H l=nO->H' l=sO (.lst vs)->(∀b,R b->R' b)->(∀b,R' b->R b\/H b=nO)->(∀b,R' b->H' b≠nO)->R' l->All2 (ITk X H' R') (kP X.ns X.ow b r m) vs->(∃fd,H' fl=sO (FunO fl fd))->Fin P w K mg base k X H' R' ((kP X.ns X.ow b r m).map (Pk.code X.ns X.ow)) (pcP X.ns X.ow b r m) fl->Q (.ref q) H'
inductive spBeg(c:Bd->Prop)(vs:List V)(H:Hp)(Q:VK)(e_3:XK):Prop
 |mk (pl dxl p ln:aO) (vn:V) (b:Bd) (r:lS) (m:Nat):∀R:aO->Prop,(vs=[.ref X.pu,.ref pl])->(c b)->(H pl=sO (LO X.cL dxl (.ref p) vn (.ref ln)))->(IsB H b p)->(IsN X.ns H R b vn)->(H ln=sO (.lst (r.map V.str)))->(R ln)->(Side X b r m)->(POk X m H)->((∀b,R b->H b≠nO))->((∀b,R b->Not (X.M b)))->(BegQ P w K mg base k X m b r H R Q)->spBeg c vs H Q e_3
end
theorem wj{cl:List (Str×aO)}{fvs:List V}(nd:(cl.map (·.1)).Nodup)(na:(cl.map (·.2)).Nodup)(hl:fvs.length=cl.length)(h:∀(i:Nat)(p:Str×aO)(v:V),cl[i]?=sO p->fvs[i]?=sO v->Cel H p.2 v):Clo H cl (cl.map (·.1)) fvs:=by
 have lk:∀{l:List (Str×aO)}{x:Str}{a:aO},(l.map (·.1)).Nodup->(x,a)∈l->l.lookup x=sO a:=by
  intro l x a
  induction l with
  |nil=>intro _ h;cases h
  |cons p l ih =>
   intro n h;rw[uB,uV]at n;obtain⟨y,c⟩:=p;rcases uq.mp h with e|h
   .cases e
    rw[Uv];simp
   .have ne:(x == y)=fO:=by
     rw[beq_eq_false_iff_ne];intro e;exact n.1 (uz.mpr ⟨_,h,e⟩)
    rw[Uv,ne];exact ih n.2 h
 have ml:∀{l:List (Str×aO)}{x:Str}{a:aO},l.lookup x=sO a->(x,a)∈l:=λe=>uW e;refine⟨by rw[ub];exact hl,λp hp=>?_,λi x v e1 e2=>?_,λx hx=>?_,λx y a e1 e2=>?_⟩
 .obtain⟨i,hi⟩:=U9.mp hp
  have:i < fvs.length:=by rw[hl];exact(uf.mp hi).1
  exact⟨_,h i p _ hi (uj this)⟩
 .obtain⟨p,hp,rfl⟩:=L2.gM e1
  exact⟨p.2,lk nd (uu hp),h i p v hp e2⟩
 .obtain⟨p,hp,rfl⟩:=uz.mp hx
  exact⟨p.2,lk nd hp⟩
 .have m1:=ml e1
  have m2:=ml e2;have aux:∀{l:List (Str×aO)},(l.map (·.2)).Nodup->(x,a)∈l->(y,a)∈l->x=y:=by
   intro l
   induction l with
   |nil=>intro _ h;cases h
   |cons p l ih =>
    intro n h1 h2;rw[uB,uV]at n;rcases uq.mp h1 with e1|h1<;>rcases uq.mp h2 with e2|h2
    .rw[<- e1]at e2;exact(Prod.mk.inj e2).1.symm
    .exact absurd (uz.mpr ⟨_,h2,by rw[<- e1]⟩) n.1
    .exact absurd (uz.mpr ⟨_,h1,by rw[<- e2]⟩) n.1
    .exact ih n.2 h1 h2
  exact aux na m1 m2
def cl6(c1 c2 c3:aO):List (Str×aO):=[("spending",c1),("done",c2),("body",c3)]
theorem zdz:LamScope ["results","spending","done","body"] ["results"] ["spending","done","body"] (lmS jP):=.ok
theorem YB{l:List (Str×Bool)}{e:Bool}(h:l[i]?=sO (x,e)):((l.take (i+1)).filter (·.2)).map (λp=>V.str p.1)=((l.take i).filter (·.2)).map (λp=>V.str p.1)++(if e then[V.str x]else[]):=by
 rw[uA,h,U4,ur];cases e<;>rfl
theorem Vv{l:List (Str×Bool)}{e:Bool}(h:l[i]?=sO (x,e)):((l.take (i+1)).filter λp=>!p.2).map (λp=>V.str p.1)=((l.take i).filter λp=>!p.2).map (λp=>V.str p.1)++(if e then[]else[V.str x]):=by
 rw[uA,h,U4,ur];cases e<;>rfl
theorem wV{l:lS}{g:Str->Bool}(h:l[i]?=sO x):((l.take (i+1)).filter g).map V.str=((l.take i).filter g).map V.str++(if g x then[V.str x]else[]):=by
 rw[uA,h,U4,ur];cases e:g x
 .simp[e]
 .simp[e]
theorem POk.ne(h:POk X m H)(z:X.M b):H b≠nO:=by
 have tb:∀{T ls},TbG T ls H->H T≠nO:=λ{T ls}⟨ps,q,_⟩=>by rw[q];simp
 rcases z with z|z|z|z|z
 .rw[z,h.o];simp
 .rw[z];exact tb h.t4
 .rw[z];exact tb h.t5
 .rw[z];exact tb h.t6
 .rw[z];exact tb h.t7
section
variable{K:uc}
theorem scBegLet:FnScope ["putter","place","body","deed","ends","spent","lent","behind","free","spending","stay","done"] lS1 (zq vy):=.ok
theorem YC:(["putter","place","body","deed","ends","spent","lent","behind","free","spending","stay","done","name"]:lS).Nodup:=be
theorem wm:(["putter","place","body","deed","ends","spent","lent","behind","free","spending","stay","done","name","end"]:lS).Nodup:=be
theorem Vw(F:FunC K "begun_let" vy c f fd)(hB:BMn mg base)(hc:u6 K c X.T6=tU)(x0:XOk X)(N:Pn K X.cP)(L:Ln K X.cL)(GU:Ca P w K mg base CX0 2 "used_up" ["deed","owns"] spUsedUp)(GO:Ca P w K mg base CX0 1 "names_of" ["deed"] spNamesOf)(GA:Me P w K mg base CX0 1 X.cP "is_ahead" lS15 (spAhd X.cP))(GS:Me P w K mg base CX0 2 X.cP "spent" lS24 (spSpent X.cP))(GH:Ca P w K mg base CX0 2 "held_deed" ["deed","ends","stand"] spHeldDeed)(GL:Ma P w K mg base CX0 1 "Place" X.cL lS3 (spPlInit X.cL))(GW:Ca P w K mg base CX0 1 "with_holds" ["pairs","body"] spHolds)(m_zip:mg "zip"=nO):FnOk P w K mg base CX0 3 f fd lS1 (spBeg P w K mg base 2 X λb=>∃x d b',b=.lt x d b'):=by
 refine F.byR scBegLet (λvs H Q E h=>?_) (λA outer s H vs Q E hr h fresh=>?_)
 .obtain⟨pl,dxl,p,ln,vn,b,r,m,R,rfl,_⟩:=h
  rfl
 obtain⟨pl,dxl,p,ln,vn,b0,r,m,R,rfl,⟨x,d,b,rfl⟩,hpl,hb,hN,hln,hRl,hS,hP,hRd,hRM,q⟩:=h;have hr1:Room 1 _:=hr.mono b9;refine⟨_,
  (z6 (sE 2 scBegLet.nd (zO K !1))
  (z6 (sE 3 scBegLet.nd (zj K !2))
  (z6 (sE 4 scBegLet.nd (cA GU hr (jA2 (!3) (zO K !0))))
  (z6 (yu ["name","end"] (i:=5) scBegLet.nd rfl (Or.inl rfl) rfl (yR K rfl m_zip (jA2 (cA GO hr1 (jA1 !3)) !4)) (λ_ _ _ _ _=>(zW K (n:=2) rfl (zx (gN 12 wm) (zx (gN 13 wm) zV)))) (λ_ _ _ _ _=>(yD (zS (jv 13)))) (λ_ _ _ _ _=>(jv 12)))
  (z6 (sE 6 scBegLet.nd (yn ["name","end"] rfl (yR K rfl m_zip (jA2 (cA GO hr1 (jA1 !3)) !4)) (λ_ _ _ _ _=>(zW K (n:=2) rfl (zx (gN 12 wm) (zx (gN 13 wm) zV)))) (λ_ _ _ _ _=>(yD (yv (zS (jv 13))))) (λ_ _ _ _ _=>(jv 12))))
  (z6 (sE 7 scBegLet.nd (zM K (zj K (zO K !1))))
  (z6 (yu ["name"] (i:=8) scBegLet.nd rfl (Or.inl rfl) rfl (zU K (zO K !1)) (λ_ _ _ _ _=>(gN 12 YC)) (λ_ _ _ _ _=>(yD (jW.pt (xQ (yv (zS (vM (!0) N.cl GA hr1 yN (jA2 (jv 12) !7)))) (xt (wK K (jv 12) !6)))))) (λ_ _ _ _ _=>(jv 12)))
  (z6 (sE 9 scBegLet.nd (vM (!0) N.cl GS hr yN (jA2 (!5) !8)))
  (z6 (sE 10 scBegLet.nd (zC yP (yn ["name"] rfl (zU K (zO K !1)) (λ_ _ _ _ _=>(gN 12 YC)) (λ_ _ _ _ _=>(yD (wK K (jv 12) (zj K !9)))) (λ_ _ _ _ _=>(jv 12))) (zI (jA1 (zj K !2)))))
  (z6 (sE 11 scBegLet.nd (cA GH hr (jA3 (!3) (!4) (zj K !9))))
  (xV (zy (jA2 (zI (jA1 (vi GL hr rfl yN (jA3 (zj K !2) (!7) (jv 10))))) (xu (params:=lmP jP) (body:=lmB jP) (scope:=lmS jP) (pos:=xO jP) (T:=X.T6) (qual:=zbY) (cl:=cl6 (s.heap.objs.size+6) (s.heap.objs.size+5) (s.heap.objs.size+4)) hB rfl hc rfl)))))))))))))),?_⟩
 have sl:=zN;obtain⟨pd,pb,hp,hd,hb'⟩:∃pd pb,H p=sO (.tup [.str "let",.str x,.ref pd,.ref pb])/\IsDe H d pd/\IsB H b pb:=by
  cases hb with
  |lt a b c=>exact⟨_,_,a,b,c⟩
 obtain⟨wv,⟨qn,lnn,rfl,hqn,hRn,hlnn⟩,hNb⟩:=id hN;obtain⟨⟨hxn,hun,hca⟩,hokb⟩:=show((x∈X.ns/\(∀y∈d.uses,y∈X.ns)/\CaD X.N X.ow d)/\OkB X b)from hS.ok
 have hus:=hd.usl;refine cutE λD_ hD_=>?_;refine zbO λr1_ hr1_=>?_;refine¬⟨pl,X.cL,dxl,_,_,rfl,hpl,L.cl,L.a1,rfl,?_⟩;refine¬(ixT hp aI2 ?_);refine(zv rfl rfl ⟨X.pu,X.cP,X.dx,_,_,rfl,hP.o,N.cl,N.a1,rfl,pd,X.od,d,X.ow,X.N,rfl,hd,hP.w,hca,λH1 qe s1 hqe=>?_⟩);show r1_ D_ _ H1;subst hr1_;refine Yf λr2_ hr2_=>?_;have hel:d.uses.length=(ends X.ow d).length:=by
  cases hd with
  |num _=>rfl
  |op _=>rfl
  |@app w0 f0 xs0 _ _ c _ _ =>
   by_cases e:w0="call"
   .subst e
    rw[yA b9,show ends X.ow (.app "call" f0 xs0)=X.ow f0 by unfold ends;exact iP rfl];exact(hca rfl).2.symm
   .rw[show ends X.ow (.app w0 f0 xs0)=(De.uses (.app w0 f0 xs0)).map λ_=>tU from iN e,ub]
 generalize hes:ends X.ow d=es at *;have zl:(d.uses.zip es).length=d.uses.length:=by rw[Ul,<- hel,Nat.min_self]
 have fl:∀j,((((d.uses.zip es).take j).filter (·.2)).map λp=>V.str p.1).length<=41:=λj=>by
  rw[ub];refine uF (uM _ _) ?_;rw[uv];lia
 have flN:∀j,((((d.uses.zip es).take j).filter λp=>!p.2).map λp=>V.str p.1).length<=41:=λj=>by
  rw[ub];refine uF (uM _ _) ?_;rw[uv];lia
 refine¬⟨pd,d,rfl,hd.keep (.of s1),λH2 q2 s2 hq2=>¬⟨q2,qe,fO,fO,_,_,rfl,SqK.t hq2,SqK.t (s2 _ _ hqe),vS (xs:=d.uses.map V.str) (ys:=es.map V.bl) (by rw[ub,ub];exact hel) (λj τ zs H'=>Same H2 H'/\(∃u v,τ=[sO (.ref X.pu),sR pl,sR p,sR pd,sR qe,nO,nO,nO,nO,nO,nO,nO,u,v])/\zs=(((d.uses.zip es).take j).filter (·.2)).map λp=>V.str p.1) ⟨Same.refl _,⟨nO,nO,rfl⟩,rfl⟩ (λj τ zs H' _ h=>⟨SqK.t (h.1 _ _ hq2),SqK.t (h.1 _ _ (s2 _ _ hqe))⟩) ?_ ?_⟩⟩
 .rintro i v1 v2 T τ zs H3 hv1 hv2 hT ⟨s3,⟨u,v,rfl⟩,rfl⟩
  rw[uh]at hv1 hv2;obtain⟨y,hy,rfl⟩:=ug.mp hv1;obtain⟨e,he,rfl⟩:=ug.mp hv2;rw[YB (UF (z:=(y,e)).mpr ⟨hy,he⟩)];refine⟨T,¬⟨SqT.of uX9,rfl,_,_,rfl,_,_,rfl,rfl,(zv rfl rfl ?_)⟩⟩
  have:=fl i
  cases e
  .exact iteF ⟨s3.new hT,⟨_,_,rfl⟩,(u7 _).symm⟩
  .exact iteT ¬⟨b8,s3.new hT,⟨_,_,rfl⟩,rfl⟩
 rintro τ zs H3 ⟨s3,_,rfl⟩ lsp hlsp;rw[ub,um b8];have s4:Same H (upd H3 lsp (.lst (((d.uses.zip es).filter (·.2)).map λp=>V.str p.1))):=((s1.trans s2).trans s3).new hlsp;have esp:((d.uses.zip es).filter (·.2)).map (λp=>V.str p.1)=(upN d.uses es).map V.str:=by unfold upN;rw[UP];rfl
 rw[esp]at s4 ⊢;have hlsp4:=uX9 (H:=H3) (a:=lsp) (o:=.lst ((upN d.uses es).map V.str));have hqe4:=old (o:=.lst ((upN d.uses es).map V.str)) hlsp (s3 _ _ (s2 _ _ hqe));have nlsp:H lsp=nO:=((s1.trans s2).trans s3).free hlsp;generalize upd H3 lsp (.lst ((upN d.uses es).map V.str))=H4 at *;have hP4:=hP.same s4;show r2_ D_ _ H4;subst hr2_;refine zee λr3_ hr3_=>?_;refine¬⟨pd,d,rfl,hd.keep (.of s4),λH5 q5 s5 hq5=>¬⟨q5,qe,fO,fO,_,_,rfl,SqK.t hq5,SqK.t (s5 _ _ hqe4),vS (xs:=d.uses.map V.str) (ys:=es.map V.bl) (by rw[ub,ub];exact hel) (λj τ zs H'=>Same H5 H'/\(∃u v,τ=[sO (.ref X.pu),sR pl,sR p,sR pd,sR qe,sR lsp,nO,nO,nO,nO,nO,nO,u,v])/\zs=(((d.uses.zip es).take j).filter λp=>!p.2).map λp=>V.str p.1) ⟨Same.refl _,⟨nO,nO,rfl⟩,rfl⟩ (λj τ zs H' _ h=>⟨SqK.t (h.1 _ _ hq5),SqK.t (h.1 _ _ (s5 _ _ hqe4))⟩) ?_ ?_⟩⟩
 .rintro i v1 v2 T τ zs H6 hv1 hv2 hT ⟨s6,⟨u,v,rfl⟩,rfl⟩
  rw[uh]at hv1 hv2;obtain⟨y,hy,rfl⟩:=ug.mp hv1;obtain⟨e,he,rfl⟩:=ug.mp hv2;rw[Vv (UF (z:=(y,e)).mpr ⟨hy,he⟩)];refine⟨T,¬⟨SqT.of uX9,rfl,_,_,rfl,_,_,rfl,rfl,(zv rfl rfl ?_)⟩⟩
  have:=flN i
  cases e
  .exact iteT ¬⟨b8,s6.new hT,⟨_,_,rfl⟩,rfl⟩
  .exact iteF ⟨s6.new hT,⟨_,_,rfl⟩,(u7 _).symm⟩
 rintro τ zs H6 ⟨s6,_,rfl⟩ llt hllt;rw[ub,um b8];have s7:Same H4 (upd H6 llt (.lst (((d.uses.zip es).filter λp=>!p.2).map λp=>V.str p.1))):=(s5.trans s6).new hllt;have elt:((d.uses.zip es).filter λp=>!p.2).map (λp=>V.str p.1)=(ltN d.uses es).map V.str:=by unfold ltN;rw[UP];rfl
 rw[elt]at s7 ⊢;have hllt7:=uX9 (H:=H6) (a:=llt) (o:=.lst ((ltN d.uses es).map V.str));generalize upd H6 llt (.lst ((ltN d.uses es).map V.str))=H7 at *;have s07:=s4.trans s7;have hP7:=hP.same s07;refine¬⟨pl,X.cL,dxl,_,_,rfl,s07 _ _ hpl,L.cl,L.a2,rfl,ixT (s07 _ _ hqn) aI1 (ixL (s07 _ _ hlnn) aI0 ?_)⟩;have hrl:r.length<=2000000:=uF (UE _ _) hS.nb;have hNt:Nt H7 (b.mk X.ns) wv:=hNb.nt.keep (.of s07);show r3_ D_ _ H7;subst hr3_;refine Yf λr4_ hr4_=>?_;refine¬⟨pl,X.cL,dxl,_,_,rfl,s07 _ _ hpl,L.cl,L.a3,rfl,ln,rfl,⟨_,SqL.of (s07 _ _ hln)⟩,yy (xs:=r.map V.str) (λj τ zs H'=>H7=H'/\(∃u,τ=[sO (.ref X.pu),sR pl,sR p,sR pd,sR qe,sR lsp,sR llt,sO wv,nO,nO,nO,nO,u])/\zs=((r.take j).filter λy=>!ahB X.ns b y && decide (y∉ltN d.uses es)).map V.str) ⟨rfl,⟨nO,rfl⟩,rfl⟩ (λj τ zs H' _ h=>SqL.of (h.1 ▸ s07 _ _ hln)) ?_ ?_⟩
 .rintro j v τ zs H8 hv ⟨rfl,⟨u,rfl⟩,rfl⟩
  obtain⟨y,hy,rfl⟩:=L2.gM hv;rw[wV hy];have hfl:(((r.take j).filter λy=>!ahB X.ns b y && decide (y∉ltN d.uses es)).map V.str).length < sizeLine:=by
   rw[ub];refine Us (uM _ _) ?_;rw[uv];lia
  refine¬⟨X.pu,X.dx,¬⟨hP7.o,rfl,(zv rfl rfl ⟨X.pu,X.dx,X.od,X.bd,y,m,b.mk X.ns,wv,X.ns,rfl,hP7.o,hP7.b,hS.ln y (uu hy),hNt,¬?_⟩)⟩⟩;show if(!ahB X.ns b y)=tU then _ else _
  cases hah:ahB X.ns b y
  .refine iteT (zv rfl rfl ⟨llt,¬⟨.inl (SqL.of hllt7),rfl,jc _,¬?_⟩⟩)
   rw[iP rfl,inVs];by_cases c2:y∈ltN d.uses es
   .rw[decide_eq_true c2]
    exact iteF ⟨rfl,⟨_,rfl⟩,by simp[c2]⟩
   .rw[eO c2]
    exact iteT ¬⟨hfl,rfl,⟨_,rfl⟩,by simp[c2]⟩
  .exact iteF (iteF ⟨rfl,⟨_,rfl⟩,ba⟩)
 rintro τ zs H8 ⟨rfl,_,rfl⟩ lf hlf;rw[ub,UW];have efr:(r.filter λy=>!ahB X.ns b y && decide (y∉ltN d.uses es))=frL X.ns X.ow d b r:=by unfold frL;rw[hes]
 rw[efr];have s8:=s07.new (o:=.lst ((frL X.ns X.ow d b r).map V.str)) hlf;have hlf8:=uX9 (H:=H7) (a:=lf) (o:=.lst ((frL X.ns X.ow d b r).map V.str));have hlsp8:=old (o:=.lst ((frL X.ns X.ow d b r).map V.str)) hlf (s7 _ _ hlsp4);have hqe8:=old (o:=.lst ((frL X.ns X.ow d b r).map V.str)) hlf (s7 _ _ hqe4);generalize upd H7 lf (.lst ((frL X.ns X.ow d b r).map V.str))=H8 at *;have hP8:=hP.same s8;have hul:(upN d.uses es).length<=41:=by
  have:=fl d.uses.length
  rw[um b8,ub]at this;unfold upN;rw[ub];exact this
 have hbz:=b.sz_pos';have hmz:m+41*(b.sz+1)<=LIMT:=by
  have:=hS.mz
  rw[Bd.sz]at this;exact this
 show r4_ D_ _ H8;subst hr4_;refine Yf λr5_ hr5_=>?_;refine¬⟨X.pu,X.dx,¬⟨hP8.o,rfl,(zv rfl rfl ⟨X.pu,X.dx,X.od,X.bd,lsp,lf,upN d.uses es,frL X.ns X.ow d b r,m,rfl,hP8.o,hlsp8,hlf8,b8,b8,?_,λH9 t9 ls9 lp9 qs9 k9 o9 ht9 nls nlp hls9 hlp9 hal9=>?_⟩)⟩⟩
 .intro y hy
  unfold upN at hy;obtain⟨z,hz,rfl⟩:=uz.mp hy;exact x0.sh _ (hun _ (UC (UL.mp hz).1).1)
 have hsl:=xg (frL X.ns X.ow d b r) (upN d.uses es) m;have esp:spn (frL X.ns X.ow d b r) (upN d.uses es) m=spL X.ns X.ow d b r m:=by unfold spL;rw[hes]
 rw[esp]at hsl o9 hls9 hal9;have hP9:=hP8.cnt k9 o9;have k89:KM X.M H8 H9:=λb u n e=>k9 b u (λz=>n (.inl z)) e;have k09:KM X.M H H9:=(KM.of s8).trans k89;have t09:Tups H H9:=hP.tups k09;have hpl9:=k09 _ _ (hP.noI hpl) hpl;have hln9:=k09 _ _ (hP.noL hln) hln;generalize hSP:spL X.ns X.ow d b r m=S at *;obtain⟨st,prs,m2⟩:=S;dsimp only at hsl o9 hls9 hlp9 hal9 hP9
 show r5_ D_ _ H9;subst hr5_;refine Yf λr6_ hr6_=>?_;refine¬⟨pl,X.cL,dxl,_,_,rfl,hpl9,L.cl,L.a3,rfl,ln,rfl,⟨_,SqL.of hln9⟩,yy (xs:=r.map V.str) (λj τ zs H'=>H9=H'/\(∃u,τ=[sO (.ref X.pu),sR pl,sR p,sR pd,sR qe,sR lsp,sR llt,sO wv,sR lf,sR t9,nO,nO,u])/\zs=((r.take j).filter λy=>decide (y∉st)).map V.str) ⟨rfl,⟨nO,rfl⟩,rfl⟩ (λj τ zs H' _ h=>SqL.of (h.1 ▸ hln9)) ?_ ?_⟩
 .rintro j v τ zs H10 hv ⟨rfl,⟨u,rfl⟩,rfl⟩
  obtain⟨y,hy,rfl⟩:=L2.gM hv;rw[wV hy];have hfl:(((r.take j).filter λy=>decide (y∉st)).map V.str).length < sizeLine:=by
   rw[ub];refine Us (uM _ _) ?_;rw[uv];lia
  refine(zv rfl rfl (ixT ht9 aI0 ⟨ls9,¬⟨.inl (SqL.of hls9),rfl,jc _,¬?_⟩⟩));rw[iP rfl,inVs];by_cases c2:y∈st
  .rw[decide_eq_true c2]
   exact iteF ⟨rfl,⟨_,rfl⟩,by simp[c2]⟩
  .rw[eO c2]
   exact iteT ¬⟨hfl,rfl,⟨_,rfl⟩,by simp[c2]⟩
 rintro τ zs H10 ⟨rfl,_,rfl⟩ l10 h10;rw[ub,UW];have s10:=zn (o:=.lst ((r.filter λy=>decide (y∉st)).map V.str)) h10;refine¬(ixT (s10 _ _ (t09 _ _ hp)) aI1 ⟨sN1,λl11 h11=>⟨l10,l11,(zE rfl rfl ⟨old h11 uX9,uX9,?_,λl12 h12=>?_⟩)⟩⟩)
 .rw[ub]
  have:=uM (λy=>decide (y∉st)) r
  show _+1<=_;lia
 have e12:(r.filter λy=>decide (y∉st)).map V.str++[V.str x]=(stL r st x).map V.str:=by unfold stL;rw[ur];rfl
 rw[e12];have s12:Same H9 (upd (upd (upd H9 l10 (.lst ((r.filter λy=>decide (y∉st)).map V.str))) l11 (.lst [.str x])) l12 (.lst ((stL r st x).map V.str))):=(s10.new h11).new h12;have n12:H9 l12=nO:=(s10.new h11).free h12;have hl12:=uX9 (H:=upd (upd H9 l10 (.lst ((r.filter λy=>decide (y∉st)).map V.str))) l11 (.lst [.str x])) (a:=l12) (o:=.lst ((stL r st x).map V.str));generalize upd (upd (upd H9 l10 (.lst ((r.filter λy=>decide (y∉st)).map V.str))) l11 (.lst [.str x])) l12 (.lst ((stL r st x).map V.str))=H12 at *;have t012:=t09.trans (.of s12);have hqe12:=s12 _ _ (k89 _ _ (hP8.noT hqe8) hqe8);show r6_ D_ _ H12;subst hr6_;refine(zv rfl rfl ¬(ixT (s12 _ _ ht9) aI0 ⟨pd,qe,ls9,d,es,st,rfl,hd.keep t012,hqe12,s12 _ _ hls9,hel,?_,λH13 qd s13 hqd=>?_⟩))
 .rw[hsl.1]
  unfold upN;rw[ub]
 have hqd:IsHd H13 (hdD X.ow d st) qd:=by unfold hdD;rw[hes];exact hqd
 have s913:=s12.trans s13;have t013:=t09.trans (.of s913);refine¬(ixT (t013 _ _ hp) aI3 (zv rfl rfl ?_));intro pk dk hpk hdk npk;refine⟨pk,dk,.ref pb,wv,.ref l12,rfl,uX9,λH15 k15 h15=>⟨rfl,sN1,λl16 h16=>?_⟩⟩;have s1315:Same H13 H15:=λb u e=>k15 b u (zk e hpk) (by rw[zo (zk e hpk),zo (zk e hdk)];exact e);have s16:Same H9 (upd H15 l16 (.lst [.ref pk])):=(s913.trans s1315).new h16;have s1316:Same H13 (upd H15 l16 (.lst [.ref pk])):=s1315.new h16;have n16:H9 l16=nO:=(s913.trans s1315).free h16;have hl16:=uX9 (H:=H15) (a:=l16) (o:=.lst [.ref pk]);have hpk16:=old (o:=.lst [.ref pk]) h16 h15;generalize upd H15 l16 (.lst [.ref pk])=H16 at *;have hP16:=hP9.same s16;refine yX hP16.t6 (by unfold ls6;exact .head _) (λp hp _=>by unfold ls6 at hp;rw[ut.mp hp]) λH17 fl cc ct k17 T17 hfl nfT ncT hfl17 hcc=>?_;refine⟨sN2,λrr hrr=>?_⟩;have k18:KM (·=X.T6) H16 (upd H17 rr (.tup [.ref l16,.ref fl])):=λb u n e=>old hrr (k17 b u n e);have hP18:=hP16.tb6 x0 k18 (T17.same (zn hrr _));have hr18:=uX9 (H:=H17) (a:=rr) (o:=.tup [.ref l16,.ref fl]);have hf18:=old (o:=.tup [.ref l16,.ref fl]) hrr hfl17;have hc18:=old (o:=.tup [.ref l16,.ref fl]) hrr hcc;generalize upd H17 rr (.tup [.ref l16,.ref fl])=H18 at *;subst hD_;refine⟨[(s.heap.objs.size+6,.ref t9),(s.heap.objs.size+5,.ref qd),(s.heap.objs.size+4,.ref p)],λx hx=>?_,λH19 pb1=>?_⟩
 .simp only[uq,Ug,or_false]at hx
  rcases hx with rfl|rfl|rfl
  .exact⟨9,"spending",rfl,rfl,rfl,.inl rfl⟩
  .exact⟨11,"done",rfl,rfl,rfl,.inl rfl⟩
  .exact⟨2,"body",rfl,rfl,rfl,.inl rfl⟩
 have s19:=Pub.same pb1;have hP19:=hP18.same s19;have k16:KM X.M H16 H19:=λb u n e=>s19 _ _ (k18 b u (λz=>n (.inr (.inr (.inr (.inl z))))) e);have k9':KM X.M H9 H19:=(KM.of s16).trans k16;have k019:KM X.M H H19:=k09.trans k9';have t019:=hP.tups k019;have t919:=hP9.tups k9';have f12:H l12=nO:=k09.free (λz=>hP9.ne z n12) n12;have f16:H l16=nO:=k09.free (λz=>hP9.ne z n16) n16;have flp:H lp9=nO:=s8.free nlp;have hlp19:=k9' _ _ (hP9.noL hlp9) hlp9;have hl12':=s13 _ _ hl12;have hl1216:=s1316 _ _ hl12';have hl1219:=k16 _ _ (hP16.noL hl1216) hl1216;have hl1619:=k16 _ _ (hP16.noL hl16) hl16;have hqd19:IsHd H19 (hdD X.ow d st) qd:=hqd.keep ((Tups.of s1316).trans (hP16.tups k16));have hbs:=hS.sz;have hnb:=hS.nb;rw[Bd.sz]at hbs;rw[Bd.binds]at hnb;refine q H19 rr l16 fl [.ref pk] (λb=>R b\/b=l12\/b=l16\/b=lp9) k019 (by rw[midP,hSP];exact hP19) (s19 _ _ hr18) f16 hl1619 (λ_ z=>.inl z) ?_ ?_ (.inr (.inr (.inl rfl))) ?_ ⟨_,s19 _ _ hf18⟩ ?_
 .rintro b (z|rfl|rfl|rfl)
  .exact .inl z
  .exact .inr f12
  .exact .inr f16
  .exact .inr flp
 .rintro b (z|rfl|rfl|rfl)
  .cases e:H b with
   |none=>exact absurd e (hRd b z)
   |some u=>rw[k019 b u (hRM b z) e];simp
  .rw[hl1219];simp
  .rw[hl1619];simp
  .rw[hlp19];simp
 .rw[kP,hSP]
  refine .cons ⟨⟨λy hy=>?_,hokb,?_,?_,?_⟩,pk,dk,pb,l12,wv,rfl,k16 _ _ (hP16.noI hpk16) hpk16,hb'.keep t019,hNb.keep ⟨t019,λa xs ra e=>k019 a _ (hP.noL e) e,λ_ z=>.inl z⟩,hl1219,.inr (.inl rfl)⟩ .nil
  .unfold stL at hy
   rcases uy.mp hy with hy|hy
   .exact hS.ln y (UL.mp hy).1
   .rw[ut.mp hy];exact hxn
  .show m2+41*b.sz<=LIMT
   lia
  .show b.sz<=400000
   lia
  .show(stL r st x).length+b.binds.length<=2000000
   unfold stL
   have:=uM (λy=>decide (y∉st)) r
   rw[ud,uH];rw[ui]at hnb;lia
 .intro H' R2 z sub rl rs Q2 hrl hcs q2
  rw[kP,hSP]at hcs;rw[pcP,hSP]at q2;dsimp only at q2
  cases hcs with
  |@cons _ v0 _ _ hv0 hcs =>
  cases hcs;have g:∀{b:aO}{u:HO},H19 b=sO u->(∀ps,u≠.tbl ps)->(∀C dx fs,u≠.ins C dx fs)->(∀xs,u≠.lst xs)->H' b=sO u:=λ{b u} e n1 n2 n3=>z b u e (hP19.no e n1 λk=>by unfold PO;exact n2 _ _ _) λxs y=>absurd y (n3 xs);have tz:Tups H19 H':=λb xs e=>g e nq nq3 nq;have cel:∀{c:aO}{v:V},Cel H19 c v->Cel H' c v:=λ⟨o,e⟩=>⟨o,g e nq nq3 nq⟩;have C:Clo H' (cl6 (s.heap.objs.size+6) (s.heap.objs.size+5) (s.heap.objs.size+4)) ["spending","done","body"] [.ref t9,.ref qd,.ref p]:=by
   refine wj (cl:=[("spending",s.heap.objs.size+6),("done",s.heap.objs.size+5),("body",s.heap.objs.size+4)]) (by show(["spending","done","body"]:lS).Nodup;decide +kernel) ba rfl λi p v e1 e2=>?_
   match i,e1,e2 with
   |0,e1,e2=>cases e1;cases e2;exact cel (pb1.cel (_,_) (.head _))
   |1,e1,e2=>cases e1;cases e2;exact cel (pb1.cel (_,_) (.tail _ (.head _)))
   |2,e1,e2=>cases e1;cases e2;exact cel (pb1.cel (_,_) (.tail _ (.tail _ (.head _))))
   |i+3,e1,_=>simp at e1
  have hcA:∀a∈(cl6 (s.heap.objs.size+6) (s.heap.objs.size+5) (s.heap.objs.size+4)).map (·.2),∃v,Cel H' a v:=λa ha=>by
   obtain⟨p,hp,rfl⟩:=uz.mp ha;exact C.all p hp
  have tp:=tz.trans (ym hcA);have ml:∀{b:aO}{xs:List V},H' b=sO (.lst xs)->yh H' ((cl6 (s.heap.objs.size+6) (s.heap.objs.size+5) (s.heap.objs.size+4)).map (·.2)) b=sO (.lst xs):=λe=>zL hcA e nq3;have hlpz:=z _ _ hlp19 (hP19.noL hlp19) (λ_ _=>.inr (.inr (.inr rfl)));refine wg (k:=1) zdz (.all (us1 λ_=>rfl)) (g (s19 _ _ hf18) nq (by intro _ _ _ z;unfold FunO at z;cases z) nq) (g (s19 _ _ hc18) nq (by intro _ _ _ z;unfold CodO at z;cases z) nq) C λA2 outer2 s2 hr2=>?_;refine⟨_,cA GW hr2 (jA2 (zj K !1) (zy (jA4 zu (zj K !3) (!2) (zM K !0)))),?_⟩;refine¬(ixT (tp _ _ (t919 _ _ ht9)) aI1 ¬(ixT (tp _ _ (t019 _ _ hp)) aI1 (zv rfl rfl (ixL (ml hrl) aI0 ⟨sN4,λtl htl=>?_⟩))));have sm:=zn (o:=.tup [.str "let",.str x,.ref qd,v0]) htl;refine⟨lp9,prs,qs9,.lt x (hdD X.ow d st) _,.ref tl,rfl,old htl (ml hlpz),hal9.imp λ_ _ e=>old htl (tp _ _ (t919 _ _ e)),⟨tl,qd,¬⟨uX9,hqd19.keep (tp.trans (.of sm)),hv0.keep ((ym hcA).trans (.of sm))⟩⟩,λH3 v3 s3 h3 hnn=>?_⟩;exact q2 _ v3 (xj (sm.trans s3)) (h3.keep λb xs e=>y0 hnn e)
mutual
def UsB:Bd->Prop
 |.give _=>True
 |.lt _ d b=>d.uses.length<=41/\UsB b
 |.iff _ a b=>UsB a/\UsB b
 |.case _ as=>UsA as
def UsA:Arms->Prop
 |.nil=>True
 |.cons _ _ b r=>UsB b/\UsA r
end
mutual
theorem IsB.us{H:Hp}:∀{b:Bd}{p:aO},IsB H b p->UsB b
 |_,_,.give _=>by unfold UsB;trivial
 |_,_,.lt _ d b=>by unfold UsB;exact⟨d.usl,IsB.us b⟩
 |_,_,.iff _ a b=>by unfold UsB;exact⟨IsB.us a,IsB.us b⟩
 |_,_,.case _ _ _ a=>by unfold UsB;exact IsA.us a
theorem IsA.us{H:Hp}:∀{as:Arms}{ps:List aO},IsA H as ps->UsA as
 |_,_,.nil=>by unfold UsA;trivial
 |_,_,.cons _ _ b r=>by unfold UsA;exact⟨IsB.us b,IsA.us r⟩
end
theorem Wt(xs:lS)(es:List Bool):(upN xs es).length<=xs.length:=by
 unfold upN;rw[ub];refine uF (uM _ _) ?_;rw[Ul];exact Nat.min_le_left _ _
mutual
theorem jU(ns:lS)(ow:Str->List Bool):∀(b:Bd)(l:lS)(m:Nat),UsB b->(hB ns ow b l m).2<=m+41*b.sz
 |.give x,l,m,_=>by
  rw[hB,Bd.sz]
  have:=(xg (rO ns (.give x) l) [x] m).2.2.1
  simp at this ⊢
  lia
 |.lt x d b,l,m,h=>by
  unfold UsB at h;rw[hB,Bd.sz];have h1:=jU ns ow b (stL (rO ns (.lt x d b) l) (spL ns ow d b (rO ns (.lt x d b) l) m).1 x) (spL ns ow d b (rO ns (.lt x d b) l) m).2.2 h.2;have h2:(spL ns ow d b (rO ns (.lt x d b) l) m).2.2<=m+(upN d.uses (ends ow d)).length:=(xg _ _ m).2.2.1;have h3:=Wt d.uses (ends ow d);have h4:=h.1;dsimp only
  lia
 |.iff x a b,l,m,h=>by
  unfold UsB at h;rw[hB,Bd.sz];have h1:=jU ns ow a (rO ns (.iff x a b) l) m h.1;have h2:=jU ns ow b (rO ns (.iff x a b) l) (hB ns ow a (rO ns (.iff x a b) l) m).2 h.2;dsimp only
  lia
 |.case x as,l,m,h=>by
  unfold UsB at h;rw[hB,Bd.sz];have h1:=zb0 ns ow x (rO ns (.case x as) l) as m h;dsimp only
  lia
theorem zb0(ns:lS)(ow:Str->List Bool)(x:Str)(r:lS):∀(as:Arms)(m:Nat),UsA as->(hA ns ow x r as m).2<=m+41*as.sz
 |.nil,m,_=>by rw[hA];exact UE _ _
 |.cons t xs b as,m,h=>by
  unfold UsA at h;rw[hA,Arms.sz];have h1:=jU ns ow b (stA (tkB ns x r b) x r xs) m h.1;have h2:=zb0 ns ow x r as (hB ns ow b (stA (tkB ns x r b) x r xs) m).2 h.2;dsimp only
  lia
end
theorem Qg(X:HX)(x:Str)(r:lS):∀(as:Arms)(m i:Nat)(a:Str×lS×Bd),as.al[i]?=sO a->UsA as->OkA X as->∃mi,(kA X.ns X.ow x r as m)[i]?=sO ⟨a.2.2,stA (tkB X.ns x r a.2.2) x r a.2.1,mi⟩/\mi+41*a.2.2.sz<=m+41*as.sz/\a.2.2.sz<=as.sz/\a.2.1.length+a.2.2.binds.length<=as.binds.length/\OkB X a.2.2/\∀y∈a.2.1,y∈X.ns
 |.nil,m,i,a,h,_,_=>by unfold Arms.al at h;simp at h
 |.cons t xs b as,m,0,a,h,hu,ho=>by
  unfold Arms.al at h;simp at h
  subst h;unfold OkA at ho;rw[kA,Arms.sz,Arms.binds];refine⟨m,rfl,?_,?_,?_,ho.1.2,ho.1.1⟩
  .show m+41*b.sz<=_
   lia
  .show b.sz<=_
   lia
  .rw[ud,ud]
   show xs.length+b.binds.length<=_;lia
 |.cons t xs b as,m,i+1,a,h,hu,ho=>by
  unfold Arms.al at h;unfold UsA at hu;unfold OkA at ho;obtain⟨mi,h1,h2,h3,h4,h5⟩:=Qg X x r as (hB X.ns X.ow b (stA (tkB X.ns x r b) x r xs) m).2 i a (by simpa using h) hu.2 ho.2;have h6:=jU X.ns X.ow b (stA (tkB X.ns x r b) x r xs) m hu.1;rw[kA,Arms.sz,Arms.binds];refine⟨mi,bf,b8,b8,?_,h5⟩;rw[ud,ud];lia
theorem Wu:∀as:Arms,as.ways=as.al.map (·.2)
 |.nil=>rfl
 |.cons t xs b r=>by unfold Arms.ways Arms.al;rw[Wu r];rfl
theorem zb1:∀as:Arms,as.al.length<=as.sz
 |.nil=>uk _
 |.cons t xs b r=>by
  unfold Arms.al;rw[Arms.sz,ui]
  have:=zb1 r
  lia
theorem zdA{c c2:Bool}(h1:∀Q':VK,Q' (.bl c) H->ta σ H Q')(h2:c=tU->∀Q':VK,Q' (.bl c2) H->tb σ H Q')(hq:Q (.bl (c && c2)) H):VF ta tb σ H Q:=by
 refine h1 _ ⟨c,rfl,?_⟩;cases c
 .exact iteF hq
 .exact iteT (h2 rfl _ hq)
theorem zdB{u:TS}(h:te σ H λv H1=>g v σ H1 λσ2 H2=>u D σ2 H2):tSeq (tAsg te g) u D σ H:=h
theorem zbe{t:TE}{u:TS}(h:t σ H λ_ H1=>u D σ H1):tSeq (VI t) u D σ H:=h
theorem zdC{c:Bool}{a b:V}{l:aO}(hi:σ[i]?=sO (sO (.ref l)))(hj:σ[j]?=sO (sO (.bl c)))(hl:H l=sO (.lst xs))(hn:xs.length < sizeLine)(hq:Q .non (upd H l (.lst (xs++[if c then a else b])))):tBM K "list" Za (tVar i) (yk (tIf (tB (tVar j)) (tC a) (tC b)) tNil) σ H Q:=by
 refine⟨_,hi,.inl ⟨rfl,_,SqL.of hl⟩,_,hj,¬?_⟩;cases c
 .exact iteF ⟨l,(zE rfl rfl ⟨hl,hn,hq⟩)⟩
 .exact iteT ⟨l,(zE rfl rfl ⟨hl,hn,hq⟩)⟩
def cl7(c1 c2:aO):List (Str×aO):=[("modes",c1),("body",c2)]
theorem zdD:LamScope ["results","modes","body"] ["results"] ["modes","body"] (lmS jQ):=.ok
theorem scBegCase:FnScope ["putter","place","body","modes","within","arm","note","takes","stay"] lS1 (zq wR):=.ok
theorem Vx:(["putter","place","body","modes","within","arm","note","takes","stay","name"]:lS).Nodup:=be
theorem XH(F:FunC K "begun_case" wR c f fd)(hB:BMn mg base)(hc:u6 K c X.T7=tU)(x0:XOk X)(N:Pn K X.cP)(L:Ln K X.cL)(GA:Me P w K mg base CX0 1 X.cP "is_ahead" lS15 (spAhd X.cP))(GL:Ma P w K mg base CX0 1 "Place" X.cL lS3 (spPlInit X.cL))(GH:Ca P w K mg base CX0 1 "held_arms" lS26 spHeldArms)(m_zip:mg "zip"=nO)(m_list:mg "list"=nO):FnOk P w K mg base CX0 3 f fd lS1 (spBeg P w K mg base 2 X λb=>∃x as,b=.case x as):=by
 refine F.byR scBegCase (λvs H Q E h=>?_) (λA outer s H vs Q E hr h fresh=>?_)
 .obtain⟨pl,dxl,p,ln,vn,b,r,m,R,rfl,_⟩:=h
  rfl
 obtain⟨pl,dxl,p,ln,vn,b0,r,m,R,rfl,⟨x,as,rfl⟩,hpl,hb,hN,hln,hRl,hS,hP,hRd,hRM,q⟩:=h;have hr1:Room 1 _:=hr.mono b9;refine⟨_,
  (z6 (sE 2 scBegCase.nd (zO K !1))
  (z6 (sE 3 scBegCase.nd (zI zQ))
  (z6 (sE 4 scBegCase.nd (zI zQ))
  (z6 (z5 PassesOwn.leaving rfl (yR K rfl m_zip (jA2 (zj K !2) (zj K (zO K !1)))) (zW K rfl (zx (gN 5 scBegCase.nd) (zx (gN 6 scBegCase.nd) zV)))
   (zh (sE 7 scBegCase.nd (vH (yM (Zf K) (zj K !2) (zO K !1) (by with_unfolding_all rfl)) (wZ (V1 (vM (!0) N.cl GA hr1 yN (jA2 (zj K !2) !6))))))
   (zh (yg (yO uE uN uO zY (!3) (jA1 (xR (zS !7) zu zu))))
   (zh (yu ["name"] (i:=8) scBegCase.nd rfl (Or.inl rfl) rfl (zU K (zO K !1)) (λ_ _ _ _ _=>(gN 9 Vx)) (λ_ _ _ _ _=>(yD (jW.pt (yI (yv (zS !7)) (yG (tN xp (!9) (zj K !2))))))) (λ_ _ _ _ _=>!9))
   (zi (yg (yO uE uN uO zY (!4) (jA1 (vi GL hr rfl yN (jA3 (zj K !5) (!6) (zC yP (!8) (zK (xU K) rfl m_list UT (jA1 (zj K !5))))))))))))))
  (xV (zy (jA2 (!4) (xu (params:=lmP jQ) (body:=lmB jQ) (scope:=lmS jQ) (pos:=xO jQ) (T:=X.T7) (qual:=zbZ) (cl:=cl7 (s.heap.objs.size+3) (s.heap.objs.size+2)) hB rfl hc rfl)))))))),?_⟩
 have sl:=zN;obtain⟨pa,ps,hp,hpa,hps,hA⟩:∃pa ps,H p=sO (.tup [.str "case",.str x,.ref pa])/\H pa=sO (.tup (ps.map V.ref))/\0 < ps.length/\IsA H as ps:=by
  cases hb with
  |case a b c d=>exact⟨_,_,a,b,c,d⟩
 have hus:UsA as:=by have:=hb.us;unfold UsB at this;exact this
 have hok:OkA X as:=hS.ok;obtain⟨ws,⟨qn,lnn,rfl,hqn,hRn,hlnn⟩,hNa⟩:=id hN;have hNs:=IsNA.ways.mp hNa;unfold IsNs at hNs;rw[Wu]at hNs;have hal:=hA.al;have pl1:=hal.len;have wl1:=hNs.len;rw[ub]at wl1;have asz:=zb1 as;have hbs:=hS.sz;rw[Bd.sz]at hbs;have hmz:=hS.mz;rw[Bd.sz]at hmz;have hnb:=hS.nb;rw[Bd.binds]at hnb;refine cutE λD_ hD_=>?_;refine zbO λr1_ hr1_=>?_;refine¬⟨pl,X.cL,dxl,_,_,rfl,hpl,L.cl,L.a1,rfl,sN0,λlm hlm=>⟨sN0,λlw hlw=>?_⟩⟩;have s1:Same H (upd (upd H lm (.lst [])) lw (.lst [])):=(zn hlm _).new hlw;have flw:H lw=nO:=(zn hlm (.lst [])).free hlw;have nmw:lm≠lw:=zk uX9 hlw;have hlm1:=old (o:=.lst []) hlw (uX9 (H:=H) (a:=lm) (o:=.lst []));have hlw1:=uX9 (H:=upd H lm (.lst [])) (a:=lw) (o:=.lst []);generalize upd (upd H lm (.lst [])) lw (.lst [])=H1 at *;have nRm:Not (R lm):=λz=>hRd _ z hlm;have nRw:Not (R lw):=λz=>hRd _ z flw;show r1_ D_ _ H1;subst hr1_;refine Yf λr2_ hr2_=>?_;refine¬(ixT (s1 _ _ hp) aI2 ¬⟨pl,X.cL,dxl,_,_,rfl,s1 _ _ hpl,L.cl,L.a2,rfl,ixT (s1 _ _ hqn) aI1 ⟨pa,lnn,fO,tU,_,_,rfl,SqK.t (s1 _ _ hpa),SqK.l (s1 _ _ hlnn),x8 (xs:=ps.map V.ref) (ys:=ws) bc (λi σ H'=>(∃a n t u,σ=[sO (.ref X.pu),sR pl,sR p,sR lm,sR lw,a,n,t,u])/\Same H H'/\H' lm=sO (.lst ((as.al.take i).map λa=>V.str (xa (tkB X.ns x r a.2.2))))/\∃(vs:List V)(R':aO->Prop),H' lw=sO (.lst vs)/\(∀b,R b->R' b)/\(∀b,R' b->R b\/H b=nO)/\(∀b,R' b->H' b≠nO)/\Not (R' lm)/\Not (R' lw)/\All2 (ITk X H' R') ((kA X.ns X.ow x r as m).take i) vs) ⟨⟨nO,nO,nO,nO,rfl⟩,s1,hlm1,[],R,hlw1,λ_ z=>z,λ_ z=>.inl z,λb z=>?_,nRm,nRw,.nil⟩ (λi σ H' _ h=>⟨SqK.t (h.2.1 _ _ hpa),SqK.l (h.2.1 _ _ hlnn)⟩) ?_ ?_⟩⟩)
 .cases e:H b with
  |none=>exact absurd e (hRd b z)
  |some u=>rw[s1 b u e];simp
 .rintro i v1 nv T σ H2 hv1 hv2 hT ⟨⟨a0,n0,t0,u0,rfl⟩,s2,hlm2,vs,R',hlw2,sub,new,pre,nRm',nRw',hk⟩
  obtain⟨p0,hp0,rfl⟩:=L2.gM hv1;obtain⟨a,ha,q0,r0,g1,g2,g3⟩:=hal.get hp0;obtain⟨a',ha',hNi⟩:=hNs.get hv2;have ea:a'=a.2:=by rw[uh,ha]at ha';exact(u4.inj ha').symm
  subst ea;obtain⟨mi,k1,k2,k3,k4,k5,k6⟩:=Qg X x r as m i a ha hus hok;have s3:=s2.new (o:=.tup [.ref p0,nv]) hT;refine⟨T,¬⟨SqT.of uX9,rfl,_,_,rfl,_,_,rfl,rfl,?_⟩⟩;have hk3:All2 (ITk X (upd H2 T (.tup [.ref p0,nv])) R') ((kA X.ns X.ow x r as m).take i) vs:=hk.imp λ_ _ h=>⟨h.1,ITp.keep h.2 (hP.same s2) (λb u e _ _=>old hT e) λ_ z=>z⟩;have pre3:∀b,R' b->upd H2 T (.tup [.ref p0,nv]) b≠nO:=λb z=>by
   cases e:H2 b with
   |none=>exact absurd e (pre b z)
   |some u=>rw[old hT e];simp
  have hlm3:=old (o:=.tup [.ref p0,nv]) hT hlm2;have hlw3:=old (o:=.tup [.ref p0,nv]) hT hlw2;dsimp only
  generalize upd H2 T (.tup [.ref p0,nv])=H3 at *;have hP3:=hP.same s3;refine Jn λE_ hE_=>?_;refine zdB (zdA (c:=decide (x∈r)) (c2:=!ahB X.ns a.2.2 x) (λQ' h=>¬(ixT (s3 _ _ hp) aI1 ¬⟨pl,X.cL,dxl,_,_,rfl,s3 _ _ hpl,L.cl,L.a3,rfl,ln,¬⟨.inl (SqL.of (s3 _ _ hln)),rfl,jc r,?_⟩⟩)) (λc Q' h=>¬⟨X.pu,X.dx,¬⟨hP3.o,rfl,¬(ixT (s3 _ _ hp) aI1 ¬⟨X.pu,X.dx,X.od,X.bd,x,m,a.2.2.mk X.ns,nv,X.ns,rfl,hP3.o,hP3.b,hS.ln x (of_decide_eq_true c),hNi.nt.keep (.of s3),¬(h)⟩)⟩⟩) ?_)
  .rw[iN (show Not (fO=tU) by decide),inVs]
   exact h
  change tSeq _ _ _ _ _
  have etk:(decide (x∈r) && !ahB X.ns a.2.2 x)=tkB X.ns x r a.2.2:=rfl;rw[etk];generalize htk:tkB X.ns x r a.2.2=tk at *;have il:=(uf.mp ha).1;refine zbe (zdC (i:=3) (j:=7) (c:=tk) rfl rfl hlm3 (by rw[ub,uv];lia) ?_);have emo:((as.al.take i).map λa=>V.str (xa (tkB X.ns x r a.2.2)))++[if tk then V.str "take"else V.str "look"]=(as.al.take (i+1)).map λa=>V.str (xa (tkB X.ns x r a.2.2)):=by
   rw[uA,ha,ur];show _=_++[V.str (xa (tkB X.ns x r a.2.2))];rw[htk];cases tk<;>rfl
  rw[emo];have s4:=s3.put (o:=.lst ((as.al.take (i+1)).map λa=>V.str (xa (tkB X.ns x r a.2.2)))) hlm;have hlm4:=uX9 (H:=H3) (a:=lm) (o:=.lst ((as.al.take (i+1)).map λa=>V.str (xa (tkB X.ns x r a.2.2))));have hlw4:upd H3 lm (.lst ((as.al.take (i+1)).map λa=>V.str (xa (tkB X.ns x r a.2.2)))) lw=sO (.lst vs):=by rw[zo nmw.symm];exact hlw3
  have hk4:All2 (ITk X (upd H3 lm (.lst ((as.al.take (i+1)).map λa=>V.str (xa (tkB X.ns x r a.2.2))))) R') ((kA X.ns X.ow x r as m).take i) vs:=hk3.imp λ_ _ h=>⟨h.1,ITp.keep h.2 hP3 (λb u e _ hl=>by
   by_cases z:b=lm
   .rw[z,hlm3]at e
    exact absurd (z ▸ hl _ (u4.inj e).symm) nRm'
   .rw[zo z];exact e) λ_ z=>z⟩
  have pre4:∀b,R' b->upd H3 lm (.lst ((as.al.take (i+1)).map λa=>V.str (xa (tkB X.ns x r a.2.2)))) b≠nO:=λb z=>by
   have nb:b≠lm:=λy=>nRm' (by rw[<- y];exact z);rw[zo nb];exact pre3 b z
  generalize upd H3 lm (.lst ((as.al.take (i+1)).map λa=>V.str (xa (tkB X.ns x r a.2.2))))=H4 at *;have hP4:=hP.same s4;have hrl:r.length<=2000000:=uF (UE _ _) hS.nb;refine¬⟨pl,X.cL,dxl,_,_,rfl,s4 _ _ hpl,L.cl,L.a3,rfl,ln,rfl,⟨_,SqL.of (s4 _ _ hln)⟩,yy (xs:=r.map V.str) (λj τ zs H'=>H4=H'/\(∃u,τ=[sO (.ref X.pu),sR pl,sR p,sR lm,sR lw,sR p0,sO nv,sO (.bl tk),u0,u])/\zs=((r.take j).filter λy=>!tk || decide (y≠x)).map V.str) ⟨rfl,⟨nO,rfl⟩,rfl⟩ (λj τ zs H' _ h=>SqL.of (h.1 ▸ s4 _ _ hln)) ?_ ?_⟩
  .rintro j v τ zs H5 hv ⟨rfl,⟨u,rfl⟩,rfl⟩
   obtain⟨y,hy,rfl⟩:=L2.gM hv;rw[wV hy];have hfl:(((r.take j).filter λy=>!tk || decide (y≠x)).map V.str).length < sizeLine:=by
    rw[ub];refine Us (uM _ _) ?_;rw[uv];lia
   refine(zv rfl rfl ?_);cases tk
   .exact iteT (iteT ¬⟨hfl,rfl,⟨_,rfl⟩,rfl⟩)
   .refine iteF (zv rfl rfl (ixT (s4 _ _ hp) aI1 ⟨rfl,¬?_⟩))
    by_cases c2:y=x
    .rw[c2,decide_eq_true rfl]
     exact iteF ⟨rfl,⟨_,rfl⟩,ba⟩
    .rw[eO (λz=>c2 (V.str.inj z))]
     exact iteT ¬⟨hfl,rfl,⟨_,rfl⟩,by simp[c2]⟩
  rintro τ zs H5 ⟨rfl,_,rfl⟩ l5 h5;rw[ub,UW];have s5:=zn (o:=.lst ((r.filter λy=>!tk || decide (y≠x)).map V.str)) h5;have s05:=s4.trans s5;refine¬⟨.inl ⟨rfl,_,SqL.of (s5 _ _ hlw4)⟩,¬(ixT (s05 _ _ g1) aI2 (zv rfl rfl ¬(ixT (s05 _ _ g1) aI1 ⟨q0,¬⟨.inr (SqT.of (s05 _ _ g2)),λl6 h6=>⟨l5,l6,(zE rfl rfl ⟨old h6 uX9,uX9,?_,λl7 h7=>?_⟩)⟩⟩⟩)))⟩
  .rw[ub,ub]
   have:=uM (λy=>!tk || decide (y≠x)) r
   lia
  have e7:((r.filter λy=>!tk || decide (y≠x)).map V.str)++a.2.1.map V.str=(stA tk x r a.2.1).map V.str:=by unfold stA;rw[ur]
  rw[e7];have s7:Same H4 (upd (upd (upd H4 l5 (.lst ((r.filter λy=>!tk || decide (y≠x)).map V.str))) l6 (.lst (a.2.1.map V.str))) l7 (.lst ((stA tk x r a.2.1).map V.str))):=(s5.new h6).new h7;have n7:H4 l7=nO:=(s5.new h6).free h7;have hl7:=uX9 (H:=upd (upd H4 l5 (.lst ((r.filter λy=>!tk || decide (y≠x)).map V.str))) l6 (.lst (a.2.1.map V.str))) (a:=l7) (o:=.lst ((stA tk x r a.2.1).map V.str));generalize upd (upd (upd H4 l5 (.lst ((r.filter λy=>!tk || decide (y≠x)).map V.str))) l6 (.lst (a.2.1.map V.str))) l7 (.lst ((stA tk x r a.2.1).map V.str))=H7 at *;intro pk dk hpk hdk npk;refine⟨pk,dk,.ref r0,nv,.ref l7,rfl,uX9,λH8 k8 h8=>⟨rfl,?_⟩⟩;have s78:Same H7 H8:=λb u e=>k8 b u (zk e hpk) (by rw[zo (zk e hpk),zo (zk e hdk)];exact e);have s48:=s7.trans s78;have hkl:=hk4.len;rw[uv]at hkl;refine⟨lw,(zE rfl rfl ⟨s48 _ _ hlw4,b8,?_⟩)⟩;have n7m:l7≠lm:=λz=>by rw[z,hlm4]at n7;cases n7
  have n7w:l7≠lw:=λz=>by rw[z,hlw4]at n7;cases n7
  have npw:pk≠lw:=λz=>by rw[z,s7 _ _ hlw4]at hpk;cases hpk
  have f7:H l7=nO:=s4.free n7;have s9:Same H (upd H8 lw (.lst (vs++[.ref pk]))):=(s4.trans s48).put flw;have hl79:upd H8 lw (.lst (vs++[.ref pk])) l7=sO (.lst ((stA tk x r a.2.1).map V.str)):=by rw[zo n7w];exact s78 _ _ hl7
  have hpk9:upd H8 lw (.lst (vs++[.ref pk])) pk=sO (LO X.cL dk (.ref r0) nv (.ref l7)):=by rw[zo npw];exact h8
  subst hE_;refine⟨⟨_,_,_,_,rfl⟩,s9,by rw[zo nmw];exact s48 _ _ hlm4,vs++[.ref pk],λb=>R' b\/b=l7,uX9,λb z=>.inl (sub b z),?_,?_,?_,?_,?_⟩
  .rintro b (z|rfl)
   .exact new b z
   .exact .inr f7
  .rintro b (z|rfl)
   .have nb:b≠lw:=λy=>nRw' (by rw[<- y];exact z)
    rw[zo nb];cases e:H4 b with
    |none=>exact absurd e (pre4 b z)
    |some u=>rw[s48 _ _ e];simp
   .rw[hl79];simp
  .rintro(z|z)
   .exact nRm' z
   .exact n7m z.symm
  .rintro(z|z)
   .exact nRw' z
   .exact n7w z.symm
  .rw[uA,k1]
   refine All2.app (hk4.imp λ_ _ h=>⟨h.1,ITp.keep h.2 hP4 (λb u e _ hl=>?_) λ_ z=>.inl z⟩) (.cons ⟨⟨λy hy=>?_,k5,?_,?_,?_⟩,pk,dk,r0,l7,nv,rfl,hpk9,g3.keep (.of s9),hNi.keep ⟨.of s9,λa xs _ e=>s9 _ _ e,λb z=>.inl (sub b z)⟩,hl79,.inr rfl⟩ .nil)
   .by_cases z:b=lw
    .rw[z,hlw4]at e
     exact absurd (z ▸ hl _ (u4.inj e).symm) nRw'
    .rw[zo z];exact s48 _ _ e
   .unfold stA at hy
    rcases uy.mp hy with hy|hy
    .exact hS.ln y (UL.mp hy).1
    .exact k6 y hy
   .show mi+41*a.2.2.sz<=LIMT
    lia
   .show a.2.2.sz<=400000
    lia
   .show(stA tk x r a.2.1).length+a.2.2.binds.length<=2000000
    unfold stA
    have:=uM (λy=>!tk || decide (y≠x)) r
    rw[ud];lia
 rintro σ H2 ⟨⟨a0,n0,t0,u0,rfl⟩,s2,hlm2,vs,R',hlw2,sub,new,pre,nRm',nRw',hk⟩;have el:as.al.take (ps.map V.ref).length=as.al:=um bc;have el2:(kA X.ns X.ow x r as m).take (ps.map V.ref).length=kA X.ns X.ow x r as m:=um (by rw[XF,ub];lia);rw[el]at hlm2;rw[el2]at hk;have hP2:=hP.same s2;show r2_ D_ _ H2;subst hr2_;refine¬(yX hP2.t7 (by unfold ls7;exact .head _) (λp hp _=>by unfold ls7 at hp;rw[ut.mp hp]) λH3 fl cc ct k3 T3 hfl nfT ncT hfl3 hcc=>⟨sN2,λrr hrr=>?_⟩);have k18:KM (·=X.T7) H2 (upd H3 rr (.tup [.ref lw,.ref fl])):=λb u n e=>old hrr (k3 b u n e);have hP18:=hP2.tb7 x0 k18 (T3.same (zn hrr _));have hr18:=uX9 (H:=H3) (a:=rr) (o:=.tup [.ref lw,.ref fl]);have hf18:=old (o:=.tup [.ref lw,.ref fl]) hrr hfl3;have hc18:=old (o:=.tup [.ref lw,.ref fl]) hrr hcc;generalize upd H3 rr (.tup [.ref lw,.ref fl])=H18 at *;subst hD_;refine⟨[(s.heap.objs.size+3,.ref lm),(s.heap.objs.size+2,.ref p)],λx hx=>?_,λH19 pb1=>?_⟩
 .simp only[uq,Ug,or_false]at hx
  rcases hx with rfl|rfl
  .exact⟨3,"modes",rfl,rfl,rfl,.inl rfl⟩
  .exact⟨2,"body",rfl,rfl,rfl,.inl rfl⟩
 have s19:=Pub.same pb1;have hP19:=hP18.same s19;have k2':KM X.M H2 H19:=λb u n e=>s19 _ _ (k18 b u (λz=>n (.inr (.inr (.inr (.inr z))))) e);have k019:KM X.M H H19:=(KM.of s2).trans k2';have t019:=hP.tups k019;have hlm19:=k2' _ _ (hP2.noL hlm2) hlm2;have hlw19:=k2' _ _ (hP2.noL hlw2) hlw2;refine q H19 rr lw fl vs (λb=>R' b\/b=lw\/b=lm) k019 hP19 (s19 _ _ hr18) flw hlw19 (λb z=>.inl (sub b z)) ?_ ?_ (.inr (.inl rfl)) ?_ ⟨_,s19 _ _ hf18⟩ ?_
 .rintro b (z|rfl|rfl)
  .exact new b z
  .exact .inr flw
  .exact .inr hlm
 .rintro b (z|rfl|rfl)
  .cases e:H2 b with
   |none=>exact absurd e (pre b z)
   |some u =>
    rcases new b z with y|y
    .rw[k2' b u (hRM b y) e];simp
    .rw[k2' b u (λy'=>hP.ne y' y) e];simp
  .rw[hlw19];simp
  .rw[hlm19];simp
 .rw[kP]
  exact hk.imp λ_ _ h=>⟨h.1,ITp.keep h.2 hP2 (λb u e n _=>k2' b u n e) λ_ z=>.inl z⟩
 .intro H' R2 z sub2 rl rs Q2 hrl hcs q2
  rw[kP]at hcs;rw[pcP,zbW]at q2;have g:∀{b:aO}{u:HO},H19 b=sO u->(∀ps,u≠.tbl ps)->(∀C dx fs,u≠.ins C dx fs)->(∀xs,u≠.lst xs)->H' b=sO u:=λ{b u} e n1 n2 n3=>z b u e (hP19.no e n1 λk=>by unfold PO;exact n2 _ _ _) λxs y=>absurd y (n3 xs);have tz:Tups H19 H':=λb xs e=>g e nq nq3 nq;have cel:∀{c:aO}{v:V},Cel H19 c v->Cel H' c v:=λ⟨o,e⟩=>⟨o,g e nq nq3 nq⟩;have C:Clo H' (cl7 (s.heap.objs.size+3) (s.heap.objs.size+2)) ["modes","body"] [.ref lm,.ref p]:=by
   refine wj (cl:=[("modes",s.heap.objs.size+3),("body",s.heap.objs.size+2)]) (by show(["modes","body"]:lS).Nodup;decide +kernel) ba rfl λi p v e1 e2=>?_
   match i,e1,e2 with
   |0,e1,e2=>cases e1;cases e2;exact cel (pb1.cel (_,_) (.head _))
   |1,e1,e2=>cases e1;cases e2;exact cel (pb1.cel (_,_) (.tail _ (.head _)))
   |i+2,e1,_=>simp at e1
  have hcA:∀a∈(cl7 (s.heap.objs.size+3) (s.heap.objs.size+2)).map (·.2),∃v,Cel H' a v:=λa ha=>by
   obtain⟨p,hp,rfl⟩:=uz.mp ha;exact C.all p hp
  have tp:=(t019.trans tz).trans (ym hcA);have ml:∀{b:aO}{xs:List V},H' b=sO (.lst xs)->yh H' ((cl7 (s.heap.objs.size+3) (s.heap.objs.size+2)).map (·.2)) b=sO (.lst xs):=λe=>zL hcA e nq3;have hlmz:=z _ _ hlm19 (hP19.noL hlm19) (λ_ _=>.inr (.inr rfl));refine wg (k:=1) zdD (.all (us1 λ_=>rfl)) (g (s19 _ _ hf18) nq (by intro _ _ _ z;unfold FunO at z;cases z) nq) (g (s19 _ _ hc18) nq (by intro _ _ _ z;unfold CodO at z;cases z) nq) C λA2 outer2 s2 hr2=>?_;refine⟨_,zy (jA3 zu (zj K !2) (cA GH hr2 (jA3 (zj K !2) (!1) !0))),?_⟩;refine¬(ixT (tp _ _ hp) aI1 ¬(ixT (tp _ _ hp) aI2 (zv rfl rfl ⟨pa,lm,rl,as,ps,as.al.map λa=>tkB X.ns x r a.2.2,(kA X.ns X.ow x r as m).map (Pk.code X.ns X.ow),rs,rfl,tp _ _ hpa,hA.keep tp,?_,ml hrl,hcs.imp λ_ _ h=>h.keep (ym hcA),by rw[ub],by rw[ub,XF],b8,λH5 q5 zs s5 hq5 hz5=>⟨sN3,λtl htl hnn=>?_⟩⟩)))
  .rw[UP]
   exact ml hlmz
  have sm:=zn (o:=.tup [.str "case",.str x,.ref q5]) htl;refine q2 _ _ (xj (s5.trans sm)) (IsHc.keep (λb xs e=>y0 hnn e) ?_);exact⟨tl,q5,zs,rfl,uX9,sm _ _ hq5,hz5.keep (.of sm)⟩
def cl5(c1:aO):List (Str×aO):=[("body",c1)]
def cl8(c1:aO):List (Str×aO):=[("spending",c1)]
theorem zdE:LamScope ["results","body"] ["results"] ["body"] (lmS jM):=.ok
theorem zdF:LamScope ["results","spending"] ["results"] ["spending"] (lmS jN):=.ok
theorem Pub.nil{H3:Hp}(h:Pub H H3 []):H3=H:=funext λb=>h.old b ba
theorem scBegPiece:FnScope ["putter","place","body","within","spending"] lS1 (zq xE):=.ok
theorem jf:(["putter","place","body","within","spending","way","note"]:lS).Nodup:=be
theorem YD(F:FunC K "begun_piece" xE c f fd)(hB:BMn mg base)(hc:u6 K c X.T5=tU)(x0:XOk X)(N:Pn K X.cP)(L:Ln K X.cL)(GLt:Ca P w K mg base CX0 3 "begun_let" lS1 (spBeg P w K mg base 2 X λb=>∃x d b',b=.lt x d b'))(GCs:Ca P w K mg base CX0 3 "begun_case" lS1 (spBeg P w K mg base 2 X λb=>∃x as,b=.case x as))(GS:Me P w K mg base CX0 2 X.cP "spent" lS24 (spSpent X.cP))(GL:Ma P w K mg base CX0 1 "Place" X.cL lS3 (spPlInit X.cL))(GW:Ca P w K mg base CX0 1 "with_holds" ["pairs","body"] spHolds)(m_zip:mg "zip"=nO)(m_tuple:mg "tuple"=nO):FnOk P w K mg base CX0 4 f fd lS1 (spBeg P w K mg base 2 X λ_=>True):=by
 refine F.byR scBegPiece (λvs H Q E h=>?_) (λA outer s H vs Q E hr h fresh=>?_)
 .obtain⟨pl,dxl,p,ln,vn,b,r,m,R,rfl,_⟩:=h
  rfl
 obtain⟨pl,dxl,p,ln,vn,b0,r,m,R,rfl,_,hpl,hb,hN,hln,hRl,hS,hP,hRd,hRM,q⟩:=h;have hr2:Room 2 _:=hr.mono b9;refine⟨_,
  (z6 (sE 2 scBegPiece.nd (zO K !1))
  (Ji (tN zJ (zj K !2) zu) (xV (cA GLt hr (jA2 (!0) !1)))
  (Ji (tN zJ (zj K !2) zu) (xV (cA GCs hr (jA2 (!0) !1)))
  (Ji (tN zJ (zj K !2) zu)
   (z6 (yu ["way","note"] (i:=3) scBegPiece.nd rfl (Or.inl rfl) rfl (yR K rfl m_zip (jA2 (yJ wf (!2) (yV zp) yU) (zj K (zO K !1)))) (λ_ _ _ _ _=>(zW K (n:=2) rfl (zx (gN 5 jf) (zx (gN 6 jf) zV)))) (λ_ _ _ _ _=>zZ) (λ_ _ _ _ _=>(vi GL hr2 rfl yN (jA3 (!5) (!6) (zO K !1)))))
   (xV (zy (jA2 (!3) (xu (params:=lmP jM) (body:=lmB jM) (scope:=lmS jM) (pos:=xO jM) (T:=X.T5) (qual:=Ws) (cl:=cl5 (s.heap.objs.size+2)) hB rfl hc rfl)))))
  (z6 (sE 4 scBegPiece.nd (vM (!0) N.cl GS hr2 yN (jA2 (zI (jA1 (zj K !2))) (zO K !1))))
  (xV (zy (jA2 (zI zQ) (xu (params:=lmP jN) (body:=lmB jN) (scope:=lmS jN) (pos:=xO jN) (T:=X.T5) (qual:=Ws) (cl:=cl8 (s.heap.objs.size+3)) hB rfl hc rfl))))))))),?_⟩
 have sl:=zN;refine¬⟨pl,X.cL,dxl,_,_,rfl,hpl,L.cl,L.a1,rfl,?_⟩;cases b0 with
 |lt x d b =>
  obtain⟨pd,pb,hp⟩:∃pd pb,H p=sO (.tup [.str "let",.str x,.ref pd,.ref pb]):=by cases hb with|lt a _ _=>exact⟨_,_,a⟩
  refine¬(ixT hp aI0 ⟨rfl,¬(iteT ?_)⟩);exact(zv rfl rfl ⟨pl,dxl,p,ln,vn,_,r,m,R,rfl,⟨x,d,b,rfl⟩,hpl,hb,hN,hln,hRl,hS,hP,hRd,hRM,λH' qq l fl vs R' a1 a2 a3 a4 a5 a6 a7 a8 a9 a10 a11 a12=>⟨[],(λ_ h=>by cases h),λH3 pb=>by rw[Pub.nil pb];exact q H' qq l fl vs R' a1 a2 a3 a4 a5 a6 a7 a8 a9 a10 a11 a12⟩⟩)
 |case x as =>
  obtain⟨pa,hp⟩:∃pa,H p=sO (.tup [.str "case",.str x,.ref pa]):=by cases hb with|case a _ _ _=>exact⟨_,a⟩
  refine¬(ixT hp aI0 ⟨rfl,¬(iteF ?_)⟩);refine¬(ixT hp aI0 ⟨rfl,¬(iteT ?_)⟩);exact(zv rfl rfl ⟨pl,dxl,p,ln,vn,_,r,m,R,rfl,⟨x,as,rfl⟩,hpl,hb,hN,hln,hRl,hS,hP,hRd,hRM,λH' qq l fl vs R' a1 a2 a3 a4 a5 a6 a7 a8 a9 a10 a11 a12=>⟨[],(λ_ h=>by cases h),λH3 pb=>by rw[Pub.nil pb];exact q H' qq l fl vs R' a1 a2 a3 a4 a5 a6 a7 a8 a9 a10 a11 a12⟩⟩)
 |iff x a b =>
  obtain⟨pa,pb,hp,ha,hb2⟩:∃pa pb,H p=sO (.tup [.str "if",.str x,.ref pa,.ref pb])/\IsB H a pa/\IsB H b pb:=by cases hb with|iff u v w=>exact⟨_,_,u,v,w⟩
  obtain⟨wa,wb,⟨qn,lnn,rfl,hqn,hRn,hlnn⟩,hNa,hNb⟩:=id hN;have hok:OkB X a/\OkB X b:=hS.ok;have hmz:=hS.mz;rw[Bd.sz]at hmz;have hbs:=hS.sz;rw[Bd.sz]at hbs;have hnb:=hS.nb;rw[Bd.binds,ud]at hnb;have hle:=jU X.ns X.ow a r m ha.us;refine¬(ixT hp aI0 ⟨rfl,¬(iteF ?_)⟩);refine¬(ixT hp aI0 ⟨rfl,¬(iteF ?_)⟩);refine¬(ixT hp aI0 ⟨rfl,¬(iteT ?_)⟩);have hkid:∀(i:Nat)(v1 v2:V),[V.ref pa,V.ref pb][i]?=sO v1->[wa,wb][i]?=sO v2->∃(t:Pk)(pk:aO),(kP X.ns X.ow (.iff x a b) r m)[i]?=sO t/\v1=.ref pk/\t.l=r/\IsB H t.b pk/\IsN X.ns H R t.b v2/\Side X t.b r t.m:=λi v1 v2 g1 g2=>by
   match i,g1,g2 with
   |0,g1,g2 =>
    cases g1;cases g2;exact⟨⟨a,r,m⟩,pa,rfl,rfl,rfl,ha,hNa,hS.ln,hok.1,(by show m+41*a.sz<=LIMT;lia),(by show a.sz<=400000;lia),(by show r.length+a.binds.length<=2000000;lia)⟩
   |1,g1,g2 =>
    cases g1;cases g2;exact⟨⟨b,r,(GN.hB X.ns X.ow a r m).2⟩,pb,rfl,rfl,rfl,hb2,hNb,hS.ln,hok.2,(by show(GN.hB X.ns X.ow a r m).2+41*b.sz<=LIMT;lia),(by show b.sz<=400000;lia),(by show r.length+b.binds.length<=2000000;lia)⟩
   |i+2,g1,_=>simp at g1
  refine¬⟨2,rfl,p,¬⟨hp,λp3 H1 s1 h3=>?_⟩⟩;have s1:Same H H1:=s1;have h3:H1 p3=sO (.tup [.ref pa,.ref pb]):=h3;refine¬⟨pl,X.cL,dxl,_,_,rfl,s1 _ _ hpl,L.cl,L.a2,rfl,ixT (s1 _ _ hqn) aI1 ⟨p3,lnn,fO,tU,_,_,rfl,SqK.t h3,SqK.l (s1 _ _ hlnn),vS (xs:=[.ref pa,.ref pb]) (ys:=[wa,wb]) rfl (λj τ zs H'=>Same H1 H'/\(∃u v,τ=[sO (.ref X.pu),sR pl,sR p,nO,nO,u,v])/\All2 (ITk X H' R) ((kP X.ns X.ow (.iff x a b) r m).take j) zs) ⟨Same.refl _,⟨nO,nO,rfl⟩,.nil⟩ (λj τ zs H' _ h=>⟨SqK.t (h.1 _ _ h3),SqK.l (h.1 _ _ (s1 _ _ hlnn))⟩) ?_ ?_⟩⟩
  .rintro i v1 v2 T τ zs H3 g1 g2 hT ⟨s3,⟨u,v,rfl⟩,hk⟩
   obtain⟨t,pk0,k1,rfl,k2,k3,k4,k5⟩:=hkid i v1 v2 g1 g2;have hkl:=hk.len;rw[uv]at hkl;have hil:i < 2:=(uf.mp g1).1;have s4:=s3.new (o:=.tup [.ref pk0,v2]) hT;have s34:=zn (o:=.tup [.ref pk0,v2]) hT;refine⟨T,¬⟨SqT.of uX9,rfl,_,_,rfl,_,_,rfl,rfl,?_⟩⟩;generalize upd H3 T (.tup [.ref pk0,v2])=H4 at *;have s04:=s1.trans s4;refine(zv rfl rfl ¬⟨pl,X.cL,dxl,_,_,rfl,s04 _ _ hpl,L.cl,L.a3,rfl,λpk dk hpk hdk npk=>⟨pk,dk,.ref pk0,v2,.ref ln,rfl,uX9,λH8 k8 h8=>⟨rfl,b8,?_⟩⟩⟩);have s48:Same H4 H8:=λb u e=>k8 b u (zk e hpk) (by rw[zo (zk e hpk),zo (zk e hdk)];exact e);have s08:=s04.trans s48;refine⟨s4.trans s48,⟨_,_,rfl⟩,?_⟩;rw[uA,k1];refine All2.app (hk.imp λ_ _ h=>⟨h.1,ITp.keep h.2 (hP.same (s1.trans s3)) (λb u e _ _=>s48 _ _ (s34 _ _ e)) λ_ z=>z⟩) (.cons ⟨by rw[k2];exact k5,pk,dk,pk0,ln,v2,rfl,h8,k3.keep (.of s08),k4.keep ⟨.of s08,λa xs _ e=>s08 _ _ e,λ_ z=>z⟩,by rw[k2];exact s08 _ _ hln,hRl⟩ .nil)
  rintro τ zs H5 ⟨s5,_,hk⟩ l5 h5;have hk:All2 (ITk X H5 R) (kP X.ns X.ow (.iff x a b) r m) zs:=hk;have s05:=s1.trans s5;have f5:H l5=nO:=s05.free h5;have s6:=s05.new (o:=.lst zs) h5;have hl5:=uX9 (H:=H5) (a:=l5) (o:=.lst zs);have hk6:All2 (ITk X (upd H5 l5 (.lst zs)) R) (kP X.ns X.ow (.iff x a b) r m) zs:=hk.imp λ_ _ h=>⟨h.1,ITp.keep h.2 (hP.same s05) (λb u e _ _=>old h5 e) λ_ z=>z⟩;generalize upd H5 l5 (.lst zs)=H6 at *;have hP6:=hP.same s6;refine¬(yX hP6.t5 (by unfold ls5;exact .head _) (λp hp _=>by unfold ls5 at hp;simp at hp;rcases hp with rfl|rfl<;>rfl) λH7 fl cc ct k7 T7 hfl nfT ncT hfl7 hcc=>⟨sN2,λrr hrr=>?_⟩);have k18:KM (·=X.T5) H6 (upd H7 rr (.tup [.ref l5,.ref fl])):=λb u n e=>old hrr (k7 b u n e);have hP18:=hP6.tb5 x0 k18 (T7.same (zn hrr _));have hr18:=uX9 (H:=H7) (a:=rr) (o:=.tup [.ref l5,.ref fl]);have hf18:=old (o:=.tup [.ref l5,.ref fl]) hrr hfl7;have hc18:=old (o:=.tup [.ref l5,.ref fl]) hrr hcc;generalize upd H7 rr (.tup [.ref l5,.ref fl])=H18 at *;refine⟨[(s.heap.objs.size+2,.ref p)],λx hx=>?_,λH19 pb1=>?_⟩
  .rw[ut.mp hx]
   exact⟨2,"body",rfl,rfl,rfl,.inl rfl⟩
  have s19:=Pub.same pb1;have hP19:=hP18.same s19;have k16:KM X.M H6 H19:=λb u n e=>s19 _ _ (k18 b u (λz=>n (.inr (.inr (.inl z)))) e);have k019:KM X.M H H19:=(KM.of s6).trans k16;have t019:=hP.tups k019;have hl519:=k16 _ _ (hP6.noL hl5) hl5;refine q H19 rr l5 fl zs (λb=>R b\/b=l5) k019 hP19 (s19 _ _ hr18) f5 hl519 (λ_ z=>.inl z) ?_ ?_ (.inr rfl) (hk6.imp λ_ _ h=>⟨h.1,ITp.keep h.2 hP6 (λb u e n _=>k16 b u n e) λ_ z=>.inl z⟩) ⟨_,s19 _ _ hf18⟩ ?_
  .rintro b (z|rfl)
   .exact .inl z
   .exact .inr f5
  .rintro b (z|rfl)
   .cases e:H b with
    |none=>exact absurd e (hRd b z)
    |some u=>rw[k019 b u (hRM b z) e];simp
   .rw[hl519];simp
  .intro H' R2 z sub rl rs Q2 hrl hcs q2
   rw[kP]at hcs;rw[pcP]at q2;cases hcs with
   |@cons _ u1 _ _ hu1 hcs =>
   cases hcs with
   |@cons _ u2 _ _ hu2 hcs =>
   cases hcs;have g:∀{b:aO}{u:HO},H19 b=sO u->(∀ps,u≠.tbl ps)->(∀C dx fs,u≠.ins C dx fs)->(∀xs,u≠.lst xs)->H' b=sO u:=λ{b u} e n1 n2 n3=>z b u e (hP19.no e n1 λk=>by unfold PO;exact n2 _ _ _) λxs y=>absurd y (n3 xs);have tz:Tups H19 H':=λb xs e=>g e nq nq3 nq;have C:Clo H' (cl5 (s.heap.objs.size+2)) ["body"] [.ref p]:=by
    refine wj (cl:=[("body",s.heap.objs.size+2)]) (by show(["body"]:lS).Nodup;decide +kernel) ba rfl λi p v e1 e2=>?_
    match i,e1,e2 with
    |0,e1,e2 =>
     cases e1;cases e2;obtain⟨o,e⟩:=pb1.cel (_,_) (.head _);exact⟨o,g e nq nq3 nq⟩
    |i+1,e1,_=>simp at e1
   have hcA:∀a∈(cl5 (s.heap.objs.size+2)).map (·.2),∃v,Cel H' a v:=λa ha=>by
    obtain⟨p,hp,rfl⟩:=uz.mp ha;exact C.all p hp
   have tp:=(t019.trans tz).trans (ym hcA);have ml:∀{b:aO}{xs:List V},H' b=sO (.lst xs)->yh H' ((cl5 (s.heap.objs.size+2)).map (·.2)) b=sO (.lst xs):=λe=>zL hcA e nq3;refine wg (k:=1) zdE (.all (us1 λ_=>rfl)) (g (s19 _ _ hf18) nq (by intro _ _ _ z;unfold FunO at z;cases z) nq) (g (s19 _ _ hc18) nq (by intro _ _ _ z;unfold CodO at z;cases z) nq) C λA2 outer2 s2 hr2=>?_;refine⟨_,zC wC (yJ wf (!1) yU (yV zp)) (zK (zD K) rfl m_tuple uo (jA1 !0)),?_⟩;refine¬⟨2,rfl,p,¬⟨tp _ _ hp,λp4 H4 s4 h4=>¬⟨rl,¬(.inl ⟨SqL.of (s4 _ _ (ml hrl)),λt4 f4=>?_⟩)⟩⟩⟩;have s4:Same (yh H' ((cl5 (s.heap.objs.size+2)).map (·.2))) H4:=s4;refine⟨p4,t4,[.str "if",.str x],¬⟨rfl,SqT.of (old f4 h4),SqT.of uX9,bj,sN4,(λe=>by simp at e),λ_ pd fd' hnn=>?_⟩⟩;have s6:=(s4.new (o:=.tup [u1,u2]) f4).new (o:=.tup ([.str "if",.str x]++[u1,u2])) fd';refine q2 _ _ (xj s6) (IsHc.keep (λb xs e=>y0 hnn e) ?_);exact⟨pd,u1,u2,rfl,uX9,hu1.keep ((ym hcA).trans (.of s6)),hu2.keep ((ym hcA).trans (.of s6))⟩
 |give x =>
  have hp:H p=sO (.tup [.str "give",.str x]):=by cases hb with|give a=>exact a
  refine¬(ixT hp aI0 ⟨rfl,¬(iteF ?_)⟩);refine¬(ixT hp aI0 ⟨rfl,¬(iteF ?_)⟩);refine¬(ixT hp aI0 ⟨rfl,¬(iteF ?_)⟩);have hxn:x∈X.ns:=hS.ok;have hmz:=hS.mz;rw[Bd.sz]at hmz;refine¬⟨X.pu,X.dx,¬⟨hP.o,rfl,¬(ixT hp aI1 ⟨sN1,λlx hlx=>?_⟩)⟩⟩;have s1:=zn (o:=.lst [.str x]) hlx;refine¬⟨pl,X.cL,dxl,_,_,rfl,s1 _ _ hpl,L.cl,L.a3,rfl,X.pu,X.dx,X.od,X.bd,lx,ln,[x],r,m,rfl,s1 _ _ hP.o,uX9,s1 _ _ hln,by show m+1<=LIMT;lia,by show 1<=100;decide,λy hy=>?_,λH9 t9 ls9 lp9 qs9 k9 o9 ht9 nls nlp hls9 hlp9 hal9=>?_⟩
  .rw[ut.mp hy];exact x0.sh _ hxn
  have hP1:=hP.same s1;generalize upd H lx (.lst [.str x])=H1 at *;have hP9:=hP1.cnt k9 o9;have k09:KM X.M H H9:=λb u n e=>k9 b u (λz=>n (.inl z)) (s1 _ _ e);have hsl:=xg r [x] m;generalize hSP:spn r [x] m=S at *;obtain⟨st,prs,m2⟩:=S;dsimp only at hsl o9 hls9 hlp9 hal9 hP9
  obtain⟨s0,rfl⟩:∃s0,st=[s0]:=List.length_eq_one_iff.mp hsl.1;refine⟨sN0,λl16 h16=>?_⟩;have s16:=zn (o:=.lst []) h16;have hP16:=hP9.same s16;have hl16:=uX9 (H:=H9) (a:=l16) (o:=.lst []);generalize upd H9 l16 (.lst [])=H16 at *;refine yX hP16.t5 (by unfold ls5;exact .tail _ (.head _)) (λp hp _=>by unfold ls5 at hp;simp at hp;rcases hp with rfl|rfl<;>rfl) λH17 fl cc ct k17 T17 hfl nfT ncT hfl17 hcc=>?_;refine⟨sN2,λrr hrr=>?_⟩;have k18:KM (·=X.T5) H16 (upd H17 rr (.tup [.ref l16,.ref fl])):=λb u n e=>old hrr (k17 b u n e);have hP18:=hP16.tb5 x0 k18 (T17.same (zn hrr _));have hr18:=uX9 (H:=H17) (a:=rr) (o:=.tup [.ref l16,.ref fl]);have hf18:=old (o:=.tup [.ref l16,.ref fl]) hrr hfl17;have hc18:=old (o:=.tup [.ref l16,.ref fl]) hrr hcc;generalize upd H17 rr (.tup [.ref l16,.ref fl])=H18 at *;refine⟨[(s.heap.objs.size+3,.ref t9)],λx hx=>?_,λH19 pb1=>?_⟩
  .rw[ut.mp hx]
   exact⟨4,"spending",rfl,rfl,rfl,.inl rfl⟩
  have s19:=Pub.same pb1;have hP19:=hP18.same s19;have k16:KM X.M H16 H19:=λb u n e=>s19 _ _ (k18 b u (λz=>n (.inr (.inr (.inl z)))) e);have k9':KM X.M H9 H19:=(KM.of s16).trans k16;have k019:KM X.M H H19:=k09.trans k9';have t919:=hP9.tups k9';have f16:H l16=nO:=k09.free (λz=>hP9.ne z h16) h16;have fls:H ls9=nO:=s1.free nls;have flp:H lp9=nO:=s1.free nlp;have hls19:=k9' _ _ (hP9.noL hls9) hls9;have hlp19:=k9' _ _ (hP9.noL hlp9) hlp9;have hl1619:=k16 _ _ (hP16.noL hl16) hl16;refine q H19 rr l16 fl [] (λb=>R b\/b=l16\/b=ls9\/b=lp9) k019 (by rw[midP,hSP];exact hP19) (s19 _ _ hr18) f16 hl1619 (λ_ z=>.inl z) ?_ ?_ (.inr (.inl rfl)) (by rw[kP];exact .nil) ⟨_,s19 _ _ hf18⟩ ?_
  .rintro b (z|rfl|rfl|rfl)
   .exact .inl z
   .exact .inr f16
   .exact .inr fls
   .exact .inr flp
  .rintro b (z|rfl|rfl|rfl)
   .cases e:H b with
    |none=>exact absurd e (hRd b z)
    |some u=>rw[k019 b u (hRM b z) e];simp
   .rw[hl1619];simp
   .rw[hls19];simp
   .rw[hlp19];simp
  .intro H' R2 z sub rl rs Q2 hrl hcs q2
   rw[pcP,hSP]at q2;dsimp only at q2
   have g:∀{b:aO}{u:HO},H19 b=sO u->(∀ps,u≠.tbl ps)->(∀C dx fs,u≠.ins C dx fs)->(∀xs,u≠.lst xs)->H' b=sO u:=λ{b u} e n1 n2 n3=>z b u e (hP19.no e n1 λk=>by unfold PO;exact n2 _ _ _) λxs y=>absurd y (n3 xs);have tz:Tups H19 H':=λb xs e=>g e nq nq3 nq;have C:Clo H' (cl8 (s.heap.objs.size+3)) ["spending"] [.ref t9]:=by
    refine wj (cl:=[("spending",s.heap.objs.size+3)]) (by show(["spending"]:lS).Nodup;decide +kernel) ba rfl λi p v e1 e2=>?_
    match i,e1,e2 with
    |0,e1,e2 =>
     cases e1;cases e2;obtain⟨o,e⟩:=pb1.cel (_,_) (.head _);exact⟨o,g e nq nq3 nq⟩
    |i+1,e1,_=>simp at e1
   have hcA:∀a∈(cl8 (s.heap.objs.size+3)).map (·.2),∃v,Cel H' a v:=λa ha=>by
    obtain⟨p,hp,rfl⟩:=uz.mp ha;exact C.all p hp
   have tp:=(t919.trans tz).trans (ym hcA);have ml:∀{b:aO}{xs:List V},H' b=sO (.lst xs)->yh H' ((cl8 (s.heap.objs.size+3)).map (·.2)) b=sO (.lst xs):=λe=>zL hcA e nq3;have hlpz:=z _ _ hlp19 (hP19.noL hlp19) (λ_ _=>.inr (.inr (.inr rfl)));have hlsz:=z _ _ hls19 (hP19.noL hls19) (λ_ _=>.inr (.inr (.inl rfl)));refine wg (k:=1) zdF (.all (us1 λ_=>rfl)) (g (s19 _ _ hf18) nq (by intro _ _ _ z;unfold FunO at z;cases z) nq) (g (s19 _ _ hc18) nq (by intro _ _ _ z;unfold CodO at z;cases z) nq) C λA2 outer2 s2 hr2=>?_;refine⟨_,cA GW hr2 (jA2 (zj K !1) (zy (jA2 zu (zM K (zj K !1))))),?_⟩;refine¬(ixT (tp _ _ ht9) aI1 ¬(ixT (tp _ _ ht9) aI0 (ixL (ml hlsz) aI0 ⟨sN2,λtl htl=>?_⟩)));have sm:=zn (o:=.tup [.str "give",.str s0]) htl;refine⟨lp9,prs,qs9,.give s0,.ref tl,rfl,old htl (ml hlpz),hal9.imp λ_ _ e=>old htl (tp _ _ e),⟨tl,rfl,uX9⟩,λH3 v3 s3 h3 hnn=>?_⟩;exact q2 _ v3 (xj (sm.trans s3)) (h3.keep λb xs e=>y0 hnn e)
def cl4(c1 c2:aO):List (Str×aO):=[("finish",c1),("drops",c2)]
theorem zdG:LamScope ["results","finish","drops"] ["results"] ["finish","drops"] (lmS jL):=.ok
section
variable(P:Program)(w:World)(K:uc)(mg:Str->Option aA)(base:Heap)(X:HX)
inductive spBegPl(vs:List V)(H:Hp)(Q:VK)(e_3:XK):Prop
 |mk (v:V) (t:Pk):∀R:aO->Prop,(vs=[.ref X.pu,v])->(ITk X H R t v)->(POk X t.m H)->((∀b,R b->H b≠nO))->((∀b,R b->Not (X.M b)))->(∀(H':Hp)(q l fl:aO)(vs:List V)(R':aO->Prop),KM X.M H H'->POk X (t.mid X.ns X.ow) H'->H' q=sO (.tup [.ref l,.ref fl])->H l=nO->H' l=sO (.lst vs)->(∀b,R b->R' b)->(∀b,R' b->R b\/H b=nO)->(∀b,R' b->H' b≠nO)->R' l->All2 (ITk X H' R') (t.kids X.ns X.ow) vs->Fin P w K mg base 3 X H' R' ((t.kids X.ns X.ow).map (Pk.code X.ns X.ow)) (t.code X.ns X.ow) fl->Q (.ref q) H')->spBegPl vs H Q e_3
end
theorem scBegPlace:FnScope ["putter","place","drops","rest","pair","finish"] lS1 (zq x9):=.ok
theorem jg:(["putter","place","drops","rest","pair","finish","name"]:lS).Nodup:=be
theorem YE(F:FunC K "begun_place" x9 c f fd)(hB:BMn mg base)(hc:u6 K c X.T4=tU)(x0:XOk X)(N:Pn K X.cP)(L:Ln K X.cL)(GA:Me P w K mg base CX0 1 X.cP "is_ahead" lS15 (spAhd X.cP))(GP:Ca P w K mg base CX0 4 "begun_piece" lS1 (spBeg P w K mg base 2 X λ_=>True))(GL:Ma P w K mg base CX0 1 "Place" X.cL lS3 (spPlInit X.cL))(GD:Ca P w K mg base CX0 1 "with_drops" ["names","body"] spDrops):FnOk P w K mg base CX0 5 f fd lS1 (spBegPl P w K mg base X):=by
 refine F.byR scBegPlace (λvs H Q E h=>?_) (λA outer s H vs Q E hr h fresh=>?_)
 .obtain⟨v,t,R,rfl,_⟩:=h
  rfl
 obtain⟨v,⟨b,l,m⟩,R,rfl,⟨hS,pl,dxl,p,ln,vn,rfl,hpl,hb,hN,hln,hRl⟩,hP,hRd,hRM,q⟩:=h;dsimp only at hS hb hN hln hP
 have hr1:Room 1 _:=hr.mono b9;have hr2:Room 2 _:=hr.mono b9;refine⟨_,
  (z6 (sE 2 scBegPlace.nd (yn ["name"] rfl (zU K (zO K !1)) (λ_ _ _ _ _=>(gN 6 jg)) (λ_ _ _ _ _=>(yD (yv (zS (vM (!0) N.cl GA hr1 yN (jA2 (!6) (zO K !1))))))) (λ_ _ _ _ _=>!6)))
  (z6 (yu ["name"] (i:=3) scBegPlace.nd rfl (Or.inl rfl) rfl (zU K (zO K !1)) (λ_ _ _ _ _=>(gN 6 jg)) (λ_ _ _ _ _=>(yD (zS (vM (!0) N.cl GA hr1 yN (jA2 (!6) (zO K !1)))))) (λ_ _ _ _ _=>!6))
  (z6 (sE 4 scBegPlace.nd (cA GP hr (jA2 (!0) (vi GL hr2 rfl yN (jA3 (zO K !1) (zO K !1) !3)))))
  (z6 (sE 5 scBegPlace.nd (zj K !4))
  (xV (zy (jA2 (zj K !4) (xu (params:=lmP jL) (body:=lmB jL) (scope:=lmS jL) (pos:=xO jL) (T:=X.T4) (qual:=zbX) (cl:=cl4 (s.heap.objs.size+4) (s.heap.objs.size+3)) hB rfl hc rfl)))))))),?_⟩
 have sl:=zN;have hll:l.length<=2000000:=uF (UE _ _) hS.nb;have hNt:Nt H (b.mk X.ns) vn:=hN.nt;refine¬⟨pl,X.cL,dxl,_,_,rfl,hpl,L.cl,L.a3,rfl,ln,rfl,⟨_,SqL.of hln⟩,yy (xs:=l.map V.str) (λj τ zs H'=>H=H'/\(∃u,τ=[sO (.ref X.pu),sR pl,nO,nO,nO,nO,u])/\zs=((l.take j).filter λy=>!ahB X.ns b y).map V.str) ⟨rfl,⟨nO,rfl⟩,rfl⟩ (λj τ zs H' _ h=>SqL.of (h.1 ▸ hln)) ?_ ?_⟩
 .rintro j v τ zs H8 hv ⟨rfl,⟨u,rfl⟩,rfl⟩
  obtain⟨y,hy,rfl⟩:=L2.gM hv;rw[wV hy];have hfl:(((l.take j).filter λy=>!ahB X.ns b y).map V.str).length < sizeLine:=by
   rw[ub];refine Us (uM _ _) ?_;rw[uv];lia
  refine¬⟨X.pu,X.dx,¬⟨hP.o,rfl,(zv rfl rfl ⟨pl,X.cL,dxl,_,_,rfl,hpl,L.cl,L.a2,rfl,X.pu,X.dx,X.od,X.bd,y,m,b.mk X.ns,vn,X.ns,rfl,hP.o,hP.b,hS.ln y (uu hy),hNt,¬?_⟩)⟩⟩;show if(!ahB X.ns b y)=tU then _ else _
  cases hah:ahB X.ns b y
  .exact iteT ¬⟨hfl,rfl,⟨_,rfl⟩,rfl⟩
  .exact iteF ⟨rfl,⟨_,rfl⟩,(u7 _).symm⟩
 rintro τ zs H8 ⟨rfl,_,rfl⟩ ld hld;rw[ub,UW];have s1:=zn (o:=.lst ((l.filter λy=>!ahB X.ns b y).map V.str)) hld;have hld1:=uX9 (H:=H) (a:=ld) (o:=.lst ((l.filter λy=>!ahB X.ns b y).map V.str));generalize upd H ld (.lst ((l.filter λy=>!ahB X.ns b y).map V.str))=H1 at *;have hP1:=hP.same s1;refine¬⟨pl,X.cL,dxl,_,_,rfl,s1 _ _ hpl,L.cl,L.a3,rfl,ln,rfl,⟨_,SqL.of (s1 _ _ hln)⟩,yy (xs:=l.map V.str) (λj τ zs H'=>H1=H'/\(∃u,τ=[sO (.ref X.pu),sR pl,sR ld,nO,nO,nO,u])/\zs=((l.take j).filter λy=>ahB X.ns b y).map V.str) ⟨rfl,⟨nO,rfl⟩,rfl⟩ (λj τ zs H' _ h=>SqL.of (h.1 ▸ s1 _ _ hln)) ?_ ?_⟩
 .rintro j v τ zs H8 hv ⟨rfl,⟨u,rfl⟩,rfl⟩
  obtain⟨y,hy,rfl⟩:=L2.gM hv;rw[wV hy];have hfl:(((l.take j).filter λy=>ahB X.ns b y).map V.str).length < sizeLine:=by
   rw[ub];refine Us (uM _ _) ?_;rw[uv];lia
  refine¬⟨X.pu,X.dx,¬⟨hP1.o,rfl,(zv rfl rfl ⟨pl,X.cL,dxl,_,_,rfl,s1 _ _ hpl,L.cl,L.a2,rfl,X.pu,X.dx,X.od,X.bd,y,m,b.mk X.ns,vn,X.ns,rfl,hP1.o,hP1.b,hS.ln y (uu hy),hNt.keep (.of s1),¬?_⟩)⟩⟩;show if(ahB X.ns b y)=tU then _ else _
  cases hah:ahB X.ns b y
  .exact iteF ⟨rfl,⟨_,rfl⟩,(u7 _).symm⟩
  .exact iteT ¬⟨hfl,rfl,⟨_,rfl⟩,rfl⟩
 rintro τ zs H8 ⟨rfl,_,rfl⟩ lr hlr;rw[ub,UW];have s2:=s1.new (o:=.lst ((rO X.ns b l).map V.str)) hlr;have s12:=zn (o:=.lst ((rO X.ns b l).map V.str)) hlr;have flr:H lr=nO:=s1.free hlr;have hlr2:=uX9 (H:=H1) (a:=lr) (o:=.lst ((rO X.ns b l).map V.str));have hld2:=s12 _ _ hld1;have elr:(l.filter λy=>ahB X.ns b y)=rO X.ns b l:=rfl;rw[elr];generalize upd H1 lr (.lst ((rO X.ns b l).map V.str))=H2 at *;refine(zv rfl rfl ⟨pl,X.cL,dxl,_,_,rfl,s2 _ _ hpl,L.cl,L.a1,rfl,¬⟨pl,X.cL,dxl,_,_,rfl,s2 _ _ hpl,L.cl,L.a2,rfl,¬(λpk dk hpk hdk npk=>⟨pk,dk,.ref p,vn,.ref lr,rfl,uX9,λH3 k3 h3=>⟨rfl,?_⟩⟩)⟩⟩);have s23:Same H2 H3:=λb u e=>k3 b u (zk e hpk) (by rw[zo (zk e hpk),zo (zk e hdk)];exact e);have s03:=s2.trans s23;have hP3:=hP.same s03;have hlr3:=s23 _ _ hlr2;have hld3:=s23 _ _ hld2;have fl3:=uM (λy=>ahB X.ns b y) l;rw[elr]at fl3;have nM3:∀b,(R b\/b=lr\/b=ld)->Not (X.M b):=λb z=>by
  rcases z with z|rfl|rfl
  .exact hRM b z
  .exact hP3.noL hlr3
  .exact hP3.noL hld3
 refine⟨pk,dk,p,lr,vn,b,rO X.ns b l,m,λb=>R b\/b=lr\/b=ld,rfl,trivial,h3,hb.keep (.of s03),hN.keep ⟨.of s03,λa xs _ e=>s03 _ _ e,λ_ z=>.inl z⟩,hlr3,.inr (.inl rfl),⟨λy hy=>hS.ln y (UL.mp hy).1,hS.ok,hS.mz,hS.sz,by have:=hS.nb;lia⟩,hP3,?_,nM3,λH4 q4 l4 fl4 vs4 R4 k4 hP4 hq4 f4 hl4 sub4 new4 pre4 rl4 hk4 hfl4 fin4=>?_⟩
 .rintro b (z|rfl|rfl)
  .cases e:H b with
   |none=>exact absurd e (hRd b z)
   |some u=>rw[s03 b u e];simp
  .rw[hlr3];simp
  .rw[hld3];simp
 have nM4:∀b,R4 b->Not (X.M b):=λb z=>by
  rcases new4 b z with y|y
  .exact nM3 b y
  .exactλy'=>hP3.ne y' y
 have hld4:=k4 _ _ (hP3.noL hld3) hld3;have rld:R4 ld:=sub4 ld (.inr (.inr rfl));refine¬(ixT hq4 aI1 ?_);refine¬(ixT hq4 aI0 ?_);refine yX hP4.t4 (by unfold ls4;exact .head _) (λp hp _=>by unfold ls4 at hp;rw[ut.mp hp]) λH5 fl cc ct k5 T5 hfl nfT ncT hfl5 hcc=>⟨sN2,λrr hrr=>?_⟩;have k18:KM (·=X.T4) H4 (upd H5 rr (.tup [.ref l4,.ref fl])):=λb u n e=>old hrr (k5 b u n e);have hP18:=hP4.tb4 x0 k18 (T5.same (zn hrr _));have hr18:=uX9 (H:=H5) (a:=rr) (o:=.tup [.ref l4,.ref fl]);have hf18:=old (o:=.tup [.ref l4,.ref fl]) hrr hfl5;have hc18:=old (o:=.tup [.ref l4,.ref fl]) hrr hcc;generalize upd H5 rr (.tup [.ref l4,.ref fl])=H18 at *;refine⟨[(s.heap.objs.size+4,.ref fl4),(s.heap.objs.size+3,.ref ld)],λx hx=>?_,λH19 pb1=>?_⟩
 .simp only[uq,Ug,or_false]at hx
  rcases hx with rfl|rfl
  .exact⟨5,"finish",rfl,rfl,rfl,.inl rfl⟩
  .exact⟨2,"drops",rfl,rfl,rfl,.inl rfl⟩
 have s19:=Pub.same pb1;have hP19:=hP18.same s19;have k418:KM X.M H4 H18:=λb u n e=>k18 b u (λz=>n (.inr (.inl z))) e;have k419:KM X.M H4 H19:=k418.trans (.of s19);have k019:KM X.M H H19:=((KM.of s03).trans k4).trans k419;have hl419:=k419 _ _ (hP4.noL hl4) hl4;have hld19:=k419 _ _ (hP4.noL hld4) hld4;refine q H19 rr l4 fl vs4 R4 k019 hP19 (s19 _ _ hr18) (s03.free f4) hl419 (λb z=>sub4 b (.inl z)) ?_ ?_ rl4 (hk4.imp λ_ _ h=>⟨h.1,ITp.keep h.2 hP4 (λb u e n _=>k419 b u n e) λ_ z=>z⟩) ?_
 .intro b z
  rcases new4 b z with(y|rfl|rfl)|y
  .exact .inl y
  .exact .inr flr
  .exact .inr hld
  .exact .inr (s03.free y)
 .intro b z
  cases e:H4 b with
  |none=>exact absurd e (pre4 b z)
  |some u=>rw[k419 b u (nM4 b z) e];simp
 .intro H' R2 z sub rl rs Q2 hrl hcs q2
  have q2:∀H'' v,Same H' H''->IsHc H'' (wD (dO X.ns b l) (pcP X.ns X.ow b (rO X.ns b l) m)) v->Q2 v H'':=λH'' v a e=>q2 H'' v a (by show IsHc H'' (GN.hB X.ns X.ow b l m).1 v;rw[zeo];exact e);have g:∀{b:aO}{u:HO},H19 b=sO u->(∀ps,u≠.tbl ps)->(∀C dx fs,u≠.ins C dx fs)->(∀xs,u≠.lst xs)->H' b=sO u:=λ{b u} e n1 n2 n3=>z b u e (hP19.no e n1 λk=>by unfold PO;exact n2 _ _ _) λxs y=>absurd y (n3 xs);have cel:∀{c:aO}{v:V},Cel H19 c v->Cel H' c v:=λ⟨o,e⟩=>⟨o,g e nq nq3 nq⟩;have C:Clo H' (cl4 (s.heap.objs.size+4) (s.heap.objs.size+3)) ["finish","drops"] [.ref fl4,.ref ld]:=by
   refine wj (cl:=[("finish",s.heap.objs.size+4),("drops",s.heap.objs.size+3)]) (by show(["finish","drops"]:lS).Nodup;decide +kernel) ba rfl λi p v e1 e2=>?_
   match i,e1,e2 with
   |0,e1,e2=>cases e1;cases e2;exact cel (pb1.cel (_,_) (.head _))
   |1,e1,e2=>cases e1;cases e2;exact cel (pb1.cel (_,_) (.tail _ (.head _)))
   |i+2,e1,_=>simp at e1
  have hcA:∀a∈(cl4 (s.heap.objs.size+4) (s.heap.objs.size+3)).map (·.2),∃v,Cel H' a v:=λa ha=>by
   obtain⟨p,hp,rfl⟩:=uz.mp ha;exact C.all p hp
  have ml:∀{b:aO}{xs:List V},H' b=sO (.lst xs)->yh H' ((cl4 (s.heap.objs.size+4) (s.heap.objs.size+3)).map (·.2)) b=sO (.lst xs):=λe=>zL hcA e nq3;have hldz:=z _ _ hld19 (hP19.noL hld19) (λ_ _=>rld);have zm:Kz X.M R4 H4 (yh H' ((cl4 (s.heap.objs.size+4) (s.heap.objs.size+3)).map (·.2))):=λa u e n hl=>by
   have e18:=k418 a u n e;rw[ya]
   .exact z a u (s19 _ _ e18) n hl
   .intro y
    have:a∈([(s.heap.objs.size+4,V.ref fl4),(s.heap.objs.size+3,V.ref ld)]:List (aO×V)).map (·.1):=y
    obtain⟨x,hx,rfl⟩:=uz.mp this;rw[pb1.non x hx]at e18;cases e18
  refine wg (k:=2) zdG (.all (us1 λ_=>rfl)) (g (s19 _ _ hf18) nq (by intro _ _ _ z;unfold FunO at z;cases z) nq) (g (s19 _ _ hc18) nq (by intro _ _ _ z;unfold CodO at z;cases z) nq) C λA2 outer2 s2 hr2=>?_;refine⟨_,zbN GD (hr2.mono b9) rfl yN (jA2 (!2) (vO hr2 (!1) yN (jA1 !0))),?_⟩;refine¬(wT (f:=fl4) (vs:=[.ref rl]) rfl (λ_ h=>¬(h)) (fin4 _ R4 zm (λ_ h=>h) rl rs _ (ml hrl) (hcs.imp λ_ _ h=>h.keep (ym hcA)) λH6 v6 s6 h6=>?_));refine⟨ld,dO X.ns b l,pcP X.ns X.ow b (rO X.ns b l) m,v6,rfl,s6 _ _ (ml hldz),h6,λH7 v7 s7 h7 hnn=>?_⟩;exact q2 _ v7 (xj (s6.trans s7)) (h7.keep λb xs e=>y0 hnn e)
end
theorem CanC.mono{K:uc}{k k':Nat}{vs:List V}{E:XK}(h:CanC P w K mg base k H f vs Q E)(e:k<=k'):CanC P w K mg base k' H f vs Q E:=by obtain⟨fd,ps,sp,F,r⟩:=h;exact⟨fd,ps,sp,F.mono e,r⟩
def KC(H H':Hp):Prop:=∀b u,H b=sO u->(∀o c v,u≠.frz o (CelO c v))->H' b=sO u
theorem KC.tups(k:KC H H'):Tups H H':=λb xs e=>k _ _ e nq3
theorem ITp.kc{b:Bd}{l:lS}(h:ITp X H R b l v)(k:KC H H'):ITp X H' R b l v:=by
 obtain⟨pl,dxl,p,ln,vn,e,h1,h2,h3,h4,h5⟩:=h;exact⟨pl,dxl,p,ln,vn,e,k _ _ h1 nq3,h2.keep k.tups,h3.keep ⟨k.tups,λa xs _ e=>k _ _ e nq3,λ_ z=>z⟩,k _ _ h4 nq3,h5⟩
theorem POk.kc(h:POk X m H)(k:KC H H'):POk X m H':=by
 have tb:∀{T ls},TbG T ls H->TbG T ls H':=λ{T ls} t=>t.keep (λps e=>k _ _ e nq3) λc q e=>k _ _ e nq3;refine⟨k _ _ h.o nq3,k _ _ h.b nq3,?_,tb h.t4,tb h.t5,tb h.t6,tb h.t7⟩;obtain⟨kv,h1,h2⟩:=h.w;refine⟨kv,k _ _ h1 nq3,λf hf=>?_⟩;obtain⟨a,g1,g2⟩:=h2 f hf;exact⟨a,g1,k _ _ g2 nq3⟩
theorem POk.nl(h:POk X m H)(k:∀b u,H b=sO u->(∀xs,u≠.lst xs)->H' b=sO u):POk X m H':=by
 have tb:∀{T ls},TbG T ls H->TbG T ls H':=λ{T ls} t=>t.keep (λps e=>k _ _ e nq) λc q e=>k _ _ e nq;refine⟨k _ _ h.o nq,k _ _ h.b nq,?_,tb h.t4,tb h.t5,tb h.t6,tb h.t7⟩;obtain⟨kv,h1,h2⟩:=h.w;refine⟨kv,k _ _ h1 nq,λf hf=>?_⟩;obtain⟨a,g1,g2⟩:=h2 f hf;exact⟨a,g1,k _ _ g2 nq⟩
theorem zb2(ns:lS)(ow:Str->List Bool)(x:Str)(r:lS):∀(as:Arms)(m:Nat),((kA ns ow x r as m).map λt:Pk=>2*t.b.sz).sum<=2*as.sz
 |.nil,m=>by unfold kA;exact uS _
 |.cons t xs b as,m=>by
  have:=zb2 ns ow x r as (hB ns ow b (stA (tkB ns x r b) x r xs) m).2
  rw[kA,uB,Uw,Arms.sz];show 2*b.sz+_<=_;lia
theorem zbf(ns:lS)(ow:Str->List Bool)(t:Pk):((t.kids ns ow).map λt:Pk=>2*t.b.sz).sum+2<=2*t.b.sz:=by
 obtain⟨b,l,m⟩:=t;unfold Pk.kids;dsimp only
 cases b with
 |give x=>rw[kP,Bd.sz];exact uk _
 |lt x d b=>rw[kP,Bd.sz];simp;lia
 |iff x a b=>rw[kP,Bd.sz];simp;lia
 |case x as =>
  have:=zb2 ns ow x (rO ns (.case x as) l) as m
  rw[kP,Bd.sz];lia
def wW:Expr:=match zP wQ with
 |[_,_,_,.Assign _ e _,_]=>isLam e
 |_=>.Constant .none 0 ⟨0,0,0,0⟩
def Wv:Str:=("held_def":Str)++(".<locals>.":Str)++("<lambda>":Str)
def ls9:List (Pos×Str):=[(xO wW,Wv)]
def cl9(c1:aO):List (Str×aO):=[("putter",c1)]
theorem zdH:LamScope ["place","putter"] ["place"] ["putter"] (lmS wW):=.ok
structure HOk(mg:Str->Option aA)(X:HX)(fl c1 cc:aO)(ct:aA)(m:Nat)(H:Hp):Prop where
 p:POk X m H
 f:H fl=sO (FunO fl (lamC mg Wv (lmP wW) (lmB wW) (lmS wW) (cl9 c1) cc ct))
 c:H cc=sO (CodO cc Wv)
 e:Cel H c1 (.ref X.pu)
section
variable{K:uc}
theorem HOk.keep{m':Nat}(h:HOk mg X fl c1 cc ct m H)(p:POk X m' H')(k:KM X.M H H'):HOk mg X fl c1 cc ct m' H':=by
 obtain⟨o,e⟩:=h.e;exact⟨p,k _ _ (h.p.noF h.f) h.f,k _ _ (h.p.noC h.c) h.c,o,k _ _ (h.p.no e nq nq) e⟩
def zdI(GP:Ca P w K mg base CX0 5 "begun_place" lS1 (spBegPl P w K mg base X))(fl c1 cc:aO)(ct:aA):WoD P w K mg base 6 where
 Tk:=Pk
 M:=X.M
 fb:=fl
 wt:=λt=>2*t.b.sz
 kids:=Pk.kids X.ns X.ow
 wk:=zbf X.ns X.ow
 IT:=λH R=>ITk X H λb=>R b/\b≠c1
 IR:=λH _ t v=>IsHc H (t.code X.ns X.ow) v
 IF:=λH R t v=>∃f,v=.ref f/\Fin P w K mg base 3 X H (λb=>R b/\b≠c1) ((t.kids X.ns X.ow).map (Pk.code X.ns X.ow)) (t.code X.ns X.ow) f
 S:=Nat
 pre:=Pk.m
 mid:=Pk.mid X.ns X.ow
 post:=Pk.post X.ns X.ow
 chn:=Pk.chn X.ns X.ow
 Ok:=HOk mg X fl c1 cc ct
 itk:=λh ok z sub=>⟨h.1,ITp.keep h.2 ok.p (λb u e n l=>z b u e n λxs y=>(l xs y).1) λb y=>⟨sub b y.1,y.2⟩⟩
 irk:=λh ok z _=>h.keep λb xs e=>z b _ e (ok.p.noT e) (by intro _ z;cases z)
 ifk:=λ⟨f,e,h⟩ _ z sub=>⟨f,e,λH' R' z' sub'=>h H' R' (λb u e n l=>z' b u (z b u e n λxs y=>(l xs y).1) n λxs y=>⟨sub b (l xs y).1,(l xs y).2⟩) λb y=>sub' b ⟨sub b y.1,y.2⟩⟩
 okk:=λ{H H' s} ok z=>by
  have g:∀b u,H b=sO u->(∀xs,u≠.lst xs)->H' b=sO u:=λb u e n=>z b u e λxs q=>absurd q (n xs);obtain⟨o,e⟩:=ok.e;exact⟨ok.p.nl g,g _ _ ok.f nq,g _ _ ok.c nq,o,g _ _ e nq⟩
 okM:=λok z=>ok.p.ne z
 beg:=λ{H R t v Q} h ok hRd hRM q=>by
  have C:Clo H (cl9 c1) ["putter"] [.ref X.pu]:=by
   refine wj (cl:=[("putter",c1)]) (by show(["putter"]:lS).Nodup;decide +kernel) ba rfl λi p v e1 e2=>?_
   match i,e1,e2 with
   |0,e1,e2=>cases e1;cases e2;exact ok.e
   |i+1,e1,_=>simp at e1
  have hcA:∀a∈(cl9 c1).map (·.2),∃v,Cel H a v:=λa ha=>by
   obtain⟨p,hp,rfl⟩:=uz.mp ha;exact C.all p hp
  have kc:KC H (yh H ((cl9 c1).map (·.2))):=λb u e n=>zL hcA e n;refine wg (k:=5) zdH (.all (us1 λ_=>rfl)) ok.f ok.c C λA2 outer2 s2 hr2=>?_;refine⟨_,cA GP hr2 (jA2 (!1) !0),?_⟩;have mo:∀{b:aO},b≠c1->b∉(cl9 c1).map (·.2):=λ{b} n z=>n (by unfold cl9 at z;simpa using z);have pm:=ok.p.kc kc;refine(zv rfl rfl ⟨v,t,λb=>R b/\b≠c1,rfl,⟨h.1,h.2.kc kc⟩,pm,λb z=>by rw[ya (mo z.2)];exact hRd b z.1,λb z=>hRM b z.1,λH' r l f2 vs R' k1 p1 hr hl hl1 sub new pre rl hk hfin hnn=>?_⟩);have hn1:H' c1=nO:=hnn c1 (by unfold cl9;simp);have sp:Same H' (xB H' H ((cl9 c1).map (·.2))):=λb u e=>y0 hnn e;have ne1:∀{b:aO},H' b≠nO->b≠c1:=λ{b} n z=>n (by rw[z];exact hn1);have km:KM X.M H (xB H' H ((cl9 c1).map (·.2))):=λb u n e=>by
   by_cases z:b∈(cl9 c1).map (·.2)
   .rw[wJ z];exact e
   .rw[yQ z]
    exact k1 b u n (by rw[ya z];exact e)
  have out:∀{b:aO},H' b≠nO->yh H ((cl9 c1).map (·.2)) b=nO->H b=nO:=λ{b} n e=>by
   rw[ya (mo (ne1 n))]at e;exact e
  refine q _ r l f2 vs (λb=>R' b\/R b) km (ok.keep (p1.same sp) km) (sp _ _ hr) (out (by rw[hl1];simp) hl) (sp _ _ hl1) (λb z=>.inr z) ?_ ?_ (.inl rl) ?_ ⟨f2,rfl,?_⟩
  .rintro b (z|z)
   .rcases new b z with y|y
    .exact .inl y.1
    .exact .inr (out (pre b z) y)
   .exact .inl z
  .rintro b (z|z)
   .cases e:H' b with
    |none=>exact absurd e (pre b z)
    |some u=>rw[sp b u e];simp
   .cases e:H b with
    |none=>exact absurd e (hRd b z)
    |some u=>rw[km b u (hRM b z) e];simp
  .exact hk.imp λ_ _ h=>⟨h.1,ITp.keep h.2 p1 (λb u e _ _=>sp b u e) λb z=>⟨.inl z,ne1 (pre b z)⟩⟩
  .intro H2 R2 z2 sub2
   exact hfin H2 R2 (λb u e n l=>z2 b u (sp b u e) n λxs y=>⟨.inl (l xs y),ne1 (by rw[e];simp)⟩) λb z=>sub2 b ⟨.inl z,ne1 (pre b z)⟩
 fin:=λ{H R t f2 rl rs Q} hh ok hRd hRM hRr hrl hrs q=>by
  obtain⟨f,e,hf⟩:=hh;cases e;refine(hf H (λb=>R b/\b≠c1) (λb u e _ _=>e) (λ_ z=>z) rl rs Q hrl (All2.mapl hrs) λH' v s1 h1=>?_).mono b9;refine q H' v R (.of s1) (ok.keep (ok.p.same s1) (.of s1)) (λ_ z=>z) (λ_ z=>.inl z) (λb z=>?_) h1;cases e:H b with
  |none=>exact absurd e (hRd b z)
  |some u=>rw[s1 b u e];simp
end
structure TT where
 t1:aO
 t2:aO
 t3:aO
 t4:aO
 t5:aO
 t6:aO
 t7:aO
def TT.M(t:TT)(b:aO):Prop:=b=t.t1\/b=t.t2\/b=t.t3\/b=t.t4\/b=t.t5\/b=t.t6\/b=t.t7
structure TT.Ok(t:TT)(H:Hp):Prop where
 n:Tbs t.t1 t.t2 H
 h:TbG t.t3 ls9 H
 a:TbG t.t4 ls4 H
 b:TbG t.t5 ls5 H
 c:TbG t.t6 ls6 H
 d:TbG t.t7 ls7 H
theorem TT.Ok.keep{t:TT}(h:t.Ok H)(k:∀{T ls},TbG T ls H->(T=t.t1\/T=t.t2\/T=t.t3\/T=t.t4\/T=t.t5\/T=t.t6\/T=t.t7)->TbG T ls H'):t.Ok H' :=
 ⟨⟨k h.n.t1 (.inl rfl),k h.n.t2 (.inr (.inl rfl))⟩,k h.h (.inr (.inr (.inl rfl))),k h.a (.inr (.inr (.inr (.inl rfl)))),k h.b (.inr (.inr (.inr (.inr (.inl rfl))))),k h.c (.inr (.inr (.inr (.inr (.inr (.inl rfl)))))),k h.d (.inr (.inr (.inr (.inr (.inr (.inr rfl))))))⟩
theorem TT.Ok.same{t:TT}(h:t.Ok H)(s:Same H H'):t.Ok H':=h.keep λa _=>a.same s
theorem TT.Ok.no{t:TT}(h:t.Ok H){u:HO}(e:H b=sO u)(n:∀ps,u≠.tbl ps):Not (t.M b):=by
 rintro(z|z|z|z|z|z|z)
 .exact h.n.t1.no e n z
 .exact h.n.t2.no e n z
 .exact h.h.no e n z
 .exact h.a.no e n z
 .exact h.b.no e n z
 .exact h.c.no e n z
 .exact h.d.no e n z
theorem xF:∀(l acc:lS)(x:Str),x∈once acc l↔x∈acc\/x∈l
 |[],acc,x=>by unfold once;simp
 |y::l,acc,x=>by
  unfold once;rw[xF l];split
  .rename_i h
   constructor
   .rintro(a|a)
    .exact .inl a
    .exact .inr (.tail _ a)
   .rintro(a|a)
    .exact .inl a
    .rcases uq.mp a with rfl|a
     .exact .inl h
     .exact .inr a
  .simp[or_assoc]
def resR(H:Hp)(R:aO->Prop)(a:aO):Prop:=R a/\∃xs,H a=sO (.lst xs)
mutual
theorem IsN.res{ns:lS}{H:Hp}{R:aO->Prop}:∀{b:Bd}{v:V},IsN ns H R b v->IsN ns H (resR H R) b v
 |.give x,v,⟨q,l,e,a,b,c⟩=>⟨q,l,e,a,⟨b,_,c⟩,c⟩
 |.lt x d b,v,⟨w,⟨q,l,e,a,r,c⟩,h⟩=>⟨w,⟨q,l,e,a,⟨r,_,c⟩,c⟩,IsN.res h⟩
 |.iff x a b,v,⟨w,u,⟨q,l,e,a',r,c⟩,h1,h2⟩=>⟨w,u,⟨q,l,e,a',⟨r,_,c⟩,c⟩,IsN.res h1,IsN.res h2⟩
 |.case x as,v,⟨ws,⟨q,l,e,a,r,c⟩,h⟩=>⟨ws,⟨q,l,e,a,⟨r,_,c⟩,c⟩,IsNA.res h⟩
theorem IsNA.res{ns:lS}{H:Hp}{R:aO->Prop}:∀{as:Arms}{ws:List V},IsNA ns H R as ws->IsNA ns H (resR H R) as ws
 |.nil,ws,h=>h
 |.cons _ _ b r,ws,⟨w,ws',e,g,i⟩=>⟨w,ws',e,IsN.res g,IsNA.res i⟩
end
def nsOf(d:Df):lS:=once [] (d.ns++d.b.binds)
def IsHF(H:Hp)(ow:Str->List Bool)(d:Df)(r:aO):Prop:=∃q1 q2 v,H r=sO (.tup [.str d.z,.ref q1,.ref q2,v])/\H q1=sO (.tup (d.ns.map V.str))/\H q2=sO (.tup ((ow d.z).map V.bl))/\IsHc H (hB (nsOf d) ow d.b (upN d.ns (ow d.z)) 0).1 v
theorem IsHF.keep{d:Df}{r:aO}(h:IsHF H ow d r)(t:Tups H H'):IsHF H' ow d r:=by obtain⟨q1,q2,v,a,b,c,e⟩:=h;exact⟨q1,q2,v,t _ _ a,t _ _ b,t _ _ c,e.keep t⟩
structure DfOk(ow:Str->List Bool)(N:lS)(d:Df):Prop where
 z:d.z∈N
 l:(ow d.z).length=d.ns.length
 n:d.ns.length<=3
 s:d.b.sz<=400000
 a:(nsOf d).length<=1000
 u:(nsOf d).Nodup
 h:∀x∈nsOf d,x.length<=1000
 b:∀X:HX,X.ns=nsOf d->X.ow=ow->X.N=N->OkB X d.b
inductive spHeldDef(t:TT)(vs:List V)(H:Hp)(Q:VK)(e_3:XK):Prop
 |mk (p od:aO) (d:Df) (ow:Str->List Bool):∀N:lS,(vs=[.ref p,.ref od])->(IsF H d p)->(OwA H od ow N)->(DfOk ow N d)->(t.Ok H)->(∀H' r,KM t.M H H'->t.Ok H'->IsHF H' ow d r->Q (.ref r) H')->spHeldDef t vs H Q e_3
section
variable{K:uc}
theorem scHeldDef:FnScope ["one","owns","putter","params","begin","body"] ["one","owns"] (zq wQ):=.ok
theorem jV:(["one","owns","putter","params","begin","body","param","own"]:lS).Nodup:=be
theorem XI{t:TT}(F:FunC K "held_def" wQ c f fd)(hB:BMn mg base)(hc:u6 K c t.t3=tU)(nd:[t.t1,t.t2,t.t3,t.t4,t.t5,t.t6,t.t7].Nodup)(N:Pn K cP)(L:Ln K cL)(GPu:Ma P w K mg base CX0 3 "Putter" cP lS25 (spPuInit cP))(GL:Ma P w K mg base CX0 1 "Place" cL lS3 (spPlInit cL))(GNo:Ca P w K mg base CX0 6 "noted" lS12 (spNoted t.t1 t.t2))(GWo:Ca P w K mg base CX0 7 "worked_out" ["task","begin"] (spWorked P w K mg base 6))(GP:∀X:HX,XOk X->X.cP=cP->X.cL=cL->X.T4=t.t4->X.T5=t.t5->X.T6=t.t6->X.T7=t.t7->Ca P w K mg base CX0 5 "begun_place" lS1 (spBegPl P w K mg base X))(m_zip:mg "zip"=nO)(m_tuple:mg "tuple"=nO):FnOk P w K mg base CX0 8 f fd ["one","owns"] (spHeldDef t):=by
 refine F.by scHeldDef ?_ ?_
 .rintro _ _ _ _ ⟨_,_,_,_,_,rfl,_⟩;rfl
 rintro _ _ s H vs _ E hr ⟨p,od,d,ow,NN,rfl,hF,hO,hD,hT,q⟩;have hr2:Room 2 _:=hr.mono b9;have hr4:Room 4 _:=hr.mono b9;have hr6:Room 6 _:=hr.mono b9;refine⟨_,
  (zh (sE 2 scHeldDef.nd (vi GPu hr4 rfl yN (jA2 (!0) !1)))
  (zh (yu ["param","own"] (i:=3) scHeldDef.nd rfl (Or.inl rfl) rfl (yR K rfl m_zip (jA2 (zj K !0) (wO hr (!1) (zj K !0)))) (λ_ _ _ _ _=>(zW K (n:=2) rfl (zx (gN 6 jV) (zx (gN 7 jV) zV)))) (λ_ _ _ _ _=>(yD (zS !7))) (λ_ _ _ _ _=>!6))
  (zh (sE 4 scHeldDef.nd (vi GL hr2 rfl yN (jA3 (zj K !0) (cA GNo hr6 (jA2 (zj K !0) (zO K !2))) !3)))
  (zh (sE 5 scHeldDef.nd (Jl (E:=E0) GWo hr scHeldDef.nd rfl (λ_=>rfl) (jA2 (!4) (xu (params:=lmP wW) (body:=lmB wW) (scope:=lmS wW) (pos:=xO wW) (T:=t.t3) (qual:=Wv) (cl:=cl9 (s.heap.objs.size+1)) hB rfl hc rfl))))
  (zi (zt (zy (jA4 (zj K !0) (zj K !0) (zK (zD K) rfl m_tuple uo (jA1 (wO hr (!1) (zj K !0)))) !5)))))))),?_⟩
 have sl:=zN;obtain⟨pq,pb,hp,hpq,hpb⟩:=hF.ex;obtain⟨kv,hkv,hN⟩:=id hO;obtain⟨ao,ga,hao⟩:=hN _ hD.z;have hn3:=hD.n;have hol:=hD.l;refine(zv rfl rfl (λpu dxp hpu hdx npd=>⟨pu,dxp,p,od,d,rfl,uX9,?_,b8,by have:=hD.s;lia,hD.a,hD.u,λH1 bd k1 fbd hbd1 hpu1=>⟨rfl,?_⟩⟩))
 .exact hF.keep λb xs e=>by rw[zo (zk e hpu),zo (zk e hdx)];exact e
 have s1:Same H H1:=λb u e=>k1 b u (zk e hpu) (by rw[zo (zk e hpu),zo (zk e hdx)];exact e);have zl:(d.ns.zip (ow d.z)).length=d.ns.length:=by rw[Ul,hol,Nat.min_self]
 refine¬(ixT (s1 _ _ hp) aI1 (zv rfl rfl (ixT (s1 _ _ hp) aI0 ⟨od,.ref ao,rfl,(show DGet H1 od (kV (.inr d.z)) (sO (.ref ao))from ga ▸ DGet.k (s1 _ _ hkv)),pq,ao,fO,fO,_,_,rfl,SqK.t (s1 _ _ hpq),SqK.t (s1 _ _ hao),vS (xs:=d.ns.map V.str) (ys:=(ow d.z).map V.bl) (by rw[ub,ub];exact hol.symm) (λj τ zs H'=>Same H1 H'/\(∃u v,τ=[sR p,sR od,sR pu,nO,nO,nO,u,v])/\zs=(((d.ns.zip (ow d.z)).take j).filter (·.2)).map λp=>V.str p.1) ⟨Same.refl _,⟨nO,nO,rfl⟩,rfl⟩ (λj τ zs H' _ h=>⟨SqK.t (h.1 _ _ (s1 _ _ hpq)),SqK.t (h.1 _ _ (s1 _ _ hao))⟩) ?_ ?_⟩)))
 .rintro i v1 v2 T τ zs H3 hv1 hv2 hTT ⟨s3,⟨u,v,rfl⟩,rfl⟩
  rw[uh]at hv1 hv2;obtain⟨y,hy,rfl⟩:=ug.mp hv1;obtain⟨e,he,rfl⟩:=ug.mp hv2;rw[YB (UF (z:=(y,e)).mpr ⟨hy,he⟩)];refine⟨T,¬⟨SqT.of uX9,rfl,_,_,rfl,_,_,rfl,rfl,(zv rfl rfl ?_)⟩⟩;have hfl:((((d.ns.zip (ow d.z)).take i).filter (·.2)).map λp=>V.str p.1).length < sizeLine:=by
   rw[ub];refine Us (uM _ _) ?_;rw[uv];lia
  cases e
  .exact iteF ⟨s3.new hTT,⟨_,_,rfl⟩,(u7 _).symm⟩
  .exact iteT ¬⟨hfl,s3.new hTT,⟨_,_,rfl⟩,rfl⟩
 rintro τ zs H3 ⟨s3,_,rfl⟩ lpar hlpar;rw[ub,um b8];have epr:((d.ns.zip (ow d.z)).filter (·.2)).map (λp=>V.str p.1)=(upN d.ns (ow d.z)).map V.str:=by unfold upN;rw[UP];rfl
 rw[epr];have s14:Same H1 (upd H3 lpar (.lst ((upN d.ns (ow d.z)).map V.str))):=s3.new hlpar;have hlp4:=uX9 (H:=H3) (a:=lpar) (o:=.lst ((upN d.ns (ow d.z)).map V.str));generalize upd H3 lpar (.lst ((upN d.ns (ow d.z)).map V.str))=H4 at *;have s04:=s1.trans s14;have hT4:=hT.same s04;refine¬(ixT (s04 _ _ hp) aI2 ¬(ixT (s04 _ _ hp) aI2 ¬⟨pu,cP,dxp,_,_,rfl,s14 _ _ hpu1,N.cl,N.a2,rfl,pb,bd,d.b,nsOf d,rfl,hpb.keep (.of s04),hD.s,s14 _ _ hbd1,hT4.n,λH5 vn R5 k5 n5 hN5=>¬(λpk dk hpk hdk npk=>⟨pk,dk,.ref pb,vn,.ref lpar,rfl,uX9,λH6 k6 h6=>⟨rfl,?_⟩⟩)⟩));have k5':KM t.M H4 H5:=λb u n e=>k5 b u (λz=>n (z.imp_right .inl)) e;have s56:Same H5 H6:=λb u e=>k6 b u (zk e hpk) (by rw[zo (zk e hpk),zo (zk e hdk)];exact e);have nm:[t.t1,t.t2,t.t3,t.t4,t.t5,t.t6,t.t7].Nodup:=nd;simp at nm
 obtain⟨⟨n12,n13,n14,n15,n16,n17⟩,⟨n23,n24,n25,n26,n27⟩,⟨n34,n35,n36,n37⟩,⟨n45,n46,n47⟩,⟨n56,n57⟩,n67⟩:=nm;have k56:KM t.M H4 H6:=k5'.trans (.of s56);have kp5:∀{b:aO}{u:HO},H4 b=sO u->(∀ps,u≠.tbl ps)->H6 b=sO u:=λ{b u} e n=>k56 b u (hT4.no e n) e;have tb5:∀{T ls},TbG T ls H4->T≠t.t1->T≠t.t2->TbG T ls H5:=λ{T ls} a m1 m2=>a.keep (λps e=>k5 _ _ (λz=>z.elim m1 m2) e) λc q e=>k5' _ _ (hT4.no e nq) e;have hT6:t.Ok H6:=⟨n5.same s56,(tb5 hT4.h (λz=>n13 z.symm) (λz=>n23 z.symm)).same s56,(tb5 hT4.a (λz=>n14 z.symm) (λz=>n24 z.symm)).same s56,(tb5 hT4.b (λz=>n15 z.symm) (λz=>n25 z.symm)).same s56,(tb5 hT4.c (λz=>n16 z.symm) (λz=>n26 z.symm)).same s56,(tb5 hT4.d (λz=>n17 z.symm) (λz=>n27 z.symm)).same s56⟩;have t06:Tups H H6:=λb xs e=>kp5 (s04 _ _ e) nq;have hP6:POk ⟨cP,cL,pu,dxp,od,bd,t.t4,t.t5,t.t6,t.t7,nsOf d,ow,NN⟩ 0 H6:=⟨kp5 (s14 _ _ hpu1) nq,kp5 (s14 _ _ hbd1) nq,hO.keep λb u e n1 _ _=>kp5 (s04 _ _ e) n1,hT6.a,hT6.b,hT6.c,hT6.d⟩;have hlp6:=kp5 hlp4 nq;have hN6:=(IsN.res hN5).keep (R':=resR H5 R5) ⟨.of s56,λa xs _ e=>s56 _ _ e,λ_ z=>z⟩;generalize hX:(⟨cP,cL,pu,dxp,od,bd,t.t4,t.t5,t.t6,t.t7,nsOf d,ow,NN⟩:HX)=X at *;have xok:XOk X:=by
  subst hX;exact⟨by simp[n45,n46,n47,n56,n57,n67],hD.h⟩
 have GP':=GP X xok bi bi bi bi bi bi;refine¬(yX hT6.h (by unfold GN.ls9;exact .head _) (λp hp _=>by unfold GN.ls9 at hp;rw[ut.mp hp]) λH7 fl cc ct k7 T7 hfl nfT ncT hfl7 hcc=>?_);refine⟨[(s.heap.objs.size+1,.ref pu)],λx hx=>?_,λH8 pb8=>?_⟩
 .rw[ut.mp hx]
  exact⟨2,"putter",rfl,rfl,rfl,.inl rfl⟩
 have e4:X.T4=t.t4:=bi
 have e5:X.T5=t.t5:=bi
 have e6:X.T6=t.t6:=bi
 have e7:X.T7=t.t7:=bi
 have epu:X.pu=pu:=bi
 have ecL:X.cL=cL:=bi
 have ens:X.ns=nsOf d:=bi
 have eow:X.ow=ow:=bi
 have s78:=Pub.same pb8;have hP7:POk X 0 H7:=⟨k7 _ _ (hT6.h.no hP6.o nq) hP6.o,k7 _ _ (hT6.h.no hP6.b nq) hP6.b,hP6.w.keep λb u e n1 _ _=>k7 b u (hT6.h.no e n1) e,yB hP6.t4 k7 (by rw[e4];exactλz=>n34 z.symm) hT6.h,yB hP6.t5 k7 (by rw[e5];exactλz=>n35 z.symm) hT6.h,yB hP6.t6 k7 (by rw[e6];exactλz=>n36 z.symm) hT6.h,yB hP6.t7 k7 (by rw[e7];exactλz=>n37 z.symm) hT6.h⟩;have hP8:=hP7.same s78;have ok8:HOk mg X fl (s.heap.objs.size+1) cc ct 0 H8:=⟨hP8,s78 _ _ hfl7,s78 _ _ hcc,by rw[epu];exact pb8.cel (_,_) (.head _)⟩;have kp7:∀{b:aO}{u:HO},H6 b=sO u->(∀ps,u≠.tbl ps)->H8 b=sO u:=λ{b u} e n=>s78 _ _ (k7 b u (hT6.h.no e n) e);have t68:Tups H6 H8:=λb xs e=>kp7 e nq;have hlp8:=kp7 hlp6 nq;have notc:∀{b:aO}{xs:List V},H8 b=sO (.lst xs)->b≠s.heap.objs.size+1:=λ{b xs} e z=>by
  obtain⟨o,e2⟩:=pb8.cel (s.heap.objs.size+1,.ref pu) (.head _);rw[z]at e;rw[show H8 (s.heap.objs.size+1)=_ from e2]at e;cases e
 have hRl:∀b,resR H5 R5 b\/b=lpar->∃xs,H8 b=sO (.lst xs):=λb z=>by
  rcases z with⟨_,xs,e⟩|rfl
  .exact⟨xs,kp7 (s56 _ _ e) nq⟩
  .exact⟨_,hlp8⟩
 have hbl:=Bd.binds_len d.b;have hsz:=hD.s;have hul:=Wt d.ns (ow d.z);refine⟨zdI GP' fl (s.heap.objs.size+1) cc ct,.ref pk,⟨d.b,upN d.ns (ow d.z),0⟩,λb=>resR H5 R5 b\/b=lpar,rfl,⟨⟨λy hy=>?_,hD.b X ens eow bi,?_,hD.s,?_⟩,pk,dk,pb,lpar,vn,rfl,?_,hpb.keep (t06.trans t68),?_,hlp8,.inr rfl,notc hlp8⟩,ok8,λb z=>?_,λb z=>?_,?_,.inl ⟨⟨_,ok8.f⟩,hP8.noF ok8.f⟩,λH9 v9 R9 k9 ok9 _ hv9 hcel=>?_⟩
 .rw[ens]
  unfold upN at hy;obtain⟨z,hz,rfl⟩:=uz.mp hy;unfold nsOf;rw[xF];exact .inr (uX _ (UC (UL.mp hz).1).1)
 .show 0+41*d.b.sz<=LIMT
  unfold LIMT;lia
 .show(upN d.ns (ow d.z)).length+d.b.binds.length<=2000000
  lia
 .rw[ecL]
  exact kp7 h6 nq
 .rw[ens]
  exact hN6.keep ⟨t68,λa xs _ e=>kp7 e nq,λa z=>⟨.inl z,let ⟨xs,e⟩:=hRl a (.inl z);notc e⟩⟩
 .obtain⟨xs,e⟩:=hRl b z
  rw[e];simp
 .obtain⟨xs,e⟩:=hRl b z
  exact hP8.noL e
 .show 2*d.b.sz<=10000000
  lia
 have hcA:∀a∈([(s.heap.objs.size+1,V.ref pu)]:List (aO×V)).map (·.1),∃v,Cel H9 a v:=λa ha=>by
  obtain⟨x,hx,rfl⟩:=uz.mp ha;exact⟨_,hcel x hx⟩
 have hv:IsHc H9 (GN.hB (nsOf d) ow d.b (upN d.ns (ow d.z)) 0).1 v9:=by
  rw[<- ens,<- eow];rw[<- eow]at hv9;exact hv9
 have kb:∀{b:aO}{u:HO},H7 b=sO u->Not (X.M b)->yh H9 (([(s.heap.objs.size+1,V.ref pu)]:List (aO×V)).map (·.1)) b=sO u:=λ{b u} e n=>by
  rw[ya]
  .exact k9 b u n (s78 _ _ e)
  .intro z
   obtain⟨x,hx,rfl⟩:=uz.mp z;rw[pb8.non x hx]at e;cases e
 have k010:KM t.M H (yh H9 (([(s.heap.objs.size+1,V.ref pu)]:List (aO×V)).map (·.1))):=λb u n e=>by
  refine kb (k7 b u (λz=>n (.inr (.inr (.inl z)))) (k56 b u n (s04 _ _ e))) ?_;rintro(z|z|z|z|z)
  .rw[z,epu,hpu]at e;cases e
  .exact n (.inr (.inr (.inr (.inl (z.trans e4)))))
  .exact n (.inr (.inr (.inr (.inr (.inl (z.trans e5))))))
  .exact n (.inr (.inr (.inr (.inr (.inr (.inl (z.trans e6)))))))
  .exact n (.inr (.inr (.inr (.inr (.inr (.inr (z.trans e7)))))))
 have t010:Tups H (yh H9 (([(s.heap.objs.size+1,V.ref pu)]:List (aO×V)).map (·.1))):=λb xs e=>k010 b _ (hT.no e nq) e;have nX:∀{T ls},TbG T ls H7->T≠t.t4->T≠t.t5->T≠t.t6->T≠t.t7->Not (X.M T):=λ{T ls} a m4 m5 m6 m7=>by
  rintro(z|z|z|z|z)
  .obtain⟨ps,h,_⟩:=a
   rw[z,hP7.o]at h;unfold PO at h;cases h
  .exact m4 (z.trans e4)
  .exact m5 (z.trans e5)
  .exact m6 (z.trans e6)
  .exact m7 (z.trans e7)
 have up:∀{T ls},TbG T ls H7->Not (X.M T)->TbG T ls (yh H9 (([(s.heap.objs.size+1,V.ref pu)]:List (aO×V)).map (·.1))):=λ{T ls} a n=>a.keep (λps e=>kb e n) λc q e=>kb e (hP7.noC e);have dn:∀{T ls},TbG T ls H9->TbG T ls (yh H9 (([(s.heap.objs.size+1,V.ref pu)]:List (aO×V)).map (·.1))):=λ{T ls} a=>a.keep (λps e=>zL hcA e nq3) λc q e=>zL hcA e nq3;have g1:=yB hT6.n.t1 k7 n13 hT6.h;have g2:=yB hT6.n.t2 k7 n23 hT6.h;have ok10:t.Ok (yh H9 (([(s.heap.objs.size+1,V.ref pu)]:List (aO×V)).map (·.1))):=⟨⟨up g1 (nX g1 n14 n15 n16 n17),up g2 (nX g2 n24 n25 n26 n27)⟩,up T7 (nX T7 n34 n35 n36 n37),by rw[<- e4];exact dn ok9.p.t4,by rw[<- e5];exact dn ok9.p.t5,by rw[<- e6];exact dn ok9.p.t6,by rw[<- e7];exact dn ok9.p.t7⟩;have hv10:=hv.keep (ym hcA);have hkv10:=k010 _ _ (hT.no hkv nq) hkv;generalize yh H9 (([(s.heap.objs.size+1,V.ref pu)]:List (aO×V)).map (·.1))=H10 at *;refine¬(ixT (t010 _ _ hp) aI0 ¬(ixT (t010 _ _ hp) aI1 (zv rfl rfl (ixT (t010 _ _ hp) aI0 ⟨od,.ref ao,rfl,(show DGet H10 od (kV (.inr d.z)) (sO (.ref ao))from ga ▸ DGet.k hkv10),ao,¬(.inr ⟨SqT.of (t010 _ _ hao),¬⟨sN4,λr hr=>?_⟩⟩)⟩))));have sn:=zn (o:=.tup [.str d.z,.ref pq,.ref ao,v9]) hr;exact q _ r (k010.trans (.of sn)) (ok10.same sn) ⟨pq,ao,v9,uX9,sn _ _ (t010 _ _ hpq),sn _ _ (t010 _ _ hao),hv10.keep (.of sn)⟩
inductive spHeld(t:TT)(vs:List V)(H:Hp)(Q:VK)(e_3:XK):Prop
 |mk (pp pd od:aO) (v0:V) (ps:List aO) (dfs:List Df) (ow:Str->List Bool):∀N:lS,(vs=[.ref pp,.ref od])->(H pp=sO (.tup [v0,.ref pd]))->(H pd=sO (.tup (ps.map V.ref)))->(IsFs H dfs ps)->(dfs.length<=1000)->(OwA H od ow N)->((∀d∈dfs,DfOk ow N d))->(t.Ok H)->(∀H' r q rs,KM t.M H H'->t.Ok H'->H' r=sO (.tup [v0,.ref q])->H' q=sO (.tup (rs.map V.ref))->All2 (IsHF H' ow) dfs rs->Q (.ref r) H')->spHeld t vs H Q e_3
theorem zdJ:FnScope ["program","owns"] ["program","owns"] (zq JC):=.ok
theorem zdK:(["program","owns","one"]:lS).Nodup:=be
theorem zbg{t:TT}(F:Fun K "held" "held" JC f fd)(GD:Ca P w K mg base CX0 8 "held_def" ["one","owns"] (spHeldDef t))(m_tuple:mg "tuple"=nO):FnOk P w K mg base CX0 9 f fd ["program","owns"] (spHeld t):=by
 refine F.by zdJ ?_ ?_
 .rintro _ _ _ _ ⟨_,_,_,_,_,_,_,_,rfl,_⟩;rfl
 rintro _ _ _ _ H vs _ _ hr ⟨pp,pd,od,v0,ps,dfs,ow,N,rfl,hp,hpd,hFs,hlen,hO,hD,hT,q⟩;refine⟨_,(zi (zt (zy (jA2 (zj K !0) (zK (zD K) rfl m_tuple uo (jA1 (yn ["one"] rfl (yo K (zj K !0)) (λ_ _ _ _ _=>(gN 2 zdK)) (λ_ _ _ _ _=>zZ) (λ_ _ _ _ _=>(cA GD hr (jA2 (!2) !1)))))))))),?_⟩;have sl:=zN;have fl:=hFs.len;have tk:∀{H':Hp},KM t.M H H'->Tups H H':=λk b xs e=>k _ _ (hT.no e nq) e;refine¬(ixT hp aI0 ¬(ixT hp aI1 ⟨pd,rfl,⟨_,SqT.of hpd⟩,xJ (xs:=ps.map V.ref) (λj τ zs H'=>KM t.M H H'/\t.Ok H'/\(∃u,τ=[sR pp,sR od,u])/\∃rs:List aO,zs=rs.map V.ref/\All2 (IsHF H' ow) (dfs.take j) rs) ⟨KM.refl,hT,⟨nO,rfl⟩,[],rfl,.nil⟩ (λj τ zs H' _ h=>SqT.of (tk h.1 _ _ hpd)) ?_ ?_⟩))
 .rintro j v τ zs H1 hv ⟨k1,T1,⟨u,rfl⟩,rs,rfl,hrs⟩
  obtain⟨p0,hp0,rfl⟩:=L2.gM hv;obtain⟨d,hd,hF⟩:=hFs.get hp0;have rl:=hrs.len;rw[uv]at rl;refine(zv rfl rfl ⟨p0,od,d,ow,N,rfl,hF.keep (tk k1),hO.keep λb u e n1 _ _=>k1 b u (hT.no e n1) e,hD d (uu hd),T1,λH2 r k2 T2 h2=>⟨bc,k1.trans k2,T2,⟨_,rfl⟩,rs++[r],ba,?_⟩⟩);rw[uA,hd];exact All2.app (hrs.imp λ_ _ h=>h.keep λb xs e=>k2 _ _ (T1.no e nq) e) (.cons h2 .nil)
 .rintro τ zs H1 ⟨k1,T1,_,rs,rfl,hrs⟩ l hl
  rw[ub,um b8]at hrs;refine⟨l,¬(.inl ⟨SqL.of uX9,λq2 hq2=>⟨sN2,λr hr=>?_⟩⟩)⟩;have s1:Same H1 _:=(zn (o:=.lst (rs.map V.ref)) hl).new (o:=.tup (rs.map V.ref)) hq2;have s2:=s1.new (o:=.tup [v0,.ref q2]) hr;exact q _ r q2 rs (k1.trans (.of s2)) (T1.same s2) uX9 (old hr uX9) (hrs.imp λ_ _ h=>h.keep (.of s2))
noncomputable def less:lS->lS->Option (lS)
 |l,[]=>sO l
 |l,x::xs=>if x∈l then less (l.erase x) xs else nO
def spr(fr:lS):lS->lS->Nat->lS×List (Str×Str)×Nat
 |_,[],m=>([],[],m)
 |st,x::r,m=>if x∈fr/\x∉st then(x::(spr fr (st++[x]) r m).1,(spr fr (st++[x]) r m).2)else(nnm x (m+1)::(spr fr (st++[nnm x (m+1)]) r (m+1)).1,(nnm x (m+1),x)::(spr fr (st++[nnm x (m+1)]) r (m+1)).2.1,(spr fr (st++[nnm x (m+1)]) r (m+1)).2.2)
theorem ZC(fr:lS):∀(xs st:lS)(ps:List (Str×Str))(m:Nat),xs.foldl (spS fr) (st,ps,m)=(st++(spr fr st xs m).1,ps++(spr fr st xs m).2.1,(spr fr st xs m).2.2)
 |[],st,ps,m=>by unfold spr;simp
 |x::xs,st,ps,m=>by
  rw[UN,spr];by_cases c:x∈fr/\x∉st
  .rw[show spS fr (st,ps,m) x=(st++[x],ps,m)from iP c,iP c,ZC fr xs]
   simp
  .rw[show spS fr (st,ps,m) x=(st++[nnm x (m+1)],ps++[(nnm x (m+1),x)],m+1)from iN c,iN c,ZC fr xs]
   simp
theorem Ww(fr xs:lS)(m:Nat):spn fr xs m=spr fr [] xs m:=by
 unfold spn;rw[ZC];simp
theorem wn{fr:lS}:∀(xs st:lS)(m:Nat)(p:Str×Str),p∈(spr fr st xs m).2.1->p.2∈xs/\∃k,p.1=nnm p.2 k
 |[],st,m,p,h=>by unfold spr at h;cases h
 |x::xs,st,m,p,h=>by
  unfold spr at h;split at h
  .obtain⟨a,b⟩:=wn xs _ m p h
   exact⟨.tail _ a,b⟩
  .rcases uq.mp h with rfl|h
   .exact⟨.head _,_,rfl⟩
   .obtain⟨a,b⟩:=wn xs _ (m+1) p h
    exact⟨.tail _ a,b⟩
noncomputable def rpr:lS->List Bool->lS->lS
 |x::xs,e::es,st=>if e then st.headD "" :: rpr xs es st.tail else x::rpr xs es st
 |_,_,_=>[]
theorem ZD(st:lS):∀(xs:lS)(es:List Bool)(acc:lS)(k:Nat),((xs.zip es).foldl (rpS st) (acc,k)).1=acc++rpr xs es (st.drop k)
 |[],es,acc,k=>by unfold rpr;simp
 |x::xs,[],acc,k=>by unfold rpr;simp
 |x::xs,e::es,acc,k=>by
  rw[List.zip_cons_cons,UN,rpr];cases e
  .rw[show rpS st (acc,k) (x,fO)=(acc++[x],k)from rfl,ZD st xs es]
   simp
  .rw[show rpS st (acc,k) (x,tU)=(acc++[st.getD k ""],k+1)from rfl,ZD st xs es,iP rfl,List.tail_drop]
   have:st.getD k ""=(st.drop k).headD "":=by rw[u5,List.headD_eq_head?_getD,List.head?_drop]
   rw[this];simp
theorem Wx(xs:lS)(es:List Bool)(st:lS):rpl xs es st=rpr xs es st:=by
 unfold rpl;rw[ZD];simp
theorem Qh(x:Str)(xs:lS)(e:Bool)(es:List Bool):upN (x::xs) (e::es)=if e then x::upN xs es else upN xs es:=by
 unfold upN;cases e<;>simp
def ups(ow:Str->List Bool):De->lS
 |.app w f xs=>if w="ask"then f::xs else if w="call"then upN xs (ow f)else xs
 |_=>[]
def zep(ow:Str->List Bool):De->lS
 |.op _ a b=>[a,b]
 |.app w f xs=>if w="call"then ltN xs (ow f)else[]
 |_=>[]
mutual
def wk(ow:Str->List Bool)(lent:lS):Hc->lS->Bool
 |.give x,l=>decide (l=[x])
 |.drop x b,l=>match less l [x]with
  |none=>fO
  |some l'=>wk ow lent b l'
 |.lt x d b,l=>match less l (ups ow d)with
  |none=>fO
  |some l'=>((zep ow d).all λy=>decide (y∈l') || decide (y∈lent)) && wk ow lent b (l'++[x])
 |.hold n x b,l=>(decide (x∈l) || decide (x∈lent)) && wk ow lent b (l++[n])
 |.iff x a b,l=>(decide (x∈l) || decide (x∈lent)) && (wk ow lent a l && wk ow lent b l)
 |.case x as,l=>(decide (x∈l) || decide (x∈lent)) && wkA ow lent x as l
def wkA(ow:Str->List Bool)(lent:lS)(x:Str):Ha->lS->Bool
 |.nil,_=>tU
 |.cons _ xs m b r,l=>(match (if m then less l [x]else sO l)with
  |none=>fO
  |some l'=>wk ow lent b (l'++xs)) && wkA ow lent x r l
end
theorem zbh{xs:lS}{es:List Bool}(h:y∈upN xs es):y∈xs:=by
 unfold upN at h;obtain⟨z,hz,rfl⟩:=uz.mp h;exact(UC (UL.mp hz).1).1
def WdOk:De->Prop
 |.app w _ _=>w≠"num"/\w≠"op"
 |_=>True
theorem zdL{f0:Str}{xs:lS}(h:IsHd H (.app w0 f0 xs) p):∃q rest,H p=sO (.tup (.str w0::.str f0::.ref q::rest))/\H q=sO (.tup (xs.map V.str)):=by
 obtain⟨q,h1,h2⟩:=h;by_cases e:w0="make"
 .rw[iP e]at h1;exact⟨q,_,h1,h2⟩
 .rw[iN e]at h1;exact⟨q,_,h1,h2⟩
mutual
noncomputable def Hc.dp:Hc->Nat
 |.give _=>1
 |.lt _ _ b=>b.dp+2
 |.hold _ _ b=>b.dp+1
 |.drop _ b=>b.dp+1
 |.iff _ a b=>max a.dp b.dp+1
 |.case _ as=>as.dp+2
noncomputable def Ha.dp:Ha->Nat
 |.nil=>0
 |.cons _ _ _ b r=>max b.dp r.dp
end
mutual
def Hc.Ok(N:lS)(ow:Str->List Bool):Hc->Prop
 |.give _=>True
 |.lt _ d b=>(WdOk d/\CaD N ow d/\d.uses.length<=100)/\b.Ok N ow
 |.hold _ _ b=>b.Ok N ow
 |.drop _ b=>b.Ok N ow
 |.iff _ a b=>a.Ok N ow/\b.Ok N ow
 |.case _ as=>as.Ok N ow
def Ha.Ok(N:lS)(ow:Str->List Bool):Ha->Prop
 |.nil=>True
 |.cons _ ns _ b r=>(ns.length<=100/\b.Ok N ow)/\r.Ok N ow
end
theorem Hc.dp_pos:∀c:Hc,0 < c.dp
 |.give _=>by rw[Hc.dp];decide
 |.lt _ _ b=>by rw[Hc.dp];lia
 |.hold _ _ b=>by rw[Hc.dp];lia
 |.drop _ b=>by rw[Hc.dp];lia
 |.iff _ a b=>by rw[Hc.dp];lia
 |.case _ as=>by rw[Hc.dp];lia
theorem Bd.dp_pos:∀b:Bd,0 < b.dp
 |.give _=>by rw[Bd.dp];decide
 |.lt _ _ b=>by rw[Bd.dp];lia
 |.iff _ a b=>by rw[Bd.dp];lia
 |.case _ as=>by rw[Bd.dp];lia
theorem Qi:∀{as:Arms}{i:Nat}{ns:lS}{b:Bd},as.ways[i]?=sO (ns,b)->b.dp<=as.dp
 |.nil,i,ns,b,h=>by unfold Arms.ways at h;simp at h
 |.cons t xs c r,i,ns,b,h=>by
  unfold Arms.ways at h;rw[Arms.dp];cases i with
  |zero=>simp at h;rw[h.2];exact Nat.le_max_left _ _
  |succ i=>exact uF (Qi (as:=r) (i:=i) (by simpa using h)) (Nat.le_max_right _ _)
theorem YF{l:Wy}{p:lS×Bd}(h:l[i]?=sO p):wsz (l.take (i+1))=wsz (l.take i)+p.2.sz:=by
 rw[uA,h,vB]
 rfl
theorem Qj(l:Wy)(i:Nat):wsz (l.take i)<=wsz l:=by
 have:=vB (l.take i) (l.drop i)
 rw[List.take_append_drop]at this;lia
inductive spNamed(n:Nat)(vs:List V)(H:Hp)(Q:VK)(e_3:XK):Prop
 |mk (p:aO):∀b:Bd,(vs=[.ref p])->(IsB H b p)->(b.dp<=n)->(b.sz<=1000000)->(∀(H':Hp)(r:aO)(xs:lS),Same H H'->H r=nO->H' r=sO (.lst (xs.map V.str))->xs.length<=b.sz->Q (.ref r) H')->spNamed n vs H Q e_3
theorem scNamed:FnScope ["_law_body_here","_law_found","_law_tag","_law_names","_law_inner"] ["_law_body_here"] (zq vz):=.ok
theorem Vy(F:Fun K "_law_named" "_law_named" vz f fd):FnOk P w K mg base CX0 (1+0) f fd ["_law_body_here"] (spNamed 0):=by
 refine F.by scNamed ?_ ?_
 .rintro _ _ _ _ ⟨_,_,rfl,_⟩;rfl
 rintro _ _ _ _ _ vs _ _ _ ⟨p,b,rfl,_,hd,_⟩;exact absurd hd (Nat.not_le_of_gt b.dp_pos)
theorem Qk(F:Fun K "_law_named" "_law_named" vz f fd)(GN':Ca P w K mg base CX0 (1+n) "_law_named" ["_law_body_here"] (spNamed n)):FnOk P w K mg base CX0 (1+(n+1)) f fd ["_law_body_here"] (spNamed (n+1)):=by
 refine F.by scNamed ?_ ?_
 .rintro _ _ _ _ ⟨_,_,rfl,_⟩;rfl
 rintro _ _ _ _ H vs _ _ hr ⟨p,b,rfl,hI,hd,hz,q⟩;have hrN:Room (1+n) _:=hr;refine⟨_,
  (zh (zF (tN zJ (zj K !0) zu)
   (zi (zt (zI zQ)))  zw)
  (zh (zF (tN zJ (zj K !0) zu)
   (zh (sE 1 scNamed.nd (cA GN' hrN (jA1 (zj K !0))))
   (zh (zF (tN zJ (zj K (zj K !0)) zu)
    (zi (yg (yO uE uN uO zY (!1) (jA1 (zj K (zj K !0))))))  zw)
   (zi (zt !1))))  zw)
  (zh (zF (tN zJ (zj K !0) zu)
   (zi (zt (zC yP (cA GN' hrN (jA1 (zj K !0))) (cA GN' hrN (jA1 (zj K !0))))))  zw)
  (zh (sE 1 scNamed.nd (zI zQ))
  (zh (z5 PassesOwn.never rfl (yo K (zj K !0)) (zW K rfl (zx (gN 2 scNamed.nd) (zx (gN 3 scNamed.nd) (zx (gN 4 scNamed.nd) zV))))
   (zi (sE 1 scNamed.nd (zC yP (!1) (cA GN' hrN (jA1 !4))))))
  (zi (zt !1))))))),?_⟩
 have sl:=zN;cases hI with
 |@give x p hp =>
  refine(yY rfl hp ⟨sN0,λl1 h1=>?_⟩);exact q _ l1 [] (zn h1 _) h1 uX9 (uS _)
 |@lt x d b p q0 r hp hD hb =>
  rw[Bd.dp]at hd;rw[Bd.sz]at hz q;refine(z7 rfl hp (yY rfl hp ?_));refine¬(ixT hp aI3 ⟨r,b,rfl,hb,b8,b8,λH1 l1 xs s1 f1 h1 hxl=>?_⟩);have hD1:=hD.keep (.of s1);have hp1:=s1 _ _ hp;cases hD1 with
  |num h2 =>
   refine¬(ixT hp1 aI2 (ixT h2 aI0 ⟨rfl,¬(iteF (nxtC ¬?_))⟩));exact q _ l1 xs s1 f1 h1 b8
  |op h2 =>
   refine¬(ixT hp1 aI2 (ixT h2 aI0 ⟨rfl,¬(iteF (nxtC ¬?_))⟩));exact q _ l1 xs s1 f1 h1 b8
  |@app w0 f0 ys _ qy hw h2 h3 =>
   refine¬(ixT hp1 aI2 (ixT h2 aI0 ⟨rfl,¬?_⟩));by_cases c:w0="func"
   .rw[decide_eq_true (congrArg V.str c)]
    refine iteT ?_;refine¬⟨.inl ⟨rfl,_,SqL.of h1⟩,¬(ixT hp1 aI2 (ixT h2 aI1 ⟨l1,(zE rfl rfl ⟨h1,bc,¬?_⟩)⟩))⟩;refine q _ l1 (xs++[f0]) (s1.put f1) f1 ?_ (by rw[ud,uH];lia);rw[uX9,ur]
    rfl
   .rw[eO λz=>c (V.str.inj z)]
    refine iteF (nxtC ¬?_);exact q _ l1 xs s1 f1 h1 b8
 |@iff x a b p q0 r hp h1 h2 =>
  rw[Bd.dp]at hd;rw[Bd.sz]at hz q;refine(z7 rfl hp (z7 rfl hp ?_));refine(yY rfl hp ?_);refine¬(ixT hp aI2 ⟨q0,a,rfl,h1,b8,b8,λH1 l1 xs s1 f1 g1 hxl=>?_⟩);refine¬(ixT (s1 _ _ hp) aI3 ⟨r,b,rfl,h2.keep (.of s1),b8,b8,λH2 l2 ys s2 f2 g2 hyl=>?_⟩);refine⟨l1,l2,(zE rfl rfl ⟨s2 _ _ g1,g2,bp,λl3 h3=>?_⟩)⟩;have s02:=s1.trans s2;refine q _ l3 (xs++ys) (s02.new h3) (s02.free h3) (by rw[uX9,ur]) (by rw[ud];lia)
 |@case x as ps p q0 hp hq hps hA =>
  rw[Bd.dp]at hd;rw[Bd.sz]at hz q;have az:=Arms.wsz as;refine(z7 rfl hp (z7 rfl hp ?_));refine(z7 rfl hp ⟨sN0,λl1 h1=>?_⟩);have s1:=zn (o:=.lst []) h1;refine¬(ixT (s1 _ _ hp) aI2 ⟨q0,rfl,⟨_,SqT.of (s1 _ _ hq)⟩,xc (xs:=ps.map V.ref) (λi σ H'=>Same H H'/\∃r xs,(∃y1 y2 y3,σ=[sR p,sR r,y1,y2,y3])/\H r=nO/\H' r=sO (.lst (xs.map V.str))/\xs.length<=wsz (as.ways.take i)) ⟨s1,l1,[],⟨_,_,_,rfl⟩,h1,uX9,uS _⟩ (λi σ H' _ h=>SqT.of (h.1 _ _ hq)) ?_ ?_⟩)
  .rintro i v σ H4 hv ⟨s4,r,xs,⟨y1,y2,y3,rfl⟩,fr,hr4,hxl⟩
   obtain⟨pa,hpa,rfl⟩:=L2.gM hv;obtain⟨t,qa,ra,ns,b,g1,g2,g3,g4⟩:=hA.get hpa;have bd:=Qi g1;have wl:=Qj as.ways (i+1);rw[YF g1]at wl;refine⟨_,_,rfl,SqT.of (s4 _ _ g2),rfl,_,_,rfl,_,_,rfl,_,_,rfl,rfl,?_⟩;refine(zv rfl rfl ⟨ra,b,rfl,g4.keep (.of s4),b8,by show b.sz<=_;simp only at wl;lia,λH5 l5 ys s5 f5 h5 hyl=>?_⟩);refine⟨r,l5,(zE rfl rfl ⟨s5 _ _ hr4,h5,by rw[ub,ub];simp only at wl;lia,λl6 h6=>?_⟩)⟩;have s05:=s4.trans s5;exact⟨s05.new h6,l6,xs++ys,⟨_,_,_,rfl⟩,s05.free h6,by rw[uX9,ur],by rw[YF g1,ud];show _<=_+b.sz;lia⟩
  .rintro σ H4 ⟨s4,r,xs,⟨y1,y2,y3,rfl⟩,fr,hr4,hxl⟩
   have wl:=Qj as.ways (ps.map V.ref).length;exact¬(q _ r xs s4 fr hr4 b8)
theorem Vz{l:lS}(h:l.Nodup)(e:l[i]?=sO x):x∉l.take i:=by
 intro m;obtain⟨j,hj,e2⟩:=List.mem_iff_getElem.mp m;obtain⟨hi,e1⟩:=uf.mp e;rw[uv]at hj;rw[List.getElem_take]at e2
 have:=(List.getElem_inj (h₀:=b8) (h₁:=hi) h).mp (e2.trans e1.symm)
 lia
theorem YG(kvs:List (Key×V))(k:Key)(v:V):(putK kvs k v).length<=kvs.length+1:=by
 unfold putK;split
 .rw[ub]
  lia
 .rw[ud]
  exact uk _
theorem Ql{kvs:List (Key×V)}{k:Key}{t:aO}(h:∀p∈kvs,∃a,p.2=V.ref a):∀p∈putK kvs k (.ref t),∃a,p.2=V.ref a:=λp hp=>by
 unfold putK at hp;split at hp
 .obtain⟨q,hq,rfl⟩:=uz.mp hp
  split
  .exact⟨t,rfl⟩
  .exact h q hq
 .rcases uy.mp hp with hp|hp
  .exact h p hp
  .rw[ut.mp hp];exact⟨t,rfl⟩
inductive OwI(H:Hp)(od:aO)(ds:List Df):Prop
 |mk (kv:List (Key×V)):(∃ow:Str->List Bool,H od=sO (.dK kv)/\kv.length<=ds.length/\(∀p∈kv,∃a,p.2=V.ref a)/\∀d∈ds,∃a,valV kv (.inr d.z)=sO (.ref a)/\H a=sO (.tup ((ow d.z).map V.bl))/\(ow d.z:List Bool).length=d.ns.length)->OwI H od ds
inductive spOwns(K:uc)(n:Nat)(vs:List V)(H:Hp)(Q:VK)(e_3:XK):Prop
 |mk (st pp pd:aO) (v0:V) (ps:List aO) (dfs:List Df):∀B:Nat,(vs=[.ref st,.ref pp])->(Sta K H st B)->(B+9 < LIM)->(H pp=sO (.tup [v0,.ref pd]))->(H pd=sO (.tup (ps.map V.ref)))->(IsFs H dfs ps)->(ps.length=3)->((∀d∈dfs,d.ns.length<=3/\d.b.sz<=1000000/\d.b.dp<=n))->((dfs.map (·.z)).Nodup)->(∀H' od,Kp st H H'->Sta K H' st (B+9)->OwI H' od dfs->Q (.ref od) H')->spOwns K n vs H Q e_3
theorem scOwns:FnScope ["_law_state","_law_program_here","_law_handed_on","_law_name_here","_law_params","_law_body_here","_law_owns_here"] lS27 (zq Xu):=.ok
theorem zdM:(["_law_state","_law_program_here","_law_handed_on","_law_name_here","_law_params","_law_body_here","_law_owns_here","_law_param"]:lS).Nodup:=be
theorem Qm(F:Fun K "_law_owns" "_law_owns" Xu f fd)(GD:Ca P w K mg base CX0 1 "_law_draw" lS2 (spDraw K))(GN':Ca P w K mg base CX0 (1+n) "_law_named" ["_law_body_here"] (spNamed n))(m_tuple:mg "tuple"=nO):FnOk P w K mg base CX0 (1+n+1) f fd lS27 (spOwns K n):=by
 refine F.by scOwns ?_ ?_
 .rintro _ _ _ _ ⟨_,_,_,_,_,_,_,rfl,_⟩;rfl
 rintro _ _ _ _ H vs _ _ hr ⟨st,pp,pd,v0,ps,dfs,B,rfl,S0,hB,hp,hpd,hF,hl,hb,hnd,q⟩;have hrN:Room (1+n) _:=hr;have hr1:Room 1 _:=hrN.mono b8;refine⟨_,
  (zh (sE 2 scOwns.nd (zI zQ))
  (zh (z5 PassesOwn.never rfl (yo K (zj K !1)) (zW K rfl (zx (gN 3 scOwns.nd) (zx (gN 4 scOwns.nd) (zx (gN 5 scOwns.nd) zV))))
   (zi (sE 2 scOwns.nd (zC yP (!2) (cA GN' hrN (jA1 !5))))))
  (zh (sE 6 scOwns.nd wM)
  (zh (z5 PassesOwn.never rfl (yo K (zj K !1)) (zW K rfl (zx (gN 3 scOwns.nd) (zx (gN 4 scOwns.nd) (zx (gN 5 scOwns.nd) zV))))
   (zi (vw hr1 (!6) (!3) (zK (zD K) rfl m_tuple uo (jA1 (yn ["_law_param"] rfl (yo K !4) (λ_ _ _ _ _=>(gN 7 zdM)) (λ_ _ _ _ _=>zZ) (λ_ _ _ _ _=>(zbH (yM vJ (cA GD hr1 (jA2 (!0) zp)) zp (xv _)) (wZ (yM (Zf K) (!3) (!2) (by with_unfolding_all rfl)))))))))))
  (zi (zt !6)))))),?_⟩
 have sl:=zN;have LM:LIM=4611686018427387904:=rfl;have fl:=hF.len;refine⟨sN0,λl1 h1=>?_⟩;have s1:=zn (o:=.lst []) h1;refine¬(ixT (s1 _ _ hp) aI1 ⟨pd,rfl,⟨_,SqT.of (s1 _ _ hpd)⟩,xc (xs:=ps.map V.ref) (λi σ H'=>Same H H'/\∃r xs,(∃y1 y2 y3,σ=[sR st,sR pp,sR r,y1,y2,y3,nO])/\H r=nO/\H' r=sO (.lst (xs.map V.str))/\xs.length<=1000000*i) ⟨s1,l1,[],⟨_,_,_,rfl⟩,h1,uX9,uS _⟩ (λi σ H' _ h=>SqT.of (h.1 _ _ hpd)) ?_ ?_⟩)
 .rintro i v σ H4 hv ⟨s4,r,xs,⟨y1,y2,y3,rfl⟩,fr,hr4,hxl⟩
  obtain⟨pa,hpa,rfl⟩:=L2.gM hv;obtain⟨d,hd,hFd⟩:=hF.get hpa;have hi:=(uf.mp hd).1;obtain⟨qn,pb,g1,g2,g3⟩:=(hFd.keep (.of s4)).ex;obtain⟨_,b2,b3⟩:=hb d (uu hd);refine⟨_,_,rfl,SqT.of g1,rfl,_,_,rfl,_,_,rfl,_,_,rfl,rfl,?_⟩;refine(zv rfl rfl ⟨pb,d.b,rfl,g3,b3,b2,λH5 l5 ys s5 f5 h5 hyl=>?_⟩);refine⟨r,l5,(zE rfl rfl ⟨s5 _ _ hr4,h5,bp,λl6 h6=>?_⟩)⟩;have s05:=s4.trans s5;exact⟨s05.new h6,l6,xs++ys,⟨_,_,_,rfl⟩,s05.free h6,by rw[uX9,ur],by rw[ud];lia⟩
 rintro σ H4 ⟨s4,r,xs,⟨y1,y2,y3,rfl⟩,fr,hr4,-⟩;intro od hod;have s5:=s4.new (o:=.dK []) hod;have hod5:=uX9 (H:=H4) (a:=od) (o:=.dK []);have hr5:=(zn (o:=.dK []) hod) _ _ hr4;have fod:=s4.free hod;generalize upd H4 od (.dK [])=H5 at *;have S5:=S0.same s5;refine¬(ixT (s5 _ _ hp) aI1 ⟨pd,rfl,⟨_,SqT.of (s5 _ _ hpd)⟩,xc (xs:=ps.map V.ref) (λi σ H'=>Kp st H H'/\Sta K H' st (B+3*i)/\(∃y1 y2 y3,σ=[sR st,sR pp,sR r,y1,y2,y3,sR od])/\H' r=sO (.lst (xs.map V.str))/\OwI H' od (dfs.take i)) ⟨.of s5,S5.mono b8,⟨_,_,_,rfl⟩,hr5,[],λ_=>[],hod5,uS _,(λp hp=>absurd hp Ug),λd hd=>by cases hd⟩ (λi σ H' _ h=>SqT.of (h.1.tups S0 _ _ hpd)) ?_ ?_⟩)
 .rintro i v σ H6 hv ⟨k6,S6,⟨y1,y2,y3,rfl⟩,hr6,kv,ow,ho6,hkv,hkr,hO6⟩
  obtain⟨pa,hpa,rfl⟩:=L2.gM hv;obtain⟨d,hd,hFd⟩:=hF.get hpa;have hi:=(uf.mp hd).1;obtain⟨qn,pb,g1,g2,g3⟩:=(hFd.keep (k6.tups S0)).ex;obtain⟨b1,-,-⟩:=hb d (uu hd);have nrs:r≠st:=λe=>S0.ne fr e;have nos:od≠st:=λe=>S0.ne fod e;refine⟨_,_,rfl,SqT.of g1,rfl,_,_,rfl,_,_,rfl,_,_,rfl,rfl,?_⟩;refine¬⟨qn,rfl,⟨_,SqT.of g2⟩,xJ (xs:=d.ns.map V.str) (λj τ zs H'=>Kp st H6 H'/\Sta K H' st (B+3*i+j)/\(∃u,τ=[sR st,sR pp,sR r,sO (.str d.z),sR qn,sR pb,sR od,u])/\∃bs:List Bool,zs=bs.map V.bl/\bs.length=j) ⟨Kp.refl,S6,⟨nO,rfl⟩,[],rfl,rfl⟩ (λj τ zs H' _ h=>SqT.of (h.1.tups S6 _ _ g2)) ?_ ?_⟩
  .rintro j v τ zs H7 hv ⟨k7,S7,⟨u,rfl⟩,bs,rfl,hbl⟩
   have hj:=(uf.mp hv).1;rw[ub]at hj;refine¬⟨st,3,_,rfl,S7,b8,b9,λH8 x k8 S8 x0 x1=>(zE rfl rfl ¬?_)⟩;have fin:∀b:Bool,(bs.map V.bl).length < sizeLine/\Kp st H6 H8/\Sta K H8 st (B+3*i+(j+1))/\(∃u,[sO (V.ref st),sO (V.ref pp),sO (V.ref r),sO (V.str d.z),sO (V.ref qn),sO (V.ref pb),sO (V.ref od),sO v]=[sR st,sR pp,sR r,sO (.str d.z),sR qn,sR pb,sR od,u])/\∃bs':List Bool,bs.map V.bl++[V.bl b]=bs'.map V.bl/\bs'.length=j+1:=λb=>⟨bc,k7.trans k8,S8,⟨_,rfl⟩,bs++[b],ba,by simp[hbl]⟩;by_cases c:0 < x
   .rw[decide_eq_true c]
    exact iteT (fin tU)
   .rw[eO c]
    exact iteF (zv rfl rfl ⟨r,¬⟨.inl (SqL.of (k8.k _ _ nrs (k7.k _ _ nrs hr6))),rfl,jc xs,fin _⟩⟩)
  .rintro τ zs H7 ⟨k7,S7,_,bs,rfl,hbl⟩ l8 h8
   rw[ub]at hbl S7;refine⟨l8,¬(.inl ⟨SqL.of uX9,λt9 h9=>?_⟩)⟩;have s9:=(zn (o:=.lst (bs.map V.bl)) h8).new (o:=.tup (bs.map V.bl)) h9;have ht9:=uX9 (H:=upd H7 l8 (.lst (bs.map V.bl))) (a:=t9) (o:=.tup (bs.map V.bl));generalize upd (upd H7 l8 (.lst (bs.map V.bl))) t9 (.tup (bs.map V.bl))=H9 at *;have k9:=k7.trans (.of s9);have ho9:=k9.k _ _ nos ho6;rw[uv]at hkv;refine(zv rfl rfl ⟨od,¬⟨DPut.k (k:=.inr d.z) ho9 b8,?_⟩⟩);have nz:d.z∉(dfs.take i).map (·.z):=by
    rw[List.map_take];exact Vz hnd (by rw[uh,hd];rfl)
   refine⟨(k6.trans k9).put fod,?_,⟨_,_,_,rfl⟩,?_,_,λz=>if z=d.z then bs else ow z,uX9,?_,Ql hkr,λd' hd'=>?_⟩
   .exact Sta.put S0 fod (k6.trans k9) ((S7.same s9).mono b8)
   .rw[zo (λe=>by rw[e,ho6]at hr6;cases hr6)]
    exact k9.k _ _ nrs hr6
   .have:=YG kv (.inr d.z) (.ref t9)
    rw[uv];lia
   .rw[uA,hd]at hd'
    rcases uy.mp hd' with hd'|hd'
    .obtain⟨a,e1,e2,e3⟩:=hO6 d' hd'
     have ne:d'.z≠d.z:=λe=>nz (e ▸ UH hd');refine⟨a,by rw[vP,iN (λe=>ne (Sum.inr.inj e))];exact e1,?_,?_⟩<;>dsimp only
     .rw[iN ne,zo (λe=>by rw[e,ho6]at e2;cases e2)]
      exact k9.tups S6 _ _ e2
     .rw[iN ne];exact e3
    .have e:d'=d:=by simpa using hd'
     subst e;refine⟨t9,by rw[vP,iP rfl],?_,?_⟩<;>dsimp only
     .rw[iP rfl,zo (λe=>by rw[e,ho9]at ht9;cases ht9)]
      exact ht9
     .rw[iP rfl];exact hbl
 .rintro σ H6 ⟨k6,S6,⟨y1,y2,y3,rfl⟩,hr6,hO6⟩
  rw[ub,um b8]at hO6;exact¬(q _ od k6 (S6.mono bc) hO6)
end
theorem Qn{α β:Type}{g:α->β}:∀{l:List α},(l.map g).Nodup->∀{a b:α},a∈l->b∈l->g a=g b->a=b
 |[],_,a,b,h,_,_=>by cases h
 |x::l,nd,a,b,ha,hb,e=>by
  rw[uB,uV]at nd;rcases uq.mp ha with h1|h1
  .rcases uq.mp hb with h2|h2
   .rw[h1,h2]
   .exact absurd (by rw[<- h1,e];exact UH h2) nd.1
  .rcases uq.mp hb with h2|h2
   .exact absurd (by rw[<- h2,<- e];exact UH h1) nd.1
   .exact Qn nd.2 h1 h2 e
theorem YH{o:Wo}:((uQ 3).map λk=>nm o.z o.b (2-k)).Nodup:=by
 unfold List.Nodup;rw[List.pairwise_map];refine List.Pairwise.imp_of_mem (λ{a b} ha hb hab e=>hab ?_) List.nodup_range
 have:=Ut.mp ha
 have:=Ut.mp hb
 have:=vA b8 b8 e
 lia
theorem Wz:∀(l acc:lS),acc.Nodup->(once acc l).Nodup
 |[],acc,h=>h
 |x::l,acc,h=>by
  unfold once;refine Wz l _ ?_;split
  .exact h
  .rename_i c
   refine List.nodup_append.mpr ⟨h,ba,λa ha b hb e=>c ?_⟩;rw[<- ut.mp hb,<- e];exact ha
theorem pig{α:Type}[DecidableEq α]:∀(l tk:List α),l.Nodup->(∀x∈l,x∈tk)->l.length<=tk.length
 |[],tk,_,_=>uS _
 |x::l,tk,h,s=>by
  rw[uV]at h;have hx:=s x (.head _);have ih:=pig l (tk.erase x) h.2 λy hy=>(List.mem_erase_of_ne (λe=>h.1 (by rw[<- e];exact hy))).mpr (s y (.tail _ hy))
  have:=List.length_erase_of_mem hx
  have:0 < tk.length:=List.length_pos_of_mem hx
  rw[ui];lia
theorem zeq{b:Bool}{k:Nat}(h:∀c∈cl z,97<=c):∀c∈cl (nm z b k),97<=c:=by
 have h1:∀c∈cl (core k),97<=c:=λc hc=>by
  rw[wS]at hc;simp only[uq,Ug,or_false]at hc
  lia
 have h2:∀c∈cl (ys k),97<=c:=λc hc=>by
  rw[vY]at hc;rw[List.eq_of_mem_replicate hc]
  decide
 intro c hc;unfold nm at hc;cases b
 .rw[iN b9,zX,zX]at hc
  rcases uy.mp hc with hc|hc
  .exact(uy.mp hc).elim (h2 c) (h c)
  .exact h1 c hc
 .rw[iP rfl,zX,zX]at hc
  rcases uy.mp hc with hc|hc
  .exact(uy.mp hc).elim (h1 c) (h c)
  .exact h2 c hc
theorem Qo(x:Str)(m:Nat):46∈cl (nnm x m):=by
 unfold nnm;rw[zX,zX];exact uX _ (uK _ be)
mutual
def Bd.Dd:Bd->Prop
 |.give _=>True
 |.lt _ d b=>(WdOk d/\d.uses.length<=11)/\b.Dd
 |.iff _ a b=>a.Dd/\b.Dd
 |.case _ as=>as.Dd
def Arms.Dd:Arms->Prop
 |.nil=>True
 |.cons _ _ b r=>b.Dd/\r.Dd
end
theorem IsDe.dd:∀{d:De}{p:aO},IsDe H d p->WdOk d/\d.uses.length<=11
 |_,_,.num _=>⟨trivial,by show 0<=11;decide⟩
 |_,_,.op _=>⟨trivial,by show 2<=11;decide⟩
 |_,_,@IsDe.app _ w f xs _ _ h _ _=>by
  refine⟨⟨h.1,h.2.1⟩,?_⟩;by_cases e:w="ask"
  .subst e
   rw[yL,ui]
   have:=h.2.2
   lia
  .rw[yA e]
   have:=h.2.2
   lia
mutual
theorem IsB.dd{H:Hp}:∀{b:Bd}{p:aO},IsB H b p->b.Dd
 |_,_,.give _=>by rw[Bd.Dd];trivial
 |_,_,.lt _ d b=>by rw[Bd.Dd];exact⟨d.dd,IsB.dd b⟩
 |_,_,.iff _ a b=>by rw[Bd.Dd];exact⟨IsB.dd a,IsB.dd b⟩
 |_,_,.case _ _ _ a=>by rw[Bd.Dd];exact IsA.dd a
theorem IsA.dd{H:Hp}:∀{b:Arms}{p:List aO},IsA H b p->b.Dd
 |_,_,.nil=>by rw[Arms.Dd];trivial
 |_,_,.cons _ _ b r=>by rw[Arms.Dd];exact⟨IsB.dd b,IsA.dd r⟩
end
mutual
def Bd.dq:Bd->Nat
 |.give _=>2
 |.lt _ d b=>d.uses.length+3+b.dq
 |.iff _ a b=>1+max a.dq b.dq
 |.case _ as=>2+as.dq
def Arms.dq:Arms->Nat
 |.nil=>0
 |.cons _ ns b r=>max (ns.length+b.dq) r.dq
end
theorem YI(c:Hc):∀ds:lS,(wD ds c).dp=ds.length+c.dp
 |[]=>by show c.dp=0+c.dp;lia
 |x::ds=>by
  show(Hc.drop x (wD ds c)).dp=_;rw[Hc.dp,YI c ds,ui];lia
theorem Qp(c:Hc):∀ps:List (Str×Str),(wH ps c).dp=ps.length+c.dp
 |[]=>by show c.dp=0+c.dp;lia
 |x::ps=>by
  show(Hc.hold x.1 x.2 (wH ps c)).dp=_;rw[Hc.dp,Qp c ps,ui];lia
theorem YJ{N:lS}{ow:Str->List Bool}{c:Hc}(h:c.Ok N ow):∀ds:lS,(wD ds c).Ok N ow
 |[]=>h
 |x::ds=>by
  show(Hc.drop x (wD ds c)).Ok N ow;rw[Hc.Ok];exact YJ h ds
theorem Qq{N:lS}{ow:Str->List Bool}{c:Hc}(h:c.Ok N ow):∀ps:List (Str×Str),(wH ps c).Ok N ow
 |[]=>h
 |x::ps=>by
  show(Hc.hold x.1 x.2 (wH ps c)).Ok N ow;rw[Hc.Ok];exact Qq h ps
theorem xN(ns:lS)(b:Bd):∀l:lS,(dO ns b l).length+(rO ns b l).length=l.length
 |[]=>rfl
 |x::l=>by
  have:=xN ns b l
  unfold dO rO at *;rw[List.filter_cons,List.filter_cons];cases e:ahB ns b x
  .simp;lia
  .simp;lia
theorem XJ(xs:lS)(es:List Bool):(upN xs es).length<=xs.length:=by
 unfold upN;rw[ub];refine uF (uM _ _) ?_;rw[Ul];exact Nat.min_le_left _ _
mutual
theorem YK(ns:lS)(ow:Str->List Bool):∀(b:Bd)(l:lS)(m:Nat),(hB ns ow b l m).1.dp<=l.length+b.dq
 |.give x,l,m=>by
  have h1:=xN ns (.give x) l;have h2:=(xg (rO ns (.give x) l) [x] m).2.2.2;rw[hB,Bd.dq];dsimp only
  rw[YI,Qp,Hc.dp];simp only[uH]at h2
  lia
 |.lt x d b,l,m=>by
  have h1:=xN ns (.lt x d b) l;rw[hB,Bd.dq];dsimp only
  generalize rO ns (.lt x d b) l=R at *;have h2:(spL ns ow d b R m).2.1.length<=(upN d.uses (ends ow d)).length:=(xg _ _ m).2.2.2;have h3:=XJ d.uses (ends ow d);have h4:=YK ns ow b (stL R (spL ns ow d b R m).1 x) (spL ns ow d b R m).2.2;have h5:(stL R (spL ns ow d b R m).1 x).length<=R.length+1:=by
   unfold stL;rw[ud]
   have:=uM (λy=>decide (y∉(spL ns ow d b R m).1)) R
   simp only[uH]
   lia
  rw[YI,Qp,Hc.dp];lia
 |.iff x a b,l,m=>by
  have h1:=xN ns (.iff x a b) l;rw[hB,Bd.dq];dsimp only
  generalize rO ns (.iff x a b) l=R at *;have h2:=YK ns ow a R m;have h3:=YK ns ow b R (hB ns ow a R m).2;rw[YI,Hc.dp];lia
 |.case x as,l,m=>by
  have h1:=xN ns (.case x as) l;rw[hB,Bd.dq];dsimp only
  generalize rO ns (.case x as) l=R at *;have h2:=zb3 ns ow x R as m;rw[YI,Hc.dp];lia
theorem zb3(ns:lS)(ow:Str->List Bool)(x:Str)(R:lS):∀(as:Arms)(m:Nat),(hA ns ow x R as m).1.dp<=R.length+as.dq
 |.nil,m=>by rw[hA,Ha.dp];exact uS _
 |.cons t xs b r,m=>by
  have h1:=YK ns ow b (stA (tkB ns x R b) x R xs) m;have h2:=zb3 ns ow x R r (hB ns ow b (stA (tkB ns x R b) x R xs) m).2;have h3:(stA (tkB ns x R b) x R xs).length<=R.length+xs.length:=by
   unfold stA;rw[ud]
   have:=uM (λy=>!tkB ns x R b || decide (y≠x)) R
   lia
  rw[hA,Ha.dp,Arms.dq];lia
end
theorem ZE:∀(xs:lS)(es:List Bool)(st:lS),(rpr xs es st).length=min xs.length es.length
 |[],es,st=>by unfold rpr;simp
 |x::xs,[],st=>by unfold rpr;simp
 |x::xs,e::es,st=>by
  rw[rpr,ui,ui];cases e
  .rw[iN b9,ui,ZE xs es st];lia
  .rw[iP rfl,ui,ZE xs es st.tail];lia
theorem zer{st:lS}(hc:CaD N ow d)(hw:WdOk d)(hu:d.uses.length<=11):WdOk (hdD ow d st)/\CaD N ow (hdD ow d st)/\(hdD ow d st).uses.length<=100:=by
 unfold hdD;rw[Wx];have hl:=ZE d.uses (ends ow d) st;cases d with
 |num i=>exact⟨trivial,trivial,by show 0<=100;decide⟩
 |op w a b=>exact⟨trivial,trivial,by show 2<=100;decide⟩
 |app w f xs =>
  by_cases e:w="ask"
  .subst e
   generalize rpr (De.uses (.app "ask" f xs)) (ends ow (.app "ask" f xs)) st=L at *;have e1:wN (.app "ask" f xs) L=.app "ask" (L.getD 0 "") (L.drop 1):=by unfold wN;exact iP rfl
   rw[e1];refine⟨hw,λz=>absurd z b9,?_⟩;rw[yL,ui,List.length_drop];lia
  .rw[Zz e]
   rw[yA e]at hl hu ⊢;refine⟨hw,λz=>?_,?_⟩
   .obtain⟨h1,h2⟩:=hc z
    refine⟨h1,?_⟩
    have:ends ow (.app w f xs)=ow f:=iP z
    rw[hl,this,h2,Nat.min_self]
   .rw[yA e]
    lia
theorem Qr{α:Type}{c:α}:∀{a b r s:List α},c∉a->c∉b->a++c::r=b++c::s->a=b
 |[],[],_,_,_,_,_=>rfl
 |[],y::b,r,s,_,hb,e=>by
  injection e with e _
  exact absurd (e ▸ .head _) hb
 |x::a,[],r,s,ha,_,e=>by
  injection e with e _
  exact absurd (e ▸ .head _) ha
 |x::a,y::b,r,s,ha,hb,e=>by
  injection e with e1 e2
  rw[e1,Qr (λh=>ha (.tail _ h)) (λh=>hb (.tail _ h)) e2]
theorem Qs(m:Nat):46∉cl (Str.ofString (toString ((m:Nat):Int))):=λh=>by
 rw[J7]at h
 have:=J6 m 46 h
 lia
theorem WA(h:nnm x i=nnm y j):i=j:=by
 have e:=congrArg cl h;unfold nnm at e;rw[zX,zX,zX,zX,zX,zX,show cl (".":Str)=[46] by decide +kernel]at e;have e:=congrArg List.reverse e;rw[UZ,UZ,UZ (as:=cl Str.empty++cl y++[46]),UZ (as:=cl Str.empty++cl y)]at e;have e:=Qr (c:=46) (λz=>Qs i (List.mem_reverse.mp z)) (λz=>Qs j (List.mem_reverse.mp z)) e;have e:=List.reverse_inj.mp e;have e3:toString ((i:Nat):Int)=toString ((j:Nat):Int):=by
  rw[Str.ofString_eq_toList,Str.ofString_eq_toList]at e;have e:(toString ((i:Nat):Int)).toList.map Char.toNat=(toString ((j:Nat):Int)).toList.map Char.toNat:=e;exact String.ext ((List.map_inj_right λ_ _=>Char.toNat_inj.mp).mp e)
 exact Int.ofNat.inj (Int.repr_inj.mp e3)
theorem zdN{a b:Str}(z:cl a=cl b):a=b:=by
 cases a;cases b;exact congrArg Str.mk (Array.toList_inj.mp z)
theorem Qt(h:nnm x i=nnm y j):x=y:=by
 have:=WA h
 subst this;have e:=congrArg cl h;unfold nnm at e;rw[zX,zX,zX,zX,zX,zX]at e;exact zdN (List.append_cancel_left (List.append_cancel_right (List.append_cancel_right e)))
noncomputable def De.rn (f:Str->Str):De->De
 |.num i=>.num i
 |.op w a b=>.op w (f a) (f b)
 |.app w g xs=>.app w (if w="ask"then f g else g) (xs.map f)
def upd1(f:Str->Str)(p:Str×Str):Str->Str:=λz=>if z=p.1 then f p.2 else f z
mutual
def Hc.bk:Hc->(Str->Str)->Bd
 |.give x,f=>.give (f x)
 |.lt x d b,f=>.lt x (d.rn f) (b.bk f)
 |.hold n x b,f=>b.bk (upd1 f (n,x))
 |.drop _ b,f=>b.bk f
 |.iff x a b,f=>.iff (f x) (a.bk f) (b.bk f)
 |.case x as,f=>.case (f x) (as.bk f)
def Ha.bk:Ha->(Str->Str)->Arms
 |.nil,_=>.nil
 |.cons t ns _ b r,f=>.cons t ns (b.bk f) (r.bk f)
end
theorem YL(c:Hc)(f:Str->Str):∀ds:lS,(wD ds c).bk f=c.bk f
 |[]=>rfl
 |d::ds=>by
  show(Hc.drop d (wD ds c)).bk f=_;rw[Hc.bk,YL c f ds]
theorem Qu(c:Hc):∀(ps:List (Str×Str))(f:Str->Str),(wH ps c).bk f=c.bk (ps.foldl upd1 f)
 |[],f=>rfl
 |p::ps,f=>by
  show(Hc.hold p.1 p.2 (wH ps c)).bk f=_;rw[Hc.bk,Qu c ps]
  rfl
def Std(ns:lS)(f:Str->Str)(S:List (Str×Str)):Prop:=(∀y∈ns,f y=y)/\∀p∈S,f p.1=p.2
theorem Std.put(hdot:∀z k,nnm z k∉ns){f:Str->Str}{S:List (Str×Str)}{p:Str×Str}(h:Std ns f S)(hS:∀p∈S,∃k,p.1=nnm p.2 k)(hp:∃k,p.1=nnm p.2 k)(h2:p.2∈ns):Std ns (upd1 f p) (p::S):=by
 obtain⟨k,hk⟩:=hp;refine⟨λy hy=>?_,λq hq=>?_⟩
 .unfold upd1
  rw[iN (λe=>hdot p.2 k (by rw[<- hk,<- e];exact hy))];exact h.1 y hy
 .unfold upd1
  by_cases c:q.1=p.1
  .rw[iP c,h.1 _ h2]
   rcases uq.mp hq with rfl|hq
   .rfl
   .obtain⟨j,hj⟩:=hS q hq
    exact(Qt (hj.symm.trans (c.trans hk))).symm
  .rw[iN c]
   exact h.2 q ((uq.mp hq).resolve_left λe=>c (by rw[e]))
theorem Std.puts{ns:lS}(hdot:∀z k,nnm z k∉ns):∀{ps:List (Str×Str)}{f:Str->Str}{S:List (Str×Str)},Std ns f S->(∀p∈S,∃k,p.1=nnm p.2 k)->(∀p∈ps,p.2∈ns/\∃k,p.1=nnm p.2 k)->(∀y∈ns,ps.foldl upd1 f y=y)/\∀p∈ps,ps.foldl upd1 f p.1=p.2
 |[],f,S,h,_,_=>⟨h.1,λp hp=>by cases hp⟩
 |p::ps,f,S,h,hS,hp=>by
  obtain⟨h2,hk⟩:=hp p (.head _);have g:=h.put hdot hS hk h2;have gS:∀q∈p::S,∃k,q.1=nnm q.2 k:=λq hq=>(uq.mp hq).elim (λe=>e ▸ hk) (hS q);have r:=Std.puts hdot (ps:=ps) g gS λq hq=>hp q (.tail _ hq);refine⟨r.1,λq hq=>?_⟩;rcases uq.mp hq with rfl|hq
  .have:∀(ps:List (Str×Str))(f:Str->Str)(S:List (Str×Str)),Std ns f S->(∀p∈S,∃k,p.1=nnm p.2 k)->(∀p∈ps,p.2∈ns/\∃k,p.1=nnm p.2 k)->∀q∈S,ps.foldl upd1 f q.1=q.2:=by
    intro ps
    induction ps with
    |nil=>intro f S h _ _ q hq;exact h.2 q hq
    |cons a ps ih =>
     intro f S h hS hp q hq;obtain⟨h2,hk⟩:=hp a (.head _);exact ih _ (a::S) (h.put hdot hS hk h2) (λq hq=>(uq.mp hq).elim (λe=>e ▸ hk) (hS q)) (λq hq=>hp q (.tail _ hq)) q (.tail _ hq)
   exact this ps _ _ g gS (λq hq=>hp q (.tail _ hq)) q (.head _)
  .exact r.2 q hq
theorem ZG{fr ns:lS}{F:Str->Str}(hF:∀y∈ns,F y=y):∀(xs st:lS)(m:Nat),(∀x∈xs,x∈ns)->(∀p∈(spr fr st xs m).2.1,F p.1=p.2)->(spr fr st xs m).1.map F=xs
 |[],st,m,_,_=>by unfold spr;rfl
 |x::xs,st,m,hx,hp=>by
  unfold spr at hp ⊢;split
  .rename_i c
   rw[iP c]at hp;rw[uB,hF x (hx x (.head _)),ZG hF xs _ m (λy hy=>hx y (.tail _ hy)) hp]
  .rename_i c
   rw[iN c]at hp;rw[uB,hp (_,x) (.head _),ZG hF xs _ (m+1) (λy hy=>hx y (.tail _ hy)) λp h=>hp p (.tail _ h)]
theorem ZH{F:Str->Str}:∀(xs:lS)(es:List Bool)(st:lS),xs.length=es.length->(∀y∈xs,F y=y)->st.map F=upN xs es->(rpr xs es st).map F=xs
 |[],[],st,_,_,_=>by unfold rpr;rfl
 |x::xs,e::es,st,hl,hx,h=>by
  rw[rpr];rw[Qh]at h;simp at hl
  have hx':∀y∈xs,F y=y:=λy hy=>hx y (.tail _ hy);cases e
  .rw[iN b9]at h ⊢
   rw[uB,hx x (.head _),ZH xs es st hl hx' h]
  .rw[iP rfl]at h ⊢
   cases st with
   |nil=>cases h
   |cons s st =>
    injection h with h1 h2
    rw[List.tail_cons,uB,ZH xs es st hl hx' h2];show F s::xs=_;rw[h1]
theorem Qv(hc:CaD N ow d):d.uses.length=(ends ow d).length:=by
 cases d with
 |num i=>rfl
 |op w a b=>rfl
 |app w f xs =>
  show(De.app w f xs).uses.length=(if w="call"then ow f else(De.app w f xs).uses.map λ_=>tU).length;by_cases e:w="call"
  .rw[iP e,yA (by rw[e];decide),(hc e).2]
  .rw[iN e,ub]
theorem zes{st:lS}(hF:∀y∈ns,F y=y)(hc:CaD N ow d)(hu:∀y∈d.uses,y∈ns)(h:st.map F=upN d.uses (ends ow d)):(hdD ow d st).rn F=d:=by
 unfold hdD;rw[Wx];have hl:=ZH (F:=F) d.uses (ends ow d) st (Qv hc) (λy hy=>hF y (hu y hy)) h;generalize rpr d.uses (ends ow d) st=L at *;cases d with
 |num i=>rfl
 |op w a b =>
  have hl:L.map F=[a,b]:=hl
  match L,hl with
  |[x,y],hl =>
   injection hl with h1 h2
   injection h2 with h2
   show De.op w (F x) (F y)=_;rw[h1,h2]
 |app w f xs =>
  by_cases e:w="ask"
  .subst e
   rw[yL]at hl
   match L,hl with
   |x::L,hl =>
    injection hl with h1 h2
    show(De.app "ask" x L).rn F=_;rw[De.rn,iP rfl,h1,h2]
  .rw[Zz e,De.rn,iN e]
   rw[yA e]at hl;rw[hl]
mutual
def LxB(o:Wo)(ns:lS):Bd->Prop
 |.give x=>x∈ns
 |.lt x d b=>(x∈ns/\(∀y∈d.uses,y∈ns)/\wp o d/\WdOk d/\d.uses.length<=11)/\LxB o ns b
 |.iff x a b=>x∈ns/\LxB o ns a/\LxB o ns b
 |.case x as=>x∈ns/\LxA o ns as
def LxA(o:Wo)(ns:lS):Arms->Prop
 |.nil=>True
 |.cons _ xs b r=>(xs.length<=10/\∀y∈xs,y∈ns)/\LxB o ns b/\LxA o ns r
end
mutual
theorem jh{o:Wo}{ns:lS}:∀(b:Bd)(sc:lS),SndB o sc b->b.Dd->(∀y∈sc,y∈ns)->(∀y∈b.binds,y∈ns)->LxB o ns b
 |.give x,sc,h,g,h1,h2=>by
  rw[SndB]at h;exact h1 x h
 |.lt x d b,sc,h,g,h1,h2=>by
  rw[SndB]at h;rw[Bd.binds]at h2;have hx:=h2 x (.head _);exact⟨⟨hx,λy hy=>h1 y (h.1.1 y hy),h.1.2.2,g.1⟩,jh b _ h.2 g.2 (λy hy=>(uy.mp hy).elim (h1 y) λhy=>by rw[ut.mp hy];exact hx) λy hy=>h2 y (.tail _ hy)⟩
 |.iff x a b,sc,h,g,h1,h2=>by
  rw[SndB]at h;rw[Bd.binds]at h2;exact⟨h1 x h.1,jh a _ h.2.1 g.1 h1 λy hy=>h2 y (uX _ hy),jh b _ h.2.2 g.2 h1 λy hy=>h2 y (uK _ hy)⟩
 |.case x as,sc,h,g,h1,h2=>by
  rw[SndB]at h;rw[Bd.binds]at h2;exact⟨h1 x h.1,Qw as _ h.2 g h1 h2⟩
theorem Qw{o:Wo}{ns:lS}:∀(b:Arms)(sc:lS),SndA o sc b->b.Dd->(∀y∈sc,y∈ns)->(∀y∈b.binds,y∈ns)->LxA o ns b
 |.nil,sc,h,g,h1,h2=>trivial
 |.cons t xs b r,sc,h,g,h1,h2=>by
  rw[SndA]at h;rw[Arms.binds]at h2;have hx:∀y∈xs,y∈ns:=λy hy=>h2 y (uX _ hy);exact⟨⟨h.1.1.1.2,hx⟩,jh b _ h.1.2 g.1 (λy hy=>(uy.mp hy).elim (h1 y) (hx y)) λy hy=>h2 y (uK _ (uX _ hy)),Qw r _ h.2 g.2 h1 λy hy=>h2 y (uK _ (uK _ hy))⟩
end
mutual
theorem jX{o:Wo}{X:HX}(hc:∀{d},wp o d->CaD X.N X.ow d):∀b:Bd,LxB o X.ns b->OkB X b
 |.give x,h=>h
 |.lt x d b,h=>⟨⟨h.1.1,h.1.2.1,hc h.1.2.2.1⟩,jX hc b h.2⟩
 |.iff x a b,h=>⟨jX hc a h.2.1,jX hc b h.2.2⟩
 |.case x as,h=>Qx hc as h.2
theorem Qx{o:Wo}{X:HX}(hc:∀{d},wp o d->CaD X.N X.ow d):∀b:Arms,LxA o X.ns b->OkA X b
 |.nil,h=>trivial
 |.cons t xs b r,h=>⟨⟨h.1.2,jX hc b h.2.1⟩,Qx hc r h.2.2⟩
end
mutual
theorem YM{o:Wo}{ns:lS}:∀b:Bd,LxB o ns b->b.dq+12<=14*b.dp
 |.give x,h=>by rw[Bd.dq,Bd.dp];decide
 |.lt x d b,h=>by
  have:=YM b h.2
  have:=h.1.2.2.2.2
  rw[Bd.dq,Bd.dp];lia
 |.iff x a b,h=>by
  have:=YM a h.2.1
  have:=YM b h.2.2
  rw[Bd.dq,Bd.dp];lia
 |.case x as,h=>by
  have:=Qy as h.2
  rw[Bd.dq,Bd.dp];lia
theorem Qy{o:Wo}{ns:lS}:∀b:Arms,LxA o ns b->b.dq<=14*b.dp
 |.nil,h=>by rw[Arms.dq];exact uS _
 |.cons t xs b r,h=>by
  have:=YM b h.2.1
  have:=Qy r h.2.2
  have:=h.1.1
  rw[Arms.dq,Arms.dp];lia
end
mutual
theorem ji{o:Wo}{X:HX}(hc:∀{d},wp o d->CaD X.N X.ow d):∀(b:Bd)(l:lS)(m:Nat),LxB o X.ns b->(hB X.ns X.ow b l m).1.Ok X.N X.ow
 |.give x,l,m,h=>by
  rw[hB];refine YJ (Qq ?_ _) _;rw[Hc.Ok]
  trivial
 |.lt x d b,l,m,h=>by
  rw[hB];refine YJ (Qq ?_ _) _;rw[Hc.Ok];exact⟨zer (hc h.1.2.2.1) h.1.2.2.2.1 h.1.2.2.2.2,ji hc b _ _ h.2⟩
 |.iff x a b,l,m,h=>by
  rw[hB];refine YJ ?_ _;rw[Hc.Ok];exact⟨ji hc a _ _ h.2.1,ji hc b _ _ h.2.2⟩
 |.case x as,l,m,h=>by
  rw[hB];refine YJ ?_ _;rw[Hc.Ok];exact WB hc x as _ m h.2
theorem WB{o:Wo}{X:HX}(hc:∀{d},wp o d->CaD X.N X.ow d)(x:Str):∀(as:Arms)(R:lS)(m:Nat),LxA o X.ns as->(hA X.ns X.ow x R as m).1.Ok X.N X.ow
 |.nil,R,m,h=>by rw[hA,Ha.Ok];trivial
 |.cons t xs b r,R,m,h=>by
  rw[hA,Ha.Ok];exact⟨⟨uF h.1.1 b9,ji hc b _ _ h.2.1⟩,WB hc x r R _ h.2.2⟩
end
section
variable{o:Wo}(hdot:∀z k,nnm z k∉X.ns)
include hdot
theorem Qz{f:Str->Str}(fr xs:lS)(m:Nat)(hf:∀y∈X.ns,f y=y)(hx:∀x∈xs,x∈X.ns):(∀y∈X.ns,(spn fr xs m).2.1.foldl upd1 f y=y)/\(spn fr xs m).1.map ((spn fr xs m).2.1.foldl upd1 f)=xs:=by
 rw[Ww];have g:=Std.puts hdot (ps:=(spr fr [] xs m).2.1) (f:=f) (S:=[]) ⟨hf,λp hp=>by cases hp⟩ (λp hp=>by cases hp) λp hp=>⟨hx _ (wn xs [] m p hp).1,(wn xs [] m p hp).2⟩;exact⟨g.1,ZG g.1 xs [] m hx g.2⟩
mutual
theorem YN:∀(b:Bd)(l:lS)(m:Nat)(f:Str->Str),OkB X b->LxB o X.ns b->(∀y∈X.ns,f y=y)->(hB X.ns X.ow b l m).1.bk f=b
 |.give x,l,m,f,hk,hn,hf=>by
  have hx:x∈X.ns:=hk;rw[hB];dsimp only
  rw[YL,Qu,Hc.bk];have g:=Qz hdot (rO X.ns (.give x) l) [x] m hf λy hy=>by rw[ut.mp hy];exact hx
  generalize spn (rO X.ns (.give x) l) [x] m=s at *
  match s.1,g.2 with
  |[y],e =>
   injection e with e
   rw[List.getD_cons_zero,e]
 |.lt x d b,l,m,f,hk,hn,hf=>by
  obtain⟨⟨k1,k2,k3⟩,k4⟩:=hk;rw[LxB]at hn;rw[hB];dsimp only
  rw[YL,Qu,Hc.bk];generalize rO X.ns (.lt x d b) l=R;have g:=Qz hdot (frL X.ns X.ow d b R) (upN d.uses (ends X.ow d)) m hf λy hy=>k2 y (zbh hy);change (∀y∈X.ns,(spL X.ns X.ow d b R m).2.1.foldl upd1 f y=y)/\(spL X.ns X.ow d b R m).1.map ((spL X.ns X.ow d b R m).2.1.foldl upd1 f)=_ at g
  generalize (spL X.ns X.ow d b R m).2.1.foldl upd1 f=F at *;rw[zes g.1 k3 k2 g.2,YN b _ _ F k4 hn.2 g.1]
 |.iff x a b,l,m,f,hk,hn,hf=>by
  rw[LxB]at hn;rw[hB];dsimp only
  rw[YL,Hc.bk,hf x hn.1,YN a _ _ f hk.1 hn.2.1 hf,YN b _ _ f hk.2 hn.2.2 hf]
 |.case x as,l,m,f,hk,hn,hf=>by
  rw[LxB]at hn;rw[hB];dsimp only
  rw[YL,Hc.bk,hf x hn.1,zb4 as x _ _ f hk hn.2 hf]
theorem zb4:∀(as:Arms)(x:Str)(R:lS)(m:Nat)(f:Str->Str),OkA X as->LxA o X.ns as->(∀y∈X.ns,f y=y)->(hA X.ns X.ow x R as m).1.bk f=as
 |.nil,x,R,m,f,hk,hn,hf=>by rw[hA,Ha.bk]
 |.cons t xs b r,x,R,m,f,hk,hn,hf=>by
  rw[LxA]at hn;rw[hA];dsimp only
  rw[Ha.bk,YN b _ _ f hk.1.2 hn.2.1 hf,zb4 r x R _ f hk.2 hn.2.2 hf]
end
end
mutual
noncomputable def Hc.sz:Hc->Nat
 |.give _=>1
 |.lt _ _ b=>b.sz+1
 |.hold _ _ b=>b.sz+1
 |.drop _ b=>b.sz+1
 |.iff _ a b=>a.sz+b.sz+1
 |.case _ as=>as.sz+1
noncomputable def Ha.sz:Ha->Nat
 |.nil=>0
 |.cons _ ns _ b r=>ns.length+b.sz+r.sz+1
end
theorem YO(c:Hc):∀ds:lS,(wD ds c).sz=ds.length+c.sz
 |[]=>(Nat.zero_add _).symm
 |d::ds=>by
  show(Hc.drop d (wD ds c)).sz=_;rw[Hc.sz,YO c ds,ui];lia
theorem QA(c:Hc):∀ps:List (Str×Str),(wH ps c).sz=ps.length+c.sz
 |[]=>(Nat.zero_add _).symm
 |d::ds=>by
  show(Hc.hold d.1 d.2 (wH ds c)).sz=_;rw[Hc.sz,QA c ds,ui];lia
mutual
theorem YQ(ns:lS)(ow:Str->List Bool):∀(b:Bd)(l:lS)(m k:Nat),l.length+b.dq<=k->(hB ns ow b l m).1.sz<=b.sz*k
 |.give x,l,m,k,hk=>by
  have h1:=xN ns (.give x) l;have h2:=(xg (rO ns (.give x) l) [x] m).2.2.2;rw[Bd.dq]at hk;rw[hB,Bd.sz];dsimp only
  rw[YO,QA,Hc.sz];simp only[uH]at h2
  lia
 |.lt x d b,l,m,k,hk=>by
  have h1:=xN ns (.lt x d b) l;rw[Bd.dq]at hk;rw[hB,Bd.sz];dsimp only
  generalize rO ns (.lt x d b) l=R at *;have h2:(spL ns ow d b R m).2.1.length<=(upN d.uses (ends ow d)).length:=(xg _ _ m).2.2.2;have h3:=XJ d.uses (ends ow d);have h5:(stL R (spL ns ow d b R m).1 x).length<=R.length+1:=by
   unfold stL;rw[ud]
   have:=uM (λy=>decide (y∉(spL ns ow d b R m).1)) R
   simp only[uH]
   lia
  have h4:=YQ ns ow b (stL R (spL ns ow d b R m).1 x) (spL ns ow d b R m).2.2 k b8;rw[YO,QA,Hc.sz,UJ,tw];lia
 |.iff x a b,l,m,k,hk=>by
  have h1:=xN ns (.iff x a b) l;rw[Bd.dq]at hk;rw[hB,Bd.sz];dsimp only
  generalize rO ns (.iff x a b) l=R at *;have h2:=YQ ns ow a R m k b8;have h3:=YQ ns ow b R (hB ns ow a R m).2 k b8;rw[YO,Hc.sz,UJ,UJ,tw];lia
 |.case x as,l,m,k,hk=>by
  have h1:=xN ns (.case x as) l;rw[Bd.dq]at hk;rw[hB,Bd.sz];dsimp only
  generalize rO ns (.case x as) l=R at *;have h2:=zb5 ns ow x R as m k b8;rw[YO,Hc.sz,UJ,tw];lia
theorem zb5(ns:lS)(ow:Str->List Bool)(x:Str)(R:lS):∀(as:Arms)(m k:Nat),R.length+as.dq+2<=k->(hA ns ow x R as m).1.sz<=as.sz*k
 |.nil,m,k,hk=>by rw[hA,Ha.sz];exact uS _
 |.cons t xs b r,m,k,hk=>by
  rw[Arms.dq]at hk;have h3:(stA (tkB ns x R b) x R xs).length<=R.length+xs.length:=by
   unfold stA;rw[ud]
   have:=uM (λy=>!tkB ns x R b || decide (y≠x)) R
   lia
  have h1:=YQ ns ow b (stA (tkB ns x R b) x R xs) m k b8;have h2:=zb5 ns ow x R r (hB ns ow b (stA (tkB ns x R b) x R xs) m).2 k b8;have h4:xs.length<=xs.length*k:=Nat.le_mul_of_pos_right _ b8;rw[hA,Ha.sz,Arms.sz,UJ,UJ,UJ,tw];lia
end
end GN
namespace L2
open PySem PySem.Spec PyProof.Rows
def QB:List V->Hp->VK->Prop:=λxs H Q=>∃d kvs,xs=[.ref d]/\H d=sO (.dK kvs)/\∀l,H l=nO->Q (.ref l) (upd H l (.dK kvs))
theorem jj:xr X (.type "dict") QB:=by
 intro pins s σ H xs us Q I r h;obtain⟨d,kvs,rfl,hd,q⟩:=h;obtain⟨u,rfl,rx⟩:=wA r;cases rx;obtain⟨z,hs,ws,rel,dd⟩:=Yi I.hok hd;refine kt_call_dict (knd:=yf X.prog X.w) hs dd (by rw[<- rel.length];exact z) λh' dn sb=>?_;have hk:∀b o,s.heap.get? b=sO o->h'.get? b=sO o:=λb o e=>(sb.2 b (uZ (uD e))).trans (ue _ e);refine⟨.ref s.heap.objs.size,_,I.laid (t':=s.toks) hk (uk _) (show ObjOk X.prog X.w _ h' _ (.dK kvs)from⟨z,?_,ws,rel,dn⟩),rfl,q _ (I.hok.fresh (uk _))⟩
 have:=I.big
 exact beq_eq_false_iff_ne.mpr (λe=>by rw[e]at this;exact Uu _ this)
theorem xh:jCa X (.type "dict") QB:=⟨jj⟩
end L2
namespace GN
open PySem L2 K11
variable{g:Str->Str}
def IsPd(H:Hp):De->aO->Prop
 |.num i,p=>H p=sO (.tup [.str "num",.int i])
 |.op w a b,p=>H p=sO (.tup [.str "op",.str w,.str a,.str b])
 |.app w f xs,p=>∃q,H p=sO (.tup [.str w,.str f,.ref q])/\H q=sO (.tup (xs.map V.str))
mutual
def IsP(H:Hp):Bd->aO->Prop
 |.give x,p=>H p=sO (.tup [.str "give",.str x])
 |.lt x d b,p=>∃q r,H p=sO (.tup [.str "let",.str x,.ref q,.ref r])/\IsPd H d q/\IsP H b r
 |.iff x a b,p=>∃q r,H p=sO (.tup [.str "if",.str x,.ref q,.ref r])/\IsP H a q/\IsP H b r
 |.case x as,p=>∃q ts,H p=sO (.tup [.str "case",.str x,.ref q])/\H q=sO (.tup (ts.map V.ref))/\IsPA H as ts
def IsPA(H:Hp):Arms->List aO->Prop
 |.nil,ts=>ts=[]
 |.cons t ns b r,ts=>∃p q s us,ts=p::us/\H p=sO (.tup [.str t,.ref q,.ref s])/\H q=sO (.tup (ns.map V.str))/\IsP H b s/\IsPA H r us
end
theorem IsPd.keep(t:Tups H H'):∀{d:De}{p:aO},IsPd H d p->IsPd H' d p
 |.num _,_,h=>t _ _ h
 |.op _ _ _,_,h=>t _ _ h
 |.app _ _ _,_,⟨q,h1,h2⟩=>⟨q,t _ _ h1,t _ _ h2⟩
mutual
theorem IsP.keep{H H':Hp}(t:Tups H H'):∀{b:Bd}{p:aO},IsP H b p->IsP H' b p
 |.give _,_,h=>t _ _ h
 |.lt _ _ _,_,⟨q,r,h,a,b⟩=>⟨q,r,t _ _ h,a.keep t,IsP.keep t b⟩
 |.iff _ _ _,_,⟨q,r,h,a,b⟩=>⟨q,r,t _ _ h,IsP.keep t a,IsP.keep t b⟩
 |.case _ _,_,⟨q,ts,h,a,b⟩=>⟨q,ts,t _ _ h,t _ _ a,IsPA.keep t b⟩
theorem IsPA.keep{H H':Hp}(t:Tups H H'):∀{b:Arms}{p:List aO},IsPA H b p->IsPA H' b p
 |.nil,_,h=>h
 |.cons _ _ _ _,_,⟨p,q,s,us,e,h,a,b,c⟩=>⟨p,q,s,us,e,t _ _ h,t _ _ a,IsP.keep t b,IsPA.keep t c⟩
end
def IsGd(H:Hp):De->aO->Prop
 |.num i,p=>H p=sO (.tup [.str "num",.int i])
 |.op w a b,p=>H p=sO (.tup [.str "op",.str w,.str a,.str b])
 |.app w f xs,p=>∃q rs,H p=sO (.tup (.str w::.str f::.ref q::rs))/\H q=sO (.tup (xs.map V.str))
theorem IsHd.gd(h:IsHd H d p):IsGd H d p:=by
 cases d with
 |num i=>exact h
 |op w a b=>exact h
 |app w f xs =>
  obtain⟨q,rs,h1,h2⟩:=zdL h;exact⟨q,rs,h1,h2⟩
theorem IsDe.gd(h:IsDe H d p):IsGd H d p:=by
 cases h with
 |num a=>exact a
 |op a=>exact a
 |app c a b=>exact⟨_,_,a,b⟩
def Dm(kv:List (Key×V))(f:Str->Str):Prop:=∀x,(valV kv (.inr x)).getD (.str x)=.str (f x)
theorem Dm.nil:Dm [] id:=λ_=>rfl
theorem Dm.put{f:Str->Str}(h:Dm kv f)(n x:Str):Dm (putK kv (.inr n) (.str (f x))) (upd1 f (n,x)):=λz=>by
 unfold upd1;rw[vP];by_cases c:z=n
 .rw[iP (by rw[c]),iP c]
  rfl
 .rw[iN (λe=>c (Sum.inr.inj e)),iN c]
  exact h z
theorem dgT{K:uc}{Q:VK}{d:aO}{i:Int}(h0:σ[0]?=sO (sO (.ref p)))(h1:σ[1]?=sO (sO (.ref d)))(hp:H p=sO (.tup xs))(a:atI xs i=sO (.str x))(hd:H d=sO (.dK kv))(hg:Dm kv g)(q:Q (.str (g x)) H):vQ (tVar 1) (tOp (rIxT K) (tVar 0) (tC (.int i))) (tOp (rIxT K) (tVar 0) (tC (.int i))) σ H Q :=
 ⟨_,h1,d,rfl,.inl ⟨_,.inl hd⟩,_,h0,ixT hp a ⟨_,h0,ixT hp a ⟨_,DGet.k (k:=.inr x) hd,by rw[hg];exact q⟩⟩⟩
theorem dgS{K:uc}{R:TS}{k:Nat}{d:aO}{i:Int}(h0:σ[0]?=sO (sO (.ref p)))(h1:σ[1]?=sO (sO (.ref d)))(hp:H p=sO (.tup xs))(a:atI xs i=sO (.str x))(hd:H d=sO (.dK kv))(hg:Dm kv g)(q:R D (σ.set k (sO (.str (g x)))) H):(tSeq (tAsg (vQ (tVar 1) (tOp (rIxT K) (tVar 0) (tC (.int i))) (tOp (rIxT K) (tVar 0) (tC (.int i)))) (wz k)) R:TS) D σ H:=by
 show vQ _ _ _ σ H λv H'=>R D (σ.set k (sO v)) H';exact dgT h0 h1 hp a hd hg q
inductive spDRn(vs:List V)(H:Hp)(Q:VK)(e_3:XK):Prop
 |mk (p d:aO) (dd:De) (kv:List (Key×V)):∀f:Str->Str,(vs=[.ref p,.ref d])->(IsGd H dd p)->(WdOk dd)->(dd.uses.length<=100)->(H d=sO (.dK kv))->(Dm kv f)->(∀H' r,Same H H'->IsPd H' (dd.rn f) r->Q (.ref r) H')->spDRn vs H Q e_3
section
variable{K:uc}
theorem scDB:FnScope ["_law_deed_here","_law_stands","_law_names"] ["_law_deed_here","_law_stands"] (zq Xv):=.ok
theorem ndDB:(["_law_deed_here","_law_stands","_law_names","_law_name_here"]:lS).Nodup:=be
theorem scDC:FnScope ["_law_deed_here","_law_names","_law_some"] ["_law_deed_here","_law_names"] (zq JG):=.ok
theorem ndDC:(["_law_deed_here","_law_names","_law_some","_law_name_here"]:lS).Nodup:=be
theorem YR(m_tuple:mg "tuple"=nO):(∀{f fd},Fun K "_law_deed_back" "_law_deed_back" Xv f fd->FnOk P w K mg base CX0 1 f fd ["_law_deed_here","_law_stands"] spDRn)/\(∀{f fd},Fun K "_law_called_deed" "_law_called_deed" JG f fd->FnOk P w K mg base CX0 1 f fd ["_law_deed_here","_law_names"] spDRn):=by
 have ln:∀{vs H Q}{E:XK},spDRn vs H Q E->vs.length=2:=by
  rintro vs H Q E ⟨p,d,dd,kv,g,rfl,_⟩
  rfl
 refine⟨λ{f fd} F=>F.by scDB (λvs H Q E h=>ln h) (λcdv A outer s H vs Q E hr h=>have n1:=scDB.nd;have n2:=ndDB;?_),λ{f fd} F=>F.by scDC (λvs H Q E h=>ln h) (λcdv A outer s H vs Q E hr h=>have n1:=scDC.nd;have n2:=ndDC;?_)⟩
 all_goals
  obtain⟨p,d,dd,kv,g,rfl,hI,hw,hu,hd,hg,q⟩:=h;refine⟨_,
   (zh (zF (tN zJ (zj K !0) zu)
    (zi (zt !0))  zw)
   (zh (zF (tN zJ (zj K !0) zu)
    (zi (zt (zy (jA4 zu (zj K !0) (yK hr (!1) (zj K !0) (zj K !0)) (yK hr (!1) (zj K !0) (zj K !0))))))  zw)
   (zh (V2 (i:=2) n1 rfl (Or.inl rfl) (zK (zD K) rfl m_tuple uo (jA1 (yn ["_law_name_here"] rfl (yo K (zj K !0)) (λ_ _ _ _ _=>(gN 3 n2)) (λ_ _ _ _ _=>zZ) (λ_ _ _ _ _=>(yK hr (!1) (!3) !3))))))
   (zi (zt (zy (jA3 (zj K !0) (xR (tN zJ (zj K !0) zu) (yK hr (!1) (zj K !0) (zj K !0)) (zj K !0)) !2))))))),?_⟩
  have sl:=zN;cases dd with
  |num i =>
   have h0:H p=sO (.tup [.str "num",.int i]):=hI;exact yY rfl h0 ¬(q H p (.refl _) hI)
  |op w a b =>
   have h0:H p=sO (.tup [.str "op",.str w,.str a,.str b]):=hI;refine z7 rfl h0 (yY rfl h0 ?_);refine¬(ixT h0 aI1 (dgT rfl rfl h0 aI2 hd hg (dgT rfl rfl h0 aI3 hd hg ?_)));exact⟨sN4,λr fr=>q _ r (zn fr _) uX9⟩
  |app w z xs =>
   obtain⟨q1,rs,h0,h1⟩:=hI;have hx:xs.length<=100:=by
    by_cases c:w="ask"
    .subst c;rw[yL,ui]at hu;lia
    .rw[yA c]at hu;exact hu
   refine z7 rfl h0 (z7 rfl h0 ?_ (eO λz=>hw.2 (V.str.inj z))) (eO λz=>hw.1 (V.str.inj z));refine¬(ixT h0 aI2 ⟨q1,rfl,⟨_,SqT.of h1⟩,xJ (xs:=xs.map V.str) (λi τ zs H'=>H=H'/\(∃y,τ=[sR p,sR d,nO,y])/\zs=((xs.take i).map g).map V.str) ⟨rfl,⟨nO,rfl⟩,rfl⟩ (λi τ zs H' _ h=>SqT.of (h.1 ▸ h1)) ?_ ?_⟩)
   .rintro i v τ zs H1 hv ⟨rfl,⟨y,rfl⟩,rfl⟩
    obtain⟨x,hx1,rfl⟩:=L2.gM hv;have hi:=(uf.mp hx1).1;refine¬⟨d,rfl,.inl ⟨_,.inl hd⟩,¬(¬⟨_,DGet.k (k:=.inr x) hd,?_⟩)⟩;rw[hg];refine⟨by rw[ub,ub,uv];lia,rfl,⟨_,rfl⟩,?_⟩;rw[uA,hx1,ur,ur]
    rfl
   rintro τ zs H1 ⟨rfl,_,rfl⟩ l1 f1;rw[ub,um (uk _)];refine⟨l1,¬(.inl ⟨SqL.of uX9,λq2 f2=>?_⟩)⟩;have s2:=(zn (o:=.lst ((xs.map g).map V.str)) f1).new (o:=.tup ((xs.map g).map V.str)) f2;have e2:=uX9 (H:=upd H l1 (.lst ((xs.map g).map V.str))) (a:=q2) (o:=.tup ((xs.map g).map V.str));dsimp only[U7]
   generalize upd (upd H l1 (.lst ((xs.map g).map V.str))) q2 (.tup ((xs.map g).map V.str))=H2 at *;refine¬(ixT (s2 _ _ h0) aI0 ¬(ixT (s2 _ _ h0) aI0 ⟨rfl,?_⟩));have fin:∀z',De.rn g (.app w z xs)=.app w z' (xs.map g)->3<=sizeLine/\∀r,H2 r=nO->Q (.ref r) (upd H2 r (.tup [.str w,.str z',.ref q2])):=λz' e=>⟨b9,λr fr=>q _ r (s2.new fr) (by rw[e];exact⟨q2,uX9,old fr e2⟩)⟩;by_cases c:w="ask"
   .rw[decide_eq_true (congrArg V.str c)]
    refine¬(iteT ?_);exact dgT rfl rfl (s2 _ _ h0) aI1 (s2 _ _ hd) hg ¬(fin _ (by rw[De.rn,iP c]))
   .rw[eO λz=>c (V.str.inj z)]
    refine¬(iteF ?_);exact¬(ixT (s2 _ _ h0) aI1 ¬(fin _ (by rw[De.rn,iN c])))
noncomputable def Ha.ls:Ha->List (Str×lS×Bool×Hc)
 |.nil=>[]
 |.cons t xs m b r=>(t,xs,m,b)::r.ls
theorem IsHa.al{H:Hp}:∀{as:Ha}{vs:List V},IsHa H as vs->All2 (ArmR H) as.ls vs
 |.nil,vs,h=>by rw[show vs=[]from h];exact .nil
 |.cons t xs m b r,vs,⟨p,q,u,vs',e,h1,h2,h3,h⟩=>by rw[e];exact .cons ⟨p,q,u,rfl,h1,h2,h3⟩ (IsHa.al h)
theorem QC{N:lS}{ow:Str->List Bool}:∀{as:Ha}{a:Str×lS×Bool×Hc},as.Ok N ow->a∈as.ls->a.2.2.2.dp<=as.dp/\a.2.1.length<=100/\a.2.2.2.Ok N ow/\a.2.2.2.sz<=as.sz
 |.cons t xs m b r,a,ho,h=>by
  obtain⟨⟨o1,o2⟩,o3⟩:=show(xs.length<=100/\b.Ok N ow)/\r.Ok N ow from ho
  rw[Ha.dp,Ha.sz];rcases uq.mp h with rfl|h
  .exact⟨Nat.le_max_left _ _,o1,o2,by show b.sz<=_;lia⟩
  .obtain⟨g1,g2,g3,g4⟩:=QC o3 h
   exact⟨uF g1 (Nat.le_max_right _ _),g2,g3,b8⟩
theorem QD:∀as:Ha,as.ls.length<=as.sz
 |.nil=>uk _
 |.cons t xs m b r=>by
  have:=QD r
  rw[Ha.sz,Ha.ls,ui];lia
theorem QE(f:Str->Str):∀as:Ha,(as.bk f).al=as.ls.map λa=>(a.1,a.2.1,a.2.2.2.bk f)
 |.nil=>by rw[Ha.bk];rfl
 |.cons t xs m b r=>by rw[Ha.bk,Arms.al,QE f r];rfl
def ArP(H:Hp)(x:Str×lS×Bd)(p:aO):Prop:=∃q s,H p=sO (.tup [.str x.1,.ref q,.ref s])/\H q=sO (.tup (x.2.1.map V.str))/\IsP H x.2.2 s
theorem ArP.keep{x:Str×lS×Bd}(h:ArP H x p)(t:Tups H H'):ArP H' x p:=by obtain⟨q,s,a,b,c⟩:=h;exact⟨q,s,t _ _ a,t _ _ b,c.keep t⟩
theorem IsPA.of{H:Hp}:∀{as:Arms}{ts:List aO},All2 (ArP H) as.al ts->IsPA H as ts
 |.nil,_,h=>by cases h;rfl
 |.cons t ns b r,_,h=>by
  cases h with
  |cons a h=>obtain⟨q,s,h1,h2,h3⟩:=a;exact⟨_,q,s,¬⟨h1,h2,h3,IsPA.of h⟩⟩
inductive spBack(n:Nat)(vs:List V)(H:Hp)(Q:VK)(e_3:XK):Prop
 |mk (v:V) (d:aO) (c:Hc) (kv:List (Key×V)) (f:Str->Str) (ow:Str->List Bool):∀N:lS,(vs=[v,.ref d])->(IsHc H c v)->(c.Ok N ow)->(c.dp<=n)->(kv.length+c.dp<=1000000)->(c.sz<=10000000)->(H d=sO (.dK kv))->(Dm kv f)->(∀H' r,Same H H'->IsP H' (c.bk f) r->Q (.ref r) H')->spBack n vs H Q e_3
theorem scBk:FnScope ["_law_body_here","_law_stands","_law_more","_law_name_here"] lS8 (zq Wf):=.ok
theorem ndBk:(["_law_body_here","_law_stands","_law_more","_law_name_here","_law_arm"]:lS).Nodup:=be
theorem QF(F:Fun K "_law_back" "_law_back" Wf f fd):FnOk P w K mg base CX0 (2+0) f fd lS8 (spBack 0):=by
 refine F.by scBk ?_ ?_
 .rintro _ _ _ _ ⟨_,_,_,_,_,_,_,rfl,_⟩;rfl
 rintro _ _ _ _ _ vs _ _ _ ⟨v,d,c,kv,g,ow,N,rfl,_,_,hd,_⟩;exact absurd hd (Nat.not_le_of_gt c.dp_pos)
theorem zbi(F:Fun K "_law_back" "_law_back" Wf f fd)(GB:Ca P w K mg base CX0 (2+n) "_law_back" lS8 (spBack n))(GD:Ca P w K mg base CX0 1 "_law_deed_back" ["_law_deed_here","_law_stands"] spDRn)(m_tuple:mg "tuple"=nO)(m_dict:mg "dict"=nO):FnOk P w K mg base CX0 (2+(n+1)) f fd lS8 (spBack (n+1)):=by
 refine F.by (k:=2+n) scBk ?_ ?_
 .rintro _ _ _ _ ⟨_,_,_,_,_,_,_,rfl,_⟩;rfl
 rintro _ _ _ s H vs _ _ hr ⟨v,d,c,kv,g,ow,N,rfl,hI,ho,hdp,hl,hz,hd,hg,q⟩;have hr1:Room 1 _:=Room.mono (k:=2+n) hr b8;refine⟨_,
  (zh (zF (tN zJ (zj K !0) zu)
   (zi (zt (cA GB hr (jA2 (zj K !0) !1))))  zw)
  (zh (zF (tN zJ (zj K !0) zu)
   (zh (sE 2 scBk.nd (zK xh rfl m_dict UU (jA1 !1)))
   (zh (vw hr1 (!2) (zj K !0) (yK hr1 (!1) (zj K !0) (zj K !0)))
   (zi (zt (cA GB hr (jA2 (zj K !0) !2))))))  zw)
  (zh (sE 3 scBk.nd (yK hr1 (!1) (zj K !0) (zj K !0)))
  (zh (zF (tN zJ (zj K !0) zu)
   (zi (zt (zy (jA2 zu !3))))  zw)
  (zh (zF (tN zJ (zj K !0) zu)
   (zi (zt (zy (jA4 zu (zj K !0) (cA GD hr1 (jA2 (zj K !0) !1)) (cA GB hr (jA2 (zj K !0) !1))))))  zw)
  (zh (zF (tN zJ (zj K !0) zu)
   (zi (zt (zy (jA4 zu (!3) (cA GB hr (jA2 (zj K !0) !1)) (cA GB hr (jA2 (zj K !0) !1))))))  zw)
  (zi (zt (zy (jA3 zu (!3) (zK (zD K) rfl m_tuple uo (jA1 (yn ["_law_arm"] rfl (yo K (zj K !0)) (λ_ _ _ _ _=>(gN 4 ndBk)) (λ_ _ _ _ _=>zZ) (λ_ _ _ _ _=>(zy (jA3 (zj K !4) (zj K !4) (cA GB hr (jA2 (zj K !4) !1)))))))))))))))))),?_⟩
 have sl:=zN;cases c with
 |give x =>
  obtain⟨p,rfl,h0⟩:=hI;rw[Hc.bk]at q;refine z7 rfl h0 (z7 rfl h0 (dgS rfl rfl h0 aI1 hd hg (yY rfl h0 ¬?_)));exact⟨sN2,λr fr=>q _ r (zn fr _) uX9⟩
 |drop x c =>
  obtain⟨p,u,rfl,h0,h1⟩:=hI;rw[Hc.dp]at hdp hl;rw[Hc.sz]at hz;rw[Hc.bk]at q;exact yY rfl h0 ¬(ixT h0 aI2 ¬⟨u,d,c,kv,g,ow,N,rfl,h1,ho,b8,b8,b8,hd,hg,q⟩)
 |hold n1 x c =>
  obtain⟨p,u,rfl,h0,h1⟩:=hI;rw[Hc.dp]at hdp hl;rw[Hc.sz]at hz;rw[Hc.bk]at q;refine z7 rfl h0 (yY rfl h0 ¬⟨d,kv,rfl,hd,λl5 h5=>?_⟩);have s5:=zn (o:=.dK kv) h5;refine¬⟨d,rfl,.inl ⟨_,.inl (s5 _ _ hd)⟩,¬(ixT (s5 _ _ h0) aI2 ¬(ixT (s5 _ _ h0) aI2 ⟨_,DGet.k (k:=.inr x) (s5 _ _ hd),?_⟩))⟩;rw[hg];refine¬(¬(ixT (s5 _ _ h0) aI1 ⟨l5,¬⟨DPut.k (k:=.inr n1) uX9 b8,?_⟩⟩));have s6:Same H (upd (upd H l5 (.dK kv)) l5 (.dK (putK kv (.inr n1) (.str (g x))))):=s5.put h5;have pl:=YG kv (.inr n1) (.str (g x));exact¬(ixT (s6 _ _ h0) aI3 ¬⟨u,l5,c,_,_,ow,N,rfl,h1.keep (.of s6),ho,b8,b8,b8,uX9,hg.put n1 x,λH' r s e=>q H' r (s6.trans s) e⟩)
 |lt x dd c =>
  obtain⟨p,q0,u,rfl,h0,h1,h2⟩:=hI;rw[Hc.dp]at hdp hl;rw[Hc.sz]at hz;rw[Hc.bk]at q;obtain⟨⟨o1,_,o2⟩,o3⟩:=show(WdOk dd/\CaD N ow dd/\dd.uses.length<=100)/\c.Ok N ow from ho
  refine z7 rfl h0 (z7 rfl h0 (dgS rfl rfl h0 aI1 hd hg (z7 rfl h0 (yY rfl h0 ?_))));refine¬(ixT h0 aI1 ¬(ixT h0 aI2 ¬⟨q0,d,dd,kv,g,rfl,h1.gd,o1,o2,hd,hg,λH1 r1 s1 e1=>?_⟩));refine¬(ixT (s1 _ _ h0) aI3 ¬⟨u,d,c,kv,g,ow,N,rfl,h2.keep (.of s1),o3,b8,b8,b8,s1 _ _ hd,hg,λH2 r2 s2 e2=>⟨sN4,λr fr=>?_⟩⟩);have s3:=zn (o:=.tup [.str "let",.str x,.ref r1,.ref r2]) fr;exact q _ r ((s1.trans s2).trans s3) ⟨r1,r2,uX9,(e1.keep (.of s2)).keep (.of s3),e2.keep (.of s3)⟩
 |iff x c1 c2 =>
  obtain⟨p,u1,u2,rfl,h0,h1,h2⟩:=hI;rw[Hc.dp]at hdp hl;rw[Hc.sz]at hz;rw[Hc.bk]at q;refine z7 rfl h0 (z7 rfl h0 (dgS rfl rfl h0 aI1 hd hg (z7 rfl h0 (z7 rfl h0 (yY rfl h0 ?_)))));refine¬(¬(ixT h0 aI2 ¬⟨u1,d,c1,kv,g,ow,N,rfl,h1,ho.1,b8,b8,b8,hd,hg,λH1 r1 s1 e1=>?_⟩));refine¬(ixT (s1 _ _ h0) aI3 ¬⟨u2,d,c2,kv,g,ow,N,rfl,h2.keep (.of s1),ho.2,b8,b8,b8,s1 _ _ hd,hg,λH2 r2 s2 e2=>⟨sN4,λr fr=>?_⟩⟩);have s3:=zn (o:=.tup [.str "if",.str (g x),.ref r1,.ref r2]) fr;exact q _ r ((s1.trans s2).trans s3) ⟨r1,r2,uX9,(e1.keep (.of s2)).keep (.of s3),e2.keep (.of s3)⟩
 |case x as =>
  obtain⟨p,q0,vs,rfl,h0,h1,h2⟩:=hI;rw[Hc.dp]at hdp hl;rw[Hc.sz]at hz;rw[Hc.bk]at q;have aa:=h2.al;have al:=All2.len aa;have sz:=QD as;refine z7 rfl h0 (z7 rfl h0 (dgS rfl rfl h0 aI1 hd hg (z7 rfl h0 (z7 rfl h0 (z7 rfl h0 ?_)))));refine¬(¬(ixT h0 aI2 ⟨q0,rfl,⟨_,SqT.of h1⟩,xJ (xs:=vs) (λi τ zs H'=>Same H H'/\(∃y,τ=[sR p,sR d,nO,sO (.str (g x)),y])/\∃us:List aO,zs=us.map V.ref/\All2 (ArP H') ((as.bk g).al.take i) us) ⟨.refl _,⟨nO,rfl⟩,[],rfl,.nil⟩ (λi τ zs H' _ h=>SqT.of (h.1 _ _ h1)) ?_ ?_⟩))
  .rintro i v τ zs H1 hv ⟨s1,⟨y,rfl⟩,us,rfl,hu⟩
   obtain⟨a,ha,hA⟩:=All2.get aa hv;obtain⟨pa,qa,ua,rfl,a1,a2,a3⟩:=hA.keep (.of s1);obtain⟨b1,b2,b3,b4⟩:=QC ho (uu ha);have ul:=All2.len hu;have hx:(as.bk g).al[i]?=sO (a.1,a.2.1,a.2.2.2.bk g):=by rw[QE,uh,ha];rfl
   have hi:=(uf.mp hv).1;rw[uv]at ul;refine¬(ixT a1 aI0 ¬(ixT a1 aI1 ¬(ixT a1 aI4 ¬⟨ua,d,a.2.2.2,kv,g,ow,N,rfl,a3,b3,b8,b8,b8,s1 _ _ hd,hg,λH2 r2 s2 e2=>⟨sN3,λr fr=>?_⟩⟩)));have s3:=zn (o:=.tup [.str a.1,.ref qa,.ref r2]) fr;have s23:=s2.trans s3;refine⟨bc,s1.trans s23,⟨_,rfl⟩,us++[r],by rw[ur];rfl,?_⟩;rw[uA,hx];exact(hu.imp λ_ _ z=>z.keep (.of s23)).app (.cons ⟨qa,r2,uX9,s23 _ _ a2,e2.keep (.of s3)⟩ .nil)
  .rintro τ zs H1 ⟨s1,⟨y,rfl⟩,us,rfl,hu⟩ l1 f1
   rw[um (by rw[QE,ub];lia)]at hu;refine⟨l1,¬(.inl ⟨SqL.of uX9,λt2 f2=>⟨sN3,λr fr=>?_⟩⟩)⟩;have s2:=((zn (o:=.lst (us.map V.ref)) f1).new (o:=.tup (us.map V.ref)) f2).new (o:=.tup [.str "case",.str (g x),.ref t2]) fr;exact q _ r (s1.trans s2) ⟨t2,us,uX9,old fr uX9,IsPA.of (hu.imp λ_ _ z=>z.keep (.of s2))⟩
theorem YS{l:aO}{ys:List V}(e:H l=sO (.lst xs)):Tups H (upd H l (.lst ys)):=λc zs q=>by
 rw[zo λx=>by rw[x,e]at q;cases q];exact q
theorem zet(d:De):d.rn id=d:=by
 cases d with
 |num i=>rfl
 |op w a b=>rfl
 |app w z xs=>rw[De.rn,List.map_id];simp
theorem IsPd.de{p':aO}(h:IsDe H d p)(g:IsPd H' d p'):IsDe H' d p':=by
 cases h with
 |num a=>exact .num g
 |op a=>exact .op g
 |app c a b=>obtain⟨q,h1,h2⟩:=g;exact .app c h1 h2
def ArB(H:Hp)(x:Str×lS×Bd)(p:aO):Prop:=∃q s,H p=sO (.tup [.str x.1,.ref q,.ref s])/\H q=sO (.tup (x.2.1.map V.str))/\IsB H x.2.2 s
theorem ArB.keep{x:Str×lS×Bd}(h:ArB H x p)(t:Tups H H'):ArB H' x p:=by obtain⟨q,s,a,b,c⟩:=h;exact⟨q,s,t _ _ a,t _ _ b,c.keep t⟩
theorem IsA.of{H:Hp}:∀{as:Arms}{ts:List aO},All2 (ArB H) as.al ts->IsA H as ts
 |.nil,_,h=>by cases h;exact .nil
 |.cons t ns b r,_,h=>by
  cases h with
  |cons a h=>obtain⟨q,s,h1,h2,h3⟩:=a;exact .cons h1 h2 h3 (IsA.of h)
theorem zb6:∀{as:Arms}{a:Str×lS×Bd},a∈as.al->a.2.2.dp<=as.dp/\a.2.2.sz+a.2.1.length<=as.sz
 |.cons t xs b r,a,h=>by
  rw[Arms.dp,Arms.sz];rcases uq.mp h with rfl|h
  .exact⟨Nat.le_max_left _ _,by show b.sz+xs.length<=_;lia⟩
  .obtain⟨g1,g2⟩:=zb6 h
   exact⟨uF g1 (Nat.le_max_right _ _),b8⟩
theorem XL:∀as:Arms,as.al.length<=as.sz
 |.nil=>uk _
 |.cons t xs b r=>by
  have:=XL r
  rw[Arms.sz,Arms.al,ui];lia
inductive spCal(n:Nat)(vs:List V)(H:Hp)(Q:VK)(e_3:XK):Prop
 |mk (p d:aO):∀b:Bd,(vs=[.ref p,.ref d])->(IsB H b p)->(b.dp<=n)->(b.sz<=1000000)->(H d=sO (.dK []))->(∀H' r,Same H H'->IsB H' b r->Q (.ref r) H')->spCal n vs H Q e_3
theorem scCal:FnScope ["_law_body_here","_law_names","_law_name_here","_law_arms","_law_tag","_law_some","_law_inner"] lS9 (zq Wg):=.ok
theorem zeu:(["_law_body_here","_law_names","_law_name_here","_law_arms","_law_tag","_law_some","_law_inner","_law_one"]:lS).Nodup:=be
theorem zbj(F:Fun K "_law_called" "_law_called" Wg f fd):FnOk P w K mg base CX0 (2+0) f fd lS9 (spCal 0):=by
 refine F.by scCal ?_ ?_
 .rintro _ _ _ _ ⟨_,_,_,rfl,_⟩;rfl
 rintro _ _ _ _ _ vs _ _ _ ⟨p,d,b,rfl,_,hd,_⟩;exact absurd hd (Nat.not_le_of_gt b.dp_pos)
theorem zdO(F:Fun K "_law_called" "_law_called" Wg f fd)(GB:Ca P w K mg base CX0 (2+n) "_law_called" lS9 (spCal n))(GD:Ca P w K mg base CX0 1 "_law_called_deed" ["_law_deed_here","_law_names"] spDRn)(m_tuple:mg "tuple"=nO):FnOk P w K mg base CX0 (2+(n+1)) f fd lS9 (spCal (n+1)):=by
 refine F.by (k:=2+n) scCal ?_ ?_
 .rintro _ _ _ _ ⟨_,_,_,rfl,_⟩;rfl
 rintro _ _ _ _ H vs _ _ hr ⟨p,d,b,rfl,hI,hdp,hz,hd,q⟩;have hr1:Room 1 _:=Room.mono (k:=2+n) hr b8;refine⟨_,
  (zh (sE 2 scCal.nd (yK hr1 (!1) (zj K !0) (zj K !0)))
  (zh (zF (tN zJ (zj K !0) zu)
   (zi (zt (zy (jA2 zu !2))))  zw)
  (zh (zF (tN zJ (zj K !0) zu)
   (zi (zt (zy (jA4 zu (!2) (cA GD hr1 (jA2 (zj K !0) !1)) (cA GB hr (jA2 (zj K !0) !1))))))  zw)
  (zh (zF (tN zJ (zj K !0) zu)
   (zi (zt (zy (jA4 zu (!2) (cA GB hr (jA2 (zj K !0) !1)) (cA GB hr (jA2 (zj K !0) !1))))))  zw)
  (zh (sE 3 scCal.nd (zI zQ))
  (zh (z5 PassesOwn.never rfl (yo K (zj K !0)) (zW K rfl (zx (gN 4 scCal.nd) (zx (gN 5 scCal.nd) (zx (gN 6 scCal.nd) zV))))
   (zi (yg (yO uE uN uO zY (!3) (jA1 (zy (jA3 (!4) (zK (zD K) rfl m_tuple uo (jA1 (yn ["_law_one"] rfl (yo K !5) (λ_ _ _ _ _=>(gN 7 zeu)) (λ_ _ _ _ _=>zZ) (λ_ _ _ _ _=>(yK hr1 (!1) (!7) !7))))) (cA GB hr (jA2 (!6) !1)))))))))
  (zi (zt (zy (jA3 zu (!2) (zK (zD K) rfl m_tuple uo (jA1 !3)))))))))))),?_⟩
 have sl:=zN;cases hI with
 |give h0 =>
  refine dgS rfl rfl h0 aI1 hd Dm.nil (yY rfl h0 ¬?_);exact⟨sN2,λr fr=>q _ r (zn fr _) (.give uX9)⟩
 |@lt x dd c _ q0 u h0 h1 h2 =>
  rw[Bd.dp]at hdp;rw[Bd.sz]at hz;refine dgS rfl rfl h0 aI1 hd Dm.nil (z7 rfl h0 (yY rfl h0 ?_));refine¬(¬(ixT h0 aI2 ¬⟨q0,d,dd,_,id,rfl,h1.gd,h1.dd.1,uF h1.dd.2 b9,hd,Dm.nil,λH1 r1 s1 e1=>?_⟩));rw[zet]at e1;refine¬(ixT (s1 _ _ h0) aI3 ¬⟨u,d,c,rfl,h2.keep (.of s1),b8,b8,s1 _ _ hd,λH2 r2 s2 e2=>⟨sN4,λr fr=>?_⟩⟩);have s3:=zn (o:=.tup [.str "let",.str x,.ref r1,.ref r2]) fr;exact q _ r ((s1.trans s2).trans s3) (.lt uX9 (((IsPd.de h1 e1).keep (.of s2)).keep (.of s3)) (e2.keep (.of s3)))
 |@iff x c1 c2 _ u1 u2 h0 h1 h2 =>
  rw[Bd.dp]at hdp;rw[Bd.sz]at hz;refine dgS rfl rfl h0 aI1 hd Dm.nil (z7 rfl h0 (z7 rfl h0 (yY rfl h0 ?_)));refine¬(¬(ixT h0 aI2 ¬⟨u1,d,c1,rfl,h1,b8,b8,hd,λH1 r1 s1 e1=>?_⟩));refine¬(ixT (s1 _ _ h0) aI3 ¬⟨u2,d,c2,rfl,h2.keep (.of s1),b8,b8,s1 _ _ hd,λH2 r2 s2 e2=>⟨sN4,λr fr=>?_⟩⟩);have s3:=zn (o:=.tup [.str "if",.str x,.ref r1,.ref r2]) fr;exact q _ r ((s1.trans s2).trans s3) (.iff uX9 ((e1.keep (.of s2)).keep (.of s3)) (e2.keep (.of s3)))
 |@case x as ps _ q0 h0 h1 hps hA =>
  rw[Bd.dp]at hdp;rw[Bd.sz]at hz;have aa:All2 (ArB H) as.al ps:=hA.al;have al:=All2.len aa;have sz:=XL as;refine dgS rfl rfl h0 aI1 hd Dm.nil (z7 rfl h0 (z7 rfl h0 (z7 rfl h0 ⟨sN0,λla fa=>?_⟩)));have s1:=zn fa (.lst []);have e1:=uX9 (H:=H) (a:=la) (o:=.lst []);dsimp only
  generalize upd H la (.lst [])=H1 at *;refine¬(ixT (s1 _ _ h0) aI2 ⟨q0,rfl,⟨_,SqT.of (s1 _ _ h1)⟩,xc (xs:=ps.map V.ref) (λi σ H'=>Same H H'/\(∃y1 y2 y3,σ=[sR p,sR d,sO (.str x),sR la,y1,y2,y3])/\∃us:List aO,H' la=sO (.lst (us.map V.ref))/\All2 (ArB H') (as.al.take i) us) ⟨s1,⟨nO,nO,nO,rfl⟩,[],e1,.nil⟩ (λi σ H' _ h=>SqT.of (h.1 _ _ h1)) ?_ ?_⟩)
  .rintro i v σ H2 hv ⟨s2,⟨y1,y2,y3,rfl⟩,us,e2,hu⟩
   obtain⟨t,ht,rfl⟩:=L2.gM hv;obtain⟨a,ha,hA1⟩:=All2.get aa ht;obtain⟨qa,ua,a1,a2,a3⟩:=hA1.keep (.of s2);obtain⟨b1,b2⟩:=zb6 (uu ha);have ul:=All2.len hu;rw[uv]at ul;have hi:=(uf.mp ha).1;have hd2:=s2 _ _ hd;refine⟨_,_,rfl,SqT.of a1,rfl,_,_,rfl,_,_,rfl,_,_,rfl,rfl,?_⟩;refine¬⟨.inl ⟨rfl,_,SqL.of e2⟩,¬(¬⟨qa,rfl,⟨_,SqT.of a2⟩,xJ (xs:=a.2.1.map V.str) (λj τ zs H'=>H2=H'/\(∃z,τ=[sR p,sR d,sO (.str x),sR la,sO (.str a.1),sR qa,sR ua,z])/\zs=(a.2.1.take j).map V.str) ⟨rfl,⟨nO,rfl⟩,rfl⟩ (λj τ zs H' _ h=>SqT.of (h.1 ▸ a2)) ?_ ?_⟩)⟩
   .rintro j v τ zs H3 hv ⟨rfl,⟨z,rfl⟩,rfl⟩
    obtain⟨x3,hx3,rfl⟩:=L2.gM hv;have hj:=(uf.mp hx3).1;refine¬⟨d,rfl,.inl ⟨_,.inl hd2⟩,¬(¬⟨_,DGet.k (k:=.inr x3) hd2,?_⟩)⟩;refine⟨by rw[ub,uv];lia,rfl,⟨_,rfl⟩,?_⟩;rw[uA,hx3,ur]
    rfl
   rintro τ zs H3 ⟨rfl,_,rfl⟩ l3 f3;rw[ub,um (uk _)];refine⟨l3,¬(.inl ⟨SqL.of uX9,λq3 f4=>?_⟩)⟩;have s4:=(zn (o:=.lst (a.2.1.map V.str)) f3).new (o:=.tup (a.2.1.map V.str)) f4;have e4:=uX9 (H:=upd H2 l3 (.lst (a.2.1.map V.str))) (a:=q3) (o:=.tup (a.2.1.map V.str));dsimp only[U7]
   generalize upd (upd H2 l3 (.lst (a.2.1.map V.str))) q3 (.tup (a.2.1.map V.str))=H4 at *;refine¬(¬⟨ua,d,a.2.2,rfl,a3.keep (.of s4),b8,b8,s4 _ _ hd2,λH5 r5 s5 e5=>⟨sN3,λt6 f6=>?_⟩⟩);have s6:=s5.new (o:=.tup [.str a.1,.ref q3,.ref r5]) f6;have s26:=s4.trans s6;refine⟨la,(zE rfl rfl ⟨s26 _ _ e2,bc,?_⟩)⟩;have hAr:ArB (upd H5 t6 (.tup [.str a.1,.ref q3,.ref r5])) a t6:=⟨q3,r5,uX9,s6 _ _ e4,e5.keep (.of (zn f6 _))⟩;have tp:Tups _ (upd (upd H5 t6 (.tup [.str a.1,.ref q3,.ref r5])) la (.lst (us.map V.ref++[.ref t6]))):=YS (s26 _ _ e2);refine⟨(s2.trans s26).put fa,⟨_,_,_,rfl⟩,us++[t6],by rw[uX9,ur];rfl,?_⟩;rw[uA,ha];exact((hu.imp λ_ _ z=>z.keep (.of s26)).app (.cons hAr .nil)).imp λ_ _ z=>z.keep tp
  .rintro σ H2 ⟨s2,⟨y1,y2,y3,rfl⟩,us,e2,hu⟩
   rw[ub,um b8]at hu;refine¬(¬⟨la,¬(.inl ⟨SqL.of e2,λt3 f3=>⟨sN3,λr fr=>?_⟩⟩)⟩);have s3:=(zn (o:=.tup (us.map V.ref)) f3).new (o:=.tup [.str "case",.str x,.ref t3]) fr;refine q _ r (s2.trans s3) (.case uX9 (old fr uX9) (by rw[<- All2.len hu,al];exact hps) (IsA.of (hu.imp λ_ _ z=>z.keep (.of s3))))
mutual
noncomputable def Hc.pcs:Hc->List Hc
 |.give x=>[.give x]
 |.lt x d b=>.lt x d b::b.pcs
 |.hold n x b=>.hold n x b::b.pcs
 |.drop x b=>.drop x b::b.pcs
 |.iff x a b=>.iff x a b::(a.pcs++b.pcs)
 |.case x as=>.case x as::as.pcs
noncomputable def Ha.pcs:Ha->List Hc
 |.nil=>[]
 |.cons _ _ _ b r=>b.pcs++r.pcs
end
mutual
theorem xy:∀c:Hc,c.pcs.length<=c.sz
 |.give x=>by rw[Hc.pcs,Hc.sz];exact uk _
 |.lt x d b=>by have:=xy b;rw[Hc.pcs,Hc.sz,ui];lia
 |.hold x d b=>by have:=xy b;rw[Hc.pcs,Hc.sz,ui];lia
 |.drop x b=>by have:=xy b;rw[Hc.pcs,Hc.sz,ui];lia
 |.iff x a b=>by have:=xy a;have:=xy b;rw[Hc.pcs,Hc.sz,ui,ud];lia
 |.case x as=>by have:=ZI as;rw[Hc.pcs,Hc.sz,ui];lia
theorem ZI:∀as:Ha,as.pcs.length<=as.sz
 |.nil=>uk _
 |.cons t xs m b r=>by have:=xy b;have:=ZI r;rw[Ha.pcs,Ha.sz,ud];lia
end
theorem XM:∀as:Ha,as.pcs=as.ls.flatMap λa=>a.2.2.2.pcs
 |.nil=>rfl
 |.cons t xs m b r=>by rw[Ha.pcs,XM r];rfl
theorem yT{α β:Type}(f:α->List β){l:List α}{a:α}(h:l[i]?=sO a):(l.take (i+1)).flatMap f=(l.take i).flatMap f++f a:=by
 rw[uA,h,Uy];simp
theorem ZJ{α β:Type}(f:α->List β)(l:List α)(i:Nat):((l.take i).flatMap f).length<=(l.flatMap f).length:=by
 have:(l.take i++l.drop i).flatMap f=(l.take i).flatMap f++(l.drop i).flatMap f:=Uy
 rw[List.take_append_drop]at this;rw[this,ud];lia
theorem WC{c:Hc}(h:IsHc H c v):∃p xs,v=.ref p/\H p=sO (.tup xs):=by
 cases c with
 |give x=>obtain⟨p,e,h⟩:=h;exact⟨p,_,e,h⟩
 |lt x d b=>obtain⟨p,_,_,e,h,_⟩:=h;exact⟨p,_,e,h⟩
 |hold n x b=>obtain⟨p,_,e,h,_⟩:=h;exact⟨p,_,e,h⟩
 |drop x b=>obtain⟨p,_,e,h,_⟩:=h;exact⟨p,_,e,h⟩
 |iff x a b=>obtain⟨p,_,_,e,h,_⟩:=h;exact⟨p,_,e,h⟩
 |case x as=>obtain⟨p,_,_,e,h,_⟩:=h;exact⟨p,_,e,h⟩
theorem zbk{c:Hc}(h:IsHc H c v):(∃x,c=.give x)\/(∃x a b,c=.iff x a b)\/(∃x as,c=.case x as)\/∃(p:aO)(t:Str)(ys:List V)(u:V)(b:Hc),v=.ref p/\H p=sO (.tup (.str t::ys++[u]))/\IsHc H b u/\(t≠"give"/\t≠"if"/\t≠"case")/\(∀N ow,c.Ok N ow->b.Ok N ow)/\b.dp+1<=c.dp/\c.sz=b.sz+1/\c.pcs=c::b.pcs:=by
 cases c with
 |give x=>exact .inl ⟨_,rfl⟩
 |iff x a b=>exact .inr (.inl ⟨_,_,_,rfl⟩)
 |case x as=>exact .inr (.inr (.inl ⟨_,_,rfl⟩))
 |lt x d b =>
  obtain⟨p,q,u,e,h,_,g⟩:=h;exact .inr (.inr (.inr ⟨p,"let",[_,_],u,b,e,h,g,⟨b9,b9,b9⟩,λN ow z=>z.2,by rw[Hc.dp];lia,by rw[Hc.sz],by rw[Hc.pcs]⟩))
 |hold n x b =>
  obtain⟨p,u,e,h,g⟩:=h;exact .inr (.inr (.inr ⟨p,"hold",[_,_],u,b,e,h,g,⟨b9,b9,b9⟩,λN ow z=>z,by rw[Hc.dp];lia,by rw[Hc.sz],by rw[Hc.pcs]⟩))
 |drop x b =>
  obtain⟨p,u,e,h,g⟩:=h;exact .inr (.inr (.inr ⟨p,"drop",[_],u,b,e,h,g,⟨b9,b9,b9⟩,λN ow z=>z,by rw[Hc.dp];lia,by rw[Hc.sz],by rw[Hc.pcs]⟩))
inductive spPcs(n:Nat)(vs:List V)(H:Hp)(Q:VK)(e_3:XK):Prop
 |mk (v:V) (c:Hc) (ow:Str->List Bool):∀N:lS,(vs=[v])->(IsHc H c v)->(c.Ok N ow)->(c.dp<=n)->(c.sz<=10000000)->(∀H' r ws,Same H H'->H r=nO->H' r=sO (.lst ws)->All2 (IsHc H') c.pcs ws->Q (.ref r) H')->spPcs n vs H Q e_3
theorem scPcs:FnScope ["_law_body_here","_law_found","_law_arm"] ["_law_body_here"] (zq vx):=.ok
theorem zbl(F:Fun K "_law_pieces" "_law_pieces" vx f fd):FnOk P w K mg base CX0 (1+0) f fd ["_law_body_here"] (spPcs 0):=by
 refine F.by scPcs ?_ ?_
 .rintro _ _ _ _ ⟨_,_,_,_,rfl,_⟩;rfl
 rintro _ _ _ _ _ vs _ _ _ ⟨v,c,ow,N,rfl,_,_,hd,_⟩;exact absurd hd (Nat.not_le_of_gt c.dp_pos)
theorem zdP(F:Fun K "_law_pieces" "_law_pieces" vx f fd)(GP:Ca P w K mg base CX0 (1+n) "_law_pieces" ["_law_body_here"] (spPcs n)):FnOk P w K mg base CX0 (1+(n+1)) f fd ["_law_body_here"] (spPcs (n+1)):=by
 refine F.by (k:=1+n) scPcs ?_ ?_
 .rintro _ _ _ _ ⟨_,_,_,_,rfl,_⟩;rfl
 rintro _ _ _ _ H vs _ _ hr ⟨v,c,ow,N,rfl,hI,ho,hdp,hz,q⟩;refine⟨_,
  (zh (sE 1 scPcs.nd (zI (jA1 !0)))
  (zh (zF (tN zJ (zj K !0) zu)
   (zi (zt !1))  zw)
  (zh (zF (tN zJ (zj K !0) zu)
   (zi (zt (zC yP (zC yP (!1) (cA GP hr (jA1 (zj K !0)))) (cA GP hr (jA1 (zj K !0))))))  zw)
  (zh (zF (tN zJ (zj K !0) zu)
   (zh (z5 PassesOwn.never rfl (yo K (zj K !0)) (gN 2 scPcs.nd)
    (zi (sE 1 scPcs.nd (zC yP (!1) (cA GP hr (jA1 (xX (xK K) (!2) (xw zp))))))))
   (zi (zt !1)))  zw)
  (zi (zt (zC yP (!1) (cA GP hr (jA1 (xX (xK K) (!0) (xw zp))))))))))),?_⟩
 have sl:=zN;obtain⟨p,xs0,rfl,hp0⟩:=WC hI;refine¬⟨sN1,λl1 f1=>?_⟩;have s1:=zn (o:=.lst [.ref p]) f1;have e1:=uX9 (H:=H) (a:=l1) (o:=.lst [.ref p]);dsimp only
 generalize upd H l1 (.lst [.ref p])=H1 at *;have hI1:=hI.keep (.of s1);have hI0:=hI.keep (.of s1);rcases zbk hI1 with⟨x,rfl⟩|⟨x,a,b,rfl⟩|⟨x,as,rfl⟩|⟨p',t,ys,u,b,e,h0,h1,⟨t1,t2,t3⟩,o1,d1,z1,e2⟩
 .obtain⟨p',e,h0⟩:=hI1
  cases e;exact yY rfl h0 ¬(q H1 l1 _ s1 f1 e1 (by rw[Hc.pcs];exact .cons hI0 .nil))
 .obtain⟨p',u1,u2,e,h0,h1,h2⟩:=hI1
  cases e;rw[Hc.dp]at hdp;rw[Hc.sz]at hz;have z1:=xy a;have z2:=xy b;refine z7 rfl h0 (yY rfl h0 ?_);refine¬(¬(ixT h0 aI2 ⟨u1,a,ow,N,rfl,h1,ho.1,b8,b8,λH2 r2 w2 s2 f2 e2 a2=>?_⟩));have l2:=All2.len a2;refine⟨l1,r2,(zE rfl rfl ⟨s2 _ _ e1,e2,by rw[uH];lia,λl3 f3=>?_⟩)⟩;have s3:=zn (o:=.lst ([.ref p]++w2)) f3;have s23:=s2.trans s3;refine¬(ixT (s23 _ _ h0) aI3 ⟨u2,b,ow,N,rfl,h2.keep (.of s23),ho.2,b8,b8,λH4 r4 w4 s4 f4 e4 a4=>?_⟩);have l4:=All2.len a4;refine⟨l3,r4,(zE rfl rfl ⟨s4 _ _ uX9,e4,by rw[ud,uH];lia,λl5 f5=>?_⟩)⟩;have s5:=zn (o:=.lst ([.ref p]++w2++w4)) f5;have s35:=s3.trans (s4.trans s5);have s15:=s2.trans s35;refine q _ l5 _ (s1.trans s15) ((s1.trans (s2.trans (s3.trans s4))).free f5) uX9 ?_;rw[Hc.pcs];exact .cons (hI0.keep (.of s15)) ((a2.imp λ_ _ z=>z.keep (.of s35)).app (a4.imp λ_ _ z=>z.keep (.of s5)))
 .obtain⟨p',q0,vs,e,h0,h1,h2⟩:=hI1
  cases e;rw[Hc.dp]at hdp;rw[Hc.sz]at hz;have aa:=h2.al;have al:=All2.len aa;have zz:=ZI as;rw[XM]at zz;refine z7 rfl h0 (z7 rfl h0 (yY rfl h0 ?_));refine¬(ixT h0 aI2 ⟨q0,rfl,⟨_,SqT.of h1⟩,xc (xs:=vs) (λi σ H'=>Same H1 H'/\∃r ws,(∃y,σ=[sR p,sR r,y])/\H r=nO/\H' r=sO (.lst (.ref p::ws))/\All2 (IsHc H') ((as.ls.take i).flatMap λa=>a.2.2.2.pcs) ws) ⟨.refl _,l1,[],⟨nO,rfl⟩,f1,e1,.nil⟩ (λi σ H' _ h=>SqT.of (h.1 _ _ h1)) ?_ ?_⟩)
  .rintro i v σ H2 hv ⟨s2,r,ws,⟨y,rfl⟩,fr,er,aw⟩
   obtain⟨a,ha,hA⟩:=All2.get aa hv;obtain⟨pa,qa,ua,rfl,a1,a2,a3⟩:=hA.keep (.of s2);obtain⟨b1,b2,b3,b4⟩:=QC ho (uu ha);have fl:=ZJ (λa:Str×lS×Bool×Hc=>a.2.2.2.pcs) as.ls (i+1);rw[yT _ ha,ud]at fl;have wl:=All2.len aw;refine¬(¬¬⟨pa,_,_,_,rfl,rfl,SqT.of a1,xA [_,_,_,_] _,ua,a.2.2.2,ow,N,rfl,a3,b3,b8,b8,λH3 r3 w3 s3 f3 e3 a4=>?_⟩);have l3:=All2.len a4;refine⟨r,r3,(zE rfl rfl ⟨s3 _ _ er,e3,by rw[ui];lia,λl5 f5=>?_⟩)⟩;have s5:=zn (o:=.lst (.ref p::ws++w3)) f5;refine⟨s2.trans (s3.trans s5),l5,ws++w3,⟨_,rfl⟩,((s1.trans s2).trans s3).free f5,uX9,?_⟩
   .rw[yT _ ha]
    exact(aw.imp λ_ _ z=>z.keep (.of (s3.trans s5))).app (a4.imp λ_ _ z=>z.keep (.of s5))
  .rintro σ H2 ⟨s2,r,ws,⟨y,rfl⟩,fr,er,aw⟩
   rw[um b8]at aw;refine¬(q H2 r _ (s1.trans s2) fr er ?_);rw[Hc.pcs,XM];exact .cons (hI0.keep (.of s2)) aw
 .cases e
  refine z7 rfl h0 (z7 rfl h0 (z7 rfl h0 ?_ (eO λz=>t3 (V.str.inj z))) (eO λz=>t2 (V.str.inj z))) (eO λz=>t1 (V.str.inj z));refine¬(¬¬⟨p,_,_,_,rfl,rfl,SqT.of h0,xA (.str t::ys) _,u,b,ow,N,rfl,h1,o1 _ _ ho,b8,b8,λH3 r3 w3 s3 f3 e3 a4=>?_⟩);have l3:=All2.len a4;have l4:=xy b;refine⟨l1,r3,(zE rfl rfl ⟨s3 _ _ e1,e3,by rw[uH];lia,λl5 f5=>?_⟩)⟩;have s5:=zn (o:=.lst ([.ref p]++w3)) f5;refine q _ l5 _ (s1.trans (s3.trans s5)) ((s1.trans s3).free f5) uX9 ?_;rw[e2];exact .cons (hI0.keep (.of (s3.trans s5))) (a4.imp λ_ _ z=>z.keep (.of s5))
end
end GN
namespace PySem.W
open PySem PySem.Spec PySem.Calls PyProof.Rows
structure XIs(K:Frag)(C:aO):Prop where
 ga:findIn K (.ref C) "__getattribute__"=sO (sO (.builtin "BaseException.__getattribute__"))
 ha:findIn K (.ref C) "__getattr__"=sO nO
 sb:subIn K (.ref C) (.type "BaseException")=sO tU
 hd:hasDictIn K C=tU
 cl:findIn K (.ref C) "__class__"=sO (sO (.builtin "object.__class__"))
 gs:specialIn K (.builtin "object.__class__") "__get__"=sO (sO (.builtin "getset_descriptor.__get__"))
 tk:takesIn K (.builtin "object.__class__")=sO tU
 mo:mroIn K C (.type "object")=sO tU
end PySem.W
namespace L2
open PySem PySem.Spec PyProof.Rows
theorem WD:jCa X (.type "int") (λxs H Q=>(∃i,xs=[.int i]/\Q (.int i) H)\/∃k,xs=[.bl k]/\Q (.int (if k then 1 else 0)) H):=⟨WQ⟩
theorem QG:jS X st (λ_ _ _=>False):=⟨λ_ _ _ _ _ _ h=>h.elim⟩
end L2
namespace GN
open PySem L2 K11
theorem iteE{b:Bool}{A B:Prop}(e:b=fO)(h:B):if b=tU then A else B:=by rw[iN (by rw[e];decide)];exact h
inductive spDF(vs:List V)(H:Hp)(Q:VK)(e_3:XK):Prop
 |mk (p:aO):∀d:De,(vs=[.ref p])->(IsHd H d p)->(WdOk d)->(∀H',Same H H'->Q (.bl tU) H')->spDF vs H Q e_3
inductive spCF(vs:List V)(H:Hp)(Q:VK)(e_3:XK):Prop
 |mk (p q:aO) (x:Str) (us:List V):∀as:Ha,(vs=[.ref p])->(H p=sO (.tup [.str "case",.str x,.ref q]))->(H q=sO (.tup us))->(IsHa H as us)->(∀H',Same H H'->Q (.bl tU) H')->spCF vs H Q e_3
mutual
theorem wy{N:lS}{ow:Str->List Bool}:∀{c:Hc},c.Ok N ow->∀b∈c.pcs,b.Ok N ow
 |.give x,h,b,hb=>by rw[Hc.pcs]at hb;rw[ut.mp hb];exact h
 |.lt x d c,h,b,hb=>by rw[Hc.pcs]at hb;exact(uq.mp hb).elim (λe=>e ▸ h) (wy h.2 b)
 |.hold x y c,h,b,hb=>by rw[Hc.pcs]at hb;exact(uq.mp hb).elim (λe=>e ▸ h) (wy (c:=c) h b)
 |.drop x c,h,b,hb=>by rw[Hc.pcs]at hb;exact(uq.mp hb).elim (λe=>e ▸ h) (wy (c:=c) h b)
 |.iff x a c,h,b,hb=>by rw[Hc.pcs]at hb;exact(uq.mp hb).elim (λe=>e ▸ h) λz=>(uy.mp z).elim (wy h.1 b) (wy h.2 b)
 |.case x as,h,b,hb=>by rw[Hc.pcs]at hb;exact(uq.mp hb).elim (λe=>e ▸ h) (WE (as:=as) h b)
theorem WE{N:lS}{ow:Str->List Bool}:∀{as:Ha},as.Ok N ow->∀b∈as.pcs,b.Ok N ow
 |.nil,h,b,hb=>by cases hb
 |.cons t xs m c r,h,b,hb=>by rw[Ha.pcs]at hb;exact(uy.mp hb).elim (wy h.1.2 b) (WE h.2 b)
end
inductive spClean(vs:List V)(H:Hp)(Q:VK)(e_3:XK):Prop
 |mk (l:aO) (ws:List V) (cs:List Hc) (ow:Str->List Bool):∀N:lS,(vs=[.ref l])->(H l=sO (.lst ws))->(All2 (IsHc H) cs ws)->((∀c∈cs,c.Ok N ow))->(∀H',Same H H'->Q (.bl tU) H')->spClean vs H Q e_3
section
variable{K:uc}
theorem scDF:FnScope ["_law_deed_here","_law_size"] ["_law_deed_here"] (zq Xw):=.ok
theorem zev(F:Fun K "_law_deed_formed" "_law_deed_formed" Xw f fd)(m_isinstance:mg "isinstance"=nO)(m_tuple:mg "tuple"=nO)(m_len:mg "len"=nO):FnOk P w K mg base CX0 1 f fd ["_law_deed_here"] spDF:=by
 refine F.by scDF ?_ ?_
 .rintro _ _ _ _ ⟨_,_,rfl,_⟩;rfl
 rintro _ _ _ _ H vs _ _ _ ⟨p,d,rfl,hI,hw,q⟩;refine⟨_,
  (zh (sE 1 scDF.nd zp)
  (zh (zF (tN zJ (zj K !0) zu)
   (zi (sE 1 scDF.nd zp))  zw)
  (zh (zF (jW.pt (yI (tN zJ (zj K !0) zu) (yG (tN zJ (zj K !0) zu))))
   (zi (sE 1 scDF.nd zp))  zw)
  (zh (zF (jW.pt (yI (yv (zS (zG (zR K) rfl m_isinstance uI (jA2 (!0) (yt (v:=.ty "tuple") rfl m_tuple uo rfl))))) (yG (tN xp (zG (zB K) rfl m_len uP (jA1 !0)) !1))))
   (zi (zt yC))  zw)
  (zh (zF (jW.pt (xQ (tN zJ (zj K !0) zu) (xt (tN xp (zj K !0) zu))))
   (zi (zt yC))  zw)
  (zi (zt (zbH (yM (Zf K) (zj K !0) (zI (jA2 zu zu)) (by with_unfolding_all rfl)) (wZ (zG (zR K) rfl m_isinstance uI (jA2 (zj K !0) (yt (v:=.ty "tuple") rfl m_tuple uo rfl)))))))))))),?_⟩
 have sl:=zN;cases d with
 |num i =>
  have h0:H p=sO (.tup [.str "num",.int i]):=hI;refine¬(ixT h0 aI0 ⟨rfl,¬(iteT ?_)⟩);refine¬(ixT h0 aI0 ⟨rfl,¬(iteF ¬(ixT h0 aI0 ⟨rfl,¬(iteF (nxtC ?_))⟩))⟩);refine¬⟨_,_,_,tU,rfl,.tup h0,rfl,¬(iteF ¬⟨p,¬⟨.inr (SqT.of h0),¬⟨rfl,¬(iteF (nxtC ?_))⟩⟩⟩)⟩;refine¬(ixT h0 aI0 ⟨rfl,¬(iteF (nxtC ?_))⟩);exact¬(ixT h0 aI0 ⟨sN2,λl2 f2=>⟨l2,¬⟨.inl (SqL.of uX9),rfl,rfl,¬(iteT (q _ (zn f2 _)))⟩⟩⟩)
 |op w a b =>
  have h0:H p=sO (.tup [.str "op",.str w,.str a,.str b]):=hI;refine¬(ixT h0 aI0 ⟨rfl,¬(iteF (nxtC ?_))⟩);refine¬(ixT h0 aI0 ⟨rfl,¬(iteT ?_)⟩);refine¬⟨_,_,_,tU,rfl,.tup h0,rfl,¬(iteF ¬⟨p,¬⟨.inr (SqT.of h0),¬⟨rfl,¬(iteF (nxtC ?_))⟩⟩⟩)⟩;refine¬(ixT h0 aI0 ⟨rfl,¬(iteF (nxtC ?_))⟩);exact¬(ixT h0 aI0 ⟨sN2,λl2 f2=>⟨l2,¬⟨.inl (SqL.of uX9),rfl,rfl,¬(iteT (q _ (zn f2 _)))⟩⟩⟩)
 |app w z xs =>
  obtain⟨q1,h0,h1⟩:=hI;have d1:decide (V.str w=V.str "num")=fO:=eO λz=>hw.1 (V.str.inj z);have d2:decide (V.str w=V.str "op")=fO:=eO λz=>hw.2 (V.str.inj z);by_cases c:w="make"
  .rw[iP c]at h0
   subst c;refine¬(ixT h0 aI0 ⟨rfl,¬(iteF (nxtC ?_))⟩);refine¬(ixT h0 aI0 ⟨rfl,¬(iteF ¬(ixT h0 aI0 ⟨rfl,¬(iteT ?_)⟩))⟩);refine¬⟨_,_,_,tU,rfl,.tup h0,rfl,¬(iteF ¬⟨p,¬⟨.inr (SqT.of h0),¬⟨rfl,¬(iteF (nxtC ?_))⟩⟩⟩)⟩;refine¬(ixT h0 aI0 ⟨rfl,¬(iteT ¬(ixT h0 aI3 ⟨rfl,¬(iteF (nxtC ?_))⟩))⟩);refine¬(ixT h0 aI0 ⟨sN2,λl2 f2=>⟨l2,¬⟨.inl (SqL.of uX9),rfl,rfl,¬(iteF ?_)⟩⟩⟩);have s2:=zn (o:=.lst [.str "num",.str "op"]) f2;exact¬(ixT (s2 _ _ h0) aI2 ⟨_,_,_,tU,rfl,.tup (s2 _ _ h1),rfl,q _ s2⟩)
  .rw[iN c]at h0
   have d3:decide (V.str w=V.str "make")=fO:=eO λz=>c (V.str.inj z);refine¬(ixT h0 aI0 ⟨rfl,¬(iteE d1 (nxtC ?_))⟩);refine¬(ixT h0 aI0 ⟨rfl,¬(iteE d2 ¬(ixT h0 aI0 ⟨rfl,¬(iteE d3 (nxtC ?_))⟩))⟩);refine¬⟨_,_,_,tU,rfl,.tup h0,rfl,¬(iteF ¬⟨p,¬⟨.inr (SqT.of h0),¬⟨rfl,¬(iteF (nxtC ?_))⟩⟩⟩)⟩;refine¬(ixT h0 aI0 ⟨rfl,¬(iteE d3 (nxtC ?_))⟩);refine¬(ixT h0 aI0 ⟨sN2,λl2 f2=>⟨l2,¬⟨.inl (SqL.of uX9),rfl,rfl,¬(ite2 (λ_=>q _ (zn f2 _)) λ_=>?_)⟩⟩⟩);have s2:=zn (o:=.lst [.str "num",.str "op"]) f2;exact¬(ixT (s2 _ _ h0) aI2 ⟨_,_,_,tU,rfl,.tup (s2 _ _ h1),rfl,q _ s2⟩)
theorem scCF:FnScope ["_law_piece","_law_arm"] ["_law_piece"] (zq Xx):=.ok
theorem zew(F:Fun K "_law_case_formed" "_law_case_formed" Xx f fd)(m_isinstance:mg "isinstance"=nO)(m_tuple:mg "tuple"=nO)(m_len:mg "len"=nO):FnOk P w K mg base CX0 1 f fd ["_law_piece"] spCF:=by
 refine F.by scCF ?_ ?_
 .rintro _ _ _ _ ⟨_,_,_,_,_,rfl,_⟩;rfl
 rintro _ _ _ _ H vs _ _ _ ⟨p,q0,x,us,as,rfl,h0,h1,hA,q⟩;refine⟨_,
  (zh (zF (jW.pt (yI (tN xp (zG (zB K) rfl m_len uP (jA1 !0)) zp) (yG (yv (zS (zG (zR K) rfl m_isinstance uI (jA2 (zj K !0) (yt (v:=.ty "tuple") rfl m_tuple uo rfl))))))))
   (zi (zt yC))  zw)
  (zh (z5 PassesOwn.never rfl (yo K (zj K !0)) (gN 1 scCF.nd)
   (zi (zF (jW.pt (yI (yv (zS (zG (zR K) rfl m_isinstance uI (jA2 (!1) (yt (v:=.ty "tuple") rfl m_tuple uo rfl))))) (yI (tN xp (zG (zB K) rfl m_len uP (jA1 !1)) zp) (yI (wK K (zj K !1) (zI (jA2 zu zu))) (yG (tN xp (zj K !1) zu))))))
    (zi (zt yC))  zw)))
  (zi (zt yC)))),?_⟩
 have sl:=zN;have al:=All2.len hA.al;refine¬⟨p,¬⟨.inr (SqT.of h0),rfl,¬(iteF ¬(ixT h0 aI2 ⟨_,_,_,tU,rfl,.tup h1,rfl,¬(iteF (nxtC ?_))⟩))⟩⟩;refine¬(ixT h0 aI2 ⟨q0,rfl,⟨_,SqT.of h1⟩,xc (xs:=us) (λi σ H'=>Same H H'/\∃y,σ=[sR p,y]) ⟨.refl _,_,rfl⟩ (λi σ H' _ h=>SqT.of (h.1 _ _ h1)) ?_ ?_⟩)
 .rintro i v σ H2 hv ⟨s2,y,rfl⟩
  obtain⟨a,ha,hA2⟩:=All2.get hA.al hv;obtain⟨pa,qa,ua,rfl,a1,a2,a3⟩:=hA2.keep (.of s2);refine¬⟨_,_,_,tU,rfl,.tup a1,rfl,¬(iteF ¬⟨pa,¬⟨.inr (SqT.of a1),rfl,¬(iteF ?_)⟩⟩)⟩;refine¬(ixT a1 aI2 ⟨sN2,λl3 f3=>?_⟩);have s3:=zn (o:=.lst [.str "look",.str "take"]) f3;obtain⟨t,xs,m,b⟩:=a;cases m
  all_goals refine⟨l3,¬⟨.inl (SqL.of uX9),rfl,rfl,¬(iteF ¬(ixT (s3 _ _ a1) aI3 ⟨rfl,¬(iteF ⟨s2.trans s3,_,rfl⟩)⟩))⟩⟩
 .rintro σ H2 ⟨s2,y,rfl⟩
  exact q H2 s2
theorem scCl:FnScope ["_law_pieces_here","_law_piece"] ["_law_pieces_here"] (zq Xy):=.ok
theorem QH(F:Fun K "_law_clean" "_law_clean" Xy f fd)(GC:Ca P w K mg base CX0 1 "_law_case_formed" ["_law_piece"] spCF)(GD:Ca P w K mg base CX0 1 "_law_deed_formed" ["_law_deed_here"] spDF)(m_isinstance:mg "isinstance"=nO)(m_tuple:mg "tuple"=nO)(m_len:mg "len"=nO)(m_int:mg "int"=nO):FnOk P w K mg base CX0 2 f fd ["_law_pieces_here"] spClean:=by
 refine F.by scCl ?_ ?_
 .rintro _ _ _ _ ⟨_,_,_,_,_,rfl,_⟩;rfl
 rintro _ _ _ _ H vs _ _ hr ⟨l,ws,cs,ow,N,rfl,hl,aw,ho,q⟩;refine⟨_,
  (zh (z5 PassesOwn.never rfl (zU K !0) (gN 1 scCl.nd)
   (zh (zF (yv (zS (zG (zR K) rfl m_isinstance uI (jA2 (!1) (yt (v:=.ty "tuple") rfl m_tuple uo rfl)))))
    (zi (zt yC))  zw)
   (zi (zF (tN zJ (zj K !1) zu)
    (zi (zF (yv (zS (cA GC hr (jA1 !1))))
     (zi (zt yC))  zw))
    (zi (zF (tN zJ (zj K !1) zu)
     (zi (zF (tN xp (zG (zB K) rfl m_len uP (jA1 !1)) zp)
      (zi (zt yC))  zw))
     (zi (zF (tN xp (zG (zB K) rfl m_len uP (jA1 !1)) (zC xo zp (zK WD rfl m_int PyProof.Rows.boot_int (jA1 (yM zJ (zj K !1) zu (xv _))))))
      (zi (zt yC))
      (zi (zF (jW.pt (xQ (tN zJ (zj K !1) zu) (xt (yv (zS (cA GD hr (jA1 (zj K !1))))))))
       (zi (zt yC))  zw))))))))))
  (zi (zt yC))),?_⟩
 have sl:=zN;refine¬⟨l,rfl,⟨_,SqL.of hl⟩,xm (xs:=ws) (λi σ H'=>Same H H'/\∃y,σ=[sR l,y]) ⟨.refl _,_,rfl⟩ (λi σ H' _ h=>SqL.of (h.1 _ _ hl)) ?_ ?_⟩
 .rintro i v σ H2 hv ⟨s2,y,rfl⟩
  obtain⟨c,hc,hI⟩:=All2.get aw hv;have hI:=hI.keep (.of s2);have ok:=ho c (uu hc);obtain⟨p,xs,rfl,hp⟩:=WC hI;refine¬⟨_,_,_,tU,rfl,.tup hp,rfl,¬(iteF (nxtC ?_))⟩;cases c with
  |give x =>
   obtain⟨p',e,h0⟩:=hI;cases e;exact¬(ixT h0 aI0 ⟨rfl,¬(iteF ¬(ixT h0 aI0 ⟨rfl,¬(iteT ¬⟨p,¬⟨.inr (SqT.of h0),rfl,¬(iteF ⟨s2,_,rfl⟩)⟩⟩)⟩))⟩)
  |case x as =>
   obtain⟨p',q0,us,e,h0,h1,h2⟩:=hI;cases e;exact¬(ixT h0 aI0 ⟨rfl,¬(iteT ¬⟨p,q0,x,us,as,rfl,h0,h1,h2,λH3 s3=>¬(iteF ⟨s2.trans s3,_,rfl⟩)⟩)⟩)
  |lt x d b =>
   obtain⟨p',q0,u,e,h0,h1,h2⟩:=hI;cases e;refine¬(ixT h0 aI0 ⟨rfl,¬(iteF ¬(ixT h0 aI0 ⟨rfl,¬(iteF ?_)⟩))⟩);refine¬⟨p,¬⟨.inr (SqT.of h0),¬(ixT h0 aI0 ⟨rfl,.inr ¬(zE rfl rfl ⟨rfl,¬(iteF ?_)⟩)⟩)⟩⟩;exact¬(ixT h0 aI0 ⟨rfl,¬(iteT ¬(ixT h0 aI2 ⟨q0,d,rfl,h1,ok.1.1,λH3 s3=>¬(iteF (nxtC ⟨s2.trans s3,_,rfl⟩))⟩))⟩)
  |hold x y b =>
   obtain⟨p',u,e,h0,h2⟩:=hI;cases e;refine¬(ixT h0 aI0 ⟨rfl,¬(iteF ¬(ixT h0 aI0 ⟨rfl,¬(iteF ?_)⟩))⟩);refine¬⟨p,¬⟨.inr (SqT.of h0),¬(ixT h0 aI0 ⟨rfl,.inr ¬(zE rfl rfl ⟨rfl,¬(iteF ?_)⟩)⟩)⟩⟩;exact¬(ixT h0 aI0 ⟨rfl,¬(iteF (nxtC ⟨s2,_,rfl⟩))⟩)
  |drop x b =>
   obtain⟨p',u,e,h0,h2⟩:=hI;cases e;refine¬(ixT h0 aI0 ⟨rfl,¬(iteF ¬(ixT h0 aI0 ⟨rfl,¬(iteF ?_)⟩))⟩);refine¬⟨p,¬⟨.inr (SqT.of h0),¬(ixT h0 aI0 ⟨rfl,.inr ¬(zE rfl rfl ⟨rfl,¬(iteF ?_)⟩)⟩)⟩⟩;exact¬(ixT h0 aI0 ⟨rfl,¬(iteF (nxtC ⟨s2,_,rfl⟩))⟩)
  |iff x a b =>
   obtain⟨p',q0,u,e,h0,h1,h2⟩:=hI;cases e;refine¬(ixT h0 aI0 ⟨rfl,¬(iteF ¬(ixT h0 aI0 ⟨rfl,¬(iteF ?_)⟩))⟩);refine¬⟨p,¬⟨.inr (SqT.of h0),¬(ixT h0 aI0 ⟨rfl,.inr ¬(zE rfl rfl ⟨rfl,¬(iteF ?_)⟩)⟩)⟩⟩;exact¬(ixT h0 aI0 ⟨rfl,¬(iteF (nxtC ⟨s2,_,rfl⟩))⟩)
 .rintro σ H2 ⟨s2,y,rfl⟩
  exact q H2 s2
end
end GN
namespace L2
open PySem PySem.Spec PyProof.Rows
theorem XN(l:aO)(items:Array aA)(n:Nat)(b:aO)(items2:Array aA)(hlong:Not ((!items.isEmpty && Builtin.List.listTooLong (items.size+items2.size))=tU))(hz:items.size+items2.size<=sizeLine):Meets (Builtin.«list.extend» { pos:=[Value.ref l,Value.ref b] }) λ_ R s=>s.heap.get? l=sO { cls:=Value.type "list",data:=Data.seq items n }/\IsTup s.heap b items2/\R (.ok (.ret .none)) { s with heap:=s.heap.update l (Obj.mapSeq (· ++ items2)) }:=by
 intro prog w A R s ⟨h1,⟨o,h2,hc,m,hd⟩,q⟩;show wpAny _ _ (Builtin.List.listExtendWith (.ref l) (.ref b) .none) _ _ _;unfold Builtin.List.listExtendWith;refine bA (wpAny_typeOf (T:="tuple") ⟨o,h2,hc⟩ ?_);have e:(Builtin.List.listSameRef (.ref l) (.ref b) || (Value.type "tuple" == Value.type "list") || (Value.type "tuple" == Value.type "tuple"))=tU:=ba
 rw[iP e];refine bA (wpAny_listItems h2 hd (bA (wpAny_listItems h1 rfl ?_)));dsimp only
 rw[iN hlong];refine bA ?_;show wpAny _ _ (updateSeq l (· ++ items2)) _ _ _;exact wpAny_updateSeq (hz:=b8) h1 rfl (pO q) (by rw[Array.size_append];lia)
def zb7(K:uc):V->List V->Hp->VK->Prop:=λx vs H Q=>∃l b xs zs,x=.ref l/\vs=[.ref b]/\H l=sO (.lst xs)/\SqT K H b zs/\xs.length+zs.length<=sizeLine/\Q .non (upd H l (.lst (xs++zs)))
theorem zbm:MtM X "list.extend" (zb7 X.K):=by
 intro pins s σ H x vs v us Q I rx rv h;obtain⟨l,b,xs,zs,rfl,rfl,hH,hB,hz,q⟩:=h;cases rx;obtain⟨u,rfl,ru⟩:=rv.one;cases ru;obtain⟨z,its,n,r,hl,e⟩:=I.lstM hH;obtain⟨its2,r2,t2,z2⟩:=I.tuple hB;have l1:=r.length;have l2:=r2.length;have hsz:its.toArray.size+its2.toArray.size<=sizeLine:=by rw[uw,uw];lia
 have hlong:Not ((!its.toArray.isEmpty && Builtin.List.listTooLong (its.toArray.size+its2.toArray.size))=tU):=by
  rw[ZZ hsz,Bool.and_false];exact uC
 refine call_meets PySem.F.slot_list_extend ⟨_,e,rfl⟩ PySem.F.entry_list_extend (PySem.F.args_list_extend_2 _ _) (XN l its.toArray n b its2.toArray hlong hsz) ⟨e,t2,?_⟩;refine⟨.non,_,I.lset (its':=its++its2) hH e ba (r.append r2) ?_,rfl,q⟩;rw[ud];lia
theorem zbn:jMt X "list.extend" (zb7 X.K):=⟨zbm⟩
theorem ZK:jOp X (compareOp .NotIn) (λx y H Q=>∃i j,x=.str i/\y=.str j/\Q (.bl (!(!(Builtin.Str.occurrences j i 0 j.length 1).isEmpty))) H):=⟨j7⟩
theorem zbo{tb:TS}(Pv:Nat->St->Hp->Prop)(h0:Pv 0 σ H)
  (hs:∀i c σ H,z.cps[i]?=sO c->Pv i σ H->g (.str ⟨#[c]⟩) σ H λσ2 H2=>tb { D with nx:=Pv (i+1),ct:=Pv (i+1),bk:=D.nx } σ2 H2) (hd:∀σ H,Pv z.cps.size σ H->D.nx σ H) :
  ∃W:Nat->Nat->St->Hp->Prop,(∃m,W 0 m σ H)/\∀i m σ H,W i m σ H ->
   (((Its z).stop i H/\D.nx σ H)\/((Its z).go i H/\∃N:St->Hp->Prop,(∀σ' H',N σ' H'->∃m',m' < m/\W (i+1) m' σ' H')/\∀x H',(Its z).yld i H x H'->g x σ H' λσ2 H2=>tb { D with nx:=N,ct:=N,bk:=D.nx } σ2 H2)):=by
 refine⟨λi m σ H=>m=z.cps.size-i/\i<=z.cps.size/\Pv i σ H,⟨z.cps.size,ba,uS _,h0⟩,?_⟩;rintro i m σ H ⟨rfl,hi,p⟩;by_cases hlt:i < z.cps.size
 .refine .inr ⟨hlt,Pv (i+1),λσ' H' p'=>⟨z.cps.size-(i+1),b8,rfl,hlt,p'⟩,λx H' y=>?_⟩
  obtain⟨e,c,hc,rfl⟩:=y;subst e;exact hs i c σ _ hc p
 .have e:i=z.cps.size:=b8
  subst e;exact .inl ⟨rfl,hd σ H p⟩
def XO(k:Str):aA->Bool
 |.str a _=>a == k
 |_=>fO
def WF:V->List V->Hp->VK->Prop:=λx vs H Q=>∃(l:aO)(xs:lS)(z:Str),x=.ref l/\vs=[.str z]/\H l=sO (.lst (xs.map V.str))/\Q (.int ((xs.count z:Nat):Int)) H
theorem VA:MtM X "list.count" WF:=by
 intro pins s σ H x vs v us Q I rx rv h;obtain⟨l,xs,z,rfl,rfl,hH,q⟩:=h;cases rx;obtain⟨u,rfl,ru⟩:=rv.one;obtain⟨t0,rfl⟩:=ru;obtain⟨its,n,r,e,hz⟩:=I.lst hH;have go:∀{ys:lS}{ws:List aA},Vals (ys.map V.str) ws->(∀y∈ws,∃a t,y=Value.str a t)/\ws.countP (XO z)=ys.count z:=λ{ys}=>by
  induction ys with
  |nil =>
   intro ws r;cases r;exact⟨λy hy=>(Ug hy).elim,rfl⟩
  |cons y ys ih =>
   intro ws r;cases r with
   |cons h t =>
    obtain⟨h1,h2⟩:=ih t;obtain⟨t1,rfl⟩:=h;refine⟨λw hw=>?_,?_⟩
    .rcases uq.mp hw with rfl|hw
     .exact⟨_,_,rfl⟩
     .exact h1 w hw
    .rw[List.countP_cons,List.count_cons,h2]
     rfl
 obtain⟨g1,cnt⟩:=go r;refine call_meets PySem.F.slot_list_count ⟨_,e,rfl⟩ PySem.F.entry_list_count (PySem.F.args_list_count_2 _ _) (SeqAt.list_countAt l its.toArray n nO _ (.str z t0) (XO z)) ⟨e,λy hy=>?_,?_⟩
 .obtain⟨a,t,rfl⟩:=g1 y (by simpa using hy)
  exact SeqAt.EqAt.str_str a t z t0
 .refine⟨.int _,H,I.tok _,⟨_,rfl⟩,?_⟩
  rw[show(its.toArray.toList.countP (XO z))=xs.count z from cnt];exact q
theorem VB:jMt X "list.count" WF:=⟨VA⟩
end L2
namespace GN
open PySem L2 K11
theorem WG{x:Str}:∀{l:lS},inV (.str x) (l.map V.str)=decide (x∈l)
 |[]=>rfl
 |y::l=>by
  have ih:=WG (x:=x) (l:=l);unfold inV at ih ⊢;rw[uB,tO,ih];show((y == x) || decide (x∈l))=_;by_cases e:y=x
  .subst e;simp
  .have e':(y == x)=fO:=beq_eq_false_iff_ne.mpr e
   have e2:Not (x=y):=λz=>e z.symm;simp[e',e2]
theorem vc:∀{l:lS},(l.map V.str).all wo=tU
 |[]=>rfl
 |_::l=>by rw[uB,tM,vc (l:=l)];rfl
def Hc.bn:Hc->lS
 |.lt x _ _=>[x]
 |.case _ as=>as.ls.flatMap (·.2.1)
 |_=>[]
def Hc.hn:Hc->lS
 |.hold n _ _=>[n]
 |_=>[]
theorem QI:∀cs:List Hc,(cs.flatMap Hc.hn).length<=cs.length
 |[]=>uk _
 |c::cs=>by
  have:=QI cs
  have:c.hn.length<=1:=by cases c<;>simp[Hc.hn]
  rw[Uf,ud,ui];lia
inductive spBndL(vs:List V)(H:Hp)(Q:VK)(e_3:XK):Prop
 |mk (l q0:aO) (ws:List V) (cs:List Hc):∀ps:lS,(vs=[.ref l,.ref q0])->(H l=sO (.lst ws))->(All2 (IsHc H) cs ws)->(H q0=sO (.tup (ps.map V.str)))->((ps++cs.flatMap Hc.bn).length<=10000000)->(∀H' r,Same H H'->H r=nO->H' r=sO (.lst ((ps++cs.flatMap Hc.bn).map V.str))->Q (.ref r) H')->spBndL vs H Q e_3
inductive spNewL(vs:List V)(H:Hp)(Q:VK)(e_3:XK):Prop
 |mk (l q0:aO) (ws:List V) (cs:List Hc):∀ps:lS,(vs=[.ref l,.ref q0])->(H l=sO (.lst ws))->(All2 (IsHc H) cs ws)->(H q0=sO (.tup (ps.map V.str)))->((ps++cs.flatMap Hc.bn).length<=10000000)->(cs.length<=10000000)->((cs.flatMap Hc.hn).Nodup)->((∀n∈cs.flatMap Hc.hn,n∉ps++cs.flatMap Hc.bn))->(∀H',Same H H'->Q (.bl tU) H')->spNewL vs H Q e_3
theorem jk{c:Hc}(h:IsHc H c v):∃(p:aO)(t:Str)(rs:List V),v=.ref p/\H p=sO (.tup (.str t::rs))/\(t="let"->∃x rs',rs=.str x::rs'/\c.bn=[x])/\(t="hold"->∃x rs',rs=.str x::rs'/\c.hn=[x])/\(t="case"->∃x as q us,c=.case x as/\rs=[.str x,.ref q]/\H q=sO (.tup us)/\IsHa H as us)/\(t≠"let"->t≠"case"->c.bn=[])/\(t≠"hold"->c.hn=[]):=by
 cases c with
 |give x=>obtain⟨p,e,h⟩:=h;exact⟨p,_,_,e,h,λz=>absurd z b9,λz=>absurd z b9,λz=>absurd z b9,λ_ _=>rfl,λ_=>rfl⟩
 |lt x d b=>obtain⟨p,_,_,e,h,_⟩:=h;exact⟨p,_,_,e,h,λ_=>⟨_,_,rfl,rfl⟩,λz=>absurd z b9,λz=>absurd z b9,λz=>absurd rfl z,λ_=>rfl⟩
 |hold n x b=>obtain⟨p,_,e,h,_⟩:=h;exact⟨p,_,_,e,h,λz=>absurd z b9,λ_=>⟨_,_,rfl,rfl⟩,λz=>absurd z b9,λ_ _=>rfl,λz=>absurd rfl z⟩
 |drop x b=>obtain⟨p,_,e,h,_⟩:=h;exact⟨p,_,_,e,h,λz=>absurd z b9,λz=>absurd z b9,λz=>absurd z b9,λ_ _=>rfl,λ_=>rfl⟩
 |iff x a b=>obtain⟨p,_,_,e,h,_⟩:=h;exact⟨p,_,_,e,h,λz=>absurd z b9,λz=>absurd z b9,λz=>absurd z b9,λ_ _=>rfl,λ_=>rfl⟩
 |case x as=>obtain⟨p,q,us,e,h,h1,h2⟩:=h;exact⟨p,_,_,e,h,λz=>absurd z b9,λz=>absurd z b9,λ_=>⟨x,as,q,us,rfl,rfl,h1,h2⟩,λ_ z=>absurd rfl z,λ_=>rfl⟩
section
variable{K:uc}
theorem scBL:FnScope ["_law_pieces_here","_law_params","_law_found","_law_piece","_law_arm"] lS5 (zq JD):=.ok
theorem zbp(F:Fun K "_law_bound" "_law_bound" JD f fd)(m_list:mg "list"=nO):FnOk P w K mg base CX0 1 f fd lS5 spBndL:=by
 refine F.by scBL ?_ ?_
 .rintro _ _ _ _ ⟨_,_,_,_,_,rfl,_⟩;rfl
 rintro _ _ _ _ H vs _ _ _ ⟨l,q0,ws,cs,ps,rfl,hl,aw,h0,hz,q⟩;refine⟨_,
  (zh (sE 2 scBL.nd (zK (xU K) rfl m_list UT (jA1 !1)))
  (zh (z5 PassesOwn.never rfl (zU K !0) (gN 3 scBL.nd)
   (zh (zF (tN zJ (zj K !3) zu)
    (zi (yg (yO uE uN uO zY (!2) (jA1 (zj K !3)))))  zw)
   (zi (zF (tN zJ (zj K !3) zu)
    (zi (z5 PassesOwn.never rfl (yo K (zj K !3)) (gN 4 scBL.nd)
     (zi (yg (yO uE PySem.F.slot_list_extend PySem.F.type_list_extend zbn (!2) (jA1 (zj K !4)))))))  zw))))
  (zi (zt !2)))),?_⟩
 have sl:=zN;refine¬⟨q0,¬⟨.inr (SqT.of h0),λr fr=>?_⟩⟩;have s1:=zn fr (.lst (ps.map V.str));have e1:=uX9 (H:=H) (a:=r) (o:=.lst (ps.map V.str));dsimp only
 generalize upd H r (.lst (ps.map V.str))=H1 at *;refine¬⟨l,rfl,⟨_,SqL.of (s1 _ _ hl)⟩,xm (xs:=ws) (λi σ H'=>Same H H'/\(∃y y',σ=[sR l,sR q0,sR r,y,y'])/\H' r=sO (.lst ((ps++(cs.take i).flatMap Hc.bn).map V.str))) ⟨s1,⟨_,_,rfl⟩,by rw[List.take_zero,List.flatMap_nil,u7];exact e1⟩ (λi σ H' _ h=>SqL.of (h.1 _ _ hl)) ?_ ?_⟩
 .rintro i v σ H2 hv ⟨s2,⟨y,y',rfl⟩,er⟩
  obtain⟨c,hc,hI⟩:=All2.get aw hv;obtain⟨p,t,rs,rfl,h1,g1,-,g2,g3,-⟩:=jk hI;have fl:=ZJ Hc.bn cs (i+1);rw[yT _ hc,ud]at fl;rw[ud]at hz;rw[yT _ hc];by_cases c1:t="let"
  .subst c1
   obtain⟨x,rs',rfl,e2⟩:=g1 rfl;rw[e2,uH]at fl;refine¬(ixT (s2 _ _ h1) aI0 ⟨rfl,¬(iteT ?_)⟩);refine¬⟨.inl ⟨rfl,_,SqL.of er⟩,¬(ixT (s2 _ _ h1) aI1 ⟨r,(zE rfl rfl ⟨er,by rw[ub,ud];lia,?_⟩)⟩)⟩;have s3:Same H (upd H2 r (.lst ((ps++(cs.take i).flatMap Hc.bn).map V.str++[.str x]))):=s2.put fr;exact¬(ixT (s3 _ _ h1) aI0 ⟨rfl,¬(iteF (nxtC ⟨s3,⟨_,_,rfl⟩,by rw[uX9,e2,<- Uo,ur (l₂:=[x])];rfl⟩))⟩)
  .refine¬(ixT (s2 _ _ h1) aI0 ⟨rfl,¬(iteE (eO λz=>c1 (V.str.inj z)) (nxtC ?_))⟩)
   by_cases c2:t="case"
   .subst c2
    obtain⟨x,as,qa,us,rfl,rfl,h2,hA⟩:=g2 rfl;have ha:=hA.al;refine¬(ixT (s2 _ _ h1) aI0 ⟨rfl,¬(iteT ?_)⟩);refine¬(ixT (s2 _ _ h1) aI2 ⟨qa,rfl,⟨_,SqT.of (s2 _ _ h2)⟩,xc (xs:=us) (λk σ H'=>Same H H'/\(∃y',σ=[sR l,sR q0,sR r,sR p,y'])/\H' r=sO (.lst ((ps++((cs.take i).flatMap Hc.bn++(as.ls.take k).flatMap (·.2.1))).map V.str))) ⟨s2,⟨_,rfl⟩,by rw[List.take_zero,List.flatMap_nil,u7];exact er⟩ (λk σ H' _ h=>SqT.of (h.1 _ _ h2)) ?_ ?_⟩)
    .rintro k v σ H3 hv ⟨s3,⟨y',rfl⟩,e3⟩
     obtain⟨a,hak,pa,q2,u2,rfl,a1,a2,-⟩:=All2.get ha hv;have f2:=ZJ (·.2.1) as.ls (k+1);rw[yT _ hak,ud]at f2;rw[yT _ hak];have f3:(Hc.case x as).bn.length=(as.ls.flatMap (·.2.1)).length:=rfl;refine¬⟨.inl ⟨rfl,_,SqL.of e3⟩,¬(ixT (s3 _ _ a1) aI1 ⟨r,q2,(zE rfl rfl ⟨e3,SqT.of (s3 _ _ a2),by rw[ub,ub,ud,ud];lia,?_⟩)⟩)⟩;exact⟨s3.put fr,⟨_,rfl⟩,by rw[uX9,<- ur,Uo,Uo]⟩
    .rintro σ H3 ⟨s3,⟨y',rfl⟩,e3⟩
     rw[um (l:=as.ls) (by rw[All2.len ha];exact uk _)]at e3;exact⟨s3,⟨_,_,rfl⟩,e3⟩
   .refine¬(ixT (s2 _ _ h1) aI0 ⟨rfl,¬(iteE (eO λz=>c2 (V.str.inj z)) (nxtC ?_))⟩)
    rw[g3 c1 c2,u7];exact⟨s2,⟨_,_,rfl⟩,er⟩
 .rintro σ H2 ⟨s2,⟨y,y',rfl⟩,er⟩
  rw[um (by rw[All2.len aw];exact uk _)]at er;exact¬(q H2 r s2 fr er)
theorem scNL:FnScope ["_law_pieces_here","_law_params","_law_news","_law_before","_law_name_here"] lS5 (zq JE):=.ok
theorem ndNL:(["_law_pieces_here","_law_params","_law_news","_law_before","_law_name_here","_law_piece"]:lS).Nodup:=be
theorem zbq(F:Fun K "_law_new" "_law_new" JE f fd)(GB:Ca P w K mg base CX0 1 "_law_bound" lS5 spBndL)(m_isinstance:mg "isinstance"=nO)(m_str:mg "str"=nO):FnOk P w K mg base CX0 2 f fd lS5 spNewL:=by
 refine F.by scNL ?_ ?_
 .rintro _ _ _ _ ⟨_,_,_,_,_,rfl,_⟩;rfl
 rintro _ _ _ _ H vs _ _ hr ⟨l,q0,ws,cs,ps,rfl,hl,aw,h0,hz,hz2,hnd,hno,q⟩;refine⟨_,
  (zh (yu ["_law_piece"] (i:=2) scNL.nd rfl (Or.inl rfl) rfl (zU K !0) (λ_ _ _ _ _=>(gN 5 ndNL)) (λ_ _ _ _ _=>(yD (tN zJ (zj K !5) zu))) (λ_ _ _ _ _=>(zj K !5)))
  (zh (sE 3 scNL.nd (cA GB hr (jA2 (!0) !1)))
  (zh (z5 PassesOwn.never rfl (zU K !2) (gN 4 scNL.nd)
   (zi (zF (jW.pt (yI (yv (zS (zG (zR K) rfl m_isinstance uI (jA2 (!4) (yt (v:=.ty "str") rfl m_str PyProof.Rows.boot_str rfl))))) (yI (Zh K (!4) !3) (yG (tN vJ (yO uE PySem.F.slot_list_count PySem.F.type_list_count VB (!2) (jA1 !4)) zp)))))
    (zi (zt yC))  zw)))
  (zi (zt yC))))),?_⟩
 have sl:=zN;refine¬⟨l,rfl,⟨_,SqL.of hl⟩,yy (xs:=ws) (λi τ zs H'=>H=H'/\(∃y,τ=[sR l,sR q0,nO,nO,nO,y])/\zs=((cs.take i).flatMap Hc.hn).map V.str) ⟨rfl,⟨nO,rfl⟩,rfl⟩ (λi τ zs H' _ h=>SqL.of (h.1 ▸ hl)) ?_ ?_⟩
 .rintro i v τ zs H2 hv ⟨rfl,⟨y,rfl⟩,rfl⟩
  obtain⟨c,hc,hI⟩:=All2.get aw hv;obtain⟨p,t,rs,rfl,h1,-,g1,-,-,g2⟩:=jk hI;rw[yT _ hc];by_cases c1:t="hold"
  .subst c1
   obtain⟨x,rs',rfl,e2⟩:=g1 rfl;refine¬(ixT h1 aI0 ⟨rfl,¬(iteT ¬(ixT h1 aI1 ⟨?_,rfl,⟨_,rfl⟩,by rw[e2,ur];rfl⟩))⟩)
   have:=QI (cs.take i)
   rw[uv]at this;rw[ub];lia
  .refine¬(ixT h1 aI0 ⟨rfl,¬(iteE (eO λz=>c1 (V.str.inj z)) ⟨rfl,⟨_,rfl⟩,by rw[g2 c1,u7]⟩)⟩)
 rintro τ zs H2 ⟨rfl,_,rfl⟩ l1 f1;rw[um (by rw[All2.len aw];exact uk _)];have s1:=zn (o:=.lst ((cs.flatMap Hc.hn).map V.str)) f1;have e1:=uX9 (H:=H) (a:=l1) (o:=.lst ((cs.flatMap Hc.hn).map V.str));dsimp only[U7]
 generalize upd H l1 (.lst ((cs.flatMap Hc.hn).map V.str))=H1 at *;refine¬(¬⟨l,q0,ws,cs,ps,rfl,s1 _ _ hl,aw.imp λ_ _ z=>z.keep (.of s1),s1 _ _ h0,hz,λH2 r2 s2 f2 e2=>?_⟩);have s12:=s1.trans s2;refine¬⟨l1,rfl,⟨_,SqL.of (s2 _ _ e1)⟩,xm (xs:=(cs.flatMap Hc.hn).map V.str) (λi σ H'=>H2=H'/\∃y,σ=[sR l,sR q0,sR l1,sR r2,y]) ⟨rfl,_,rfl⟩ (λi σ H' _ h=>SqL.of (h.1 ▸ s2 _ _ e1)) ?_ ?_⟩
 .rintro j v σ H3 hv ⟨rfl,y,rfl⟩
  obtain⟨t,ht,rfl⟩:=L2.gM hv;have hm:=uu ht;refine¬⟨_,_,_,tU,rfl,.str t,rfl,¬(iteF ?_)⟩;refine¬(¬⟨r2,¬⟨.inl (SqL.of e2),rfl,vc,¬(iteE (show inV _ _=fO by rw[WG];exact eO (hno t hm)) ?_)⟩⟩);refine¬⟨.inl ⟨rfl,_,SqL.of (s2 _ _ e1)⟩,¬⟨l1,_,t,rfl,rfl,s2 _ _ e1,(zE rfl rfl ¬(iteE (eO ?_) (nxtC ⟨rfl,_,rfl⟩)))⟩⟩
  have:=List.nodup_iff_count.mp hnd t
  lia
 .rintro σ H3 ⟨rfl,y,rfl⟩
  exact q _ s12
def Nwd(m k:Nat)(l:lS):Prop:=l.Nodup/\m<=k/\∀n∈l,∃z j,n=nnm z j/\m < j/\j<=k
theorem Nwd.nil{k:Nat}(h:m<=k):Nwd m k []:=⟨List.Pairwise.nil,h,λn hn=>by cases hn⟩
theorem Nwd.app{a b c:Nat}{l r:lS}(h:Nwd a b l)(g:Nwd b c r):Nwd a c (l++r):=by
 refine⟨List.nodup_append.mpr ⟨h.1,g.1,λx hx y hy e=>?_⟩,uF h.2.1 g.2.1,λn hn=>?_⟩
 .obtain⟨z,j,e1,_,j2⟩:=h.2.2 x hx
  obtain⟨z',k,e2,k1,_⟩:=g.2.2 y hy
  have:=WA (e1.symm.trans (e.trans e2))
  lia
 .rcases uy.mp hn with hn|hn
  .obtain⟨z,j,e,j1,j2⟩:=h.2.2 n hn
   exact⟨z,j,e,j1,uF j2 g.2.1⟩
  .obtain⟨z,j,e,j1,j2⟩:=g.2.2 n hn
   exact⟨z,j,e,Us h.2.1 j1,j2⟩
theorem Nwd.one(z:Str)(m:Nat):Nwd m (m+1) [nnm z (m+1)]:=⟨uV.mpr ⟨ba,List.Pairwise.nil⟩,b8,λn hn=>⟨z,m+1,ut.mp hn,b8,b8⟩⟩
theorem ZM{fr:lS}:∀(xs st:lS)(m:Nat),Nwd m (spr fr st xs m).2.2 ((spr fr st xs m).2.1.map (·.1))
 |[],st,m=>by unfold spr;exact .nil (uk _)
 |x::xs,st,m=>by
  unfold spr;split
  .exact ZM xs _ m
  .exact(Nwd.one x m).app (ZM xs _ (m+1))
theorem WH(fr xs:lS)(m:Nat):Nwd m (spn fr xs m).2.2 ((spn fr xs m).2.1.map (·.1)):=by
 rw[Ww];exact ZM xs [] m
def hs(c:Hc):lS:=c.pcs.flatMap Hc.hn
theorem YT(c:Hc):∀ds:lS,hs (wD ds c)=hs c
 |[]=>rfl
 |d::ds=>by
  show hs (.drop d (wD ds c))=_;rw[<- YT c ds];unfold hs;rw[Hc.pcs]
  rfl
theorem QJ(c:Hc):∀ps:List (Str×Str),hs (wH ps c)=ps.map (·.1)++hs c
 |[]=>rfl
 |p::ps=>by
  show hs (.hold p.1 p.2 (wH ps c))=_;rw[uB,List.cons_append,<- QJ c ps];unfold hs;rw[Hc.pcs]
  rfl
mutual
theorem jm(ns:lS)(ow:Str->List Bool):∀(b:Bd)(l:lS)(m:Nat),Nwd m (hB ns ow b l m).2 (hs (hB ns ow b l m).1)
 |.give x,l,m=>by
  rw[hB];dsimp only
  rw[YT,QJ]
  have:hs (.give ((spn (rO ns (.give x) l) [x] m).1.getD 0 ""))=[]:=by unfold hs;rw[Hc.pcs];rfl
  rw[this,u7];exact WH _ _ _
 |.lt x d b,l,m=>by
  rw[hB];dsimp only
  rw[YT,QJ];refine Nwd.app (WH _ _ _) ?_;have h:=jm ns ow b (stL (rO ns (.lt x d b) l) (spL ns ow d b (rO ns (.lt x d b) l) m).1 x) (spL ns ow d b (rO ns (.lt x d b) l) m).2.2;unfold hs at h ⊢;rw[Hc.pcs];exact h
 |.iff x a b,l,m=>by
  rw[hB];dsimp only
  rw[YT];have h:=(jm ns ow a (rO ns (.iff x a b) l) m).app (jm ns ow b (rO ns (.iff x a b) l) (hB ns ow a (rO ns (.iff x a b) l) m).2);unfold hs at h ⊢;rw[Hc.pcs,Uf,Uy];exact h
 |.case x as,l,m=>by
  rw[hB];dsimp only
  rw[YT];have h:=QK ns ow x as (rO ns (.case x as) l) m;unfold hs;rw[Hc.pcs];exact h
theorem QK(ns:lS)(ow:Str->List Bool)(x:Str):∀(as:Arms)(R:lS)(m:Nat),Nwd m (hA ns ow x R as m).2 ((hA ns ow x R as m).1.pcs.flatMap Hc.hn)
 |.nil,R,m=>by rw[hA,Ha.pcs];exact .nil (uk _)
 |.cons t xs b r,R,m=>by
  rw[hA];dsimp only
  rw[Ha.pcs,Uy];exact(jm ns ow b _ m).app (QK ns ow x r R _)
end
def bs(c:Hc):lS:=c.pcs.flatMap Hc.bn
theorem YU(c:Hc):∀ds:lS,bs (wD ds c)=bs c
 |[]=>rfl
 |d::ds=>by
  show bs (.drop d (wD ds c))=_;rw[<- YU c ds];unfold bs;rw[Hc.pcs]
  rfl
theorem QL(c:Hc):∀ps:List (Str×Str),bs (wH ps c)=bs c
 |[]=>rfl
 |p::ps=>by
  show bs (.hold p.1 p.2 (wH ps c))=_;rw[<- QL c ps];unfold bs;rw[Hc.pcs]
  rfl
mutual
theorem YV{o:Wo}{ns ns':lS}{ow:Str->List Bool}:∀(b:Bd)(l:lS)(m:Nat),LxB o ns' b->∀y∈bs (hB ns ow b l m).1,y∈ns'
 |.give x,l,m,h,y,hy=>by
  rw[hB]at hy;dsimp only at hy
  rw[YU,QL]at hy;unfold bs at hy;rw[Hc.pcs]at hy;cases hy
 |.lt x d b,l,m,h,y,hy=>by
  rw[hB]at hy;dsimp only at hy
  rw[YU,QL]at hy;have g:=YV (ns:=ns) (ow:=ow) b (stL (rO ns (.lt x d b) l) (spL ns ow d b (rO ns (.lt x d b) l) m).1 x) (spL ns ow d b (rO ns (.lt x d b) l) m).2.2 h.2 y;unfold bs at hy g;rw[Hc.pcs]at hy;rcases uq.mp hy with rfl|hy
  .exact h.1.1
  .exact g hy
 |.iff x a b,l,m,h,y,hy=>by
  rw[hB]at hy;dsimp only at hy
  rw[YU]at hy;have g:=YV (ns:=ns) (ow:=ow) a (rO ns (.iff x a b) l) m h.2.1 y;have g2:=YV (ns:=ns) (ow:=ow) b (rO ns (.iff x a b) l) (hB ns ow a (rO ns (.iff x a b) l) m).2 h.2.2 y;unfold bs at hy g g2;rw[Hc.pcs,Uf,Uy]at hy;exact(uy.mp hy).elim (λz=>by cases z) λz=>(uy.mp z).elim g g2
 |.case x as,l,m,h,y,hy=>by
  rw[hB]at hy;dsimp only at hy
  rw[YU]at hy;have g:=zb8 (ns:=ns) (ow:=ow) x as (rO ns (.case x as) l) m h.2 y;unfold bs at hy;rw[Hc.pcs,Uf]at hy;exact g hy
theorem zb8{o:Wo}{ns ns':lS}{ow:Str->List Bool}(x:Str):∀(as:Arms)(R:lS)(m:Nat),LxA o ns' as->∀y∈(hA ns ow x R as m).1.ls.flatMap (·.2.1)++(hA ns ow x R as m).1.pcs.flatMap Hc.bn,y∈ns'
 |.nil,R,m,h,y,hy=>by rw[hA]at hy;cases hy
 |.cons t xs b r,R,m,h,y,hy=>by
  rw[hA]at hy;dsimp only at hy
  rw[Ha.pcs,Ha.ls,Uy,Uf]at hy;have g:=YV (ns:=ns) (ow:=ow) b (stA (tkB ns x R b) x R xs) m h.2.1 y;have g2:=zb8 (ns:=ns) (ow:=ow) x r R (hB ns ow b (stA (tkB ns x R b) x R xs) m).2 h.2.2 y;rcases uy.mp hy with hy|hy
  .exact(uy.mp hy).elim (h.1.2 y) λz=>g2 (uX _ z)
  .exact(uy.mp hy).elim g λz=>g2 (uK _ z)
end
mutual
theorem vk:∀c:Hc,(bs c).length<=c.sz
 |.give x=>by unfold bs;rw[Hc.pcs];exact uS _
 |.lt x d b=>by have:=vk b;unfold bs at this ⊢;rw[Hc.pcs,Hc.sz,Uf,ud];show 1+_<=_;lia
 |.hold x d b=>by have:=vk b;unfold bs at this ⊢;rw[Hc.pcs,Hc.sz,Uf,ud];show 0+_<=_;lia
 |.drop x b=>by have:=vk b;unfold bs at this ⊢;rw[Hc.pcs,Hc.sz,Uf,ud];show 0+_<=_;lia
 |.iff x a b=>by have:=vk a;have:=vk b;unfold bs at *;rw[Hc.pcs,Hc.sz,Uf,ud,Uy,ud];show 0+_<=_;lia
 |.case x as=>by have:=QM as;unfold bs;rw[Hc.pcs,Hc.sz,Uf,ud];show(as.ls.flatMap (·.2.1)).length+_<=_;lia
theorem QM:∀as:Ha,(as.ls.flatMap (·.2.1)).length+(as.pcs.flatMap Hc.bn).length<=as.sz
 |.nil=>uk _
 |.cons t xs m b r=>by
  have:=vk b
  have:=QM r
  unfold bs at *;rw[Ha.pcs,Ha.sz,Ha.ls,Uf,ud,Uy,ud];show xs.length+_+_<=_;lia
end
def Sm:Nat->Hp->V->V->Prop
 |0,_,_,_=>False
 |n+1,H,x,y=>(x=y/\((∃i,x=.int i)\/(∃s,x=.str s)\/∃b,x=.bl b))\/∃a b xs ys,x=.ref a/\y=.ref b/\H a=sO (.tup xs)/\H b=sO (.tup ys)/\xs.length=ys.length/\xs.length<=1000000/\∀(i:Nat)(u v:V),xs[i]?=sO u->ys[i]?=sO v->Sm n H u v
theorem Sm.keep{H H':Hp}(t:Tups H H'):∀{n:Nat}{x y:V},Sm n H x y->Sm n H' x y
 |0,_,_,h=>h.elim
 |n+1,_,_,.inl h=>.inl h
 |n+1,_,_,.inr ⟨a,b,xs,ys,e1,e2,h1,h2,h3,h4,h5⟩=>.inr ⟨a,b,xs,ys,e1,e2,t _ _ h1,t _ _ h2,h3,h4,λi u v g1 g2=>Sm.keep t (h5 i u v g1 g2)⟩
inductive spSm(n:Nat)(vs:List V)(H:Hp)(Q:VK)(e_3:XK):Prop
 |mk (x:V):∀y:V,(vs=[x,y])->(Sm n H x y)->(∀H',Same H H'->Q (.bl tU) H')->spSm n vs H Q e_3
theorem scSm:FnScope lS11 lS11 (zq Zs):=.ok
theorem ndSm:(["_law_found","_law_due","_law_one","_law_other"]:lS).Nodup:=be
theorem zdQ(F:Fun K "_law_same" "_law_same" Zs f fd):FnOk P w K mg base CX0 (1+0) f fd lS11 (spSm 0):=by
 refine F.by (k:=0) scSm (λvs H Q E h=>?_) (λcdv A outer s H vs Q E hr h=>?_)
 .obtain⟨x,y,rfl,_⟩:=h
  rfl
 obtain⟨x,y,rfl,h,_⟩:=h;exact h.elim
theorem zex(F:Fun K "_law_same" "_law_same" Zs f fd)(GS:Ca P w K mg base CX0 (1+n) "_law_same" lS11 (spSm n))(m_isinstance:mg "isinstance"=nO)(m_tuple:mg "tuple"=nO)(m_str:mg "str"=nO)(m_bool:mg "bool"=nO)(m_int:mg "int"=nO)(m_len:mg "len"=nO)(m_zip:mg "zip"=nO)(m_all:mg "all"=nO):FnOk P w K mg base CX0 (1+(n+1)) f fd lS11 (spSm (n+1)):=by
 refine F.by (k:=1+n) scSm (λvs H Q E h=>?_) (λcdv A outer s H vs Q E hr h=>?_)
 .obtain⟨x,y,rfl,_⟩:=h
  rfl
 obtain⟨x,y,rfl,h,q⟩:=h;refine⟨_,
  (zh (zF (zS (zG (zR K) rfl m_isinstance uI (jA2 (!1) (yt (v:=.ty "tuple") rfl m_tuple uo rfl))))
   (zh (zF (jW.pt (yI (yv (zS (zG (zR K) rfl m_isinstance uI (jA2 (!0) (yt (v:=.ty "tuple") rfl m_tuple uo rfl))))) (yG (tN xp (zG (zB K) rfl m_len uP (jA1 !0)) (zG (zB K) rfl m_len uP (jA1 !1))))))
    (zi (zt yC)) zw)
   (zi (zt (zG (Zd rfl) rfl m_all PyProof.Rows.boot_all (jA1 (yn ["_law_one","_law_other"] rfl (yR K rfl m_zip (jA2 (!0) !1)) (λ_ _ _ _ _=>(zW K (n:=2) rfl (zx (gN 2 ndSm) (zx (gN 3 ndSm) zV)))) (λ_ _ _ _ _=>zZ) (λ_ _ _ _ _=>(cA GS hr (jA2 (!2) !3))))))))) zw)
  (zh (zF (zS (zG (zR K) rfl m_isinstance uI (jA2 (!1) (yt (v:=.ty "str") rfl m_str PyProof.Rows.boot_str rfl))))
   (zi (zt (vH (zG (zR K) rfl m_isinstance uI (jA2 (!0) (yt (v:=.ty "str") rfl m_str PyProof.Rows.boot_str rfl))) (wZ (yM zJ (!0) (!1) (xv _)))))) zw)
  (zh (zF (zS (zG (zR K) rfl m_isinstance uI (jA2 (!1) (yt (v:=.ty "bool") rfl m_bool PyProof.Rows.boot_bool rfl))))
   (zi (zt (vH (zG (zR K) rfl m_isinstance uI (jA2 (!0) (yt (v:=.ty "bool") rfl m_bool PyProof.Rows.boot_bool rfl))) (wZ (yM zJ (!0) (!1) (xv _)))))) zw)
  (zi (zt (vH (zG (zR K) rfl m_isinstance uI (jA2 (!0) (yt (v:=.ty "int") rfl m_int PyProof.Rows.boot_int rfl))) (vH (V1 (zG (zR K) rfl m_isinstance uI (jA2 (!0) (yt (v:=.ty "bool") rfl m_bool PyProof.Rows.boot_bool rfl)))) (wZ (yM zJ (!0) (!1) (xv _)))))))))),?_⟩
 have sl:=zN;rcases h with⟨rfl,⟨i,rfl⟩|⟨z,rfl⟩|⟨z,rfl⟩⟩|⟨a,b,xs,ys,rfl,rfl,ha,hb,hl,hn,hk⟩
 .refine¬⟨_,_,_,_,rfl,.int _,rfl,¬(iteF (nxtC ?_))⟩
  refine¬⟨_,_,_,_,rfl,.int _,rfl,¬(iteF (nxtC ?_))⟩;refine¬⟨_,_,_,_,rfl,.int _,rfl,¬(iteF (nxtC ?_))⟩;refine¬⟨_,_,_,tU,rfl,.int _,rfl,¬(iteT ¬⟨_,_,_,fO,rfl,.int _,rfl,¬(¬(iteT ?_))⟩)⟩;refine¬(¬⟨rfl,?_⟩);rw[decide_eq_true rfl];exact q _ (Same.refl _)
 .refine¬⟨_,_,_,_,rfl,.str _,rfl,¬(iteF (nxtC ?_))⟩
  refine¬⟨_,_,_,_,rfl,.str _,rfl,¬(iteT ?_)⟩;refine¬⟨_,_,_,tU,rfl,.str _,rfl,¬(iteT ?_)⟩;refine¬(¬⟨rfl,?_⟩);rw[decide_eq_true rfl];exact q _ (Same.refl _)
 .refine¬⟨_,_,_,_,rfl,.bl _,rfl,¬(iteF (nxtC ?_))⟩
  refine¬⟨_,_,_,_,rfl,.bl _,rfl,¬(iteF (nxtC ?_))⟩;refine¬⟨_,_,_,_,rfl,.bl _,rfl,¬(iteT ?_)⟩;refine¬⟨_,_,_,tU,rfl,.bl _,rfl,¬(iteT ?_)⟩;refine¬(¬⟨rfl,?_⟩);rw[decide_eq_true rfl];exact q _ (Same.refl _)
 .refine¬⟨_,_,_,_,rfl,.tup hb,rfl,¬(iteT ?_)⟩
  refine¬⟨_,_,_,_,rfl,.tup ha,rfl,¬(iteF ¬⟨a,¬⟨.inr (SqT.of ha),¬⟨b,¬⟨.inr (SqT.of hb),rfl,¬?_⟩⟩⟩⟩)⟩;rw[hl];rw[show(!decide (V.int (ys.length:Int)=V.int (ys.length:Int)))=fO by rw[decide_eq_true rfl];rfl];refine iteF (nxtC ?_);refine zv rfl rfl ⟨a,b,fO,fO,_,_,rfl,SqK.t ha,SqK.t hb,vS (xs:=xs) (ys:=ys) hl (λj τ zs H'=>Same H H'/\(∃u v,τ=[sR a,sR b,u,v])/\zs=(uT j tU).map V.bl) ⟨Same.refl _,⟨nO,nO,rfl⟩,rfl⟩ (λj τ zs H' _ h=>⟨SqK.t (h.1 _ _ ha),SqK.t (h.1 _ _ hb)⟩) ?_ ?_⟩
  .rintro i v1 v2 T τ zs H3 g1 g2 hT ⟨s3,⟨u,v,rfl⟩,rfl⟩
   have il:=(uf.mp g1).1;have s4:=s3.new (o:=.tup [v1,v2]) hT;refine⟨T,¬⟨SqT.of uX9,rfl,_,_,rfl,_,_,rfl,rfl,?_⟩⟩;generalize upd H3 T (.tup [v1,v2])=H4 at *;refine zv rfl rfl ⟨v1,v2,rfl,Sm.keep (.of s4) (hk i v1 v2 g1 g2),λH5 s5=>⟨by rw[ub,Uz];lia,s4.trans s5,⟨_,_,rfl⟩,?_⟩⟩;rw[List.replicate_succ',ur]
   rfl
  rintro τ zs H5 ⟨s5,_,rfl⟩ l5 h5;refine⟨l5,¬⟨SqL.of uX9,?_⟩⟩;rw[show(uT xs.length tU).all _root_.id=tU by simp];exact q _ (s5.new h5)
theorem Sm.of{ys:List V}(ha:H a=sO (.tup xs))(hb:H b=sO (.tup ys))(h:All2 (Sm n H) xs ys)(hl:xs.length<=1000000):Sm (n+1) H (.ref a) (.ref b) :=
 .inr ⟨a,b,xs,ys,rfl,rfl,ha,hb,All2.len h,hl,λi u v e1 e2=>by
  obtain⟨w,hw,hr⟩:=All2.getl h e1;rw[hw]at e2;cases e2;exact hr⟩
theorem Sm.str:Sm (n+1) H (.str z) (.str z):=.inl ⟨rfl,.inr (.inl ⟨_,rfl⟩)⟩
theorem Sm.int{z:Int}:Sm (n+1) H (.int z) (.int z):=.inl ⟨rfl,.inl ⟨_,rfl⟩⟩
theorem ZO{xs:lS}(ha:H a=sO (.tup (xs.map V.str)))(hb:H b=sO (.tup (xs.map V.str)))(hl:xs.length<=1000000):Sm (n+2) H (.ref a) (.ref b):=by
 refine .of ha hb ?_ (by rw[ub];exact hl);clear ha hb hl
 induction xs with
 |nil=>exact .nil
 |cons x xs ih=>exact .cons .str ih
theorem zdR{xs:List Bool}(ha:H a=sO (.tup (xs.map V.bl)))(hb:H b=sO (.tup (xs.map V.bl)))(hl:xs.length<=1000000):Sm (n+2) H (.ref a) (.ref b):=by
 refine .of ha hb ?_ (by rw[ub];exact hl);clear ha hb hl
 induction xs with
 |nil=>exact .nil
 |cons x xs ih=>exact .cons (.inl ⟨rfl,.inr (.inr ⟨_,rfl⟩)⟩) ih
theorem zey{q:aO}(hp:IsPd H d p)(hq:IsDe H d q):Sm (n+3) H (.ref p) (.ref q):=by
 cases hq with
 |num h2=>exact .of hp h2 (.cons .str (.cons .int .nil)) (by show 2<=1000000;decide)
 |op h2=>exact .of hp h2 (.cons .str (.cons .str (.cons .str (.cons .str .nil)))) (by show 4<=1000000;decide)
 |app c h2 g2 =>
  obtain⟨q,h1,g1⟩:=hp;exact .of h1 h2 (.cons .str (.cons .str (.cons (ZO g1 g2 b8) .nil))) (by show 3<=1000000;decide)
mutual
theorem YW{H:Hp}:∀(b:Bd)(p q:aO)(n:Nat),IsP H b p->IsB H b q->3*b.dp+3<=n->b.sz<=1000000->Sm n H (.ref p) (.ref q)
 |.give x=>λp q n h1 h hn hz=>by
  cases h with
  |give h2 =>
   obtain⟨n,rfl⟩:∃m,n=m+2:=⟨n-2,b8⟩;exact .of h1 h2 (.cons .str (.cons .str .nil)) (by show 2<=1000000;decide)
 |.lt x d b=>λp q n h1 h hn hz=>by
  obtain⟨_,_,h1,d1,b1⟩:=h1;cases h with
  |lt h2 d2 b2 =>
   rw[Bd.dp]at hn;rw[Bd.sz]at hz;obtain⟨n,rfl⟩:∃m,n=m+4:=⟨n-4,b8⟩;exact .of h1 h2 (.cons .str (.cons .str (.cons (zey d1 d2) (.cons (YW b _ _ _ b1 b2 b8 b8) .nil)))) (by show 4<=1000000;decide)
 |.iff x a b=>λp q n h1 h hn hz=>by
  obtain⟨_,_,h1,a1,b1⟩:=h1;cases h with
  |iff h2 a2 b2 =>
   rw[Bd.dp]at hn;rw[Bd.sz]at hz;obtain⟨n,rfl⟩:∃m,n=m+4:=⟨n-4,b8⟩;exact .of h1 h2 (.cons .str (.cons .str (.cons (YW a _ _ _ a1 a2 b8 b8) (.cons (YW b _ _ _ b1 b2 b8 b8) .nil)))) (by show 4<=1000000;decide)
 |.case x as=>λp q n h1 h hn hz=>by
  obtain⟨_,ts,h1,q1,a1⟩:=h1;cases h with
  |@case _ _ qs _ _ h2 q2 l2 a2 =>
   rw[Bd.dp]at hn;rw[Bd.sz]at hz;obtain⟨n,rfl⟩:∃m,n=m+4:=⟨n-4,b8⟩;have aa:=zb9 as _ _ (n+2) a1 a2 b8 b8
   have:=XL as
   have:=All2.len a2.al
   have:=All2.len aa
   rw[ub,ub]at this;exact .of h1 h2 (.cons .str (.cons .str (.cons (.of q1 q2 aa bc) .nil))) (by show 3<=1000000;decide)
theorem zb9{H:Hp}:∀(as:Arms)(ps qs:List aO)(n:Nat),IsPA H as ps->IsA H as qs->3*as.dp+4<=n->as.sz<=1000000->All2 (Sm n H) (ps.map V.ref) (qs.map V.ref)
 |.nil=>λ_ _ _ h g _ _=>by
  cases g;rw[show _=[]from h];exact .nil
 |.cons t ns b r=>λps qs n h g hn hz=>by
  obtain⟨_,_,_,us,e,h1,n1,b1,r1⟩:=h;cases g with
  |cons h2 n2 b2 r2 =>
   rw[Arms.dp]at hn;rw[Arms.sz]at hz;obtain⟨n,rfl⟩:∃m,n=m+3:=⟨n-3,b8⟩;rw[e];exact .cons (.of h1 h2 (.cons .str (.cons (ZO n1 n2 b8) (.cons (YW b _ _ _ b1 b2 b8 b8) .nil))) (by show 3<=1000000;decide)) (zb9 r _ _ _ r1 r2 b8 b8)
end
theorem QN{l:List (Str×Int)}(h:Tps H l ts)(hp:H p=sO (.tup (ts.map V.ref)))(hl:l.length<=1000):Sm (n+3) H (.ref p) (.ref p):=by
 have e:=h.len;refine .inr ⟨p,p,(zE rfl rfl ⟨hp,hp,rfl,bc,λi u v g1 g2=>?_⟩)⟩;rw[g1]at g2;cases g2;obtain⟨t,ht,rfl⟩:=L2.gM g1;obtain⟨a,k,_,e2⟩:=h.get ht;exact .of e2 e2 (.cons .str (.cons .int .nil)) (by show 2<=1000000;decide)
def cdF(ow:Str->List Bool)(d:Df):Hc:=(hB (nsOf d) ow d.b (upN d.ns (ow d.z)) 0).1
structure RtOk(ow:Str->List Bool)(N:lS)(d:Df):Prop where
 ok:(cdF ow d).Ok N ow
 dp:(cdF ow d).dp<=225
 sz:(cdF ow d).sz<=9000000
 bk:(cdF ow d).bk id=d.b
 nd:(hs (cdF ow d)).Nodup
 dt:∀n∈hs (cdF ow d),46∈cl n
 no:∀n∈hs (cdF ow d),n∉d.ns++bs (cdF ow d)
 nl:d.ns.length<=3
 ol:(ow d.z).length=d.ns.length
 bz:d.b.sz<=1000000
 bd:d.b.dp<=14
inductive spRight(vs:List V)(H:Hp)(Q:VK)(e_3:XK):Prop
 |mk (p od r pd q6:aO) (v0:V) (ps rs:List aO) (ds:List Df) (ow:Str->List Bool):∀N:lS,(vs=[.ref p,.ref od,.ref r])->(H p=sO (.tup [v0,.ref pd]))->(H pd=sO (.tup (ps.map V.ref)))->(IsFs H ds ps)->(H r=sO (.tup [v0,.ref q6]))->(H q6=sO (.tup (rs.map V.ref)))->(All2 (IsHF H ow) ds rs)->(OwA H od ow (ds.map (·.z)))->(Sm 60 H v0 v0)->(ds.length<=10)->((∀d∈ds,RtOk ow N d))->(∀H',Same H H'->Q (.bl tU) H')->spRight vs H Q e_3
theorem scRt:FnScope ["_law_program_here","_law_owns_here","_law_code","_law_one","_law_got","_law_pieces_here"] lS19 (zq Zo):=.ok
theorem QO(F:Fun K "_law_right" "_law_right" Zo f fd)(GS:Ca P w K mg base CX0 61 "_law_same" lS11 (spSm 60))(GP:Ca P w K mg base CX0 226 "_law_pieces" ["_law_body_here"] (spPcs 225))(GC:Ca P w K mg base CX0 2 "_law_clean" ["_law_pieces_here"] spClean)(GN':Ca P w K mg base CX0 2 "_law_new" lS5 spNewL)(GB:Ca P w K mg base CX0 227 "_law_back" lS8 (spBack 225))(m_isinstance:mg "isinstance"=nO)(m_tuple:mg "tuple"=nO)(m_len:mg "len"=nO)(m_zip:mg "zip"=nO):FnOk P w K mg base CX0 228 f fd lS19 spRight:=by
 refine F.by scRt ?_ ?_
 .rintro _ _ _ _ ⟨_,_,_,_,_,_,_,_,_,_,_,rfl,_⟩;rfl
 rintro _ _ _ _ H vs _ _ hr ⟨p,od,r,pd,q6,v0,ps,rs,ds,ow,N,rfl,hp,hpd,hF,hr6,hq6,hA,hO,hS,hn,hD,q⟩;have hr1:Room 1 _:=hr.mono b9;have hr2:Room 2 _:=hr.mono b9;have hr61:Room 61 _:=hr.mono b9;have hrP:Room 226 _:=hr.mono b9;have hrB:Room 227 _:=hr.mono b9;refine⟨_,
  (zh (zF (jW.pt (yI (yv (zS (zG (zR K) rfl m_isinstance uI (jA2 (!2) (yt (v:=.ty "tuple") rfl m_tuple uo rfl))))) (yI (tN xp (zG (zB K) rfl m_len uP (jA1 !2)) zp) (yG (yv (zS (cA GS hr61 (jA2 (zj K !2) (zj K !0)))))))))
   (zi (zt yC))  zw)
  (zh (zF (jW.pt (yI (yv (zS (zG (zR K) rfl m_isinstance uI (jA2 (zj K !2) (yt (v:=.ty "tuple") rfl m_tuple uo rfl))))) (yG (tN xp (zG (zB K) rfl m_len uP (jA1 (zj K !2))) (zG (zB K) rfl m_len uP (jA1 (zj K !0)))))))
   (zi (zt yC))  zw)
  (zh (z5 PassesOwn.never rfl (yR K rfl m_zip (jA2 (zj K !0) (zj K !2))) (zW K rfl (zx (gN 3 scRt.nd) (zx (gN 4 scRt.nd) zV)))
   (zh (zF (jW.pt (yI (tN xp (zG (zB K) rfl m_len uP (jA1 !4)) zp) (yG (yv (zS (cA GS hr61 (jA2 (yJ wf (!4) yU (yV zp)) (zy (jA3 (zj K !3) (zj K !3) (wO hr1 (!1) (zj K !3) ))))))))))
    (zi (zt yC))  zw)
   (zh (sE 5 scRt.nd (cA GP hrP (jA1 (zj K !4))))
   (zh (zF (jW.pt (yI (yv (zS (cA GC hr2 (jA1 !5)))) (yG (yv (zS (cA GN' hr2 (jA2 (!5) (zj K !3))))))))
    (zi (zt yC))  zw)
   (zi (zF (yv (zS (cA GS hr61 (jA2 (cA GB hrB (jA2 (zj K !4) wM)) (zj K !3)))))
    (zi (zt yC))  zw))))))
  (zi (zt yC))))),?_⟩
 have sl:=zN;have fl:=hF.len;have al:=All2.len hA;refine¬⟨_,_,_,tU,rfl,.tup hr6,rfl,¬(iteF ?_)⟩;refine¬⟨r,¬⟨.inr (SqT.of hr6),rfl,¬(iteF ?_)⟩⟩;refine¬(ixT hr6 aI0 ¬(ixT hp aI0 ⟨v0,v0,rfl,hS,λH1 s1=>¬(iteF (nxtC ?_))⟩));refine¬(ixT (s1 _ _ hr6) aI1 ⟨_,_,_,tU,rfl,.tup (s1 _ _ hq6),rfl,¬(iteF ?_)⟩);refine¬(ixT (s1 _ _ hr6) aI1 ⟨q6,¬⟨.inr (SqT.of (s1 _ _ hq6)),¬(ixT (s1 _ _ hp) aI1 ⟨pd,¬⟨.inr (SqT.of (s1 _ _ hpd)),rfl,¬(iteE (show(!decide (_=_))=fO by rw[decide_eq_true (by rw[ub,ub,<- fl,<- al])];rfl) (nxtC ?_))⟩⟩)⟩⟩);refine¬(ixT (s1 _ _ hp) aI1 ¬(ixT (s1 _ _ hr6) aI1 ⟨pd,q6,fO,fO,_,_,rfl,SqK.t (s1 _ _ hpd),SqK.t (s1 _ _ hq6),x8 (k:=fO) (m:=fO) (xs:=ps.map V.ref) (ys:=rs.map V.ref) bp (λi σ H'=>Same H H'/\(∃y3 y4 y5,σ=[sR p,sR od,sR r,y3,y4,y5])) ⟨s1,nO,nO,nO,rfl⟩ (λi σ H' _ h=>⟨SqK.t (h.1 _ _ hpd),SqK.t (h.1 _ _ hq6)⟩) ?_ ?_⟩))
 .rintro i v1 v2 T σ H2 hv1 hv2 hT ⟨s2,y3,y4,y5,rfl⟩
  rw[uh]at hv1 hv2;obtain⟨o1,ho1,rfl⟩:=ug.mp hv1;obtain⟨o2,ho2,rfl⟩:=ug.mp hv2;obtain⟨d,hd,hFd⟩:=hF.get ho1;obtain⟨d',hd',hHF⟩:=All2.get hA ho2;rw[hd]at hd';cases hd';have hm:=uu hd;have k:=hD d hm;have s3:=s2.new (o:=.tup [.ref o1,.ref o2]) hT;refine⟨T,¬⟨SqT.of uX9,rfl,_,_,rfl,_,_,rfl,rfl,?_⟩⟩;dsimp only[U7]
  generalize upd H2 T (.tup [.ref o1,.ref o2])=H3 at *;show(tSeq _ _:TS) _ _ _;refine Jn λE_ hE_=>?_;obtain⟨pq,pb,j1,j2,j3⟩:=(hFd.keep (.of s3)).ex;obtain⟨q1,q2,vb,g1,g2,g3,g4⟩:=hHF.keep (.of s3);have hO3:OwA H3 od ow (ds.map (·.z)):=hO.keep λb u e _ _ _=>s3 _ _ e;obtain⟨kv,hod,hov⟩:=id hO3;obtain⟨ao,ga,hao⟩:=hov d.z (UH hm);have dg:DGet H3 od (kV (.inr d.z)) (sO (.ref ao)):=ga ▸ DGet.k hod;refine¬⟨o2,¬⟨.inr (SqT.of g1),rfl,¬(iteF ?_)⟩⟩;refine¬⟨3,rfl,o2,¬⟨g1,λp4 H4 s4 h4=>?_⟩⟩;have s4:Same H3 H4:=s4;have h4:H4 p4=sO (.tup [.str d.z,.ref q1,.ref q2]):=h4;have dg4:DGet H4 od (kV (.inr d.z)) (sO (.ref ao)):=ga ▸ DGet.k (s4 _ _ hod);refine¬(ixT (s4 _ _ j1) aI0 ¬(ixT (s4 _ _ j1) aI1 ¬(¬(ixT (s4 _ _ j1) aI0 ⟨od,.ref ao,rfl,dg4,sN3,λt5 f5=>?_⟩))));have s5:=zn (o:=.tup [.str d.z,.ref pq,.ref ao]) f5;have s35:=s4.trans s5;have hol:(ow d.z).length<=1000000:=by rw[k.ol];exact uF k.nl b9
  refine⟨_,_,rfl,Sm.of (s5 _ _ h4) uX9 (.cons .str (.cons (ZO (s35 _ _ g2) (s35 _ _ j2) (by have:=k.nl;lia)) (.cons (zdR (s35 _ _ g3) (s35 _ _ hao) hol) .nil))) (by show 3<=1000000;decide),λH6 s6=>¬(iteF (nxtC ?_))⟩;have s36:=s35.trans s6;refine¬(ixT (s36 _ _ g1) aI3 ⟨vb,cdF ow d,ow,N,rfl,g4.keep (.of s36),k.ok,k.dp,uF k.sz b9,λH7 l7 ws s7 f7 e7 a7=>?_⟩);refine¬⟨l7,ws,_,ow,N,rfl,e7,a7,wy k.ok,λH8 s8=>¬(iteF ?_)⟩;have s37:=s36.trans s7;have s38:=s37.trans s8;have n1:=xy (cdF ow d);have n2:=vk (cdF ow d);have n3:=k.sz;have n4:=k.nl;refine¬(¬(ixT (s38 _ _ j1) aI1 ⟨l7,pq,ws,_,d.ns,rfl,s8 _ _ e7,a7.imp λ_ _ z=>z.keep (.of s8),s38 _ _ j2,by rw[ud];show _+(bs (cdF ow d)).length<=_;lia,b8,k.nd,k.no,λH9 s9=>¬(iteF (nxtC ?_))⟩));have s39:=s38.trans s9;refine¬(ixT (s39 _ _ g1) aI3 λl10 f10=>?_);have sn:=zn (o:=.dK []) f10;have s310:=s39.trans sn;refine⟨vb,l10,cdF ow d,[],id,ow,N,rfl,g4.keep (.of s310),k.ok,k.dp,by have:=k.dp;show 0+_<=_;lia,uF k.sz b9,uX9,Dm.nil,λH11 r11 s11 e11=>?_⟩;rw[k.bk]at e11;have s311:=s310.trans s11;subst hE_;refine¬(ixT (s311 _ _ j1) aI2 ⟨_,_,rfl,YW _ _ _ _ e11 (j3.keep (.of s311)) (by have:=k.bd;lia) k.bz,λH12 s12=>¬(iteF (nxtC ⟨s3.trans (s311.trans s12),_,_,_,rfl⟩))⟩)
 .rintro σ H2 ⟨s2,y3,y4,y5,rfl⟩
  exact q H2 s2
end
end GN
namespace L2
open PySem PySem.Spec PyProof.Rows
theorem XQ:(lS20:lS).contains ("keys":Str)=fO:=be
theorem vd:entryFor table "dict.update.loop"=sO Builtin.«dict.update.loop»:=entryFor_of_tree (by kernel_rfl)
theorem xG:plainId "dict.update.loop"=tU:=be
theorem XR:typeLookup (.type "zip") "keys"=pure nO:=am_miss_of_fast be
theorem ve:typeLookup (.type "zip") "__getattr__"=pure nO:=by rw[typeLookup_type,builtinLookup_eq_fast];kernel_rfl
theorem xq:entryFor table "zip.__getattribute__"=sO Builtin.«object.__getattribute__» :=
 entryFor_alias (id':="object.__getattribute__") (by kernel_rfl) be be (by kernel_rfl)
theorem xi(a:aO)(fs:Array aA)(sl:Array (Option aA))(name:Str)(u:Tok)(hmiss:typeLookup (.type "zip") name=pure nO)(hname:(lS20:lS).contains name=fO)(hsz:name.length+100<=sizeLine:=by size_fits):
  Meets (Builtin.«object.__getattribute__» ⟨[.ref a,.str name u],[]⟩) (λA R s=>s.heap.get? a=sO { cls:=.type "zip",dict:=nO,data:=.fields fs,slots:=sl }/\raisesAttr (.ref a) name A R s) :=
 Meets.of_wp λprog w A R s hs=>by
  obtain⟨hp,g,d,tk,os⟩:=s;obtain⟨hx,hs⟩:=hs;have hT:(⟨hp,g,d,tk,os⟩:Shared).TypeIs (.ref a) "zip":=⟨_,hx,rfl⟩;unfold Builtin.«object.__getattribute__»
  repeat (any_goals (first|assumption|wp_step))
  simp only[hname,Bool.false_eq_true,if_false]
  repeat (any_goals (first|assumption|wp_step))
  exact wpAny_raiseAttrError hs.1 hs.2 (attrMsg_fits be hsz)
theorem XS{fs:Array aA}{Q:Option aA->Shared->Prop}(hx:s.heap.get? a=sO { cls:=.type "zip",data:=.fields fs })(hA:A.handled=nO)
  (h:∀h' tk,(∀b o,s.heap.get? b=sO o->h'.get? b=sO o)->Q nO { s with heap:=h',toks:=tk }):wpAny (model prog w) A (getAttr? (.ref a) "keys") Q E s:=by
 obtain⟨hp,g,d,tk,os⟩:=s;have hT:∀t',(⟨hp,g,d,t',os⟩:Shared).TypeIs (.ref a) "zip":=λ_=>⟨_,hx,rfl⟩;have g1:=sub_AttributeError;have g2:=U2.lookup;have g3:=U2.bind (.ref a);have g4:=ve;unfold getAttr? getAttrBy? getAttrBy
 repeat (any_goals (first|assumption|exact hT _|((with_reducible show wpAny _ _ (call (Value.builtin "zip.__getattribute__") _ _) _ _ _);refine call_meets U2 (hT _) xq (PySem.F.args_zip_getattribute_2 _ _) (xi a fs #[] "keys" _ XR XQ (by show 4+100<=sizeLine;decide)) ⟨hx,hA,λh' tk' e hx'=>?_⟩)|wp_step))
 obtain⟨t',u',he⟩:=hx'.there;show wpAny _ _ (getattributeRaised _ _ _ _ _ _ _) _ _ _;unfold getattributeRaised
 repeat (any_goals (first|assumption|wp_step))
 exact h _ _ hx'.keeps
section
variable{a b:Expr}{ta:TA}{p1 pos1 pos2:Pos}
def WI(K:uc)(ta:TA):TE:=λσ H Q=>ta σ H λvs H1=>∃(a b:aO)(xs:List V),vs=[.ref a,.ref b]/\(SqL K H1 a xs\/SqT K H1 a xs)/\(SqL K H1 b []\/SqT K H1 b [])/\∀d,H1 d=nO->Q (.ref d) (upd H1 d (.dK []))
theorem VC(hc:X.calm=tU)(hgL:Gl X "dict")(hmL:X.mg "dict"=nO)(hgZ:Gl X "zip")(hmZ:X.mg "zip"=nO)(ha:PA X [a,b] ta)
  (h1:%[starEach [a,b] X.env=[(fO,eval a X.env),(fO,eval b X.env)]|1]) (h2:%[starEach [b] X.env=[(fO,eval b X.env)]|1]):PE X (.Call (.Name "dict" p1) [.Call (.Name "zip" p2) [a,b] [] pos2] [] pos1) (WI X.K ta):=by
 intro pins s σ H Q I h;refine Call_ (xk I hgL hmL UU (Ua (Calls.spliced_cons (Call_ (xk I hgZ hmZ boot_zip (Ua (thn (ha pos2 pins s σ H _ I h) λus s1 g=>?_) (by rw[h1,h2]) (by rw[h2];rfl))))) rfl rfl));obtain⟨vs,H1,I1,r1,a1,b1,xs,rfl,hq1,hq2,q⟩:=g;obtain⟨u,u',rfl,e1,e2⟩:=ZV r1;cases e1;cases e2;obtain⟨k1,i1,v1,q1,z1,l1⟩:=I1.sq hq1;obtain⟨k2,i2,v2,q2,z2,l2⟩:=I1.sq hq2;refine vL q1 q2 λh' Z sz kp=>Calls.spliced_nil ?_;have hh:X.A.handled=nO:=I1.ok.hd hc;have n1:=v1.length;have n2:=v2.length;have big:=I1.big;obtain⟨B,eB⟩:∃B:Nat,B=s1.heap.objs.size:=⟨_,rfl⟩;rw[<- eB]at Z sz l1 l2 ⊢;refine callType_codes (Q₁:=λobj s₁=>obj=.ref h'.objs.size/\s₁={ s1 with heap:=h'.push { cls:=.type "dict",data:=.dict #[] } }) PySem.F.kt_called_dict (PySem.F.kt_typeCall_dict_1 _) PySem.F.entry_dict_init (kt_code_dict_new _ ⟨rfl,rfl⟩) ?_;rintro obj s₁ ⟨rfl,rfl⟩;have new:(h'.push { cls:=.type "dict",data:=.dict #[] }).DictOf (yf X.prog X.w) h'.objs.size []:=Heap.DictOf.new h';have Z1:ZS k1 k2 (h'.push { cls:=.type "dict",data:=.dict #[] }) B a1 b1 0 .none (.bool fO):=Z.at λb o _ _ e=>ue _ e;refine⟨new.typeIs,PySem.F.args_dict_init_2 _ _,?_⟩;unfold Builtin.«dict.__init__»;refine bA ?_;unfold Builtin.Dict.selfAndRest;refine bA (wpAny_notOrdered_dict new.typeIs ?_);show wpAny _ _ (pure (h'.objs.size,[Value.ref (B+4)])) _ _ _;refine pO ?_;show wpAny _ _ (Builtin.Dict.updateFrom "dict.__init__" h'.objs.size (.ref (B+4)) [] .none) _ _ _;unfold Builtin.Dict.updateFrom;refine bA (wpAny_typeOf ⟨_,Z1.z,rfl⟩ ?_);rw[iP be];refine bA (XS Z1.z hh λh2 t2 k2'=>?_);rw[iP (show((nO:Option aA).isNone=tU)from rfl)];have Z2:ZS k1 k2 h2 B a1 b1 0 .none (.bool fO):=Z1.at λb o _ _ e=>k2' _ _ e;obtain⟨o,es,ep,ho,hr⟩:=id new;have ho1:=k2' _ _ ho;have ltD:h'.objs.size < h2.objs.size:=uD ho1;have kall:∀b o,s1.heap.get? b=sO o->h2.get? b=sO o:=λb o e=>k2' _ _ (ue _ (kp _ _ e));have ty:∀t,Shared.TypeIs { s1 with heap:=h2,toks:=t } (.ref (B+4)) "zip":=λt=>⟨_,Z2.z,rfl⟩;refine bA (wpAny_rule (bA (wpAny_pyIter_slot (ty _) PySem.F.slot_zip_iter (wpAny_call_entry PySem.F.slot_zip_iter (ty _) PySem.F.entry_zip_iter ?_ (PySem.F.args_zip_iter_1 _)))));show wpAny _ _ (ret (.ref (B+4))) _ _ _;refine pO ⟨_,rfl,"zip",_,ty _,PySem.F.slot_zip_next.lookup,?_⟩;refine pO ⟨plainId_quiet xG _,?_⟩;refine codeAny_builtin vd ?_;rw[Around.under_plainId xG _];show wpAny _ _ (pyNext (.ref (B+4)) >>= _) _ _ _;refine bA (Yb (A:=X.A.in1.in1) (xs:=i1.toArray) (ys:=i2.toArray) hh Z2 (.inl rfl) (q1.at λo e=>kall _ o e) (q2.at λo e=>kall _ o e) l1 l2 (.inr (Array.getElem?_eq_none (by rw[uw];simp at n2;lia))) λh3 kz=>?_);show wpAny _ _ (Builtin.Dict.addKeywords h'.objs.size [] >>= λ_=>ret _) _ _ _;refine bA (pO (pO ?_));have hk:∀b o,s1.heap.get? b=sO o->h3.get? b=sO o:=λb o e=>by
  have lb:b < B:=by rw[eB];exact uD e
  exact kz b o (.inl lb) (kall _ _ e)
 refine⟨rfl,.ref h'.objs.size,_,I1.laid (t':=t2) hk (by rw[sz,eB];exact UE _ _) (show ObjOk X.prog X.w _ h3 _ (.dK [])from⟨uS _,?_,[],.nil,⟨o,es,ep,kz _ _ (.inr (by rw[sz];lia)) ho1,hr⟩⟩),rfl,q _ (I1.hok.fresh (by rw[sz,eB];exact UE _ _))⟩;exact beq_eq_false_iff_ne.mpr (λe=>by rw[sz,eB]at e;rw[<- e]at big;exact absurd big (Nat.not_lt.mpr (UE _ _)))
theorem VD(hc:X.calm=tU)(hgL:Gl X "dict")(hmL:X.mg "dict"=nO)(hgZ:Gl X "zip")(hmZ:X.mg "zip"=nO)(ha:jA X [a,b] ta)(h1:%[zA a=fO|1])(h2:%[zA b=fO|1]):
  jE X (.Call (.Name "dict" p1) [.Call (.Name "zip" p2) [a,b] [] pos2] [] pos1) (WI X.K ta):=⟨VC hc hgL hmL hgZ hmZ ha.out (by rw[zH h1,zH h2];rfl) (by rw[zH h2];rfl)⟩
end
end L2
namespace GN
open PySem L2 K11
variable{o:Wo}{d:Df}{od:aO}
def QP:Sp:=λvs H Q _=>∃z:Str,vs=[.str z]/\46∈cl z/\Q (.bl fO) H
inductive spExch(vs:List V)(H:Hp)(Q:VK)(e_3:XK):Prop
 |mk (p r pd q6:aO) (v0:V) (ps rs:List aO) (ds:List Df) (ow:Str->List Bool):∀N:lS,(vs=[.ref p,.ref r])->(H p=sO (.tup [v0,.ref pd]))->(H pd=sO (.tup (ps.map V.ref)))->(IsFs H ds ps)->(H r=sO (.tup [v0,.ref q6]))->(H q6=sO (.tup (rs.map V.ref)))->(All2 (IsHF H ow) ds rs)->(ds.length<=10)->((∀d∈ds,RtOk ow N d))->(∀H' p' pd' ps',Same H H'->H' p'=sO (.tup [v0,.ref pd'])->H' pd'=sO (.tup (ps'.map V.ref))->IsFs H' ds ps'->Q (.ref p') H')->spExch vs H Q e_3
section
variable{K:uc}
theorem scIN:FnScope ["_law_name_here","_law_words","_law_sign"] ["_law_name_here"] (zq JF):=.ok
theorem zbr(F:Fun K "_law_is_name" "_law_is_name" JF f fd):FnOk P w K mg base CX0 1 f fd ["_law_name_here"] QP:=by
 refine F.by scIN ?_ ?_
 .rintro _ _ _ _ ⟨_,rfl,_⟩;rfl
 rintro _ _ _ _ H vs _ _ _ ⟨z,rfl,hz,q⟩;refine⟨_,
  (zh (sE 1 scIN.nd zu)
  (zh (z5 PassesOwn.never rfl (zcV rfl !0) (gN 2 scIN.nd)
   (zi (zF (vt ZK (!2) zu (by with_unfolding_all rfl))
    (zi (zt yC))  zw)))
  (zi QG))),?_⟩
 have sl:=zN;refine¬⟨z,rfl,zbo (λi σ H'=>H=H'/\(∃x y,σ=[sO (.str z),x,y])/\46∉(cl z).take i) ⟨rfl,⟨_,_,rfl⟩,ba⟩ ?_ ?_⟩
 .rintro i c σ H1 hc ⟨rfl,⟨x,y,rfl⟩,hi⟩
  refine¬(zE rfl rfl ¬(ite2 (λ_=>q) (λe=>nxtC ⟨rfl,⟨_,_,rfl⟩,?_⟩)));rw[uA,show(cl z)[i]?=sO c by show z.cps.toList[i]?=_;rw[Array.getElem?_toList];exact hc];intro m;rcases uy.mp m with m|m
  .exact hi m
  .have m:46=c:=ut.mp m
   subst m;exact e be
 .rintro σ H1 ⟨rfl,_,hi⟩
  rw[um (show(cl z).length<=z.cps.size from uk _)]at hi;exact absurd hz hi
theorem scEx:FnScope ["_law_program_here","_law_code","_law_defs","_law_one","_law_got","_law_pieces_here","_law_news","_law_old","_law_name_here","_law_names"] lS28 (zq JH):=.ok
theorem ndEx:(["_law_program_here","_law_code","_law_defs","_law_one","_law_got","_law_pieces_here","_law_news","_law_old","_law_name_here","_law_names","_law_piece"]:lS).Nodup:=be
theorem zbs(F:Fun K "_law_exchanged" "_law_exchanged" JH f fd)(GP:Ca P w K mg base CX0 226 "_law_pieces" ["_law_body_here"] (spPcs 225))(GI:Ca P w K mg base CX0 1 "_law_is_name" ["_law_name_here"] QP)(GB:Ca P w K mg base CX0 1 "_law_bound" lS5 spBndL)(GC:Ca P w K mg base CX0 (2+14) "_law_called" lS9 (spCal 14))(m_tuple:mg "tuple"=nO)(m_dict:mg "dict"=nO)(m_zip:mg "zip"=nO):FnOk P w K mg base CX0 227 f fd lS28 spExch:=by
 refine F.by scEx ?_ ?_
 .rintro _ _ _ _ ⟨_,_,_,_,_,_,_,_,_,_,rfl,_⟩;rfl
 rintro _ _ _ _ H vs _ _ hr ⟨p,r,pd,q6,v0,ps,rs,ds,ow,N,rfl,hp,hpd,hF,hr6,hq6,hA,hn,hD,q⟩;have hr1:Room 1 _:=hr.mono b9;have hr16:Room (2+14) _:=hr.mono b9;have hrP:Room 226 _:=hr;refine⟨_,
  (zh (sE 2 scEx.nd (zI zQ))
  (zh (z5 PassesOwn.never rfl (yR K rfl m_zip (jA2 (zj K !0) (zj K !1))) (zW K rfl (zx (gN 3 scEx.nd) (zx (gN 4 scEx.nd) zV)))
   (zh (sE 5 scEx.nd (cA GP hrP (jA1 (zj K !4))))
   (zh (yu ["_law_piece"] (i:=6) scEx.nd rfl (Or.inl rfl) rfl (zU K !5) (λ_ _ _ _ _=>(gN 10 ndEx)) (λ_ _ _ _ _=>(yD (jW.pt (xQ (tN zJ (zj K (jv 10)) zu) (xt (zS (cA GI hr1 (jA1 (zj K (jv 10)))))))))) (λ_ _ _ _ _=>(zj K (jv 10))))
   (zh (sE 7 scEx.nd (zI zQ))
   (zh (z5 PassesOwn.never rfl (zU K (cA GB hr1 (jA2 (!5) (zj K !3)))) (gN 8 scEx.nd)
    (zi (zF (wK K (!8) !7)
     (zi (yg (yO uE uN uO zY (!7) (jA1 !8))))  zw)))
   (zh (sE 9 scEx.nd (VD rfl rfl m_dict rfl m_zip (jA2 (!7) !6)))
   (zi (yg (yO uE uN uO zY (!2) (jA1 (zy (jA3 (zj K !3) (zK (zD K) rfl m_tuple uo (jA1 (vI [8] [] rfl (yo K (zj K !3)) (λ_ _ _ _ _=>(gN 8 scEx.nd)) (λ_ _ _ _ _=>zZ) (λ_ _ _ _ _=>(yK hr1 (!9) (!8) !8))))) (cA GC hr16 (jA2 (zj K !3) !9))))))))))))))
  (zi (zt (zy (jA2 (zj K !0) (zK (zD K) rfl m_tuple uo (jA1 !2)))))))),?_⟩
 have sl:=zN;have fl:=hF.len;have al:=All2.len hA;refine⟨sN0,λla fa=>?_⟩;have s1:=zn fa (.lst []);have e1:=uX9 (H:=H) (a:=la) (o:=.lst []);dsimp only
 generalize upd H la (.lst [])=H1 at *;refine¬(ixT (s1 _ _ hp) aI1 ¬(ixT (s1 _ _ hr6) aI1 ⟨pd,q6,fO,fO,_,_,rfl,SqK.t (s1 _ _ hpd),SqK.t (s1 _ _ hq6),x8 (k:=fO) (m:=fO) (xs:=ps.map V.ref) (ys:=rs.map V.ref) bp (λi σ H'=>Same H H'/\(∃y3 y4 y5 y6 y7 y8 y9,σ=[sR p,sR r,sR la,y3,y4,y5,y6,y7,y8,y9])/\∃us:List aO,H' la=sO (.lst (us.map V.ref))/\IsFs H' (ds.take i) us) ⟨s1,⟨nO,nO,nO,nO,nO,nO,nO,rfl⟩,[],e1,.nil⟩ (λi σ H' _ h=>⟨SqK.t (h.1 _ _ hpd),SqK.t (h.1 _ _ hq6)⟩) ?_ ?_⟩))
 .rintro i v1 v2 T σ H2 hv1 hv2 hT ⟨s2,⟨y3,y4,y5,y6,y7,y8,y9,rfl⟩,us,e2,hu⟩
  rw[uh]at hv1 hv2;obtain⟨o1,ho1,rfl⟩:=ug.mp hv1;obtain⟨o2,ho2,rfl⟩:=ug.mp hv2;obtain⟨d,hd,hFd⟩:=hF.get ho1;obtain⟨d',hd',hHF⟩:=All2.get hA ho2;rw[hd]at hd';cases hd';have k:=hD d (uu hd);have s3:=s2.new (o:=.tup [.ref o1,.ref o2]) hT;have e3:=old (o:=.tup [.ref o1,.ref o2]) hT e2;have hu3:=hu.keep (.of (zn (o:=.tup [.ref o1,.ref o2]) hT));refine⟨T,¬⟨SqT.of uX9,rfl,_,_,rfl,_,_,rfl,rfl,?_⟩⟩;dsimp only[U7]
  generalize upd H2 T (.tup [.ref o1,.ref o2])=H3 at *;show(tSeq _ _:TS) _ _ _;refine Jn λE_ hE_=>?_;obtain⟨pq,pb,j1,j2,j3⟩:=(hFd.keep (.of s3)).ex;obtain⟨q1,q2,vb,g1,g2,g3,g4⟩:=hHF.keep (.of s3);refine¬(ixT g1 aI3 ⟨vb,cdF ow d,ow,N,rfl,g4,k.ok,k.dp,uF k.sz b9,λH4 l4 ws s4 f4 e4 a4=>?_⟩);have s34:=s3.trans s4;have hI4:=k.dt;refine¬⟨l4,rfl,⟨_,SqL.of e4⟩,yy (xs:=ws) (λi τ zs H'=>H4=H'/\(∃y,τ=[sR p,sR r,sR la,sR o1,sR o2,sR l4,y6,y7,y8,y9,y])/\zs=[]) ⟨rfl,⟨nO,rfl⟩,rfl⟩ (λi τ zs H' _ h=>SqL.of (h.1 ▸ e4)) ?_ ?_⟩
  .rintro j v τ zs H5 hv ⟨rfl,⟨y,rfl⟩,rfl⟩
   obtain⟨c,hc,hI⟩:=All2.get a4 hv;obtain⟨pc,t,rs',rfl,h1,-,gh,-,-,-⟩:=jk hI;by_cases c1:t="hold"
   .subst c1
    obtain⟨x,rs'',rfl,e5⟩:=gh rfl;have hx:46∈cl x:=k.dt x (List.mem_flatMap.mpr ⟨c,uu hc,by rw[e5];exact .head _⟩);exact¬(ixT h1 aI0 ⟨rfl,¬(iteT ¬(ixT h1 aI1 ⟨x,rfl,hx,¬(iteF ⟨rfl,⟨_,rfl⟩,rfl⟩)⟩))⟩)
   .exact¬(ixT h1 aI0 ⟨rfl,¬(iteE (eO λz=>c1 (V.str.inj z)) ⟨rfl,⟨_,rfl⟩,rfl⟩)⟩)
  rintro τ zs H5 ⟨rfl,_,rfl⟩ l6 f6;have s5:=zn (o:=.lst []) f6;have e6:=uX9 (H:=H4) (a:=l6) (o:=.lst []);dsimp only[U7]
  generalize upd H4 l6 (.lst [])=H5 at *;refine⟨sN0,λl7 f7=>?_⟩;have s6:=zn (o:=.lst []) f7;have e7:=uX9 (H:=H5) (a:=l7) (o:=.lst []);dsimp only[U7]
  generalize upd H5 l7 (.lst [])=H6 at *;have s56:=s5.trans s6;have s36:=s4.trans s56;have n1:=vk (cdF ow d);have n3:=k.sz;have n4:=k.nl;refine¬(¬(ixT (s36 _ _ j1) aI1 ⟨l4,pq,ws,_,d.ns,rfl,s56 _ _ e4,a4.imp λ_ _ z=>z.keep (.of s56),s36 _ _ j2,by rw[ud];show _+(bs (cdF ow d)).length<=_;lia,λH8 r8 s8 f8 e8=>?_⟩));have n58:l7≠r8:=λz=>by rw[z,f8]at e7;cases e7
  refine⟨r8,rfl,⟨_,SqL.of e8⟩,xm (xs:=(d.ns++(cdF ow d).pcs.flatMap Hc.bn).map V.str) (λj σ H'=>Same H5 H'/\(∃y,σ=[sR p,sR r,sR la,sR o1,sR o2,sR l4,sR l6,sR l7,y,y9])/\H' r8=sO (.lst ((d.ns++(cdF ow d).pcs.flatMap Hc.bn).map V.str))/\∃xs:lS,H' l7=sO (.lst (xs.map V.str))/\xs.length<=j) ⟨s6.trans s8,⟨_,rfl⟩,e8,[],s8 _ _ e7,uk _⟩ (λj σ H' _ h=>SqL.of h.2.2.1) ?_ ?_⟩
  .rintro j v σ H9 hv ⟨s9,⟨y,rfl⟩,er,xs,ex,xl⟩
   have hj:=(uf.mp hv).1;rw[ub,ud]at hj;have hj:j < d.ns.length+(bs (cdF ow d)).length:=hj;obtain⟨t,ht,rfl⟩:=L2.gM hv;refine¬(¬⟨l7,¬⟨.inl (SqL.of ex),rfl,vc,¬(ite2 (λ_=>?_) (λ_=>nxtC ⟨s9,⟨_,rfl⟩,er,xs,ex,b8⟩))⟩⟩);refine¬⟨.inl ⟨rfl,_,SqL.of ex⟩,¬⟨l7,(zE rfl rfl ⟨ex,bc,?_⟩)⟩⟩;exact⟨s9.put f7,⟨_,rfl⟩,by rw[zo λz=>n58 z.symm];exact er,xs++[t],by rw[uX9,ur];rfl,by rw[ud];exact Nat.succ_le_succ xl⟩
  rintro σ H9 ⟨s9,⟨y,rfl⟩,er,xs,ex,xl⟩;refine¬(¬⟨l7,l6,¬⟨.inl (SqL.of ex),.inl (SqL.of (s9 _ _ e6)),λd9 f9=>?_⟩⟩);have s10:=s9.new (o:=.dK []) f9;have e10:=uX9 (H:=H9) (a:=d9) (o:=.dK []);dsimp only[U7]
  generalize upd H9 d9 (.dK [])=H10 at *;have s40:=s5.trans s10;have s310:=s4.trans s40;refine¬⟨.inl ⟨rfl,_,SqL.of (s310 _ _ e3)⟩,¬(ixT (s310 _ _ j1) aI0 ¬(ixT (s310 _ _ j1) aI1 ⟨pq,rfl,⟨_,SqT.of (s310 _ _ j2)⟩,xJ (xs:=d.ns.map V.str) (λj τ zs H'=>H10=H'/\(∃z,τ=[sR p,sR r,sR la,sR o1,sR o2,sR l4,sR l6,sR l7,z,sR d9])/\zs=(d.ns.take j).map V.str) ⟨rfl,⟨nO,rfl⟩,rfl⟩ (λj τ zs H' _ h=>SqT.of (h.1 ▸ s310 _ _ j2)) ?_ ?_⟩))⟩
  .rintro j v τ zs H11 hv ⟨rfl,⟨z,rfl⟩,rfl⟩
   obtain⟨x3,hx3,rfl⟩:=L2.gM hv;have hj:=(uf.mp hx3).1;refine¬⟨d9,rfl,.inl ⟨_,.inl e10⟩,¬(¬⟨_,DGet.k (k:=.inr x3) e10,?_⟩)⟩;refine⟨by rw[ub,uv];lia,rfl,⟨_,rfl⟩,?_⟩;rw[uA,hx3,ur]
   rfl
  rintro τ zs H11 ⟨rfl,_,rfl⟩ l11 f11;rw[ub,um (uk _)];refine⟨l11,¬(.inl ⟨SqL.of uX9,λt12 f12=>?_⟩)⟩;have s12:=(zn (o:=.lst (d.ns.map V.str)) f11).new (o:=.tup (d.ns.map V.str)) f12;have e12:=uX9 (H:=upd H10 l11 (.lst (d.ns.map V.str))) (a:=t12) (o:=.tup (d.ns.map V.str));generalize upd (upd H10 l11 (.lst (d.ns.map V.str))) t12 (.tup (d.ns.map V.str))=H12 at *;have s312:=s310.trans s12;refine¬(ixT (s312 _ _ j1) aI2 ¬⟨pb,d9,d.b,rfl,j3.keep (.of s312),k.bd,k.bz,s12 _ _ e10,λH13 r13 s13 e13=>⟨sN3,λt14 f14=>?_⟩⟩);have s14:=zn (o:=.tup [.str d.z,.ref t12,.ref r13]) f14;have s314:=s312.trans (s13.trans s14);have ul:=hu.len;rw[uv]at ul;refine⟨la,(zE rfl rfl ⟨s314 _ _ e3,bc,?_⟩)⟩;have tp:Tups _ (upd (upd H13 t14 (.tup [.str d.z,.ref t12,.ref r13])) la (.lst (us.map V.ref++[.ref t14]))):=YS (s314 _ _ e3);subst hE_;refine⟨(s3.trans s314).put fa,⟨_,_,_,_,_,_,_,rfl⟩,us++[t14],by rw[uX9,ur];rfl,?_⟩;rw[uA,hd];exact((hu3.keep (.of s314)).app (.cons ⟨t12,r13,uX9,old f14 (s13 _ _ e12),e13.keep (.of s14)⟩ .nil)).keep tp
 .rintro σ H2 ⟨s2,⟨y3,y4,y5,y6,y7,y8,y9,rfl⟩,us,e2,hu⟩
  rw[ub,um b8]at hu;have hp2:=s2 _ _ hp;refine¬(ixT hp2 aI0 ¬⟨la,¬(.inl ⟨SqL.of e2,λt3 f3=>⟨sN2,λr3 fr=>?_⟩⟩)⟩);have s3:=(zn (o:=.tup (us.map V.ref)) f3).new (o:=.tup [v0,.ref t3]) fr;exact q _ r3 t3 us (s2.trans s3) uX9 (old fr uX9) (hu.keep (.of s3))
structure Lg(o:Wo)(d:Df):Prop where
 nl:d.ns.length<=3
 n:d.ns=(uQ d.ns.length).map λi=>nm o.z o.b i
 b:∀x∈d.b.binds,∃j,j < 900/\x=nm o.z o.b j
 sz:d.b.sz<=15000
 dp:d.b.dp<=14
 lx:∀ns,(∀y∈d.ns,y∈ns)->(∀y∈d.b.binds,y∈ns)->LxB o ns d.b
 s:∃s∈o.defs,s.1=d.z/\s.2.1.length=d.ns.length
theorem zez{b:Bool}{A B:Prop}(e:b=tU)(h:A):if b=tU then A else B:=by rw[iP e];exact h
theorem zeA(h:FOk 6 d)(g:FNm o d)(hD:d.b.Dd):Lg o d :=
 ⟨h.1,g.n,λx hx=>let ⟨j,_,h2,h3⟩:=g.b x hx;⟨j,h2,h3⟩,uF h.2.1 b9,uF h.2.2 b9,λns h1 h2=>jh d.b d.ns g.sn hD h1 h2,g.s⟩
structure LgB(o:Wo)(L:lS)(i:Nat)(b:Bd):Prop where
 bb:∀x∈b.binds,∃j,j < 900/\x=nm o.z o.b j
 sz:b.sz<=14560+i
 dp:b.dp<=6+i
 lx:∀ns,(∀y∈L,y∈ns)->(∀y∈b.binds,y∈ns)->LxB o ns b
theorem LgB.ask{L:lS}{k:Nat}{b:Bd}{xs:lS}(h:LgB o L i b)(hk:k < 900)(hx:x∈L)(hxs:∀y∈xs,y∈L)(hl:xs.length<=10):LgB o L (i+1) (.lt (nm o.z o.b k) (.app "ask" x xs) b):=by
 refine⟨λy hy=>?_,by rw[Bd.sz];have:=h.sz;lia,by rw[Bd.dp];have:=h.dp;lia,λns h1 h2=>?_⟩
 .rw[Bd.binds]at hy
  exact(uq.mp hy).elim (λe=>⟨k,hk,e⟩) (h.bb y)
 .rw[Bd.binds]at h2
  refine⟨⟨h2 _ (.head _),λy hy=>?_,λe=>absurd e b9,⟨b9,b9⟩,by rw[yL,ui];lia⟩,h.lx ns h1 λy hy=>h2 y (.tail _ hy)⟩;rw[yL]at hy;exact h1 y ((uq.mp hy).elim (λe=>e ▸ hx) (hxs y))
inductive spLong(K:uc)(vs:List V)(H:Hp)(Q:VK)(e_3:XK):Prop
 |mk (st w p:aO) (B:Nat) (o:Wo):∀d:Df,(vs=[.ref st,.ref w,.ref p])->(Sta K H st B)->(B+200 < LIM)->(IsW H o w)->(IsF H d p)->(Lg o d)->(d.b.sz<=14560)->(d.b.dp<=6)->(∀H' p' d',Kp st H H'->Sta K H' st (B+200)->IsF H' d' p'->Lg o d'->d'.z=d.z->Q (.ref p') H')->spLong K vs H Q e_3
theorem scLong:FnScope ["_law_state","_law_world_here","_law_one","_law_names","_law_body_here","_law_k","_law_some"] lS23 (zq Zn):=.ok
theorem zdS:(["_law_state","_law_world_here","_law_one","_law_names","_law_body_here","_law_k","_law_some","_law_j"]:lS).Nodup:=be
theorem zbt(F:Fun K "_law_longer" "_law_longer" Zn f fd)(GD:Ca P w K mg base CX0 1 "_law_draw" lS2 (spDraw K))(GN':Ca P w K mg base CX0 1 "_law_name" lS7 spNm)(m_range:mg "range"=nO)(m_tuple:mg "tuple"=nO)(m_list:mg "list"=nO)(m_len:mg "len"=nO)(m_int:mg "int"=nO):FnOk P w K mg base CX0 2 f fd lS23 (spLong K):=by
 refine F.by scLong ?_ ?_
 .rintro _ _ _ _ ⟨_,_,_,_,_,_,rfl,_⟩;rfl
 rintro _ _ _ _ H vs _ _ hr ⟨st,w0,p,B,o,d,rfl,S0,hB,hW,hF,hL,hz,hd,q⟩;refine⟨_,
  (zh (zF (tN xp (cA GD hr (jA2 (!0) zp)) zp)
   (zi (zt !2))  zw)
  (zh (sE 3 scLong.nd (zC yP (zK (xU K) rfl m_list UT (jA1 (zj K !2))) (zI (jA1 (cA GN' hr (jA2 (!1) zp))))))
  (zh (sE 4 scLong.nd (zj K !2))
  (zh (z5 PassesOwn.never rfl (yw rfl m_range (jA1 (zC yz zp (cA GD hr (jA2 (!0) zp))))) (gN 5 scLong.nd)
   (zh (yu ["_law_j"] (i:=6) scLong.nd rfl (Or.inl rfl) rfl (yw rfl m_range (jA1 (xX (zT K) (zI (jA2 (cA GD hr (jA2 (!0) zp)) zp)) (zK WD rfl m_int PyProof.Rows.boot_int (jA1 (yM zJ (!5) zp (xv _))))))) (λ_ _ _ _ _=>(gN 7 zdS)) (λ_ _ _ _ _=>zZ) (λ_ _ _ _ _=>(xX (zT K) (!3) (cA GD hr (jA2 (!0) (zG (zB K) rfl m_len uP (jA1 !3)))))))
   (zi (sE 4 scLong.nd (zy (jA4 zu (cA GN' hr (jA2 (!1) (zC xo zp !5))) (zy (jA3 zu (xX (zT K) (!3) (cA GD hr (jA2 (!0) (zG (zB K) rfl m_len uP (jA1 !3))))) (zK (zD K) rfl m_tuple uo (jA1 !6)))) !4))))))
  (zi (zt (zy (jA3 (zj K !2) (zj K !2) (zy (jA4 zu (xX (zT K) (!3) (xw zp)) (zy (jA2 zu (cA GD hr (jA2 (!0) (zC zcW zp zp))))) !4)))))))))),?_⟩
 have sl:=zN;have LM:LIM=4611686018427387904:=rfl;obtain⟨pq,pb,hp,hpq,hpb⟩:=hF.ex;refine¬⟨st,3,B,rfl,S0,b8,b9,λH1 r1 k1 S1 a1 b1=>⟨rfl,¬?_⟩⟩;by_cases c1:r1=1
 .refine iteE (by rw[c1];rfl) (nxtC ?_)
  have t1:=k1.tups S0;refine¬(ixT (t1 _ _ hp) aI1 ⟨pq,¬⟨.inr (SqT.of (t1 _ _ hpq)),λl2 f2=>?_⟩⟩);have s2:=zn (o:=.lst (d.ns.map V.str)) f2;have e2:=uX9 (H:=H1) (a:=l2) (o:=.lst (d.ns.map V.str));have S2:=S1.same s2;generalize upd H1 l2 (.lst (d.ns.map V.str))=H2 at *;have k2:=k1.trans (.of s2);obtain⟨⟨tl,dl,tt,ds,hw,htl1,hdl,hTt,hTd⟩,wok⟩:=hW.kp S0 k2;refine¬⟨w0,o.z,o.b,_,600,rfl,hw,wok.z,sN1,λl3 f3=>?_⟩;have s3:=zn (o:=.lst [.str (nm o.z o.b 600)]) f3;refine⟨l2,l3,(zE rfl rfl ⟨s3 _ _ e2,uX9,by rw[ub,uH];have:=hL.nl;lia,λl4 f4=>?_⟩)⟩;have s4:=s3.new (o:=.lst (d.ns.map V.str++[.str (nm o.z o.b 600)])) f4;have e4:=uX9 (H:=upd H2 l3 (.lst [.str (nm o.z o.b 600)])) (a:=l4) (o:=.lst (d.ns.map V.str++[.str (nm o.z o.b 600)]));have S4:=S2.same s4;have k4:=k2.trans (.of s4);generalize upd (upd H2 l3 (.lst [.str (nm o.z o.b 600)])) l4 (.lst (d.ns.map V.str++[.str (nm o.z o.b 600)]))=H4 at *;rw[show d.ns.map V.str++[V.str (nm o.z o.b 600)]=(d.ns++[nm o.z o.b 600]).map V.str by rw[ur];rfl]at e4;obtain⟨L,eL⟩:∃L,d.ns++[nm o.z o.b 600]=L:=⟨_,rfl⟩;rw[eL]at e4;have lL:0 < L.length/\L.length<=4:=by rw[<- eL,ud,uH];have:=hL.nl;lia
  have t4:=k4.tups S0;refine¬(ixT (t4 _ _ hp) aI2 ?_);refine¬⟨st,6,_,rfl,S4,b8,b9,λH5 r5 k5 S5 a5 b5=>?_⟩;have n4:=S4.neS e4;obtain⟨n5,rfl⟩:∃n:Nat,r5=(n:Int):=⟨r5.toNat,b8⟩;refine(zE rfl rfl ⟨2+n5,rfl,b8,b8,wX (n:=2+n5) (λi σ H'=>Kp st H H'/\Sta K H' st (B+2+11*i)/\H' l4=sO (.lst (L.map V.str))/\∃(pb:aO)(b:Bd)(x y:Option V),σ=[sR st,sR w0,sR p,sR l4,sR pb,x,y]/\IsB H' b pb/\LgB o L i b) ⟨k4.trans k5,S5,k5.k _ _ n4 e4,pb,d.b,_,_,rfl,(hpb.keep t4).keep (k5.tups S4),⟨hL.b,b8,b8,λns h1 h2=>hL.lx ns (λy hy=>h1 y (by rw[<- eL];exact uX _ hy)) h2⟩⟩ ?_ ?_⟩)
  .rintro i σ H6 hi ⟨k6,S6,e6,pb,b,x,y,rfl,hb,lb⟩
   have hi:i < 2+n5:=hi;refine¬⟨st,4,_,rfl,S6,b8,b9,λH7 r7 k7 S7 a7 b7=>⟨sN2,λl8 f8=>?_⟩⟩;have s8:=zn (o:=.lst [.int r7,.int 9]) f8;have e8:=uX9 (H:=H7) (a:=l8) (o:=.lst [.int r7,.int 9]);have S8:=S7.same s8;have k8:=k7.trans (.of s8);generalize upd H7 l8 (.lst [.int r7,.int 9])=H8 at *;obtain⟨m,hm9,hm⟩:∃m:Nat,m<=9/\atI [V.int r7,V.int 9] (if decide (V.int (0+(i:Int))=V.int 1)=tU then 1 else 0)=sO (.int m):=by
    obtain⟨n7,rfl⟩:∃n:Nat,r7=(n:Int):=⟨r7.toNat,b8⟩;split
    .exact⟨9,b9,rfl⟩
    .exact⟨n7,b8,rfl⟩
   have k68:=k6.trans k8;have t8:=k8.tups S6;have e48:=k8.k _ _ n4 e6;refine¬⟨rfl,.inr ¬⟨l8,_,_,_,rfl,rfl,SqL.of e8,hm,m,rfl,b8,b8,yW (n:=m) (λj τ zs H'=>Kp st H8 H'/\Sta K H' st (B+2+11*i+1+j)/\(∃z,τ=[sR st,sR w0,sR p,sR l4,sR pb,sO (.int (0+(i:Int))),y,z])/\∃xs:lS,zs=xs.map V.str/\xs.length=j/\∀x∈xs,x∈L) ⟨.refl,S8,⟨nO,rfl⟩,[],rfl,rfl,λx hx=>by cases hx⟩ ?_ ?_⟩⟩
   .rintro j τ zs H9 hj ⟨k9,S9,⟨z,rfl⟩,xs,rfl,hxl,hxs⟩
    have e49:=k9.k _ _ n4 e48;refine¬(¬¬⟨l4,¬⟨.inl (SqL.of e49),st,_,_,rfl,S9,b8,bc,λH10 r10 k10 S10 a10 b10=>?_⟩⟩);rw[ub]at b10;obtain⟨x,hx⟩:∃x,L[r10.toNat]?=sO x:=⟨_,uj b8⟩;refine⟨l4,_,_,_,rfl,rfl,SqL.of (k10.k _ _ n4 e49),wu a10 hx,bc,k9.trans k10,S10,⟨_,rfl⟩,xs++[x],by rw[ur];rfl,by rw[ud,hxl];rfl,λy hy=>?_⟩;exact(uy.mp hy).elim (hxs y) λh=>by rw[ut.mp h];exact uu hx
   rintro τ zs H9 ⟨k9,S9,-,xs,rfl,hxl,hxs⟩ l9 f9;have s9:=zn (o:=.lst (xs.map V.str)) f9;have e9:=uX9 (H:=H9) (a:=l9) (o:=.lst (xs.map V.str));have e49:=s9 _ _ (k9.k _ _ n4 e48);have S9:=S9.same s9;have k9:=k9.trans (.of s9);dsimp only[U7]
   generalize upd H9 l9 (.lst (xs.map V.str))=H9' at *;have n9:=S9.neS e9;have t9:=k9.tups S8;obtain⟨⟨tl,dl,tt,ds,hw,htl1,hdl,hTt,hTd⟩,wok⟩:=hW.kp S0 (k68.trans k9);have ek:(599:Int)-(0+(i:Nat))=((599-i:Nat):Int):=b8
   refine¬(¬(zE rfl rfl ⟨w0,o.z,o.b,_,599-i,(by show[V.ref w0,V.int (599-(0+(i:Nat)))]=_;rw[ek]),hw,wok.z,?_⟩));refine¬(¬¬⟨l4,¬⟨.inl (SqL.of e49),st,_,_,rfl,S9,b8,bc,λH10 r10 k10 S10 a10 b10=>?_⟩⟩);rw[ub]at b10;obtain⟨x1,hx1⟩:∃x,L[r10.toNat]?=sO x:=⟨_,uj b8⟩;refine⟨l4,_,_,_,rfl,rfl,SqL.of (k10.k _ _ n4 e49),wu a10 hx1,¬⟨l9,¬(.inl ⟨SqL.of (k10.k _ _ n9 e9),λt11 f11=>⟨sN3,λt12 f12=>¬⟨sN4,λt13 f13=>?_⟩⟩⟩)⟩⟩;have s11:=zn (o:=.tup (xs.map V.str)) f11;have s12:=zn (o:=.tup [.str "ask",.str x1,.ref t11]) f12;have s13:=zn (o:=.tup [.str "let",.str (nm o.z o.b (599-i)),.ref t12,.ref pb]) f13;have s23:=s12.trans s13;have s113:=s11.trans s23;have k13:=(k9.trans k10).trans (.of s113);have t10:=t9.trans (k10.tups S9);refine⟨k68.trans k13,(S10.same s113).mono b8,k13.k _ _ n4 e48,t13,_,_,_,rfl,.lt uX9 (.app ⟨b9,b9,b8⟩ (old f13 uX9) (s23 _ _ uX9)) (((hb.keep t8).keep t10).keep (.of s113)),lb.ask b8 (uu hx1) hxs b8⟩
  .rintro σ H6 ⟨k6,S6,e6,pb,b,x,y,rfl,hb,lb⟩
   have t6:=k6.tups S0;refine¬(ixT (t6 _ _ hp) aI0 ¬(ixT (t6 _ _ hp) aI1 ?_));have e6':H6 l4=sO (.lst (d.ns.map V.str++[.str (nm o.z o.b 600)])):=by rw[e6,<- eL,ur];rfl
   refine¬(¬⟨l4,_,_,_,rfl,rfl,SqL.of e6',xA (d.ns.map V.str) _,¬(zE rfl rfl ⟨⟨b9,b9,b9⟩,st,_,_,rfl,S6,b8,b9,λH7 r7 k7 S7 _ _=>⟨sN2,λt1 h1=>¬⟨sN4,λt2 h2=>⟨sN3,λt3 h3=>?_⟩⟩⟩⟩)⟩);have s2:=((zn h1 (.tup [.str "num",.int r7])).new (o:=.tup [.str "let",.str (nm o.z o.b 600),.ref t1,.ref pb]) h2);have s3:=s2.new (o:=.tup [.str d.z,.ref pq,.ref t2]) h3;have t7:=k7.tups S6;refine q _ t3 ⟨d.z,d.ns,.lt (nm o.z o.b 600) (.num r7) b⟩ (k6.trans (k7.trans (.of s3))) ((S7.same s3).mono b8) ⟨pq,t2,uX9,s3 _ _ (t7 _ _ (t6 _ _ hpq)),.lt (old h3 uX9) (.num (old h3 (old h2 uX9))) ((hb.keep t7).keep (.of s3))⟩ ?_ rfl
   have:=lb.sz
   have:=lb.dp
   refine⟨hL.nl,hL.n,λy hy=>?_,by show(Bd.lt _ _ b).sz<=_;rw[Bd.sz];lia,by show(Bd.lt _ _ b).dp<=_;rw[Bd.dp];lia,λns h1 h2=>?_,hL.s⟩
   .rw[Bd.binds]at hy
    exact(uq.mp hy).elim (λe=>⟨600,b9,e⟩) (lb.bb y)
   .rw[Bd.binds]at h2
    refine⟨⟨h2 _ (.head _),(λy hy=>absurd (show y∈([]:lS)from hy) Ug),trivial,trivial,uS _⟩,lb.lx ns (λy hy=>?_) λy hy=>h2 y (.tail _ hy)⟩;rw[<- eL]at hy;exact(uy.mp hy).elim (h1 y) λe=>by rw[ut.mp e];exact h2 _ (.head _)
 .exact zez (show(!decide (V.int r1=V.int 1))=tU by rw[eO λz=>c1 (V.int.inj z)];rfl) ¬(q H1 p d k1 (S1.mono b8) (hF.keep (k1.tups S0)) hL rfl)
section
variable(wok:WOk o)(hn:dfs.map (·.z)=(uQ 3).map (λk=>nm o.z o.b (2-k)))(hF:∀d∈dfs,Lg o d)(hl:∀d∈dfs,(ow d.z).length=d.ns.length)
include wok hn hF hl
theorem zca{d:De}(h:wp o d):CaD (dfs.map (·.z)) ow d:=by
 cases d with
 |num i=>trivial
 |op w a b=>trivial
 |app w f xs =>
  intro e;obtain⟨s,hs,e1,e2⟩:=h e;have hm:s.1∈dfs.map (·.z):=by
   rw[hn,<- wok.dn];exact UH hs
  refine⟨e1 ▸ hm,?_⟩;obtain⟨d',hd',ez⟩:=uz.mp hm;obtain⟨s',hs',z1,z2⟩:=(hF d' hd').s
  have:s'=s:=Qn (g:=(·.1)) (by rw[wok.dn];exact YH) hs' hs (z1.trans ez)
  rw[<- e1,<- ez,hl d' hd',<- z2,this,e2]
omit wok hn hF hl in
theorem QQ(h:Lg o d)(hx:x∈nsOf d):∃j,j < 900/\x=nm o.z o.b j:=by
 unfold nsOf at hx;rw[xF]at hx;rcases hx with hx|hx
 .cases hx
 .rcases uy.mp hx with hx|hx
  .rw[h.n]at hx
   obtain⟨j,hj,rfl⟩:=uz.mp hx
   have:=Ut.mp hj
   have:=h.nl
   exact⟨j,b8,rfl⟩
  .exact h.b x hx
omit hn hF hl in
theorem zdT(h:Lg o d)(z:Str)(k:Nat):nnm z k∉nsOf d:=λhm=>by
 obtain⟨j,_,e⟩:=QQ h hm
 have:=Qo z k
 rw[e]at this
 have:=zeq wok.zc 46 this
 lia
omit wok hn hF hl in
theorem zcb(h:Lg o d):LxB o (nsOf d) d.b:=by
 refine h.lx _ (λy hy=>?_) λy hy=>?_
 .unfold nsOf
  rw[xF];exact .inr (uX _ hy)
 .unfold nsOf
  rw[xF];exact .inr (uK _ hy)
theorem zbu(hd:d∈dfs):DfOk ow (dfs.map (·.z)) d:=by
 have h:=hF d hd;have u:(nsOf d).Nodup:=Wz _ _ (List.Pairwise.nil);refine⟨UH hd,hl d hd,h.nl,uF h.sz b9,?_,u,λx hx=>?_,λX e1 e2 e3=>?_⟩
 .have:=pig (nsOf d) ((uQ 900).map λj=>nm o.z o.b j) u λx hx=>by
   obtain⟨j,hj,rfl⟩:=QQ h hx;exact UH (Ut.mpr hj)
  rw[ub,UR]at this;lia
 .obtain⟨j,_,rfl⟩:=QQ h hx
  exact uF (zde wok.z) b9
 .refine jX (o:=o) (λ{e} hc=>?_) d.b (by rw[e1];exact zcb h)
  rw[e2,e3];exact zca wok hn hF hl hc
theorem zbv(hd:d∈dfs):RtOk ow (dfs.map (·.z)) d:=by
 have h:=hF d hd;have lx:=zcb h;have hdot:=zdT wok h;have hc:∀{e},wp o e->CaD (dfs.map (·.z)) ow e:=λ{e} hc=>zca wok hn hF hl hc;have u3:(upN d.ns (ow d.z)).length<=3:=uF (XJ _ _) h.nl;have dq:=YM d.b lx;have dp:=h.dp;have hw:=jm (nsOf d) ow d.b (upN d.ns (ow d.z)) 0;obtain⟨X,eX⟩:∃X:HX,X=⟨0,0,0,0,0,0,0,0,0,0,nsOf d,ow,dfs.map (·.z)⟩:=⟨_,rfl⟩;have e1:X.ns=nsOf d:=by rw[eX]
 have e2:X.ow=ow:=by rw[eX]
 have e3:X.N=dfs.map (·.z):=by rw[eX]
 have hcX:∀{e},wp o e->CaD X.N X.ow e:=by rw[e2,e3];exact hc
 have lxX:LxB o X.ns d.b:=by rw[e1];exact lx
 have ok:=ji hcX d.b (upN d.ns (ow d.z)) 0 lxX;have bk:=YN (X:=X) (o:=o) (by rw[e1];exact hdot) d.b (upN d.ns (ow d.z)) 0 id (jX hcX d.b lxX) lxX λ_ _=>rfl;rw[e1,e2]at ok bk;rw[e3]at ok;refine⟨ok,?_,?_,bk,hw.1,λn hn=>?_,λn hn hm=>?_,h.nl,hl d hd,uF h.sz b9,dp⟩
 .have:=YK (nsOf d) ow d.b (upN d.ns (ow d.z)) 0
  unfold cdF;lia
 .have:=YQ (nsOf d) ow d.b (upN d.ns (ow d.z)) 0 187 b8
  have:=h.sz
  unfold cdF;lia
 .obtain⟨z,j,e,_⟩:=hw.2.2 n hn
  rw[e];exact Qo z j
 .obtain⟨z,j,e,_⟩:=hw.2.2 n hn
  refine hdot z j ?_;rw[<- e];rcases uy.mp hm with hm|hm
  .unfold nsOf
   rw[xF];exact .inr (uX _ hm)
  .exact YV d.b _ _ lx n hm
end
theorem TT.Ok.kp{t:TT}{st B:aO}(h:t.Ok H)(S:Sta K H st B)(k:Kp st H H'):t.Ok H':=by
 obtain⟨a,ns,i,hst,_⟩:=S;have n:∀{b:aO}{u:HO},H b=sO u->(∀xs,u≠.lst xs)->H' b=sO u:=λ{b u} e n=>k.k b u (λz=>by rw[z,hst]at e;exact n _ (u4.inj e).symm) e;exact h.keep λa _=>a.keep (λps e=>n e nq) λc q e=>n e nq
theorem IsFs.dd{l:List Df}{ps:List aO}(h:IsFs H l ps):∀d∈l,d.b.Dd:=by
 induction h with
 |nil=>intro d hd;cases hd
 |cons a _ ih =>
  intro d hd;rcases uq.mp hd with rfl|hd
  .obtain⟨_,_,_,_,h⟩:=a.ex
   exact h.dd
  .exact ih d hd
def Kt(H H':Hp):Prop:=∀b u,H b=sO u->(∀ps,u≠.tbl ps)->H' b=sO u
theorem Kt.trans(a:Kt H H1)(b:Kt H1 H2):Kt H H2:=λc u e n=>b c u (a c u e n) n
theorem Kt.of(s:Same H H'):Kt H H':=λb u e _=>s b u e
theorem Kt.tups(k:Kt H H'):Tups H H':=λb xs e=>k b _ e nq
theorem TT.Ok.kt{t:TT}(h:t.Ok H)(k:KM t.M H H'):Kt H H':=λb u e n=>k b u (h.no e n) e
structure Ows(H:Hp)(od:aO)(dfs:List Df)(kv:List (Key×V))(ow:Str->List Bool):Prop where
 h:H od=sO (.dK kv)
 a:OwA H od ow (dfs.map (·.z))
 l:∀d∈dfs,(ow d.z).length=d.ns.length
 s:∀p∈kv,∃a,p.2=.ref a
theorem OwI.ows(h:OwI H od dfs):∃kv ow,∀H',Kt H H'->Ows H' od dfs kv ow:=by
 obtain⟨kv,ow,h1,h0,h3,h2⟩:=h;refine⟨kv,ow,λH' k=>⟨k _ _ h1 nq,⟨kv,k _ _ h1 nq,λf hf=>?_⟩,λd hd=>?_,h3⟩⟩
 .obtain⟨d,hd,rfl⟩:=uz.mp hf
  obtain⟨a,e1,e2,_⟩:=h2 d hd;exact⟨a,e1,k.tups _ _ e2⟩
 .obtain⟨_,_,_,e⟩:=h2 d hd
  exact e
theorem OwI.same(h:OwI H od dfs)(s:Same H H'):OwI H' od dfs:=by
 obtain⟨kv,ow,h1,h0,h3,h2⟩:=h;exact⟨kv,ow,s _ _ h1,h0,h3,λd hd=>let ⟨a,e1,e2,e3⟩:=h2 d hd;⟨a,e1,s _ _ e2,e3⟩⟩
theorem OwI.kp{st B:aO}(h:OwI H od dfs)(S:Sta K H st B)(k:Kp st H H'):OwI H' od dfs:=by
 obtain⟨a,ns,i,hst,_⟩:=S;obtain⟨kv,ow,h1,h0,h3,h2⟩:=h;exact⟨kv,ow,k.k _ _ (λz=>by rw[z,hst]at h1;cases h1) h1,h0,h3,λd hd=>let ⟨a,e1,e2,e3⟩:=h2 d hd;⟨a,e1,k.k _ _ (λz=>by rw[z,hst]at e2;cases e2) e2,e3⟩⟩
theorem scLaw:FnScope ["_law_script","_law_state","_law_world_here","_law_program_here","_law_some","_law_owns_here","_law_handed_here","_law_other"] ["_law_script"] (zq sLaw):=.ok
theorem zeB:(["_law_script","_law_state","_law_world_here","_law_program_here","_law_some","_law_owns_here","_law_handed_here","_law_other","_law_one"]:lS).Nodup:=be
theorem zdU{t:TT}(F:Fun K "law" "law" sLaw f fd)(GW:Ca P w K mg base CX0 3 "_law_world" ["_law_state"] (spWorld K))(GP:Ca P w K mg base CX0 (8+2*6) "_law_program" lS10 (spProgram K 6))(GL:Ca P w K mg base CX0 2 "_law_longer" lS23 (spLong K))(GO:Ca P w K mg base CX0 (1+14+1) "_law_owns" lS27 (spOwns K 14))(GH:Ca P w K mg base CX0 9 "held" ["program","owns"] (spHeld t))(GR:Ca P w K mg base CX0 228 "_law_right" lS19 spRight)(GE:Ca P w K mg base CX0 227 "_law_exchanged" lS28 spExch)(m_tuple:mg "tuple"=nO)(m_dict:mg "dict"=nO):FnOk P w K mg base CX0 229 f fd ["_law_script"] (wL K [t.t7,t.t6,t.t5,t.t4,t.t2,t.t1,t.t3]):=by
 refine F.by scLaw ?_ ?_
 .rintro _ _ _ _ ⟨_,_,rfl,_⟩;rfl
 rintro _ _ _ _ H vs _ _ hr ⟨a,ns,rfl,hS,h63,hTs,q⟩;have hr2:Room 2 _:=hr.mono b9;have hr3:Room 3 _:=hr.mono b9;have hr9:Room 9 _:=hr.mono b9;have hr16:Room (1+14+1) _:=hr.mono b9;have hr20:Room (8+2*6) _:=hr.mono b9;have hrE:Room 227 _:=hr.mono b9;have hrR:Room 228 _:=hr;refine⟨_,
  (zh (sE 1 scLaw.nd (zI (jA2 (!0) zp)))
  (zh (sE 2 scLaw.nd (cA GW hr3 (jA1 !1)))
  (zh (sE 3 scLaw.nd (cA GP hr20 (jA3 (!1) (!2) zp)))
  (zh (sE 3 scLaw.nd (zy (jA2 (zj K !3) (zK (zD K) rfl m_tuple uo (jA1 (yn ["_law_one"] rfl (yo K (zj K !3)) (λ_ _ _ _ _=>(gN 8 zeB)) (λ_ _ _ _ _=>zZ) (λ_ _ _ _ _=>(cA GL hr2 (jA3 (!1) (!2) !8)))))))))
  (zh (sE 4 scLaw.nd (zI (jA2 (cA GO hr16 (jA2 (!1) !3)) (cA GO hr16 (jA2 (!1) !3)))))
  (zh (z5 PassesOwn.never rfl (zU K (zI (jA3 (zM K !4) (zM K !4) (zM K !4)))) (gN 5 scLaw.nd)
   (zh (sE 6 scLaw.nd (zK xh rfl m_dict UU (jA1 !5)))
   (zi (zF (jW.pt (yI (yv (zS (cA GR hrR (jA3 (!3) (!5) (cA GH hr9 (jA2 (!3) !6)))))) (yG (tN (zaF hr2) (!6) !5))))
    (zi (zt yC))  zw))))
  (zh (sE 7 scLaw.nd (cA GE hrE (jA2 (!3) (cA GH hr9 (jA2 (!3) (zK xh rfl m_dict UU (jA1 (zM K !4))))))))
  (zi (zt (cA GR hrR (jA3 (!7) (zM K !4) (cA GH hr9 (jA2 (!7) (zK xh rfl m_dict UU (jA1 (zM K !4)))))))))))))))),?_⟩
 have sl:=zN;have LM:LIM=4611686018427387904:=rfl;have cb:CB 6=109200:=rfl;have sz:SZ 6=14560:=rfl;refine¬⟨sN2,λst h1=>?_⟩;have S1:Sta K (upd H st (.lst [.ref a,.int ((0:Nat):Int)])) st 0:=by
  refine⟨a,ns,0,uX9,λe=>?_,(zn h1 _).seq hS,uk _⟩;rcases hS with(h|⟨o,h⟩)|h
  .exact absurd e (zk h h1)
  .exact absurd e (zk h h1)
  .exactλ_=>.inr h
 have em:∀{T ls},T∈[t.t7,t.t6,t.t5,t.t4,t.t2,t.t1,t.t3]->TbG T ls (upd H st (.lst [.ref a,.int ((0:Nat):Int)])):=λ{T ls} m=>.empty (old h1 (hTs T m));have T1:t.Ok (upd H st (.lst [.ref a,.int ((0:Nat):Int)])):=⟨⟨em ba,em ba⟩,em ba,em ba,em ba,em ba,em ba⟩;show(tSeq _ _:TS) _ _ (upd H st (.lst [.ref a,.int ((0:Nat):Int)]));generalize upd H st (.lst [.ref a,.int ((0:Nat):Int)])=H1 at *;refine¬⟨st,0,rfl,S1,b8,λH2 w0 o k2 S2 hW=>?_⟩;refine(zv rfl rfl ⟨st,w0,_,4,o,rfl,S2,b8,hW,b9,b9,λH3 p pk pd p1 p2 t1 t2 ds dfs k3 S3 hp hpk hp1 hp2 ht1 ht2 hpd hFs hdl hok hnm=>?_⟩);have wok:=hW.ok;have T3:=(T1.kp S1 k2).kp S2 k3;have hW3:=hW.kp S2 k3;have hDd:=hFs.dd;have dfl:=hFs.len;have kl:(kd o).length=4:=by
  have:=congrArg tu wok.tk
  rw[ub]at this;unfold kd;rw[ub];exact this
 have hS3:Sm 60 H3 (.ref pk) (.ref pk):=Sm.of hpk hpk (.cons (QN ht1 hp1 (by rw[uv];lia)) (.cons (QN ht2 hp2 (by rw[List.length_drop];lia)) .nil)) (by show 2<=1000000;decide);refine¬(ixT hp aI0 ¬(ixT hp aI1 ⟨pd,rfl,⟨_,SqT.of hpd⟩,xJ (xs:=ds.map V.ref) (λj τ ys H'=>Kp st H3 H'/\Sta K H' st (400000+200*j)/\(∃x,τ=[sR a,sR st,sR w0,sR p,nO,nO,nO,nO,x])/\∃(qs:List aO)(es:List Df),ys=qs.map V.ref/\qs.length=j/\IsFs H' es qs/\es.map (·.z)=(dfs.take j).map (·.z)/\∀e∈es,Lg o e) ⟨.refl,S3.mono b8,⟨_,rfl⟩,[],[],rfl,rfl,.nil,rfl,λe he=>by cases he⟩ (λj τ ys H' _ h=>SqT.of (h.1.tups S3 _ _ hpd)) ?_ ?_⟩))
 .rintro j v τ ys H7 hv ⟨k7,S7,⟨x,rfl⟩,qs,es,rfl,hql,hE,hnE,hdE⟩
  obtain⟨y,hy,rfl⟩:=L2.gM hv;obtain⟨d,hd,hFd⟩:=hFs.get hy;have hm:=uu hd;obtain⟨f1,f2⟩:=hok d hm;have hj:=(uf.mp hy).1;refine¬(¬¬⟨st,w0,y,_,o,d,rfl,S7,b8,hW3.kp S3 k7,hFd.keep (k7.tups S3),zeA f1 f2 (hDd d hm),by have:=f1.2.1;lia,f1.2.2,λH8 p8 d8 k8 S8 h8 L8 z8=>⟨bc,k7.trans k8,S8,⟨_,rfl⟩,qs++[p8],es++[d8],by rw[ur];rfl,by rw[ud,hql];rfl,(hE.keep (k8.tups S7)).app (.cons h8 .nil),?_,λe he=>?_⟩⟩)
  .rw[ur,hnE,uA,hd,ur]
   show _++[d8.z]=_++[d.z];rw[z8]
  .exact(uy.mp he).elim (hdE e) λhe=>by rw[ut.mp he];exact L8
 rintro τ ys H7 ⟨k7,S7,-,qs,es,rfl,hql,hE,hnE,hdE⟩ l7 f7;rw[ub]at hql S7;rw[ub,<- dfl,um (uk _),hnm]at hnE;refine⟨l7,¬(.inl ⟨SqL.of uX9,λp8 f8=>⟨sN2,λp9 f9=>?_⟩⟩)⟩;have s9:Same H7 _:=((zn f7 (.lst (qs.map V.ref))).new (o:=.tup (qs.map V.ref)) f8).new (o:=.tup [.ref pk,.ref p8]) f9;have e9:=uX9 (H:=upd (upd H7 l7 (.lst (qs.map V.ref))) p8 (.tup (qs.map V.ref))) (a:=p9) (o:=.tup [.ref pk,.ref p8]);have e8:=old (o:=.tup [.ref pk,.ref p8]) f9 (uX9 (H:=upd H7 l7 (.lst (qs.map V.ref))) (a:=p8) (o:=.tup (qs.map V.ref)));have T9:=(T3.kp S3 k7).same s9;have S9:=S7.same s9;have E9:=hE.keep (.of s9);have Sm9:=hS3.keep ((k7.tups S3).trans (.of s9));generalize upd (upd (upd H7 l7 (.lst (qs.map V.ref))) p8 (.tup (qs.map V.ref))) p9 (.tup [.ref pk,.ref p8])=H9 at *;have hnd:(es.map (·.z)).Nodup:=by rw[hnE];exact YH
 have hel:=hE.len;clear k2 k3 S1 S2 S3 T1 T3 hW hW3 hp1 hp2 hpk ht1 ht2 hTs hS hFs hpd hp hE S7 k7 hok hDd hS3;have hb:∀d∈es,d.ns.length<=3/\d.b.sz<=1000000/\d.b.dp<=14:=λd hd=>⟨(hdE d hd).nl,uF (hdE d hd).sz b9,(hdE d hd).dp⟩;refine(zv rfl rfl ⟨st,p9,p8,.ref pk,qs,es,_,rfl,S9,b8,e9,e8,E9,b8,hb,hnd,λH10 o1 k10 S10 O1=>?_⟩);have t10:=k10.tups S9;refine(zv rfl rfl ⟨st,p9,p8,.ref pk,qs,es,_,rfl,S10,b8,t10 _ _ e9,t10 _ _ e8,E9.keep t10,b8,hb,hnd,λH11 o2 k11 S11 O2=>⟨sN2,λls fs=>?_⟩⟩);have s12:=zn (o:=.lst [.ref o1,.ref o2]) fs;have e12:=uX9 (H:=H11) (a:=ls) (o:=.lst [.ref o1,.ref o2]);have t12:=t10.trans ((k11.tups S10).trans (.of s12));obtain⟨kv1,ow1,hO1⟩:=OwI.ows ((O1.kp S10 k11).same s12);obtain⟨kv2,ow2,hO2⟩:=OwI.ows (O2.same s12);have T12:=((T9.kp S9 k10).kp S10 k11).same s12;have e9:=t12 _ _ e9;have e8:=t12 _ _ e8;have E9:=E9.keep t12;have Sm9:=Sm9.keep t12;dsimp only[U7,L2.start]
 generalize upd H11 ls (.lst [.ref o1,.ref o2])=H12 at *;clear k10 k11 S9 S10 S11 O1 O2 T9 s9 s12 t10 t12;refine¬(ixL e12 aI0 ¬(ixL e12 aI1 ¬(ixL e12 aI0 ⟨sN3,λl13 f13=>?_⟩)));have s13:=zn (o:=.lst [.ref o1,.ref o2,.ref o1]) f13;have e13:=uX9 (H:=H12) (a:=l13) (o:=.lst [.ref o1,.ref o2,.ref o1]);have T13:=T12.same s13;have kA:Kt H12 (upd H12 l13 (.lst [.ref o1,.ref o2,.ref o1])):=.of s13;generalize upd H12 l13 (.lst [.ref o1,.ref o2,.ref o1])=H13 at *;have wokN:=wok;have rnd:∀(H5:Hp)(pp pp' od l5:aO)(qs':List aO)(kv:List (Key×V))(ow:Str->List Bool)(Q5:VK),t.Ok H5->H5 pp=sO (.tup [.ref pk,.ref pp'])->H5 pp'=sO (.tup (qs'.map V.ref))->IsFs H5 es qs'->Sm 60 H5 (.ref pk) (.ref pk)->Ows H5 od es kv ow->H5 l5=sO (.dK kv)->(∀H6 r q6 rs,Kt H5 H6->t.Ok H6->H6 r=sO (.tup [.ref pk,.ref q6])->H6 q6=sO (.tup (rs.map V.ref))->All2 (IsHF H6 ow) es rs->(∀d∈es,RtOk ow (es.map (·.z)) d)->Q5 (.ref r) H6)->spHeld t [.ref pp,.ref l5] H5 Q5 E0:=by
  intro H5 pp pp' od l5 qs' kv ow Q5 T5 h1 h2 hE hS hO hl q5;obtain⟨kv',hod,hov⟩:=hO.a;rw[hO.h]at hod;cases hod;exact⟨pp,pp',l5,.ref pk,qs',es,ow,es.map (·.z),rfl,h1,h2,hE,b8,⟨kv,hl,hov⟩,λd hd=>zbu wok hnE hdE hO.l hd,T5,λH6 r q6 rs k6 T6 hr6 hq6 hA6=>q5 H6 r q6 rs (T5.kt k6) T6 hr6 hq6 hA6 λd hd=>zbv wok hnE hdE hO.l hd⟩
 refine⟨l13,rfl,⟨_,SqL.of e13⟩,xm (xs:=[.ref o1,.ref o2,.ref o1]) (λi σ H'=>(Kt H13 H'/\t.Ok H')/\∃y y',σ=[sR a,sR st,sR w0,sR p9,sR ls,y,y',nO]) ⟨⟨Kt.of (.refl _),T13⟩,_,_,rfl⟩ (λi σ H' _ h=>SqL.of (h.1.1 _ _ e13 nq)) ?_ ?_⟩
 .rintro i v σ H7 hv ⟨⟨k7,T7⟩,y,y',rfl⟩
  obtain⟨od,kv,ow,rfl,hO⟩:∃od kv ow,v=.ref od/\∀H',Kt H12 H'->Ows H' od es kv ow:=by
   match i,hv with
   |0,hv=>cases hv;exact⟨_,_,_,rfl,hO1⟩
   |1,hv=>cases hv;exact⟨_,_,_,rfl,hO2⟩
   |2,hv=>cases hv;exact⟨_,_,_,rfl,hO1⟩
  have k127:=kA.trans k7;refine¬⟨od,kv,rfl,(hO H7 k127).h,λl5 f5=>?_⟩;have s5:=zn (o:=.dK kv) f5;have e5:=uX9 (H:=H7) (a:=l5) (o:=.dK kv);have T5:=T7.same s5;have k5:=k127.trans (.of s5);have k75:Kt H7 (upd H7 l5 (.dK kv)):=.of s5;dsimp only[U7]
  generalize upd H7 l5 (.dK kv)=H5 at *;have t5:=k5.tups;refine¬(¬¬(¬(rnd H5 p9 p8 od l5 qs kv ow _ T5 (t5 _ _ e9) (t5 _ _ e8) (E9.keep t5) (Sm9.keep t5) (hO _ k5) e5 λH6 r q6 rs k6 T6 hr6 hq6 hA6 hRt=>?_)));have k126:=k5.trans k6;have t6:=k126.tups;refine⟨p9,od,r,p8,q6,.ref pk,qs,rs,es,ow,es.map (·.z),rfl,t6 _ _ e9,t6 _ _ e8,E9.keep t6,hr6,hq6,hA6,(hO _ k126).a,Sm9.keep t6,b8,hRt,λH8 s8=>¬(iteF ?_)⟩;have O8:=hO H8 (k126.trans (.of s8));refine¬(¬⟨l5,od,kv,rfl,rfl,s8 _ _ (k6 _ _ e5 nq),O8.h,O8.s,¬(iteF (nxtC ⟨⟨((k7.trans k75).trans k6).trans (.of s8),T6.same s8⟩,_,_,rfl⟩))⟩)
 rintro σ H7 ⟨⟨k7,T7⟩,y,y',rfl⟩;have k127:=kA.trans k7;have e127:=k127 _ _ e12 nq;refine¬(¬¬(ixL e127 aI0 ⟨o1,kv1,rfl,(hO1 H7 k127).h,λl5 f5=>?_⟩));have s5:=zn (o:=.dK kv1) f5;have e5:=uX9 (H:=H7) (a:=l5) (o:=.dK kv1);have T5:=T7.same s5;have k5:=k127.trans (.of s5);generalize upd H7 l5 (.dK kv1)=H5 at *;have t5:=k5.tups;refine rnd H5 p9 p8 o1 l5 qs kv1 ow1 _ T5 (t5 _ _ e9) (t5 _ _ e8) (E9.keep t5) (Sm9.keep t5) (hO1 _ k5) e5 λH6 r q6 rs k6 T6 hr6 hq6 hA6 hRt=>?_;have k126:=k5.trans k6;have t6:=k126.tups;refine⟨p9,r,p8,q6,.ref pk,qs,rs,es,ow1,es.map (·.z),rfl,t6 _ _ e9,t6 _ _ e8,E9.keep t6,hr6,hq6,hA6,b8,hRt,λH8 p' pd' ps' s8 h1 h2 hE8=>?_⟩;have k128:=k126.trans (.of s8);have e128:=k128 _ _ e12 nq;have T8:=T6.same s8;refine¬(¬(ixL e128 aI0 ¬(¬(ixL e128 aI0 ⟨o1,kv1,rfl,(hO1 H8 k128).h,λl9 f9=>?_⟩))));have s9:=zn (o:=.dK kv1) f9;have e9':=uX9 (H:=H8) (a:=l9) (o:=.dK kv1);have T9:=T8.same s9;have k9:=k128.trans (.of s9);have h1:=s9 _ _ h1;have h2:=s9 _ _ h2;have hE9:=hE8.keep (.of s9);generalize upd H8 l9 (.dK kv1)=H9' at *;have t9:=k9.tups;refine rnd H9' p' pd' o1 l9 ps' kv1 ow1 _ T9 h1 h2 hE9 (Sm9.keep t9) (hO1 _ k9) e9' λH10 r10 q10 rs10 k10 T10 hr10 hq10 hA10 hRt10=>?_;have k1210:=k9.trans k10;have t10:=k10.tups;exact⟨p',o1,r10,pd',q10,.ref pk,ps',rs10,es,ow1,es.map (·.z),rfl,t10 _ _ h1,t10 _ _ h2,hE9.keep t10,hr10,hq10,hA10,(hO1 _ k1210).a,Sm9.keep k1210.tups,b8,hRt10,λH11 s11=>q _⟩
end
structure TopK(K:uc)(cB cP cL:aO):Prop where
 qah:OwnIn K "Begun" cB
 ql:uU K (.ref cB) "within"=sO nO
 qm:uU K (.ref cB) "finish"=sO nO
 qk:uU K (.ref cB) "results"=sO nO
 qag:OwnIn K "Putter" cP
 qq:uU K (.ref cP) "owns"=sO nO
 qr:uU K (.ref cP) "bits"=sO nO
 qs:uU K (.ref cP) "many"=sO nO
 qai:OwnIn K "Place" cL
 qA:uU K (.ref cL) "body"=sO nO
 qB:uU K (.ref cL) "note"=sO nO
 qt:uU K (.ref cL) "names"=sO nO
 qaj:DcIn K "noted" w5 81
 qC:DcIn K "begun_note" yZ 86
 q5:DcIn K "held_def" wQ 129
 qu:DcIn K "begun_place" x9 197
 qv:DcIn K "begun_piece" xE 202
 qT:DcIn K "begun_let" vy 207
 qD:DcIn K "begun_case" wR 219
 hc1:u6 K 81 77=tU
 hc2:u6 K 86 84=tU
 hc3:u6 K 129 127=tU
 hc4:u6 K 197 195=tU
 hc5:u6 K 202 200=tU
 hc6:u6 K 207 205=tU
 hc7:u6 K 219 217=tU
 qac:DfIn K "ways_on" Ju
 qak:DfIn K "bound" Xk
 qg:MeIn K cB "__init__" "Begun.__init__" Xl
 q6:DfIn K "only_one" Jv
 qE:DfIn K "worked_out" Zk
 qad:DfIn K "bits_of" Jw
 q7:DfIn K "together" sTog
 q8:DfIn K "names_of" vU
 qF:DfIn K "names_used" wr
 qae:DfIn K "note_of" Zl
 qd:MeIn K cP "new_name" "Putter.new_name" vW
 qe:MeIn K cP "is_ahead" "Putter.is_ahead" vX
 qn:MeIn K cP "spent" "Putter.spent" Xr
 qG:DfIn K "with_drops" Xs
 qH:DfIn K "with_holds" Xt
 qI:DfIn K "with_names" Jx
 qaf:DfIn K "used_up" Zp
 qU:DfIn K "held_deed" w6
 qh:MeIn K cL "__init__" "Place.__init__" Zq
 qf:MeIn K cP "__init__" "Putter.__init__" Zr
 qV:DfIn K "held_arms" w9
 qan:DfIn K "held" JC
 qW:DfIn K "_law_draw" Jy
 qX:DfIn K "_law_name" sNm
 qJ:DfIn K "_law_sorts" Xm
 qK:DfIn K "_law_world" Xn
 qL:DfIn K "_law_kinds" Xo
 qY:DfIn K "_law_pick" Jz
 qM:DfIn K "_law_picks" Xp
 qw:DfIn K "_law_handed" Zm
 qZ:DfIn K "_law_deed" JA
 qN:DfIn K "_law_rooms" Xq
 q0:DfIn K "_law_case" JB
 q1:DfIn K "_law_body" We
 q9:DfIn K "_law_def" sDef
 qo:DfIn K "_law_program" vV
 qO:DfIn K "_law_named" vz
 q2:DfIn K "_law_owns" Xu
 q3:DfIn K "_law_same" Zs
 qi:DfIn K "_law_deed_back" Xv
 q4:DfIn K "_law_back" Wf
 qx:DfIn K "_law_pieces" vx
 qa:DfIn K "_law_deed_formed" Xw
 qb:DfIn K "_law_case_formed" Xx
 qP:DfIn K "_law_clean" Xy
 qQ:DfIn K "_law_bound" JD
 qaa:DfIn K "_law_new" JE
 qR:DfIn K "_law_right" Zo
 qp:DfIn K "_law_is_name" JF
 qc:DfIn K "_law_called_deed" JG
 qy:DfIn K "_law_called" Wg
 qj:DfIn K "_law_exchanged" JH
 qz:DfIn K "_law_longer" Zn
 qar:DfIn K "law" sLaw
 qas:Uh K mainGlobals "len"=sO nO
 qal:Uh K mainGlobals "range"=sO nO
 qao:Uh K mainGlobals "list"=sO nO
 qam:Uh K mainGlobals "tuple"=sO nO
 qat:Uh K mainGlobals "zip"=sO nO
 qau:Uh K mainGlobals "max"=sO nO
 qab:Uh K mainGlobals "reversed"=sO nO
 qap:Uh K mainGlobals "dict"=sO nO
 qS:Uh K mainGlobals "isinstance"=sO nO
 qav:Uh K mainGlobals "str"=sO nO
 qaq:Uh K mainGlobals "bool"=sO nO
 qaw:Uh K mainGlobals "int"=sO nO
 qax:Uh K mainGlobals "all"=sO nO
theorem top_ok{l:PySem.W.OpenLaw}{K:uc}(T:TopK K cB cP cL)(X:K.In h)(G:h.Ns mainGlobals mg)(hfa:mg "law"=sO (.ref fa)):
  ∃fd:FuncData,(∀(s:Shared)(u:aA),BindsTo s fd ⟨[u],[]⟩ [("_law_script",u)])/\∀base:Heap,K.In base->base.Ns mainGlobals mg->BMn mg base->FnOk l.prog w K mg base CX0 229 fa fd ["_law_script"] (wL K [217,205,200,195,84,77,127]):=by
 refine Jo T.qar X G hfa (λ_ _ _ _ _ _ s v=>.of_eq rfl) λbase fd hBM FL=>?_;have qas:mg "len"=nO:=Ub X G T.qas;have qal:mg "range"=nO:=Ub X G T.qal;have qao:mg "list"=nO:=Ub X G T.qao;have qam:mg "tuple"=nO:=Ub X G T.qam;have qat:mg "zip"=nO:=Ub X G T.qat;have qau:mg "max"=nO:=Ub X G T.qau;have qab:mg "reversed"=nO:=Ub X G T.qab;have qap:mg "dict"=nO:=Ub X G T.qap;have qS:mg "isinstance"=nO:=Ub X G T.qS;have qav:mg "str"=nO:=Ub X G T.qav;have qaq:mg "bool"=nO:=Ub X G T.qaq;have qaw:mg "int"=nO:=Ub X G T.qaw;have qax:mg "all"=nO:=Ub X G T.qax;have n_Begun:mg "Begun"=sO (.ref cB):=U8 X G T.qah.n;have n_Putter:mg "Putter"=sO (.ref cP):=U8 X G T.qag.n;have n_Place:mg "Place"=sO (.ref cL):=U8 X G T.qai.n;have BN:Bn K cB:=⟨T.qah.cls,T.ql,T.qm,T.qk⟩;have PN:Pn K cP:=⟨T.qag.cls,T.qq,T.qr,T.qs⟩;have LN0:Ln K cL:=⟨T.qai.cls,T.qA,T.qB,T.qt⟩;have G1:=DfIn.cb (P:=l.prog) (w:=w) (base:=base) X G T.qac λf fd F=>zaT F;have G2:=DfIn.cb X G T.qak λf fd F=>Qd F G1 qas qab qao;have GB:=T.qg.ma (P:=l.prog) (w:=w) (mg:=mg) (base:=base) (x:="Begun") (ps:=lS22) (λ_ _ _ _ _ _=>us3 λ_ _ _=>rfl) T.qah.mks T.qah.kp n_Begun λf fd F=>JS F BN;have GO:=DfIn.cb (P:=l.prog) (w:=w) (base:=base) X G T.q6 λf fd F=>zaV F;obtain⟨fo,fdo,GO1,GO2,GO3,GO4⟩:=GO.ex;have GW4:=DfIn.cb (P:=l.prog) (w:=w) (base:=base) X G T.qE λf fd F=>jK (k:=4) F BN GB GO1 GO2 GO3 GO4 qas b9;have GW6:=DfIn.cb (P:=l.prog) (w:=w) (base:=base) X G T.qE λf fd F=>jK (k:=6) F BN GB GO1 GO2 GO3 GO4 qas b9;have GBi:=DfIn.cb (P:=l.prog) (w:=w) (base:=base) X G T.qad λf fd F=>zaY F;have GT:=DfIn.cb (P:=l.prog) (w:=w) (base:=base) X G T.q7 λf fd F=>zdo F;have GNo:=DfIn.cb (P:=l.prog) (w:=w) (base:=base) X G T.q8 λf fd F=>XD F;have GU:=DfIn.cb X G T.qF λf fd F=>zaZ F GNo;have GNt:=DfIn.cb X G T.qae λf fd F=>Vm F GT GU qat;have GBn:=DcIn.ca (P:=l.prog) (w:=w) (base:=base) X G T.qC (ps:=lS12) (λ_ _ _ _ _=>us2 λ_ _=>rfl) λf fd F=>XE F hBM T.hc2 G1;have GNd:=DcIn.ca (P:=l.prog) (w:=w) (base:=base) X G T.qaj (ps:=lS12) (λ_ _ _ _ _=>us2 λ_ _=>rfl) λf fd F=>J3 F hBM T.hc1 b9 GBn GNt GW4;have MN:=T.qd.me (P:=l.prog) (w:=w) (mg:=mg) (base:=base) (ps:=["self","name"]) (λ_ _ _ _ _ _=>us2 λ_ _=>rfl) λf fd F=>zdu F PN;have MA:=T.qe.me (P:=l.prog) (w:=w) (mg:=mg) (base:=base) (ps:=lS15) (λ_ _ _ _ _ _=>us3 λ_ _ _=>rfl) λf fd F=>zdv F PN;have MS:=T.qn.me (P:=l.prog) (w:=w) (mg:=mg) (base:=base) (ps:=lS24) (λ_ _ _ _ _ _=>us3 λ_ _ _=>rfl) λf fd F=>J8 F PN MN;have GDr:=DfIn.cb (P:=l.prog) (w:=w) (base:=base) X G T.qG λf fd F=>J9 F qab;have GHo:=DfIn.cb (P:=l.prog) (w:=w) (base:=base) X G T.qH λf fd F=>Qa F qab;have GWn:=DfIn.cb (P:=l.prog) (w:=w) (base:=base) X G T.qI λf fd F=>zbb F qam;have GUu:=DfIn.cb X G T.qaf λf fd F=>Vr F GNo qam;have GHd:=DfIn.cb X G T.qU λf fd F=>Yz F GNo GWn qat;have GPl:=T.qh.ma (P:=l.prog) (w:=w) (mg:=mg) (base:=base) (x:="Place") (ps:=lS3) (λ_ _ _ _ _ _=>us4 λ_ _ _ _=>rfl) T.qai.mks T.qai.kp n_Place λf fd F=>Vt F LN0;have GPu:=T.qf.ma (P:=l.prog) (w:=w) (mg:=mg) (base:=base) (x:="Putter") (ps:=lS25) (λ_ _ _ _ _ _=>us3 λ_ _ _=>rfl) T.qag.mks T.qag.kp n_Putter λf fd F=>Vu F PN GBi G2;have GAr:=DfIn.cb (P:=l.prog) (w:=w) (base:=base) X G T.qV λf fd F=>YA F qam qat;have GBp:∀Y:HX,XOk Y->Y.cP=cP->Y.cL=cL->Y.T4=195->Y.T5=200->Y.T6=205->Y.T7=217->Ca l.prog w K mg base CX0 5 "begun_place" lS1 (spBegPl l.prog w K mg base Y):=by
  rintro⟨y1,y2,pu,dx,od,bd,x4,x5,x6,x7,y3,y4,y5⟩ x0 e1 e2 e4 e5 e6 e7;dsimp only at e1 e2 e4 e5 e6 e7
  subst e1 e2 e4 e5 e6 e7;have GLt:=DcIn.ca (P:=l.prog) (w:=w) (base:=base) X G T.qT (ps:=lS1) (λ_ _ _ _ _=>us2 λ_ _=>rfl) λf fd F=>Vw F hBM T.hc6 x0 PN LN0 GUu GNo MA MS GHd GPl GHo qat;have GCs:=DcIn.ca (P:=l.prog) (w:=w) (base:=base) X G T.qD (ps:=lS1) (λ_ _ _ _ _=>us2 λ_ _=>rfl) λf fd F=>XH F hBM T.hc7 x0 PN LN0 MA GPl GAr qat qao;have GPi:=DcIn.ca (P:=l.prog) (w:=w) (base:=base) X G T.qv (ps:=lS1) (λ_ _ _ _ _=>us2 λ_ _=>rfl) λf fd F=>YD F hBM T.hc5 x0 PN LN0 GLt GCs MS GPl GHo qat qam;exact DcIn.ca (P:=l.prog) (w:=w) (base:=base) X G T.qu (ps:=lS1) (λ_ _ _ _ _=>us2 λ_ _=>rfl) λf fd F=>YE F hBM T.hc4 x0 PN LN0 MA GPi GPl GDr
 have GHf:=DcIn.ca (P:=l.prog) (w:=w) (base:=base) X G T.q5 (ps:=["one","owns"]) (λ_ _ _ _ _=>us2 λ_ _=>rfl) λf fd F=>XI (t:=⟨77,84,127,195,200,205,217⟩) F hBM T.hc3 b9 PN LN0 GPu GPl GNd GW6 GBp qat qam;have GHe:=DfIn.cb (P:=l.prog) (w:=w) (base:=base) X G T.qan λf fd F=>zbg F GHf qam;have LD:=DfIn.cb (P:=l.prog) (w:=w) (base:=base) X G T.qW λf fd F=>zaI F qas;have LN:=DfIn.cb (P:=l.prog) (w:=w) (base:=base) X G T.qX λf fd F=>zeh F;have LS:=DfIn.cb X G T.qJ λf fd F=>JJ F LD qal;have LW:=DfIn.cb X G T.qK λf fd F=>JL F LD LN LS qal;have LK:=DfIn.cb (P:=l.prog) (w:=w) (base:=base) X G T.qL λf fd F=>JQ F qas qam;have LP:=DfIn.cb X G T.qY λf fd F=>zaL F LD qas;have LQ:=DfIn.cb X G T.qM λf fd F=>JM F LP qam;have LH:=DfIn.cb X G T.qw λf fd F=>Ve F LD LQ qas qal qau;have LE:=DfIn.cb X G T.qZ λf fd F=>zaO F LD LP LQ LH;have LR:=DfIn.cb X G T.qN λf fd F=>JO F LD qal;have LB:∀n:Nat,Ca l.prog w K mg base CX0 (6+2*n) "_law_body" lS0 (spBody K n):=by
  intro n
  induction n with
  |zero=>exact DfIn.cb (P:=l.prog) (w:=w) (base:=base) X G T.q1 λf fd F=>JP F
  |succ n ih =>
   have LC:=DfIn.cb (P:=l.prog) (w:=w) (base:=base) X G T.q0 λf fd F=>zaR (n:=n) F LD LN LP LR ih qas qal qat qao qam;exact DfIn.cb (P:=l.prog) (w:=w) (base:=base) X G T.q1 λf fd F=>zaS F LD LN LP LR LE LC ih
 have LF:=DfIn.cb X G T.q9 λf fd F=>zdj F LN (LB 6) qas qal qat qao qam;have LG:=DfIn.cb X G T.qo λf fd F=>XB F LK LF qal qam;have LNa:∀n:Nat,Ca l.prog w K mg base CX0 (1+n) "_law_named" ["_law_body_here"] (spNamed n):=by
  intro n
  induction n with
  |zero=>exact DfIn.cb (P:=l.prog) (w:=w) (base:=base) X G T.qO λf fd F=>Vy F
  |succ n ih=>exact DfIn.cb (P:=l.prog) (w:=w) (base:=base) X G T.qO λf fd F=>Qk F ih
 have LOw:=DfIn.cb X G T.q2 λf fd F=>Qm F LD (LNa 14) qam;have LSm:∀n:Nat,Ca l.prog w K mg base CX0 (1+n) "_law_same" lS11 (spSm n):=by
  intro n
  induction n with
  |zero=>exact DfIn.cb (P:=l.prog) (w:=w) (base:=base) X G T.q3 λf fd F=>zdQ F
  |succ n ih=>exact DfIn.cb (P:=l.prog) (w:=w) (base:=base) X G T.q3 λf fd F=>zex F ih qS qam qav qaq qaw qas qat qax
 have LDb:=DfIn.cb (P:=l.prog) (w:=w) (base:=base) X G T.qi λf fd F=>(YR qam).1 F;have LBk:∀n:Nat,Ca l.prog w K mg base CX0 (2+n) "_law_back" lS8 (spBack n):=by
  intro n
  induction n with
  |zero=>exact DfIn.cb (P:=l.prog) (w:=w) (base:=base) X G T.q4 λf fd F=>QF F
  |succ n ih=>exact DfIn.cb (P:=l.prog) (w:=w) (base:=base) X G T.q4 λf fd F=>zbi F ih LDb qam qap
 have LPc:∀n:Nat,Ca l.prog w K mg base CX0 (1+n) "_law_pieces" ["_law_body_here"] (spPcs n):=by
  intro n
  induction n with
  |zero=>exact DfIn.cb (P:=l.prog) (w:=w) (base:=base) X G T.qx λf fd F=>zbl F
  |succ n ih=>exact DfIn.cb (P:=l.prog) (w:=w) (base:=base) X G T.qx λf fd F=>zdP F ih
 have LDf:=DfIn.cb (P:=l.prog) (w:=w) (base:=base) X G T.qa λf fd F=>zev F qS qam qas;have LCf:=DfIn.cb (P:=l.prog) (w:=w) (base:=base) X G T.qb λf fd F=>zew F qS qam qas;have LCl:=DfIn.cb X G T.qP λf fd F=>QH F LCf LDf qS qam qas qaw;have LBn:=DfIn.cb (P:=l.prog) (w:=w) (base:=base) X G T.qQ λf fd F=>zbp F qao;have LNw:=DfIn.cb X G T.qaa λf fd F=>zbq F LBn qS qav;have LRi:=DfIn.cb X G T.qR λf fd F=>QO F (LSm 60) (LPc 225) LCl LNw (LBk 225) qS qam qas qat;have LIs:=DfIn.cb (P:=l.prog) (w:=w) (base:=base) X G T.qp λf fd F=>zbr F;have LCd:=DfIn.cb (P:=l.prog) (w:=w) (base:=base) X G T.qc λf fd F=>(YR qam).2 F;have LCa:∀n:Nat,Ca l.prog w K mg base CX0 (2+n) "_law_called" lS9 (spCal n):=by
  intro n
  induction n with
  |zero=>exact DfIn.cb (P:=l.prog) (w:=w) (base:=base) X G T.qy λf fd F=>zbj F
  |succ n ih=>exact DfIn.cb (P:=l.prog) (w:=w) (base:=base) X G T.qy λf fd F=>zdO F ih LCd qam
 have LEx:=DfIn.cb X G T.qj λf fd F=>zbs F (LPc 225) LIs LBn (LCa 14) qam qap qat;have LLo:=DfIn.cb X G T.qz λf fd F=>zbt F LD LN qal qam qao qas qaw;exact zdU (t:=⟨77,84,127,195,200,205,217⟩) FL LW LG LLo LOw GHe LRi LEx qam qap
end GN
structure PySem.W.Fast:Prop where(tw9551988894947083444 tw7392594158319993644 tw81274283353497593 tw1612564376926197881 tw6904646474589424995 tw5554733717495626272 tw5307845334025502326 tw13472665166159328215 tw7738701645463102983 tw13619643626749514040 tw8862415472239085864 tw830114111019576121 tw7414997732904144445 tw7438832830866994270 tw16745010223155649437 tw10085530497619114833 tw2168057739247037072 tw15839333361811988725 tw16253150128091068016 tw5780509846204670319 tw16331142877406355330 tw1932120580514094523 tw9780621719066210786 tw17278789256551406986 tw9266715569157157288 tw10759109276814153123 tw14839484357526796975 tw14802031478712293890 tw10391601568591065654 tw3100045176827721815 tw10630971723606793874 tw13410645475965049704 tw7365847827230097902 tw6444473105267830244 tw2325254971506881322 tw16991635116577641122 tw4027107933414144132 tw8146605765233013780 tw3667497345406305816 tw12706682162503399736 tw8623534971664699567 tw4161954263257020571 tw1394905654727752490 tw11315994887160256543 tw12284248670509484058 tw3228513154098277321 tw3814183327932301270 tw18136427524851577157 tw12440762294167039785 tw341706832303874541 tw5412379938047934410 tw6002329293256743978 tw6267359005013409273 tw11227137861947279414 tw15914559747361566009 tw14300006025772013343 tw12424246761080362953 tw18087529270182875883 tw6510145857777842042 tw2409259906648180173 tw15814670979738025199 tw9698419790281459629 tw8166733600214585102 tw325944993156456614 tw10875018633303487225 tw9190731150807477148 tw8773246000263459622 tw16202069263500699430 tw3258329540053092703 tw6658264959903810204 tw14479683879959151918 tw3182388623319844052 tw7189247485353346133 tw2495576236996908276 tw4155921687590889780 tw3519265242324978709 tw15505910606744701185 tw10916085142139452433 tw14508315734637122029 tw11803360104865724865 tw11831716325925324036 tw15245006037100013976 tw2114907026957354095 tw16291067031819620608 tw1093183393843804444 tw3669732499934188198 tw7812583318785704841 tw6301637134170813227 tw6566789906214285195 tw236232606913359215 tw3632027848080355305 tw5138995254757650618 tw3446672674310981344 tw652126000530213573 tw4777243159163157688 tw10529989427147478487 tw11752518603945393526 tw9923995056161768885 tw14197373978604833546 tw4803420881103291020 tw13012171749620423094 tw11792095363311198032 tw10252790295573564580 tw13464553508358526773 tw16484179464970337840 tw10106300535242489690 tw2141503447739508276 tw4746115917275053129 tw14694486150498719295 tw6220394874353195616 tw10063660144054591025 tw15753883396700651823 tw16619920563690836979 tw9155772782445267810 tw1603133202497556430 tw6856172038246947233 tw6630775440235115034 tw9186019891525747705 tw2495388885827316800 tw10367982056756579494 tw15566864412329412970 tw18024472098182952008 tw17984305953332756554 tw1435969955026072746 tw17056638179751568239 tw12655567143068091068 tw11535337246532716360 tw10665851226263751776 tw15009178518705350975 tw4879511212964443963 tw16726339009483837301 tw5047840282563651812 tw7393364116804123419 tw10636435834854104846 tw8296768451310391280 tw5059941124723914294 tw4987960416143467330 tw1421577483455930244 tw8139056609102586251 tw359821531278165631 tw6171821668799129194 tw2564524706280348444 tw6999846844252677997 tw10759863251330820463 tw2748143030959499947 tw1262031288262870943 tw380377382877589142 tw10663833043338313984 tw14483683587248090600 tw10846711026842524958 tw5472852858379398985 tw18214212425017797428 tw14300025506025178391 tw4793510325970896297 tw10505978736112800047 tw3388911410892144751 tw7419876673634053542 tw5299603955380868744 tw13546550674240383224 tw16586367236488846417 tw209546837281736832 tw10868466127115521536 tw11077753619861991035 tw2570318238503076651 tw7236200205150960805 tw3436407659084274034 tw13677139705729058738 tw3562177936906187267 tw14580331383805024803 tw1268850052264753416 tw7298623974276103903 tw12098759359058634621 tw11653252064317386623 tw9182706710186839784 tw5335903344302724891 tw15400658739316955957 tw833411839709116194 tw4839184044606213526 tw13649292435017721324 tw12640495266852270048 tw10199321062632048332 tw14150184999021313252 tw6630440025233967030 tw2252749899632843175 tw14865110479586840850 tw8373846631133910248 tw7351242813599543047 tw15745281448796468953 tw9155576534533613493 tw1917887618878305876 tw3310065417742875963 tw13244496942063205143 tw7519189113935902967 tw11743049334216289885 tw12522287572632848318 tw15398016562646017857 tw6331213238139643375 tw5681754640757033091 tw941613909897707711 tw9926020634312202560 tw10403633268527324777 tw1586270652549484588 tw7326207399581659209 tw4051466752368215969 tw12537613972541124125 tw12642320012266969912 tw14582991826846237009 tw8905987220923584472 tw4167602709168293813 tw2558320554172752855 tw5125052122764889800 tw1641018266207158663 tw10506146053778100398 tw14487930508760435208 tw12266829933868539914 tw2714972132609675737 tw557030247217328047 tw14624412081780753049 tw16736109539426346723 tw16670693246543767276 tw12223717676510215136 tw12349298655552901533 tw4018567915625716086 tw7068126065900679787 tw2796752362887448807 tw2837421838352067455 tw5163625129471077963 tw16162032187483871241 tw14451701747526626308 tw49745694190859982 tw688337237424023028 tw11304206622985350484 tw2647066503765023868 tw4158160796109299861 tw1660841054818202373 tw16715908387157364394 tw12200729180680141237 tw11715440582908834235 tw11874341302447369944 tw18314359840387748397 tw16224287798486627256 tw8251049859773089476 tw11019019701380337566 tw11455479290989305743 tw2786934527224797639 tw8013759338538174225 tw14013030983712035475 tw12236666426460074860 tw3275468830332953481 tw811583419539582310 tw10286063418403270537 tw1615921551961056304 tw67149932367088710 tw15682109594488735336 tw13668265757792641764 tw8052892034420490901 tw215857910538521766 tw16896395977995506175 tw15046988466874274819 tw16199261019942963553 tw10529444603410917387 tw10418298102697910252 tw1354647084448832007 tw5162623841304859316 tw272561822335259006 tw10324004668123716768 tw5883797543489063122 tw15264967716355567716 tw601426319911686236 tw3278505172570401426 tw13129515690696013618 tw11429257232820014209 tw16437054916210889379:True)
open PySem PySem.W PyProof.Rows
set_option maxRecDepth 100000 in
set_option maxHeartbeats 0 in
theorem PySem.Challenge.cw_reusewise_k44_the_same_program_holds : PySem.Challenge.rw_reusewise_k44_the_same_program.Holds := by
 w_on;o_law;k_head;(case hw=>w_witness2)
 k_fill
 refine L2.walkTs (l:=PySem.Challenge.rw_reusewise_k44_the_same_program) (k:=229) (Ts:=[217,205,200,195,84,77,127]) rfl ⟨rfl,by decide,by decide⟩ rfl rfl (λp T hT=>by
  simp only[uq,Ug,or_false]at hT
  rcases hT with rfl|rfl|rfl|rfl|rfl|rfl|rfl
  .exact⟨219,rfl⟩
  .exact⟨207,rfl⟩
  .exact⟨202,rfl⟩
  .exact⟨197,rfl⟩
  .exact⟨86,rfl⟩
  .exact⟨81,rfl⟩
  .exact⟨129,rfl⟩
  ) (λp T hT=>by
  simp only[uq,Ug,or_false]at hT
  rcases hT with rfl|rfl|rfl|rfl|rfl|rfl|rfl
  .exact rfl
  .exact rfl
  .exact rfl
  .exact rfl
  .exact rfl
  .exact rfl
  .exact rfl
  ) ?F
 case F =>
  intro w mg fa h KX G hm
  refine' GN.top_ok (GN.TopK.mk ?qah ?ql ?qm ?qk ?qag ?qq ?qr ?qs ?qai ?qA ?qB ?qt ?qaj ?qC ?q5 ?qu ?qv ?qT ?qD ?hc1 ?hc2 ?hc3 ?hc4 ?hc5 ?hc6 ?hc7 ?qac ?qak ?qg ?q6 ?qE ?qad ?q7 ?q8 ?qF ?qae ?qd ?qe ?qn ?qG ?qH ?qI ?qaf ?qU ?qh ?qf ?qV ?qan ?qW ?qX ?qJ ?qK ?qL ?qY ?qM ?qw ?qZ ?qN ?q0 ?q1 ?q9 ?qo ?qO ?q2 ?q3 ?qi ?q4 ?qx ?qa ?qb ?qP ?qQ ?qaa ?qR ?qp ?qc ?qy ?qj ?qz ?qar ?qas ?qal ?qao ?qam ?qat ?qau ?qab ?qap ?qS ?qav ?qaq ?qaw ?qax) KX G hm
  (case qah|qag|qai=>(refine' L2.OwnIn.mk ?n ?pg ?hd ?po ?sa ?mks ?kp;(case n=>k_is);(case pg=>k_is);(case hd=>k_is);(case po=>k_is);(case sa=>k_is);(case mks=>k_is);(case kp=>k_is)))
  (case ql|qm|qk|qq|qr|qs|qA|qB|qt|qas|qal|qao|qam|qat|qau|qab|qap|qS|qav|qaq|qaw|qax=>k_is)
  (case qaj|qC|q5|qu|qv|qT|qD=>(refine' L2.DcIn.mk ?a ?l ?c ?k;(case a=>k_is);(case l=>k_is);(case c=>k_is);(case k=>k_is)))
  (case hc1|hc2|hc3|hc4|hc5|hc6|hc7=>(exact rfl))
  (case qac|qak|q6|qE|qad|q7|q8|qF|qae|qG|qH|qI|qaf|qU|qV|qan|qW|qX|qJ|qK|qL|qY|qM|qw|qZ|qN|q0|q1|q9|qo|qO|q2|q3|qi|q4|qx|qa|qb|qP|qQ|qaa|qR|qp|qc|qy|qj|qz|qar=>(refine' L2.DfIn.mk ?a ?l ?c ?k;(case a=>k_is);(case l=>k_is);(case c=>k_is);(case k=>k_is)))
  (case qg|qd|qe|qn|qh|qf=>(refine' L2.MeIn.mk ?a ?l ?c ?k ?n;(case a=>k_is);(case l=>k_is);(case c=>k_is);(case k=>k_is);(case n=>k_is)))
#print axioms PySem.Challenge.cw_reusewise_k44_the_same_program_holds
