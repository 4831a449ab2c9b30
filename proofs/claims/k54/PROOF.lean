import PyProof.Rows.All
import Wide.All
import OpenK.AllK
import Wide.FinOn
import Lean
import PyProof.EqAt
import PyProof.EqKinds
import PyProof.TupleCall
import PyProof.PassesOwn
import PyProof.StationsW
import OpenK.KCls
import PyProof.ExcAttrAll.ValueError
import PyProof.ExcClass3
import PyProof.WalksEnum
import PyProof.EnumMake
import PyProof.EnumFor
import PyProof.EnumStmt
import PyProof.MeetsStr
import PyProof.StrLawsTight
import PyProof.NeKinds
import PyProof.Rows.SumAny
import PyProof.SeqI3
import PyProof.ZipIter
import PyProof.WalksMore
import PyProof.ListNew
import KE.KRevIter
import PyProof.AutoSeq1
import PyProof.FactsAll.list
import PyProof.IsRules
import KE.KItemsList
import PyProof.StrBlockL
import PyProof.StrBlockI
import PyProof.StrBlock2
import PyProof.StrLawsIn
import PyProof.StrLawsChain
import PyProof.Rows.StrLast
import PyProof.Rows.StrItems
import KE.IntTextText
import KE.KDictList
import PyProof.Rows.BitMore
import KE.KLam
import KE.KNestM
import KE.KIntText
import PyProof.IsiTupleOf
import KE.KDictSum
import PyProof.Rows.SortWalk
import PyProof.Draws
import PyProof.DictRoadsH
import KE.KEqDict
import KE.KDictOf
import PyProof.AttrMissHeap
import PyProof.Walks
import KE.KSortTup
import PySem.Challenge.RW_reusewise_k54_a_long_chain
set_option Elab.async false
set_option linter.all false
set_option maxRecDepth 100000
set_option maxHeartbeats 4000000
abbrev L2.lS0:List PySem.Str:=["_law_end","_law_stem","_law_wide","_law_at","_law_first","_law_turn"]
abbrev L2.lS1:List PySem.Str:=["_law_state","_law_stem","_law_wide","_law_many","_law_end","_law_at"]
abbrev L2.lS2:List PySem.Str:=["self","params","name","reason"]
abbrev L2.lS3:List PySem.Str:=["_law_stem","_law_wide","_law_turn","_law_to"]
abbrev L2.lS4:List PySem.Str:=["body","ways","notes","bits"]
abbrev L2.lS5:List PySem.Str:=["body","bits"]
abbrev L2.lS6:List PySem.Str:=["_law_stem","_law_k"]
abbrev L2.lS7:List PySem.Str:=["self","within","finish"]
abbrev L2.lS8:List PySem.Str:=["_law_state","_law_many"]
abbrev L2.lS9:List PySem.Str:=["uses","params","body"]
abbrev L2.lS10:List PySem.Str:=["self","params","deed"]
abbrev L2.lS11:List PySem.Str:=["uses","params","deed"]
theorem L2.sN0:0<=PySem.sizeLine:=by decide
theorem L2.sN1:1<=PySem.sizeLine:=by decide
theorem L2.sN2:2<=PySem.sizeLine:=by decide
theorem L2.sN3:3<=PySem.sizeLine:=by decide
theorem L2.sN4:4<=PySem.sizeLine:=by decide
namespace L2
open PySem PySem.Spec PyProof.Rows
abbrev Key:=Sum Int Str
def wQ:Key->Value->Bool
  | .inl k,v=>Value.isInt k v
  | .inr x,v=>Value.isStrOf x v
def keyH (w:World):Key->Int
  | .inl k=>hashInt k
  | .inr x=>hashStr w x
theorem zH:∀ {k:Key} {v:Value},wQ k v=true->(∃ i t,k=Sum.inl i/\v=Value.int i t)\/(∃ x t,k=Sum.inr x/\v=Value.str x t)
  | .inl i,v,h=>by
    obtain ⟨t,e⟩:=Value.isInt_shape (k:=i) (v:=v) h
    exact .inl ⟨i,t,rfl,e⟩
  | .inr x,v,h=>by
    obtain ⟨t,e⟩:=Value.isStrOf_shape (x:=x) (v:=v) h
    exact .inr ⟨x,t,rfl,e⟩
theorem Xx (i:Int) (t:Tok):wQ (.inl i) (.int i t)=true:=by simp [wQ,Value.isInt]
theorem Xy (x:Str) (t:Tok):wQ (.inr x) (.str x t)=true:=by simp [wQ,Value.isStrOf]
theorem zan (a b:Int):decide ((Sum.inl a:Key)=Sum.inl b)=(a == b):=by
  by_cases e:a=b
  · subst e; simp
  · have h:¬ (Sum.inl a:Key)=Sum.inl b:=fun q=>e (Sum.inl.inj q)
    rw [decide_eq_false h]
    exact (beq_eq_false_iff_ne.mpr e).symm
theorem zao (a b:Str):decide ((Sum.inr a:Key)=Sum.inr b)=decide (a=b):=by
  by_cases e:a=b
  · subst e; simp
  · have h:¬ (Sum.inr a:Key)=Sum.inr b:=fun q=>e (Sum.inr.inj q)
    rw [decide_eq_false h,decide_eq_false e]
theorem zap (a:Int) (b:Str):decide ((Sum.inl a:Key)=Sum.inr b)=false:=decide_eq_false (fun q=>nomatch q)
theorem zaq (a:Str) (b:Int):decide ((Sum.inr a:Key)=Sum.inl b)=false:=decide_eq_false (fun q=>nomatch q)
def zE (prog:Program) (w:World):PySem.KeyKind prog w Key where
  is:=wQ
  hash:=keyH w
  inj:=fun v a b ha hb=>by
    rcases zH ha with ⟨i,t,rfl,rfl⟩ | ⟨x,t,rfl,rfl⟩
    · rcases zH hb with ⟨j,u,rfl,e⟩ | ⟨y,u,rfl,e⟩
      · injection e with e1 _; rw [e1]
      · exact nomatch e
    · rcases zH hb with ⟨j,u,rfl,e⟩ | ⟨y,u,rfl,e⟩
      · exact nomatch e
      · injection e with e1 _; rw [e1]
  byValue:=fun k v h=>by
    rcases zH h with ⟨i,t,rfl,rfl⟩ | ⟨x,t,rfl,rfl⟩ <;> rfl
  pyHash:=fun hv h=>by
    rcases zH hv with ⟨i,t,rfl,rfl⟩ | ⟨x,t,rfl,rfl⟩
    · exact wpAny_pyHash_int h
    · exact wpAny_pyHash_str h
  eqBool:=fun hu hv h=>by
    rcases zH hu with ⟨i,t,rfl,rfl⟩ | ⟨x,t,rfl,rfl⟩
    · rcases zH hv with ⟨j,u,rfl,rfl⟩ | ⟨y,u,rfl,rfl⟩
      · rw [zan] at h; exact wpAny_eqBool_int h
      · rw [zap] at h; exact SeqAt.EqAt.int_str i t y u _ _ _ _ h
    · rcases zH hv with ⟨j,u,rfl,rfl⟩ | ⟨y,u,rfl,rfl⟩
      · rw [zaq] at h; exact SeqAt.EqAt.str_int x t j u _ _ _ _ h
      · rw [zao] at h; exact wpAny_eqBool_str h
  «strs»:=fun k x t v h=>by
    rcases zH h with ⟨i,u,rfl,e⟩ | ⟨y,u,rfl,e⟩
    · exact nomatch e
    · injection e with e1 _
      subst e1
      cases v <;> rfl
theorem ZT (prog:Program) (w:World) (k:Key) (v:Value):(zE prog w).is k v=wQ k v:=rfl
theorem wv (prog:Program) (w:World) (i:Int) (t:Tok):(zE prog w).is (.inl i) (.int i t)=true:=Xx i t
theorem ww (prog:Program) (w:World) (x:Str) (t:Tok):(zE prog w).is (.inr x) (.str x t)=true:=Xy x t
inductive V where
  | non | bl (b:Bool) | int (i:Int) | str (x:Str) | byt (b:Array UInt8) | flt (b:UInt64) | ref (a:Addr) | ty (n:String)
  deriving DecidableEq
def RelV:V->Value->Prop
  | .non,u=>u=Value.none
  | .bl b,u=>u=Value.bool b
  | .int i,u=>∃ t,u=Value.int i t
  | .str x,u=>∃ t,u=Value.str x t
  | .byt b,u=>∃ t,u=Value.bytes b t
  | .flt b,u=>∃ t,u=Value.float b t
  | .ref a,u=>u=Value.ref a
  | .ty n,u=>u=Value.type n
abbrev Vals:List V->List Value->Prop:=Paired RelV
theorem Vals.length {xs:List V} {us:List Value} (r:Vals xs us):xs.length=us.length:=Paired.length r
theorem Vals.get:∀ {xs:List V} {us:List Value} {i:Nat} {x:V},Vals xs us->xs[i]?=some x->∃ u,us[i]?=some u/\RelV x u
  | _,_,_,_,.nil,e=>by simp at e
  | _,_,0,_,.cons r _,e=>by simp at e; subst e; exact ⟨_,rfl,r⟩
  | _,_,i + 1,x,.cons _ t,e=>by
    obtain ⟨u,h1,h2⟩:=Vals.get (i:=i) (x:=x) t (by simpa using e)
    exact ⟨u,by simpa using h1,h2⟩
theorem Vals.set {x:V} {u:Value} (r:RelV x u):∀ {xs:List V} {us:List Value} (i:Nat),Vals xs us->Vals (xs.set i x) (us.set i u)
  | _,_,_,.nil=>.nil
  | _,_,0,.cons _ t=>.cons r t
  | _,_,i + 1,.cons q t=>.cons q (Vals.set r i t)
theorem Vals.append:∀ {xs ys:List V} {us ws:List Value},Vals xs us->Vals ys ws->Vals (xs ++ ys) (us ++ ws)
  | _,_,_,_,.nil,s=>s
  | _,_,_,_,.cons r t,s=>.cons r (Vals.append t s)
theorem Vals.take:∀ {xs:List V} {us:List Value} (n:Nat),Vals xs us->Vals (xs.take n) (us.take n)
  | _,_,0,_=>.nil
  | _,_,_ + 1,.nil=>.nil
  | _,_,n + 1,.cons r t=>.cons r (Vals.take n t)
theorem Vals.drop:∀ {xs:List V} {us:List Value} (n:Nat),Vals xs us->Vals (xs.drop n) (us.drop n)
  | _,_,0,r=>r
  | _,_,_ + 1,.nil=>.nil
  | _,_,n + 1,.cons _ t=>Vals.drop n t
def RelO:Option V->Option Value->Prop
  | some v,some u=>RelV v u
  | none,none=>True
  | _,_=>False
def KV {κ:Type}:List (κ × V)->List (κ × Value)->Prop:=Paired fun (p:κ × V) (q:κ × Value)=>p.1=q.1/\RelV p.2 q.2
def kV:Key->V
  | .inl i=>.int i
  | .inr x=>.str x
inductive HO where
  | lst (xs:List V)
  | tup (xs:List V)
  | dK (kvs:List (Key × V)) | dT (kvs:List (List Key × V))
  | set (S:Int->Bool) (n:Nat)
  | ins (C dx:Addr) (fs:List (Str × V))
  | own (x:Addr)
  | xd (fs:List (Str × V))
  | met (f x:Addr)
  | rng (lo hi:Int)
  | frz (o:Obj) (u:HO)
  | tbl (ps:Array Value)
  | ext (φ:Heap->Prop)
abbrev Hp:=Addr->Option HO
def upd (H:Hp) (a:Addr) (o:HO):Hp:=fun b=>if b=a then some o else H b
theorem zf {H:Hp} {a:Addr} {o:HO}:upd H a o a=some o:=by unfold upd; rw [if_pos rfl]
theorem zg {H:Hp} {a b:Addr} {o:HO} (h:b≠a):upd H a o b=H b:=by unfold upd; rw [if_neg h]
theorem xz {H:Hp} {a b:Addr} {o u:HO} (h:H a=some o) (h':H b=some u) (d:o≠u):a≠b:=by
  intro e; subst e; rw [h] at h'; exact d (Option.some.inj h')
theorem zi {H:Hp} {a b:Addr} {o:HO} (h:H a=some o) (h':H b=none):a≠b:=by
  intro e; subst e; rw [h] at h'; cases h'
def IsTupN (h:Heap) (a:Addr) (items:Array Value):Prop:=∃ o,h.get? a=some o/\o.cls=.type "tuple"/\o.dict=none/\∃ n,o.data=.seq items n
theorem IsTupN.is {h:Heap} {a:Addr} {items:Array Value} (x:IsTupN h a items):IsTup h a items:=let ⟨o,a,b,_,c⟩:=x; ⟨o,a,b,c⟩
theorem IsTupN.new (h:Heap) (items:Array Value):IsTupN (h.push { cls:=.type "tuple",data:=.seq items }) h.objs.size items:=⟨_,Heap.get?_push_size _ rfl,rfl,rfl,_,rfl⟩
section
variable (P:Program) (w:World)
def ObjOk (H:Hp) (h:Heap) (a:Addr):HO->Prop
  | .lst xs=>xs.length<=sizeLine/\∃ (its:List Value) (n:Nat),Vals xs its/\h.get? a=some { cls:=.type "list",data:=.seq its.toArray n }
  | .tup xs=>xs.length<=sizeLine/\∃ its:List Value,Vals xs its/\IsTupN h a its.toArray
  | .dK kvs=>kvs.length<=sizeLine/\(a == sysModules)=false/\∃ vs,KV kvs vs/\h.DictOf (zE P w) a vs
  | .dT kvs=>kvs.length<=sizeLine/\(a == sysModules)=false/\∃ xs:List (List Key × Addr × Value),
      Paired (fun (p:List Key × V) (q:List Key × Addr × Value)=>p.1=q.1/\H q.2.1=some (.tup (p.1.map kV))/\RelV p.2 q.2.2) kvs xs /\
      ∃ o es ep,h.get? a=some o/\o.ExactDict/\o.data=.dict es ep/\es.toList=xs.map (entryOfKey (tupleKind (zE P w)))/\(xs.map (·.1)).Nodup
  | .set S n=>h.SetOf (intKind P w) a S n
  | .ins C dx fs=>H dx=some (.own a)/\fs.length<=1000/\dx≠a/\h.get? a=some (PySem.W.instObj C dx) /\
      ∃ mA,h.Ns1 dx mA/\(∀ f,RelO (fs.lookup f) (mA f))/\PySem.Within mA (fs.map (·.1))
  | .own _=>∃ o,h.get? a=some o
  | .xd fs=>∃ mA,h.Ns1 a mA/\∀ f,RelO (fs.lookup f) (mA f)
  | .rng lo hi=>∃ t u v,h.get? a=some { cls:=.type "range",data:=.fields #[.int lo t,.int hi u,.int 1 v] }
  | .frz o u=>h.get? a=some o/\ObjOk H h a u
  | .tbl ps=>h.get? a=some { cls:=.none,data:=.fields ps }
  | .met f x=>h.get? a=some (PySem.W.methodObj (.ref f) (.ref x))
  | .ext φ=>φ h/\(∃ o,h.get? a=some o)/\∀ h1 h2:Heap,φ h1->(∀ o,h1.get? a=some o->h2.get? a=some o)->φ h2
def HOk (H:Hp) (h:Heap):Prop:=∀ a o,H a=some o->ObjOk P w H h a o
end
section
variable {P:Program} {w:World} {H H':Hp} {h h':Heap} {a:Addr} {o:HO}
theorem ObjOk.lt (x:ObjOk P w H h a o):a < h.objs.size:=by
  cases o with
  | lst xs=>obtain ⟨_,_,_,_,e⟩:=x; exact Heap.lt_size e
  | tup xs=>obtain ⟨_,_,_,p⟩:=x; exact p.is.lt
  | dK kvs=>obtain ⟨_,_,_,_,o,_,_,e,_⟩:=x; exact Heap.lt_size e
  | dT kvs=>obtain ⟨_,_,_,_,o,_,_,e,_⟩:=x; exact Heap.lt_size e
  | set S n=>obtain ⟨o,_,_,_,e,_⟩:=x; exact Heap.lt_size e
  | ins C dx fs=>obtain ⟨_,_,_,e,_⟩:=x; exact Heap.lt_size e
  | own y=>obtain ⟨_,e⟩:=x; exact Heap.lt_size e
  | xd fs=>obtain ⟨_,⟨_,_,_,e,_⟩,_⟩:=x; exact Heap.lt_size e
  | rng lo hi=>obtain ⟨_,_,_,e⟩:=x; exact Heap.lt_size e
  | frz ob u=>obtain ⟨e,_⟩:=x; exact Heap.lt_size e
  | tbl ps=>exact Heap.lt_size (show h.get? a=some _ from x)
  | met f y=>exact Heap.lt_size (show h.get? a=some _ from x)
  | ext φ=>obtain ⟨_,⟨_,e⟩,_⟩:=x; exact Heap.lt_size e
theorem Paired.mapP {α β:Type} {F G:α->β->Prop}:∀ {l₁:List α} {l₂:List β},Paired F l₁ l₂->(∀ a b,F a b->G a b)->Paired G l₁ l₂
  | _,_,.nil,_=>.nil
  | _,_,.cons r t,f=>.cons (f _ _ r) (Paired.mapP t f)
theorem ObjOk.stay (x:ObjOk P w H h a o) (k:∀ b u,(b=a\/H b=some (.own a))->h.get? b=some u->h'.get? b=some u)
    (ho:∀ b,H b=some (.own a)->H' b=some (.own a)) (ht:∀ b xs,H b=some (.tup xs)->H' b=some (.tup xs)):ObjOk P w H' h' a o:=by
  induction o with
  | lst xs=>obtain ⟨z,its,n,r,e⟩:=x; exact ⟨z,its,n,r,k _ _ (.inl rfl) e⟩
  | tup xs=>obtain ⟨z,its,r,ob,e,c⟩:=x; exact ⟨z,its,r,ob,k _ _ (.inl rfl) e,c⟩
  | dK kvs=>obtain ⟨z,y,vs,r,ob,es,ep,e,c⟩:=x; exact ⟨z,y,vs,r,ob,es,ep,k _ _ (.inl rfl) e,c⟩
  | dT kvs =>
    obtain ⟨z,y,xs,r,ob,es,ep,e,c⟩:=x
    exact ⟨z,y,xs,Paired.mapP r fun p q z=>⟨z.1,ht _ _ z.2.1,z.2.2⟩,ob,es,ep,k _ _ (.inl rfl) e,c⟩
  | set S n=>obtain ⟨ob,es,ep,t,e,c⟩:=x; exact ⟨ob,es,ep,t,k _ _ (.inl rfl) e,c⟩
  | ins C dx fs =>
    obtain ⟨d,z,ne,e,mA,⟨od,es,ep,e2,c⟩,r⟩:=x
    exact ⟨ho _ d,z,ne,k _ _ (.inl rfl) e,mA,⟨od,es,ep,k _ _ (.inr d) e2,c⟩,r⟩
  | own y=>obtain ⟨ob,e⟩:=x; exact ⟨ob,k _ _ (.inl rfl) e⟩
  | xd fs=>obtain ⟨mA,⟨od,es,ep,e,c⟩,r⟩:=x; exact ⟨mA,⟨od,es,ep,k _ _ (.inl rfl) e,c⟩,r⟩
  | rng lo hi=>obtain ⟨t,u,v,e⟩:=x; exact ⟨t,u,v,k _ _ (.inl rfl) e⟩
  | frz ob u ih=>obtain ⟨e,q⟩:=x; exact ⟨k _ _ (.inl rfl) e,ih q⟩
  | tbl ps =>
    have e:h.get? a=some { cls:=.none,data:=.fields ps }:=x
    show h'.get? a=some { cls:=.none,data:=.fields ps }
    exact k a _ (.inl rfl) e
  | met f y =>
    have e:h.get? a=some (PySem.W.methodObj (.ref f) (.ref y)):=x
    show h'.get? a=some (PySem.W.methodObj (.ref f) (.ref y))
    exact k a _ (.inl rfl) e
  | ext φ=>obtain ⟨p,⟨o,e⟩,st⟩:=x; exact ⟨st _ _ p fun o q=>k _ _ (.inl rfl) q,⟨o,k _ _ (.inl rfl) e⟩,st⟩
theorem HOk.lt (x:HOk P w H h) (e:H a=some o):a < h.objs.size:=(x a o e).lt
theorem HOk.fresh (x:HOk P w H h) (e:h.objs.size<=a):H a=none:=by
  cases q:H a with
  | none=>rfl
  | some u=>exact absurd (Nat.lt_of_lt_of_le (x.lt q) e) (Nat.lt_irrefl _)
theorem HOk.kept (x:HOk P w H h) (k:∀ b u,h.get? b=some u->h'.get? b=some u):HOk P w H h':=fun a o e =>
  (x a o e).stay (fun b u _ q=>k b u q) (fun _ q=>q) fun _ _ q=>q
theorem HOk.laid (x:HOk P w H h) (k:∀ b u,h.get? b=some u->h'.get? b=some u) (hp:h.objs.size<=a) (new:ObjOk P w (upd H a o) h' a o):HOk P w (upd H a o) h':=fun b u e=>by
  have hn:=x.fresh hp
  by_cases hb:b=a
  · subst hb; rw [zf] at e; cases e; exact new
  · rw [zg hb] at e
    exact (x b u e).stay (fun c v _ q=>k c v q) (fun c q=>by rw [zg (zi q hn)]; exact q) fun c xs q=>by rw [zg (zi q hn)]; exact q
end
def Rd (H:Hp) (a:Addr) (u:HO):Prop:=H a=some u\/∃ o,H a=some (.frz o u)
theorem Rd.of {H:Hp} {a:Addr} {u:HO} (h:H a=some u):Rd H a u:=.inl h
theorem Rd.ok {P:Program} {w:World} {H:Hp} {h:Heap} {a:Addr} {u:HO} (r:Rd H a u) (x:HOk P w H h):ObjOk P w H h a u:=by
  rcases r with r | ⟨o,r⟩
  · exact x a u r
  · obtain ⟨_,q⟩:=x a _ r
    exact q
def Mut:Option HO->Prop
  | some (.lst _)=>True
  | some (.dK _)=>True
  | some (.dT _)=>True
  | some (.set _ _)=>True
  | some (.ins _ _ _)=>True
  | some (.ext _)=>True
  | _=>False
section
variable {P:Program} {w:World} {H:Hp} {h h':Heap} {x e:Addr} {o':HO}
theorem HOk.write (ok:HOk P w H h) (mu:Mut (H x)) (he:e=x\/H e=some (.own x)) (k:∀ b u,b≠e->h.get? b=some u->h'.get? b=some u) (heo:∃ u,h'.get? e=some u)
    (new:ObjOk P w (upd H x o') h' x o'):HOk P w (upd H x o') h':=fun b u q=>by
  have nown:∀ c y,H c=some (.own y)->c≠x:=fun c y r z=>by subst z; rw [r] at mu; exact mu
  have ntup:∀ c xs,H c=some (.tup xs)->c≠x:=fun c xs r z=>by subst z; rw [r] at mu; exact mu
  by_cases hb:b=x
  · subst hb; rw [zf] at q; cases q; exact new
  · rw [zg hb] at q
    by_cases hbe:b=e
    · have q':H b=some (.own x):=by
        rcases he with z | z
        · exact absurd (hbe.trans z) hb
        · rw [hbe]; exact z
      rw [q] at q'; cases q'
      obtain ⟨v,hv⟩:=heo
      exact ⟨v,by rw [hbe]; exact hv⟩
    · refine (ok b u q).stay (fun c v hc r=>k c v ?_ r) (fun c r=>by rw [zg (nown c b r)]; exact r) fun c xs r=>by rw [zg (ntup c xs r)]; exact r
      rcases hc with rfl | hc
      · exact hbe
      · rintro rfl
        rcases he with z | z
        · exact nown c b hc z
        · rw [hc] at z; cases z; exact hb rfl
end
structure Un (fs ex:List Addr) (H H':Hp) (h h':Heap):Prop where
  keep:∀ b o,h.get? b=some o->H b=none->b ∉ fs->b ∉ ex->h'.get? b=some o
  slot:∀ b o,h.get? b=some o->H b=none->b∈fs->b ∉ ex->∃ sl,h'.get? b=some { o with slots:=sl }
  free:∀ b o,h.get? b=some o->H b=none->b ∉ ex->H' b=none
  there:∀ b o,h.get? b=some o->b ∉ ex->∃ o',h'.get? b=some o'
  tups:∀ b xs,H b=some (.tup xs)->H' b=some (.tup xs)
  frzs:∀ b o u,H b=some (.frz o u)->H' b=some (.frz o u)
  tbls:∀ b ps,H b=some (.tbl ps)->∃ more,H' b=some (.tbl (ps ++ more))
section
variable {fs fs' ex ex':List Addr} {H H1 H2:Hp} {h h1 h2 h':Heap} {a x e:Addr} {o:HO}
theorem Un.any (u:Un fs ex H H1 h h1) {b:Addr} {ob:Obj} (q:h.get? b=some ob) (n:H b=none) (hx:b ∉ ex):∃ sl,h1.get? b=some { ob with slots:=sl }:=by
  by_cases hb:b∈fs
  · exact u.slot b ob q n hb hx
  · exact ⟨ob.slots,u.keep b ob q n hb hx⟩
theorem Un.kept (k:∀ b u,h.get? b=some u->h'.get? b=some u):Un fs ex H H h h' :=
  ⟨fun b ob q _ _ _=>k b ob q,fun b ob q _ _ _=>⟨ob.slots,k b ob q⟩,fun _ _ _ n _=>n,fun b ob q _=>⟨ob,k b ob q⟩,fun _ _ q=>q,fun _ _ _ q=>q,fun _ ps q=>⟨#[],by rw [q]; simp⟩⟩
theorem Un.refl:Un fs ex H H h h:=Un.kept fun _ _ q=>q
theorem Un.laid (k:∀ b u,h.get? b=some u->h'.get? b=some u) (hp:h.objs.size<=a) (hn:H a=none):Un fs ex H (upd H a o) h h' where
  keep:=fun b u q _ _ _=>k b u q
  slot:=fun b u q _ _ _=>⟨u.slots,k b u q⟩
  free:=fun b u q n _=>by rw [zg (Nat.ne_of_lt (Nat.lt_of_lt_of_le (Heap.lt_size q) hp))]; exact n
  there:=fun b u q _=>⟨u,k b u q⟩
  tups:=fun b xs q=>by rw [zg (zi q hn)]; exact q
  frzs:=fun b u xs q=>by rw [zg (zi q hn)]; exact q
  tbls:=fun b ps q=>⟨#[],by rw [zg (zi q hn),q]; simp⟩
theorem Un.write (mu:Mut (H x)) (he:e=x\/H e=some (.own x)) (k:∀ b u,b≠e->h.get? b=some u->h'.get? b=some u) (heo:∃ u,h'.get? e=some u):Un fs ex H (upd H x o) h h':=by
  have hx:∀ b,H b=none->b≠x:=fun b n z=>by subst z; rw [n] at mu; exact mu
  have hb:∀ b,H b=none->b≠e:=fun b n z=>by
    subst z
    rcases he with r | r
    · exact hx b n r
    · rw [n] at r; cases r
  have hm:∀ b u,H b=some u->¬ Mut (some u)->b≠x:=fun b u q nm z=>by subst z; rw [q] at mu; exact nm mu
  refine ⟨fun b u q n _ _=>k b u (hb b n) q,fun b u q n _ _=>⟨u.slots,k b u (hb b n) q⟩,fun b u q n _=>by rw [zg (hx b n)]; exact n,fun b u q _=>?_,
    fun b xs q=>by rw [zg (hm b _ q fun z=>z)]; exact q,fun b u xs q=>by rw [zg (hm b _ q fun z=>z)]; exact q,fun b ps q=>⟨#[],by rw [zg (hm b _ q fun z=>z),q]; simp⟩⟩
  by_cases hbe:b=e
  · subst hbe; exact heo
  · exact ⟨u,k b u hbe q⟩
end
def trk (h:Heap) (H:Hp):List Addr:=(List.range h.objs.size).filter fun a=>(H a).isSome
def hidT (h:Heap) (H:Hp):Heap:=PySem.W.hideAll h (trk h H)
theorem Xz (h:Heap) (H:Hp):(hidT h H).objs.size=h.objs.size:=PySem.W.hideAll_size _ _
theorem Wf {h:Heap} {H:Hp} {b:Addr} {o:Obj} (e:h.get? b=some o) (n:H b=none):(hidT h H).get? b=some o :=
  PySem.W.hideAll_get _ e fun hm=>by
    have q:(H b).isSome=true:=(List.mem_filter.mp hm).2
    rw [n] at q; simp at q
theorem Jo {h:Heap} {H:Hp} {b:Addr} {o:Obj} (e:(hidT h H).get? b=some o):h.get? b=some o/\H b=none:=by
  have e':h.get? b=some o:=PySem.W.of_hideAll (trk h H) e
  refine ⟨e',?_⟩
  cases q:H b with
  | none=>rfl
  | some x =>
    have hm:b∈trk h H:=List.mem_filter.mpr ⟨List.mem_range.mpr (Heap.lt_size e'),by simp [q]⟩
    have z:(hidT h H).get? b=none:=PySem.W.hideAll_none (trk h H) hm
    rw [z] at e; cases e
def Jp (g h:Heap) (L:Addr):List (Addr × Obj):=(List.range h.objs.size).filterMap fun a=>if a=L\/(g.get? a).isSome=true then none else (h.get? a).map fun o=>(a,o)
def rest (g h:Heap) (L d:Addr):List (Addr × Obj):=(Jp g h L).filter fun p=>decide (p.1≠d)
structure Mod (K:PySem.W.Frag) (mg:Str->Option Value) (base:Heap):Prop where
  kin:K.In base
  glob:base.Ns mainGlobals mg
  blt:∃ mb,base.Ns builtinsNs mb/\∀ x:Str,x≠"__name__"->mb x=bootBuiltins x
  nolimit:base.NoLimit
structure Cx where
  prog:Program
  w:World
  K:PySem.W.Frag
  mg:Str->Option Value
  base:Heap
  A:Around
  N:List Str
  s₀:Shared
  H₀:Hp
  env:Env
  outer:List Env
  stack:List Env
  ex:List Addr
  fn:Str->Bool
  calm:Bool
  pn:List (Addr × Obj)
  xe:Value->Shared->Prop
def frs (l:List Env):List Addr:=l.filterMap (·.frame)
abbrev Cx.fs (X:Cx):List Addr:=frs X.outer
def Vis (sc:Scope) (x:Str):Prop:=sc.names.lookup x=some .local\/sc.names.lookup x=some .cell\/sc.names.lookup x=some .free
def Loc (sc:Scope) (x:Str):Prop:=sc.names.lookup x=some .local\/sc.names.lookup x=some .cell
def Look (env:Env) (h:Heap) (m:Str->Option Value) (x:Str) (u:Value):Prop :=
  (env.kindOf x=some .local/\m x=some u)\/((env.kindOf x=some .cell\/env.kindOf x=some .free)/\∃ c,env.cells.lookup x=some c/\h.IsCell c (some u))
structure Cx.Ok (X:Cx):Prop where
  mod:Mod X.K X.mg X.base
  kind:X.env.scope.kind=.function
  glob:X.env.globals=mainGlobals
  blt:X.env.builtins=builtinsNs
  above:X.s₀.heap.objs.size<=X.env.locals
  inj:∀ x y c,X.env.cells.lookup x=some c->X.env.cells.lookup y=some c->x=y
  has:∀ x,(X.env.kindOf x=some .cell\/X.env.kindOf x=some .free)->∃ c,X.env.cells.lookup x=some c
  cab:∀ x c,X.fn x=true->X.env.cells.lookup x=some c->X.s₀.heap.objs.size<=c
  hd:X.calm=true->X.A.handled=none
  frames:X.A.frames=some X.stack
  stk:X.stack=X.outer\/(X.stack=X.env :: X.outer/\X.env.frame=some X.env.locals)
  exf:∀ b∈X.ex,b≠X.env.locals/\∀ x c,X.env.cells.lookup x=some c->c≠b
  bs:∀ b o,X.base.get? b=some o->X.s₀.heap.get? b=some o/\X.H₀ b=none
  bsz:X.base.objs.size<=X.s₀.heap.objs.size
  noex:∀ b o,X.base.get? b=some o->b ∉ X.ex
  exfs:∀ b∈X.ex,b ∉ X.fs
  funs:X.s₀.heap.FunFrames X.base X.outer
  frf:∀ b∈X.fs,X.H₀ b=none
structure Inv (X:Cx) (pins:List (Addr × Obj)) (σ:List (Option V)) (H:Hp) (s:Shared):Prop where
  ok:X.Ok
  os:s.os=X.s₀.os
  bare:AllBare s.gens
  base:Un X.fs X.ex X.H₀ H X.s₀.heap s.heap
  loc:∃ m,s.heap.Ns X.env.locals m/\∀ (i:Nat) (x:Str) (v:V),X.N[i]?=some x->σ[i]?=some (some v)->Vis X.env.scope x->∃ u,RelV v u/\Look X.env s.heap m x u
  cell:∀ x c,X.env.cells.lookup x=some c->∃ v,s.heap.IsCell c v
  free:H X.env.locals=none
  freeC:∀ x c,X.env.cells.lookup x=some c->H c=none
  pin:∀ p∈X.pn ++ pins,s.heap.get? p.1=some p.2/\H p.1=none/\p.1≠X.env.locals/\p.1 ∉ X.fs/\∀ v,p.2.data≠.cell v
  hok:HOk X.prog X.w H s.heap
  len:σ.length=X.N.length
section
variable {X:Cx} {pins:List (Addr × Obj)} {σ:List (Option V)} {H H':Hp} {s:Shared} {h':Heap}
theorem Cx.Ok.nofr (ok:X.Ok) {b:Addr} {o:Obj} (e:X.base.get? b=some o):b ∉ X.fs:=fun hb=>by
  have:=(ok.funs.mem hb).1
  rw [e] at this; cases this
theorem Inv.bs (I:Inv X pins σ H s):∀ b o,X.base.get? b=some o->s.heap.get? b=some o/\H b=none:=fun b o e =>
  ⟨I.base.keep b o (I.ok.bs b o e).1 (I.ok.bs b o e).2 (I.ok.nofr e) (I.ok.noex b o e),I.base.free b o (I.ok.bs b o e).1 (I.ok.bs b o e).2 (I.ok.noex b o e)⟩
theorem Inv.bk (I:Inv X pins σ H s):∀ b o,X.base.get? b=some o->s.heap.get? b=some o:=fun b o e=>(I.bs b o e).1
theorem Inv.mod (I:Inv X pins σ H s):Mod X.K X.mg X.base:=I.ok.mod
theorem Inv.kIn (I:Inv X pins σ H s):X.K.In s.heap:=I.ok.mod.kin.keeps I.bk
theorem Inv.lt (I:Inv X pins σ H s):X.env.locals < s.heap.objs.size:=let ⟨_,hn,_⟩:=I.loc; hn.lt
theorem Inv.sz (I:Inv X pins σ H s):X.s₀.heap.objs.size<=s.heap.objs.size:=Nat.le_trans I.ok.above (Nat.le_of_lt I.lt)
theorem Inv.nofs (I:Inv X pins σ H s) {a:Addr} (h:s.heap.objs.size<=a):a ∉ X.fs:=fun hb=>by
  obtain ⟨_,o,ho,_⟩:=I.ok.funs.mem hb
  exact absurd (Nat.lt_of_lt_of_le (Heap.lt_size ho) (Nat.le_trans I.sz h)) (Nat.lt_irrefl _)
theorem Inv.cne (I:Inv X pins σ H s):∀ x c,X.env.cells.lookup x=some c->c≠X.env.locals:=fun x c e z=>by
  obtain ⟨v,o,ho,hd⟩:=I.cell x c e
  obtain ⟨m,⟨o',es,ep,ho',hd',_⟩,_⟩:=I.loc
  rw [z,ho'] at ho; cases ho; rw [hd'] at hd; cases hd
theorem Inv.funs (I:Inv X pins σ H s):s.heap.FunFrames X.base X.outer:=by
  have all:∀ (l:List Env),(∀ b∈frs l,b∈X.fs)->X.s₀.heap.FunFrames X.base l->s.heap.FunFrames X.base l:=by
    intro l
    induction l with
    | nil=>intro _ _; trivial
    | cons env r ih =>
      intro hs hl
      obtain ⟨hk,⟨L,o,hf,hn,ho,hd⟩,hr⟩:=hl
      have hL:L∈X.fs:=hs L (by unfold frs; rw [List.filterMap_cons,hf]; exact List.mem_cons_self)
      obtain ⟨sl,e⟩:=I.base.slot L o ho (I.ok.frf L hL) hL fun z=>I.ok.exfs L z hL
      exact ⟨hk,⟨L,_,hf,hn,e,hd⟩,ih (fun b hb=>hs b (by unfold frs; rw [List.filterMap_cons,hf]; exact List.mem_cons_of_mem _ hb)) hr⟩
  exact all X.outer (fun _ hb=>hb) I.ok.funs
theorem Inv.stack (I:Inv X pins σ H s):s.heap.FunFrames X.base X.stack:=by
  rcases I.ok.stk with e | ⟨e,hf⟩
  · rw [e]; exact I.funs
  · rw [e]
    obtain ⟨m,hn,_⟩:=I.loc
    refine .cons (by rw [I.ok.kind]; decide) hf hn ?_ I.funs
    exact Heap.get?_none_of_le (Nat.le_trans I.ok.bsz I.ok.above)
theorem Inv.stkSub (I:Inv X pins σ H s):∀ b∈frs X.stack,b∈X.env.locals :: X.fs:=fun b hb=>by
  rcases I.ok.stk with e | ⟨e,hf⟩
  · rw [e] at hb; exact List.mem_cons_of_mem _ hb
  · rw [e] at hb
    unfold frs at hb
    rw [List.filterMap_cons,hf] at hb
    exact hb
theorem Inv.stkFree (I:Inv X pins σ H s):∀ b∈frs X.stack,H b=none:=fun b hb=>by
  rcases List.mem_cons.mp (I.stkSub b hb) with e | hb
  · rw [e]; exact I.free
  · obtain ⟨_,o,ho,_⟩:=I.ok.funs.mem hb
    exact I.base.free b o ho (I.ok.frf b hb) fun z=>I.ok.exfs b z hb
theorem Inv.step {g':Array GenState} {t':Nat} {d':Drawn} {ch:List Addr} (I:Inv X pins σ H s)
    (hch:∀ b∈ch,(b∈X.ex\/X.s₀.heap.objs.size<=b)/\b≠X.env.locals/\(∀ x c,X.env.cells.lookup x=some c->c≠b)/\∀ p∈X.pn ++ pins,p.1≠b)
    (keep:∀ b o,b≠X.env.locals->b ∉ X.fs->b ∉ ch->s.heap.get? b=some o->H b=none->h'.get? b=some o)
    (slot:∀ b o,b≠X.env.locals->b∈X.fs->b ∉ ch->s.heap.get? b=some o->H b=none->∃ sl,h'.get? b=some { o with slots:=sl }) (free:∀ b o,b ∉ ch->s.heap.get? b=some o->H b=none->H' b=none)
    (there:∀ b o,b ∉ ch->s.heap.get? b=some o->∃ o',h'.get? b=some o')
    (tups:∀ b xs,H b=some (.tup xs)->H' b=some (.tup xs)) (frzs:∀ b o u,H b=some (.frz o u)->H' b=some (.frz o u)) (tbls:∀ b ps,H b=some (.tbl ps)->∃ more,H' b=some (.tbl (ps ++ more)))
    (ns:∀ m,s.heap.Ns X.env.locals m->h'.Ns X.env.locals m) (hok:HOk X.prog X.w H' h') (hg:AllBare g') :
    Inv X pins σ H' { s with heap:=h',gens:=g',drawn:=d',toks:=t' }:=by
  have neL:∀ b o,X.s₀.heap.get? b=some o->b≠X.env.locals:=fun b o e=>Nat.ne_of_lt (Nat.lt_of_lt_of_le (Heap.lt_size e) I.ok.above)
  have neC:∀ b o,X.s₀.heap.get? b=some o->b ∉ X.ex->b ∉ ch:=fun b o e hx hb=>by
    rcases (hch b hb).1 with z | z
    · exact hx z
    · exact absurd (Nat.lt_of_lt_of_le (Heap.lt_size e) z) (Nat.lt_irrefl _)
  have cellK:∀ x c,X.env.cells.lookup x=some c->∀ v,s.heap.IsCell c v->h'.IsCell c v:=fun x c e v ⟨o,ho,hd⟩=>by
    have nch:c ∉ ch:=fun z=>(hch c z).2.2.1 x c e rfl
    by_cases hc:c∈X.fs
    · obtain ⟨sl,q⟩:=slot c o (I.cne x c e) hc nch ho (I.freeC x c e)
      exact ⟨_,q,hd⟩
    · exact ⟨o,keep c o (I.cne x c e) hc nch ho (I.freeC x c e),hd⟩
  refine ⟨I.ok,I.os,hg,⟨fun b o e n hb hx=>?_,fun b o e n hb hx=>?_,fun b o e n hx=>?_,fun b o e hx=>?_,fun b xs e=>tups b xs (I.base.tups b xs e),fun b o xs e=>frzs b o xs (I.base.frzs b o xs e),fun b ps e=>?_⟩,?_,fun x c e=>?_,?_,fun x c e=>?_,fun p hp=>?_,hok,I.len⟩
  · exact keep b o (neL b o e) hb (neC b o e hx) (I.base.keep b o e n hb hx) (I.base.free b o e n hx)
  · obtain ⟨sl,e1⟩:=I.base.slot b o e n hb hx
    obtain ⟨sl',e2⟩:=slot b _ (neL b o e) hb (neC b o e hx) e1 (I.base.free b o e n hx)
    exact ⟨sl',e2⟩
  · obtain ⟨o',e1⟩:=I.base.there b o e hx
    exact free b o' (neC b o e hx) e1 (I.base.free b o e n hx)
  · obtain ⟨o',e1⟩:=I.base.there b o e hx
    exact there b o' (neC b o e hx) e1
  · obtain ⟨m1,e1⟩:=I.base.tbls b ps e
    obtain ⟨m2,e2⟩:=tbls b _ e1
    exact ⟨m1 ++ m2,by rw [e2,Array.append_assoc]⟩
  · obtain ⟨m,hn,hl⟩:=I.loc
    refine ⟨m,ns m hn,fun i x v e1 e2 e3=>?_⟩
    obtain ⟨u,r,l⟩:=hl i x v e1 e2 e3
    refine ⟨u,r,?_⟩
    rcases l with l | ⟨k,c,e,z⟩
    · exact .inl l
    · exact .inr ⟨k,c,e,cellK x c e _ z⟩
  · obtain ⟨v,z⟩:=I.cell x c e
    exact ⟨v,cellK x c e v z⟩
  · obtain ⟨m,⟨o,_,_,ho,_⟩,_⟩:=I.loc
    exact free _ o (fun z=>(hch _ z).2.1 rfl) ho I.free
  · obtain ⟨v,o,ho,hd⟩:=I.cell x c e
    exact free c o (fun z=>(hch c z).2.2.1 x c e rfl) ho (I.freeC x c e)
  · obtain ⟨e,n,ne,nf,d⟩:=I.pin p hp
    have nch:p.1 ∉ ch:=fun z=>(hch p.1 z).2.2.2 p hp rfl
    exact ⟨keep p.1 p.2 ne nf nch e n,free p.1 p.2 nch e n,ne,nf,d⟩
theorem Inv.un {t':Nat} (I:Inv X pins σ H s) (u:Un X.fs [] H H' s.heap h') (hok:HOk X.prog X.w H' h'):Inv X pins σ H' { s with heap:=h',toks:=t' }:=by
  obtain ⟨m,⟨o,es,ep,ho,r⟩,_⟩:=id I.loc
  obtain ⟨sl,hL⟩:=u.any ho I.free (by simp)
  exact I.step (g':=s.gens) (d':=s.drawn) (ch:=[]) (fun _ z=>nomatch z) (fun b o _ hb _ e n=>u.keep b o e n hb (by simp)) (fun b o _ hb _ e n=>u.slot b o e n hb (by simp)) (fun b o _ e n=>u.free b o e n (by simp)) (fun b o _ e=>u.there b o e (by simp)) u.tups u.frzs u.tbls (fun m' hm=>by
    obtain ⟨o',es',ep',ho',r'⟩:=hm
    rw [ho] at ho'; cases ho'
    exact ⟨_,es',ep',hL,r'⟩) hok I.bare
theorem Inv.call {g':Array GenState} {t':Nat} {d':Drawn} {ch:List Addr} (I:Inv X pins σ H s) (u:Un (frs X.stack) ch H H' s.heap h') (hok:HOk X.prog X.w H' h') (hg:AllBare g')
    (hch:∀ b∈ch,(b∈X.ex\/X.s₀.heap.objs.size<=b)/\b≠X.env.locals/\(∀ x c,X.env.cells.lookup x=some c->c≠b)/\∀ p∈X.pn ++ pins,p.1≠b) :
    Inv X pins σ H' { s with heap:=h',gens:=g',drawn:=d',toks:=t' }:=by
  obtain ⟨m,⟨o,es,ep,ho,r⟩,_⟩:=id I.loc
  obtain ⟨sl,hL⟩:=u.any ho I.free fun z=>(hch _ z).2.1 rfl
  exact I.step (ch:=ch) hch (fun b o hL hb hc e n=>u.keep b o e n (fun z=>(List.mem_cons.mp (I.stkSub b z)).elim hL hb) hc) (fun b o _ _ hc e n=>u.any e n hc) (fun b o hc e n=>u.free b o e n hc) (fun b o hc e=>u.there b o e hc) u.tups u.frzs u.tbls (fun m' hm=>by
    obtain ⟨o',es',ep',ho',r'⟩:=hm
    rw [ho] at ho'; cases ho'
    exact ⟨_,es',ep',hL,r'⟩) hok hg
theorem Inv.turned {t':Nat} {it:Addr} (I:Inv X pins σ H s) (k:∀ b o,b≠it->s.heap.get? b=some o->h'.get? b=some o) (hn:H it=none) (hL:it≠X.env.locals)
    (h1:it∈X.ex\/X.s₀.heap.objs.size<=it) (h2:∀ x c,X.env.cells.lookup x=some c->c≠it) (h3:∀ p∈X.pn ++ pins,p.1≠it):Inv X pins σ H { s with heap:=h',toks:=t' }:=by
  have nit:∀ b u,H b=some u->b≠it:=fun b u e z=>by rw [z,hn] at e; cases e
  refine I.step (g':=s.gens) (d':=s.drawn) (ch:=[it]) (fun b hb=>?_) (fun b o _ _ hc e _=>k b o (fun z=>hc (by simp [z])) e) (fun b o _ _ hc e _=>⟨o.slots,k b o (fun z=>hc (by simp [z])) e⟩) (fun _ _ _ _ n=>n)
    (fun b o hc e=>⟨o,k b o (fun z=>hc (by simp [z])) e⟩) (fun _ _ e=>e) (fun _ _ _ e=>e) (fun b ps e=>⟨#[],by rw [e]; simp⟩) (fun m hm=>?_) (fun b u e=>?_) I.bare
  · have e:b=it:=by simpa using hb
    subst e
    exact ⟨h1,hL,h2,h3⟩
  · obtain ⟨o,es,ep,ho,r⟩:=hm
    exact ⟨o,es,ep,k _ o (Ne.symm hL) ho,r⟩
  · refine (I.hok b u e).stay (fun c v hc q=>k c v ?_ q) (fun _ q=>q) fun _ _ q=>q
    rcases hc with z | z
    · rw [z]; exact nit b u e
    · exact nit c _ z
theorem Inv.tok (I:Inv X pins σ H s) (t:Nat):Inv X pins σ H { s with toks:=t }:=I.un (h':=s.heap) (t':=t) Un.refl I.hok
theorem Inv.kept {t':Nat} (I:Inv X pins σ H s) (k:∀ b u,s.heap.get? b=some u->h'.get? b=some u):Inv X pins σ H { s with heap:=h',toks:=t' }:=I.un (Un.kept k) (I.hok.kept k)
theorem Inv.laid {a:Addr} {o:HO} {t':Nat} (I:Inv X pins σ H s) (k:∀ b u,s.heap.get? b=some u->h'.get? b=some u) (hp:s.heap.objs.size<=a) (new:ObjOk X.prog X.w (upd H a o) h' a o) :
    Inv X pins σ (upd H a o) { s with heap:=h',toks:=t' }:=I.un (Un.laid k hp (I.hok.fresh hp)) (I.hok.laid k hp new)
theorem Inv.write {x e:Addr} {o:HO} {t':Nat} (I:Inv X pins σ H s) (mu:Mut (H x)) (he:e=x\/H e=some (.own x)) (k:∀ b u,b≠e->s.heap.get? b=some u->h'.get? b=some u) (heo:∃ u,h'.get? e=some u)
    (new:ObjOk X.prog X.w (upd H x o) h' x o):Inv X pins σ (upd H x o) { s with heap:=h',toks:=t' }:=I.un (Un.write mu he k heo) (I.hok.write mu he k heo new)
theorem Inv.pins_of {pins':List (Addr × Obj)} (I:Inv X pins σ H s) (h:∀ p∈pins',s.heap.get? p.1=some p.2/\H p.1=none/\p.1≠X.env.locals/\p.1 ∉ X.fs/\∀ v,p.2.data≠.cell v):Inv X pins' σ H s :=
  ⟨I.ok,I.os,I.bare,I.base,I.loc,I.cell,I.free,I.freeC,fun p hp=>(List.mem_append.mp hp).elim (fun z=>I.pin p (List.mem_append_left _ z)) (h p),I.hok,I.len⟩
theorem jY {N:List Str} (hN:N.Nodup) {i j:Nat} {x:Str} (a:N[i]?=some x) (b:N[j]?=some x):i=j:=by
  obtain ⟨h1,e1⟩:=List.getElem?_eq_some_iff.mp a
  obtain ⟨h2,e2⟩:=List.getElem?_eq_some_iff.mp b
  exact (List.getElem_inj hN).mp (e1.trans e2.symm)
theorem vJ {M:Model} {A:Around} {E:Value->Shared->Prop} {i:Nat} {x:Str} {v:V} {u:Value} {Q:Unit->Shared->Prop} (I:Inv X pins σ H s) (hN:X.N.Nodup) (hi:X.N[i]?=some x) (hx:Loc X.env.scope x) (r:RelV v u)
    (h:∀ s',Inv X pins (σ.set i (some v)) H s'->(∃ a,Heap.SameBut a s.heap s'.heap/\(a=X.env.locals\/X.env.cells.lookup x=some a))->Q () s') (hf:X.fn x=true\/X.env.scope.names.lookup x=some .local:=by first | exact .inl rfl | exact .inr rfl | assumption):wpAny M A (storeName X.env x u) Q E s:=by
  obtain ⟨m,hn,hl⟩:=id I.loc
  have hcls:(X.env.scope.kind == .class || (X.env.scope.kind == .module && X.env.locals != X.env.globals))=false:=by rw [I.ok.kind]; rfl
  have hiσ:i < σ.length:=by rw [I.len]; exact (List.getElem?_eq_some_iff.mp hi).1
  have cne:=I.cne
  have tracked:∀ {a:Addr} {h':Heap},(∃ o,s.heap.get? a=some o/\H a=none)->Heap.SameBut a s.heap h'->HOk X.prog X.w H h':=fun {a h'} ha hs b ob e=>by
    obtain ⟨_,_,hfree⟩:=ha
    refine (I.hok b ob e).stay (fun c w' hc q=>(hs.2 c ?_).trans q) (fun _ q=>q) fun _ _ q=>q
    rintro rfl
    rcases hc with rfl | hc
    · rw [hfree] at e; cases e
    · rw [hfree] at hc; cases hc
  rcases hx with hk | hk
  · refine wpAny_storeName_local hk hn (fun h' hn' hs=>?_) hcls
    obtain ⟨oL,_,_,hoL,_⟩:=id hn
    refine h _ ⟨I.ok,I.os,I.bare,⟨fun b o e n hb hx=>?_,fun b o e n hb hx=>?_,I.base.free,fun b o e hx=>?_,I.base.tups,I.base.frzs,I.base.tbls⟩,⟨_,hn',fun j y v' e1 e2 e3=>?_⟩,fun y c e=>?_,I.free,I.freeC,fun p hp=>?_,tracked ⟨oL,hoL,I.free⟩ hs,by simpa using I.len⟩ ⟨_,hs,.inl rfl⟩
    · exact (hs.2 b (Nat.ne_of_lt (Nat.lt_of_lt_of_le (Heap.lt_size e) I.ok.above))).trans (I.base.keep b o e n hb hx)
    · obtain ⟨sl,e1⟩:=I.base.slot b o e n hb hx
      exact ⟨sl,(hs.2 b (Nat.ne_of_lt (Nat.lt_of_lt_of_le (Heap.lt_size e) I.ok.above))).trans e1⟩
    · obtain ⟨o',e1⟩:=I.base.there b o e hx
      exact ⟨o',(hs.2 b (Nat.ne_of_lt (Nat.lt_of_lt_of_le (Heap.lt_size e) I.ok.above))).trans e1⟩
    · by_cases hj:j=i
      · subst hj
        rw [hi] at e1; cases e1
        rw [List.getElem?_set_self hiσ] at e2
        cases e2
        exact ⟨u,r,.inl ⟨hk,by simp⟩⟩
      · rw [List.getElem?_set_ne (Ne.symm hj)] at e2
        obtain ⟨u',r',q⟩:=hl j y v' e1 e2 e3
        refine ⟨u',r',?_⟩
        rcases q with ⟨k,e⟩ | ⟨k,c,e,z⟩
        · refine .inl ⟨k,?_⟩
          have:y≠x:=fun e=>hj (jY hN e1 (e ▸ hi))
          simp [this,e]
        · exact .inr ⟨k,c,e,z.sameBut hs (cne y c e)⟩
    · obtain ⟨w',z⟩:=I.cell y c e
      exact ⟨w',z.sameBut hs (cne y c e)⟩
    · obtain ⟨e,n,ne,nf,d⟩:=I.pin p hp
      exact ⟨(hs.2 p.1 ne).trans e,n,ne,nf,d⟩
  · have hfn:X.fn x=true:=by
      rcases hf with z | z
      · exact z
      · rw [z] at hk; cases hk
    obtain ⟨c,hc⟩:=I.ok.has x (.inl hk)
    obtain ⟨w',z⟩:=I.cell x c hc
    refine wpAny_storeName_cell I.ok.kind hk hc z (fun h' hc' hs=>?_)
    obtain ⟨oc,hoc,hocd⟩:=id z
    refine h { s with heap:=h' } ⟨I.ok,I.os,I.bare,⟨fun b o e n hb hx=>?_,fun b o e n hb hx=>?_,I.base.free,fun b o e hx=>?_,I.base.tups,I.base.frzs,I.base.tbls⟩,⟨m,hn.sameBut hs (Ne.symm (cne x c hc)),fun j y v' e1 e2 e3=>?_⟩,fun y c' e=>?_,I.free,I.freeC,fun p hp=>?_,tracked ⟨oc,hoc,I.freeC x c hc⟩ hs,by simpa using I.len⟩ ⟨c,hs,.inr hc⟩
    · exact (hs.2 b (Nat.ne_of_lt (Nat.lt_of_lt_of_le (Heap.lt_size e) (I.ok.cab x c hfn hc)))).trans (I.base.keep b o e n hb hx)
    · obtain ⟨sl,e1⟩:=I.base.slot b o e n hb hx
      exact ⟨sl,(hs.2 b (Nat.ne_of_lt (Nat.lt_of_lt_of_le (Heap.lt_size e) (I.ok.cab x c hfn hc)))).trans e1⟩
    · obtain ⟨o',e1⟩:=I.base.there b o e hx
      exact ⟨o',(hs.2 b (Nat.ne_of_lt (Nat.lt_of_lt_of_le (Heap.lt_size e) (I.ok.cab x c hfn hc)))).trans e1⟩
    · by_cases hj:j=i
      · subst hj
        rw [hi] at e1; cases e1
        rw [List.getElem?_set_self hiσ] at e2
        cases e2
        exact ⟨u,r,.inr ⟨.inl hk,c,hc,hc'⟩⟩
      · rw [List.getElem?_set_ne (Ne.symm hj)] at e2
        obtain ⟨u',r',q⟩:=hl j y v' e1 e2 e3
        refine ⟨u',r',?_⟩
        rcases q with q | ⟨k,c',e,z'⟩
        · exact .inl q
        · refine .inr ⟨k,c',e,z'.sameBut hs ?_⟩
          rintro rfl
          exact hj (jY hN e1 (I.ok.inj _ _ _ e hc ▸ hi))
    · by_cases hcc:c'=c
      · subst hcc; exact ⟨_,hc'⟩
      · obtain ⟨w2,z2⟩:=I.cell y c' e
        exact ⟨w2,z2.sameBut hs hcc⟩
    · obtain ⟨e,n,ne,nf,d⟩:=I.pin p hp
      refine ⟨(hs.2 p.1 ?_).trans e,n,ne,nf,d⟩
      intro q
      rw [q,hoc] at e
      have q':oc=p.2:=Option.some.inj e
      exact d w' (by rw [<- q']; exact hocd)
theorem jZ {M:Model} {A:Around} {E:Value->Shared->Prop} {i:Nat} {x:Str} {v:V} {u:Value} {Q:Unit->Shared->Prop} (I:Inv X pins σ H s) (hN:X.N.Nodup) (hi:X.N[i]?=some x) (hx:Loc X.env.scope x) (r:RelV v u)
    (h:∀ s',Inv X pins (σ.set i (some v)) H s'->Q () s') (hf:X.fn x=true\/X.env.scope.names.lookup x=some .local:=by first | exact .inl rfl | exact .inr rfl | assumption):wpAny M A (storeName X.env x u) Q E s :=
  vJ I hN hi hx r (fun s' I' _=>h s' I') hf
theorem Inv.call' {s':Shared} {ch:List Addr} (I:Inv X pins σ H s) (ho:s'.os=s.os) (u:Un (frs X.stack) ch H H' s.heap s'.heap) (hok:HOk X.prog X.w H' s'.heap) (hg:AllBare s'.gens)
    (hch:∀ b∈ch,(b∈X.ex\/X.s₀.heap.objs.size<=b)/\b≠X.env.locals/\(∀ x c,X.env.cells.lookup x=some c->c≠b)/\∀ p∈X.pn ++ pins,p.1≠b):Inv X pins σ H' s':=by
  obtain ⟨h',g',d',t',o'⟩:=s'
  have e:o'=s.os:=ho
  subst e
  exact I.call (g':=g') (t':=t') (d':=d') u hok hg hch
end
abbrev XK:=Value->Option Addr->Hp->Prop
abbrev St:=List (Option V)
abbrev VK:=V->Hp->Prop
abbrev TE:=St->Hp->VK->Prop
abbrev TT:=St->Hp->(Bool->Hp->Prop)->Prop
abbrev TA:=St->Hp->(List V->Hp->Prop)->Prop
structure Ends where
  nx:St->Hp->Prop
  rt:VK
  bk:St->Hp->Prop:=fun _ _=>False
  ct:St->Hp->Prop:=fun _ _=>False
abbrev TS:=Ends->St->Hp->Prop
def EP (X:Cx) (pins:List (Addr × Obj)) (σ:St) (Q:VK) (u:Value) (s':Shared):Prop:=∃ v H',Inv X pins σ H' s'/\RelV v u/\Q v H'
def TP (X:Cx) (pins:List (Addr × Obj)) (σ:St) (Q:Bool->Hp->Prop) (b:Bool) (s':Shared):Prop:=∃ H',Inv X pins σ H' s'/\Q b H'
def AP (X:Cx) (pins:List (Addr × Obj)) (σ:St) (Q:List V->Hp->Prop) (us:List Value) (s':Shared):Prop:=∃ vs H',Inv X pins σ H' s'/\Vals vs us/\Q vs H'
def SP (X:Cx) (pins:List (Addr × Obj)) (D:Ends) (f:Flow) (s':Shared):Prop :=
  match f with
  | .next=>∃ σ' H',Inv X pins σ' H' s'/\D.nx σ' H'
  | .brk=>∃ σ' H',Inv X pins σ' H' s'/\D.bk σ' H'
  | .cont=>∃ σ' H',Inv X pins σ' H' s'/\D.ct σ' H'
  | .ret u=>∃ v σ' H',Inv X pins σ' H' s'/\RelV v u/\D.rt v H'
def PE (X:Cx) (e:Expr) (t:TE):Prop :=
  ∀ (pins:List (Addr × Obj)) (s:Shared) (σ:St) (H:Hp) (Q:VK),Inv X pins σ H s->t σ H Q->wpAny (model X.prog X.w) X.A (eval e X.env) (EP X pins σ Q) X.xe s
def PT (X:Cx) (e:Expr) (t:TT):Prop :=
  ∀ (pins:List (Addr × Obj)) (s:Shared) (σ:St) (H:Hp) (Q:Bool->Hp->Prop),Inv X pins σ H s->t σ H Q->wpAny (model X.prog X.w) X.A (isTrue e X.env (eval e X.env)) (TP X pins σ Q) X.xe s
def PW (X:Cx) (e:Expr) (t:TT):Prop :=
  ∀ (whole:Sem Value) (pins:List (Addr × Obj)) (s:Shared) (σ:St) (H:Hp) (Q:Bool->Hp->Prop),Inv X pins σ H s->t σ H Q->wpAny (model X.prog X.w) X.A (isTrue e X.env whole) (TP X pins σ Q) X.xe s
theorem PW.pt {X:Cx} {e:Expr} {t:TT} (h:PW X e t):PT X e t:=h _
def PA (X:Cx) (es:List Expr) (t:TA):Prop :=
  ∀ (pos:Pos) (pins:List (Addr × Obj)) (s:Shared) (σ:St) (H:Hp) (Q:List V->Hp->Prop),Inv X pins σ H s->t σ H Q->wpAny (model X.prog X.w) X.A (spliced (backTo pos (starEach es X.env))) (AP X pins σ Q) X.xe s
def PS (X:Cx) (st:Stmt) (t:TS):Prop :=
  ∀ (pins:List (Addr × Obj)) (s:Shared) (σ:St) (H:Hp) (D:Ends),Inv X pins σ H s->t D σ H->wpAny (model X.prog X.w) X.A (exec st X.env) (SP X pins D) X.xe s
def PSs (X:Cx) (st:List Stmt) (t:TS):Prop :=
  ∀ (pins:List (Addr × Obj)) (s:Shared) (σ:St) (H:Hp) (D:Ends),Inv X pins σ H s->t D σ H->wpAny (model X.prog X.w) X.A (execs st X.env) (SP X pins D) X.xe s
theorem thn {α:Type} {t:Sem α} {Q Q':α->Shared->Prop} {M:Model} {A:Around} {E:Value->Shared->Prop} {s:Shared} (h:wpAny M A t Q E s) (hQ:∀ a s,Q a s->Q' a s):wpAny M A t Q' E s:=wpAny_mono h hQ fun _ _ x=>x
section
variable {X:Cx}
def tVar (i:Nat):TE:=fun σ H Q=>∃ v,σ[i]?=some (some v)/\Q v H
def tC (v:V):TE:=fun _ H Q=>Q v H
theorem zar {i:Nat} {x:Str} {pos:Pos} (hN:X.N[i]?=some x) (hv:Vis X.env.scope x) (hd:(x == ("__debug__":Str))=false:=by decide) (hcd:(x == ("__classdict__":Str))=false:=by decide):PE X (.Name x pos) (tVar i):=by
  intro pins s σ H Q I h
  obtain ⟨v,e,h⟩:=h
  obtain ⟨m,hn,hl⟩:=I.loc
  obtain ⟨u,r,l⟩:=hl i x v hN e hv
  have fin:EP X pins σ Q u s:=⟨v,H,I,r,h⟩
  rcases l with ⟨hk,hm⟩ | ⟨hk,c,hc,hcell⟩
  · exact wpAny_Name (wpAny_loadName_local I.ok.kind hk hn hm fin) hd
  · rcases hk with hk | hk
    · exact wpAny_Name (wpAny_loadName_cell I.ok.kind hk hc hcell fin) hd
    · exact wpAny_Name (wpAny_loadName_free I.ok.kind hk hc hcell fin hcd) hd
theorem zas {i j pos}:PE X (.Constant (.int i) j pos) (tC (.int i)):=fun _ _ _ H _ I h=>wpAny_Constant_int ⟨.int i,H,I.tok _,⟨_,rfl⟩,h⟩
theorem zbP {b j pos}:PE X (.Constant (.bool b) j pos) (tC (.bl b)):=fun _ _ _ H _ I h=>Constant_bool ⟨.bl b,H,I,rfl,h⟩
theorem zat {x j pos}:PE X (.Constant (.str x) j pos) (tC (.str x)):=fun _ _ _ H _ I h=>Calls.Constant_str ⟨.str x,H,I.tok _,⟨_,rfl⟩,h⟩
def Gl (X:Cx) (x:Str):Prop:=X.env.kindOf x=some .globalImplicit
theorem xA {E:Value->Shared->Prop} {pins:List (Addr × Obj)} {s:Shared} {σ:St} {H:Hp} {x:Str} {u:Value} {pos:Pos} {Q:Value->Shared->Prop} (I:Inv X pins σ H s) (hg:Gl X x) (hm:X.mg x=some u) (h:Q u s)
    (hd:(x == ("__debug__":Str))=false:=by decide):wpAny (model X.prog X.w) X.A (eval (.Name x pos) X.env) Q E s :=
  Calls.Name_function_global I.ok.kind hg (Calls.loadGlobal_global (by rw [I.ok.glob]; exact I.mod.glob.keeps I.bk) hm h) hd
theorem x6 {E:Value->Shared->Prop} {pins:List (Addr × Obj)} {s:Shared} {σ:St} {H:Hp} {x:Str} {u:Value} {pos:Pos} {Q:Value->Shared->Prop} (I:Inv X pins σ H s) (hg:Gl X x) (hm:X.mg x=none) (hv:bootBuiltins x=some u) (h:Q u s)
    (hn:x≠"__name__":=by decide) (hd:(x == ("__debug__":Str))=false:=by decide):wpAny (model X.prog X.w) X.A (eval (.Name x pos) X.env) Q E s:=by
  obtain ⟨mb,h1,h2⟩:=I.mod.blt
  exact Calls.Name_function_global I.ok.kind hg (Calls.loadGlobal_builtin (by rw [I.ok.glob]; exact I.mod.glob.keeps I.bk) hm (by rw [I.ok.blt]; exact h1.keeps I.bk) ((h2 x hn).trans hv) h) hd
theorem Jq {x:Str} {v:V} {u:Value} {pos:Pos} (hg:Gl X x) (hm:X.mg x=some u) (r:RelV v u) (hd:(x == ("__debug__":Str))=false:=by decide):PE X (.Name x pos) (tC v) :=
  fun _ _ _ H _ I h=>xA I hg hm ⟨v,H,I,r,h⟩ hd
variable {a b:Expr} {ta tb:TE} {pos:Pos}
def PC (X:Cx) (op:CmpOp) (a b:Expr) (t:TE):Prop :=
  ∀ (pins:List (Addr × Obj)) (s:Shared) (σ:St) (H:Hp) (Q:VK),Inv X pins σ H s->t σ H Q ->
    wpAny (model X.prog X.w) X.A (eval a X.env) (fun v s₁=>wpAny (model X.prog X.w) X.A (eval b X.env) (fun u s₂=>wpAny (model X.prog X.w) X.A (compareOp op v u) (EP X pins σ Q) X.xe s₂) X.xe s₁) X.xe s
def tB (t:TE):TT:=fun σ H Q=>t σ H fun x H1=>∃ c,x=.bl c/\Q c H1
theorem zau {op:CmpOp} {t:TE} (h:PC X op a b t) (h1:behindInMarks op b=false:=by first | exact nobehind _ (by decide) (by decide) | rfl):PE X (.Compare a [op] [b] pos) t:=fun pins s σ H Q I hw=>wpAny_Compare1 (h pins s σ H Q I hw) h1
theorem Wg {op:CmpOp} {t:TE} (h:PC X op a b t) (h1:behindInMarks op b=false:=by first | exact nobehind _ (by decide) (by decide) | rfl):PT X (.Compare a [op] [b] pos) (tB t):=by
  intro pins s σ H Q I hw
  refine wpAny_isTrue_Compare1 (thn (h pins s σ H _ I hw) fun v s1 h1=>thn h1 fun u s2 h2=>thn h2 fun c s3 ⟨x,H1,I1,r1,q1⟩=>?_) h1
  obtain ⟨d,rfl,q⟩:=q1
  cases r1
  exact wpAny_truthy_bool ⟨H1,I1,q⟩
theorem zav {e:Expr} {t:TE} (h:PE X e t) (he:∀ whole,isTrue e X.env whole=(do let v <- whole; standAt e.pos; holding [v] (truthy v)):=by intro _; rfl):PT X e (tB t):=by
  intro pins s σ H Q I hw
  refine isTrue_plain (thn (h pins s σ H _ I hw) fun v s1 ⟨x,H1,I1,r1,q1⟩=>?_) (he _)
  obtain ⟨d,rfl,q⟩:=q1
  cases r1
  exact wpAny_truthy_bool ⟨H1,I1,q⟩
variable {tA tB':TT} {rest:List Expr}
def tAnd (t u:TT):TT:=fun σ H Q=>t σ H fun c H1=>if c=true then u σ H1 Q else Q false H1
def tOr (t u:TT):TT:=fun σ H Q=>t σ H fun c H1=>if c=true then Q true H1 else u σ H1 Q
theorem pw_and1 (ha:PT X a tA):PW X (.BoolOp .And [a] pos) tA:=by
  intro wh pins s σ H Q I h
  refine isTrue_and (thn (ha pins s σ H Q I h) fun c s1 e=>?_)
  cases c with
  | true=>exact isTrue_and_nil e
  | false=>exact e
theorem pw_or1 (ha:PT X a tA):PW X (.BoolOp .Or [a] pos) tA:=by
  intro wh pins s σ H Q I h
  refine isTrue_or (thn (ha pins s σ H Q I h) fun c s1 e=>?_)
  cases c with
  | false=>exact isTrue_or_nil e
  | true=>exact e
theorem pw_and (ha:PT X a tA) (hb:PW X (.BoolOp .And (b :: rest) pos) tB'):PW X (.BoolOp .And (a :: b :: rest) pos) (tAnd tA tB'):=by
  intro wh pins s σ H Q I h
  refine isTrue_and (thn (ha pins s σ H _ I h) fun c s1 ⟨H1,I1,q1⟩=>?_)
  cases c with
  | true=>exact hb wh pins s1 σ H1 Q I1 q1
  | false=>exact ⟨H1,I1,q1⟩
theorem pw_or (ha:PT X a tA) (hb:PW X (.BoolOp .Or (b :: rest) pos) tB'):PW X (.BoolOp .Or (a :: b :: rest) pos) (tOr tA tB'):=by
  intro wh pins s σ H Q I h
  refine isTrue_or (thn (ha pins s σ H _ I h) fun c s1 ⟨H1,I1,q1⟩=>?_)
  cases c with
  | true=>exact ⟨H1,I1,q1⟩
  | false=>exact hb wh pins s1 σ H1 Q I1 q1
def QV (ta tb:TE):TE:=fun σ H Q=>ta σ H fun x H1=>∃ c,x=.bl c/\if c=true then tb σ H1 Q else Q (.bl false) H1
def tOrV (ta tb:TE):TE:=fun σ H Q=>ta σ H fun x H1=>∃ c,x=.bl c/\if c=true then Q (.bl true) H1 else tb σ H1 Q
theorem zaw {op} {t:TE} (h:PE X a t):PE X (.BoolOp op [a] pos) t:=fun pins s σ H Q I hw=>BoolOp_one (h pins s σ H Q I hw)
theorem zax (ha:PE X a ta) (hb:PE X (.BoolOp .And (b :: rest) pos) tb):PE X (.BoolOp .And (a :: b :: rest) pos) (QV ta tb):=by
  intro pins s σ H Q I h
  refine BoolOp_and (thn (ha pins s σ H _ I h) fun v s1 ⟨x,H1,I1,r1,q1⟩=>?_)
  obtain ⟨c,rfl,q1⟩:=q1
  cases r1
  refine wpAny_truthy_bool ?_
  cases c with
  | true=>exact hb pins s1 σ H1 Q I1 q1
  | false=>exact ⟨.bl false,H1,I1,rfl,q1⟩
theorem zbQ (ha:PE X a ta) (hb:PE X (.BoolOp .Or (b :: rest) pos) tb):PE X (.BoolOp .Or (a :: b :: rest) pos) (tOrV ta tb):=by
  intro pins s σ H Q I h
  refine BoolOp_or (thn (ha pins s σ H _ I h) fun v s1 ⟨x,H1,I1,r1,q1⟩=>?_)
  obtain ⟨c,rfl,q1⟩:=q1
  cases r1
  refine wpAny_truthy_bool ?_
  cases c with
  | false=>exact hb pins s1 σ H1 Q I1 q1
  | true=>exact ⟨.bl true,H1,I1,rfl,q1⟩
def tIf (t:TT) (ta tb:TE):TE:=fun σ H Q=>t σ H fun c H1=>if c=true then ta σ H1 Q else tb σ H1 Q
theorem Wh {c:Expr} (hc:PT X c tA) (ha:PE X a ta) (hb:PE X b tb):PE X (.IfExp c a b pos) (tIf tA ta tb):=by
  intro pins s σ H Q I h
  refine wpAny_IfExp (thn (hc pins s σ H _ I h) fun d s1 ⟨H1,I1,q1⟩=>?_)
  cases d with
  | true=>exact ha pins s1 σ H1 Q I1 q1
  | false=>exact hb pins s1 σ H1 Q I1 q1
end
def SqL (K:PySem.W.Frag) (H:Hp) (a:Addr) (xs:List V):Prop :=
  Rd H a (.lst xs) \/
    ∃ (o:Obj) (its:Array Value) (n:Nat),K.lookup a=some o/\o.cls=.type "list"/\o.dict=none/\o.data=.seq its n/\its.size<=sizeLine/\Vals xs its.toList
def SqT (K:PySem.W.Frag) (H:Hp) (a:Addr) (xs:List V):Prop :=
  Rd H a (.tup xs) \/
    ∃ (o:Obj) (its:Array Value) (n:Nat),K.lookup a=some o/\o.cls=.type "tuple"/\o.data=.seq its n/\its.size<=sizeLine/\Vals xs its.toList
def absV:Value->Option V
  | .none=>some .non
  | .bool b=>some (.bl b)
  | .int i _=>some (.int i)
  | .str x _=>some (.str x)
  | .bytes b _=>some (.byt b)
  | .float b _=>some (.flt b)
  | .ref a=>some (.ref a)
  | .type n=>some (.ty n)
  | _=>none
theorem RelV.abs {x:V} {u:Value} (r:RelV x u):absV u=some x:=by
  cases x with
  | non=>cases r; rfl
  | bl _=>cases r; rfl
  | int _=>obtain ⟨t,rfl⟩:=r; rfl
  | str _=>obtain ⟨t,rfl⟩:=r; rfl
  | byt _=>obtain ⟨t,rfl⟩:=r; rfl
  | flt _=>obtain ⟨t,rfl⟩:=r; rfl
  | ref _=>cases r; rfl
  | ty _=>cases r; rfl
theorem RelV.inj {x y:V} {u:Value} (r:RelV x u) (q:RelV y u):x=y:=Option.some.inj (r.abs.symm.trans q.abs)
theorem Vals.inj:∀ {xs ys:List V} {us:List Value},Vals xs us->Vals ys us->xs=ys
  | _,_,_,.nil,.nil=>rfl
  | _,_,_,.cons r t,.cons r' t'=>by rw [r.inj r',Vals.inj t t']
section
variable {X:Cx} {pins:List (Addr × Obj)} {σ:St} {H:Hp} {s:Shared} {a:Addr} {xs ys:List V}
theorem SqL.of {K:PySem.W.Frag} (h:H a=some (.lst xs)):SqL K H a xs:=.inl (.inl h)
theorem SqT.of {K:PySem.W.Frag} (h:H a=some (.tup xs)):SqT K H a xs:=.inl (.inl h)
theorem Inv.list (I:Inv X pins σ H s) (h:SqL X.K H a xs):∃ its:List Value,Vals xs its/\PlainL s.heap a its.toArray/\xs.length<=sizeLine:=by
  rcases h with h | ⟨o,its,n,hk,hc,hd,hs,hz,r⟩
  · obtain ⟨z,its,n,r,e⟩:=h.ok I.hok
    exact ⟨its,r,⟨_,n,e,rfl,rfl,rfl⟩,z⟩
  · refine ⟨its.toList,r,⟨o,n,I.kIn a o hk,hc,hd,by simpa using hs⟩,?_⟩
    have e:=r.length
    simp only [Array.length_toList] at e
    lia
theorem Inv.tuple (I:Inv X pins σ H s) (h:SqT X.K H a xs):∃ its:List Value,Vals xs its/\IsTup s.heap a its.toArray/\xs.length<=sizeLine:=by
  rcases h with h | ⟨o,its,n,hk,hc,hs,hz,r⟩
  · obtain ⟨z,its,r,p⟩:=h.ok I.hok
    exact ⟨its,r,p.is,z⟩
  · refine ⟨its.toList,r,⟨o,I.kIn a o hk,hc,n,by simpa using hs⟩,?_⟩
    have e:=r.length
    simp only [Array.length_toList] at e
    lia
theorem Inv.list_inj (I:Inv X pins σ H s) (h:SqL X.K H a xs) (h':SqL X.K H a ys):xs=ys:=by
  obtain ⟨its,r,⟨o,n,e,_,_,d⟩,_⟩:=I.list h
  obtain ⟨its',r',⟨o',n',e',_,_,d'⟩,_⟩:=I.list h'
  rw [e] at e'; cases e'
  rw [d] at d'
  injection d' with d1 _
  have:its=its':=by simpa using congrArg Array.toList d1
  subst this
  exact r.inj r'
theorem Inv.tuple_inj (I:Inv X pins σ H s) (h:SqT X.K H a xs) (h':SqT X.K H a ys):xs=ys:=by
  obtain ⟨its,r,⟨o,e,_,n,d⟩,_⟩:=I.tuple h
  obtain ⟨its',r',⟨o',e',_,n',d'⟩,_⟩:=I.tuple h'
  rw [e] at e'; cases e'
  rw [d] at d'
  injection d' with d1 _
  have:its=its':=by simpa using congrArg Array.toList d1
  subst this
  exact r.inj r'
end
abbrev Cx.wish (X:Cx) (E:Value->Shared->Prop):Cx:={ X with xe:=E }
abbrev Cx.nox (X:Cx):Cx:=X.wish fun _ _=>False
theorem Cx.Ok.wish {X:Cx} (ok:X.Ok) (E:Value->Shared->Prop):(X.wish E).Ok :=
  ⟨ok.mod,ok.kind,ok.glob,ok.blt,ok.above,ok.inj,ok.has,ok.cab,ok.hd,ok.frames,ok.stk,ok.exf,ok.bs,ok.bsz,ok.noex,ok.exfs,ok.funs,ok.frf⟩
theorem Cx.Ok.unwish {X:Cx} {E:Value->Shared->Prop} (ok:(X.wish E).Ok):X.Ok :=
  ⟨ok.mod,ok.kind,ok.glob,ok.blt,ok.above,ok.inj,ok.has,ok.cab,ok.hd,ok.frames,ok.stk,ok.exf,ok.bs,ok.bsz,ok.noex,ok.exfs,ok.funs,ok.frf⟩
section
variable {X:Cx} {pins:List (Addr × Obj)} {σ:St} {H:Hp} {s:Shared} {E:Value->Shared->Prop}
theorem Inv.wish (I:Inv X pins σ H s) (E:Value->Shared->Prop):Inv (X.wish E) pins σ H s:=⟨I.ok.wish E,I.os,I.bare,I.base,I.loc,I.cell,I.free,I.freeC,I.pin,I.hok,I.len⟩
theorem Inv.unwish (I:Inv (X.wish E) pins σ H s):Inv X pins σ H s:=⟨I.ok.unwish,I.os,I.bare,I.base,I.loc,I.cell,I.free,I.freeC,I.pin,I.hok,I.len⟩
theorem SP.unwish {D:Ends} {f:Flow} {s':Shared} (h:SP (X.wish E) pins D f s'):SP X pins D f s':=by
  cases f with
  | next=>obtain ⟨σ',H',I,q⟩:=h; exact ⟨σ',H',I.unwish,q⟩
  | brk=>obtain ⟨σ',H',I,q⟩:=h; exact ⟨σ',H',I.unwish,q⟩
  | cont=>obtain ⟨σ',H',I,q⟩:=h; exact ⟨σ',H',I.unwish,q⟩
  | ret u=>obtain ⟨v,σ',H',I,r,q⟩:=h; exact ⟨v,σ',H',I.unwish,r,q⟩
theorem PSs.nox {st:List Stmt} {t:TS} (h:PSs X.nox st t):PSs X st t:=fun pins s σ H D I hw =>
  wpAny_mono (h pins s σ H D (I.wish _) hw) (fun _ _ q=>q.unwish) fun _ _ z=>False.elim z
end
section
variable {X:Cx} {st:Stmt} {rest:List Stmt} {t u:TS} {e:Expr} {te:TE} {pos:Pos}
def vK:TS:=fun D σ H=>D.nx σ H
def tSeq (t u:TS):TS:=fun D σ H=>t { D with nx:=u D } σ H
theorem Jr:PSs X [] vK:=fun _ _ σ H _ I h=>wpAny_execs_nil ⟨σ,H,I,h⟩
theorem Wi (h1:PS X st t) (h2:PSs X rest u):PSs X (st :: rest) (tSeq t u):=by
  intro pins s σ H D I h
  refine wpAny_execs_cons (thn (h1 pins s σ H { D with nx:=u D } I h) fun f s1 q=>?_)
  cases f with
  | next =>
    obtain ⟨σ',H',I',q⟩:=q
    exact h2 pins s1 σ' H' D I' q
  | ret v=>exact q
  | brk=>exact q
  | cont=>exact q
theorem Js (h1:PS X st t):PSs X [st] t:=by
  intro pins s σ H D I h
  refine wpAny_execs_cons (thn (h1 pins s σ H D I h) fun f s1 q=>?_)
  cases f with
  | next=>exact wpAny_execs_nil q
  | ret v=>exact q
  | brk=>exact q
  | cont=>exact q
theorem Inv.quiet {pins:List (Addr × Obj)} {σ:St} {H:Hp} {s:Shared} (I:Inv X pins σ H s):interactive X.env=false:=by simp [interactive,I.ok.kind]
def QW (te:TE):TS:=fun D σ H=>te σ H fun _ H1=>D.nx σ H1
theorem Jt (he:PE X e te) (hs:swapsWith e none pos.line X.env=pure false:=by rfl):PS X (.Expr e pos) (QW te):=by
  intro pins s σ H D I h
  exact wpAny_Expr_any (thn (he pins s σ H _ I h) fun v s1 ⟨x,H1,I1,r1,q1⟩=>⟨σ,H1,I1,q1⟩) I.quiet hs
def tRet (te:TE):TS:=fun D σ H=>te σ H D.rt
theorem zay (he:PE X e te):PS X (.Return (some e) pos) (tRet te):=by
  intro pins s σ H D I h
  exact wpAny_Return_some (thn (he pins s σ H _ I h) fun v s1 ⟨x,H1,I1,r1,q1⟩=>⟨x,σ,H1,I1,r1,q1⟩)
def tIfS (c:TT) (t u:TS):TS:=fun D σ H=>c σ H fun b H1=>if b=true then t D σ H1 else u D σ H1
theorem zbR {c:Expr} {a b:List Stmt} {tc:TT} (hc:PT X c tc) (ha:PSs X a t) (hb:PSs X b u):PS X (.If c a b pos) (tIfS tc t u):=by
  intro pins s σ H D I h
  refine wpAny_If (thn (hc pins s σ H _ I h) fun d s1 ⟨H1,I1,q1⟩=>?_)
  cases d with
  | true=>exact ha pins s1 σ H1 D I1 q1
  | false=>exact hb pins s1 σ H1 D I1 q1
end
abbrev TG:=V->St->Hp->(St->Hp->Prop)->Prop
abbrev TGs:=List V->St->Hp->(St->Hp->Prop)->Prop
def PG (X:Cx) (target:Expr) (t:TG):Prop :=
  ∀ (pins:List (Addr × Obj)) (s:Shared) (σ:St) (H:Hp) (v:V) (u:Value) (Q:St->Hp->Prop),Inv X pins σ H s->RelV v u->t v σ H Q ->
    wpAny (model X.prog X.w) X.A (assign target X.env u) (fun _ s'=>∃ σ' H',Inv X pins σ' H' s'/\Q σ' H') X.xe s
def PGs (X:Cx) (ts:List Expr) (t:TGs):Prop :=
  ∀ (pins:List (Addr × Obj)) (s:Shared) (σ:St) (H:Hp) (vs:List V) (us:List Value) (Q:St->Hp->Prop),Inv X pins σ H s->Vals vs us->t vs σ H Q ->
    wpAny (model X.prog X.w) X.A (assignInOrder ((assignEach ts X.env).map (·.2)) us) (fun _ s'=>∃ σ' H',Inv X pins σ' H' s'/\Q σ' H') X.xe s
abbrev TSet:=V->V->V->Hp->(Hp->Prop)->Prop
def PSet (X:Cx) (t:TSet):Prop :=
  ∀ (pins:List (Addr × Obj)) (s:Shared) (σ:St) (H:Hp) (o i v:V) (ov iv u:Value) (Q:Hp->Prop),Inv X pins σ H s->RelV o ov->RelV i iv->RelV v u->t o i v H Q ->
    wpAny (model X.prog X.w) X.A (setItem ov iv u) (fun _ s'=>∃ H',Inv X pins σ H' s'/\Q H') X.xe s
section
variable {X:Cx} {pos:Pos}
def yB (i:Nat):TG:=fun v σ H Q=>Q (σ.set i (some v)) H
theorem Ju {i:Nat} {x:Str} (hN:X.N.Nodup) (hi:X.N[i]?=some x) (hx:Loc X.env.scope x) (hf:X.fn x=true\/X.env.scope.names.lookup x=some .local:=by first | exact .inl rfl | exact .inr rfl | assumption):PG X (.Name x pos) (yB i):=by
  intro pins s σ H v u Q I r h
  exact wpAny_assign_Name (jZ I hN hi hx r (fun s' I'=>⟨_,H,I',h⟩) hf)
def gNil:TGs:=fun vs σ H Q=>vs=[]/\Q σ H
def QX (t:TG) (u:TGs):TGs:=fun vs σ H Q=>∃ v r,vs=v :: r/\t v σ H fun σ' H'=>u r σ' H' Q
theorem Jv:PGs X [] gNil:=by
  intro pins s σ H vs us Q I r h
  obtain ⟨e,h⟩:=h
  subst e
  cases r
  exact assignInOrder_nil ⟨σ,H,I,h⟩
theorem Wj {e:Expr} {es:List Expr} {t:TG} {u:TGs} (h1:PG X e t) (h2:PGs X es u)
    (hs:(assignEach (e :: es) X.env).map (·.2)=assign e X.env :: (assignEach es X.env).map (·.2):=by rfl):PGs X (e :: es) (QX t u):=by
  intro pins s σ H vs us Q I r h
  obtain ⟨v,vr,e1,h⟩:=h
  subst e1
  cases r with
  | cons r rr =>
    rw [hs]
    refine assignInOrder_cons (thn (h1 pins s σ H _ _ _ I r h) fun _ s1 ⟨σ1,H1,I1,q1⟩=>?_)
    exact h2 pins s1 σ1 H1 _ _ Q I1 rr q1
def gTup (K:PySem.W.Frag) (n:Nat) (t:TGs):TG:=fun v σ H Q=>∃ a xs,v=.ref a/\SqT K H a xs/\xs.length=n/\t xs σ H Q
theorem zaz {es:List Expr} {k:Nat} {t:TGs} {n:Nat} (hc:X.calm=true) (h:PGs X es t)
    (hn:(assignEach es X.env).length=n:=by rfl) (hst:(assignEach es X.env).findIdx? (·.1)=none:=by rfl):PG X (.Tuple es k pos) (gTup X.K n t):=by
  intro pins s σ H v u Q I r hw
  obtain ⟨a,xs,e1,hq,hl,hw⟩:=hw
  subst e1
  cases r
  obtain ⟨its,rv,ht,hz⟩:=I.tuple hq
  refine assign_Tuple_tuple (I.ok.hd hc) ht (by simp [hn,<- hl,rv.length]) hst fun h' hx=>?_
  have I1:Inv X pins σ H { s with heap:=h' }:=I.kept (t':=s.toks) fun b o e=>hx b o (Nat.ne_of_lt (Heap.lt_size e)) e
  exact h pins _ σ H xs _ Q I1 (by simpa using rv) hw
def gSub (to ti:TE) (t:TSet):TG:=fun v σ H Q=>to σ H fun o H1=>ti σ H1 fun i H2=>t o i v H2 fun H3=>Q σ H3
theorem zaA {o i:Expr} {to ti:TE} {t:TSet} (ho:PE X o to) (hi:PE X i ti) (hs:PSet X t)
    (ha:∀ v,assign (.Subscript o i pos) X.env v=(do
      let ov <- holding [v] (eval o X.env)
      let iv <- holding [v,ov] (eval i X.env)
      standAt pos
      holding [v,ov,iv] (setItem ov iv v)
      release [v,ov,iv] []):=by intro _; rfl):PG X (.Subscript o i pos) (gSub to ti t):=by
  intro pins s σ H v u Q I r h
  rw [ha]
  refine wpAny_bind (wpAny_holding (thn (ho pins s σ H _ I h) fun ov s1 ⟨x,H1,I1,r1,q1⟩=>?_))
  refine wpAny_bind (wpAny_holding (thn (hi pins s1 σ H1 _ I1 q1) fun iv s2 ⟨y,H2,I2,r2,q2⟩=>?_))
  refine wpAny_bind (wpAny_standAt (wpAny_bind (wpAny_holding (thn (hs pins s2 σ H2 x y v ov iv u _ I2 r1 r2 r q2) fun _ s3 ⟨H3,I3,q3⟩=>?_))))
  exact wpAny_release ⟨σ,H3,I3,q3⟩
def tAsg (te:TE) (g:TG):TS:=fun D σ H=>te σ H fun x H1=>g x σ H1 D.nx
theorem zaB {tg e:Expr} {te:TE} {g:TG} (he:PE X e te) (hg:PG X tg g) (hs:swapsWithSole [tg] e pos.line X.env=pure false:=by rfl) (hw:swappedStores [tg] e X.env=pure none:=by rfl)
    (h1:(assignEach [tg] X.env).map (·.2)=[assign tg X.env]:=by rfl):PS X (.Assign [tg] e pos) (tAsg te g):=by
  intro pins s σ H D I h
  refine wpAny_Assign_stores (thn (he pins s σ H _ I h) fun v s1 ⟨x,H1,I1,r1,q1⟩=>?_) hs hw
  rw [h1]
  exact thn (hg pins s1 σ H1 x v _ I1 r1 q1) fun _ s2 q=>q
theorem zaC {i:Nat} {x:Str} {e:Expr} {te:TE} {pos':Pos} (hN:X.N.Nodup) (hi:X.N[i]?=some x) (hx:Loc X.env.scope x) (he:PE X e te) (hs:swapsWith e (some (.Name x pos')) pos.line X.env=pure false:=by rfl) (hf:X.fn x=true\/X.env.scope.names.lookup x=some .local:=by first | exact .inl rfl | exact .inr rfl | assumption) :
    PS X (.Assign [.Name x pos'] e pos) (tAsg te (yB i)):=by
  intro pins s σ H D I h
  refine wpAny_Assign_Name (thn (he pins s σ H _ I h) fun v s1 ⟨y,H1,I1,r1,q1⟩=>?_) hs
  exact jZ I1 hN hi hx r1 (fun s2 I2=>⟨_,H1,I2,q1⟩) hf
def Wk (c:TT) (tb:TS):TS:=fun D σ H=>∃ W:Nat->St->Hp->Prop,(∃ m,W m σ H)/\∀ m σ H,W m σ H ->
  c σ H fun b H1=>if b=true then ∃ N:St->Hp->Prop,(∀ σ' H',N σ' H'->∃ m',m' < m/\W m' σ' H')/\tb { D with nx:=N,ct:=N,bk:=D.nx } σ H1 else D.nx σ H1
theorem Wl {c:Expr} {body:List Stmt} {tc:TT} {tb:TS} (hp:PassesOwn (model X.prog X.w) X.A X.env X.xe) (hc:PT X c tc) (hb:PSs X body tb):PS X (.While c body [] pos) (Wk tc tb):=by
  intro pins s σ H D I h
  obtain ⟨W,⟨m0,w0⟩,turn⟩:=h
  refine wpAny_While (codeAny_whileLoop (fun n s'=>∃ σ' H',Inv X pins σ' H' s'/\W n σ' H') ?_ m0 ⟨σ,H,I,w0⟩)
  rintro n s1 ⟨σ1,H1,I1,w1⟩
  refine wpAny_passesOwn hp (thn (hc pins s1 σ1 H1 _ I1 (turn n σ1 H1 w1)) fun b s2 ⟨H2,I2,q2⟩=>?_)
  cases b with
  | true =>
    obtain ⟨N,hN,q2⟩:=q2
    rw [if_pos rfl]
    refine wpAny_passesOwn hp (thn (hb pins s2 σ1 H2 _ I2 q2) fun f s3 q3=>?_)
    cases f with
    | next =>
      obtain ⟨σ3,H3,I3,n3⟩:=q3
      obtain ⟨m',hm,w3⟩:=hN σ3 H3 n3
      exact ⟨m',hm,σ3,H3,I3,w3⟩
    | cont =>
      obtain ⟨σ3,H3,I3,n3⟩:=q3
      obtain ⟨m',hm,w3⟩:=hN σ3 H3 n3
      exact ⟨m',hm,σ3,H3,I3,w3⟩
    | brk=>exact q3
    | ret v=>exact q3
  | false =>
    rw [if_neg Bool.false_ne_true]
    exact wpAny_execs_nil ⟨σ1,H2,I2,q2⟩
end
structure It where
  go:Nat->Hp->Prop
  yld:Nat->Hp->V->Hp->Prop
  stop:Nat->Hp->Prop
def FpOk (X:Cx) (pins:List (Addr × Obj)) (H:Hp) (b:Addr):Prop :=
  H b=none/\b≠X.env.locals/\b ∉ X.fs/\(b∈X.ex\/X.s₀.heap.objs.size<=b)/\(∀ x c,X.env.cells.lookup x=some c->c≠b)/\∀ p∈X.pn ++ pins,p.1≠b
theorem Inv.fpOk {X:Cx} {pins:List (Addr × Obj)} {σ:St} {H H':Hp} {s:Shared} {b:Addr} (I:Inv X pins σ H s) (hb:s.heap.objs.size<=b) (hn:H' b=none):FpOk X pins H' b:=by
  refine ⟨hn,Nat.ne_of_gt (Nat.lt_of_lt_of_le I.lt hb),I.nofs hb,.inr (Nat.le_trans I.sz hb),fun x c e z=>?_,fun p hp z=>?_⟩
  · obtain ⟨v,q⟩:=I.cell x c e
    exact absurd (Nat.lt_of_lt_of_le q.lt (by rw [z]; exact hb)) (Nat.lt_irrefl _)
  · exact absurd (Nat.lt_of_lt_of_le (Heap.lt_size (I.pin p hp).1) (by rw [z]; exact hb)) (Nat.lt_irrefl _)
structure Turn (P:Program) (w:World) (K:PySem.W.Frag) (tg:Expr) (J:It) (fp:List Addr) (it:Addr) (tn:Nat->Heap->Prop):Prop where
  mem:it∈fp
  obj:∀ i h,tn i h->∀ b∈fp,∃ o,h.get? b=some o/\∀ v,o.data≠.cell v
  keep:∀ i h h',tn i h->(∀ b∈fp,∀ o,h.get? b=some o->h'.get? b=some o)->tn i h'
  item:∀ (X:Cx),X.prog=P->X.w=w->X.K=K->X.calm=true->∀ (i:Nat) (pins:List (Addr × Obj)) (s:Shared) (σ:St) (H:Hp) (E:Value->Shared->Prop),Inv X pins σ H s->(∀ b∈fp,FpOk X pins H b)->tn i s.heap->J.go i H ->
    wpAny (model P w) X.A (pyNext (.ref it)) (fun r s1=>∃ u,r=some u /\
      wpAny (model P w) X.A (letOwnedTupleGo tg (.ref it) u) (fun _ s2=>∃ x H',Inv X pins σ H' s2/\RelV x u/\J.yld i H x H'/\tn (i + 1) s2.heap/\∀ b∈fp,H' b=none) E s1) E s
  done:∀ (X:Cx),X.prog=P->X.w=w->X.K=K->X.calm=true->∀ (i:Nat) (pins:List (Addr × Obj)) (s:Shared) (σ:St) (H:Hp) (E:Value->Shared->Prop),Inv X pins σ H s->(∀ b∈fp,FpOk X pins H b)->tn i s.heap->J.stop i H ->
    wpAny (model P w) X.A (pyNext (.ref it)) (fun r s1=>r=none/\Inv X pins σ H s1) E s
  self:∀ (A:Around) (i:Nat) (s:Shared) (Q:Value->Shared->Prop) (E:Value->Shared->Prop),tn i s.heap->Q (.ref it) s->wpAny (model P w) A (pyIter (.ref it)) Q E s
abbrev TI:=St->Hp->(It->Hp->Prop)->Prop
def PIE (X:Cx) (pins:List (Addr × Obj)) (σ:St) (tg:Expr) (R:It->Hp->Prop) (itv:Value) (s2:Shared):Prop :=
  ∃ (it:Addr) (fp:List Addr) (tn:Nat->Heap->Prop) (J:It) (H':Hp),itv=.ref it/\Inv X pins σ H' s2/\Turn X.prog X.w X.K tg J fp it tn/\tn 0 s2.heap/\(∀ b∈fp,FpOk X pins H' b)/\R J H'
def PI (X:Cx) (tg iter:Expr) (wi:TI):Prop :=
  ∀ (pins:List (Addr × Obj)) (s:Shared) (σ:St) (H:Hp) (R:It->Hp->Prop),Inv X pins σ H s->wi σ H R ->
    wpAny (model X.prog X.w) X.A (eval iter X.env) (fun v s1=>wpAny (model X.prog X.w) X.A (pyIter v) (PIE X pins σ tg R) X.xe s1) X.xe s
theorem YJ {M:Model} {A:Around} {E:Value->Shared->Prop} {s:Shared} {tg:Expr} {it:Addr} {u:Value} {o:Obj} {n:String} {vs:Array Value} {Q:Unit->Shared->Prop} (ho:s.heap.get? it=some o) (hc:o.cls=.type n) (hd:o.data=.fields vs)
    (hn:["enumerate","zip","dict_itemiterator","dict_reverseitemiterator","odict_iterator","itertools.zip_longest","itertools.pairwise"].contains n=false) (hQ:Q () s):wpAny M A (letOwnedTupleGo tg (.ref it) u) Q E s:=by
  unfold letOwnedTupleGo
  cases tg <;> first
    | exact wpAny_pure hQ
    | (cases u <;> first
        | exact wpAny_pure hQ
        | (refine wpAny_bind (wpAny_load ho ?_)
           rw [hc,hd]
           show wpAny M A (if (["enumerate","zip","dict_itemiterator","dict_reverseitemiterator","odict_iterator","itertools.zip_longest","itertools.pairwise"].contains n && vs[0]? == some (rawInt _))=true then _ else _) Q E s
           rw [if_neg (by intro h; rw [hn,Bool.false_and] at h; cases h)]
           exact wpAny_pure hQ))
def Itl (K:PySem.W.Frag) (a:Addr):It :=
  ⟨fun i H=>∃ xs x,SqL K H a xs/\xs[i]?=some x,fun i H x H'=>H'=H/\∀ xs,SqL K H a xs->xs[i]?=some x,fun i H=>∃ xs,SqL K H a xs/\xs.length<=i⟩
def Itt (K:PySem.W.Frag) (a:Addr):It :=
  ⟨fun i H=>∃ xs x,SqT K H a xs/\xs[i]?=some x,fun i H x H'=>H'=H/\∀ xs,SqT K H a xs->xs[i]?=some x,fun i H=>∃ xs,SqT K H a xs/\xs.length<=i⟩
def Itr (lo:Int) (n:Nat):It:=⟨fun i _=>i < n,fun i H x H'=>H'=H/\x=.int (lo + i),fun i _=>n<=i⟩
theorem XA {P:Program} {w:World} {K:PySem.W.Frag} {tg:Expr} (a it:Addr):Turn P w K tg (Itl K a) [it] it (fun i h=>h.IsListIter it a i) where
  mem:=by simp
  obj:=fun i h st b hb=>by
    have e:b=it:=by simpa using hb
    subst e
    obtain ⟨o,e,c,d⟩:=st
    exact ⟨o,e,fun v z=>by rw [d] at z; cases z⟩
  keep:=fun i h h' st k=>st.at fun o e=>k it (by simp) o e
  item:=by
    intro X hP hw hK hc i pins s σ H E I hf st hg
    subst hP hw hK
    obtain ⟨xs,x,hq,hx⟩:=hg
    obtain ⟨its,rv,p,hz⟩:=I.list hq
    obtain ⟨u,hu,ru⟩:=rv.get hx
    obtain ⟨f0,f1,f2,f3,f4,f5⟩:=hf it (by simp)
    refine wpAny_pyNext_list_item st p.isList (x:=u) (by simpa using hu) fun h' st' sb=>?_
    have I1:Inv X pins σ H { s with heap:=h' }:=I.turned (t':=s.toks) (fun b o hb e=>(sb.2 b hb).trans e) f0 f1 f3 f4 f5
    obtain ⟨o,e,c,d⟩:=id st'
    exact ⟨u,rfl,YJ (s:={ s with heap:=h' }) e c d (by decide) ⟨x,H,I1,ru,⟨rfl,fun ys hy=>by rw [I.list_inj hy hq]; exact hx⟩,st',fun b hb=>(hf b hb).1⟩⟩
  done:=by
    intro X hP hw hK hc i pins s σ H E I hf st hg
    subst hP hw hK
    obtain ⟨xs,hq,hx⟩:=hg
    obtain ⟨its,rv,p,hz⟩:=I.list hq
    obtain ⟨f0,f1,f2,f3,f4,f5⟩:=hf it (by simp)
    have hl:=rv.length
    exact wpAny_pyNext_list_end (I.ok.hd hc) st p.isList (by simp; lia) fun h' eb=>⟨rfl,I.turned (t':=s.toks) (fun b o hb e=>eb b o hb e) f0 f1 f3 f4 f5⟩
  self:=fun _ _ _ _ _ st h=>wpAny_pyIter_listiter st h
theorem ZU {P:Program} {w:World} {K:PySem.W.Frag} {tg:Expr} (a it:Addr):Turn P w K tg (Itt K a) [it] it (fun i h=>h.IsTupleIter it a i) where
  mem:=by simp
  obj:=fun i h st b hb=>by
    have e:b=it:=by simpa using hb
    subst e
    obtain ⟨o,e,c,d⟩:=st
    exact ⟨o,e,fun v z=>by rw [d] at z; cases z⟩
  keep:=fun i h h' st k=>st.at fun o e=>k it (by simp) o e
  item:=by
    intro X hP hw hK hc i pins s σ H E I hf st hg
    subst hP hw hK
    obtain ⟨xs,x,hq,hx⟩:=hg
    obtain ⟨its,rv,p,hz⟩:=I.tuple hq
    obtain ⟨u,hu,ru⟩:=rv.get hx
    obtain ⟨f0,f1,f2,f3,f4,f5⟩:=hf it (by simp)
    refine wpAny_pyNext_tuple_item st (show s.heap.IsTuple a its.toArray from p) (x:=u) (by simpa using hu) fun h' st' sb=>?_
    have I1:Inv X pins σ H { s with heap:=h' }:=I.turned (t':=s.toks) (fun b o hb e=>(sb.2 b hb).trans e) f0 f1 f3 f4 f5
    obtain ⟨o,e,c,d⟩:=id st'
    exact ⟨u,rfl,YJ (s:={ s with heap:=h' }) e c d (by decide) ⟨x,H,I1,ru,⟨rfl,fun ys hy=>by rw [I.tuple_inj hy hq]; exact hx⟩,st',fun b hb=>(hf b hb).1⟩⟩
  done:=by
    intro X hP hw hK hc i pins s σ H E I hf st hg
    subst hP hw hK
    obtain ⟨xs,hq,hx⟩:=hg
    obtain ⟨its,rv,p,hz⟩:=I.tuple hq
    obtain ⟨f0,f1,f2,f3,f4,f5⟩:=hf it (by simp)
    have hl:=rv.length
    exact wpAny_pyNext_tuple_end (I.ok.hd hc) st (show s.heap.IsTuple a its.toArray from p) (by simp; lia) fun h' eb=>⟨rfl,I.turned (t':=s.toks) (fun b o hb e=>eb b o hb e) f0 f1 f3 f4 f5⟩
  self:=fun _ _ _ _ _ st h=>wpAny_pyIter_tupleiter st h
theorem ZV {P:Program} {w:World} {K:PySem.W.Frag} {tg:Expr} (it:Addr) (lo:Int) (n:Nat):Turn P w K tg (Itr lo n) [it] it (fun i h=>IsRangeIter h it (lo + (i:Nat) * 1) ((n:Int) - (i:Nat)) 1) where
  mem:=by simp
  obj:=fun i h st b hb=>by
    have e:b=it:=by simpa using hb
    subst e
    exact ⟨_,st,fun v z=>by
      have z':Data.fields _=Data.cell v:=z
      cases z'⟩
  keep:=fun i h h' st k=>k it (by simp) _ st
  item:=by
    intro X hP hw hK hc i pins s σ H E I hf st hg
    subst hP hw hK
    obtain ⟨f0,f1,f2,f3,f4,f5⟩:=hf it (by simp)
    have W:=Walks.range (prog:=X.prog) (w:=X.w) (I.ok.hd hc) it lo 1 n
    refine W.item i s _ _ hg st fun v h' tk hv st' kk=>?_
    obtain ⟨t,rfl⟩:=hv
    have I1:Inv X pins σ H { s with heap:=h',toks:=tk }:=I.turned (fun b o hb e=>kk b o (by simpa using hb) e) f0 f1 f3 f4 f5
    refine ⟨_,rfl,YJ (s:={ s with heap:=h',toks:=tk }) (n:="range_iterator") st' rfl rfl (by decide) ⟨.int (lo + i),H,I1,⟨t,?_⟩,⟨rfl,rfl⟩,st',fun b hb=>(hf b hb).1⟩⟩
    rw [Int.mul_one]
  done:=by
    intro X hP hw hK hc i pins s σ H E I hf st hg
    subst hP hw hK
    obtain ⟨f0,f1,f2,f3,f4,f5⟩:=hf it (by simp)
    exact wpAny_pyNext_range_end (I.ok.hd hc) st (by have:n<=i:=hg; lia) fun h' eb=>⟨rfl,I.turned (t':=s.toks) (fun b o hb e=>eb b o hb e) f0 f1 f3 f4 f5⟩
  self:=fun _ _ _ _ _ st h=>wpAny_pyIter_rangeiter st h
section
variable {X:Cx} {tg:Expr}
def QY (K:PySem.W.Frag) (tl:TE):TI:=fun σ H R=>tl σ H fun x H1=>∃ a,x=.ref a/\(∃ xs,SqL K H1 a xs)/\R (Itl K a) H1
def iTup (K:PySem.W.Frag) (tl:TE):TI:=fun σ H R=>tl σ H fun x H1=>∃ a,x=.ref a/\(∃ xs,SqT K H1 a xs)/\R (Itt K a) H1
theorem Jw {l:Expr} {tl:TE} (hl:PE X l tl):PI X tg l (QY X.K tl):=by
  intro pins s σ H R I h
  refine thn (hl pins s σ H _ I h) fun v s1 ⟨x,H1,I1,r1,q1⟩=>?_
  obtain ⟨a,e,⟨xs,hq⟩,q⟩:=q1
  subst e
  cases r1
  obtain ⟨its,rv,p,hz⟩:=I1.list hq
  refine wpAny_pyIter_list p.isList ?_
  refine ⟨s1.heap.objs.size,[s1.heap.objs.size],_,_,H1,rfl,I1.kept (t':=s1.toks) fun b o e=>Heap.get?_push_of_some _ e,XA a _,⟨_,Heap.get?_push_size _ rfl,rfl,rfl⟩,fun b hb=>?_,q⟩
  have e:b=s1.heap.objs.size:=by simpa using hb
  subst e
  exact I1.fpOk (Nat.le_refl _) (I1.hok.fresh (Nat.le_refl _))
theorem zaD {l:Expr} {tl:TE} (hl:PE X l tl):PI X tg l (iTup X.K tl):=by
  intro pins s σ H R I h
  refine thn (hl pins s σ H _ I h) fun v s1 ⟨x,H1,I1,r1,q1⟩=>?_
  obtain ⟨a,e,⟨xs,hq⟩,q⟩:=q1
  subst e
  cases r1
  obtain ⟨its,rv,p,hz⟩:=I1.tuple hq
  refine wpAny_pyIter_tuple (show s1.heap.IsTuple a its.toArray from p) ?_
  refine ⟨s1.heap.objs.size,[s1.heap.objs.size],_,_,H1,rfl,I1.kept (t':=s1.toks) fun b o e=>Heap.get?_push_of_some _ e,ZU a _,⟨_,Heap.get?_push_size _ rfl,rfl,rfl⟩,fun b hb=>?_,q⟩
  have e:b=s1.heap.objs.size:=by simpa using hb
  subst e
  exact I1.fpOk (Nat.le_refl _) (I1.hok.fresh (Nat.le_refl _))
theorem Wm {pins:List (Addr × Obj)} {σ:St} {H:Hp} {s:Shared} {R:It->Hp->Prop} {E:Value->Shared->Prop} {lo hi:Int} {t u v:Tok} {tk:Nat} (I:Inv X pins σ H s) (h1:-(2 ^ 62)<=lo) (h2:lo < 2 ^ 62) (h3:-(2 ^ 62)<=hi) (h4:hi < 2 ^ 62)
    (q:R (Itr lo (hi - lo).toNat) H):wpAny (model X.prog X.w) X.A (pyIter (.ref s.heap.objs.size)) (PIE X pins σ tg R) E { s with heap:=s.heap.push { cls:=.type "range",data:=.fields #[.int lo t,.int hi u,.int 1 v] },toks:=tk }:=by
  refine wpAny_pyIter_range (IsRange.new ..) (small_one h1 h2 h3 h4) ?_
  have I1:Inv X pins σ H { s with heap:=s.heap.push { cls:=.type "range",data:=.fields #[.int lo t,.int hi u,.int 1 v] },toks:=tk }:=I.kept fun b o e=>Heap.get?_push_of_some _ e
  refine ⟨(s.heap.push { cls:=.type "range",data:=.fields #[.int lo t,.int hi u,.int 1 v] }).objs.size,[(s.heap.push { cls:=.type "range",data:=.fields #[.int lo t,.int hi u,.int 1 v] }).objs.size],_,_,H,rfl,
    I1.kept (t':=tk) fun b o e=>Heap.get?_push_of_some _ e,ZV _ lo (hi - lo).toNat,?_,fun b hb=>?_,q⟩
  · have e1:lo + ((0:Nat):Int) * 1=lo:=by simp
    have e2:(((hi - lo).toNat:Nat):Int) - ((0:Nat):Int)=Builtin.Range.rangeSize lo hi 1:=by rw [rangeSize_one]; split <;> lia
    show IsRangeIter _ _ (lo + ((0:Nat):Int) * 1) ((((hi - lo).toNat:Nat):Int) - ((0:Nat):Int)) 1
    rw [e1,e2]
    exact Heap.get?_push_size _ rfl
  · have e:b=(s.heap.push { cls:=.type "range",data:=.fields #[.int lo t,.int hi u,.int 1 v] }).objs.size:=by simpa using hb
    subst e
    exact I1.fpOk (Nat.le_refl _) (I1.hok.fresh (Nat.le_refl _))
def QZ (ta:TA):TI:=fun σ H R=>ta σ H fun vs H1=>∃ j:Int,vs=[.int j]/\-(2 ^ 62)<=j/\j < 2 ^ 62/\R (Itr 0 j.toNat) H1
theorem XB {a:Expr} {ta:TA} {p pos:Pos} (hg:Gl X "range") (hm:X.mg "range"=none) (ha:PA X [a] ta) (hs:starEach [a] X.env=[(false,eval a X.env)]:=by rfl):PI X tg (.Call (.Name "range" p) [a] [] pos) (QZ ta):=by
  intro pins s σ H R I h
  refine Call_ (x6 I hg hm boot_range (PyProof.Rows.callWith_type1 (thn (ha pos pins s σ H _ I h) fun us s1 ⟨vs,H1,I1,r1,q1⟩=>?_) hs rfl))
  obtain ⟨j,e,q1,q2,q⟩:=q1
  subst e
  cases r1 with
  | cons r rr =>
    cases rr
    obtain ⟨t,rfl⟩:=r
    exact call_range_1 (Wm I1 (by lia) (by lia) q1 q2 (by simpa using q))
def tFor (wi:TI) (g:TG) (tb:TS):TS:=fun D σ H=>wi σ H fun J H1=>∃ W:Nat->Nat->St->Hp->Prop,(∃ m,W 0 m σ H1)/\∀ i m σ H,W i m σ H ->
  (J.stop i H/\D.nx σ H)\/(J.go i H/\∃ N:St->Hp->Prop,(∀ σ' H',N σ' H'->∃ m',m' < m/\W (i + 1) m' σ' H')/\∀ x H',J.yld i H x H'->g x σ H' fun σ2 H2=>tb { D with nx:=N,ct:=N,bk:=D.nx } σ2 H2)
def wR (fp:List Addr) (h:Heap):List (Addr × Obj):=fp.filterMap fun b=>(h.get? b).map fun o=>(b,o)
theorem xo {fp:List Addr} {h:Heap} {b:Addr} {o:Obj} (hb:b∈fp) (e:h.get? b=some o):(b,o)∈wR fp h:=List.mem_filterMap.mpr ⟨b,hb,by rw [e]; rfl⟩
theorem XC {fp:List Addr} {h:Heap} {p:Addr × Obj} (hp:p∈wR fp h):p.1∈fp/\h.get? p.1=some p.2:=by
  obtain ⟨b,hb,e⟩:=List.mem_filterMap.mp hp
  cases q:h.get? b with
  | none=>rw [q] at e; cases e
  | some o =>
    rw [q] at e
    have e':(b,o)=p:=Option.some.inj e
    subst e'
    exact ⟨hb,q⟩
theorem Inv.pinned {pins:List (Addr × Obj)} {σ:St} {H:Hp} {s:Shared} {fp:List Addr} (I:Inv X pins σ H s) (hf:∀ b∈fp,FpOk X pins H b) (ho:∀ b∈fp,∃ o,s.heap.get? b=some o/\∀ v,o.data≠.cell v):Inv X (pins ++ wR fp s.heap) σ H s :=
  I.pins_of fun p hp=>(List.mem_append.mp hp).elim (fun z=>I.pin p (List.mem_append_right _ z)) fun z=>by
    obtain ⟨hb,e⟩:=XC z
    obtain ⟨f0,f1,f2,_⟩:=hf p.1 hb
    obtain ⟨o,e',d⟩:=ho p.1 hb
    rw [e] at e'; cases e'
    exact ⟨e,f0,f1,f2,d⟩
theorem Inv.unpinned {pins pl:List (Addr × Obj)} {σ:St} {H:Hp} {s:Shared} (I:Inv X (pins ++ pl) σ H s):Inv X pins σ H s:=I.pins_of fun p hp=>I.pin p (List.mem_append_right _ (List.mem_append_left _ hp))
theorem zaE {iter:Expr} {body:List Stmt} {wi:TI} {g:TG} {tb:TS} {pos:Pos} (hp:PassesOwn (model X.prog X.w) X.A X.env X.xe) (hc:X.calm=true) (hi:PI X tg iter wi) (hg:PG X tg g) (hb:PSs X body tb)
    (hs:∀ x,foldedSetIterable iter X.env x=pure x:=by intro _; rfl):PS X (.For tg iter body [] pos) (tFor wi g tb):=by
  intro pins s σ H D I h
  refine wpAny_For (thn (hi pins s σ H _ I h) fun v s1 h1=>thn h1 fun itv s2 h2=>?_) hs
  obtain ⟨it,fp,tn,J,H2,e,I2,T,st2,f2,W,⟨m0,w0⟩,turn⟩:=h2
  subst e
  have stat:∀ {H':Hp},(∀ b∈fp,H' b=none)->∀ b∈fp,FpOk X pins H' b:=fun hn b hb=>⟨hn b hb,(f2 b hb).2⟩
  refine codeAny_forLoop_any (fun n s'=>∃ i σ' H',Inv X pins σ' H' s'/\tn i s'.heap/\(∀ b∈fp,H' b=none)/\W i n σ' H') ?_ m0 ⟨0,σ,H2,I2,st2,fun b hb=>(f2 b hb).1,w0⟩
  rintro n s3 ⟨i,σ3,H3,I3,st3,fr3,w3⟩
  rcases turn i n σ3 H3 w3 with ⟨stop,qn⟩ | ⟨go,N,hN,step⟩
  · refine wpAny_passesOwn hp (thn (T.done X rfl rfl rfl hc i pins s3 σ3 H3 X.xe I3 (stat fr3) st3 stop) fun r s4 ⟨hr,I4⟩=>?_)
    subst hr
    exact wpAny_execs_nil ⟨σ3,H3,I4,qn⟩
  · refine wpAny_passesOwn hp (thn (T.item X rfl rfl rfl hc i pins s3 σ3 H3 X.xe I3 (stat fr3) st3 go) fun r s4 ⟨u,hr,h4⟩=>?_)
    subst hr
    refine wpAny_passesOwn hp (thn h4 fun _ s5 ⟨x,H5,I5,r5,y5,st5,fr5⟩=>?_)
    have I5':=I5.pinned (stat fr5) (T.obj _ _ st5)
    refine wpAny_passesOwn hp (thn (hg _ s5 σ3 H5 x u _ I5' r5 (step x H5 y5)) fun _ s6 ⟨σ6,H6,I6,q6⟩=>?_)
    refine wpAny_passesOwn hp (thn (hb _ s6 σ6 H6 _ I6 q6) fun f s7 q7=>?_)
    have again:∀ {σ7:St} {H7:Hp},Inv X (pins ++ wR fp s5.heap) σ7 H7 s7->N σ7 H7->∃ m,m < n/\∃ i σ' H',Inv X pins σ' H' s7/\tn i s7.heap/\(∀ b∈fp,H' b=none)/\W i m σ' H':=fun {σ7 H7} I7 n7=>by
      obtain ⟨m',hm,w7⟩:=hN σ7 H7 n7
      refine ⟨m',hm,i + 1,σ7,H7,I7.unpinned,T.keep _ _ _ st5 fun b hb o e=>(I7.pin (b,o) (List.mem_append_right _ (List.mem_append_right _ (xo hb e)))).1,fun b hb=>?_,w7⟩
      obtain ⟨o,e,d⟩:=T.obj _ _ st5 b hb
      exact (I7.pin (b,o) (List.mem_append_right _ (List.mem_append_right _ (xo hb e)))).2.1
    cases f with
    | next=>obtain ⟨σ7,H7,I7,n7⟩:=q7; exact again I7 n7
    | cont=>obtain ⟨σ7,H7,I7,n7⟩:=q7; exact again I7 n7
    | brk=>obtain ⟨σ7,H7,I7,q7⟩:=q7; exact ⟨σ7,H7,I7.unpinned,q7⟩
    | ret v=>obtain ⟨x7,σ7,H7,I7,r7,q7⟩:=q7; exact ⟨x7,σ7,H7,I7.unpinned,r7,q7⟩
end
theorem yN {K:PySem.W.Frag} {a:Addr} {xs:List V} {g:TG} {tb:TS} {D:Ends} {σ:St} {H:Hp} (Pv:Nat->St->Hp->Prop) (h0:Pv 0 σ H) (hl:∀ i σ H,i<=xs.length->Pv i σ H->SqL K H a xs)
    (hs:∀ i x σ H,xs[i]?=some x->Pv i σ H->g x σ H fun σ2 H2=>tb { D with nx:=Pv (i + 1),ct:=Pv (i + 1),bk:=D.nx } σ2 H2) (hd:∀ σ H,Pv xs.length σ H->D.nx σ H) :
    ∃ W:Nat->Nat->St->Hp->Prop,(∃ m,W 0 m σ H)/\∀ i m σ H,W i m σ H ->
      ((Itl K a).stop i H/\D.nx σ H)\/((Itl K a).go i H/\∃ N:St->Hp->Prop,(∀ σ' H',N σ' H'->∃ m',m' < m/\W (i + 1) m' σ' H')/\∀ x H',(Itl K a).yld i H x H'->g x σ H' fun σ2 H2=>tb { D with nx:=N,ct:=N,bk:=D.nx } σ2 H2):=by
  refine ⟨fun i m σ H=>m=xs.length - i/\i<=xs.length/\Pv i σ H,⟨xs.length,by simp,Nat.zero_le _,h0⟩,?_⟩
  rintro i m σ H ⟨rfl,hi,p⟩
  have q:=hl i σ H hi p
  by_cases hlt:i < xs.length
  · refine .inr ⟨⟨xs,xs[i],q,by simp [hlt]⟩,Pv (i + 1),fun σ' H' p'=>⟨xs.length - (i + 1),by lia,rfl,hlt,p'⟩,fun x H' y=>?_⟩
    obtain ⟨e,y⟩:=y
    subst e
    exact hs i x σ _ (y xs q) p
  · have e:i=xs.length:=by lia
    subst e
    exact .inl ⟨⟨xs,q,Nat.le_refl _⟩,hd σ H p⟩
theorem xB {K:PySem.W.Frag} {a:Addr} {xs:List V} {g:TG} {tb:TS} {D:Ends} {σ:St} {H:Hp} (Pv:Nat->St->Hp->Prop) (h0:Pv 0 σ H) (hl:∀ i σ H,i<=xs.length->Pv i σ H->SqT K H a xs)
    (hs:∀ i x σ H,xs[i]?=some x->Pv i σ H->g x σ H fun σ2 H2=>tb { D with nx:=Pv (i + 1),ct:=Pv (i + 1),bk:=D.nx } σ2 H2) (hd:∀ σ H,Pv xs.length σ H->D.nx σ H) :
    ∃ W:Nat->Nat->St->Hp->Prop,(∃ m,W 0 m σ H)/\∀ i m σ H,W i m σ H ->
      ((Itt K a).stop i H/\D.nx σ H)\/((Itt K a).go i H/\∃ N:St->Hp->Prop,(∀ σ' H',N σ' H'->∃ m',m' < m/\W (i + 1) m' σ' H')/\∀ x H',(Itt K a).yld i H x H'->g x σ H' fun σ2 H2=>tb { D with nx:=N,ct:=N,bk:=D.nx } σ2 H2):=by
  refine ⟨fun i m σ H=>m=xs.length - i/\i<=xs.length/\Pv i σ H,⟨xs.length,by simp,Nat.zero_le _,h0⟩,?_⟩
  rintro i m σ H ⟨rfl,hi,p⟩
  have q:=hl i σ H hi p
  by_cases hlt:i < xs.length
  · refine .inr ⟨⟨xs,xs[i],q,by simp [hlt]⟩,Pv (i + 1),fun σ' H' p'=>⟨xs.length - (i + 1),by lia,rfl,hlt,p'⟩,fun x H' y=>?_⟩
    obtain ⟨e,y⟩:=y
    subst e
    exact hs i x σ _ (y xs q) p
  · have e:i=xs.length:=by lia
    subst e
    exact .inl ⟨⟨xs,q,Nat.le_refl _⟩,hd σ H p⟩
theorem vL {lo:Int} {n:Nat} {g:TG} {tb:TS} {D:Ends} {σ:St} {H:Hp} (Pv:Nat->St->Hp->Prop) (h0:Pv 0 σ H)
    (hs:∀ i σ H,i < n->Pv i σ H->g (.int (lo + i)) σ H fun σ2 H2=>tb { D with nx:=Pv (i + 1),ct:=Pv (i + 1),bk:=D.nx } σ2 H2) (hd:∀ σ H,Pv n σ H->D.nx σ H) :
    ∃ W:Nat->Nat->St->Hp->Prop,(∃ m,W 0 m σ H)/\∀ i m σ H,W i m σ H ->
      ((Itr lo n).stop i H/\D.nx σ H)\/((Itr lo n).go i H/\∃ N:St->Hp->Prop,(∀ σ' H',N σ' H'->∃ m',m' < m/\W (i + 1) m' σ' H')/\∀ x H',(Itr lo n).yld i H x H'->g x σ H' fun σ2 H2=>tb { D with nx:=N,ct:=N,bk:=D.nx } σ2 H2):=by
  refine ⟨fun i m σ H=>m=n - i/\i<=n/\Pv i σ H,⟨n,by simp,Nat.zero_le _,h0⟩,?_⟩
  rintro i m σ H ⟨rfl,hi,p⟩
  by_cases hlt:i < n
  · refine .inr ⟨hlt,Pv (i + 1),fun σ' H' p'=>⟨n - (i + 1),by lia,rfl,hlt,p'⟩,fun x H' y=>?_⟩
    obtain ⟨e,y⟩:=y
    subst e y
    exact hs i σ _ hlt p
  · have e:i=n:=by lia
    subst e
    exact .inl ⟨Nat.le_refl _,hd σ H p⟩
abbrev R2:=V->V->Hp->VK->Prop
def OpR (X:Cx) (f:Value->Value->Sem Value) (r:R2):Prop :=
  ∀ (pins:List (Addr × Obj)) (s:Shared) (σ:St) (H:Hp) (x y:V) (v u:Value) (Q:VK),Inv X pins σ H s->RelV x v->RelV y u->r x y H Q ->
    wpAny (model X.prog X.w) X.A (f v u) (EP X pins σ Q) X.xe s
def UnR (X:Cx) (f:Value->Sem Value) (r:V->Hp->VK->Prop):Prop :=
  ∀ (pins:List (Addr × Obj)) (s:Shared) (σ:St) (H:Hp) (x:V) (v:Value) (Q:VK),Inv X pins σ H s->RelV x v->r x H Q ->
    wpAny (model X.prog X.w) X.A (f v) (EP X pins σ Q) X.xe s
def y8 (X:Cx) (f:Value) (r:List V->Hp->VK->Prop):Prop :=
  ∀ (pins:List (Addr × Obj)) (s:Shared) (σ:St) (H:Hp) (xs:List V) (us:List Value) (Q:VK),Inv X pins σ H s->Vals xs us->r xs H Q ->
    wpAny (model X.prog X.w) X.A (call f us) (EP X pins σ Q) X.xe s
def tOp (r:R2) (ta tb:TE):TE:=fun σ H Q=>ta σ H fun x H1=>tb σ H1 fun y H2=>r x y H2 Q
def tUn (r:V->Hp->VK->Prop) (ta:TE):TE:=fun σ H Q=>ta σ H fun x H1=>r x H1 Q
def rI (C:Int->Int->Prop) (g:Int->Int->V):R2:=fun x y H Q=>∃ i j,x=.int i/\y=.int j/\C i j/\Q (g i j) H
def rI0 (g:Int->Int->V):R2:=fun x y H Q=>∃ i j,x=.int i/\y=.int j/\Q (g i j) H
def rU (g:Int->V):V->Hp->VK->Prop:=fun x H Q=>∃ i,x=.int i/\Q (g i) H
section
variable {X:Cx} {a b c:Expr} {ta tb tc:TE} {pos:Pos}
theorem binT (ha:PE X a ta) (hb:PE X b tb) {pins:List (Addr × Obj)} {s:Shared} {σ:St} {H:Hp} {R:V->V->Hp->Prop} (I:Inv X pins σ H s)
    (h:ta σ H fun x H1=>tb σ H1 fun y H2=>R x y H2) {Q:Value->Shared->Prop} {f:Value->Value->Sem Value}
    (hf:∀ v u s2 x y H2,Inv X pins σ H2 s2->RelV x v->RelV y u->R x y H2->wpAny (model X.prog X.w) X.A (f v u) Q X.xe s2) :
    wpAny (model X.prog X.w) X.A (eval a X.env) (fun v s₁=>wpAny (model X.prog X.w) X.A (eval b X.env) (fun u s₂=>wpAny (model X.prog X.w) X.A (f v u) Q X.xe s₂) X.xe s₁) X.xe s:=by
  refine thn (ha pins s σ H _ I h) fun v s1 ⟨x,H1,I1,r1,q1⟩=>?_
  refine thn (hb pins s1 σ H1 _ I1 q1) fun u s2 ⟨y,H2,I2,r2,q2⟩=>?_
  exact hf v u s2 x y H2 I2 r1 r2 q2
theorem zbS {op:Operator} {r:R2} (ho:OpR X (binaryOp op) r) (ha:PE X a ta) (hb:PE X b tb):PE X (.BinOp a op b pos) (tOp r ta tb):=by
  intro pins s σ H Q I h
  exact wpAny_BinOp (binT ha hb I h fun v u s2 x y H2 I2 rx ry q=>ho pins s2 σ H2 x y v u Q I2 rx ry q)
theorem Q0 {op:UnaryOp} {r:V->Hp->VK->Prop} (ho:UnR X (unaryOp op) r) (ha:PE X a ta):PE X (.UnaryOp op a pos) (tUn r ta):=by
  intro pins s σ H Q I h
  exact UnaryOp_ (thn (ha pins s σ H _ I h) fun v s1 ⟨x,H1,I1,r1,q1⟩=>ho pins s1 σ H1 x v Q I1 r1 q1)
theorem opI {f:Value->Value->Sem Value} {C:Int->Int->Prop} {g:Int->Int->Int}
    (rule:∀ (i j:Int) (t u:Tok) (s:Shared) (Q:Value->Shared->Prop) (E:Value->Shared->Prop),C i j->Q (.int (g i j) s.toks) { s with toks:=s.toks + 1 }->wpAny (model X.prog X.w) X.A (f (.int i t) (.int j u)) Q E s) :
    OpR X f (rI C fun i j=>.int (g i j)):=by
  intro pins s σ H x y v u Q I rx ry h
  obtain ⟨i,j,rfl,rfl,hc,q⟩:=h
  obtain ⟨t,rfl⟩:=rx
  obtain ⟨t',rfl⟩:=ry
  exact rule i j t t' s _ _ hc ⟨.int (g i j),H,I.tok _,⟨_,rfl⟩,q⟩
theorem opI0 {f:Value->Value->Sem Value} {g:Int->Int->Int}
    (rule:∀ (i j:Int) (t u:Tok) (s:Shared) (Q:Value->Shared->Prop) (E:Value->Shared->Prop),Q (.int (g i j) s.toks) { s with toks:=s.toks + 1 }->wpAny (model X.prog X.w) X.A (f (.int i t) (.int j u)) Q E s) :
    OpR X f (rI0 fun i j=>.int (g i j)):=by
  intro pins s σ H x y v u Q I rx ry h
  obtain ⟨i,j,rfl,rfl,q⟩:=h
  obtain ⟨t,rfl⟩:=rx
  obtain ⟨t',rfl⟩:=ry
  exact rule i j t t' s _ _ ⟨.int (g i j),H,I.tok _,⟨_,rfl⟩,q⟩
theorem opB0 {f:Value->Value->Sem Value} {g:Int->Int->Bool}
    (rule:∀ (i j:Int) (t u:Tok) (s:Shared) (Q:Value->Shared->Prop) (E:Value->Shared->Prop),Q (.bool (g i j)) s->wpAny (model X.prog X.w) X.A (f (.int i t) (.int j u)) Q E s) :
    OpR X f (rI0 fun i j=>.bl (g i j)):=by
  intro pins s σ H x y v u Q I rx ry h
  obtain ⟨i,j,rfl,rfl,q⟩:=h
  obtain ⟨t,rfl⟩:=rx
  obtain ⟨t',rfl⟩:=ry
  exact rule i j t t' s _ _ ⟨.bl (g i j),H,I,rfl,q⟩
def CDiv (i j:Int):Prop:=0 < j/\j < 1073741824
def CMul (i j:Int):Prop:=(-(2 ^ 64) < i/\i < 2 ^ 64)\/(-(2 ^ 64) < j/\j < 2 ^ 64)
theorem CMul.ok {i j:Int} (h:CMul i j):IntMulOk i j:=by
  rcases h with ⟨h1,h2⟩ | ⟨h1,h2⟩
  · exact .of_left (intBits_le_64 h1 h2)
  · exact .of_right (intBits_le_64 h1 h2)
theorem zaF:OpR X (binaryOp .Add) (rI0 fun i j=>.int (i + j)):=opI0 fun _ _ _ _ _ _ _ q=>add_int q
theorem zaG:OpR X (binaryOp .Sub) (rI0 fun i j=>.int (i - j)):=opI0 fun _ _ _ _ _ _ _ q=>sub_int q
theorem zaH:OpR X (binaryOp .Mult) (rI CMul fun i j=>.int (i * j)):=opI fun _ _ _ _ _ _ _ hc q=>mul_int q hc.ok
theorem Jx:OpR X (binaryOp .FloorDiv) (rI CDiv fun i j=>.int (i / j)):=opI fun i j _ _ _ _ _ hc q=>by
  have h1:(0:Int) < j:=hc.1
  have h2:j < 1073741824:=hc.2
  exact floordiv_int (by lia) (by rw [Int.fdiv_eq_ediv_of_nonneg i (by lia)]; exact q) (.inl (PyProof.noPylong_small (by lia)))
theorem zaI:OpR X (binaryOp .Mod) (rI (fun _ j=>0 < j) fun i j=>.int (i % j)):=opI fun i j _ _ _ _ _ hc q=>by
  have h1:(0:Int) < j:=hc
  exact mod_int' (by lia) (by rw [Int.fmod_eq_emod_of_nonneg i (by lia)]; exact q)
theorem zaJ:OpR X (binaryOp .BitAnd) (rI0 fun i j=>.int (Builtin.bitAnd i j)):=opI0 fun _ _ _ _ _ _ _ q=>and_int q
theorem zbT:OpR X (binaryOp .BitOr) (rI0 fun i j=>.int (Builtin.bitOr i j)):=opI0 fun _ _ _ _ _ _ _ q=>or_int q
theorem unI {f:Value->Sem Value} {g:Int->Int}
    (rule:∀ (i:Int) (t:Tok) (s:Shared) (Q:Value->Shared->Prop) (E:Value->Shared->Prop),Q (.int (g i) s.toks) { s with toks:=s.toks + 1 }->wpAny (model X.prog X.w) X.A (f (.int i t)) Q E s) :
    UnR X f (rU fun i=>.int (g i)):=by
  intro pins s σ H x v Q I rx h
  obtain ⟨i,rfl,q⟩:=h
  obtain ⟨t,rfl⟩:=rx
  exact rule i t s _ _ ⟨.int (g i),H,I.tok _,⟨_,rfl⟩,q⟩
theorem zaK:UnR X (unaryOp .USub) (rU fun i=>.int (-i)):=unI fun _ _ _ _ _ q=>neg_int q
theorem zaL:UnR X (unaryOp .Invert) (rU fun i=>.int (Builtin.bitNot i)):=unI fun _ _ _ _ _ q=>invert_int q
def scal:V->V->Bool
  | .non,.non=>true | .non,.int _=>true | .int _,.non=>true | .non,.bl _=>true | .bl _,.non=>true | .non,.str _=>true | .str _,.non=>true
  | .int _,.int _=>true | .bl _,.bl _=>true | .str _,.str _=>true | .byt _,.byt _=>true
  | .int _,.str _=>true | .str _,.int _=>true | .bl _,.str _=>true | .str _,.bl _=>true
  | _,_=>false
def rEq:R2:=fun x y H Q=>scal x y=true/\Q (.bl (decide (x=y))) H
def rNe:R2:=fun x y H Q=>scal x y=true/\Q (.bl (!decide (x=y))) H
theorem YK {i j:Int}:decide (V.int i=V.int j)=(i == j):=by
  rw [Bool.eq_iff_iff]
  simp
theorem Wn {i j:Bool}:decide (V.bl i=V.bl j)=(i == j):=by
  rw [Bool.eq_iff_iff]
  simp
theorem YL {i j:Str}:decide (V.str i=V.str j)=(i == j):=by
  rw [Bool.eq_iff_iff]
  simp
theorem YM {i j:Array UInt8}:decide (V.byt i=V.byt j)=(i.toList == j.toList):=by
  rw [Bool.eq_iff_iff]
  cases i
  cases j
  simp
theorem zC {pins:List (Addr × Obj)} {σ:St} {H:Hp} {s:Shared} {Q:VK} {k k':Bool} (I:Inv X pins σ H s) (q:Q (.bl k) H) (e:k=k'):EP X pins σ Q (.bool k') s:=by
  subst e
  exact ⟨.bl k,H,I,rfl,q⟩
theorem zbU:OpR X (compareOp .Eq) rEq:=by
  intro pins s σ H x y v u Q I rx ry h
  obtain ⟨hs,q⟩:=h
  cases x with
  | non =>
    cases rx
    cases y with
    | non=>cases ry; exact PySem.EqNone.eq_none_none (zC I q (by simp))
    | bl j=>cases ry; exact PySem.EqNone.eq_none_bool (zC I q (by simp))
    | int j=>obtain ⟨t',rfl⟩:=ry; exact PySem.EqNone.eq_none_int (zC I q (by simp))
    | str j=>obtain ⟨t',rfl⟩:=ry; exact PySem.EqNone.eq_none_str (zC I q (by simp))
    | _=>exact absurd (show false=true from hs) Bool.false_ne_true
  | bl i =>
    cases rx
    cases y with
    | non=>cases ry; exact PySem.EqNone.eq_bool_none (zC I q (by simp))
    | bl j=>cases ry; exact eq_bool (zC I q Wn)
    | str j=>obtain ⟨t',rfl⟩:=ry; exact PySem.EqMixed.eq_bool_str (zC I q (by simp))
    | _=>exact absurd (show false=true from hs) Bool.false_ne_true
  | int i =>
    obtain ⟨t,rfl⟩:=rx
    cases y with
    | non=>cases ry; exact PySem.EqNone.eq_int_none (zC I q (by simp))
    | int j=>obtain ⟨t',rfl⟩:=ry; exact eq_int (zC I q YK)
    | str j=>obtain ⟨t',rfl⟩:=ry; exact PySem.EqMixed.eq_int_str (zC I q (by simp))
    | _=>exact absurd (show false=true from hs) Bool.false_ne_true
  | str i =>
    obtain ⟨t,rfl⟩:=rx
    cases y with
    | non=>cases ry; exact PySem.EqNone.eq_str_none (zC I q (by simp))
    | bl j=>cases ry; exact PySem.EqMixed.eq_str_bool (zC I q (by simp))
    | int j=>obtain ⟨t',rfl⟩:=ry; exact PySem.EqMixed.eq_str_int (zC I q (by simp))
    | str j=>obtain ⟨t',rfl⟩:=ry; exact eq_str (zC I q YL)
    | _=>exact absurd (show false=true from hs) Bool.false_ne_true
  | byt i =>
    obtain ⟨t,rfl⟩:=rx
    cases y with
    | byt j=>obtain ⟨t',rfl⟩:=ry; exact PySem.W.eq_bytes (zC I q YM)
    | _=>exact absurd (show false=true from hs) Bool.false_ne_true
  | _=>cases y <;> exact absurd (show false=true from hs) Bool.false_ne_true
theorem zbV:OpR X (compareOp .NotEq) rNe:=by
  intro pins s σ H x y v u Q I rx ry h
  obtain ⟨hs,q⟩:=h
  cases x with
  | non =>
    cases rx
    cases y with
    | non=>cases ry; exact PySem.EqNone.ne_none_none (zC I q (by simp))
    | bl j=>cases ry; exact PySem.EqNone.ne_none_bool (zC I q (by simp))
    | int j=>obtain ⟨t',rfl⟩:=ry; exact PySem.EqNone.ne_none_int (zC I q (by simp))
    | str j=>obtain ⟨t',rfl⟩:=ry; exact PySem.EqNone.ne_none_str (zC I q (by simp))
    | _=>exact absurd (show false=true from hs) Bool.false_ne_true
  | bl i =>
    cases rx
    cases y with
    | non=>cases ry; exact PySem.EqNone.ne_bool_none (zC I q (by simp))
    | bl j=>cases ry; exact ne_bool (zC I q (congrArg not Wn))
    | str j=>obtain ⟨t',rfl⟩:=ry; exact PySem.EqMixed.ne_bool_str (zC I q (by simp))
    | _=>exact absurd (show false=true from hs) Bool.false_ne_true
  | int i =>
    obtain ⟨t,rfl⟩:=rx
    cases y with
    | non=>cases ry; exact PySem.EqNone.ne_int_none (zC I q (by simp))
    | int j=>obtain ⟨t',rfl⟩:=ry; exact ne_int (zC I q (congrArg not YK))
    | str j=>obtain ⟨t',rfl⟩:=ry; exact PySem.EqMixed.ne_int_str (zC I q (by simp))
    | _=>exact absurd (show false=true from hs) Bool.false_ne_true
  | str i =>
    obtain ⟨t,rfl⟩:=rx
    cases y with
    | non=>cases ry; exact PySem.EqNone.ne_str_none (zC I q (by simp))
    | bl j=>cases ry; exact PySem.EqMixed.ne_str_bool (zC I q (by simp))
    | int j=>obtain ⟨t',rfl⟩:=ry; exact PySem.EqMixed.ne_str_int (zC I q (by simp))
    | str j=>obtain ⟨t',rfl⟩:=ry; exact ne_str (zC I q (congrArg not YL))
    | _=>exact absurd (show false=true from hs) Bool.false_ne_true
  | byt i =>
    obtain ⟨t,rfl⟩:=rx
    cases y with
    | byt j=>obtain ⟨t',rfl⟩:=ry; exact PySem.W.ne_bytes (zC I q (congrArg not YM))
    | _=>exact absurd (show false=true from hs) Bool.false_ne_true
  | _=>cases y <;> exact absurd (show false=true from hs) Bool.false_ne_true
theorem zbW:OpR X (compareOp .Lt) (rI0 fun i j=>.bl (decide (i < j))):=opB0 fun _ _ _ _ _ _ _ q=>lt_int q
theorem zbX:OpR X (compareOp .Gt) (rI0 fun i j=>.bl (decide (j < i))):=opB0 fun _ _ _ _ _ _ _ q=>gt_int q
theorem yX (b:Expr) {op:CmpOp} (h:op≠.In:=by decide) (h2:op≠.NotIn:=by decide):behindInMarks op b=false:=by
  have e1:(op == CmpOp.In)=false:=by cases op <;> first | rfl | exact absurd rfl h
  have e2:(op == CmpOp.NotIn)=false:=by cases op <;> first | rfl | exact absurd rfl h2
  cases b <;> simp [behindInMarks,e1,e2]
theorem Jy {op:CmpOp} {r:R2} (ho:OpR X (compareOp op) r) (ha:PE X a ta) (hb:PE X b tb) (hm:behindInMarks op b=false):PE X (.Compare a [op] [b] pos) (tOp r ta tb):=by
  intro pins s σ H Q I h
  exact wpAny_Compare1 (binT ha hb I h fun v u s2 x y H2 I2 rx ry q=>ho pins s2 σ H2 x y v u Q I2 rx ry q) hm
def Wp (t:TE):TT:=fun σ H Q=>t σ H fun x H'=>∃ k,x=.bl k/\Q k H'
theorem Jz {op:CmpOp} {r:R2} (ho:OpR X (compareOp op) r) (ha:PE X a ta) (hb:PE X b tb) (hm:behindInMarks op b=false):PT X (.Compare a [op] [b] pos) (Wp (tOp r ta tb)):=by
  intro pins s σ H Q I h
  refine wpAny_isTrue_Compare1 (thn (ha pins s σ H _ I h) fun v s1 ⟨x,H1,I1,r1,q1⟩=>thn (hb pins s1 σ H1 _ I1 q1) fun u s2 ⟨y,H2,I2,r2,q2⟩ =>
    thn (ho pins s2 σ H2 x y v u _ I2 r1 r2 q2) fun c s3 ⟨z,H3,I3,r3,k,e,q3⟩=>?_) hm
  subst e
  cases r3
  exact wpAny_truthy_bool ⟨H3,I3,q3⟩
theorem wS:(sizeLine:Nat) < 2 ^ 63:=by rw [sizeLine_eq]; decide
theorem ZX:OpR X (binaryOp .Add) (fun x y H Q=>∃ i j,x=.str i/\y=.str j/\i.length + j.length<=sizeLine/\Q (.str (i ++ j)) H):=by
  intro pins s σ H x y v u Q I rx ry h
  obtain ⟨i,j,rfl,rfl,hz,q⟩:=h
  obtain ⟨t,rfl⟩:=rx
  obtain ⟨t',rfl⟩:=ry
  exact add_str (fun t' tk=>⟨.str (i ++ j),H,I.tok _,⟨_,rfl⟩,q⟩) hz
theorem wx {x:V} {us:List Value} (r:Vals [x] us):∃ u,us=[u]/\RelV x u:=by
  cases r with
  | cons r1 r2=>cases r2; exact ⟨_,rfl,r1⟩
theorem Q2 {x y:V} {us:List Value} (r:Vals [x,y] us):∃ u w',us=[u,w']/\RelV x u/\RelV y w':=by
  cases r with
  | cons r1 r2 =>
    cases r2 with
    | cons r3 r4=>cases r4; exact ⟨_,_,rfl,r1,r3⟩
theorem XD (hc:X.calm=true):y8 X (.builtin "max") (fun xs H Q=>∃ i j,xs=[.int i,.int j]/\Q (.int (if j > i then j else i)) H):=by
  intro pins s σ H xs us Q I r h
  obtain ⟨i,j,rfl,q⟩:=h
  obtain ⟨u,w',rfl,⟨t,rfl⟩,⟨t',rfl⟩⟩:=Q2 r
  refine max_two_ints (I.ok.hd hc) fun h' tk k=>⟨_,H,I.kept k,?_,q⟩
  by_cases hj:j > i
  · rw [if_pos hj,if_pos hj]; exact ⟨_,rfl⟩
  · rw [if_neg hj,if_neg hj]; exact ⟨_,rfl⟩
end
structure ObjM (h:Heap) (x dx C:Addr) (mA:Str->Option Value):Prop where
  obj:h.get? x=some (PySem.W.instObj C dx)
  ns:h.Ns1 dx mA
  ne:dx≠x
theorem XE {h:Heap} {dx:Addr} {mA:Str->Option Value} (n:h.Ns1 dx mA):∃ od,h.get? dx=some od/\∀ name,PySem.W.lookIn name od=some (mA name):=by
  obtain ⟨o,es,ep,ho,hd,hk,_,hm⟩:=n
  refine ⟨o,ho,fun name=>?_⟩
  have e:=hm name
  unfold nsFind findBy at e
  rw [<- Array.find?_toList] at e
  unfold PySem.W.lookIn
  rw [hd]
  dsimp only
  split
  · rename_i y q
    rw [q] at e
    exact congrArg some e
  · rename_i q
    rw [q] at e
    have a:es.toList.any (·.refKey)=false:=by
      rw [List.any_eq_false]
      intro y hy
      obtain ⟨z,t,hkey⟩:=hk y (Array.mem_toList_iff.mp hy)
      simp [DictEntry.refKey,hkey]
    have a':¬ es.toList.any (·.refKey)=true:=by rw [a]; exact Bool.false_ne_true
    rw [if_neg a']
    exact congrArg some e
theorem ObjM.look {h:Heap} {x dx C:Addr} {mA:Str->Option Value} (I:ObjM h x dx C mA):∃ od,PySem.W.InstAt h x (PySem.W.instObj C dx) C (some od)/\∀ name,PySem.W.lookIn name od=some (mA name) :=
  let ⟨od,ho,hl⟩:=XE I.ns
  ⟨od,⟨I.obj,rfl,rfl,ho⟩,hl⟩
section
variable {prog:Program} {w:World} {A:Around} {E:Value->Shared->Prop} {s:Shared} {K:PySem.W.Frag} {x dx C f:Addr} {mA:Str->Option Value} {name:Str} {v:Value}
theorem JA {expr:Bool} {Q:Value->Shared->Prop} (X:K.In s.heap) (I:ObjM s.heap x dx C mA) (hg:PySem.W.plainGet K C name=true) (hh:PySem.W.hasDictIn K C=true)
    (ha:PySem.W.findIn K (.ref C) name=some none) (hv:mA name=some v) (hv':PySem.W.handedIn v=true) (h:Q v { s with toks:=s.toks + 1 }) :
    wpAny (model prog w) A (getAttr (.ref x) name expr) Q E s:=by
  obtain ⟨od,J,hl⟩:=I.look
  exact PySem.W.get_value X J (PySem.W.plainGet_of hg).1 (PySem.W.findObj_own hh ha rfl (by rw [hl,hv])) hv' h
theorem Wq {pl:Sem Bool} {Q:Value × List Value->Shared->Prop} (X:K.In s.heap) (I:ObjM s.heap x dx C mA) (hg:PySem.W.plainGet K C name=true)
    (hf:PySem.W.findIn K (.ref C) name=some (some (.ref f))) (ht:PySem.W.isFn K (.ref f)=true) (hv:mA name=none) (h:Q (.ref f,[.ref x]) s) :
    wpAny (model prog w) A (getMethod (.ref x) name pl) Q E s:=by
  obtain ⟨od,J,hl⟩:=I.look
  exact PySem.W.method_fn X J (PySem.W.plainGet_of hg).1 (PySem.W.plainGet_of hg).2 hf (beq_iff_eq.mp ht) (by show (PySem.W.lookIn name od).map (·.isSome)=some false; rw [hl,hv]; rfl) h
theorem JB {ns:List Str} {Q:Unit->Shared->Prop} (X:K.In s.heap) (I:ObjM s.heap x dx C mA)
    (hs:PySem.W.findIn K (.ref C) "__setattr__"=some (some (.builtin "object.__setattr__"))) (hp:PySem.W.plainOver K C=true) (ht:PySem.W.takerIn K C name=some none) (hh:PySem.W.hasDictIn K C=true)
    (hw:PySem.Within mA ns) (hsz:ns.length<=sizeLine)
    (h:∀ h',ObjM h' x dx C (fun y=>if y=name then some v else mA y)->Heap.SameBut dx s.heap h'->Q () { s with heap:=h',toks:=s.toks + 2 }) :
    wpAny (model prog w) A (setAttr (.ref x) name v) Q E s:=by
  obtain ⟨od,J,hl⟩:=I.look
  refine PySem.W.set_plain X J hs (PySem.W.osa_open (s:={ s with toks:=s.toks + 1 }) (r:=none) X J hp ht fun b=>?_)
  obtain ⟨cd,hc,hd'⟩:=PySem.W.any_some hh
  have hx:s.heap.get? x=some ⟨.ref C,some dx,.plain,#[]⟩:=I.obj
  refine wpAny_bind (wpAny_pure (wpAny_bind (wpAny_bind (wpAny_loadPart hx (wpAny_bind (PySem.W.Looks.here (s:={ s with toks:=s.toks + 1 }) (PySem.W.looks_clsIn X hc) ?_))))))
  rw [hd']
  refine wpAny_pure (a:=some dx) (wpAny_bind (wpAny_pure (wpAny_bind ?_)))
  refine wpAny_nsSet1 (s:={ s with toks:=s.toks + 1 }) I.ns fun h' hn2 hs2=>?_
  obtain ⟨oD,esD,epD,hoD,hdD,hcD⟩:=hn2.count (PySem.Within.cons name v hw)
  refine wpAny_bind (wpAny_lookBehind hoD (by rw [hdD]; exact pastItsLine_dict (Nat.le_trans hcD (by rw [List.length_cons]; lia))) ?_)
  exact wpAny_pure (h _ ⟨(hs2.2 _ (Ne.symm I.ne)).trans I.obj,hn2,I.ne⟩ hs2)
theorem Wr {R:Result->Shared->Prop} {vs:List Value} {kw:List (Str × Value)} (X:K.In s.heap) (hm:PySem.W.makesIn K C=true)
    (hi:PySem.W.findIn K (.ref C) "__init__"=some (some (.ref f))) (hf:PySem.W.typeIn K (.ref f)=some (.type "function"))
    (h:codeAny (model prog w) (A.under (.builtin "type.__call__" ⟨.ref C :: vs,kw⟩)) (.call (.ref f) ⟨.ref (s.heap.objs.size + 1) :: vs,kw⟩) (PySem.W.InitBack (s.heap.objs.size + 1) R)
      { s with heap:=(s.heap.push PySem.W.emptyDict).push (PySem.W.instObj C s.heap.objs.size) }) :
    codeAny (model prog w) A (.call (.ref C) ⟨vs,kw⟩) R s:=by
  obtain ⟨hh,g,d,t,os⟩:=s
  exact PySem.W.make_core (PySem.W.makes_of X hm) (PySem.W.looks_findIn X hi) (fun self=>PySem.W.bind_fn X self hf) (.inl rfl) h
end
def putF (f:Str) (v:V):List (Str × V)->List (Str × V)
  | []=>[(f,v)]
  | (g,x) :: r=>if g=f then (g,v) :: r else (g,x) :: putF f v r
theorem wy (f g:Str) (v:V):∀ fs:List (Str × V),(putF f v fs).lookup g=if g=f then some v else fs.lookup g
  | []=>by
    show List.lookup g [(f,v)]=_
    by_cases h:g=f
    · have hb:(g == f)=true:=beq_iff_eq.mpr h
      simp only [List.lookup,hb,if_pos h]
    · have hb:(g == f)=false:=beq_eq_false_iff_ne.mpr h
      simp only [List.lookup,hb,if_neg h]
  | (k,x) :: r=>by
    have ih:=wy f g v r
    rw [show putF f v ((k,x) :: r)=(if k=f then (k,v) :: r else (k,x) :: putF f v r) from rfl]
    by_cases hk:k=f
    · rw [if_pos hk]
      by_cases h:g=k
      · have hb:(g == k)=true:=beq_iff_eq.mpr h
        simp only [List.lookup,hb,if_pos (h.trans hk)]
      · have hb:(g == k)=false:=beq_eq_false_iff_ne.mpr h
        simp only [List.lookup,hb,if_neg (fun e:g=f=>h (e.trans hk.symm))]
    · rw [if_neg hk]
      by_cases h:g=k
      · have hb:(g == k)=true:=beq_iff_eq.mpr h
        simp only [List.lookup,hb,if_neg (fun e:g=f=>hk (h.symm.trans e))]
      · have hb:(g == k)=false:=beq_eq_false_iff_ne.mpr h
        simp only [List.lookup,hb]
        exact ih
theorem x8 (f:Str) (v:V):∀ fs:List (Str × V),f∈(putF f v fs).map (·.1)/\∀ g,g∈fs.map (·.1)->g∈(putF f v fs).map (·.1)
  | []=>⟨by simp [putF],fun g h=>by simp at h⟩
  | (k,x) :: r=>by
    obtain ⟨i1,i2⟩:=x8 f v r
    rw [show putF f v ((k,x) :: r)=(if k=f then (k,v) :: r else (k,x) :: putF f v r) from rfl]
    by_cases hk:k=f
    · rw [if_pos hk]
      subst hk
      exact ⟨by simp,fun g h=>by simpa using h⟩
    · rw [if_neg hk]
      refine ⟨?_,fun g h=>?_⟩
      · rw [List.map_cons]
        exact List.mem_cons_of_mem _ i1
      · rw [List.map_cons] at h ⊢
        rcases List.mem_cons.mp h with e | e
        · exact List.mem_cons.mpr (.inl e)
        · exact List.mem_cons_of_mem _ (i2 g e)
theorem wz (f:Str) (v:V):∀ fs:List (Str × V),(putF f v fs).length<=fs.length + 1
  | []=>by simp [putF]
  | (k,x) :: r=>by
    have ih:=wz f v r
    rw [show putF f v ((k,x) :: r)=(if k=f then (k,v) :: r else (k,x) :: putF f v r) from rfl]
    by_cases hk:k=f
    · rw [if_pos hk,List.length_cons,List.length_cons]; lia
    · rw [if_neg hk,List.length_cons,List.length_cons]; lia
theorem RelO.some_of {v:V} {o:Option Value} (r:RelO (some v) o):∃ u,o=some u/\RelV v u:=by
  cases o with
  | none=>exact (show False from r).elim
  | some u=>exact ⟨u,rfl,r⟩
theorem RelO.none_of {o:Option Value} (r:RelO none o):o=none:=by
  cases o with
  | none=>rfl
  | some u=>exact (show False from r).elim
theorem XF {v:V} {u:Value} (r:RelV v u):PySem.W.handedIn u=true:=by
  cases v with
  | non=>cases (show u=Value.none from r); rfl
  | bl b=>cases (show u=Value.bool b from r); rfl
  | int i=>obtain ⟨t,e⟩:=(show ∃ t,u=Value.int i t from r); cases e; rfl
  | str x=>obtain ⟨t,e⟩:=(show ∃ t,u=Value.str x t from r); cases e; rfl
  | byt b=>obtain ⟨t,e⟩:=(show ∃ t,u=Value.bytes b t from r); cases e; rfl
  | flt b=>obtain ⟨t,e⟩:=(show ∃ t,u=Value.float b t from r); cases e; rfl
  | ref a=>cases (show u=Value.ref a from r); rfl
  | ty n=>cases (show u=Value.type n from r); rfl
section
variable {P:Program} {w:World} {H H':Hp} {h h':Heap} {a C dx:Addr} {fs fs':List (Str × V)}
theorem jg (hok:HOk P w H h) (e:H a=some (.ins C dx fs)):∃ mA,ObjM h a dx C mA/\(∀ f,RelO (fs.lookup f) (mA f))/\PySem.Within mA (fs.map (·.1))/\fs.length<=1000/\H dx=some (.own a):=by
  obtain ⟨d,z,ne,ob,mA,n,r,q⟩:=(show ObjOk P w H h a (.ins C dx fs) from hok a _ e)
  exact ⟨mA,⟨ob,n,ne⟩,r,q,z,d⟩
end
structure Cls (K:PySem.W.Frag) (C:Addr):Prop where
  pg:PySem.W.plainGet K C Str.empty=true
  hd:PySem.W.hasDictIn K C=true
  po:PySem.W.plainOver K C=true
  sa:PySem.W.findIn K (.ref C) "__setattr__"=some (some (.builtin "object.__setattr__"))
theorem Cls.get {K:PySem.W.Frag} {C:Addr} (c:Cls K C) (f:Str):PySem.W.plainGet K C f=true:=c.pg
def NoAttr (K:PySem.W.Frag) (C:Addr) (f:Str):Prop:=PySem.W.findIn K (.ref C) f=some none
theorem NoAttr.taker {K:PySem.W.Frag} {C:Addr} {f:Str} (n:NoAttr K C f):PySem.W.takerIn K C f=some none:=by
  unfold PySem.W.takerIn
  rw [show PySem.W.findIn K (.ref C) f=some none from n]
  rfl
structure Meth (K:PySem.W.Frag) (C:Addr) (m:Str) (f:Addr):Prop where
  at_:PySem.W.findIn K (.ref C) m=some (some (.ref f))
  fn:PySem.W.isFn K (.ref f)=true
  kp:PySem.W.keepIn K (.ref f)=true
section
variable {X:Cx} {pins:List (Addr × Obj)} {σ:St} {H:Hp} {s:Shared} {a C dx:Addr} {fs:List (Str × V)} {f:Str} {v:V} {A:Around} {E:Value->Shared->Prop}
theorem ZY {b:Bool} {Q:Value->Shared->Prop} (I:Inv X pins σ H s) (e:H a=some (.ins C dx fs)) (c:Cls X.K C) (n:NoAttr X.K C f) (l:fs.lookup f=some v)
    (h:∀ u s',Inv X pins σ H s'->RelV v u->Q u s'):wpAny (model X.prog X.w) A (getAttr (.ref a) f b) Q E s:=by
  obtain ⟨mA,O,r,_,_,_⟩:=jg I.hok e
  obtain ⟨u,hu,ru⟩:=RelO.some_of (v:=v) (o:=mA f) (by rw [<- l]; exact r f)
  exact JA I.kIn O (c.get f) c.hd n hu (XF ru) (h u _ (I.tok _) ru)
theorem ZZ {m:Str} {g:Addr} {pl:Sem Bool} {Q:Value × List Value->Shared->Prop} (I:Inv X pins σ H s) (e:H a=some (.ins C dx fs)) (c:Cls X.K C) (k:Meth X.K C m g) (l:fs.lookup m=none)
    (h:Q (.ref g,[.ref a]) s):wpAny (model X.prog X.w) A (getMethod (.ref a) m pl) Q E s:=by
  obtain ⟨mA,O,r,_,_,_⟩:=jg I.hok e
  have hn:mA m=none:=RelO.none_of (by rw [<- l]; exact r m)
  exact Wq I.kIn O (c.get m) k.at_ k.fn hn h
theorem Z0 {y:V} {u:Value} {Q:Unit->Shared->Prop} (I:Inv X pins σ H s) (e:H a=some (.ins C dx fs)) (c:Cls X.K C) (n:NoAttr X.K C f) (hl:fs.length < 1000) (ry:RelV y u)
    (h:∀ s',Inv X pins σ (upd H a (.ins C dx (putF f y fs))) s'->Q () s'):wpAny (model X.prog X.w) A (setAttr (.ref a) f u) Q E s:=by
  obtain ⟨mA,O,r,wi,_,ho⟩:=jg I.hok e
  have hz:(fs.map (·.1)).length<=sizeLine:=by rw [List.length_map,sizeLine_eq]; lia
  refine JB I.kIn O c.sa c.po n.taker c.hd wi hz fun h' O' sb=>h _ ?_
  have hd:∃ o,h'.get? dx=some o:=let ⟨o,_,_,e',_⟩:=O'.ns; ⟨o,e'⟩
  refine I.write (x:=a) (e:=dx) (by rw [e]; exact True.intro) (.inr ho) (fun b q hb z=>(sb.2 b hb).trans z) hd ?_
  refine ⟨by rw [zg O.ne]; exact ho,?_,O.ne,O'.obj,_,O'.ns,fun g=>?_,fun g hg=>?_⟩
  · have:=wz f y fs; lia
  · show RelO ((putF f y fs).lookup g) (if g=f then some u else mA g)
    rw [wy]
    by_cases q:g=f
    · rw [if_pos q,if_pos q]; exact ry
    · rw [if_neg q,if_neg q]; exact r g
  · by_cases q:g=f
    · rw [q]; exact (x8 f y fs).1
    · refine (x8 f y fs).2 g (wi g fun z=>hg ?_)
      show (if g=f then some u else mA g)=none
      rw [if_neg q]; exact z
theorem Inv.made (I:Inv X pins σ H s):Inv X pins σ (upd (upd H s.heap.objs.size (.own (s.heap.objs.size + 1))) (s.heap.objs.size + 1) (.ins C s.heap.objs.size []))
    { s with heap:=(s.heap.push PySem.W.emptyDict).push (PySem.W.instObj C s.heap.objs.size) }:=by
  have e1:(s.heap.push PySem.W.emptyDict).get? s.heap.objs.size=some PySem.W.emptyDict:=Heap.get?_push_size s.heap rfl
  have e2:((s.heap.push PySem.W.emptyDict).push (PySem.W.instObj C s.heap.objs.size)).get? (s.heap.objs.size + 1)=some (PySem.W.instObj C s.heap.objs.size):=by
    have:=Heap.get?_push_size (s.heap.push PySem.W.emptyDict) (o:=PySem.W.instObj C s.heap.objs.size) rfl
    rwa [Heap.size_push] at this
  have e3:(s.heap.push PySem.W.emptyDict).Ns s.heap.objs.size (fun _=>none):=⟨PySem.W.emptyDict,#[],_,e1,rfl,(fun e he=>absurd he (by simp)),fun _=>rfl⟩
  have I1:=I.laid (a:=s.heap.objs.size) (o:=.own (s.heap.objs.size + 1)) (h':=s.heap.push PySem.W.emptyDict) (t':=s.toks) (fun b u q=>Heap.get?_push_of_some _ q) (Nat.le_refl _) ⟨_,e1⟩
  refine I1.laid (a:=s.heap.objs.size + 1) (o:=.ins C s.heap.objs.size []) (t':=s.toks) (fun b u q=>Heap.get?_push_of_some _ q) (Nat.le_of_eq (Heap.size_push _ _)) ?_
  have ne:s.heap.objs.size≠s.heap.objs.size + 1:=Nat.ne_of_lt (Nat.lt_succ_self _)
  refine ⟨by rw [zg ne,zf],Nat.zero_le _,ne,e2,fun _=>none,(Heap.Ns1.of_empty e3).at fun o q=>Heap.get?_push_of_some _ q,fun _=>True.intro,fun y hy=>absurd rfl hy⟩
theorem JC {prog:Program} {w:World} {env:Env} {e:Expr} {f:Str} {pos:Pos} {s:Shared} {Q:Value->Shared->Prop} (hb:attributeBase e f env (eval e env)=eval e env)
    (h:wpAny (model prog w) A (eval e env) (fun o s₁=>wpAny (model prog w) A (getAttr o f true) Q E s₁) E s):wpAny (model prog w) A (eval (.Attribute e f pos) env) Q E s :=
  Attribute_any_ h (by rw [arm_eval_Attribute,hb])
end
def tFld (K:PySem.W.Frag) (ta:TE) (f:Str):TE:=fun σ H Q=>ta σ H fun x H1=>∃ a C dx fs v,x=.ref a/\H1 a=some (.ins C dx fs)/\Cls K C/\NoAttr K C f/\fs.lookup f=some v/\Q v H1
def sFld (K:PySem.W.Frag) (ta tv:TE) (f:Str):TS:=fun D σ H=>tv σ H fun y H1=>ta σ H1 fun x H2=>∃ a C dx fs,x=.ref a/\H2 a=some (.ins C dx fs)/\Cls K C/\NoAttr K C f/\fs.length < 1000 /\
  D.nx σ (upd H2 a (.ins C dx (putF f y fs)))
section
variable {X:Cx} {o e value:Expr} {f:Str} {pos pos' tpos:Pos} {ta tv:TE}
theorem zaM (he:PE X e ta) (hb:attributeBase e f X.env (eval e X.env)=eval e X.env):PE X (.Attribute e f pos) (tFld X.K ta f):=by
  intro pins s σ H Q I h
  refine JC hb (thn (he pins s σ H _ I h) fun u s1 ⟨x,H1,I1,rx,a,C,dx,fs,v,ex,ea,c,n,l,q⟩=>?_)
  subst ex
  obtain rfl:u=Value.ref a:=rx
  exact ZY I1 ea c n l fun u' s2 I2 ru=>⟨v,H1,I2,ru,q⟩
theorem zaN (ha:PE X o ta) (hv:PE X value tv) (hs:swapsWith value (some (.Attribute o f pos')) pos.line X.env=pure false):PS X (.Assign [.Attribute o f pos'] value pos) (sFld X.K ta tv f):=by
  intro pins s σ H D I h
  refine plainObj_wpAny_Assign_Attribute (thn (hv pins s σ H _ I h) fun u s1 ⟨y,H1,I1,ry,q⟩=>thn (ha pins s1 σ H1 _ I1 q) fun ov s2 ⟨x,H2,I2,rx,a,C,dx,fs,ex,ea,c,n,l,q2⟩=>?_) hs
  subst ex
  obtain rfl:ov=Value.ref a:=rx
  exact Z0 I2 ea c n l ry fun s3 I3=>⟨σ,_,I3,q2⟩
end
section
variable {X:Cx} {pins:List (Addr × Obj)} {σ:St} {H:Hp} {s:Shared} {A:Around} {E:Value->Shared->Prop} {Q:Value->Shared->Prop} {c:Value} {b:Bool}
inductive TyOf (K:PySem.W.Frag) (H:Hp):V->Value->Prop where
  | non:TyOf K H .non (.type "NoneType")
  | bl (x:Bool):TyOf K H (.bl x) (.type "bool")
  | int (i:Int):TyOf K H (.int i) (.type "int")
  | str (x:Str):TyOf K H (.str x) (.type "str")
  | flt (x:UInt64):TyOf K H (.flt x) (.type "float")
  | lst {a:Addr} {xs:List V} (e:H a=some (.lst xs)):TyOf K H (.ref a) (.type "list")
  | frz {a:Addr} {o:Obj} {xs:List V} (e:H a=some (.frz o (.lst xs))):TyOf K H (.ref a) (.type "list")
  | tup {a:Addr} {xs:List V} (e:H a=some (.tup xs)):TyOf K H (.ref a) (.type "tuple")
  | dK {a:Addr} {kvs:List (Key × V)} (e:H a=some (.dK kvs)):TyOf K H (.ref a) (.type "dict")
  | dT {a:Addr} {kvs:List (List Key × V)} (e:H a=some (.dT kvs)):TyOf K H (.ref a) (.type "dict")
  | ins {a C dx:Addr} {fs:List (Str × V)} (e:H a=some (.ins C dx fs)) (cl:Cls K C) (ha:PySem.W.findIn K (.ref C) "__class__"=some (some (.builtin "object.__class__")))
      (hn:PySem.W.specialIn K (.builtin "object.__class__") "__get__"=some (some (.builtin "getset_descriptor.__get__"))) (htk:PySem.W.takesIn K (.builtin "object.__class__")=some true)
      (hm:PySem.W.mroIn K C (.type "object")=some true):TyOf K H (.ref a) (.ref C)
end
structure Room (k:Nat) (A:Around):Prop where
  hd:A.handled=none
  dp:A.depth + 3 * k + 5 < recursionLimit
  un:A.units + 16 * k + 200 < cLine
theorem Room.mono {j k:Nat} {A:Around} (r:Room k A) (h:j<=k):Room j A:=⟨r.hd,by have:=r.dp; lia,by have:=r.un; lia⟩
theorem Room.deeper {k:Nat} {A:Around} (r:Room (k + 1) A) (env:Env):Room k (A.deeper env) :=
  ⟨r.hd,by have:=r.dp; show A.depth + 1 + 3 * k + 5 < _; lia,by have:=r.un; show A.units + 3 + 16 * k + 200 < _; lia⟩
theorem Z1 {A:Around} {C:Addr} {us:List Value} {kw:List (Str × Value)}:(A.under (.builtin "type.__call__" ⟨.ref C :: us,kw⟩)).depth=A.depth + 1:=by
  first | rfl | simp [Around.under,Code.weight,Code.isCreation,Code.isGuard,Code.isCaller,Code.frames,Code.isFrame,guardIds]
theorem Z2 {A:Around} {C:Addr} {us:List Value} {kw:List (Str × Value)}:(A.under (.builtin "type.__call__" ⟨.ref C :: us,kw⟩)).units=A.units + 1:=by
  first | rfl | simp [Around.under,Code.cUnits,Code.frames,Code.isFrame]
theorem Room.make {k:Nat} {A:Around} (r:Room (k + 1) A) (C:Addr) (us:List Value) (kw:List (Str × Value)):Room k (A.under (.builtin "type.__call__" ⟨.ref C :: us,kw⟩)) :=
  ⟨r.hd,by have:=r.dp; rw [Z1]; lia,by have:=r.un; rw [Z2]; lia⟩
theorem Room.depth {k:Nat} {A:Around} (r:Room k A):A.depth < recursionLimit:=by have:=r.dp; lia
theorem Room.units {k:Nat} {A:Around} (r:Room k A):A.units + 64 < cLine:=by have:=r.un; lia
theorem Room.units0 {k:Nat} {A:Around} (r:Room k A):A.units < cLine:=by have:=r.un; lia
def tNil:TA:=fun _ H Q=>Q [] H
def yj (ta:TE) (tr:TA):TA:=fun σ H Q=>ta σ H fun x H1=>tr σ H1 fun xs H2=>Q (x :: xs) H2
section
variable {X:Cx} {e:Expr} {es:List Expr} {te:TE} {t:TA} {pos:Pos}
theorem zaO:PA X [] tNil:=fun _ _ _ _ H Q I h=>Calls.spliced_nil ⟨[],H,I,.nil,h⟩
theorem JD (ha:PE X e te) (hr:PA X es t) (hs:starEach (e :: es) X.env=(false,eval e X.env) :: starEach es X.env:=by rfl):PA X (e :: es) (yj te t):=by
  intro pos pins s σ H Q I h
  rw [hs]
  show wpAny _ _ (spliced ((false,eval e X.env) :: backTo pos (starEach es X.env))) _ _ s
  refine Calls.spliced_cons (thn (ha pins s σ H _ I h) fun u s1 ⟨x,H1,I1,r1,q1⟩=>?_)
  exact thn (hr pos pins s1 σ H1 _ I1 q1) fun us s2 ⟨xs,H2,I2,r2,q2⟩=>⟨x :: xs,H2,I2,.cons r1 r2,q2⟩
def tTup (t:TA):TE:=fun σ H Q=>t σ H fun xs H1=>xs.length<=sizeLine/\∀ p,H1 p=none->Q (.ref p) (upd H1 p (.tup xs))
def tLst (t:TA):TE:=fun σ H Q=>t σ H fun xs H1=>xs.length<=sizeLine/\∀ p,H1 p=none->Q (.ref p) (upd H1 p (.lst xs))
theorem zaP {x1} (h:PA X es t):PE X (.Tuple es x1 pos) (tTup t):=by
  intro pins s σ H Q I hq
  refine wpAny_Tuple_spliced (thn (h pos pins s σ H _ I hq) fun us s1 ⟨xs,H1,I1,r,z,q⟩=>⟨by rw [<- r.length]; exact z,?_⟩)
  have hf:H1 s1.heap.objs.size=none:=I1.hok.fresh (Nat.le_refl _)
  refine ⟨.ref s1.heap.objs.size,upd H1 s1.heap.objs.size (.tup xs),I1.laid (t':=s1.toks) (fun b u e=>Heap.get?_push_of_some _ e) (Nat.le_refl _) ?_,rfl,q _ hf⟩
  exact ⟨z,us,r,⟨_,Heap.get?_push_size _ rfl,rfl,rfl,_,rfl⟩⟩
theorem zaQ (h:PA X es t):PE X (.List es pos) (tLst t):=by
  intro pins s σ H Q I hq
  refine wpAny_List_spliced (thn (h pos pins s σ H _ I hq) fun us s1 ⟨xs,H1,I1,r,z,q⟩=>⟨by rw [<- r.length]; exact z,?_⟩)
  have hf:H1 s1.heap.objs.size=none:=I1.hok.fresh (Nat.le_refl _)
  refine ⟨.ref s1.heap.objs.size,upd H1 s1.heap.objs.size (.lst xs),I1.laid (t':=s1.toks) (fun b u e=>Heap.get?_push_of_some _ e) (Nat.le_refl _) ?_,rfl,q _ hf⟩
  exact ⟨z,us,0,r,Heap.get?_push_size _ rfl⟩
end
abbrev Sp:=List V->Hp->VK->XK->Prop
abbrev CXT:=List Env->Hp->Shared->XK->Value->Shared->Prop
structure Env0 (P:Program) (w:World) (K:PySem.W.Frag) (mg:Str->Option Value) (base:Heap) (A:Around) (outer:List Env) (s:Shared) (H:Hp):Prop where
  frames:A.frames=some outer
  mod:Mod K mg base
  bs:∀ b o,base.get? b=some o->s.heap.get? b=some o/\H b=none
  bsz:base.objs.size<=s.heap.objs.size
  funs:s.heap.FunFrames base outer
  frf:∀ b∈frs outer,H b=none
  hok:HOk P w H s.heap
  bare:AllBare s.gens
def CE (outer:List Env) (P:Program) (w:World) (H:Hp) (s:Shared) (Q:VK) (u:Value) (s':Shared):Prop :=
  ∃ v H',s'.os=s.os/\AllBare s'.gens/\Un (frs outer) [] H H' s.heap s'.heap/\HOk P w H' s'.heap/\RelV v u/\Q v H'
def CR (CX:CXT) (outer:List Env) (P:Program) (w:World) (H:Hp) (s:Shared) (Q:VK) (E:XK) (r:Result) (s':Shared):Prop :=
  match r with
  | .ok (.ret u)=>CE outer P w H s Q u s'
  | .ok _=>False
  | .error e=>CX outer H s E e s'
structure FnOk (P:Program) (w:World) (K:PySem.W.Frag) (mg:Str->Option Value) (base:Heap) (CX:CXT) (k:Nat) (f:Addr) (fd:FuncData) (ps:List Str) (sp:Sp):Prop where
  len:∀ vs H Q E,sp vs H Q E->vs.length=ps.length
  run:∀ (A:Around) (outer:List Env) (s:Shared) (H:Hp) (args:Args) (us:List Value) (vs:List V) (Q:VK) (E:XK),Room k A->Env0 P w K mg base A outer s H->BindsTo s fd args (ps.zip us)->Vals vs us->sp vs H Q E ->
    codeAny (model P w) A (.call (.ref f) args) (CR CX outer P w H s Q E) s
theorem FnOk.mono {P:Program} {w:World} {K:PySem.W.Frag} {mg:Str->Option Value} {base:Heap} {CX:CXT} {j k:Nat} {f:Addr} {fd:FuncData} {ps:List Str} {sp:Sp} (F:FnOk P w K mg base CX j f fd ps sp) (h:j<=k) :
    FnOk P w K mg base CX k f fd ps sp:=⟨F.len,fun A outer s H args us vs Q E hr=>F.run A outer s H args us vs Q E (hr.mono h)⟩
theorem Env0.make {P:Program} {w:World} {K:PySem.W.Frag} {mg:Str->Option Value} {base:Heap} {A:Around} {outer:List Env} {s:Shared} {H:Hp} (e:Env0 P w K mg base A outer s H) (C:Addr) (us:List Value) (kw:List (Str × Value)) :
    Env0 P w K mg base (A.under (.builtin "type.__call__" ⟨.ref C :: us,kw⟩)) outer s H:=⟨by first | exact e.frames | (simpa [Around.under,Code.envs,Code.isFrame,pushEnvs] using e.frames),e.mod,e.bs,e.bsz,e.funs,e.frf,e.hok,e.bare⟩
section
variable {X:Cx} {pins:List (Addr × Obj)} {σ:St} {H:Hp} {s s':Shared}
theorem Inv.env0 (I:Inv X pins σ H s):Env0 X.prog X.w X.K X.mg X.base X.A X.stack s H :=
  ⟨I.ok.frames,I.ok.mod,I.bs,Nat.le_trans I.ok.bsz I.sz,I.stack,I.stkFree,I.hok,I.bare⟩
theorem Inv.after {Q:VK} {u:Value} (I:Inv X pins σ H s) (h:CE X.stack X.prog X.w H s Q u s'):EP X pins σ Q u s':=by
  obtain ⟨v,H',os,bare,un,hok,r,q⟩:=h
  obtain ⟨hh,g,d,t,os'⟩:=s'
  obtain rfl:os'=s.os:=os
  exact ⟨v,H',I.call (h':=hh) (g':=g) (d':=d) (t':=t) (ch:=[]) un hok bare (fun b z=>absurd z (by simp)),r,q⟩
end
def j3 (sp:Sp) (dvs:List V) (E:XK) (t:TA):TE:=fun σ H Q=>t σ H fun vs H1=>sp (vs ++ dvs) H1 Q E
def Q3 (C:Addr) (m:Str) (sp:Sp) (dvs:List V) (E:XK) (ta:TE) (t:TA):TE:=fun σ H Q=>ta σ H fun x H1=>∃ a dx fs,x=.ref a/\H1 a=some (.ins C dx fs)/\fs.lookup m=none /\
  t σ H1 fun vs H2=>sp (x :: (vs ++ dvs)) H2 Q E
def YN (C:Addr) (sp:Sp) (dvs:List V) (E:XK) (t:TA):TE:=fun σ H Q=>t σ H fun vs H1=>∀ x dx,H1 x=none->H1 dx=none->dx≠x ->
  sp (.ref x :: (vs ++ dvs)) (upd (upd H1 dx (.own x)) x (.ins C dx [])) (fun v H2=>v=.non/\Q (.ref x) H2) E
def Binds (K:PySem.W.Frag) (fd:FuncData) (ps:List Str) (ds:List Value):Prop :=
  ∀ (s:Shared) (us:List Value),K.In s.heap->(us ++ ds).length=ps.length->BindsTo s fd ⟨us,[]⟩ (ps.zip (us ++ ds))
theorem Binds.all {K:PySem.W.Frag} {fd:FuncData} {ps:List Str} (h:∀ us:List Value,us.length=ps.length->bindArgs fd ⟨us,[]⟩=pure (ps.zip us)):Binds K fd ps []:=fun s us _ hl=>by
  rw [List.append_nil] at hl ⊢
  exact .of_eq (h us hl)
def yk (CX:CXT) (X:Cx) (E:XK):Prop:=∀ (pins:List (Addr × Obj)) (σ:St) (H:Hp) (s:Shared) (e:Value) (s':Shared),Inv X pins σ H s->CX X.stack H s E e s'->X.xe e s'
section
variable {X:Cx} {CX:CXT} {k:Nat} {f C:Addr} {fd:FuncData} {ps:List Str} {sp:Sp} {dvs:List V} {ds:List Value} {E:XK} {x m:Str} {p pos apos:Pos} {e o:Expr} {es:List Expr} {ta:TE} {t:TA}
theorem jh {pins:List (Addr × Obj)} {σ:St} {H:Hp} {s:Shared} {Q:VK} {us:List Value} {vs:List V} (F:FnOk X.prog X.w X.K X.mg X.base CX k f fd ps sp) (hr:Room k X.A) (hb:Binds X.K fd ps ds) (hd:Vals dvs ds) (hx:yk CX X E)
    (I:Inv X pins σ H s) (r:Vals vs us) (h:sp (vs ++ dvs) H Q E):wpAny (model X.prog X.w) X.A (call (.ref f) us) (EP X pins σ Q) X.xe s:=by
  have r2:Vals (vs ++ dvs) (us ++ ds):=r.append hd
  have hl:(us ++ ds).length=ps.length:=by rw [<- r2.length]; exact F.len _ _ _ _ h
  refine wpAny_call (codeAny_mono (F.run X.A X.stack s H ⟨us,[]⟩ (us ++ ds) (vs ++ dvs) Q E hr I.env0 (hb s us I.kIn hl) r2 h) fun r s' hq=>?_)
  cases r with
  | error e=>exact hx pins σ H s e s' I hq
  | ok fl =>
    cases fl with
    | ret u=>exact I.after hq
    | next=>exact False.elim hq
    | brk=>exact False.elim hq
    | cont=>exact False.elim hq
theorem JE (F:FnOk X.prog X.w X.K X.mg X.base CX k f fd ps sp) (hr:Room k X.A) (hg:Gl X x) (hm:X.mg x=some (.ref f)) (hk:PySem.W.keepIn X.K (.ref f)=true) (hb:Binds X.K fd ps ds) (hd:Vals dvs ds) (hx:yk CX X E)
    (ha:PA X (e :: es) t) (hdb:(x == ("__debug__":Str))=false:=by decide) (he:starEach (e :: es) X.env=(false,eval e X.env) :: starEach es X.env:=by rfl) (hpl:(backTo pos (starEach es X.env)).any (·.1)=false:=by rfl) :
    PE X (.Call (.Name x p) (e :: es) [] pos) (j3 sp dvs E t):=by
  intro pins s σ H Q I h
  refine wpAny_Call_Name_kw (xA I hg hm ?_ hdb)
  refine PySem.W.callWith_K (h₀:=X.base) I.ok.mod.kin hk (thn (ha pos pins s σ H _ I h) fun us s1 ⟨vs,H1,I1,r,q⟩=>⟨I1.kIn,?_⟩) he hpl
  exact jh F hr hb hd hx I1 r q
theorem JF {pl:Sem Bool} (he:PE X o ta) (c:Cls X.K C) (hm:Meth X.K C m f) (F:FnOk X.prog X.w X.K X.mg X.base CX k f fd ps sp) (hr:Room k X.A) (hb:Binds X.K fd ps ds) (hd:Vals dvs ds) (hx:yk CX X E) (ha:PA X (e :: es) t)
    (hst:starEach (e :: es) X.env=(false,eval e X.env) :: starEach es X.env:=by rfl) (hpl:(backTo pos (starEach es X.env)).any (·.1)=false:=by rfl)
    (ht:eval (.Call (.Attribute o m apos) (e :: es) [] pos) X.env=(do
      let ov <- eval o X.env
      standAt apos.atName
      let (f,first) <- holding [ov] (getMethod ov m pl)
      callWith pos f first (backTo pos (starEach (e :: es) X.env)) (backToKw pos (keywordEach [] X.env))):=by rfl) :
    PE X (.Call (.Attribute o m apos) (e :: es) [] pos) (Q3 C m sp dvs E ta t):=by
  intro pins s σ H Q I h
  refine PySem.W.methodCall_KW (pl:=pl) (thn (he pins s σ H _ I h) fun u s1 ⟨x,H1,I1,rx,a,dx,fs,ex,ea,l,q⟩=>?_) ht
  subst ex
  obtain rfl:u=Value.ref a:=rx
  refine ZZ I1 ea c hm l ?_
  refine PySem.W.callWith_K (first:=[.ref a]) (h₀:=X.base) I.ok.mod.kin hm.kp (thn (ha pos pins s1 σ H1 _ I1 q) fun us s2 ⟨vs,H2,I2,r,q2⟩=>⟨I2.kIn,?_⟩) hst hpl
  exact jh (us:=.ref a :: us) (vs:=.ref a :: vs) F hr hb hd hx I2 (.cons rfl r) q2
structure Mk (K:PySem.W.Frag) (C f:Addr):Prop where
  makes:PySem.W.makesIn K C=true
  init:PySem.W.findIn K (.ref C) "__init__"=some (some (.ref f))
  fn:PySem.W.isFn K (.ref f)=true
  kp:PySem.W.keepIn K (.ref C)=true
theorem j4 {pins:List (Addr × Obj)} {σ:St} {H:Hp} {s:Shared} {Q:VK} {us:List Value} {vs:List V} (M:Mk X.K C f) (F:FnOk X.prog X.w X.K X.mg X.base CX k f fd ps sp) (hr:Room (k + 1) X.A) (hb:Binds X.K fd ps ds) (hd:Vals dvs ds)
    (hx:yk CX X E) (I:Inv X pins σ H s) (r:Vals vs us)
    (h:∀ x dx,H x=none->H dx=none->dx≠x->sp (.ref x :: (vs ++ dvs)) (upd (upd H dx (.own x)) x (.ins C dx [])) (fun v H2=>v=.non/\Q (.ref x) H2) E) :
    wpAny (model X.prog X.w) X.A (call (.ref C) us) (EP X pins σ Q) X.xe s:=by
  have hq:=h (s.heap.objs.size + 1) s.heap.objs.size (I.hok.fresh (Nat.le_succ _)) (I.hok.fresh (Nat.le_refl _)) (Nat.ne_of_lt (Nat.lt_succ_self _))
  have I2:=Inv.made (C:=C) I
  have r2:Vals (V.ref (s.heap.objs.size + 1) :: (vs ++ dvs)) (Value.ref (s.heap.objs.size + 1) :: (us ++ ds)):=.cons rfl (r.append hd)
  have hl:(Value.ref (s.heap.objs.size + 1) :: us ++ ds).length=ps.length:=by
    have e:=r2.length
    rw [F.len _ _ _ _ hq] at e
    exact e.symm
  refine wpAny_call (Wr (f:=f) I.kIn M.makes M.init (beq_iff_eq.mp M.fn) (codeAny_mono (F.run _ X.stack _ _ ⟨Value.ref (s.heap.objs.size + 1) :: us,[]⟩ (Value.ref (s.heap.objs.size + 1) :: (us ++ ds)) _ _ E (hr.make C us [])
    (I2.env0.make C us []) (hb _ (Value.ref (s.heap.objs.size + 1) :: us) I2.kIn hl) r2 hq) fun r s' hq'=>?_))
  cases r with
  | error e=>exact hx pins σ _ _ e s' I2 hq'
  | ok fl =>
    cases fl with
    | ret u =>
      obtain ⟨v,H',I3,rv,ev,q3⟩:=I2.after hq'
      subst ev
      exact ⟨rv,⟨V.ref (s.heap.objs.size + 1),H',I3,rfl,q3⟩⟩
    | next=>exact False.elim hq'
    | brk=>exact False.elim hq'
    | cont=>exact False.elim hq'
theorem JG (M:Mk X.K C f) (F:FnOk X.prog X.w X.K X.mg X.base CX k f fd ps sp) (hr:Room (k + 1) X.A) (hg:Gl X x) (hm:X.mg x=some (.ref C)) (hb:Binds X.K fd ps ds) (hd:Vals dvs ds) (hx:yk CX X E)
    (ha:PA X (e :: es) t) (hdb:(x == ("__debug__":Str))=false:=by decide) (he:starEach (e :: es) X.env=(false,eval e X.env) :: starEach es X.env:=by rfl) (hpl:(backTo pos (starEach es X.env)).any (·.1)=false:=by rfl) :
    PE X (.Call (.Name x p) (e :: es) [] pos) (YN C sp dvs E t):=by
  intro pins s σ H Q I h
  refine wpAny_Call_Name_kw (xA I hg hm ?_ hdb)
  refine PySem.W.callWith_K (h₀:=X.base) I.ok.mod.kin M.kp (thn (ha pos pins s σ H _ I h) fun us s1 ⟨vs,H1,I1,r,q⟩=>⟨I1.kIn,?_⟩) he hpl
  exact j4 M F hr hb hd hx I1 r q
theorem Ws (M:Mk X.K C f) (F:FnOk X.prog X.w X.K X.mg X.base CX k f fd ps sp) (hr:Room (k + 1) X.A) (hg:Gl X x) (hm:X.mg x=some (.ref C)) (hb:Binds X.K fd ps ds) (hd:Vals dvs ds) (hx:yk CX X E)
    (hdb:(x == ("__debug__":Str))=false:=by decide):PE X (.Call (.Name x p) [] [] pos) (YN C sp dvs E tNil):=by
  intro pins s σ H Q I h
  refine wpAny_Call_Name_kw (xA I hg hm ?_ hdb)
  exact PySem.W.callWith_K0 I.kIn M.kp (j4 (us:=[]) M F hr hb hd hx I .nil h)
end
section
variable {X:Cx} {CX:CXT} {k:Nat} {f C:Addr} {fd:FuncData} {ps ks:List Str} {sp:Sp} {E:XK} {x m:Str} {p pos apos kpos:Pos} {e o:Expr} {es:List Expr} {kws:List Keyword} {te ta:TE} {t tk:TA} {nm:Option Str}
variable {g:List Value->List Value->List Value} {gV:List V->List V->List V}
end
structure FnScope (N P:List Str) (sc:Scope):Prop where
  kind:sc.kind=.function
  co:sc.isCoroutine=false
  gen:sc.isGenerator=false
  nd:N.Nodup
  pre:N.take P.length=P
  par:∀ x∈P,sc.names.lookup x=some .local\/sc.names.lookup x=some .cell
  nofree:∀ y∈sc.names,y.2≠.free
theorem FnScope.ok {N P:List Str} {sc:Scope} (a:N.Nodup:=by decide +kernel) (b:∀ x∈P,sc.names.lookup x=some .local\/sc.names.lookup x=some .cell:=by decide +kernel) (c:∀ y∈sc.names,y.2≠.free:=by decide +kernel) (d:sc.kind=.function:=by rfl) (e:sc.isCoroutine=false:=by rfl) (f:sc.isGenerator=false:=by rfl) (g:N.take P.length=P:=by rfl):FnScope N P sc:=⟨d,e,f,a,g,b,c⟩
theorem vM {kindOf:Str->Option NameKind} {x:Str}:∀ {binds:List (Str × Value)} {m:Str->Option Value},(∀ v,(x,v) ∉ binds)->bindL kindOf binds m x=m x
  | [],_,_=>rfl
  | (n,v) :: r,m,h=>by
    unfold bindL
    rw [vM fun w hw=>h w (List.mem_cons_of_mem _ hw)]
    split
    · have:x≠n:=by rintro rfl; exact h v List.mem_cons_self
      simp [this]
    · rfl
theorem vN {kindOf:Str->Option NameKind} {x:Str}:∀ {binds:List (Str × Value)} {m:Str->Option Value},(∀ v,(x,v) ∉ binds)->bindC kindOf binds m x=m x
  | [],_,_=>rfl
  | (n,v) :: r,m,h=>by
    unfold bindC
    rw [vN fun w hw=>h w (List.mem_cons_of_mem _ hw)]
    split
    · rfl
    · have:x≠n:=by rintro rfl; exact h v List.mem_cons_self
      simp [this]
theorem vO {kindOf:Str->Option NameKind} {x:Str} {v:Value}:∀ {P:List Str} {vs:List Value} {i:Nat} {m:Str->Option Value},P.Nodup->P[i]?=some x->vs[i]?=some v->kindOf x=some .local ->
    bindL kindOf (P.zip vs) m x=some v
  | [],_,_,_,_,h,_,_=>by simp at h
  | _ :: _,[],_,_,_,_,h,_=>by simp at h
  | p :: P,w :: vs,0,m,nd,h1,h2,hk=>by
    simp at h1 h2; subst h1; subst h2
    show bindL kindOf ((p,w) :: P.zip vs) m p=_
    unfold bindL
    rw [vM fun v hv=>(List.nodup_cons.mp nd).1 (List.of_mem_zip hv).1,if_pos hk]
    simp
  | p :: P,w :: vs,i + 1,m,nd,h1,h2,hk=>by
    show bindL kindOf ((p,w) :: P.zip vs) m x=_
    unfold bindL
    exact vO (i:=i) (List.nodup_cons.mp nd).2 (by simpa using h1) (by simpa using h2) hk
theorem vP {kindOf:Str->Option NameKind} {x:Str} {v:Value}:∀ {P:List Str} {vs:List Value} {i:Nat} {m:Str->Option Value},P.Nodup->P[i]?=some x->vs[i]?=some v->kindOf x≠some .local ->
    bindC kindOf (P.zip vs) m x=some v
  | [],_,_,_,_,h,_,_=>by simp at h
  | _ :: _,[],_,_,_,_,h,_=>by simp at h
  | p :: P,w :: vs,0,m,nd,h1,h2,hk=>by
    simp at h1 h2; subst h1; subst h2
    show bindC kindOf ((p,w) :: P.zip vs) m p=_
    unfold bindC
    rw [vN fun v hv=>(List.nodup_cons.mp nd).1 (List.of_mem_zip hv).1,if_neg hk]
    simp
  | p :: P,w :: vs,i + 1,m,nd,h1,h2,hk=>by
    show bindC kindOf ((p,w) :: P.zip vs) m x=_
    unfold bindC
    exact vP (i:=i) (List.nodup_cons.mp nd).2 (by simpa using h1) (by simpa using h2) hk
def yE (N:List Str) (vs:List V):St:=vs.map some ++ List.replicate (N.length - vs.length) none
def cxOf (CX:CXT) (P:Program) (w:World) (K:PySem.W.Frag) (mg:Str->Option Value) (base:Heap) (N:List Str) (qual:Str) (scope:Scope) (f:Addr) (cd:Value) (A:Around) (outer:List Env) (s:Shared) (H:Hp) (E:XK):Cx where
  prog:=P
  w:=w
  K:=K
  mg:=mg
  base:=base
  A:=A.deeper (envOfC qual scope s.heap.objs.size f cd)
  N:=N
  s₀:=s
  H₀:=H
  env:=envOfC qual scope s.heap.objs.size f cd
  outer:=outer
  stack:=envOfC qual scope s.heap.objs.size f cd :: outer
  ex:=[]
  calm:=true
  fn:=fun _=>true
  pn:=[]
  xe:=fun e s'=>wpAny (model P w) (A.deeper (envOfC qual scope s.heap.objs.size f cd)) (leaving (envOfC qual scope s.heap.objs.size f cd) e) (fun _ s''=>CX outer H s E e s'') (fun e' s''=>CX outer H s E e' s'') s'
theorem j5 {sc:Scope} {n:Nat} {x:Str} (h:sc.names.lookup x=some .cell):∃ c,(cellsFrom n sc.names []).lookup x=some c:=by
  have q:=PySem.W.cellsFrom_some sc.names n [] (.inl h)
  exact Option.isSome_iff_exists.mp q
theorem vQ {CX:CXT} {P:Program} {w:World} {K:PySem.W.Frag} {mg:Str->Option Value} {base:Heap} {N ps:List Str} {qual:Str} {scope:Scope} {f:Addr} {cd:Value} {A:Around} {outer:List Env} {s s1:Shared} {H:Hp} {E:XK} {us:List Value} {vs:List V}
    (S:FnScope N ps scope) (hd:A.handled=none) (e0:Env0 P w K mg base A outer s H) (hl:vs.length=ps.length) (r:Vals vs us)
    (x:InCallC s s.heap.objs.size (bindL (envOfC qual scope s.heap.objs.size f cd).kindOf (ps.zip us) fun _=>none) (cellsFrom (s.heap.objs.size + 1) scope.names []) (bindC (envOfC qual scope s.heap.objs.size f cd).kindOf (ps.zip us) fun _=>none) s1) :
    Inv (cxOf CX P w K mg base N qual scope f cd A outer s H E) [] (yE N vs) H s1:=by
  have hpl:ps.length<=N.length:=by have:=congrArg List.length S.pre; rw [List.length_take] at this; lia
  obtain ⟨h1,tk,rfl,hk⟩:=x.done
  have noA:∀ b:Addr,b ∉ (cxOf CX P w K mg base N qual scope f cd A outer s H E).ex:=fun b z=>absurd (show b∈([]:List Addr) from z) (by simp)
  refine ⟨⟨e0.mod,S.kind,rfl,rfl,Nat.le_refl _,fun y z c h1 h2=>?_,fun y hy=>?_,fun y c _ h=>?_,fun _=>hd,Around.frames_deeper e0.frames,.inr ⟨rfl,rfl⟩,fun b z=>absurd z (noA b),e0.bs,e0.bsz,fun b _ _=>noA b,fun b z=>absurd z (noA b),e0.funs,e0.frf⟩,
    rfl,e0.bare,Un.kept hk,⟨_,x.toInCall.ns,fun i y v h1 h2 h3=>?_⟩,fun y c h=>⟨_,x.cell y c h⟩,e0.hok.fresh (Nat.le_refl _),fun y c h=>?_,fun p hp=>absurd (show p∈([]:List (Addr × Obj)) from hp) (by simp),e0.hok.kept hk,?_⟩
  · exact name_of_addr x.apart (PySem.mem_of_lookup h1) (PySem.mem_of_lookup h2)
  · have hy:scope.names.lookup y=some .cell\/scope.names.lookup y=some .free:=hy
    rcases hy with hy | hy
    · exact j5 hy
    · exact absurd rfl (S.nofree _ (PySem.mem_of_lookup hy))
  · exact Nat.le_of_lt (x.above y c (PySem.mem_of_lookup h))
  · have hi:i < vs.length:=by
      unfold yE at h2
      by_cases hi:i < vs.length
      · exact hi
      · rw [List.getElem?_append_right (by simpa using hi)] at h2
        rw [List.getElem?_replicate] at h2
        split at h2 <;> cases h2
    have ha:vs[i]?=some v:=by
      unfold yE at h2
      rw [List.getElem?_append_left (by simpa using hi),List.getElem?_map] at h2
      cases e:vs[i]? with
      | none=>rw [e] at h2; cases h2
      | some a=>rw [e] at h2; cases h2; rfl
    obtain ⟨u,hu,rv⟩:=r.get ha
    have hp:ps[i]?=some y:=by
      rw [<- S.pre,List.getElem?_take_of_lt (by lia)]; exact h1
    have ndP:ps.Nodup:=by rw [<- S.pre]; exact S.nd.sublist (List.take_sublist _ _)
    refine ⟨u,rv,?_⟩
    rcases S.par y (List.mem_of_getElem? hp) with k | k
    · exact .inl ⟨k,vO ndP hp hu k⟩
    · obtain ⟨c,e⟩:=j5 (n:=s.heap.objs.size + 1) k
      refine .inr ⟨.inl k,c,e,?_⟩
      have q:=x.cell y c e
      rw [vP ndP hp hu (by show scope.names.lookup y≠_; rw [k]; decide)] at q
      exact q
  · exact e0.hok.fresh (Nat.le_of_lt (x.above y c (PySem.mem_of_lookup h)))
  · unfold yE
    show _=N.length
    rw [List.length_append,List.length_map,List.length_replicate]
    lia
theorem Q4 {CX:CXT} {P:Program} {w:World} {K:PySem.W.Frag} {mg:Str->Option Value} {base:Heap} {k:Nat} {f:Addr} {name qual:Str} {params:Arguments} {body:List Stmt} {scope:Scope} {dV kV doc pm cdv ct oc:Value} {an od:Option Addr}
    {osl:Array (Option Value)} {N ps:List Str} {sp:Sp} (lk:K.lookup f=some ⟨oc,od,.func (PySem.W.fnOf name qual params body scope dV kV doc pm an cdv ct),osl⟩) (hcd:PySem.W.codeIn K cdv qual=true) (S:FnScope N ps scope)
    (len:∀ vs H Q E,sp vs H Q E->vs.length=ps.length)
    (hbody:∀ (A:Around) (outer:List Env) (s:Shared) (H:Hp) (vs:List V) (Q:VK) (E:XK),Room k (A.deeper (envOfC qual scope s.heap.objs.size f cdv))->sp vs H Q E ->
      ∃ t,PSs (cxOf CX P w K mg base N qual scope f cdv A outer s H E) body t/\t { nx:=fun _ H'=>Q .non H',rt:=Q } (yE N vs) H) :
    FnOk P w K mg base CX (k + 1) f (PySem.W.fnOf name qual params body scope dV kV doc pm an cdv ct) ps sp:=by
  refine ⟨len,fun A outer s H args us vs Q E hr e0 hb r hsp=>?_⟩
  have hl:=len _ _ _ _ hsp
  have KX:K.In s.heap:=e0.mod.kin.keeps fun b o e=>(e0.bs b o e).1
  have lim:s.heap.NoLimit:=e0.mod.nolimit.keeps fun b o e=>(e0.bs b o e).1
  have hkind:∀ y∈ps.zip us,scope.names.lookup y.1=some .local\/(scope.names.lookup y.1=some .cell/\((cellsFrom (s.heap.objs.size + 1) scope.names []).lookup y.1).isSome=true):=fun ⟨n,v⟩ hy=>by
    rcases S.par n (List.of_mem_zip hy).1 with q | q
    · exact .inl q
    · exact .inr ⟨q,PySem.W.cellsFrom_some _ _ _ (.inl q)⟩
  refine codeAny_call_function hr.depth (KX _ _ lk) rfl S.co S.gen rfl (PySem.W.codeRec_of KX hcd) (hb _ _ _ _ ?_)
  refine wpAny_newFunctionEnv_cells S.kind hkind fun env he s1 x=>?_
  subst he
  refine ⟨lim.keeps x.toInCall.keep,codeAny_func ?_⟩
  obtain ⟨t,ht,hq⟩:=hbody A outer s H vs Q E (hr.deeper _) hsp
  have I:Inv (cxOf CX P w K mg base N qual scope f cdv A outer s H E) [] (yE N vs) H s1:=vQ S hr.hd e0 hl r x
  refine wpAny_mono (ht [] s1 (yE N vs) H _ I hq) (fun fl s' hs=>?_) fun e s' hs=>hs
  have fin:∀ {σ':St} {H':Hp} {v:V} {u:Value},Inv (cxOf CX P w K mg base N qual scope f cdv A outer s H E) [] σ' H' s'->RelV v u->Q v H'->CE outer P w H s Q u s' :=
    fun {σ' H' v u} J rv q=>⟨v,H',J.os,J.bare,J.base,J.hok,rv,q⟩
  cases fl with
  | ret u =>
    obtain ⟨v,σ',H',J,rv,q⟩:=hs
    exact fin J rv q
  | next =>
    obtain ⟨σ',H',J,q⟩:=hs
    exact fin (v:=V.non) (u:=Value.none) J rfl q
  | brk =>
    obtain ⟨_,_,_,q⟩:=hs
    exact False.elim q
  | cont =>
    obtain ⟨_,_,_,q⟩:=hs
    exact False.elim q
section
variable {X:Cx} {x:Str} {p pos:Pos} {e:Expr} {es:List Expr} {t:TA} {id T:String} {r:List V->Hp->VK->Prop}
def tCB (r:List V->Hp->VK->Prop) (t:TA):TE:=fun σ H Q=>t σ H fun vs H1=>r vs H1 Q
theorem Wt (hc:y8 X (.builtin id) r) (hg:Gl X x) (hm:X.mg x=none) (hv:bootBuiltins x=some (.builtin id)) (ha:PA X (e :: es) t) (hn:x≠"__name__":=by decide) (hdb:(x == ("__debug__":Str))=false:=by decide)
    (he:starEach (e :: es) X.env=(false,eval e X.env) :: starEach es X.env:=by rfl) (hpl:(backTo pos (starEach es X.env)).any (·.1)=false:=by rfl):PE X (.Call (.Name x p) (e :: es) [] pos) (tCB r t):=by
  intro pins s σ H Q I h
  refine wpAny_Call_Name_kw (x6 I hg hm hv ?_ hn hdb)
  exact PyProof.Rows.callWith_builtin1 (thn (ha pos pins s σ H _ I h) fun us s1 ⟨vs,H1,I1,r1,q1⟩=>hc pins s1 σ H1 vs us Q I1 r1 q1) he hpl
theorem XG (hc:y8 X (.type T) r) (hg:Gl X x) (hm:X.mg x=none) (hv:bootBuiltins x=some (.type T)) (ha:PA X (e :: es) t) (hn:x≠"__name__":=by decide) (hdb:(x == ("__debug__":Str))=false:=by decide)
    (he:starEach (e :: es) X.env=(false,eval e X.env) :: starEach es X.env:=by rfl) (hpl:(backTo pos (starEach es X.env)).any (·.1)=false:=by rfl):PE X (.Call (.Name x p) (e :: es) [] pos) (tCB r t):=by
  intro pins s σ H Q I h
  refine wpAny_Call_Name_kw (x6 I hg hm hv ?_ hn hdb)
  exact PyProof.Rows.callWith_type1 (thn (ha pos pins s σ H _ I h) fun us s1 ⟨vs,H1,I1,r1,q1⟩=>hc pins s1 σ H1 vs us Q I1 r1 q1) he hpl
end
end L2
namespace HT
open PySem PyProof.Rows
section
open PySem.SeqAt
open PySem.AutoSeq1 (wpAny_loadPart')
open PySem.MeetsSeq PySem.MeetsSeq2 PySem.MeetsSeq3
end
section
variable {prog:Program} {w:World} {A:Around} {E:Value->Shared->Prop} {s:Shared}
theorem cat_tup {t b:Addr} {vs ws:List Value} {Q:Value->Shared->Prop} (ht:IsTup s.heap t vs.toArray) (hb:IsTup s.heap b ws.toArray) (hv:vs≠[])
    (h1:ws=[]->Q (.ref t) s) (h2:ws≠[]->Q (.ref s.heap.objs.size) { s with heap:=s.heap.push { cls:=.type "tuple",data:=.seq (vs ++ ws).toArray } })
    (hsz:vs.length + ws.length<=sizeLine):wpAny (model prog w) A (binaryOp .Add (.ref t) (.ref b)) Q E s:=by
  obtain ⟨⟨cls,dd,data,sl⟩,ho,hc,n,hd⟩:=id ht
  obtain ⟨⟨cls2,dd2,data2,sl2⟩,ho2,hc2,n2,hd2⟩:=id hb
  simp only at hc hd hc2 hd2
  subst hc hd hc2 hd2
  have e:vs.toArray ++ ws.toArray=(vs ++ ws).toArray:=by simp
  by_cases hw:ws=[]
  · exact concat_meets ⟨_,ho,rfl⟩ ⟨_,ho2,rfl⟩ noFill_tuple_add seq_tuple_add PySem.F.slot_tuple_add PySem.F.entry_tuple_add (PySem.F.args_tuple_add_2 _ _)
      (tuple_addW1 t b vs.toArray ws.toArray n n2 dd dd2 sl sl2 (by simpa using hv) (by simp [hw])) ⟨ho,ho2,h1 hw⟩
  · refine concat_meets ⟨_,ho,rfl⟩ ⟨_,ho2,rfl⟩ noFill_tuple_add seq_tuple_add PySem.F.slot_tuple_add PySem.F.entry_tuple_add (PySem.F.args_tuple_add_2 _ _)
      (tuple_addW2 t b vs.toArray ws.toArray n n2 dd dd2 sl sl2 (by simpa using hv) (by simpa using hw) (by rw [List.size_toArray,List.size_toArray]; exact hsz)) ⟨ho,ho2,?_⟩
    rw [e]
    exact h2 hw
def sIx (n d:Nat):Option Int->Nat
  | none=>d
  | some v=>if v < 0 then (v + (n:Int)).toNat else min v.toNat n
theorem zaR (n d:Nat) (hd:d<=n) (o:Option Int):sIx n d o<=n:=by
  cases o with
  | none=>exact hd
  | some v =>
    show (if v < 0 then (v + (n:Int)).toNat else min v.toNat n)<=n
    by_cases hv:v < 0
    · rw [if_pos hv]; lia
    · rw [if_neg hv]; exact Nat.min_le_right _ _
theorem YO (v:Int) (n d:Nat):(if v < 0 then max (v + (n:Int)) 0 else min v (n:Int))=((sIx n d (some v):Nat):Int):=by
  show (if v < 0 then max (v + (n:Int)) 0 else min v (n:Int))=(((if v < 0 then (v + (n:Int)).toNat else min v.toNat n):Nat):Int)
  by_cases hv:v < 0
  · simp only [if_pos hv]; lia
  · simp only [if_neg hv]; lia
theorem Z3 (lo hi:Option Int) (n:Nat):Builtin.Slice.sliceAdjust lo hi 1 (n:Int)=(((sIx n 0 lo:Nat):Int),((sIx n n hi:Nat):Int)):=by
  have h1:¬ ((1:Int) < 0):=by lia
  unfold Builtin.Slice.sliceAdjust
  simp only [h1,if_false]
  refine Prod.ext ?_ ?_
  · cases lo with
    | none=>rfl
    | some v=>exact YO v n 0
  · cases hi with
    | none=>rfl
    | some v=>exact YO v n n
theorem Z4 (i j:Nat):Builtin.Slice.slicePlaces (i:Int) (j:Int) 1=j - i:=by
  unfold Builtin.Slice.slicePlaces
  have h1:(1:Int) > 0:=by lia
  simp only [h1,if_true,Int.ediv_one]
  split <;> lia
theorem wT {v:Value} {o:Option Int} {Q:Option Int->Shared->Prop} (p:IsPart v o) (h:Q o s):wpAny (model prog w) A (Builtin.Slice.slicePartIndex v) Q E s:=by
  cases p with
  | none=>exact slicePart_none h
  | int i t=>exact slicePart_int h
theorem yO {sl:Addr} {vl vu:Value} {lo hi:Option Int} {n:Nat} {Q:Int × Int × Nat->Shared->Prop} (hs:s.heap.IsSliceOf sl vl vu .none) (pl:IsPart vl lo) (pu:IsPart vu hi)
    (h:Q (((sIx n 0 lo:Nat):Int),1,sIx n n hi - sIx n 0 lo) s):wpAny (model prog w) A (Builtin.Slice.sliceApplied (.ref sl) (pure (n:Int))) Q E s:=by
  obtain ⟨os,hos,hcs,hds⟩:=id hs
  unfold Builtin.Slice.sliceApplied Builtin.Slice.sliceFields
  refine wpAny_bind (wpAny_bind (wpAny_field hos hds (x:=vl) rfl (wpAny_bind (wpAny_field hos hds (x:=vu) rfl (wpAny_bind (wpAny_field hos hds (x:=.none) rfl (wpAny_pure ?_)))))))
  refine wpAny_bind (slicePart_none ?_)
  show wpAny _ _ (if ((1:Int) == 0)=true then _ else _) _ _ s
  rw [if_neg (by decide)]
  refine wpAny_bind (wT pl (wpAny_bind (wT pu (wpAny_bind (wpAny_pure ?_)))))
  show wpAny _ _ (match Builtin.Slice.sliceAdjust lo hi 1 (n:Int) with | (lo,hi)=>pure (lo,(1:Int),Builtin.Slice.slicePlaces lo hi 1)) _ _ s
  rw [Z3 lo hi n]
  show wpAny _ _ (pure (((sIx n 0 lo:Nat):Int),(1:Int),Builtin.Slice.slicePlaces ((sIx n 0 lo:Nat):Int) ((sIx n n hi:Nat):Int) 1)) _ _ s
  rw [Z4]
  exact wpAny_pure h
theorem Wu (xs:Array Value) (i k:Nat):((List.range k).filterMap fun (m:Nat)=>xs[((i:Int) + (m:Int) * 1).toNat]?).toArray=((xs.toList.drop i).take k).toArray:=by
  have e:(fun (m:Nat)=>xs[((i:Int) + (m:Int) * 1).toNat]?)=fun m=>xs[i + m]?:=by
    funext m
    have:((i:Int) + (m:Int) * 1).toNat=i + m:=by lia
    rw [this]
  rw [e]
  have:=pick_run xs i k
  rw [List.filterMap_map] at this
  have e2:((fun x=>xs[x]?) ∘ fun x=>i + x)=fun m=>xs[i + m]?:=rfl
  rw [e2] at this
  rw [this]
theorem getItem_tuple_cut {t sl:Addr} {items:Array Value} {vl vu:Value} {lo hi:Option Int} {Q:Value->Shared->Prop} (ht:IsTup s.heap t items) (hs:s.heap.IsSliceOf sl vl vu .none) (pl:IsPart vl lo) (pu:IsPart vu hi)
    (hw:¬ (sIx items.size 0 lo=0/\sIx items.size items.size hi=items.size))
    (h:Q (.ref s.heap.objs.size) { s with heap:=s.heap.push { cls:=.type "tuple",data:=.seq ((items.toList.drop (sIx items.size 0 lo)).take (sIx items.size items.size hi - sIx items.size 0 lo)).toArray } })
    (hsz:items.size<=sizeLine):wpAny (model prog w) A (getItem (.ref t) (.ref sl)) Q E s:=by
  have htake:sizeOk (.seq ((items.toList.drop (sIx items.size 0 lo)).take (sIx items.size items.size hi - sIx items.size 0 lo)).toArray):=by
    show ((items.toList.drop (sIx items.size 0 lo)).take (sIx items.size items.size hi - sIx items.size 0 lo)).toArray.size<=sizeLine
    rw [List.size_toArray,List.length_take,List.length_drop,Array.length_toList]
    lia
  have hj:sIx items.size items.size hi<=items.size:=zaR _ _ (Nat.le_refl _) hi
  obtain ⟨os,hos,hcs,hds⟩:=id hs
  have hTs:s.TypeIs (.ref sl) "slice":=⟨os,hos,hcs⟩
  unfold getItem
  try with_reducible refine wpAny_holding ?_
  first | refine wpAny_bind (wpAny_pure ?_) | skip
  refine wpAny_bind (wpAny_sequenceKey ht.typeIs (by decide) ?_)
  refine wpAny_bind (wpAny_callSpecial?_slot (name:=Str.ofString "__getitem__") ht.typeIs PyProof.Rows.slot_tuple_getitem
    (wpAny_call_entry PyProof.Rows.slot_tuple_getitem ht.typeIs entry_tuple_getitem ?_ (args_tuple_getitem _ _)))
  show wpAny _ _ (Builtin.Tuple.tupleItemsOf (.ref t) >>= _) _ _ s
  refine wpAny_bind (tupleItemsOf_ ht ?_)
  refine wpAny_bind (wpAny_typeOf hTs ?_)
  rw [if_pos (by decide)]
  refine wpAny_bind (yO hs pl pu ?_)
  have hno:¬ ((((sIx items.size 0 lo:Nat):Int) == 0 && (1:Int) == 1 && (sIx items.size items.size hi - sIx items.size 0 lo) == items.size)=true):=by
    intro q
    rw [Bool.and_eq_true,Bool.and_eq_true] at q
    have q1:((sIx items.size 0 lo:Nat):Int)=0:=eq_of_beq q.1.1
    have q2:sIx items.size items.size hi - sIx items.size 0 lo=items.size:=eq_of_beq q.2
    exact hw ⟨by lia,by lia⟩
  show wpAny _ _ (if (((sIx items.size 0 lo:Nat):Int) == 0 && (1:Int) == 1 && (sIx items.size items.size hi - sIx items.size 0 lo) == items.size)=true then _ else _) _ _ s
  rw [if_neg hno,Wu]
  first
    | exact wpAny_bind (m:=Builtin.Tuple.tupleExact _) (wpAny_newObj_type (wpAny_pure ⟨_,rfl,wpAny_pure h⟩) htake)
    | exact wpAny_bind (m:=Builtin.Tuple.tupleExact _) (wpAny_newObj_type (wpAny_bind (wpAny_pure (wpAny_pure ⟨_,rfl,wpAny_pure h⟩))) htake)
    | exact wpAny_bind (wpAny_bind (m:=Builtin.Tuple.tupleExact _) (wpAny_newObj_type (wpAny_pure (wpAny_pure ⟨_,rfl,wpAny_pure h⟩)) htake))
    | exact wpAny_bind (wpAny_bind (m:=Builtin.Tuple.tupleExact _) (wpAny_newObj_type (wpAny_pure ⟨_,rfl,wpAny_pure h⟩) htake))
end
end HT
namespace L2
open PySem PySem.Spec PyProof.Rows
abbrev TO:=St->Hp->(Option Int->Hp->Prop)->Prop
def PO (X:Cx) (e:Option Expr) (t:TO):Prop :=
  ∀ (pins:List (Addr × Obj)) (s:Shared) (σ:St) (H:Hp) (Q:Option Int->Hp->Prop),Inv X pins σ H s->t σ H Q ->
    wpAny (model X.prog X.w) X.A (evalPart e X.env) (fun u s'=>∃ o H',Inv X pins σ H' s'/\IsPart u o/\Q o H') X.xe s
def YQ:TO:=fun _ H Q=>Q none H
def Q5 (t:TE):TO:=fun σ H Q=>t σ H fun x H1=>∃ i,x=.int i/\Q (some i) H1
section
variable {X:Cx} {e:Expr} {te:TE} {lo hi:Option Expr} {tl th:TO} {pos p2:Pos}
theorem JH:PO X none YQ:=by
  intro pins s σ H Q I h
  rw [evalPart_none]
  exact wpAny_pure ⟨none,H,I,.none,h⟩
theorem JI (h:PE X e te):PO X (some e) (Q5 te):=by
  intro pins s σ H Q I hw
  rw [evalPart_some]
  refine thn (h pins s σ H _ I hw) fun u s1 ⟨x,H1,I1,r1,q1⟩=>?_
  obtain ⟨i,rfl,q⟩:=q1
  obtain ⟨t,rfl⟩:=r1
  exact ⟨some i,H1,I1,.int i t,q⟩
def SlR (X:Cx) (r:V->Option Int->Option Int->Hp->VK->Prop):Prop :=
  ∀ (pins:List (Addr × Obj)) (s:Shared) (σ:St) (H:Hp) (x:V) (v vl vu:Value) (lo hi:Option Int) (sl:Addr) (Q:VK),Inv X pins σ H s->RelV x v->s.heap.IsSliceOf sl vl vu .none->IsPart vl lo->IsPart vu hi->r x lo hi H Q ->
    ∃ T id,typeLookup (.type T) "__getitem__"=pure (some (.builtin id))/\s.TypeIs v T/\wpAny (model X.prog X.w) X.A (getItem v (.ref sl)) (EP X pins σ Q) X.xe s
def tSl (r:V->Option Int->Option Int->Hp->VK->Prop) (te:TE) (tl th:TO):TE:=fun σ H Q=>te σ H fun x H1=>tl σ H1 fun l H2=>th σ H2 fun u H3=>r x l u H3 Q
theorem Wv {r:V->Option Int->Option Int->Hp->VK->Prop} (hr:SlR X r) (he:PE X e te) (hl:PO X lo tl) (hu:PO X hi th):PE X (.Subscript e (.Slice lo hi none p2) pos) (tSl r te tl th):=by
  intro pins s σ H Q I h
  refine Subscript_ (thn (he pins s σ H _ I h) fun v s1 ⟨x,H1,I1,r1,q1⟩=>?_)
  refine wpAny_Slice (thn (hl pins s1 σ H1 _ I1 q1) fun vl s2 ⟨l,H2,I2,pl,q2⟩=>thn (hu pins s2 σ H2 _ I2 q2) fun vu s3 ⟨u,H3,I3,pu,q3⟩=>?_)
  rw [evalPart_none]
  refine wpAny_pure ?_
  have I4:Inv X pins σ H3 { s3 with heap:=s3.heap.push { cls:=.type "slice",data:=.fields #[vl,vu,.none] } }:=I3.kept (t':=s3.toks) fun b ob q=>Heap.get?_push_of_some _ q
  obtain ⟨T,id,hT,ht,hg⟩:=hr pins { s3 with heap:=s3.heap.push { cls:=.type "slice",data:=.fields #[vl,vu,.none] } } σ H3 x v vl vu l u s3.heap.objs.size Q I4 r1 (Heap.IsSliceOf.new ..) pl pu q3
  show wpAny (model X.prog X.w) X.A (subscriptTail e (.Slice lo hi none p2) v (.ref s3.heap.objs.size)) (EP X pins σ Q) X.xe { s3 with heap:=s3.heap.push { cls:=.type "slice",data:=.fields #[vl,vu,.none] } }
  exact tail_any (ops:=[.ref s3.heap.objs.size,v]) ht hT hg (by with_unfolding_all rfl)
def cutV (xs:List V) (lo hi:Option Int):List V:=(xs.drop (HT.sIx xs.length 0 lo)).take (HT.sIx xs.length xs.length hi - HT.sIx xs.length 0 lo)
theorem wA (xs:List V) (lo hi:Option Int):(cutV xs lo hi).length<=xs.length:=by
  unfold cutV
  rw [List.length_take,List.length_drop]
  lia
def rSlT (K:PySem.W.Frag):V->Option Int->Option Int->Hp->VK->Prop:=fun x lo hi H Q=>∃ a xs,x=.ref a/\SqT K H a xs /\
  ¬ (HT.sIx xs.length 0 lo=0/\HT.sIx xs.length xs.length hi=xs.length)/\∀ p,H p=none->Q (.ref p) (upd H p (.tup (cutV xs lo hi)))
theorem zaS:SlR X (rSlT X.K):=by
  intro pins s σ H x v vl vu lo hi sl Q I rx hs pl pu h
  obtain ⟨a,xs,rfl,hx,hw,q⟩:=h
  cases rx
  obtain ⟨its,r,ht,hz⟩:=I.tuple hx
  have hlen:its.toArray.size=xs.length:=by rw [List.size_toArray]; exact r.length.symm
  refine ⟨"tuple",_,PyProof.Rows.slot_tuple_getitem.lookup,ht.typeIs,?_⟩
  refine HT.getItem_tuple_cut ht hs pl pu (by rw [hlen]; exact hw) ?_ (by rw [hlen]; exact hz)
  rw [hlen]
  refine ⟨.ref s.heap.objs.size,_,I.laid (t':=s.toks) (o:=.tup (cutV xs lo hi)) (fun b ob q=>Heap.get?_push_of_some _ q) (Nat.le_refl _) ?_,rfl,q _ (I.hok.fresh (Nat.le_refl _))⟩
  exact ⟨Nat.le_trans (wA xs lo hi) hz,_,(r.drop (HT.sIx xs.length 0 lo)).take (HT.sIx xs.length xs.length hi - HT.sIx xs.length 0 lo),IsTupN.new _ _⟩
def Q6 (K:PySem.W.Frag):R2:=fun x y H Q=>∃ a b xs ys,x=.ref a/\y=.ref b/\SqT K H a xs/\SqT K H b ys/\xs≠[]/\xs.length + ys.length<=sizeLine /\
  (ys=[]->Q (.ref a) H)/\(ys≠[]->∀ p,H p=none->Q (.ref p) (upd H p (.tup (xs ++ ys))))
theorem Vals.nil_iff {xs:List V} {us:List Value} (r:Vals xs us):us=[]↔xs=[]:=by
  cases r with
  | nil=>simp
  | cons _ _=>simp
theorem JJ:OpR X (binaryOp .Add) (Q6 X.K):=by
  intro pins s σ H x y v u Q I rx ry h
  obtain ⟨a,b,xs,ys,rfl,rfl,ha,hb,hx,hz,q1,q2⟩:=h
  cases rx
  cases ry
  obtain ⟨its,r1,p1,_⟩:=I.tuple ha
  obtain ⟨its2,r2,p2,_⟩:=I.tuple hb
  refine HT.cat_tup p1 p2 (fun z=>hx (r1.nil_iff.mp z)) (fun z=>⟨.ref a,H,I,rfl,q1 (r2.nil_iff.mp z)⟩) (fun z=>?_) (by rw [<- r1.length,<- r2.length]; exact hz)
  refine ⟨.ref s.heap.objs.size,_,I.laid (t':=s.toks) (o:=.tup (xs ++ ys)) (fun b ob q=>Heap.get?_push_of_some _ q) (Nat.le_refl _) ?_,rfl,q2 (fun w=>z (r2.nil_iff.mpr w)) _ (I.hok.fresh (Nat.le_refl _))⟩
  exact ⟨by rw [List.length_append]; exact hz,_,r1.append r2,IsTupN.new _ _⟩
end
def ixN (n:Nat) (i:Int):Option Nat:=if 0<=i then (if i < n then some i.toNat else none) else if -(n:Int)<=i then some (i + n).toNat else none
def atI {α:Type} (xs:List α) (i:Int):Option α:=(ixN xs.length i).bind fun j=>xs[j]?
theorem YR {n:Nat} {i:Int} {j:Nat} (h:ixN n i=some j):seqIndex? i n=some j/\j < n/\-(n:Int)<=i/\i < n:=by
  unfold ixN at h
  by_cases h0:0<=i
  · rw [if_pos h0] at h
    by_cases h1:i < n
    · rw [if_pos h1] at h
      have e:i.toNat=j:=Option.some.inj h
      exact ⟨by rw [seqIndex_of h0 h1,e],by lia,by lia,h1⟩
    · rw [if_neg h1] at h; cases h
  · rw [if_neg h0] at h
    by_cases h1:-(n:Int)<=i
    · rw [if_pos h1] at h
      have e:(i + n).toNat=j:=Option.some.inj h
      exact ⟨by rw [seqIndex_neg (by lia) h1,e],by lia,h1,by lia⟩
    · rw [if_neg h1] at h; cases h
theorem ji {α:Type} {xs:List α} {i:Int} {v:α} (h:atI xs i=some v):∃ j,seqIndex? i xs.length=some j/\xs[j]?=some v/\j < xs.length/\-(xs.length:Int)<=i/\i < xs.length:=by
  unfold atI at h
  cases e:ixN xs.length i with
  | none=>rw [e] at h; cases h
  | some j =>
    rw [e] at h
    obtain ⟨h1,h2,h3,h4⟩:=YR e
    exact ⟨j,h1,h,h2,h3,h4⟩
theorem ym {α:Type} {xs:List α} {j:Nat} {v:α} (h:xs[j]?=some v):atI xs (j:Int)=some v:=by
  have hj:j < xs.length:=(List.getElem?_eq_some_iff.mp h).1
  have e:ixN xs.length (j:Int)=some j:=by
    unfold ixN
    rw [if_pos (by lia),if_pos (by lia)]; simp
  unfold atI; rw [e]; exact h
theorem aI0 {α:Type} {a:α} {r:List α}:atI (a :: r) 0=some a:=ym (j:=0) rfl
theorem aI1 {α:Type} {a b:α} {r:List α}:atI (a :: b :: r) 1=some b:=ym (j:=1) rfl
theorem aI2 {α:Type} {a b c:α} {r:List α}:atI (a :: b :: c :: r) 2=some c:=ym (j:=2) rfl
theorem aI3 {α:Type} {a b c d:α} {r:List α}:atI (a :: b :: c :: d :: r) 3=some d:=ym (j:=3) rfl
theorem j6 {α:Type} (xs:List α) (v:α):atI (xs ++ [v]) (-1)=some v:=by
  have hl:(xs ++ [v]).length=xs.length + 1:=by simp
  have e:ixN (xs ++ [v]).length (-1)=some xs.length:=by
    unfold ixN
    rw [hl,if_neg (by decide),if_pos (by lia)]
    congr 1
    lia
  unfold atI
  rw [e]
  show (xs ++ [v])[xs.length]?=some v
  simp
def jj (b:Expr):Prop:=∀ o i,subscripted b false o i=operate [o,i] (getItem o i)
def IxR (X:Cx) (r:R2):Prop :=
  ∀ (value slice:Expr) (pins:List (Addr × Obj)) (s:Shared) (σ:St) (H:Hp) (x y:V) (v u:Value) (Q:VK),Inv X pins σ H s->RelV x v->RelV y u->r x y H Q ->
    subscripted slice false v u=operate [v,u] (getItem v u)->wpAny (model X.prog X.w) X.A (subscriptTail value slice v u) (EP X pins σ Q) X.xe s
def MtR (X:Cx) (id:String) (r:V->List V->Hp->VK->Prop):Prop :=
  ∀ (pins:List (Addr × Obj)) (s:Shared) (σ:St) (H:Hp) (x:V) (xs:List V) (v:Value) (us:List Value) (Q:VK),Inv X pins σ H s->RelV x v->Vals xs us->r x xs H Q ->
    wpAny (model X.prog X.w) X.A (call (.builtin id) (v :: us)) (EP X pins σ Q) X.xe s
section
variable {X:Cx} {a b:Expr} {ta tb:TE} {pos:Pos}
theorem zbY {r:R2} (hr:IxR X r) (ha:PE X a ta) (hb:PE X b tb) (hs:jj b):PE X (.Subscript a b pos) (tOp r ta tb):=by
  intro pins s σ H Q I h
  exact Subscript_ (binT ha hb I h fun v u s2 x y H2 I2 rx ry q=>hr a b pins s2 σ H2 x y v u Q I2 rx ry q (hs _ _))
def rIxL (K:PySem.W.Frag):R2:=fun x y H Q=>∃ p xs i v,x=.ref p/\y=.int i/\SqL K H p xs/\atI xs i=some v/\Q v H
def rIxT (K:PySem.W.Frag):R2:=fun x y H Q=>∃ p xs i v,x=.ref p/\y=.int i/\SqT K H p xs/\atI xs i=some v/\Q v H
def rIxS:R2:=fun x y H Q=>∃ z i c,x=.str z/\y=.int i/\z.length<=sizeLine/\atI z.cps.toList i=some c/\Q (.str ⟨#[c]⟩) H
theorem JK:IxR X (rIxL X.K):=by
  intro value slice pins s σ H x y v u Q I rx ry h hs
  obtain ⟨p,xs,i,z,rfl,rfl,hq,he,q⟩:=h
  cases rx
  obtain ⟨t,rfl⟩:=ry
  obtain ⟨its,r,pl,hz⟩:=I.list hq
  obtain ⟨j,h1,h2,h3,h4,h5⟩:=ji he
  obtain ⟨w,ew,rw'⟩:=r.get h2
  have hl:=r.length
  have hn:=wS
  have fin:EP X pins σ Q w s:=⟨z,H,I,rw',q⟩
  by_cases h0:0<=i
  · have hj:i.toNat=j:=by
      rw [seqIndex_of h0 h5] at h1
      exact Option.some.inj h1
    exact item_listR pl.isList h0 (by lia) (by rw [hj]; simpa using ew) fin hs
  · have hj:(i + (its.toArray.size:Int)).toNat=j:=by
      rw [seqIndex_neg (by lia) h4] at h1
      rw [List.size_toArray,<- hl]
      exact Option.some.inj h1
    exact subscriptTail_builtinR (x:=w) pl.isList.typeIs slot_list_getitem.lookup
      (wpAny_getItem_list_neg (Q:=fun r s'=>r=w/\EP X pins σ Q r s') pl.isList (by lia) (by rw [List.size_toArray] <;> lia) (by lia) (by rw [hj]; simpa using ew) ⟨rfl,fin⟩) hs
theorem zaT:IxR X (rIxT X.K):=by
  intro value slice pins s σ H x y v u Q I rx ry h hs
  obtain ⟨p,xs,i,z,rfl,rfl,hq,he,q⟩:=h
  cases rx
  obtain ⟨t,rfl⟩:=ry
  obtain ⟨its,r,pl,hz⟩:=I.tuple hq
  obtain ⟨j,h1,h2,h3,h4,h5⟩:=ji he
  obtain ⟨w,ew,rw'⟩:=r.get h2
  have hl:=r.length
  have hn:=wS
  have fin:EP X pins σ Q w s:=⟨z,H,I,rw',q⟩
  exact subscriptTail_builtinR (x:=w) pl.typeIs slot_tuple_getitem.lookup
    (getItem_tuple (j:=j) (Q:=fun r s'=>r=w/\EP X pins σ Q r s') pl (by lia) (by lia) (by rw [List.size_toArray,<- hl]; exact h1) (by simpa using ew) ⟨rfl,fin⟩) hs
theorem zaU:IxR X rIxS:=by
  intro value slice pins s σ H x y v u Q I rx ry h hs
  obtain ⟨z,i,c,rfl,rfl,hz,he,q⟩:=h
  obtain ⟨t,rfl⟩:=rx
  obtain ⟨t',rfl⟩:=ry
  obtain ⟨j,h1,h2,h3,h4,h5⟩:=ji he
  have hl:z.cps.toList.length=z.length:=by simp [Str.length]
  rw [hl] at h1 h4 h5
  have hn:=wS
  exact tail_any (typeIs_str s z t) slot_str_getitem.lookup (getItem_str (c:=c) (by
    have e1:decide (i < -(2 ^ 63:Int))=false:=decide_eq_false (by lia)
    have e2:decide (i ≥ 2 ^ 63)=false:=decide_eq_false (by lia)
    rw [e1,e2,Bool.or_false]) (by rw [h1]; simpa using h2) ⟨.str ⟨#[c]⟩,H,I.tok _,⟨_,rfl⟩,q⟩) hs
theorem Z5 (its:List Value) (n j:Nat) (u:Value):Obj.mapSeq (·.setIfInBounds j u) { cls:=.type "list",data:=.seq its.toArray n }={ cls:=.type "list",data:=.seq (its.set j u).toArray n }:=by
  simp [Obj.mapSeq]
theorem Inv.lst {pins:List (Addr × Obj)} {σ:St} {H:Hp} {s:Shared} {p:Addr} {xs:List V} (I:Inv X pins σ H s) (h:H p=some (.lst xs)) :
    ∃ (its:List Value) (n:Nat),Vals xs its/\s.heap.get? p=some { cls:=.type "list",data:=.seq its.toArray n }/\xs.length<=sizeLine:=by
  obtain ⟨z,its,n,r,e⟩:=I.hok p _ h
  exact ⟨its,n,r,e,z⟩
theorem Inv.lstUpd {pins:List (Addr × Obj)} {σ:St} {H:Hp} {s:Shared} {p:Addr} {xs ys:List V} {its its':List Value} {n n':Nat} {f:Obj->Obj} (I:Inv X pins σ H s) (h:H p=some (.lst xs))
    (ho:s.heap.get? p=some { cls:=.type "list",data:=.seq its.toArray n }) (hf:f { cls:=.type "list",data:=.seq its.toArray n }={ cls:=.type "list",data:=.seq its'.toArray n' }) (r:Vals ys its') (hz:ys.length<=sizeLine) (t:Nat) :
    Inv X pins σ (upd H p (.lst ys)) { s with heap:=s.heap.update p f,toks:=t }:=by
  have e:(s.heap.update p f).get? p=some { cls:=.type "list",data:=.seq its'.toArray n' }:=by
    rw [Heap.get?_update_self f ho (by rw [hf] <;> rfl),hf]
  refine I.write (x:=p) (e:=p) (by rw [h]; trivial) (.inl rfl) (fun b u hb q=>(Heap.get?_update_other _ _ (Ne.symm hb)).trans q) ⟨_,e⟩ ?_
  exact ⟨hz,its',n',r,e⟩
def Q7:V->V->V->Hp->(Hp->Prop)->Prop:=fun o i v H Q=>∃ p xs k j,o=.ref p/\i=.int k/\H p=some (.lst xs)/\ixN xs.length k=some j/\Q (upd H p (.lst (xs.set j v)))
theorem Ww:PSet X Q7:=by
  intro pins s σ H o i v ov iv u Q I ro ri rv h
  obtain ⟨p,xs,k,j,rfl,rfl,hp,hj,q⟩:=h
  cases ro
  obtain ⟨t,rfl⟩:=ri
  obtain ⟨its,n,r,ho,hz⟩:=I.lst hp
  obtain ⟨h1,h2,h3,h4⟩:=YR hj
  have hl:=r.length
  have hn:=wS
  have I':Inv X pins σ (upd H p (.lst (xs.set j v))) { s with heap:=s.heap.update p (Obj.mapSeq (·.setIfInBounds j u)) } :=
    I.lstUpd hp ho (Z5 its n j u) (r.set rv j) (by rw [List.length_set]; exact hz) s.toks
  by_cases h0:0<=k
  · have hk:k.toNat=j:=by
      rw [seqIndex_of h0 h4] at h1
      exact Option.some.inj h1
    exact PySem.W.ki_setAt ho h0 (by lia) (by rw [List.size_toArray,<- hl]; exact h4) (by rw [hk]; exact ⟨_,I',q⟩)
  · have hk:(k + (its.toArray.size:Int)).toNat=j:=by
      rw [seqIndex_neg (by lia) h3] at h1
      rw [List.size_toArray,<- hl]
      exact Option.some.inj h1
    exact PySem.W.ki_setBack ho (by lia) (by rw [List.size_toArray,<- hl]; exact h3) (by lia) (by rw [hk]; exact ⟨_,I',q⟩)
theorem jk (lo hi:Option Int) (n:Nat):(sliceBounds lo hi none n).1=((HT.sIx n 0 lo:Nat):Int)/\(sliceBounds lo hi none n).2.1=((HT.sIx n n hi:Nat):Int)/\(sliceBounds lo hi none n).2.2=1:=by
  refine ⟨?_,?_,rfl⟩
  · cases lo with
    | none=>simp [sliceBounds,HT.sIx]
    | some i =>
      simp only [sliceBounds,HT.sIx,Option.getD_none,show (1:Int) > 0 by decide,if_true]
      by_cases h:i < 0
      · simp only [h,if_true] <;> lia
      · simp only [h,if_false] <;> lia
  · cases hi with
    | none=>simp [sliceBounds,HT.sIx]
    | some i =>
      simp only [sliceBounds,HT.sIx,Option.getD_none,show (1:Int) > 0 by decide,if_true]
      by_cases h:i < 0
      · simp only [h,if_true] <;> lia
      · simp only [h,if_false] <;> lia
theorem vG (its:List Value) (lo hi:Option Int):slicePick its.toArray lo hi none=((its.drop (HT.sIx its.length 0 lo)).take (HT.sIx its.length its.length hi - HT.sIx its.length 0 lo)).toArray:=by
  obtain ⟨h1,h2,h3⟩:=jk lo hi its.toArray.size
  unfold slicePick
  rw [h1,h2,h3]
  simp only [sliceRange_one,pick_run,List.size_toArray] <;> rfl
def rSlL (K:PySem.W.Frag):V->Option Int->Option Int->Hp->VK->Prop:=fun x lo hi H Q=>∃ a xs,x=.ref a/\SqL K H a xs/\∀ p,H p=none->Q (.ref p) (upd H p (.lst (cutV xs lo hi)))
theorem JL:SlR X (rSlL X.K):=by
  intro pins s σ H x v vl vu lo hi sl Q I rx hs pl pu h
  obtain ⟨a,xs,rfl,hx,q⟩:=h
  cases rx
  obtain ⟨its,r,ht,hz⟩:=I.list hx
  have hlen:=r.length
  refine ⟨"list",_,slot_list_getitem.lookup,ht.isList.typeIs,?_⟩
  refine wpAny_getItem_list_slice ht.isList hs pl pu .none (by simp) ?_ (by rw [List.size_toArray] <;> lia)
  rw [vG,<- hlen]
  refine ⟨.ref s.heap.objs.size,_,I.laid (t':=s.toks) (o:=.lst (cutV xs lo hi)) (fun b ob q=>Heap.get?_push_of_some _ q) (Nat.le_refl _) ?_,rfl,q _ (I.hok.fresh (Nat.le_refl _))⟩
  exact ⟨Nat.le_trans (wA xs lo hi) hz,_,0,(r.drop (HT.sIx xs.length 0 lo)).take (HT.sIx xs.length xs.length hi - HT.sIx xs.length 0 lo),Heap.get?_push_size _ rfl⟩
def yF:V->Bool
  | .non=>true
  | .bl _=>true
  | .int _=>true
  | .str _=>true
  | _=>false
def eqV:V->V->Bool
  | .non,.non=>true
  | .bl a,.bl b=>a == b
  | .bl a,.int b=>(if a then 1 else 0) == b
  | .int a,.bl b=>a == (if b then 1 else 0)
  | .int a,.int b=>a == b
  | .str a,.str b=>a == b
  | _,_=>false
theorem Z6 {A:Around} {s:Shared} {y x:V} {u v:Value} (ry:RelV y u) (rx:RelV x v) (fy:yF y=true) (fx:yF x=true):SeqAt.EqAt A s u v (eqV y x):=by
  cases y with
  | non =>
    cases ry
    cases x with
    | non=>cases rx; exact SeqAt.EqAt.same _
    | bl b=>cases rx; exact SeqAt.EqAt.none_bool b
    | int b=>obtain ⟨t,rfl⟩:=rx; exact SeqAt.EqAt.none_int b t
    | str b=>obtain ⟨t,rfl⟩:=rx; exact SeqAt.EqAt.none_str b t
    | _=>exact absurd (show false=true from fx) Bool.false_ne_true
  | bl a =>
    cases ry
    cases x with
    | non=>cases rx; exact SeqAt.EqAt.bool_none a
    | bl b=>cases rx; exact SeqAt.EqAt.bool_bool a b
    | int b=>obtain ⟨t,rfl⟩:=rx; exact SeqAt.EqAt.bool_int a b t
    | str b=>obtain ⟨t,rfl⟩:=rx; exact SeqAt.EqAt.bool_str a b t
    | _=>exact absurd (show false=true from fx) Bool.false_ne_true
  | int a =>
    obtain ⟨t',rfl⟩:=ry
    cases x with
    | non=>cases rx; exact SeqAt.EqAt.int_none a t'
    | bl b=>cases rx; exact SeqAt.EqAt.int_bool a t' b
    | int b=>obtain ⟨t,rfl⟩:=rx; exact SeqAt.EqAt.int_int a t' b t
    | str b=>obtain ⟨t,rfl⟩:=rx; exact SeqAt.EqAt.int_str a t' b t
    | _=>exact absurd (show false=true from fx) Bool.false_ne_true
  | str a =>
    obtain ⟨t',rfl⟩:=ry
    cases x with
    | non=>cases rx; exact SeqAt.EqAt.str_none a t'
    | bl b=>cases rx; exact SeqAt.EqAt.str_bool a t' b
    | int b=>obtain ⟨t,rfl⟩:=rx; exact SeqAt.EqAt.str_int a t' b t
    | str b=>obtain ⟨t,rfl⟩:=rx; exact SeqAt.EqAt.str_str a t' b t
    | _=>exact absurd (show false=true from fx) Bool.false_ne_true
  | _=>exact absurd (show false=true from fy) Bool.false_ne_true
def eqU (x:V) (u:Value):Bool:=match u with
  | .none=>eqV .non x
  | .bool b=>eqV (.bl b) x
  | .int i _=>eqV (.int i) x
  | .str z _=>eqV (.str z) x
  | _=>false
theorem Wx {x y:V} {u:Value} (r:RelV y u) (f:yF y=true):eqU x u=eqV y x:=by
  cases y with
  | non=>cases r; rfl
  | bl b=>cases r; rfl
  | int i=>obtain ⟨t,rfl⟩:=r; rfl
  | str z=>obtain ⟨t,rfl⟩:=r; rfl
  | _=>exact absurd (show false=true from f) Bool.false_ne_true
theorem jm {x:V}:∀ {xs:List V} {us:List Value},Vals xs us->xs.all yF=true->us.any (eqU x)=xs.any fun y=>eqV y x
  | _,_,.nil,_=>rfl
  | y :: xs,u :: us,.cons r t,f=>by
    rw [List.all_cons,Bool.and_eq_true] at f
    rw [List.any_cons,List.any_cons,Wx r f.1,jm t f.2]
theorem wU {A:Around} {s:Shared} {x:V} {v:Value} (rx:RelV x v) (fx:yF x=true):∀ {xs:List V} {us:List Value},Vals xs us->xs.all yF=true->∀ u∈us,SeqAt.EqAt A s u v (eqU x u)
  | _,_,.nil,_=>fun u hu=>by cases hu
  | y :: xs,u :: us,.cons r t,f=>fun u' hu=>by
    rw [List.all_cons,Bool.and_eq_true] at f
    rcases List.mem_cons.mp hu with rfl | hu
    · rw [Wx r f.1]; exact Z6 r rx f.1 fx
    · exact wU rx fx t f.2 u' hu
def inV (x:V) (xs:List V):Bool:=xs.any fun y=>eqV y x
def rIn (K:PySem.W.Frag) (neg:Bool):R2:=fun x y H Q=>∃ p xs,y=.ref p/\(SqL K H p xs\/SqT K H p xs)/\yF x=true/\xs.all yF=true/\Q (.bl (if neg then !inV x xs else inV x xs)) H
theorem XH:OpR X (compareOp .In) (rIn X.K false):=by
  intro pins s σ H x y v u Q I rx ry h
  obtain ⟨p,xs,rfl,hq,fx,fs,q⟩:=h
  cases ry
  rcases hq with hq | hq
  · obtain ⟨its,r,pl,hz⟩:=I.list hq
    refine SeqAt.in_listAt (eqU x) pl.isList (fun w hw=>wU rx fx r fs w (by simpa using hw)) ⟨.bl _,H,I,rfl,?_⟩
    rw [show its.toArray.any (eqU x)=its.any (eqU x) by simp,jm r fs]
    exact q
  · obtain ⟨its,r,pl,hz⟩:=I.tuple hq
    refine SeqAt.in_tupleAt (eqU x) pl (fun w hw=>wU rx fx r fs w (by simpa using hw)) ⟨.bl _,H,I,rfl,?_⟩
    rw [show its.toArray.any (eqU x)=its.any (eqU x) by simp,jm r fs]
    exact q
theorem jn:y8 X (.builtin "len") (fun xs H Q=>∃ p ys,xs=[.ref p]/\(SqL X.K H p ys\/SqT X.K H p ys)/\Q (.int ys.length) H):=by
  intro pins s σ H xs us Q I r h
  obtain ⟨p,ys,rfl,hq,q⟩:=h
  obtain ⟨u,rfl,rx⟩:=wx r
  cases rx
  have hn:=wS
  rcases hq with hq | hq
  · obtain ⟨its,r',pl,hz⟩:=I.list hq
    have hlen:=r'.length
    exact Calls.call_len_list pl.isList (by simp only [List.size_toArray] <;> lia) ⟨.int ys.length,H,I.tok _,⟨s.toks + 1,by rw [List.size_toArray,hlen]⟩,q⟩
  · obtain ⟨its,r',pl,hz⟩:=I.tuple hq
    have hlen:=r'.length
    exact len_tuple pl (by simp only [List.size_toArray] <;> lia) ⟨.int ys.length,H,I.tok _,⟨s.toks + 1,by rw [List.size_toArray,hlen]⟩,q⟩
theorem vH:y8 X (.type "tuple") (fun xs H Q=>∃ p ys,xs=[.ref p]/\((SqL X.K H p ys/\∀ l,H l=none->Q (.ref l) (upd H l (.tup ys)))\/(SqT X.K H p ys/\Q (.ref p) H))):=by
  intro pins s σ H xs us Q I r h
  obtain ⟨p,ys,rfl,h⟩:=h
  obtain ⟨u,rfl,rx⟩:=wx r
  cases rx
  rcases h with ⟨hq,q⟩ | ⟨hq,q⟩
  · obtain ⟨its,r',pl,hz⟩:=I.list hq
    have hlen:=r'.length
    refine call_tuple_list pl.isList (fun h' kp=>?_) (by simp only [List.size_toArray] <;> lia)
    have I1:Inv X pins σ H { s with heap:=h' }:=I.kept (t':=s.toks) kp
    have I2:Inv X pins σ (upd H h'.objs.size (.tup ys)) { s with heap:=h'.push { cls:=.type "tuple",data:=.seq its.toArray } } :=
      I1.laid (t':=s.toks) (fun b o e=>Heap.get?_push_of_some _ e) (Nat.le_refl _) (show ObjOk X.prog X.w _ _ _ (.tup ys) from ⟨hz,its,r',IsTupN.new _ _⟩)
    exact ⟨.ref h'.objs.size,_,I2,rfl,q _ (I1.hok.fresh (Nat.le_refl _))⟩
  · obtain ⟨its,r',pl,hz⟩:=I.tuple hq
    exact call_tuple_same pl ⟨.ref p,H,I,rfl,q⟩
def tyV (K:PySem.W.Frag) (T:String) (x:V) (H:Hp):Prop:=match x with
  | .str _=>T="str"
  | .int _=>T="int"
  | .ref p=>(T="list"/\∃ xs,SqL K H p xs)\/(T="tuple"/\((∃ o,K.lookup p=some o/\o.cls=.type "tuple"/\o.dict=none)\/∃ xs,H p=some (.tup xs))) \/
      (T="dict"/\((∃ kvs,H p=some (.dK kvs))\/∃ kvs,H p=some (.dT kvs)))\/(T="set"/\∃ S n,H p=some (.set S n))
  | _=>False
theorem Wz {pins:List (Addr × Obj)} {σ:St} {H:Hp} {s:Shared} {T:String} {x:V} {v:Value} (I:Inv X pins σ H s) (r:RelV x v) (ty:tyV X.K T x H) :
    s.TypeIs v T/\∀ a,v=.ref a->∃ ob,s.heap.get? a=some ob/\ob.dict=none:=by
  cases x with
  | str z =>
    obtain ⟨t,rfl⟩:=r
    cases (show T="str" from ty)
    exact ⟨typeIs_str s z t,fun _ e=>nomatch e⟩
  | int i =>
    obtain ⟨t,rfl⟩:=r
    cases (show T="int" from ty)
    exact ⟨typeIs_int s i t,fun _ e=>nomatch e⟩
  | ref p =>
    cases r
    rcases ty with ⟨rfl,xs,hq⟩ | ⟨rfl,⟨o,hk,hc,hd⟩ | ⟨xs,hk⟩⟩ | ⟨rfl,hk⟩ | ⟨rfl,S,n,hk⟩
    · obtain ⟨its,_,pl,_⟩:=I.list hq
      refine ⟨pl.isList.typeIs,fun a e=>?_⟩
      cases e
      obtain ⟨o,n,e,c,hd,_⟩:=pl
      exact ⟨o,e,hd⟩
    · refine ⟨⟨o,I.kIn p o hk,hc⟩,fun a e=>?_⟩
      cases e
      exact ⟨o,I.kIn _ o hk,hd⟩
    · obtain ⟨_,_,_,o,ho,hc,hd,_⟩:=I.hok p _ hk
      refine ⟨⟨o,ho,hc⟩,fun a e=>?_⟩
      cases e
      exact ⟨o,ho,hd⟩
    · have z:∃ o,s.heap.get? p=some o/\o.ExactDict:=by
        rcases hk with ⟨kvs,hk⟩ | ⟨kvs,hk⟩
        · obtain ⟨_,_,_,_,o,_,_,e,ex,_⟩:=I.hok p _ hk
          exact ⟨o,e,ex⟩
        · obtain ⟨_,_,_,_,o,_,_,e,ex,_⟩:=I.hok p _ hk
          exact ⟨o,e,ex⟩
      obtain ⟨o,e,ex⟩:=z
      refine ⟨⟨o,e,ex.1⟩,fun a e2=>?_⟩
      cases e2
      exact ⟨o,e,ex.2.1⟩
    · obtain ⟨o,_,_,_,e,ex,_⟩:=I.hok p _ hk
      refine ⟨⟨o,e,ex.1⟩,fun a e2=>?_⟩
      cases e2
      exact ⟨o,e,ex.2.1⟩
  | _=>exact False.elim ty
def tBM0 (K:PySem.W.Frag) (T:String) (r:V->List V->Hp->VK->Prop) (to:TE):TE:=fun σ H Q=>to σ H fun x H1=>tyV K T x H1/\r x [] H1 Q
def tBM (K:PySem.W.Frag) (T:String) (r:V->List V->Hp->VK->Prop) (to:TE) (t:TA):TE:=fun σ H Q=>to σ H fun x H1=>tyV K T x H1/\t σ H1 fun xs H2=>r x xs H2 Q
variable {o e:Expr} {es:List Expr} {to:TE} {t:TA} {name:Str} {apos cpos:Pos} {T id:String} {r:V->List V->Hp->VK->Prop}
theorem zaV (pa:PlainAttrs T) (slot:Slot T name id) (hty:typeOf (.builtin id)=pure (.type "method_descriptor")) (hm:MtR X id r) (ho:PE X o to)
    (hbase:attributeBase o name X.env (eval o X.env)=eval o X.env:=by rfl) (hline:(apos.endLine == cpos.line)=true:=by rfl):PE X (.Call (.Attribute o name apos) [] [] cpos) (tBM0 X.K T r to):=by
  intro pins s σ H Q I h
  refine wpAny_Call_method0_late hbase hline (thn (ho pins s σ H _ I h) fun v s1 ⟨x,H1,I1,r1,ty,q1⟩=>?_)
  obtain ⟨h1,h2⟩:=Wz I1 r1 ty
  exact ⟨T,id,pa,slot,hty,h1,h2,Calls.callWith_builtin rfl (PySem.evalArgs_none (hm pins s1 σ H1 x [] v [] Q I1 r1 .nil q1))⟩
theorem zbZ (pa:PlainAttrs T) (slot:Slot T name id) (hty:typeOf (.builtin id)=pure (.type "method_descriptor")) (hm:MtR X id r) (ho:PE X o to) (ha:PA X (e :: es) t)
    (hbase:attributeBase o name X.env (eval o X.env)=eval o X.env:=by rfl)
    (hfew:((backTo cpos (starEach (e :: es) X.env)).all (fun x=>!x.1) && (backToKw cpos (keywordEach [] X.env)).all (fun x=>x.1.isSome)
      && decide ((e :: es).length + ([]:List Keyword).length + (if ([]:List Keyword).isEmpty then 0 else 1) < 30))=true:=by rfl)
    (hline:(apos.endLine == cpos.line)=true:=by rfl) (hs:starEach (e :: es) X.env=(false,eval e X.env) :: starEach es X.env:=by rfl) (hplain:(backTo cpos (starEach es X.env)).any (·.1)=false:=by rfl) :
    PE X (.Call (.Attribute o name apos) (e :: es) [] cpos) (tBM X.K T r to t):=by
  intro pins s σ H Q I h
  refine wpAny_Call_method_late hbase hfew hline rfl (thn (ho pins s σ H _ I h) fun v s1 ⟨x,H1,I1,r1,ty,q1⟩=>?_)
  obtain ⟨h1,h2⟩:=Wz I1 r1 ty
  refine ⟨T,id,pa,slot,hty,h1,h2,?_⟩
  have hA:=ha cpos pins s1 σ H1 _ I1 q1
  rw [hs] at hA ⊢
  refine Calls.callWith_builtin (by show (false || (backTo cpos (starEach es X.env)).any (·.1))=false; rw [hplain] <;> rfl) (Calls.evalArgs_plain ?_)
  exact thn hA fun us s2 ⟨vs,H2,I2,r2,q2⟩=>hm pins s2 σ H2 x vs v us Q I2 r1 r2 q2
end
def MtM (X:Cx) (id:String) (r:V->List V->Hp->VK->Prop):Prop :=
  ∀ (pins:List (Addr × Obj)) (s:Shared) (σ:St) (H:Hp) (x:V) (xs:List V) (v:Value) (us:List Value) (Q:VK),Inv X pins σ H s->RelV x v->Vals xs us->r x xs H Q ->
    wpAny (model X.prog X.w) X.A (call (.builtin id) (v :: us)) (EP X pins σ Q) X.xe s
theorem Vals.one:∀ {x:V} {us:List Value},Vals [x] us->∃ u,us=[u]/\RelV x u
  | _,_,.cons r .nil=>⟨_,rfl,r⟩
theorem Vals.zero:∀ {us:List Value},Vals [] us->us=[]
  | _,.nil=>rfl
theorem Vals.dropLast {xs:List V} {us:List Value} (h:Vals xs us):Vals xs.dropLast us.dropLast:=by
  induction h with
  | nil=>exact .nil
  | cons r t ih =>
    cases t with
    | nil=>exact .nil
    | cons q t'=>exact .cons r ih
theorem Z7 {α:Type} (l:List α):l.eraseIdx (l.length - 1)=l.dropLast:=by
  induction l with
  | nil=>rfl
  | cons a r ih =>
    cases r with
    | nil=>rfl
    | cons b r =>
      have e:(a :: b :: r).length - 1=((b :: r).length - 1) + 1:=by
        have h1:(a :: b :: r).length=r.length + 2:=rfl
        have h2:(b :: r).length=r.length + 1:=rfl
        lia
      rw [e,List.eraseIdx_cons_succ,ih]
      all_goals rfl
section
variable {X:Cx} {pins:List (Addr × Obj)} {σ:St} {H:Hp} {s:Shared} {l b:Addr} {xs ys zs:List V}
theorem Inv.lset {its its':List Value} {n:Nat} {f:Array Value->Array Value} {t':Nat} (I:Inv X pins σ H s) (hH:H l=some (.lst xs))
    (e:s.heap.get? l=some { cls:=.type "list",data:=.seq its.toArray n }) (hf:f its.toArray=its'.toArray) (hv:Vals ys its') (hz:ys.length<=sizeLine) :
    Inv X pins σ (upd H l (.lst ys)) { s with heap:=s.heap.update l (Obj.mapSeq f),toks:=t' }:=by
  have q:=PySem.IsL.update e f
  rw [hf] at q
  refine I.write (x:=l) (e:=l) (by rw [hH]; exact trivial) (.inl rfl) (fun b' u hb hu=>(Heap.get?_update_other s.heap (Obj.mapSeq f) (Ne.symm hb)).trans hu) ⟨_,q⟩ ?_
  exact ⟨hz,its',_,hv,q⟩
theorem Inv.lnew {its:List Value} {t':Nat} (I:Inv X pins σ H s) (hv:Vals ys its) (hz:ys.length<=sizeLine) :
    Inv X pins σ (upd H s.heap.objs.size (.lst ys)) { s with heap:=s.heap.push { cls:=.type "list",data:=.seq its.toArray },toks:=t' } :=
  I.laid (fun _ _ q=>Heap.get?_push_of_some _ q) (Nat.le_refl _) ⟨hz,its,0,hv,Heap.get?_push_size _ rfl⟩
theorem Inv.fresh (I:Inv X pins σ H s):H s.heap.objs.size=none:=I.hok.fresh (Nat.le_refl _)
theorem Inv.lstM (I:Inv X pins σ H s) (hH:H l=some (.lst xs)):xs.length<=sizeLine/\∃ (its:List Value) (n:Nat),Vals xs its/\xs.length=its.length/\s.heap.get? l=some { cls:=.type "list",data:=.seq its.toArray n }:=by
  obtain ⟨z,its,n,r,e⟩:=I.hok l _ hH
  exact ⟨z,its,n,r,r.length,e⟩
theorem WA {n:Nat} (h:n<=sizeLine):Builtin.List.listTooLong n=false:=by
  unfold Builtin.List.listTooLong
  exact decide_eq_false (by lia)
end
section
variable {X:Cx}
def YS:V->List V->Hp->VK->Prop:=fun x vs H Q=>∃ l xs y,x=.ref l/\vs=[y]/\H l=some (.lst xs)/\xs.length < sizeLine/\Q .non (upd H l (.lst (xs ++ [y])))
theorem XI:MtM X "list.append" YS:=by
  intro pins s σ H x vs v us Q I rx rv h
  obtain ⟨l,xs,y,rfl,rfl,hH,hz,q⟩:=h
  cases rx
  obtain ⟨u,rfl,ru⟩:=rv.one
  obtain ⟨z,its,n,r,hl,e⟩:=I.lstM hH
  refine call_meets F.slot_list_append ⟨_,e,rfl⟩ F.entry_list_append (F.args_list_append_2 _ _) (PySem.list_append l its.toArray n u (by rw [List.size_toArray]; lia)) ⟨e,?_⟩
  refine ⟨.non,_,I.lset (its':=its ++ [u]) hH e (by simp) (r.append (.cons ru .nil)) ?_,rfl,q⟩
  rw [List.length_append,List.length_singleton]
  lia
def YT:V->List V->Hp->VK->Prop:=fun x vs H Q=>∃ l b xs zs,x=.ref l/\vs=[.ref b]/\H l=some (.lst xs)/\H b=some (.lst zs)/\xs.length + zs.length<=sizeLine/\Q .non (upd H l (.lst (xs ++ zs)))
theorem XJ:MtM X "list.extend" YT:=by
  intro pins s σ H x vs v us Q I rx rv h
  obtain ⟨l,b,xs,zs,rfl,rfl,hH,hB,hz,q⟩:=h
  cases rx
  obtain ⟨u,rfl,ru⟩:=rv.one
  cases ru
  obtain ⟨z,its,n,r,hl,e⟩:=I.lstM hH
  obtain ⟨z2,its2,n2,r2,hl2,e2⟩:=I.lstM hB
  have hsz:its.toArray.size + its2.toArray.size<=sizeLine:=by rw [List.size_toArray,List.size_toArray]; lia
  have hlong:¬ (!its.toArray.isEmpty && Builtin.List.listTooLong (its.toArray.size + its2.toArray.size))=true:=by
    rw [WA hsz,Bool.and_false]
    exact Bool.false_ne_true
  refine call_meets F.slot_list_extend ⟨_,e,rfl⟩ F.entry_list_extend (F.args_list_extend_2 _ _)
    (AutoSeq1.list_extend_list_list_0 l its.toArray n b its2.toArray n2 hlong (by rw [List.size_toArray]; lia) (by lia)) ⟨e,e2,?_⟩
  refine ⟨.non,_,I.lset (its':=its ++ its2) hH e (by simp) (r.append r2) ?_,rfl,q⟩
  rw [List.length_append]
  lia
def rPop:V->List V->Hp->VK->Prop:=fun x vs H Q=>∃ l xs y,x=.ref l/\vs=[]/\H l=some (.lst xs)/\xs[xs.length - 1]?=some y/\Q y (upd H l (.lst xs.dropLast))
theorem zaW:MtM X "list.pop" rPop:=by
  intro pins s σ H x vs v us Q I rx rv h
  obtain ⟨l,xs,y,rfl,rfl,hH,hy,q⟩:=h
  cases rx
  have hus:=rv.zero
  subst hus
  obtain ⟨z,its,n,r,hl,e⟩:=I.lstM hH
  obtain ⟨u,hu,ru⟩:=r.get hy
  have hy':its.toArray[its.toArray.size - 1]?=some u:=by
    show its.toArray[its.length - 1]?=some u
    rw [<- Array.getElem?_toList,<- hl]
    exact hu
  refine call_meets F.slot_list_pop ⟨_,e,rfl⟩ F.entry_list_pop (F.args_list_pop_1 _) (MeetsSeq.list_pop_last l its.toArray n u hy' (by rw [List.size_toArray]; lia)) ⟨e,?_⟩
  refine ⟨y,_,I.lset (its':=its.dropLast) hH e ?_ r.dropLast ?_,ru,q⟩
  · show its.toArray.eraseIdxIfInBounds (its.toArray.size - 1)=its.dropLast.toArray
    rw [List.size_toArray,List.eraseIdxIfInBounds_toArray,Z7]
  · rw [List.length_dropLast]
    lia
def rCat:R2:=fun x y H Q=>∃ l b xs zs,x=.ref l/\y=.ref b/\H l=some (.lst xs)/\H b=some (.lst zs)/\xs.length + zs.length<=sizeLine/\∀ p,H p=none->Q (.ref p) (upd H p (.lst (xs ++ zs)))
theorem zaX:OpR X (binaryOp .Add) rCat:=by
  intro pins s σ H x y v u Q I rx ry h
  obtain ⟨l,b,xs,zs,rfl,rfl,hH,hB,hz,q⟩:=h
  cases rx
  cases ry
  obtain ⟨z,its,n,r,hl,e⟩:=I.lstM hH
  obtain ⟨z2,its2,n2,r2,hl2,e2⟩:=I.lstM hB
  refine PySem.P.add_list e e2 ?_ (by rw [List.size_toArray,List.size_toArray]; lia)
  have ea:its.toArray ++ its2.toArray=(its ++ its2).toArray:=by simp
  rw [ea]
  exact ⟨.ref _,_,I.lnew (t':=s.toks) (r.append r2) (by rw [List.length_append]; lia),rfl,q _ I.fresh⟩
end
section
variable {prog:Program} {w:World} {A:Around} {E:Value->Shared->Prop} {s:Shared}
end
section
variable {X:Cx}
end
end L2
namespace Att
open PySem PySem.W PySem.Calls PyProof.Rows
theorem wG {P:Params} {h:Heap}:∀ (ns:List Int) (vs:List Value),WellAll P h vs (ns.map WData.int)->IntsAre vs ns:=by
  intro ns
  induction ns with
  | nil =>
    intro vs w
    rw [List.map_nil] at w
    cases w
    exact .nil
  | cons n ns ih =>
    intro vs w
    rw [List.map_cons] at w
    cases w with
    | cons a b =>
      cases a
      exact .cons _ _ (ih _ b)
theorem XL {l:OpenLaw} {n:Nat} (hn:l.most=some n) {P:Params} {h:Heap} {args:List WData} {vals:List Value}
    (hpre:l.row.toRowW.claim.pre args=true) (hwl:WellAll P h vals args) :
    ∃ a vs ns,vals=[Value.ref a]/\args=[WData.list (ns.map WData.int)]/\h.get? a=some { cls:=.type "list",data:=.seq vs.toArray }/\IntsAre vs ns/\ns.length<=n:=by
  have hsh:WShape.hasAll [] args [.list .int]=true:=(pre_splitW hpre).1
  have hc:l.pre.holds [] { args:=args }=true:=(pre_splitW hpre).2
  obtain ⟨d,r,rfl,h1,h2⟩:=hasAllW_cons hsh
  obtain rfl:=hasAllW_nil h2
  obtain ⟨xs,rfl,h3⟩:=hasW_list h1
  obtain ⟨ns,rfl⟩:=items_int h3
  have hlen:ns.length<=n:=by
    unfold OpenLaw.pre at hc
    have h4:(WTm.not (.lt (.lit (.int (n:Int))) (.len (.arg 0)))).holds [] { args:=[.list (ns.map .int)] }=true:=by
      have h4:=(holds_andW hc).1
      rw [hn] at h4
      exact h4
    have h5:=condW_of h4 (w_not (w_lt w_lit (w_len_list (w_arg rfl))))
    rw [List.length_map] at h5
    refine Nat.le_of_not_lt fun q=>?_
    have q':(n:Int) < ((ns.length:Nat):Int):=by lia
    first
      | (rw [decide_eq_true q'] at h5; exact absurd h5 (by decide))
      | (simp at h5; lia)
  cases hwl with
  | cons w1 w2 =>
    cases w2
    cases w1 with
    | list ho hall=>exact ⟨_,_,ns,rfl,rfl,ho,wG ns _ hall,hlen⟩
theorem XM (l:OpenLaw) (args:List WData):l.row.toRowW.claim.post args (.bool true) args=true :=
  postW_of (r:=l.row.toRowW) (X:=(true == true))
    (show WShape.has [] (.bool true) .bool=true by first | rfl | decide | simp [WShape.has,WShape.arms,WShape.armsAll])
    (show (WTm.eq .res (.lit (.bool true))).value [] { args:=args,res:=some (.bool true),after:=args }=some (.bool (true == true)) from w_eq_bool (w_res rfl) w_lit) rfl
theorem attach_call {l:OpenLaw} {n:Nat} {q:Program} {loose:List Str} {XP:(Str->Option Value)->Heap->Prop} {YP:World->Heap->Prop} {d:DefRec}
    (hn:l.most=some n) (hdf:d.params.defaults=[])
    (call:∀ (w:World) (s₀ s₁:Shared) (mg mb:Str->Option Value) (fa:Addr) (o:Obj) (pm cd doc:Value) (a:Addr) (vs:List Value) (ns:List Int),
      Ground q loose [] XP w s₀ mg mb s₁.heap->YP w s₁.heap ->
      s₁.heap.get? fa=some o->o.data=.func (docDef d.name d.params d.body d.scope pm cd doc)->s₁.heap.CodeRec cd d.name->mg d.name=some (.ref fa) ->
      s₁.heap.get? a=some { cls:=.type "list",data:=.seq vs.toArray }->IntsAre vs ns->ns.length<=n->s₁.gens=#[] ->
      codeAny (model l.prog w) callerA (.call (.ref fa) ⟨[.ref a],[]⟩) (fun r s'=>r=.ok (.ret (.bool true))/\OldK s₁.heap s'.heap/\s'.os=s₁.os/\AllBare s'.gens) s₁) :
    WalkO q loose XP YP l.row.toRowW d [] (fun f vs=>PySem.call f vs):=by
  intro w s₀ s₁ mg mb G Y fa o pm cd doc dV kV ho hd hcd hD hmg hg args vals as hpre hlay hrd hwl hlo
  obtain rfl:dV=.none:=Dflts.none hD hdf
  obtain rfl:kV=.none:=Dflts.noKw hD
  obtain ⟨a,vs,ns,rfl,rfl,hobj,hints,hlen⟩:=XL hn hpre hwl
  refine enter_call (codeAny_mono (call w s₀ s₁ mg mb fa o pm cd doc a vs ns G Y ho (fd_plain hd) hcd hmg hobj hints hlen hg) fun r s' hq=>?_)
  obtain ⟨rfl,h2,h3,h4⟩:=hq
  exact ⟨.inl ⟨.bool true,.bool true,[],rfl,fun _=>rfl,.bool true,XM l _,fun _=>⟨List.Pairwise.nil,fun _ hm=>(nomatch hm)⟩⟩,h2,h3,h4⟩
section
variable {prog:Program} {w:World} {A:Around} {E:Value->Shared->Prop} {s:Shared} {K:Frag}
def zcf (h:Heap) (L d:Addr):List (Addr × Obj):=(List.range h.objs.size).filterMap fun a=>if a=L\/a=d then none else (h.get? a).map fun o=>(a,o)
end
end Att
namespace L2
open PySem PySem.Spec PyProof.Rows
theorem vR:∀ {vs:List Value} {ns:List Int},IntsAre vs ns->Vals (ns.map V.int) vs
  | _,_,.nil=>.nil
  | _,_,.cons n t h=>.cons ⟨t,rfl⟩ (vR h)
end L2
/- THE LAST THEOREM (shape; LID, My.* are yours):
   My.Adr: a structure of the addresses that your layer names (classes,functions); My.Txt K t: a structure (Prop) of the equations over K;
   My.txt_mk:{K} {implicit addresses ..} (e1:nsIn K mainGlobals "law"=some (some (.ref f))) (e2:K.lookup f=some ⟨oc,od,.func (fnOf "law" "law" params body scope dV kV doc pm an cdv ct),sl⟩) (e3:codeIn K cdv "law"=true) ..:∃ t,My.Txt K t
set_option maxRecDepth 100000 in
set_option maxHeartbeats 0 in
theorem PySem.Challenge.cw_LID_holds : PySem.Challenge.rw_LID.Holds := by
  w_on; o_law; k_head; (case hw=>w_witness2)
  k_fill
  refine L2.walk_of (l:=PySem.Challenge.rw_LID) (n:=63) (k:=40) (x:="script") (CX:=fun w=>..) (sp:=fun _=>My.sp_law) rfl (by decide) rfl ⟨rfl,by decide,by decide⟩ (fun w h Y=>PySem.W.kIn_of Y) ?F ?S ?C
  case F =>
    intro w mg fa h KX G hmg
    have T:∃ t,My.Txt (L2.KOf KX) t:=by
      dsimp only [L2.KOf]                          -- K must stand as «<heap const> w.params» for k_is
      refine' My.txt_mk ?e1 ?e2 ?e3 ..
      (case e1 => PySem.W.k_is)                    -- in the order: a name -> its address -> its object -> its parts
      (case e2=>PySem.W.k_is)
      ..
    obtain ⟨t,T⟩:=T
    have e0:=hmg.symm.trans (PySem.W.mg_of KX G T.law)
    cases e0                                       -- fa is the law's own address
    exact ⟨_, fun s u => .of_eq rfl, fun base kb nb => My.law_fn T kb nb⟩     -- if «.of_eq rfl» comes too early: refine' ⟨_, ?b, fun base kb nb => My.law_fn T kb nb⟩; exact fun s u => .of_eq rfl
  case S=>exact fun w H a ns hl hO hS=>..
  case C=>exact ..
(the tactic k_is has no namespace: write k_is) -/
namespace L2
open PySem PySem.Spec PyProof.Rows
def wI (s:Stmt) (j:Nat):Stmt:=match s with
  | .ClassDef _ _ _ body _ _ _ _ _ _ _=>body.getD j (.Pass ⟨0,0,0,0⟩)
  | _=>.Pass ⟨0,0,0,0⟩
def zN (s:Stmt):Arguments:=match s with
  | .FunctionDef _ a _ _ _ _ _ _ _ _=>a
  | _=>{ posonlyargs:=[],args:=[],vararg:=none,kwonlyargs:=[],kw_defaults:=[],kwarg:=none,defaults:=[] }
def zF (s:Stmt):List Stmt:=match s with
  | .FunctionDef _ _ b _ _ _ _ _ _ _=>b
  | _=>[]
def zn (s:Stmt):Scope:=match s with
  | .FunctionDef _ _ _ _ _ _ sc _ _ _=>sc
  | _=>{ kind:=.function,names:=[],isGenerator:=false,isCoroutine:=false }
abbrev CX0:CXT:=fun _ _ _ _ _ _=>False
abbrev E0:XK:=fun _ _ _=>False
theorem xc {X:Cx}:yk CX0 X E0:=fun _ _ _ _ _ _ _ h=>h.elim
structure Fun (K:PySem.W.Frag) (x qual:Str) (st:Stmt) (f:Addr) (fd:FuncData):Prop where
  ex:∃ (oc:Value) (od:Option Addr) (kV doc pm:Value) (an:Option Addr) (cdv ct:Value) (osl:Array (Option Value)),
    fd=PySem.W.fnOf x qual (zN st) (zF st) (zn st) .none kV doc pm an cdv ct/\K.lookup f=some ⟨oc,od,.func fd,osl⟩/\PySem.W.codeIn K cdv qual=true
  kp:PySem.W.keepIn K (.ref f)=true
section
variable {P:Program} {w:World} {K:PySem.W.Frag} {mg:Str->Option Value} {base:Heap}
theorem Fun.ok {x qual:Str} {st:Stmt} {f:Addr} {fd:FuncData} {N ps:List Str} {k:Nat} {sp:Sp} (F:Fun K x qual st f fd) (S:FnScope N ps (zn st)) (len:∀ vs H Q E,sp vs H Q E->vs.length=ps.length)
    (hbody:∀ (cdv:Value) (A:Around) (outer:List Env) (s:Shared) (H:Hp) (vs:List V) (Q:VK) (E:XK),Room k (A.deeper (envOfC qual (zn st) s.heap.objs.size f cdv))->sp vs H Q E ->
      ∃ t,PSs (cxOf CX0 P w K mg base N qual (zn st) f cdv A outer s H E).nox (zF st) t/\t { nx:=fun _ H'=>Q .non H',rt:=Q } (yE N vs) H):FnOk P w K mg base CX0 (k + 1) f fd ps sp:=by
  obtain ⟨oc,od,kV,doc,pm,an,cdv,ct,osl,rfl,lk,hcd⟩:=F.ex
  refine Q4 lk hcd S len fun A outer s H vs Q E hr hsp=>?_
  obtain ⟨t,h,q⟩:=hbody cdv A outer s H vs Q E hr hsp
  exact ⟨t,h.nox,q⟩
theorem Fun.binds {x qual:Str} {st:Stmt} {f:Addr} {fd:FuncData} {ps:List Str} (F:Fun K x qual st f fd)
    (h:∀ (kV doc pm:Value) (an:Option Addr) (cdv ct:Value) (us:List Value),us.length=ps.length->bindArgs (PySem.W.fnOf x qual (zN st) (zF st) (zn st) .none kV doc pm an cdv ct) ⟨us,[]⟩=pure (ps.zip us)):Binds K fd ps []:=by
  obtain ⟨oc,od,kV,doc,pm,an,cdv,ct,osl,rfl,lk,hcd⟩:=F.ex
  exact .all (h kV doc pm an cdv ct)
theorem WB {x qual:Str} {st:Stmt} {f:Addr} {oc:Value} {od an:Option Addr} {osl:Array (Option Value)} {kV doc pm cdv ct:Value} (l:K.lookup f=some ⟨oc,od,.func (PySem.W.fnOf x qual (zN st) (zF st) (zn st) .none kV doc pm an cdv ct),osl⟩)
    (c:PySem.W.codeIn K cdv qual=true) (k:PySem.W.keepIn K (.ref f)=true):Fun K x qual st f (PySem.W.fnOf x qual (zN st) (zF st) (zn st) .none kV doc pm an cdv ct):=⟨⟨oc,od,kV,doc,pm,an,cdv,ct,osl,rfl,l,c⟩,k⟩
end
theorem vS {A:Around} {k:Nat} (hr:Room k A):A.units + 1 < cLine:=Nat.lt_of_le_of_lt (Nat.add_le_add_left (by decide:1<=64) _) hr.units
section
variable {X:Cx}
theorem pv (i:Nat) {x:Str} {pos:Pos} (hN:X.N[i]?=some x:=by rfl) (hv:Vis X.env.scope x:=by first | exact Or.inl rfl | exact Or.inr (Or.inl rfl) | exact Or.inr (Or.inr rfl)) (hd:(x == ("__debug__":Str))=false:=by decide)
    (hcd:(x == ("__classdict__":Str))=false:=by decide):PE X (.Name x pos) (tVar i):=zar hN hv hd hcd
end
theorem iteF {A B:Prop} (h:B):if false=true then A else B:=by
  rw [if_neg Bool.false_ne_true]
  exact h
theorem iteT {A B:Prop} (h:A):if true=true then A else B:=by
  rw [if_pos rfl]
  exact h
theorem ite2 {c A B:Prop} [Decidable c] (h1:c->A) (h2:¬ c->B):if c then A else B:=by
  by_cases h:c
  · rw [if_pos h]
    exact h1 h
  · rw [if_neg h]
    exact h2 h
def Same (H H':Hp):Prop:=∀ b o,H b=some o->H' b=some o
theorem Same.refl (H:Hp):Same H H:=fun _ _ h=>h
theorem Same.trans {H H1 H2:Hp} (a:Same H H1) (b:Same H1 H2):Same H H2:=fun c o h=>b c o (a c o h)
theorem Same.free {H H':Hp} (e:Same H H') {l:Addr} (h:H' l=Option.none):H l=Option.none:=by
  cases q:H l with
  | none=>rfl
  | some o =>
    rw [e l o q] at h
    cases h
theorem Same.seq {K:PySem.W.Frag} {H H':Hp} {a:Addr} {xs:List V} (e:Same H H') (h:SqL K H a xs):SqL K H' a xs:=by
  rcases h with (h | ⟨o,h⟩) | h
  · exact .inl (.inl (e _ _ h))
  · exact .inl (.inr ⟨o,e _ _ h⟩)
  · exact .inr h
def AllIn (env:Env):List (Str × Addr)->Prop
  | []=>True
  | p :: r=>env.cells.lookup p.1=some p.2/\AllIn env r
theorem AllIn.get {env:Env}:∀ {cl:List (Str × Addr)} {y:Str} {c:Addr},AllIn env cl->cl.lookup y=some c->env.cells.lookup y=some c
  | [],_,_,_,h=>by simp at h
  | (n,a) :: r,y,c,⟨e,t⟩,h=>by
    rw [List.lookup_cons] at h
    by_cases q:y=n
    · subst q
      rw [beq_self_eq_true] at h
      cases h
      exact e
    · have q':(y == n)=false:=beq_eq_false_iff_ne.mpr q
      rw [q'] at h
      exact AllIn.get t h
def xC:List Nat->St->St
  | [],σ=>σ
  | i :: S,σ=>xC S (σ.set i none)
theorem xj:∀ (S:List Nat) (σ:St),(xC S σ).length=σ.length
  | [],_=>rfl
  | i :: S,σ=>by rw [xC,xj S,List.length_set]
theorem vT:∀ (S:List Nat) (σ:St) {j:Nat} {v:V},(xC S σ)[j]?=some (some v)->σ[j]?=some (some v)/\j ∉ S
  | [],_,_,_,h=>⟨h,by simp⟩
  | i :: S,σ,j,v,h=>by
    obtain ⟨h1,h2⟩:=vT S (σ.set i none) h
    rw [List.getElem?_set] at h1
    by_cases e:i=j
    · rw [if_pos e] at h1
      split at h1 <;> cases h1
    · rw [if_neg e] at h1
      exact ⟨h1,fun z=>(List.mem_cons.mp z).elim (fun z=>e z.symm) h2⟩
structure LcOk (X:Cx) (scope:Scope) (cl:List (Str × Addr)) (S:List Nat):Prop where
  clos:closureFor scope X.env=pure cl
  kind:scope.kind=.function
  noC:scope.names.all (fun y=>y.2 != .cell)=true
  loc:scope.names.all (fun y=>y.2 != .local || scope.names.lookup y.1 == some .local)=true
  own:X.N.zipIdx.all (fun y=>S.contains y.2 || scope.names.lookup y.1 != some .local)=true
  sub:AllIn X.env cl
  has:scope.names.all (fun p=>p.2 != .free || ((cl.lookup p.1).isSome && (X.env.kindOf p.1 == some .cell || X.env.kindOf p.1 == some .free)))=true
section
variable {X:Cx} {scope:Scope} {cl:List (Str × Addr)} {S:List Nat}
theorem LcOk.nocell (L:LcOk X scope cl S):∀ y∈scope.names,y.2≠.cell:=fun y hy=>by
  have h:=List.all_eq_true.mp L.noC y hy
  exact bne_iff_ne.mp h
theorem LcOk.locs (L:LcOk X scope cl S):∀ y∈scope.names,y.2=.local->scope.names.lookup y.1=some .local:=fun y hy e=>by
  have h:=List.all_eq_true.mp L.loc y hy
  rw [e] at h
  simpa using h
theorem LcOk.apart (L:LcOk X scope cl S):∀ (i:Nat) (y:Str),X.N[i]?=some y->i ∉ S->scope.names.lookup y≠some .local:=fun i y hy hi=>by
  have h:=List.all_eq_true.mp L.own (y,i) (List.mem_zipIdx_iff_getElem?.mpr hy)
  have hc:S.contains i=false:=by simpa using hi
  rw [hc,Bool.false_or] at h
  exact bne_iff_ne.mp h
theorem LcOk.free (L:LcOk X scope cl S) {y:Str} (h:scope.names.lookup y=some .free):(∃ c,cl.lookup y=some c)/\(X.env.kindOf y=some .cell\/X.env.kindOf y=some .free):=by
  have h1:=List.all_eq_true.mp L.has _ (PySem.mem_of_lookup h)
  simp only [bne_self_eq_false,Bool.false_or,Bool.and_eq_true,Bool.or_eq_true,beq_iff_eq] at h1
  exact ⟨Option.isSome_iff_exists.mp h1.1,h1.2⟩
theorem yC (names:List (Str × NameKind)) (env:Env) (y:Str) :
    (names.map fun (n,k)=>if (k == NameKind.free && env.scope.kind == .function && env.kindOf n == some .cell) then (n,NameKind.cell) else (n,k)).lookup y =
      (names.lookup y).map fun k=>if (k == NameKind.free && env.scope.kind == .function && env.kindOf y == some .cell) then NameKind.cell else k:=by
  induction names with
  | nil=>rfl
  | cons p r ih =>
    obtain ⟨n,k⟩:=p
    rw [List.map_cons]
    by_cases q:y=n
    · subst q
      by_cases hc:(k == NameKind.free && env.scope.kind == .function && env.kindOf y == some .cell)=true
      · show List.lookup y ((if (k == NameKind.free && env.scope.kind == .function && env.kindOf y == some .cell)=true then (y,NameKind.cell) else (y,k)) :: _)=_
        rw [if_pos hc,List.lookup_cons,List.lookup_cons,beq_self_eq_true]
        show some NameKind.cell=some (if _ then _ else _)
        rw [if_pos hc]
      · show List.lookup y ((if (k == NameKind.free && env.scope.kind == .function && env.kindOf y == some .cell)=true then (y,NameKind.cell) else (y,k)) :: _)=_
        rw [if_neg hc,List.lookup_cons,List.lookup_cons,beq_self_eq_true]
        show some k=some (if _ then _ else _)
        rw [if_neg hc]
    · have q':(y == n)=false:=beq_eq_false_iff_ne.mpr q
      by_cases hc:(k == NameKind.free && env.scope.kind == .function && env.kindOf n == some .cell)=true
      · show List.lookup y ((if (k == NameKind.free && env.scope.kind == .function && env.kindOf n == some .cell)=true then (n,NameKind.cell) else (n,k)) :: _)=_
        rw [if_pos hc,List.lookup_cons,List.lookup_cons,q']
        exact ih
      · show List.lookup y ((if (k == NameKind.free && env.scope.kind == .function && env.kindOf n == some .cell)=true then (n,NameKind.cell) else (n,k)) :: _)=_
        rw [if_neg hc,List.lookup_cons,List.lookup_cons,q']
        exact ih
theorem LcOk.kinds (L:LcOk X scope cl S) {y:Str} (h:(relabel scope X.env).names.lookup y=some .cell\/(relabel scope X.env).names.lookup y=some .free):scope.names.lookup y=some .free:=by
  have e:(relabel scope X.env).names.lookup y=(scope.names.lookup y).map fun k=>if (k == NameKind.free && X.env.scope.kind == .function && X.env.kindOf y == some .cell) then NameKind.cell else k:=yC scope.names X.env y
  rw [e] at h
  cases q:scope.names.lookup y with
  | none=>rw [q] at h; rcases h with h | h <;> cases h
  | some k =>
    have hk:k≠.cell:=L.nocell _ (PySem.mem_of_lookup q)
    rw [q] at h
    by_cases hf:k=.free
    · rw [hf]
    · have z:(k == NameKind.free)=false:=beq_eq_false_iff_ne.mpr hf
      rw [Option.map_some,z,Bool.false_and,Bool.false_and,if_neg Bool.false_ne_true] at h
      rcases h with h | h
      · exact absurd (Option.some.inj h) hk
      · exact absurd (Option.some.inj h) hf
def cxLC (X:Cx) (scope:Scope) (cl:List (Str × Addr)) (M:List Str) (C:Addr) (s₀:Shared) (H₀:Hp) (ex:List Addr) (E:Value->Shared->Prop):Cx where
  prog:=X.prog
  w:=X.w
  K:=X.K
  mg:=X.mg
  base:=X.base
  A:=X.A
  N:=X.N ++ M
  s₀:=s₀
  H₀:=H₀
  env:=compEnvC scope cl C X.env
  outer:=X.stack
  stack:=X.stack
  ex:=ex
  fn:=fun _=>false
  calm:=X.calm
  pn:=[]
  xe:=E
variable {pins:List (Addr × Obj)} {σ:St} {H:Hp} {s:Shared} {ex:List Addr} {M:List Str} {C:Addr}
theorem WC {E:Value->Shared->Prop} {h1:Heap} {tk:Nat} {m:Str->Option Value} (I:Inv X pins σ H s) (L:LcOk X scope cl S) (hf:∀ b∈ex,FpOk X pins H b) (hlt:∀ b∈ex,b < s.heap.objs.size)
    (hk:∀ b o,s.heap.get? b=some o->h1.get? b=some o) (hC:s.heap.objs.size<=C) (hns:h1.Ns C m) :
    Inv (cxLC X scope cl M C s H ex E) [] (xC S σ ++ List.replicate M.length none) H { s with heap:=h1,toks:=tk }:=by
  refine ⟨⟨I.ok.mod,L.kind,I.ok.glob,I.ok.blt,hC,fun x y c a b=>I.ok.inj x y c (L.sub.get a) (L.sub.get b),fun y hy=>(L.free (L.kinds hy)).1,(fun x c z=>nomatch z),I.ok.hd,I.ok.frames,.inl rfl,fun b hb=>⟨?_,fun x c e=>?_⟩,
      I.bs,Nat.le_trans I.ok.bsz I.sz,fun b o e hb=>?_,fun b hb z=>?_,I.stack,I.stkFree⟩,
    rfl,I.bare,Un.kept hk,⟨m,hns,fun i y v e1 e2 e3=>?_⟩,fun y c e=>?_,I.hok.fresh hC,fun y c e=>I.freeC y c (L.sub.get e),fun p hp=>absurd (show p∈([]:List (Addr × Obj)) from hp) (by simp),I.hok.kept hk,?_⟩
  · exact Nat.ne_of_lt (Nat.lt_of_lt_of_le (hlt b hb) hC)
  · exact (hf b hb).2.2.2.2.1 x c (L.sub.get e)
  · rcases (hf b hb).2.2.2.1 with z | z
    · exact I.ok.noex b o e z
    · exact absurd (Nat.lt_of_lt_of_le (Heap.lt_size e) (Nat.le_trans I.ok.bsz z)) (Nat.lt_irrefl _)
  · rcases List.mem_cons.mp (I.stkSub b z) with q | q
    · exact (hf b hb).2.1 q
    · exact (hf b hb).2.2.1 q
  · have e1':(X.N ++ M)[i]?=some y:=e1
    by_cases hi:i < σ.length
    · rw [List.getElem?_append_left (by rw [xj]; exact hi)] at e2
      obtain ⟨e2,hiS⟩:=vT S σ e2
      rw [List.getElem?_append_left (by rw [<- I.len]; exact hi)] at e1'
      obtain ⟨m0,hn0,hl⟩:=I.loc
      have hy:scope.names.lookup y=some .free:=by
        rcases e3 with e3 | e3
        · have q:=yC scope.names X.env y
          have e3':(relabel scope X.env).names.lookup y=some .local:=e3
          cases z:scope.names.lookup y with
          | none =>
            rw [z] at q
            have q':(relabel scope X.env).names.lookup y=none:=q
            rw [e3'] at q'; cases q'
          | some k =>
            have hk1:k≠.local:=fun w=>L.apart i y e1' hiS (w ▸ z)
            rw [z,Option.map_some] at q
            have q':some NameKind.local=some (if (k == NameKind.free && X.env.scope.kind == .function && X.env.kindOf y == some .cell)=true then NameKind.cell else k):=e3'.symm.trans q
            have q2:=Option.some.inj q'
            by_cases hc:(k == NameKind.free && X.env.scope.kind == .function && X.env.kindOf y == some .cell)=true
            · rw [if_pos hc] at q2; cases q2
            · rw [if_neg hc] at q2; exact absurd q2.symm hk1
        · exact L.kinds e3
      obtain ⟨⟨c,hc⟩,hk2⟩:=L.free hy
      obtain ⟨u,r,l⟩:=hl i y v e1' e2 (.inr hk2)
      refine ⟨u,r,.inr ⟨?_,c,hc,?_⟩⟩
      · have q:=yC scope.names X.env y
        rw [hy,Option.map_some] at q
        have q':(relabel scope X.env).names.lookup y=some (if (NameKind.free == NameKind.free && X.env.scope.kind == .function && X.env.kindOf y == some .cell)=true then NameKind.cell else NameKind.free):=q
        by_cases hc:(NameKind.free == NameKind.free && X.env.scope.kind == .function && X.env.kindOf y == some .cell)=true
        · rw [if_pos hc] at q'; exact .inl q'
        · rw [if_neg hc] at q'; exact .inr q'
      · rcases l with ⟨l1,_⟩ | ⟨_,c',e',z⟩
        · rcases hk2 with w | w <;> (rw [l1] at w; cases w)
        · have ec:c'=c:=by
            have w:=L.sub.get hc
            rw [e'] at w
            exact Option.some.inj w
          subst ec
          obtain ⟨o,ho,hd⟩:=z
          exact ⟨o,hk _ _ ho,hd⟩
    · rw [List.getElem?_append_right (by rw [xj]; exact Nat.not_lt.mp hi),List.getElem?_replicate] at e2
      split at e2 <;> cases e2
  · obtain ⟨v,o,ho,hd⟩:=I.cell y c (L.sub.get e)
    exact ⟨v,o,hk _ _ ho,hd⟩
  · show (xC S σ ++ List.replicate M.length none).length=(X.N ++ M).length
    rw [List.length_append,List.length_append,List.length_replicate,xj,I.len]
def PTs (X:Cx) (ifs:List Expr) (t:TT):Prop :=
  ∀ (pins:List (Addr × Obj)) (s:Shared) (σ:St) (H:Hp) (Q:Bool->Hp->Prop),Inv X pins σ H s->t σ H Q ->
    wpAny (model X.prog X.w) X.A (forIn ifs true fun c r=>if r=true then do let ok <- isTrue c X.env (eval c X.env); pure (ForInStep.yield ok) else pure (ForInStep.yield r)) (TP X pins σ Q) X.xe s
def tYes:TT:=fun _ H Q=>Q true H
theorem JM {X:Cx}:PTs X [] tYes:=fun _ _ _ H _ I h=>wpAny_tests_nil ⟨H,I,h⟩
theorem JN {X:Cx} {c:Expr} {t:TT} (h:PT X c t):PTs X [c] t:=fun pins s σ H Q I q=>wpAny_tests_one (h pins s σ H Q I q)
def lcBy (J:It) (g:TG) (tt:TT) (te:TE) (Q:VK) (W:Nat->Nat->St->List V->Hp->Prop):Prop:=∀ i m τ ys H,W i m τ ys H ->
  (J.stop i H/\∀ p,H p=none->Q (.ref p) (upd H p (.lst ys))) \/
  (J.go i H/\∃ N:St->List V->Hp->Prop,(∀ τ' ys' H',N τ' ys' H'->∃ m',m' < m/\W (i + 1) m' τ' ys' H')/\∀ x H',J.yld i H x H'->g x τ H' fun τ2 H2=>tt τ2 H2 fun b H3 =>
    if b=true then te τ2 H3 fun y H4=>ys.length < sizeLine/\N τ2 (ys ++ [y]) H4 else N τ2 ys H3)
def tLC (wi:TI) (g:TG) (tt:TT) (te:TE) (n:Nat):TE:=fun σ H Q=>wi σ H fun J H1=>∃ W,(∃ m,W 0 m (σ ++ List.replicate n none) [] H1)/\lcBy J g tt te Q W
def tLCS (S:List Nat) (wi:TI) (g:TG) (tt:TT) (te:TE) (n:Nat):TE:=fun σ H Q=>wi σ H fun J H1=>∃ W,(∃ m,W 0 m (xC S σ ++ List.replicate n none) [] H1)/\lcBy J g tt te Q W
theorem YU {tg elt iter:Expr} {ifs:List Expr} {pos:Pos} {g:TG} {tt:TT} {te:TE} {J:It} {fp:List Addr} {it:Addr} {tn:Nat->Heap->Prop} {Q:VK} {E:Value->Shared->Prop} {R:Value->Addr->Result->Shared->Prop} {Al:Addr->(Value->Shared->Prop)->Prop}
    {W:Nat->Nat->St->List V->Hp->Prop} {m0:Nat} (L:LcOk X scope cl S) (hc:X.calm=true) (I:Inv X pins σ H s) (T:Turn X.prog X.w X.K tg J fp it tn) (st:tn 0 s.heap) (hf:∀ b∈fp,FpOk X pins H b)
    (hg:∀ C s H ex E,PG (cxLC X scope cl M C s H ex E) tg g) (ht:∀ C s H ex E,PTs (cxLC X scope cl M C s H ex E) ifs tt) (he:∀ C E,Al C E->PE (cxLC X scope cl M C s H fp E) elt te)
    (hal:∀ C,s.heap.objs.size < C->Al C (notedBy (model X.prog X.w) X.A (compEnvC scope cl C X.env) (fun e s'=>R (.ref s.heap.objs.size) C (.error e) s')))
    (w0:W 0 m0 (xC S σ ++ List.replicate M.length none) [] H) (turn:lcBy J g tt te Q W)
    (hR:∀ D C s' H' ys m,Inv X pins σ (upd H' D (.lst ys)) s'->FpOk X pins (upd H' D (.lst ys)) C->s'.heap.Ns C m->Q (.ref D) (upd H' D (.lst ys))->R (.ref D) C (.ok .next) s') :
    wpAny (model X.prog X.w) X.A (newList []) (fun acc s₃=>wpAny (model X.prog X.w) X.A (newFunctionEnv scope X.env.globals cl [] X.env.qual none .none (some X.env)) (fun cenv s₄ =>
      codeAny (model X.prog X.w) X.A (.compStart (.ListComp elt [⟨tg,iter,ifs,0⟩] scope pos) 0 (.ref it) acc { cenv with scope:=relabel scope X.env }) (R acc cenv.locals) s₄) E s₃) E s:=by
  refine wpAny_newObj_type (wpAny_newFunctionEnv L.nocell (by intro y hy; simp at hy) (fun h₁ hns₁ hsb₁=>?_) L.kind)
  dsimp only at hns₁ hsb₁ ⊢
  generalize hG:s.heap.push { cls:=.type "list",dict:=none,data:=.seq ([]:List Value).toArray }=G at hns₁ hsb₁ ⊢
  have hC:G.objs.size=s.heap.objs.size + 1:=by rw [<- hG,Heap.size_push]
  have hDC:s.heap.objs.size≠G.objs.size:=by rw [hC]; exact Nat.ne_of_lt (Nat.lt_succ_self _)
  have hCle:s.heap.objs.size<=G.objs.size:=by rw [hC]; exact Nat.le_succ _
  have old:∀ b o,s.heap.get? b=some o->h₁.get? b=some o:=fun b o e =>
    hsb₁.extBut b o (by rw [hC]; exact Nat.ne_of_lt (Nat.lt_succ_of_lt (Heap.lt_size e))) (Heap.get?_push_of_some _ (hG ▸ Heap.get?_push_of_some _ e))
  have hacc:h₁.get? s.heap.objs.size=some { cls:=.type "list",data:=.seq ([]:List Value).toArray }:=hsb₁.extBut _ _ hDC (Heap.get?_push_of_some _ (hG ▸ Heap.get?_push_size _ rfl))
  have fpo:∀ b∈fp,b < s.heap.objs.size:=fun b hb=>let ⟨o,e,_⟩:=T.obj 0 _ st b hb; Heap.lt_size e
  have st1:tn 0 h₁:=T.keep 0 _ _ st fun b _ o e=>old b o e
  have nofs:s.heap.objs.size ∉ frs X.stack:=fun z=>by
    rcases List.mem_cons.mp (I.stkSub _ z) with q | q
    · exact absurd (q ▸ I.lt) (Nat.lt_irrefl _)
    · exact I.nofs (Nat.le_refl _) q
  have nocl:∀ y c,cl.lookup y=some c->c≠s.heap.objs.size:=fun y c e z=>by
    obtain ⟨v,o,ho,_⟩:=I.cell y c (L.sub.get e)
    exact absurd (z ▸ Heap.lt_size ho) (Nat.lt_irrefl _)
  have loop:∀ s₃:Shared,s₃={ s with heap:=h₁,toks:=s.toks + ([]:List (Str × Value)).length } ->
      codeAny (model X.prog X.w) X.A (.compLoop (.ListComp elt [⟨tg,iter,ifs,0⟩] scope pos) 0 (.ref it) (.ref s.heap.objs.size) (compEnvC scope cl G.objs.size X.env)) (R (.ref s.heap.objs.size) G.objs.size) s₃:=by
    rintro s₃ rfl
    have hAl:=hal G.objs.size (by rw [hC]; exact Nat.lt_succ_self _)
    generalize hE:notedBy (model X.prog X.w) X.A (compEnvC scope cl G.objs.size X.env) (fun e s'=>R (.ref s.heap.objs.size) G.objs.size (.error e) s')=E' at hAl ⊢
    have IY:Inv (cxLC X scope cl M G.objs.size s H fp E') [] (xC S σ ++ List.replicate M.length none) H { s with heap:=h₁,toks:=s.toks + ([]:List (Str × Value)).length }:=WC I L hf fpo old hCle hns₁
    refine codeAny_loop rfl (fun n s'=>∃ (i:Nat) (τ:St) (H':Hp) (ys:List V) (its:List Value) (k:Nat),Inv (cxLC X scope cl M G.objs.size s H fp E') [] τ H' s'/\tn i s'.heap/\(∀ b∈fp,H' b=none) /\
      s'.heap.get? s.heap.objs.size=some { cls:=.type "list",data:=.seq its.toArray k }/\H' s.heap.objs.size=none/\Vals ys its/\ys.length<=sizeLine/\W i n τ ys H') (fun n s' hI=>?_) m0
      ⟨0,_,H,[],[],_,IY,st1,fun b hb=>(hf b hb).1,hacc,I.hok.fresh (Nat.le_refl _),.nil,Nat.zero_le _,w0⟩
    obtain ⟨i,τ,H1,ys,its,k,I1,st1,fr1,eD,fD,rv,hz,w1⟩:=hI
    show wpAny _ X.A ((compTurn (.ListComp elt [⟨tg,iter,ifs,0⟩] scope pos) 0 (.ref it) (.ref s.heap.objs.size) (compEnvC scope cl G.objs.size X.env)).onRaise (fun x=>do noteFrame x (compEnvC scope cl G.objs.size X.env); theTreesLotGoes x)) _ _ s'
    refine wpAny_noted ?_
    rw [hE,compTurn_list]
    have I1':Inv (cxLC X scope cl M G.objs.size s H fp E') [(s.heap.objs.size,{ cls:=.type "list",data:=.seq its.toArray k })] τ H1 s':=I1.pins_of fun p hp=>by
      have e:p=(s.heap.objs.size,{ cls:=.type "list",data:=.seq its.toArray k }):=by simpa using hp
      subst e
      exact ⟨eD,fD,hDC,nofs,(fun v z=>nomatch z)⟩
    have stat:∀ {H':Hp},(∀ b∈fp,H' b=none)->∀ b∈fp,FpOk (cxLC X scope cl M G.objs.size s H fp E') [(s.heap.objs.size,{ cls:=.type "list",data:=.seq its.toArray k })] H' b:=fun hn b hb=>by
      refine ⟨hn b hb,?_,?_,.inl hb,fun x c e=>(hf b hb).2.2.2.2.1 x c (L.sub.get e),fun p hp z=>?_⟩
      · exact Nat.ne_of_lt (Nat.lt_of_lt_of_le (fpo b hb) hCle)
      · intro z
        rcases List.mem_cons.mp (I.stkSub b z) with q | q
        · exact (hf b hb).2.1 q
        · exact (hf b hb).2.2.1 q
      · have e:p=(s.heap.objs.size,{ cls:=.type "list",data:=.seq its.toArray k }):=by
          have hp':p∈[(s.heap.objs.size,({ cls:=.type "list",data:=.seq its.toArray k }:Obj))]:=hp
          simpa using hp'
        subst e
        exact absurd (z ▸ fpo b hb) (Nat.lt_irrefl _)
    refine wpAny_bind (wpAny_standAt (wpAny_bind ?_))
    rcases turn i n τ ys H1 w1 with ⟨stop,q⟩ | ⟨go,N,hN,step⟩
    · refine thn (T.done (cxLC X scope cl M G.objs.size s H fp E') rfl rfl rfl hc i _ s' τ H1 E' I1' (stat fr1) st1 stop) fun r s4 ⟨hr,I4⟩=>?_
      subst hr
      refine wpAny_pure ?_
      obtain ⟨eD4,_,_⟩:=I4.pin (s.heap.objs.size,{ cls:=.type "list",data:=.seq its.toArray k }) (List.mem_append_right _ List.mem_cons_self)
      have base4:Un (frs X.stack) fp H H1 s.heap s4.heap:=I4.base
      have un:Un (frs X.stack) fp H (upd H1 s.heap.objs.size (.lst ys)) s.heap s4.heap:=⟨base4.keep,base4.slot,fun b o e n hx=>by rw [zg (Nat.ne_of_lt (Heap.lt_size e))]; exact base4.free b o e n hx,base4.there,
        fun b xs e=>by rw [zg (zi (base4.tups b xs e) fD)]; exact base4.tups b xs e,fun b o u e=>by rw [zg (zi (base4.frzs b o u e) fD)]; exact base4.frzs b o u e,
        fun b ps e=>by
          obtain ⟨more,w⟩:=base4.tbls b ps e
          exact ⟨more,by rw [zg (zi w fD)]; exact w⟩⟩
      have hok:HOk X.prog X.w (upd H1 s.heap.objs.size (.lst ys)) s4.heap:=fun b u e=>by
        by_cases hb:b=s.heap.objs.size
        · subst hb
          rw [zf] at e
          cases e
          exact ⟨hz,its,k,rv,eD4⟩
        · rw [zg hb] at e
          exact (I4.hok b u e).stay (fun c v _ q=>q) (fun c q=>by rw [zg (zi q fD)]; exact q) fun c xs q=>by rw [zg (zi q fD)]; exact q
      have IX:Inv X pins σ (upd H1 s.heap.objs.size (.lst ys)) s4:=I.call' I4.os un hok I4.bare fun b hb=>⟨(hf b hb).2.2.2.1,(hf b hb).2.1,(hf b hb).2.2.2.2.1,(hf b hb).2.2.2.2.2⟩
      have fC:H1 G.objs.size=none:=I4.free
      obtain ⟨m4,n4,_⟩:=I4.loc
      exact hR _ _ s4 H1 ys m4 IX (I.fpOk hCle (by rw [zg (Ne.symm hDC)]; exact fC)) n4 (q _ fD)
    · refine thn (T.item (cxLC X scope cl M G.objs.size s H fp E') rfl rfl rfl hc i _ s' τ H1 E' I1' (stat fr1) st1 go) fun r s4 ⟨u,hr,h4⟩=>?_
      subst hr
      refine wpAny_bind (thn h4 fun _ s5 ⟨x,H5,I5,r5,y5,st5,fr5⟩=>?_)
      have I5':=I5.pinned (stat fr5) (T.obj _ _ st5)
      have kept:∀ {τ6:St} {H6:Hp} {s6:Shared},Inv (cxLC X scope cl M G.objs.size s H fp E') ([(s.heap.objs.size,{ cls:=.type "list",data:=.seq its.toArray k })] ++ wR fp s5.heap) τ6 H6 s6 ->
          Inv (cxLC X scope cl M G.objs.size s H fp E') [] τ6 H6 s6/\tn (i + 1) s6.heap/\(∀ b∈fp,H6 b=none)/\s6.heap.get? s.heap.objs.size=some { cls:=.type "list",data:=.seq its.toArray k }/\H6 s.heap.objs.size=none:=fun {τ6 H6 s6} I6=>by
        have pin:∀ b∈fp,∀ o,s5.heap.get? b=some o->s6.heap.get? b=some o/\H6 b=none:=fun b hb o e =>
          let w:=I6.pin (b,o) (List.mem_append_right _ (List.mem_append_right _ (xo hb e)))
          ⟨w.1,w.2.1⟩
        have pD:=I6.pin (s.heap.objs.size,{ cls:=.type "list",data:=.seq its.toArray k }) (List.mem_append_right _ (List.mem_append_left _ List.mem_cons_self))
        refine ⟨I6.pins_of (fun p hp=>nomatch hp),T.keep _ _ _ st5 fun b hb o e=>(pin b hb o e).1,fun b hb=>?_,pD.1,pD.2.1⟩
        obtain ⟨o,e,_⟩:=T.obj _ _ st5 b hb
        exact (pin b hb o e).2
      refine wpAny_bind (thn (hg _ _ _ _ _ _ s5 τ H5 x u _ I5' r5 (step x H5 y5)) fun _ s6 ⟨σ6,H6,I6,q6⟩=>?_)
      refine wpAny_bind (thn (ht _ _ _ _ _ _ s6 σ6 H6 _ I6 q6) fun ok s7 ⟨H7,I7,q7⟩=>?_)
      cases ok with
      | false =>
        have q7':N σ6 ys H7:=by simpa using q7
        obtain ⟨m',hm,w7⟩:=hN _ _ _ q7'
        obtain ⟨K1,K2,K3,K4,K5⟩:=kept I7
        exact wpAny_pure ⟨rfl,m',hm,i + 1,σ6,H7,ys,its,k,K1,K2,K3,K4,K5,rv,hz,w7⟩
      | true =>
        have q7':te σ6 H7 fun y H4=>ys.length < sizeLine/\N σ6 (ys ++ [y]) H4:=by simpa using q7
        refine wpAny_bind (wpAny_bind (thn (he _ _ hAl _ s7 σ6 H7 _ I7 q7') fun y s8 ⟨v8,H8,I8,r8,hz8,n8⟩=>?_))
        obtain ⟨m',hm,w8⟩:=hN _ _ _ n8
        obtain ⟨K1,K2,K3,K4,K5⟩:=kept I8
        have hl:=rv.length
        refine wpAny_bind (wpAny_list_append_plain (hsz:=by rw [List.size_toArray]; lia) ⟨k,K4⟩ fun h9 hl9 hs9=>wpAny_pure (wpAny_pure ⟨rfl,m',hm,?_⟩))
        obtain ⟨k9,e9⟩:=hl9
        have I9:Inv (cxLC X scope cl M G.objs.size s H fp E') [] σ6 H8 { s8 with heap:=h9 }:=K1.turned (t':=s8.toks) (it:=s.heap.objs.size) (fun b o hb e=>(hs9.2 b hb).trans e) K5 hDC (.inr (Nat.le_refl _))
          (fun y c e=>nocl y c e) fun p hp=>nomatch hp
        refine ⟨i + 1,σ6,H8,ys ++ [v8],its ++ [y],k9,I9,T.keep _ _ _ K2 fun b hb o e=>(hs9.2 b (Nat.ne_of_lt (fpo b hb))).trans e,K3,?_,K5,rv.append (.cons r8 .nil),?_,w8⟩
        · rw [e9]
          simp
        · rw [List.length_append,List.length_singleton]
          lia
  exact codeAny_compStart_list (loop _ rfl) (T.self X.A 0 _ _ _ st1 (loop _ rfl))
variable {tg elt iter:Expr} {ifs:List Expr} {pos:Pos} {wi:TI} {g:TG} {tt:TT} {te:TE}
theorem Q8 (L:LcOk X scope cl S) (hc:X.calm=true) (hi:PI X tg iter wi) (hg:∀ C s H ex E,PG (cxLC X scope cl M C s H ex E) tg g) (ht:∀ C s H ex E,PTs (cxLC X scope cl M C s H ex E) ifs tt) (he:∀ C s H ex E,PE (cxLC X scope cl M C s H ex E) elt te)
    (hs:∀ x,foldedSetIterable iter X.env x=pure x:=by intro _; rfl):PE X (.ListComp elt [⟨tg,iter,ifs,0⟩] scope pos) (tLCS S wi g tt te M.length):=by
  intro pins s σ H Q I h
  rw [eval_ListComp]
  refine wpAny_comprehension_free (use:=none) rfl hs L.clos L.kind L.locs (thn (hi pins s σ H _ I h) fun v s1 h1=>thn h1 fun itv s2 h2=>?_)
  obtain ⟨it,fp,tn,J,H2,rfl,I2,T,st2,f2,W,⟨m0,w0⟩,turn⟩:=h2
  refine YU (R:=fun acc C=>compPost (model X.prog X.w) X.A X.xe none (EP X pins σ Q) acc C) (Al:=fun _ _=>True) L hc I2 T st2 f2 hg ht (fun C E _=>he C _ _ _ E) (fun _ _=>trivial) w0 turn ?_
  intro D C s' H' ys m IX fC ns q
  exact ⟨m,ns,fun h' sb=>⟨.ref D,_,IX.turned (t':=s'.toks) (fun b o hb e=>(sb.2 b hb).trans e) fC.1 fC.2.1 fC.2.2.2.1 fC.2.2.2.2.1 fC.2.2.2.2.2,rfl,q⟩⟩
theorem XN {i:Nat} {y:Str} {py spos:Pos} (hN:X.N.Nodup) (hi':X.N[i]?=some y) (hy:Loc X.env.scope y) (L:LcOk X scope cl S) (hc:X.calm=true) (hi:PI X tg iter wi) (hg:∀ C s H ex E,PG (cxLC X scope cl M C s H ex E) tg g)
    (ht:∀ C s H ex E,PTs (cxLC X scope cl M C s H ex E) ifs tt) (he:∀ C s H ex E,PE (cxLC X scope cl M C s H ex E) elt te) (hs:∀ x,foldedSetIterable iter X.env x=pure x:=by intro _; rfl)
    (hsw:swapsWith (.ListComp elt [⟨tg,iter,ifs,0⟩] scope pos) (some (.Name y py)) spos.line X.env=pure true:=by rfl)
    (hf:X.fn y=true\/X.env.scope.names.lookup y=some .local:=by first | exact .inl rfl | exact .inr rfl | assumption) :
    PS X (.Assign [.Name y py] (.ListComp elt [⟨tg,iter,ifs,0⟩] scope pos) spos) (fun D σ H=>tLCS S wi g tt te M.length σ H fun v H1=>D.nx (σ.set i (some v)) H1):=by
  intro pins s σ H D I h
  rw [exec_Assign_Name_used _ _ _ _ hsw]
  refine wpAny_bind (wpAny_standAt (wpAny_bind ?_))
  show wpAny _ X.A (do let _ <- comprehension (.ListComp elt [⟨tg,iter,ifs,0⟩] scope pos) scope X.env _ (newList []) false (eval iter X.env) (some (assign (.Name y py) X.env))) _ _ s
  refine wpAny_bind (wpAny_mono (wpAny_comprehension_free (use:=some (assign (.Name y py) X.env)) (Q:=fun _ s'=>SP X pins D .next s') rfl hs L.clos L.kind L.locs
    (thn (hi pins s σ H _ I h) fun v s1 h1=>thn h1 fun itv s2 h2=>?_)) (fun _ s' hq=>wpAny_pure (wpAny_pure hq)) fun _ _ e=>e)
  obtain ⟨it,fp,tn,J,H2,rfl,I2,T,st2,f2,W,⟨m0,w0⟩,turn⟩:=h2
  refine YU (R:=fun acc C=>compPost (model X.prog X.w) X.A X.xe (some (assign (.Name y py) X.env)) (fun _ s'=>SP X pins D .next s') acc C) (Al:=fun _ _=>True) L hc I2 T st2 f2 hg ht (fun C E _=>he C _ _ _ E) (fun _ _=>trivial) w0 turn ?_
  intro D' C s' H' ys m IX fC ns q
  show wpAny _ X.A (assign (.Name y py) X.env (.ref D')) _ _ s'
  refine wpAny_assign_Name (vJ IX hN hi' hy (v:=.ref D') rfl (fun s'' I'' ⟨a,sb,ha⟩=>?_) hf)
  refine ⟨m,ns.sameBut sb ?_,fun h' sb'=>⟨_,_,I''.turned (t':=s''.toks) (fun b o hb e=>(sb'.2 b hb).trans e) fC.1 fC.2.1 fC.2.2.2.1 fC.2.2.2.2.1 fC.2.2.2.2.2,q⟩⟩
  rcases ha with ha | ha
  · rw [ha]; exact fC.2.1
  · exact Ne.symm (fC.2.2.2.2.1 y a ha)
end
def clOf (scope:Scope) (env:Env):List (Str × Addr):=scope.names.foldl (fun cs p=>if p.2 == .free then (match env.cells.lookup p.1 with | some a=>(p.1,a) :: cs | none=>cs) else cs) []
theorem YV (env:Env):∀ (names:List (Str × NameKind)) (acc:List (Str × Addr)),AllIn env acc->AllIn env (names.foldl (fun cs p=>if p.2 == .free then (match env.cells.lookup p.1 with | some a=>(p.1,a) :: cs | none=>cs) else cs) acc)
  | [],_,h=>h
  | (n,k) :: r,acc,h=>by
    rw [List.foldl_cons]
    refine YV env r _ ?_
    by_cases hk:(k == NameKind.free)=true
    · rw [if_pos hk]
      cases e:env.cells.lookup n with
      | none=>exact h
      | some a=>exact ⟨e,h⟩
    · rw [if_neg hk]
      exact h
section
variable {X:Cx} {scope:Scope} {M:List Str} {tg elt iter:Expr} {ifs:List Expr} {pos:Pos} {wi:TI} {g:TG} {tt:TT} {te:TE}
theorem Q9 {S:List Nat} (h1:closureFor scope X.env=pure (clOf scope X.env)) (h2:scope.kind=.function) (h3:scope.names.all (fun y=>y.2 != .cell)=true) (h4:scope.names.all (fun y=>y.2 != .local || scope.names.lookup y.1 == some .local)=true)
    (h5:X.N.zipIdx.all (fun y=>S.contains y.2 || scope.names.lookup y.1 != some .local)=true) (h6:scope.names.all (fun p=>p.2 != .free || (((clOf scope X.env).lookup p.1).isSome && (X.env.kindOf p.1 == some .cell || X.env.kindOf p.1 == some .free)))=true) :
    LcOk X scope (clOf scope X.env) S:=⟨h1,h2,h3,h4,h5,YV X.env scope.names [] trivial,h6⟩
theorem lcOk (h1:closureFor scope X.env=pure (clOf scope X.env)) (h2:scope.kind=.function) (h3:scope.names.all (fun y=>y.2 != .cell)=true) (h4:scope.names.all (fun y=>y.2 != .local || scope.names.lookup y.1 == some .local)=true)
    (h5:X.N.all (fun y=>scope.names.lookup y != some .local)=true) (h6:scope.names.all (fun p=>p.2 != .free || (((clOf scope X.env).lookup p.1).isSome && (X.env.kindOf p.1 == some .cell || X.env.kindOf p.1 == some .free)))=true) :
    LcOk X scope (clOf scope X.env) []:=Q9 h1 h2 h3 h4 (List.all_eq_true.mpr fun y hy=>by
      have hm:y.1∈X.N:=List.mem_of_getElem? (List.mem_zipIdx_iff_getElem?.mp hy)
      rw [List.all_eq_true.mp h5 y.1 hm,Bool.or_true]) h6
theorem JO (M:List Str) (hc:X.calm=true) (hi:PI X tg iter wi) (hg:∀ C s H ex E,PG (cxLC X scope (clOf scope X.env) M C s H ex E) tg g) (ht:∀ C s H ex E,PTs (cxLC X scope (clOf scope X.env) M C s H ex E) ifs tt)
    (he:∀ C s H ex E,PE (cxLC X scope (clOf scope X.env) M C s H ex E) elt te) (hs:∀ x,foldedSetIterable iter X.env x=pure x:=by intro _; rfl)
    (h1:closureFor scope X.env=pure (clOf scope X.env):=by with_unfolding_all rfl) (h2:scope.kind=.function:=by rfl) (h3:scope.names.all (fun y=>y.2 != .cell)=true:=by rfl) (h4:scope.names.all (fun y=>y.2 != .local || scope.names.lookup y.1 == some .local)=true:=by rfl)
    (h5:X.N.all (fun y=>scope.names.lookup y != some .local)=true:=by rfl) (h6:scope.names.all (fun p=>p.2 != .free || (((clOf scope X.env).lookup p.1).isSome && (X.env.kindOf p.1 == some .cell || X.env.kindOf p.1 == some .free)))=true:=by rfl) :
    PE X (.ListComp elt [⟨tg,iter,ifs,0⟩] scope pos) (tLC wi g tt te M.length):=Q8 (lcOk h1 h2 h3 h4 h5 h6) hc hi hg ht he hs
theorem JP (M:List Str) {i:Nat} {y:Str} {py spos:Pos} (hN:X.N.Nodup) (hi':X.N[i]?=some y) (hy:Loc X.env.scope y) (hc:X.calm=true) (hi:PI X tg iter wi) (hg:∀ C s H ex E,PG (cxLC X scope (clOf scope X.env) M C s H ex E) tg g)
    (ht:∀ C s H ex E,PTs (cxLC X scope (clOf scope X.env) M C s H ex E) ifs tt) (he:∀ C s H ex E,PE (cxLC X scope (clOf scope X.env) M C s H ex E) elt te) (hs:∀ x,foldedSetIterable iter X.env x=pure x:=by intro _; rfl)
    (hsw:swapsWith (.ListComp elt [⟨tg,iter,ifs,0⟩] scope pos) (some (.Name y py)) spos.line X.env=pure true:=by rfl)
    (hf:X.fn y=true\/X.env.scope.names.lookup y=some .local:=by first | exact .inl rfl | exact .inr rfl | assumption)
    (h1:closureFor scope X.env=pure (clOf scope X.env):=by with_unfolding_all rfl) (h2:scope.kind=.function:=by rfl) (h3:scope.names.all (fun y=>y.2 != .cell)=true:=by rfl) (h4:scope.names.all (fun y=>y.2 != .local || scope.names.lookup y.1 == some .local)=true:=by rfl)
    (h5:X.N.all (fun y=>scope.names.lookup y != some .local)=true:=by rfl) (h6:scope.names.all (fun p=>p.2 != .free || (((clOf scope X.env).lookup p.1).isSome && (X.env.kindOf p.1 == some .cell || X.env.kindOf p.1 == some .free)))=true:=by rfl) :
    PS X (.Assign [.Name y py] (.ListComp elt [⟨tg,iter,ifs,0⟩] scope pos) spos) (fun D σ H=>tLC wi g tt te M.length σ H fun v H1=>D.nx (σ.set i (some v)) H1):=XN hN hi' hy (lcOk h1 h2 h3 h4 h5 h6) hc hi hg ht he hs hsw hf
theorem WD (S:List Nat) (M:List Str) (hc:X.calm=true) (hi:PI X tg iter wi) (hg:∀ C s H ex E,PG (cxLC X scope (clOf scope X.env) M C s H ex E) tg g) (ht:∀ C s H ex E,PTs (cxLC X scope (clOf scope X.env) M C s H ex E) ifs tt)
    (he:∀ C s H ex E,PE (cxLC X scope (clOf scope X.env) M C s H ex E) elt te) (hs:∀ x,foldedSetIterable iter X.env x=pure x:=by intro _; rfl)
    (h1:closureFor scope X.env=pure (clOf scope X.env):=by with_unfolding_all rfl) (h2:scope.kind=.function:=by rfl) (h3:scope.names.all (fun y=>y.2 != .cell)=true:=by rfl) (h4:scope.names.all (fun y=>y.2 != .local || scope.names.lookup y.1 == some .local)=true:=by rfl)
    (h5:X.N.zipIdx.all (fun y=>S.contains y.2 || scope.names.lookup y.1 != some .local)=true:=by rfl) (h6:scope.names.all (fun p=>p.2 != .free || (((clOf scope X.env).lookup p.1).isSome && (X.env.kindOf p.1 == some .cell || X.env.kindOf p.1 == some .free)))=true:=by rfl) :
    PE X (.ListComp elt [⟨tg,iter,ifs,0⟩] scope pos) (tLCS S wi g tt te M.length):=Q8 (Q9 h1 h2 h3 h4 h5 h6) hc hi hg ht he hs
end
section
variable {g:TG} {tt:TT} {te:TE} {Q:VK} {σ:St} {H:Hp}
theorem xk {K:PySem.W.Frag} {a:Addr} {xs:List V} (Pv:Nat->St->List V->Hp->Prop) (h0:Pv 0 σ [] H) (hl:∀ i τ ys H,i<=xs.length->Pv i τ ys H->SqL K H a xs)
    (hs:∀ i x τ ys H,xs[i]?=some x->Pv i τ ys H->g x τ H fun τ2 H2=>tt τ2 H2 fun b H3=>if b=true then te τ2 H3 fun y H4=>ys.length < sizeLine/\Pv (i + 1) τ2 (ys ++ [y]) H4 else Pv (i + 1) τ2 ys H3)
    (hd:∀ τ ys H,Pv xs.length τ ys H->∀ p,H p=none->Q (.ref p) (upd H p (.lst ys))):∃ W,(∃ m,W 0 m σ [] H)/\lcBy (Itl K a) g tt te Q W:=by
  refine ⟨fun i m τ ys H=>m=xs.length - i/\i<=xs.length/\Pv i τ ys H,⟨xs.length,by simp,Nat.zero_le _,h0⟩,?_⟩
  rintro i m τ ys H ⟨rfl,hi,p⟩
  have q:=hl i τ ys H hi p
  by_cases hlt:i < xs.length
  · refine .inr ⟨⟨xs,xs[i],q,by simp [hlt]⟩,Pv (i + 1),fun τ' ys' H' p'=>⟨xs.length - (i + 1),by lia,rfl,hlt,p'⟩,fun x H' y=>?_⟩
    obtain ⟨e,y⟩:=y
    subst e
    exact hs i x τ ys _ (y xs q) p
  · have e:i=xs.length:=by lia
    subst e
    exact .inl ⟨⟨xs,q,Nat.le_refl _⟩,hd τ ys H p⟩
theorem yg {lo:Int} {n:Nat} (Pv:Nat->St->List V->Hp->Prop) (h0:Pv 0 σ [] H)
    (hs:∀ i τ ys H,i < n->Pv i τ ys H->g (.int (lo + i)) τ H fun τ2 H2=>tt τ2 H2 fun b H3=>if b=true then te τ2 H3 fun y H4=>ys.length < sizeLine/\Pv (i + 1) τ2 (ys ++ [y]) H4 else Pv (i + 1) τ2 ys H3)
    (hd:∀ τ ys H,Pv n τ ys H->∀ p,H p=none->Q (.ref p) (upd H p (.lst ys))):∃ W,(∃ m,W 0 m σ [] H)/\lcBy (Itr lo n) g tt te Q W:=by
  refine ⟨fun i m τ ys H=>m=n - i/\i<=n/\Pv i τ ys H,⟨n,by simp,Nat.zero_le _,h0⟩,?_⟩
  rintro i m τ ys H ⟨rfl,hi,p⟩
  by_cases hlt:i < n
  · refine .inr ⟨hlt,Pv (i + 1),fun τ' ys' H' p'=>⟨n - (i + 1),by lia,rfl,hlt,p'⟩,fun x H' y=>?_⟩
    obtain ⟨e,y⟩:=y
    subst e y
    exact hs i τ ys _ hlt p
  · have e:i=n:=by lia
    subst e
    exact .inl ⟨Nat.le_refl _,hd τ ys H p⟩
end
end L2
namespace L2
open PySem PySem.Spec PyProof.Rows Builtin Builtin.Str
section
variable {X:Cx} {tg:Expr}
end
end L2
namespace L2
open PySem PySem.Spec PyProof.Rows
def zp:Expr->Bool
  | .Starred ..=>true
  | _=>false
theorem zB {e:Expr} {es:List Expr} {env:Env} (h:zp e=false):starEach (e :: es) env=(false,eval e env) :: starEach es env:=by
  cases e <;> first
    | rfl
    | exact absurd (show true=false from h) (by decide)
theorem yh {env:Env} {pos:Pos}:∀ {es:List Expr},es.all (fun e=>!zp e)=true->(backTo pos (starEach es env)).any (·.1)=false
  | [],_=>rfl
  | e :: es,h=>by
    rw [List.all_cons,Bool.and_eq_true] at h
    have h1:zp e=false:=by simpa using h.1
    rw [zB h1]
    show (false || (backTo pos (starEach es env)).any (·.1))=false
    rw [yh h.2]
    rfl
section
variable {X:Cx} {CX:CXT} {k:Nat} {f C:Addr} {fd:FuncData} {ps:List Str} {sp:Sp} {dvs:List V} {ds:List Value} {E:XK} {x m:Str} {p pos apos:Pos} {e o:Expr} {es:List Expr} {te ta:TE} {t:TA} {id T:String} {r:List V->Hp->VK->Prop}
theorem pa_c (ha:PE X e te) (hr:PA X es t) (h:zp e=false:=by rfl):PA X (e :: es) (yj te t):=JD ha hr (zB h)
theorem zb0 (F:FnOk X.prog X.w X.K X.mg X.base CX k f fd ps sp) (hr:Room k X.A) (hg:Gl X x) (hm:X.mg x=some (.ref f)) (hk:PySem.W.keepIn X.K (.ref f)=true) (hb:Binds X.K fd ps ds) (hd:Vals dvs ds) (hx:yk CX X E)
    (ha:PA X (e :: es) t) (hdb:(x == ("__debug__":Str))=false:=by decide) (h1:zp e=false:=by rfl) (h2:es.all (fun e=>!zp e)=true:=by rfl) :
    PE X (.Call (.Name x p) (e :: es) [] pos) (j3 sp dvs E t):=JE F hr hg hm hk hb hd hx ha hdb (zB h1) (yh h2)
theorem zaY (hc:y8 X (.builtin id) r) (hg:Gl X x) (hm:X.mg x=none) (hv:bootBuiltins x=some (.builtin id)) (ha:PA X (e :: es) t) (hn:x≠"__name__":=by decide) (hdb:(x == ("__debug__":Str))=false:=by decide)
    (h1:zp e=false:=by rfl) (h2:es.all (fun e=>!zp e)=true:=by rfl):PE X (.Call (.Name x p) (e :: es) [] pos) (tCB r t):=Wt hc hg hm hv ha hn hdb (zB h1) (yh h2)
theorem JQ (hc:y8 X (.type T) r) (hg:Gl X x) (hm:X.mg x=none) (hv:bootBuiltins x=some (.type T)) (ha:PA X (e :: es) t) (hn:x≠"__name__":=by decide) (hdb:(x == ("__debug__":Str))=false:=by decide)
    (h1:zp e=false:=by rfl) (h2:es.all (fun e=>!zp e)=true:=by rfl):PE X (.Call (.Name x p) (e :: es) [] pos) (tCB r t):=XG hc hg hm hv ha hn hdb (zB h1) (yh h2)
end
structure jE (X:Cx) (e:Expr) (t:TE):Prop where
  out:PE X e t
structure jT (X:Cx) (e:Expr) (t:TT):Prop where
  out:PT X e t
structure jW (X:Cx) (e:Expr) (t:TT):Prop where
  out:PW X e t
structure jA (X:Cx) (es:List Expr) (t:TA):Prop where
  out:PA X es t
structure jS (X:Cx) (st:Stmt) (t:TS):Prop where
  out:PS X st t
structure jSs (X:Cx) (sts:List Stmt) (t:TS):Prop where
  out:PSs X sts t
structure jG (X:Cx) (tg:Expr) (t:TG):Prop where
  out:PG X tg t
structure jGs (X:Cx) (tg:List Expr) (t:TGs):Prop where
  out:PGs X tg t
structure jI (X:Cx) (tg iter:Expr) (t:TI):Prop where
  out:PI X tg iter t
structure jO (X:Cx) (e:Option Expr) (t:TO):Prop where
  out:PO X e t
structure jTs (X:Cx) (ifs:List Expr) (t:TT):Prop where
  out:PTs X ifs t
structure jOp (X:Cx) (f:Value->Value->Sem Value) (r:R2):Prop where
  out:OpR X f r
structure jIx (X:Cx) (r:R2):Prop where
  out:IxR X r
structure jSl (X:Cx) (r:V->Option Int->Option Int->Hp->VK->Prop):Prop where
  out:SlR X r
structure jMt (X:Cx) (id:String) (r:V->List V->Hp->VK->Prop):Prop where
  out:MtR X id r
structure jCa (X:Cx) (f:Value) (r:List V->Hp->VK->Prop):Prop where
  out:y8 X f r
section
variable {X:Cx} {a b c e o:Expr} {es rest:List Expr} {ta tb tc te to:TE} {t u:TA} {tA tB':TT} {pos p p2 apos cpos px:Pos} {x y m:Str} {op op':CmpOp} {bop:Operator} {r r':R2}
theorem jv (i:Nat) (hN:X.N[i]?=some x:=by rfl) (hv:Vis X.env.scope x:=by first | exact Or.inl rfl | exact Or.inr (Or.inl rfl) | exact Or.inr (Or.inr rfl)) (hd:(x == ("__debug__":Str))=false:=by decide)
    (hcd:(x == ("__classdict__":Str))=false:=by decide):jE X (.Name x pos) (tVar i):=⟨pv i hN hv hd hcd⟩
theorem zo {i j}:jE X (.Constant (.int i) j pos) (tC (.int i)):=⟨zas⟩
theorem wV {b j}:jE X (.Constant (.bool b) j pos) (tC (.bl b)):=⟨zbP⟩
theorem zr {x j}:jE X (.Constant (.str x) j pos) (tC (.str x)):=⟨zat⟩
theorem JR {v:V} {w:Value} (hg:Gl X x) (hm:X.mg x=some w) (r:RelV v w) (hd:(x == ("__debug__":Str))=false:=by decide):jE X (.Name x pos) (tC v):=⟨Jq hg hm r hd⟩
theorem zA (ho:jOp X (binaryOp bop) r) (ha:jE X a ta) (hb:jE X b tb):jE X (.BinOp a bop b pos) (tOp r ta tb):=⟨zbS ho.out ha.out hb.out⟩
theorem wW (ha:jE X a ta):jE X (.UnaryOp .USub a pos) (tUn (rU fun i=>.int (-i)) ta):=⟨Q0 zaK ha.out⟩
theorem yG (ho:jOp X (compareOp op) r) (ha:jE X a ta) (hb:jE X b tb) (hm:behindInMarks op b=false):jE X (.Compare a [op] [b] pos) (tOp r ta tb):=⟨Jy ho.out ha.out hb.out hm⟩
theorem wJ (ho:jOp X (compareOp op) r) (ha:jE X a ta) (hb:jE X b tb) (hm:behindInMarks op b=false):jT X (.Compare a [op] [b] pos) (Wp (tOp r ta tb)):=⟨Jz ho.out ha.out hb.out hm⟩
theorem Z8 (h:jE X e te) (he:∀ whole,isTrue e X.env whole=(do let v <- whole; standAt e.pos; holding [v] (truthy v)):=by intro _; rfl):jT X e (tB te):=⟨zav h.out he⟩
theorem JS (ha:jT X a tA):jW X (.BoolOp .And [a] pos) tA:=⟨pw_and1 ha.out⟩
theorem Ya (ha:jT X a tA):jW X (.BoolOp .Or [a] pos) tA:=⟨pw_or1 ha.out⟩
theorem WE (ha:jT X a tA) (hb:jW X (.BoolOp .And (b :: rest) pos) tB'):jW X (.BoolOp .And (a :: b :: rest) pos) (tAnd tA tB'):=⟨pw_and ha.out hb.out⟩
theorem WF (ha:jT X a tA) (hb:jW X (.BoolOp .Or (b :: rest) pos) tB'):jW X (.BoolOp .Or (a :: b :: rest) pos) (tOr tA tB'):=⟨pw_or ha.out hb.out⟩
theorem jW.pt (h:jW X e tA):jT X e tA:=⟨PW.pt h.out⟩
theorem Yb {op} (h:jE X a te):jE X (.BoolOp op [a] pos) te:=⟨zaw h.out⟩
theorem Yc (ha:jE X a ta) (hb:jE X (.BoolOp .And (b :: rest) pos) tb):jE X (.BoolOp .And (a :: b :: rest) pos) (QV ta tb):=⟨zax ha.out hb.out⟩
theorem zb1 (ha:jE X a ta) (hb:jE X (.BoolOp .Or (b :: rest) pos) tb):jE X (.BoolOp .Or (a :: b :: rest) pos) (tOrV ta tb):=⟨zbQ ha.out hb.out⟩
theorem j7 (hc:jT X c tA) (ha:jE X a ta) (hb:jE X b tb):jE X (.IfExp c a b pos) (tIf tA ta tb):=⟨Wh hc.out ha.out hb.out⟩
theorem zS:jA X [] tNil:=⟨zaO⟩
theorem ja_c (ha:jE X e te) (hr:jA X es t) (h:zp e=false:=by rfl):jA X (e :: es) (yj te t):=⟨pa_c ha.out hr.out h⟩
theorem yc (h:jA X es t):jE X (.List es pos) (tLst t):=⟨zaQ h.out⟩
theorem zq {x1} (h:jA X es t):jE X (.Tuple es x1 pos) (tTup t):=⟨zaP h.out⟩
theorem yy (hr:jIx X r) (ha:jE X a ta) (hb:jE X b tb) (hs:jj b):jE X (.Subscript a b pos) (tOp r ta tb):=⟨zbY hr.out ha.out hb.out hs⟩
theorem yH:jO X none YQ:=⟨JH⟩
theorem yI (h:jE X e te):jO X (some e) (Q5 te):=⟨JI h.out⟩
theorem yv {r:V->Option Int->Option Int->Hp->VK->Prop} {lo hi:Option Expr} {tl th:TO} (hr:jSl X r) (he:jE X e te) (hl:jO X lo tl) (hu:jO X hi th):jE X (.Subscript e (.Slice lo hi none p2) pos) (tSl r te tl th):=⟨Wv hr.out he.out hl.out hu.out⟩
variable {CX:CXT} {k:Nat} {f C:Addr} {fd:FuncData} {ps:List Str} {sp:Sp} {dvs:List V} {ds:List Value} {E:XK} {id T:String} {rc:List V->Hp->VK->Prop} {rm:V->List V->Hp->VK->Prop}
theorem zb2 (F:FnOk X.prog X.w X.K X.mg X.base CX k f fd ps sp) (hr:Room k X.A) (hg:Gl X x) (hm:X.mg x=some (.ref f)) (hk:PySem.W.keepIn X.K (.ref f)=true) (hb:Binds X.K fd ps ds) (hd:Vals dvs ds) (hx:yk CX X E)
    (ha:jA X (e :: es) t) (hdb:(x == ("__debug__":Str))=false:=by decide) (h1:zp e=false:=by rfl) (h2:es.all (fun e=>!zp e)=true:=by rfl) :
    jE X (.Call (.Name x p) (e :: es) [] pos) (j3 sp dvs E t):=⟨zb0 F hr hg hm hk hb hd hx ha.out hdb h1 h2⟩
theorem x9 (hc:jCa X (.builtin id) rc) (hg:Gl X x) (hm:X.mg x=none) (hv:bootBuiltins x=some (.builtin id)) (ha:jA X (e :: es) t) (hn:x≠"__name__":=by decide) (hdb:(x == ("__debug__":Str))=false:=by decide)
    (h1:zp e=false:=by rfl) (h2:es.all (fun e=>!zp e)=true:=by rfl):jE X (.Call (.Name x p) (e :: es) [] pos) (tCB rc t):=⟨zaY hc.out hg hm hv ha.out hn hdb h1 h2⟩
theorem yn (hc:jCa X (.type T) rc) (hg:Gl X x) (hm:X.mg x=none) (hv:bootBuiltins x=some (.type T)) (ha:jA X (e :: es) t) (hn:x≠"__name__":=by decide) (hdb:(x == ("__debug__":Str))=false:=by decide)
    (h1:zp e=false:=by rfl) (h2:es.all (fun e=>!zp e)=true:=by rfl):jE X (.Call (.Name x p) (e :: es) [] pos) (tCB rc t):=⟨JQ hc.out hg hm hv ha.out hn hdb h1 h2⟩
theorem WG {name:Str} (pa:PlainAttrs T) (slot:Slot T name id) (hty:typeOf (.builtin id)=pure (.type "method_descriptor")) (hm:jMt X id rm) (ho:jE X o to)
    (hbase:attributeBase o name X.env (eval o X.env)=eval o X.env:=by rfl) (hline:(apos.endLine == cpos.line)=true:=by rfl):jE X (.Call (.Attribute o name apos) [] [] cpos) (tBM0 X.K T rm to):=⟨zaV pa slot hty hm.out ho.out hbase hline⟩
theorem y9 {name:Str} (pa:PlainAttrs T) (slot:Slot T name id) (hty:typeOf (.builtin id)=pure (.type "method_descriptor")) (hm:jMt X id rm) (ho:jE X o to) (ha:jA X (e :: es) t)
    (hbase:attributeBase o name X.env (eval o X.env)=eval o X.env:=by rfl)
    (hfew:((backTo cpos (starEach (e :: es) X.env)).all (fun x=>!x.1) && (backToKw cpos (keywordEach [] X.env)).all (fun x=>x.1.isSome)
      && decide ((e :: es).length + ([]:List Keyword).length + (if ([]:List Keyword).isEmpty then 0 else 1) < 30))=true:=by rfl)
    (hline:(apos.endLine == cpos.line)=true:=by rfl) (h1:zp e=false:=by rfl) (h2:es.all (fun e=>!zp e)=true:=by rfl) :
    jE X (.Call (.Attribute o name apos) (e :: es) [] cpos) (tBM X.K T rm to t):=⟨zbZ pa slot hty hm.out ho.out ha.out hbase hfew hline (zB h1) (yh h2)⟩
variable {st:Stmt} {sts:List Stmt} {s1 s2:TS} {tg iter elt:Expr} {g:TG} {wi:TI} {tb1:TS} {ifs:List Expr} {tt:TT}
theorem zw:jSs X [] vK:=⟨Jr⟩
theorem zh (h1:jS X st s1) (h2:jSs X sts s2):jSs X (st :: sts) (tSeq s1 s2):=⟨Wi h1.out h2.out⟩
theorem zj (h1:jS X st s1):jSs X [st] s1:=⟨Js h1.out⟩
theorem zG (he:jE X e te) (hs:swapsWith e none pos.line X.env=pure false:=by rfl):jS X (.Expr e pos) (QW te):=⟨Jt he.out hs⟩
theorem zu (he:jE X e te):jS X (.Return (some e) pos) (tRet te):=⟨zay he.out⟩
theorem zI {A B:List Stmt} (hc:jT X c tA) (ha:jSs X A s1) (hb:jSs X B s2):jS X (.If c A B pos) (tIfS tA s1 s2):=⟨zbR hc.out ha.out hb.out⟩
theorem zaZ {i:Nat} {pos':Pos} (hN:X.N.Nodup) (hi:X.N[i]?=some x) (hx:Loc X.env.scope x) (he:jE X e te) (hs:swapsWith e (some (.Name x pos')) pos.line X.env=pure false:=by rfl)
    (hf:X.fn x=true\/X.env.scope.names.lookup x=some .local:=by first | exact .inl rfl | exact .inr rfl | assumption):jS X (.Assign [.Name x pos'] e pos) (tAsg te (yB i)):=⟨zaC hN hi hx he.out hs hf⟩
theorem za0 (he:jE X e te) (hg:jG X tg g) (hs:swapsWithSole [tg] e pos.line X.env=pure false:=by rfl) (hw:swappedStores [tg] e X.env=pure none:=by rfl) (h1:(assignEach [tg] X.env).map (·.2)=[assign tg X.env]:=by rfl):jS X (.Assign [tg] e pos) (tAsg te g):=⟨zaB he.out hg.out hs hw h1⟩
theorem JT {i:Nat} (hN:X.N.Nodup) (hi:X.N[i]?=some x) (hx:Loc X.env.scope x) (hf:X.fn x=true\/X.env.scope.names.lookup x=some .local:=by first | exact .inl rfl | exact .inr rfl | assumption):jG X (.Name x pos) (yB i):=⟨Ju hN hi hx hf⟩
theorem wK:jGs X [] gNil:=⟨Jv⟩
theorem yw {g:TG} {gs:TGs} (h1:jG X e g) (h2:jGs X es gs) (hs:(assignEach (e :: es) X.env).map (·.2)=assign e X.env :: (assignEach es X.env).map (·.2):=by rfl):jGs X (e :: es) (QX g gs):=⟨Wj h1.out h2.out hs⟩
theorem jo {k:Nat} {gs:TGs} {n:Nat} (hc:X.calm=true) (h:jGs X es gs) (hn:(assignEach es X.env).length=n:=by rfl) (hst:(assignEach es X.env).findIdx? (·.1)=none:=by rfl):jG X (.Tuple es k pos) (gTup X.K n gs):=⟨zaz hc h.out hn hst⟩
theorem yi {l:Expr} {tl:TE} (hl:jE X l tl):jI X tg l (QY X.K tl):=⟨Jw hl.out⟩
theorem xp {l:Expr} {tl:TE} (hl:jE X l tl):jI X tg l (iTup X.K tl):=⟨zaD hl.out⟩
theorem zM (hg:Gl X "range") (hm:X.mg "range"=none) (ha:jA X [a] t) (h:zp a=false:=by rfl):jI X tg (.Call (.Name "range" p) [a] [] pos) (QZ t):=⟨XB hg hm ha.out (zB h)⟩
theorem yd (hp:PassesOwn (model X.prog X.w) X.A X.env X.xe) (hc:X.calm=true) (hi:jI X tg iter wi) (hg:jG X tg g) (hb:jSs X sts tb1) (hs:∀ x,foldedSetIterable iter X.env x=pure x:=by intro _; rfl):jS X (.For tg iter sts [] pos) (tFor wi g tb1):=⟨zaE hp hc hi.out hg.out hb.out hs⟩
theorem wX (hp:PassesOwn (model X.prog X.w) X.A X.env X.xe) (hc:jT X c tA) (hb:jSs X sts tb1):jS X (.While c sts [] pos) (Wk tA tb1):=⟨Wl hp hc.out hb.out⟩
theorem zO:jTs X [] tYes:=⟨JM⟩
theorem JU (h:jT X c tA):jTs X [c] tA:=⟨JN h.out⟩
theorem z0 {scope:Scope} (M:List Str) (hc:X.calm=true) (hi:jI X tg iter wi) (hg:∀ C s H ex E,jG (cxLC X scope (clOf scope X.env) M C s H ex E) tg g) (ht:∀ C s H ex E,jTs (cxLC X scope (clOf scope X.env) M C s H ex E) ifs tt)
    (he:∀ C s H ex E,jE (cxLC X scope (clOf scope X.env) M C s H ex E) elt te) (hs:∀ x,foldedSetIterable iter X.env x=pure x:=by intro _; rfl)
    (h1:closureFor scope X.env=pure (clOf scope X.env):=by with_unfolding_all rfl) (h2:scope.kind=.function:=by rfl) (h3:scope.names.all (fun y=>y.2 != .cell)=true:=by rfl) (h4:scope.names.all (fun y=>y.2 != .local || scope.names.lookup y.1 == some .local)=true:=by rfl)
    (h5:X.N.all (fun y=>scope.names.lookup y != some .local)=true:=by rfl) (h6:scope.names.all (fun p=>p.2 != .free || (((clOf scope X.env).lookup p.1).isSome && (X.env.kindOf p.1 == some .cell || X.env.kindOf p.1 == some .free)))=true:=by rfl) :
    jE X (.ListComp elt [⟨tg,iter,ifs,0⟩] scope pos) (tLC wi g tt te M.length):=⟨JO M hc hi.out (fun C s H ex E=>(hg C s H ex E).out) (fun C s H ex E=>(ht C s H ex E).out) (fun C s H ex E=>(he C s H ex E).out) hs h1 h2 h3 h4 h5 h6⟩
theorem jq {scope:Scope} (M:List Str) {i:Nat} {py spos:Pos} (hN:X.N.Nodup) (hi':X.N[i]?=some y) (hy:Loc X.env.scope y) (hc:X.calm=true) (hi:jI X tg iter wi) (hg:∀ C s H ex E,jG (cxLC X scope (clOf scope X.env) M C s H ex E) tg g)
    (ht:∀ C s H ex E,jTs (cxLC X scope (clOf scope X.env) M C s H ex E) ifs tt) (he:∀ C s H ex E,jE (cxLC X scope (clOf scope X.env) M C s H ex E) elt te) (hs:∀ x,foldedSetIterable iter X.env x=pure x:=by intro _; rfl)
    (hsw:swapsWith (.ListComp elt [⟨tg,iter,ifs,0⟩] scope pos) (some (.Name y py)) spos.line X.env=pure true:=by rfl)
    (hf:X.fn y=true\/X.env.scope.names.lookup y=some .local:=by first | exact .inl rfl | exact .inr rfl | assumption)
    (h1:closureFor scope X.env=pure (clOf scope X.env):=by with_unfolding_all rfl) (h2:scope.kind=.function:=by rfl) (h3:scope.names.all (fun y=>y.2 != .cell)=true:=by rfl) (h4:scope.names.all (fun y=>y.2 != .local || scope.names.lookup y.1 == some .local)=true:=by rfl)
    (h5:X.N.all (fun y=>scope.names.lookup y != some .local)=true:=by rfl) (h6:scope.names.all (fun p=>p.2 != .free || (((clOf scope X.env).lookup p.1).isSome && (X.env.kindOf p.1 == some .cell || X.env.kindOf p.1 == some .free)))=true:=by rfl) :
    jS X (.Assign [.Name y py] (.ListComp elt [⟨tg,iter,ifs,0⟩] scope pos) spos) (fun D σ H=>tLC wi g tt te M.length σ H fun v H1=>D.nx (σ.set i (some v)) H1) :=
  ⟨JP M hN hi' hy hc hi.out (fun C s H ex E=>(hg C s H ex E).out) (fun C s H ex E=>(ht C s H ex E).out) (fun C s H ex E=>(he C s H ex E).out) hs hsw hf h1 h2 h3 h4 h5 h6⟩
theorem WH {scope:Scope} (S:List Nat) (M:List Str) (hc:X.calm=true) (hi:jI X tg iter wi) (hg:∀ C s H ex E,jG (cxLC X scope (clOf scope X.env) M C s H ex E) tg g) (ht:∀ C s H ex E,jTs (cxLC X scope (clOf scope X.env) M C s H ex E) ifs tt)
    (he:∀ C s H ex E,jE (cxLC X scope (clOf scope X.env) M C s H ex E) elt te) (hs:∀ x,foldedSetIterable iter X.env x=pure x:=by intro _; rfl)
    (h1:closureFor scope X.env=pure (clOf scope X.env):=by with_unfolding_all rfl) (h2:scope.kind=.function:=by rfl) (h3:scope.names.all (fun y=>y.2 != .cell)=true:=by rfl) (h4:scope.names.all (fun y=>y.2 != .local || scope.names.lookup y.1 == some .local)=true:=by rfl)
    (h5:X.N.zipIdx.all (fun y=>S.contains y.2 || scope.names.lookup y.1 != some .local)=true:=by rfl) (h6:scope.names.all (fun p=>p.2 != .free || (((clOf scope X.env).lookup p.1).isSome && (X.env.kindOf p.1 == some .cell || X.env.kindOf p.1 == some .free)))=true:=by rfl) :
    jE X (.ListComp elt [⟨tg,iter,ifs,0⟩] scope pos) (tLCS S wi g tt te M.length):=⟨WD S M hc hi.out (fun C s H ex E=>(hg C s H ex E).out) (fun C s H ex E=>(ht C s H ex E).out) (fun C s H ex E=>(he C s H ex E).out) hs h1 h2 h3 h4 h5 h6⟩
theorem ye:jOp X (binaryOp .Add) (rI0 fun i j=>.int (i + j)):=⟨zaF⟩
theorem jr:jOp X (binaryOp .Sub) (rI0 fun i j=>.int (i - j)):=⟨zaG⟩
theorem Yd:jOp X (binaryOp .Mult) (rI CMul fun i j=>.int (i * j)):=⟨zaH⟩
theorem YW:jOp X (binaryOp .FloorDiv) (rI CDiv fun i j=>.int (i / j)):=⟨Jx⟩
theorem xq:jOp X (binaryOp .Mod) (rI (fun _ j=>0 < j) fun i j=>.int (i % j)):=⟨zaI⟩
theorem zR:jOp X (compareOp .Eq) rEq:=⟨zbU⟩
theorem zaa:jOp X (compareOp .NotEq) rNe:=⟨zbV⟩
theorem YX:jOp X (compareOp .Lt) (rI0 fun i j=>.bl (decide (i < j))):=⟨zbW⟩
theorem WI:jOp X (compareOp .Gt) (rI0 fun i j=>.bl (decide (j < i))):=⟨zbX⟩
theorem wb:jOp X (compareOp .In) (rIn X.K false):=⟨XH⟩
theorem xr:jOp X (binaryOp .Add) (fun x y H Q=>∃ i j,x=.str i/\y=.str j/\i.length + j.length<=sizeLine/\Q (.str (i ++ j)) H):=⟨ZX⟩
theorem js:jOp X (binaryOp .Add) rCat:=⟨zaX⟩
theorem JV:jOp X (binaryOp .Add) (Q6 X.K):=⟨JJ⟩
theorem yJ:jIx X (rIxL X.K):=⟨JK⟩
theorem yY:jIx X (rIxT X.K):=⟨zaT⟩
theorem Ye:jIx X rIxS:=⟨zaU⟩
theorem xl:jSl X (rSlL X.K):=⟨JL⟩
theorem zY:jMt X "list.append" YS:=⟨XI⟩
theorem WJ:jMt X "list.pop" rPop:=⟨zaW⟩
theorem XO:jMt X "list.extend" YT:=⟨XJ⟩
theorem Yf:jCa X (.builtin "len") (fun xs H Q=>∃ p ys,xs=[.ref p]/\(SqL X.K H p ys\/SqT X.K H p ys)/\Q (.int ys.length) H):=⟨jn⟩
theorem zP:jCa X (.type "tuple") (fun xs H Q=>∃ p ys,xs=[.ref p]/\((SqL X.K H p ys/\∀ l,H l=none->Q (.ref l) (upd H l (.tup ys)))\/(SqT X.K H p ys/\Q (.ref p) H))):=⟨vH⟩
end
section
variable {P:Program} {w:World} {K:PySem.W.Frag} {mg:Str->Option Value} {base:Heap}
theorem Fun.by {x qual:Str} {st:Stmt} {f:Addr} {fd:FuncData} {N ps:List Str} {k:Nat} {sp:Sp} (F:Fun K x qual st f fd) (S:FnScope N ps (zn st)) (len:∀ vs H Q E,sp vs H Q E->vs.length=ps.length)
    (hbody:∀ (cdv:Value) (A:Around) (outer:List Env) (s:Shared) (H:Hp) (vs:List V) (Q:VK) (E:XK),Room k (A.deeper (envOfC qual (zn st) s.heap.objs.size f cdv))->sp vs H Q E ->
      ∃ t,jSs (cxOf CX0 P w K mg base N qual (zn st) f cdv A outer s H E).nox (zF st) t/\t { nx:=fun _ H'=>Q .non H',rt:=Q } (yE N vs) H):FnOk P w K mg base CX0 (k + 1) f fd ps sp :=
  F.ok S len fun cdv A outer s H vs Q E hr h=>let ⟨t,b,q⟩:=hbody cdv A outer s H vs Q E hr h; ⟨t,b.out,q⟩
end
end L2
namespace L2
open PySem
section
variable {M:Model} {A:Around} {E:Value->Shared->Prop} {s:Shared} {base:Heap} {env:Env} {outer:List Env} {L e T:Addr} {C:Value} {dx:Option Addr} {Q:Unit->Shared->Prop}
end
end L2
namespace L2
open PySem PySem.Spec PyProof.Rows
section
variable {P:Program} {w:World} {K:PySem.W.Frag} {mg:Str->Option Value} {base:Heap} {N:List Str} {qual:Str} {scope:Scope} {f:Addr} {cd:Value} {A:Around} {outer:List Env} {s:Shared} {H:Hp} {E:XK}
end
end L2
namespace L2
open PySem
section
variable {M:Model} {A:Around} {E:Value->Shared->Prop} {env:Env} {nm q:Str} {C N:Addr} {bs bm:List Value} {hdct:Bool} {sn:List Str} {sub:List Value} {ab:Bool} {col:Option Bool} {dd:Option Addr} {k0 k1 k2 k3 k5:Option Value} {newId:String}
end
section
variable {prog:Program} {w:World} {A:Around} {E:Value->Shared->Prop} {h:Heap} {g:Array GenState} {d:Drawn} {t:Nat} {os:OsState}
variable {nm q:Str} {C N f:Addr} {bs bm bmB:List Value} {hdct:Bool} {sn:List Str} {sub:List Value} {ab:Bool} {col:Option Bool} {dd:Option Addr} {k0 k1 k2 k3 k5:Option Value} {B Bn newId nid initId inN:String} {bmN:List Value}
end
end L2
namespace L2
open PySem PySem.W PySem.Calls PyProof.Rows Builtin Builtin.ObjectAttr
def bmV:List Value:=[.type "ValueError",.type "Exception",.type "BaseException",.type "object"]
def zb3:List Value->Bool
  | []=>false
  | v :: r=>(v :: r) == bmV || (match v with
    | .ref _=>zb3 r
    | _=>false)
section
variable {prog:Program} {w:World} {A:Around} {E:Value->Shared->Prop} {K:Frag} {C e:Addr} {s:Shared} {ox:Obj} {od:Option Obj} {name:Str} {R:Result->Shared->Prop}
end
end L2
namespace L2
open PySem PySem.Spec PyProof.Rows
section
variable {X:Cx} {k:Nat} {f C:Addr} {fd:FuncData} {ps:List Str} {sp:Sp} {E:XK} {x:Str} {np cpos pos:Pos} {a:Expr} {as:List Expr} {t:TA}
end
section
variable {X:Cx} {f C R:Addr} {x m:Str} {np apos pos pos':Pos} {a o e value:Expr} {as:List Expr} {t:TA} {ta tv te:TE}
end
section
variable {X:Cx} {pins:List (Addr × Obj)} {σ:St} {H:Hp} {s:Shared} {h':Heap} {xs:List Addr}
end
abbrev Ends.behind (D:Ends) (i:Nat):Ends:={ nx:=fun σ H=>D.nx (σ.set i none) H,rt:=D.rt,bk:=fun σ H=>D.bk (σ.set i none) H,ct:=fun σ H=>D.ct (σ.set i none) H }
section
variable {X:Cx} {Ch:Addr} {x n:Str} {i:Nat} {np hpos tpos:Pos} {b0:Stmt} {suite:List Stmt} {th:Addr->Obj->TS}
variable {k:Nat} {f:Addr} {fd:FuncData} {ps:List Str} {sp:Sp} {y:Str} {p cpos epos:Pos} {a:Expr} {as:List Expr} {t:TA}
end
section
variable {X:Cx} {pins:List (Addr × Obj)} {σ:St} {H:Hp} {s:Shared} {h':Heap}
theorem Inv.turns {t':Nat} {ch:List Addr} (I:Inv X pins σ H s) (k:∀ b o,b ∉ ch->s.heap.get? b=some o->h'.get? b=some o) (hf:∀ b∈ch,FpOk X pins H b):Inv X pins σ H { s with heap:=h',toks:=t' }:=by
  have nit:∀ b u,H b=some u->b ∉ ch:=fun b u e z=>by rw [(hf b z).1] at e; cases e
  refine I.call (g':=s.gens) (d':=s.drawn) (t':=t') (ch:=ch) ⟨fun b o q _ _ x=>k b o x q,fun b o q _ _ x=>⟨o.slots,k b o x q⟩,fun _ _ _ n _=>n,fun b o q x=>⟨o,k b o x q⟩,fun _ _ q=>q,fun _ _ _ q=>q,fun _ ps q=>⟨#[],by rw [q]; simp⟩⟩
    (fun b u e=>(I.hok b u e).stay (fun c v hc q=>k c v ?_ q) (fun _ q=>q) fun _ _ q=>q) I.bare fun b hb=>?_
  · rcases hc with z | z
    · rw [z]; exact nit b u e
    · exact nit c _ z
  · obtain ⟨f0,f1,f2,f3,f4,f5⟩:=hf b hb
    exact ⟨f3,f1,f4,f5⟩
theorem Inv.turnsLaid {t':Nat} {ch:List Addr} {a:Addr} {o:HO} (I:Inv X pins σ H s) (k:∀ b o,b ∉ ch->s.heap.get? b=some o->h'.get? b=some o) (hf:∀ b∈ch,FpOk X pins H b) (hp:s.heap.objs.size<=a) (new:ObjOk X.prog X.w (upd H a o) h' a o) :
    Inv X pins σ (upd H a o) { s with heap:=h',toks:=t' }:=by
  have hn:=I.hok.fresh hp
  have nit:∀ b u,H b=some u->b ∉ ch:=fun b u e z=>by rw [(hf b z).1] at e; cases e
  refine I.call (g':=s.gens) (d':=s.drawn) (t':=t') (ch:=ch) ⟨fun b o q _ _ x=>k b o x q,fun b o q _ _ x=>⟨o.slots,k b o x q⟩,fun b u q n _=>by rw [zg (Nat.ne_of_lt (Nat.lt_of_lt_of_le (Heap.lt_size q) hp))]; exact n,fun b o q x=>⟨o,k b o x q⟩,
      fun b xs q=>by rw [zg (zi q hn)]; exact q,fun b u xs q=>by rw [zg (zi q hn)]; exact q,fun b ps q=>⟨#[],by rw [zg (zi q hn),q]; simp⟩⟩
    (fun b u e=>?_) I.bare fun b hb=>?_
  · by_cases hb:b=a
    · subst hb
      rw [zf] at e
      cases e
      exact new
    · rw [zg hb] at e
      refine (I.hok b u e).stay (fun c v hc q=>k c v ?_ q) (fun c q=>by rw [zg (zi q hn)]; exact q) fun c xs q=>by rw [zg (zi q hn)]; exact q
      rcases hc with z | z
      · rw [z]; exact nit b u e
      · exact nit c _ z
  · obtain ⟨f0,f1,f2,f3,f4,f5⟩:=hf b hb
    exact ⟨f3,f1,f4,f5⟩
end
section
variable {X:Cx} {elts:List Expr} {k:Nat} {tpos:Pos}
end
end L2
namespace L2
open PySem PySem.Spec PyProof.Rows Builtin Builtin.Str
section
variable {X:Cx}
theorem xD:∀ {zs:List Str} {us:List Value},Vals (zs.map V.str) us->∃ l:List (Str × Tok),us=strValues l/\l.map (·.1)=zs
  | [],_,.nil=>⟨[],rfl,rfl⟩
  | z :: zs,_,.cons ⟨t,e⟩ r=>by
    obtain ⟨l,rfl,h⟩:=xD r
    exact ⟨(z,t) :: l,by rw [e]; rfl,by rw [List.map_cons,h]⟩
theorem j8 (sep:Str):∀ (zs:List Str) (a:Nat),zs.foldl (· + ·.length + sep.length) a=a + ((zs.map (·.length)).sum + zs.length * sep.length)
  | [],a=>by simp
  | z :: zs,a=>by
    rw [List.foldl_cons,j8 sep zs]
    simp only [List.map_cons,List.sum_cons,List.length_cons,Nat.add_mul,Nat.one_mul]
    lia
def wide (sep:Str) (zs:List Str):Nat:=(zs.map (·.length)).sum + zs.length * sep.length
def zab (K:PySem.W.Frag):V->List V->Hp->VK->Prop:=fun x vs H Q=>∃ sep p zs,x=.str sep/\vs=[.ref p]/\SqL K H p (zs.map V.str)/\wide sep zs<=sizeLine/\Q (.str (Str.join sep zs)) H
theorem JW:MtR X "str.join" (zab X.K):=by
  intro pins s σ H x vs v us Q I rx rv h
  obtain ⟨sep,p,zs,rfl,rfl,hq,hw,q⟩:=h
  obtain ⟨t,rfl⟩:=rx
  obtain ⟨u,rfl,ru⟩:=rv.one
  cases ru
  obtain ⟨its,r,pl,hz⟩:=I.list hq
  obtain ⟨l,rfl,hl⟩:=xD r
  have big:tooLong ((l.map (·.1)).toArray.foldl (· + ·.length + sep.length) 0)=false:=by
    rw [hl,List.foldl_toArray,j8]
    unfold tooLong
    rw [decide_eq_false_iff_not]
    unfold wide at hw
    lia
  have hg:=size_glued sep zs
  have hle:(glued sep zs).length<=sizeLine:=by
    rw [hg]
    unfold wide at hw
    have:(zs.length - 1) * sep.length<=zs.length * sep.length:=Nat.mul_le_mul_right _ (Nat.sub_le _ _)
    lia
  refine call_meets F.slot_str_join (typeIs_str _ _ _) F.entry_str_join (F.args_str_join_2 _ _) (meets_str_join_list sep t p l big) ⟨pl.isList,?_⟩
  rw [<- StrLaws.glued_eq_join] at q
  match l,hl with
  | [],hl=>exact ⟨by rw [hl]; exact hle,.str _,H,I.tok _,⟨_,rfl⟩,by rw [hl]; exact q⟩
  | [(z,tz)],hl =>
    have e:glued sep zs=z:=by
      rw [<- hl]
      rfl
    rw [e] at q
    exact ⟨.str z,H,I,⟨tz,rfl⟩,q⟩
  | a :: b :: r,hl=>exact ⟨by rw [hl]; exact hle,.str _,H,I.tok _,⟨_,rfl⟩,by rw [hl]; exact q⟩
theorem JX:jMt X "str.join" (zab X.K):=⟨JW⟩
end
end L2
namespace L2
open PySem PySem.Spec PyProof.Rows
def Sq (k:Bool) (h:Heap) (l:Addr) (xs:Array Value):Prop:=match k with
  | true=>h.IsList l xs
  | false=>h.IsTuple l xs
def SqI (k:Bool) (h:Heap) (j l:Addr) (n:Nat):Prop:=match k with
  | true=>h.IsListIter j l n
  | false=>h.IsTupleIter j l n
def SqN (k:Bool):String:=if k then "list_iterator" else "tuple_iterator"
theorem Sq.at {k:Bool} {h h':Heap} {l:Addr} {xs:Array Value} (x:Sq k h l xs) (e:∀ o,h.get? l=some o->h'.get? l=some o):Sq k h' l xs:=by
  cases k <;> obtain ⟨o,ho,r⟩:=x <;> exact ⟨o,e _ ho,r⟩
theorem SqI.at {k:Bool} {h h':Heap} {j l:Addr} {n:Nat} (x:SqI k h j l n) (e:∀ o,h.get? j=some o->h'.get? j=some o):SqI k h' j l n:=by
  cases k <;> obtain ⟨o,ho,r⟩:=x <;> exact ⟨o,e _ ho,r⟩
theorem SqI.ex {k:Bool} {h:Heap} {j l:Addr} {n:Nat} (x:SqI k h j l n):∃ o,h.get? j=some o/\o.cls=.type (SqN k)/\o.data=.fields #[.ref l,.int n 0]:=by
  cases k <;> exact x
theorem SqI.of {k:Bool} {h:Heap} {j l:Addr} {n:Nat} (x:∃ o,h.get? j=some o/\o.cls=.type (SqN k)/\o.data=.fields #[.ref l,.int n 0]):SqI k h j l n:=by
  cases k <;> exact x
section
variable {P:Program} {w:World} {A:Around} {E:Value->Shared->Prop} {s:Shared}
theorem j9 {j l:Addr} {n:Nat} {xs:Array Value} {x:Value} {Q:Value->Shared->Prop} (hj:s.heap.IsTupleIter j l n) (hl:s.heap.IsTuple l xs) (hx:xs[n]?=some x)
    (q:∀ h',h'.IsTupleIter j l (n + 1)->Heap.SameBut j s.heap h'->Q x { s with heap:=h' }):wpAny (model P w) A (Builtin.SmallTypes.nextOf (.ref j)) Q E s:=by
  have ⟨oj,hoj,cj,dj⟩:=hj
  have ⟨ol,hol,_,m,dl⟩:=hl
  unfold Builtin.SmallTypes.nextOf
  refine wpAny_bind (wpAny_callSpecial?_slot hj.typeIs F.slot_tuple_iterator_next (wpAny_call_entry F.slot_tuple_iterator_next hj.typeIs F.entry_tuple_iterator_next ?_ (F.args_tuple_iterator_next_1 (.ref j))))
  refine wpAny_bind (m:=field (.ref j) 0) (wpAny_field hoj dj (x:=.ref l) rfl ?_)
  have nn:¬ ((Value.ref l == Value.none)=true):=Bool.false_ne_true
  show wpAny _ _ (ite ((Value.ref l == Value.none)=true) _ _) _ _ _
  rw [if_neg nn]
  refine wpAny_bind (m:=field (.ref j) 1) (wpAny_field hoj dj (x:=.int n 0) rfl ?_)
  refine wpAny_bind (m:=seqItems? (.ref l)) (wpAny_seqItems hol dl ?_)
  simp only [Int.toNat_natCast,hx]
  refine wpAny_bind (wpAny_setField hoj dj (by simp) (wpAny_pure ⟨x,rfl,wpAny_pure (q _ ⟨_,Heap.get?_update_self _ hoj (Obj.isFreed_of_fields (Obj.data_mapFields dj _)),(Obj.cls_mapFields ..).trans cj,?_⟩ (Heap.SameBut.update ..))⟩))
  rw [Obj.data_mapFields dj]
  simp [rawInt]
theorem YY {j l:Addr} {n:Nat} {xs:Array Value} {Q:Value->Shared->Prop} (hA:A.handled=none) (hj:s.heap.IsTupleIter j l n) (hl:s.heap.IsTuple l xs) (hx:xs[n]?=none)
    (q:∀ h' e,Heap.ExtBut j s.heap h'->(∃ o,h'.get? e=some o/\o.cls=.type "StopIteration")->E (.ref e) { s with heap:=h' }):wpAny (model P w) A (Builtin.SmallTypes.nextOf (.ref j)) Q E s:=by
  have ⟨oj,hoj,cj,dj⟩:=hj
  have ⟨ol,hol,_,m,dl⟩:=hl
  unfold Builtin.SmallTypes.nextOf
  refine wpAny_bind (wpAny_callSpecial?_slot hj.typeIs F.slot_tuple_iterator_next (wpAny_call_entry F.slot_tuple_iterator_next hj.typeIs F.entry_tuple_iterator_next ?_ (F.args_tuple_iterator_next_1 (.ref j))))
  refine wpAny_bind (m:=field (.ref j) 0) (wpAny_field hoj dj (x:=.ref l) rfl ?_)
  have nn:¬ ((Value.ref l == Value.none)=true):=Bool.false_ne_true
  show wpAny _ _ (ite ((Value.ref l == Value.none)=true) _ _) _ _ _
  rw [if_neg nn]
  refine wpAny_bind (m:=field (.ref j) 1) (wpAny_field hoj dj (x:=.int n 0) rfl ?_)
  refine wpAny_bind (m:=seqItems? (.ref l)) (wpAny_seqItems hol dl ?_)
  simp only [Int.toNat_natCast,hx]
  refine wpAny_bind (wpAny_rule (wpAny_bind (wpAny_setField hoj dj (by simp) ?_)))
  refine wpAny_bind (m:=newExc (.type "StopIteration") []) ?_
  unfold newExc newTuple
  refine wpAny_bind (wpAny_newObj_type (wpAny_bind (m:=firstArgMember _ _) (wpAny_of_eq (a:=Value.none) (by first | rfl | (simp only [firstArgMember]; rfl)) (wpAny_newObj_type ?_ (by size_fits)))) (by size_fits))
  unfold raiseNew
  refine wpAny_bind (wpAny_handled ?_)
  rw [show A.in1.handled=none from hA]
  exact wpAny_bind (wpAny_pure (wpAny_throw (q _ _ (((Heap.SameBut.update ..).extBut.push _).push _) ⟨_,Heap.get?_push_size _ rfl,rfl⟩)))
theorem JY {k:Bool} {j l:Addr} {n:Nat} {xs:Array Value} {x:Value} {Q:Value->Shared->Prop} (hj:SqI k s.heap j l n) (hl:Sq k s.heap l xs) (hx:xs[n]?=some x)
    (q:∀ h',SqI k h' j l (n + 1)->Heap.SameBut j s.heap h'->Q x { s with heap:=h' }):wpAny (model P w) A (Builtin.SmallTypes.nextOf (.ref j)) Q E s:=by
  cases k with
  | true=>exact wpAny_nextOf_list_item hj hl hx q
  | false=>exact j9 hj hl hx q
theorem za1 {k:Bool} {j l:Addr} {n:Nat} {xs:Array Value} {Q:Value->Shared->Prop} (hA:A.handled=none) (hj:SqI k s.heap j l n) (hl:Sq k s.heap l xs) (hx:xs[n]?=none)
    (q:∀ h' e,Heap.ExtBut j s.heap h'->(∃ o,h'.get? e=some o/\o.cls=.type "StopIteration")->E (.ref e) { s with heap:=h' }):wpAny (model P w) A (Builtin.SmallTypes.nextOf (.ref j)) Q E s:=by
  cases k with
  | true=>exact wpAny_nextOf_list_end hA hj hl hx q
  | false=>exact YY hA hj hl hx q
theorem YZ {k:Bool} {l:Addr} {xs:Array Value} {Q:Value->Shared->Prop} (hl:Sq k s.heap l xs) (q:Q (.ref s.heap.objs.size) { s with heap:=s.heap.push { cls:=.type (SqN k),data:=.fields #[.ref l,.int 0 0] } }) :
    wpAny (model P w) A (pyIter (.ref l)) Q E s:=by
  cases k with
  | true=>exact wpAny_pyIter_list hl q
  | false=>exact wpAny_pyIter_tuple hl q
end
abbrev za (k:Bool) (h:Heap) (l:Addr):Heap:=h.push { cls:=.type (SqN k),data:=.fields #[.ref l,.int 0 0] }
abbrev zb (k m:Bool) (h:Heap) (l r:Addr):Heap:=za m (za k h l) r
abbrev zc (k m:Bool) (h:Heap) (l r:Addr):Heap:=(zb k m h l r).push { cls:=.type "tuple",data:=.seq #[.ref h.objs.size,.ref (za k h l).objs.size] }
abbrev zd (k m:Bool) (h:Heap) (l r:Addr):Heap:=(zc k m h l r).push { cls:=.type "tuple",data:=.seq #[.none,.none] }
abbrev ze (k m:Bool) (h:Heap) (l r:Addr):Heap:=(zd k m h l r).push { cls:=.type "zip",data:=.fields #[.none,.bool false,.bool false,.ref (zb k m h l r).objs.size,.ref (zc k m h l r).objs.size] }
theorem WK (k m:Bool) (l r:Addr) (xs ys:Array Value):Meets (Builtin.«zip.__new__» ⟨[.type "zip",.ref l,.ref r],[]⟩)
    (fun _ R s=>Sq k s.heap l xs/\Sq m s.heap r ys/\R (.ok (.ret (.ref (zd k m s.heap l r).objs.size))) { s with heap:=ze k m s.heap l r }) :=
  .of_wp fun prog w A R s h=>by
    obtain ⟨hp,g,d,tk,os⟩:=s
    obtain ⟨h1,h2,h⟩:=h
    have hs:=sub_zip
    have q1:Sq k (Shared.heap ⟨hp,g,d,tk,os⟩) l xs:=h1
    have q2:Sq m (Shared.heap ⟨za k hp l,g,d,tk,os⟩) r ys:=h2.at fun o e=>Heap.get?_push_of_some _ e
    wp_walk using YZ q1,YZ q2
    exact ⟨_,rfl,h⟩
structure ZN (zs:List (Bool × Nat)) (h:Heap) (B n:Nat) (f g:Value):Prop where
  z:h.get? (B + zs.length + 2)=some { cls:=.type "zip",data:=.fields #[f,g,.bool false,.ref (B + zs.length),.ref (B + zs.length + 1)] }
  ti:h.get? (B + zs.length)=some { cls:=.type "tuple",data:=.seq ((List.range zs.length).map fun j=>Value.ref (B + j)).toArray }
  to:∃ us:Array Value,us.size=zs.length/\h.get? (B + zs.length + 1)=some { cls:=.type "tuple",data:=.seq us }
  it:∀ (j:Nat) k l,zs[j]?=some (k,l)->SqI k h (B + j) l n
theorem ZN.at {zs:List (Bool × Nat)} {h h':Heap} {B n:Nat} {f g:Value} (x:ZN zs h B n f g) (e:∀ (b:Nat) o,B<=b->b<=B + zs.length + 2->h.get? b=some o->h'.get? b=some o):ZN zs h' B n f g where
  z:=e _ _ (by lia) (by lia) x.z
  ti:=e _ _ (by lia) (by lia) x.ti
  to:=let ⟨us,c,y⟩:=x.to; ⟨us,c,e _ _ (by lia) (by lia) y⟩
  it:=fun j k l hj=>(x.it j k l hj).at fun o=>e _ o (by lia) (by have:=(List.getElem?_eq_some_iff.mp hj).1; lia)
def KeptN (B N:Nat) (h h':Heap):Prop:=∀ (c:Nat) o,(c < B\/B + N + 2 < c)->h.get? c=some o->h'.get? c=some o
def AtN (zs:List (Bool × Nat)) (h:Heap) (B n:Nat) (va:Nat->Option Value):Prop:=∀ (j:Nat) k l,zs[j]?=some (k,l)->l < B/\∃ xs:Array Value,Sq k h l xs/\xs[n]?=va j
structure ZW (zs:List (Bool × Nat)) (h0 h:Heap) (B n j:Nat) (f g:Value) (us:Array Value):Prop where
  z:h.get? (B + zs.length + 2)=some { cls:=.type "zip",data:=.fields #[f,g,.bool false,.ref (B + zs.length),.ref (B + zs.length + 1)] }
  ti:h.get? (B + zs.length)=some { cls:=.type "tuple",data:=.seq ((List.range zs.length).map fun j=>Value.ref (B + j)).toArray }
  ts:us.size=zs.length
  to:h.get? (B + zs.length + 1)=some { cls:=.type "tuple",data:=.seq us }
  it:∀ (i:Nat) k l,zs[i]?=some (k,l)->SqI k h (B + i) l (if i < j then n + 1 else n)
  kp:KeptN B zs.length h0 h
  sz:h.objs.size=h0.objs.size
theorem ZW.next {zs:List (Bool × Nat)} {h0 h h2:Heap} {B n j l:Nat} {k:Bool} {f g:Value} {us:Array Value} (W:ZW zs h0 h B n j f g us) (hj:zs[j]?=some (k,l)) (i2:SqI k h2 (B + j) l (n + 1)) (u2:Heap.SameBut (B + j) h h2):ZW zs h0 h2 B n (j + 1) f g us:=by
  have jl:=(List.getElem?_eq_some_iff.mp hj).1
  have k2:∀ (c:Nat) o,c≠B + j->h.get? c=some o->h2.get? c=some o:=fun c o n e=>(u2.2 c n).trans e
  refine ⟨k2 _ _ (by lia) W.z,k2 _ _ (by lia) W.ti,W.ts,k2 _ _ (by lia) W.to,fun i k' l' hi=>?_,fun c o hc e=>k2 _ _ (by lia) (W.kp c o hc e),by rw [u2.1,W.sz]⟩
  by_cases c:i=j
  · subst c
    rw [hj] at hi
    cases hi
    rw [if_pos (Nat.lt_succ_self _)]
    exact i2
  · simp only [Nat.lt_succ_iff_lt_or_eq,c,or_false]
    exact (W.it i k' l' hi).at fun o e=>k2 _ o (by lia) e
theorem ZW.done {zs:List (Bool × Nat)} {h0 h h9:Heap} {B n j:Nat} {f g f' g':Value} {us:Array Value} (W:ZW zs h0 h B n zs.length f g us) (k9:∀ (c:Nat) o,c≠B + zs.length + 2->h.get? c=some o->h9.get? c=some o) (z9:h9.get? (B + zs.length + 2)=some { cls:=.type "zip",data:=.fields #[f',g',.bool false,.ref (B + zs.length),.ref (B + zs.length + 1)] }):ZN zs h9 B (n + 1) f' g' :=
  ⟨z9,k9 _ _ (by lia) W.ti,⟨us,W.ts,k9 _ _ (by lia) W.to⟩,fun i k l hi=>by
    have il:=(List.getElem?_eq_some_iff.mp hi).1
    have e:=W.it i k l hi
    rw [if_pos il] at e
    exact e.at fun o e=>k9 _ o (by lia) e⟩
theorem WL {α:Type} {L rest:List α} {x:α} {j:Nat} (hr:x :: rest=L.drop j):∃ jl:j < L.length,x=L[j]/\rest=L.drop (j + 1):=by
  rcases Nat.lt_or_ge j L.length with c | c
  · rw [List.drop_eq_getElem_cons c] at hr
    injection hr with e1 e2
    exact ⟨c,e1,e2⟩
  · rw [List.drop_of_length_le c] at hr
    cases hr
section
variable {P:Program} {w:World} {A:Around} {E:Value->Shared->Prop} {s:Shared} {zs:List (Bool × Nat)} {B:Nat} {n:Nat} {f g:Value} {va:Nat->Option Value}
theorem WM {a:Addr} {o:Obj} {Q:Option Obj->Shared->Prop} (ho:s.heap.get? a=some o) (h:Q (some o) s):wpAny (model P w) A (loadIfAlive a) Q E s:=fun Γ p _=>by
  unfold loadIfAlive
  rw [Sem.wp_loadIfAlive,ho]
  simpa using h
def ZF (B N:Nat) (h:Heap) (f g:Value):Prop:=f=.none\/∃ (T:Nat) (c:Bool) (o:Obj),f=rawInt T/\g=.bool c/\h.get? T=some o/\B + N + 3 < T
theorem zipN {Q:Value->Shared->Prop} (hA:A.handled=none) (Z:ZN zs s.heap B n f g) (hf:ZF B zs.length s.heap f g) (hz:0 < zs.length) (hs:zs.length<=sizeLine) (hq:AtN zs s.heap B n va)
    (q:∀ h' us (T:Nat) (c:Bool),us.size=zs.length->(∀ i,i < zs.length->us[i]?=va i)->ZN zs h' B (n + 1) (rawInt T) (.bool c)->(T=s.heap.objs.size/\f=.none/\c=false\/f=rawInt T/\B + zs.length + 3 < T/\∃ o,s.heap.get? T=some o)->h'.get? s.heap.objs.size=some { cls:=.type "tuple",data:=.seq us }->h'.objs.size=s.heap.objs.size + 1->KeptN B zs.length s.heap h'->Q (.ref s.heap.objs.size) { s with heap:=h' })
    (qe:∀ h' e j,j < zs.length->va j=none->KeptN B zs.length s.heap h'->(∃ o,h'.get? e=some o/\o.cls=.type "StopIteration")->E (.ref e) { s with heap:=h' }) :
    wpAny (model P w) A (Builtin.«zip.__next__» ⟨[.ref (B + zs.length + 2)],[]⟩) (fun fin s'=>∃ v,fin=.done (.ret v)/\Q v s') E s:=by
  obtain ⟨us0,hu0,hto⟩:=Z.to
  refine wpAny_bind (m:=field (.ref (B + zs.length + 2)) 2) (wpAny_field Z.z rfl (x:=.bool false) rfl ?_)
  refine wpAny_bind (m:=field (.ref (B + zs.length + 2)) 3) (wpAny_field Z.z rfl (x:=.ref (B + zs.length)) rfl (wpAny_bind (wpAny_seqItems Z.ti rfl ?_)))
  have ne:((List.range zs.length).map fun j=>Value.ref (B + j)).toArray.isEmpty=false:=by
    rw [Array.isEmpty_eq_false_iff_exists_mem]
    exact ⟨.ref (B + 0),by simp; exact hz⟩
  show wpAny _ _ (if ((List.range zs.length).map fun j=>Value.ref (B + j)).toArray.isEmpty=true then _ else _) _ _ _
  rw [ne,if_neg Bool.false_ne_true]
  have W0:∀ {h1:Heap} {f' g':Value},h1.get? (B + zs.length + 2)=some { cls:=.type "zip",data:=.fields #[f',g',.bool false,.ref (B + zs.length),.ref (B + zs.length + 1)] }->h1.objs.size=s.heap.objs.size->(∀ (c:Nat) o,c≠B + zs.length + 2->s.heap.get? c=some o->h1.get? c=some o)->ZW zs s.heap h1 B n 0 f' g' us0:=fun z1 s1 k1=>⟨z1,k1 _ _ (by lia) Z.ti,hu0,k1 _ _ (by lia) hto,fun i k l hi=>by
    rw [if_neg (Nat.not_lt_zero _)]
    exact (Z.it i k l hi).at fun o=>k1 _ o (by have:=(List.getElem?_eq_some_iff.mp hi).1; lia),fun c o hc=>k1 c o (by lia),s1⟩
  have draw:∀ {h:Heap} {j:Nat} {f' g':Value} {us:Array Value} {R:Value->Shared->Prop} {E':Value->Shared->Prop},ZW zs s.heap h B n j f' g' us->j < zs.length->(∀ v h2,va j=some v->ZW zs s.heap h2 B n (j + 1) f' g' us->R v { s with heap:=h2 })->(∀ h2 e,va j=none->(∀ (c:Nat) o,c≠B + j->h.get? c=some o->h2.get? c=some o)->(∃ o,h2.get? e=some o/\o.cls=.type "StopIteration")->E' (.ref e) { s with heap:=h2 })->∀ A':Around,A'.handled=none->wpAny (model P w) A' (Builtin.SmallTypes.nextOf (.ref (B + j))) R E' { s with heap:=h }:=by
    intro h j f' g' us R E' W jl r re A' hA'
    obtain ⟨⟨k,l⟩,hkl⟩:∃ p,zs[j]?=some p:=⟨_,List.getElem?_eq_getElem jl⟩
    obtain ⟨ll,xs,hl,hv⟩:=hq j k l hkl
    have hl':Sq k h l xs:=hl.at fun o=>W.kp _ o (.inl ll)
    have it:=W.it j k l hkl
    rw [if_neg (Nat.lt_irrefl _)] at it
    cases e1:va j with
    | none=>exact za1 (s:={ s with heap:=h }) hA' it hl' (hv.trans e1) fun h2 e u2 he=>re h2 e e1 u2 he
    | some v=>exact JY (s:={ s with heap:=h }) it hl' (hv.trans e1) fun h2 i2 u2=>r v h2 e1 (W.next hkl i2 u2)
  rcases hf with rfl | ⟨T,c,ot,rfl,rfl,hT,lT⟩
  · refine wpAny_bind (m:=Builtin.SmallTypes.ownedTupleIsFree (.ref (B + zs.length + 2))) ?_
    unfold Builtin.SmallTypes.ownedTupleIsFree
    refine wpAny_bind (wpAny_field Z.z rfl (x:=.none) rfl (wpAny_pure ?_))
    rw [if_pos rfl]
    refine wpAny_bind (wpAny_rule (wpAny_bind (wpAny_field Z.z rfl (x:=.ref (B + zs.length + 1)) rfl (wpAny_bind (wpAny_setField_rec Z.z (by simp) fun h1 z1 u1=>wpAny_bind ?_)))))
    refine wpAny_forIn_list _ (fun rest b s'=>b=(none,())/\∃ j us h,rest=((((List.range zs.length).map fun j=>Value.ref (B + j)).toArray).toList.zipIdx).drop j/\j<=zs.length/\s'={ s with heap:=h }/\ZW zs s.heap h B n j .ellipsis g us/\∀ i,i < j->us[i]?=va i) _ ?step ?done _ _ ⟨rfl,0,us0,h1,rfl,Nat.zero_le _,rfl,W0 z1 u1.1 fun c o n e=>(u1.2 c n).trans e,fun i hi=>absurd hi (Nat.not_lt_zero _)⟩
    case step =>
      rintro x rest b s' ⟨rfl,j,us,h,hr,hj,rfl,W,hva⟩
      obtain ⟨jl,rfl,rfl⟩:=WL hr
      have jl:j < zs.length:=by simpa using jl
      simp only [List.getElem_zipIdx,List.getElem_map,List.getElem_range,Nat.zero_add]
      refine wpAny_bind (wpAny_onRaise (wpAny_bind (m:=Builtin.SmallTypes.nextOf (.ref (B + j))) (draw W jl (fun v h2 e1 W2=>wpAny_pure ?_) (fun h2 e e1 k2 he=>?_) _ hA)))
      · refine wpAny_bind (wpAny_seqItems W2.to rfl (wpAny_bind (wpAny_updateSeq W2.to rfl (wpAny_bind (wpAny_letGo (wpAny_pure ⟨rfl,j + 1,us.setIfInBounds j v,_,rfl,jl,rfl,?_,fun i hi=>?_⟩))) (by rw [W.ts]; exact hs) (by rw [Array.size_setIfInBounds,W.ts]; lia))))
        · have k3:∀ (c:Nat) o,c≠B + zs.length + 1->h2.get? c=some o->(h2.update (B + zs.length + 1) (Obj.mapSeq (·.setIfInBounds j v))).get? c=some o:=fun c o n e=>(Heap.get?_update_other _ _ (Ne.symm n)).trans e
          exact ⟨k3 _ _ (by lia) W2.z,k3 _ _ (by lia) W2.ti,by rw [Array.size_setIfInBounds,W.ts],by (show (h2.update _ _).get? _=_); rw [Heap.get?_update_self _ W2.to rfl]; simp [Obj.mapSeq],fun i k' l' hi=>(W2.it i k' l' hi).at fun o e=>k3 _ o (by have:=(List.getElem?_eq_some_iff.mp hi).1; lia) e,fun c o hc e=>k3 _ _ (by lia) (W2.kp c o hc e),by rw [Heap.size_update]; exact W2.sz⟩
        · rw [Array.getElem?_setIfInBounds]
          by_cases c:j=i
          · rw [if_pos c,if_pos (by rw [W.ts]; lia),<- c,e1]
          · rw [if_neg c]
            exact hva i (by lia)
      · obtain ⟨oe,he,ce⟩:=he
        have z2:=k2 _ _ (show B + zs.length + 2≠B + j by lia) W.z
        have ne:e≠B + zs.length + 2:=fun x=>by
          rw [x,z2] at he
          cases he
          simp at ce
        exact wpAny_setField_rec z2 (by simp) fun h3 z3 u3=>qe h3 e j jl e1 (fun c o hc x=>(u3.2 c (show (c:Nat)≠B + zs.length + 2 by lia)).trans (k2 c o (show (c:Nat)≠B + j by lia) (W.kp c o hc x))) ⟨oe,(u3.2 e ne).trans he,ce⟩
    case done =>
      rintro b s' ⟨rfl,j,us,h,hr,hj,rfl,W,hva⟩
      have je:j=zs.length:=by
        have:=congrArg List.length hr
        simp at this
        lia
      subst je
      refine wpAny_bind (wpAny_seqItems W.to rfl (wpAny_bind (wpAny_newTuple (hsz:=by simp [W.ts]; exact hs) ?_)))
      have lt5:B + zs.length + 2 < h.objs.size:=Heap.lt_size W.z
      refine wpAny_bind (m:=Builtin.SmallTypes.ownedTupleHandOut (.ref (B + zs.length + 2)) (.ref h.objs.size)) ?_
      unfold Builtin.SmallTypes.ownedTupleHandOut
      refine wpAny_bind (wpAny_setField_rec (Heap.get?_push_of_some { cls:=.type "tuple",data:=.seq us } W.z) (by simp) fun h8 z8 u8=>?_)
      refine wpAny_setField_rec z8 (by simp) fun h9 z9 u9=>wpAny_pure ⟨.ref h.objs.size,rfl,?_⟩
      have k9:∀ (c:Nat) o,c≠B + zs.length + 2->h.get? c=some o->h9.get? c=some o:=fun c o n e=>(u9.2 c n).trans ((u8.2 c n).trans (Heap.get?_push_of_some _ e))
      have p9:h9.get? h.objs.size=some { cls:=.type "tuple",data:=.seq us }:=(u9.2 _ (Nat.ne_of_gt lt5)).trans ((u8.2 _ (Nat.ne_of_gt lt5)).trans (Heap.get?_push_size _ rfl))
      have s9:h9.objs.size=h.objs.size + 1:=by rw [u9.1,u8.1,Heap.size_push]
      have Z9:=W.done (j:=0) k9 z9
      rw [W.sz] at p9 s9 Z9 ⊢
      exact q h9 us _ false W.ts hva Z9 (.inl ⟨rfl,rfl,rfl⟩) p9 s9 fun c o hc e=>k9 _ _ (by lia) (W.kp c o hc e)
  · have held:∀ {Q':Bool->Shared->Prop},(∀ h1,ZW zs s.heap h1 B n 0 (rawInt T) (.bool true) us0->Q' false { s with heap:=h1 })->wpAny (model P w) A (Builtin.SmallTypes.ownedTupleIsFree (.ref (B + zs.length + 2))) Q' E s:=by
      intro Q' qq
      unfold Builtin.SmallTypes.ownedTupleIsFree
      refine wpAny_bind (wpAny_field Z.z rfl (x:=rawInt T) rfl ?_)
      refine wpAny_bind (m:=loadIfAlive ((T:Int).toNat)) (WM (o:=ot) (by rw [Int.toNat_natCast]; exact hT) ?_)
      rw [if_neg (by simp)]
      refine wpAny_bind (wpAny_field Z.z rfl (x:=.bool c) rfl ?_)
      cases c with
      | true =>
        rw [if_neg (by decide)]
        exact wpAny_pure (qq _ (W0 Z.z rfl fun d o _ e=>e))
      | false =>
        rw [if_pos (by decide)]
        exact wpAny_bind (wpAny_setField_rec Z.z (by simp) fun h1 z1 u1=>wpAny_pure (qq h1 (W0 z1 u1.1 fun d o n e=>(u1.2 d n).trans e)))
    refine wpAny_bind (m:=Builtin.SmallTypes.ownedTupleIsFree (.ref (B + zs.length + 2))) (held fun h1 W1=>?_)
    rw [if_neg Bool.false_ne_true]
    refine wpAny_bind ?_
    rw [<- Array.forIn_toList]
    refine wpAny_forIn_list _ (fun rest b s'=>b.1=none/\∃ j h,rest=((((List.range zs.length).map fun j=>Value.ref (B + j)).toArray).toList).drop j/\j<=zs.length/\s'={ s with heap:=h }/\ZW zs s.heap h B n j (rawInt T) (.bool true) us0/\b.2.size=j/\∀ i,i < j->b.2[i]?=va i) _ ?step ?done _ _ ⟨rfl,0,h1,rfl,Nat.zero_le _,rfl,W1,rfl,fun i hi=>absurd hi (Nat.not_lt_zero _)⟩
    case step =>
      rintro x rest ⟨b,items⟩ s' ⟨hb,j,h,hr,hj,rfl,W,bs,hva⟩
      obtain ⟨jl,rfl,rfl⟩:=WL hr
      have jl:j < zs.length:=by simpa using jl
      simp only [List.getElem_map,List.getElem_range]
      refine wpAny_bind (wpAny_holding (wpAny_bind (m:=Builtin.SmallTypes.nextOf (.ref (B + j))) (draw W jl (fun v h2 e1 W2=>wpAny_pure ?_) (fun h2 e e1 k2 he=>qe h2 e j jl e1 (fun c o hc x=>k2 c o (show (c:Nat)≠B + j by lia) (W.kp c o hc x)) he) _ hA)))
      refine wpAny_pure ⟨rfl,j + 1,_,rfl,jl,rfl,W2,?_,fun i hi=>?_⟩
      · show (items.push v).size=_
        rw [Array.size_push,bs]
      · show (items.push v)[i]?=_
        rw [Array.getElem?_push]
        by_cases c:i=items.size
        · rw [if_pos c,c,bs,e1]
        · rw [if_neg c]
          exact hva i (by have:items.size=j:=bs; lia)
    case done =>
      rintro ⟨b,items⟩ s' ⟨hb,j,h,hr,hj,rfl,W,bs,hva⟩
      have je:j=zs.length:=by
        have:=congrArg List.length hr
        simp at this
        lia
      subst je
      cases hb
      have bs:items.size=zs.length:=bs
      refine wpAny_bind (wpAny_newTuple (hsz:=by simp [bs]; exact hs) (wpAny_pure ⟨.ref h.objs.size,rfl,?_⟩))
      have p5:(h.push { cls:=.type "tuple",data:=.seq items }).get? h.objs.size=some { cls:=.type "tuple",data:=.seq items }:=Heap.get?_push_size _ rfl
      have s5:(h.push { cls:=.type "tuple",data:=.seq items }).objs.size=h.objs.size + 1:=Heap.size_push ..
      have k5:∀ (c:Nat) o,h.get? c=some o->(h.push { cls:=.type "tuple",data:=.seq items }).get? c=some o:=fun c o e=>Heap.get?_push_of_some _ e
      rw [W.sz] at p5 s5 ⊢
      exact q _ items T true bs hva (W.done (j:=0) (fun c o _ e=>k5 c o e) (k5 _ _ W.z)) (.inr ⟨rfl,lT,ot,hT⟩) p5 s5 fun c o hc e=>k5 _ _ (W.kp c o hc e)
theorem Y0 {Q:Option Value->Shared->Prop} (hA:A.handled=none) (Z:ZN zs s.heap B n f g) (hf:ZF B zs.length s.heap f g) (hz:0 < zs.length) (hs:zs.length<=sizeLine) (hq:AtN zs s.heap B n va)
    (q:∀ h' us (T:Nat) (c:Bool),us.size=zs.length->(∀ i,i < zs.length->us[i]?=va i)->ZN zs h' B (n + 1) (rawInt T) (.bool c)->(T=s.heap.objs.size/\f=.none/\c=false\/f=rawInt T/\B + zs.length + 3 < T/\∃ o,s.heap.get? T=some o)->h'.get? s.heap.objs.size=some { cls:=.type "tuple",data:=.seq us }->h'.objs.size=s.heap.objs.size + 1->KeptN B zs.length s.heap h'->Q (some (.ref s.heap.objs.size)) { s with heap:=h' })
    (qe:∀ h' j,j < zs.length->va j=none->KeptN B zs.length s.heap h'->Q none { s with heap:=h' }):wpAny (model P w) A (pyNext (.ref (B + zs.length + 2))) Q E s:=by
  have ty:s.TypeIs (.ref (B + zs.length + 2)) "zip":=⟨_,Z.z,rfl⟩
  unfold pyNext
  refine wpAny_bind (wpAny_attempt (wpAny_callSpecial?_slot ty F.slot_zip_next (wpAny_call_entry F.slot_zip_next ty F.entry_zip_next ?_ (F.args_zip_next_1 (.ref (B + zs.length + 2))))))
  refine zipN hA Z hf hz hs hq (fun h' us T c h1 h2 h3 h4 h5 h6 h7=>wpAny_pure (q h' us T c h1 h2 h3 h4 h5 h6 h7)) fun h' e j jl hv kz ⟨o,ho,hc⟩=>?_
  exact wpAny_bind (wpAny_isInstance (T:="StopIteration") (b:=true) ⟨o,ho,hc⟩ isSubtype_stop (wpAny_pure (qe _ j jl hv kz)))
end
abbrev ZS (k m:Bool) (h:Heap) (B l r:Nat) (n:Nat) (f g:Value):Prop:=ZN [(k,l),(m,r)] h B n f g
section
variable {P:Program} {w:World} {A:Around} {E:Value->Shared->Prop} {s:Shared} {k m:Bool} {B l r:Nat} {n:Nat} {xs ys:Array Value} {x y f g:Value}
theorem WN {Q:Value->Shared->Prop} (hl:Sq k s.heap l xs) (hr:Sq m s.heap r ys)
    (q:∀ h',ZS k m h' s.heap.objs.size l r 0 .none (.bool false)->h'.objs.size=s.heap.objs.size + 5->(∀ c o,s.heap.get? c=some o->h'.get? c=some o)->Q (.ref (s.heap.objs.size + 4)) { s with heap:=h' }) :
    wpAny (model P w) A (call (.type "zip") [.ref l,.ref r]) Q E s:=by
  apply callType_new F.called_zip (by decide) (F.typeCall_zip_2 _ _) (F.newCall_zip_2 _ _) (fun obj=>F.args_object_init_3 obj _ _) F.entry_zip_new (WK k m l r xs ys)
  refine ⟨hl,hr,?_⟩
  have s1:(za k s.heap l).objs.size=s.heap.objs.size + 1:=Heap.size_push ..
  have s2:(zb k m s.heap l r).objs.size=s.heap.objs.size + 2:=by rw [Heap.size_push,s1]
  have s3:(zc k m s.heap l r).objs.size=s.heap.objs.size + 3:=by rw [Heap.size_push,s2]
  have s4:(zd k m s.heap l r).objs.size=s.heap.objs.size + 4:=by rw [Heap.size_push,s3]
  have s5:(ze k m s.heap l r).objs.size=s.heap.objs.size + 5:=by rw [Heap.size_push,s4]
  have up:∀ {c o},(zd k m s.heap l r).get? c=some o->(ze k m s.heap l r).get? c=some o:=fun e=>Heap.get?_push_of_some _ e
  have p5:(ze k m s.heap l r).get? (zd k m s.heap l r).objs.size=some _:=Heap.get?_push_size _ rfl
  have p4:(ze k m s.heap l r).get? (zc k m s.heap l r).objs.size=some _:=up (Heap.get?_push_size _ rfl)
  have p3:(ze k m s.heap l r).get? (zb k m s.heap l r).objs.size=some _:=up (Heap.get?_push_of_some _ (Heap.get?_push_size _ rfl))
  have p2:(ze k m s.heap l r).get? (za k s.heap l).objs.size=some _:=up (Heap.get?_push_of_some _ (Heap.get?_push_of_some _ (Heap.get?_push_size _ rfl)))
  have p1:(ze k m s.heap l r).get? s.heap.objs.size=some _:=up (Heap.get?_push_of_some _ (Heap.get?_push_of_some _ (Heap.get?_push_of_some _ (Heap.get?_push_size _ rfl))))
  rw [s4,s2,s3] at p5
  rw [s3] at p4
  rw [s2,s1] at p3
  rw [s1] at p2
  show _/\_
  rw [s4]
  exact ⟨⟨_,p5,rfl⟩,q _ ⟨p5,p3,⟨_,rfl,p4⟩,fun j k' l' hj=>by
    match j,hj with
    | 0,hj=>cases hj; exact .of ⟨_,p1,rfl,rfl⟩
    | 1,hj=>cases hj; exact .of ⟨_,p2,rfl,rfl⟩⟩ s5 fun c o e=>up (Heap.get?_push_of_some _ (Heap.get?_push_of_some _ (Heap.get?_push_of_some _ (Heap.get?_push_of_some _ e))))⟩
end
section
variable {P:Program} {w:World} {A:Around} {R:Result->Shared->Prop} {h0:Heap} {k m:Bool} {B l r N:Nat} {xs ys:Array Value} {res:Value}
end
section
variable {P:Program} {w:World} {A:Around} {E:Value->Shared->Prop} {s:Shared} {k m:Bool} {B l r N:Nat} {xs ys:Array Value}
end
section
variable {X:Cx} {a b:Expr} {ta:TA} {p1 p2 pos1 pos2:Pos}
end
def SqK (k:Bool) (K:PySem.W.Frag) (H:Hp) (a:Addr) (xs:List V):Prop:=match k with
  | true=>SqL K H a xs
  | false=>SqT K H a xs
theorem Inv.sqk {X:Cx} {pins:List (Addr × Obj)} {σ:St} {H:Hp} {s:Shared} {k:Bool} {a:Addr} {xs:List V} (I:Inv X pins σ H s) (h:SqK k X.K H a xs):∃ its:List Value,Vals xs its/\Sq k s.heap a its.toArray/\xs.length<=sizeLine/\(a:Nat) < s.heap.objs.size:=by
  cases k with
  | true =>
    obtain ⟨its,r,p,z⟩:=I.list h
    have ⟨o,n,e,_⟩:=p
    exact ⟨its,r,p.isList,z,Heap.lt_size e⟩
  | false =>
    obtain ⟨its,r,p,z⟩:=I.tuple h
    have ⟨o,e,_⟩:=p
    exact ⟨its,r,p,z,Heap.lt_size e⟩
theorem Inv.sqk_inj {X:Cx} {pins:List (Addr × Obj)} {σ:St} {H:Hp} {s:Shared} {k:Bool} {a:Addr} {xs ys:List V} (I:Inv X pins σ H s) (h:SqK k X.K H a xs) (h':SqK k X.K H a ys):xs=ys:=by
  cases k with
  | true=>exact I.list_inj h h'
  | false=>exact I.tuple_inj h h'
def ItN (K:PySem.W.Frag) (zs:List (Bool × Addr)):It :=
  ⟨fun i H=>∃ vs:List V,vs.length=zs.length/\∀ (j:Nat) k a,zs[j]?=some (k,a)->∃ xs,SqK k K H a xs/\xs[i]?=vs[j]?,
   fun i H v H'=>∃ T vs,v=.ref T/\H T=none/\H'=upd H T (.tup vs)/\vs.length=zs.length/\∀ (j:Nat) k a xs,zs[j]?=some (k,a)->SqK k K H a xs->xs[i]?=vs[j]?,
   fun i H=>(∀ (j:Nat) k a,zs[j]?=some (k,a)->∃ xs,SqK k K H a xs)/\∃ (j:Nat) (k:Bool) (a:Addr) (xs:List V),zs[j]?=some (k,a)/\SqK k K H a xs/\xs.length<=i⟩
def fpN (B N:Nat):List Nat:=(List.range (N + 3)).map (B + ·)
theorem fpN_iff {B N c:Nat}:c∈fpN B N↔B<=c/\c<=B + N + 2:=by
  unfold fpN
  rw [List.mem_map]
  exact ⟨fun ⟨i,hi,e⟩=>by have:=List.mem_range.mp hi; lia,fun h=>⟨c - B,List.mem_range.mpr (by lia),by lia⟩⟩
theorem KeptN.of {B N:Nat} {h h':Heap} (z:KeptN B N h h'):∀ (b:Nat) o,b ∉ fpN B N->h.get? b=some o->h'.get? b=some o:=fun b o n e=>z b o (by rw [fpN_iff] at n; lia) e
theorem Y1 {zs:List (Bool × Nat)} {h:Heap} {B n:Nat} {f g:Value} (Z:ZN zs h B n f g):∀ b∈fpN B zs.length,∃ o,h.get? b=some o/\∀ v,o.data≠.cell v:=by
  intro b hb
  rw [fpN_iff] at hb
  obtain ⟨us,_,e2⟩:=Z.to
  rcases (show b < B + zs.length\/b=B + zs.length\/b=B + zs.length + 1\/b=B + zs.length + 2 by lia) with c | rfl | rfl | rfl
  · obtain ⟨o,e,_,d⟩:=(Z.it (b - B) _ _ (List.getElem?_eq_getElem (by lia))).ex
    exact ⟨o,by rw [show b=B + (b - B) by lia]; exact e,fun v z=>by rw [d] at z; cases z⟩
  · exact ⟨_,Z.ti,fun v z=>by cases z⟩
  · exact ⟨_,e2,fun v z=>by cases z⟩
  · exact ⟨_,Z.z,fun v z=>by cases z⟩
theorem WO {α β:Type} {R:α->β->Prop}:∀ l:List α,(∀ (j:Nat) a,l[j]?=some a->∃ b,R a b)->∃ m:List β,∀ (j:Nat) a,l[j]?=some a->∃ b,m[j]?=some b/\R a b
  | [],_=>⟨[],fun j a h=>by simp at h⟩
  | a :: l,h=>by
    obtain ⟨b,hb⟩:=h 0 a rfl
    obtain ⟨m,hm⟩:=WO l fun j a h'=>h (j + 1) a (by simpa using h')
    refine ⟨b :: m,fun j a' h'=>?_⟩
    cases j with
    | zero=>cases h'; exact ⟨b,rfl,hb⟩
    | succ j=>exact hm j a' (by simpa using h')
theorem Y2:∀ {xs:List V} {us:List Value},xs.length=us.length->(∀ (j:Nat) x u,xs[j]?=some x->us[j]?=some u->RelV x u)->Vals xs us
  | [],[],_,_=>.nil
  | [],_ :: _,h,_=>by simp at h
  | _ :: _,[],h,_=>by simp at h
  | x :: xs,u :: us,h,g=>.cons (g 0 x u rfl rfl) (Y2 (by simpa using h) fun j a b h1 h2=>g (j + 1) a b (by simpa using h1) (by simpa using h2))
theorem WP {P:Program} {w:World} {K:PySem.W.Frag} {elts:List Expr} {n:Nat} {pos:Pos} {zs:List (Bool × Addr)} {B:Nat} (hz:0 < zs.length) (hs:zs.length<=sizeLine) (la:∀ (j:Nat) k a,zs[j]?=some (k,a)->(a:Nat) < B) :
    Turn P w K (.Tuple elts n pos) (ItN K zs) (fpN B zs.length) (B + zs.length + 2) (fun i h=>ZN zs h B i .none (.bool false)) where
  mem:=fpN_iff.mpr ⟨by lia,by lia⟩
  obj:=fun i h st=>Y1 st
  keep:=fun i h h' st kp=>st.at fun c o h1 h2 e=>kp c (fpN_iff.mpr ⟨h1,h2⟩) o e
  item:=by
    intro X hP hw hK hc i pins s σ H E I hf st hg
    subst hP hw hK
    obtain ⟨vs,vl,hv⟩:=hg
    obtain ⟨m,hm⟩:=WO (R:=fun p (q:List V × List Value)=>SqK p.1 X.K H p.2 q.1/\Vals q.1 q.2/\Sq p.1 s.heap p.2 q.2.toArray) zs fun j p hj=>by
      obtain ⟨xs,h1,_⟩:=hv j p.1 p.2 hj
      obtain ⟨its,v1,q1,_⟩:=I.sqk h1
      exact ⟨(xs,its),h1,v1,q1⟩
    have at_:AtN zs s.heap B i fun j=>(m[j]?).bind fun q=>q.2[i]?:=fun j k a hj=>by
      obtain ⟨q,e1,_,_,e2⟩:=hm j (k,a) hj
      exact ⟨la j k a hj,_,e2,by (show _=(m[j]?).bind _); rw [e1]; simp⟩
    refine Y0 (I.ok.hd hc) st (.inl rfl) hz hs at_ (fun h' us T c h1 h2 h3 h4 h5 h6 h7=>⟨_,rfl,?_⟩) fun h' j jl hn _=>?_
    · rcases h4 with ⟨rfl,_,rfl⟩ | ⟨z,_⟩
      · have new:ObjOk X.prog X.w (upd H s.heap.objs.size (.tup vs)) h' s.heap.objs.size (.tup vs):=by
          refine ⟨by rw [vl]; exact hs,us.toList,Y2 (vl.trans (h1.symm.trans Array.length_toList.symm)) fun j x u e1 e2=>?_,⟨_,h5,rfl,rfl,_,rfl⟩⟩
          have jl:j < zs.length:=by rw [<- vl]; exact (List.getElem?_eq_some_iff.mp e1).1
          obtain ⟨xs,g1,g2⟩:=hv j _ _ (List.getElem?_eq_getElem jl)
          obtain ⟨q,f1,f2,f3,_⟩:=hm j _ (List.getElem?_eq_getElem jl)
          rw [I.sqk_inj g1 f2,e1] at g2
          obtain ⟨u',f4,f5⟩:=f3.get g2
          rw [Array.getElem?_toList,h2 j jl,f1,Option.bind_some,f4] at e2
          cases e2
          exact f5
        have I1:Inv X pins σ (upd H s.heap.objs.size (.tup vs)) { s with heap:=h' }:=I.turnsLaid (t':=s.toks) (ch:=fpN B zs.length) h7.of hf (Nat.le_refl _) new
        have hn:∀ c∈fpN B zs.length,upd H s.heap.objs.size (.tup vs) c=none:=fun c hc=>by
          obtain ⟨o,e,_⟩:=Y1 st c hc
          rw [zg (Nat.ne_of_lt (Heap.lt_size e))]
          exact (hf c hc).1
        refine wpAny_letOwnedTupleGo_zip h3.z fun h8 z2 u2=>?_
        have I2:Inv X pins σ (upd H s.heap.objs.size (.tup vs)) { s with heap:=h8 }:=Inv.turns (s:={ s with heap:=h' }) (t':=s.toks) (ch:=fpN B zs.length) I1 (fun c o hc e=>(u2.2 c fun z=>hc (by rw [z]; exact fpN_iff.mpr ⟨by lia,by lia⟩)).trans e) fun c hc=>⟨hn c hc,(hf c hc).2⟩
        have up:∀ (c:Nat) o,c≠B + zs.length + 2->h'.get? c=some o->h8.get? c=some o:=fun c o n e=>(u2.2 c n).trans e
        refine ⟨.ref s.heap.objs.size,_,I2,rfl,⟨_,vs,rfl,I.fresh,rfl,vl,fun j k a xs hj hx=>?_⟩,⟨z2,up _ _ (by lia) h3.ti,let ⟨us,c,e⟩:=h3.to; ⟨us,c,up _ _ (by lia) e⟩,fun j k a hj=>(h3.it j k a hj).at fun o e=>up _ _ (by have:=(List.getElem?_eq_some_iff.mp hj).1; lia) e⟩,hn⟩
        obtain ⟨xs',g1,g2⟩:=hv j k a hj
        rw [I.sqk_inj hx g1]
        exact g2
      · unfold rawInt at z
        cases z
    · obtain ⟨xs,g1,g2⟩:=hv j _ _ (List.getElem?_eq_getElem jl)
      obtain ⟨q,f1,f2,f3,_⟩:=hm j _ (List.getElem?_eq_getElem jl)
      obtain ⟨v,hw⟩:∃ v,vs[j]?=some v:=⟨_,List.getElem?_eq_getElem (by lia)⟩
      rw [I.sqk_inj g1 f2,hw] at g2
      obtain ⟨u',f4,f5⟩:=f3.get g2
      rw [f1,Option.bind_some,f4] at hn
      cases hn
  done:=by
    intro X hP hw hK hc i pins s σ H E I hf st hg
    subst hP hw hK
    obtain ⟨hv,j0,k0,a0,x0,hj0,hx0,hl0⟩:=hg
    obtain ⟨m,hm⟩:=WO (R:=fun p (q:List V × List Value)=>SqK p.1 X.K H p.2 q.1/\Vals q.1 q.2/\Sq p.1 s.heap p.2 q.2.toArray) zs fun j p hj=>by
      obtain ⟨xs,h1⟩:=hv j p.1 p.2 hj
      obtain ⟨its,v1,q1,_⟩:=I.sqk h1
      exact ⟨(xs,its),h1,v1,q1⟩
    have at_:AtN zs s.heap B i fun j=>(m[j]?).bind fun q=>q.2[i]?:=fun j k a hj=>by
      obtain ⟨q,e1,_,_,e2⟩:=hm j (k,a) hj
      exact ⟨la j k a hj,_,e2,by (show _=(m[j]?).bind _); rw [e1]; simp⟩
    refine Y0 (I.ok.hd hc) st (.inl rfl) hz hs at_ (fun h' us T c h1 h2 h3 h4 h5 h6 h7=>?_) fun h' j jl hn kz=>⟨rfl,I.turns (t':=s.toks) (ch:=fpN B zs.length) kz.of hf⟩
    have jl:=(List.getElem?_eq_some_iff.mp hj0).1
    obtain ⟨q,f1,f2,f3,_⟩:=hm j0 _ hj0
    have f4:=f3.length
    have e:=h2 j0 jl
    rw [<- I.sqk_inj hx0 f2] at f4
    rw [f1,Option.bind_some,List.getElem?_eq_none (by lia),Array.getElem?_eq_none_iff] at e
    lia
  self:=fun _ _ _ _ _ st h=>by
    have ty:Shared.TypeIs _ (.ref (B + zs.length + 2)) "zip":=⟨_,st.z,rfl⟩
    exact wpAny_pyIter_slot ty F.slot_zip_iter (wpAny_call_entry F.slot_zip_iter ty F.entry_zip_iter (wpAny_pure ⟨_,rfl,"zip",_,ty,F.slot_zip_next.lookup,h⟩) (F.args_zip_iter_1 (.ref (B + zs.length + 2))))
abbrev Itz (K:PySem.W.Frag) (k m:Bool) (a b:Addr):It:=ItN K [(k,a),(m,b)]
section
variable {K:PySem.W.Frag} {k m e:Bool} {a b c:Addr} {xs ys zs:List V} {i:Nat} {x y z v:V} {H H':Hp}
theorem go2 (q1:SqK k K H a xs) (q2:SqK m K H b ys) (hx:xs[i]?=some x) (hy:ys[i]?=some y):(Itz K k m a b).go i H:=⟨[x,y],rfl,fun j k' a' hj=>by
  match j,hj with
  | 0,hj=>cases hj; exact ⟨xs,q1,hx⟩
  | 1,hj=>cases hj; exact ⟨ys,q2,hy⟩⟩
theorem zb4 (q1:SqK k K H a xs) (q2:SqK m K H b ys) (h:xs.length<=i):(Itz K k m a b).stop i H:=⟨fun j k' a' hj=>by
  match j,hj with
  | 0,hj=>cases hj; exact ⟨xs,q1⟩
  | 1,hj=>cases hj; exact ⟨ys,q2⟩,0,k,a,xs,rfl,q1,h⟩
theorem yld2 (h:(Itz K k m a b).yld i H v H') (q1:SqK k K H a xs) (q2:SqK m K H b ys):∃ T x y,v=.ref T/\H T=none/\H'=upd H T (.tup [x,y])/\xs[i]?=some x/\ys[i]?=some y:=by
  obtain ⟨T,vs,h1,h2,h3,h4,h5⟩:=h
  obtain ⟨x,vs,rfl⟩:=List.exists_cons_of_length_eq_add_one h4
  obtain ⟨y,vs,rfl⟩:=List.exists_cons_of_length_eq_add_one (Nat.succ.inj h4)
  rw [List.length_eq_zero_iff.mp (Nat.succ.inj (Nat.succ.inj h4))] at h3 h5
  exact ⟨T,x,y,h1,h2,h3,h5 0 k a xs rfl q1,h5 1 m b ys rfl q2⟩
end
section
variable {X:Cx} {elts:List Expr} {n:Nat} {tpos:Pos}
def iZip (K:PySem.W.Frag) (ta:TA):TI:=fun σ H R=>ta σ H fun vs H1=>∃ a b k m xs ys,vs=[.ref a,.ref b]/\SqK k K H1 a xs/\SqK m K H1 b ys/\R (Itz K k m a b) H1
theorem za2 {a b:Expr} {ta:TA} {p pos:Pos} (hg:Gl X "zip") (hm:X.mg "zip"=none) (ha:PA X [a,b] ta) (h1:starEach [a,b] X.env=[(false,eval a X.env),(false,eval b X.env)]:=by rfl) (h2:starEach [b] X.env=[(false,eval b X.env)]:=by rfl) :
    PI X (.Tuple elts n tpos) (.Call (.Name "zip" p) [a,b] [] pos) (iZip X.K ta):=by
  intro pins s σ H R I h
  refine Call_ (x6 I hg hm boot_zip (PyProof.Rows.callWith_type1 (thn (ha pos pins s σ H _ I h) fun us s1 g=>?_) (by rw [h1,h2]) (by rw [h2]; rfl)))
  obtain ⟨vs,H1,I1,r1,a1,b1,k,m,xs,ys,rfl,g1,g2,q⟩:=g
  obtain ⟨u,u',rfl,e1,e2⟩:=Q2 r1
  cases e1
  cases e2
  obtain ⟨i1,v1,q1,z1,l1⟩:=I1.sqk g1
  obtain ⟨i2,v2,q2,z2,l2⟩:=I1.sqk g2
  refine WN q1 q2 fun h' Z sz kp=>?_
  have tz:=WP (P:=X.prog) (w:=X.w) (K:=X.K) (elts:=elts) (n:=n) (pos:=tpos) (zs:=[(k,a1),(m,b1)]) (B:=s1.heap.objs.size) (by show 0 < 2; decide) sN2 fun j k' a' hj=>by
    match j,hj with
    | 0,hj=>cases hj; exact l1
    | 1,hj=>cases hj; exact l2
  refine tz.self X.A 0 { s1 with heap:=h' } _ _ Z ⟨s1.heap.objs.size + 4,_,_,_,H1,rfl,I1.kept (t':=s1.toks) kp,tz,Z,fun c hc=>?_,q⟩
  have le:s1.heap.objs.size<=c:=(fpN_iff.mp hc).1
  exact I1.fpOk le (I1.hok.fresh le)
theorem za3 {a b:Expr} {t:TA} {p pos:Pos} (hg:Gl X "zip") (hm:X.mg "zip"=none) (ha:jA X [a,b] t) (h1:zp a=false:=by rfl) (h2:zp b=false:=by rfl):jI X (.Tuple elts n tpos) (.Call (.Name "zip" p) [a,b] [] pos) (iZip X.K t) :=
  ⟨za2 hg hm ha.out (by rw [zB h1,zB h2]; rfl) (by rw [zB h2]; rfl)⟩
end
structure Ca (P:Program) (w:World) (K:PySem.W.Frag) (mg:Str->Option Value) (base:Heap) (CX:CXT) (k:Nat) (x:Str) (ps:List Str) (sp:Sp):Prop where
  ex:∃ f fd,FnOk P w K mg base CX k f fd ps sp/\Binds K fd ps []/\PySem.W.keepIn K (.ref f)=true/\mg x=some (.ref f)
structure Me (P:Program) (w:World) (K:PySem.W.Frag) (mg:Str->Option Value) (base:Heap) (CX:CXT) (k:Nat) (C:Addr) (m:Str) (ps:List Str) (sp:Sp):Prop where
  ex:∃ f fd,FnOk P w K mg base CX k f fd ps sp/\Binds K fd ps []/\Meth K C m f
structure Ma (P:Program) (w:World) (K:PySem.W.Frag) (mg:Str->Option Value) (base:Heap) (CX:CXT) (k:Nat) (x:Str) (C:Addr) (ps:List Str) (sp:Sp):Prop where
  ex:∃ f fd,Mk K C f/\FnOk P w K mg base CX k f fd ps sp/\Binds K fd ps []/\mg x=some (.ref C)
section
variable {P:Program} {w:World} {K:PySem.W.Frag} {mg:Str->Option Value} {base:Heap} {CX:CXT} {k j:Nat} {x m:Str} {C:Addr} {ps:List Str} {sp sp':Sp}
end
section
variable {X:Cx} {CX:CXT} {k i:Nat} {C:Addr} {ps:List Str} {sp:Sp} {E:XK} {x m n f:Str} {p pos apos cpos np pos' epos hpos tpos:Pos} {e o a value:Expr} {es as:List Expr} {ta te tv to t1 t2:TE} {t:TA}
theorem zb5 (F:Ca X.prog X.w X.K X.mg X.base CX k x ps sp) (hr:Room k X.A) (hg:Gl X x) (hx:yk CX X E) (ha:jA X (e :: es) t) (hdb:(x == ("__debug__":Str))=false:=by decide) (h1:zp e=false:=by rfl) (h2:es.all (fun e=>!zp e)=true:=by rfl) :
    jE X (.Call (.Name x p) (e :: es) [] pos) (j3 sp [] E t):=let ⟨_,_,G,b,kp,mg⟩:=F.ex; zb2 G hr hg mg kp b .nil hx ha hdb h1 h2
theorem Za {pl:Sem Bool} (he:jE X o ta) (c:Cls X.K C) (F:Me X.prog X.w X.K X.mg X.base CX k C m ps sp) (hr:Room k X.A) (hx:yk CX X E) (ha:jA X (e :: es) t) (h1:zp e=false:=by rfl) (h2:es.all (fun e=>!zp e)=true:=by rfl)
    (ht:eval (.Call (.Attribute o m apos) (e :: es) [] pos) X.env=(do
      let ov <- eval o X.env
      standAt apos.atName
      let (f,first) <- holding [ov] (getMethod ov m pl)
      callWith pos f first (backTo pos (starEach (e :: es) X.env)) (backToKw pos (keywordEach [] X.env))):=by rfl) :
    jE X (.Call (.Attribute o m apos) (e :: es) [] pos) (Q3 C m sp [] E ta t):=let ⟨_,_,G,b,mt⟩:=F.ex; ⟨JF he.out c mt G hr b .nil hx ha.out (zB h1) (yh h2) ht⟩
theorem zac (F:Ma X.prog X.w X.K X.mg X.base CX k x C ps sp) (hr:Room (k + 1) X.A) (hg:Gl X x) (hx:yk CX X E) (ha:jA X (e :: es) t) (hdb:(x == ("__debug__":Str))=false:=by decide) (h1:zp e=false:=by rfl) (h2:es.all (fun e=>!zp e)=true:=by rfl) :
    jE X (.Call (.Name x p) (e :: es) [] pos) (YN C sp [] E t):=let ⟨_,_,M,G,b,mg⟩:=F.ex; ⟨JG M G hr hg mg b .nil hx ha.out hdb (zB h1) (yh h2)⟩
theorem yr (he:jE X e ta) (hb:attributeBase e f X.env (eval e X.env)=eval e X.env:=by rfl):jE X (.Attribute e f pos) (tFld X.K ta f):=⟨zaM he.out hb⟩
theorem wc (ha:jE X o ta) (hv:jE X value tv) (hs:swapsWith value (some (.Attribute o f pos')) pos.line X.env=pure false:=by rfl):jS X (.Assign [.Attribute o f pos'] value pos) (sFld X.K ta tv f):=⟨zaN ha.out hv.out hs⟩
end
end L2
namespace L2
open PySem
section
variable {X:Cx} {x:Str} {pos p q p2:Pos}
theorem jA1 {e1:Expr} {t1:TE} (h1:jE X e1 t1) (s1:zp e1=false:=by rfl):jA X [e1] (yj t1 tNil):=(ja_c h1 zS s1)
theorem jA2 {e1:Expr} {t1:TE} {e2:Expr} {t2:TE} (h1:jE X e1 t1) (h2:jE X e2 t2) (s1:zp e1=false:=by rfl) (s2:zp e2=false:=by rfl):jA X [e1,e2] (yj t1 (yj t2 tNil)):=(ja_c h1 (ja_c h2 zS s2) s1)
theorem jA3 {e1:Expr} {t1:TE} {e2:Expr} {t2:TE} {e3:Expr} {t3:TE} (h1:jE X e1 t1) (h2:jE X e2 t2) (h3:jE X e3 t3) (s1:zp e1=false:=by rfl) (s2:zp e2=false:=by rfl) (s3:zp e3=false:=by rfl):jA X [e1,e2,e3] (yj t1 (yj t2 (yj t3 tNil))):=(ja_c h1 (ja_c h2 (ja_c h3 zS s3) s2) s1)
theorem jA4 {e1:Expr} {t1:TE} {e2:Expr} {t2:TE} {e3:Expr} {t3:TE} {e4:Expr} {t4:TE} (h1:jE X e1 t1) (h2:jE X e2 t2) (h3:jE X e3 t3) (h4:jE X e4 t4) (s1:zp e1=false:=by rfl) (s2:zp e2=false:=by rfl) (s3:zp e3=false:=by rfl) (s4:zp e4=false:=by rfl):jA X [e1,e2,e3,e4] (yj t1 (yj t2 (yj t3 (yj t4 tNil)))):=(ja_c h1 (ja_c h2 (ja_c h3 (ja_c h4 zS s4) s3) s2) s1)
theorem jA6 {e1:Expr} {t1:TE} {e2:Expr} {t2:TE} {e3:Expr} {t3:TE} {e4:Expr} {t4:TE} {e5:Expr} {t5:TE} {e6:Expr} {t6:TE} (h1:jE X e1 t1) (h2:jE X e2 t2) (h3:jE X e3 t3) (h4:jE X e4 t4) (h5:jE X e5 t5) (h6:jE X e6 t6) (s1:zp e1=false:=by rfl) (s2:zp e2=false:=by rfl) (s3:zp e3=false:=by rfl) (s4:zp e4=false:=by rfl) (s5:zp e5=false:=by rfl) (s6:zp e6=false:=by rfl):jA X [e1,e2,e3,e4,e5,e6] (yj t1 (yj t2 (yj t3 (yj t4 (yj t5 (yj t6 tNil)))))):=(ja_c h1 (ja_c h2 (ja_c h3 (ja_c h4 (ja_c h5 (ja_c h6 zS s6) s5) s4) s3) s2) s1)
theorem cA {k:Nat} {ps:List Str} {sp:Sp} {e:Expr} {es:List Expr} {t:TA} (F:Ca X.prog X.w X.K X.mg X.base CX0 k x ps sp) (hr:Room k X.A) (ha:jA X (e :: es) t) (hg:Gl X x:=by rfl) (hdb:(x == ("__debug__":Str))=false:=by decide) (h1:zp e=false:=by rfl) (h2:es.all (fun e=>!zp e)=true:=by rfl):jE X (.Call (.Name x p) (e :: es) [] pos) (j3 sp [] E0 t):=zb5 F hr hg xc ha hdb h1 h2
theorem xX {r:R2} {a b:Expr} {ta tb:TE} (hr:jIx X r) (ha:jE X a ta) (hb:jE X b tb) (hs:jj b:=by exact fun _ _=>rfl):jE X (.Subscript a b pos) (tOp r ta tb):=yy hr ha hb hs
theorem xT (i:Nat) {n j} (hN:X.N[i]?=some x:=by rfl) (hv:Vis X.env.scope x:=by first | exact Or.inl rfl | exact Or.inr (Or.inl rfl) | exact Or.inr (Or.inr rfl)) (hd:(x == ("__debug__":Str))=false:=by decide) (hcd:(x == ("__classdict__":Str))=false:=by decide):jE X (.Subscript (.Name x p) (.Constant (.int n) j q) pos) (tOp (rIxT X.K) (tVar i) (tC (.int n))):=yy yY (jv i hN hv hd hcd) zo (fun _ _=>rfl)
theorem xL (i:Nat) {n j} (hN:X.N[i]?=some x:=by rfl) (hv:Vis X.env.scope x:=by first | exact Or.inl rfl | exact Or.inr (Or.inl rfl) | exact Or.inr (Or.inr rfl)) (hd:(x == ("__debug__":Str))=false:=by decide) (hcd:(x == ("__classdict__":Str))=false:=by decide):jE X (.Subscript (.Name x p) (.Constant (.int n) j q) pos) (tOp (rIxL X.K) (tVar i) (tC (.int n))):=yy yJ (jv i hN hv hd hcd) zo (fun _ _=>rfl)
theorem sE {e:Expr} {te:TE} (i:Nat) (hN:X.N.Nodup) (he:jE X e te) (hi:X.N[i]?=some x:=by rfl) (hx:Loc X.env.scope x:=by first | exact Or.inl rfl | exact Or.inr rfl) (hs:swapsWith e (some (.Name x q)) pos.line X.env=pure false:=by rfl) (hf:X.fn x=true\/X.env.scope.names.lookup x=some .local:=by first | exact .inl rfl | exact .inr rfl | assumption):jS X (.Assign [.Name x q] e pos) (tAsg te (yB i)):=zaZ hN hi hx he hs hf
theorem gN (i:Nat) (hN:X.N.Nodup) (hi:X.N[i]?=some x:=by rfl) (hx:Loc X.env.scope x:=by first | exact Or.inl rfl | exact Or.inr rfl) (hf:X.fn x=true\/X.env.scope.names.lookup x=some .local:=by first | exact .inl rfl | exact .inr rfl | assumption):jG X (.Name x pos) (yB i):=JT hN hi hx hf
theorem tN {op:CmpOp} {r:R2} {a c:Expr} {ta tb:TE} (ho:jOp X (compareOp op) r) (ha:jE X a ta) (hb:jE X c tb) (hm:behindInMarks op c=false:=by exact yX _):jT X (.Compare a [op] [c] pos) (Wp (tOp r ta tb)):=wJ ho ha hb hm
theorem jL {e:Expr} {te:TE} (hm:X.mg "len"=none) (h:jE X e te) (hg:Gl X "len":=by rfl) (h1:zp e=false:=by rfl):jE X (.Call (.Name "len" p) [e] [] pos) (tCB (fun xs H Q=>∃ p ys,xs=[.ref p]/\(SqL X.K H p ys\/SqT X.K H p ys)/\Q (.int ys.length) H) (yj te tNil)):=x9 Yf hg hm PySem.boot_len (ja_c h zS h1) (by decide) (by decide) h1 rfl
theorem aB {p q:Prop} [Decidable p] (h:¬ p:=by decide):p->q:=fun c=>absurd c h
end
end L2
namespace L2
open PySem PySem.Spec PySem.Calls PyProof.Rows
section
variable {P:Program} {w:World} {A:Around} {E:Value->Shared->Prop} {s:Shared} {K:PySem.W.Frag}
end
section
variable {X:Cx} {e C:Addr} {oe:Obj} {ex:Expr} {te:TE} {name:Str} {pos:Pos} {f:Addr}
end
section
variable {X:Cx} {Ch:Addr} {x n:Str} {i k:Nat} {np hpos tpos:Pos} {b0:Stmt} {suite:List Stmt} {th:Addr->Obj->TS} {ps:List Str} {sp:Sp} {y:Str} {p cpos epos:Pos} {a:Expr} {as:List Expr} {t:TA}
end
end L2
namespace L2
open PySem PySem.Spec PyProof.Rows
section
variable {P:Program} {w:World} {A:Around} {E:Value->Shared->Prop}
end
section
variable {X:Cx} {pos:Pos}
end
end L2
namespace L2
open PySem
theorem zW:sizeLine=16777216:=by decide
def FnIn (K:PySem.W.Frag) (x qual:Str) (st:Stmt) (f:Addr):Prop:=∃ (oc:Value) (od:Option Addr) (kV doc pm:Value) (an:Option Addr) (cdv ct:Value) (osl:Array (Option Value)),K.lookup f=some ⟨oc,od,.func (PySem.W.fnOf x qual (zN st) (zF st) (zn st) .none kV doc pm an cdv ct),osl⟩/\PySem.W.codeIn K cdv qual=true/\PySem.W.keepIn K (.ref f)=true
theorem FnIn.fn {K:PySem.W.Frag} {x qual:Str} {st:Stmt} {f:Addr} (h:FnIn K x qual st f):∃ fd,Fun K x qual st f fd/\PySem.W.keepIn K (.ref f)=true:=by
  obtain ⟨_,_,_,_,_,_,_,_,_,l,c,k⟩:=h
  exact ⟨_,WB l c k,k⟩
def DfIn (K:PySem.W.Frag) (x:Str) (st:Stmt):Prop:=∃ f,PySem.W.nsIn K mainGlobals x=some (some (.ref f))/\FnIn K x x st f
def MeIn (K:PySem.W.Frag) (C:Addr) (x qual:Str) (st:Stmt):Prop:=∃ f,PySem.W.findIn K (.ref C) x=some (some (.ref f))/\PySem.W.isFn K (.ref f)=true/\FnIn K x qual st f
theorem MeIn.me {P:Program} {w:World} {K:PySem.W.Frag} {mg:Str->Option Value} {base:Heap} {CX:CXT} {k:Nat} {C:Addr} {x qual:Str} {st:Stmt} {ps:List Str} {sp:Sp} (h:MeIn K C x qual st) (hb:∀ (kV doc pm:Value) (an:Option Addr) (cdv ct:Value) (us:List Value),us.length=ps.length->bindArgs (PySem.W.fnOf x qual (zN st) (zF st) (zn st) .none kV doc pm an cdv ct) ⟨us,[]⟩=pure (ps.zip us))
    (ok:∀ f fd,Fun K x qual st f fd->FnOk P w K mg base CX k f fd ps sp):Me P w K mg base CX k C x ps sp:=by
  obtain ⟨f,a,n,g⟩:=h
  obtain ⟨fd,F,kp⟩:=g.fn
  exact ⟨f,fd,ok f fd F,F.binds hb,a,n,kp⟩
theorem MeIn.ma {P:Program} {w:World} {K:PySem.W.Frag} {mg:Str->Option Value} {base:Heap} {CX:CXT} {k:Nat} {C:Addr} {x qual:Str} {st:Stmt} {ps:List Str} {sp:Sp} (h:MeIn K C "__init__" qual st) (hb:∀ (kV doc pm:Value) (an:Option Addr) (cdv ct:Value) (us:List Value),us.length=ps.length->bindArgs (PySem.W.fnOf "__init__" qual (zN st) (zF st) (zn st) .none kV doc pm an cdv ct) ⟨us,[]⟩=pure (ps.zip us))
    (mk:PySem.W.makesIn K C=true) (kp:PySem.W.keepIn K (.ref C)=true) (hm:mg x=some (.ref C)) (ok:∀ f fd,Fun K "__init__" qual st f fd->FnOk P w K mg base CX k f fd ps sp):Ma P w K mg base CX k x C ps sp:=by
  obtain ⟨f,a,n,g⟩:=h
  obtain ⟨fd,F,_⟩:=g.fn
  exact ⟨f,fd,⟨mk,a,n,kp⟩,ok f fd F,F.binds hb,hm⟩
theorem DfIn.ca {P:Program} {w:World} {K:PySem.W.Frag} {mg:Str->Option Value} {base h:Heap} {CX:CXT} {k:Nat} {x:Str} {st:Stmt} {ps:List Str} {sp:Sp} (X:K.In h) (G:h.Ns mainGlobals mg) (d:DfIn K x st) (hb:∀ (kV doc pm:Value) (an:Option Addr) (cdv ct:Value) (us:List Value),us.length=ps.length->bindArgs (PySem.W.fnOf x x (zN st) (zF st) (zn st) .none kV doc pm an cdv ct) ⟨us,[]⟩=pure (ps.zip us))
    (ok:∀ f fd,Fun K x x st f fd->FnOk P w K mg base CX k f fd ps sp):Ca P w K mg base CX k x ps sp:=by
  obtain ⟨f,a,g⟩:=d
  obtain ⟨fd,F,kp⟩:=g.fn
  exact ⟨f,fd,ok f fd F,F.binds hb,kp,PySem.W.mg_of X G a⟩
theorem DfIn.mk {K:PySem.W.Frag} {x:Str} {st:Stmt} {f:Addr} {oc:Value} {od:Option Addr} {kV doc pm:Value} {an:Option Addr} {cdv ct:Value} {osl:Array (Option Value)} (a:PySem.W.nsIn K mainGlobals x=some (some (.ref f))) (l:K.lookup f=some ⟨oc,od,.func (PySem.W.fnOf x x (zN st) (zF st) (zn st) .none kV doc pm an cdv ct),osl⟩) (c:PySem.W.codeIn K cdv x=true) (k:PySem.W.keepIn K (.ref f)=true):DfIn K x st:=⟨f,a,oc,od,kV,doc,pm,an,cdv,ct,osl,l,c,k⟩
theorem MeIn.mk {K:PySem.W.Frag} {C:Addr} {x qual:Str} {st:Stmt} {f:Addr} {oc:Value} {od:Option Addr} {kV doc pm:Value} {an:Option Addr} {cdv ct:Value} {osl:Array (Option Value)} (a:PySem.W.findIn K (.ref C) x=some (some (.ref f))) (l:K.lookup f=some ⟨oc,od,.func (PySem.W.fnOf x qual (zN st) (zF st) (zn st) .none kV doc pm an cdv ct),osl⟩) (c:PySem.W.codeIn K cdv qual=true) (k:PySem.W.keepIn K (.ref f)=true) (n:PySem.W.isFn K (.ref f)=true):MeIn K C x qual st:=⟨f,a,n,oc,od,kV,doc,pm,an,cdv,ct,osl,l,c,k⟩
structure OwnIn (K:PySem.W.Frag) (x:Str) (C:Addr):Prop where
  n:PySem.W.nsIn K mainGlobals x=some (some (.ref C))
  pg:PySem.W.plainGet K C Str.empty=true
  hd:PySem.W.hasDictIn K C=true
  po:PySem.W.plainOver K C=true
  sa:PySem.W.findIn K (.ref C) "__setattr__"=some (some (.builtin "object.__setattr__"))
  mks:PySem.W.makesIn K C=true
  kp:PySem.W.keepIn K (.ref C)=true
theorem OwnIn.cls {K:PySem.W.Frag} {x:Str} {C:Addr} (o:OwnIn K x C):Cls K C:=⟨o.pg,o.hd,o.po,o.sa⟩
theorem usS {n:Nat} {p:List Value->Prop} (h:∀ a us,us.length=n->p (a :: us)):∀ us:List Value,us.length=n + 1->p us:=fun us=>by
  cases us with
  | nil=>exact fun e=>by cases e
  | cons a r=>exact fun e=>h a r (Nat.succ.inj e)
theorem us1 {p:List Value->Prop} (h:∀ a,p [a]):∀ us:List Value,us.length=1->p us:=usS fun a us e=>by rw [List.length_eq_zero_iff.mp e]; exact h a
theorem us2 {p:List Value->Prop} (h:∀ a b,p [a,b]):∀ us:List Value,us.length=2->p us:=usS fun a=>us1 (p:=fun l=>p (a :: l)) (h a)
theorem us3 {p:List Value->Prop} (h:∀ a b c,p [a,b,c]):∀ us:List Value,us.length=3->p us:=usS fun a=>us2 (p:=fun l=>p (a :: l)) (h a)
theorem us4 {p:List Value->Prop} (h:∀ a b c d,p [a,b,c,d]):∀ us:List Value,us.length=4->p us:=usS fun a=>us3 (p:=fun l=>p (a :: l)) (h a)
theorem us5 {p:List Value->Prop} (h:∀ a b c d e,p [a,b,c,d,e]):∀ us:List Value,us.length=5->p us:=usS fun a=>us4 (p:=fun l=>p (a :: l)) (h a)
theorem us6 {p:List Value->Prop} (h:∀ a b c d e f,p [a,b,c,d,e,f]):∀ us:List Value,us.length=6->p us:=usS fun a=>us5 (p:=fun l=>p (a :: l)) (h a)
section
variable {a b c d e u:TS} {D:Ends} {σ:List (Option V)} {H:Hp}
theorem ixT {K:PySem.W.Frag} {Q:VK} {p:Addr} {xs:List V} {i:Int} {v:V} (h:H p=some (.tup xs)) (a:atI xs i=some v) (q:Q v H):tC (.int i) σ H fun y H2=>rIxT K (.ref p) y H2 Q:=⟨p,xs,i,v,rfl,rfl,SqT.of h,a,q⟩
theorem ixL {K:PySem.W.Frag} {Q:VK} {p:Addr} {xs:List V} {i:Int} {v:V} (h:H p=some (.lst xs)) (a:atI xs i=some v) (q:Q v H):tC (.int i) σ H fun y H2=>rIxL K (.ref p) y H2 Q:=⟨p,xs,i,v,rfl,rfl,SqL.of h,a,q⟩
theorem nxtC {E:Ends} (h:E.nx σ H):vK E σ H:=h
end
theorem cutD {t:TS} {D:Ends} {σ:St} {H:Hp} {P:St->Hp->Prop} (h:∀ D':Ends,(∀ σ H,P σ H->D'.nx σ H)->t D' σ H) (p:∀ σ H,P σ H->D.nx σ H):t D σ H:=h D p
theorem cutR {t:TS} {D:Ends} {σ:St} {H:Hp} {P:St->Hp->Prop} (h:∀ D':Ends,D'.rt=D.rt->(∀ σ H,P σ H->D'.nx σ H)->t D' σ H) (p:∀ σ H,P σ H->D.nx σ H):t D σ H:=h D rfl p
end L2
namespace L2
open PySem PySem.Spec PyProof.Rows
def Itv (K:PySem.W.Frag) (a:Addr) (n:Nat):It :=
  ⟨fun i H=>i < n/\∃ xs x,SqL K H a xs/\xs[n - 1 - i]?=some x,fun i H x H'=>H'=H/\∀ xs,SqL K H a xs->xs[n - 1 - i]?=some x,fun i _=>n<=i⟩
theorem WQ {P:Program} {w:World} {K:PySem.W.Frag} {tg:Expr} (a it:Addr) (n:Nat):Turn P w K tg (Itv K a n) [it] it (fun i h=>i<=n/\h.IsRevIter it a ((n:Int) - 1 - (i:Nat))) where
  mem:=by simp
  obj:=fun i h st b hb=>by
    have e:b=it:=by simpa using hb
    subst e
    obtain ⟨_,o,e,c,d⟩:=st
    exact ⟨o,e,fun v z=>by rw [d] at z; cases z⟩
  keep:=fun i h h' st k=>⟨st.1,st.2.at fun o e=>k it (by simp) o e⟩
  item:=by
    intro X hP hw hK hc i pins s σ H E I hf st hg
    subst hP hw hK
    obtain ⟨hi,xs,x,hq,hx⟩:=hg
    obtain ⟨its,rv,p,hz⟩:=I.list hq
    obtain ⟨u,hu,ru⟩:=rv.get hx
    obtain ⟨f0,f1,f2,f3,f4,f5⟩:=hf it (by simp)
    obtain ⟨_,st2⟩:=st
    have e1:(n:Int) - 1 - (i:Nat)=((n - 1 - i:Nat):Int):=by lia
    rw [e1] at st2
    refine wpAny_pyNext_rev_item st2 p.isList (x:=u) (by simpa using hu) fun h' st' sb=>?_
    have I1:Inv X pins σ H { s with heap:=h' }:=I.turned (t':=s.toks) (fun b o hb e=>(sb.2 b hb).trans e) f0 f1 f3 f4 f5
    obtain ⟨o,e,c,d⟩:=id st'
    refine ⟨u,rfl,YJ (s:={ s with heap:=h' }) e c d (by decide) ⟨x,H,I1,ru,⟨rfl,fun ys hy=>by rw [I.list_inj hy hq]; exact hx⟩,⟨hi,?_⟩,fun b hb=>(hf b hb).1⟩⟩
    have e2:(n:Int) - 1 - ((i + 1:Nat):Int)=((n - 1 - i:Nat):Int) - 1:=by lia
    rw [e2]
    exact st'
  done:=by
    intro X hP hw hK hc i pins s σ H E I hf st hg
    subst hP hw hK
    obtain ⟨f0,f1,f2,f3,f4,f5⟩:=hf it (by simp)
    obtain ⟨h1,st2⟩:=st
    have h2:n<=i:=hg
    have e1:(n:Int) - 1 - (i:Nat)=-1:=by lia
    rw [e1] at st2
    exact wpAny_pyNext_rev_end (I.ok.hd hc) st2 fun h' eb=>⟨rfl,I.turned (t':=s.toks) (fun b o hb e=>eb b o hb e) f0 f1 f3 f4 f5⟩
  self:=fun _ _ _ _ _ st h=>wpAny_pyIter_revIter st.2 h
section
variable {X:Cx} {tg:Expr}
def iRev (K:PySem.W.Frag) (ta:TA):TI:=fun σ H R=>ta σ H fun vs H1=>∃ a xs,vs=[.ref a]/\SqL K H1 a xs/\R (Itv K a xs.length) H1
theorem za4 {a:Expr} {ta:TA} {p pos:Pos} (hg:Gl X "reversed") (hm:X.mg "reversed"=none) (ha:PA X [a] ta) (hs:starEach [a] X.env=[(false,eval a X.env)]:=by rfl):PI X tg (.Call (.Name "reversed" p) [a] [] pos) (iRev X.K ta):=by
  intro pins s σ H R I h
  refine Call_ (x6 I hg hm boot_reversed (PyProof.Rows.callWith_type1 (thn (ha pos pins s σ H _ I h) fun us s1 ⟨vs,H1,I1,r1,q1⟩=>?_) hs rfl))
  obtain ⟨l,xs,e,hq,q⟩:=q1
  subst e
  obtain ⟨u,rfl,rx⟩:=wx r1
  cases rx
  obtain ⟨its,rv,pl,hz⟩:=I1.list hq
  have hl:=rv.length
  refine call_reversed_list pl.isList ?_
  have hr:(s1.heap.push (revObj l ((its.toArray.size:Int) - 1))).IsRevIter s1.heap.objs.size l ((its.toArray.size:Int) - 1):=⟨_,Heap.get?_push_size _ rfl,rfl,rfl⟩
  refine wpAny_pyIter_revIter (s:={ s1 with heap:=s1.heap.push (revObj l ((its.toArray.size:Int) - 1)) }) hr ?_
  refine ⟨s1.heap.objs.size,[s1.heap.objs.size],_,_,H1,rfl,I1.kept (t':=s1.toks) fun b o e=>Heap.get?_push_of_some _ e,WQ l _ xs.length,⟨Nat.zero_le _,?_⟩,fun b hb=>?_,q⟩
  · have e:(xs.length:Int) - 1 - ((0:Nat):Int)=(its.toArray.size:Int) - 1:=by simp [hl]
    rw [e]
    exact hr
  have e:b=s1.heap.objs.size:=by simpa using hb
  subst e
  exact I1.fpOk (Nat.le_refl _) (I1.hok.fresh (Nat.le_refl _))
theorem za5 {a:Expr} {t:TA} {p pos:Pos} (hg:Gl X "reversed") (hm:X.mg "reversed"=none) (ha:jA X [a] t) (h:zp a=false:=by rfl):jI X tg (.Call (.Name "reversed" p) [a] [] pos) (iRev X.K t):=⟨za4 hg hm ha.out (zB h)⟩
end
theorem JZ {K:PySem.W.Frag} {a:Addr} {xs:List V} {g:TG} {tb:TS} {D:Ends} {σ:St} {H:Hp} (Pv:Nat->St->Hp->Prop) (h0:Pv 0 σ H) (hl:∀ i σ H,i<=xs.length->Pv i σ H->SqL K H a xs)
    (hs:∀ i x σ H,xs.reverse[i]?=some x->Pv i σ H->g x σ H fun σ2 H2=>tb { D with nx:=Pv (i + 1),ct:=Pv (i + 1),bk:=D.nx } σ2 H2) (hd:∀ σ H,Pv xs.length σ H->D.nx σ H) :
    ∃ W:Nat->Nat->St->Hp->Prop,(∃ m,W 0 m σ H)/\∀ i m σ H,W i m σ H ->
      ((Itv K a xs.length).stop i H/\D.nx σ H)\/((Itv K a xs.length).go i H/\∃ N:St->Hp->Prop,(∀ σ' H',N σ' H'->∃ m',m' < m/\W (i + 1) m' σ' H')/\∀ x H',(Itv K a xs.length).yld i H x H'->g x σ H' fun σ2 H2=>tb { D with nx:=N,ct:=N,bk:=D.nx } σ2 H2):=by
  refine ⟨fun i m σ H=>m=xs.length - i/\i<=xs.length/\Pv i σ H,⟨xs.length,by simp,Nat.zero_le _,h0⟩,?_⟩
  rintro i m σ H ⟨rfl,hi,p⟩
  have q:=hl i σ H hi p
  by_cases hlt:i < xs.length
  · refine .inr ⟨⟨hlt,xs,xs[xs.length - 1 - i],q,by rw [List.getElem?_eq_getElem]⟩,Pv (i + 1),fun σ' H' p'=>⟨xs.length - (i + 1),by lia,rfl,hlt,p'⟩,fun x H' y=>?_⟩
    obtain ⟨e,y⟩:=y
    subst e
    refine hs i x σ _ ?_ p
    rw [List.getElem?_reverse hlt]
    exact y xs q
  · have e:i=xs.length:=by lia
    subst e
    exact .inl ⟨Nat.le_refl _,hd σ H p⟩
section
variable {g:TG} {tt:TT} {te:TE} {Q:VK} {σ:St} {H:Hp}
theorem WR {K:PySem.W.Frag} {a:Addr} {xs:List V} (Pv:Nat->St->List V->Hp->Prop) (h0:Pv 0 σ [] H) (hl:∀ i τ ys H,i<=xs.length->Pv i τ ys H->SqT K H a xs)
    (hs:∀ i x τ ys H,xs[i]?=some x->Pv i τ ys H->g x τ H fun τ2 H2=>tt τ2 H2 fun b H3=>if b=true then te τ2 H3 fun y H4=>ys.length < sizeLine/\Pv (i + 1) τ2 (ys ++ [y]) H4 else Pv (i + 1) τ2 ys H3)
    (hd:∀ τ ys H,Pv xs.length τ ys H->∀ p,H p=none->Q (.ref p) (upd H p (.lst ys))):∃ W,(∃ m,W 0 m σ [] H)/\lcBy (Itt K a) g tt te Q W:=by
  refine ⟨fun i m τ ys H=>m=xs.length - i/\i<=xs.length/\Pv i τ ys H,⟨xs.length,by simp,Nat.zero_le _,h0⟩,?_⟩
  rintro i m τ ys H ⟨rfl,hi,p⟩
  have q:=hl i τ ys H hi p
  by_cases hlt:i < xs.length
  · refine .inr ⟨⟨xs,xs[i],q,by simp [hlt]⟩,Pv (i + 1),fun τ' ys' H' p'=>⟨xs.length - (i + 1),by lia,rfl,hlt,p'⟩,fun x H' y=>?_⟩
    obtain ⟨e,y⟩:=y
    subst e
    exact hs i x τ ys _ (y xs q) p
  · have e:i=xs.length:=by lia
    subst e
    exact .inl ⟨⟨xs,q,Nat.le_refl _⟩,hd τ ys H p⟩
end
theorem old {H:Hp} {p q:Addr} {o u:HO} (hp:H p=none) (h:H q=some u):upd H p o q=some u:=by rw [zg (zi h hp)]; exact h
theorem Same.new {H H1:Hp} {p:Addr} {o:HO} (s:Same H H1) (hp:H1 p=none):Same H (upd H1 p o):=fun b u q=>old hp (s b u q)
theorem Same.put {H H1:Hp} {p:Addr} {o:HO} (s:Same H H1) (hp:H p=none):Same H (upd H1 p o):=fun b u q=>by rw [zg (zi q hp)]; exact s b u q
theorem Zb {x:V} (h:yF x=true):eqV x x=true:=by
  cases x <;> first
    | rfl
    | (show ((_:Bool) == _)=true; simp)
    | (show ((_:Int) == _)=true; simp)
    | (show ((_:Str) == _)=true; simp)
    | (cases h)
section
variable {X:Cx}
theorem WS {A:Around} {s:Shared} {xs:List V} {us us':List Value} (r:Vals xs us) (r':Vals xs us') (f:xs.all yF=true) (j:Nat) (h1:j < us.toArray.size) (h2:j < us'.toArray.size):SeqAt.EqAt A s us.toArray[j] us'.toArray[j] true:=by
  have l1:=r.length
  have l2:=r'.length
  simp at h1 h2
  have hx:xs[j]?=some (xs[j]'(by lia)):=List.getElem?_eq_getElem _
  obtain ⟨u,e1,rx⟩:=r.get hx
  obtain ⟨u',e2,rx'⟩:=r'.get hx
  have g1:us.toArray[j]=u:=by
    have:=List.getElem?_eq_some_iff.mp e1
    simpa using this.2
  have g2:us'.toArray[j]=u':=by
    have:=List.getElem?_eq_some_iff.mp e2
    simpa using this.2
  rw [g1,g2]
  have fx:yF (xs[j]'(by lia))=true:=List.all_eq_true.mp f _ (List.getElem_mem _)
  have k:=Z6 (A:=A) (s:=s) rx rx' fx fx
  rw [Zb fx] at k
  exact k
def WT (K:PySem.W.Frag) (b:Bool):R2:=fun x y H Q=>∃ p p' xs,x=.ref p/\y=.ref p'/\SqL K H p xs/\SqL K H p' xs/\xs.all yF=true/\Q (.bl b) H
theorem za6 (hu:X.A.units < cLine):OpR X (compareOp .NotEq) (WT X.K false):=by
  intro pins s σ H x y v u Q I rx ry h
  obtain ⟨p,p',xs,rfl,rfl,h1,h2,f,q⟩:=h
  cases rx
  cases ry
  obtain ⟨its,r,pl,_⟩:=I.list h1
  obtain ⟨its',r',pl',_⟩:=I.list h2
  have l1:=r.length
  have l2:=r'.length
  refine SeqAt.RcNeAt.lists (e:=fun _=>true) pl.isList pl'.isList (by simp; lia) hu (fun j a b=>WS r r' f j a b) _ _ _ _ ?_
  rw [show ((List.range its.toArray.size).all fun _=>true)=true from List.all_eq_true.mpr fun _ _=>rfl]
  exact ⟨.bl false,H,I,rfl,q⟩
theorem za7 {k:Nat} (hr:Room k X.A):jOp X (compareOp .NotEq) (WT X.K false):=⟨za6 hr.units0⟩
end
section
variable (P:Program) (w:World)
end
section
variable {P:Program} {w:World} {H H':Hp} {h h':Heap} {a:Addr} {o:HO}
end
section
variable {P:Program} {w:World} {H:Hp} {h h':Heap} {x e:Addr} {o':HO}
end
section
variable {fs fs' ex ex':List Addr} {H H1 H2:Hp} {h h1 h2 h':Heap} {a x e:Addr} {o:HO}
end
section
variable {X:Cx} {pins:List (Addr × Obj)} {σ:List (Option V)} {H H':Hp} {s:Shared} {h':Heap}
end
section
variable {X:Cx}
variable {a b:Expr} {ta tb:TE} {pos:Pos}
variable {tA tB':TT} {rest:List Expr}
end
section
variable {X:Cx} {pins:List (Addr × Obj)} {σ:St} {H:Hp} {s:Shared} {a:Addr} {xs ys:List V}
end
section
variable {X:Cx} {pins:List (Addr × Obj)} {σ:St} {H:Hp} {s:Shared} {E:Value->Shared->Prop}
end
section
variable {X:Cx} {st:Stmt} {rest:List Stmt} {t u:TS} {e:Expr} {te:TE} {pos:Pos}
end
section
variable {X:Cx} {pos:Pos}
end
section
variable {X:Cx} {tg:Expr}
end
section
variable {X:Cx} {a b c:Expr} {ta tb tc:TE} {pos:Pos}
end
section
variable {prog:Program} {w:World} {A:Around} {E:Value->Shared->Prop} {s:Shared} {K:PySem.W.Frag} {x dx C f:Addr} {mA:Str->Option Value} {name:Str} {v:Value}
end
section
variable {P:Program} {w:World} {H H':Hp} {h h':Heap} {a C dx:Addr} {fs fs':List (Str × V)}
end
section
variable {X:Cx} {pins:List (Addr × Obj)} {σ:St} {H:Hp} {s:Shared} {a C dx:Addr} {fs:List (Str × V)} {f:Str} {v:V} {A:Around} {E:Value->Shared->Prop}
end
section
variable {X:Cx} {o e value:Expr} {f:Str} {pos pos' tpos:Pos} {ta tv:TE}
end
section
variable {X:Cx} {pins:List (Addr × Obj)} {σ:St} {H:Hp} {s:Shared} {A:Around} {E:Value->Shared->Prop} {Q:Value->Shared->Prop} {c:Value} {b:Bool}
end
section
variable {X:Cx} {e:Expr} {es:List Expr} {te:TE} {t:TA} {pos:Pos}
end
section
variable {X:Cx} {pins:List (Addr × Obj)} {σ:St} {H:Hp} {s s':Shared}
end
section
variable {X:Cx} {CX:CXT} {k:Nat} {f C:Addr} {fd:FuncData} {ps:List Str} {sp:Sp} {dvs:List V} {ds:List Value} {E:XK} {x m:Str} {p pos apos:Pos} {e o:Expr} {es:List Expr} {ta:TE} {t:TA}
end
section
variable {X:Cx} {CX:CXT} {k:Nat} {f C:Addr} {fd:FuncData} {ps ks:List Str} {sp:Sp} {E:XK} {x m:Str} {p pos apos kpos:Pos} {e o:Expr} {es:List Expr} {kws:List Keyword} {te ta:TE} {t tk:TA} {nm:Option Str}
variable {g:List Value->List Value->List Value} {gV:List V->List V->List V}
end
section
variable {X:Cx} {x:Str} {p pos:Pos} {e:Expr} {es:List Expr} {t:TA} {id T:String} {r:List V->Hp->VK->Prop}
end
section
variable {κ:Type} [DecidableEq κ]
def valV (kvs:List (κ × V)) (k:κ):Option V:=(kvs.find? fun kv=>decide (kv.1=k)).map (·.2)
def putK (kvs:List (κ × V)) (k:κ) (v:V):List (κ × V) :=
  if (kvs.any fun kv=>decide (kv.1=k))=true then kvs.map (fun kv=>if kv.1=k then (kv.1,v) else kv) else kvs ++ [(k,v)]
theorem zT {p:κ × V} {r:List (κ × V)} {k:κ} (e:p.1=k):valV (p :: r) k=some p.2:=by simp [valV,List.find?_cons,e]
theorem zQ {p:κ × V} {r:List (κ × V)} {k:κ} (e:¬ p.1=k):valV (p :: r) k=valV r k:=by simp [valV,List.find?_cons,e]
theorem yP (k:κ):∀ kvs:List (κ × V),(kvs.any fun kv=>decide (kv.1=k))=(valV kvs k).isSome
  | []=>rfl
  | p :: r=>by
    rw [List.any_cons]
    by_cases e:p.1=k
    · simp only [zT e,decide_eq_true e,Bool.true_or,Option.isSome_some]
    · rw [zQ e,decide_eq_false e,Bool.false_or]; exact yP k r
theorem Zc (k j:κ) (y:V):∀ kvs:List (κ × V),valV (kvs.map fun kv=>if kv.1=k then (kv.1,y) else kv) j=(valV kvs j).map fun x=>if j=k then y else x
  | []=>rfl
  | p :: r=>by
    have ih:=Zc k j y r
    rw [List.map_cons]
    by_cases h:p.1=k
    · rw [if_pos h]
      by_cases e:p.1=j
      · rw [zT (p:=(p.1,y)) e,zT e,Option.map_some,if_pos (e.symm.trans h)]
      · rw [zQ (p:=(p.1,y)) e,zQ e,ih]
    · rw [if_neg h]
      by_cases e:p.1=j
      · rw [zT (p:=p) e,zT e,Option.map_some,if_neg (fun z=>h (e.trans z))]
      · rw [zQ (p:=p) e,zQ e,ih]
theorem vU (k j:κ) (y:V):∀ kvs:List (κ × V),valV kvs k=none->valV (kvs ++ [(k,y)]) j=if j=k then some y else valV kvs j
  | [],_=>by
    by_cases e:k=j
    · rw [if_pos e.symm]; exact zT (p:=(k,y)) e
    · rw [if_neg (fun z=>e z.symm)]; exact zQ (p:=(k,y)) e
  | p :: r,hn=>by
    rw [List.cons_append]
    have hk:¬ p.1=k:=fun z=>by rw [zT z] at hn; cases hn
    rw [zQ hk] at hn
    have ih:=vU k j y r hn
    by_cases e:p.1=j
    · rw [zT e,zT e,if_neg (fun z=>hk (e.trans z))]
    · rw [zQ e,zQ e,ih]
theorem yQ (kvs:List (κ × V)) (k j:κ) (y:V):valV (putK kvs k y) j=if j=k then some y else valV kvs j:=by
  unfold putK
  by_cases a:(kvs.any fun kv=>decide (kv.1=k))=true
  · rw [if_pos a,Zc]
    rw [yP] at a
    by_cases e:j=k
    · obtain ⟨x,hx⟩:=Option.isSome_iff_exists.mp a
      rw [if_pos e,e,hx,Option.map_some,if_pos rfl]
    · rw [if_neg e]
      cases valV kvs j with
      | none=>rfl
      | some x=>rw [Option.map_some,if_neg e]
  · rw [if_neg a]
    refine vU k j y kvs ?_
    rw [yP] at a
    cases q:valV kvs k with
    | none=>rfl
    | some x=>rw [q] at a; exact (a rfl).elim
theorem zU (kvs:List (κ × V)) (k:κ) (v:V):(putK kvs k v).length<=kvs.length + 1:=by
  unfold putK
  split
  · rw [List.length_map]; lia
  · rw [List.length_append,List.length_cons,List.length_nil]; lia
theorem WU {kvs:List (κ × V)} {k:κ} (v:V) (h:valV kvs k=none):putK kvs k v=kvs ++ [(k,v)]:=by
  unfold putK
  rw [yP,h]
  exact if_neg (by decide)
theorem RelO.isSome_eq {o:Option V} {u:Option Value} (r:RelO o u):o.isSome=u.isSome:=by
  cases o with
  | none=>cases u with
    | none=>rfl
    | some _=>exact (show False from r).elim
  | some _=>cases u with
    | none=>exact (show False from r).elim
    | some _=>rfl
theorem RelO.getD {o:Option V} {u:Option Value} {d:V} {d':Value} (r:RelO o u) (rd:RelV d d'):RelV (o.getD d) (u.getD d'):=by
  cases o with
  | none=>cases u with
    | none=>exact rd
    | some _=>exact (show False from r).elim
  | some _=>cases u with
    | none=>exact (show False from r).elim
    | some _=>exact r
theorem KV.val {kvs:List (κ × V)} {vs:List (κ × Value)} (r:KV kvs vs) (k:κ):RelO (valV kvs k) (valueAt vs k):=by
  unfold KV at r
  induction r with
  | nil=>exact True.intro
  | @cons p q ps qs h t ih =>
    obtain ⟨h1,h2⟩:=h
    by_cases e:p.1=k
    · have e':q.1=k:=h1.symm.trans e
      have b:valueAt (q :: qs) k=some q.2:=by simp [valueAt,List.find?_cons,e']
      rw [zT e,b]; exact h2
    · have e':¬ q.1=k:=fun z=>e (h1.trans z)
      have b:valueAt (q :: qs) k=valueAt qs k:=by simp [valueAt,List.find?_cons,e']
      rw [zQ e,b]; exact ih
theorem KV.any {kvs:List (κ × V)} {vs:List (κ × Value)} (r:KV kvs vs) (k:κ):(kvs.any fun kv=>decide (kv.1=k))=vs.any fun kv=>decide (kv.1=k):=by
  unfold KV at r
  induction r with
  | nil=>rfl
  | cons h t ih=>rw [List.any_cons,List.any_cons,ih,h.1]
theorem KV.repl {kvs:List (κ × V)} {vs:List (κ × Value)} (r:KV kvs vs) (k:κ) {y:V} {u:Value} (ry:RelV y u) :
    KV (kvs.map fun kv=>if kv.1=k then (kv.1,y) else kv) (vs.map fun kv=>if kv.1=k then (kv.1,u) else kv):=by
  unfold KV at r ⊢
  induction r with
  | nil=>exact .nil
  | @cons p q ps qs h t ih =>
    rw [List.map_cons,List.map_cons]
    refine .cons ?_ ih
    obtain ⟨h1,h2⟩:=h
    by_cases e:p.1=k
    · rw [if_pos e,if_pos (h1.symm.trans e)]; exact ⟨h1,ry⟩
    · rw [if_neg e,if_neg (fun z=>e (h1.trans z))]; exact ⟨h1,h2⟩
theorem KV.put {kvs:List (κ × V)} {vs:List (κ × Value)} (r:KV kvs vs) (k:κ) {y:V} {u:Value} (ry:RelV y u):KV (putK kvs k y) (stored vs k u):=by
  unfold putK stored
  rw [r.any k]
  by_cases e:(vs.any fun kv=>decide (kv.1=k))=true
  · rw [if_pos e,if_pos e]; exact r.repl k ry
  · rw [if_neg e,if_neg e]; exact Paired.snoc r ⟨rfl,ry⟩
theorem KV.length {kvs:List (κ × V)} {vs:List (κ × Value)} (r:KV kvs vs):kvs.length=vs.length:=Paired.length r
end
theorem vV {P:Program} {w:World} {k:Key} {u:Value} (r:RelV (kV k) u):(zE P w).is k u=true:=by
  cases k with
  | inl i=>obtain ⟨t,e⟩:=(show ∃ t,u=Value.int i t from r); subst e; exact wv P w i t
  | inr x=>obtain ⟨t,e⟩:=(show ∃ t,u=Value.str x t from r); subst e; exact ww P w x t
theorem vW {P:Program} {w:World}:∀ {ks:List Key} {us:List Value},Vals (ks.map kV) us->ItemsAre (zE P w) ks us
  | [],_,r=>by rw [List.map_nil] at r; cases r; exact .nil
  | k :: ks,_,r=>by
    rw [List.map_cons] at r
    cases r with
    | cons h t=>exact .cons (vV h) (vW t)
abbrev KT (H:Hp):List (List Key × V)->List (List Key × Addr × Value)->Prop:=Paired fun p q=>p.1=q.1/\H q.2.1=some (.tup (p.1.map kV))/\RelV p.2 q.2.2
theorem KT.val {H:Hp} {kvs:List (List Key × V)} {xs:List (List Key × Addr × Value)} (r:KT H kvs xs) (k:List Key):RelO (valV kvs k) ((atKey xs k).map (·.2)):=by
  induction r with
  | nil=>exact True.intro
  | @cons p q ps qs h t ih =>
    obtain ⟨h1,_,h2⟩:=h
    by_cases e:p.1=k
    · have e':q.1=k:=h1.symm.trans e
      have b:atKey (q :: qs) k=some q.2:=by simp [atKey,List.find?_cons,e']
      rw [zT e,b]; exact h2
    · have e':¬ q.1=k:=fun z=>e (h1.trans z)
      have b:atKey (q :: qs) k=atKey qs k:=by simp [atKey,List.find?_cons,e']
      rw [zQ e,b]; exact ih
theorem KT.repl {H:Hp} {kvs:List (List Key × V)} {xs:List (List Key × Addr × Value)} (r:KT H kvs xs) (k:List Key) {y:V} {u:Value} (ry:RelV y u) :
    KT H (kvs.map fun kv=>if kv.1=k then (kv.1,y) else kv) (xs.map (putAt k u)):=by
  induction r with
  | nil=>exact .nil
  | @cons p q ps qs h t ih =>
    rw [List.map_cons,List.map_cons]
    refine .cons ?_ ih
    obtain ⟨h1,h2,h3⟩:=h
    unfold putAt
    by_cases e:p.1=k
    · rw [if_pos e,if_pos (h1.symm.trans e)]; exact ⟨h1,h2,ry⟩
    · rw [if_neg e,if_neg (fun z=>e (h1.trans z))]; exact ⟨h1,h2,h3⟩
theorem KT.put {H:Hp} {kvs:List (List Key × V)} {xs:List (List Key × Addr × Value)} (r:KT H kvs xs) (k:List Key) {b:Addr} {y:V} {u:Value} (hb:H b=some (.tup (k.map kV))) (ry:RelV y u) :
    KT H (putK kvs k y) (storedH xs k b u):=by
  have e:(kvs.any fun kv=>decide (kv.1=k))=(atKey xs k).isSome:=by
    rw [yP,(r.val k).isSome_eq,Option.isSome_map]
  unfold putK storedH
  rw [e]
  by_cases q:(atKey xs k).isSome=true
  · rw [if_pos q,if_pos q]; exact r.repl k ry
  · rw [if_neg q,if_neg q]; exact Paired.snoc r ⟨rfl,hb,ry⟩
theorem KT.keeps {H H':Hp} {kvs:List (List Key × V)} {xs:List (List Key × Addr × Value)} (r:KT H kvs xs) (ht:∀ b ys,H b=some (.tup ys)->H' b=some (.tup ys)):KT H' kvs xs :=
  Paired.mapP r fun _ _ z=>⟨z.1,ht _ _ z.2.1,z.2.2⟩
section
variable {P:Program} {w:World} {H:Hp} {h:Heap} {a:Addr}
theorem zad {u:HO} (ok:HOk P w H h) (e:Rd H a u):ObjOk P w H h a u:=e.ok ok
theorem wY {kvs:List (Key × V)} (ok:HOk P w H h) (e:Rd H a (.dK kvs)):kvs.length<=sizeLine/\(a == sysModules)=false/\∃ vs,KV kvs vs/\h.DictOf (zE P w) a vs :=
  show ObjOk P w H h a (.dK kvs) from zad ok e
theorem Y3 {kvs:List (Key × V)} (ok:HOk P w H h) (e:H a=some (.dK kvs)):kvs.length<=sizeLine/\(a == sysModules)=false/\∃ vs,KV kvs vs/\h.DictOf (zE P w) a vs:=wY ok (.inl e)
theorem xt {ks:List Key} (ok:HOk P w H h) (e:H a=some (.tup (ks.map kV))):(tupleKind (zE P w)).is h ks a:=by
  obtain ⟨_,its,r,o,h1,h2,_,n,h3⟩:=(show ObjOk P w H h a (.tup (ks.map kV)) from ok a _ e)
  exact ⟨o,its.toArray,n,h1,h2,h3,by simpa using vW r⟩
theorem wZ {kvs:List (List Key × V)} (ok:HOk P w H h) (e:Rd H a (.dT kvs)):kvs.length<=sizeLine/\(a == sysModules)=false /\
    ∃ xs,KT H kvs xs/\h.DictOfH (tupleKind (zE P w)) a xs:=by
  obtain ⟨z,y,xs,r,o,es,ep,h1,h2,h3,h4,h5⟩:=(show ObjOk P w H h a (.dT kvs) from zad ok e)
  refine ⟨z,y,xs,r,o,es,ep,h1,h2,h3,h4,fun x hx=>?_,h5⟩
  have all:∀ {l:List (List Key × V)} {m:List (List Key × Addr × Value)},KT H l m->∀ x∈m,(tupleKind (zE P w)).is h x.1 x.2.1:=by
    intro l m q
    induction q with
    | nil=>intro x hx; exact nomatch hx
    | @cons p q ps qs hq t ih =>
      intro x hx
      rcases List.mem_cons.mp hx with e | hx
      · subst e
        exact xt ok (by rw [<- hq.1]; exact hq.2.1)
      · exact ih x hx
  exact all r x hx
theorem zae {kvs:List (List Key × V)} (ok:HOk P w H h) (e:H a=some (.dT kvs)):kvs.length<=sizeLine/\(a == sysModules)=false /\
    ∃ xs,KT H kvs xs/\h.DictOfH (tupleKind (zE P w)) a xs:=wZ ok (.inl e)
end
def DGet (H:Hp) (a:Addr) (y:V) (r:Option V):Prop :=
  (∃ kvs k,Rd H a (.dK kvs)/\y=kV k/\r=valV kvs k)\/∃ kvs k b,Rd H a (.dT kvs)/\y=.ref b/\H b=some (.tup (k.map kV))/\r=valV kvs k
def DPut (H:Hp) (a:Addr) (y v:V) (H':Hp):Prop :=
  (∃ kvs k,H a=some (.dK kvs)/\y=kV k/\kvs.length < sizeLine/\H'=upd H a (.dK (putK kvs k v))) \/
  ∃ kvs k b,H a=some (.dT kvs)/\y=.ref b/\H b=some (.tup (k.map kV))/\kvs.length < sizeLine/\H'=upd H a (.dT (putK kvs k v))
theorem DGet.k {H:Hp} {a:Addr} {kvs:List (Key × V)} {k:Key} (e:H a=some (.dK kvs)):DGet H a (kV k) (valV kvs k):=.inl ⟨kvs,k,.inl e,rfl,rfl⟩
theorem DGet.t {H:Hp} {a b:Addr} {kvs:List (List Key × V)} {k:List Key} (e:H a=some (.dT kvs)) (eb:H b=some (.tup (k.map kV))):DGet H a (.ref b) (valV kvs k):=.inr ⟨kvs,k,b,.inl e,rfl,eb,rfl⟩
theorem DPut.k {H:Hp} {a:Addr} {kvs:List (Key × V)} {k:Key} {v:V} (e:H a=some (.dK kvs)) (hl:kvs.length < sizeLine):DPut H a (kV k) v (upd H a (.dK (putK kvs k v))):=.inl ⟨kvs,k,e,rfl,hl,rfl⟩
theorem DPut.t {H:Hp} {a b:Addr} {kvs:List (List Key × V)} {k:List Key} {v:V} (e:H a=some (.dT kvs)) (eb:H b=some (.tup (k.map kV))) (hl:kvs.length < sizeLine) :
    DPut H a (.ref b) v (upd H a (.dT (putK kvs k v))):=.inr ⟨kvs,k,b,e,rfl,eb,hl,rfl⟩
section
variable {X:Cx} {pins:List (Addr × Obj)} {σ:St} {H:Hp} {s:Shared} {a:Addr} {y v:V} {u r:Value} {o:Option V} {A:Around} {E:Value->Shared->Prop}
theorem Inv.big (I:Inv X pins σ H s):sysModules < s.heap.objs.size:=by
  have h:mainGlobals < s.heap.objs.size:=(I.mod.glob.keeps I.bk).lt
  exact Nat.lt_trans (by decide) h
theorem XQ {Q:Value->Shared->Prop} (hu:A.units + 1 < cLine) (I:Inv X pins σ H s) (g:DGet H a y (some v)) (ry:RelV y u) (h:∀ w' s',Inv X pins σ H s'->RelV v w'->Q w' s') :
    wpAny (model X.prog X.w) A (getItem (.ref a) u) Q E s:=by
  rcases g with ⟨kvs,k,e,ey,l⟩ | ⟨kvs,k,b,e,ey,eb,l⟩
  · subst ey
    obtain ⟨z,hd,vs,rel,dd⟩:=wY I.hok e
    obtain ⟨w',hw,rw'⟩:=RelO.some_of (v:=v) (o:=valueAt vs k) (by rw [l]; exact rel.val k)
    exact wpAny_getItem_of (vV ry) dd.mapOf hw (h w' _ (I.tok _) rw')
  · subst ey
    cases (show u=Value.ref b from ry)
    obtain ⟨z,hd,xs,rel,dd⟩:=wZ I.hok e
    obtain ⟨w',hw,rw'⟩:=RelO.some_of (v:=v) (o:=(atKey xs k).map (·.2)) (by rw [l]; exact rel.val k)
    obtain ⟨p,hp,hp2⟩:=Option.map_eq_some_iff.mp hw
    refine wpAny_getItem_heap (tupleKind_room_in1 hu) (xt I.hok eb) dd hp ?_
    rw [hp2]
    exact h w' _ (I.tok _) rw'
theorem d_in {Q:Value->Shared->Prop} (hu:A.units + 1 < cLine) (I:Inv X pins σ H s) (g:DGet H a y o) (ry:RelV y u) (h:∀ s',Inv X pins σ H s'->Q (.bool o.isSome) s') :
    wpAny (model X.prog X.w) A (compareOp .In u (.ref a)) Q E s:=by
  rcases g with ⟨kvs,k,e,ey,l⟩ | ⟨kvs,k,b,e,ey,eb,l⟩
  · subst ey
    obtain ⟨z,hd,vs,rel,dd⟩:=wY I.hok e
    refine wpAny_in_of (vV ry) hd dd.mapOf ?_
    rw [<- (rel.val k).isSome_eq,<- l]
    exact h _ (I.tok _)
  · subst ey
    cases (show u=Value.ref b from ry)
    obtain ⟨z,hd,xs,rel,dd⟩:=wZ I.hok e
    refine wpAny_in_heap (tupleKind_room_in1 hu) (xt I.hok eb) hd dd ?_
    have q:=(rel.val k).isSome_eq
    rw [Option.isSome_map] at q
    rw [<- q,<- l]
    exact h _ (I.tok _)
theorem J0 {Q:Value->Shared->Prop} (hu:A.units + 1 < cLine) (I:Inv X pins σ H s) (g:DGet H a y o) (ry:RelV y u) (h:∀ s',Inv X pins σ H s'->Q (.bool (!o.isSome)) s') :
    wpAny (model X.prog X.w) A (compareOp .NotIn u (.ref a)) Q E s:=by
  rcases g with ⟨kvs,k,e,ey,l⟩ | ⟨kvs,k,b,e,ey,eb,l⟩
  · subst ey
    obtain ⟨z,hd,vs,rel,dd⟩:=wY I.hok e
    refine wpAny_notIn_of (vV ry) hd dd.mapOf ?_
    rw [<- (rel.val k).isSome_eq,<- l]
    exact h _ (I.tok _)
  · subst ey
    cases (show u=Value.ref b from ry)
    obtain ⟨z,hd,xs,rel,dd⟩:=wZ I.hok e
    refine wpAny_notIn_heap (tupleKind_room_in1 hu) (xt I.hok eb) hd dd ?_
    have q:=(rel.val k).isSome_eq
    rw [Option.isSome_map] at q
    rw [<- q,<- l]
    exact h _ (I.tok _)
theorem jt {h':Heap} {t':Nat} {ob:HO} (I:Inv X pins σ H s) (mu:Mut (H a)) (hs:Heap.SameBut a s.heap h') (he:∃ q,h'.get? a=some q) (new:ObjOk X.prog X.w (upd H a ob) h' a ob) :
    Inv X pins σ (upd H a ob) { s with heap:=h',toks:=t' } :=
  I.write (x:=a) (e:=a) mu (.inl rfl) (fun b q hb z=>(hs.2 b hb).trans z) he new
theorem za8 {P:Program} {w:World} {H':Hp} {h':Heap} {kvs:List (Key × V)} {vs:List (Key × Value)} (z:kvs.length<=sizeLine) (hd:(a == sysModules)=false) (rel:KV kvs vs) (dd:h'.DictOf (zE P w) a vs) :
    ObjOk P w H' h' a (.dK kvs):=⟨z,hd,vs,rel,dd⟩
theorem XR {H':Hp} {Q:Unit->Shared->Prop} (hu:A.units + 1 < cLine) (I:Inv X pins σ H s) (g:DPut H a y v H') (ry:RelV y u) (rv:RelV v r) (h:∀ s',Inv X pins σ H' s'->Q () s') :
    wpAny (model X.prog X.w) A (setItem (.ref a) u r) Q E s:=by
  rcases g with ⟨kvs,k,e,ey,l,eH⟩ | ⟨kvs,k,b,e,ey,eb,l,eH⟩
  · subst ey eH
    obtain ⟨z,hd,vs,rel,dd⟩:=Y3 I.hok e
    have hz:vs.length<=sizeLine:=by rw [<- rel.length]; exact z
    have hl:(putK kvs k v).length<=sizeLine:=by have:=zU kvs k v; lia
    refine wpAny_setItem_pairs (hsz:=hz) (vV ry) dd fun h' dd' hs=>h _ ?_
    have he:∃ q,h'.get? a=some q:=let ⟨q,_,_,hq,_⟩:=dd'; ⟨q,hq⟩
    exact jt I (by rw [e]; exact True.intro) hs he (za8 hl hd (rel.put k rv) dd')
  · subst ey eH
    cases (show u=Value.ref b from ry)
    obtain ⟨z,hd,xs,rel,dd⟩:=zae I.hok e
    have hz:xs.length<=sizeLine:=by rw [<- Paired.length rel]; exact z
    have hl:(putK kvs k v).length<=sizeLine:=by have:=zU kvs k v; lia
    refine wpAny_setItem_heap (hsz:=hz) (tupleKind_room_in1 hu) (xt I.hok eb) dd fun h' dd' hs=>h _ ?_
    obtain ⟨q,es,ep,hq,h2,h3,h4,_,h5⟩:=dd'
    refine jt I (by rw [e]; exact True.intro) hs ⟨q,hq⟩ ⟨hl,hd,_,(rel.put k eb rv).keeps fun c ys ec=>?_,q,es,ep,hq,h2,h3,h4,h5⟩
    rw [zg (xz ec e (fun z=>nomatch z))]
    exact ec
end
section
variable {X:Cx} {pins:List (Addr × Obj)} {σ:St} {H:Hp} {s:Shared} {a:Addr} {kvs:List (Key × V)} {k:Key} {u:Value} {A:Around} {E:Value->Shared->Prop}
end
def NoSl (i:Expr):Prop:=∀ ov iv,subscripted i false ov iv=operate [ov,iv] (getItem ov iv)
theorem J4 {prog:Program} {w:World} {A:Around} {E:Value->Shared->Prop} {s:Shared} {env:Env} {value slice:Expr} {pos:Pos} {T id:String} {Q:Value->Shared->Prop}
    (hl:typeLookup (.type T) "__getitem__"=pure (some (.builtin id))) (hs:NoSl slice)
    (h:wpAny (model prog w) A (eval value env) (fun o s₁=>wpAny (model prog w) A (eval slice env) (fun i s₂=>s₂.TypeIs o T/\wpAny (model prog w) A (getItem o i) Q E s₂) E s₁) E s) :
    wpAny (model prog w) A (eval (.Subscript value slice pos) env) Q E s:=by
  refine Subscript_ (wpAny_mono h (fun o s₁ h₁=>wpAny_mono h₁ (fun i s₂ h₂=>?_) fun _ _ x=>x) fun _ _ x=>x)
  obtain ⟨hT,h₂⟩:=h₂
  unfold subscriptTail
  refine wpAny_bind ?_
  rw [getitemInPython_of_ne hT.not_modules]
  refine wpAny_bind (wpAny_specialOf hT hl ?_)
  have fin:wpAny (model prog w) A (subscripted slice false o i) (fun r s₃=>wpAny (model prog w) A (letTemporaryGo value o r >>= fun _=>pure r) Q E s₃) E s₂:=by
    rw [hs o i]
    exact wpAny_operating (wpAny_mono h₂ (fun r s₃ h₃=>wpAny_bind (wpAny_letTemporaryGo (wpAny_pure h₃))) fun _ _ x=>x)
  first
    | exact wpAny_pure (wpAny_bind fin)
    | exact wpAny_bind (wpAny_pure (wpAny_bind fin))
    | exact wpAny_bind fin
theorem Zd {X:Cx} {pins:List (Addr × Obj)} {σ:St} {H:Hp} {s:Shared} {a:Addr} {y:V} {o:Option V} (I:Inv X pins σ H s) (g:DGet H a y o):s.TypeIs (.ref a) "dict":=by
  rcases g with ⟨kvs,k,e,_,_⟩ | ⟨kvs,k,b,e,_,_,_⟩
  · obtain ⟨_,_,vs,_,dd⟩:=wY I.hok e
    exact dd.typeIs
  · obtain ⟨_,_,xs,_,dd⟩:=wZ I.hok e
    exact dd.typeIs
def zaf (td ty:TE):TE:=fun σ H Q=>td σ H fun x H1=>ty σ H1 fun y H2=>∃ a v,x=.ref a/\DGet H2 a y (some v)/\Q v H2
def tDIn (ty td:TE):TE:=fun σ H Q=>ty σ H fun y H1=>td σ H1 fun x H2=>∃ a o,x=.ref a/\DGet H2 a y o/\Q (.bl o.isSome) H2
def Y4 (ty td:TE):TE:=fun σ H Q=>ty σ H fun y H1=>td σ H1 fun x H2=>∃ a o,x=.ref a/\DGet H2 a y o/\Q (.bl (!o.isSome)) H2
def zag (td ty tv:TE):TS:=fun D σ H=>tv σ H fun v H1=>td σ H1 fun x H2=>ty σ H2 fun y H3=>∃ a H4,x=.ref a/\DPut H3 a y v H4/\D.nx σ H4
section
variable {X:Cx} {o i e value:Expr} {pos pos' tpos:Pos} {td ty tv:TE}
theorem J5 (hu:X.A.units + 1 < cLine) (ho:PE X o td) (hi:PE X i ty) (hs:NoSl i):PE X (.Subscript o i pos) (zaf td ty):=by
  intro pins s σ H Q I h
  refine J4 PySem.F.slot_dict_getitem.lookup hs (thn (ho pins s σ H _ I h) fun u s1 ⟨x,H1,I1,rx,q1⟩=>thn (hi pins s1 σ H1 _ I1 q1) fun iv s2 ⟨y,H2,I2,ry,a,v,ex,g,q2⟩=>?_)
  subst ex
  obtain rfl:u=Value.ref a:=rx
  exact ⟨Zd I2 g,XQ hu I2 g ry fun w' s3 I3 rw'=>⟨v,H2,I3,rw',q2⟩⟩
theorem WV (hu:X.A.units + 1 < cLine) (hi:PE X i ty) (ho:PE X o td):PC X .In i o (tDIn ty td):=by
  intro pins s σ H Q I h
  refine thn (hi pins s σ H _ I h) fun iv s1 ⟨y,H1,I1,ry,q1⟩=>thn (ho pins s1 σ H1 _ I1 q1) fun u s2 ⟨x,H2,I2,rx,a,ov,ex,g,q2⟩=>?_
  subst ex
  obtain rfl:u=Value.ref a:=rx
  exact d_in hu I2 g ry fun s3 I3=>⟨.bl ov.isSome,H2,I3,rfl,q2⟩
theorem XS (hu:X.A.units + 1 < cLine) (hi:PE X i ty) (ho:PE X o td):PC X .NotIn i o (Y4 ty td):=by
  intro pins s σ H Q I h
  refine thn (hi pins s σ H _ I h) fun iv s1 ⟨y,H1,I1,ry,q1⟩=>thn (ho pins s1 σ H1 _ I1 q1) fun u s2 ⟨x,H2,I2,rx,a,ov,ex,g,q2⟩=>?_
  subst ex
  obtain rfl:u=Value.ref a:=rx
  exact J0 hu I2 g ry fun s3 I3=>⟨.bl (!ov.isSome),H2,I3,rfl,q2⟩
theorem J6 (hu:X.A.units + 1 < cLine) (ho:PE X o td) (hi:PE X i ty) (hv:PE X value tv) (hs:swapsWith value (some (.Subscript o i pos')) pos.line X.env=pure false) :
    PS X (.Assign [.Subscript o i pos'] value pos) (zag td ty tv):=by
  intro pins s σ H D I h
  refine wpAny_Assign_Subscript (thn (hv pins s σ H _ I h) fun r s1 ⟨v,H1,I1,rv,q1⟩=>thn (ho pins s1 σ H1 _ I1 q1) fun u s2 ⟨x,H2,I2,rx,q2⟩=>thn (hi pins s2 σ H2 _ I2 q2) fun iv s3 ⟨y,H3,I3,ry,a,H4,ex,g,q3⟩=>?_) hs
  subst ex
  obtain rfl:u=Value.ref a:=rx
  exact XR hu I3 g ry rv fun s4 I4=>⟨σ,H4,I4,q3⟩
end
theorem WW {P:Program} {w:World} {H:Hp} (h:Heap) (hb:sysModules < h.objs.size):ObjOk P w H (h.push { cls:=.type "dict",data:=.dict #[] }) h.objs.size (.dK []) :=
  ⟨Nat.zero_le _,beq_eq_false_iff_ne.mpr (Ne.symm (Nat.ne_of_lt hb)),[],.nil,Heap.DictOf.new h⟩
theorem WX {P:Program} {w:World} {H:Hp} (h:Heap) (hb:sysModules < h.objs.size):ObjOk P w H (h.push { cls:=.type "dict",data:=.dict #[] }) h.objs.size (.dT []) :=
  ⟨Nat.zero_le _,beq_eq_false_iff_ne.mpr (Ne.symm (Nat.ne_of_lt hb)),[],.nil,_,#[],0,Heap.get?_push_size _ rfl,⟨rfl,rfl,rfl⟩,rfl,rfl,List.nodup_nil⟩
def WY:TE:=fun _ H Q=>∀ p,H p=none->Q (.ref p) (upd H p (.dK []))
def WZ:TE:=fun _ H Q=>∀ p,H p=none->Q (.ref p) (upd H p (.dT []))
section
variable {X:Cx} {pos:Pos}
theorem W3:PE X (.Dict [] [] pos) WY:=fun pins s σ H Q I h =>
  wpAny_Dict_empty ⟨.ref s.heap.objs.size,_,I.laid (a:=s.heap.objs.size) (o:=.dK []) (t':=s.toks) (fun _ _ q=>Heap.get?_push_of_some _ q) (Nat.le_refl _) (WW s.heap I.big),rfl,h _ (I.hok.fresh (Nat.le_refl _))⟩
theorem W4:PE X (.Dict [] [] pos) WZ:=fun pins s σ H Q I h =>
  wpAny_Dict_empty ⟨.ref s.heap.objs.size,_,I.laid (a:=s.heap.objs.size) (o:=.dT []) (t':=s.toks) (fun _ _ q=>Heap.get?_push_of_some _ q) (Nat.le_refl _) (WX s.heap I.big),rfl,h _ (I.hok.fresh (Nat.le_refl _))⟩
end
structure M2 (X:Cx) (o:Expr) (m:Str) (apos:Pos) (e f:Expr) (cpos:Pos):Prop where
  base:attributeBase o m X.env (eval o X.env)=eval o X.env
  few:((backTo cpos (starEach [e,f] X.env)).all (fun x=>!x.1) && (backToKw cpos (keywordEach [] X.env)).all (fun x=>x.1.isSome)
    && decide (([e,f]:List Expr).length + ([]:List Keyword).length + (if ([]:List Keyword).isEmpty then 0 else 1) < 30))=true
  line:(apos.endLine == cpos.line)=true
  trees:backTo cpos (starEach [e,f] X.env)=[(false,eval e X.env),(false,eval f X.env)]
def IsD (H:Hp) (a:Addr):Prop:=(∃ kvs,Rd H a (.dK kvs))\/∃ kvs,Rd H a (.dT kvs)
theorem W5 {X:Cx} {pins:List (Addr × Obj)} {σ:St} {H:Hp} {s:Shared} {a:Addr} (I:Inv X pins σ H s) (d:IsD H a) :
    s.TypeIs (.ref a) "dict"/\(∀ b,Value.ref a=.ref b->∃ ob,s.heap.get? b=some ob/\ob.dict=none)/\(a == sysModules)=false:=by
  rcases d with ⟨kvs,e⟩ | ⟨kvs,e⟩
  · obtain ⟨_,hd,vs,_,dd⟩:=wY I.hok e
    refine ⟨dd.typeIs,fun b q=>?_,hd⟩
    cases q
    obtain ⟨ob,_,_,h1,h2,_⟩:=dd
    exact ⟨ob,h1,h2.2.1⟩
  · obtain ⟨_,hd,xs,_,dd⟩:=wZ I.hok e
    refine ⟨dd.typeIs,fun b q=>?_,hd⟩
    cases q
    obtain ⟨ob,_,_,h1,h2,_⟩:=dd
    exact ⟨ob,h1,h2.2.1⟩
section
variable {X:Cx} {pins:List (Addr × Obj)} {σ:St} {H:Hp} {s:Shared} {a:Addr} {y d:V} {u r:Value} {o:Option V} {A:Around} {E:Value->Shared->Prop}
theorem za9 {Q:Value->Shared->Prop} (hu:A.units + 1 < cLine) (I:Inv X pins σ H s) (g:DGet H a y o) (ry:RelV y u) (rd:RelV d r) (h:∀ w' s',Inv X pins σ H s'->RelV (o.getD d) w'->Q w' s') :
    wpAny (model X.prog X.w) A (call (.builtin "dict.get") [.ref a,u,r]) Q E s:=by
  rcases g with ⟨kvs,k,e,ey,l⟩ | ⟨kvs,k,b,e,ey,eb,l⟩
  · subst ey
    obtain ⟨z,hd,vs,rel,dd⟩:=wY I.hok e
    refine call_meetsIn PySem.F.slot_dict_get dd.typeIs PySem.F.entry_dict_get (PySem.F.args_dict_get_3 _ _ _) (meets_dict_get_default (zE X.prog X.w) a (vV ry) hd r) ⟨_,dd.mapOf,h _ _ (I.tok _) ?_⟩
    rw [l]
    exact (rel.val k).getD rd
  · subst ey
    cases (show u=Value.ref b from ry)
    obtain ⟨z,hd,xs,rel,dd⟩:=wZ I.hok e
    refine call_meetsIn PySem.F.slot_dict_get dd.typeIs PySem.F.entry_dict_get (PySem.F.args_dict_get_3 _ _ _) (meetsH_dict_get_default (tupleKind (zE X.prog X.w)) a b hd r) ⟨tupleKind_room_in1 hu,k,xs,xt I.hok eb,dd,h _ _ (I.tok _) ?_⟩
    rw [l]
    exact (rel.val k).getD rd
end
def W6 (td ty tx:TE):TE:=fun σ H Q=>td σ H fun x H1=>∃ a,x=.ref a/\IsD H1 a/\ty σ H1 fun y H2=>tx σ H2 fun z H3=>∃ o,DGet H3 a y o/\Q (o.getD z) H3
section
variable {X:Cx} {o e f:Expr} {apos cpos:Pos} {td ty tx:TE}
theorem W7 (hu:X.A.units + 1 < cLine) (ho:PE X o td) (he:PE X e ty) (hf:PE X f tx) (m:M2 X o "get" apos e f cpos):PE X (.Call (.Attribute o "get" apos) [e,f] [] cpos) (W6 td ty tx):=by
  intro pins s σ H Q I h
  refine wpAny_Call_method m.base m.few m.line PySem.F.plainAttrs_dict PySem.F.slot_dict_get PySem.F.type_dict_get (thn (ho pins s σ H _ I h) fun u s1 ⟨x,H1,I1,rx,a,ex,d,q1⟩=>?_)
  subst ex
  obtain rfl:u=Value.ref a:=rx
  obtain ⟨t1,t2,_⟩:=W5 I1 d
  refine ⟨t1,t2,?_⟩
  rw [m.trees]
  refine Calls.callWith_builtin rfl (Calls.evalArgs_plain (Calls.spliced_cons (thn (he pins s1 σ H1 _ I1 q1) fun iv s2 ⟨y,H2,I2,ry,q2⟩ =>
    Calls.spliced_cons (thn (hf pins s2 σ H2 _ I2 q2) fun fv s3 ⟨z,H3,I3,rz,ov,g,q3⟩=>Calls.spliced_nil ?_))))
  exact za9 hu I3 g ry rz fun w' s4 I4 rw'=>⟨_,H3,I4,rw',q3⟩
end
section
variable {X:Cx} {pins:List (Addr × Obj)} {σ:St} {H:Hp} {s:Shared} {a:Addr} {kvs:List (Key × V)} {A:Around} {E:Value->Shared->Prop}
end
section
variable {X:Cx} {pins:List (Addr × Obj)} {σ:St} {H:Hp} {s:Shared} {a:Addr} {y:V} {u:Value} {A:Around} {E:Value->Shared->Prop}
end
end L2
namespace Att
open PySem PySem.W PySem.Calls PyProof.Rows
section
variable {prog:Program} {w:World} {A:Around} {E:Value->Shared->Prop} {s:Shared} {K:Frag}
end
end Att
namespace L2
open PySem PySem.Spec PyProof.Rows
section
variable {P:Program} {w:World} {K:PySem.W.Frag} {mg:Str->Option Value} {base:Heap}
end
section
variable {X:Cx}
end
section
variable {κ:Type} [DecidableEq κ]
end
section
variable {X:Cx} {pos:Pos}
theorem xE:jE X (.Dict [] [] pos) WY:=⟨W3⟩
end
theorem SqK.l {K:PySem.W.Frag} {H:Hp} {a:Addr} {xs:List V} (h:H a=some (.lst xs)):SqK true K H a xs:=SqL.of h
theorem J7 {K:PySem.W.Frag} {k m:Bool} {a b:Addr} {xs ys:List V} {g:TG} {tb:TS} {D:Ends} {σ:St} {H:Hp} (hlen:xs.length=ys.length) (Pv:Nat->St->Hp->Prop) (h0:Pv 0 σ H) (hl:∀ i σ H,i<=xs.length->Pv i σ H->SqK k K H a xs/\SqK m K H b ys)
    (hs:∀ i x y T σ H,xs[i]?=some x->ys[i]?=some y->H T=none->Pv i σ H->g (.ref T) σ (upd H T (.tup [x,y])) fun σ2 H2=>tb { D with nx:=Pv (i + 1),ct:=Pv (i + 1),bk:=D.nx } σ2 H2) (hd:∀ σ H,Pv xs.length σ H->D.nx σ H) :
    ∃ W:Nat->Nat->St->Hp->Prop,(∃ m,W 0 m σ H)/\∀ i n σ H,W i n σ H ->
      ((Itz K k m a b).stop i H/\D.nx σ H)\/((Itz K k m a b).go i H/\∃ N:St->Hp->Prop,(∀ σ' H',N σ' H'->∃ m',m' < n/\W (i + 1) m' σ' H')/\∀ x H',(Itz K k m a b).yld i H x H'->g x σ H' fun σ2 H2=>tb { D with nx:=N,ct:=N,bk:=D.nx } σ2 H2):=by
  refine ⟨fun i m σ H=>m=xs.length - i/\i<=xs.length/\Pv i σ H,⟨xs.length,by simp,Nat.zero_le _,h0⟩,?_⟩
  rintro i n σ H ⟨rfl,hi,p⟩
  obtain ⟨q1,q2⟩:=hl i σ H hi p
  by_cases hlt:i < xs.length
  · refine .inr ⟨go2 q1 q2 (List.getElem?_eq_getElem hlt) (List.getElem?_eq_getElem (hlen ▸ hlt)),Pv (i + 1),fun σ' H' p'=>⟨xs.length - (i + 1),by lia,rfl,hlt,p'⟩,fun x H' yq=>?_⟩
    obtain ⟨T,x,y,rfl,hT,rfl,e1,e2⟩:=yld2 yq q1 q2
    exact hs i x y T σ H e1 e2 hT p
  · have e:i=xs.length:=by lia
    subst e
    exact .inl ⟨zb4 q1 q2 (Nat.le_refl _),hd σ H p⟩
def lay (H:Hp):List (Addr × HO)->Hp
  | []=>H
  | p :: r=>upd (lay H r) p.1 p.2
section
variable {X:Cx} {pins:List (Addr × Obj)} {σ:St} {H:Hp} {s:Shared} {h':Heap}
end
theorem zb6 {P:Program} {w:World} {k:Key} {u:Value} (h:(zE P w).is k u=true):RelV (kV k) u:=by
  rw [ZT] at h
  rcases zH h with ⟨i,t,rfl,rfl⟩ | ⟨x,t,rfl,rfl⟩
  · exact ⟨t,rfl⟩
  · exact ⟨t,rfl⟩
section
variable {X:Cx}
abbrev Prs (H:Hp):List (Key × V)->List Addr->Prop:=Paired fun kv t=>H t=some (.tup [kV kv.1,kv.2])
theorem yK {o i value:Expr} {td ty tv:TE} {pos pos':Pos} {k:Nat} (hr:Room k X.A) (ho:jE X o td) (hi:jE X i ty) (hv:jE X value tv) (hs:swapsWith value (some (.Subscript o i pos')) pos.line X.env=pure false:=by rfl) :
    jS X (.Assign [.Subscript o i pos'] value pos) (zag td ty tv):=⟨J6 (by have:=hr.units; lia) ho.out hi.out hv.out hs⟩
theorem KV.get {kvs:List (Key × V)} {ws:List (Key × Value)} (r:KV kvs ws) {j:Nat} {k:Key} {x:Value} (h:ws[j]?=some (k,x)):∃ y,kvs[j]?=some (k,y)/\RelV y x:=by
  unfold KV at r
  induction r generalizing j with
  | nil=>simp at h
  | @cons p q ps qs hh t ih =>
    cases j with
    | zero =>
      simp at h
      subst h
      obtain ⟨p1,p2⟩:=p
      have e:p1=k:=hh.1
      subst e
      exact ⟨p2,rfl,hh.2⟩
    | succ j =>
      obtain ⟨y,h1,h2⟩:=ih (j:=j) (by simpa using h)
      exact ⟨y,by simpa using h1,h2⟩
end
section
variable {X:Cx} {pos:Pos}
theorem yt (K:PySem.W.Frag) (h:X.K=K:=by rfl):jIx X (rIxT K):=h ▸ yY
theorem ju (K:PySem.W.Frag) (h:X.K=K:=by rfl):jCa X (.type "tuple") (fun xs H Q=>∃ p ys,xs=[.ref p]/\((SqL K H p ys/\∀ l,H l=none->Q (.ref l) (upd H l (.tup ys)))\/(SqT K H p ys/\Q (.ref p) H))):=h ▸ zP
end
end L2
namespace K11
open PySem
def sg (c:Nat):Str:=⟨#[c]⟩
end K11
namespace K11
open PySem PySem.Spec PyProof.Rows Builtin Builtin.Str
abbrev cl (z:Str):List Nat:=z.cps.toList
theorem xu (z:Str):(cl z).length=z.length:=by simp [Str.length]
theorem we (x y:Str):cl (x ++ y)=cl x ++ cl y:=by
  show (x.cps ++ y.cps).toList=_
  simp
theorem jw {sep x y:Str} {r:List Str}:cl (Str.join sep (x :: y :: r))=cl x ++ (cl sep ++ cl (Str.join sep (y :: r))):=by
  show cl (x ++ sep ++ Str.join sep (y :: r))=_
  rw [we,we,List.append_assoc]
end K11
namespace GN
open PySem L2
def top (i:Nat):Stmt:=PySem.Challenge.pw_reusewise_k54_a_long_chain.main.body.getD i (.Pass ⟨0,0,0,0⟩)
abbrev W8:Stmt:=top 1
abbrev Yg:Stmt:=wI (top 4) 0
abbrev jx:Stmt:=top 5
abbrev W9:Stmt:=top 6
abbrev Yh:Stmt:=top 8
abbrev Va:Stmt:=top 9
abbrev sTog:Stmt:=top 10
abbrev wf:Stmt:=top 11
abbrev yR:Stmt:=top 12
abbrev jy:Stmt:=top 13
abbrev xv:Stmt:=top 14
abbrev w6:Stmt:=top 15
abbrev yM:Stmt:=top 2
abbrev wg:Stmt:=top 3
abbrev jz:Stmt:=top 17
abbrev vf:Stmt:=top 18
abbrev vg:Stmt:=top 19
abbrev Yi:Stmt:=wI (top 20) 0
abbrev xw:Stmt:=wI (top 20) 1
abbrev vi:Stmt:=wI (top 20) 2
abbrev vk:Stmt:=top 21
abbrev wj:Stmt:=top 22
abbrev wm:Stmt:=top 23
abbrev wn:Stmt:=top 24
abbrev vm:Stmt:=top 25
abbrev Yj:Stmt:=top 26
abbrev Vb:Stmt:=top 28
abbrev sNm:Stmt:=top 29
abbrev sLaw:Stmt:=top 33
end GN
namespace L2
open PySem
section
variable {X:Cx} {o i:Expr} {to ti:TE} {pos:Pos}
theorem J8 (ho:jE X o to) (hi:jE X i ti) (ha:∀ v,assign (.Subscript o i pos) X.env v=(do
      let ov <- holding [v] (eval o X.env)
      let iv <- holding [v,ov] (eval i X.env)
      standAt pos
      holding [v,ov,iv] (setItem ov iv v)
      release [v,ov,iv] []):=by intro _; rfl):jG X (.Subscript o i pos) (gSub to ti Q7):=⟨zaA ho.out hi.out Ww ha⟩
theorem J9 (hc:X.calm=true):jCa X (.builtin "max") (fun xs H Q=>∃ i j,xs=[.int i,.int j]/\Q (.int (if j > i then j else i)) H):=⟨XD hc⟩
end
end L2
namespace GN
open PySem L2 K11
theorem zk {H:Hp} {p:Addr} (h:H p=none) (o:HO):Same H (upd H p o):=fun b u q=>by rw [zg (zi q h)]; exact q
def LIM:Nat:=4611686018427387904
def Sta (K:PySem.W.Frag) (H:Hp) (st:Addr) (B:Nat):Prop:=∃ (a:Addr) (ns:List Int) (k:Nat),H st=some (.lst [.ref a,.int (k:Nat)])/\(a=st->∀ H',SqL K H' a (ns.map V.int))/\SqL K H a (ns.map V.int)/\k<=B
structure Kp (st:Addr) (H H':Hp):Prop where
  k:∀ b u,b≠st->H b=some u->H' b=some u
  s:∀ a k,H st=some (.lst [.ref a,.int k])->∃ k',H' st=some (.lst [.ref a,.int k'])
theorem Kp.refl {st:Addr} {H:Hp}:Kp st H H:=⟨fun _ _ _ h=>h,fun _ k h=>⟨k,h⟩⟩
theorem Kp.trans {st:Addr} {H H1 H2:Hp} (a:Kp st H H1) (b:Kp st H1 H2):Kp st H H2:=⟨fun c u n h=>b.k c u n (a.k c u n h),fun x k h=>let ⟨k',h'⟩:=a.s x k h; b.s x k' h'⟩
theorem Kp.of {st:Addr} {H H1:Hp} (a:Same H H1):Kp st H H1:=⟨fun c u _ h=>a c u h,fun _ k h=>⟨k,a _ _ h⟩⟩
theorem Kp.new {st p:Addr} {H H1:Hp} {o:HO} (a:Kp st H H1) (h:H1 p=none):Kp st H (upd H1 p o):=a.trans (.of (zk h o))
theorem Kp.put {st p:Addr} {H H1:Hp} {o:HO} (a:Kp st H H1) (h:H p=none):Kp st H (upd H1 p o):=⟨fun b u n q=>by rw [zg (zi q h)]; exact a.k b u n q,fun x k q=>by
  obtain ⟨k',h'⟩:=a.s x k q
  exact ⟨k',by rw [zg (zi q h)]; exact h'⟩⟩
theorem Kp.seq {K:PySem.W.Frag} {st a:Addr} {H H':Hp} {xs:List V} (e:Kp st H H') (n:a≠st) (h:SqL K H a xs):SqL K H' a xs:=by
  rcases h with (h | ⟨o,h⟩) | h
  · exact .inl (.inl (e.k _ _ n h))
  · exact .inl (.inr ⟨o,e.k _ _ n h⟩)
  · exact .inr h
theorem Kp.free {st p:Addr} {H H':Hp} (e:Kp st H H') (n:p≠st) (h:H' p=none):H p=none:=by
  cases q:H p with
  | none=>rfl
  | some o =>
    rw [e.k p o n q] at h
    cases h
section
variable {K:PySem.W.Frag} {H H':Hp} {st:Addr} {B B':Nat}
theorem Sta.ex (h:Sta K H st B):∃ o,H st=some o:=let ⟨_,_,_,e,_⟩:=h; ⟨_,e⟩
theorem Sta.mono (h:Sta K H st B) (l:B<=B'):Sta K H st B':=let ⟨a,ns,k,h1,h2,h3,h4⟩:=h; ⟨a,ns,k,h1,h2,h3,Nat.le_trans h4 l⟩
theorem Sta.same (h:Sta K H st B) (s:Same H H'):Sta K H' st B:=let ⟨a,ns,k,h1,h2,h3,h4⟩:=h; ⟨a,ns,k,s _ _ h1,h2,s.seq h3,h4⟩
theorem Sta.new (h:Sta K H st B) {p:Addr} (hp:H p=none) (o:HO):Sta K (upd H p o) st B:=h.same (zk hp o)
theorem Sta.ne {p:Addr} (h:Sta K H st B) (hp:H p=none):p≠st:=fun e=>by
  obtain ⟨o,q⟩:=h.ex
  rw [e,q] at hp
  cases hp
theorem Sta.neR {p:Addr} {ts:List Addr} (h:Sta K H st B) (hp:H p=some (.lst (ts.map V.ref))):p≠st:=fun e=>by
  obtain ⟨a,ns,k,h1,_⟩:=h
  rw [e,h1] at hp
  have e2:=congrArg (fun o=>match o with | some (HO.lst l)=>l | _=>[]) hp
  simp only at e2
  match ts,e2 with
  | [_,_],e2=>simp at e2
  | [],e2=>simp at e2
  | [_],e2=>simp at e2
  | _ :: _ :: _ :: _,e2=>simp at e2
theorem Sta.put {H2:Hp} {p:Addr} {o:HO} (S0:Sta K H st B) (hp:H p=none) (k:Kp st H H2) (S2:Sta K H2 st B'):Sta K (upd H2 p o) st B':=by
  obtain ⟨a,ns,i,h1,h2,h3,_⟩:=S0
  obtain ⟨a',ns',i',g1,g2,g3,g4⟩:=S2
  obtain ⟨k',h'⟩:=k.s a _ h1
  rw [g1] at h'
  have ea:a'=a:=by
    have:=congrArg (fun o=>match o with | some (HO.lst (V.ref x :: _))=>x | _=>0) h'
    exact this
  subst ea
  have g1':upd H2 p o st=some (.lst [.ref a',.int ((i':Nat):Int)]):=by rw [zg (zi h1 hp)]; exact g1
  have key:a'≠p->Sta K (upd H2 p o) st B':=fun n=>by
    refine ⟨a',ns',i',g1',g2,?_,g4⟩
    rcases g3 with (g | ⟨o,g⟩) | g
    · exact .inl (.inl (by rw [zg n]; exact g))
    · exact .inl (.inr ⟨o,by rw [zg n]; exact g⟩)
    · exact .inr g
  rcases h3 with (h | ⟨_,h⟩) | h
  · exact key (zi h hp)
  · exact key (zi h hp)
  · exact ⟨a',ns,i',g1',fun _ _=>.inr h,.inr h,g4⟩
def Tups (H H':Hp):Prop:=∀ p xs,H p=some (.tup xs)->H' p=some (.tup xs)
theorem Tups.of (s:Same H H'):Tups H H':=fun p xs h=>s p _ h
theorem Tups.trans {H2:Hp} (a:Tups H H') (b:Tups H' H2):Tups H H2:=fun p xs h=>b p xs (a p xs h)
theorem Kp.tups (k:Kp st H H') (h:Sta K H st B):Tups H H':=fun p xs q=>k.k p _ (fun e=>by
  obtain ⟨_,_,_,h1,_⟩:=h
  rw [e,h1] at q
  cases q) q
end
def Yk (K:PySem.W.Frag):Sp:=fun vs H Q _=>∃ (st:Addr) (m:Int) (B:Nat),vs=[.ref st,.int m]/\Sta K H st B/\B < LIM/\0 < m/\∀ (H':Hp) (r:Int),Kp st H H'->Sta K H' st (B + 1)->0<=r->r < m->Q (.int r) H'
def LET:Str:="abcdefghijklmnopqrstuvwxyz"
theorem zba:cl LET=(List.range 26).map (97 + ·):=by decide +kernel
def lt (i:Nat):Str:=sg (97 + i)
theorem zbb {i:Nat} (h:i < 26):atI LET.cps.toList (i:Int)=some (97 + i):=by
  refine ym ?_
  show (cl LET)[i]?=_
  rw [zba,List.getElem?_map,List.getElem?_range h]
  rfl
theorem jB {m:Int} (h0:0<=m) (h:m < 26):atI LET.cps.toList m=some (97 + m.toNat):=by
  have e:=zbb (i:=m.toNat) (by lia)
  rw [Int.toNat_of_nonneg h0] at e
  exact e
theorem jC:LET.length=26:=by decide +kernel
def core (k:Nat):Str:=lt (k / 2 % 26) ++ ("z":Str) ++ lt (k / 52 % 26)
def ys (k:Nat):Str:=Txt.mul "y" ((k % 2:Nat):Int)
def nm (z:Str) (b:Bool) (k:Nat):Str:=if b=true then core k ++ z ++ ys k else ys k ++ z ++ core k
theorem jD (a b:Str):(a ++ b).length=a.length + b.length:=by rw [<- xu,we,List.length_append,xu,xu]
section
variable {P:Program} {w:World} {K:PySem.W.Frag} {mg:Str->Option Value} {base:Heap} {f:Addr} {fd:FuncData}
theorem scDraw:FnScope ["_law_state","_law_many","_law_k","_law_cell"] lS8 (zn Vb):=.ok
theorem qZ (F:Fun K "_law_draw" "_law_draw" Vb f fd) (m_len:mg "len"=none):FnOk P w K mg base CX0 1 f fd lS8 (Yk K):=by
  refine F.by scDraw (fun vs H Q E h=>?_) (fun cdv A outer s H vs Q E hr h=>?_)
  · obtain ⟨st,m,B,rfl,_⟩:=h
    rfl
  obtain ⟨st,m,B,rfl,⟨a,ns,k,hst,hne,hS,hk⟩,hB,hm,q⟩:=h
  refine ⟨_,
    (zh (sE 2 scDraw.nd (xL 0))
    (zh (za0 (zA ye (jv 2) zo) (J8 (jv 0) zo))
    (zh (zI (tN YX (jv 2) (jL m_len (xL 0)))
      (zj (zu (zA xq (xX yJ (xL 0) (jv 2)) (jv 1)))) zw)
    (zh (sE 3 scDraw.nd (zA ye (zA Yd (jv 2) zo) zo))
    (zh (zI (tN WI (jL m_len (xL 0)) zo)
      (zj (sE 3 scDraw.nd (zA ye (jv 3) (zA Yd (xX yJ (xL 0) (zA xq (zA Yd (jv 2) zo) (jL m_len (xL 0)))) (zA ye zo (jv 2)))))) zw)
    (zj (zu (zA xq (zA xq (jv 3) zo) (jv 1))))))))),?_⟩
  refine ⟨_,rfl,ixL hst aI1 ?_⟩
  refine ⟨_,rfl,_,_,rfl,rfl,_,rfl,st,_,1,1,rfl,rfl,hst,rfl,?_⟩
  have kp:Kp st H (upd H st (.lst [.ref a,.int ((k + 1:Nat):Int)])):=⟨fun b u n h=>by rw [zg n]; exact h,fun x y h=>by
    rw [hst] at h
    cases h
    exact ⟨_,zf⟩⟩
  have hst1:=zf (H:=H) (a:=st) (o:=.lst [.ref a,.int ((k + 1:Nat):Int)])
  have hS1:SqL K (upd H st (.lst [.ref a,.int ((k + 1:Nat):Int)])) a (ns.map V.int):=by
    by_cases e:a=st
    · exact hne e _
    · exact kp.seq e hS
  have fin:∀ r:Int,0<=r->r < m->Q (.int r) (upd H st (.lst [.ref a,.int ((k + 1:Nat):Int)])):=fun r h0 h1=>q _ r kp ⟨a,ns,k + 1,hst1,hne,hS1,by lia⟩ h0 h1
  show (tSeq _ _:TS) _ _ (upd H st (.lst [.ref a,.int ((k + 1:Nat):Int)]))
  generalize upd H st (.lst [.ref a,.int ((k + 1:Nat):Int)])=H1 at *
  have ix0:atI [V.ref a,V.int ((k + 1:Nat):Int)] 0=some (.ref a):=aI0
  have mm:∀ x:Int,0<=x % m/\x % m < m:=fun x=>⟨Int.emod_nonneg x (by lia),Int.emod_lt_of_pos x hm⟩
  refine ⟨_,rfl,_,rfl,st,_,_,_,rfl,rfl,SqL.of hst1,ix0,_,_,rfl,.inl hS1,_,_,rfl,rfl,_,rfl,?_⟩
  rw [List.length_map]
  refine ite2 (fun c=>?_) (fun c=>?_)
  · rw [decide_eq_true_eq] at c
    have hi:k < ns.length:=by lia
    have hx:(ns.map V.int)[k]?=some (.int ns[k]):=by rw [List.getElem?_map,List.getElem?_eq_getElem hi]; rfl
    exact ⟨_,rfl,st,_,_,_,rfl,rfl,SqL.of hst1,ix0,_,rfl,a,_,_,_,rfl,rfl,hS1,ym hx,_,rfl,_,_,rfl,rfl,hm,fin _ (mm _).1 (mm _).2⟩
  · refine ⟨_,rfl,_,_,rfl,rfl,.inr ⟨by decide,by decide⟩,_,_,rfl,rfl,?_⟩
    have tail:∀ (c:Int) (D:Ends),D.rt=Q->(tRet (tOp (rI (fun _ j=>0 < j) fun i j=>V.int (i % j)) (tOp (rI (fun _ j=>0 < j) fun i j=>V.int (i % j)) (tVar 3) (tC (.int 2147483629))) (tVar 1)):TS) D [some (.ref st),some (.int m),some (.int (k:Nat)),some (.int c)] H1:=fun c D e=>by
      refine ⟨_,rfl,_,_,rfl,rfl,(by show (0:Int) < _; decide),_,rfl,_,_,rfl,rfl,hm,?_⟩
      rw [e]
      exact fin _ (mm _).1 (mm _).2
    refine ⟨_,rfl,st,_,_,_,rfl,rfl,SqL.of hst1,ix0,_,_,rfl,.inl hS1,_,_,rfl,rfl,_,rfl,?_⟩
    rw [List.length_map]
    refine ite2 (fun c2=>?_) (fun c2=>tail _ _ rfl)
    rw [decide_eq_true_eq] at c2
    have hl:(0:Int) < (ns.length:Nat):=by lia
    have c0:=Int.emod_nonneg ((k:Nat) * 7:Int) (show ((ns.length:Nat):Int)≠0 by lia)
    have c1:=Int.emod_lt_of_pos ((k:Nat) * 7:Int) hl
    have hi:(((k:Nat) * 7:Int) % (ns.length:Nat)).toNat < ns.length:=by lia
    have hx:(ns.map V.int)[(((k:Nat) * 7:Int) % (ns.length:Nat)).toNat]?=some (.int ns[(((k:Nat) * 7:Int) % (ns.length:Nat)).toNat]):=by rw [List.getElem?_map,List.getElem?_eq_getElem hi]; rfl
    have hx2:atI (ns.map V.int) (((k:Nat) * 7:Int) % (ns.length:Nat))=some (.int ns[(((k:Nat) * 7:Int) % (ns.length:Nat)).toNat]):=by
      have e:=ym hx
      rw [Int.toNat_of_nonneg c0] at e
      exact e
    refine ⟨_,rfl,_,rfl,st,_,_,_,rfl,rfl,SqL.of hst1,ix0,_,rfl,_,_,rfl,rfl,.inr ⟨by decide,by decide⟩,_,rfl,st,_,_,_,rfl,rfl,SqL.of hst1,ix0,_,_,rfl,.inl hS1,_,_,rfl,rfl,(by rw [List.length_map]; exact hl),?_⟩
    refine ⟨a,_,_,_,rfl,rfl,hS1,(by rw [List.length_map]; exact hx2),_,rfl,_,_,rfl,rfl,_,_,rfl,rfl,.inr ⟨by show -(2 ^ 64) < (48271 + (k:Nat):Int); lia,by show (48271 + (k:Nat):Int) < 2 ^ 64; unfold LIM at hB; lia⟩,_,_,rfl,rfl,tail _ _ rfl⟩
theorem Ze:∀ {zs:List Str},(∀ z∈zs,z.length=1)->(Str.join "" zs).length=zs.length
  | [],_=>rfl
  | [x],h=>h x List.mem_cons_self
  | x :: y :: r,h=>by
    have ih:=Ze (zs:=y :: r) fun z hz=>h z (List.mem_cons_of_mem _ hz)
    rw [<- xu,jw,List.length_append,List.length_append,xu,xu,xu,ih,h x List.mem_cons_self]
    show 1 + (0 + (y :: r).length)=(y :: r).length + 1
    lia
theorem Vc {zs:List Str} (h:∀ z∈zs,z.length=1):wide "" zs=zs.length:=by
  unfold wide
  have e:∀ {l:List Str},(∀ z∈l,z.length=1)->(l.map (·.length)).sum=l.length:=by
    intro l
    induction l with
    | nil=>intro _; rfl
    | cons a l ih=>intro h; rw [List.map_cons,List.sum_cons,ih fun z hz=>h z (List.mem_cons_of_mem _ hz),h a List.mem_cons_self,List.length_cons]; lia
  rw [e h]
  rfl
abbrev TS3:=List (Str × List Int × Int)
inductive Tri (H:Hp):TS3->List Addr->Prop
  | nil:Tri H [] []
  | cons {z:Str} {s:List Int} {k:Int} {t q:Addr} {l:TS3} {ts:List Addr}:H t=some (.tup [.str z,.ref q,.int k])->H q=some (.lst (s.map V.int))->Tri H l ts->Tri H ((z,s,k) :: l) (t :: ts)
structure Wo where
  z:Str
  b:Bool
  tags:TS3
  defs:TS3
inductive Tps (H:Hp):List (Str × Int)->List Addr->Prop
  | nil:Tps H [] []
  | cons {a:Str} {s:Int} {t:Addr} {l:List (Str × Int)} {ts:List Addr}:H t=some (.tup [.str a,.int s])->Tps H l ts->Tps H ((a,s) :: l) (t :: ts)
inductive De
  | num (i:Int)
  | op (w a b:Str)
  | app (w f:Str) (xs:List Str)
def De.uses:De->List Str
  | .num _=>[]
  | .op _ a b=>[a,b]
  | .app w f xs=>if w="ask" then f :: xs else xs
theorem Vd {f:Str} {xs:List Str}:De.uses (.app "ask" f xs)=f :: xs:=by unfold De.uses; exact if_pos rfl
theorem Ve {w f:Str} {xs:List Str} (h:w≠"ask"):De.uses (.app w f xs)=xs:=by unfold De.uses; exact if_neg h
inductive IsDe (H:Hp):De->Addr->Prop
  | num {i:Int} {p:Addr}:H p=some (.tup [.str "num",.int i])->IsDe H (.num i) p
  | op {w a b:Str} {p:Addr}:H p=some (.tup [.str "op",.str w,.str a,.str b])->IsDe H (.op w a b) p
  | app {w f:Str} {xs:List Str} {p q:Addr}:(w≠"num"/\w≠"op"/\xs.length<=40)->H p=some (.tup [.str w,.str f,.ref q])->H q=some (.tup (xs.map V.str))->IsDe H (.app w f xs) p
theorem IsDe.keep {H H':Hp} {d:De} {p:Addr} (h:IsDe H d p) (t:Tups H H'):IsDe H' d p:=by
  cases h with
  | num a=>exact .num (t _ _ a)
  | op a=>exact .op (t _ _ a)
  | app c a b=>exact .app c (t _ _ a) (t _ _ b)
theorem Zf {α:Type} {f:α->V} {s:List α} {m:Int} (h:0<=m):cutV (s.map f) none (some m)=(s.take m.toNat).map f:=by
  unfold cutV
  have c1:HT.sIx (s.map f).length 0 none=0:=rfl
  have c2:HT.sIx (s.map f).length (s.map f).length (some m)=min m.toNat (s.map f).length:=by
    show (if m < 0 then (m + ((s.map f).length:Nat)).toNat else min m.toNat (s.map f).length)=_
    rw [if_neg (by lia)]
  rw [c1,c2,List.drop_zero,Nat.sub_zero,List.map_take,List.length_map]
  rcases Nat.le_total m.toNat s.length with c | c
  · rw [Nat.min_eq_left c]
  · rw [Nat.min_eq_right c,List.take_of_length_le (by simp),List.take_of_length_le (by simpa using c)]
end
mutual
inductive Bd
  | give (x:Str)
  | lt (x:Str) (d:De) (b:Bd)
  | iff (x:Str) (a b:Bd)
  | case (x:Str) (as:Arms)
inductive Arms
  | nil
  | cons (t:Str) (ns:List Str) (b:Bd) (r:Arms)
end
mutual
def Bd.sz:Bd->Nat
  | .give _=>1
  | .lt _ _ b=>b.sz + 1
  | .iff _ a b=>a.sz + b.sz + 1
  | .case _ as=>as.sz + 1
def Arms.sz:Arms->Nat
  | .nil=>0
  | .cons _ ns b r=>ns.length + b.sz + r.sz + 1
end
mutual
def Bd.dp:Bd->Nat
  | .give _=>1
  | .lt _ _ b=>b.dp + 1
  | .iff _ a b=>max a.dp b.dp + 1
  | .case _ as=>as.dp + 1
def Arms.dp:Arms->Nat
  | .nil=>0
  | .cons _ _ b r=>max b.dp r.dp
end
def Arms.app:Arms->Arms->Arms
  | .nil,b=>b
  | .cons t ns d r,b=>.cons t ns d (Arms.app r b)
mutual
inductive IsB (H:Hp):Bd->Addr->Prop
  | give {x:Str} {p:Addr}:H p=some (.tup [.str "give",.str x])->IsB H (.give x) p
  | lt {x:Str} {d:De} {b:Bd} {p q r:Addr}:H p=some (.tup [.str "let",.str x,.ref q,.ref r])->IsDe H d q->IsB H b r->IsB H (.lt x d b) p
  | iff {x:Str} {a b:Bd} {p q r:Addr}:H p=some (.tup [.str "if",.str x,.ref q,.ref r])->IsB H a q->IsB H b r->IsB H (.iff x a b) p
  | case {x:Str} {as:Arms} {ps:List Addr} {p q:Addr}:H p=some (.tup [.str "case",.str x,.ref q])->H q=some (.tup (ps.map V.ref))->0 < ps.length->IsA H as ps->IsB H (.case x as) p
inductive IsA (H:Hp):Arms->List Addr->Prop
  | nil:IsA H .nil []
  | cons {t:Str} {ns:List Str} {b:Bd} {r:Arms} {p q s:Addr} {ps:List Addr}:H p=some (.tup [.str t,.ref q,.ref s])->H q=some (.tup (ns.map V.str))->IsB H b s->IsA H r ps->IsA H (.cons t ns b r) (p :: ps)
end
mutual
theorem IsB.keep {H H':Hp} (t:Tups H H'):∀ {b:Bd} {p:Addr},IsB H b p->IsB H' b p
  | _,_,.give a=>.give (t _ _ a)
  | _,_,.lt a d b=>.lt (t _ _ a) (d.keep t) (IsB.keep t b)
  | _,_,.iff a b c=>.iff (t _ _ a) (IsB.keep t b) (IsB.keep t c)
  | _,_,.case a b l c=>.case (t _ _ a) (t _ _ b) l (IsA.keep t c)
theorem IsA.keep {H H':Hp} (t:Tups H H'):∀ {b:Arms} {p:List Addr},IsA H b p->IsA H' b p
  | _,_,.nil=>.nil
  | _,_,.cons a b c d=>.cons (t _ _ a) (t _ _ b) (IsB.keep t c) (IsA.keep t d)
end
section
variable {P:Program} {w:World} {K:PySem.W.Frag} {mg:Str->Option Value} {base:Heap} {f:Addr} {fd:FuncData}
structure Df where
  z:Str
  ns:List Str
  b:Bd
structure IsF (H:Hp) (d:Df) (p:Addr):Prop where
  ex:∃ q pb,H p=some (.tup [.str d.z,.ref q,.ref pb])/\H q=some (.tup (d.ns.map V.str))/\IsB H d.b pb
theorem IsF.keep {H H':Hp} {d:Df} {p:Addr} (h:IsF H d p) (t:Tups H H'):IsF H' d p:=let ⟨q,pb,h1,h2,h3⟩:=h.ex; ⟨q,pb,t _ _ h1,t _ _ h2,h3.keep t⟩
inductive IsFs (H:Hp):List Df->List Addr->Prop
  | nil:IsFs H [] []
  | cons {d:Df} {p:Addr} {ds:List Df} {ps:List Addr}:IsF H d p->IsFs H ds ps->IsFs H (d :: ds) (p :: ps)
theorem IsFs.keep {H H':Hp} {d:List Df} {p:List Addr} (h:IsFs H d p) (t:Tups H H'):IsFs H' d p:=by
  induction h with
  | nil=>exact .nil
  | cons a _ ih=>exact .cons (a.keep t) ih
theorem IsFs.app {H:Hp} {a b:List Df} {p q:List Addr} (h:IsFs H a p) (g:IsFs H b q):IsFs H (a ++ b) (p ++ q):=by
  induction h with
  | nil=>exact g
  | cons x _ ih=>exact .cons x ih
theorem IsFs.len {H:Hp} {l:List Df} {ts:List Addr} (h:IsFs H l ts):l.length=ts.length:=by
  induction h with
  | nil=>rfl
  | cons _ _ ih=>rw [List.length_cons,List.length_cons,ih]
theorem IsFs.get {H:Hp}:∀ {l:List Df} {ts:List Addr} {i:Nat} {t:Addr},IsFs H l ts->ts[i]?=some t->∃ d,l[i]?=some d/\IsF H d t
  | _,_,_,_,.nil,e=>by simp at e
  | _,_,0,_,.cons a _,e=>by
    simp at e
    subst e
    exact ⟨_,rfl,a⟩
  | _,_,i + 1,_,.cons _ b,e=>by
    obtain ⟨d,h1,h2⟩:=IsFs.get (i:=i) b (by simpa using e)
    exact ⟨d,by simpa using h1,h2⟩
def kd (o:Wo):List (Str × Int):=o.tags.map fun t=>(t.1,((t.2.1.length:Nat):Int))
theorem Zg {α:Type} {f:α->V} {s:List α} {m:Int} (h:0<=m):cutV (s.map f) (some m) none=(s.drop m.toNat).map f:=by
  unfold cutV
  have c2:HT.sIx (s.map f).length (s.map f).length none=(s.map f).length:=rfl
  have c1:HT.sIx (s.map f).length 0 (some m)=min m.toNat (s.map f).length:=by
    show (if m < 0 then (m + ((s.map f).length:Nat)).toNat else min m.toNat (s.map f).length)=_
    rw [if_neg (by lia)]
  rw [c1,c2,List.map_drop]
  rcases Nat.le_total m.toNat (s.map f).length with c | c
  · rw [Nat.min_eq_left c]
    exact List.take_of_length_le (by simp)
  · rw [Nat.min_eq_right c,List.drop_of_length_le (Nat.le_refl _),List.drop_of_length_le c]
    exact List.take_nil
end
end GN
namespace L2
open PySem PySem.Spec PyProof.Rows
theorem Zh:∀ {xs:List V} {us:List Value},xs.length=us.length->(∀ (j:Nat) x u,xs[j]?=some x->us[j]?=some u->RelV x u)->Vals xs us
  | [],[],_,_=>.nil
  | [],_ :: _,h,_=>by simp at h
  | _ :: _,[],h,_=>by simp at h
  | x :: xs,u :: us,h,g=>.cons (g 0 x u rfl rfl) (Zh (by simpa using h) fun j a b h1 h2=>g (j + 1) a b (by simpa using h1) (by simpa using h2))
section
variable {X:Cx}
def Vf:List V->Hp->VK->Prop:=fun xs H Q=>∃ d kvs,xs=[.ref d]/\H d=some (.dK kvs)/\∀ l,H l=none->Q (.ref l) (upd H l (.lst (kvs.map fun kv=>kV kv.1)))
theorem vn (hc:X.calm=true):y8 X (.type "list") Vf:=by
  intro pins s σ H xs us Q I r h
  obtain ⟨d,kvs,rfl,hd,q⟩:=h
  obtain ⟨u,rfl,rx⟩:=wx r
  cases rx
  obtain ⟨z,hs,ws,rel,dd⟩:=Y3 I.hok hd
  obtain ⟨ep,da⟩:=dd.dictAt
  have wl:=rel.length
  refine PySem.W.kdl_call (PySem.W.kdl_dict (knd:=zE X.prog X.w) (kvs:=ws) (ep:=ep) hs) (I.ok.hd hc) da (by lia) fun h' tk acc c hk hS hacc=>?_
  obtain ⟨a1,a2⟩:=hacc
  refine ⟨.ref s.heap.objs.size,_,I.laid (t':=tk) hk (Nat.le_refl _) (show ObjOk X.prog X.w _ h' _ (.lst (kvs.map fun kv=>kV kv.1)) from ⟨by rw [List.length_map]; exact z,acc.toList,c,?_,by rw [Array.toArray_toList]; exact hS⟩),rfl,q _ (I.hok.fresh (Nat.le_refl _))⟩
  have al:acc.toList.length=acc.size:=Array.length_toList
  refine Zh (by rw [List.length_map,al]; lia) fun j x v h1 h2=>?_
  obtain ⟨k,y,e1,e2⟩:=a2 j v (by rw [<- Array.getElem?_toList]; exact h2)
  obtain ⟨y',e3,_⟩:=rel.get e1
  rw [List.getElem?_map,e3] at h1
  cases h1
  exact zb6 e2
theorem jF (hc:X.calm=true):jCa X (.type "list") Vf:=⟨vn hc⟩
end
end L2
namespace GN
open PySem L2 K11
mutual
def Bd.binds:Bd->List Str
  | .give _=>[]
  | .lt x _ b=>x :: b.binds
  | .iff _ a b=>a.binds ++ b.binds
  | .case _ as=>as.binds
def Arms.binds:Arms->List Str
  | .nil=>[]
  | .cons _ ns b r=>ns ++ (b.binds ++ r.binds)
end
def once (acc:List Str):List Str->List Str
  | []=>acc
  | x :: r=>once (if x∈acc then acc else acc ++ [x]) r
abbrev Wy:=List (List Str × Bd)
inductive IsY (H:Hp):Wy->List Addr->Prop
  | nil:IsY H [] []
  | cons {ns:List Str} {b:Bd} {p q r:Addr} {l:Wy} {ps:List Addr}:H p=some (.tup [.ref q,.ref r])->H q=some (.tup (ns.map V.str))->IsB H b r->IsY H l ps->IsY H ((ns,b) :: l) (p :: ps)
theorem IsY.keep {H H':Hp} {l:Wy} {p:List Addr} (h:IsY H l p) (t:Tups H H'):IsY H' l p:=by
  induction h with
  | nil=>exact .nil
  | cons a b c _ ih=>exact .cons (t _ _ a) (t _ _ b) (c.keep t) ih
theorem IsY.app {H:Hp} {a b:Wy} {p q:List Addr} (h:IsY H a p) (g:IsY H b q):IsY H (a ++ b) (p ++ q):=by
  induction h with
  | nil=>exact g
  | cons x y z _ ih=>exact .cons x y z ih
theorem IsY.len {H:Hp} {l:Wy} {p:List Addr} (h:IsY H l p):l.length=p.length:=by
  induction h with
  | nil=>rfl
  | cons _ _ _ _ ih=>rw [List.length_cons,List.length_cons,ih]
def Arms.ways:Arms->Wy
  | .nil=>[]
  | .cons _ ns b r=>(ns,b) :: r.ways
def Bd.ways:Bd->Wy
  | .give _=>[]
  | .lt x _ b=>[([x],b)]
  | .iff _ a b=>[([],a),([],b)]
  | .case _ as=>as.ways
def pend (l:Wy):List Str:=l.flatMap fun p=>p.1 ++ p.2.binds
def wsz (l:Wy):Nat:=(l.map fun p=>p.2.sz).sum
theorem Arms.wsz:∀ as:Arms,GN.wsz as.ways<=as.sz
  | .nil=>by unfold Arms.ways Arms.sz GN.wsz; decide
  | .cons t ns b r=>by
    unfold Arms.ways Arms.sz GN.wsz
    have:=Arms.wsz r
    unfold GN.wsz at this
    rw [List.map_cons,List.sum_cons]
    show b.sz + _<=_
    lia
theorem Bd.wsz (b:Bd):GN.wsz b.ways < b.sz:=by
  cases b with
  | give x=>rw [Bd.sz]; show (0:Nat) < 1; decide
  | lt x d b=>rw [Bd.sz]; show b.sz + 0 < b.sz + 1; lia
  | iff x a b=>rw [Bd.sz]; show a.sz + (b.sz + 0) < a.sz + b.sz + 1; lia
  | case x as=>rw [Bd.sz]; have:=Arms.wsz as; show GN.wsz as.ways < as.sz + 1; lia
theorem IsA.get {H:Hp}:∀ {as:Arms} {ps:List Addr} {i:Nat} {p:Addr},IsA H as ps->ps[i]?=some p->∃ t q r ns b,as.ways[i]?=some (ns,b)/\H p=some (.tup [.str t,.ref q,.ref r])/\H q=some (.tup (ns.map V.str))/\IsB H b r
  | _,_,_,_,.nil,e=>by simp at e
  | _,_,0,_,.cons a b c _,e=>by
    simp at e
    subst e
    exact ⟨_,_,_,_,_,by unfold Arms.ways; rfl,a,b,c⟩
  | _,_,i + 1,_,.cons _ _ _ d,e=>by
    obtain ⟨t,q,r,ns,b,h1,h2⟩:=IsA.get (i:=i) d (by simpa using e)
    exact ⟨t,q,r,ns,b,by unfold Arms.ways; simpa using h1,h2⟩
theorem IsA.len {H:Hp}:∀ {as:Arms} {ps:List Addr},IsA H as ps->as.ways.length=ps.length
  | _,_,.nil=>by unfold Arms.ways; rfl
  | _,_,.cons _ _ _ d=>by unfold Arms.ways; rw [List.length_cons,List.length_cons,IsA.len d]
theorem jH:∀ a:Arms,a.ways.length<=a.sz
  | .nil=>by unfold Arms.ways Arms.sz; decide
  | .cons t ns b r=>by
    unfold Arms.ways Arms.sz
    have:=jH r
    rw [List.length_cons]
    lia
def Yl:Sp:=fun vs H Q _=>∃ (p:Addr) (b:Bd),vs=[.ref p]/\IsB H b p/\b.sz<=1000000/\∀ (H':Hp) (r:Addr) (ps:List Addr),Same H H'->H r=none->H' r=some (.lst (ps.map V.ref))->IsY H' b.ways ps->Q (.ref r) H'
section
variable {P:Program} {w:World} {K:PySem.W.Frag} {mg:Str->Option Value} {base:Heap} {f:Addr} {fd:FuncData}
theorem zbc:FnScope ["body"] ["body"] (zn W8):=.ok
theorem zbd:(["body","arm"]:List Str).Nodup:=by decide +kernel
theorem q9 (F:Fun K "ways_on" "ways_on" W8 f fd):FnOk P w K mg base CX0 1 f fd ["body"] Yl:=by
  refine F.by zbc (fun vs H Q E h=>?_) (fun cdv A outer s H vs Q E hr h=>?_)
  · obtain ⟨p,b,rfl,_⟩:=h
    rfl
  obtain ⟨p,b,rfl,hb,hz,q⟩:=h
  refine ⟨_,
    (zh (zI (tN zR (xT 0) zr)
      (zj (zu (yc zS))) zw)
    (zh (zI (tN zR (xT 0) zr)
      (zj (zu (yc (jA2 (zq (jA2 (zq zS) (xT 0))) (zq (jA2 (zq zS) (xT 0))))))) zw)
    (zh (zI (tN zR (xT 0) zr)
      (zj (zu (z0 ["arm"] rfl (xp (xT 0)) (fun _ _ _ _ _=>(gN 1 zbd)) (fun _ _ _ _ _=>zO) (fun _ _ _ _ _=>(zq (jA2 (yy (yt K) (jv 1) zo (fun _ _=>rfl)) (xX (yt K) (jv 1) (wW zo)))))))) zw)
    (zh (zI (wJ wb (xT 0) (zq (jA2 zr zr)) (by with_unfolding_all rfl))
      (zj (zu (yc (jA1 (zq (jA2 (zq (jA1 (xT 0))) (xX yY (jv 0) (wW zo)))))))) zw)
    (zj (zu (yc (jA1 (zq (jA2 (zq zS) (xX yY (jv 0) (wW zo)))))))))))),?_⟩
  have sl:=zW
  cases hb with
  | @give x _ hp =>
    refine ⟨_,rfl,p,_,_,_,rfl,rfl,SqT.of hp,aI0,rfl,_,rfl,?_⟩
    refine ite2 (fun _=>?_) aB
    refine ⟨sN0,fun r hr=>q _ r [] (zk hr _) hr zf ?_⟩
    unfold Bd.ways
    exact .nil
  | @iff x a b _ p1 p2 hp ha hb =>
    refine ⟨_,rfl,p,_,_,_,rfl,rfl,SqT.of hp,aI0,rfl,_,rfl,?_⟩
    refine ite2 aB (fun _=>?_)
    refine ⟨_,rfl,p,_,_,_,rfl,rfl,SqT.of hp,aI0,rfl,_,rfl,?_⟩
    refine ite2 (fun _=>?_) aB
    refine ⟨sN0,fun t1 h1=>⟨_,rfl,p,_,_,_,rfl,rfl,SqT.of (old h1 hp),aI2,sN2,fun t2 h2=>⟨sN0,fun t3 h3=>⟨_,rfl,p,_,_,_,rfl,rfl,SqT.of (old h3 (old h2 (old h1 hp))),aI3,sN2,fun t4 h4=>⟨sN2,fun t5 h5=>?_⟩⟩⟩⟩⟩
    have s4:Same H _:=(((zk h1 (.tup [])).new (o:=.tup [.ref t1,.ref p1]) h2).new (o:=.tup []) h3).new (o:=.tup [.ref t3,.ref p2]) h4
    have s5:=s4.new (o:=.lst [.ref t2,.ref t4]) h5
    refine q _ t5 [t2,t4] s5 (s4.free h5) zf ?_
    unfold Bd.ways
    exact .cons (old h5 (old h4 (old h3 zf))) (old h5 (old h4 (old h3 (old h2 zf)))) (ha.keep (.of s5)) (.cons (old h5 zf) (old h5 (old h4 zf)) (hb.keep (.of s5)) .nil)
  | @case x as ps _ p1 hp hp1 hl0 hA =>
    refine ⟨_,rfl,p,_,_,_,rfl,rfl,SqT.of hp,aI0,rfl,_,rfl,?_⟩
    refine ite2 aB (fun _=>?_)
    refine ⟨_,rfl,p,_,_,_,rfl,rfl,SqT.of hp,aI0,rfl,_,rfl,?_⟩
    refine ite2 aB (fun _=>?_)
    refine ⟨_,rfl,p,_,_,_,rfl,rfl,SqT.of hp,aI0,rfl,_,rfl,?_⟩
    refine ite2 (fun _=>?_) aB
    have hl:=hA.len
    have hsz:as.ways.length<=1000000:=by
      have e:∀ a:Arms,a.ways.length<=a.sz:=by
        intro a
        exact jH a
      have:=e as
      rw [Bd.sz] at hz
      lia
    refine ⟨_,rfl,p,_,_,_,rfl,rfl,SqT.of hp,aI2,p1,rfl,⟨_,SqT.of hp1⟩,WR (xs:=ps.map V.ref) (fun j τ ys H'=>Same H H'/\(∃ v,τ=[some (.ref p),v])/\∃ rs:List Addr,ys=rs.map V.ref/\IsY H' (as.ways.take j) rs) ⟨Same.refl _,⟨none,rfl⟩,[],rfl,.nil⟩ (fun j τ ys H' _ h=>SqT.of (h.1 _ _ hp1)) ?_ ?_⟩
    · rintro j v τ ys H1 hv ⟨s1,⟨v',rfl⟩,rs,rfl,hy⟩
      rw [List.getElem?_map] at hv
      obtain ⟨pa,hpa,rfl⟩:=Option.map_eq_some_iff.mp hv
      obtain ⟨t,q1,r1,ns,b,e1,e2,e3,e4⟩:=hA.get hpa
      have hj:j < as.ways.length:=(List.getElem?_eq_some_iff.mp e1).1
      have hyl:=hy.len
      rw [List.length_take] at hyl
      refine ⟨_,rfl,pa,_,_,_,rfl,rfl,SqT.of (s1 _ _ e2),aI1,_,rfl,_,rfl,pa,_,_,_,rfl,rfl,SqT.of (s1 _ _ e2),rfl,sN2,fun t1 h1=>⟨by rw [List.length_map]; lia,s1.new h1,⟨_,rfl⟩,rs ++ [t1],by simp,?_⟩⟩
      rw [List.take_add_one,e1]
      exact (hy.keep (.of (zk h1 _))).app (.cons zf (old h1 (s1 _ _ e3)) (e4.keep (.of (s1.new h1))) .nil)
    · rintro τ ys H1 ⟨s1,_,rs,rfl,hy⟩ r hr
      rw [List.length_map,<- hl,List.take_of_length_le (Nat.le_refl _)] at hy
      refine q _ r rs (s1.new hr) (s1.free hr) zf ?_
      unfold Bd.ways
      exact hy.keep (.of (zk hr _))
  | @lt x d b _ p1 p2 hp hd hb =>
    refine ⟨_,rfl,p,_,_,_,rfl,rfl,SqT.of hp,aI0,rfl,_,rfl,?_⟩
    refine ite2 aB (fun _=>?_)
    refine ⟨_,rfl,p,_,_,_,rfl,rfl,SqT.of hp,aI0,rfl,_,rfl,?_⟩
    refine ite2 aB (fun _=>?_)
    refine ⟨_,rfl,p,_,_,_,rfl,rfl,SqT.of hp,aI0,rfl,_,rfl,?_⟩
    refine ite2 aB (fun _=>?_)
    refine ⟨_,rfl,p,_,_,_,rfl,rfl,SqT.of hp,aI0,sN2,fun t0 h0=>?_⟩
    refine ⟨t0,_,rfl,.inr (SqT.of zf),rfl,rfl,_,rfl,?_⟩
    refine ite2 (fun _=>?_) (fun c=>absurd (show (if false=true then !inV (V.str "let") [V.str "let",V.str "hold"] else inV (V.str "let") [V.str "let",V.str "hold"])=true by decide) c)
    have hp0:=old (o:=.tup [.str "let",.str "hold"]) h0 hp
    refine ⟨_,rfl,p,_,_,_,rfl,rfl,SqT.of hp0,aI1,sN1,fun t1 h1=>⟨_,rfl,_,rfl,p,_,_,_,rfl,rfl,SqT.of (old h1 hp0),rfl,sN2,fun t2 h2=>⟨sN1,fun t3 h3=>?_⟩⟩⟩
    have s2:Same H _:=((zk h0 (.tup [.str "let",.str "hold"])).new (o:=.tup [.str x]) h1).new (o:=.tup [.ref t1,.ref p2]) h2
    have s3:=s2.new (o:=.lst [.ref t2]) h3
    refine q _ t3 [t2] s3 (s2.free h3) zf ?_
    unfold Bd.ways
    exact .cons (old h3 zf) (old h3 (old h2 zf)) (hb.keep (.of s3)) .nil
end
def dif (m n:Nat):Nat:=m - (m &&& n)
theorem jJ (m n:Nat):Builtin.bitOr (m:Int) (n:Int)=((m ||| n:Nat):Int):=by
  unfold Builtin.bitOr
  have h1:¬ 0<=Builtin.bitNot (m:Int):=by unfold Builtin.bitNot; lia
  have h2:¬ 0<=Builtin.bitNot (n:Int):=by unfold Builtin.bitNot; lia
  have e:∀ x:Int,Builtin.bitNot (Builtin.bitNot x)=x:=fun x=>by unfold Builtin.bitNot; lia
  rw [PyProof.Rows.bitAnd_nn h1 h2,e,e,e]
  rfl
theorem Vg (m n:Nat):Builtin.bitAnd (m:Int) (Builtin.bitNot (n:Int))=((dif m n:Nat):Int):=by
  rw [PyProof.Rows.bitAnd_not,PyProof.Rows.bitAnd_pp (Int.natCast_nonneg m) (Int.natCast_nonneg n)]
  have hle:(m &&& n)<=m:=Nat.and_le_left
  unfold dif
  rw [Int.toNat_natCast,Int.toNat_natCast]
  lia
def bitN:List Str->Str->Nat
  | [],_=>0
  | y :: r,x=>if y=x then 1 else 2 * bitN r x
theorem Zi {x:Str}:∀ {ns:List Str},x ∉ ns->bitN ns x=0
  | [],_=>rfl
  | y :: r,h=>by
    unfold bitN
    rw [if_neg (fun e:y=x=>h (e ▸ List.mem_cons_self)),Zi (fun z=>h (.tail _ z))]
def tog (ns xs:List Str):Nat:=xs.foldl (fun f x=>f ||| bitN ns x) 0
def yo:List Str->Nat->List (Key × V)
  | [],_=>[]
  | x :: r,b=>(.inr x,.int (b:Nat)) :: yo r (b + b)
theorem wo {x:Str}:∀ {ns:List Str} {b:Nat},valV (yo ns b) (.inr x)=if x∈ns then some (.int ((b * bitN ns x:Nat):Int)) else none
  | [],b=>rfl
  | y :: r,b=>by
    unfold yo bitN
    by_cases e:y=x
    · rw [zT (by rw [e]),if_pos (by rw [e]; exact .head _),if_pos e,Nat.mul_one]
    · rw [zQ (fun z=>e (Sum.inr.inj z)),wo,if_neg e]
      have e':¬ x=y:=fun z=>e z.symm
      by_cases c:x∈r
      · rw [if_pos c,if_pos (.tail _ c)]
        congr 3
        rw [Nat.add_mul,Nat.mul_left_comm,Nat.two_mul]
      · rw [if_neg c,if_neg (by simp [e',c])]
theorem vX:∀ (a:List Str) (x:Str) (b:Nat),yo (a ++ [x]) b=yo a b ++ [(.inr x,.int ((b * 2 ^ a.length:Nat):Int))]
  | [],x,b=>by show [_]=[_]; rw [List.length_nil,Nat.pow_zero,Nat.mul_one]
  | y :: a,x,b=>by
    show _ :: yo (a ++ [x]) (b + b)=_ :: (yo a (b + b) ++ _)
    rw [vX a x (b + b),List.length_cons,Nat.pow_succ,show (b + b) * 2 ^ a.length=b * (2 ^ a.length * 2) by rw [<- Nat.two_mul,Nat.mul_comm 2 b,Nat.mul_assoc,Nat.mul_comm 2]]
theorem vY:∀ (a:List Str) (b:Nat),(yo a b).length=a.length
  | [],_=>rfl
  | _ :: a,b=>by show (yo a (b + b)).length + 1=_; rw [vY a]; rfl
def Bd.used:Bd->List Str
  | .give x=>[x]
  | .lt _ d _=>d.uses
  | .iff x _ _=>[x]
  | .case x _=>[x]
mutual
def Bd.mk (ns:List Str):Bd->Nat
  | .give x=>0 ||| tog ns [x]
  | .lt x d b=>(0 ||| dif (b.mk ns) (tog ns [x])) ||| tog ns d.uses
  | .iff x a b=>((0 ||| dif (a.mk ns) (tog ns [])) ||| dif (b.mk ns) (tog ns [])) ||| tog ns [x]
  | .case x as=>Arms.mk ns as 0 ||| tog ns [x]
def Arms.mk (ns:List Str):Arms->Nat->Nat
  | .nil,f=>f
  | .cons _ xs b r,f=>Arms.mk ns r (f ||| dif (b.mk ns) (tog ns xs))
end
def accW (ns:List Str) (l:Wy) (f:Nat):Nat:=l.foldl (fun f w=>f ||| dif (w.2.mk ns) (tog ns w.1)) f
theorem Arms.mk_ways (ns:List Str):∀ (as:Arms) (f:Nat),Arms.mk ns as f=accW ns as.ways f
  | .nil,f=>by unfold Arms.mk Arms.ways accW; rfl
  | .cons t xs b r,f=>by
    unfold Arms.mk Arms.ways accW
    rw [List.foldl_cons]
    exact Arms.mk_ways ns r _
theorem Bd.mk_ways (ns:List Str) (b:Bd):b.mk ns=accW ns b.ways 0 ||| tog ns b.used:=by
  cases b with
  | give x=>unfold Bd.mk Bd.ways Bd.used accW; rfl
  | lt x d b=>rw [Bd.mk]; rfl
  | iff x a b=>rw [Bd.mk]; rfl
  | case x as=>rw [Bd.mk,Arms.mk_ways]; rfl
section
variable {ns:List Str} (nd:ns.Nodup) (i:Nat)
include nd
end
theorem Bd.sz_pos' (b:Bd):1<=b.sz:=by
  cases b <;> rw [Bd.sz] <;> lia
theorem vo:∀ l:Wy,l.length<=wsz l
  | []=>Nat.zero_le _
  | p :: l=>by
    have h1:=Bd.sz_pos' p.2
    have h2:=vo l
    unfold wsz at h2 ⊢
    rw [List.map_cons,List.sum_cons,List.length_cons]
    lia
end GN
namespace L2
open PySem PySem.Spec PyProof.Rows
def BMn (mg:Str->Option Value) (h:Heap):Prop:=∃ bm ob,mg "__builtins__"=some (.ref bm)/\bm≠builtinsNs/\h.get? bm=some ob/\ob.cls=.type "module"/\ob.dict=some builtinsNs/\ob.data=.plain
theorem BMn.at {mg:Str->Option Value} {h:Heap} {P:Addr} {ps:Array Value} (B:BMn mg h) (g:h.Ns mainGlobals mg) (hP:h.get? P=some { cls:=.none,data:=.fields ps }):h.BuiltinsAt mg P/\mainGlobals≠P:=by
  obtain ⟨bm,ob,b1,b2,b3,b4,b5,b6⟩:=B
  refine ⟨⟨bm,ob,b1,b2,fun q=>?_,fun q=>?_,b3,b4,b5,b6⟩,fun q=>?_⟩
  · obtain ⟨o,es,ep,e,hd,_⟩:=g
    rw [q,e] at b3; cases b3; rw [hd] at b6; cases b6
  · rw [q,hP] at b3; cases b3; cases b4
  · obtain ⟨o,es,ep,e,hd,_⟩:=g
    rw [q,hP] at e; cases e; cases hd
theorem BMn.keeps {mg:Str->Option Value} {h h':Heap} (B:BMn mg h) (k:∀ b o,h.get? b=some o->h'.get? b=some o):BMn mg h' :=
  let ⟨bm,ob,b1,b2,b3,r⟩:=B; ⟨bm,ob,b1,b2,k _ _ b3,r⟩
def FunO (f:Addr) (fd:FuncData):HO:=.ext fun h=>h.get? f=some { cls:=.type "function",data:=.func fd }
def CodO (c:Addr) (qual:Str):HO:=.ext fun h=>h.CodeRec (.ref c) qual
theorem Vh {P:Program} {w:World} {H:Hp} {h:Heap} {f:Addr} {fd:FuncData} (e:h.get? f=some { cls:=.type "function",data:=.func fd }):ObjOk P w H h f (FunO f fd) :=
  ⟨e,⟨_,e⟩,fun _ _ p k=>k _ p⟩
theorem zbe {P:Program} {w:World} {H:Hp} {h:Heap} {c:Addr} {qual:Str} (e:h.CodeRec (.ref c) qual):ObjOk P w H h c (CodO c qual) :=
  ⟨e,(let ⟨_,oc,_,_,q,e,_⟩:=e; by cases q; exact ⟨oc,e⟩),fun _ _ ⟨d,oc,vs,t,q,e,r⟩ k=>by cases q; exact ⟨c,oc,vs,t,rfl,k _ e,r⟩⟩
section
variable {X:Cx} {CX:CXT} {k:Nat} {x:Str} {ps:List Str} {sp:Sp} {dvs:List V} {E:XK} {p pos:Pos} {e:Expr} {es:List Expr} {t:TA}
end
def CelO (c:Addr) (v:V):HO:=.ext fun h=>∃ u,RelV v u/\h.IsCell c (some u)
def Cel (H:Hp) (c:Addr) (v:V):Prop:=∃ o,H c=some (.frz o (CelO c v))
theorem Vi {P:Program} {w:World} {H:Hp} {h:Heap} {c:Addr} {v:V} {u:Value} {o:Obj} (e:h.get? c=some o) (d:o.data=.cell (some u)) (r:RelV v u):ObjOk P w H h c (.frz o (CelO c v)) :=
  ⟨e,⟨u,r,o,e,d⟩,⟨o,e⟩,fun _ _ ⟨u,r,o,e,d⟩ k=>⟨u,r,o,k _ e,d⟩⟩
def yz (H:Hp) (as:List Addr):Hp:=fun b=>if b∈as then none else H b
def xn (H' H:Hp) (as:List Addr):Hp:=fun b=>if b∈as then H b else H' b
theorem xF {H:Hp} {as:List Addr} {b:Addr} (h:b∈as):yz H as b=none:=if_pos h
theorem zX {H:Hp} {as:List Addr} {b:Addr} (h:b ∉ as):yz H as b=H b:=if_neg h
theorem wL {H' H:Hp} {as:List Addr} {b:Addr} (h:b∈as):xn H' H as b=H b:=if_pos h
theorem yx {H' H:Hp} {as:List Addr} {b:Addr} (h:b ∉ as):xn H' H as b=H' b:=if_neg h
abbrev lamC (mg:Str->Option Value) (qual:Str) (params:Arguments) (body:Expr) (scope:Scope) (cl:List (Str × Addr)) (c:Addr) (ctv:Value):FuncData:=PySem.W.kla_fn "<lambda>" qual params body scope cl ((mg "__name__").getD .none) (.ref c) ctv
def Vj (mg:Str->Option Value) (T:Addr) (qual:Str) (params:Arguments) (body:Expr) (scope:Scope) (pos:Pos) (cl:List (Str × Addr)):TE:=fun _ H Q=>∃ ps,H T=some (.tbl ps)/\TriplesOk ps.toList /\
  ((codeAmong pos ps.toList=none/\∀ (c f:Addr) (ctv:Value),H c=none->H f=none->f≠c->Q (.ref f) (upd (upd (upd H T (.tbl (ps ++ #[rawInt pos.line,rawInt pos.col,.ref c]))) c (CodO c qual)) f (FunO f (lamC mg qual params body scope cl c ctv)))) \/
   (∃ c,codeAmong pos ps.toList=some (.ref c)/\∀ (f:Addr) (ctv:Value),H f=none->Q (.ref f) (upd H f (FunO f (lamC mg qual params body scope cl c ctv)))))
theorem Qa {X:Cx} {cl:List (Str × Addr)} {c T:Addr} {params:Arguments} {body:Expr} {scope:Scope} {pos:Pos} {qual:Str} (hB:BMn X.mg X.base) (hcode:X.env.code=.ref c) (hc:PySem.W.codeHdIn X.K c T=true) (hq:X.env.qual ++ "<lambda>"=qual)
    (hdef:defaultsOf params X.env=([],[])) (hcl:closureFor scope X.env=pure cl):PE X (.Lambda params body scope pos) (Vj X.mg T qual params body scope pos cl):=by
  intro pins s σ H Q I h
  refine PySem.W.kla_eval hdef ?_
  rw [hq]
  obtain ⟨ps,hT,tr,h⟩:=h
  have gT:s.heap.get? T=some { cls:=.none,data:=.fields ps }:=I.hok T _ hT
  have hg:=I.mod.glob.keeps I.bk
  obtain ⟨bAt,hgP⟩:=(hB.keeps I.bk).at hg gT
  rcases h with ⟨nf,h⟩ | ⟨c',hit,h⟩
  · refine PySem.W.kla_makeFunction (mg:=X.mg) hcl I.ok.glob hg hcode (PySem.W.codeHd_of_K I.kIn hc) gT tr nf hgP bAt fun c' ctv h' tk ext ge lt rec tab=>?_
    have hc0:H c'=none:=I.hok.fresh ge
    have hf0:H h'.objs.size=none:=I.hok.fresh (Nat.le_trans ge (Nat.le_of_lt lt))
    have nfc:h'.objs.size≠c':=Nat.ne_of_gt lt
    have ncT:T≠c':=zi hT hc0
    have nfT:T≠h'.objs.size:=zi hT hf0
    have elsewhere:∀ b,b≠T->b≠c'->b≠h'.objs.size->upd (upd (upd H T (.tbl (ps ++ #[rawInt pos.line,rawInt pos.col,.ref c']))) c' (CodO c' qual)) h'.objs.size (FunO h'.objs.size (lamC X.mg qual params body scope cl c' ctv)) b=H b:=fun b h1 h2 h3=>by rw [zg h3,zg h2,zg h1]
    have hU:∀ b u,H b=some u->b≠T->upd (upd (upd H T (.tbl (ps ++ #[rawInt pos.line,rawInt pos.col,.ref c']))) c' (CodO c' qual)) h'.objs.size (FunO h'.objs.size (lamC X.mg qual params body scope cl c' ctv)) b=some u:=fun b u e n=>by
      rw [elsewhere b n (zi e hc0) (zi e hf0)]; exact e
    have hTb:upd (upd (upd H T (.tbl (ps ++ #[rawInt pos.line,rawInt pos.col,.ref c']))) c' (CodO c' qual)) h'.objs.size (FunO h'.objs.size (lamC X.mg qual params body scope cl c' ctv)) T=some (.tbl (ps ++ #[rawInt pos.line,rawInt pos.col,.ref c'])):=by
      rw [zg nfT,zg ncT]; exact zf
    have keep:∀ b o,b≠T->s.heap.get? b=some o->(h'.push (PySem.W.kla_obj "<lambda>" qual params body scope cl ((X.mg "__name__").getD .none) c' ctv)).get? b=some o:=fun b o n e=>Heap.get?_push_of_some _ (ext b o n e)
    have neT:∀ b,H b=none->b≠T:=fun b e n=>by rw [n,hT] at e; cases e
    refine ⟨.ref h'.objs.size,_,I.un (t':=tk) (H':=upd (upd (upd H T (.tbl (ps ++ #[rawInt pos.line,rawInt pos.col,.ref c']))) c' (CodO c' qual)) h'.objs.size (FunO h'.objs.size (lamC X.mg qual params body scope cl c' ctv))) ⟨fun b o e n _ _=>keep b o (neT b n) e,fun b o e n _ _=>⟨o.slots,keep b o (neT b n) e⟩,fun b o e n _=>?_,fun b o e _=>?_,fun b xs e=>hU b _ e (fun z=>by rw [z,hT] at e; cases e),fun b o xs e=>hU b _ e (fun z=>by rw [z,hT] at e; cases e),fun b qs e=>?_⟩ ?_,rfl,h c' _ ctv hc0 hf0 nfc⟩
    · have l:=Heap.lt_size e
      rw [elsewhere b (neT b n) (Nat.ne_of_lt (Nat.lt_of_lt_of_le l ge)) (Nat.ne_of_lt (Nat.lt_trans (Nat.lt_of_lt_of_le l ge) lt))]
      exact n
    · by_cases z:b=T
      · rw [z]; exact ⟨_,Heap.get?_push_of_some _ tab⟩
      · exact ⟨o,keep b o z e⟩
    · by_cases z:b=T
      · subst z
        rw [hT] at e; cases e
        exact ⟨_,hTb⟩
      · exact ⟨#[],by rw [hU b _ e z]; simp⟩
    · intro b u e
      by_cases z1:b=h'.objs.size
      · subst z1
        rw [zf] at e; cases e
        exact Vh (Heap.get?_push_size _ rfl)
      rw [zg z1] at e
      by_cases z2:b=c'
      · subst z2
        rw [zf] at e; cases e
        obtain ⟨d,oc,vs,t,q,e,r⟩:=rec
        exact zbe ⟨d,oc,vs,t,q,Heap.get?_push_of_some _ e,r⟩
      rw [zg z2] at e
      by_cases z3:b=T
      · subst z3
        rw [zf] at e; cases e
        exact Heap.get?_push_of_some _ tab
      rw [zg z3] at e
      refine (I.hok b u e).stay (fun d v hd q=>keep d v ?_ q) (fun d q=>hU d _ q fun z=>by rw [z,hT] at q; cases q) fun d xs q=>hU d _ q fun z=>by rw [z,hT] at q; cases q
      rcases hd with rfl | hd
      · exact z3
      · intro z
        rw [z,hT] at hd; cases hd
  · refine PySem.W.kla_makeFunctionHit (mg:=X.mg) hcl I.ok.glob hg hcode (PySem.W.codeHd_of_K I.kIn hc) gT tr hit bAt fun ctv h' tk kp sz=>?_
    have hf0:H h'.objs.size=none:=I.hok.fresh sz
    exact ⟨.ref h'.objs.size,_,I.laid (t':=tk) (o:=FunO h'.objs.size (lamC X.mg qual params body scope cl c' ctv)) (fun b u e=>Heap.get?_push_of_some _ (kp b u e)) sz (Vh (Heap.get?_push_size _ rfl)),rfl,h _ ctv hf0⟩
theorem Y5 {X:Cx} {cl:List (Str × Addr)} {c T:Addr} {params:Arguments} {body:Expr} {scope:Scope} {pos:Pos} {qual:Str} (hB:BMn X.mg X.base) (hcode:X.env.code=.ref c) (hc:PySem.W.codeHdIn X.K c T=true) (hq:X.env.qual ++ "<lambda>"=qual)
    (hdef:defaultsOf params X.env=([],[]):=by rfl) (hcl:closureFor scope X.env=pure cl:=by with_unfolding_all rfl):jE X (.Lambda params body scope pos) (Vj X.mg T qual params body scope pos cl):=⟨Qa hB hcode hc hq hdef hcl⟩
structure LamScope (N ps fs:List Str) (sc:Scope):Prop where
  kind:sc.kind=.function
  co:sc.isCoroutine=false
  gen:sc.isGenerator=false
  nd:N.Nodup
  cat:N=ps ++ fs
  par:∀ x∈ps,sc.names.lookup x=some .local
  fre:∀ x∈fs,sc.names.lookup x=some .free
  nocell:∀ y∈sc.names,y.2≠.cell
  has:∀ y∈sc.names,y.2=.free->y.1∈fs
structure Clo (H:Hp) (cl:List (Str × Addr)) (fs:List Str) (fvs:List V):Prop where
  len:fvs.length=fs.length
  all:∀ p∈cl,∃ v,Cel H p.2 v
  get:∀ (i:Nat) (x:Str) (v:V),fs[i]?=some x->fvs[i]?=some v->∃ a,cl.lookup x=some a/\Cel H a v
  has:∀ x∈fs,∃ a,cl.lookup x=some a
  inj:∀ x y a,cl.lookup x=some a->cl.lookup y=some a->x=y
def Vk (CX:CXT) (P:Program) (w:World) (K:PySem.W.Frag) (mg:Str->Option Value) (base:Heap) (N:List Str) (qual:Str) (scope:Scope) (f:Addr) (cd:Value) (cl:List (Str × Addr)) (A:Around) (outer:List Env) (s:Shared) (H:Hp) (E:XK):Cx where
  prog:=P
  w:=w
  K:=K
  mg:=mg
  base:=base
  A:=A.deeper (PySem.W.envX qual scope s.heap.objs.size f cd cl)
  N:=N
  s₀:=s
  H₀:=yz H (cl.map (·.2))
  env:=PySem.W.envX qual scope s.heap.objs.size f cd cl
  outer:=outer
  stack:=PySem.W.envX qual scope s.heap.objs.size f cd cl :: outer
  ex:=[]
  calm:=true
  fn:=fun _=>false
  pn:=[]
  xe:=fun e s'=>wpAny (model P w) (A.deeper (PySem.W.envX qual scope s.heap.objs.size f cd cl)) (leaving (PySem.W.envX qual scope s.heap.objs.size f cd cl) e) (fun _ s''=>CX outer H s E e s'') (fun e' s''=>CX outer H s E e' s'') s'
theorem vq {x:Str} {v:Value}:∀ {P:List Str} {vs:List Value} {i:Nat},P.Nodup->P[i]?=some x->vs[i]?=some v->(P.zip vs).reverse.lookup x=some v
  | [],_,_,_,h,_=>by simp at h
  | _ :: _,[],_,_,_,h=>by simp at h
  | p :: P,w :: vs,0,nd,h1,h2=>by
    simp at h1 h2; subst h1; subst h2
    have hn:∀ y∈(P.zip vs).reverse,y.1≠p:=fun y hy z=>(List.nodup_cons.mp nd).1 (z ▸ (List.of_mem_zip (List.mem_reverse.mp hy)).1)
    rw [List.zip_cons_cons,List.reverse_cons,List.lookup_append]
    have:(P.zip vs).reverse.lookup p=none:=List.lookup_eq_none_iff.mpr fun y hy=>by simpa using fun z=>hn y hy z.symm
    rw [this]
    simp
  | p :: P,w :: vs,i + 1,nd,h1,h2=>by
    rw [List.zip_cons_cons,List.reverse_cons,List.lookup_append,vq (i:=i) (List.nodup_cons.mp nd).2 (by simpa using h1) (by simpa using h2)]
    rfl
section
variable {P:Program} {w:World} {H H':Hp} {h h':Heap} {as:List Addr}
theorem zJ (hc:∀ a∈as,∃ v,Cel H a v) {b:Addr} {u:HO} (e:H b=some u) (n:∀ o c v,u≠.frz o (CelO c v)):yz H as b=some u:=by
  rw [zX]
  · exact e
  · intro z
    obtain ⟨v,o,q⟩:=hc b z
    rw [e] at q
    exact n _ _ _ (Option.some.inj q)
theorem Y6 (hc:∀ a∈as,∃ v,Cel H a v) (x:HOk P w H h):HOk P w (yz H as) h:=fun b u e=>by
  have nb:b ∉ as:=fun z=>by rw [xF z] at e; cases e
  rw [zX nb] at e
  exact (x b u e).stay (fun _ _ _ q=>q) (fun d q=>zJ hc q (by intro _ _ _ z; cases z)) fun d xs q=>zJ hc q (by intro _ _ _ z; cases z)
theorem Qb (hn:∀ a∈as,H' a=none) (hk:∀ a∈as,∀ u,H a=some u->∃ v o,u=.frz o (CelO a v)/\h.get? a=some o/\h'.get? a=some o) (x:HOk P w H h) (x':HOk P w H' h'):HOk P w (xn H' H as) h':=fun b u e=>by
  have up:∀ d z,H' d=some z->xn H' H as d=some z:=fun d z q=>by
    rw [yx]
    · exact q
    · intro y; rw [hn d y] at q; cases q
  by_cases nb:b∈as
  · rw [wL nb] at e
    obtain ⟨v,o,rfl,e1,e2⟩:=hk b nb u e
    obtain ⟨_,⟨u',r,o',e3,d⟩,_⟩:=x b _ e
    rw [e1] at e3; cases e3
    exact Vi e2 d r
  · rw [yx nb] at e
    exact (x' b u e).stay (fun _ _ _ q=>q) (fun d q=>up d _ q) fun d xs q=>up d _ q
theorem Qc {fs:List Addr} (hc:∀ a∈as,∃ v,Cel H a v) (u:Un fs [] (yz H as) H' h h') (hn:∀ a∈as,H' a=none):Un fs [] H (xn H' H as) h h':=by
  have no:∀ b,H b=none->b ∉ as:=fun b n z=>by
    obtain ⟨v,o,q⟩:=hc b z
    rw [n] at q; cases q
  have mk:∀ b,H b=none->yz H as b=none:=fun b n=>by rw [zX (no b n)]; exact n
  have up:∀ d z,H' d=some z->xn H' H as d=some z:=fun d z q=>by
    rw [yx]
    · exact q
    · intro y; rw [hn d y] at q; cases q
  refine ⟨fun b o e n hb hx=>u.keep b o e (mk b n) hb hx,fun b o e n hb hx=>u.slot b o e (mk b n) hb hx,fun b o e n hx=>?_,u.there,fun b xs e=>up _ _ (u.tups b xs (zJ hc e (by intro _ _ _ z; cases z))),fun b o x e=>?_,fun b ps e=>?_⟩
  · rw [yx (no b n)]
    exact u.free b o e (mk b n) hx
  · by_cases z:b∈as
    · rw [wL z]; exact e
    · rw [yx z]
      exact u.frzs b o x (by rw [zX z]; exact e)
  · obtain ⟨more,q⟩:=u.tbls b ps (zJ hc e (by intro _ _ _ z; cases z))
    exact ⟨more,up _ _ q⟩
end
theorem Y7 {CX:CXT} {P:Program} {w:World} {K:PySem.W.Frag} {mg:Str->Option Value} {base:Heap} {k:Nat} {f c:Addr} {name qual:Str} {params:Arguments} {body:Expr} {scope:Scope} {cl:List (Str × Addr)} {pm ct:Value}
    {N ps fs:List Str} {sp:Sp} (S:LamScope N ps fs scope) (len:∀ vs H Q E,sp vs H Q E->vs.length=ps.length)
    (hbody:∀ (A:Around) (outer:List Env) (s:Shared) (H:Hp) (vs:List V) (Q:VK) (E:XK),Room k (A.deeper (PySem.W.envX qual scope s.heap.objs.size f (.ref c) cl))->sp vs H Q E ->
      H f=some (FunO f (PySem.W.kla_fn name qual params body scope cl pm (.ref c) ct))/\H c=some (CodO c qual)/\∃ fvs,Clo H cl fs fvs /\
      ∃ t,jE (Vk CX P w K mg base N qual scope f (.ref c) cl A outer s H E) body t/\t (vs.map some ++ fvs.map some) (yz H (cl.map (·.2))) fun v H'=>(∀ a∈cl.map (·.2),H' a=none)->Q v (xn H' H (cl.map (·.2)))) :
    FnOk P w K mg base CX (k + 1) f (PySem.W.kla_fn name qual params body scope cl pm (.ref c) ct) ps sp:=by
  refine ⟨len,fun A outer s H args us vs Q E hr e0 hb r hsp=>?_⟩
  have hl:=len _ _ _ _ hsp
  have lim:s.heap.NoLimit:=e0.mod.nolimit.keeps fun b o e=>(e0.bs b o e).1
  obtain ⟨hf,hc,fvs,C,t,ht,hq⟩:=hbody A outer s H vs Q E (hr.deeper _) hsp
  have of:=(e0.hok f _ hf).1
  have oc:=(e0.hok c _ hc).1
  have hcA:∀ a∈cl.map (·.2),∃ v,Cel H a v:=fun a ha=>by
    obtain ⟨p,hp,rfl⟩:=List.mem_map.mp ha
    exact C.all p hp
  have hcl:∀ x a,cl.lookup x=some a->a∈cl.map (·.2):=fun x a e=>List.mem_map.mpr ⟨(x,a),PySem.mem_of_lookup e,rfl⟩
  refine PySem.W.kla_callFunE hr.depth of rfl S.co S.gen rfl oc (hb _ _ _ _ ?_)
  refine wpAny_newFunctionEnv S.nocell (fun y hy=>S.par _ (List.of_mem_zip hy).1) (fun h₁ hns hsb=>?_) S.kind
  have hk₁:∀ b o,s.heap.get? b=some o->h₁.get? b=some o:=fun b o e=>hsb.extBut b o (Nat.ne_of_lt (Heap.lt_size e)) (Heap.get?_push_of_some _ e)
  refine ⟨lim.keeps hk₁,PySem.W.kla_codeExpr ?_⟩
  have isc:∀ x a,cl.lookup x=some a->∃ v,Cel H a v:=fun x a e=>hcA a (hcl x a e)
  have cget:∀ a v,Cel H a v->∃ u,RelV v u/\s.heap.IsCell a (some u):=fun a v ⟨o,q⟩=>(e0.hok a _ q).2.1
  have I:Inv (Vk CX P w K mg base N qual scope f (.ref c) cl A outer s H E) [] (vs.map some ++ fvs.map some) (yz H (cl.map (·.2))) { s with heap:=h₁,toks:=s.toks + (ps.zip us).length }:=by
    have noA:∀ b:Addr,b ∉ (Vk CX P w K mg base N qual scope f (.ref c) cl A outer s H E).ex:=fun b z=>absurd (show b∈([]:List Addr) from z) (by simp)
    have mnone:∀ b,H b=none->yz H (cl.map (·.2)) b=none:=fun b e=>by
      unfold yz
      split
      · rfl
      · exact e
    refine ⟨⟨e0.mod,S.kind,rfl,rfl,Nat.le_refl _,fun y z a h1 h2=>C.inj y z a h1 h2,fun y hy=>?_,fun y a z=>absurd (show false=true from z) (by decide),fun _=>hr.hd,Around.frames_deeper e0.frames,.inr ⟨rfl,rfl⟩,fun b z=>absurd z (noA b),fun b o e=>⟨(e0.bs b o e).1,mnone _ (e0.bs b o e).2⟩,e0.bsz,fun b _ _=>noA b,fun b z=>absurd z (noA b),e0.funs,fun b hb=>mnone _ (e0.frf b hb)⟩,
      rfl,e0.bare,Un.kept hk₁,⟨_,hns,fun i y v h1 h2 h3=>?_⟩,fun y a h=>?_,mnone _ (e0.hok.fresh (Nat.le_refl _)),fun y a h=>xF (hcl y a h),fun p hp=>absurd (show p∈([]:List (Addr × Obj)) from hp) (by simp),Y6 hcA (e0.hok.kept hk₁),?_⟩
    · have hy:scope.names.lookup y=some .cell\/scope.names.lookup y=some .free:=hy
      rcases hy with hy | hy
      · exact absurd rfl (S.nocell _ (PySem.mem_of_lookup hy))
      · exact C.has y (S.has _ (PySem.mem_of_lookup hy) rfl)
    · have h1:(ps ++ fs)[i]?=some y:=by rw [<- S.cat]; exact h1
      have ndP:ps.Nodup:=by have:=S.nd; rw [S.cat] at this; exact (List.nodup_append.mp this).1
      by_cases hi:i < vs.length
      · rw [List.getElem?_append_left (by simpa using hi),List.getElem?_map] at h2
        rw [List.getElem?_append_left (by lia)] at h1
        cases e:vs[i]? with
        | none=>rw [e] at h2; cases h2
        | some a =>
          rw [e] at h2; cases h2
          obtain ⟨u,hu,rv⟩:=r.get e
          exact ⟨u,rv,.inl ⟨S.par y (List.mem_of_getElem? h1),vq ndP h1 hu⟩⟩
      · rw [List.getElem?_append_right (by simpa using hi),List.getElem?_map] at h2
        rw [List.getElem?_append_right (by lia)] at h1
        rw [List.length_map,hl] at h2
        cases e:fvs[i - ps.length]? with
        | none=>rw [e] at h2; cases h2
        | some a =>
          rw [e] at h2; cases h2
          obtain ⟨ca,g1,g2⟩:=C.get _ _ _ h1 e
          obtain ⟨u,rv,q⟩:=cget _ _ g2
          exact ⟨u,rv,.inr ⟨.inr (S.fre y (List.mem_of_getElem? h1)),ca,g1,q.keeps hk₁⟩⟩
    · obtain ⟨v,q⟩:=isc y a h
      obtain ⟨u,_,q⟩:=cget _ _ q
      exact ⟨_,q.keeps hk₁⟩
    · show _=N.length
      rw [S.cat,List.length_append,List.length_append,List.length_map,List.length_map,C.len,hl]
  refine wpAny_mono (ht.out [] _ _ _ _ I hq) (fun u s' hs=>?_) fun e s' hs=>hs
  obtain ⟨v,H',J,rv,q⟩:=hs
  have hn:∀ a∈cl.map (·.2),H' a=none:=fun a ha=>by
    obtain ⟨v,o,q⟩:=hcA a ha
    obtain ⟨e1,_⟩:=e0.hok a _ q
    exact J.base.free a o e1 (xF ha) (by exact fun z=>absurd (show a∈([]:List Addr) from z) (by simp))
  refine ⟨v,_,J.os,J.bare,Qc hcA J.base hn,Qb hn (fun a ha u e=>?_) e0.hok J.hok,rv,q hn⟩
  obtain ⟨v',o,q'⟩:=hcA a ha
  rw [q'] at e; cases e
  obtain ⟨e1,_⟩:=e0.hok a _ q'
  refine ⟨v',o,rfl,e1,J.base.keep a o e1 (xF ha) (fun z=>?_) (fun z=>absurd (show a∈([]:List Addr) from z) (by simp))⟩
  rw [e0.frf a z] at q'
  cases q'
structure EndsR where
  nx:St->Hp->Prop
  rt:St->V->Hp->Prop
abbrev TR:=EndsR->St->Hp->Prop
def SPR (X:Cx) (D:EndsR) (f:Flow) (s':Shared):Prop :=
  match f with
  | .next=>∃ σ' H',Inv X [] σ' H' s'/\D.nx σ' H'
  | .ret u=>∃ v σ' H',Inv X [] σ' H' s'/\RelV v u/\D.rt σ' v H'
  | _=>False
structure jR (X:Cx) (st:List Stmt) (t:TR):Prop where
  out:∀ (s:Shared) (σ:St) (H:Hp) (D:EndsR),Inv X [] σ H s->t D σ H->wpAny (model X.prog X.w) X.A (execs st X.env) (SPR X D) X.xe s
section
variable {X:Cx} {st:Stmt} {rest A:List Stmt} {t:TS} {u tA:TR} {e c:Expr} {te:TE} {tc:TT} {pos:Pos}
def zb7 (t:TS) (u:TR):TR:=fun D σ H=>t { nx:=u D,rt:=fun _ _=>False } σ H
theorem Qd (h1:jS X st t) (h2:jR X rest u):jR X (st :: rest) (zb7 t u):=⟨by
  intro s σ H D I h
  refine wpAny_execs_cons (thn (h1.out [] s σ H { nx:=u D,rt:=fun _ _=>False } I h) fun f s1 q=>?_)
  cases f with
  | next =>
    obtain ⟨σ',H',I',q⟩:=q
    exact h2.out s1 σ' H' D I' q
  | ret v =>
    obtain ⟨_,_,_,_,_,q⟩:=q
    exact False.elim q
  | brk =>
    obtain ⟨_,_,_,q⟩:=q
    exact False.elim q
  | cont =>
    obtain ⟨_,_,_,q⟩:=q
    exact False.elim q⟩
theorem zbf (he:jE X e te):jR X [.Return (some e) pos] (fun D σ H=>te σ H (D.rt σ)):=⟨by
  intro s σ H D I h
  refine wpAny_execs_cons (wpAny_Return_some (thn (he.out [] s σ H _ I h) fun v s1 ⟨x,H1,I1,r1,q1⟩=>?_))
  exact ⟨x,σ,H1,I1,r1,q1⟩⟩
end
structure Pub (H H3:Hp) (cvs:List (Addr × V)):Prop where
  old:∀ b,b ∉ cvs.map (·.1)->H3 b=H b
  non:∀ p∈cvs,H p.1=none
  cel:∀ p∈cvs,Cel H3 p.1 p.2
def CellsAt (X:Cx) (σ:St) (cvs:List (Addr × V)):Prop:=∀ p∈cvs,∃ (i:Nat) (x:Str),X.N[i]?=some x/\σ[i]?=some (some p.2)/\X.env.cells.lookup x=some p.1/\(X.env.scope.names.lookup x=some .cell\/X.env.scope.names.lookup x=some .free)
theorem CellsAt.cell {X:Cx} {pins:List (Addr × Obj)} {σ:St} {H:Hp} {s:Shared} {cvs:List (Addr × V)} (I:Inv X pins σ H s) (h:CellsAt X σ cvs):∀ p∈cvs,∃ o u,s.heap.get? p.1=some o/\o.data=.cell (some u)/\RelV p.2 u:=fun p hp=>by
  obtain ⟨i,x,e1,e2,e3,e4⟩:=h p hp
  obtain ⟨m,_,l⟩:=I.loc
  obtain ⟨u,r,l⟩:=l i x _ e1 e2 (.inr e4)
  rcases l with ⟨k,_⟩ | ⟨_,c,q,o,e,d⟩
  · have k:X.env.scope.names.lookup x=some .local:=k
    rcases e4 with e4 | e4 <;> rw [e4] at k <;> cases k
  · rw [e3] at q; cases q
    exact ⟨o,u,e,d,r⟩
def pubH (h:Heap) (H:Hp) (cvs:List (Addr × V)):Hp:=fun b=>match cvs.find? (fun p=>p.1 == b) with
  | some p=>some (.frz ((h.get? b).getD { cls:=.none,data:=.plain }) (CelO b p.2))
  | none=>H b
theorem Ym {h:Heap} {H:Hp} {cvs:List (Addr × V)} {b:Addr} (hb:b∈cvs.map (·.1)):∃ v,(b,v)∈cvs/\pubH h H cvs b=some (.frz ((h.get? b).getD { cls:=.none,data:=.plain }) (CelO b v)):=by
  obtain ⟨p,hp,rfl⟩:=List.mem_map.mp hb
  cases e:cvs.find? (fun q=>q.1 == p.1) with
  | none=>exact absurd (List.find?_eq_none.mp e p hp) (by simp)
  | some q =>
    have h1:=List.find?_some e
    have h2:=List.mem_of_find?_eq_some e
    have h3:q.1=p.1:=by simpa using h1
    refine ⟨q.2,by rw [<- h3]; exact h2,?_⟩
    unfold pubH
    rw [e]
theorem yA {h:Heap} {H:Hp} {cvs:List (Addr × V)} {b:Addr} (hb:b ∉ cvs.map (·.1)):pubH h H cvs b=H b:=by
  unfold pubH
  rw [List.find?_eq_none.mpr fun p hp=>by simpa using fun z:p.1=b=>hb (List.mem_map.mpr ⟨p,hp,z⟩)]
section
variable {X:Cx} {pins:List (Addr × Obj)} {σ:St} {H:Hp} {s:Shared} {cvs:List (Addr × V)}
theorem Qe (I:Inv X pins σ H s) (h:CellsAt X σ cvs) (hN:X.N.Nodup) {b:Addr} {v v':V} (h1:(b,v)∈cvs) (h2:(b,v')∈cvs):v=v':=by
  obtain ⟨i,x,e1,e2,e3,_⟩:=h _ h1
  obtain ⟨j,y,g1,g2,g3,_⟩:=h _ h2
  have:=I.ok.inj x y b e3 g3
  subst this
  have:i=j:=(List.getElem?_inj (List.getElem?_eq_some_iff.mp e1).1 hN).mp (e1.trans g1.symm)
  subst this
  rw [e2] at g2
  cases g2
  rfl
theorem Vl (I:Inv X pins σ H s) (h:CellsAt X σ cvs) (hN:X.N.Nodup):Pub H (pubH s.heap H cvs) cvs :=
  ⟨fun b hb=>yA hb,fun p hp=>let ⟨_,x,_,_,e3,_⟩:=h p hp; I.freeC x _ e3,fun p hp=>by
    obtain ⟨v,hv,e⟩:=Ym (h:=s.heap) (H:=H) (List.mem_map.mpr ⟨p,hp,rfl⟩)
    have:=Qe I h hN (b:=p.1) (v:=v) (v':=p.2) hv hp
    subst this
    exact ⟨_,e⟩⟩
theorem Vm (I:Inv X pins σ H s) (h:CellsAt X σ cvs):HOk X.prog X.w (pubH s.heap H cvs) s.heap:=fun b u e=>by
  have up:∀ d z,H d=some z->pubH s.heap H cvs d=some z:=fun d z q=>by
    rw [yA]
    · exact q
    · intro y
      obtain ⟨p,hp,rfl⟩:=List.mem_map.mp y
      obtain ⟨_,x,_,_,e3,_⟩:=h p hp
      rw [I.freeC x _ e3] at q; cases q
  by_cases hb:b∈cvs.map (·.1)
  · obtain ⟨v,hv,e'⟩:=Ym (h:=s.heap) (H:=H) hb
    rw [e'] at e; cases e
    obtain ⟨o,u,e1,e2,r⟩:=h.cell I _ hv
    have e1:s.heap.get? b=some o:=e1
    rw [e1]
    exact Vi e1 e2 r
  · rw [yA hb] at e
    exact (I.hok b u e).stay (fun _ _ _ q=>q) (fun d q=>up d _ q) fun d xs q=>up d _ q
end
theorem zbg {CX:CXT} {P:Program} {w:World} {K:PySem.W.Frag} {mg:Str->Option Value} {base:Heap} {k:Nat} {f:Addr} {name qual:Str} {params:Arguments} {body:List Stmt} {scope:Scope} {dV kV doc pm cdv ct oc:Value} {an od:Option Addr}
    {osl:Array (Option Value)} {N ps:List Str} {sp:Sp} (lk:K.lookup f=some ⟨oc,od,.func (PySem.W.fnOf name qual params body scope dV kV doc pm an cdv ct),osl⟩) (hcd:PySem.W.codeIn K cdv qual=true) (S:FnScope N ps scope)
    (len:∀ vs H Q E,sp vs H Q E->vs.length=ps.length)
    (hbody:∀ (A:Around) (outer:List Env) (s:Shared) (H:Hp) (vs:List V) (Q:VK) (E:XK),Room k (A.deeper (envOfC qual scope s.heap.objs.size f cdv))->sp vs H Q E->(∀ b,s.heap.objs.size<=b->H b=none) ->
      ∃ t,jR (cxOf CX P w K mg base N qual scope f cdv A outer s H E) body t/\t { nx:=fun _ H'=>Q .non H',rt:=fun σ v H'=>∃ cvs,CellsAt (cxOf CX P w K mg base N qual scope f cdv A outer s H E) σ cvs/\∀ H3,Pub H' H3 cvs->Q v H3 } (yE N vs) H) :
    FnOk P w K mg base CX (k + 1) f (PySem.W.fnOf name qual params body scope dV kV doc pm an cdv ct) ps sp:=by
  refine ⟨len,fun A outer s H args us vs Q E hr e0 hb r hsp=>?_⟩
  have hl:=len _ _ _ _ hsp
  have KX:K.In s.heap:=e0.mod.kin.keeps fun b o e=>(e0.bs b o e).1
  have lim:s.heap.NoLimit:=e0.mod.nolimit.keeps fun b o e=>(e0.bs b o e).1
  have hkind:∀ y∈ps.zip us,scope.names.lookup y.1=some .local\/(scope.names.lookup y.1=some .cell/\((cellsFrom (s.heap.objs.size + 1) scope.names []).lookup y.1).isSome=true):=fun ⟨n,v⟩ hy=>by
    rcases S.par n (List.of_mem_zip hy).1 with q | q
    · exact .inl q
    · exact .inr ⟨q,PySem.W.cellsFrom_some _ _ _ (.inl q)⟩
  refine codeAny_call_function hr.depth (KX _ _ lk) rfl S.co S.gen rfl (PySem.W.codeRec_of KX hcd) (hb _ _ _ _ ?_)
  refine wpAny_newFunctionEnv_cells S.kind hkind fun env he s1 x=>?_
  subst he
  refine ⟨lim.keeps x.toInCall.keep,codeAny_func ?_⟩
  obtain ⟨t,ht,hq⟩:=hbody A outer s H vs Q E (hr.deeper _) hsp fun b hb=>e0.hok.fresh hb
  have I:Inv (cxOf CX P w K mg base N qual scope f cdv A outer s H E) [] (yE N vs) H s1:=vQ S hr.hd e0 hl r x
  refine wpAny_mono (ht.out s1 (yE N vs) H _ I hq) (fun fl s' hs=>?_) fun e s' hs=>hs
  cases fl with
  | ret u =>
    obtain ⟨v,σ',H',J,rv,cvs,hc,q⟩:=hs
    have pb:=Vl J hc S.nd
    have q:=q _ pb
    have ab:∀ b,b∈cvs.map (·.1)->s.heap.objs.size<=b:=fun b hb=>by
      obtain ⟨p,hp,rfl⟩:=List.mem_map.mp hb
      obtain ⟨_,x,_,_,e3,_⟩:=hc p hp
      exact J.ok.cab x _ rfl e3
    have no:∀ b o,H' b=some o->b ∉ cvs.map (·.1):=fun b o e hb=>by
      obtain ⟨p,hp,rfl⟩:=List.mem_map.mp hb
      rw [pb.non p hp] at e; cases e
    have un:Un (frs outer) [] H H' s.heap s'.heap:=J.base
    refine ⟨v,_,J.os,J.bare,⟨un.keep,un.slot,fun b o e n hx=>?_,un.there,fun b xs e=>?_,fun b o xs e=>?_,fun b p e=>?_⟩,Vm J hc,rv,q⟩
    · rw [pb.old b fun z=>absurd (Nat.lt_of_lt_of_le (Heap.lt_size e) (ab b z)) (Nat.lt_irrefl _)]
      exact un.free b o e n hx
    · have e':=un.tups b xs e
      rw [pb.old b (no b _ e')]; exact e'
    · have e':=un.frzs b o xs e
      rw [pb.old b (no b _ e')]; exact e'
    · obtain ⟨more,e'⟩:=un.tbls b p e
      exact ⟨more,by rw [pb.old b (no b _ e')]; exact e'⟩
  | next =>
    obtain ⟨σ',H',J,q⟩:=hs
    exact ⟨.non,H',J.os,J.bare,J.base,J.hok,rfl,q⟩
  | brk=>exact False.elim hs
  | cont=>exact False.elim hs
def zbh (X:Cx) (sp:Sp) (E:XK) (t:TA):TE:=fun σ H Q=>t σ H fun vs H1=>∃ cvs,CellsAt X σ cvs/\∀ H3,Pub H1 H3 cvs->sp vs H3 (fun r H4=>(∀ p∈cvs,Cel H4 p.1 p.2)->Q r (yz H4 (cvs.map (·.1)))) E
theorem zbi {X:Cx} {k:Nat} {ps:List Str} {sp:Sp} {E:XK} {x:Str} {p pos:Pos} {e:Expr} {es:List Expr} {t:TA} (F:Ca X.prog X.w X.K X.mg X.base CX0 k x ps sp) (hr:Room k X.A) (hN:X.N.Nodup) (hg:Gl X x) (hfn:∀ x,X.fn x=true) (ha:jA X (e :: es) t)
    (hdb:(x == ("__debug__":Str))=false:=by decide) (h1:zp e=false:=by rfl) (h2:es.all (fun e=>!zp e)=true:=by rfl) :
    jE X (.Call (.Name x p) (e :: es) [] pos) (zbh X sp E t):=⟨by
  obtain ⟨f,fd,F,hb,hk,hm⟩:=F.ex
  intro pins s σ H Q I h
  refine wpAny_Call_Name_kw (xA I hg hm ?_ hdb)
  refine PySem.W.callWith_K (h₀:=X.base) I.ok.mod.kin hk (thn (ha.out pos pins s σ H _ I h) fun us s1 ⟨vs,H1,I1,r,cvs,hc,q⟩=>⟨I1.kIn,?_⟩) (zB h1) (yh h2)
  have pb:=Vl I1 hc hN
  have ok3:=Vm I1 hc
  have q:=q _ pb
  have hl:us.length=ps.length:=by rw [<- r.length]; exact F.len _ _ _ _ q
  have nas:∀ b o,H1 b=some o->b ∉ cvs.map (·.1):=fun b o e hb=>by
    obtain ⟨p,hp,rfl⟩:=List.mem_map.mp hb
    rw [pb.non p hp] at e; cases e
  have e0:Env0 X.prog X.w X.K X.mg X.base X.A X.stack s1 (pubH s1.heap H1 cvs):=by
    have z:=I1.env0
    refine ⟨z.frames,z.mod,fun b o e=>⟨(z.bs b o e).1,?_⟩,z.bsz,z.funs,fun b hb=>?_,ok3,z.bare⟩
    · rw [yA]
      · exact (z.bs b o e).2
      · intro hb
        obtain ⟨p,hp,rfl⟩:=List.mem_map.mp hb
        obtain ⟨_,y,_,_,e3,_⟩:=hc p hp
        exact absurd (Nat.lt_of_lt_of_le (Heap.lt_size e) (Nat.le_trans I1.ok.bsz (I1.ok.cab y _ (hfn y) e3))) (Nat.lt_irrefl _)
    · rw [yA]
      · exact z.frf b hb
      · intro hb'
        obtain ⟨p,hp,rfl⟩:=List.mem_map.mp hb'
        obtain ⟨_,y,_,_,e3,_⟩:=hc p hp
        rcases List.mem_cons.mp (I1.stkSub _ hb) with q | q
        · exact I1.cne y _ e3 q
        · obtain ⟨_,o,ho,_⟩:=I1.ok.funs.mem q
          exact absurd (Nat.lt_of_lt_of_le (Heap.lt_size ho) (I1.ok.cab y _ (hfn y) e3)) (Nat.lt_irrefl _)
  refine wpAny_call (codeAny_mono (F.run X.A X.stack s1 _ ⟨us,[]⟩ us vs _ E hr e0 (by have:=hb s1 us I1.kIn (by simpa using hl); simpa using this) r q) fun r s' hq=>?_)
  cases r with
  | error e=>exact False.elim hq
  | ok fl =>
    cases fl with
    | next=>exact False.elim hq
    | brk=>exact False.elim hq
    | cont=>exact False.elim hq
    | ret u =>
      refine I1.after ?_
      obtain ⟨v,H4,os,bare,un,hok,rv,q⟩:=hq
      have cel4:∀ b,b∈cvs.map (·.1)->∃ o v,s1.heap.get? b=some o/\s'.heap.get? b=some o/\H4 b=some (.frz o (CelO b v)):=fun b hb=>by
        obtain ⟨v,hv,e⟩:=Ym (h:=s1.heap) (H:=H1) hb
        have e4:=un.frzs b _ _ e
        exact ⟨_,v,(ok3 b _ e).1,(hok b _ e4).1,e4⟩
      have hcA:∀ a∈cvs.map (·.1),∃ v,Cel H4 a v:=fun a ha=>let ⟨o,v,_,_,e⟩:=cel4 a ha; ⟨v,o,e⟩
      have up:∀ b o,H1 b=some o->pubH s1.heap H1 cvs b=some o:=fun b o e=>by rw [yA (nas b o e)]; exact e
      refine ⟨v,_,os,bare,⟨fun b o e n hb hx=>?_,fun b o e n hb hx=>?_,fun b o e n hx=>?_,un.there,fun b xs e=>?_,fun b o xs e=>?_,fun b p e=>?_⟩,Y6 hcA hok,rv,q fun p hp=>let ⟨o,e⟩:=pb.cel p hp; ⟨o,un.frzs _ _ _ e⟩⟩
      · by_cases hb':b∈cvs.map (·.1)
        · obtain ⟨o',_,e1,e2,_⟩:=cel4 b hb'
          rw [e] at e1; cases e1
          exact e2
        · exact un.keep b o e (by rw [yA hb']; exact n) hb hx
      · by_cases hb':b∈cvs.map (·.1)
        · obtain ⟨o',_,e1,e2,_⟩:=cel4 b hb'
          rw [e] at e1; cases e1
          exact ⟨o.slots,e2⟩
        · exact un.slot b o e (by rw [yA hb']; exact n) hb hx
      · by_cases hb':b∈cvs.map (·.1)
        · exact xF hb'
        · rw [zX hb']
          exact un.free b o e (by rw [yA hb']; exact n) hx
      · rw [zX (nas b _ e)]
        exact un.tups b xs (up _ _ e)
      · rw [zX (nas b _ e)]
        exact un.frzs b o xs (up _ _ e)
      · obtain ⟨more,e'⟩:=un.tbls b p (up _ _ e)
        exact ⟨more,by rw [zX (nas b _ e)]; exact e'⟩⟩
def Vn (P:Program) (w:World) (K:PySem.W.Frag) (mg:Str->Option Value) (base:Heap) (k:Nat) (E:XK) (i:Nat) (t:TA):TE:=fun σ H Q=>∃ f,σ[i]?=some (some (.ref f)) /\
  (((∃ fd,H f=some (FunO f fd))/\t σ H fun vs H1=>∃ fd ps sp,FnOk P w K mg base CX0 k f fd ps sp/\Binds K fd ps []/\H1 f=some (FunO f fd)/\sp vs H1 Q E) \/
   (PySem.W.keepIn K (.ref f)=true/\t σ H fun vs H1=>∃ fd ps sp,FnOk P w K mg base CX0 k f fd ps sp/\Binds K fd ps []/\sp vs H1 Q E))
theorem Zj {X:Cx} {k:Nat} {E:XK} {i:Nat} {x:Str} {p pos:Pos} {e:Expr} {es:List Expr} {t:TA} (hr:Room k X.A) (hn:jE X (.Name x p) (tVar i)) (hx:yk CX0 X E) (ha:jA X (e :: es) t) (h1:zp e=false:=by rfl) (h2:es.all (fun e=>!zp e)=true:=by rfl) :
    jE X (.Call (.Name x p) (e :: es) [] pos) (Vn X.prog X.w X.K X.mg X.base k E i t):=⟨by
  intro pins s σ H Q I h
  obtain ⟨f,hf,h⟩:=h
  refine wpAny_Call_Name_kw (thn (hn.out pins s σ H (fun v H1=>v=.ref f/\H1=H) I ⟨_,hf,rfl,rfl⟩) fun u s0 ⟨v,H0,I0,r0,e1,e2⟩=>?_)
  subst e1; subst e2
  cases r0
  rcases h with ⟨⟨fd,hF⟩,h⟩ | ⟨hk,h⟩
  · refine PySem.W.callWith_F ⟨_,_,_,_,(I0.hok f _ hF).1⟩ (thn (ha.out pos pins s0 σ H0 _ I0 h) fun us s1 ⟨vs,H1,I1,r,fd,ps,sp,F,hb,hF1,q⟩=>⟨⟨_,_,_,_,(I1.hok f _ hF1).1⟩,?_⟩) (zB h1) (yh h2)
    exact jh F hr hb .nil hx I1 r (by rw [List.append_nil]; exact q)
  · refine PySem.W.callWith_K (h₀:=X.base) I0.ok.mod.kin hk (thn (ha.out pos pins s0 σ H0 _ I0 h) fun us s1 ⟨vs,H1,I1,r,fd,ps,sp,F,hb,q⟩=>⟨I1.kIn,?_⟩) (zB h1) (yh h2)
    exact jh F hr hb .nil hx I1 r (by rw [List.append_nil]; exact q)⟩
structure FunC (K:PySem.W.Frag) (x:Str) (st:Stmt) (c f:Addr) (fd:FuncData):Prop where
  ex:∃ (oc:Value) (od:Option Addr) (kV doc pm:Value) (an:Option Addr) (ct:Value) (osl:Array (Option Value)),fd=PySem.W.fnOf x x (zN st) (zF st) (zn st) .none kV doc pm an (.ref c) ct/\K.lookup f=some ⟨oc,od,.func fd,osl⟩/\PySem.W.codeIn K (.ref c) x=true
section
variable {P:Program} {w:World} {K:PySem.W.Frag} {mg:Str->Option Value} {base h:Heap} {x:Str} {st:Stmt} {c f:Addr} {fd:FuncData} {N ps:List Str} {k:Nat} {sp:Sp}
theorem FunC.by (F:FunC K x st c f fd) (S:FnScope N ps (zn st)) (len:∀ vs H Q E,sp vs H Q E->vs.length=ps.length)
    (hbody:∀ (A:Around) (outer:List Env) (s:Shared) (H:Hp) (vs:List V) (Q:VK) (E:XK),Room k (A.deeper (envOfC x (zn st) s.heap.objs.size f (.ref c)))->sp vs H Q E ->
      ∃ t,jSs (cxOf CX0 P w K mg base N x (zn st) f (.ref c) A outer s H E).nox (zF st) t/\t { nx:=fun _ H'=>Q .non H',rt:=Q } (yE N vs) H):FnOk P w K mg base CX0 (k + 1) f fd ps sp:=by
  obtain ⟨oc,od,kV,doc,pm,an,ct,osl,rfl,lk,hcd⟩:=F.ex
  refine Q4 lk hcd S len fun A outer s H vs Q E hr hsp=>?_
  obtain ⟨t,h,q⟩:=hbody A outer s H vs Q E hr hsp
  exact ⟨t,h.out.nox,q⟩
theorem FunC.byR (F:FunC K x st c f fd) (S:FnScope N ps (zn st)) (len:∀ vs H Q E,sp vs H Q E->vs.length=ps.length)
    (hbody:∀ (A:Around) (outer:List Env) (s:Shared) (H:Hp) (vs:List V) (Q:VK) (E:XK),Room k (A.deeper (envOfC x (zn st) s.heap.objs.size f (.ref c)))->sp vs H Q E->(∀ b,s.heap.objs.size<=b->H b=none) ->
      ∃ t,jR (cxOf CX0 P w K mg base N x (zn st) f (.ref c) A outer s H E) (zF st) t/\t { nx:=fun _ H'=>Q .non H',rt:=fun σ v H'=>∃ cvs,CellsAt (cxOf CX0 P w K mg base N x (zn st) f (.ref c) A outer s H E) σ cvs/\∀ H3,Pub H' H3 cvs->Q v H3 } (yE N vs) H) :
    FnOk P w K mg base CX0 (k + 1) f fd ps sp:=by
  obtain ⟨oc,od,kV,doc,pm,an,ct,osl,rfl,lk,hcd⟩:=F.ex
  exact zbg lk hcd S len hbody
def DcIn (K:PySem.W.Frag) (x:Str) (st:Stmt) (c:Addr):Prop:=∃ f,PySem.W.nsIn K mainGlobals x=some (some (.ref f))/\∃ (oc:Value) (od:Option Addr) (kV doc pm:Value) (an:Option Addr) (ct:Value) (osl:Array (Option Value)),K.lookup f=some ⟨oc,od,.func (PySem.W.fnOf x x (zN st) (zF st) (zn st) .none kV doc pm an (.ref c) ct),osl⟩/\PySem.W.codeIn K (.ref c) x=true/\PySem.W.keepIn K (.ref f)=true
theorem DcIn.mk {oc:Value} {od:Option Addr} {kV doc pm:Value} {an:Option Addr} {ct:Value} {osl:Array (Option Value)} (a:PySem.W.nsIn K mainGlobals x=some (some (.ref f))) (l:K.lookup f=some ⟨oc,od,.func (PySem.W.fnOf x x (zN st) (zF st) (zn st) .none kV doc pm an (.ref c) ct),osl⟩) (cc:PySem.W.codeIn K (.ref c) x=true) (k:PySem.W.keepIn K (.ref f)=true):DcIn K x st c:=⟨f,a,oc,od,kV,doc,pm,an,ct,osl,l,cc,k⟩
theorem DcIn.ca (X:K.In h) (G:h.Ns mainGlobals mg) (d:DcIn K x st c) (hb:∀ (kV doc pm:Value) (an:Option Addr) (ct:Value) (us:List Value),us.length=ps.length->bindArgs (PySem.W.fnOf x x (zN st) (zF st) (zn st) .none kV doc pm an (.ref c) ct) ⟨us,[]⟩=pure (ps.zip us))
    (ok:∀ f fd,FunC K x st c f fd->FnOk P w K mg base CX0 k f fd ps sp):Ca P w K mg base CX0 k x ps sp:=by
  obtain ⟨f,a,oc,od,kV,doc,pm,an,ct,osl,l,cc,kp⟩:=d
  exact ⟨f,_,ok f _ ⟨oc,od,kV,doc,pm,an,ct,osl,rfl,l,cc⟩,.all fun us hl=>hb kV doc pm an ct us hl,kp,PySem.W.mg_of X G a⟩
end
def TbG (T:Addr) (ls:List (Pos × Str)) (H:Hp):Prop:=∃ ps,H T=some (.tbl ps)/\TriplesOk ps.toList/\∀ p∈ls,codeAmong p.1 ps.toList=none\/∃ c,codeAmong p.1 ps.toList=some (.ref c)/\H c=some (CodO c p.2)
theorem XT {a b:Int} {c:Value} (l:List Value) (h:TriplesOk l):TriplesOk (l ++ [rawInt a,rawInt b,c]):=by
  fun_induction TriplesOk l with
  | case1=>trivial
  | case2 i t j u v rest ih=>exact ih h
  | case3=>exact False.elim h
theorem Zk {pos p':Pos} {c:Value} (l:List Value) (h:TriplesOk l) (n:¬ (p'.line=pos.line/\p'.col=pos.col)):codeAmong pos (l ++ [rawInt p'.line,rawInt p'.col,c])=codeAmong pos l:=by
  fun_induction TriplesOk l with
  | case1 =>
    show (if ((p'.line:Nat):Int) == (pos.line:Nat) && ((p'.col:Nat):Int) == (pos.col:Nat) then some c else codeAmong pos [])=_
    rw [if_neg]
    simp
    intro e e'
    exact n ⟨by lia,by lia⟩
  | case2 i t j u v rest ih =>
    show (if i == (pos.line:Nat) && j == (pos.col:Nat) then some v else codeAmong pos (rest ++ _))=if i == (pos.line:Nat) && j == (pos.col:Nat) then some v else codeAmong pos rest
    rw [ih h]
  | case3=>exact False.elim h
theorem XU {pos p':Pos} (l:List Value) (n:p'.line=pos.line/\p'.col=pos.col):codeAmong pos l=codeAmong p' l:=by
  fun_induction codeAmong pos l with
  | case1 line _ col _ c rest h=>rw [codeAmong,n.1,n.2,if_pos h]
  | case2 line _ col _ c rest h ih=>rw [codeAmong,n.1,n.2,if_neg h]; exact ih
  | case3 l h =>
    unfold codeAmong
    split
    · exact absurd rfl (h _ _ _ _ _ _)
    · rfl
theorem TbG.keep {T:Addr} {ls:List (Pos × Str)} {H H':Hp} (h:TbG T ls H) (kt:∀ ps,H T=some (.tbl ps)->H' T=some (.tbl ps)) (kc:∀ c q,H c=some (CodO c q)->H' c=some (CodO c q)):TbG T ls H':=by
  obtain ⟨ps,e,t,h⟩:=h
  exact ⟨ps,kt _ e,t,fun p hp=>(h p hp).imp_right fun ⟨c,a,b⟩=>⟨c,a,kc _ _ b⟩⟩
theorem TbG.empty {T:Addr} {ls:List (Pos × Str)} {H:Hp} (h:H T=some (.tbl #[])):TbG T ls H:=⟨#[],h,trivial,fun p _=>.inl rfl⟩
theorem Zl {mg:Str->Option Value} {T:Addr} {ls:List (Pos × Str)} {qual:Str} {params:Arguments} {body:Expr} {scope:Scope} {pos:Pos} {cl:List (Str × Addr)} {σ:St} {H:Hp} {Q:VK} (h:TbG T ls H) (hm:(pos,qual)∈ls) (hu:∀ p∈ls,(pos.line=p.1.line/\pos.col=p.1.col)->p.2=qual)
    (q:∀ H' f c ct,(∀ b u,b≠T->H b=some u->H' b=some u)->TbG T ls H'->H f=none->f≠T->c≠T->H' f=some (FunO f (lamC mg qual params body scope cl c ct))->H' c=some (CodO c qual)->Q (.ref f) H'):Vj mg T qual params body scope pos cl σ H Q:=by
  obtain ⟨ps,hT,tr,ha⟩:=h
  refine ⟨ps,hT,tr,?_⟩
  rcases ha _ hm with hn | ⟨c,hs,hc⟩
  · refine .inl ⟨hn,fun c f ct h1 h2 h3=>?_⟩
    have n1:T≠c:=zi hT h1
    have n2:T≠f:=zi hT h2
    have kp:∀ b u,b≠T->H b=some u->upd (upd (upd H T (.tbl (ps ++ #[rawInt pos.line,rawInt pos.col,.ref c]))) c (CodO c qual)) f (FunO f (lamC mg qual params body scope cl c ct)) b=some u:=fun b u n e=>by rw [zg (zi e h2),zg (zi e h1),zg n]; exact e
    have e2:upd (upd (upd H T (.tbl (ps ++ #[rawInt pos.line,rawInt pos.col,.ref c]))) c (CodO c qual)) f (FunO f (lamC mg qual params body scope cl c ct)) c=some (CodO c qual):=by rw [zg h3.symm]; exact zf
    refine q _ f c ct kp ⟨_,by rw [zg n2,zg n1]; exact zf,?_,fun p hp=>?_⟩ h2 n2.symm n1.symm zf e2
    · rw [Array.toList_append]
      exact XT _ tr
    · rw [Array.toList_append]
      by_cases z:pos.line=p.1.line/\pos.col=p.1.col
      · refine .inr ⟨c,?_,by rw [e2,hu p hp z]⟩
        rw [XU _ z]
        exact codeAmong_snoc _ tr hn
      · rw [show (#[rawInt pos.line,rawInt pos.col,Value.ref c]:Array Value).toList=[rawInt pos.line,rawInt pos.col,.ref c] from rfl,Zk _ tr z]
        refine (ha p hp).imp_right fun ⟨d,a,b⟩=>⟨d,a,kp _ _ (fun w=>?_) b⟩
        rw [w,hT] at b
        cases b
  · refine .inr ⟨c,hs,fun f ct h2=>?_⟩
    have kp:∀ b u,H b=some u->upd H f (FunO f (lamC mg qual params body scope cl c ct)) b=some u:=fun b u e=>by rw [zg (zi e h2)]; exact e
    refine q _ f c ct (fun b u _ e=>kp b u e) ⟨ps,kp _ _ hT,tr,fun p hp=>(ha p hp).imp_right fun ⟨d,a,b⟩=>⟨d,a,kp _ _ b⟩⟩ h2 (zi hT h2).symm (fun w=>?_) zf (kp _ _ hc)
    rw [w,hT] at hc
    cases hc
section
variable {X:Cx}
end
end L2
namespace GN
open PySem L2
inductive All2 {α β:Type} (F:α->β->Prop):List α->List β->Prop
  | nil:All2 F [] []
  | cons {a b l m}:F a b->All2 F l m->All2 F (a :: l) (b :: m)
section
variable {α β:Type} {F G:α->β->Prop} {l:List α} {m:List β}
theorem All2.imp (h:All2 F l m) (f:∀ a b,F a b->G a b):All2 G l m:=by
  induction h with
  | nil=>exact .nil
  | cons a _ ih=>exact .cons (f _ _ a) ih
theorem All2.len (h:All2 F l m):l.length=m.length:=by
  induction h with
  | nil=>rfl
  | cons _ _ ih=>rw [List.length_cons,List.length_cons,ih]
theorem All2.app {l':List α} {m':List β} (h:All2 F l m) (g:All2 F l' m'):All2 F (l ++ l') (m ++ m'):=by
  induction h with
  | nil=>exact g
  | cons a _ ih=>exact .cons a ih
theorem All2.get (h:All2 F l m):∀ {i:Nat} {b:β},m[i]?=some b->∃ a,l[i]?=some a/\F a b:=by
  induction h with
  | nil=>intro i b e; simp at e
  | cons a _ ih =>
    intro i b e
    cases i with
    | zero=>simp at e; subst e; exact ⟨_,rfl,a⟩
    | succ i=>simp at e; obtain ⟨x,h1,h2⟩:=ih e; exact ⟨x,by simpa using h1,h2⟩
theorem All2.getl (h:All2 F l m):∀ {i:Nat} {a:α},l[i]?=some a->∃ b,m[i]?=some b/\F a b:=by
  induction h with
  | nil=>intro i b e; simp at e
  | cons a _ ih =>
    intro i b e
    cases i with
    | zero=>simp at e; subst e; exact ⟨_,rfl,a⟩
    | succ i=>simp at e; obtain ⟨x,h1,h2⟩:=ih e; exact ⟨x,by simpa using h1,h2⟩
end
theorem iteN {b:Bool} {A B:Prop} (e:b=false) (h:B):if b=true then A else B:=by rw [if_neg (by rw [e]; decide)]; exact h
def KM (M:Addr->Prop) (H H':Hp):Prop:=∀ b u,¬ M b->H b=some u->H' b=some u
def Kz (M R:Addr->Prop) (H H':Hp):Prop:=∀ b u,H b=some u->¬ M b->(∀ xs,u=.lst xs->R b)->H' b=some u
def KO (M:Addr->Prop) (H H':Hp):Prop:=∀ b u,H b=some u->(∀ xs,u=.lst xs->M b)->H' b=some u
theorem KM.refl {M:Addr->Prop} {H:Hp}:KM M H H:=fun _ _ _ h=>h
theorem KM.trans {M:Addr->Prop} {H H1 H2:Hp} (a:KM M H H1) (b:KM M H1 H2):KM M H H2:=fun c u n h=>b c u n (a c u n h)
theorem KM.of {M:Addr->Prop} {H H1:Hp} (a:Same H H1):KM M H H1:=fun c u _ h=>a c u h
theorem KM.free {M:Addr->Prop} {H H1:Hp} {b:Addr} (a:KM M H H1) (n:¬ M b) (h:H1 b=none):H b=none:=by
  cases e:H b with
  | none=>rfl
  | some u=>rw [a b u n e] at h; cases h
theorem KM.new {M:Addr->Prop} {H H1:Hp} {p:Addr} {o:HO} (a:KM M H H1) (h:H1 p=none):KM M H (upd H1 p o):=a.trans (.of fun b u e=>by rw [zg (zi e h)]; exact e)
theorem KM.put {M:Addr->Prop} {H H1:Hp} {p:Addr} {o:HO} (a:KM M H H1) (h:H p=none):KM M H (upd H1 p o):=fun b u n e=>by rw [zg (zi e h)]; exact a b u n e
def CanC (P:Program) (w:World) (K:PySem.W.Frag) (mg:Str->Option Value) (base:Heap) (k:Nat) (H:Hp) (f:Addr) (vs:List V) (Q:VK) (E:XK):Prop :=
  ∃ fd ps sp,FnOk P w K mg base CX0 k f fd ps sp/\Binds K fd ps []/\sp vs H Q E/\(H f=some (FunO f fd)\/PySem.W.keepIn K (.ref f)=true)
structure WoD (P:Program) (w:World) (K:PySem.W.Frag) (mg:Str->Option Value) (base:Heap) (k:Nat) where
  Tk:Type
  M:Addr->Prop
  fb:Addr
  wt:Tk->Nat
  kids:Tk->List Tk
  wk:∀ t,((kids t).map wt).sum + 2<=wt t
  IT:Hp->(Addr->Prop)->Tk->V->Prop
  IR:Hp->(Addr->Prop)->Tk->V->Prop
  IF:Hp->(Addr->Prop)->Tk->V->Prop
  Ok:Hp->Prop
  itk:∀ {H H' R R' t v},IT H R t v->Ok H->Kz M R H H'->(∀ b,R b->R' b)->IT H' R' t v
  irk:∀ {H H' R R' t v},IR H R t v->Ok H->Kz M R H H'->(∀ b,R b->R' b)->IR H' R' t v
  ifk:∀ {H H' R R' t v},IF H R t v->Ok H->Kz M R H H'->(∀ b,R b->R' b)->IF H' R' t v
  okk:∀ {H H'},Ok H->KO M H H'->Ok H'
  okM:∀ {H b},Ok H->M b->H b≠none
  beg:∀ {H R t v Q},IT H R t v->Ok H->(∀ b,R b->H b≠none)->(∀ b,R b->¬ M b) ->
    (∀ H' q l fl vs R',KM M H H'->Ok H'->H' q=some (.tup [.ref l,.ref fl])->H l=none->H' l=some (.lst vs)->(∀ b,R b->R' b)->(∀ b,R' b->R b\/H b=none)->(∀ b,R' b->H' b≠none)->R' l->All2 (IT H' R') (kids t) vs->IF H' R' t (.ref fl)->Q (.ref q) H') ->
    CanC P w K mg base k H fb [v] Q E0
  fin:∀ {H R t fl rl rs Q},IF H R t (.ref fl)->Ok H->(∀ b,R b->H b≠none)->(∀ b,R b->¬ M b)->R rl->H rl=some (.lst rs)->All2 (IR H R) (kids t) rs ->
    (∀ H' v R',KM M H H'->Ok H'->(∀ b,R b->R' b)->(∀ b,R' b->R b\/H b=none)->(∀ b,R' b->H' b≠none)->IR H' R' t v->Q v H') ->
    CanC P w K mg base k H fl [.ref rl] Q E0
structure Bn (K:PySem.W.Frag) (cB:Addr):Prop where
  cl:Cls K cB
  b1:NoAttr K cB "within"
  b2:NoAttr K cB "finish"
  b3:NoAttr K cB "results"
def BO (cB dx wa fl ra:Addr):HO:=.ins cB dx [("within",.ref wa),("finish",.ref fl),("results",.ref ra)]
def Y8 (cB:Addr):Sp:=fun vs H Q _=>∃ (x dx wa fl:Addr),vs=[.ref x,.ref wa,.ref fl]/\H x=some (.ins cB dx [])/\∀ H' ra,(∀ b u,b≠x->H b=some u->H' b=some u)->H ra=none->H' ra=some (.lst [])->H' x=some (BO cB dx wa fl ra)->Q .non H'
def Vo:Sp:=fun vs H Q _=>∃ (p:Addr) (v:V) (xs:List V),vs=[.ref p]/\H p=some (.lst (v :: xs))/\Q v H
section
variable {P:Program} {w:World} {K:PySem.W.Frag} {mg:Str->Option Value} {base:Heap} {f cB:Addr} {fd:FuncData}
theorem Qf:FnScope lS7 lS7 (zn Yg):=.ok
theorem Vp (F:Fun K "__init__" "Begun.__init__" Yg f fd) (N:Bn K cB):FnOk P w K mg base CX0 1 f fd lS7 (Y8 cB):=by
  refine F.by Qf (fun vs H Q E h=>?_) (fun cdv A outer s H vs Q E hr h=>?_)
  · obtain ⟨x,dx,wa,fl,rfl,_⟩:=h
    rfl
  obtain ⟨x,dx,wa,fl,rfl,hx,q⟩:=h
  refine ⟨_,(zh (wc (jv 0) (jv 1)) (zh (wc (jv 0) (jv 2)) (zj (wc (jv 0) (yc zS))))),?_⟩
  refine ⟨_,rfl,_,rfl,x,cB,dx,_,rfl,hx,N.cl,N.b1,by show 0 < 1000; decide,?_⟩
  refine ⟨_,rfl,_,rfl,x,cB,dx,_,rfl,zf,N.cl,N.b2,by show 1 < 1000; decide,?_⟩
  refine ⟨sN0,fun ra hra=>?_⟩
  have nx:ra≠x:=fun z=>by
    rw [z,zf] at hra
    cases hra
  have hra':H ra=none:=by
    rw [zg nx,zg nx] at hra
    exact hra
  refine ⟨_,rfl,x,cB,dx,_,rfl,by rw [zg nx.symm]; exact zf,N.cl,N.b3,by show 2 < 1000; decide,?_⟩
  refine q _ ra (fun b u n e=>?_) hra' (by rw [zg nx]; exact zf) zf
  rw [zg n,zg (zi e hra'),zg n,zg n]
  exact e
theorem zbj:FnScope ["results"] ["results"] (zn W9):=.ok
theorem Qg (F:Fun K "only_one" "only_one" W9 f fd):FnOk P w K mg base CX0 1 f fd ["results"] Vo:=by
  refine F.by zbj (fun vs H Q E h=>?_) (fun cdv A outer s H vs Q E hr h=>?_)
  · obtain ⟨p,v,xs,rfl,_⟩:=h
    rfl
  obtain ⟨p,v,xs,rfl,hp,q⟩:=h
  exact ⟨_,(zj (zu (xL 0))),_,rfl,ixL hp aI0 (q)⟩
end
structure En (Tk:Type) where
  bo:Addr
  dx:Addr
  wa:Addr
  ra:Addr
  fl:Addr
  tk:Option Tk
  ts:List Tk
  rs:List V
section
variable {P:Program} {w:World} {K:PySem.W.Frag} {mg:Str->Option Value} {base:Heap} {k:Nat} (D:WoD P w K mg base k) (cB fo:Addr) (root:D.Tk)
structure EnOk (H:Hp) (R:Addr->Prop) (e:En D.Tk):Prop where
  o:H e.bo=some (BO cB e.dx e.wa e.fl e.ra)
  nb:¬ D.M e.bo
  w:∃ ws,H e.wa=some (.lst ws)/\All2 (D.IT H R) e.ts ws
  Rw:R e.wa
  r:H e.ra=some (.lst e.rs)
  nr:¬ R e.ra
  nM:¬ D.M e.ra
  le:e.rs.length<=e.ts.length
  rr:All2 (D.IR H R) (e.ts.take e.rs.length) e.rs
  fin:match e.tk with
    | none=>e.fl=fo/\e.ts=[root]
    | some t=>D.IF H R t (.ref e.fl)/\e.ts=D.kids t
inductive Lnk:List (En D.Tk)->Prop
  | bot {e:En D.Tk}:e.tk=none->Lnk [e]
  | up {e e':En D.Tk} {es:List (En D.Tk)} {t:D.Tk}:Lnk (e' :: es)->e.tk=some t->e'.ts[e'.rs.length]?=some t->Lnk (e :: e' :: es)
def mlow:List (En D.Tk)->Nat
  | []=>0
  | e :: es=>1 + ((e.ts.drop (e.rs.length + 1)).map D.wt).sum + mlow es
def mall:List (En D.Tk)->Nat
  | []=>0
  | e :: es=>1 + ((e.ts.drop e.rs.length).map D.wt).sum + mlow D es
theorem Zm:∀ es:List (En D.Tk),es.length<=mlow D es
  | []=>Nat.le_refl _
  | e :: es=>by
    unfold mlow
    have:=Zm es
    rw [List.length_cons]
    lia
theorem Vq (es:List (En D.Tk)):es.length<=mall D es:=by
  cases es with
  | nil=>exact Nat.le_refl _
  | cons e es =>
    unfold mall
    have:=Zm D es
    rw [List.length_cons]
    lia
theorem Vr:∀ ts:List D.Tk,ts.length<=(ts.map D.wt).sum
  | []=>Nat.le_refl _
  | t :: ts=>by
    have:=Vr ts
    have:=D.wk t
    rw [List.length_cons,List.map_cons,List.sum_cons]
    lia
variable {D cB fo root}
theorem EnOk.keep {H H':Hp} {R R':Addr->Prop} {e:En D.Tk} (h:EnOk D cB fo root H R e) (ok:D.Ok H) (z:Kz D.M R H H') (rM:∀ b,R b->¬ D.M b) (sub:∀ b,R b->R' b) (hr:H' e.ra=some (.lst e.rs)) (nr:¬ R' e.ra):EnOk D cB fo root H' R' e:=by
  obtain ⟨o,nb,⟨ws,w1,w2⟩,Rw,r,nr',nM,le,rr,fin⟩:=h
  refine ⟨z _ _ o nb (by intro xs q; unfold BO at q; cases q),nb,⟨ws,z _ _ w1 (rM _ Rw) (fun _ _=>Rw),w2.imp fun a b q=>D.itk q ok z sub⟩,sub _ Rw,hr,nr,nM,le,rr.imp fun a b q=>D.irk q ok z sub,?_⟩
  cases q:e.tk with
  | none=>rw [q] at fin; exact fin
  | some t=>rw [q] at fin; exact ⟨D.ifk fin.1 ok z sub,fin.2⟩
end
def Zn (P:Program) (w:World) (K:PySem.W.Frag) (mg:Str->Option Value) (base:Heap) (k:Nat):Sp:=fun vs H Q _=>∃ (D:WoD P w K mg base k) (v:V) (root:D.Tk) (R:Addr->Prop),vs=[v,.ref D.fb]/\D.IT H R root v/\D.Ok H/\(∀ b,R b->H b≠none)/\(∀ b,R b->¬ D.M b)/\D.wt root<=1000000 /\
  ((∃ fd,H D.fb=some (FunO D.fb fd))/\¬ D.M D.fb\/PySem.W.keepIn K (.ref D.fb)=true) /\
  ∀ H' v' R',KM D.M H H'->D.Ok H'->(∀ b,R' b->¬ D.M b)->D.IR H' R' root v'->Q v' H'
section
variable {P:Program} {w:World} {K:PySem.W.Frag} {mg:Str->Option Value} {base:Heap} {f cB fo:Addr} {fd fdo:FuncData} {k:Nat}
theorem scWorked:FnScope ["task","begin","waiting","last","pair","finish","result"] ["task","begin"] (zn jx):=.ok
theorem vt {i:Nat} {t:TA} {σ:St} {H:Hp} {Q:VK} {f:Addr} {vs:List V} (hi:σ[i]?=some (some (.ref f))) (ha:∀ R:List V->Hp->Prop,R vs H->t σ H R) (h:CanC P w K mg base k H f vs Q E0):Vn P w K mg base k E0 i t σ H Q:=by
  obtain ⟨fd,ps,sp,F,b,q,c⟩:=h
  rcases c with c | c
  · exact ⟨f,hi,.inl ⟨⟨fd,c⟩,ha _ ⟨fd,ps,sp,F,b,c,q⟩⟩⟩
  · exact ⟨f,hi,.inr ⟨c,ha _ ⟨fd,ps,sp,F,b,q⟩⟩⟩
theorem XV (F:Fun K "worked_out" "worked_out" jx f fd) (N:Bn K cB) (GB:Ma P w K mg base CX0 1 "Begun" cB lS7 (Y8 cB)) (GO:FnOk P w K mg base CX0 1 fo fdo ["results"] Vo) (bO:Binds K fdo ["results"] []) (kO:PySem.W.keepIn K (.ref fo)=true) (mO:mg "only_one"=some (.ref fo)) (m_len:mg "len"=none) (hk:2<=k):FnOk P w K mg base CX0 (k + 1) f fd ["task","begin"] (Zn P w K mg base k):=by
  refine F.by scWorked (fun vs H Q E h=>?_) (fun cdv A outer s H vs Q E hr h=>?_)
  · obtain ⟨D,v,root,R,rfl,_⟩:=h
    rfl
  obtain ⟨D,v,root,R0,rfl,hIT,hOk,hR0,hRM0,hwt,hfb,q⟩:=h
  have hr2:Room (1 + 1) _:=hr.mono (by lia)
  refine ⟨_,
    (zh (sE 2 scWorked.nd (yc (jA1 (zac GB hr2 rfl xc (jA2 (yc (jA1 (jv 0))) (JR (v:=.ref fo) rfl mO rfl))))))
    (zj (wX PassesOwn.never (Z8 wV)
      (zh (sE 3 scWorked.nd (xX yJ (jv 2) (wW zo)))
      (zj (zI (tN YX (jL m_len (yr (jv 3))) (jL m_len (yr (jv 3))))
        (zh (sE 4 scWorked.nd (Zj hr (jv 1) xc (jA1 (xX yJ (yr (jv 3)) (jL m_len (yr (jv 3)))))))
        (zj (zG (y9 PySem.F.plainAttrs_list PySem.F.slot_list_append PySem.F.type_list_append zY (jv 2) (jA1 (zac GB hr2 rfl xc (jA2 (xT 4) (xT 4))))))))
        (zh (sE 5 scWorked.nd (yr (jv 3)))
        (zh (sE 6 scWorked.nd (Zj hr (jv 5) xc (jA1 (yr (jv 3)))))
        (zh (zG (WG PySem.F.plainAttrs_list PySem.F.slot_list_pop PySem.F.type_list_pop WJ (jv 2)))
        (zh (zI (tN zR (jL m_len (jv 2)) zo)
          (zj (zu (jv 6))) zw)
        (zj (zG (y9 PySem.F.plainAttrs_list PySem.F.slot_list_append PySem.F.type_list_append zY (yr (xX yJ (jv 2) (wW zo))) (jA1 (jv 6))))))))))))))),?_⟩
  have sl:=zW
  refine ⟨_,rfl,sN1,fun l0 hl0=>?_⟩
  have s0:Same H (upd H l0 (.lst [v])):=fun b u e=>by rw [zg (zi e hl0)]; exact e
  have hl0':=zf (H:=H) (a:=l0) (o:=.lst [v])
  generalize upd H l0 (.lst [v])=H1 at *
  intro x dx hx hdx nxd
  refine ⟨x,dx,l0,fo,rfl,zf,fun H2 ra kp hra hra2 hx2=>⟨rfl,sN1,fun wl hwl=>?_⟩⟩
  have hM:∀ b,H b=none->¬ D.M b:=fun b e m=>D.okM hOk m e
  have s12:Same H1 H2:=fun b u e=>kp b u (zi e hx) (by rw [zg (zi e hx),zg (zi e hdx)]; exact e)
  have s2:Same H H2:=s0.trans s12
  have s3:Same H (upd H2 wl (.lst [.ref x])):=s2.new hwl
  have nra:ra≠x:=fun z=>by
    rw [z,zf] at hra
    cases hra
  have nrd:ra≠dx:=fun z=>by
    rw [z,zg nxd,zf] at hra
    cases hra
  have hra1:H1 ra=none:=by
    rw [zg nra,zg nrd] at hra
    exact hra
  have hra0:H ra=none:=s0.free hra1
  have hx0:H x=none:=s0.free hx
  have nl0:l0≠ra:=zi hl0' hra1
  have nwr:ra≠wl:=zi hra2 hwl
  have nwx:x≠wl:=zi hx2 hwl
  have nwl:l0≠wl:=zi (s12 _ _ hl0') hwl
  have hwl0:H wl=none:=s2.free hwl
  refine ⟨fun m σ H'=>∃ (es:List (En D.Tk)) (R:Addr->Prop) (y3 y4 y5 y6:Option V),m=mall D es/\σ=[some v,some (.ref D.fb),some (.ref wl),y3,y4,y5,y6]/\KM D.M H H'/\D.Ok H'/\H' wl=some (.lst (es.reverse.map fun e=>V.ref e.bo))/\¬ R wl/\(∀ e∈es,EnOk D cB fo root H' R e)/\(∀ e∈es,H e.ra=none)/\Lnk D es/\(∀ b,R b->H' b≠none)/\(∀ b,R b->¬ D.M b)/\(wl :: es.map (·.ra)).Nodup/\mall D es<=D.wt root + 1/\(∀ e∈es,e.ts.length<=1000000),
    ⟨_,[⟨x,dx,l0,ra,fo,none,[root],[]⟩],(fun b=>R0 b\/b=l0),none,none,none,none,rfl,rfl,.of s3,D.okk hOk (fun b u e _=>s3 b u e),zf,?_,?_,?_,.bot rfl,?_,?_,?_,?_,?_⟩,?_⟩
  · rintro (z | z)
    · exact hR0 _ z hwl0
    · exact nwl z.symm
  · intro e he
    rw [List.mem_singleton.mp he]
    refine ⟨by rw [zg nwx]; exact hx2,hM _ hx0,⟨[v],by rw [zg nwl]; exact s12 _ _ hl0',.cons (D.itk hIT hOk (fun b u e _ _=>s3 b u e) fun b z=>.inl z) .nil⟩,.inr rfl,by rw [zg nwr]; exact hra2,?_,hM _ hra0,Nat.zero_le _,.nil,rfl,rfl⟩
    rintro (z | z)
    · exact hR0 _ z hra0
    · exact nl0 z.symm
  · intro e he
    rw [List.mem_singleton.mp he]
    exact hra0
  · rintro b (z | z)
    · cases e:H b with
      | none=>exact absurd e (hR0 b z)
      | some u=>rw [s3 b u e]; simp
    · rw [z,zg nwl,s12 _ _ hl0']; simp
  · rintro b (z | z)
    · exact hRM0 b z
    · rw [z]; exact hM _ hl0
  · show [wl,ra].Nodup
    simp [nwr.symm]
  · unfold mall mlow
    simp
    lia
  · intro e he
    rw [List.mem_singleton.mp he]
    show 1<=1000000
    decide
  rintro m σ Ha ⟨es,R,y3,y4,y5,y6,rfl,rfl,kHa,okA,hwlA,nRw,hes,hra,lk,hRd,hRM,nd,hms,hln⟩
  refine ⟨_,rfl,iteT ⟨_,fun _ _ h=>h,?_⟩⟩
  refine cutR (fun D_ rt_ fin=>?_) (fun _ _ h=>h)
  have hMA:∀ b,Ha b=none->¬ D.M b:=fun b e m=>D.okM okA m e
  have mwl:¬ D.M wl:=hM _ hwl0
  cases es with
  | nil=>cases lk
  | cons e es =>
  have he:=hes e (.head _)
  have eo:=he.o
  obtain ⟨ws,hw,hIT'⟩:=he.w
  have wlen:=hIT'.len
  have els:((e :: es).reverse.map fun e=>V.ref e.bo)=(es.reverse.map fun e=>V.ref e.bo) ++ [.ref e.bo]:=by simp
  rw [els] at hwlA
  have elen:=Vq D (e :: es)
  rw [List.length_cons] at elen
  have dr:∀ t,e.ts[e.rs.length]?=some t->e.ts.drop e.rs.length=t :: e.ts.drop (e.rs.length + 1):=fun t ht=>(List.drop_eq_getElem_cons (List.getElem?_eq_some_iff.mp ht).1).trans (by rw [(List.getElem?_eq_some_iff.mp ht).2])
  refine ⟨_,rfl,_,rfl,wl,_,_,_,rfl,rfl,SqL.of hwlA,j6 _ _,?_⟩
  refine ⟨_,rfl,e.bo,cB,e.dx,_,_,rfl,eo,N.cl,N.b3,rfl,_,_,rfl,.inl (SqL.of he.r),_,rfl,e.bo,cB,e.dx,_,_,rfl,eo,N.cl,N.b1,rfl,_,_,rfl,.inl (SqL.of hw),_,_,rfl,rfl,_,rfl,?_⟩
  refine ite2 (fun c=>?_) (fun c=>?_)
  · rw [decide_eq_true_eq] at c
    have c:e.rs.length < ws.length:=by lia
    obtain ⟨t,ht,hIt⟩:=hIT'.get (List.getElem?_eq_getElem c)
    refine vt rfl (fun R h=>⟨_,rfl,e.bo,cB,e.dx,_,_,rfl,eo,N.cl,N.b1,rfl,_,rfl,e.bo,cB,e.dx,_,_,rfl,eo,N.cl,N.b3,rfl,_,_,rfl,.inl (SqL.of he.r),_,_,_,_,rfl,rfl,SqL.of hw,ym (List.getElem?_eq_getElem c),h⟩) (D.beg hIt okA hRd hRM fun Hb pq l fl vs R' kB okB hq hl hlB sub sub' dom' Rl hks hfin=>?_)
    refine ⟨_,rfl,.inl ⟨rfl,_,SqL.of (kB _ _ mwl hwlA)⟩,_,rfl,ixT hq aI0 ⟨_,rfl,ixT hq aI1 (fun x' dx' hx' hdx' nxd'=>?_)⟩⟩
    refine ⟨x',dx',l,fl,rfl,zf,fun Hc rb kp' hrb hrb2 hxc=>⟨rfl,?_⟩⟩
    have sbc:Same Hb Hc:=fun b u e=>kp' b u (zi e hx') (by rw [zg (zi e hx'),zg (zi e hdx')]; exact e)
    have nrx:rb≠x':=fun z=>by
      rw [z,zf] at hrb
      cases hrb
    have nrd':rb≠dx':=fun z=>by
      rw [z,zg nxd',zf] at hrb
      cases hrb
    have hrbB:Hb rb=none:=by
      rw [zg nrx,zg nrd'] at hrb
      exact hrb
    have okC:D.Ok Hc:=D.okk okB fun b u e _=>sbc b u e
    have hMB:∀ b,Hb b=none->¬ D.M b:=fun b e m=>D.okM okB m e
    have hwlC:Hc wl=some (.lst ((es.reverse.map fun e=>V.ref e.bo) ++ [.ref e.bo])):=sbc _ _ (kB _ _ mwl hwlA)
    refine ⟨wl,_,_,rfl,rfl,hwlC,by rw [List.length_append,List.length_map,List.length_reverse]; show es.length + 1 < _; lia,?_⟩
    have nR'w:¬ R' wl:=fun z=>by
      rcases sub' _ z with z | z
      · exact nRw z
      · rw [hwlA] at z; cases z
    have kzA:Kz D.M R Ha (upd Hc wl (.lst ((es.reverse.map fun e=>V.ref e.bo) ++ [.ref e.bo] ++ [.ref x']))):=fun b u q1 q2 q3=>by
      rw [zg]
      · exact sbc _ _ (kB _ _ q2 q1)
      · intro z
        rw [z,hwlA] at q1
        cases q1
        rw [z] at q3
        exact nRw (q3 _ rfl)
    have kzB:Kz D.M R' Hb (upd Hc wl (.lst ((es.reverse.map fun e=>V.ref e.bo) ++ [.ref e.bo] ++ [.ref x']))):=fun b u q1 q2 q3=>by
      rw [zg]
      · exact sbc _ _ q1
      · intro z
        rw [z,kB _ _ mwl hwlA] at q1
        cases q1
        rw [z] at q3
        exact nR'w (q3 _ rfl)
    have nx':x'≠wl:=zi (by exact kB _ _ mwl hwlA) hx' |>.symm
    have nrb:rb≠wl:=(zi (kB _ _ mwl hwlA) hrbB).symm
    have nl:l≠wl:=fun z=>nR'w (z ▸ Rl)
    have nolds:∀ e'∈e :: es,Hc e'.ra=some (.lst e'.rs)/\e'.ra≠wl/\¬ R' e'.ra:=fun e' he'=>by
      have h':=hes e' he'
      refine ⟨sbc _ _ (kB _ _ h'.nM h'.r),fun z=>?_,fun z=>?_⟩
      · have:=(List.nodup_cons.mp nd).1
        exact this (z ▸ List.mem_map.mpr ⟨e',he',rfl⟩)
      · rcases sub' _ z with z | z
        · exact h'.nr z
        · rw [h'.r] at z; cases z
    refine fin _ _ ⟨_,?_,⟨x',dx',l,rb,fl,some t,D.kids t,[]⟩ :: e :: es,R',_,_,_,_,rfl,rfl,?_,D.okk okC ?_,?_,nR'w,?_,?_,.up lk rfl ht,?_,?_,?_,?_,?_⟩
    · show 1 + (((D.kids t).drop 0).map D.wt).sum + mlow D (e :: es) < 1 + ((e.ts.drop e.rs.length).map D.wt).sum + mlow D es
      rw [dr t ht]
      have:=D.wk t
      rw [show mlow D (e :: es)=1 + ((e.ts.drop (e.rs.length + 1)).map D.wt).sum + mlow D es from rfl]
      simp only [List.drop_zero,List.map_cons,List.sum_cons]
      lia
    · exact ((kHa.trans kB).trans (.of sbc)).put hwl0
    · intro b u q1 q2
      rw [zg]
      · exact q1
      · intro z
        rw [z,hwlC] at q1
        cases q1
        rw [z] at q2
        exact mwl (q2 _ rfl)
    · rw [zf]
      simp
    · intro e' he'
      rcases List.mem_cons.mp he' with rfl | he'
      · exact ⟨by rw [zg nx']; exact hxc,hMB _ hx',⟨vs,by rw [zg nl]; exact sbc _ _ hlB,hks.imp fun a b q=>D.itk q okB kzB fun _ z=>z⟩,Rl,by rw [zg nrb]; exact hrb2,fun z=>dom' _ z hrbB,hMB _ hrbB,Nat.zero_le _,.nil,D.ifk hfin okB kzB fun _ z=>z,rfl⟩
      · obtain ⟨n1,n2,n3⟩:=nolds e' he'
        exact (hes e' he').keep okA kzA hRM sub (by rw [zg n2]; exact n1) n3
    · intro e' he'
      rcases List.mem_cons.mp he' with rfl | he'
      · exact (kHa.trans kB).free (hMB _ hrbB) hrbB
      · exact hra e' he'
    · intro b z
      by_cases hb:b=wl
      · rw [hb,zf]; simp
      · rw [zg hb]
        cases q:Hb b with
        | none=>exact absurd q (dom' b z)
        | some u=>rw [sbc _ _ q]; simp
    · intro b z
      rcases sub' b z with z | z
      · exact hRM b z
      · exact hMA b z
    · rw [List.map_cons,List.nodup_cons] at *
      refine ⟨fun z=>?_,List.nodup_cons.mpr ⟨fun z=>?_,nd.2⟩⟩
      · rcases List.mem_cons.mp z with z | z
        · exact nrb z.symm
        · exact nd.1 z
      · obtain ⟨e',he',z⟩:=List.mem_map.mp z
        have:=kB _ _ (hes e' he').nM (hes e' he').r
        rw [z,hrbB] at this
        cases this
    · refine Nat.le_trans ?_ hms
      show 1 + (((D.kids t).drop 0).map D.wt).sum + mlow D (e :: es)<=1 + ((e.ts.drop e.rs.length).map D.wt).sum + mlow D es
      rw [dr t ht]
      have:=D.wk t
      rw [show mlow D (e :: es)=1 + ((e.ts.drop (e.rs.length + 1)).map D.wt).sum + mlow D es from rfl]
      simp only [List.drop_zero,List.map_cons,List.sum_cons]
      lia
    · intro e' he'
      rcases List.mem_cons.mp he' with rfl | he'
      · have h1:=D.wk t
        have h2:D.wt t<=mall D (e :: es):=by
          show _<=1 + ((e.ts.drop e.rs.length).map D.wt).sum + mlow D es
          rw [dr t ht,List.map_cons,List.sum_cons]
          lia
        have h3:=Vr D (D.kids t)
        show (D.kids t).length<=1000000
        lia
      · exact hln e' he'
  · have c:¬ e.rs.length < ws.length:=fun z=>c (decide_eq_true (by lia))
    have le:=he.le
    have rr:=he.rr
    rw [List.take_of_length_le (by lia)] at rr
    refine ⟨_,rfl,e.bo,cB,e.dx,_,_,rfl,eo,N.cl,N.b2,rfl,?_⟩
    have pop:∀ {Hb:Hp},Hb wl=some (.lst ((es.reverse.map fun e=>V.ref e.bo) ++ [.ref e.bo]))->∀ {Q:VK},Q (.ref e.bo) (upd Hb wl (.lst (es.reverse.map fun e=>V.ref e.bo)))->rPop (.ref wl) [] Hb Q:=fun h Q q=>⟨wl,_,.ref e.bo,rfl,rfl,h,by simp,by rw [List.dropLast_concat]; exact q⟩
    cases htk:e.tk with
    | none =>
      have fin:=he.fin
      rw [htk] at fin
      obtain ⟨e1,e2⟩:=fin
      have es0:es=[]:=by
        cases lk with
        | bot _=>rfl
        | up _ q _=>rw [htk] at q; cases q
      subst es0
      rw [e2] at rr
      have hrs:=he.r
      generalize e.rs=rs at *
      cases rr with
      | cons hv hn =>
      cases hn
      rw [e1]
      refine vt rfl (fun R h=>⟨_,rfl,e.bo,cB,e.dx,_,_,rfl,eo,N.cl,N.b3,rfl,h⟩) ⟨fdo,_,_,GO.mono (by lia),bO,⟨e.ra,_,[],rfl,hrs,?_⟩,.inr kO⟩
      refine ⟨_,rfl,.inl ⟨rfl,_,SqL.of hwlA⟩,pop hwlA ?_⟩
      refine ⟨_,rfl,_,_,rfl,.inl (SqL.of zf),rfl,_,rfl,iteT ⟨_,rfl,?_⟩⟩
      rw [rt_]
      refine q _ _ R (kHa.put hwl0) (D.okk okA fun b u q1 q2=>?_) hRM (D.irk hv okA (fun b u q1 q2 q3=>?_) fun _ z=>z)
      · rw [zg]
        · exact q1
        · intro z
          rw [z,hwlA] at q1
          cases q1
          rw [z] at q2
          exact mwl (q2 _ rfl)
      · rw [zg]
        · exact q1
        · intro z
          rw [z,hwlA] at q1
          cases q1
          rw [z] at q3
          exact nRw (q3 _ rfl)
    | some t =>
      have fin:=he.fin
      rw [htk] at fin
      obtain ⟨e1,e2⟩:=fin
      rw [e2] at rr
      cases lk with
      | bot q=>rw [htk] at q; cases q
      | @up _ e' es' t' lk' q ht' =>
      rw [htk] at q
      cases q
      have he':=hes e' (.tail _ (.head _))
      have ndA:=nd
      rw [List.map_cons,List.map_cons,List.nodup_cons,List.nodup_cons,List.nodup_cons] at ndA
      obtain ⟨nd1,nd2,nd3,nd4⟩:=ndA
      have nwe:e.ra≠wl:=fun z=>nd1 (z ▸ .head _)
      have nwe':e'.ra≠wl:=fun z=>nd1 (z ▸ .tail _ (.head _))
      have nee':e'.ra≠e.ra:=fun z=>nd2 (z ▸ .head _)
      have kzR:Kz D.M R Ha Ha:=fun b u q _ _=>q
      refine vt rfl (fun R h=>⟨_,rfl,e.bo,cB,e.dx,_,_,rfl,eo,N.cl,N.b3,rfl,h⟩) (D.fin (R:=fun b=>R b\/b=e.ra) (D.ifk e1 okA kzR fun _ z=>.inl z) okA ?_ ?_ (.inr rfl) he.r (rr.imp fun a b q=>D.irk q okA kzR fun _ z=>.inl z) fun Hb rv R' kB okB sub sub' dom' hIR=>?_)
      · rintro b (z | z)
        · exact hRd b z
        · rw [z,he.r]; simp
      · rintro b (z | z)
        · exact hRM b z
        · rw [z]; exact he.nM
      have hwlB:=kB _ _ mwl hwlA
      have heB:=kB _ _ he'.nM he'.r
      have hoB:=kB _ _ he'.nb he'.o
      have no':e'.bo≠wl:=xz hoB hwlB (by unfold BO; intro z; cases z)
      refine ⟨_,rfl,.inl ⟨rfl,_,SqL.of hwlB⟩,pop hwlB ?_⟩
      have els':((e' :: es').reverse.map fun e=>V.ref e.bo)=(es'.reverse.map fun e=>V.ref e.bo) ++ [.ref e'.bo]:=by simp
      rw [els']
      refine ⟨_,rfl,_,_,rfl,.inl (SqL.of zf),rfl,_,rfl,iteN ?_ ?_⟩
      · rw [List.length_append]
        exact decide_eq_false (by intro z; have:=V.int.inj z; simp at this; lia)
      refine ⟨_,rfl,_,rfl,wl,_,_,_,rfl,rfl,SqL.of zf,j6 _ _,e'.bo,cB,e'.dx,_,.ref e'.ra,rfl,by rw [zg no']; exact hoB,N.cl,N.b3,rfl,.inl ⟨rfl,_,SqL.of (by rw [zg nwe']; exact heB)⟩,_,rfl,e'.ra,_,_,rfl,rfl,by rw [zg nwe']; exact heB,?_,?_⟩
      · have:=(List.getElem?_eq_some_iff.mp ht').1
        have:=hln e' (.tail _ (.head _))
        lia
      have nR'w:¬ R' wl:=fun z=>by
        rcases sub' _ z with (z | z) | z
        · exact nRw z
        · exact nwe z.symm
        · rw [hwlA] at z; cases z
      have nR':∀ e1∈e' :: es',¬ R' e1.ra:=fun e1 h1 z=>by
        rcases sub' _ z with (z | z) | z
        · exact (hes e1 (.tail _ h1)).nr z
        · exact nd2 (z ▸ List.mem_map.mpr ⟨e1,h1,rfl⟩)
        · rw [(hes e1 (.tail _ h1)).r] at z; cases z
      have kzB:Kz D.M R' Hb (upd (upd Hb wl (.lst ((es'.reverse.map fun e=>V.ref e.bo) ++ [.ref e'.bo]))) e'.ra (.lst (e'.rs ++ [rv]))):=fun b u q1 q2 q3=>by
        have n1:b≠e'.ra:=fun z=>by
          rw [z,heB] at q1
          cases q1
          rw [z] at q3
          exact nR' e' (.head _) (q3 _ rfl)
        have n2:b≠wl:=fun z=>by
          rw [z,hwlB] at q1
          cases q1
          rw [z] at q3
          exact nR'w (q3 _ rfl)
        rw [zg n1,zg n2]
        exact q1
      have kzA:Kz D.M R Ha (upd (upd Hb wl (.lst ((es'.reverse.map fun e=>V.ref e.bo) ++ [.ref e'.bo]))) e'.ra (.lst (e'.rs ++ [rv]))):=fun b u q1 q2 q3=>kzB b u (kB _ _ q2 q1) q2 fun xs z=>sub _ (.inl (q3 xs z))
      have subR:∀ b,R b->R' b:=fun b z=>sub _ (.inl z)
      refine fin _ _ ⟨_,?_,{ e' with rs:=e'.rs ++ [rv] } :: es',R',_,_,_,_,rfl,rfl,((kHa.trans kB).put hwl0).put (hra e' (.tail _ (.head _))),D.okk okB ?_,?_,nR'w,?_,?_,?_,?_,?_,?_,?_,?_⟩
      · show 1 + ((e'.ts.drop (e'.rs ++ [rv]).length).map D.wt).sum + mlow D es' < 1 + ((e.ts.drop e.rs.length).map D.wt).sum + (1 + ((e'.ts.drop (e'.rs.length + 1)).map D.wt).sum + mlow D es')
        rw [List.length_append,List.length_singleton]
        lia
      · intro b u q1 q2
        have n1:b≠e'.ra:=fun z=>by
          rw [z,heB] at q1
          cases q1
          rw [z] at q2
          exact he'.nM (q2 _ rfl)
        have n2:b≠wl:=fun z=>by
          rw [z,hwlB] at q1
          cases q1
          rw [z] at q2
          exact mwl (q2 _ rfl)
        rw [zg n1,zg n2]
        exact q1
      · rw [zg nwe'.symm,zf]
        simp
      · intro e1 h1
        rcases List.mem_cons.mp h1 with rfl | h1
        · obtain ⟨o,nb,⟨ws',w1,w2⟩,Rw,r,nr',nM,le',rr',fin⟩:=he'
          refine ⟨kzA _ _ o nb (by intro xs q; unfold BO at q; cases q),nb,⟨ws',kzA _ _ w1 (hRM _ Rw) (fun _ _=>Rw),w2.imp fun a b q=>D.itk q okA kzA subR⟩,subR _ Rw,zf,nR' e' (.head _),nM,?_,?_,?_⟩
          · show (e'.rs ++ [rv]).length<=_
            rw [List.length_append,List.length_singleton]
            exact (List.getElem?_eq_some_iff.mp ht').1
          · show All2 _ (e'.ts.take (e'.rs ++ [rv]).length) (e'.rs ++ [rv])
            rw [List.length_append,List.length_singleton,List.take_add_one,ht']
            exact (rr'.imp fun a b q=>D.irk q okA kzA subR).app (.cons (D.irk hIR okB kzB fun _ z=>z) .nil)
          · show (match e'.tk with | none=>_ | some t=>_)
            cases q:e'.tk with
            | none=>rw [q] at fin; exact fin
            | some t=>rw [q] at fin; exact ⟨D.ifk fin.1 okA kzA subR,fin.2⟩
        · have h1':=hes e1 (.tail _ (.tail _ h1))
          have m1:e1.ra≠e'.ra:=fun z=>nd3 (z ▸ List.mem_map.mpr ⟨e1,h1,rfl⟩)
          have m2:e1.ra≠wl:=fun z=>nd1 (z ▸ .tail _ (.tail _ (List.mem_map.mpr ⟨e1,h1,rfl⟩)))
          exact h1'.keep okA kzA hRM subR (by rw [zg m1,zg m2]; exact kB _ _ h1'.nM h1'.r) (nR' e1 (.tail _ h1))
      · intro e1 h1
        rcases List.mem_cons.mp h1 with rfl | h1
        · exact hra e' (.tail _ (.head _))
        · exact hra e1 (.tail _ (.tail _ h1))
      · cases lk' with
        | bot q=>exact .bot q
        | up a b c=>exact .up a b c
      · intro b z
        have:=dom' b z
        unfold upd
        split
        · simp
        · split
          · simp
          · exact this
      · intro b z
        rcases sub' b z with (z | z) | z
        · exact hRM b z
        · rw [z]; exact he.nM
        · exact hMA b z
      · exact List.nodup_cons.mpr ⟨fun z=>nd1 (.tail _ z),List.nodup_cons.mpr ⟨nd3,nd4⟩⟩
      · refine Nat.le_trans ?_ hms
        show 1 + ((e'.ts.drop (e'.rs ++ [rv]).length).map D.wt).sum + mlow D es'<=1 + ((e.ts.drop e.rs.length).map D.wt).sum + (1 + ((e'.ts.drop (e'.rs.length + 1)).map D.wt).sum + mlow D es')
        rw [List.length_append,List.length_singleton]
        lia
      · intro e1 h1
        rcases List.mem_cons.mp h1 with rfl | h1
        · exact hln e' (.tail _ (.head _))
        · exact hln e1 (.tail _ (.tail _ h1))
end
end GN
namespace HT
open PySem PySem.Spec PyProof.Rows
section
variable {prog:Program} {w:World} {A:Around} {s:Shared} {E:Value->Shared->Prop}
theorem getItem_tuple_whole {t sl:Addr} {items:Array Value} {vl vu:Value} {lo hi:Option Int} {Q:Value->Shared->Prop} (ht:IsTup s.heap t items) (hs:s.heap.IsSliceOf sl vl vu .none) (pl:IsPart vl lo) (pu:IsPart vu hi)
    (hw:sIx items.size 0 lo=0/\sIx items.size items.size hi=items.size) (h:Q (.ref t) s):wpAny (model prog w) A (getItem (.ref t) (.ref sl)) Q E s:=by
  obtain ⟨os,hos,hcs,hds⟩:=id hs
  have hTs:s.TypeIs (.ref sl) "slice":=⟨os,hos,hcs⟩
  unfold getItem
  try with_reducible refine wpAny_holding ?_
  first | refine wpAny_bind (wpAny_pure ?_) | skip
  refine wpAny_bind (wpAny_sequenceKey ht.typeIs (by decide) ?_)
  refine wpAny_bind (wpAny_callSpecial?_slot (name:=Str.ofString "__getitem__") ht.typeIs PyProof.Rows.slot_tuple_getitem
    (wpAny_call_entry PyProof.Rows.slot_tuple_getitem ht.typeIs entry_tuple_getitem ?_ (args_tuple_getitem _ _)))
  show wpAny _ _ (Builtin.Tuple.tupleItemsOf (.ref t) >>= _) _ _ s
  refine wpAny_bind (tupleItemsOf_ ht ?_)
  refine wpAny_bind (wpAny_typeOf hTs ?_)
  rw [if_pos (by decide)]
  refine wpAny_bind (yO hs pl pu ?_)
  have hyes:(((sIx items.size 0 lo:Nat):Int) == 0 && (1:Int) == 1 && (sIx items.size items.size hi - sIx items.size 0 lo) == items.size)=true:=by
    rw [hw.1,hw.2]
    simp
  show wpAny _ _ (if (((sIx items.size 0 lo:Nat):Int) == 0 && (1:Int) == 1 && (sIx items.size items.size hi - sIx items.size 0 lo) == items.size)=true then _ else _) _ _ s
  rw [if_pos hyes]
  have hx:wpAny (model prog w) A.in1 (Builtin.Tuple.tupleIsExact (.ref t)) (fun b s'=>b=true/\s'=s) (fun _ _=>False) s:=by
    unfold Builtin.Tuple.tupleIsExact
    exact wpAny_bind (wpAny_typeOf ht.typeIs (wpAny_pure ⟨by decide,rfl⟩))
  refine wpAny_bind (wpAny_mono hx (fun b s' q=>?_) fun _ _ z=>z.elim)
  obtain ⟨rfl,rfl⟩:=q
  rw [if_pos rfl]
  exact wpAny_bind (wpAny_rule (wpAny_pure ⟨_,rfl,wpAny_pure h⟩))
end
end HT
namespace L2
open PySem PySem.Spec PyProof.Rows
def rSlW (K:PySem.W.Frag):V->Option Int->Option Int->Hp->VK->Prop:=fun x lo hi H Q=>∃ a xs,x=.ref a/\SqT K H a xs /\
  (cutV xs lo hi=xs->Q (.ref a) H)/\∀ p,H p=none->Q (.ref p) (upd H p (.tup (cutV xs lo hi)))
section
variable {X:Cx}
theorem Qh:SlR X (rSlW X.K):=by
  intro pins s σ H x v vl vu lo hi sl Q I rx hs pl pu h
  obtain ⟨a,xs,rfl,hx,q1,q⟩:=h
  by_cases hw:HT.sIx xs.length 0 lo=0/\HT.sIx xs.length xs.length hi=xs.length
  · cases rx
    obtain ⟨its,r,ht,hz⟩:=I.tuple hx
    have hlen:its.toArray.size=xs.length:=by rw [List.size_toArray]; exact r.length.symm
    refine ⟨"tuple",_,PyProof.Rows.slot_tuple_getitem.lookup,ht.typeIs,?_⟩
    refine HT.getItem_tuple_whole ht hs pl pu (by rw [hlen]; exact hw) ⟨.ref a,H,I,rfl,q1 ?_⟩
    unfold cutV
    rw [hw.1,hw.2]
    simp
  · exact zaS pins s σ H (.ref a) v vl vu lo hi sl Q I rx hs pl pu ⟨a,xs,rfl,hx,hw,q⟩
def rSlO:V->Option Int->Option Int->Hp->VK->Prop:=fun x lo hi H Q=>∃ a xs,x=.ref a/\H a=some (.tup xs)/\∀ p H',(∀ b o,H b=some o->H' b=some o)->H' p=some (.tup (cutV xs lo hi))->Q (.ref p) H'
theorem Qi:SlR X rSlO:=by
  intro pins s σ H x v vl vu lo hi sl Q I rx hs pl pu h
  obtain ⟨a,xs,rfl,hx,q⟩:=h
  refine Qh pins s σ H (.ref a) v vl vu lo hi sl Q I rx hs pl pu ⟨a,xs,rfl,SqT.of hx,fun e=>q a H (fun _ _ z=>z) (by rw [e]; exact hx),fun p hp=>q p _ (fun b o z=>?_) zf⟩
  rw [zg (zi z hp)]
  exact z
theorem Y9:jSl X rSlO:=⟨Qi⟩
end
section
variable {prog:Program} {w:World} {A:Around} {E:Value->Shared->Prop}
end
inductive TyN (H:Hp):V->Bool->Prop where
  | int (i:Int):TyN H (.int i) false
  | str (z:Str):TyN H (.str z) false
  | bl (b:Bool):TyN H (.bl b) false
  | non:TyN H .non false
  | lst {a:Addr} {xs:List V} (e:H a=some (.lst xs)):TyN H (.ref a) true
  | tup {a:Addr} {xs:List V} (e:H a=some (.tup xs)):TyN H (.ref a) true
section
variable {X:Cx}
variable {CX:CXT} {k:Nat} {C:Addr} {ps:List Str} {sp:Sp} {E:XK} {x m:Str} {p pos apos:Pos} {e o:Expr} {es:List Expr} {ta:TE} {t:TA}
theorem zbk (F:Ma X.prog X.w X.K X.mg X.base CX k x C ps sp) (hr:Room (k + 1) X.A) (hg:Gl X x) (hx:yk CX X E) (hdb:(x == ("__debug__":Str))=false:=by decide) :
    jE X (.Call (.Name x p) [] [] pos) (YN C sp [] E tNil):=let ⟨_,_,M,G,b,mg⟩:=F.ex; ⟨Ws M G hr hg mg b .nil hx hdb⟩
theorem Xa {o i:Expr} {td ty:TE} {pos:Pos} (hr:Room k X.A) (ho:jE X o td) (hi:jE X i ty) (hs:NoSl i:=by intro _ _; rfl):jE X (.Subscript o i pos) (zaf td ty):=⟨J5 (vS hr) ho.out hi.out hs⟩
theorem vv {o e f:Expr} {td ty tx:TE} {apos cpos:Pos} (hr:Room k X.A) (ho:jE X o td) (he:jE X e ty) (hf:jE X f tx) (m:M2 X o "get" apos e f cpos:=by exact ⟨rfl,rfl,rfl,rfl⟩):jE X (.Call (.Attribute o "get" apos) [e,f] [] cpos) (W6 td ty tx):=⟨W7 (vS hr) ho.out he.out hf.out m⟩
end
section
variable {g:TG} {tt:TT} {te:TE} {Q:VK} {σ:St} {H:Hp}
end
end L2
namespace L2
open PySem
section
variable {X:Cx} {a:Expr} {ta:TE} {pos:Pos}
theorem Yn:jOp X (binaryOp .BitOr) (rI0 fun i j=>.int (Builtin.bitOr i j)):=⟨zbT⟩
theorem Qj:jOp X (binaryOp .BitAnd) (rI0 fun i j=>.int (Builtin.bitAnd i j)):=⟨zaJ⟩
theorem zbl (ha:jE X a ta):jE X (.UnaryOp .Invert a pos) (tUn (rU fun i=>.int (Builtin.bitNot i)) ta):=⟨Q0 zaL ha.out⟩
end
end L2
namespace GN
open PySem L2 K11
def Vs:Sp:=fun vs H Q _=>∃ (p:Addr) (ns:List Str),vs=[.ref p]/\H p=some (.lst (ns.map V.str))/\ns.Nodup/\ns.length<=1000/\∀ (H':Hp) (d:Addr),Same H H'->H d=none->H' d=some (.dK (yo ns 1))->Q (.ref d) H'
def zah:Sp:=fun vs H Q _=>∃ (p d:Addr) (xs ns:List Str),vs=[.ref p,.ref d]/\H p=some (.tup (xs.map V.str))/\H d=some (.dK (yo ns 1))/\Q (.int ((tog ns xs:Nat):Int)) H
def vZ:Sp:=fun vs H Q _=>∃ (p:Addr) (d:De),vs=[.ref p]/\IsDe H d p/\∀ (H':Hp) (q:Addr),Same H H'->H' q=some (.tup (d.uses.map V.str))->Q (.ref q) H'
def Vt:Sp:=fun vs H Q _=>∃ (p:Addr) (b:Bd),vs=[.ref p]/\IsB H b p/\∀ (H':Hp) (q:Addr),Same H H'->H' q=some (.tup (b.used.map V.str))->Q (.ref q) H'
theorem XW {ns:List Str} {x:Str} {b:Nat} (h:x ∉ ns):putK (yo ns b) (.inr x) (.int ((b * 2 ^ ns.length:Nat):Int))=yo (ns ++ [x]) b:=by
  unfold putK
  rw [yP,wo,if_neg h,if_neg (by simp),vX]
theorem Vu {ns xs:List Str} {i:Nat} {x:Str} (h:xs[i]?=some x):tog ns (xs.take (i + 1))=tog ns (xs.take i) ||| bitN ns x:=by
  unfold tog
  rw [List.take_add_one,h,List.foldl_append]
  rfl
section
variable {P:Program} {w:World} {K:PySem.W.Frag} {mg:Str->Option Value} {base:Heap} {f:Addr} {fd:FuncData}
theorem scBits:FnScope ["names","bits","bit","name"] ["names"] (zn Va):=.ok
theorem Qk (F:Fun K "bits_of" "bits_of" Va f fd):FnOk P w K mg base CX0 1 f fd ["names"] Vs:=by
  refine F.by scBits (fun vs H Q E h=>?_) (fun cdv A outer s H vs Q E hr h=>?_)
  · obtain ⟨p,ns,rfl,_⟩:=h
    rfl
  obtain ⟨p,ns,rfl,hp,nd,hl,q⟩:=h
  refine ⟨_,
    (zh (sE 1 scBits.nd xE)
    (zh (sE 2 scBits.nd zo)
    (zh (yd PassesOwn.never rfl (yi (jv 0)) (gN 3 scBits.nd)
      (zh (yK hr (jv 1) (jv 3) (jv 2)) (zj (sE 2 scBits.nd (zA ye (jv 2) (jv 2))))))
    (zj (zu (jv 1)))))),?_⟩
  have sl:=zW
  intro d hd
  have s1:=zk (o:=.dK []) hd
  have npd:p≠d:=zi hp hd
  refine ⟨_,rfl,p,rfl,⟨_,SqL.of (s1 _ _ hp)⟩,yN (xs:=ns.map V.str) (fun i σ H'=>Same H H'/\H' d=some (.dK (yo (ns.take i) 1))/\∃ z,σ=[some (.ref p),some (.ref d),some (.int ((2 ^ i:Nat):Int)),z]) ⟨s1,zf,none,rfl⟩ (fun i σ H' _ h=>SqL.of (h.1 _ _ hp)) ?_ ?_⟩
  · rintro i v σ H1 hv ⟨s2,hd2,z,rfl⟩
    rw [List.getElem?_map] at hv
    obtain ⟨x,hx,rfl⟩:=Option.map_eq_some_iff.mp hv
    have hi:=(List.getElem?_eq_some_iff.mp hx).1
    have hnx:x ∉ ns.take i:=fun hm=>by
      obtain ⟨j,hj⟩:=List.mem_iff_getElem?.mp hm
      have hj':j < i:=by
        have:=(List.getElem?_eq_some_iff.mp hj).1
        rw [List.length_take] at this
        lia
      rw [List.getElem?_take_of_lt hj'] at hj
      have:=(List.getElem?_inj (List.getElem?_eq_some_iff.mp hj).1 nd).mp (hj.trans hx.symm)
      lia
    have tl:(ns.take i).length=i:=by rw [List.length_take]; lia
    have e:=XW (b:=1) hnx
    rw [tl,Nat.one_mul] at e
    refine ⟨_,rfl,_,rfl,_,rfl,d,_,rfl,DPut.k (k:=.inr x) hd2 (by rw [vY,tl]; lia),?_⟩
    refine ⟨_,rfl,_,rfl,_,_,rfl,rfl,s2.put hd,?_,some (.str x),?_⟩
    · rw [zf,e,List.take_add_one,hx]
      rfl
    · show [_,_,some (V.int (_ + _)),_]=_
      rw [<- Int.natCast_add,<- Nat.two_mul,Nat.mul_comm,<- Nat.pow_succ]
  · rintro σ H1 ⟨s2,hd2,z,rfl⟩
    rw [List.length_map,List.take_of_length_le (Nat.le_refl _)] at hd2
    exact ⟨_,rfl,q _ d s2 hd hd2⟩
theorem scTog:FnScope ["names","bits","found","name"] ["names","bits"] (zn sTog):=.ok
theorem zbm (F:Fun K "together" "together" sTog f fd):FnOk P w K mg base CX0 1 f fd ["names","bits"] zah:=by
  refine F.by scTog (fun vs H Q E h=>?_) (fun cdv A outer s H vs Q E hr h=>?_)
  · obtain ⟨p,d,xs,ns,rfl,_⟩:=h
    rfl
  obtain ⟨p,d,xs,ns,rfl,hp,hd,q⟩:=h
  refine ⟨_,
    (zh (sE 2 scTog.nd zo)
    (zh (yd PassesOwn.never rfl (xp (jv 0)) (gN 3 scTog.nd)
      (zj (sE 2 scTog.nd (zA Yn (jv 2) (vv hr (jv 1) (jv 3) zo)))))
    (zj (zu (jv 2))))),?_⟩
  refine ⟨_,rfl,p,rfl,⟨_,SqT.of hp⟩,xB (xs:=xs.map V.str) (fun i σ H'=>H=H'/\∃ z,σ=[some (.ref p),some (.ref d),some (.int ((tog ns (xs.take i):Nat):Int)),z]) ⟨rfl,none,rfl⟩ (fun i σ H' _ h=>SqT.of (h.1 ▸ hp)) ?_ ?_⟩
  · rintro i v σ H1 hv ⟨rfl,z,rfl⟩
    rw [List.getElem?_map] at hv
    obtain ⟨x,hx,rfl⟩:=Option.map_eq_some_iff.mp hv
    have e:((valV (yo ns 1) (.inr x)).getD (.int 0))=.int ((bitN ns x:Nat):Int):=by
      rw [wo]
      by_cases c:x∈ns
      · rw [if_pos c,Nat.one_mul]; rfl
      · rw [if_neg c,Zi c]; rfl
    refine ⟨_,rfl,_,rfl,d,rfl,.inl ⟨_,.inl hd⟩,_,rfl,_,DGet.k (k:=.inr x) hd,?_⟩
    rw [e]
    refine ⟨_,_,rfl,rfl,rfl,some (.str x),?_⟩
    show [_,_,some (V.int (Builtin.bitOr _ _)),_]=_
    rw [jJ,<- Vu hx]
  · rintro σ H1 ⟨rfl,z,rfl⟩
    rw [List.length_map,List.take_of_length_le (Nat.le_refl _)]
    exact ⟨_,rfl,q⟩
theorem XX:FnScope ["deed"] ["deed"] (zn w6):=.ok
theorem Yo (F:Fun K "names_of" "names_of" w6 f fd):FnOk P w K mg base CX0 1 f fd ["deed"] vZ:=by
  refine F.by XX (fun vs H Q E h=>?_) (fun cdv A outer s H vs Q E hr h=>?_)
  · obtain ⟨p,d,rfl,_⟩:=h
    rfl
  obtain ⟨p,d,rfl,hd,q⟩:=h
  refine ⟨_,
    (zh (zI (tN zR (xT 0) zr) (zj (zu (zq zS))) zw)
    (zh (zI (tN zR (xT 0) zr) (zj (zu (yv Y9 (jv 0) (yI zo) yH))) zw)
    (zh (zI (tN zR (xT 0) zr) (zj (zu (zA JV (zq (jA1 (xT 0))) (xT 0)))) zw)
    (zj (zu (xT 0)))))),?_⟩
  have sl:=zW
  cases hd with
  | num hp =>
    refine ⟨_,rfl,ixT hp aI0 ⟨rfl,_,rfl,ite2 (fun _=>?_) aB⟩⟩
    exact ⟨sN0,fun r hr=>q _ r (zk hr _) zf⟩
  | @op w0 a b _ hp =>
    refine ⟨_,rfl,ixT hp aI0 ⟨rfl,_,rfl,ite2 aB (fun _=>?_)⟩⟩
    refine ⟨_,rfl,ixT hp aI0 ⟨rfl,_,rfl,ite2 (fun _=>?_) aB⟩⟩
    exact ⟨_,rfl,_,rfl,p,_,rfl,hp,fun r H' s1 h1=>q H' r s1 h1⟩
  | @app w0 g xs _ pq hw hp hq =>
    obtain ⟨w1,w2,w3⟩:=hw
    have n1:¬ (decide (V.str w0=V.str "num")=true):=fun c=>w1 (V.str.inj (of_decide_eq_true c))
    have n2:¬ (decide (V.str w0=V.str "op")=true):=fun c=>w2 (V.str.inj (of_decide_eq_true c))
    refine ⟨_,rfl,ixT hp aI0 ⟨rfl,_,rfl,ite2 (fun c=>absurd c n1) (fun _=>?_)⟩⟩
    refine ⟨_,rfl,ixT hp aI0 ⟨rfl,_,rfl,ite2 (fun c=>absurd c n2) (fun _=>?_)⟩⟩
    refine ⟨_,rfl,ixT hp aI0 ⟨rfl,_,rfl,ite2 (fun c=>?_) (fun c=>?_)⟩⟩
    · have e:w0="ask":=V.str.inj (of_decide_eq_true c)
      subst e
      rw [Vd] at q
      refine ⟨_,rfl,ixT hp aI1 ⟨sN1,fun t1 h1=>?_⟩⟩
      have s1:=zk (o:=.tup [.str g]) h1
      refine ⟨_,rfl,ixT (s1 _ _ hp) aI2 ⟨t1,pq,_,_,rfl,rfl,SqT.of zf,SqT.of (s1 _ _ hq),by simp,by rw [List.length_map]; show 1 + xs.length<=_; lia,fun e=>?_,fun _ r hr=>?_⟩⟩
      · have e:xs=[]:=List.map_eq_nil_iff.mp e
        subst e
        exact q _ t1 s1 zf
      · exact q _ r (s1.new hr) zf
    · have e:w0≠"ask":=fun e=>c (decide_eq_true (by rw [e]))
      rw [Ve e] at q
      exact ⟨_,rfl,ixT hp aI2 (q _ pq (Same.refl _) hq)⟩
theorem zbn:FnScope ["body"] ["body"] (zn xv):=.ok
theorem Ql (F:Fun K "names_used" "names_used" xv f fd) (GN':Ca P w K mg base CX0 1 "names_of" ["deed"] vZ):FnOk P w K mg base CX0 2 f fd ["body"] Vt:=by
  refine F.by zbn (fun vs H Q E h=>?_) (fun cdv A outer s H vs Q E hr h=>?_)
  · obtain ⟨p,b,rfl,_⟩:=h
    rfl
  obtain ⟨p,b,rfl,hb,q⟩:=h
  refine ⟨_,
    (zh (zI (tN zR (xT 0) zr) (zj (zu (cA GN' hr (jA1 (xT 0))))) zw)
    (zh (zI (tN zR (xT 0) zr) (zj (zu (zq (jA1 (xT 0))))) zw)
    (zh (zI (wJ wb (xT 0) (zq (jA2 zr zr)) (by with_unfolding_all rfl)) (zj (zu (zq zS))) zw)
    (zj (zu (zq (jA1 (xT 0)))))))),?_⟩
  have sl:=zW
  suffices tail:∀ {t x:Str} {xs:List V},H p=some (.tup (.str t :: .str x :: xs))->t≠"let"->t≠"hold"->inV (.str t) [V.str "drop",V.str "loose"]=false->(∀ (H':Hp) (q:Addr),Same H H'->H' q=some (.tup [.str x])->Q (.ref q) H') ->
      (tSeq _ (tSeq _ (tSeq _ _)):TS) { nx:=fun _ H'=>Q .non H',rt:=Q } [some (.ref p)] H by
    cases hb with
    | give hp=>exact tail hp (by decide) (by decide) (by decide) q
    | iff hp _ _=>exact tail hp (by decide) (by decide) (by decide) q
    | case hp _ _ _=>exact tail hp (by decide) (by decide) (by decide) q
    | @lt x d b _ p1 p2 hp hd hb =>
      refine ⟨_,rfl,ixT hp aI0 ⟨rfl,_,rfl,ite2 (fun _=>?_) aB⟩⟩
      exact ⟨_,rfl,ixT hp aI2 ⟨p1,d,rfl,hd,fun H' r s1 h1=>q H' r s1 h1⟩⟩
  intro t x xs hp h1 h2 h3 q
  have n1:¬ (decide (V.str t=V.str "let")=true):=fun c=>h1 (V.str.inj (of_decide_eq_true c))
  have n2:¬ (decide (V.str t=V.str "hold")=true):=fun c=>h2 (V.str.inj (of_decide_eq_true c))
  refine ⟨_,rfl,ixT hp aI0 ⟨rfl,_,rfl,ite2 (fun c=>absurd c n1) (fun _=>?_)⟩⟩
  refine ⟨_,rfl,ixT hp aI0 ⟨rfl,_,rfl,ite2 (fun c=>absurd c n2) (fun _=>?_)⟩⟩
  refine ⟨_,rfl,ixT hp aI0 ⟨sN2,fun t0 h0=>?_⟩⟩
  have s0:=zk (o:=.tup [.str "drop",.str "loose"]) h0
  refine ⟨t0,_,rfl,.inr (SqT.of zf),rfl,rfl,_,rfl,?_⟩
  refine ite2 (fun c=>absurd (show inV (.str t) [V.str "drop",V.str "loose"]=true from c) (by rw [h3]; decide)) (fun _=>?_)
  exact ⟨_,rfl,ixT (s0 _ _ hp) aI1 ⟨sN1,fun r hr=>q _ r (s0.new hr) zf⟩⟩
theorem IsY.get {H:Hp}:∀ {l:Wy} {ps:List Addr} {i:Nat} {p:Addr},IsY H l ps->ps[i]?=some p->∃ ns b q r,l[i]?=some (ns,b)/\H p=some (.tup [.ref q,.ref r])/\H q=some (.tup (ns.map V.str))/\IsB H b r
  | _,_,_,_,.nil,e=>by simp at e
  | _,_,0,_,.cons a b c _,e=>by
    simp at e
    subst e
    exact ⟨_,_,_,_,rfl,a,b,c⟩
  | _,_,i + 1,_,.cons _ _ _ d,e=>by
    obtain ⟨ns,b,q,r,h1,h2⟩:=IsY.get (i:=i) d (by simpa using e)
    exact ⟨ns,b,q,r,by simpa using h1,h2⟩
def IsN (ns:List Str) (H:Hp) (b:Bd) (v:V):Prop:=∃ q l,v=.ref q/\H q=some (.tup [.int ((b.mk ns:Nat):Int),.ref l])
theorem IsN.keep {ns:List Str} {H H':Hp} {b:Bd} {v:V} (h:IsN ns H b v) (t:Tups H H'):IsN ns H' b v:=let ⟨q,l,e,h⟩:=h; ⟨q,l,e,t _ _ h⟩
def IsNs (ns:List Str) (H:Hp) (l:Wy) (nv:List V):Prop:=All2 (fun (w:List Str × Bd) v=>IsN ns H w.2 v) l nv
def xG:Sp:=fun vs H Q _=>∃ (p wl nl d:Addr) (b:Bd) (ps:List Addr) (nv:List V) (ns:List Str),vs=[.ref p,.ref wl,.ref nl,.ref d]/\IsB H b p/\H wl=some (.lst (ps.map V.ref))/\IsY H b.ways ps/\H nl=some (.lst nv)/\IsNs ns H b.ways nv/\H d=some (.dK (yo ns 1)) /\
  ∀ H' r,Same H H'->H' r=some (.tup [.int ((b.mk ns:Nat):Int),.ref nl])->Q (.ref r) H'
theorem XY {ns:List Str} {l:Wy} {i:Nat} {xs:List Str} {b:Bd} (h:l[i]?=some (xs,b)):accW ns (l.take (i + 1)) 0=accW ns (l.take i) 0 ||| dif (b.mk ns) (tog ns xs):=by
  unfold accW
  rw [List.take_add_one,h,List.foldl_append]
  rfl
theorem scNoteOf:FnScope ["body","ways","notes","bits","found","way","note"] lS4 (zn jy):=.ok
theorem XZ (F:Fun K "note_of" "note_of" jy f fd) (GT:Ca P w K mg base CX0 1 "together" ["names","bits"] zah) (GU:Ca P w K mg base CX0 2 "names_used" ["body"] Vt) (m_zip:mg "zip"=none):FnOk P w K mg base CX0 3 f fd lS4 xG:=by
  refine F.by scNoteOf (fun vs H Q E h=>?_) (fun cdv A outer s H vs Q E hr h=>?_)
  · obtain ⟨p,wl,nl,d,b,ps,nv,ns,rfl,_⟩:=h
    rfl
  obtain ⟨p,wl,nl,d,b,ps,nv,ns,rfl,hb,hw,hy,hn,hnv,hd,q⟩:=h
  have hr1:Room 1 _:=hr.mono (by decide)
  refine ⟨_,
    (zh (sE 4 scNoteOf.nd zo)
    (zh (yd PassesOwn.never rfl (za3 rfl m_zip (jA2 (jv 1) (jv 2))) (jo rfl (yw (gN 5 scNoteOf.nd) (yw (gN 6 scNoteOf.nd) wK)))
      (zj (sE 4 scNoteOf.nd (zA Yn (jv 4) (zA Qj (xT 6) (zbl (cA GT hr1 (jA2 (xT 5) (jv 3)))))))))
    (zj (zu (zq (jA2 (zA Yn (jv 4) (cA GT hr1 (jA2 (cA GU hr (jA1 (jv 0))) (jv 3)))) (jv 2))))))),?_⟩
  have sl:=zW
  have yl:=hy.len
  have nl':b.ways.length=nv.length:=All2.len hnv
  refine ⟨_,rfl,_,rfl,wl,nl,true,true,_,_,rfl,SqK.l hw,SqK.l hn,J7 (xs:=ps.map V.ref) (ys:=nv) (by rw [List.length_map]; lia) (fun i σ H'=>Same H H'/\∃ y z,σ=[some (.ref p),some (.ref wl),some (.ref nl),some (.ref d),some (.int ((accW ns (b.ways.take i) 0:Nat):Int)),y,z]) ⟨Same.refl _,none,none,rfl⟩ (fun i σ H' _ h=>⟨SqK.l (h.1 _ _ hw),SqK.l (h.1 _ _ hn)⟩) ?_ ?_⟩
  · rintro i v1 v2 T σ H1 hv1 hv2 hT ⟨s1,y,z,rfl⟩
    rw [List.getElem?_map] at hv1
    obtain ⟨pw,hpw,rfl⟩:=Option.map_eq_some_iff.mp hv1
    obtain ⟨xs,b',q1,r1,e1,e2,e3,e4⟩:=hy.get hpw
    obtain ⟨w',e1',qn,ln,rfl,en⟩:=All2.get hnv hv2
    rw [e1] at e1'
    cases e1'
    have s2:=s1.new (o:=.tup [.ref pw,.ref qn]) hT
    refine ⟨T,_,rfl,SqT.of zf,rfl,_,_,rfl,_,_,rfl,rfl,?_⟩
    refine ⟨_,rfl,_,rfl,ixT (s2 _ _ en) aI0 ⟨_,rfl,ixT (s2 _ _ e2) aI0 ⟨_,rfl,q1,d,xs,ns,rfl,s2 _ _ e3,s2 _ _ hd,_,rfl,_,_,rfl,rfl,_,_,rfl,rfl,s2,some (.ref pw),some (.ref qn),?_⟩⟩⟩
    show [_,_,_,_,some (V.int (Builtin.bitOr _ (Builtin.bitAnd _ _))),_,_]=_
    rw [Vg,jJ,<- XY e1]
  · rintro σ H1 ⟨s1,y,z,rfl⟩
    rw [List.length_map,<- yl,List.take_of_length_le (Nat.le_refl _)]
    refine ⟨_,rfl,_,rfl,p,b,rfl,hb.keep (.of s1),fun H2 qu s2 hqu=>?_⟩
    refine ⟨_,rfl,qu,d,_,ns,rfl,hqu,s2 _ _ (s1 _ _ hd),_,_,rfl,rfl,_,rfl,sN2,fun r hr=>?_⟩
    refine q _ r ((s1.trans s2).new hr) ?_
    rw [zf]
    show some (HO.tup [V.int (Builtin.bitOr _ _),_])=_
    rw [jJ,<- Bd.mk_ways]
end
def Xb:Expr:=match zF yR with
  | [_,.Return (some (.Tuple [_,l] _ _)) _]=>l
  | _=>.Constant .none 0 ⟨0,0,0,0⟩
def zai:Arguments:=match Xb with
  | .Lambda a _ _ _=>a
  | _=>zN yR
def Vv:Expr:=match Xb with
  | .Lambda _ b _ _=>b
  | e=>e
def Vw:Scope:=match Xb with
  | .Lambda _ _ s _=>s
  | _=>zn yR
def Xc:Pos:=match Xb with
  | .Lambda _ _ _ p=>p
  | _=>⟨0,0,0,0⟩
def Zo:Str:=("begun_note":Str) ++ (".<locals>.":Str) ++ ("<lambda>":Str)
def cl2 (c1 c2 c3:Addr):List (Str × Addr):=[("ways",c3),("body",c1),("bits",c2)]
abbrev vw (mg:Str->Option Value) (c1 c2 c3 c:Addr) (ct:Value):FuncData:=lamC mg Zo zai Vv Vw (cl2 c1 c2 c3) c ct
theorem zbo:LamScope ["notes","bits","body","ways"] ["notes"] ["bits","body","ways"] Vw:=⟨rfl,rfl,rfl,by decide +kernel,rfl,by decide +kernel,by decide +kernel,by decide +kernel,by decide +kernel⟩
theorem Vx:∃ p0 p1 p2 p3 p4 p5,Vv=.Call (.Name "note_of" p0) [.Name "body" p1,.Name "ways" p2,.Name "notes" p3,.Name "bits" p4] [] p5:=⟨_,_,_,_,_,_,rfl⟩
def Clo2 (mg:Str->Option Value) (ns:List Str) (H:Hp) (R:Addr->Prop) (d:Addr) (b:Bd) (f:Addr):Prop:=∃ c1 c2 c3 c ct p wl ps,H f=some (FunO f (vw mg c1 c2 c3 c ct))/\H c=some (CodO c Zo)/\Cel H c1 (.ref p)/\Cel H c2 (.ref d)/\Cel H c3 (.ref wl)/\c1≠c2/\c1≠c3/\c2≠c3/\IsB H b p/\H wl=some (.lst (ps.map V.ref))/\R wl/\IsY H b.ways ps
def zbp (mg:Str->Option Value) (ns:List Str) (f:Addr) (fd:FuncData):Sp:=fun vs H Q _=>∃ (nl d c1 c2 c3 c p wl:Addr) (ct:Value) (b:Bd) (ps:List Addr) (nv:List V),vs=[.ref nl]/\fd=vw mg c1 c2 c3 c ct/\H f=some (FunO f fd)/\H c=some (CodO c Zo)/\Cel H c1 (.ref p)/\Cel H c2 (.ref d)/\Cel H c3 (.ref wl)/\c1≠c2/\c1≠c3/\c2≠c3/\IsB H b p/\H wl=some (.lst (ps.map V.ref))/\IsY H b.ways ps/\H nl=some (.lst nv)/\IsNs ns H b.ways nv/\H d=some (.dK (yo ns 1)) /\
  ∀ H' r,Same H H'->H' r=some (.tup [.int ((b.mk ns:Nat):Int),.ref nl])->Q (.ref r) H'
theorem clo3 {H:Hp} {c1 c2 c3:Addr} {v1 v2 v3:V} (h1:Cel H c1 v1) (h2:Cel H c2 v2) (h3:Cel H c3 v3) (n1:c1≠c2) (n2:c1≠c3) (n3:c2≠c3):Clo H (cl2 c1 c2 c3) ["bits","body","ways"] [v2,v1,v3]:=by
  have l1:(cl2 c1 c2 c3).lookup ("bits":Str)=some c2:=rfl
  have l2:(cl2 c1 c2 c3).lookup ("body":Str)=some c1:=rfl
  have l3:(cl2 c1 c2 c3).lookup ("ways":Str)=some c3:=rfl
  refine ⟨rfl,fun p hp=>?_,fun i x v e1 e2=>?_,fun x hx=>?_,fun x y a e1 e2=>?_⟩
  · unfold cl2 at hp
    simp only [List.mem_cons,List.not_mem_nil,or_false] at hp
    rcases hp with rfl | rfl | rfl
    · exact ⟨_,h3⟩
    · exact ⟨_,h1⟩
    · exact ⟨_,h2⟩
  · match i,e1,e2 with
    | 0,e1,e2=>cases e1; cases e2; exact ⟨c2,l1,h2⟩
    | 1,e1,e2=>cases e1; cases e2; exact ⟨c1,l2,h1⟩
    | 2,e1,e2=>cases e1; cases e2; exact ⟨c3,l3,h3⟩
    | i + 3,e1,_=>simp at e1
  · simp only [List.mem_cons,List.not_mem_nil,or_false] at hx
    rcases hx with rfl | rfl | rfl
    · exact ⟨_,l1⟩
    · exact ⟨_,l2⟩
    · exact ⟨_,l3⟩
  · have m1:=PySem.mem_of_lookup e1
    have m2:=PySem.mem_of_lookup e2
    unfold cl2 at m1 m2
    simp only [List.mem_cons,Prod.mk.injEq,List.not_mem_nil,or_false] at m1 m2
    rcases m1 with ⟨rfl,rfl⟩ | ⟨rfl,rfl⟩ | ⟨rfl,rfl⟩ <;> rcases m2 with ⟨rfl,z⟩ | ⟨rfl,z⟩ | ⟨rfl,z⟩ <;> first | rfl | exact absurd z (by assumption) | exact absurd z.symm (by assumption)
theorem wp {H:Hp} {as:List Addr} (hc:∀ a∈as,∃ v,Cel H a v):Tups H (yz H as):=fun p xs e=>zJ hc e (by intro _ _ _ z; cases z)
theorem X0 {H H':Hp} {as:List Addr} (s:Same (yz H as) H'):Same H (xn H' H as):=fun b u e=>by
  by_cases z:b∈as
  · rw [wL z]; exact e
  · rw [yx z]; exact s b u (by rw [zX z]; exact e)
theorem Zp {H H':Hp} {as:List Addr} {b:Addr} {u:HO} (hn:∀ a∈as,H' a=none) (e:H' b=some u):xn H' H as b=some u:=by
  rw [yx]
  · exact e
  · intro z; rw [hn b z] at e; cases e
section
variable {P:Program} {w:World} {K:PySem.W.Frag} {mg:Str->Option Value} {base:Heap}
theorem Qm (GN':Ca P w K mg base CX0 3 "note_of" lS4 xG) (ns:List Str) (f c1 c2 c3 c:Addr) (ct:Value):FnOk P w K mg base CX0 4 f (vw mg c1 c2 c3 c ct) ["notes"] (zbp mg ns f (vw mg c1 c2 c3 c ct)):=by
  refine Y7 (k:=3) zbo (fun vs H Q E h=>?_) (fun A outer s H vs Q E hr h=>?_)
  · obtain ⟨nl,d,_,_,_,_,p,wl,_,b,ps,nv,rfl,_⟩:=h
    rfl
  · obtain ⟨nl,d,d1,d2,d3,d0,p,wl,ct',b,ps,nv,rfl,efd,hf,hc,h1,h2,h3,n1,n2,n3,hb,hw,hy,hn,hnv,hd,q⟩:=h
    have ecl:cl2 c1 c2 c3=cl2 d1 d2 d3:=congrArg FuncData.closure efd
    have ec:Value.ref c=Value.ref d0:=congrArg FuncData.code efd
    cases ec
    have e3:c3=d3:=by injection ecl with a b; exact (Prod.mk.inj a).2
    have e1:c1=d1:=by injection ecl with a b; injection b with a b; exact (Prod.mk.inj a).2
    have e2:c2=d2:=by injection ecl with a b; injection b with a b; injection b with a b; exact (Prod.mk.inj a).2
    subst e1; subst e2; subst e3
    refine ⟨hf,hc,_,clo3 h1 h2 h3 n1 n2 n3,?_⟩
    obtain ⟨p0,p1,p2,p3,p4,p5,eb⟩:=Vx
    rw [eb]
    have hcA:∀ a∈(cl2 c1 c2 c3).map (·.2),∃ v,Cel H a v:=fun a ha=>by
      obtain ⟨p,hp,rfl⟩:=List.mem_map.mp ha
      exact (clo3 h1 h2 h3 n1 n2 n3).all p hp
    have tp:=wp hcA
    have ml:∀ {b:Addr} {xs:List V},H b=some (.lst xs)->yz H ((cl2 c1 c2 c3).map (·.2)) b=some (.lst xs):=fun e=>zJ hcA e (by intro _ _ _ z; cases z)
    refine ⟨_,(cA GN' hr (jA4 (jv 2) (jv 3) (jv 0) (jv 1))),?_⟩
    refine ⟨_,rfl,_,rfl,_,rfl,_,rfl,p,wl,nl,d,b,ps,nv,ns,rfl,hb.keep tp,ml hw,hy.keep tp,ml hn,hnv.imp fun _ _ h=>h.keep tp,zJ hcA hd (by intro _ _ _ z; cases z),fun H' r s1 hr1 hnn=>?_⟩
    exact q _ r (X0 s1) (Zp hnn hr1)
theorem Qn (c1 c2 c3 c:Addr) (ct:Value):Binds K (vw mg c1 c2 c3 c ct) ["notes"] []:=.all fun us hl=>match us,hl with | [_],_=>rfl
end
theorem Pub.same {H H3:Hp} {cvs:List (Addr × V)} (h:Pub H H3 cvs):Same H H3:=fun b u e=>by
  rw [h.old b]
  · exact e
  · intro z
    obtain ⟨p,hp,rfl⟩:=List.mem_map.mp z
    rw [h.non p hp] at e; cases e
def ls2:List (Pos × Str):=[(Xc,Zo)]
def IsKs (H:Hp) (l:Wy) (vs:List V):Prop:=All2 (fun (w:List Str × Bd) v=>∃ p,v=.ref p/\IsB H w.2 p) l vs
def xm (mg:Str->Option Value) (T:Addr):Sp:=fun vs H Q _=>∃ (p d:Addr) (b:Bd) (ns:List Str),vs=[.ref p,.ref d]/\IsB H b p/\b.sz<=1000000/\TbG T ls2 H /\
  ∀ H' q l fl wl vs,KM (·=T) H H'->TbG T ls2 H'->H' q=some (.tup [.ref l,.ref fl])->H l=none->H' l=some (.lst vs)->IsKs H' b.ways vs->H wl=none->(∃ xs,H' wl=some (.lst xs))->(∀ R:Addr->Prop,R wl->Clo2 mg ns H' R d b fl)->Q (.ref q) H'
section
variable {P:Program} {w:World} {K:PySem.W.Frag} {mg:Str->Option Value} {base:Heap} {f:Addr} {fd:FuncData}
theorem scBegNote:FnScope ["body","bits","ways"] lS5 (zn yR):=.ok
theorem X1:(["body","bits","ways","way"]:List Str).Nodup:=by decide +kernel
theorem Yp {c T:Addr} (F:FunC K "begun_note" yR c f fd) (hB:BMn mg base) (hc:PySem.W.codeHdIn K c T=true) (GW:Ca P w K mg base CX0 1 "ways_on" ["body"] Yl):FnOk P w K mg base CX0 2 f fd lS5 (xm mg T):=by
  refine F.byR scBegNote (fun vs H Q E h=>?_) (fun A outer s H vs Q E hr h fresh=>?_)
  · obtain ⟨p,d,b,ns,rfl,_⟩:=h
    rfl
  obtain ⟨p,d,b,ns,rfl,hb,hz,hT,q⟩:=h
  refine ⟨_,
    (Qd (sE 2 scBegNote.nd (cA GW hr (jA1 (jv 0))))
    (zbf (zq (ja_c (z0 ["way"] rfl (yi (jv 2)) (fun _ _ _ _ _=>(gN 3 X1)) (fun _ _ _ _ _=>zO) (fun _ _ _ _ _=>(yy (yt K) (jv 3) zo (fun _ _=>rfl))))
      (jA1 (Y5 (params:=zai) (body:=Vv) (scope:=Vw) (pos:=Xc) (T:=T) (qual:=Zo) (cl:=cl2 (s.heap.objs.size + 1) (s.heap.objs.size + 2) (s.heap.objs.size + 3)) hB rfl hc rfl)))))),?_⟩
  have sl:=zW
  refine ⟨_,rfl,p,b,rfl,hb,hz,fun H1 wl ps s1 hwl hwl1 hy=>?_⟩
  have yl:=hy.len
  have wl1:=vo b.ways
  have wl2:=Bd.wsz b
  refine ⟨_,rfl,wl,rfl,⟨_,SqL.of hwl1⟩,xk (xs:=ps.map V.ref) (fun j τ ys H'=>H1=H'/\(∃ v,τ=[some (.ref p),some (.ref d),some (.ref wl),v])/\IsKs H1 (b.ways.take j) ys) ⟨rfl,⟨none,rfl⟩,.nil⟩ (fun j τ ys H' _ h=>SqL.of (h.1 ▸ hwl1)) ?_ ?_⟩
  · rintro j v τ ys H2 hv ⟨rfl,⟨v',rfl⟩,hk⟩
    rw [List.getElem?_map] at hv
    obtain ⟨pw,hpw,rfl⟩:=Option.map_eq_some_iff.mp hv
    obtain ⟨xs,b',q1,r1,e1,e2,e3,e4⟩:=hy.get hpw
    have kl:=All2.len hk
    rw [List.length_take] at kl
    refine ⟨_,rfl,ixT e2 aI1 ⟨by have:=(List.getElem?_eq_some_iff.mp e1).1; lia,rfl,⟨_,rfl⟩,?_⟩⟩
    rw [List.take_add_one,e1]
    exact All2.app hk (.cons ⟨r1,rfl,e4⟩ .nil)
  rintro τ ys H2 ⟨rfl,_,hk⟩ l hl
  rw [List.length_map,<- yl,List.take_of_length_le (Nat.le_refl _)] at hk
  have s2:=zk (o:=.lst ys) hl
  have hTb:TbG T ls2 (upd H1 l (.lst ys)):=hT.keep (fun ps e=>s2 _ _ (s1 _ _ e)) (fun c q e=>s2 _ _ (s1 _ _ e))
  refine Zl hTb (by unfold ls2; exact .head _) (fun p hp _=>by unfold ls2 at hp; rw [List.mem_singleton.mp hp]) fun H3 fl cc ct k3 T3 hfl nfT ncT hfl3 hcc=>?_
  refine ⟨sN2,fun r hr=>?_⟩
  have nlT:∀ {b:Addr} {u:HO},upd H1 l (.lst ys) b=some u->(∀ ps,u≠.tbl ps)->b≠T:=fun {b u} e n z=>by
    obtain ⟨ps,h,_⟩:=hTb
    rw [z,h] at e
    exact n _ (Option.some.inj e).symm
  have k4:∀ b u,b≠T->upd H1 l (.lst ys) b=some u->upd H3 r (.tup [.ref l,.ref fl]) b=some u:=fun b u n e=>by
    rw [zg (zi (k3 b u n e) hr)]; exact k3 b u n e
  have t4:Tups (upd H1 l (.lst ys)) (upd H3 r (.tup [.ref l,.ref fl])):=fun b xs e=>k4 b _ (nlT e (by intro _ z; cases z)) e
  have T4:TbG T ls2 (upd H3 r (.tup [.ref l,.ref fl])):=T3.keep (fun ps e=>old hr e) (fun c q e=>old hr e)
  have e_l:=k4 l _ (nlT zf (by intro _ z; cases z)) zf
  have e_w:=k4 wl _ (nlT (s2 _ _ hwl1) (by intro _ z; cases z)) (s2 _ _ hwl1)
  have k04:KM (·=T) H (upd H3 r (.tup [.ref l,.ref fl])):=fun b u n e=>k4 b u n (s2 _ _ (s1 _ _ e))
  have tp04:Tups H1 (upd H3 r (.tup [.ref l,.ref fl])):=fun b xs e=>t4 b xs (s2 _ _ e)
  have hr4:=zf (H:=H3) (a:=r) (o:=.tup [.ref l,.ref fl])
  have hfl4:=old (o:=.tup [.ref l,.ref fl]) hr hfl3
  have hcc4:=old (o:=.tup [.ref l,.ref fl]) hr hcc
  generalize upd H3 r (.tup [.ref l,.ref fl])=H4 at *
  refine ⟨[(s.heap.objs.size + 1,.ref p),(s.heap.objs.size + 2,.ref d),(s.heap.objs.size + 3,.ref wl)],fun x hx=>?_,fun H5 pb=>?_⟩
  · simp only [List.mem_cons,List.not_mem_nil,or_false] at hx
    rcases hx with rfl | rfl | rfl
    · exact ⟨0,"body",rfl,rfl,rfl,.inl rfl⟩
    · exact ⟨1,"bits",rfl,rfl,rfl,.inl rfl⟩
    · exact ⟨2,"ways",rfl,rfl,rfl,.inl rfl⟩
  have s5:=Pub.same pb
  refine q H5 r l fl wl ys (k04.trans (.of s5)) (T4.keep (fun ps e=>s5 _ _ e) fun c q e=>s5 _ _ e) (s5 _ _ hr4) (s1.free hl) (s5 _ _ e_l) (hk.imp fun _ _ ⟨p,e,h⟩=>⟨p,e,h.keep (tp04.trans (.of s5))⟩) hwl ⟨_,s5 _ _ e_w⟩ fun R hR=>?_
  exact ⟨_,_,_,cc,ct,p,wl,ps,s5 _ _ hfl4,s5 _ _ hcc4,pb.cel (_,_) (.head _),pb.cel (_,_) (.tail _ (.head _)),pb.cel (_,_) (.tail _ (.tail _ (.head _))),by simp,by simp,by simp,hb.keep ((Tups.of s1).trans (tp04.trans (.of s5))),s5 _ _ e_w,hR,hy.keep (tp04.trans (.of s5))⟩
end
def Xd:Expr:=match zF wf with
  | [.Return (some (.Call _ [_,l] _ _)) _]=>l
  | _=>.Constant .none 0 ⟨0,0,0,0⟩
def zaj:Arguments:=match Xd with
  | .Lambda a _ _ _=>a
  | _=>zN wf
def Vy:Expr:=match Xd with
  | .Lambda _ b _ _=>b
  | e=>e
def Vz:Scope:=match Xd with
  | .Lambda _ _ s _=>s
  | _=>zn wf
def Xe:Pos:=match Xd with
  | .Lambda _ _ _ p=>p
  | _=>⟨0,0,0,0⟩
def Zq:Str:=("noted":Str) ++ (".<locals>.":Str) ++ ("<lambda>":Str)
def ls1:List (Pos × Str):=[(Xe,Zq)]
def cl1 (c0:Addr):List (Str × Addr):=[("bits",c0)]
abbrev vy (mg:Str->Option Value) (c0 c:Addr) (ct:Value):FuncData:=lamC mg Zq zaj Vy Vz (cl1 c0) c ct
theorem zbq:LamScope ["task","bits"] ["task"] ["bits"] Vz:=⟨rfl,rfl,rfl,by decide +kernel,rfl,by decide +kernel,by decide +kernel,by decide +kernel,by decide +kernel⟩
theorem VA:∃ p0 p1 p2 p3,Vy=.Call (.Name "begun_note" p0) [.Name "task" p1,.Name "bits" p2] [] p3:=⟨_,_,_,_,rfl⟩
theorem clo1 {H:Hp} {c1:Addr} {v1:V} (h1:Cel H c1 v1):Clo H (cl1 c1) ["bits"] [v1]:=by
  have l1:(cl1 c1).lookup ("bits":Str)=some c1:=rfl
  refine ⟨rfl,fun p hp=>?_,fun i x v e1 e2=>?_,fun x hx=>?_,fun x y a e1 e2=>?_⟩
  · unfold cl1 at hp
    rw [List.mem_singleton.mp hp]
    exact ⟨_,h1⟩
  · match i,e1,e2 with
    | 0,e1,e2=>cases e1; cases e2; exact ⟨c1,l1,h1⟩
    | i + 1,e1,_=>simp at e1
  · rw [List.mem_singleton.mp hx]
    exact ⟨_,l1⟩
  · have m1:=PySem.mem_of_lookup e1
    have m2:=PySem.mem_of_lookup e2
    unfold cl1 at m1 m2
    rw [List.mem_singleton] at m1 m2
    exact (Prod.mk.inj m1).1.trans (Prod.mk.inj m2).1.symm
theorem Clo2.same {mg:Str->Option Value} {ns:List Str} {H H':Hp} {R:Addr->Prop} {d:Addr} {b:Bd} {f:Addr} (h:Clo2 mg ns H R d b f) (s:Same H H'):Clo2 mg ns H' R d b f:=by
  obtain ⟨c1,c2,c3,c,ct,p,wl,ps,h1,h2,⟨o3,h3⟩,⟨o4,h4⟩,⟨o5,h5⟩,n1,n2,n3,h6,h7,h8,h9⟩:=h
  exact ⟨c1,c2,c3,c,ct,p,wl,ps,s _ _ h1,s _ _ h2,⟨o3,s _ _ h3⟩,⟨o4,s _ _ h4⟩,⟨o5,s _ _ h5⟩,n1,n2,n3,h6.keep (.of s),s _ _ h7,h8,h9.keep (.of s)⟩
def zbr (mg:Str->Option Value) (T:Addr) (ns:List Str) (f:Addr) (fd:FuncData):Sp:=fun vs H Q _=>∃ (p d c0 c:Addr) (ct:Value) (b:Bd),vs=[.ref p]/\fd=vy mg c0 c ct/\H f=some (FunO f fd)/\H c=some (CodO c Zq)/\Cel H c0 (.ref d)/\IsB H b p/\b.sz<=1000000/\TbG T ls2 H /\
  ∀ H' q l fl wl vs,KM (·=T) H H'->TbG T ls2 H'->H' q=some (.tup [.ref l,.ref fl])->H l=none->H' l=some (.lst vs)->IsKs H' b.ways vs->H wl=none->(∃ xs,H' wl=some (.lst xs))->(∀ R:Addr->Prop,R wl->Clo2 mg ns H' R d b fl)->Q (.ref q) H'
section
variable {P:Program} {w:World} {K:PySem.W.Frag} {mg:Str->Option Value} {base:Heap}
theorem Qo {T:Addr} (GB:Ca P w K mg base CX0 2 "begun_note" lS5 (xm mg T)) (ns:List Str) (f c0 c:Addr) (ct:Value):FnOk P w K mg base CX0 3 f (vy mg c0 c ct) ["task"] (zbr mg T ns f (vy mg c0 c ct)):=by
  refine Y7 (k:=2) zbq (fun vs H Q E h=>?_) (fun A outer s H vs Q E hr h=>?_)
  · obtain ⟨p,d,_,_,_,b,rfl,_⟩:=h
    rfl
  · obtain ⟨p,d,d1,d0,ct',b,rfl,efd,hf,hc,h1,hb,hz,hT,q⟩:=h
    have ecl:cl1 c0=cl1 d1:=congrArg FuncData.closure efd
    have ec:Value.ref c=Value.ref d0:=congrArg FuncData.code efd
    cases ec
    have e1:c0=d1:=by injection ecl with a b; exact (Prod.mk.inj a).2
    subst e1
    refine ⟨hf,hc,_,clo1 h1,?_⟩
    obtain ⟨p0,p1,p2,p3,eb⟩:=VA
    rw [eb]
    have hcA:∀ a∈(cl1 c0).map (·.2),∃ v,Cel H a v:=fun a ha=>by
      obtain ⟨p,hp,rfl⟩:=List.mem_map.mp ha
      exact (clo1 h1).all p hp
    have tp:=wp hcA
    refine ⟨_,(cA GB hr (jA2 (jv 0) (jv 1))),?_⟩
    refine ⟨_,rfl,_,rfl,p,d,b,ns,rfl,hb.keep tp,hz,hT.keep (fun ps e=>zJ hcA e (by intro _ _ _ z; cases z)) (fun c q e=>zJ hcA e (by intro _ _ _ z; unfold CodO at z; cases z)),fun H' r l fl wl vs k1 T1 hr1 hl hl1 hk hwl hwl1 hclo hnn=>?_⟩
    have sp:Same H' (xn H' H ((cl1 c0).map (·.2))):=fun b u e=>Zp hnn e
    obtain ⟨xs,hwl2⟩:=hwl1
    have out:∀ {b:Addr} {u:HO},H' b=some u->yz H ((cl1 c0).map (·.2)) b=none->H b=none:=fun {b u} e n=>by
      rw [zX] at n
      · exact n
      · intro z; rw [hnn b z] at e; cases e
    refine q _ r l fl wl vs (fun b u n e=>?_) (T1.keep (fun ps e=>sp _ _ e) fun c q e=>sp _ _ e) (sp _ _ hr1) (out hl1 hl) (sp _ _ hl1) (hk.imp fun _ _ ⟨p,e,h⟩=>⟨p,e,h.keep (.of sp)⟩) (out hwl2 hwl) ⟨xs,sp _ _ hwl2⟩ fun R hR=>(hclo R hR).same sp
    by_cases z:b∈(cl1 c0).map (·.2)
    · rw [wL z]; exact e
    · rw [yx z]
      exact k1 b u n (by rw [zX z]; exact e)
theorem Qp (c0 c:Addr) (ct:Value):Binds K (vy mg c0 c ct) ["task"] []:=.all (us1 fun _=>rfl)
theorem All2.mapl {α β γ:Type} {F:α->β->Prop} {g:γ->α}:∀ {l:List γ} {m:List β},All2 (fun c b=>F (g c) b) l m->All2 F (l.map g) m
  | _,_,.nil=>.nil
  | _,_,.cons a r=>.cons a (All2.mapl r)
theorem All2.unmapl {α β γ:Type} {F:α->β->Prop} {g:γ->α}:∀ {l:List γ} {m:List β},All2 F (l.map g) m->All2 (fun c b=>F (g c) b) l m
  | [],_,.nil=>.nil
  | _ :: _,_,.cons a r=>.cons a (All2.unmapl r)
theorem VB:∀ {l:Wy} {w:List Str × Bd},w∈l->w.2.sz<=wsz l
  | p :: l,w,h=>by
    unfold wsz
    rw [List.map_cons,List.sum_cons]
    rcases List.mem_cons.mp h with rfl | h
    · lia
    · have:=VB h
      unfold wsz at this
      lia
theorem All2.memP {α β:Type} {F:α->β->Prop} {Pr:α->Prop}:∀ {l:List α} {m:List β},All2 F l m->(∀ a∈l,Pr a)->All2 (fun a b=>Pr a/\F a b) l m
  | _,_,.nil,_=>.nil
  | _,_,.cons a r,h=>.cons ⟨h _ (.head _),a⟩ (All2.memP r fun a ha=>h a (.tail _ ha))
structure NOk (mg:Str->Option Value) (T1 T2 d fl c0 cc:Addr) (ct:Value) (ns:List Str) (H:Hp):Prop where
  t1:TbG T1 ls1 H
  t2:TbG T2 ls2 H
  hd:H d=some (.dK (yo ns 1))
  f:H fl=some (FunO fl (vy mg c0 cc ct))
  c:H cc=some (CodO cc Zq)
  cel:Cel H c0 (.ref d)
theorem NOk.keep {mg:Str->Option Value} {T1 T2 d fl c0 cc:Addr} {ct:Value} {ns:List Str} {H H':Hp} (h:NOk mg T1 T2 d fl c0 cc ct ns H) (h1:TbG T1 ls1 H') (h2:TbG T2 ls2 H') (k:∀ b u,H b=some u->(∀ ps,u≠.tbl ps)->(∀ xs,u≠.lst xs)->H' b=some u):NOk mg T1 T2 d fl c0 cc ct ns H' :=
  ⟨h1,h2,k _ _ h.hd (by intro _ z; cases z) (by intro _ z; cases z),k _ _ h.f (by intro _ z; unfold FunO at z; cases z) (by intro _ z; unfold FunO at z; cases z),k _ _ h.c (by intro _ z; unfold CodO at z; cases z) (by intro _ z; unfold CodO at z; cases z),let ⟨o,e⟩:=h.cel; ⟨o,k _ _ e (by intro _ z; cases z) (by intro _ z; cases z)⟩⟩
theorem NOk.noM {mg:Str->Option Value} {T1 T2 d fl c0 cc:Addr} {ct:Value} {ns:List Str} {H:Hp} (h:NOk mg T1 T2 d fl c0 cc ct ns H) {b:Addr} {u:HO} (e:H b=some u) (n:∀ ps,u≠.tbl ps):¬ (b=T1\/b=T2):=by
  rintro (z | z)
  · obtain ⟨ps,q,_⟩:=h.t1
    rw [z,q] at e
    exact n _ (Option.some.inj e).symm
  · obtain ⟨ps,q,_⟩:=h.t2
    rw [z,q] at e
    exact n _ (Option.some.inj e).symm
theorem NOk.tups {mg:Str->Option Value} {T1 T2 d fl c0 cc:Addr} {ct:Value} {ns:List Str} {H H':Hp} {R:Addr->Prop} (h:NOk mg T1 T2 d fl c0 cc ct ns H) (z:Kz (fun b=>b=T1\/b=T2) R H H'):Tups H H':=fun b xs e=>z b _ e (h.noM e (by intro _ z; cases z)) (by intro _ z; cases z)
def Qq {T1 T2:Addr} (nT:T1≠T2) (GB:Ca P w K mg base CX0 2 "begun_note" lS5 (xm mg T2)) (GO:Ca P w K mg base CX0 3 "note_of" lS4 xG) (d fl c0 cc:Addr) (ct:Value) (ns:List Str):WoD P w K mg base 4 where
  Tk:=Bd
  M:=fun b=>b=T1\/b=T2
  fb:=fl
  wt:=fun b=>2 * b.sz
  kids:=fun b=>b.ways.map (·.2)
  wk:=fun b=>by
    have h:=Bd.wsz b
    have e:∀ l:Wy,((l.map (·.2)).map fun b:Bd=>2 * b.sz).sum=2 * wsz l:=by
      intro l
      induction l with
      | nil=>rfl
      | cons p l ih =>
        unfold wsz at ih ⊢
        rw [List.map_cons,List.map_cons,List.map_cons,List.sum_cons,List.sum_cons,ih]
        lia
    rw [e]
    lia
  IT:=fun H _ b v=>b.sz<=1000000/\∃ p,v=.ref p/\IsB H b p
  IR:=fun H _ b v=>IsN ns H b v
  IF:=fun H R b v=>∃ f,v=.ref f/\Clo2 mg ns H R d b f
  Ok:=NOk mg T1 T2 d fl c0 cc ct ns
  itk:=fun ⟨h,p,e,hb⟩ ok z _=>⟨h,p,e,hb.keep (ok.tups z)⟩
  irk:=fun h ok z _=>h.keep (ok.tups z)
  ifk:=fun {H H' R R' t v} hh ok z sub=>by
    obtain ⟨f,e,c1,c2,c3,c,ct,p,wl,ps,h1,h2,⟨o3,h3⟩,⟨o4,h4⟩,⟨o5,h5⟩,n1,n2,n3,h6,h7,h8,h9⟩:=hh
    have g:∀ b u,H b=some u->(∀ ps,u≠.tbl ps)->(∀ xs,u≠.lst xs)->H' b=some u:=fun b u e n1 n2=>z b u e (ok.noM e n1) fun xs q=>absurd q (n2 xs)
    exact ⟨f,e,c1,c2,c3,c,ct,p,wl,ps,g _ _ h1 (by intro _ z; unfold FunO at z; cases z) (by intro _ z; unfold FunO at z; cases z),g _ _ h2 (by intro _ z; unfold CodO at z; cases z) (by intro _ z; unfold CodO at z; cases z),⟨o3,g _ _ h3 (by intro _ z; cases z) (by intro _ z; cases z)⟩,⟨o4,g _ _ h4 (by intro _ z; cases z) (by intro _ z; cases z)⟩,⟨o5,g _ _ h5 (by intro _ z; cases z) (by intro _ z; cases z)⟩,n1,n2,n3,h6.keep (ok.tups z),z _ _ h7 (ok.noM h7 (by intro _ z; cases z)) (fun _ _=>h8),sub _ h8,h9.keep (ok.tups z)⟩
  okk:=fun {H H'} ok z=>by
    have g:∀ b u,H b=some u->(∀ xs,u≠.lst xs)->H' b=some u:=fun b u e n=>z b u e fun xs q=>absurd q (n xs)
    exact ok.keep (ok.t1.keep (fun ps e=>g _ _ e (by intro _ z; cases z)) fun c q e=>g _ _ e (by intro _ z; unfold CodO at z; cases z)) (ok.t2.keep (fun ps e=>g _ _ e (by intro _ z; cases z)) fun c q e=>g _ _ e (by intro _ z; unfold CodO at z; cases z)) fun b u e _ n=>g b u e n
  okM:=fun {H b} ok z=>by
    rcases z with z | z
    · obtain ⟨ps,q,_⟩:=ok.t1
      rw [z,q]; simp
    · obtain ⟨ps,q,_⟩:=ok.t2
      rw [z,q]; simp
  beg:=fun {H R t v Q} ⟨hz,p,e,hb⟩ ok hRd hRM q=>by
    subst e
    refine ⟨_,_,_,(Qo GB ns fl c0 cc ct).mono (by decide),Qp c0 cc ct,⟨p,d,c0,cc,ct,t,rfl,rfl,ok.f,ok.c,ok.cel,hb,hz,ok.t2,fun H' r l f2 wl vs k1 t2 hr hl hl1 hk hwl ⟨xs,hwl1⟩ hclo=>?_⟩,.inl ok.f⟩
    have ok':NOk mg T1 T2 d fl c0 cc ct ns H':=by
      refine ok.keep (ok.t1.keep (fun ps e=>k1 _ _ nT e) fun c q e=>k1 _ _ (fun z=>ok.noM e (by intro _ z; unfold CodO at z; cases z) (.inr z)) e) t2 fun b u e n _=>k1 b u (fun z=>ok.noM e n (.inr z)) e
    refine q H' r l f2 vs (fun b=>R b\/b=l\/b=wl) (fun b u n e=>k1 b u (fun z=>n (.inr z)) e) ok' hr hl hl1 (fun _ z=>.inl z) ?_ ?_ (.inr (.inl rfl)) ?_ ⟨f2,rfl,hclo _ (.inr (.inr rfl))⟩
    · rintro b (z | rfl | rfl)
      · exact .inl z
      · exact .inr hl
      · exact .inr hwl
    · rintro b (z | rfl | rfl)
      · cases e:H b with
        | none=>exact absurd e (hRd b z)
        | some u=>rw [k1 b u (fun y=>hRM b z (.inr y)) e]; simp
      · rw [hl1]; simp
      · rw [hwl1]; simp
    · refine All2.mapl ((All2.memP hk (Pr:=fun w:List Str × Bd=>w.2.sz<=1000000) fun a ha=>?_).imp fun a b h=>h)
      have:=VB ha
      have:=Bd.wsz t
      lia
  fin:=fun {H R t f2 rl rs Q} hh ok hRd hRM hRr hrl hrs q=>by
    obtain ⟨f,e,c1,c2,c3,c,ct',p,wl,ps,h1,h2,h3,h4,h5,n1,n2,n3,h6,h7,h8,h9⟩:=hh
    cases e
    refine ⟨_,_,_,Qm GO ns f2 c1 c2 c3 c ct',Qn c1 c2 c3 c ct',⟨rl,d,c1,c2,c3,c,p,wl,ct',t,ps,rs,rfl,rfl,h1,h2,h3,h4,h5,n1,n2,n3,h6,h7,h9,hrl,All2.unmapl hrs,ok.hd,fun H' r s1 hr=>?_⟩,.inl h1⟩
    refine q H' (.ref r) R (.of s1) ?_ (fun _ z=>z) (fun _ z=>.inl z) ?_ ⟨r,rl,rfl,hr⟩
    · exact ok.keep (ok.t1.keep (fun ps e=>s1 _ _ e) fun c q e=>s1 _ _ e) (ok.t2.keep (fun ps e=>s1 _ _ e) fun c q e=>s1 _ _ e) fun b u e _ _=>s1 b u e
    · intro b z
      cases e:H b with
      | none=>exact absurd e (hRd b z)
      | some u=>rw [s1 b u e]; simp
end
structure Tbs (T1 T2:Addr) (H:Hp):Prop where
  t1:TbG T1 ls1 H
  t2:TbG T2 ls2 H
theorem Tbs.same {T1 T2:Addr} {H H':Hp} (h:Tbs T1 T2 H) (s:Same H H'):Tbs T1 T2 H':=⟨h.t1.keep (fun ps e=>s _ _ e) fun c q e=>s _ _ e,h.t2.keep (fun ps e=>s _ _ e) fun c q e=>s _ _ e⟩
def MT (T1 T2:Addr) (b:Addr):Prop:=b=T1\/b=T2
def Xf (T1 T2:Addr):Sp:=fun vs H Q _=>∃ (p d:Addr) (b:Bd) (ns:List Str),vs=[.ref p,.ref d]/\IsB H b p/\b.sz<=400000/\H d=some (.dK (yo ns 1))/\Tbs T1 T2 H/\∀ H' v,KM (MT T1 T2) H H'->Tbs T1 T2 H'->IsN ns H' b v->Q v H'
def Xg (T1 T2:Addr):Sp:=fun vs H Q _=>∃ (p l:Addr) (b:Bd) (ns:List Str),vs=[.ref p,.ref l]/\IsB H b p/\b.sz<=400000/\H l=some (.lst (ns.map V.str))/\ns.Nodup/\ns.length<=1000/\Tbs T1 T2 H/\∀ H',KM (MT T1 T2) H H'->Tbs T1 T2 H'->Q (.int ((b.mk ns:Nat):Int)) H'
section
variable {P:Program} {w:World} {K:PySem.W.Frag} {mg:Str->Option Value} {base:Heap} {f:Addr} {fd:FuncData}
theorem scNoted:FnScope lS5 lS5 (zn wf):=.ok
theorem VC {c T1 T2:Addr} (F:FunC K "noted" wf c f fd) (hB:BMn mg base) (hc:PySem.W.codeHdIn K c T1=true) (nT:T1≠T2) (GB:Ca P w K mg base CX0 2 "begun_note" lS5 (xm mg T2)) (GO:Ca P w K mg base CX0 3 "note_of" lS4 xG) (GW:Ca P w K mg base CX0 5 "worked_out" ["task","begin"] (Zn P w K mg base 4)):FnOk P w K mg base CX0 6 f fd lS5 (Xf T1 T2):=by
  refine F.by scNoted (fun vs H Q E h=>?_) (fun A outer s H vs Q E hr h=>?_)
  · obtain ⟨p,d,b,ns,rfl,_⟩:=h
    rfl
  obtain ⟨p,d,b,ns,rfl,hb,hz,hd,hT,q⟩:=h
  refine ⟨_,
    (zj (zu (zbi (E:=E0) GW hr scNoted.nd rfl (fun _=>rfl) (jA2 (jv 0) (Y5 (params:=zaj) (body:=Vy) (scope:=Vz) (pos:=Xe) (T:=T1) (qual:=Zq) (cl:=cl1 (s.heap.objs.size + 1)) hB rfl hc rfl))))),?_⟩
  refine ⟨_,rfl,Zl hT.t1 (by unfold ls1; exact .head _) (fun p hp _=>by unfold ls1 at hp; rw [List.mem_singleton.mp hp]) fun H1 fl cc ct k1 T1' hfl nfT ncT hfl1 hcc=>?_⟩
  have noT1:∀ {b:Addr} {u:HO},H b=some u->(∀ ps,u≠.tbl ps)->b≠T1:=fun {b u} e n z=>by
    obtain ⟨ps,h,_⟩:=hT.t1
    rw [z,h] at e
    exact n _ (Option.some.inj e).symm
  have tp1:Tups H H1:=fun b xs e=>k1 b _ (noT1 e (by intro _ z; cases z)) e
  have T2':TbG T2 ls2 H1:=hT.t2.keep (fun ps e=>k1 _ _ nT.symm e) fun c q e=>k1 _ _ (noT1 e (by intro _ z; unfold CodO at z; cases z)) e
  refine ⟨[(s.heap.objs.size + 1,.ref d)],fun x hx=>?_,fun H3 pb=>?_⟩
  · rw [List.mem_singleton.mp hx]
    exact ⟨1,"bits",rfl,rfl,rfl,.inl rfl⟩
  have s3:=Pub.same pb
  have ok3:NOk mg T1 T2 d fl (s.heap.objs.size + 1) cc ct ns H3:=⟨T1'.keep (fun ps e=>s3 _ _ e) fun c q e=>s3 _ _ e,T2'.keep (fun ps e=>s3 _ _ e) fun c q e=>s3 _ _ e,s3 _ _ (k1 _ _ (noT1 hd (by intro _ z; cases z)) hd),s3 _ _ hfl1,s3 _ _ hcc,pb.cel (_,_) (.head _)⟩
  refine ⟨Qq nT GB GO d fl (s.heap.objs.size + 1) cc ct ns,.ref p,b,fun _=>False,rfl,⟨by lia,p,rfl,hb.keep (tp1.trans (.of s3))⟩,ok3,fun _ z=>z.elim,fun _ z=>z.elim,?_,.inl ⟨⟨_,ok3.f⟩,ok3.noM ok3.f (by intro _ z; unfold FunO at z; cases z)⟩,fun H4 v R' k4 ok4 _ hv hcel=>?_⟩
  · show 2 * b.sz<=1000000
    lia
  have hcA:∀ a∈([(s.heap.objs.size + 1,V.ref d)]:List (Addr × V)).map (·.1),∃ v,Cel H4 a v:=fun a ha=>by
    obtain ⟨x,hx,rfl⟩:=List.mem_map.mp ha
    exact ⟨_,hcel x hx⟩
  refine q _ v (fun b u n e=>?_) ⟨ok4.t1.keep (fun ps e=>zJ hcA e (by intro _ _ _ z; cases z)) fun c q e=>zJ hcA e (by intro _ _ _ z; unfold CodO at z; cases z),ok4.t2.keep (fun ps e=>zJ hcA e (by intro _ _ _ z; cases z)) fun c q e=>zJ hcA e (by intro _ _ _ z; unfold CodO at z; cases z)⟩ (hv.keep (wp hcA))
  have e1:=k1 b u (fun z=>n (.inl z)) e
  rw [zX]
  · exact k4 b u n (s3 _ _ e1)
  · intro z
    obtain ⟨x,hx,rfl⟩:=List.mem_map.mp z
    rw [pb.non x hx] at e1
    cases e1
theorem Qr:FnScope ["body","names"] ["body","names"] (zn Yh):=.ok
theorem VD {T1 T2:Addr} (F:Fun K "ahead" "ahead" Yh f fd) (GN':Ca P w K mg base CX0 6 "noted" lS5 (Xf T1 T2)) (GB:Ca P w K mg base CX0 1 "bits_of" ["names"] Vs):FnOk P w K mg base CX0 7 f fd ["body","names"] (Xg T1 T2):=by
  refine F.by Qr (fun vs H Q E h=>?_) (fun cdv A outer s H vs Q E hr h=>?_)
  · obtain ⟨p,l,b,ns,rfl,_⟩:=h
    rfl
  obtain ⟨p,l,b,ns,rfl,hb,hz,hl,nd,hn,hT,q⟩:=h
  have hr1:Room 1 _:=hr.mono (by decide)
  refine ⟨_,(zj (zu (yy yY (cA GN' hr (jA2 (jv 0) (cA GB hr1 (jA1 (jv 1))))) zo (fun _ _=>rfl)))),?_⟩
  refine ⟨_,rfl,_,rfl,l,ns,rfl,hl,nd,hn,fun H1 d s1 hd hd1=>?_⟩
  refine ⟨p,d,b,ns,rfl,hb.keep (.of s1),hz,hd1,hT.same s1,fun H2 v k2 T2' ⟨qa,la,e,hq⟩=>?_⟩
  subst e
  exact ixT hq aI0 (q H2 ((KM.of s1).trans k2) T2')
end
end GN
namespace L2
open PySem PySem.Spec PyProof.Rows
section
variable {X:Cx}
theorem vz (hc:X.calm=true):y8 X (.builtin "any") (fun xs H Q=>∃ (p:Addr) (bs:List Bool),xs=[.ref p]/\SqL X.K H p (bs.map V.bl)/\Q (.bl (bs.any _root_.id)) H):=by
  intro pins s σ H xs us Q I r h
  obtain ⟨p,bs,rfl,hq,q⟩:=h
  obtain ⟨u,rfl,rx⟩:=wx r
  cases rx
  obtain ⟨its,rv,pl,hz⟩:=I.list hq
  have hh:X.A.handled=none:=I.ok.hd hc
  have hlen:its.toArray.size=bs.length:=by rw [List.size_toArray,<- rv.length,List.length_map]
  have hne:p≠s.heap.objs.size:=by
    obtain ⟨o,n,e,_⟩:=pl
    exact Nat.ne_of_lt (Heap.lt_size e)
  refine call_any_walk (wpAny_pyIter_list pl.isList ?_)
  refine ⟨s.heap.objs.size,_,_,_,_,_,fun i=>(bs[i]?).getD false,rfl,Walks.list (A:=X.A.in1) hh _ p hne its.toArray,⟨⟨_,Heap.get?_push_size _ rfl,rfl,rfl⟩,pl.isList.at fun o e=>Heap.get?_push_of_some _ e⟩,fun i v s1 Q1 E1 hv hQ=>?_,fun h' tk kk=>?_⟩
  · have hi:i < bs.length:=by
      obtain ⟨hi,_⟩:=Array.getElem?_eq_some_iff.mp hv
      rw [hlen] at hi
      exact hi
    have hb:(bs.map V.bl)[i]?=some (V.bl ((bs[i]?).getD false)):=by
      rw [List.getElem?_map,List.getElem?_eq_getElem hi]
      simp
    obtain ⟨u',hu,ru⟩:=rv.get hb
    have e:its.toArray[i]?=some u':=by simpa using hu
    have hv':its.toArray[i]?=some v:=hv
    rw [hv'] at e
    cases e
    cases ru
    exact wpAny_truthy_bool hQ
  · rw [hlen,LSm.range_any]
    have I1:Inv X pins σ H { s with heap:=s.heap.push { cls:=.type "list_iterator",data:=.fields #[.ref p,.int 0 0] } }:=I.kept (t':=s.toks) fun b o e=>Heap.get?_push_of_some _ e
    have f:=I.fpOk (H':=H) (Nat.le_refl _) I.fresh
    exact ⟨.bl (bs.any _root_.id),H,I1.turned (it:=s.heap.objs.size) (fun b o hb e=>kk b o (by simpa using hb) e) f.1 f.2.1 f.2.2.2.1 f.2.2.2.2.1 f.2.2.2.2.2,rfl,q⟩
theorem xH (hc:X.calm=true):jCa X (.builtin "any") (fun xs H Q=>∃ (p:Addr) (bs:List Bool),xs=[.ref p]/\SqL X.K H p (bs.map V.bl)/\Q (.bl (bs.any _root_.id)) H):=⟨vz hc⟩
end
open AutoSeq1 (wpAny_loadPart') in
theorem xf (l:Addr) (items:Array Value) (n:Nat) (dct:Option Addr) (sl:Array (Option Value)) :
    Meets (Builtin.«enumerate.__new__» ⟨[.type "enumerate",.ref l],[]⟩) (fun _ R s=>s.heap.get? l=some { cls:=.type "tuple",dict:=dct,data:=.seq items n,slots:=sl } /\
      R (.ok (.ret (.ref (s.heap.push { cls:=.type "tuple_iterator",data:=.fields #[.ref l,.int 0 0] }).objs.size)))
        { s with heap:=(s.heap.push { cls:=.type "tuple_iterator",data:=.fields #[.ref l,.int 0 0] }).push { cls:=.type "enumerate",data:=.fields #[.none,.bool false,.ref s.heap.objs.size,rawInt 0,.none,.none] } }) :=
  .of_wp fun prog w A R s h=>by
    obtain ⟨hp,g,d,tk,os⟩:=s; obtain ⟨hl,h⟩:=h
    have hsub:=sub_enumerate
    have hL:Heap.IsTuple (Shared.heap ⟨hp,g,d,tk,os⟩) l items:=⟨_,hl,rfl,n,rfl⟩
    wp_walk using wpAny_loadPart' hl
    refine wpAny_stack_any fun st=>wpAny_pure ?_
    split
    · rename_i c _ _ _ _ _
      cases (c == Value.type "enumerate")
      · wp_walk using wpAny_loadPart' hl,wpAny_pyIter_tuple hL
        exact ⟨_,rfl,h⟩
      · wp_walk using wpAny_loadPart' hl,wpAny_pyIter_tuple hL
        exact ⟨_,rfl,h⟩
    · wp_walk using wpAny_loadPart' hl,wpAny_pyIter_tuple hL
      exact ⟨_,rfl,h⟩
section
variable {prog:Program} {w:World} {A:Around} {E:Value->Shared->Prop} {s:Shared}
theorem xg {l:Addr} {items:Array Value} {Q:Value->Shared->Prop} (hL:s.heap.IsTuple l items)
    (h:∀ h',IsEnum h' (s.heap.objs.size + 1) s.heap.objs.size 0 .none->h'.IsTupleIter s.heap.objs.size l 0->h'.objs.size=s.heap.objs.size + 2 ->
      (∀ b o,s.heap.get? b=some o->h'.get? b=some o)->Q (.ref (s.heap.objs.size + 1)) { s with heap:=h' }) :
    wpAny (model prog w) A (call (.type "enumerate") [.ref l]) Q E s:=by
  obtain ⟨⟨c,dct,dt,sl⟩,hl,hc,n,hd⟩:=hL
  replace hc:c=.type "tuple":=hc
  replace hd:dt=.seq items n:=hd
  subst hc hd
  refine callType_new F.called_enumerate (by decide) (F.typeCall_enumerate_1 _) (F.newCall_enumerate_1 _) (fun obj=>F.args_object_init_2 obj _) F.entry_enumerate_new
    (xf l items n dct sl) ⟨hl,?_⟩
  have hz:(s.heap.push { cls:=.type "tuple_iterator",data:=.fields #[.ref l,.int 0 0] }).objs.size=s.heap.objs.size + 1:=Heap.size_push ..
  show _/\_
  rw [hz]
  have he:IsEnum ((s.heap.push { cls:=.type "tuple_iterator",data:=.fields #[.ref l,.int 0 0] }).push
      { cls:=.type "enumerate",data:=.fields #[.none,.bool false,.ref s.heap.objs.size,rawInt 0,.none,.none] }) (s.heap.objs.size + 1) s.heap.objs.size 0 .none:=by
    have:=Heap.get?_push_size (s.heap.push { cls:=.type "tuple_iterator",data:=.fields #[.ref l,.int 0 0] })
      (o:={ cls:=.type "enumerate",data:=.fields #[.none,.bool false,.ref s.heap.objs.size,rawInt 0,.none,.none] }) rfl
    rw [hz] at this; exact this
  refine ⟨⟨_,he,rfl⟩,h _ he ⟨_,Heap.get?_push_of_some _ (Heap.get?_push_size _ rfl),rfl,rfl⟩ (by rw [Heap.size_push,hz]) fun b o x=>Heap.get?_push_of_some _ (Heap.get?_push_of_some _ x)⟩
theorem wB (hh:A.handled=none) {it l:Addr} (hne:l≠it) (items:Array Value):Draws prog w A it [it,l] items.size (fun i x=>items[i]?=some x) (fun i h=>h.IsTupleIter it l i/\h.IsTuple l items) where
  live:=fun i h st=>let ⟨o,ho,_⟩:=st.1; ⟨o,ho⟩
  frame:=fun i h h' st k=>⟨let ⟨o,ho,r⟩:=st.1; ⟨o,k it (by simp) o ho,r⟩,let ⟨o,ho,r⟩:=st.2; ⟨o,k l (by simp) o ho,r⟩⟩
  item:=fun i s Q E hi st hQ=>by
    have hx:items[i]?=some items[i]:=Array.getElem?_eq_getElem hi
    exact j9 st.1 st.2 hx fun h' hj hs=>hQ _ h' s.toks hx ⟨hj,st.2.extBut hs.extBut hne⟩ hs
  done:=fun s Q E st hE=>YY hh st.1 st.2 (Array.getElem?_eq_none (Nat.le_refl _)) hE
end
def IteT (K:PySem.W.Frag) (a:Addr):It :=
  ⟨fun i H=>∃ xs x,SqT K H a xs/\xs[i]?=some x,fun i H x H'=>∃ T v,x=.ref T/\H T=none/\H'=upd H T (.tup [.int i,v])/\∀ xs,SqT K H a xs->xs[i]?=some v,fun i H=>∃ xs,SqT K H a xs/\xs.length=i⟩
theorem Yq {P:Program} {w:World} {K:PySem.W.Frag} {elts:List Expr} {k:Nat} {pos:Pos} {a e it:Addr} (hne:e≠it) (hea:e≠a) (hia:a≠it):Turn P w K (.Tuple elts k pos) (IteT K a) [e,it] e (fun i h=>(∃ old,IsEnum h e it (i:Int) old)/\h.IsTupleIter it a i) where
  mem:=by simp
  obj:=fun i h st b hb=>by
    obtain ⟨⟨old,he⟩,hit⟩:=st
    have e':b=e\/b=it:=by simpa using hb
    rcases e' with z | z
    · subst z
      exact ⟨_,he,fun v z=>by cases z⟩
    · subst z
      obtain ⟨o,e,c,d⟩:=hit
      exact ⟨o,e,fun v z=>by rw [d] at z; cases z⟩
  keep:=fun i h h' st k=>⟨st.1.imp fun old he=>k e (by simp) _ he,let ⟨o,ho,r⟩:=st.2; ⟨o,k it (by simp) o ho,r⟩⟩
  item:=by
    intro X hP hw hK hc i pins s σ H E I hf st hg
    subst hP hw hK
    obtain ⟨xs,x,hq,hx⟩:=hg
    obtain ⟨its,rv,p,hz⟩:=I.tuple hq
    obtain ⟨u,hu,ru⟩:=rv.get hx
    obtain ⟨⟨old,he⟩,hit⟩:=st
    have hil:i < its.toArray.size:=by
      obtain ⟨hi,_⟩:=List.getElem?_eq_some_iff.mp hu
      simpa using hi
    refine wpAny_pyNext_enum_itemD (wB (A:=X.A.in1) (I.ok.hd hc) hia its.toArray) he ⟨hit,p⟩ hil hne (by simp [hne,hea]) fun u' h' tk hu' ho st' hT hsz hk=>?_
    obtain ⟨hit',_⟩:=st'
    have eu:u'=u:=by
      have:its.toArray[i]?=some u:=by simpa using hu
      rw [this] at hu'
      exact (Option.some.inj hu').symm
    subst eu
    have new:ObjOk X.prog X.w (upd H s.heap.objs.size (.tup [.int i,x])) h' s.heap.objs.size (.tup [.int i,x]):=⟨sN2,[.int i tk,u'],.cons ⟨_,rfl⟩ (.cons ru .nil),⟨_,hT,rfl,rfl,_,rfl⟩⟩
    have I1:Inv X pins σ (upd H s.heap.objs.size (.tup [.int i,x])) { s with heap:=h',toks:=tk + 1 }:=I.turnsLaid (ch:=[e,it]) (fun b o hb q=>hk b o (fun z=>hb (by simp [z])) (fun z=>hb (by simp [z])) q) hf (Nat.le_refl _) new
    have hlt:∀ b∈[e,it],b≠s.heap.objs.size:=fun b hb=>by
      have e':b=e\/b=it:=by simpa using hb
      rcases e' with z | z
      · rw [z]; exact Nat.ne_of_lt (Heap.lt_size he)
      · rw [z]; obtain ⟨o,q,_⟩:=hit; exact Nat.ne_of_lt (Heap.lt_size q)
    have hn:∀ b∈[e,it],upd H s.heap.objs.size (.tup [.int i,x]) b=none:=fun b hb=>by rw [zg (hlt b hb)]; exact (hf b hb).1
    have hf1:∀ b∈[e,it],FpOk X pins (upd H s.heap.objs.size (.tup [.int i,x])) b:=fun b hb=>⟨hn b hb,(hf b hb).2⟩
    refine ⟨_,rfl,wpAny_letOwnedTupleGo_enum (s:={ s with heap:=h',toks:=tk + 1 }) ho fun h'' he' hs'=>?_⟩
    have I2:Inv X pins σ (upd H s.heap.objs.size (.tup [.int i,x])) { s with heap:=h'',toks:=tk + 1 }:=Inv.turns (s:={ s with heap:=h',toks:=tk + 1 }) (t':=tk + 1) (ch:=[e,it]) I1 (fun b o hb q=>(hs'.2 b fun z=>hb (by simp [z])).trans q) hf1
    refine ⟨.ref s.heap.objs.size,_,I2,rfl,⟨_,x,rfl,I.fresh,rfl,fun ys hy=>?_⟩,⟨⟨u',?_⟩,let ⟨o,ho,r⟩:=hit'; ⟨o,(hs'.2 it hne.symm).trans ho,r⟩⟩,hn⟩
    · rw [I.tuple_inj hy hq]; exact hx
    · have e1:(((i + 1:Nat)):Int)=(i:Int) + 1:=by lia
      rw [e1]
      exact he'
  done:=by
    intro X hP hw hK hc i pins s σ H E I hf st hg
    subst hP hw hK
    obtain ⟨xs,hq,hx⟩:=hg
    obtain ⟨its,rv,p,hz⟩:=I.tuple hq
    have hl:=rv.length
    obtain ⟨⟨old,he⟩,hit⟩:=st
    have ei:i=its.toArray.size:=by simp; lia
    subst ei
    exact wpAny_pyNext_enum_endD (wB (A:=X.A.in1) (I.ok.hd hc) hia its.toArray) he ⟨hit,p⟩ fun h' eb=>⟨rfl,I.turns (t':=s.toks) (ch:=[e,it]) (fun b o hb q=>eb b o (fun z=>hb (by simp [z])) q) hf⟩
  self:=fun _ _ _ _ _ st h=>by
    obtain ⟨⟨old,he⟩,_⟩:=st
    exact wpAny_pyIter_enum he h
section
variable {X:Cx} {elts:List Expr} {k:Nat} {tpos:Pos}
def VE (K:PySem.W.Frag) (ta:TA):TI:=fun σ H R=>ta σ H fun vs H1=>∃ a,vs=[.ref a]/\(∃ xs,SqT K H1 a xs)/\R (IteT K a) H1
theorem VF {a:Expr} {ta:TA} {p pos:Pos} (hg:Gl X "enumerate") (hm:X.mg "enumerate"=none) (ha:PA X [a] ta) (hs:starEach [a] X.env=[(false,eval a X.env)]:=by rfl):PI X (.Tuple elts k tpos) (.Call (.Name "enumerate" p) [a] [] pos) (VE X.K ta):=by
  intro pins s σ H R I h
  refine Call_ (x6 I hg hm boot_enumerate (PyProof.Rows.callWith_type1 (thn (ha pos pins s σ H _ I h) fun us s1 ⟨vs,H1,I1,r1,q1⟩=>?_) hs rfl))
  obtain ⟨l,e,⟨xs,hq⟩,q⟩:=q1
  subst e
  obtain ⟨u,rfl,rx⟩:=wx r1
  cases rx
  obtain ⟨its,rv,pl,hz⟩:=I1.tuple hq
  have hlt:l < s1.heap.objs.size:=by obtain ⟨o,e,_⟩:=pl; exact Heap.lt_size e
  refine xg pl fun h' hE hI hsz hk=>?_
  refine wpAny_pyIter_enum hE ?_
  refine ⟨s1.heap.objs.size + 1,[s1.heap.objs.size + 1,s1.heap.objs.size],_,_,H1,rfl,I1.kept (t':=s1.toks) hk,Yq (a:=l) (Nat.succ_ne_self _) (Nat.ne_of_gt (Nat.lt_succ_of_lt hlt)) (Nat.ne_of_lt hlt),⟨⟨_,hE⟩,hI⟩,fun b hb=>?_,q⟩
  have e:b=s1.heap.objs.size + 1\/b=s1.heap.objs.size:=by simpa using hb
  rcases e with e | e
  · subst e
    exact I1.fpOk (Nat.le_succ _) (I1.hok.fresh (Nat.le_succ _))
  · subst e
    exact I1.fpOk (Nat.le_refl _) (I1.hok.fresh (Nat.le_refl _))
theorem Zr {a:Expr} {t:TA} {p pos:Pos} (hg:Gl X "enumerate") (hm:X.mg "enumerate"=none) (ha:jA X [a] t) (h:zp a=false:=by rfl):jI X (.Tuple elts k tpos) (.Call (.Name "enumerate" p) [a] [] pos) (VE X.K t):=⟨VF hg hm ha.out (zB h)⟩
end
theorem v0 {K:PySem.W.Frag} {a:Addr} {xs:List V} {g:TG} {tb:TS} {D:Ends} {σ:St} {H:Hp} (Pv:Nat->St->Hp->Prop) (h0:Pv 0 σ H) (hl:∀ i σ H,i<=xs.length->Pv i σ H->SqT K H a xs)
    (hs:∀ i x T σ H,xs[i]?=some x->H T=none->Pv i σ H->g (.ref T) σ (upd H T (.tup [.int (i:Nat),x])) fun σ2 H2=>tb { D with nx:=Pv (i + 1),ct:=Pv (i + 1),bk:=D.nx } σ2 H2) (hd:∀ σ H,Pv xs.length σ H->D.nx σ H) :
    ∃ W:Nat->Nat->St->Hp->Prop,(∃ m,W 0 m σ H)/\∀ i m σ H,W i m σ H ->
      ((IteT K a).stop i H/\D.nx σ H)\/((IteT K a).go i H/\∃ N:St->Hp->Prop,(∀ σ' H',N σ' H'->∃ m',m' < m/\W (i + 1) m' σ' H')/\∀ x H',(IteT K a).yld i H x H'->g x σ H' fun σ2 H2=>tb { D with nx:=N,ct:=N,bk:=D.nx } σ2 H2):=by
  refine ⟨fun i m σ H=>m=xs.length - i/\i<=xs.length/\Pv i σ H,⟨xs.length,by simp,Nat.zero_le _,h0⟩,?_⟩
  rintro i m σ H ⟨rfl,hi,p⟩
  have q:=hl i σ H hi p
  by_cases hlt:i < xs.length
  · refine .inr ⟨⟨xs,xs[i],q,by simp [hlt]⟩,Pv (i + 1),fun σ' H' p'=>⟨xs.length - (i + 1),by lia,rfl,hlt,p'⟩,fun x H' y=>?_⟩
    obtain ⟨T,v,rfl,hT,rfl,e⟩:=y
    exact hs i v T σ H (e xs q) hT p
  · have e:i=xs.length:=by lia
    subst e
    exact .inl ⟨⟨xs,q,rfl⟩,hd σ H p⟩
end L2
namespace GN
open PySem L2 K11
mutual
def Bd.all:Bd->List Bd
  | .give x=>[.give x]
  | .lt x d b=>.lt x d b :: b.all
  | .iff x a b=>.iff x a b :: (a.all ++ b.all)
  | .case x as=>.case x as :: as.all
def Arms.all:Arms->List Bd
  | .nil=>[]
  | .cons _ _ b r=>b.all ++ r.all
end
def pnd (l:List Bd):List Bd:=l.flatMap Bd.all
theorem Arms.all_ways:∀ as:Arms,as.all=pnd (as.ways.map (·.2))
  | .nil=>by unfold Arms.all Arms.ways pnd; rfl
  | .cons t ns b r=>by
    unfold Arms.all Arms.ways pnd
    rw [List.map_cons,List.flatMap_cons,Arms.all_ways r]
    rfl
theorem Bd.all_ways (b:Bd):b.all=b :: pnd (b.ways.map (·.2)):=by
  cases b with
  | give x=>unfold Bd.all Bd.ways pnd; rfl
  | lt x d b=>rw [Bd.all]; unfold Bd.ways pnd; simp
  | iff x a b=>rw [Bd.all]; unfold Bd.ways pnd; simp
  | case x as=>rw [Bd.all,Arms.all_ways]; rfl
theorem Qs (a b:List Bd):pnd (a ++ b)=pnd a ++ pnd b:=by unfold pnd; rw [List.flatMap_append]
mutual
theorem Bd.all_len:∀ b:Bd,b.all.length<=b.sz
  | .give x=>by unfold Bd.all Bd.sz; exact Nat.le_refl _
  | .lt x d b=>by unfold Bd.all Bd.sz; have:=Bd.all_len b; rw [List.length_cons]; lia
  | .iff x a b=>by unfold Bd.all Bd.sz; have:=Bd.all_len a; have:=Bd.all_len b; rw [List.length_cons,List.length_append]; lia
  | .case x as=>by unfold Bd.all Bd.sz; have:=Arms.all_len as; rw [List.length_cons]; lia
theorem Arms.all_len:∀ a:Arms,a.all.length<=a.sz
  | .nil=>by unfold Arms.all Arms.sz; exact Nat.le_refl _
  | .cons t ns b r=>by unfold Arms.all Arms.sz; have:=Bd.all_len b; have:=Arms.all_len r; rw [List.length_append]; lia
end
def szs (l:List Bd):Nat:=(l.map Bd.sz).sum
theorem jK:∀ l:List Bd,l.length<=szs l
  | []=>Nat.zero_le _
  | b :: l=>by
    have h1:=Bd.sz_pos' b
    have h2:=jK l
    unfold szs at h2 ⊢
    rw [List.map_cons,List.sum_cons,List.length_cons]
    lia
theorem Xh (a b:List Bd):szs (a ++ b)=szs a + szs b:=by unfold szs; rw [List.map_append,List.sum_append]
theorem VG (b:Bd):szs (b.ways.map (·.2)) < b.sz:=by
  have:=Bd.wsz b
  unfold szs
  unfold wsz at this
  rw [List.map_map]
  exact this
def IsBs (H:Hp) (l:List Bd) (ps:List Addr):Prop:=All2 (IsB H) l ps
theorem IsBs.keep {H H':Hp} {l:List Bd} {ps:List Addr} (h:IsBs H l ps) (t:Tups H H'):IsBs H' l ps:=All2.imp h fun _ _ e=>e.keep t
def mks (m:Nat):Bd->Bool
  | .lt _ (.app w _ xs) _=>decide (w="make") && decide (xs.length=m)
  | _=>false
def armA (x:Str) (w:List Str × Bd):Bool:=decide (w.1.length≠0) && (decide (w.2.mk [x]=0) && w.2.all.any (mks w.1.length))
def xh (x:Str) (as:Arms):Bool:=as.ways.any (armA x)
def v6:Sp:=fun vs H Q _=>∃ (p:Addr) (b:Bd),vs=[.ref p]/\IsB H b p/\b.sz<=1000000/\∀ H' r ps,Same H H'->H r=none->H' r=some (.lst (ps.map V.ref))->IsBs H' (b.ways.map (·.2)) ps->Q (.ref r) H'
def VH:Sp:=fun vs H Q _=>∃ (p:Addr) (b:Bd),vs=[.ref p]/\IsB H b p/\b.sz<=1000000/\∀ H' r ps,Same H H'->H r=none->H' r=some (.lst (ps.map V.ref))->IsBs H' b.all ps->Q (.ref r) H'
def Xi:Sp:=fun vs H Q _=>∃ (p:Addr) (b:Bd) (m:Nat),vs=[.ref p,.int (m:Nat)]/\IsB H b p/\Q (.bl (mks m b)) H
def VI (T1 T2:Addr):Sp:=fun vs H Q _=>∃ (x t:Str) (pa q r:Addr) (w:List Str × Bd),vs=[.str x,.ref pa]/\H pa=some (.tup [.str t,.ref q,.ref r])/\H q=some (.tup (w.1.map V.str))/\IsB H w.2 r/\w.2.sz<=400000/\Tbs T1 T2 H/\∀ H',KM (MT T1 T2) H H'->Tbs T1 T2 H'->Q (.bl (armA x w)) H'
def VJ (T1 T2:Addr):Sp:=fun vs H Q _=>∃ (p:Addr) (x:Str) (as:Arms),vs=[.ref p]/\IsB H (.case x as) p/\as.sz<=300000/\Tbs T1 T2 H/\∀ H',KM (MT T1 T2) H H'->Tbs T1 T2 H'->Q (.bl (xh x as)) H'
theorem Tbs.noT {T1 T2:Addr} {H:Hp} (h:Tbs T1 T2 H) {b:Addr} {u:HO} (e:H b=some u) (n:∀ ps,u≠.tbl ps):¬ MT T1 T2 b:=by
  rintro (z | z)
  · obtain ⟨ps,q,_⟩:=h.t1
    rw [z,q] at e
    exact n _ (Option.some.inj e).symm
  · obtain ⟨ps,q,_⟩:=h.t2
    rw [z,q] at e
    exact n _ (Option.some.inj e).symm
theorem Tbs.lst {T1 T2:Addr} {H H':Hp} (h:Tbs T1 T2 H) (k:KM (MT T1 T2) H H') {b:Addr} {xs:List V} (e:H b=some (.lst xs)):H' b=some (.lst xs):=k b _ (h.noT e (by intro _ z; cases z)) e
theorem Tbs.tups {T1 T2:Addr} {H H':Hp} (h:Tbs T1 T2 H) (k:KM (MT T1 T2) H H'):Tups H H':=fun b xs e=>k b _ (h.noT e (by intro _ z; cases z)) e
section
variable {P:Program} {w:World} {K:PySem.W.Frag} {mg:Str->Option Value} {base:Heap} {f:Addr} {fd:FuncData}
theorem X2:FnScope ["body"] ["body"] (zn yM):=.ok
theorem X3:(["body","way"]:List Str).Nodup:=by decide +kernel
theorem Yr (F:Fun K "bodies_within" "bodies_within" yM f fd) (GW:Ca P w K mg base CX0 1 "ways_on" ["body"] Yl):FnOk P w K mg base CX0 2 f fd ["body"] v6:=by
  refine F.by X2 (fun vs H Q E h=>?_) (fun cdv A outer s H vs Q E hr h=>?_)
  · obtain ⟨p,b,rfl,_⟩:=h
    rfl
  obtain ⟨p,b,rfl,hb,hz,q⟩:=h
  refine ⟨_,(zj (zu (z0 ["way"] rfl (yi (cA GW hr (jA1 (jv 0)))) (fun _ _ _ _ _=>(gN 1 X3)) (fun _ _ _ _ _=>zO) (fun _ _ _ _ _=>(yy (yt K) (jv 1) zo (fun _ _=>rfl)))))),?_⟩
  have sl:=zW
  refine ⟨_,rfl,p,b,rfl,hb,hz,fun H1 wl ps s1 hwl hwl1 hy=>?_⟩
  have yl:=hy.len
  have wl1:=vo b.ways
  have wl2:=Bd.wsz b
  refine ⟨wl,rfl,⟨_,SqL.of hwl1⟩,xk (xs:=ps.map V.ref) (fun j τ ys H'=>H1=H'/\(∃ v,τ=[some (.ref p),v])/\∃ rs:List Addr,ys=rs.map V.ref/\IsBs H1 ((b.ways.take j).map (·.2)) rs) ⟨rfl,⟨none,rfl⟩,[],rfl,.nil⟩ (fun j τ ys H' _ h=>SqL.of (h.1 ▸ hwl1)) ?_ ?_⟩
  · rintro j v τ ys H2 hv ⟨rfl,⟨v',rfl⟩,rs,rfl,hk⟩
    rw [List.getElem?_map] at hv
    obtain ⟨pw,hpw,rfl⟩:=Option.map_eq_some_iff.mp hv
    obtain ⟨xs,b',q1,r1,e1,e2,e3,e4⟩:=hy.get hpw
    have kl:=All2.len hk
    rw [List.length_map,List.length_take] at kl
    refine ⟨_,rfl,ixT e2 aI1 ⟨by have:=(List.getElem?_eq_some_iff.mp e1).1; rw [List.length_map]; lia,rfl,⟨_,rfl⟩,rs ++ [r1],by simp,?_⟩⟩
    rw [List.take_add_one,e1]
    show IsBs _ (((b.ways.take j) ++ [(xs,b')]).map (·.2)) _
    rw [List.map_append]
    exact All2.app hk (.cons e4 .nil)
  rintro τ ys H2 ⟨rfl,_,rs,rfl,hk⟩ l hl
  rw [List.length_map,<- yl,List.take_of_length_le (Nat.le_refl _)] at hk
  exact q _ l rs (s1.new hl) (s1.free hl) zf (hk.keep (.of (zk hl _)))
theorem scBIn:FnScope ["body","found","left","one","within"] ["body"] (zn wg):=.ok
theorem zbs (F:Fun K "bodies_in" "bodies_in" wg f fd) (GW:Ca P w K mg base CX0 2 "bodies_within" ["body"] v6) (m_len:mg "len"=none) (m_reversed:mg "reversed"=none):FnOk P w K mg base CX0 3 f fd ["body"] VH:=by
  refine F.by scBIn (fun vs H Q E h=>?_) (fun cdv A outer s H vs Q E hr h=>?_)
  · obtain ⟨p,b,rfl,_⟩:=h
    rfl
  obtain ⟨p,b,rfl,hb,hz,q⟩:=h
  refine ⟨_,
    (zh (sE 1 scBIn.nd (yc zS))
    (zh (sE 2 scBIn.nd (yc (jA1 (jv 0))))
    (zh (wX PassesOwn.never (tN WI (jL m_len (jv 2)) zo)
      (zh (sE 3 scBIn.nd (WG PySem.F.plainAttrs_list PySem.F.slot_list_pop PySem.F.type_list_pop WJ (jv 2)))
      (zh (zG (y9 PySem.F.plainAttrs_list PySem.F.slot_list_append PySem.F.type_list_append zY (jv 1) (jA1 (jv 3))))
      (zj (yd PassesOwn.never rfl (za5 rfl m_reversed (jA1 (cA GW hr (jA1 (jv 3))))) (gN 4 scBIn.nd)
        (zj (zG (y9 PySem.F.plainAttrs_list PySem.F.slot_list_append PySem.F.type_list_append zY (jv 2) (jA1 (jv 4))))))))))
    (zj (zu (jv 1)))))),?_⟩
  have sl:=zW
  refine ⟨sN0,fun fo h0=>⟨_,rfl,sN1,fun lf h2=>?_⟩⟩
  have s1:=zk (o:=.lst []) h0
  have flf:H lf=none:=s1.free h2
  have s2:=s1.new (o:=.lst [.ref p]) h2
  have nfl:fo≠lf:=zi (zf (H:=H) (a:=fo) (o:=.lst [])) h2
  refine ⟨fun m σ H'=>∃ (stk acc:List Bd) (ps qs:List Addr) (x y:Option V),m=szs stk/\σ=[some (.ref p),some (.ref fo),some (.ref lf),x,y]/\Same H H'/\H' lf=some (.lst (ps.reverse.map V.ref))/\IsBs H' stk ps/\H' fo=some (.lst (qs.map V.ref))/\IsBs H' acc qs/\acc ++ pnd stk=b.all/\szs stk<=1000000,
    ⟨_,[b],[],[p],[],none,none,rfl,rfl,s2,zf,.cons (hb.keep (.of s2)) .nil,old h2 zf,.nil,by unfold pnd; simp,by unfold szs; simpa using hz⟩,?_⟩
  have bl:=Bd.all_len b
  rintro m σ H3 ⟨stk,acc,ps,qs,x,y,rfl,rfl,sm,hl,hy,hf,ha,ho,hwz⟩
  refine ⟨_,rfl,_,_,rfl,.inl (SqL.of hl),_,_,rfl,rfl,_,rfl,?_⟩
  cases hy with
  | nil =>
    refine iteF ⟨_,rfl,q _ fo qs sm h0 hf ?_⟩
    rw [show acc ++ pnd []=acc from List.append_nil _] at ho
    rw [<- ho]
    exact ha
  | @cons b1 pp l ps hb1 hy =>
    have hne:decide ((0:Int) < ((((pp :: ps).reverse.map V.ref).length:Nat):Int))=true:=by
      rw [decide_eq_true_eq,List.length_map,List.length_reverse,List.length_cons]
      lia
    rw [hne]
    refine iteT ⟨_,fun _ _ h=>h,?_⟩
    have e1:(pp :: ps).reverse.map V.ref=ps.reverse.map V.ref ++ [.ref pp]:=by simp
    have e2:((pp :: ps).reverse.map V.ref)[((pp :: ps).reverse.map V.ref).length - 1]?=some (.ref pp):=by rw [e1]; simp
    have e3:((pp :: ps).reverse.map V.ref).dropLast=ps.reverse.map V.ref:=by rw [e1]; simp
    refine ⟨_,rfl,.inl ⟨rfl,_,SqL.of hl⟩,lf,_,_,rfl,rfl,hl,e2,?_⟩
    rw [e3]
    have t4:Tups H3 (upd H3 lf (.lst (ps.reverse.map V.ref))):=fun b xs z=>by rw [zg (xz z hl (by intro z; cases z))]; exact z
    have s4:=sm.put (o:=.lst (ps.reverse.map V.ref)) flf
    have hl4:=zf (H:=H3) (a:=lf) (o:=.lst (ps.reverse.map V.ref))
    have hf4:upd H3 lf (.lst (ps.reverse.map V.ref)) fo=some (.lst (qs.map V.ref)):=by rw [zg nfl]; exact hf
    replace hb1:=hb1.keep t4
    replace hy:IsBs _ l ps:=IsBs.keep hy t4
    replace ha:=ha.keep t4
    generalize upd H3 lf (.lst (ps.reverse.map V.ref))=H4 at *
    have hpd:pnd (b1 :: l)=b1 :: (pnd (b1.ways.map (·.2)) ++ pnd l):=by unfold pnd; rw [List.flatMap_cons,Bd.all_ways]; rfl
    rw [hpd] at ho
    have hol:=congrArg List.length ho
    rw [List.length_append,List.length_cons] at hol
    have hwc:szs (b1 :: l)=b1.sz + szs l:=by unfold szs; rw [List.map_cons,List.sum_cons]
    rw [hwc] at hwz
    have aql:=All2.len ha
    have hyl:=All2.len hy
    have hll:=jK l
    have wsz1:=VG b1
    have wsz2:=jK (b1.ways.map (·.2))
    refine ⟨_,rfl,.inl ⟨rfl,_,SqL.of hf4⟩,_,rfl,fo,_,_,rfl,rfl,hf4,by rw [List.length_map]; lia,?_⟩
    have t5:Tups H4 (upd H4 fo (.lst (qs.map V.ref ++ [.ref pp]))):=fun b xs z=>by rw [zg (xz z hf4 (by intro z; cases z))]; exact z
    have s5:=s4.put (o:=.lst (qs.map V.ref ++ [.ref pp])) h0
    have hf5:=zf (H:=H4) (a:=fo) (o:=.lst (qs.map V.ref ++ [.ref pp]))
    have hl5:upd H4 fo (.lst (qs.map V.ref ++ [.ref pp])) lf=some (.lst (ps.reverse.map V.ref)):=by rw [zg nfl.symm]; exact hl4
    have ha5:IsBs (upd H4 fo (.lst (qs.map V.ref ++ [.ref pp]))) (acc ++ [b1]) (qs ++ [pp]):=All2.app (ha.keep t5) (.cons (hb1.keep t5) .nil)
    replace hb1:=hb1.keep t5
    replace hy:=hy.keep t5
    generalize upd H4 fo (.lst (qs.map V.ref ++ [.ref pp]))=H5 at *
    refine ⟨_,rfl,pp,b1,rfl,hb1,by lia,fun H6 rl rs s6 f6 hrl hyw=>?_⟩
    have hywl:=All2.len hyw
    have nlr:lf≠rl:=zi hl5 f6
    refine ⟨rl,_,rfl,SqL.of hrl,JZ (xs:=rs.map V.ref) (fun i σ H'=>Same H H'/\Tups H6 H'/\H' rl=some (.lst (rs.map V.ref))/\H' lf=some (.lst ((ps.reverse ++ rs.reverse.take i).map V.ref))/\H' fo=some (.lst (qs.map V.ref ++ [.ref pp]))/\∃ z,σ=[some (.ref p),some (.ref fo),some (.ref lf),some (.ref pp),z]) ⟨s5.trans s6,fun _ _ h=>h,hrl,by rw [List.take_zero,List.append_nil]; exact s6 _ _ hl5,s6 _ _ hf5,_,rfl⟩ (fun i σ H' _ h=>SqL.of h.2.2.1) ?_ ?_⟩
    · rintro i v σ H7 hv ⟨s7,t7,hr7,hl7,hf7,z,rfl⟩
      rw [<- List.map_reverse,List.getElem?_map] at hv
      obtain ⟨t,ht,rfl⟩:=Option.map_eq_some_iff.mp hv
      have hi:i < rs.length:=by
        have:=(List.getElem?_eq_some_iff.mp ht).1
        rw [List.length_reverse] at this
        exact this
      refine ⟨_,rfl,.inl ⟨rfl,_,SqL.of hl7⟩,_,rfl,lf,_,_,rfl,rfl,hl7,?_,s7.put flf,fun b xs z=>?_,?_,?_,?_,_,rfl⟩
      · rw [List.length_map,List.length_append,List.length_reverse,List.length_take]
        lia
      · rw [zg (xz (t7 _ _ z) hl7 (by intro e; cases e))]
        exact t7 _ _ z
      · rw [zg nlr.symm]
        exact hr7
      · rw [zf,List.take_add_one,ht]
        simp
      · rw [zg nfl]
        exact hf7
    rintro σ H7 ⟨s7,t7,hr7,hl7,hf7,z,rfl⟩
    rw [List.length_map,<- List.length_reverse,List.take_of_length_le (Nat.le_refl _),<- List.reverse_append] at hl7
    refine ⟨szs (b1.ways.map (·.2) ++ l),?_,b1.ways.map (·.2) ++ l,acc ++ [b1],rs ++ ps,qs ++ [pp],_,_,rfl,rfl,s7,hl7,All2.app (hyw.keep t7) ((hy.keep (.of s6)).keep t7),by rw [hf7,List.map_append]; rfl,(ha5.keep (.of s6)).keep t7,?_,?_⟩
    · rw [Xh,hwc]
      lia
    · rw [Qs,<- ho,List.append_assoc]
      rfl
    · rw [Xh]
      lia
theorem Qt:FnScope ["body","many"] ["body","many"] (zn Yj):=.ok
theorem VL (F:Fun K "makes" "makes" Yj f fd) (m_len:mg "len"=none):FnOk P w K mg base CX0 1 f fd ["body","many"] Xi:=by
  refine F.by Qt (fun vs H Q E h=>?_) (fun cdv A outer s H vs Q E hr h=>?_)
  · obtain ⟨p,b,m,rfl,_⟩:=h
    rfl
  obtain ⟨p,b,m,rfl,hb,q⟩:=h
  refine ⟨_,
    (zj (zu (Yc (yG zR (xT 0) zr (yX _)) (Yc (yG zR (yy yY (xT 0) zo (fun _ _=>rfl)) zr (yX _)) (Yb (yG zR (jL m_len (yy yY (xT 0) zo (fun _ _=>rfl))) (jv 1) (yX _))))))),?_⟩
  cases hb with
  | give hp=>exact ⟨_,rfl,ixT hp aI0 ⟨rfl,_,rfl,ite2 aB (fun _=>q)⟩⟩
  | iff hp _ _=>exact ⟨_,rfl,ixT hp aI0 ⟨rfl,_,rfl,ite2 aB (fun _=>q)⟩⟩
  | case hp _ _ _=>exact ⟨_,rfl,ixT hp aI0 ⟨rfl,_,rfl,ite2 aB (fun _=>q)⟩⟩
  | @lt x d b _ p1 p2 hp hd hb =>
    refine ⟨_,rfl,ixT hp aI0 ⟨rfl,_,rfl,ite2 (fun _=>?_) aB⟩⟩
    cases hd with
    | num h1=>exact ⟨_,rfl,ixT hp aI2 (ixT h1 aI0 ⟨rfl,_,rfl,ite2 aB (fun _=>q)⟩)⟩
    | op h1=>exact ⟨_,rfl,ixT hp aI2 (ixT h1 aI0 ⟨rfl,_,rfl,ite2 aB (fun _=>q)⟩)⟩
    | @app w0 g xs _ pq hw h1 h2 =>
      refine ⟨_,rfl,ixT hp aI2 (ixT h1 aI0 ⟨rfl,_,rfl,ite2 (fun c=>?_) (fun c=>?_)⟩)⟩
      · have e:w0="make":=V.str.inj (of_decide_eq_true c)
        refine ⟨_,rfl,ixT hp aI2 (ixT h1 aI2 ⟨pq,_,rfl,.inr (SqT.of h2),_,rfl,rfl,?_⟩)⟩
        have e2:decide (V.int (((xs.map V.str).length:Nat):Int)=V.int (m:Nat))=mks m (.lt x (.app w0 g xs) b):=by
          show _=(decide (w0="make") && decide (xs.length=m))
          rw [decide_eq_true e,Bool.true_and,List.length_map]
          exact decide_eq_decide.mpr ⟨fun z=>by have:=V.int.inj z; lia,fun z=>by rw [z]⟩
        rw [e2]
        exact q
      · have e:¬ w0="make":=fun e=>c (decide_eq_true (by rw [e]))
        have e2:mks m (.lt x (.app w0 g xs) b)=false:=by
          show (decide (w0="make") && decide (xs.length=m))=false
          rw [decide_eq_false e,Bool.false_and]
        rw [e2] at q
        exact q
theorem scArmA:FnScope ["name","arm","many"] ["name","arm"] (zn vm):=.ok
theorem zbt:(["name","arm","many","within"]:List Str).Nodup:=by decide +kernel
theorem Qu {T1 T2:Addr} (F:Fun K "arm_uses_anew" "arm_uses_anew" vm f fd) (GA:Ca P w K mg base CX0 7 "ahead" ["body","names"] (Xg T1 T2)) (GI:Ca P w K mg base CX0 3 "bodies_in" ["body"] VH) (GM:Ca P w K mg base CX0 1 "makes" ["body","many"] Xi) (m_len:mg "len"=none) (m_any:mg "any"=none):FnOk P w K mg base CX0 8 f fd ["name","arm"] (VI T1 T2):=by
  refine F.by scArmA (fun vs H Q E h=>?_) (fun cdv A outer s H vs Q E hr h=>?_)
  · obtain ⟨x,t,pa,q,r,w,rfl,_⟩:=h
    rfl
  obtain ⟨x,t,pa,pq,pr,⟨ns,b⟩,rfl,hpa,hpq,hb,hz,hT,q⟩:=h
  have hr3:Room 3 _:=hr.mono (by decide)
  have hr1:Room 1 _:=hr.mono (by decide)
  refine ⟨_,
    (zh (sE 2 scArmA.nd (jL m_len (xT 1)))
    (zh (zI (jW.pt (WF (tN zR (jv 2) zo) (Ya (tN zaa (cA GA hr (jA2 (xT 1) (yc (jA1 (jv 0))))) zo))))
      (zj (zu wV)) zw)
    (zj (zu (x9 (xH rfl) rfl m_any PyProof.Rows.boot_any (jA1 (z0 ["within"] rfl (yi (cA GI hr3 (jA1 (xT 1)))) (fun _ _ _ _ _=>(gN 3 zbt)) (fun _ _ _ _ _=>zO) (fun _ _ _ _ _=>(cA GM hr1 (jA2 (jv 3) (jv 2))))))))))),?_⟩
  have sl:=zW
  have bl:=Bd.all_len b
  refine ⟨_,rfl,ixT hpa aI1 ⟨pq,_,rfl,.inr (SqT.of hpq),?_⟩⟩
  refine ⟨_,rfl,rfl,_,rfl,?_⟩
  rw [List.length_map]
  refine ite2 (fun c=>?_) (fun c=>?_)
  · have c:ns.length=0:=by have:=V.int.inj (of_decide_eq_true c); lia
    refine iteT ?_
    have e:armA x (ns,b)=false:=by show (decide (ns.length≠0) && _)=false; rw [decide_eq_false (by lia),Bool.false_and]
    rw [e] at q
    exact q H KM.refl hT
  have c:ns.length≠0:=fun z=>c (decide_eq_true (by rw [z]; rfl))
  refine ⟨_,rfl,ixT hpa aI2 ⟨_,rfl,sN1,fun l1 h1=>?_⟩⟩
  have s1:=zk (o:=.lst [.str x]) h1
  refine ⟨pr,l1,b,[x],rfl,hb.keep (.of s1),hz,zf,by simp,by show 1<=1000; decide,hT.same s1,fun H2 k2 T2'=>⟨rfl,_,rfl,?_⟩⟩
  have k02:KM (MT T1 T2) H H2:=(KM.of s1).trans k2
  have tp:=hT.tups k02
  refine ite2 (fun c2=>?_) (fun c2=>?_)
  · have c2:b.mk [x]≠0:=fun z=>by rw [z] at c2; exact absurd c2 (by decide)
    have e:armA x (ns,b)=false:=by show (decide (ns.length≠0) && (decide (b.mk [x]=0) && _))=false; rw [decide_eq_false c2,Bool.false_and,Bool.and_false]
    rw [e] at q
    exact q H2 k02 T2'
  have c2:b.mk [x]=0:=by
    by_cases z:b.mk [x]=0
    · exact z
    · refine absurd ?_ c2
      show (!decide (V.int ((b.mk [x]:Nat):Int)=V.int 0))=true
      rw [decide_eq_false (fun y=>z (by have:=V.int.inj y; lia))]
      rfl
  refine ⟨_,rfl,ixT (tp _ _ hpa) aI2 ⟨pr,b,rfl,hb.keep tp,by lia,fun H3 r3 ps s3 hr3' hr3 hbs=>?_⟩⟩
  have al:=All2.len hbs
  refine ⟨r3,rfl,⟨_,SqL.of hr3⟩,xk (xs:=ps.map V.ref) (fun j τ ys H'=>H3=H'/\(∃ v,τ=[some (.str x),some (.ref pa),some (.int (ns.length:Nat)),v])/\ys=((b.all.take j).map (mks ns.length)).map V.bl) ⟨rfl,⟨none,rfl⟩,rfl⟩ (fun j τ ys H' _ h=>SqL.of (h.1 ▸ hr3)) ?_ ?_⟩
  · rintro j v τ ys H4 hv ⟨rfl,⟨v',rfl⟩,rfl⟩
    rw [List.getElem?_map] at hv
    obtain ⟨pw,hpw,rfl⟩:=Option.map_eq_some_iff.mp hv
    obtain ⟨b1,e1,e2⟩:=All2.get hbs hpw
    refine ⟨_,rfl,_,rfl,pw,b1,ns.length,rfl,e2,by rw [List.length_map,List.length_map,List.length_take]; have:=(List.getElem?_eq_some_iff.mp e1).1; lia,rfl,⟨_,rfl⟩,?_⟩
    rw [List.take_add_one,e1]
    simp
  rintro τ ys H4 ⟨rfl,_,rfl⟩ l4 h4
  rw [List.length_map,<- al,List.take_of_length_le (Nat.le_refl _)]
  have s4:=s3.new (o:=.lst ((b.all.map (mks ns.length)).map V.bl)) h4
  refine ⟨l4,_,rfl,SqL.of zf,?_⟩
  have e:(b.all.map (mks ns.length)).any id=armA x (ns,b):=by
    show _=(decide (ns.length≠0) && (decide (b.mk [x]=0) && b.all.any (mks ns.length)))
    rw [decide_eq_true c,decide_eq_true c2,Bool.true_and,Bool.true_and,List.any_map]
    rfl
  rw [show (b.all.map (mks ns.length)).any _root_.id=armA x (ns,b) from e]
  exact q _ (k02.trans (.of s4)) (T2'.same s4)
theorem zbu:FnScope ["body"] ["body"] (zn wn):=.ok
theorem zbv:(["body","arm"]:List Str).Nodup:=by decide +kernel
theorem Zs:∀ {as:Arms} {i:Nat} {ns:List Str} {b:Bd},as.ways[i]?=some (ns,b)->b.sz<=as.sz
  | .nil,i,ns,b,h=>by unfold Arms.ways at h; simp at h
  | .cons t n c r,0,ns,b,h=>by
    unfold Arms.ways at h
    simp at h
    rw [Arms.sz,<- h.2]
    lia
  | .cons t n c r,i + 1,ns,b,h=>by
    unfold Arms.ways at h
    have:=Zs (as:=r) (i:=i) (by simpa using h)
    rw [Arms.sz]
    lia
theorem Qv {T1 T2:Addr} (F:Fun K "uses_anew" "uses_anew" wn f fd) (GA:Ca P w K mg base CX0 8 "arm_uses_anew" ["name","arm"] (VI T1 T2)) (m_any:mg "any"=none):FnOk P w K mg base CX0 9 f fd ["body"] (VJ T1 T2):=by
  refine F.by zbu (fun vs H Q E h=>?_) (fun cdv A outer s H vs Q E hr h=>?_)
  · obtain ⟨p,x,as,rfl,_⟩:=h
    rfl
  obtain ⟨p,x,as,rfl,hb,hz,hT,q⟩:=h
  refine ⟨_,
    (zj (zu (x9 (xH rfl) rfl m_any PyProof.Rows.boot_any (jA1 (z0 ["arm"] rfl (xp (xT 0)) (fun _ _ _ _ _=>(gN 1 zbv)) (fun _ _ _ _ _=>zO) (fun _ _ _ _ _=>(cA GA hr (jA2 (yy (yt K) (jv 0) zo (fun _ _=>rfl)) (jv 1))))))))),?_⟩
  have sl:=zW
  cases hb with
  | @case x as ps _ p1 hp hp1 hl0 hA =>
  have al:=hA.len
  have az:=jH as
  refine ⟨_,rfl,ixT hp aI2 ⟨p1,rfl,⟨_,SqT.of hp1⟩,WR (xs:=ps.map V.ref) (fun j τ ys H'=>KM (MT T1 T2) H H'/\Tbs T1 T2 H'/\(∃ v,τ=[some (.ref p),v])/\ys=((as.ways.take j).map (armA x)).map V.bl) ⟨KM.refl,hT,⟨none,rfl⟩,rfl⟩ (fun j τ ys H' _ h=>SqT.of (hT.tups h.1 _ _ hp1)) ?_ ?_⟩⟩
  · rintro j v τ ys H1 hv ⟨k1,T1',⟨v',rfl⟩,rfl⟩
    rw [List.getElem?_map] at hv
    obtain ⟨pa,hpa,rfl⟩:=Option.map_eq_some_iff.mp hv
    obtain ⟨t,q1,r1,ns,b,e1,e2,e3,e4⟩:=hA.get hpa
    have tp:=hT.tups k1
    have:=Zs e1
    refine ⟨_,rfl,ixT (tp _ _ hp) aI1 ⟨_,rfl,x,t,pa,q1,r1,(ns,b),rfl,tp _ _ e2,tp _ _ e3,e4.keep tp,by show b.sz<=_; lia,T1',fun H2 k2 T2'=>⟨?_,k1.trans k2,T2',⟨_,rfl⟩,?_⟩⟩⟩
    · rw [List.length_map,List.length_map,List.length_take]
      have:=(List.getElem?_eq_some_iff.mp e1).1
      lia
    · rw [List.take_add_one,e1]
      simp
  rintro τ ys H1 ⟨k1,T1',_,rfl⟩ l hl
  rw [List.length_map,<- al,List.take_of_length_le (Nat.le_refl _)]
  refine ⟨l,_,rfl,SqL.of zf,?_⟩
  rw [show (as.ways.map (armA x)).any _root_.id=xh x as by unfold xh; rw [List.any_map]; rfl]
  exact q _ (k1.new hl) (T1'.same (zk hl _))
end
end GN
namespace L2
open PySem PySem.Spec PyProof.Rows
section
variable {prog:Program} {w:World} {K:Type} [DecidableEq K] {knd:HeapKind prog w K} {A:Around} {E:Value->Shared->Prop} {s:Shared}
theorem yD {d a:Addr} {xs:List (K × Addr × Value)} {k:K} {v:Value} {Q:Value->Shared->Prop} (hu:knd.room A) (hkey:knd.is s.heap k a) (hm:s.heap.DictOfH knd d xs)
    (h1:∀ p,atKey xs k=some p->Q p.2 { s with toks:=s.toks + knd.draws k })
    (h2:atKey xs k=none->∀ h',h'.DictOfH knd d (storedH xs k a v)->Heap.SameBut d s.heap h'->Q v { s with heap:=h',toks:=s.toks + knd.draws k })
    (hsz:xs.length<=sizeLine) :
    wpAny (model prog w) A (dictSetDefault d (.ref a) v) Q E s:=by
  obtain ⟨o,es,ep,ho,hc,hd,he,his,hn⟩:=hm
  unfold dictSetDefault
  try with_reducible refine wpAny_holding ?_
  refine wpAny_bind (knd.pyHash hu hkey ?_)
  refine wpAny_bind (wpAny_dictFind_heap (s:={ s with toks:=s.toks + knd.draws k }) hu hkey ho hd he his hn ?_ ?_)
  · intro hno
    have hnot:k ∉ xs.map (·.1):=not_mem_keys_of_get hno
    refine wpAny_bind (wpAny_rule (wpAny_bind (wpAny_updateDictKeys (hz:=by have e:=size_of_entries he; lia) (s:={ s with toks:=s.toks + knd.draws k }) ho hd (wpAny_pure (h2 (atKey_none_of_get hno) _ ⟨_,_,ep + 1,Heap.get?_update_self _ ho (Obj.isFreed_of_dict (Obj.data_mapDictKeys hd _)),
      hc.mapDictKeys _,Obj.data_mapDictKeys hd _,?_,?_,?_⟩ (Heap.SameBut.update ..))))))
    · rw [storedH_new (atKey_none_of_get hno)]
      simp [he,entryOfKey]
    · rw [storedH_new (atKey_none_of_get hno)]
      intro x hx
      rcases List.mem_append.mp hx with hx | hx
      · exact knd.keeps (his x hx) ho hd (Heap.SameBut.update ..)
      · simp only [List.mem_singleton] at hx
        subst hx
        exact knd.keeps hkey ho hd (Heap.SameBut.update ..)
    · rw [storedH_new (atKey_none_of_get hno)]
      rw [List.map_append,List.nodup_append]
      refine ⟨hn,by simp,?_⟩
      intro x hx y hy
      simp only [List.map_cons,List.map_nil,List.mem_singleton] at hy
      subst hy
      exact fun e=>hnot (e ▸ hx)
  · intro j p hj
    refine wpAny_bind (wpAny_dictEntries (s:={ s with toks:=s.toks + knd.draws k }) ho hd ?_)
    rw [entry_at he j,hj]
    exact wpAny_bind (wpAny_rule (wpAny_pure (h1 p (atKey_of_get hn hj))))
theorem xI {d a:Addr} (hd:(d == sysModules)=false) (dflt:Value) :
    MeetsIn prog w (Builtin.«dict.setdefault» ⟨[.ref d,.ref a,dflt],[]⟩) (fun A R s=>knd.room A.in1/\∃ k xs,knd.is s.heap k a/\s.heap.DictOfH knd d xs/\xs.length<=sizeLine /\
      (∀ p,atKey xs k=some p->R (.ok (.ret p.2)) { s with toks:=s.toks + knd.draws k }) /\
      (atKey xs k=none->∀ h',h'.DictOfH knd d (storedH xs k a dflt)->Heap.SameBut d s.heap h'->R (.ok (.ret dflt)) { s with heap:=h',toks:=s.toks + knd.draws k })) :=
  .of_wp fun A R s hh=>by
    obtain ⟨hu,k,xs,hkey,hm,hz,h1,h2⟩:=hh
    unfold Builtin.«dict.setdefault»
    refine wpAny_bind ?_
    unfold Builtin.Dict.keyAndDefault
    refine wpAny_bind (wpAny_notOrdered_dict hm.typeIs ?_)
    show wpAny _ _ (pure (d,Value.ref a,some dflt)) _ _ s
    refine wpAny_pure ?_
    show wpAny _ _ (if (d == sysModules)=true then _ else (dictSetDefault d (.ref a) dflt >>= _)) _ _ s
    rw [if_neg (by rw [hd]; exact Bool.false_ne_true)]
    exact wpAny_bind (yD hu hkey hm (fun p hp=>wpAny_pure ⟨p.2,rfl,h1 p hp⟩) (fun hn h' hm' hs'=>wpAny_pure ⟨dflt,rfl,h2 hn h' hm' hs'⟩) hz)
end
def VM (td ty tx:TE):TE:=fun σ H Q=>td σ H fun x H1=>∃ a,x=.ref a/\IsD H1 a/\ty σ H1 fun y H2=>tx σ H2 fun z H3=>∃ kvs k b,H3 a=some (.dT kvs)/\y=.ref b/\H3 b=some (.tup (k.map kV))/\kvs.length < sizeLine/\(∀ v,valV kvs k=some v->Q v H3)/\(valV kvs k=none->Q z (upd H3 a (.dT (putK kvs k z))))
section
variable {X:Cx} {o e f:Expr} {td ty tx:TE} {apos cpos:Pos} {k:Nat}
theorem VN (hu:X.A.units + 1 < cLine) (ho:PE X o td) (he:PE X e ty) (hf:PE X f tx) (m:M2 X o "setdefault" apos e f cpos):PE X (.Call (.Attribute o "setdefault" apos) [e,f] [] cpos) (VM td ty tx):=by
  intro pins s σ H Q I h
  refine wpAny_Call_method m.base m.few m.line PySem.F.plainAttrs_dict PySem.F.slot_dict_setdefault PySem.F.type_dict_setdefault (thn (ho pins s σ H _ I h) fun u s1 ⟨x,H1,I1,rx,a,ex,d,q1⟩=>?_)
  subst ex
  obtain rfl:u=Value.ref a:=rx
  obtain ⟨t1,t2,_⟩:=W5 I1 d
  refine ⟨t1,t2,?_⟩
  rw [m.trees]
  refine Calls.callWith_builtin rfl (Calls.evalArgs_plain (Calls.spliced_cons (thn (he pins s1 σ H1 _ I1 q1) fun iv s2 ⟨y,H2,I2,ry,q2⟩ =>
    Calls.spliced_cons (thn (hf pins s2 σ H2 _ I2 q2) fun fv s3 ⟨z,H3,I3,rz,kvs,k,b,e1,ey,eb,l,q3,q4⟩=>Calls.spliced_nil ?_))))
  subst ey
  cases (show iv=Value.ref b from ry)
  obtain ⟨zz,hd,xs,rel,dd⟩:=zae I3.hok e1
  have hz:xs.length<=sizeLine:=by rw [<- Paired.length rel]; exact zz
  have hl:(putK kvs k z).length<=sizeLine:=by have:=zU kvs k z; lia
  refine call_meetsIn PySem.F.slot_dict_setdefault dd.typeIs PySem.F.entry_dict_setdefault (PySem.F.args_dict_setdefault_3 _ _ _) (xI (knd:=tupleKind (zE X.prog X.w)) hd fv) ⟨tupleKind_room_in1 hu,k,xs,xt I3.hok eb,dd,hz,fun p hp=>?_,fun hn h' dd' hs=>?_⟩
  · have rv:=rel.val k
    rw [hp] at rv
    cases hv:valV kvs k with
    | none=>rw [hv] at rv; exact False.elim rv
    | some v =>
      rw [hv] at rv
      exact ⟨v,H3,I3.tok _,rv,q3 v hv⟩
  · have rv:=rel.val k
    rw [hn] at rv
    cases hv:valV kvs k with
    | some v=>rw [hv] at rv; exact False.elim rv
    | none =>
      obtain ⟨q,es,ep,hq,h2,h3,h4,_,h5⟩:=dd'
      refine ⟨z,upd H3 a (.dT (putK kvs k z)),jt (ob:=.dT (putK kvs k z)) I3 (by rw [e1]; exact True.intro) hs ⟨q,hq⟩ ⟨hl,hd,_,(rel.put k eb rz).keeps fun c ys ec=>?_,q,es,ep,hq,h2,h3,h4,h5⟩,rz,q4 hv⟩
      rw [zg (xz ec e1 (by intro z; cases z))]
      exact ec
theorem VO (hr:Room k X.A) (ho:jE X o td) (he:jE X e ty) (hf:jE X f tx) (m:M2 X o "setdefault" apos e f cpos:=by exact ⟨rfl,rfl,rfl,rfl⟩):jE X (.Call (.Attribute o "setdefault" apos) [e,f] [] cpos) (VM td ty tx):=⟨VN (vS hr) ho.out he.out hf.out m⟩
end
section
variable {X:Cx} {k:Nat} {o e f i:Expr} {td ty tx:TE} {apos cpos pos:Pos}
theorem zbw (hr:Room k X.A) (hi:jE X i ty) (ho:jE X o td) (h1:behindInMarks .In o=false:=by rfl):jE X (.Compare i [.In] [o] pos) (tDIn ty td):=⟨zau (WV (vS hr) hi.out ho.out) (h1:=h1)⟩
theorem jM (hr:Room k X.A) (hi:jE X i ty) (ho:jE X o td) (h1:behindInMarks .In o=false:=by rfl):jT X (.Compare i [.In] [o] pos) (tB (tDIn ty td)):=⟨Wg (WV (vS hr) hi.out ho.out) (h1:=h1)⟩
theorem X4 (hr:Room k X.A) (hi:jE X i ty) (ho:jE X o td) (h1:behindInMarks .NotIn o=false:=by rfl):jT X (.Compare i [.NotIn] [o] pos) (tB (Y4 ty td)):=⟨Wg (XS (vS hr) hi.out ho.out) (h1:=h1)⟩
end
end L2
namespace L2
open PySem
theorem xJ {X:Cx} {pos:Pos}:jE X (.Dict [] [] pos) WZ:=⟨W4⟩
end L2
namespace GN
open PySem L2 K11
def pixR:List Str->Str->Option Nat
  | [],_=>none
  | y :: r,x=>if y=x then some r.length else pixR r x
def pix (ns:List Str) (x:Str):Option Nat:=pixR ns.reverse x
theorem VP (l:List Str) (x y:Str):pix (l ++ [y]) x=if y=x then some l.length else pix l x:=by
  unfold pix
  rw [List.reverse_append,List.reverse_singleton]
  show (if y=x then some l.reverse.length else pixR l.reverse x)=_
  rw [List.length_reverse]
theorem Xj:∀ {l:List Str} {x:Str} {k:Nat},pixR l x=some k->k < l.length
  | y :: r,x,k,h=>by
    unfold pixR at h
    split at h
    · cases h; exact Nat.lt_succ_self _
    · exact Nat.lt_succ_of_lt (Xj h)
theorem zbx {l:List Str} {x:Str} {k:Nat} (h:pix l x=some k):k < l.length:=by
  have:=Xj h
  rwa [List.length_reverse] at this
structure US where
  hd:Str->Bool
  F:Str->Nat->Option Str
  C:Str->Nat->List (Str × Nat)
def US0:US:=⟨fun _=>false,fun _ _=>none,fun _ _=>[]⟩
def addR (z:Str) (ns:List Str) (r:Str) (st:US) (x:Str):US:=match pix ns x with
  | none=>st
  | some k=>{ st with F:=fun z' k'=>if z'=z/\k'=k then some r else st.F z' k' }
def addC1 (z:Str) (ns:List Str) (g:Str) (j:Nat) (st:US) (x:Str):US:=match pix ns x with
  | none=>st
  | some k=>{ st with C:=fun z' k'=>if z'=g/\k'=j then st.C z' k' ++ [(z,k)] else st.C z' k' }
def addC (z:Str) (ns:List Str) (g:Str) (st:US) (xs:List Str):US:=xs.zipIdx.foldl (fun st p=>addC1 z ns g p.2 st p.1) st
abbrev kz (z:Str) (k:Nat):List Key:=[.inr z,.inl ((k:Nat):Int)]
theorem kz_inj {z z':Str} {k k':Nat}:kz z k=kz z' k'↔z=z'/\k=k':=by
  unfold kz
  constructor
  · intro h
    injection h with h1 h2
    injection h2 with h2 _
    refine ⟨Sum.inr.inj h1,?_⟩
    have:=Sum.inl.inj h2
    lia
  · rintro ⟨rfl,rfl⟩; rfl
def PairsAt (H:Hp) (l:List (Str × Nat)) (ts:List Addr):Prop:=All2 (fun (e:Str × Nat) t=>H t=some (.tup [.str e.1,.int ((e.2:Nat):Int)])) l ts
theorem PairsAt.keep {H H':Hp} {l:List (Str × Nat)} {ts:List Addr} (h:PairsAt H l ts) (t:Tups H H'):PairsAt H' l ts:=All2.imp h fun _ _ e=>t _ _ e
structure UO where
  u:Addr
  dx:Addr
  dh:Addr
  df:Addr
  dc:Addr
structure Un (K:PySem.W.Frag) (cU:Addr):Prop where
  cl:Cls K cU
  b1:NoAttr K cU "handed"
  b2:NoAttr K cU "found"
  b3:NoAttr K cU "calls"
def Qw (H:Hp) (L:Addr->Prop) (kc:List (List Key × V)) (C:Str->Nat->List (Str × Nat)):Prop:=∀ z k,(valV kc (kz z k)=none/\C z k=[])\/∃ l ts,valV kc (kz z k)=some (.ref l)/\L l/\H l=some (.lst (ts.map V.ref))/\PairsAt H (C z k) ts
structure IsU (cU T1 T2:Addr) (H:Hp) (o:UO) (L:Addr->Prop) (st:US) (n:Nat):Prop where
  ob:H o.u=some (.ins cU o.dx [("handed",.ref o.dh),("found",.ref o.df),("calls",.ref o.dc)])
  tb:Tbs T1 T2 H
  ne:o.df≠o.dc
  h:∃ kh,H o.dh=some (.dK kh)/\kh.length<=n/\∀ z,(valV kh (.inr z)).isSome=st.hd z
  f:∃ kf,H o.df=some (.dT kf)/\kf.length<=n/\∀ z k,valV kf (kz z k)=(st.F z k).map V.str
  c:∃ kc,H o.dc=some (.dT kc)/\kc.length<=n/\(∀ z k z' k' l,valV kc (kz z k)=some (.ref l)->valV kc (kz z' k')=some (.ref l)->z=z'/\k=k')/\Qw H L kc st.C
  cl:∀ z k,(st.C z k).length<=n
  ll:∀ b,L b->∃ xs,H b=some (.lst xs)
def Ow (T1 T2:Addr) (o:UO) (L:Addr->Prop) (b:Addr):Prop:=b=o.dh\/b=o.df\/b=o.dc\/L b\/MT T1 T2 b
def KU (T1 T2:Addr) (o:UO) (L:Addr->Prop) (H H':Hp):Prop:=KM (Ow T1 T2 o L) H H'
structure Gr (T1 T2:Addr) (o:UO) (H:Hp) (L:Addr->Prop) (H':Hp) (L':Addr->Prop):Prop where
  k:KU T1 T2 o L H H'
  s:∀ b,L b->L' b
  n:∀ b,L' b->L b\/H b=none
  p:∀ b,Ow T1 T2 o L' b->H' b≠none
theorem Gr.refl {T1 T2:Addr} {o:UO} {H:Hp} {L:Addr->Prop} (p:∀ b,Ow T1 T2 o L b->H b≠none):Gr T1 T2 o H L H L:=⟨KM.refl,fun _ h=>h,fun _ h=>.inl h,p⟩
theorem Gr.trans {T1 T2:Addr} {o:UO} {H H1 H2:Hp} {L L1 L2:Addr->Prop} (a:Gr T1 T2 o H L H1 L1) (b:Gr T1 T2 o H1 L1 H2 L2):Gr T1 T2 o H L H2 L2:=by
  refine ⟨fun x u n e=>?_,fun x h=>b.s x (a.s x h),fun x h=>?_,b.p⟩
  · have e1:=a.k x u n e
    refine b.k x u (fun z=>?_) e1
    rcases z with z | z | z | z | z
    · exact n (.inl z)
    · exact n (.inr (.inl z))
    · exact n (.inr (.inr (.inl z)))
    · rcases a.n x z with z | z
      · exact n (.inr (.inr (.inr (.inl z))))
      · rw [z] at e; cases e
    · exact n (.inr (.inr (.inr (.inr z))))
  · rcases b.n x h with h | h
    · exact a.n x h
    · by_cases z:L x
      · exact .inl z
      · refine .inr ?_
        cases e:H x with
        | none=>rfl
        | some u =>
          by_cases ow:Ow T1 T2 o L x
          · refine absurd h (a.p x ?_)
            rcases ow with y | y | y | y | y
            · exact .inl y
            · exact .inr (.inl y)
            · exact .inr (.inr (.inl y))
            · exact .inr (.inr (.inr (.inl (a.s x y))))
            · exact .inr (.inr (.inr (.inr y)))
          · rw [a.k x u ow e] at h; cases h
def Pm (H:Hp) (d:Addr) (z:Str) (ns:List Str):Prop:=∃ kvs,H d=some (.dK kvs)/\∀ x,(pix ns x=none/\valV kvs (.inr x)=none)\/∃ k t,pix ns x=some k/\valV kvs (.inr x)=some (.ref t)/\H t=some (.tup [.str z,.int ((k:Nat):Int)])
theorem Pm.keep {H H':Hp} {d:Addr} {z:Str} {ns:List Str} (h:Pm H d z ns) (kd:∀ kvs,H d=some (.dK kvs)->H' d=some (.dK kvs)) (t:Tups H H'):Pm H' d z ns:=by
  obtain ⟨kvs,e,h⟩:=h
  refine ⟨kvs,kd _ e,fun x=>(h x).imp_right fun ⟨k,t',a,b,c⟩=>⟨k,t',a,b,t _ _ c⟩⟩
section
variable {cU T1 T2:Addr} {H H':Hp} {o:UO} {L:Addr->Prop} {st:US} {n:Nat}
theorem IsU.pres (h:IsU cU T1 T2 H o L st n):∀ b,Ow T1 T2 o L b->H b≠none:=by
  rintro b (z | z | z | z | z | z)
  · obtain ⟨_,e,_⟩:=h.h; rw [z,e]; simp
  · obtain ⟨_,e,_⟩:=h.f; rw [z,e]; simp
  · obtain ⟨_,e,_⟩:=h.c; rw [z,e]; simp
  · obtain ⟨_,e⟩:=h.ll b z; rw [e]; simp
  · obtain ⟨ps,e,_⟩:=h.tb.t1; rw [z,e]; simp
  · obtain ⟨ps,e,_⟩:=h.tb.t2; rw [z,e]; simp
theorem IsU.keep (h:IsU cU T1 T2 H o L st n) (t:Tbs T1 T2 H') (k:KM (MT T1 T2) H H'):IsU cU T1 T2 H' o L st n:=by
  obtain ⟨a,b,c,⟨kh,d1,d2⟩,⟨kf,e1,e2⟩,⟨kc,f1,f2,f3,f4⟩,g,gl⟩:=h
  refine ⟨k _ _ (b.noT a (by intro _ z; cases z)) a,t,c,⟨kh,k _ _ (b.noT d1 (by intro _ z; cases z)) d1,d2⟩,⟨kf,k _ _ (b.noT e1 (by intro _ z; cases z)) e1,e2⟩,⟨kc,k _ _ (b.noT f1 (by intro _ z; cases z)) f1,f2,f3,fun z k'=>(f4 z k').imp_right fun ⟨l,ts,x1,x2,x3,x4⟩=>⟨l,ts,x1,x2,b.lst k x3,x4.keep (b.tups k)⟩⟩,g,fun b' h=>(gl b' h).imp fun xs e=>b.lst k e⟩
theorem IsU.mono (h:IsU cU T1 T2 H o L st n) {m:Nat} (l:n<=m):IsU cU T1 T2 H o L st m:=by
  obtain ⟨a,b,c,⟨kh,d1,d2,d3⟩,⟨kf,e1,e2,e3⟩,⟨kc,f1,f2,f3⟩,g,gl⟩:=h
  exact ⟨a,b,c,⟨kh,d1,Nat.le_trans d2 l,d3⟩,⟨kf,e1,Nat.le_trans e2 l,e3⟩,⟨kc,f1,Nat.le_trans f2 l,f3⟩,fun z k=>Nat.le_trans (g z k) l,gl⟩
theorem IsU.noOw (h:IsU cU T1 T2 H o L st n) {b:Addr} {xs:List V} (e:H b=some (.tup xs)):¬ Ow T1 T2 o L b:=by
  rintro (z | z | z | z | z)
  · obtain ⟨_,q,_⟩:=h.h; rw [z,q] at e; cases e
  · obtain ⟨_,q,_⟩:=h.f; rw [z,q] at e; cases e
  · obtain ⟨_,q,_⟩:=h.c; rw [z,q] at e; cases e
  · obtain ⟨_,q⟩:=h.ll b z; rw [q] at e; cases e
  · exact h.tb.noT e (by intro _ z; cases z) z
theorem IsU.noOwK (h:IsU cU T1 T2 H o L st n) {b:Addr} {kvs:List (Key × V)} (e:H b=some (.dK kvs)) (nb:b≠o.dh):¬ Ow T1 T2 o L b:=by
  rintro (z | z | z | z | z)
  · exact nb z
  · obtain ⟨_,q,_⟩:=h.f; rw [z,q] at e; cases e
  · obtain ⟨_,q,_⟩:=h.c; rw [z,q] at e; cases e
  · obtain ⟨_,q⟩:=h.ll b z; rw [q] at e; cases e
  · exact h.tb.noT e (by intro _ z; cases z) z
theorem Gr.tups {L':Addr->Prop} (g:Gr T1 T2 o H L H' L') (h:IsU cU T1 T2 H o L st n):Tups H H':=fun b xs e=>g.k b _ (h.noOw e) e
theorem Gr.pm {L':Addr->Prop} (g:Gr T1 T2 o H L H' L') (h:IsU cU T1 T2 H o L st n) {d:Addr} {z:Str} {ns:List Str} (p:Pm H d z ns) (nd:d≠o.dh):Pm H' d z ns:=p.keep (fun kvs e=>g.k _ _ (h.noOwK e nd) e) (g.tups h)
theorem IsU.same (h:IsU cU T1 T2 H o L st n) (s:Same H H'):IsU cU T1 T2 H' o L st n:=h.keep (h.tb.same s) (.of s)
theorem Gr.same (h:IsU cU T1 T2 H o L st n) (s:Same H H'):Gr T1 T2 o H L H' L:=⟨.of s,fun _ h=>h,fun _ h=>.inl h,(h.same s).pres⟩
theorem IsU.call (h:IsU cU T1 T2 H o L st n) {kc:List (List Key × V)} {g z:Str} {j k:Nat} {l t:Addr} {xs:List V} (hc:H o.dc=some (.dT kc)) (hv:valV kc (kz g j)=some (.ref l)) (hl:H l=some (.lst xs)) (ht:H t=some (.tup [.str z,.int ((k:Nat):Int)])) :
    xs.length<=n/\IsU cU T1 T2 (upd H l (.lst (xs ++ [.ref t]))) o L { st with C:=fun z' k'=>if z'=g/\k'=j then st.C z' k' ++ [(z,k)] else st.C z' k' } (n + 1)/\Gr T1 T2 o H L (upd H l (.lst (xs ++ [.ref t]))) L:=by
  have pr:=h.pres
  obtain ⟨a,b,c,⟨kh,d1,d2,d3⟩,⟨kf,e1,e2,e3⟩,⟨kc',f1,f2,f3,f4⟩,gg,gl⟩:=h
  rw [hc] at f1
  cases f1
  have nl:∀ {b:Addr} {u:HO},H b=some u->(∀ xs,u≠.lst xs)->b≠l:=fun {b u} e n y=>by rw [y,hl] at e; exact n _ (Option.some.inj e).symm
  have up:∀ b u,b≠l->H b=some u->upd H l (.lst (xs ++ [.ref t])) b=some u:=fun b u n e=>by rw [zg n]; exact e
  have tp:Tups H (upd H l (.lst (xs ++ [.ref t]))):=fun b ys e=>up b _ (nl e (by intro _ z; cases z)) e
  obtain ⟨l',ts,x1,x2,x3,x4⟩:∃ l' ts,valV kc (kz g j)=some (.ref l')/\L l'/\H l'=some (.lst (ts.map V.ref))/\PairsAt H (st.C g j) ts:=by
    rcases f4 g j with ⟨q,_⟩ | q
    · rw [hv] at q; cases q
    · exact q
  rw [hv] at x1
  cases x1
  rw [hl] at x3
  cases x3
  have al:=All2.len x4
  refine ⟨by rw [List.length_map,<- al]; exact gg g j,⟨up _ _ (nl a (by intro _ z; cases z)) a,⟨b.t1.keep (fun ps e=>up _ _ (nl e (by intro _ z; cases z)) e) fun c q e=>up _ _ (nl e (by intro _ z; unfold CodO at z; cases z)) e,b.t2.keep (fun ps e=>up _ _ (nl e (by intro _ z; cases z)) e) fun c q e=>up _ _ (nl e (by intro _ z; unfold CodO at z; cases z)) e⟩,c,⟨kh,up _ _ (nl d1 (by intro _ z; cases z)) d1,by lia,d3⟩,⟨kf,up _ _ (nl e1 (by intro _ z; cases z)) e1,by lia,e3⟩,⟨kc,up _ _ (nl hc (by intro _ z; cases z)) hc,by lia,f3,fun z' k'=>?_⟩,fun z' k'=>?_,fun b' hb'=>?_⟩,⟨fun b' u n' e=>up b' u (fun y=>n' (.inr (.inr (.inr (.inl (y ▸ x2)))))) e,fun _ h=>h,fun _ h=>.inl h,fun b' hb'=>?_⟩⟩
  · by_cases y:z'=g/\k'=j
    · obtain ⟨rfl,rfl⟩:=y
      refine .inr ⟨l,ts ++ [t],hv,x2,by rw [zf,List.map_append]; rfl,?_⟩
      show PairsAt _ (if z'=z'/\k'=k' then _ else _) _
      rw [if_pos ⟨rfl,rfl⟩]
      exact All2.app (x4.keep tp) (.cons (tp _ _ ht) .nil)
    · show _\/_
      show (_/\(if z'=g/\k'=j then _ else _)=[])\/∃ l ts,_/\_/\_/\PairsAt _ (if z'=g/\k'=j then _ else _) _
      rw [if_neg y]
      rcases f4 z' k' with q | ⟨l2,ts2,y1,y2,y3,y4⟩
      · exact .inl q
      · refine .inr ⟨l2,ts2,y1,y2,up _ _ (fun e=>y ?_) y3,y4.keep tp⟩
        exact f3 _ _ _ _ _ (e ▸ y1) hv
  · show (if z'=g/\k'=j then _ else _:List (Str × Nat)).length<=_
    have:=gg z' k'
    split
    · rw [List.length_append]; show _ + 1<=_; lia
    · lia
  · by_cases y:b'=l
    · exact ⟨_,by rw [y]; exact zf⟩
    · exact (gl b' hb').imp fun ys e=>up _ _ y e
  · by_cases y:b'=l
    · rw [y,zf]; simp
    · rw [zg y]; exact pr b' hb'
theorem IsU.call0 (h:IsU cU T1 T2 H o L st n) {kc:List (List Key × V)} {g:Str} {j:Nat} {l:Addr} (hc:H o.dc=some (.dT kc)) (hv:valV kc (kz g j)=none) (hl:H l=some (.lst [])) (nl:¬ L l) (h0:Hp) (g0:Gr T1 T2 o h0 L H L) (hl0:h0 l=none) :
    IsU cU T1 T2 (upd H o.dc (.dT (putK kc (kz g j) (.ref l)))) o (fun b=>L b\/b=l) st (n + 1)/\Gr T1 T2 o h0 L (upd H o.dc (.dT (putK kc (kz g j) (.ref l)))) (fun b=>L b\/b=l):=by
  have pr:=h.pres
  obtain ⟨a,b,c,⟨kh,d1,d2,d3⟩,⟨kf,e1,e2,e3⟩,⟨kc',f1,f2,f3,f4⟩,gg,gl⟩:=h
  rw [hc] at f1
  cases f1
  have nf:∀ {b:Addr} {u:HO},H b=some u->(∀ xs,u≠.dT xs)->b≠o.dc:=fun {b u} e n y=>by rw [y,hc] at e; exact n _ (Option.some.inj e).symm
  have up:∀ b u,b≠o.dc->H b=some u->upd H o.dc (.dT (putK kc (kz g j) (.ref l))) b=some u:=fun b u n e=>by rw [zg n]; exact e
  have tp:Tups H (upd H o.dc (.dT (putK kc (kz g j) (.ref l)))):=fun b ys e=>up b _ (nf e (by intro _ z; cases z)) e
  have lk:=zU kc (kz g j) (.ref l)
  have vp:∀ z k,valV (putK kc (kz g j) (.ref l)) (kz z k)=if z=g/\k=j then some (.ref l) else valV kc (kz z k):=fun z k=>by
    rw [yQ]
    by_cases y:z=g/\k=j
    · rw [if_pos (kz_inj.mpr y),if_pos y]
    · rw [if_neg (fun w=>y (kz_inj.mp w)),if_neg y]
  have old:∀ z k l',valV kc (kz z k)=some (.ref l')->L l':=fun z k l' e=>by
    rcases f4 z k with ⟨q,_⟩ | ⟨l2,ts2,y1,y2,_⟩
    · rw [e] at q; cases q
    · rw [e] at y1; cases y1; exact y2
  refine ⟨⟨up _ _ (nf a (by intro _ z; cases z)) a,⟨b.t1.keep (fun ps e=>up _ _ (nf e (by intro _ z; cases z)) e) fun c q e=>up _ _ (nf e (by intro _ z; unfold CodO at z; cases z)) e,b.t2.keep (fun ps e=>up _ _ (nf e (by intro _ z; cases z)) e) fun c q e=>up _ _ (nf e (by intro _ z; unfold CodO at z; cases z)) e⟩,c,⟨kh,up _ _ (nf d1 (by intro _ z; cases z)) d1,by lia,d3⟩,⟨kf,up _ _ c e1,by lia,e3⟩,⟨_,zf,by lia,fun z k z' k' l' q1 q2=>?_,fun z' k'=>?_⟩,fun z' k'=>Nat.le_succ_of_le (gg z' k'),fun b' hb'=>?_⟩,⟨fun b' u n' e=>up b' u (fun y=>n' (.inr (.inr (.inl y)))) (g0.k b' u n' e),fun _ h=>.inl h,fun b' h=>Or.imp_right (fun (y:b'=l)=>by rw [y]; exact hl0) h,fun b' hb'=>?_⟩⟩
  · rw [vp] at q1 q2
    split at q1
    · rename_i y1
      split at q2
      · rename_i y2; exact ⟨y1.1.trans y2.1.symm,y1.2.trans y2.2.symm⟩
      · cases q1; exact absurd (old _ _ _ q2) nl
    · split at q2
      · cases q2; exact absurd (old _ _ _ q1) nl
      · exact f3 _ _ _ _ _ q1 q2
  · rw [vp]
    by_cases y:z'=g/\k'=j
    · rw [if_pos y]
      obtain ⟨rfl,rfl⟩:=y
      have e:st.C z' k'=[]:=by
        rcases f4 z' k' with ⟨_,q⟩ | ⟨l2,ts2,y1,_⟩
        · exact q
        · rw [hv] at y1; cases y1
      refine .inr ⟨l,[],rfl,.inr rfl,up _ _ (nf hl (by intro _ z; cases z)) hl,?_⟩
      rw [e]
      exact .nil
    · rw [if_neg y]
      rcases f4 z' k' with q | ⟨l2,ts2,y1,y2,y3,y4⟩
      · exact .inl q
      · exact .inr ⟨l2,ts2,y1,.inl y2,up _ _ (nf y3 (by intro _ z; cases z)) y3,y4.keep tp⟩
  · rcases hb' with y | y
    · exact (gl b' y).imp fun ys e=>up _ _ (nf e (by intro _ z; cases z)) e
    · exact ⟨_,by rw [show b'=l from y]; exact up _ _ (nf hl (by intro _ z; cases z)) hl⟩
  · by_cases y:b'=o.dc
    · rw [y,zf]; simp
    · rw [zg y]
      rcases hb' with z | z | z | z | z
      · exact pr b' (.inl z)
      · exact pr b' (.inr (.inl z))
      · exact absurd z y
      · rcases z with z | z
        · exact pr b' (.inr (.inr (.inr (.inl z))))
        · rw [z,hl]; simp
      · exact pr b' (.inr (.inr (.inr (.inr z))))
end
def Xk (cU:Addr):Sp:=fun vs H Q _=>∃ (x dx:Addr),vs=[.ref x]/\H x=some (.ins cU dx [])/\∀ H' dh df dc,(∀ b u,b≠x->H b=some u->H' b=some u)->H dh=none->H df=none->H dc=none->df≠dc->dh≠df->dh≠dc->H' dh=some (.dK [])->H' df=some (.dT [])->H' dc=some (.dT [])->H' x=some (.ins cU dx [("handed",.ref dh),("found",.ref df),("calls",.ref dc)])->Q .non H'
def Ys (cU T1 T2:Addr):Sp:=fun vs H Q _=>∃ (d:Addr) (x r z:Str) (ns:List Str) (o:UO) (L:Addr->Prop) (st:US) (n:Nat),vs=[.ref o.u,.ref d,.str x,.str r]/\IsU cU T1 T2 H o L st n/\n < 16000000/\Pm H d z ns/\∀ H',Gr T1 T2 o H L H' L->IsU cU T1 T2 H' o L (addR z ns r st x) (n + 1)->Q .non H'
def VQ (cU T1 T2:Addr):Sp:=fun vs H Q _=>∃ (d p q:Addr) (g z:Str) (w:Str) (xs ns:List Str) (o:UO) (L:Addr->Prop) (st:US) (n:Nat),vs=[.ref o.u,.ref d,.ref p]/\H p=some (.tup [.str w,.str g,.ref q])/\H q=some (.tup (xs.map V.str))/\IsU cU T1 T2 H o L st n/\n + 2 * xs.length < 16000000/\d≠o.dh/\Pm H d z ns/\∀ H' L',Gr T1 T2 o H L H' L'->IsU cU T1 T2 H' o L' (addC z ns g st xs) (n + 2 * xs.length)->Q .non H'
section
variable {P:Program} {w:World} {K:PySem.W.Frag} {mg:Str->Option Value} {base:Heap} {f cU:Addr} {fd:FuncData}
theorem Qx:FnScope ["self"] ["self"] (zn Yi):=.ok
theorem VR (F:Fun K "__init__" "Uses.__init__" Yi f fd) (N:Un K cU):FnOk P w K mg base CX0 1 f fd ["self"] (Xk cU):=by
  refine F.by Qx (fun vs H Q E h=>?_) (fun cdv A outer s H vs Q E hr h=>?_)
  · obtain ⟨x,dx,rfl,_⟩:=h
    rfl
  obtain ⟨x,dx,rfl,hx,q⟩:=h
  refine ⟨_,(zh (wc (jv 0) xE) (zh (wc (jv 0) xJ) (zj (wc (jv 0) xJ)))),?_⟩
  intro dh h1
  have n1:x≠dh:=zi hx h1
  refine ⟨_,rfl,x,cU,dx,_,rfl,by rw [zg n1]; exact hx,N.cl,N.b1,by show 0 < 1000; decide,?_⟩
  intro df h2
  have n2:df≠x:=fun z=>by
    rw [z,zf] at h2; cases h2
  have n3:df≠dh:=fun z=>by
    rw [zg n2,z,zf] at h2; cases h2
  have h2':H df=none:=by rw [zg n2,zg n3] at h2; exact h2
  refine ⟨_,rfl,x,cU,dx,_,rfl,by rw [zg n2.symm]; exact zf,N.cl,N.b2,by show 1 < 1000; decide,?_⟩
  intro dc h3
  have n4:dc≠x:=fun z=>by
    rw [z,zf] at h3; cases h3
  have n5:dc≠df:=fun z=>by
    rw [zg n4,z,zf] at h3; cases h3
  have n6:dc≠dh:=fun z=>by
    rw [zg n4,zg n5,zg n4,z,zf] at h3; cases h3
  have h3':H dc=none:=by rw [zg n4,zg n5,zg n4,zg n6] at h3; exact h3
  refine ⟨_,rfl,x,cU,dx,_,rfl,by rw [zg n4.symm]; exact zf,N.cl,N.b3,by show 2 < 1000; decide,?_⟩
  refine q _ dh df dc (fun b u n e=>?_) h1 h2' h3' n5.symm n3.symm n6.symm ?_ ?_ ?_ zf
  · rw [zg n,zg (zi e h3'),zg n,zg (zi e h2'),zg n,zg (zi e h1)]
    exact e
  · rw [zg n1.symm,zg n6.symm,zg n1.symm,zg n3.symm,zg n1.symm,zf]
  · rw [zg n2,zg n5.symm,zg n2,zf]
  · rw [zg n4,zf]
theorem zby:FnScope lS2 lS2 (zn xw):=.ok
theorem Qy {T1 T2:Addr} (F:Fun K "add_reason" "Uses.add_reason" xw f fd) (N:Un K cU):FnOk P w K mg base CX0 1 f fd lS2 (Ys cU T1 T2):=by
  refine F.by zby (fun vs H Q E h=>?_) (fun cdv A outer s H vs Q E hr h=>?_)
  · obtain ⟨d,x,r,z,ns,o,L,st,n,rfl,_⟩:=h
    rfl
  obtain ⟨d,x,r,z,ns,o,L,st,n,rfl,hU,hn,⟨kvs,hd,hp⟩,q⟩:=h
  refine ⟨_,(zj (zI (jM hr (jv 2) (jv 1)) (zj (yK hr (yr (jv 0)) (Xa hr (jv 1) (jv 2)) (jv 3))) zw)),?_⟩
  have sl:=zW
  have pr:=hU.pres
  refine ⟨_,rfl,_,rfl,d,_,rfl,DGet.k (k:=.inr x) hd,_,rfl,?_⟩
  rcases hp x with ⟨p1,p2⟩ | ⟨k,t,p1,p2,p3⟩
  · rw [p2]
    refine iteF ?_
    have e:addR z ns r st x=st:=by unfold addR; rw [p1]
    rw [e] at q
    exact q H (.refl pr) (hU.mono (Nat.le_succ _))
  · rw [p2]
    refine iteT ?_
    have e:addR z ns r st x={ st with F:=fun z' k'=>if z'=z/\k'=k then some r else st.F z' k' }:=by unfold addR; rw [p1]
    rw [e] at q
    obtain ⟨a,b,c,⟨kh,d1,d2,d3⟩,⟨kf,e1,e2,e3⟩,⟨kc,f1,f2,f3,f4⟩,g,gl⟩:=hU
    have nf:∀ {b:Addr} {u:HO},H b=some u->(∀ kf,u≠.dT kf)->b≠o.df:=fun {b u} e n z=>by rw [z,e1] at e; exact n _ (Option.some.inj e).symm
    refine ⟨_,rfl,_,rfl,o.u,cU,o.dx,_,_,rfl,a,N.cl,N.b2,rfl,_,rfl,_,rfl,d,_,rfl,?_,o.df,_,rfl,DPut.t (k:=kz z k) e1 p3 (by lia),?_⟩
    · exact p2 ▸ DGet.k (k:=.inr x) hd
    have up:∀ b u,b≠o.df->H b=some u->upd H o.df (.dT (putK kf (kz z k) (.str r))) b=some u:=fun b u n e=>by rw [zg n]; exact e
    have tp:Tups H (upd H o.df (.dT (putK kf (kz z k) (.str r)))):=fun b xs e=>up b _ (nf e (by intro _ z; cases z)) e
    have lk:=zU kf (kz z k) (.str r)
    refine q _ ⟨fun b u n e=>up b u (fun y=>n (.inr (.inl y))) e,fun _ h=>h,fun _ h=>.inl h,fun b h=>?_⟩ ⟨up _ _ (nf a (by intro _ z; cases z)) a,⟨b.t1.keep (fun ps e=>up _ _ (nf e (by intro _ z; cases z)) e) fun c q e=>up _ _ (nf e (by intro _ z; unfold CodO at z; cases z)) e,b.t2.keep (fun ps e=>up _ _ (nf e (by intro _ z; cases z)) e) fun c q e=>up _ _ (nf e (by intro _ z; unfold CodO at z; cases z)) e⟩,c,⟨kh,up _ _ (nf d1 (by intro _ z; cases z)) d1,by lia,d3⟩,⟨_,zf,by lia,fun z' k'=>?_⟩,⟨kc,up _ _ c.symm f1,by lia,f3,fun z' k'=>(f4 z' k').imp_right fun ⟨l,ts,x1,x2,x3,x4⟩=>⟨l,ts,x1,x2,up _ _ (nf x3 (by intro _ z; cases z)) x3,x4.keep tp⟩⟩,fun z' k'=>Nat.le_succ_of_le (g z' k'),fun b' h=>(gl b' h).imp fun xs e=>up _ _ (nf e (by intro _ z; cases z)) e⟩
    · by_cases y:b=o.df
      · rw [y,zf]; simp
      · rw [zg y]; exact pr b h
    · rw [yQ]
      show _=(if z'=z/\k'=k then some r else st.F z' k').map V.str
      by_cases y:z'=z/\k'=k
      · rw [if_pos (kz_inj.mpr y),if_pos y]; rfl
      · rw [if_neg (fun w=>y (kz_inj.mp w)),if_neg y]; exact e3 z' k'
def hand (f:Str) (st:US):US:={ st with hd:=fun y=>if y=f then true else st.hd y }
def noteD (z:Str) (ns:List Str) (d:De) (st:US):US:=match d with
  | .app w f xs =>
    if w="call" then addC z ns f st xs else
    if w="make" then xs.foldl (addR z ns "put") st else
    if w="func" then hand f (xs.foldl (addR z ns "put") st) else
    if w="ask" then addR z ns "asked" (xs.foldl (addR z ns "put") st) f else st
  | _=>st
def Xl (cU T1 T2:Addr):Sp:=fun vs H Q _=>∃ (d p:Addr) (de:De) (z:Str) (ns:List Str) (o:UO) (L:Addr->Prop) (st:US) (n:Nat),vs=[.ref o.u,.ref d,.ref p]/\IsDe H de p/\IsU cU T1 T2 H o L st n/\n + 100 < 16000000/\d≠o.dh/\Pm H d z ns/\∀ H' L',Gr T1 T2 o H L H' L'->IsU cU T1 T2 H' o L' (noteD z ns de st) (n + 90)->Q .non H'
theorem X5 (z:Str) (ns:List Str) (g:Str) (st:US) (xs:List Str) {i:Nat} {x:Str} (h:xs[i]?=some x):addC z ns g st (xs.take (i + 1))=addC1 z ns g i (addC z ns g st (xs.take i)) x:=by
  have hi:=(List.getElem?_eq_some_iff.mp h).1
  unfold addC
  rw [List.take_add_one,h,List.zipIdx_append,List.foldl_append]
  show addC1 z ns g (0 + (xs.take i).length) _ x=_
  rw [List.length_take,Nat.zero_add,Nat.min_eq_left (by lia)]
theorem scAddC:FnScope ["self","params","deed","j","name"] lS10 (zn vi):=.ok
theorem Qz {T1 T2:Addr} (F:Fun K "add_call" "Uses.add_call" vi f fd) (N:Un K cU) (m_enumerate:mg "enumerate"=none):FnOk P w K mg base CX0 1 f fd lS10 (VQ cU T1 T2):=by
  refine F.by scAddC (fun vs H Q E h=>?_) (fun cdv A outer s H vs Q E hr h=>?_)
  · obtain ⟨d,p,q,g,z,w,xs,ns,o,L,st,n,rfl,_⟩:=h
    rfl
  obtain ⟨d,p,q,g,z,w,xs,ns,o,L,st,n,rfl,hp,hq,hU,hn,nd,hP,q⟩:=h
  rename_i q0
  refine ⟨_,(zj (yd PassesOwn.never rfl (Zr rfl m_enumerate (jA1 (xT 2))) (jo rfl (yw (gN 3 scAddC.nd) (yw (gN 4 scAddC.nd) wK)))
    (zj (zI (jM hr (jv 4) (jv 1)) (zj (zG (y9 PySem.F.plainAttrs_list PySem.F.slot_list_append PySem.F.type_list_append zY (VO hr (yr (jv 0)) (zq (jA2 (xT 2) (jv 3))) (yc zS)) (jA1 (Xa hr (jv 1) (jv 4)))))) zw)))),?_⟩
  have sl:=zW
  refine ⟨_,rfl,ixT hp aI2 ⟨_,rfl,⟨_,SqT.of hq⟩,v0 (xs:=xs.map V.str) (fun i σ H'=>∃ L' vj vx,Gr T1 T2 o H L H' L'/\IsU cU T1 T2 H' o L' (addC z ns g st (xs.take i)) (n + 2 * i)/\σ=[some (.ref o.u),some (.ref d),some (.ref p),vj,vx]) ⟨L,none,none,.refl hU.pres,hU,rfl⟩ (fun i σ H' _ h=>?_) ?_ ?_⟩⟩
  · obtain ⟨L',_,_,g1,_⟩:=h
    exact SqT.of (g1.tups hU _ _ hq)
  · rintro i x T σ H1 hx hT ⟨L1,vj,vx,g1,U1,rfl⟩
    rw [List.getElem?_map] at hx
    obtain ⟨x,hx0,rfl⟩:=Option.map_eq_some_iff.mp hx
    clear hx
    rename xs[i]?=some x=>hx
    have hi:=(List.getElem?_eq_some_iff.mp hx).1
    have s2:=zk (o:=.tup [.int (i:Nat),.str x]) hT
    have hT2:=zf (H:=H1) (a:=T) (o:=.tup [.int (i:Nat),.str x])
    have U2:=U1.same s2
    have g2:=g1.trans (.same U1 s2)
    generalize upd H1 T (.tup [.int (i:Nat),.str x])=H2 at *
    have P2:=g2.pm hU hP nd
    have hp2:=g2.tups hU _ _ hp
    refine ⟨T,_,rfl,SqT.of hT2,rfl,?_⟩
    obtain ⟨kvs,hd,hk⟩:=P2
    refine ⟨_,_,rfl,_,_,rfl,rfl,_,rfl,_,rfl,d,_,rfl,DGet.k (k:=.inr x) hd,_,rfl,?_⟩
    have es:=X5 z ns g st xs hx
    rcases hk x with ⟨p1,p2⟩ | ⟨k,t,p1,p2,p3⟩
    · rw [p2]
      refine iteF ⟨L1,_,_,g2,?_,rfl⟩
      have e:addC z ns g st (xs.take (i + 1))=addC z ns g st (xs.take i):=by rw [es]; unfold addC1; rw [p1]
      rw [e]
      exact U2.mono (by lia)
    rw [p2]
    refine iteT ?_
    have e:addC z ns g st (xs.take (i + 1))={ (addC z ns g st (xs.take i)) with C:=fun z' k'=>if z'=g/\k'=i then (addC z ns g st (xs.take i)).C z' k' ++ [(z,k)] else (addC z ns g st (xs.take i)).C z' k' }:=by rw [es]; unfold addC1; rw [p1]
    obtain ⟨kc,f1,f2,-⟩:=U2.c
    refine ⟨_,rfl,o.u,cU,o.dx,_,.ref o.dc,rfl,U2.ob,N.cl,N.b3,rfl,o.dc,rfl,.inr ⟨kc,?_⟩,_,rfl,ixT hp2 aI1 ⟨_,rfl,?_⟩⟩
    · exact .of f1
    refine ⟨sN2,fun tk htk=>⟨sN0,fun l hl=>?_⟩⟩
    have s3:=zk (o:=.tup [.str g,.int (i:Nat)]) htk
    have s4:=s3.new (o:=.lst []) hl
    have hk4:=old (o:=.lst []) hl (zf (H:=H2) (a:=tk) (o:=.tup [.str g,.int (i:Nat)]))
    have hl4:=zf (H:=upd H2 tk (.tup [.str g,.int (i:Nat)])) (a:=l) (o:=.lst [])
    have fl:H2 l=none:=s3.free hl
    have nL:¬ L1 l:=fun y=>by obtain ⟨_,e⟩:=U2.ll l y; rw [fl] at e; cases e
    have U4:=U2.same s4
    have g4:=Gr.same U2 s4
    have P4:=s4 _ _ hd
    have t4:=s4 _ _ p3
    have f4:=s4 _ _ f1
    generalize upd (upd H2 tk (.tup [.str g,.int (i:Nat)])) l (.lst [])=H4 at *
    refine ⟨kc,kz g i,tk,f4,rfl,hk4,by lia,fun v hv=>?_,fun hv=>?_⟩
    · obtain ⟨l',ts,x1,x2,x3,x4⟩:∃ l' ts,valV kc (kz g i)=some (.ref l')/\L1 l'/\H4 l'=some (.lst (ts.map V.ref))/\PairsAt H4 ((addC z ns g st (xs.take i)).C g i) ts:=by
        obtain ⟨kc',q1,_,_,q2⟩:=U4.c
        rw [f4] at q1
        cases q1
        rcases q2 g i with ⟨q,_⟩ | q
        · rw [hv] at q; cases q
        · exact q
      rw [hv] at x1
      cases x1
      obtain ⟨b5,U5,g5⟩:=U4.call f4 hv x3 t4
      refine ⟨.inl ⟨rfl,_,SqL.of x3⟩,_,rfl,_,rfl,d,_,rfl,p2 ▸ DGet.k (k:=.inr x) P4,l',_,_,rfl,rfl,x3,by lia,?_⟩
      refine ⟨L1,_,_,(g2.trans g4).trans g5,?_,rfl⟩
      rw [e]
      exact U5.mono (by lia)
    · obtain ⟨U5,g5⟩:=U4.call0 f4 hv hl4 nL H2 g4 fl
      have nld:l≠o.dc:=fun y=>by rw [y,f4] at hl4; cases hl4
      have hl5:upd H4 o.dc (.dT (putK kc (kz g i) (.ref l))) l=some (.lst []):=by rw [zg nld]; exact hl4
      have P5:upd H4 o.dc (.dT (putK kc (kz g i) (.ref l))) d=some (.dK kvs):=by rw [zg (fun y=>by rw [y,f4] at P4; cases P4)]; exact P4
      have t5:upd H4 o.dc (.dT (putK kc (kz g i) (.ref l))) t=some (.tup [.str z,.int ((k:Nat):Int)]):=by rw [zg (fun y=>by rw [y,f4] at t4; cases t4)]; exact t4
      have v5:valV (putK kc (kz g i) (.ref l)) (kz g i)=some (.ref l):=by rw [yQ,if_pos rfl]
      obtain ⟨b6,U6,g6⟩:=U5.call zf v5 hl5 t5
      refine ⟨.inl ⟨rfl,_,SqL.of hl5⟩,_,rfl,_,rfl,d,_,rfl,p2 ▸ DGet.k (k:=.inr x) P5,l,_,_,rfl,rfl,hl5,by show 0 < sizeLine; decide,?_⟩
      refine ⟨_,_,_,(g2.trans g5).trans g6,?_,rfl⟩
      rw [e]
      exact U6.mono (by lia)
  · rintro σ H1 ⟨L1,vj,vx,g1,U1,rfl⟩
    rw [List.length_map,List.take_of_length_le (Nat.le_refl _)] at U1
    exact q _ _ g1 U1
theorem IsU.hand {T1 T2:Addr} {H:Hp} {o:UO} {L:Addr->Prop} {st:US} {n:Nat} (h:IsU cU T1 T2 H o L st n) {kh:List (Key × V)} (hh:H o.dh=some (.dK kh)) (g:Str) (v:V) :
    IsU cU T1 T2 (upd H o.dh (.dK (putK kh (.inr g) v))) o L (hand g st) (n + 1)/\Gr T1 T2 o H L (upd H o.dh (.dK (putK kh (.inr g) v))) L:=by
  have pr:=h.pres
  obtain ⟨a,b,c,⟨kh',d1,d2,d3⟩,⟨kf,e1,e2,e3⟩,⟨kc,f1,f2,f3,f4⟩,gg,gl⟩:=h
  rw [hh] at d1
  cases d1
  have nf:∀ {b:Addr} {u:HO},H b=some u->(∀ xs,u≠.dK xs)->b≠o.dh:=fun {b u} e n y=>by rw [y,hh] at e; exact n _ (Option.some.inj e).symm
  have up:∀ b u,b≠o.dh->H b=some u->upd H o.dh (.dK (putK kh (.inr g) v)) b=some u:=fun b u n e=>by rw [zg n]; exact e
  have tp:Tups H (upd H o.dh (.dK (putK kh (.inr g) v))):=fun b ys e=>up b _ (nf e (by intro _ z; cases z)) e
  have lk:=zU kh (.inr g) v
  refine ⟨⟨up _ _ (nf a (by intro _ z; cases z)) a,⟨b.t1.keep (fun ps e=>up _ _ (nf e (by intro _ z; cases z)) e) fun c q e=>up _ _ (nf e (by intro _ z; unfold CodO at z; cases z)) e,b.t2.keep (fun ps e=>up _ _ (nf e (by intro _ z; cases z)) e) fun c q e=>up _ _ (nf e (by intro _ z; unfold CodO at z; cases z)) e⟩,c,⟨_,zf,by lia,fun z=>?_⟩,⟨kf,up _ _ (nf e1 (by intro _ z; cases z)) e1,by lia,e3⟩,⟨kc,up _ _ (nf f1 (by intro _ z; cases z)) f1,by lia,f3,fun z' k'=>(f4 z' k').imp_right fun ⟨l,ts,x1,x2,x3,x4⟩=>⟨l,ts,x1,x2,up _ _ (nf x3 (by intro _ z; cases z)) x3,x4.keep tp⟩⟩,fun z' k'=>Nat.le_succ_of_le (gg z' k'),fun b' hb'=>(gl b' hb').imp fun xs e=>up _ _ (nf e (by intro _ z; cases z)) e⟩,⟨fun b' u n' e=>up b' u (fun y=>n' (.inl y)) e,fun _ h=>h,fun _ h=>.inl h,fun b' hb'=>?_⟩⟩
  · rw [yQ]
    show _=(if z=g then true else st.hd z)
    by_cases y:z=g
    · rw [if_pos (by rw [y]),if_pos y]; rfl
    · rw [if_neg (fun w=>y (Sum.inr.inj w)),if_neg y]; exact d3 z
  · by_cases y:b'=o.dh
    · rw [y,zf]; simp
    · rw [zg y]; exact pr b' hb'
theorem inV3 (w0 a b c:Str):inV (.str w0) [.str a,.str b,.str c]=true↔(w0=a\/w0=b\/w0=c):=by
  show ((a == w0) || ((b == w0) || ((c == w0) || false)))=true↔_
  rw [Bool.or_false,Bool.or_eq_true,Bool.or_eq_true,beq_iff_eq,beq_iff_eq,beq_iff_eq]
  exact ⟨fun h=>h.imp Eq.symm (Or.imp Eq.symm Eq.symm),fun h=>h.imp Eq.symm (Or.imp Eq.symm Eq.symm)⟩
theorem scNoteD:FnScope ["uses","params","deed","name"] lS11 (zn wm):=.ok
theorem VS {T1 T2:Addr} (F:Fun K "note_deed" "note_deed" wm f fd) (N:Un K cU) (MR:Me P w K mg base CX0 1 cU "add_reason" lS2 (Ys cU T1 T2)) (MC:Me P w K mg base CX0 1 cU "add_call" lS10 (VQ cU T1 T2)):FnOk P w K mg base CX0 2 f fd lS11 (Xl cU T1 T2):=by
  refine F.by scNoteD (fun vs H Q E h=>?_) (fun cdv A outer s H vs Q E hr h=>?_)
  · obtain ⟨d,p,de,z,ns,o,L,st,n,rfl,_⟩:=h
    rfl
  obtain ⟨d,p,de,z,ns,o,L,st,n,rfl,hp,hU,hn,nd,hP,q⟩:=h
  have hr1:Room 1 _:=hr.mono (by decide)
  refine ⟨_,
    (zh (zI (tN zR (xT 2) zr)
      (zj (zG (Za (jv 0) N.cl MC hr xc (jA2 (jv 1) (jv 2)))))
      (zj (zI (wJ wb (xT 2) (zq (jA3 zr zr zr)) (by with_unfolding_all rfl))
        (zj (yd PassesOwn.never rfl (xp (xT 2)) (gN 3 scNoteD.nd)
          (zj (zG (Za (jv 0) N.cl MR hr xc (jA3 (jv 1) (jv 3) zr))))))
        zw)))
    (zh (zI (tN zR (xT 2) zr)
      (zj (zG (Za (jv 0) N.cl MR hr xc (jA3 (jv 1) (xT 2) zr))))
      zw)
    (zj (zI (tN zR (xT 2) zr)
      (zj (yK hr (yr (jv 0)) (xT 2) wV))
      zw)))),?_⟩
  have sl:=zW
  by_cases pl:∃ w0 vs,H p=some (.tup (.str w0 :: vs))/\w0≠"call"/\¬ (w0="make"\/w0="func"\/w0="ask")/\noteD z ns de st=st
  · obtain ⟨w0,vs,h1,n1,n2,en⟩:=pl
    refine ⟨_,rfl,ixT h1 aI0 ⟨rfl,_,rfl,ite2 (fun c=>absurd (V.str.inj (of_decide_eq_true c)) n1) (fun _=>⟨_,rfl,ixT h1 aI0 ⟨sN3,fun tk htk=>⟨tk,_,rfl,.inr (SqT.of zf),rfl,rfl,_,rfl,ite2 (fun c=>absurd ((inV3 _ _ _ _).mp c) n2) (fun _=>?_)⟩⟩⟩)⟩⟩
    have s1:=zk (o:=.tup [.str "make",.str "func",.str "ask"]) htk
    refine ⟨_,rfl,ixT (s1 _ _ h1) aI0 ⟨rfl,_,rfl,ite2 (fun c=>absurd (V.str.inj (of_decide_eq_true c)) (fun y=>n2 (.inr (.inr y)))) (fun _=>⟨_,rfl,ixT (s1 _ _ h1) aI0 ⟨rfl,_,rfl,ite2 (fun c=>absurd (V.str.inj (of_decide_eq_true c)) (fun y=>n2 (.inr (.inl y)))) (fun _=>?_)⟩⟩)⟩⟩
    refine q _ L (.same hU s1) ?_
    rw [en]
    exact (hU.same s1).mono (by lia)
  cases hp with
  | num h1=>exact absurd ⟨_,_,h1,by decide,by decide,rfl⟩ pl
  | op h1=>exact absurd ⟨_,_,h1,by decide,by decide,rfl⟩ pl
  | @app w0 g xs _ pq hw h1 h2 =>
    by_cases c1:w0="call"
    · subst c1
      refine ⟨_,rfl,ixT h1 aI0 ⟨rfl,_,rfl,ite2 (fun c=>?_) (fun c=>absurd (by decide) c)⟩⟩
      refine ⟨_,rfl,o.u,o.dx,_,rfl,hU.ob,rfl,_,rfl,_,rfl,d,p,pq,g,z,_,xs,ns,o,L,st,n,rfl,h1,h2,hU,by lia,nd,hP,fun H1 L1 g1 U1=>?_⟩
      have h1':=g1.tups hU _ _ h1
      refine ⟨_,rfl,ixT h1' aI0 ⟨rfl,_,rfl,ite2 aB (fun _=>⟨_,rfl,ixT h1' aI0 ⟨rfl,_,rfl,ite2 aB (fun _=>?_)⟩⟩)⟩⟩
      exact q _ L1 g1 (U1.mono (by lia))
    by_cases c2:w0="make"\/w0="func"\/w0="ask"
    · refine ⟨_,rfl,ixT h1 aI0 ⟨rfl,_,rfl,ite2 (fun c=>absurd (V.str.inj (of_decide_eq_true c)) c1) (fun _=>⟨_,rfl,ixT h1 aI0 ⟨sN3,fun tk htk=>⟨tk,_,rfl,.inr (SqT.of zf),rfl,rfl,_,rfl,ite2 (fun _=>?_) (fun c=>absurd ((inV3 _ _ _ _).mpr c2) c)⟩⟩⟩)⟩⟩
      have s1:=zk (o:=.tup [.str "make",.str "func",.str "ask"]) htk
      have g1:=Gr.same hU s1
      have U1:=hU.same s1
      generalize upd H tk (.tup [.str "make",.str "func",.str "ask"])=H1 at *
      refine ⟨_,rfl,ixT (s1 _ _ h1) aI2 ⟨_,rfl,⟨_,SqT.of (s1 _ _ h2)⟩,xB (xs:=xs.map V.str) (fun i σ H'=>∃ vx,Gr T1 T2 o H L H' L/\IsU cU T1 T2 H' o L ((xs.take i).foldl (addR z ns "put") st) (n + i)/\σ=[some (.ref o.u),some (.ref d),some (.ref p),vx]) ⟨none,g1,U1,rfl⟩ (fun i σ H' _ h=>?_) ?_ ?_⟩⟩
      · obtain ⟨_,g1,_⟩:=h
        exact SqT.of (g1.tups hU _ _ h2)
      · rintro i x σ H2 hx ⟨vx,g2,U2,rfl⟩
        rw [List.getElem?_map] at hx
        obtain ⟨x,hx0,rfl⟩:=Option.map_eq_some_iff.mp hx
        clear hx
        rename xs[i]?=some x=>hx
        have hi:=(List.getElem?_eq_some_iff.mp hx).1
        refine ⟨_,rfl,o.u,o.dx,_,rfl,U2.ob,rfl,_,rfl,_,rfl,d,x,"put",z,ns,o,L,_,n + i,rfl,U2,by lia,g2.pm hU hP nd,fun H3 g3 U3=>⟨_,g2.trans g3,?_,rfl⟩⟩
        rw [List.take_add_one,hx,List.foldl_append]
        exact U3
      rintro σ H2 ⟨vx,g2,U2,rfl⟩
      rw [List.length_map,List.take_of_length_le (Nat.le_refl _)] at U2
      have h1':=g2.tups hU _ _ h1
      have P2:=g2.pm hU hP nd
      refine ⟨_,rfl,ixT h1' aI0 ⟨rfl,_,rfl,ite2 (fun c=>?_) (fun c=>?_)⟩⟩
      · have e:w0="ask":=V.str.inj (of_decide_eq_true c)
        subst e
        refine ⟨_,rfl,o.u,o.dx,_,rfl,U2.ob,rfl,_,rfl,_,rfl,ixT h1' aI1 ⟨d,g,"asked",z,ns,o,L,_,n + xs.length,rfl,U2,by lia,P2,fun H3 g3 U3=>?_⟩⟩
        have h3':=g3.tups U2 _ _ h1'
        refine ⟨_,rfl,ixT h3' aI0 ⟨rfl,_,rfl,ite2 aB (fun _=>?_)⟩⟩
        exact q _ L (g2.trans g3) (U3.mono (by lia))
      · have n3:w0≠"ask":=fun y=>c (decide_eq_true (by rw [y]))
        refine ⟨_,rfl,ixT h1' aI0 ⟨rfl,_,rfl,ite2 (fun c=>?_) (fun c=>?_)⟩⟩
        · have e:w0="func":=V.str.inj (of_decide_eq_true c)
          subst e
          obtain ⟨kh,k1,k2,-⟩:=U2.h
          obtain ⟨U3,g3⟩:=U2.hand k1 g (.bl true)
          refine ⟨_,rfl,o.u,cU,o.dx,_,.ref o.dh,rfl,U2.ob,N.cl,N.b1,rfl,_,rfl,ixT h1' aI1 ⟨o.dh,_,rfl,DPut.k (k:=.inr g) k1 (by lia),?_⟩⟩
          exact q _ L (g2.trans g3) (U3.mono (by lia))
        · have n4:w0≠"func":=fun y=>c (decide_eq_true (by rw [y]))
          have e:w0="make":=by
            rcases c2 with y | y | y
            · exact y
            · exact absurd y n4
            · exact absurd y n3
          subst e
          exact q _ L g2 (U2.mono (by lia))
    · refine absurd ⟨_,_,h1,c1,c2,?_⟩ pl
      · exact (by
        show (if w0="call" then _ else if w0="make" then _ else if w0="func" then _ else if w0="ask" then _ else st)=st
        rw [if_neg c1,if_neg (fun y=>c2 (.inl y)),if_neg (fun y=>c2 (.inr (.inl y))),if_neg (fun y=>c2 (.inr (.inr y)))])
def noteB (z:Str) (ns:List Str) (st:US):Bd->US
  | .give x=>addR z ns "given" st x
  | .lt _ d _=>noteD z ns d st
  | .case x as=>if xh x as=true then addR z ns "anew" st x else st
  | .iff _ _ _=>st
def usesD (st:US) (d:Df):US:=d.b.all.foldl (noteB d.z d.ns) st
def zv (dfs:List Df):US:=dfs.foldl usesD US0
def cntB (dfs:List Df):Nat:=(dfs.map fun d=>d.b.all.length).sum
def Xm (cU T1 T2:Addr):Sp:=fun vs H Q _=>∃ (d p:Addr) (b:Bd) (z:Str) (ns:List Str) (o:UO) (L:Addr->Prop) (st:US) (n:Nat),vs=[.ref o.u,.ref d,.ref p]/\IsB H b p/\b.sz<=300000/\IsU cU T1 T2 H o L st n/\n + 100 < 16000000/\d≠o.dh/\Pm H d z ns/\∀ H' L',Gr T1 T2 o H L H' L'->IsU cU T1 T2 H' o L' (noteB z ns st b) (n + 90)->Q .non H'
def VT (cU T1 T2:Addr):Sp:=fun vs H Q _=>∃ (p pk pd:Addr) (ds:List Addr) (dfs:List Df),vs=[.ref p]/\H p=some (.tup [.ref pk,.ref pd])/\H pd=some (.tup (ds.map V.ref))/\IsFs H dfs ds/\(∀ d∈dfs,d.b.sz<=300000/\d.ns.length<=1000)/\90 * cntB dfs + 100 < 16000000/\Tbs T1 T2 H/\∀ H' o L,KM (MT T1 T2) H H'->IsU cU T1 T2 H' o L (zv dfs) (90 * cntB dfs)->Q (.ref o.u) H'
theorem QA:FnScope lS9 lS9 (zn wj):=.ok
theorem VU {T1 T2:Addr} (F:Fun K "note_body" "note_body" wj f fd) (N:Un K cU) (MR:Me P w K mg base CX0 1 cU "add_reason" lS2 (Ys cU T1 T2)) (GD:Ca P w K mg base CX0 2 "note_deed" lS11 (Xl cU T1 T2)) (GA:Ca P w K mg base CX0 9 "uses_anew" ["body"] (VJ T1 T2)):FnOk P w K mg base CX0 10 f fd lS9 (Xm cU T1 T2):=by
  refine F.by QA (fun vs H Q E h=>?_) (fun cdv A outer s H vs Q E hr h=>?_)
  · obtain ⟨d,p,b,z,ns,o,L,st,n,rfl,_⟩:=h
    rfl
  obtain ⟨d,p,b,z,ns,o,L,st,n,rfl,hb,hz,hU,hn,nd,hP,q⟩:=h
  have hr9:Room 9 _:=hr.mono (by decide)
  have hr2:Room 2 _:=hr.mono (by decide)
  have hr1:Room 1 _:=hr.mono (by decide)
  refine ⟨_,
    (zj (zI (tN zR (xT 2) zr)
      (zj (zG (Za (jv 0) N.cl MR hr1 xc (jA3 (jv 1) (xT 2) zr))))
      (zj (zI (tN zR (xT 2) zr)
        (zj (zG (cA GD hr2 (jA3 (jv 0) (jv 1) (xT 2)))))
        (zj (zI (jW.pt (WE (tN zR (xT 2) zr) (WE (jM hr1 (xT 2) (jv 1)) (JS (Z8 (cA GA hr9 (jA1 (jv 2))))))))
          (zj (zG (Za (jv 0) N.cl MR hr1 xc (jA3 (jv 1) (xT 2) zr))))
          zw)))))),?_⟩
  have sl:=zW
  cases hb with
  | @give x _ hp =>
    refine ⟨_,rfl,ixT hp aI0 ⟨rfl,_,rfl,ite2 (fun c=>?_) (fun c=>absurd (by decide) c)⟩⟩
    refine ⟨_,rfl,o.u,o.dx,_,rfl,hU.ob,rfl,_,rfl,_,rfl,ixT hp aI1 ⟨d,x,"given",z,ns,o,L,_,n,rfl,hU,by lia,hP,fun H3 g3 U3=>?_⟩⟩
    exact q _ L g3 (U3.mono (by lia))
  | @lt x de b _ q1 r1 hp hd hb1 =>
    refine ⟨_,rfl,ixT hp aI0 ⟨rfl,_,rfl,ite2 aB (fun _=>⟨_,rfl,ixT hp aI0 ⟨rfl,_,rfl,ite2 (fun c=>?_) (fun c=>absurd (by decide) c)⟩⟩)⟩⟩
    refine ⟨_,rfl,_,rfl,_,rfl,ixT hp aI2 ⟨d,q1,de,z,ns,o,L,st,n,rfl,hd,hU,by lia,nd,hP,fun H' L' g U=>?_⟩⟩
    exact q _ L' g U
  | iff hp _ _ =>
    refine ⟨_,rfl,ixT hp aI0 ⟨rfl,_,rfl,ite2 aB (fun _=>⟨_,rfl,ixT hp aI0 ⟨rfl,_,rfl,ite2 aB (fun _=>⟨_,rfl,ixT hp aI0 ⟨rfl,_,rfl,ite2 aB (fun _=>?_)⟩⟩)⟩⟩)⟩⟩
    exact q _ L (.refl hU.pres) (hU.mono (by lia))
  | @case x as ps _ q1 hp hq1 hl0 hA =>
    have hb:=IsB.case hp hq1 hl0 hA
    have az:as.sz<=300000:=by unfold Bd.sz at hz; lia
    refine ⟨_,rfl,ixT hp aI0 ⟨rfl,_,rfl,ite2 aB (fun _=>⟨_,rfl,ixT hp aI0 ⟨rfl,_,rfl,ite2 aB (fun _=>⟨_,rfl,ixT hp aI0 ⟨rfl,_,rfl,ite2 (fun _=>?_) (fun c=>absurd (by decide) c)⟩⟩)⟩⟩)⟩⟩
    have hP':=hP
    obtain ⟨kvs,hd,hk⟩:=hP'
    refine ⟨_,rfl,ixT hp aI1 ⟨_,rfl,d,_,rfl,DGet.k (k:=.inr x) hd,_,rfl,?_⟩⟩
    rcases hk x with ⟨p1,p2⟩ | ⟨k,t,p1,p2,p3⟩
    · rw [p2]
      refine ite2 aB (fun _=>?_)
      have e:noteB z ns st (.case x as)=st:=by
        show (if xh x as=true then addR z ns "anew" st x else st)=st
        unfold addR
        rw [p1]
        split <;> rfl
      rw [e] at q
      exact q _ L (.refl hU.pres) (hU.mono (by lia))
    rw [p2]
    refine ite2 (fun _=>?_) (fun c=>absurd rfl c)
    refine ⟨_,rfl,p,x,as,rfl,hb,az,hU.tb,fun H1 k1 T1'=>⟨_,rfl,?_⟩⟩
    have U1:=hU.keep T1' k1
    have g1:Gr T1 T2 o H L H1 L:=⟨fun b u n e=>k1 b u (fun y=>n (.inr (.inr (.inr (.inr y))))) e,fun _ h=>h,fun _ h=>.inl h,U1.pres⟩
    by_cases ca:xh x as=true
    · rw [ca]
      refine iteT ?_
      refine ⟨_,rfl,o.u,o.dx,_,rfl,U1.ob,rfl,_,rfl,_,rfl,ixT (g1.tups hU _ _ hp) aI1 ⟨d,x,"anew",z,ns,o,L,_,n,rfl,U1,by lia,g1.pm hU hP nd,fun H3 g3 U3=>?_⟩⟩
      refine q _ L (g1.trans g3) ?_
      rw [show noteB z ns st (.case x as)=addR z ns "anew" st x from if_pos ca]
      exact U3.mono (by lia)
    · have ca:xh x as=false:=by simpa using ca
      rw [ca]
      refine iteF ?_
      refine q _ L g1 ?_
      rw [show noteB z ns st (.case x as)=st from if_neg (by rw [ca]; decide)]
      exact U1.mono (by lia)
mutual
theorem Bd.all_sz:∀ (b:Bd) {c:Bd},c∈b.all->c.sz<=b.sz
  | .give x,c,h=>by unfold Bd.all at h; rw [List.mem_singleton.mp h]; exact Nat.le_refl _
  | .lt x d b,c,h=>by
    unfold Bd.all at h
    rcases List.mem_cons.mp h with h | h
    · rw [h]; exact Nat.le_refl _
    · have:=Bd.all_sz b h; show _<=Bd.sz (.lt x d b); rw [Bd.sz]; lia
  | .iff x a b,c,h=>by
    unfold Bd.all at h
    rcases List.mem_cons.mp h with h | h
    · rw [h]; exact Nat.le_refl _
    · show _<=Bd.sz (.iff x a b)
      rw [Bd.sz]
      rcases List.mem_append.mp h with h | h
      · have:=Bd.all_sz a h; lia
      · have:=Bd.all_sz b h; lia
  | .case x as,c,h=>by
    unfold Bd.all at h
    rcases List.mem_cons.mp h with h | h
    · rw [h]; exact Nat.le_refl _
    · have:=Arms.all_sz as h; show _<=Bd.sz (.case x as); rw [Bd.sz]; lia
theorem Arms.all_sz:∀ (a:Arms) {c:Bd},c∈a.all->c.sz<=a.sz
  | .nil,c,h=>by unfold Arms.all at h; cases h
  | .cons t ns b r,c,h=>by
    unfold Arms.all at h
    rw [Arms.sz]
    rcases List.mem_append.mp h with h | h
    · have:=Bd.all_sz b h; lia
    · have:=Arms.all_sz r h; lia
end
theorem X6 {l:List Df} {i:Nat} {d:Df} (h:l[i]?=some d):cntB (l.take (i + 1))=cntB (l.take i) + d.b.all.length:=by
  unfold cntB
  rw [List.take_add_one,h,List.map_append,List.sum_append]
  show _ + (_ + 0)=_
  rw [Nat.add_zero]
theorem QB (l:List Df) (i:Nat):cntB (l.take i)<=cntB l:=by
  conv=>rhs; rw [<- List.take_append_drop i l]
  unfold cntB
  rw [List.map_append,List.sum_append]
  exact Nat.le_add_right _ _
theorem scAllU:FnScope ["program","uses","one","params","k","param","body"] ["program"] (zn vk):=.ok
theorem QC {T1 T2:Addr} (F:Fun K "all_uses" "all_uses" vk f fd) (N:Un K cU) (GM:Ma P w K mg base CX0 1 "Uses" cU ["self"] (Xk cU)) (GI:Ca P w K mg base CX0 3 "bodies_in" ["body"] VH) (GB:Ca P w K mg base CX0 10 "note_body" lS9 (Xm cU T1 T2)) (m_enumerate:mg "enumerate"=none):FnOk P w K mg base CX0 11 f fd ["program"] (VT cU T1 T2):=by
  refine F.by scAllU (fun vs H Q E h=>?_) (fun cdv A outer s H vs Q E hr h=>?_)
  · obtain ⟨p,pk,pd,ds,dfs,rfl,_⟩:=h
    rfl
  obtain ⟨p,pk,pd,ds,dfs,rfl,hp,hpd,hF,hok,hc,hT,q⟩:=h
  have hr10:Room 10 _:=hr.mono (by decide)
  have hr3:Room 3 _:=hr.mono (by decide)
  have hr2:Room 2 _:=hr.mono (by decide)
  have hr1:Room 1 _:=hr.mono (by decide)
  refine ⟨_,
    (zh (sE 1 scAllU.nd (zbk GM hr2 rfl xc))
    (zh (yd PassesOwn.never rfl (xp (xT 0)) (gN 2 scAllU.nd)
      (zh (sE 3 scAllU.nd xE)
      (zh (yd PassesOwn.never rfl (Zr rfl m_enumerate (jA1 (xT 2))) (jo rfl (yw (gN 4 scAllU.nd) (yw (gN 5 scAllU.nd) wK)))
        (zj (yK hr1 (jv 3) (jv 5) (zq (jA2 (xT 2) (jv 4))))))
      (zj (yd PassesOwn.never rfl (yi (cA GI hr3 (jA1 (xT 2)))) (gN 6 scAllU.nd)
        (zj (zG (cA GB hr10 (jA3 (jv 1) (jv 3) (jv 6))))))))))
    (zj (zu (jv 1))))),?_⟩
  have sl:=zW
  intro x dx hx hdx ndx
  have s0:Same H (upd (upd H dx (.own x)) x (.ins cU dx [])):=Same.put (zk hdx _) hx
  refine ⟨x,dx,rfl,zf,fun H1 dh df dc k1 e1 e2 e3 n1 n2 n3 g1 g2 g3 g4=>⟨rfl,?_⟩⟩
  have s1:Same H H1:=fun b u e=>k1 b u (zi e hx) (s0 b u e)
  have f1:=s0.free e1
  have f2:=s0.free e2
  have f3:=s0.free e3
  obtain ⟨o,eo⟩:∃ o:UO,o=⟨x,dx,dh,df,dc⟩:=⟨_,rfl⟩
  have U1:IsU cU T1 T2 H1 o (fun _=>False) US0 0:=by
    subst eo
    exact ⟨g4,hT.same s1,n1,⟨[],g1,Nat.le_refl _,fun z=>rfl⟩,⟨[],g2,Nat.le_refl _,fun z k=>rfl⟩,⟨[],g3,Nat.le_refl _,(fun z k z' k' l h=>by cases h),(fun z k=>.inl ⟨rfl,rfl⟩)⟩,fun z k=>Nat.le_refl 0,fun b h=>h.elim⟩
  have ex:x=o.u:=by rw [eo]
  have fo:∀ b,b=o.dh\/b=o.df\/b=o.dc->H b=none:=by
    rw [eo]
    rintro b (y | y | y)
    · rw [y]; exact f1
    · rw [y]; exact f2
    · rw [y]; exact f3
  clear eo
  subst ex
  refine ⟨_,rfl,ixT (s1 _ _ hp) aI1 ⟨pd,rfl,⟨_,SqT.of (s1 _ _ hpd)⟩,xB (xs:=ds.map V.ref) (fun i σ H'=>∃ L' va vb vc vd ve,Gr T1 T2 o H1 (fun _=>False) H' L'/\IsU cU T1 T2 H' o L' ((dfs.take i).foldl usesD US0) (90 * cntB (dfs.take i))/\σ=[some (.ref p),some (.ref o.u),va,vb,vc,vd,ve]) ⟨_,none,none,none,none,none,.refl U1.pres,U1,rfl⟩ (fun i σ H' _ h=>?_) ?_ ?_⟩⟩
  · obtain ⟨L',_,_,_,_,_,g,_⟩:=h
    exact SqT.of (g.tups U1 _ _ (s1 _ _ hpd))
  · rintro i v σ H2 hv ⟨L2,va,vb,vc,vd,ve,g2,U2,rfl⟩
    rw [List.getElem?_map] at hv
    obtain ⟨t,ht,rfl⟩:=Option.map_eq_some_iff.mp hv
    obtain ⟨d,hd,hFd⟩:=hF.get ht
    obtain ⟨qn,pb,e1,e2,e3⟩:=((hFd.keep (.of s1)).keep (g2.tups U1)).ex
    obtain ⟨hsz,hns⟩:=hok d (List.mem_of_getElem? hd)
    have cs:=X6 hd
    have cl:=QB dfs (i + 1)
    intro dp hdp
    have s3:=zk (o:=.dK []) hdp
    refine ⟨_,rfl,ixT (s3 _ _ e1) aI1 ⟨qn,rfl,⟨_,SqT.of (s3 _ _ e2)⟩,v0 (xs:=d.ns.map V.str) (fun j σ H'=>∃ va vb,Same H2 H'/\Pm H' dp d.z (d.ns.take j)/\(∃ kvs,H' dp=some (.dK kvs)/\kvs.length<=j)/\σ=[some (.ref p),some (.ref o.u),some (.ref t),some (.ref dp),va,vb,ve]) ⟨_,_,s3,⟨[],zf,fun x=>.inl ⟨rfl,rfl⟩⟩,⟨[],zf,Nat.le_refl _⟩,rfl⟩ (fun j σ H' _ h=>?_) ?_ ?_⟩⟩
    · obtain ⟨_,_,s,_⟩:=h
      exact SqT.of (s _ _ e2)
    · rintro j x T σ H4 hx hT ⟨va,vb,s4,P4,⟨kvs,hk1,hk2⟩,rfl⟩
      rw [List.getElem?_map] at hx
      obtain ⟨x,hx0,rfl⟩:=Option.map_eq_some_iff.mp hx
      have hj:=(List.getElem?_eq_some_iff.mp hx0).1
      have s5:=s4.new (o:=.tup [.int (j:Nat),.str x]) hT
      have hT5:=zf (H:=H4) (a:=T) (o:=.tup [.int (j:Nat),.str x])
      have s45:=zk (o:=.tup [.int (j:Nat),.str x]) hT
      refine ⟨T,_,rfl,SqT.of hT5,rfl,_,_,rfl,_,_,rfl,rfl,?_⟩
      generalize upd H4 T (.tup [.int (j:Nat),.str x])=H5 at *
      refine ⟨_,rfl,ixT (s5 _ _ e1) aI0 ⟨_,rfl,sN2,fun t2 ht2=>?_⟩⟩
      have s6:=s5.new (o:=.tup [.str d.z,.int (j:Nat)]) ht2
      have ht6:=zf (H:=H5) (a:=t2) (o:=.tup [.str d.z,.int (j:Nat)])
      have s46:=s45.new (o:=.tup [.str d.z,.int (j:Nat)]) ht2
      generalize upd H5 t2 (.tup [.str d.z,.int (j:Nat)])=H6 at *
      have hk6:=s46 _ _ hk1
      refine ⟨_,rfl,_,rfl,dp,_,rfl,DPut.k (k:=.inr x) hk6 (by lia),?_⟩
      have s7:=s6.put (o:=.dK (putK kvs (.inr x) (.ref t2))) hdp
      have tp:Tups H6 (upd H6 dp (.dK (putK kvs (.inr x) (.ref t2)))):=fun b xs e=>by rw [zg (fun y=>by rw [y,hk6] at e; cases e)]; exact e
      have lk:=zU kvs (.inr x) (.ref t2)
      refine ⟨_,_,s7,⟨_,zf,fun y=>?_⟩,⟨_,zf,by lia⟩,rfl⟩
      obtain ⟨kvs',z1,z2⟩:=P4
      rw [hk1] at z1
      cases z1
      have et:d.ns.take (j + 1)=d.ns.take j ++ [x]:=by rw [List.take_add_one,hx0]; rfl
      rw [et,VP,yQ]
      by_cases y':x=y
      · subst y'
        refine .inr ⟨j,t2,?_,by rw [if_pos rfl],tp _ _ ht6⟩
        rw [if_pos rfl,List.length_take,Nat.min_eq_left (by lia)]
      · rw [if_neg y',if_neg (fun w=>y' (Sum.inr.inj w).symm)]
        exact (z2 y).imp_right fun ⟨k,t',a,b,c⟩=>⟨k,t',a,b,tp _ _ (s46 _ _ c)⟩
    rintro σ H3 ⟨va,vb,s4,P4,_,rfl⟩
    rw [List.length_map,List.take_of_length_le (Nat.le_refl _)] at P4
    have U3:=U2.same s4
    have g3:=g2.trans (.same U2 s4)
    have ndh:dp≠o.dh:=fun y=>by
      obtain ⟨_,e,_⟩:=U2.h
      rw [<- y,hdp] at e
      cases e
    refine ⟨_,rfl,ixT (s4 _ _ e1) aI2 ⟨pb,d.b,rfl,e3.keep (.of s4),by lia,fun H4 r ps s5 hr0 hr4 hbs=>?_⟩⟩
    have U4:=U3.same s5
    have g4:=g3.trans (.same U3 s5)
    have P5:Pm H4 dp d.z d.ns:=P4.keep (fun kvs e=>s5 _ _ e) (.of s5)
    have nr:¬ Ow T1 T2 o L2 r:=fun y=>U3.pres r y hr0
    have al:=All2.len hbs
    refine ⟨r,rfl,⟨_,SqL.of hr4⟩,yN (xs:=ps.map V.ref) (fun j σ H'=>∃ L' vb',Gr T1 T2 o H4 L2 H' L'/\IsU cU T1 T2 H' o L' ((d.b.all.take j).foldl (noteB d.z d.ns) ((dfs.take i).foldl usesD US0)) (90 * cntB (dfs.take i) + 90 * j)/\σ=[some (.ref p),some (.ref o.u),some (.ref t),some (.ref dp),va,vb,vb']) ⟨_,_,.refl U4.pres,U4,rfl⟩ (fun j σ H' _ h=>?_) ?_ ?_⟩
    · obtain ⟨_,_,g,_⟩:=h
      exact SqL.of (g.k _ _ nr hr4)
    · rintro j v σ H5 hv ⟨L5,vb',g5,U5,rfl⟩
      rw [List.getElem?_map] at hv
      obtain ⟨pw,hpw,rfl⟩:=Option.map_eq_some_iff.mp hv
      obtain ⟨b1,b2,b3⟩:=All2.get hbs hpw
      have hj:=(List.getElem?_eq_some_iff.mp b2).1
      have bz:=Bd.all_sz d.b (List.mem_of_getElem? b2)
      refine ⟨_,rfl,_,rfl,_,rfl,dp,pw,b1,d.z,d.ns,o,L5,_,_,rfl,b3.keep (g5.tups U4),by lia,U5,by lia,ndh,g5.pm U4 P5 ndh,fun H6 L6 g6 U6=>⟨_,_,g5.trans g6,?_,rfl⟩⟩
      rw [List.take_add_one,b2,List.foldl_append]
      exact U6.mono (by lia)
    rintro σ H5 ⟨L5,vb',g5,U5,rfl⟩
    rw [List.length_map,<- al,List.take_of_length_le (Nat.le_refl _)] at U5
    refine ⟨_,_,_,_,_,_,g4.trans g5,?_,rfl⟩
    rw [List.take_add_one,hd,List.foldl_append] at *
    rw [cs]
    exact U5.mono (by lia)
  rintro σ H2 ⟨L2,va,vb,vc,vd,ve,g2,U2,rfl⟩
  rw [List.length_map,<- hF.len,List.take_of_length_le (Nat.le_refl _)] at U2
  refine ⟨_,rfl,q H2 o L2 (fun b u n e=>g2.k b u (fun y=>?_) (s1 _ _ e)) U2⟩
  rcases y with y | y | y | y | y
  · rw [fo b (.inl y)] at e; cases e
  · rw [fo b (.inr (.inl y))] at e; cases e
  · rw [fo b (.inr (.inr y))] at e; cases e
  · exact y
  · exact n y
end
inductive Why where
  | own (r:Str)
  | called (g:Str) (j:Nat)
structure Rw where
  z:Str
  k:Nat
  y:Why
def Rw.key (r:Rw):Str × Nat:=(r.z,r.k)
def YAt (H:Hp) (q:Addr):Why->Prop
  | .own r=>H q=some (.tup [.str r])
  | .called g j=>H q=some (.tup [.str "called",.str g,.int ((j:Nat):Int)])
theorem YAt.keep {H H':Hp} {q:Addr} {y:Why} (h:YAt H q y) (t:Tups H H'):YAt H' q y:=by
  cases y with
  | own r=>exact t _ _ h
  | called g j=>exact t _ _ h
def RowsAt (H:Hp) (rows:List Rw) (ps:List Addr):Prop:=All2 (fun (r:Rw) t=>∃ q,H t=some (.tup [.str r.z,.int ((r.k:Nat):Int),.ref q])/\YAt H q r.y) rows ps
theorem RowsAt.keep {H H':Hp} {rows:List Rw} {ps:List Addr} (h:RowsAt H rows ps) (t:Tups H H'):RowsAt H' rows ps:=All2.imp h fun _ _ ⟨q,a,b⟩=>⟨q,t _ _ a,b.keep t⟩
def rsn (st:US) (z:Str) (k:Nat):Str:=if st.hd z=true then "handed" else (st.F z k).getD ""
def own1 (st:US) (z:Str) (k:Nat):List Rw:=if rsn st z k≠"" then [⟨z,k,.own (rsn st z k)⟩] else []
def ownD (st:US) (d:Df):List Rw:=(List.range d.ns.length).flatMap (own1 st d.z)
def ownR (st:US) (dfs:List Df):List Rw:=dfs.flatMap (ownD st)
def zD (g:Str) (j:Nat) (rows:List Rw) (c:Str × Nat):List Rw:=if c∈rows.map Rw.key then rows else rows ++ [⟨c.1,c.2,.called g j⟩]
def xb (st:US) (rows:List Rw) (r:Rw):List Rw:=(st.C r.z r.k).foldl (zD r.z r.k) rows
def runR (st:US):Nat->Nat->List Rw->List Rw
  | 0,_,rows=>rows
  | f + 1,a,rows=>match rows[a]? with
    | none=>rows
    | some r=>runR st f (a + 1) (xb st rows r)
def cand (dfs:List Df):List (Str × Nat):=dfs.flatMap fun d=>(List.range d.ns.length).map fun k=>(d.z,k)
def unk (cs:List (Str × Nat)) (rows:List Rw):Nat:=(cs.filter fun c=>decide (c ∉ rows.map Rw.key)).length
def zt (dfs:List Df):List Rw:=runR (zv dfs) (unk (cand dfs) (ownR (zv dfs) dfs) + (ownR (zv dfs) dfs).length) 0 (ownR (zv dfs) dfs)
theorem QD (cs:List (Str × Nat)) (rows:List Rw) (r:Rw) (h1:r.key∈cs) (h2:r.key ∉ rows.map Rw.key):unk cs (rows ++ [r]) + 1<=unk cs rows:=by
  unfold unk
  induction cs with
  | nil=>cases h1
  | cons c cs ih =>
    have mono:(cs.filter fun c=>decide (c ∉ (rows ++ [r]).map Rw.key)).length<=(cs.filter fun c=>decide (c ∉ rows.map Rw.key)).length:=by
      clear ih h1
      induction cs with
      | nil=>exact Nat.le_refl _
      | cons c' cs ih =>
        rw [List.filter_cons,List.filter_cons]
        by_cases a:c'∈rows.map Rw.key
        · rw [if_neg (by simp only [decide_eq_true_eq,Classical.not_not]; rw [List.map_append]; exact List.mem_append_left _ a),if_neg (by simp only [decide_eq_true_eq,Classical.not_not]; exact a)]
          exact ih
        · rw [if_pos (c:=decide (c' ∉ rows.map Rw.key)=true) (decide_eq_true a)]
          split
          · rw [List.length_cons,List.length_cons]; lia
          · rw [List.length_cons]; lia
    rw [List.filter_cons,List.filter_cons]
    by_cases a:c=r.key
    · rw [if_neg (by simp only [decide_eq_true_eq,Classical.not_not]; rw [List.map_append,a]; exact List.mem_append_right _ (List.mem_singleton.mpr rfl)),if_pos (by rw [a]; exact decide_eq_true h2),List.length_cons]
      lia
    · have h1:r.key∈cs:=by
        rcases List.mem_cons.mp h1 with h | h
        · exact absurd h.symm a
        · exact h
      have ih:=ih h1
      by_cases b:c∈rows.map Rw.key
      · rw [if_neg (by simp only [decide_eq_true_eq,Classical.not_not]; rw [List.map_append]; exact List.mem_append_left _ b),if_neg (by simp only [decide_eq_true_eq,Classical.not_not]; exact b)]
        exact ih
      · rw [if_pos (c:=decide (c ∉ rows.map Rw.key)=true) (decide_eq_true b),if_pos (by rw [decide_eq_true_eq,List.map_append]; intro h; rcases List.mem_append.mp h with h | h; exact b h; exact a (List.mem_singleton.mp h))]
        rw [List.length_cons,List.length_cons]
        lia
theorem Yt {cs:List (Str × Nat)} {rows:List Rw} {g:Str} {j:Nat} {c:Str × Nat} (h:c∈cs):(zD g j rows c).length + unk cs (zD g j rows c)<=rows.length + unk cs rows/\rows.length<=(zD g j rows c).length:=by
  unfold zD
  split
  · exact ⟨Nat.le_refl _,Nat.le_refl _⟩
  · rename_i n
    have:=QD cs rows ⟨c.1,c.2,.called g j⟩ h n
    rw [List.length_append]
    exact ⟨by show _ + 1 + _<=_; lia,Nat.le_add_right _ _⟩
theorem yS {cs:List (Str × Nat)} {g:Str} {j:Nat}:∀ {l:List (Str × Nat)} {rows:List Rw},(∀ c∈l,c∈cs)->(l.foldl (zD g j) rows).length + unk cs (l.foldl (zD g j) rows)<=rows.length + unk cs rows/\rows.length<=(l.foldl (zD g j) rows).length
  | [],rows,_=>⟨Nat.le_refl _,Nat.le_refl _⟩
  | c :: l,rows,h=>by
    have a:=Yt (rows:=rows) (g:=g) (j:=j) (h c List.mem_cons_self)
    have b:=yS (l:=l) (rows:=zD g j rows c) (g:=g) (j:=j) fun c' h'=>h c' (List.mem_cons_of_mem _ h')
    rw [List.foldl_cons]
    exact ⟨by lia,by lia⟩
theorem VV (cs:List (Str × Nat)) (rows:List Rw):unk cs rows<=cs.length:=List.length_filter_le ..
def Cin (dfs:List (Str × Nat)) (st:US):Prop:=∀ z k,∀ c∈st.C z k,c∈dfs
section
variable {cs:List (Str × Nat)} {st:US} {z:Str} {ns:List Str}
theorem Cin.addR (h:Cin cs st) {r x:Str}:Cin cs (addR z ns r st x):=by
  unfold GN.addR
  split
  · exact h
  · exact h
theorem Cin.addRs:∀ {xs:List Str} {st:US} {r:Str},Cin cs st->Cin cs (xs.foldl (GN.addR z ns r) st)
  | [],_,_,h=>h
  | x :: xs,st,r,h=>Cin.addRs (xs:=xs) (Cin.addR h)
theorem Cin.addC1 (hz:∀ k,k < ns.length->(z,k)∈cs) (h:Cin cs st) {g x:Str} {j:Nat}:Cin cs (addC1 z ns g j st x):=by
  unfold GN.addC1
  split
  · exact h
  · rename_i k e
    intro z' k' c hc
    replace hc:c∈(if z'=g/\k'=j then st.C z' k' ++ [(z,k)] else st.C z' k'):=hc
    split at hc
    · rcases List.mem_append.mp hc with hc | hc
      · exact h _ _ _ hc
      · rw [List.mem_singleton.mp hc]; exact hz k (zbx e)
    · exact h _ _ _ hc
theorem Cin.addC (hz:∀ k,k < ns.length->(z,k)∈cs) {g:Str} (xs:List Str) (h:Cin cs st):Cin cs (addC z ns g st xs):=by
  unfold GN.addC
  generalize xs.zipIdx=l
  induction l generalizing st with
  | nil=>exact h
  | cons a l ih=>exact ih (Cin.addC1 hz h)
theorem Cin.noteD (hz:∀ k,k < ns.length->(z,k)∈cs) (h:Cin cs st) (d:De):Cin cs (noteD z ns d st):=by
  cases d with
  | num i=>exact h
  | op w a b=>exact h
  | app w f xs =>
    show Cin cs (if w="call" then _ else if w="make" then _ else if w="func" then _ else if w="ask" then _ else st)
    split
    · exact Cin.addC hz xs h
    split
    · exact Cin.addRs h
    split
    · exact Cin.addRs (xs:=xs) (r:="put") h
    split
    · exact Cin.addR (Cin.addRs h)
    · exact h
theorem Cin.noteB (hz:∀ k,k < ns.length->(z,k)∈cs) (h:Cin cs st) (b:Bd):Cin cs (noteB z ns st b):=by
  cases b with
  | give x=>exact Cin.addR h
  | lt x d b=>exact Cin.noteD hz h d
  | iff x a b=>exact h
  | case x as =>
    show Cin cs (if xh x as=true then GN.addR z ns "anew" st x else st)
    split
    · exact Cin.addR h
    · exact h
theorem Cin.noteBs (hz:∀ k,k < ns.length->(z,k)∈cs):∀ (l:List Bd) {st:US},Cin cs st->Cin cs (l.foldl (GN.noteB z ns) st)
  | [],_,h=>h
  | b :: l,st,h=>Cin.noteBs hz l (Cin.noteB hz h b)
theorem Cin.usesD:∀ (l:List Df) {st:US},(∀ d∈l,∀ k,k < d.ns.length->(d.z,k)∈cs)->Cin cs st->Cin cs (l.foldl usesD st)
  | [],_,_,h=>h
  | d :: l,st,hz,h=>Cin.usesD l (fun d' h'=>hz d' (List.mem_cons_of_mem _ h')) (Cin.noteBs (hz d List.mem_cons_self) _ h)
theorem Cin.of (dfs:List Df):Cin (cand dfs) (zv dfs):=by
  refine Cin.usesD dfs (fun d hd k hk=>?_) (fun z k c h=>by cases h)
  unfold cand
  exact List.mem_flatMap.mpr ⟨d,hd,List.mem_map.mpr ⟨k,List.mem_range.mpr hk,rfl⟩⟩
end
def zak (cU T1 T2:Addr):Sp:=fun vs H Q _=>∃ (p pk pd:Addr) (ds:List Addr) (dfs:List Df) (o:UO) (L:Addr->Prop) (st:US) (n:Nat),vs=[.ref p,.ref o.u]/\H p=some (.tup [.ref pk,.ref pd])/\H pd=some (.tup (ds.map V.ref))/\IsFs H dfs ds/\(cand dfs).length<=100000/\IsU cU T1 T2 H o L st n/\∀ H' r ps,Same H H'->H r=none->H' r=some (.lst (ps.map V.ref))->RowsAt H' (ownR st dfs) ps->Q (.ref r) H'
theorem VW (st:US) (z:Str) (k:Nat):(own1 st z k).length<=1:=by
  unfold own1
  split
  · exact Nat.le_refl _
  · exact Nat.zero_le _
theorem QE {c:Prop} [Decidable c] {ta tb:TE} {σ:St} {H:Hp} {Q:VK} {R:V->Hp->Prop} (a:c->∀ Q:VK,(∀ v H',R v H'->Q v H')->ta σ H Q) (b:¬ c->∀ Q:VK,(∀ v H',R v H'->Q v H')->tb σ H Q) (fin:∀ v H',R v H'->Q v H'):if c then ta σ H Q else tb σ H Q:=by
  split
  · rename_i h; exact a h _ fin
  · rename_i h; exact b h _ fin
theorem vA (st:US) (z:Str):∀ n:Nat,((List.range n).flatMap (own1 st z)).length<=n
  | 0=>Nat.le_refl _
  | n + 1=>by
    rw [List.range_succ,List.flatMap_append,List.length_append]
    have:=vA st z n
    have:=VW st z n
    simp only [List.flatMap_cons,List.flatMap_nil,List.append_nil]
    lia
theorem xK (st:US):∀ dfs:List Df,(ownR st dfs).length<=(cand dfs).length
  | []=>Nat.le_refl _
  | d :: l=>by
    have a:=xK st l
    have b:=vA st d.z d.ns.length
    unfold ownR cand at a ⊢
    rw [List.flatMap_cons,List.flatMap_cons,List.length_append,List.length_append,List.length_map,List.length_range]
    unfold ownD
    unfold ownD at a
    lia
theorem X7 (dfs:List Df) {i:Nat} {d:Df} (h:dfs[i]?=some d):(cand (dfs.take i)).length + d.ns.length<=(cand dfs).length:=by
  have e:cand dfs=cand (dfs.take i) ++ cand (dfs.drop i):=by unfold cand; rw [<- List.flatMap_append,List.take_append_drop]
  have e2:dfs.drop i=d :: dfs.drop (i + 1):=by
    obtain ⟨hi,rfl⟩:=List.getElem?_eq_some_iff.mp h
    exact List.drop_eq_getElem_cons hi
  rw [e,List.length_append,e2]
  unfold cand
  rw [List.flatMap_cons,List.length_append,List.length_map,List.length_range]
  lia
section
variable {P:Program} {w:World} {K:PySem.W.Frag} {mg:Str->Option Value} {base:Heap} {f cU:Addr} {fd:FuncData}
theorem scOwn:FnScope ["program","uses","rows","one","k","reason"] ["program","uses"] (zn vg):=.ok
theorem zbz {T1 T2:Addr} (F:Fun K "own_rows" "own_rows" vg f fd) (N:Un K cU) (m_range:mg "range"=none) (m_len:mg "len"=none):FnOk P w K mg base CX0 1 f fd ["program","uses"] (zak cU T1 T2):=by
  refine F.by scOwn (fun vs H Q E h=>?_) (fun cdv A outer s H vs Q E hr h=>?_)
  · obtain ⟨p,pk,pd,ds,dfs,o,L,st,n,rfl,_⟩:=h
    rfl
  obtain ⟨p,pk,pd,ds,dfs,o,L,st,n,rfl,hp,hpd,hF,hcl,hU,q⟩:=h
  refine ⟨_,
    (zh (sE 2 scOwn.nd (yc zS))
    (zh (yd PassesOwn.never rfl (xp (xT 0)) (gN 3 scOwn.nd)
      (zj (yd PassesOwn.never rfl (zM rfl m_range (jA1 (jL m_len (xT 3)))) (gN 4 scOwn.nd)
        (zh (sE 5 scOwn.nd (j7 (jM hr (xT 3) (yr (jv 1))) zr (vv hr (yr (jv 1)) (zq (jA2 (xT 3) (jv 4))) zr)))
        (zj (zI (tN zaa (jv 5) zr)
          (zj (zG (y9 PySem.F.plainAttrs_list PySem.F.slot_list_append PySem.F.type_list_append zY (jv 2) (jA1 (zq (jA3 (xT 3) (jv 4) (zq (jA1 (jv 5)))))))))
          zw))))))
    (zj (zu (jv 2))))),?_⟩
  have sl:=zW
  refine ⟨sN0,fun r hr0=>?_⟩
  have s1:=zk (o:=.lst []) hr0
  refine ⟨_,rfl,ixT (s1 _ _ hp) aI1 ⟨pd,rfl,⟨_,SqT.of (s1 _ _ hpd)⟩,xB (xs:=ds.map V.ref) (fun i σ H'=>∃ va vb vc,∃ ps:List Addr,Same H H'/\H' r=some (.lst (ps.map V.ref))/\RowsAt H' (ownR st (dfs.take i)) ps/\σ=[some (.ref p),some (.ref o.u),some (.ref r),va,vb,vc]) ⟨none,none,none,[],s1,zf,.nil,rfl⟩ (fun i σ H' _ h=>?_) ?_ ?_⟩⟩
  · obtain ⟨_,_,_,_,s,_⟩:=h
    exact SqT.of (s _ _ hpd)
  · rintro i v σ H2 hv ⟨va,vb,vc,ps,s2,hr2,hR,rfl⟩
    rw [List.getElem?_map] at hv
    obtain ⟨t,ht,rfl⟩:=Option.map_eq_some_iff.mp hv
    obtain ⟨d,hd,hFd⟩:=hF.get ht
    obtain ⟨qn,pb,e1,e2,-⟩:=hFd.ex
    have c1:=X7 dfs hd
    have c2:=xK st (dfs.take i)
    refine ⟨_,rfl,ixT (s2 _ _ e1) aI1 ⟨qn,_,rfl,.inr (SqT.of (s2 _ _ e2)),_,rfl,by lia,by rw [List.length_map]; lia,?_⟩⟩
    rw [show (((d.ns.map V.str).length:Nat):Int).toNat=d.ns.length by rw [List.length_map]; rfl]
    refine vL (n:=d.ns.length) (fun j σ H'=>∃ vb vc,∃ ps:List Addr,Same H H'/\H' r=some (.lst (ps.map V.ref))/\RowsAt H' (ownR st (dfs.take i) ++ (List.range j).flatMap (own1 st d.z)) ps/\σ=[some (.ref p),some (.ref o.u),some (.ref r),some (.ref t),vb,vc]) ⟨vb,vc,ps,s2,hr2,by rw [show (List.range 0).flatMap (own1 st d.z)=[] from rfl,List.append_nil]; exact hR,rfl⟩ ?_ ?_
    · rintro j σ H3 hj ⟨vb,vc,ps,s3,hr3,hR3,rfl⟩
      rw [Int.zero_add]
      have U3:=hU.same s3
      obtain ⟨kh,h1,h2,h3⟩:=U3.h
      have es:(List.range (j + 1)).flatMap (own1 st d.z)=(List.range j).flatMap (own1 st d.z) ++ own1 st d.z j:=by rw [List.range_succ,List.flatMap_append]; simp
      have c3:=vA st d.z j
      have c4:=All2.len hR3
      rw [List.length_append] at c4
      obtain ⟨kf,f1,f2,f3⟩:=U3.f
      refine ⟨_,rfl,ixT (s3 _ _ e1) aI0 ⟨_,rfl,o.u,cU,o.dx,_,.ref o.dh,rfl,U3.ob,N.cl,N.b1,rfl,o.dh,_,rfl,DGet.k (k:=.inr d.z) h1,_,rfl,?_⟩⟩
      rw [h3]
      refine QE (R:=fun v H'=>v=.str (rsn st d.z j)/\Same H3 H') (fun c Q fin=>?_) (fun c Q fin=>?_) ?_
      · exact fin _ _ ⟨by unfold rsn; rw [if_pos c],fun _ _ h=>h⟩
      · refine ⟨_,rfl,o.u,cU,o.dx,_,.ref o.df,rfl,U3.ob,N.cl,N.b2,rfl,o.df,rfl,.inr ⟨kf,.of f1⟩,_,rfl,ixT (s3 _ _ e1) aI0 ⟨_,rfl,sN2,fun tk htk=>?_⟩⟩
        have s4:=zk (o:=.tup [.str d.z,.int ((j:Nat):Int)]) htk
        refine ⟨_,DGet.t (k:=kz d.z j) (s4 _ _ f1) zf,?_⟩
        rw [f3]
        refine fin _ _ ⟨?_,s4⟩
        unfold rsn
        rw [if_neg c]
        cases st.F d.z j with
        | none=>rfl
        | some r=>rfl
      rintro v H4 ⟨rfl,s4⟩
      have s04:=s3.trans s4
      refine ⟨_,rfl,rfl,_,rfl,?_⟩
      by_cases ce:rsn st d.z j=""
      · rw [show (!decide (V.str (rsn st d.z j)=V.str ""))=false by rw [ce]; rfl]
        refine iteF ⟨_,_,ps,s04,s4 _ _ hr3,?_,rfl⟩
        rw [es,show own1 st d.z j=[] by unfold own1; rw [if_neg (fun y=>y ce)],List.append_nil]
        exact hR3.keep (.of s4)
      · rw [show (!decide (V.str (rsn st d.z j)=V.str ""))=true by rw [decide_eq_false (fun y=>ce (V.str.inj y))]; rfl]
        refine iteT ?_
        refine ⟨_,rfl,.inl ⟨rfl,_,SqL.of (s4 _ _ hr3)⟩,_,rfl,ixT (s04 _ _ e1) aI0 ⟨_,rfl,_,rfl,sN1,fun q1 hq1=>⟨sN3,fun t1 ht1=>?_⟩⟩⟩
        have s5:=s04.new (o:=.tup [.str (rsn st d.z j)]) hq1
        have s45:=s4.new (o:=.tup [.str (rsn st d.z j)]) hq1
        have hq5:=zf (H:=H4) (a:=q1) (o:=.tup [.str (rsn st d.z j)])
        generalize upd H4 q1 (.tup [.str (rsn st d.z j)])=H5 at *
        have s6:=s5.new (o:=.tup [.str d.z,.int ((j:Nat):Int),.ref q1]) ht1
        have s46:=s45.new (o:=.tup [.str d.z,.int ((j:Nat):Int),.ref q1]) ht1
        have hq6:=old (o:=.tup [.str d.z,.int ((j:Nat):Int),.ref q1]) ht1 hq5
        have ht6:=zf (H:=H5) (a:=t1) (o:=.tup [.str d.z,.int ((j:Nat):Int),.ref q1])
        generalize upd H5 t1 (.tup [.str d.z,.int ((j:Nat):Int),.ref q1])=H6 at *
        have hr6:=s46 _ _ hr3
        refine ⟨r,_,_,rfl,rfl,hr6,by rw [List.length_map]; lia,?_⟩
        have tp:Tups H6 (upd H6 r (.lst (ps.map V.ref ++ [.ref t1]))):=fun b xs e=>by rw [zg (fun y=>by rw [y,hr6] at e; cases e)]; exact e
        refine ⟨_,_,ps ++ [t1],s6.put hr0,by rw [zf,List.map_append]; rfl,?_,rfl⟩
        rw [es,<- List.append_assoc,show own1 st d.z j=[⟨d.z,j,.own (rsn st d.z j)⟩] by unfold own1; rw [if_pos ce]]
        exact All2.app ((hR3.keep (.of s46)).keep tp) (.cons ⟨q1,tp _ _ ht6,tp _ _ hq6⟩ .nil)
    rintro σ H3 ⟨vb,vc,ps,s3,hr3,hR3,rfl⟩
    refine ⟨_,_,_,ps,s3,hr3,?_,rfl⟩
    rw [List.take_add_one,hd]
    unfold ownR
    rw [List.flatMap_append]
    simp only [Option.toList_some,List.flatMap_cons,List.flatMap_nil,List.append_nil]
    exact hR3
  rintro σ H2 ⟨va,vb,vc,ps,s2,hr2,hR,rfl⟩
  rw [List.length_map,<- hF.len,List.take_of_length_le (Nat.le_refl _)] at hR
  exact ⟨_,rfl,q _ r ps s2 hr0 hr2 hR⟩
end
variable {st:US} {cs:List (Str × Nat)}
theorem Yu (g:Str) (j:Nat) (rows:List Rw) (c:Str × Nat):∃ more,zD g j rows c=rows ++ more:=by
  unfold zD
  split
  · exact ⟨[],(List.append_nil _).symm⟩
  · exact ⟨_,rfl⟩
theorem Yv (g:Str) (j:Nat) (rows:List Rw) (c:Str × Nat):c∈(zD g j rows c).map Rw.key:=by
  unfold zD
  split
  · assumption
  · rw [List.map_append]
    exact List.mem_append_right _ (List.mem_singleton.mpr rfl)
theorem yT (g:Str) (j:Nat):∀ (l:List (Str × Nat)) (rows:List Rw),∃ more,l.foldl (zD g j) rows=rows ++ more
  | [],rows=>⟨[],(List.append_nil _).symm⟩
  | c :: l,rows=>by
    obtain ⟨m1,e1⟩:=Yu g j rows c
    obtain ⟨m2,e2⟩:=yT g j l (zD g j rows c)
    exact ⟨m1 ++ m2,by rw [List.foldl_cons,e2,e1,List.append_assoc]⟩
theorem Xn {a b:List Rw} {c:Str × Nat} (h:∃ more,b=a ++ more) (m:c∈a.map Rw.key):c∈b.map Rw.key:=by
  obtain ⟨m',rfl⟩:=h
  rw [List.map_append]
  exact List.mem_append_left _ m
theorem v7 (g:Str) (j:Nat):∀ (l:List (Str × Nat)) (rows:List Rw) (c:Str × Nat),c∈l->c∈(l.foldl (zD g j) rows).map Rw.key
  | d :: l,rows,c,h=>by
    rcases List.mem_cons.mp h with h | h
    · subst h
      exact Xn (yT g j l _) (Yv g j rows c)
    · exact v7 g j l _ c h
theorem wC (g:Str) (j:Nat):∀ (l:List (Str × Nat)) (rows:List Rw),(rows.map Rw.key).Nodup->((l.foldl (zD g j) rows).map Rw.key).Nodup
  | [],rows,h=>h
  | c :: l,rows,h=>by
    refine wC g j l _ ?_
    unfold zD
    split
    · exact h
    · rename_i n
      rw [List.map_append,List.nodup_append]
      refine ⟨h,by simp,fun x hx y hy e=>n ?_⟩
      rw [List.map_singleton,List.mem_singleton] at hy
      subst hy
      rw [e] at hx
      exact hx
theorem wq (g:Str) (j:Nat):∀ (l:List (Str × Nat)) (rows:List Rw) (r:Rw),r∈l.foldl (zD g j) rows->r∈rows\/(r.y=.called g j/\r.key∈l)
  | [],rows,r,h=>.inl h
  | c :: l,rows,r,h=>by
    rcases wq g j l _ r h with h | h
    · unfold zD at h
      split at h
      · exact .inl h
      · rcases List.mem_append.mp h with h | h
        · exact .inl h
        · rw [List.mem_singleton.mp h]
          exact .inr ⟨rfl,List.mem_cons_self⟩
    · exact .inr ⟨h.1,List.mem_cons_of_mem _ h.2⟩
theorem Zt:∀ (f a:Nat) (rows:List Rw),∃ more,runR st f a rows=rows ++ more
  | 0,a,rows=>⟨[],(List.append_nil _).symm⟩
  | f + 1,a,rows=>by
    unfold runR
    split
    · exact ⟨[],(List.append_nil _).symm⟩
    · rename_i r _
      obtain ⟨m1,e1⟩:=yT r.z r.k (st.C r.z r.k) rows
      obtain ⟨m2,e2⟩:=Zt f (a + 1) (xb st rows r)
      exact ⟨m1 ++ m2,by rw [e2]; unfold xb; rw [e1,List.append_assoc]⟩
theorem vB:∀ (f a:Nat) (rows:List Rw),(rows.map Rw.key).Nodup->((runR st f a rows).map Rw.key).Nodup
  | 0,a,rows,h=>h
  | f + 1,a,rows,h=>by
    unfold runR
    split
    · exact h
    · exact vB f (a + 1) _ (wC _ _ _ _ h)
theorem wD (hC:Cin cs st):∀ (f a:Nat) (rows:List Rw),unk cs rows + (rows.length - a)<=f->(∀ i r,i < a->rows[i]?=some r->∀ c∈st.C r.z r.k,c∈rows.map Rw.key)->∀ r∈runR st f a rows,∀ c∈st.C r.z r.k,c∈(runR st f a rows).map Rw.key
  | 0,a,rows,hf,h,r,hr,c,hc=>by
    unfold runR at hr ⊢
    obtain ⟨i,hi⟩:=List.mem_iff_getElem?.mp hr
    have:=(List.getElem?_eq_some_iff.mp hi).1
    exact h i r (by lia) hi c hc
  | f + 1,a,rows,hf,h,r,hr,c,hc=>by
    unfold runR at hr ⊢
    cases e:rows[a]? with
    | none =>
      rw [e] at hr
      obtain ⟨i,hi⟩:=List.mem_iff_getElem?.mp hr
      have h1:=(List.getElem?_eq_some_iff.mp hi).1
      have h2:rows.length<=a:=List.getElem?_eq_none_iff.mp e
      exact h i r (by lia) hi c hc
    | some ra =>
      rw [e] at hr
      have ha:=(List.getElem?_eq_some_iff.mp e).1
      have fu:=yS (cs:=cs) (g:=ra.z) (j:=ra.k) (l:=st.C ra.z ra.k) (rows:=rows) (hC ra.z ra.k)
      refine wD hC f (a + 1) (xb st rows ra) (by unfold xb; lia) (fun i r' hi hr' c' hc'=>?_) r hr c hc
      obtain ⟨more,em⟩:=yT ra.z ra.k (st.C ra.z ra.k) rows
      have er:rows[i]?=some r':=by
        unfold xb at hr'
        rw [em,List.getElem?_append_left (by lia)] at hr'
        exact hr'
      by_cases y:i=a
      · subst y
        rw [e] at er
        cases er
        exact v7 _ _ _ _ _ hc'
      · exact Xn ⟨more,em⟩ (h i r' (by lia) er c' hc')
theorem Zu:∀ (f a:Nat) (rows:List Rw) (Z:Rw->Prop),(∀ r∈rows,Z r\/∃ s∈rows,r.y=.called s.z s.k/\r.key∈st.C s.z s.k)->∀ r∈runR st f a rows,Z r\/∃ s∈runR st f a rows,r.y=.called s.z s.k/\r.key∈st.C s.z s.k
  | 0,a,rows,Z,h=>h
  | f + 1,a,rows,Z,h=>by
    unfold runR
    split
    · exact h
    · rename_i ra e
      refine Zu f (a + 1) _ Z fun r hr=>?_
      obtain ⟨more,em⟩:=yT ra.z ra.k (st.C ra.z ra.k) rows
      have sub:∀ s∈rows,s∈xb st rows ra:=fun s hs=>by unfold xb; rw [em]; exact List.mem_append_left _ hs
      rcases wq _ _ _ _ r hr with hr | ⟨h1,h2⟩
      · rcases h r hr with h | ⟨s,hs,h⟩
        · exact .inl h
        · exact .inr ⟨s,sub s hs,h⟩
      · exact .inr ⟨ra,sub ra (List.mem_of_getElem? e),h1,h2⟩
theorem Zv (Z:Str × Nat->Prop) (hs:∀ s,Z s->∀ c∈st.C s.1 s.2,Z c):∀ (f a:Nat) (rows:List Rw),(∀ r∈rows,Z r.key)->∀ r∈runR st f a rows,Z r.key
  | 0,a,rows,h=>h
  | f + 1,a,rows,h=>by
    unfold runR
    split
    · exact h
    · rename_i ra e
      refine Zv Z hs f (a + 1) _ fun r hr=>?_
      rcases wq _ _ _ _ r hr with hr | ⟨_,h2⟩
      · exact h r hr
      · exact hs _ (h ra (List.mem_of_getElem? e)) _ h2
section
variable {dfs:List Df}
theorem VX {r:Rw} (h:r∈ownR (zv dfs) dfs):r∈zt dfs:=by
  unfold zt
  obtain ⟨m,e⟩:=Zt (st:=zv dfs) (unk (cand dfs) (ownR (zv dfs) dfs) + (ownR (zv dfs) dfs).length) 0 (ownR (zv dfs) dfs)
  rw [e]
  exact List.mem_append_left _ h
theorem wE {r:Rw} (h:r∈zt dfs) {c:Str × Nat} (hc:c∈(zv dfs).C r.z r.k):c∈(zt dfs).map Rw.key :=
  wD (Cin.of dfs) _ 0 _ (by lia) (fun i r hi=>absurd hi (Nat.not_lt_zero _)) r h c hc
theorem VY {r:Rw} (h:r∈zt dfs):r∈ownR (zv dfs) dfs\/∃ s∈zt dfs,r.y=.called s.z s.k/\r.key∈(zv dfs).C s.z s.k :=
  Zu _ 0 _ (·∈ownR (zv dfs) dfs) (fun r hr=>.inl hr) r h
theorem Zw (Z:Str × Nat->Prop) (ho:∀ r∈ownR (zv dfs) dfs,Z r.key) (hs:∀ s,Z s->∀ c∈(zv dfs).C s.1 s.2,Z c):∀ r∈zt dfs,Z r.key:=Zv Z hs _ 0 _ ho
theorem Zx (st:US) (z:Str):∀ n:Nat,(((List.range n).flatMap (own1 st z)).map Rw.key).Nodup/\∀ r∈(List.range n).flatMap (own1 st z),r.z=z/\r.k < n
  | 0=>⟨List.nodup_nil,fun r h=>by cases h⟩
  | n + 1=>by
    obtain ⟨a,b⟩:=Zx st z n
    have e:(List.range (n + 1)).flatMap (own1 st z)=(List.range n).flatMap (own1 st z) ++ own1 st z n:=by rw [List.range_succ,List.flatMap_append]; simp
    rw [e]
    have o:∀ r∈own1 st z n,r.z=z/\r.k=n:=fun r h=>by
      unfold own1 at h
      split at h
      · rw [List.mem_singleton.mp h]; exact ⟨rfl,rfl⟩
      · cases h
    refine ⟨?_,fun r h=>?_⟩
    · rw [List.map_append,List.nodup_append]
      refine ⟨a,?_,fun x hx y hy e=>?_⟩
      · unfold own1
        split <;> simp
      · obtain ⟨r,h1,rfl⟩:=List.mem_map.mp hx
        obtain ⟨s,h2,rfl⟩:=List.mem_map.mp hy
        have h3:=(b r h1).2
        have h4:=(o s h2).2
        have h5:r.k=s.k:=congrArg (·.2) e
        lia
    · rcases List.mem_append.mp h with h | h
      · exact ⟨(b r h).1,Nat.lt_succ_of_lt (b r h).2⟩
      · exact ⟨(o r h).1,by have:=(o r h).2; lia⟩
theorem wr (st:US):∀ dfs:List Df,(dfs.map (·.z)).Nodup->((ownR st dfs).map Rw.key).Nodup/\∀ r∈ownR st dfs,∃ d∈dfs,r.z=d.z/\r.k < d.ns.length
  | [],_=>⟨List.nodup_nil,fun r h=>by cases h⟩
  | d :: l,h=>by
    rw [List.map_cons,List.nodup_cons] at h
    obtain ⟨a,b⟩:=wr st l h.2
    obtain ⟨c,e⟩:=Zx st d.z d.ns.length
    have eq:ownR st (d :: l)=ownD st d ++ ownR st l:=by unfold ownR; rw [List.flatMap_cons]
    rw [eq]
    refine ⟨?_,fun r hr=>?_⟩
    · rw [List.map_append,List.nodup_append]
      refine ⟨c,a,fun x hx y hy e'=>?_⟩
      obtain ⟨r,h1,rfl⟩:=List.mem_map.mp hx
      obtain ⟨s,h2,rfl⟩:=List.mem_map.mp hy
      obtain ⟨d',hd',h3,_⟩:=b s h2
      have h4:=(e r h1).1
      have h5:r.z=s.z:=congrArg (·.1) e'
      exact h.1 (List.mem_map.mpr ⟨d',hd',by rw [<- h3,<- h5,h4]⟩)
    · rcases List.mem_append.mp hr with hr | hr
      · exact ⟨d,List.mem_cons_self,(e r hr).1,(e r hr).2⟩
      · obtain ⟨d',hd',h'⟩:=b r hr
        exact ⟨d',List.mem_cons_of_mem _ hd',h'⟩
theorem vC (h:(dfs.map (·.z)).Nodup):((zt dfs).map Rw.key).Nodup:=vB _ 0 _ (wr _ dfs h).1
theorem QF (h:(dfs.map (·.z)).Nodup) {r:Rw} (hr:r∈zt dfs):∃ d∈dfs,r.z=d.z/\r.k < d.ns.length:=by
  refine Zw (fun c=>∃ d∈dfs,c.1=d.z/\c.2 < d.ns.length) (fun r hr=>(wr _ dfs h).2 r hr) (fun s _ c hc=>?_) r hr
  have:=Cin.of dfs _ _ _ hc
  unfold cand at this
  obtain ⟨d,hd,hm⟩:=List.mem_flatMap.mp this
  obtain ⟨k,hk,rfl⟩:=List.mem_map.mp hm
  exact ⟨d,hd,rfl,List.mem_range.mp hk⟩
end
def RsB (ns:List Str) (k:Nat) (r:Str):Bd->Prop
  | .give x=>pix ns x=some k/\r="given"
  | .lt _ (.app w f xs) _=>((w="make"\/w="func"\/w="ask")/\(∃ x∈xs,pix ns x=some k)/\r="put")\/(w="ask"/\pix ns f=some k/\r="asked")
  | .lt _ _ _=>False
  | .case x as=>xh x as=true/\pix ns x=some k/\r="anew"
  | .iff _ _ _=>False
def FnB (g:Str):Bd->Prop
  | .lt _ (.app w f _) _=>w="func"/\f=g
  | _=>False
def ClB (ns:List Str) (g:Str) (j k:Nat):Bd->Prop
  | .lt _ (.app w f xs) _=>w="call"/\f=g/\∃ x,xs[j]?=some x/\pix ns x=some k
  | _=>False
section
variable {z:Str} {ns:List Str} {st:US}
theorem jN {r x:Str}:(addR z ns r st x).hd=st.hd:=by unfold addR; split <;> rfl
theorem Yw {r x:Str}:(addR z ns r st x).C=st.C:=by unfold addR; split <;> rfl
theorem xx {r x:Str} (z':Str) (k':Nat):(addR z ns r st x).F z' k'=if z'=z/\pix ns x=some k' then some r else st.F z' k':=by
  unfold addR
  split
  · rename_i e
    rw [if_neg (fun h=>by rw [e] at h; cases h.2)]
  · rename_i k e
    show (if z'=z/\k'=k then some r else st.F z' k')=_
    by_cases h:z'=z/\k'=k
    · rw [if_pos h,if_pos ⟨h.1,by rw [e,h.2]⟩]
    · rw [if_neg h,if_neg (fun w=>h ⟨w.1,by rw [e] at w; exact (Option.some.inj w.2).symm⟩)]
theorem xM (r:Str):∀ (xs:List Str) (st:US),(xs.foldl (addR z ns r) st).hd=st.hd
  | [],_=>rfl
  | x :: xs,st=>by rw [List.foldl_cons,xM r xs,jN]
theorem wM (r:Str):∀ (xs:List Str) (st:US),(xs.foldl (addR z ns r) st).C=st.C
  | [],_=>rfl
  | x :: xs,st=>by rw [List.foldl_cons,wM r xs,Yw]
theorem yZ (r:Str) (z':Str) (k':Nat):∀ (xs:List Str) (st:US),((z'=z/\∃ x∈xs,pix ns x=some k')/\(xs.foldl (addR z ns r) st).F z' k'=some r)\/(¬ (z'=z/\∃ x∈xs,pix ns x=some k')/\(xs.foldl (addR z ns r) st).F z' k'=st.F z' k')
  | [],st=>.inr ⟨fun ⟨_,x,h,_⟩=>(by cases h),rfl⟩
  | x :: xs,st=>by
    rw [List.foldl_cons]
    rcases yZ r z' k' xs (addR z ns r st x) with ⟨⟨a,y,hy,b⟩,c⟩ | ⟨a,c⟩
    · exact .inl ⟨⟨a,y,List.mem_cons_of_mem _ hy,b⟩,c⟩
    · rw [xx] at c
      by_cases h:z'=z/\pix ns x=some k'
      · rw [if_pos h] at c
        exact .inl ⟨⟨h.1,x,List.mem_cons_self,h.2⟩,c⟩
      · rw [if_neg h] at c
        refine .inr ⟨fun ⟨p,y,hy,q⟩=>?_,c⟩
        rcases List.mem_cons.mp hy with e | e
        · subst e; exact h ⟨p,q⟩
        · exact a ⟨p,y,e,q⟩
theorem VZ {g x:Str} {j:Nat}:(addC1 z ns g j st x).hd=st.hd:=by unfold addC1; split <;> rfl
theorem QG {g x:Str} {j:Nat}:(addC1 z ns g j st x).F=st.F:=by unfold addC1; split <;> rfl
theorem QH {g x:Str} {j:Nat} (g':Str) (j':Nat) (c:Str × Nat):c∈(addC1 z ns g j st x).C g' j'↔c∈st.C g' j'\/(g'=g/\j'=j/\∃ k,pix ns x=some k/\c=(z,k)):=by
  unfold addC1
  split
  · rename_i e
    exact ⟨.inl,fun h=>by
      rcases h with h | ⟨_,_,k,h,_⟩
      · exact h
      · rw [e] at h; cases h⟩
  · rename_i k e
    show c∈(if g'=g/\j'=j then st.C g' j' ++ [(z,k)] else st.C g' j')↔_
    by_cases h:g'=g/\j'=j
    · rw [if_pos h,List.mem_append,List.mem_singleton]
      exact ⟨fun y=>y.imp_right fun y=>⟨h.1,h.2,k,e,y⟩,fun y=>y.imp_right fun ⟨_,_,k',a,b⟩=>by rw [e] at a; cases a; exact b⟩
    · rw [if_neg h]
      exact ⟨.inl,fun y=>by
        rcases y with y | ⟨a,b,_⟩
        · exact y
        · exact absurd ⟨a,b⟩ h⟩
theorem V0 {g:Str}:∀ (l:List (Str × Nat)) (st:US),(l.foldl (fun st p=>addC1 z ns g p.2 st p.1) st).hd=st.hd/\(l.foldl (fun st p=>addC1 z ns g p.2 st p.1) st).F=st.F/\∀ g' j' c,c∈(l.foldl (fun st p=>addC1 z ns g p.2 st p.1) st).C g' j'↔c∈st.C g' j'\/(g'=g/\∃ x k,(x,j')∈l/\pix ns x=some k/\c=(z,k))
  | [],st=>⟨rfl,rfl,fun g' j' c=>⟨.inl,fun h=>by
      rcases h with h | ⟨_,x,k,h,_⟩
      · exact h
      · cases h⟩⟩
  | p :: l,st=>by
    obtain ⟨a,b,c⟩:=V0 (g:=g) l (addC1 z ns g p.2 st p.1)
    rw [List.foldl_cons]
    refine ⟨a.trans VZ,b.trans QG,fun g' j' d=>(c g' j' d).trans ?_⟩
    rw [QH]
    constructor
    · rintro ((h | ⟨h1,h2,k,h3,h4⟩) | ⟨h1,x,k,h2,h3,h4⟩)
      · exact .inl h
      · exact .inr ⟨h1,p.1,k,by rw [h2]; exact List.mem_cons_self,h3,h4⟩
      · exact .inr ⟨h1,x,k,List.mem_cons_of_mem _ h2,h3,h4⟩
    · rintro (h | ⟨h1,x,k,h2,h3,h4⟩)
      · exact .inl (.inl h)
      · rcases List.mem_cons.mp h2 with e | e
        · refine .inl (.inr ⟨h1,congrArg (·.2) e,k,?_,h4⟩)
          rw [show p.1=x from (congrArg (·.1) e).symm]
          exact h3
        · exact .inr ⟨h1,x,k,e,h3,h4⟩
theorem zbA {g:Str} (xs:List Str) (g':Str) (j':Nat) (c:Str × Nat):c∈(addC z ns g st xs).C g' j'↔c∈st.C g' j'\/(g'=g/\∃ x k,xs[j']?=some x/\pix ns x=some k/\c=(z,k)):=by
  have h:=(V0 (z:=z) (ns:=ns) (g:=g) xs.zipIdx st).2.2 g' j' c
  refine h.trans (or_congr Iff.rfl (and_congr Iff.rfl ?_))
  constructor
  · rintro ⟨x,k,h1,h2⟩
    exact ⟨x,k,List.mem_zipIdx_iff_getElem?.mp h1,h2⟩
  · rintro ⟨x,k,h1,h2⟩
    exact ⟨x,k,List.mem_zipIdx_iff_getElem?.mpr h1,h2⟩
structure Adds (z:Str) (ns:List Str) (b:Bd) (st st':US):Prop where
  hd:∀ g,st'.hd g=true↔st.hd g=true\/FnB g b
  f1:∀ z' k' r,st'.F z' k'=some r->st.F z' k'=some r\/(z'=z/\RsB ns k' r b)
  f2:∀ z' k',(st.F z' k').isSome=true->(st'.F z' k').isSome=true
  f3:∀ k r,RsB ns k r b->(st'.F z k).isSome=true
  c:∀ g j c,c∈st'.C g j↔c∈st.C g j\/∃ k,ClB ns g j k b/\c=(z,k)
theorem xN {b:Bd} (h1:∀ g,¬ FnB g b) (h2:∀ k r,¬ RsB ns k r b) (h3:∀ g j k,¬ ClB ns g j k b):Adds z ns b st st:=by
  refine ⟨fun g=>⟨.inl,fun h=>h.resolve_right (h1 g)⟩,fun _ _ _ h=>.inl h,fun _ _ h=>h,fun k r h=>absurd h (h2 k r),fun g j c=>⟨.inl,fun h=>h.resolve_right fun ⟨k,y,_⟩=>h3 g j k y⟩⟩
theorem V1 {b:Bd} {r x:Str} (h1:∀ g,¬ FnB g b) (h2:∀ k r',RsB ns k r' b↔(pix ns x=some k/\r'=r)) (h3:∀ g j k,¬ ClB ns g j k b):Adds z ns b st (addR z ns r st x):=by
  refine ⟨fun g=>?_,fun z' k' r' h=>?_,fun z' k' h=>?_,fun k r' h=>?_,fun g j c=>?_⟩
  · rw [jN]
    exact ⟨.inl,fun h=>h.resolve_right (h1 g)⟩
  · rw [xx] at h
    split at h
    · rename_i y
      exact .inr ⟨y.1,(h2 _ _).mpr ⟨y.2,(Option.some.inj h).symm⟩⟩
    · exact .inl h
  · rw [xx]
    split
    · rfl
    · exact h
  · rw [xx,if_pos ⟨rfl,((h2 _ _).mp h).1⟩]
    rfl
  · rw [Yw]
    exact ⟨.inl,fun h=>h.resolve_right fun ⟨k,y,_⟩=>h3 g j k y⟩
theorem Zy (b:Bd) {w f:Str} {xs:List Str} {y:Str} {e:Bd} (eb:b=.lt y (.app w f xs) e) (hw:w="make"\/w="func"):Adds z ns b st (if w="func" then hand f (xs.foldl (addR z ns "put") st) else xs.foldl (addR z ns "put") st):=by
  subst eb
  have nask:w≠"ask":=by rcases hw with h | h <;> (rw [h]; decide)
  have ncall:w≠"call":=by rcases hw with h | h <;> (rw [h]; decide)
  have rs:∀ k r,RsB ns k r (.lt y (.app w f xs) e)↔((∃ x∈xs,pix ns x=some k)/\r="put"):=fun k r=>by
    show ((w="make"\/w="func"\/w="ask")/\_)\/(w="ask"/\_)↔_
    exact ⟨fun h=>h.elim (fun h=>h.2) fun h=>absurd h.1 nask,fun h=>.inl ⟨hw.imp_right .inl,h⟩⟩
  have eF:(if w="func" then hand f (xs.foldl (addR z ns "put") st) else xs.foldl (addR z ns "put") st).F=(xs.foldl (addR z ns "put") st).F:=by split <;> rfl
  have eC:(if w="func" then hand f (xs.foldl (addR z ns "put") st) else xs.foldl (addR z ns "put") st).C=st.C:=by
    split
    · exact wM "put" xs st
    · exact wM "put" xs st
  refine ⟨fun g=>?_,fun z' k' r' h=>?_,fun z' k' h=>?_,fun k r' h=>?_,fun g j c=>?_⟩
  · show _↔_\/(w="func"/\f=g)
    split
    · rename_i hf
      show (if g=f then true else (xs.foldl (addR z ns "put") st).hd g)=true↔_
      rw [xM]
      by_cases hg:g=f
      · rw [if_pos hg]; exact ⟨fun _=>.inr ⟨hf,hg.symm⟩,fun _=>rfl⟩
      · rw [if_neg hg]; exact ⟨.inl,fun h=>h.resolve_right fun h=>hg h.2.symm⟩
    · rename_i hf
      rw [xM]
      exact ⟨.inl,fun h=>h.resolve_right fun h=>hf h.1⟩
  · rw [eF] at h
    rcases yZ (z:=z) (ns:=ns) "put" z' k' xs st with ⟨a,c⟩ | ⟨a,c⟩
    · rw [c] at h
      exact .inr ⟨a.1,(rs _ _).mpr ⟨a.2,(Option.some.inj h).symm⟩⟩
    · rw [c] at h; exact .inl h
  · rw [eF]
    rcases yZ (z:=z) (ns:=ns) "put" z' k' xs st with ⟨a,c⟩ | ⟨a,c⟩
    · rw [c]; rfl
    · rw [c]; exact h
  · rw [eF]
    rcases yZ (z:=z) (ns:=ns) "put" z k xs st with ⟨a,c⟩ | ⟨a,c⟩
    · rw [c]; rfl
    · exact absurd ⟨rfl,((rs _ _).mp h).1⟩ a
  · rw [eC]
    exact ⟨.inl,fun h=>h.resolve_right fun ⟨k,y,_⟩=>ncall y.1⟩
theorem zbB (b:Bd):Adds z ns b st (noteB z ns st b):=by
  cases b with
  | give x=>exact V1 (fun g h=>h) (fun k r=>Iff.rfl) (fun g j k h=>h)
  | iff x a b=>exact xN (fun g h=>h) (fun k r h=>h) (fun g j k h=>h)
  | case x as =>
    show Adds z ns (.case x as) st (if xh x as=true then addR z ns "anew" st x else st)
    by_cases h:xh x as=true
    · rw [if_pos h]
      exact V1 (fun g h=>h) (fun k r=>⟨fun y=>y.2,fun y=>⟨h,y⟩⟩) (fun g j k h=>h)
    · rw [if_neg h]
      exact xN (fun g h=>h) (fun k r y=>h y.1) (fun g j k h=>h)
  | lt y d e =>
    cases d with
    | num i=>exact xN (fun g h=>h) (fun k r h=>h) (fun g j k h=>h)
    | op w p q=>exact xN (fun g h=>h) (fun k r h=>h) (fun g j k h=>h)
    | app w f xs =>
      show Adds z ns (.lt y (.app w f xs) e) st (if w="call" then addC z ns f st xs else if w="make" then xs.foldl (addR z ns "put") st else if w="func" then hand f (xs.foldl (addR z ns "put") st) else if w="ask" then addR z ns "asked" (xs.foldl (addR z ns "put") st) f else st)
      by_cases h1:w="call"
      · rw [if_pos h1]
        have t:=V0 (z:=z) (ns:=ns) (g:=f) xs.zipIdx st
        have n1:¬ (w="make"\/w="func"\/w="ask"):=by rw [h1]; decide
        have n2:w≠"ask":=by rw [h1]; decide
        have n3:w≠"func":=by rw [h1]; decide
        refine ⟨fun g=>?_,fun z' k' r' h=>?_,fun z' k' h=>?_,fun k r' h=>?_,fun g j c=>?_⟩
        · rw [show (addC z ns f st xs).hd=st.hd from t.1]
          exact ⟨.inl,fun h=>h.resolve_right fun h=>n3 h.1⟩
        · rw [show (addC z ns f st xs).F=st.F from t.2.1] at h
          exact .inl h
        · rw [show (addC z ns f st xs).F=st.F from t.2.1]
          exact h
        · rcases h with h | h
          · exact absurd h.1 n1
          · exact absurd h.1 n2
        · refine (zbA xs g j c).trans (or_congr Iff.rfl ?_)
          constructor
          · rintro ⟨rfl,x,k,a,b,c⟩
            exact ⟨k,⟨h1,rfl,x,a,b⟩,c⟩
          · rintro ⟨k,⟨_,rfl,x,a,b⟩,c⟩
            exact ⟨rfl,x,k,a,b,c⟩
      rw [if_neg h1]
      by_cases h2:w="make"
      · rw [if_pos h2]
        have:=Zy (z:=z) (ns:=ns) (st:=st) (.lt y (.app w f xs) e) rfl (.inl h2)
        rw [if_neg (by rw [h2]; decide)] at this
        exact this
      rw [if_neg h2]
      by_cases h3:w="func"
      · rw [if_pos h3]
        have:=Zy (z:=z) (ns:=ns) (st:=st) (.lt y (.app w f xs) e) rfl (.inr h3)
        rw [if_pos h3] at this
        exact this
      rw [if_neg h3]
      by_cases h4:w="ask"
      · rw [if_pos h4]
        have rs:∀ k r,RsB ns k r (.lt y (.app w f xs) e)↔(((∃ x∈xs,pix ns x=some k)/\r="put")\/(pix ns f=some k/\r="asked")):=fun k r=>by
          show ((w="make"\/w="func"\/w="ask")/\_)\/(w="ask"/\_)↔_
          exact ⟨fun h=>h.imp (fun h=>h.2) fun h=>h.2,fun h=>h.imp (fun h=>⟨.inr (.inr h4),h⟩) fun h=>⟨h4,h⟩⟩
        refine ⟨fun g=>?_,fun z' k' r' h=>?_,fun z' k' h=>?_,fun k r' h=>?_,fun g j c=>?_⟩
        · rw [jN,xM]
          exact ⟨.inl,fun h=>h.resolve_right fun h=>h3 h.1⟩
        · rw [xx] at h
          split at h
          · rename_i y'
            exact .inr ⟨y'.1,(rs _ _).mpr (.inr ⟨y'.2,(Option.some.inj h).symm⟩)⟩
          · rcases yZ (z:=z) (ns:=ns) "put" z' k' xs st with ⟨a,c⟩ | ⟨a,c⟩
            · rw [c] at h
              exact .inr ⟨a.1,(rs _ _).mpr (.inl ⟨a.2,(Option.some.inj h).symm⟩)⟩
            · rw [c] at h; exact .inl h
        · rw [xx]
          split
          · rfl
          · rcases yZ (z:=z) (ns:=ns) "put" z' k' xs st with ⟨a,c⟩ | ⟨a,c⟩
            · rw [c]; rfl
            · rw [c]; exact h
        · rw [xx]
          split
          · rfl
          · rename_i ny
            rcases yZ (z:=z) (ns:=ns) "put" z k xs st with ⟨a,c⟩ | ⟨a,c⟩
            · rw [c]; rfl
            · rcases (rs _ _).mp h with h | h
              · exact absurd ⟨rfl,h.1⟩ a
              · exact absurd ⟨rfl,h.1⟩ ny
        · rw [Yw,wM]
          exact ⟨.inl,fun h=>h.resolve_right fun ⟨k,y,_⟩=>h1 y.1⟩
      rw [if_neg h4]
      refine xN (fun g h=>h3 h.1) (fun k r h=>?_) (fun g j k h=>h1 h.1)
      rcases h with h | h
      · rcases h.1 with y | y | y
        · exact h2 y
        · exact h3 y
        · exact h4 y
      · exact h4 h.1
structure AddsL (z:Str) (ns:List Str) (l:List Bd) (st st':US):Prop where
  hd:∀ g,st'.hd g=true↔st.hd g=true\/∃ b∈l,FnB g b
  f1:∀ z' k' r,st'.F z' k'=some r->st.F z' k'=some r\/(z'=z/\∃ b∈l,RsB ns k' r b)
  f2:∀ z' k',(st.F z' k').isSome=true->(st'.F z' k').isSome=true
  f3:∀ k r,(∃ b∈l,RsB ns k r b)->(st'.F z k).isSome=true
  c:∀ g j c,c∈st'.C g j↔c∈st.C g j\/∃ b∈l,∃ k,ClB ns g j k b/\c=(z,k)
theorem V2:∀ (l:List Bd) (st:US),AddsL z ns l st (l.foldl (noteB z ns) st)
  | [],st=>⟨fun g=>⟨.inl,fun h=>h.resolve_right fun ⟨_,h,_⟩=>(by cases h)⟩,fun _ _ _ h=>.inl h,fun _ _ h=>h,fun k r ⟨_,h,_⟩=>(by cases h),fun g j c=>⟨.inl,fun h=>h.resolve_right fun ⟨_,h,_⟩=>(by cases h)⟩⟩
  | b :: l,st=>by
    have A:=zbB (z:=z) (ns:=ns) (st:=st) b
    have B:=V2 l (noteB z ns st b)
    rw [List.foldl_cons]
    have ex:∀ {p:Bd->Prop},(∃ x∈b :: l,p x)↔(p b\/∃ x∈l,p x):=fun {p}=>⟨fun ⟨x,h,q⟩=>by
      rcases List.mem_cons.mp h with e | e
      · subst e; exact .inl q
      · exact .inr ⟨x,e,q⟩,fun h=>h.elim (fun h=>⟨b,List.mem_cons_self,h⟩) fun ⟨x,h,q⟩=>⟨x,List.mem_cons_of_mem _ h,q⟩⟩
    refine ⟨fun g=>?_,fun z' k' r h=>?_,fun z' k' h=>B.f2 _ _ (A.f2 _ _ h),fun k r h=>?_,fun g j c=>?_⟩
    · rw [B.hd,A.hd,ex,or_assoc]
    · rcases B.f1 _ _ _ h with h | ⟨h1,h2⟩
      · rcases A.f1 _ _ _ h with h | ⟨h1,h2⟩
        · exact .inl h
        · exact .inr ⟨h1,ex.mpr (.inl h2)⟩
      · exact .inr ⟨h1,ex.mpr (.inr h2)⟩
    · rcases ex.mp h with h | h
      · exact B.f2 _ _ (A.f3 _ _ h)
      · exact B.f3 _ _ h
    · rw [B.c,A.c,ex,or_assoc]
end
structure AddsD (dfs:List Df) (st st':US):Prop where
  hd:∀ g,st'.hd g=true↔st.hd g=true\/∃ d∈dfs,∃ b∈d.b.all,FnB g b
  f1:∀ z k r,st'.F z k=some r->st.F z k=some r\/∃ d∈dfs,d.z=z/\∃ b∈d.b.all,RsB d.ns k r b
  f2:∀ z k,(st.F z k).isSome=true->(st'.F z k).isSome=true
  f3:∀ d∈dfs,∀ k r,(∃ b∈d.b.all,RsB d.ns k r b)->(st'.F d.z k).isSome=true
  c:∀ g j c,c∈st'.C g j↔c∈st.C g j\/∃ d∈dfs,∃ b∈d.b.all,∃ k,ClB d.ns g j k b/\c=(d.z,k)
theorem V3:∀ (l:List Df) (st:US),AddsD l st (l.foldl usesD st)
  | [],st=>⟨fun g=>⟨.inl,fun h=>h.resolve_right fun ⟨_,h,_⟩=>(by cases h)⟩,fun _ _ _ h=>.inl h,fun _ _ h=>h,fun d h=>(by cases h),fun g j c=>⟨.inl,fun h=>h.resolve_right fun ⟨_,h,_⟩=>(by cases h)⟩⟩
  | d :: l,st=>by
    have A:=V2 (z:=d.z) (ns:=d.ns) d.b.all st
    have B:=V3 l (usesD st d)
    rw [List.foldl_cons]
    have ex:∀ {p:Df->Prop},(∃ x∈d :: l,p x)↔(p d\/∃ x∈l,p x):=fun {p}=>⟨fun ⟨x,h,q⟩=>by
      rcases List.mem_cons.mp h with e | e
      · subst e; exact .inl q
      · exact .inr ⟨x,e,q⟩,fun h=>h.elim (fun h=>⟨d,List.mem_cons_self,h⟩) fun ⟨x,h,q⟩=>⟨x,List.mem_cons_of_mem _ h,q⟩⟩
    refine ⟨fun g=>?_,fun z' k' r h=>?_,fun z' k' h=>B.f2 _ _ (A.f2 _ _ h),fun d' hd' k r h=>?_,fun g j c=>?_⟩
    · rw [B.hd,show (usesD st d).hd g=true↔_ from A.hd g,ex,or_assoc]
    · rcases B.f1 _ _ _ h with h | h
      · rcases A.f1 _ _ _ h with h | ⟨h1,h2⟩
        · exact .inl h
        · exact .inr (ex.mpr (.inl ⟨h1.symm,h2⟩))
      · exact .inr (ex.mpr (.inr h))
    · rcases List.mem_cons.mp hd' with e | e
      · subst e; exact B.f2 _ _ (A.f3 _ _ h)
      · exact B.f3 _ e _ _ h
    · rw [B.c,show c∈(usesD st d).C g j↔_ from A.c g j c,ex,or_assoc]
theorem yp (dfs:List Df):AddsD dfs US0 (zv dfs):=V3 dfs US0
def KnAt (H:Hp) (d:Addr) (rows:List Rw):Prop:=∃ kk,H d=some (.dT kk)/\kk.length<=rows.length/\∀ z k,(valV kk (kz z k)).isSome=decide ((z,k)∈rows.map Rw.key)
theorem KnAt.put {H:Hp} {d:Addr} {rows:List Rw} {kk:List (List Key × V)} {r:Rw} {v:V} (h:KnAt H d rows) (e:H d=some (.dT kk)):KnAt (upd H d (.dT (putK kk (kz r.z r.k) v))) d (rows ++ [r]):=by
  obtain ⟨kk',a,b,c⟩:=h
  rw [e] at a
  cases a
  have lk:=zU kk (kz r.z r.k) v
  refine ⟨_,zf,by rw [List.length_append]; show _<=_ + 1; lia,fun z k=>?_⟩
  rw [yQ,List.map_append]
  by_cases y:z=r.z/\k=r.k
  · rw [if_pos (kz_inj.mpr y)]
    obtain ⟨rfl,rfl⟩:=y
    exact (decide_eq_true (List.mem_append_right _ (List.mem_singleton.mpr rfl))).symm
  · rw [if_neg (fun w=>y (kz_inj.mp w)),c]
    refine decide_eq_decide.mpr ⟨fun h=>List.mem_append_left _ h,fun h=>?_⟩
    rcases List.mem_append.mp h with h | h
    · exact h
    · exact absurd (by have:=List.mem_singleton.mp h; exact ⟨congrArg (·.1) this,congrArg (·.2) this⟩) y
structure PrOk (H:Hp) (p:Addr) (dfs:List Df):Prop where
  ex:∃ pk pd ds,H p=some (.tup [.ref pk,.ref pd])/\H pd=some (.tup (ds.map V.ref))/\IsFs H dfs ds
theorem PrOk.keep {H H':Hp} {p:Addr} {dfs:List Df} (h:PrOk H p dfs) (t:Tups H H'):PrOk H' p dfs:=let ⟨pk,pd,ds,a,b,c⟩:=h.ex; ⟨pk,pd,ds,t _ _ a,t _ _ b,c.keep t⟩
structure PrB (dfs:List Df):Prop where
  b:∀ d∈dfs,d.b.sz<=300000/\d.ns.length<=1000
  c:90 * cntB dfs + 100 < 16000000
  l:(cand dfs).length<=100000
  n:dfs.length<=1000
def wu (T1 T2:Addr):Sp:=fun vs H Q _=>∃ (p:Addr) (dfs:List Df),vs=[.ref p]/\PrOk H p dfs/\PrB dfs/\Tbs T1 T2 H/\∀ H' r ps,KM (MT T1 T2) H H'->Tbs T1 T2 H'->H' r=some (.lst (ps.map V.ref))->RowsAt H' (zt dfs) ps->Q (.ref r) H'
section
variable {P:Program} {w:World} {K:PySem.W.Frag} {mg:Str->Option Value} {base:Heap} {f cU:Addr} {fd:FuncData}
theorem scReasons:FnScope ["program","uses","rows","known","row","at","held"] ["program"] (zn vf):=.ok
theorem Yx {T1 T2:Addr} (F:Fun K "reasons" "reasons" vf f fd) (N:Un K cU) (GU:Ca P w K mg base CX0 11 "all_uses" ["program"] (VT cU T1 T2)) (GO:Ca P w K mg base CX0 1 "own_rows" ["program","uses"] (zak cU T1 T2)) (m_len:mg "len"=none):FnOk P w K mg base CX0 12 f fd ["program"] (wu T1 T2):=by
  refine F.by scReasons (fun vs H Q E h=>?_) (fun cdv A outer s H vs Q E hr h=>?_)
  · obtain ⟨p,dfs,rfl,_⟩:=h
    rfl
  obtain ⟨p,dfs,rfl,hp,⟨hb1,hb2,hb3,-⟩,hT,q⟩:=h
  have hr11:Room 11 _:=hr.mono (by decide)
  have hr1:Room 1 _:=hr.mono (by decide)
  refine ⟨_,
    (zh (sE 1 scReasons.nd (cA GU hr11 (jA1 (jv 0))))
    (zh (sE 2 scReasons.nd (cA GO hr1 (jA2 (jv 0) (jv 1))))
    (zh (sE 3 scReasons.nd xJ)
    (zh (yd PassesOwn.never rfl (yi (jv 2)) (gN 4 scReasons.nd)
      (zj (yK hr1 (jv 3) (zq (jA2 (xT 4) (xT 4))) wV)))
    (zh (sE 5 scReasons.nd zo)
    (zh (wX PassesOwn.never (tN YX (jv 5) (jL m_len (jv 2)))
      (zh (sE 6 scReasons.nd (zq (jA2 (yy yY (xX yJ (jv 2) (jv 5)) zo (fun _ _=>rfl)) (yy yY (xX yJ (jv 2) (jv 5)) zo (fun _ _=>rfl)))))
      (zh (yd PassesOwn.never rfl (yi (vv hr1 (yr (jv 1)) (jv 6) (yc zS))) (gN 4 scReasons.nd)
        (zj (zI (X4 hr1 (zq (jA2 (xT 4) (xT 4))) (jv 3))
          (zh (yK hr1 (jv 3) (zq (jA2 (xT 4) (xT 4))) wV)
          (zj (zG (y9 PySem.F.plainAttrs_list PySem.F.slot_list_append PySem.F.type_list_append zY (jv 2) (jA1 (zq (jA3 (xT 4) (xT 4) (zq (jA3 zr (xT 6) (xT 6))))))))))
          zw)))
      (zj (sE 5 scReasons.nd (zA ye (jv 5) zo))))))
    (zj (zu (jv 2))))))))),?_⟩
  have sl:=zW
  obtain ⟨pk,pd,ds,hp1,hpd,hF⟩:=hp.ex
  refine ⟨_,rfl,p,pk,pd,ds,dfs,rfl,hp1,hpd,hF,hb1,hb2,hT,fun Hu o L k1 U1=>?_⟩
  have tp1:=hT.tups k1
  refine ⟨_,rfl,_,rfl,p,pk,pd,ds,dfs,o,L,_,_,rfl,tp1 _ _ hp1,tp1 _ _ hpd,hF.keep tp1,hb3,U1,fun H2 r ps s2 hr0 hr2 hR2=>?_⟩
  obtain ⟨st,est⟩:∃ st,st=zv dfs:=⟨_,rfl⟩
  have hC:=Cin.of dfs
  rw [<- est] at U1 hR2 hC
  obtain ⟨cs,ecs⟩:∃ cs,cs=cand dfs:=⟨_,rfl⟩
  have ol:=xK st dfs
  rw [<- ecs] at hb3 hC ol
  have efin:zt dfs=runR st (unk cs (ownR st dfs) + (ownR st dfs).length) 0 (ownR st dfs):=by rw [est,ecs]; rfl
  rw [efin] at q
  clear efin
  generalize ownR st dfs=own at *
  intro kd hkd
  have fkd:Hu kd=none:=s2.free hkd
  have nrk:r≠kd:=zi hr2 hkd
  have s3:=s2.new (o:=.dT []) hkd
  have ol2:=All2.len hR2
  refine ⟨_,rfl,r,rfl,⟨_,SqL.of (old hkd hr2)⟩,yN (xs:=ps.map V.ref) (fun i σ H'=>∃ va,Same Hu H'/\Tups H2 H'/\H' r=some (.lst (ps.map V.ref))/\KnAt H' kd (own.take i)/\σ=[some (.ref p),some (.ref o.u),some (.ref r),some (.ref kd),va,none,none]) ⟨none,s3,.of (zk hkd _),old hkd hr2,⟨[],zf,Nat.le_refl _,fun z k=>rfl⟩,rfl⟩ (fun i σ H' _ h=>?_) ?_ ?_⟩
  · obtain ⟨_,_,_,h,_⟩:=h
    exact SqL.of h
  · rintro i v σ H3 hv ⟨va,s3,t3,hr3,K3,rfl⟩
    rw [List.getElem?_map] at hv
    obtain ⟨t,ht,rfl⟩:=Option.map_eq_some_iff.mp hv
    obtain ⟨rw1,hrw,q1,ht1,-⟩:=All2.get hR2 ht
    have ht3:=t3 _ _ ht1
    have hi:=(List.getElem?_eq_some_iff.mp hrw).1
    refine ⟨_,rfl,_,rfl,ixT ht3 aI0 ⟨_,rfl,ixT ht3 aI1 ⟨sN2,fun tk htk=>?_⟩⟩⟩
    have s4:=s3.new (o:=.tup [.str rw1.z,.int ((rw1.k:Nat):Int)]) htk
    have s34:=zk (o:=.tup [.str rw1.z,.int ((rw1.k:Nat):Int)]) htk
    have hk4:=zf (H:=H3) (a:=tk) (o:=.tup [.str rw1.z,.int ((rw1.k:Nat):Int)])
    generalize upd H3 tk (.tup [.str rw1.z,.int ((rw1.k:Nat):Int)])=H4 at *
    obtain ⟨kk,kk1,kk2,kk3⟩:=K3
    have kk4:=s34 _ _ kk1
    rw [List.length_take] at kk2
    refine ⟨kd,_,rfl,DPut.t (k:=kz rw1.z rw1.k) kk4 hk4 (by lia),?_⟩
    refine ⟨_,s4.put fkd,fun b xs e=>?_,by rw [zg nrk]; exact s34 _ _ hr3,?_,rfl⟩
    · have e4:=s34 _ _ (t3 _ _ e)
      rw [zg (fun y=>by rw [y,kk4] at e4; cases e4)]
      exact e4
    · rw [List.take_add_one,hrw]
      exact KnAt.put ⟨kk,kk4,by rw [List.length_take]; exact kk2,kk3⟩ kk4
  rintro σ H3 ⟨va,s3,t3,hr3,K3,rfl⟩
  rw [List.length_map,<- ol2,List.take_of_length_le (Nat.le_refl _)] at K3
  have hR3:=hR2.keep t3
  refine ⟨fun m σ H'=>∃ (rows:List Rw) (ps:List Addr) (a:Nat) (vr vh:Option V),unk cs rows + (rows.length - a)<=m/\a<=rows.length/\runR st m a rows=runR st (unk cs own + own.length) 0 own/\rows.length + unk cs rows<=200000/\Same Hu H'/\H' r=some (.lst (ps.map V.ref))/\RowsAt H' rows ps/\KnAt H' kd rows/\σ=[some (.ref p),some (.ref o.u),some (.ref r),some (.ref kd),vr,some (.int ((a:Nat):Int)),vh],
    ⟨_,own,ps,0,va,none,Nat.le_refl _,Nat.zero_le _,rfl,by have:=VV cs own; lia,s3,hr3,hR3,K3,rfl⟩,?_⟩
  rintro m σ H4 ⟨rows,ps,a,vr,vh,hm,ha,hrun,hB,s4,hr4,hR4,K4,rfl⟩
  have rl:=All2.len hR4
  refine ⟨_,rfl,_,rfl,r,_,rfl,.inl (SqL.of hr4),_,_,rfl,rfl,_,rfl,?_⟩
  rw [List.length_map,<- rl]
  by_cases ca:a < rows.length
  · rw [decide_eq_true (p:=((a:Nat):Int) < ((rows.length:Nat):Int)) (by lia)]
    refine iteT ⟨_,fun _ _ h=>h,?_⟩
    refine cutD (fun D_ fin=>?_) (fun _ _ h=>h)
    obtain ⟨rw1,hrw⟩:∃ x,rows[a]?=some x:=⟨_,List.getElem?_eq_getElem ca⟩
    obtain ⟨t,ht,q1,ht1,-⟩:=All2.getl hR4 hrw
    have hx:atI (ps.map V.ref) ((a:Nat):Int)=some (.ref t):=ym (by rw [List.getElem?_map,ht]; rfl)
    refine ⟨_,rfl,_,rfl,r,_,_,_,rfl,rfl,SqL.of hr4,hx,ixT ht1 aI0 ⟨_,rfl,_,rfl,r,_,_,_,rfl,rfl,SqL.of hr4,hx,ixT ht1 aI1 ⟨sN2,fun tk htk=>?_⟩⟩⟩
    have s5:=s4.new (o:=.tup [.str rw1.z,.int ((rw1.k:Nat):Int)]) htk
    have s45:=zk (o:=.tup [.str rw1.z,.int ((rw1.k:Nat):Int)]) htk
    have hk5:=zf (H:=H4) (a:=tk) (o:=.tup [.str rw1.z,.int ((rw1.k:Nat):Int)])
    generalize upd H4 tk (.tup [.str rw1.z,.int ((rw1.k:Nat):Int)])=H5 at *
    have U5:=U1.same s5
    obtain ⟨kc,f1,f2,f3,f4⟩:=U5.c
    refine ⟨_,rfl,o.u,cU,o.dx,_,.ref o.dc,rfl,U5.ob,N.cl,N.b3,rfl,o.dc,rfl,.inr ⟨kc,.of f1⟩,_,rfl,sN0,fun le hle=>⟨_,DGet.t (k:=kz rw1.z rw1.k) (old hle f1) (old hle hk5),?_⟩⟩
    have s6:=s5.new (o:=.lst []) hle
    have s56:=zk (o:=.lst []) hle
    have hle6:=zf (H:=H5) (a:=le) (o:=.lst [])
    generalize upd H5 le (.lst [])=H6 at *
    obtain ⟨l,ts,el,hl6,hts,nl⟩:∃ l ts,(valV kc (kz rw1.z rw1.k)).getD (.ref le)=.ref l/\H6 l=some (.lst (ts.map V.ref))/\PairsAt H6 (st.C rw1.z rw1.k) ts/\l≠r:=by
      rcases f4 rw1.z rw1.k with ⟨y1,y2⟩ | ⟨l,ts,y1,y2,y3,y4⟩
      · refine ⟨le,[],by rw [y1]; rfl,hle6,by rw [y2]; exact .nil,fun y=>?_⟩
        have:=s45 _ _ hr4
        rw [<- y,hle] at this
        cases this
      · refine ⟨l,ts,by rw [y1]; rfl,s56 _ _ y3,y4.keep (.of s56),fun y=>?_⟩
        obtain ⟨_,e⟩:=U1.ll l y2
        rw [y,hr0] at e
        cases e
    rw [el]
    have hR6:=hR4.keep (.of (s45.trans s56))
    have hr6:=s56 _ _ (s45 _ _ hr4)
    have K6:KnAt H6 kd rows:=by
      obtain ⟨kk,y1,y2⟩:=K4
      exact ⟨kk,s56 _ _ (s45 _ _ y1),y2⟩
    have hk6:=s56 _ _ hk5
    have tl:=All2.len hts
    have hCr:=hC rw1.z rw1.k
    generalize ecc:st.C rw1.z rw1.k=cc at *
    refine ⟨l,rfl,⟨_,SqL.of hl6⟩,yN (xs:=ts.map V.ref) (fun i σ H'=>∃ (ps:List Addr) (va:Option V),Same Hu H'/\Tups H6 H'/\H' l=some (.lst (ts.map V.ref))/\H' r=some (.lst (ps.map V.ref))/\RowsAt H' ((cc.take i).foldl (zD rw1.z rw1.k) rows) ps/\KnAt H' kd ((cc.take i).foldl (zD rw1.z rw1.k) rows)/\σ=[some (.ref p),some (.ref o.u),some (.ref r),some (.ref kd),va,some (.int ((a:Nat):Int)),some (.ref tk)]) ⟨ps,_,s6,fun _ _ h=>h,hl6,hr6,hR6,K6,rfl⟩ (fun i σ H' _ h=>?_) ?_ ?_⟩
    · obtain ⟨_,_,_,_,h,_⟩:=h
      exact SqL.of h
    · rintro i v σ H7 hv ⟨ps,va,s7,t7,hl7,hr7,hR7,K7,rfl⟩
      rw [List.getElem?_map] at hv
      obtain ⟨t2,ht2,rfl⟩:=Option.map_eq_some_iff.mp hv
      obtain ⟨c,hc,ht6⟩:=All2.get hts ht2
      have ht7:=t7 _ _ ht6
      have hk7:=t7 _ _ hk6
      have ef:(cc.take (i + 1)).foldl (zD rw1.z rw1.k) rows=zD rw1.z rw1.k ((cc.take i).foldl (zD rw1.z rw1.k) rows) c:=by rw [List.take_add_one,hc,List.foldl_append]; rfl
      have bnd:=(yS (cs:=cs) (g:=rw1.z) (j:=rw1.k) (l:=cc.take i) (rows:=rows) fun c' h'=>hCr c' (List.mem_of_mem_take h')).1
      rw [ef]
      generalize (cc.take i).foldl (zD rw1.z rw1.k) rows=rows' at *
      have rl':=All2.len hR7
      unfold yB
      dsimp only [List.set]
      refine cutD (fun D2_ fin2=>?_) (fun _ _ h=>h)
      refine ⟨_,rfl,ixT ht7 aI0 ⟨_,rfl,ixT ht7 aI1 ⟨sN2,fun tt htt=>?_⟩⟩⟩
      have s8:=s7.new (o:=.tup [.str c.1,.int ((c.2:Nat):Int)]) htt
      have s78:=zk (o:=.tup [.str c.1,.int ((c.2:Nat):Int)]) htt
      have htt8:=zf (H:=H7) (a:=tt) (o:=.tup [.str c.1,.int ((c.2:Nat):Int)])
      generalize upd H7 tt (.tup [.str c.1,.int ((c.2:Nat):Int)])=H8 at *
      obtain ⟨kk,kk1,kk2,kk3⟩:=K7
      have kk8:=s78 _ _ kk1
      refine ⟨_,rfl,kd,_,rfl,DGet.t (k:=kz c.1 c.2) kk8 htt8,_,rfl,?_⟩
      rw [kk3]
      by_cases cin:(c.1,c.2)∈rows'.map Rw.key
      · rw [decide_eq_true cin]
        refine iteF (fin2 _ _ ⟨ps,_,s8,fun b xs e=>s78 _ _ (t7 _ _ e),s78 _ _ hl7,s78 _ _ hr7,?_,?_,rfl⟩)
        · unfold zD
          rw [if_pos cin]
          exact hR7.keep (.of s78)
        · unfold zD
          rw [if_pos cin]
          exact ⟨kk,kk8,kk2,kk3⟩
      rw [decide_eq_false cin]
      refine iteT ?_
      have ht8:=s78 _ _ ht7
      refine ⟨_,rfl,_,rfl,ixT ht8 aI0 ⟨_,rfl,ixT ht8 aI1 ⟨sN2,fun tu htu=>?_⟩⟩⟩
      have s9:=s8.new (o:=.tup [.str c.1,.int ((c.2:Nat):Int)]) htu
      have s79:=s78.new (o:=.tup [.str c.1,.int ((c.2:Nat):Int)]) htu
      have htu9:=zf (H:=H8) (a:=tu) (o:=.tup [.str c.1,.int ((c.2:Nat):Int)])
      generalize upd H8 tu (.tup [.str c.1,.int ((c.2:Nat):Int)])=H9 at *
      have kk9:=s79 _ _ kk1
      refine ⟨kd,_,rfl,DPut.t (k:=kz c.1 c.2) kk9 htu9 (by lia),?_⟩
      have s10:=s9.put (o:=.dT (putK kk (kz c.1 c.2) (.bl true))) fkd
      have up10:∀ b u,b≠kd->H7 b=some u->upd H9 kd (.dT (putK kk (kz c.1 c.2) (.bl true))) b=some u:=fun b u n e=>by rw [zg n]; exact s79 _ _ e
      have t10:Tups H7 (upd H9 kd (.dT (putK kk (kz c.1 c.2) (.bl true)))):=fun b xs e=>up10 b _ (fun y=>by rw [y,kk1] at e; cases e) e
      have K10:KnAt (upd H9 kd (.dT (putK kk (kz c.1 c.2) (.bl true)))) kd (rows' ++ [⟨c.1,c.2,.called rw1.z rw1.k⟩]):=KnAt.put (r:=⟨c.1,c.2,.called rw1.z rw1.k⟩) ⟨kk,kk9,kk2,kk3⟩ kk9
      have hr10:=up10 _ _ nrk hr7
      have hl10:=up10 _ _ (fun y=>by rw [y,kk1] at hl7; cases hl7) hl7
      generalize upd H9 kd (.dT (putK kk (kz c.1 c.2) (.bl true)))=H10 at *
      have ht10:=t10 _ _ ht7
      have hk10:=t10 _ _ hk7
      refine ⟨_,rfl,.inl ⟨rfl,_,SqL.of hr10⟩,_,rfl,ixT ht10 aI0 ⟨_,rfl,ixT ht10 aI1 ⟨_,rfl,ixT hk10 aI0 ⟨_,rfl,ixT hk10 aI1 ⟨sN3,fun q2 hq2=>⟨sN3,fun t3 ht3=>?_⟩⟩⟩⟩⟩⟩
      have s11:=s10.new (o:=.tup [.str "called",.str rw1.z,.int ((rw1.k:Nat):Int)]) hq2
      have x11:=zk (o:=.tup [.str "called",.str rw1.z,.int ((rw1.k:Nat):Int)]) hq2
      have hq11:=zf (H:=H10) (a:=q2) (o:=.tup [.str "called",.str rw1.z,.int ((rw1.k:Nat):Int)])
      generalize upd H10 q2 (.tup [.str "called",.str rw1.z,.int ((rw1.k:Nat):Int)])=H11 at *
      have s12:=s11.new (o:=.tup [.str c.1,.int ((c.2:Nat):Int),.ref q2]) ht3
      have x12:=x11.new (o:=.tup [.str c.1,.int ((c.2:Nat):Int),.ref q2]) ht3
      have hq12:=old (o:=.tup [.str c.1,.int ((c.2:Nat):Int),.ref q2]) ht3 hq11
      have ht12:=zf (H:=H11) (a:=t3) (o:=.tup [.str c.1,.int ((c.2:Nat):Int),.ref q2])
      generalize upd H11 t3 (.tup [.str c.1,.int ((c.2:Nat):Int),.ref q2])=H12 at *
      have hr12:=x12 _ _ hr10
      refine ⟨r,_,_,rfl,rfl,hr12,by rw [List.length_map]; lia,?_⟩
      have tp:Tups H12 (upd H12 r (.lst (ps.map V.ref ++ [.ref t3]))):=fun b xs e=>by rw [zg (fun y=>by rw [y,hr12] at e; cases e)]; exact e
      have t712:Tups H7 H12:=fun b xs e=>x12 _ _ (t10 _ _ e)
      refine fin2 _ _ ⟨ps ++ [t3],_,s12.put hr0,fun b xs e=>tp _ _ (t712 _ _ (t7 _ _ e)),by rw [zg nl]; exact x12 _ _ hl10,by rw [zf,List.map_append]; rfl,?_,?_,rfl⟩
      · unfold zD
        rw [if_neg cin]
        exact All2.app ((hR7.keep t712).keep tp) (.cons ⟨q2,tp _ _ ht12,tp _ _ hq12⟩ .nil)
      · unfold zD
        rw [if_neg cin]
        obtain ⟨kk',y1,y2⟩:=K10
        exact ⟨kk',by rw [zg nrk.symm]; exact x12 _ _ y1,y2⟩
    rintro σ H7 ⟨ps,va,s7,t7,hl7,hr7,hR7,K7,rfl⟩
    rw [List.length_map,<- tl,List.take_of_length_le (Nat.le_refl _)] at hR7 K7
    have bnd:=yS (cs:=cs) (g:=rw1.z) (j:=rw1.k) (l:=cc) (rows:=rows) hCr
    obtain ⟨m',rfl⟩:∃ m',m=m' + 1:=⟨m - 1,by lia⟩
    refine ⟨_,rfl,_,_,rfl,rfl,fin _ _ ⟨m',by lia,_,ps,a + 1,_,_,?_,?_,?_,?_,s7,hr7,hR7,K7,rfl⟩⟩
    · lia
    · lia
    · rw [<- hrun]
      conv=>rhs; unfold runR
      rw [hrw]
      show _=runR st m' (a + 1) (xb st rows rw1)
      unfold xb
      rw [ecc]
    · lia
  · rw [decide_eq_false (p:=((a:Nat):Int) < ((rows.length:Nat):Int)) (by lia)]
    have e:runR st m a rows=rows:=by
      have:rows[a]?=none:=List.getElem?_eq_none (by lia)
      cases m with
      | zero=>rfl
      | succ m=>unfold runR; rw [this]
    rw [e] at hrun
    rw [<- hrun] at q
    exact iteF ⟨_,rfl,q _ r ps (k1.trans (.of s4)) (U1.tb.same s4) hr4 hR4⟩
def FoAt (H:Hp) (F:Df->List Bool) (dfs:List Df) (kvs:List (Key × V)):Prop:=All2 (fun (d:Df) (kv:Key × V)=>kv.1=.inr d.z/\∃ t,kv.2=.ref t/\H t=some (.tup ((F d).map V.bl))) dfs kvs
theorem FoAt.keep {H H':Hp} {F:Df->List Bool} {dfs:List Df} {kvs:List (Key × V)} (h:FoAt H F dfs kvs) (t:Tups H H'):FoAt H' F dfs kvs:=All2.imp h fun _ _ ⟨a,x,b,c⟩=>⟨a,x,b,t _ _ c⟩
def flg (dfs:List Df) (d:Df):List Bool:=(List.range d.ns.length).map fun k=>decide ((d.z,k)∈(zt dfs).map Rw.key)
theorem FoAt.none {H:Hp} {F:Df->List Bool} {dfs:List Df} {kvs:List (Key × V)} (h:FoAt H F dfs kvs) {z:Str} (n:z ∉ dfs.map (·.z)):valV kvs (.inr z)=none:=by
  unfold FoAt at h
  induction h with
  | nil=>rfl
  | @cons d kv l m a b ih =>
    rw [List.map_cons] at n
    obtain ⟨k,v⟩:=kv
    have e:k≠Sum.inr z:=fun y=>n (by rw [show k=Sum.inr d.z from a.1] at y; rw [Sum.inr.inj y]; exact List.mem_cons_self)
    have:=ih fun y=>n (List.mem_cons_of_mem _ y)
    rw [zQ e]
    exact this
def Zz (T1 T2:Addr):Sp:=fun vs H Q _=>∃ (p:Addr) (dfs:List Df),vs=[.ref p]/\PrOk H p dfs/\PrB dfs/\(dfs.map (·.z)).Nodup/\Tbs T1 T2 H/\∀ H' r kvs,KM (MT T1 T2) H H'->Tbs T1 T2 H'->H r=none->H' r=some (.dK kvs)->FoAt H' (flg dfs) dfs kvs->Q (.ref r) H'
theorem ZA {cs:List (Str × Nat)} {st:US} (hC:Cin cs st):∀ (f a:Nat) (rows:List Rw),(runR st f a rows).length<=rows.length + unk cs rows
  | 0,a,rows=>Nat.le_add_right _ _
  | f + 1,a,rows=>by
    unfold runR
    split
    · exact Nat.le_add_right _ _
    · rename_i r _
      have h1:=ZA hC f (a + 1) (xb st rows r)
      have h2:=(yS (cs:=cs) (g:=r.z) (j:=r.k) (l:=st.C r.z r.k) (rows:=rows) (hC r.z r.k)).1
      unfold xb at h1 ⊢
      lia
theorem Yy (dfs:List Df):(zt dfs).length<=2 * (cand dfs).length:=by
  have h1:=ZA (Cin.of dfs) (unk (cand dfs) (ownR (zv dfs) dfs) + (ownR (zv dfs) dfs).length) 0 (ownR (zv dfs) dfs)
  have h2:=xK (zv dfs) dfs
  have h3:=VV (cand dfs) (ownR (zv dfs) dfs)
  unfold zt
  lia
theorem X8 {l:List Str} {i:Nat} {x:Str} (h:l.Nodup) (e:l[i]?=some x):x ∉ l.take i:=by
  intro m
  obtain ⟨j,hj,e2⟩:=List.mem_iff_getElem.mp m
  obtain ⟨hi,e1⟩:=List.getElem?_eq_some_iff.mp e
  rw [List.length_take] at hj
  rw [List.getElem_take] at e2
  have:=(List.getElem_inj (h₀:=by lia) (h₁:=hi) h).mp (e2.trans e1.symm)
  lia
theorem scOwners:FnScope ["program","known","row","found","one"] ["program"] (zn jz):=.ok
theorem V4:(["program","known","row","found","one","k"]:List Str).Nodup:=by decide +kernel
theorem X9 {T1 T2:Addr} (F:Fun K "owners" "owners" jz f fd) (GR:Ca P w K mg base CX0 12 "reasons" ["program"] (wu T1 T2)) (m_len:mg "len"=none) (m_range:mg "range"=none) (m_tuple:mg "tuple"=none):FnOk P w K mg base CX0 13 f fd ["program"] (Zz T1 T2):=by
  refine F.by scOwners (fun vs H Q E h=>?_) (fun cdv A outer s H vs Q E hr h=>?_)
  · obtain ⟨p,dfs,rfl,_⟩:=h
    rfl
  obtain ⟨p,dfs,rfl,hp,hb,hnd,hT,q⟩:=h
  have hr12:Room 12 _:=hr.mono (by decide)
  have hr1:Room 1 _:=hr.mono (by decide)
  refine ⟨_,
    (zh (sE 1 scOwners.nd xJ)
    (zh (yd PassesOwn.never rfl (yi (cA GR hr12 (jA1 (jv 0)))) (gN 2 scOwners.nd)
      (zj (yK hr1 (jv 1) (zq (jA2 (xT 2) (xT 2))) wV)))
    (zh (sE 3 scOwners.nd xE)
    (zh (yd PassesOwn.never rfl (xp (xT 0)) (gN 4 scOwners.nd)
      (zj (yK hr1 (jv 3) (xT 4) (yn zP rfl m_tuple PyProof.Rows.boot_tuple (jA1 (z0 ["k"] rfl (zM rfl m_range (jA1 (jL m_len (xT 4)))) (fun _ _ _ _ _=>(gN 5 V4)) (fun _ _ _ _ _=>zO) (fun _ _ _ _ _=>(zbw hr1 (zq (jA2 (yy (yt K) (jv 4) zo (fun _ _=>rfl)) (jv 5))) (jv 1)))))))))
    (zj (zu (jv 3))))))),?_⟩
  have sl:=zW
  intro kd hkd
  have s1:=zk (o:=.dT []) hkd
  have hkd1:=zf (H:=H) (a:=kd) (o:=.dT [])
  have hp1:=hp.keep (.of s1)
  have hT1:=hT.same s1
  have k01:KM (MT T1 T2) H (upd H kd (.dT [])):=.of s1
  generalize upd H kd (.dT [])=H1 at *
  refine ⟨_,rfl,p,dfs,rfl,hp1,hb,hT1,fun H2 r ps k12 hT2 hr2 hR2=>?_⟩
  have tp12:=hT1.tups k12
  obtain ⟨pk,pd,ds,e1,e2,hF⟩:=(hp1.keep tp12).ex
  have k02:=k01.trans k12
  have hkd2:H2 kd=some (.dT []):=k12 _ _ (hT1.noT hkd1 (by intro _ z; cases z)) hkd1
  have eF:flg dfs=fun d=>(List.range d.ns.length).map fun k=>decide ((d.z,k)∈(zt dfs).map Rw.key):=rfl
  have bR:(zt dfs).length < 16000000:=by
    have:=Yy dfs
    have:=hb.l
    lia
  generalize zt dfs=rows at *
  have ol2:=All2.len hR2
  have nrk:r≠kd:=fun y=>by rw [y,hkd2] at hr2; cases hr2
  refine ⟨r,rfl,⟨_,SqL.of hr2⟩,yN (xs:=ps.map V.ref) (fun i σ H'=>∃ va,(∀ b u,b≠kd->H2 b=some u->H' b=some u)/\KnAt H' kd (rows.take i)/\σ=[some (.ref p),some (.ref kd),va,none,none]) ⟨none,fun b u _ e=>e,⟨[],hkd2,Nat.le_refl _,fun z k=>rfl⟩,rfl⟩ (fun i σ H' _ h=>?_) ?_ ?_⟩
  · obtain ⟨_,h,_⟩:=h
    exact SqL.of (h _ _ nrk hr2)
  · rintro i v σ H3 hv ⟨va,x3,K3,rfl⟩
    rw [List.getElem?_map] at hv
    obtain ⟨t,ht,rfl⟩:=Option.map_eq_some_iff.mp hv
    obtain ⟨rw1,hrw,q1,ht1,-⟩:=All2.get hR2 ht
    have ht3:=x3 _ _ (fun y=>by rw [y,hkd2] at ht1; cases ht1) ht1
    have hi:=(List.getElem?_eq_some_iff.mp hrw).1
    refine ⟨_,rfl,_,rfl,ixT ht3 aI0 ⟨_,rfl,ixT ht3 aI1 ⟨sN2,fun tk htk=>?_⟩⟩⟩
    have s34:=zk (o:=.tup [.str rw1.z,.int ((rw1.k:Nat):Int)]) htk
    have hk4:=zf (H:=H3) (a:=tk) (o:=.tup [.str rw1.z,.int ((rw1.k:Nat):Int)])
    generalize upd H3 tk (.tup [.str rw1.z,.int ((rw1.k:Nat):Int)])=H4 at *
    obtain ⟨kk,kk1,kk2,kk3⟩:=K3
    have kk4:=s34 _ _ kk1
    rw [List.length_take] at kk2
    refine ⟨kd,_,rfl,DPut.t (k:=kz rw1.z rw1.k) kk4 hk4 (by lia),?_⟩
    refine ⟨_,fun b u n e=>by rw [zg n]; exact s34 _ _ (x3 _ _ n e),?_,rfl⟩
    rw [List.take_add_one,hrw]
    exact KnAt.put ⟨kk,kk4,by rw [List.length_take]; exact kk2,kk3⟩ kk4
  rintro σ H3 ⟨va,x3,K3,rfl⟩
  rw [List.length_map,<- ol2,List.take_of_length_le (Nat.le_refl _)] at K3
  have t23:Tups H2 H3:=fun b xs e=>x3 _ _ (fun y=>by rw [y,hkd2] at e; cases e) e
  obtain ⟨kk,kk1,kk2,kk3⟩:=K3
  intro fo hfo
  have s4:=zk (o:=.dK []) hfo
  have hfo0:H fo=none:=by
    cases e:H fo with
    | none=>rfl
    | some u =>
      have nk:fo≠kd:=fun y=>by rw [y,hkd] at e; cases e
      have nm:¬ MT T1 T2 fo:=fun y=>by
        rcases y with y | y
        · obtain ⟨ps,h,_⟩:=hT2.t1
          have:=x3 _ _ (fun w=>by rw [w,hkd2] at h; cases h) h
          rw [<- y,hfo] at this
          cases this
        · obtain ⟨ps,h,_⟩:=hT2.t2
          have:=x3 _ _ (fun w=>by rw [w,hkd2] at h; cases h) h
          rw [<- y,hfo] at this
          cases this
      have:=x3 _ _ nk (k02 _ _ nm e)
      rw [hfo] at this
      cases this
  refine ⟨_,rfl,ixT (s4 _ _ (t23 _ _ e1)) aI1 ⟨pd,rfl,⟨_,SqT.of (s4 _ _ (t23 _ _ e2))⟩,xB (xs:=ds.map V.ref) (fun i σ H'=>∃ vb kvs,(∀ b u,H3 b=some u->H' b=some u)/\H' fo=some (.dK kvs)/\FoAt H' (flg dfs) (dfs.take i) kvs/\σ=[some (.ref p),some (.ref kd),va,some (.ref fo),vb]) ⟨none,[],s4,zf,.nil,rfl⟩ (fun i σ H' _ h=>?_) ?_ ?_⟩⟩
  · obtain ⟨_,_,h,_⟩:=h
    exact SqT.of (h _ _ (t23 _ _ e2))
  · rintro i v σ H5 hv ⟨vb,kvs,s5,hf5,hFo,rfl⟩
    rw [List.getElem?_map] at hv
    obtain ⟨t,ht,rfl⟩:=Option.map_eq_some_iff.mp hv
    obtain ⟨d,hd,hFd⟩:=hF.get ht
    obtain ⟨qn,pb,g1,g2,-⟩:=((hFd.keep t23).keep (.of s5)).ex
    have hdm:=hb.b d (List.mem_of_getElem? hd)
    have kk5:=s5 _ _ kk1
    refine ⟨_,rfl,ixT g1 aI1 ⟨qn,_,rfl,.inr (SqT.of g2),_,rfl,by lia,by rw [List.length_map]; lia,?_⟩⟩
    rw [show (((d.ns.map V.str).length:Nat):Int).toNat=d.ns.length by rw [List.length_map]; rfl]
    refine yg (n:=d.ns.length) (fun j τ ys H'=>Same H5 H'/\(∃ v,τ=[some (.ref p),some (.ref kd),va,some (.ref fo),some (.ref t),v])/\ys=((List.range j).map fun k=>decide ((d.z,k)∈rows.map Rw.key)).map V.bl) ⟨fun _ _ h=>h,⟨none,rfl⟩,rfl⟩ ?_ ?_
    · rintro j τ ys H6 hj ⟨s6,⟨v,rfl⟩,rfl⟩
      rw [Int.zero_add]
      refine ⟨_,rfl,ixT (s6 _ _ g1) aI0 ⟨_,rfl,sN2,fun tk htk=>?_⟩⟩
      have s7:=s6.new (o:=.tup [.str d.z,.int ((j:Nat):Int)]) htk
      have hk7:=zf (H:=H6) (a:=tk) (o:=.tup [.str d.z,.int ((j:Nat):Int)])
      generalize upd H6 tk (.tup [.str d.z,.int ((j:Nat):Int)])=H7 at *
      refine ⟨_,rfl,kd,_,rfl,DGet.t (k:=kz d.z j) (s7 _ _ kk5) hk7,?_⟩
      rw [kk3]
      refine ⟨by rw [List.length_map,List.length_map,List.length_range]; lia,s7,⟨_,rfl⟩,?_⟩
      rw [List.range_succ,List.map_append,List.map_append]
      rfl
    rintro τ ys H6 ⟨s6,⟨v,rfl⟩,rfl⟩ l hl
    have s7:=s6.new (o:=.lst (((List.range d.ns.length).map fun k=>decide ((d.z,k)∈rows.map Rw.key)).map V.bl)) hl
    have hl7:=zf (H:=H6) (a:=l) (o:=.lst (((List.range d.ns.length).map fun k=>decide ((d.z,k)∈rows.map Rw.key)).map V.bl))
    generalize upd H6 l (.lst (((List.range d.ns.length).map fun k=>decide ((d.z,k)∈rows.map Rw.key)).map V.bl))=H7 at *
    refine ⟨l,_,rfl,.inl ⟨SqL.of hl7,fun t8 ht8=>?_⟩⟩
    have s8:=s7.new (o:=.tup (((List.range d.ns.length).map fun k=>decide ((d.z,k)∈rows.map Rw.key)).map V.bl)) ht8
    have ht8':=zf (H:=H7) (a:=t8) (o:=.tup (((List.range d.ns.length).map fun k=>decide ((d.z,k)∈rows.map Rw.key)).map V.bl))
    generalize upd H7 t8 (.tup (((List.range d.ns.length).map fun k=>decide ((d.z,k)∈rows.map Rw.key)).map V.bl))=H8 at *
    have hf8:=s8 _ _ hf5
    have fl:=All2.len hFo
    rw [List.length_take] at fl
    have hi:=(List.getElem?_eq_some_iff.mp hd).1
    refine ⟨_,rfl,_,rfl,ixT (s8 _ _ g1) aI0 ⟨fo,_,rfl,DPut.k (k:=.inr d.z) hf8 (by have:=hb.n; lia),?_⟩⟩
    have nz:d.z ∉ (dfs.take i).map (·.z):=by
      rw [List.map_take]
      exact X8 hnd (by rw [List.getElem?_map,hd]; rfl)
    rw [WU _ (hFo.none nz)]
    have tp:Tups H8 (upd H8 fo (.dK (kvs ++ [(.inr d.z,.ref t8)]))):=fun b xs e=>by rw [zg (fun y=>by rw [y,hf8] at e; cases e)]; exact e
    refine ⟨_,_,fun b u e=>?_,zf,?_,rfl⟩
    · rw [zg (zi e hfo)]
      exact s8 _ _ (s5 _ _ e)
    · rw [List.take_add_one,hd]
      exact All2.app ((hFo.keep (.of s8)).keep tp) (.cons ⟨rfl,t8,rfl,by rw [eF]; exact tp _ _ ht8'⟩ .nil)
  rintro σ H5 ⟨vb,kvs,s5,hf5,hFo,rfl⟩
  rw [List.length_map,<- hF.len,List.take_of_length_le (Nat.le_refl _)] at hFo
  have x5:∀ b u,b≠kd->H2 b=some u->H5 b=some u:=fun b u n e=>s5 _ _ (x3 _ _ n e)
  have nkd:∀ {b:Addr} {u:HO},H2 b=some u->(∀ kk,u≠.dT kk)->b≠kd:=fun {b u} e n y=>by rw [y,hkd2] at e; exact n _ (Option.some.inj e).symm
  refine ⟨_,rfl,q H5 fo kvs (fun b u n e=>x5 _ _ (fun y=>by rw [y,hkd] at e; cases e) (k02 _ _ n e)) ⟨hT2.t1.keep (fun ps e=>x5 _ _ (nkd e (by intro _ z; cases z)) e) fun c q e=>x5 _ _ (nkd e (by intro _ z; unfold CodO at z; cases z)) e,hT2.t2.keep (fun ps e=>x5 _ _ (nkd e (by intro _ z; cases z)) e) fun c q e=>x5 _ _ (nkd e (by intro _ z; unfold CodO at z; cases z)) e⟩ hfo0 hf5 hFo⟩
end
theorem ZB:∀ {l:List Str} {k:Nat} {x:Str},l.Nodup->l.reverse[k]?=some x->pixR l x=some k
  | [],k,x,_,h=>by simp at h
  | y :: r,k,x,n,h=>by
    obtain ⟨n1,n2⟩:=List.nodup_cons.mp n
    rw [List.reverse_cons] at h
    unfold pixR
    by_cases e:k < r.reverse.length
    · rw [List.getElem?_append_left e] at h
      have hx:x∈r:=List.mem_reverse.mp (List.mem_of_getElem? h)
      rw [if_neg (fun z=>n1 (by rw [z]; exact hx))]
      exact ZB n2 h
    · rw [List.getElem?_append_right (by lia)] at h
      have hk:=(List.getElem?_eq_some_iff.mp h).1
      rw [List.length_singleton] at hk
      have ek:k=r.length:=by rw [List.length_reverse] at e hk; lia
      have:k - r.reverse.length=0:=by lia
      rw [this] at h
      have:y=x:=by simpa using h
      rw [if_pos this,ek]
theorem QI {ns:List Str} {k:Nat} {x:Str} (n:ns.Nodup) (h:ns[k]?=some x):pix ns x=some k:=by
  unfold pix
  exact ZB ((List.reverse_perm ns).nodup_iff.mpr n) (by rw [List.reverse_reverse]; exact h)
theorem Xo:∀ {l:List Str} {k:Nat} {x:Str},pixR l x=some k->x∈l
  | y :: r,k,x,h=>by
    unfold pixR at h
    split at h
    · rename_i e; rw [e]; exact List.mem_cons_self
    · exact List.mem_cons_of_mem _ (Xo h)
theorem zbC {ns:List Str} {k:Nat} {x:Str} (h:pix ns x=some k):x∈ns:=List.mem_reverse.mp (Xo h)
theorem zbD {ns:List Str} {k:Nat} {r:Str} {b:Bd} (h:RsB ns k r b):r≠"":=by
  cases b with
  | give x=>rw [h.2]; decide
  | iff x a b=>exact h.elim
  | case x as=>rw [h.2.2]; decide
  | lt y d e =>
    cases d with
    | num i=>exact h.elim
    | op w a b=>exact h.elim
    | app w f xs =>
      rcases h with h | h
      · rw [h.2.2]; decide
      · rw [h.2.2]; decide
def nmC (s:Str) (k:Nat):Str:=lt (k % 26) ++ s ++ lt (k / 26 % 26) ++ ("z":Str)
theorem V5 (s:Str) (k:Nat):cl (nmC s k)=(97 + k % 26) :: (cl s ++ [97 + k / 26 % 26,122]):=by
  unfold nmC
  rw [we,we,we]
  show ([97 + k % 26] ++ cl s ++ [97 + k / 26 % 26]) ++ [122]=_
  simp
theorem jP {s:Str} {j k:Nat} (hj:j < 676) (hk:k < 676) (h:nmC s j=nmC s k):j=k:=by
  have e:=congrArg cl h
  rw [V5,V5] at e
  injection e with e1 e2
  have e2:=List.append_cancel_left e2
  injection e2 with e3 _
  lia
def par (s:Str) (w a:Nat):List Str:=(List.range w).map fun k=>nmC s (a + k)
theorem zL {s:Str} {w a:Nat}:(par s w a).length=w:=by unfold par; rw [List.length_map,List.length_range]
theorem wN {s:Str} {w a j:Nat} (h:j < w):(par s w a)[j]?=some (nmC s (a + j)):=by unfold par; rw [List.getElem?_map,List.getElem?_range h]; rfl
theorem zbE {s x:Str} {w a:Nat} (h:x∈par s w a):∃ k,k < w/\x=nmC s (a + k):=by
  obtain ⟨k,hk,e⟩:=List.mem_map.mp h
  exact ⟨k,List.mem_range.mp hk,e.symm⟩
theorem zbF {s:Str} {w a:Nat} (h:w + a<=676):(par s w a).Nodup:=by
  unfold par List.Nodup
  rw [List.pairwise_map]
  refine List.Pairwise.imp_of_mem (fun {i j} hi hj n e=>n ?_) (List.nodup_range (n:=w))
  have h1:=List.mem_range.mp hi
  have h2:=List.mem_range.mp hj
  have:=jP (by lia) (by lia) e
  lia
theorem xO {s:Str} {w a j:Nat} (h:w + a<=676) (hj:j < w):pix (par s w a) (nmC s (a + j))=some j:=QI (zbF h) (wN hj)
theorem zbG {s:Str} {w a i k:Nat} (h:w + a<=676) (hi:i < 676) (n:i < a\/a + w<=i):pix (par s w a) (nmC s i)≠some k:=fun e=>by
  obtain ⟨k',hk,e⟩:=zbE (zbC e)
  have:=jP hi (by lia) e
  lia
def rot (l:List Str) (t:Nat):List Str:=l.drop t ++ l.take t
theorem Xp {l:List Str} {t j n:Nat} (hl:l.length=n) (ht:t < n) (hj:j < n):(rot l t)[j]?=l[(j + t) % n]?:=by
  unfold rot
  by_cases h:j + t < n
  · rw [Nat.mod_eq_of_lt h,List.getElem?_append_left (by rw [List.length_drop]; lia),List.getElem?_drop,Nat.add_comm]
  · have e:(j + t) % n=j + t - n:=by rw [Nat.mod_eq_sub_mod (by lia),Nat.mod_eq_of_lt (by lia)]
    rw [e,List.getElem?_append_right (by rw [List.length_drop]; lia),List.length_drop,List.getElem?_take,if_pos (by lia)]
    congr 1
    lia
theorem wO {l:List Str} {t:Nat}:(rot l t).length=l.length:=by unfold rot; rw [List.length_append,List.length_drop,List.length_take]; lia
structure Ch where
  s:Str
  w:Nat
  m:Nat
  e:Nat
  a:Nat
  t:Nat->Nat
  T:Nat
  b:Nat
def Ch.nm (c:Ch) (k:Nat):Str:=nmC c.s k
def Ch.ps (c:Ch):List Str:=par c.s c.w 10
def Ch.mine (c:Ch):Str:=c.nm (10 + (c.w - 1))
def Ch.fns (c:Ch):List Str:=(List.range (c.a + 1)).map fun k=>if k=c.a then c.mine else c.nm 90
def Ch.don (c:Ch):Bd:=if c.e=0 then .give c.mine else if c.e=1 then .lt (c.nm 92) (.app "func" (c.nm 99) c.fns) (.give (c.nm 90)) else if c.e=2 then .iff c.mine (.give (c.nm 90)) (.give (c.nm 90)) else .give (c.nm 90)
def Ch.lns (c:Ch):List Str:=c.nm 90 :: par c.s (c.w - 1) 10
def Ch.las (c:Ch):Bd:=.lt (c.nm 90) (.num 5) (.lt (c.nm 91) (.app "call" (c.nm 0) (rot c.lns c.T)) c.don)
def Ch.lnk (c:Ch) (k:Nat):Bd:=.lt (c.nm 91) (.app "call" (c.nm (k + 1)) (rot c.ps (c.t k))) (.give (c.nm 91))
def Ch.df (c:Ch) (k:Nat):Df:=⟨c.nm k,c.ps,if k + 1=c.m then c.las else c.lnk k⟩
def Ch.bes (c:Ch):Df:=⟨c.nm 99,par c.s c.b 1,.give (c.nm 1)⟩
def Ch.fw (c:Ch):Nat->Nat
  | 0=>0
  | k + 1=>c.fw k + c.t k
structure Ch.Ok (c:Ch):Prop where
  w0:0 < c.w
  w9:c.w<=9
  m9:c.m<=59
  t:∀ k,c.t k < c.w
  T:c.T < c.w
  z:0 < c.m->(c.fw (c.m - 1) + c.T) % c.w=0
  b:c.b<=9
  e:c.e=1->0 < c.b
def Ch.In (c:Ch) (dfs:List Df):Prop:=∀ d,d∈dfs↔(∃ k,k < c.m/\d=c.df k)\/(0 < c.b/\d=c.bes)
section
variable {c:Ch} {dfs:List Df}
theorem Ch.nm_inj {j k:Nat} (hj:j < 676) (hk:k < 676) (h:c.nm j=c.nm k):j=k:=jP hj hk h
theorem Ch.lns_get (o:c.Ok) {u:Nat} (h:u + 1 < c.w):c.lns[u + 1]?=some (c.nm (10 + u)):=by
  unfold Ch.lns
  rw [List.getElem?_cons_succ,wN (by lia)]
  rfl
theorem Ch.lns_len (o:c.Ok):c.lns.length=c.w:=by
  have:=o.w0
  unfold Ch.lns
  rw [List.length_cons,zL]; lia
theorem Ch.lnk_all {k:Nat} {b:Bd} (h:b∈(c.lnk k).all):b=c.lnk k\/b=.give (c.nm 91):=by
  unfold Ch.lnk at h ⊢
  unfold Bd.all Bd.all at h
  rcases List.mem_cons.mp h with h | h
  · exact .inl h
  · exact .inr (List.mem_singleton.mp h)
def Ch.la1 (c:Ch):Bd:=.lt (c.nm 91) (.app "call" (c.nm 0) (rot c.lns c.T)) c.don
theorem Ch.las_all {b:Bd} (h:b∈c.las.all):b=c.las\/b=c.la1\/b∈c.don.all:=by
  have e:c.las.all=c.las :: c.la1 :: c.don.all:=by
    unfold Ch.las Ch.la1
    rw [Bd.all,Bd.all]
  rw [e] at h
  rcases List.mem_cons.mp h with h | h
  · exact .inl h
  · exact .inr (List.mem_cons.mp h)
theorem Ch.don_all {b:Bd} (h:b∈c.don.all):b=c.don\/(b=.give (c.nm 90)/\c.e≠0):=by
  unfold Ch.don at h ⊢
  by_cases n0:c.e=0
  · rw [if_pos n0] at h ⊢
    unfold Bd.all at h
    exact .inl (List.mem_singleton.mp h)
  rw [if_neg n0] at h ⊢
  by_cases n1:c.e=1
  · rw [if_pos n1] at h ⊢
    unfold Bd.all Bd.all at h
    rcases List.mem_cons.mp h with h | h
    · exact .inl h
    · exact .inr ⟨List.mem_singleton.mp h,n0⟩
  rw [if_neg n1] at h ⊢
  by_cases n2:c.e=2
  · rw [if_pos n2] at h ⊢
    unfold Bd.all Bd.all at h
    rcases List.mem_cons.mp h with h | h
    · exact .inl h
    · rcases List.mem_append.mp h with h | h
      · exact .inr ⟨List.mem_singleton.mp h,n0⟩
      · exact .inr ⟨List.mem_singleton.mp h,n0⟩
  · rw [if_neg n2] at h ⊢
    unfold Bd.all at h
    exact .inl (List.mem_singleton.mp h)
theorem Ch.df_all {k:Nat} {b:Bd} (h:b∈(c.df k).b.all):(k + 1≠c.m/\b=c.lnk k)\/(k + 1≠c.m/\b=.give (c.nm 91))\/(k + 1=c.m/\(b=c.las\/b=c.la1\/b=c.don\/(b=.give (c.nm 90)/\c.e≠0))):=by
  have h:b∈(if k + 1=c.m then c.las else c.lnk k).all:=h
  split at h
  · rename_i e
    exact .inr (.inr ⟨e,(Ch.las_all h).imp_right fun h=>h.imp_right Ch.don_all⟩)
  · rename_i e
    rcases Ch.lnk_all h with h | h
    · exact .inl ⟨e,h⟩
    · exact .inr (.inl ⟨e,h⟩)
theorem Ch.don_in:c.don∈c.las.all/\c.la1∈c.las.all:=by
  have e:c.las.all=c.las :: c.la1 :: c.don.all:=by
    unfold Ch.las Ch.la1
    rw [Bd.all,Bd.all]
  rw [e]
  refine ⟨List.mem_cons_of_mem _ (List.mem_cons_of_mem _ ?_),List.mem_cons_of_mem _ List.mem_cons_self⟩
  rw [Bd.all_ways]
  exact List.mem_cons_self
theorem Ch.lnk_in {k:Nat}:c.lnk k∈(c.lnk k).all:=by
  rw [Bd.all_ways]
  exact List.mem_cons_self
theorem Ch.cl_from (o:c.Ok) (I:c.In dfs) {g z:Str} {j k:Nat} (h:(z,k)∈(zv dfs).C g j):(∃ i,i < c.m/\z=c.nm i)/\g≠c.nm 99:=by
  rcases ((yp dfs).c g j (z,k)).mp h with h | ⟨d,hd,b,hb,k',q,e⟩
  · cases h
  obtain ⟨rfl,rfl⟩:=Prod.mk.inj e
  have m9:=o.m9
  rcases (I d).mp hd with ⟨i,hi,rfl⟩ | ⟨hb0,rfl⟩
  · refine ⟨⟨i,hi,rfl⟩,fun hg=>?_⟩
    rcases Ch.df_all hb with ⟨n,rfl⟩ | ⟨n,rfl⟩ | ⟨n,rfl | rfl | rfl | ⟨rfl,_⟩⟩
    · have:=Ch.nm_inj (by lia) (by decide) (q.2.1.trans hg)
      lia
    · exact q
    · exact q
    · have:=Ch.nm_inj (by decide) (by decide) (q.2.1.trans hg)
      lia
    · unfold Ch.don at q
      split at q
      · exact q
      split at q
      · exact absurd q.1 (by decide)
      split at q
      · exact q
      · exact q
    · exact q
  · have e:c.bes.b.all=[.give (c.nm 1)]:=by unfold Ch.bes Bd.all; rfl
    rw [e] at hb
    rw [List.mem_singleton.mp hb] at q
    exact q.elim
theorem Ch.hd_no (o:c.Ok) (I:c.In dfs) {g:Str} (h:(zv dfs).hd g=true):c.e=1/\0 < c.m/\g=c.nm 99:=by
  rcases ((yp dfs).hd g).mp h with h | ⟨d,hd,b,hb,q⟩
  · cases h
  rcases (I d).mp hd with ⟨i,hi,rfl⟩ | ⟨hb0,rfl⟩
  · rcases Ch.df_all hb with ⟨n,rfl⟩ | ⟨n,rfl⟩ | ⟨n,rfl | rfl | rfl | ⟨rfl,_⟩⟩
    · exact absurd q.1 (by decide)
    · exact q.elim
    · exact q.elim
    · exact absurd q.1 (by decide)
    · unfold Ch.don at q
      split at q
      · exact q.elim
      split at q
      · rename_i e
        exact ⟨e,by lia,q.2.symm⟩
      split at q
      · exact q.elim
      · exact q.elim
    · exact q.elim
  · have e:c.bes.b.all=[.give (c.nm 1)]:=by unfold Ch.bes Bd.all; rfl
    rw [e] at hb
    rw [List.mem_singleton.mp hb] at q
    exact q.elim
theorem Ch.las_df (hm:0 < c.m):(c.df (c.m - 1)).b=c.las:=by
  show (if c.m - 1 + 1=c.m then c.las else c.lnk (c.m - 1))=_
  exact if_pos (by lia)
theorem Ch.hd_yes (o:c.Ok) (I:c.In dfs) (e:c.e=1) (hm:0 < c.m):(zv dfs).hd (c.nm 99)=true:=by
  refine ((yp dfs).hd _).mpr (.inr ⟨c.df (c.m - 1),(I _).mpr (.inl ⟨_,by lia,rfl⟩),c.don,by rw [Ch.las_df hm]; exact Ch.don_in.1,?_⟩)
  unfold Ch.don
  rw [if_neg (by lia),if_pos e]
  exact ⟨rfl,rfl⟩
theorem Ch.f_from (o:c.Ok) (I:c.In dfs) {z r:Str} {k:Nat} (h:(zv dfs).F z k=some r):r≠""/\((c.e < 2/\∃ i,i < c.m/\z=c.nm i)\/(z=c.nm 99/\k=0)):=by
  rcases (yp dfs).f1 z k r h with h | ⟨d,hd,rfl,b,hb,q⟩
  · cases h
  refine ⟨zbD q,?_⟩
  have w9:=o.w9
  rcases (I d).mp hd with ⟨i,hi,rfl⟩ | ⟨hb0,rfl⟩
  · have no:∀ {n:Nat},n < 676->10 + c.w<=n->pix c.ps (c.nm n)≠some k:=fun h1 h2=>zbG (by lia) h1 (.inr h2)
    rcases Ch.df_all hb with ⟨n,rfl⟩ | ⟨n,rfl⟩ | ⟨n,rfl | rfl | rfl | ⟨rfl,_⟩⟩
    · rcases q with q | q
      · exact absurd q.1 (by decide)
      · exact absurd q.1 (by decide)
    · exact absurd q.1 (no (by decide) (by lia))
    · exact q.elim
    · rcases q with q | q
      · exact absurd q.1 (by decide)
      · exact absurd q.1 (by decide)
    · unfold Ch.don at q
      split at q
      · exact .inl ⟨by lia,i,hi,rfl⟩
      split at q
      · exact .inl ⟨by lia,i,hi,rfl⟩
      split at q
      · exact q.elim
      · exact absurd q.1 (no (by decide) (by lia))
    · exact absurd q.1 (no (by decide) (by lia))
  · have e:c.bes.b.all=[.give (c.nm 1)]:=by unfold Ch.bes Bd.all; rfl
    rw [e] at hb
    rw [List.mem_singleton.mp hb] at q
    refine .inr ⟨rfl,?_⟩
    have h1:pix (par c.s c.b 1) (nmC c.s (1 + 0))=some k:=q.1
    rw [xO (by have:=o.b; lia) hb0] at h1
    exact (Option.some.inj h1).symm
theorem V6 {d:Df} {k:Nat} (hd:d∈dfs) (hk:k < d.ns.length) (h:rsn (zv dfs) d.z k≠""):(d.z,k)∈(zt dfs).map Rw.key:=by
  refine List.mem_map.mpr ⟨⟨d.z,k,.own (rsn (zv dfs) d.z k)⟩,VX ?_,rfl⟩
  unfold ownR ownD
  refine List.mem_flatMap.mpr ⟨d,hd,List.mem_flatMap.mpr ⟨k,List.mem_range.mpr hk,?_⟩⟩
  unfold own1
  rw [if_pos h]
  exact List.mem_singleton.mpr rfl
theorem ZC {st:US} {r:Rw} (h:r∈ownR st dfs):rsn st r.z r.k≠"":=by
  unfold ownR ownD at h
  obtain ⟨d,hd,h⟩:=List.mem_flatMap.mp h
  obtain ⟨k,hk,h⟩:=List.mem_flatMap.mp h
  unfold own1 at h
  split at h
  · rename_i n
    rw [List.mem_singleton.mp h]
    exact n
  · cases h
theorem Ch.rsn_f (o:c.Ok) (I:c.In dfs) {z:Str} {k:Nat} (h:((zv dfs).F z k).isSome=true):rsn (zv dfs) z k≠"":=by
  unfold rsn
  split
  · decide
  · obtain ⟨r,e⟩:=Option.isSome_iff_exists.mp h
    rw [e]
    exact (Ch.f_from o I e).1
theorem Ch.rsn_from (o:c.Ok) (I:c.In dfs) {z:Str} {k:Nat} (h:rsn (zv dfs) z k≠""):(c.e < 2/\∃ i,i < c.m/\z=c.nm i)\/(z=c.nm 99/\(k=0\/(c.e=1/\0 < c.m))):=by
  unfold rsn at h
  split at h
  · rename_i e
    obtain ⟨a,b,d⟩:=Ch.hd_no o I e
    exact .inr ⟨d,.inr ⟨a,b⟩⟩
  · cases e:(zv dfs).F z k with
    | none=>rw [e] at h; exact absurd rfl h
    | some r=>exact (Ch.f_from o I e).2.imp_right fun h=>⟨h.1,.inl h.2⟩
theorem Ch.keys_due (o:c.Ok) (I:c.In dfs) {z:Str} {k:Nat} (h:(z,k)∈(zt dfs).map Rw.key):(c.e < 2/\∃ i,i < c.m/\z=c.nm i)\/(z=c.nm 99/\(k=0\/(c.e=1/\0 < c.m))):=by
  obtain ⟨r,hr,e⟩:=List.mem_map.mp h
  have m9:=o.m9
  by_cases h2:c.e < 2
  · rcases VY hr with h | ⟨s,_,_,h⟩
    · have:=Ch.rsn_from o I (ZC h)
      obtain ⟨rfl,rfl⟩:=Prod.mk.inj e
      exact this
    · rw [e] at h
      exact .inl ⟨h2,(Ch.cl_from o I h).1⟩
  · have a:=Zw (dfs:=dfs) (fun q=>q.1=c.nm 99/\q.2=0) (fun r hr=>?_) (fun s hs q hq=>?_) r hr
    · rw [e] at a
      exact .inr ⟨a.1,.inl a.2⟩
    · rcases Ch.rsn_from o I (ZC hr) with h | h
      · exact absurd h.1 h2
      · exact ⟨h.1,h.2.resolve_right fun y=>by lia⟩
    · exact absurd hs.1 (Ch.cl_from (z:=q.1) (k:=q.2) o I hq).2
theorem Ch.link (o:c.Ok) (I:c.In dfs) {k j:Nat} (hk:k + 1 < c.m) (hj:j < c.w) (h:(c.nm (k + 1),j)∈(zt dfs).map Rw.key):(c.nm k,(j + c.t k) % c.w)∈(zt dfs).map Rw.key:=by
  obtain ⟨r,hr,e⟩:=List.mem_map.mp h
  obtain ⟨e1,e2⟩:=Prod.mk.inj e
  refine wE hr ?_
  rw [e1,e2]
  refine ((yp dfs).c _ _ _).mpr (.inr ⟨c.df k,(I _).mpr (.inl ⟨k,by lia,rfl⟩),c.lnk k,?_,(j + c.t k) % c.w,⟨rfl,rfl,c.nm (10 + (j + c.t k) % c.w),?_,?_⟩,rfl⟩)
  · rw [show (c.df k).b=c.lnk k from if_neg (by lia)]
    exact Ch.lnk_in
  · refine (Xp (n:=c.w) zL (o.t k) hj).trans ?_
    exact wN (Nat.mod_lt _ o.w0)
  · exact xO (by have:=o.w9; lia) (Nat.mod_lt _ o.w0)
theorem Ch.turn (o:c.Ok) (I:c.In dfs) (hm:0 < c.m) {j u:Nat} (hj:j < c.w) (hu:(j + c.T) % c.w=u + 1) (h:(c.nm 0,j)∈(zt dfs).map Rw.key):(c.nm (c.m - 1),u)∈(zt dfs).map Rw.key:=by
  obtain ⟨r,hr,e⟩:=List.mem_map.mp h
  obtain ⟨e1,e2⟩:=Prod.mk.inj e
  have lu:=Nat.mod_lt (j + c.T) o.w0
  have w9:=o.w9
  refine wE hr ?_
  rw [e1,e2]
  refine ((yp dfs).c _ _ _).mpr (.inr ⟨c.df (c.m - 1),(I _).mpr (.inl ⟨_,by lia,rfl⟩),c.la1,?_,u,⟨rfl,rfl,c.nm (10 + u),?_,?_⟩,rfl⟩)
  · rw [Ch.las_df hm]
    exact Ch.don_in.2
  · rw [Xp (Ch.lns_len o) o.T hj,hu]
    exact Ch.lns_get o (by lia)
  · exact xO (by lia) (by lia)
theorem Ch.back (o:c.Ok) (I:c.In dfs) {u:Nat} (hu:u < c.w) (h:(c.nm (c.m - 1),u)∈(zt dfs).map Rw.key):∀ n,n < c.m->∃ f,f + c.fw (c.m - 1 - n)=c.fw (c.m - 1)/\(c.nm (c.m - 1 - n),(u + f) % c.w)∈(zt dfs).map Rw.key
  | 0,_=>⟨0,by rw [Nat.sub_zero,Nat.zero_add],by rw [Nat.sub_zero,Nat.add_zero,Nat.mod_eq_of_lt hu]; exact h⟩
  | n + 1,hn=>by
    obtain ⟨f,e,m⟩:=Ch.back o I hu h n (by lia)
    have ek:c.m - 1 - n=c.m - 1 - (n + 1) + 1:=by lia
    rw [ek] at e m
    refine ⟨f + c.t (c.m - 1 - (n + 1)),?_,?_⟩
    · have e:f + (c.fw (c.m - 1 - (n + 1)) + c.t (c.m - 1 - (n + 1)))=c.fw (c.m - 1):=e
      lia
    · have:=Ch.link o I (by lia) (Nat.mod_lt _ o.w0) m
      rw [Nat.mod_add_mod,Nat.add_assoc] at this
      exact this
theorem Ch.down (o:c.Ok) (I:c.In dfs) (hm:0 < c.m) {u:Nat} (hu:u + 1 < c.w) (h:(c.nm (c.m - 1),u + 1)∈(zt dfs).map Rw.key):(c.nm (c.m - 1),u)∈(zt dfs).map Rw.key:=by
  obtain ⟨f,e,m⟩:=Ch.back o I hu h (c.m - 1) (by lia)
  rw [Nat.sub_self] at e m
  have e:f=c.fw (c.m - 1):=e
  subst e
  refine Ch.turn o I hm (Nat.mod_lt _ o.w0) ?_ m
  rw [Nat.mod_add_mod,Nat.add_assoc,Nat.add_mod,o.z hm,Nat.add_zero,Nat.mod_mod,Nat.mod_eq_of_lt hu]
theorem Ch.last_all (o:c.Ok) (I:c.In dfs) (hm:0 < c.m) (h:(c.nm (c.m - 1),c.w - 1)∈(zt dfs).map Rw.key):∀ n,n < c.w->(c.nm (c.m - 1),c.w - 1 - n)∈(zt dfs).map Rw.key
  | 0,_=>h
  | n + 1,hn=>Ch.down o I hm (by lia) (by rw [show c.w - 1 - (n + 1) + 1=c.w - 1 - n by lia]; exact Ch.last_all o I hm h n (by lia))
theorem Ch.chain_all (o:c.Ok) (I:c.In dfs) (e:c.e < 2) {i k:Nat} (hi:i < c.m) (hk:k < c.w):(c.nm i,k)∈(zt dfs).map Rw.key:=by
  have w0:=o.w0
  have w9:=o.w9
  have hm:0 < c.m:=by lia
  have pm:pix c.ps c.mine=some (c.w - 1):=xO (by lia) (by lia)
  have hl:(c.df (c.m - 1))∈dfs:=(I _).mpr (.inl ⟨_,by lia,rfl⟩)
  have h0:(c.nm (c.m - 1),c.w - 1)∈(zt dfs).map Rw.key:=by
    refine V6 (d:=c.df (c.m - 1)) hl (by rw [show (c.df (c.m - 1)).ns=par c.s c.w 10 from rfl,zL]; lia) (Ch.rsn_f o I ?_)
    have hb:c.don∈(c.df (c.m - 1)).b.all:=by rw [Ch.las_df hm]; exact Ch.don_in.1
    by_cases h:c.e=0
    · refine (yp dfs).f3 _ hl _ "given" ⟨_,hb,?_⟩
      unfold Ch.don
      rw [if_pos h]
      exact ⟨pm,rfl⟩
    · refine (yp dfs).f3 _ hl _ "put" ⟨_,hb,?_⟩
      unfold Ch.don
      rw [if_neg h,if_pos (by lia)]
      refine .inl ⟨.inr (.inl rfl),⟨c.mine,?_,pm⟩,rfl⟩
      unfold Ch.fns
      exact List.mem_map.mpr ⟨c.a,List.mem_range.mpr (Nat.lt_succ_self _),if_pos rfl⟩
  have key:∀ u,u < c.w->(c.nm (c.m - 1),u)∈(zt dfs).map Rw.key:=fun u hu=>by
    have:=Ch.last_all o I hm h0 (c.w - 1 - u) (by lia)
    rw [show c.w - 1 - (c.w - 1 - u)=u by lia] at this
    exact this
  obtain ⟨f,hf,_⟩:=Ch.back o I w0 (key 0 w0) (c.m - 1 - i) (by lia)
  have hl:=Nat.mod_lt f w0
  have hdm:=Nat.mod_add_div f c.w
  obtain ⟨f',hf',m⟩:=Ch.back o I (Nat.mod_lt (k + (c.w - f % c.w)) w0) (key _ (Nat.mod_lt (k + (c.w - f % c.w)) w0)) (c.m - 1 - i) (by lia)
  have ef:f'=f:=by lia
  subst ef
  rw [show c.m - 1 - (c.m - 1 - i)=i by lia,Nat.mod_add_mod] at m
  have:(k + (c.w - f' % c.w) + f') % c.w=k:=by
    have:k + (c.w - f' % c.w) + f'=k + c.w * (f' / c.w + 1):=by
      rw [Nat.mul_add,Nat.mul_one]
      lia
    rw [this,Nat.add_mul_mod_self_left,Nat.mod_eq_of_lt hk]
  rw [this] at m
  exact m
theorem Ch.bes_in (o:c.Ok) (I:c.In dfs) {k:Nat} (hk:k < c.b) (h:k=0\/(c.e=1/\0 < c.m)):(c.nm 99,k)∈(zt dfs).map Rw.key:=by
  have hb:c.bes∈dfs:=(I _).mpr (.inr ⟨by lia,rfl⟩)
  refine V6 (d:=c.bes) hb (by rw [show c.bes.ns=par c.s c.b 1 from rfl,zL]; exact hk) ?_
  rcases h with rfl | h
  · refine Ch.rsn_f o I ((yp dfs).f3 _ hb 0 "given" ⟨.give (c.nm 1),?_,?_,rfl⟩)
    · unfold Ch.bes Bd.all
      exact List.mem_singleton.mpr rfl
    · exact xO (a:=1) (j:=0) (by have:=o.b; lia) hk
  · unfold rsn
    rw [show (zv dfs).hd c.bes.z=true from Ch.hd_yes o I h.1 h.2,if_pos rfl]
    decide
def Ch.due (c:Ch) (d:Df):List Bool:=if d.z=c.nm 99 then (List.range c.b).map fun k=>decide (c.e=1/\0 < c.m) || decide (k=0) else (List.range c.w).map fun _=>decide (c.e < 2)
theorem Ch.key_df (o:c.Ok) (I:c.In dfs) {i k:Nat} (hi:i < c.m) (hk:k < c.w):(c.nm i,k)∈(zt dfs).map Rw.key↔c.e < 2:=by
  refine ⟨fun h=>?_,fun h=>Ch.chain_all o I h hi hk⟩
  rcases Ch.keys_due o I h with h | h
  · exact h.1
  · have:=Ch.nm_inj (by have:=o.m9; lia) (by decide) h.1
    have:=o.m9
    lia
theorem Ch.key_bes (o:c.Ok) (I:c.In dfs) {k:Nat} (hk:k < c.b):(c.nm 99,k)∈(zt dfs).map Rw.key↔(k=0\/(c.e=1/\0 < c.m)):=by
  refine ⟨fun h=>?_,fun h=>Ch.bes_in o I hk h⟩
  rcases Ch.keys_due o I h with ⟨_,i,hi,h⟩ | h
  · have:=Ch.nm_inj (by decide) (by have:=o.m9; lia) h
    have:=o.m9
    lia
  · exact h.2
theorem Ch.flg_due (o:c.Ok) (I:c.In dfs) {d:Df} (hd:d∈dfs):flg dfs d=c.due d:=by
  rcases (I d).mp hd with ⟨i,hi,rfl⟩ | ⟨hb0,rfl⟩
  · unfold Ch.due
    rw [if_neg (fun h=>by have:=Ch.nm_inj (by have:=o.m9; lia) (by decide) (show c.nm i=c.nm 99 from h); have:=o.m9; lia)]
    unfold flg
    rw [show (c.df i).ns.length=c.w from zL]
    exact List.map_congr_left fun k hk=>decide_eq_decide.mpr (Ch.key_df o I hi (List.mem_range.mp hk))
  · unfold Ch.due
    rw [if_pos (show c.bes.z=c.nm 99 from rfl)]
    unfold flg
    rw [show c.bes.ns.length=c.b from zL]
    refine List.map_congr_left fun k hk=>?_
    rw [<- Bool.decide_or]
    exact decide_eq_decide.mpr ((Ch.key_bes o I (List.mem_range.mp hk)).trans or_comm)
end
abbrev V7:Stmt:=top 30
abbrev V8:Stmt:=top 31
abbrev Yz:Stmt:=top 32
def ZD:Sp:=fun vs H Q _=>∃ (s:Str) (k:Nat),vs=[.str s,.int (k:Nat)]/\s.length<=10/\Q (.str (nmC s k)) H
def V9:Sp:=fun vs H Q _=>∃ (s to:Str) (w t:Nat),vs=[.str s,.int (w:Nat),.int (t:Nat),.str to]/\s.length<=10/\w<=9/\∀ H' p,Same H H'->IsB H' (.lt (nmC s 91) (.app "call" to (rot (par s w 10) t)) (.give (nmC s 91))) p->Q (.ref p) H'
theorem wP {l:List Str} {t:Nat}:cutV (l.map V.str) (some (t:Int)) none ++ cutV (l.map V.str) none (some (t:Int))=(rot l t).map V.str:=by
  rw [Zg (by lia),Zf (by lia),<- List.map_append]
  rfl
section
variable {P:Program} {w:World} {K:PySem.W.Frag} {mg:Str->Option Value} {base:Heap} {f:Addr} {fd:FuncData}
theorem scNmC:FnScope ["_law_stem","_law_k","_law_letters"] lS6 (zn sNm):=.ok
theorem zbH (F:Fun K "_law_name" "_law_name" sNm f fd):FnOk P w K mg base CX0 1 f fd lS6 ZD:=by
  refine F.by scNmC (fun vs H Q E h=>?_) (fun cdv A outer s H vs Q E hr h=>?_)
  · obtain ⟨s,k,rfl,_⟩:=h
    rfl
  obtain ⟨z,k,rfl,hz,q⟩:=h
  refine ⟨_,
    (zh (sE 2 scNmC.nd zr)
    (zj (zu (zA xr (zA xr (zA xr (xX Ye (jv 2) (zA xq (jv 1) zo)) (jv 0)) (xX Ye (jv 2) (zA xq (zA YW (jv 1) zo) zo))) zr)))),?_⟩
  have sl:=zW
  have e1:((k:Nat):Int) % 26=((k % 26:Nat):Int):=by lia
  have e2:((k:Nat):Int) / 26 % 26=((k / 26 % 26:Nat):Int):=by lia
  have q:Q (.str ((⟨#[97 + (((k:Nat):Int) % 26).toNat]⟩:Str) ++ z ++ (⟨#[97 + (((k:Nat):Int) / 26 % 26).toNat]⟩:Str) ++ ("z":Str))) H:=by
    rw [e1,e2]
    exact q
  refine ⟨_,rfl,_,rfl,_,_,rfl,rfl,(by show (0:Int) < _; decide),LET,_,_,rfl,rfl,by rw [jC]; decide,jB (by lia) (by lia),_,rfl,_,_,rfl,rfl,by show 1 + z.length<=sizeLine; lia,_,rfl,_,rfl,_,_,rfl,rfl,⟨by decide,by decide⟩,_,_,rfl,rfl,(by show (0:Int) < _; decide),LET,_,_,rfl,rfl,by rw [jC]; decide,jB (by lia) (by lia),_,_,rfl,rfl,by rw [jD]; show 1 + z.length + 1<=sizeLine; lia,_,_,rfl,rfl,by rw [jD,jD]; show 1 + z.length + 1 + 1<=sizeLine; lia,q⟩
theorem scLink:FnScope ["_law_stem","_law_wide","_law_turn","_law_to","_law_names"] lS3 (zn V8):=.ok
theorem zbI:(["_law_stem","_law_wide","_law_turn","_law_to","_law_names","_law_k"]:List Str).Nodup:=by decide +kernel
theorem QJ (F:Fun K "_law_link" "_law_link" V8 f fd) (GN':Ca P w K mg base CX0 1 "_law_name" lS6 ZD) (m_range:mg "range"=none) (m_tuple:mg "tuple"=none):FnOk P w K mg base CX0 2 f fd lS3 V9:=by
  refine F.by scLink (fun vs H Q E h=>?_) (fun cdv A outer s H vs Q E hr h=>?_)
  · obtain ⟨s,to,w,t,rfl,_⟩:=h
    rfl
  obtain ⟨z,to,wd,t,rfl,hz,hw,q⟩:=h
  have hr1:Room 1 _:=hr.mono (by decide)
  refine ⟨_,
    (zh (jq ["_law_k"] (i:=4) scLink.nd rfl (Or.inl rfl) rfl (zM rfl m_range (jA1 (jv 1))) (fun _ _ _ _ _=>(gN 5 zbI)) (fun _ _ _ _ _=>zO) (fun _ _ _ _ _=>(cA GN' hr1 (jA2 (jv 0) (zA ye zo (jv 5))))))
    (zh (sE 4 scLink.nd (yn zP rfl m_tuple PyProof.Rows.boot_tuple (jA1 (zA js (yv xl (jv 4) (yI (jv 2)) yH) (yv xl (jv 4) yH (yI (jv 2)))))))
    (zj (zu (zq (jA4 zr (cA GN' hr1 (jA2 (jv 0) zo)) (zq (jA3 zr (jv 3) (jv 4))) (zq (jA2 zr (cA GN' hr1 (jA2 (jv 0) zo)))))))))),?_⟩
  have sl:=zW
  refine ⟨_,rfl,_,rfl,by lia,by lia,yg (n:=wd) (fun j τ ys H'=>Same H H'/\(∃ x y,τ=[some (.str z),some (.int (wd:Nat)),some (.int (t:Nat)),some (.str to),x,y])/\ys=(par z j 10).map V.str) ⟨fun _ _ h=>h,⟨_,_,rfl⟩,rfl⟩ ?_ ?_⟩
  · rintro j τ ys H1 hj ⟨s1,⟨x,y,rfl⟩,rfl⟩
    rw [Int.zero_add]
    refine ⟨_,rfl,_,rfl,_,_,rfl,rfl,z,10 + j,?_,hz,?_⟩
    · rfl
    refine ⟨by rw [List.length_map,zL]; lia,s1,⟨_,_,rfl⟩,?_⟩
    unfold par
    rw [List.range_succ,List.map_append,List.map_append]
    rfl
  rintro τ ys H1 ⟨s1,⟨x,y,rfl⟩,rfl⟩ l hl
  have h1:=s1.new (o:=.lst ((par z wd 10).map V.str)) hl
  have hl1:=zf (H:=H1) (a:=l) (o:=.lst ((par z wd 10).map V.str))
  show (tSeq _ _:TS) _ _ (upd H1 l (.lst ((par z wd 10).map V.str)))
  generalize upd H1 l (.lst ((par z wd 10).map V.str))=H2 at *
  refine ⟨_,rfl,_,rfl,_,rfl,_,_,rfl,SqL.of hl1,fun pa ha=>⟨_,rfl,_,rfl,_,rfl,_,_,rfl,SqL.of (old ha hl1),fun pb hb=>?_⟩⟩
  refine ⟨pa,pb,_,_,rfl,rfl,old hb zf,zf,?_,fun pc hc=>⟨pc,_,rfl,.inl ⟨SqL.of zf,fun pd hd=>?_⟩⟩⟩
  · have:=congrArg List.length (wP (l:=par z wd 10) (t:=t))
    rw [List.length_append,List.length_map,wO,zL] at this
    lia
  rw [wP] at *
  have s2:Same H _:=(((h1.new (o:=.lst (cutV ((par z wd 10).map V.str) (some (t:Int)) none)) ha).new (o:=.lst (cutV ((par z wd 10).map V.str) none (some (t:Int)))) hb).new (o:=.lst ((rot (par z wd 10) t).map V.str)) hc).new (o:=.tup ((rot (par z wd 10) t).map V.str)) hd
  have hd2:=zf (H:=upd (upd (upd H2 pa (.lst (cutV ((par z wd 10).map V.str) (some (t:Int)) none))) pb (.lst (cutV ((par z wd 10).map V.str) none (some (t:Int))))) pc (.lst ((rot (par z wd 10) t).map V.str))) (a:=pd) (o:=.tup ((rot (par z wd 10) t).map V.str))
  show (tSeq _ _:TS) _ _ _
  generalize upd (upd (upd (upd H2 pa (.lst (cutV ((par z wd 10).map V.str) (some (t:Int)) none))) pb (.lst (cutV ((par z wd 10).map V.str) none (some (t:Int))))) pc (.lst ((rot (par z wd 10) t).map V.str))) pd (.tup ((rot (par z wd 10) t).map V.str))=H3 at *
  refine ⟨_,rfl,z,91,rfl,hz,_,rfl,_,rfl,sN3,fun pe he=>⟨_,rfl,z,91,rfl,hz,sN2,fun pf hf=>⟨sN4,fun pg hg=>?_⟩⟩⟩
  refine q _ pg (((s2.new he).new hf).new hg) (.lt zf (.app ⟨by decide,by decide,by rw [wO,zL]; lia⟩ (old hg (old hf zf)) (old hg (old hf (old he hd2)))) (.give (old hg zf)))
def Ja:Sp:=fun vs H Q _=>∃ c:Ch,vs=[.int (c.e:Nat),.str c.s,.int (c.w:Nat),.int (c.a:Nat),.str (c.nm 0),.int (c.T:Nat)]/\c.s.length<=10/\0 < c.w/\c.w<=9/\c.a<=8/\∀ H' p,Same H H'->IsB H' c.las p->Q (.ref p) H'
theorem jQ {b:Bool} {T:TS} {D:Ends} {σ:L2.St} {H:Hp} (C:L2.St->Hp->Prop) (h1:b=true->∀ D':Ends,(∀ σ' H',C σ' H'->D'.nx σ' H')->T D' σ H) (h2:b=false->C σ H) (h:∀ σ' H',C σ' H'->D.nx σ' H'):if b=true then T D σ H else vK D σ H:=by
  cases b
  · exact iteF (nxtC (h σ H (h2 rfl)))
  · exact iteT (h1 rfl D h)
theorem xP {x y:Nat} (h:decide (V.int (x:Int)=V.int (y:Int))=true):x=y:=by
  have h:=of_decide_eq_true h
  injection h with h
  lia
theorem jU {x y:Nat} (h:decide (V.int (x:Int)=V.int (y:Int))=false):x≠y:=fun e=>by
  subst e
  exact absurd rfl (of_decide_eq_false h)
def Ch.d1 (c:Ch):Bd:=.give (if c.e=0 then c.mine else c.nm 90)
def Ch.d2 (c:Ch):Bd:=if c.e=1 then .lt (c.nm 92) (.app "func" (c.nm 99) c.fns) c.d1 else c.d1
def Ch.d3 (c:Ch):Bd:=if c.e=2 then .iff c.mine c.d2 c.d2 else c.d2
theorem Ch.d3_don (c:Ch):c.d3=c.don:=by
  unfold Ch.d3 Ch.d2 Ch.d1 Ch.don
  by_cases h0:c.e=0
  · rw [if_neg (show ¬ c.e=2 by lia),if_neg (show ¬ c.e=1 by lia),if_pos h0,if_pos h0]
  rw [if_neg h0,if_neg h0]
  by_cases h1:c.e=1
  · rw [if_neg (show ¬ c.e=2 by lia),if_pos h1,if_pos h1]
  rw [if_neg h1,if_neg h1]
theorem Ch.lns_len' {c:Ch} (w0:0 < c.w):c.lns.length=c.w:=by
  unfold Ch.lns
  rw [List.length_cons,zL]
  lia
def Ch.sl (c:Ch) (p:Addr) (x:Option V):L2.St:=[some (.int (c.e:Nat)),some (.str c.s),some (.int (c.w:Nat)),some (.int (c.a:Nat)),some (.str (c.nm 0)),some (.int (c.T:Nat)),some (.str (c.nm 90)),some (.str c.mine),some (.ref p),x,none]
theorem scLast:FnScope ["_law_end","_law_stem","_law_wide","_law_at","_law_first","_law_turn","_law_number","_law_mine","_law_done","_law_names","_law_call"] lS0 (zn V7):=.ok
theorem Jb:(["_law_end","_law_stem","_law_wide","_law_at","_law_first","_law_turn","_law_number","_law_mine","_law_done","_law_names","_law_call","_law_k"]:List Str).Nodup:=by decide +kernel
theorem QK (F:Fun K "_law_last" "_law_last" V7 f fd) (GN':Ca P w K mg base CX0 1 "_law_name" lS6 ZD) (m_range:mg "range"=none) (m_tuple:mg "tuple"=none):FnOk P w K mg base CX0 2 f fd lS0 Ja:=by
  refine F.by scLast (fun vs H Q E h=>?_) (fun cdv A outer s H vs Q E hr h=>?_)
  · obtain ⟨c,rfl,_⟩:=h
    rfl
  obtain ⟨c,rfl,hz,w0,w9,ha,q⟩:=h
  have hr1:Room 1 _:=hr.mono (by decide)
  refine ⟨_,
    (zh (sE 6 scLast.nd (cA GN' hr1 (jA2 (jv 1) zo)))
    (zh (sE 7 scLast.nd (cA GN' hr1 (jA2 (jv 1) (zA jr (zA ye zo (jv 2)) zo))))
    (zh (sE 8 scLast.nd (zq (jA2 zr (jv 6))))
    (zh (zI (tN zR (jv 0) zo)
      (zj (sE 8 scLast.nd (zq (jA2 zr (jv 7)))))  zw)
    (zh (zI (tN zR (jv 0) zo)
      (zh (sE 9 scLast.nd (yn zP rfl m_tuple PyProof.Rows.boot_tuple (jA1 (z0 ["_law_k"] rfl (zM rfl m_range (jA1 (zA ye (jv 3) zo))) (fun _ _ _ _ _=>(gN 11 Jb)) (fun _ _ _ _ _=>zO) (fun _ _ _ _ _=>(j7 (tN zR (jv 11) (jv 3)) (jv 7) (jv 6)))))))
      (zj (sE 8 scLast.nd (zq (jA4 zr (cA GN' hr1 (jA2 (jv 1) zo)) (zq (jA3 zr (cA GN' hr1 (jA2 (jv 1) zo)) (jv 9))) (jv 8))))))  zw)
    (zh (zI (tN zR (jv 0) zo)
      (zj (sE 8 scLast.nd (zq (jA4 zr (jv 7) (jv 8) (jv 8)))))  zw)
    (zh (sE 9 scLast.nd (zA js (yc (jA1 (jv 6))) (z0 ["_law_k"] rfl (zM rfl m_range (jA1 (zA jr (jv 2) zo))) (fun _ _ _ _ _=>(gN 11 Jb)) (fun _ _ _ _ _=>zO) (fun _ _ _ _ _=>(cA GN' hr1 (jA2 (jv 1) (zA ye zo (jv 11))))))))
    (zh (sE 9 scLast.nd (yn zP rfl m_tuple PyProof.Rows.boot_tuple (jA1 (zA js (yv xl (jv 9) (yI (jv 5)) yH) (yv xl (jv 9) yH (yI (jv 5)))))))
    (zh (sE 10 scLast.nd (zq (jA4 zr (cA GN' hr1 (jA2 (jv 1) zo)) (zq (jA3 zr (jv 4) (jv 9))) (jv 8))))
    (zj (zu (zq (jA4 zr (jv 6) (zq (jA2 zr zo)) (jv 10)))))))))))))),?_⟩
  have sl:=zW
  refine ⟨_,rfl,c.s,90,rfl,hz,_,rfl,_,rfl,_,_,rfl,rfl,_,_,rfl,rfl,c.s,10 + (c.w - 1),?_,hz,_,rfl,sN2,fun p0 h0=>?_⟩
  · rw [show ((10 + (c.w - 1):Nat):Int)=10 + (c.w:Int) - 1 by lia]
    rfl
  have hp0:=zf (H:=H) (a:=p0) (o:=.tup [.str "give",.str (c.nm 90)])
  have s0:=zk (o:=.tup [.str "give",.str (c.nm 90)]) h0
  show (tSeq _ _:TS) _ _ (upd H p0 (.tup [.str "give",.str (c.nm 90)]))
  generalize upd H p0 (.tup [.str "give",.str (c.nm 90)])=H1 at *
  refine ⟨_,rfl,rfl,_,rfl,jQ (fun σ' H'=>∃ p x,Same H H'/\IsB H' c.d1 p/\σ'=c.sl p x) (fun c0 D' k=>?_) (fun c0=>⟨p0,none,s0,?_,rfl⟩) ?_⟩
  · refine ⟨_,rfl,sN2,fun p1 h1=>?_⟩
    refine k _ _ ⟨p1,none,s0.new h1,?_,rfl⟩
    unfold Ch.d1
    rw [if_pos (xP (y:=0) c0)]
    exact .give zf
  · unfold Ch.d1
    rw [if_neg (jU (y:=0) c0)]
    exact .give hp0
  clear hp0 s0 h0
  rintro σ' H2 ⟨p1,x1,s2,b1,rfl⟩
  show (tSeq _ _:TS) _ _ H2
  refine ⟨_,rfl,rfl,_,rfl,jQ (fun σ' H'=>∃ p x,Same H H'/\IsB H' c.d2 p/\σ'=c.sl p x) (fun c0 D' k=>?_) (fun c0=>⟨p1,x1,s2,?_,rfl⟩) ?_⟩
  · refine ⟨_,rfl,_,_,rfl,rfl,_,rfl,by lia,by lia,yg (n:=c.a + 1) (fun j τ ys H'=>Same H H'/\IsB H' c.d1 p1/\(∃ y,τ=[some (.int (c.e:Nat)),some (.str c.s),some (.int (c.w:Nat)),some (.int (c.a:Nat)),some (.str (c.nm 0)),some (.int (c.T:Nat)),some (.str (c.nm 90)),some (.str c.mine),some (.ref p1),x1,none,y])/\ys=((List.range j).map fun k=>if k=c.a then c.mine else c.nm 90).map V.str) ⟨s2,b1,⟨none,rfl⟩,rfl⟩ ?_ ?_⟩
    · rintro j τ ys H3 hj ⟨s3,b3,⟨y,rfl⟩,rfl⟩
      rw [Int.zero_add]
      refine ⟨_,rfl,_,rfl,rfl,_,rfl,?_⟩
      refine ite2 (fun cj=>?_) (fun cj=>?_)
      · refine ⟨_,rfl,by rw [List.length_map,List.length_map,List.length_range]; lia,s3,b3,⟨_,rfl⟩,?_⟩
        rw [List.range_succ,List.map_append,List.map_append,List.map_singleton,if_pos (xP cj)]
        rfl
      · refine ⟨_,rfl,by rw [List.length_map,List.length_map,List.length_range]; lia,s3,b3,⟨_,rfl⟩,?_⟩
        rw [List.range_succ,List.map_append,List.map_append,List.map_singleton,if_neg (fun e=>cj (by rw [e]; exact decide_eq_true rfl))]
        rfl
    rintro τ ys H3 ⟨s3,b3,-,rfl⟩ l hl
    refine ⟨l,_,rfl,.inl ⟨SqL.of zf,fun l2 hl2=>?_⟩⟩
    have hl2:upd H3 l (.lst (c.fns.map V.str)) l2=none:=hl2
    have s4:=(s3.new (o:=.lst (c.fns.map V.str)) hl).new (o:=.tup (c.fns.map V.str)) hl2
    have b4:=(b3.keep (.of (zk (o:=.lst (c.fns.map V.str)) hl))).keep (.of (zk (o:=.tup (c.fns.map V.str)) hl2))
    have h4:=zf (H:=upd H3 l (.lst (c.fns.map V.str))) (a:=l2) (o:=.tup (c.fns.map V.str))
    show yB 9 _ _ (upd (upd H3 l (.lst (c.fns.map V.str))) l2 (.tup (c.fns.map V.str))) _
    generalize upd (upd H3 l (.lst (c.fns.map V.str))) l2 (.tup (c.fns.map V.str))=H4 at *
    refine ⟨_,rfl,c.s,92,rfl,hz,_,rfl,c.s,99,rfl,hz,_,rfl,sN3,fun p3 h3=>⟨_,rfl,sN4,fun p5 h5=>?_⟩⟩
    refine k _ _ ⟨p5,_,(s4.new h3).new h5,?_,rfl⟩
    unfold Ch.d2
    rw [if_pos (xP (y:=1) c0)]
    refine .lt zf (.app ⟨by decide,by decide,?_⟩ (old h5 zf) (old h5 (old h3 h4))) (b4.keep (.of ((zk h3 _).new h5)))
    unfold Ch.fns
    rw [List.length_map,List.length_range]
    lia
  · unfold Ch.d2
    rw [if_neg (jU (y:=1) c0)]
    exact b1
  clear s2 b1
  rintro σ' H3 ⟨p2,x2,s3,b2,rfl⟩
  show (tSeq _ _:TS) _ _ H3
  refine ⟨_,rfl,rfl,_,rfl,jQ (fun σ' H'=>∃ p x,Same H H'/\IsB H' c.d3 p/\σ'=c.sl p x) (fun c0 D' k=>?_) (fun c0=>⟨p2,x2,s3,?_,rfl⟩) ?_⟩
  · refine ⟨_,rfl,_,rfl,_,rfl,sN4,fun p3 h3=>?_⟩
    refine k _ _ ⟨p3,x2,s3.new h3,?_,rfl⟩
    unfold Ch.d3
    rw [if_pos (xP (y:=2) c0)]
    exact .iff zf (b2.keep (.of (zk h3 _))) (b2.keep (.of (zk h3 _)))
  · unfold Ch.d3
    rw [if_neg (jU (y:=2) c0)]
    exact b2
  clear s3 b2
  rintro σ' H4 ⟨p3,x3,s4,b3,rfl⟩
  rw [c.d3_don] at b3
  show (tSeq _ _:TS) _ _ H4
  refine ⟨_,rfl,sN1,fun l0 hl0=>?_⟩
  have hw0:=zf (H:=H4) (a:=l0) (o:=.lst [.str (c.nm 90)])
  have s5:=s4.new (o:=.lst [.str (c.nm 90)]) hl0
  have b5:=b3.keep (.of (zk (o:=.lst [.str (c.nm 90)]) hl0))
  clear s4 b3
  generalize upd H4 l0 (.lst [.str (c.nm 90)])=H5 at *
  refine ⟨_,rfl,_,_,rfl,rfl,_,rfl,by lia,by lia,?_⟩
  rw [show ((c.w:Int) - 1).toNat=c.w - 1 by lia]
  refine yg (n:=c.w - 1) (fun j τ ys H'=>Same H5 H'/\(∃ y,τ=[some (.int (c.e:Nat)),some (.str c.s),some (.int (c.w:Nat)),some (.int (c.a:Nat)),some (.str (c.nm 0)),some (.int (c.T:Nat)),some (.str (c.nm 90)),some (.str c.mine),some (.ref p3),x3,none,y])/\ys=(par c.s j 10).map V.str) ⟨fun _ _ h=>h,⟨none,rfl⟩,rfl⟩ ?_ ?_
  · rintro j τ ys H6 hj ⟨s6,⟨y,rfl⟩,rfl⟩
    rw [Int.zero_add]
    refine ⟨_,rfl,_,rfl,_,_,rfl,rfl,c.s,10 + j,?_,hz,?_⟩
    · rfl
    refine ⟨by rw [List.length_map,zL]; lia,s6,⟨_,rfl⟩,?_⟩
    unfold par
    rw [List.range_succ,List.map_append,List.map_append]
    rfl
  rintro τ ys H6 ⟨s6,-,rfl⟩ l hl
  have lr:=Ch.lns_len' w0
  have ec:[V.str (c.nm 90)] ++ (par c.s (c.w - 1) 10).map V.str=c.lns.map V.str:=rfl
  refine ⟨l0,l,_,_,rfl,rfl,old hl (s6 _ _ hw0),zf,?_,fun l7 hl7=>?_⟩
  · rw [List.length_map,zL]
    show 1 + _<=_
    lia
  rw [ec]
  have s7:=((s5.trans s6).new (o:=.lst ((par c.s (c.w - 1) 10).map V.str)) hl).new (o:=.lst (c.lns.map V.str)) hl7
  have b7:=((b5.keep (.of s6)).keep (.of (zk (o:=.lst ((par c.s (c.w - 1) 10).map V.str)) hl))).keep (.of (zk (o:=.lst (c.lns.map V.str)) hl7))
  have hl1:=zf (H:=upd H6 l (.lst ((par c.s (c.w - 1) 10).map V.str))) (a:=l7) (o:=.lst (c.lns.map V.str))
  clear b5 s5 s6 hw0 hl0 ec
  show yB 9 _ _ (upd (upd H6 l (.lst ((par c.s (c.w - 1) 10).map V.str))) l7 (.lst (c.lns.map V.str))) _
  generalize upd (upd H6 l (.lst ((par c.s (c.w - 1) 10).map V.str))) l7 (.lst (c.lns.map V.str))=H2 at *
  refine ⟨_,rfl,_,rfl,_,rfl,_,_,rfl,SqL.of hl1,fun pa ha=>⟨_,rfl,_,rfl,_,rfl,_,_,rfl,SqL.of (old ha hl1),fun pb hb=>?_⟩⟩
  refine ⟨pa,pb,_,_,rfl,rfl,old hb zf,zf,?_,fun pc hc=>⟨pc,_,rfl,.inl ⟨SqL.of zf,fun pd hd=>?_⟩⟩⟩
  · have:=congrArg List.length (wP (l:=c.lns) (t:=c.T))
    rw [List.length_append,List.length_map,wO] at this
    lia
  rw [wP] at *
  have s8:Same H2 _:=(((zk ha (.lst (cutV (c.lns.map V.str) (some (c.T:Int)) none))).new (o:=.lst (cutV (c.lns.map V.str) none (some (c.T:Int)))) hb).new (o:=.lst ((rot c.lns c.T).map V.str)) hc).new (o:=.tup ((rot c.lns c.T).map V.str)) hd
  have hd2:=zf (H:=upd (upd (upd H2 pa (.lst (cutV (c.lns.map V.str) (some (c.T:Int)) none))) pb (.lst (cutV (c.lns.map V.str) none (some (c.T:Int))))) pc (.lst ((rot c.lns c.T).map V.str))) (a:=pd) (o:=.tup ((rot c.lns c.T).map V.str))
  show yB 9 _ _ (upd (upd (upd (upd H2 pa (.lst (cutV (c.lns.map V.str) (some (c.T:Int)) none))) pb (.lst (cutV (c.lns.map V.str) none (some (c.T:Int))))) pc (.lst ((rot c.lns c.T).map V.str))) pd (.tup ((rot c.lns c.T).map V.str))) _
  generalize upd (upd (upd (upd H2 pa (.lst (cutV (c.lns.map V.str) (some (c.T:Int)) none))) pb (.lst (cutV (c.lns.map V.str) none (some (c.T:Int))))) pc (.lst ((rot c.lns c.T).map V.str))) pd (.tup ((rot c.lns c.T).map V.str))=H3 at *
  have b8:=b7.keep (.of s8)
  have s9:=s7.trans s8
  clear s7 s8 b7 hl1 ha hb
  refine ⟨_,rfl,c.s,91,rfl,hz,_,rfl,_,rfl,sN3,fun pe he=>⟨_,rfl,sN4,fun pf hf=>⟨_,rfl,sN2,fun pg hg=>⟨_,rfl,sN4,fun ph hh=>?_⟩⟩⟩⟩
  refine q _ ph ((((s9.new he).new hf).new hg).new hh) (.lt zf (.num (old hh zf)) (.lt (old hh (old hg zf)) (.app ⟨by decide,by decide,by rw [wO]; lia⟩ (old hh (old hg (old hf zf))) (old hh (old hg (old hf (old he hd2))))) (b8.keep (.of ((((zk he _).new hf).new hg).new hh)))))
theorem IsFs.take {H:Hp} {l:List Df} {ts:List Addr} (h:IsFs H l ts) (n:Nat):IsFs H (l.take n) (ts.take n):=by
  induction h generalizing n with
  | nil=>rw [List.take_nil,List.take_nil]; exact .nil
  | cons a _ ih =>
    cases n with
    | zero=>exact .nil
    | succ n=>rw [List.take_succ_cons,List.take_succ_cons]; exact .cons a (ih n)
theorem IsFs.drop {H:Hp} {l:List Df} {ts:List Addr} (h:IsFs H l ts) (n:Nat):IsFs H (l.drop n) (ts.drop n):=by
  induction h generalizing n with
  | nil=>rw [List.drop_nil,List.drop_nil]; exact .nil
  | cons a b ih =>
    cases n with
    | zero=>exact .cons a b
    | succ n=>rw [List.drop_succ_cons,List.drop_succ_cons]; exact ih n
def cOf (s:Str) (w m e a:Nat) (tl:List Nat):Ch:=⟨s,w,m,e,a,fun k=>tl.getD k 0,((0 - ((tl.sum:Nat):Int)) % (w:Int)).toNat,0⟩
theorem Jc {s:Str} {w m e a:Nat} {tl:List Nat}:∀ k,k<=tl.length->(cOf s w m e a tl).fw k=(tl.take k).sum
  | 0,_=>rfl
  | k + 1,h=>by
    have ih:=Jc (s:=s) (w:=w) (m:=m) (e:=e) (a:=a) (tl:=tl) k (by lia)
    show (cOf s w m e a tl).fw k + tl.getD k 0=_
    rw [ih,List.take_add_one,List.getElem?_eq_getElem (by lia),List.sum_append,List.getD_eq_getElem?_getD,List.getElem?_eq_getElem (by lia)]
    simp
theorem zb8 {s:Str} {w m e a:Nat} {tl:List Nat} (hw:0 < w) (h:tl.length=m - 1):((cOf s w m e a tl).fw (m - 1) + (cOf s w m e a tl).T) % w=0:=by
  rw [Jc (m - 1) (by lia),List.take_of_length_le (by lia)]
  have h0:0<=(0 - ((tl.sum:Nat):Int)) % (w:Int):=Int.emod_nonneg _ (by lia)
  have e:(((tl.sum + ((0 - ((tl.sum:Nat):Int)) % (w:Int)).toNat) % w:Nat):Int)=0:=by
    rw [Int.natCast_emod,Int.natCast_add,Int.toNat_of_nonneg h0,Int.add_emod_emod]
    rw [show ((tl.sum:Nat):Int) + (0 - ((tl.sum:Nat):Int))=0 by lia]
    exact Int.zero_emod _
  show (tl.sum + ((0 - ((tl.sum:Nat):Int)) % (w:Int)).toNat) % w=0
  lia
theorem zb9 {s:Str} {w m e a:Nat} {tl:List Nat} (hw:0 < w):(cOf s w m e a tl).T < w:=by
  have h0:0<=(0 - ((tl.sum:Nat):Int)) % (w:Int):=Int.emod_nonneg _ (by lia)
  have h1:=Int.emod_lt_of_pos (0 - ((tl.sum:Nat):Int)) (show (0:Int) < w by lia)
  show ((0 - ((tl.sum:Nat):Int)) % (w:Int)).toNat < w
  lia
theorem zca {s:Str} {w m e a:Nat} {tl:List Nat} (hw:0 < w) (h:∀ t∈tl,t < w) (k:Nat):(cOf s w m e a tl).t k < w:=by
  show tl.getD k 0 < w
  rw [List.getD_eq_getElem?_getD]
  cases e:tl[k]? with
  | none=>exact hw
  | some t=>exact h t (List.mem_of_getElem? e)
theorem Jd {s:Str} {w m e a:Nat} {tl:List Nat} {t k:Nat} (hk:k < tl.length) (n:k + 1≠m):(cOf s w m e a (tl ++ [t])).df k=(cOf s w m e a tl).df k:=by
  unfold Ch.df
  rw [if_neg (show ¬ k + 1=(cOf s w m e a (tl ++ [t])).m from n),if_neg (show ¬ k + 1=(cOf s w m e a tl).m from n)]
  unfold Ch.lnk
  have e:(cOf s w m e a (tl ++ [t])).t k=(cOf s w m e a tl).t k:=by
    show (tl ++ [t]).getD k 0=tl.getD k 0
    rw [List.getD_eq_getElem?_getD,List.getD_eq_getElem?_getD,List.getElem?_append_left hk]
  rw [e]
  rfl
def Xq (K:PySem.W.Frag):Sp:=fun vs H Q _=>∃ (st:Addr) (s:Str) (w m e a B:Nat),vs=[.ref st,.str s,.int (w:Nat),.int (m:Nat),.int (e:Nat),.int (a:Nat)]/\Sta K H st B/\B + 100 < LIM/\s.length<=10/\0 < w/\w<=9/\m<=59/\a<=8/\∀ H' p (tl:List Nat) (r:Nat) ds,Kp st H H'->Sta K H' st (B + 60)->H p=none->H' p=some (.lst (ds.map V.ref))->tl.length=m - 1->(∀ t∈tl,t < w)->IsFs H' (((List.range m).map (cOf s w m e a tl).df).drop r ++ ((List.range m).map (cOf s w m e a tl).df).take r) ds->Q (.ref p) H'
theorem QL {b:Bool} {T T':TS} {D:Ends} {σ:L2.St} {H:Hp} (C:L2.St->Hp->Prop) (h1:b=true->∀ D':Ends,(∀ σ' H',C σ' H'->D'.nx σ' H')->T D' σ H) (h2:b=false->∀ D':Ends,(∀ σ' H',C σ' H'->D'.nx σ' H')->T' D' σ H) (h:∀ σ' H',C σ' H'->D.nx σ' H'):if b=true then T D σ H else T' D σ H:=by
  cases b
  · exact iteF (h2 rfl D h)
  · exact iteT (h1 rfl D h)
theorem scChain:FnScope ["_law_state","_law_stem","_law_wide","_law_many","_law_end","_law_at","_law_defs","_law_round_by","_law_params","_law_k","_law_body","_law_turn"] lS1 (zn Yz):=.ok
theorem Je (F:Fun K "_law_chain" "_law_chain" Yz f fd) (GD:Ca P w K mg base CX0 1 "_law_draw" lS8 (Yk K)) (GN':Ca P w K mg base CX0 1 "_law_name" lS6 ZD) (GLk:Ca P w K mg base CX0 2 "_law_link" lS3 V9) (GLa:Ca P w K mg base CX0 2 "_law_last" lS0 Ja) (m_range:mg "range"=none) (m_tuple:mg "tuple"=none) (m_max:mg "max"=none):FnOk P w K mg base CX0 3 f fd lS1 (Xq K):=by
  refine F.by scChain (fun vs H Q E h=>?_) (fun cdv A outer s H vs Q E hr h=>?_)
  · obtain ⟨st,s,w,m,e,a,B,rfl,_⟩:=h
    rfl
  obtain ⟨st,z,wd,m,e,a,B,rfl,S0,hB,hz,w0,w9,m9,ha,q⟩:=h
  have hr1:Room 1 _:=hr.mono (by decide)
  refine ⟨_,
    (zh (sE 6 scChain.nd (yc zS))
    (zh (sE 7 scChain.nd zo)
    (zh (sE 8 scChain.nd (yn zP rfl m_tuple PyProof.Rows.boot_tuple (jA1 (WH [9] [] rfl (zM rfl m_range (jA1 (jv 2))) (fun _ _ _ _ _=>(gN 9 scChain.nd)) (fun _ _ _ _ _=>zO) (fun _ _ _ _ _=>(cA GN' hr1 (jA2 (jv 1) (zA ye zo (jv 9)))))))))
    (zh (yd PassesOwn.never rfl (zM rfl m_range (jA1 (jv 3))) (gN 9 scChain.nd)
      (zh (zI (tN zR (jv 9) (zA jr (jv 3) zo))
        (zj (sE 10 scChain.nd (cA GLa hr (jA6 (jv 4) (jv 1) (jv 2) (jv 5) (cA GN' hr1 (jA2 (jv 1) zo)) (zA xq (zA jr zo (jv 7)) (jv 2))))))
        (zh (sE 11 scChain.nd (cA GD hr1 (jA2 (jv 0) (jv 2))))
        (zh (sE 7 scChain.nd (zA ye (jv 7) (jv 11)))
        (zj (sE 10 scChain.nd (cA GLk hr (jA4 (jv 1) (jv 2) (jv 11) (cA GN' hr1 (jA2 (jv 1) (zA ye (jv 9) zo))))))))))
      (zj (zG (y9 PySem.F.plainAttrs_list PySem.F.slot_list_append PySem.F.type_list_append zY (jv 6) (jA1 (zq (jA3 (cA GN' hr1 (jA2 (jv 1) (jv 9))) (jv 8) (jv 10)))))))))
    (zh (sE 11 scChain.nd (cA GD hr1 (jA2 (jv 0) (x9 (J9 rfl) rfl m_max PyProof.Rows.boot_max (jA2 (jv 3) zo)))))
    (zj (zu (zA js (yv xl (jv 6) (yI (jv 11)) yH) (yv xl (jv 6) yH (yI (jv 11))))))))))),?_⟩
  have sl:=zW
  unfold LIM at hB
  have LM:LIM=4611686018427387904:=rfl
  refine ⟨sN0,fun dl hdl=>?_⟩
  have hd1:=zf (H:=H) (a:=dl) (o:=.lst [])
  have S1:=S0.new hdl (.lst [])
  have k1:=Kp.of (st:=st) (zk (o:=.lst []) hdl)
  have ndl:=S0.ne hdl
  show (tSeq _ _:TS) _ _ (upd H dl (.lst []))
  generalize upd H dl (.lst [])=H1 at *
  refine ⟨_,rfl,_,rfl,by lia,by lia,yg (n:=wd) (fun j τ ys H'=>Same H1 H'/\(∃ x,τ=[some (.ref st),some (.str z),some (.int (wd:Nat)),some (.int (m:Nat)),some (.int (e:Nat)),some (.int (a:Nat)),some (.ref dl),some (.int 0),none,x,none,none])/\ys=(par z j 10).map V.str) ⟨fun _ _ h=>h,⟨none,rfl⟩,rfl⟩ ?_ ?_⟩
  · rintro j τ ys H2 hj ⟨s2,⟨y,rfl⟩,rfl⟩
    rw [Int.zero_add]
    refine ⟨_,rfl,_,rfl,_,_,rfl,rfl,z,10 + j,?_,hz,?_⟩
    · rfl
    refine ⟨by rw [List.length_map,zL]; lia,s2,⟨_,rfl⟩,?_⟩
    unfold par
    rw [List.range_succ,List.map_append,List.map_append]
    rfl
  rintro τ ys H2 ⟨s2,-,rfl⟩ l hl
  refine ⟨l,_,rfl,.inl ⟨SqL.of zf,fun pp hpp=>?_⟩⟩
  have s3:=(s2.new (o:=.lst ((par z wd 10).map V.str)) hl).new (o:=.tup ((par z wd 10).map V.str)) hpp
  have h3:=zf (H:=upd H2 l (.lst ((par z wd 10).map V.str))) (a:=pp) (o:=.tup ((par z wd 10).map V.str))
  show yB 8 _ _ (upd (upd H2 l (.lst ((par z wd 10).map V.str))) pp (.tup ((par z wd 10).map V.str))) _
  generalize upd (upd H2 l (.lst ((par z wd 10).map V.str))) pp (.tup ((par z wd 10).map V.str))=H3 at *
  have hd3:=s3 _ _ hd1
  have S3:=S1.same s3
  have k3:=k1.trans (Kp.of s3)
  clear hd1 S1 k1 s2 s3 hl hpp
  refine ⟨_,rfl,_,rfl,by lia,by lia,vL (n:=m) (fun i σ H'=>∃ (tl:List Nat) (ds:List Addr) (x y v:Option V),tl.length=min i (m - 1)/\(∀ t∈tl,t < wd)/\Kp st H H'/\Sta K H' st (B + i)/\H' dl=some (.lst (ds.map V.ref))/\IsFs H' ((List.range i).map (cOf z wd m e a tl).df) ds/\H' pp=some (.tup ((par z wd 10).map V.str))/\σ=[some (.ref st),some (.str z),some (.int (wd:Nat)),some (.int (m:Nat)),some (.int (e:Nat)),some (.int (a:Nat)),some (.ref dl),some (.int ((tl.sum:Nat):Int)),some (.ref pp),x,y,v]) ⟨[],[],none,none,none,by simp,fun t h=>(by cases h),k3,S3,hd3,.nil,h3,rfl⟩ ?_ ?_⟩
  · rintro i σ H4 hi ⟨tl,ds,x,y,v,htl,htw,k4,S4,hd4,hF4,hp4,rfl⟩
    rw [Int.zero_add]
    refine ⟨_,rfl,_,rfl,_,_,rfl,rfl,rfl,_,rfl,QL (fun σ' H'=>∃ (tl':List Nat) (pb:Addr) (v:Option V),tl'.length=min (i + 1) (m - 1)/\(∀ t∈tl',t < wd)/\Kp st H H'/\Sta K H' st (B + (i + 1))/\H' dl=some (.lst (ds.map V.ref))/\IsFs H' ((List.range i).map (cOf z wd m e a tl').df) ds/\IsB H' ((cOf z wd m e a tl').df i).b pb/\H' pp=some (.tup ((par z wd 10).map V.str))/\σ'=[some (.ref st),some (.str z),some (.int (wd:Nat)),some (.int (m:Nat)),some (.int (e:Nat)),some (.int (a:Nat)),some (.ref dl),some (.int ((tl'.sum:Nat):Int)),some (.ref pp),some (.int (i:Nat)),some (.ref pb),v]) (fun c0 D' k=>?_) (fun c0 D' k=>?_) ?_⟩
    · have ei:i + 1=m:=by
        have h:=of_decide_eq_true c0
        injection h with h
        lia
      have hT:(((cOf z wd m e a tl).T:Nat):Int)=(0 - ((tl.sum:Nat):Int)) % (wd:Int):=Int.toNat_of_nonneg (Int.emod_nonneg _ (by lia))
      refine ⟨_,rfl,_,rfl,_,rfl,_,rfl,_,rfl,z,0,rfl,hz,_,rfl,_,_,rfl,rfl,_,rfl,_,_,rfl,rfl,by lia,cOf z wd m e a tl,?_,hz,w0,w9,ha,fun H5 pb s5 hb5=>?_⟩
      · rw [hT]
        rfl
      refine k _ _ ⟨tl,pb,v,by lia,htw,k4.trans (.of s5),(S4.same s5).mono (by lia),s5 _ _ hd4,hF4.keep (.of s5),?_,s5 _ _ hp4,rfl⟩
      show IsB H5 (if i + 1=m then (cOf z wd m e a tl).las else _) pb
      rw [if_pos ei]
      exact hb5
    · have ei:i + 1≠m:=fun h=>by
        refine of_decide_eq_false c0 ?_
        congr 1
        lia
      refine ⟨_,rfl,_,rfl,st,_,B + i,rfl,S4,by lia,by lia,fun H5 r k5 S5 r0 r1=>?_⟩
      obtain ⟨t,rfl⟩:=Int.eq_ofNat_of_zero_le r0
      refine ⟨_,rfl,_,rfl,_,_,rfl,rfl,_,rfl,_,rfl,_,rfl,_,rfl,_,rfl,_,_,rfl,rfl,z,i + 1,rfl,hz,z,nmC z (i + 1),wd,t,rfl,hz,w9,fun H6 pb s6 hb6=>?_⟩
      have es:(((tl ++ [t]).sum:Nat):Int)=((tl.sum:Nat):Int) + (t:Int):=by simp
      have tp:Tups H4 H6:=(k5.tups S4).trans (.of s6)
      refine k _ _ ⟨tl ++ [t],pb,some (.int (t:Nat)),by rw [List.length_append,List.length_singleton]; lia,fun u hu=>?_,(k4.trans k5).trans (.of s6),S5.same s6,s6 _ _ (k5.k _ _ ndl hd4),?_,?_,tp _ _ hp4,by rw [es]; rfl⟩
      · rcases List.mem_append.mp hu with hu | hu
        · exact htw u hu
        · rw [List.mem_singleton.mp hu]; lia
      · rw [List.map_congr_left (g:=(cOf z wd m e a tl).df) fun j hj=>?_]
        · exact hF4.keep tp
        · have hj:=List.mem_range.mp hj
          exact Jd (by lia) (by lia)
      · show IsB H6 (if i + 1=m then _ else (cOf z wd m e a (tl ++ [t])).lnk i) pb
        rw [if_neg ei]
        have et:(cOf z wd m e a (tl ++ [t])).t i=t:=by
          show (tl ++ [t]).getD i 0=t
          rw [List.getD_eq_getElem?_getD,List.getElem?_append_right (by lia),show i - tl.length=0 by lia]
          rfl
        unfold Ch.lnk
        rw [et]
        exact hb6
    clear k4 S4 hd4 hF4 hp4 htl htw
    rintro σ' H5 ⟨tl',pb,v',htl,htw,k5,S5,hd5,hF5,hb5,hp5,rfl⟩
    have fl:=hF5.len
    rw [List.length_map,List.length_range] at fl
    refine ⟨_,rfl,.inl ⟨rfl,_,SqL.of hd5⟩,_,rfl,_,rfl,z,i,rfl,hz,_,rfl,_,rfl,sN3,fun t ht=>?_⟩
    have tp:Tups H5 (upd (upd H5 t (.tup [.str (nmC z i),.ref pp,.ref pb])) dl (.lst (ds.map V.ref ++ [.ref t]))):=fun p xs hp=>by
      rw [zg (xz hp hd5 (by intro e; cases e))]
      exact old ht hp
    refine ⟨dl,_,_,rfl,rfl,old ht hd5,by rw [List.length_map]; lia,tl',ds ++ [t],_,_,_,htl,htw,(k5.new ht).put hdl,Sta.put S0 hdl (k5.new ht) (S5.new ht _),by rw [zf]; simp,?_,tp _ _ hp5,rfl⟩
    rw [List.range_succ,List.map_append]
    refine (hF5.keep tp).app (.cons ⟨pp,pb,?_,tp _ _ hp5,hb5.keep tp⟩ .nil)
    rw [zg (zi hd5 ht).symm,zf]
    rfl
  rintro σ H4 ⟨tl,ds,x,y,v,htl,htw,k4,S4,hd4,hF4,hp4,rfl⟩
  have fl:=hF4.len
  rw [List.length_map,List.length_range] at fl
  refine ⟨_,rfl,_,rfl,_,_,rfl,st,_,B + m,rfl,S4,by lia,?_,fun H5 r k5 S5 r0 r1=>?_⟩
  · split
    · lia
    · lia
  obtain ⟨t,rfl⟩:=Int.eq_ofNat_of_zero_le r0
  have hd5:=k5.k _ _ ndl hd4
  have hF5:=hF4.keep (k5.tups S4)
  refine ⟨_,rfl,_,rfl,_,rfl,_,_,rfl,SqL.of hd5,fun pa ha=>⟨_,rfl,_,rfl,_,rfl,_,_,rfl,SqL.of (old ha hd5),fun pb hb=>?_⟩⟩
  have ec:cutV (ds.map V.ref) (some (t:Int)) none ++ cutV (ds.map V.ref) none (some (t:Int))=(ds.drop t ++ ds.take t).map V.ref:=by
    rw [Zg (by lia),Zf (by lia),<- List.map_append]
    rfl
  refine ⟨pa,pb,_,_,rfl,rfl,old hb zf,zf,?_,fun pc hc=>?_⟩
  · have:=congrArg List.length ec
    rw [List.length_append,List.length_map,List.length_append,List.length_drop,List.length_take] at this
    lia
  rw [ec]
  have k6:=((k4.trans k5).new (o:=.lst (cutV (ds.map V.ref) (some (t:Int)) none)) ha).new (o:=.lst (cutV (ds.map V.ref) none (some (t:Int)))) hb
  have S6:=((S5.new ha (.lst (cutV (ds.map V.ref) (some (t:Int)) none))).new hb (.lst (cutV (ds.map V.ref) none (some (t:Int)))))
  have F6:=(hF5.keep (.of ((zk (o:=.lst (cutV (ds.map V.ref) (some (t:Int)) none)) ha).new (o:=.lst (cutV (ds.map V.ref) none (some (t:Int)))) hb)))
  refine q _ pc tl t (ds.drop t ++ ds.take t) (k6.new hc) ((S6.new hc _).mono (by lia)) (k6.free (S6.ne hc) hc) zf (by lia) htw ?_
  exact ((F6.keep (.of (zk hc _))).drop t).app ((F6.keep (.of (zk hc _))).take t)
end
end GN
namespace L2
open PySem PySem.Spec PyProof.Rows
section
variable {X:Cx}
end
def Sme:Nat->Hp->V->V->Prop
  | 0,_,_,_=>False
  | n + 1,H,x,y=>(yF x=true/\x=y)\/∃ a b xs ys,x=.ref a/\y=.ref b/\((H a=some (.lst xs)/\H b=some (.lst ys))\/(H a=some (.tup xs)/\H b=some (.tup ys)))/\xs.length=ys.length/\∀ (i:Nat) u v,xs[i]?=some u->ys[i]?=some v->Sme n H u v
section
variable {X:Cx} {pins:List (Addr × Obj)} {σ:St} {H:Hp} {s:Shared}
theorem ja {A:Around} {n:Nat} {xs ys:List V} {us vs:List Value} (r:Vals xs us) (r':Vals ys vs) (go:∀ {x y:V} {u v:Value},Sme n H x y->RelV x u->RelV y v->SeqAt.EqAt A s u v true)
    (h:∀ (i:Nat) u v,xs[i]?=some u->ys[i]?=some v->Sme n H u v) (j:Nat) (h1:j < us.toArray.size) (h2:j < vs.toArray.size):SeqAt.EqAt A s us.toArray[j] vs.toArray[j] true:=by
  have l1:=r.length
  have l2:=r'.length
  simp at h1 h2
  have hx:xs[j]?=some (xs[j]'(by lia)):=List.getElem?_eq_getElem _
  have hy:ys[j]?=some (ys[j]'(by lia)):=List.getElem?_eq_getElem _
  obtain ⟨u,e1,rx⟩:=r.get hx
  obtain ⟨v,e2,ry⟩:=r'.get hy
  have g1:us.toArray[j]=u:=by
    have:=List.getElem?_eq_some_iff.mp e1
    simpa using this.2
  have g2:vs.toArray[j]=v:=by
    have:=List.getElem?_eq_some_iff.mp e2
    simpa using this.2
  rw [g1,g2]
  exact go (h j _ _ hx hy) rx ry
theorem Jf {A:Around} {n:Nat} {a b:Addr} {xs ys:List V} (hu:A.units < cLine) (I:Inv X pins σ H s) (hl:xs.length=ys.length) (hab:(H a=some (.lst xs)/\H b=some (.lst ys))\/(H a=some (.tup xs)/\H b=some (.tup ys)))
    (go:∀ {x y:V} {u v:Value},Sme n H x y->RelV x u->RelV y v->SeqAt.EqAt A.in1 s u v true) (h:∀ (i:Nat) u v,xs[i]?=some u->ys[i]?=some v->Sme n H u v):SeqAt.RcAt A s (.ref a) (.ref b) true:=by
  rcases hab with ⟨h1,h2⟩ | ⟨h1,h2⟩
  · obtain ⟨i1,v1,m1,_⟩:=I.list (SqL.of h1)
    obtain ⟨i2,v2,m2,_⟩:=I.list (SqL.of h2)
    have n1:=v1.length
    have n2:=v2.length
    have main:=SeqAt.RcAt.lists (A:=A) (s:=s) (e:=fun _=>true) m1.isList m2.isList (by simp; lia) hu (fun j x y=>ja v1 v2 go h j x y)
    rw [show ((List.range i1.toArray.size).all fun _=>true)=true from List.all_eq_true.mpr fun _ _=>rfl] at main
    exact main
  · obtain ⟨i1,v1,m1,_⟩:=I.tuple (SqT.of h1)
    obtain ⟨i2,v2,m2,_⟩:=I.tuple (SqT.of h2)
    have n1:=v1.length
    have n2:=v2.length
    have main:=SeqAt.RcAt.tuples (A:=A) (s:=s) (e:=fun _=>true) m1 m2 hu (fun j x y=>ja v1 v2 go h j x y)
    have eb:((List.range (min i1.toArray.size i2.toArray.size)).all (fun _=>true) && i1.toArray.size == i2.toArray.size)=true:=by
      rw [show (List.range (min i1.toArray.size i2.toArray.size)).all (fun _=>true)=true from List.all_eq_true.mpr fun _ _=>rfl]
      simp
      lia
    rw [eb] at main
    exact main
theorem YA (I:Inv X pins σ H s):∀ (n:Nat) {A:Around} (hu:A.units + n < cLine) {x y:V} {u v:Value},Sme n H x y->RelV x u->RelV y v->SeqAt.EqAt A s u v true
  | 0,_,_,_,_,_,_,h,_,_=>h.elim
  | n + 1,A,hu,x,y,u,v,h,rx,ry=>by
    rcases h with ⟨f,rfl⟩ | ⟨a,b,xs,ys,rfl,rfl,hab,hl,h⟩
    · have k:=Z6 (A:=A) (s:=s) rx ry f f
      rw [Zb f] at k
      exact k
    · cases rx
      cases ry
      by_cases c:a=b
      · subst c
        exact .same _
      · exact .of_refs c (Jf (by lia) I hl hab (fun {x y u v}=>YA I n (A:=A.in1) (by show A.units + 1 + n < cLine; lia)) h)
def rSme (n:Nat) (b:Bool):R2:=fun x y H Q=>∃ p p',x=.ref p/\y=.ref p'/\Sme n H x y/\Q (.bl b) H
theorem zbJ {n:Nat} (hn:n<=32) (hu:X.A.units + 64 < cLine):OpR X (compareOp .Eq) (rSme n true):=by
  intro pins s σ H x y v u Q I rx ry h
  obtain ⟨p,p',rfl,rfl,h,q⟩:=h
  cases rx
  cases ry
  match n,h with
  | n + 1,h =>
    rcases h with ⟨f,_⟩ | ⟨a,b,xs,ys,e1,e2,hab,hl,h⟩
    · cases f
    · cases e1
      cases e2
      exact Jf (A:=X.A) (by lia) I hl hab (fun {x y u v}=>YA I n (A:=X.A.in1) (by show X.A.units + 1 + n < cLine; lia)) h _ _ _ _ ⟨.bl true,H,I,rfl,q⟩
theorem zbK {k n:Nat} (hn:n<=32) (hr:Room k X.A):jOp X (compareOp .Eq) (rSme n true):=⟨zbJ hn hr.units⟩
theorem ZE {A:Around} {n:Nat} (I:Inv X pins σ H s) (hu:A.units + n < cLine) {kvs':List (Key × V)} {vs':List (Key × Value)} (r':KV kvs' vs'):∀ {kvs:List (Key × V)} {vs:List (Key × Value)},KV kvs vs->(∀ k v,(k,v)∈kvs->∃ v',valV kvs' k=some v'/\Sme n H v v')->PySem.W.KeqHits A s vs' vs true
  | _,_,.nil,_=>.nil
  | (k,v) :: kvs,(k',u) :: vs,.cons hr t,h=>by
    obtain ⟨e,rv⟩:=hr
    have e:k=k':=e
    subst e
    obtain ⟨v',g1,g2⟩:=h k v (.head _)
    have rr:=r'.val k
    rw [g1] at rr
    cases hv:valueAt vs' k with
    | none=>rw [hv] at rr; exact False.elim rr
    | some u' =>
      rw [hv] at rr
      have:=PySem.W.KeqHits.hit (r:=vs) hv (YA I n hu g2 rv rr) (ZE I hu r' t fun k v hm=>h k v (.tail _ hm))
      simpa using this
end
def zal (n:Nat) (b:Bool):R2:=fun x y H Q=>∃ p p' kvs kvs',x=.ref p/\y=.ref p'/\H p=some (.dK kvs)/\H p'=some (.dK kvs')/\kvs.length=kvs'.length/\(∀ k v,(k,v)∈kvs->∃ v',valV kvs' k=some v'/\Sme n H v v')/\Q (.bl b) H
section
variable {X:Cx} {k n:Nat}
theorem QM (hn:n<=32) (hu:X.A.units + 64 < cLine):OpR X (compareOp .NotEq) (zal n false):=by
  intro pins s σ H x y v u Q I rx ry h
  obtain ⟨p,p',kvs,kvs',rfl,rfl,h1,h2,hl,h3,q⟩:=h
  cases rx
  cases ry
  obtain ⟨z1,d1,vs,r1,dd1⟩:=Y3 I.hok h1
  obtain ⟨z2,d2,vs',r2,dd2⟩:=Y3 I.hok h2
  have l1:=r1.length
  have l2:=r2.length
  refine PySem.W.keq_ne d1 d2 dd1 dd2 (by lia) (r:=true) (fun _=>ZE I (by show X.A.units + 1 + n < cLine; lia) r2 r1 h3) ?_
  rw [show (!(vs.length == vs'.length && true))=false by simp; lia]
  exact ⟨.bl false,H,I,rfl,q⟩
theorem QN (hn:n<=32) (hr:Room k X.A):jOp X (compareOp .NotEq) (zal n false):=⟨QM hn hr.units⟩
end
section
variable {X:Cx}
end
theorem Wa:typeLookup (.type "list") "keys"=pure none:=am_miss_of_fast (by decide +kernel)
theorem YB:(["__module__","__name__","__qualname__","__doc__","__annotations__"]:List Str).contains ("keys":Str)=false:=by decide +kernel
theorem yU:entryFor table "dict.update.loop"=some Builtin.«dict.update.loop»:=entryFor_of_tree (by kernel_rfl)
theorem yf:plainId "dict.update.loop"=true:=by decide +kernel
section
variable {prog:Program} {w:World} {A:Around}
theorem Wb {E:Value->Shared->Prop} {s:Shared} {a:Addr} {xs:Array Value} {k:Nat} {Q:Option Value->Shared->Prop} (hx:s.heap.get? a=some { cls:=.type "list",data:=.seq xs k }) (hA:A.handled=none)
    (h:∀ h' tk,(∀ b o,s.heap.get? b=some o->h'.get? b=some o)->Q none { s with heap:=h',toks:=tk }):wpAny (model prog w) A (getAttr? (.ref a) "keys") Q E s:=by
  obtain ⟨hp,g,d,tk,os⟩:=s
  have hT:∀ t',(⟨hp,g,d,t',os⟩:Shared).TypeIs (.ref a) "list":=fun _=>⟨_,hx,rfl⟩
  have g1:=sub_AttributeError
  have g2:=PySem.F.slot_list_getattribute.lookup
  have g3:=PySem.F.slot_list_getattribute.bind (.ref a)
  have g4:=am_list_getattr_none
  unfold getAttr? getAttrBy? getAttrBy
  repeat (any_goals (first | assumption | exact hT _ | ((with_reducible show wpAny _ _ (call (Value.builtin "list.__getattribute__") _ _) _ _ _); refine call_meets PySem.F.slot_list_getattribute (hT _) am_entry_list_getattribute (PySem.F.args_list_getattribute_2 _ _) (meets_getattribute_miss_list a xs k #[] "keys" _ Wa YB (by show 4 + 100<=sizeLine; decide)) ⟨hx,hA,fun h' tk' e hx'=>?_⟩) | wp_step))
  obtain ⟨t',u',he⟩:=hx'.there
  show wpAny _ _ (getattributeRaised _ _ _ _ _ _ _) _ _ _
  unfold getattributeRaised
  repeat (any_goals (first | assumption | wp_step))
  exact h _ _ hx'.keeps
theorem YC {κ:Type} [DecidableEq κ] {knd:KeyKind prog w κ} {R:Result->Shared->Prop} {I ax D:Addr} {items:Array Value} {more:List (κ × Value)} {res:Value} (hh:A.handled=none) (n1:ax≠I) (n2:D≠I) (n3:D≠ax) (hl:items.size=more.length) (hz:more.length<=sizeLine) :
    ∀ (m i:Nat) (s:Shared),more.length - i=m->i<=more.length->s.heap.IsListIter I ax i->s.heap.IsList ax items->s.heap.DictOf knd D (merged [] (more.take i)) ->
      (∀ (j:Nat) k v,more[j]?=some (k,v)->∃ t ku,items[j]?=some (.ref t)/\knd.is k ku=true/\IsTup s.heap t #[ku,v]/\t≠I/\t≠D) ->
      (∀ h' tk,(∀ b o,b≠I->b≠D->s.heap.get? b=some o->h'.get? b=some o)->h'.DictOf knd D (merged [] more)->R (.ok (.ret res)) { s with heap:=h',toks:=tk }) ->
      codeAny (model prog w) A (.builtin "dict.update.loop" ⟨[.ref D,.ref I,rawInt i,res],[]⟩) R s:=by
  intro m
  induction m with
  | zero =>
    intro i s hm hi hit hls hd hp hR
    have e:i=more.length:=by lia
    refine codeAny_builtin yU ?_
    rw [Around.under_plainId yf _]
    show wpAny _ A.in1 (pyNext (.ref I) >>= _) _ _ s
    refine wpAny_bind (wpAny_pyNext_list_end hh hit hls (by rw [Array.getElem?_eq_none (by lia)]) fun h' eb=>?_)
    show wpAny _ A.in1 (Builtin.Dict.addKeywords D [] >>= fun _=>ret res) _ _ _
    refine wpAny_bind (wpAny_pure (wpAny_pure ?_))
    rw [e,List.take_of_length_le (Nat.le_refl _)] at hd
    obtain ⟨o,es,ep,ho,hr⟩:=hd
    exact hR h' s.toks (fun b o nb _ e'=>eb b o nb e') ⟨o,es,ep,eb _ _ n2 ho,hr⟩
  | succ m ih =>
    intro i s hm hi hit hls hd hp hR
    have hlt:i < more.length:=by lia
    obtain ⟨k,v⟩:∃ kv,kv=more[i]:=⟨_,rfl⟩
    obtain ⟨kv,ekv⟩:∃ kv,more[i]?=some kv:=⟨_,List.getElem?_eq_getElem hlt⟩
    obtain ⟨k,v⟩:=kv
    obtain ⟨t,ku,e1,e2,e3,e4,e5⟩:=hp i k v ekv
    refine codeAny_builtin yU ?_
    rw [Around.under_plainId yf _]
    show wpAny _ A.in1 (pyNext (.ref I) >>= _) _ _ s
    refine wpAny_bind (wpAny_pyNext_list_item hit hls e1 fun h' hit' sb=>?_)
    have ls':=hls.extBut sb.extBut n1
    have tp':=e3.extBut sb.extBut e4
    obtain ⟨ot,hot,hct,nt,hdt⟩:=id tp'
    show wpAny _ A.in1 (holding [Value.ref t] _ >>= _) _ _ _
    refine wpAny_bind (wpAny_holding (wpAny_bind (wpAny_tryCatch ?_)))
    unfold Builtin.Dict.pairItems
    refine wpAny_bind (wpAny_typeOf ⟨ot,hot,hct⟩ ?_)
    rw [if_pos (by decide +kernel)]
    refine wpAny_bind ?_
    unfold seqItems?
    refine wpAny_bind (wpAny_load hot ?_)
    rw [hdt]
    refine wpAny_pure (wpAny_pure ?_)
    show wpAny _ A.in1 (holding [ku,v] (dictSet D ku v)) _ _ _
    have hd':h'.DictOf knd D (merged [] (more.take i)):=by
      obtain ⟨o,es,ep,ho,hr⟩:=hd
      exact ⟨o,es,ep,sb.extBut _ _ n2 ho,hr⟩
    have lz:(merged [] (more.take i)).length<=sizeLine:=by
      have:=merged_length_le [] (more.take i)
      rw [List.length_take] at this
      simp only [List.length_nil] at this
      lia
    refine wpAny_holding (wpAny_dictSet_pairs (hsz:=lz) e2 hd' fun h'' hd'' sb''=>?_)
    rw [<- merged_take_succ [] more i (k,v) ekv] at hd''
    have ls'':=ls'.extBut sb''.extBut n3.symm
    have hit'':=hit'.extBut sb''.extBut n2.symm
    refine wpAny_pure ⟨plainId_quiet yf _,ih (i + 1) _ (by lia) hlt hit'' ls'' hd'' (fun j k' v' ej=>?_) fun h3 tk k3 d3=>?_⟩
    · obtain ⟨t',ku',a1,a2,a3,a4,a5⟩:=hp j k' v' ej
      exact ⟨t',ku',a1,a2,(a3.extBut sb.extBut a4).extBut sb''.extBut a5,a4,a5⟩
    · exact hR h3 tk (fun b o b1 b2 e'=>k3 b o b1 b2 (sb''.extBut _ _ b2 (sb.extBut _ _ b1 e'))) d3
end
section
variable {X:Cx}
theorem ZG {s:Shared} {pins:List (Addr × Obj)} {σ:St} {H:Hp} (I:Inv X pins σ H s):∀ {kvs:List (Key × V)} {ts:List Addr},Prs H kvs ts->∃ more:List (Key × Value),KV kvs more/\∀ (j:Nat) k v,more[j]?=some (k,v)->∃ t ku,ts[j]?=some t/\(zE X.prog X.w).is k ku=true/\IsTup s.heap t #[ku,v]
  | [],_,.nil=>⟨[],.nil,fun j k v h=>by simp at h⟩
  | (k,x) :: kvs,t :: ts,.cons h r=>by
    obtain ⟨more,e1,e2⟩:=ZG I r
    obtain ⟨its,rv,tp,_⟩:=I.tuple (SqT.of h)
    obtain ⟨ku,vu,rfl⟩:∃ a b,its=[a,b]:=by
      have:=rv.length
      match its,this with
      | [a,b],_=>exact ⟨a,b,rfl⟩
    cases rv with
    | cons r1 r2 =>
      cases r2 with
      | cons r2 _ =>
        refine ⟨(k,vu) :: more,.cons ⟨rfl,r2⟩ e1,fun j k' v' hj=>?_⟩
        match j,hj with
        | 0,hj =>
          cases hj
          refine ⟨t,ku,rfl,?_,tp⟩
          cases k with
          | inl i=>obtain ⟨u,rfl⟩:=r1; exact wv _ _ i u
          | inr z=>obtain ⟨u,rfl⟩:=r1; exact ww _ _ z u
        | j + 1,hj=>exact e2 j k' v' hj
def Jg:List V->Hp->VK->Prop:=fun xs H Q=>∃ (l:Addr) (kvs:List (Key × V)) (ts:List Addr),xs=[.ref l]/\H l=some (.lst (ts.map V.ref))/\Prs H kvs ts/\(kvs.map (·.1)).Nodup/\∀ l',H l'=none->Q (.ref l') (upd H l' (.dK kvs))
theorem wH (hc:X.calm=true):y8 X (.type "dict") Jg:=by
  intro pins s σ H xs us Q I r h
  obtain ⟨l,kvs,ts,rfl,hl,hp,hn,q⟩:=h
  obtain ⟨u,rfl,rx⟩:=wx r
  cases rx
  obtain ⟨its,n,rv,hol,hz⟩:=I.lst hl
  obtain ⟨more,km,hm⟩:=ZG I hp
  have hh:X.A.handled=none:=I.ok.hd hc
  have lk:kvs.length=more.length:=Paired.length km
  have lt:kvs.length=ts.length:=Paired.length hp
  have li:=rv.length
  rw [List.length_map] at li hz
  have keys:more.map (·.1)=kvs.map (·.1):=by
    have:∀ {a:List (Key × V)} {b:List (Key × Value)},KV a b->b.map (·.1)=a.map (·.1):=fun {a b} z=>by
      induction z with
      | nil=>rfl
      | cons h _ ih=>rw [List.map_cons,List.map_cons,h.1,ih]
    exact this km
  refine callType_codes (Q₁:=fun obj s₁=>obj=.ref s.heap.objs.size/\s₁={ s with heap:=s.heap.push { cls:=.type "dict",data:=.dict #[] } }) PySem.F.kt_called_dict (PySem.F.kt_typeCall_dict_1 _) PySem.F.entry_dict_init (kt_code_dict_new _ ⟨rfl,rfl⟩) ?_
  rintro obj s₁ ⟨rfl,rfl⟩
  have new:(s.heap.push { cls:=.type "dict",data:=.dict #[] }).DictOf (zE X.prog X.w) s.heap.objs.size []:=Heap.DictOf.new s.heap
  have hol':(s.heap.push { cls:=.type "dict",data:=.dict #[] }).get? l=some { cls:=.type "list",data:=.seq its.toArray n }:=Heap.get?_push_of_some _ hol
  refine ⟨new.typeIs,PySem.F.args_dict_init_2 _ _,?_⟩
  unfold Builtin.«dict.__init__»
  refine wpAny_bind ?_
  unfold Builtin.Dict.selfAndRest
  refine wpAny_bind (wpAny_notOrdered_dict new.typeIs ?_)
  show wpAny _ _ (pure (s.heap.objs.size,[Value.ref l])) _ _ _
  refine wpAny_pure ?_
  show wpAny _ _ (Builtin.Dict.updateFrom "dict.__init__" s.heap.objs.size (.ref l) [] .none) _ _ _
  unfold Builtin.Dict.updateFrom
  refine wpAny_bind (wpAny_typeOf ⟨_,hol',rfl⟩ ?_)
  rw [if_pos (by decide +kernel)]
  refine wpAny_bind (Wb hol' hh fun h1 t1 k1=>?_)
  rw [if_pos (show ((none:Option Value).isNone=true) from rfl)]
  have hol1:=k1 _ _ hol'
  have big:=I.big
  obtain ⟨o,es,ep,ho,hr⟩:=id new
  have ho1:=k1 _ _ ho
  have ltD:s.heap.objs.size < h1.objs.size:=Heap.lt_size ho1
  have ltl:l < s.heap.objs.size:=Heap.lt_size hol
  refine wpAny_bind (wpAny_rule (wpAny_bind (wpAny_pyIter_list (items:=its.toArray) ⟨_,hol1,rfl,n,rfl⟩ ?_)))
  refine wpAny_pure ⟨plainId_quiet yf _,?_⟩
  refine YC (A:=X.A.in1) (knd:=zE X.prog X.w) (ax:=l) (more:=more) (items:=its.toArray) hh (Nat.ne_of_lt (Nat.lt_trans ltl ltD)) (Nat.ne_of_lt ltD) (Nat.ne_of_gt ltl) (by rw [List.size_toArray]; lia) (by lia) more.length 0 _ (by lia) (Nat.zero_le _) ⟨_,Heap.get?_push_size _ rfl,rfl,rfl⟩ ⟨_,Heap.get?_push_of_some _ hol1,rfl,n,rfl⟩ ⟨o,es,ep,Heap.get?_push_of_some _ ho1,hr⟩ (fun j k v ej=>?_) (fun h' tk kk dd=>?_)
  · obtain ⟨t,ku,a1,a2,⟨ot,a3,a4⟩⟩:=hm j k v ej
    have ltt:t < s.heap.objs.size:=Heap.lt_size a3
    obtain ⟨u,hu,ru⟩:=rv.get (i:=j) (x:=.ref t) (by rw [List.getElem?_map,a1]; rfl)
    cases ru
    exact ⟨t,ku,by simpa using hu,a2,⟨ot,Heap.get?_push_of_some _ (k1 _ _ (Heap.get?_push_of_some _ a3)),a4⟩,Nat.ne_of_lt (Nat.lt_trans ltt ltD),Nat.ne_of_lt ltt⟩
  · rw [merged_nil_of_nodup more (by rw [keys]; exact hn)] at dd
    have hk:∀ b o,s.heap.get? b=some o->h'.get? b=some o:=fun b o e=>kk b o (Nat.ne_of_lt (Nat.lt_trans (Heap.lt_size e) ltD)) (Nat.ne_of_lt (Heap.lt_size e)) (Heap.get?_push_of_some _ (k1 _ _ (Heap.get?_push_of_some _ e)))
    refine ⟨rfl,.ref s.heap.objs.size,_,I.laid (t':=tk) hk (Nat.le_refl _) (show ObjOk X.prog X.w _ h' _ (.dK kvs) from ⟨by lia,?_,more,km,dd⟩),rfl,q _ (I.hok.fresh (Nat.le_refl _))⟩
    exact beq_eq_false_iff_ne.mpr (fun e=>by rw [e] at big; exact Nat.lt_irrefl _ big)
theorem vI (hc:X.calm=true):jCa X (.type "dict") Jg:=⟨wH hc⟩
end
end L2
namespace GN
open PySem L2 K11
theorem YD {α:Type} (f:α->Nat) (c:Nat):∀ l:List α,(∀ x∈l,f x<=c)->(l.map f).sum<=l.length * c
  | [],_=>Nat.zero_le _
  | x :: l,h=>by
    have a:=h x List.mem_cons_self
    have b:=YD f c l fun y hy=>h y (List.mem_cons_of_mem _ hy)
    rw [List.map_cons,List.sum_cons,List.length_cons,Nat.succ_mul]
    lia
theorem vD (dfs:List Df) (c:Nat) (h:∀ d∈dfs,d.ns.length<=c):(cand dfs).length<=dfs.length * c:=by
  unfold cand
  rw [List.length_flatMap]
  refine YD _ c dfs fun d hd=>?_
  rw [List.length_map,List.length_range]
  exact h d hd
def Ch.rs (c:Ch) (r:Nat):List Df:=((List.range c.m).map c.df).drop r ++ ((List.range c.m).map c.df).take r
def Ch.dfs (c:Ch) (r:Nat):List Df:=c.rs r ++ if 0 < c.b then [c.bes] else []
section
variable {c:Ch} {r:Nat}
theorem Ch.rs_in {d:Df}:d∈c.rs r↔∃ k,k < c.m/\d=c.df k:=by
  have e:d∈c.rs r↔d∈(List.range c.m).map c.df:=by
    unfold Ch.rs
    conv=>rhs; rw [<- List.take_append_drop r ((List.range c.m).map c.df)]
    rw [List.mem_append,List.mem_append]
    exact or_comm
  rw [e,List.mem_map]
  exact ⟨fun ⟨k,h1,h2⟩=>⟨k,List.mem_range.mp h1,h2.symm⟩,fun ⟨k,h1,h2⟩=>⟨k,List.mem_range.mpr h1,h2.symm⟩⟩
theorem Ch.dfs_in:c.In (c.dfs r):=fun d=>by
  unfold Ch.dfs
  rw [List.mem_append,Ch.rs_in]
  refine or_congr Iff.rfl ?_
  split
  · rename_i h
    rw [List.mem_singleton]
    exact ⟨fun e=>⟨h,e⟩,fun e=>e.2⟩
  · rename_i h
    exact ⟨fun e=>(by cases e),fun e=>absurd e.1 h⟩
theorem Ch.rs_len:(c.rs r).length=c.m:=by
  unfold Ch.rs
  rw [List.length_append,List.length_drop,List.length_take,List.length_map,List.length_range]
  lia
theorem Ch.dfs_nd (o:c.Ok):((c.dfs r).map (·.z)).Nodup:=by
  have m9:=o.m9
  have h1:((c.rs r).map (·.z)).Nodup:=by
    have p:(c.rs r).Perm ((List.range c.m).map c.df):=by
      unfold Ch.rs
      refine List.perm_append_comm.trans ?_
      rw [List.take_append_drop]
    rw [(p.map _).nodup_iff,List.map_map]
    unfold List.Nodup
    rw [List.pairwise_map]
    refine List.Pairwise.imp_of_mem (fun {i j} hi hj n e=>n ?_) (List.nodup_range (n:=c.m))
    have h1:=List.mem_range.mp hi
    have h2:=List.mem_range.mp hj
    exact Ch.nm_inj (by lia) (by lia) e
  unfold Ch.dfs
  rw [List.map_append,List.nodup_append]
  refine ⟨h1,?_,fun x hx y hy e=>?_⟩
  · split <;> simp
  · obtain ⟨d,hd,rfl⟩:=List.mem_map.mp hx
    obtain ⟨k,hk,rfl⟩:=Ch.rs_in.mp hd
    split at hy
    · have ey:y=c.bes.z:=by simpa using hy
      have:=Ch.nm_inj (c:=c) (j:=k) (k:=99) (by lia) (by decide) (e.trans ey)
      lia
    · cases hy
theorem Ch.dfs_sz (o:c.Ok) {d:Df} (hd:d∈c.dfs r):d.b.sz<=9/\d.ns.length<=9:=by
  rcases (Ch.dfs_in d).mp hd with ⟨k,hk,rfl⟩ | ⟨h,rfl⟩
  · refine ⟨?_,by rw [show (c.df k).ns=par c.s c.w 10 from rfl,zL]; exact o.w9⟩
    show (if k + 1=c.m then c.las else c.lnk k).sz<=9
    split
    · unfold Ch.las Ch.don
      rw [Bd.sz,Bd.sz]
      split
      · rw [Bd.sz]; decide
      split
      · rw [Bd.sz,Bd.sz]; decide
      split
      · rw [Bd.sz,Bd.sz]; decide
      · rw [Bd.sz]; decide
    · unfold Ch.lnk
      rw [Bd.sz,Bd.sz]
      decide
  · refine ⟨?_,by rw [show c.bes.ns=par c.s c.b 1 from rfl,zL]; exact o.b⟩
    unfold Ch.bes
    rw [Bd.sz]
    decide
theorem Ch.dfs_len (o:c.Ok):(c.dfs r).length<=60:=by
  have m9:=o.m9
  unfold Ch.dfs
  rw [List.length_append,Ch.rs_len]
  split
  · rw [List.length_singleton]; lia
  · rw [List.length_nil]; lia
theorem Ch.cand_le (o:c.Ok) (h:c.m * c.w<=59):(cand (c.dfs r)).length<=68:=by
  have e:cand (c.dfs r)=cand (c.rs r) ++ cand (if 0 < c.b then [c.bes] else []):=by
    unfold cand Ch.dfs
    exact List.flatMap_append
  have h1:(cand (c.rs r)).length<=(c.rs r).length * c.w:=vD _ _ fun d hd=>by
    obtain ⟨k,hk,rfl⟩:=Ch.rs_in.mp hd
    rw [show (c.df k).ns=par c.s c.w 10 from rfl,zL]
    exact Nat.le_refl _
  have h2:(cand (if 0 < c.b then [c.bes] else [])).length<=(if 0 < c.b then [c.bes] else []).length * 9:=vD _ _ fun d hd=>by
    split at hd
    · rw [List.mem_singleton.mp hd,show c.bes.ns=par c.s c.b 1 from rfl,zL]
      exact o.b
    · cases hd
  have h3:(if 0 < c.b then [c.bes] else []).length<=1:=by
    split
    · exact Nat.le_refl _
    · exact Nat.zero_le _
  rw [e,List.length_append]
  rw [Ch.rs_len] at h1
  lia
theorem Ch.dfs_prb (o:c.Ok):PrB (c.dfs r):=by
  have l:=Ch.dfs_len (r:=r) o
  refine ⟨fun d hd=>?_,?_,?_,by lia⟩
  · obtain ⟨a,b⟩:=Ch.dfs_sz o hd
    exact ⟨by lia,by lia⟩
  · have:=YD (fun d:Df=>d.b.all.length) 9 (c.dfs r) fun d hd=>Nat.le_trans (Bd.all_len d.b) (Ch.dfs_sz o hd).1
    unfold cntB
    lia
  · have:=vD (c.dfs r) 9 fun d hd=>(Ch.dfs_sz o hd).2
    lia
end
def spD (F:Df->List Bool) (d:Df):List (Str × Nat):=((List.range (F d).length).filter fun k=>(F d).getD k false).map fun k=>(d.z,k)
def yV (F:Df->List Bool) (dfs:List Df):List (Str × Nat):=dfs.flatMap (spD F)
theorem ZH {α β:Type} {f g:α->List β} {l:List α} (h:∀ x∈l,f x=g x):l.flatMap f=l.flatMap g:=by rw [List.flatMap_def,List.flatMap_def,List.map_congr_left h]
theorem Xr:∀ {dfs:List Df},(dfs.map (·.z)).Nodup->(cand dfs).Nodup
  | [],_=>List.nodup_nil
  | d :: l,h=>by
    rw [List.map_cons,List.nodup_cons] at h
    have e:cand (d :: l)=(List.range d.ns.length).map (fun k=>(d.z,k)) ++ cand l:=by unfold cand; rw [List.flatMap_cons]
    rw [e,List.nodup_append]
    refine ⟨?_,Xr h.2,fun x hx y hy e=>?_⟩
    · unfold List.Nodup
      rw [List.pairwise_map]
      exact List.Pairwise.imp (fun n e=>n (congrArg (·.2) e)) (List.nodup_range (n:=d.ns.length))
    · obtain ⟨k,_,rfl⟩:=List.mem_map.mp hx
      unfold cand at hy
      obtain ⟨d',hd',hy⟩:=List.mem_flatMap.mp hy
      obtain ⟨k',_,rfl⟩:=List.mem_map.mp hy
      exact h.1 (List.mem_map.mpr ⟨d',hd',(congrArg (·.1) e).symm⟩)
theorem vE {dfs:List Df}:yV (flg dfs) dfs=(cand dfs).filter fun p=>decide (p∈(zt dfs).map Rw.key):=by
  unfold yV cand
  rw [List.filter_flatMap]
  refine ZH fun d _=>?_
  unfold spD
  rw [List.filter_map]
  have el:(flg dfs d).length=d.ns.length:=by unfold flg; rw [List.length_map,List.length_range]
  rw [el]
  congr 1
  refine List.filter_congr fun k hk=>?_
  unfold flg
  rw [List.getD_eq_getElem?_getD,List.getElem?_map,List.getElem?_range (List.mem_range.mp hk)]
  rfl
theorem YE {dfs:List Df} (h:(dfs.map (·.z)).Nodup):((zt dfs).map Rw.key).Perm (yV (flg dfs) dfs):=by
  rw [vE]
  refine (List.perm_ext_iff_of_nodup (vC h) ((Xr h).filter _)).mpr fun p=>?_
  rw [List.mem_filter,decide_eq_true_eq]
  refine ⟨fun m=>⟨?_,m⟩,fun m=>m.2⟩
  obtain ⟨r,hr,rfl⟩:=List.mem_map.mp m
  obtain ⟨d,hd,e1,e2⟩:=QF h hr
  unfold cand
  refine List.mem_flatMap.mpr ⟨d,hd,List.mem_map.mpr ⟨r.k,List.mem_range.mpr e2,?_⟩⟩
  unfold Rw.key
  rw [e1]
theorem Wc {dfs:List Df}:(yV (flg dfs) dfs).length<=(cand dfs).length:=by
  rw [vE]
  exact List.length_filter_le _ _
theorem wF {dfs:List Df} {F G:Df->List Bool} (h:∀ d∈dfs,F d=G d):yV F dfs=yV G dfs:=by
  unfold yV
  refine ZH fun d hd=>?_
  unfold spD
  rw [h d hd]
end GN
namespace Ts
open PySem PyProof.Rows
abbrev SM:=StateT SortSt Sem
def gal:Bool->Keyed->Array Keyed->Nat->Nat->Nat->SM (Option Nat):=sortPriv% PySem.Builtin.gallop
def mlo:Array Keyed->Array Keyed->SM (Array Keyed):=sortPriv% PySem.Builtin.mergeLo
def mhi:Array Keyed->Array Keyed->SM (Array Keyed):=sortPriv% PySem.Builtin.mergeHi
def setG:Nat->SM Unit:=sortPriv% PySem.Builtin.setMinGallop
section
variable {κ:KeyKind} {kd:SortKind} {prog:Program} {w:World} {A:Around} {E:Value->Shared->Prop} {s:Shared}
def LtH (κ:KeyKind) (kd:SortKind) (prog:Program) (w:World) (A:Around) (s:Shared):Prop:=∀ (E:Value->Shared->Prop) (x y:Value) (a b:κ.α) (Q:Bool->Shared->Prop),κ.keyOf x=some a->κ.keyOf y=some b->Q (κ.blt a b) s->wpAny (model prog w) A (keyLt' kd x y) Q E s
def kk (κ:KeyKind) (p:Keyed):κ.α:=(κ.keyOf p.1).getD κ.dflt
def Ok (κ:KeyKind) (p:Keyed):Prop:=∃ a,κ.keyOf p.1=some a
theorem zam {p:Keyed} (h:Ok κ p):κ.keyOf p.1=some (kk κ p):=by
  obtain ⟨a,e⟩:=h
  unfold kk
  rw [e]
  rfl
theorem xQ {st:SortSt} {x y:Keyed} {Q:Option Bool->SortSt->Prop} (hL:LtH κ kd prog w A s) (hk:kindOf st=kd) (hx:Ok κ x) (hy:Ok κ y) (h:Q (some (κ.blt (kk κ x) (kk κ y))) st):wpS (model prog w) A E s (lt' x y) Q st:=by
  rw [lt'_eq]
  refine wpS_bind (wpS_get ?_)
  rw [hk]
  exact wpS_bind (wpS_lift (wpAny_attempt (hL _ _ _ _ _ _ (zam hx) (zam hy) ⟨rfl,wpS_pure h⟩)))
theorem zK {st:SortSt} {arr:Array Keyed} {i:Nat} {p:Keyed} {Q:Keyed->SortSt->Prop} (e:arr[i]?=some p) (h:Q p st):wpS (model prog w) A E s (elem' arr i) Q st:=by
  rw [elem'_eq,e]
  exact wpS_pure h
theorem Xs {left:Bool} {key:Keyed} {arr:Array Keyed} {base n hint:Nat} {st:SortSt} {Q:Option Nat->SortSt->Prop} (P:Nat->Bool) (hL:LtH κ kd prog w A s) (hk:kindOf st=kd) (hkey:Ok κ key) (hh:hint < n)
    (at_:∀ i,i < n->∃ x,arr[base + i]?=some x/\Ok κ x/\P i=if left then κ.blt (kk κ x) (kk κ key) else !κ.blt (kk κ key) (kk κ x))
    (mono:∀ i j,j<=i->i < n->P i=true->P j=true) (h:∀ k,k<=n->(∀ i,i < k->P i=true)->(∀ i,k<=i->i < n->P i=false)->Q (some k) st):wpS (model prog w) A E s (gal left key arr base n hint) Q st:=by
  have bey:∀ (i:Nat) (R:Option Bool->SortSt->Prop),i < n->R (some (P i)) st->wpS (model prog w) A E s (do
      let x <- elem' arr (base + i)
      if left then lt' x key else return (<- lt' key x).map (!·):SM (Option Bool)) R st:=by
    intro i R hi hR
    obtain ⟨x,e,ox,eP⟩:=at_ i hi
    refine wpS_bind (zK e ?_)
    cases left with
    | true =>
      rw [if_pos rfl] at eP ⊢
      exact xQ hL hk ox hkey (by rw [<- eP]; exact hR)
    | false =>
      rw [if_neg (by decide)] at eP ⊢
      exact wpS_bind (xQ hL hk hkey ox (wpS_pure (by show R (some (!_)) st; rw [<- eP]; exact hR)))
  have fin:∀ (lo hi:Nat),lo<=hi->hi<=n->(∀ i,i < lo->P i=true)->(∀ i,hi<=i->i < n->P i=false)->∀ (f:Nat->Option (Option Nat) × Nat × Nat->SM (ForInStep (Option (Option Nat) × Nat × Nat))),
      (∀ x l r R,l < r->r<=n->(P (l + (r - l) / 2)=true->R (ForInStep.yield (none,l + (r - l) / 2 + 1,r)) st)->(P (l + (r - l) / 2)=false->R (ForInStep.yield (none,l,l + (r - l) / 2)) st)->wpS (model prog w) A E s (f x (none,l,r)) R st) ->
      (∀ x l R,R (ForInStep.done (none,l,l)) st->wpS (model prog w) A E s (f x (none,l,l)) R st) ->
      wpS (model prog w) A E s (forIn [0:n] (none,lo,hi) f) (fun c st'=>st'=st/\∃ l,c=(none,l,l)/\l<=n/\(∀ i,i < l->P i=true)/\∀ i,l<=i->i < n->P i=false) st:=by
    intro lo hi h1 h2 h3 h4 f hf hg
    refine wpS_forRange (I:=fun x c st'=>st'=st/\∃ l r,c=(none,l,r)/\l<=r/\r<=n/\r - l<=n - x/\(∀ i,i < l->P i=true)/\∀ i,r<=i->i < n->P i=false) ?step ?fin ?init
    case init=>exact ⟨rfl,lo,hi,rfl,h1,h2,by lia,h3,h4⟩
    case fin =>
      rintro c st' ⟨rfl,l,r,rfl,q1,q2,q3,q4,q5⟩
      obtain rfl:l=r:=by lia
      exact ⟨rfl,l,rfl,q2,q4,q5⟩
    case step =>
      rintro x c st' _ hx ⟨rfl,l,r,rfl,q1,q2,q3,q4,q5⟩
      by_cases c:l < r
      · refine hf x l r _ c q2 (fun e=>⟨rfl,_,_,rfl,by lia,q2,by lia,fun i hi=>?_,q5⟩) fun e=>⟨rfl,_,_,rfl,by lia,by lia,by lia,q4,fun i hi1 hi2=>?_⟩
        · exact mono _ i (by lia) (by lia) e
        · cases e2:P i with
          | false=>rfl
          | true=>rw [mono i _ hi1 hi2 e2] at e; cases e
      · obtain rfl:l=r:=by lia
        exact hg x l _ ⟨rfl,l,rfl,q2,q4,q5⟩
  refine wpS_bind (bey hint _ hh ?_)
  cases e0:P hint with
  | true =>
    dsimp only
    rw [if_pos rfl]
    refine wpS_bind (wpS_mono (wpS_forRange (I:=fun x c st'=>st'=st/\∃ l o,c=(none,l,o)/\x + 1<=o/\l < o/\hint + l < n/\P (hint + l)=true)
      (Q:=fun c st'=>st'=st/\∃ l o,c=(none,l,o)/\l < o/\hint + l < n/\P (hint + l)=true/\(n - hint<=o\/P (hint + o)=false)) ?step ?fin ?init) ?post)
    case init=>exact ⟨rfl,0,1,rfl,by lia,by lia,by lia,e0⟩
    case fin =>
      rintro c st' ⟨rfl,l,o,rfl,q1,q2,q3,q4⟩
      exact ⟨rfl,l,o,rfl,q2,q3,q4,.inl (by lia)⟩
    case step =>
      rintro x c st' _ hx ⟨rfl,l,o,rfl,q1,q2,q3,q4⟩
      dsimp only
      by_cases c:o ≥ n - hint
      · rw [if_pos c]
        exact wpS_pure ⟨rfl,l,o,rfl,q2,q3,q4,.inl c⟩
      · rw [if_neg c]
        refine wpS_bind (bey (hint + o) _ (by lia) ?_)
        cases e1:P (hint + o) with
        | true =>
          dsimp only
          rw [if_neg (by decide)]
          exact wpS_pure ⟨rfl,o,_,rfl,by lia,by lia,by lia,e1⟩
        | false =>
          dsimp only
          rw [if_pos (by decide)]
          exact wpS_pure ⟨rfl,l,o,rfl,q2,q3,q4,.inr e1⟩
    case post =>
      rintro c st' ⟨rfl,l,o,rfl,q2,q3,q4,q5⟩
      dsimp only
      refine wpS_bind (wpS_mono (fin (hint + l + 1) (hint + min o (n - hint)) (by lia) (by lia) (fun i hi=>mono _ i (by lia) q3 q4) (fun i hi1 hi2=>?_) _ (fun x l r R c1 c2 y1 y2=>?_) fun x l R y=>?_) ?_)
      · rcases q5 with q5 | q5
        · lia
        · cases e2:P i with
          | false=>rfl
          | true=>rw [mono i _ (by lia) hi2 e2] at q5; cases q5
      · dsimp only
        rw [if_neg (by lia)]
        refine wpS_bind (bey _ _ (by lia) ?_)
        cases e2:P (l + (r - l) / 2) with
        | true=>dsimp only; rw [if_pos rfl]; exact wpS_pure (y1 e2)
        | false=>dsimp only; rw [if_neg (by decide)]; exact wpS_pure (y2 e2)
      · dsimp only
        rw [if_pos (Nat.le_refl _)]
        exact wpS_pure y
      · rintro c st'' ⟨rfl,l,rfl,q6,q7,q8⟩
        exact wpS_pure (h l q6 q7 q8)
  | false =>
    dsimp only
    rw [if_neg (by decide)]
    refine wpS_bind (wpS_mono (wpS_forRange (I:=fun x c st'=>st'=st/\∃ l o,c=(none,l,o)/\x + 1<=o/\l < o/\l<=hint/\P (hint - l)=false)
      (Q:=fun c st'=>st'=st/\∃ l o,c=(none,l,o)/\l < o/\l<=hint/\P (hint - l)=false/\(hint + 1<=o\/P (hint - o)=true)) ?step ?fin ?init) ?post)
    case init=>exact ⟨rfl,0,1,rfl,by lia,by lia,by lia,e0⟩
    case fin =>
      rintro c st' ⟨rfl,l,o,rfl,q1,q2,q3,q4⟩
      exact ⟨rfl,l,o,rfl,q2,q3,q4,.inl (by lia)⟩
    case step =>
      rintro x c st' _ hx ⟨rfl,l,o,rfl,q1,q2,q3,q4⟩
      dsimp only
      by_cases c:o ≥ hint + 1
      · rw [if_pos c]
        exact wpS_pure ⟨rfl,l,o,rfl,q2,q3,q4,.inl c⟩
      · rw [if_neg c]
        refine wpS_bind (bey (hint - o) _ (by lia) ?_)
        cases e1:P (hint - o) with
        | true =>
          dsimp only
          rw [if_pos rfl]
          exact wpS_pure ⟨rfl,l,o,rfl,q2,q3,q4,.inr e1⟩
        | false =>
          dsimp only
          rw [if_neg (by decide)]
          exact wpS_pure ⟨rfl,o,_,rfl,by lia,by lia,by lia,e1⟩
    case post =>
      rintro c st' ⟨rfl,l,o,rfl,q2,q3,q4,q5⟩
      dsimp only
      refine wpS_bind (wpS_mono (fin (hint + 1 - min o (hint + 1)) (hint - l) (by lia) (by lia) (fun i hi=>?_) (fun i hi1 hi2=>?_) _ (fun x l r R c1 c2 y1 y2=>?_) fun x l R y=>?_) ?_)
      · rcases q5 with q5 | q5
        · lia
        · exact mono _ i (by lia) (by lia) q5
      · cases e2:P i with
        | false=>rfl
        | true=>rw [mono i _ hi1 hi2 e2] at q4; cases q4
      · dsimp only
        rw [if_neg (by lia)]
        refine wpS_bind (bey _ _ (by lia) ?_)
        cases e2:P (l + (r - l) / 2) with
        | true=>dsimp only; rw [if_pos rfl]; exact wpS_pure (y1 e2)
        | false=>dsimp only; rw [if_neg (by decide)]; exact wpS_pure (y2 e2)
      · dsimp only
        rw [if_pos (Nat.le_refl _)]
        exact wpS_pure y
      · rintro c st'' ⟨rfl,l,rfl,q6,q7,q8⟩
        exact wpS_pure (h l q6 q7 q8)
end
section
variable {κ:KeyKind}
def lt2 (κ:KeyKind) (x y:Keyed):Prop:=κ.klt (kk κ x) (kk κ y)
def Srt (κ:KeyKind) (l:List Keyed):Prop:=l.Pairwise (lt2 κ)
theorem zZ {x y z:Keyed} (h1:lt2 κ x y) (h2:lt2 κ y z):lt2 κ x z:=κ.trans _ _ _ h1 h2
theorem Srt.drop {l:List Keyed} (h:Srt κ l) (k:Nat):Srt κ (l.drop k):=List.Pairwise.sublist (List.drop_sublist _ _) h
theorem Srt.take {l:List Keyed} (h:Srt κ l) (k:Nat):Srt κ (l.take k):=List.Pairwise.sublist (List.take_sublist _ _) h
theorem Srt.cut {l:List Keyed} (h:Srt κ l) (k:Nat):∀ x∈l.take k,∀ y∈l.drop k,lt2 κ x y:=by
  have:=h
  unfold Srt at this
  rw [<- List.take_append_drop k l,List.pairwise_append] at this
  exact this.2.2
theorem Srt.lt {l:List Keyed} (h:Srt κ l) {i j:Nat} {x y:Keyed} (hij:i < j) (hx:l[i]?=some x) (hy:l[j]?=some y):lt2 κ x y:=by
  obtain ⟨h1,e1⟩:=List.getElem?_eq_some_iff.mp hx
  obtain ⟨h2,e2⟩:=List.getElem?_eq_some_iff.mp hy
  have:=List.pairwise_iff_getElem.mp h i j h1 h2 hij
  rw [e1,e2] at this
  exact this
structure Lo (κ:KeyKind) (a b out:List Keyed) (ia ib:Nat):Prop where
  perm:out.Perm (a.take ia ++ b.take ib)
  srt:Srt κ out
  ltA:∀ x∈out,∀ y∈a.drop ia,lt2 κ x y
  ltB:∀ x∈out,∀ y∈b.drop ib,lt2 κ x y
  ha:ia<=a.length
  hb:ib<=b.length
theorem Lo.len {a b out:List Keyed} {ia ib:Nat} (h:Lo κ a b out ia ib):out.length=ia + ib:=by
  have:=h.perm.length_eq
  have h1:=h.ha
  have h2:=h.hb
  rw [List.length_append,List.length_take,List.length_take] at this
  lia
theorem ZI {l:List Keyed} {i k:Nat} {y:Keyed} (h:y∈l.drop (i + k)):y∈l.drop i:=by
  rw [<- List.drop_drop] at h
  exact List.mem_of_mem_drop h
theorem Lo.blkB {a b out:List Keyed} {ia ib k:Nat} (h:Lo κ a b out ia ib) (sB:Srt κ b) (hk:ib + k<=b.length) (hl:∀ x∈(b.drop ib).take k,∀ y∈a.drop ia,lt2 κ x y):Lo κ a b (out ++ (b.drop ib).take k) ia (ib + k):=by
  refine ⟨?_,?_,fun x hx y hy=>?_,fun x hx y hy=>?_,h.ha,hk⟩
  · rw [List.take_add,<- List.append_assoc]
    exact h.perm.append_right _
  · refine List.pairwise_append.mpr ⟨h.srt,(sB.drop _).take _,fun x hx y hy=>h.ltB x hx y (List.mem_of_mem_take hy)⟩
  · rcases List.mem_append.mp hx with hx | hx
    · exact h.ltA x hx y hy
    · exact hl x hx y hy
  · rcases List.mem_append.mp hx with hx | hx
    · exact h.ltB x hx y (ZI hy)
    · rw [<- List.drop_drop] at hy
      exact (sB.drop ib).cut k x hx y hy
theorem Lo.blkA {a b out:List Keyed} {ia ib k:Nat} (h:Lo κ a b out ia ib) (sA:Srt κ a) (hk:ia + k<=a.length) (hl:∀ x∈(a.drop ia).take k,∀ y∈b.drop ib,lt2 κ x y):Lo κ a b (out ++ (a.drop ia).take k) (ia + k) ib:=by
  refine ⟨?_,?_,fun x hx y hy=>?_,fun x hx y hy=>?_,hk,h.hb⟩
  · rw [List.take_add,List.append_assoc]
    refine (h.perm.append_right _).trans ?_
    rw [List.append_assoc]
    exact List.Perm.append_left _ List.perm_append_comm
  · refine List.pairwise_append.mpr ⟨h.srt,(sA.drop _).take _,fun x hx y hy=>h.ltA x hx y (List.mem_of_mem_take hy)⟩
  · rcases List.mem_append.mp hx with hx | hx
    · exact h.ltA x hx y (ZI hy)
    · rw [<- List.drop_drop] at hy
      exact (sA.drop ia).cut k x hx y hy
  · rcases List.mem_append.mp hx with hx | hx
    · exact h.ltB x hx y hy
    · exact hl x hx y hy
theorem yW {l:List Keyed} {i:Nat} {x:Keyed} (h:l[i]?=some x):(l.drop i).take 1=[x]:=by
  obtain ⟨h1,e⟩:=List.getElem?_eq_some_iff.mp h
  rw [List.drop_eq_getElem_cons h1,e]
  rfl
theorem Srt.head {l:List Keyed} (h:Srt κ l) {i:Nat} {x y:Keyed} (hx:l[i]?=some x) (hy:y∈l.drop i):y=x\/lt2 κ x y:=by
  obtain ⟨h1,e⟩:=List.getElem?_eq_some_iff.mp hx
  rw [List.drop_eq_getElem_cons h1,e] at hy
  rcases List.mem_cons.mp hy with hy | hy
  · exact .inl hy
  · have:=h.drop i
    unfold Srt at this
    rw [List.drop_eq_getElem_cons h1,e,List.pairwise_cons] at this
    exact .inr (this.1 y hy)
theorem jc {l:List Keyed} (h:Srt κ l) {i:Nat} {x z:Keyed} (hx:l[i]?=some x) (hz:lt2 κ z x):∀ y∈l.drop i,lt2 κ z y:=fun y hy=>by
  rcases h.head hx hy with rfl | h'
  · exact hz
  · exact zZ hz h'
theorem Lo.pushB {a b out:List Keyed} {ia ib:Nat} {x y:Keyed} (h:Lo κ a b out ia ib) (sA:Srt κ a) (sB:Srt κ b) (hx:a[ia]?=some x) (hy:b[ib]?=some y) (hl:lt2 κ y x):Lo κ a b (out ++ [y]) ia (ib + 1):=by
  have:=(List.getElem?_eq_some_iff.mp hy).1
  rw [<- yW hy]
  refine h.blkB sB (by lia) fun z hz w hw=>?_
  rw [yW hy,List.mem_singleton] at hz
  rw [hz]
  exact jc sA hx hl w hw
theorem Lo.pushA {a b out:List Keyed} {ia ib:Nat} {x y:Keyed} (h:Lo κ a b out ia ib) (sA:Srt κ a) (sB:Srt κ b) (hx:a[ia]?=some x) (hy:b[ib]?=some y) (hl:lt2 κ x y):Lo κ a b (out ++ [x]) (ia + 1) ib:=by
  have:=(List.getElem?_eq_some_iff.mp hx).1
  rw [<- yW hx]
  refine h.blkA sA (by lia) fun z hz w hw=>?_
  rw [yW hx,List.mem_singleton] at hz
  rw [hz]
  exact jc sB hy hl w hw
def Mrg (κ:KeyKind) (a b r:List Keyed):Prop:=r.Perm (a ++ b)/\Srt κ r
theorem Lo.done {a b out:List Keyed} {ia ib:Nat} (h:Lo κ a b out ia ib) (sA:Srt κ a) (e:ib=b.length):Mrg κ a b (out ++ a.drop ia ++ b.drop ib):=by
  subst e
  have p:=h.perm
  rw [List.drop_length,List.append_nil]
  rw [List.take_length] at p
  refine ⟨?_,List.pairwise_append.mpr ⟨h.srt,sA.drop _,h.ltA⟩⟩
  refine (p.append_right _).trans ?_
  rw [List.append_assoc]
  refine (List.Perm.append_left _ List.perm_append_comm).trans ?_
  rw [<- List.append_assoc,List.take_append_drop]
theorem Lo.last {a b out:List Keyed} {ia ib:Nat} {z:Keyed} (h:Lo κ a b out ia ib) (sB:Srt κ b) (hz:a[ia]?=some z) (e:ia + 1=a.length) (hl:∀ y∈b,lt2 κ y z):Mrg κ a b (out ++ b.drop ib ++ a.drop ia):=by
  have ez:a.drop ia=[z]:=by
    obtain ⟨h1,e1⟩:=List.getElem?_eq_some_iff.mp hz
    rw [List.drop_eq_getElem_cons h1,e1,e,List.drop_length]
  refine ⟨?_,?_⟩
  · refine ((h.perm.append_right (b.drop ib)).append_right (a.drop ia)).trans ?_
    rw [List.append_assoc (a.take ia),List.take_append_drop]
    rw [List.append_assoc]
    refine (List.Perm.append_left _ List.perm_append_comm).trans ?_
    rw [<- List.append_assoc,List.take_append_drop]
  · rw [ez]
    refine List.pairwise_append.mpr ⟨List.pairwise_append.mpr ⟨h.srt,sB.drop _,h.ltB⟩,List.pairwise_singleton _ _,fun x hx y hy=>?_⟩
    rw [List.mem_singleton.mp hy]
    rcases List.mem_append.mp hx with hx | hx
    · exact h.ltA x hx z (by rw [ez]; exact .head _)
    · exact hl x (List.mem_of_mem_drop hx)
end
section
variable {κ:KeyKind} {kd:SortKind} {prog:Program} {w:World} {A:Around} {E:Value->Shared->Prop} {s:Shared}
structure Sg (st st':SortSt):Prop where
  kind:kindOf st'=kindOf st
  arr:arrOf st'=arrOf st
  pend:pendingOf st'=pendingOf st
  failed:failedOf st'=failedOf st
theorem Sg.refl {st:SortSt}:Sg st st:=⟨rfl,rfl,rfl,rfl⟩
theorem Sg.trans {a b c:SortSt} (h:Sg a b) (g:Sg b c):Sg a c:=⟨g.kind.trans h.kind,g.arr.trans h.arr,g.pend.trans h.pend,g.failed.trans h.failed⟩
theorem xR {g:Nat} {st:SortSt} {Q:Unit->SortSt->Prop} (h:∀ st',Sg st st'->Q () st'):wpS (model prog w) A E s (setG g) Q st:=wpS_modify (h _ ⟨rfl,rfl,rfl,rfl⟩)
structure Two (κ:KeyKind) (a b:Array Keyed):Prop where
  okA:∀ p∈a.toList,Ok κ p
  okB:∀ p∈b.toList,Ok κ p
  sA:Srt κ a.toList
  sB:Srt κ b.toList
  na:1<=a.size
  nb:1<=b.size
  dis:∀ x∈a.toList,∀ y∈b.toList,lt2 κ x y\/lt2 κ y x
  h0:∀ x y,a.toList[0]?=some x->b.toList[0]?=some y->lt2 κ y x
  hl:∀ x,a.toList[a.size - 1]?=some x->∀ y∈b.toList,lt2 κ y x
theorem Two.at {l:Array Keyed} (ok:∀ p∈l.toList,Ok κ p) {i:Nat} (h:i < l.size):∃ x,l[i]?=some x/\l.toList[i]?=some x/\x∈l.toList/\Ok κ x:=by
  have hm:l[i]∈l.toList:=by simp
  exact ⟨l[i],getElem?_pos l i h,by rw [Array.getElem?_toList]; exact getElem?_pos l i h,hm,ok _ hm⟩
theorem Two.ab {a b:Array Keyed} (T:Two κ a b) {x y:Keyed} (hx:x∈a.toList) (hy:y∈b.toList) (h:κ.blt (kk κ y) (kk κ x)=false):lt2 κ x y:=(T.dis x hx y hy).resolve_right fun z=>by
  have z:κ.blt (kk κ y) (kk κ x)=true:=z
  rw [h] at z
  cases z
theorem YF {key:Keyed} {arr:Array Keyed} {base n hint:Nat} {st:SortSt} {Q:Option Nat->SortSt->Prop} (hL:LtH κ kd prog w A s) (hk:kindOf st=kd) (ok:∀ p∈arr.toList,Ok κ p) (hkey:Ok κ key) (S:∀ i j x y,base<=i->i < j->j < base + n->arr.toList[i]?=some x->arr.toList[j]?=some y->lt2 κ x y) (hb:base + n<=arr.size) (hh:hint < n)
    (h:∀ k,k<=n->(∀ i x,i < k->arr.toList[base + i]?=some x->κ.blt (kk κ key) (kk κ x)=false)->(∀ i x,k<=i->i < n->arr.toList[base + i]?=some x->lt2 κ key x)->Q (some k) st):wpS (model prog w) A E s (gal false key arr base n hint) Q st:=by
  refine Xs (fun i=>match arr.toList[base + i]? with
    | some x=>!κ.blt (kk κ key) (kk κ x)
    | none=>false) hL hk hkey hh (fun i hi=>?_) (fun i j hij hi e=>?_) fun k k1 k2 k3=>?_
  · obtain ⟨x,e1,e2,_,o⟩:=Two.at ok (show base + i < arr.size by lia)
    exact ⟨x,e1,o,by rw [e2]; rfl⟩
  · obtain ⟨x,_,e2,_,o⟩:=Two.at ok (show base + i < arr.size by lia)
    obtain ⟨y,_,f2,_,p⟩:=Two.at ok (show base + j < arr.size by lia)
    rw [e2] at e
    rw [f2]
    have e:(!κ.blt (kk κ key) (kk κ x))=true:=e
    show (!κ.blt (kk κ key) (kk κ y))=true
    cases c:κ.blt (kk κ key) (kk κ y) with
    | false=>rfl
    | true =>
      have:lt2 κ key x:=by
        by_cases hj:j=i
        · subst hj
          rw [e2] at f2
          cases f2
          exact c
        · exact zZ c (S (base + j) (base + i) y x (by lia) (by lia) (by lia) f2 e2)
      have this:κ.blt (kk κ key) (kk κ x)=true:=this
      rw [this] at e
      cases e
  · refine h k k1 (fun i x hi e=>?_) fun i x hi1 hi2 e=>?_
    · have:=k2 i hi
      rw [e] at this
      have this:(!κ.blt (kk κ key) (kk κ x))=true:=this
      simpa using this
    · have:=k3 i hi1 hi2
      rw [e] at this
      have this:(!κ.blt (kk κ key) (kk κ x))=false:=this
      show κ.blt _ _=true
      simpa using this
theorem YG {key:Keyed} {arr:Array Keyed} {base n hint:Nat} {st:SortSt} {Q:Option Nat->SortSt->Prop} (hL:LtH κ kd prog w A s) (hk:kindOf st=kd) (ok:∀ p∈arr.toList,Ok κ p) (hkey:Ok κ key) (S:∀ i j x y,base<=i->i < j->j < base + n->arr.toList[i]?=some x->arr.toList[j]?=some y->lt2 κ x y) (hb:base + n<=arr.size) (hh:hint < n)
    (h:∀ k,k<=n->(∀ i x,i < k->arr.toList[base + i]?=some x->lt2 κ x key)->(∀ i x,k<=i->i < n->arr.toList[base + i]?=some x->κ.blt (kk κ x) (kk κ key)=false)->Q (some k) st):wpS (model prog w) A E s (gal true key arr base n hint) Q st:=by
  refine Xs (fun i=>match arr.toList[base + i]? with
    | some x=>κ.blt (kk κ x) (kk κ key)
    | none=>false) hL hk hkey hh (fun i hi=>?_) (fun i j hij hi e=>?_) fun k k1 k2 k3=>?_
  · obtain ⟨x,e1,e2,_,o⟩:=Two.at ok (show base + i < arr.size by lia)
    exact ⟨x,e1,o,by rw [e2]; rfl⟩
  · obtain ⟨x,_,e2,_,o⟩:=Two.at ok (show base + i < arr.size by lia)
    obtain ⟨y,_,f2,_,p⟩:=Two.at ok (show base + j < arr.size by lia)
    rw [e2] at e
    rw [f2]
    by_cases hj:j=i
    · subst hj
      rw [e2] at f2
      cases f2
      exact e
    · exact zZ (S (base + j) (base + i) y x (by lia) (by lia) (by lia) f2 e2) e
  · refine h k k1 (fun i x hi e=>?_) fun i x hi1 hi2 e=>?_
    · have:=k2 i hi
      rw [e] at this
      exact this
    · have:=k3 i hi1 hi2
      rw [e] at this
      exact this
theorem hv {α:Type} {γ:Sort 1} {F:γ} {B:γ->SM α} {Q:α->SortSt->Prop} {st:SortSt} (h:∀ j,j=F->wpS (model prog w) A E s (B j) Q st):wpS (model prog w) A E s (have j:=F; B j) Q st:=h F rfl
theorem suff {α β:Type} {X:SM α} {Q:α->SortSt->Prop} {st:SortSt} (J:β->SM α) (R:β->Prop) (h1:(∀ o,R o->wpS (model prog w) A E s (J o) Q st)->wpS (model prog w) A E s X Q st) (h2:∀ o,R o->wpS (model prog w) A E s (J o) Q st):wpS (model prog w) A E s X Q st:=h1 h2
theorem xS {l:List Keyed} {i k:Nat} {x:Keyed} (h:x∈(l.drop i).take k):∃ j,j < k/\l[i + j]?=some x:=by
  obtain ⟨j,e⟩:=List.mem_iff_getElem?.mp h
  have hj:j < k:=by
    have:=(List.getElem?_eq_some_iff.mp e).1
    rw [List.length_take] at this
    lia
  rw [List.getElem?_take_of_lt hj,List.getElem?_drop] at e
  exact ⟨j,hj,e⟩
theorem ZJ {a:Array Keyed} {i k:Nat}:(a.extract i (i + k)).toList=(a.toList.drop i).take k:=by simp
theorem xU {a:Array Keyed} {i:Nat}:(a.extract i).toList=a.toList.drop i:=by
  rw [Array.toList_extract,List.extract_eq_take_drop,List.take_of_length_le (by simp)]
theorem QO {a b:Array Keyed} {st:SortSt} {Q:Array Keyed->SortSt->Prop} (hL:LtH κ kd prog w A s) (hk:kindOf st=kd) (T:Two κ a b) (h:∀ r st',Sg st st'->Mrg κ a.toList b.toList r.toList->Q r st'):wpS (model prog w) A E s (mlo a b) Q st:=by
  refine wpS_bind (wpS_lift (wpAny_rule ⟨rfl,?_⟩))
  obtain ⟨y0,e1,e2,m1,o1⟩:=Two.at T.okB (show 0 < b.size from T.nb)
  obtain ⟨x0,f1,f2,n1,p1⟩:=Two.at T.okA (show 0 < a.size from T.na)
  refine wpS_bind (zK e1 ?_)
  have L0:Lo κ a.toList b.toList [y0] 0 1:=by
    have z:Lo κ a.toList b.toList [] 0 0:=⟨.refl _,List.Pairwise.nil,(fun _ h=>by cases h),(fun _ h=>by cases h),Nat.zero_le _,Nat.zero_le _⟩
    exact z.pushB T.sA T.sB f2 e2 (T.h0 _ _ f2 e2)
  have fin1:∀ (out:Array Keyed) (ia ib:Nat),Lo κ a.toList b.toList out.toList ia ib->ib=b.size->Mrg κ a.toList b.toList (out ++ a.extract ia ++ b.extract ib).toList:=fun out ia ib L e=>by
    rw [Array.toList_append,Array.toList_append,xU,xU]
    exact L.done T.sA e
  have fin2:∀ (out:Array Keyed) (ia ib:Nat),Lo κ a.toList b.toList out.toList ia ib->ia + 1=a.size->Mrg κ a.toList b.toList (out ++ b.extract ib ++ a.extract ia).toList:=fun out ia ib L e=>by
    rw [Array.toList_append,Array.toList_append,xU,xU]
    obtain ⟨x,_,g2,_,_⟩:=Two.at T.okA (show ia < a.size by lia)
    exact L.last T.sB g2 e (T.hl x (by rw [<- e,Nat.add_sub_cancel]; exact g2))
  iterate 3 (refine hv fun _ e=>?_; subst e)
  by_cases c1:1=b.size
  · rw [if_pos (by rw [<- c1]; rfl)]
    exact wpS_pure (h _ _ .refl (fin1 #[y0] 0 1 L0 c1))
  rw [if_neg (by simpa using c1)]
  by_cases c2:0 + 1=a.size
  · rw [if_pos (by rw [<- c2]; rfl)]
    exact wpS_pure (h _ _ .refl (fin2 #[y0] 0 1 L0 c2))
  rw [if_neg (by simpa using c2)]
  refine wpS_bind (wpS_get ?_)
  refine hv fun _ e=>?_
  subst e
  have nb:=T.nb
  have na:=T.na
  refine wpS_bind (wpS_mono (wpS_forRange (I:=fun x c st'=>Sg st st'/\∃ (out:Array Keyed) (ia ib mg:Nat),c=(none,out,ia,ib,mg)/\Lo κ a.toList b.toList out.toList ia ib/\ia + 1 < a.size/\ib < b.size/\x + 1<=out.size)
    (Q:=fun c st'=>Sg st st'/\∃ r z,c=(some r,z)/\Mrg κ a.toList b.toList r.toList) ?step ?fin ?init) ?post)
  case init=>exact ⟨.refl,#[y0],0,1,_,rfl,L0,by lia,by lia,Nat.le_refl 1⟩
  case fin =>
    rintro c st' ⟨_,out,ia,ib,mg,rfl,L,l1,l2,l3⟩
    have:=L.len
    rw [Array.length_toList] at this
    lia
  case post =>
    rintro c st' ⟨sg,r,z,rfl,m⟩
    exact wpS_pure (h _ _ sg m)
  case step =>
    rintro x c st1 _ hx ⟨sg,out,ia,ib,mg,rfl,L,l1,l2,l3⟩
    iterate 9 (refine hv fun _ e=>?_; subst e)
    have hk1:kindOf st1=kd:=sg.kind.trans hk
    refine wpS_bind (wpS_mono (wpS_forRange (I:=fun _ c st'=>st'=st1/\∃ (out':Array Keyed) (ia ib ac bc:Nat),c=(none,out',ia,ib,ac,bc)/\Lo κ a.toList b.toList out'.toList ia ib/\ia + 1 < a.size/\ib < b.size/\out.size<=out'.size)
      (Q:=fun c st'=>st'=st1/\((∃ r z,c=(some r,z)/\Mrg κ a.toList b.toList r.toList)\/∃ (out':Array Keyed) (ia ib ac bc:Nat),c=(none,out',ia,ib,ac,bc)/\Lo κ a.toList b.toList out'.toList ia ib/\ia + 1 < a.size/\ib < b.size/\out.size<=out'.size)) ?step ?fin ?init) ?post)
    case init=>exact ⟨rfl,out,ia,ib,0,0,rfl,L,l1,l2,Nat.le_refl _⟩
    case fin=>exact fun c st' h=>⟨h.1,.inr h.2⟩
    case step =>
      rintro x' c st' _ hx' ⟨rfl,out',ia,ib,ac,bc,rfl,L,l1,l2,l3⟩
      dsimp only
      obtain ⟨y,g1,g2,g3,g4⟩:=Two.at T.okB l2
      obtain ⟨x,i1,i2,i3,i4⟩:=Two.at T.okA (show ia < a.size by lia)
      refine wpS_bind (zK g1 (wpS_bind (zK i1 (wpS_bind (xQ hL hk1 g4 i4 ?_)))))
      cases cb:κ.blt (kk κ y) (kk κ x) with
      | true =>
        dsimp only
        rw [if_pos rfl]
        refine wpS_bind (zK g1 ?_)
        have L':=L.pushB T.sA T.sB i2 g2 cb
        rw [<- Array.toList_push] at L'
        have sz:out.size<=(out'.push y).size:=by rw [Array.size_push]; lia
        by_cases d1:ib + 1=b.size
        · rw [if_pos (by rw [<- d1]; simp)]
          exact wpS_pure ⟨rfl,.inl ⟨_,_,rfl,fin1 _ _ _ L' d1⟩⟩
        · rw [if_neg (by simpa using d1)]
          by_cases d2:bc + 1 ≥ mg
          · rw [if_pos d2]
            exact wpS_pure ⟨rfl,.inr ⟨_,_,_,_,_,rfl,L',l1,by lia,sz⟩⟩
          · rw [if_neg d2]
            exact wpS_pure ⟨rfl,_,_,_,_,_,rfl,L',l1,by lia,sz⟩
      | false =>
        dsimp only
        rw [if_neg (by decide)]
        refine wpS_bind (zK i1 ?_)
        have L':=L.pushA T.sA T.sB i2 g2 (T.ab i3 g3 cb)
        rw [<- Array.toList_push] at L'
        have sz:out.size<=(out'.push x).size:=by rw [Array.size_push]; lia
        by_cases d1:ia + 1 + 1=a.size
        · rw [if_pos (by rw [<- d1]; simp)]
          exact wpS_pure ⟨rfl,.inl ⟨_,_,rfl,fin2 _ _ _ L' d1⟩⟩
        · rw [if_neg (by simpa using d1)]
          by_cases d2:ac + 1 ≥ mg
          · rw [if_pos d2]
            exact wpS_pure ⟨rfl,.inr ⟨_,_,_,_,_,rfl,L',by lia,l2,sz⟩⟩
          · rw [if_neg d2]
            exact wpS_pure ⟨rfl,_,_,_,_,_,rfl,L',by lia,l2,sz⟩
    case post =>
      rintro c st' ⟨rfl,⟨r,z,rfl,m⟩ | ⟨out1,ia,ib,ac,bc,rfl,L,l1,l2,l4⟩⟩
      · exact wpS_pure ⟨sg,_,_,rfl,m⟩
      iterate 11 (refine hv fun _ e=>?_; subst e)
      dsimp -zeta only
      refine wpS_bind (wpS_lift (wpAny_rule ⟨rfl,?_⟩))
      refine hv fun _ e=>?_
      subst e
      refine wpS_bind (wpS_mono (wpS_forRange (I:=fun x' c st'=>Sg st st'/\∃ (out':Array Keyed) (ia ib mg ac bc:Nat),c=(none,out',ia,ib,mg,ac,bc)/\Lo κ a.toList b.toList out'.toList ia ib/\ia + 1 < a.size/\ib < b.size/\out.size + min x' 1<=out'.size)
        (Q:=fun c st'=>Sg st st'/\((∃ r z,c=(some r,z)/\Mrg κ a.toList b.toList r.toList)\/∃ (out':Array Keyed) (ia ib mg ac bc:Nat),c=(none,out',ia,ib,mg,ac,bc)/\Lo κ a.toList b.toList out'.toList ia ib/\ia + 1 < a.size/\ib < b.size/\out.size + 1<=out'.size)) ?step ?fin ?init) ?post)
      case init=>exact ⟨sg,out1,ia,ib,_,ac,bc,rfl,L,l1,l2,by lia⟩
      case fin =>
        rintro c st' ⟨sg,out',ia,ib,mg,ac,bc,rfl,L,l1,l2,l3⟩
        exact ⟨sg,.inr ⟨out',ia,ib,mg,ac,bc,rfl,L,l1,l2,by lia⟩⟩
      case post =>
        rintro c st' ⟨sg,⟨r,z,rfl,m⟩ | ⟨out',ia,ib,mg,ac,bc,rfl,L,l1,l2,l3⟩⟩
        · exact wpS_pure ⟨sg,_,_,rfl,m⟩
        · dsimp only
          exact wpS_bind (xR fun st2 sg2=>wpS_pure ⟨sg.trans sg2,out',ia,ib,_,rfl,L,l1,l2,by lia⟩)
      case step =>
        rintro x' c st1 _ hx' ⟨sg,out',ia,ib,mg,ac,bc,rfl,L,l1,l2,l3⟩
        extract_lets c1 o1 c2 i1 c3 j1 c4 m1 c5 p1 q1 jb jp mg1
        obtain ⟨y,g1,g2,g3,g4⟩:=Two.at T.okB l2
        refine suff (fun mg=>jp () mg) (fun _=>True) (fun J1=>?_) fun mg _=>?_
        · split
          · exact J1 _ trivial
          · exact J1 _ trivial
        refine wpS_bind (xR fun st2 sg2=>wpS_bind (zK g1 (wpS_bind (YF hL ((sg.trans sg2).kind.trans hk) T.okA g4 (fun i j x y _ hij _=>T.sA.lt hij) (by show ia + (a.size - ia)<=_; lia) (by show 0 < a.size - ia; lia) fun k k1 k2 k3=>?_))))
        have sgg:=sg.trans sg2
        have k1:k<=a.size - ia:=k1
        dsimp -zeta only
        extract_lets k' jp2 out2 ia2
        refine suff (fun oi:Array Keyed × Nat=>jp2 () oi.1 oi.2) (fun oi=>Lo κ a.toList b.toList oi.1.toList oi.2 ib/\oi.2 + 1 < a.size/\out.size<=oi.1.size/\∀ x,a.toList[oi.2]?=some x->lt2 κ y x) (fun J2=>?_) fun ⟨o,i⟩ ⟨L,l1,l4,l5⟩=>?_
        · by_cases c:k > 0
          · rw [if_pos c]
            have hk':ia + k < a.size:=by
              by_cases z:ia + k < a.size
              · exact z
              · obtain ⟨x,_,h2,_,_⟩:=Two.at T.okA (show a.size - 1 < a.size by lia)
                have a1:=k2 (k - 1) x (by lia) (by show a.toList[ia + (k - 1)]?=_; rw [<- h2]; congr 1; lia)
                have a2:κ.blt (kk κ y) (kk κ x)=true:=T.hl x h2 y g3
                rw [a1] at a2
                cases a2
            have L':=L.blkA T.sA (k:=k) (by rw [Array.length_toList]; lia) (fun x hx=>by
              obtain ⟨j,hj,e⟩:=xS hx
              exact jc T.sB g2 (T.ab (List.mem_of_getElem? e) g3 (k2 j x hj e)))
            rw [<- ZJ,<- Array.toList_append] at L'
            have sz:out.size<=(out' ++ a.extract ia (ia + k)).size:=by rw [Array.size_append]; lia
            by_cases d1:ia + k + 1=a.size
            · rw [if_pos (by show (ia + k + 1 == a.size)=true; rw [d1]; simp)]
              exact wpS_pure ⟨sgg,.inl ⟨_,_,rfl,fin2 _ _ _ L' d1⟩⟩
            · rw [if_neg (by show ¬ (ia + k + 1 == a.size)=true; simpa using d1),if_neg (by show ¬ (ia + k == a.size)=true; have:ia + k≠a.size:=(by lia); simpa using this)]
              exact J2 (_,_) ⟨L',by show ia + k + 1 < a.size; lia,sz,fun x e=>k3 k x (Nat.le_refl _) (by show k < a.size - ia; lia) e⟩
          · rw [if_neg c]
            obtain rfl:k=0:=by lia
            exact J2 (out',ia) ⟨L,l1,by show out.size<=out'.size; lia,fun x e=>k3 0 x (Nat.le_refl _) (by show 0 < a.size - ia; lia) e⟩
        obtain ⟨x,i1',i2,i3,i4⟩:=Two.at T.okA (show i < a.size by dsimp only at l1; lia)
        dsimp only at L l1 l4 l5
        have L':=L.pushB T.sA T.sB i2 g2 (l5 x i2)
        rw [<- Array.toList_push] at L'
        have sz:out.size + 1<=(o.push y).size:=by rw [Array.size_push]; lia
        refine wpS_bind (zK g1 ?_)
        extract_lets o3
        by_cases d1:ib + 1=b.size
        · rw [if_pos (by show (ib + 1 == b.size)=true; rw [d1]; simp)]
          exact wpS_pure ⟨sgg,.inl ⟨_,_,rfl,fin1 _ _ _ L' d1⟩⟩
        rw [if_neg (by show ¬ (ib + 1 == b.size)=true; simpa using d1)]
        refine wpS_bind (zK i1' (wpS_bind (YG hL (sgg.kind.trans hk) T.okB i4 (fun i j x y _ hij _=>T.sB.lt hij) (by show ib + 1 + (b.size - (ib + 1))<=_; lia) (by show 0 < b.size - (ib + 1); lia) fun k4 k5 k6 k7=>?_)))
        have k5:k4<=b.size - (ib + 1):=k5
        dsimp -zeta only
        extract_lets k4' jp3 o4 i4'
        refine suff (fun oi:Array Keyed × Nat=>jp3 () oi.1 oi.2) (fun oi=>Lo κ a.toList b.toList oi.1.toList i oi.2/\oi.2 < b.size/\out.size + 1<=oi.1.size/\∀ y,b.toList[oi.2]?=some y->lt2 κ x y) (fun J3=>?_) fun ⟨o,j⟩ ⟨L,l2,l4,l5⟩=>?_
        · by_cases c:k4 > 0
          · rw [if_pos c]
            have L2:=L'.blkB T.sB (k:=k4) (by rw [Array.length_toList]; lia) (fun z hz=>by
              obtain ⟨j,hj,e⟩:=xS hz
              exact jc T.sA i2 (k6 j z hj e))
            rw [<- ZJ,<- Array.toList_append] at L2
            have sz:out.size + 1<=(o.push y ++ b.extract (ib + 1) (ib + 1 + k4)).size:=by rw [Array.size_append]; lia
            by_cases d2:ib + 1 + k4=b.size
            · rw [if_pos (by show (ib + 1 + k4 == b.size)=true; rw [d2]; simp)]
              exact wpS_pure ⟨sgg,.inl ⟨_,_,rfl,fin1 _ _ _ L2 d2⟩⟩
            · rw [if_neg (by show ¬ (ib + 1 + k4 == b.size)=true; simpa using d2)]
              exact J3 (_,_) ⟨L2,by show ib + 1 + k4 < b.size; lia,sz,fun z e=>T.ab i3 (List.mem_of_getElem? e) (k7 k4 z (Nat.le_refl _) (by show k4 < b.size - (ib + 1); lia) e)⟩
          · rw [if_neg c]
            obtain rfl:k4=0:=by lia
            exact J3 (_,_) ⟨L',by show ib + 1 < b.size; lia,sz,fun z e=>T.ab i3 (List.mem_of_getElem? e) (k7 0 z (Nat.le_refl _) (by show 0 < b.size - (ib + 1); lia) e)⟩
        dsimp only at L l2 l4 l5
        obtain ⟨y2,_,h2,_,_⟩:=Two.at T.okB l2
        have L3:=L.pushA T.sA T.sB i2 h2 (l5 y2 h2)
        rw [<- Array.toList_push] at L3
        have sz:out.size + 1<=(o.push x).size:=by rw [Array.size_push]; lia
        refine wpS_bind (zK i1' ?_)
        by_cases d3:i + 1 + 1=a.size
        · dsimp only
          rw [if_pos (by rw [d3]; simp)]
          exact wpS_pure ⟨sgg,.inl ⟨_,_,rfl,fin2 _ _ _ L3 d3⟩⟩
        · dsimp only
          rw [if_neg (by simpa using d3)]
          split
          · exact wpS_pure ⟨sgg,.inr ⟨_,_,_,_,_,_,rfl,L3,by lia,l2,sz⟩⟩
          · exact wpS_pure ⟨sgg,_,_,_,_,_,_,rfl,L3,by lia,l2,by lia⟩
structure Hi (κ:KeyKind) (a b out:List Keyed) (na nb:Nat):Prop where
  perm:out.Perm (a.drop na ++ b.drop nb)
  srt:Srt κ out.reverse
  ltA:∀ x∈a.take na,∀ y∈out,lt2 κ x y
  ltB:∀ x∈b.take nb,∀ y∈out,lt2 κ x y
  ha:na<=a.length
  hb:nb<=b.length
theorem Hi.len {a b out:List Keyed} {na nb:Nat} (h:Hi κ a b out na nb):out.length + na + nb=a.length + b.length:=by
  have:=h.perm.length_eq
  have h1:=h.ha
  have h2:=h.hb
  rw [List.length_append,List.length_drop,List.length_drop] at this
  lia
abbrev btw (l:List Keyed) (k n:Nat):List Keyed:=(l.drop k).take (n - k)
theorem xi {l:List Keyed} {k n:Nat} (h:k<=n):l.take k ++ btw l k n=l.take n:=by
  unfold btw
  rw [<- List.take_add,show k + (n - k)=n by lia]
theorem vF {l:List Keyed} {k n:Nat} (h:k<=n):btw l k n ++ l.drop n=l.drop k:=by
  unfold btw
  rw [show l.drop n=(l.drop k).drop (n - k) by rw [List.drop_drop,show k + (n - k)=n by lia],List.take_append_drop]
theorem ZK {l:List Keyed} {k n:Nat} {x:Keyed} (h:k<=n) (hx:x∈btw l k n):x∈l.take n:=by
  rw [<- xi h]
  exact List.mem_append_right _ hx
theorem Xt {l:List Keyed} {k n:Nat} {x:Keyed} (h:k<=n) (hx:x∈l.take k):x∈l.take n:=by
  rw [<- xi h]
  exact List.mem_append_left _ hx
theorem Srt.btw {l:List Keyed} (S:Srt κ l) {k n:Nat} (h:k<=n):∀ x∈l.take k,∀ y∈Ts.btw l k n,lt2 κ x y:=fun x hx y hy=>S.cut k x hx y (List.mem_of_mem_take hy)
theorem Hi.blkB {a b out:List Keyed} {na nb k:Nat} (h:Hi κ a b out na nb) (sB:Srt κ b) (hk:k<=nb) (hl:∀ x∈a.take na,∀ y∈btw b k nb,lt2 κ x y):Hi κ a b (out ++ (btw b k nb).reverse) na k:=by
  refine ⟨?_,?_,fun x hx y hy=>?_,fun x hx y hy=>?_,h.ha,Nat.le_trans hk h.hb⟩
  · rw [<- vF hk]
    refine (h.perm.append_right _).trans ?_
    rw [List.append_assoc]
    refine List.Perm.append_left _ ?_
    exact List.perm_append_comm.trans ((List.reverse_perm _).append_right _)
  · rw [List.reverse_append,List.reverse_reverse]
    exact List.pairwise_append.mpr ⟨(sB.drop _).take _,h.srt,fun x hx y hy=>h.ltB x (ZK hk hx) y (List.mem_reverse.mp hy)⟩
  · rcases List.mem_append.mp hy with hy | hy
    · exact h.ltA x hx y hy
    · exact hl x hx y (List.mem_reverse.mp hy)
  · rcases List.mem_append.mp hy with hy | hy
    · exact h.ltB x (Xt hk hx) y hy
    · exact sB.btw hk x hx y (List.mem_reverse.mp hy)
theorem Hi.blkA {a b out:List Keyed} {na nb k:Nat} (h:Hi κ a b out na nb) (sA:Srt κ a) (hk:k<=na) (hl:∀ x∈b.take nb,∀ y∈btw a k na,lt2 κ x y):Hi κ a b (out ++ (btw a k na).reverse) k nb:=by
  refine ⟨?_,?_,fun x hx y hy=>?_,fun x hx y hy=>?_,Nat.le_trans hk h.ha,h.hb⟩
  · rw [<- vF hk]
    refine (h.perm.append_right _).trans ?_
    refine List.perm_append_comm.trans ?_
    rw [List.append_assoc]
    exact (List.reverse_perm _).append_right _
  · rw [List.reverse_append,List.reverse_reverse]
    exact List.pairwise_append.mpr ⟨(sA.drop _).take _,h.srt,fun x hx y hy=>h.ltA x (ZK hk hx) y (List.mem_reverse.mp hy)⟩
  · rcases List.mem_append.mp hy with hy | hy
    · exact h.ltA x (Xt hk hx) y hy
    · exact sA.btw hk x hx y (List.mem_reverse.mp hy)
  · rcases List.mem_append.mp hy with hy | hy
    · exact h.ltB x hx y hy
    · exact hl x hx y (List.mem_reverse.mp hy)
theorem yL {l:List Keyed} {n:Nat} {x:Keyed} (h:l[n]?=some x):btw l n (n + 1)=[x]:=by
  unfold btw
  rw [show n + 1 - n=1 by lia]
  exact yW h
theorem above {l:List Keyed} (S:Srt κ l) {n:Nat} {x z:Keyed} (hx:l[n]?=some x) (hz:lt2 κ x z):∀ y∈l.take (n + 1),lt2 κ y z:=fun y hy=>by
  rw [<- xi (Nat.le_succ n),yL hx] at hy
  rcases List.mem_append.mp hy with hy | hy
  · refine zZ (S.cut n y hy x ?_) hz
    rw [<- vF (Nat.le_succ n),yL hx]
    exact .head _
  · rw [List.mem_singleton.mp hy]; exact hz
theorem Hi.pushB {a b out:List Keyed} {na nb:Nat} {x y:Keyed} (h:Hi κ a b out (na + 1) (nb + 1)) (sA:Srt κ a) (sB:Srt κ b) (hx:a[na]?=some x) (hy:b[nb]?=some y) (hl:lt2 κ x y):Hi κ a b (out ++ [y]) (na + 1) nb:=by
  have:=h.blkB sB (Nat.le_succ nb) (by rw [yL hy]; intro z hz w hw; rw [List.mem_singleton.mp hw]; exact above sA hx hl z hz)
  rw [yL hy] at this
  exact this
theorem Hi.pushA {a b out:List Keyed} {na nb:Nat} {x y:Keyed} (h:Hi κ a b out (na + 1) (nb + 1)) (sA:Srt κ a) (sB:Srt κ b) (hx:a[na]?=some x) (hy:b[nb]?=some y) (hl:lt2 κ y x):Hi κ a b (out ++ [x]) na (nb + 1):=by
  have:=h.blkA sA (Nat.le_succ na) (by rw [yL hx]; intro z hz w hw; rw [List.mem_singleton.mp hw]; exact above sB hy hl z hz)
  rw [yL hx] at this
  exact this
theorem Hi.fin {a b out f:List Keyed} {na nb:Nat} (h:Hi κ a b out na nb) (p:f.Perm (a.take na ++ b.take nb)) (S:Srt κ f):Mrg κ a b (f ++ out.reverse):=by
  refine ⟨?_,List.pairwise_append.mpr ⟨S,h.srt,fun x hx y hy=>?_⟩⟩
  · refine (p.append_right _).trans ((List.Perm.append_left _ ((List.reverse_perm _).trans h.perm)).trans ?_)
    have e:(b.take nb ++ (a.drop na ++ b.drop nb)).Perm (a.drop na ++ b):=by
      refine List.perm_append_comm.trans ?_
      rw [List.append_assoc]
      exact List.Perm.append_left _ (List.perm_append_comm.trans (List.Perm.of_eq (List.take_append_drop nb b)))
    rw [List.append_assoc]
    refine (List.Perm.append_left _ e).trans (List.Perm.of_eq ?_)
    rw [<- List.append_assoc,List.take_append_drop]
  · rcases List.mem_append.mp (p.mem_iff.mp hx) with hx | hx
    · exact h.ltA x hx y (List.mem_reverse.mp hy)
    · exact h.ltB x hx y (List.mem_reverse.mp hy)
theorem zV {a:Array Keyed} {k n:Nat}:(a.extract k n).toList=btw a.toList k n:=by simp [btw]
theorem xV {a:Array Keyed} {n:Nat}:(a.extract 0 n).toList=a.toList.take n:=by simp
theorem QP {a b:Array Keyed} {st:SortSt} {Q:Array Keyed->SortSt->Prop} (hL:LtH κ kd prog w A s) (hk:kindOf st=kd) (T:Two κ a b) (h:∀ r st',Sg st st'->Mrg κ a.toList b.toList r.toList->Q r st'):wpS (model prog w) A E s (mhi a b) Q st:=by
  refine wpS_bind (wpS_lift (wpAny_rule ⟨rfl,?_⟩))
  have nb:=T.nb
  have na:=T.na
  obtain ⟨n0,en⟩:∃ n0,a.size=n0 + 1:=⟨a.size - 1,by lia⟩
  obtain ⟨x0,f1,f2,f3,f4⟩:=Two.at T.okA (show n0 < a.size by lia)
  obtain ⟨xa,a1,a2,a3,a4⟩:=Two.at T.okA (show 0 < a.size by lia)
  obtain ⟨yb,b1,b2,b3,b4⟩:=Two.at T.okB (show 0 < b.size by lia)
  have hyx:=T.h0 _ _ a2 b2
  have f1':a[a.size - 1]?=some x0:=by rw [show a.size - 1=n0 by lia]; exact f1
  extract_lets total dn fb na0 nb0
  refine wpS_bind (zK f1' ?_)
  have L0:Hi κ a.toList b.toList [x0] n0 b.size:=by
    have z:Hi κ a.toList b.toList [] (n0 + 1) b.size:=⟨by
      rw [<- en,<- Array.length_toList,<- Array.length_toList,List.drop_length,List.drop_length]
      exact .refl _,List.Pairwise.nil,(fun _ _ _ h=>by cases h),(fun _ _ _ h=>by cases h),by rw [Array.length_toList]; lia,by rw [Array.length_toList]; lia⟩
    have z2:=z.blkA T.sA (Nat.le_succ n0) (by rw [yL f2]; intro y hy w hw; rw [List.mem_singleton.mp hw]; exact T.hl x0 (by rw [show a.size - 1=n0 by lia]; exact f2) y (List.mem_of_mem_take hy))
    rw [yL f2] at z2
    exact z2
  have fin1:∀ (out:Array Keyed) (na nb:Nat),Hi κ a.toList b.toList out.toList na nb->na=0->Mrg κ a.toList b.toList (a.extract 0 na ++ b.extract 0 nb ++ out.reverse).toList:=fun out na nb L e=>by
    subst e
    rw [Array.toList_append,Array.toList_append,xV,xV,Array.toList_reverse]
    exact L.fin (.refl _) (by rw [List.take_zero,List.nil_append]; exact T.sB.take nb)
  have fin2:∀ (out:Array Keyed) (na nb:Nat),Hi κ a.toList b.toList out.toList na nb->nb=1->Mrg κ a.toList b.toList (b.extract 0 nb ++ a.extract 0 na ++ out.reverse).toList:=fun out na nb L e=>by
    subst e
    rw [Array.toList_append,Array.toList_append,xV,xV,Array.toList_reverse]
    refine L.fin List.perm_append_comm (List.pairwise_append.mpr ⟨T.sB.take 1,T.sA.take na,fun x hx y hy=>?_⟩)
    rw [show b.toList.take 1=[yb] from yW (i:=0) b2,List.mem_singleton] at hx
    rw [hx]
    exact jc T.sA (i:=0) a2 hyx y (List.mem_of_mem_take hy)
  extract_lets out0
  by_cases c1:n0=0
  · rw [if_pos (by show (a.size - 1 == 0)=true; rw [en,c1]; rfl)]
    exact wpS_pure (h _ _ .refl (fin1 #[x0] (a.size - 1) b.size (by rw [show a.size - 1=n0 by lia]; exact L0) (by lia)))
  rw [if_neg (by show ¬ (a.size - 1 == 0)=true; rw [en]; simpa using c1)]
  by_cases c2:b.size=1
  · rw [if_pos (by show (b.size == 1)=true; rw [c2]; rfl)]
    exact wpS_pure (h _ _ .refl (fin2 #[x0] (a.size - 1) b.size (by rw [show a.size - 1=n0 by lia]; exact L0) c2))
  rw [if_neg (by show ¬ (b.size == 1)=true; simpa using c2)]
  refine wpS_bind (wpS_get ?_)
  extract_lets mg0
  refine wpS_bind (wpS_mono (wpS_forRange (I:=fun x c st'=>Sg st st'/\∃ (na nb:Nat) (out:Array Keyed) (mg:Nat),c=(none,na,nb,out,mg)/\Hi κ a.toList b.toList out.toList na nb/\0 < na/\1 < nb/\x + 1<=out.size)
    (Q:=fun c st'=>Sg st st'/\∃ r z,c=(some r,z)/\Mrg κ a.toList b.toList r.toList) ?step ?fin ?init) ?post)
  case init=>exact ⟨.refl,n0,b.size,#[x0],_,by rw [show n0=a.size - 1 by lia],L0,by lia,by lia,Nat.le_refl 1⟩
  case fin =>
    rintro c st' ⟨_,na',nb',out,mg,rfl,L,l1,l2,l3⟩
    have:=L.len
    rw [Array.length_toList,Array.length_toList,Array.length_toList] at this
    have l3:max 0 (a.size + b.size) + 1<=out.size:=l3
    lia
  case post =>
    rintro c st' ⟨sg,r,z,rfl,m⟩
    exact wpS_pure (h _ _ sg m)
  case step =>
    rintro x c st1 _ hx ⟨sg,na,nb,out,mg,rfl,L,l1,l2,l3⟩
    have hk1:kindOf st1=kd:=sg.kind.trans hk
    extract_lets t1 u1 t2 u2 t3 u3 mg1 ac0 bc0
    refine wpS_bind (wpS_mono (wpS_forRange (I:=fun _ c st'=>st'=st1/\∃ (na nb:Nat) (out':Array Keyed) (ac bc:Nat),c=(none,na,nb,out',ac,bc)/\Hi κ a.toList b.toList out'.toList na nb/\0 < na/\1 < nb/\out.size<=out'.size)
      (Q:=fun c st'=>st'=st1/\((∃ r z,c=(some r,z)/\Mrg κ a.toList b.toList r.toList)\/∃ (na nb:Nat) (out':Array Keyed) (ac bc:Nat),c=(none,na,nb,out',ac,bc)/\Hi κ a.toList b.toList out'.toList na nb/\0 < na/\1 < nb/\out.size<=out'.size)) ?step ?fin ?init) ?post)
    case init=>exact ⟨rfl,na,nb,out,0,0,rfl,L,l1,l2,Nat.le_refl _⟩
    case fin=>exact fun c st' h=>⟨h.1,.inr h.2⟩
    case step =>
      rintro x' c st' _ hx' ⟨rfl,na',nb',out',ac,bc,rfl,L,l1,l2,l3⟩
      obtain ⟨na,rfl⟩:∃ n,na'=n + 1:=⟨na' - 1,by lia⟩
      obtain ⟨nb,rfl⟩:∃ n,nb'=n + 1:=⟨nb' - 1,by lia⟩
      have hA:=L.ha
      have hB:=L.hb
      rw [Array.length_toList] at hA hB
      dsimp only
      rw [Nat.add_sub_cancel,Nat.add_sub_cancel]
      obtain ⟨y,g1,g2,g3,g4⟩:=Two.at T.okB (show nb < b.size by lia)
      obtain ⟨x,i1,i2,i3,i4⟩:=Two.at T.okA (show na < a.size by lia)
      refine wpS_bind (zK g1 (wpS_bind (zK i1 (wpS_bind (xQ hL hk1 g4 i4 ?_)))))
      cases cb:κ.blt (kk κ y) (kk κ x) with
      | true =>
        dsimp only
        rw [if_pos rfl]
        refine wpS_bind (zK i1 ?_)
        have L':=L.pushA T.sA T.sB i2 g2 cb
        rw [<- Array.toList_push] at L'
        have sz:out.size<=(out'.push x).size:=by rw [Array.size_push]; lia
        by_cases d1:na=0
        · rw [if_pos (by rw [d1]; rfl)]
          exact wpS_pure ⟨rfl,.inl ⟨_,_,rfl,fin1 _ _ _ L' d1⟩⟩
        · rw [if_neg (by simpa using d1)]
          by_cases d2:ac + 1 ≥ mg
          · rw [if_pos d2]
            exact wpS_pure ⟨rfl,.inr ⟨_,_,_,_,_,rfl,L',by lia,l2,sz⟩⟩
          · rw [if_neg d2]
            exact wpS_pure ⟨rfl,_,_,_,_,_,rfl,L',by lia,l2,sz⟩
      | false =>
        dsimp only
        rw [if_neg (by decide)]
        refine wpS_bind (zK g1 ?_)
        have L':=L.pushB T.sA T.sB i2 g2 (T.ab i3 g3 cb)
        rw [<- Array.toList_push] at L'
        have sz:out.size<=(out'.push y).size:=by rw [Array.size_push]; lia
        by_cases d1:nb=1
        · rw [if_pos (by rw [d1]; rfl)]
          exact wpS_pure ⟨rfl,.inl ⟨_,_,rfl,fin2 _ _ _ L' d1⟩⟩
        · rw [if_neg (by simpa using d1)]
          by_cases d2:bc + 1 ≥ mg
          · rw [if_pos d2]
            exact wpS_pure ⟨rfl,.inr ⟨_,_,_,_,_,rfl,L',l1,by lia,sz⟩⟩
          · rw [if_neg d2]
            exact wpS_pure ⟨rfl,_,_,_,_,_,rfl,L',l1,by lia,sz⟩
    case post =>
      rintro c st' ⟨rfl,⟨r,z,rfl,m⟩ | ⟨na,nb,out1,ac,bc,rfl,L,l1,l2,l4⟩⟩
      · exact wpS_pure ⟨sg,_,_,rfl,m⟩
      extract_lets v1 w1 v2 w2 v3 w3 v4 w4 v5 w5
      refine wpS_bind (wpS_lift (wpAny_rule ⟨rfl,?_⟩))
      refine wpS_bind (wpS_mono (wpS_forRange (I:=fun x' c st'=>Sg st st'/\∃ (na nb:Nat) (out':Array Keyed) (mg ac bc:Nat),c=(none,na,nb,out',mg,ac,bc)/\Hi κ a.toList b.toList out'.toList na nb/\0 < na/\1 < nb/\out.size + min x' 1<=out'.size)
        (Q:=fun c st'=>Sg st st'/\((∃ r z,c=(some r,z)/\Mrg κ a.toList b.toList r.toList)\/∃ (na nb:Nat) (out':Array Keyed) (mg ac bc:Nat),c=(none,na,nb,out',mg,ac,bc)/\Hi κ a.toList b.toList out'.toList na nb/\0 < na/\1 < nb/\out.size + 1<=out'.size)) ?step ?fin ?init) ?post)
      case init=>exact ⟨sg,na,nb,out1,_,ac,bc,rfl,L,l1,l2,by lia⟩
      case fin =>
        rintro c st' ⟨sg,na,nb,out',mg,ac,bc,rfl,L,l1,l2,l3⟩
        have l3:out.size + min (max 0 (a.size + b.size)) 1<=out'.size:=l3
        exact ⟨sg,.inr ⟨na,nb,out',mg,ac,bc,rfl,L,l1,l2,by lia⟩⟩
      case post =>
        rintro c st' ⟨sg,⟨r,z,rfl,m⟩ | ⟨na,nb,out',mg,ac,bc,rfl,L,l1,l2,l3⟩⟩
        · exact wpS_pure ⟨sg,_,_,rfl,m⟩
        · dsimp only
          exact wpS_bind (xR fun st2 sg2=>wpS_pure ⟨sg.trans sg2,na,nb,out',_,rfl,L,l1,l2,by lia⟩)
      case step =>
        rintro x' c st1 _ hx' ⟨sg,na,nb',out',mg,ac,bc,rfl,L,l1,l2,l3⟩
        have hA:=L.ha
        have hB:=L.hb
        rw [Array.length_toList] at hA hB
        obtain ⟨nb,rfl⟩:∃ n,nb'=n + 1:=⟨nb' - 1,by lia⟩
        obtain ⟨y,g1,g2,g3,g4⟩:=Two.at T.okB (show nb < b.size by lia)
        extract_lets c1 o1 c2 i1 c3 j1 c4 m1 c5 p1 q1 jb jp mg1
        refine suff (fun mg=>jp () mg) (fun _=>True) (fun J1=>?_) fun mg _=>?_
        · split
          · exact J1 _ trivial
          · exact J1 _ trivial
        refine wpS_bind (xR fun st2 sg2=>wpS_bind (zK g1 (wpS_bind (YF hL ((sg.trans sg2).kind.trans hk) T.okA g4 (fun i j x y _ hij _=>T.sA.lt hij) (by show 0 + na<=_; lia) (by show na - 1 < na; lia) fun k k1 k2 k3=>?_))))
        have sgg:=sg.trans sg2
        have k1:k<=na:=k1
        dsimp -zeta only
        extract_lets kk' k' jp2 out2
        refine suff (fun oi:Nat × Array Keyed=>jp2 () oi.1 oi.2) (fun oi=>Hi κ a.toList b.toList oi.2.toList oi.1 (nb + 1)/\0 < oi.1/\out.size<=oi.2.size/\∀ x,a.toList[oi.1 - 1]?=some x->lt2 κ x y) (fun J2=>?_) fun ⟨i',o⟩ ⟨L,l1,l4,l5⟩=>?_
        · by_cases c:na - k > 0
          · rw [if_pos c]
            have L':=L.blkA T.sA (k:=k) k1 (fun z hz x hx=>by
              obtain ⟨j,hj,e⟩:=xS hx
              exact above T.sB g2 (k3 (k + j) x (by lia) (by show k + j < na; lia) (by rw [Nat.zero_add]; exact e)) z hz)
            rw [<- zV,<- Array.toList_reverse,<- Array.toList_append] at L'
            have sz:out.size<=(out' ++ (a.extract k na).reverse).size:=by rw [Array.size_append]; lia
            by_cases d1:k=0
            · rw [if_pos (by show (k == 0)=true; rw [d1]; rfl)]
              exact wpS_pure ⟨sgg,.inl ⟨_,_,rfl,fin1 _ _ _ L' d1⟩⟩
            · rw [if_neg (by show ¬ (k == 0)=true; simpa using d1)]
              exact J2 (_,_) ⟨L',by show 0 < k; lia,sz,fun x e=>T.ab (List.mem_of_getElem? e) g3 (k2 (k - 1) x (by lia) (by rw [Nat.zero_add]; exact e))⟩
          · rw [if_neg c]
            obtain rfl:k=na:=by lia
            exact J2 (k,out') ⟨L,l1,by show out.size<=out'.size; lia,fun x e=>T.ab (List.mem_of_getElem? e) g3 (k2 (k - 1) x (by lia) (by rw [Nat.zero_add]; exact e))⟩
        dsimp only at L l1 l4 l5
        obtain ⟨n,rfl⟩:∃ n,i'=n + 1:=⟨i' - 1,by lia⟩
        have hA':=L.ha
        rw [Array.length_toList] at hA'
        obtain ⟨x,i1',i2,i3,i4⟩:=Two.at T.okA (show n < a.size by lia)
        have L':=L.pushB T.sA T.sB i2 g2 (l5 x i2)
        rw [<- Array.toList_push] at L'
        have sz:out.size + 1<=(o.push y).size:=by rw [Array.size_push]; lia
        refine wpS_bind (zK g1 ?_)
        extract_lets o3
        by_cases d1:nb=1
        · rw [if_pos (by show (nb + 1 - 1 == 1)=true; rw [d1]; rfl)]
          exact wpS_pure ⟨sgg,.inl ⟨_,_,rfl,fin2 _ _ _ L' d1⟩⟩
        rw [if_neg (by show ¬ (nb + 1 - 1 == 1)=true; rw [Nat.add_sub_cancel]; simpa using d1)]
        refine wpS_bind (zK i1' (wpS_bind (YG hL (sgg.kind.trans hk) T.okB i4 (fun i j x y _ hij _=>T.sB.lt hij) (by show 0 + nb<=_; lia) (by show nb - 1 < nb; lia) fun k4 k5 k6 k7=>?_)))
        have k5:k4<=nb:=k5
        have k4p:0 < k4:=by
          by_cases z:0 < k4
          · exact z
          · have a1:=k7 0 yb (by lia) (by show 0 < nb; lia) b2
            have a2':κ.blt (kk κ yb) (kk κ x)=true:=jc T.sA (i:=0) a2 hyx x (by rw [List.drop_zero]; exact i3)
            rw [a1] at a2'
            cases a2'
        dsimp -zeta only
        extract_lets k8 k4' jp3 o4
        refine suff (fun oi:Nat × Array Keyed=>jp3 () oi.1 oi.2) (fun oi=>Hi κ a.toList b.toList oi.2.toList (n + 1) oi.1/\1 < oi.1/\out.size + 1<=oi.2.size/\∀ y,b.toList[oi.1 - 1]?=some y->lt2 κ y x) (fun J3=>?_) fun ⟨j,o⟩ ⟨L,l2,l4,l5⟩=>?_
        · by_cases c:nb - k4 > 0
          · rw [if_pos (show k8 > 0 from c)]
            have L2:=L'.blkB T.sB (k:=k4) k5 (fun z hz u hu=>by
              obtain ⟨j,hj,e⟩:=xS hu
              exact above T.sA i2 (T.ab i3 (List.mem_of_getElem? e) (k7 (k4 + j) u (by lia) (by show k4 + j < nb; lia) (by rw [Nat.zero_add]; exact e))) z hz)
            rw [<- zV,<- Array.toList_reverse,<- Array.toList_append] at L2
            have sz:out.size + 1<=(o.push y ++ (b.extract k4 nb).reverse).size:=by rw [Array.size_append]; lia
            by_cases d2:k4=1
            · rw [if_pos (by show (k4 == 1)=true; rw [d2]; rfl)]
              exact wpS_pure ⟨sgg,.inl ⟨_,_,rfl,fin2 _ _ _ L2 d2⟩⟩
            · rw [if_neg (by show ¬ (k4 == 1)=true; simpa using d2),if_neg (by show ¬ (k4 == 0)=true; have:k4≠0:=(by lia); simpa using this)]
              exact J3 (_,_) ⟨L2,by show 1 < k4; lia,sz,fun z e=>k6 (k4 - 1) z (by lia) (by rw [Nat.zero_add]; exact e)⟩
          · rw [if_neg (show ¬ k8 > 0 from c)]
            obtain rfl:k4=nb:=by lia
            exact J3 (_,_) ⟨L',by show 1 < k4; lia,sz,fun z e=>k6 (k4 - 1) z (by lia) (by rw [Nat.zero_add]; exact e)⟩
        dsimp only at L l2 l4 l5
        obtain ⟨m,rfl⟩:∃ m,j=m + 1:=⟨j - 1,by lia⟩
        have hB':=L.hb
        rw [Array.length_toList] at hB'
        obtain ⟨y2,_,h2,_,_⟩:=Two.at T.okB (show m < b.size by lia)
        have L3:=L.pushA T.sA T.sB i2 h2 (l5 y2 h2)
        rw [<- Array.toList_push] at L3
        have sz:out.size + 1<=(o.push x).size:=by rw [Array.size_push]; lia
        refine wpS_bind (zK i1' ?_)
        by_cases d3:n=0
        · dsimp only
          rw [if_pos (by show (n == 0)=true; rw [d3]; rfl)]
          exact wpS_pure ⟨sgg,.inl ⟨_,_,rfl,fin1 _ _ _ L3 d3⟩⟩
        · dsimp only
          rw [if_neg (by show ¬ (n == 0)=true; simpa using d3)]
          split
          · exact wpS_pure ⟨sgg,.inr ⟨_,_,_,_,_,_,rfl,L3,by lia,l2,sz⟩⟩
          · exact wpS_pure ⟨sgg,_,_,_,_,_,_,rfl,L3,by lia,l2,by lia⟩
theorem QQ {st st':SortSt} {Q:PUnit->SortSt->Prop} (h:Q ⟨⟩ st'):wpS (model prog w) A E s (set st':SM PUnit) Q st:=by
  unfold wpS
  rw [StateT.run_set]
  exact wpAny_pure ⟨rfl,h⟩
def SS (κ:KeyKind) (a:Array Keyed) (lo hi:Nat):Prop:=∀ i j x y,lo<=i->i < j->j < hi->a.toList[i]?=some x->a.toList[j]?=some y->lt2 κ x y
def Dif (κ:KeyKind) (l:List Keyed):Prop:=l.Pairwise fun x y=>lt2 κ x y\/lt2 κ y x
theorem Dif.perm {l m:List Keyed} (h:Dif κ l) (p:l.Perm m):Dif κ m:=(List.Perm.pairwise_iff (fun {x y} h=>h.symm) p).mp h
structure SB (κ:KeyKind) (kd:SortKind) (a₀:Array Keyed) (st:SortSt):Prop where
  perm:(arrOf st).toList.Perm a₀.toList
  kind:kindOf st=kd
  failed:failedOf st=none
theorem SB.size {a₀:Array Keyed} {st:SortSt} (h:SB κ kd a₀ st):(arrOf st).size=a₀.size:=by
  have:=h.perm.length_eq
  rw [Array.length_toList,Array.length_toList] at this
  exact this
theorem SB.ok {a₀:Array Keyed} {st:SortSt} (h:SB κ kd a₀ st) (o:∀ p∈a₀.toList,Ok κ p):∀ p∈(arrOf st).toList,Ok κ p:=fun p hp=>o p (h.perm.mem_iff.mp hp)
theorem SB.dif {a₀:Array Keyed} {st:SortSt} (h:SB κ kd a₀ st) (o:Dif κ a₀.toList):Dif κ (arrOf st).toList:=o.perm h.perm.symm
theorem Dif.at {l:List Keyed} (h:Dif κ l) {i j:Nat} {x y:Keyed} (hij:i < j) (hx:l[i]?=some x) (hy:l[j]?=some y):lt2 κ x y\/lt2 κ y x:=by
  obtain ⟨h1,e1⟩:=List.getElem?_eq_some_iff.mp hx
  obtain ⟨h2,e2⟩:=List.getElem?_eq_some_iff.mp hy
  have:=List.pairwise_iff_getElem.mp h i j h1 h2 hij
  rw [e1,e2] at this
  exact this
theorem SS.srt {a:Array Keyed} {lo hi:Nat} (h:SS κ a lo hi):Srt κ (btw a.toList lo hi):=by
  refine List.pairwise_iff_getElem.mpr fun i j hi' hj hij=>?_
  have e1:=List.getElem?_eq_getElem hi'
  have e2:=List.getElem?_eq_getElem hj
  unfold btw at hi' hj
  rw [List.length_take] at hi' hj
  unfold btw at e1 e2
  rw [List.getElem?_take_of_lt (by lia),List.getElem?_drop] at e1 e2
  exact h _ _ _ _ (by lia) (by lia) (by lia) e1 e2
theorem SS.all {a:Array Keyed} (h:SS κ a 0 a.size):Srt κ a.toList:=by
  have:=h.srt
  unfold btw at this
  rw [List.drop_zero,Nat.sub_zero,<- Array.length_toList,List.take_length] at this
  exact this
theorem SS.of {a:Array Keyed} (h:Srt κ a.toList) {lo hi:Nat}:SS κ a lo hi:=fun i j x y _ hij _ hx hy=>h.lt hij hx hy
theorem SS.sub {a:Array Keyed} {lo hi lo' hi':Nat} (h:SS κ a lo hi) (h1:lo<=lo') (h2:hi'<=hi):SS κ a lo' hi':=fun i j x y a1 a2 a3=>h i j x y (by lia) a2 (by lia)
theorem ZL:∀ (m:List Keyed) (k:Nat) (sa:Nat) (a:Array Keyed),sa + k + m.length<=a.size ->
    ((m.zipIdx k).foldl (fun a x=>a.setIfInBounds (sa + x.2) x.1) a).toList=a.toList.take (sa + k) ++ m ++ a.toList.drop (sa + k + m.length)
  | [],k,sa,a,h=>by simp
  | p :: m,k,sa,a,h=>by
    rw [List.zipIdx_cons,List.foldl_cons]
    have h':sa + k + (m.length + 1)<=a.size:=h
    show ((m.zipIdx (k + 1)).foldl _ (a.setIfInBounds (sa + k) p)).toList=_
    rw [ZL m (k + 1) sa _ (by rw [Array.size_setIfInBounds]; lia),Array.toList_setIfInBounds]
    have hl:sa + k < a.toList.length:=by rw [Array.length_toList]; lia
    have e1:(a.toList.set (sa + k) p).take (sa + (k + 1))=a.toList.take (sa + k) ++ [p]:=by
      rw [show sa + (k + 1)=(sa + k) + 1 by lia,List.take_add_one,List.take_set_of_le (Nat.le_refl _),List.getElem?_set_self hl]
      rfl
    have e2:(a.toList.set (sa + k) p).drop (sa + (k + 1) + m.length)=a.toList.drop (sa + k + (m.length + 1)):=by
      rw [List.drop_set_of_lt (by lia),show sa + (k + 1) + m.length=sa + k + (m.length + 1) by lia]
    rw [e1,e2,List.append_assoc,List.append_assoc,List.append_assoc]
    rfl
theorem Jh {l:List Keyed} {k n i:Nat} (h:i < n - k):(btw l k n)[i]?=l[k + i]?:=by
  unfold btw
  rw [List.getElem?_take_of_lt h,List.getElem?_drop]
theorem yu {l:List Keyed} {k n:Nat} {x:Keyed} (h:x∈btw l k n):∃ j,k<=j/\j < n/\l[j]?=some x:=by
  obtain ⟨j,hj,e⟩:=xS h
  exact ⟨k + j,by lia,by lia,e⟩
theorem xW {l:List Keyed} {k n:Nat} (hn:n<=l.length):(btw l k n).length=n - k:=by
  unfold btw
  rw [List.length_take,List.length_drop]
  lia
theorem ZM {l:List Keyed} {n:Nat} {x:Keyed} (h:x∈l.take n):∃ j,j < n/\l[j]?=some x:=by
  obtain ⟨j,_,h1,h2⟩:=yu (k:=0) (n:=n) (l:=l) (by unfold btw; rw [List.drop_zero,Nat.sub_zero]; exact h)
  exact ⟨j,h1,h2⟩
theorem Ji {l:List Keyed} {n:Nat} {x:Keyed} (h:x∈l.drop n):∃ j,n<=j/\l[j]?=some x:=by
  obtain ⟨j,e⟩:=List.mem_iff_getElem?.mp h
  rw [List.getElem?_drop] at e
  exact ⟨n + j,by lia,e⟩
theorem zcb {α β:Type} {X:SM α} {Q:α->SortSt->Prop} {st:SortSt} (J:β->SM α) (R:β->SortSt->Prop) (h1:(∀ o st',R o st'->wpS (model prog w) A E s (J o) Q st')->wpS (model prog w) A E s X Q st) (h2:∀ o st',R o st'->wpS (model prog w) A E s (J o) Q st'):wpS (model prog w) A E s X Q st:=h1 h2
def mat:Nat->SM Bool:=sortPriv% PySem.Builtin.mergeAt
theorem QR {a₀:Array Keyed} {st:SortSt} {n1 n2 p q:Nat} {Q:Bool->SortSt->Prop} (hL:LtH κ kd prog w A s) (B:SB κ kd a₀ st) (o:∀ p∈a₀.toList,Ok κ p) (d:Dif κ a₀.toList) (hp:pendingOf st=#[(0,n1,p),(n1,n2,q)]) (hn:n1 + n2=a₀.size) (h1:1<=n1) (h2:1<=n2) (S1:SS κ (arrOf st) 0 n1) (S2:SS κ (arrOf st) n1 a₀.size)
    (h:∀ st',SB κ kd a₀ st'->SS κ (arrOf st') 0 a₀.size->(pendingOf st').size=1->Q true st'):wpS (model prog w) A E s (mat 0) Q st:=by
  refine wpS_bind (wpS_get ?_)
  have e0:(pendingOf st)[0]?=some (0,n1,p):=by rw [hp]; rfl
  have e1:(pendingOf st)[0 + 1]?=some (n1,n2,q):=by rw [hp]; rfl
  rw [e0,e1]
  dsimp -zeta only
  have hsz:=B.size
  have ok:=B.ok o
  have df:=B.dif d
  have hsp:(((pendingOf st).setIfInBounds 0 (0,n1 + n2,p)).eraseIdxIfInBounds (0 + 1)).size=1:=by rw [hp]; simp [Array.eraseIdxIfInBounds]
  obtain ⟨key,g1,g2,g3,g4⟩:=Two.at ok (show n1 < (arrOf st).size by lia)
  refine wpS_bind (QQ ?_)
  obtain ⟨st1,est1⟩:∃ st1,st1=SortSt.mk' (kindOf st) (arrOf st) (((pendingOf st).setIfInBounds 0 (0,n1 + n2,p)).eraseIdxIfInBounds (0 + 1)) (gallopOf st) (failedOf st):=⟨_,rfl⟩
  have B1:SB κ kd a₀ st1:=by rw [est1]; exact ⟨B.perm,B.kind,B.failed⟩
  have a1:arrOf st1=arrOf st:=by rw [est1]
  have p1:(pendingOf st1).size=1:=by rw [est1]; exact hsp
  show wpS _ _ _ _ _ _ (SortSt.mk' (kindOf st) (arrOf st) (((pendingOf st).setIfInBounds 0 (0,n1 + n2,p)).eraseIdxIfInBounds (0 + 1)) (gallopOf st) (failedOf st))
  rw [<- est1]
  clear est1
  refine wpS_bind (zK g1 (wpS_bind (YF hL B1.kind ok g4 (fun i j x y a1 a2 a3=>S1 i j x y a1 a2 (by lia)) (by show 0 + n1<=(arrOf st).size; lia) (by lia) fun k k1 k2 k3=>?_)))
  have lt1:∀ i x,i < k->(arrOf st).toList[i]?=some x->lt2 κ x key:=fun i x hi e=>(df.at (show i < n1 by lia) e g2).resolve_right fun z=>by
    have z:κ.blt (kk κ key) (kk κ x)=true:=z
    rw [k2 i x hi (by rw [Nat.zero_add]; exact e)] at z
    cases z
  have gek:∀ j y,n1<=j->(arrOf st).toList[j]?=some y->y=key\/lt2 κ key y:=fun j y hj e=>by
    by_cases z:j=n1
    · rw [z,g2] at e
      cases e
      exact .inl rfl
    · refine .inr (S2 n1 j key y (Nat.le_refl _) (by lia) ?_ g2 e)
      have:=(List.getElem?_eq_some_iff.mp e).1
      rw [Array.length_toList] at this
      lia
  have lt1':∀ i j x y,i < k->n1<=j->(arrOf st).toList[i]?=some x->(arrOf st).toList[j]?=some y->lt2 κ x y:=fun i j x y hi hj e1 e2=>by
    rcases gek j y hj e2 with rfl | z
    · exact lt1 i x hi e1
    · exact zZ (lt1 i x hi e1) z
  dsimp -zeta only
  by_cases c1:n1 - k=0
  · rw [if_pos (by show (n1 - k == 0)=true; rw [c1]; rfl)]
    refine wpS_pure (h st1 B1 ?_ p1)
    rw [a1]
    intro i j x y _ hij hj e1 e2
    by_cases z1:j < n1
    · exact S1 i j x y (Nat.zero_le _) hij z1 e1 e2
    · by_cases z2:i < n1
      · exact lt1' i j x y (by lia) (by lia) e1 e2
      · exact S2 i j x y (by lia) hij hj e1 e2
  rw [if_neg (by show ¬ (n1 - k == 0)=true; simpa using c1)]
  obtain ⟨lst,f1,f2,f3,f4⟩:=Two.at ok (show n1 - 1 < (arrOf st).size by lia)
  refine wpS_bind (zK (show (arrOf st)[0 + k + (n1 - k) - 1]?=some lst by rw [show 0 + k + (n1 - k) - 1=n1 - 1 by lia]; exact f1) (wpS_bind (YG hL B1.kind ok f4 (fun i j x y a1 a2 a3=>S2 i j x y a1 a2 (by lia)) (by show n1 + n2<=(arrOf st).size; lia) (by lia) fun m k5 k6 k7=>?_)))
  have lel:∀ i x,i < n1->(arrOf st).toList[i]?=some x->x=lst\/lt2 κ x lst:=fun i x hi e=>by
    by_cases z:i=n1 - 1
    · rw [z,f2] at e
      cases e
      exact .inl rfl
    · exact .inr (S1 i (n1 - 1) x lst (Nat.zero_le _) (by lia) (by lia) e f2)
  have lt2':∀ i j x y,i < n1->n1 + m<=j->(arrOf st).toList[i]?=some x->(arrOf st).toList[j]?=some y->lt2 κ x y:=fun i j x y hi hj e1 e2=>by
    have hjl:=(List.getElem?_eq_some_iff.mp e2).1
    rw [Array.length_toList] at hjl
    have z:lt2 κ lst y:=(df.at (show n1 - 1 < j by lia) f2 e2).resolve_right fun z=>by
      have z:κ.blt (kk κ y) (kk κ lst)=true:=z
      rw [k7 (j - n1) y (by lia) (by lia) (by rw [show n1 + (j - n1)=j by lia]; exact e2)] at z
      cases z
    rcases lel i x hi e1 with rfl | z2
    · exact z
    · exact zZ z2 z
  dsimp -zeta only
  by_cases c2:m=0
  · rw [if_pos (by rw [c2]; rfl)]
    refine wpS_pure (h st1 B1 ?_ p1)
    rw [a1]
    intro i j x y _ hij hj e1 e2
    by_cases z1:j < n1
    · exact S1 i j x y (Nat.zero_le _) hij z1 e1 e2
    · by_cases z2:i < n1
      · exact lt2' i j x y z2 (by lia) e1 e2
      · exact S2 i j x y (by lia) hij hj e1 e2
  rw [if_neg (by simpa using c2)]
  have T:Two κ ((arrOf st).extract (0 + k) n1) ((arrOf st).extract n1 (n1 + m)):=by
    rw [Nat.zero_add]
    have lenL:(arrOf st).toList.length=a₀.size:=by rw [Array.length_toList]; exact hsz
    refine ⟨fun x hx=>?_,fun x hx=>?_,?_,?_,?_,?_,fun x hx y hy=>?_,fun x y hx hy=>?_,fun x hx y hy=>?_⟩
    · rw [zV] at hx
      obtain ⟨j,_,_,e⟩:=yu hx
      exact ok x (List.mem_of_getElem? e)
    · rw [zV] at hx
      obtain ⟨j,_,_,e⟩:=yu hx
      exact ok x (List.mem_of_getElem? e)
    · rw [zV]
      exact (S1.sub (Nat.zero_le _) (Nat.le_refl _)).srt
    · rw [zV]
      exact (S2.sub (Nat.le_refl _) (by lia)).srt
    · rw [<- Array.length_toList,zV,xW (by lia)]
      lia
    · rw [<- Array.length_toList,zV,xW (by lia)]
      lia
    · rw [zV] at hx hy
      obtain ⟨i,_,i1,e1⟩:=yu hx
      obtain ⟨j,j1,_,e2⟩:=yu hy
      exact df.at (by lia) e1 e2
    · rw [zV,Jh (by lia)] at hx hy
      rw [Nat.add_zero] at hx hy
      rw [g2] at hy
      cases hy
      exact k3 k x (Nat.le_refl _) (by lia) (by rw [Nat.zero_add]; exact hx)
    · have hs:((arrOf st).extract k n1).size=n1 - k:=by rw [<- Array.length_toList,zV,xW (by lia)]
      rw [hs,zV,Jh (by lia),show k + (n1 - k - 1)=n1 - 1 by lia,f2] at hx
      cases hx
      rw [zV] at hy
      obtain ⟨j,j1,j2,e⟩:=yu hy
      exact k6 (j - n1) y (by lia) (by rw [show n1 + (j - n1)=j by lia]; exact e)
  extract_lets xa ya jp
  refine zcb (fun r=>jp r) (fun r st'=>Sg st1 st'/\Mrg κ ((arrOf st).extract (0 + k) n1).toList ((arrOf st).extract n1 (n1 + m)).toList r.toList) (fun J=>?_) fun r st2 ⟨sg,hr⟩=>?_
  · split
    · exact wpS_bind (QO hL B1.kind T fun r st' sg hr=>J r st' ⟨sg,hr⟩)
    · exact wpS_bind (QP hL B1.kind T fun r st' sg hr=>J r st' ⟨sg,hr⟩)
  have ht:=ZL r.toList 0 (0 + k) (arrOf st2)
  rw [sg.arr,a1] at ht
  rw [Nat.zero_add] at hr ht
  rw [zV,zV] at hr
  have lenL:(arrOf st).toList.length=a₀.size:=by rw [Array.length_toList]; exact hsz
  have lr:r.toList.length=(n1 - k) + m:=by
    have:=hr.1.length_eq
    rw [List.length_append,xW (by lia),xW (by lia)] at this
    lia
  have ht:=ht (by lia)
  rw [Nat.add_zero,lr,show k + (n1 - k + m)=n1 + m by lia] at ht
  refine wpS_bind (wpS_modify (wpS_bind (wpS_get (wpS_pure ?_))))
  have ef:failedOf st2=none:=sg.failed.trans B1.failed
  show Q (failedOf st2).isNone _
  rw [ef]
  have eArr:(r.toList.zipIdx.foldl (fun a x=>a.setIfInBounds (0 + k + x.2) x.1) (arrOf st2)).toList=(arrOf st).toList.take k ++ r.toList ++ (arrOf st).toList.drop (n1 + m):=by
    rw [sg.arr,a1,Nat.zero_add]
    exact ht
  have pm:((arrOf st).toList.take k ++ r.toList ++ (arrOf st).toList.drop (n1 + m)).Perm (arrOf st).toList:=by
    refine ((List.Perm.append_left _ hr.1).append_right _).trans (List.Perm.of_eq ?_)
    rw [<- List.append_assoc,xi (by lia),xi (by lia),List.take_append_drop]
  have srt:Srt κ ((arrOf st).toList.take k ++ r.toList ++ (arrOf st).toList.drop (n1 + m)):=by
    refine List.pairwise_append.mpr ⟨List.pairwise_append.mpr ⟨?_,hr.2,fun x hx y hy=>?_⟩,?_,fun x hx y hy=>?_⟩
    · have:=(S1.sub (Nat.le_refl 0) (show k<=n1 by lia)).srt
      unfold btw at this
      rw [List.drop_zero,Nat.sub_zero] at this
      exact this
    · obtain ⟨i,hi,e1⟩:=ZM hx
      rcases List.mem_append.mp (hr.1.mem_iff.mp hy) with hy | hy
      · obtain ⟨j,j1,j2,e2⟩:=yu hy
        exact S1 i j x y (Nat.zero_le _) (by lia) j2 e1 e2
      · obtain ⟨j,j1,j2,e2⟩:=yu hy
        exact lt1' i j x y hi j1 e1 e2
    · have:=(S2.sub (show n1<=n1 + m by lia) (Nat.le_refl _)).srt
      unfold btw at this
      rw [List.take_of_length_le (by rw [List.length_drop]; lia)] at this
      exact this
    · obtain ⟨j,j1,e2⟩:=Ji hy
      have hjl:=(List.getElem?_eq_some_iff.mp e2).1
      rcases List.mem_append.mp hx with hx | hx
      · obtain ⟨i,hi,e1⟩:=ZM hx
        exact lt1' i j x y hi (by lia) e1 e2
      · rcases List.mem_append.mp (hr.1.mem_iff.mp hx) with hx | hx
        · obtain ⟨i,i1,i2,e1⟩:=yu hx
          exact lt2' i j x y i2 j1 e1 e2
        · obtain ⟨i,i1,i2,e1⟩:=yu hx
          exact S2 i j x y i1 (by lia) (by lia) e1 e2
  refine h _ ⟨?_,sg.kind.trans B1.kind,ef⟩ ?_ ?_
  · show (r.toList.zipIdx.foldl (fun a x=>a.setIfInBounds (0 + k + x.2) x.1) (arrOf st2)).toList.Perm a₀.toList
    rw [eArr]
    exact pm.trans B.perm
  · show SS κ (r.toList.zipIdx.foldl (fun a x=>a.setIfInBounds (0 + k + x.2) x.1) (arrOf st2)) 0 a₀.size
    refine SS.of ?_
    rw [eArr]
    exact srt
  · show (pendingOf st2).size=1
    rw [sg.pend]
    exact p1
end
section
variable {κ:KeyKind} {kd:SortKind} {prog:Program} {w:World} {A:Around} {E:Value->Shared->Prop} {s:Shared} {a₀:Array Keyed}
structure SP (κ:KeyKind) (kd:SortKind) (a₀ b:Array Keyed) (lo:Nat) (pd:Array (Nat × Nat × Nat)) (st:SortSt):Prop where
  sb:SB κ kd a₀ st
  pre:∀ i,i < lo->(arrOf st)[i]?=b[i]?
  pend:pendingOf st=pd
theorem SP.set {b xs:Array Keyed} {lo:Nat} {pd:Array (Nat × Nat × Nat)} {st:SortSt} (h:SP κ kd a₀ b lo pd st) (p:xs.Perm (arrOf st)) (e:∀ i,i < lo->xs[i]?=(arrOf st)[i]?):SP κ kd a₀ b lo pd (setArr st xs) :=
  ⟨⟨(Array.perm_iff_toList_perm.mp p).trans h.sb.perm,h.sb.kind,h.sb.failed⟩,fun i hi=>(e i hi).trans (h.pre i hi),h.pend⟩
theorem xY {st:SortSt} {i j:Nat} {Q:Option Bool->SortSt->Prop} (hL:LtH κ kd prog w A s) (B:SB κ kd a₀ st) (o:∀ p∈a₀.toList,Ok κ p) {x y:Keyed} (hx:(arrOf st)[i]?=some x) (hy:(arrOf st)[j]?=some y) (h:Q (some (κ.blt (kk κ x) (kk κ y))) st):wpS (model prog w) A E s (ltAt' i j) Q st:=by
  rw [ltAt'_eq]
  refine wpS_bind (wpS_get (wpS_bind (zK hx (wpS_bind (zK hy ?_)))))
  exact xQ hL B.kind (B.ok o x (by rw [<- Array.getElem?_toList] at hx; exact List.mem_of_getElem? hx)) (B.ok o y (by rw [<- Array.getElem?_toList] at hy; exact List.mem_of_getElem? hy)) h
def SA (κ:KeyKind) (a:Array Keyed) (lo hi:Nat):Prop:=∀ i j x y,lo<=i->i < j->j < hi->a[i]?=some x->a[j]?=some y->lt2 κ x y
theorem SA.ss {a:Array Keyed} {lo hi:Nat} (h:SA κ a lo hi):SS κ a lo hi:=fun i j x y a1 a2 a3 e1 e2=>h i j x y a1 a2 a3 (by rw [<- Array.getElem?_toList]; exact e1) (by rw [<- Array.getElem?_toList]; exact e2)
theorem SA.one {a:Array Keyed} {lo hi:Nat} (e:hi<=lo + 1):SA κ a lo hi:=fun i j x y a1 a2 a3=>by lia
theorem SB.at {st:SortSt} (B:SB κ kd a₀ st) (o:∀ p∈a₀.toList,Ok κ p) {i:Nat} (h:i < a₀.size):∃ x,(arrOf st)[i]?=some x:=by
  have h':i < (arrOf st).size:=by rw [B.size]; exact h
  exact ⟨_,getElem?_pos _ i h'⟩
theorem SB.ne {st:SortSt} (B:SB κ kd a₀ st) (d:Dif κ a₀.toList) {i j:Nat} {x y:Keyed} (hij:i≠j) (hx:(arrOf st)[i]?=some x) (hy:(arrOf st)[j]?=some y) (h:κ.blt (kk κ x) (kk κ y)=false):lt2 κ y x:=by
  rw [<- Array.getElem?_toList] at hx hy
  have no:¬ lt2 κ x y:=fun z=>by
    have z:κ.blt (kk κ x) (kk κ y)=true:=z
    rw [h] at z
    cases z
  rcases Nat.lt_or_ge i j with c | c
  · exact ((B.dif d).at c hx hy).resolve_left no
  · exact ((B.dif d).at (show j < i by lia) hy hx).resolve_right no
theorem SA.snoc {a:Array Keyed} {lo n:Nat} {x y:Keyed} (h:SA κ a lo (lo + n)) (h1:1<=n) (hx:a[lo + n - 1]?=some x) (hy:a[lo + n]?=some y) (l:lt2 κ x y):SA κ a lo (lo + (n + 1)):=fun i j u v a1 a2 a3 e1 e2=>by
  by_cases c:j < lo + n
  · exact h i j u v a1 a2 c e1 e2
  · obtain rfl:j=lo + n:=by lia
    rw [hy] at e2
    cases e2
    by_cases c2:i=lo + n - 1
    · rw [c2,hx] at e1
      cases e1
      exact l
    · exact zZ (h i (lo + n - 1) u x a1 (by lia) (by lia) e1 hx) l
def crun:Nat->Nat->SM (Option Nat):=sortPriv% PySem.Builtin.countRun
abbrev LS:=Option (Option Nat) × Nat
theorem Xu {b:Array Keyed} {lo nrem n:Nat} {pd:Array (Nat × Nat × Nat)} {st:SortSt} {f:Nat->LS->SM (ForInStep LS)} {Q:LS->SortSt->Prop} (hL:LtH κ kd prog w A s) (B:SP κ kd a₀ b lo pd st) (o:∀ p∈a₀.toList,Ok κ p) (d:Dif κ a₀.toList) (hn:lo + nrem=a₀.size) (h1:1<=n) (h2:n<=nrem) (S:SA κ (arrOf st) lo (lo + n))
    (hf:∀ x (R:ForInStep LS->SortSt->Prop),1<=x->x < nrem->wpS (model prog w) A E s (ltAt' (lo + x) (lo + x - 1)) (fun r st'=>match r with
      | some true=>R (.done (none,x)) st'
      | some false=>R (.yield (none,x + 1)) st'
      | none=>False) st->wpS (model prog w) A E s (f x (none,x)) R st)
    (h:∀ m,n<=m->m<=nrem->SA κ (arrOf st) lo (lo + m)->(m=nrem\/∃ x y,(arrOf st)[lo + m]?=some x/\(arrOf st)[lo + m - 1]?=some y/\lt2 κ x y)->Q (none,m) st):wpS (model prog w) A E s (forIn [n:nrem] (none,n) f) Q st:=by
  refine wpS_forRange (I:=fun x c st'=>st'=st/\c=(none,x)/\SA κ (arrOf st) lo (lo + x)) ?step ?fin ⟨rfl,rfl,S⟩
  case fin =>
    rintro c st' ⟨rfl,rfl,q⟩
    rw [show max n nrem=nrem by lia] at q ⊢
    exact h nrem h2 (Nat.le_refl _) q (.inl rfl)
  case step =>
    rintro x c st' hx1 hx2 ⟨rfl,rfl,q⟩
    obtain ⟨u,hu⟩:=B.sb.at o (show lo + x < a₀.size by lia)
    obtain ⟨v,hv⟩:=B.sb.at o (show lo + x - 1 < a₀.size by lia)
    refine hf x _ (by lia) hx2 (xY hL B.sb o hu hv ?_)
    cases c:κ.blt (kk κ u) (kk κ v) with
    | true=>exact h x hx1 (by lia) q (.inr ⟨u,v,hu,hv,c⟩)
    | false=>exact ⟨rfl,rfl,q.snoc (by lia) hv hu (B.sb.ne d (by lia) hu hv c)⟩
def DA (κ:KeyKind) (a:Array Keyed) (lo hi:Nat):Prop:=∀ i j x y,lo<=i->i < j->j < hi->a[i]?=some x->a[j]?=some y->lt2 κ y x
theorem DA.snoc {a:Array Keyed} {lo n:Nat} {x y:Keyed} (h:DA κ a lo (lo + n)) (h1:1<=n) (hx:a[lo + n - 1]?=some x) (hy:a[lo + n]?=some y) (l:lt2 κ y x):DA κ a lo (lo + (n + 1)):=fun i j u v a1 a2 a3 e1 e2=>by
  by_cases c:j < lo + n
  · exact h i j u v a1 a2 c e1 e2
  · obtain rfl:j=lo + n:=by lia
    rw [hy] at e2
    cases e2
    by_cases c2:i=lo + n - 1
    · rw [c2,hx] at e1
      cases e1
      exact l
    · exact zZ l (h i (lo + n - 1) u x a1 (by lia) (by lia) e1 hx)
theorem DA.mirror {a:Array Keyed} {lo n:Nat} (h:DA κ a lo (lo + n)) (hs:lo + n<=a.size):SA κ (PyProof.Rows.mirror a lo (lo + n) ((lo + n - lo) / 2)) lo (lo + n):=fun i j x y a1 a2 a3 e1 e2=>by
  rw [getElem?_mirror_all hs,if_pos ⟨by lia,by lia⟩] at e1 e2
  exact h _ _ _ _ (by lia) (by lia) (by lia) e2 e1
theorem ZO {b:Array Keyed} {lo nrem:Nat} {pd:Array (Nat × Nat × Nat)} {st:SortSt} {Q:Option Nat->SortSt->Prop} (hL:LtH κ kd prog w A s) (B:SP κ kd a₀ b lo pd st) (o:∀ p∈a₀.toList,Ok κ p) (d:Dif κ a₀.toList) (hn:lo + nrem=a₀.size) (h1:1<=nrem)
    (h:∀ m st',SP κ kd a₀ b lo pd st'->1<=m->m<=nrem->SA κ (arrOf st') lo (lo + m)->Q (some m) st'):wpS (model prog w) A E s (crun lo nrem) Q st:=by
  refine wpS_bind (Xu hL B o d hn (Nat.le_refl 1) h1 (SA.one (Nat.le_refl _)) (fun x R x1 x2 hR=>?_) fun n n1 n2 S hor=>?_)
  · refine wpS_bind (wpS_mono hR fun r st' hr=>?_)
    match r,hr with
    | some true,hr=>exact wpS_pure hr
    | some false,hr=>exact wpS_pure hr
  dsimp only
  by_cases c1:n=nrem
  · rw [if_pos (by simpa using c1)]
    exact wpS_pure (h n st B n1 n2 S)
  rw [if_neg (by simpa using c1)]
  by_cases c2:n > 1
  · rw [if_pos c2]
    obtain ⟨x,hx⟩:=B.sb.at o (show lo < a₀.size by lia)
    obtain ⟨y,hy⟩:=B.sb.at o (show lo + n - 1 < a₀.size by lia)
    refine wpS_bind (xY hL B.sb o hx hy ?_)
    rw [show κ.blt (kk κ x) (kk κ y)=true from S lo (lo + n - 1) x y (Nat.le_refl _) (by lia) (by lia) hx hy]
    exact wpS_pure (h n st B n1 n2 S)
  rw [if_neg c2]
  obtain rfl:n=1:=by lia
  obtain ⟨x1,x0,hx1,hx0,hl⟩:=hor.resolve_left c1
  have D2:DA κ (arrOf st) lo (lo + 2):=by
    have z:DA κ (arrOf st) lo (lo + 1):=fun i j x y a1 a2 a3=>by lia
    exact z.snoc (Nat.le_refl 1) hx0 hx1 hl
  refine wpS_bind (wpS_lift (wpAny_rule ⟨rfl,?_⟩))
  refine wpS_bind (wpS_mono (wpS_forRange (I:=fun x c st'=>st'=st/\c=(none,x,0)/\DA κ (arrOf st) lo (lo + x)) (Q:=fun c st'=>st'=st/\∃ m,c=(none,m,0)/\2<=m/\m<=nrem/\DA κ (arrOf st) lo (lo + m)) ?step ?fin ?init) ?post)
  case init=>exact ⟨rfl,rfl,D2⟩
  case fin =>
    rintro c st' ⟨rfl,rfl,q⟩
    rw [show max (1 + 1) nrem=nrem by lia] at q ⊢
    exact ⟨rfl,nrem,rfl,by lia,Nat.le_refl _,q⟩
  case step =>
    rintro x c st' a1 a2 ⟨rfl,rfl,q⟩
    obtain ⟨u,hu⟩:=B.sb.at o (show lo + x < a₀.size by lia)
    obtain ⟨v,hv⟩:=B.sb.at o (show lo + x - 1 < a₀.size by lia)
    refine wpS_bind (xY hL B.sb o hu hv ?_)
    cases cc:κ.blt (kk κ u) (kk κ v) with
    | true =>
      dsimp only
      rw [if_pos rfl,if_neg (by lia)]
      exact wpS_pure ⟨rfl,rfl,q.snoc (by lia) hv hu cc⟩
    | false =>
      dsimp only
      rw [if_neg (by decide)]
      refine wpS_bind (xY hL B.sb o hv hu ?_)
      rw [show κ.blt (kk κ v) (kk κ u)=true from B.sb.ne d (by lia) hu hv cc]
      exact wpS_pure ⟨rfl,x,rfl,by lia,by lia,q⟩
  case post =>
    rintro c st' ⟨rfl,m,rfl,m1,m2,q⟩
    dsimp only
    rw [if_neg (by lia)]
    have hsz:=B.sb.size
    refine wpS_bind (wpS_modify ?_)
    have B':SP κ kd a₀ b lo pd (setArr st' (mirror (arrOf st') lo (lo + m) ((lo + m - lo) / 2))):=B.set (mirror_perm _ _ _ _) fun i hi=>by
      rw [getElem?_mirror_all (by lia),if_neg (by lia)]
    refine wpS_bind (Xu hL B' o d hn (by lia) m2 (q.mirror (by lia)) (fun x R x1 x2 hR=>?_) fun n a1 a2 S' _=>?_)
    · refine wpS_bind (wpS_mono hR fun r st' hr=>?_)
      match r,hr with
      | some true,hr=>exact wpS_pure hr
      | some false,hr=>exact wpS_pure hr
    exact wpS_pure (h n _ B' (by lia) a2 S')
def zcc:Nat->Nat->Nat->SM Bool:=sortPriv% PySem.Builtin.binarySort
theorem jd {b:Array Keyed} {lo n ok:Nat} {pd:Array (Nat × Nat × Nat)} {st:SortSt} {Q:Bool->SortSt->Prop} (hL:LtH κ kd prog w A s) (B:SP κ kd a₀ b lo pd st) (o:∀ p∈a₀.toList,Ok κ p) (d:Dif κ a₀.toList) (hn:lo + n<=a₀.size) (h1:1<=ok) (hok:ok<=n) (S:SA κ (arrOf st) lo (lo + ok))
    (h:∀ st',SP κ kd a₀ b lo pd st'->SA κ (arrOf st') lo (lo + n)->Q true st'):wpS (model prog w) A E s (zcc lo n ok) Q st:=by
  refine wpS_bind (wpS_mono (wpS_forRange (I:=fun k c st'=>c=(none,())/\SP κ kd a₀ b lo pd st'/\SA κ (arrOf st') lo (lo + k)) (Q:=fun c st'=>c=(none,())/\SP κ kd a₀ b lo pd st'/\SA κ (arrOf st') lo (lo + n)) ?step ?fin ?init) ?post)
  case init=>exact ⟨rfl,B,by rw [show max ok 1=ok by lia]; exact S⟩
  case fin =>
    rintro c st' ⟨rfl,B',q⟩
    rw [show max (max ok 1) n=n by lia] at q
    exact ⟨rfl,B',q⟩
  case post =>
    rintro c st' ⟨rfl,B',q⟩
    exact wpS_pure (h st' B' q)
  case step =>
    rintro k c st1 k1 k2 ⟨rfl,B1,S1⟩
    obtain ⟨z,hz⟩:=B1.sb.at o (show lo + k < a₀.size by lia)
    dsimp only
    refine wpS_bind (wpS_mono (wpS_forRange (I:=fun x c st'=>st'=st1/\∃ l r,c=(none,l,r)/\l<=r/\r<=k/\r - l<=k - x/\(∀ i u,lo<=i->i < lo + l->(arrOf st1)[i]?=some u->lt2 κ u z)/\∀ i u,lo + r<=i->i < lo + k->(arrOf st1)[i]?=some u->lt2 κ z u)
      (Q:=fun c st'=>st'=st1/\∃ l,c=(none,l,l)/\l<=k/\(∀ i u,lo<=i->i < lo + l->(arrOf st1)[i]?=some u->lt2 κ u z)/\∀ i u,lo + l<=i->i < lo + k->(arrOf st1)[i]?=some u->lt2 κ z u) ?step ?fin ?init) ?post)
    case init=>exact ⟨rfl,0,k,rfl,by lia,by lia,by lia,(fun i u _ _=>by lia),(fun i u _ _=>by lia)⟩
    case fin =>
      rintro c st' ⟨rfl,l,r,rfl,q1,q2,q3,q4,q5⟩
      obtain rfl:l=r:=by lia
      exact ⟨rfl,l,rfl,q2,q4,q5⟩
    case step =>
      rintro x c st' _ hx ⟨rfl,l,r,rfl,q1,q2,q3,q4,q5⟩
      dsimp only
      by_cases c:l ≥ r
      · rw [if_pos c]
        obtain rfl:l=r:=by lia
        exact wpS_pure ⟨rfl,l,rfl,q2,q4,q5⟩
      · rw [if_neg c]
        obtain ⟨m,hm⟩:=B1.sb.at o (show lo + (l + r) / 2 < a₀.size by lia)
        refine wpS_bind (xY hL B1.sb o hz hm ?_)
        cases cc:κ.blt (kk κ z) (kk κ m) with
        | true =>
          dsimp only
          rw [if_pos rfl]
          refine wpS_pure ⟨rfl,l,_,rfl,by lia,by lia,by lia,q4,fun i u i1 i2 e=>?_⟩
          by_cases ci:i=lo + (l + r) / 2
          · rw [ci,hm] at e
            cases e
            exact cc
          · exact zZ cc (S1 _ i m u (by lia) (by lia) i2 hm e)
        | false =>
          dsimp only
          rw [if_neg (by decide)]
          have lm:lt2 κ m z:=B1.sb.ne d (by lia) hz hm cc
          refine wpS_pure ⟨rfl,_,r,rfl,by lia,q2,by lia,fun i u i1 i2 e=>?_,q5⟩
          by_cases ci:i=lo + (l + r) / 2
          · rw [ci,hm] at e
            cases e
            exact lm
          · exact zZ (S1 i _ u m i1 (by lia) (by lia) e hm) lm
    case post =>
      rintro c st' ⟨rfl,l,rfl,q2,q4,q5⟩
      have hsz:=B1.sb.size
      have hb:=getElem?_bubble (xs:=arrOf st') (src:=lo + k) (show lo + k < (arrOf st').size by lia) (lo + k - (lo + l)) (by lia)
      refine wpS_bind (wpS_modify (wpS_pure ⟨rfl,B1.set (bubble_perm _ (lo + k) (lo + k - (lo + l))) fun i hi=>?_,?_⟩))
      · show (bubble (arrOf st') (lo + k) (lo + k - (lo + l)))[i]?=_
        rw [hb,if_neg (by lia),if_neg (by lia)]
      show SA κ (bubble (arrOf st') (lo + k) (lo + k - (lo + l))) lo (lo + (k + 1))
      intro i j x y a1 a2 a3 e1 e2
      rw [hb] at e1 e2
      by_cases c1:i=lo + l
      · rw [if_pos (by lia),hz] at e1
        cases e1
        rw [if_neg (by lia),if_pos (by lia)] at e2
        exact q5 _ y (by lia) (by lia) e2
      by_cases c2:j=lo + l
      · rw [if_pos (by lia),hz] at e2
        cases e2
        rw [if_neg (by lia),if_neg (by lia)] at e1
        exact q4 i x a1 (by lia) e1
      rw [if_neg (by lia)] at e1 e2
      by_cases c3:lo + l < i
      · rw [if_pos (by lia)] at e1 e2
        exact S1 _ _ x y (by lia) (by lia) (by lia) e1 e2
      · rw [if_neg (by lia)] at e1
        by_cases c4:lo + l < j
        · rw [if_pos (by lia)] at e2
          exact S1 _ _ x y a1 (by lia) (by lia) e1 e2
        · rw [if_neg (by lia)] at e2
          exact S1 _ _ x y a1 a2 (by lia) e1 e2
def mrun:Nat->Nat->Nat->Nat:=sortPriv% PySem.Builtin.minRun
theorem QS {n:Nat} (h2:2<=n) (h:n < 128):mrun n n 0<=n/\n<=2 * mrun n n 0/\1<=mrun n n 0:=by
  obtain ⟨f,rfl⟩:∃ f,n=f + 2:=⟨n - 2,by lia⟩
  have e1:mrun (f + 2) (f + 2) 0=if f + 2 < 64 then f + 2 + 0 else mrun (f + 1) ((f + 2) / 2) (max 0 ((f + 2) % 2)):=rfl
  have e2:mrun (f + 1) ((f + 2) / 2) (max 0 ((f + 2) % 2))=if (f + 2) / 2 < 64 then (f + 2) / 2 + max 0 ((f + 2) % 2) else mrun f ((f + 2) / 2 / 2) (max (max 0 ((f + 2) % 2)) ((f + 2) / 2 % 2)):=rfl
  rw [e1]
  split
  · lia
  · rw [e2,if_pos (by lia)]
    lia
def zcd:SM Unit:=sortPriv% PySem.Builtin.sortRuns
theorem Jj {pd:Array (Nat × Nat × Nat)} {n1 pw:Nat} (h:pd=#[(0,n1,0)]):pd.modify (pd.size - 1) (fun x=>(x.1,x.2.1,pw))=#[(0,n1,pw)]:=by
  subst h
  simp [Array.modify,Array.modifyM,Id.run]
  rfl
def Run1 (κ:KeyKind) (kd:SortKind) (a₀:Array Keyed) (st:SortSt) (n1:Nat):Prop:=SB κ kd a₀ st/\pendingOf st=#[(0,n1,0)]/\SA κ (arrOf st) 0 n1
def Fin2 (κ:KeyKind) (kd:SortKind) (a₀:Array Keyed) (st:SortSt):Prop:=Run1 κ kd a₀ st a₀.size\/∃ n1 n2 p,SB κ kd a₀ st/\pendingOf st=#[(0,n1,p),(n1,n2,0)]/\n1 + n2=a₀.size/\1<=n1/\1<=n2/\SA κ (arrOf st) 0 n1/\SA κ (arrOf st) n1 a₀.size
theorem Wd {st:SortSt} {Q:Unit->SortSt->Prop} (hL:LtH κ kd prog w A s) (B:SB κ kd a₀ st) (hp:pendingOf st=#[]) (o:∀ p∈a₀.toList,Ok κ p) (d:Dif κ a₀.toList) (h2:2<=a₀.size) (hn:a₀.size < 128)
    (h:∀ st',SB κ kd a₀ st'->Srt κ (arrOf st').toList->Q () st'):wpS (model prog w) A E s zcd Q st:=by
  refine wpS_bind (wpS_get ?_)
  have hsz:=B.size
  obtain ⟨r1,r2,r3⟩:=QS h2 hn
  have esz:(arrOf st).size=a₀.size:=hsz
  extract_lets size minrun lo0
  have es:size=a₀.size:=esz
  have em:minrun=mrun a₀.size a₀.size 0:=by
    show mrun (arrOf st).size (arrOf st).size 0=_
    rw [esz]
  clear_value minrun
  clear_value size
  subst es
  rw [<- em] at r1 r2 r3
  refine wpS_bind (wpS_mono (wpS_forRange (I:=fun x c st'=>(x=0/\c=(none,0)/\SB κ kd a₀ st'/\pendingOf st'=#[])\/(x=1/\∃ n1,c=(none,n1)/\minrun<=n1/\n1 < a₀.size/\Run1 κ kd a₀ st' n1)\/(1<=x/\c=(none,a₀.size)/\Fin2 κ kd a₀ st'))
    (Q:=fun c st'=>c=(none,a₀.size)/\Fin2 κ kd a₀ st') ?step ?fin ?init) ?post)
  case init=>exact .inl ⟨rfl,rfl,B,hp⟩
  case fin =>
    rintro c st' (⟨z,_⟩ | ⟨z,_⟩ | ⟨_,z1,z2⟩)
    · lia
    · lia
    · exact ⟨z1,z2⟩
  case post =>
    rintro c st' ⟨rfl,F⟩
    dsimp only
    refine wpS_bind (wpS_mono (wpS_forRange (I:=fun x c st'=>c=(none,())/\((x=0/\Fin2 κ kd a₀ st')\/(SB κ kd a₀ st'/\SS κ (arrOf st') 0 a₀.size/\(pendingOf st').size=1))) (Q:=fun c st'=>c=(none,())/\SB κ kd a₀ st'/\SS κ (arrOf st') 0 a₀.size) ?step2 ?fin2 ?init2) ?post2)
    case init2=>exact ⟨rfl,.inl ⟨rfl,F⟩⟩
    case fin2 =>
      rintro c st' ⟨rfl,⟨z,_⟩ | ⟨z1,z2,_⟩⟩
      · lia
      · exact ⟨rfl,z1,z2⟩
    case post2 =>
      rintro c st' ⟨rfl,z1,z2⟩
      refine wpS_pure (h st' z1 (SS.all ?_))
      rw [z1.size]
      exact z2
    case step2 =>
      rintro x c st' _ hx ⟨rfl,⟨rfl,⟨z1,z2,z3⟩ | ⟨n1,n2,p,z1,z2,z3,z4,z5,z6,z7⟩⟩ | ⟨z1,z2,z3⟩⟩
      · refine wpS_bind (wpS_get ?_)
        have e1:(pendingOf st').size=1:=by rw [z2]; rfl
        rw [if_pos (by rw [e1]; exact Nat.le_refl 1)]
        exact wpS_pure ⟨rfl,z1,z3.ss⟩
      · refine wpS_bind (wpS_get ?_)
        have e2:(pendingOf st').size=2:=by rw [z2]; rfl
        rw [if_neg (by rw [e2]; lia)]
        rw [e2]
        rw [if_neg (show ¬ (2 - 2 > 0) by lia),if_neg (by show ¬ (Option.any _ none=true); simp)]
        refine wpS_bind (QR hL z1 o d z2 z3 z4 z5 z6.ss z7.ss fun st2 B2 S2 P2=>?_)
        rw [if_neg (by decide)]
        exact wpS_pure ⟨rfl,.inr ⟨B2,S2,P2⟩⟩
      · refine wpS_bind (wpS_get ?_)
        rw [if_pos (by rw [z3]; exact Nat.le_refl 1)]
        exact wpS_pure ⟨rfl,z1,z2⟩
  case step =>
    rintro x c st1 _ hx (⟨rfl,rfl,B1,p1⟩ | ⟨rfl,n1,rfl,q1,q2,B1,p1,S1⟩ | ⟨x1,rfl,F⟩)
    · dsimp only
      rw [if_neg (by lia)]
      have nxt:∀ (st3:SortSt) (n:Nat),SB κ kd a₀ st3->SA κ (arrOf st3) 0 (0 + n)->minrun<=n->n<=a₀.size->∀ pd,pd=(#[]:Array (Nat × Nat × Nat))->(0 + 1=0/\((none,0 + n):Option Unit × Nat)=(none,0)/\SB κ kd a₀ (setPending st3 (pd.push (0,n,0)))/\pendingOf (setPending st3 (pd.push (0,n,0)))=#[])\/(0 + 1=1/\∃ n1,((none,0 + n):Option Unit × Nat)=(none,n1)/\minrun<=n1/\n1 < a₀.size/\Run1 κ kd a₀ (setPending st3 (pd.push (0,n,0))) n1)\/(1<=0 + 1/\((none,0 + n):Option Unit × Nat)=(none,a₀.size)/\Fin2 κ kd a₀ (setPending st3 (pd.push (0,n,0)))):=by
        rintro st3 n B3 S3 n1 n2 pd rfl
        rw [Nat.zero_add n] at S3 ⊢
        have R:Run1 κ kd a₀ (setPending st3 ((#[]:Array (Nat × Nat × Nat)).push (0,n,0))) n:=⟨⟨B3.perm,B3.kind,B3.failed⟩,rfl,S3⟩
        by_cases c:n < a₀.size
        · exact .inr (.inl ⟨rfl,n,rfl,n1,c,R⟩)
        · obtain rfl:n=a₀.size:=by lia
          exact .inr (.inr ⟨Nat.le_refl _,rfl,.inl R⟩)
      refine wpS_bind (ZO (b:=arrOf st1) (lo:=0) hL ⟨B1,(fun i hi=>absurd hi (by lia)),p1⟩ o d (by lia) (by lia) fun m st2 B2 m1 m2 S2=>?_)
      dsimp only
      by_cases c:m < minrun
      · rw [if_pos c]
        refine wpS_bind (wpS_lift (wpAny_rule ⟨rfl,?_⟩))
        refine wpS_bind (jd hL B2 o d (by lia) m1 (by lia) S2 fun st3 B3 S3=>?_)
        rw [if_neg (by decide)]
        refine wpS_bind (wpS_get ?_)
        have hb:(pendingOf st3).back?=none:=by rw [B3.pend]; rfl
        rw [hb]
        dsimp only
        exact wpS_bind (wpS_modify (wpS_pure (nxt st3 (min (a₀.size - 0) minrun) B3.sb S3 (by lia) (by lia) _ B3.pend)))
      · rw [if_neg c]
        refine wpS_bind (wpS_get ?_)
        have hb:(pendingOf st2).back?=none:=by rw [B2.pend]; rfl
        rw [hb]
        dsimp only
        exact wpS_bind (wpS_modify (wpS_pure (nxt st2 m B2.sb S2 (by lia) (by lia) _ B2.pend)))
    · dsimp only
      rw [if_neg (by lia)]
      have nxt:∀ (st3:SortSt) (n pw:Nat),SP κ kd a₀ (arrOf st1) n1 #[(0,n1,0)] st3->SA κ (arrOf st3) n1 (n1 + n)->n=a₀.size - n1->∀ pd,pd=(#[(0,n1,pw)]:Array (Nat × Nat × Nat))->(1 + 1=0/\((none,n1 + n):Option Unit × Nat)=(none,0)/\SB κ kd a₀ (setPending st3 (pd.push (n1,n,0)))/\pendingOf (setPending st3 (pd.push (n1,n,0)))=#[])\/(1 + 1=1/\∃ n2,((none,n1 + n):Option Unit × Nat)=(none,n2)/\minrun<=n2/\n2 < a₀.size/\Run1 κ kd a₀ (setPending st3 (pd.push (n1,n,0))) n2)\/(1<=1 + 1/\((none,n1 + n):Option Unit × Nat)=(none,a₀.size)/\Fin2 κ kd a₀ (setPending st3 (pd.push (n1,n,0)))):=by
        rintro st3 n pw B3 S3 en pd rfl
        have e:n1 + n=a₀.size:=by lia
        rw [e] at S3 ⊢
        refine .inr (.inr ⟨by lia,rfl,.inr ⟨n1,n,pw,⟨B3.sb.perm,B3.sb.kind,B3.sb.failed⟩,rfl,e,by lia,by lia,fun i j x y a1 a2 a3 f1 f2=>?_,S3⟩⟩)
        exact S1 i j x y a1 a2 a3 ((B3.pre i (by lia)).symm.trans f1) ((B3.pre j a3).symm.trans f2)
      refine wpS_bind (ZO (b:=arrOf st1) (lo:=n1) hL ⟨B1,(fun i hi=>rfl),p1⟩ o d (by lia) (by lia) fun m st2 B2 m1 m2 S2=>?_)
      dsimp only
      have inner:∀ (st3:SortSt) (f:Nat->Option Unit × Unit->SM (ForInStep (Option Unit × Unit))),pendingOf st3=#[(0,n1,0)]->(∀ x (R:ForInStep (Option Unit × Unit)->SortSt->Prop),R (.done (none,())) st3->wpS (model prog w) A E s (f x (none,())) R st3)->wpS (model prog w) A E s (forIn [0:a₀.size] (none,()) f) (fun c st'=>c=(none,())/\st'=st3) st3:=by
        intro st3 f p3 hf
        refine wpS_forRange (I:=fun _ c st'=>c=(none,())/\st'=st3) ?step3 ?fin3 ⟨rfl,rfl⟩
        case fin3=>exact fun c st' h=>h
        case step3 =>
          rintro x c st' _ _ ⟨rfl,rfl⟩
          exact hf x _ ⟨rfl,rfl⟩
      by_cases c:m < minrun
      · rw [if_pos c]
        refine wpS_bind (wpS_lift (wpAny_rule ⟨rfl,?_⟩))
        refine wpS_bind (jd hL B2 o d (by lia) m1 (by lia) S2 fun st3 B3 S3=>?_)
        rw [if_neg (by decide)]
        refine wpS_bind (wpS_get ?_)
        have hb:(pendingOf st3).back?=some (0,n1,0):=by rw [B3.pend]; rfl
        rw [hb]
        dsimp only
        refine wpS_bind (wpS_mono (inner st3 _ B3.pend fun x R hR=>?_) ?_)
        · refine wpS_bind (wpS_get ?_)
          have e1:(pendingOf st3).size=1:=by rw [B3.pend]; rfl
          rw [if_neg (by rw [e1]; lia)]
          exact wpS_pure hR
        rintro c st' ⟨rfl,rfl⟩
        dsimp only
        refine wpS_bind (wpS_modify (wpS_bind (wpS_modify (wpS_pure ?_))))
        exact nxt st' (min (a₀.size - n1) minrun) _ B3 S3 (by lia) _ (Jj B3.pend)
      · rw [if_neg c]
        refine wpS_bind (wpS_get ?_)
        have hb:(pendingOf st2).back?=some (0,n1,0):=by rw [B2.pend]; rfl
        rw [hb]
        dsimp only
        refine wpS_bind (wpS_mono (inner st2 _ B2.pend fun x R hR=>?_) ?_)
        · refine wpS_bind (wpS_get ?_)
          have e1:(pendingOf st2).size=1:=by rw [B2.pend]; rfl
          rw [if_neg (by rw [e1]; lia)]
          exact wpS_pure hR
        rintro c st' ⟨rfl,rfl⟩
        dsimp only
        refine wpS_bind (wpS_modify (wpS_bind (wpS_modify (wpS_pure ?_))))
        exact nxt st' m _ B2 S2 (by lia) _ (Jj B2.pend)
    · dsimp only
      rw [if_pos (Nat.le_refl _)]
      exact wpS_pure ⟨rfl,F⟩
end
end Ts
namespace L2
open PySem PySem.Spec PyProof.Rows Ts
def pblt (a b:List Nat × Int):Bool:=decide (a.1 < b.1) || (decide (a.1=b.1) && decide (a.2 < b.2))
theorem pblt_iff {a b:List Nat × Int}:pblt a b=true↔a.1 < b.1\/(a.1=b.1/\a.2 < b.2):=by
  unfold pblt
  rw [Bool.or_eq_true,Bool.and_eq_true,decide_eq_true_iff,decide_eq_true_iff,decide_eq_true_iff]
theorem Xv {a b:List Nat × Int} (h:pblt a b=false):¬ (a.1 < b.1\/(a.1=b.1/\a.2 < b.2)):=fun z=>by
  rw [pblt_iff.mpr z] at h
  cases h
abbrev ky (p:Str × Int):List Nat × Int:=(p.1.cps.toList,p.2)
def prK (M:Addr->Option (Str × Int)):KeyKind where
  α:=List Nat × Int
  blt:=pblt
  irrefl a:=by
    cases c:pblt a a with
    | false=>rfl
    | true =>
      rcases pblt_iff.mp c with h | ⟨_,h⟩
      · exact absurd h (List.lt_irrefl a.1)
      · lia
  trans a b c h1 h2:=by
    rw [pblt_iff] at *
    rcases h1 with h1 | ⟨e1,h1⟩
    · rcases h2 with h2 | ⟨e2,h2⟩
      · exact .inl (List.lt_trans h1 h2)
      · exact .inl (e2 ▸ h1)
    · rcases h2 with h2 | ⟨e2,h2⟩
      · exact .inl (e1 ▸ h2)
      · exact .inr ⟨e1.trans e2,by lia⟩
  negTrans a b c h:=by
    rw [pblt_iff,pblt_iff]
    rw [pblt_iff] at h
    by_cases l:a.1 < b.1
    · exact .inl (.inl l)
    by_cases l2:b.1 < c.1
    · exact .inr (.inl l2)
    have e1:b.1<=a.1:=List.not_lt.mp l
    have e2:c.1<=b.1:=List.not_lt.mp l2
    rcases h with h | ⟨e,h⟩
    · exact absurd (List.lt_of_le_of_lt (List.le_trans e2 e1) h) (List.lt_irrefl _)
    · have ab:a.1=b.1:=List.le_antisymm (e ▸ e2) e1
      have bc:b.1=c.1:=ab ▸ e
      by_cases l3:a.2 < b.2
      · exact .inl (.inr ⟨ab,l3⟩)
      · exact .inr (.inr ⟨bc,by lia⟩)
  total a b h1 h2:=by
    have n1:=Xv h1
    have n2:=Xv h2
    have e:a.1=b.1:=List.le_antisymm (List.not_lt.mp fun z=>n2 (.inl z)) (List.not_lt.mp fun z=>n1 (.inl z))
    refine Prod.ext e ?_
    have a1:¬ a.2 < b.2:=fun z=>n1 (.inr ⟨e,z⟩)
    have a2:¬ b.2 < a.2:=fun z=>n2 (.inr ⟨e.symm,z⟩)
    lia
  keyOf v:=match v with
    | .ref a=>(M a).map ky
    | _=>none
  dflt:=([],0)
section
variable {prog:Program} {w:World} {A:Around} {E:Value->Shared->Prop} {s:Shared} {M:Addr->Option (Str × Int)}
def PrIn (M:Addr->Option (Str × Int)) (h:Heap):Prop:=∀ a x i,M a=some (x,i)->∃ o n t u,h.get? a=some o/\o.cls=.type "tuple"/\o.data=.seq #[.str x t,.int i u] n
theorem PrIn.kept {h h':Heap} (p:PrIn M h) (k:∀ b o,h.get? b=some o->o.cls=.type "tuple"->h'.get? b=some o):PrIn M h':=fun a x i e=>by
  obtain ⟨o,n,t,u,h1,h2,h3⟩:=p a x i e
  exact ⟨o,n,t,u,k _ _ h1 h2,h2,h3⟩
theorem zce (p:PrIn M s.heap):LtH (prK M) (tuples' true) prog w A s:=by
  intro E x y a b Q hx hy h
  match x,hx with
  | .ref ax,hx =>
    match y,hy with
    | .ref ay,hy =>
      obtain ⟨⟨zx,ix⟩,ex,rfl⟩:=Option.map_eq_some_iff.mp (show (M ax).map ky=some a from hx)
      obtain ⟨⟨zy,iy⟩,ey,rfl⟩:=Option.map_eq_some_iff.mp (show (M ay).map ky=some b from hy)
      obtain ⟨o,n,t,u,h1,h2,h3⟩:=p _ _ _ ex
      obtain ⟨o',n',t',u',g1,g2,g3⟩:=p _ _ _ ey
      have h:Q (pblt (ky (zx,ix)) (ky (zy,iy))) s:=h
      refine PySem.W.kat_lt h1 h3 g1 g3 ?_
      show PySem.W.KatLex prog w A true _ Q [(.str zx t,.str zy t'),(.int ix u,.int iy u')] 0 s
      refine PySem.W.kat_cons (wpAny_eqBool_str ?_)
      by_cases c:zx=zy
      · subst c
        rw [decide_eq_true rfl]
        refine PySem.W.kat_yes (PySem.W.kat_cons (wpAny_eqBool_int ?_))
        by_cases c2:ix=iy
        · subst c2
          rw [show (ix == ix)=true by simp]
          refine PySem.W.kat_yes (PySem.W.kat_nil ?_)
          have e:pblt (ky (zx,ix)) (ky (zx,ix))=false:=(prK M).irrefl _
          rw [e] at h
          exact h
        · rw [show (ix == iy)=false by simpa using c2]
          refine PySem.W.kat_no (PySem.W.kat_one _ _ (wpAny_lt_int (show Q (decide (ix < iy)) s from ?_)))
          have e:pblt (ky (zx,ix)) (ky (zx,iy))=decide (ix < iy):=by
            unfold pblt
            rw [decide_eq_false (List.lt_irrefl _),decide_eq_true rfl,Bool.false_or,Bool.true_and]
          rw [e] at h
          exact h
      · rw [decide_eq_false c]
        refine PySem.W.kat_no (oneLt_str ?_)
        have e:pblt (ky (zx,ix)) (ky (zy,iy))=decide (zx.cps.toList < zy.cps.toList):=by
          unfold pblt
          have ne:¬ zx.cps.toList=zy.cps.toList:=fun z=>c (by
            cases zx
            cases zy
            exact congrArg _ (Array.toList_inj.mp z))
          rw [decide_eq_false (show ¬ (ky (zx,ix)).1=(ky (zy,iy)).1 from ne),Bool.false_and,Bool.or_false]
        rw [e] at h
        exact h
theorem jf {α:Type}:∀ l:List α,l.zip l=l.map fun v=>(v,v)
  | []=>rfl
  | v :: l=>by rw [List.zip_cons_cons,jf l]; rfl
theorem Jk {a:Addr} {vs:List Value} {n:Nat} {P:Fin->Shared->Prop} (ho:s.heap.get? a=some (seqObj "list" vs.toArray n)) (p:PrIn M s.heap) (hv:∀ v∈vs,∃ b x i,v=.ref b/\M b=some (x,i)) (nd:vs.Pairwise fun u v=>(prK M).keyOf u≠(prK M).keyOf v) (hn:vs.length < 128)
    (h:∀ out:List Value,out.Perm vs->(out.Pairwise fun u v=>∃ k l,(prK M).keyOf u=some k/\(prK M).keyOf v=some l/\pblt k l=true)->P (.done (.ret .none)) { s with heap:=sortedHeap s.heap a vs out.toArray }):wpAny (model prog w) A (Builtin.«list.sort» ⟨[.ref a],[]⟩) P E s:=by
  have ha:a < s.heap.objs.size:=Heap.lt_size ho
  obtain ⟨e1,ho1⟩:∃ e1,(s.heap.update a (Obj.mapSeq fun _=>(#[]:Array Value))).get? a=some (seqObj "list" #[] e1):=⟨_,get?_update_seq ho fun _=>#[]⟩
  obtain ⟨h6,e6⟩:∃ h6,h6=((s.heap.update a (Obj.mapSeq fun _=>(#[]:Array Value))).push (seqObj "tuple" vs.toArray 0)).push (seqObj "list" #[] 0):=⟨_,rfl⟩
  have ho6:h6.get? a=some (seqObj "list" #[] e1):=by rw [e6]; exact Heap.get?_push_of_some _ (Heap.get?_push_of_some _ ho1)
  have k6:∀ b o,s.heap.get? b=some o->o.cls=.type "tuple"->h6.get? b=some o:=fun b o e c=>by
    have nb:b≠a:=fun z=>by
      rw [z,ho] at e
      cases e
      have c':Value.type "list"=Value.type "tuple":=c
      injection c' with c'
      exact absurd c' (by decide)
    rw [e6]
    refine Heap.get?_push_of_some _ (Heap.get?_push_of_some _ ?_)
    rw [Heap.get?_update_ne _ _ _ _ nb]
    exact e
  have p6:PrIn M h6:=p.kept k6
  rw [list_sort_plain]
  refine wpAny_bind (listItems_at ho rfl ?_)
  refine wpAny_bind (listUpdate_at ho rfl ?_ (by rw [List.size_toArray,sizeLine_eq]; lia) (Nat.zero_le _))
  refine wpAny_bind (seqEpoch_at ho1 rfl ?_)
  refine wpAny_bind (wpAny_newTuple ?_ (by show vs.length<=_; rw [sizeLine_eq]; lia))
  refine wpAny_bind (wpAny_newList ?_ (Nat.zero_le _))
  refine wpAny_holding ?_
  show wpAny (model prog w) A _ P E { s with heap:=((s.heap.update a (Obj.mapSeq fun _=>(#[]:Array Value))).push (seqObj "tuple" vs.toArray 0)).push (seqObj "list" #[] 0) }
  rw [<- e6]
  dsimp only
  have zl:(vs.toArray.zip vs.toArray).toList=vs.map fun v=>(v,v):=by
    rw [Array.toList_zip]
    exact jf vs
  by_cases h2:vs.length < 2
  · have h2':vs.toArray.size < 2:=by simpa using h2
    rw [if_pos h2',if_pos h2']
    refine wpAny_bind (wpAny_pure ?_)
    rw [StateT.run_pure]
    refine wpAny_bind (wpAny_pure ?_)
    dsimp only
    refine wpAny_bind (seqEpoch_at ho6 rfl ?_)
    have eo:(arrOf (SortSt.mk' general' (vs.toArray.zip vs.toArray) #[] 7 none)).map (·.2)=vs.toArray:=by
      show Array.map (·.2) (vs.toArray.zip vs.toArray)=vs.toArray
      match vs,h2 with
      | [],_=>simp
      | [v],_=>simp
    rw [eo]
    refine wpAny_bind (listUpdate_at ho6 rfl ?_ (Nat.zero_le _) (by rw [List.size_toArray,sizeLine_eq]; lia))
    simp only [bne_self_eq_false,Bool.false_eq_true,if_false]
    refine wpAny_pure ?_
    rw [e6]
    refine h vs (.refl _) ?_
    match vs,h2 with
    | [],_=>exact List.Pairwise.nil
    | [v],_=>exact List.pairwise_singleton _ _
  · have h2':¬ vs.toArray.size < 2:=by simpa using h2
    rw [if_neg h2',if_neg h2']
    obtain ⟨fs,kt,fl,fT⟩:∃ fs,PySem.W.KatTups h6 vs fs/\fs.length=vs.length/\∀ v∈fs,∃ x t,v=.str x t:=by
      clear nd hn h h2 h2' ho ho1 ho6 ha zl e6
      induction vs with
      | nil=>exact ⟨[],trivial,rfl,fun v hv=>by cases hv⟩
      | cons v vs ih =>
        obtain ⟨fs,kt,fl,fT⟩:=ih (fun u hu=>hv u (List.mem_cons_of_mem _ hu))
        obtain ⟨b,x,i,rfl,eM⟩:=hv v List.mem_cons_self
        obtain ⟨o,n',t,u,g1,g2,g3⟩:=p6 b x i eM
        exact ⟨.str x t :: fs,PySem.W.KatTups.cons g1 g2 g3 rfl kt,by simp [fl],fun v hv=>by
          rcases List.mem_cons.mp hv with rfl | hv
          · exact ⟨x,t,rfl⟩
          · exact fT v hv⟩
    refine wpAny_bind (PySem.W.kat_kind (s:={ s with heap:=h6 }) (T:=.type "str") kt (by lia) (fun v hv=>?_) (by rfl) ?_)
    · obtain ⟨x,t,rfl⟩:=fT v hv
      exact PySem.W.Looks.now
    have kz:∀ v∈vs,∃ k,(prK M).keyOf v=some k/\kk (prK M) (v,v)=k:=fun v hv'=>by
      obtain ⟨b,x,i,rfl,eM⟩:=hv v hv'
      have e:(prK M).keyOf (.ref b)=some (ky (x,i)):=by
        show (M b).map ky=_
        rw [eM]
        rfl
      refine ⟨_,e,?_⟩
      unfold kk
      rw [e]
      rfl
    refine wpAny_bind (wpAny_mono (Wd (κ:=prK M) (kd:=tuples' true) (a₀:=vs.toArray.zip vs.toArray) (st:=SortSt.mk' (tuples' true) (vs.toArray.zip vs.toArray) #[] 7 none)
      (Q:=fun _ st'=>SB (prK M) (tuples' true) (vs.toArray.zip vs.toArray) st'/\Srt (prK M) (arrOf st').toList) (zce p6) ⟨.refl _,rfl,rfl⟩ rfl (fun q hq=>?_) ?_ ?_ ?_ fun st' a1 a2=>⟨a1,a2⟩) ?_ fun _ _ e=>e)
    · rw [zl] at hq
      obtain ⟨v,hv',rfl⟩:=List.mem_map.mp hq
      obtain ⟨k,e,_⟩:=kz v hv'
      exact ⟨k,e⟩
    · unfold Dif
      rw [zl]
      refine List.Pairwise.map _ (fun u v h=>h) (List.Pairwise.imp_of_mem (fun {u v} hu hw ne=>?_) nd)
      obtain ⟨k,e1,e2⟩:=kz u hu
      obtain ⟨l,f1,f2⟩:=kz v hw
      unfold lt2
      rw [e2,f2]
      cases c1:(prK M).blt k l with
      | true=>exact .inl c1
      | false =>
        refine .inr ?_
        cases c2:(prK M).blt l k with
        | true=>exact c2
        | false =>
          refine absurd ?_ ne
          rw [e1,f1,(prK M).total k l c1 c2]
    · rw [<- Array.length_toList,zl,List.length_map]
      lia
    · rw [<- Array.length_toList,zl,List.length_map]
      exact hn
    rintro ⟨⟨⟩,st'⟩ s' ⟨rfl,B,S⟩
    dsimp only at B S ⊢
    have pm:=B.perm
    rw [zl] at pm
    have eo:(arrOf st').map (·.2)=((arrOf st').toList.map (·.2)).toArray:=by
      rw [<- Array.toList_map,Array.toArray_toList]
    have po:((arrOf st').toList.map (·.2)).Perm vs:=by
      have:=pm.map (·.2)
      rw [List.map_map] at this
      have e:List.map ((fun x:Keyed=>x.2) ∘ fun v=>(v,v)) vs=vs:=by
        rw [show ((fun x:Keyed=>x.2) ∘ fun v:Value=>((v,v):Keyed))=id from rfl,List.map_id]
      rw [e] at this
      exact this
    rw [eo]
    refine wpAny_bind (seqEpoch_at ho6 rfl ?_)
    refine wpAny_bind (listUpdate_at ho6 rfl ?_ (Nat.zero_le _) (by rw [List.size_toArray,po.length_eq,sizeLine_eq]; lia))
    rw [B.failed]
    simp only [bne_self_eq_false,Bool.false_eq_true,if_false]
    refine wpAny_pure ?_
    rw [e6]
    refine h _ po (List.Pairwise.map _ (fun u v h=>h) (List.Pairwise.imp_of_mem (fun {u v} hu hw l=>?_) S))
    have mu:∀ {q:Keyed},q∈(arrOf st').toList->q.1=q.2/\q.2∈vs:=fun {q} hq=>by
      obtain ⟨v,hv',rfl⟩:=List.mem_map.mp (pm.mem_iff.mp hq)
      exact ⟨rfl,hv'⟩
    obtain ⟨k,e1,e2⟩:=kz u.2 (mu hu).2
    obtain ⟨m,f1,f2⟩:=kz v.2 (mu hw).2
    refine ⟨k,m,e1,f1,?_⟩
    have eu:kk (prK M) u=k:=by rw [<- e2]; unfold kk; rw [(mu hu).1]
    have ev:kk (prK M) v=m:=by rw [<- f2]; unfold kk; rw [(mu hw).1]
    have l:pblt (kk (prK M) u) (kk (prK M) v)=true:=l
    rw [eu,ev] at l
    exact l
end
def prOf (H:Hp) (a:Addr):Option (Str × Int):=match H a with
  | some (.tup [.str x,.int i])=>some (x,i)
  | _=>none
theorem y7 {H:Hp} {a:Addr} {x:Str} {i:Int} (h:H a=some (.tup [.str x,.int i])):prOf H a=some (x,i):=by
  unfold prOf
  rw [h]
theorem Xw {H:Hp} {a:Addr} {x:Str} {i:Int} (h:prOf H a=some (x,i)):H a=some (.tup [.str x,.int i]):=by
  unfold prOf at h
  split at h
  · next e=>injection h with h; injection h with h1 h2; rw [e,h1,h2]
  · cases h
section
variable {X:Cx}
def Jl:List V->Hp->VK->Prop:=fun xs H Q=>∃ (l:Addr) (ts:List Addr),xs=[.ref l]/\H l=some (.lst (ts.map V.ref))/\ts.length < 128/\(∀ t∈ts,∃ x i,H t=some (.tup [.str x,.int i]))/\(ts.Pairwise fun u v=>prOf H u≠prOf H v) /\
  ∀ (ts':List Addr) (l':Addr),ts'.Perm ts->(ts'.Pairwise fun u v=>∃ k m,prOf H u=some k/\prOf H v=some m/\pblt (ky k) (ky m)=true)->H l'=none->Q (.ref l') (upd H l' (.lst (ts'.map V.ref)))
theorem ZP:∀ {ts:List Addr} {us:List Value},Vals (ts.map V.ref) us->us=ts.map Value.ref
  | [],_,.nil=>rfl
  | _ :: _,_,.cons h t=>by rw [List.map_cons,<- ZP t,h]
theorem ZQ:∀ ts:List Addr,Vals (ts.map V.ref) (ts.map Value.ref)
  | []=>.nil
  | _ :: ts=>.cons rfl (ZQ ts)
theorem YH (hc:X.calm=true):y8 X (.builtin "sorted") Jl:=by
  intro pins s σ H xs us Q I r h
  obtain ⟨l,ts,rfl,hl,hn,hp,nd,q⟩:=h
  obtain ⟨u,rfl,rx⟩:=wx r
  cases rx
  obtain ⟨its,n,rv,hol,hz⟩:=I.lst hl
  obtain rfl:=ZP rv
  have hI:s.heap.IsList l (ts.map Value.ref).toArray:=⟨_,hol,rfl,n,rfl⟩
  have sl:=zW
  refine Calls.call_function_entry kind_sorted plain_sorted entry_sorted (args_sorted1 _) ?_
  unfold Builtin.«sorted»
  refine wpAny_bind (m:=checkCount "sorted" 1 1 _) (wpAny_pure ?_)
  obtain ⟨h',eh⟩:∃ h',h'=(s.heap.push (seqObj "list" #[] 0)).update s.heap.objs.size (Obj.mapSeq (· ++ (ts.map Value.ref).toArray)):=⟨_,rfl⟩
  refine wpAny_bind (collect_list hI ?_ (by rw [List.length_map]; lia))
  rw [<- eh]
  have hk:∀ b o,s.heap.get? b=some o->h'.get? b=some o:=fun b o e=>by
    rw [eh,Heap.get?_update_ne _ _ _ _ (Nat.ne_of_lt (Heap.lt_size e)),Heap.get?_push_ne _ _ _ (Nat.ne_of_lt (Heap.lt_size e))]
    exact e
  have I':Inv X pins σ H { s with heap:=h' }:=I.un (Un.kept hk) (I.hok.kept hk)
  refine wpAny_bind (wpAny_newList ?_ (by rw [List.length_map]; lia))
  have hoL:(h'.push (seqObj "list" (ts.map Value.ref).toArray 0)).get? h'.objs.size=some (seqObj "list" (ts.map Value.ref).toArray 0):=Heap.get?_push_size _ rfl
  have kT:∀ b o,s.heap.get? b=some o->(h'.push (seqObj "list" (ts.map Value.ref).toArray 0)).get? b=some o:=fun b o e=>Heap.get?_push_of_some _ (hk b o e)
  have pin:PrIn (prOf H) (h'.push (seqObj "list" (ts.map Value.ref).toArray 0)):=fun a x i e=>by
    obtain ⟨_,its',rt,o,e1,e2,_,n',e3⟩:=I.hok a _ (Xw e)
    cases rt with
    | cons h t =>
      cases t with
      | cons h2 t2 =>
        cases t2
        obtain ⟨t0,rfl⟩:=h
        obtain ⟨t1,rfl⟩:=h2
        exact ⟨o,n',t0,t1,kT _ _ e1,e2,e3⟩
  refine wpAny_bind (wpAny_holding (wpAny_call_entry slot_list_sort ⟨_,hoL,rfl⟩ entry_list_sort (Jk (M:=prOf H) (s:={ s with heap:=h'.push (seqObj "list" (ts.map Value.ref).toArray 0) }) hoL pin (fun v hv=>?_) ?_ (by rw [List.length_map]; exact hn) fun out po so=>⟨_,rfl,?_⟩) (args_list_sort _)))
  · obtain ⟨t,ht,rfl⟩:=List.mem_map.mp hv
    obtain ⟨x,i,e⟩:=hp t ht
    exact ⟨t,x,i,rfl,y7 e⟩
  · refine List.Pairwise.map _ (fun u v h=>h) (List.Pairwise.imp_of_mem (fun {u v} hu hw ne z=>ne ?_) nd)
    have z:(prOf H u).map ky=(prOf H v).map ky:=z
    obtain ⟨x,i,e1⟩:=hp u hu
    obtain ⟨y,j,e2⟩:=hp v hw
    rw [y7 e1,y7 e2] at z ⊢
    injection z with z
    injection z with z1 z2
    have exy:x=y:=by
      cases x
      cases y
      exact congrArg _ (Array.toList_inj.mp z1)
    have z2:i=j:=z2
    rw [exy,z2]
  obtain ⟨ts',rfl⟩:∃ ts':List Addr,out=ts'.map Value.ref:=by
    have mem:∀ v∈out,∃ a,v=Value.ref a:=fun v hv=>by
      obtain ⟨t,_,rfl⟩:=List.mem_map.mp (po.mem_iff.mp hv)
      exact ⟨t,rfl⟩
    clear po so
    induction out with
    | nil=>exact ⟨[],rfl⟩
    | cons v out ih =>
      obtain ⟨ts',e⟩:=ih fun u hu=>mem u (List.mem_cons_of_mem _ hu)
      obtain ⟨a,rfl⟩:=mem v List.mem_cons_self
      exact ⟨a :: ts',by rw [e]; rfl⟩
  have pt:ts'.Perm ts:=by
    have:=po.map fun v=>match v with
      | Value.ref a=>a
      | _=>0
    rw [List.map_map,List.map_map] at this
    have e:∀ l:List Addr,List.map ((fun v=>match v with
      | Value.ref a=>a
      | _=>0) ∘ Value.ref) l=l:=fun l=>List.map_id l
    rw [e,e] at this
    exact this
  refine wpAny_pure ⟨_,rfl,?_⟩
  obtain ⟨e,he⟩:=sortedHeap_at (out:=(ts'.map Value.ref).toArray) hoL
  refine ⟨.ref h'.objs.size,_,I'.laid (t':=s.toks) (a:=h'.objs.size) (o:=.lst (ts'.map V.ref)) (fun b u hb'=>?_) (Nat.le_refl _) ?_,rfl,q ts' _ pt ?_ (I'.hok.fresh (Nat.le_refl _))⟩
  · rw [sortedHeap_old (Nat.ne_of_lt (Heap.lt_size hb')) (by rw [size_push']; exact Nat.lt_succ_of_lt (Heap.lt_size hb')),Heap.get?_push_ne _ _ _ (Nat.ne_of_lt (Heap.lt_size hb'))]
    exact hb'
  · exact ⟨by rw [List.length_map,pt.length_eq]; lia,ts'.map Value.ref,e,ZQ ts',he⟩
  · refine List.Pairwise.imp_of_mem (fun {u v} hu hw z=>?_) (List.pairwise_map.mp so)
    obtain ⟨k,m,e1,e2,l⟩:=z
    have e1:(prOf H u).map ky=some k:=e1
    have e2:(prOf H v).map ky=some m:=e2
    obtain ⟨k',f1,rfl⟩:=Option.map_eq_some_iff.mp e1
    obtain ⟨m',f2,rfl⟩:=Option.map_eq_some_iff.mp e2
    exact ⟨k',m',f1,f2,l⟩
theorem ZR (hc:X.calm=true):jCa X (.builtin "sorted") Jl:=⟨YH hc⟩
end
theorem jV {ks ls:List (Str × Int)} (p:ks.Perm ls) (S:ks.Pairwise fun a b=>pblt (ky a) (ky b)=true) (T:ls.Pairwise fun a b=>pblt (ky a) (ky b)=true):ks=ls:=by
  refine p.eq_of_pairwise (fun a b _ _ h1 h2=>?_) S T
  have:=(prK fun _=>none).trans _ _ _ h1 h2
  exact absurd (this.symm.trans ((prK fun _=>none).irrefl (ky a))) (by decide)
end L2
namespace GN
open PySem L2 K11
def KyAt (H:Hp) (l:List (Str × Nat)) (ts:List Addr):Prop:=All2 (fun (c:Str × Nat) t=>H t=some (.tup [.str c.1,.int ((c.2:Nat):Int)])) l ts
theorem KyAt.keep {H H':Hp} {l:List (Str × Nat)} {ts:List Addr} (h:KyAt H l ts) (t:Tups H H'):KyAt H' l ts:=All2.imp h fun _ _ e=>t _ _ e
def kI (c:Str × Nat):Str × Int:=(c.1,((c.2:Nat):Int))
theorem zbL {c d:Str × Nat} (h:kI c=kI d):c=d:=by
  obtain ⟨a,b⟩:=Prod.mk.inj h
  exact Prod.ext a (by lia)
theorem KyAt.pr {H:Hp} {l:List (Str × Nat)} {ts:List Addr} (h:KyAt H l ts):ts.map (prOf H)=l.map fun c=>some (kI c):=by
  unfold KyAt at h
  induction h with
  | nil=>rfl
  | cons a b ih =>
    rw [List.map_cons,List.map_cons,ih,y7 a]
    rfl
theorem KyAt.tup {H:Hp} {l:List (Str × Nat)} {ts:List Addr} (h:KyAt H l ts):∀ t∈ts,∃ x i,H t=some (.tup [.str x,.int i]):=by
  unfold KyAt at h
  induction h with
  | nil=>intro t h; cases h
  | cons a b ih =>
    intro t ht
    rcases List.mem_cons.mp ht with rfl | ht
    · exact ⟨_,_,a⟩
    · exact ih t ht
theorem KyAt.ne {H:Hp} {l:List (Str × Nat)} {ts:List Addr} (h:KyAt H l ts) (n:l.Nodup):ts.Pairwise fun u v=>prOf H u≠prOf H v:=by
  have e:=h.pr
  refine List.pairwise_map.mp ?_
  rw [e,List.pairwise_map]
  exact List.Pairwise.imp (fun ne y=>ne (zbL (Option.some.inj y))) n
def SrtAt (H:Hp) (ts:List Addr):Prop:=ts.Pairwise fun u v=>∃ k m,prOf H u=some k/\prOf H v=some m/\pblt (ky k) (ky m)=true
theorem SrtAt.keep {H H':Hp} {ts:List Addr} (h:SrtAt H ts) (t:Tups H H'):SrtAt H' ts:=by
  have g:∀ {u k},prOf H u=some k->prOf H' u=some k:=fun {u k} e=>by
    obtain ⟨x,i⟩:=k
    exact y7 (t _ _ (Xw e))
  exact List.Pairwise.imp (fun ⟨k,m,a,b,c⟩=>⟨k,m,g a,g b,c⟩) h
theorem zbM {H:Hp} {l l':List (Str × Nat)} {ts us ts' us':List Addr} (h1:KyAt H l ts) (h2:KyAt H l' us) (p:l.Perm l') (p1:ts'.Perm ts) (p2:us'.Perm us) (s1:SrtAt H ts') (s2:SrtAt H us') {x y:Addr} (hx:H x=some (.lst (ts'.map V.ref))) (hy:H y=some (.lst (us'.map V.ref))):Sme 3 H (.ref x) (.ref y):=by
  obtain ⟨g,eg⟩:∃ g:Addr->Str × Int,g=fun t=>(prOf H t).getD ("",0):=⟨_,rfl⟩
  have gs:∀ {t k},prOf H t=some k->g t=k:=fun {t k} e=>by rw [eg]; show (prOf H t).getD _=k; rw [e]; rfl
  have S:∀ {ts:List Addr},SrtAt H ts->(ts.map g).Pairwise fun a b=>pblt (ky a) (ky b)=true:=fun {ts} s=>by
    rw [List.pairwise_map]
    refine List.Pairwise.imp (fun ⟨k,m,a,b,c⟩=>?_) s
    rw [gs a,gs b]
    exact c
  have M:∀ {l:List (Str × Nat)} {ts:List Addr},KyAt H l ts->ts.map g=l.map kI:=fun {l ts} h=>by
    have e:=congrArg (List.map fun o:Option (Str × Int)=>o.getD ("",0)) h.pr
    rw [List.map_map,List.map_map] at e
    rw [eg]
    exact e
  have e:ts'.map g=us'.map g:=by
    refine jV ?_ (S s1) (S s2)
    refine ((p1.map g).trans ?_).trans (p2.map g).symm
    rw [M h1,M h2]
    exact p.map kI
  have hl:ts'.length=us'.length:=by
    have:=congrArg List.length e
    rwa [List.length_map,List.length_map] at this
  refine .inr ⟨x,y,_,_,rfl,rfl,.inl ⟨hx,hy⟩,by rw [List.length_map,List.length_map,hl],fun i u v hu hv=>?_⟩
  rw [List.getElem?_map] at hu hv
  obtain ⟨t,ht,rfl⟩:=Option.map_eq_some_iff.mp hu
  obtain ⟨t',ht',rfl⟩:=Option.map_eq_some_iff.mp hv
  obtain ⟨z1,i1,a1⟩:=h1.tup t (p1.mem_iff.mp (List.mem_of_getElem? ht))
  obtain ⟨z2,i2,a2⟩:=h2.tup t' (p2.mem_iff.mp (List.mem_of_getElem? ht'))
  have ei:=congrArg (fun l=>l[i]?) e
  rw [List.getElem?_map,List.getElem?_map,ht,ht'] at ei
  have ei:g t=g t':=Option.some.inj ei
  rw [gs (y7 a1),gs (y7 a2)] at ei
  obtain ⟨rfl,rfl⟩:=Prod.mk.inj ei
  refine .inr ⟨t,t',_,_,rfl,rfl,.inr ⟨a1,a2⟩,rfl,fun j u v hu hv=>?_⟩
  rw [hu] at hv
  cases hv
  match j,hu with
  | 0,hu=>cases hu; exact .inl ⟨rfl,rfl⟩
  | 1,hu=>cases hu; exact .inl ⟨rfl,rfl⟩
theorem Ch.fw_b {c:Ch} {b:Nat}:∀ k,({c with b:=b}:Ch).fw k=c.fw k
  | 0=>rfl
  | k + 1=>by
    show ({c with b:=b}:Ch).fw k + c.t k=c.fw k + c.t k
    rw [Ch.fw_b k]
theorem Ch.due_len {c:Ch} (o:c.Ok) (d:Df):(c.due d).length<=9:=by
  unfold Ch.due
  split
  · rw [List.length_map,List.length_range]; exact o.b
  · rw [List.length_map,List.length_range]; exact o.w9
end GN
namespace L2
open PySem PySem.Spec PyProof.Rows
theorem YI {P:Program} {w:World} {K:PySem.W.Frag} {mg mb:Str->Option Value} {CX:CXT} {k:Nat} {fa a:Addr} {Ts:List Addr} {fd:FuncData} {x:Str} {sp:Sp} {s₁:Shared} {vs:List Value} {ns:List Int}
    (KX:K.In s₁.heap) (hT:∀ T∈Ts,s₁.heap.get? T=some { cls:=.none,data:=.fields #[] }) (hTK:∀ T∈Ts,K.lookup T=none) (hTc:∀ T∈Ts,isCodeTable s₁.heap T) (hns:s₁.heap.Ns mainGlobals mg) (hb:s₁.heap.Ns builtinsNs mb) (hbb:∀ x:Str,x≠"__name__"->mb x=bootBuiltins x) (hlim:s₁.heap.NoLimit) (hBM:BMn mg s₁.heap) (hg:s₁.gens=#[])
    (ha:s₁.heap.get? a=some { cls:=.type "list",data:=.seq vs.toArray }) (hi:IntsAre vs ns) (hl:ns.length<=sizeLine) (hr:Room k callerA)
    (F:∀ base:Heap,K.In base->base.Ns mainGlobals mg->BMn mg base->FnOk P w K mg base CX k fa fd [x] sp) (hbind:∀ (s:Shared) (u:Value),BindsTo s fd ⟨[u],[]⟩ [(x,u)])
    (hsp:∀ H:Hp,(∀ T∈Ts,H T=some (.tbl #[]))->SqL K H a (ns.map V.int)->sp [.ref a] H (fun v _=>v=.bl true) fun _ _ _=>False)
    (hCX:∀ H e s',CX [] H s₁ (fun _ _ _=>False) e s'->False) :
    codeAny (model P w) callerA (.call (.ref fa) ⟨[.ref a],[]⟩) (fun r s'=>r=.ok (.ret (.bool true))/\OldK s₁.heap s'.heap/\s'.os=s₁.os/\AllBare s'.gens) s₁:=by
  have rv:=vR hi
  have lenV:=hi.length
  have nTa:a ∉ Ts:=fun e=>by rw [hT a e] at ha; cases ha
  have core:∀ H:Hp,(∀ b,H b=none\/(∃ o xs,H b=some (.frz o (.lst xs)))\/(b∈Ts/\H b=some (.tbl #[])))->(∀ T∈Ts,H T=some (.tbl #[]))->SqL K H a (ns.map V.int)->HOk P w H s₁.heap->(∀ b,H b≠none->b=a\/b∈Ts)->(H a≠none->K.lookup a=none) ->
      codeAny (model P w) callerA (.call (.ref fa) ⟨[.ref a],[]⟩) (fun r s'=>r=.ok (.ret (.bool true))/\OldK s₁.heap s'.heap/\s'.os=s₁.os/\AllBare s'.gens) s₁:=by
    intro H hO hHT hS hok hA hK
    have base_of:∀ {b:Addr} {o:Obj},s₁.heap.get? b=some o->H b=none->(hidT s₁.heap H).get? b=some o:=fun e n=>Wf e n
    have noA:∀ {b:Addr} {o:Obj} {es:Array DictEntry} {ep:Nat},s₁.heap.get? b=some o->o.data=.dict es ep->H b=none:=fun {b o es ep} e d=>by
      cases q:H b with
      | none=>rfl
      | some u =>
        rcases hA b (by rw [q]; simp) with e' | e'
        · subst e'
          rw [ha] at e; cases e
          have d':Data.seq vs.toArray _=Data.dict es ep:=d
          cases d'
        · rw [hT b e'] at e; cases e
          have d':Data.fields #[]=Data.dict es ep:=d
          cases d'
    have nsK:∀ {b:Addr} {m:Str->Option Value},s₁.heap.Ns b m->(hidT s₁.heap H).Ns b m:=fun {b m} ⟨o,es,ep,e,d,r⟩=>⟨o,es,ep,base_of e (noA e d),d,r⟩
    have hBb:BMn mg (hidT s₁.heap H):=by
      obtain ⟨bm,ob,b1,b2,b3,b4,b5,b6⟩:=hBM
      refine ⟨bm,ob,b1,b2,base_of b3 ?_,b4,b5,b6⟩
      cases q:H bm with
      | none=>rfl
      | some u =>
        rcases hA bm (by rw [q]; simp) with e' | e'
        · subst e'
          rw [ha] at b3; cases b3; cases b6
        · rw [hT bm e'] at b3; cases b3; cases b6
    have hKb:K.In (hidT s₁.heap H):=fun b o e=>base_of (KX b o e) (by
      cases q:H b with
      | none=>rfl
      | some u =>
        rcases hA b (by rw [q]; simp) with e' | e'
        · subst e'
          rw [hK (by rw [q]; simp)] at e; cases e
        · rw [hTK b e'] at e; cases e)
    have hM:Mod K mg (hidT s₁.heap H):=⟨hKb,nsK hns,⟨mb,nsK hb,hbb⟩,let ⟨mc,h1,h2⟩:=hlim; ⟨mc,nsK h1,h2⟩⟩
    have e0:Env0 P w K mg (hidT s₁.heap H) callerA [] s₁ H:=⟨rfl,hM,fun b o e=>Jo e,Nat.le_of_eq (Xz _ _),trivial,fun b hb=>absurd (show b∈([]:List Addr) from hb) (by simp),hok,.of_eq hg⟩
    refine codeAny_mono ((F _ hKb (nsK hns) hBb).run callerA [] s₁ H ⟨[.ref a],[]⟩ [.ref a] [.ref a] _ _ hr e0 (hbind s₁ (.ref a)) (.cons rfl .nil) (hsp H hHT hS)) fun r s' h=>?_
    cases r with
    | error e=>exact (hCX H e s' h).elim
    | ok fl =>
      cases fl with
      | next=>exact False.elim h
      | brk=>exact False.elim h
      | cont=>exact False.elim h
      | ret u =>
        obtain ⟨v,H',os,bare,un,hok',r',q⟩:=h
        have q':v=.bl true:=q
        subst q'
        obtain rfl:u=Value.bool true:=r'
        refine ⟨rfl,⟨fun b o e=>?_,fun b o e=>un.there b o e (by simp)⟩,os,bare⟩
        cases q:H b with
        | none=>exact .inl (un.keep b o e q (by intro z; exact absurd (show b∈([]:List Addr) from z) (by simp)) (by simp))
        | some u =>
          rcases hO b with z | ⟨ob,xs,z⟩ | ⟨zm,z⟩
          · rw [q] at z; cases z
          · have z2:=un.frzs b ob _ z
            obtain ⟨e1,_⟩:=hok b _ z
            obtain ⟨e2,_⟩:=hok' b _ z2
            rw [e] at e1; cases e1
            exact .inl e2
          · obtain ⟨more,z2⟩:=un.tbls b _ z
            have e2:s'.heap.get? b=some { cls:=.none,data:=.fields (#[] ++ more) }:=hok' b _ z2
            rw [hT b zm] at e; cases e
            exact .inr (.inl ⟨hTc b zm,rfl,#[],more,rfl,e2⟩)
  cases hk:K.lookup a with
  | some o =>
    have e:=KX a o hk
    rw [ha] at e
    cases e
    refine core (fun b=>if b∈Ts then some (.tbl #[]) else none) (fun b=>?_) (fun T hT=>if_pos hT) (.inr ⟨_,vs.toArray,_,hk,rfl,rfl,rfl,by rw [List.size_toArray,lenV]; exact hl,by simpa using rv⟩) (fun b u z=>?_) (fun b z=>?_) fun z=>absurd (if_neg nTa) z
    · by_cases hb:b∈Ts
      · exact .inr (.inr ⟨hb,if_pos hb⟩)
      · exact .inl (if_neg hb)
    · by_cases hb:b∈Ts
      · have z':=(if_pos hb).symm.trans z
        cases z'
        exact hT b hb
      · have z':=(if_neg hb).symm.trans z
        cases z'
    · by_cases hb:b∈Ts
      · exact .inr hb
      · exact absurd (if_neg hb) z
  | none =>
    refine core (fun b=>if b∈Ts then some (.tbl #[]) else if b=a then some (.frz { cls:=.type "list",data:=.seq vs.toArray } (.lst (ns.map V.int))) else none) (fun b=>?_) (fun T hT=>if_pos hT) (.inl (.inr ⟨{ cls:=.type "list",data:=.seq vs.toArray },(if_neg nTa).trans (if_pos rfl)⟩)) (fun b u z=>?_) (fun b z=>?_) fun _=>hk
    · by_cases hb:b∈Ts
      · exact .inr (.inr ⟨hb,if_pos hb⟩)
      · by_cases hb2:b=a
        · exact .inr (.inl ⟨_,_,(if_neg hb).trans (if_pos hb2)⟩)
        · exact .inl ((if_neg hb).trans (if_neg hb2))
    · by_cases hb:b∈Ts
      · have z':=(if_pos hb).symm.trans z
        cases z'
        exact hT b hb
      · by_cases hb2:b=a
        · have z':some (HO.frz { cls:=.type "list",data:=.seq vs.toArray } (.lst (ns.map V.int)))=some u:=((if_neg hb).trans (if_pos hb2)).symm.trans z
          cases z'
          subst hb2
          exact ⟨ha,by rw [List.length_map]; exact hl,vs,_,rv,ha⟩
        · have z':none=some u:=((if_neg hb).trans (if_neg hb2)).symm.trans z
          cases z'
    · by_cases hb:b∈Ts
      · exact .inr hb
      · by_cases hb2:b=a
        · exact .inl hb2
        · exact absurd ((if_neg hb).trans (if_neg hb2)) z
def xZ (K:PySem.W.Frag) (Ts:List Addr):Sp:=fun vs H Q _=>∃ (a:Addr) (ns:List Int),vs=[.ref a]/\SqL K H a (ns.map V.int)/\ns.length<=63/\(∀ T∈Ts,H T=some (.tbl #[]))/\∀ H',Q (.bl true) H'
theorem Jm {l:PySem.W.OpenLaw} {w:World} {K:PySem.W.Frag} {h:Heap} {mg:Str->Option Value} {fa:Addr} {Ts:List Addr} {st:Stmt} {k:Nat} (d:DfIn K "law" st) (X:K.In h) (G:h.Ns mainGlobals mg) (hfa:mg "law"=some (.ref fa))
    (hb:∀ (kV doc pm:Value) (an:Option Addr) (cdv ct:Value) (s:Shared) (u:Value),BindsTo s (PySem.W.fnOf "law" "law" (zN st) (zF st) (zn st) .none kV doc pm an cdv ct) ⟨[u],[]⟩ [("_law_script",u)])
    (ok:∀ (base:Heap) (fd:FuncData),BMn mg base->Fun K "law" "law" st fa fd->FnOk l.prog w K mg base CX0 k fa fd ["_law_script"] (xZ K Ts)) :
    ∃ fd:FuncData,(∀ (s:Shared) (u:Value),BindsTo s fd ⟨[u],[]⟩ [("_law_script",u)])/\∀ base:Heap,K.In base->base.Ns mainGlobals mg->BMn mg base->FnOk l.prog w K mg base CX0 k fa fd ["_law_script"] (xZ K Ts):=by
  obtain ⟨fl,al,oc,od,kV,doc,pm,an,cdv,ct,osl,lk,cc,kk⟩:=d
  have e:fl=fa:=by
    have:=PySem.W.mg_of X G al
    rw [hfa] at this
    injection this with this
    injection this with this
    exact this.symm
  subst e
  exact ⟨_,fun s v=>hb _ _ _ _ _ _ s v,fun base _ _ B=>ok base _ B (WB (st:=st) lk cc kk)⟩
theorem walkTs {l:PySem.W.OpenLaw} {q:Program} {loose:List Str} {XP:(Str->Option Value)->Heap->Prop} {d:DefRec} {K:Params->PySem.W.Frag} {as:List Addr} {e:∀ p,as=(K p).map (·.1)} {Ts:List Addr} {k:Nat} (hn:l.most=some 63) (hr:Room k callerA) (hdf:d.params.defaults=[]) (hnm:d.name="law")
    (hc:∀ p,∀ T∈Ts,∃ c,PySem.W.codeHdIn (K p) c T=true) (hTK:∀ p,∀ T∈Ts,(K p).lookup T=none)
    (F:∀ (w:World) (mg:Str->Option Value) (fa:Addr) (h:Heap),(K w.params).In h->h.Ns mainGlobals mg->mg "law"=some (.ref fa)->∃ fd:FuncData,(∀ (s:Shared) (u:Value),BindsTo s fd ⟨[u],[]⟩ [("_law_script",u)])/\∀ base:Heap,(K w.params).In base->base.Ns mainGlobals mg->BMn mg base->FnOk l.prog w (K w.params) mg base CX0 k fa fd ["_law_script"] (xZ (K w.params) Ts)) :
    PySem.W.WalkO q loose XP (PySem.W.kmHook K as e Ts).says l.row.toRowW d [] (fun f vs=>PySem.call f vs):=by
  refine Att.attach_call hn hdf fun w s₀ s₁ mg mb fa o pm cd doc a vs ns G Y ho hd hcd hmg hobj hints hlen hg=>?_
  have KX:=PySem.W.km_in_of Y
  have hT:∀ T∈Ts,_:=fun T hm=>PySem.W.km_tabs_of Y T hm
  obtain ⟨fd,hb,hF⟩:=F w mg fa _ KX G.T.g (by rw [hnm] at hmg; exact hmg)
  have hTc:∀ T∈Ts,isCodeTable s₁.heap T:=fun T hm=>by
    obtain ⟨c,hc⟩:=hc w.params T hm
    obtain ⟨o1,vs1,_,_,_,_,_,_,_,c1,c2,c3,c4,_⟩:=PySem.W.codeHd_of_K KX hc
    exact ⟨c,o1,vs1,c1,c2,c3,c4⟩
  exact YI KX hT (hTK w.params) hTc G.T.g G.T.b G.T.builtins G.T.nolimit G.T.bmain hg hobj hints (Nat.le_trans hlen (by decide)) hr hF hb (fun H hO hS=>⟨a,ns,rfl,hS,hlen,hO,fun _=>rfl⟩) fun _ _ _ z=>z
end L2
namespace GN
open PySem L2 K11
theorem Tbs.kp {T1 T2 st B:Addr} {K:PySem.W.Frag} {H H':Hp} (h:Tbs T1 T2 H) (S:Sta K H st B) (k:Kp st H H'):Tbs T1 T2 H':=by
  obtain ⟨a,ns,i,hst,_⟩:=S
  have n:∀ {b:Addr} {u:HO},H b=some u->(∀ xs,u≠.lst xs)->H' b=some u:=fun {b u} e n=>k.k b u (fun z=>by rw [z,hst] at e; exact n _ (Option.some.inj e).symm) e
  exact ⟨h.t1.keep (fun ps e=>n e (by intro _ z; cases z)) fun c q e=>n e (by intro _ z; unfold CodO at z; cases z),h.t2.keep (fun ps e=>n e (by intro _ z; cases z)) fun c q e=>n e (by intro _ z; unfold CodO at z; cases z)⟩
theorem We (l:List Str):(l.map V.str).all yF=true:=by
  rw [List.all_map]
  exact List.all_eq_true.mpr fun _ _=>rfl
theorem FoAt.keys {H:Hp} {F:Df->List Bool} {dfs:List Df} {kvs:List (Key × V)} (h:FoAt H F dfs kvs):kvs.map (fun kv=>kV kv.1)=(dfs.map (·.z)).map V.str:=by
  unfold FoAt at h
  induction h with
  | nil=>rfl
  | cons a b ih=>rw [List.map_cons,List.map_cons,List.map_cons,ih,a.1]; rfl
theorem FoAt.at {H:Hp} {F:Df->List Bool} {dfs:List Df} {kvs:List (Key × V)} (h:FoAt H F dfs kvs) (n:(dfs.map (·.z)).Nodup) {i:Nat} {d:Df} (e:dfs[i]?=some d):∃ t,valV kvs (.inr d.z)=some (.ref t)/\H t=some (.tup ((F d).map V.bl)):=by
  unfold FoAt at h
  induction h generalizing i with
  | nil=>simp at e
  | @cons d' kv l m a b ih =>
    obtain ⟨k,v⟩:=kv
    obtain ⟨a1,t,a2,a3⟩:=a
    have a1:k=.inr d'.z:=a1
    have a2:v=.ref t:=a2
    subst a1 a2
    rw [List.map_cons,List.nodup_cons] at n
    cases i with
    | zero =>
      have:d'=d:=by simpa using e
      subst this
      exact ⟨t,zT rfl,a3⟩
    | succ i =>
      have e:l[i]?=some d:=by simpa using e
      have ne:¬ (Sum.inr d'.z:Key)=.inr d.z:=fun y=>n.1 (by rw [Sum.inr.inj y]; exact List.mem_map.mpr ⟨d,List.mem_of_getElem? e,rfl⟩)
      obtain ⟨t',h1,h2⟩:=ih n.2 e
      exact ⟨t',by rw [zQ ne]; exact h1,h2⟩
theorem FoAt.alike {H:Hp} {F:Df->List Bool} {dfs:List Df} {kvs kvs':List (Key × V)} (h:FoAt H F dfs kvs) (h':FoAt H F dfs kvs') (n:(dfs.map (·.z)).Nodup):kvs.length=kvs'.length/\∀ k v,(k,v)∈kvs->∃ v',valV kvs' k=some v'/\Sme 2 H v v':=by
  refine ⟨(All2.len h).symm.trans (All2.len h'),fun k v hm=>?_⟩
  obtain ⟨i,hi⟩:=List.mem_iff_getElem?.mp hm
  obtain ⟨d,hd,a1,t,a2,a3⟩:=All2.get h hi
  obtain ⟨t',b1,b2⟩:=h'.at n hd
  have a1:k=.inr d.z:=a1
  have a2:v=.ref t:=a2
  subst a1 a2
  refine ⟨_,b1,.inr ⟨t,t',_,_,rfl,rfl,.inr ⟨a3,b2⟩,rfl,fun i u v hu hv=>?_⟩⟩
  rw [hu] at hv
  cases hv
  rw [List.getElem?_map] at hu
  obtain ⟨c,_,rfl⟩:=Option.map_eq_some_iff.mp hu
  exact .inl ⟨rfl,rfl⟩
theorem xy {α β:Type} {R S:α->β->Prop} {l:List α} {m:List β} (h:All2 R l m) (g:∀ a∈l,∀ b,R a b->S a b):All2 S l m:=by
  induction h with
  | nil=>exact .nil
  | cons a b ih=>exact .cons (g _ List.mem_cons_self _ a) (ih fun x hx=>g x (List.mem_cons_of_mem _ hx))
def DuAt (H:Hp) (F:Df->List Bool) (dfs:List Df) (ts:List Addr):Prop:=All2 (fun (d:Df) t=>∃ q,H t=some (.tup [.str d.z,.ref q])/\H q=some (.tup ((F d).map V.bl))) dfs ts
theorem DuAt.keep {H H':Hp} {F:Df->List Bool} {dfs:List Df} {ts:List Addr} (h:DuAt H F dfs ts) (t:Tups H H'):DuAt H' F dfs ts:=All2.imp h fun _ _ ⟨q,a,b⟩=>⟨q,t _ _ a,t _ _ b⟩
theorem DuAt.fo {H:Hp} {F:Df->List Bool} {dfs:List Df} {ts:List Addr} (h:DuAt H F dfs ts):∃ kvs,Prs H kvs ts/\FoAt H F dfs kvs/\kvs.map (·.1)=dfs.map fun d=>Sum.inr d.z:=by
  unfold DuAt at h
  induction h with
  | nil=>exact ⟨[],.nil,.nil,rfl⟩
  | @cons d t l m a b ih =>
    obtain ⟨q,a1,a2⟩:=a
    obtain ⟨kvs,h1,h2,h3⟩:=ih
    exact ⟨(.inr d.z,.ref q) :: kvs,.cons a1 h1,.cons ⟨rfl,q,rfl,a2⟩ h2,by rw [List.map_cons,List.map_cons,h3]⟩
theorem QT {b:Bool} {σ:L2.St} {H:Hp} {u:TT} {T:TS} {D:Ends} (R:Hp->Prop) (C:L2.St->Hp->Prop) (h0:R H) (hu:b=false->∀ k:Bool->Hp->Prop,(∀ c H',R H'->k c H')->u σ H k) (hT:∀ H',R H'->∀ D':Ends,(∀ σ' H',C σ' H'->D'.nx σ' H')->T D' σ H') (hN:b=false->∀ H',R H'->C σ H') (hD:∀ σ' H',C σ' H'->D.nx σ' H') :
    if b=true then (if true=true then T D σ H else vK D σ H) else u σ H (fun c H'=>if c=true then T D σ H' else vK D σ H'):=by
  cases b
  · refine iteF (hu rfl _ fun c H' r=>?_)
    cases c
    · exact iteF (nxtC (hD _ _ (hN rfl _ r)))
    · exact iteT (hT _ r D hD)
  · exact iteT (iteT (hT _ h0 D hD))
theorem Ch.due_rs {c:Ch} {r:Nat} (m9:c.m<=59) {d:Df} (h:d∈c.rs r):c.due d=(List.range c.w).map fun _=>decide (c.e < 2):=by
  obtain ⟨k,hk,rfl⟩:=Ch.rs_in.mp h
  unfold Ch.due
  exact if_neg fun h=>by
    have:=Ch.nm_inj (c:=c) (j:=k) (k:=99) (by lia) (by decide) h
    lia
section
variable {P:Program} {w:World} {K:PySem.W.Frag} {mg:Str->Option Value} {base:Heap} {f:Addr} {fd:FuncData}
theorem scLaw:FnScope ["_law_script","_law_state","_law_stem","_law_wide","_law_many","_law_end","_law_beside","_law_defs","_law_due","_law_params","_law_all_held","_law_program","_law_found","_law_spots","_law_name_here","_law_truths","_law_rows"] ["_law_script"] (zn sLaw):=.ok
theorem jX:(["_law_script","_law_state","_law_stem","_law_wide","_law_many","_law_end","_law_beside","_law_defs","_law_due","_law_params","_law_all_held","_law_program","_law_found","_law_spots","_law_name_here","_law_truths","_law_rows","_law_k"]:List Str).Nodup:=by decide +kernel
theorem Jn:(["_law_script","_law_state","_law_stem","_law_wide","_law_many","_law_end","_law_beside","_law_defs","_law_due","_law_params","_law_all_held","_law_program","_law_found","_law_spots","_law_name_here","_law_truths","_law_rows","_law_one"]:List Str).Nodup:=by decide +kernel
theorem QU:(["_law_script","_law_state","_law_stem","_law_wide","_law_many","_law_end","_law_beside","_law_defs","_law_due","_law_params","_law_all_held","_law_program","_law_found","_law_spots","_law_name_here","_law_truths","_law_rows","_law_one","_law_k"]:List Str).Nodup:=by decide +kernel
theorem zbN:(["_law_script","_law_state","_law_stem","_law_wide","_law_many","_law_end","_law_beside","_law_defs","_law_due","_law_params","_law_all_held","_law_program","_law_found","_law_spots","_law_name_here","_law_truths","_law_rows","_law_row"]:List Str).Nodup:=by decide +kernel
theorem zbO {T1 T2:Addr} (F:Fun K "law" "law" sLaw f fd) (GD:Ca P w K mg base CX0 1 "_law_draw" lS8 (Yk K)) (GN':Ca P w K mg base CX0 1 "_law_name" lS6 ZD) (GC:Ca P w K mg base CX0 3 "_law_chain" lS1 (Xq K)) (GR:Ca P w K mg base CX0 12 "reasons" ["program"] (wu T1 T2)) (GO:Ca P w K mg base CX0 13 "owners" ["program"] (Zz T1 T2)) (m_range:mg "range"=none) (m_len:mg "len"=none) (m_list:mg "list"=none) (m_tuple:mg "tuple"=none) (m_dict:mg "dict"=none) (m_sorted:mg "sorted"=none):FnOk P w K mg base CX0 14 f fd ["_law_script"] (xZ K [T2,T1]):=by
  refine F.by scLaw (fun vs H Q E h=>?_) (fun cdv A outer s H vs Q E hr h=>?_)
  · obtain ⟨a,ns,rfl,_⟩:=h
    rfl
  obtain ⟨a,ns,rfl,hS,h63,hTs,q⟩:=h
  have hr1:Room 1 _:=hr.mono (by decide)
  have hr3:Room 3 _:=hr.mono (by decide)
  have hr12:Room 12 _:=hr.mono (by decide)
  refine ⟨_,
    (zh (sE 1 scLaw.nd (yc (jA2 (jv 0) zo)))
    (zh (sE 2 scLaw.nd (y9 PySem.F.plainAttrs_str PySem.F.slot_str_join PySem.F.type_str_join JX zr (jA1 (z0 ["_law_k"] rfl (zM rfl m_range (jA1 (cA GD hr1 (jA2 (jv 1) zo)))) (fun _ _ _ _ _=>(gN 17 jX)) (fun _ _ _ _ _=>zO) (fun _ _ _ _ _=>(xX Ye zr (cA GD hr1 (jA2 (jv 1) zo))))))))
    (zh (sE 3 scLaw.nd (zA ye zo (cA GD hr1 (jA2 (jv 1) zo))))
    (zh (sE 4 scLaw.nd (cA GD hr1 (jA2 (jv 1) (zA ye (zA YW zo (jv 3)) zo))))
    (zh (sE 5 scLaw.nd (cA GD hr1 (jA2 (jv 1) zo)))
    (zh (sE 6 scLaw.nd (zA ye zo (cA GD hr1 (jA2 (jv 1) zo))))
    (zh (sE 7 scLaw.nd (cA GC hr3 (jA6 (jv 1) (jv 2) (jv 3) (jv 4) (jv 5) (cA GD hr1 (jA2 (jv 1) (jv 6))))))
    (zh (jq ["_law_one"] (i:=8) scLaw.nd rfl (Or.inl rfl) rfl (yi (jv 7)) (fun _ _ _ _ _=>(gN 17 Jn)) (fun _ _ _ _ _=>zO) (fun _ _ _ _ _=>(zq (jA2 (yy (yt K) (jv 17) zo (fun _ _=>rfl)) (yn (ju K) rfl m_tuple PyProof.Rows.boot_tuple (jA1 (z0 ["_law_k"] rfl (zM rfl m_range (jA1 (jv 3))) (fun _ _ _ _ _=>(gN 18 QU)) (fun _ _ _ _ _=>zO) (fun _ _ _ _ _=>(yG YX (jv 5) zo (yX _))))))))))
    (zh (zI (jW.pt (WF (tN zR (jv 5) zo) (Ya (tN zR (cA GD hr1 (jA2 (jv 1) zo)) zo))))
      (zh (sE 9 scLaw.nd (yn zP rfl m_tuple PyProof.Rows.boot_tuple (jA1 (z0 ["_law_k"] rfl (zM rfl m_range (jA1 (jv 6))) (fun _ _ _ _ _=>(gN 17 jX)) (fun _ _ _ _ _=>zO) (fun _ _ _ _ _=>(cA GN' hr1 (jA2 (jv 2) (zA ye zo (jv 17)))))))))
      (zh (zG (y9 PySem.F.plainAttrs_list PySem.F.slot_list_append PySem.F.type_list_append zY (jv 7) (jA1 (zq (jA3 (cA GN' hr1 (jA2 (jv 2) zo)) (jv 9) (zq (jA2 zr (yy (yt K) (jv 9) zo (fun _ _=>rfl)))))))))
      (zh (sE 10 scLaw.nd (Yc (yG zR (jv 5) zo (yX _)) (Yb (yG WI (jv 4) zo (yX _)))))
      (zj (zG (y9 PySem.F.plainAttrs_list PySem.F.slot_list_append PySem.F.type_list_append zY (jv 8) (jA1 (zq (jA2 (cA GN' hr1 (jA2 (jv 2) zo)) (yn zP rfl m_tuple PyProof.Rows.boot_tuple (jA1 (z0 ["_law_k"] rfl (zM rfl m_range (jA1 (jv 6))) (fun _ _ _ _ _=>(gN 17 jX)) (fun _ _ _ _ _=>zO) (fun _ _ _ _ _=>(zb1 (jv 10) (Yb (yG zR (jv 17) zo (yX _)))))))))))))))))  zw)
    (zh (sE 11 scLaw.nd (zq (jA2 (zq zS) (yn zP rfl m_tuple PyProof.Rows.boot_tuple (jA1 (jv 7))))))
    (zh (sE 12 scLaw.nd (cA GO hr (jA1 (jv 11))))
    (zh (zI (jW.pt (WF (tN (za7 hr1) (yn (jF rfl) rfl m_list PyProof.Rows.boot_list (jA1 (jv 12))) (z0 ["_law_one"] rfl (yi (jv 8)) (fun _ _ _ _ _=>(gN 17 Jn)) (fun _ _ _ _ _=>zO) (fun _ _ _ _ _=>(yy (yt K) (jv 17) zo (fun _ _=>rfl))))) (Ya (tN (QN (n:=2) (by decide) hr1) (jv 12) (yn (vI rfl) rfl m_dict PyProof.Rows.boot_dict (jA1 (jv 8)))))))
      (zj (zu wV))  zw)
    (zh (sE 13 scLaw.nd (yc zS))
    (zh (yd PassesOwn.never rfl (yi (jv 8)) (jo rfl (yw (gN 14 scLaw.nd) (yw (gN 15 scLaw.nd) wK)))
      (zj (zG (y9 PySem.F.plainAttrs_list PySem.F.slot_list_extend PySem.F.type_list_extend XO (jv 13) (jA1 (z0 ["_law_k"] rfl (zM rfl m_range (jA1 (jL m_len (jv 15)))) (fun _ _ _ _ _=>(gN 17 jX)) (fun _ _ _ _ _=>(JU (Z8 (xX (yt K) (jv 15) (jv 17))))) (fun _ _ _ _ _=>(zq (jA2 (jv 14) (jv 17))))))))))
    (zh (jq ["_law_row"] (i:=16) scLaw.nd rfl (Or.inl rfl) rfl (yi (cA GR hr12 (jA1 (jv 11)))) (fun _ _ _ _ _=>(gN 17 zbN)) (fun _ _ _ _ _=>zO) (fun _ _ _ _ _=>(yv Y9 (jv 17) yH (yI zo))))
    (zj (zu (yG (zbK (n:=3) (by decide) hr1) (x9 (ZR rfl) rfl m_sorted PyProof.Rows.boot_sorted (jA1 (jv 16))) (x9 (ZR rfl) rfl m_sorted PyProof.Rows.boot_sorted (jA1 (jv 13))) (yX _))))))))))))))))))),?_⟩
  have sl:=zW
  have LM:LIM=4611686018427387904:=rfl
  refine ⟨_,rfl,sN2,fun st h1=>?_⟩
  have S1:Sta K (upd H st (.lst [.ref a,.int ((0:Nat):Int)])) st 0:=by
    refine ⟨a,ns,0,zf,fun e=>?_,(zk h1 _).seq hS,Nat.le_refl _⟩
    rcases hS with (h | ⟨o,h⟩) | h
    · exact absurd e (zi h h1)
    · exact absurd e (zi h h1)
    · exact fun _=>.inr h
  have T1':Tbs T1 T2 (upd H st (.lst [.ref a,.int ((0:Nat):Int)])):=⟨.empty (old h1 (hTs T1 (.tail _ (.head _)))),.empty (old h1 (hTs T2 (.head _)))⟩
  show (tSeq _ _:TS) _ _ (upd H st (.lst [.ref a,.int ((0:Nat):Int)]))
  generalize upd H st (.lst [.ref a,.int ((0:Nat):Int)])=H1 at *
  refine ⟨rfl,_,rfl,st,9,0,rfl,S1,by lia,by decide,fun H2 r k2 S2 r0 r1=>?_⟩
  refine ⟨_,rfl,by lia,by lia,yg (n:=r.toNat) (fun i τ ys H'=>Kp st H1 H'/\Sta K H' st (1 + i)/\(∃ x,τ=[some (.ref a),some (.ref st),none,none,none,none,none,none,none,none,none,none,none,none,none,none,none,x])/\∃ zs:List Str,ys=zs.map V.str/\zs.length=i/\∀ z∈zs,z.length=1) ⟨k2,S2,⟨none,rfl⟩,[],rfl,rfl,fun z hz=>by cases hz⟩ ?_ ?_⟩
  · rintro i τ ys H3 hi ⟨k3,S3,⟨x,rfl⟩,zs,rfl,hl,h1⟩
    refine ⟨_,rfl,st,26,1 + i,rfl,S3,by lia,by decide,fun H4 r4 k4 S4 q0 q1=>?_⟩
    refine ⟨LET,_,_,rfl,rfl,by rw [jC]; decide,jB q0 q1,by rw [List.length_map]; lia,k3.trans k4,S4,⟨_,rfl⟩,zs ++ [⟨#[97 + r4.toNat]⟩],by simp,by simp [hl],?_⟩
    intro z hz
    rcases List.mem_append.mp hz with hz | hz
    · exact h1 z hz
    · rw [List.mem_singleton.mp hz]
      rfl
  rintro τ ys H3 ⟨k3,S3,_,zs,rfl,hl,h1⟩ pj hpj
  refine ⟨"",pj,zs,rfl,rfl,SqL.of zf,by rw [Vc h1]; lia,?_⟩
  have zl:(Str.join "" zs).length<=10:=by rw [Ze h1]; lia
  replace k3:=k3.new (o:=.lst (zs.map V.str)) hpj
  replace S3:=(S3.mono (show _<=9 by lia)).new hpj (.lst (zs.map V.str))
  generalize upd H3 pj (.lst (zs.map V.str))=H4 at *
  generalize Str.join "" zs=z at *
  clear k2 S2 hpj h1 hl
  refine ⟨_,rfl,st,9,9,rfl,S3,by lia,by decide,fun H5 r5 k5 S5 a5 b5=>⟨_,_,rfl,rfl,?_⟩⟩
  obtain ⟨wd,hwd⟩:∃ wd:Nat,1 + r5=(wd:Int):=⟨(1 + r5).toNat,by lia⟩
  show yB 3 (V.int (1 + r5)) _ _ _
  rw [hwd]
  have w0:0 < wd:=by lia
  have w9:wd<=9:=by lia
  refine ⟨_,rfl,_,rfl,_,_,rfl,rfl,⟨by lia,by lia⟩,_,_,rfl,rfl,st,(59:Int) / (wd:Int) + 1,10,rfl,S5,by lia,?_,fun H6 r6 k6 S6 a6 b6=>?_⟩
  · have:0<=(59:Int) / (wd:Int):=Int.ediv_nonneg (by decide) (by lia)
    lia
  obtain ⟨m,rfl⟩:=Int.eq_ofNat_of_zero_le a6
  have hmw:m * wd<=59:=by
    refine (Nat.le_div_iff_mul_le w0).mp ?_
    have:(59:Int) / (wd:Int)=((59 / wd:Nat):Int):=rfl
    lia
  have m9:m<=59:=Nat.le_trans (Nat.le_mul_of_pos_right _ w0) hmw
  clear a6 b6 hwd a5 b5 r0 r1
  refine ⟨_,rfl,st,4,11,rfl,S6,by lia,by decide,fun H7 r7 k7 S7 a7 b7=>?_⟩
  obtain ⟨e,rfl⟩:=Int.eq_ofNat_of_zero_le a7
  refine ⟨_,rfl,st,9,12,rfl,S7,by lia,by decide,fun H8 r8 k8 S8 a8 b8=>⟨_,_,rfl,rfl,?_⟩⟩
  obtain ⟨bb,hbb⟩:∃ bb:Nat,1 + r8=(bb:Int):=⟨(1 + r8).toNat,by lia⟩
  show yB 6 (V.int (1 + r8)) _ _ _
  rw [hbb]
  have bb0:0 < bb:=by lia
  have bb9:bb<=9:=by lia
  have k18:Kp st H1 H8:=(((k3.trans k5).trans k6).trans k7).trans k8
  clear hbb a8 b8 k3 k5 k6 k7 k8 S3 S5 S6 S7
  refine ⟨_,rfl,_,rfl,_,rfl,_,rfl,_,rfl,_,rfl,_,rfl,st,_,13,rfl,S8,by lia,by lia,fun H9 r9 k9 S9 a9 b9=>?_⟩
  obtain ⟨at',rfl⟩:=Int.eq_ofNat_of_zero_le a9
  refine ⟨st,z,wd,m,e,at',14,rfl,S9,by lia,zl,w0,w9,m9,by lia,fun H10 pd tl r ds k10 S10 fpd hpd htl htw hF=>?_⟩
  have k110:=(k18.trans k9).trans k10
  have npd:=S10.neR hpd
  have fpd1:=(k18.trans k9).free npd fpd
  have T10:=S1
  obtain ⟨c,hc⟩:∃ c,c=cOf z wd m e at' tl:=⟨_,rfl⟩
  rw [<- hc] at hF
  have hF:IsFs H10 (c.rs r) ds:=by rw [hc] at hF ⊢; exact hF
  have fl:=hF.len
  rw [Ch.rs_len,show c.m=m by rw [hc]; rfl] at fl
  clear k18 k9 k10 S8 S9 a9 b9 hS hTs T10
  refine ⟨_,rfl,pd,rfl,⟨_,SqL.of hpd⟩,xk (xs:=ds.map V.ref) (fun j τ ys H'=>Same H10 H'/\(∃ x,τ=[some (.ref a),some (.ref st),some (.str z),some (.int (wd:Nat)),some (.int (m:Nat)),some (.int (e:Nat)),some (.int (bb:Nat)),some (.ref pd),none,none,none,none,none,none,none,none,none,x])/\∃ us:List Addr,ys=us.map V.ref/\DuAt H' (fun _=>(List.range wd).map fun _=>decide (e < 2)) ((c.rs r).take j) us) ⟨fun _ _ h=>h,⟨none,rfl⟩,[],rfl,.nil⟩ (fun j τ ys H' _ h=>SqL.of (h.1 _ _ hpd)) ?_ ?_⟩
  · rintro j v τ ys H11 hv ⟨s11,⟨x,rfl⟩,us,rfl,hD⟩
    rw [List.getElem?_map] at hv
    obtain ⟨t,ht,rfl⟩:=Option.map_eq_some_iff.mp hv
    obtain ⟨d,hd,hFd⟩:=hF.get ht
    have hj:=(List.getElem?_eq_some_iff.mp ht).1
    obtain ⟨qn,pb,g1,-,-⟩:=(hFd.keep (.of s11)).ex
    have ul:=All2.len hD
    rw [List.length_take] at ul
    refine ⟨_,rfl,ixT g1 aI0 ⟨_,rfl,_,rfl,by lia,by lia,yg (n:=wd) (fun i τ ys H'=>Same H11 H'/\(∃ x,τ=[some (.ref a),some (.ref st),some (.str z),some (.int (wd:Nat)),some (.int (m:Nat)),some (.int (e:Nat)),some (.int (bb:Nat)),some (.ref pd),none,none,none,none,none,none,none,none,none,some (.ref t),x])/\ys=((List.range i).map fun _=>decide (e < 2)).map V.bl) ⟨fun _ _ h=>h,⟨none,rfl⟩,rfl⟩ ?_ ?_⟩⟩
    · rintro i τ ys H12 hi ⟨s12,⟨x,rfl⟩,rfl⟩
      refine ⟨_,rfl,_,_,rfl,rfl,by rw [List.length_map,List.length_map,List.length_range]; lia,s12,⟨_,rfl⟩,?_⟩
      show _ ++ [V.bl (decide (((e:Nat):Int) < 2))]=_
      rw [List.range_succ,List.map_append,List.map_append,show decide (((e:Nat):Int) < 2)=decide (e < 2) from decide_eq_decide.mpr (by lia)]
      rfl
    rintro τ ys H12 ⟨s12,-,rfl⟩ l hl
    refine ⟨l,_,rfl,.inl ⟨SqL.of zf,fun l2 hl2=>⟨sN2,fun tk htk=>?_⟩⟩⟩
    have s13:Same H11 _:=((s12.new (o:=.lst (((List.range wd).map fun _=>decide (e < 2)).map V.bl)) hl).new (o:=.tup (((List.range wd).map fun _=>decide (e < 2)).map V.bl)) hl2).new (o:=.tup [.str d.z,.ref l2]) htk
    refine ⟨by rw [List.length_map]; lia,s11.trans s13,⟨_,rfl⟩,us ++ [tk],by simp,?_⟩
    rw [List.take_add_one,hd]
    exact All2.app (hD.keep (.of s13)) (.cons ⟨l2,zf,old htk zf⟩ .nil)
  rintro τ ys H11 ⟨s11,-,us,rfl,hD⟩ du hdu
  rw [List.length_map,List.take_of_length_le (by rw [Ch.rs_len,hc]; show m<=_; lia)] at hD
  have ul:=All2.len hD
  rw [Ch.rs_len,show c.m=m by rw [hc]; rfl] at ul
  have s12:=s11.new (o:=.lst (us.map V.ref)) hdu
  have hdu12:=zf (H:=H11) (a:=du) (o:=.lst (us.map V.ref))
  have D12:=hD.keep (.of (zk (o:=.lst (us.map V.ref)) hdu))
  have k112:=k110.trans (.of s12)
  have S12:=S10.same s12
  have ndu:=S12.neR hdu12
  have fdu1:H1 du=none:=(k110.trans (.of s11)).free ndu hdu
  have hpd12:=s12 _ _ hpd
  have npu:pd≠du:=zi (s11 _ _ hpd) hdu
  have F12:=hF.keep (.of s12)
  show (tSeq _ _:TS) _ _ (upd H11 du (.lst (us.map V.ref)))
  generalize upd H11 du (.lst (us.map V.ref))=H12 at *
  clear s12 s11 hdu hD S10 hF hpd k110 fpd
  refine ⟨_,rfl,rfl,_,rfl,QT (fun H'=>Kp st H12 H') (fun σ' H'=>∃ (b:Nat) (ds' us':List Addr) (v9 v10:Option V),(b=0\/b=bb)/\(e=1->0 < b)/\Kp st H1 H'/\H' pd=some (.lst (ds'.map V.ref))/\H' du=some (.lst (us'.map V.ref))/\IsFs H' (({c with b:=b}:Ch).dfs r) ds'/\DuAt H' (({c with b:=b}:Ch).due) (({c with b:=b}:Ch).dfs r) us'/\σ'=[some (.ref a),some (.ref st),some (.str z),some (.int (wd:Nat)),some (.int (m:Nat)),some (.int (e:Nat)),some (.int (bb:Nat)),some (.ref pd),some (.ref du),v9,v10,none,none,none,none,none,none]) .refl (fun c0 k hk=>⟨_,rfl,st,2,_,rfl,S12,by lia,by decide,fun H' r k' _ _ _=>⟨rfl,_,rfl,hk _ _ k'⟩⟩) (fun H13 k13 D' kD=>?_) (fun c0 H13 k13=>?_) ?_⟩
  · have hpd13:=k13.k _ _ npd hpd12
    have hdu13:=k13.k _ _ ndu hdu12
    have F13:=F12.keep (k13.tups S12)
    have D13:=D12.keep (k13.tups S12)
    have k113:=k112.trans k13
    clear F12 D12 hpd12 hdu12 k112 k13
    refine ⟨_,rfl,_,rfl,by lia,by lia,yg (n:=bb) (fun j τ ys H'=>Same H13 H'/\(∃ x,τ=[some (.ref a),some (.ref st),some (.str z),some (.int (wd:Nat)),some (.int (m:Nat)),some (.int (e:Nat)),some (.int (bb:Nat)),some (.ref pd),some (.ref du),none,none,none,none,none,none,none,none,x])/\ys=(par z j 1).map V.str) ⟨fun _ _ h=>h,⟨none,rfl⟩,rfl⟩ ?_ ?_⟩
    · rintro j τ ys H14 hj ⟨s14,⟨y,rfl⟩,rfl⟩
      rw [Int.zero_add]
      refine ⟨_,rfl,_,rfl,_,_,rfl,rfl,z,1 + j,?_,zl,?_⟩
      · rfl
      refine ⟨by rw [List.length_map,zL]; lia,s14,⟨_,rfl⟩,?_⟩
      unfold par
      rw [List.range_succ,List.map_append,List.map_append]
      rfl
    rintro τ ys H14 ⟨s14,-,rfl⟩ l hl
    refine ⟨l,_,rfl,.inl ⟨SqL.of zf,fun pp hpp=>?_⟩⟩
    have s15:=(s14.new (o:=.lst ((par z bb 1).map V.str)) hl).new (o:=.tup ((par z bb 1).map V.str)) hpp
    have hp15:=zf (H:=upd H14 l (.lst ((par z bb 1).map V.str))) (a:=pp) (o:=.tup ((par z bb 1).map V.str))
    show yB 9 _ _ (upd (upd H14 l (.lst ((par z bb 1).map V.str))) pp (.tup ((par z bb 1).map V.str))) _
    generalize upd (upd H14 l (.lst ((par z bb 1).map V.str))) pp (.tup ((par z bb 1).map V.str))=H15 at *
    have hpd15:=s15 _ _ hpd13
    have hat:atI ((par z bb 1).map V.str) ((0:Nat):Int)=some (.str (nmC z 1)):=ym (by rw [List.getElem?_map,wN bb0]; rfl)
    refine ⟨_,rfl,.inl ⟨rfl,_,SqL.of hpd15⟩,_,rfl,z,99,rfl,zl,_,rfl,_,rfl,ixT hp15 hat ⟨sN2,fun tg htg=>⟨sN3,fun tt htt=>⟨pd,_,_,rfl,rfl,old htt (old htg hpd15),by rw [List.length_map]; lia,?_⟩⟩⟩⟩
    have kq:Kp st H13 _:=((Kp.of s15).new (o:=.tup [.str "give",.str (nmC z 1)]) htg).new (o:=.tup [.str (nmC z 99),.ref pp,.ref tg]) htt
    have tq:Tups H15 (upd (upd H15 tg (.tup [.str "give",.str (nmC z 1)])) tt (.tup [.str (nmC z 99),.ref pp,.ref tg])):=.of ((zk htg _).new htt)
    have hpdq:=old (o:=.tup [.str (nmC z 99),.ref pp,.ref tg]) htt (old (o:=.tup [.str "give",.str (nmC z 1)]) htg hpd15)
    have htgq:=old (o:=.tup [.str (nmC z 99),.ref pp,.ref tg]) htt (zf (H:=H15) (a:=tg) (o:=.tup [.str "give",.str (nmC z 1)]))
    have httq:=zf (H:=upd H15 tg (.tup [.str "give",.str (nmC z 1)])) (a:=tt) (o:=.tup [.str (nmC z 99),.ref pp,.ref tg])
    generalize upd (upd H15 tg (.tup [.str "give",.str (nmC z 1)])) tt (.tup [.str (nmC z 99),.ref pp,.ref tg])=H16 at *
    have tp:Tups H16 (upd H16 pd (.lst (ds.map V.ref ++ [.ref tt]))):=fun b xs e=>by rw [zg (xz e hpdq (by intro e; cases e))]; exact e
    have t13:Tups H13 (upd H16 pd (.lst (ds.map V.ref ++ [.ref tt]))):=((Tups.of s15).trans tq).trans tp
    have F17:=(F13.keep t13).app (.cons (d:=({c with b:=bb}:Ch).bes) ⟨pp,tg,by rw [hc]; exact tp _ _ httq,by rw [hc]; exact tp _ _ (tq _ _ hp15),by rw [hc]; exact .give (tp _ _ htgq)⟩ .nil)
    have D17:=D13.keep t13
    have hdu17:upd H16 pd (.lst (ds.map V.ref ++ [.ref tt])) du=some (.lst (us.map V.ref)):=by rw [zg npu.symm]; exact kq.k _ _ ndu hdu13
    have k117:Kp st H1 (upd H16 pd (.lst (ds.map V.ref ++ [.ref tt]))):=(k113.trans kq).put fpd1
    have hpd17:=zf (H:=H16) (a:=pd) (o:=.lst (ds.map V.ref ++ [.ref tt]))
    clear F13 D13 t13 tp kq tq hpdq htgq httq htt htg hp15 hpd15 s15 s14 hpp hl k113 hpd13 hdu13
    generalize upd H16 pd (.lst (ds.map V.ref ++ [.ref tt]))=H17 at *
    show (tSeq _ _:TS) _ _ H17
    refine ⟨_,rfl,rfl,_,rfl,?_⟩
    suffices rest:∀ ah:Bool,ah=decide (e=1/\0 < m)->yB 10 (V.bl ah) _ H17 _ by
      refine ite2 (fun c1=>?_) (fun c1=>?_)
      · refine ⟨_,rfl,_,_,rfl,rfl,rest _ (decide_eq_decide.mpr ?_)⟩
        have e1:=xP (y:=1) c1
        exact ⟨fun h=>⟨e1,by lia⟩,fun h=>by lia⟩
      · refine rest false (decide_eq_false ?_).symm
        exact fun h=>c1 (by rw [h.1]; exact decide_eq_true rfl)
    rintro ah eah
    have e99:c.nm 99=nmC z 99:=by rw [hc]; rfl
    refine ⟨_,rfl,.inl ⟨rfl,_,SqL.of hdu17⟩,_,rfl,z,99,rfl,zl,_,rfl,_,rfl,by lia,by lia,yg (n:=bb) (fun j τ ys H'=>Same H17 H'/\(∃ x,τ=[some (.ref a),some (.ref st),some (.str z),some (.int (wd:Nat)),some (.int (m:Nat)),some (.int (e:Nat)),some (.int (bb:Nat)),some (.ref pd),some (.ref du),some (.ref pp),some (.bl ah),none,none,none,none,none,none,x])/\ys=((List.range j).map fun k=>ah || decide (k=0)).map V.bl) ⟨fun _ _ h=>h,⟨none,rfl⟩,rfl⟩ ?_ ?_⟩
    · rintro j τ ys H18 hj ⟨s18,⟨y,rfl⟩,rfl⟩
      rw [Int.zero_add]
      have es:((List.range (j + 1)).map fun k=>ah || decide (k=0)).map V.bl=((List.range j).map fun k=>ah || decide (k=0)).map V.bl ++ [V.bl (ah || decide (j=0))]:=by rw [List.range_succ,List.map_append,List.map_append]; rfl
      rw [es]
      refine ⟨_,rfl,_,rfl,?_⟩
      cases ah with
      | true=>exact iteT ⟨by rw [List.length_map,List.length_map,List.length_range]; lia,s18,⟨_,rfl⟩,rfl⟩
      | false =>
        refine iteF ⟨_,rfl,rfl,by rw [List.length_map,List.length_map,List.length_range]; lia,s18,⟨_,rfl⟩,?_⟩
        rw [show decide (V.int ((j:Nat):Int)=V.int 0)=decide (j=0) from decide_eq_decide.mpr ⟨fun h=>by injection h with h; lia,fun h=>by rw [h]; rfl⟩]
        rfl
    rintro τ ys H18 ⟨s18,-,rfl⟩ l hl
    refine ⟨l,_,rfl,.inl ⟨SqL.of zf,fun l2 hl2=>⟨sN2,fun tk htk=>?_⟩⟩⟩
    have s19:Same H17 _:=((s18.new (o:=.lst (((List.range bb).map fun k=>ah || decide (k=0)).map V.bl)) hl).new (o:=.tup (((List.range bb).map fun k=>ah || decide (k=0)).map V.bl)) hl2).new (o:=.tup [.str (nmC z 99),.ref l2]) htk
    have htk19:=zf (H:=upd (upd H18 l (.lst (((List.range bb).map fun k=>ah || decide (k=0)).map V.bl))) l2 (.tup (((List.range bb).map fun k=>ah || decide (k=0)).map V.bl))) (a:=tk) (o:=.tup [.str (nmC z 99),.ref l2])
    have hl19:=old (o:=.tup [.str (nmC z 99),.ref l2]) htk (zf (H:=upd H18 l (.lst (((List.range bb).map fun k=>ah || decide (k=0)).map V.bl))) (a:=l2) (o:=.tup (((List.range bb).map fun k=>ah || decide (k=0)).map V.bl)))
    generalize upd (upd (upd H18 l (.lst (((List.range bb).map fun k=>ah || decide (k=0)).map V.bl))) l2 (.tup (((List.range bb).map fun k=>ah || decide (k=0)).map V.bl))) tk (.tup [.str (nmC z 99),.ref l2])=H19 at *
    have hdu19:=s19 _ _ hdu17
    refine ⟨du,_,_,rfl,rfl,hdu19,by rw [List.length_map]; lia,?_⟩
    have tp:Tups H19 (upd H19 du (.lst (us.map V.ref ++ [.ref tk]))):=fun b xs e=>by rw [zg (xz e hdu19 (by intro e; cases e))]; exact e
    refine kD _ _ ⟨bb,ds ++ [tt],us ++ [tk],_,_,.inr rfl,fun _=>bb0,(k117.trans (.of s19)).put fdu1,by rw [zg npu,s19 _ _ hpd17]; simp,by rw [zf]; simp,?_,?_,rfl⟩
    · unfold Ch.dfs
      rw [if_pos bb0]
      exact F17.keep ((Tups.of s19).trans tp)
    · unfold Ch.dfs
      rw [if_pos bb0]
      refine All2.app (xy (D17.keep ((Tups.of s19).trans tp)) fun d hd b hb=>?_) (.cons ⟨l2,?_,?_⟩ .nil)
      · rw [Ch.due_rs (c:={c with b:=bb}) (by rw [hc]; exact m9) hd,hc]
        exact hb
      · rw [hc]
        exact tp _ _ htk19
      · rw [show ({c with b:=bb}:Ch).due ({c with b:=bb}:Ch).bes=(List.range bb).map fun k=>ah || decide (k=0) from (if_pos rfl).trans (by rw [eah,hc]; rfl)]
        exact tp _ _ hl19
  · refine ⟨0,ds,us,none,none,.inl rfl,fun h=>?_,k112.trans k13,k13.k _ _ npd hpd12,k13.k _ _ ndu hdu12,?_,?_,rfl⟩
    · exact absurd h (jU (y:=1) c0)
    · unfold Ch.dfs
      rw [if_neg (show ¬ 0 < 0 from Nat.lt_irrefl 0),List.append_nil]
      exact F12.keep (k13.tups S12)
    · unfold Ch.dfs
      rw [if_neg (show ¬ 0 < 0 from Nat.lt_irrefl 0),List.append_nil]
      refine xy (D12.keep (k13.tups S12)) fun d hd b hb=>?_
      rw [Ch.due_rs (c:={c with b:=0}) (by rw [hc]; exact m9) hd,hc]
      exact hb
  clear D12 hdu12 hpd12 F12 ul fl k112
  rintro σ' H13 ⟨b,ds',us',v9,v10,hb,he,k13,hpd13,hdu13,F13,D13,rfl⟩
  have T13:=T1'.kp S1 k13
  obtain ⟨c',hc'⟩:∃ c':Ch,c'={c with b:=b}:=⟨_,rfl⟩
  have o:c'.Ok:=by
    rw [hc',hc]
    refine ⟨w0,w9,m9,zca (s:=z) (m:=m) (e:=e) (a:=at') w0 htw,zb9 (s:=z) (m:=m) (e:=e) (a:=at') w0,fun _=>?_,by rcases hb with rfl | rfl <;> lia,he⟩
    show (({cOf z wd m e at' tl with b:=b}:Ch).fw (m - 1) + (cOf z wd m e at' tl).T) % wd=0
    rw [Ch.fw_b]
    exact zb8 w0 htl
  have hmw':c'.m * c'.w<=59:=by rw [hc',hc]; exact hmw
  rw [<- hc'] at F13 D13
  have I:c'.In (c'.dfs r):=Ch.dfs_in
  have hN:=Ch.dfs_nd (r:=r) o
  have hB:=Ch.dfs_prb (r:=r) o
  have hC:=Ch.cand_le (r:=r) o hmw'
  have hfl:∀ d∈c'.dfs r,flg (c'.dfs r) d=c'.due d:=fun d hd=>Ch.flg_due o I hd
  have hdl:=Ch.due_len o
  have hsp:((zt (c'.dfs r)).map Rw.key).Perm (yV c'.due (c'.dfs r)):=by rw [<- wF hfl]; exact YE hN
  have hsl:(yV c'.due (c'.dfs r)).length<=68:=by rw [<- wF hfl]; exact Nat.le_trans Wc hC
  have hrn:=vC hN
  have hdl60:=Ch.dfs_len (r:=r) o
  clear hc hc' hb he k13 T1' S1 I hmw hmw' htl htw o S12
  generalize c'.dfs r=dfs at *
  generalize c'.due=Du at *
  have dl:=F13.len
  have ul:=All2.len D13
  show (tSeq _ _:TS) _ _ H13
  refine ⟨sN0,fun pk hpk=>⟨_,rfl,pd,_,rfl,.inl ⟨SqL.of (old hpk hpd13),fun pt hpt=>⟨sN2,fun p hp=>?_⟩⟩⟩⟩
  have s14:Same H13 _:=((zk hpk (.tup [])).new (o:=.tup (ds'.map V.ref)) hpt).new (o:=.tup [.ref pk,.ref pt]) hp
  have hp14:=zf (H:=upd (upd H13 pk (.tup [])) pt (.tup (ds'.map V.ref))) (a:=p) (o:=.tup [.ref pk,.ref pt])
  have hpt14:=old (o:=.tup [.ref pk,.ref pt]) hp (zf (H:=upd H13 pk (.tup [])) (a:=pt) (o:=.tup (ds'.map V.ref)))
  show (tSeq _ _:TS) _ _ (upd (upd (upd H13 pk (.tup [])) pt (.tup (ds'.map V.ref))) p (.tup [.ref pk,.ref pt]))
  generalize upd (upd (upd H13 pk (.tup [])) pt (.tup (ds'.map V.ref))) p (.tup [.ref pk,.ref pt])=H14 at *
  have P14:PrOk H14 p dfs:=⟨pk,pt,ds',hp14,hpt14,F13.keep (.of s14)⟩
  have T14:=T13.same s14
  have hdu14:=s14 _ _ hdu13
  have D14:=D13.keep (.of s14)
  clear F13 D13 T13 hpk hpt hp hpd13 hdu13 s14 hp14 hpt14
  refine ⟨_,rfl,p,dfs,rfl,P14,hB,hN,T14,fun H15 fo kvs k15 T15 hf0 hf15 hFo=>?_⟩
  have P15:=P14.keep (T14.tups k15)
  have hdu15:=T14.lst k15 hdu14
  have D15:=D14.keep (T14.tups k15)
  have hFo:FoAt H15 Du dfs kvs:=xy hFo fun d hd kv h=>by rw [<- hfl d hd]; exact h
  clear P14 D14 hdu14 T14 k15 hf0 hfl
  refine ⟨_,rfl,fo,kvs,rfl,hf15,fun lk hlk=>?_⟩
  rw [hFo.keys]
  have s16:=zk (o:=.lst ((dfs.map (·.z)).map V.str)) hlk
  have hlk16:=zf (H:=H15) (a:=lk) (o:=.lst ((dfs.map (·.z)).map V.str))
  generalize upd H15 lk (.lst ((dfs.map (·.z)).map V.str))=H16 at *
  have hdu16:=s16 _ _ hdu15
  have D16:=D15.keep (.of s16)
  refine ⟨_,rfl,du,rfl,⟨_,SqL.of hdu16⟩,xk (xs:=us'.map V.ref) (fun j τ ys H'=>H16=H'/\(∃ x,τ=[some (.ref a),some (.ref st),some (.str z),some (.int (wd:Nat)),some (.int (m:Nat)),some (.int (e:Nat)),some (.int (bb:Nat)),some (.ref pd),some (.ref du),v9,v10,some (.ref p),some (.ref fo),none,none,none,none,x])/\ys=((dfs.take j).map (·.z)).map V.str) ⟨rfl,⟨_,rfl⟩,rfl⟩ (fun j τ ys H' _ h=>SqL.of (h.1 ▸ hdu16)) ?_ ?_⟩
  · rintro j v τ ys H9 hv ⟨rfl,⟨x,rfl⟩,rfl⟩
    rw [List.getElem?_map] at hv
    obtain ⟨t,ht,rfl⟩:=Option.map_eq_some_iff.mp hv
    obtain ⟨d,hd,qn,g1,-⟩:=All2.get D16 ht
    refine ⟨_,rfl,ixT g1 aI0 ⟨by rw [List.length_map,List.length_map,List.length_take]; lia,rfl,⟨_,rfl⟩,?_⟩⟩
    rw [List.take_add_one,hd]
    simp
  rintro τ ys H9 ⟨rfl,-,rfl⟩ l9 hl9
  rw [List.length_map,<- ul,List.take_of_length_le (Nat.le_refl _)]
  have s17:=s16.new (o:=.lst ((dfs.map (·.z)).map V.str)) hl9
  have hl17:=zf (H:=H16) (a:=l9) (o:=.lst ((dfs.map (·.z)).map V.str))
  have hlk17:=old (o:=.lst ((dfs.map (·.z)).map V.str)) hl9 hlk16
  generalize upd H16 l9 (.lst ((dfs.map (·.z)).map V.str))=H17 at *
  have hdu17:=s17 _ _ hdu15
  have D17:=D15.keep (.of s17)
  obtain ⟨kv2,hPr,hFo2,hky⟩:=D17.fo
  refine ⟨lk,l9,_,rfl,rfl,SqL.of hlk17,SqL.of hl17,We _,_,rfl,iteF ?_⟩
  refine ⟨_,rfl,_,rfl,du,kv2,us',rfl,hdu17,hPr,?_,fun dn hdn=>?_⟩
  · rw [hky]
    have:dfs.map (fun d=>(Sum.inr d.z:Key))=(dfs.map (·.z)).map Sum.inr:=by rw [List.map_map]; rfl
    rw [this]
    unfold List.Nodup
    rw [List.pairwise_map]
    exact List.Pairwise.imp (fun n e=>n (Sum.inr.inj e)) hN
  have s18:=s17.new (o:=.dK kv2) hdn
  have hdn18:=zf (H:=H17) (a:=dn) (o:=.dK kv2)
  have hFo2:=hFo2.keep (.of (zk (o:=.dK kv2) hdn))
  have hf18:=s18 _ _ hf15
  generalize upd H17 dn (.dK kv2)=H18 at *
  obtain ⟨al1,al2⟩:=(hFo.keep (.of s18)).alike hFo2 hN
  refine ⟨fo,dn,kvs,kv2,rfl,rfl,hf18,hdn18,al1,al2,_,rfl,iteF ?_⟩
  have hdu18:=s18 _ _ hdu15
  have D18:=D15.keep (.of s18)
  have P18:=P15.keep (.of s18)
  have T18:=T15.same s18
  clear al1 al2 hFo2 hFo hf18 hdn18 hdn hPr hky hlk17 hl17 hlk16 hl9 hlk s16 s17 s18 hdu15 hdu16 hdu17 D15 D16 D17 P15 T15 hf15
  refine ⟨sN0,fun sp hsp0=>?_⟩
  have hdu19:=old (o:=.lst []) hsp0 hdu18
  have D19:=D18.keep (.of (zk (o:=.lst []) hsp0))
  have P19:=P18.keep (.of (zk (o:=.lst []) hsp0))
  have T19:=T18.same (zk (o:=.lst []) hsp0)
  have hsp19:=zf (H:=H18) (a:=sp) (o:=.lst [])
  have nsp:du≠sp:=zi hdu18 hsp0
  show (tSeq _ _:TS) _ _ (upd H18 sp (.lst []))
  generalize upd H18 sp (.lst [])=H19 at *
  clear hsp0 D18 hdu18 P18 T18
  refine ⟨_,rfl,du,rfl,⟨_,SqL.of hdu19⟩,yN (xs:=us'.map V.ref) (fun i σ H'=>(∀ b u,b≠sp->H19 b=some u->H' b=some u)/\(∃ ts:List Addr,H' sp=some (.lst (ts.map V.ref))/\KyAt H' (yV Du (dfs.take i)) ts/\ts.length<=9 * i)/\∃ x y,σ=[some (.ref a),some (.ref st),some (.str z),some (.int (wd:Nat)),some (.int (m:Nat)),some (.int (e:Nat)),some (.int (bb:Nat)),some (.ref pd),some (.ref du),v9,v10,some (.ref p),some (.ref fo),some (.ref sp),x,y,none]) ⟨fun b u _ e=>e,⟨[],hsp19,.nil,Nat.le_refl _⟩,_,_,rfl⟩ (fun i σ H' _ h=>SqL.of (h.1 _ _ nsp hdu19)) ?_ ?_⟩
  · rintro i v σ H3 hv ⟨x3,⟨ts,hs3,hK,htl⟩,x,y,rfl⟩
    rw [List.getElem?_map] at hv
    obtain ⟨t,ht,rfl⟩:=Option.map_eq_some_iff.mp hv
    obtain ⟨d,hd,qn,g1,g2⟩:=All2.get D19 ht
    have nt:∀ {b:Addr} {xs:List V},H19 b=some (.tup xs)->H3 b=some (.tup xs):=fun {b xs} e=>x3 _ _ (fun y=>by rw [y,hsp19] at e; cases e) e
    have g1:=nt g1
    have g2:=nt g2
    have hdl:=hdl d
    refine ⟨t,_,rfl,SqT.of g1,rfl,_,_,rfl,_,_,rfl,rfl,?_⟩
    refine ⟨_,rfl,.inl ⟨rfl,_,SqL.of hs3⟩,_,rfl,qn,_,rfl,.inr (SqT.of g2),_,rfl,by lia,by rw [List.length_map]; lia,?_⟩
    rw [show ((((Du d).map V.bl).length:Nat):Int).toNat=(Du d).length by rw [List.length_map]; rfl]
    refine yg (n:=(Du d).length) (fun j τ ys H'=>Same H3 H'/\(∃ x,τ=[some (.ref a),some (.ref st),some (.str z),some (.int (wd:Nat)),some (.int (m:Nat)),some (.int (e:Nat)),some (.int (bb:Nat)),some (.ref pd),some (.ref du),v9,v10,some (.ref p),some (.ref fo),some (.ref sp),some (.str d.z),some (.ref qn),none,x])/\∃ zs:List Addr,ys=zs.map V.ref/\KyAt H' (((List.range j).filter fun k=>(Du d).getD k false).map fun k=>(d.z,k)) zs/\zs.length<=j) ⟨fun _ _ h=>h,⟨_,rfl⟩,[],rfl,.nil,Nat.le_refl _⟩ ?_ ?_
    · rintro j τ ys H4 hj ⟨s4,⟨v,rfl⟩,zs,rfl,hz,hzl⟩
      rw [Int.zero_add]
      obtain ⟨bv,hbv⟩:∃ bv,(Du d)[j]?=some bv:=⟨_,List.getElem?_eq_getElem hj⟩
      have hat:atI ((Du d).map V.bl) ((j:Nat):Int)=some (.bl bv):=ym (by rw [List.getElem?_map,hbv]; rfl)
      have eg:(Du d).getD j false=bv:=by rw [List.getD_eq_getElem?_getD,hbv]; rfl
      refine ⟨_,rfl,_,rfl,qn,_,_,_,rfl,rfl,SqT.of (s4 _ _ g2),hat,?_⟩
      have ef:((List.range (j + 1)).filter fun k=>(Du d).getD k false).map (fun k=>(d.z,k))=((List.range j).filter fun k=>(Du d).getD k false).map (fun k=>(d.z,k)) ++ if bv=true then [(d.z,j)] else []:=by
        rw [List.range_succ,List.filter_append,List.map_append]
        congr 1
        rw [List.filter_cons]
        show List.map _ (if (Du d).getD j false=true then _ else _)=_
        rw [eg]
        cases bv <;> rfl
      rw [ef]
      refine ⟨_,rfl,?_⟩
      cases bv with
      | true =>
        refine iteT ⟨_,rfl,_,rfl,sN2,fun tk htk=>⟨by rw [List.length_map]; lia,s4.new htk,⟨_,rfl⟩,zs ++ [tk],by simp,?_,by rw [List.length_append,List.length_singleton]; lia⟩⟩
        rw [if_pos rfl]
        exact All2.app (hz.keep (.of (zk htk _))) (.cons zf .nil)
      | false =>
        refine iteF ⟨s4,⟨_,rfl⟩,zs,rfl,?_,by lia⟩
        rw [if_neg (by decide),List.append_nil]
        exact hz
    rintro τ ys H4 ⟨s4,-,zs,rfl,hz,hzl⟩ l hl
    have s5:=s4.new (o:=.lst (zs.map V.ref)) hl
    have hl5:=zf (H:=H4) (a:=l) (o:=.lst (zs.map V.ref))
    have hz5:=hz.keep (.of (zk (o:=.lst (zs.map V.ref)) hl))
    generalize upd H4 l (.lst (zs.map V.ref))=H5 at *
    have hs5:=s5 _ _ hs3
    have i60:=(List.getElem?_eq_some_iff.mp hd).1
    refine ⟨sp,l,_,_,rfl,rfl,hs5,hl5,by rw [List.length_map,List.length_map]; lia,?_⟩
    rw [<- List.map_append]
    have tp:Tups H5 (upd H5 sp (.lst ((ts ++ zs).map V.ref))):=fun b ys e=>by rw [zg (fun y=>by rw [y,hs5] at e; cases e)]; exact e
    refine ⟨fun b u n e=>by rw [zg n]; exact s5 _ _ (x3 b u n e),⟨ts ++ zs,zf,?_,by rw [List.length_append]; lia⟩,_,_,rfl⟩
    have et:yV Du (dfs.take (i + 1))=yV Du (dfs.take i) ++ spD Du d:=by
      unfold yV
      rw [List.take_add_one,hd,List.flatMap_append]
      simp
    rw [et]
    exact All2.app ((hK.keep (.of s5)).keep tp) (hz5.keep tp)
  rintro σ H20 ⟨x20,⟨ts,hs20,hK,htl⟩,x,y,rfl⟩
  rw [List.length_map,<- ul,List.take_of_length_le (Nat.le_refl _)] at hK
  have tsl:=All2.len hK
  have n20:∀ {b:Addr} {u:HO},H19 b=some u->(∀ xs,u≠.lst xs)->H20 b=some u:=fun {b u} e n=>x20 b u (fun y=>by rw [y,hsp19] at e; exact n _ (Option.some.inj e).symm) e
  have T20:Tbs T1 T2 H20:=⟨T19.t1.keep (fun ps e=>n20 e (by intro _ z; cases z)) fun c q e=>n20 e (by intro _ z; unfold CodO at z; cases z),T19.t2.keep (fun ps e=>n20 e (by intro _ z; cases z)) fun c q e=>n20 e (by intro _ z; unfold CodO at z; cases z)⟩
  have P20:=P19.keep fun b xs e=>n20 e (by intro _ z; cases z)
  clear x20 n20 T19 P19 D19 hdu19 hsp19 nsp htl
  show (tSeq _ _:TS) _ _ H20
  refine ⟨_,rfl,p,dfs,rfl,P20,hB,T20,fun H21 lr ps k21 T21 hr21 hR21=>?_⟩
  have hs21:=T20.lst k21 hs20
  have hK21:=hK.keep (T20.tups k21)
  have rl:=All2.len hR21
  have rsl:=hsp.length_eq
  rw [List.length_map] at rsl
  clear T20 P20 k21 T21 hs20 hK
  refine ⟨lr,rfl,⟨_,SqL.of hr21⟩,xk (xs:=ps.map V.ref) (fun j τ ys H'=>Same H21 H'/\(∃ v,τ=[some (.ref a),some (.ref st),some (.str z),some (.int (wd:Nat)),some (.int (m:Nat)),some (.int (e:Nat)),some (.int (bb:Nat)),some (.ref pd),some (.ref du),v9,v10,some (.ref p),some (.ref fo),some (.ref sp),x,y,none,v])/\∃ us:List Addr,ys=us.map V.ref/\KyAt H' (((zt dfs).take j).map Rw.key) us) ⟨fun _ _ h=>h,⟨_,rfl⟩,[],rfl,.nil⟩ (fun j τ ys H' _ h=>SqL.of (h.1 _ _ hr21)) ?_ ?_⟩
  · rintro j v τ ys H5 hv ⟨s5,⟨v',rfl⟩,us,rfl,hk⟩
    rw [List.getElem?_map] at hv
    obtain ⟨t,ht,rfl⟩:=Option.map_eq_some_iff.mp hv
    obtain ⟨rw1,hrw,q1,ht1,-⟩:=All2.get hR21 ht
    have kl:=All2.len hk
    rw [List.length_map,List.length_take] at kl
    refine ⟨_,rfl,_,rfl,t,_,rfl,s5 _ _ ht1,fun tk H6 s6 htk=>⟨by rw [List.length_map]; lia,fun b u e=>s6 b u (s5 b u e),⟨_,rfl⟩,us ++ [tk],by simp,?_⟩⟩
    rw [List.take_add_one,hrw,List.map_append]
    exact All2.app (hk.keep (.of s6)) (.cons htk .nil)
  rintro τ ys H5 ⟨s5,-,us,rfl,hk⟩ l5 hl5
  rw [List.length_map,<- rl,List.take_of_length_le (Nat.le_refl _)] at hk
  have kl:=All2.len hk
  rw [List.length_map] at kl
  have s6:=s5.new (o:=.lst (us.map V.ref)) hl5
  have hl6:=zf (H:=H5) (a:=l5) (o:=.lst (us.map V.ref))
  have hk6:=hk.keep (.of (zk (o:=.lst (us.map V.ref)) hl5))
  generalize upd H5 l5 (.lst (us.map V.ref))=H6 at *
  have hs6:=s6 _ _ hs21
  have hK6:=hK21.keep (.of s6)
  refine ⟨_,rfl,l5,us,rfl,hl6,by lia,hk6.tup,hk6.ne hrn,fun us2 l7 pm so hl7=>?_⟩
  have hs7:=old (o:=.lst (us2.map V.ref)) hl7 hs6
  have t67:Tups H6 (upd H6 l7 (.lst (us2.map V.ref))):=.of (zk hl7 _)
  have so7:=SrtAt.keep so t67
  have hK7:=hK6.keep t67
  have hk7:=hk6.keep t67
  have h7:=zf (H:=H6) (a:=l7) (o:=.lst (us2.map V.ref))
  generalize upd H6 l7 (.lst (us2.map V.ref))=H7 at *
  refine ⟨_,rfl,sp,ts,rfl,hs7,by lia,hK7.tup,hK7.ne ((hsp.nodup_iff).mp hrn),fun ts2 l8 pm2 so2 hl8=>?_⟩
  have t78:Tups H7 (upd H7 l8 (.lst (ts2.map V.ref))):=.of (zk hl8 _)
  exact ⟨l7,l8,rfl,rfl,zbM (hk7.keep t78) (hK7.keep t78) hsp pm pm2 (so7.keep t78) (SrtAt.keep so2 t78) (old hl8 h7) zf,q _⟩
end
structure TopK (K:PySem.W.Frag) (cB cU:Addr):Prop where
  qL:OwnIn K "Begun" cB
  qh:PySem.W.findIn K (.ref cB) "within"=some none
  qi:PySem.W.findIn K (.ref cB) "finish"=some none
  qc:PySem.W.findIn K (.ref cB) "results"=some none
  qR:OwnIn K "Uses" cU
  qj:PySem.W.findIn K (.ref cU) "handed"=some none
  qk:PySem.W.findIn K (.ref cU) "found"=some none
  ql:PySem.W.findIn K (.ref cU) "calls"=some none
  qM:DcIn K "noted" wf 93
  qm:DcIn K "begun_note" yR 98
  hc1:PySem.W.codeHdIn K 93 89=true
  hc2:PySem.W.codeHdIn K 98 96=true
  qF:DfIn K "ways_on" W8
  qb:MeIn K cB "__init__" "Begun.__init__" Yg
  qz:DfIn K "only_one" W9
  qn:DfIn K "worked_out" jx
  qG:DfIn K "bits_of" Va
  qA:DfIn K "together" sTog
  qB:DfIn K "names_of" w6
  qo:DfIn K "names_used" xv
  qH:DfIn K "note_of" jy
  qN:DfIn K "ahead" Yh
  qd:DfIn K "bodies_within" yM
  qq:DfIn K "bodies_in" wg
  qO:DfIn K "makes" Yj
  qe:DfIn K "arm_uses_anew" vm
  qr:DfIn K "uses_anew" wn
  qf:MeIn K cU "__init__" "Uses.__init__" Yi
  qa:MeIn K cU "add_reason" "Uses.add_reason" xw
  qg:MeIn K cU "add_call" "Uses.add_call" vi
  qs:DfIn K "note_deed" wm
  qt:DfIn K "note_body" wj
  qC:DfIn K "all_uses" vk
  qD:DfIn K "own_rows" vg
  qI:DfIn K "reasons" vf
  qJ:DfIn K "owners" jz
  qu:DfIn K "_law_draw" Vb
  qv:DfIn K "_law_name" sNm
  qw:DfIn K "_law_link" V8
  qx:DfIn K "_law_last" V7
  qp:DfIn K "_law_chain" Yz
  qU:DfIn K "law" sLaw
  qV:PySem.W.nsIn K mainGlobals "len"=some none
  qP:PySem.W.nsIn K mainGlobals "range"=some none
  qS:PySem.W.nsIn K mainGlobals "list"=some none
  qQ:PySem.W.nsIn K mainGlobals "tuple"=some none
  qW:PySem.W.nsIn K mainGlobals "max"=some none
  qT:PySem.W.nsIn K mainGlobals "dict"=some none
  qX:PySem.W.nsIn K mainGlobals "any"=some none
  qE:PySem.W.nsIn K mainGlobals "reversed"=some none
  qy:PySem.W.nsIn K mainGlobals "enumerate"=some none
  qY:PySem.W.nsIn K mainGlobals "zip"=some none
  qK:PySem.W.nsIn K mainGlobals "sorted"=some none
theorem top_ok {l:PySem.W.OpenLaw} {w:World} {K:PySem.W.Frag} {h:Heap} {mg:Str->Option Value} {fa cB cU:Addr} (T:TopK K cB cU) (X:K.In h) (G:h.Ns mainGlobals mg) (hfa:mg "law"=some (.ref fa)) :
    ∃ fd:FuncData,(∀ (s:Shared) (u:Value),BindsTo s fd ⟨[u],[]⟩ [("_law_script",u)])/\∀ base:Heap,K.In base->base.Ns mainGlobals mg->BMn mg base->FnOk l.prog w K mg base CX0 14 fa fd ["_law_script"] (xZ K [96,89]):=by
  refine Jm T.qU X G hfa (fun _ _ _ _ _ _ s v=>.of_eq rfl) fun base fd hBM FL=>?_
  have qV:mg "len"=none:=PySem.W.mg_none_of X G T.qV
  have qP:mg "range"=none:=PySem.W.mg_none_of X G T.qP
  have qS:mg "list"=none:=PySem.W.mg_none_of X G T.qS
  have qQ:mg "tuple"=none:=PySem.W.mg_none_of X G T.qQ
  have qW:mg "max"=none:=PySem.W.mg_none_of X G T.qW
  have qT:mg "dict"=none:=PySem.W.mg_none_of X G T.qT
  have qX:mg "any"=none:=PySem.W.mg_none_of X G T.qX
  have qE:mg "reversed"=none:=PySem.W.mg_none_of X G T.qE
  have qy:mg "enumerate"=none:=PySem.W.mg_none_of X G T.qy
  have qY:mg "zip"=none:=PySem.W.mg_none_of X G T.qY
  have qK:mg "sorted"=none:=PySem.W.mg_none_of X G T.qK
  have n_Begun:mg "Begun"=some (.ref cB):=PySem.W.mg_of X G T.qL.n
  have n_Uses:mg "Uses"=some (.ref cU):=PySem.W.mg_of X G T.qR.n
  have BN:Bn K cB:=⟨T.qL.cls,T.qh,T.qi,T.qc⟩
  have UN:Un K cU:=⟨T.qR.cls,T.qj,T.qk,T.ql⟩
  have G1:=DfIn.ca (P:=l.prog) (w:=w) (base:=base) X G T.qF (ps:=["body"]) (fun _ _ _ _ _ _=>us1 fun _=>rfl) fun f fd F=>q9 F
  have GB:=T.qb.ma (P:=l.prog) (w:=w) (mg:=mg) (base:=base) (x:="Begun") (ps:=lS7) (fun _ _ _ _ _ _=>us3 fun _ _ _=>rfl) T.qL.mks T.qL.kp n_Begun fun f fd F=>Vp F BN
  have GO:=DfIn.ca (P:=l.prog) (w:=w) (base:=base) X G T.qz (ps:=["results"]) (fun _ _ _ _ _ _=>us1 fun _=>rfl) fun f fd F=>Qg F
  obtain ⟨fo,fdo,GO1,GO2,GO3,GO4⟩:=GO.ex
  have GW:=DfIn.ca (P:=l.prog) (w:=w) (base:=base) X G T.qn (ps:=["task","begin"]) (fun _ _ _ _ _ _=>us2 fun _ _=>rfl) fun f fd F=>XV (k:=4) F BN GB GO1 GO2 GO3 GO4 qV (by decide)
  have GBi:=DfIn.ca (P:=l.prog) (w:=w) (base:=base) X G T.qG (ps:=["names"]) (fun _ _ _ _ _ _=>us1 fun _=>rfl) fun f fd F=>Qk F
  have GT:=DfIn.ca (P:=l.prog) (w:=w) (base:=base) X G T.qA (ps:=["names","bits"]) (fun _ _ _ _ _ _=>us2 fun _ _=>rfl) fun f fd F=>zbm F
  have GNo:=DfIn.ca (P:=l.prog) (w:=w) (base:=base) X G T.qB (ps:=["deed"]) (fun _ _ _ _ _ _=>us1 fun _=>rfl) fun f fd F=>Yo F
  have GU:=DfIn.ca X G T.qo (ps:=["body"]) (fun _ _ _ _ _ _=>us1 fun _=>rfl) fun f fd F=>Ql F GNo
  have GNt:=DfIn.ca X G T.qH (ps:=lS4) (fun _ _ _ _ _ _=>us4 fun _ _ _ _=>rfl) fun f fd F=>XZ F GT GU qY
  have GBn:=DcIn.ca (P:=l.prog) (w:=w) (base:=base) X G T.qm (ps:=lS5) (fun _ _ _ _ _=>us2 fun _ _=>rfl) fun f fd F=>Yp F hBM T.hc2 G1
  have GNd:=DcIn.ca (P:=l.prog) (w:=w) (base:=base) X G T.qM (ps:=lS5) (fun _ _ _ _ _=>us2 fun _ _=>rfl) fun f fd F=>VC F hBM T.hc1 (by decide) GBn GNt GW
  have GA:=DfIn.ca X G T.qN (ps:=["body","names"]) (fun _ _ _ _ _ _=>us2 fun _ _=>rfl) fun f fd F=>VD F GNd GBi
  have HW:=DfIn.ca X G T.qd (ps:=["body"]) (fun _ _ _ _ _ _=>us1 fun _=>rfl) fun f fd F=>Yr F G1
  have HI:=DfIn.ca X G T.qq (ps:=["body"]) (fun _ _ _ _ _ _=>us1 fun _=>rfl) fun f fd F=>zbs F HW qV qE
  have HM:=DfIn.ca (P:=l.prog) (w:=w) (base:=base) X G T.qO (ps:=["body","many"]) (fun _ _ _ _ _ _=>us2 fun _ _=>rfl) fun f fd F=>VL F qV
  have HA:=DfIn.ca X G T.qe (ps:=["name","arm"]) (fun _ _ _ _ _ _=>us2 fun _ _=>rfl) fun f fd F=>Qu F GA HI HM qV qX
  have HN:=DfIn.ca X G T.qr (ps:=["body"]) (fun _ _ _ _ _ _=>us1 fun _=>rfl) fun f fd F=>Qv F HA qX
  have HU:=T.qf.ma (P:=l.prog) (w:=w) (mg:=mg) (base:=base) (x:="Uses") (ps:=["self"]) (fun _ _ _ _ _ _=>us1 fun _=>rfl) T.qR.mks T.qR.kp n_Uses fun f fd F=>VR F UN
  have HR:=T.qa.me (P:=l.prog) (w:=w) (mg:=mg) (base:=base) (ps:=lS2) (fun _ _ _ _ _ _=>us4 fun _ _ _ _=>rfl) fun f fd F=>Qy (T1:=89) (T2:=96) F UN
  have HC:=T.qg.me (P:=l.prog) (w:=w) (mg:=mg) (base:=base) (ps:=lS10) (fun _ _ _ _ _ _=>us3 fun _ _ _=>rfl) fun f fd F=>Qz (T1:=89) (T2:=96) F UN qy
  have HD:=DfIn.ca (P:=l.prog) (w:=w) (base:=base) X G T.qs (ps:=lS11) (fun _ _ _ _ _ _=>us3 fun _ _ _=>rfl) fun f fd F=>VS F UN HR HC
  have HB:=DfIn.ca X G T.qt (ps:=lS9) (fun _ _ _ _ _ _=>us3 fun _ _ _=>rfl) fun f fd F=>VU F UN HR HD HN
  have HL:=DfIn.ca X G T.qC (ps:=["program"]) (fun _ _ _ _ _ _=>us1 fun _=>rfl) fun f fd F=>QC F UN HU HI HB qy
  have HO:=DfIn.ca (P:=l.prog) (w:=w) (base:=base) X G T.qD (ps:=["program","uses"]) (fun _ _ _ _ _ _=>us2 fun _ _=>rfl) fun f fd F=>zbz (T1:=89) (T2:=96) F UN qP qV
  have HS:=DfIn.ca X G T.qI (ps:=["program"]) (fun _ _ _ _ _ _=>us1 fun _=>rfl) fun f fd F=>Yx F UN HL HO qV
  have HX:=DfIn.ca X G T.qJ (ps:=["program"]) (fun _ _ _ _ _ _=>us1 fun _=>rfl) fun f fd F=>X9 F HS qV qP qQ
  have LD:=DfIn.ca (P:=l.prog) (w:=w) (base:=base) X G T.qu (ps:=lS8) (fun _ _ _ _ _ _=>us2 fun _ _=>rfl) fun f fd F=>qZ F qV
  have LN:=DfIn.ca (P:=l.prog) (w:=w) (base:=base) X G T.qv (ps:=lS6) (fun _ _ _ _ _ _=>us2 fun _ _=>rfl) fun f fd F=>zbH F
  have LL:=DfIn.ca X G T.qw (ps:=lS3) (fun _ _ _ _ _ _=>us4 fun _ _ _ _=>rfl) fun f fd F=>QJ F LN qP qQ
  have LA:=DfIn.ca X G T.qx (ps:=lS0) (fun _ _ _ _ _ _=>us6 fun _ _ _ _ _ _=>rfl) fun f fd F=>QK F LN qP qQ
  have LC:=DfIn.ca X G T.qp (ps:=lS1) (fun _ _ _ _ _ _=>us6 fun _ _ _ _ _ _=>rfl) fun f fd F=>Je F LD LN LL LA qP qQ qW
  exact zbO FL LD LN LC HS HX qP qV qS qQ qT qK
end GN
namespace PySem.W.Fast
def tw2001126828312972708:=()
def tw13060985748783190093:=()
def tw3779738233770936201:=()
def tw16650627457789755910:=()
def tw14472383791518064673:=()
def tw1901665306695189390:=()
def tw11118963580908282613:=()
def tw6589503818746458305:=()
def tw2136930352443227624:=()
def tw11870878319071445840:=()
def tw3942799823268188171:=()
def tw15926187581902260284:=()
def tw17652592584405826021:=()
def tw10767048059547530840:=()
def tw1658630085459350212:=()
def tw4846405855708038591:=()
def tw4048409456522418298:=()
def tw10507297421687737044:=()
def tw4615011382417694343:=()
def tw14396399391888716187:=()
def tw3331622091454107846:=()
def tw12991890955874950503:=()
def tw5465028110191442623:=()
def tw9965123061182113853:=()
def tw10144360969317711152:=()
def tw11478307155026958147:=()
def tw17012202958439100276:=()
def tw17111303592638062195:=()
def tw10124807485759811563:=()
def tw11298698096386679786:=()
def tw9582691081773096991:=()
def tw16148897101847951827:=()
def tw8210925618626882744:=()
def tw9348273011566294011:=()
def tw50827142966844318:=()
def tw2418150893094211206:=()
def tw4185522724093461403:=()
def tw11191038171321881893:=()
def tw11468168110641267432:=()
def tw6316952589608017036:=()
def tw6607961825843192207:=()
def tw4065021970399055002:=()
def tw16588969591937369420:=()
def tw2059799581680316080:=()
def tw4212695179780604112:=()
def tw14004852982208379993:=()
def tw4224623326024811450:=()
def tw17506155064106809690:=()
def tw15018945098557880317:=()
def tw12951492135224936832:=()
def tw11943392488926333940:=()
def tw14840356908495626454:=()
def tw3494579953872538505:=()
def tw1743288398826448894:=()
def tw3704497587273643452:=()
def tw4163873415713573243:=()
def tw4946229041632739397:=()
def tw5752104503616516844:=()
def tw657270264953362090:=()
def tw6384078123637438292:=()
def tw17457831570724819740:=()
def tw4836871749946176454:=()
def tw8413374011742153058:=()
def tw4598235740836346727:=()
def tw11438184825739501647:=()
def tw10380814806003137164:=()
def tw5435108932226405501:=()
def tw17717865705779996114:=()
def tw324890231801273984:=()
def tw7090547130619012401:=()
def tw15614481061439367919:=()
def tw6975166446299923866:=()
def tw15333466195859131801:=()
def tw17763047102182832119:=()
def tw3095930635740178724:=()
def tw7499836281911180134:=()
def tw16496770179470781951:=()
def tw16935922450581552923:=()
def tw4969950158502600330:=()
def tw16077499261058528443:=()
def tw2890173561909106874:=()
def tw17932638784854366760:=()
def tw17581240619378352568:=()
def tw18188900196605687881:=()
def tw10305249885941595831:=()
def tw12664477162748601409:=()
def tw7358335375451271448:=()
def tw2076769080353844071:=()
def tw10161257370941182252:=()
def tw9803274619736500542:=()
def tw6702517484032476218:=()
def tw12684443753814740664:=()
def tw16751616662642863586:=()
def tw993919610095893315:=()
def tw9690532102141907617:=()
def tw773274410929043297:=()
def tw1531497844815744489:=()
def tw11687432449465384581:=()
def tw15460362968762699733:=()
def tw17173613627867819864:=()
def tw9576799167097250073:=()
def tw5166440100785425037:=()
def tw9700202904997419409:=()
def tw158762798255355291:=()
def tw11164383323573093818:=()
def tw3802489735439968827:=()
def tw4318237610340525698:=()
def tw12100128526130693075:=()
def tw15595394616172452723:=()
def tw3668676916162196066:=()
def tw14765589500257572354:=()
def tw1509109842769973785:=()
def tw134771533537862651:=()
def tw2172223790113575403:=()
def tw17065860692714266568:=()
def tw3622590508642385829:=()
def tw4958563566743705007:=()
def tw6613969379781087615:=()
def tw662401931488394457:=()
def tw12530181862477151290:=()
def tw4913020665877948136:=()
def tw16485490423934779353:=()
def tw814773743138575118:=()
def tw4941998351166001327:=()
def tw13185772674248756955:=()
def tw6573382527924533829:=()
def tw224543553061734234:=()
def tw3158073803299959269:=()
def tw17435010461067866038:=()
def tw3801344094084258464:=()
def tw9868599146522274632:=()
def tw7582825075821635340:=()
def tw8241107000452746942:=()
def tw18080749479451742145:=()
def tw16983878778472839599:=()
def tw10283939321002999319:=()
def tw3183302628114560944:=()
def tw16949818186881419658:=()
def tw3442611163780829244:=()
def tw14715687354755095620:=()
def tw12536965116616319381:=()
def tw10261747132620217800:=()
def tw4375849046529705358:=()
def tw12969901537205477233:=()
def tw5384868061409001744:=()
def tw10964056061805650621:=()
def tw4153372586337117782:=()
def tw11529912688006217074:=()
def tw14719240500845514984:=()
def tw16518470067482564516:=()
def tw10736929252380589870:=()
def tw13935803460734830128:=()
def tw10368552497448764719:=()
def tw12724610174085620764:=()
def tw12808681129572221498:=()
def tw2705628147384678838:=()
def tw14396897742181745858:=()
def tw18227344580641790306:=()
def tw7220399827265725458:=()
end PySem.W.Fast
open PySem PySem.W PyProof.Rows
set_option maxRecDepth 100000 in
set_option maxHeartbeats 0 in
theorem PySem.Challenge.cw_reusewise_k54_a_long_chain_holds : PySem.Challenge.rw_reusewise_k54_a_long_chain.Holds := by
  w_on; o_law; k_head; (case hw=>w_witness2)
  k_fill
  refine L2.walkTs (l:=PySem.Challenge.rw_reusewise_k54_a_long_chain) (k:=14) (Ts:=[96,89]) rfl ⟨rfl,by decide,by decide⟩ rfl rfl (fun p T hT=>by
    simp only [List.mem_cons,List.not_mem_nil,or_false] at hT
    rcases hT with rfl | rfl
    · exact ⟨98,rfl⟩
    · exact ⟨93,rfl⟩
    ) (fun p T hT=>by
    simp only [List.mem_cons,List.not_mem_nil,or_false] at hT
    rcases hT with rfl | rfl
    · exact rfl
    · exact rfl
    ) ?F
  case F =>
    intro w mg fa h KX G hm
    refine' GN.top_ok (GN.TopK.mk ?qL ?qh ?qi ?qc ?qR ?qj ?qk ?ql ?qM ?qm ?hc1 ?hc2 ?qF ?qb ?qz ?qn ?qG ?qA ?qB ?qo ?qH ?qN ?qd ?qq ?qO ?qe ?qr ?qf ?qa ?qg ?qs ?qt ?qC ?qD ?qI ?qJ ?qu ?qv ?qw ?qx ?qp ?qU ?qV ?qP ?qS ?qQ ?qW ?qT ?qX ?qE ?qy ?qY ?qK) KX G hm
    (case qL | qR=>(refine' L2.OwnIn.mk ?n ?pg ?hd ?po ?sa ?mks ?kp; (case n=>k_is); (case pg=>k_is); (case hd=>k_is); (case po=>k_is); (case sa=>k_is); (case mks=>k_is); (case kp=>k_is)))
    (case qh | qi | qc | qj | qk | ql | qV | qP | qS | qQ | qW | qT | qX | qE | qy | qY | qK=>k_is)
    (case qM | qm=>(refine' L2.DcIn.mk ?a ?l ?c ?k; (case a=>k_is); (case l=>k_is); (case c=>k_is); (case k=>k_is)))
    (case hc1 | hc2=>(exact rfl))
    (case qF | qz | qn | qG | qA | qB | qo | qH | qN | qd | qq | qO | qe | qr | qs | qt | qC | qD | qI | qJ | qu | qv | qw | qx | qp | qU=>(refine' L2.DfIn.mk ?a ?l ?c ?k; (case a=>k_is); (case l=>k_is); (case c=>k_is); (case k=>k_is)))
    (case qb | qf | qa | qg=>(refine' L2.MeIn.mk ?a ?l ?c ?k ?n; (case a=>k_is); (case l=>k_is); (case c=>k_is); (case k=>k_is); (case n=>k_is)))
#print axioms PySem.Challenge.cw_reusewise_k54_a_long_chain_holds
