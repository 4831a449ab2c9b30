import PyProof.Rows.All
import Wide.All
import OpenK.AllK
import Wide.FinOn
import Lean
import PyProof.EqAt
import PyProof.EqKinds
import PyProof.TupleCall
import PyProof.PassesOwn
import PyProof.StationsW
import OpenK.KCls
import PyProof.ExcAttrAll.ValueError
import PyProof.ExcClass3
import PyProof.WalksEnum
import PyProof.EnumMake
import PyProof.EnumFor
import PyProof.EnumStmt
import PyProof.MeetsStr
import PyProof.StrLawsTight
import PyProof.NeKinds
import PyProof.Rows.SumAny
import PyProof.SeqI3
import PyProof.ZipIter
import PyProof.WalksMore
import PyProof.ListNew
import KE.KRevIter
import PyProof.AutoSeq1
import PyProof.FactsAll.list
import PyProof.IsRules
import KE.KItemsList
import PyProof.StrBlockL
import PyProof.StrBlockI
import PyProof.StrBlock2
import PyProof.StrLawsIn
import PyProof.StrLawsChain
import PyProof.Rows.StrLast
import PyProof.Rows.StrItems
import KE.IntTextText
import KE.KDictList
import KE.KLam
import KE.KNestM
import PyProof.IsiTupleOf
import KE.KDictSum
import PyProof.Rows.SortWalk
import KE.KDictOf
import PyProof.Draws
import PyProof.DictWalks
import PyProof.AttrMissHeap
import PyProof.Walks
import PyProof.Rows.BitMore
import KE.KIntText
import KE.KEqDict
import PyProof.FactsAll.object_1
import PyProof.CallType
import PyProof.TupleOfSeq
import PyProof.TupleOfGen
import PySem.Challenge.RW_reusewise_k66_tight
set_option Elab.async false
set_option linter.all false
set_option maxRecDepth 100000
set_option maxHeartbeats 4000000
abbrev L2.lS0:List PySem.Str:=["_law_state","_law_mine","_law_lent","_law_k","_law_room","_law_world_here"]
abbrev L2.lS1:List PySem.Str:=["_law_state","_law_mine","_law_lent","_law_x","_law_one","_law_k","_law_room","_law_world_here"]
abbrev L2.lS2:List PySem.Str:=["_law_state","_law_many"]
abbrev L2.lS3:List PySem.Str:=["_law_state","_law_mine","_law_lent","_law_x","_law_k","_law_room","_law_world_here"]
abbrev L2.lS4:List PySem.Str:=["_law_body_here","_law_mine","_law_owns"]
abbrev L2.lS5:List PySem.Str:=["_law_state","_law_mine","_law_name_here","_law_world_here"]
abbrev L2.lS6:List PySem.Str:=["_law_world_here","_law_k"]
abbrev L2.lS7:List PySem.Str:=["_law_body_here","_law_name_here"]
abbrev L2.lS8:List PySem.Str:=["_law_state","_law_mine","_law_many"]
abbrev L2.lS9:List PySem.Str:=["_law_state","_law_mine","_law_lent","_law_world_here"]
abbrev L2.lS10:List PySem.Str:=["_law_state","_law_mine","_law_lent","_law_one"]
abbrev L2.lS11:List PySem.Str:=["body","ways","notes","bits"]
abbrev L2.lS12:List PySem.Str:=["_law_state","_law_world_here","_law_room"]
abbrev L2.lS13:List PySem.Str:=["body","bits"]
abbrev L2.lS14:List PySem.Str:=["_law_mine","_law_deed_here","_law_owns"]
abbrev L2.lS15:List PySem.Str:=["self","within","finish"]
abbrev L2.lS16:List PySem.Str:=["owns","bits","body","held"]
abbrev L2.lS17:List PySem.Str:=["body","note","held"]
abbrev L2.lS18:List PySem.Str:=["_law_got","_law_due"]
abbrev L2.lS19:List PySem.Str:=["names","bits"]
theorem L2.sN0:0<=PySem.sizeLine:=by decide
theorem L2.sN1:1<=PySem.sizeLine:=by decide
theorem L2.sN2:2<=PySem.sizeLine:=by decide
theorem L2.sN3:3<=PySem.sizeLine:=by decide
theorem L2.sN4:4<=PySem.sizeLine:=by decide
theorem L2.sN5:5<=PySem.sizeLine:=by decide
namespace L2
open PySem PySem.Spec PyProof.Rows
abbrev Key:=Sum Int Str
def vd:Key->Value->Bool
  | .inl k,v=>Value.isInt k v
  | .inr x,v=>Value.isStrOf x v
def keyH (w:World):Key->Int
  | .inl k=>hashInt k
  | .inr x=>hashStr w x
theorem zN:∀ {k:Key} {v:Value},vd k v=true->(∃ i t,k=Sum.inl i/\v=Value.int i t)\/(∃ x t,k=Sum.inr x/\v=Value.str x t)
  | .inl i,v,h=>by
    obtain ⟨t,e⟩:=Value.isInt_shape (k:=i) (v:=v) h
    exact .inl ⟨i,t,rfl,e⟩
  | .inr x,v,h=>by
    obtain ⟨t,e⟩:=Value.isStrOf_shape (x:=x) (v:=v) h
    exact .inr ⟨x,t,rfl,e⟩
theorem Xm (i:Int) (t:Tok):vd (.inl i) (.int i t)=true:=by simp [vd,Value.isInt]
theorem Xn (x:Str) (t:Tok):vd (.inr x) (.str x t)=true:=by simp [vd,Value.isStrOf]
theorem zae (a b:Int):decide ((Sum.inl a:Key)=Sum.inl b)=(a == b):=by
  by_cases e:a=b
  · subst e; simp
  · have h:¬ (Sum.inl a:Key)=Sum.inl b:=fun q=>e (Sum.inl.inj q)
    rw [decide_eq_false h]
    exact (beq_eq_false_iff_ne.mpr e).symm
theorem zaf (a b:Str):decide ((Sum.inr a:Key)=Sum.inr b)=decide (a=b):=by
  by_cases e:a=b
  · subst e; simp
  · have h:¬ (Sum.inr a:Key)=Sum.inr b:=fun q=>e (Sum.inr.inj q)
    rw [decide_eq_false h,decide_eq_false e]
theorem zag (a:Int) (b:Str):decide ((Sum.inl a:Key)=Sum.inr b)=false:=decide_eq_false (fun q=>nomatch q)
theorem zah (a:Str) (b:Int):decide ((Sum.inr a:Key)=Sum.inl b)=false:=decide_eq_false (fun q=>nomatch q)
def zO (prog:Program) (w:World):PySem.KeyKind prog w Key where
  is:=vd
  hash:=keyH w
  inj:=fun v a b ha hb=>by
    rcases zN ha with ⟨i,t,rfl,rfl⟩ | ⟨x,t,rfl,rfl⟩
    · rcases zN hb with ⟨j,u,rfl,e⟩ | ⟨y,u,rfl,e⟩
      · injection e with e1 _; rw [e1]
      · exact nomatch e
    · rcases zN hb with ⟨j,u,rfl,e⟩ | ⟨y,u,rfl,e⟩
      · exact nomatch e
      · injection e with e1 _; rw [e1]
  byValue:=fun k v h=>by
    rcases zN h with ⟨i,t,rfl,rfl⟩ | ⟨x,t,rfl,rfl⟩ <;> rfl
  pyHash:=fun hv h=>by
    rcases zN hv with ⟨i,t,rfl,rfl⟩ | ⟨x,t,rfl,rfl⟩
    · exact wpAny_pyHash_int h
    · exact wpAny_pyHash_str h
  eqBool:=fun hu hv h=>by
    rcases zN hu with ⟨i,t,rfl,rfl⟩ | ⟨x,t,rfl,rfl⟩
    · rcases zN hv with ⟨j,u,rfl,rfl⟩ | ⟨y,u,rfl,rfl⟩
      · rw [zae] at h; exact wpAny_eqBool_int h
      · rw [zag] at h; exact SeqAt.EqAt.int_str i t y u _ _ _ _ h
    · rcases zN hv with ⟨j,u,rfl,rfl⟩ | ⟨y,u,rfl,rfl⟩
      · rw [zah] at h; exact SeqAt.EqAt.str_int x t j u _ _ _ _ h
      · rw [zaf] at h; exact wpAny_eqBool_str h
  «strs»:=fun k x t v h=>by
    rcases zN h with ⟨i,u,rfl,e⟩ | ⟨y,u,rfl,e⟩
    · exact nomatch e
    · injection e with e1 _
      subst e1
      cases v <;> rfl
theorem ZL (prog:Program) (w:World) (k:Key) (v:Value):(zO prog w).is k v=vd k v:=rfl
theorem j8 (prog:Program) (w:World) (i:Int) (t:Tok):(zO prog w).is (.inl i) (.int i t)=true:=Xm i t
theorem j9 (prog:Program) (w:World) (x:Str) (t:Tok):(zO prog w).is (.inr x) (.str x t)=true:=Xn x t
inductive V where
  | non | bl (b:Bool) | int (i:Int) | str (x:Str) | byt (b:Array UInt8) | flt (b:UInt64) | ref (a:Addr) | ty (n:String)
  deriving DecidableEq
def RelV:V->Value->Prop
  | .non,u=>u=Value.none
  | .bl b,u=>u=Value.bool b
  | .int i,u=>∃ t,u=Value.int i t
  | .str x,u=>∃ t,u=Value.str x t
  | .byt b,u=>∃ t,u=Value.bytes b t
  | .flt b,u=>∃ t,u=Value.float b t
  | .ref a,u=>u=Value.ref a
  | .ty n,u=>u=Value.type n
abbrev Vals:List V->List Value->Prop:=Paired RelV
theorem Vals.length {xs:List V} {us:List Value} (r:Vals xs us):xs.length=us.length:=Paired.length r
theorem Vals.get:∀ {xs:List V} {us:List Value} {i:Nat} {x:V},Vals xs us->xs[i]?=some x->∃ u,us[i]?=some u/\RelV x u
  | _,_,_,_,.nil,e=>by simp at e
  | _,_,0,_,.cons r _,e=>by simp at e; subst e; exact ⟨_,rfl,r⟩
  | _,_,i + 1,x,.cons _ t,e=>by
    obtain ⟨u,h1,h2⟩:=Vals.get (i:=i) (x:=x) t (by simpa using e)
    exact ⟨u,by simpa using h1,h2⟩
theorem Vals.set {x:V} {u:Value} (r:RelV x u):∀ {xs:List V} {us:List Value} (i:Nat),Vals xs us->Vals (xs.set i x) (us.set i u)
  | _,_,_,.nil=>.nil
  | _,_,0,.cons _ t=>.cons r t
  | _,_,i + 1,.cons q t=>.cons q (Vals.set r i t)
theorem Vals.append:∀ {xs ys:List V} {us ws:List Value},Vals xs us->Vals ys ws->Vals (xs ++ ys) (us ++ ws)
  | _,_,_,_,.nil,s=>s
  | _,_,_,_,.cons r t,s=>.cons r (Vals.append t s)
theorem Vals.take:∀ {xs:List V} {us:List Value} (n:Nat),Vals xs us->Vals (xs.take n) (us.take n)
  | _,_,0,_=>.nil
  | _,_,_ + 1,.nil=>.nil
  | _,_,n + 1,.cons r t=>.cons r (Vals.take n t)
theorem Vals.drop:∀ {xs:List V} {us:List Value} (n:Nat),Vals xs us->Vals (xs.drop n) (us.drop n)
  | _,_,0,r=>r
  | _,_,_ + 1,.nil=>.nil
  | _,_,n + 1,.cons _ t=>Vals.drop n t
def RelO:Option V->Option Value->Prop
  | some v,some u=>RelV v u
  | none,none=>True
  | _,_=>False
def KV {κ:Type}:List (κ × V)->List (κ × Value)->Prop:=Paired fun (p:κ × V) (q:κ × Value)=>p.1=q.1/\RelV p.2 q.2
def kV:Key->V
  | .inl i=>.int i
  | .inr x=>.str x
inductive HO where
  | lst (xs:List V)
  | tup (xs:List V)
  | dK (kvs:List (Key × V)) | dT (kvs:List (List Key × V))
  | set (S:Int->Bool) (n:Nat)
  | ins (C dx:Addr) (fs:List (Str × V))
  | own (x:Addr)
  | xd (fs:List (Str × V))
  | met (f x:Addr)
  | rng (lo hi:Int)
  | frz (o:Obj) (u:HO)
  | tbl (ps:Array Value)
  | ext (φ:Heap->Prop)
abbrev Hp:=Addr->Option HO
def upd (H:Hp) (a:Addr) (o:HO):Hp:=fun b=>if b=a then some o else H b
theorem zf {H:Hp} {a:Addr} {o:HO}:upd H a o a=some o:=by unfold upd; rw [if_pos rfl]
theorem zk {H:Hp} {a b:Addr} {o:HO} (h:b≠a):upd H a o b=H b:=by unfold upd; rw [if_neg h]
theorem wb {H:Hp} {a b:Addr} {o u:HO} (h:H a=some o) (h':H b=some u) (d:o≠u):a≠b:=by
  intro e; subst e; rw [h] at h'; exact d (Option.some.inj h')
theorem zn {H:Hp} {a b:Addr} {o:HO} (h:H a=some o) (h':H b=none):a≠b:=by
  intro e; subst e; rw [h] at h'; cases h'
def IsTupN (h:Heap) (a:Addr) (items:Array Value):Prop:=∃ o,h.get? a=some o/\o.cls=.type "tuple"/\o.dict=none/\∃ n,o.data=.seq items n
theorem IsTupN.is {h:Heap} {a:Addr} {items:Array Value} (x:IsTupN h a items):IsTup h a items:=let ⟨o,a,b,_,c⟩:=x; ⟨o,a,b,c⟩
theorem IsTupN.new (h:Heap) (items:Array Value):IsTupN (h.push { cls:=.type "tuple",data:=.seq items }) h.objs.size items:=⟨_,Heap.get?_push_size _ rfl,rfl,rfl,_,rfl⟩
section
variable (P:Program) (w:World)
def ObjOk (H:Hp) (h:Heap) (a:Addr):HO->Prop
  | .lst xs=>xs.length<=sizeLine/\∃ (its:List Value) (n:Nat),Vals xs its/\h.get? a=some { cls:=.type "list",data:=.seq its.toArray n }
  | .tup xs=>xs.length<=sizeLine/\∃ its:List Value,Vals xs its/\IsTupN h a its.toArray
  | .dK kvs=>kvs.length<=sizeLine/\(a == sysModules)=false/\∃ vs,KV kvs vs/\h.DictOf (zO P w) a vs
  | .dT kvs=>kvs.length<=sizeLine/\(a == sysModules)=false/\∃ xs:List (List Key × Addr × Value),
      Paired (fun (p:List Key × V) (q:List Key × Addr × Value)=>p.1=q.1/\H q.2.1=some (.tup (p.1.map kV))/\RelV p.2 q.2.2) kvs xs /\
      ∃ o es ep,h.get? a=some o/\o.ExactDict/\o.data=.dict es ep/\es.toList=xs.map (entryOfKey (tupleKind (zO P w)))/\(xs.map (·.1)).Nodup
  | .set S n=>h.SetOf (intKind P w) a S n
  | .ins C dx fs=>H dx=some (.own a)/\fs.length<=1000/\dx≠a/\h.get? a=some (PySem.W.instObj C dx) /\
      ∃ mA,h.Ns1 dx mA/\(∀ f,RelO (fs.lookup f) (mA f))/\PySem.Within mA (fs.map (·.1))
  | .own _=>∃ o,h.get? a=some o
  | .xd fs=>∃ mA,h.Ns1 a mA/\∀ f,RelO (fs.lookup f) (mA f)
  | .rng lo hi=>∃ t u v,h.get? a=some { cls:=.type "range",data:=.fields #[.int lo t,.int hi u,.int 1 v] }
  | .frz o u=>h.get? a=some o/\ObjOk H h a u
  | .tbl ps=>h.get? a=some { cls:=.none,data:=.fields ps }
  | .met f x=>h.get? a=some (PySem.W.methodObj (.ref f) (.ref x))
  | .ext φ=>φ h/\(∃ o,h.get? a=some o)/\∀ h1 h2:Heap,φ h1->(∀ o,h1.get? a=some o->h2.get? a=some o)->φ h2
def HOk (H:Hp) (h:Heap):Prop:=∀ a o,H a=some o->ObjOk P w H h a o
end
section
variable {P:Program} {w:World} {H H':Hp} {h h':Heap} {a:Addr} {o:HO}
theorem ObjOk.lt (x:ObjOk P w H h a o):a < h.objs.size:=by
  cases o with
  | lst xs=>obtain ⟨_,_,_,_,e⟩:=x; exact Heap.lt_size e
  | tup xs=>obtain ⟨_,_,_,p⟩:=x; exact p.is.lt
  | dK kvs=>obtain ⟨_,_,_,_,o,_,_,e,_⟩:=x; exact Heap.lt_size e
  | dT kvs=>obtain ⟨_,_,_,_,o,_,_,e,_⟩:=x; exact Heap.lt_size e
  | set S n=>obtain ⟨o,_,_,_,e,_⟩:=x; exact Heap.lt_size e
  | ins C dx fs=>obtain ⟨_,_,_,e,_⟩:=x; exact Heap.lt_size e
  | own y=>obtain ⟨_,e⟩:=x; exact Heap.lt_size e
  | xd fs=>obtain ⟨_,⟨_,_,_,e,_⟩,_⟩:=x; exact Heap.lt_size e
  | rng lo hi=>obtain ⟨_,_,_,e⟩:=x; exact Heap.lt_size e
  | frz ob u=>obtain ⟨e,_⟩:=x; exact Heap.lt_size e
  | tbl ps=>exact Heap.lt_size (show h.get? a=some _ from x)
  | met f y=>exact Heap.lt_size (show h.get? a=some _ from x)
  | ext φ=>obtain ⟨_,⟨_,e⟩,_⟩:=x; exact Heap.lt_size e
theorem Paired.mapP {α β:Type} {F G:α->β->Prop}:∀ {l₁:List α} {l₂:List β},Paired F l₁ l₂->(∀ a b,F a b->G a b)->Paired G l₁ l₂
  | _,_,.nil,_=>.nil
  | _,_,.cons r t,f=>.cons (f _ _ r) (Paired.mapP t f)
theorem ObjOk.stay (x:ObjOk P w H h a o) (k:∀ b u,(b=a\/H b=some (.own a))->h.get? b=some u->h'.get? b=some u)
    (ho:∀ b,H b=some (.own a)->H' b=some (.own a)) (ht:∀ b xs,H b=some (.tup xs)->H' b=some (.tup xs)):ObjOk P w H' h' a o:=by
  induction o with
  | lst xs=>obtain ⟨z,its,n,r,e⟩:=x; exact ⟨z,its,n,r,k _ _ (.inl rfl) e⟩
  | tup xs=>obtain ⟨z,its,r,ob,e,c⟩:=x; exact ⟨z,its,r,ob,k _ _ (.inl rfl) e,c⟩
  | dK kvs=>obtain ⟨z,y,vs,r,ob,es,ep,e,c⟩:=x; exact ⟨z,y,vs,r,ob,es,ep,k _ _ (.inl rfl) e,c⟩
  | dT kvs =>
    obtain ⟨z,y,xs,r,ob,es,ep,e,c⟩:=x
    exact ⟨z,y,xs,Paired.mapP r fun p q z=>⟨z.1,ht _ _ z.2.1,z.2.2⟩,ob,es,ep,k _ _ (.inl rfl) e,c⟩
  | set S n=>obtain ⟨ob,es,ep,t,e,c⟩:=x; exact ⟨ob,es,ep,t,k _ _ (.inl rfl) e,c⟩
  | ins C dx fs =>
    obtain ⟨d,z,ne,e,mA,⟨od,es,ep,e2,c⟩,r⟩:=x
    exact ⟨ho _ d,z,ne,k _ _ (.inl rfl) e,mA,⟨od,es,ep,k _ _ (.inr d) e2,c⟩,r⟩
  | own y=>obtain ⟨ob,e⟩:=x; exact ⟨ob,k _ _ (.inl rfl) e⟩
  | xd fs=>obtain ⟨mA,⟨od,es,ep,e,c⟩,r⟩:=x; exact ⟨mA,⟨od,es,ep,k _ _ (.inl rfl) e,c⟩,r⟩
  | rng lo hi=>obtain ⟨t,u,v,e⟩:=x; exact ⟨t,u,v,k _ _ (.inl rfl) e⟩
  | frz ob u ih=>obtain ⟨e,q⟩:=x; exact ⟨k _ _ (.inl rfl) e,ih q⟩
  | tbl ps =>
    have e:h.get? a=some { cls:=.none,data:=.fields ps }:=x
    show h'.get? a=some { cls:=.none,data:=.fields ps }
    exact k a _ (.inl rfl) e
  | met f y =>
    have e:h.get? a=some (PySem.W.methodObj (.ref f) (.ref y)):=x
    show h'.get? a=some (PySem.W.methodObj (.ref f) (.ref y))
    exact k a _ (.inl rfl) e
  | ext φ=>obtain ⟨p,⟨o,e⟩,st⟩:=x; exact ⟨st _ _ p fun o q=>k _ _ (.inl rfl) q,⟨o,k _ _ (.inl rfl) e⟩,st⟩
theorem HOk.lt (x:HOk P w H h) (e:H a=some o):a < h.objs.size:=(x a o e).lt
theorem HOk.fresh (x:HOk P w H h) (e:h.objs.size<=a):H a=none:=by
  cases q:H a with
  | none=>rfl
  | some u=>exact absurd (Nat.lt_of_lt_of_le (x.lt q) e) (Nat.lt_irrefl _)
theorem HOk.kept (x:HOk P w H h) (k:∀ b u,h.get? b=some u->h'.get? b=some u):HOk P w H h':=fun a o e =>
  (x a o e).stay (fun b u _ q=>k b u q) (fun _ q=>q) fun _ _ q=>q
theorem HOk.laid (x:HOk P w H h) (k:∀ b u,h.get? b=some u->h'.get? b=some u) (hp:h.objs.size<=a) (new:ObjOk P w (upd H a o) h' a o):HOk P w (upd H a o) h':=fun b u e=>by
  have hn:=x.fresh hp
  by_cases hb:b=a
  · subst hb; rw [zf] at e; cases e; exact new
  · rw [zk hb] at e
    exact (x b u e).stay (fun c v _ q=>k c v q) (fun c q=>by rw [zk (zn q hn)]; exact q) fun c xs q=>by rw [zk (zn q hn)]; exact q
end
def Rd (H:Hp) (a:Addr) (u:HO):Prop:=H a=some u\/∃ o,H a=some (.frz o u)
theorem Rd.ok {P:Program} {w:World} {H:Hp} {h:Heap} {a:Addr} {u:HO} (r:Rd H a u) (x:HOk P w H h):ObjOk P w H h a u:=by
  rcases r with r | ⟨o,r⟩
  · exact x a u r
  · obtain ⟨_,q⟩:=x a _ r
    exact q
def Mut:Option HO->Prop
  | some (.lst _)=>True
  | some (.dK _)=>True
  | some (.dT _)=>True
  | some (.set _ _)=>True
  | some (.ins _ _ _)=>True
  | some (.ext _)=>True
  | _=>False
section
variable {P:Program} {w:World} {H:Hp} {h h':Heap} {x e:Addr} {o':HO}
theorem HOk.write (ok:HOk P w H h) (mu:Mut (H x)) (he:e=x\/H e=some (.own x)) (k:∀ b u,b≠e->h.get? b=some u->h'.get? b=some u) (heo:∃ u,h'.get? e=some u)
    (new:ObjOk P w (upd H x o') h' x o'):HOk P w (upd H x o') h':=fun b u q=>by
  have nown:∀ c y,H c=some (.own y)->c≠x:=fun c y r z=>by subst z; rw [r] at mu; exact mu
  have ntup:∀ c xs,H c=some (.tup xs)->c≠x:=fun c xs r z=>by subst z; rw [r] at mu; exact mu
  by_cases hb:b=x
  · subst hb; rw [zf] at q; cases q; exact new
  · rw [zk hb] at q
    by_cases hbe:b=e
    · have q':H b=some (.own x):=by
        rcases he with z | z
        · exact absurd (hbe.trans z) hb
        · rw [hbe]; exact z
      rw [q] at q'; cases q'
      obtain ⟨v,hv⟩:=heo
      exact ⟨v,by rw [hbe]; exact hv⟩
    · refine (ok b u q).stay (fun c v hc r=>k c v ?_ r) (fun c r=>by rw [zk (nown c b r)]; exact r) fun c xs r=>by rw [zk (ntup c xs r)]; exact r
      rcases hc with rfl | hc
      · exact hbe
      · rintro rfl
        rcases he with z | z
        · exact nown c b hc z
        · rw [hc] at z; cases z; exact hb rfl
end
structure Un (fs ex:List Addr) (H H':Hp) (h h':Heap):Prop where
  keep:∀ b o,h.get? b=some o->H b=none->b ∉ fs->b ∉ ex->h'.get? b=some o
  slot:∀ b o,h.get? b=some o->H b=none->b∈fs->b ∉ ex->∃ sl,h'.get? b=some { o with slots:=sl }
  free:∀ b o,h.get? b=some o->H b=none->b ∉ ex->H' b=none
  there:∀ b o,h.get? b=some o->b ∉ ex->∃ o',h'.get? b=some o'
  tups:∀ b xs,H b=some (.tup xs)->H' b=some (.tup xs)
  frzs:∀ b o u,H b=some (.frz o u)->H' b=some (.frz o u)
  tbls:∀ b ps,H b=some (.tbl ps)->∃ more,H' b=some (.tbl (ps ++ more))
section
variable {fs fs' ex ex':List Addr} {H H1 H2:Hp} {h h1 h2 h':Heap} {a x e:Addr} {o:HO}
theorem Un.any (u:Un fs ex H H1 h h1) {b:Addr} {ob:Obj} (q:h.get? b=some ob) (n:H b=none) (hx:b ∉ ex):∃ sl,h1.get? b=some { ob with slots:=sl }:=by
  by_cases hb:b∈fs
  · exact u.slot b ob q n hb hx
  · exact ⟨ob.slots,u.keep b ob q n hb hx⟩
theorem Un.kept (k:∀ b u,h.get? b=some u->h'.get? b=some u):Un fs ex H H h h' :=
  ⟨fun b ob q _ _ _=>k b ob q,fun b ob q _ _ _=>⟨ob.slots,k b ob q⟩,fun _ _ _ n _=>n,fun b ob q _=>⟨ob,k b ob q⟩,fun _ _ q=>q,fun _ _ _ q=>q,fun _ ps q=>⟨#[],by rw [q]; simp⟩⟩
theorem Un.refl:Un fs ex H H h h:=Un.kept fun _ _ q=>q
theorem Un.laid (k:∀ b u,h.get? b=some u->h'.get? b=some u) (hp:h.objs.size<=a) (hn:H a=none):Un fs ex H (upd H a o) h h' where
  keep:=fun b u q _ _ _=>k b u q
  slot:=fun b u q _ _ _=>⟨u.slots,k b u q⟩
  free:=fun b u q n _=>by rw [zk (Nat.ne_of_lt (Nat.lt_of_lt_of_le (Heap.lt_size q) hp))]; exact n
  there:=fun b u q _=>⟨u,k b u q⟩
  tups:=fun b xs q=>by rw [zk (zn q hn)]; exact q
  frzs:=fun b u xs q=>by rw [zk (zn q hn)]; exact q
  tbls:=fun b ps q=>⟨#[],by rw [zk (zn q hn),q]; simp⟩
theorem Un.write (mu:Mut (H x)) (he:e=x\/H e=some (.own x)) (k:∀ b u,b≠e->h.get? b=some u->h'.get? b=some u) (heo:∃ u,h'.get? e=some u):Un fs ex H (upd H x o) h h':=by
  have hx:∀ b,H b=none->b≠x:=fun b n z=>by subst z; rw [n] at mu; exact mu
  have hb:∀ b,H b=none->b≠e:=fun b n z=>by
    subst z
    rcases he with r | r
    · exact hx b n r
    · rw [n] at r; cases r
  have hm:∀ b u,H b=some u->¬ Mut (some u)->b≠x:=fun b u q nm z=>by subst z; rw [q] at mu; exact nm mu
  refine ⟨fun b u q n _ _=>k b u (hb b n) q,fun b u q n _ _=>⟨u.slots,k b u (hb b n) q⟩,fun b u q n _=>by rw [zk (hx b n)]; exact n,fun b u q _=>?_,
    fun b xs q=>by rw [zk (hm b _ q fun z=>z)]; exact q,fun b u xs q=>by rw [zk (hm b _ q fun z=>z)]; exact q,fun b ps q=>⟨#[],by rw [zk (hm b _ q fun z=>z),q]; simp⟩⟩
  by_cases hbe:b=e
  · subst hbe; exact heo
  · exact ⟨u,k b u hbe q⟩
end
def trk (h:Heap) (H:Hp):List Addr:=(List.range h.objs.size).filter fun a=>(H a).isSome
def hidT (h:Heap) (H:Hp):Heap:=PySem.W.hideAll h (trk h H)
theorem Xo (h:Heap) (H:Hp):(hidT h H).objs.size=h.objs.size:=PySem.W.hideAll_size _ _
theorem Wh {h:Heap} {H:Hp} {b:Addr} {o:Obj} (e:h.get? b=some o) (n:H b=none):(hidT h H).get? b=some o :=
  PySem.W.hideAll_get _ e fun hm=>by
    have q:(H b).isSome=true:=(List.mem_filter.mp hm).2
    rw [n] at q; simp at q
theorem Jk {h:Heap} {H:Hp} {b:Addr} {o:Obj} (e:(hidT h H).get? b=some o):h.get? b=some o/\H b=none:=by
  have e':h.get? b=some o:=PySem.W.of_hideAll (trk h H) e
  refine ⟨e',?_⟩
  cases q:H b with
  | none=>rfl
  | some x =>
    have hm:b∈trk h H:=List.mem_filter.mpr ⟨List.mem_range.mpr (Heap.lt_size e'),by simp [q]⟩
    have z:(hidT h H).get? b=none:=PySem.W.hideAll_none (trk h H) hm
    rw [z] at e; cases e
def Jl (g h:Heap) (L:Addr):List (Addr × Obj):=(List.range h.objs.size).filterMap fun a=>if a=L\/(g.get? a).isSome=true then none else (h.get? a).map fun o=>(a,o)
def rest (g h:Heap) (L d:Addr):List (Addr × Obj):=(Jl g h L).filter fun p=>decide (p.1≠d)
structure Mod (K:PySem.W.Frag) (mg:Str->Option Value) (base:Heap):Prop where
  kin:K.In base
  glob:base.Ns mainGlobals mg
  blt:∃ mb,base.Ns builtinsNs mb/\∀ x:Str,x≠"__name__"->mb x=bootBuiltins x
  nolimit:base.NoLimit
structure Cx where
  prog:Program
  w:World
  K:PySem.W.Frag
  mg:Str->Option Value
  base:Heap
  A:Around
  N:List Str
  s₀:Shared
  H₀:Hp
  env:Env
  outer:List Env
  stack:List Env
  ex:List Addr
  fn:Str->Bool
  calm:Bool
  pn:List (Addr × Obj)
  xe:Value->Shared->Prop
def frs (l:List Env):List Addr:=l.filterMap (·.frame)
abbrev Cx.fs (X:Cx):List Addr:=frs X.outer
def Vis (sc:Scope) (x:Str):Prop:=sc.names.lookup x=some .local\/sc.names.lookup x=some .cell\/sc.names.lookup x=some .free
def Loc (sc:Scope) (x:Str):Prop:=sc.names.lookup x=some .local\/sc.names.lookup x=some .cell
def Look (env:Env) (h:Heap) (m:Str->Option Value) (x:Str) (u:Value):Prop :=
  (env.kindOf x=some .local/\m x=some u)\/((env.kindOf x=some .cell\/env.kindOf x=some .free)/\∃ c,env.cells.lookup x=some c/\h.IsCell c (some u))
structure Cx.Ok (X:Cx):Prop where
  mod:Mod X.K X.mg X.base
  kind:X.env.scope.kind=.function
  glob:X.env.globals=mainGlobals
  blt:X.env.builtins=builtinsNs
  above:X.s₀.heap.objs.size<=X.env.locals
  inj:∀ x y c,X.env.cells.lookup x=some c->X.env.cells.lookup y=some c->x=y
  has:∀ x,(X.env.kindOf x=some .cell\/X.env.kindOf x=some .free)->∃ c,X.env.cells.lookup x=some c
  cab:∀ x c,X.fn x=true->X.env.cells.lookup x=some c->X.s₀.heap.objs.size<=c
  hd:X.calm=true->X.A.handled=none
  frames:X.A.frames=some X.stack
  stk:X.stack=X.outer\/(X.stack=X.env :: X.outer/\X.env.frame=some X.env.locals)
  exf:∀ b∈X.ex,b≠X.env.locals/\∀ x c,X.env.cells.lookup x=some c->c≠b
  bs:∀ b o,X.base.get? b=some o->X.s₀.heap.get? b=some o/\X.H₀ b=none
  bsz:X.base.objs.size<=X.s₀.heap.objs.size
  noex:∀ b o,X.base.get? b=some o->b ∉ X.ex
  exfs:∀ b∈X.ex,b ∉ X.fs
  funs:X.s₀.heap.FunFrames X.base X.outer
  frf:∀ b∈X.fs,X.H₀ b=none
structure Inv (X:Cx) (pins:List (Addr × Obj)) (σ:List (Option V)) (H:Hp) (s:Shared):Prop where
  ok:X.Ok
  os:s.os=X.s₀.os
  bare:AllBare s.gens
  base:Un X.fs X.ex X.H₀ H X.s₀.heap s.heap
  loc:∃ m,s.heap.Ns X.env.locals m/\∀ (i:Nat) (x:Str) (v:V),X.N[i]?=some x->σ[i]?=some (some v)->Vis X.env.scope x->∃ u,RelV v u/\Look X.env s.heap m x u
  cell:∀ x c,X.env.cells.lookup x=some c->∃ v,s.heap.IsCell c v
  free:H X.env.locals=none
  freeC:∀ x c,X.env.cells.lookup x=some c->H c=none
  pin:∀ p∈X.pn ++ pins,s.heap.get? p.1=some p.2/\H p.1=none/\p.1≠X.env.locals/\p.1 ∉ X.fs/\∀ v,p.2.data≠.cell v
  hok:HOk X.prog X.w H s.heap
  len:σ.length=X.N.length
section
variable {X:Cx} {pins:List (Addr × Obj)} {σ:List (Option V)} {H H':Hp} {s:Shared} {h':Heap}
theorem Cx.Ok.nofr (ok:X.Ok) {b:Addr} {o:Obj} (e:X.base.get? b=some o):b ∉ X.fs:=fun hb=>by
  have:=(ok.funs.mem hb).1
  rw [e] at this; cases this
theorem Inv.bs (I:Inv X pins σ H s):∀ b o,X.base.get? b=some o->s.heap.get? b=some o/\H b=none:=fun b o e =>
  ⟨I.base.keep b o (I.ok.bs b o e).1 (I.ok.bs b o e).2 (I.ok.nofr e) (I.ok.noex b o e),I.base.free b o (I.ok.bs b o e).1 (I.ok.bs b o e).2 (I.ok.noex b o e)⟩
theorem Inv.bk (I:Inv X pins σ H s):∀ b o,X.base.get? b=some o->s.heap.get? b=some o:=fun b o e=>(I.bs b o e).1
theorem Inv.mod (I:Inv X pins σ H s):Mod X.K X.mg X.base:=I.ok.mod
theorem Inv.kIn (I:Inv X pins σ H s):X.K.In s.heap:=I.ok.mod.kin.keeps I.bk
theorem Inv.lt (I:Inv X pins σ H s):X.env.locals < s.heap.objs.size:=let ⟨_,hn,_⟩:=I.loc; hn.lt
theorem Inv.sz (I:Inv X pins σ H s):X.s₀.heap.objs.size<=s.heap.objs.size:=Nat.le_trans I.ok.above (Nat.le_of_lt I.lt)
theorem Inv.nofs (I:Inv X pins σ H s) {a:Addr} (h:s.heap.objs.size<=a):a ∉ X.fs:=fun hb=>by
  obtain ⟨_,o,ho,_⟩:=I.ok.funs.mem hb
  exact absurd (Nat.lt_of_lt_of_le (Heap.lt_size ho) (Nat.le_trans I.sz h)) (Nat.lt_irrefl _)
theorem Inv.cne (I:Inv X pins σ H s):∀ x c,X.env.cells.lookup x=some c->c≠X.env.locals:=fun x c e z=>by
  obtain ⟨v,o,ho,hd⟩:=I.cell x c e
  obtain ⟨m,⟨o',es,ep,ho',hd',_⟩,_⟩:=I.loc
  rw [z,ho'] at ho; cases ho; rw [hd'] at hd; cases hd
theorem Inv.funs (I:Inv X pins σ H s):s.heap.FunFrames X.base X.outer:=by
  have all:∀ (l:List Env),(∀ b∈frs l,b∈X.fs)->X.s₀.heap.FunFrames X.base l->s.heap.FunFrames X.base l:=by
    intro l
    induction l with
    | nil=>intro _ _; trivial
    | cons env r ih =>
      intro hs hl
      obtain ⟨hk,⟨L,o,hf,hn,ho,hd⟩,hr⟩:=hl
      have hL:L∈X.fs:=hs L (by unfold frs; rw [List.filterMap_cons,hf]; exact List.mem_cons_self)
      obtain ⟨sl,e⟩:=I.base.slot L o ho (I.ok.frf L hL) hL fun z=>I.ok.exfs L z hL
      exact ⟨hk,⟨L,_,hf,hn,e,hd⟩,ih (fun b hb=>hs b (by unfold frs; rw [List.filterMap_cons,hf]; exact List.mem_cons_of_mem _ hb)) hr⟩
  exact all X.outer (fun _ hb=>hb) I.ok.funs
theorem Inv.stack (I:Inv X pins σ H s):s.heap.FunFrames X.base X.stack:=by
  rcases I.ok.stk with e | ⟨e,hf⟩
  · rw [e]; exact I.funs
  · rw [e]
    obtain ⟨m,hn,_⟩:=I.loc
    refine .cons (by rw [I.ok.kind]; decide) hf hn ?_ I.funs
    exact Heap.get?_none_of_le (Nat.le_trans I.ok.bsz I.ok.above)
theorem Inv.stkSub (I:Inv X pins σ H s):∀ b∈frs X.stack,b∈X.env.locals :: X.fs:=fun b hb=>by
  rcases I.ok.stk with e | ⟨e,hf⟩
  · rw [e] at hb; exact List.mem_cons_of_mem _ hb
  · rw [e] at hb
    unfold frs at hb
    rw [List.filterMap_cons,hf] at hb
    exact hb
theorem Inv.stkFree (I:Inv X pins σ H s):∀ b∈frs X.stack,H b=none:=fun b hb=>by
  rcases List.mem_cons.mp (I.stkSub b hb) with e | hb
  · rw [e]; exact I.free
  · obtain ⟨_,o,ho,_⟩:=I.ok.funs.mem hb
    exact I.base.free b o ho (I.ok.frf b hb) fun z=>I.ok.exfs b z hb
theorem Inv.step {g':Array GenState} {t':Nat} {d':Drawn} {ch:List Addr} (I:Inv X pins σ H s)
    (hch:∀ b∈ch,(b∈X.ex\/X.s₀.heap.objs.size<=b)/\b≠X.env.locals/\(∀ x c,X.env.cells.lookup x=some c->c≠b)/\∀ p∈X.pn ++ pins,p.1≠b)
    (keep:∀ b o,b≠X.env.locals->b ∉ X.fs->b ∉ ch->s.heap.get? b=some o->H b=none->h'.get? b=some o)
    (slot:∀ b o,b≠X.env.locals->b∈X.fs->b ∉ ch->s.heap.get? b=some o->H b=none->∃ sl,h'.get? b=some { o with slots:=sl }) (free:∀ b o,b ∉ ch->s.heap.get? b=some o->H b=none->H' b=none)
    (there:∀ b o,b ∉ ch->s.heap.get? b=some o->∃ o',h'.get? b=some o')
    (tups:∀ b xs,H b=some (.tup xs)->H' b=some (.tup xs)) (frzs:∀ b o u,H b=some (.frz o u)->H' b=some (.frz o u)) (tbls:∀ b ps,H b=some (.tbl ps)->∃ more,H' b=some (.tbl (ps ++ more)))
    (ns:∀ m,s.heap.Ns X.env.locals m->h'.Ns X.env.locals m) (hok:HOk X.prog X.w H' h') (hg:AllBare g') :
    Inv X pins σ H' { s with heap:=h',gens:=g',drawn:=d',toks:=t' }:=by
  have neL:∀ b o,X.s₀.heap.get? b=some o->b≠X.env.locals:=fun b o e=>Nat.ne_of_lt (Nat.lt_of_lt_of_le (Heap.lt_size e) I.ok.above)
  have neC:∀ b o,X.s₀.heap.get? b=some o->b ∉ X.ex->b ∉ ch:=fun b o e hx hb=>by
    rcases (hch b hb).1 with z | z
    · exact hx z
    · exact absurd (Nat.lt_of_lt_of_le (Heap.lt_size e) z) (Nat.lt_irrefl _)
  have cellK:∀ x c,X.env.cells.lookup x=some c->∀ v,s.heap.IsCell c v->h'.IsCell c v:=fun x c e v ⟨o,ho,hd⟩=>by
    have nch:c ∉ ch:=fun z=>(hch c z).2.2.1 x c e rfl
    by_cases hc:c∈X.fs
    · obtain ⟨sl,q⟩:=slot c o (I.cne x c e) hc nch ho (I.freeC x c e)
      exact ⟨_,q,hd⟩
    · exact ⟨o,keep c o (I.cne x c e) hc nch ho (I.freeC x c e),hd⟩
  refine ⟨I.ok,I.os,hg,⟨fun b o e n hb hx=>?_,fun b o e n hb hx=>?_,fun b o e n hx=>?_,fun b o e hx=>?_,fun b xs e=>tups b xs (I.base.tups b xs e),fun b o xs e=>frzs b o xs (I.base.frzs b o xs e),fun b ps e=>?_⟩,?_,fun x c e=>?_,?_,fun x c e=>?_,fun p hp=>?_,hok,I.len⟩
  · exact keep b o (neL b o e) hb (neC b o e hx) (I.base.keep b o e n hb hx) (I.base.free b o e n hx)
  · obtain ⟨sl,e1⟩:=I.base.slot b o e n hb hx
    obtain ⟨sl',e2⟩:=slot b _ (neL b o e) hb (neC b o e hx) e1 (I.base.free b o e n hx)
    exact ⟨sl',e2⟩
  · obtain ⟨o',e1⟩:=I.base.there b o e hx
    exact free b o' (neC b o e hx) e1 (I.base.free b o e n hx)
  · obtain ⟨o',e1⟩:=I.base.there b o e hx
    exact there b o' (neC b o e hx) e1
  · obtain ⟨m1,e1⟩:=I.base.tbls b ps e
    obtain ⟨m2,e2⟩:=tbls b _ e1
    exact ⟨m1 ++ m2,by rw [e2,Array.append_assoc]⟩
  · obtain ⟨m,hn,hl⟩:=I.loc
    refine ⟨m,ns m hn,fun i x v e1 e2 e3=>?_⟩
    obtain ⟨u,r,l⟩:=hl i x v e1 e2 e3
    refine ⟨u,r,?_⟩
    rcases l with l | ⟨k,c,e,z⟩
    · exact .inl l
    · exact .inr ⟨k,c,e,cellK x c e _ z⟩
  · obtain ⟨v,z⟩:=I.cell x c e
    exact ⟨v,cellK x c e v z⟩
  · obtain ⟨m,⟨o,_,_,ho,_⟩,_⟩:=I.loc
    exact free _ o (fun z=>(hch _ z).2.1 rfl) ho I.free
  · obtain ⟨v,o,ho,hd⟩:=I.cell x c e
    exact free c o (fun z=>(hch c z).2.2.1 x c e rfl) ho (I.freeC x c e)
  · obtain ⟨e,n,ne,nf,d⟩:=I.pin p hp
    have nch:p.1 ∉ ch:=fun z=>(hch p.1 z).2.2.2 p hp rfl
    exact ⟨keep p.1 p.2 ne nf nch e n,free p.1 p.2 nch e n,ne,nf,d⟩
theorem Inv.un {t':Nat} (I:Inv X pins σ H s) (u:Un X.fs [] H H' s.heap h') (hok:HOk X.prog X.w H' h'):Inv X pins σ H' { s with heap:=h',toks:=t' }:=by
  obtain ⟨m,⟨o,es,ep,ho,r⟩,_⟩:=id I.loc
  obtain ⟨sl,hL⟩:=u.any ho I.free (by simp)
  exact I.step (g':=s.gens) (d':=s.drawn) (ch:=[]) (fun _ z=>nomatch z) (fun b o _ hb _ e n=>u.keep b o e n hb (by simp)) (fun b o _ hb _ e n=>u.slot b o e n hb (by simp)) (fun b o _ e n=>u.free b o e n (by simp)) (fun b o _ e=>u.there b o e (by simp)) u.tups u.frzs u.tbls (fun m' hm=>by
    obtain ⟨o',es',ep',ho',r'⟩:=hm
    rw [ho] at ho'; cases ho'
    exact ⟨_,es',ep',hL,r'⟩) hok I.bare
theorem Inv.call {g':Array GenState} {t':Nat} {d':Drawn} {ch:List Addr} (I:Inv X pins σ H s) (u:Un (frs X.stack) ch H H' s.heap h') (hok:HOk X.prog X.w H' h') (hg:AllBare g')
    (hch:∀ b∈ch,(b∈X.ex\/X.s₀.heap.objs.size<=b)/\b≠X.env.locals/\(∀ x c,X.env.cells.lookup x=some c->c≠b)/\∀ p∈X.pn ++ pins,p.1≠b) :
    Inv X pins σ H' { s with heap:=h',gens:=g',drawn:=d',toks:=t' }:=by
  obtain ⟨m,⟨o,es,ep,ho,r⟩,_⟩:=id I.loc
  obtain ⟨sl,hL⟩:=u.any ho I.free fun z=>(hch _ z).2.1 rfl
  exact I.step (ch:=ch) hch (fun b o hL hb hc e n=>u.keep b o e n (fun z=>(List.mem_cons.mp (I.stkSub b z)).elim hL hb) hc) (fun b o _ _ hc e n=>u.any e n hc) (fun b o hc e n=>u.free b o e n hc) (fun b o hc e=>u.there b o e hc) u.tups u.frzs u.tbls (fun m' hm=>by
    obtain ⟨o',es',ep',ho',r'⟩:=hm
    rw [ho] at ho'; cases ho'
    exact ⟨_,es',ep',hL,r'⟩) hok hg
theorem Inv.turned {t':Nat} {it:Addr} (I:Inv X pins σ H s) (k:∀ b o,b≠it->s.heap.get? b=some o->h'.get? b=some o) (hn:H it=none) (hL:it≠X.env.locals)
    (h1:it∈X.ex\/X.s₀.heap.objs.size<=it) (h2:∀ x c,X.env.cells.lookup x=some c->c≠it) (h3:∀ p∈X.pn ++ pins,p.1≠it):Inv X pins σ H { s with heap:=h',toks:=t' }:=by
  have nit:∀ b u,H b=some u->b≠it:=fun b u e z=>by rw [z,hn] at e; cases e
  refine I.step (g':=s.gens) (d':=s.drawn) (ch:=[it]) (fun b hb=>?_) (fun b o _ _ hc e _=>k b o (fun z=>hc (by simp [z])) e) (fun b o _ _ hc e _=>⟨o.slots,k b o (fun z=>hc (by simp [z])) e⟩) (fun _ _ _ _ n=>n)
    (fun b o hc e=>⟨o,k b o (fun z=>hc (by simp [z])) e⟩) (fun _ _ e=>e) (fun _ _ _ e=>e) (fun b ps e=>⟨#[],by rw [e]; simp⟩) (fun m hm=>?_) (fun b u e=>?_) I.bare
  · have e:b=it:=by simpa using hb
    subst e
    exact ⟨h1,hL,h2,h3⟩
  · obtain ⟨o,es,ep,ho,r⟩:=hm
    exact ⟨o,es,ep,k _ o (Ne.symm hL) ho,r⟩
  · refine (I.hok b u e).stay (fun c v hc q=>k c v ?_ q) (fun _ q=>q) fun _ _ q=>q
    rcases hc with z | z
    · rw [z]; exact nit b u e
    · exact nit c _ z
theorem Inv.tok (I:Inv X pins σ H s) (t:Nat):Inv X pins σ H { s with toks:=t }:=I.un (h':=s.heap) (t':=t) Un.refl I.hok
theorem Inv.kept {t':Nat} (I:Inv X pins σ H s) (k:∀ b u,s.heap.get? b=some u->h'.get? b=some u):Inv X pins σ H { s with heap:=h',toks:=t' }:=I.un (Un.kept k) (I.hok.kept k)
theorem Inv.laid {a:Addr} {o:HO} {t':Nat} (I:Inv X pins σ H s) (k:∀ b u,s.heap.get? b=some u->h'.get? b=some u) (hp:s.heap.objs.size<=a) (new:ObjOk X.prog X.w (upd H a o) h' a o) :
    Inv X pins σ (upd H a o) { s with heap:=h',toks:=t' }:=I.un (Un.laid k hp (I.hok.fresh hp)) (I.hok.laid k hp new)
theorem Inv.write {x e:Addr} {o:HO} {t':Nat} (I:Inv X pins σ H s) (mu:Mut (H x)) (he:e=x\/H e=some (.own x)) (k:∀ b u,b≠e->s.heap.get? b=some u->h'.get? b=some u) (heo:∃ u,h'.get? e=some u)
    (new:ObjOk X.prog X.w (upd H x o) h' x o):Inv X pins σ (upd H x o) { s with heap:=h',toks:=t' }:=I.un (Un.write mu he k heo) (I.hok.write mu he k heo new)
theorem Inv.pins_of {pins':List (Addr × Obj)} (I:Inv X pins σ H s) (h:∀ p∈pins',s.heap.get? p.1=some p.2/\H p.1=none/\p.1≠X.env.locals/\p.1 ∉ X.fs/\∀ v,p.2.data≠.cell v):Inv X pins' σ H s :=
  ⟨I.ok,I.os,I.bare,I.base,I.loc,I.cell,I.free,I.freeC,fun p hp=>(List.mem_append.mp hp).elim (fun z=>I.pin p (List.mem_append_left _ z)) (h p),I.hok,I.len⟩
theorem Za {N:List Str} (hN:N.Nodup) {i j:Nat} {x:Str} (a:N[i]?=some x) (b:N[j]?=some x):i=j:=by
  obtain ⟨h1,e1⟩:=List.getElem?_eq_some_iff.mp a
  obtain ⟨h2,e2⟩:=List.getElem?_eq_some_iff.mp b
  exact (List.getElem_inj hN).mp (e1.trans e2.symm)
theorem vZ {M:Model} {A:Around} {E:Value->Shared->Prop} {i:Nat} {x:Str} {v:V} {u:Value} {Q:Unit->Shared->Prop} (I:Inv X pins σ H s) (hN:X.N.Nodup) (hi:X.N[i]?=some x) (hx:Loc X.env.scope x) (r:RelV v u)
    (h:∀ s',Inv X pins (σ.set i (some v)) H s'->(∃ a,Heap.SameBut a s.heap s'.heap/\(a=X.env.locals\/X.env.cells.lookup x=some a))->Q () s') (hf:X.fn x=true\/X.env.scope.names.lookup x=some .local:=by first | exact .inl rfl | exact .inr rfl | assumption):wpAny M A (storeName X.env x u) Q E s:=by
  obtain ⟨m,hn,hl⟩:=id I.loc
  have hcls:(X.env.scope.kind == .class || (X.env.scope.kind == .module && X.env.locals != X.env.globals))=false:=by rw [I.ok.kind]; rfl
  have hiσ:i < σ.length:=by rw [I.len]; exact (List.getElem?_eq_some_iff.mp hi).1
  have cne:=I.cne
  have tracked:∀ {a:Addr} {h':Heap},(∃ o,s.heap.get? a=some o/\H a=none)->Heap.SameBut a s.heap h'->HOk X.prog X.w H h':=fun {a h'} ha hs b ob e=>by
    obtain ⟨_,_,hfree⟩:=ha
    refine (I.hok b ob e).stay (fun c w' hc q=>(hs.2 c ?_).trans q) (fun _ q=>q) fun _ _ q=>q
    rintro rfl
    rcases hc with rfl | hc
    · rw [hfree] at e; cases e
    · rw [hfree] at hc; cases hc
  rcases hx with hk | hk
  · refine wpAny_storeName_local hk hn (fun h' hn' hs=>?_) hcls
    obtain ⟨oL,_,_,hoL,_⟩:=id hn
    refine h _ ⟨I.ok,I.os,I.bare,⟨fun b o e n hb hx=>?_,fun b o e n hb hx=>?_,I.base.free,fun b o e hx=>?_,I.base.tups,I.base.frzs,I.base.tbls⟩,⟨_,hn',fun j y v' e1 e2 e3=>?_⟩,fun y c e=>?_,I.free,I.freeC,fun p hp=>?_,tracked ⟨oL,hoL,I.free⟩ hs,by simpa using I.len⟩ ⟨_,hs,.inl rfl⟩
    · exact (hs.2 b (Nat.ne_of_lt (Nat.lt_of_lt_of_le (Heap.lt_size e) I.ok.above))).trans (I.base.keep b o e n hb hx)
    · obtain ⟨sl,e1⟩:=I.base.slot b o e n hb hx
      exact ⟨sl,(hs.2 b (Nat.ne_of_lt (Nat.lt_of_lt_of_le (Heap.lt_size e) I.ok.above))).trans e1⟩
    · obtain ⟨o',e1⟩:=I.base.there b o e hx
      exact ⟨o',(hs.2 b (Nat.ne_of_lt (Nat.lt_of_lt_of_le (Heap.lt_size e) I.ok.above))).trans e1⟩
    · by_cases hj:j=i
      · subst hj
        rw [hi] at e1; cases e1
        rw [List.getElem?_set_self hiσ] at e2
        cases e2
        exact ⟨u,r,.inl ⟨hk,by simp⟩⟩
      · rw [List.getElem?_set_ne (Ne.symm hj)] at e2
        obtain ⟨u',r',q⟩:=hl j y v' e1 e2 e3
        refine ⟨u',r',?_⟩
        rcases q with ⟨k,e⟩ | ⟨k,c,e,z⟩
        · refine .inl ⟨k,?_⟩
          have:y≠x:=fun e=>hj (Za hN e1 (e ▸ hi))
          simp [this,e]
        · exact .inr ⟨k,c,e,z.sameBut hs (cne y c e)⟩
    · obtain ⟨w',z⟩:=I.cell y c e
      exact ⟨w',z.sameBut hs (cne y c e)⟩
    · obtain ⟨e,n,ne,nf,d⟩:=I.pin p hp
      exact ⟨(hs.2 p.1 ne).trans e,n,ne,nf,d⟩
  · have hfn:X.fn x=true:=by
      rcases hf with z | z
      · exact z
      · rw [z] at hk; cases hk
    obtain ⟨c,hc⟩:=I.ok.has x (.inl hk)
    obtain ⟨w',z⟩:=I.cell x c hc
    refine wpAny_storeName_cell I.ok.kind hk hc z (fun h' hc' hs=>?_)
    obtain ⟨oc,hoc,hocd⟩:=id z
    refine h { s with heap:=h' } ⟨I.ok,I.os,I.bare,⟨fun b o e n hb hx=>?_,fun b o e n hb hx=>?_,I.base.free,fun b o e hx=>?_,I.base.tups,I.base.frzs,I.base.tbls⟩,⟨m,hn.sameBut hs (Ne.symm (cne x c hc)),fun j y v' e1 e2 e3=>?_⟩,fun y c' e=>?_,I.free,I.freeC,fun p hp=>?_,tracked ⟨oc,hoc,I.freeC x c hc⟩ hs,by simpa using I.len⟩ ⟨c,hs,.inr hc⟩
    · exact (hs.2 b (Nat.ne_of_lt (Nat.lt_of_lt_of_le (Heap.lt_size e) (I.ok.cab x c hfn hc)))).trans (I.base.keep b o e n hb hx)
    · obtain ⟨sl,e1⟩:=I.base.slot b o e n hb hx
      exact ⟨sl,(hs.2 b (Nat.ne_of_lt (Nat.lt_of_lt_of_le (Heap.lt_size e) (I.ok.cab x c hfn hc)))).trans e1⟩
    · obtain ⟨o',e1⟩:=I.base.there b o e hx
      exact ⟨o',(hs.2 b (Nat.ne_of_lt (Nat.lt_of_lt_of_le (Heap.lt_size e) (I.ok.cab x c hfn hc)))).trans e1⟩
    · by_cases hj:j=i
      · subst hj
        rw [hi] at e1; cases e1
        rw [List.getElem?_set_self hiσ] at e2
        cases e2
        exact ⟨u,r,.inr ⟨.inl hk,c,hc,hc'⟩⟩
      · rw [List.getElem?_set_ne (Ne.symm hj)] at e2
        obtain ⟨u',r',q⟩:=hl j y v' e1 e2 e3
        refine ⟨u',r',?_⟩
        rcases q with q | ⟨k,c',e,z'⟩
        · exact .inl q
        · refine .inr ⟨k,c',e,z'.sameBut hs ?_⟩
          rintro rfl
          exact hj (Za hN e1 (I.ok.inj _ _ _ e hc ▸ hi))
    · by_cases hcc:c'=c
      · subst hcc; exact ⟨_,hc'⟩
      · obtain ⟨w2,z2⟩:=I.cell y c' e
        exact ⟨w2,z2.sameBut hs hcc⟩
    · obtain ⟨e,n,ne,nf,d⟩:=I.pin p hp
      refine ⟨(hs.2 p.1 ?_).trans e,n,ne,nf,d⟩
      intro q
      rw [q,hoc] at e
      have q':oc=p.2:=Option.some.inj e
      exact d w' (by rw [<- q']; exact hocd)
theorem Zb {M:Model} {A:Around} {E:Value->Shared->Prop} {i:Nat} {x:Str} {v:V} {u:Value} {Q:Unit->Shared->Prop} (I:Inv X pins σ H s) (hN:X.N.Nodup) (hi:X.N[i]?=some x) (hx:Loc X.env.scope x) (r:RelV v u)
    (h:∀ s',Inv X pins (σ.set i (some v)) H s'->Q () s') (hf:X.fn x=true\/X.env.scope.names.lookup x=some .local:=by first | exact .inl rfl | exact .inr rfl | assumption):wpAny M A (storeName X.env x u) Q E s :=
  vZ I hN hi hx r (fun s' I' _=>h s' I') hf
theorem Inv.call' {s':Shared} {ch:List Addr} (I:Inv X pins σ H s) (ho:s'.os=s.os) (u:Un (frs X.stack) ch H H' s.heap s'.heap) (hok:HOk X.prog X.w H' s'.heap) (hg:AllBare s'.gens)
    (hch:∀ b∈ch,(b∈X.ex\/X.s₀.heap.objs.size<=b)/\b≠X.env.locals/\(∀ x c,X.env.cells.lookup x=some c->c≠b)/\∀ p∈X.pn ++ pins,p.1≠b):Inv X pins σ H' s':=by
  obtain ⟨h',g',d',t',o'⟩:=s'
  have e:o'=s.os:=ho
  subst e
  exact I.call (g':=g') (t':=t') (d':=d') u hok hg hch
end
abbrev XK:=Value->Option Addr->Hp->Prop
abbrev St:=List (Option V)
abbrev VK:=V->Hp->Prop
abbrev TE:=St->Hp->VK->Prop
abbrev TT:=St->Hp->(Bool->Hp->Prop)->Prop
abbrev TA:=St->Hp->(List V->Hp->Prop)->Prop
structure Ends where
  nx:St->Hp->Prop
  rt:VK
  bk:St->Hp->Prop:=fun _ _=>False
  ct:St->Hp->Prop:=fun _ _=>False
abbrev TS:=Ends->St->Hp->Prop
def EP (X:Cx) (pins:List (Addr × Obj)) (σ:St) (Q:VK) (u:Value) (s':Shared):Prop:=∃ v H',Inv X pins σ H' s'/\RelV v u/\Q v H'
def TP (X:Cx) (pins:List (Addr × Obj)) (σ:St) (Q:Bool->Hp->Prop) (b:Bool) (s':Shared):Prop:=∃ H',Inv X pins σ H' s'/\Q b H'
def AP (X:Cx) (pins:List (Addr × Obj)) (σ:St) (Q:List V->Hp->Prop) (us:List Value) (s':Shared):Prop:=∃ vs H',Inv X pins σ H' s'/\Vals vs us/\Q vs H'
def SP (X:Cx) (pins:List (Addr × Obj)) (D:Ends) (f:Flow) (s':Shared):Prop :=
  match f with
  | .next=>∃ σ' H',Inv X pins σ' H' s'/\D.nx σ' H'
  | .brk=>∃ σ' H',Inv X pins σ' H' s'/\D.bk σ' H'
  | .cont=>∃ σ' H',Inv X pins σ' H' s'/\D.ct σ' H'
  | .ret u=>∃ v σ' H',Inv X pins σ' H' s'/\RelV v u/\D.rt v H'
def PE (X:Cx) (e:Expr) (t:TE):Prop :=
  ∀ (pins:List (Addr × Obj)) (s:Shared) (σ:St) (H:Hp) (Q:VK),Inv X pins σ H s->t σ H Q->wpAny (model X.prog X.w) X.A (eval e X.env) (EP X pins σ Q) X.xe s
def PT (X:Cx) (e:Expr) (t:TT):Prop :=
  ∀ (pins:List (Addr × Obj)) (s:Shared) (σ:St) (H:Hp) (Q:Bool->Hp->Prop),Inv X pins σ H s->t σ H Q->wpAny (model X.prog X.w) X.A (isTrue e X.env (eval e X.env)) (TP X pins σ Q) X.xe s
def PW (X:Cx) (e:Expr) (t:TT):Prop :=
  ∀ (whole:Sem Value) (pins:List (Addr × Obj)) (s:Shared) (σ:St) (H:Hp) (Q:Bool->Hp->Prop),Inv X pins σ H s->t σ H Q->wpAny (model X.prog X.w) X.A (isTrue e X.env whole) (TP X pins σ Q) X.xe s
theorem PW.pt {X:Cx} {e:Expr} {t:TT} (h:PW X e t):PT X e t:=h _
def PA (X:Cx) (es:List Expr) (t:TA):Prop :=
  ∀ (pos:Pos) (pins:List (Addr × Obj)) (s:Shared) (σ:St) (H:Hp) (Q:List V->Hp->Prop),Inv X pins σ H s->t σ H Q->wpAny (model X.prog X.w) X.A (spliced (backTo pos (starEach es X.env))) (AP X pins σ Q) X.xe s
def PS (X:Cx) (st:Stmt) (t:TS):Prop :=
  ∀ (pins:List (Addr × Obj)) (s:Shared) (σ:St) (H:Hp) (D:Ends),Inv X pins σ H s->t D σ H->wpAny (model X.prog X.w) X.A (exec st X.env) (SP X pins D) X.xe s
def PSs (X:Cx) (st:List Stmt) (t:TS):Prop :=
  ∀ (pins:List (Addr × Obj)) (s:Shared) (σ:St) (H:Hp) (D:Ends),Inv X pins σ H s->t D σ H->wpAny (model X.prog X.w) X.A (execs st X.env) (SP X pins D) X.xe s
theorem thn {α:Type} {t:Sem α} {Q Q':α->Shared->Prop} {M:Model} {A:Around} {E:Value->Shared->Prop} {s:Shared} (h:wpAny M A t Q E s) (hQ:∀ a s,Q a s->Q' a s):wpAny M A t Q' E s:=wpAny_mono h hQ fun _ _ x=>x
section
variable {X:Cx}
def tVar (i:Nat):TE:=fun σ H Q=>∃ v,σ[i]?=some (some v)/\Q v H
def tC (v:V):TE:=fun _ H Q=>Q v H
theorem zai {i:Nat} {x:Str} {pos:Pos} (hN:X.N[i]?=some x) (hv:Vis X.env.scope x) (hd:(x == ("__debug__":Str))=false:=by decide) (hcd:(x == ("__classdict__":Str))=false:=by decide):PE X (.Name x pos) (tVar i):=by
  intro pins s σ H Q I h
  obtain ⟨v,e,h⟩:=h
  obtain ⟨m,hn,hl⟩:=I.loc
  obtain ⟨u,r,l⟩:=hl i x v hN e hv
  have fin:EP X pins σ Q u s:=⟨v,H,I,r,h⟩
  rcases l with ⟨hk,hm⟩ | ⟨hk,c,hc,hcell⟩
  · exact wpAny_Name (wpAny_loadName_local I.ok.kind hk hn hm fin) hd
  · rcases hk with hk | hk
    · exact wpAny_Name (wpAny_loadName_cell I.ok.kind hk hc hcell fin) hd
    · exact wpAny_Name (wpAny_loadName_free I.ok.kind hk hc hcell fin hcd) hd
theorem zaj {i j pos}:PE X (.Constant (.int i) j pos) (tC (.int i)):=fun _ _ _ H _ I h=>wpAny_Constant_int ⟨.int i,H,I.tok _,⟨_,rfl⟩,h⟩
theorem zbt {b j pos}:PE X (.Constant (.bool b) j pos) (tC (.bl b)):=fun _ _ _ H _ I h=>Constant_bool ⟨.bl b,H,I,rfl,h⟩
theorem zak {x j pos}:PE X (.Constant (.str x) j pos) (tC (.str x)):=fun _ _ _ H _ I h=>Calls.Constant_str ⟨.str x,H,I.tok _,⟨_,rfl⟩,h⟩
def Gl (X:Cx) (x:Str):Prop:=X.env.kindOf x=some .globalImplicit
theorem wV {E:Value->Shared->Prop} {pins:List (Addr × Obj)} {s:Shared} {σ:St} {H:Hp} {x:Str} {u:Value} {pos:Pos} {Q:Value->Shared->Prop} (I:Inv X pins σ H s) (hg:Gl X x) (hm:X.mg x=some u) (h:Q u s)
    (hd:(x == ("__debug__":Str))=false:=by decide):wpAny (model X.prog X.w) X.A (eval (.Name x pos) X.env) Q E s :=
  Calls.Name_function_global I.ok.kind hg (Calls.loadGlobal_global (by rw [I.ok.glob]; exact I.mod.glob.keeps I.bk) hm h) hd
theorem xh {E:Value->Shared->Prop} {pins:List (Addr × Obj)} {s:Shared} {σ:St} {H:Hp} {x:Str} {u:Value} {pos:Pos} {Q:Value->Shared->Prop} (I:Inv X pins σ H s) (hg:Gl X x) (hm:X.mg x=none) (hv:bootBuiltins x=some u) (h:Q u s)
    (hn:x≠"__name__":=by decide) (hd:(x == ("__debug__":Str))=false:=by decide):wpAny (model X.prog X.w) X.A (eval (.Name x pos) X.env) Q E s:=by
  obtain ⟨mb,h1,h2⟩:=I.mod.blt
  exact Calls.Name_function_global I.ok.kind hg (Calls.loadGlobal_builtin (by rw [I.ok.glob]; exact I.mod.glob.keeps I.bk) hm (by rw [I.ok.blt]; exact h1.keeps I.bk) ((h2 x hn).trans hv) h) hd
theorem Jm {x:Str} {v:V} {u:Value} {pos:Pos} (hg:Gl X x) (hm:X.mg x=some u) (r:RelV v u) (hd:(x == ("__debug__":Str))=false:=by decide):PE X (.Name x pos) (tC v) :=
  fun _ _ _ H _ I h=>wV I hg hm ⟨v,H,I,r,h⟩ hd
variable {a b:Expr} {ta tb:TE} {pos:Pos}
def tB (t:TE):TT:=fun σ H Q=>t σ H fun x H1=>∃ c,x=.bl c/\Q c H1
theorem zal {e:Expr} {t:TE} (h:PE X e t) (he:∀ whole,isTrue e X.env whole=(do let v <- whole; standAt e.pos; holding [v] (truthy v)):=by intro _; rfl):PT X e (tB t):=by
  intro pins s σ H Q I hw
  refine isTrue_plain (thn (h pins s σ H _ I hw) fun v s1 ⟨x,H1,I1,r1,q1⟩=>?_) (he _)
  obtain ⟨d,rfl,q⟩:=q1
  cases r1
  exact wpAny_truthy_bool ⟨H1,I1,q⟩
variable {tA tB':TT} {rest:List Expr}
def tAnd (t u:TT):TT:=fun σ H Q=>t σ H fun c H1=>if c=true then u σ H1 Q else Q false H1
def tOr (t u:TT):TT:=fun σ H Q=>t σ H fun c H1=>if c=true then Q true H1 else u σ H1 Q
def tNot (t:TT):TT:=fun σ H Q=>t σ H fun c H1=>Q (!c) H1
theorem pw_and1 (ha:PT X a tA):PW X (.BoolOp .And [a] pos) tA:=by
  intro wh pins s σ H Q I h
  refine isTrue_and (thn (ha pins s σ H Q I h) fun c s1 e=>?_)
  cases c with
  | true=>exact isTrue_and_nil e
  | false=>exact e
theorem pw_or1 (ha:PT X a tA):PW X (.BoolOp .Or [a] pos) tA:=by
  intro wh pins s σ H Q I h
  refine isTrue_or (thn (ha pins s σ H Q I h) fun c s1 e=>?_)
  cases c with
  | false=>exact isTrue_or_nil e
  | true=>exact e
theorem pw_and (ha:PT X a tA) (hb:PW X (.BoolOp .And (b :: rest) pos) tB'):PW X (.BoolOp .And (a :: b :: rest) pos) (tAnd tA tB'):=by
  intro wh pins s σ H Q I h
  refine isTrue_and (thn (ha pins s σ H _ I h) fun c s1 ⟨H1,I1,q1⟩=>?_)
  cases c with
  | true=>exact hb wh pins s1 σ H1 Q I1 q1
  | false=>exact ⟨H1,I1,q1⟩
theorem pw_or (ha:PT X a tA) (hb:PW X (.BoolOp .Or (b :: rest) pos) tB'):PW X (.BoolOp .Or (a :: b :: rest) pos) (tOr tA tB'):=by
  intro wh pins s σ H Q I h
  refine isTrue_or (thn (ha pins s σ H _ I h) fun c s1 ⟨H1,I1,q1⟩=>?_)
  cases c with
  | true=>exact ⟨H1,I1,q1⟩
  | false=>exact hb wh pins s1 σ H1 Q I1 q1
theorem zam (ha:PT X a tA):PT X (.UnaryOp .Not a pos) (tNot tA):=by
  intro pins s σ H Q I h
  exact isTrue_not (ha pins s σ H (fun c H1=>Q (!c) H1) I h)
def QG (ta tb:TE):TE:=fun σ H Q=>ta σ H fun x H1=>∃ c,x=.bl c/\if c=true then tb σ H1 Q else Q (.bl false) H1
def tOrV (ta tb:TE):TE:=fun σ H Q=>ta σ H fun x H1=>∃ c,x=.bl c/\if c=true then Q (.bl true) H1 else tb σ H1 Q
theorem zan {op} {t:TE} (h:PE X a t):PE X (.BoolOp op [a] pos) t:=fun pins s σ H Q I hw=>BoolOp_one (h pins s σ H Q I hw)
theorem zao (ha:PE X a ta) (hb:PE X (.BoolOp .And (b :: rest) pos) tb):PE X (.BoolOp .And (a :: b :: rest) pos) (QG ta tb):=by
  intro pins s σ H Q I h
  refine BoolOp_and (thn (ha pins s σ H _ I h) fun v s1 ⟨x,H1,I1,r1,q1⟩=>?_)
  obtain ⟨c,rfl,q1⟩:=q1
  cases r1
  refine wpAny_truthy_bool ?_
  cases c with
  | true=>exact hb pins s1 σ H1 Q I1 q1
  | false=>exact ⟨.bl false,H1,I1,rfl,q1⟩
theorem zbu (ha:PE X a ta) (hb:PE X (.BoolOp .Or (b :: rest) pos) tb):PE X (.BoolOp .Or (a :: b :: rest) pos) (tOrV ta tb):=by
  intro pins s σ H Q I h
  refine BoolOp_or (thn (ha pins s σ H _ I h) fun v s1 ⟨x,H1,I1,r1,q1⟩=>?_)
  obtain ⟨c,rfl,q1⟩:=q1
  cases r1
  refine wpAny_truthy_bool ?_
  cases c with
  | false=>exact hb pins s1 σ H1 Q I1 q1
  | true=>exact ⟨.bl true,H1,I1,rfl,q1⟩
def tIf (t:TT) (ta tb:TE):TE:=fun σ H Q=>t σ H fun c H1=>if c=true then ta σ H1 Q else tb σ H1 Q
theorem Wi {c:Expr} (hc:PT X c tA) (ha:PE X a ta) (hb:PE X b tb):PE X (.IfExp c a b pos) (tIf tA ta tb):=by
  intro pins s σ H Q I h
  refine wpAny_IfExp (thn (hc pins s σ H _ I h) fun d s1 ⟨H1,I1,q1⟩=>?_)
  cases d with
  | true=>exact ha pins s1 σ H1 Q I1 q1
  | false=>exact hb pins s1 σ H1 Q I1 q1
end
def SqL (K:PySem.W.Frag) (H:Hp) (a:Addr) (xs:List V):Prop :=
  Rd H a (.lst xs) \/
    ∃ (o:Obj) (its:Array Value) (n:Nat),K.lookup a=some o/\o.cls=.type "list"/\o.dict=none/\o.data=.seq its n/\its.size<=sizeLine/\Vals xs its.toList
def SqT (K:PySem.W.Frag) (H:Hp) (a:Addr) (xs:List V):Prop :=
  Rd H a (.tup xs) \/
    ∃ (o:Obj) (its:Array Value) (n:Nat),K.lookup a=some o/\o.cls=.type "tuple"/\o.data=.seq its n/\its.size<=sizeLine/\Vals xs its.toList
def absV:Value->Option V
  | .none=>some .non
  | .bool b=>some (.bl b)
  | .int i _=>some (.int i)
  | .str x _=>some (.str x)
  | .bytes b _=>some (.byt b)
  | .float b _=>some (.flt b)
  | .ref a=>some (.ref a)
  | .type n=>some (.ty n)
  | _=>none
theorem RelV.abs {x:V} {u:Value} (r:RelV x u):absV u=some x:=by
  cases x with
  | non=>cases r; rfl
  | bl _=>cases r; rfl
  | int _=>obtain ⟨t,rfl⟩:=r; rfl
  | str _=>obtain ⟨t,rfl⟩:=r; rfl
  | byt _=>obtain ⟨t,rfl⟩:=r; rfl
  | flt _=>obtain ⟨t,rfl⟩:=r; rfl
  | ref _=>cases r; rfl
  | ty _=>cases r; rfl
theorem RelV.inj {x y:V} {u:Value} (r:RelV x u) (q:RelV y u):x=y:=Option.some.inj (r.abs.symm.trans q.abs)
theorem Vals.inj:∀ {xs ys:List V} {us:List Value},Vals xs us->Vals ys us->xs=ys
  | _,_,_,.nil,.nil=>rfl
  | _,_,_,.cons r t,.cons r' t'=>by rw [r.inj r',Vals.inj t t']
section
variable {X:Cx} {pins:List (Addr × Obj)} {σ:St} {H:Hp} {s:Shared} {a:Addr} {xs ys:List V}
theorem SqL.of {K:PySem.W.Frag} (h:H a=some (.lst xs)):SqL K H a xs:=.inl (.inl h)
theorem SqT.of {K:PySem.W.Frag} (h:H a=some (.tup xs)):SqT K H a xs:=.inl (.inl h)
theorem Inv.list (I:Inv X pins σ H s) (h:SqL X.K H a xs):∃ its:List Value,Vals xs its/\PlainL s.heap a its.toArray/\xs.length<=sizeLine:=by
  rcases h with h | ⟨o,its,n,hk,hc,hd,hs,hz,r⟩
  · obtain ⟨z,its,n,r,e⟩:=h.ok I.hok
    exact ⟨its,r,⟨_,n,e,rfl,rfl,rfl⟩,z⟩
  · refine ⟨its.toList,r,⟨o,n,I.kIn a o hk,hc,hd,by simpa using hs⟩,?_⟩
    have e:=r.length
    simp only [Array.length_toList] at e
    lia
theorem Inv.tuple (I:Inv X pins σ H s) (h:SqT X.K H a xs):∃ its:List Value,Vals xs its/\IsTup s.heap a its.toArray/\xs.length<=sizeLine:=by
  rcases h with h | ⟨o,its,n,hk,hc,hs,hz,r⟩
  · obtain ⟨z,its,r,p⟩:=h.ok I.hok
    exact ⟨its,r,p.is,z⟩
  · refine ⟨its.toList,r,⟨o,I.kIn a o hk,hc,n,by simpa using hs⟩,?_⟩
    have e:=r.length
    simp only [Array.length_toList] at e
    lia
theorem Inv.list_inj (I:Inv X pins σ H s) (h:SqL X.K H a xs) (h':SqL X.K H a ys):xs=ys:=by
  obtain ⟨its,r,⟨o,n,e,_,_,d⟩,_⟩:=I.list h
  obtain ⟨its',r',⟨o',n',e',_,_,d'⟩,_⟩:=I.list h'
  rw [e] at e'; cases e'
  rw [d] at d'
  injection d' with d1 _
  have:its=its':=by simpa using congrArg Array.toList d1
  subst this
  exact r.inj r'
theorem Inv.tuple_inj (I:Inv X pins σ H s) (h:SqT X.K H a xs) (h':SqT X.K H a ys):xs=ys:=by
  obtain ⟨its,r,⟨o,e,_,n,d⟩,_⟩:=I.tuple h
  obtain ⟨its',r',⟨o',e',_,n',d'⟩,_⟩:=I.tuple h'
  rw [e] at e'; cases e'
  rw [d] at d'
  injection d' with d1 _
  have:its=its':=by simpa using congrArg Array.toList d1
  subst this
  exact r.inj r'
end
abbrev Cx.wish (X:Cx) (E:Value->Shared->Prop):Cx:={ X with xe:=E }
abbrev Cx.nox (X:Cx):Cx:=X.wish fun _ _=>False
theorem Cx.Ok.wish {X:Cx} (ok:X.Ok) (E:Value->Shared->Prop):(X.wish E).Ok :=
  ⟨ok.mod,ok.kind,ok.glob,ok.blt,ok.above,ok.inj,ok.has,ok.cab,ok.hd,ok.frames,ok.stk,ok.exf,ok.bs,ok.bsz,ok.noex,ok.exfs,ok.funs,ok.frf⟩
theorem Cx.Ok.unwish {X:Cx} {E:Value->Shared->Prop} (ok:(X.wish E).Ok):X.Ok :=
  ⟨ok.mod,ok.kind,ok.glob,ok.blt,ok.above,ok.inj,ok.has,ok.cab,ok.hd,ok.frames,ok.stk,ok.exf,ok.bs,ok.bsz,ok.noex,ok.exfs,ok.funs,ok.frf⟩
section
variable {X:Cx} {pins:List (Addr × Obj)} {σ:St} {H:Hp} {s:Shared} {E:Value->Shared->Prop}
theorem Inv.wish (I:Inv X pins σ H s) (E:Value->Shared->Prop):Inv (X.wish E) pins σ H s:=⟨I.ok.wish E,I.os,I.bare,I.base,I.loc,I.cell,I.free,I.freeC,I.pin,I.hok,I.len⟩
theorem Inv.unwish (I:Inv (X.wish E) pins σ H s):Inv X pins σ H s:=⟨I.ok.unwish,I.os,I.bare,I.base,I.loc,I.cell,I.free,I.freeC,I.pin,I.hok,I.len⟩
theorem SP.unwish {D:Ends} {f:Flow} {s':Shared} (h:SP (X.wish E) pins D f s'):SP X pins D f s':=by
  cases f with
  | next=>obtain ⟨σ',H',I,q⟩:=h; exact ⟨σ',H',I.unwish,q⟩
  | brk=>obtain ⟨σ',H',I,q⟩:=h; exact ⟨σ',H',I.unwish,q⟩
  | cont=>obtain ⟨σ',H',I,q⟩:=h; exact ⟨σ',H',I.unwish,q⟩
  | ret u=>obtain ⟨v,σ',H',I,r,q⟩:=h; exact ⟨v,σ',H',I.unwish,r,q⟩
theorem PSs.nox {st:List Stmt} {t:TS} (h:PSs X.nox st t):PSs X st t:=fun pins s σ H D I hw =>
  wpAny_mono (h pins s σ H D (I.wish _) hw) (fun _ _ q=>q.unwish) fun _ _ z=>False.elim z
end
section
variable {X:Cx} {st:Stmt} {rest:List Stmt} {t u:TS} {e:Expr} {te:TE} {pos:Pos}
def v0:TS:=fun D σ H=>D.nx σ H
def tSeq (t u:TS):TS:=fun D σ H=>t { D with nx:=u D } σ H
theorem Jn:PSs X [] v0:=fun _ _ σ H _ I h=>wpAny_execs_nil ⟨σ,H,I,h⟩
theorem Wj (h1:PS X st t) (h2:PSs X rest u):PSs X (st :: rest) (tSeq t u):=by
  intro pins s σ H D I h
  refine wpAny_execs_cons (thn (h1 pins s σ H { D with nx:=u D } I h) fun f s1 q=>?_)
  cases f with
  | next =>
    obtain ⟨σ',H',I',q⟩:=q
    exact h2 pins s1 σ' H' D I' q
  | ret v=>exact q
  | brk=>exact q
  | cont=>exact q
theorem Jo (h1:PS X st t):PSs X [st] t:=by
  intro pins s σ H D I h
  refine wpAny_execs_cons (thn (h1 pins s σ H D I h) fun f s1 q=>?_)
  cases f with
  | next=>exact wpAny_execs_nil q
  | ret v=>exact q
  | brk=>exact q
  | cont=>exact q
theorem Inv.quiet {pins:List (Addr × Obj)} {σ:St} {H:Hp} {s:Shared} (I:Inv X pins σ H s):interactive X.env=false:=by simp [interactive,I.ok.kind]
def QH (te:TE):TS:=fun D σ H=>te σ H fun _ H1=>D.nx σ H1
theorem Jp (he:PE X e te) (hs:swapsWith e none pos.line X.env=pure false:=by rfl):PS X (.Expr e pos) (QH te):=by
  intro pins s σ H D I h
  exact wpAny_Expr_any (thn (he pins s σ H _ I h) fun v s1 ⟨x,H1,I1,r1,q1⟩=>⟨σ,H1,I1,q1⟩) I.quiet hs
def tRet (te:TE):TS:=fun D σ H=>te σ H D.rt
theorem zap (he:PE X e te):PS X (.Return (some e) pos) (tRet te):=by
  intro pins s σ H D I h
  exact wpAny_Return_some (thn (he pins s σ H _ I h) fun v s1 ⟨x,H1,I1,r1,q1⟩=>⟨x,σ,H1,I1,r1,q1⟩)
def tIfS (c:TT) (t u:TS):TS:=fun D σ H=>c σ H fun b H1=>if b=true then t D σ H1 else u D σ H1
theorem zbv {c:Expr} {a b:List Stmt} {tc:TT} (hc:PT X c tc) (ha:PSs X a t) (hb:PSs X b u):PS X (.If c a b pos) (tIfS tc t u):=by
  intro pins s σ H D I h
  refine wpAny_If (thn (hc pins s σ H _ I h) fun d s1 ⟨H1,I1,q1⟩=>?_)
  cases d with
  | true=>exact ha pins s1 σ H1 D I1 q1
  | false=>exact hb pins s1 σ H1 D I1 q1
end
abbrev TG:=V->St->Hp->(St->Hp->Prop)->Prop
abbrev TGs:=List V->St->Hp->(St->Hp->Prop)->Prop
def PG (X:Cx) (target:Expr) (t:TG):Prop :=
  ∀ (pins:List (Addr × Obj)) (s:Shared) (σ:St) (H:Hp) (v:V) (u:Value) (Q:St->Hp->Prop),Inv X pins σ H s->RelV v u->t v σ H Q ->
    wpAny (model X.prog X.w) X.A (assign target X.env u) (fun _ s'=>∃ σ' H',Inv X pins σ' H' s'/\Q σ' H') X.xe s
def PGs (X:Cx) (ts:List Expr) (t:TGs):Prop :=
  ∀ (pins:List (Addr × Obj)) (s:Shared) (σ:St) (H:Hp) (vs:List V) (us:List Value) (Q:St->Hp->Prop),Inv X pins σ H s->Vals vs us->t vs σ H Q ->
    wpAny (model X.prog X.w) X.A (assignInOrder ((assignEach ts X.env).map (·.2)) us) (fun _ s'=>∃ σ' H',Inv X pins σ' H' s'/\Q σ' H') X.xe s
abbrev TSet:=V->V->V->Hp->(Hp->Prop)->Prop
def PSet (X:Cx) (t:TSet):Prop :=
  ∀ (pins:List (Addr × Obj)) (s:Shared) (σ:St) (H:Hp) (o i v:V) (ov iv u:Value) (Q:Hp->Prop),Inv X pins σ H s->RelV o ov->RelV i iv->RelV v u->t o i v H Q ->
    wpAny (model X.prog X.w) X.A (setItem ov iv u) (fun _ s'=>∃ H',Inv X pins σ H' s'/\Q H') X.xe s
section
variable {X:Cx} {pos:Pos}
def ve (i:Nat):TG:=fun v σ H Q=>Q (σ.set i (some v)) H
theorem Jq {i:Nat} {x:Str} (hN:X.N.Nodup) (hi:X.N[i]?=some x) (hx:Loc X.env.scope x) (hf:X.fn x=true\/X.env.scope.names.lookup x=some .local:=by first | exact .inl rfl | exact .inr rfl | assumption):PG X (.Name x pos) (ve i):=by
  intro pins s σ H v u Q I r h
  exact wpAny_assign_Name (Zb I hN hi hx r (fun s' I'=>⟨_,H,I',h⟩) hf)
def gNil:TGs:=fun vs σ H Q=>vs=[]/\Q σ H
def QI (t:TG) (u:TGs):TGs:=fun vs σ H Q=>∃ v r,vs=v :: r/\t v σ H fun σ' H'=>u r σ' H' Q
theorem Jr:PGs X [] gNil:=by
  intro pins s σ H vs us Q I r h
  obtain ⟨e,h⟩:=h
  subst e
  cases r
  exact assignInOrder_nil ⟨σ,H,I,h⟩
theorem Wk {e:Expr} {es:List Expr} {t:TG} {u:TGs} (h1:PG X e t) (h2:PGs X es u)
    (hs:(assignEach (e :: es) X.env).map (·.2)=assign e X.env :: (assignEach es X.env).map (·.2):=by rfl):PGs X (e :: es) (QI t u):=by
  intro pins s σ H vs us Q I r h
  obtain ⟨v,vr,e1,h⟩:=h
  subst e1
  cases r with
  | cons r rr =>
    rw [hs]
    refine assignInOrder_cons (thn (h1 pins s σ H _ _ _ I r h) fun _ s1 ⟨σ1,H1,I1,q1⟩=>?_)
    exact h2 pins s1 σ1 H1 _ _ Q I1 rr q1
def gTup (K:PySem.W.Frag) (n:Nat) (t:TGs):TG:=fun v σ H Q=>∃ a xs,v=.ref a/\SqT K H a xs/\xs.length=n/\t xs σ H Q
theorem zaq {es:List Expr} {k:Nat} {t:TGs} {n:Nat} (hc:X.calm=true) (h:PGs X es t)
    (hn:(assignEach es X.env).length=n:=by rfl) (hst:(assignEach es X.env).findIdx? (·.1)=none:=by rfl):PG X (.Tuple es k pos) (gTup X.K n t):=by
  intro pins s σ H v u Q I r hw
  obtain ⟨a,xs,e1,hq,hl,hw⟩:=hw
  subst e1
  cases r
  obtain ⟨its,rv,ht,hz⟩:=I.tuple hq
  refine assign_Tuple_tuple (I.ok.hd hc) ht (by simp [hn,<- hl,rv.length]) hst fun h' hx=>?_
  have I1:Inv X pins σ H { s with heap:=h' }:=I.kept (t':=s.toks) fun b o e=>hx b o (Nat.ne_of_lt (Heap.lt_size e)) e
  exact h pins _ σ H xs _ Q I1 (by simpa using rv) hw
def gSub (to ti:TE) (t:TSet):TG:=fun v σ H Q=>to σ H fun o H1=>ti σ H1 fun i H2=>t o i v H2 fun H3=>Q σ H3
theorem zar {o i:Expr} {to ti:TE} {t:TSet} (ho:PE X o to) (hi:PE X i ti) (hs:PSet X t)
    (ha:∀ v,assign (.Subscript o i pos) X.env v=(do
      let ov <- holding [v] (eval o X.env)
      let iv <- holding [v,ov] (eval i X.env)
      standAt pos
      holding [v,ov,iv] (setItem ov iv v)
      release [v,ov,iv] []):=by intro _; rfl):PG X (.Subscript o i pos) (gSub to ti t):=by
  intro pins s σ H v u Q I r h
  rw [ha]
  refine wpAny_bind (wpAny_holding (thn (ho pins s σ H _ I h) fun ov s1 ⟨x,H1,I1,r1,q1⟩=>?_))
  refine wpAny_bind (wpAny_holding (thn (hi pins s1 σ H1 _ I1 q1) fun iv s2 ⟨y,H2,I2,r2,q2⟩=>?_))
  refine wpAny_bind (wpAny_standAt (wpAny_bind (wpAny_holding (thn (hs pins s2 σ H2 x y v ov iv u _ I2 r1 r2 r q2) fun _ s3 ⟨H3,I3,q3⟩=>?_))))
  exact wpAny_release ⟨σ,H3,I3,q3⟩
def tAsg (te:TE) (g:TG):TS:=fun D σ H=>te σ H fun x H1=>g x σ H1 D.nx
theorem zas {tg e:Expr} {te:TE} {g:TG} (he:PE X e te) (hg:PG X tg g) (hs:swapsWithSole [tg] e pos.line X.env=pure false:=by rfl) (hw:swappedStores [tg] e X.env=pure none:=by rfl)
    (h1:(assignEach [tg] X.env).map (·.2)=[assign tg X.env]:=by rfl):PS X (.Assign [tg] e pos) (tAsg te g):=by
  intro pins s σ H D I h
  refine wpAny_Assign_stores (thn (he pins s σ H _ I h) fun v s1 ⟨x,H1,I1,r1,q1⟩=>?_) hs hw
  rw [h1]
  exact thn (hg pins s1 σ H1 x v _ I1 r1 q1) fun _ s2 q=>q
theorem zat {i:Nat} {x:Str} {e:Expr} {te:TE} {pos':Pos} (hN:X.N.Nodup) (hi:X.N[i]?=some x) (hx:Loc X.env.scope x) (he:PE X e te) (hs:swapsWith e (some (.Name x pos')) pos.line X.env=pure false:=by rfl) (hf:X.fn x=true\/X.env.scope.names.lookup x=some .local:=by first | exact .inl rfl | exact .inr rfl | assumption) :
    PS X (.Assign [.Name x pos'] e pos) (tAsg te (ve i)):=by
  intro pins s σ H D I h
  refine wpAny_Assign_Name (thn (he pins s σ H _ I h) fun v s1 ⟨y,H1,I1,r1,q1⟩=>?_) hs
  exact Zb I1 hN hi hx r1 (fun s2 I2=>⟨_,H1,I2,q1⟩) hf
def Wl (c:TT) (tb:TS):TS:=fun D σ H=>∃ W:Nat->St->Hp->Prop,(∃ m,W m σ H)/\∀ m σ H,W m σ H ->
  c σ H fun b H1=>if b=true then ∃ N:St->Hp->Prop,(∀ σ' H',N σ' H'->∃ m',m' < m/\W m' σ' H')/\tb { D with nx:=N,ct:=N,bk:=D.nx } σ H1 else D.nx σ H1
theorem Wm {c:Expr} {body:List Stmt} {tc:TT} {tb:TS} (hp:PassesOwn (model X.prog X.w) X.A X.env X.xe) (hc:PT X c tc) (hb:PSs X body tb):PS X (.While c body [] pos) (Wl tc tb):=by
  intro pins s σ H D I h
  obtain ⟨W,⟨m0,w0⟩,turn⟩:=h
  refine wpAny_While (codeAny_whileLoop (fun n s'=>∃ σ' H',Inv X pins σ' H' s'/\W n σ' H') ?_ m0 ⟨σ,H,I,w0⟩)
  rintro n s1 ⟨σ1,H1,I1,w1⟩
  refine wpAny_passesOwn hp (thn (hc pins s1 σ1 H1 _ I1 (turn n σ1 H1 w1)) fun b s2 ⟨H2,I2,q2⟩=>?_)
  cases b with
  | true =>
    obtain ⟨N,hN,q2⟩:=q2
    rw [if_pos rfl]
    refine wpAny_passesOwn hp (thn (hb pins s2 σ1 H2 _ I2 q2) fun f s3 q3=>?_)
    cases f with
    | next =>
      obtain ⟨σ3,H3,I3,n3⟩:=q3
      obtain ⟨m',hm,w3⟩:=hN σ3 H3 n3
      exact ⟨m',hm,σ3,H3,I3,w3⟩
    | cont =>
      obtain ⟨σ3,H3,I3,n3⟩:=q3
      obtain ⟨m',hm,w3⟩:=hN σ3 H3 n3
      exact ⟨m',hm,σ3,H3,I3,w3⟩
    | brk=>exact q3
    | ret v=>exact q3
  | false =>
    rw [if_neg Bool.false_ne_true]
    exact wpAny_execs_nil ⟨σ1,H2,I2,q2⟩
end
structure It where
  go:Nat->Hp->Prop
  yld:Nat->Hp->V->Hp->Prop
  stop:Nat->Hp->Prop
def FpOk (X:Cx) (pins:List (Addr × Obj)) (H:Hp) (b:Addr):Prop :=
  H b=none/\b≠X.env.locals/\b ∉ X.fs/\(b∈X.ex\/X.s₀.heap.objs.size<=b)/\(∀ x c,X.env.cells.lookup x=some c->c≠b)/\∀ p∈X.pn ++ pins,p.1≠b
theorem Inv.fpOk {X:Cx} {pins:List (Addr × Obj)} {σ:St} {H H':Hp} {s:Shared} {b:Addr} (I:Inv X pins σ H s) (hb:s.heap.objs.size<=b) (hn:H' b=none):FpOk X pins H' b:=by
  refine ⟨hn,Nat.ne_of_gt (Nat.lt_of_lt_of_le I.lt hb),I.nofs hb,.inr (Nat.le_trans I.sz hb),fun x c e z=>?_,fun p hp z=>?_⟩
  · obtain ⟨v,q⟩:=I.cell x c e
    exact absurd (Nat.lt_of_lt_of_le q.lt (by rw [z]; exact hb)) (Nat.lt_irrefl _)
  · exact absurd (Nat.lt_of_lt_of_le (Heap.lt_size (I.pin p hp).1) (by rw [z]; exact hb)) (Nat.lt_irrefl _)
structure Turn (P:Program) (w:World) (K:PySem.W.Frag) (tg:Expr) (J:It) (fp:List Addr) (it:Addr) (tn:Nat->Heap->Prop):Prop where
  mem:it∈fp
  obj:∀ i h,tn i h->∀ b∈fp,∃ o,h.get? b=some o/\∀ v,o.data≠.cell v
  keep:∀ i h h',tn i h->(∀ b∈fp,∀ o,h.get? b=some o->h'.get? b=some o)->tn i h'
  item:∀ (X:Cx),X.prog=P->X.w=w->X.K=K->X.calm=true->∀ (i:Nat) (pins:List (Addr × Obj)) (s:Shared) (σ:St) (H:Hp) (E:Value->Shared->Prop),Inv X pins σ H s->(∀ b∈fp,FpOk X pins H b)->tn i s.heap->J.go i H ->
    wpAny (model P w) X.A (pyNext (.ref it)) (fun r s1=>∃ u,r=some u /\
      wpAny (model P w) X.A (letOwnedTupleGo tg (.ref it) u) (fun _ s2=>∃ x H',Inv X pins σ H' s2/\RelV x u/\J.yld i H x H'/\tn (i + 1) s2.heap/\∀ b∈fp,H' b=none) E s1) E s
  done:∀ (X:Cx),X.prog=P->X.w=w->X.K=K->X.calm=true->∀ (i:Nat) (pins:List (Addr × Obj)) (s:Shared) (σ:St) (H:Hp) (E:Value->Shared->Prop),Inv X pins σ H s->(∀ b∈fp,FpOk X pins H b)->tn i s.heap->J.stop i H ->
    wpAny (model P w) X.A (pyNext (.ref it)) (fun r s1=>r=none/\Inv X pins σ H s1) E s
  self:∀ (A:Around) (i:Nat) (s:Shared) (Q:Value->Shared->Prop) (E:Value->Shared->Prop),tn i s.heap->Q (.ref it) s->wpAny (model P w) A (pyIter (.ref it)) Q E s
abbrev TI:=St->Hp->(It->Hp->Prop)->Prop
def PIE (X:Cx) (pins:List (Addr × Obj)) (σ:St) (tg:Expr) (R:It->Hp->Prop) (itv:Value) (s2:Shared):Prop :=
  ∃ (it:Addr) (fp:List Addr) (tn:Nat->Heap->Prop) (J:It) (H':Hp),itv=.ref it/\Inv X pins σ H' s2/\Turn X.prog X.w X.K tg J fp it tn/\tn 0 s2.heap/\(∀ b∈fp,FpOk X pins H' b)/\R J H'
def PI (X:Cx) (tg iter:Expr) (wi:TI):Prop :=
  ∀ (pins:List (Addr × Obj)) (s:Shared) (σ:St) (H:Hp) (R:It->Hp->Prop),Inv X pins σ H s->wi σ H R ->
    wpAny (model X.prog X.w) X.A (eval iter X.env) (fun v s1=>wpAny (model X.prog X.w) X.A (pyIter v) (PIE X pins σ tg R) X.xe s1) X.xe s
theorem Yu {M:Model} {A:Around} {E:Value->Shared->Prop} {s:Shared} {tg:Expr} {it:Addr} {u:Value} {o:Obj} {n:String} {vs:Array Value} {Q:Unit->Shared->Prop} (ho:s.heap.get? it=some o) (hc:o.cls=.type n) (hd:o.data=.fields vs)
    (hn:["enumerate","zip","dict_itemiterator","dict_reverseitemiterator","odict_iterator","itertools.zip_longest","itertools.pairwise"].contains n=false) (hQ:Q () s):wpAny M A (letOwnedTupleGo tg (.ref it) u) Q E s:=by
  unfold letOwnedTupleGo
  cases tg <;> first
    | exact wpAny_pure hQ
    | (cases u <;> first
        | exact wpAny_pure hQ
        | (refine wpAny_bind (wpAny_load ho ?_)
           rw [hc,hd]
           show wpAny M A (if (["enumerate","zip","dict_itemiterator","dict_reverseitemiterator","odict_iterator","itertools.zip_longest","itertools.pairwise"].contains n && vs[0]? == some (rawInt _))=true then _ else _) Q E s
           rw [if_neg (by intro h; rw [hn,Bool.false_and] at h; cases h)]
           exact wpAny_pure hQ))
def Itl (K:PySem.W.Frag) (a:Addr):It :=
  ⟨fun i H=>∃ xs x,SqL K H a xs/\xs[i]?=some x,fun i H x H'=>H'=H/\∀ xs,SqL K H a xs->xs[i]?=some x,fun i H=>∃ xs,SqL K H a xs/\xs.length<=i⟩
def Itt (K:PySem.W.Frag) (a:Addr):It :=
  ⟨fun i H=>∃ xs x,SqT K H a xs/\xs[i]?=some x,fun i H x H'=>H'=H/\∀ xs,SqT K H a xs->xs[i]?=some x,fun i H=>∃ xs,SqT K H a xs/\xs.length<=i⟩
def Itr (lo:Int) (n:Nat):It:=⟨fun i _=>i < n,fun i H x H'=>H'=H/\x=.int (lo + i),fun i _=>n<=i⟩
theorem Xp {P:Program} {w:World} {K:PySem.W.Frag} {tg:Expr} (a it:Addr):Turn P w K tg (Itl K a) [it] it (fun i h=>h.IsListIter it a i) where
  mem:=by simp
  obj:=fun i h st b hb=>by
    have e:b=it:=by simpa using hb
    subst e
    obtain ⟨o,e,c,d⟩:=st
    exact ⟨o,e,fun v z=>by rw [d] at z; cases z⟩
  keep:=fun i h h' st k=>st.at fun o e=>k it (by simp) o e
  item:=by
    intro X hP hw hK hc i pins s σ H E I hf st hg
    subst hP hw hK
    obtain ⟨xs,x,hq,hx⟩:=hg
    obtain ⟨its,rv,p,hz⟩:=I.list hq
    obtain ⟨u,hu,ru⟩:=rv.get hx
    obtain ⟨f0,f1,f2,f3,f4,f5⟩:=hf it (by simp)
    refine wpAny_pyNext_list_item st p.isList (x:=u) (by simpa using hu) fun h' st' sb=>?_
    have I1:Inv X pins σ H { s with heap:=h' }:=I.turned (t':=s.toks) (fun b o hb e=>(sb.2 b hb).trans e) f0 f1 f3 f4 f5
    obtain ⟨o,e,c,d⟩:=id st'
    exact ⟨u,rfl,Yu (s:={ s with heap:=h' }) e c d (by decide) ⟨x,H,I1,ru,⟨rfl,fun ys hy=>by rw [I.list_inj hy hq]; exact hx⟩,st',fun b hb=>(hf b hb).1⟩⟩
  done:=by
    intro X hP hw hK hc i pins s σ H E I hf st hg
    subst hP hw hK
    obtain ⟨xs,hq,hx⟩:=hg
    obtain ⟨its,rv,p,hz⟩:=I.list hq
    obtain ⟨f0,f1,f2,f3,f4,f5⟩:=hf it (by simp)
    have hl:=rv.length
    exact wpAny_pyNext_list_end (I.ok.hd hc) st p.isList (by simp; lia) fun h' eb=>⟨rfl,I.turned (t':=s.toks) (fun b o hb e=>eb b o hb e) f0 f1 f3 f4 f5⟩
  self:=fun _ _ _ _ _ st h=>wpAny_pyIter_listiter st h
theorem ZM {P:Program} {w:World} {K:PySem.W.Frag} {tg:Expr} (a it:Addr):Turn P w K tg (Itt K a) [it] it (fun i h=>h.IsTupleIter it a i) where
  mem:=by simp
  obj:=fun i h st b hb=>by
    have e:b=it:=by simpa using hb
    subst e
    obtain ⟨o,e,c,d⟩:=st
    exact ⟨o,e,fun v z=>by rw [d] at z; cases z⟩
  keep:=fun i h h' st k=>st.at fun o e=>k it (by simp) o e
  item:=by
    intro X hP hw hK hc i pins s σ H E I hf st hg
    subst hP hw hK
    obtain ⟨xs,x,hq,hx⟩:=hg
    obtain ⟨its,rv,p,hz⟩:=I.tuple hq
    obtain ⟨u,hu,ru⟩:=rv.get hx
    obtain ⟨f0,f1,f2,f3,f4,f5⟩:=hf it (by simp)
    refine wpAny_pyNext_tuple_item st (show s.heap.IsTuple a its.toArray from p) (x:=u) (by simpa using hu) fun h' st' sb=>?_
    have I1:Inv X pins σ H { s with heap:=h' }:=I.turned (t':=s.toks) (fun b o hb e=>(sb.2 b hb).trans e) f0 f1 f3 f4 f5
    obtain ⟨o,e,c,d⟩:=id st'
    exact ⟨u,rfl,Yu (s:={ s with heap:=h' }) e c d (by decide) ⟨x,H,I1,ru,⟨rfl,fun ys hy=>by rw [I.tuple_inj hy hq]; exact hx⟩,st',fun b hb=>(hf b hb).1⟩⟩
  done:=by
    intro X hP hw hK hc i pins s σ H E I hf st hg
    subst hP hw hK
    obtain ⟨xs,hq,hx⟩:=hg
    obtain ⟨its,rv,p,hz⟩:=I.tuple hq
    obtain ⟨f0,f1,f2,f3,f4,f5⟩:=hf it (by simp)
    have hl:=rv.length
    exact wpAny_pyNext_tuple_end (I.ok.hd hc) st (show s.heap.IsTuple a its.toArray from p) (by simp; lia) fun h' eb=>⟨rfl,I.turned (t':=s.toks) (fun b o hb e=>eb b o hb e) f0 f1 f3 f4 f5⟩
  self:=fun _ _ _ _ _ st h=>wpAny_pyIter_tupleiter st h
theorem ZN {P:Program} {w:World} {K:PySem.W.Frag} {tg:Expr} (it:Addr) (lo:Int) (n:Nat):Turn P w K tg (Itr lo n) [it] it (fun i h=>IsRangeIter h it (lo + (i:Nat) * 1) ((n:Int) - (i:Nat)) 1) where
  mem:=by simp
  obj:=fun i h st b hb=>by
    have e:b=it:=by simpa using hb
    subst e
    exact ⟨_,st,fun v z=>by
      have z':Data.fields _=Data.cell v:=z
      cases z'⟩
  keep:=fun i h h' st k=>k it (by simp) _ st
  item:=by
    intro X hP hw hK hc i pins s σ H E I hf st hg
    subst hP hw hK
    obtain ⟨f0,f1,f2,f3,f4,f5⟩:=hf it (by simp)
    have W:=Walks.range (prog:=X.prog) (w:=X.w) (I.ok.hd hc) it lo 1 n
    refine W.item i s _ _ hg st fun v h' tk hv st' kk=>?_
    obtain ⟨t,rfl⟩:=hv
    have I1:Inv X pins σ H { s with heap:=h',toks:=tk }:=I.turned (fun b o hb e=>kk b o (by simpa using hb) e) f0 f1 f3 f4 f5
    refine ⟨_,rfl,Yu (s:={ s with heap:=h',toks:=tk }) (n:="range_iterator") st' rfl rfl (by decide) ⟨.int (lo + i),H,I1,⟨t,?_⟩,⟨rfl,rfl⟩,st',fun b hb=>(hf b hb).1⟩⟩
    rw [Int.mul_one]
  done:=by
    intro X hP hw hK hc i pins s σ H E I hf st hg
    subst hP hw hK
    obtain ⟨f0,f1,f2,f3,f4,f5⟩:=hf it (by simp)
    exact wpAny_pyNext_range_end (I.ok.hd hc) st (by have:n<=i:=hg; lia) fun h' eb=>⟨rfl,I.turned (t':=s.toks) (fun b o hb e=>eb b o hb e) f0 f1 f3 f4 f5⟩
  self:=fun _ _ _ _ _ st h=>wpAny_pyIter_rangeiter st h
section
variable {X:Cx} {tg:Expr}
def Wn (K:PySem.W.Frag) (tl:TE):TI:=fun σ H R=>tl σ H fun x H1=>∃ a,x=.ref a/\(∃ xs,SqL K H1 a xs)/\R (Itl K a) H1
def iTup (K:PySem.W.Frag) (tl:TE):TI:=fun σ H R=>tl σ H fun x H1=>∃ a,x=.ref a/\(∃ xs,SqT K H1 a xs)/\R (Itt K a) H1
theorem Js {l:Expr} {tl:TE} (hl:PE X l tl):PI X tg l (Wn X.K tl):=by
  intro pins s σ H R I h
  refine thn (hl pins s σ H _ I h) fun v s1 ⟨x,H1,I1,r1,q1⟩=>?_
  obtain ⟨a,e,⟨xs,hq⟩,q⟩:=q1
  subst e
  cases r1
  obtain ⟨its,rv,p,hz⟩:=I1.list hq
  refine wpAny_pyIter_list p.isList ?_
  refine ⟨s1.heap.objs.size,[s1.heap.objs.size],_,_,H1,rfl,I1.kept (t':=s1.toks) fun b o e=>Heap.get?_push_of_some _ e,Xp a _,⟨_,Heap.get?_push_size _ rfl,rfl,rfl⟩,fun b hb=>?_,q⟩
  have e:b=s1.heap.objs.size:=by simpa using hb
  subst e
  exact I1.fpOk (Nat.le_refl _) (I1.hok.fresh (Nat.le_refl _))
theorem zau {l:Expr} {tl:TE} (hl:PE X l tl):PI X tg l (iTup X.K tl):=by
  intro pins s σ H R I h
  refine thn (hl pins s σ H _ I h) fun v s1 ⟨x,H1,I1,r1,q1⟩=>?_
  obtain ⟨a,e,⟨xs,hq⟩,q⟩:=q1
  subst e
  cases r1
  obtain ⟨its,rv,p,hz⟩:=I1.tuple hq
  refine wpAny_pyIter_tuple (show s1.heap.IsTuple a its.toArray from p) ?_
  refine ⟨s1.heap.objs.size,[s1.heap.objs.size],_,_,H1,rfl,I1.kept (t':=s1.toks) fun b o e=>Heap.get?_push_of_some _ e,ZM a _,⟨_,Heap.get?_push_size _ rfl,rfl,rfl⟩,fun b hb=>?_,q⟩
  have e:b=s1.heap.objs.size:=by simpa using hb
  subst e
  exact I1.fpOk (Nat.le_refl _) (I1.hok.fresh (Nat.le_refl _))
theorem Wo {pins:List (Addr × Obj)} {σ:St} {H:Hp} {s:Shared} {R:It->Hp->Prop} {E:Value->Shared->Prop} {lo hi:Int} {t u v:Tok} {tk:Nat} (I:Inv X pins σ H s) (h1:-(2 ^ 62)<=lo) (h2:lo < 2 ^ 62) (h3:-(2 ^ 62)<=hi) (h4:hi < 2 ^ 62)
    (q:R (Itr lo (hi - lo).toNat) H):wpAny (model X.prog X.w) X.A (pyIter (.ref s.heap.objs.size)) (PIE X pins σ tg R) E { s with heap:=s.heap.push { cls:=.type "range",data:=.fields #[.int lo t,.int hi u,.int 1 v] },toks:=tk }:=by
  refine wpAny_pyIter_range (IsRange.new ..) (small_one h1 h2 h3 h4) ?_
  have I1:Inv X pins σ H { s with heap:=s.heap.push { cls:=.type "range",data:=.fields #[.int lo t,.int hi u,.int 1 v] },toks:=tk }:=I.kept fun b o e=>Heap.get?_push_of_some _ e
  refine ⟨(s.heap.push { cls:=.type "range",data:=.fields #[.int lo t,.int hi u,.int 1 v] }).objs.size,[(s.heap.push { cls:=.type "range",data:=.fields #[.int lo t,.int hi u,.int 1 v] }).objs.size],_,_,H,rfl,
    I1.kept (t':=tk) fun b o e=>Heap.get?_push_of_some _ e,ZN _ lo (hi - lo).toNat,?_,fun b hb=>?_,q⟩
  · have e1:lo + ((0:Nat):Int) * 1=lo:=by simp
    have e2:(((hi - lo).toNat:Nat):Int) - ((0:Nat):Int)=Builtin.Range.rangeSize lo hi 1:=by rw [rangeSize_one]; split <;> lia
    show IsRangeIter _ _ (lo + ((0:Nat):Int) * 1) ((((hi - lo).toNat:Nat):Int) - ((0:Nat):Int)) 1
    rw [e1,e2]
    exact Heap.get?_push_size _ rfl
  · have e:b=(s.heap.push { cls:=.type "range",data:=.fields #[.int lo t,.int hi u,.int 1 v] }).objs.size:=by simpa using hb
    subst e
    exact I1.fpOk (Nat.le_refl _) (I1.hok.fresh (Nat.le_refl _))
def QJ (ta:TA):TI:=fun σ H R=>ta σ H fun vs H1=>∃ j:Int,vs=[.int j]/\-(2 ^ 62)<=j/\j < 2 ^ 62/\R (Itr 0 j.toNat) H1
theorem Xq {a:Expr} {ta:TA} {p pos:Pos} (hg:Gl X "range") (hm:X.mg "range"=none) (ha:PA X [a] ta) (hs:starEach [a] X.env=[(false,eval a X.env)]:=by rfl):PI X tg (.Call (.Name "range" p) [a] [] pos) (QJ ta):=by
  intro pins s σ H R I h
  refine Call_ (xh I hg hm boot_range (PyProof.Rows.callWith_type1 (thn (ha pos pins s σ H _ I h) fun us s1 ⟨vs,H1,I1,r1,q1⟩=>?_) hs rfl))
  obtain ⟨j,e,q1,q2,q⟩:=q1
  subst e
  cases r1 with
  | cons r rr =>
    cases rr
    obtain ⟨t,rfl⟩:=r
    exact call_range_1 (Wo I1 (by lia) (by lia) q1 q2 (by simpa using q))
def tFor (wi:TI) (g:TG) (tb:TS):TS:=fun D σ H=>wi σ H fun J H1=>∃ W:Nat->Nat->St->Hp->Prop,(∃ m,W 0 m σ H1)/\∀ i m σ H,W i m σ H ->
  (J.stop i H/\D.nx σ H)\/(J.go i H/\∃ N:St->Hp->Prop,(∀ σ' H',N σ' H'->∃ m',m' < m/\W (i + 1) m' σ' H')/\∀ x H',J.yld i H x H'->g x σ H' fun σ2 H2=>tb { D with nx:=N,ct:=N,bk:=D.nx } σ2 H2)
def vf (fp:List Addr) (h:Heap):List (Addr × Obj):=fp.filterMap fun b=>(h.get? b).map fun o=>(b,o)
theorem xP {fp:List Addr} {h:Heap} {b:Addr} {o:Obj} (hb:b∈fp) (e:h.get? b=some o):(b,o)∈vf fp h:=List.mem_filterMap.mpr ⟨b,hb,by rw [e]; rfl⟩
theorem Xr {fp:List Addr} {h:Heap} {p:Addr × Obj} (hp:p∈vf fp h):p.1∈fp/\h.get? p.1=some p.2:=by
  obtain ⟨b,hb,e⟩:=List.mem_filterMap.mp hp
  cases q:h.get? b with
  | none=>rw [q] at e; cases e
  | some o =>
    rw [q] at e
    have e':(b,o)=p:=Option.some.inj e
    subst e'
    exact ⟨hb,q⟩
theorem Inv.pinned {pins:List (Addr × Obj)} {σ:St} {H:Hp} {s:Shared} {fp:List Addr} (I:Inv X pins σ H s) (hf:∀ b∈fp,FpOk X pins H b) (ho:∀ b∈fp,∃ o,s.heap.get? b=some o/\∀ v,o.data≠.cell v):Inv X (pins ++ vf fp s.heap) σ H s :=
  I.pins_of fun p hp=>(List.mem_append.mp hp).elim (fun z=>I.pin p (List.mem_append_right _ z)) fun z=>by
    obtain ⟨hb,e⟩:=Xr z
    obtain ⟨f0,f1,f2,_⟩:=hf p.1 hb
    obtain ⟨o,e',d⟩:=ho p.1 hb
    rw [e] at e'; cases e'
    exact ⟨e,f0,f1,f2,d⟩
theorem Inv.unpinned {pins pl:List (Addr × Obj)} {σ:St} {H:Hp} {s:Shared} (I:Inv X (pins ++ pl) σ H s):Inv X pins σ H s:=I.pins_of fun p hp=>I.pin p (List.mem_append_right _ (List.mem_append_left _ hp))
theorem zav {iter:Expr} {body:List Stmt} {wi:TI} {g:TG} {tb:TS} {pos:Pos} (hp:PassesOwn (model X.prog X.w) X.A X.env X.xe) (hc:X.calm=true) (hi:PI X tg iter wi) (hg:PG X tg g) (hb:PSs X body tb)
    (hs:∀ x,foldedSetIterable iter X.env x=pure x:=by intro _; rfl):PS X (.For tg iter body [] pos) (tFor wi g tb):=by
  intro pins s σ H D I h
  refine wpAny_For (thn (hi pins s σ H _ I h) fun v s1 h1=>thn h1 fun itv s2 h2=>?_) hs
  obtain ⟨it,fp,tn,J,H2,e,I2,T,st2,f2,W,⟨m0,w0⟩,turn⟩:=h2
  subst e
  have stat:∀ {H':Hp},(∀ b∈fp,H' b=none)->∀ b∈fp,FpOk X pins H' b:=fun hn b hb=>⟨hn b hb,(f2 b hb).2⟩
  refine codeAny_forLoop_any (fun n s'=>∃ i σ' H',Inv X pins σ' H' s'/\tn i s'.heap/\(∀ b∈fp,H' b=none)/\W i n σ' H') ?_ m0 ⟨0,σ,H2,I2,st2,fun b hb=>(f2 b hb).1,w0⟩
  rintro n s3 ⟨i,σ3,H3,I3,st3,fr3,w3⟩
  rcases turn i n σ3 H3 w3 with ⟨stop,qn⟩ | ⟨go,N,hN,step⟩
  · refine wpAny_passesOwn hp (thn (T.done X rfl rfl rfl hc i pins s3 σ3 H3 X.xe I3 (stat fr3) st3 stop) fun r s4 ⟨hr,I4⟩=>?_)
    subst hr
    exact wpAny_execs_nil ⟨σ3,H3,I4,qn⟩
  · refine wpAny_passesOwn hp (thn (T.item X rfl rfl rfl hc i pins s3 σ3 H3 X.xe I3 (stat fr3) st3 go) fun r s4 ⟨u,hr,h4⟩=>?_)
    subst hr
    refine wpAny_passesOwn hp (thn h4 fun _ s5 ⟨x,H5,I5,r5,y5,st5,fr5⟩=>?_)
    have I5':=I5.pinned (stat fr5) (T.obj _ _ st5)
    refine wpAny_passesOwn hp (thn (hg _ s5 σ3 H5 x u _ I5' r5 (step x H5 y5)) fun _ s6 ⟨σ6,H6,I6,q6⟩=>?_)
    refine wpAny_passesOwn hp (thn (hb _ s6 σ6 H6 _ I6 q6) fun f s7 q7=>?_)
    have again:∀ {σ7:St} {H7:Hp},Inv X (pins ++ vf fp s5.heap) σ7 H7 s7->N σ7 H7->∃ m,m < n/\∃ i σ' H',Inv X pins σ' H' s7/\tn i s7.heap/\(∀ b∈fp,H' b=none)/\W i m σ' H':=fun {σ7 H7} I7 n7=>by
      obtain ⟨m',hm,w7⟩:=hN σ7 H7 n7
      refine ⟨m',hm,i + 1,σ7,H7,I7.unpinned,T.keep _ _ _ st5 fun b hb o e=>(I7.pin (b,o) (List.mem_append_right _ (List.mem_append_right _ (xP hb e)))).1,fun b hb=>?_,w7⟩
      obtain ⟨o,e,d⟩:=T.obj _ _ st5 b hb
      exact (I7.pin (b,o) (List.mem_append_right _ (List.mem_append_right _ (xP hb e)))).2.1
    cases f with
    | next=>obtain ⟨σ7,H7,I7,n7⟩:=q7; exact again I7 n7
    | cont=>obtain ⟨σ7,H7,I7,n7⟩:=q7; exact again I7 n7
    | brk=>obtain ⟨σ7,H7,I7,q7⟩:=q7; exact ⟨σ7,H7,I7.unpinned,q7⟩
    | ret v=>obtain ⟨x7,σ7,H7,I7,r7,q7⟩:=q7; exact ⟨x7,σ7,H7,I7.unpinned,r7,q7⟩
end
theorem yS {K:PySem.W.Frag} {a:Addr} {xs:List V} {g:TG} {tb:TS} {D:Ends} {σ:St} {H:Hp} (Pv:Nat->St->Hp->Prop) (h0:Pv 0 σ H) (hl:∀ i σ H,i<=xs.length->Pv i σ H->SqL K H a xs)
    (hs:∀ i x σ H,xs[i]?=some x->Pv i σ H->g x σ H fun σ2 H2=>tb { D with nx:=Pv (i + 1),ct:=Pv (i + 1),bk:=D.nx } σ2 H2) (hd:∀ σ H,Pv xs.length σ H->D.nx σ H) :
    ∃ W:Nat->Nat->St->Hp->Prop,(∃ m,W 0 m σ H)/\∀ i m σ H,W i m σ H ->
      ((Itl K a).stop i H/\D.nx σ H)\/((Itl K a).go i H/\∃ N:St->Hp->Prop,(∀ σ' H',N σ' H'->∃ m',m' < m/\W (i + 1) m' σ' H')/\∀ x H',(Itl K a).yld i H x H'->g x σ H' fun σ2 H2=>tb { D with nx:=N,ct:=N,bk:=D.nx } σ2 H2):=by
  refine ⟨fun i m σ H=>m=xs.length - i/\i<=xs.length/\Pv i σ H,⟨xs.length,by simp,Nat.zero_le _,h0⟩,?_⟩
  rintro i m σ H ⟨rfl,hi,p⟩
  have q:=hl i σ H hi p
  by_cases hlt:i < xs.length
  · refine .inr ⟨⟨xs,xs[i],q,by simp [hlt]⟩,Pv (i + 1),fun σ' H' p'=>⟨xs.length - (i + 1),by lia,rfl,hlt,p'⟩,fun x H' y=>?_⟩
    obtain ⟨e,y⟩:=y
    subst e
    exact hs i x σ _ (y xs q) p
  · have e:i=xs.length:=by lia
    subst e
    exact .inl ⟨⟨xs,q,Nat.le_refl _⟩,hd σ H p⟩
theorem yK {K:PySem.W.Frag} {a:Addr} {xs:List V} {g:TG} {tb:TS} {D:Ends} {σ:St} {H:Hp} (Pv:Nat->St->Hp->Prop) (h0:Pv 0 σ H) (hl:∀ i σ H,i<=xs.length->Pv i σ H->SqT K H a xs)
    (hs:∀ i x σ H,xs[i]?=some x->Pv i σ H->g x σ H fun σ2 H2=>tb { D with nx:=Pv (i + 1),ct:=Pv (i + 1),bk:=D.nx } σ2 H2) (hd:∀ σ H,Pv xs.length σ H->D.nx σ H) :
    ∃ W:Nat->Nat->St->Hp->Prop,(∃ m,W 0 m σ H)/\∀ i m σ H,W i m σ H ->
      ((Itt K a).stop i H/\D.nx σ H)\/((Itt K a).go i H/\∃ N:St->Hp->Prop,(∀ σ' H',N σ' H'->∃ m',m' < m/\W (i + 1) m' σ' H')/\∀ x H',(Itt K a).yld i H x H'->g x σ H' fun σ2 H2=>tb { D with nx:=N,ct:=N,bk:=D.nx } σ2 H2):=by
  refine ⟨fun i m σ H=>m=xs.length - i/\i<=xs.length/\Pv i σ H,⟨xs.length,by simp,Nat.zero_le _,h0⟩,?_⟩
  rintro i m σ H ⟨rfl,hi,p⟩
  have q:=hl i σ H hi p
  by_cases hlt:i < xs.length
  · refine .inr ⟨⟨xs,xs[i],q,by simp [hlt]⟩,Pv (i + 1),fun σ' H' p'=>⟨xs.length - (i + 1),by lia,rfl,hlt,p'⟩,fun x H' y=>?_⟩
    obtain ⟨e,y⟩:=y
    subst e
    exact hs i x σ _ (y xs q) p
  · have e:i=xs.length:=by lia
    subst e
    exact .inl ⟨⟨xs,q,Nat.le_refl _⟩,hd σ H p⟩
theorem wA {lo:Int} {n:Nat} {g:TG} {tb:TS} {D:Ends} {σ:St} {H:Hp} (Pv:Nat->St->Hp->Prop) (h0:Pv 0 σ H)
    (hs:∀ i σ H,i < n->Pv i σ H->g (.int (lo + i)) σ H fun σ2 H2=>tb { D with nx:=Pv (i + 1),ct:=Pv (i + 1),bk:=D.nx } σ2 H2) (hd:∀ σ H,Pv n σ H->D.nx σ H) :
    ∃ W:Nat->Nat->St->Hp->Prop,(∃ m,W 0 m σ H)/\∀ i m σ H,W i m σ H ->
      ((Itr lo n).stop i H/\D.nx σ H)\/((Itr lo n).go i H/\∃ N:St->Hp->Prop,(∀ σ' H',N σ' H'->∃ m',m' < m/\W (i + 1) m' σ' H')/\∀ x H',(Itr lo n).yld i H x H'->g x σ H' fun σ2 H2=>tb { D with nx:=N,ct:=N,bk:=D.nx } σ2 H2):=by
  refine ⟨fun i m σ H=>m=n - i/\i<=n/\Pv i σ H,⟨n,by simp,Nat.zero_le _,h0⟩,?_⟩
  rintro i m σ H ⟨rfl,hi,p⟩
  by_cases hlt:i < n
  · refine .inr ⟨hlt,Pv (i + 1),fun σ' H' p'=>⟨n - (i + 1),by lia,rfl,hlt,p'⟩,fun x H' y=>?_⟩
    obtain ⟨e,y⟩:=y
    subst e y
    exact hs i σ _ hlt p
  · have e:i=n:=by lia
    subst e
    exact .inl ⟨Nat.le_refl _,hd σ H p⟩
abbrev R2:=V->V->Hp->VK->Prop
def OpR (X:Cx) (f:Value->Value->Sem Value) (r:R2):Prop :=
  ∀ (pins:List (Addr × Obj)) (s:Shared) (σ:St) (H:Hp) (x y:V) (v u:Value) (Q:VK),Inv X pins σ H s->RelV x v->RelV y u->r x y H Q ->
    wpAny (model X.prog X.w) X.A (f v u) (EP X pins σ Q) X.xe s
def UnR (X:Cx) (f:Value->Sem Value) (r:V->Hp->VK->Prop):Prop :=
  ∀ (pins:List (Addr × Obj)) (s:Shared) (σ:St) (H:Hp) (x:V) (v:Value) (Q:VK),Inv X pins σ H s->RelV x v->r x H Q ->
    wpAny (model X.prog X.w) X.A (f v) (EP X pins σ Q) X.xe s
def yI (X:Cx) (f:Value) (r:List V->Hp->VK->Prop):Prop :=
  ∀ (pins:List (Addr × Obj)) (s:Shared) (σ:St) (H:Hp) (xs:List V) (us:List Value) (Q:VK),Inv X pins σ H s->Vals xs us->r xs H Q ->
    wpAny (model X.prog X.w) X.A (call f us) (EP X pins σ Q) X.xe s
def tOp (r:R2) (ta tb:TE):TE:=fun σ H Q=>ta σ H fun x H1=>tb σ H1 fun y H2=>r x y H2 Q
def tUn (r:V->Hp->VK->Prop) (ta:TE):TE:=fun σ H Q=>ta σ H fun x H1=>r x H1 Q
def rI (C:Int->Int->Prop) (g:Int->Int->V):R2:=fun x y H Q=>∃ i j,x=.int i/\y=.int j/\C i j/\Q (g i j) H
def rI0 (g:Int->Int->V):R2:=fun x y H Q=>∃ i j,x=.int i/\y=.int j/\Q (g i j) H
def rU (g:Int->V):V->Hp->VK->Prop:=fun x H Q=>∃ i,x=.int i/\Q (g i) H
section
variable {X:Cx} {a b c:Expr} {ta tb tc:TE} {pos:Pos}
theorem binT (ha:PE X a ta) (hb:PE X b tb) {pins:List (Addr × Obj)} {s:Shared} {σ:St} {H:Hp} {R:V->V->Hp->Prop} (I:Inv X pins σ H s)
    (h:ta σ H fun x H1=>tb σ H1 fun y H2=>R x y H2) {Q:Value->Shared->Prop} {f:Value->Value->Sem Value}
    (hf:∀ v u s2 x y H2,Inv X pins σ H2 s2->RelV x v->RelV y u->R x y H2->wpAny (model X.prog X.w) X.A (f v u) Q X.xe s2) :
    wpAny (model X.prog X.w) X.A (eval a X.env) (fun v s₁=>wpAny (model X.prog X.w) X.A (eval b X.env) (fun u s₂=>wpAny (model X.prog X.w) X.A (f v u) Q X.xe s₂) X.xe s₁) X.xe s:=by
  refine thn (ha pins s σ H _ I h) fun v s1 ⟨x,H1,I1,r1,q1⟩=>?_
  refine thn (hb pins s1 σ H1 _ I1 q1) fun u s2 ⟨y,H2,I2,r2,q2⟩=>?_
  exact hf v u s2 x y H2 I2 r1 r2 q2
theorem zbw {op:Operator} {r:R2} (ho:OpR X (binaryOp op) r) (ha:PE X a ta) (hb:PE X b tb):PE X (.BinOp a op b pos) (tOp r ta tb):=by
  intro pins s σ H Q I h
  exact wpAny_BinOp (binT ha hb I h fun v u s2 x y H2 I2 rx ry q=>ho pins s2 σ H2 x y v u Q I2 rx ry q)
theorem QK {op:UnaryOp} {r:V->Hp->VK->Prop} (ho:UnR X (unaryOp op) r) (ha:PE X a ta):PE X (.UnaryOp op a pos) (tUn r ta):=by
  intro pins s σ H Q I h
  exact UnaryOp_ (thn (ha pins s σ H _ I h) fun v s1 ⟨x,H1,I1,r1,q1⟩=>ho pins s1 σ H1 x v Q I1 r1 q1)
theorem opI {f:Value->Value->Sem Value} {C:Int->Int->Prop} {g:Int->Int->Int}
    (rule:∀ (i j:Int) (t u:Tok) (s:Shared) (Q:Value->Shared->Prop) (E:Value->Shared->Prop),C i j->Q (.int (g i j) s.toks) { s with toks:=s.toks + 1 }->wpAny (model X.prog X.w) X.A (f (.int i t) (.int j u)) Q E s) :
    OpR X f (rI C fun i j=>.int (g i j)):=by
  intro pins s σ H x y v u Q I rx ry h
  obtain ⟨i,j,rfl,rfl,hc,q⟩:=h
  obtain ⟨t,rfl⟩:=rx
  obtain ⟨t',rfl⟩:=ry
  exact rule i j t t' s _ _ hc ⟨.int (g i j),H,I.tok _,⟨_,rfl⟩,q⟩
theorem opI0 {f:Value->Value->Sem Value} {g:Int->Int->Int}
    (rule:∀ (i j:Int) (t u:Tok) (s:Shared) (Q:Value->Shared->Prop) (E:Value->Shared->Prop),Q (.int (g i j) s.toks) { s with toks:=s.toks + 1 }->wpAny (model X.prog X.w) X.A (f (.int i t) (.int j u)) Q E s) :
    OpR X f (rI0 fun i j=>.int (g i j)):=by
  intro pins s σ H x y v u Q I rx ry h
  obtain ⟨i,j,rfl,rfl,q⟩:=h
  obtain ⟨t,rfl⟩:=rx
  obtain ⟨t',rfl⟩:=ry
  exact rule i j t t' s _ _ ⟨.int (g i j),H,I.tok _,⟨_,rfl⟩,q⟩
theorem opB0 {f:Value->Value->Sem Value} {g:Int->Int->Bool}
    (rule:∀ (i j:Int) (t u:Tok) (s:Shared) (Q:Value->Shared->Prop) (E:Value->Shared->Prop),Q (.bool (g i j)) s->wpAny (model X.prog X.w) X.A (f (.int i t) (.int j u)) Q E s) :
    OpR X f (rI0 fun i j=>.bl (g i j)):=by
  intro pins s σ H x y v u Q I rx ry h
  obtain ⟨i,j,rfl,rfl,q⟩:=h
  obtain ⟨t,rfl⟩:=rx
  obtain ⟨t',rfl⟩:=ry
  exact rule i j t t' s _ _ ⟨.bl (g i j),H,I,rfl,q⟩
def CDiv (i j:Int):Prop:=0 < j/\j < 1073741824
def CMul (i j:Int):Prop:=(-(2 ^ 64) < i/\i < 2 ^ 64)\/(-(2 ^ 64) < j/\j < 2 ^ 64)
theorem CMul.ok {i j:Int} (h:CMul i j):IntMulOk i j:=by
  rcases h with ⟨h1,h2⟩ | ⟨h1,h2⟩
  · exact .of_left (intBits_le_64 h1 h2)
  · exact .of_right (intBits_le_64 h1 h2)
theorem zaw:OpR X (binaryOp .Add) (rI0 fun i j=>.int (i + j)):=opI0 fun _ _ _ _ _ _ _ q=>add_int q
theorem zax:OpR X (binaryOp .Sub) (rI0 fun i j=>.int (i - j)):=opI0 fun _ _ _ _ _ _ _ q=>sub_int q
theorem zay:OpR X (binaryOp .Mult) (rI CMul fun i j=>.int (i * j)):=opI fun _ _ _ _ _ _ _ hc q=>mul_int q hc.ok
theorem Jt:OpR X (binaryOp .FloorDiv) (rI CDiv fun i j=>.int (i / j)):=opI fun i j _ _ _ _ _ hc q=>by
  have h1:(0:Int) < j:=hc.1
  have h2:j < 1073741824:=hc.2
  exact floordiv_int (by lia) (by rw [Int.fdiv_eq_ediv_of_nonneg i (by lia)]; exact q) (.inl (PyProof.noPylong_small (by lia)))
theorem zaz:OpR X (binaryOp .Mod) (rI (fun _ j=>0 < j) fun i j=>.int (i % j)):=opI fun i j _ _ _ _ _ hc q=>by
  have h1:(0:Int) < j:=hc
  exact mod_int' (by lia) (by rw [Int.fmod_eq_emod_of_nonneg i (by lia)]; exact q)
theorem zaA:OpR X (binaryOp .BitAnd) (rI0 fun i j=>.int (Builtin.bitAnd i j)):=opI0 fun _ _ _ _ _ _ _ q=>and_int q
theorem zbx:OpR X (binaryOp .BitOr) (rI0 fun i j=>.int (Builtin.bitOr i j)):=opI0 fun _ _ _ _ _ _ _ q=>or_int q
theorem unI {f:Value->Sem Value} {g:Int->Int}
    (rule:∀ (i:Int) (t:Tok) (s:Shared) (Q:Value->Shared->Prop) (E:Value->Shared->Prop),Q (.int (g i) s.toks) { s with toks:=s.toks + 1 }->wpAny (model X.prog X.w) X.A (f (.int i t)) Q E s) :
    UnR X f (rU fun i=>.int (g i)):=by
  intro pins s σ H x v Q I rx h
  obtain ⟨i,rfl,q⟩:=h
  obtain ⟨t,rfl⟩:=rx
  exact rule i t s _ _ ⟨.int (g i),H,I.tok _,⟨_,rfl⟩,q⟩
theorem zaB:UnR X (unaryOp .USub) (rU fun i=>.int (-i)):=unI fun _ _ _ _ _ q=>neg_int q
theorem zaC:UnR X (unaryOp .Invert) (rU fun i=>.int (Builtin.bitNot i)):=unI fun _ _ _ _ _ q=>invert_int q
def scal:V->V->Bool
  | .non,.non=>true | .non,.int _=>true | .int _,.non=>true | .non,.bl _=>true | .bl _,.non=>true | .non,.str _=>true | .str _,.non=>true
  | .int _,.int _=>true | .bl _,.bl _=>true | .str _,.str _=>true | .byt _,.byt _=>true
  | .int _,.str _=>true | .str _,.int _=>true | .bl _,.str _=>true | .str _,.bl _=>true
  | _,_=>false
def rEq:R2:=fun x y H Q=>scal x y=true/\Q (.bl (decide (x=y))) H
def rNe:R2:=fun x y H Q=>scal x y=true/\Q (.bl (!decide (x=y))) H
theorem Yv {i j:Int}:decide (V.int i=V.int j)=(i == j):=by
  rw [Bool.eq_iff_iff]
  simp
theorem Wp {i j:Bool}:decide (V.bl i=V.bl j)=(i == j):=by
  rw [Bool.eq_iff_iff]
  simp
theorem Yw {i j:Str}:decide (V.str i=V.str j)=(i == j):=by
  rw [Bool.eq_iff_iff]
  simp
theorem Yx {i j:Array UInt8}:decide (V.byt i=V.byt j)=(i.toList == j.toList):=by
  rw [Bool.eq_iff_iff]
  cases i
  cases j
  simp
theorem zG {pins:List (Addr × Obj)} {σ:St} {H:Hp} {s:Shared} {Q:VK} {k k':Bool} (I:Inv X pins σ H s) (q:Q (.bl k) H) (e:k=k'):EP X pins σ Q (.bool k') s:=by
  subst e
  exact ⟨.bl k,H,I,rfl,q⟩
theorem zby:OpR X (compareOp .Eq) rEq:=by
  intro pins s σ H x y v u Q I rx ry h
  obtain ⟨hs,q⟩:=h
  cases x with
  | non =>
    cases rx
    cases y with
    | non=>cases ry; exact PySem.EqNone.eq_none_none (zG I q (by simp))
    | bl j=>cases ry; exact PySem.EqNone.eq_none_bool (zG I q (by simp))
    | int j=>obtain ⟨t',rfl⟩:=ry; exact PySem.EqNone.eq_none_int (zG I q (by simp))
    | str j=>obtain ⟨t',rfl⟩:=ry; exact PySem.EqNone.eq_none_str (zG I q (by simp))
    | _=>exact absurd (show false=true from hs) Bool.false_ne_true
  | bl i =>
    cases rx
    cases y with
    | non=>cases ry; exact PySem.EqNone.eq_bool_none (zG I q (by simp))
    | bl j=>cases ry; exact eq_bool (zG I q Wp)
    | str j=>obtain ⟨t',rfl⟩:=ry; exact PySem.EqMixed.eq_bool_str (zG I q (by simp))
    | _=>exact absurd (show false=true from hs) Bool.false_ne_true
  | int i =>
    obtain ⟨t,rfl⟩:=rx
    cases y with
    | non=>cases ry; exact PySem.EqNone.eq_int_none (zG I q (by simp))
    | int j=>obtain ⟨t',rfl⟩:=ry; exact eq_int (zG I q Yv)
    | str j=>obtain ⟨t',rfl⟩:=ry; exact PySem.EqMixed.eq_int_str (zG I q (by simp))
    | _=>exact absurd (show false=true from hs) Bool.false_ne_true
  | str i =>
    obtain ⟨t,rfl⟩:=rx
    cases y with
    | non=>cases ry; exact PySem.EqNone.eq_str_none (zG I q (by simp))
    | bl j=>cases ry; exact PySem.EqMixed.eq_str_bool (zG I q (by simp))
    | int j=>obtain ⟨t',rfl⟩:=ry; exact PySem.EqMixed.eq_str_int (zG I q (by simp))
    | str j=>obtain ⟨t',rfl⟩:=ry; exact eq_str (zG I q Yw)
    | _=>exact absurd (show false=true from hs) Bool.false_ne_true
  | byt i =>
    obtain ⟨t,rfl⟩:=rx
    cases y with
    | byt j=>obtain ⟨t',rfl⟩:=ry; exact PySem.W.eq_bytes (zG I q Yx)
    | _=>exact absurd (show false=true from hs) Bool.false_ne_true
  | _=>cases y <;> exact absurd (show false=true from hs) Bool.false_ne_true
theorem zbz:OpR X (compareOp .NotEq) rNe:=by
  intro pins s σ H x y v u Q I rx ry h
  obtain ⟨hs,q⟩:=h
  cases x with
  | non =>
    cases rx
    cases y with
    | non=>cases ry; exact PySem.EqNone.ne_none_none (zG I q (by simp))
    | bl j=>cases ry; exact PySem.EqNone.ne_none_bool (zG I q (by simp))
    | int j=>obtain ⟨t',rfl⟩:=ry; exact PySem.EqNone.ne_none_int (zG I q (by simp))
    | str j=>obtain ⟨t',rfl⟩:=ry; exact PySem.EqNone.ne_none_str (zG I q (by simp))
    | _=>exact absurd (show false=true from hs) Bool.false_ne_true
  | bl i =>
    cases rx
    cases y with
    | non=>cases ry; exact PySem.EqNone.ne_bool_none (zG I q (by simp))
    | bl j=>cases ry; exact ne_bool (zG I q (congrArg not Wp))
    | str j=>obtain ⟨t',rfl⟩:=ry; exact PySem.EqMixed.ne_bool_str (zG I q (by simp))
    | _=>exact absurd (show false=true from hs) Bool.false_ne_true
  | int i =>
    obtain ⟨t,rfl⟩:=rx
    cases y with
    | non=>cases ry; exact PySem.EqNone.ne_int_none (zG I q (by simp))
    | int j=>obtain ⟨t',rfl⟩:=ry; exact ne_int (zG I q (congrArg not Yv))
    | str j=>obtain ⟨t',rfl⟩:=ry; exact PySem.EqMixed.ne_int_str (zG I q (by simp))
    | _=>exact absurd (show false=true from hs) Bool.false_ne_true
  | str i =>
    obtain ⟨t,rfl⟩:=rx
    cases y with
    | non=>cases ry; exact PySem.EqNone.ne_str_none (zG I q (by simp))
    | bl j=>cases ry; exact PySem.EqMixed.ne_str_bool (zG I q (by simp))
    | int j=>obtain ⟨t',rfl⟩:=ry; exact PySem.EqMixed.ne_str_int (zG I q (by simp))
    | str j=>obtain ⟨t',rfl⟩:=ry; exact ne_str (zG I q (congrArg not Yw))
    | _=>exact absurd (show false=true from hs) Bool.false_ne_true
  | byt i =>
    obtain ⟨t,rfl⟩:=rx
    cases y with
    | byt j=>obtain ⟨t',rfl⟩:=ry; exact PySem.W.ne_bytes (zG I q (congrArg not Yx))
    | _=>exact absurd (show false=true from hs) Bool.false_ne_true
  | _=>cases y <;> exact absurd (show false=true from hs) Bool.false_ne_true
theorem zbA:OpR X (compareOp .Lt) (rI0 fun i j=>.bl (decide (i < j))):=opB0 fun _ _ _ _ _ _ _ q=>lt_int q
theorem zbB:OpR X (compareOp .LtE) (rI0 fun i j=>.bl (decide (i<=j))):=opB0 fun _ _ _ _ _ _ _ q=>le_int q
theorem zbC:OpR X (compareOp .Gt) (rI0 fun i j=>.bl (decide (j < i))):=opB0 fun _ _ _ _ _ _ _ q=>gt_int q
theorem yq (b:Expr) {op:CmpOp} (h:op≠.In:=by decide) (h2:op≠.NotIn:=by decide):behindInMarks op b=false:=by
  have e1:(op == CmpOp.In)=false:=by cases op <;> first | rfl | exact absurd rfl h
  have e2:(op == CmpOp.NotIn)=false:=by cases op <;> first | rfl | exact absurd rfl h2
  cases b <;> simp [behindInMarks,e1,e2]
theorem Ju {op:CmpOp} {r:R2} (ho:OpR X (compareOp op) r) (ha:PE X a ta) (hb:PE X b tb) (hm:behindInMarks op b=false):PE X (.Compare a [op] [b] pos) (tOp r ta tb):=by
  intro pins s σ H Q I h
  exact wpAny_Compare1 (binT ha hb I h fun v u s2 x y H2 I2 rx ry q=>ho pins s2 σ H2 x y v u Q I2 rx ry q) hm
def Yy (t:TE):TT:=fun σ H Q=>t σ H fun x H'=>∃ k,x=.bl k/\Q k H'
theorem Jv {op:CmpOp} {r:R2} (ho:OpR X (compareOp op) r) (ha:PE X a ta) (hb:PE X b tb) (hm:behindInMarks op b=false):PT X (.Compare a [op] [b] pos) (Yy (tOp r ta tb)):=by
  intro pins s σ H Q I h
  refine wpAny_isTrue_Compare1 (thn (ha pins s σ H _ I h) fun v s1 ⟨x,H1,I1,r1,q1⟩=>thn (hb pins s1 σ H1 _ I1 q1) fun u s2 ⟨y,H2,I2,r2,q2⟩ =>
    thn (ho pins s2 σ H2 x y v u _ I2 r1 r2 q2) fun c s3 ⟨z,H3,I3,r3,k,e,q3⟩=>?_) hm
  subst e
  cases r3
  exact wpAny_truthy_bool ⟨H3,I3,q3⟩
theorem xi:(sizeLine:Nat) < 2 ^ 63:=by rw [sizeLine_eq]; decide
theorem ZO:OpR X (binaryOp .Add) (fun x y H Q=>∃ i j,x=.str i/\y=.str j/\i.length + j.length<=sizeLine/\Q (.str (i ++ j)) H):=by
  intro pins s σ H x y v u Q I rx ry h
  obtain ⟨i,j,rfl,rfl,hz,q⟩:=h
  obtain ⟨t,rfl⟩:=rx
  obtain ⟨t',rfl⟩:=ry
  exact add_str (fun t' tk=>⟨.str (i ++ j),H,I.tok _,⟨_,rfl⟩,q⟩) hz
theorem xj {x:V} {us:List Value} (r:Vals [x] us):∃ u,us=[u]/\RelV x u:=by
  cases r with
  | cons r1 r2=>cases r2; exact ⟨_,rfl,r1⟩
theorem Wq {x y:V} {us:List Value} (r:Vals [x,y] us):∃ u w',us=[u,w']/\RelV x u/\RelV y w':=by
  cases r with
  | cons r1 r2 =>
    cases r2 with
    | cons r3 r4=>cases r4; exact ⟨_,_,rfl,r1,r3⟩
theorem Xs (hc:X.calm=true):yI X (.builtin "min") (fun xs H Q=>∃ i j,xs=[.int i,.int j]/\Q (.int (if j < i then j else i)) H):=by
  intro pins s σ H xs us Q I r h
  obtain ⟨i,j,rfl,q⟩:=h
  obtain ⟨u,w',rfl,⟨t,rfl⟩,⟨t',rfl⟩⟩:=Wq r
  refine min_two_ints (I.ok.hd hc) fun h' tk k=>⟨_,H,I.kept k,?_,q⟩
  by_cases hj:j < i
  · rw [if_pos hj,if_pos hj]; exact ⟨_,rfl⟩
  · rw [if_neg hj,if_neg hj]; exact ⟨_,rfl⟩
theorem Xt:yI X (.type "int") (fun xs H Q=>(∃ i,xs=[.int i]/\Q (.int i) H)\/∃ k,xs=[.bl k]/\Q (.int (if k then 1 else 0)) H):=by
  intro pins s σ H xs us Q I r h
  rcases h with ⟨i,rfl,q⟩ | ⟨k,rfl,q⟩
  · obtain ⟨u,rfl,t,rfl⟩:=xj r
    exact call_int_int ⟨.int i,H,I,⟨_,rfl⟩,q⟩
  · obtain ⟨u,rfl,r1⟩:=xj r
    cases r1
    exact call_int_bool ⟨.int (if k then 1 else 0),H,I.tok _,⟨_,rfl⟩,q⟩
theorem jr:yI X (.type "str") (fun xs H Q=>∃ i,xs=[.int i]/\i.natAbs.log2 < 1920/\Q (.str (toString i)) H):=by
  intro pins s σ H xs us Q I r h
  obtain ⟨i,rfl,hz,q⟩:=h
  obtain ⟨u,rfl,t,rfl⟩:=xj r
  exact PySem.P.str_of_int hz ⟨.str _,H,I.tok _,⟨_,rfl⟩,q⟩
end
structure ObjM (h:Heap) (x dx C:Addr) (mA:Str->Option Value):Prop where
  obj:h.get? x=some (PySem.W.instObj C dx)
  ns:h.Ns1 dx mA
  ne:dx≠x
theorem Xu {h:Heap} {dx:Addr} {mA:Str->Option Value} (n:h.Ns1 dx mA):∃ od,h.get? dx=some od/\∀ name,PySem.W.lookIn name od=some (mA name):=by
  obtain ⟨o,es,ep,ho,hd,hk,_,hm⟩:=n
  refine ⟨o,ho,fun name=>?_⟩
  have e:=hm name
  unfold nsFind findBy at e
  rw [<- Array.find?_toList] at e
  unfold PySem.W.lookIn
  rw [hd]
  dsimp only
  split
  · rename_i y q
    rw [q] at e
    exact congrArg some e
  · rename_i q
    rw [q] at e
    have a:es.toList.any (·.refKey)=false:=by
      rw [List.any_eq_false]
      intro y hy
      obtain ⟨z,t,hkey⟩:=hk y (Array.mem_toList_iff.mp hy)
      simp [DictEntry.refKey,hkey]
    have a':¬ es.toList.any (·.refKey)=true:=by rw [a]; exact Bool.false_ne_true
    rw [if_neg a']
    exact congrArg some e
theorem ObjM.look {h:Heap} {x dx C:Addr} {mA:Str->Option Value} (I:ObjM h x dx C mA):∃ od,PySem.W.InstAt h x (PySem.W.instObj C dx) C (some od)/\∀ name,PySem.W.lookIn name od=some (mA name) :=
  let ⟨od,ho,hl⟩:=Xu I.ns
  ⟨od,⟨I.obj,rfl,rfl,ho⟩,hl⟩
section
variable {prog:Program} {w:World} {A:Around} {E:Value->Shared->Prop} {s:Shared} {K:PySem.W.Frag} {x dx C f:Addr} {mA:Str->Option Value} {name:Str} {v:Value}
theorem Jw {expr:Bool} {Q:Value->Shared->Prop} (X:K.In s.heap) (I:ObjM s.heap x dx C mA) (hg:PySem.W.plainGet K C name=true) (hh:PySem.W.hasDictIn K C=true)
    (ha:PySem.W.findIn K (.ref C) name=some none) (hv:mA name=some v) (hv':PySem.W.handedIn v=true) (h:Q v { s with toks:=s.toks + 1 }) :
    wpAny (model prog w) A (getAttr (.ref x) name expr) Q E s:=by
  obtain ⟨od,J,hl⟩:=I.look
  exact PySem.W.get_value X J (PySem.W.plainGet_of hg).1 (PySem.W.findObj_own hh ha rfl (by rw [hl,hv])) hv' h
theorem Jx {ns:List Str} {Q:Unit->Shared->Prop} (X:K.In s.heap) (I:ObjM s.heap x dx C mA)
    (hs:PySem.W.findIn K (.ref C) "__setattr__"=some (some (.builtin "object.__setattr__"))) (hp:PySem.W.plainOver K C=true) (ht:PySem.W.takerIn K C name=some none) (hh:PySem.W.hasDictIn K C=true)
    (hw:PySem.Within mA ns) (hsz:ns.length<=sizeLine)
    (h:∀ h',ObjM h' x dx C (fun y=>if y=name then some v else mA y)->Heap.SameBut dx s.heap h'->Q () { s with heap:=h',toks:=s.toks + 2 }) :
    wpAny (model prog w) A (setAttr (.ref x) name v) Q E s:=by
  obtain ⟨od,J,hl⟩:=I.look
  refine PySem.W.set_plain X J hs (PySem.W.osa_open (s:={ s with toks:=s.toks + 1 }) (r:=none) X J hp ht fun b=>?_)
  obtain ⟨cd,hc,hd'⟩:=PySem.W.any_some hh
  have hx:s.heap.get? x=some ⟨.ref C,some dx,.plain,#[]⟩:=I.obj
  refine wpAny_bind (wpAny_pure (wpAny_bind (wpAny_bind (wpAny_loadPart hx (wpAny_bind (PySem.W.Looks.here (s:={ s with toks:=s.toks + 1 }) (PySem.W.looks_clsIn X hc) ?_))))))
  rw [hd']
  refine wpAny_pure (a:=some dx) (wpAny_bind (wpAny_pure (wpAny_bind ?_)))
  refine wpAny_nsSet1 (s:={ s with toks:=s.toks + 1 }) I.ns fun h' hn2 hs2=>?_
  obtain ⟨oD,esD,epD,hoD,hdD,hcD⟩:=hn2.count (PySem.Within.cons name v hw)
  refine wpAny_bind (wpAny_lookBehind hoD (by rw [hdD]; exact pastItsLine_dict (Nat.le_trans hcD (by rw [List.length_cons]; lia))) ?_)
  exact wpAny_pure (h _ ⟨(hs2.2 _ (Ne.symm I.ne)).trans I.obj,hn2,I.ne⟩ hs2)
theorem Wr {R:Result->Shared->Prop} {vs:List Value} {kw:List (Str × Value)} (X:K.In s.heap) (hm:PySem.W.makesIn K C=true)
    (hi:PySem.W.findIn K (.ref C) "__init__"=some (some (.ref f))) (hf:PySem.W.typeIn K (.ref f)=some (.type "function"))
    (h:codeAny (model prog w) (A.under (.builtin "type.__call__" ⟨.ref C :: vs,kw⟩)) (.call (.ref f) ⟨.ref (s.heap.objs.size + 1) :: vs,kw⟩) (PySem.W.InitBack (s.heap.objs.size + 1) R)
      { s with heap:=(s.heap.push PySem.W.emptyDict).push (PySem.W.instObj C s.heap.objs.size) }) :
    codeAny (model prog w) A (.call (.ref C) ⟨vs,kw⟩) R s:=by
  obtain ⟨hh,g,d,t,os⟩:=s
  exact PySem.W.make_core (PySem.W.makes_of X hm) (PySem.W.looks_findIn X hi) (fun self=>PySem.W.bind_fn X self hf) (.inl rfl) h
end
def putF (f:Str) (v:V):List (Str × V)->List (Str × V)
  | []=>[(f,v)]
  | (g,x) :: r=>if g=f then (g,v) :: r else (g,x) :: putF f v r
theorem wM (f g:Str) (v:V):∀ fs:List (Str × V),(putF f v fs).lookup g=if g=f then some v else fs.lookup g
  | []=>by
    show List.lookup g [(f,v)]=_
    by_cases h:g=f
    · have hb:(g == f)=true:=beq_iff_eq.mpr h
      simp only [List.lookup,hb,if_pos h]
    · have hb:(g == f)=false:=beq_eq_false_iff_ne.mpr h
      simp only [List.lookup,hb,if_neg h]
  | (k,x) :: r=>by
    have ih:=wM f g v r
    rw [show putF f v ((k,x) :: r)=(if k=f then (k,v) :: r else (k,x) :: putF f v r) from rfl]
    by_cases hk:k=f
    · rw [if_pos hk]
      by_cases h:g=k
      · have hb:(g == k)=true:=beq_iff_eq.mpr h
        simp only [List.lookup,hb,if_pos (h.trans hk)]
      · have hb:(g == k)=false:=beq_eq_false_iff_ne.mpr h
        simp only [List.lookup,hb,if_neg (fun e:g=f=>h (e.trans hk.symm))]
    · rw [if_neg hk]
      by_cases h:g=k
      · have hb:(g == k)=true:=beq_iff_eq.mpr h
        simp only [List.lookup,hb,if_neg (fun e:g=f=>hk (h.symm.trans e))]
      · have hb:(g == k)=false:=beq_eq_false_iff_ne.mpr h
        simp only [List.lookup,hb]
        exact ih
theorem wB (f:Str) (v:V):∀ fs:List (Str × V),f∈(putF f v fs).map (·.1)/\∀ g,g∈fs.map (·.1)->g∈(putF f v fs).map (·.1)
  | []=>⟨by simp [putF],fun g h=>by simp at h⟩
  | (k,x) :: r=>by
    obtain ⟨i1,i2⟩:=wB f v r
    rw [show putF f v ((k,x) :: r)=(if k=f then (k,v) :: r else (k,x) :: putF f v r) from rfl]
    by_cases hk:k=f
    · rw [if_pos hk]
      subst hk
      exact ⟨by simp,fun g h=>by simpa using h⟩
    · rw [if_neg hk]
      refine ⟨?_,fun g h=>?_⟩
      · rw [List.map_cons]
        exact List.mem_cons_of_mem _ i1
      · rw [List.map_cons] at h ⊢
        rcases List.mem_cons.mp h with e | e
        · exact List.mem_cons.mpr (.inl e)
        · exact List.mem_cons_of_mem _ (i2 g e)
theorem wN (f:Str) (v:V):∀ fs:List (Str × V),(putF f v fs).length<=fs.length + 1
  | []=>by simp [putF]
  | (k,x) :: r=>by
    have ih:=wN f v r
    rw [show putF f v ((k,x) :: r)=(if k=f then (k,v) :: r else (k,x) :: putF f v r) from rfl]
    by_cases hk:k=f
    · rw [if_pos hk,List.length_cons,List.length_cons]; lia
    · rw [if_neg hk,List.length_cons,List.length_cons]; lia
theorem RelO.some_of {v:V} {o:Option Value} (r:RelO (some v) o):∃ u,o=some u/\RelV v u:=by
  cases o with
  | none=>exact (show False from r).elim
  | some u=>exact ⟨u,rfl,r⟩
theorem Xv {v:V} {u:Value} (r:RelV v u):PySem.W.handedIn u=true:=by
  cases v with
  | non=>cases (show u=Value.none from r); rfl
  | bl b=>cases (show u=Value.bool b from r); rfl
  | int i=>obtain ⟨t,e⟩:=(show ∃ t,u=Value.int i t from r); cases e; rfl
  | str x=>obtain ⟨t,e⟩:=(show ∃ t,u=Value.str x t from r); cases e; rfl
  | byt b=>obtain ⟨t,e⟩:=(show ∃ t,u=Value.bytes b t from r); cases e; rfl
  | flt b=>obtain ⟨t,e⟩:=(show ∃ t,u=Value.float b t from r); cases e; rfl
  | ref a=>cases (show u=Value.ref a from r); rfl
  | ty n=>cases (show u=Value.type n from r); rfl
section
variable {P:Program} {w:World} {H H':Hp} {h h':Heap} {a C dx:Addr} {fs fs':List (Str × V)}
theorem Yz (hok:HOk P w H h) (e:H a=some (.ins C dx fs)):∃ mA,ObjM h a dx C mA/\(∀ f,RelO (fs.lookup f) (mA f))/\PySem.Within mA (fs.map (·.1))/\fs.length<=1000/\H dx=some (.own a):=by
  obtain ⟨d,z,ne,ob,mA,n,r,q⟩:=(show ObjOk P w H h a (.ins C dx fs) from hok a _ e)
  exact ⟨mA,⟨ob,n,ne⟩,r,q,z,d⟩
end
structure Cls (K:PySem.W.Frag) (C:Addr):Prop where
  pg:PySem.W.plainGet K C Str.empty=true
  hd:PySem.W.hasDictIn K C=true
  po:PySem.W.plainOver K C=true
  sa:PySem.W.findIn K (.ref C) "__setattr__"=some (some (.builtin "object.__setattr__"))
theorem Cls.get {K:PySem.W.Frag} {C:Addr} (c:Cls K C) (f:Str):PySem.W.plainGet K C f=true:=c.pg
def NoAttr (K:PySem.W.Frag) (C:Addr) (f:Str):Prop:=PySem.W.findIn K (.ref C) f=some none
theorem NoAttr.taker {K:PySem.W.Frag} {C:Addr} {f:Str} (n:NoAttr K C f):PySem.W.takerIn K C f=some none:=by
  unfold PySem.W.takerIn
  rw [show PySem.W.findIn K (.ref C) f=some none from n]
  rfl
section
variable {X:Cx} {pins:List (Addr × Obj)} {σ:St} {H:Hp} {s:Shared} {a C dx:Addr} {fs:List (Str × V)} {f:Str} {v:V} {A:Around} {E:Value->Shared->Prop}
theorem ZP {b:Bool} {Q:Value->Shared->Prop} (I:Inv X pins σ H s) (e:H a=some (.ins C dx fs)) (c:Cls X.K C) (n:NoAttr X.K C f) (l:fs.lookup f=some v)
    (h:∀ u s',Inv X pins σ H s'->RelV v u->Q u s'):wpAny (model X.prog X.w) A (getAttr (.ref a) f b) Q E s:=by
  obtain ⟨mA,O,r,_,_,_⟩:=Yz I.hok e
  obtain ⟨u,hu,ru⟩:=RelO.some_of (v:=v) (o:=mA f) (by rw [<- l]; exact r f)
  exact Jw I.kIn O (c.get f) c.hd n hu (Xv ru) (h u _ (I.tok _) ru)
theorem ZQ {y:V} {u:Value} {Q:Unit->Shared->Prop} (I:Inv X pins σ H s) (e:H a=some (.ins C dx fs)) (c:Cls X.K C) (n:NoAttr X.K C f) (hl:fs.length < 1000) (ry:RelV y u)
    (h:∀ s',Inv X pins σ (upd H a (.ins C dx (putF f y fs))) s'->Q () s'):wpAny (model X.prog X.w) A (setAttr (.ref a) f u) Q E s:=by
  obtain ⟨mA,O,r,wi,_,ho⟩:=Yz I.hok e
  have hz:(fs.map (·.1)).length<=sizeLine:=by rw [List.length_map,sizeLine_eq]; lia
  refine Jx I.kIn O c.sa c.po n.taker c.hd wi hz fun h' O' sb=>h _ ?_
  have hd:∃ o,h'.get? dx=some o:=let ⟨o,_,_,e',_⟩:=O'.ns; ⟨o,e'⟩
  refine I.write (x:=a) (e:=dx) (by rw [e]; exact True.intro) (.inr ho) (fun b q hb z=>(sb.2 b hb).trans z) hd ?_
  refine ⟨by rw [zk O.ne]; exact ho,?_,O.ne,O'.obj,_,O'.ns,fun g=>?_,fun g hg=>?_⟩
  · have:=wN f y fs; lia
  · show RelO ((putF f y fs).lookup g) (if g=f then some u else mA g)
    rw [wM]
    by_cases q:g=f
    · rw [if_pos q,if_pos q]; exact ry
    · rw [if_neg q,if_neg q]; exact r g
  · by_cases q:g=f
    · rw [q]; exact (wB f y fs).1
    · refine (wB f y fs).2 g (wi g fun z=>hg ?_)
      show (if g=f then some u else mA g)=none
      rw [if_neg q]; exact z
theorem Inv.made (I:Inv X pins σ H s):Inv X pins σ (upd (upd H s.heap.objs.size (.own (s.heap.objs.size + 1))) (s.heap.objs.size + 1) (.ins C s.heap.objs.size []))
    { s with heap:=(s.heap.push PySem.W.emptyDict).push (PySem.W.instObj C s.heap.objs.size) }:=by
  have e1:(s.heap.push PySem.W.emptyDict).get? s.heap.objs.size=some PySem.W.emptyDict:=Heap.get?_push_size s.heap rfl
  have e2:((s.heap.push PySem.W.emptyDict).push (PySem.W.instObj C s.heap.objs.size)).get? (s.heap.objs.size + 1)=some (PySem.W.instObj C s.heap.objs.size):=by
    have:=Heap.get?_push_size (s.heap.push PySem.W.emptyDict) (o:=PySem.W.instObj C s.heap.objs.size) rfl
    rwa [Heap.size_push] at this
  have e3:(s.heap.push PySem.W.emptyDict).Ns s.heap.objs.size (fun _=>none):=⟨PySem.W.emptyDict,#[],_,e1,rfl,(fun e he=>absurd he (by simp)),fun _=>rfl⟩
  have I1:=I.laid (a:=s.heap.objs.size) (o:=.own (s.heap.objs.size + 1)) (h':=s.heap.push PySem.W.emptyDict) (t':=s.toks) (fun b u q=>Heap.get?_push_of_some _ q) (Nat.le_refl _) ⟨_,e1⟩
  refine I1.laid (a:=s.heap.objs.size + 1) (o:=.ins C s.heap.objs.size []) (t':=s.toks) (fun b u q=>Heap.get?_push_of_some _ q) (Nat.le_of_eq (Heap.size_push _ _)) ?_
  have ne:s.heap.objs.size≠s.heap.objs.size + 1:=Nat.ne_of_lt (Nat.lt_succ_self _)
  refine ⟨by rw [zk ne,zf],Nat.zero_le _,ne,e2,fun _=>none,(Heap.Ns1.of_empty e3).at fun o q=>Heap.get?_push_of_some _ q,fun _=>True.intro,fun y hy=>absurd rfl hy⟩
theorem Jy {prog:Program} {w:World} {env:Env} {e:Expr} {f:Str} {pos:Pos} {s:Shared} {Q:Value->Shared->Prop} (hb:attributeBase e f env (eval e env)=eval e env)
    (h:wpAny (model prog w) A (eval e env) (fun o s₁=>wpAny (model prog w) A (getAttr o f true) Q E s₁) E s):wpAny (model prog w) A (eval (.Attribute e f pos) env) Q E s :=
  Attribute_any_ h (by rw [arm_eval_Attribute,hb])
end
def tFld (K:PySem.W.Frag) (ta:TE) (f:Str):TE:=fun σ H Q=>ta σ H fun x H1=>∃ a C dx fs v,x=.ref a/\H1 a=some (.ins C dx fs)/\Cls K C/\NoAttr K C f/\fs.lookup f=some v/\Q v H1
def sFld (K:PySem.W.Frag) (ta tv:TE) (f:Str):TS:=fun D σ H=>tv σ H fun y H1=>ta σ H1 fun x H2=>∃ a C dx fs,x=.ref a/\H2 a=some (.ins C dx fs)/\Cls K C/\NoAttr K C f/\fs.length < 1000 /\
  D.nx σ (upd H2 a (.ins C dx (putF f y fs)))
section
variable {X:Cx} {o e value:Expr} {f:Str} {pos pos' tpos:Pos} {ta tv:TE}
theorem zaD (he:PE X e ta) (hb:attributeBase e f X.env (eval e X.env)=eval e X.env):PE X (.Attribute e f pos) (tFld X.K ta f):=by
  intro pins s σ H Q I h
  refine Jy hb (thn (he pins s σ H _ I h) fun u s1 ⟨x,H1,I1,rx,a,C,dx,fs,v,ex,ea,c,n,l,q⟩=>?_)
  subst ex
  obtain rfl:u=Value.ref a:=rx
  exact ZP I1 ea c n l fun u' s2 I2 ru=>⟨v,H1,I2,ru,q⟩
theorem zaE (ha:PE X o ta) (hv:PE X value tv) (hs:swapsWith value (some (.Attribute o f pos')) pos.line X.env=pure false):PS X (.Assign [.Attribute o f pos'] value pos) (sFld X.K ta tv f):=by
  intro pins s σ H D I h
  refine plainObj_wpAny_Assign_Attribute (thn (hv pins s σ H _ I h) fun u s1 ⟨y,H1,I1,ry,q⟩=>thn (ha pins s1 σ H1 _ I1 q) fun ov s2 ⟨x,H2,I2,rx,a,C,dx,fs,ex,ea,c,n,l,q2⟩=>?_) hs
  subst ex
  obtain rfl:ov=Value.ref a:=rx
  exact ZQ I2 ea c n l ry fun s3 I3=>⟨σ,_,I3,q2⟩
end
section
variable {X:Cx} {pins:List (Addr × Obj)} {σ:St} {H:Hp} {s:Shared} {A:Around} {E:Value->Shared->Prop} {Q:Value->Shared->Prop} {c:Value} {b:Bool}
inductive TyOf (K:PySem.W.Frag) (H:Hp):V->Value->Prop where
  | non:TyOf K H .non (.type "NoneType")
  | bl (x:Bool):TyOf K H (.bl x) (.type "bool")
  | int (i:Int):TyOf K H (.int i) (.type "int")
  | str (x:Str):TyOf K H (.str x) (.type "str")
  | flt (x:UInt64):TyOf K H (.flt x) (.type "float")
  | lst {a:Addr} {xs:List V} (e:H a=some (.lst xs)):TyOf K H (.ref a) (.type "list")
  | frz {a:Addr} {o:Obj} {xs:List V} (e:H a=some (.frz o (.lst xs))):TyOf K H (.ref a) (.type "list")
  | tup {a:Addr} {xs:List V} (e:H a=some (.tup xs)):TyOf K H (.ref a) (.type "tuple")
  | dK {a:Addr} {kvs:List (Key × V)} (e:H a=some (.dK kvs)):TyOf K H (.ref a) (.type "dict")
  | dT {a:Addr} {kvs:List (List Key × V)} (e:H a=some (.dT kvs)):TyOf K H (.ref a) (.type "dict")
  | ins {a C dx:Addr} {fs:List (Str × V)} (e:H a=some (.ins C dx fs)) (cl:Cls K C) (ha:PySem.W.findIn K (.ref C) "__class__"=some (some (.builtin "object.__class__")))
      (hn:PySem.W.specialIn K (.builtin "object.__class__") "__get__"=some (some (.builtin "getset_descriptor.__get__"))) (htk:PySem.W.takesIn K (.builtin "object.__class__")=some true)
      (hm:PySem.W.mroIn K C (.type "object")=some true):TyOf K H (.ref a) (.ref C)
end
structure Room (k:Nat) (A:Around):Prop where
  hd:A.handled=none
  dp:A.depth + 3 * k + 5 < recursionLimit
  un:A.units + 16 * k + 200 < cLine
theorem Room.mono {j k:Nat} {A:Around} (r:Room k A) (h:j<=k):Room j A:=⟨r.hd,by have:=r.dp; lia,by have:=r.un; lia⟩
theorem Room.deeper {k:Nat} {A:Around} (r:Room (k + 1) A) (env:Env):Room k (A.deeper env) :=
  ⟨r.hd,by have:=r.dp; show A.depth + 1 + 3 * k + 5 < _; lia,by have:=r.un; show A.units + 3 + 16 * k + 200 < _; lia⟩
theorem ZR {A:Around} {C:Addr} {us:List Value} {kw:List (Str × Value)}:(A.under (.builtin "type.__call__" ⟨.ref C :: us,kw⟩)).depth=A.depth + 1:=by
  first | rfl | simp [Around.under,Code.weight,Code.isCreation,Code.isGuard,Code.isCaller,Code.frames,Code.isFrame,guardIds]
theorem ZT {A:Around} {C:Addr} {us:List Value} {kw:List (Str × Value)}:(A.under (.builtin "type.__call__" ⟨.ref C :: us,kw⟩)).units=A.units + 1:=by
  first | rfl | simp [Around.under,Code.cUnits,Code.frames,Code.isFrame]
theorem Room.make {k:Nat} {A:Around} (r:Room (k + 1) A) (C:Addr) (us:List Value) (kw:List (Str × Value)):Room k (A.under (.builtin "type.__call__" ⟨.ref C :: us,kw⟩)) :=
  ⟨r.hd,by have:=r.dp; rw [ZR]; lia,by have:=r.un; rw [ZT]; lia⟩
theorem Room.depth {k:Nat} {A:Around} (r:Room k A):A.depth < recursionLimit:=by have:=r.dp; lia
theorem Room.units {k:Nat} {A:Around} (r:Room k A):A.units + 64 < cLine:=by have:=r.un; lia
theorem Room.units0 {k:Nat} {A:Around} (r:Room k A):A.units < cLine:=by have:=r.un; lia
def tNil:TA:=fun _ H Q=>Q [] H
def zH (ta:TE) (tr:TA):TA:=fun σ H Q=>ta σ H fun x H1=>tr σ H1 fun xs H2=>Q (x :: xs) H2
section
variable {X:Cx} {e:Expr} {es:List Expr} {te:TE} {t:TA} {pos:Pos}
theorem zaF:PA X [] tNil:=fun _ _ _ _ H Q I h=>Calls.spliced_nil ⟨[],H,I,.nil,h⟩
theorem Jz (ha:PE X e te) (hr:PA X es t) (hs:starEach (e :: es) X.env=(false,eval e X.env) :: starEach es X.env:=by rfl):PA X (e :: es) (zH te t):=by
  intro pos pins s σ H Q I h
  rw [hs]
  show wpAny _ _ (spliced ((false,eval e X.env) :: backTo pos (starEach es X.env))) _ _ s
  refine Calls.spliced_cons (thn (ha pins s σ H _ I h) fun u s1 ⟨x,H1,I1,r1,q1⟩=>?_)
  exact thn (hr pos pins s1 σ H1 _ I1 q1) fun us s2 ⟨xs,H2,I2,r2,q2⟩=>⟨x :: xs,H2,I2,.cons r1 r2,q2⟩
def tTup (t:TA):TE:=fun σ H Q=>t σ H fun xs H1=>xs.length<=sizeLine/\∀ p,H1 p=none->Q (.ref p) (upd H1 p (.tup xs))
def tLst (t:TA):TE:=fun σ H Q=>t σ H fun xs H1=>xs.length<=sizeLine/\∀ p,H1 p=none->Q (.ref p) (upd H1 p (.lst xs))
theorem zaG {x1} (h:PA X es t):PE X (.Tuple es x1 pos) (tTup t):=by
  intro pins s σ H Q I hq
  refine wpAny_Tuple_spliced (thn (h pos pins s σ H _ I hq) fun us s1 ⟨xs,H1,I1,r,z,q⟩=>⟨by rw [<- r.length]; exact z,?_⟩)
  have hf:H1 s1.heap.objs.size=none:=I1.hok.fresh (Nat.le_refl _)
  refine ⟨.ref s1.heap.objs.size,upd H1 s1.heap.objs.size (.tup xs),I1.laid (t':=s1.toks) (fun b u e=>Heap.get?_push_of_some _ e) (Nat.le_refl _) ?_,rfl,q _ hf⟩
  exact ⟨z,us,r,⟨_,Heap.get?_push_size _ rfl,rfl,rfl,_,rfl⟩⟩
theorem zaH (h:PA X es t):PE X (.List es pos) (tLst t):=by
  intro pins s σ H Q I hq
  refine wpAny_List_spliced (thn (h pos pins s σ H _ I hq) fun us s1 ⟨xs,H1,I1,r,z,q⟩=>⟨by rw [<- r.length]; exact z,?_⟩)
  have hf:H1 s1.heap.objs.size=none:=I1.hok.fresh (Nat.le_refl _)
  refine ⟨.ref s1.heap.objs.size,upd H1 s1.heap.objs.size (.lst xs),I1.laid (t':=s1.toks) (fun b u e=>Heap.get?_push_of_some _ e) (Nat.le_refl _) ?_,rfl,q _ hf⟩
  exact ⟨z,us,0,r,Heap.get?_push_size _ rfl⟩
end
abbrev Sp:=List V->Hp->VK->XK->Prop
abbrev CXT:=List Env->Hp->Shared->XK->Value->Shared->Prop
structure Env0 (P:Program) (w:World) (K:PySem.W.Frag) (mg:Str->Option Value) (base:Heap) (A:Around) (outer:List Env) (s:Shared) (H:Hp):Prop where
  frames:A.frames=some outer
  mod:Mod K mg base
  bs:∀ b o,base.get? b=some o->s.heap.get? b=some o/\H b=none
  bsz:base.objs.size<=s.heap.objs.size
  funs:s.heap.FunFrames base outer
  frf:∀ b∈frs outer,H b=none
  hok:HOk P w H s.heap
  bare:AllBare s.gens
def CE (outer:List Env) (P:Program) (w:World) (H:Hp) (s:Shared) (Q:VK) (u:Value) (s':Shared):Prop :=
  ∃ v H',s'.os=s.os/\AllBare s'.gens/\Un (frs outer) [] H H' s.heap s'.heap/\HOk P w H' s'.heap/\RelV v u/\Q v H'
def CR (CX:CXT) (outer:List Env) (P:Program) (w:World) (H:Hp) (s:Shared) (Q:VK) (E:XK) (r:Result) (s':Shared):Prop :=
  match r with
  | .ok (.ret u)=>CE outer P w H s Q u s'
  | .ok _=>False
  | .error e=>CX outer H s E e s'
structure FnOk (P:Program) (w:World) (K:PySem.W.Frag) (mg:Str->Option Value) (base:Heap) (CX:CXT) (k:Nat) (f:Addr) (fd:FuncData) (ps:List Str) (sp:Sp):Prop where
  len:∀ vs H Q E,sp vs H Q E->vs.length=ps.length
  run:∀ (A:Around) (outer:List Env) (s:Shared) (H:Hp) (args:Args) (us:List Value) (vs:List V) (Q:VK) (E:XK),Room k A->Env0 P w K mg base A outer s H->BindsTo s fd args (ps.zip us)->Vals vs us->sp vs H Q E ->
    codeAny (model P w) A (.call (.ref f) args) (CR CX outer P w H s Q E) s
theorem FnOk.mono {P:Program} {w:World} {K:PySem.W.Frag} {mg:Str->Option Value} {base:Heap} {CX:CXT} {j k:Nat} {f:Addr} {fd:FuncData} {ps:List Str} {sp:Sp} (F:FnOk P w K mg base CX j f fd ps sp) (h:j<=k) :
    FnOk P w K mg base CX k f fd ps sp:=⟨F.len,fun A outer s H args us vs Q E hr=>F.run A outer s H args us vs Q E (hr.mono h)⟩
theorem Env0.make {P:Program} {w:World} {K:PySem.W.Frag} {mg:Str->Option Value} {base:Heap} {A:Around} {outer:List Env} {s:Shared} {H:Hp} (e:Env0 P w K mg base A outer s H) (C:Addr) (us:List Value) (kw:List (Str × Value)) :
    Env0 P w K mg base (A.under (.builtin "type.__call__" ⟨.ref C :: us,kw⟩)) outer s H:=⟨by first | exact e.frames | (simpa [Around.under,Code.envs,Code.isFrame,pushEnvs] using e.frames),e.mod,e.bs,e.bsz,e.funs,e.frf,e.hok,e.bare⟩
section
variable {X:Cx} {pins:List (Addr × Obj)} {σ:St} {H:Hp} {s s':Shared}
theorem Inv.env0 (I:Inv X pins σ H s):Env0 X.prog X.w X.K X.mg X.base X.A X.stack s H :=
  ⟨I.ok.frames,I.ok.mod,I.bs,Nat.le_trans I.ok.bsz I.sz,I.stack,I.stkFree,I.hok,I.bare⟩
theorem Inv.after {Q:VK} {u:Value} (I:Inv X pins σ H s) (h:CE X.stack X.prog X.w H s Q u s'):EP X pins σ Q u s':=by
  obtain ⟨v,H',os,bare,un,hok,r,q⟩:=h
  obtain ⟨hh,g,d,t,os'⟩:=s'
  obtain rfl:os'=s.os:=os
  exact ⟨v,H',I.call (h':=hh) (g':=g) (d':=d) (t':=t) (ch:=[]) un hok bare (fun b z=>absurd z (by simp)),r,q⟩
end
def Zc (sp:Sp) (dvs:List V) (E:XK) (t:TA):TE:=fun σ H Q=>t σ H fun vs H1=>sp (vs ++ dvs) H1 Q E
def QL (C:Addr) (sp:Sp) (dvs:List V) (E:XK) (t:TA):TE:=fun σ H Q=>t σ H fun vs H1=>∀ x dx,H1 x=none->H1 dx=none->dx≠x ->
  sp (.ref x :: (vs ++ dvs)) (upd (upd H1 dx (.own x)) x (.ins C dx [])) (fun v H2=>v=.non/\Q (.ref x) H2) E
def Binds (K:PySem.W.Frag) (fd:FuncData) (ps:List Str) (ds:List Value):Prop :=
  ∀ (s:Shared) (us:List Value),K.In s.heap->(us ++ ds).length=ps.length->BindsTo s fd ⟨us,[]⟩ (ps.zip (us ++ ds))
theorem Binds.all {K:PySem.W.Frag} {fd:FuncData} {ps:List Str} (h:∀ us:List Value,us.length=ps.length->bindArgs fd ⟨us,[]⟩=pure (ps.zip us)):Binds K fd ps []:=fun s us _ hl=>by
  rw [List.append_nil] at hl ⊢
  exact .of_eq (h us hl)
def yO (CX:CXT) (X:Cx) (E:XK):Prop:=∀ (pins:List (Addr × Obj)) (σ:St) (H:Hp) (s:Shared) (e:Value) (s':Shared),Inv X pins σ H s->CX X.stack H s E e s'->X.xe e s'
section
variable {X:Cx} {CX:CXT} {k:Nat} {f C:Addr} {fd:FuncData} {ps:List Str} {sp:Sp} {dvs:List V} {ds:List Value} {E:XK} {x m:Str} {p pos apos:Pos} {e o:Expr} {es:List Expr} {ta:TE} {t:TA}
theorem ZU {pins:List (Addr × Obj)} {σ:St} {H:Hp} {s:Shared} {Q:VK} {us:List Value} {vs:List V} (F:FnOk X.prog X.w X.K X.mg X.base CX k f fd ps sp) (hr:Room k X.A) (hb:Binds X.K fd ps ds) (hd:Vals dvs ds) (hx:yO CX X E)
    (I:Inv X pins σ H s) (r:Vals vs us) (h:sp (vs ++ dvs) H Q E):wpAny (model X.prog X.w) X.A (call (.ref f) us) (EP X pins σ Q) X.xe s:=by
  have r2:Vals (vs ++ dvs) (us ++ ds):=r.append hd
  have hl:(us ++ ds).length=ps.length:=by rw [<- r2.length]; exact F.len _ _ _ _ h
  refine wpAny_call (codeAny_mono (F.run X.A X.stack s H ⟨us,[]⟩ (us ++ ds) (vs ++ dvs) Q E hr I.env0 (hb s us I.kIn hl) r2 h) fun r s' hq=>?_)
  cases r with
  | error e=>exact hx pins σ H s e s' I hq
  | ok fl =>
    cases fl with
    | ret u=>exact I.after hq
    | next=>exact False.elim hq
    | brk=>exact False.elim hq
    | cont=>exact False.elim hq
theorem JA (F:FnOk X.prog X.w X.K X.mg X.base CX k f fd ps sp) (hr:Room k X.A) (hg:Gl X x) (hm:X.mg x=some (.ref f)) (hk:PySem.W.keepIn X.K (.ref f)=true) (hb:Binds X.K fd ps ds) (hd:Vals dvs ds) (hx:yO CX X E)
    (ha:PA X (e :: es) t) (hdb:(x == ("__debug__":Str))=false:=by decide) (he:starEach (e :: es) X.env=(false,eval e X.env) :: starEach es X.env:=by rfl) (hpl:(backTo pos (starEach es X.env)).any (·.1)=false:=by rfl) :
    PE X (.Call (.Name x p) (e :: es) [] pos) (Zc sp dvs E t):=by
  intro pins s σ H Q I h
  refine wpAny_Call_Name_kw (wV I hg hm ?_ hdb)
  refine PySem.W.callWith_K (h₀:=X.base) I.ok.mod.kin hk (thn (ha pos pins s σ H _ I h) fun us s1 ⟨vs,H1,I1,r,q⟩=>⟨I1.kIn,?_⟩) he hpl
  exact ZU F hr hb hd hx I1 r q
structure Mk (K:PySem.W.Frag) (C f:Addr):Prop where
  makes:PySem.W.makesIn K C=true
  init:PySem.W.findIn K (.ref C) "__init__"=some (some (.ref f))
  fn:PySem.W.isFn K (.ref f)=true
  kp:PySem.W.keepIn K (.ref C)=true
theorem Ws {pins:List (Addr × Obj)} {σ:St} {H:Hp} {s:Shared} {Q:VK} {us:List Value} {vs:List V} (M:Mk X.K C f) (F:FnOk X.prog X.w X.K X.mg X.base CX k f fd ps sp) (hr:Room (k + 1) X.A) (hb:Binds X.K fd ps ds) (hd:Vals dvs ds)
    (hx:yO CX X E) (I:Inv X pins σ H s) (r:Vals vs us)
    (h:∀ x dx,H x=none->H dx=none->dx≠x->sp (.ref x :: (vs ++ dvs)) (upd (upd H dx (.own x)) x (.ins C dx [])) (fun v H2=>v=.non/\Q (.ref x) H2) E) :
    wpAny (model X.prog X.w) X.A (call (.ref C) us) (EP X pins σ Q) X.xe s:=by
  have hq:=h (s.heap.objs.size + 1) s.heap.objs.size (I.hok.fresh (Nat.le_succ _)) (I.hok.fresh (Nat.le_refl _)) (Nat.ne_of_lt (Nat.lt_succ_self _))
  have I2:=Inv.made (C:=C) I
  have r2:Vals (V.ref (s.heap.objs.size + 1) :: (vs ++ dvs)) (Value.ref (s.heap.objs.size + 1) :: (us ++ ds)):=.cons rfl (r.append hd)
  have hl:(Value.ref (s.heap.objs.size + 1) :: us ++ ds).length=ps.length:=by
    have e:=r2.length
    rw [F.len _ _ _ _ hq] at e
    exact e.symm
  refine wpAny_call (Wr (f:=f) I.kIn M.makes M.init (beq_iff_eq.mp M.fn) (codeAny_mono (F.run _ X.stack _ _ ⟨Value.ref (s.heap.objs.size + 1) :: us,[]⟩ (Value.ref (s.heap.objs.size + 1) :: (us ++ ds)) _ _ E (hr.make C us [])
    (I2.env0.make C us []) (hb _ (Value.ref (s.heap.objs.size + 1) :: us) I2.kIn hl) r2 hq) fun r s' hq'=>?_))
  cases r with
  | error e=>exact hx pins σ _ _ e s' I2 hq'
  | ok fl =>
    cases fl with
    | ret u =>
      obtain ⟨v,H',I3,rv,ev,q3⟩:=I2.after hq'
      subst ev
      exact ⟨rv,⟨V.ref (s.heap.objs.size + 1),H',I3,rfl,q3⟩⟩
    | next=>exact False.elim hq'
    | brk=>exact False.elim hq'
    | cont=>exact False.elim hq'
theorem JB (M:Mk X.K C f) (F:FnOk X.prog X.w X.K X.mg X.base CX k f fd ps sp) (hr:Room (k + 1) X.A) (hg:Gl X x) (hm:X.mg x=some (.ref C)) (hb:Binds X.K fd ps ds) (hd:Vals dvs ds) (hx:yO CX X E)
    (ha:PA X (e :: es) t) (hdb:(x == ("__debug__":Str))=false:=by decide) (he:starEach (e :: es) X.env=(false,eval e X.env) :: starEach es X.env:=by rfl) (hpl:(backTo pos (starEach es X.env)).any (·.1)=false:=by rfl) :
    PE X (.Call (.Name x p) (e :: es) [] pos) (QL C sp dvs E t):=by
  intro pins s σ H Q I h
  refine wpAny_Call_Name_kw (wV I hg hm ?_ hdb)
  refine PySem.W.callWith_K (h₀:=X.base) I.ok.mod.kin M.kp (thn (ha pos pins s σ H _ I h) fun us s1 ⟨vs,H1,I1,r,q⟩=>⟨I1.kIn,?_⟩) he hpl
  exact Ws M F hr hb hd hx I1 r q
end
section
variable {X:Cx} {CX:CXT} {k:Nat} {f C:Addr} {fd:FuncData} {ps ks:List Str} {sp:Sp} {E:XK} {x m:Str} {p pos apos kpos:Pos} {e o:Expr} {es:List Expr} {kws:List Keyword} {te ta:TE} {t tk:TA} {nm:Option Str}
variable {g:List Value->List Value->List Value} {gV:List V->List V->List V}
end
structure FnScope (N P:List Str) (sc:Scope):Prop where
  kind:sc.kind=.function
  co:sc.isCoroutine=false
  gen:sc.isGenerator=false
  nd:N.Nodup
  pre:N.take P.length=P
  par:∀ x∈P,sc.names.lookup x=some .local\/sc.names.lookup x=some .cell
  nofree:∀ y∈sc.names,y.2≠.free
theorem FnScope.ok {N P:List Str} {sc:Scope} (a:N.Nodup:=by decide +kernel) (b:∀ x∈P,sc.names.lookup x=some .local\/sc.names.lookup x=some .cell:=by decide +kernel) (c:∀ y∈sc.names,y.2≠.free:=by decide +kernel) (d:sc.kind=.function:=by rfl) (e:sc.isCoroutine=false:=by rfl) (f:sc.isGenerator=false:=by rfl) (g:N.take P.length=P:=by rfl):FnScope N P sc:=⟨d,e,f,a,g,b,c⟩
theorem v4 {kindOf:Str->Option NameKind} {x:Str}:∀ {binds:List (Str × Value)} {m:Str->Option Value},(∀ v,(x,v) ∉ binds)->bindL kindOf binds m x=m x
  | [],_,_=>rfl
  | (n,v) :: r,m,h=>by
    unfold bindL
    rw [v4 fun w hw=>h w (List.mem_cons_of_mem _ hw)]
    split
    · have:x≠n:=by rintro rfl; exact h v List.mem_cons_self
      simp [this]
    · rfl
theorem v5 {kindOf:Str->Option NameKind} {x:Str}:∀ {binds:List (Str × Value)} {m:Str->Option Value},(∀ v,(x,v) ∉ binds)->bindC kindOf binds m x=m x
  | [],_,_=>rfl
  | (n,v) :: r,m,h=>by
    unfold bindC
    rw [v5 fun w hw=>h w (List.mem_cons_of_mem _ hw)]
    split
    · rfl
    · have:x≠n:=by rintro rfl; exact h v List.mem_cons_self
      simp [this]
theorem v6 {kindOf:Str->Option NameKind} {x:Str} {v:Value}:∀ {P:List Str} {vs:List Value} {i:Nat} {m:Str->Option Value},P.Nodup->P[i]?=some x->vs[i]?=some v->kindOf x=some .local ->
    bindL kindOf (P.zip vs) m x=some v
  | [],_,_,_,_,h,_,_=>by simp at h
  | _ :: _,[],_,_,_,_,h,_=>by simp at h
  | p :: P,w :: vs,0,m,nd,h1,h2,hk=>by
    simp at h1 h2; subst h1; subst h2
    show bindL kindOf ((p,w) :: P.zip vs) m p=_
    unfold bindL
    rw [v4 fun v hv=>(List.nodup_cons.mp nd).1 (List.of_mem_zip hv).1,if_pos hk]
    simp
  | p :: P,w :: vs,i + 1,m,nd,h1,h2,hk=>by
    show bindL kindOf ((p,w) :: P.zip vs) m x=_
    unfold bindL
    exact v6 (i:=i) (List.nodup_cons.mp nd).2 (by simpa using h1) (by simpa using h2) hk
theorem v9 {kindOf:Str->Option NameKind} {x:Str} {v:Value}:∀ {P:List Str} {vs:List Value} {i:Nat} {m:Str->Option Value},P.Nodup->P[i]?=some x->vs[i]?=some v->kindOf x≠some .local ->
    bindC kindOf (P.zip vs) m x=some v
  | [],_,_,_,_,h,_,_=>by simp at h
  | _ :: _,[],_,_,_,_,h,_=>by simp at h
  | p :: P,w :: vs,0,m,nd,h1,h2,hk=>by
    simp at h1 h2; subst h1; subst h2
    show bindC kindOf ((p,w) :: P.zip vs) m p=_
    unfold bindC
    rw [v5 fun v hv=>(List.nodup_cons.mp nd).1 (List.of_mem_zip hv).1,if_neg hk]
    simp
  | p :: P,w :: vs,i + 1,m,nd,h1,h2,hk=>by
    show bindC kindOf ((p,w) :: P.zip vs) m x=_
    unfold bindC
    exact v9 (i:=i) (List.nodup_cons.mp nd).2 (by simpa using h1) (by simpa using h2) hk
def yL (N:List Str) (vs:List V):St:=vs.map some ++ List.replicate (N.length - vs.length) none
def cxOf (CX:CXT) (P:Program) (w:World) (K:PySem.W.Frag) (mg:Str->Option Value) (base:Heap) (N:List Str) (qual:Str) (scope:Scope) (f:Addr) (cd:Value) (A:Around) (outer:List Env) (s:Shared) (H:Hp) (E:XK):Cx where
  prog:=P
  w:=w
  K:=K
  mg:=mg
  base:=base
  A:=A.deeper (envOfC qual scope s.heap.objs.size f cd)
  N:=N
  s₀:=s
  H₀:=H
  env:=envOfC qual scope s.heap.objs.size f cd
  outer:=outer
  stack:=envOfC qual scope s.heap.objs.size f cd :: outer
  ex:=[]
  calm:=true
  fn:=fun _=>true
  pn:=[]
  xe:=fun e s'=>wpAny (model P w) (A.deeper (envOfC qual scope s.heap.objs.size f cd)) (leaving (envOfC qual scope s.heap.objs.size f cd) e) (fun _ s''=>CX outer H s E e s'') (fun e' s''=>CX outer H s E e' s'') s'
theorem Zd {sc:Scope} {n:Nat} {x:Str} (h:sc.names.lookup x=some .cell):∃ c,(cellsFrom n sc.names []).lookup x=some c:=by
  have q:=PySem.W.cellsFrom_some sc.names n [] (.inl h)
  exact Option.isSome_iff_exists.mp q
theorem ja {CX:CXT} {P:Program} {w:World} {K:PySem.W.Frag} {mg:Str->Option Value} {base:Heap} {N ps:List Str} {qual:Str} {scope:Scope} {f:Addr} {cd:Value} {A:Around} {outer:List Env} {s s1:Shared} {H:Hp} {E:XK} {us:List Value} {vs:List V}
    (S:FnScope N ps scope) (hd:A.handled=none) (e0:Env0 P w K mg base A outer s H) (hl:vs.length=ps.length) (r:Vals vs us)
    (x:InCallC s s.heap.objs.size (bindL (envOfC qual scope s.heap.objs.size f cd).kindOf (ps.zip us) fun _=>none) (cellsFrom (s.heap.objs.size + 1) scope.names []) (bindC (envOfC qual scope s.heap.objs.size f cd).kindOf (ps.zip us) fun _=>none) s1) :
    Inv (cxOf CX P w K mg base N qual scope f cd A outer s H E) [] (yL N vs) H s1:=by
  have hpl:ps.length<=N.length:=by have:=congrArg List.length S.pre; rw [List.length_take] at this; lia
  obtain ⟨h1,tk,rfl,hk⟩:=x.done
  have noA:∀ b:Addr,b ∉ (cxOf CX P w K mg base N qual scope f cd A outer s H E).ex:=fun b z=>absurd (show b∈([]:List Addr) from z) (by simp)
  refine ⟨⟨e0.mod,S.kind,rfl,rfl,Nat.le_refl _,fun y z c h1 h2=>?_,fun y hy=>?_,fun y c _ h=>?_,fun _=>hd,Around.frames_deeper e0.frames,.inr ⟨rfl,rfl⟩,fun b z=>absurd z (noA b),e0.bs,e0.bsz,fun b _ _=>noA b,fun b z=>absurd z (noA b),e0.funs,e0.frf⟩,
    rfl,e0.bare,Un.kept hk,⟨_,x.toInCall.ns,fun i y v h1 h2 h3=>?_⟩,fun y c h=>⟨_,x.cell y c h⟩,e0.hok.fresh (Nat.le_refl _),fun y c h=>?_,fun p hp=>absurd (show p∈([]:List (Addr × Obj)) from hp) (by simp),e0.hok.kept hk,?_⟩
  · exact name_of_addr x.apart (PySem.mem_of_lookup h1) (PySem.mem_of_lookup h2)
  · have hy:scope.names.lookup y=some .cell\/scope.names.lookup y=some .free:=hy
    rcases hy with hy | hy
    · exact Zd hy
    · exact absurd rfl (S.nofree _ (PySem.mem_of_lookup hy))
  · exact Nat.le_of_lt (x.above y c (PySem.mem_of_lookup h))
  · have hi:i < vs.length:=by
      unfold yL at h2
      by_cases hi:i < vs.length
      · exact hi
      · rw [List.getElem?_append_right (by simpa using hi)] at h2
        rw [List.getElem?_replicate] at h2
        split at h2 <;> cases h2
    have ha:vs[i]?=some v:=by
      unfold yL at h2
      rw [List.getElem?_append_left (by simpa using hi),List.getElem?_map] at h2
      cases e:vs[i]? with
      | none=>rw [e] at h2; cases h2
      | some a=>rw [e] at h2; cases h2; rfl
    obtain ⟨u,hu,rv⟩:=r.get ha
    have hp:ps[i]?=some y:=by
      rw [<- S.pre,List.getElem?_take_of_lt (by lia)]; exact h1
    have ndP:ps.Nodup:=by rw [<- S.pre]; exact S.nd.sublist (List.take_sublist _ _)
    refine ⟨u,rv,?_⟩
    rcases S.par y (List.mem_of_getElem? hp) with k | k
    · exact .inl ⟨k,v6 ndP hp hu k⟩
    · obtain ⟨c,e⟩:=Zd (n:=s.heap.objs.size + 1) k
      refine .inr ⟨.inl k,c,e,?_⟩
      have q:=x.cell y c e
      rw [v9 ndP hp hu (by show scope.names.lookup y≠_; rw [k]; decide)] at q
      exact q
  · exact e0.hok.fresh (Nat.le_of_lt (x.above y c (PySem.mem_of_lookup h)))
  · unfold yL
    show _=N.length
    rw [List.length_append,List.length_map,List.length_replicate]
    lia
theorem QM {CX:CXT} {P:Program} {w:World} {K:PySem.W.Frag} {mg:Str->Option Value} {base:Heap} {k:Nat} {f:Addr} {name qual:Str} {params:Arguments} {body:List Stmt} {scope:Scope} {dV kV doc pm cdv ct oc:Value} {an od:Option Addr}
    {osl:Array (Option Value)} {N ps:List Str} {sp:Sp} (lk:K.lookup f=some ⟨oc,od,.func (PySem.W.fnOf name qual params body scope dV kV doc pm an cdv ct),osl⟩) (hcd:PySem.W.codeIn K cdv qual=true) (S:FnScope N ps scope)
    (len:∀ vs H Q E,sp vs H Q E->vs.length=ps.length)
    (hbody:∀ (A:Around) (outer:List Env) (s:Shared) (H:Hp) (vs:List V) (Q:VK) (E:XK),Room k (A.deeper (envOfC qual scope s.heap.objs.size f cdv))->sp vs H Q E ->
      ∃ t,PSs (cxOf CX P w K mg base N qual scope f cdv A outer s H E) body t/\t { nx:=fun _ H'=>Q .non H',rt:=Q } (yL N vs) H) :
    FnOk P w K mg base CX (k + 1) f (PySem.W.fnOf name qual params body scope dV kV doc pm an cdv ct) ps sp:=by
  refine ⟨len,fun A outer s H args us vs Q E hr e0 hb r hsp=>?_⟩
  have hl:=len _ _ _ _ hsp
  have KX:K.In s.heap:=e0.mod.kin.keeps fun b o e=>(e0.bs b o e).1
  have lim:s.heap.NoLimit:=e0.mod.nolimit.keeps fun b o e=>(e0.bs b o e).1
  have hkind:∀ y∈ps.zip us,scope.names.lookup y.1=some .local\/(scope.names.lookup y.1=some .cell/\((cellsFrom (s.heap.objs.size + 1) scope.names []).lookup y.1).isSome=true):=fun ⟨n,v⟩ hy=>by
    rcases S.par n (List.of_mem_zip hy).1 with q | q
    · exact .inl q
    · exact .inr ⟨q,PySem.W.cellsFrom_some _ _ _ (.inl q)⟩
  refine codeAny_call_function hr.depth (KX _ _ lk) rfl S.co S.gen rfl (PySem.W.codeRec_of KX hcd) (hb _ _ _ _ ?_)
  refine wpAny_newFunctionEnv_cells S.kind hkind fun env he s1 x=>?_
  subst he
  refine ⟨lim.keeps x.toInCall.keep,codeAny_func ?_⟩
  obtain ⟨t,ht,hq⟩:=hbody A outer s H vs Q E (hr.deeper _) hsp
  have I:Inv (cxOf CX P w K mg base N qual scope f cdv A outer s H E) [] (yL N vs) H s1:=ja S hr.hd e0 hl r x
  refine wpAny_mono (ht [] s1 (yL N vs) H _ I hq) (fun fl s' hs=>?_) fun e s' hs=>hs
  have fin:∀ {σ':St} {H':Hp} {v:V} {u:Value},Inv (cxOf CX P w K mg base N qual scope f cdv A outer s H E) [] σ' H' s'->RelV v u->Q v H'->CE outer P w H s Q u s' :=
    fun {σ' H' v u} J rv q=>⟨v,H',J.os,J.bare,J.base,J.hok,rv,q⟩
  cases fl with
  | ret u =>
    obtain ⟨v,σ',H',J,rv,q⟩:=hs
    exact fin J rv q
  | next =>
    obtain ⟨σ',H',J,q⟩:=hs
    exact fin (v:=V.non) (u:=Value.none) J rfl q
  | brk =>
    obtain ⟨_,_,_,q⟩:=hs
    exact False.elim q
  | cont =>
    obtain ⟨_,_,_,q⟩:=hs
    exact False.elim q
section
variable {X:Cx} {x:Str} {p pos:Pos} {e:Expr} {es:List Expr} {t:TA} {id T:String} {r:List V->Hp->VK->Prop}
def tCB (r:List V->Hp->VK->Prop) (t:TA):TE:=fun σ H Q=>t σ H fun vs H1=>r vs H1 Q
theorem Wt (hc:yI X (.builtin id) r) (hg:Gl X x) (hm:X.mg x=none) (hv:bootBuiltins x=some (.builtin id)) (ha:PA X (e :: es) t) (hn:x≠"__name__":=by decide) (hdb:(x == ("__debug__":Str))=false:=by decide)
    (he:starEach (e :: es) X.env=(false,eval e X.env) :: starEach es X.env:=by rfl) (hpl:(backTo pos (starEach es X.env)).any (·.1)=false:=by rfl):PE X (.Call (.Name x p) (e :: es) [] pos) (tCB r t):=by
  intro pins s σ H Q I h
  refine wpAny_Call_Name_kw (xh I hg hm hv ?_ hn hdb)
  exact PyProof.Rows.callWith_builtin1 (thn (ha pos pins s σ H _ I h) fun us s1 ⟨vs,H1,I1,r1,q1⟩=>hc pins s1 σ H1 vs us Q I1 r1 q1) he hpl
theorem Xw (hc:yI X (.type T) r) (hg:Gl X x) (hm:X.mg x=none) (hv:bootBuiltins x=some (.type T)) (ha:PA X (e :: es) t) (hn:x≠"__name__":=by decide) (hdb:(x == ("__debug__":Str))=false:=by decide)
    (he:starEach (e :: es) X.env=(false,eval e X.env) :: starEach es X.env:=by rfl) (hpl:(backTo pos (starEach es X.env)).any (·.1)=false:=by rfl):PE X (.Call (.Name x p) (e :: es) [] pos) (tCB r t):=by
  intro pins s σ H Q I h
  refine wpAny_Call_Name_kw (xh I hg hm hv ?_ hn hdb)
  exact PyProof.Rows.callWith_type1 (thn (ha pos pins s σ H _ I h) fun us s1 ⟨vs,H1,I1,r1,q1⟩=>hc pins s1 σ H1 vs us Q I1 r1 q1) he hpl
end
end L2
namespace HT
open PySem PyProof.Rows
section
open PySem.SeqAt
open PySem.AutoSeq1 (wpAny_loadPart')
open PySem.MeetsSeq PySem.MeetsSeq2 PySem.MeetsSeq3
end
section
variable {prog:Program} {w:World} {A:Around} {E:Value->Shared->Prop} {s:Shared}
theorem cat_tup {t b:Addr} {vs ws:List Value} {Q:Value->Shared->Prop} (ht:IsTup s.heap t vs.toArray) (hb:IsTup s.heap b ws.toArray) (hv:vs≠[])
    (h1:ws=[]->Q (.ref t) s) (h2:ws≠[]->Q (.ref s.heap.objs.size) { s with heap:=s.heap.push { cls:=.type "tuple",data:=.seq (vs ++ ws).toArray } })
    (hsz:vs.length + ws.length<=sizeLine):wpAny (model prog w) A (binaryOp .Add (.ref t) (.ref b)) Q E s:=by
  obtain ⟨⟨cls,dd,data,sl⟩,ho,hc,n,hd⟩:=id ht
  obtain ⟨⟨cls2,dd2,data2,sl2⟩,ho2,hc2,n2,hd2⟩:=id hb
  simp only at hc hd hc2 hd2
  subst hc hd hc2 hd2
  have e:vs.toArray ++ ws.toArray=(vs ++ ws).toArray:=by simp
  by_cases hw:ws=[]
  · exact concat_meets ⟨_,ho,rfl⟩ ⟨_,ho2,rfl⟩ noFill_tuple_add seq_tuple_add PySem.F.slot_tuple_add PySem.F.entry_tuple_add (PySem.F.args_tuple_add_2 _ _)
      (tuple_addW1 t b vs.toArray ws.toArray n n2 dd dd2 sl sl2 (by simpa using hv) (by simp [hw])) ⟨ho,ho2,h1 hw⟩
  · refine concat_meets ⟨_,ho,rfl⟩ ⟨_,ho2,rfl⟩ noFill_tuple_add seq_tuple_add PySem.F.slot_tuple_add PySem.F.entry_tuple_add (PySem.F.args_tuple_add_2 _ _)
      (tuple_addW2 t b vs.toArray ws.toArray n n2 dd dd2 sl sl2 (by simpa using hv) (by simpa using hw) (by rw [List.size_toArray,List.size_toArray]; exact hsz)) ⟨ho,ho2,?_⟩
    rw [e]
    exact h2 hw
def sIx (n d:Nat):Option Int->Nat
  | none=>d
  | some v=>if v < 0 then (v + (n:Int)).toNat else min v.toNat n
theorem zaI (n d:Nat) (hd:d<=n) (o:Option Int):sIx n d o<=n:=by
  cases o with
  | none=>exact hd
  | some v =>
    show (if v < 0 then (v + (n:Int)).toNat else min v.toNat n)<=n
    by_cases hv:v < 0
    · rw [if_pos hv]; lia
    · rw [if_neg hv]; exact Nat.min_le_right _ _
theorem YA (v:Int) (n d:Nat):(if v < 0 then max (v + (n:Int)) 0 else min v (n:Int))=((sIx n d (some v):Nat):Int):=by
  show (if v < 0 then max (v + (n:Int)) 0 else min v (n:Int))=(((if v < 0 then (v + (n:Int)).toNat else min v.toNat n):Nat):Int)
  by_cases hv:v < 0
  · simp only [if_pos hv]; lia
  · simp only [if_neg hv]; lia
theorem ZV (lo hi:Option Int) (n:Nat):Builtin.Slice.sliceAdjust lo hi 1 (n:Int)=(((sIx n 0 lo:Nat):Int),((sIx n n hi:Nat):Int)):=by
  have h1:¬ ((1:Int) < 0):=by lia
  unfold Builtin.Slice.sliceAdjust
  simp only [h1,if_false]
  refine Prod.ext ?_ ?_
  · cases lo with
    | none=>rfl
    | some v=>exact YA v n 0
  · cases hi with
    | none=>rfl
    | some v=>exact YA v n n
theorem ZW (i j:Nat):Builtin.Slice.slicePlaces (i:Int) (j:Int) 1=j - i:=by
  unfold Builtin.Slice.slicePlaces
  have h1:(1:Int) > 0:=by lia
  simp only [h1,if_true,Int.ediv_one]
  split <;> lia
theorem vg {v:Value} {o:Option Int} {Q:Option Int->Shared->Prop} (p:IsPart v o) (h:Q o s):wpAny (model prog w) A (Builtin.Slice.slicePartIndex v) Q E s:=by
  cases p with
  | none=>exact slicePart_none h
  | int i t=>exact slicePart_int h
theorem wC {sl:Addr} {vl vu:Value} {lo hi:Option Int} {n:Nat} {Q:Int × Int × Nat->Shared->Prop} (hs:s.heap.IsSliceOf sl vl vu .none) (pl:IsPart vl lo) (pu:IsPart vu hi)
    (h:Q (((sIx n 0 lo:Nat):Int),1,sIx n n hi - sIx n 0 lo) s):wpAny (model prog w) A (Builtin.Slice.sliceApplied (.ref sl) (pure (n:Int))) Q E s:=by
  obtain ⟨os,hos,hcs,hds⟩:=id hs
  unfold Builtin.Slice.sliceApplied Builtin.Slice.sliceFields
  refine wpAny_bind (wpAny_bind (wpAny_field hos hds (x:=vl) rfl (wpAny_bind (wpAny_field hos hds (x:=vu) rfl (wpAny_bind (wpAny_field hos hds (x:=.none) rfl (wpAny_pure ?_)))))))
  refine wpAny_bind (slicePart_none ?_)
  show wpAny _ _ (if ((1:Int) == 0)=true then _ else _) _ _ s
  rw [if_neg (by decide)]
  refine wpAny_bind (vg pl (wpAny_bind (vg pu (wpAny_bind (wpAny_pure ?_)))))
  show wpAny _ _ (match Builtin.Slice.sliceAdjust lo hi 1 (n:Int) with | (lo,hi)=>pure (lo,(1:Int),Builtin.Slice.slicePlaces lo hi 1)) _ _ s
  rw [ZV lo hi n]
  show wpAny _ _ (pure (((sIx n 0 lo:Nat):Int),(1:Int),Builtin.Slice.slicePlaces ((sIx n 0 lo:Nat):Int) ((sIx n n hi:Nat):Int) 1)) _ _ s
  rw [ZW]
  exact wpAny_pure h
theorem Wu (xs:Array Value) (i k:Nat):((List.range k).filterMap fun (m:Nat)=>xs[((i:Int) + (m:Int) * 1).toNat]?).toArray=((xs.toList.drop i).take k).toArray:=by
  have e:(fun (m:Nat)=>xs[((i:Int) + (m:Int) * 1).toNat]?)=fun m=>xs[i + m]?:=by
    funext m
    have:((i:Int) + (m:Int) * 1).toNat=i + m:=by lia
    rw [this]
  rw [e]
  have:=pick_run xs i k
  rw [List.filterMap_map] at this
  have e2:((fun x=>xs[x]?) ∘ fun x=>i + x)=fun m=>xs[i + m]?:=rfl
  rw [e2] at this
  rw [this]
theorem getItem_tuple_cut {t sl:Addr} {items:Array Value} {vl vu:Value} {lo hi:Option Int} {Q:Value->Shared->Prop} (ht:IsTup s.heap t items) (hs:s.heap.IsSliceOf sl vl vu .none) (pl:IsPart vl lo) (pu:IsPart vu hi)
    (hw:¬ (sIx items.size 0 lo=0/\sIx items.size items.size hi=items.size))
    (h:Q (.ref s.heap.objs.size) { s with heap:=s.heap.push { cls:=.type "tuple",data:=.seq ((items.toList.drop (sIx items.size 0 lo)).take (sIx items.size items.size hi - sIx items.size 0 lo)).toArray } })
    (hsz:items.size<=sizeLine):wpAny (model prog w) A (getItem (.ref t) (.ref sl)) Q E s:=by
  have htake:sizeOk (.seq ((items.toList.drop (sIx items.size 0 lo)).take (sIx items.size items.size hi - sIx items.size 0 lo)).toArray):=by
    show ((items.toList.drop (sIx items.size 0 lo)).take (sIx items.size items.size hi - sIx items.size 0 lo)).toArray.size<=sizeLine
    rw [List.size_toArray,List.length_take,List.length_drop,Array.length_toList]
    lia
  have hj:sIx items.size items.size hi<=items.size:=zaI _ _ (Nat.le_refl _) hi
  obtain ⟨os,hos,hcs,hds⟩:=id hs
  have hTs:s.TypeIs (.ref sl) "slice":=⟨os,hos,hcs⟩
  unfold getItem
  try with_reducible refine wpAny_holding ?_
  first | refine wpAny_bind (wpAny_pure ?_) | skip
  refine wpAny_bind (wpAny_sequenceKey ht.typeIs (by decide) ?_)
  refine wpAny_bind (wpAny_callSpecial?_slot (name:=Str.ofString "__getitem__") ht.typeIs PyProof.Rows.slot_tuple_getitem
    (wpAny_call_entry PyProof.Rows.slot_tuple_getitem ht.typeIs entry_tuple_getitem ?_ (args_tuple_getitem _ _)))
  show wpAny _ _ (Builtin.Tuple.tupleItemsOf (.ref t) >>= _) _ _ s
  refine wpAny_bind (tupleItemsOf_ ht ?_)
  refine wpAny_bind (wpAny_typeOf hTs ?_)
  rw [if_pos (by decide)]
  refine wpAny_bind (wC hs pl pu ?_)
  have hno:¬ ((((sIx items.size 0 lo:Nat):Int) == 0 && (1:Int) == 1 && (sIx items.size items.size hi - sIx items.size 0 lo) == items.size)=true):=by
    intro q
    rw [Bool.and_eq_true,Bool.and_eq_true] at q
    have q1:((sIx items.size 0 lo:Nat):Int)=0:=eq_of_beq q.1.1
    have q2:sIx items.size items.size hi - sIx items.size 0 lo=items.size:=eq_of_beq q.2
    exact hw ⟨by lia,by lia⟩
  show wpAny _ _ (if (((sIx items.size 0 lo:Nat):Int) == 0 && (1:Int) == 1 && (sIx items.size items.size hi - sIx items.size 0 lo) == items.size)=true then _ else _) _ _ s
  rw [if_neg hno,Wu]
  first
    | exact wpAny_bind (m:=Builtin.Tuple.tupleExact _) (wpAny_newObj_type (wpAny_pure ⟨_,rfl,wpAny_pure h⟩) htake)
    | exact wpAny_bind (m:=Builtin.Tuple.tupleExact _) (wpAny_newObj_type (wpAny_bind (wpAny_pure (wpAny_pure ⟨_,rfl,wpAny_pure h⟩))) htake)
    | exact wpAny_bind (wpAny_bind (m:=Builtin.Tuple.tupleExact _) (wpAny_newObj_type (wpAny_pure (wpAny_pure ⟨_,rfl,wpAny_pure h⟩)) htake))
    | exact wpAny_bind (wpAny_bind (m:=Builtin.Tuple.tupleExact _) (wpAny_newObj_type (wpAny_pure ⟨_,rfl,wpAny_pure h⟩) htake))
end
end HT
namespace L2
open PySem PySem.Spec PyProof.Rows
abbrev TO:=St->Hp->(Option Int->Hp->Prop)->Prop
def PO (X:Cx) (e:Option Expr) (t:TO):Prop :=
  ∀ (pins:List (Addr × Obj)) (s:Shared) (σ:St) (H:Hp) (Q:Option Int->Hp->Prop),Inv X pins σ H s->t σ H Q ->
    wpAny (model X.prog X.w) X.A (evalPart e X.env) (fun u s'=>∃ o H',Inv X pins σ H' s'/\IsPart u o/\Q o H') X.xe s
def YB:TO:=fun _ H Q=>Q none H
def QN (t:TE):TO:=fun σ H Q=>t σ H fun x H1=>∃ i,x=.int i/\Q (some i) H1
section
variable {X:Cx} {e:Expr} {te:TE} {lo hi:Option Expr} {tl th:TO} {pos p2:Pos}
theorem JC:PO X none YB:=by
  intro pins s σ H Q I h
  rw [evalPart_none]
  exact wpAny_pure ⟨none,H,I,.none,h⟩
theorem JD (h:PE X e te):PO X (some e) (QN te):=by
  intro pins s σ H Q I hw
  rw [evalPart_some]
  refine thn (h pins s σ H _ I hw) fun u s1 ⟨x,H1,I1,r1,q1⟩=>?_
  obtain ⟨i,rfl,q⟩:=q1
  obtain ⟨t,rfl⟩:=r1
  exact ⟨some i,H1,I1,.int i t,q⟩
def SlR (X:Cx) (r:V->Option Int->Option Int->Hp->VK->Prop):Prop :=
  ∀ (pins:List (Addr × Obj)) (s:Shared) (σ:St) (H:Hp) (x:V) (v vl vu:Value) (lo hi:Option Int) (sl:Addr) (Q:VK),Inv X pins σ H s->RelV x v->s.heap.IsSliceOf sl vl vu .none->IsPart vl lo->IsPart vu hi->r x lo hi H Q ->
    ∃ T id,typeLookup (.type T) "__getitem__"=pure (some (.builtin id))/\s.TypeIs v T/\wpAny (model X.prog X.w) X.A (getItem v (.ref sl)) (EP X pins σ Q) X.xe s
def tSl (r:V->Option Int->Option Int->Hp->VK->Prop) (te:TE) (tl th:TO):TE:=fun σ H Q=>te σ H fun x H1=>tl σ H1 fun l H2=>th σ H2 fun u H3=>r x l u H3 Q
theorem Wv {r:V->Option Int->Option Int->Hp->VK->Prop} (hr:SlR X r) (he:PE X e te) (hl:PO X lo tl) (hu:PO X hi th):PE X (.Subscript e (.Slice lo hi none p2) pos) (tSl r te tl th):=by
  intro pins s σ H Q I h
  refine Subscript_ (thn (he pins s σ H _ I h) fun v s1 ⟨x,H1,I1,r1,q1⟩=>?_)
  refine wpAny_Slice (thn (hl pins s1 σ H1 _ I1 q1) fun vl s2 ⟨l,H2,I2,pl,q2⟩=>thn (hu pins s2 σ H2 _ I2 q2) fun vu s3 ⟨u,H3,I3,pu,q3⟩=>?_)
  rw [evalPart_none]
  refine wpAny_pure ?_
  have I4:Inv X pins σ H3 { s3 with heap:=s3.heap.push { cls:=.type "slice",data:=.fields #[vl,vu,.none] } }:=I3.kept (t':=s3.toks) fun b ob q=>Heap.get?_push_of_some _ q
  obtain ⟨T,id,hT,ht,hg⟩:=hr pins { s3 with heap:=s3.heap.push { cls:=.type "slice",data:=.fields #[vl,vu,.none] } } σ H3 x v vl vu l u s3.heap.objs.size Q I4 r1 (Heap.IsSliceOf.new ..) pl pu q3
  show wpAny (model X.prog X.w) X.A (subscriptTail e (.Slice lo hi none p2) v (.ref s3.heap.objs.size)) (EP X pins σ Q) X.xe { s3 with heap:=s3.heap.push { cls:=.type "slice",data:=.fields #[vl,vu,.none] } }
  exact tail_any (ops:=[.ref s3.heap.objs.size,v]) ht hT hg (by with_unfolding_all rfl)
def cutV (xs:List V) (lo hi:Option Int):List V:=(xs.drop (HT.sIx xs.length 0 lo)).take (HT.sIx xs.length xs.length hi - HT.sIx xs.length 0 lo)
theorem wO (xs:List V) (lo hi:Option Int):(cutV xs lo hi).length<=xs.length:=by
  unfold cutV
  rw [List.length_take,List.length_drop]
  lia
def rSlT (K:PySem.W.Frag):V->Option Int->Option Int->Hp->VK->Prop:=fun x lo hi H Q=>∃ a xs,x=.ref a/\SqT K H a xs /\
  ¬ (HT.sIx xs.length 0 lo=0/\HT.sIx xs.length xs.length hi=xs.length)/\∀ p,H p=none->Q (.ref p) (upd H p (.tup (cutV xs lo hi)))
theorem zaJ:SlR X (rSlT X.K):=by
  intro pins s σ H x v vl vu lo hi sl Q I rx hs pl pu h
  obtain ⟨a,xs,rfl,hx,hw,q⟩:=h
  cases rx
  obtain ⟨its,r,ht,hz⟩:=I.tuple hx
  have hlen:its.toArray.size=xs.length:=by rw [List.size_toArray]; exact r.length.symm
  refine ⟨"tuple",_,PyProof.Rows.slot_tuple_getitem.lookup,ht.typeIs,?_⟩
  refine HT.getItem_tuple_cut ht hs pl pu (by rw [hlen]; exact hw) ?_ (by rw [hlen]; exact hz)
  rw [hlen]
  refine ⟨.ref s.heap.objs.size,_,I.laid (t':=s.toks) (o:=.tup (cutV xs lo hi)) (fun b ob q=>Heap.get?_push_of_some _ q) (Nat.le_refl _) ?_,rfl,q _ (I.hok.fresh (Nat.le_refl _))⟩
  exact ⟨Nat.le_trans (wO xs lo hi) hz,_,(r.drop (HT.sIx xs.length 0 lo)).take (HT.sIx xs.length xs.length hi - HT.sIx xs.length 0 lo),IsTupN.new _ _⟩
def QO (K:PySem.W.Frag):R2:=fun x y H Q=>∃ a b xs ys,x=.ref a/\y=.ref b/\SqT K H a xs/\SqT K H b ys/\xs≠[]/\xs.length + ys.length<=sizeLine /\
  (ys=[]->Q (.ref a) H)/\(ys≠[]->∀ p,H p=none->Q (.ref p) (upd H p (.tup (xs ++ ys))))
theorem Vals.nil_iff {xs:List V} {us:List Value} (r:Vals xs us):us=[]↔xs=[]:=by
  cases r with
  | nil=>simp
  | cons _ _=>simp
theorem JE:OpR X (binaryOp .Add) (QO X.K):=by
  intro pins s σ H x y v u Q I rx ry h
  obtain ⟨a,b,xs,ys,rfl,rfl,ha,hb,hx,hz,q1,q2⟩:=h
  cases rx
  cases ry
  obtain ⟨its,r1,p1,_⟩:=I.tuple ha
  obtain ⟨its2,r2,p2,_⟩:=I.tuple hb
  refine HT.cat_tup p1 p2 (fun z=>hx (r1.nil_iff.mp z)) (fun z=>⟨.ref a,H,I,rfl,q1 (r2.nil_iff.mp z)⟩) (fun z=>?_) (by rw [<- r1.length,<- r2.length]; exact hz)
  refine ⟨.ref s.heap.objs.size,_,I.laid (t':=s.toks) (o:=.tup (xs ++ ys)) (fun b ob q=>Heap.get?_push_of_some _ q) (Nat.le_refl _) ?_,rfl,q2 (fun w=>z (r2.nil_iff.mpr w)) _ (I.hok.fresh (Nat.le_refl _))⟩
  exact ⟨by rw [List.length_append]; exact hz,_,r1.append r2,IsTupN.new _ _⟩
end
def ixN (n:Nat) (i:Int):Option Nat:=if 0<=i then (if i < n then some i.toNat else none) else if -(n:Int)<=i then some (i + n).toNat else none
def atI {α:Type} (xs:List α) (i:Int):Option α:=(ixN xs.length i).bind fun j=>xs[j]?
theorem YC {n:Nat} {i:Int} {j:Nat} (h:ixN n i=some j):seqIndex? i n=some j/\j < n/\-(n:Int)<=i/\i < n:=by
  unfold ixN at h
  by_cases h0:0<=i
  · rw [if_pos h0] at h
    by_cases h1:i < n
    · rw [if_pos h1] at h
      have e:i.toNat=j:=Option.some.inj h
      exact ⟨by rw [seqIndex_of h0 h1,e],by lia,by lia,h1⟩
    · rw [if_neg h1] at h; cases h
  · rw [if_neg h0] at h
    by_cases h1:-(n:Int)<=i
    · rw [if_pos h1] at h
      have e:(i + n).toNat=j:=Option.some.inj h
      exact ⟨by rw [seqIndex_neg (by lia) h1,e],by lia,h1,by lia⟩
    · rw [if_neg h1] at h; cases h
theorem jt {α:Type} {xs:List α} {i:Int} {v:α} (h:atI xs i=some v):∃ j,seqIndex? i xs.length=some j/\xs[j]?=some v/\j < xs.length/\-(xs.length:Int)<=i/\i < xs.length:=by
  unfold atI at h
  cases e:ixN xs.length i with
  | none=>rw [e] at h; cases h
  | some j =>
    rw [e] at h
    obtain ⟨h1,h2,h3,h4⟩:=YC e
    exact ⟨j,h1,h,h2,h3,h4⟩
theorem zR {α:Type} {xs:List α} {j:Nat} {v:α} (h:xs[j]?=some v):atI xs (j:Int)=some v:=by
  have hj:j < xs.length:=(List.getElem?_eq_some_iff.mp h).1
  have e:ixN xs.length (j:Int)=some j:=by
    unfold ixN
    rw [if_pos (by lia),if_pos (by lia)]; simp
  unfold atI; rw [e]; exact h
theorem aI0 {α:Type} {a:α} {r:List α}:atI (a :: r) 0=some a:=zR (j:=0) rfl
theorem aI1 {α:Type} {a b:α} {r:List α}:atI (a :: b :: r) 1=some b:=zR (j:=1) rfl
theorem aI2 {α:Type} {a b c:α} {r:List α}:atI (a :: b :: c :: r) 2=some c:=zR (j:=2) rfl
theorem aI3 {α:Type} {a b c d:α} {r:List α}:atI (a :: b :: c :: d :: r) 3=some d:=zR (j:=3) rfl
theorem aI4 {α:Type} {a b c d e:α} {r:List α}:atI (a :: b :: c :: d :: e :: r) 4=some e:=zR (j:=4) rfl
theorem Ze {α:Type} (xs:List α) (v:α):atI (xs ++ [v]) (-1)=some v:=by
  have hl:(xs ++ [v]).length=xs.length + 1:=by simp
  have e:ixN (xs ++ [v]).length (-1)=some xs.length:=by
    unfold ixN
    rw [hl,if_neg (by decide),if_pos (by lia)]
    congr 1
    lia
  unfold atI
  rw [e]
  show (xs ++ [v])[xs.length]?=some v
  simp
def ju (b:Expr):Prop:=∀ o i,subscripted b false o i=operate [o,i] (getItem o i)
def IxR (X:Cx) (r:R2):Prop :=
  ∀ (value slice:Expr) (pins:List (Addr × Obj)) (s:Shared) (σ:St) (H:Hp) (x y:V) (v u:Value) (Q:VK),Inv X pins σ H s->RelV x v->RelV y u->r x y H Q ->
    subscripted slice false v u=operate [v,u] (getItem v u)->wpAny (model X.prog X.w) X.A (subscriptTail value slice v u) (EP X pins σ Q) X.xe s
def MtR (X:Cx) (id:String) (r:V->List V->Hp->VK->Prop):Prop :=
  ∀ (pins:List (Addr × Obj)) (s:Shared) (σ:St) (H:Hp) (x:V) (xs:List V) (v:Value) (us:List Value) (Q:VK),Inv X pins σ H s->RelV x v->Vals xs us->r x xs H Q ->
    wpAny (model X.prog X.w) X.A (call (.builtin id) (v :: us)) (EP X pins σ Q) X.xe s
section
variable {X:Cx} {a b:Expr} {ta tb:TE} {pos:Pos}
theorem zbD {r:R2} (hr:IxR X r) (ha:PE X a ta) (hb:PE X b tb) (hs:ju b):PE X (.Subscript a b pos) (tOp r ta tb):=by
  intro pins s σ H Q I h
  exact Subscript_ (binT ha hb I h fun v u s2 x y H2 I2 rx ry q=>hr a b pins s2 σ H2 x y v u Q I2 rx ry q (hs _ _))
def rIxL (K:PySem.W.Frag):R2:=fun x y H Q=>∃ p xs i v,x=.ref p/\y=.int i/\SqL K H p xs/\atI xs i=some v/\Q v H
def rIxT (K:PySem.W.Frag):R2:=fun x y H Q=>∃ p xs i v,x=.ref p/\y=.int i/\SqT K H p xs/\atI xs i=some v/\Q v H
def rIxS:R2:=fun x y H Q=>∃ z i c,x=.str z/\y=.int i/\z.length<=sizeLine/\atI z.cps.toList i=some c/\Q (.str ⟨#[c]⟩) H
theorem JF:IxR X (rIxL X.K):=by
  intro value slice pins s σ H x y v u Q I rx ry h hs
  obtain ⟨p,xs,i,z,rfl,rfl,hq,he,q⟩:=h
  cases rx
  obtain ⟨t,rfl⟩:=ry
  obtain ⟨its,r,pl,hz⟩:=I.list hq
  obtain ⟨j,h1,h2,h3,h4,h5⟩:=jt he
  obtain ⟨w,ew,rw'⟩:=r.get h2
  have hl:=r.length
  have hn:=xi
  have fin:EP X pins σ Q w s:=⟨z,H,I,rw',q⟩
  by_cases h0:0<=i
  · have hj:i.toNat=j:=by
      rw [seqIndex_of h0 h5] at h1
      exact Option.some.inj h1
    exact item_listR pl.isList h0 (by lia) (by rw [hj]; simpa using ew) fin hs
  · have hj:(i + (its.toArray.size:Int)).toNat=j:=by
      rw [seqIndex_neg (by lia) h4] at h1
      rw [List.size_toArray,<- hl]
      exact Option.some.inj h1
    exact subscriptTail_builtinR (x:=w) pl.isList.typeIs slot_list_getitem.lookup
      (wpAny_getItem_list_neg (Q:=fun r s'=>r=w/\EP X pins σ Q r s') pl.isList (by lia) (by rw [List.size_toArray] <;> lia) (by lia) (by rw [hj]; simpa using ew) ⟨rfl,fin⟩) hs
theorem zaK:IxR X (rIxT X.K):=by
  intro value slice pins s σ H x y v u Q I rx ry h hs
  obtain ⟨p,xs,i,z,rfl,rfl,hq,he,q⟩:=h
  cases rx
  obtain ⟨t,rfl⟩:=ry
  obtain ⟨its,r,pl,hz⟩:=I.tuple hq
  obtain ⟨j,h1,h2,h3,h4,h5⟩:=jt he
  obtain ⟨w,ew,rw'⟩:=r.get h2
  have hl:=r.length
  have hn:=xi
  have fin:EP X pins σ Q w s:=⟨z,H,I,rw',q⟩
  exact subscriptTail_builtinR (x:=w) pl.typeIs slot_tuple_getitem.lookup
    (getItem_tuple (j:=j) (Q:=fun r s'=>r=w/\EP X pins σ Q r s') pl (by lia) (by lia) (by rw [List.size_toArray,<- hl]; exact h1) (by simpa using ew) ⟨rfl,fin⟩) hs
theorem zaL:IxR X rIxS:=by
  intro value slice pins s σ H x y v u Q I rx ry h hs
  obtain ⟨z,i,c,rfl,rfl,hz,he,q⟩:=h
  obtain ⟨t,rfl⟩:=rx
  obtain ⟨t',rfl⟩:=ry
  obtain ⟨j,h1,h2,h3,h4,h5⟩:=jt he
  have hl:z.cps.toList.length=z.length:=by simp [Str.length]
  rw [hl] at h1 h4 h5
  have hn:=xi
  exact tail_any (typeIs_str s z t) slot_str_getitem.lookup (getItem_str (c:=c) (by
    have e1:decide (i < -(2 ^ 63:Int))=false:=decide_eq_false (by lia)
    have e2:decide (i ≥ 2 ^ 63)=false:=decide_eq_false (by lia)
    rw [e1,e2,Bool.or_false]) (by rw [h1]; simpa using h2) ⟨.str ⟨#[c]⟩,H,I.tok _,⟨_,rfl⟩,q⟩) hs
theorem ZX (its:List Value) (n j:Nat) (u:Value):Obj.mapSeq (·.setIfInBounds j u) { cls:=.type "list",data:=.seq its.toArray n }={ cls:=.type "list",data:=.seq (its.set j u).toArray n }:=by
  simp [Obj.mapSeq]
theorem Inv.lst {pins:List (Addr × Obj)} {σ:St} {H:Hp} {s:Shared} {p:Addr} {xs:List V} (I:Inv X pins σ H s) (h:H p=some (.lst xs)) :
    ∃ (its:List Value) (n:Nat),Vals xs its/\s.heap.get? p=some { cls:=.type "list",data:=.seq its.toArray n }/\xs.length<=sizeLine:=by
  obtain ⟨z,its,n,r,e⟩:=I.hok p _ h
  exact ⟨its,n,r,e,z⟩
theorem Inv.lstUpd {pins:List (Addr × Obj)} {σ:St} {H:Hp} {s:Shared} {p:Addr} {xs ys:List V} {its its':List Value} {n n':Nat} {f:Obj->Obj} (I:Inv X pins σ H s) (h:H p=some (.lst xs))
    (ho:s.heap.get? p=some { cls:=.type "list",data:=.seq its.toArray n }) (hf:f { cls:=.type "list",data:=.seq its.toArray n }={ cls:=.type "list",data:=.seq its'.toArray n' }) (r:Vals ys its') (hz:ys.length<=sizeLine) (t:Nat) :
    Inv X pins σ (upd H p (.lst ys)) { s with heap:=s.heap.update p f,toks:=t }:=by
  have e:(s.heap.update p f).get? p=some { cls:=.type "list",data:=.seq its'.toArray n' }:=by
    rw [Heap.get?_update_self f ho (by rw [hf] <;> rfl),hf]
  refine I.write (x:=p) (e:=p) (by rw [h]; trivial) (.inl rfl) (fun b u hb q=>(Heap.get?_update_other _ _ (Ne.symm hb)).trans q) ⟨_,e⟩ ?_
  exact ⟨hz,its',n',r,e⟩
def QP:V->V->V->Hp->(Hp->Prop)->Prop:=fun o i v H Q=>∃ p xs k j,o=.ref p/\i=.int k/\H p=some (.lst xs)/\ixN xs.length k=some j/\Q (upd H p (.lst (xs.set j v)))
theorem Ww:PSet X QP:=by
  intro pins s σ H o i v ov iv u Q I ro ri rv h
  obtain ⟨p,xs,k,j,rfl,rfl,hp,hj,q⟩:=h
  cases ro
  obtain ⟨t,rfl⟩:=ri
  obtain ⟨its,n,r,ho,hz⟩:=I.lst hp
  obtain ⟨h1,h2,h3,h4⟩:=YC hj
  have hl:=r.length
  have hn:=xi
  have I':Inv X pins σ (upd H p (.lst (xs.set j v))) { s with heap:=s.heap.update p (Obj.mapSeq (·.setIfInBounds j u)) } :=
    I.lstUpd hp ho (ZX its n j u) (r.set rv j) (by rw [List.length_set]; exact hz) s.toks
  by_cases h0:0<=k
  · have hk:k.toNat=j:=by
      rw [seqIndex_of h0 h4] at h1
      exact Option.some.inj h1
    exact PySem.W.ki_setAt ho h0 (by lia) (by rw [List.size_toArray,<- hl]; exact h4) (by rw [hk]; exact ⟨_,I',q⟩)
  · have hk:(k + (its.toArray.size:Int)).toNat=j:=by
      rw [seqIndex_neg (by lia) h3] at h1
      rw [List.size_toArray,<- hl]
      exact Option.some.inj h1
    exact PySem.W.ki_setBack ho (by lia) (by rw [List.size_toArray,<- hl]; exact h3) (by lia) (by rw [hk]; exact ⟨_,I',q⟩)
theorem jw (lo hi:Option Int) (n:Nat):(sliceBounds lo hi none n).1=((HT.sIx n 0 lo:Nat):Int)/\(sliceBounds lo hi none n).2.1=((HT.sIx n n hi:Nat):Int)/\(sliceBounds lo hi none n).2.2=1:=by
  refine ⟨?_,?_,rfl⟩
  · cases lo with
    | none=>simp [sliceBounds,HT.sIx]
    | some i =>
      simp only [sliceBounds,HT.sIx,Option.getD_none,show (1:Int) > 0 by decide,if_true]
      by_cases h:i < 0
      · simp only [h,if_true] <;> lia
      · simp only [h,if_false] <;> lia
  · cases hi with
    | none=>simp [sliceBounds,HT.sIx]
    | some i =>
      simp only [sliceBounds,HT.sIx,Option.getD_none,show (1:Int) > 0 by decide,if_true]
      by_cases h:i < 0
      · simp only [h,if_true] <;> lia
      · simp only [h,if_false] <;> lia
theorem vS (its:List Value) (lo hi:Option Int):slicePick its.toArray lo hi none=((its.drop (HT.sIx its.length 0 lo)).take (HT.sIx its.length its.length hi - HT.sIx its.length 0 lo)).toArray:=by
  obtain ⟨h1,h2,h3⟩:=jw lo hi its.toArray.size
  unfold slicePick
  rw [h1,h2,h3]
  simp only [sliceRange_one,pick_run,List.size_toArray] <;> rfl
def rSlL (K:PySem.W.Frag):V->Option Int->Option Int->Hp->VK->Prop:=fun x lo hi H Q=>∃ a xs,x=.ref a/\SqL K H a xs/\∀ p,H p=none->Q (.ref p) (upd H p (.lst (cutV xs lo hi)))
theorem JG:SlR X (rSlL X.K):=by
  intro pins s σ H x v vl vu lo hi sl Q I rx hs pl pu h
  obtain ⟨a,xs,rfl,hx,q⟩:=h
  cases rx
  obtain ⟨its,r,ht,hz⟩:=I.list hx
  have hlen:=r.length
  refine ⟨"list",_,slot_list_getitem.lookup,ht.isList.typeIs,?_⟩
  refine wpAny_getItem_list_slice ht.isList hs pl pu .none (by simp) ?_ (by rw [List.size_toArray] <;> lia)
  rw [vS,<- hlen]
  refine ⟨.ref s.heap.objs.size,_,I.laid (t':=s.toks) (o:=.lst (cutV xs lo hi)) (fun b ob q=>Heap.get?_push_of_some _ q) (Nat.le_refl _) ?_,rfl,q _ (I.hok.fresh (Nat.le_refl _))⟩
  exact ⟨Nat.le_trans (wO xs lo hi) hz,_,0,(r.drop (HT.sIx xs.length 0 lo)).take (HT.sIx xs.length xs.length hi - HT.sIx xs.length 0 lo),Heap.get?_push_size _ rfl⟩
def wc:V->Bool
  | .non=>true
  | .bl _=>true
  | .int _=>true
  | .str _=>true
  | _=>false
def eqV:V->V->Bool
  | .non,.non=>true
  | .bl a,.bl b=>a == b
  | .bl a,.int b=>(if a then 1 else 0) == b
  | .int a,.bl b=>a == (if b then 1 else 0)
  | .int a,.int b=>a == b
  | .str a,.str b=>a == b
  | _,_=>false
theorem zaM {A:Around} {s:Shared} {y x:V} {u v:Value} (ry:RelV y u) (rx:RelV x v) (fy:wc y=true) (fx:wc x=true):SeqAt.EqAt A s u v (eqV y x):=by
  cases y with
  | non =>
    cases ry
    cases x with
    | non=>cases rx; exact SeqAt.EqAt.same _
    | bl b=>cases rx; exact SeqAt.EqAt.none_bool b
    | int b=>obtain ⟨t,rfl⟩:=rx; exact SeqAt.EqAt.none_int b t
    | str b=>obtain ⟨t,rfl⟩:=rx; exact SeqAt.EqAt.none_str b t
    | _=>exact absurd (show false=true from fx) Bool.false_ne_true
  | bl a =>
    cases ry
    cases x with
    | non=>cases rx; exact SeqAt.EqAt.bool_none a
    | bl b=>cases rx; exact SeqAt.EqAt.bool_bool a b
    | int b=>obtain ⟨t,rfl⟩:=rx; exact SeqAt.EqAt.bool_int a b t
    | str b=>obtain ⟨t,rfl⟩:=rx; exact SeqAt.EqAt.bool_str a b t
    | _=>exact absurd (show false=true from fx) Bool.false_ne_true
  | int a =>
    obtain ⟨t',rfl⟩:=ry
    cases x with
    | non=>cases rx; exact SeqAt.EqAt.int_none a t'
    | bl b=>cases rx; exact SeqAt.EqAt.int_bool a t' b
    | int b=>obtain ⟨t,rfl⟩:=rx; exact SeqAt.EqAt.int_int a t' b t
    | str b=>obtain ⟨t,rfl⟩:=rx; exact SeqAt.EqAt.int_str a t' b t
    | _=>exact absurd (show false=true from fx) Bool.false_ne_true
  | str a =>
    obtain ⟨t',rfl⟩:=ry
    cases x with
    | non=>cases rx; exact SeqAt.EqAt.str_none a t'
    | bl b=>cases rx; exact SeqAt.EqAt.str_bool a t' b
    | int b=>obtain ⟨t,rfl⟩:=rx; exact SeqAt.EqAt.str_int a t' b t
    | str b=>obtain ⟨t,rfl⟩:=rx; exact SeqAt.EqAt.str_str a t' b t
    | _=>exact absurd (show false=true from fx) Bool.false_ne_true
  | _=>exact absurd (show false=true from fy) Bool.false_ne_true
def eqU (x:V) (u:Value):Bool:=match u with
  | .none=>eqV .non x
  | .bool b=>eqV (.bl b) x
  | .int i _=>eqV (.int i) x
  | .str z _=>eqV (.str z) x
  | _=>false
theorem Wx {x y:V} {u:Value} (r:RelV y u) (f:wc y=true):eqU x u=eqV y x:=by
  cases y with
  | non=>cases r; rfl
  | bl b=>cases r; rfl
  | int i=>obtain ⟨t,rfl⟩:=r; rfl
  | str z=>obtain ⟨t,rfl⟩:=r; rfl
  | _=>exact absurd (show false=true from f) Bool.false_ne_true
theorem we {x:V}:∀ {xs:List V} {us:List Value},Vals xs us->xs.all wc=true->us.any (eqU x)=xs.any fun y=>eqV y x
  | _,_,.nil,_=>rfl
  | y :: xs,u :: us,.cons r t,f=>by
    rw [List.all_cons,Bool.and_eq_true] at f
    rw [List.any_cons,List.any_cons,Wx r f.1,we t f.2]
theorem xk {A:Around} {s:Shared} {x:V} {v:Value} (rx:RelV x v) (fx:wc x=true):∀ {xs:List V} {us:List Value},Vals xs us->xs.all wc=true->∀ u∈us,SeqAt.EqAt A s u v (eqU x u)
  | _,_,.nil,_=>fun u hu=>by cases hu
  | y :: xs,u :: us,.cons r t,f=>fun u' hu=>by
    rw [List.all_cons,Bool.and_eq_true] at f
    rcases List.mem_cons.mp hu with rfl | hu
    · rw [Wx r f.1]; exact zaM r rx f.1 fx
    · exact xk rx fx t f.2 u' hu
def inV (x:V) (xs:List V):Bool:=xs.any fun y=>eqV y x
def rIn (K:PySem.W.Frag) (neg:Bool):R2:=fun x y H Q=>∃ p xs,y=.ref p/\(SqL K H p xs\/SqT K H p xs)/\wc x=true/\xs.all wc=true/\Q (.bl (if neg then !inV x xs else inV x xs)) H
theorem Xx:OpR X (compareOp .In) (rIn X.K false):=by
  intro pins s σ H x y v u Q I rx ry h
  obtain ⟨p,xs,rfl,hq,fx,fs,q⟩:=h
  cases ry
  rcases hq with hq | hq
  · obtain ⟨its,r,pl,hz⟩:=I.list hq
    refine SeqAt.in_listAt (eqU x) pl.isList (fun w hw=>xk rx fx r fs w (by simpa using hw)) ⟨.bl _,H,I,rfl,?_⟩
    rw [show its.toArray.any (eqU x)=its.any (eqU x) by simp,we r fs]
    exact q
  · obtain ⟨its,r,pl,hz⟩:=I.tuple hq
    refine SeqAt.in_tupleAt (eqU x) pl (fun w hw=>xk rx fx r fs w (by simpa using hw)) ⟨.bl _,H,I,rfl,?_⟩
    rw [show its.toArray.any (eqU x)=its.any (eqU x) by simp,we r fs]
    exact q
theorem jx:OpR X (compareOp .NotIn) (rIn X.K true):=by
  intro pins s σ H x y v u Q I rx ry h
  obtain ⟨p,xs,rfl,hq,fx,fs,q⟩:=h
  cases ry
  rcases hq with hq | hq
  · obtain ⟨its,r,pl,hz⟩:=I.list hq
    refine SeqAt.notIn_listAt (eqU x) pl.isList (fun w hw=>xk rx fx r fs w (by simpa using hw)) ⟨.bl _,H,I,rfl,?_⟩
    rw [show its.toArray.any (eqU x)=its.any (eqU x) by simp,we r fs]
    exact q
  · obtain ⟨its,r,pl,hz⟩:=I.tuple hq
    refine SeqAt.notIn_tupleAt (eqU x) pl (fun w hw=>xk rx fx r fs w (by simpa using hw)) ⟨.bl _,H,I,rfl,?_⟩
    rw [show its.toArray.any (eqU x)=its.any (eqU x) by simp,we r fs]
    exact q
theorem jy:yI X (.builtin "len") (fun xs H Q=>∃ p ys,xs=[.ref p]/\(SqL X.K H p ys\/SqT X.K H p ys)/\Q (.int ys.length) H):=by
  intro pins s σ H xs us Q I r h
  obtain ⟨p,ys,rfl,hq,q⟩:=h
  obtain ⟨u,rfl,rx⟩:=xj r
  cases rx
  have hn:=xi
  rcases hq with hq | hq
  · obtain ⟨its,r',pl,hz⟩:=I.list hq
    have hlen:=r'.length
    exact Calls.call_len_list pl.isList (by simp only [List.size_toArray] <;> lia) ⟨.int ys.length,H,I.tok _,⟨s.toks + 1,by rw [List.size_toArray,hlen]⟩,q⟩
  · obtain ⟨its,r',pl,hz⟩:=I.tuple hq
    have hlen:=r'.length
    exact len_tuple pl (by simp only [List.size_toArray] <;> lia) ⟨.int ys.length,H,I.tok _,⟨s.toks + 1,by rw [List.size_toArray,hlen]⟩,q⟩
theorem jz:yI X (.type "list") (fun xs H Q=>∃ p ys,xs=[.ref p]/\(SqL X.K H p ys\/SqT X.K H p ys)/\∀ l,H l=none->Q (.ref l) (upd H l (.lst ys))):=by
  intro pins s σ H xs us Q I r h
  obtain ⟨p,ys,rfl,hq,q⟩:=h
  obtain ⟨u,rfl,rx⟩:=xj r
  cases rx
  have fin:∀ (its:List Value),Vals ys its->ys.length<=sizeLine->∀ (h':Heap) (c':Nat),(∀ b o',s.heap.get? b=some o'->h'.get? b=some o') ->
      h'.get? s.heap.objs.size=some { cls:=.type "list",dict:=none,data:=.seq its.toArray c',slots:=#[] }->EP X pins σ Q (.ref s.heap.objs.size) { s with heap:=h' }:=fun its r' hz h' c' kp e =>
    ⟨.ref s.heap.objs.size,_,I.laid (t':=s.toks) kp (Nat.le_refl _) (show ObjOk X.prog X.w _ h' _ (.lst ys) from ⟨hz,its,c',r',e⟩),rfl,q _ (I.hok.fresh (Nat.le_refl _))⟩
  rcases hq with hq | hq
  · obtain ⟨its,r',pl,hz⟩:=I.list hq
    have hlen:=r'.length
    obtain ⟨o,ho,hc,n,hd⟩:=pl.isList
    exact call_list_seq p (.inl rfl) ho hc hd (fun h' c' kp e=>fin its r' hz h' c' kp e) (by simp only [List.size_toArray] <;> lia)
  · obtain ⟨its,r',pl,hz⟩:=I.tuple hq
    have hlen:=r'.length
    obtain ⟨o,ho,hc,n,hd⟩:=pl
    exact call_list_seq p (.inr rfl) ho hc hd (fun h' c' kp e=>fin its r' hz h' c' kp e) (by simp only [List.size_toArray] <;> lia)
theorem vT:yI X (.type "tuple") (fun xs H Q=>∃ p ys,xs=[.ref p]/\((SqL X.K H p ys/\∀ l,H l=none->Q (.ref l) (upd H l (.tup ys)))\/(SqT X.K H p ys/\Q (.ref p) H))):=by
  intro pins s σ H xs us Q I r h
  obtain ⟨p,ys,rfl,h⟩:=h
  obtain ⟨u,rfl,rx⟩:=xj r
  cases rx
  rcases h with ⟨hq,q⟩ | ⟨hq,q⟩
  · obtain ⟨its,r',pl,hz⟩:=I.list hq
    have hlen:=r'.length
    refine call_tuple_list pl.isList (fun h' kp=>?_) (by simp only [List.size_toArray] <;> lia)
    have I1:Inv X pins σ H { s with heap:=h' }:=I.kept (t':=s.toks) kp
    have I2:Inv X pins σ (upd H h'.objs.size (.tup ys)) { s with heap:=h'.push { cls:=.type "tuple",data:=.seq its.toArray } } :=
      I1.laid (t':=s.toks) (fun b o e=>Heap.get?_push_of_some _ e) (Nat.le_refl _) (show ObjOk X.prog X.w _ _ _ (.tup ys) from ⟨hz,its,r',IsTupN.new _ _⟩)
    exact ⟨.ref h'.objs.size,_,I2,rfl,q _ (I1.hok.fresh (Nat.le_refl _))⟩
  · obtain ⟨its,r',pl,hz⟩:=I.tuple hq
    exact call_tuple_same pl ⟨.ref p,H,I,rfl,q⟩
def tyV (K:PySem.W.Frag) (T:String) (x:V) (H:Hp):Prop:=match x with
  | .str _=>T="str"
  | .int _=>T="int"
  | .ref p=>(T="list"/\∃ xs,SqL K H p xs)\/(T="tuple"/\((∃ o,K.lookup p=some o/\o.cls=.type "tuple"/\o.dict=none)\/∃ xs,H p=some (.tup xs))) \/
      (T="dict"/\((∃ kvs,H p=some (.dK kvs))\/∃ kvs,H p=some (.dT kvs)))\/(T="set"/\∃ S n,H p=some (.set S n))
  | _=>False
theorem Wz {pins:List (Addr × Obj)} {σ:St} {H:Hp} {s:Shared} {T:String} {x:V} {v:Value} (I:Inv X pins σ H s) (r:RelV x v) (ty:tyV X.K T x H) :
    s.TypeIs v T/\∀ a,v=.ref a->∃ ob,s.heap.get? a=some ob/\ob.dict=none:=by
  cases x with
  | str z =>
    obtain ⟨t,rfl⟩:=r
    cases (show T="str" from ty)
    exact ⟨typeIs_str s z t,fun _ e=>nomatch e⟩
  | int i =>
    obtain ⟨t,rfl⟩:=r
    cases (show T="int" from ty)
    exact ⟨typeIs_int s i t,fun _ e=>nomatch e⟩
  | ref p =>
    cases r
    rcases ty with ⟨rfl,xs,hq⟩ | ⟨rfl,⟨o,hk,hc,hd⟩ | ⟨xs,hk⟩⟩ | ⟨rfl,hk⟩ | ⟨rfl,S,n,hk⟩
    · obtain ⟨its,_,pl,_⟩:=I.list hq
      refine ⟨pl.isList.typeIs,fun a e=>?_⟩
      cases e
      obtain ⟨o,n,e,c,hd,_⟩:=pl
      exact ⟨o,e,hd⟩
    · refine ⟨⟨o,I.kIn p o hk,hc⟩,fun a e=>?_⟩
      cases e
      exact ⟨o,I.kIn _ o hk,hd⟩
    · obtain ⟨_,_,_,o,ho,hc,hd,_⟩:=I.hok p _ hk
      refine ⟨⟨o,ho,hc⟩,fun a e=>?_⟩
      cases e
      exact ⟨o,ho,hd⟩
    · have z:∃ o,s.heap.get? p=some o/\o.ExactDict:=by
        rcases hk with ⟨kvs,hk⟩ | ⟨kvs,hk⟩
        · obtain ⟨_,_,_,_,o,_,_,e,ex,_⟩:=I.hok p _ hk
          exact ⟨o,e,ex⟩
        · obtain ⟨_,_,_,_,o,_,_,e,ex,_⟩:=I.hok p _ hk
          exact ⟨o,e,ex⟩
      obtain ⟨o,e,ex⟩:=z
      refine ⟨⟨o,e,ex.1⟩,fun a e2=>?_⟩
      cases e2
      exact ⟨o,e,ex.2.1⟩
    · obtain ⟨o,_,_,_,e,ex,_⟩:=I.hok p _ hk
      refine ⟨⟨o,e,ex.1⟩,fun a e2=>?_⟩
      cases e2
      exact ⟨o,e,ex.2.1⟩
  | _=>exact False.elim ty
def tBM0 (K:PySem.W.Frag) (T:String) (r:V->List V->Hp->VK->Prop) (to:TE):TE:=fun σ H Q=>to σ H fun x H1=>tyV K T x H1/\r x [] H1 Q
def tBM (K:PySem.W.Frag) (T:String) (r:V->List V->Hp->VK->Prop) (to:TE) (t:TA):TE:=fun σ H Q=>to σ H fun x H1=>tyV K T x H1/\t σ H1 fun xs H2=>r x xs H2 Q
variable {o e:Expr} {es:List Expr} {to:TE} {t:TA} {name:Str} {apos cpos:Pos} {T id:String} {r:V->List V->Hp->VK->Prop}
theorem zaN (pa:PlainAttrs T) (slot:Slot T name id) (hty:typeOf (.builtin id)=pure (.type "method_descriptor")) (hm:MtR X id r) (ho:PE X o to)
    (hbase:attributeBase o name X.env (eval o X.env)=eval o X.env:=by rfl) (hline:(apos.endLine == cpos.line)=true:=by rfl):PE X (.Call (.Attribute o name apos) [] [] cpos) (tBM0 X.K T r to):=by
  intro pins s σ H Q I h
  refine wpAny_Call_method0_late hbase hline (thn (ho pins s σ H _ I h) fun v s1 ⟨x,H1,I1,r1,ty,q1⟩=>?_)
  obtain ⟨h1,h2⟩:=Wz I1 r1 ty
  exact ⟨T,id,pa,slot,hty,h1,h2,Calls.callWith_builtin rfl (PySem.evalArgs_none (hm pins s1 σ H1 x [] v [] Q I1 r1 .nil q1))⟩
theorem zbE (pa:PlainAttrs T) (slot:Slot T name id) (hty:typeOf (.builtin id)=pure (.type "method_descriptor")) (hm:MtR X id r) (ho:PE X o to) (ha:PA X (e :: es) t)
    (hbase:attributeBase o name X.env (eval o X.env)=eval o X.env:=by rfl)
    (hfew:((backTo cpos (starEach (e :: es) X.env)).all (fun x=>!x.1) && (backToKw cpos (keywordEach [] X.env)).all (fun x=>x.1.isSome)
      && decide ((e :: es).length + ([]:List Keyword).length + (if ([]:List Keyword).isEmpty then 0 else 1) < 30))=true:=by rfl)
    (hline:(apos.endLine == cpos.line)=true:=by rfl) (hs:starEach (e :: es) X.env=(false,eval e X.env) :: starEach es X.env:=by rfl) (hplain:(backTo cpos (starEach es X.env)).any (·.1)=false:=by rfl) :
    PE X (.Call (.Attribute o name apos) (e :: es) [] cpos) (tBM X.K T r to t):=by
  intro pins s σ H Q I h
  refine wpAny_Call_method_late hbase hfew hline rfl (thn (ho pins s σ H _ I h) fun v s1 ⟨x,H1,I1,r1,ty,q1⟩=>?_)
  obtain ⟨h1,h2⟩:=Wz I1 r1 ty
  refine ⟨T,id,pa,slot,hty,h1,h2,?_⟩
  have hA:=ha cpos pins s1 σ H1 _ I1 q1
  rw [hs] at hA ⊢
  refine Calls.callWith_builtin (by show (false || (backTo cpos (starEach es X.env)).any (·.1))=false; rw [hplain] <;> rfl) (Calls.evalArgs_plain ?_)
  exact thn hA fun us s2 ⟨vs,H2,I2,r2,q2⟩=>hm pins s2 σ H2 x vs v us Q I2 r1 r2 q2
end
def MtM (X:Cx) (id:String) (r:V->List V->Hp->VK->Prop):Prop :=
  ∀ (pins:List (Addr × Obj)) (s:Shared) (σ:St) (H:Hp) (x:V) (xs:List V) (v:Value) (us:List Value) (Q:VK),Inv X pins σ H s->RelV x v->Vals xs us->r x xs H Q ->
    wpAny (model X.prog X.w) X.A (call (.builtin id) (v :: us)) (EP X pins σ Q) X.xe s
theorem Vals.one:∀ {x:V} {us:List Value},Vals [x] us->∃ u,us=[u]/\RelV x u
  | _,_,.cons r .nil=>⟨_,rfl,r⟩
theorem Vals.zero:∀ {us:List Value},Vals [] us->us=[]
  | _,.nil=>rfl
theorem Vals.dropLast {xs:List V} {us:List Value} (h:Vals xs us):Vals xs.dropLast us.dropLast:=by
  induction h with
  | nil=>exact .nil
  | cons r t ih =>
    cases t with
    | nil=>exact .nil
    | cons q t'=>exact .cons r ih
theorem Vals.eraseIdx:∀ {xs:List V} {us:List Value} (i:Nat),Vals xs us->Vals (xs.eraseIdx i) (us.eraseIdx i)
  | _,_,_,.nil=>.nil
  | _,_,0,.cons _ t=>t
  | _,_,i + 1,.cons r t=>.cons r (Vals.eraseIdx i t)
theorem ZY {α:Type} (l:List α):l.eraseIdx (l.length - 1)=l.dropLast:=by
  induction l with
  | nil=>rfl
  | cons a r ih =>
    cases r with
    | nil=>rfl
    | cons b r =>
      have e:(a :: b :: r).length - 1=((b :: r).length - 1) + 1:=by
        have h1:(a :: b :: r).length=r.length + 2:=rfl
        have h2:(b :: r).length=r.length + 1:=rfl
        lia
      rw [e,List.eraseIdx_cons_succ,ih]
      all_goals rfl
theorem jc {α:Type}:∀ (l:List α) (i:Nat),(l.eraseIdx i).length<=l.length
  | [],_=>Nat.le_refl _
  | _ :: _,0=>Nat.le_succ _
  | _ :: r,i + 1=>Nat.succ_le_succ (jc r i)
section
variable {X:Cx} {pins:List (Addr × Obj)} {σ:St} {H:Hp} {s:Shared} {l b:Addr} {xs ys zs:List V}
theorem Inv.lset {its its':List Value} {n:Nat} {f:Array Value->Array Value} {t':Nat} (I:Inv X pins σ H s) (hH:H l=some (.lst xs))
    (e:s.heap.get? l=some { cls:=.type "list",data:=.seq its.toArray n }) (hf:f its.toArray=its'.toArray) (hv:Vals ys its') (hz:ys.length<=sizeLine) :
    Inv X pins σ (upd H l (.lst ys)) { s with heap:=s.heap.update l (Obj.mapSeq f),toks:=t' }:=by
  have q:=PySem.IsL.update e f
  rw [hf] at q
  refine I.write (x:=l) (e:=l) (by rw [hH]; exact trivial) (.inl rfl) (fun b' u hb hu=>(Heap.get?_update_other s.heap (Obj.mapSeq f) (Ne.symm hb)).trans hu) ⟨_,q⟩ ?_
  exact ⟨hz,its',_,hv,q⟩
theorem Inv.lnew {its:List Value} {t':Nat} (I:Inv X pins σ H s) (hv:Vals ys its) (hz:ys.length<=sizeLine) :
    Inv X pins σ (upd H s.heap.objs.size (.lst ys)) { s with heap:=s.heap.push { cls:=.type "list",data:=.seq its.toArray },toks:=t' } :=
  I.laid (fun _ _ q=>Heap.get?_push_of_some _ q) (Nat.le_refl _) ⟨hz,its,0,hv,Heap.get?_push_size _ rfl⟩
theorem Inv.fresh (I:Inv X pins σ H s):H s.heap.objs.size=none:=I.hok.fresh (Nat.le_refl _)
theorem Inv.lstM (I:Inv X pins σ H s) (hH:H l=some (.lst xs)):xs.length<=sizeLine/\∃ (its:List Value) (n:Nat),Vals xs its/\xs.length=its.length/\s.heap.get? l=some { cls:=.type "list",data:=.seq its.toArray n }:=by
  obtain ⟨z,its,n,r,e⟩:=I.hok l _ hH
  exact ⟨z,its,n,r,r.length,e⟩
end
section
variable {X:Cx}
def YD:V->List V->Hp->VK->Prop:=fun x vs H Q=>∃ l xs y,x=.ref l/\vs=[y]/\H l=some (.lst xs)/\xs.length < sizeLine/\Q .non (upd H l (.lst (xs ++ [y])))
theorem Xy:MtM X "list.append" YD:=by
  intro pins s σ H x vs v us Q I rx rv h
  obtain ⟨l,xs,y,rfl,rfl,hH,hz,q⟩:=h
  cases rx
  obtain ⟨u,rfl,ru⟩:=rv.one
  obtain ⟨z,its,n,r,hl,e⟩:=I.lstM hH
  refine call_meets F.slot_list_append ⟨_,e,rfl⟩ F.entry_list_append (F.args_list_append_2 _ _) (PySem.list_append l its.toArray n u (by rw [List.size_toArray]; lia)) ⟨e,?_⟩
  refine ⟨.non,_,I.lset (its':=its ++ [u]) hH e (by simp) (r.append (.cons ru .nil)) ?_,rfl,q⟩
  rw [List.length_append,List.length_singleton]
  lia
def rPop:V->List V->Hp->VK->Prop:=fun x vs H Q=>∃ l xs y,x=.ref l/\vs=[]/\H l=some (.lst xs)/\xs[xs.length - 1]?=some y/\Q y (upd H l (.lst xs.dropLast))
theorem zaO:MtM X "list.pop" rPop:=by
  intro pins s σ H x vs v us Q I rx rv h
  obtain ⟨l,xs,y,rfl,rfl,hH,hy,q⟩:=h
  cases rx
  have hus:=rv.zero
  subst hus
  obtain ⟨z,its,n,r,hl,e⟩:=I.lstM hH
  obtain ⟨u,hu,ru⟩:=r.get hy
  have hy':its.toArray[its.toArray.size - 1]?=some u:=by
    show its.toArray[its.length - 1]?=some u
    rw [<- Array.getElem?_toList,<- hl]
    exact hu
  refine call_meets F.slot_list_pop ⟨_,e,rfl⟩ F.entry_list_pop (F.args_list_pop_1 _) (MeetsSeq.list_pop_last l its.toArray n u hy' (by rw [List.size_toArray]; lia)) ⟨e,?_⟩
  refine ⟨y,_,I.lset (its':=its.dropLast) hH e ?_ r.dropLast ?_,ru,q⟩
  · show its.toArray.eraseIdxIfInBounds (its.toArray.size - 1)=its.dropLast.toArray
    rw [List.size_toArray,List.eraseIdxIfInBounds_toArray,ZY]
  · rw [List.length_dropLast]
    lia
def WA:V->List V->Hp->VK->Prop:=fun x vs H Q=>∃ l xs i k y,x=.ref l/\vs=[.int i]/\H l=some (.lst xs)/\-(2 ^ 63)<=i/\i < 2 ^ 63/\seqIndex? i xs.length=some k/\xs[k]?=some y/\Q y (upd H l (.lst (xs.eraseIdx k)))
theorem WB:MtM X "list.pop" WA:=by
  intro pins s σ H x vs v us Q I rx rv h
  obtain ⟨l,xs,i,k,y,rfl,rfl,hH,h1,h2,hk,hy,q⟩:=h
  cases rx
  obtain ⟨u,rfl,ru⟩:=rv.one
  obtain ⟨t,rfl⟩:=ru
  obtain ⟨z,its,n,r,hl,e⟩:=I.lstM hH
  obtain ⟨w,hw,rw'⟩:=r.get hy
  refine call_meets F.slot_list_pop ⟨_,e,rfl⟩ F.entry_list_pop (F.args_list_pop_2 _ _)
    (MeetsSeq.list_pop_at l its.toArray n i t k w (fitsIndex_both h1 h2) (by rw [List.size_toArray,<- hl]; exact hk) (by rw [<- Array.getElem?_toList]; exact hw) (by rw [List.size_toArray]; lia)) ⟨e,?_⟩
  refine ⟨y,_,I.lset (its':=its.eraseIdx k) hH e ?_ (r.eraseIdx k) ?_,rw',q⟩
  · show its.toArray.eraseIdxIfInBounds k=(its.eraseIdx k).toArray
    rw [List.eraseIdxIfInBounds_toArray]
  · have:=jc xs k
    lia
def rCat:R2:=fun x y H Q=>∃ l b xs zs,x=.ref l/\y=.ref b/\H l=some (.lst xs)/\H b=some (.lst zs)/\xs.length + zs.length<=sizeLine/\∀ p,H p=none->Q (.ref p) (upd H p (.lst (xs ++ zs)))
theorem zaP:OpR X (binaryOp .Add) rCat:=by
  intro pins s σ H x y v u Q I rx ry h
  obtain ⟨l,b,xs,zs,rfl,rfl,hH,hB,hz,q⟩:=h
  cases rx
  cases ry
  obtain ⟨z,its,n,r,hl,e⟩:=I.lstM hH
  obtain ⟨z2,its2,n2,r2,hl2,e2⟩:=I.lstM hB
  refine PySem.P.add_list e e2 ?_ (by rw [List.size_toArray,List.size_toArray]; lia)
  have ea:its.toArray ++ its2.toArray=(its ++ its2).toArray:=by simp
  rw [ea]
  exact ⟨.ref _,_,I.lnew (t':=s.toks) (r.append r2) (by rw [List.length_append]; lia),rfl,q _ I.fresh⟩
end
section
variable {prog:Program} {w:World} {A:Around} {E:Value->Shared->Prop} {s:Shared}
end
section
variable {X:Cx}
end
end L2
namespace Att
open PySem PySem.W PySem.Calls PyProof.Rows
theorem wS {P:Params} {h:Heap}:∀ (ns:List Int) (vs:List Value),WellAll P h vs (ns.map WData.int)->IntsAre vs ns:=by
  intro ns
  induction ns with
  | nil =>
    intro vs w
    rw [List.map_nil] at w
    cases w
    exact .nil
  | cons n ns ih =>
    intro vs w
    rw [List.map_cons] at w
    cases w with
    | cons a b =>
      cases a
      exact .cons _ _ (ih _ b)
theorem Xz {l:OpenLaw} {n:Nat} (hn:l.most=some n) {P:Params} {h:Heap} {args:List WData} {vals:List Value}
    (hpre:l.row.toRowW.claim.pre args=true) (hwl:WellAll P h vals args) :
    ∃ a vs ns,vals=[Value.ref a]/\args=[WData.list (ns.map WData.int)]/\h.get? a=some { cls:=.type "list",data:=.seq vs.toArray }/\IntsAre vs ns/\ns.length<=n:=by
  have hsh:WShape.hasAll [] args [.list .int]=true:=(pre_splitW hpre).1
  have hc:l.pre.holds [] { args:=args }=true:=(pre_splitW hpre).2
  obtain ⟨d,r,rfl,h1,h2⟩:=hasAllW_cons hsh
  obtain rfl:=hasAllW_nil h2
  obtain ⟨xs,rfl,h3⟩:=hasW_list h1
  obtain ⟨ns,rfl⟩:=items_int h3
  have hlen:ns.length<=n:=by
    unfold OpenLaw.pre at hc
    have h4:(WTm.not (.lt (.lit (.int (n:Int))) (.len (.arg 0)))).holds [] { args:=[.list (ns.map .int)] }=true:=by
      have h4:=(holds_andW hc).1
      rw [hn] at h4
      exact h4
    have h5:=condW_of h4 (w_not (w_lt w_lit (w_len_list (w_arg rfl))))
    rw [List.length_map] at h5
    refine Nat.le_of_not_lt fun q=>?_
    have q':(n:Int) < ((ns.length:Nat):Int):=by lia
    first
      | (rw [decide_eq_true q'] at h5; exact absurd h5 (by decide))
      | (simp at h5; lia)
  cases hwl with
  | cons w1 w2 =>
    cases w2
    cases w1 with
    | list ho hall=>exact ⟨_,_,ns,rfl,rfl,ho,wS ns _ hall,hlen⟩
theorem XA (l:OpenLaw) (args:List WData):l.row.toRowW.claim.post args (.bool true) args=true :=
  postW_of (r:=l.row.toRowW) (X:=(true == true))
    (show WShape.has [] (.bool true) .bool=true by first | rfl | decide | simp [WShape.has,WShape.arms,WShape.armsAll])
    (show (WTm.eq .res (.lit (.bool true))).value [] { args:=args,res:=some (.bool true),after:=args }=some (.bool (true == true)) from w_eq_bool (w_res rfl) w_lit) rfl
theorem attach_call {l:OpenLaw} {n:Nat} {q:Program} {loose:List Str} {XP:(Str->Option Value)->Heap->Prop} {YP:World->Heap->Prop} {d:DefRec}
    (hn:l.most=some n) (hdf:d.params.defaults=[])
    (call:∀ (w:World) (s₀ s₁:Shared) (mg mb:Str->Option Value) (fa:Addr) (o:Obj) (pm cd doc:Value) (a:Addr) (vs:List Value) (ns:List Int),
      Ground q loose [] XP w s₀ mg mb s₁.heap->YP w s₁.heap ->
      s₁.heap.get? fa=some o->o.data=.func (docDef d.name d.params d.body d.scope pm cd doc)->s₁.heap.CodeRec cd d.name->mg d.name=some (.ref fa) ->
      s₁.heap.get? a=some { cls:=.type "list",data:=.seq vs.toArray }->IntsAre vs ns->ns.length<=n->s₁.gens=#[] ->
      codeAny (model l.prog w) callerA (.call (.ref fa) ⟨[.ref a],[]⟩) (fun r s'=>r=.ok (.ret (.bool true))/\OldK s₁.heap s'.heap/\s'.os=s₁.os/\AllBare s'.gens) s₁) :
    WalkO q loose XP YP l.row.toRowW d [] (fun f vs=>PySem.call f vs):=by
  intro w s₀ s₁ mg mb G Y fa o pm cd doc dV kV ho hd hcd hD hmg hg args vals as hpre hlay hrd hwl hlo
  obtain rfl:dV=.none:=Dflts.none hD hdf
  obtain rfl:kV=.none:=Dflts.noKw hD
  obtain ⟨a,vs,ns,rfl,rfl,hobj,hints,hlen⟩:=Xz hn hpre hwl
  refine enter_call (codeAny_mono (call w s₀ s₁ mg mb fa o pm cd doc a vs ns G Y ho (fd_plain hd) hcd hmg hobj hints hlen hg) fun r s' hq=>?_)
  obtain ⟨rfl,h2,h3,h4⟩:=hq
  exact ⟨.inl ⟨.bool true,.bool true,[],rfl,fun _=>rfl,.bool true,XA l _,fun _=>⟨List.Pairwise.nil,fun _ hm=>(nomatch hm)⟩⟩,h2,h3,h4⟩
section
variable {prog:Program} {w:World} {A:Around} {E:Value->Shared->Prop} {s:Shared} {K:Frag}
def zbV (h:Heap) (L d:Addr):List (Addr × Obj):=(List.range h.objs.size).filterMap fun a=>if a=L\/a=d then none else (h.get? a).map fun o=>(a,o)
end
end Att
namespace L2
open PySem PySem.Spec PyProof.Rows
theorem jd:∀ {vs:List Value} {ns:List Int},IntsAre vs ns->Vals (ns.map V.int) vs
  | _,_,.nil=>.nil
  | _,_,.cons n t h=>.cons ⟨t,rfl⟩ (jd h)
end L2
/- THE LAST THEOREM (shape; LID, My.* are yours):
   My.Adr: a structure of the addresses that your layer names (classes,functions); My.Txt K t: a structure (Prop) of the equations over K;
   My.txt_mk:{K} {implicit addresses ..} (e1:nsIn K mainGlobals "law"=some (some (.ref f))) (e2:K.lookup f=some ⟨oc,od,.func (fnOf "law" "law" params body scope dV kV doc pm an cdv ct),sl⟩) (e3:codeIn K cdv "law"=true) ..:∃ t,My.Txt K t
set_option maxRecDepth 100000 in
set_option maxHeartbeats 0 in
theorem PySem.Challenge.cw_LID_holds : PySem.Challenge.rw_LID.Holds := by
  w_on; o_law; k_head; (case hw=>w_witness2)
  k_fill
  refine L2.walk_of (l:=PySem.Challenge.rw_LID) (n:=63) (k:=40) (x:="script") (CX:=fun w=>..) (sp:=fun _=>My.sp_law) rfl (by decide) rfl ⟨rfl,by decide,by decide⟩ (fun w h Y=>PySem.W.kIn_of Y) ?F ?S ?C
  case F =>
    intro w mg fa h KX G hmg
    have T:∃ t,My.Txt (L2.KOf KX) t:=by
      dsimp only [L2.KOf]                          -- K must stand as «<heap const> w.params» for k_is
      refine' My.txt_mk ?e1 ?e2 ?e3 ..
      (case e1 => PySem.W.k_is)                    -- in the order: a name -> its address -> its object -> its parts
      (case e2=>PySem.W.k_is)
      ..
    obtain ⟨t,T⟩:=T
    have e0:=hmg.symm.trans (PySem.W.mg_of KX G T.law)
    cases e0                                       -- fa is the law's own address
    exact ⟨_, fun s u => .of_eq rfl, fun base kb nb => My.law_fn T kb nb⟩     -- if «.of_eq rfl» comes too early: refine' ⟨_, ?b, fun base kb nb => My.law_fn T kb nb⟩; exact fun s u => .of_eq rfl
  case S=>exact fun w H a ns hl hO hS=>..
  case C=>exact ..
(the tactic k_is has no namespace: write k_is) -/
namespace L2
open PySem PySem.Spec PyProof.Rows
def JH (s:Stmt) (j:Nat):Stmt:=match s with
  | .ClassDef _ _ _ body _ _ _ _ _ _ _=>body.getD j (.Pass ⟨0,0,0,0⟩)
  | _=>.Pass ⟨0,0,0,0⟩
def zT (s:Stmt):Arguments:=match s with
  | .FunctionDef _ a _ _ _ _ _ _ _ _=>a
  | _=>{ posonlyargs:=[],args:=[],vararg:=none,kwonlyargs:=[],kw_defaults:=[],kwarg:=none,defaults:=[] }
def zJ (s:Stmt):List Stmt:=match s with
  | .FunctionDef _ _ b _ _ _ _ _ _ _=>b
  | _=>[]
def zo (s:Stmt):Scope:=match s with
  | .FunctionDef _ _ _ _ _ _ sc _ _ _=>sc
  | _=>{ kind:=.function,names:=[],isGenerator:=false,isCoroutine:=false }
abbrev CX0:CXT:=fun _ _ _ _ _ _=>False
abbrev E0:XK:=fun _ _ _=>False
theorem Zf {X:Cx}:yO CX0 X E0:=fun _ _ _ _ _ _ _ h=>h.elim
structure Fun (K:PySem.W.Frag) (x qual:Str) (st:Stmt) (f:Addr) (fd:FuncData):Prop where
  ex:∃ (oc:Value) (od:Option Addr) (kV doc pm:Value) (an:Option Addr) (cdv ct:Value) (osl:Array (Option Value)),
    fd=PySem.W.fnOf x qual (zT st) (zJ st) (zo st) .none kV doc pm an cdv ct/\K.lookup f=some ⟨oc,od,.func fd,osl⟩/\PySem.W.codeIn K cdv qual=true
  kp:PySem.W.keepIn K (.ref f)=true
section
variable {P:Program} {w:World} {K:PySem.W.Frag} {mg:Str->Option Value} {base:Heap}
theorem Fun.ok {x qual:Str} {st:Stmt} {f:Addr} {fd:FuncData} {N ps:List Str} {k:Nat} {sp:Sp} (F:Fun K x qual st f fd) (S:FnScope N ps (zo st)) (len:∀ vs H Q E,sp vs H Q E->vs.length=ps.length)
    (hbody:∀ (cdv:Value) (A:Around) (outer:List Env) (s:Shared) (H:Hp) (vs:List V) (Q:VK) (E:XK),Room k (A.deeper (envOfC qual (zo st) s.heap.objs.size f cdv))->sp vs H Q E ->
      ∃ t,PSs (cxOf CX0 P w K mg base N qual (zo st) f cdv A outer s H E).nox (zJ st) t/\t { nx:=fun _ H'=>Q .non H',rt:=Q } (yL N vs) H):FnOk P w K mg base CX0 (k + 1) f fd ps sp:=by
  obtain ⟨oc,od,kV,doc,pm,an,cdv,ct,osl,rfl,lk,hcd⟩:=F.ex
  refine QM lk hcd S len fun A outer s H vs Q E hr hsp=>?_
  obtain ⟨t,h,q⟩:=hbody cdv A outer s H vs Q E hr hsp
  exact ⟨t,h.nox,q⟩
theorem Fun.binds {x qual:Str} {st:Stmt} {f:Addr} {fd:FuncData} {ps:List Str} (F:Fun K x qual st f fd)
    (h:∀ (kV doc pm:Value) (an:Option Addr) (cdv ct:Value) (us:List Value),us.length=ps.length->bindArgs (PySem.W.fnOf x qual (zT st) (zJ st) (zo st) .none kV doc pm an cdv ct) ⟨us,[]⟩=pure (ps.zip us)):Binds K fd ps []:=by
  obtain ⟨oc,od,kV,doc,pm,an,cdv,ct,osl,rfl,lk,hcd⟩:=F.ex
  exact .all (h kV doc pm an cdv ct)
theorem WC {x qual:Str} {st:Stmt} {f:Addr} {oc:Value} {od an:Option Addr} {osl:Array (Option Value)} {kV doc pm cdv ct:Value} (l:K.lookup f=some ⟨oc,od,.func (PySem.W.fnOf x qual (zT st) (zJ st) (zo st) .none kV doc pm an cdv ct),osl⟩)
    (c:PySem.W.codeIn K cdv qual=true) (k:PySem.W.keepIn K (.ref f)=true):Fun K x qual st f (PySem.W.fnOf x qual (zT st) (zJ st) (zo st) .none kV doc pm an cdv ct):=⟨⟨oc,od,kV,doc,pm,an,cdv,ct,osl,rfl,l,c⟩,k⟩
end
theorem QQ {A:Around} {k:Nat} (hr:Room k A):A.units + 1 < cLine:=Nat.lt_of_le_of_lt (Nat.add_le_add_left (by decide:1<=64) _) hr.units
section
variable {X:Cx}
theorem pv (i:Nat) {x:Str} {pos:Pos} (hN:X.N[i]?=some x:=by rfl) (hv:Vis X.env.scope x:=by first | exact Or.inl rfl | exact Or.inr (Or.inl rfl) | exact Or.inr (Or.inr rfl)) (hd:(x == ("__debug__":Str))=false:=by decide)
    (hcd:(x == ("__classdict__":Str))=false:=by decide):PE X (.Name x pos) (tVar i):=zai hN hv hd hcd
end
theorem iteF {A B:Prop} (h:B):if false=true then A else B:=by
  rw [if_neg Bool.false_ne_true]
  exact h
theorem iteT {A B:Prop} (h:A):if true=true then A else B:=by
  rw [if_pos rfl]
  exact h
theorem ite2 {c A B:Prop} [Decidable c] (h1:c->A) (h2:¬ c->B):if c then A else B:=by
  by_cases h:c
  · rw [if_pos h]
    exact h1 h
  · rw [if_neg h]
    exact h2 h
def Same (H H':Hp):Prop:=∀ b o,H b=some o->H' b=some o
theorem Same.refl (H:Hp):Same H H:=fun _ _ h=>h
theorem Same.trans {H H1 H2:Hp} (a:Same H H1) (b:Same H1 H2):Same H H2:=fun c o h=>b c o (a c o h)
theorem Same.free {H H':Hp} (e:Same H H') {l:Addr} (h:H' l=Option.none):H l=Option.none:=by
  cases q:H l with
  | none=>rfl
  | some o =>
    rw [e l o q] at h
    cases h
theorem Same.seq {K:PySem.W.Frag} {H H':Hp} {a:Addr} {xs:List V} (e:Same H H') (h:SqL K H a xs):SqL K H' a xs:=by
  rcases h with (h | ⟨o,h⟩) | h
  · exact .inl (.inl (e _ _ h))
  · exact .inl (.inr ⟨o,e _ _ h⟩)
  · exact .inr h
def AllIn (env:Env):List (Str × Addr)->Prop
  | []=>True
  | p :: r=>env.cells.lookup p.1=some p.2/\AllIn env r
theorem AllIn.get {env:Env}:∀ {cl:List (Str × Addr)} {y:Str} {c:Addr},AllIn env cl->cl.lookup y=some c->env.cells.lookup y=some c
  | [],_,_,_,h=>by simp at h
  | (n,a) :: r,y,c,⟨e,t⟩,h=>by
    rw [List.lookup_cons] at h
    by_cases q:y=n
    · subst q
      rw [beq_self_eq_true] at h
      cases h
      exact e
    · have q':(y == n)=false:=beq_eq_false_iff_ne.mpr q
      rw [q'] at h
      exact AllIn.get t h
def wf:List Nat->St->St
  | [],σ=>σ
  | i :: S,σ=>wf S (σ.set i none)
theorem xz:∀ (S:List Nat) (σ:St),(wf S σ).length=σ.length
  | [],_=>rfl
  | i :: S,σ=>by rw [wf,xz S,List.length_set]
theorem je:∀ (S:List Nat) (σ:St) {j:Nat} {v:V},(wf S σ)[j]?=some (some v)->σ[j]?=some (some v)/\j ∉ S
  | [],_,_,_,h=>⟨h,by simp⟩
  | i :: S,σ,j,v,h=>by
    obtain ⟨h1,h2⟩:=je S (σ.set i none) h
    rw [List.getElem?_set] at h1
    by_cases e:i=j
    · rw [if_pos e] at h1
      split at h1 <;> cases h1
    · rw [if_neg e] at h1
      exact ⟨h1,fun z=>(List.mem_cons.mp z).elim (fun z=>e z.symm) h2⟩
structure LcOk (X:Cx) (scope:Scope) (cl:List (Str × Addr)) (S:List Nat):Prop where
  clos:closureFor scope X.env=pure cl
  kind:scope.kind=.function
  noC:scope.names.all (fun y=>y.2 != .cell)=true
  loc:scope.names.all (fun y=>y.2 != .local || scope.names.lookup y.1 == some .local)=true
  own:X.N.zipIdx.all (fun y=>S.contains y.2 || scope.names.lookup y.1 != some .local)=true
  sub:AllIn X.env cl
  has:scope.names.all (fun p=>p.2 != .free || ((cl.lookup p.1).isSome && (X.env.kindOf p.1 == some .cell || X.env.kindOf p.1 == some .free)))=true
section
variable {X:Cx} {scope:Scope} {cl:List (Str × Addr)} {S:List Nat}
theorem LcOk.nocell (L:LcOk X scope cl S):∀ y∈scope.names,y.2≠.cell:=fun y hy=>by
  have h:=List.all_eq_true.mp L.noC y hy
  exact bne_iff_ne.mp h
theorem LcOk.locs (L:LcOk X scope cl S):∀ y∈scope.names,y.2=.local->scope.names.lookup y.1=some .local:=fun y hy e=>by
  have h:=List.all_eq_true.mp L.loc y hy
  rw [e] at h
  simpa using h
theorem LcOk.apart (L:LcOk X scope cl S):∀ (i:Nat) (y:Str),X.N[i]?=some y->i ∉ S->scope.names.lookup y≠some .local:=fun i y hy hi=>by
  have h:=List.all_eq_true.mp L.own (y,i) (List.mem_zipIdx_iff_getElem?.mpr hy)
  have hc:S.contains i=false:=by simpa using hi
  rw [hc,Bool.false_or] at h
  exact bne_iff_ne.mp h
theorem LcOk.free (L:LcOk X scope cl S) {y:Str} (h:scope.names.lookup y=some .free):(∃ c,cl.lookup y=some c)/\(X.env.kindOf y=some .cell\/X.env.kindOf y=some .free):=by
  have h1:=List.all_eq_true.mp L.has _ (PySem.mem_of_lookup h)
  simp only [bne_self_eq_false,Bool.false_or,Bool.and_eq_true,Bool.or_eq_true,beq_iff_eq] at h1
  exact ⟨Option.isSome_iff_exists.mp h1.1,h1.2⟩
theorem yJ (names:List (Str × NameKind)) (env:Env) (y:Str) :
    (names.map fun (n,k)=>if (k == NameKind.free && env.scope.kind == .function && env.kindOf n == some .cell) then (n,NameKind.cell) else (n,k)).lookup y =
      (names.lookup y).map fun k=>if (k == NameKind.free && env.scope.kind == .function && env.kindOf y == some .cell) then NameKind.cell else k:=by
  induction names with
  | nil=>rfl
  | cons p r ih =>
    obtain ⟨n,k⟩:=p
    rw [List.map_cons]
    by_cases q:y=n
    · subst q
      by_cases hc:(k == NameKind.free && env.scope.kind == .function && env.kindOf y == some .cell)=true
      · show List.lookup y ((if (k == NameKind.free && env.scope.kind == .function && env.kindOf y == some .cell)=true then (y,NameKind.cell) else (y,k)) :: _)=_
        rw [if_pos hc,List.lookup_cons,List.lookup_cons,beq_self_eq_true]
        show some NameKind.cell=some (if _ then _ else _)
        rw [if_pos hc]
      · show List.lookup y ((if (k == NameKind.free && env.scope.kind == .function && env.kindOf y == some .cell)=true then (y,NameKind.cell) else (y,k)) :: _)=_
        rw [if_neg hc,List.lookup_cons,List.lookup_cons,beq_self_eq_true]
        show some k=some (if _ then _ else _)
        rw [if_neg hc]
    · have q':(y == n)=false:=beq_eq_false_iff_ne.mpr q
      by_cases hc:(k == NameKind.free && env.scope.kind == .function && env.kindOf n == some .cell)=true
      · show List.lookup y ((if (k == NameKind.free && env.scope.kind == .function && env.kindOf n == some .cell)=true then (n,NameKind.cell) else (n,k)) :: _)=_
        rw [if_pos hc,List.lookup_cons,List.lookup_cons,q']
        exact ih
      · show List.lookup y ((if (k == NameKind.free && env.scope.kind == .function && env.kindOf n == some .cell)=true then (n,NameKind.cell) else (n,k)) :: _)=_
        rw [if_neg hc,List.lookup_cons,List.lookup_cons,q']
        exact ih
theorem LcOk.kinds (L:LcOk X scope cl S) {y:Str} (h:(relabel scope X.env).names.lookup y=some .cell\/(relabel scope X.env).names.lookup y=some .free):scope.names.lookup y=some .free:=by
  have e:(relabel scope X.env).names.lookup y=(scope.names.lookup y).map fun k=>if (k == NameKind.free && X.env.scope.kind == .function && X.env.kindOf y == some .cell) then NameKind.cell else k:=yJ scope.names X.env y
  rw [e] at h
  cases q:scope.names.lookup y with
  | none=>rw [q] at h; rcases h with h | h <;> cases h
  | some k =>
    have hk:k≠.cell:=L.nocell _ (PySem.mem_of_lookup q)
    rw [q] at h
    by_cases hf:k=.free
    · rw [hf]
    · have z:(k == NameKind.free)=false:=beq_eq_false_iff_ne.mpr hf
      rw [Option.map_some,z,Bool.false_and,Bool.false_and,if_neg Bool.false_ne_true] at h
      rcases h with h | h
      · exact absurd (Option.some.inj h) hk
      · exact absurd (Option.some.inj h) hf
def cxLC (X:Cx) (scope:Scope) (cl:List (Str × Addr)) (M:List Str) (C:Addr) (s₀:Shared) (H₀:Hp) (ex:List Addr) (E:Value->Shared->Prop):Cx where
  prog:=X.prog
  w:=X.w
  K:=X.K
  mg:=X.mg
  base:=X.base
  A:=X.A
  N:=X.N ++ M
  s₀:=s₀
  H₀:=H₀
  env:=compEnvC scope cl C X.env
  outer:=X.stack
  stack:=X.stack
  ex:=ex
  fn:=fun _=>false
  calm:=X.calm
  pn:=[]
  xe:=E
variable {pins:List (Addr × Obj)} {σ:St} {H:Hp} {s:Shared} {ex:List Addr} {M:List Str} {C:Addr}
theorem WD {E:Value->Shared->Prop} {h1:Heap} {tk:Nat} {m:Str->Option Value} (I:Inv X pins σ H s) (L:LcOk X scope cl S) (hf:∀ b∈ex,FpOk X pins H b) (hlt:∀ b∈ex,b < s.heap.objs.size)
    (hk:∀ b o,s.heap.get? b=some o->h1.get? b=some o) (hC:s.heap.objs.size<=C) (hns:h1.Ns C m) :
    Inv (cxLC X scope cl M C s H ex E) [] (wf S σ ++ List.replicate M.length none) H { s with heap:=h1,toks:=tk }:=by
  refine ⟨⟨I.ok.mod,L.kind,I.ok.glob,I.ok.blt,hC,fun x y c a b=>I.ok.inj x y c (L.sub.get a) (L.sub.get b),fun y hy=>(L.free (L.kinds hy)).1,(fun x c z=>nomatch z),I.ok.hd,I.ok.frames,.inl rfl,fun b hb=>⟨?_,fun x c e=>?_⟩,
      I.bs,Nat.le_trans I.ok.bsz I.sz,fun b o e hb=>?_,fun b hb z=>?_,I.stack,I.stkFree⟩,
    rfl,I.bare,Un.kept hk,⟨m,hns,fun i y v e1 e2 e3=>?_⟩,fun y c e=>?_,I.hok.fresh hC,fun y c e=>I.freeC y c (L.sub.get e),fun p hp=>absurd (show p∈([]:List (Addr × Obj)) from hp) (by simp),I.hok.kept hk,?_⟩
  · exact Nat.ne_of_lt (Nat.lt_of_lt_of_le (hlt b hb) hC)
  · exact (hf b hb).2.2.2.2.1 x c (L.sub.get e)
  · rcases (hf b hb).2.2.2.1 with z | z
    · exact I.ok.noex b o e z
    · exact absurd (Nat.lt_of_lt_of_le (Heap.lt_size e) (Nat.le_trans I.ok.bsz z)) (Nat.lt_irrefl _)
  · rcases List.mem_cons.mp (I.stkSub b z) with q | q
    · exact (hf b hb).2.1 q
    · exact (hf b hb).2.2.1 q
  · have e1':(X.N ++ M)[i]?=some y:=e1
    by_cases hi:i < σ.length
    · rw [List.getElem?_append_left (by rw [xz]; exact hi)] at e2
      obtain ⟨e2,hiS⟩:=je S σ e2
      rw [List.getElem?_append_left (by rw [<- I.len]; exact hi)] at e1'
      obtain ⟨m0,hn0,hl⟩:=I.loc
      have hy:scope.names.lookup y=some .free:=by
        rcases e3 with e3 | e3
        · have q:=yJ scope.names X.env y
          have e3':(relabel scope X.env).names.lookup y=some .local:=e3
          cases z:scope.names.lookup y with
          | none =>
            rw [z] at q
            have q':(relabel scope X.env).names.lookup y=none:=q
            rw [e3'] at q'; cases q'
          | some k =>
            have hk1:k≠.local:=fun w=>L.apart i y e1' hiS (w ▸ z)
            rw [z,Option.map_some] at q
            have q':some NameKind.local=some (if (k == NameKind.free && X.env.scope.kind == .function && X.env.kindOf y == some .cell)=true then NameKind.cell else k):=e3'.symm.trans q
            have q2:=Option.some.inj q'
            by_cases hc:(k == NameKind.free && X.env.scope.kind == .function && X.env.kindOf y == some .cell)=true
            · rw [if_pos hc] at q2; cases q2
            · rw [if_neg hc] at q2; exact absurd q2.symm hk1
        · exact L.kinds e3
      obtain ⟨⟨c,hc⟩,hk2⟩:=L.free hy
      obtain ⟨u,r,l⟩:=hl i y v e1' e2 (.inr hk2)
      refine ⟨u,r,.inr ⟨?_,c,hc,?_⟩⟩
      · have q:=yJ scope.names X.env y
        rw [hy,Option.map_some] at q
        have q':(relabel scope X.env).names.lookup y=some (if (NameKind.free == NameKind.free && X.env.scope.kind == .function && X.env.kindOf y == some .cell)=true then NameKind.cell else NameKind.free):=q
        by_cases hc:(NameKind.free == NameKind.free && X.env.scope.kind == .function && X.env.kindOf y == some .cell)=true
        · rw [if_pos hc] at q'; exact .inl q'
        · rw [if_neg hc] at q'; exact .inr q'
      · rcases l with ⟨l1,_⟩ | ⟨_,c',e',z⟩
        · rcases hk2 with w | w <;> (rw [l1] at w; cases w)
        · have ec:c'=c:=by
            have w:=L.sub.get hc
            rw [e'] at w
            exact Option.some.inj w
          subst ec
          obtain ⟨o,ho,hd⟩:=z
          exact ⟨o,hk _ _ ho,hd⟩
    · rw [List.getElem?_append_right (by rw [xz]; exact Nat.not_lt.mp hi),List.getElem?_replicate] at e2
      split at e2 <;> cases e2
  · obtain ⟨v,o,ho,hd⟩:=I.cell y c (L.sub.get e)
    exact ⟨v,o,hk _ _ ho,hd⟩
  · show (wf S σ ++ List.replicate M.length none).length=(X.N ++ M).length
    rw [List.length_append,List.length_append,List.length_replicate,xz,I.len]
def PTs (X:Cx) (ifs:List Expr) (t:TT):Prop :=
  ∀ (pins:List (Addr × Obj)) (s:Shared) (σ:St) (H:Hp) (Q:Bool->Hp->Prop),Inv X pins σ H s->t σ H Q ->
    wpAny (model X.prog X.w) X.A (forIn ifs true fun c r=>if r=true then do let ok <- isTrue c X.env (eval c X.env); pure (ForInStep.yield ok) else pure (ForInStep.yield r)) (TP X pins σ Q) X.xe s
def tYes:TT:=fun _ H Q=>Q true H
theorem JI {X:Cx}:PTs X [] tYes:=fun _ _ _ H _ I h=>wpAny_tests_nil ⟨H,I,h⟩
theorem JJ {X:Cx} {c:Expr} {t:TT} (h:PT X c t):PTs X [c] t:=fun pins s σ H Q I q=>wpAny_tests_one (h pins s σ H Q I q)
def lcBy (J:It) (g:TG) (tt:TT) (te:TE) (Q:VK) (W:Nat->Nat->St->List V->Hp->Prop):Prop:=∀ i m τ ys H,W i m τ ys H ->
  (J.stop i H/\∀ p,H p=none->Q (.ref p) (upd H p (.lst ys))) \/
  (J.go i H/\∃ N:St->List V->Hp->Prop,(∀ τ' ys' H',N τ' ys' H'->∃ m',m' < m/\W (i + 1) m' τ' ys' H')/\∀ x H',J.yld i H x H'->g x τ H' fun τ2 H2=>tt τ2 H2 fun b H3 =>
    if b=true then te τ2 H3 fun y H4=>ys.length < sizeLine/\N τ2 (ys ++ [y]) H4 else N τ2 ys H3)
def tLC (wi:TI) (g:TG) (tt:TT) (te:TE) (n:Nat):TE:=fun σ H Q=>wi σ H fun J H1=>∃ W,(∃ m,W 0 m (σ ++ List.replicate n none) [] H1)/\lcBy J g tt te Q W
def tLCS (S:List Nat) (wi:TI) (g:TG) (tt:TT) (te:TE) (n:Nat):TE:=fun σ H Q=>wi σ H fun J H1=>∃ W,(∃ m,W 0 m (wf S σ ++ List.replicate n none) [] H1)/\lcBy J g tt te Q W
theorem YE {tg elt iter:Expr} {ifs:List Expr} {pos:Pos} {g:TG} {tt:TT} {te:TE} {J:It} {fp:List Addr} {it:Addr} {tn:Nat->Heap->Prop} {Q:VK} {E:Value->Shared->Prop} {R:Value->Addr->Result->Shared->Prop} {Al:Addr->(Value->Shared->Prop)->Prop}
    {W:Nat->Nat->St->List V->Hp->Prop} {m0:Nat} (L:LcOk X scope cl S) (hc:X.calm=true) (I:Inv X pins σ H s) (T:Turn X.prog X.w X.K tg J fp it tn) (st:tn 0 s.heap) (hf:∀ b∈fp,FpOk X pins H b)
    (hg:∀ C s H ex E,PG (cxLC X scope cl M C s H ex E) tg g) (ht:∀ C s H ex E,PTs (cxLC X scope cl M C s H ex E) ifs tt) (he:∀ C E,Al C E->PE (cxLC X scope cl M C s H fp E) elt te)
    (hal:∀ C,s.heap.objs.size < C->Al C (notedBy (model X.prog X.w) X.A (compEnvC scope cl C X.env) (fun e s'=>R (.ref s.heap.objs.size) C (.error e) s')))
    (w0:W 0 m0 (wf S σ ++ List.replicate M.length none) [] H) (turn:lcBy J g tt te Q W)
    (hR:∀ D C s' H' ys m,Inv X pins σ (upd H' D (.lst ys)) s'->FpOk X pins (upd H' D (.lst ys)) C->s'.heap.Ns C m->Q (.ref D) (upd H' D (.lst ys))->R (.ref D) C (.ok .next) s') :
    wpAny (model X.prog X.w) X.A (newList []) (fun acc s₃=>wpAny (model X.prog X.w) X.A (newFunctionEnv scope X.env.globals cl [] X.env.qual none .none (some X.env)) (fun cenv s₄ =>
      codeAny (model X.prog X.w) X.A (.compStart (.ListComp elt [⟨tg,iter,ifs,0⟩] scope pos) 0 (.ref it) acc { cenv with scope:=relabel scope X.env }) (R acc cenv.locals) s₄) E s₃) E s:=by
  refine wpAny_newObj_type (wpAny_newFunctionEnv L.nocell (by intro y hy; simp at hy) (fun h₁ hns₁ hsb₁=>?_) L.kind)
  dsimp only at hns₁ hsb₁ ⊢
  generalize hG:s.heap.push { cls:=.type "list",dict:=none,data:=.seq ([]:List Value).toArray }=G at hns₁ hsb₁ ⊢
  have hC:G.objs.size=s.heap.objs.size + 1:=by rw [<- hG,Heap.size_push]
  have hDC:s.heap.objs.size≠G.objs.size:=by rw [hC]; exact Nat.ne_of_lt (Nat.lt_succ_self _)
  have hCle:s.heap.objs.size<=G.objs.size:=by rw [hC]; exact Nat.le_succ _
  have old:∀ b o,s.heap.get? b=some o->h₁.get? b=some o:=fun b o e =>
    hsb₁.extBut b o (by rw [hC]; exact Nat.ne_of_lt (Nat.lt_succ_of_lt (Heap.lt_size e))) (Heap.get?_push_of_some _ (hG ▸ Heap.get?_push_of_some _ e))
  have hacc:h₁.get? s.heap.objs.size=some { cls:=.type "list",data:=.seq ([]:List Value).toArray }:=hsb₁.extBut _ _ hDC (Heap.get?_push_of_some _ (hG ▸ Heap.get?_push_size _ rfl))
  have fpo:∀ b∈fp,b < s.heap.objs.size:=fun b hb=>let ⟨o,e,_⟩:=T.obj 0 _ st b hb; Heap.lt_size e
  have st1:tn 0 h₁:=T.keep 0 _ _ st fun b _ o e=>old b o e
  have nofs:s.heap.objs.size ∉ frs X.stack:=fun z=>by
    rcases List.mem_cons.mp (I.stkSub _ z) with q | q
    · exact absurd (q ▸ I.lt) (Nat.lt_irrefl _)
    · exact I.nofs (Nat.le_refl _) q
  have nocl:∀ y c,cl.lookup y=some c->c≠s.heap.objs.size:=fun y c e z=>by
    obtain ⟨v,o,ho,_⟩:=I.cell y c (L.sub.get e)
    exact absurd (z ▸ Heap.lt_size ho) (Nat.lt_irrefl _)
  have loop:∀ s₃:Shared,s₃={ s with heap:=h₁,toks:=s.toks + ([]:List (Str × Value)).length } ->
      codeAny (model X.prog X.w) X.A (.compLoop (.ListComp elt [⟨tg,iter,ifs,0⟩] scope pos) 0 (.ref it) (.ref s.heap.objs.size) (compEnvC scope cl G.objs.size X.env)) (R (.ref s.heap.objs.size) G.objs.size) s₃:=by
    rintro s₃ rfl
    have hAl:=hal G.objs.size (by rw [hC]; exact Nat.lt_succ_self _)
    generalize hE:notedBy (model X.prog X.w) X.A (compEnvC scope cl G.objs.size X.env) (fun e s'=>R (.ref s.heap.objs.size) G.objs.size (.error e) s')=E' at hAl ⊢
    have IY:Inv (cxLC X scope cl M G.objs.size s H fp E') [] (wf S σ ++ List.replicate M.length none) H { s with heap:=h₁,toks:=s.toks + ([]:List (Str × Value)).length }:=WD I L hf fpo old hCle hns₁
    refine codeAny_loop rfl (fun n s'=>∃ (i:Nat) (τ:St) (H':Hp) (ys:List V) (its:List Value) (k:Nat),Inv (cxLC X scope cl M G.objs.size s H fp E') [] τ H' s'/\tn i s'.heap/\(∀ b∈fp,H' b=none) /\
      s'.heap.get? s.heap.objs.size=some { cls:=.type "list",data:=.seq its.toArray k }/\H' s.heap.objs.size=none/\Vals ys its/\ys.length<=sizeLine/\W i n τ ys H') (fun n s' hI=>?_) m0
      ⟨0,_,H,[],[],_,IY,st1,fun b hb=>(hf b hb).1,hacc,I.hok.fresh (Nat.le_refl _),.nil,Nat.zero_le _,w0⟩
    obtain ⟨i,τ,H1,ys,its,k,I1,st1,fr1,eD,fD,rv,hz,w1⟩:=hI
    show wpAny _ X.A ((compTurn (.ListComp elt [⟨tg,iter,ifs,0⟩] scope pos) 0 (.ref it) (.ref s.heap.objs.size) (compEnvC scope cl G.objs.size X.env)).onRaise (fun x=>do noteFrame x (compEnvC scope cl G.objs.size X.env); theTreesLotGoes x)) _ _ s'
    refine wpAny_noted ?_
    rw [hE,compTurn_list]
    have I1':Inv (cxLC X scope cl M G.objs.size s H fp E') [(s.heap.objs.size,{ cls:=.type "list",data:=.seq its.toArray k })] τ H1 s':=I1.pins_of fun p hp=>by
      have e:p=(s.heap.objs.size,{ cls:=.type "list",data:=.seq its.toArray k }):=by simpa using hp
      subst e
      exact ⟨eD,fD,hDC,nofs,(fun v z=>nomatch z)⟩
    have stat:∀ {H':Hp},(∀ b∈fp,H' b=none)->∀ b∈fp,FpOk (cxLC X scope cl M G.objs.size s H fp E') [(s.heap.objs.size,{ cls:=.type "list",data:=.seq its.toArray k })] H' b:=fun hn b hb=>by
      refine ⟨hn b hb,?_,?_,.inl hb,fun x c e=>(hf b hb).2.2.2.2.1 x c (L.sub.get e),fun p hp z=>?_⟩
      · exact Nat.ne_of_lt (Nat.lt_of_lt_of_le (fpo b hb) hCle)
      · intro z
        rcases List.mem_cons.mp (I.stkSub b z) with q | q
        · exact (hf b hb).2.1 q
        · exact (hf b hb).2.2.1 q
      · have e:p=(s.heap.objs.size,{ cls:=.type "list",data:=.seq its.toArray k }):=by
          have hp':p∈[(s.heap.objs.size,({ cls:=.type "list",data:=.seq its.toArray k }:Obj))]:=hp
          simpa using hp'
        subst e
        exact absurd (z ▸ fpo b hb) (Nat.lt_irrefl _)
    refine wpAny_bind (wpAny_standAt (wpAny_bind ?_))
    rcases turn i n τ ys H1 w1 with ⟨stop,q⟩ | ⟨go,N,hN,step⟩
    · refine thn (T.done (cxLC X scope cl M G.objs.size s H fp E') rfl rfl rfl hc i _ s' τ H1 E' I1' (stat fr1) st1 stop) fun r s4 ⟨hr,I4⟩=>?_
      subst hr
      refine wpAny_pure ?_
      obtain ⟨eD4,_,_⟩:=I4.pin (s.heap.objs.size,{ cls:=.type "list",data:=.seq its.toArray k }) (List.mem_append_right _ List.mem_cons_self)
      have base4:Un (frs X.stack) fp H H1 s.heap s4.heap:=I4.base
      have un:Un (frs X.stack) fp H (upd H1 s.heap.objs.size (.lst ys)) s.heap s4.heap:=⟨base4.keep,base4.slot,fun b o e n hx=>by rw [zk (Nat.ne_of_lt (Heap.lt_size e))]; exact base4.free b o e n hx,base4.there,
        fun b xs e=>by rw [zk (zn (base4.tups b xs e) fD)]; exact base4.tups b xs e,fun b o u e=>by rw [zk (zn (base4.frzs b o u e) fD)]; exact base4.frzs b o u e,
        fun b ps e=>by
          obtain ⟨more,w⟩:=base4.tbls b ps e
          exact ⟨more,by rw [zk (zn w fD)]; exact w⟩⟩
      have hok:HOk X.prog X.w (upd H1 s.heap.objs.size (.lst ys)) s4.heap:=fun b u e=>by
        by_cases hb:b=s.heap.objs.size
        · subst hb
          rw [zf] at e
          cases e
          exact ⟨hz,its,k,rv,eD4⟩
        · rw [zk hb] at e
          exact (I4.hok b u e).stay (fun c v _ q=>q) (fun c q=>by rw [zk (zn q fD)]; exact q) fun c xs q=>by rw [zk (zn q fD)]; exact q
      have IX:Inv X pins σ (upd H1 s.heap.objs.size (.lst ys)) s4:=I.call' I4.os un hok I4.bare fun b hb=>⟨(hf b hb).2.2.2.1,(hf b hb).2.1,(hf b hb).2.2.2.2.1,(hf b hb).2.2.2.2.2⟩
      have fC:H1 G.objs.size=none:=I4.free
      obtain ⟨m4,n4,_⟩:=I4.loc
      exact hR _ _ s4 H1 ys m4 IX (I.fpOk hCle (by rw [zk (Ne.symm hDC)]; exact fC)) n4 (q _ fD)
    · refine thn (T.item (cxLC X scope cl M G.objs.size s H fp E') rfl rfl rfl hc i _ s' τ H1 E' I1' (stat fr1) st1 go) fun r s4 ⟨u,hr,h4⟩=>?_
      subst hr
      refine wpAny_bind (thn h4 fun _ s5 ⟨x,H5,I5,r5,y5,st5,fr5⟩=>?_)
      have I5':=I5.pinned (stat fr5) (T.obj _ _ st5)
      have kept:∀ {τ6:St} {H6:Hp} {s6:Shared},Inv (cxLC X scope cl M G.objs.size s H fp E') ([(s.heap.objs.size,{ cls:=.type "list",data:=.seq its.toArray k })] ++ vf fp s5.heap) τ6 H6 s6 ->
          Inv (cxLC X scope cl M G.objs.size s H fp E') [] τ6 H6 s6/\tn (i + 1) s6.heap/\(∀ b∈fp,H6 b=none)/\s6.heap.get? s.heap.objs.size=some { cls:=.type "list",data:=.seq its.toArray k }/\H6 s.heap.objs.size=none:=fun {τ6 H6 s6} I6=>by
        have pin:∀ b∈fp,∀ o,s5.heap.get? b=some o->s6.heap.get? b=some o/\H6 b=none:=fun b hb o e =>
          let w:=I6.pin (b,o) (List.mem_append_right _ (List.mem_append_right _ (xP hb e)))
          ⟨w.1,w.2.1⟩
        have pD:=I6.pin (s.heap.objs.size,{ cls:=.type "list",data:=.seq its.toArray k }) (List.mem_append_right _ (List.mem_append_left _ List.mem_cons_self))
        refine ⟨I6.pins_of (fun p hp=>nomatch hp),T.keep _ _ _ st5 fun b hb o e=>(pin b hb o e).1,fun b hb=>?_,pD.1,pD.2.1⟩
        obtain ⟨o,e,_⟩:=T.obj _ _ st5 b hb
        exact (pin b hb o e).2
      refine wpAny_bind (thn (hg _ _ _ _ _ _ s5 τ H5 x u _ I5' r5 (step x H5 y5)) fun _ s6 ⟨σ6,H6,I6,q6⟩=>?_)
      refine wpAny_bind (thn (ht _ _ _ _ _ _ s6 σ6 H6 _ I6 q6) fun ok s7 ⟨H7,I7,q7⟩=>?_)
      cases ok with
      | false =>
        have q7':N σ6 ys H7:=by simpa using q7
        obtain ⟨m',hm,w7⟩:=hN _ _ _ q7'
        obtain ⟨K1,K2,K3,K4,K5⟩:=kept I7
        exact wpAny_pure ⟨rfl,m',hm,i + 1,σ6,H7,ys,its,k,K1,K2,K3,K4,K5,rv,hz,w7⟩
      | true =>
        have q7':te σ6 H7 fun y H4=>ys.length < sizeLine/\N σ6 (ys ++ [y]) H4:=by simpa using q7
        refine wpAny_bind (wpAny_bind (thn (he _ _ hAl _ s7 σ6 H7 _ I7 q7') fun y s8 ⟨v8,H8,I8,r8,hz8,n8⟩=>?_))
        obtain ⟨m',hm,w8⟩:=hN _ _ _ n8
        obtain ⟨K1,K2,K3,K4,K5⟩:=kept I8
        have hl:=rv.length
        refine wpAny_bind (wpAny_list_append_plain (hsz:=by rw [List.size_toArray]; lia) ⟨k,K4⟩ fun h9 hl9 hs9=>wpAny_pure (wpAny_pure ⟨rfl,m',hm,?_⟩))
        obtain ⟨k9,e9⟩:=hl9
        have I9:Inv (cxLC X scope cl M G.objs.size s H fp E') [] σ6 H8 { s8 with heap:=h9 }:=K1.turned (t':=s8.toks) (it:=s.heap.objs.size) (fun b o hb e=>(hs9.2 b hb).trans e) K5 hDC (.inr (Nat.le_refl _))
          (fun y c e=>nocl y c e) fun p hp=>nomatch hp
        refine ⟨i + 1,σ6,H8,ys ++ [v8],its ++ [y],k9,I9,T.keep _ _ _ K2 fun b hb o e=>(hs9.2 b (Nat.ne_of_lt (fpo b hb))).trans e,K3,?_,K5,rv.append (.cons r8 .nil),?_,w8⟩
        · rw [e9]
          simp
        · rw [List.length_append,List.length_singleton]
          lia
  exact codeAny_compStart_list (loop _ rfl) (T.self X.A 0 _ _ _ st1 (loop _ rfl))
variable {tg elt iter:Expr} {ifs:List Expr} {pos:Pos} {wi:TI} {g:TG} {tt:TT} {te:TE}
theorem QR (L:LcOk X scope cl S) (hc:X.calm=true) (hi:PI X tg iter wi) (hg:∀ C s H ex E,PG (cxLC X scope cl M C s H ex E) tg g) (ht:∀ C s H ex E,PTs (cxLC X scope cl M C s H ex E) ifs tt) (he:∀ C s H ex E,PE (cxLC X scope cl M C s H ex E) elt te)
    (hs:∀ x,foldedSetIterable iter X.env x=pure x:=by intro _; rfl):PE X (.ListComp elt [⟨tg,iter,ifs,0⟩] scope pos) (tLCS S wi g tt te M.length):=by
  intro pins s σ H Q I h
  rw [eval_ListComp]
  refine wpAny_comprehension_free (use:=none) rfl hs L.clos L.kind L.locs (thn (hi pins s σ H _ I h) fun v s1 h1=>thn h1 fun itv s2 h2=>?_)
  obtain ⟨it,fp,tn,J,H2,rfl,I2,T,st2,f2,W,⟨m0,w0⟩,turn⟩:=h2
  refine YE (R:=fun acc C=>compPost (model X.prog X.w) X.A X.xe none (EP X pins σ Q) acc C) (Al:=fun _ _=>True) L hc I2 T st2 f2 hg ht (fun C E _=>he C _ _ _ E) (fun _ _=>trivial) w0 turn ?_
  intro D C s' H' ys m IX fC ns q
  exact ⟨m,ns,fun h' sb=>⟨.ref D,_,IX.turned (t':=s'.toks) (fun b o hb e=>(sb.2 b hb).trans e) fC.1 fC.2.1 fC.2.2.2.1 fC.2.2.2.2.1 fC.2.2.2.2.2,rfl,q⟩⟩
theorem jf {i:Nat} {y:Str} {py spos:Pos} (hN:X.N.Nodup) (hi':X.N[i]?=some y) (hy:Loc X.env.scope y) (L:LcOk X scope cl S) (hc:X.calm=true) (hi:PI X tg iter wi) (hg:∀ C s H ex E,PG (cxLC X scope cl M C s H ex E) tg g)
    (ht:∀ C s H ex E,PTs (cxLC X scope cl M C s H ex E) ifs tt) (he:∀ C s H ex E,PE (cxLC X scope cl M C s H ex E) elt te) (hs:∀ x,foldedSetIterable iter X.env x=pure x:=by intro _; rfl)
    (hsw:swapsWith (.ListComp elt [⟨tg,iter,ifs,0⟩] scope pos) (some (.Name y py)) spos.line X.env=pure true:=by rfl)
    (hf:X.fn y=true\/X.env.scope.names.lookup y=some .local:=by first | exact .inl rfl | exact .inr rfl | assumption) :
    PS X (.Assign [.Name y py] (.ListComp elt [⟨tg,iter,ifs,0⟩] scope pos) spos) (fun D σ H=>tLCS S wi g tt te M.length σ H fun v H1=>D.nx (σ.set i (some v)) H1):=by
  intro pins s σ H D I h
  rw [exec_Assign_Name_used _ _ _ _ hsw]
  refine wpAny_bind (wpAny_standAt (wpAny_bind ?_))
  show wpAny _ X.A (do let _ <- comprehension (.ListComp elt [⟨tg,iter,ifs,0⟩] scope pos) scope X.env _ (newList []) false (eval iter X.env) (some (assign (.Name y py) X.env))) _ _ s
  refine wpAny_bind (wpAny_mono (wpAny_comprehension_free (use:=some (assign (.Name y py) X.env)) (Q:=fun _ s'=>SP X pins D .next s') rfl hs L.clos L.kind L.locs
    (thn (hi pins s σ H _ I h) fun v s1 h1=>thn h1 fun itv s2 h2=>?_)) (fun _ s' hq=>wpAny_pure (wpAny_pure hq)) fun _ _ e=>e)
  obtain ⟨it,fp,tn,J,H2,rfl,I2,T,st2,f2,W,⟨m0,w0⟩,turn⟩:=h2
  refine YE (R:=fun acc C=>compPost (model X.prog X.w) X.A X.xe (some (assign (.Name y py) X.env)) (fun _ s'=>SP X pins D .next s') acc C) (Al:=fun _ _=>True) L hc I2 T st2 f2 hg ht (fun C E _=>he C _ _ _ E) (fun _ _=>trivial) w0 turn ?_
  intro D' C s' H' ys m IX fC ns q
  show wpAny _ X.A (assign (.Name y py) X.env (.ref D')) _ _ s'
  refine wpAny_assign_Name (vZ IX hN hi' hy (v:=.ref D') rfl (fun s'' I'' ⟨a,sb,ha⟩=>?_) hf)
  refine ⟨m,ns.sameBut sb ?_,fun h' sb'=>⟨_,_,I''.turned (t':=s''.toks) (fun b o hb e=>(sb'.2 b hb).trans e) fC.1 fC.2.1 fC.2.2.2.1 fC.2.2.2.2.1 fC.2.2.2.2.2,q⟩⟩
  rcases ha with ha | ha
  · rw [ha]; exact fC.2.1
  · exact Ne.symm (fC.2.2.2.2.1 y a ha)
end
def clOf (scope:Scope) (env:Env):List (Str × Addr):=scope.names.foldl (fun cs p=>if p.2 == .free then (match env.cells.lookup p.1 with | some a=>(p.1,a) :: cs | none=>cs) else cs) []
theorem YF (env:Env):∀ (names:List (Str × NameKind)) (acc:List (Str × Addr)),AllIn env acc->AllIn env (names.foldl (fun cs p=>if p.2 == .free then (match env.cells.lookup p.1 with | some a=>(p.1,a) :: cs | none=>cs) else cs) acc)
  | [],_,h=>h
  | (n,k) :: r,acc,h=>by
    rw [List.foldl_cons]
    refine YF env r _ ?_
    by_cases hk:(k == NameKind.free)=true
    · rw [if_pos hk]
      cases e:env.cells.lookup n with
      | none=>exact h
      | some a=>exact ⟨e,h⟩
    · rw [if_neg hk]
      exact h
section
variable {X:Cx} {scope:Scope} {M:List Str} {tg elt iter:Expr} {ifs:List Expr} {pos:Pos} {wi:TI} {g:TG} {tt:TT} {te:TE}
theorem WE {S:List Nat} (h1:closureFor scope X.env=pure (clOf scope X.env)) (h2:scope.kind=.function) (h3:scope.names.all (fun y=>y.2 != .cell)=true) (h4:scope.names.all (fun y=>y.2 != .local || scope.names.lookup y.1 == some .local)=true)
    (h5:X.N.zipIdx.all (fun y=>S.contains y.2 || scope.names.lookup y.1 != some .local)=true) (h6:scope.names.all (fun p=>p.2 != .free || (((clOf scope X.env).lookup p.1).isSome && (X.env.kindOf p.1 == some .cell || X.env.kindOf p.1 == some .free)))=true) :
    LcOk X scope (clOf scope X.env) S:=⟨h1,h2,h3,h4,h5,YF X.env scope.names [] trivial,h6⟩
theorem lcOk (h1:closureFor scope X.env=pure (clOf scope X.env)) (h2:scope.kind=.function) (h3:scope.names.all (fun y=>y.2 != .cell)=true) (h4:scope.names.all (fun y=>y.2 != .local || scope.names.lookup y.1 == some .local)=true)
    (h5:X.N.all (fun y=>scope.names.lookup y != some .local)=true) (h6:scope.names.all (fun p=>p.2 != .free || (((clOf scope X.env).lookup p.1).isSome && (X.env.kindOf p.1 == some .cell || X.env.kindOf p.1 == some .free)))=true) :
    LcOk X scope (clOf scope X.env) []:=WE h1 h2 h3 h4 (List.all_eq_true.mpr fun y hy=>by
      have hm:y.1∈X.N:=List.mem_of_getElem? (List.mem_zipIdx_iff_getElem?.mp hy)
      rw [List.all_eq_true.mp h5 y.1 hm,Bool.or_true]) h6
theorem JK (M:List Str) (hc:X.calm=true) (hi:PI X tg iter wi) (hg:∀ C s H ex E,PG (cxLC X scope (clOf scope X.env) M C s H ex E) tg g) (ht:∀ C s H ex E,PTs (cxLC X scope (clOf scope X.env) M C s H ex E) ifs tt)
    (he:∀ C s H ex E,PE (cxLC X scope (clOf scope X.env) M C s H ex E) elt te) (hs:∀ x,foldedSetIterable iter X.env x=pure x:=by intro _; rfl)
    (h1:closureFor scope X.env=pure (clOf scope X.env):=by with_unfolding_all rfl) (h2:scope.kind=.function:=by rfl) (h3:scope.names.all (fun y=>y.2 != .cell)=true:=by rfl) (h4:scope.names.all (fun y=>y.2 != .local || scope.names.lookup y.1 == some .local)=true:=by rfl)
    (h5:X.N.all (fun y=>scope.names.lookup y != some .local)=true:=by rfl) (h6:scope.names.all (fun p=>p.2 != .free || (((clOf scope X.env).lookup p.1).isSome && (X.env.kindOf p.1 == some .cell || X.env.kindOf p.1 == some .free)))=true:=by rfl) :
    PE X (.ListComp elt [⟨tg,iter,ifs,0⟩] scope pos) (tLC wi g tt te M.length):=QR (lcOk h1 h2 h3 h4 h5 h6) hc hi hg ht he hs
theorem JL (M:List Str) {i:Nat} {y:Str} {py spos:Pos} (hN:X.N.Nodup) (hi':X.N[i]?=some y) (hy:Loc X.env.scope y) (hc:X.calm=true) (hi:PI X tg iter wi) (hg:∀ C s H ex E,PG (cxLC X scope (clOf scope X.env) M C s H ex E) tg g)
    (ht:∀ C s H ex E,PTs (cxLC X scope (clOf scope X.env) M C s H ex E) ifs tt) (he:∀ C s H ex E,PE (cxLC X scope (clOf scope X.env) M C s H ex E) elt te) (hs:∀ x,foldedSetIterable iter X.env x=pure x:=by intro _; rfl)
    (hsw:swapsWith (.ListComp elt [⟨tg,iter,ifs,0⟩] scope pos) (some (.Name y py)) spos.line X.env=pure true:=by rfl)
    (hf:X.fn y=true\/X.env.scope.names.lookup y=some .local:=by first | exact .inl rfl | exact .inr rfl | assumption)
    (h1:closureFor scope X.env=pure (clOf scope X.env):=by with_unfolding_all rfl) (h2:scope.kind=.function:=by rfl) (h3:scope.names.all (fun y=>y.2 != .cell)=true:=by rfl) (h4:scope.names.all (fun y=>y.2 != .local || scope.names.lookup y.1 == some .local)=true:=by rfl)
    (h5:X.N.all (fun y=>scope.names.lookup y != some .local)=true:=by rfl) (h6:scope.names.all (fun p=>p.2 != .free || (((clOf scope X.env).lookup p.1).isSome && (X.env.kindOf p.1 == some .cell || X.env.kindOf p.1 == some .free)))=true:=by rfl) :
    PS X (.Assign [.Name y py] (.ListComp elt [⟨tg,iter,ifs,0⟩] scope pos) spos) (fun D σ H=>tLC wi g tt te M.length σ H fun v H1=>D.nx (σ.set i (some v)) H1):=jf hN hi' hy (lcOk h1 h2 h3 h4 h5 h6) hc hi hg ht he hs hsw hf
theorem WF (S:List Nat) (M:List Str) (hc:X.calm=true) (hi:PI X tg iter wi) (hg:∀ C s H ex E,PG (cxLC X scope (clOf scope X.env) M C s H ex E) tg g) (ht:∀ C s H ex E,PTs (cxLC X scope (clOf scope X.env) M C s H ex E) ifs tt)
    (he:∀ C s H ex E,PE (cxLC X scope (clOf scope X.env) M C s H ex E) elt te) (hs:∀ x,foldedSetIterable iter X.env x=pure x:=by intro _; rfl)
    (h1:closureFor scope X.env=pure (clOf scope X.env):=by with_unfolding_all rfl) (h2:scope.kind=.function:=by rfl) (h3:scope.names.all (fun y=>y.2 != .cell)=true:=by rfl) (h4:scope.names.all (fun y=>y.2 != .local || scope.names.lookup y.1 == some .local)=true:=by rfl)
    (h5:X.N.zipIdx.all (fun y=>S.contains y.2 || scope.names.lookup y.1 != some .local)=true:=by rfl) (h6:scope.names.all (fun p=>p.2 != .free || (((clOf scope X.env).lookup p.1).isSome && (X.env.kindOf p.1 == some .cell || X.env.kindOf p.1 == some .free)))=true:=by rfl) :
    PE X (.ListComp elt [⟨tg,iter,ifs,0⟩] scope pos) (tLCS S wi g tt te M.length):=QR (WE h1 h2 h3 h4 h5 h6) hc hi hg ht he hs
theorem WG (S:List Nat) (M:List Str) {i:Nat} {y:Str} {py spos:Pos} (hN:X.N.Nodup) (hi':X.N[i]?=some y) (hy:Loc X.env.scope y) (hc:X.calm=true) (hi:PI X tg iter wi) (hg:∀ C s H ex E,PG (cxLC X scope (clOf scope X.env) M C s H ex E) tg g)
    (ht:∀ C s H ex E,PTs (cxLC X scope (clOf scope X.env) M C s H ex E) ifs tt) (he:∀ C s H ex E,PE (cxLC X scope (clOf scope X.env) M C s H ex E) elt te) (hs:∀ x,foldedSetIterable iter X.env x=pure x:=by intro _; rfl)
    (hsw:swapsWith (.ListComp elt [⟨tg,iter,ifs,0⟩] scope pos) (some (.Name y py)) spos.line X.env=pure true:=by rfl)
    (hf:X.fn y=true\/X.env.scope.names.lookup y=some .local:=by first | exact .inl rfl | exact .inr rfl | assumption)
    (h1:closureFor scope X.env=pure (clOf scope X.env):=by with_unfolding_all rfl) (h2:scope.kind=.function:=by rfl) (h3:scope.names.all (fun y=>y.2 != .cell)=true:=by rfl) (h4:scope.names.all (fun y=>y.2 != .local || scope.names.lookup y.1 == some .local)=true:=by rfl)
    (h5:X.N.zipIdx.all (fun y=>S.contains y.2 || scope.names.lookup y.1 != some .local)=true:=by rfl) (h6:scope.names.all (fun p=>p.2 != .free || (((clOf scope X.env).lookup p.1).isSome && (X.env.kindOf p.1 == some .cell || X.env.kindOf p.1 == some .free)))=true:=by rfl) :
    PS X (.Assign [.Name y py] (.ListComp elt [⟨tg,iter,ifs,0⟩] scope pos) spos) (fun D σ H=>tLCS S wi g tt te M.length σ H fun v H1=>D.nx (σ.set i (some v)) H1):=jf hN hi' hy (WE h1 h2 h3 h4 h5 h6) hc hi hg ht he hs hsw hf
end
section
variable {g:TG} {tt:TT} {te:TE} {Q:VK} {σ:St} {H:Hp}
theorem ym {K:PySem.W.Frag} {a:Addr} {xs:List V} (Pv:Nat->St->List V->Hp->Prop) (h0:Pv 0 σ [] H) (hl:∀ i τ ys H,i<=xs.length->Pv i τ ys H->SqL K H a xs)
    (hs:∀ i x τ ys H,xs[i]?=some x->Pv i τ ys H->g x τ H fun τ2 H2=>tt τ2 H2 fun b H3=>if b=true then te τ2 H3 fun y H4=>ys.length < sizeLine/\Pv (i + 1) τ2 (ys ++ [y]) H4 else Pv (i + 1) τ2 ys H3)
    (hd:∀ τ ys H,Pv xs.length τ ys H->∀ p,H p=none->Q (.ref p) (upd H p (.lst ys))):∃ W,(∃ m,W 0 m σ [] H)/\lcBy (Itl K a) g tt te Q W:=by
  refine ⟨fun i m τ ys H=>m=xs.length - i/\i<=xs.length/\Pv i τ ys H,⟨xs.length,by simp,Nat.zero_le _,h0⟩,?_⟩
  rintro i m τ ys H ⟨rfl,hi,p⟩
  have q:=hl i τ ys H hi p
  by_cases hlt:i < xs.length
  · refine .inr ⟨⟨xs,xs[i],q,by simp [hlt]⟩,Pv (i + 1),fun τ' ys' H' p'=>⟨xs.length - (i + 1),by lia,rfl,hlt,p'⟩,fun x H' y=>?_⟩
    obtain ⟨e,y⟩:=y
    subst e
    exact hs i x τ ys _ (y xs q) p
  · have e:i=xs.length:=by lia
    subst e
    exact .inl ⟨⟨xs,q,Nat.le_refl _⟩,hd τ ys H p⟩
theorem yT {lo:Int} {n:Nat} (Pv:Nat->St->List V->Hp->Prop) (h0:Pv 0 σ [] H)
    (hs:∀ i τ ys H,i < n->Pv i τ ys H->g (.int (lo + i)) τ H fun τ2 H2=>tt τ2 H2 fun b H3=>if b=true then te τ2 H3 fun y H4=>ys.length < sizeLine/\Pv (i + 1) τ2 (ys ++ [y]) H4 else Pv (i + 1) τ2 ys H3)
    (hd:∀ τ ys H,Pv n τ ys H->∀ p,H p=none->Q (.ref p) (upd H p (.lst ys))):∃ W,(∃ m,W 0 m σ [] H)/\lcBy (Itr lo n) g tt te Q W:=by
  refine ⟨fun i m τ ys H=>m=n - i/\i<=n/\Pv i τ ys H,⟨n,by simp,Nat.zero_le _,h0⟩,?_⟩
  rintro i m τ ys H ⟨rfl,hi,p⟩
  by_cases hlt:i < n
  · refine .inr ⟨hlt,Pv (i + 1),fun τ' ys' H' p'=>⟨n - (i + 1),by lia,rfl,hlt,p'⟩,fun x H' y=>?_⟩
    obtain ⟨e,y⟩:=y
    subst e y
    exact hs i τ ys _ hlt p
  · have e:i=n:=by lia
    subst e
    exact .inl ⟨Nat.le_refl _,hd τ ys H p⟩
end
end L2
namespace L2
open PySem PySem.Spec PyProof.Rows Builtin Builtin.Str
section
variable {X:Cx} {tg:Expr}
theorem ZZ:OpR X (binaryOp .Mult) (fun x y H Q=>∃ z n,x=.str z/\y=.int n/\MulOk z n/\Q (.str (Txt.mul z n)) H):=by
  intro pins s σ H x y v u Q I rx ry h
  obtain ⟨z,n,rfl,rfl,ok,q⟩:=h
  obtain ⟨t,rfl⟩:=rx
  obtain ⟨t',rfl⟩:=ry
  exact SB.mul ok fun t'' k=>⟨.str (Txt.mul z n),H,I.tok k,⟨t'',rfl⟩,q⟩
theorem jg (bs:List Bool):(List.range bs.length).all (fun i=>bs.getD i false)=bs.all id:=by
  induction bs with
  | nil=>rfl
  | cons b r ih =>
    rw [List.length_cons,List.range_succ_eq_map,List.all_cons,List.all_map,List.all_cons]
    have e:(List.range r.length).all ((fun i=>(b :: r).getD i false) ∘ Nat.succ)=(List.range r.length).all fun i=>r.getD i false:=by
      congr 1
    rw [e,ih]
    rfl
theorem vh (hc:X.calm=true):yI X (.builtin "all") (fun xs H Q=>∃ (p:Addr) (bs:List Bool),xs=[.ref p]/\SqL X.K H p (bs.map V.bl)/\Q (.bl (bs.all id)) H):=by
  intro pins s σ H xs us Q I r h
  obtain ⟨p,bs,rfl,hq,q⟩:=h
  obtain ⟨u,rfl,rx⟩:=xj r
  cases rx
  obtain ⟨its,rv,pl,hz⟩:=I.list hq
  have hh:X.A.handled=none:=I.ok.hd hc
  have hlen:its.toArray.size=bs.length:=by rw [List.size_toArray,<- rv.length,List.length_map]
  have hne:p≠s.heap.objs.size:=by
    obtain ⟨o,n,e,_⟩:=pl
    exact Nat.ne_of_lt (Heap.lt_size e)
  refine call_all_walk (wpAny_pyIter_list pl.isList ?_)
  refine ⟨s.heap.objs.size,_,_,_,_,_,fun i=>bs.getD i false,rfl,Walks.list (A:=X.A.in1) hh _ p hne its.toArray,⟨⟨_,Heap.get?_push_size _ rfl,rfl,rfl⟩,pl.isList.at fun o e=>Heap.get?_push_of_some _ e⟩,fun i v s1 Q1 E1 hv hQ=>?_,fun h' tk kk=>?_⟩
  · have hi:i < bs.length:=by
      obtain ⟨hi,_⟩:=Array.getElem?_eq_some_iff.mp hv
      rw [hlen] at hi
      exact hi
    have hb:(bs.map V.bl)[i]?=some (V.bl (bs.getD i false)):=by
      rw [List.getElem?_map,List.getElem?_eq_getElem hi]
      simp [List.getD,List.getElem?_eq_getElem hi]
    obtain ⟨u',hu,ru⟩:=rv.get hb
    have e:its.toArray[i]?=some u':=by simpa using hu
    have hv':its.toArray[i]?=some v:=hv
    rw [hv'] at e
    cases e
    cases ru
    exact wpAny_truthy_bool hQ
  · rw [hlen,jg]
    have I1:Inv X pins σ H { s with heap:=s.heap.push { cls:=.type "list_iterator",data:=.fields #[.ref p,.int 0 0] } }:=I.kept (t':=s.toks) fun b o e=>Heap.get?_push_of_some _ e
    have f:=I.fpOk (H':=H) (Nat.le_refl _) I.fresh
    exact ⟨.bl (bs.all id),H,I1.turned (it:=s.heap.objs.size) (fun b o hb e=>kk b o (by simpa using hb) e) f.1 f.2.1 f.2.2.2.1 f.2.2.2.2.1 f.2.2.2.2.2,rfl,q⟩
end
end L2
namespace L2
open PySem PySem.Spec PyProof.Rows
def zt:Expr->Bool
  | .Starred ..=>true
  | _=>false
theorem zy {e:Expr} {es:List Expr} {env:Env} (h:zt e=false):starEach (e :: es) env=(false,eval e env) :: starEach es env:=by
  cases e <;> first
    | rfl
    | exact absurd (show true=false from h) (by decide)
theorem yk {env:Env} {pos:Pos}:∀ {es:List Expr},es.all (fun e=>!zt e)=true->(backTo pos (starEach es env)).any (·.1)=false
  | [],_=>rfl
  | e :: es,h=>by
    rw [List.all_cons,Bool.and_eq_true] at h
    have h1:zt e=false:=by simpa using h.1
    rw [zy h1]
    show (false || (backTo pos (starEach es env)).any (·.1))=false
    rw [yk h.2]
    rfl
section
variable {X:Cx} {CX:CXT} {k:Nat} {f C:Addr} {fd:FuncData} {ps:List Str} {sp:Sp} {dvs:List V} {ds:List Value} {E:XK} {x m:Str} {p pos apos:Pos} {e o:Expr} {es:List Expr} {te ta:TE} {t:TA} {id T:String} {r:List V->Hp->VK->Prop}
theorem pa_c (ha:PE X e te) (hr:PA X es t) (h:zt e=false:=by rfl):PA X (e :: es) (zH te t):=Jz ha hr (zy h)
theorem zbF (F:FnOk X.prog X.w X.K X.mg X.base CX k f fd ps sp) (hr:Room k X.A) (hg:Gl X x) (hm:X.mg x=some (.ref f)) (hk:PySem.W.keepIn X.K (.ref f)=true) (hb:Binds X.K fd ps ds) (hd:Vals dvs ds) (hx:yO CX X E)
    (ha:PA X (e :: es) t) (hdb:(x == ("__debug__":Str))=false:=by decide) (h1:zt e=false:=by rfl) (h2:es.all (fun e=>!zt e)=true:=by rfl) :
    PE X (.Call (.Name x p) (e :: es) [] pos) (Zc sp dvs E t):=JA F hr hg hm hk hb hd hx ha hdb (zy h1) (yk h2)
theorem zaQ (hc:yI X (.builtin id) r) (hg:Gl X x) (hm:X.mg x=none) (hv:bootBuiltins x=some (.builtin id)) (ha:PA X (e :: es) t) (hn:x≠"__name__":=by decide) (hdb:(x == ("__debug__":Str))=false:=by decide)
    (h1:zt e=false:=by rfl) (h2:es.all (fun e=>!zt e)=true:=by rfl):PE X (.Call (.Name x p) (e :: es) [] pos) (tCB r t):=Wt hc hg hm hv ha hn hdb (zy h1) (yk h2)
theorem JM (hc:yI X (.type T) r) (hg:Gl X x) (hm:X.mg x=none) (hv:bootBuiltins x=some (.type T)) (ha:PA X (e :: es) t) (hn:x≠"__name__":=by decide) (hdb:(x == ("__debug__":Str))=false:=by decide)
    (h1:zt e=false:=by rfl) (h2:es.all (fun e=>!zt e)=true:=by rfl):PE X (.Call (.Name x p) (e :: es) [] pos) (tCB r t):=Xw hc hg hm hv ha hn hdb (zy h1) (yk h2)
end
structure jE (X:Cx) (e:Expr) (t:TE):Prop where
  out:PE X e t
structure jT (X:Cx) (e:Expr) (t:TT):Prop where
  out:PT X e t
structure jW (X:Cx) (e:Expr) (t:TT):Prop where
  out:PW X e t
structure jA (X:Cx) (es:List Expr) (t:TA):Prop where
  out:PA X es t
structure jS (X:Cx) (st:Stmt) (t:TS):Prop where
  out:PS X st t
structure jSs (X:Cx) (sts:List Stmt) (t:TS):Prop where
  out:PSs X sts t
structure jG (X:Cx) (tg:Expr) (t:TG):Prop where
  out:PG X tg t
structure jGs (X:Cx) (tg:List Expr) (t:TGs):Prop where
  out:PGs X tg t
structure jI (X:Cx) (tg iter:Expr) (t:TI):Prop where
  out:PI X tg iter t
structure jO (X:Cx) (e:Option Expr) (t:TO):Prop where
  out:PO X e t
structure jTs (X:Cx) (ifs:List Expr) (t:TT):Prop where
  out:PTs X ifs t
structure jOp (X:Cx) (f:Value->Value->Sem Value) (r:R2):Prop where
  out:OpR X f r
structure jIx (X:Cx) (r:R2):Prop where
  out:IxR X r
structure jSl (X:Cx) (r:V->Option Int->Option Int->Hp->VK->Prop):Prop where
  out:SlR X r
structure jMt (X:Cx) (id:String) (r:V->List V->Hp->VK->Prop):Prop where
  out:MtR X id r
structure jCa (X:Cx) (f:Value) (r:List V->Hp->VK->Prop):Prop where
  out:yI X f r
section
variable {X:Cx} {a b c e o:Expr} {es rest:List Expr} {ta tb tc te to:TE} {t u:TA} {tA tB':TT} {pos p p2 apos cpos px:Pos} {x y m:Str} {op op':CmpOp} {bop:Operator} {r r':R2}
theorem jv (i:Nat) (hN:X.N[i]?=some x:=by rfl) (hv:Vis X.env.scope x:=by first | exact Or.inl rfl | exact Or.inr (Or.inl rfl) | exact Or.inr (Or.inr rfl)) (hd:(x == ("__debug__":Str))=false:=by decide)
    (hcd:(x == ("__classdict__":Str))=false:=by decide):jE X (.Name x pos) (tVar i):=⟨pv i hN hv hd hcd⟩
theorem zj {i j}:jE X (.Constant (.int i) j pos) (tC (.int i)):=⟨zaj⟩
theorem yw {b j}:jE X (.Constant (.bool b) j pos) (tC (.bl b)):=⟨zbt⟩
theorem zq {x j}:jE X (.Constant (.str x) j pos) (tC (.str x)):=⟨zak⟩
theorem JN {v:V} {w:Value} (hg:Gl X x) (hm:X.mg x=some w) (r:RelV v w) (hd:(x == ("__debug__":Str))=false:=by decide):jE X (.Name x pos) (tC v):=⟨Jm hg hm r hd⟩
theorem zu (ho:jOp X (binaryOp bop) r) (ha:jE X a ta) (hb:jE X b tb):jE X (.BinOp a bop b pos) (tOp r ta tb):=⟨zbw ho.out ha.out hb.out⟩
theorem wD (ha:jE X a ta):jE X (.UnaryOp .USub a pos) (tUn (rU fun i=>.int (-i)) ta):=⟨QK zaB ha.out⟩
theorem z0 (ho:jOp X (compareOp op) r) (ha:jE X a ta) (hb:jE X b tb) (hm:behindInMarks op b=false):jE X (.Compare a [op] [b] pos) (tOp r ta tb):=⟨Ju ho.out ha.out hb.out hm⟩
theorem yY (ho:jOp X (compareOp op) r) (ha:jE X a ta) (hb:jE X b tb) (hm:behindInMarks op b=false):jT X (.Compare a [op] [b] pos) (Yy (tOp r ta tb)):=⟨Jv ho.out ha.out hb.out hm⟩
theorem zS (h:jE X e te) (he:∀ whole,isTrue e X.env whole=(do let v <- whole; standAt e.pos; holding [v] (truthy v)):=by intro _; rfl):jT X e (tB te):=⟨zal h.out he⟩
theorem wg (ha:jT X a tA):jW X (.BoolOp .And [a] pos) tA:=⟨pw_and1 ha.out⟩
theorem yP (ha:jT X a tA):jW X (.BoolOp .Or [a] pos) tA:=⟨pw_or1 ha.out⟩
theorem wE (ha:jT X a tA) (hb:jW X (.BoolOp .And (b :: rest) pos) tB'):jW X (.BoolOp .And (a :: b :: rest) pos) (tAnd tA tB'):=⟨pw_and ha.out hb.out⟩
theorem xK (ha:jT X a tA) (hb:jW X (.BoolOp .Or (b :: rest) pos) tB'):jW X (.BoolOp .Or (a :: b :: rest) pos) (tOr tA tB'):=⟨pw_or ha.out hb.out⟩
theorem jW.pt (h:jW X e tA):jT X e tA:=⟨PW.pt h.out⟩
theorem xQ (ha:jT X a tA):jT X (.UnaryOp .Not a pos) (tNot tA):=⟨zam ha.out⟩
theorem xR {op} (h:jE X a te):jE X (.BoolOp op [a] pos) te:=⟨zan h.out⟩
theorem Z0 (ha:jE X a ta) (hb:jE X (.BoolOp .And (b :: rest) pos) tb):jE X (.BoolOp .And (a :: b :: rest) pos) (QG ta tb):=⟨zao ha.out hb.out⟩
theorem YG (ha:jE X a ta) (hb:jE X (.BoolOp .Or (b :: rest) pos) tb):jE X (.BoolOp .Or (a :: b :: rest) pos) (tOrV ta tb):=⟨zbu ha.out hb.out⟩
theorem WH (hc:jT X c tA) (ha:jE X a ta) (hb:jE X b tb):jE X (.IfExp c a b pos) (tIf tA ta tb):=⟨Wi hc.out ha.out hb.out⟩
theorem zE:jA X [] tNil:=⟨zaF⟩
theorem ja_c (ha:jE X e te) (hr:jA X es t) (h:zt e=false:=by rfl):jA X (e :: es) (zH te t):=⟨pa_c ha.out hr.out h⟩
theorem zB (h:jA X es t):jE X (.List es pos) (tLst t):=⟨zaH h.out⟩
theorem zv {x1} (h:jA X es t):jE X (.Tuple es x1 pos) (tTup t):=⟨zaG h.out⟩
theorem yx (hr:jIx X r) (ha:jE X a ta) (hb:jE X b tb) (hs:ju b):jE X (.Subscript a b pos) (tOp r ta tb):=⟨zbD hr.out ha.out hb.out hs⟩
theorem wW:jO X none YB:=⟨JC⟩
theorem wX (h:jE X e te):jO X (some e) (QN te):=⟨JD h.out⟩
theorem wj {r:V->Option Int->Option Int->Hp->VK->Prop} {lo hi:Option Expr} {tl th:TO} (hr:jSl X r) (he:jE X e te) (hl:jO X lo tl) (hu:jO X hi th):jE X (.Subscript e (.Slice lo hi none p2) pos) (tSl r te tl th):=⟨Wv hr.out he.out hl.out hu.out⟩
variable {CX:CXT} {k:Nat} {f C:Addr} {fd:FuncData} {ps:List Str} {sp:Sp} {dvs:List V} {ds:List Value} {E:XK} {id T:String} {rc:List V->Hp->VK->Prop} {rm:V->List V->Hp->VK->Prop}
theorem zbG (F:FnOk X.prog X.w X.K X.mg X.base CX k f fd ps sp) (hr:Room k X.A) (hg:Gl X x) (hm:X.mg x=some (.ref f)) (hk:PySem.W.keepIn X.K (.ref f)=true) (hb:Binds X.K fd ps ds) (hd:Vals dvs ds) (hx:yO CX X E)
    (ha:jA X (e :: es) t) (hdb:(x == ("__debug__":Str))=false:=by decide) (h1:zt e=false:=by rfl) (h2:es.all (fun e=>!zt e)=true:=by rfl) :
    jE X (.Call (.Name x p) (e :: es) [] pos) (Zc sp dvs E t):=⟨zbF F hr hg hm hk hb hd hx ha.out hdb h1 h2⟩
theorem yQ (hc:jCa X (.builtin id) rc) (hg:Gl X x) (hm:X.mg x=none) (hv:bootBuiltins x=some (.builtin id)) (ha:jA X (e :: es) t) (hn:x≠"__name__":=by decide) (hdb:(x == ("__debug__":Str))=false:=by decide)
    (h1:zt e=false:=by rfl) (h2:es.all (fun e=>!zt e)=true:=by rfl):jE X (.Call (.Name x p) (e :: es) [] pos) (tCB rc t):=⟨zaQ hc.out hg hm hv ha.out hn hdb h1 h2⟩
theorem zF (hc:jCa X (.type T) rc) (hg:Gl X x) (hm:X.mg x=none) (hv:bootBuiltins x=some (.type T)) (ha:jA X (e :: es) t) (hn:x≠"__name__":=by decide) (hdb:(x == ("__debug__":Str))=false:=by decide)
    (h1:zt e=false:=by rfl) (h2:es.all (fun e=>!zt e)=true:=by rfl):jE X (.Call (.Name x p) (e :: es) [] pos) (tCB rc t):=⟨JM hc.out hg hm hv ha.out hn hdb h1 h2⟩
theorem jB {name:Str} (pa:PlainAttrs T) (slot:Slot T name id) (hty:typeOf (.builtin id)=pure (.type "method_descriptor")) (hm:jMt X id rm) (ho:jE X o to)
    (hbase:attributeBase o name X.env (eval o X.env)=eval o X.env:=by rfl) (hline:(apos.endLine == cpos.line)=true:=by rfl):jE X (.Call (.Attribute o name apos) [] [] cpos) (tBM0 X.K T rm to):=⟨zaN pa slot hty hm.out ho.out hbase hline⟩
theorem yA {name:Str} (pa:PlainAttrs T) (slot:Slot T name id) (hty:typeOf (.builtin id)=pure (.type "method_descriptor")) (hm:jMt X id rm) (ho:jE X o to) (ha:jA X (e :: es) t)
    (hbase:attributeBase o name X.env (eval o X.env)=eval o X.env:=by rfl)
    (hfew:((backTo cpos (starEach (e :: es) X.env)).all (fun x=>!x.1) && (backToKw cpos (keywordEach [] X.env)).all (fun x=>x.1.isSome)
      && decide ((e :: es).length + ([]:List Keyword).length + (if ([]:List Keyword).isEmpty then 0 else 1) < 30))=true:=by rfl)
    (hline:(apos.endLine == cpos.line)=true:=by rfl) (h1:zt e=false:=by rfl) (h2:es.all (fun e=>!zt e)=true:=by rfl) :
    jE X (.Call (.Attribute o name apos) (e :: es) [] cpos) (tBM X.K T rm to t):=⟨zbE pa slot hty hm.out ho.out ha.out hbase hfew hline (zy h1) (yk h2)⟩
variable {st:Stmt} {sts:List Stmt} {s1 s2:TS} {tg iter elt:Expr} {g:TG} {wi:TI} {tb1:TS} {ifs:List Expr} {tt:TT}
theorem zr:jSs X [] v0:=⟨Jn⟩
theorem zg (h1:jS X st s1) (h2:jSs X sts s2):jSs X (st :: sts) (tSeq s1 s2):=⟨Wj h1.out h2.out⟩
theorem zi (h1:jS X st s1):jSs X [st] s1:=⟨Jo h1.out⟩
theorem yf (he:jE X e te) (hs:swapsWith e none pos.line X.env=pure false:=by rfl):jS X (.Expr e pos) (QH te):=⟨Jp he.out hs⟩
theorem zp (he:jE X e te):jS X (.Return (some e) pos) (tRet te):=⟨zap he.out⟩
theorem zx {A B:List Stmt} (hc:jT X c tA) (ha:jSs X A s1) (hb:jSs X B s2):jS X (.If c A B pos) (tIfS tA s1 s2):=⟨zbv hc.out ha.out hb.out⟩
theorem zaR {i:Nat} {pos':Pos} (hN:X.N.Nodup) (hi:X.N[i]?=some x) (hx:Loc X.env.scope x) (he:jE X e te) (hs:swapsWith e (some (.Name x pos')) pos.line X.env=pure false:=by rfl)
    (hf:X.fn x=true\/X.env.scope.names.lookup x=some .local:=by first | exact .inl rfl | exact .inr rfl | assumption):jS X (.Assign [.Name x pos'] e pos) (tAsg te (ve i)):=⟨zat hN hi hx he.out hs hf⟩
theorem vi (he:jE X e te) (hg:jG X tg g) (hs:swapsWithSole [tg] e pos.line X.env=pure false:=by rfl) (hw:swappedStores [tg] e X.env=pure none:=by rfl) (h1:(assignEach [tg] X.env).map (·.2)=[assign tg X.env]:=by rfl):jS X (.Assign [tg] e pos) (tAsg te g):=⟨zas he.out hg.out hs hw h1⟩
theorem JO {i:Nat} (hN:X.N.Nodup) (hi:X.N[i]?=some x) (hx:Loc X.env.scope x) (hf:X.fn x=true\/X.env.scope.names.lookup x=some .local:=by first | exact .inl rfl | exact .inr rfl | assumption):jG X (.Name x pos) (ve i):=⟨Jq hN hi hx hf⟩
theorem z6:jGs X [] gNil:=⟨Jr⟩
theorem zw {g:TG} {gs:TGs} (h1:jG X e g) (h2:jGs X es gs) (hs:(assignEach (e :: es) X.env).map (·.2)=assign e X.env :: (assignEach es X.env).map (·.2):=by rfl):jGs X (e :: es) (QI g gs):=⟨Wk h1.out h2.out hs⟩
theorem xm {k:Nat} {gs:TGs} {n:Nat} (hc:X.calm=true) (h:jGs X es gs) (hn:(assignEach es X.env).length=n:=by rfl) (hst:(assignEach es X.env).findIdx? (·.1)=none:=by rfl):jG X (.Tuple es k pos) (gTup X.K n gs):=⟨zaq hc h.out hn hst⟩
theorem zP {l:Expr} {tl:TE} (hl:jE X l tl):jI X tg l (Wn X.K tl):=⟨Js hl.out⟩
theorem yr {l:Expr} {tl:TE} (hl:jE X l tl):jI X tg l (iTup X.K tl):=⟨zau hl.out⟩
theorem yg (hg:Gl X "range") (hm:X.mg "range"=none) (ha:jA X [a] t) (h:zt a=false:=by rfl):jI X tg (.Call (.Name "range" p) [a] [] pos) (QJ t):=⟨Xq hg hm ha.out (zy h)⟩
theorem zU (hp:PassesOwn (model X.prog X.w) X.A X.env X.xe) (hc:X.calm=true) (hi:jI X tg iter wi) (hg:jG X tg g) (hb:jSs X sts tb1) (hs:∀ x,foldedSetIterable iter X.env x=pure x:=by intro _; rfl):jS X (.For tg iter sts [] pos) (tFor wi g tb1):=⟨zav hp hc hi.out hg.out hb.out hs⟩
theorem vj (hp:PassesOwn (model X.prog X.w) X.A X.env X.xe) (hc:jT X c tA) (hb:jSs X sts tb1):jS X (.While c sts [] pos) (Wl tA tb1):=⟨Wm hp hc.out hb.out⟩
theorem zV:jTs X [] tYes:=⟨JI⟩
theorem ya (h:jT X c tA):jTs X [c] tA:=⟨JJ h.out⟩
theorem zW {scope:Scope} (M:List Str) (hc:X.calm=true) (hi:jI X tg iter wi) (hg:∀ C s H ex E,jG (cxLC X scope (clOf scope X.env) M C s H ex E) tg g) (ht:∀ C s H ex E,jTs (cxLC X scope (clOf scope X.env) M C s H ex E) ifs tt)
    (he:∀ C s H ex E,jE (cxLC X scope (clOf scope X.env) M C s H ex E) elt te) (hs:∀ x,foldedSetIterable iter X.env x=pure x:=by intro _; rfl)
    (h1:closureFor scope X.env=pure (clOf scope X.env):=by with_unfolding_all rfl) (h2:scope.kind=.function:=by rfl) (h3:scope.names.all (fun y=>y.2 != .cell)=true:=by rfl) (h4:scope.names.all (fun y=>y.2 != .local || scope.names.lookup y.1 == some .local)=true:=by rfl)
    (h5:X.N.all (fun y=>scope.names.lookup y != some .local)=true:=by rfl) (h6:scope.names.all (fun p=>p.2 != .free || (((clOf scope X.env).lookup p.1).isSome && (X.env.kindOf p.1 == some .cell || X.env.kindOf p.1 == some .free)))=true:=by rfl) :
    jE X (.ListComp elt [⟨tg,iter,ifs,0⟩] scope pos) (tLC wi g tt te M.length):=⟨JK M hc hi.out (fun C s H ex E=>(hg C s H ex E).out) (fun C s H ex E=>(ht C s H ex E).out) (fun C s H ex E=>(he C s H ex E).out) hs h1 h2 h3 h4 h5 h6⟩
theorem yC {scope:Scope} (M:List Str) {i:Nat} {py spos:Pos} (hN:X.N.Nodup) (hi':X.N[i]?=some y) (hy:Loc X.env.scope y) (hc:X.calm=true) (hi:jI X tg iter wi) (hg:∀ C s H ex E,jG (cxLC X scope (clOf scope X.env) M C s H ex E) tg g)
    (ht:∀ C s H ex E,jTs (cxLC X scope (clOf scope X.env) M C s H ex E) ifs tt) (he:∀ C s H ex E,jE (cxLC X scope (clOf scope X.env) M C s H ex E) elt te) (hs:∀ x,foldedSetIterable iter X.env x=pure x:=by intro _; rfl)
    (hsw:swapsWith (.ListComp elt [⟨tg,iter,ifs,0⟩] scope pos) (some (.Name y py)) spos.line X.env=pure true:=by rfl)
    (hf:X.fn y=true\/X.env.scope.names.lookup y=some .local:=by first | exact .inl rfl | exact .inr rfl | assumption)
    (h1:closureFor scope X.env=pure (clOf scope X.env):=by with_unfolding_all rfl) (h2:scope.kind=.function:=by rfl) (h3:scope.names.all (fun y=>y.2 != .cell)=true:=by rfl) (h4:scope.names.all (fun y=>y.2 != .local || scope.names.lookup y.1 == some .local)=true:=by rfl)
    (h5:X.N.all (fun y=>scope.names.lookup y != some .local)=true:=by rfl) (h6:scope.names.all (fun p=>p.2 != .free || (((clOf scope X.env).lookup p.1).isSome && (X.env.kindOf p.1 == some .cell || X.env.kindOf p.1 == some .free)))=true:=by rfl) :
    jS X (.Assign [.Name y py] (.ListComp elt [⟨tg,iter,ifs,0⟩] scope pos) spos) (fun D σ H=>tLC wi g tt te M.length σ H fun v H1=>D.nx (σ.set i (some v)) H1) :=
  ⟨JL M hN hi' hy hc hi.out (fun C s H ex E=>(hg C s H ex E).out) (fun C s H ex E=>(ht C s H ex E).out) (fun C s H ex E=>(he C s H ex E).out) hs hsw hf h1 h2 h3 h4 h5 h6⟩
theorem wm {scope:Scope} (S:List Nat) (M:List Str) (hc:X.calm=true) (hi:jI X tg iter wi) (hg:∀ C s H ex E,jG (cxLC X scope (clOf scope X.env) M C s H ex E) tg g) (ht:∀ C s H ex E,jTs (cxLC X scope (clOf scope X.env) M C s H ex E) ifs tt)
    (he:∀ C s H ex E,jE (cxLC X scope (clOf scope X.env) M C s H ex E) elt te) (hs:∀ x,foldedSetIterable iter X.env x=pure x:=by intro _; rfl)
    (h1:closureFor scope X.env=pure (clOf scope X.env):=by with_unfolding_all rfl) (h2:scope.kind=.function:=by rfl) (h3:scope.names.all (fun y=>y.2 != .cell)=true:=by rfl) (h4:scope.names.all (fun y=>y.2 != .local || scope.names.lookup y.1 == some .local)=true:=by rfl)
    (h5:X.N.zipIdx.all (fun y=>S.contains y.2 || scope.names.lookup y.1 != some .local)=true:=by rfl) (h6:scope.names.all (fun p=>p.2 != .free || (((clOf scope X.env).lookup p.1).isSome && (X.env.kindOf p.1 == some .cell || X.env.kindOf p.1 == some .free)))=true:=by rfl) :
    jE X (.ListComp elt [⟨tg,iter,ifs,0⟩] scope pos) (tLCS S wi g tt te M.length):=⟨WF S M hc hi.out (fun C s H ex E=>(hg C s H ex E).out) (fun C s H ex E=>(ht C s H ex E).out) (fun C s H ex E=>(he C s H ex E).out) hs h1 h2 h3 h4 h5 h6⟩
theorem WJ {scope:Scope} (S:List Nat) (M:List Str) {i:Nat} {py spos:Pos} (hN:X.N.Nodup) (hi':X.N[i]?=some y) (hy:Loc X.env.scope y) (hc:X.calm=true) (hi:jI X tg iter wi) (hg:∀ C s H ex E,jG (cxLC X scope (clOf scope X.env) M C s H ex E) tg g)
    (ht:∀ C s H ex E,jTs (cxLC X scope (clOf scope X.env) M C s H ex E) ifs tt) (he:∀ C s H ex E,jE (cxLC X scope (clOf scope X.env) M C s H ex E) elt te) (hs:∀ x,foldedSetIterable iter X.env x=pure x:=by intro _; rfl)
    (hsw:swapsWith (.ListComp elt [⟨tg,iter,ifs,0⟩] scope pos) (some (.Name y py)) spos.line X.env=pure true:=by rfl)
    (hf:X.fn y=true\/X.env.scope.names.lookup y=some .local:=by first | exact .inl rfl | exact .inr rfl | assumption)
    (h1:closureFor scope X.env=pure (clOf scope X.env):=by with_unfolding_all rfl) (h2:scope.kind=.function:=by rfl) (h3:scope.names.all (fun y=>y.2 != .cell)=true:=by rfl) (h4:scope.names.all (fun y=>y.2 != .local || scope.names.lookup y.1 == some .local)=true:=by rfl)
    (h5:X.N.zipIdx.all (fun y=>S.contains y.2 || scope.names.lookup y.1 != some .local)=true:=by rfl) (h6:scope.names.all (fun p=>p.2 != .free || (((clOf scope X.env).lookup p.1).isSome && (X.env.kindOf p.1 == some .cell || X.env.kindOf p.1 == some .free)))=true:=by rfl) :
    jS X (.Assign [.Name y py] (.ListComp elt [⟨tg,iter,ifs,0⟩] scope pos) spos) (fun D σ H=>tLCS S wi g tt te M.length σ H fun v H1=>D.nx (σ.set i (some v)) H1) :=
  ⟨WG S M hN hi' hy hc hi.out (fun C s H ex E=>(hg C s H ex E).out) (fun C s H ex E=>(ht C s H ex E).out) (fun C s H ex E=>(he C s H ex E).out) hs hsw hf h1 h2 h3 h4 h5 h6⟩
theorem zM:jOp X (binaryOp .Add) (rI0 fun i j=>.int (i + j)):=⟨zaw⟩
theorem yz:jOp X (binaryOp .Sub) (rI0 fun i j=>.int (i - j)):=⟨zax⟩
theorem Z1:jOp X (binaryOp .Mult) (rI CMul fun i j=>.int (i * j)):=⟨zay⟩
theorem yD:jOp X (binaryOp .FloorDiv) (rI CDiv fun i j=>.int (i / j)):=⟨Jt⟩
theorem xn:jOp X (binaryOp .Mod) (rI (fun _ j=>0 < j) fun i j=>.int (i % j)):=⟨zaz⟩
theorem zA:jOp X (compareOp .Eq) rEq:=⟨zby⟩
theorem vk:jOp X (compareOp .NotEq) rNe:=⟨zbz⟩
theorem vm:jOp X (compareOp .Lt) (rI0 fun i j=>.bl (decide (i < j))):=⟨zbA⟩
theorem WK:jOp X (compareOp .LtE) (rI0 fun i j=>.bl (decide (i<=j))):=⟨zbB⟩
theorem jh:jOp X (compareOp .Gt) (rI0 fun i j=>.bl (decide (j < i))):=⟨zbC⟩
theorem xA:jOp X (compareOp .In) (rIn X.K false):=⟨Xx⟩
theorem yE:jOp X (compareOp .NotIn) (rIn X.K true):=⟨jx⟩
theorem yo:jOp X (binaryOp .Add) (fun x y H Q=>∃ i j,x=.str i/\y=.str j/\i.length + j.length<=sizeLine/\Q (.str (i ++ j)) H):=⟨ZO⟩
theorem vo:jOp X (binaryOp .Mult) (fun x y H Q=>∃ z n,x=.str z/\y=.int n/\MulOk z n/\Q (.str (Txt.mul z n)) H):=⟨ZZ⟩
theorem zZ:jOp X (binaryOp .Add) rCat:=⟨zaP⟩
theorem JP:jOp X (binaryOp .Add) (QO X.K):=⟨JE⟩
theorem zX:jIx X (rIxL X.K):=⟨JF⟩
theorem wF:jIx X (rIxT X.K):=⟨zaK⟩
theorem Z2:jIx X rIxS:=⟨zaL⟩
theorem jC:jSl X (rSlL X.K):=⟨JG⟩
theorem zaS:jSl X (rSlT X.K):=⟨zaJ⟩
theorem zQ:jMt X "list.append" YD:=⟨Xy⟩
theorem jD:jMt X "list.pop" rPop:=⟨zaO⟩
theorem vq:jCa X (.builtin "len") (fun xs H Q=>∃ p ys,xs=[.ref p]/\(SqL X.K H p ys\/SqT X.K H p ys)/\Q (.int ys.length) H):=⟨jy⟩
theorem yF (hc:X.calm=true):jCa X (.builtin "all") (fun xs H Q=>∃ (p:Addr) (bs:List Bool),xs=[.ref p]/\SqL X.K H p (bs.map V.bl)/\Q (.bl (bs.all _root_.id)) H):=⟨vh hc⟩
theorem Z4:jCa X (.type "str") (fun xs H Q=>∃ i,xs=[.int i]/\i.natAbs.log2 < 1920/\Q (.str (toString i)) H):=⟨jr⟩
theorem zC:jCa X (.type "tuple") (fun xs H Q=>∃ p ys,xs=[.ref p]/\((SqL X.K H p ys/\∀ l,H l=none->Q (.ref l) (upd H l (.tup ys)))\/(SqT X.K H p ys/\Q (.ref p) H))):=⟨vT⟩
theorem yt:jCa X (.type "list") (fun xs H Q=>∃ p ys,xs=[.ref p]/\(SqL X.K H p ys\/SqT X.K H p ys)/\∀ l,H l=none->Q (.ref l) (upd H l (.lst ys))):=⟨jz⟩
end
section
variable {P:Program} {w:World} {K:PySem.W.Frag} {mg:Str->Option Value} {base:Heap}
theorem Fun.by {x qual:Str} {st:Stmt} {f:Addr} {fd:FuncData} {N ps:List Str} {k:Nat} {sp:Sp} (F:Fun K x qual st f fd) (S:FnScope N ps (zo st)) (len:∀ vs H Q E,sp vs H Q E->vs.length=ps.length)
    (hbody:∀ (cdv:Value) (A:Around) (outer:List Env) (s:Shared) (H:Hp) (vs:List V) (Q:VK) (E:XK),Room k (A.deeper (envOfC qual (zo st) s.heap.objs.size f cdv))->sp vs H Q E ->
      ∃ t,jSs (cxOf CX0 P w K mg base N qual (zo st) f cdv A outer s H E).nox (zJ st) t/\t { nx:=fun _ H'=>Q .non H',rt:=Q } (yL N vs) H):FnOk P w K mg base CX0 (k + 1) f fd ps sp :=
  F.ok S len fun cdv A outer s H vs Q E hr h=>let ⟨t,b,q⟩:=hbody cdv A outer s H vs Q E hr h; ⟨t,b.out,q⟩
end
end L2
namespace L2
open PySem
section
variable {M:Model} {A:Around} {E:Value->Shared->Prop} {s:Shared} {base:Heap} {env:Env} {outer:List Env} {L e T:Addr} {C:Value} {dx:Option Addr} {Q:Unit->Shared->Prop}
end
end L2
namespace L2
open PySem PySem.Spec PyProof.Rows
section
variable {P:Program} {w:World} {K:PySem.W.Frag} {mg:Str->Option Value} {base:Heap} {N:List Str} {qual:Str} {scope:Scope} {f:Addr} {cd:Value} {A:Around} {outer:List Env} {s:Shared} {H:Hp} {E:XK}
end
end L2
namespace L2
open PySem
section
variable {M:Model} {A:Around} {E:Value->Shared->Prop} {env:Env} {nm q:Str} {C N:Addr} {bs bm:List Value} {hdct:Bool} {sn:List Str} {sub:List Value} {ab:Bool} {col:Option Bool} {dd:Option Addr} {k0 k1 k2 k3 k5:Option Value} {newId:String}
end
section
variable {prog:Program} {w:World} {A:Around} {E:Value->Shared->Prop} {h:Heap} {g:Array GenState} {d:Drawn} {t:Nat} {os:OsState}
variable {nm q:Str} {C N f:Addr} {bs bm bmB:List Value} {hdct:Bool} {sn:List Str} {sub:List Value} {ab:Bool} {col:Option Bool} {dd:Option Addr} {k0 k1 k2 k3 k5:Option Value} {B Bn newId nid initId inN:String} {bmN:List Value}
end
end L2
namespace L2
open PySem PySem.W PySem.Calls PyProof.Rows Builtin Builtin.ObjectAttr
def bmV:List Value:=[.type "ValueError",.type "Exception",.type "BaseException",.type "object"]
def zbH:List Value->Bool
  | []=>false
  | v :: r=>(v :: r) == bmV || (match v with
    | .ref _=>zbH r
    | _=>false)
section
variable {prog:Program} {w:World} {A:Around} {E:Value->Shared->Prop} {K:Frag} {C e:Addr} {s:Shared} {ox:Obj} {od:Option Obj} {name:Str} {R:Result->Shared->Prop}
end
end L2
namespace L2
open PySem PySem.Spec PyProof.Rows
def drp (H:Hp) (e:Addr):Hp:=fun b=>if b=e then none else H b
section
variable {X:Cx} {k:Nat} {f C:Addr} {fd:FuncData} {ps:List Str} {sp:Sp} {E:XK} {x:Str} {np cpos pos:Pos} {a:Expr} {as:List Expr} {t:TA}
end
section
variable {X:Cx} {f C R:Addr} {x m:Str} {np apos pos pos':Pos} {a o e value:Expr} {as:List Expr} {t:TA} {ta tv te:TE}
end
section
variable {X:Cx} {pins:List (Addr × Obj)} {σ:St} {H:Hp} {s:Shared} {h':Heap} {xs:List Addr}
end
abbrev Ends.behind (D:Ends) (i:Nat):Ends:={ nx:=fun σ H=>D.nx (σ.set i none) H,rt:=D.rt,bk:=fun σ H=>D.bk (σ.set i none) H,ct:=fun σ H=>D.ct (σ.set i none) H }
section
variable {X:Cx} {Ch:Addr} {x n:Str} {i:Nat} {np hpos tpos:Pos} {b0:Stmt} {suite:List Stmt} {th:Addr->Obj->TS}
variable {k:Nat} {f:Addr} {fd:FuncData} {ps:List Str} {sp:Sp} {y:Str} {p cpos epos:Pos} {a:Expr} {as:List Expr} {t:TA}
end
section
variable {X:Cx} {pins:List (Addr × Obj)} {σ:St} {H:Hp} {s:Shared} {h':Heap}
theorem Inv.turns {t':Nat} {ch:List Addr} (I:Inv X pins σ H s) (k:∀ b o,b ∉ ch->s.heap.get? b=some o->h'.get? b=some o) (hf:∀ b∈ch,FpOk X pins H b):Inv X pins σ H { s with heap:=h',toks:=t' }:=by
  have nit:∀ b u,H b=some u->b ∉ ch:=fun b u e z=>by rw [(hf b z).1] at e; cases e
  refine I.call (g':=s.gens) (d':=s.drawn) (t':=t') (ch:=ch) ⟨fun b o q _ _ x=>k b o x q,fun b o q _ _ x=>⟨o.slots,k b o x q⟩,fun _ _ _ n _=>n,fun b o q x=>⟨o,k b o x q⟩,fun _ _ q=>q,fun _ _ _ q=>q,fun _ ps q=>⟨#[],by rw [q]; simp⟩⟩
    (fun b u e=>(I.hok b u e).stay (fun c v hc q=>k c v ?_ q) (fun _ q=>q) fun _ _ q=>q) I.bare fun b hb=>?_
  · rcases hc with z | z
    · rw [z]; exact nit b u e
    · exact nit c _ z
  · obtain ⟨f0,f1,f2,f3,f4,f5⟩:=hf b hb
    exact ⟨f3,f1,f4,f5⟩
theorem Inv.turnsLaid {t':Nat} {ch:List Addr} {a:Addr} {o:HO} (I:Inv X pins σ H s) (k:∀ b o,b ∉ ch->s.heap.get? b=some o->h'.get? b=some o) (hf:∀ b∈ch,FpOk X pins H b) (hp:s.heap.objs.size<=a) (new:ObjOk X.prog X.w (upd H a o) h' a o) :
    Inv X pins σ (upd H a o) { s with heap:=h',toks:=t' }:=by
  have hn:=I.hok.fresh hp
  have nit:∀ b u,H b=some u->b ∉ ch:=fun b u e z=>by rw [(hf b z).1] at e; cases e
  refine I.call (g':=s.gens) (d':=s.drawn) (t':=t') (ch:=ch) ⟨fun b o q _ _ x=>k b o x q,fun b o q _ _ x=>⟨o.slots,k b o x q⟩,fun b u q n _=>by rw [zk (Nat.ne_of_lt (Nat.lt_of_lt_of_le (Heap.lt_size q) hp))]; exact n,fun b o q x=>⟨o,k b o x q⟩,
      fun b xs q=>by rw [zk (zn q hn)]; exact q,fun b u xs q=>by rw [zk (zn q hn)]; exact q,fun b ps q=>⟨#[],by rw [zk (zn q hn),q]; simp⟩⟩
    (fun b u e=>?_) I.bare fun b hb=>?_
  · by_cases hb:b=a
    · subst hb
      rw [zf] at e
      cases e
      exact new
    · rw [zk hb] at e
      refine (I.hok b u e).stay (fun c v hc q=>k c v ?_ q) (fun c q=>by rw [zk (zn q hn)]; exact q) fun c xs q=>by rw [zk (zn q hn)]; exact q
      rcases hc with z | z
      · rw [z]; exact nit b u e
      · exact nit c _ z
  · obtain ⟨f0,f1,f2,f3,f4,f5⟩:=hf b hb
    exact ⟨f3,f1,f4,f5⟩
end
section
variable {X:Cx} {elts:List Expr} {k:Nat} {tpos:Pos}
end
end L2
namespace L2
open PySem PySem.Spec PyProof.Rows Builtin Builtin.Str
section
variable {X:Cx}
theorem wn:∀ {zs:List Str} {us:List Value},Vals (zs.map V.str) us->∃ l:List (Str × Tok),us=strValues l/\l.map (·.1)=zs
  | [],_,.nil=>⟨[],rfl,rfl⟩
  | z :: zs,_,.cons ⟨t,e⟩ r=>by
    obtain ⟨l,rfl,h⟩:=wn r
    exact ⟨(z,t) :: l,by rw [e]; rfl,by rw [List.map_cons,h]⟩
theorem Zg (sep:Str):∀ (zs:List Str) (a:Nat),zs.foldl (· + ·.length + sep.length) a=a + ((zs.map (·.length)).sum + zs.length * sep.length)
  | [],a=>by simp
  | z :: zs,a=>by
    rw [List.foldl_cons,Zg sep zs]
    simp only [List.map_cons,List.sum_cons,List.length_cons,Nat.add_mul,Nat.one_mul]
    lia
def wide (sep:Str) (zs:List Str):Nat:=(zs.map (·.length)).sum + zs.length * sep.length
def QS (K:PySem.W.Frag):V->List V->Hp->VK->Prop:=fun x vs H Q=>∃ sep p zs,x=.str sep/\vs=[.ref p]/\SqL K H p (zs.map V.str)/\wide sep zs<=sizeLine/\Q (.str (Str.join sep zs)) H
theorem JQ:MtR X "str.join" (QS X.K):=by
  intro pins s σ H x vs v us Q I rx rv h
  obtain ⟨sep,p,zs,rfl,rfl,hq,hw,q⟩:=h
  obtain ⟨t,rfl⟩:=rx
  obtain ⟨u,rfl,ru⟩:=rv.one
  cases ru
  obtain ⟨its,r,pl,hz⟩:=I.list hq
  obtain ⟨l,rfl,hl⟩:=wn r
  have big:tooLong ((l.map (·.1)).toArray.foldl (· + ·.length + sep.length) 0)=false:=by
    rw [hl,List.foldl_toArray,Zg]
    unfold tooLong
    rw [decide_eq_false_iff_not]
    unfold wide at hw
    lia
  have hg:=size_glued sep zs
  have hle:(glued sep zs).length<=sizeLine:=by
    rw [hg]
    unfold wide at hw
    have:(zs.length - 1) * sep.length<=zs.length * sep.length:=Nat.mul_le_mul_right _ (Nat.sub_le _ _)
    lia
  refine call_meets F.slot_str_join (typeIs_str _ _ _) F.entry_str_join (F.args_str_join_2 _ _) (meets_str_join_list sep t p l big) ⟨pl.isList,?_⟩
  rw [<- StrLaws.glued_eq_join] at q
  match l,hl with
  | [],hl=>exact ⟨by rw [hl]; exact hle,.str _,H,I.tok _,⟨_,rfl⟩,by rw [hl]; exact q⟩
  | [(z,tz)],hl =>
    have e:glued sep zs=z:=by
      rw [<- hl]
      rfl
    rw [e] at q
    exact ⟨.str z,H,I,⟨tz,rfl⟩,q⟩
  | a :: b :: r,hl=>exact ⟨by rw [hl]; exact hle,.str _,H,I.tok _,⟨_,rfl⟩,by rw [hl]; exact q⟩
theorem JR:jMt X "str.join" (QS X.K):=⟨JQ⟩
def rEqE (K:PySem.W.Frag) (neg:Bool):R2:=fun x y H Q=>∃ p p' xs,x=.ref p/\y=.ref p'/\SqL K H p xs/\SqL K H p' []/\Q (.bl (if neg then !xs.isEmpty else xs.isEmpty)) H
theorem zaT (hu:X.A.units < cLine):OpR X (compareOp .Eq) (rEqE X.K false):=by
  intro pins s σ H x y v u Q I rx ry h
  obtain ⟨p,p',xs,rfl,rfl,h1,h2,q⟩:=h
  cases rx
  cases ry
  obtain ⟨its,r,pl,_⟩:=I.list h1
  obtain ⟨its',r',pl',_⟩:=I.list h2
  cases r'
  cases r with
  | nil=>exact SeqAt.eq_listAt (e:=fun _=>true) pl.isList pl'.isList rfl hu (fun j h=>absurd h (Nat.not_lt_zero _)) ⟨.bl true,H,I,rfl,q⟩
  | cons a b=>exact SeqAt.eq_list_lengthsAt pl.isList pl'.isList rfl hu ⟨.bl false,H,I,rfl,q⟩
theorem zaU (hu:X.A.units < cLine):OpR X (compareOp .NotEq) (rEqE X.K true):=by
  intro pins s σ H x y v u Q I rx ry h
  obtain ⟨p,p',xs,rfl,rfl,h1,h2,q⟩:=h
  cases rx
  cases ry
  obtain ⟨its,r,pl,_⟩:=I.list h1
  obtain ⟨its',r',pl',_⟩:=I.list h2
  cases r'
  cases r with
  | nil=>exact SeqAt.RcNeAt.lists (e:=fun _=>true) pl.isList pl'.isList rfl hu (fun j h=>absurd h (Nat.not_lt_zero _)) _ _ _ _ ⟨.bl false,H,I,rfl,q⟩
  | cons a b=>exact SeqAt.RcNeAt.lists_lengths pl.isList pl'.isList rfl hu _ _ _ _ ⟨.bl true,H,I,rfl,q⟩
theorem jF {k:Nat} (hr:Room k X.A):jOp X (compareOp .Eq) (rEqE X.K false):=⟨zaT hr.units0⟩
theorem zaV {k:Nat} (hr:Room k X.A):jOp X (compareOp .NotEq) (rEqE X.K true):=⟨zaU hr.units0⟩
end
end L2
namespace L2
open PySem PySem.Spec PyProof.Rows
def Sq (k:Bool) (h:Heap) (l:Addr) (xs:Array Value):Prop:=match k with
  | true=>h.IsList l xs
  | false=>h.IsTuple l xs
def SqI (k:Bool) (h:Heap) (j l:Addr) (n:Nat):Prop:=match k with
  | true=>h.IsListIter j l n
  | false=>h.IsTupleIter j l n
def SqN (k:Bool):String:=if k then "list_iterator" else "tuple_iterator"
theorem Sq.at {k:Bool} {h h':Heap} {l:Addr} {xs:Array Value} (x:Sq k h l xs) (e:∀ o,h.get? l=some o->h'.get? l=some o):Sq k h' l xs:=by
  cases k <;> obtain ⟨o,ho,r⟩:=x <;> exact ⟨o,e _ ho,r⟩
theorem SqI.at {k:Bool} {h h':Heap} {j l:Addr} {n:Nat} (x:SqI k h j l n) (e:∀ o,h.get? j=some o->h'.get? j=some o):SqI k h' j l n:=by
  cases k <;> obtain ⟨o,ho,r⟩:=x <;> exact ⟨o,e _ ho,r⟩
theorem SqI.ex {k:Bool} {h:Heap} {j l:Addr} {n:Nat} (x:SqI k h j l n):∃ o,h.get? j=some o/\o.cls=.type (SqN k)/\o.data=.fields #[.ref l,.int n 0]:=by
  cases k <;> exact x
theorem SqI.of {k:Bool} {h:Heap} {j l:Addr} {n:Nat} (x:∃ o,h.get? j=some o/\o.cls=.type (SqN k)/\o.data=.fields #[.ref l,.int n 0]):SqI k h j l n:=by
  cases k <;> exact x
section
variable {P:Program} {w:World} {A:Around} {E:Value->Shared->Prop} {s:Shared}
theorem WL {j l:Addr} {n:Nat} {xs:Array Value} {x:Value} {Q:Value->Shared->Prop} (hj:s.heap.IsTupleIter j l n) (hl:s.heap.IsTuple l xs) (hx:xs[n]?=some x)
    (q:∀ h',h'.IsTupleIter j l (n + 1)->Heap.SameBut j s.heap h'->Q x { s with heap:=h' }):wpAny (model P w) A (Builtin.SmallTypes.nextOf (.ref j)) Q E s:=by
  have ⟨oj,hoj,cj,dj⟩:=hj
  have ⟨ol,hol,_,m,dl⟩:=hl
  unfold Builtin.SmallTypes.nextOf
  refine wpAny_bind (wpAny_callSpecial?_slot hj.typeIs F.slot_tuple_iterator_next (wpAny_call_entry F.slot_tuple_iterator_next hj.typeIs F.entry_tuple_iterator_next ?_ (F.args_tuple_iterator_next_1 (.ref j))))
  refine wpAny_bind (m:=field (.ref j) 0) (wpAny_field hoj dj (x:=.ref l) rfl ?_)
  have nn:¬ ((Value.ref l == Value.none)=true):=Bool.false_ne_true
  show wpAny _ _ (ite ((Value.ref l == Value.none)=true) _ _) _ _ _
  rw [if_neg nn]
  refine wpAny_bind (m:=field (.ref j) 1) (wpAny_field hoj dj (x:=.int n 0) rfl ?_)
  refine wpAny_bind (m:=seqItems? (.ref l)) (wpAny_seqItems hol dl ?_)
  simp only [Int.toNat_natCast,hx]
  refine wpAny_bind (wpAny_setField hoj dj (by simp) (wpAny_pure ⟨x,rfl,wpAny_pure (q _ ⟨_,Heap.get?_update_self _ hoj (Obj.isFreed_of_fields (Obj.data_mapFields dj _)),(Obj.cls_mapFields ..).trans cj,?_⟩ (Heap.SameBut.update ..))⟩))
  rw [Obj.data_mapFields dj]
  simp [rawInt]
theorem JS {j l:Addr} {n:Nat} {xs:Array Value} {Q:Value->Shared->Prop} (hA:A.handled=none) (hj:s.heap.IsTupleIter j l n) (hl:s.heap.IsTuple l xs) (hx:xs[n]?=none)
    (q:∀ h' e,Heap.ExtBut j s.heap h'->(∃ o,h'.get? e=some o/\o.cls=.type "StopIteration")->E (.ref e) { s with heap:=h' }):wpAny (model P w) A (Builtin.SmallTypes.nextOf (.ref j)) Q E s:=by
  have ⟨oj,hoj,cj,dj⟩:=hj
  have ⟨ol,hol,_,m,dl⟩:=hl
  unfold Builtin.SmallTypes.nextOf
  refine wpAny_bind (wpAny_callSpecial?_slot hj.typeIs F.slot_tuple_iterator_next (wpAny_call_entry F.slot_tuple_iterator_next hj.typeIs F.entry_tuple_iterator_next ?_ (F.args_tuple_iterator_next_1 (.ref j))))
  refine wpAny_bind (m:=field (.ref j) 0) (wpAny_field hoj dj (x:=.ref l) rfl ?_)
  have nn:¬ ((Value.ref l == Value.none)=true):=Bool.false_ne_true
  show wpAny _ _ (ite ((Value.ref l == Value.none)=true) _ _) _ _ _
  rw [if_neg nn]
  refine wpAny_bind (m:=field (.ref j) 1) (wpAny_field hoj dj (x:=.int n 0) rfl ?_)
  refine wpAny_bind (m:=seqItems? (.ref l)) (wpAny_seqItems hol dl ?_)
  simp only [Int.toNat_natCast,hx]
  refine wpAny_bind (wpAny_rule (wpAny_bind (wpAny_setField hoj dj (by simp) ?_)))
  refine wpAny_bind (m:=newExc (.type "StopIteration") []) ?_
  unfold newExc newTuple
  refine wpAny_bind (wpAny_newObj_type (wpAny_bind (m:=firstArgMember _ _) (wpAny_of_eq (a:=Value.none) (by first | rfl | (simp only [firstArgMember]; rfl)) (wpAny_newObj_type ?_ (by size_fits)))) (by size_fits))
  unfold raiseNew
  refine wpAny_bind (wpAny_handled ?_)
  rw [show A.in1.handled=none from hA]
  exact wpAny_bind (wpAny_pure (wpAny_throw (q _ _ (((Heap.SameBut.update ..).extBut.push _).push _) ⟨_,Heap.get?_push_size _ rfl,rfl⟩)))
theorem yZ {k:Bool} {j l:Addr} {n:Nat} {xs:Array Value} {x:Value} {Q:Value->Shared->Prop} (hj:SqI k s.heap j l n) (hl:Sq k s.heap l xs) (hx:xs[n]?=some x)
    (q:∀ h',SqI k h' j l (n + 1)->Heap.SameBut j s.heap h'->Q x { s with heap:=h' }):wpAny (model P w) A (Builtin.SmallTypes.nextOf (.ref j)) Q E s:=by
  cases k with
  | true=>exact wpAny_nextOf_list_item hj hl hx q
  | false=>exact WL hj hl hx q
theorem vt {k:Bool} {j l:Addr} {n:Nat} {xs:Array Value} {Q:Value->Shared->Prop} (hA:A.handled=none) (hj:SqI k s.heap j l n) (hl:Sq k s.heap l xs) (hx:xs[n]?=none)
    (q:∀ h' e,Heap.ExtBut j s.heap h'->(∃ o,h'.get? e=some o/\o.cls=.type "StopIteration")->E (.ref e) { s with heap:=h' }):wpAny (model P w) A (Builtin.SmallTypes.nextOf (.ref j)) Q E s:=by
  cases k with
  | true=>exact wpAny_nextOf_list_end hA hj hl hx q
  | false=>exact JS hA hj hl hx q
theorem wo {k:Bool} {l:Addr} {xs:Array Value} {Q:Value->Shared->Prop} (hl:Sq k s.heap l xs) (q:Q (.ref s.heap.objs.size) { s with heap:=s.heap.push { cls:=.type (SqN k),data:=.fields #[.ref l,.int 0 0] } }) :
    wpAny (model P w) A (pyIter (.ref l)) Q E s:=by
  cases k with
  | true=>exact wpAny_pyIter_list hl q
  | false=>exact wpAny_pyIter_tuple hl q
end
abbrev za (k:Bool) (h:Heap) (l:Addr):Heap:=h.push { cls:=.type (SqN k),data:=.fields #[.ref l,.int 0 0] }
abbrev zb (k m:Bool) (h:Heap) (l r:Addr):Heap:=za m (za k h l) r
abbrev zc (k m:Bool) (h:Heap) (l r:Addr):Heap:=(zb k m h l r).push { cls:=.type "tuple",data:=.seq #[.ref h.objs.size,.ref (za k h l).objs.size] }
abbrev zd (k m:Bool) (h:Heap) (l r:Addr):Heap:=(zc k m h l r).push { cls:=.type "tuple",data:=.seq #[.none,.none] }
abbrev ze (k m:Bool) (h:Heap) (l r:Addr):Heap:=(zd k m h l r).push { cls:=.type "zip",data:=.fields #[.none,.bool false,.bool false,.ref (zb k m h l r).objs.size,.ref (zc k m h l r).objs.size] }
theorem WM (k m:Bool) (l r:Addr) (xs ys:Array Value):Meets (Builtin.«zip.__new__» ⟨[.type "zip",.ref l,.ref r],[]⟩)
    (fun _ R s=>Sq k s.heap l xs/\Sq m s.heap r ys/\R (.ok (.ret (.ref (zd k m s.heap l r).objs.size))) { s with heap:=ze k m s.heap l r }) :=
  .of_wp fun prog w A R s h=>by
    obtain ⟨hp,g,d,tk,os⟩:=s
    obtain ⟨h1,h2,h⟩:=h
    have hs:=sub_zip
    have q1:Sq k (Shared.heap ⟨hp,g,d,tk,os⟩) l xs:=h1
    have q2:Sq m (Shared.heap ⟨za k hp l,g,d,tk,os⟩) r ys:=h2.at fun o e=>Heap.get?_push_of_some _ e
    wp_walk using wo q1,wo q2
    exact ⟨_,rfl,h⟩
structure ZS (k m:Bool) (h:Heap) (B l r:Nat) (n:Nat) (f g:Value):Prop where
  z:h.get? (B + 4)=some { cls:=.type "zip",data:=.fields #[f,g,.bool false,.ref (B + 2),.ref (B + 3)] }
  ti:IsPair h (B + 2) (.ref B) (.ref (B + 1))
  to:∃ a b,IsPair h (B + 3) a b
  i:SqI k h B l n
  j:SqI m h (B + 1) r n
theorem ZS.at {k m:Bool} {h h':Heap} {B l r:Nat} {n:Nat} {f g:Value} (x:ZS k m h B l r n f g) (e:∀ (b:Nat) o,B<=b->b<=B + 4->h.get? b=some o->h'.get? b=some o):ZS k m h' B l r n f g where
  z:=e _ _ (by lia) (by lia) x.z
  ti:=e _ _ (by lia) (by lia) x.ti
  to:=let ⟨a,b,y⟩:=x.to; ⟨a,b,e _ _ (by lia) (by lia) y⟩
  i:=x.i.at fun o=>e _ o (by lia) (by lia)
  j:=x.j.at fun o=>e _ o (by lia) (by lia)
def KeptZ (B:Nat) (h h':Heap):Prop:=∀ (c:Nat) o,(c < B\/B + 4 < c)->h.get? c=some o->h'.get? c=some o
section
variable {P:Program} {w:World} {A:Around} {E:Value->Shared->Prop} {s:Shared} {k m:Bool} {B l r:Nat} {n:Nat} {xs ys:Array Value} {x y f g:Value}
theorem WN {Q:Value->Shared->Prop} (hl:Sq k s.heap l xs) (hr:Sq m s.heap r ys)
    (q:∀ h',ZS k m h' s.heap.objs.size l r 0 .none (.bool false)->h'.objs.size=s.heap.objs.size + 5->(∀ c o,s.heap.get? c=some o->h'.get? c=some o)->Q (.ref (s.heap.objs.size + 4)) { s with heap:=h' }) :
    wpAny (model P w) A (call (.type "zip") [.ref l,.ref r]) Q E s:=by
  apply callType_new F.called_zip (by decide) (F.typeCall_zip_2 _ _) (F.newCall_zip_2 _ _) (fun obj=>F.args_object_init_3 obj _ _) F.entry_zip_new (WM k m l r xs ys)
  refine ⟨hl,hr,?_⟩
  have s1:(za k s.heap l).objs.size=s.heap.objs.size + 1:=Heap.size_push ..
  have s2:(zb k m s.heap l r).objs.size=s.heap.objs.size + 2:=by rw [Heap.size_push,s1]
  have s3:(zc k m s.heap l r).objs.size=s.heap.objs.size + 3:=by rw [Heap.size_push,s2]
  have s4:(zd k m s.heap l r).objs.size=s.heap.objs.size + 4:=by rw [Heap.size_push,s3]
  have s5:(ze k m s.heap l r).objs.size=s.heap.objs.size + 5:=by rw [Heap.size_push,s4]
  have up:∀ {c o},(zd k m s.heap l r).get? c=some o->(ze k m s.heap l r).get? c=some o:=fun e=>Heap.get?_push_of_some _ e
  have p5:(ze k m s.heap l r).get? (zd k m s.heap l r).objs.size=some _:=Heap.get?_push_size _ rfl
  have p4:(ze k m s.heap l r).get? (zc k m s.heap l r).objs.size=some _:=up (Heap.get?_push_size _ rfl)
  have p3:(ze k m s.heap l r).get? (zb k m s.heap l r).objs.size=some _:=up (Heap.get?_push_of_some _ (Heap.get?_push_size _ rfl))
  have p2:(ze k m s.heap l r).get? (za k s.heap l).objs.size=some _:=up (Heap.get?_push_of_some _ (Heap.get?_push_of_some _ (Heap.get?_push_size _ rfl)))
  have p1:(ze k m s.heap l r).get? s.heap.objs.size=some _:=up (Heap.get?_push_of_some _ (Heap.get?_push_of_some _ (Heap.get?_push_of_some _ (Heap.get?_push_size _ rfl))))
  rw [s4,s2,s3] at p5
  rw [s3] at p4
  rw [s2,s1] at p3
  rw [s1] at p2
  show _/\_
  rw [s4]
  exact ⟨⟨_,p5,rfl⟩,q _ ⟨p5,p3,⟨_,_,p4⟩,.of ⟨_,p1,rfl,rfl⟩,.of ⟨_,p2,rfl,rfl⟩⟩ s5 fun c o e=>up (Heap.get?_push_of_some _ (Heap.get?_push_of_some _ (Heap.get?_push_of_some _ (Heap.get?_push_of_some _ e))))⟩
theorem WO {Q:Value->Shared->Prop} (Z:ZS k m s.heap B l r n .none g) (hl:Sq k s.heap l xs) (hr:Sq m s.heap r ys) (ll:l < B) (rl:r < B) (hx:xs[n]?=some x) (hy:ys[n]?=some y)
    (q:∀ h',ZS k m h' B l r (n + 1) (rawInt s.heap.objs.size) (.bool false)->IsPair h' s.heap.objs.size x y->h'.objs.size=s.heap.objs.size + 1->KeptZ B s.heap h'->Q (.ref s.heap.objs.size) { s with heap:=h' }) :
    wpAny (model P w) A (Builtin.«zip.__next__» ⟨[.ref (B + 4)],[]⟩) (fun fin s'=>∃ v,fin=.done (.ret v)/\Q v s') E s:=by
  obtain ⟨a,b,hto⟩:=Z.to
  refine wpAny_bind (m:=field (.ref (B + 4)) 2) (wpAny_field Z.z rfl (x:=.bool false) rfl ?_)
  refine wpAny_bind (m:=field (.ref (B + 4)) 3) (wpAny_field Z.z rfl (x:=.ref (B + 2)) rfl (wpAny_bind (wpAny_seqItems Z.ti rfl ?_)))
  refine wpAny_bind (m:=Builtin.SmallTypes.ownedTupleIsFree (.ref (B + 4))) ?_
  unfold Builtin.SmallTypes.ownedTupleIsFree
  refine wpAny_bind (wpAny_field Z.z rfl (x:=.none) rfl (wpAny_pure ?_))
  rw [if_pos rfl]
  refine wpAny_bind (wpAny_rule (wpAny_bind (wpAny_field Z.z rfl (x:=.ref (B + 3)) rfl (wpAny_bind (wpAny_setField_rec Z.z (by simp) fun h1 z1 u1=>wpAny_bind ?_)))))
  replace z1:h1.get? (B + 4)=some { cls:=.type "zip",data:=.fields #[.ellipsis,g,.bool false,.ref (B + 2),.ref (B + 3)] }:=z1
  have k1:∀ (c:Nat) o,c≠B + 4->s.heap.get? c=some o->h1.get? c=some o:=fun c o n e=>(u1.2 c n).trans e
  simp only [List.zipIdx_cons,List.zipIdx_nil,List.forIn_cons,List.forIn_nil]
  refine wpAny_bind (wpAny_bind (wpAny_onRaise (wpAny_bind (m:=Builtin.SmallTypes.nextOf (.ref B)) ?_)))
  refine yZ (Z.i.at fun o=>k1 _ o (by lia)) (hl.at fun o=>k1 _ o (by lia)) hx fun h2 i2 u2=>wpAny_pure ?_
  have k2:∀ (c:Nat) o,c≠B->h1.get? c=some o->h2.get? c=some o:=fun c o n e=>(u2.2 c n).trans e
  have to2:IsPair h2 (B + 3) a b:=k2 _ _ (by lia) (k1 _ _ (by lia) hto)
  refine wpAny_bind (wpAny_seqItems to2 rfl (wpAny_bind (wpAny_updateSeq_pair to2 fun h3 to3 u3=>?_)))
  replace to3:IsPair h3 (B + 3) x b:=to3
  have k3:∀ (c:Nat) o,c≠B + 3->h2.get? c=some o->h3.get? c=some o:=fun c o n e=>(u3.2 c n).trans e
  refine wpAny_bind (wpAny_letGo (wpAny_pure (wpAny_bind (wpAny_bind (wpAny_onRaise (wpAny_bind (m:=Builtin.SmallTypes.nextOf (.ref (B + 1))) ?_))))))
  refine yZ (Z.j.at fun o e=>k3 _ o (by lia) (k2 _ o (by lia) (k1 _ o (by lia) e))) (hr.at fun o e=>k3 _ o (by lia) (k2 _ o (by lia) (k1 _ o (by lia) e))) hy fun h4 i4 u4=>wpAny_pure ?_
  have k4:∀ (c:Nat) o,c≠B + 1->h3.get? c=some o->h4.get? c=some o:=fun c o n e=>(u4.2 c n).trans e
  have to4:IsPair h4 (B + 3) x b:=k4 _ _ (by lia) to3
  refine wpAny_bind (wpAny_seqItems to4 rfl (wpAny_bind (wpAny_updateSeq_pair to4 fun h5 to5 u5=>?_)))
  replace to5:IsPair h5 (B + 3) x y:=to5
  have k5:∀ (c:Nat) o,c≠B + 3->h4.get? c=some o->h5.get? c=some o:=fun c o n e=>(u5.2 c n).trans e
  refine wpAny_bind (wpAny_letGo (wpAny_pure (wpAny_pure (wpAny_bind (wpAny_seqItems to5 rfl (wpAny_bind (wpAny_newTuple ?_)))))))
  have sz:h5.objs.size=s.heap.objs.size:=by rw [u5.1,u4.1,u3.1,u2.1,u1.1]
  have z5:h5.get? (B + 4)=some { cls:=.type "zip",data:=.fields #[.ellipsis,g,.bool false,.ref (B + 2),.ref (B + 3)] }:=k5 _ _ (by lia) (k4 _ _ (by lia) (k3 _ _ (by lia) (k2 _ _ (by lia) z1)))
  have lt4:B + 4 < h5.objs.size:=Heap.lt_size z5
  refine wpAny_bind (m:=Builtin.SmallTypes.ownedTupleHandOut (.ref (B + 4)) (.ref h5.objs.size)) ?_
  unfold Builtin.SmallTypes.ownedTupleHandOut
  refine wpAny_bind (wpAny_setField_rec (Heap.get?_push_of_some { cls:=.type "tuple",data:=.seq #[x,y] } z5) (by simp) fun h7 z7 u7=>?_)
  refine wpAny_setField_rec z7 (by simp) fun h8 z8 u8=>wpAny_pure ⟨.ref h5.objs.size,rfl,?_⟩
  have k8:∀ (c:Nat) o,c≠B + 4->h5.get? c=some o->h8.get? c=some o:=fun c o n e=>(u8.2 c n).trans ((u7.2 c n).trans (Heap.get?_push_of_some _ e))
  have p8:IsPair h8 h5.objs.size x y:=(u8.2 _ (Nat.ne_of_gt lt4)).trans ((u7.2 _ (Nat.ne_of_gt lt4)).trans (Heap.get?_push_size _ rfl))
  have s8:h8.objs.size=h5.objs.size + 1:=by rw [u8.1,u7.1,Heap.size_push]
  rw [sz] at p8 s8 ⊢
  refine q h8 ⟨?_,k8 _ _ (by lia) (k5 _ _ (by lia) (k4 _ _ (by lia) (k3 _ _ (by lia) (k2 _ _ (by lia) (k1 _ _ (by lia) Z.ti))))),⟨x,y,k8 _ _ (by lia) to5⟩,
    i2.at fun o e=>k8 _ _ (by lia) (k5 _ _ (by lia) (k4 _ _ (by lia) (k3 _ _ (by lia) e))),i4.at fun o e=>k8 _ _ (by lia) (k5 _ _ (by lia) e)⟩ p8 s8
    fun c o hc e=>k8 _ _ (by lia) (k5 _ _ (by lia) (k4 _ _ (by lia) (k3 _ _ (by lia) (k2 _ _ (by lia) (k1 _ _ (by lia) e)))))
  rw [<- sz]
  exact z8
theorem WP {a:Addr} {o:Obj} {Q:Option Obj->Shared->Prop} (ho:s.heap.get? a=some o) (h:Q (some o) s):wpAny (model P w) A (loadIfAlive a) Q E s:=fun Γ p _=>by
  unfold loadIfAlive
  rw [Sem.wp_loadIfAlive,ho]
  simpa using h
theorem WQ {Q:Bool->Shared->Prop} {T:Nat} {ot:Obj} {c:Bool} (hz:s.heap.get? (B + 4)=some { cls:=.type "zip",data:=.fields #[rawInt T,.bool c,.bool false,.ref (B + 2),.ref (B + 3)] }) (hT:s.heap.get? T=some ot)
    (q:∀ h1,h1.get? (B + 4)=some { cls:=.type "zip",data:=.fields #[rawInt T,.bool true,.bool false,.ref (B + 2),.ref (B + 3)] }->h1.objs.size=s.heap.objs.size->(∀ (d:Nat) o,d≠B + 4->s.heap.get? d=some o->h1.get? d=some o)->Q false { s with heap:=h1 }) :
    wpAny (model P w) A (Builtin.SmallTypes.ownedTupleIsFree (.ref (B + 4))) Q E s:=by
  unfold Builtin.SmallTypes.ownedTupleIsFree
  refine wpAny_bind (wpAny_field hz rfl (x:=rawInt T) rfl ?_)
  refine wpAny_bind (m:=loadIfAlive ((T:Int).toNat)) (WP (o:=ot) (by rw [Int.toNat_natCast]; exact hT) ?_)
  rw [if_neg (by simp)]
  refine wpAny_bind (wpAny_field hz rfl (x:=.bool c) rfl ?_)
  cases c with
  | true =>
    rw [if_neg (by decide)]
    exact wpAny_pure (q _ hz rfl fun d o _ e=>e)
  | false =>
    rw [if_pos (by decide)]
    exact wpAny_bind (wpAny_setField_rec hz (by simp) fun h1 z1 u1=>wpAny_pure (q h1 z1 u1.1 fun d o n e=>(u1.2 d n).trans e))
theorem JT {Q:PySem.Fin->Shared->Prop} (hA:A.handled=none) (Z:ZS k m s.heap B l r n .none g) (hl:Sq k s.heap l xs) (hr:Sq m s.heap r ys) (ll:l < B) (rl:r < B) (hx:xs[n]?=none\/ys[n]?=none)
    (q:∀ h' e,KeptZ B s.heap h'->(∃ o,h'.get? e=some o/\o.cls=.type "StopIteration")->E (.ref e) { s with heap:=h' }):wpAny (model P w) A (Builtin.«zip.__next__» ⟨[.ref (B + 4)],[]⟩) Q E s:=by
  obtain ⟨a,b,hto⟩:=Z.to
  refine wpAny_bind (m:=field (.ref (B + 4)) 2) (wpAny_field Z.z rfl (x:=.bool false) rfl ?_)
  refine wpAny_bind (m:=field (.ref (B + 4)) 3) (wpAny_field Z.z rfl (x:=.ref (B + 2)) rfl (wpAny_bind (wpAny_seqItems Z.ti rfl ?_)))
  refine wpAny_bind (m:=Builtin.SmallTypes.ownedTupleIsFree (.ref (B + 4))) ?_
  unfold Builtin.SmallTypes.ownedTupleIsFree
  refine wpAny_bind (wpAny_field Z.z rfl (x:=.none) rfl (wpAny_pure ?_))
  rw [if_pos rfl]
  refine wpAny_bind (wpAny_rule (wpAny_bind (wpAny_field Z.z rfl (x:=.ref (B + 3)) rfl (wpAny_bind (wpAny_setField_rec Z.z (by simp) fun h1 z1 u1=>wpAny_bind ?_)))))
  replace z1:h1.get? (B + 4)=some { cls:=.type "zip",data:=.fields #[.ellipsis,g,.bool false,.ref (B + 2),.ref (B + 3)] }:=z1
  have k1:∀ (c:Nat) o,c≠B + 4->s.heap.get? c=some o->h1.get? c=some o:=fun c o n e=>(u1.2 c n).trans e
  have nz:∀ {h:Heap} {e:Nat} {v:Value} {o:Obj},h.get? (B + 4)=some { cls:=.type "zip",data:=.fields #[v,g,.bool false,.ref (B + 2),.ref (B + 3)] }->h.get? e=some o->o.cls=.type "StopIteration"->e≠B + 4:=fun h1 h2 h3 e=>by
    rw [e,h1] at h2
    cases h2
    simp at h3
  simp only [List.zipIdx_cons,List.zipIdx_nil,List.forIn_cons,List.forIn_nil]
  refine wpAny_bind (wpAny_bind (wpAny_onRaise (wpAny_bind (m:=Builtin.SmallTypes.nextOf (.ref B)) ?_)))
  cases e1:xs[n]? with
  | none =>
    refine vt hA (Z.i.at fun o=>k1 _ o (by lia)) (hl.at fun o=>k1 _ o (by lia)) e1 fun h2 e u2 he=>?_
    obtain ⟨oe,he,ce⟩:=he
    have k2:∀ (c:Nat) o,c≠B->h1.get? c=some o->h2.get? c=some o:=fun c o n e=>u2 c o n e
    have z2:=k2 _ _ (show B + 4≠B by lia) z1
    refine wpAny_setField_rec z2 (by simp) fun h3 z3 u3=>q h3 e (fun c o hc x=>(u3.2 c (show (c:Nat)≠B + 4 by lia)).trans (k2 _ _ (by lia) (k1 _ _ (by lia) x))) ⟨oe,(u3.2 e (nz z2 he ce)).trans he,ce⟩
  | some x =>
    have hy:ys[n]?=none:=hx.resolve_left (by rw [e1]; simp)
    refine yZ (Z.i.at fun o=>k1 _ o (by lia)) (hl.at fun o=>k1 _ o (by lia)) e1 fun h2 i2 u2=>wpAny_pure ?_
    have k2:∀ (c:Nat) o,c≠B->h1.get? c=some o->h2.get? c=some o:=fun c o n e=>(u2.2 c n).trans e
    have to2:IsPair h2 (B + 3) a b:=k2 _ _ (by lia) (k1 _ _ (by lia) hto)
    refine wpAny_bind (wpAny_seqItems to2 rfl (wpAny_bind (wpAny_updateSeq_pair to2 fun h3 to3 u3=>?_)))
    have k3:∀ (c:Nat) o,c≠B + 3->h2.get? c=some o->h3.get? c=some o:=fun c o n e=>(u3.2 c n).trans e
    refine wpAny_bind (wpAny_letGo (wpAny_pure (wpAny_bind (wpAny_bind (wpAny_onRaise (wpAny_bind (m:=Builtin.SmallTypes.nextOf (.ref (B + 1))) ?_))))))
    refine vt hA (Z.j.at fun o e=>k3 _ o (by lia) (k2 _ o (by lia) (k1 _ o (by lia) e))) (hr.at fun o e=>k3 _ o (by lia) (k2 _ o (by lia) (k1 _ o (by lia) e))) hy fun h4 e u4 he=>?_
    obtain ⟨oe,he,ce⟩:=he
    have k4:∀ (c:Nat) o,c≠B + 1->h3.get? c=some o->h4.get? c=some o:=fun c o n e=>u4 c o n e
    have z4:=k4 _ _ (show B + 4≠B + 1 by lia) (k3 _ _ (by lia) (k2 _ _ (by lia) z1))
    refine wpAny_setField_rec z4 (by simp) fun h5 z5 u5=>q h5 e (fun c o hc x=>(u5.2 c (show (c:Nat)≠B + 4 by lia)).trans (k4 _ _ (by lia) (k3 _ _ (by lia) (k2 _ _ (by lia) (k1 _ _ (by lia) x))))) ⟨oe,(u5.2 e (nz z4 he ce)).trans he,ce⟩
theorem jH {Q:PySem.Fin->Shared->Prop} {T:Nat} {ot:Obj} {c:Bool} (hA:A.handled=none) (Z:ZS k m s.heap B l r n (rawInt T) (.bool c)) (hT:s.heap.get? T=some ot) (hl:Sq k s.heap l xs) (hr:Sq m s.heap r ys) (ll:l < B) (rl:r < B) (hx:xs[n]?=none\/ys[n]?=none)
    (q:∀ h' e,KeptZ B s.heap h'->(∃ o,h'.get? e=some o/\o.cls=.type "StopIteration")->E (.ref e) { s with heap:=h' }):wpAny (model P w) A (Builtin.«zip.__next__» ⟨[.ref (B + 4)],[]⟩) Q E s:=by
  refine wpAny_bind (m:=field (.ref (B + 4)) 2) (wpAny_field Z.z rfl (x:=.bool false) rfl ?_)
  refine wpAny_bind (m:=field (.ref (B + 4)) 3) (wpAny_field Z.z rfl (x:=.ref (B + 2)) rfl (wpAny_bind (wpAny_seqItems Z.ti rfl ?_)))
  refine wpAny_bind (m:=Builtin.SmallTypes.ownedTupleIsFree (.ref (B + 4))) (WQ Z.z hT fun h1 z1 s1 k1=>?_)
  rw [if_neg Bool.false_ne_true]
  refine wpAny_bind ?_
  rw [<- Array.forIn_toList]
  simp only [List.forIn_cons,List.forIn_nil]
  refine wpAny_bind (wpAny_bind (wpAny_holding (wpAny_bind (m:=Builtin.SmallTypes.nextOf (.ref B)) ?_)))
  cases e1:xs[n]? with
  | none=>exact vt hA (Z.i.at fun o=>k1 _ o (by lia)) (hl.at fun o=>k1 _ o (by lia)) e1 fun h2 e u2 he=>q h2 e (fun c o hc x=>u2 _ _ (show (c:Nat)≠B by lia) (k1 _ _ (by lia) x)) he
  | some x =>
    have hy:ys[n]?=none:=hx.resolve_left (by rw [e1]; simp)
    refine yZ (Z.i.at fun o=>k1 _ o (by lia)) (hl.at fun o=>k1 _ o (by lia)) e1 fun h2 i2 u2=>wpAny_pure (wpAny_pure ?_)
    have k2:∀ (c:Nat) o,c≠B->h1.get? c=some o->h2.get? c=some o:=fun c o n e=>(u2.2 c n).trans e
    refine wpAny_bind (wpAny_bind (wpAny_holding (wpAny_bind (m:=Builtin.SmallTypes.nextOf (.ref (B + 1))) ?_)))
    exact vt hA (Z.j.at fun o e=>k2 _ o (by lia) (k1 _ o (by lia) e)) (hr.at fun o e=>k2 _ o (by lia) (k1 _ o (by lia) e)) hy fun h4 e u4 he=>q h4 e (fun c o hc x=>u4 _ _ (show (c:Nat)≠B + 1 by lia) (k2 _ _ (by lia) (k1 _ _ (by lia) x))) he
def ZF (B:Nat) (h:Heap) (f g:Value):Prop:=f=.none\/∃ (T:Nat) (c:Bool) (o:Obj),f=rawInt T/\g=.bool c/\h.get? T=some o/\B + 5 < T
theorem WR {Q:Option Value->Shared->Prop} (hA:A.handled=none) (Z:ZS k m s.heap B l r n f g) (hf:ZF B s.heap f g) (hl:Sq k s.heap l xs) (hr:Sq m s.heap r ys) (ll:l < B) (rl:r < B) (hx:xs[n]?=none\/ys[n]?=none)
    (q:∀ h',KeptZ B s.heap h'->Q none { s with heap:=h' }):wpAny (model P w) A (pyNext (.ref (B + 4))) Q E s:=by
  have ty:s.TypeIs (.ref (B + 4)) "zip":=⟨_,Z.z,rfl⟩
  unfold pyNext
  refine wpAny_bind (wpAny_attempt (wpAny_callSpecial?_slot ty F.slot_zip_next (wpAny_call_entry F.slot_zip_next ty F.entry_zip_next ?_ (F.args_zip_next_1 (.ref (B + 4))))))
  have fin:∀ h' e,KeptZ B s.heap h'->(∃ o,h'.get? e=some o/\o.cls=.type "StopIteration")->wpAny (model P w) A (do
      if <- isInstance (.ref e) (.type "StopIteration") then pure none else throw (.ref e)) Q E { s with heap:=h' }:=by
    intro h' e kz ⟨o,ho,hc⟩
    exact wpAny_bind (wpAny_isInstance (T:="StopIteration") (b:=true) ⟨o,ho,hc⟩ isSubtype_stop (wpAny_pure (q _ kz)))
  rcases hf with rfl | ⟨T,c,o,rfl,rfl,hT,lT⟩
  · exact JT hA Z hl hr ll rl hx fun h' e kz he=>fin h' e kz he
  · exact jH hA Z hT hl hr ll rl hx fun h' e kz he=>fin h' e kz he
end
section
variable {P:Program} {w:World} {A:Around} {R:Result->Shared->Prop} {h0:Heap} {k m:Bool} {B l r N:Nat} {xs ys:Array Value} {res:Value}
end
section
variable {P:Program} {w:World} {A:Around} {E:Value->Shared->Prop} {s:Shared} {k m:Bool} {B l r N:Nat} {xs ys:Array Value}
end
section
variable {X:Cx} {a b:Expr} {ta:TA} {p1 p2 pos1 pos2:Pos}
end
def SqK (k:Bool) (K:PySem.W.Frag) (H:Hp) (a:Addr) (xs:List V):Prop:=match k with
  | true=>SqL K H a xs
  | false=>SqT K H a xs
theorem Inv.sqk {X:Cx} {pins:List (Addr × Obj)} {σ:St} {H:Hp} {s:Shared} {k:Bool} {a:Addr} {xs:List V} (I:Inv X pins σ H s) (h:SqK k X.K H a xs):∃ its:List Value,Vals xs its/\Sq k s.heap a its.toArray/\xs.length<=sizeLine/\(a:Nat) < s.heap.objs.size:=by
  cases k with
  | true =>
    obtain ⟨its,r,p,z⟩:=I.list h
    have ⟨o,n,e,_⟩:=p
    exact ⟨its,r,p.isList,z,Heap.lt_size e⟩
  | false =>
    obtain ⟨its,r,p,z⟩:=I.tuple h
    have ⟨o,e,_⟩:=p
    exact ⟨its,r,p,z,Heap.lt_size e⟩
theorem Inv.sqk_inj {X:Cx} {pins:List (Addr × Obj)} {σ:St} {H:Hp} {s:Shared} {k:Bool} {a:Addr} {xs ys:List V} (I:Inv X pins σ H s) (h:SqK k X.K H a xs) (h':SqK k X.K H a ys):xs=ys:=by
  cases k with
  | true=>exact I.list_inj h h'
  | false=>exact I.tuple_inj h h'
def Itz (K:PySem.W.Frag) (k m:Bool) (a b:Addr):It :=
  ⟨fun i H=>∃ xs ys x y,SqK k K H a xs/\SqK m K H b ys/\xs[i]?=some x/\ys[i]?=some y,
   fun i H v H'=>∃ T x y,v=.ref T/\H T=none/\H'=upd H T (.tup [x,y])/\(∀ xs,SqK k K H a xs->xs[i]?=some x)/\∀ ys,SqK m K H b ys->ys[i]?=some y,
   fun i H=>∃ xs ys,SqK k K H a xs/\SqK m K H b ys/\(xs.length<=i\/ys.length<=i)⟩
theorem KeptZ.of {B:Nat} {h h':Heap} (z:KeptZ B h h'):∀ (b:Nat) o,b ∉ [B,B + 1,B + 2,B + 3,B + 4]->h.get? b=some o->h'.get? b=some o:=fun b o n e=>z b o (by simp only [List.mem_cons,List.not_mem_nil,or_false,not_or] at n; lia) e
theorem YH {k m:Bool} {h:Heap} {B l r n:Nat} {f g:Value} (Z:ZS k m h B l r n f g):∀ b∈[B,B + 1,B + 2,B + 3,B + 4],∃ o,h.get? b=some o/\∀ v,o.data≠.cell v:=by
  intro b hb
  simp only [List.mem_cons,List.not_mem_nil,or_false] at hb
  rcases hb with rfl | rfl | rfl | rfl | rfl
  · obtain ⟨o,e,_,d⟩:=Z.i.ex
    exact ⟨o,e,fun v z=>by rw [d] at z; cases z⟩
  · obtain ⟨o,e,_,d⟩:=Z.j.ex
    exact ⟨o,e,fun v z=>by rw [d] at z; cases z⟩
  · exact ⟨_,Z.ti,fun v z=>by cases z⟩
  · obtain ⟨x,y,e⟩:=Z.to
    exact ⟨_,e,fun v z=>by cases z⟩
  · exact ⟨_,Z.z,fun v z=>by cases z⟩
theorem WS {P:Program} {w:World} {K:PySem.W.Frag} {elts:List Expr} {n:Nat} {pos:Pos} {k m:Bool} {a b:Addr} {B:Nat} (la:(a:Nat) < B) (lb:(b:Nat) < B) :
    Turn P w K (.Tuple elts n pos) (Itz K k m a b) [B,B + 1,B + 2,B + 3,B + 4] (B + 4) (fun i h=>ZS k m h B a b i .none (.bool false)) where
  mem:=by simp
  obj:=fun i h st=>YH st
  keep:=fun i h h' st kp=>st.at fun c o h1 h2 e=>kp c (by
    have:c=B\/c=B + 1\/c=B + 2\/c=B + 3\/c=B + 4:=by lia
    simpa using this) o e
  item:=by
    intro X hP hw hK hc i pins s σ H E I hf st hg
    subst hP hw hK
    obtain ⟨xs,ys,x,y,h1,h2,hx,hy⟩:=hg
    obtain ⟨i1,v1,q1,z1,l1⟩:=I.sqk h1
    obtain ⟨i2,v2,q2,z2,l2⟩:=I.sqk h2
    obtain ⟨u,eu,ru⟩:=v1.get hx
    obtain ⟨v,ev,rv⟩:=v2.get hy
    have ty:s.TypeIs (.ref (B + 4)) "zip":=⟨_,st.z,rfl⟩
    unfold pyNext
    refine wpAny_bind (wpAny_attempt (wpAny_callSpecial?_slot ty F.slot_zip_next (wpAny_call_entry F.slot_zip_next ty F.entry_zip_next ?_ (F.args_zip_next_1 (.ref (B + 4))))))
    refine WO st q1 q2 la lb (by simpa using eu) (by simpa using ev) fun h' z p sz kz=>wpAny_pure ⟨_,rfl,?_⟩
    have new:ObjOk X.prog X.w (upd H s.heap.objs.size (.tup [x,y])) h' s.heap.objs.size (.tup [x,y]):=⟨sN2,[u,v],.cons ru (.cons rv .nil),⟨_,p,rfl,rfl,_,rfl⟩⟩
    have I1:Inv X pins σ (upd H s.heap.objs.size (.tup [x,y])) { s with heap:=h' }:=I.turnsLaid (t':=s.toks) (ch:=[B,B + 1,B + 2,B + 3,B + 4]) kz.of hf (Nat.le_refl _) new
    have hn:∀ c∈[B,B + 1,B + 2,B + 3,B + 4],upd H s.heap.objs.size (.tup [x,y]) c=none:=fun c hc=>by
      obtain ⟨o,e,_⟩:=YH st c hc
      rw [zk (Nat.ne_of_lt (Heap.lt_size e))]
      exact (hf c hc).1
    have hf1:∀ c∈[B,B + 1,B + 2,B + 3,B + 4],FpOk X pins (upd H s.heap.objs.size (.tup [x,y])) c:=fun c hc=>⟨hn c hc,(hf c hc).2⟩
    refine wpAny_letOwnedTupleGo_zip z.z fun h3 z2 u2=>?_
    have I2:Inv X pins σ (upd H s.heap.objs.size (.tup [x,y])) { s with heap:=h3 }:=Inv.turns (s:={ s with heap:=h' }) (t':=s.toks) (ch:=[B,B + 1,B + 2,B + 3,B + 4]) I1 (fun c o hc e=>(u2.2 c fun z=>hc (by simp [z])).trans e) hf1
    refine ⟨.ref s.heap.objs.size,_,I2,rfl,⟨_,x,y,rfl,I.fresh,rfl,fun zs hz=>by rw [I.sqk_inj hz h1]; exact hx,fun zs hz=>by rw [I.sqk_inj hz h2]; exact hy⟩,?_,hn⟩
    have up:∀ (c:Nat) o,c≠B + 4->h'.get? c=some o->h3.get? c=some o:=fun c o n e=>(u2.2 c n).trans e
    exact ⟨z2,up _ _ (by lia) z.ti,let ⟨c,d,e⟩:=z.to; ⟨c,d,up _ _ (by lia) e⟩,z.i.at fun o e=>up _ _ (by lia) e,z.j.at fun o e=>up _ _ (by lia) e⟩
  done:=by
    intro X hP hw hK hc i pins s σ H E I hf st hg
    subst hP hw hK
    obtain ⟨xs,ys,h1,h2,hl⟩:=hg
    obtain ⟨i1,v1,q1,z1,l1⟩:=I.sqk h1
    obtain ⟨i2,v2,q2,z2,l2⟩:=I.sqk h2
    have n1:=v1.length
    have n2:=v2.length
    refine WR (I.ok.hd hc) st (.inl rfl) q1 q2 la lb ?_ fun h' kz=>⟨rfl,I.turns (t':=s.toks) (ch:=[B,B + 1,B + 2,B + 3,B + 4]) kz.of hf⟩
    rcases hl with hl | hl
    · exact .inl (by simp; lia)
    · exact .inr (by simp; lia)
  self:=fun _ _ _ _ _ st h=>by
    have ty:Shared.TypeIs _ (.ref (B + 4)) "zip":=⟨_,st.z,rfl⟩
    exact wpAny_pyIter_slot ty F.slot_zip_iter (wpAny_call_entry F.slot_zip_iter ty F.entry_zip_iter (wpAny_pure ⟨_,rfl,"zip",_,ty,F.slot_zip_next.lookup,h⟩) (F.args_zip_iter_1 (.ref (B + 4))))
section
variable {X:Cx} {elts:List Expr} {n:Nat} {tpos:Pos}
def iZip (K:PySem.W.Frag) (ta:TA):TI:=fun σ H R=>ta σ H fun vs H1=>∃ a b k m xs ys,vs=[.ref a,.ref b]/\SqK k K H1 a xs/\SqK m K H1 b ys/\R (Itz K k m a b) H1
theorem zaW {a b:Expr} {ta:TA} {p pos:Pos} (hg:Gl X "zip") (hm:X.mg "zip"=none) (ha:PA X [a,b] ta) (h1:starEach [a,b] X.env=[(false,eval a X.env),(false,eval b X.env)]:=by rfl) (h2:starEach [b] X.env=[(false,eval b X.env)]:=by rfl) :
    PI X (.Tuple elts n tpos) (.Call (.Name "zip" p) [a,b] [] pos) (iZip X.K ta):=by
  intro pins s σ H R I h
  refine Call_ (xh I hg hm boot_zip (PyProof.Rows.callWith_type1 (thn (ha pos pins s σ H _ I h) fun us s1 g=>?_) (by rw [h1,h2]) (by rw [h2]; rfl)))
  obtain ⟨vs,H1,I1,r1,a1,b1,k,m,xs,ys,rfl,g1,g2,q⟩:=g
  obtain ⟨u,u',rfl,e1,e2⟩:=Wq r1
  cases e1
  cases e2
  obtain ⟨i1,v1,q1,z1,l1⟩:=I1.sqk g1
  obtain ⟨i2,v2,q2,z2,l2⟩:=I1.sqk g2
  refine WN q1 q2 fun h' Z sz kp=>?_
  have tz:=WS (P:=X.prog) (w:=X.w) (K:=X.K) (elts:=elts) (n:=n) (pos:=tpos) (k:=k) (m:=m) l1 l2
  refine tz.self X.A 0 { s1 with heap:=h' } _ _ Z ⟨s1.heap.objs.size + 4,_,_,_,H1,rfl,I1.kept (t':=s1.toks) kp,tz,Z,fun c hc=>?_,q⟩
  have hc':c=s1.heap.objs.size\/c=s1.heap.objs.size + 1\/c=s1.heap.objs.size + 2\/c=s1.heap.objs.size + 3\/c=s1.heap.objs.size + 4:=by simpa using hc
  have le:s1.heap.objs.size<=c:=by
    rcases hc' with e | e | e | e | e <;> rw [e] <;> first | exact Nat.le_refl _ | exact Nat.le_add_right _ _
  exact I1.fpOk le (I1.hok.fresh le)
theorem xS {a b:Expr} {t:TA} {p pos:Pos} (hg:Gl X "zip") (hm:X.mg "zip"=none) (ha:jA X [a,b] t) (h1:zt a=false:=by rfl) (h2:zt b=false:=by rfl):jI X (.Tuple elts n tpos) (.Call (.Name "zip" p) [a,b] [] pos) (iZip X.K t) :=
  ⟨zaW hg hm ha.out (by rw [zy h1,zy h2]; rfl) (by rw [zy h2]; rfl)⟩
end
structure Ca (P:Program) (w:World) (K:PySem.W.Frag) (mg:Str->Option Value) (base:Heap) (CX:CXT) (k:Nat) (x:Str) (ps:List Str) (sp:Sp):Prop where
  ex:∃ f fd,FnOk P w K mg base CX k f fd ps sp/\Binds K fd ps []/\PySem.W.keepIn K (.ref f)=true/\mg x=some (.ref f)
structure Ma (P:Program) (w:World) (K:PySem.W.Frag) (mg:Str->Option Value) (base:Heap) (CX:CXT) (k:Nat) (x:Str) (C:Addr) (ps:List Str) (sp:Sp):Prop where
  ex:∃ f fd,Mk K C f/\FnOk P w K mg base CX k f fd ps sp/\Binds K fd ps []/\mg x=some (.ref C)
section
variable {P:Program} {w:World} {K:PySem.W.Frag} {mg:Str->Option Value} {base:Heap} {CX:CXT} {k j:Nat} {x m:Str} {C:Addr} {ps:List Str} {sp sp':Sp}
end
section
variable {X:Cx} {CX:CXT} {k i:Nat} {C:Addr} {ps:List Str} {sp:Sp} {E:XK} {x m n f:Str} {p pos apos cpos np pos' epos hpos tpos:Pos} {e o a value:Expr} {es as:List Expr} {ta te tv to t1 t2:TE} {t:TA}
theorem zbI (F:Ca X.prog X.w X.K X.mg X.base CX k x ps sp) (hr:Room k X.A) (hg:Gl X x) (hx:yO CX X E) (ha:jA X (e :: es) t) (hdb:(x == ("__debug__":Str))=false:=by decide) (h1:zt e=false:=by rfl) (h2:es.all (fun e=>!zt e)=true:=by rfl) :
    jE X (.Call (.Name x p) (e :: es) [] pos) (Zc sp [] E t):=let ⟨_,_,G,b,kp,mg⟩:=F.ex; zbG G hr hg mg kp b .nil hx ha hdb h1 h2
theorem QT (F:Ma X.prog X.w X.K X.mg X.base CX k x C ps sp) (hr:Room (k + 1) X.A) (hg:Gl X x) (hx:yO CX X E) (ha:jA X (e :: es) t) (hdb:(x == ("__debug__":Str))=false:=by decide) (h1:zt e=false:=by rfl) (h2:es.all (fun e=>!zt e)=true:=by rfl) :
    jE X (.Call (.Name x p) (e :: es) [] pos) (QL C sp [] E t):=let ⟨_,_,M,G,b,mg⟩:=F.ex; ⟨JB M G hr hg mg b .nil hx ha.out hdb (zy h1) (yk h2)⟩
theorem xU (he:jE X e ta) (hb:attributeBase e f X.env (eval e X.env)=eval e X.env:=by rfl):jE X (.Attribute e f pos) (tFld X.K ta f):=⟨zaD he.out hb⟩
theorem Z5 (ha:jE X o ta) (hv:jE X value tv) (hs:swapsWith value (some (.Attribute o f pos')) pos.line X.env=pure false:=by rfl):jS X (.Assign [.Attribute o f pos'] value pos) (sFld X.K ta tv f):=⟨zaE ha.out hv.out hs⟩
end
end L2
namespace L2
open PySem
section
variable {X:Cx} {x:Str} {pos p q p2:Pos}
theorem jA1 {e1:Expr} {t1:TE} (h1:jE X e1 t1) (s1:zt e1=false:=by rfl):jA X [e1] (zH t1 tNil):=(ja_c h1 zE s1)
theorem jA2 {e1:Expr} {t1:TE} {e2:Expr} {t2:TE} (h1:jE X e1 t1) (h2:jE X e2 t2) (s1:zt e1=false:=by rfl) (s2:zt e2=false:=by rfl):jA X [e1,e2] (zH t1 (zH t2 tNil)):=(ja_c h1 (ja_c h2 zE s2) s1)
theorem jA3 {e1:Expr} {t1:TE} {e2:Expr} {t2:TE} {e3:Expr} {t3:TE} (h1:jE X e1 t1) (h2:jE X e2 t2) (h3:jE X e3 t3) (s1:zt e1=false:=by rfl) (s2:zt e2=false:=by rfl) (s3:zt e3=false:=by rfl):jA X [e1,e2,e3] (zH t1 (zH t2 (zH t3 tNil))):=(ja_c h1 (ja_c h2 (ja_c h3 zE s3) s2) s1)
theorem jA4 {e1:Expr} {t1:TE} {e2:Expr} {t2:TE} {e3:Expr} {t3:TE} {e4:Expr} {t4:TE} (h1:jE X e1 t1) (h2:jE X e2 t2) (h3:jE X e3 t3) (h4:jE X e4 t4) (s1:zt e1=false:=by rfl) (s2:zt e2=false:=by rfl) (s3:zt e3=false:=by rfl) (s4:zt e4=false:=by rfl):jA X [e1,e2,e3,e4] (zH t1 (zH t2 (zH t3 (zH t4 tNil)))):=(ja_c h1 (ja_c h2 (ja_c h3 (ja_c h4 zE s4) s3) s2) s1)
theorem jA5 {e1:Expr} {t1:TE} {e2:Expr} {t2:TE} {e3:Expr} {t3:TE} {e4:Expr} {t4:TE} {e5:Expr} {t5:TE} (h1:jE X e1 t1) (h2:jE X e2 t2) (h3:jE X e3 t3) (h4:jE X e4 t4) (h5:jE X e5 t5) (s1:zt e1=false:=by rfl) (s2:zt e2=false:=by rfl) (s3:zt e3=false:=by rfl) (s4:zt e4=false:=by rfl) (s5:zt e5=false:=by rfl):jA X [e1,e2,e3,e4,e5] (zH t1 (zH t2 (zH t3 (zH t4 (zH t5 tNil))))):=(ja_c h1 (ja_c h2 (ja_c h3 (ja_c h4 (ja_c h5 zE s5) s4) s3) s2) s1)
theorem jA6 {e1:Expr} {t1:TE} {e2:Expr} {t2:TE} {e3:Expr} {t3:TE} {e4:Expr} {t4:TE} {e5:Expr} {t5:TE} {e6:Expr} {t6:TE} (h1:jE X e1 t1) (h2:jE X e2 t2) (h3:jE X e3 t3) (h4:jE X e4 t4) (h5:jE X e5 t5) (h6:jE X e6 t6) (s1:zt e1=false:=by rfl) (s2:zt e2=false:=by rfl) (s3:zt e3=false:=by rfl) (s4:zt e4=false:=by rfl) (s5:zt e5=false:=by rfl) (s6:zt e6=false:=by rfl):jA X [e1,e2,e3,e4,e5,e6] (zH t1 (zH t2 (zH t3 (zH t4 (zH t5 (zH t6 tNil)))))):=(ja_c h1 (ja_c h2 (ja_c h3 (ja_c h4 (ja_c h5 (ja_c h6 zE s6) s5) s4) s3) s2) s1)
theorem jA7 {e1:Expr} {t1:TE} {e2:Expr} {t2:TE} {e3:Expr} {t3:TE} {e4:Expr} {t4:TE} {e5:Expr} {t5:TE} {e6:Expr} {t6:TE} {e7:Expr} {t7:TE} (h1:jE X e1 t1) (h2:jE X e2 t2) (h3:jE X e3 t3) (h4:jE X e4 t4) (h5:jE X e5 t5) (h6:jE X e6 t6) (h7:jE X e7 t7) (s1:zt e1=false:=by rfl) (s2:zt e2=false:=by rfl) (s3:zt e3=false:=by rfl) (s4:zt e4=false:=by rfl) (s5:zt e5=false:=by rfl) (s6:zt e6=false:=by rfl) (s7:zt e7=false:=by rfl):jA X [e1,e2,e3,e4,e5,e6,e7] (zH t1 (zH t2 (zH t3 (zH t4 (zH t5 (zH t6 (zH t7 tNil))))))):=(ja_c h1 (ja_c h2 (ja_c h3 (ja_c h4 (ja_c h5 (ja_c h6 (ja_c h7 zE s7) s6) s5) s4) s3) s2) s1)
theorem jA8 {e1:Expr} {t1:TE} {e2:Expr} {t2:TE} {e3:Expr} {t3:TE} {e4:Expr} {t4:TE} {e5:Expr} {t5:TE} {e6:Expr} {t6:TE} {e7:Expr} {t7:TE} {e8:Expr} {t8:TE} (h1:jE X e1 t1) (h2:jE X e2 t2) (h3:jE X e3 t3) (h4:jE X e4 t4) (h5:jE X e5 t5) (h6:jE X e6 t6) (h7:jE X e7 t7) (h8:jE X e8 t8) (s1:zt e1=false:=by rfl) (s2:zt e2=false:=by rfl) (s3:zt e3=false:=by rfl) (s4:zt e4=false:=by rfl) (s5:zt e5=false:=by rfl) (s6:zt e6=false:=by rfl) (s7:zt e7=false:=by rfl) (s8:zt e8=false:=by rfl):jA X [e1,e2,e3,e4,e5,e6,e7,e8] (zH t1 (zH t2 (zH t3 (zH t4 (zH t5 (zH t6 (zH t7 (zH t8 tNil)))))))):=(ja_c h1 (ja_c h2 (ja_c h3 (ja_c h4 (ja_c h5 (ja_c h6 (ja_c h7 (ja_c h8 zE s8) s7) s6) s5) s4) s3) s2) s1)
theorem cA {k:Nat} {ps:List Str} {sp:Sp} {e:Expr} {es:List Expr} {t:TA} (F:Ca X.prog X.w X.K X.mg X.base CX0 k x ps sp) (hr:Room k X.A) (ha:jA X (e :: es) t) (hg:Gl X x:=by rfl) (hdb:(x == ("__debug__":Str))=false:=by decide) (h1:zt e=false:=by rfl) (h2:es.all (fun e=>!zt e)=true:=by rfl):jE X (.Call (.Name x p) (e :: es) [] pos) (Zc sp [] E0 t):=zbI F hr hg Zf ha hdb h1 h2
theorem xX {r:R2} {a b:Expr} {ta tb:TE} (hr:jIx X r) (ha:jE X a ta) (hb:jE X b tb) (hs:ju b:=by exact fun _ _=>rfl):jE X (.Subscript a b pos) (tOp r ta tb):=yx hr ha hb hs
theorem xT (i:Nat) {n j} (hN:X.N[i]?=some x:=by rfl) (hv:Vis X.env.scope x:=by first | exact Or.inl rfl | exact Or.inr (Or.inl rfl) | exact Or.inr (Or.inr rfl)) (hd:(x == ("__debug__":Str))=false:=by decide) (hcd:(x == ("__classdict__":Str))=false:=by decide):jE X (.Subscript (.Name x p) (.Constant (.int n) j q) pos) (tOp (rIxT X.K) (tVar i) (tC (.int n))):=yx wF (jv i hN hv hd hcd) zj (fun _ _=>rfl)
theorem xL (i:Nat) {n j} (hN:X.N[i]?=some x:=by rfl) (hv:Vis X.env.scope x:=by first | exact Or.inl rfl | exact Or.inr (Or.inl rfl) | exact Or.inr (Or.inr rfl)) (hd:(x == ("__debug__":Str))=false:=by decide) (hcd:(x == ("__classdict__":Str))=false:=by decide):jE X (.Subscript (.Name x p) (.Constant (.int n) j q) pos) (tOp (rIxL X.K) (tVar i) (tC (.int n))):=yx zX (jv i hN hv hd hcd) zj (fun _ _=>rfl)
theorem sE {e:Expr} {te:TE} (i:Nat) (hN:X.N.Nodup) (he:jE X e te) (hi:X.N[i]?=some x:=by rfl) (hx:Loc X.env.scope x:=by first | exact Or.inl rfl | exact Or.inr rfl) (hs:swapsWith e (some (.Name x q)) pos.line X.env=pure false:=by rfl) (hf:X.fn x=true\/X.env.scope.names.lookup x=some .local:=by first | exact .inl rfl | exact .inr rfl | assumption):jS X (.Assign [.Name x q] e pos) (tAsg te (ve i)):=zaR hN hi hx he hs hf
theorem gN (i:Nat) (hN:X.N.Nodup) (hi:X.N[i]?=some x:=by rfl) (hx:Loc X.env.scope x:=by first | exact Or.inl rfl | exact Or.inr rfl) (hf:X.fn x=true\/X.env.scope.names.lookup x=some .local:=by first | exact .inl rfl | exact .inr rfl | assumption):jG X (.Name x pos) (ve i):=JO hN hi hx hf
theorem tN {op:CmpOp} {r:R2} {a c:Expr} {ta tb:TE} (ho:jOp X (compareOp op) r) (ha:jE X a ta) (hb:jE X c tb) (hm:behindInMarks op c=false:=by exact yq _):jT X (.Compare a [op] [c] pos) (Yy (tOp r ta tb)):=yY ho ha hb hm
theorem jL {e:Expr} {te:TE} (hm:X.mg "len"=none) (h:jE X e te) (hg:Gl X "len":=by rfl) (h1:zt e=false:=by rfl):jE X (.Call (.Name "len" p) [e] [] pos) (tCB (fun xs H Q=>∃ p ys,xs=[.ref p]/\(SqL X.K H p ys\/SqT X.K H p ys)/\Q (.int ys.length) H) (zH te tNil)):=yQ vq hg hm PySem.boot_len (ja_c h zE h1) (by decide) (by decide) h1 rfl
theorem aB {p q:Prop} [Decidable p] (h:¬ p:=by decide):p->q:=fun c=>absurd c h
end
end L2
namespace L2
open PySem PySem.Spec PySem.Calls PyProof.Rows
section
variable {P:Program} {w:World} {A:Around} {E:Value->Shared->Prop} {s:Shared} {K:PySem.W.Frag}
end
section
variable {X:Cx} {e C:Addr} {oe:Obj} {ex:Expr} {te:TE} {name:Str} {pos:Pos} {f:Addr}
end
section
variable {X:Cx} {Ch:Addr} {x n:Str} {i k:Nat} {np hpos tpos:Pos} {b0:Stmt} {suite:List Stmt} {th:Addr->Obj->TS} {ps:List Str} {sp:Sp} {y:Str} {p cpos epos:Pos} {a:Expr} {as:List Expr} {t:TA}
end
end L2
namespace L2
open PySem PySem.Spec PyProof.Rows
section
variable {P:Program} {w:World} {A:Around} {E:Value->Shared->Prop}
end
section
variable {X:Cx} {pos:Pos}
end
end L2
namespace L2
open PySem
theorem zK:sizeLine=16777216:=by decide
def FnIn (K:PySem.W.Frag) (x qual:Str) (st:Stmt) (f:Addr):Prop:=∃ (oc:Value) (od:Option Addr) (kV doc pm:Value) (an:Option Addr) (cdv ct:Value) (osl:Array (Option Value)),K.lookup f=some ⟨oc,od,.func (PySem.W.fnOf x qual (zT st) (zJ st) (zo st) .none kV doc pm an cdv ct),osl⟩/\PySem.W.codeIn K cdv qual=true/\PySem.W.keepIn K (.ref f)=true
theorem FnIn.fn {K:PySem.W.Frag} {x qual:Str} {st:Stmt} {f:Addr} (h:FnIn K x qual st f):∃ fd,Fun K x qual st f fd/\PySem.W.keepIn K (.ref f)=true:=by
  obtain ⟨_,_,_,_,_,_,_,_,_,l,c,k⟩:=h
  exact ⟨_,WC l c k,k⟩
def DfIn (K:PySem.W.Frag) (x:Str) (st:Stmt):Prop:=∃ f,PySem.W.nsIn K mainGlobals x=some (some (.ref f))/\FnIn K x x st f
def MeIn (K:PySem.W.Frag) (C:Addr) (x qual:Str) (st:Stmt):Prop:=∃ f,PySem.W.findIn K (.ref C) x=some (some (.ref f))/\PySem.W.isFn K (.ref f)=true/\FnIn K x qual st f
theorem MeIn.ma {P:Program} {w:World} {K:PySem.W.Frag} {mg:Str->Option Value} {base:Heap} {CX:CXT} {k:Nat} {C:Addr} {x qual:Str} {st:Stmt} {ps:List Str} {sp:Sp} (h:MeIn K C "__init__" qual st) (hb:∀ (kV doc pm:Value) (an:Option Addr) (cdv ct:Value) (us:List Value),us.length=ps.length->bindArgs (PySem.W.fnOf "__init__" qual (zT st) (zJ st) (zo st) .none kV doc pm an cdv ct) ⟨us,[]⟩=pure (ps.zip us))
    (mk:PySem.W.makesIn K C=true) (kp:PySem.W.keepIn K (.ref C)=true) (hm:mg x=some (.ref C)) (ok:∀ f fd,Fun K "__init__" qual st f fd->FnOk P w K mg base CX k f fd ps sp):Ma P w K mg base CX k x C ps sp:=by
  obtain ⟨f,a,n,g⟩:=h
  obtain ⟨fd,F,_⟩:=g.fn
  exact ⟨f,fd,⟨mk,a,n,kp⟩,ok f fd F,F.binds hb,hm⟩
theorem DfIn.ca {P:Program} {w:World} {K:PySem.W.Frag} {mg:Str->Option Value} {base h:Heap} {CX:CXT} {k:Nat} {x:Str} {st:Stmt} {ps:List Str} {sp:Sp} (X:K.In h) (G:h.Ns mainGlobals mg) (d:DfIn K x st) (hb:∀ (kV doc pm:Value) (an:Option Addr) (cdv ct:Value) (us:List Value),us.length=ps.length->bindArgs (PySem.W.fnOf x x (zT st) (zJ st) (zo st) .none kV doc pm an cdv ct) ⟨us,[]⟩=pure (ps.zip us))
    (ok:∀ f fd,Fun K x x st f fd->FnOk P w K mg base CX k f fd ps sp):Ca P w K mg base CX k x ps sp:=by
  obtain ⟨f,a,g⟩:=d
  obtain ⟨fd,F,kp⟩:=g.fn
  exact ⟨f,fd,ok f fd F,F.binds hb,kp,PySem.W.mg_of X G a⟩
theorem DfIn.mk {K:PySem.W.Frag} {x:Str} {st:Stmt} {f:Addr} {oc:Value} {od:Option Addr} {kV doc pm:Value} {an:Option Addr} {cdv ct:Value} {osl:Array (Option Value)} (a:PySem.W.nsIn K mainGlobals x=some (some (.ref f))) (l:K.lookup f=some ⟨oc,od,.func (PySem.W.fnOf x x (zT st) (zJ st) (zo st) .none kV doc pm an cdv ct),osl⟩) (c:PySem.W.codeIn K cdv x=true) (k:PySem.W.keepIn K (.ref f)=true):DfIn K x st:=⟨f,a,oc,od,kV,doc,pm,an,cdv,ct,osl,l,c,k⟩
theorem MeIn.mk {K:PySem.W.Frag} {C:Addr} {x qual:Str} {st:Stmt} {f:Addr} {oc:Value} {od:Option Addr} {kV doc pm:Value} {an:Option Addr} {cdv ct:Value} {osl:Array (Option Value)} (a:PySem.W.findIn K (.ref C) x=some (some (.ref f))) (l:K.lookup f=some ⟨oc,od,.func (PySem.W.fnOf x qual (zT st) (zJ st) (zo st) .none kV doc pm an cdv ct),osl⟩) (c:PySem.W.codeIn K cdv qual=true) (k:PySem.W.keepIn K (.ref f)=true) (n:PySem.W.isFn K (.ref f)=true):MeIn K C x qual st:=⟨f,a,n,oc,od,kV,doc,pm,an,cdv,ct,osl,l,c,k⟩
structure OwnIn (K:PySem.W.Frag) (x:Str) (C:Addr):Prop where
  n:PySem.W.nsIn K mainGlobals x=some (some (.ref C))
  pg:PySem.W.plainGet K C Str.empty=true
  hd:PySem.W.hasDictIn K C=true
  po:PySem.W.plainOver K C=true
  sa:PySem.W.findIn K (.ref C) "__setattr__"=some (some (.builtin "object.__setattr__"))
  mks:PySem.W.makesIn K C=true
  kp:PySem.W.keepIn K (.ref C)=true
theorem OwnIn.cls {K:PySem.W.Frag} {x:Str} {C:Addr} (o:OwnIn K x C):Cls K C:=⟨o.pg,o.hd,o.po,o.sa⟩
theorem usS {n:Nat} {p:List Value->Prop} (h:∀ a us,us.length=n->p (a :: us)):∀ us:List Value,us.length=n + 1->p us:=fun us=>by
  cases us with
  | nil=>exact fun e=>by cases e
  | cons a r=>exact fun e=>h a r (Nat.succ.inj e)
theorem us1 {p:List Value->Prop} (h:∀ a,p [a]):∀ us:List Value,us.length=1->p us:=usS fun a us e=>by rw [List.length_eq_zero_iff.mp e]; exact h a
theorem us2 {p:List Value->Prop} (h:∀ a b,p [a,b]):∀ us:List Value,us.length=2->p us:=usS fun a=>us1 (p:=fun l=>p (a :: l)) (h a)
theorem us3 {p:List Value->Prop} (h:∀ a b c,p [a,b,c]):∀ us:List Value,us.length=3->p us:=usS fun a=>us2 (p:=fun l=>p (a :: l)) (h a)
theorem us4 {p:List Value->Prop} (h:∀ a b c d,p [a,b,c,d]):∀ us:List Value,us.length=4->p us:=usS fun a=>us3 (p:=fun l=>p (a :: l)) (h a)
theorem us5 {p:List Value->Prop} (h:∀ a b c d e,p [a,b,c,d,e]):∀ us:List Value,us.length=5->p us:=usS fun a=>us4 (p:=fun l=>p (a :: l)) (h a)
theorem us6 {p:List Value->Prop} (h:∀ a b c d e f,p [a,b,c,d,e,f]):∀ us:List Value,us.length=6->p us:=usS fun a=>us5 (p:=fun l=>p (a :: l)) (h a)
theorem us7 {p:List Value->Prop} (h:∀ a b c d e f g,p [a,b,c,d,e,f,g]):∀ us:List Value,us.length=7->p us:=usS fun a=>us6 (p:=fun l=>p (a :: l)) (h a)
section
variable {a b c d e u:TS} {D:Ends} {σ:List (Option V)} {H:Hp}
theorem ixT {K:PySem.W.Frag} {Q:VK} {p:Addr} {xs:List V} {i:Int} {v:V} (h:H p=some (.tup xs)) (a:atI xs i=some v) (q:Q v H):tC (.int i) σ H fun y H2=>rIxT K (.ref p) y H2 Q:=⟨p,xs,i,v,rfl,rfl,SqT.of h,a,q⟩
theorem ixL {K:PySem.W.Frag} {Q:VK} {p:Addr} {xs:List V} {i:Int} {v:V} (h:H p=some (.lst xs)) (a:atI xs i=some v) (q:Q v H):tC (.int i) σ H fun y H2=>rIxL K (.ref p) y H2 Q:=⟨p,xs,i,v,rfl,rfl,SqL.of h,a,q⟩
theorem nxtC {E:Ends} (h:E.nx σ H):v0 E σ H:=h
end
end L2
namespace L2
open PySem PySem.Spec PyProof.Rows
def Itv (K:PySem.W.Frag) (a:Addr) (n:Nat):It :=
  ⟨fun i H=>i < n/\∃ xs x,SqL K H a xs/\xs[n - 1 - i]?=some x,fun i H x H'=>H'=H/\∀ xs,SqL K H a xs->xs[n - 1 - i]?=some x,fun i _=>n<=i⟩
theorem WT {P:Program} {w:World} {K:PySem.W.Frag} {tg:Expr} (a it:Addr) (n:Nat):Turn P w K tg (Itv K a n) [it] it (fun i h=>i<=n/\h.IsRevIter it a ((n:Int) - 1 - (i:Nat))) where
  mem:=by simp
  obj:=fun i h st b hb=>by
    have e:b=it:=by simpa using hb
    subst e
    obtain ⟨_,o,e,c,d⟩:=st
    exact ⟨o,e,fun v z=>by rw [d] at z; cases z⟩
  keep:=fun i h h' st k=>⟨st.1,st.2.at fun o e=>k it (by simp) o e⟩
  item:=by
    intro X hP hw hK hc i pins s σ H E I hf st hg
    subst hP hw hK
    obtain ⟨hi,xs,x,hq,hx⟩:=hg
    obtain ⟨its,rv,p,hz⟩:=I.list hq
    obtain ⟨u,hu,ru⟩:=rv.get hx
    obtain ⟨f0,f1,f2,f3,f4,f5⟩:=hf it (by simp)
    obtain ⟨_,st2⟩:=st
    have e1:(n:Int) - 1 - (i:Nat)=((n - 1 - i:Nat):Int):=by lia
    rw [e1] at st2
    refine wpAny_pyNext_rev_item st2 p.isList (x:=u) (by simpa using hu) fun h' st' sb=>?_
    have I1:Inv X pins σ H { s with heap:=h' }:=I.turned (t':=s.toks) (fun b o hb e=>(sb.2 b hb).trans e) f0 f1 f3 f4 f5
    obtain ⟨o,e,c,d⟩:=id st'
    refine ⟨u,rfl,Yu (s:={ s with heap:=h' }) e c d (by decide) ⟨x,H,I1,ru,⟨rfl,fun ys hy=>by rw [I.list_inj hy hq]; exact hx⟩,⟨hi,?_⟩,fun b hb=>(hf b hb).1⟩⟩
    have e2:(n:Int) - 1 - ((i + 1:Nat):Int)=((n - 1 - i:Nat):Int) - 1:=by lia
    rw [e2]
    exact st'
  done:=by
    intro X hP hw hK hc i pins s σ H E I hf st hg
    subst hP hw hK
    obtain ⟨f0,f1,f2,f3,f4,f5⟩:=hf it (by simp)
    obtain ⟨h1,st2⟩:=st
    have h2:n<=i:=hg
    have e1:(n:Int) - 1 - (i:Nat)=-1:=by lia
    rw [e1] at st2
    exact wpAny_pyNext_rev_end (I.ok.hd hc) st2 fun h' eb=>⟨rfl,I.turned (t':=s.toks) (fun b o hb e=>eb b o hb e) f0 f1 f3 f4 f5⟩
  self:=fun _ _ _ _ _ st h=>wpAny_pyIter_revIter st.2 h
section
variable {X:Cx} {tg:Expr}
def iRev (K:PySem.W.Frag) (ta:TA):TI:=fun σ H R=>ta σ H fun vs H1=>∃ a xs,vs=[.ref a]/\SqL K H1 a xs/\R (Itv K a xs.length) H1
theorem zaX {a:Expr} {ta:TA} {p pos:Pos} (hg:Gl X "reversed") (hm:X.mg "reversed"=none) (ha:PA X [a] ta) (hs:starEach [a] X.env=[(false,eval a X.env)]:=by rfl):PI X tg (.Call (.Name "reversed" p) [a] [] pos) (iRev X.K ta):=by
  intro pins s σ H R I h
  refine Call_ (xh I hg hm boot_reversed (PyProof.Rows.callWith_type1 (thn (ha pos pins s σ H _ I h) fun us s1 ⟨vs,H1,I1,r1,q1⟩=>?_) hs rfl))
  obtain ⟨l,xs,e,hq,q⟩:=q1
  subst e
  obtain ⟨u,rfl,rx⟩:=xj r1
  cases rx
  obtain ⟨its,rv,pl,hz⟩:=I1.list hq
  have hl:=rv.length
  refine call_reversed_list pl.isList ?_
  have hr:(s1.heap.push (revObj l ((its.toArray.size:Int) - 1))).IsRevIter s1.heap.objs.size l ((its.toArray.size:Int) - 1):=⟨_,Heap.get?_push_size _ rfl,rfl,rfl⟩
  refine wpAny_pyIter_revIter (s:={ s1 with heap:=s1.heap.push (revObj l ((its.toArray.size:Int) - 1)) }) hr ?_
  refine ⟨s1.heap.objs.size,[s1.heap.objs.size],_,_,H1,rfl,I1.kept (t':=s1.toks) fun b o e=>Heap.get?_push_of_some _ e,WT l _ xs.length,⟨Nat.zero_le _,?_⟩,fun b hb=>?_,q⟩
  · have e:(xs.length:Int) - 1 - ((0:Nat):Int)=(its.toArray.size:Int) - 1:=by simp [hl]
    rw [e]
    exact hr
  have e:b=s1.heap.objs.size:=by simpa using hb
  subst e
  exact I1.fpOk (Nat.le_refl _) (I1.hok.fresh (Nat.le_refl _))
theorem zaY {a:Expr} {t:TA} {p pos:Pos} (hg:Gl X "reversed") (hm:X.mg "reversed"=none) (ha:jA X [a] t) (h:zt a=false:=by rfl):jI X tg (.Call (.Name "reversed" p) [a] [] pos) (iRev X.K t):=⟨zaX hg hm ha.out (zy h)⟩
end
theorem JU {K:PySem.W.Frag} {a:Addr} {xs:List V} {g:TG} {tb:TS} {D:Ends} {σ:St} {H:Hp} (Pv:Nat->St->Hp->Prop) (h0:Pv 0 σ H) (hl:∀ i σ H,i<=xs.length->Pv i σ H->SqL K H a xs)
    (hs:∀ i x σ H,xs.reverse[i]?=some x->Pv i σ H->g x σ H fun σ2 H2=>tb { D with nx:=Pv (i + 1),ct:=Pv (i + 1),bk:=D.nx } σ2 H2) (hd:∀ σ H,Pv xs.length σ H->D.nx σ H) :
    ∃ W:Nat->Nat->St->Hp->Prop,(∃ m,W 0 m σ H)/\∀ i m σ H,W i m σ H ->
      ((Itv K a xs.length).stop i H/\D.nx σ H)\/((Itv K a xs.length).go i H/\∃ N:St->Hp->Prop,(∀ σ' H',N σ' H'->∃ m',m' < m/\W (i + 1) m' σ' H')/\∀ x H',(Itv K a xs.length).yld i H x H'->g x σ H' fun σ2 H2=>tb { D with nx:=N,ct:=N,bk:=D.nx } σ2 H2):=by
  refine ⟨fun i m σ H=>m=xs.length - i/\i<=xs.length/\Pv i σ H,⟨xs.length,by simp,Nat.zero_le _,h0⟩,?_⟩
  rintro i m σ H ⟨rfl,hi,p⟩
  have q:=hl i σ H hi p
  by_cases hlt:i < xs.length
  · refine .inr ⟨⟨hlt,xs,xs[xs.length - 1 - i],q,by rw [List.getElem?_eq_getElem]⟩,Pv (i + 1),fun σ' H' p'=>⟨xs.length - (i + 1),by lia,rfl,hlt,p'⟩,fun x H' y=>?_⟩
    obtain ⟨e,y⟩:=y
    subst e
    refine hs i x σ _ ?_ p
    rw [List.getElem?_reverse hlt]
    exact y xs q
  · have e:i=xs.length:=by lia
    subst e
    exact .inl ⟨Nat.le_refl _,hd σ H p⟩
section
variable {g:TG} {tt:TT} {te:TE} {Q:VK} {σ:St} {H:Hp}
theorem vv {K:PySem.W.Frag} {a:Addr} {xs:List V} (Pv:Nat->St->List V->Hp->Prop) (h0:Pv 0 σ [] H) (hl:∀ i τ ys H,i<=xs.length->Pv i τ ys H->SqT K H a xs)
    (hs:∀ i x τ ys H,xs[i]?=some x->Pv i τ ys H->g x τ H fun τ2 H2=>tt τ2 H2 fun b H3=>if b=true then te τ2 H3 fun y H4=>ys.length < sizeLine/\Pv (i + 1) τ2 (ys ++ [y]) H4 else Pv (i + 1) τ2 ys H3)
    (hd:∀ τ ys H,Pv xs.length τ ys H->∀ p,H p=none->Q (.ref p) (upd H p (.lst ys))):∃ W,(∃ m,W 0 m σ [] H)/\lcBy (Itt K a) g tt te Q W:=by
  refine ⟨fun i m τ ys H=>m=xs.length - i/\i<=xs.length/\Pv i τ ys H,⟨xs.length,by simp,Nat.zero_le _,h0⟩,?_⟩
  rintro i m τ ys H ⟨rfl,hi,p⟩
  have q:=hl i τ ys H hi p
  by_cases hlt:i < xs.length
  · refine .inr ⟨⟨xs,xs[i],q,by simp [hlt]⟩,Pv (i + 1),fun τ' ys' H' p'=>⟨xs.length - (i + 1),by lia,rfl,hlt,p'⟩,fun x H' y=>?_⟩
    obtain ⟨e,y⟩:=y
    subst e
    exact hs i x τ ys _ (y xs q) p
  · have e:i=xs.length:=by lia
    subst e
    exact .inl ⟨⟨xs,q,Nat.le_refl _⟩,hd τ ys H p⟩
end
theorem old {H:Hp} {p q:Addr} {o u:HO} (hp:H p=none) (h:H q=some u):upd H p o q=some u:=by rw [zk (zn h hp)]; exact h
theorem Same.new {H H1:Hp} {p:Addr} {o:HO} (s:Same H H1) (hp:H1 p=none):Same H (upd H1 p o):=fun b u q=>old hp (s b u q)
theorem Same.put {H H1:Hp} {p:Addr} {o:HO} (s:Same H H1) (hp:H p=none):Same H (upd H1 p o):=fun b u q=>by rw [zk (zn q hp)]; exact s b u q
section
variable {X:Cx}
end
section
variable (P:Program) (w:World)
end
section
variable {P:Program} {w:World} {H H':Hp} {h h':Heap} {a:Addr} {o:HO}
end
section
variable {P:Program} {w:World} {H:Hp} {h h':Heap} {x e:Addr} {o':HO}
end
section
variable {fs fs' ex ex':List Addr} {H H1 H2:Hp} {h h1 h2 h':Heap} {a x e:Addr} {o:HO}
end
section
variable {X:Cx} {pins:List (Addr × Obj)} {σ:List (Option V)} {H H':Hp} {s:Shared} {h':Heap}
end
section
variable {X:Cx}
variable {a b:Expr} {ta tb:TE} {pos:Pos}
variable {tA tB':TT} {rest:List Expr}
end
section
variable {X:Cx} {pins:List (Addr × Obj)} {σ:St} {H:Hp} {s:Shared} {a:Addr} {xs ys:List V}
end
section
variable {X:Cx} {pins:List (Addr × Obj)} {σ:St} {H:Hp} {s:Shared} {E:Value->Shared->Prop}
end
section
variable {X:Cx} {st:Stmt} {rest:List Stmt} {t u:TS} {e:Expr} {te:TE} {pos:Pos}
end
section
variable {X:Cx} {pos:Pos}
end
section
variable {X:Cx} {tg:Expr}
end
section
variable {X:Cx} {a b c:Expr} {ta tb tc:TE} {pos:Pos}
end
section
variable {prog:Program} {w:World} {A:Around} {E:Value->Shared->Prop} {s:Shared} {K:PySem.W.Frag} {x dx C f:Addr} {mA:Str->Option Value} {name:Str} {v:Value}
end
section
variable {P:Program} {w:World} {H H':Hp} {h h':Heap} {a C dx:Addr} {fs fs':List (Str × V)}
end
section
variable {X:Cx} {pins:List (Addr × Obj)} {σ:St} {H:Hp} {s:Shared} {a C dx:Addr} {fs:List (Str × V)} {f:Str} {v:V} {A:Around} {E:Value->Shared->Prop}
end
section
variable {X:Cx} {o e value:Expr} {f:Str} {pos pos' tpos:Pos} {ta tv:TE}
end
section
variable {X:Cx} {pins:List (Addr × Obj)} {σ:St} {H:Hp} {s:Shared} {A:Around} {E:Value->Shared->Prop} {Q:Value->Shared->Prop} {c:Value} {b:Bool}
end
section
variable {X:Cx} {e:Expr} {es:List Expr} {te:TE} {t:TA} {pos:Pos}
end
section
variable {X:Cx} {pins:List (Addr × Obj)} {σ:St} {H:Hp} {s s':Shared}
end
section
variable {X:Cx} {CX:CXT} {k:Nat} {f C:Addr} {fd:FuncData} {ps:List Str} {sp:Sp} {dvs:List V} {ds:List Value} {E:XK} {x m:Str} {p pos apos:Pos} {e o:Expr} {es:List Expr} {ta:TE} {t:TA}
end
section
variable {X:Cx} {CX:CXT} {k:Nat} {f C:Addr} {fd:FuncData} {ps ks:List Str} {sp:Sp} {E:XK} {x m:Str} {p pos apos kpos:Pos} {e o:Expr} {es:List Expr} {kws:List Keyword} {te ta:TE} {t tk:TA} {nm:Option Str}
variable {g:List Value->List Value->List Value} {gV:List V->List V->List V}
end
section
variable {X:Cx} {x:Str} {p pos:Pos} {e:Expr} {es:List Expr} {t:TA} {id T:String} {r:List V->Hp->VK->Prop}
end
section
variable {κ:Type} [DecidableEq κ]
def valV (kvs:List (κ × V)) (k:κ):Option V:=(kvs.find? fun kv=>decide (kv.1=k)).map (·.2)
def putK (kvs:List (κ × V)) (k:κ) (v:V):List (κ × V) :=
  if (kvs.any fun kv=>decide (kv.1=k))=true then kvs.map (fun kv=>if kv.1=k then (kv.1,v) else kv) else kvs ++ [(k,v)]
theorem yU {p:κ × V} {r:List (κ × V)} {k:κ} (e:p.1=k):valV (p :: r) k=some p.2:=by simp [valV,List.find?_cons,e]
theorem yV {p:κ × V} {r:List (κ × V)} {k:κ} (e:¬ p.1=k):valV (p :: r) k=valV r k:=by simp [valV,List.find?_cons,e]
theorem xo (k:κ):∀ kvs:List (κ × V),(kvs.any fun kv=>decide (kv.1=k))=(valV kvs k).isSome
  | []=>rfl
  | p :: r=>by
    rw [List.any_cons]
    by_cases e:p.1=k
    · simp only [yU e,decide_eq_true e,Bool.true_or,Option.isSome_some]
    · rw [yV e,decide_eq_false e,Bool.false_or]; exact xo k r
theorem wP (kvs:List (κ × V)) (k:κ) (v:V):(putK kvs k v).length<=kvs.length + 1:=by
  unfold putK
  split
  · rw [List.length_map]; lia
  · rw [List.length_append,List.length_cons,List.length_nil]; lia
theorem RelO.isSome_eq {o:Option V} {u:Option Value} (r:RelO o u):o.isSome=u.isSome:=by
  cases o with
  | none=>cases u with
    | none=>rfl
    | some _=>exact (show False from r).elim
  | some _=>cases u with
    | none=>exact (show False from r).elim
    | some _=>rfl
theorem RelO.getD {o:Option V} {u:Option Value} {d:V} {d':Value} (r:RelO o u) (rd:RelV d d'):RelV (o.getD d) (u.getD d'):=by
  cases o with
  | none=>cases u with
    | none=>exact rd
    | some _=>exact (show False from r).elim
  | some _=>cases u with
    | none=>exact (show False from r).elim
    | some _=>exact r
theorem KV.val {kvs:List (κ × V)} {vs:List (κ × Value)} (r:KV kvs vs) (k:κ):RelO (valV kvs k) (valueAt vs k):=by
  unfold KV at r
  induction r with
  | nil=>exact True.intro
  | @cons p q ps qs h t ih =>
    obtain ⟨h1,h2⟩:=h
    by_cases e:p.1=k
    · have e':q.1=k:=h1.symm.trans e
      have b:valueAt (q :: qs) k=some q.2:=by simp [valueAt,List.find?_cons,e']
      rw [yU e,b]; exact h2
    · have e':¬ q.1=k:=fun z=>e (h1.trans z)
      have b:valueAt (q :: qs) k=valueAt qs k:=by simp [valueAt,List.find?_cons,e']
      rw [yV e,b]; exact ih
theorem KV.any {kvs:List (κ × V)} {vs:List (κ × Value)} (r:KV kvs vs) (k:κ):(kvs.any fun kv=>decide (kv.1=k))=vs.any fun kv=>decide (kv.1=k):=by
  unfold KV at r
  induction r with
  | nil=>rfl
  | cons h t ih=>rw [List.any_cons,List.any_cons,ih,h.1]
theorem KV.repl {kvs:List (κ × V)} {vs:List (κ × Value)} (r:KV kvs vs) (k:κ) {y:V} {u:Value} (ry:RelV y u) :
    KV (kvs.map fun kv=>if kv.1=k then (kv.1,y) else kv) (vs.map fun kv=>if kv.1=k then (kv.1,u) else kv):=by
  unfold KV at r ⊢
  induction r with
  | nil=>exact .nil
  | @cons p q ps qs h t ih =>
    rw [List.map_cons,List.map_cons]
    refine .cons ?_ ih
    obtain ⟨h1,h2⟩:=h
    by_cases e:p.1=k
    · rw [if_pos e,if_pos (h1.symm.trans e)]; exact ⟨h1,ry⟩
    · rw [if_neg e,if_neg (fun z=>e (h1.trans z))]; exact ⟨h1,h2⟩
theorem KV.put {kvs:List (κ × V)} {vs:List (κ × Value)} (r:KV kvs vs) (k:κ) {y:V} {u:Value} (ry:RelV y u):KV (putK kvs k y) (stored vs k u):=by
  unfold putK stored
  rw [r.any k]
  by_cases e:(vs.any fun kv=>decide (kv.1=k))=true
  · rw [if_pos e,if_pos e]; exact r.repl k ry
  · rw [if_neg e,if_neg e]; exact Paired.snoc r ⟨rfl,ry⟩
theorem KV.length {kvs:List (κ × V)} {vs:List (κ × Value)} (r:KV kvs vs):kvs.length=vs.length:=Paired.length r
end
theorem YI {P:Program} {w:World} {k:Key} {u:Value} (r:RelV (kV k) u):(zO P w).is k u=true:=by
  cases k with
  | inl i=>obtain ⟨t,e⟩:=(show ∃ t,u=Value.int i t from r); subst e; exact j8 P w i t
  | inr x=>obtain ⟨t,e⟩:=(show ∃ t,u=Value.str x t from r); subst e; exact j9 P w x t
theorem ji {P:Program} {w:World}:∀ {ks:List Key} {us:List Value},Vals (ks.map kV) us->ItemsAre (zO P w) ks us
  | [],_,r=>by rw [List.map_nil] at r; cases r; exact .nil
  | k :: ks,_,r=>by
    rw [List.map_cons] at r
    cases r with
    | cons h t=>exact .cons (YI h) (ji t)
abbrev KT (H:Hp):List (List Key × V)->List (List Key × Addr × Value)->Prop:=Paired fun p q=>p.1=q.1/\H q.2.1=some (.tup (p.1.map kV))/\RelV p.2 q.2.2
theorem KT.val {H:Hp} {kvs:List (List Key × V)} {xs:List (List Key × Addr × Value)} (r:KT H kvs xs) (k:List Key):RelO (valV kvs k) ((atKey xs k).map (·.2)):=by
  induction r with
  | nil=>exact True.intro
  | @cons p q ps qs h t ih =>
    obtain ⟨h1,_,h2⟩:=h
    by_cases e:p.1=k
    · have e':q.1=k:=h1.symm.trans e
      have b:atKey (q :: qs) k=some q.2:=by simp [atKey,List.find?_cons,e']
      rw [yU e,b]; exact h2
    · have e':¬ q.1=k:=fun z=>e (h1.trans z)
      have b:atKey (q :: qs) k=atKey qs k:=by simp [atKey,List.find?_cons,e']
      rw [yV e,b]; exact ih
theorem KT.repl {H:Hp} {kvs:List (List Key × V)} {xs:List (List Key × Addr × Value)} (r:KT H kvs xs) (k:List Key) {y:V} {u:Value} (ry:RelV y u) :
    KT H (kvs.map fun kv=>if kv.1=k then (kv.1,y) else kv) (xs.map (putAt k u)):=by
  induction r with
  | nil=>exact .nil
  | @cons p q ps qs h t ih =>
    rw [List.map_cons,List.map_cons]
    refine .cons ?_ ih
    obtain ⟨h1,h2,h3⟩:=h
    unfold putAt
    by_cases e:p.1=k
    · rw [if_pos e,if_pos (h1.symm.trans e)]; exact ⟨h1,h2,ry⟩
    · rw [if_neg e,if_neg (fun z=>e (h1.trans z))]; exact ⟨h1,h2,h3⟩
theorem KT.put {H:Hp} {kvs:List (List Key × V)} {xs:List (List Key × Addr × Value)} (r:KT H kvs xs) (k:List Key) {b:Addr} {y:V} {u:Value} (hb:H b=some (.tup (k.map kV))) (ry:RelV y u) :
    KT H (putK kvs k y) (storedH xs k b u):=by
  have e:(kvs.any fun kv=>decide (kv.1=k))=(atKey xs k).isSome:=by
    rw [xo,(r.val k).isSome_eq,Option.isSome_map]
  unfold putK storedH
  rw [e]
  by_cases q:(atKey xs k).isSome=true
  · rw [if_pos q,if_pos q]; exact r.repl k ry
  · rw [if_neg q,if_neg q]; exact Paired.snoc r ⟨rfl,hb,ry⟩
theorem KT.keeps {H H':Hp} {kvs:List (List Key × V)} {xs:List (List Key × Addr × Value)} (r:KT H kvs xs) (ht:∀ b ys,H b=some (.tup ys)->H' b=some (.tup ys)):KT H' kvs xs :=
  Paired.mapP r fun _ _ z=>⟨z.1,ht _ _ z.2.1,z.2.2⟩
section
variable {P:Program} {w:World} {H:Hp} {h:Heap} {a:Addr}
theorem QU {u:HO} (ok:HOk P w H h) (e:Rd H a u):ObjOk P w H h a u:=e.ok ok
theorem Zh {kvs:List (Key × V)} (ok:HOk P w H h) (e:Rd H a (.dK kvs)):kvs.length<=sizeLine/\(a == sysModules)=false/\∃ vs,KV kvs vs/\h.DictOf (zO P w) a vs :=
  show ObjOk P w H h a (.dK kvs) from QU ok e
theorem QV {kvs:List (Key × V)} (ok:HOk P w H h) (e:H a=some (.dK kvs)):kvs.length<=sizeLine/\(a == sysModules)=false/\∃ vs,KV kvs vs/\h.DictOf (zO P w) a vs:=Zh ok (.inl e)
theorem jJ {ks:List Key} (ok:HOk P w H h) (e:H a=some (.tup (ks.map kV))):(tupleKind (zO P w)).is h ks a:=by
  obtain ⟨_,its,r,o,h1,h2,_,n,h3⟩:=(show ObjOk P w H h a (.tup (ks.map kV)) from ok a _ e)
  exact ⟨o,its.toArray,n,h1,h2,h3,by simpa using ji r⟩
theorem Zi {kvs:List (List Key × V)} (ok:HOk P w H h) (e:Rd H a (.dT kvs)):kvs.length<=sizeLine/\(a == sysModules)=false /\
    ∃ xs,KT H kvs xs/\h.DictOfH (tupleKind (zO P w)) a xs:=by
  obtain ⟨z,y,xs,r,o,es,ep,h1,h2,h3,h4,h5⟩:=(show ObjOk P w H h a (.dT kvs) from QU ok e)
  refine ⟨z,y,xs,r,o,es,ep,h1,h2,h3,h4,fun x hx=>?_,h5⟩
  have all:∀ {l:List (List Key × V)} {m:List (List Key × Addr × Value)},KT H l m->∀ x∈m,(tupleKind (zO P w)).is h x.1 x.2.1:=by
    intro l m q
    induction q with
    | nil=>intro x hx; exact nomatch hx
    | @cons p q ps qs hq t ih =>
      intro x hx
      rcases List.mem_cons.mp hx with e | hx
      · subst e
        exact jJ ok (by rw [<- hq.1]; exact hq.2.1)
      · exact ih x hx
  exact all r x hx
theorem zbJ {kvs:List (List Key × V)} (ok:HOk P w H h) (e:H a=some (.dT kvs)):kvs.length<=sizeLine/\(a == sysModules)=false /\
    ∃ xs,KT H kvs xs/\h.DictOfH (tupleKind (zO P w)) a xs:=Zi ok (.inl e)
end
def DGet (H:Hp) (a:Addr) (y:V) (r:Option V):Prop :=
  (∃ kvs k,Rd H a (.dK kvs)/\y=kV k/\r=valV kvs k)\/∃ kvs k b,Rd H a (.dT kvs)/\y=.ref b/\H b=some (.tup (k.map kV))/\r=valV kvs k
def DPut (H:Hp) (a:Addr) (y v:V) (H':Hp):Prop :=
  (∃ kvs k,H a=some (.dK kvs)/\y=kV k/\kvs.length < sizeLine/\H'=upd H a (.dK (putK kvs k v))) \/
  ∃ kvs k b,H a=some (.dT kvs)/\y=.ref b/\H b=some (.tup (k.map kV))/\kvs.length < sizeLine/\H'=upd H a (.dT (putK kvs k v))
theorem DGet.k {H:Hp} {a:Addr} {kvs:List (Key × V)} {k:Key} (e:H a=some (.dK kvs)):DGet H a (kV k) (valV kvs k):=.inl ⟨kvs,k,.inl e,rfl,rfl⟩
theorem DPut.k {H:Hp} {a:Addr} {kvs:List (Key × V)} {k:Key} {v:V} (e:H a=some (.dK kvs)) (hl:kvs.length < sizeLine):DPut H a (kV k) v (upd H a (.dK (putK kvs k v))):=.inl ⟨kvs,k,e,rfl,hl,rfl⟩
section
variable {X:Cx} {pins:List (Addr × Obj)} {σ:St} {H:Hp} {s:Shared} {a:Addr} {y v:V} {u r:Value} {o:Option V} {A:Around} {E:Value->Shared->Prop}
theorem Inv.big (I:Inv X pins σ H s):sysModules < s.heap.objs.size:=by
  have h:mainGlobals < s.heap.objs.size:=(I.mod.glob.keeps I.bk).lt
  exact Nat.lt_trans (by decide) h
theorem XB {Q:Value->Shared->Prop} (hu:A.units + 1 < cLine) (I:Inv X pins σ H s) (g:DGet H a y (some v)) (ry:RelV y u) (h:∀ w' s',Inv X pins σ H s'->RelV v w'->Q w' s') :
    wpAny (model X.prog X.w) A (getItem (.ref a) u) Q E s:=by
  rcases g with ⟨kvs,k,e,ey,l⟩ | ⟨kvs,k,b,e,ey,eb,l⟩
  · subst ey
    obtain ⟨z,hd,vs,rel,dd⟩:=Zh I.hok e
    obtain ⟨w',hw,rw'⟩:=RelO.some_of (v:=v) (o:=valueAt vs k) (by rw [l]; exact rel.val k)
    exact wpAny_getItem_of (YI ry) dd.mapOf hw (h w' _ (I.tok _) rw')
  · subst ey
    cases (show u=Value.ref b from ry)
    obtain ⟨z,hd,xs,rel,dd⟩:=Zi I.hok e
    obtain ⟨w',hw,rw'⟩:=RelO.some_of (v:=v) (o:=(atKey xs k).map (·.2)) (by rw [l]; exact rel.val k)
    obtain ⟨p,hp,hp2⟩:=Option.map_eq_some_iff.mp hw
    refine wpAny_getItem_heap (tupleKind_room_in1 hu) (jJ I.hok eb) dd hp ?_
    rw [hp2]
    exact h w' _ (I.tok _) rw'
theorem YJ {h':Heap} {t':Nat} {ob:HO} (I:Inv X pins σ H s) (mu:Mut (H a)) (hs:Heap.SameBut a s.heap h') (he:∃ q,h'.get? a=some q) (new:ObjOk X.prog X.w (upd H a ob) h' a ob) :
    Inv X pins σ (upd H a ob) { s with heap:=h',toks:=t' } :=
  I.write (x:=a) (e:=a) mu (.inl rfl) (fun b q hb z=>(hs.2 b hb).trans z) he new
theorem zaZ {P:Program} {w:World} {H':Hp} {h':Heap} {kvs:List (Key × V)} {vs:List (Key × Value)} (z:kvs.length<=sizeLine) (hd:(a == sysModules)=false) (rel:KV kvs vs) (dd:h'.DictOf (zO P w) a vs) :
    ObjOk P w H' h' a (.dK kvs):=⟨z,hd,vs,rel,dd⟩
theorem XC {H':Hp} {Q:Unit->Shared->Prop} (hu:A.units + 1 < cLine) (I:Inv X pins σ H s) (g:DPut H a y v H') (ry:RelV y u) (rv:RelV v r) (h:∀ s',Inv X pins σ H' s'->Q () s') :
    wpAny (model X.prog X.w) A (setItem (.ref a) u r) Q E s:=by
  rcases g with ⟨kvs,k,e,ey,l,eH⟩ | ⟨kvs,k,b,e,ey,eb,l,eH⟩
  · subst ey eH
    obtain ⟨z,hd,vs,rel,dd⟩:=QV I.hok e
    have hz:vs.length<=sizeLine:=by rw [<- rel.length]; exact z
    have hl:(putK kvs k v).length<=sizeLine:=by have:=wP kvs k v; lia
    refine wpAny_setItem_pairs (hsz:=hz) (YI ry) dd fun h' dd' hs=>h _ ?_
    have he:∃ q,h'.get? a=some q:=let ⟨q,_,_,hq,_⟩:=dd'; ⟨q,hq⟩
    exact YJ I (by rw [e]; exact True.intro) hs he (zaZ hl hd (rel.put k rv) dd')
  · subst ey eH
    cases (show u=Value.ref b from ry)
    obtain ⟨z,hd,xs,rel,dd⟩:=zbJ I.hok e
    have hz:xs.length<=sizeLine:=by rw [<- Paired.length rel]; exact z
    have hl:(putK kvs k v).length<=sizeLine:=by have:=wP kvs k v; lia
    refine wpAny_setItem_heap (hsz:=hz) (tupleKind_room_in1 hu) (jJ I.hok eb) dd fun h' dd' hs=>h _ ?_
    obtain ⟨q,es,ep,hq,h2,h3,h4,_,h5⟩:=dd'
    refine YJ I (by rw [e]; exact True.intro) hs ⟨q,hq⟩ ⟨hl,hd,_,(rel.put k eb rv).keeps fun c ys ec=>?_,q,es,ep,hq,h2,h3,h4,h5⟩
    rw [zk (wb ec e (fun z=>nomatch z))]
    exact ec
end
section
variable {X:Cx} {pins:List (Addr × Obj)} {σ:St} {H:Hp} {s:Shared} {a:Addr} {kvs:List (Key × V)} {k:Key} {u:Value} {A:Around} {E:Value->Shared->Prop}
end
def NoSl (i:Expr):Prop:=∀ ov iv,subscripted i false ov iv=operate [ov,iv] (getItem ov iv)
theorem JV {prog:Program} {w:World} {A:Around} {E:Value->Shared->Prop} {s:Shared} {env:Env} {value slice:Expr} {pos:Pos} {T id:String} {Q:Value->Shared->Prop}
    (hl:typeLookup (.type T) "__getitem__"=pure (some (.builtin id))) (hs:NoSl slice)
    (h:wpAny (model prog w) A (eval value env) (fun o s₁=>wpAny (model prog w) A (eval slice env) (fun i s₂=>s₂.TypeIs o T/\wpAny (model prog w) A (getItem o i) Q E s₂) E s₁) E s) :
    wpAny (model prog w) A (eval (.Subscript value slice pos) env) Q E s:=by
  refine Subscript_ (wpAny_mono h (fun o s₁ h₁=>wpAny_mono h₁ (fun i s₂ h₂=>?_) fun _ _ x=>x) fun _ _ x=>x)
  obtain ⟨hT,h₂⟩:=h₂
  unfold subscriptTail
  refine wpAny_bind ?_
  rw [getitemInPython_of_ne hT.not_modules]
  refine wpAny_bind (wpAny_specialOf hT hl ?_)
  have fin:wpAny (model prog w) A (subscripted slice false o i) (fun r s₃=>wpAny (model prog w) A (letTemporaryGo value o r >>= fun _=>pure r) Q E s₃) E s₂:=by
    rw [hs o i]
    exact wpAny_operating (wpAny_mono h₂ (fun r s₃ h₃=>wpAny_bind (wpAny_letTemporaryGo (wpAny_pure h₃))) fun _ _ x=>x)
  first
    | exact wpAny_pure (wpAny_bind fin)
    | exact wpAny_bind (wpAny_pure (wpAny_bind fin))
    | exact wpAny_bind fin
theorem Zj {X:Cx} {pins:List (Addr × Obj)} {σ:St} {H:Hp} {s:Shared} {a:Addr} {y:V} {o:Option V} (I:Inv X pins σ H s) (g:DGet H a y o):s.TypeIs (.ref a) "dict":=by
  rcases g with ⟨kvs,k,e,_,_⟩ | ⟨kvs,k,b,e,_,_,_⟩
  · obtain ⟨_,_,vs,_,dd⟩:=Zh I.hok e
    exact dd.typeIs
  · obtain ⟨_,_,xs,_,dd⟩:=Zi I.hok e
    exact dd.typeIs
def QW (td ty:TE):TE:=fun σ H Q=>td σ H fun x H1=>ty σ H1 fun y H2=>∃ a v,x=.ref a/\DGet H2 a y (some v)/\Q v H2
def QX (td ty tv:TE):TS:=fun D σ H=>tv σ H fun v H1=>td σ H1 fun x H2=>ty σ H2 fun y H3=>∃ a H4,x=.ref a/\DPut H3 a y v H4/\D.nx σ H4
section
variable {X:Cx} {o i e value:Expr} {pos pos' tpos:Pos} {td ty tv:TE}
theorem JW (hu:X.A.units + 1 < cLine) (ho:PE X o td) (hi:PE X i ty) (hs:NoSl i):PE X (.Subscript o i pos) (QW td ty):=by
  intro pins s σ H Q I h
  refine JV PySem.F.slot_dict_getitem.lookup hs (thn (ho pins s σ H _ I h) fun u s1 ⟨x,H1,I1,rx,q1⟩=>thn (hi pins s1 σ H1 _ I1 q1) fun iv s2 ⟨y,H2,I2,ry,a,v,ex,g,q2⟩=>?_)
  subst ex
  obtain rfl:u=Value.ref a:=rx
  exact ⟨Zj I2 g,XB hu I2 g ry fun w' s3 I3 rw'=>⟨v,H2,I3,rw',q2⟩⟩
theorem JX (hu:X.A.units + 1 < cLine) (ho:PE X o td) (hi:PE X i ty) (hv:PE X value tv) (hs:swapsWith value (some (.Subscript o i pos')) pos.line X.env=pure false) :
    PS X (.Assign [.Subscript o i pos'] value pos) (QX td ty tv):=by
  intro pins s σ H D I h
  refine wpAny_Assign_Subscript (thn (hv pins s σ H _ I h) fun r s1 ⟨v,H1,I1,rv,q1⟩=>thn (ho pins s1 σ H1 _ I1 q1) fun u s2 ⟨x,H2,I2,rx,q2⟩=>thn (hi pins s2 σ H2 _ I2 q2) fun iv s3 ⟨y,H3,I3,ry,a,H4,ex,g,q3⟩=>?_) hs
  subst ex
  obtain rfl:u=Value.ref a:=rx
  exact XC hu I3 g ry rv fun s4 I4=>⟨σ,H4,I4,q3⟩
end
theorem WU {P:Program} {w:World} {H:Hp} (h:Heap) (hb:sysModules < h.objs.size):ObjOk P w H (h.push { cls:=.type "dict",data:=.dict #[] }) h.objs.size (.dK []) :=
  ⟨Nat.zero_le _,beq_eq_false_iff_ne.mpr (Ne.symm (Nat.ne_of_lt hb)),[],.nil,Heap.DictOf.new h⟩
def WV:TE:=fun _ H Q=>∀ p,H p=none->Q (.ref p) (upd H p (.dK []))
section
variable {X:Cx} {pos:Pos}
theorem WW:PE X (.Dict [] [] pos) WV:=fun pins s σ H Q I h =>
  wpAny_Dict_empty ⟨.ref s.heap.objs.size,_,I.laid (a:=s.heap.objs.size) (o:=.dK []) (t':=s.toks) (fun _ _ q=>Heap.get?_push_of_some _ q) (Nat.le_refl _) (WU s.heap I.big),rfl,h _ (I.hok.fresh (Nat.le_refl _))⟩
end
structure M2 (X:Cx) (o:Expr) (m:Str) (apos:Pos) (e f:Expr) (cpos:Pos):Prop where
  base:attributeBase o m X.env (eval o X.env)=eval o X.env
  few:((backTo cpos (starEach [e,f] X.env)).all (fun x=>!x.1) && (backToKw cpos (keywordEach [] X.env)).all (fun x=>x.1.isSome)
    && decide (([e,f]:List Expr).length + ([]:List Keyword).length + (if ([]:List Keyword).isEmpty then 0 else 1) < 30))=true
  line:(apos.endLine == cpos.line)=true
  trees:backTo cpos (starEach [e,f] X.env)=[(false,eval e X.env),(false,eval f X.env)]
def IsD (H:Hp) (a:Addr):Prop:=(∃ kvs,Rd H a (.dK kvs))\/∃ kvs,Rd H a (.dT kvs)
theorem za0 {X:Cx} {pins:List (Addr × Obj)} {σ:St} {H:Hp} {s:Shared} {a:Addr} (I:Inv X pins σ H s) (d:IsD H a) :
    s.TypeIs (.ref a) "dict"/\(∀ b,Value.ref a=.ref b->∃ ob,s.heap.get? b=some ob/\ob.dict=none)/\(a == sysModules)=false:=by
  rcases d with ⟨kvs,e⟩ | ⟨kvs,e⟩
  · obtain ⟨_,hd,vs,_,dd⟩:=Zh I.hok e
    refine ⟨dd.typeIs,fun b q=>?_,hd⟩
    cases q
    obtain ⟨ob,_,_,h1,h2,_⟩:=dd
    exact ⟨ob,h1,h2.2.1⟩
  · obtain ⟨_,hd,xs,_,dd⟩:=Zi I.hok e
    refine ⟨dd.typeIs,fun b q=>?_,hd⟩
    cases q
    obtain ⟨ob,_,_,h1,h2,_⟩:=dd
    exact ⟨ob,h1,h2.2.1⟩
section
variable {X:Cx} {pins:List (Addr × Obj)} {σ:St} {H:Hp} {s:Shared} {a:Addr} {y d:V} {u r:Value} {o:Option V} {A:Around} {E:Value->Shared->Prop}
theorem za1 {Q:Value->Shared->Prop} (hu:A.units + 1 < cLine) (I:Inv X pins σ H s) (g:DGet H a y o) (ry:RelV y u) (rd:RelV d r) (h:∀ w' s',Inv X pins σ H s'->RelV (o.getD d) w'->Q w' s') :
    wpAny (model X.prog X.w) A (call (.builtin "dict.get") [.ref a,u,r]) Q E s:=by
  rcases g with ⟨kvs,k,e,ey,l⟩ | ⟨kvs,k,b,e,ey,eb,l⟩
  · subst ey
    obtain ⟨z,hd,vs,rel,dd⟩:=Zh I.hok e
    refine call_meetsIn PySem.F.slot_dict_get dd.typeIs PySem.F.entry_dict_get (PySem.F.args_dict_get_3 _ _ _) (meets_dict_get_default (zO X.prog X.w) a (YI ry) hd r) ⟨_,dd.mapOf,h _ _ (I.tok _) ?_⟩
    rw [l]
    exact (rel.val k).getD rd
  · subst ey
    cases (show u=Value.ref b from ry)
    obtain ⟨z,hd,xs,rel,dd⟩:=Zi I.hok e
    refine call_meetsIn PySem.F.slot_dict_get dd.typeIs PySem.F.entry_dict_get (PySem.F.args_dict_get_3 _ _ _) (meetsH_dict_get_default (tupleKind (zO X.prog X.w)) a b hd r) ⟨tupleKind_room_in1 hu,k,xs,jJ I.hok eb,dd,h _ _ (I.tok _) ?_⟩
    rw [l]
    exact (rel.val k).getD rd
end
def WX (td ty tx:TE):TE:=fun σ H Q=>td σ H fun x H1=>∃ a,x=.ref a/\IsD H1 a/\ty σ H1 fun y H2=>tx σ H2 fun z H3=>∃ o,DGet H3 a y o/\Q (o.getD z) H3
section
variable {X:Cx} {o e f:Expr} {apos cpos:Pos} {td ty tx:TE}
theorem WY (hu:X.A.units + 1 < cLine) (ho:PE X o td) (he:PE X e ty) (hf:PE X f tx) (m:M2 X o "get" apos e f cpos):PE X (.Call (.Attribute o "get" apos) [e,f] [] cpos) (WX td ty tx):=by
  intro pins s σ H Q I h
  refine wpAny_Call_method m.base m.few m.line PySem.F.plainAttrs_dict PySem.F.slot_dict_get PySem.F.type_dict_get (thn (ho pins s σ H _ I h) fun u s1 ⟨x,H1,I1,rx,a,ex,d,q1⟩=>?_)
  subst ex
  obtain rfl:u=Value.ref a:=rx
  obtain ⟨t1,t2,_⟩:=za0 I1 d
  refine ⟨t1,t2,?_⟩
  rw [m.trees]
  refine Calls.callWith_builtin rfl (Calls.evalArgs_plain (Calls.spliced_cons (thn (he pins s1 σ H1 _ I1 q1) fun iv s2 ⟨y,H2,I2,ry,q2⟩ =>
    Calls.spliced_cons (thn (hf pins s2 σ H2 _ I2 q2) fun fv s3 ⟨z,H3,I3,rz,ov,g,q3⟩=>Calls.spliced_nil ?_))))
  exact za1 hu I3 g ry rz fun w' s4 I4 rw'=>⟨_,H3,I4,rw',q3⟩
end
section
variable {X:Cx} {pins:List (Addr × Obj)} {σ:St} {H:Hp} {s:Shared} {a:Addr} {kvs:List (Key × V)} {A:Around} {E:Value->Shared->Prop}
end
section
variable {X:Cx} {pins:List (Addr × Obj)} {σ:St} {H:Hp} {s:Shared} {a:Addr} {y:V} {u:Value} {A:Around} {E:Value->Shared->Prop}
end
end L2
namespace Att
open PySem PySem.W PySem.Calls PyProof.Rows
section
variable {prog:Program} {w:World} {A:Around} {E:Value->Shared->Prop} {s:Shared} {K:Frag}
end
end Att
namespace L2
open PySem PySem.Spec PyProof.Rows
section
variable {P:Program} {w:World} {K:PySem.W.Frag} {mg:Str->Option Value} {base:Heap}
end
section
variable {X:Cx}
end
section
variable {κ:Type} [DecidableEq κ]
end
section
variable {X:Cx} {pos:Pos}
def rIsB:R2:=fun x y H Q=>∃ b c,x=.bl b/\y=.bl c/\Q (.bl (decide (b=c))) H
theorem za2:OpR X (compareOp .Is) rIsB:=by
  intro pins s σ H x y v u Q I rx ry h
  obtain ⟨b,c,rfl,rfl,q⟩:=h
  cases rx
  cases ry
  refine wpAny_is_plain rfl ⟨.bl (decide (b=c)),H,I,?_,q⟩
  cases b <;> cases c <;> rfl
theorem WZ:jOp X (compareOp .Is) rIsB:=⟨za2⟩
theorem wp:jE X (.Dict [] [] pos) WV:=⟨WW⟩
end
theorem SqK.l {K:PySem.W.Frag} {H:Hp} {a:Addr} {xs:List V} (h:H a=some (.lst xs)):SqK true K H a xs:=SqL.of h
theorem SqK.t {K:PySem.W.Frag} {H:Hp} {a:Addr} {xs:List V} (h:H a=some (.tup xs)):SqK false K H a xs:=SqT.of h
theorem JY {K:PySem.W.Frag} {k m:Bool} {a b:Addr} {xs ys:List V} {g:TG} {tb:TS} {D:Ends} {σ:St} {H:Hp} (hlen:xs.length=ys.length) (Pv:Nat->St->Hp->Prop) (h0:Pv 0 σ H) (hl:∀ i σ H,i<=xs.length->Pv i σ H->SqK k K H a xs/\SqK m K H b ys)
    (hs:∀ i x y T σ H,xs[i]?=some x->ys[i]?=some y->H T=none->Pv i σ H->g (.ref T) σ (upd H T (.tup [x,y])) fun σ2 H2=>tb { D with nx:=Pv (i + 1),ct:=Pv (i + 1),bk:=D.nx } σ2 H2) (hd:∀ σ H,Pv xs.length σ H->D.nx σ H) :
    ∃ W:Nat->Nat->St->Hp->Prop,(∃ m,W 0 m σ H)/\∀ i n σ H,W i n σ H ->
      ((Itz K k m a b).stop i H/\D.nx σ H)\/((Itz K k m a b).go i H/\∃ N:St->Hp->Prop,(∀ σ' H',N σ' H'->∃ m',m' < n/\W (i + 1) m' σ' H')/\∀ x H',(Itz K k m a b).yld i H x H'->g x σ H' fun σ2 H2=>tb { D with nx:=N,ct:=N,bk:=D.nx } σ2 H2):=by
  refine ⟨fun i m σ H=>m=xs.length - i/\i<=xs.length/\Pv i σ H,⟨xs.length,by simp,Nat.zero_le _,h0⟩,?_⟩
  rintro i n σ H ⟨rfl,hi,p⟩
  obtain ⟨q1,q2⟩:=hl i σ H hi p
  by_cases hlt:i < xs.length
  · refine .inr ⟨⟨xs,ys,xs[i],ys[i]'(by lia),q1,q2,by simp [hlt],by simp [<- hlen,hlt]⟩,Pv (i + 1),fun σ' H' p'=>⟨xs.length - (i + 1),by lia,rfl,hlt,p'⟩,fun x H' y=>?_⟩
    obtain ⟨T,x,y,rfl,hT,rfl,e1,e2⟩:=y
    exact hs i x y T σ H (e1 xs q1) (e2 ys q2) hT p
  · have e:i=xs.length:=by lia
    subst e
    exact .inl ⟨⟨xs,ys,q1,q2,.inl (Nat.le_refl _)⟩,hd σ H p⟩
def lay (H:Hp):List (Addr × HO)->Hp
  | []=>H
  | p :: r=>upd (lay H r) p.1 p.2
section
variable {X:Cx} {pins:List (Addr × Obj)} {σ:St} {H:Hp} {s:Shared} {h':Heap}
end
theorem zbK {P:Program} {w:World} {k:Key} {u:Value} (h:(zO P w).is k u=true):RelV (kV k) u:=by
  rw [ZL] at h
  rcases zN h with ⟨i,t,rfl,rfl⟩ | ⟨x,t,rfl,rfl⟩
  · exact ⟨t,rfl⟩
  · exact ⟨t,rfl⟩
section
variable {X:Cx}
theorem wY {o i value:Expr} {td ty tv:TE} {pos pos':Pos} {k:Nat} (hr:Room k X.A) (ho:jE X o td) (hi:jE X i ty) (hv:jE X value tv) (hs:swapsWith value (some (.Subscript o i pos')) pos.line X.env=pure false:=by rfl) :
    jS X (.Assign [.Subscript o i pos'] value pos) (QX td ty tv):=⟨JX (by have:=hr.units; lia) ho.out hi.out hv.out hs⟩
theorem KV.get {kvs:List (Key × V)} {ws:List (Key × Value)} (r:KV kvs ws) {j:Nat} {k:Key} {x:Value} (h:ws[j]?=some (k,x)):∃ y,kvs[j]?=some (k,y)/\RelV y x:=by
  unfold KV at r
  induction r generalizing j with
  | nil=>simp at h
  | @cons p q ps qs hh t ih =>
    cases j with
    | zero =>
      simp at h
      subst h
      obtain ⟨p1,p2⟩:=p
      have e:p1=k:=hh.1
      subst e
      exact ⟨p2,rfl,hh.2⟩
    | succ j =>
      obtain ⟨y,h1,h2⟩:=ih (j:=j) (by simpa using h)
      exact ⟨y,by simpa using h1,h2⟩
end
section
variable {X:Cx} {pos:Pos}
theorem yh (K:PySem.W.Frag) (h:X.K=K:=by rfl):jIx X (rIxT K):=h ▸ wF
theorem W0 (K:PySem.W.Frag) (h:X.K=K:=by rfl):jIx X (rIxL K):=h ▸ zX
theorem xa (K:PySem.W.Frag) {es:List Expr} {k:Nat} {gs:TGs} {n:Nat} (hc:X.calm=true) (g:jGs X es gs) (h:X.K=K:=by rfl) (hn:(assignEach es X.env).length=n:=by rfl) (hst:(assignEach es X.env).findIdx? (·.1)=none:=by rfl):jG X (.Tuple es k pos) (gTup K n gs):=h ▸ xm hc g hn hst
theorem Zk (K:PySem.W.Frag) (h:X.K=K:=by rfl):jCa X (.builtin "len") (fun xs H Q=>∃ p ys,xs=[.ref p]/\(SqL K H p ys\/SqT K H p ys)/\Q (.int ys.length) H):=h ▸ vq
end
end L2
namespace K11
open PySem
def sg (c:Nat):Str:=⟨#[c]⟩
theorem vw (a:Array Nat):∀ (k:Nat) (acc:Array Nat),((List.replicate k a).foldl (· ++ ·) acc).size=acc.size + k * a.size
  | 0,acc=>by simp
  | k + 1,acc=>by
    rw [List.replicate_succ,List.foldl_cons,vw a k,Array.size_append,Nat.add_mul]
    lia
theorem JZ {z:Str} {n:Int} (hz:z.length=1):(Txt.mul z n).length<=n.toNat:=by
  unfold Txt.mul
  split
  · simp [Str.empty,Str.length]
  · rename_i h
    split
    · rw [hz]; lia
    · show ((List.replicate n.toNat z.cps).foldl (· ++ ·) #[]).size<=n.toNat
      have e:z.cps.size=1:=hz
      rw [vw,e]
      simp
theorem za3 {z:Str} {n:Int} (hz:z.length=1) (h0:0<=n) (h1:n<=1000):MulOk z n:=by
  have hs:sizeLine=16777216:=by decide
  refine ⟨?_,fun a b=>?_,fun a b=>?_⟩
  · have e1:decide (n < -(2 ^ 63:Int))=false:=decide_eq_false (by lia)
    have e2:decide (n ≥ 2 ^ 63)=false:=decide_eq_false (by lia)
    rw [e1,e2]; rfl
  · rw [hz]
    have:(1:Int)<=(2 ^ 63 - 1) / n:=Int.le_ediv_of_mul_le (by lia) (by lia)
    intro c
    have c':(1:Int) > (2 ^ 63 - 1) / n:=c
    lia
  · rw [hz]
    unfold Builtin.Str.tooLong
    exact decide_eq_false (by rw [hs]; lia)
end K11
namespace K11
open PySem PySem.Spec PyProof.Rows Builtin Builtin.Str
abbrev cl (z:Str):List Nat:=z.cps.toList
theorem xp (z:Str):(cl z).length=z.length:=by simp [Str.length]
theorem yu (x y:Str):cl (x ++ y)=cl x ++ cl y:=by
  show (x.cps ++ y.cps).toList=_
  simp
theorem jK {sep x y:Str} {r:List Str}:cl (Str.join sep (x :: y :: r))=cl x ++ (cl sep ++ cl (Str.join sep (y :: r))):=by
  show cl (x ++ sep ++ Str.join sep (y :: r))=_
  rw [yu,yu,List.append_assoc]
end K11
namespace GN
open PySem L2
def top (i:Nat):Stmt:=PySem.Challenge.pw_reusewise_k66_tight.main.body.getD i (.Pass ⟨0,0,0,0⟩)
abbrev vx:Stmt:=top 14
abbrev jM:Stmt:=top 15
abbrev Va:Stmt:=top 17
abbrev Z6:Stmt:=top 18
abbrev wG:Stmt:=top 19
abbrev xq:Stmt:=top 20
abbrev xr:Stmt:=top 21
abbrev vy:Stmt:=top 22
abbrev vz:Stmt:=top 23
abbrev Vb:Stmt:=top 1
abbrev yR:Stmt:=top 2
abbrev Z7:Stmt:=JH (top 3) 0
abbrev jN:Stmt:=top 4
abbrev Vc:Stmt:=top 5
abbrev Z8:Stmt:=top 7
abbrev Vd:Stmt:=top 8
abbrev sTog:Stmt:=top 9
abbrev wH:Stmt:=top 10
abbrev yW:Stmt:=top 11
abbrev jP:Stmt:=top 12
abbrev xV:Stmt:=top 13
abbrev Ve:Stmt:=top 25
abbrev sNm:Stmt:=top 26
abbrev Vf:Stmt:=top 27
abbrev Z9:Stmt:=top 28
abbrev Vg:Stmt:=top 29
abbrev Vh:Stmt:=top 30
abbrev Ya:Stmt:=top 31
abbrev sEnd:Stmt:=top 32
abbrev Yb:Stmt:=top 33
abbrev Vi:Stmt:=top 34
abbrev Yc:Stmt:=top 35
abbrev jQ:Stmt:=top 36
abbrev Yd:Stmt:=top 37
abbrev Ye:Stmt:=top 38
abbrev jU:Stmt:=top 39
abbrev Vj:Stmt:=top 40
abbrev wZ:Stmt:=top 41
abbrev Yf:Stmt:=top 42
abbrev sLaw:Stmt:=top 43
end GN
namespace L2
open PySem
section
variable {X:Cx} {o i:Expr} {to ti:TE} {pos:Pos}
theorem YK (ho:jE X o to) (hi:jE X i ti) (ha:∀ v,assign (.Subscript o i pos) X.env v=(do
      let ov <- holding [v] (eval o X.env)
      let iv <- holding [v,ov] (eval i X.env)
      standAt pos
      holding [v,ov,iv] (setItem ov iv v)
      release [v,ov,iv] []):=by intro _; rfl):jG X (.Subscript o i pos) (gSub to ti QP):=⟨zar ho.out hi.out Ww ha⟩
end
end L2
namespace GN
open PySem L2 K11
theorem zh {H:Hp} {p:Addr} (h:H p=none) (o:HO):Same H (upd H p o):=fun b u q=>by rw [zk (zn q h)]; exact q
def LIM:Nat:=4611686018427387904
def Sta (K:PySem.W.Frag) (H:Hp) (st:Addr) (B:Nat):Prop:=∃ (a:Addr) (ns:List Int) (k:Nat),H st=some (.lst [.ref a,.int (k:Nat)])/\(a=st->∀ H',SqL K H' a (ns.map V.int))/\SqL K H a (ns.map V.int)/\k<=B
structure Kp (st:Addr) (H H':Hp):Prop where
  k:∀ b u,b≠st->H b=some u->H' b=some u
  s:∀ a k,H st=some (.lst [.ref a,.int k])->∃ k',H' st=some (.lst [.ref a,.int k'])
theorem Kp.refl {st:Addr} {H:Hp}:Kp st H H:=⟨fun _ _ _ h=>h,fun _ k h=>⟨k,h⟩⟩
theorem Kp.trans {st:Addr} {H H1 H2:Hp} (a:Kp st H H1) (b:Kp st H1 H2):Kp st H H2:=⟨fun c u n h=>b.k c u n (a.k c u n h),fun x k h=>let ⟨k',h'⟩:=a.s x k h; b.s x k' h'⟩
theorem Kp.of {st:Addr} {H H1:Hp} (a:Same H H1):Kp st H H1:=⟨fun c u _ h=>a c u h,fun _ k h=>⟨k,a _ _ h⟩⟩
theorem Kp.new {st p:Addr} {H H1:Hp} {o:HO} (a:Kp st H H1) (h:H1 p=none):Kp st H (upd H1 p o):=a.trans (.of (zh h o))
theorem Kp.put {st p:Addr} {H H1:Hp} {o:HO} (a:Kp st H H1) (h:H p=none):Kp st H (upd H1 p o):=⟨fun b u n q=>by rw [zk (zn q h)]; exact a.k b u n q,fun x k q=>by
  obtain ⟨k',h'⟩:=a.s x k q
  exact ⟨k',by rw [zk (zn q h)]; exact h'⟩⟩
theorem Kp.seq {K:PySem.W.Frag} {st a:Addr} {H H':Hp} {xs:List V} (e:Kp st H H') (n:a≠st) (h:SqL K H a xs):SqL K H' a xs:=by
  rcases h with (h | ⟨o,h⟩) | h
  · exact .inl (.inl (e.k _ _ n h))
  · exact .inl (.inr ⟨o,e.k _ _ n h⟩)
  · exact .inr h
theorem Kp.free {st p:Addr} {H H':Hp} (e:Kp st H H') (n:p≠st) (h:H' p=none):H p=none:=by
  cases q:H p with
  | none=>rfl
  | some o =>
    rw [e.k p o n q] at h
    cases h
section
variable {K:PySem.W.Frag} {H H':Hp} {st:Addr} {B B':Nat}
theorem Sta.ex (h:Sta K H st B):∃ o,H st=some o:=let ⟨_,_,_,e,_⟩:=h; ⟨_,e⟩
theorem Sta.mono (h:Sta K H st B) (l:B<=B'):Sta K H st B':=let ⟨a,ns,k,h1,h2,h3,h4⟩:=h; ⟨a,ns,k,h1,h2,h3,Nat.le_trans h4 l⟩
theorem Sta.same (h:Sta K H st B) (s:Same H H'):Sta K H' st B:=let ⟨a,ns,k,h1,h2,h3,h4⟩:=h; ⟨a,ns,k,s _ _ h1,h2,s.seq h3,h4⟩
theorem Sta.new (h:Sta K H st B) {p:Addr} (hp:H p=none) (o:HO):Sta K (upd H p o) st B:=h.same (zh hp o)
theorem Sta.ne {p:Addr} (h:Sta K H st B) (hp:H p=none):p≠st:=fun e=>by
  obtain ⟨o,q⟩:=h.ex
  rw [e,q] at hp
  cases hp
theorem Sta.neR {p:Addr} {ts:List Addr} (h:Sta K H st B) (hp:H p=some (.lst (ts.map V.ref))):p≠st:=fun e=>by
  obtain ⟨a,ns,k,h1,_⟩:=h
  rw [e,h1] at hp
  have e2:=congrArg (fun o=>match o with | some (HO.lst l)=>l | _=>[]) hp
  simp only at e2
  match ts,e2 with
  | [_,_],e2=>simp at e2
  | [],e2=>simp at e2
  | [_],e2=>simp at e2
  | _ :: _ :: _ :: _,e2=>simp at e2
theorem Sta.neS {p:Addr} {ts:List Str} (h:Sta K H st B) (hp:H p=some (.lst (ts.map V.str))):p≠st:=fun e=>by
  obtain ⟨a,ns,k,h1,_⟩:=h
  rw [e,h1] at hp
  have e2:=congrArg (fun o=>match o with | some (HO.lst l)=>l | _=>[]) hp
  simp only at e2
  match ts,e2 with
  | [],e2=>simp at e2
  | _ :: _,e2=>simp at e2
theorem Sta.neW {p:Addr} {x:Str} {xs:List V} (h:Sta K H st B) (hp:H p=some (.lst (.str x :: xs))):p≠st:=fun e=>by
  obtain ⟨a,ns,k,h1,_⟩:=h
  rw [e,h1] at hp
  simp at hp
theorem Sta.put {H2:Hp} {p:Addr} {o:HO} (S0:Sta K H st B) (hp:H p=none) (k:Kp st H H2) (S2:Sta K H2 st B'):Sta K (upd H2 p o) st B':=by
  obtain ⟨a,ns,i,h1,h2,h3,_⟩:=S0
  obtain ⟨a',ns',i',g1,g2,g3,g4⟩:=S2
  obtain ⟨k',h'⟩:=k.s a _ h1
  rw [g1] at h'
  have ea:a'=a:=by
    have:=congrArg (fun o=>match o with | some (HO.lst (V.ref x :: _))=>x | _=>0) h'
    exact this
  subst ea
  have g1':upd H2 p o st=some (.lst [.ref a',.int ((i':Nat):Int)]):=by rw [zk (zn h1 hp)]; exact g1
  have key:a'≠p->Sta K (upd H2 p o) st B':=fun n=>by
    refine ⟨a',ns',i',g1',g2,?_,g4⟩
    rcases g3 with (g | ⟨o,g⟩) | g
    · exact .inl (.inl (by rw [zk n]; exact g))
    · exact .inl (.inr ⟨o,by rw [zk n]; exact g⟩)
    · exact .inr g
  rcases h3 with (h | ⟨_,h⟩) | h
  · exact key (zn h hp)
  · exact key (zn h hp)
  · exact ⟨a',ns,i',g1',fun _ _=>.inr h,.inr h,g4⟩
def Tups (H H':Hp):Prop:=∀ p xs,H p=some (.tup xs)->H' p=some (.tup xs)
theorem Tups.of (s:Same H H'):Tups H H':=fun p xs h=>s p _ h
theorem Tups.trans {H2:Hp} (a:Tups H H') (b:Tups H' H2):Tups H H2:=fun p xs h=>b p xs (a p xs h)
theorem Kp.tups (k:Kp st H H') (h:Sta K H st B):Tups H H':=fun p xs q=>k.k p _ (fun e=>by
  obtain ⟨_,_,_,h1,_⟩:=h
  rw [e,h1] at q
  cases q) q
end
def yv (K:PySem.W.Frag):Sp:=fun vs H Q _=>∃ (st:Addr) (m:Int) (B:Nat),vs=[.ref st,.int m]/\Sta K H st B/\B < LIM/\0 < m/\∀ (H':Hp) (r:Int),Kp st H H'->Sta K H' st (B + 1)->0<=r->r < m->Q (.int r) H'
def LET:Str:="abcdefghijklmnopqrstuvwxyz"
theorem za4:cl LET=(List.range 26).map (97 + ·):=by decide +kernel
def lt (i:Nat):Str:=sg (97 + i)
theorem za5 {i:Nat} (h:i < 26):atI LET.cps.toList (i:Int)=some (97 + i):=by
  refine zR ?_
  show (cl LET)[i]?=_
  rw [za4,List.getElem?_map,List.getElem?_range h]
  rfl
theorem jV {m:Int} (h0:0<=m) (h:m < 26):atI LET.cps.toList m=some (97 + m.toNat):=by
  have e:=za5 (i:=m.toNat) (by lia)
  rw [Int.toNat_of_nonneg h0] at e
  exact e
theorem jX:LET.length=26:=by decide +kernel
def core (k:Nat):Str:=lt (k / 2 % 26) ++ ("z":Str) ++ lt (k / 52 % 26)
def ys (k:Nat):Str:=Txt.mul "y" ((k % 2:Nat):Int)
def nm (z:Str) (b:Bool) (k:Nat):Str:=if b=true then core k ++ z ++ ys k else ys k ++ z ++ core k
theorem w6 (k:Nat):cl (core k)=[97 + k / 2 % 26,122,97 + k / 52 % 26]:=by
  unfold core
  rw [yu,yu]
  rfl
theorem Vk (k:Nat):(core k).length=3:=by rw [<- xp,w6]; rfl
theorem za6 (k:Nat):(ys k).length<=1:=by
  have h:=JZ (z:="y") (n:=((k % 2:Nat):Int)) rfl
  unfold ys
  lia
theorem YL (a b:Str):(a ++ b).length=a.length + b.length:=by rw [<- xp,yu,List.length_append,xp,xp]
def spNm:Sp:=fun vs H Q _=>∃ (p:Addr) (z:Str) (b:Bool) (xs:List V) (k:Nat),vs=[.ref p,.int (k:Nat)]/\H p=some (.lst (.str z :: .bl b :: xs))/\z.length<=6/\Q (.str (nm z b k)) H
section
variable {P:Program} {w:World} {K:PySem.W.Frag} {mg:Str->Option Value} {base:Heap} {f:Addr} {fd:FuncData}
theorem scDraw:FnScope ["_law_state","_law_many","_law_k","_law_cell"] lS2 (zo Ve):=.ok
theorem J0 (F:Fun K "_law_draw" "_law_draw" Ve f fd) (m_len:mg "len"=none):FnOk P w K mg base CX0 1 f fd lS2 (yv K):=by
  refine F.by scDraw (fun vs H Q E h=>?_) (fun cdv A outer s H vs Q E hr h=>?_)
  · obtain ⟨st,m,B,rfl,_⟩:=h
    rfl
  obtain ⟨st,m,B,rfl,⟨a,ns,k,hst,hne,hS,hk⟩,hB,hm,q⟩:=h
  refine ⟨_,
    (zg (sE 2 scDraw.nd (xL 0))
    (zg (vi (zu zM (jv 2) zj) (YK (jv 0) zj))
    (zg (zx (tN vm (jv 2) (jL m_len (xL 0)))
      (zi (zp (zu xn (xX zX (xL 0) (jv 2)) (jv 1)))) zr)
    (zg (sE 3 scDraw.nd (zu zM (zu Z1 (jv 2) zj) zj))
    (zg (zx (tN jh (jL m_len (xL 0)) zj)
      (zi (sE 3 scDraw.nd (zu zM (jv 3) (zu Z1 (xX zX (xL 0) (zu xn (zu Z1 (jv 2) zj) (jL m_len (xL 0)))) (zu zM zj (jv 2)))))) zr)
    (zi (zp (zu xn (zu xn (jv 3) zj) (jv 1))))))))),?_⟩
  refine ⟨_,rfl,ixL hst aI1 ?_⟩
  refine ⟨_,rfl,_,_,rfl,rfl,_,rfl,st,_,1,1,rfl,rfl,hst,rfl,?_⟩
  have kp:Kp st H (upd H st (.lst [.ref a,.int ((k + 1:Nat):Int)])):=⟨fun b u n h=>by rw [zk n]; exact h,fun x y h=>by
    rw [hst] at h
    cases h
    exact ⟨_,zf⟩⟩
  have hst1:=zf (H:=H) (a:=st) (o:=.lst [.ref a,.int ((k + 1:Nat):Int)])
  have hS1:SqL K (upd H st (.lst [.ref a,.int ((k + 1:Nat):Int)])) a (ns.map V.int):=by
    by_cases e:a=st
    · exact hne e _
    · exact kp.seq e hS
  have fin:∀ r:Int,0<=r->r < m->Q (.int r) (upd H st (.lst [.ref a,.int ((k + 1:Nat):Int)])):=fun r h0 h1=>q _ r kp ⟨a,ns,k + 1,hst1,hne,hS1,by lia⟩ h0 h1
  show (tSeq _ _:TS) _ _ (upd H st (.lst [.ref a,.int ((k + 1:Nat):Int)]))
  generalize upd H st (.lst [.ref a,.int ((k + 1:Nat):Int)])=H1 at *
  have ix0:atI [V.ref a,V.int ((k + 1:Nat):Int)] 0=some (.ref a):=aI0
  have mm:∀ x:Int,0<=x % m/\x % m < m:=fun x=>⟨Int.emod_nonneg x (by lia),Int.emod_lt_of_pos x hm⟩
  refine ⟨_,rfl,_,rfl,st,_,_,_,rfl,rfl,SqL.of hst1,ix0,_,_,rfl,.inl hS1,_,_,rfl,rfl,_,rfl,?_⟩
  rw [List.length_map]
  refine ite2 (fun c=>?_) (fun c=>?_)
  · rw [decide_eq_true_eq] at c
    have hi:k < ns.length:=by lia
    have hx:(ns.map V.int)[k]?=some (.int ns[k]):=by rw [List.getElem?_map,List.getElem?_eq_getElem hi]; rfl
    exact ⟨_,rfl,st,_,_,_,rfl,rfl,SqL.of hst1,ix0,_,rfl,a,_,_,_,rfl,rfl,hS1,zR hx,_,rfl,_,_,rfl,rfl,hm,fin _ (mm _).1 (mm _).2⟩
  · refine ⟨_,rfl,_,_,rfl,rfl,.inr ⟨by decide,by decide⟩,_,_,rfl,rfl,?_⟩
    have tail:∀ (c:Int) (D:Ends),D.rt=Q->(tRet (tOp (rI (fun _ j=>0 < j) fun i j=>V.int (i % j)) (tOp (rI (fun _ j=>0 < j) fun i j=>V.int (i % j)) (tVar 3) (tC (.int 2147483629))) (tVar 1)):TS) D [some (.ref st),some (.int m),some (.int (k:Nat)),some (.int c)] H1:=fun c D e=>by
      refine ⟨_,rfl,_,_,rfl,rfl,(by show (0:Int) < _; decide),_,rfl,_,_,rfl,rfl,hm,?_⟩
      rw [e]
      exact fin _ (mm _).1 (mm _).2
    refine ⟨_,rfl,st,_,_,_,rfl,rfl,SqL.of hst1,ix0,_,_,rfl,.inl hS1,_,_,rfl,rfl,_,rfl,?_⟩
    rw [List.length_map]
    refine ite2 (fun c2=>?_) (fun c2=>tail _ _ rfl)
    rw [decide_eq_true_eq] at c2
    have hl:(0:Int) < (ns.length:Nat):=by lia
    have c0:=Int.emod_nonneg ((k:Nat) * 7:Int) (show ((ns.length:Nat):Int)≠0 by lia)
    have c1:=Int.emod_lt_of_pos ((k:Nat) * 7:Int) hl
    have hi:(((k:Nat) * 7:Int) % (ns.length:Nat)).toNat < ns.length:=by lia
    have hx:(ns.map V.int)[(((k:Nat) * 7:Int) % (ns.length:Nat)).toNat]?=some (.int ns[(((k:Nat) * 7:Int) % (ns.length:Nat)).toNat]):=by rw [List.getElem?_map,List.getElem?_eq_getElem hi]; rfl
    have hx2:atI (ns.map V.int) (((k:Nat) * 7:Int) % (ns.length:Nat))=some (.int ns[(((k:Nat) * 7:Int) % (ns.length:Nat)).toNat]):=by
      have e:=zR hx
      rw [Int.toNat_of_nonneg c0] at e
      exact e
    refine ⟨_,rfl,_,rfl,st,_,_,_,rfl,rfl,SqL.of hst1,ix0,_,rfl,_,_,rfl,rfl,.inr ⟨by decide,by decide⟩,_,rfl,st,_,_,_,rfl,rfl,SqL.of hst1,ix0,_,_,rfl,.inl hS1,_,_,rfl,rfl,(by rw [List.length_map]; exact hl),?_⟩
    refine ⟨a,_,_,_,rfl,rfl,hS1,(by rw [List.length_map]; exact hx2),_,rfl,_,_,rfl,rfl,_,_,rfl,rfl,.inr ⟨by show -(2 ^ 64) < (48271 + (k:Nat):Int); lia,by show (48271 + (k:Nat):Int) < 2 ^ 64; unfold LIM at hB; lia⟩,_,_,rfl,rfl,tail _ _ rfl⟩
theorem scNm:FnScope ["_law_world_here","_law_k","_law_letters","_law_core"] lS6 (zo sNm):=.ok
theorem zbL (F:Fun K "_law_name" "_law_name" sNm f fd):FnOk P w K mg base CX0 1 f fd lS6 spNm:=by
  refine F.by scNm (fun vs H Q E h=>?_) (fun cdv A outer s H vs Q E hr h=>?_)
  · obtain ⟨p,z,b,xs,k,rfl,_⟩:=h
    rfl
  obtain ⟨p,z,b,xs,k,rfl,hp,hz,q⟩:=h
  refine ⟨_,
    (zg (sE 2 scNm.nd zq)
    (zg (sE 3 scNm.nd (zu yo (zu yo (xX Z2 (jv 2) (zu xn (zu yD (jv 1) zj) zj)) zq) (xX Z2 (jv 2) (zu xn (zu yD (jv 1) zj) zj))))
    (zg (zx (zS (xL 0))
      (zi (zp (zu yo (zu yo (jv 3) (xL 0)) (zu vo zq (zu xn (jv 1) zj))))) zr)
    (zi (zp (zu yo (zu yo (zu vo zq (zu xn (jv 1) zj)) (xL 0)) (jv 3))))))),?_⟩
  have sl:=zK
  have e1:((k:Nat):Int) / 2 % 26=((k / 2 % 26:Nat):Int):=by lia
  have e2:((k:Nat):Int) / 52 % 26=((k / 52 % 26:Nat):Int):=by lia
  have e3:((k:Nat):Int) % 2=((k % 2:Nat):Int):=by lia
  have cl3:=Vk k
  have yl:=za6 k
  have ec:(⟨#[97 + (((k:Nat):Int) / 2 % 26).toNat]⟩:Str) ++ ("z":Str) ++ (⟨#[97 + (((k:Nat):Int) / 52 % 26).toNat]⟩:Str)=core k:=by
    rw [e1,e2]
    rfl
  suffices rest:∀ c3:Str,c3=core k->(tSeq _ _:TS) { nx:=fun _ H'=>Q .non H',rt:=Q } [some (.ref p),some (.int (k:Nat)),some (.str LET),some (.str c3)] H by
    exact ⟨_,rfl,_,rfl,_,_,rfl,rfl,⟨by decide,by decide⟩,_,_,rfl,rfl,(by show (0:Int) < _; decide),LET,_,_,rfl,rfl,by rw [jX]; decide,jV (by lia) (by lia),_,_,rfl,rfl,by show 1 + 1<=sizeLine; decide,_,rfl,_,rfl,_,_,rfl,rfl,⟨by decide,by decide⟩,_,_,rfl,rfl,(by show (0:Int) < _; decide),LET,_,_,rfl,rfl,by rw [jX]; decide,jV (by lia) (by lia),_,_,rfl,rfl,by show 2 + 1<=sizeLine; decide,rest _ ec⟩
  rintro _ rfl
  have mo:MulOk "y" (((k % 2:Nat):Int)):=za3 rfl (by lia) (by lia)
  refine ⟨_,rfl,ixL hp aI1 ⟨_,rfl,?_⟩⟩
  unfold nm at q
  cases b with
  | true =>
    rw [if_pos rfl] at q
    refine iteT ?_
    refine ⟨_,rfl,_,rfl,ixL hp aI0 ⟨_,_,rfl,rfl,by lia,_,rfl,_,_,rfl,rfl,(by show (0:Int) < _; decide),_,_,rfl,rfl,by rw [e3]; exact mo,?_⟩⟩
    rw [e3]
    exact ⟨_,_,rfl,rfl,by rw [YL]; show (core k).length + z.length + (ys k).length<=_; lia,q⟩
  | false =>
    rw [if_neg (by decide)] at q
    refine iteF ?_
    refine ⟨_,rfl,_,_,rfl,rfl,(by show (0:Int) < _; decide),_,_,rfl,rfl,by rw [e3]; exact mo,?_⟩
    rw [e3]
    refine ⟨_,rfl,ixL hp aI0 ⟨_,_,rfl,rfl,by show (ys k).length + z.length<=_; lia,_,rfl,_,_,rfl,rfl,by show (Txt.mul "y" (((k % 2:Nat):Int)) ++ z).length + (core k).length<=_; rw [YL]; show (ys k).length + z.length + (core k).length<=_; lia,q⟩⟩
end
end GN
namespace L2
open PySem PySem.Spec PyProof.Rows
theorem vA:∀ {xs:List V} {us:List Value},xs.length=us.length->(∀ (j:Nat) x u,xs[j]?=some x->us[j]?=some u->RelV x u)->Vals xs us
  | [],[],_,_=>.nil
  | [],_ :: _,h,_=>by simp at h
  | _ :: _,[],h,_=>by simp at h
  | x :: xs,u :: us,h,g=>.cons (g 0 x u rfl rfl) (vA (by simpa using h) fun j a b h1 h2=>g (j + 1) a b (by simpa using h1) (by simpa using h2))
section
variable {X:Cx}
def Vl:List V->Hp->VK->Prop:=fun xs H Q=>∃ d kvs,xs=[.ref d]/\H d=some (.dK kvs)/\∀ l,H l=none->Q (.ref l) (upd H l (.lst (kvs.map fun kv=>kV kv.1)))
theorem vB (hc:X.calm=true):yI X (.type "list") Vl:=by
  intro pins s σ H xs us Q I r h
  obtain ⟨d,kvs,rfl,hd,q⟩:=h
  obtain ⟨u,rfl,rx⟩:=xj r
  cases rx
  obtain ⟨z,hs,ws,rel,dd⟩:=QV I.hok hd
  obtain ⟨ep,da⟩:=dd.dictAt
  have wl:=rel.length
  refine PySem.W.kdl_call (PySem.W.kdl_dict (knd:=zO X.prog X.w) (kvs:=ws) (ep:=ep) hs) (I.ok.hd hc) da (by lia) fun h' tk acc c hk hS hacc=>?_
  obtain ⟨a1,a2⟩:=hacc
  refine ⟨.ref s.heap.objs.size,_,I.laid (t':=tk) hk (Nat.le_refl _) (show ObjOk X.prog X.w _ h' _ (.lst (kvs.map fun kv=>kV kv.1)) from ⟨by rw [List.length_map]; exact z,acc.toList,c,?_,by rw [Array.toArray_toList]; exact hS⟩),rfl,q _ (I.hok.fresh (Nat.le_refl _))⟩
  have al:acc.toList.length=acc.size:=Array.length_toList
  refine vA (by rw [List.length_map,al]; lia) fun j x v h1 h2=>?_
  obtain ⟨k,y,e1,e2⟩:=a2 j v (by rw [<- Array.getElem?_toList]; exact h2)
  obtain ⟨y',e3,_⟩:=rel.get e1
  rw [List.getElem?_map,e3] at h1
  cases h1
  exact zbK e2
theorem jY (hc:X.calm=true):jCa X (.type "list") Vl:=⟨vB hc⟩
end
def BMn (mg:Str->Option Value) (h:Heap):Prop:=∃ bm ob,mg "__builtins__"=some (.ref bm)/\bm≠builtinsNs/\h.get? bm=some ob/\ob.cls=.type "module"/\ob.dict=some builtinsNs/\ob.data=.plain
theorem BMn.at {mg:Str->Option Value} {h:Heap} {P:Addr} {ps:Array Value} (B:BMn mg h) (g:h.Ns mainGlobals mg) (hP:h.get? P=some { cls:=.none,data:=.fields ps }):h.BuiltinsAt mg P/\mainGlobals≠P:=by
  obtain ⟨bm,ob,b1,b2,b3,b4,b5,b6⟩:=B
  refine ⟨⟨bm,ob,b1,b2,fun q=>?_,fun q=>?_,b3,b4,b5,b6⟩,fun q=>?_⟩
  · obtain ⟨o,es,ep,e,hd,_⟩:=g
    rw [q,e] at b3; cases b3; rw [hd] at b6; cases b6
  · rw [q,hP] at b3; cases b3; cases b4
  · obtain ⟨o,es,ep,e,hd,_⟩:=g
    rw [q,hP] at e; cases e; cases hd
theorem BMn.keeps {mg:Str->Option Value} {h h':Heap} (B:BMn mg h) (k:∀ b o,h.get? b=some o->h'.get? b=some o):BMn mg h' :=
  let ⟨bm,ob,b1,b2,b3,r⟩:=B; ⟨bm,ob,b1,b2,k _ _ b3,r⟩
def FunO (f:Addr) (fd:FuncData):HO:=.ext fun h=>h.get? f=some { cls:=.type "function",data:=.func fd }
def CodO (c:Addr) (qual:Str):HO:=.ext fun h=>h.CodeRec (.ref c) qual
theorem Vm {P:Program} {w:World} {H:Hp} {h:Heap} {f:Addr} {fd:FuncData} (e:h.get? f=some { cls:=.type "function",data:=.func fd }):ObjOk P w H h f (FunO f fd) :=
  ⟨e,⟨_,e⟩,fun _ _ p k=>k _ p⟩
theorem za7 {P:Program} {w:World} {H:Hp} {h:Heap} {c:Addr} {qual:Str} (e:h.CodeRec (.ref c) qual):ObjOk P w H h c (CodO c qual) :=
  ⟨e,(let ⟨_,oc,_,_,q,e,_⟩:=e; by cases q; exact ⟨oc,e⟩),fun _ _ ⟨d,oc,vs,t,q,e,r⟩ k=>by cases q; exact ⟨c,oc,vs,t,rfl,k _ e,r⟩⟩
section
variable {X:Cx} {CX:CXT} {k:Nat} {x:Str} {ps:List Str} {sp:Sp} {dvs:List V} {E:XK} {p pos:Pos} {e:Expr} {es:List Expr} {t:TA}
end
section
variable {prog:Program} {w:World} {A:Around} {E:Value->Shared->Prop}
end
inductive TyN (H:Hp):V->Bool->Prop where
  | int (i:Int):TyN H (.int i) false
  | str (z:Str):TyN H (.str z) false
  | bl (b:Bool):TyN H (.bl b) false
  | non:TyN H .non false
  | lst {a:Addr} {xs:List V} (e:H a=some (.lst xs)):TyN H (.ref a) true
  | tup {a:Addr} {xs:List V} (e:H a=some (.tup xs)):TyN H (.ref a) true
section
variable {X:Cx}
variable {CX:CXT} {k:Nat} {C:Addr} {ps:List Str} {sp:Sp} {E:XK} {x m:Str} {p pos apos:Pos} {e o:Expr} {es:List Expr} {ta:TE} {t:TA}
theorem jZ {o i:Expr} {td ty:TE} {pos:Pos} (hr:Room k X.A) (ho:jE X o td) (hi:jE X i ty) (hs:NoSl i:=by intro _ _; rfl):jE X (.Subscript o i pos) (QW td ty):=⟨JW (QQ hr) ho.out hi.out hs⟩
theorem Vn {o e f:Expr} {td ty tx:TE} {apos cpos:Pos} (hr:Room k X.A) (ho:jE X o td) (he:jE X e ty) (hf:jE X f tx) (m:M2 X o "get" apos e f cpos:=by exact ⟨rfl,rfl,rfl,rfl⟩):jE X (.Call (.Attribute o "get" apos) [e,f] [] cpos) (WX td ty tx):=⟨WY (QQ hr) ho.out he.out hf.out m⟩
end
section
variable {g:TG} {tt:TT} {te:TE} {Q:VK} {σ:St} {H:Hp}
theorem wI {K:PySem.W.Frag} {k m:Bool} {a b:Addr} {xs ys:List V} (hlen:xs.length=ys.length) (Pv:Nat->St->List V->Hp->Prop) (h0:Pv 0 σ [] H) (hl:∀ i τ zs H,i<=xs.length->Pv i τ zs H->SqK k K H a xs/\SqK m K H b ys)
    (hs:∀ i x y T τ zs H,xs[i]?=some x->ys[i]?=some y->H T=none->Pv i τ zs H->g (.ref T) τ (upd H T (.tup [x,y])) fun τ2 H2=>tt τ2 H2 fun b H3=>if b=true then te τ2 H3 fun y H4=>zs.length < sizeLine/\Pv (i + 1) τ2 (zs ++ [y]) H4 else Pv (i + 1) τ2 zs H3)
    (hd:∀ τ zs H,Pv xs.length τ zs H->∀ p,H p=none->Q (.ref p) (upd H p (.lst zs))):∃ W,(∃ m,W 0 m σ [] H)/\lcBy (Itz K k m a b) g tt te Q W:=by
  refine ⟨fun i m τ zs H=>m=xs.length - i/\i<=xs.length/\Pv i τ zs H,⟨xs.length,by simp,Nat.zero_le _,h0⟩,?_⟩
  rintro i n τ zs H ⟨rfl,hi,p⟩
  obtain ⟨q1,q2⟩:=hl i τ zs H hi p
  by_cases hlt:i < xs.length
  · refine .inr ⟨⟨xs,ys,xs[i],ys[i]'(by lia),q1,q2,by simp [hlt],by simp [<- hlen,hlt]⟩,Pv (i + 1),fun τ' zs' H' p'=>⟨xs.length - (i + 1),by lia,rfl,hlt,p'⟩,fun x H' y=>?_⟩
    obtain ⟨T,x,y,rfl,hT,rfl,e1,e2⟩:=y
    exact hs i x y T τ zs H (e1 xs q1) (e2 ys q2) hT p
  · have e:i=xs.length:=by lia
    subst e
    exact .inl ⟨⟨xs,ys,q1,q2,.inl (Nat.le_refl _)⟩,hd τ zs H p⟩
end
section
variable {X:Cx} {k:Nat} {o e f i:Expr} {td ty tx:TE} {apos cpos pos:Pos}
theorem YM (hc:X.calm=true):jCa X (.builtin "min") (fun xs H Q=>∃ i j,xs=[.int i,.int j]/\Q (.int (if j < i then j else i)) H):=⟨Xs hc⟩
end
section
variable {prog:Program} {w:World} {A:Around} {s:Shared} {E:Value->Shared->Prop}
end
section
variable {X:Cx} {scope:Scope} {cl:List (Str × Addr)} {S:List Nat} {pins:List (Addr × Obj)} {σ:St} {H:Hp} {s:Shared} {ex:List Addr} {M:List Str} {C:Addr}
variable {tg elt iter:Expr} {ifs:List Expr} {pos:Pos} {wi:TI} {g:TG} {tt:TT} {te:TE}
end
section
variable {X:Cx} {scope:Scope} {M:List Str} {tg elt l:Expr} {ifs:List Expr} {pos:Pos} {tl:TE} {g:TG} {tt:TT} {te:TE}
end
end L2
namespace PySem.W
open PySem PySem.Spec PySem.Calls PyProof.Rows
section
variable {prog:Program} {w:World} {A:Around} {E:Value->Shared->Prop} {s:Shared} {K:Frag} {e C:Addr} {ox od:Obj}
end
structure XIs (K:Frag) (C:Addr):Prop where
  ga:findIn K (.ref C) "__getattribute__"=some (some (.builtin "BaseException.__getattribute__"))
  ha:findIn K (.ref C) "__getattr__"=some none
  sb:subIn K (.ref C) (.type "BaseException")=some true
  hd:hasDictIn K C=true
  cl:findIn K (.ref C) "__class__"=some (some (.builtin "object.__class__"))
  gs:specialIn K (.builtin "object.__class__") "__get__"=some (some (.builtin "getset_descriptor.__get__"))
  tk:takesIn K (.builtin "object.__class__")=some true
  mo:mroIn K C (.type "object")=some true
end PySem.W
namespace L2
open PySem PySem.Spec PyProof.Rows
section
variable {prog:Program} {w:World} {A:Around} {E:Value->Shared->Prop} {h:Heap} {g:Array GenState} {d:Drawn} {t:Nat} {os:OsState}
variable {nm q:Str} {C N:Addr} {bs bm bmB:List Value} {hdct:Bool} {sn:List Str} {sub:List Value} {ab:Bool} {col:Option Bool} {dd:Option Addr} {k0 k1 k2 k3 k5:Option Value} {B Bn newId nid initId inN:String} {bmN:List Value}
end
section
variable {X:Cx} {k:Nat} {C:Addr} {E:XK} {x:Str} {np cpos pos:Pos}
end
end L2
namespace PySem.W
open PySem PySem.Spec PySem.Calls PyProof.Rows
section
variable {prog:Program} {w:World} {A:Around} {E:Value->Shared->Prop} {s:Shared} {K:Frag} {e C:Addr} {ox:Obj} {od:Option Obj}
end
end PySem.W
namespace L2
open PySem PySem.Spec PyProof.Rows
inductive ClsV:V->Value->Prop where
  | ref (C:Addr):ClsV (.ref C) (.ref C)
  | ty (T:String):ClsV (.ty T) (.type T)
inductive ClsVs:List V->List Value->Prop where
  | nil:ClsVs [] []
  | cons {D:V} {c:Value} {Ds:List V} {cs:List Value} (h:ClsV D c) (t:ClsVs Ds cs):ClsVs (D :: Ds) (c :: cs)
inductive Asked (K:PySem.W.Frag) (t:Value) (H:Hp):V->Bool->Prop where
  | one {D:V} {c:Value} {b:Bool} (h:ClsV D c) (e:PySem.W.kitOne K t c=some b):Asked K t H D b
  | tup {tp:Addr} {Ds:List V} {cs:List Value} {b:Bool} (ht:H tp=some (.tup Ds)) (h:ClsVs Ds cs) (e:PySem.W.kitAny K t cs=some b):Asked K t H (.ref tp) b
section
variable {X:Cx} {e C d:Addr} {oe:Obj} {pins:List (Addr × Obj)} {s:Shared} {σ:St} {H:Hp} {od:Option Obj} {D:V} {b:Bool} {u:Value} {Q:VK}
end
section
variable {X:Cx} {k:Nat} {C f:Addr} {ps:List Str} {sp:Sp} {x name:Str} {np cpos pos:Pos} {a ex:Expr} {as:List Expr} {t:TA} {te:TE}
end
end L2
namespace GN
open PySem L2 K11
section
variable {α:Type}
def look (l:List (Str × α)) (x:Str):Option α:=(l.find? fun p=>decide (p.1=x)).map (·.2)
def drpA (l:List (Str × α)) (x:Str):List (Str × α):=l.filter fun p=>decide (p.1≠x)
def em (e:α->V) (l:List (Str × α)):List (Key × V):=l.map fun p=>(.inr p.1,e p.2)
theorem w9 (e:α->V):∀ (l:List (Str × α)) (x:Str),valV (em e l) (.inr x)=(look l x).map e
  | [],x=>rfl
  | p :: l,x=>by
    have ih:=w9 e l x
    by_cases c:p.1=x
    · show valV ((.inr p.1,e p.2) :: em e l) (.inr x)=_
      rw [yU (by rw [c])]
      unfold look
      rw [List.find?_cons,decide_eq_true c]
      rfl
    · show valV ((.inr p.1,e p.2) :: em e l) (.inr x)=_
      rw [yV (fun z=>c (Sum.inr.inj z)),ih]
      unfold look
      rw [List.find?_cons,decide_eq_false c]
theorem YN (e:α->V) {l:List (Str × α)} {x:Str} {a:α} (h:look l x=none):putK (em e l) (.inr x) (e a)=em e (l ++ [(x,a)]):=by
  unfold putK
  rw [xo,w9,h,if_neg (by simp)]
  unfold em
  rw [List.map_append]
  rfl
theorem Vo (e:α->V) (l:List (Str × α)):(em e l).length=l.length:=List.length_map _
end
structure Hs where
  ns:List (Str × Bool)
  ts:List (Str × Int)
inductive Dd
  | num (i:Int)
  | op (w a b:Str)
  | mk (t:Str) (ns:List Str) (k:Str)
  | call (g:Str) (ns:List Str)
  | fn (g:Str) (ns:List Str)
  | ask (g:Str) (ns:List Str)
mutual
inductive Bd
  | give (x:Str)
  | lt (x:Str) (d:Dd) (b:Bd)
  | hold (x y:Str) (b:Bd)
  | drop (x:Str) (b:Bd)
  | loose (t:Str) (b:Bd)
  | iff (x:Str) (b c:Bd)
  | cs (x:Str) (as:Arms)
inductive Arms
  | nil
  | cons (t:Str) (ns:List Str) (m k:Str) (b:Bd) (r:Arms)
end
def IsDd (H:Hp):Dd->Addr->Prop
  | .num i,p=>H p=some (.tup [.str "num",.int i])
  | .op w a b,p=>H p=some (.tup [.str "op",.str w,.str a,.str b])
  | .mk t ns k,p=>∃ q,H p=some (.tup [.str "make",.str t,.ref q,.str k])/\H q=some (.tup (ns.map V.str))
  | .call g ns,p=>∃ q,H p=some (.tup [.str "call",.str g,.ref q])/\H q=some (.tup (ns.map V.str))
  | .fn g ns,p=>∃ q,H p=some (.tup [.str "func",.str g,.ref q])/\H q=some (.tup (ns.map V.str))
  | .ask g ns,p=>∃ q,H p=some (.tup [.str "ask",.str g,.ref q])/\H q=some (.tup (ns.map V.str))
theorem IsDd.keep {H H':Hp} (t:Tups H H'):∀ {d:Dd} {p:Addr},IsDd H d p->IsDd H' d p
  | .num _,p,h=>t _ _ h
  | .op _ _ _,p,h=>t _ _ h
  | .mk _ _ _,p,⟨q,a,b⟩=>⟨q,t _ _ a,t _ _ b⟩
  | .call _ _,p,⟨q,a,b⟩=>⟨q,t _ _ a,t _ _ b⟩
  | .fn _ _,p,⟨q,a,b⟩=>⟨q,t _ _ a,t _ _ b⟩
  | .ask _ _,p,⟨q,a,b⟩=>⟨q,t _ _ a,t _ _ b⟩
mutual
def IsBd (H:Hp):Bd->Addr->Prop
  | .give x,p=>H p=some (.tup [.str "give",.str x])
  | .lt x d b,p=>∃ q r,H p=some (.tup [.str "let",.str x,.ref q,.ref r])/\IsDd H d q/\IsBd H b r
  | .hold x y b,p=>∃ r,H p=some (.tup [.str "hold",.str x,.str y,.ref r])/\IsBd H b r
  | .drop x b,p=>∃ r,H p=some (.tup [.str "drop",.str x,.ref r])/\IsBd H b r
  | .loose x b,p=>∃ r,H p=some (.tup [.str "loose",.str x,.ref r])/\IsBd H b r
  | .iff x b c,p=>∃ q r,H p=some (.tup [.str "if",.str x,.ref q,.ref r])/\IsBd H b q/\IsBd H c r
  | .cs x as,p=>∃ q ts,H p=some (.tup [.str "case",.str x,.ref q])/\H q=some (.tup (ts.map V.ref))/\IsArms H as ts
def IsArms (H:Hp):Arms->List Addr->Prop
  | .nil,ts=>ts=[]
  | .cons t ns m k b r,ts=>∃ p q s ts',ts=p :: ts'/\H p=some (.tup [.str t,.ref q,.str m,.str k,.ref s])/\H q=some (.tup (ns.map V.str))/\IsBd H b s/\IsArms H r ts'
end
mutual
theorem IsBd.keep {H H':Hp} (t:Tups H H'):∀ {b:Bd} {p:Addr},IsBd H b p->IsBd H' b p
  | .give x,p,h=>t _ _ h
  | .lt x d b,p,h=>let ⟨q,r,a,e,f⟩:=h; ⟨q,r,t _ _ a,e.keep t,IsBd.keep t f⟩
  | .hold x y b,p,h=>let ⟨r,a,f⟩:=h; ⟨r,t _ _ a,IsBd.keep t f⟩
  | .drop x b,p,h=>let ⟨r,a,f⟩:=h; ⟨r,t _ _ a,IsBd.keep t f⟩
  | .loose x b,p,h=>let ⟨r,a,f⟩:=h; ⟨r,t _ _ a,IsBd.keep t f⟩
  | .iff x b c,p,h=>let ⟨q,r,a,e,f⟩:=h; ⟨q,r,t _ _ a,IsBd.keep t e,IsBd.keep t f⟩
  | .cs x as,p,h=>let ⟨q,ts,a,e,f⟩:=h; ⟨q,ts,t _ _ a,t _ _ e,IsArms.keep t f⟩
theorem IsArms.keep {H H':Hp} (t:Tups H H'):∀ {as:Arms} {ts:List Addr},IsArms H as ts->IsArms H' as ts
  | .nil,ts,h=>h
  | .cons g ns m k b r,ts,h=>let ⟨p,q,s,ts',e,a1,a2,a3,a4⟩:=h; ⟨p,q,s,ts',e,t _ _ a1,t _ _ a2,IsBd.keep t a3,IsArms.keep t a4⟩
end
mutual
def Bd.sz:Bd->Nat
  | .give _=>1
  | .lt _ _ b=>b.sz + 1
  | .hold _ _ b=>b.sz + 1
  | .drop _ b=>b.sz + 1
  | .loose _ b=>b.sz + 1
  | .iff _ b c=>b.sz + c.sz + 1
  | .cs _ as=>as.sz + 1
def Arms.sz:Arms->Nat
  | .nil=>0
  | .cons _ _ _ _ b r=>b.sz + r.sz + 1
end
def Zl (x:Str) (s:Hs):Option Hs:=if look s.ns x=some true then some ⟨drpA s.ns x,s.ts⟩ else none
def Zm (x:Str) (s:Hs):Option Hs:=if look s.ns x=none then some ⟨s.ns ++ [(x,true)],s.ts⟩ else none
def xW (x:Str) (s:Hs):Bool:=(look s.ns x).isSome
def zbM (t:Str) (n:Int) (s:Hs):Option Hs:=if look s.ts t=none then some ⟨s.ns,s.ts ++ [(t,n)]⟩ else none
def useT (t:Str) (s:Hs):Option (Int × Hs):=(look s.ts t).map fun n=>(n,⟨s.ns,drpA s.ts t⟩)
abbrev Ow:=List (Str × List Bool)
def zI:Dd->List Str
  | .num _=>[]
  | .op _ a b=>[a,b]
  | .mk _ ns _=>ns
  | .call _ ns=>ns
  | .fn _ ns=>ns
  | .ask g ns=>g :: ns
def yM (ow:Ow):Dd->List Bool
  | .num _=>[]
  | .op _ _ _=>[false,false]
  | .mk _ ns _=>ns.map fun _=>true
  | .call g _=>(look ow g).getD []
  | .fn _ ns=>ns.map fun _=>true
  | .ask _ ns=>true :: ns.map fun _=>true
def Yg:List (Str × Bool)->Hs->Option Hs
  | [],s=>some s
  | (x,true) :: r,s=>(Zl x s).bind (Yg r)
  | (_,false) :: r,s=>Yg r s
def j0:List (Str × Bool)->Hs->Bool
  | [],_=>true
  | (_,true) :: r,s=>j0 r s
  | (x,false) :: r,s=>xW x s && j0 r s
def zbN (ow:Ow):Dd->Hs->Option Hs
  | .fn g _,s=>if ((look ow g).getD []).all id=true then some s else none
  | .mk _ ns k,s=>if k="" then some s else (useT k s).bind fun p=>if p.1=((ns.length:Nat):Int) then some p.2 else none
  | _,s=>some s
def QY (ow:Ow) (d:Dd) (s:Hs):Option Hs:=(Yg ((zI d).zip (yM ow d)) s).bind fun s1=>if j0 ((zI d).zip (yM ow d)) s1=true then zbN ow d s1 else none
def YO:List Str->Hs->Option Hs
  | [],s=>some s
  | x :: r,s=>(Zm x s).bind (YO r)
def armC (x:Str) (ns:List Str) (m k:Str) (s:Hs):Option Hs:=(if m="take" then Zl x s else some s).bind fun s1=>(YO ns s1).bind fun s2=>if k="" then some s2 else if m="take"/\0 < ns.length then zbM k ((ns.length:Nat):Int) s2 else none
def QZ (x:Str):Arms->Hs->Option (List (Bd × Hs))
  | .nil,_=>some []
  | .cons _ ns m k b r,s=>(armC x ns m k s).bind fun s1=>(QZ x r s).map fun l=>(b,s1) :: l
def zbO (s:Hs):Bool:=s.ts.isEmpty && !(s.ns.any (·.2))
def pc (ow:Ow):Bd->Hs->Option (List (Bd × Hs))
  | .give x,s=>(Zl x s).bind fun s1=>if zbO s1=true then some [] else none
  | .lt x d b,s=>(QY ow d s).bind fun s1=>(Zm x s1).map fun s2=>[(b,s2)]
  | .hold x y b,s=>if xW y s=true then (Zm x s).map fun s2=>[(b,s2)] else none
  | .drop x b,s=>(Zl x s).map fun s2=>[(b,s2)]
  | .loose t b,s=>(useT t s).map fun p=>[(b,p.2)]
  | .iff x b c,s=>if xW x s=true then some [(b,s),(c,s)] else none
  | .cs x as,s=>if xW x s=true then QZ x as s else none
mutual
def okB (ow:Ow):Bd->Hs->Bool
  | .give x,s=>(pc ow (.give x) s).isSome
  | .lt x d b,s=>match (QY ow d s).bind (Zm x) with
    | none=>false
    | some s2=>okB ow b s2
  | .hold x y b,s=>xW y s && match Zm x s with
    | none=>false
    | some s2=>okB ow b s2
  | .drop x b,s=>match Zl x s with
    | none=>false
    | some s2=>okB ow b s2
  | .loose t b,s=>match useT t s with
    | none=>false
    | some p=>okB ow b p.2
  | .iff x b c,s=>xW x s && (okB ow b s && okB ow c s)
  | .cs x as,s=>xW x s && okA ow x as s
def okA (ow:Ow) (x:Str):Arms->Hs->Bool
  | .nil,_=>true
  | .cons _ ns m k b r,s=>(match armC x ns m k s with
    | none=>false
    | some s1=>okB ow b s1) && okA ow x r s
end
end GN
namespace L2
open PySem PySem.Spec PyProof.Rows
section
variable {X:Cx}
end
section
variable {prog:Program} {w:World} {A:Around} {E:Value->Shared->Prop} {s:Shared}
end
section
variable {X:Cx} {elts:List Expr} {k:Nat} {tpos:Pos}
end
section
variable {X:Cx}
theorem wT (hc:X.calm=true):yI X (.builtin "all") (fun xs H Q=>∃ (p:Addr) (bs:List Bool),xs=[.ref p]/\H p=some (.tup (bs.map V.bl))/\Q (.bl (bs.all _root_.id)) H):=by
  intro pins s σ H xs us Q I r h
  obtain ⟨p,bs,rfl,hq,q⟩:=h
  obtain ⟨u,rfl,rx⟩:=xj r
  cases rx
  obtain ⟨its,rv,pl,hz⟩:=I.tuple (SqT.of hq)
  have hh:X.A.handled=none:=I.ok.hd hc
  have hlen:its.toArray.size=bs.length:=by rw [List.size_toArray,<- rv.length,List.length_map]
  have hne:p≠s.heap.objs.size:=Nat.ne_of_lt (I.hok.lt hq)
  refine call_all_walk (wpAny_pyIter_tuple (show s.heap.IsTuple p its.toArray from pl) ?_)
  refine ⟨s.heap.objs.size,_,_,_,_,_,fun i=>bs.getD i false,rfl,Walks.tuple (A:=X.A.in1) hh _ p hne its.toArray,⟨⟨_,Heap.get?_push_size _ rfl,rfl,rfl⟩,(show s.heap.IsTuple p its.toArray from pl).at fun o e=>Heap.get?_push_of_some _ e⟩,fun i v s1 Q1 E1 hv hQ=>?_,fun h' tk kk=>?_⟩
  · have hi:i < bs.length:=by
      obtain ⟨hi,_⟩:=Array.getElem?_eq_some_iff.mp hv
      rw [hlen] at hi
      exact hi
    have hb:(bs.map V.bl)[i]?=some (V.bl (bs.getD i false)):=by
      rw [List.getElem?_map,List.getElem?_eq_getElem hi]
      simp [List.getD,List.getElem?_eq_getElem hi]
    obtain ⟨u',hu,ru⟩:=rv.get hb
    have e:its.toArray[i]?=some u':=by simpa using hu
    have hv':its.toArray[i]?=some v:=hv
    rw [hv'] at e
    cases e
    cases ru
    exact wpAny_truthy_bool hQ
  · have e:(List.range its.toArray.size).all (fun i=>bs.getD i false)=bs.all _root_.id:=by
      rw [hlen]
      exact jg bs
    rw [e]
    have I1:Inv X pins σ H { s with heap:=s.heap.push { cls:=.type "tuple_iterator",data:=.fields #[.ref p,.int 0 0] } }:=I.kept (t':=s.toks) fun b o e=>Heap.get?_push_of_some _ e
    have f:=I.fpOk (H':=H) (Nat.le_refl _) I.fresh
    exact ⟨.bl (bs.all _root_.id),H,I1.turned (it:=s.heap.objs.size) (fun b o hb e=>kk b o (by simpa using hb) e) f.1 f.2.1 f.2.2.2.1 f.2.2.2.2.1 f.2.2.2.2.2,rfl,q⟩
theorem vU (hc:X.calm=true):jCa X (.builtin "all") (fun xs H Q=>∃ (p:Addr) (bs:List Bool),xs=[.ref p]/\H p=some (.tup (bs.map V.bl))/\Q (.bl (bs.all _root_.id)) H):=⟨wT hc⟩
end
section
variable {prog:Program} {w:World} {A:Around}
end
section
variable {X:Cx}
end
section
variable {prog:Program} {w:World} {A:Around}
end
section
variable {X:Cx} {a b:Expr} {ta:TA} {p1 p2 pos1 pos2:Pos}
end
end L2
namespace GN
open PySem L2 K11
theorem iteE {b:Bool} {A B:Prop} (e:b=false) (h:B):if b=true then A else B:=by rw [if_neg (by rw [e]; decide)]; exact h
def xB:Sp:=fun vs H Q _=>∃ (p:Addr) (d:Dd),vs=[.ref p]/\IsDd H d p/\(zI d).length<=1000/\∀ H' r,Same H H'->H' r=some (.tup ((zI d).map V.str))->Q (.ref r) H'
def OwAt (H:Hp) (od:Addr) (ow:Ow):Prop:=∃ kvs,H od=some (.dK kvs)/\∀ g bs,look ow g=some bs->∃ q,valV kvs (.inr g)=some (.ref q)/\H q=some (.tup (bs.map V.bl))
theorem OwAt.keep {H H':Hp} {od:Addr} {ow:Ow} (h:OwAt H od ow) (k:∀ b o,(b=od\/∃ xs,o=.tup xs)->H b=some o->H' b=some o):OwAt H' od ow:=by
  obtain ⟨kvs,a,b⟩:=h
  refine ⟨kvs,k _ _ (.inl rfl) a,fun g bs e=>?_⟩
  obtain ⟨q,h1,h2⟩:=b g bs e
  exact ⟨q,h1,k _ _ (.inr ⟨_,rfl⟩) h2⟩
theorem OwAt.same {H H':Hp} {od:Addr} {ow:Ow} (h:OwAt H od ow) (s:Same H H'):OwAt H' od ow:=h.keep fun b o _ q=>s b o q
def OkD (ow:Ow):Dd->Prop
  | .call g ns=>∃ bs,look ow g=some bs
  | .fn g _=>∃ bs,look ow g=some bs
  | _=>True
def Zn:Sp:=fun vs H Q _=>∃ (p od:Addr) (d:Dd) (ow:Ow),vs=[.ref p,.ref od]/\IsDd H d p/\(zI d).length<=1000/\OwAt H od ow/\OkD ow d/\∀ H' r,Same H H'->H' r=some (.tup ((yM ow d).map V.bl))->Q (.ref r) H'
structure ArmR where
  t:Str
  ns:List Str
  m:Str
  k:Str
  b:Bd
def Arms.l:Arms->List ArmR
  | .nil=>[]
  | .cons t ns m k b r=>⟨t,ns,m,k,b⟩ :: r.l
mutual
def OkBd (ow:Ow):Bd->Prop
  | .give _=>True
  | .lt _ d b=>(zI d).length<=1000/\OkD ow d/\OkBd ow b
  | .hold _ _ b=>OkBd ow b
  | .drop _ b=>OkBd ow b
  | .loose _ b=>OkBd ow b
  | .iff _ b c=>OkBd ow b/\OkBd ow c
  | .cs _ as=>as.l.length<=1000/\OkAs ow as
def OkAs (ow:Ow):Arms->Prop
  | .nil=>True
  | .cons _ _ _ _ b r=>OkBd ow b/\OkAs ow r
end
theorem IsArms.len {H:Hp}:∀ {as:Arms} {ts:List Addr},IsArms H as ts->ts.length=as.l.length
  | .nil,ts,h=>by
    have h:ts=[]:=h
    rw [h]
    rfl
  | .cons t ns m k b r,ts,h=>by
    obtain ⟨p,q,s,ts',rfl,_,_,_,h⟩:=h
    rw [List.length_cons,IsArms.len h]
    rfl
theorem IsArms.get {H:Hp}:∀ {as:Arms} {ts:List Addr} {i:Nat} {t:Addr},IsArms H as ts->ts[i]?=some t->∃ (q:ArmR) (p s:Addr),as.l[i]?=some q/\H t=some (.tup [.str q.t,.ref p,.str q.m,.str q.k,.ref s])/\H p=some (.tup (q.ns.map V.str))/\IsBd H q.b s
  | .nil,ts,i,t,h,e=>by
    have h:ts=[]:=h
    rw [h] at e
    simp at e
  | .cons tg ns m k b r,ts,i,t,h,e=>by
    obtain ⟨p,q,s,ts',rfl,h1,h2,h3,h4⟩:=h
    cases i with
    | zero =>
      simp at e
      subst e
      exact ⟨⟨tg,ns,m,k,b⟩,q,s,rfl,h1,h2,h3⟩
    | succ i =>
      obtain ⟨q',p',s',g1,g2⟩:=IsArms.get (i:=i) h4 (by simpa using e)
      exact ⟨q',p',s',by simpa [Arms.l] using g1,g2⟩
structure Df where
  g:Str
  ps:List Str
  os:List Bool
  b:Bd
def IsDf (H:Hp) (d:Df) (o:Addr):Prop:=∃ pp po pb,H o=some (.tup [.str d.g,.ref pp,.ref po,.ref pb])/\H pp=some (.tup (d.ps.map V.str))/\H po=some (.tup (d.os.map V.bl))/\IsBd H d.b pb
theorem IsDf.keep {H H':Hp} {d:Df} {o:Addr} (t:Tups H H') (h:IsDf H d o):IsDf H' d o:=let ⟨pp,po,pb,a,b,c,e⟩:=h; ⟨pp,po,pb,t _ _ a,t _ _ b,t _ _ c,e.keep t⟩
theorem Bd.sz_pos:∀ b:Bd,0 < b.sz
  | .give _=>by rw [Bd.sz]; exact Nat.zero_lt_one
  | .lt _ _ _=>by rw [Bd.sz]; lia
  | .hold _ _ _=>by rw [Bd.sz]; lia
  | .drop _ _=>by rw [Bd.sz]; lia
  | .loose _ _=>by rw [Bd.sz]; lia
  | .iff _ _ _=>by rw [Bd.sz]; lia
  | .cs _ _=>by rw [Bd.sz]; lia
def IsDfs (H:Hp) (ds:List Df) (os:List Addr):Prop:=ds.length=os.length/\∀ (i:Nat) (d:Df) (o:Addr),ds[i]?=some d->os[i]?=some o->IsDf H d o
theorem IsDfs.keep {H H':Hp} {ds:List Df} {os:List Addr} (t:Tups H H') (h:IsDfs H ds os):IsDfs H' ds os:=⟨h.1,fun i d o a b=>(h.2 i d o a b).keep t⟩
def IsCode (H:Hp) (ds:List Df) (p:Addr):Prop:=∃ v pd os,H p=some (.tup [v,.ref pd])/\H pd=some (.tup (os.map V.ref))/\IsDfs H ds os
theorem IsCode.keep {H H':Hp} {ds:List Df} {p:Addr} (t:Tups H H') (h:IsCode H ds p):IsCode H' ds p:=let ⟨v,pd,os,a,b,c⟩:=h; ⟨v,pd,os,t _ _ a,t _ _ b,c.keep t⟩
def owOf (ds:List Df):Ow:=ds.map fun d=>(d.g,d.os)
theorem vC {α β:Type} (h:α->β):∀ (l:List (Str × α)) (x:Str),look (l.map fun q=>(q.1,h q.2)) x=(look l x).map h
  | [],x=>rfl
  | q :: l,x=>by
    have ih:=vC h l x
    unfold look at *
    rw [List.map_cons,List.find?_cons,List.find?_cons]
    by_cases c:q.1=x
    · rw [decide_eq_true c]
      rfl
    · rw [decide_eq_false c]
      exact ih
theorem xC {α:Type} {l:List (Str × α)} {x:Str} {a:α} (h:look l x=some a):(x,a)∈l:=by
  unfold look at h
  obtain ⟨q,h1,rfl⟩:=Option.map_eq_some_iff.mp h
  have e:decide (q.1=x)=true:=List.find?_some (p:=fun p:Str × α=>decide (p.1=x)) h1
  rw [decide_eq_true_eq] at e
  rw [<- e]
  exact List.mem_of_find?_eq_some h1
theorem YQ {α:Type} {l:List (Str × α)} {x:Str} (h:x ∉ l.map (·.1)):look l x=none:=by
  cases c:look l x with
  | none=>rfl
  | some a=>exact absurd (List.mem_map.mpr ⟨_,xC c,rfl⟩) h
def Vp:Sp:=fun vs H Q _=>∃ (p:Addr) (ds:List Df),vs=[.ref p]/\IsCode H ds p/\(ds.map (·.g)).Nodup/\ds.length<=1000/\∀ H' od,Same H H'->OwAt H' od (owOf ds)->Q (.ref od) H'
section
variable {P:Program} {w:World} {K:PySem.W.Frag} {mg:Str->Option Value} {base:Heap} {f R C cH uh:Addr} {fd:FuncData}
theorem XD:FnScope ["deed"] ["deed"] (zo vx):=.ok
theorem Yh (F:Fun K "names_of" "names_of" vx f fd):FnOk P w K mg base CX0 1 f fd ["deed"] xB:=by
  refine F.by XD (fun vs H Q E h=>?_) (fun cdv A outer s H vs Q E hr h=>?_)
  · obtain ⟨p,d,rfl,_⟩:=h
    rfl
  obtain ⟨p,d,rfl,hI,hl,q⟩:=h
  refine ⟨_,
    (zg (zx (tN zA (xT 0) zq)
      (zi (zp (zv zE))) zr)
    (zg (zx (tN zA (xT 0) zq)
      (zi (zp (wj zaS (jv 0) (wX zj) wW))) zr)
    (zg (zx (tN zA (xT 0) zq)
      (zi (zp (zu JP (zv (jA1 (xT 0))) (xT 0)))) zr)
    (zi (zp (xT 0)))))),?_⟩
  have sl:=zK
  cases d with
  | num i =>
    have hI:H p=_:=hI
    exact ⟨_,rfl,ixT hI aI0 ⟨rfl,_,rfl,iteT ⟨sN0,fun r hr=>q _ r (zh hr _) zf⟩⟩⟩
  | op o a b =>
    have hI:H p=_:=hI
    refine ⟨_,rfl,ixT hI aI0 ⟨rfl,_,rfl,iteF (nxtC ?_)⟩⟩
    exact ⟨_,rfl,ixT hI aI0 ⟨rfl,_,rfl,iteT ⟨_,rfl,_,rfl,p,_,rfl,SqT.of hI,(fun z=>absurd z.1 (show ¬ (HT.sIx 4 0 (some 2)=0) by decide)),fun r hr=>q _ r (zh hr _) zf⟩⟩⟩
  | mk t ns k =>
    obtain ⟨r,h1,h2⟩:=hI
    refine ⟨_,rfl,ixT h1 aI0 ⟨rfl,_,rfl,iteF (nxtC ?_)⟩⟩
    refine ⟨_,rfl,ixT h1 aI0 ⟨rfl,_,rfl,iteF (nxtC ?_)⟩⟩
    refine ⟨_,rfl,ixT h1 aI0 ⟨rfl,_,rfl,iteF (nxtC ?_)⟩⟩
    exact ⟨_,rfl,ixT h1 aI2 (q _ r (Same.refl _) h2)⟩
  | call g ns =>
    obtain ⟨r,h1,h2⟩:=hI
    refine ⟨_,rfl,ixT h1 aI0 ⟨rfl,_,rfl,iteF (nxtC ?_)⟩⟩
    refine ⟨_,rfl,ixT h1 aI0 ⟨rfl,_,rfl,iteF (nxtC ?_)⟩⟩
    refine ⟨_,rfl,ixT h1 aI0 ⟨rfl,_,rfl,iteF (nxtC ?_)⟩⟩
    exact ⟨_,rfl,ixT h1 aI2 (q _ r (Same.refl _) h2)⟩
  | fn g ns =>
    obtain ⟨r,h1,h2⟩:=hI
    refine ⟨_,rfl,ixT h1 aI0 ⟨rfl,_,rfl,iteF (nxtC ?_)⟩⟩
    refine ⟨_,rfl,ixT h1 aI0 ⟨rfl,_,rfl,iteF (nxtC ?_)⟩⟩
    refine ⟨_,rfl,ixT h1 aI0 ⟨rfl,_,rfl,iteF (nxtC ?_)⟩⟩
    exact ⟨_,rfl,ixT h1 aI2 (q _ r (Same.refl _) h2)⟩
  | ask g ns =>
    obtain ⟨r,h1,h2⟩:=hI
    refine ⟨_,rfl,ixT h1 aI0 ⟨rfl,_,rfl,iteF (nxtC ?_)⟩⟩
    refine ⟨_,rfl,ixT h1 aI0 ⟨rfl,_,rfl,iteF (nxtC ?_)⟩⟩
    refine ⟨_,rfl,ixT h1 aI0 ⟨rfl,_,rfl,iteT ?_⟩⟩
    refine ⟨_,rfl,ixT h1 aI1 ⟨sN1,fun p1 hp1=>?_⟩⟩
    refine ⟨_,rfl,ixT (old hp1 h1) aI2 ⟨p1,r,[.str g],_,rfl,rfl,SqT.of zf,SqT.of (old hp1 h2),by simp,?_,fun e=>?_,fun _ p2 hp2=>?_⟩⟩
    · have hl:(g :: ns).length<=1000:=hl
      rw [List.length_cons] at hl
      rw [List.length_map]
      show 1 + _<=_
      lia
    · rw [List.map_eq_nil_iff] at e
      subst e
      exact q _ p1 (zh hp1 _) zf
    · exact q _ p2 ((zh hp1 _).new hp2) zf
theorem Vq:FnScope ["deed","owns"] ["deed","owns"] (zo jM):=.ok
theorem Vr:(["deed","owns","name"]:List Str).Nodup:=by decide +kernel
theorem XE (F:Fun K "used_up" "used_up" jM f fd) (GN':Ca P w K mg base CX0 1 "names_of" ["deed"] xB) (m_tuple:mg "tuple"=none):FnOk P w K mg base CX0 2 f fd ["deed","owns"] Zn:=by
  refine F.by Vq (fun vs H Q E h=>?_) (fun cdv A outer s H vs Q E hr h=>?_)
  · obtain ⟨p,od,d,ow,rfl,_⟩:=h
    rfl
  obtain ⟨p,od,d,ow,rfl,hI,hl,hO,hok,q⟩:=h
  refine ⟨_,
    (zg (zx (tN zA (xT 0) zq)
      (zi (zp (jZ hr (jv 1) (xT 0)))) zr)
    (zi (zp (zF zC rfl m_tuple PyProof.Rows.boot_tuple (jA1 (zW ["name"] rfl (yr (cA GN' hr (jA1 (jv 0)))) (fun _ _ _ _ _=>(gN 2 Vr)) (fun _ _ _ _ _=>zV) (fun _ _ _ _ _=>(z0 vk (yx (yh K) (jv 0) zj (fun _ _=>rfl)) zq (yq _))))))))),?_⟩
  have sl:=zK
  obtain ⟨tg,xs,h0,hc⟩:∃ (tg:Str) (xs:List V),H p=some (.tup (.str tg :: xs))/\((tg="call"/\∃ g ns,d=.call g ns/\xs[0]?=some (.str g))\/(tg≠"call"/\yM ow d=(zI d).map fun _=>!decide (tg="op"))):=by
    cases d with
    | num i=>exact ⟨_,_,hI,.inr ⟨by decide,rfl⟩⟩
    | op o a b=>exact ⟨_,_,hI,.inr ⟨by decide,rfl⟩⟩
    | mk t ns k=>obtain ⟨r,h1,h2⟩:=hI; exact ⟨_,_,h1,.inr ⟨by decide,rfl⟩⟩
    | call g ns=>obtain ⟨r,h1,h2⟩:=hI; exact ⟨_,_,h1,.inl ⟨rfl,g,ns,rfl,rfl⟩⟩
    | fn g ns=>obtain ⟨r,h1,h2⟩:=hI; exact ⟨_,_,h1,.inr ⟨by decide,rfl⟩⟩
    | ask g ns=>obtain ⟨r,h1,h2⟩:=hI; exact ⟨_,_,h1,.inr ⟨by decide,rfl⟩⟩
  refine ⟨_,rfl,ixT h0 aI0 ⟨rfl,_,rfl,?_⟩⟩
  rcases hc with ⟨rfl,g,ns,rfl,hg⟩ | ⟨hc,e⟩
  · obtain ⟨kvs,o1,o2⟩:=hO
    obtain ⟨bs,hb⟩:=hok
    obtain ⟨r,v1,v2⟩:=o2 g bs hb
    refine iteT ⟨_,rfl,_,rfl,ixT h0 (zR (j:=1) (by rw [List.getElem?_cons_succ]; exact hg)) ⟨od,.ref r,rfl,?_,?_⟩⟩
    · rw [<- v1]
      exact DGet.k (k:=.inr g) o1
    · refine q _ r (Same.refl _) ?_
      show H r=some (.tup (((look ow g).getD []).map V.bl))
      rw [hb]
      exact v2
  · refine iteE (decide_eq_false fun z=>hc (V.str.inj z)) (nxtC ?_)
    refine ⟨_,rfl,p,d,rfl,hI,hl,fun H1 r1 s1 h1=>⟨r1,rfl,⟨_,SqT.of h1⟩,vv (xs:=(zI d).map V.str) (fun i τ ys H'=>H1=H'/\(∃ v,τ=[some (.ref p),some (.ref od),v])/\ys=(List.replicate i (V.bl (!decide (tg="op"))))) ⟨rfl,⟨none,rfl⟩,rfl⟩ (fun i τ ys H' _ pv=>pv.1 ▸ SqT.of h1) ?_ ?_⟩⟩
    · rintro i x τ ys H' hx ⟨rfl,⟨v,rfl⟩,rfl⟩
      have hi:=(List.getElem?_eq_some_iff.mp hx).1
      rw [List.length_map] at hi
      refine ⟨_,rfl,ixT (s1 _ _ h0) aI0 ⟨rfl,by rw [List.length_replicate]; lia,rfl,⟨_,rfl⟩,?_⟩⟩
      rw [List.replicate_succ']
      congr 4
      by_cases c:tg="op"
      · rw [decide_eq_true c,decide_eq_true (congrArg V.str c)]
      · rw [decide_eq_false c,decide_eq_false fun z=>c (V.str.inj z)]
    · rintro τ ys H' ⟨rfl,_,rfl⟩ p2 hp2
      refine ⟨p2,_,rfl,.inl ⟨SqL.of zf,fun p3 hp3=>q _ p3 ((s1.new hp2).new hp3) ?_⟩⟩
      rw [zf,e,List.length_map,List.map_map]
      congr 2
      rw [<- List.map_const']
      rfl
theorem scOwns:FnScope ["code","owns","one"] ["code"] (zo Va):=.ok
theorem J1 (F:Fun K "all_owns" "all_owns" Va f fd):FnOk P w K mg base CX0 1 f fd ["code"] Vp:=by
  refine F.by scOwns (fun vs H Q E h=>?_) (fun cdv A outer s H vs Q E hr h=>?_)
  · obtain ⟨p,ds,rfl,_⟩:=h
    rfl
  obtain ⟨p,ds,rfl,⟨v,pd,os,h1,h2,h3⟩,hn,hl,q⟩:=h
  refine ⟨_,
    (zg (sE 1 scOwns.nd wp)
    (zg (zU PassesOwn.never rfl (yr (xT 0)) (gN 2 scOwns.nd)
      (zi (wY hr (jv 1) (xT 2) (xT 2))))
    (zi (zp (jv 1))))),?_⟩
  have sl:=zK
  refine fun od hod=>?_
  have s1:=zh hod (.dK [])
  have d1:=zf (H:=H) (a:=od) (o:=.dK [])
  dsimp only
  generalize upd H od (.dK [])=H1 at *
  refine ⟨_,rfl,ixT (s1 _ _ h1) aI1 ⟨pd,rfl,⟨_,SqT.of (s1 _ _ h2)⟩,yK (xs:=os.map V.ref) (fun i σ H'=>∃ (L:List (Str × (List Bool × Addr))) (y:Option V),σ=[some (.ref p),some (.ref od),y]/\Same H H'/\H' od=some (.dK (em (fun q=>V.ref q.2) L))/\L.map (fun x=>(x.1,x.2.1))=owOf (ds.take i)/\∀ x∈L,H x.2.2=some (.tup (x.2.1.map V.bl))) ⟨[],none,rfl,s1,d1,rfl,fun x hx=>by cases hx⟩ (fun i σ H' _ h=>?_) ?_ ?_⟩⟩
  · obtain ⟨_,_,_,k,_⟩:=h
    exact SqT.of (k _ _ h2)
  · rintro i v σ H2 hv ⟨L,y,rfl,s2,d2,eL,hL⟩
    rw [List.getElem?_map] at hv
    obtain ⟨o,ho,rfl⟩:=Option.map_eq_some_iff.mp hv
    have hi:i < ds.length:=by rw [h3.1]; exact (List.getElem?_eq_some_iff.mp ho).1
    obtain ⟨d,hd⟩:∃ d,ds[i]?=some d:=⟨_,List.getElem?_eq_getElem hi⟩
    obtain ⟨pp,po,pb,g1,g2,g3,g4⟩:=h3.2 i d o hd ho
    have tn:ds.take (i + 1)=ds.take i ++ [d]:=by rw [List.take_succ,hd]; rfl
    have ll:L.length=i:=by
      have:=congrArg List.length eL
      unfold owOf at this
      rw [List.length_map,List.length_map,List.length_take] at this
      lia
    have no:look L d.g=none:=by
      refine YQ fun hm=>?_
      have e:L.map (·.1)=(ds.take i).map (·.g):=by
        have:=congrArg (fun l=>l.map (·.1)) eL
        unfold owOf at this
        simp only [List.map_map] at this
        exact this
      rw [e] at hm
      rw [<- List.take_append_drop (i + 1) ds,List.map_append,tn,List.map_append,List.nodup_append,List.nodup_append] at hn
      exact hn.1.2.2 _ hm _ (by simp) rfl
    refine ⟨_,rfl,ixT (s2 _ _ g1) aI2 ⟨_,rfl,_,rfl,ixT (s2 _ _ g1) aI0 ⟨od,_,rfl,DPut.k (k:=.inr d.g) d2 (by rw [Vo]; lia),?_⟩⟩⟩
    have ep:=YN (fun q:List Bool × Addr=>V.ref q.2) (a:=(d.os,po)) no
    refine ⟨L ++ [(d.g,(d.os,po))],_,rfl,s2.put hod,by rw [zf]; exact congrArg (fun z=>some (HO.dK z)) ep,?_,fun x hx=>?_⟩
    · rw [List.map_append,eL,tn]
      unfold owOf
      rw [List.map_append]
      rfl
    · rcases List.mem_append.mp hx with z | z
      · exact hL x z
      · rw [List.mem_singleton.mp z]
        exact g3
  · rintro σ H2 ⟨L,y,rfl,s2,d2,eL,hL⟩
    rw [List.length_map,<- h3.1,List.take_of_length_le (Nat.le_refl _)] at eL
    refine ⟨_,rfl,q _ od s2 ⟨_,d2,fun g bs hb=>?_⟩⟩
    rw [<- eL,vC (fun q:List Bool × Addr=>q.1)] at hb
    obtain ⟨a,ha,rfl⟩:=Option.map_eq_some_iff.mp hb
    exact ⟨a.2,by rw [w9,ha]; rfl,s2 _ _ (hL _ (xC ha))⟩
end
mutual
def Bd.binds:Bd->List Str
  | .give _=>[]
  | .lt x _ b=>x :: b.binds
  | .hold x _ b=>x :: b.binds
  | .drop _ b=>b.binds
  | .loose _ b=>b.binds
  | .iff _ a b=>a.binds ++ b.binds
  | .cs _ as=>as.binds
def Arms.binds:Arms->List Str
  | .nil=>[]
  | .cons _ ns _ _ b r=>ns ++ (b.binds ++ r.binds)
end
def once (acc:List Str):List Str->List Str
  | []=>acc
  | x :: r=>once (if x∈acc then acc else acc ++ [x]) r
theorem vD:∀ (a b acc:List Str),once acc (a ++ b)=once (once acc a) b
  | [],b,acc=>rfl
  | x :: a,b,acc=>by
    show once (if x∈acc then acc else acc ++ [x]) (a ++ b)=once (once (if x∈acc then acc else acc ++ [x]) a) b
    exact vD a b _
theorem XF {l:List Str} {i:Nat} {x:Str} {acc:List Str} (h:l[i]?=some x):once acc (l.take (i + 1))=if x∈once acc (l.take i) then once acc (l.take i) else once acc (l.take i) ++ [x]:=by
  rw [List.take_add_one,h,vD]
  rfl
theorem wq:∀ (l acc:List Str),(once acc l).length<=acc.length + l.length
  | [],acc=>Nat.le_refl _
  | x :: r,acc=>by
    unfold once
    have:=wq r (if x∈acc then acc else acc ++ [x])
    rw [List.length_cons]
    split at this
    · split
      · lia
      · contradiction
    · split
      · contradiction
      · rw [List.length_append,List.length_singleton] at this
        lia
abbrev Wy:=List (List Str × Bd)
inductive IsY (H:Hp):Wy->List Addr->Prop
  | nil:IsY H [] []
  | cons {ns:List Str} {b:Bd} {p q r:Addr} {l:Wy} {ps:List Addr}:H p=some (.tup [.ref q,.ref r])->H q=some (.tup (ns.map V.str))->IsBd H b r->IsY H l ps->IsY H ((ns,b) :: l) (p :: ps)
theorem IsY.keep {H H':Hp} {l:Wy} {p:List Addr} (h:IsY H l p) (t:Tups H H'):IsY H' l p:=by
  induction h with
  | nil=>exact .nil
  | cons a b c _ ih=>exact .cons (t _ _ a) (t _ _ b) (c.keep t) ih
theorem IsY.app {H:Hp} {a b:Wy} {p q:List Addr} (h:IsY H a p) (g:IsY H b q):IsY H (a ++ b) (p ++ q):=by
  induction h with
  | nil=>exact g
  | cons x y z _ ih=>exact .cons x y z ih
theorem IsY.len {H:Hp} {l:Wy} {p:List Addr} (h:IsY H l p):l.length=p.length:=by
  induction h with
  | nil=>rfl
  | cons _ _ _ _ ih=>rw [List.length_cons,List.length_cons,ih]
def Arms.ways:Arms->Wy
  | .nil=>[]
  | .cons _ ns _ _ b r=>(ns,b) :: r.ways
def Bd.ways:Bd->Wy
  | .give _=>[]
  | .lt x _ b=>[([x],b)]
  | .hold x _ b=>[([x],b)]
  | .drop _ b=>[([],b)]
  | .loose _ b=>[([],b)]
  | .iff _ a b=>[([],a),([],b)]
  | .cs _ as=>as.ways
def pend (l:Wy):List Str:=l.flatMap fun p=>p.1 ++ p.2.binds
theorem Arms.pend:∀ as:Arms,GN.pend as.ways=as.binds
  | .nil=>by unfold Arms.ways Arms.binds; rfl
  | .cons t ns m k b r=>by
    unfold Arms.ways Arms.binds GN.pend
    rw [List.flatMap_cons]
    have:=Arms.pend r
    unfold GN.pend at this
    rw [this,List.append_assoc]
theorem Bd.pend (b:Bd):GN.pend b.ways=b.binds:=by
  cases b with
  | give x=>unfold Bd.ways Bd.binds; rfl
  | lt x d b=>unfold Bd.ways Bd.binds GN.pend; simp
  | hold x d b=>unfold Bd.ways Bd.binds GN.pend; simp
  | drop x b=>unfold Bd.ways Bd.binds GN.pend; simp
  | loose x b=>unfold Bd.ways Bd.binds GN.pend; simp
  | iff x a b=>unfold Bd.ways Bd.binds GN.pend; simp
  | cs x as=>unfold Bd.ways Bd.binds; exact Arms.pend as
def wsz (l:Wy):Nat:=(l.map fun p=>p.2.sz).sum
theorem Arms.wsz:∀ as:Arms,GN.wsz as.ways<=as.sz
  | .nil=>by unfold Arms.ways Arms.sz GN.wsz; decide
  | .cons t ns m k b r=>by
    unfold Arms.ways Arms.sz GN.wsz
    have:=Arms.wsz r
    unfold GN.wsz at this
    rw [List.map_cons,List.sum_cons]
    show b.sz + _<=_
    lia
theorem Bd.wsz (b:Bd):GN.wsz b.ways < b.sz:=by
  cases b with
  | give x=>rw [Bd.sz]; show (0:Nat) < 1; decide
  | lt x d b=>rw [Bd.sz]; show b.sz + 0 < b.sz + 1; lia
  | hold x d b=>rw [Bd.sz]; show b.sz + 0 < b.sz + 1; lia
  | drop x b=>rw [Bd.sz]; show b.sz + 0 < b.sz + 1; lia
  | loose x b=>rw [Bd.sz]; show b.sz + 0 < b.sz + 1; lia
  | iff x a b=>rw [Bd.sz]; show a.sz + (b.sz + 0) < a.sz + b.sz + 1; lia
  | cs x as=>rw [Bd.sz]; have:=Arms.wsz as; show GN.wsz as.ways < as.sz + 1; lia
theorem YR (a b:Wy):wsz (a ++ b)=wsz a + wsz b:=by unfold wsz; rw [List.map_append,List.sum_append]
theorem Zo (a b:Wy):pend (a ++ b)=pend a ++ pend b:=by unfold pend; rw [List.flatMap_append]
theorem Arms.ways_l:∀ as:Arms,as.ways=as.l.map fun q=>(q.ns,q.b)
  | .nil=>by unfold Arms.ways Arms.l; rfl
  | .cons t ns m k b r=>by unfold Arms.ways Arms.l; rw [Arms.ways_l r]; rfl
theorem YS:∀ a:Arms,a.ways.length<=a.sz
  | .nil=>by unfold Arms.ways Arms.sz; decide
  | .cons t ns m k b r=>by
    unfold Arms.ways Arms.sz
    have:=YS r
    rw [List.length_cons]
    lia
def vE:Sp:=fun vs H Q _=>∃ (p:Addr) (b:Bd),vs=[.ref p]/\IsBd H b p/\b.sz<=1000000/\∀ (H':Hp) (r:Addr) (ps:List Addr),Same H H'->H r=none->H' r=some (.lst (ps.map V.ref))->IsY H' b.ways ps->Q (.ref r) H'
section
variable {P:Program} {w:World} {K:PySem.W.Frag} {mg:Str->Option Value} {base:Heap} {f:Addr} {fd:FuncData}
theorem za8:FnScope ["body"] ["body"] (zo Vb):=.ok
theorem za9:(["body","arm"]:List Str).Nodup:=by decide +kernel
theorem J2 (F:Fun K "ways_on" "ways_on" Vb f fd):FnOk P w K mg base CX0 1 f fd ["body"] vE:=by
  refine F.by za8 (fun vs H Q E h=>?_) (fun cdv A outer s H vs Q E hr h=>?_)
  · obtain ⟨p,b,rfl,_⟩:=h
    rfl
  obtain ⟨p,b,rfl,hb,hz,q⟩:=h
  refine ⟨_,
    (zg (zx (tN zA (xT 0) zq)
      (zi (zp (zB zE))) zr)
    (zg (zx (tN zA (xT 0) zq)
      (zi (zp (zB (jA2 (zv (jA2 (zv zE) (xT 0))) (zv (jA2 (zv zE) (xT 0))))))) zr)
    (zg (zx (tN zA (xT 0) zq)
      (zi (zp (zW ["arm"] rfl (yr (xT 0)) (fun _ _ _ _ _=>(gN 1 za9)) (fun _ _ _ _ _=>zV) (fun _ _ _ _ _=>(zv (jA2 (yx (yh K) (jv 1) zj (fun _ _=>rfl)) (xX (yh K) (jv 1) (wD zj)))))))) zr)
    (zg (zx (yY xA (xT 0) (zv (jA2 zq zq)) (by with_unfolding_all rfl))
      (zi (zp (zB (jA1 (zv (jA2 (zv (jA1 (xT 0))) (xX wF (jv 0) (wD zj)))))))) zr)
    (zi (zp (zB (jA1 (zv (jA2 (zv zE) (xX wF (jv 0) (wD zj)))))))))))),?_⟩
  have sl:=zK
  cases b with
  | give x =>
    have hp:H p=some (.tup [.str "give",.str x]):=hb
    refine ⟨_,rfl,p,_,_,_,rfl,rfl,SqT.of hp,aI0,rfl,_,rfl,?_⟩
    refine ite2 (fun _=>?_) aB
    refine ⟨sN0,fun r hr=>q _ r [] (zh hr _) hr zf ?_⟩
    unfold Bd.ways
    exact .nil
  | lt x d b =>
    obtain ⟨p1,p2,hp,hd,hb⟩:=hb
    refine ⟨_,rfl,p,_,_,_,rfl,rfl,SqT.of hp,aI0,rfl,_,rfl,?_⟩
    refine ite2 aB (fun _=>?_)
    refine ⟨_,rfl,p,_,_,_,rfl,rfl,SqT.of hp,aI0,rfl,_,rfl,?_⟩
    refine ite2 aB (fun _=>?_)
    refine ⟨_,rfl,p,_,_,_,rfl,rfl,SqT.of hp,aI0,rfl,_,rfl,?_⟩
    refine ite2 aB (fun _=>?_)
    refine ⟨_,rfl,p,_,_,_,rfl,rfl,SqT.of hp,aI0,sN2,fun t0 h0=>?_⟩
    refine ⟨t0,_,rfl,.inr (SqT.of zf),rfl,rfl,_,rfl,?_⟩
    refine ite2 (fun _=>?_) (fun c=>absurd (show (if false=true then !inV (V.str "let") [V.str "let",V.str "hold"] else inV (V.str "let") [V.str "let",V.str "hold"])=true by decide) c)
    have hp0:=old (o:=.tup [.str "let",.str "hold"]) h0 hp
    refine ⟨_,rfl,p,_,_,_,rfl,rfl,SqT.of hp0,aI1,sN1,fun t1 h1=>⟨_,rfl,_,rfl,p,_,_,_,rfl,rfl,SqT.of (old h1 hp0),rfl,sN2,fun t2 h2=>⟨sN1,fun t3 h3=>?_⟩⟩⟩
    have s2:Same H _:=((zh h0 (.tup [.str "let",.str "hold"])).new (o:=.tup [.str x]) h1).new (o:=.tup [.ref t1,.ref p2]) h2
    have s3:=s2.new (o:=.lst [.ref t2]) h3
    refine q _ t3 [t2] s3 (s2.free h3) zf ?_
    unfold Bd.ways
    exact .cons (old h3 zf) (old h3 (old h2 zf)) (hb.keep (.of s3)) .nil
  | hold x y b =>
    obtain ⟨p2,hp,hb⟩:=hb
    refine ⟨_,rfl,p,_,_,_,rfl,rfl,SqT.of hp,aI0,rfl,_,rfl,?_⟩
    refine ite2 aB (fun _=>?_)
    refine ⟨_,rfl,p,_,_,_,rfl,rfl,SqT.of hp,aI0,rfl,_,rfl,?_⟩
    refine ite2 aB (fun _=>?_)
    refine ⟨_,rfl,p,_,_,_,rfl,rfl,SqT.of hp,aI0,rfl,_,rfl,?_⟩
    refine ite2 aB (fun _=>?_)
    refine ⟨_,rfl,p,_,_,_,rfl,rfl,SqT.of hp,aI0,sN2,fun t0 h0=>?_⟩
    refine ⟨t0,_,rfl,.inr (SqT.of zf),rfl,rfl,_,rfl,?_⟩
    refine ite2 (fun _=>?_) (fun c=>absurd (show (if false=true then !inV (V.str "hold") [V.str "let",V.str "hold"] else inV (V.str "hold") [V.str "let",V.str "hold"])=true by decide) c)
    have hp0:=old (o:=.tup [.str "let",.str "hold"]) h0 hp
    refine ⟨_,rfl,p,_,_,_,rfl,rfl,SqT.of hp0,aI1,sN1,fun t1 h1=>⟨_,rfl,_,rfl,p,_,_,_,rfl,rfl,SqT.of (old h1 hp0),rfl,sN2,fun t2 h2=>⟨sN1,fun t3 h3=>?_⟩⟩⟩
    have s2:Same H _:=((zh h0 (.tup [.str "let",.str "hold"])).new (o:=.tup [.str x]) h1).new (o:=.tup [.ref t1,.ref p2]) h2
    have s3:=s2.new (o:=.lst [.ref t2]) h3
    refine q _ t3 [t2] s3 (s2.free h3) zf ?_
    unfold Bd.ways
    exact .cons (old h3 zf) (old h3 (old h2 zf)) (hb.keep (.of s3)) .nil
  | drop x b =>
    obtain ⟨p2,hp,hb⟩:=hb
    refine ⟨_,rfl,p,_,_,_,rfl,rfl,SqT.of hp,aI0,rfl,_,rfl,?_⟩
    refine ite2 aB (fun _=>?_)
    refine ⟨_,rfl,p,_,_,_,rfl,rfl,SqT.of hp,aI0,rfl,_,rfl,?_⟩
    refine ite2 aB (fun _=>?_)
    refine ⟨_,rfl,p,_,_,_,rfl,rfl,SqT.of hp,aI0,rfl,_,rfl,?_⟩
    refine ite2 aB (fun _=>?_)
    refine ⟨_,rfl,p,_,_,_,rfl,rfl,SqT.of hp,aI0,sN2,fun t0 h0=>?_⟩
    refine ⟨t0,_,rfl,.inr (SqT.of zf),rfl,rfl,_,rfl,?_⟩
    refine ite2 (fun c=>absurd c (show ¬ (if false=true then !inV (V.str "drop") [V.str "let",V.str "hold"] else inV (V.str "drop") [V.str "let",V.str "hold"])=true by decide)) (fun _=>?_)
    have hp0:=old (o:=.tup [.str "let",.str "hold"]) h0 hp
    refine ⟨sN0,fun t1 h1=>⟨_,rfl,_,rfl,p,_,_,_,rfl,rfl,SqT.of (old h1 hp0),rfl,sN2,fun t2 h2=>⟨sN1,fun t3 h3=>?_⟩⟩⟩
    have s2:Same H _:=((zh h0 (.tup [.str "let",.str "hold"])).new (o:=.tup []) h1).new (o:=.tup [.ref t1,.ref p2]) h2
    have s3:=s2.new (o:=.lst [.ref t2]) h3
    refine q _ t3 [t2] s3 (s2.free h3) zf ?_
    unfold Bd.ways
    exact .cons (old h3 zf) (old h3 (old h2 zf)) (hb.keep (.of s3)) .nil
  | loose x b =>
    obtain ⟨p2,hp,hb⟩:=hb
    refine ⟨_,rfl,p,_,_,_,rfl,rfl,SqT.of hp,aI0,rfl,_,rfl,?_⟩
    refine ite2 aB (fun _=>?_)
    refine ⟨_,rfl,p,_,_,_,rfl,rfl,SqT.of hp,aI0,rfl,_,rfl,?_⟩
    refine ite2 aB (fun _=>?_)
    refine ⟨_,rfl,p,_,_,_,rfl,rfl,SqT.of hp,aI0,rfl,_,rfl,?_⟩
    refine ite2 aB (fun _=>?_)
    refine ⟨_,rfl,p,_,_,_,rfl,rfl,SqT.of hp,aI0,sN2,fun t0 h0=>?_⟩
    refine ⟨t0,_,rfl,.inr (SqT.of zf),rfl,rfl,_,rfl,?_⟩
    refine ite2 (fun c=>absurd c (show ¬ (if false=true then !inV (V.str "loose") [V.str "let",V.str "hold"] else inV (V.str "loose") [V.str "let",V.str "hold"])=true by decide)) (fun _=>?_)
    have hp0:=old (o:=.tup [.str "let",.str "hold"]) h0 hp
    refine ⟨sN0,fun t1 h1=>⟨_,rfl,_,rfl,p,_,_,_,rfl,rfl,SqT.of (old h1 hp0),rfl,sN2,fun t2 h2=>⟨sN1,fun t3 h3=>?_⟩⟩⟩
    have s2:Same H _:=((zh h0 (.tup [.str "let",.str "hold"])).new (o:=.tup []) h1).new (o:=.tup [.ref t1,.ref p2]) h2
    have s3:=s2.new (o:=.lst [.ref t2]) h3
    refine q _ t3 [t2] s3 (s2.free h3) zf ?_
    unfold Bd.ways
    exact .cons (old h3 zf) (old h3 (old h2 zf)) (hb.keep (.of s3)) .nil
  | iff x a b =>
    obtain ⟨p1,p2,hp,ha,hb⟩:=hb
    refine ⟨_,rfl,p,_,_,_,rfl,rfl,SqT.of hp,aI0,rfl,_,rfl,?_⟩
    refine ite2 aB (fun _=>?_)
    refine ⟨_,rfl,p,_,_,_,rfl,rfl,SqT.of hp,aI0,rfl,_,rfl,?_⟩
    refine ite2 (fun _=>?_) aB
    refine ⟨sN0,fun t1 h1=>⟨_,rfl,p,_,_,_,rfl,rfl,SqT.of (old h1 hp),aI2,sN2,fun t2 h2=>⟨sN0,fun t3 h3=>⟨_,rfl,p,_,_,_,rfl,rfl,SqT.of (old h3 (old h2 (old h1 hp))),aI3,sN2,fun t4 h4=>⟨sN2,fun t5 h5=>?_⟩⟩⟩⟩⟩
    have s4:Same H _:=(((zh h1 (.tup [])).new (o:=.tup [.ref t1,.ref p1]) h2).new (o:=.tup []) h3).new (o:=.tup [.ref t3,.ref p2]) h4
    have s5:=s4.new (o:=.lst [.ref t2,.ref t4]) h5
    refine q _ t5 [t2,t4] s5 (s4.free h5) zf ?_
    unfold Bd.ways
    exact .cons (old h5 (old h4 (old h3 zf))) (old h5 (old h4 (old h3 (old h2 zf)))) (ha.keep (.of s5)) (.cons (old h5 zf) (old h5 (old h4 zf)) (hb.keep (.of s5)) .nil)
  | cs x as =>
    obtain ⟨p1,ps,hp,hp1,hA⟩:=hb
    refine ⟨_,rfl,p,_,_,_,rfl,rfl,SqT.of hp,aI0,rfl,_,rfl,?_⟩
    refine ite2 aB (fun _=>?_)
    refine ⟨_,rfl,p,_,_,_,rfl,rfl,SqT.of hp,aI0,rfl,_,rfl,?_⟩
    refine ite2 aB (fun _=>?_)
    refine ⟨_,rfl,p,_,_,_,rfl,rfl,SqT.of hp,aI0,rfl,_,rfl,?_⟩
    refine ite2 (fun _=>?_) aB
    have hl:as.ways.length=ps.length:=by rw [Arms.ways_l,List.length_map,hA.len]
    have hsz:as.ways.length<=1000000:=by
      have e:∀ a:Arms,a.ways.length<=a.sz:=by
        intro a
        exact YS a
      have:=e as
      rw [Bd.sz] at hz
      lia
    refine ⟨_,rfl,p,_,_,_,rfl,rfl,SqT.of hp,aI2,p1,rfl,⟨_,SqT.of hp1⟩,vv (xs:=ps.map V.ref) (fun j τ ys H'=>Same H H'/\(∃ v,τ=[some (.ref p),v])/\∃ rs:List Addr,ys=rs.map V.ref/\IsY H' (as.ways.take j) rs) ⟨Same.refl _,⟨none,rfl⟩,[],rfl,.nil⟩ (fun j τ ys H' _ h=>SqT.of (h.1 _ _ hp1)) ?_ ?_⟩
    · rintro j v τ ys H1 hv ⟨s1,⟨v',rfl⟩,rs,rfl,hy⟩
      rw [List.getElem?_map] at hv
      obtain ⟨pa,hpa,rfl⟩:=Option.map_eq_some_iff.mp hv
      obtain ⟨⟨t,ns,m,k,b⟩,q1,r1,e0,e2,e3,e4⟩:=hA.get hpa
      have e1:as.ways[j]?=some (ns,b):=by rw [Arms.ways_l,List.getElem?_map,e0]; rfl
      have hj:j < as.ways.length:=(List.getElem?_eq_some_iff.mp e1).1
      have hyl:=hy.len
      rw [List.length_take] at hyl
      refine ⟨_,rfl,pa,_,_,_,rfl,rfl,SqT.of (s1 _ _ e2),aI1,_,rfl,_,rfl,pa,_,_,_,rfl,rfl,SqT.of (s1 _ _ e2),rfl,sN2,fun t1 h1=>⟨by rw [List.length_map]; lia,s1.new h1,⟨_,rfl⟩,rs ++ [t1],by simp,?_⟩⟩
      rw [List.take_add_one,e1]
      exact (hy.keep (.of (zh h1 _))).app (.cons zf (old h1 (s1 _ _ e3)) (e4.keep (.of (s1.new h1))) .nil)
    · rintro τ ys H1 ⟨s1,_,rs,rfl,hy⟩ r hr
      rw [List.length_map,<- hl,List.take_of_length_le (Nat.le_refl _)] at hy
      refine q _ r rs (s1.new hr) (s1.free hr) zf ?_
      unfold Bd.ways
      exact hy.keep (.of (zh hr _))
def ent (l:List Str):List (Key × V):=l.map fun x=>(.inr x,.bl true)
theorem YT:∀ {l:List Str} {x:Str},(valV (ent l) (.inr x)).isSome=decide (x∈l)
  | [],x=>rfl
  | y :: l,x=>by
    show (valV ((Sum.inr y,V.bl true) :: ent l) (.inr x)).isSome=_
    by_cases e:y=x
    · rw [yU (by rw [e])]
      simp [e]
    · have e':¬ x=y:=fun z=>e z.symm
      rw [yV (fun z=>e (Sum.inr.inj z)),YT]
      simp [e']
theorem J3 (l:List Str) (x:Str):putK (ent l) (.inr x) (.bl true)=ent (if x∈l then l else l ++ [x]):=by
  unfold putK
  rw [xo,YT]
  by_cases c:x∈l
  · rw [if_pos (by simpa using c),if_pos c]
    unfold ent
    rw [List.map_map]
    refine List.map_congr_left fun y hy=>?_
    show (if (Sum.inr y:Key)=Sum.inr x then ((Sum.inr y:Key),V.bl true) else (Sum.inr y,V.bl true))=_
    split <;> rfl
  · rw [if_neg (by simpa using c),if_neg c]
    unfold ent
    rw [List.map_append]
    rfl
theorem xb:∀ l:Wy,l.length<=wsz l
  | []=>Nat.zero_le _
  | p :: l=>by
    have h1:=Bd.sz_pos p.2
    have h2:=xb l
    unfold wsz at h2 ⊢
    rw [List.map_cons,List.sum_cons,List.length_cons]
    lia
def YU:Sp:=fun vs H Q _=>∃ (p:Addr) (d:Df),vs=[.ref p]/\IsDf H d p/\d.ps.length<=1000/\d.b.sz<=1000000/\d.b.binds.length<=1000000/\∀ (H':Hp) (r:Addr),Same H H'->H r=none->H' r=some (.lst ((once [] (d.ps ++ d.b.binds)).map V.str))->Q (.ref r) H'
theorem scBound:FnScope ["one","found","left","pair","name","way"] ["one"] (zo Z8):=.ok
theorem Vs (F:Fun K "bound" "bound" Z8 f fd) (GW:Ca P w K mg base CX0 1 "ways_on" ["body"] vE) (m_len:mg "len"=none) (m_reversed:mg "reversed"=none) (m_list:mg "list"=none):FnOk P w K mg base CX0 2 f fd ["one"] YU:=by
  refine F.by scBound (fun vs H Q E h=>?_) (fun cdv A outer s H vs Q E hr h=>?_)
  · obtain ⟨p,d,rfl,_⟩:=h
    rfl
  obtain ⟨p,df,rfl,⟨pq,po,pb,hp,hpq,hpo,hpb⟩,hn1,hn2,bl,q⟩:=h
  refine ⟨_,
    (zg (sE 1 scBound.nd wp)
    (zg (sE 2 scBound.nd (zB (jA1 (zv (jA2 (xT 0) (xX wF (jv 0) (wD zj)))))))
    (zg (vj PassesOwn.never (tN jh (jL m_len (jv 2)) zj)
      (zg (sE 3 scBound.nd (jB PySem.F.plainAttrs_list PySem.F.slot_list_pop PySem.F.type_list_pop jD (jv 2)))
      (zg (zU PassesOwn.never rfl (yr (xT 3)) (gN 4 scBound.nd)
        (zi (wY hr (jv 1) (jv 4) yw)))
      (zi (zU PassesOwn.never rfl (zaY rfl m_reversed (jA1 (cA GW hr (jA1 (xT 3))))) (gN 5 scBound.nd)
        (zi (yf (yA PySem.F.plainAttrs_list PySem.F.slot_list_append PySem.F.type_list_append zQ (jv 2) (jA1 (jv 5))))))))))
    (zi (zp (zF (jY rfl) rfl m_list PyProof.Rows.boot_list (jA1 (jv 1)))))))),?_⟩
  have sl:=zK
  intro d0 hd0
  have s1:=zh (o:=.dK []) hd0
  refine ⟨_,rfl,p,_,_,_,rfl,rfl,SqT.of (s1 _ _ hp),aI1,_,rfl,_,rfl,p,_,_,_,rfl,rfl,SqT.of (s1 _ _ hp),rfl,sN2,fun t1 h1=>⟨sN1,fun lf h2=>?_⟩⟩
  have s2:=s1.new (o:=.tup [.ref pq,.ref pb]) h1
  have flf:H lf=none:=s2.free h2
  have s3:=s2.new (o:=.lst [.ref t1]) h2
  have nld:lf≠d0:=(zn (old h1 (zf (H:=H) (a:=d0) (o:=.dK []))) h2).symm
  refine ⟨fun m σ H'=>∃ (stk:Wy) (ps:List Addr) (acc:List Str) (x y z:Option V),m=wsz stk/\σ=[some (.ref p),some (.ref d0),some (.ref lf),x,y,z]/\Same H H'/\H' lf=some (.lst (ps.reverse.map V.ref))/\IsY H' stk ps/\H' d0=some (.dK (ent acc))/\once acc (pend stk)=once [] (df.ps ++ df.b.binds)/\acc.length + (pend stk).length<=1001000/\wsz stk<=1000000,
    ⟨_,[(df.ps,df.b)],[t1],[],none,none,none,rfl,rfl,s3,zf,.cons (old h2 zf) (s3 _ _ hpq) (hpb.keep (.of s3)) .nil,old h2 (old h1 zf),by unfold pend; simp,by unfold pend; simp; lia,by unfold wsz; simpa using hn2⟩,?_⟩
  rintro m σ H3 ⟨stk,ps,acc,x,y,z,rfl,rfl,sm,hl,hy,hd,ho,hal,hwz⟩
  refine ⟨_,rfl,_,_,rfl,.inl (SqL.of hl),_,_,rfl,rfl,_,rfl,?_⟩
  cases hy with
  | nil =>
    refine iteF ?_
    unfold pend at ho
    refine ⟨_,rfl,d0,_,rfl,hd,fun r hr=>?_⟩
    have e:(ent acc).map (fun kv=>kV kv.1)=acc.map V.str:=by unfold ent; rw [List.map_map]; rfl
    rw [e]
    refine q _ r (sm.new hr) (sm.free hr) ?_
    rw [zf,<- ho]
    rfl
  | @cons ns b pp q1 r1 l ps hpp hq1 hb hy =>
    have hne:decide ((0:Int) < ((((pp :: ps).reverse.map V.ref).length:Nat):Int))=true:=by
      rw [decide_eq_true_eq,List.length_map,List.length_reverse,List.length_cons]
      lia
    rw [hne]
    refine iteT ⟨_,fun _ _ h=>h,?_⟩
    have e1:(pp :: ps).reverse.map V.ref=ps.reverse.map V.ref ++ [.ref pp]:=by simp
    have e2:((pp :: ps).reverse.map V.ref)[((pp :: ps).reverse.map V.ref).length - 1]?=some (.ref pp):=by rw [e1]; simp
    have e3:((pp :: ps).reverse.map V.ref).dropLast=ps.reverse.map V.ref:=by rw [e1]; simp
    refine ⟨_,rfl,.inl ⟨rfl,_,SqL.of hl⟩,lf,_,_,rfl,rfl,hl,e2,?_⟩
    rw [e3]
    have t4:Tups H3 (upd H3 lf (.lst (ps.reverse.map V.ref))):=fun b xs z=>by rw [zk (wb z hl (by intro z; cases z))]; exact z
    have s4:=sm.put (o:=.lst (ps.reverse.map V.ref)) flf
    have hl4:=zf (H:=H3) (a:=lf) (o:=.lst (ps.reverse.map V.ref))
    have hd4:upd H3 lf (.lst (ps.reverse.map V.ref)) d0=some (.dK (ent acc)):=by rw [zk nld.symm]; exact hd
    replace hpp:=t4 _ _ hpp
    replace hq1:=t4 _ _ hq1
    replace hb:=hb.keep t4
    replace hy:=hy.keep t4
    generalize upd H3 lf (.lst (ps.reverse.map V.ref))=H4 at *
    have hpd:pend ((ns,b) :: l)=ns ++ (b.binds ++ pend l):=by unfold pend; rw [List.flatMap_cons,List.append_assoc]
    rw [hpd] at ho hal
    rw [List.length_append,List.length_append] at hal
    have hwc:wsz ((ns,b) :: l)=b.sz + wsz l:=by unfold wsz; rw [List.map_cons,List.sum_cons]
    rw [hwc] at hwz
    have hll:=xb l
    have hyl:=hy.len
    refine ⟨_,rfl,pp,_,_,_,rfl,rfl,SqT.of hpp,aI0,q1,rfl,⟨_,SqT.of hq1⟩,yK (xs:=ns.map V.str) (fun i σ H'=>Same H H'/\Tups H4 H'/\H' lf=some (.lst (ps.reverse.map V.ref))/\H' d0=some (.dK (ent (once acc (ns.take i))))/\∃ y z,σ=[some (.ref p),some (.ref d0),some (.ref lf),some (.ref pp),y,z]) ⟨s4,fun _ _ h=>h,hl4,hd4,_,_,rfl⟩ (fun i σ H' _ h=>SqT.of (h.2.1 _ _ hq1)) ?_ ?_⟩
    · rintro i v σ H5 hv ⟨s5,t5,hl5,hd5,y,z,rfl⟩
      rw [List.getElem?_map] at hv
      obtain ⟨x,hx,rfl⟩:=Option.map_eq_some_iff.mp hv
      have hi:i < ns.length:=(List.getElem?_eq_some_iff.mp hx).1
      have ol:=wq (ns.take i) acc
      rw [List.length_take] at ol
      refine ⟨_,rfl,_,rfl,d0,_,rfl,DPut.k (k:=.inr x) hd5 (by unfold ent; rw [List.length_map]; lia),s5.put hd0,fun b xs z=>?_,?_,?_,_,_,rfl⟩
      · rw [zk (wb (t5 _ _ z) hd5 (by intro e; cases e))]
        exact t5 _ _ z
      · rw [zk nld]
        exact hl5
      · rw [zf,J3,<- XF hx]
    rintro σ H5 ⟨s5,t5,hl5,hd5,y,z,rfl⟩
    rw [List.length_map,List.take_of_length_le (Nat.le_refl _)] at hd5
    refine ⟨_,rfl,pp,_,_,_,rfl,rfl,SqT.of (t5 _ _ hpp),aI1,r1,b,rfl,hb.keep t5,by lia,fun H6 rl rs s6 f6 hrl hyw=>?_⟩
    have hywl:=hyw.len
    have hww:=Bd.wsz b
    have hwl:=xb b.ways
    have nlr:lf≠rl:=zn hl5 f6
    have ndr:d0≠rl:=zn hd5 f6
    refine ⟨rl,_,rfl,SqL.of hrl,JU (xs:=rs.map V.ref) (fun i σ H'=>Same H H'/\Tups H6 H'/\H' rl=some (.lst (rs.map V.ref))/\H' lf=some (.lst ((ps.reverse ++ rs.reverse.take i).map V.ref))/\H' d0=some (.dK (ent (once acc ns)))/\∃ z,σ=[some (.ref p),some (.ref d0),some (.ref lf),some (.ref pp),y,z]) ⟨s5.trans s6,fun _ _ h=>h,hrl,by rw [List.take_zero,List.append_nil]; exact s6 _ _ hl5,s6 _ _ hd5,_,rfl⟩ (fun i σ H' _ h=>SqL.of h.2.2.1) ?_ ?_⟩
    · rintro i v σ H7 hv ⟨s7,t7,hr7,hl7,hd7,z,rfl⟩
      rw [<- List.map_reverse,List.getElem?_map] at hv
      obtain ⟨t,ht,rfl⟩:=Option.map_eq_some_iff.mp hv
      have hi:i < rs.length:=by
        have:=(List.getElem?_eq_some_iff.mp ht).1
        rw [List.length_reverse] at this
        exact this
      refine ⟨_,rfl,.inl ⟨rfl,_,SqL.of hl7⟩,_,rfl,lf,_,_,rfl,rfl,hl7,?_,s7.put flf,fun b xs z=>?_,?_,?_,?_,_,rfl⟩
      · rw [List.length_map,List.length_append,List.length_reverse,List.length_take]
        lia
      · rw [zk (wb (t7 _ _ z) hl7 (by intro e; cases e))]
        exact t7 _ _ z
      · rw [zk nlr.symm]
        exact hr7
      · rw [zf,List.take_add_one,ht]
        simp
      · rw [zk nld.symm]
        exact hd7
    rintro σ H7 ⟨s7,t7,hr7,hl7,hd7,z,rfl⟩
    rw [List.length_map,<- List.length_reverse,List.take_of_length_le (Nat.le_refl _),<- List.reverse_append] at hl7
    have t47:Tups H4 H7:=(t5.trans (.of s6)).trans t7
    refine ⟨wsz (b.ways ++ l),?_,b.ways ++ l,rs ++ ps,once acc ns,_,_,_,rfl,rfl,s7,hl7,(hyw.keep t7).app (hy.keep t47),hd7,?_,?_,?_⟩
    · rw [YR,hwc]
      lia
    · rw [Zo,Bd.pend,<- vD]
      exact ho
    · have ol:=wq ns acc
      rw [Zo,Bd.pend,List.length_append]
      lia
    · rw [YR]
      lia
end
def dif (m n:Nat):Nat:=m - (m &&& n)
theorem and2 (m n:Nat):(m &&& n) / 2=m / 2 &&& n / 2/\(m &&& n) % 2=m % 2 * (n % 2):=by
  refine ⟨Nat.and_div_two,?_⟩
  rw [Nat.and_mod_two_pow (n:=1)]
  rcases (show m % 2=0\/m % 2=1 by lia) with e | e <;> rcases (show n % 2=0\/n % 2=1 by lia) with g | g <;> (show m % 2 &&& n % 2=_) <;> rw [e,g] <;> decide
theorem yn:∀ (i m n:Nat),(dif m n).testBit i=(m.testBit i && !n.testBit i)
  | 0,m,n=>by
    have h:=and2 m n
    have hle:(m &&& n)<=m:=Nat.and_le_left
    unfold dif
    rw [Nat.testBit_zero,Nat.testBit_zero,Nat.testBit_zero]
    rcases (show m % 2=0\/m % 2=1 by lia) with e | e <;> rcases (show n % 2=0\/n % 2=1 by lia) with g | g <;> rw [e,g] at h <;> simp [e,g] <;> lia
  | i + 1,m,n=>by
    have h:=and2 m n
    have hle:(m &&& n)<=m:=Nat.and_le_left
    have hle2:(m / 2 &&& n / 2)<=m / 2:=Nat.and_le_left
    rw [Nat.testBit_succ,Nat.testBit_succ,Nat.testBit_succ,<- yn i (m / 2) (n / 2)]
    congr 1
    unfold dif
    rcases (show m % 2=0\/m % 2=1 by lia) with e | e <;> rcases (show n % 2=0\/n % 2=1 by lia) with g | g <;> rw [e,g] at h <;> lia
theorem xD (m n:Nat):Builtin.bitOr (m:Int) (n:Int)=((m ||| n:Nat):Int):=by
  unfold Builtin.bitOr
  have h1:¬ 0<=Builtin.bitNot (m:Int):=by unfold Builtin.bitNot; lia
  have h2:¬ 0<=Builtin.bitNot (n:Int):=by unfold Builtin.bitNot; lia
  have e:∀ x:Int,Builtin.bitNot (Builtin.bitNot x)=x:=fun x=>by unfold Builtin.bitNot; lia
  rw [PyProof.Rows.bitAnd_nn h1 h2,e,e,e]
  rfl
theorem xt (m n:Nat):Builtin.bitAnd (m:Int) (Builtin.bitNot (n:Int))=((dif m n:Nat):Int):=by
  rw [PyProof.Rows.bitAnd_not,PyProof.Rows.bitAnd_pp (Int.natCast_nonneg m) (Int.natCast_nonneg n)]
  have hle:(m &&& n)<=m:=Nat.and_le_left
  unfold dif
  rw [Int.toNat_natCast,Int.toNat_natCast]
  lia
def bitN:List Str->Str->Nat
  | [],_=>0
  | y :: r,x=>if y=x then 1 else 2 * bitN r x
theorem vF {x:Str}:∀ {ns:List Str},x ∉ ns->bitN ns x=0
  | [],_=>rfl
  | y :: r,h=>by
    unfold bitN
    rw [if_neg (fun e:y=x=>h (e ▸ List.mem_cons_self)),vF (fun z=>h (.tail _ z))]
theorem J4:∀ i:Nat,(1:Nat).testBit i=decide (i=0)
  | 0=>rfl
  | i + 1=>by
    rw [Nat.testBit_succ]
    simp
theorem J5 (m i:Nat):(2 * m).testBit (i + 1)=m.testBit i:=by
  rw [Nat.testBit_succ]
  congr 1
  lia
theorem Vt (m:Nat):(2 * m).testBit 0=false:=by
  rw [Nat.testBit_zero]
  simp
theorem Zp {x:Str}:∀ {ns:List Str} {i:Nat},ns.Nodup->(bitN ns x).testBit i=decide (ns[i]?=some x)
  | [],i,_=>by unfold bitN; simp
  | y :: r,i,nd=>by
    obtain ⟨h1,h2⟩:=List.nodup_cons.mp nd
    unfold bitN
    by_cases e:y=x
    · rw [if_pos e,J4]
      cases i with
      | zero=>simp [e]
      | succ i =>
        simp
        intro z
        exact h1 (e ▸ List.mem_of_getElem? z)
    · rw [if_neg e]
      cases i with
      | zero=>rw [Vt]; simp [e]
      | succ i=>rw [J5,Zp h2]; simp
def tog (ns xs:List Str):Nat:=xs.foldl (fun f x=>f ||| bitN ns x) 0
theorem Zq {ns:List Str} (nd:ns.Nodup) (i:Nat):∀ (xs:List Str) (f:Nat),(xs.foldl (fun f x=>f ||| bitN ns x) f).testBit i=(f.testBit i || decide (∃ x∈xs,ns[i]?=some x))
  | [],f=>by simp
  | x :: r,f=>by
    rw [List.foldl_cons,Zq nd i r,Nat.testBit_or,Zp nd,Bool.or_assoc]
    congr 1
    rw [<- Bool.decide_or]
    congr 1
    simp
theorem YV {ns:List Str} (nd:ns.Nodup) (i:Nat) (xs:List Str):(tog ns xs).testBit i=decide (∃ x∈xs,ns[i]?=some x):=by
  unfold tog
  rw [Zq nd]
  simp
def yi:List Str->Nat->List (Key × V)
  | [],_=>[]
  | x :: r,b=>(.inr x,.int (b:Nat)) :: yi r (b + b)
theorem yX {x:Str}:∀ {ns:List Str} {b:Nat},valV (yi ns b) (.inr x)=if x∈ns then some (.int ((b * bitN ns x:Nat):Int)) else none
  | [],b=>rfl
  | y :: r,b=>by
    unfold yi bitN
    by_cases e:y=x
    · rw [yU (by rw [e]),if_pos (by rw [e]; exact .head _),if_pos e,Nat.mul_one]
    · rw [yV (fun z=>e (Sum.inr.inj z)),yX,if_neg e]
      have e':¬ x=y:=fun z=>e z.symm
      by_cases c:x∈r
      · rw [if_pos c,if_pos (.tail _ c)]
        congr 3
        rw [Nat.add_mul,Nat.mul_left_comm,Nat.two_mul]
      · rw [if_neg c,if_neg (by simp [e',c])]
theorem jj:∀ (a:List Str) (x:Str) (b:Nat),yi (a ++ [x]) b=yi a b ++ [(.inr x,.int ((b * 2 ^ a.length:Nat):Int))]
  | [],x,b=>by show [_]=[_]; rw [List.length_nil,Nat.pow_zero,Nat.mul_one]
  | y :: a,x,b=>by
    show _ :: yi (a ++ [x]) (b + b)=_ :: (yi a (b + b) ++ _)
    rw [jj a x (b + b),List.length_cons,Nat.pow_succ,show (b + b) * 2 ^ a.length=b * (2 ^ a.length * 2) by rw [<- Nat.two_mul,Nat.mul_comm 2 b,Nat.mul_assoc,Nat.mul_comm 2]]
theorem jk:∀ (a:List Str) (b:Nat),(yi a b).length=a.length
  | [],_=>rfl
  | _ :: a,b=>by show (yi a (b + b)).length + 1=_; rw [jk a]; rfl
def Bd.used:Bd->List Str
  | .give x=>[x]
  | .lt _ d _=>zI d
  | .hold _ y _=>[y]
  | .drop _ _=>[]
  | .loose _ _=>[]
  | .iff x _ _=>[x]
  | .cs x _=>[x]
mutual
def Bd.mk (ns:List Str):Bd->Nat
  | .give x=>0 ||| tog ns [x]
  | .lt x d b=>(0 ||| dif (b.mk ns) (tog ns [x])) ||| tog ns (zI d)
  | .hold x y b=>(0 ||| dif (b.mk ns) (tog ns [x])) ||| tog ns [y]
  | .drop _ b=>(0 ||| dif (b.mk ns) (tog ns [])) ||| tog ns []
  | .loose _ b=>(0 ||| dif (b.mk ns) (tog ns [])) ||| tog ns []
  | .iff x a b=>((0 ||| dif (a.mk ns) (tog ns [])) ||| dif (b.mk ns) (tog ns [])) ||| tog ns [x]
  | .cs x as=>Arms.mk ns as 0 ||| tog ns [x]
def Arms.mk (ns:List Str):Arms->Nat->Nat
  | .nil,f=>f
  | .cons _ xs _ _ b r,f=>Arms.mk ns r (f ||| dif (b.mk ns) (tog ns xs))
end
def accW (ns:List Str) (l:Wy) (f:Nat):Nat:=l.foldl (fun f w=>f ||| dif (w.2.mk ns) (tog ns w.1)) f
theorem Arms.mk_ways (ns:List Str):∀ (as:Arms) (f:Nat),Arms.mk ns as f=accW ns as.ways f
  | .nil,f=>by unfold Arms.mk Arms.ways accW; rfl
  | .cons t xs m k b r,f=>by
    unfold Arms.mk Arms.ways accW
    rw [List.foldl_cons]
    exact Arms.mk_ways ns r _
theorem Bd.mk_ways (ns:List Str) (b:Bd):b.mk ns=accW ns b.ways 0 ||| tog ns b.used:=by
  cases b with
  | give x=>unfold Bd.mk Bd.ways Bd.used accW; rfl
  | lt x d b=>rw [Bd.mk]; rfl
  | hold x d b=>rw [Bd.mk]; rfl
  | drop x b=>rw [Bd.mk]; rfl
  | loose x b=>rw [Bd.mk]; rfl
  | iff x a b=>rw [Bd.mk]; rfl
  | cs x as=>rw [Bd.mk,Arms.mk_ways]; rfl
mutual
def Bd.fr (x:Str):Bd->Bool
  | .give y=>decide (x∈[y])
  | .lt y d b=>(b.fr x && !decide (x∈[y])) || decide (x∈zI d)
  | .hold y z b=>(b.fr x && !decide (x∈[y])) || decide (x∈[z])
  | .drop _ b=>b.fr x
  | .loose _ b=>b.fr x
  | .iff y a b=>(a.fr x || b.fr x) || decide (x∈[y])
  | .cs y as=>as.fr x || decide (x∈[y])
def Arms.fr (x:Str):Arms->Bool
  | .nil=>false
  | .cons _ xs _ _ b r=>(b.fr x && !decide (x∈xs)) || r.fr x
end
section
variable {ns:List Str} (nd:ns.Nodup) {i:Nat} {x:Str} (hx:ns[i]?=some x)
include nd hx
theorem yj (xs:List Str):(tog ns xs).testBit i=decide (x∈xs):=by
  rw [YV nd]
  congr 1
  rw [hx]
  simp
mutual
theorem Bd.mk_bit:∀ b:Bd,(b.mk ns).testBit i=b.fr x
  | .give y=>by rw [Bd.mk,Nat.testBit_or,yj nd hx,Bd.fr,Nat.zero_testBit,Bool.false_or]
  | .lt y d b=>by rw [Bd.mk,Nat.testBit_or,Nat.testBit_or,yj nd hx,yn,yj nd hx,Bd.fr,Nat.zero_testBit,Bool.false_or,Bd.mk_bit b]
  | .hold y d b=>by rw [Bd.mk,Nat.testBit_or,Nat.testBit_or,yj nd hx,yn,yj nd hx,Bd.fr,Nat.zero_testBit,Bool.false_or,Bd.mk_bit b]
  | .drop y b=>by rw [Bd.mk,Nat.testBit_or,Nat.testBit_or,yj nd hx,yn,yj nd hx,Bd.fr,Nat.zero_testBit,Bool.false_or,Bd.mk_bit b]; simp
  | .loose y b=>by rw [Bd.mk,Nat.testBit_or,Nat.testBit_or,yj nd hx,yn,yj nd hx,Bd.fr,Nat.zero_testBit,Bool.false_or,Bd.mk_bit b]; simp
  | .iff y a b=>by rw [Bd.mk,Nat.testBit_or,Nat.testBit_or,Nat.testBit_or,yj nd hx,yn,yn,yj nd hx,Bd.fr,Nat.zero_testBit,Bool.false_or,Bd.mk_bit a,Bd.mk_bit b]; simp
  | .cs y as=>by rw [Bd.mk,Nat.testBit_or,yj nd hx,Arms.mk_bit as 0,Nat.zero_testBit,Bool.false_or,Bd.fr]
theorem Arms.mk_bit:∀ (as:Arms) (f:Nat),(Arms.mk ns as f).testBit i=(f.testBit i || as.fr x)
  | .nil,f=>by rw [Arms.mk,Arms.fr,Bool.or_false]
  | .cons t xs m k b r,f=>by rw [Arms.mk,Arms.mk_bit r,Nat.testBit_or,yn,yj nd hx,Bd.mk_bit b,Arms.fr,Bool.or_assoc]
end
end
end GN
namespace L2
open PySem
theorem cutR {t:TS} {D:Ends} {σ:St} {H:Hp} {P:St->Hp->Prop} (h:∀ D':Ends,D'.rt=D.rt->(∀ σ H,P σ H->D'.nx σ H)->t D' σ H) (p:∀ σ H,P σ H->D.nx σ H):t D σ H:=h D rfl p
end L2
namespace L2
open PySem PySem.Spec PyProof.Rows
def CelO (c:Addr) (v:V):HO:=.ext fun h=>∃ u,RelV v u/\h.IsCell c (some u)
def Cel (H:Hp) (c:Addr) (v:V):Prop:=∃ o,H c=some (.frz o (CelO c v))
theorem Vu {P:Program} {w:World} {H:Hp} {h:Heap} {c:Addr} {v:V} {u:Value} {o:Obj} (e:h.get? c=some o) (d:o.data=.cell (some u)) (r:RelV v u):ObjOk P w H h c (.frz o (CelO c v)) :=
  ⟨e,⟨u,r,o,e,d⟩,⟨o,e⟩,fun _ _ ⟨u,r,o,e,d⟩ k=>⟨u,r,o,k _ e,d⟩⟩
def yB (H:Hp) (as:List Addr):Hp:=fun b=>if b∈as then none else H b
def xM (H' H:Hp) (as:List Addr):Hp:=fun b=>if b∈as then H b else H' b
theorem wr {H:Hp} {as:List Addr} {b:Addr} (h:b∈as):yB H as b=none:=if_pos h
theorem zY {H:Hp} {as:List Addr} {b:Addr} (h:b ∉ as):yB H as b=H b:=if_neg h
theorem vb {H' H:Hp} {as:List Addr} {b:Addr} (h:b∈as):xM H' H as b=H b:=if_pos h
theorem yy {H' H:Hp} {as:List Addr} {b:Addr} (h:b ∉ as):xM H' H as b=H' b:=if_neg h
abbrev lamC (mg:Str->Option Value) (qual:Str) (params:Arguments) (body:Expr) (scope:Scope) (cl:List (Str × Addr)) (c:Addr) (ctv:Value):FuncData:=PySem.W.kla_fn "<lambda>" qual params body scope cl ((mg "__name__").getD .none) (.ref c) ctv
def Vv (mg:Str->Option Value) (T:Addr) (qual:Str) (params:Arguments) (body:Expr) (scope:Scope) (pos:Pos) (cl:List (Str × Addr)):TE:=fun _ H Q=>∃ ps,H T=some (.tbl ps)/\TriplesOk ps.toList /\
  ((codeAmong pos ps.toList=none/\∀ (c f:Addr) (ctv:Value),H c=none->H f=none->f≠c->Q (.ref f) (upd (upd (upd H T (.tbl (ps ++ #[rawInt pos.line,rawInt pos.col,.ref c]))) c (CodO c qual)) f (FunO f (lamC mg qual params body scope cl c ctv)))) \/
   (∃ c,codeAmong pos ps.toList=some (.ref c)/\∀ (f:Addr) (ctv:Value),H f=none->Q (.ref f) (upd H f (FunO f (lamC mg qual params body scope cl c ctv)))))
theorem J6 {X:Cx} {cl:List (Str × Addr)} {c T:Addr} {params:Arguments} {body:Expr} {scope:Scope} {pos:Pos} {qual:Str} (hB:BMn X.mg X.base) (hcode:X.env.code=.ref c) (hc:PySem.W.codeHdIn X.K c T=true) (hq:X.env.qual ++ "<lambda>"=qual)
    (hdef:defaultsOf params X.env=([],[])) (hcl:closureFor scope X.env=pure cl):PE X (.Lambda params body scope pos) (Vv X.mg T qual params body scope pos cl):=by
  intro pins s σ H Q I h
  refine PySem.W.kla_eval hdef ?_
  rw [hq]
  obtain ⟨ps,hT,tr,h⟩:=h
  have gT:s.heap.get? T=some { cls:=.none,data:=.fields ps }:=I.hok T _ hT
  have hg:=I.mod.glob.keeps I.bk
  obtain ⟨bAt,hgP⟩:=(hB.keeps I.bk).at hg gT
  rcases h with ⟨nf,h⟩ | ⟨c',hit,h⟩
  · refine PySem.W.kla_makeFunction (mg:=X.mg) hcl I.ok.glob hg hcode (PySem.W.codeHd_of_K I.kIn hc) gT tr nf hgP bAt fun c' ctv h' tk ext ge lt rec tab=>?_
    have hc0:H c'=none:=I.hok.fresh ge
    have hf0:H h'.objs.size=none:=I.hok.fresh (Nat.le_trans ge (Nat.le_of_lt lt))
    have nfc:h'.objs.size≠c':=Nat.ne_of_gt lt
    have ncT:T≠c':=zn hT hc0
    have nfT:T≠h'.objs.size:=zn hT hf0
    have elsewhere:∀ b,b≠T->b≠c'->b≠h'.objs.size->upd (upd (upd H T (.tbl (ps ++ #[rawInt pos.line,rawInt pos.col,.ref c']))) c' (CodO c' qual)) h'.objs.size (FunO h'.objs.size (lamC X.mg qual params body scope cl c' ctv)) b=H b:=fun b h1 h2 h3=>by rw [zk h3,zk h2,zk h1]
    have hU:∀ b u,H b=some u->b≠T->upd (upd (upd H T (.tbl (ps ++ #[rawInt pos.line,rawInt pos.col,.ref c']))) c' (CodO c' qual)) h'.objs.size (FunO h'.objs.size (lamC X.mg qual params body scope cl c' ctv)) b=some u:=fun b u e n=>by
      rw [elsewhere b n (zn e hc0) (zn e hf0)]; exact e
    have hTb:upd (upd (upd H T (.tbl (ps ++ #[rawInt pos.line,rawInt pos.col,.ref c']))) c' (CodO c' qual)) h'.objs.size (FunO h'.objs.size (lamC X.mg qual params body scope cl c' ctv)) T=some (.tbl (ps ++ #[rawInt pos.line,rawInt pos.col,.ref c'])):=by
      rw [zk nfT,zk ncT]; exact zf
    have keep:∀ b o,b≠T->s.heap.get? b=some o->(h'.push (PySem.W.kla_obj "<lambda>" qual params body scope cl ((X.mg "__name__").getD .none) c' ctv)).get? b=some o:=fun b o n e=>Heap.get?_push_of_some _ (ext b o n e)
    have neT:∀ b,H b=none->b≠T:=fun b e n=>by rw [n,hT] at e; cases e
    refine ⟨.ref h'.objs.size,_,I.un (t':=tk) (H':=upd (upd (upd H T (.tbl (ps ++ #[rawInt pos.line,rawInt pos.col,.ref c']))) c' (CodO c' qual)) h'.objs.size (FunO h'.objs.size (lamC X.mg qual params body scope cl c' ctv))) ⟨fun b o e n _ _=>keep b o (neT b n) e,fun b o e n _ _=>⟨o.slots,keep b o (neT b n) e⟩,fun b o e n _=>?_,fun b o e _=>?_,fun b xs e=>hU b _ e (fun z=>by rw [z,hT] at e; cases e),fun b o xs e=>hU b _ e (fun z=>by rw [z,hT] at e; cases e),fun b qs e=>?_⟩ ?_,rfl,h c' _ ctv hc0 hf0 nfc⟩
    · have l:=Heap.lt_size e
      rw [elsewhere b (neT b n) (Nat.ne_of_lt (Nat.lt_of_lt_of_le l ge)) (Nat.ne_of_lt (Nat.lt_trans (Nat.lt_of_lt_of_le l ge) lt))]
      exact n
    · by_cases z:b=T
      · rw [z]; exact ⟨_,Heap.get?_push_of_some _ tab⟩
      · exact ⟨o,keep b o z e⟩
    · by_cases z:b=T
      · subst z
        rw [hT] at e; cases e
        exact ⟨_,hTb⟩
      · exact ⟨#[],by rw [hU b _ e z]; simp⟩
    · intro b u e
      by_cases z1:b=h'.objs.size
      · subst z1
        rw [zf] at e; cases e
        exact Vm (Heap.get?_push_size _ rfl)
      rw [zk z1] at e
      by_cases z2:b=c'
      · subst z2
        rw [zf] at e; cases e
        obtain ⟨d,oc,vs,t,q,e,r⟩:=rec
        exact za7 ⟨d,oc,vs,t,q,Heap.get?_push_of_some _ e,r⟩
      rw [zk z2] at e
      by_cases z3:b=T
      · subst z3
        rw [zf] at e; cases e
        exact Heap.get?_push_of_some _ tab
      rw [zk z3] at e
      refine (I.hok b u e).stay (fun d v hd q=>keep d v ?_ q) (fun d q=>hU d _ q fun z=>by rw [z,hT] at q; cases q) fun d xs q=>hU d _ q fun z=>by rw [z,hT] at q; cases q
      rcases hd with rfl | hd
      · exact z3
      · intro z
        rw [z,hT] at hd; cases hd
  · refine PySem.W.kla_makeFunctionHit (mg:=X.mg) hcl I.ok.glob hg hcode (PySem.W.codeHd_of_K I.kIn hc) gT tr hit bAt fun ctv h' tk kp sz=>?_
    have hf0:H h'.objs.size=none:=I.hok.fresh sz
    exact ⟨.ref h'.objs.size,_,I.laid (t':=tk) (o:=FunO h'.objs.size (lamC X.mg qual params body scope cl c' ctv)) (fun b u e=>Heap.get?_push_of_some _ (kp b u e)) sz (Vm (Heap.get?_push_size _ rfl)),rfl,h _ ctv hf0⟩
theorem YW {X:Cx} {cl:List (Str × Addr)} {c T:Addr} {params:Arguments} {body:Expr} {scope:Scope} {pos:Pos} {qual:Str} (hB:BMn X.mg X.base) (hcode:X.env.code=.ref c) (hc:PySem.W.codeHdIn X.K c T=true) (hq:X.env.qual ++ "<lambda>"=qual)
    (hdef:defaultsOf params X.env=([],[]):=by rfl) (hcl:closureFor scope X.env=pure cl:=by with_unfolding_all rfl):jE X (.Lambda params body scope pos) (Vv X.mg T qual params body scope pos cl):=⟨J6 hB hcode hc hq hdef hcl⟩
structure LamScope (N ps fs:List Str) (sc:Scope):Prop where
  kind:sc.kind=.function
  co:sc.isCoroutine=false
  gen:sc.isGenerator=false
  nd:N.Nodup
  cat:N=ps ++ fs
  par:∀ x∈ps,sc.names.lookup x=some .local
  fre:∀ x∈fs,sc.names.lookup x=some .free
  nocell:∀ y∈sc.names,y.2≠.cell
  has:∀ y∈sc.names,y.2=.free->y.1∈fs
structure Clo (H:Hp) (cl:List (Str × Addr)) (fs:List Str) (fvs:List V):Prop where
  len:fvs.length=fs.length
  all:∀ p∈cl,∃ v,Cel H p.2 v
  get:∀ (i:Nat) (x:Str) (v:V),fs[i]?=some x->fvs[i]?=some v->∃ a,cl.lookup x=some a/\Cel H a v
  has:∀ x∈fs,∃ a,cl.lookup x=some a
  inj:∀ x y a,cl.lookup x=some a->cl.lookup y=some a->x=y
def Vw (CX:CXT) (P:Program) (w:World) (K:PySem.W.Frag) (mg:Str->Option Value) (base:Heap) (N:List Str) (qual:Str) (scope:Scope) (f:Addr) (cd:Value) (cl:List (Str × Addr)) (A:Around) (outer:List Env) (s:Shared) (H:Hp) (E:XK):Cx where
  prog:=P
  w:=w
  K:=K
  mg:=mg
  base:=base
  A:=A.deeper (PySem.W.envX qual scope s.heap.objs.size f cd cl)
  N:=N
  s₀:=s
  H₀:=yB H (cl.map (·.2))
  env:=PySem.W.envX qual scope s.heap.objs.size f cd cl
  outer:=outer
  stack:=PySem.W.envX qual scope s.heap.objs.size f cd cl :: outer
  ex:=[]
  calm:=true
  fn:=fun _=>false
  pn:=[]
  xe:=fun e s'=>wpAny (model P w) (A.deeper (PySem.W.envX qual scope s.heap.objs.size f cd cl)) (leaving (PySem.W.envX qual scope s.heap.objs.size f cd cl) e) (fun _ s''=>CX outer H s E e s'') (fun e' s''=>CX outer H s E e' s'') s'
theorem vG {x:Str} {v:Value}:∀ {P:List Str} {vs:List Value} {i:Nat},P.Nodup->P[i]?=some x->vs[i]?=some v->(P.zip vs).reverse.lookup x=some v
  | [],_,_,_,h,_=>by simp at h
  | _ :: _,[],_,_,_,h=>by simp at h
  | p :: P,w :: vs,0,nd,h1,h2=>by
    simp at h1 h2; subst h1; subst h2
    have hn:∀ y∈(P.zip vs).reverse,y.1≠p:=fun y hy z=>(List.nodup_cons.mp nd).1 (z ▸ (List.of_mem_zip (List.mem_reverse.mp hy)).1)
    rw [List.zip_cons_cons,List.reverse_cons,List.lookup_append]
    have:(P.zip vs).reverse.lookup p=none:=List.lookup_eq_none_iff.mpr fun y hy=>by simpa using fun z=>hn y hy z.symm
    rw [this]
    simp
  | p :: P,w :: vs,i + 1,nd,h1,h2=>by
    rw [List.zip_cons_cons,List.reverse_cons,List.lookup_append,vG (i:=i) (List.nodup_cons.mp nd).2 (by simpa using h1) (by simpa using h2)]
    rfl
section
variable {P:Program} {w:World} {H H':Hp} {h h':Heap} {as:List Addr}
theorem zL (hc:∀ a∈as,∃ v,Cel H a v) {b:Addr} {u:HO} (e:H b=some u) (n:∀ o c v,u≠.frz o (CelO c v)):yB H as b=some u:=by
  rw [zY]
  · exact e
  · intro z
    obtain ⟨v,o,q⟩:=hc b z
    rw [e] at q
    exact n _ _ _ (Option.some.inj q)
theorem YX (hc:∀ a∈as,∃ v,Cel H a v) (x:HOk P w H h):HOk P w (yB H as) h:=fun b u e=>by
  have nb:b ∉ as:=fun z=>by rw [wr z] at e; cases e
  rw [zY nb] at e
  exact (x b u e).stay (fun _ _ _ q=>q) (fun d q=>zL hc q (by intro _ _ _ z; cases z)) fun d xs q=>zL hc q (by intro _ _ _ z; cases z)
theorem J7 (hn:∀ a∈as,H' a=none) (hk:∀ a∈as,∀ u,H a=some u->∃ v o,u=.frz o (CelO a v)/\h.get? a=some o/\h'.get? a=some o) (x:HOk P w H h) (x':HOk P w H' h'):HOk P w (xM H' H as) h':=fun b u e=>by
  have up:∀ d z,H' d=some z->xM H' H as d=some z:=fun d z q=>by
    rw [yy]
    · exact q
    · intro y; rw [hn d y] at q; cases q
  by_cases nb:b∈as
  · rw [vb nb] at e
    obtain ⟨v,o,rfl,e1,e2⟩:=hk b nb u e
    obtain ⟨_,⟨u',r,o',e3,d⟩,_⟩:=x b _ e
    rw [e1] at e3; cases e3
    exact Vu e2 d r
  · rw [yy nb] at e
    exact (x' b u e).stay (fun _ _ _ q=>q) (fun d q=>up d _ q) fun d xs q=>up d _ q
theorem J8 {fs:List Addr} (hc:∀ a∈as,∃ v,Cel H a v) (u:Un fs [] (yB H as) H' h h') (hn:∀ a∈as,H' a=none):Un fs [] H (xM H' H as) h h':=by
  have no:∀ b,H b=none->b ∉ as:=fun b n z=>by
    obtain ⟨v,o,q⟩:=hc b z
    rw [n] at q; cases q
  have mk:∀ b,H b=none->yB H as b=none:=fun b n=>by rw [zY (no b n)]; exact n
  have up:∀ d z,H' d=some z->xM H' H as d=some z:=fun d z q=>by
    rw [yy]
    · exact q
    · intro y; rw [hn d y] at q; cases q
  refine ⟨fun b o e n hb hx=>u.keep b o e (mk b n) hb hx,fun b o e n hb hx=>u.slot b o e (mk b n) hb hx,fun b o e n hx=>?_,u.there,fun b xs e=>up _ _ (u.tups b xs (zL hc e (by intro _ _ _ z; cases z))),fun b o x e=>?_,fun b ps e=>?_⟩
  · rw [yy (no b n)]
    exact u.free b o e (mk b n) hx
  · by_cases z:b∈as
    · rw [vb z]; exact e
    · rw [yy z]
      exact u.frzs b o x (by rw [zY z]; exact e)
  · obtain ⟨more,q⟩:=u.tbls b ps (zL hc e (by intro _ _ _ z; cases z))
    exact ⟨more,up _ _ q⟩
end
theorem YY {CX:CXT} {P:Program} {w:World} {K:PySem.W.Frag} {mg:Str->Option Value} {base:Heap} {k:Nat} {f c:Addr} {name qual:Str} {params:Arguments} {body:Expr} {scope:Scope} {cl:List (Str × Addr)} {pm ct:Value}
    {N ps fs:List Str} {sp:Sp} (S:LamScope N ps fs scope) (len:∀ vs H Q E,sp vs H Q E->vs.length=ps.length)
    (hbody:∀ (A:Around) (outer:List Env) (s:Shared) (H:Hp) (vs:List V) (Q:VK) (E:XK),Room k (A.deeper (PySem.W.envX qual scope s.heap.objs.size f (.ref c) cl))->sp vs H Q E ->
      H f=some (FunO f (PySem.W.kla_fn name qual params body scope cl pm (.ref c) ct))/\H c=some (CodO c qual)/\∃ fvs,Clo H cl fs fvs /\
      ∃ t,jE (Vw CX P w K mg base N qual scope f (.ref c) cl A outer s H E) body t/\t (vs.map some ++ fvs.map some) (yB H (cl.map (·.2))) fun v H'=>(∀ a∈cl.map (·.2),H' a=none)->Q v (xM H' H (cl.map (·.2)))) :
    FnOk P w K mg base CX (k + 1) f (PySem.W.kla_fn name qual params body scope cl pm (.ref c) ct) ps sp:=by
  refine ⟨len,fun A outer s H args us vs Q E hr e0 hb r hsp=>?_⟩
  have hl:=len _ _ _ _ hsp
  have lim:s.heap.NoLimit:=e0.mod.nolimit.keeps fun b o e=>(e0.bs b o e).1
  obtain ⟨hf,hc,fvs,C,t,ht,hq⟩:=hbody A outer s H vs Q E (hr.deeper _) hsp
  have of:=(e0.hok f _ hf).1
  have oc:=(e0.hok c _ hc).1
  have hcA:∀ a∈cl.map (·.2),∃ v,Cel H a v:=fun a ha=>by
    obtain ⟨p,hp,rfl⟩:=List.mem_map.mp ha
    exact C.all p hp
  have hcl:∀ x a,cl.lookup x=some a->a∈cl.map (·.2):=fun x a e=>List.mem_map.mpr ⟨(x,a),PySem.mem_of_lookup e,rfl⟩
  refine PySem.W.kla_callFunE hr.depth of rfl S.co S.gen rfl oc (hb _ _ _ _ ?_)
  refine wpAny_newFunctionEnv S.nocell (fun y hy=>S.par _ (List.of_mem_zip hy).1) (fun h₁ hns hsb=>?_) S.kind
  have hk₁:∀ b o,s.heap.get? b=some o->h₁.get? b=some o:=fun b o e=>hsb.extBut b o (Nat.ne_of_lt (Heap.lt_size e)) (Heap.get?_push_of_some _ e)
  refine ⟨lim.keeps hk₁,PySem.W.kla_codeExpr ?_⟩
  have isc:∀ x a,cl.lookup x=some a->∃ v,Cel H a v:=fun x a e=>hcA a (hcl x a e)
  have cget:∀ a v,Cel H a v->∃ u,RelV v u/\s.heap.IsCell a (some u):=fun a v ⟨o,q⟩=>(e0.hok a _ q).2.1
  have I:Inv (Vw CX P w K mg base N qual scope f (.ref c) cl A outer s H E) [] (vs.map some ++ fvs.map some) (yB H (cl.map (·.2))) { s with heap:=h₁,toks:=s.toks + (ps.zip us).length }:=by
    have noA:∀ b:Addr,b ∉ (Vw CX P w K mg base N qual scope f (.ref c) cl A outer s H E).ex:=fun b z=>absurd (show b∈([]:List Addr) from z) (by simp)
    have mnone:∀ b,H b=none->yB H (cl.map (·.2)) b=none:=fun b e=>by
      unfold yB
      split
      · rfl
      · exact e
    refine ⟨⟨e0.mod,S.kind,rfl,rfl,Nat.le_refl _,fun y z a h1 h2=>C.inj y z a h1 h2,fun y hy=>?_,fun y a z=>absurd (show false=true from z) (by decide),fun _=>hr.hd,Around.frames_deeper e0.frames,.inr ⟨rfl,rfl⟩,fun b z=>absurd z (noA b),fun b o e=>⟨(e0.bs b o e).1,mnone _ (e0.bs b o e).2⟩,e0.bsz,fun b _ _=>noA b,fun b z=>absurd z (noA b),e0.funs,fun b hb=>mnone _ (e0.frf b hb)⟩,
      rfl,e0.bare,Un.kept hk₁,⟨_,hns,fun i y v h1 h2 h3=>?_⟩,fun y a h=>?_,mnone _ (e0.hok.fresh (Nat.le_refl _)),fun y a h=>wr (hcl y a h),fun p hp=>absurd (show p∈([]:List (Addr × Obj)) from hp) (by simp),YX hcA (e0.hok.kept hk₁),?_⟩
    · have hy:scope.names.lookup y=some .cell\/scope.names.lookup y=some .free:=hy
      rcases hy with hy | hy
      · exact absurd rfl (S.nocell _ (PySem.mem_of_lookup hy))
      · exact C.has y (S.has _ (PySem.mem_of_lookup hy) rfl)
    · have h1:(ps ++ fs)[i]?=some y:=by rw [<- S.cat]; exact h1
      have ndP:ps.Nodup:=by have:=S.nd; rw [S.cat] at this; exact (List.nodup_append.mp this).1
      by_cases hi:i < vs.length
      · rw [List.getElem?_append_left (by simpa using hi),List.getElem?_map] at h2
        rw [List.getElem?_append_left (by lia)] at h1
        cases e:vs[i]? with
        | none=>rw [e] at h2; cases h2
        | some a =>
          rw [e] at h2; cases h2
          obtain ⟨u,hu,rv⟩:=r.get e
          exact ⟨u,rv,.inl ⟨S.par y (List.mem_of_getElem? h1),vG ndP h1 hu⟩⟩
      · rw [List.getElem?_append_right (by simpa using hi),List.getElem?_map] at h2
        rw [List.getElem?_append_right (by lia)] at h1
        rw [List.length_map,hl] at h2
        cases e:fvs[i - ps.length]? with
        | none=>rw [e] at h2; cases h2
        | some a =>
          rw [e] at h2; cases h2
          obtain ⟨ca,g1,g2⟩:=C.get _ _ _ h1 e
          obtain ⟨u,rv,q⟩:=cget _ _ g2
          exact ⟨u,rv,.inr ⟨.inr (S.fre y (List.mem_of_getElem? h1)),ca,g1,q.keeps hk₁⟩⟩
    · obtain ⟨v,q⟩:=isc y a h
      obtain ⟨u,_,q⟩:=cget _ _ q
      exact ⟨_,q.keeps hk₁⟩
    · show _=N.length
      rw [S.cat,List.length_append,List.length_append,List.length_map,List.length_map,C.len,hl]
  refine wpAny_mono (ht.out [] _ _ _ _ I hq) (fun u s' hs=>?_) fun e s' hs=>hs
  obtain ⟨v,H',J,rv,q⟩:=hs
  have hn:∀ a∈cl.map (·.2),H' a=none:=fun a ha=>by
    obtain ⟨v,o,q⟩:=hcA a ha
    obtain ⟨e1,_⟩:=e0.hok a _ q
    exact J.base.free a o e1 (wr ha) (by exact fun z=>absurd (show a∈([]:List Addr) from z) (by simp))
  refine ⟨v,_,J.os,J.bare,J8 hcA J.base hn,J7 hn (fun a ha u e=>?_) e0.hok J.hok,rv,q hn⟩
  obtain ⟨v',o,q'⟩:=hcA a ha
  rw [q'] at e; cases e
  obtain ⟨e1,_⟩:=e0.hok a _ q'
  refine ⟨v',o,rfl,e1,J.base.keep a o e1 (wr ha) (fun z=>?_) (fun z=>absurd (show a∈([]:List Addr) from z) (by simp))⟩
  rw [e0.frf a z] at q'
  cases q'
structure EndsR where
  nx:St->Hp->Prop
  rt:St->V->Hp->Prop
abbrev TR:=EndsR->St->Hp->Prop
def SPR (X:Cx) (D:EndsR) (f:Flow) (s':Shared):Prop :=
  match f with
  | .next=>∃ σ' H',Inv X [] σ' H' s'/\D.nx σ' H'
  | .ret u=>∃ v σ' H',Inv X [] σ' H' s'/\RelV v u/\D.rt σ' v H'
  | _=>False
structure jR (X:Cx) (st:List Stmt) (t:TR):Prop where
  out:∀ (s:Shared) (σ:St) (H:Hp) (D:EndsR),Inv X [] σ H s->t D σ H->wpAny (model X.prog X.w) X.A (execs st X.env) (SPR X D) X.xe s
section
variable {X:Cx} {st:Stmt} {rest A:List Stmt} {t:TS} {u tA:TR} {e c:Expr} {te:TE} {tc:TT} {pos:Pos}
theorem J9 (h1:jS X st t) (h2:jR X rest u):jR X (st :: rest) (fun D σ H=>t { nx:=u D,rt:=fun _ _=>False } σ H):=⟨by
  intro s σ H D I h
  refine wpAny_execs_cons (thn (h1.out [] s σ H { nx:=u D,rt:=fun _ _=>False } I h) fun f s1 q=>?_)
  cases f with
  | next =>
    obtain ⟨σ',H',I',q⟩:=q
    exact h2.out s1 σ' H' D I' q
  | ret v =>
    obtain ⟨_,_,_,_,_,q⟩:=q
    exact False.elim q
  | brk =>
    obtain ⟨_,_,_,q⟩:=q
    exact False.elim q
  | cont =>
    obtain ⟨_,_,_,q⟩:=q
    exact False.elim q⟩
theorem zba (he:jE X e te):jR X [.Return (some e) pos] (fun D σ H=>te σ H (D.rt σ)):=⟨by
  intro s σ H D I h
  refine wpAny_execs_cons (wpAny_Return_some (thn (he.out [] s σ H _ I h) fun v s1 ⟨x,H1,I1,r1,q1⟩=>?_))
  exact ⟨x,σ,H1,I1,r1,q1⟩⟩
end
structure Pub (H H3:Hp) (cvs:List (Addr × V)):Prop where
  old:∀ b,b ∉ cvs.map (·.1)->H3 b=H b
  non:∀ p∈cvs,H p.1=none
  cel:∀ p∈cvs,Cel H3 p.1 p.2
def CellsAt (X:Cx) (σ:St) (cvs:List (Addr × V)):Prop:=∀ p∈cvs,∃ (i:Nat) (x:Str),X.N[i]?=some x/\σ[i]?=some (some p.2)/\X.env.cells.lookup x=some p.1/\(X.env.scope.names.lookup x=some .cell\/X.env.scope.names.lookup x=some .free)
theorem CellsAt.cell {X:Cx} {pins:List (Addr × Obj)} {σ:St} {H:Hp} {s:Shared} {cvs:List (Addr × V)} (I:Inv X pins σ H s) (h:CellsAt X σ cvs):∀ p∈cvs,∃ o u,s.heap.get? p.1=some o/\o.data=.cell (some u)/\RelV p.2 u:=fun p hp=>by
  obtain ⟨i,x,e1,e2,e3,e4⟩:=h p hp
  obtain ⟨m,_,l⟩:=I.loc
  obtain ⟨u,r,l⟩:=l i x _ e1 e2 (.inr e4)
  rcases l with ⟨k,_⟩ | ⟨_,c,q,o,e,d⟩
  · have k:X.env.scope.names.lookup x=some .local:=k
    rcases e4 with e4 | e4 <;> rw [e4] at k <;> cases k
  · rw [e3] at q; cases q
    exact ⟨o,u,e,d,r⟩
def pubH (h:Heap) (H:Hp) (cvs:List (Addr × V)):Hp:=fun b=>match cvs.find? (fun p=>p.1 == b) with
  | some p=>some (.frz ((h.get? b).getD { cls:=.none,data:=.plain }) (CelO b p.2))
  | none=>H b
theorem Yi {h:Heap} {H:Hp} {cvs:List (Addr × V)} {b:Addr} (hb:b∈cvs.map (·.1)):∃ v,(b,v)∈cvs/\pubH h H cvs b=some (.frz ((h.get? b).getD { cls:=.none,data:=.plain }) (CelO b v)):=by
  obtain ⟨p,hp,rfl⟩:=List.mem_map.mp hb
  cases e:cvs.find? (fun q=>q.1 == p.1) with
  | none=>exact absurd (List.find?_eq_none.mp e p hp) (by simp)
  | some q =>
    have h1:=List.find?_some e
    have h2:=List.mem_of_find?_eq_some e
    have h3:q.1=p.1:=by simpa using h1
    refine ⟨q.2,by rw [<- h3]; exact h2,?_⟩
    unfold pubH
    rw [e]
theorem yG {h:Heap} {H:Hp} {cvs:List (Addr × V)} {b:Addr} (hb:b ∉ cvs.map (·.1)):pubH h H cvs b=H b:=by
  unfold pubH
  rw [List.find?_eq_none.mpr fun p hp=>by simpa using fun z:p.1=b=>hb (List.mem_map.mpr ⟨p,hp,z⟩)]
section
variable {X:Cx} {pins:List (Addr × Obj)} {σ:St} {H:Hp} {s:Shared} {cvs:List (Addr × V)}
theorem q4 (I:Inv X pins σ H s) (h:CellsAt X σ cvs) (hN:X.N.Nodup) {b:Addr} {v v':V} (h1:(b,v)∈cvs) (h2:(b,v')∈cvs):v=v':=by
  obtain ⟨i,x,e1,e2,e3,_⟩:=h _ h1
  obtain ⟨j,y,g1,g2,g3,_⟩:=h _ h2
  have:=I.ok.inj x y b e3 g3
  subst this
  have:i=j:=(List.getElem?_inj (List.getElem?_eq_some_iff.mp e1).1 hN).mp (e1.trans g1.symm)
  subst this
  rw [e2] at g2
  cases g2
  rfl
theorem Vx (I:Inv X pins σ H s) (h:CellsAt X σ cvs) (hN:X.N.Nodup):Pub H (pubH s.heap H cvs) cvs :=
  ⟨fun b hb=>yG hb,fun p hp=>let ⟨_,x,_,_,e3,_⟩:=h p hp; I.freeC x _ e3,fun p hp=>by
    obtain ⟨v,hv,e⟩:=Yi (h:=s.heap) (H:=H) (List.mem_map.mpr ⟨p,hp,rfl⟩)
    have:=q4 I h hN (b:=p.1) (v:=v) (v':=p.2) hv hp
    subst this
    exact ⟨_,e⟩⟩
theorem Vy (I:Inv X pins σ H s) (h:CellsAt X σ cvs):HOk X.prog X.w (pubH s.heap H cvs) s.heap:=fun b u e=>by
  have up:∀ d z,H d=some z->pubH s.heap H cvs d=some z:=fun d z q=>by
    rw [yG]
    · exact q
    · intro y
      obtain ⟨p,hp,rfl⟩:=List.mem_map.mp y
      obtain ⟨_,x,_,_,e3,_⟩:=h p hp
      rw [I.freeC x _ e3] at q; cases q
  by_cases hb:b∈cvs.map (·.1)
  · obtain ⟨v,hv,e'⟩:=Yi (h:=s.heap) (H:=H) hb
    rw [e'] at e; cases e
    obtain ⟨o,u,e1,e2,r⟩:=h.cell I _ hv
    have e1:s.heap.get? b=some o:=e1
    rw [e1]
    exact Vu e1 e2 r
  · rw [yG hb] at e
    exact (I.hok b u e).stay (fun _ _ _ q=>q) (fun d q=>up d _ q) fun d xs q=>up d _ q
end
theorem zbb {CX:CXT} {P:Program} {w:World} {K:PySem.W.Frag} {mg:Str->Option Value} {base:Heap} {k:Nat} {f:Addr} {name qual:Str} {params:Arguments} {body:List Stmt} {scope:Scope} {dV kV doc pm cdv ct oc:Value} {an od:Option Addr}
    {osl:Array (Option Value)} {N ps:List Str} {sp:Sp} (lk:K.lookup f=some ⟨oc,od,.func (PySem.W.fnOf name qual params body scope dV kV doc pm an cdv ct),osl⟩) (hcd:PySem.W.codeIn K cdv qual=true) (S:FnScope N ps scope)
    (len:∀ vs H Q E,sp vs H Q E->vs.length=ps.length)
    (hbody:∀ (A:Around) (outer:List Env) (s:Shared) (H:Hp) (vs:List V) (Q:VK) (E:XK),Room k (A.deeper (envOfC qual scope s.heap.objs.size f cdv))->sp vs H Q E->(∀ b,s.heap.objs.size<=b->H b=none) ->
      ∃ t,jR (cxOf CX P w K mg base N qual scope f cdv A outer s H E) body t/\t { nx:=fun _ H'=>Q .non H',rt:=fun σ v H'=>∃ cvs,CellsAt (cxOf CX P w K mg base N qual scope f cdv A outer s H E) σ cvs/\∀ H3,Pub H' H3 cvs->Q v H3 } (yL N vs) H) :
    FnOk P w K mg base CX (k + 1) f (PySem.W.fnOf name qual params body scope dV kV doc pm an cdv ct) ps sp:=by
  refine ⟨len,fun A outer s H args us vs Q E hr e0 hb r hsp=>?_⟩
  have hl:=len _ _ _ _ hsp
  have KX:K.In s.heap:=e0.mod.kin.keeps fun b o e=>(e0.bs b o e).1
  have lim:s.heap.NoLimit:=e0.mod.nolimit.keeps fun b o e=>(e0.bs b o e).1
  have hkind:∀ y∈ps.zip us,scope.names.lookup y.1=some .local\/(scope.names.lookup y.1=some .cell/\((cellsFrom (s.heap.objs.size + 1) scope.names []).lookup y.1).isSome=true):=fun ⟨n,v⟩ hy=>by
    rcases S.par n (List.of_mem_zip hy).1 with q | q
    · exact .inl q
    · exact .inr ⟨q,PySem.W.cellsFrom_some _ _ _ (.inl q)⟩
  refine codeAny_call_function hr.depth (KX _ _ lk) rfl S.co S.gen rfl (PySem.W.codeRec_of KX hcd) (hb _ _ _ _ ?_)
  refine wpAny_newFunctionEnv_cells S.kind hkind fun env he s1 x=>?_
  subst he
  refine ⟨lim.keeps x.toInCall.keep,codeAny_func ?_⟩
  obtain ⟨t,ht,hq⟩:=hbody A outer s H vs Q E (hr.deeper _) hsp fun b hb=>e0.hok.fresh hb
  have I:Inv (cxOf CX P w K mg base N qual scope f cdv A outer s H E) [] (yL N vs) H s1:=ja S hr.hd e0 hl r x
  refine wpAny_mono (ht.out s1 (yL N vs) H _ I hq) (fun fl s' hs=>?_) fun e s' hs=>hs
  cases fl with
  | ret u =>
    obtain ⟨v,σ',H',J,rv,cvs,hc,q⟩:=hs
    have pb:=Vx J hc S.nd
    have q:=q _ pb
    have ab:∀ b,b∈cvs.map (·.1)->s.heap.objs.size<=b:=fun b hb=>by
      obtain ⟨p,hp,rfl⟩:=List.mem_map.mp hb
      obtain ⟨_,x,_,_,e3,_⟩:=hc p hp
      exact J.ok.cab x _ rfl e3
    have no:∀ b o,H' b=some o->b ∉ cvs.map (·.1):=fun b o e hb=>by
      obtain ⟨p,hp,rfl⟩:=List.mem_map.mp hb
      rw [pb.non p hp] at e; cases e
    have un:Un (frs outer) [] H H' s.heap s'.heap:=J.base
    refine ⟨v,_,J.os,J.bare,⟨un.keep,un.slot,fun b o e n hx=>?_,un.there,fun b xs e=>?_,fun b o xs e=>?_,fun b p e=>?_⟩,Vy J hc,rv,q⟩
    · rw [pb.old b fun z=>absurd (Nat.lt_of_lt_of_le (Heap.lt_size e) (ab b z)) (Nat.lt_irrefl _)]
      exact un.free b o e n hx
    · have e':=un.tups b xs e
      rw [pb.old b (no b _ e')]; exact e'
    · have e':=un.frzs b o xs e
      rw [pb.old b (no b _ e')]; exact e'
    · obtain ⟨more,e'⟩:=un.tbls b p e
      exact ⟨more,by rw [pb.old b (no b _ e')]; exact e'⟩
  | next =>
    obtain ⟨σ',H',J,q⟩:=hs
    exact ⟨.non,H',J.os,J.bare,J.base,J.hok,rfl,q⟩
  | brk=>exact False.elim hs
  | cont=>exact False.elim hs
def zbc (X:Cx) (sp:Sp) (E:XK) (t:TA):TE:=fun σ H Q=>t σ H fun vs H1=>∃ cvs,CellsAt X σ cvs/\∀ H3,Pub H1 H3 cvs->sp vs H3 (fun r H4=>(∀ p∈cvs,Cel H4 p.1 p.2)->Q r (yB H4 (cvs.map (·.1)))) E
theorem zbd {X:Cx} {k:Nat} {ps:List Str} {sp:Sp} {E:XK} {x:Str} {p pos:Pos} {e:Expr} {es:List Expr} {t:TA} (F:Ca X.prog X.w X.K X.mg X.base CX0 k x ps sp) (hr:Room k X.A) (hN:X.N.Nodup) (hg:Gl X x) (hfn:∀ x,X.fn x=true) (ha:jA X (e :: es) t)
    (hdb:(x == ("__debug__":Str))=false:=by decide) (h1:zt e=false:=by rfl) (h2:es.all (fun e=>!zt e)=true:=by rfl) :
    jE X (.Call (.Name x p) (e :: es) [] pos) (zbc X sp E t):=⟨by
  obtain ⟨f,fd,F,hb,hk,hm⟩:=F.ex
  intro pins s σ H Q I h
  refine wpAny_Call_Name_kw (wV I hg hm ?_ hdb)
  refine PySem.W.callWith_K (h₀:=X.base) I.ok.mod.kin hk (thn (ha.out pos pins s σ H _ I h) fun us s1 ⟨vs,H1,I1,r,cvs,hc,q⟩=>⟨I1.kIn,?_⟩) (zy h1) (yk h2)
  have pb:=Vx I1 hc hN
  have ok3:=Vy I1 hc
  have q:=q _ pb
  have hl:us.length=ps.length:=by rw [<- r.length]; exact F.len _ _ _ _ q
  have nas:∀ b o,H1 b=some o->b ∉ cvs.map (·.1):=fun b o e hb=>by
    obtain ⟨p,hp,rfl⟩:=List.mem_map.mp hb
    rw [pb.non p hp] at e; cases e
  have e0:Env0 X.prog X.w X.K X.mg X.base X.A X.stack s1 (pubH s1.heap H1 cvs):=by
    have z:=I1.env0
    refine ⟨z.frames,z.mod,fun b o e=>⟨(z.bs b o e).1,?_⟩,z.bsz,z.funs,fun b hb=>?_,ok3,z.bare⟩
    · rw [yG]
      · exact (z.bs b o e).2
      · intro hb
        obtain ⟨p,hp,rfl⟩:=List.mem_map.mp hb
        obtain ⟨_,y,_,_,e3,_⟩:=hc p hp
        exact absurd (Nat.lt_of_lt_of_le (Heap.lt_size e) (Nat.le_trans I1.ok.bsz (I1.ok.cab y _ (hfn y) e3))) (Nat.lt_irrefl _)
    · rw [yG]
      · exact z.frf b hb
      · intro hb'
        obtain ⟨p,hp,rfl⟩:=List.mem_map.mp hb'
        obtain ⟨_,y,_,_,e3,_⟩:=hc p hp
        rcases List.mem_cons.mp (I1.stkSub _ hb) with q | q
        · exact I1.cne y _ e3 q
        · obtain ⟨_,o,ho,_⟩:=I1.ok.funs.mem q
          exact absurd (Nat.lt_of_lt_of_le (Heap.lt_size ho) (I1.ok.cab y _ (hfn y) e3)) (Nat.lt_irrefl _)
  refine wpAny_call (codeAny_mono (F.run X.A X.stack s1 _ ⟨us,[]⟩ us vs _ E hr e0 (by have:=hb s1 us I1.kIn (by simpa using hl); simpa using this) r q) fun r s' hq=>?_)
  cases r with
  | error e=>exact False.elim hq
  | ok fl =>
    cases fl with
    | next=>exact False.elim hq
    | brk=>exact False.elim hq
    | cont=>exact False.elim hq
    | ret u =>
      refine I1.after ?_
      obtain ⟨v,H4,os,bare,un,hok,rv,q⟩:=hq
      have cel4:∀ b,b∈cvs.map (·.1)->∃ o v,s1.heap.get? b=some o/\s'.heap.get? b=some o/\H4 b=some (.frz o (CelO b v)):=fun b hb=>by
        obtain ⟨v,hv,e⟩:=Yi (h:=s1.heap) (H:=H1) hb
        have e4:=un.frzs b _ _ e
        exact ⟨_,v,(ok3 b _ e).1,(hok b _ e4).1,e4⟩
      have hcA:∀ a∈cvs.map (·.1),∃ v,Cel H4 a v:=fun a ha=>let ⟨o,v,_,_,e⟩:=cel4 a ha; ⟨v,o,e⟩
      have up:∀ b o,H1 b=some o->pubH s1.heap H1 cvs b=some o:=fun b o e=>by rw [yG (nas b o e)]; exact e
      refine ⟨v,_,os,bare,⟨fun b o e n hb hx=>?_,fun b o e n hb hx=>?_,fun b o e n hx=>?_,un.there,fun b xs e=>?_,fun b o xs e=>?_,fun b p e=>?_⟩,YX hcA hok,rv,q fun p hp=>let ⟨o,e⟩:=pb.cel p hp; ⟨o,un.frzs _ _ _ e⟩⟩
      · by_cases hb':b∈cvs.map (·.1)
        · obtain ⟨o',_,e1,e2,_⟩:=cel4 b hb'
          rw [e] at e1; cases e1
          exact e2
        · exact un.keep b o e (by rw [yG hb']; exact n) hb hx
      · by_cases hb':b∈cvs.map (·.1)
        · obtain ⟨o',_,e1,e2,_⟩:=cel4 b hb'
          rw [e] at e1; cases e1
          exact ⟨o.slots,e2⟩
        · exact un.slot b o e (by rw [yG hb']; exact n) hb hx
      · by_cases hb':b∈cvs.map (·.1)
        · exact wr hb'
        · rw [zY hb']
          exact un.free b o e (by rw [yG hb']; exact n) hx
      · rw [zY (nas b _ e)]
        exact un.tups b xs (up _ _ e)
      · rw [zY (nas b _ e)]
        exact un.frzs b o xs (up _ _ e)
      · obtain ⟨more,e'⟩:=un.tbls b p (up _ _ e)
        exact ⟨more,by rw [zY (nas b _ e)]; exact e'⟩⟩
def Vz (P:Program) (w:World) (K:PySem.W.Frag) (mg:Str->Option Value) (base:Heap) (k:Nat) (E:XK) (i:Nat) (t:TA):TE:=fun σ H Q=>∃ f,σ[i]?=some (some (.ref f)) /\
  (((∃ fd,H f=some (FunO f fd))/\t σ H fun vs H1=>∃ fd ps sp,FnOk P w K mg base CX0 k f fd ps sp/\Binds K fd ps []/\H1 f=some (FunO f fd)/\sp vs H1 Q E) \/
   (PySem.W.keepIn K (.ref f)=true/\t σ H fun vs H1=>∃ fd ps sp,FnOk P w K mg base CX0 k f fd ps sp/\Binds K fd ps []/\sp vs H1 Q E))
theorem Zr {X:Cx} {k:Nat} {E:XK} {i:Nat} {x:Str} {p pos:Pos} {e:Expr} {es:List Expr} {t:TA} (hr:Room k X.A) (hn:jE X (.Name x p) (tVar i)) (hx:yO CX0 X E) (ha:jA X (e :: es) t) (h1:zt e=false:=by rfl) (h2:es.all (fun e=>!zt e)=true:=by rfl) :
    jE X (.Call (.Name x p) (e :: es) [] pos) (Vz X.prog X.w X.K X.mg X.base k E i t):=⟨by
  intro pins s σ H Q I h
  obtain ⟨f,hf,h⟩:=h
  refine wpAny_Call_Name_kw (thn (hn.out pins s σ H (fun v H1=>v=.ref f/\H1=H) I ⟨_,hf,rfl,rfl⟩) fun u s0 ⟨v,H0,I0,r0,e1,e2⟩=>?_)
  subst e1; subst e2
  cases r0
  rcases h with ⟨⟨fd,hF⟩,h⟩ | ⟨hk,h⟩
  · refine PySem.W.callWith_F ⟨_,_,_,_,(I0.hok f _ hF).1⟩ (thn (ha.out pos pins s0 σ H0 _ I0 h) fun us s1 ⟨vs,H1,I1,r,fd,ps,sp,F,hb,hF1,q⟩=>⟨⟨_,_,_,_,(I1.hok f _ hF1).1⟩,?_⟩) (zy h1) (yk h2)
    exact ZU F hr hb .nil hx I1 r (by rw [List.append_nil]; exact q)
  · refine PySem.W.callWith_K (h₀:=X.base) I0.ok.mod.kin hk (thn (ha.out pos pins s0 σ H0 _ I0 h) fun us s1 ⟨vs,H1,I1,r,fd,ps,sp,F,hb,q⟩=>⟨I1.kIn,?_⟩) (zy h1) (yk h2)
    exact ZU F hr hb .nil hx I1 r (by rw [List.append_nil]; exact q)⟩
structure FunC (K:PySem.W.Frag) (x:Str) (st:Stmt) (c f:Addr) (fd:FuncData):Prop where
  ex:∃ (oc:Value) (od:Option Addr) (kV doc pm:Value) (an:Option Addr) (ct:Value) (osl:Array (Option Value)),fd=PySem.W.fnOf x x (zT st) (zJ st) (zo st) .none kV doc pm an (.ref c) ct/\K.lookup f=some ⟨oc,od,.func fd,osl⟩/\PySem.W.codeIn K (.ref c) x=true
section
variable {P:Program} {w:World} {K:PySem.W.Frag} {mg:Str->Option Value} {base h:Heap} {x:Str} {st:Stmt} {c f:Addr} {fd:FuncData} {N ps:List Str} {k:Nat} {sp:Sp}
theorem FunC.by (F:FunC K x st c f fd) (S:FnScope N ps (zo st)) (len:∀ vs H Q E,sp vs H Q E->vs.length=ps.length)
    (hbody:∀ (A:Around) (outer:List Env) (s:Shared) (H:Hp) (vs:List V) (Q:VK) (E:XK),Room k (A.deeper (envOfC x (zo st) s.heap.objs.size f (.ref c)))->sp vs H Q E ->
      ∃ t,jSs (cxOf CX0 P w K mg base N x (zo st) f (.ref c) A outer s H E).nox (zJ st) t/\t { nx:=fun _ H'=>Q .non H',rt:=Q } (yL N vs) H):FnOk P w K mg base CX0 (k + 1) f fd ps sp:=by
  obtain ⟨oc,od,kV,doc,pm,an,ct,osl,rfl,lk,hcd⟩:=F.ex
  refine QM lk hcd S len fun A outer s H vs Q E hr hsp=>?_
  obtain ⟨t,h,q⟩:=hbody A outer s H vs Q E hr hsp
  exact ⟨t,h.out.nox,q⟩
theorem FunC.byR (F:FunC K x st c f fd) (S:FnScope N ps (zo st)) (len:∀ vs H Q E,sp vs H Q E->vs.length=ps.length)
    (hbody:∀ (A:Around) (outer:List Env) (s:Shared) (H:Hp) (vs:List V) (Q:VK) (E:XK),Room k (A.deeper (envOfC x (zo st) s.heap.objs.size f (.ref c)))->sp vs H Q E->(∀ b,s.heap.objs.size<=b->H b=none) ->
      ∃ t,jR (cxOf CX0 P w K mg base N x (zo st) f (.ref c) A outer s H E) (zJ st) t/\t { nx:=fun _ H'=>Q .non H',rt:=fun σ v H'=>∃ cvs,CellsAt (cxOf CX0 P w K mg base N x (zo st) f (.ref c) A outer s H E) σ cvs/\∀ H3,Pub H' H3 cvs->Q v H3 } (yL N vs) H) :
    FnOk P w K mg base CX0 (k + 1) f fd ps sp:=by
  obtain ⟨oc,od,kV,doc,pm,an,ct,osl,rfl,lk,hcd⟩:=F.ex
  exact zbb lk hcd S len hbody
def DcIn (K:PySem.W.Frag) (x:Str) (st:Stmt) (c:Addr):Prop:=∃ f,PySem.W.nsIn K mainGlobals x=some (some (.ref f))/\∃ (oc:Value) (od:Option Addr) (kV doc pm:Value) (an:Option Addr) (ct:Value) (osl:Array (Option Value)),K.lookup f=some ⟨oc,od,.func (PySem.W.fnOf x x (zT st) (zJ st) (zo st) .none kV doc pm an (.ref c) ct),osl⟩/\PySem.W.codeIn K (.ref c) x=true/\PySem.W.keepIn K (.ref f)=true
theorem DcIn.mk {oc:Value} {od:Option Addr} {kV doc pm:Value} {an:Option Addr} {ct:Value} {osl:Array (Option Value)} (a:PySem.W.nsIn K mainGlobals x=some (some (.ref f))) (l:K.lookup f=some ⟨oc,od,.func (PySem.W.fnOf x x (zT st) (zJ st) (zo st) .none kV doc pm an (.ref c) ct),osl⟩) (cc:PySem.W.codeIn K (.ref c) x=true) (k:PySem.W.keepIn K (.ref f)=true):DcIn K x st c:=⟨f,a,oc,od,kV,doc,pm,an,ct,osl,l,cc,k⟩
theorem DcIn.ca (X:K.In h) (G:h.Ns mainGlobals mg) (d:DcIn K x st c) (hb:∀ (kV doc pm:Value) (an:Option Addr) (ct:Value) (us:List Value),us.length=ps.length->bindArgs (PySem.W.fnOf x x (zT st) (zJ st) (zo st) .none kV doc pm an (.ref c) ct) ⟨us,[]⟩=pure (ps.zip us))
    (ok:∀ f fd,FunC K x st c f fd->FnOk P w K mg base CX0 k f fd ps sp):Ca P w K mg base CX0 k x ps sp:=by
  obtain ⟨f,a,oc,od,kV,doc,pm,an,ct,osl,l,cc,kp⟩:=d
  exact ⟨f,_,ok f _ ⟨oc,od,kV,doc,pm,an,ct,osl,rfl,l,cc⟩,.all fun us hl=>hb kV doc pm an ct us hl,kp,PySem.W.mg_of X G a⟩
end
def TbG (T:Addr) (ls:List (Pos × Str)) (H:Hp):Prop:=∃ ps,H T=some (.tbl ps)/\TriplesOk ps.toList/\∀ p∈ls,codeAmong p.1 ps.toList=none\/∃ c,codeAmong p.1 ps.toList=some (.ref c)/\H c=some (CodO c p.2)
theorem XG {a b:Int} {c:Value} (l:List Value) (h:TriplesOk l):TriplesOk (l ++ [rawInt a,rawInt b,c]):=by
  fun_induction TriplesOk l with
  | case1=>trivial
  | case2 i t j u v rest ih=>exact ih h
  | case3=>exact False.elim h
theorem Zs {pos p':Pos} {c:Value} (l:List Value) (h:TriplesOk l) (n:¬ (p'.line=pos.line/\p'.col=pos.col)):codeAmong pos (l ++ [rawInt p'.line,rawInt p'.col,c])=codeAmong pos l:=by
  fun_induction TriplesOk l with
  | case1 =>
    show (if ((p'.line:Nat):Int) == (pos.line:Nat) && ((p'.col:Nat):Int) == (pos.col:Nat) then some c else codeAmong pos [])=_
    rw [if_neg]
    simp
    intro e e'
    exact n ⟨by lia,by lia⟩
  | case2 i t j u v rest ih =>
    show (if i == (pos.line:Nat) && j == (pos.col:Nat) then some v else codeAmong pos (rest ++ _))=if i == (pos.line:Nat) && j == (pos.col:Nat) then some v else codeAmong pos rest
    rw [ih h]
  | case3=>exact False.elim h
theorem XH {pos p':Pos} (l:List Value) (n:p'.line=pos.line/\p'.col=pos.col):codeAmong pos l=codeAmong p' l:=by
  fun_induction codeAmong pos l with
  | case1 line _ col _ c rest h=>rw [codeAmong,n.1,n.2,if_pos h]
  | case2 line _ col _ c rest h ih=>rw [codeAmong,n.1,n.2,if_neg h]; exact ih
  | case3 l h =>
    unfold codeAmong
    split
    · exact absurd rfl (h _ _ _ _ _ _)
    · rfl
theorem TbG.keep {T:Addr} {ls:List (Pos × Str)} {H H':Hp} (h:TbG T ls H) (kt:∀ ps,H T=some (.tbl ps)->H' T=some (.tbl ps)) (kc:∀ c q,H c=some (CodO c q)->H' c=some (CodO c q)):TbG T ls H':=by
  obtain ⟨ps,e,t,h⟩:=h
  exact ⟨ps,kt _ e,t,fun p hp=>(h p hp).imp_right fun ⟨c,a,b⟩=>⟨c,a,kc _ _ b⟩⟩
theorem TbG.empty {T:Addr} {ls:List (Pos × Str)} {H:Hp} (h:H T=some (.tbl #[])):TbG T ls H:=⟨#[],h,trivial,fun p _=>.inl rfl⟩
theorem Zt {mg:Str->Option Value} {T:Addr} {ls:List (Pos × Str)} {qual:Str} {params:Arguments} {body:Expr} {scope:Scope} {pos:Pos} {cl:List (Str × Addr)} {σ:St} {H:Hp} {Q:VK} (h:TbG T ls H) (hm:(pos,qual)∈ls) (hu:∀ p∈ls,(pos.line=p.1.line/\pos.col=p.1.col)->p.2=qual)
    (q:∀ H' f c ct,(∀ b u,b≠T->H b=some u->H' b=some u)->TbG T ls H'->H f=none->f≠T->c≠T->H' f=some (FunO f (lamC mg qual params body scope cl c ct))->H' c=some (CodO c qual)->Q (.ref f) H'):Vv mg T qual params body scope pos cl σ H Q:=by
  obtain ⟨ps,hT,tr,ha⟩:=h
  refine ⟨ps,hT,tr,?_⟩
  rcases ha _ hm with hn | ⟨c,hs,hc⟩
  · refine .inl ⟨hn,fun c f ct h1 h2 h3=>?_⟩
    have n1:T≠c:=zn hT h1
    have n2:T≠f:=zn hT h2
    have kp:∀ b u,b≠T->H b=some u->upd (upd (upd H T (.tbl (ps ++ #[rawInt pos.line,rawInt pos.col,.ref c]))) c (CodO c qual)) f (FunO f (lamC mg qual params body scope cl c ct)) b=some u:=fun b u n e=>by rw [zk (zn e h2),zk (zn e h1),zk n]; exact e
    have e2:upd (upd (upd H T (.tbl (ps ++ #[rawInt pos.line,rawInt pos.col,.ref c]))) c (CodO c qual)) f (FunO f (lamC mg qual params body scope cl c ct)) c=some (CodO c qual):=by rw [zk h3.symm]; exact zf
    refine q _ f c ct kp ⟨_,by rw [zk n2,zk n1]; exact zf,?_,fun p hp=>?_⟩ h2 n2.symm n1.symm zf e2
    · rw [Array.toList_append]
      exact XG _ tr
    · rw [Array.toList_append]
      by_cases z:pos.line=p.1.line/\pos.col=p.1.col
      · refine .inr ⟨c,?_,by rw [e2,hu p hp z]⟩
        rw [XH _ z]
        exact codeAmong_snoc _ tr hn
      · rw [show (#[rawInt pos.line,rawInt pos.col,Value.ref c]:Array Value).toList=[rawInt pos.line,rawInt pos.col,.ref c] from rfl,Zs _ tr z]
        refine (ha p hp).imp_right fun ⟨d,a,b⟩=>⟨d,a,kp _ _ (fun w=>?_) b⟩
        rw [w,hT] at b
        cases b
  · refine .inr ⟨c,hs,fun f ct h2=>?_⟩
    have kp:∀ b u,H b=some u->upd H f (FunO f (lamC mg qual params body scope cl c ct)) b=some u:=fun b u e=>by rw [zk (zn e h2)]; exact e
    refine q _ f c ct (fun b u _ e=>kp b u e) ⟨ps,kp _ _ hT,tr,fun p hp=>(ha p hp).imp_right fun ⟨d,a,b⟩=>⟨d,a,kp _ _ b⟩⟩ h2 (zn hT h2).symm (fun w=>?_) zf (kp _ _ hc)
    rw [w,hT] at hc
    cases hc
section
variable {X:Cx}
end
end L2
namespace GN
open PySem L2
inductive All2 {α β:Type} (F:α->β->Prop):List α->List β->Prop
  | nil:All2 F [] []
  | cons {a b l m}:F a b->All2 F l m->All2 F (a :: l) (b :: m)
section
variable {α β:Type} {F G:α->β->Prop} {l:List α} {m:List β}
theorem All2.imp (h:All2 F l m) (f:∀ a b,F a b->G a b):All2 G l m:=by
  induction h with
  | nil=>exact .nil
  | cons a _ ih=>exact .cons (f _ _ a) ih
theorem All2.len (h:All2 F l m):l.length=m.length:=by
  induction h with
  | nil=>rfl
  | cons _ _ ih=>rw [List.length_cons,List.length_cons,ih]
theorem All2.app {l':List α} {m':List β} (h:All2 F l m) (g:All2 F l' m'):All2 F (l ++ l') (m ++ m'):=by
  induction h with
  | nil=>exact g
  | cons a _ ih=>exact .cons a ih
theorem All2.get (h:All2 F l m):∀ {i:Nat} {b:β},m[i]?=some b->∃ a,l[i]?=some a/\F a b:=by
  induction h with
  | nil=>intro i b e; simp at e
  | cons a _ ih =>
    intro i b e
    cases i with
    | zero=>simp at e; subst e; exact ⟨_,rfl,a⟩
    | succ i=>simp at e; obtain ⟨x,h1,h2⟩:=ih e; exact ⟨x,by simpa using h1,h2⟩
end
theorem iteN {b:Bool} {A B:Prop} (e:b=false) (h:B):if b=true then A else B:=by rw [if_neg (by rw [e]; decide)]; exact h
def KM (M:Addr->Prop) (H H':Hp):Prop:=∀ b u,¬ M b->H b=some u->H' b=some u
def Kz (M R:Addr->Prop) (H H':Hp):Prop:=∀ b u,H b=some u->¬ M b->(∀ xs,u=.lst xs->R b)->H' b=some u
def KO (M:Addr->Prop) (H H':Hp):Prop:=∀ b u,H b=some u->(∀ xs,u=.lst xs->M b)->H' b=some u
theorem KM.refl {M:Addr->Prop} {H:Hp}:KM M H H:=fun _ _ _ h=>h
theorem KM.trans {M:Addr->Prop} {H H1 H2:Hp} (a:KM M H H1) (b:KM M H1 H2):KM M H H2:=fun c u n h=>b c u n (a c u n h)
theorem KM.of {M:Addr->Prop} {H H1:Hp} (a:Same H H1):KM M H H1:=fun c u _ h=>a c u h
theorem KM.free {M:Addr->Prop} {H H1:Hp} {b:Addr} (a:KM M H H1) (n:¬ M b) (h:H1 b=none):H b=none:=by
  cases e:H b with
  | none=>rfl
  | some u=>rw [a b u n e] at h; cases h
theorem KM.put {M:Addr->Prop} {H H1:Hp} {p:Addr} {o:HO} (a:KM M H H1) (h:H p=none):KM M H (upd H1 p o):=fun b u n e=>by rw [zk (zn e h)]; exact a b u n e
def CanC (P:Program) (w:World) (K:PySem.W.Frag) (mg:Str->Option Value) (base:Heap) (k:Nat) (H:Hp) (f:Addr) (vs:List V) (Q:VK) (E:XK):Prop :=
  ∃ fd ps sp,FnOk P w K mg base CX0 k f fd ps sp/\Binds K fd ps []/\sp vs H Q E/\(H f=some (FunO f fd)\/PySem.W.keepIn K (.ref f)=true)
structure WoD (P:Program) (w:World) (K:PySem.W.Frag) (mg:Str->Option Value) (base:Heap) (k:Nat) where
  Tk:Type
  M:Addr->Prop
  fb:Addr
  wt:Tk->Nat
  kids:Tk->List Tk
  wk:∀ t,((kids t).map wt).sum + 2<=wt t
  IT:Hp->(Addr->Prop)->Tk->V->Prop
  IR:Hp->(Addr->Prop)->Tk->V->Prop
  IF:Hp->(Addr->Prop)->Tk->V->Prop
  Ok:Hp->Prop
  itk:∀ {H H' R R' t v},IT H R t v->Ok H->Kz M R H H'->(∀ b,R b->R' b)->IT H' R' t v
  irk:∀ {H H' R R' t v},IR H R t v->Ok H->Kz M R H H'->(∀ b,R b->R' b)->IR H' R' t v
  ifk:∀ {H H' R R' t v},IF H R t v->Ok H->Kz M R H H'->(∀ b,R b->R' b)->IF H' R' t v
  okk:∀ {H H'},Ok H->KO M H H'->Ok H'
  okM:∀ {H b},Ok H->M b->H b≠none
  beg:∀ {H R t v Q},IT H R t v->Ok H->(∀ b,R b->H b≠none)->(∀ b,R b->¬ M b) ->
    (∀ H' q l fl vs R',KM M H H'->Ok H'->H' q=some (.tup [.ref l,.ref fl])->H l=none->H' l=some (.lst vs)->(∀ b,R b->R' b)->(∀ b,R' b->R b\/H b=none)->(∀ b,R' b->H' b≠none)->R' l->All2 (IT H' R') (kids t) vs->IF H' R' t (.ref fl)->Q (.ref q) H') ->
    CanC P w K mg base k H fb [v] Q E0
  fin:∀ {H R t fl rl rs Q},IF H R t (.ref fl)->Ok H->(∀ b,R b->H b≠none)->(∀ b,R b->¬ M b)->R rl->H rl=some (.lst rs)->All2 (IR H R) (kids t) rs ->
    (∀ H' v R',KM M H H'->Ok H'->(∀ b,R b->R' b)->(∀ b,R' b->R b\/H b=none)->(∀ b,R' b->H' b≠none)->IR H' R' t v->Q v H') ->
    CanC P w K mg base k H fl [.ref rl] Q E0
structure Bn (K:PySem.W.Frag) (cB:Addr):Prop where
  cl:Cls K cB
  b1:NoAttr K cB "within"
  b2:NoAttr K cB "finish"
  b3:NoAttr K cB "results"
def BO (cB dx wa fl ra:Addr):HO:=.ins cB dx [("within",.ref wa),("finish",.ref fl),("results",.ref ra)]
def YZ (cB:Addr):Sp:=fun vs H Q _=>∃ (x dx wa fl:Addr),vs=[.ref x,.ref wa,.ref fl]/\H x=some (.ins cB dx [])/\∀ H' ra,(∀ b u,b≠x->H b=some u->H' b=some u)->H ra=none->H' ra=some (.lst [])->H' x=some (BO cB dx wa fl ra)->Q .non H'
def VA:Sp:=fun vs H Q _=>∃ (p:Addr) (v:V) (xs:List V),vs=[.ref p]/\H p=some (.lst (v :: xs))/\Q v H
section
variable {P:Program} {w:World} {K:PySem.W.Frag} {mg:Str->Option Value} {base:Heap} {f cB:Addr} {fd:FuncData}
theorem q5:FnScope lS15 lS15 (zo Z7):=.ok
theorem VB (F:Fun K "__init__" "Begun.__init__" Z7 f fd) (N:Bn K cB):FnOk P w K mg base CX0 1 f fd lS15 (YZ cB):=by
  refine F.by q5 (fun vs H Q E h=>?_) (fun cdv A outer s H vs Q E hr h=>?_)
  · obtain ⟨x,dx,wa,fl,rfl,_⟩:=h
    rfl
  obtain ⟨x,dx,wa,fl,rfl,hx,q⟩:=h
  refine ⟨_,(zg (Z5 (jv 0) (jv 1)) (zg (Z5 (jv 0) (jv 2)) (zi (Z5 (jv 0) (zB zE))))),?_⟩
  refine ⟨_,rfl,_,rfl,x,cB,dx,_,rfl,hx,N.cl,N.b1,by show 0 < 1000; decide,?_⟩
  refine ⟨_,rfl,_,rfl,x,cB,dx,_,rfl,zf,N.cl,N.b2,by show 1 < 1000; decide,?_⟩
  refine ⟨sN0,fun ra hra=>?_⟩
  have nx:ra≠x:=fun z=>by
    rw [z,zf] at hra
    cases hra
  have hra':H ra=none:=by
    rw [zk nx,zk nx] at hra
    exact hra
  refine ⟨_,rfl,x,cB,dx,_,rfl,by rw [zk nx.symm]; exact zf,N.cl,N.b3,by show 2 < 1000; decide,?_⟩
  refine q _ ra (fun b u n e=>?_) hra' (by rw [zk nx]; exact zf) zf
  rw [zk n,zk (zn e hra'),zk n,zk n]
  exact e
theorem zbe:FnScope ["results"] ["results"] (zo Vc):=.ok
theorem q8 (F:Fun K "only_one" "only_one" Vc f fd):FnOk P w K mg base CX0 1 f fd ["results"] VA:=by
  refine F.by zbe (fun vs H Q E h=>?_) (fun cdv A outer s H vs Q E hr h=>?_)
  · obtain ⟨p,v,xs,rfl,_⟩:=h
    rfl
  obtain ⟨p,v,xs,rfl,hp,q⟩:=h
  exact ⟨_,(zi (zp (xL 0))),_,rfl,ixL hp aI0 (q)⟩
end
structure En (Tk:Type) where
  bo:Addr
  dx:Addr
  wa:Addr
  ra:Addr
  fl:Addr
  tk:Option Tk
  ts:List Tk
  rs:List V
section
variable {P:Program} {w:World} {K:PySem.W.Frag} {mg:Str->Option Value} {base:Heap} {k:Nat} (D:WoD P w K mg base k) (cB fo:Addr) (root:D.Tk)
structure EnOk (H:Hp) (R:Addr->Prop) (e:En D.Tk):Prop where
  o:H e.bo=some (BO cB e.dx e.wa e.fl e.ra)
  nb:¬ D.M e.bo
  w:∃ ws,H e.wa=some (.lst ws)/\All2 (D.IT H R) e.ts ws
  Rw:R e.wa
  r:H e.ra=some (.lst e.rs)
  nr:¬ R e.ra
  nM:¬ D.M e.ra
  le:e.rs.length<=e.ts.length
  rr:All2 (D.IR H R) (e.ts.take e.rs.length) e.rs
  fin:match e.tk with
    | none=>e.fl=fo/\e.ts=[root]
    | some t=>D.IF H R t (.ref e.fl)/\e.ts=D.kids t
inductive Lnk:List (En D.Tk)->Prop
  | bot {e:En D.Tk}:e.tk=none->Lnk [e]
  | up {e e':En D.Tk} {es:List (En D.Tk)} {t:D.Tk}:Lnk (e' :: es)->e.tk=some t->e'.ts[e'.rs.length]?=some t->Lnk (e :: e' :: es)
def mlow:List (En D.Tk)->Nat
  | []=>0
  | e :: es=>1 + ((e.ts.drop (e.rs.length + 1)).map D.wt).sum + mlow es
def mall:List (En D.Tk)->Nat
  | []=>0
  | e :: es=>1 + ((e.ts.drop e.rs.length).map D.wt).sum + mlow D es
theorem Zu:∀ es:List (En D.Tk),es.length<=mlow D es
  | []=>Nat.le_refl _
  | e :: es=>by
    unfold mlow
    have:=Zu es
    rw [List.length_cons]
    lia
theorem VC (es:List (En D.Tk)):es.length<=mall D es:=by
  cases es with
  | nil=>exact Nat.le_refl _
  | cons e es =>
    unfold mall
    have:=Zu D es
    rw [List.length_cons]
    lia
theorem VD:∀ ts:List D.Tk,ts.length<=(ts.map D.wt).sum
  | []=>Nat.le_refl _
  | t :: ts=>by
    have:=VD ts
    have:=D.wk t
    rw [List.length_cons,List.map_cons,List.sum_cons]
    lia
variable {D cB fo root}
theorem EnOk.keep {H H':Hp} {R R':Addr->Prop} {e:En D.Tk} (h:EnOk D cB fo root H R e) (ok:D.Ok H) (z:Kz D.M R H H') (rM:∀ b,R b->¬ D.M b) (sub:∀ b,R b->R' b) (hr:H' e.ra=some (.lst e.rs)) (nr:¬ R' e.ra):EnOk D cB fo root H' R' e:=by
  obtain ⟨o,nb,⟨ws,w1,w2⟩,Rw,r,nr',nM,le,rr,fin⟩:=h
  refine ⟨z _ _ o nb (by intro xs q; unfold BO at q; cases q),nb,⟨ws,z _ _ w1 (rM _ Rw) (fun _ _=>Rw),w2.imp fun a b q=>D.itk q ok z sub⟩,sub _ Rw,hr,nr,nM,le,rr.imp fun a b q=>D.irk q ok z sub,?_⟩
  cases q:e.tk with
  | none=>rw [q] at fin; exact fin
  | some t=>rw [q] at fin; exact ⟨D.ifk fin.1 ok z sub,fin.2⟩
end
def Zv (P:Program) (w:World) (K:PySem.W.Frag) (mg:Str->Option Value) (base:Heap) (k:Nat):Sp:=fun vs H Q _=>∃ (D:WoD P w K mg base k) (v:V) (root:D.Tk) (R:Addr->Prop),vs=[v,.ref D.fb]/\D.IT H R root v/\D.Ok H/\(∀ b,R b->H b≠none)/\(∀ b,R b->¬ D.M b)/\D.wt root<=1000000 /\
  ((∃ fd,H D.fb=some (FunO D.fb fd))/\¬ D.M D.fb\/PySem.W.keepIn K (.ref D.fb)=true) /\
  ∀ H' v' R',KM D.M H H'->D.Ok H'->(∀ b,R' b->¬ D.M b)->D.IR H' R' root v'->Q v' H'
section
variable {P:Program} {w:World} {K:PySem.W.Frag} {mg:Str->Option Value} {base:Heap} {f cB fo:Addr} {fd fdo:FuncData} {k:Nat}
theorem scWorked:FnScope ["task","begin","waiting","last","pair","finish","result"] ["task","begin"] (zo jN):=.ok
theorem vH {i:Nat} {t:TA} {σ:St} {H:Hp} {Q:VK} {f:Addr} {vs:List V} (hi:σ[i]?=some (some (.ref f))) (ha:∀ R:List V->Hp->Prop,R vs H->t σ H R) (h:CanC P w K mg base k H f vs Q E0):Vz P w K mg base k E0 i t σ H Q:=by
  obtain ⟨fd,ps,sp,F,b,q,c⟩:=h
  rcases c with c | c
  · exact ⟨f,hi,.inl ⟨⟨fd,c⟩,ha _ ⟨fd,ps,sp,F,b,c,q⟩⟩⟩
  · exact ⟨f,hi,.inr ⟨c,ha _ ⟨fd,ps,sp,F,b,q⟩⟩⟩
theorem XI (F:Fun K "worked_out" "worked_out" jN f fd) (N:Bn K cB) (GB:Ma P w K mg base CX0 1 "Begun" cB lS15 (YZ cB)) (GO:FnOk P w K mg base CX0 1 fo fdo ["results"] VA) (bO:Binds K fdo ["results"] []) (kO:PySem.W.keepIn K (.ref fo)=true) (mO:mg "only_one"=some (.ref fo)) (m_len:mg "len"=none) (hk:2<=k):FnOk P w K mg base CX0 (k + 1) f fd ["task","begin"] (Zv P w K mg base k):=by
  refine F.by scWorked (fun vs H Q E h=>?_) (fun cdv A outer s H vs Q E hr h=>?_)
  · obtain ⟨D,v,root,R,rfl,_⟩:=h
    rfl
  obtain ⟨D,v,root,R0,rfl,hIT,hOk,hR0,hRM0,hwt,hfb,q⟩:=h
  have hr2:Room (1 + 1) _:=hr.mono (by lia)
  refine ⟨_,
    (zg (sE 2 scWorked.nd (zB (jA1 (QT GB hr2 rfl Zf (jA2 (zB (jA1 (jv 0))) (JN (v:=.ref fo) rfl mO rfl))))))
    (zi (vj PassesOwn.never (zS yw)
      (zg (sE 3 scWorked.nd (xX zX (jv 2) (wD zj)))
      (zi (zx (tN vm (jL m_len (xU (jv 3))) (jL m_len (xU (jv 3))))
        (zg (sE 4 scWorked.nd (Zr hr (jv 1) Zf (jA1 (xX zX (xU (jv 3)) (jL m_len (xU (jv 3)))))))
        (zi (yf (yA PySem.F.plainAttrs_list PySem.F.slot_list_append PySem.F.type_list_append zQ (jv 2) (jA1 (QT GB hr2 rfl Zf (jA2 (xT 4) (xT 4))))))))
        (zg (sE 5 scWorked.nd (xU (jv 3)))
        (zg (sE 6 scWorked.nd (Zr hr (jv 5) Zf (jA1 (xU (jv 3)))))
        (zg (yf (jB PySem.F.plainAttrs_list PySem.F.slot_list_pop PySem.F.type_list_pop jD (jv 2)))
        (zg (zx (tN zA (jL m_len (jv 2)) zj)
          (zi (zp (jv 6))) zr)
        (zi (yf (yA PySem.F.plainAttrs_list PySem.F.slot_list_append PySem.F.type_list_append zQ (xU (xX zX (jv 2) (wD zj))) (jA1 (jv 6))))))))))))))),?_⟩
  have sl:=zK
  refine ⟨_,rfl,sN1,fun l0 hl0=>?_⟩
  have s0:Same H (upd H l0 (.lst [v])):=fun b u e=>by rw [zk (zn e hl0)]; exact e
  have hl0':=zf (H:=H) (a:=l0) (o:=.lst [v])
  generalize upd H l0 (.lst [v])=H1 at *
  intro x dx hx hdx nxd
  refine ⟨x,dx,l0,fo,rfl,zf,fun H2 ra kp hra hra2 hx2=>⟨rfl,sN1,fun wl hwl=>?_⟩⟩
  have hM:∀ b,H b=none->¬ D.M b:=fun b e m=>D.okM hOk m e
  have s12:Same H1 H2:=fun b u e=>kp b u (zn e hx) (by rw [zk (zn e hx),zk (zn e hdx)]; exact e)
  have s2:Same H H2:=s0.trans s12
  have s3:Same H (upd H2 wl (.lst [.ref x])):=s2.new hwl
  have nra:ra≠x:=fun z=>by
    rw [z,zf] at hra
    cases hra
  have nrd:ra≠dx:=fun z=>by
    rw [z,zk nxd,zf] at hra
    cases hra
  have hra1:H1 ra=none:=by
    rw [zk nra,zk nrd] at hra
    exact hra
  have hra0:H ra=none:=s0.free hra1
  have hx0:H x=none:=s0.free hx
  have nl0:l0≠ra:=zn hl0' hra1
  have nwr:ra≠wl:=zn hra2 hwl
  have nwx:x≠wl:=zn hx2 hwl
  have nwl:l0≠wl:=zn (s12 _ _ hl0') hwl
  have hwl0:H wl=none:=s2.free hwl
  refine ⟨fun m σ H'=>∃ (es:List (En D.Tk)) (R:Addr->Prop) (y3 y4 y5 y6:Option V),m=mall D es/\σ=[some v,some (.ref D.fb),some (.ref wl),y3,y4,y5,y6]/\KM D.M H H'/\D.Ok H'/\H' wl=some (.lst (es.reverse.map fun e=>V.ref e.bo))/\¬ R wl/\(∀ e∈es,EnOk D cB fo root H' R e)/\(∀ e∈es,H e.ra=none)/\Lnk D es/\(∀ b,R b->H' b≠none)/\(∀ b,R b->¬ D.M b)/\(wl :: es.map (·.ra)).Nodup/\mall D es<=D.wt root + 1/\(∀ e∈es,e.ts.length<=1000000),
    ⟨_,[⟨x,dx,l0,ra,fo,none,[root],[]⟩],(fun b=>R0 b\/b=l0),none,none,none,none,rfl,rfl,.of s3,D.okk hOk (fun b u e _=>s3 b u e),zf,?_,?_,?_,.bot rfl,?_,?_,?_,?_,?_⟩,?_⟩
  · rintro (z | z)
    · exact hR0 _ z hwl0
    · exact nwl z.symm
  · intro e he
    rw [List.mem_singleton.mp he]
    refine ⟨by rw [zk nwx]; exact hx2,hM _ hx0,⟨[v],by rw [zk nwl]; exact s12 _ _ hl0',.cons (D.itk hIT hOk (fun b u e _ _=>s3 b u e) fun b z=>.inl z) .nil⟩,.inr rfl,by rw [zk nwr]; exact hra2,?_,hM _ hra0,Nat.zero_le _,.nil,rfl,rfl⟩
    rintro (z | z)
    · exact hR0 _ z hra0
    · exact nl0 z.symm
  · intro e he
    rw [List.mem_singleton.mp he]
    exact hra0
  · rintro b (z | z)
    · cases e:H b with
      | none=>exact absurd e (hR0 b z)
      | some u=>rw [s3 b u e]; simp
    · rw [z,zk nwl,s12 _ _ hl0']; simp
  · rintro b (z | z)
    · exact hRM0 b z
    · rw [z]; exact hM _ hl0
  · show [wl,ra].Nodup
    simp [nwr.symm]
  · unfold mall mlow
    simp
    lia
  · intro e he
    rw [List.mem_singleton.mp he]
    show 1<=1000000
    decide
  rintro m σ Ha ⟨es,R,y3,y4,y5,y6,rfl,rfl,kHa,okA,hwlA,nRw,hes,hra,lk,hRd,hRM,nd,hms,hln⟩
  refine ⟨_,rfl,iteT ⟨_,fun _ _ h=>h,?_⟩⟩
  refine cutR (fun D_ rt_ fin=>?_) (fun _ _ h=>h)
  have hMA:∀ b,Ha b=none->¬ D.M b:=fun b e m=>D.okM okA m e
  have mwl:¬ D.M wl:=hM _ hwl0
  cases es with
  | nil=>cases lk
  | cons e es =>
  have he:=hes e (.head _)
  have eo:=he.o
  obtain ⟨ws,hw,hIT'⟩:=he.w
  have wlen:=hIT'.len
  have els:((e :: es).reverse.map fun e=>V.ref e.bo)=(es.reverse.map fun e=>V.ref e.bo) ++ [.ref e.bo]:=by simp
  rw [els] at hwlA
  have elen:=VC D (e :: es)
  rw [List.length_cons] at elen
  have dr:∀ t,e.ts[e.rs.length]?=some t->e.ts.drop e.rs.length=t :: e.ts.drop (e.rs.length + 1):=fun t ht=>(List.drop_eq_getElem_cons (List.getElem?_eq_some_iff.mp ht).1).trans (by rw [(List.getElem?_eq_some_iff.mp ht).2])
  refine ⟨_,rfl,_,rfl,wl,_,_,_,rfl,rfl,SqL.of hwlA,Ze _ _,?_⟩
  refine ⟨_,rfl,e.bo,cB,e.dx,_,_,rfl,eo,N.cl,N.b3,rfl,_,_,rfl,.inl (SqL.of he.r),_,rfl,e.bo,cB,e.dx,_,_,rfl,eo,N.cl,N.b1,rfl,_,_,rfl,.inl (SqL.of hw),_,_,rfl,rfl,_,rfl,?_⟩
  refine ite2 (fun c=>?_) (fun c=>?_)
  · rw [decide_eq_true_eq] at c
    have c:e.rs.length < ws.length:=by lia
    obtain ⟨t,ht,hIt⟩:=hIT'.get (List.getElem?_eq_getElem c)
    refine vH rfl (fun R h=>⟨_,rfl,e.bo,cB,e.dx,_,_,rfl,eo,N.cl,N.b1,rfl,_,rfl,e.bo,cB,e.dx,_,_,rfl,eo,N.cl,N.b3,rfl,_,_,rfl,.inl (SqL.of he.r),_,_,_,_,rfl,rfl,SqL.of hw,zR (List.getElem?_eq_getElem c),h⟩) (D.beg hIt okA hRd hRM fun Hb pq l fl vs R' kB okB hq hl hlB sub sub' dom' Rl hks hfin=>?_)
    refine ⟨_,rfl,.inl ⟨rfl,_,SqL.of (kB _ _ mwl hwlA)⟩,_,rfl,ixT hq aI0 ⟨_,rfl,ixT hq aI1 (fun x' dx' hx' hdx' nxd'=>?_)⟩⟩
    refine ⟨x',dx',l,fl,rfl,zf,fun Hc rb kp' hrb hrb2 hxc=>⟨rfl,?_⟩⟩
    have sbc:Same Hb Hc:=fun b u e=>kp' b u (zn e hx') (by rw [zk (zn e hx'),zk (zn e hdx')]; exact e)
    have nrx:rb≠x':=fun z=>by
      rw [z,zf] at hrb
      cases hrb
    have nrd':rb≠dx':=fun z=>by
      rw [z,zk nxd',zf] at hrb
      cases hrb
    have hrbB:Hb rb=none:=by
      rw [zk nrx,zk nrd'] at hrb
      exact hrb
    have okC:D.Ok Hc:=D.okk okB fun b u e _=>sbc b u e
    have hMB:∀ b,Hb b=none->¬ D.M b:=fun b e m=>D.okM okB m e
    have hwlC:Hc wl=some (.lst ((es.reverse.map fun e=>V.ref e.bo) ++ [.ref e.bo])):=sbc _ _ (kB _ _ mwl hwlA)
    refine ⟨wl,_,_,rfl,rfl,hwlC,by rw [List.length_append,List.length_map,List.length_reverse]; show es.length + 1 < _; lia,?_⟩
    have nR'w:¬ R' wl:=fun z=>by
      rcases sub' _ z with z | z
      · exact nRw z
      · rw [hwlA] at z; cases z
    have kzA:Kz D.M R Ha (upd Hc wl (.lst ((es.reverse.map fun e=>V.ref e.bo) ++ [.ref e.bo] ++ [.ref x']))):=fun b u q1 q2 q3=>by
      rw [zk]
      · exact sbc _ _ (kB _ _ q2 q1)
      · intro z
        rw [z,hwlA] at q1
        cases q1
        rw [z] at q3
        exact nRw (q3 _ rfl)
    have kzB:Kz D.M R' Hb (upd Hc wl (.lst ((es.reverse.map fun e=>V.ref e.bo) ++ [.ref e.bo] ++ [.ref x']))):=fun b u q1 q2 q3=>by
      rw [zk]
      · exact sbc _ _ q1
      · intro z
        rw [z,kB _ _ mwl hwlA] at q1
        cases q1
        rw [z] at q3
        exact nR'w (q3 _ rfl)
    have nx':x'≠wl:=zn (by exact kB _ _ mwl hwlA) hx' |>.symm
    have nrb:rb≠wl:=(zn (kB _ _ mwl hwlA) hrbB).symm
    have nl:l≠wl:=fun z=>nR'w (z ▸ Rl)
    have nolds:∀ e'∈e :: es,Hc e'.ra=some (.lst e'.rs)/\e'.ra≠wl/\¬ R' e'.ra:=fun e' he'=>by
      have h':=hes e' he'
      refine ⟨sbc _ _ (kB _ _ h'.nM h'.r),fun z=>?_,fun z=>?_⟩
      · have:=(List.nodup_cons.mp nd).1
        exact this (z ▸ List.mem_map.mpr ⟨e',he',rfl⟩)
      · rcases sub' _ z with z | z
        · exact h'.nr z
        · rw [h'.r] at z; cases z
    refine fin _ _ ⟨_,?_,⟨x',dx',l,rb,fl,some t,D.kids t,[]⟩ :: e :: es,R',_,_,_,_,rfl,rfl,?_,D.okk okC ?_,?_,nR'w,?_,?_,.up lk rfl ht,?_,?_,?_,?_,?_⟩
    · show 1 + (((D.kids t).drop 0).map D.wt).sum + mlow D (e :: es) < 1 + ((e.ts.drop e.rs.length).map D.wt).sum + mlow D es
      rw [dr t ht]
      have:=D.wk t
      rw [show mlow D (e :: es)=1 + ((e.ts.drop (e.rs.length + 1)).map D.wt).sum + mlow D es from rfl]
      simp only [List.drop_zero,List.map_cons,List.sum_cons]
      lia
    · exact ((kHa.trans kB).trans (.of sbc)).put hwl0
    · intro b u q1 q2
      rw [zk]
      · exact q1
      · intro z
        rw [z,hwlC] at q1
        cases q1
        rw [z] at q2
        exact mwl (q2 _ rfl)
    · rw [zf]
      simp
    · intro e' he'
      rcases List.mem_cons.mp he' with rfl | he'
      · exact ⟨by rw [zk nx']; exact hxc,hMB _ hx',⟨vs,by rw [zk nl]; exact sbc _ _ hlB,hks.imp fun a b q=>D.itk q okB kzB fun _ z=>z⟩,Rl,by rw [zk nrb]; exact hrb2,fun z=>dom' _ z hrbB,hMB _ hrbB,Nat.zero_le _,.nil,D.ifk hfin okB kzB fun _ z=>z,rfl⟩
      · obtain ⟨n1,n2,n3⟩:=nolds e' he'
        exact (hes e' he').keep okA kzA hRM sub (by rw [zk n2]; exact n1) n3
    · intro e' he'
      rcases List.mem_cons.mp he' with rfl | he'
      · exact (kHa.trans kB).free (hMB _ hrbB) hrbB
      · exact hra e' he'
    · intro b z
      by_cases hb:b=wl
      · rw [hb,zf]; simp
      · rw [zk hb]
        cases q:Hb b with
        | none=>exact absurd q (dom' b z)
        | some u=>rw [sbc _ _ q]; simp
    · intro b z
      rcases sub' b z with z | z
      · exact hRM b z
      · exact hMA b z
    · rw [List.map_cons,List.nodup_cons] at *
      refine ⟨fun z=>?_,List.nodup_cons.mpr ⟨fun z=>?_,nd.2⟩⟩
      · rcases List.mem_cons.mp z with z | z
        · exact nrb z.symm
        · exact nd.1 z
      · obtain ⟨e',he',z⟩:=List.mem_map.mp z
        have:=kB _ _ (hes e' he').nM (hes e' he').r
        rw [z,hrbB] at this
        cases this
    · refine Nat.le_trans ?_ hms
      show 1 + (((D.kids t).drop 0).map D.wt).sum + mlow D (e :: es)<=1 + ((e.ts.drop e.rs.length).map D.wt).sum + mlow D es
      rw [dr t ht]
      have:=D.wk t
      rw [show mlow D (e :: es)=1 + ((e.ts.drop (e.rs.length + 1)).map D.wt).sum + mlow D es from rfl]
      simp only [List.drop_zero,List.map_cons,List.sum_cons]
      lia
    · intro e' he'
      rcases List.mem_cons.mp he' with rfl | he'
      · have h1:=D.wk t
        have h2:D.wt t<=mall D (e :: es):=by
          show _<=1 + ((e.ts.drop e.rs.length).map D.wt).sum + mlow D es
          rw [dr t ht,List.map_cons,List.sum_cons]
          lia
        have h3:=VD D (D.kids t)
        show (D.kids t).length<=1000000
        lia
      · exact hln e' he'
  · have c:¬ e.rs.length < ws.length:=fun z=>c (decide_eq_true (by lia))
    have le:=he.le
    have rr:=he.rr
    rw [List.take_of_length_le (by lia)] at rr
    refine ⟨_,rfl,e.bo,cB,e.dx,_,_,rfl,eo,N.cl,N.b2,rfl,?_⟩
    have pop:∀ {Hb:Hp},Hb wl=some (.lst ((es.reverse.map fun e=>V.ref e.bo) ++ [.ref e.bo]))->∀ {Q:VK},Q (.ref e.bo) (upd Hb wl (.lst (es.reverse.map fun e=>V.ref e.bo)))->rPop (.ref wl) [] Hb Q:=fun h Q q=>⟨wl,_,.ref e.bo,rfl,rfl,h,by simp,by rw [List.dropLast_concat]; exact q⟩
    cases htk:e.tk with
    | none =>
      have fin:=he.fin
      rw [htk] at fin
      obtain ⟨e1,e2⟩:=fin
      have es0:es=[]:=by
        cases lk with
        | bot _=>rfl
        | up _ q _=>rw [htk] at q; cases q
      subst es0
      rw [e2] at rr
      have hrs:=he.r
      generalize e.rs=rs at *
      cases rr with
      | cons hv hn =>
      cases hn
      rw [e1]
      refine vH rfl (fun R h=>⟨_,rfl,e.bo,cB,e.dx,_,_,rfl,eo,N.cl,N.b3,rfl,h⟩) ⟨fdo,_,_,GO.mono (by lia),bO,⟨e.ra,_,[],rfl,hrs,?_⟩,.inr kO⟩
      refine ⟨_,rfl,.inl ⟨rfl,_,SqL.of hwlA⟩,pop hwlA ?_⟩
      refine ⟨_,rfl,_,_,rfl,.inl (SqL.of zf),rfl,_,rfl,iteT ⟨_,rfl,?_⟩⟩
      rw [rt_]
      refine q _ _ R (kHa.put hwl0) (D.okk okA fun b u q1 q2=>?_) hRM (D.irk hv okA (fun b u q1 q2 q3=>?_) fun _ z=>z)
      · rw [zk]
        · exact q1
        · intro z
          rw [z,hwlA] at q1
          cases q1
          rw [z] at q2
          exact mwl (q2 _ rfl)
      · rw [zk]
        · exact q1
        · intro z
          rw [z,hwlA] at q1
          cases q1
          rw [z] at q3
          exact nRw (q3 _ rfl)
    | some t =>
      have fin:=he.fin
      rw [htk] at fin
      obtain ⟨e1,e2⟩:=fin
      rw [e2] at rr
      cases lk with
      | bot q=>rw [htk] at q; cases q
      | @up _ e' es' t' lk' q ht' =>
      rw [htk] at q
      cases q
      have he':=hes e' (.tail _ (.head _))
      have ndA:=nd
      rw [List.map_cons,List.map_cons,List.nodup_cons,List.nodup_cons,List.nodup_cons] at ndA
      obtain ⟨nd1,nd2,nd3,nd4⟩:=ndA
      have nwe:e.ra≠wl:=fun z=>nd1 (z ▸ .head _)
      have nwe':e'.ra≠wl:=fun z=>nd1 (z ▸ .tail _ (.head _))
      have nee':e'.ra≠e.ra:=fun z=>nd2 (z ▸ .head _)
      have kzR:Kz D.M R Ha Ha:=fun b u q _ _=>q
      refine vH rfl (fun R h=>⟨_,rfl,e.bo,cB,e.dx,_,_,rfl,eo,N.cl,N.b3,rfl,h⟩) (D.fin (R:=fun b=>R b\/b=e.ra) (D.ifk e1 okA kzR fun _ z=>.inl z) okA ?_ ?_ (.inr rfl) he.r (rr.imp fun a b q=>D.irk q okA kzR fun _ z=>.inl z) fun Hb rv R' kB okB sub sub' dom' hIR=>?_)
      · rintro b (z | z)
        · exact hRd b z
        · rw [z,he.r]; simp
      · rintro b (z | z)
        · exact hRM b z
        · rw [z]; exact he.nM
      have hwlB:=kB _ _ mwl hwlA
      have heB:=kB _ _ he'.nM he'.r
      have hoB:=kB _ _ he'.nb he'.o
      have no':e'.bo≠wl:=wb hoB hwlB (by unfold BO; intro z; cases z)
      refine ⟨_,rfl,.inl ⟨rfl,_,SqL.of hwlB⟩,pop hwlB ?_⟩
      have els':((e' :: es').reverse.map fun e=>V.ref e.bo)=(es'.reverse.map fun e=>V.ref e.bo) ++ [.ref e'.bo]:=by simp
      rw [els']
      refine ⟨_,rfl,_,_,rfl,.inl (SqL.of zf),rfl,_,rfl,iteN ?_ ?_⟩
      · rw [List.length_append]
        exact decide_eq_false (by intro z; have:=V.int.inj z; simp at this; lia)
      refine ⟨_,rfl,_,rfl,wl,_,_,_,rfl,rfl,SqL.of zf,Ze _ _,e'.bo,cB,e'.dx,_,.ref e'.ra,rfl,by rw [zk no']; exact hoB,N.cl,N.b3,rfl,.inl ⟨rfl,_,SqL.of (by rw [zk nwe']; exact heB)⟩,_,rfl,e'.ra,_,_,rfl,rfl,by rw [zk nwe']; exact heB,?_,?_⟩
      · have:=(List.getElem?_eq_some_iff.mp ht').1
        have:=hln e' (.tail _ (.head _))
        lia
      have nR'w:¬ R' wl:=fun z=>by
        rcases sub' _ z with (z | z) | z
        · exact nRw z
        · exact nwe z.symm
        · rw [hwlA] at z; cases z
      have nR':∀ e1∈e' :: es',¬ R' e1.ra:=fun e1 h1 z=>by
        rcases sub' _ z with (z | z) | z
        · exact (hes e1 (.tail _ h1)).nr z
        · exact nd2 (z ▸ List.mem_map.mpr ⟨e1,h1,rfl⟩)
        · rw [(hes e1 (.tail _ h1)).r] at z; cases z
      have kzB:Kz D.M R' Hb (upd (upd Hb wl (.lst ((es'.reverse.map fun e=>V.ref e.bo) ++ [.ref e'.bo]))) e'.ra (.lst (e'.rs ++ [rv]))):=fun b u q1 q2 q3=>by
        have n1:b≠e'.ra:=fun z=>by
          rw [z,heB] at q1
          cases q1
          rw [z] at q3
          exact nR' e' (.head _) (q3 _ rfl)
        have n2:b≠wl:=fun z=>by
          rw [z,hwlB] at q1
          cases q1
          rw [z] at q3
          exact nR'w (q3 _ rfl)
        rw [zk n1,zk n2]
        exact q1
      have kzA:Kz D.M R Ha (upd (upd Hb wl (.lst ((es'.reverse.map fun e=>V.ref e.bo) ++ [.ref e'.bo]))) e'.ra (.lst (e'.rs ++ [rv]))):=fun b u q1 q2 q3=>kzB b u (kB _ _ q2 q1) q2 fun xs z=>sub _ (.inl (q3 xs z))
      have subR:∀ b,R b->R' b:=fun b z=>sub _ (.inl z)
      refine fin _ _ ⟨_,?_,{ e' with rs:=e'.rs ++ [rv] } :: es',R',_,_,_,_,rfl,rfl,((kHa.trans kB).put hwl0).put (hra e' (.tail _ (.head _))),D.okk okB ?_,?_,nR'w,?_,?_,?_,?_,?_,?_,?_,?_⟩
      · show 1 + ((e'.ts.drop (e'.rs ++ [rv]).length).map D.wt).sum + mlow D es' < 1 + ((e.ts.drop e.rs.length).map D.wt).sum + (1 + ((e'.ts.drop (e'.rs.length + 1)).map D.wt).sum + mlow D es')
        rw [List.length_append,List.length_singleton]
        lia
      · intro b u q1 q2
        have n1:b≠e'.ra:=fun z=>by
          rw [z,heB] at q1
          cases q1
          rw [z] at q2
          exact he'.nM (q2 _ rfl)
        have n2:b≠wl:=fun z=>by
          rw [z,hwlB] at q1
          cases q1
          rw [z] at q2
          exact mwl (q2 _ rfl)
        rw [zk n1,zk n2]
        exact q1
      · rw [zk nwe'.symm,zf]
        simp
      · intro e1 h1
        rcases List.mem_cons.mp h1 with rfl | h1
        · obtain ⟨o,nb,⟨ws',w1,w2⟩,Rw,r,nr',nM,le',rr',fin⟩:=he'
          refine ⟨kzA _ _ o nb (by intro xs q; unfold BO at q; cases q),nb,⟨ws',kzA _ _ w1 (hRM _ Rw) (fun _ _=>Rw),w2.imp fun a b q=>D.itk q okA kzA subR⟩,subR _ Rw,zf,nR' e' (.head _),nM,?_,?_,?_⟩
          · show (e'.rs ++ [rv]).length<=_
            rw [List.length_append,List.length_singleton]
            exact (List.getElem?_eq_some_iff.mp ht').1
          · show All2 _ (e'.ts.take (e'.rs ++ [rv]).length) (e'.rs ++ [rv])
            rw [List.length_append,List.length_singleton,List.take_add_one,ht']
            exact (rr'.imp fun a b q=>D.irk q okA kzA subR).app (.cons (D.irk hIR okB kzB fun _ z=>z) .nil)
          · show (match e'.tk with | none=>_ | some t=>_)
            cases q:e'.tk with
            | none=>rw [q] at fin; exact fin
            | some t=>rw [q] at fin; exact ⟨D.ifk fin.1 okA kzA subR,fin.2⟩
        · have h1':=hes e1 (.tail _ (.tail _ h1))
          have m1:e1.ra≠e'.ra:=fun z=>nd3 (z ▸ List.mem_map.mpr ⟨e1,h1,rfl⟩)
          have m2:e1.ra≠wl:=fun z=>nd1 (z ▸ .tail _ (.tail _ (List.mem_map.mpr ⟨e1,h1,rfl⟩)))
          exact h1'.keep okA kzA hRM subR (by rw [zk m1,zk m2]; exact kB _ _ h1'.nM h1'.r) (nR' e1 (.tail _ h1))
      · intro e1 h1
        rcases List.mem_cons.mp h1 with rfl | h1
        · exact hra e' (.tail _ (.head _))
        · exact hra e1 (.tail _ (.tail _ h1))
      · cases lk' with
        | bot q=>exact .bot q
        | up a b c=>exact .up a b c
      · intro b z
        have:=dom' b z
        unfold upd
        split
        · simp
        · split
          · simp
          · exact this
      · intro b z
        rcases sub' b z with (z | z) | z
        · exact hRM b z
        · rw [z]; exact he.nM
        · exact hMA b z
      · exact List.nodup_cons.mpr ⟨fun z=>nd1 (.tail _ z),List.nodup_cons.mpr ⟨nd3,nd4⟩⟩
      · refine Nat.le_trans ?_ hms
        show 1 + ((e'.ts.drop (e'.rs ++ [rv]).length).map D.wt).sum + mlow D es'<=1 + ((e.ts.drop e.rs.length).map D.wt).sum + (1 + ((e'.ts.drop (e'.rs.length + 1)).map D.wt).sum + mlow D es')
        rw [List.length_append,List.length_singleton]
        lia
      · intro e1 h1
        rcases List.mem_cons.mp h1 with rfl | h1
        · exact hln e' (.tail _ (.head _))
        · exact hln e1 (.tail _ (.tail _ h1))
end
end GN
namespace L2
open PySem
def iAlt (a b:TI):TI:=fun σ H R=>a σ H R\/b σ H R
theorem zbf {X:Cx} {tg l:Expr} {a b:TI} (h1:jI X tg l a) (h2:jI X tg l b):jI X tg l (iAlt a b):=⟨fun pins s σ H R I h=>h.elim (h1.out pins s σ H R I) (h2.out pins s σ H R I)⟩
end L2
namespace HT
open PySem PySem.Spec PyProof.Rows
section
variable {prog:Program} {w:World} {A:Around} {s:Shared} {E:Value->Shared->Prop}
end
end HT
namespace L2
open PySem PySem.Spec PyProof.Rows
section
variable {X:Cx}
end
end L2
namespace L2
open PySem
section
variable {X:Cx} {a:Expr} {ta:TE} {pos:Pos}
theorem vI:jOp X (binaryOp .BitOr) (rI0 fun i j=>.int (Builtin.bitOr i j)):=⟨zbx⟩
theorem vc:jOp X (binaryOp .BitAnd) (rI0 fun i j=>.int (Builtin.bitAnd i j)):=⟨zaA⟩
theorem j1 (ha:jE X a ta):jE X (.UnaryOp .Invert a pos) (tUn (rU fun i=>.int (Builtin.bitNot i)) ta):=⟨QK zaC ha.out⟩
end
end L2
namespace GN
open PySem L2 K11
def VE:Sp:=fun vs H Q _=>∃ (p:Addr) (ns:List Str),vs=[.ref p]/\H p=some (.lst (ns.map V.str))/\ns.Nodup/\ns.length<=2000000/\∀ (H':Hp) (d:Addr),Same H H'->H d=none->H' d=some (.dK (yi ns 1))->Q (.ref d) H'
def Y0:Sp:=fun vs H Q _=>∃ (p d:Addr) (xs ns:List Str),vs=[.ref p,.ref d]/\(H p=some (.tup (xs.map V.str))\/H p=some (.lst (xs.map V.str)))/\H d=some (.dK (yi ns 1))/\Q (.int ((tog ns xs:Nat):Int)) H
def VF:Sp:=fun vs H Q _=>∃ (p:Addr) (b:Bd),vs=[.ref p]/\IsBd H b p/\b.used.length<=1000/\∀ (H':Hp) (q:Addr),Same H H'->H' q=some (.tup (b.used.map V.str))->Q (.ref q) H'
theorem XJ {ns:List Str} {x:Str} {b:Nat} (h:x ∉ ns):putK (yi ns b) (.inr x) (.int ((b * 2 ^ ns.length:Nat):Int))=yi (ns ++ [x]) b:=by
  unfold putK
  rw [xo,yX,if_neg h,if_neg (by simp),jj]
theorem Zw {ns xs:List Str} {i:Nat} {x:Str} (h:xs[i]?=some x):tog ns (xs.take (i + 1))=tog ns (xs.take i) ||| bitN ns x:=by
  unfold tog
  rw [List.take_add_one,h,List.foldl_append]
  rfl
section
variable {P:Program} {w:World} {K:PySem.W.Frag} {mg:Str->Option Value} {base:Heap} {f:Addr} {fd:FuncData}
theorem scBits:FnScope ["names","bits","bit","name"] ["names"] (zo Vd):=.ok
theorem q9 (F:Fun K "bits_of" "bits_of" Vd f fd):FnOk P w K mg base CX0 1 f fd ["names"] VE:=by
  refine F.by scBits (fun vs H Q E h=>?_) (fun cdv A outer s H vs Q E hr h=>?_)
  · obtain ⟨p,ns,rfl,_⟩:=h
    rfl
  obtain ⟨p,ns,rfl,hp,nd,hl,q⟩:=h
  refine ⟨_,
    (zg (sE 1 scBits.nd wp)
    (zg (sE 2 scBits.nd zj)
    (zg (zU PassesOwn.never rfl (zP (jv 0)) (gN 3 scBits.nd)
      (zg (wY hr (jv 1) (jv 3) (jv 2)) (zi (sE 2 scBits.nd (zu zM (jv 2) (jv 2))))))
    (zi (zp (jv 1)))))),?_⟩
  have sl:=zK
  intro d hd
  have s1:=zh (o:=.dK []) hd
  have npd:p≠d:=zn hp hd
  refine ⟨_,rfl,p,rfl,⟨_,SqL.of (s1 _ _ hp)⟩,yS (xs:=ns.map V.str) (fun i σ H'=>Same H H'/\H' d=some (.dK (yi (ns.take i) 1))/\∃ z,σ=[some (.ref p),some (.ref d),some (.int ((2 ^ i:Nat):Int)),z]) ⟨s1,zf,none,rfl⟩ (fun i σ H' _ h=>SqL.of (h.1 _ _ hp)) ?_ ?_⟩
  · rintro i v σ H1 hv ⟨s2,hd2,z,rfl⟩
    rw [List.getElem?_map] at hv
    obtain ⟨x,hx,rfl⟩:=Option.map_eq_some_iff.mp hv
    have hi:=(List.getElem?_eq_some_iff.mp hx).1
    have hnx:x ∉ ns.take i:=fun hm=>by
      obtain ⟨j,hj⟩:=List.mem_iff_getElem?.mp hm
      have hj':j < i:=by
        have:=(List.getElem?_eq_some_iff.mp hj).1
        rw [List.length_take] at this
        lia
      rw [List.getElem?_take_of_lt hj'] at hj
      have:=(List.getElem?_inj (List.getElem?_eq_some_iff.mp hj).1 nd).mp (hj.trans hx.symm)
      lia
    have tl:(ns.take i).length=i:=by rw [List.length_take]; lia
    have e:=XJ (b:=1) hnx
    rw [tl,Nat.one_mul] at e
    refine ⟨_,rfl,_,rfl,_,rfl,d,_,rfl,DPut.k (k:=.inr x) hd2 (by rw [jk,tl]; lia),?_⟩
    refine ⟨_,rfl,_,rfl,_,_,rfl,rfl,s2.put hd,?_,some (.str x),?_⟩
    · rw [zf,e,List.take_add_one,hx]
      rfl
    · show [_,_,some (V.int (_ + _)),_]=_
      rw [<- Int.natCast_add,<- Nat.two_mul,Nat.mul_comm,<- Nat.pow_succ]
  · rintro σ H1 ⟨s2,hd2,z,rfl⟩
    rw [List.length_map,List.take_of_length_le (Nat.le_refl _)] at hd2
    exact ⟨_,rfl,q _ d s2 hd hd2⟩
theorem scTog:FnScope ["names","bits","found","name"] lS19 (zo sTog):=.ok
theorem zbg (F:Fun K "together" "together" sTog f fd):FnOk P w K mg base CX0 1 f fd lS19 Y0:=by
  refine F.by scTog (fun vs H Q E h=>?_) (fun cdv A outer s H vs Q E hr h=>?_)
  · obtain ⟨p,d,xs,ns,rfl,_⟩:=h
    rfl
  obtain ⟨p,d,xs,ns,rfl,hp,hd,q⟩:=h
  refine ⟨_,
    (zg (sE 2 scTog.nd zj)
    (zg (zU PassesOwn.never rfl (zbf (yr (jv 0)) (zP (jv 0))) (gN 3 scTog.nd)
      (zi (sE 2 scTog.nd (zu vI (jv 2) (Vn hr (jv 1) (jv 3) zj)))))
    (zi (zp (jv 2))))),?_⟩
  rcases hp with hp | hp
  · refine .inl ⟨_,rfl,p,rfl,⟨_,SqT.of hp⟩,yK (xs:=xs.map V.str) (fun i σ H'=>H=H'/\∃ z,σ=[some (.ref p),some (.ref d),some (.int ((tog ns (xs.take i):Nat):Int)),z]) ⟨rfl,none,rfl⟩ (fun i σ H' _ h=>SqT.of (h.1 ▸ hp)) ?_ ?_⟩
    · rintro i v σ H1 hv ⟨rfl,z,rfl⟩
      rw [List.getElem?_map] at hv
      obtain ⟨x,hx,rfl⟩:=Option.map_eq_some_iff.mp hv
      have e:((valV (yi ns 1) (.inr x)).getD (.int 0))=.int ((bitN ns x:Nat):Int):=by
        rw [yX]
        by_cases c:x∈ns
        · rw [if_pos c,Nat.one_mul]; rfl
        · rw [if_neg c,vF c]; rfl
      refine ⟨_,rfl,_,rfl,d,rfl,.inl ⟨_,.inl hd⟩,_,rfl,_,DGet.k (k:=.inr x) hd,?_⟩
      rw [e]
      refine ⟨_,_,rfl,rfl,rfl,some (.str x),?_⟩
      show [_,_,some (V.int (Builtin.bitOr _ _)),_]=_
      rw [xD,<- Zw hx]
    · rintro σ H1 ⟨rfl,z,rfl⟩
      rw [List.length_map,List.take_of_length_le (Nat.le_refl _)]
      exact ⟨_,rfl,q⟩
  · refine .inr ⟨_,rfl,p,rfl,⟨_,SqL.of hp⟩,yS (xs:=xs.map V.str) (fun i σ H'=>H=H'/\∃ z,σ=[some (.ref p),some (.ref d),some (.int ((tog ns (xs.take i):Nat):Int)),z]) ⟨rfl,none,rfl⟩ (fun i σ H' _ h=>SqL.of (h.1 ▸ hp)) ?_ ?_⟩
    · rintro i v σ H1 hv ⟨rfl,z,rfl⟩
      rw [List.getElem?_map] at hv
      obtain ⟨x,hx,rfl⟩:=Option.map_eq_some_iff.mp hv
      have e:((valV (yi ns 1) (.inr x)).getD (.int 0))=.int ((bitN ns x:Nat):Int):=by
        rw [yX]
        by_cases c:x∈ns
        · rw [if_pos c,Nat.one_mul]; rfl
        · rw [if_neg c,vF c]; rfl
      refine ⟨_,rfl,_,rfl,d,rfl,.inl ⟨_,.inl hd⟩,_,rfl,_,DGet.k (k:=.inr x) hd,?_⟩
      rw [e]
      refine ⟨_,_,rfl,rfl,rfl,some (.str x),?_⟩
      show [_,_,some (V.int (Builtin.bitOr _ _)),_]=_
      rw [xD,<- Zw hx]
    · rintro σ H1 ⟨rfl,z,rfl⟩
      rw [List.length_map,List.take_of_length_le (Nat.le_refl _)]
      exact ⟨_,rfl,q⟩
theorem zbh:FnScope ["body"] ["body"] (zo xV):=.ok
theorem Qa (F:Fun K "names_used" "names_used" xV f fd) (GN':Ca P w K mg base CX0 1 "names_of" ["deed"] xB):FnOk P w K mg base CX0 2 f fd ["body"] VF:=by
  refine F.by zbh (fun vs H Q E h=>?_) (fun cdv A outer s H vs Q E hr h=>?_)
  · obtain ⟨p,b,rfl,_⟩:=h
    rfl
  obtain ⟨p,b,rfl,hb,hl,q⟩:=h
  refine ⟨_,
    (zg (zx (tN zA (xT 0) zq) (zi (zp (cA GN' hr (jA1 (xT 0))))) zr)
    (zg (zx (tN zA (xT 0) zq) (zi (zp (zv (jA1 (xT 0))))) zr)
    (zg (zx (yY xA (xT 0) (zv (jA2 zq zq)) (by with_unfolding_all rfl)) (zi (zp (zv zE))) zr)
    (zi (zp (zv (jA1 (xT 0)))))))),?_⟩
  have sl:=zK
  suffices tail:∀ {t x:Str} {xs:List V},H p=some (.tup (.str t :: .str x :: xs))->t≠"let"->t≠"hold"->inV (.str t) [V.str "drop",V.str "loose"]=false->(∀ (H':Hp) (q:Addr),Same H H'->H' q=some (.tup [.str x])->Q (.ref q) H') ->
      (tSeq _ (tSeq _ (tSeq _ _)):TS) { nx:=fun _ H'=>Q .non H',rt:=Q } [some (.ref p)] H by
    suffices drp:∀ {t:Str} {xs:List V},H p=some (.tup (.str t :: xs))->t≠"let"->t≠"hold"->inV (.str t) [V.str "drop",V.str "loose"]=true->(∀ (H':Hp) (q:Addr),Same H H'->H' q=some (.tup [])->Q (.ref q) H') ->
      (tSeq _ (tSeq _ (tSeq _ _)):TS) { nx:=fun _ H'=>Q .non H',rt:=Q } [some (.ref p)] H by
      cases b with
      | give x=>exact tail hb (by decide) (by decide) (by decide) q
      | iff x a b=>obtain ⟨p1,p2,hp,_⟩:=hb; exact tail hp (by decide) (by decide) (by decide) q
      | cs x as=>obtain ⟨p1,p2,hp,_⟩:=hb; exact tail hp (by decide) (by decide) (by decide) q
      | drop x b=>obtain ⟨p1,hp,_⟩:=hb; exact drp hp (by decide) (by decide) (by decide) q
      | loose x b=>obtain ⟨p1,hp,_⟩:=hb; exact drp hp (by decide) (by decide) (by decide) q
      | lt x d b =>
        obtain ⟨p1,p2,hp,hd,hb⟩:=hb
        refine ⟨_,rfl,ixT hp aI0 ⟨rfl,_,rfl,ite2 (fun _=>?_) aB⟩⟩
        exact ⟨_,rfl,ixT hp aI2 ⟨p1,d,rfl,hd,hl,fun H' r s1 h1=>q H' r s1 h1⟩⟩
      | hold x y b =>
        obtain ⟨p1,hp,hb⟩:=hb
        refine ⟨_,rfl,ixT hp aI0 ⟨rfl,_,rfl,ite2 aB (fun _=>?_)⟩⟩
        refine ⟨_,rfl,ixT hp aI0 ⟨rfl,_,rfl,ite2 (fun _=>?_) aB⟩⟩
        exact ⟨_,rfl,ixT hp aI2 ⟨sN1,fun r hr=>q _ r (zh hr _) zf⟩⟩
    intro t xs hp h1 h2 h3 q
    have n1:¬ (decide (V.str t=V.str "let")=true):=fun c=>h1 (V.str.inj (of_decide_eq_true c))
    have n2:¬ (decide (V.str t=V.str "hold")=true):=fun c=>h2 (V.str.inj (of_decide_eq_true c))
    refine ⟨_,rfl,ixT hp aI0 ⟨rfl,_,rfl,ite2 (fun c=>absurd c n1) (fun _=>?_)⟩⟩
    refine ⟨_,rfl,ixT hp aI0 ⟨rfl,_,rfl,ite2 (fun c=>absurd c n2) (fun _=>?_)⟩⟩
    refine ⟨_,rfl,ixT hp aI0 ⟨sN2,fun t0 h0=>?_⟩⟩
    have s0:=zh (o:=.tup [.str "drop",.str "loose"]) h0
    refine ⟨t0,_,rfl,.inr (SqT.of zf),rfl,rfl,_,rfl,?_⟩
    refine ite2 (fun _=>?_) (fun c=>absurd (show inV (.str t) [V.str "drop",V.str "loose"]=true from h3) c)
    exact ⟨sN0,fun r hr=>q _ r (s0.new hr) zf⟩
  intro t x xs hp h1 h2 h3 q
  have n1:¬ (decide (V.str t=V.str "let")=true):=fun c=>h1 (V.str.inj (of_decide_eq_true c))
  have n2:¬ (decide (V.str t=V.str "hold")=true):=fun c=>h2 (V.str.inj (of_decide_eq_true c))
  refine ⟨_,rfl,ixT hp aI0 ⟨rfl,_,rfl,ite2 (fun c=>absurd c n1) (fun _=>?_)⟩⟩
  refine ⟨_,rfl,ixT hp aI0 ⟨rfl,_,rfl,ite2 (fun c=>absurd c n2) (fun _=>?_)⟩⟩
  refine ⟨_,rfl,ixT hp aI0 ⟨sN2,fun t0 h0=>?_⟩⟩
  have s0:=zh (o:=.tup [.str "drop",.str "loose"]) h0
  refine ⟨t0,_,rfl,.inr (SqT.of zf),rfl,rfl,_,rfl,?_⟩
  refine ite2 (fun c=>absurd (show inV (.str t) [V.str "drop",V.str "loose"]=true from c) (by rw [h3]; decide)) (fun _=>?_)
  exact ⟨_,rfl,ixT (s0 _ _ hp) aI1 ⟨sN1,fun r hr=>q _ r (s0.new hr) zf⟩⟩
end
theorem IsY.get {H:Hp}:∀ {l:Wy} {ps:List Addr} {i:Nat} {p:Addr},IsY H l ps->ps[i]?=some p->∃ ns b q r,l[i]?=some (ns,b)/\H p=some (.tup [.ref q,.ref r])/\H q=some (.tup (ns.map V.str))/\IsBd H b r
  | _,_,_,_,.nil,e=>by simp at e
  | _,_,0,_,.cons a b c _,e=>by
    simp at e
    subst e
    exact ⟨_,_,_,_,rfl,a,b,c⟩
  | _,_,i + 1,_,.cons _ _ _ d,e=>by
    obtain ⟨ns,b,q,r,h1,h2⟩:=IsY.get (i:=i) d (by simpa using e)
    exact ⟨ns,b,q,r,by simpa using h1,h2⟩
def Nt (H:Hp) (m:Nat) (v:V):Prop:=∃ q l,v=.ref q/\H q=some (.tup [.int ((m:Nat):Int),.ref l])
def NtL (H:Hp) (R:Addr->Prop) (m:Nat) (v:V) (nv:List V):Prop:=∃ q l,v=.ref q/\H q=some (.tup [.int ((m:Nat):Int),.ref l])/\R l/\H l=some (.lst nv)
mutual
def IsN (ns:List Str) (H:Hp) (R:Addr->Prop):Bd->V->Prop
  | .give x,v=>NtL H R ((Bd.give x).mk ns) v []
  | .lt x d b,v=>∃ w,NtL H R ((Bd.lt x d b).mk ns) v [w]/\IsN ns H R b w
  | .hold x y b,v=>∃ w,NtL H R ((Bd.hold x y b).mk ns) v [w]/\IsN ns H R b w
  | .drop x b,v=>∃ w,NtL H R ((Bd.drop x b).mk ns) v [w]/\IsN ns H R b w
  | .loose x b,v=>∃ w,NtL H R ((Bd.loose x b).mk ns) v [w]/\IsN ns H R b w
  | .iff x a b,v=>∃ w u,NtL H R ((Bd.iff x a b).mk ns) v [w,u]/\IsN ns H R a w/\IsN ns H R b u
  | .cs x as,v=>∃ ws,NtL H R ((Bd.cs x as).mk ns) v ws/\IsNA ns H R as ws
def IsNA (ns:List Str) (H:Hp) (R:Addr->Prop):Arms->List V->Prop
  | .nil,ws=>ws=[]
  | .cons _ _ _ _ b r,ws=>∃ w ws',ws=w :: ws'/\IsN ns H R b w/\IsNA ns H R r ws'
end
structure NK (H H':Hp) (R R':Addr->Prop):Prop where
  t:Tups H H'
  l:∀ a xs,R a->H a=some (.lst xs)->H' a=some (.lst xs)
  s:∀ a,R a->R' a
theorem NtL.keep {H H':Hp} {R R':Addr->Prop} {m:Nat} {v:V} {nv:List V} (k:NK H H' R R') (h:NtL H R m v nv):NtL H' R' m v nv:=let ⟨q,l,e,a,b,c⟩:=h; ⟨q,l,e,k.t _ _ a,k.s _ b,k.l _ _ b c⟩
mutual
theorem IsN.keep {ns:List Str} {H H':Hp} {R R':Addr->Prop} (k:NK H H' R R'):∀ {b:Bd} {v:V},IsN ns H R b v->IsN ns H' R' b v
  | .give x,v,h=>NtL.keep k h
  | .lt x d b,v,h=>let ⟨w,a,e⟩:=h; ⟨w,a.keep k,IsN.keep k e⟩
  | .hold x d b,v,h=>let ⟨w,a,e⟩:=h; ⟨w,a.keep k,IsN.keep k e⟩
  | .drop x b,v,h=>let ⟨w,a,e⟩:=h; ⟨w,a.keep k,IsN.keep k e⟩
  | .loose x b,v,h=>let ⟨w,a,e⟩:=h; ⟨w,a.keep k,IsN.keep k e⟩
  | .iff x a b,v,h=>let ⟨w,u,a,e,g⟩:=h; ⟨w,u,a.keep k,IsN.keep k e,IsN.keep k g⟩
  | .cs x as,v,h=>let ⟨ws,a,e⟩:=h; ⟨ws,a.keep k,IsNA.keep k e⟩
theorem IsNA.keep {ns:List Str} {H H':Hp} {R R':Addr->Prop} (k:NK H H' R R'):∀ {as:Arms} {ws:List V},IsNA ns H R as ws->IsNA ns H' R' as ws
  | .nil,ws,h=>h
  | .cons _ _ _ _ b r,ws,h=>let ⟨w,ws',e,g,i⟩:=h; ⟨w,ws',e,IsN.keep k g,IsNA.keep k i⟩
end
def IsNs (ns:List Str) (H:Hp) (R:Addr->Prop) (l:Wy) (nv:List V):Prop:=All2 (fun (w:List Str × Bd) v=>IsN ns H R w.2 v) l nv
theorem IsNA.ways {ns:List Str} {H:Hp} {R:Addr->Prop}:∀ {as:Arms} {ws:List V},IsNA ns H R as ws↔IsNs ns H R as.ways ws
  | .nil,ws=>by
    unfold IsNA IsNs Arms.ways
    constructor
    · rintro rfl; exact .nil
    · intro h; cases h; rfl
  | .cons t xs m k b r,ws=>by
    unfold IsNA IsNs Arms.ways
    constructor
    · rintro ⟨w,ws',rfl,h1,h2⟩
      exact .cons h1 (IsNA.ways.mp h2)
    · intro h
      cases h with
      | cons a c=>exact ⟨_,_,rfl,a,IsNA.ways.mpr c⟩
theorem IsN.ways {ns:List Str} {H:Hp} {R:Addr->Prop} {b:Bd} {v:V}:IsN ns H R b v↔∃ nv,NtL H R (b.mk ns) v nv/\IsNs ns H R b.ways nv:=by
  have one:∀ {xs:List Str} {c:Bd} {m:Nat},(∃ w,NtL H R m v [w]/\IsN ns H R c w)↔∃ nv,NtL H R m v nv/\IsNs ns H R [(xs,c)] nv:=fun {xs c m}=>by
    constructor
    · rintro ⟨w,h1,h2⟩; exact ⟨_,h1,.cons h2 .nil⟩
    · rintro ⟨nv,h1,h2⟩
      cases h2 with
      | cons a c=>cases c; exact ⟨_,h1,a⟩
  cases b with
  | give x =>
    unfold IsN Bd.ways
    constructor
    · intro h; exact ⟨_,h,.nil⟩
    · rintro ⟨nv,h1,h2⟩; cases h2; exact h1
  | lt x d b=>unfold IsN Bd.ways; exact one
  | hold x d b=>unfold IsN Bd.ways; exact one
  | drop x b=>unfold IsN Bd.ways; exact one
  | loose x b=>unfold IsN Bd.ways; exact one
  | iff x a b =>
    unfold IsN Bd.ways
    constructor
    · rintro ⟨w,u,h1,h2,h3⟩; exact ⟨_,h1,.cons h2 (.cons h3 .nil)⟩
    · rintro ⟨nv,h1,h2⟩
      cases h2 with
      | cons a c =>
        cases c with
        | cons d e=>cases e; exact ⟨_,_,h1,a,d⟩
  | cs x as =>
    unfold IsN Bd.ways
    constructor
    · rintro ⟨ws,h1,h2⟩; exact ⟨ws,h1,IsNA.ways.mp h2⟩
    · rintro ⟨ws,h1,h2⟩; exact ⟨ws,h1,IsNA.ways.mpr h2⟩
theorem IsN.nt {ns:List Str} {H:Hp} {R:Addr->Prop} {b:Bd} {v:V} (h:IsN ns H R b v):Nt H (b.mk ns) v:=let ⟨_,⟨q,l,e,a,_⟩,_⟩:=IsN.ways.mp h; ⟨q,l,e,a⟩
def IsN0 (ns:List Str) (H:Hp) (l:Wy) (nv:List V):Prop:=All2 (fun (w:List Str × Bd) v=>Nt H (w.2.mk ns) v) l nv
def IsBu (H:Hp) (b:Bd) (p:Addr):Prop:=IsBd H b p/\b.used.length<=1000
theorem IsBu.keep {H H':Hp} {b:Bd} {p:Addr} (h:IsBu H b p) (t:Tups H H'):IsBu H' b p:=⟨h.1.keep t,h.2⟩
def wu:Sp:=fun vs H Q _=>∃ (p wl nl d:Addr) (b:Bd) (ps:List Addr) (nv:List V) (ns:List Str),vs=[.ref p,.ref wl,.ref nl,.ref d]/\IsBu H b p/\H wl=some (.lst (ps.map V.ref))/\IsY H b.ways ps/\H nl=some (.lst nv)/\IsN0 ns H b.ways nv/\H d=some (.dK (yi ns 1)) /\
  ∀ H' r,Same H H'->H' r=some (.tup [.int ((b.mk ns:Nat):Int),.ref nl])->Q (.ref r) H'
theorem XL {ns:List Str} {l:Wy} {i:Nat} {xs:List Str} {b:Bd} (h:l[i]?=some (xs,b)):accW ns (l.take (i + 1)) 0=accW ns (l.take i) 0 ||| dif (b.mk ns) (tog ns xs):=by
  unfold accW
  rw [List.take_add_one,h,List.foldl_append]
  rfl
section
variable {P:Program} {w:World} {K:PySem.W.Frag} {mg:Str->Option Value} {base:Heap} {f:Addr} {fd:FuncData}
theorem scNoteOf:FnScope ["body","ways","notes","bits","found","way","note"] lS11 (zo jP):=.ok
theorem XM (F:Fun K "note_of" "note_of" jP f fd) (GT:Ca P w K mg base CX0 1 "together" lS19 Y0) (GU:Ca P w K mg base CX0 2 "names_used" ["body"] VF) (m_zip:mg "zip"=none):FnOk P w K mg base CX0 3 f fd lS11 wu:=by
  refine F.by scNoteOf (fun vs H Q E h=>?_) (fun cdv A outer s H vs Q E hr h=>?_)
  · obtain ⟨p,wl,nl,d,b,ps,nv,ns,rfl,_⟩:=h
    rfl
  obtain ⟨p,wl,nl,d,b,ps,nv,ns,rfl,hb,hw,hy,hn,hnv,hd,q⟩:=h
  have hr1:Room 1 _:=hr.mono (by decide)
  refine ⟨_,
    (zg (sE 4 scNoteOf.nd zj)
    (zg (zU PassesOwn.never rfl (xS rfl m_zip (jA2 (jv 1) (jv 2))) (xm rfl (zw (gN 5 scNoteOf.nd) (zw (gN 6 scNoteOf.nd) z6)))
      (zi (sE 4 scNoteOf.nd (zu vI (jv 4) (zu vc (xT 6) (j1 (cA GT hr1 (jA2 (xT 5) (jv 3)))))))))
    (zi (zp (zv (jA2 (zu vI (jv 4) (cA GT hr1 (jA2 (cA GU hr (jA1 (jv 0))) (jv 3)))) (jv 2))))))),?_⟩
  have sl:=zK
  have yl:=hy.len
  have nl':b.ways.length=nv.length:=All2.len hnv
  refine ⟨_,rfl,_,rfl,wl,nl,true,true,_,_,rfl,SqK.l hw,SqK.l hn,JY (xs:=ps.map V.ref) (ys:=nv) (by rw [List.length_map]; lia) (fun i σ H'=>Same H H'/\∃ y z,σ=[some (.ref p),some (.ref wl),some (.ref nl),some (.ref d),some (.int ((accW ns (b.ways.take i) 0:Nat):Int)),y,z]) ⟨Same.refl _,none,none,rfl⟩ (fun i σ H' _ h=>⟨SqK.l (h.1 _ _ hw),SqK.l (h.1 _ _ hn)⟩) ?_ ?_⟩
  · rintro i v1 v2 T σ H1 hv1 hv2 hT ⟨s1,y,z,rfl⟩
    rw [List.getElem?_map] at hv1
    obtain ⟨pw,hpw,rfl⟩:=Option.map_eq_some_iff.mp hv1
    obtain ⟨xs,b',q1,r1,e1,e2,e3,e4⟩:=hy.get hpw
    obtain ⟨w',e1',qn,ln,rfl,en⟩:=All2.get hnv hv2
    rw [e1] at e1'
    cases e1'
    have s2:=s1.new (o:=.tup [.ref pw,.ref qn]) hT
    refine ⟨T,_,rfl,SqT.of zf,rfl,_,_,rfl,_,_,rfl,rfl,?_⟩
    refine ⟨_,rfl,_,rfl,ixT (s2 _ _ en) aI0 ⟨_,rfl,ixT (s2 _ _ e2) aI0 ⟨_,rfl,q1,d,xs,ns,rfl,.inl (s2 _ _ e3),s2 _ _ hd,_,rfl,_,_,rfl,rfl,_,_,rfl,rfl,s2,some (.ref pw),some (.ref qn),?_⟩⟩⟩
    show [_,_,_,_,some (V.int (Builtin.bitOr _ (Builtin.bitAnd _ _))),_,_]=_
    rw [xt,xD,<- XL e1]
  · rintro σ H1 ⟨s1,y,z,rfl⟩
    rw [List.length_map,<- yl,List.take_of_length_le (Nat.le_refl _)]
    refine ⟨_,rfl,_,rfl,p,b,rfl,hb.1.keep (.of s1),hb.2,fun H2 qu s2 hqu=>?_⟩
    refine ⟨_,rfl,qu,d,_,ns,rfl,.inl hqu,s2 _ _ (s1 _ _ hd),_,_,rfl,rfl,_,rfl,sN2,fun r hr=>?_⟩
    refine q _ r ((s1.trans s2).new hr) ?_
    rw [zf]
    show some (HO.tup [V.int (Builtin.bitOr _ _),_])=_
    rw [xD,<- Bd.mk_ways]
end
def Y1:Expr:=match zJ yW with
  | [_,.Return (some (.Tuple [_,l] _ _)) _]=>l
  | _=>.Constant .none 0 ⟨0,0,0,0⟩
def Q0:Arguments:=match Y1 with
  | .Lambda a _ _ _=>a
  | _=>zT yW
def VG:Expr:=match Y1 with
  | .Lambda _ b _ _=>b
  | e=>e
def VH:Scope:=match Y1 with
  | .Lambda _ _ s _=>s
  | _=>zo yW
def Y2:Pos:=match Y1 with
  | .Lambda _ _ _ p=>p
  | _=>⟨0,0,0,0⟩
def Zx:Str:=("begun_note":Str) ++ (".<locals>.":Str) ++ ("<lambda>":Str)
def cl2 (c1 c2 c3:Addr):List (Str × Addr):=[("ways",c3),("body",c1),("bits",c2)]
abbrev vJ (mg:Str->Option Value) (c1 c2 c3 c:Addr) (ct:Value):FuncData:=lamC mg Zx Q0 VG VH (cl2 c1 c2 c3) c ct
theorem zbi:LamScope ["notes","bits","body","ways"] ["notes"] ["bits","body","ways"] VH:=⟨rfl,rfl,rfl,by decide +kernel,rfl,by decide +kernel,by decide +kernel,by decide +kernel,by decide +kernel⟩
theorem VI:∃ p0 p1 p2 p3 p4 p5,VG=.Call (.Name "note_of" p0) [.Name "body" p1,.Name "ways" p2,.Name "notes" p3,.Name "bits" p4] [] p5:=⟨_,_,_,_,_,_,rfl⟩
def Clo2 (mg:Str->Option Value) (ns:List Str) (H:Hp) (R:Addr->Prop) (d:Addr) (b:Bd) (f:Addr):Prop:=∃ c1 c2 c3 c ct p wl ps,H f=some (FunO f (vJ mg c1 c2 c3 c ct))/\H c=some (CodO c Zx)/\Cel H c1 (.ref p)/\Cel H c2 (.ref d)/\Cel H c3 (.ref wl)/\c1≠c2/\c1≠c3/\c2≠c3/\IsBu H b p/\H wl=some (.lst (ps.map V.ref))/\R wl/\IsY H b.ways ps
def zbj (mg:Str->Option Value) (ns:List Str) (f:Addr) (fd:FuncData):Sp:=fun vs H Q _=>∃ (nl d c1 c2 c3 c p wl:Addr) (ct:Value) (b:Bd) (ps:List Addr) (nv:List V),vs=[.ref nl]/\fd=vJ mg c1 c2 c3 c ct/\H f=some (FunO f fd)/\H c=some (CodO c Zx)/\Cel H c1 (.ref p)/\Cel H c2 (.ref d)/\Cel H c3 (.ref wl)/\c1≠c2/\c1≠c3/\c2≠c3/\IsBu H b p/\H wl=some (.lst (ps.map V.ref))/\IsY H b.ways ps/\H nl=some (.lst nv)/\IsN0 ns H b.ways nv/\H d=some (.dK (yi ns 1)) /\
  ∀ H' r,Same H H'->H' r=some (.tup [.int ((b.mk ns:Nat):Int),.ref nl])->Q (.ref r) H'
theorem clo3 {H:Hp} {c1 c2 c3:Addr} {v1 v2 v3:V} (h1:Cel H c1 v1) (h2:Cel H c2 v2) (h3:Cel H c3 v3) (n1:c1≠c2) (n2:c1≠c3) (n3:c2≠c3):Clo H (cl2 c1 c2 c3) ["bits","body","ways"] [v2,v1,v3]:=by
  have l1:(cl2 c1 c2 c3).lookup ("bits":Str)=some c2:=rfl
  have l2:(cl2 c1 c2 c3).lookup ("body":Str)=some c1:=rfl
  have l3:(cl2 c1 c2 c3).lookup ("ways":Str)=some c3:=rfl
  refine ⟨rfl,fun p hp=>?_,fun i x v e1 e2=>?_,fun x hx=>?_,fun x y a e1 e2=>?_⟩
  · unfold cl2 at hp
    simp only [List.mem_cons,List.not_mem_nil,or_false] at hp
    rcases hp with rfl | rfl | rfl
    · exact ⟨_,h3⟩
    · exact ⟨_,h1⟩
    · exact ⟨_,h2⟩
  · match i,e1,e2 with
    | 0,e1,e2=>cases e1; cases e2; exact ⟨c2,l1,h2⟩
    | 1,e1,e2=>cases e1; cases e2; exact ⟨c1,l2,h1⟩
    | 2,e1,e2=>cases e1; cases e2; exact ⟨c3,l3,h3⟩
    | i + 3,e1,_=>simp at e1
  · simp only [List.mem_cons,List.not_mem_nil,or_false] at hx
    rcases hx with rfl | rfl | rfl
    · exact ⟨_,l1⟩
    · exact ⟨_,l2⟩
    · exact ⟨_,l3⟩
  · have m1:=PySem.mem_of_lookup e1
    have m2:=PySem.mem_of_lookup e2
    unfold cl2 at m1 m2
    simp only [List.mem_cons,Prod.mk.injEq,List.not_mem_nil,or_false] at m1 m2
    rcases m1 with ⟨rfl,rfl⟩ | ⟨rfl,rfl⟩ | ⟨rfl,rfl⟩ <;> rcases m2 with ⟨rfl,z⟩ | ⟨rfl,z⟩ | ⟨rfl,z⟩ <;> first | rfl | exact absurd z (by assumption) | exact absurd z.symm (by assumption)
theorem wJ {H:Hp} {as:List Addr} (hc:∀ a∈as,∃ v,Cel H a v):Tups H (yB H as):=fun p xs e=>zL hc e (by intro _ _ _ z; cases z)
theorem XN {H H':Hp} {as:List Addr} (s:Same (yB H as) H'):Same H (xM H' H as):=fun b u e=>by
  by_cases z:b∈as
  · rw [vb z]; exact e
  · rw [yy z]; exact s b u (by rw [zY z]; exact e)
theorem Zy {H H':Hp} {as:List Addr} {b:Addr} {u:HO} (hn:∀ a∈as,H' a=none) (e:H' b=some u):xM H' H as b=some u:=by
  rw [yy]
  · exact e
  · intro z; rw [hn b z] at e; cases e
section
variable {P:Program} {w:World} {K:PySem.W.Frag} {mg:Str->Option Value} {base:Heap}
theorem Qb (GN':Ca P w K mg base CX0 3 "note_of" lS11 wu) (ns:List Str) (f c1 c2 c3 c:Addr) (ct:Value):FnOk P w K mg base CX0 4 f (vJ mg c1 c2 c3 c ct) ["notes"] (zbj mg ns f (vJ mg c1 c2 c3 c ct)):=by
  refine YY (k:=3) zbi (fun vs H Q E h=>?_) (fun A outer s H vs Q E hr h=>?_)
  · obtain ⟨nl,d,_,_,_,_,p,wl,_,b,ps,nv,rfl,_⟩:=h
    rfl
  · obtain ⟨nl,d,d1,d2,d3,d0,p,wl,ct',b,ps,nv,rfl,efd,hf,hc,h1,h2,h3,n1,n2,n3,hb,hw,hy,hn,hnv,hd,q⟩:=h
    have ecl:cl2 c1 c2 c3=cl2 d1 d2 d3:=congrArg FuncData.closure efd
    have ec:Value.ref c=Value.ref d0:=congrArg FuncData.code efd
    cases ec
    have e3:c3=d3:=by injection ecl with a b; exact (Prod.mk.inj a).2
    have e1:c1=d1:=by injection ecl with a b; injection b with a b; exact (Prod.mk.inj a).2
    have e2:c2=d2:=by injection ecl with a b; injection b with a b; injection b with a b; exact (Prod.mk.inj a).2
    subst e1; subst e2; subst e3
    refine ⟨hf,hc,_,clo3 h1 h2 h3 n1 n2 n3,?_⟩
    obtain ⟨p0,p1,p2,p3,p4,p5,eb⟩:=VI
    rw [eb]
    have hcA:∀ a∈(cl2 c1 c2 c3).map (·.2),∃ v,Cel H a v:=fun a ha=>by
      obtain ⟨p,hp,rfl⟩:=List.mem_map.mp ha
      exact (clo3 h1 h2 h3 n1 n2 n3).all p hp
    have tp:=wJ hcA
    have ml:∀ {b:Addr} {xs:List V},H b=some (.lst xs)->yB H ((cl2 c1 c2 c3).map (·.2)) b=some (.lst xs):=fun e=>zL hcA e (by intro _ _ _ z; cases z)
    refine ⟨_,(cA GN' hr (jA4 (jv 2) (jv 3) (jv 0) (jv 1))),?_⟩
    refine ⟨_,rfl,_,rfl,_,rfl,_,rfl,p,wl,nl,d,b,ps,nv,ns,rfl,hb.keep tp,ml hw,hy.keep tp,ml hn,hnv.imp fun _ _ ⟨q,l,e,h⟩=>⟨q,l,e,tp _ _ h⟩,zL hcA hd (by intro _ _ _ z; cases z),fun H' r s1 hr1 hnn=>?_⟩
    exact q _ r (XN s1) (Zy hnn hr1)
theorem Qc (c1 c2 c3 c:Addr) (ct:Value):Binds K (vJ mg c1 c2 c3 c ct) ["notes"] []:=.all fun us hl=>match us,hl with | [_],_=>rfl
end
theorem Pub.same {H H3:Hp} {cvs:List (Addr × V)} (h:Pub H H3 cvs):Same H H3:=fun b u e=>by
  rw [h.old b]
  · exact e
  · intro z
    obtain ⟨p,hp,rfl⟩:=List.mem_map.mp z
    rw [h.non p hp] at e; cases e
def ls2:List (Pos × Str):=[(Y2,Zx)]
def IsKs (H:Hp) (l:Wy) (vs:List V):Prop:=All2 (fun (w:List Str × Bd) v=>∃ p,v=.ref p/\IsBd H w.2 p) l vs
def xE (mg:Str->Option Value) (T:Addr):Sp:=fun vs H Q _=>∃ (p d:Addr) (b:Bd) (ns:List Str),vs=[.ref p,.ref d]/\IsBu H b p/\b.sz<=1000000/\TbG T ls2 H /\
  ∀ H' q l fl wl vs,KM (·=T) H H'->TbG T ls2 H'->H' q=some (.tup [.ref l,.ref fl])->H l=none->H' l=some (.lst vs)->IsKs H' b.ways vs->H wl=none->(∃ xs,H' wl=some (.lst xs))->(∀ R:Addr->Prop,R wl->Clo2 mg ns H' R d b fl)->Q (.ref q) H'
section
variable {P:Program} {w:World} {K:PySem.W.Frag} {mg:Str->Option Value} {base:Heap} {f:Addr} {fd:FuncData}
theorem scBegNote:FnScope ["body","bits","ways"] lS13 (zo yW):=.ok
theorem XO:(["body","bits","ways","way"]:List Str).Nodup:=by decide +kernel
theorem Yj {c T:Addr} (F:FunC K "begun_note" yW c f fd) (hB:BMn mg base) (hc:PySem.W.codeHdIn K c T=true) (GW:Ca P w K mg base CX0 1 "ways_on" ["body"] vE):FnOk P w K mg base CX0 2 f fd lS13 (xE mg T):=by
  refine F.byR scBegNote (fun vs H Q E h=>?_) (fun A outer s H vs Q E hr h fresh=>?_)
  · obtain ⟨p,d,b,ns,rfl,_⟩:=h
    rfl
  obtain ⟨p,d,b,ns,rfl,hb,hz,hT,q⟩:=h
  refine ⟨_,
    (J9 (sE 2 scBegNote.nd (cA GW hr (jA1 (jv 0))))
    (zba (zv (ja_c (zW ["way"] rfl (zP (jv 2)) (fun _ _ _ _ _=>(gN 3 XO)) (fun _ _ _ _ _=>zV) (fun _ _ _ _ _=>(yx (yh K) (jv 3) zj (fun _ _=>rfl))))
      (jA1 (YW (params:=Q0) (body:=VG) (scope:=VH) (pos:=Y2) (T:=T) (qual:=Zx) (cl:=cl2 (s.heap.objs.size + 1) (s.heap.objs.size + 2) (s.heap.objs.size + 3)) hB rfl hc rfl)))))),?_⟩
  have sl:=zK
  refine ⟨_,rfl,p,b,rfl,hb.1,hz,fun H1 wl ps s1 hwl hwl1 hy=>?_⟩
  have yl:=hy.len
  have wl1:=xb b.ways
  have wl2:=Bd.wsz b
  refine ⟨_,rfl,wl,rfl,⟨_,SqL.of hwl1⟩,ym (xs:=ps.map V.ref) (fun j τ ys H'=>H1=H'/\(∃ v,τ=[some (.ref p),some (.ref d),some (.ref wl),v])/\IsKs H1 (b.ways.take j) ys) ⟨rfl,⟨none,rfl⟩,.nil⟩ (fun j τ ys H' _ h=>SqL.of (h.1 ▸ hwl1)) ?_ ?_⟩
  · rintro j v τ ys H2 hv ⟨rfl,⟨v',rfl⟩,hk⟩
    rw [List.getElem?_map] at hv
    obtain ⟨pw,hpw,rfl⟩:=Option.map_eq_some_iff.mp hv
    obtain ⟨xs,b',q1,r1,e1,e2,e3,e4⟩:=hy.get hpw
    have kl:=All2.len hk
    rw [List.length_take] at kl
    refine ⟨_,rfl,ixT e2 aI1 ⟨by have:=(List.getElem?_eq_some_iff.mp e1).1; lia,rfl,⟨_,rfl⟩,?_⟩⟩
    rw [List.take_add_one,e1]
    exact All2.app hk (.cons ⟨r1,rfl,e4⟩ .nil)
  rintro τ ys H2 ⟨rfl,_,hk⟩ l hl
  rw [List.length_map,<- yl,List.take_of_length_le (Nat.le_refl _)] at hk
  have s2:=zh (o:=.lst ys) hl
  have hTb:TbG T ls2 (upd H1 l (.lst ys)):=hT.keep (fun ps e=>s2 _ _ (s1 _ _ e)) (fun c q e=>s2 _ _ (s1 _ _ e))
  refine Zt hTb (by unfold ls2; exact .head _) (fun p hp _=>by unfold ls2 at hp; rw [List.mem_singleton.mp hp]) fun H3 fl cc ct k3 T3 hfl nfT ncT hfl3 hcc=>?_
  refine ⟨sN2,fun r hr=>?_⟩
  have nlT:∀ {b:Addr} {u:HO},upd H1 l (.lst ys) b=some u->(∀ ps,u≠.tbl ps)->b≠T:=fun {b u} e n z=>by
    obtain ⟨ps,h,_⟩:=hTb
    rw [z,h] at e
    exact n _ (Option.some.inj e).symm
  have k4:∀ b u,b≠T->upd H1 l (.lst ys) b=some u->upd H3 r (.tup [.ref l,.ref fl]) b=some u:=fun b u n e=>by
    rw [zk (zn (k3 b u n e) hr)]; exact k3 b u n e
  have t4:Tups (upd H1 l (.lst ys)) (upd H3 r (.tup [.ref l,.ref fl])):=fun b xs e=>k4 b _ (nlT e (by intro _ z; cases z)) e
  have T4:TbG T ls2 (upd H3 r (.tup [.ref l,.ref fl])):=T3.keep (fun ps e=>old hr e) (fun c q e=>old hr e)
  have e_l:=k4 l _ (nlT zf (by intro _ z; cases z)) zf
  have e_w:=k4 wl _ (nlT (s2 _ _ hwl1) (by intro _ z; cases z)) (s2 _ _ hwl1)
  have k04:KM (·=T) H (upd H3 r (.tup [.ref l,.ref fl])):=fun b u n e=>k4 b u n (s2 _ _ (s1 _ _ e))
  have tp04:Tups H1 (upd H3 r (.tup [.ref l,.ref fl])):=fun b xs e=>t4 b xs (s2 _ _ e)
  have hr4:=zf (H:=H3) (a:=r) (o:=.tup [.ref l,.ref fl])
  have hfl4:=old (o:=.tup [.ref l,.ref fl]) hr hfl3
  have hcc4:=old (o:=.tup [.ref l,.ref fl]) hr hcc
  generalize upd H3 r (.tup [.ref l,.ref fl])=H4 at *
  refine ⟨[(s.heap.objs.size + 1,.ref p),(s.heap.objs.size + 2,.ref d),(s.heap.objs.size + 3,.ref wl)],fun x hx=>?_,fun H5 pb=>?_⟩
  · simp only [List.mem_cons,List.not_mem_nil,or_false] at hx
    rcases hx with rfl | rfl | rfl
    · exact ⟨0,"body",rfl,rfl,rfl,.inl rfl⟩
    · exact ⟨1,"bits",rfl,rfl,rfl,.inl rfl⟩
    · exact ⟨2,"ways",rfl,rfl,rfl,.inl rfl⟩
  have s5:=Pub.same pb
  refine q H5 r l fl wl ys (k04.trans (.of s5)) (T4.keep (fun ps e=>s5 _ _ e) fun c q e=>s5 _ _ e) (s5 _ _ hr4) (s1.free hl) (s5 _ _ e_l) (hk.imp fun _ _ ⟨p,e,h⟩=>⟨p,e,h.keep (tp04.trans (.of s5))⟩) hwl ⟨_,s5 _ _ e_w⟩ fun R hR=>?_
  exact ⟨_,_,_,cc,ct,p,wl,ps,s5 _ _ hfl4,s5 _ _ hcc4,pb.cel (_,_) (.head _),pb.cel (_,_) (.tail _ (.head _)),pb.cel (_,_) (.tail _ (.tail _ (.head _))),by simp,by simp,by simp,hb.keep ((Tups.of s1).trans (tp04.trans (.of s5))),s5 _ _ e_w,hR,hy.keep (tp04.trans (.of s5))⟩
end
def Y3:Expr:=match zJ wH with
  | [.Return (some (.Call _ [_,l] _ _)) _]=>l
  | _=>.Constant .none 0 ⟨0,0,0,0⟩
def Q2:Arguments:=match Y3 with
  | .Lambda a _ _ _=>a
  | _=>zT wH
def VJ:Expr:=match Y3 with
  | .Lambda _ b _ _=>b
  | e=>e
def VL:Scope:=match Y3 with
  | .Lambda _ _ s _=>s
  | _=>zo wH
def Y4:Pos:=match Y3 with
  | .Lambda _ _ _ p=>p
  | _=>⟨0,0,0,0⟩
def Zz:Str:=("noted":Str) ++ (".<locals>.":Str) ++ ("<lambda>":Str)
def ls1:List (Pos × Str):=[(Y4,Zz)]
def cl1 (c0:Addr):List (Str × Addr):=[("bits",c0)]
abbrev vK (mg:Str->Option Value) (c0 c:Addr) (ct:Value):FuncData:=lamC mg Zz Q2 VJ VL (cl1 c0) c ct
theorem zbk:LamScope ["task","bits"] ["task"] ["bits"] VL:=⟨rfl,rfl,rfl,by decide +kernel,rfl,by decide +kernel,by decide +kernel,by decide +kernel,by decide +kernel⟩
theorem VM:∃ p0 p1 p2 p3,VJ=.Call (.Name "begun_note" p0) [.Name "task" p1,.Name "bits" p2] [] p3:=⟨_,_,_,_,rfl⟩
theorem clo1 {H:Hp} {c1:Addr} {v1:V} (h1:Cel H c1 v1):Clo H (cl1 c1) ["bits"] [v1]:=by
  have l1:(cl1 c1).lookup ("bits":Str)=some c1:=rfl
  refine ⟨rfl,fun p hp=>?_,fun i x v e1 e2=>?_,fun x hx=>?_,fun x y a e1 e2=>?_⟩
  · unfold cl1 at hp
    rw [List.mem_singleton.mp hp]
    exact ⟨_,h1⟩
  · match i,e1,e2 with
    | 0,e1,e2=>cases e1; cases e2; exact ⟨c1,l1,h1⟩
    | i + 1,e1,_=>simp at e1
  · rw [List.mem_singleton.mp hx]
    exact ⟨_,l1⟩
  · have m1:=PySem.mem_of_lookup e1
    have m2:=PySem.mem_of_lookup e2
    unfold cl1 at m1 m2
    rw [List.mem_singleton] at m1 m2
    exact (Prod.mk.inj m1).1.trans (Prod.mk.inj m2).1.symm
theorem Clo2.same {mg:Str->Option Value} {ns:List Str} {H H':Hp} {R:Addr->Prop} {d:Addr} {b:Bd} {f:Addr} (h:Clo2 mg ns H R d b f) (s:Same H H'):Clo2 mg ns H' R d b f:=by
  obtain ⟨c1,c2,c3,c,ct,p,wl,ps,h1,h2,⟨o3,h3⟩,⟨o4,h4⟩,⟨o5,h5⟩,n1,n2,n3,h6,h7,h8,h9⟩:=h
  exact ⟨c1,c2,c3,c,ct,p,wl,ps,s _ _ h1,s _ _ h2,⟨o3,s _ _ h3⟩,⟨o4,s _ _ h4⟩,⟨o5,s _ _ h5⟩,n1,n2,n3,h6.keep (.of s),s _ _ h7,h8,h9.keep (.of s)⟩
def zbl (mg:Str->Option Value) (T:Addr) (ns:List Str) (f:Addr) (fd:FuncData):Sp:=fun vs H Q _=>∃ (p d c0 c:Addr) (ct:Value) (b:Bd),vs=[.ref p]/\fd=vK mg c0 c ct/\H f=some (FunO f fd)/\H c=some (CodO c Zz)/\Cel H c0 (.ref d)/\IsBu H b p/\b.sz<=1000000/\TbG T ls2 H /\
  ∀ H' q l fl wl vs,KM (·=T) H H'->TbG T ls2 H'->H' q=some (.tup [.ref l,.ref fl])->H l=none->H' l=some (.lst vs)->IsKs H' b.ways vs->H wl=none->(∃ xs,H' wl=some (.lst xs))->(∀ R:Addr->Prop,R wl->Clo2 mg ns H' R d b fl)->Q (.ref q) H'
section
variable {P:Program} {w:World} {K:PySem.W.Frag} {mg:Str->Option Value} {base:Heap}
theorem Qd {T:Addr} (GB:Ca P w K mg base CX0 2 "begun_note" lS13 (xE mg T)) (ns:List Str) (f c0 c:Addr) (ct:Value):FnOk P w K mg base CX0 3 f (vK mg c0 c ct) ["task"] (zbl mg T ns f (vK mg c0 c ct)):=by
  refine YY (k:=2) zbk (fun vs H Q E h=>?_) (fun A outer s H vs Q E hr h=>?_)
  · obtain ⟨p,d,_,_,_,b,rfl,_⟩:=h
    rfl
  · obtain ⟨p,d,d1,d0,ct',b,rfl,efd,hf,hc,h1,hb,hz,hT,q⟩:=h
    have ecl:cl1 c0=cl1 d1:=congrArg FuncData.closure efd
    have ec:Value.ref c=Value.ref d0:=congrArg FuncData.code efd
    cases ec
    have e1:c0=d1:=by injection ecl with a b; exact (Prod.mk.inj a).2
    subst e1
    refine ⟨hf,hc,_,clo1 h1,?_⟩
    obtain ⟨p0,p1,p2,p3,eb⟩:=VM
    rw [eb]
    have hcA:∀ a∈(cl1 c0).map (·.2),∃ v,Cel H a v:=fun a ha=>by
      obtain ⟨p,hp,rfl⟩:=List.mem_map.mp ha
      exact (clo1 h1).all p hp
    have tp:=wJ hcA
    refine ⟨_,(cA GB hr (jA2 (jv 0) (jv 1))),?_⟩
    refine ⟨_,rfl,_,rfl,p,d,b,ns,rfl,hb.keep tp,hz,hT.keep (fun ps e=>zL hcA e (by intro _ _ _ z; cases z)) (fun c q e=>zL hcA e (by intro _ _ _ z; unfold CodO at z; cases z)),fun H' r l fl wl vs k1 T1 hr1 hl hl1 hk hwl hwl1 hclo hnn=>?_⟩
    have sp:Same H' (xM H' H ((cl1 c0).map (·.2))):=fun b u e=>Zy hnn e
    obtain ⟨xs,hwl2⟩:=hwl1
    have out:∀ {b:Addr} {u:HO},H' b=some u->yB H ((cl1 c0).map (·.2)) b=none->H b=none:=fun {b u} e n=>by
      rw [zY] at n
      · exact n
      · intro z; rw [hnn b z] at e; cases e
    refine q _ r l fl wl vs (fun b u n e=>?_) (T1.keep (fun ps e=>sp _ _ e) fun c q e=>sp _ _ e) (sp _ _ hr1) (out hl1 hl) (sp _ _ hl1) (hk.imp fun _ _ ⟨p,e,h⟩=>⟨p,e,h.keep (.of sp)⟩) (out hwl2 hwl) ⟨xs,sp _ _ hwl2⟩ fun R hR=>(hclo R hR).same sp
    by_cases z:b∈(cl1 c0).map (·.2)
    · rw [vb z]; exact e
    · rw [yy z]
      exact k1 b u n (by rw [zY z]; exact e)
theorem Qe (c0 c:Addr) (ct:Value):Binds K (vK mg c0 c ct) ["task"] []:=.all (us1 fun _=>rfl)
theorem All2.mapl {α β γ:Type} {F:α->β->Prop} {g:γ->α}:∀ {l:List γ} {m:List β},All2 (fun c b=>F (g c) b) l m->All2 F (l.map g) m
  | _,_,.nil=>.nil
  | _,_,.cons a r=>.cons a (All2.mapl r)
theorem All2.unmapl {α β γ:Type} {F:α->β->Prop} {g:γ->α}:∀ {l:List γ} {m:List β},All2 F (l.map g) m->All2 (fun c b=>F (g c) b) l m
  | [],_,.nil=>.nil
  | _ :: _,_,.cons a r=>.cons a (All2.unmapl r)
theorem VN:∀ {l:Wy} {w:List Str × Bd},w∈l->w.2.sz<=wsz l
  | p :: l,w,h=>by
    unfold wsz
    rw [List.map_cons,List.sum_cons]
    rcases List.mem_cons.mp h with rfl | h
    · lia
    · have:=VN h
      unfold wsz at this
      lia
theorem All2.memP {α β:Type} {F:α->β->Prop} {Pr:α->Prop}:∀ {l:List α} {m:List β},All2 F l m->(∀ a∈l,Pr a)->All2 (fun a b=>Pr a/\F a b) l m
  | _,_,.nil,_=>.nil
  | _,_,.cons a r,h=>.cons ⟨h _ (.head _),a⟩ (All2.memP r fun a ha=>h a (.tail _ ha))
structure NOk (mg:Str->Option Value) (T1 T2 d fl c0 cc:Addr) (ct:Value) (ns:List Str) (H:Hp):Prop where
  t1:TbG T1 ls1 H
  t2:TbG T2 ls2 H
  hd:H d=some (.dK (yi ns 1))
  f:H fl=some (FunO fl (vK mg c0 cc ct))
  c:H cc=some (CodO cc Zz)
  cel:Cel H c0 (.ref d)
theorem NOk.keep {mg:Str->Option Value} {T1 T2 d fl c0 cc:Addr} {ct:Value} {ns:List Str} {H H':Hp} (h:NOk mg T1 T2 d fl c0 cc ct ns H) (h1:TbG T1 ls1 H') (h2:TbG T2 ls2 H') (k:∀ b u,H b=some u->(∀ ps,u≠.tbl ps)->(∀ xs,u≠.lst xs)->H' b=some u):NOk mg T1 T2 d fl c0 cc ct ns H' :=
  ⟨h1,h2,k _ _ h.hd (by intro _ z; cases z) (by intro _ z; cases z),k _ _ h.f (by intro _ z; unfold FunO at z; cases z) (by intro _ z; unfold FunO at z; cases z),k _ _ h.c (by intro _ z; unfold CodO at z; cases z) (by intro _ z; unfold CodO at z; cases z),let ⟨o,e⟩:=h.cel; ⟨o,k _ _ e (by intro _ z; cases z) (by intro _ z; cases z)⟩⟩
theorem NOk.noM {mg:Str->Option Value} {T1 T2 d fl c0 cc:Addr} {ct:Value} {ns:List Str} {H:Hp} (h:NOk mg T1 T2 d fl c0 cc ct ns H) {b:Addr} {u:HO} (e:H b=some u) (n:∀ ps,u≠.tbl ps):¬ (b=T1\/b=T2):=by
  rintro (z | z)
  · obtain ⟨ps,q,_⟩:=h.t1
    rw [z,q] at e
    exact n _ (Option.some.inj e).symm
  · obtain ⟨ps,q,_⟩:=h.t2
    rw [z,q] at e
    exact n _ (Option.some.inj e).symm
theorem NOk.tups {mg:Str->Option Value} {T1 T2 d fl c0 cc:Addr} {ct:Value} {ns:List Str} {H H':Hp} {R:Addr->Prop} (h:NOk mg T1 T2 d fl c0 cc ct ns H) (z:Kz (fun b=>b=T1\/b=T2) R H H'):Tups H H':=fun b xs e=>z b _ e (h.noM e (by intro _ z; cases z)) (by intro _ z; cases z)
theorem OkBd.used {ow:Ow} {b:Bd} (h:OkBd ow b):b.used.length<=1000:=by
  cases b with
  | lt x d b=>exact h.1
  | give x=>show 1<=1000; decide
  | hold x y b=>show 1<=1000; decide
  | drop x b=>show 0<=1000; decide
  | loose x b=>show 0<=1000; decide
  | iff x a b=>show 1<=1000; decide
  | cs x as=>show 1<=1000; decide
theorem OkAs.kid {ow:Ow}:∀ {as:Arms},OkAs ow as->∀ w∈as.ways,OkBd ow w.2
  | .nil,_,w,hw=>by unfold Arms.ways at hw; cases hw
  | .cons t xs m k b r,h,w,hw=>by
    unfold Arms.ways at hw
    rcases List.mem_cons.mp hw with rfl | hw
    · exact h.1
    · exact OkAs.kid h.2 w hw
theorem OkBd.kid {ow:Ow} {b:Bd} (h:OkBd ow b):∀ w∈b.ways,OkBd ow w.2:=by
  intro w hw
  cases b with
  | give x=>cases hw
  | lt x d b=>rw [List.mem_singleton.mp hw]; exact h.2.2
  | hold x y b=>rw [List.mem_singleton.mp hw]; exact h
  | drop x b=>rw [List.mem_singleton.mp hw]; exact h
  | loose x b=>rw [List.mem_singleton.mp hw]; exact h
  | iff x a b =>
    rcases List.mem_cons.mp hw with rfl | hw
    · exact h.1
    · rw [List.mem_singleton.mp hw]; exact h.2
  | cs x as=>exact OkAs.kid h.2 w hw
def Qf {T1 T2:Addr} (nT:T1≠T2) (GB:Ca P w K mg base CX0 2 "begun_note" lS13 (xE mg T2)) (GO:Ca P w K mg base CX0 3 "note_of" lS11 wu) (d fl c0 cc:Addr) (ct:Value) (ns:List Str) (ow:Ow):WoD P w K mg base 4 where
  Tk:=Bd
  M:=fun b=>b=T1\/b=T2
  fb:=fl
  wt:=fun b=>2 * b.sz
  kids:=fun b=>b.ways.map (·.2)
  wk:=fun b=>by
    have h:=Bd.wsz b
    have e:∀ l:Wy,((l.map (·.2)).map fun b:Bd=>2 * b.sz).sum=2 * wsz l:=by
      intro l
      induction l with
      | nil=>rfl
      | cons p l ih =>
        unfold wsz at ih ⊢
        rw [List.map_cons,List.map_cons,List.map_cons,List.sum_cons,List.sum_cons,ih]
        lia
    rw [e]
    lia
  IT:=fun H _ b v=>(b.sz<=1000000/\OkBd ow b)/\∃ p,v=.ref p/\IsBd H b p
  IR:=fun H R b v=>IsN ns H R b v
  IF:=fun H R b v=>∃ f,v=.ref f/\Clo2 mg ns H R d b f
  Ok:=NOk mg T1 T2 d fl c0 cc ct ns
  itk:=fun ⟨h,p,e,hb⟩ ok z _=>⟨h,p,e,hb.keep (ok.tups z)⟩
  irk:=fun h ok z sub=>h.keep ⟨ok.tups z,fun a xs ra e=>z a _ e (ok.noM e (by intro _ z; cases z)) fun _ _=>ra,sub⟩
  ifk:=fun {H H' R R' t v} hh ok z sub=>by
    obtain ⟨f,e,c1,c2,c3,c,ct,p,wl,ps,h1,h2,⟨o3,h3⟩,⟨o4,h4⟩,⟨o5,h5⟩,n1,n2,n3,h6,h7,h8,h9⟩:=hh
    have g:∀ b u,H b=some u->(∀ ps,u≠.tbl ps)->(∀ xs,u≠.lst xs)->H' b=some u:=fun b u e n1 n2=>z b u e (ok.noM e n1) fun xs q=>absurd q (n2 xs)
    exact ⟨f,e,c1,c2,c3,c,ct,p,wl,ps,g _ _ h1 (by intro _ z; unfold FunO at z; cases z) (by intro _ z; unfold FunO at z; cases z),g _ _ h2 (by intro _ z; unfold CodO at z; cases z) (by intro _ z; unfold CodO at z; cases z),⟨o3,g _ _ h3 (by intro _ z; cases z) (by intro _ z; cases z)⟩,⟨o4,g _ _ h4 (by intro _ z; cases z) (by intro _ z; cases z)⟩,⟨o5,g _ _ h5 (by intro _ z; cases z) (by intro _ z; cases z)⟩,n1,n2,n3,h6.keep (ok.tups z),z _ _ h7 (ok.noM h7 (by intro _ z; cases z)) (fun _ _=>h8),sub _ h8,h9.keep (ok.tups z)⟩
  okk:=fun {H H'} ok z=>by
    have g:∀ b u,H b=some u->(∀ xs,u≠.lst xs)->H' b=some u:=fun b u e n=>z b u e fun xs q=>absurd q (n xs)
    exact ok.keep (ok.t1.keep (fun ps e=>g _ _ e (by intro _ z; cases z)) fun c q e=>g _ _ e (by intro _ z; unfold CodO at z; cases z)) (ok.t2.keep (fun ps e=>g _ _ e (by intro _ z; cases z)) fun c q e=>g _ _ e (by intro _ z; unfold CodO at z; cases z)) fun b u e _ n=>g b u e n
  okM:=fun {H b} ok z=>by
    rcases z with z | z
    · obtain ⟨ps,q,_⟩:=ok.t1
      rw [z,q]; simp
    · obtain ⟨ps,q,_⟩:=ok.t2
      rw [z,q]; simp
  beg:=fun {H R t v Q} ⟨⟨hz,hu⟩,p,e,hb⟩ ok hRd hRM q=>by
    subst e
    refine ⟨_,_,_,(Qd GB ns fl c0 cc ct).mono (by decide),Qe c0 cc ct,⟨p,d,c0,cc,ct,t,rfl,rfl,ok.f,ok.c,ok.cel,⟨hb,hu.used⟩,hz,ok.t2,fun H' r l f2 wl vs k1 t2 hr hl hl1 hk hwl ⟨xs,hwl1⟩ hclo=>?_⟩,.inl ok.f⟩
    have ok':NOk mg T1 T2 d fl c0 cc ct ns H':=by
      refine ok.keep (ok.t1.keep (fun ps e=>k1 _ _ nT e) fun c q e=>k1 _ _ (fun z=>ok.noM e (by intro _ z; unfold CodO at z; cases z) (.inr z)) e) t2 fun b u e n _=>k1 b u (fun z=>ok.noM e n (.inr z)) e
    refine q H' r l f2 vs (fun b=>R b\/b=l\/b=wl) (fun b u n e=>k1 b u (fun z=>n (.inr z)) e) ok' hr hl hl1 (fun _ z=>.inl z) ?_ ?_ (.inr (.inl rfl)) ?_ ⟨f2,rfl,hclo _ (.inr (.inr rfl))⟩
    · rintro b (z | rfl | rfl)
      · exact .inl z
      · exact .inr hl
      · exact .inr hwl
    · rintro b (z | rfl | rfl)
      · cases e:H b with
        | none=>exact absurd e (hRd b z)
        | some u=>rw [k1 b u (fun y=>hRM b z (.inr y)) e]; simp
      · rw [hl1]; simp
      · rw [hwl1]; simp
    · refine All2.mapl ((All2.memP hk (Pr:=fun w:List Str × Bd=>w.2.sz<=1000000/\OkBd ow w.2) fun a ha=>⟨?_,hu.kid a ha⟩).imp fun a b h=>h)
      have:=VN ha
      have:=Bd.wsz t
      lia
  fin:=fun {H R t f2 rl rs Q} hh ok hRd hRM hRr hrl hrs q=>by
    obtain ⟨f,e,c1,c2,c3,c,ct',p,wl,ps,h1,h2,h3,h4,h5,n1,n2,n3,h6,h7,h8,h9⟩:=hh
    cases e
    refine ⟨_,_,_,Qb GO ns f2 c1 c2 c3 c ct',Qc c1 c2 c3 c ct',⟨rl,d,c1,c2,c3,c,p,wl,ct',t,ps,rs,rfl,rfl,h1,h2,h3,h4,h5,n1,n2,n3,h6,h7,h9,hrl,(All2.unmapl hrs).imp fun _ _ h=>IsN.nt h,ok.hd,fun H' r s1 hr=>?_⟩,.inl h1⟩
    refine q H' (.ref r) R (.of s1) ?_ (fun _ z=>z) (fun _ z=>.inl z) ?_ (IsN.ways.mpr ⟨rs,⟨r,rl,rfl,hr,hRr,s1 _ _ hrl⟩,(All2.unmapl hrs).imp fun _ _ h=>IsN.keep ⟨.of s1,fun a xs _ e=>s1 _ _ e,fun _ z=>z⟩ h⟩)
    · exact ok.keep (ok.t1.keep (fun ps e=>s1 _ _ e) fun c q e=>s1 _ _ e) (ok.t2.keep (fun ps e=>s1 _ _ e) fun c q e=>s1 _ _ e) fun b u e _ _=>s1 b u e
    · intro b z
      cases e:H b with
      | none=>exact absurd e (hRd b z)
      | some u=>rw [s1 b u e]; simp
end
structure Tbs (T1 T2:Addr) (H:Hp):Prop where
  t1:TbG T1 ls1 H
  t2:TbG T2 ls2 H
theorem Tbs.same {T1 T2:Addr} {H H':Hp} (h:Tbs T1 T2 H) (s:Same H H'):Tbs T1 T2 H':=⟨h.t1.keep (fun ps e=>s _ _ e) fun c q e=>s _ _ e,h.t2.keep (fun ps e=>s _ _ e) fun c q e=>s _ _ e⟩
def MT (T1 T2:Addr) (b:Addr):Prop:=b=T1\/b=T2
def Y5 (T1 T2:Addr):Sp:=fun vs H Q _=>∃ (p d:Addr) (b:Bd) (ns:List Str) (ow:Ow),vs=[.ref p,.ref d]/\IsBd H b p/\(b.sz<=400000/\OkBd ow b)/\H d=some (.dK (yi ns 1))/\Tbs T1 T2 H/\∀ H' v R,KM (MT T1 T2) H H'->Tbs T1 T2 H'->IsN ns H' R b v->Q v H'
section
variable {P:Program} {w:World} {K:PySem.W.Frag} {mg:Str->Option Value} {base:Heap} {f:Addr} {fd:FuncData}
theorem scNoted:FnScope lS13 lS13 (zo wH):=.ok
theorem VO {c T1 T2:Addr} (F:FunC K "noted" wH c f fd) (hB:BMn mg base) (hc:PySem.W.codeHdIn K c T1=true) (nT:T1≠T2) (GB:Ca P w K mg base CX0 2 "begun_note" lS13 (xE mg T2)) (GO:Ca P w K mg base CX0 3 "note_of" lS11 wu) (GW:Ca P w K mg base CX0 5 "worked_out" ["task","begin"] (Zv P w K mg base 4)):FnOk P w K mg base CX0 6 f fd lS13 (Y5 T1 T2):=by
  refine F.by scNoted (fun vs H Q E h=>?_) (fun A outer s H vs Q E hr h=>?_)
  · obtain ⟨p,d,b,ns,ow,rfl,_⟩:=h
    rfl
  obtain ⟨p,d,b,ns,ow,rfl,hb,⟨hz,hu⟩,hd,hT,q⟩:=h
  refine ⟨_,
    (zi (zp (zbd (E:=E0) GW hr scNoted.nd rfl (fun _=>rfl) (jA2 (jv 0) (YW (params:=Q2) (body:=VJ) (scope:=VL) (pos:=Y4) (T:=T1) (qual:=Zz) (cl:=cl1 (s.heap.objs.size + 1)) hB rfl hc rfl))))),?_⟩
  refine ⟨_,rfl,Zt hT.t1 (by unfold ls1; exact .head _) (fun p hp _=>by unfold ls1 at hp; rw [List.mem_singleton.mp hp]) fun H1 fl cc ct k1 T1' hfl nfT ncT hfl1 hcc=>?_⟩
  have noT1:∀ {b:Addr} {u:HO},H b=some u->(∀ ps,u≠.tbl ps)->b≠T1:=fun {b u} e n z=>by
    obtain ⟨ps,h,_⟩:=hT.t1
    rw [z,h] at e
    exact n _ (Option.some.inj e).symm
  have tp1:Tups H H1:=fun b xs e=>k1 b _ (noT1 e (by intro _ z; cases z)) e
  have T2':TbG T2 ls2 H1:=hT.t2.keep (fun ps e=>k1 _ _ nT.symm e) fun c q e=>k1 _ _ (noT1 e (by intro _ z; unfold CodO at z; cases z)) e
  refine ⟨[(s.heap.objs.size + 1,.ref d)],fun x hx=>?_,fun H3 pb=>?_⟩
  · rw [List.mem_singleton.mp hx]
    exact ⟨1,"bits",rfl,rfl,rfl,.inl rfl⟩
  have s3:=Pub.same pb
  have ok3:NOk mg T1 T2 d fl (s.heap.objs.size + 1) cc ct ns H3:=⟨T1'.keep (fun ps e=>s3 _ _ e) fun c q e=>s3 _ _ e,T2'.keep (fun ps e=>s3 _ _ e) fun c q e=>s3 _ _ e,s3 _ _ (k1 _ _ (noT1 hd (by intro _ z; cases z)) hd),s3 _ _ hfl1,s3 _ _ hcc,pb.cel (_,_) (.head _)⟩
  refine ⟨Qf nT GB GO d fl (s.heap.objs.size + 1) cc ct ns ow,.ref p,b,fun _=>False,rfl,⟨⟨by lia,hu⟩,p,rfl,hb.keep (tp1.trans (.of s3))⟩,ok3,fun _ z=>z.elim,fun _ z=>z.elim,?_,.inl ⟨⟨_,ok3.f⟩,ok3.noM ok3.f (by intro _ z; unfold FunO at z; cases z)⟩,fun H4 v R' k4 ok4 _ hv hcel=>?_⟩
  · show 2 * b.sz<=1000000
    lia
  have hcA:∀ a∈([(s.heap.objs.size + 1,V.ref d)]:List (Addr × V)).map (·.1),∃ v,Cel H4 a v:=fun a ha=>by
    obtain ⟨x,hx,rfl⟩:=List.mem_map.mp ha
    exact ⟨_,hcel x hx⟩
  refine q _ v R' (fun b u n e=>?_) ⟨ok4.t1.keep (fun ps e=>zL hcA e (by intro _ _ _ z; cases z)) fun c q e=>zL hcA e (by intro _ _ _ z; unfold CodO at z; cases z),ok4.t2.keep (fun ps e=>zL hcA e (by intro _ _ _ z; cases z)) fun c q e=>zL hcA e (by intro _ _ _ z; unfold CodO at z; cases z)⟩ (IsN.keep ⟨wJ hcA,fun a xs _ e=>zL hcA e (by intro _ _ _ z; cases z),fun _ z=>z⟩ hv)
  have e1:=k1 b u (fun z=>n (.inl z)) e
  rw [zY]
  · exact k4 b u n (s3 _ _ e1)
  · intro z
    obtain ⟨x,hx,rfl⟩:=List.mem_map.mp z
    rw [pb.non x hx] at e1
    cases e1
end
mutual
def TwB (ow:Ow):List Str->Bd->Prop
  | _,.give _=>True
  | l,.lt x d b=>((zI d).length<=1000/\OkD ow d/\(yM ow d).length=(zI d).length)/\TwB ow (x :: l) b
  | l,.hold x _ b=>TwB ow (x :: l) b
  | l,.drop _ b=>TwB ow l b
  | l,.loose _ b=>TwB ow l b
  | l,.iff _ b c=>TwB ow l b/\TwB ow l c
  | l,.cs x as=>x∈l/\as.l.length<=1000/\TwA ow l as
def TwA (ow:Ow):List Str->Arms->Prop
  | _,.nil=>True
  | l,.cons _ ns m _ b r=>(m="look"\/m="take")/\TwB ow (ns ++ l) b/\TwA ow l r
end
mutual
theorem TwB.ok {ow:Ow}:∀ {b:Bd} {l:List Str},TwB ow l b->OkBd ow b
  | .give _,_,_=>trivial
  | .lt _ _ _,_,h=>⟨h.1.1,h.1.2.1,TwB.ok h.2⟩
  | .hold _ _ b,_,h=>TwB.ok (b:=b) h
  | .drop _ b,_,h=>TwB.ok (b:=b) h
  | .loose _ b,_,h=>TwB.ok (b:=b) h
  | .iff _ _ _,_,h=>⟨TwB.ok h.1,TwB.ok h.2⟩
  | .cs _ _,_,h=>⟨h.2.1,TwA.ok h.2.2⟩
theorem TwA.ok {ow:Ow}:∀ {as:Arms} {l:List Str},TwA ow l as->OkAs ow as
  | .nil,_,_=>trivial
  | .cons _ _ _ _ _ _,_,h=>⟨TwB.ok h.2.1,TwA.ok h.2.2⟩
end
mutual
theorem TwB.mono {ow:Ow}:∀ {b:Bd} {l l':List Str},TwB ow l b->(∀ x∈l,x∈l')->TwB ow l' b
  | .give _,_,_,_,_=>trivial
  | .lt x _ b,_,_,h,s=>⟨h.1,TwB.mono (b:=b) h.2 fun y hy=>(List.mem_cons.mp hy).elim (fun e=>e ▸ .head _) fun e=>.tail _ (s y e)⟩
  | .hold x _ b,_,_,h,s=>TwB.mono (b:=b) h fun y hy=>(List.mem_cons.mp hy).elim (fun e=>e ▸ .head _) fun e=>.tail _ (s y e)
  | .drop _ b,_,_,h,s=>TwB.mono (b:=b) h s
  | .loose _ b,_,_,h,s=>TwB.mono (b:=b) h s
  | .iff _ _ _,_,_,h,s=>⟨TwB.mono h.1 s,TwB.mono h.2 s⟩
  | .cs _ _,_,_,h,s=>⟨s _ h.1,h.2.1,TwA.mono h.2.2 s⟩
theorem TwA.mono {ow:Ow}:∀ {as:Arms} {l l':List Str},TwA ow l as->(∀ x∈l,x∈l')->TwA ow l' as
  | .nil,_,_,_,_=>trivial
  | .cons _ ns _ _ _ _,_,_,h,s=>⟨h.1,TwB.mono h.2.1 fun y hy=>List.mem_append.mpr ((List.mem_append.mp hy).imp id (s y)),TwA.mono h.2.2 s⟩
end
def yN (ow:Ow):Bd->List Str
  | .lt _ d _=>(((zI d).zip (yM ow d)).filter (·.2)).map (·.1)
  | .drop x _=>[x]
  | _=>[]
def jl (ns:List Str) (x m:Str):Nat:=if m="take" then bitN ns x else 0
def kidH (ow:Ow) (ns:List Str) (h:Nat):Bd->List Nat
  | .cs x as=>as.l.map fun q=>dif h (jl ns x q.m) ||| tog ns q.ns
  | b=>b.ways.map fun w=>dif h (tog ns (yN ow b)) ||| tog ns w.1
def plc:Bd->Bool
  | .hold _ _ _=>true
  | .drop _ _=>true
  | .loose _ _=>true
  | _=>false
def xf (b:Bd) (h m:Nat):Bool:=plc b || decide (dif h m=0)
theorem zD {b:Bool} {A B:Prop} (e:b=true) (h:A):if b=true then A else B:=by rw [if_pos e]; exact h
def IsBs (H:Hp) (l:List Bd) (ps:List Addr):Prop:=All2 (IsBd H) l ps
theorem IsBs.keep {H H':Hp} {l:List Bd} {ps:List Addr} (h:IsBs H l ps) (t:Tups H H'):IsBs H' l ps:=All2.imp h fun _ _ e=>e.keep t
def jm:Sp:=fun vs H Q _=>∃ (p:Addr) (b:Bd),vs=[.ref p]/\IsBd H b p/\b.sz<=1000000/\∀ H' r ps,Same H H'->H r=none->H' r=some (.lst (ps.map V.ref))->IsBs H' (b.ways.map (·.2)) ps->Q (.ref r) H'
def Y6:Sp:=fun vs H Q _=>∃ (pa:Addr) (n:Nat) (x y:V) (m:Str) (r:List V),vs=[.ref pa,.int (n:Nat)]/\H pa=some (.tup (x :: y :: .str m :: r))/\Q (.int ((if m="take" then n else 0:Nat):Int)) H
def Y7:Sp:=fun vs H Q _=>∃ (od p:Addr) (ow:Ow) (b:Bd) (l:List Str),vs=[.ref od,.ref p]/\IsBd H b p/\OwAt H od ow/\TwB ow l b/\∀ H' r,Same H H'->H r=none->H' r=some (.lst ((yN ow b).map V.str))->Q (.ref r) H'
def ZA:Sp:=fun vs H Q _=>∃ (p:Addr) (b:Bd) (v:V) (m h:Nat),vs=[.ref p,v,.int (h:Nat)]/\IsBd H b p/\Nt H m v/\∀ H',Same H H'->Q (.bl (xf b h m)) H'
def jn:Sp:=fun vs H Q _=>∃ (od d p:Addr) (ow:Ow) (ns:List Str) (b:Bd) (h:Nat) (l:List Str),vs=[.ref od,.ref d,.ref p,.int (h:Nat)]/\IsBd H b p/\OwAt H od ow/\H d=some (.dK (yi ns 1))/\TwB ow l b/\(∀ x∈l,x∈ns)/\b.sz<=1000000 /\
  ∀ H' r,Same H H'->H r=none->H' r=some (.lst ((kidH ow ns h b).map fun n=>V.int (n:Nat)))->Q (.ref r) H'
section
variable {P:Program} {w:World} {K:PySem.W.Frag} {mg:Str->Option Value} {base:Heap} {f:Addr} {fd:FuncData}
theorem XQ:FnScope ["body"] ["body"] (zo yR):=.ok
theorem XR:(["body","way"]:List Str).Nodup:=by decide +kernel
theorem Yk (F:Fun K "bodies_within" "bodies_within" yR f fd) (GW:Ca P w K mg base CX0 1 "ways_on" ["body"] vE):FnOk P w K mg base CX0 2 f fd ["body"] jm:=by
  refine F.by XQ (fun vs H Q E h=>?_) (fun cdv A outer s H vs Q E hr h=>?_)
  · obtain ⟨p,b,rfl,_⟩:=h
    rfl
  obtain ⟨p,b,rfl,hb,hz,q⟩:=h
  refine ⟨_,(zi (zp (zW ["way"] rfl (zP (cA GW hr (jA1 (jv 0)))) (fun _ _ _ _ _=>(gN 1 XR)) (fun _ _ _ _ _=>zV) (fun _ _ _ _ _=>(yx (yh K) (jv 1) zj (fun _ _=>rfl)))))),?_⟩
  have sl:=zK
  refine ⟨_,rfl,p,b,rfl,hb,hz,fun H1 wl ps s1 hwl hwl1 hy=>?_⟩
  have yl:=hy.len
  have wl1:=xb b.ways
  have wl2:=Bd.wsz b
  refine ⟨wl,rfl,⟨_,SqL.of hwl1⟩,ym (xs:=ps.map V.ref) (fun j τ ys H'=>H1=H'/\(∃ v,τ=[some (.ref p),v])/\∃ rs:List Addr,ys=rs.map V.ref/\IsBs H1 ((b.ways.take j).map (·.2)) rs) ⟨rfl,⟨none,rfl⟩,[],rfl,.nil⟩ (fun j τ ys H' _ h=>SqL.of (h.1 ▸ hwl1)) ?_ ?_⟩
  · rintro j v τ ys H2 hv ⟨rfl,⟨v',rfl⟩,rs,rfl,hk⟩
    rw [List.getElem?_map] at hv
    obtain ⟨pw,hpw,rfl⟩:=Option.map_eq_some_iff.mp hv
    obtain ⟨xs,b',q1,r1,e1,e2,e3,e4⟩:=hy.get hpw
    have kl:=All2.len hk
    rw [List.length_map,List.length_take] at kl
    refine ⟨_,rfl,ixT e2 aI1 ⟨by have:=(List.getElem?_eq_some_iff.mp e1).1; rw [List.length_map]; lia,rfl,⟨_,rfl⟩,rs ++ [r1],by simp,?_⟩⟩
    rw [List.take_add_one,e1]
    show IsBs _ (((b.ways.take j) ++ [(xs,b')]).map (·.2)) _
    rw [List.map_append]
    exact All2.app hk (.cons e4 .nil)
  rintro τ ys H2 ⟨rfl,_,rs,rfl,hk⟩ l hl
  rw [List.length_map,<- yl,List.take_of_length_le (Nat.le_refl _)] at hk
  exact q _ l rs (s1.new hl) (s1.free hl) zf (hk.keep (.of (zh hl _)))
theorem Qg:FnScope ["arm","bit"] ["arm","bit"] (zo vy):=.ok
theorem VP (F:Fun K "taken_by" "taken_by" vy f fd):FnOk P w K mg base CX0 1 f fd ["arm","bit"] Y6:=by
  refine F.by Qg (fun vs H Q E h=>?_) (fun cdv A outer s H vs Q E hr h=>?_)
  · obtain ⟨pa,n,x,y,m,r,rfl,_⟩:=h
    rfl
  obtain ⟨pa,n,x,y,m,r,rfl,hp,q⟩:=h
  refine ⟨_,(zi (zp (WH (tN zA (xT 0) zq) (jv 1) zj))),?_⟩
  refine ⟨_,rfl,ixT hp aI2 ⟨rfl,_,rfl,?_⟩⟩
  by_cases c:m="take"
  · rw [if_pos c] at q
    exact zD (decide_eq_true (congrArg V.str c)) ⟨_,rfl,q⟩
  · rw [if_neg c] at q
    exact iteE (decide_eq_false fun z=>c (V.str.inj z)) q
theorem Qh:FnScope ["owns","body"] ["owns","body"] (zo vz):=.ok
theorem Y8:(["owns","body","name","end"]:List Str).Nodup:=by decide +kernel
theorem VQ (F:Fun K "spent_by" "spent_by" vz f fd) (GN':Ca P w K mg base CX0 1 "names_of" ["deed"] xB) (GU:Ca P w K mg base CX0 2 "used_up" ["deed","owns"] Zn) (m_zip:mg "zip"=none):FnOk P w K mg base CX0 3 f fd ["owns","body"] Y7:=by
  refine F.by Qh (fun vs H Q E h=>?_) (fun cdv A outer s H vs Q E hr h=>?_)
  · obtain ⟨od,p,ow,b,l,rfl,_⟩:=h
    rfl
  obtain ⟨od,p,ow,b,l,rfl,hb,ho,ht,q⟩:=h
  have hr1:Room 1 _:=hr.mono (by decide)
  refine ⟨_,
    (zg (zx (tN zA (xT 1) zq)
      (zi (zp (zW ["name","end"] rfl (xS rfl m_zip (jA2 (cA GN' hr1 (jA1 (xT 1))) (cA GU hr (jA2 (xT 1) (jv 0))))) (fun _ _ _ _ _=>(xa K (n:=2) rfl (zw (gN 2 Y8) (zw (gN 3 Y8) z6)))) (fun _ _ _ _ _=>(ya (zS (jv 3)))) (fun _ _ _ _ _=>(jv 2))))) zr)
    (zg (zx (tN zA (xT 1) zq)
      (zi (zp (zB (jA1 (xT 1))))) zr)
    (zi (zp (zB zE))))),?_⟩
  have sl:=zK
  by_cases hd:(∃ x d b',b=.lt x d b')\/∃ x b',b=.drop x b'
  · rcases hd with ⟨x,d,b',rfl⟩ | ⟨x,b',rfl⟩
    · obtain ⟨p1,p2,hp,hI,_⟩:=hb
      obtain ⟨⟨h1,h2,h3⟩,_⟩:=ht
      refine ⟨_,rfl,ixT hp aI0 ⟨rfl,_,rfl,iteT ?_⟩⟩
      refine ⟨_,rfl,ixT hp aI2 ⟨p1,d,rfl,hI,h1,fun H1 r1 s1 g1=>?_⟩⟩
      refine ⟨_,rfl,ixT (s1 _ _ hp) aI2 ⟨_,rfl,p1,od,d,ow,rfl,hI.keep (.of s1),h1,ho.same s1,h2,fun H2 r2 s2 g2=>?_⟩⟩
      have s12:=s1.trans s2
      refine ⟨r1,r2,false,false,_,_,rfl,SqK.t (s2 _ _ g1),SqK.t g2,wI (k:=false) (m:=false) (xs:=(zI d).map V.str) (ys:=(yM ow d).map V.bl) (by rw [List.length_map,List.length_map,h3]) (fun i τ zs H'=>Same H2 H'/\(∃ y y',τ=[some (.ref od),some (.ref p),y,y'])/\∃ us:List Str,zs=us.map V.str/\us.length<=i/\us=(((((zI d).zip (yM ow d)).take i).filter (·.2)).map (·.1))) ⟨Same.refl _,⟨none,none,rfl⟩,[],rfl,Nat.le_refl _,rfl⟩ (fun i τ zs H' _ h=>⟨SqK.t (h.1 _ _ (s2 _ _ g1)),SqK.t (h.1 _ _ g2)⟩) ?_ ?_⟩
      · rintro i x y T τ zs H' hx hy hT ⟨s7,⟨y1,y2,rfl⟩,us,rfl,ul,he⟩
        rw [List.getElem?_map] at hx hy
        obtain ⟨n,hn',rfl⟩:=Option.map_eq_some_iff.mp hx
        obtain ⟨b,hb',rfl⟩:=Option.map_eq_some_iff.mp hy
        have hi:i < (zI d).length:=(List.getElem?_eq_some_iff.mp hn').1
        have hz:((zI d).zip (yM ow d))[i]?=some (n,b):=List.getElem?_zip_eq_some.mpr ⟨hn',hb'⟩
        have tk:((zI d).zip (yM ow d)).take (i + 1)=((zI d).zip (yM ow d)).take i ++ [(n,b)]:=by rw [List.take_add_one,hz]; rfl
        rw [tk,List.filter_append,List.map_append,<- he]
        cases b with
        | false=>exact ⟨T,_,rfl,SqT.of zf,rfl,_,_,rfl,_,_,rfl,rfl,_,rfl,_,rfl,iteF ⟨s7.new hT,⟨_,_,rfl⟩,us,rfl,by lia,by simp⟩⟩
        | true=>exact ⟨T,_,rfl,SqT.of zf,rfl,_,_,rfl,_,_,rfl,rfl,_,rfl,_,rfl,iteT ⟨_,rfl,by rw [List.length_map]; lia,s7.new hT,⟨_,_,rfl⟩,us ++ [n],by rw [List.map_append]; rfl,by rw [List.length_append]; show us.length + 1<=_; lia,by simp⟩⟩
      rintro τ zs H7 ⟨s7,_,us,rfl,ul,he⟩ l7 h7
      rw [List.length_map,List.take_of_length_le (by rw [List.length_zip]; lia)] at he
      subst he
      exact q _ l7 ((s12.trans s7).new h7) ((s12.trans s7).free h7) zf
    · obtain ⟨p1,hp,_⟩:=hb
      refine ⟨_,rfl,ixT hp aI0 ⟨rfl,_,rfl,iteF (nxtC ?_)⟩⟩
      refine ⟨_,rfl,ixT hp aI0 ⟨rfl,_,rfl,iteT ?_⟩⟩
      exact ⟨_,rfl,ixT hp aI1 ⟨sN1,fun r hr=>q _ r (zh hr _) hr zf⟩⟩
  · obtain ⟨t,xs,hp,t1,t2,e⟩:∃ (t:Str) (xs:List V),H p=some (.tup (.str t :: xs))/\t≠"let"/\t≠"drop"/\yN ow b=[]:=by
      cases b with
      | give x=>exact ⟨_,_,hb,by decide,by decide,rfl⟩
      | lt x d b=>exact absurd (.inl ⟨_,_,_,rfl⟩) hd
      | hold x y b=>obtain ⟨p1,hp,_⟩:=hb; exact ⟨_,_,hp,by decide,by decide,rfl⟩
      | drop x b=>exact absurd (.inr ⟨_,_,rfl⟩) hd
      | loose x b=>obtain ⟨p1,hp,_⟩:=hb; exact ⟨_,_,hp,by decide,by decide,rfl⟩
      | iff x b c=>obtain ⟨p1,p2,hp,_⟩:=hb; exact ⟨_,_,hp,by decide,by decide,rfl⟩
      | cs x as=>obtain ⟨p1,p2,hp,_⟩:=hb; exact ⟨_,_,hp,by decide,by decide,rfl⟩
    refine ⟨_,rfl,ixT hp aI0 ⟨rfl,_,rfl,iteE (decide_eq_false fun z=>t1 (V.str.inj z)) (nxtC ?_)⟩⟩
    refine ⟨_,rfl,ixT hp aI0 ⟨rfl,_,rfl,iteE (decide_eq_false fun z=>t2 (V.str.inj z)) (nxtC ?_)⟩⟩
    exact ⟨sN0,fun r hr=>q _ r (zh hr _) hr (by rw [e]; exact zf)⟩
theorem VR:FnScope lS17 lS17 (zo xq):=.ok
theorem XS (F:Fun K "tight_place" "tight_place" xq f fd):FnOk P w K mg base CX0 1 f fd lS17 ZA:=by
  refine F.by VR (fun vs H Q E h=>?_) (fun cdv A outer s H vs Q E hr h=>?_)
  · obtain ⟨p,b,v,m,h,rfl,_⟩:=h
    rfl
  obtain ⟨p,b,v,m,h,rfl,hb,⟨qn,ln,rfl,hn⟩,q⟩:=h
  refine ⟨_,(zi (zp (YG (z0 xA (xT 0) (zv (jA3 zq zq zq)) (by with_unfolding_all rfl)) (xR (z0 zA (zu vc (jv 2) (j1 (xT 1))) zj (yq _)))))),?_⟩
  have sl:=zK
  obtain ⟨t,xs,hp,e⟩:∃ (t:Str) (xs:List V),H p=some (.tup (.str t :: xs))/\inV (V.str t) [V.str "hold",V.str "drop",V.str "loose"]=plc b:=by
    cases b with
    | give x=>exact ⟨_,_,hb,show inV (V.str "give") [V.str "hold",V.str "drop",V.str "loose"]=false by decide⟩
    | lt x d b=>obtain ⟨p1,p2,hp,_⟩:=hb; exact ⟨_,_,hp,show inV (V.str "let") [V.str "hold",V.str "drop",V.str "loose"]=false by decide⟩
    | hold x y b=>obtain ⟨p1,hp,_⟩:=hb; exact ⟨_,_,hp,show inV (V.str "hold") [V.str "hold",V.str "drop",V.str "loose"]=true by decide⟩
    | drop x b=>obtain ⟨p1,hp,_⟩:=hb; exact ⟨_,_,hp,show inV (V.str "drop") [V.str "hold",V.str "drop",V.str "loose"]=true by decide⟩
    | loose x b=>obtain ⟨p1,hp,_⟩:=hb; exact ⟨_,_,hp,show inV (V.str "loose") [V.str "hold",V.str "drop",V.str "loose"]=true by decide⟩
    | iff x b c=>obtain ⟨p1,p2,hp,_⟩:=hb; exact ⟨_,_,hp,show inV (V.str "if") [V.str "hold",V.str "drop",V.str "loose"]=false by decide⟩
    | cs x as=>obtain ⟨p1,p2,hp,_⟩:=hb; exact ⟨_,_,hp,show inV (V.str "case") [V.str "hold",V.str "drop",V.str "loose"]=false by decide⟩
  refine ⟨_,rfl,ixT hp aI0 ⟨sN3,fun t0 h0=>?_⟩⟩
  have s0:=zh (o:=.tup [.str "hold",.str "drop",.str "loose"]) h0
  refine ⟨t0,_,rfl,.inr (SqT.of zf),rfl,?_⟩
  refine ⟨rfl,_,rfl,?_⟩
  have e':(if false=true then !inV (V.str t) [V.str "hold",V.str "drop",V.str "loose"] else inV (V.str t) [V.str "hold",V.str "drop",V.str "loose"])=plc b:=e
  cases c:plc b with
  | true =>
    refine zD (e'.trans c) ?_
    have:=q _ s0
    unfold xf at this
    rw [c,Bool.true_or] at this
    exact this
  | false =>
    refine iteE (e'.trans c) ?_
    refine ⟨_,rfl,_,rfl,ixT (s0 _ _ hn) aI0 ⟨_,rfl,_,_,rfl,rfl,rfl,?_⟩⟩
    have:=q _ s0
    unfold xf at this
    rw [c,Bool.false_or] at this
    show Q (V.bl (decide (V.int (Builtin.bitAnd (h:Int) (Builtin.bitNot (m:Int)))=V.int 0))) _
    rw [xt,show decide (V.int ((dif h m:Nat):Int)=V.int 0)=decide (dif h m=0) by
      congr 1
      rw [V.int.injEq,Int.natCast_eq_zero]]
    exact this
theorem scHWithin:FnScope ["owns","bits","body","held","rest"] lS16 (zo xr):=.ok
theorem zbP:(["owns","bits","body","held","rest","arm"]:List Str).Nodup:=by decide +kernel
theorem zbQ:(["owns","bits","body","held","rest","way"]:List Str).Nodup:=by decide +kernel
theorem Yl (F:Fun K "held_within" "held_within" xr f fd) (GT:Ca P w K mg base CX0 1 "together" lS19 Y0) (GK:Ca P w K mg base CX0 1 "taken_by" ["arm","bit"] Y6) (GS:Ca P w K mg base CX0 3 "spent_by" ["owns","body"] Y7) (GW:Ca P w K mg base CX0 1 "ways_on" ["body"] vE):FnOk P w K mg base CX0 4 f fd lS16 jn:=by
  refine F.by scHWithin (fun vs H Q E h=>?_) (fun cdv A outer s H vs Q E hr h=>?_)
  · obtain ⟨od,d,p,ow,ns,b,h,l,rfl,_⟩:=h
    rfl
  obtain ⟨od,d,p,ow,ns,b,h,l,rfl,hb,ho,hd,ht,hl,hz,q⟩:=h
  have hr1:Room 1 _:=hr.mono (by decide)
  refine ⟨_,
    (zg (zx (tN zA (xT 2) zq)
      (zi (zp (zW ["arm"] rfl (yr (xT 2)) (fun _ _ _ _ _=>(gN 5 zbP)) (fun _ _ _ _ _=>zV) (fun _ _ _ _ _=>(zu vI (zu vc (jv 3) (j1 (cA GK hr1 (jA2 (jv 5) (jZ hr1 (jv 1) (yx (yh K) (jv 2) zj (fun _ _=>rfl))))))) (cA GT hr1 (jA2 (yx (yh K) (jv 5) zj (fun _ _=>rfl)) (jv 1)))))))) zr)
    (zg (sE 4 scHWithin.nd (zu vc (jv 3) (j1 (cA GT hr1 (jA2 (cA GS hr (jA2 (jv 0) (jv 2))) (jv 1))))))
    (zi (zp (zW ["way"] rfl (zP (cA GW hr1 (jA1 (jv 2)))) (fun _ _ _ _ _=>(gN 5 zbQ)) (fun _ _ _ _ _=>zV) (fun _ _ _ _ _=>(zu vI (jv 4) (cA GT hr1 (jA2 (yx (yh K) (jv 5) zj (fun _ _=>rfl)) (jv 1)))))))))),?_⟩
  have sl:=zK
  by_cases hc:∃ x as,b=.cs x as
  · obtain ⟨x,as,rfl⟩:=hc
    obtain ⟨p1,ts,hp,h1,hA⟩:=hb
    obtain ⟨t1,t2,t3⟩:=ht
    have al:=hA.len
    have hbx:valV (yi ns 1) (.inr x)=some (.int ((bitN ns x:Nat):Int)):=by rw [yX,if_pos (hl x t1),Nat.one_mul]
    refine ⟨_,rfl,ixT hp aI0 ⟨rfl,_,rfl,iteT ?_⟩⟩
    refine ⟨_,rfl,ixT hp aI2 ⟨p1,rfl,⟨_,SqT.of h1⟩,vv (xs:=ts.map V.ref) (fun j τ ys H'=>H=H'/\(∃ v,τ=[some (.ref od),some (.ref d),some (.ref p),some (.int (h:Nat)),none,v])/\ys=((as.l.take j).map fun q=>V.int ((dif h (jl ns x q.m) ||| tog ns q.ns:Nat):Int))) ⟨rfl,⟨none,rfl⟩,rfl⟩ (fun j τ ys H' _ h=>SqT.of (h.1 ▸ h1)) ?_ ?_⟩⟩
    · rintro j v τ ys H2 hv ⟨rfl,⟨v',rfl⟩,rfl⟩
      rw [List.getElem?_map] at hv
      obtain ⟨pw,hpw,rfl⟩:=Option.map_eq_some_iff.mp hv
      obtain ⟨a,q1,r1,e1,e2,e3,e4⟩:=hA.get hpw
      have hj:=(List.getElem?_eq_some_iff.mp e1).1
      refine ⟨_,rfl,_,rfl,_,rfl,_,rfl,ixT hp aI1 ⟨d,_,rfl,(by rw [<- hbx]; exact DGet.k (k:=.inr x) hd),pw,bitN ns x,_,_,a.m,_,rfl,e2,?_⟩⟩
      refine ⟨_,rfl,_,_,rfl,rfl,_,rfl,ixT e2 aI1 ⟨_,rfl,q1,d,a.ns,ns,rfl,.inl e3,hd,_,_,rfl,rfl,?_,rfl,⟨_,rfl⟩,?_⟩⟩
      · rw [List.length_map,List.length_take]
        lia
      · rw [List.take_add_one,e1,List.map_append]
        show _ ++ [V.int (Builtin.bitOr (Builtin.bitAnd _ (Builtin.bitNot _)) _)]=_
        rw [xt,xD]
        rfl
    · rintro τ ys H2 ⟨rfl,_,rfl⟩ r hr
      rw [List.length_map,al,List.take_of_length_le (Nat.le_refl _)]
      refine q _ r (zh hr _) hr ?_
      rw [zf]
      unfold kidH
      rw [List.map_map]
      rfl
  · obtain ⟨t,xs,hp,t1,e⟩:∃ (t:Str) (xs:List V),H p=some (.tup (.str t :: xs))/\t≠"case"/\kidH ow ns h b=b.ways.map fun w=>dif h (tog ns (yN ow b)) ||| tog ns w.1:=by
      cases b with
      | give x=>exact ⟨_,_,hb,by decide,rfl⟩
      | lt x d b=>obtain ⟨p1,p2,hp,_⟩:=hb; exact ⟨_,_,hp,by decide,rfl⟩
      | hold x y b=>obtain ⟨p1,hp,_⟩:=hb; exact ⟨_,_,hp,by decide,rfl⟩
      | drop x b=>obtain ⟨p1,hp,_⟩:=hb; exact ⟨_,_,hp,by decide,rfl⟩
      | loose x b=>obtain ⟨p1,hp,_⟩:=hb; exact ⟨_,_,hp,by decide,rfl⟩
      | iff x b c=>obtain ⟨p1,p2,hp,_⟩:=hb; exact ⟨_,_,hp,by decide,rfl⟩
      | cs x as=>exact absurd ⟨_,_,rfl⟩ hc
    refine ⟨_,rfl,ixT hp aI0 ⟨rfl,_,rfl,iteE (decide_eq_false fun z=>t1 (V.str.inj z)) (nxtC ?_)⟩⟩
    refine ⟨_,rfl,_,rfl,_,rfl,od,p,ow,b,l,rfl,hb,ho,ht,fun H1 r1 s1 f1 h1=>?_⟩
    refine ⟨_,rfl,r1,d,_,ns,rfl,.inr h1,s1 _ _ hd,_,rfl,_,_,rfl,rfl,?_⟩
    refine ⟨_,rfl,p,b,rfl,hb.keep (.of s1),hz,fun H2 wl ps s2 hwl hwl1 hy=>?_⟩
    have s12:=s1.trans s2
    have yl:=hy.len
    have wl1:=xb b.ways
    have wl2:=Bd.wsz b
    have en:Builtin.bitAnd (h:Int) (Builtin.bitNot ((tog ns (yN ow b):Nat):Int))=((dif h (tog ns (yN ow b)):Nat):Int):=xt _ _
    refine ⟨wl,rfl,⟨_,SqL.of hwl1⟩,ym (xs:=ps.map V.ref) (fun j τ ys H'=>H2=H'/\(∃ v,τ=[some (.ref od),some (.ref d),some (.ref p),some (.int (h:Nat)),some (.int (Builtin.bitAnd (h:Int) (Builtin.bitNot ((tog ns (yN ow b):Nat):Int)))),v])/\ys=((b.ways.take j).map fun w=>V.int ((dif h (tog ns (yN ow b)) ||| tog ns w.1:Nat):Int))) ⟨rfl,⟨none,rfl⟩,rfl⟩ (fun j τ ys H' _ h=>SqL.of (h.1 ▸ hwl1)) ?_ ?_⟩
    · rintro j v τ ys H3 hv ⟨rfl,⟨v',rfl⟩,rfl⟩
      rw [List.getElem?_map] at hv
      obtain ⟨pw,hpw,rfl⟩:=Option.map_eq_some_iff.mp hv
      obtain ⟨xs',b',q1,r1',e1,e2,e3,e4⟩:=hy.get hpw
      have hj:=(List.getElem?_eq_some_iff.mp e1).1
      refine ⟨_,rfl,_,rfl,ixT e2 aI0 ⟨_,rfl,q1,d,xs',ns,rfl,.inl e3,s12 _ _ hd,_,_,rfl,rfl,?_,rfl,⟨_,rfl⟩,?_⟩⟩
      · rw [List.length_map,List.length_take]
        lia
      · rw [List.take_add_one,e1,List.map_append]
        show _ ++ [V.int (Builtin.bitOr (Builtin.bitAnd _ (Builtin.bitNot _)) _)]=_
        rw [xt,xD]
        rfl
    · rintro τ ys H3 ⟨rfl,_,rfl⟩ r hr
      rw [List.length_map,<- yl,List.take_of_length_le (Nat.le_refl _)]
      refine q _ r (s12.new hr) (s12.free hr) ?_
      rw [zf,e,List.map_map]
      rfl
end
end GN
namespace L2
open PySem PySem.Spec PyProof.Rows
abbrev xu (h:Heap) (T:Addr) (a b c:Value):Prop:=h.get? T=some { cls:=.type "tuple",data:=.seq #[a,b,c] }
theorem vL (a b c:Value):checkTypeCall "zip" ⟨[a,b,c],[]⟩=pure ():=by kernel_rfl
theorem vV (a b c:Value):checkBuiltinCall "zip.__new__" ⟨[.type "zip",a,b,c],[]⟩=pure ():=by kernel_rfl
theorem xY (a b c d:Value):argsOk "object.__init__" ⟨[a,b,c,d],[]⟩:=by
  unfold argsOk; rw [signature?_of (id:="object.__init__") (n:=['_','_','t','i','n','i','_','_']) (o:=['t','c','e','j','b','o']) (by kernel_rfl) F.owner_object]; kernel_rfl
abbrev yb (k m e:Bool) (h:Heap) (l r t:Addr):Heap:=za e (zb k m h l r) t
abbrev yc (k m e:Bool) (h:Heap) (l r t:Addr):Heap:=(yb k m e h l r t).push { cls:=.type "tuple",data:=.seq #[.ref h.objs.size,.ref (za k h l).objs.size,.ref (zb k m h l r).objs.size] }
abbrev yd (k m e:Bool) (h:Heap) (l r t:Addr):Heap:=(yc k m e h l r t).push { cls:=.type "tuple",data:=.seq #[.none,.none,.none] }
abbrev ye (k m e:Bool) (h:Heap) (l r t:Addr):Heap:=(yd k m e h l r t).push { cls:=.type "zip",data:=.fields #[.none,.bool false,.bool false,.ref (yb k m e h l r t).objs.size,.ref (yc k m e h l r t).objs.size] }
theorem XT (k m e:Bool) (l r t:Addr) (xs ys zs:Array Value):Meets (Builtin.«zip.__new__» ⟨[.type "zip",.ref l,.ref r,.ref t],[]⟩)
    (fun _ R s=>Sq k s.heap l xs/\Sq m s.heap r ys/\Sq e s.heap t zs/\R (.ok (.ret (.ref (yd k m e s.heap l r t).objs.size))) { s with heap:=ye k m e s.heap l r t }) :=
  .of_wp fun prog w A R s h=>by
    obtain ⟨hp,g,d,tk,os⟩:=s
    obtain ⟨h1,h2,h3,h⟩:=h
    have hs:=sub_zip
    have q1:Sq k (Shared.heap ⟨hp,g,d,tk,os⟩) l xs:=h1
    have q2:Sq m (Shared.heap ⟨za k hp l,g,d,tk,os⟩) r ys:=h2.at fun o e=>Heap.get?_push_of_some _ e
    have q3:Sq e (Shared.heap ⟨zb k m hp l r,g,d,tk,os⟩) t zs:=h3.at fun o e=>Heap.get?_push_of_some _ (Heap.get?_push_of_some _ e)
    wp_walk using wo q1,wo q2,wo q3
    exact ⟨_,rfl,h⟩
structure Z3 (k m e:Bool) (h:Heap) (B l r t:Nat) (n:Nat) (f g:Value):Prop where
  z:h.get? (B + 5)=some { cls:=.type "zip",data:=.fields #[f,g,.bool false,.ref (B + 3),.ref (B + 4)] }
  ti:xu h (B + 3) (.ref B) (.ref (B + 1)) (.ref (B + 2))
  to:∃ a b c,xu h (B + 4) a b c
  i:SqI k h B l n
  j:SqI m h (B + 1) r n
  p:SqI e h (B + 2) t n
theorem Z3.at {k m e:Bool} {h h':Heap} {B l r t:Nat} {n:Nat} {f g:Value} (x:Z3 k m e h B l r t n f g) (y:∀ (b:Nat) o,B<=b->b<=B + 5->h.get? b=some o->h'.get? b=some o):Z3 k m e h' B l r t n f g where
  z:=y _ _ (by lia) (by lia) x.z
  ti:=y _ _ (by lia) (by lia) x.ti
  to:=let ⟨a,b,c,q⟩:=x.to; ⟨a,b,c,y _ _ (by lia) (by lia) q⟩
  i:=x.i.at fun o=>y _ o (by lia) (by lia)
  j:=x.j.at fun o=>y _ o (by lia) (by lia)
  p:=x.p.at fun o=>y _ o (by lia) (by lia)
def Kept3 (B:Nat) (h h':Heap):Prop:=∀ (c:Nat) o,(c < B\/B + 5 < c)->h.get? c=some o->h'.get? c=some o
section
variable {P:Program} {w:World} {A:Around} {E:Value->Shared->Prop} {s:Shared} {k m e:Bool} {B l r t:Nat} {n:Nat} {xs ys zs:Array Value} {x y u f g:Value}
theorem j2 {T:Addr} {a b c x:Value} {k:Nat} {Q:Unit->Shared->Prop} (hT:xu s.heap T a b c)
    (h:∀ h',h'.get? T=some { cls:=.type "tuple",data:=.seq ((#[a,b,c]:Array Value).setIfInBounds k x) }->Heap.SameBut T s.heap h'->Q () { s with heap:=h' }) :
    wpAny (model P w) A (updateSeq T (·.setIfInBounds k x)) Q E s:=by
  refine wpAny_updateSeq hT rfl (h _ ?_ (Heap.SameBut.update ..))
  rw [Heap.get?_update_self _ hT rfl]
  simp [Obj.mapSeq]
theorem XU {Q:Value->Shared->Prop} (hl:Sq k s.heap l xs) (hr:Sq m s.heap r ys) (ht:Sq e s.heap t zs)
    (q:∀ h',Z3 k m e h' s.heap.objs.size l r t 0 .none (.bool false)->h'.objs.size=s.heap.objs.size + 6->(∀ c o,s.heap.get? c=some o->h'.get? c=some o)->Q (.ref (s.heap.objs.size + 5)) { s with heap:=h' }) :
    wpAny (model P w) A (call (.type "zip") [.ref l,.ref r,.ref t]) Q E s:=by
  apply callType_new F.called_zip (by decide) (vL _ _ _) (vV _ _ _) (fun obj=>xY obj _ _ _) F.entry_zip_new (XT k m e l r t xs ys zs)
  refine ⟨hl,hr,ht,?_⟩
  have s1:(za k s.heap l).objs.size=s.heap.objs.size + 1:=Heap.size_push ..
  have s2:(zb k m s.heap l r).objs.size=s.heap.objs.size + 2:=by rw [Heap.size_push,s1]
  have s3:(yb k m e s.heap l r t).objs.size=s.heap.objs.size + 3:=by rw [Heap.size_push,s2]
  have s4:(yc k m e s.heap l r t).objs.size=s.heap.objs.size + 4:=by rw [Heap.size_push,s3]
  have s5:(yd k m e s.heap l r t).objs.size=s.heap.objs.size + 5:=by rw [Heap.size_push,s4]
  have s6:(ye k m e s.heap l r t).objs.size=s.heap.objs.size + 6:=by rw [Heap.size_push,s5]
  have up:∀ {c o},(yd k m e s.heap l r t).get? c=some o->(ye k m e s.heap l r t).get? c=some o:=fun e=>Heap.get?_push_of_some _ e
  have p6:(ye k m e s.heap l r t).get? (yd k m e s.heap l r t).objs.size=some _:=Heap.get?_push_size _ rfl
  have p5:(ye k m e s.heap l r t).get? (yc k m e s.heap l r t).objs.size=some _:=up (Heap.get?_push_size _ rfl)
  have p4:(ye k m e s.heap l r t).get? (yb k m e s.heap l r t).objs.size=some _:=up (Heap.get?_push_of_some _ (Heap.get?_push_size _ rfl))
  have p3:(ye k m e s.heap l r t).get? (zb k m s.heap l r).objs.size=some _:=up (Heap.get?_push_of_some _ (Heap.get?_push_of_some _ (Heap.get?_push_size _ rfl)))
  have p2:(ye k m e s.heap l r t).get? (za k s.heap l).objs.size=some _:=up (Heap.get?_push_of_some _ (Heap.get?_push_of_some _ (Heap.get?_push_of_some _ (Heap.get?_push_size _ rfl))))
  have p1:(ye k m e s.heap l r t).get? s.heap.objs.size=some _:=up (Heap.get?_push_of_some _ (Heap.get?_push_of_some _ (Heap.get?_push_of_some _ (Heap.get?_push_of_some _ (Heap.get?_push_size _ rfl)))))
  rw [s5,s3,s4] at p6
  rw [s4] at p5
  rw [s3,s1,s2] at p4
  rw [s2] at p3
  rw [s1] at p2
  show _/\_
  rw [s5]
  exact ⟨⟨_,p6,rfl⟩,q _ ⟨p6,p4,⟨_,_,_,p5⟩,.of ⟨_,p1,rfl,rfl⟩,.of ⟨_,p2,rfl,rfl⟩,.of ⟨_,p3,rfl,rfl⟩⟩ s6 fun c o e=>up (Heap.get?_push_of_some _ (Heap.get?_push_of_some _ (Heap.get?_push_of_some _ (Heap.get?_push_of_some _ (Heap.get?_push_of_some _ e)))))⟩
theorem XV {Q:Value->Shared->Prop} (Z:Z3 k m e s.heap B l r t n .none g) (hl:Sq k s.heap l xs) (hr:Sq m s.heap r ys) (ht:Sq e s.heap t zs) (ll:l < B) (rl:r < B) (tl:t < B) (hx:xs[n]?=some x) (hy:ys[n]?=some y) (hu:zs[n]?=some u)
    (q:∀ h',Z3 k m e h' B l r t (n + 1) (rawInt s.heap.objs.size) (.bool false)->xu h' s.heap.objs.size x y u->h'.objs.size=s.heap.objs.size + 1->Kept3 B s.heap h'->Q (.ref s.heap.objs.size) { s with heap:=h' }) :
    wpAny (model P w) A (Builtin.«zip.__next__» ⟨[.ref (B + 5)],[]⟩) (fun fin s'=>∃ v,fin=.done (.ret v)/\Q v s') E s:=by
  obtain ⟨a,b,c0,hto⟩:=Z.to
  refine wpAny_bind (m:=field (.ref (B + 5)) 2) (wpAny_field Z.z rfl (x:=.bool false) rfl ?_)
  refine wpAny_bind (m:=field (.ref (B + 5)) 3) (wpAny_field Z.z rfl (x:=.ref (B + 3)) rfl (wpAny_bind (wpAny_seqItems Z.ti rfl ?_)))
  refine wpAny_bind (m:=Builtin.SmallTypes.ownedTupleIsFree (.ref (B + 5))) ?_
  unfold Builtin.SmallTypes.ownedTupleIsFree
  refine wpAny_bind (wpAny_field Z.z rfl (x:=.none) rfl (wpAny_pure ?_))
  rw [if_pos rfl]
  refine wpAny_bind (wpAny_rule (wpAny_bind (wpAny_field Z.z rfl (x:=.ref (B + 4)) rfl (wpAny_bind (wpAny_setField_rec Z.z (by simp) fun h1 z1 u1=>wpAny_bind ?_)))))
  replace z1:h1.get? (B + 5)=some { cls:=.type "zip",data:=.fields #[.ellipsis,g,.bool false,.ref (B + 3),.ref (B + 4)] }:=z1
  have k1:∀ (c:Nat) o,c≠B + 5->s.heap.get? c=some o->h1.get? c=some o:=fun c o n e=>(u1.2 c n).trans e
  simp only [List.zipIdx_cons,List.zipIdx_nil,List.forIn_cons,List.forIn_nil]
  refine wpAny_bind (wpAny_bind (wpAny_onRaise (wpAny_bind (m:=Builtin.SmallTypes.nextOf (.ref B)) ?_)))
  refine yZ (Z.i.at fun o=>k1 _ o (by lia)) (hl.at fun o=>k1 _ o (by lia)) hx fun h2 i2 u2=>wpAny_pure ?_
  have k2:∀ (c:Nat) o,c≠B->h1.get? c=some o->h2.get? c=some o:=fun c o n e=>(u2.2 c n).trans e
  have to2:xu h2 (B + 4) a b c0:=k2 _ _ (by lia) (k1 _ _ (by lia) hto)
  refine wpAny_bind (wpAny_seqItems to2 rfl (wpAny_bind (j2 to2 fun h3 to3 u3=>?_)))
  replace to3:xu h3 (B + 4) x b c0:=to3
  have k3:∀ (c:Nat) o,c≠B + 4->h2.get? c=some o->h3.get? c=some o:=fun c o n e=>(u3.2 c n).trans e
  refine wpAny_bind (wpAny_letGo (wpAny_pure (wpAny_bind (wpAny_bind (wpAny_onRaise (wpAny_bind (m:=Builtin.SmallTypes.nextOf (.ref (B + 1))) ?_))))))
  have k13:∀ (c:Nat) o,c≠B + 5->c≠B->c≠B + 4->s.heap.get? c=some o->h3.get? c=some o:=fun c o a1 a2 a3 e=>k3 _ o a3 (k2 _ o a2 (k1 _ o a1 e))
  refine yZ (Z.j.at fun o e=>k13 _ o (by lia) (by lia) (by lia) e) (hr.at fun o e=>k13 _ o (by lia) (by lia) (by lia) e) hy fun h4 i4 u4=>wpAny_pure ?_
  have k4:∀ (c:Nat) o,c≠B + 1->h3.get? c=some o->h4.get? c=some o:=fun c o n e=>(u4.2 c n).trans e
  have to4:xu h4 (B + 4) x b c0:=k4 _ _ (by lia) to3
  refine wpAny_bind (wpAny_seqItems to4 rfl (wpAny_bind (j2 to4 fun h5 to5 u5=>?_)))
  replace to5:xu h5 (B + 4) x y c0:=to5
  have k5:∀ (c:Nat) o,c≠B + 4->h4.get? c=some o->h5.get? c=some o:=fun c o n e=>(u5.2 c n).trans e
  refine wpAny_bind (wpAny_letGo (wpAny_pure (wpAny_bind (wpAny_bind (wpAny_onRaise (wpAny_bind (m:=Builtin.SmallTypes.nextOf (.ref (B + 2))) ?_))))))
  have k15:∀ (c:Nat) o,c≠B + 5->c≠B->c≠B + 4->c≠B + 1->s.heap.get? c=some o->h5.get? c=some o:=fun c o a1 a2 a3 a4 e=>k5 _ o a3 (k4 _ o a4 (k13 _ o a1 a2 a3 e))
  refine yZ (Z.p.at fun o e=>k15 _ o (by lia) (by lia) (by lia) (by lia) e) (ht.at fun o e=>k15 _ o (by lia) (by lia) (by lia) (by lia) e) hu fun h6 i6 u6=>wpAny_pure ?_
  have k6:∀ (c:Nat) o,c≠B + 2->h5.get? c=some o->h6.get? c=some o:=fun c o n e=>(u6.2 c n).trans e
  have to6:xu h6 (B + 4) x y c0:=k6 _ _ (by lia) to5
  refine wpAny_bind (wpAny_seqItems to6 rfl (wpAny_bind (j2 to6 fun h7 to7 u7=>?_)))
  replace to7:xu h7 (B + 4) x y u:=to7
  have k7:∀ (c:Nat) o,c≠B + 4->h6.get? c=some o->h7.get? c=some o:=fun c o n e=>(u7.2 c n).trans e
  refine wpAny_bind (wpAny_letGo (wpAny_pure (wpAny_pure (wpAny_bind (wpAny_seqItems to7 rfl (wpAny_bind (wpAny_newTuple ?_)))))))
  have sz:h7.objs.size=s.heap.objs.size:=by rw [u7.1,u6.1,u5.1,u4.1,u3.1,u2.1,u1.1]
  have z7:h7.get? (B + 5)=some { cls:=.type "zip",data:=.fields #[.ellipsis,g,.bool false,.ref (B + 3),.ref (B + 4)] }:=k7 _ _ (by lia) (k6 _ _ (by lia) (k5 _ _ (by lia) (k4 _ _ (by lia) (k3 _ _ (by lia) (k2 _ _ (by lia) z1)))))
  have lt5:B + 5 < h7.objs.size:=Heap.lt_size z7
  refine wpAny_bind (m:=Builtin.SmallTypes.ownedTupleHandOut (.ref (B + 5)) (.ref h7.objs.size)) ?_
  unfold Builtin.SmallTypes.ownedTupleHandOut
  refine wpAny_bind (wpAny_setField_rec (Heap.get?_push_of_some { cls:=.type "tuple",data:=.seq #[x,y,u] } z7) (by simp) fun h8 z8 u8=>?_)
  refine wpAny_setField_rec z8 (by simp) fun h9 z9 u9=>wpAny_pure ⟨.ref h7.objs.size,rfl,?_⟩
  have k9:∀ (c:Nat) o,c≠B + 5->h7.get? c=some o->h9.get? c=some o:=fun c o n e=>(u9.2 c n).trans ((u8.2 c n).trans (Heap.get?_push_of_some _ e))
  have p9:xu h9 h7.objs.size x y u:=(u9.2 _ (Nat.ne_of_gt lt5)).trans ((u8.2 _ (Nat.ne_of_gt lt5)).trans (Heap.get?_push_size _ rfl))
  have s9:h9.objs.size=h7.objs.size + 1:=by rw [u9.1,u8.1,Heap.size_push]
  rw [sz] at p9 s9 ⊢
  have k39:∀ (c:Nat) o,c≠B + 5->c≠B + 4->c≠B + 1->c≠B + 2->h2.get? c=some o->h9.get? c=some o:=fun c o a1 a2 a3 a4 e=>k9 _ _ a1 (k7 _ _ a2 (k6 _ _ a4 (k5 _ _ a2 (k4 _ _ a3 (k3 _ _ a2 e)))))
  refine q h9 ⟨?_,k39 _ _ (by lia) (by lia) (by lia) (by lia) (k2 _ _ (by lia) (k1 _ _ (by lia) Z.ti)),⟨x,y,u,k9 _ _ (by lia) to7⟩,
    i2.at fun o e=>k39 _ _ (by lia) (by lia) (by lia) (by lia) e,i4.at fun o e=>k9 _ _ (by lia) (k7 _ _ (by lia) (k6 _ _ (by lia) (k5 _ _ (by lia) e))),i6.at fun o e=>k9 _ _ (by lia) (k7 _ _ (by lia) e)⟩ p9 s9
    fun c o hc e=>k39 _ _ (by lia) (by lia) (by lia) (by lia) (k2 _ _ (by lia) (k1 _ _ (by lia) e))
  rw [<- sz]
  exact z9
theorem VS {Q:PySem.Fin->Shared->Prop} (hA:A.handled=none) (Z:Z3 k m e s.heap B l r t n .none g) (hl:Sq k s.heap l xs) (ll:l < B) (hx:xs[n]?=none)
    (q:∀ h' v,Kept3 B s.heap h'->(∃ o,h'.get? v=some o/\o.cls=.type "StopIteration")->E (.ref v) { s with heap:=h' }):wpAny (model P w) A (Builtin.«zip.__next__» ⟨[.ref (B + 5)],[]⟩) Q E s:=by
  obtain ⟨a,b,c0,hto⟩:=Z.to
  refine wpAny_bind (m:=field (.ref (B + 5)) 2) (wpAny_field Z.z rfl (x:=.bool false) rfl ?_)
  refine wpAny_bind (m:=field (.ref (B + 5)) 3) (wpAny_field Z.z rfl (x:=.ref (B + 3)) rfl (wpAny_bind (wpAny_seqItems Z.ti rfl ?_)))
  refine wpAny_bind (m:=Builtin.SmallTypes.ownedTupleIsFree (.ref (B + 5))) ?_
  unfold Builtin.SmallTypes.ownedTupleIsFree
  refine wpAny_bind (wpAny_field Z.z rfl (x:=.none) rfl (wpAny_pure ?_))
  rw [if_pos rfl]
  refine wpAny_bind (wpAny_rule (wpAny_bind (wpAny_field Z.z rfl (x:=.ref (B + 4)) rfl (wpAny_bind (wpAny_setField_rec Z.z (by simp) fun h1 z1 u1=>wpAny_bind ?_)))))
  replace z1:h1.get? (B + 5)=some { cls:=.type "zip",data:=.fields #[.ellipsis,g,.bool false,.ref (B + 3),.ref (B + 4)] }:=z1
  have k1:∀ (c:Nat) o,c≠B + 5->s.heap.get? c=some o->h1.get? c=some o:=fun c o n e=>(u1.2 c n).trans e
  have nz:∀ {h:Heap} {e:Nat} {v:Value} {o:Obj},h.get? (B + 5)=some { cls:=.type "zip",data:=.fields #[v,g,.bool false,.ref (B + 3),.ref (B + 4)] }->h.get? e=some o->o.cls=.type "StopIteration"->e≠B + 5:=fun h1 h2 h3 e=>by
    rw [e,h1] at h2
    cases h2
    simp at h3
  simp only [List.zipIdx_cons,List.zipIdx_nil,List.forIn_cons,List.forIn_nil]
  refine wpAny_bind (wpAny_bind (wpAny_onRaise (wpAny_bind (m:=Builtin.SmallTypes.nextOf (.ref B)) ?_)))
  refine vt hA (Z.i.at fun o=>k1 _ o (by lia)) (hl.at fun o=>k1 _ o (by lia)) hx fun h2 e u2 he=>?_
  obtain ⟨oe,he,ce⟩:=he
  have k2:∀ (c:Nat) o,c≠B->h1.get? c=some o->h2.get? c=some o:=fun c o n e=>u2 c o n e
  have z2:=k2 _ _ (show B + 5≠B by lia) z1
  refine wpAny_setField_rec z2 (by simp) fun h3 z3 u3=>q h3 e (fun c o hc x=>(u3.2 c (show (c:Nat)≠B + 5 by lia)).trans (k2 _ _ (by lia) (k1 _ _ (by lia) x))) ⟨oe,(u3.2 e (nz z2 he ce)).trans he,ce⟩
theorem XW {Q:Option Value->Shared->Prop} (hA:A.handled=none) (Z:Z3 k m e s.heap B l r t n .none g) (hl:Sq k s.heap l xs) (ll:l < B) (hx:xs[n]?=none)
    (q:∀ h',Kept3 B s.heap h'->Q none { s with heap:=h' }):wpAny (model P w) A (pyNext (.ref (B + 5))) Q E s:=by
  have ty:s.TypeIs (.ref (B + 5)) "zip":=⟨_,Z.z,rfl⟩
  unfold pyNext
  refine wpAny_bind (wpAny_attempt (wpAny_callSpecial?_slot ty F.slot_zip_next (wpAny_call_entry F.slot_zip_next ty F.entry_zip_next ?_ (F.args_zip_next_1 (.ref (B + 5))))))
  refine VS hA Z hl ll hx fun h' e kz ⟨o,ho,hc⟩=>?_
  exact wpAny_bind (wpAny_isInstance (T:="StopIteration") (b:=true) ⟨o,ho,hc⟩ isSubtype_stop (wpAny_pure (q _ kz)))
end
def It3 (K:PySem.W.Frag) (k m e:Bool) (a b c:Addr):It :=
  ⟨fun i H=>∃ xs ys zs x y z,SqK k K H a xs/\SqK m K H b ys/\SqK e K H c zs/\xs[i]?=some x/\ys[i]?=some y/\zs[i]?=some z,
   fun i H v H'=>∃ T x y z,v=.ref T/\H T=none/\H'=upd H T (.tup [x,y,z])/\(∀ xs,SqK k K H a xs->xs[i]?=some x)/\(∀ ys,SqK m K H b ys->ys[i]?=some y)/\∀ zs,SqK e K H c zs->zs[i]?=some z,
   fun i H=>∃ xs,SqK k K H a xs/\xs.length<=i⟩
def fp3 (B:Nat):List Nat:=[B,B + 1,B + 2,B + 3,B + 4,B + 5]
theorem Qi {B c:Nat} (h:c∈fp3 B):B<=c/\c<=B + 5:=by
  unfold fp3 at h
  simp only [List.mem_cons,List.not_mem_nil,or_false] at h
  lia
theorem Ym {B c:Nat} (h:B<=c) (h':c<=B + 5):c∈fp3 B:=by
  unfold fp3
  simp only [List.mem_cons,List.not_mem_nil,or_false]
  lia
theorem Kept3.of {B:Nat} {h h':Heap} (z:Kept3 B h h'):∀ (b:Nat) o,b ∉ fp3 B->h.get? b=some o->h'.get? b=some o:=fun b o n e=>z b o (by
  by_cases c:b < B
  · exact .inl c
  · by_cases d:B + 5 < b
    · exact .inr d
    · exact absurd (Ym (by lia) (by lia)) n) e
theorem ZB {k m e:Bool} {h:Heap} {B l r t n:Nat} {f g:Value} (Z:Z3 k m e h B l r t n f g):∀ b∈fp3 B,∃ o,h.get? b=some o/\∀ v,o.data≠.cell v:=by
  intro b hb
  unfold fp3 at hb
  simp only [List.mem_cons,List.not_mem_nil,or_false] at hb
  rcases hb with rfl | rfl | rfl | rfl | rfl | rfl
  · obtain ⟨o,e,_,d⟩:=Z.i.ex
    exact ⟨o,e,fun v z=>by rw [d] at z; cases z⟩
  · obtain ⟨o,e,_,d⟩:=Z.j.ex
    exact ⟨o,e,fun v z=>by rw [d] at z; cases z⟩
  · obtain ⟨o,e,_,d⟩:=Z.p.ex
    exact ⟨o,e,fun v z=>by rw [d] at z; cases z⟩
  · exact ⟨_,Z.ti,fun v z=>by cases z⟩
  · obtain ⟨x,y,u,e⟩:=Z.to
    exact ⟨_,e,fun v z=>by cases z⟩
  · exact ⟨_,Z.z,fun v z=>by cases z⟩
theorem XX {P:Program} {w:World} {K:PySem.W.Frag} {elts:List Expr} {n:Nat} {pos:Pos} {k m e:Bool} {a b c:Addr} {B:Nat} (la:(a:Nat) < B) (lb:(b:Nat) < B) (lc:(c:Nat) < B) :
    Turn P w K (.Tuple elts n pos) (It3 K k m e a b c) (fp3 B) (B + 5) (fun i h=>Z3 k m e h B a b c i .none (.bool false)) where
  mem:=by unfold fp3; simp
  obj:=fun i h st=>ZB st
  keep:=fun i h h' st kp=>st.at fun c o h1 h2 e=>kp c (Ym h1 h2) o e
  item:=by
    intro X hP hw hK hc i pins s σ H E I hf st hg
    subst hP hw hK
    obtain ⟨xs,ys,zs,x,y,z,h1,h2,g3,hx,hy,hz⟩:=hg
    obtain ⟨i1,v1,q1,z1,l1⟩:=I.sqk h1
    obtain ⟨i2,v2,q2,z2,l2⟩:=I.sqk h2
    obtain ⟨i3,v3,q3,z3,l3⟩:=I.sqk g3
    obtain ⟨u,eu,ru⟩:=v1.get hx
    obtain ⟨v,ev,rv⟩:=v2.get hy
    obtain ⟨t,et,rt⟩:=v3.get hz
    have ty:s.TypeIs (.ref (B + 5)) "zip":=⟨_,st.z,rfl⟩
    unfold pyNext
    refine wpAny_bind (wpAny_attempt (wpAny_callSpecial?_slot ty F.slot_zip_next (wpAny_call_entry F.slot_zip_next ty F.entry_zip_next ?_ (F.args_zip_next_1 (.ref (B + 5))))))
    refine XV st q1 q2 q3 la lb lc (by simpa using eu) (by simpa using ev) (by simpa using et) fun h' zz p sz kz=>wpAny_pure ⟨_,rfl,?_⟩
    have new:ObjOk X.prog X.w (upd H s.heap.objs.size (.tup [x,y,z])) h' s.heap.objs.size (.tup [x,y,z]):=⟨sN3,[u,v,t],.cons ru (.cons rv (.cons rt .nil)),⟨_,p,rfl,rfl,_,rfl⟩⟩
    have I1:Inv X pins σ (upd H s.heap.objs.size (.tup [x,y,z])) { s with heap:=h' }:=I.turnsLaid (t':=s.toks) (ch:=fp3 B) kz.of hf (Nat.le_refl _) new
    have hn:∀ c∈fp3 B,upd H s.heap.objs.size (.tup [x,y,z]) c=none:=fun c hc=>by
      obtain ⟨o,e,_⟩:=ZB st c hc
      rw [zk (Nat.ne_of_lt (Heap.lt_size e))]
      exact (hf c hc).1
    have hf1:∀ c∈fp3 B,FpOk X pins (upd H s.heap.objs.size (.tup [x,y,z])) c:=fun c hc=>⟨hn c hc,(hf c hc).2⟩
    refine wpAny_letOwnedTupleGo_zip zz.z fun h3 z2 u2=>?_
    have I2:Inv X pins σ (upd H s.heap.objs.size (.tup [x,y,z])) { s with heap:=h3 }:=Inv.turns (s:={ s with heap:=h' }) (t':=s.toks) (ch:=fp3 B) I1 (fun c o hc e=>(u2.2 c fun z=>hc (by rw [z]; exact Ym (by lia) (by lia))).trans e) hf1
    refine ⟨.ref s.heap.objs.size,_,I2,rfl,⟨_,x,y,z,rfl,I.fresh,rfl,fun zs hz=>by rw [I.sqk_inj hz h1]; exact hx,fun zs hz=>by rw [I.sqk_inj hz h2]; exact hy,fun ws hw=>by rw [I.sqk_inj hw g3]; exact hz⟩,?_,hn⟩
    have up:∀ (c:Nat) o,c≠B + 5->h'.get? c=some o->h3.get? c=some o:=fun c o n e=>(u2.2 c n).trans e
    exact ⟨z2,up _ _ (by lia) zz.ti,let ⟨c,d,f,e⟩:=zz.to; ⟨c,d,f,up _ _ (by lia) e⟩,zz.i.at fun o e=>up _ _ (by lia) e,zz.j.at fun o e=>up _ _ (by lia) e,zz.p.at fun o e=>up _ _ (by lia) e⟩
  done:=by
    intro X hP hw hK hc i pins s σ H E I hf st hg
    subst hP hw hK
    obtain ⟨xs,h1,hl⟩:=hg
    obtain ⟨i1,v1,q1,z1,l1⟩:=I.sqk h1
    have n1:=v1.length
    exact XW (I.ok.hd hc) st q1 la (by simp; lia) fun h' kz=>⟨rfl,I.turns (t':=s.toks) (ch:=fp3 B) kz.of hf⟩
  self:=fun _ _ _ _ _ st h=>by
    have ty:Shared.TypeIs _ (.ref (B + 5)) "zip":=⟨_,st.z,rfl⟩
    exact wpAny_pyIter_slot ty F.slot_zip_iter (wpAny_call_entry F.slot_zip_iter ty F.entry_zip_iter (wpAny_pure ⟨_,rfl,"zip",_,ty,F.slot_zip_next.lookup,h⟩) (F.args_zip_iter_1 (.ref (B + 5))))
theorem zbR {x y z:V} {us:List Value} (r:Vals [x,y,z] us):∃ u v t,us=[u,v,t]/\RelV x u/\RelV y v/\RelV z t:=by
  cases r with
  | cons r1 r2 =>
    cases r2 with
    | cons r3 r4 =>
      cases r4 with
      | cons r5 r6=>cases r6; exact ⟨_,_,_,rfl,r1,r3,r5⟩
section
variable {X:Cx} {elts:List Expr} {n:Nat} {tpos:Pos}
def Q3 (K:PySem.W.Frag) (ta:TA):TI:=fun σ H R=>ta σ H fun vs H1=>∃ a b c k m e xs ys zs,vs=[.ref a,.ref b,.ref c]/\SqK k K H1 a xs/\SqK m K H1 b ys/\SqK e K H1 c zs/\R (It3 K k m e a b c) H1
theorem Qj {a b c:Expr} {ta:TA} {p pos:Pos} (hg:Gl X "zip") (hm:X.mg "zip"=none) (ha:PA X [a,b,c] ta) (h1:starEach [a,b,c] X.env=[(false,eval a X.env),(false,eval b X.env),(false,eval c X.env)]:=by rfl) (h2:starEach [b,c] X.env=[(false,eval b X.env),(false,eval c X.env)]:=by rfl) :
    PI X (.Tuple elts n tpos) (.Call (.Name "zip" p) [a,b,c] [] pos) (Q3 X.K ta):=by
  intro pins s σ H R I h
  refine Call_ (xh I hg hm boot_zip (PyProof.Rows.callWith_type1 (thn (ha pos pins s σ H _ I h) fun us s1 g=>?_) (by rw [h1,h2]) (by rw [h2]; rfl)))
  obtain ⟨vs,H1,I1,r1,a1,b1,c1,k,m,e,xs,ys,zs,rfl,g1,g2,g3,q⟩:=g
  obtain ⟨u,u',u'',rfl,e1,e2,e3⟩:=zbR r1
  cases e1
  cases e2
  cases e3
  obtain ⟨i1,v1,q1,z1,l1⟩:=I1.sqk g1
  obtain ⟨i2,v2,q2,z2,l2⟩:=I1.sqk g2
  obtain ⟨i3,v3,q3,z3,l3⟩:=I1.sqk g3
  refine XU q1 q2 q3 fun h' Z sz kp=>?_
  have tz:=XX (P:=X.prog) (w:=X.w) (K:=X.K) (elts:=elts) (n:=n) (pos:=tpos) (k:=k) (m:=m) (e:=e) l1 l2 l3
  refine tz.self X.A 0 { s1 with heap:=h' } _ _ Z ⟨s1.heap.objs.size + 5,_,_,_,H1,rfl,I1.kept (t':=s1.toks) kp,tz,Z,fun c hc=>?_,q⟩
  have le:s1.heap.objs.size<=c:=(Qi hc).1
  exact I1.fpOk le (I1.hok.fresh le)
theorem Qk {a b c:Expr} {t:TA} {p pos:Pos} (hg:Gl X "zip") (hm:X.mg "zip"=none) (ha:jA X [a,b,c] t) (h1:zt a=false:=by rfl) (h2:zt b=false:=by rfl) (h3:zt c=false:=by rfl):jI X (.Tuple elts n tpos) (.Call (.Name "zip" p) [a,b,c] [] pos) (Q3 X.K t) :=
  ⟨Qj hg hm ha.out (by rw [zy h1,zy h2,zy h3]; rfl) (by rw [zy h2,zy h3]; rfl)⟩
end
theorem VT {K:PySem.W.Frag} {k m e:Bool} {a b c:Addr} {xs ys zs:List V} {g:TG} {tb:TS} {D:Ends} {σ:St} {H:Hp} (hlen:xs.length=ys.length) (hlen':xs.length=zs.length) (Pv:Nat->St->Hp->Prop) (h0:Pv 0 σ H) (hl:∀ i σ H,i<=xs.length->Pv i σ H->SqK k K H a xs/\SqK m K H b ys/\SqK e K H c zs)
    (hs:∀ i x y z T σ H,xs[i]?=some x->ys[i]?=some y->zs[i]?=some z->H T=none->Pv i σ H->g (.ref T) σ (upd H T (.tup [x,y,z])) fun σ2 H2=>tb { D with nx:=Pv (i + 1),ct:=Pv (i + 1),bk:=D.nx } σ2 H2) (hd:∀ σ H,Pv xs.length σ H->D.nx σ H) :
    ∃ W:Nat->Nat->St->Hp->Prop,(∃ m,W 0 m σ H)/\∀ i n σ H,W i n σ H ->
      ((It3 K k m e a b c).stop i H/\D.nx σ H)\/((It3 K k m e a b c).go i H/\∃ N:St->Hp->Prop,(∀ σ' H',N σ' H'->∃ m',m' < n/\W (i + 1) m' σ' H')/\∀ x H',(It3 K k m e a b c).yld i H x H'->g x σ H' fun σ2 H2=>tb { D with nx:=N,ct:=N,bk:=D.nx } σ2 H2):=by
  refine ⟨fun i m σ H=>m=xs.length - i/\i<=xs.length/\Pv i σ H,⟨xs.length,by simp,Nat.zero_le _,h0⟩,?_⟩
  rintro i n σ H ⟨rfl,hi,p⟩
  obtain ⟨q1,q2,q3⟩:=hl i σ H hi p
  by_cases hlt:i < xs.length
  · refine .inr ⟨⟨xs,ys,zs,xs[i],ys[i]'(by lia),zs[i]'(by lia),q1,q2,q3,by simp [hlt],by simp [<- hlen,hlt],by simp [<- hlen',hlt]⟩,Pv (i + 1),fun σ' H' p'=>⟨xs.length - (i + 1),by lia,rfl,hlt,p'⟩,fun x H' y=>?_⟩
    obtain ⟨T,x,y,z,rfl,hT,rfl,e1,e2,e3⟩:=y
    exact hs i x y z T σ H (e1 xs q1) (e2 ys q2) (e3 zs q3) hT p
  · have e:i=xs.length:=by lia
    subst e
    exact .inl ⟨⟨xs,q1,Nat.le_refl _⟩,hd σ H p⟩
end L2
namespace GN
open PySem L2 K11
mutual
def tiB (ow:Ow) (ns:List Str):Bd->Nat->Bool
  | .give x,h=>decide (dif h ((Bd.give x).mk ns)=0)
  | .lt x d b,h=>decide (dif h ((Bd.lt x d b).mk ns)=0) && tiB ow ns b (dif h (tog ns (yN ow (.lt x d b))) ||| tog ns [x])
  | .hold x _ b,h=>tiB ow ns b (dif h (tog ns []) ||| tog ns [x])
  | .drop x b,h=>tiB ow ns b (dif h (tog ns [x]) ||| tog ns [])
  | .loose _ b,h=>tiB ow ns b (dif h (tog ns []) ||| tog ns [])
  | .iff x b c,h=>decide (dif h ((Bd.iff x b c).mk ns)=0) && (tiB ow ns b (dif h (tog ns []) ||| tog ns []) && tiB ow ns c (dif h (tog ns []) ||| tog ns []))
  | .cs x as,h=>decide (dif h ((Bd.cs x as).mk ns)=0) && tiA ow ns x as h
def tiA (ow:Ow) (ns:List Str) (x:Str):Arms->Nat->Bool
  | .nil,_=>true
  | .cons _ xs m _ b r,h=>tiB ow ns b (dif h (jl ns x m) ||| tog ns xs) && tiA ow ns x r h
end
theorem Y9 {ow:Ow} {ns:List Str} {x:Str} {h:Nat}:∀ as:Arms,tiA ow ns x as h=((as.ways.map (·.2)).zip (as.l.map fun q=>dif h (jl ns x q.m) ||| tog ns q.ns)).all fun q=>tiB ow ns q.1 q.2
  | .nil=>by unfold tiA Arms.ways; rfl
  | .cons t xs m k b r=>by
    unfold tiA Arms.ways Arms.l
    rw [Y9 r]
    rfl
theorem VU {ow:Ow} {ns:List Str} (b:Bd) (h:Nat):tiB ow ns b h=(xf b h (b.mk ns) && ((b.ways.map (·.2)).zip (kidH ow ns h b)).all fun q=>tiB ow ns q.1 q.2):=by
  cases b with
  | give x=>rw [tiB]; unfold Bd.ways xf plc; simp
  | lt x d b=>rw [tiB]; unfold Bd.ways kidH xf plc; simp [Bd.ways]
  | hold x y b=>rw [tiB]; unfold Bd.ways kidH xf plc; simp [Bd.ways,yN]
  | drop x b=>rw [tiB]; unfold Bd.ways kidH xf plc; simp [Bd.ways,yN]
  | loose x b=>rw [tiB]; unfold Bd.ways kidH xf plc; simp [Bd.ways,yN]
  | iff x b c=>rw [tiB]; unfold Bd.ways kidH xf plc; simp [Bd.ways,yN]
  | cs x as=>rw [tiB,Y9]; unfold Bd.ways kidH xf plc; simp
theorem VV {ow:Ow} {ns:List Str} (b:Bd) (h:Nat):(kidH ow ns h b).length=b.ways.length:=by
  cases b with
  | cs x as=>show (as.l.map _).length=as.ways.length; rw [List.length_map,Arms.ways_l,List.length_map]
  | _=>unfold kidH; rw [List.length_map]
def GdB (ow:Ow) (ns:List Str) (b:Bd):Prop:=TwB ow ns b/\∀ x∈b.binds,x∈ns
theorem GdA.kid {ow:Ow} {ns:List Str}:∀ {as:Arms},TwA ow ns as->(∀ x∈as.binds,x∈ns)->∀ w∈as.ways,GdB ow ns w.2
  | .nil,_,_,w,hw=>by unfold Arms.ways at hw; cases hw
  | .cons t xs m k b r,h,g,w,hw=>by
    unfold Arms.ways at hw
    unfold Arms.binds at g
    rcases List.mem_cons.mp hw with rfl | hw
    · exact ⟨h.2.1.mono fun x hx=>(List.mem_append.mp hx).elim (fun e=>g x (List.mem_append.mpr (.inl e))) id,fun x hx=>g x (List.mem_append.mpr (.inr (List.mem_append.mpr (.inl hx))))⟩
    · exact GdA.kid h.2.2 (fun x hx=>g x (List.mem_append.mpr (.inr (List.mem_append.mpr (.inr hx))))) w hw
theorem GdB.kid {ow:Ow} {ns:List Str} {b:Bd} (h:GdB ow ns b):∀ w∈b.ways,GdB ow ns w.2:=by
  obtain ⟨h,g⟩:=h
  intro w hw
  have one:∀ {x:Str} {c:Bd},TwB ow (x :: ns) c->(∀ y∈x :: c.binds,y∈ns)->GdB ow ns c:=fun {x c} a e=>⟨a.mono fun y hy=>(List.mem_cons.mp hy).elim (fun z=>z ▸ e x (.head _)) id,fun y hy=>e y (.tail _ hy)⟩
  cases b with
  | give x=>cases hw
  | lt x d b=>rw [List.mem_singleton.mp hw]; exact one h.2 g
  | hold x y b=>rw [List.mem_singleton.mp hw]; exact one h g
  | drop x b=>rw [List.mem_singleton.mp hw]; exact ⟨h,g⟩
  | loose x b=>rw [List.mem_singleton.mp hw]; exact ⟨h,g⟩
  | iff x a b =>
    unfold Bd.binds at g
    rcases List.mem_cons.mp hw with rfl | hw
    · exact ⟨h.1,fun y hy=>g y (List.mem_append.mpr (.inl hy))⟩
    · rw [List.mem_singleton.mp hw]; exact ⟨h.2,fun y hy=>g y (List.mem_append.mpr (.inr hy))⟩
  | cs x as=>exact GdA.kid h.2.2 g w hw
theorem vM:∀ (l acc:List Str) (x:Str),x∈once acc l↔x∈acc\/x∈l
  | [],acc,x=>by unfold once; simp
  | y :: l,acc,x=>by
    unfold once
    rw [vM l]
    split
    · rename_i h
      constructor
      · rintro (a | a)
        · exact .inl a
        · exact .inr (.tail _ a)
      · rintro (a | a)
        · exact .inl a
        · rcases List.mem_cons.mp a with rfl | a
          · exact .inl h
          · exact .inr a
    · simp [or_assoc]
theorem xc:∀ (l acc:List Str),acc.Nodup->(once acc l).Nodup
  | [],acc,h=>h
  | y :: l,acc,h=>by
    unfold once
    refine xc l _ ?_
    split
    · exact h
    · rename_i c
      rw [List.nodup_append]
      refine ⟨h,by simp,fun a ha b hb e=>?_⟩
      rw [List.mem_singleton.mp hb] at e
      exact c (e ▸ ha)
def Df.ns (d:Df):List Str:=once [] (d.ps ++ d.b.binds)
def Df.own (d:Df):List Str:=((d.ps.zip d.os).filter (·.2)).map (·.1)
structure DfT (ow:Ow) (d:Df):Prop where
  len:d.ps.length=d.os.length
  few:d.ps.length<=1000
  sz:d.b.sz<=400000
  bl:d.b.binds.length<=400000
  tw:TwB ow d.ps d.b
def tD (ow:Ow) (d:Df):Bool:=tiB ow d.ns d.b (tog d.ns d.own)
def VW (T1 T2:Addr):Sp:=fun vs H Q _=>∃ (od o:Addr) (ow:Ow) (d:Df),vs=[.ref od,.ref o]/\OwAt H od ow/\IsDf H d o/\DfT ow d/\Tbs T1 T2 H/\∀ H',KM (MT T1 T2) H H'->Tbs T1 T2 H'->Q (.bl (tD ow d)) H'
theorem Tbs.noT {T1 T2:Addr} {H:Hp} (h:Tbs T1 T2 H) {b:Addr} {u:HO} (e:H b=some u) (n:∀ ps,u≠.tbl ps):¬ MT T1 T2 b:=by
  rintro (z | z)
  · obtain ⟨ps,q,_⟩:=h.t1
    rw [z,q] at e
    exact n _ (Option.some.inj e).symm
  · obtain ⟨ps,q,_⟩:=h.t2
    rw [z,q] at e
    exact n _ (Option.some.inj e).symm
theorem Tbs.tups {T1 T2:Addr} {H H':Hp} (h:Tbs T1 T2 H) (k:KM (MT T1 T2) H H'):Tups H H':=fun b xs e=>k b _ (h.noT e (by intro _ z; cases z)) e
theorem All2.rev {α β:Type} {F:α->β->Prop} {l:List α} {m:List β} (h:All2 F l m):All2 F l.reverse m.reverse:=by
  induction h with
  | nil=>exact .nil
  | cons a _ ih=>rw [List.reverse_cons,List.reverse_cons]; exact ih.app (.cons a .nil)
def PlAt (ns:List Str) (R:Addr->Prop) (Hb H:Hp) (q:Bd × Nat) (t:Addr):Prop:=∃ p v,H t=some (.tup [.ref p,v,.int (q.2:Nat)])/\IsBd H q.1 p/\IsN ns Hb R q.1 v
theorem PlAt.keep {ns:List Str} {R:Addr->Prop} {Hb H H':Hp} {q:Bd × Nat} {t:Addr} (h:PlAt ns R Hb H q t) (k:Tups H H'):PlAt ns R Hb H' q t:=let ⟨p,v,a,b,c⟩:=h; ⟨p,v,k _ _ a,b.keep k,c⟩
def psz (l:List (Bd × Nat)):Nat:=(l.map fun q=>q.1.sz).sum
theorem Xa:∀ l:List (Bd × Nat),l.length<=psz l
  | []=>Nat.zero_le _
  | q :: l=>by
    have h1:=Bd.sz_pos q.1
    have h2:=Xa l
    unfold psz at h2 ⊢
    rw [List.map_cons,List.sum_cons,List.length_cons]
    lia
theorem Xb (a b:List (Bd × Nat)):psz (a ++ b)=psz a + psz b:=by unfold psz; rw [List.map_append,List.sum_append]
theorem Xc (a:List (Bd × Nat)):psz a.reverse=psz a:=by unfold psz; rw [List.map_reverse,List.sum_reverse]
theorem Xd:∀ (l:Wy) (hs:List Nat),psz ((l.map (·.2)).zip hs)<=wsz l
  | [],hs=>by simp [psz,wsz]
  | w :: l,[]=>by simp [psz]
  | w :: l,x :: hs=>by
    have:=Xd l hs
    unfold psz wsz at this ⊢
    simp only [List.map_cons,List.zip_cons_cons,List.sum_cons]
    lia
section
variable {P:Program} {w:World} {K:PySem.W.Frag} {mg:Str->Option Value} {base:Heap} {f:Addr} {fd:FuncData}
theorem scTDef:FnScope ["owns","one","bits","held","left","place","within","body","note","names"] ["owns","one"] (zo wG):=.ok
theorem VX:(["owns","one","bits","held","left","place","within","body","note","names","param","own"]:List Str).Nodup:=by decide +kernel
theorem Ql {T1 T2:Addr} (F:Fun K "tight_def" "tight_def" wG f fd) (GB:Ca P w K mg base CX0 1 "bits_of" ["names"] VE) (GO:Ca P w K mg base CX0 2 "bound" ["one"] YU) (GT:Ca P w K mg base CX0 1 "together" lS19 Y0) (GN':Ca P w K mg base CX0 6 "noted" lS13 (Y5 T1 T2)) (GP:Ca P w K mg base CX0 1 "tight_place" lS17 ZA) (GH:Ca P w K mg base CX0 4 "held_within" lS16 jn) (GW:Ca P w K mg base CX0 2 "bodies_within" ["body"] jm) (m_zip:mg "zip"=none) (m_len:mg "len"=none):FnOk P w K mg base CX0 7 f fd ["owns","one"] (VW T1 T2):=by
  refine F.by scTDef (fun vs H Q E h=>?_) (fun cdv A outer s H vs Q E hr h=>?_)
  · obtain ⟨od,o,ow,d,rfl,_⟩:=h
    rfl
  obtain ⟨od,o,ow,df,rfl,ho,hF,hk,hT,q⟩:=h
  have hr1:Room 1 _:=hr.mono (by decide)
  have hr2:Room 2 _:=hr.mono (by decide)
  have hr4:Room 4 _:=hr.mono (by decide)
  refine ⟨_,
    (zg (sE 2 scTDef.nd (cA GB hr1 (jA1 (cA GO hr2 (jA1 (jv 1))))))
    (zg (sE 3 scTDef.nd (cA GT hr1 (jA2 (zW ["param","own"] rfl (xS rfl m_zip (jA2 (xT 1) (xT 1))) (fun _ _ _ _ _=>(xa K (n:=2) rfl (zw (gN 10 VX) (zw (gN 11 VX) z6)))) (fun _ _ _ _ _=>(ya (zS (jv 11)))) (fun _ _ _ _ _=>(jv 10))) (jv 2))))
    (zg (sE 4 scTDef.nd (zB (jA1 (zv (jA3 (xT 1) (cA GN' hr (jA2 (xT 1) (jv 2))) (jv 3))))))
    (zg (vj PassesOwn.never (tN jh (jL m_len (jv 4)) zj)
      (zg (sE 5 scTDef.nd (jB PySem.F.plainAttrs_list PySem.F.slot_list_pop PySem.F.type_list_pop jD (jv 4)))
      (zg (zx (xQ (zS (cA GP hr1 (jA3 (xT 5) (xT 5) (xT 5)))))
        (zi (zp yw)) zr)
      (zg (sE 6 scTDef.nd (cA GH hr4 (jA4 (jv 0) (jv 2) (xT 5) (xT 5))))
      (zi (zU PassesOwn.never rfl (Qk rfl m_zip (jA3 (cA GW hr2 (jA1 (xT 5))) (yx wF (xT 5) zj (fun _ _=>rfl)) (jv 6))) (xm rfl (zw (gN 7 scTDef.nd) (zw (gN 8 scTDef.nd) (zw (gN 9 scTDef.nd) z6))))
        (zi (yf (yA PySem.F.plainAttrs_list PySem.F.slot_list_append PySem.F.type_list_append zQ (jv 4) (jA1 (zv (jA3 (jv 7) (jv 8) (jv 9)))))))))))))
    (zi (zp yw)))))),?_⟩
  have sl:=zK
  obtain ⟨pp,po,pb,hF1,hF2,hF3,hF4⟩:=hF
  have hnl:=wq (df.ps ++ df.b.binds) []
  rw [List.length_append,List.length_nil] at hnl
  have k1:=hk.few
  have k2:=hk.bl
  have k3:=hk.sz
  have hnd:df.ns.Nodup:=xc _ _ .nil
  have hin:∀ x,x∈df.ns↔x∈df.ps\/x∈df.b.binds:=fun x=>by
    unfold Df.ns
    rw [vM]
    simp
  refine ⟨_,rfl,o,df,rfl,⟨pp,po,pb,hF1,hF2,hF3,hF4⟩,k1,by lia,by lia,fun H1 r1 s1 f1 g1=>?_⟩
  refine ⟨r1,df.ns,rfl,g1,hnd,by show (once [] _).length<=_; lia,fun H2 d s2 f2 g2=>?_⟩
  have s12:=s1.trans s2
  refine ⟨_,rfl,ixT (s12 _ _ hF1) aI1 ⟨_,rfl,ixT (s12 _ _ hF1) aI2 ⟨pp,po,false,false,_,_,rfl,SqK.t (s12 _ _ hF2),SqK.t (s12 _ _ hF3),wI (k:=false) (m:=false) (xs:=df.ps.map V.str) (ys:=df.os.map V.bl) (by rw [List.length_map,List.length_map,hk.len]) (fun i τ zs H'=>Same H2 H'/\(∃ y y',τ=[some (.ref od),some (.ref o),some (.ref d),none,none,none,none,none,none,none,y,y'])/\∃ us:List Str,zs=us.map V.str/\us.length<=i/\us=((((df.ps.zip df.os).take i).filter (·.2)).map (·.1))) ⟨Same.refl _,⟨none,none,rfl⟩,[],rfl,Nat.le_refl _,rfl⟩ (fun i τ zs H' _ h=>⟨SqK.t (h.1 _ _ (s12 _ _ hF2)),SqK.t (h.1 _ _ (s12 _ _ hF3))⟩) ?_ ?_⟩⟩⟩
  · rintro i x y T τ zs H' hx hy hT' ⟨s7,⟨y1,y2,rfl⟩,us,rfl,ul,he⟩
    rw [List.getElem?_map] at hx hy
    obtain ⟨n,hn',rfl⟩:=Option.map_eq_some_iff.mp hx
    obtain ⟨b,hb',rfl⟩:=Option.map_eq_some_iff.mp hy
    have hi:i < df.ps.length:=(List.getElem?_eq_some_iff.mp hn').1
    have hz:(df.ps.zip df.os)[i]?=some (n,b):=List.getElem?_zip_eq_some.mpr ⟨hn',hb'⟩
    have tk:(df.ps.zip df.os).take (i + 1)=(df.ps.zip df.os).take i ++ [(n,b)]:=by rw [List.take_add_one,hz]; rfl
    rw [tk,List.filter_append,List.map_append,<- he]
    cases b with
    | false=>exact ⟨T,_,rfl,SqT.of zf,rfl,_,_,rfl,_,_,rfl,rfl,_,rfl,_,rfl,iteF ⟨s7.new hT',⟨_,_,rfl⟩,us,rfl,by lia,by simp⟩⟩
    | true=>exact ⟨T,_,rfl,SqT.of zf,rfl,_,_,rfl,_,_,rfl,rfl,_,rfl,_,rfl,iteT ⟨_,rfl,by rw [List.length_map]; lia,s7.new hT',⟨_,_,rfl⟩,us ++ [n],by rw [List.map_append]; rfl,by rw [List.length_append]; show us.length + 1<=_; lia,by simp⟩⟩
  rintro τ zs H3 ⟨s3,_,us,rfl,ul,he⟩ l3 f3
  rw [List.length_map,List.take_of_length_le (by rw [List.length_zip]; lia)] at he
  subst he
  have s13:=(s12.trans s3).new (o:=.lst (df.own.map V.str)) f3
  refine ⟨_,rfl,l3,d,df.own,df.ns,rfl,.inr zf,old f3 (s3 _ _ g2),?_⟩
  have d4:=old (o:=.lst (df.own.map V.str)) f3 (s3 _ _ g2)
  dsimp only
  change (tSeq _ _:TS) _ _ (upd H3 l3 (.lst (df.own.map V.str)))
  generalize upd H3 l3 (.lst (df.own.map V.str))=H4 at *
  refine ⟨_,rfl,ixT (s13 _ _ hF1) aI3 ⟨_,rfl,ixT (s13 _ _ hF1) aI3 ⟨_,rfl,pb,d,df.b,df.ns,ow,rfl,hF4.keep (.of s13),⟨k3,hk.tw.ok⟩,d4,hT.same s13,fun H5 v R k5 T5 hN=>⟨_,rfl,sN3,fun t1 h1=>⟨sN1,fun lf h2=>?_⟩⟩⟩⟩⟩
  have T4:=hT.same s13
  have tp5:=T4.tups k5
  have ho6:OwAt (upd H5 t1 (.tup [.ref pb,v,.int ((tog df.ns df.own:Nat):Int)])) od ow:=(ho.same s13).keep fun b u c e=>old h1 (k5 b u (T4.noT e (by
    intro ps z
    rcases c with rfl | ⟨xs,rfl⟩
    · obtain ⟨kvs,a,_⟩:=ho.same s13
      rw [a] at e
      cases e
      cases z
    · cases z)) e)
  have d6:=old (o:=.tup [.ref pb,v,.int ((tog df.ns df.own:Nat):Int)]) h1 (k5 _ _ (T4.noT d4 (by intro _ z; cases z)) d4)
  have b6:IsBd (upd H5 t1 (.tup [.ref pb,v,.int ((tog df.ns df.own:Nat):Int)])) df.b pb:=(hF4.keep (.of s13)).keep (tp5.trans (.of (zh h1 _)))
  have s56:=zh (o:=.tup [.ref pb,v,.int ((tog df.ns df.own:Nat):Int)]) h1
  have N6:IsN df.ns (upd H5 t1 (.tup [.ref pb,v,.int ((tog df.ns df.own:Nat):Int)])) R df.b v:=IsN.keep ⟨.of s56,fun a xs _ e=>s56 _ _ e,fun _ z=>z⟩ hN
  have T6:=T5.same s56
  have k6:KM (MT T1 T2) H (upd H5 t1 (.tup [.ref pb,v,.int ((tog df.ns df.own:Nat):Int)])):=(KM.of s13).trans (k5.trans (.of s56))
  have t6:=zf (H:=H5) (a:=t1) (o:=.tup [.ref pb,v,.int ((tog df.ns df.own:Nat):Int)])
  change (tSeq _ _:TS) _ _ (upd (upd H5 t1 (.tup [.ref pb,v,.int ((tog df.ns df.own:Nat):Int)])) lf _)
  generalize upd H5 t1 (.tup [.ref pb,v,.int ((tog df.ns df.own:Nat):Int)])=Hb at *
  have hgd:GdB ow df.ns df.b:=⟨hk.tw.mono fun x hx=>(hin x).mpr (.inl hx),fun x hx=>(hin x).mpr (.inr hx)⟩
  refine ⟨fun m σ H'=>∃ (stk:List (Bd × Nat)) (ts:List Addr) (x5 x6 x7 x8 x9:Option V),m=psz stk/\σ=[some (.ref od),some (.ref o),some (.ref d),some (.int ((tog df.ns df.own:Nat):Int)),some (.ref lf),x5,x6,x7,x8,x9]/\Same Hb H'/\H' lf=some (.lst (ts.reverse.map V.ref))/\All2 (PlAt df.ns R Hb H') stk ts/\(stk.all fun q=>tiB ow df.ns q.1 q.2)=tD ow df/\(∀ q∈stk,GdB ow df.ns q.1)/\psz stk<=400000,
    ⟨_,[(df.b,tog df.ns df.own)],[t1],none,none,none,none,none,rfl,rfl,zh h2 _,zf,.cons ⟨pb,v,old h2 t6,b6.keep (.of (zh h2 _)),N6⟩ .nil,by simp [tD],fun q hq=>by rw [List.mem_singleton.mp hq]; exact hgd,by unfold psz; simpa using k3⟩,?_⟩
  rintro m σ H7 ⟨stk,ts,x5,x6,x7,x8,x9,rfl,rfl,sm,hl,hy,hall,hg,hsz⟩
  refine ⟨_,rfl,_,_,rfl,.inl (SqL.of hl),_,_,rfl,rfl,_,rfl,?_⟩
  cases hy with
  | nil =>
    refine iteF ?_
    have hall:true=tD ow df:=hall
    have:=q H7 (k6.trans (.of sm)) (T6.same sm)
    rw [<- hall] at this
    exact this
  | @cons bh t stk ts hp hy =>
    obtain ⟨b,h⟩:=bh
    obtain ⟨p,v',hp,hb,hNb⟩:=hp
    have hne:decide ((0:Int) < ((((t :: ts).reverse.map V.ref).length:Nat):Int))=true:=by
      rw [decide_eq_true_eq,List.length_map,List.length_reverse,List.length_cons]
      lia
    rw [hne]
    refine iteT ⟨_,fun _ _ h=>h,?_⟩
    have e1:(t :: ts).reverse.map V.ref=ts.reverse.map V.ref ++ [.ref t]:=by simp
    have e2:((t :: ts).reverse.map V.ref)[((t :: ts).reverse.map V.ref).length - 1]?=some (.ref t):=by rw [e1]; simp
    have e3:((t :: ts).reverse.map V.ref).dropLast=ts.reverse.map V.ref:=by rw [e1]; simp
    refine ⟨_,rfl,.inl ⟨rfl,_,SqL.of hl⟩,lf,_,_,rfl,rfl,hl,e2,?_⟩
    rw [e3]
    have t8:Tups H7 (upd H7 lf (.lst (ts.reverse.map V.ref))):=fun b xs z=>by rw [zk (wb z hl (by intro z; cases z))]; exact z
    have s8:=sm.put (o:=.lst (ts.reverse.map V.ref)) h2
    have hl8:=zf (H:=H7) (a:=lf) (o:=.lst (ts.reverse.map V.ref))
    replace hp:=t8 _ _ hp
    replace hb:=hb.keep t8
    replace hy:=All2.imp hy fun _ _ z=>PlAt.keep z t8
    generalize upd H7 lf (.lst (ts.reverse.map V.ref))=H8 at *
    have hpc:psz ((b,h) :: stk)=b.sz + psz stk:=by unfold psz; rw [List.map_cons,List.sum_cons]
    rw [hpc] at hsz
    have hNb8:IsN df.ns H8 R b v':=IsN.keep ⟨.of s8,fun a xs _ e=>s8 _ _ e,fun _ z=>z⟩ hNb
    refine ⟨_,rfl,ixT hp aI0 ⟨_,rfl,ixT hp aI1 ⟨_,rfl,ixT hp aI2 ⟨p,b,v',b.mk df.ns,h,rfl,hb,hNb8.nt,fun H9 s9=>?_⟩⟩⟩⟩
    have hall':(tiB ow df.ns b h && stk.all fun q=>tiB ow df.ns q.1 q.2)=tD ow df:=hall
    rw [VU] at hall'
    refine ⟨_,rfl,?_⟩
    cases c:xf b h (b.mk df.ns) with
    | false =>
      rw [c,Bool.false_and,Bool.false_and] at hall'
      have:=q H9 (k6.trans (.of (s8.trans s9))) (T6.same (s8.trans s9))
      rw [<- hall'] at this
      exact iteT this
    | true =>
      rw [c,Bool.true_and] at hall'
      refine iteF (nxtC ?_)
      have s89:=s8.trans s9
      have hp9:=s9 _ _ hp
      have hb9:IsBd H9 b p:=hb.keep (.of s9)
      obtain ⟨hgb,hgs⟩:GdB ow df.ns b/\∀ q∈stk,GdB ow df.ns q.1:=⟨hg (b,h) (.head _),fun q hq=>hg q (.tail _ hq)⟩
      refine ⟨_,rfl,_,rfl,_,rfl,ixT hp9 aI0 ⟨_,rfl,ixT hp9 aI2 ⟨od,d,p,ow,df.ns,b,h,df.ns,rfl,hb9,ho6.same s89,s89 _ _ d6,hgb.1,fun _ z=>z,by lia,fun H10 r10 s10 f10 g10=>?_⟩⟩⟩
      have hp10:=s10 _ _ hp9
      obtain ⟨nv,⟨qn,ln,rfl,n1,n2,n3⟩,hns⟩:=IsN.ways.mp hNb
      have n1':=s89 _ _ n1
      refine ⟨_,rfl,ixT hp10 aI0 ⟨p,b,rfl,hb9.keep (.of s10),by lia,fun H11 r11 ps s11 f11 g11 hbs=>?_⟩⟩
      have hp11:=s11 _ _ hp10
      have s1011:=s10.trans s11
      have sb:=s89.trans s1011
      refine ⟨_,rfl,ixT hp11 aI1 (ixT (sb _ _ n1) aI1 ⟨_,rfl,?_⟩)⟩
      have l1:ps.length=b.ways.length:=by rw [<- All2.len hbs,List.length_map]
      have l2:nv.length=b.ways.length:=(All2.len hns).symm
      have l3:(kidH ow df.ns h b).length=b.ways.length:=VV b h
      have lf11:H11 lf=some (.lst (ts.reverse.map V.ref)):=s1011 _ _ (s9 _ _ hl8)
      have nr11:lf≠r11:=zn (s10 _ _ (s9 _ _ hl8)) f11
      have nr10:lf≠r10:=zn (s9 _ _ hl8) f10
      have nln:lf≠ln:=fun z=>by rw [<- z,h2] at n3; cases n3
      have hyw:=Bd.wsz b
      have hwl:=xb b.ways
      have hpl:=Xa stk
      have hyl:=All2.len hy
      refine ⟨r11,ln,r10,true,true,true,_,_,_,rfl,SqK.l g11,SqK.l (sb _ _ n3),SqK.l (s11 _ _ g10),VT (k:=true) (m:=true) (e:=true) (xs:=ps.map V.ref) (ys:=nv) (zs:=(kidH ow df.ns h b).map fun n=>V.int (n:Nat)) (by rw [List.length_map,l1,l2]) (by rw [List.length_map,List.length_map,l1,l3]) (fun i σ H'=>(∀ a u,a≠lf->H11 a=some u->H' a=some u)/\∃ (us:List Addr) (y7 y8 y9:Option V),σ=[some (.ref od),some (.ref o),some (.ref d),some (.int ((tog df.ns df.own:Nat):Int)),some (.ref lf),some (.ref t),some (.ref r10),y7,y8,y9]/\H' lf=some (.lst ((ts.reverse ++ us).map V.ref))/\All2 (PlAt df.ns R Hb H') (((b.ways.map (·.2)).zip (kidH ow df.ns h b)).take i) us) ⟨fun _ _ _ e=>e,[],_,_,_,rfl,by rw [List.append_nil]; exact lf11,.nil⟩ (fun i σ H' _ h=>⟨SqK.l (h.1 _ _ nr11.symm g11),SqK.l (h.1 _ _ nln.symm (sb _ _ n3)),SqK.l (h.1 _ _ nr10.symm (s11 _ _ g10))⟩) ?_ ?_⟩
      · rintro i x y z T σ H12 hx hy' hz hT' ⟨k12,us,y7,y8,y9,rfl,g12,hu⟩
        rw [List.getElem?_map] at hx hz
        obtain ⟨pi,hpi,rfl⟩:=Option.map_eq_some_iff.mp hx
        obtain ⟨ni,hni,rfl⟩:=Option.map_eq_some_iff.mp hz
        obtain ⟨bi,hbi,hbI⟩:=All2.get hbs hpi
        rw [List.getElem?_map] at hbi
        obtain ⟨wi,hwi,rfl⟩:=Option.map_eq_some_iff.mp hbi
        obtain ⟨wi',hwi',hnI⟩:=All2.get hns hy'
        rw [hwi] at hwi'
        cases hwi'
        have hi:i < b.ways.length:=(List.getElem?_eq_some_iff.mp hwi).1
        have ul:=All2.len hu
        rw [List.length_take,List.length_zip,List.length_map,l3] at ul
        have hT12:H12 lf≠none:=by rw [g12]; simp
        refine ⟨T,_,rfl,SqT.of zf,rfl,_,_,rfl,_,_,rfl,_,_,rfl,rfl,?_⟩
        have s13':=zh (o:=.tup [.ref pi,y,.int (ni:Nat)]) hT'
        refine ⟨_,rfl,.inl ⟨rfl,_,SqL.of (s13' _ _ g12)⟩,_,rfl,_,rfl,_,rfl,sN3,fun t13 f13=>?_⟩
        have s14:=s13'.new (o:=.tup [.ref pi,y,.int (ni:Nat)]) f13
        have g14:=s14 _ _ g12
        have t14:=zf (H:=upd H12 T (.tup [.ref pi,y,.int (ni:Nat)])) (a:=t13) (o:=.tup [.ref pi,y,.int (ni:Nat)])
        refine ⟨lf,_,_,rfl,rfl,g14,?_,?_⟩
        · rw [List.length_map,List.length_append,List.length_reverse]
          lia
        change _/\_
        generalize upd (upd H12 T (.tup [.ref pi,y,.int (ni:Nat)])) t13 (.tup [.ref pi,y,.int (ni:Nat)])=H14 at *
        have t15:Tups H14 (upd H14 lf (.lst ((ts.reverse ++ us).map V.ref ++ [.ref t13]))):=fun b xs z=>by rw [zk (wb z g14 (by intro z; cases z))]; exact z
        refine ⟨fun a u n e=>?_,us ++ [t13],_,_,_,rfl,?_,?_⟩
        · rw [zk n]
          exact s14 _ _ (k12 a u n e)
        · rw [zf,<- List.append_assoc,List.map_append (l₂:=[t13])]
          rfl
        · have hzi:((b.ways.map (·.2)).zip (kidH ow df.ns h b))[i]?=some (wi.2,ni):=List.getElem?_zip_eq_some.mpr ⟨by rw [List.getElem?_map,hwi]; rfl,hni⟩
          rw [List.take_add_one,hzi]
          have t11:Tups H11 H12:=fun b xs z=>k12 b _ (wb z lf11 (by intro z; cases z)) z
          exact (hu.imp fun _ _ z=>z.keep ((Tups.of s14).trans t15)).app (.cons ⟨pi,y,t15 _ _ t14,hbI.keep (t11.trans ((Tups.of s14).trans t15)),hnI⟩ .nil)
      · rintro σ H12 ⟨k12,us,y7,y8,y9,rfl,g12,hu⟩
        have zl:((b.ways.map (·.2)).zip (kidH ow df.ns h b)).length=b.ways.length:=by rw [List.length_zip,List.length_map,l3,Nat.min_self]
        rw [List.length_map,l1,List.take_of_length_le (by lia)] at hu
        have t12:Tups H11 H12:=fun b xs z=>k12 b _ (wb z lf11 (by intro z; cases z)) z
        have pz:=Xd b.ways (kidH ow df.ns h b)
        refine ⟨psz (((b.ways.map (·.2)).zip (kidH ow df.ns h b)).reverse ++ stk),?_,((b.ways.map (·.2)).zip (kidH ow df.ns h b)).reverse ++ stk,us.reverse ++ ts,_,_,_,_,_,rfl,rfl,fun a u e=>k12 a u (fun z=>by rw [z,h2] at e; cases e) (sb a u e),?_,(hu.rev).app (hy.imp fun _ _ z=>z.keep ((Tups.of (s9.trans s1011)).trans t12)),?_,?_,?_⟩
        · rw [Xb,Xc,hpc]
          lia
        · rw [g12,List.reverse_append,List.reverse_reverse]
        · rw [List.all_append,List.all_reverse]
          exact hall'
        · intro q hq
          rcases List.mem_append.mp hq with hq | hq
          · obtain ⟨w',hw',e'⟩:=List.mem_map.mp (List.of_mem_zip (List.mem_reverse.mp hq)).1
            rw [<- e']
            exact hgb.kid w' hw'
          · exact hgs q hq
        · rw [Xb,Xc]
          lia
def Xe (T1 T2:Addr):Sp:=fun vs H Q _=>∃ (p:Addr) (ds:List Df),vs=[.ref p]/\IsCode H ds p/\(ds.map (·.g)).Nodup/\ds.length<=1000/\(∀ d∈ds,DfT (owOf ds) d)/\Tbs T1 T2 H/\∀ H',KM (MT T1 T2) H H'->Tbs T1 T2 H'->Q (.bl (ds.all (tD (owOf ds)))) H'
theorem scTight:FnScope ["code","owns"] ["code"] (zo Z6):=.ok
theorem Qm:(["code","owns","one"]:List Str).Nodup:=by decide +kernel
theorem VY {T1 T2:Addr} (F:Fun K "tight" "tight" Z6 f fd) (GO:Ca P w K mg base CX0 1 "all_owns" ["code"] Vp) (GD:Ca P w K mg base CX0 7 "tight_def" ["owns","one"] (VW T1 T2)) (m_all:mg "all"=none):FnOk P w K mg base CX0 8 f fd ["code"] (Xe T1 T2):=by
  refine F.by scTight (fun vs H Q E h=>?_) (fun cdv A outer s H vs Q E hr h=>?_)
  · obtain ⟨p,ds,rfl,_⟩:=h
    rfl
  obtain ⟨p,ds,rfl,hc,hn,hl,hk,hT,q⟩:=h
  have hr1:Room 1 _:=hr.mono (by decide)
  refine ⟨_,
    (zg (sE 1 scTight.nd (cA GO hr1 (jA1 (jv 0))))
    (zi (zp (yQ (yF rfl) rfl m_all PyProof.Rows.boot_all (jA1 (zW ["one"] rfl (yr (xT 0)) (fun _ _ _ _ _=>(gN 2 Qm)) (fun _ _ _ _ _=>zV) (fun _ _ _ _ _=>(cA GD hr (jA2 (jv 1) (jv 2)))))))))),?_⟩
  have sl:=zK
  refine ⟨_,rfl,p,ds,rfl,hc,hn,hl,fun H1 od s1 ho=>?_⟩
  obtain ⟨v,pd,os,h1,h2,h3⟩:=hc
  have hT1:=hT.same s1
  refine ⟨_,rfl,ixT (s1 _ _ h1) aI1 ⟨pd,rfl,⟨_,SqT.of (s1 _ _ h2)⟩,vv (xs:=os.map V.ref) (fun j τ ys H'=>KM (MT T1 T2) H1 H'/\Tbs T1 T2 H'/\(∃ v,τ=[some (.ref p),some (.ref od),v])/\ys=(ds.take j).map fun d=>V.bl (tD (owOf ds) d)) ⟨KM.refl,hT1,⟨none,rfl⟩,rfl⟩ (fun j τ ys H' _ h=>SqT.of (hT1.tups h.1 _ _ (s1 _ _ h2))) ?_ ?_⟩⟩
  · rintro j v' τ ys H2 hv ⟨k2,T2',⟨y,rfl⟩,rfl⟩
    rw [List.getElem?_map] at hv
    obtain ⟨o,ho',rfl⟩:=Option.map_eq_some_iff.mp hv
    have hj:j < ds.length:=by rw [h3.1]; exact (List.getElem?_eq_some_iff.mp ho').1
    obtain ⟨d,hd⟩:∃ d,ds[j]?=some d:=⟨_,List.getElem?_eq_getElem hj⟩
    have tp:=hT1.tups k2
    have hI:IsDf H2 d o:=(h3.2 j d o hd ho').keep ((Tups.of s1).trans tp)
    have hO:OwAt H2 od (owOf ds):=ho.keep fun b u c e=>k2 b u (hT1.noT e (by
      intro ps z
      rcases c with rfl | ⟨xs,rfl⟩
      · obtain ⟨kvs,a,_⟩:=ho
        rw [a] at e
        cases e
        cases z
      · cases z)) e
    refine ⟨_,rfl,_,rfl,od,o,owOf ds,d,rfl,hO,hI,hk d (List.mem_of_getElem? hd),T2',fun H3 k3 T3=>⟨by rw [List.length_map,List.length_take]; lia,k2.trans k3,T3,⟨_,rfl⟩,?_⟩⟩
    rw [List.take_add_one,hd,List.map_append]
    rfl
  rintro τ ys H2 ⟨k2,T2',_,rfl⟩ l hl2
  rw [List.length_map,<- h3.1,List.take_of_length_le (Nat.le_refl _)]
  have s3:=zh (o:=.lst (ds.map fun d=>V.bl (tD (owOf ds) d))) hl2
  refine ⟨l,ds.map (tD (owOf ds)),rfl,SqL.of (by rw [zf,List.map_map]; rfl),?_⟩
  have:=q _ ((KM.of s1).trans (k2.trans (.of s3))) (T2'.same s3)
  rw [List.all_map]
  exact this
end
def xv (ow:Ow):Dd->List Str
  | .num _=>[]
  | .op _ _ _=>[]
  | .call g ns=>((ns.zip ((look ow g).getD [])).filter (·.2)).map (·.1)
  | d=>zI d
def xg (ow:Ow) (d:Dd) (m:List Str):List Str:=m.filter fun z=>decide (z ∉ xv ow d)
mutual
def lT (ow:Ow):Bd->List Str->Bool
  | .give y,m=>m.all fun x=>(Bd.give y).fr x
  | .lt x d b,m=>(m.all fun z=>(Bd.lt x d b).fr z) && lT ow b (xg ow d m ++ [x])
  | .hold x _ b,m=>lT ow b (m ++ [x])
  | .drop x b,m=>lT ow b (m.filter fun z=>decide (z≠x))
  | .loose _ b,m=>lT ow b m
  | .iff x b c,m=>(m.all fun z=>(Bd.iff x b c).fr z) && (lT ow b m && lT ow c m)
  | .cs x as,m=>(m.all fun z=>(Bd.cs x as).fr z) && lA ow x as m
def lA (ow:Ow) (x:Str):Arms->List Str->Bool
  | .nil,_=>true
  | .cons _ xs md _ b r,m=>lT ow b ((m.filter fun z=>decide (md="look"\/z≠x)) ++ xs) && lA ow x r m
end
structure Rel (ns:List Str) (h:Nat) (m:List Str):Prop where
  a:∀ i x,ns[i]?=some x->h.testBit i=decide (x∈m)
  b:∀ i,ns[i]?=none->h.testBit i=false
  c:∀ x∈m,x∈ns
theorem Rel.congr {ns:List Str} {h:Nat} {m m':List Str} (r:Rel ns h m) (e:∀ x,x∈m'↔x∈m):Rel ns h m':=⟨fun i x hx=>(r.a i x hx).trans (by rw [decide_eq_decide]; exact (e x).symm),r.b,fun x hx=>r.c x ((e x).mp hx)⟩
theorem vN {ns:List Str} (nd:ns.Nodup) {i:Nat} (h:ns[i]?=none) (xs:List Str):(tog ns xs).testBit i=false:=by
  rw [YV nd,h]
  simp
theorem Rel.tog {ns:List Str} (nd:ns.Nodup) {m:List Str} (h:∀ x∈m,x∈ns):Rel ns (tog ns m) m:=⟨fun i x hx=>yj nd hx m,fun i hi=>vN nd hi m,h⟩
theorem Rel.step {ns:List Str} (nd:ns.Nodup) {h:Nat} {m xs ys:List Str} (r:Rel ns h m) (hy:∀ x∈ys,x∈ns):Rel ns (dif h (GN.tog ns xs) ||| GN.tog ns ys) ((m.filter fun z=>decide (z ∉ xs)) ++ ys):=by
  refine ⟨fun i x hx=>?_,fun i hi=>?_,fun x hx=>?_⟩
  · rw [Nat.testBit_or,yn,yj nd hx,yj nd hx,r.a i x hx]
    by_cases c1:x∈m <;> by_cases c2:x∈xs <;> by_cases c3:x∈ys <;> simp [c1,c2,c3]
  · rw [Nat.testBit_or,yn,vN nd hi,vN nd hi,r.b i hi]
    rfl
  · rcases List.mem_append.mp hx with hx | hx
    · exact r.c x (List.mem_filter.mp hx).1
    · exact hy x hx
theorem Rel.zero {ns:List Str} (nd:ns.Nodup) {h:Nat} {m:List Str} (r:Rel ns h m) (b:Bd):decide (dif h (b.mk ns)=0)=m.all fun x=>b.fr x:=by
  rw [Bool.eq_iff_iff,decide_eq_true_eq,List.all_eq_true]
  constructor
  · intro e x hx
    obtain ⟨i,hi⟩:=List.mem_iff_getElem?.mp (r.c x hx)
    have:=congrArg (fun n=>Nat.testBit n i) e
    rw [yn,Nat.zero_testBit,r.a i x hi,decide_eq_true hx,Bool.true_and,Bd.mk_bit nd hi] at this
    simpa using this
  · intro e
    refine Nat.eq_of_testBit_eq fun i=>?_
    rw [yn,Nat.zero_testBit]
    cases hi:ns[i]? with
    | none=>rw [r.b i hi,Bool.false_and]
    | some x =>
      rw [r.a i x hi,Bd.mk_bit nd hi]
      by_cases c:x∈m
      · rw [e x c]; simp
      · rw [decide_eq_false c,Bool.false_and]
theorem XY {ns:List Str} (x md:Str):jl ns x md=tog ns (if md="take" then [x] else []):=by
  unfold jl
  split
  · unfold tog
    rw [List.foldl_cons,List.foldl_nil,Nat.zero_or]
  · rfl
theorem wv:∀ ns:List Str,(((ns.zip (ns.map fun _=>true)).filter (·.2)).map (·.1))=ns
  | []=>rfl
  | x :: r=>by
    rw [List.map_cons,List.zip_cons_cons,List.filter_cons,if_pos rfl,List.map_cons,wv r]
theorem Yn (ow:Ow) (x:Str) (d:Dd) (b:Bd):yN ow (.lt x d b)=xv ow d:=by
  cases d with
  | num i=>rfl
  | op o a c=>rfl
  | mk t ns k=>exact wv ns
  | call g ns=>rfl
  | fn g ns=>exact wv ns
  | ask g ns=>exact wv (g :: ns)
section
variable {ow:Ow} {ns:List Str} (nd:ns.Nodup)
include nd
mutual
theorem xw:∀ (b:Bd) {h:Nat} {m:List Str},GdB ow ns b->Rel ns h m->tiB ow ns b h=lT ow b m
  | .give y,h,m,g,r=>by rw [tiB,lT,r.zero nd]
  | .lt x d b,h,m,g,r=>by
    have hx:∀ y∈[x],y∈ns:=fun y hy=>by rw [List.mem_singleton.mp hy]; exact g.2 x (.head _)
    rw [tiB,lT,r.zero nd,Yn]
    congr 1
    exact xw b (g.kid ([x],b) (.head _)) (r.step nd hx)
  | .hold x y b,h,m,g,r=>by
    have hx:∀ y∈[x],y∈ns:=fun y hy=>by rw [List.mem_singleton.mp hy]; exact g.2 x (.head _)
    rw [tiB,lT]
    exact xw b (g.kid ([x],b) (.head _)) ((r.step nd (xs:=[]) hx).congr fun z=>by simp)
  | .drop x b,h,m,g,r=>by
    rw [tiB,lT]
    exact xw b (g.kid ([],b) (.head _)) ((r.step nd (xs:=[x]) (ys:=[]) (by simp)).congr fun z=>by simp)
  | .loose x b,h,m,g,r=>by
    rw [tiB,lT]
    exact xw b (g.kid ([],b) (.head _)) ((r.step nd (xs:=[]) (ys:=[]) (by simp)).congr fun z=>by simp)
  | .iff x b c,h,m,g,r=>by
    have r':=(r.step nd (xs:=[]) (ys:=[]) (by simp)).congr (m':=m) fun z=>by simp
    rw [tiB,lT,r.zero nd]
    congr 1
    rw [xw b (g.kid ([],b) (.head _)) r',xw c (g.kid ([],c) (.tail _ (.head _))) r']
  | .cs x as,h,m,g,r=>by
    rw [tiB,lT,r.zero nd]
    congr 1
    exact VZ x as (g.1.2.2) g.2 r
theorem VZ (x:Str):∀ (as:Arms) {h:Nat} {m:List Str},TwA ow ns as->(∀ y∈as.binds,y∈ns)->Rel ns h m->tiA ow ns x as h=lA ow x as m
  | .nil,h,m,g,gb,r=>by rw [tiA,lA]
  | .cons t xs md k b rs,h,m,g,gb,r=>by
    have gk:=GdA.kid g gb (xs,b) (by unfold Arms.ways; exact .head _)
    rw [Arms.binds] at gb
    rw [tiA,lA,XY]
    congr 1
    · refine xw b gk ((r.step nd (fun y hy=>gb y (List.mem_append.mpr (.inl hy)))).congr fun z=>?_)
      rcases g.1 with rfl | rfl
      · rw [if_neg (by decide)]; simp
      · have ne:¬ (("take":Str)="look"):=by decide
        rw [if_pos rfl]
        simp [ne]
    · exact VZ x rs g.2.2 (fun y hy=>gb y (List.mem_append.mpr (.inr (List.mem_append.mpr (.inr hy))))) r
end
end
theorem Q4 {ow:Ow} {d:Df} (h:DfT ow d):tD ow d=lT ow d.b d.own:=by
  have hin:∀ x,x∈d.ns↔x∈d.ps\/x∈d.b.binds:=fun x=>by
    unfold Df.ns
    rw [vM]
    simp
  refine xw (xc _ _ .nil) d.b ⟨h.tw.mono fun x hx=>(hin x).mpr (.inl hx),fun x hx=>(hin x).mpr (.inr hx)⟩ (.tog (xc _ _ .nil) fun x hx=>?_)
  unfold Df.own at hx
  obtain ⟨q,hq,rfl⟩:=List.mem_map.mp hx
  exact (hin _).mpr (.inl (List.of_mem_zip (List.mem_filter.mp hq).1).1)
theorem yp {x:Str}:∀ {l:List Str},inV (.str x) (l.map V.str)=decide (x∈l)
  | []=>rfl
  | y :: l=>by
    have ih:=yp (x:=x) (l:=l)
    unfold inV at ih ⊢
    rw [List.map_cons,List.any_cons,ih]
    show ((y == x) || decide (x∈l))=_
    by_cases e:y=x
    · subst e; simp
    · have e':(y == x)=false:=beq_eq_false_iff_ne.mpr e
      have e2:¬ x=y:=fun z=>e z.symm
      simp [e',e2]
theorem yH:∀ {l:List Str},(l.map V.str).all wc=true
  | []=>rfl
  | _ :: l=>by rw [List.map_cons,List.all_cons,yH (l:=l)]; rfl
mutual
def Bd.dp:Bd->Nat
  | .give _=>1
  | .lt _ _ b=>b.dp + 1
  | .hold _ _ b=>b.dp + 1
  | .drop _ b=>b.dp + 1
  | .loose _ b=>b.dp + 1
  | .iff _ b c=>max b.dp c.dp + 1
  | .cs _ as=>as.dp + 1
def Arms.dp:Arms->Nat
  | .nil=>0
  | .cons _ _ _ _ b r=>max b.dp r.dp
end
theorem Bd.dp_pos:∀ b:Bd,0 < b.dp
  | .give _=>by rw [Bd.dp]; exact Nat.zero_lt_one
  | .lt _ _ _=>by rw [Bd.dp]; lia
  | .hold _ _ _=>by rw [Bd.dp]; lia
  | .drop _ _=>by rw [Bd.dp]; lia
  | .loose _ _=>by rw [Bd.dp]; lia
  | .iff _ _ _=>by rw [Bd.dp]; lia
  | .cs _ _=>by rw [Bd.dp]; lia
theorem Yo:∀ {as:Arms} {q:ArmR},q∈as.l->q.b.dp<=as.dp
  | .nil,q,h=>by unfold Arms.l at h; cases h
  | .cons t xs m k b r,q,h=>by
    unfold Arms.l at h
    rw [Arms.dp]
    rcases List.mem_cons.mp h with rfl | h
    · exact Nat.le_max_left _ _
    · exact Nat.le_trans (Yo h) (Nat.le_max_right _ _)
theorem V0 {ow:Ow}:∀ {as:Arms} {q:ArmR},q∈as.l->OkAs ow as->OkBd ow q.b
  | .nil,q,h,_=>by unfold Arms.l at h; cases h
  | .cons t xs m k b r,q,h,o=>by
    unfold Arms.l at h
    rcases List.mem_cons.mp h with rfl | h
    · exact o.1
    · exact V0 h o.2
theorem Arms.fr_l (x:Str):∀ as:Arms,as.fr x=as.l.any fun q=>q.b.fr x && !decide (x∈q.ns)
  | .nil=>by unfold Arms.fr Arms.l; rfl
  | .cons t xs m k b r=>by unfold Arms.fr Arms.l; rw [Arms.fr_l x r]; rfl
def vO:Sp:=fun vs H Q _=>∃ (p:Addr) (d:Dd),vs=[.ref p]/\IsDd H d p/\(zI d).length<=1000/\∀ H' r,Same H H'->H r=none->H' r=some (.lst ((zI d).map V.str))->Q (.ref r) H'
def ww (n:Nat):Sp:=fun vs H Q _=>∃ (p:Addr) (x:Str) (b:Bd) (ow:Ow),vs=[.ref p,.str x]/\IsBd H b p/\OkBd ow b/\b.dp<=n/\∀ H',Same H H'->Q (.bl (b.fr x)) H'
section
variable {P:Program} {w:World} {K:PySem.W.Frag} {mg:Str->Option Value} {base:Heap} {f:Addr} {fd:FuncData}
theorem V1:FnScope ["_law_deed_here"] ["_law_deed_here"] (zo Ye):=.ok
theorem XZ (F:Fun K "_law_taken" "_law_taken" Ye f fd) (m_list:mg "list"=none):FnOk P w K mg base CX0 1 f fd ["_law_deed_here"] vO:=by
  refine F.by V1 (fun vs H Q E h=>?_) (fun cdv A outer s H vs Q E hr h=>?_)
  · obtain ⟨p,d,rfl,_⟩:=h
    rfl
  obtain ⟨p,d,rfl,hI,hl,q⟩:=h
  refine ⟨_,
    (zg (zx (tN zA (xT 0) zq)
      (zi (zp (zB zE))) zr)
    (zg (zx (tN zA (xT 0) zq)
      (zi (zp (zB (jA2 (xT 0) (xT 0))))) zr)
    (zg (zx (tN zA (xT 0) zq)
      (zi (zp (zu zZ (zB (jA1 (xT 0))) (zF yt rfl m_list PyProof.Rows.boot_list (jA1 (xT 0)))))) zr)
    (zi (zp (zF yt rfl m_list PyProof.Rows.boot_list (jA1 (xT 0)))))))),?_⟩
  have sl:=zK
  suffices oth:∀ {t g:Str} {q1:Addr} {xs:List V} {ns:List Str},H p=some (.tup (.str t :: .str g :: .ref q1 :: xs))->H q1=some (.tup (ns.map V.str))->t≠"num"->t≠"op"->t≠"ask"->(∀ H' r,Same H H'->H r=none->H' r=some (.lst (ns.map V.str))->Q (.ref r) H')->(tSeq _ (tSeq _ (tSeq _ _)):TS) { nx:=fun _ H'=>Q .non H',rt:=Q } [some (.ref p)] H by
    cases d with
    | num i =>
      have h0:H p=some (.tup [.str "num",.int i]):=hI
      exact ⟨_,rfl,ixT h0 aI0 ⟨rfl,_,rfl,iteT ⟨sN0,fun r hr=>q _ r (zh hr _) hr zf⟩⟩⟩
    | op o a b =>
      have h0:H p=some (.tup [.str "op",.str o,.str a,.str b]):=hI
      refine ⟨_,rfl,ixT h0 aI0 ⟨rfl,_,rfl,iteF (nxtC ?_)⟩⟩
      refine ⟨_,rfl,ixT h0 aI0 ⟨rfl,_,rfl,iteT ?_⟩⟩
      exact ⟨_,rfl,ixT h0 aI2 ⟨_,rfl,ixT h0 aI3 ⟨sN2,fun r hr=>q _ r (zh hr _) hr zf⟩⟩⟩
    | ask g ns =>
      obtain ⟨q1,h0,h1⟩:=hI
      refine ⟨_,rfl,ixT h0 aI0 ⟨rfl,_,rfl,iteF (nxtC ?_)⟩⟩
      refine ⟨_,rfl,ixT h0 aI0 ⟨rfl,_,rfl,iteF (nxtC ?_)⟩⟩
      refine ⟨_,rfl,ixT h0 aI0 ⟨rfl,_,rfl,iteT ?_⟩⟩
      refine ⟨_,rfl,ixT h0 aI1 ⟨sN1,fun l1 f1=>?_⟩⟩
      have s1:=zh (o:=.lst [.str g]) f1
      refine ⟨_,rfl,ixT (s1 _ _ h0) aI2 ⟨q1,_,rfl,.inr (SqT.of (s1 _ _ h1)),fun l2 f2=>?_⟩⟩
      have s2:=s1.new (o:=.lst (ns.map V.str)) f2
      refine ⟨l1,l2,_,_,rfl,rfl,old f2 zf,zf,?_,fun r hr=>q _ r (s2.new hr) (s2.free hr) zf⟩
      show 1 + (ns.map V.str).length<=_
      rw [List.length_map]
      have:ns.length + 1<=1000:=hl
      lia
    | mk t ns k=>obtain ⟨q1,h0,h1⟩:=hI; exact oth h0 h1 (by decide) (by decide) (by decide) q
    | call g ns=>obtain ⟨q1,h0,h1⟩:=hI; exact oth h0 h1 (by decide) (by decide) (by decide) q
    | fn g ns=>obtain ⟨q1,h0,h1⟩:=hI; exact oth h0 h1 (by decide) (by decide) (by decide) q
  intro t g q1 xs ns hp hq t1 t2 t3 q
  refine ⟨_,rfl,ixT hp aI0 ⟨rfl,_,rfl,iteE (decide_eq_false fun z=>t1 (V.str.inj z)) (nxtC ?_)⟩⟩
  refine ⟨_,rfl,ixT hp aI0 ⟨rfl,_,rfl,iteE (decide_eq_false fun z=>t2 (V.str.inj z)) (nxtC ?_)⟩⟩
  refine ⟨_,rfl,ixT hp aI0 ⟨rfl,_,rfl,iteE (decide_eq_false fun z=>t3 (V.str.inj z)) (nxtC ?_)⟩⟩
  exact ⟨_,rfl,ixT hp aI2 ⟨q1,_,rfl,.inr (SqT.of hq),fun r hr=>q _ r (zh hr _) hr zf⟩⟩
theorem scMeets:FnScope ["_law_body_here","_law_name_here","_law_arm_here"] lS7 (zo jU):=.ok
theorem X0 (F:Fun K "_law_meets" "_law_meets" jU f fd):FnOk P w K mg base CX0 1 f fd lS7 (ww 0):=by
  refine F.by scMeets (fun vs H Q E h=>?_) (fun cdv A outer s H vs Q E hr h=>?_)
  · obtain ⟨p,x,b,ow,rfl,_⟩:=h
    rfl
  obtain ⟨p,x,b,ow,rfl,_,_,hd,_⟩:=h
  exact absurd hd (Nat.not_le_of_gt b.dp_pos)
theorem V2 {n:Nat} (F:Fun K "_law_meets" "_law_meets" jU f fd) (GM:Ca P w K mg base CX0 (1 + n) "_law_meets" lS7 (ww n)) (GT:Ca P w K mg base CX0 1 "_law_taken" ["_law_deed_here"] vO):FnOk P w K mg base CX0 (1 + (n + 1)) f fd lS7 (ww (n + 1)):=by
  refine F.by scMeets (fun vs H Q E h=>?_) (fun cdv A outer s H vs Q E hr h=>?_)
  · obtain ⟨p,x,b,ow,rfl,_⟩:=h
    rfl
  obtain ⟨p,x,b,ow,rfl,hI,hok,hd,q⟩:=h
  have hr1:Room 1 _:=hr.mono (Nat.le_add_right 1 n)
  refine ⟨_,
    (zg (zx (tN zA (xT 0) zq)
      (zi (zp (z0 zA (xT 0) (jv 1) (yq _)))) zr)
    (zg (zx (jW.pt (xK (tN zA (xT 0) zq) (yP (tN zA (xT 0) zq))))
      (zi (zp (cA GM hr (jA2 (xT 0) (jv 1))))) zr)
    (zg (zx (tN zA (xT 0) zq)
      (zi (zp (YG (z0 zA (xT 0) (jv 1) (yq _)) (xR (Z0 (z0 vk (xT 0) (jv 1) (yq _)) (xR (cA GM hr (jA2 (xT 0) (jv 1))))))))) zr)
    (zg (zx (tN zA (xT 0) zq)
      (zi (zp (YG (z0 xA (jv 1) (cA GT hr1 (jA1 (xT 0))) (by with_unfolding_all rfl)) (xR (Z0 (z0 vk (xT 0) (jv 1) (yq _)) (xR (cA GM hr (jA2 (xT 0) (jv 1))))))))) zr)
    (zg (zx (tN zA (xT 0) (jv 1))
      (zi (zp yw)) zr)
    (zg (zx (tN zA (xT 0) zq)
      (zi (zp (YG (cA GM hr (jA2 (xT 0) (jv 1))) (xR (cA GM hr (jA2 (xT 0) (jv 1))))))) zr)
    (zg (zU PassesOwn.never rfl (yr (xT 0)) (gN 2 scMeets.nd)
      (zi (zx (jW.pt (wE (yY yE (jv 1) (xT 2) (by with_unfolding_all rfl)) (wg (zS (cA GM hr (jA2 (xT 2) (jv 1)))))))
        (zi (zp yw)) zr)))
    (zi (zp yw))))))))),?_⟩
  have sl:=zK
  have dstr:∀ (a b:Str),decide (V.str a=V.str b)=decide (b∈[a]):=fun a b=>by
    rw [decide_eq_decide,V.str.injEq,List.mem_singleton]
    exact eq_comm
  cases b with
  | give y =>
    have h0:H p=some (.tup [.str "give",.str y]):=hI
    refine ⟨_,rfl,ixT h0 aI0 ⟨rfl,_,rfl,iteT ?_⟩⟩
    refine ⟨_,rfl,ixT h0 aI1 ⟨_,rfl,rfl,?_⟩⟩
    show Q (V.bl (decide (V.str y=V.str x))) H
    have:=q _ (Same.refl _)
    rw [Bd.fr,<- dstr] at this
    exact this
  | drop y b =>
    obtain ⟨p1,h0,h1⟩:=hI
    rw [Bd.dp] at hd
    refine ⟨_,rfl,ixT h0 aI0 ⟨rfl,_,rfl,iteF (nxtC ?_)⟩⟩
    refine ⟨_,rfl,ixT h0 aI0 ⟨rfl,_,rfl,iteT (iteT ?_)⟩⟩
    exact ⟨_,rfl,ixT h0 aI2 ⟨_,rfl,p1,x,b,ow,rfl,h1,hok,Nat.le_of_succ_le_succ hd,fun H1 s1=>by have:=q H1 s1; rw [Bd.fr] at this; exact this⟩⟩
  | loose y b =>
    obtain ⟨p1,h0,h1⟩:=hI
    rw [Bd.dp] at hd
    refine ⟨_,rfl,ixT h0 aI0 ⟨rfl,_,rfl,iteF (nxtC ?_)⟩⟩
    refine ⟨_,rfl,ixT h0 aI0 ⟨rfl,_,rfl,iteF ⟨_,rfl,ixT h0 aI0 ⟨rfl,_,rfl,iteT ?_⟩⟩⟩⟩
    exact ⟨_,rfl,ixT h0 aI2 ⟨_,rfl,p1,x,b,ow,rfl,h1,hok,Nat.le_of_succ_le_succ hd,fun H1 s1=>by have:=q H1 s1; rw [Bd.fr] at this; exact this⟩⟩
  | hold y z b =>
    obtain ⟨p1,h0,h1⟩:=hI
    rw [Bd.dp] at hd
    rw [Bd.fr] at q
    refine ⟨_,rfl,ixT h0 aI0 ⟨rfl,_,rfl,iteF (nxtC ?_)⟩⟩
    refine ⟨_,rfl,ixT h0 aI0 ⟨rfl,_,rfl,iteF ⟨_,rfl,ixT h0 aI0 ⟨rfl,_,rfl,iteF (nxtC ?_)⟩⟩⟩⟩
    refine ⟨_,rfl,ixT h0 aI0 ⟨rfl,_,rfl,iteT ?_⟩⟩
    refine ⟨_,rfl,ixT h0 aI2 ⟨_,rfl,rfl,_,rfl,?_⟩⟩
    by_cases c:x∈[z]
    · refine zD ((dstr z x).trans (decide_eq_true c)) ?_
      have:=q _ (Same.refl _)
      rw [decide_eq_true c,Bool.or_true] at this
      exact this
    · refine iteE ((dstr z x).trans (decide_eq_false c)) ?_
      rw [decide_eq_false c,Bool.or_false] at q
      refine ⟨_,rfl,ixT h0 aI1 ⟨_,rfl,rfl,_,rfl,?_⟩⟩
      by_cases c2:x∈[y]
      · refine iteE (by rw [dstr,decide_eq_true c2]; rfl) ?_
        have:=q _ (Same.refl _)
        rw [decide_eq_true c2,Bool.not_true,Bool.and_false] at this
        exact this
      · refine zD (by rw [dstr,decide_eq_false c2]; rfl) ?_
        rw [decide_eq_false c2,Bool.not_false,Bool.and_true] at q
        exact ⟨_,rfl,ixT h0 aI3 ⟨_,rfl,p1,x,b,ow,rfl,h1,hok,Nat.le_of_succ_le_succ hd,q⟩⟩
  | lt y d b =>
    obtain ⟨p1,p2,h0,h1,h2⟩:=hI
    rw [Bd.dp] at hd
    rw [Bd.fr] at q
    refine ⟨_,rfl,ixT h0 aI0 ⟨rfl,_,rfl,iteF (nxtC ?_)⟩⟩
    refine ⟨_,rfl,ixT h0 aI0 ⟨rfl,_,rfl,iteF ⟨_,rfl,ixT h0 aI0 ⟨rfl,_,rfl,iteF (nxtC ?_)⟩⟩⟩⟩
    refine ⟨_,rfl,ixT h0 aI0 ⟨rfl,_,rfl,iteF (nxtC ?_)⟩⟩
    refine ⟨_,rfl,ixT h0 aI0 ⟨rfl,_,rfl,iteT ?_⟩⟩
    refine ⟨_,rfl,_,rfl,ixT h0 aI2 ⟨p1,d,rfl,h1,hok.1,fun H1 r1 s1 f1 g1=>?_⟩⟩
    refine ⟨r1,_,rfl,.inl (SqL.of g1),rfl,yH,_,rfl,?_⟩
    by_cases c:x∈zI d
    · refine zD (show inV _ _=true by rw [yp]; exact decide_eq_true c) ?_
      have:=q _ s1
      rw [decide_eq_true c,Bool.or_true] at this
      exact this
    · refine iteE (show inV _ _=false by rw [yp]; exact decide_eq_false c) ?_
      rw [decide_eq_false c,Bool.or_false] at q
      refine ⟨_,rfl,ixT (s1 _ _ h0) aI1 ⟨_,rfl,rfl,_,rfl,?_⟩⟩
      by_cases c2:x∈[y]
      · refine iteE (by rw [dstr,decide_eq_true c2]; rfl) ?_
        have:=q _ s1
        rw [decide_eq_true c2,Bool.not_true,Bool.and_false] at this
        exact this
      · refine zD (by rw [dstr,decide_eq_false c2]; rfl) ?_
        rw [decide_eq_false c2,Bool.not_false,Bool.and_true] at q
        exact ⟨_,rfl,ixT (s1 _ _ h0) aI3 ⟨_,rfl,p2,x,b,ow,rfl,h2.keep (.of s1),hok.2.2,Nat.le_of_succ_le_succ hd,fun H2 s2=>q _ (s1.trans s2)⟩⟩
  | iff y b c =>
    obtain ⟨p1,p2,h0,h1,h2⟩:=hI
    rw [Bd.dp] at hd
    rw [Bd.fr] at q
    have hd':=Nat.le_of_succ_le_succ hd
    have d1:=Nat.le_trans (Nat.le_max_left _ _) hd'
    have d2:=Nat.le_trans (Nat.le_max_right _ _) hd'
    refine ⟨_,rfl,ixT h0 aI0 ⟨rfl,_,rfl,iteF (nxtC ?_)⟩⟩
    refine ⟨_,rfl,ixT h0 aI0 ⟨rfl,_,rfl,iteF ⟨_,rfl,ixT h0 aI0 ⟨rfl,_,rfl,iteF (nxtC ?_)⟩⟩⟩⟩
    refine ⟨_,rfl,ixT h0 aI0 ⟨rfl,_,rfl,iteF (nxtC ?_)⟩⟩
    refine ⟨_,rfl,ixT h0 aI0 ⟨rfl,_,rfl,iteF (nxtC ?_)⟩⟩
    refine ⟨_,rfl,ixT h0 aI1 ⟨_,rfl,rfl,_,rfl,?_⟩⟩
    by_cases c1:x∈[y]
    · refine zD ((dstr y x).trans (decide_eq_true c1)) ?_
      have:=q _ (Same.refl _)
      rw [decide_eq_true c1,Bool.or_true] at this
      exact this
    · refine iteE ((dstr y x).trans (decide_eq_false c1)) (nxtC ?_)
      rw [decide_eq_false c1,Bool.or_false] at q
      refine ⟨_,rfl,ixT h0 aI0 ⟨rfl,_,rfl,iteT ?_⟩⟩
      refine ⟨_,rfl,ixT h0 aI2 ⟨_,rfl,p1,x,b,ow,rfl,h1,hok.1,d1,fun H1 s1=>⟨_,rfl,?_⟩⟩⟩
      cases e:b.fr x with
      | true =>
        refine iteT ?_
        have:=q _ s1
        rw [e,Bool.true_or] at this
        exact this
      | false =>
        refine iteF ?_
        rw [e,Bool.false_or] at q
        exact ⟨_,rfl,ixT (s1 _ _ h0) aI3 ⟨_,rfl,p2,x,c,ow,rfl,h2.keep (.of s1),hok.2,d2,fun H2 s2=>q _ (s1.trans s2)⟩⟩
  | cs y as =>
    obtain ⟨p1,ts,h0,h1,hA⟩:=hI
    rw [Bd.dp] at hd
    rw [Bd.fr,Arms.fr_l] at q
    have hd':=Nat.le_of_succ_le_succ hd
    have al:=hA.len
    refine ⟨_,rfl,ixT h0 aI0 ⟨rfl,_,rfl,iteF (nxtC ?_)⟩⟩
    refine ⟨_,rfl,ixT h0 aI0 ⟨rfl,_,rfl,iteF ⟨_,rfl,ixT h0 aI0 ⟨rfl,_,rfl,iteF (nxtC ?_)⟩⟩⟩⟩
    refine ⟨_,rfl,ixT h0 aI0 ⟨rfl,_,rfl,iteF (nxtC ?_)⟩⟩
    refine ⟨_,rfl,ixT h0 aI0 ⟨rfl,_,rfl,iteF (nxtC ?_)⟩⟩
    refine ⟨_,rfl,ixT h0 aI1 ⟨_,rfl,rfl,_,rfl,?_⟩⟩
    by_cases c1:x∈[y]
    · refine zD ((dstr y x).trans (decide_eq_true c1)) ?_
      have:=q _ (Same.refl _)
      rw [decide_eq_true c1,Bool.or_true] at this
      exact this
    · refine iteE ((dstr y x).trans (decide_eq_false c1)) (nxtC ?_)
      rw [decide_eq_false c1,Bool.or_false] at q
      refine ⟨_,rfl,ixT h0 aI0 ⟨rfl,_,rfl,iteF (nxtC ?_)⟩⟩
      refine ⟨_,rfl,ixT h0 aI2 ⟨p1,rfl,⟨_,SqT.of h1⟩,yK (xs:=ts.map V.ref) (fun i σ H'=>Same H H'/\(∃ z,σ=[some (.ref p),some (.str x),z])/\((as.l.take i).any fun q=>q.b.fr x && !decide (x∈q.ns))=false) ⟨Same.refl _,⟨none,rfl⟩,rfl⟩ (fun i σ H' _ h=>SqT.of (h.1 _ _ h1)) ?_ ?_⟩⟩
      · rintro i v σ H1 hv ⟨s1,⟨z,rfl⟩,ha⟩
        rw [List.getElem?_map] at hv
        obtain ⟨pa,hpa,rfl⟩:=Option.map_eq_some_iff.mp hv
        obtain ⟨a,q1,r1,e1,e2,e3,e4⟩:=hA.get hpa
        have hm:=List.mem_of_getElem? e1
        have e2':=s1 _ _ e2
        have tk:as.l.take (i + 1)=as.l.take i ++ [a]:=by rw [List.take_add_one,e1]; rfl
        have fin:∀ H2,Same H H2->(a.b.fr x && !decide (x∈a.ns))=false->(((as.l.take (i + 1)).any fun q=>q.b.fr x && !decide (x∈q.ns))=false):=fun H2 _ e=>by
          rw [tk,List.any_append,ha,Bool.false_or,List.any_cons,List.any_nil,Bool.or_false]
          exact e
        refine ⟨_,rfl,_,rfl,ixT e2' aI1 ⟨q1,_,rfl,.inr (SqT.of (s1 _ _ e3)),rfl,yH,_,rfl,?_⟩⟩
        by_cases c:x∈a.ns
        · refine iteE (show (!inV _ _)=false by rw [yp,decide_eq_true c]; rfl) (iteF (nxtC ⟨s1,⟨_,rfl⟩,fin _ s1 (by rw [decide_eq_true c]; simp)⟩))
        · refine zD (show (!inV _ _)=true by rw [yp,decide_eq_false c]; rfl) ?_
          refine ⟨_,rfl,ixT e2' aI4 ⟨_,rfl,r1,x,a.b,ow,rfl,e4.keep (.of s1),V0 hm hok.2,Nat.le_trans (Yo hm) hd',fun H2 s2=>⟨_,rfl,?_⟩⟩⟩
          cases e:a.b.fr x with
          | true =>
            refine iteT ?_
            have:=q _ (s1.trans s2)
            rw [List.any_eq_true.mpr ⟨a,hm,by rw [e,decide_eq_false c]; rfl⟩] at this
            exact this
          | false=>exact iteF (nxtC ⟨s1.trans s2,⟨_,rfl⟩,fin _ (s1.trans s2) (by rw [e]; rfl)⟩)
      · rintro σ H1 ⟨s1,_,ha⟩
        rw [List.length_map,al,List.take_of_length_le (Nat.le_refl _)] at ha
        have:=q _ s1
        rw [ha] at this
        exact this
end
end GN
namespace L2
open PySem
theorem vW {X:Cx} (K:PySem.W.Frag) (h:X.K=K:=by rfl):jOp X (compareOp .NotIn) (rIn K true):=h ▸ yE
end L2
namespace GN
open PySem L2 K11
def LnD (ow:Ow) (d:Dd):Prop:=(zI d).length<=1000/\OkD ow d/\(yM ow d).length=(zI d).length
def V3:Sp:=fun vs H Q _=>∃ (lm p od:Addr) (m:List Str) (d:Dd) (ow:Ow),vs=[.ref lm,.ref p,.ref od]/\H lm=some (.lst (m.map V.str))/\m.length<=1000000/\IsDd H d p/\OwAt H od ow/\LnD ow d/\∀ H' r,Same H H'->H' r=some (.lst ((xg ow d m).map V.str))->Q (.ref r) H'
section
variable {P:Program} {w:World} {K:PySem.W.Frag} {mg:Str->Option Value} {base:Heap} {f:Addr} {fd:FuncData}
theorem scLeft:FnScope ["_law_mine","_law_deed_here","_law_owns","_law_gone"] lS14 (zo Vj):=.ok
theorem Xf:(["_law_mine","_law_deed_here","_law_owns","_law_gone","_law_name_here","_law_own"]:List Str).Nodup:=by decide +kernel
theorem Qn:(["_law_mine","_law_deed_here","_law_owns","_law_gone","_law_name_here"]:List Str).Nodup:=by decide +kernel
theorem Qo (F:Fun K "_law_left" "_law_left" Vj f fd) (GT:Ca P w K mg base CX0 1 "_law_taken" ["_law_deed_here"] vO) (m_zip:mg "zip"=none):FnOk P w K mg base CX0 2 f fd lS14 V3:=by
  refine F.by scLeft (fun vs H Q E h=>?_) (fun cdv A outer s H vs Q E hr h=>?_)
  · obtain ⟨lm,p,od,m,d,ow,rfl,_⟩:=h
    rfl
  obtain ⟨lm,p,od,m,d,ow,rfl,hm,hml,hI,hO,hL,q⟩:=h
  refine ⟨_,
    (zg (zx (jW.pt (xK (tN zA (xT 1) zq) (yP (tN zA (xT 1) zq))))
      (zi (zp (jv 0))) zr)
    (zg (sE 3 scLeft.nd (cA GT hr (jA1 (jv 1))))
    (zg (zx (tN zA (xT 1) zq)
      (zi (sE 3 scLeft.nd (zW ["_law_name_here","_law_own"] rfl (xS rfl m_zip (jA2 (xT 1) (jZ hr (jv 2) (xT 1)))) (fun _ _ _ _ _=>(xa K (n:=2) rfl (zw (gN 4 Xf) (zw (gN 5 Xf) z6)))) (fun _ _ _ _ _=>(ya (zS (jv 5)))) (fun _ _ _ _ _=>(jv 4))))) zr)
    (zi (zp (zW ["_law_name_here"] rfl (zP (jv 0)) (fun _ _ _ _ _=>(gN 4 Qn)) (fun _ _ _ _ _=>(ya (yY (vW K) (jv 4) (jv 3) (by with_unfolding_all rfl)))) (fun _ _ _ _ _=>(jv 4)))))))),?_⟩
  have sl:=zK
  by_cases hn:(∃ i,d=.num i)\/∃ o a b,d=.op o a b
  · have e0:xg ow d m=m:=by
      unfold xg
      refine List.filter_eq_self.mpr fun x _=>?_
      rcases hn with ⟨i,rfl⟩ | ⟨o,a,b,rfl⟩ <;> (unfold xv; simp)
    rw [e0] at q
    rcases hn with ⟨i,rfl⟩ | ⟨o,a,b,rfl⟩
    · have h0:H p=some (.tup [.str "num",.int i]):=hI
      exact ⟨_,rfl,ixT h0 aI0 ⟨rfl,_,rfl,iteT (iteT ⟨_,rfl,q _ lm (Same.refl _) hm⟩)⟩⟩
    · have h0:H p=some (.tup [.str "op",.str o,.str a,.str b]):=hI
      exact ⟨_,rfl,ixT h0 aI0 ⟨rfl,_,rfl,iteF ⟨_,rfl,ixT h0 aI0 ⟨rfl,_,rfl,iteT ⟨_,rfl,q _ lm (Same.refl _) hm⟩⟩⟩⟩⟩
  · obtain ⟨wd,g,q1,xs,ns,h0,h1,l1,w1,w2,hd⟩:∃ (wd g:Str) (q1:Addr) (xs:List V) (ns:List Str),H p=some (.tup (.str wd :: .str g :: .ref q1 :: xs))/\H q1=some (.tup (ns.map V.str))/\ns.length<=1000/\wd≠"num"/\wd≠"op"/\((wd≠"call"/\xv ow d=zI d)\/(wd="call"/\d=.call g ns)):=by
      have hl:=hL.1
      cases d with
      | num i=>exact absurd (.inl ⟨_,rfl⟩) hn
      | op o a b=>exact absurd (.inr ⟨_,_,_,rfl⟩) hn
      | mk t ns k=>obtain ⟨r,g1,g2⟩:=hI; exact ⟨_,_,_,_,ns,g1,g2,hl,by decide,by decide,.inl ⟨by decide,rfl⟩⟩
      | call g ns=>obtain ⟨r,g1,g2⟩:=hI; exact ⟨_,_,_,_,ns,g1,g2,hl,by decide,by decide,.inr ⟨rfl,rfl⟩⟩
      | fn g ns=>obtain ⟨r,g1,g2⟩:=hI; exact ⟨_,_,_,_,ns,g1,g2,hl,by decide,by decide,.inl ⟨by decide,rfl⟩⟩
      | ask g ns=>obtain ⟨r,g1,g2⟩:=hI; exact ⟨_,_,_,_,ns,g1,g2,Nat.le_of_succ_le hl,by decide,by decide,.inl ⟨by decide,rfl⟩⟩
    refine ⟨_,rfl,ixT h0 aI0 ⟨rfl,_,rfl,iteE (decide_eq_false fun z=>w1 (V.str.inj z)) ⟨_,rfl,ixT h0 aI0 ⟨rfl,_,rfl,iteE (decide_eq_false fun z=>w2 (V.str.inj z)) (nxtC ?_)⟩⟩⟩⟩
    refine ⟨_,rfl,p,d,rfl,hI,hL.1,fun H1 r1 s1 f1 g1=>?_⟩
    refine ⟨_,rfl,ixT (s1 _ _ h0) aI0 ⟨rfl,_,rfl,?_⟩⟩
    suffices fin:∀ H2 r2,Same H H2->H2 r2=some (.lst ((xv ow d).map V.str))->(tRet (tLC (Wn K (tVar 0)) (ve 4) (Yy (tOp (rIn K true) (tVar 4) (tVar 3))) (tVar 4) 1):TS) { nx:=fun _ H'=>Q .non H',rt:=Q } [some (.ref lm),some (.ref p),some (.ref od),some (.ref r2)] H2 by
      rcases hd with ⟨hc,e⟩ | ⟨rfl,rfl⟩
      · exact iteE (decide_eq_false fun z=>hc (V.str.inj z)) (nxtC (fin H1 r1 s1 (by rw [e]; exact g1)))
      · obtain ⟨_,⟨bs,hb⟩,bl⟩:=hL
        have bl:bs.length=ns.length:=by
          have:((look ow g).getD []).length=ns.length:=bl
          rw [hb] at this
          exact this
        obtain ⟨kvs,o1,o2⟩:=hO.same s1
        obtain ⟨r,v1,v2⟩:=o2 g bs hb
        refine iteT ⟨_,rfl,ixT (s1 _ _ h0) aI2 ⟨_,rfl,_,rfl,ixT (s1 _ _ h0) aI1 ⟨od,.ref r,rfl,(by rw [<- v1]; exact DGet.k (k:=.inr g) o1),q1,r,false,false,_,_,rfl,SqK.t (s1 _ _ h1),SqK.t v2,wI (k:=false) (m:=false) (xs:=ns.map V.str) (ys:=bs.map V.bl) (by rw [List.length_map,List.length_map,bl]) (fun i τ zs H'=>Same H1 H'/\(∃ y y',τ=[some (.ref lm),some (.ref p),some (.ref od),some (.ref r1),y,y'])/\∃ us:List Str,zs=us.map V.str/\us.length<=i/\us=((((ns.zip bs).take i).filter (·.2)).map (·.1))) ⟨Same.refl _,⟨none,none,rfl⟩,[],rfl,Nat.le_refl _,rfl⟩ (fun i τ zs H' _ h=>⟨SqK.t (h.1 _ _ (s1 _ _ h1)),SqK.t (h.1 _ _ v2)⟩) ?_ ?_⟩⟩⟩
        · rintro i x y T τ zs H' hx hy hT' ⟨s7,⟨y1,y2,rfl⟩,us,rfl,ul,he⟩
          rw [List.getElem?_map] at hx hy
          obtain ⟨n,hn',rfl⟩:=Option.map_eq_some_iff.mp hx
          obtain ⟨b,hb',rfl⟩:=Option.map_eq_some_iff.mp hy
          have hi:i < ns.length:=(List.getElem?_eq_some_iff.mp hn').1
          have hz:(ns.zip bs)[i]?=some (n,b):=List.getElem?_zip_eq_some.mpr ⟨hn',hb'⟩
          have tk:(ns.zip bs).take (i + 1)=(ns.zip bs).take i ++ [(n,b)]:=by rw [List.take_add_one,hz]; rfl
          rw [tk,List.filter_append,List.map_append,<- he]
          cases b with
          | false=>exact ⟨T,_,rfl,SqT.of zf,rfl,_,_,rfl,_,_,rfl,rfl,_,rfl,_,rfl,iteF ⟨s7.new hT',⟨_,_,rfl⟩,us,rfl,by lia,by simp⟩⟩
          | true=>exact ⟨T,_,rfl,SqT.of zf,rfl,_,_,rfl,_,_,rfl,rfl,_,rfl,_,rfl,iteT ⟨_,rfl,by rw [List.length_map]; lia,s7.new hT',⟨_,_,rfl⟩,us ++ [n],by rw [List.map_append]; rfl,by rw [List.length_append]; show us.length + 1<=_; lia,by simp⟩⟩
        rintro τ zs H3 ⟨s3,_,us,rfl,ul,he⟩ l3 f3
        rw [List.length_map,List.take_of_length_le (by rw [List.length_zip]; lia)] at he
        subst he
        refine nxtC (fin _ l3 ((s1.trans s3).new f3) ?_)
        rw [zf]
        show _=some (HO.lst (((((ns.zip ((look ow g).getD [])).filter (·.2)).map (·.1))).map V.str))
        rw [hb]
        rfl
    intro H2 r2 s2 g2
    have hm2:=s2 _ _ hm
    refine ⟨_,rfl,lm,rfl,⟨_,SqL.of hm2⟩,ym (xs:=m.map V.str) (fun j τ ys H'=>H2=H'/\(∃ v,τ=[some (.ref lm),some (.ref p),some (.ref od),some (.ref r2),v])/\∃ us:List Str,ys=us.map V.str/\us.length<=j/\us=(m.take j).filter fun z=>decide (z ∉ xv ow d)) ⟨rfl,⟨none,rfl⟩,[],rfl,Nat.le_refl _,rfl⟩ (fun j τ ys H' _ h=>SqL.of (h.1 ▸ hm2)) ?_ ?_⟩
    · rintro j v τ ys H3 hv ⟨rfl,⟨v',rfl⟩,us,rfl,ul,he⟩
      rw [List.getElem?_map] at hv
      obtain ⟨x,hx,rfl⟩:=Option.map_eq_some_iff.mp hv
      have hj:=(List.getElem?_eq_some_iff.mp hx).1
      have tk:(m.take (j + 1)).filter (fun z=>decide (z ∉ xv ow d))=us ++ [x].filter fun z=>decide (z ∉ xv ow d):=by rw [List.take_add_one,hx,List.filter_append,he]; rfl
      rw [tk]
      refine ⟨_,rfl,_,rfl,r2,_,rfl,.inl (SqL.of g2),rfl,yH,_,rfl,?_⟩
      by_cases c:x∈xv ow d
      · refine iteE (show (!inV _ _)=false by rw [yp,decide_eq_true c]; rfl) ⟨rfl,⟨_,rfl⟩,us,rfl,by lia,by simp [c]⟩
      · refine zD (show (!inV _ _)=true by rw [yp,decide_eq_false c]; rfl) ⟨_,rfl,by rw [List.length_map]; lia,rfl,⟨_,rfl⟩,us ++ [x],by rw [List.map_append]; rfl,by rw [List.length_append]; show us.length + 1<=_; lia,by simp [c]⟩
    · rintro τ ys H3 ⟨rfl,_,us,rfl,ul,he⟩ r hr
      rw [List.length_map,List.take_of_length_le (Nat.le_refl _)] at he
      subst he
      exact q _ r (s2.new hr) zf
def armL (x:Str) (m:List Str) (a:ArmR):List Str:=(m.filter fun z=>decide (a.m="look"\/z≠x)) ++ a.ns
theorem lA_l {ow:Ow} {x:Str} {m:List Str}:∀ as:Arms,lA ow x as m=as.l.all fun a=>lT ow a.b (armL x m a)
  | .nil=>by unfold lA Arms.l; rfl
  | .cons t xs md k b r=>by unfold lA Arms.l; rw [lA_l r]; rfl
theorem Xg {ow:Ow} {l:List Str}:∀ {as:Arms} {a:ArmR},a∈as.l->TwA ow l as->TwB ow (a.ns ++ l) a.b
  | .nil,a,h,_=>by unfold Arms.l at h; cases h
  | .cons t xs m k b r,a,h,o=>by
    unfold Arms.l at h
    rcases List.mem_cons.mp h with rfl | h
    · exact o.2.1
    · exact Xg h o.2.2
theorem V4:∀ {as:Arms} {a:ArmR},a∈as.l->a.ns.length + a.b.binds.length<=as.binds.length
  | .nil,a,h=>by unfold Arms.l at h; cases h
  | .cons t xs m k b r,a,h=>by
    unfold Arms.l at h
    rw [Arms.binds,List.length_append,List.length_append]
    rcases List.mem_cons.mp h with rfl | h
    · show xs.length + b.binds.length<=_
      lia
    · have:=V4 h
      lia
def xx (n:Nat):Sp:=fun vs H Q _=>∃ (p lm od:Addr) (b:Bd) (m l:List Str) (ow:Ow),vs=[.ref p,.ref lm,.ref od]/\IsBd H b p/\H lm=some (.lst (m.map V.str))/\TwB ow l b/\OwAt H od ow/\b.dp<=n/\m.length + b.binds.length<=1000000/\∀ H',Same H H'->Q (.bl (lT ow b m)) H'
theorem scLT:FnScope ["_law_body_here","_law_mine","_law_owns","_law_name_here","_law_arm_here","_law_left_here"] lS4 (zo wZ):=.ok
theorem Yp {N:Nat} (F:Fun K "_law_tight" "_law_tight" wZ f fd):FnOk P w K mg base CX0 (1 + N) f fd lS4 (xx 0):=by
  rw [Nat.add_comm]
  refine F.by scLT (fun vs H Q E h=>?_) (fun cdv A outer s H vs Q E hr h=>?_)
  · obtain ⟨p,lm,od,b,m,l,ow,rfl,_⟩:=h
    rfl
  obtain ⟨p,lm,od,b,m,l,ow,rfl,_,_,_,_,hd,_⟩:=h
  exact absurd hd (Nat.not_le_of_gt b.dp_pos)
theorem X1 {N n:Nat} (F:Fun K "_law_tight" "_law_tight" wZ f fd) (hn:n < N) (GR:Ca P w K mg base CX0 (1 + N + n) "_law_tight" lS4 (xx n)) (GM:Ca P w K mg base CX0 (1 + N) "_law_meets" lS7 (ww N)) (GL:Ca P w K mg base CX0 2 "_law_left" lS14 V3) (m_list:mg "list"=none):FnOk P w K mg base CX0 (1 + N + (n + 1)) f fd lS4 (xx (n + 1)):=by
  refine F.by scLT (fun vs H Q E h=>?_) (fun cdv A outer s H vs Q E hr h=>?_)
  · obtain ⟨p,lm,od,b,m,l,ow,rfl,_⟩:=h
    rfl
  obtain ⟨p,lm,od,b,m,l,ow,rfl,hI,hm,ht,hO,hd,hz,q⟩:=h
  have hrM:Room (1 + N) _:=hr.mono (Nat.le_add_right _ n)
  have hr2:Room 2 _:=hrM.mono (by lia)
  refine ⟨_,
    (zg (zx (tN zA (xT 0) zq)
      (zi (zp (cA GR hr (jA3 (xT 0) (zu zZ (jv 1) (zB (jA1 (xT 0)))) (jv 2))))) zr)
    (zg (zx (tN zA (xT 0) zq)
      (zi (zp (cA GR hr (jA3 (xT 0) (wm [3] [] rfl (zP (jv 1)) (fun _ _ _ _ _=>(gN 3 scLT.nd)) (fun _ _ _ _ _=>(ya (tN vk (jv 3) (yx (yh K) (jv 0) zj (fun _ _=>rfl))))) (fun _ _ _ _ _=>(jv 3))) (jv 2))))) zr)
    (zg (zx (tN zA (xT 0) zq)
      (zi (zp (cA GR hr (jA3 (xT 0) (jv 1) (jv 2))))) zr)
    (zg (zU PassesOwn.never rfl (zP (jv 1)) (gN 3 scLT.nd)
      (zi (zx (xQ (zS (cA GM hrM (jA2 (jv 0) (jv 3)))))
        (zi (zp yw)) zr)))
    (zg (zx (tN zA (xT 0) zq)
      (zi (zp yw)) zr)
    (zg (zx (tN zA (xT 0) zq)
      (zi (zp (cA GR hr (jA3 (xT 0) (zu zZ (cA GL hr2 (jA3 (jv 1) (xT 0) (jv 2))) (zB (jA1 (xT 0)))) (jv 2))))) zr)
    (zg (zx (tN zA (xT 0) zq)
      (zi (zp (Z0 (cA GR hr (jA3 (xT 0) (jv 1) (jv 2))) (xR (cA GR hr (jA3 (xT 0) (jv 1) (jv 2))))))) zr)
    (zg (zU PassesOwn.never rfl (yr (xT 0)) (gN 4 scLT.nd)
      (zg (WJ [3] [] (i:=5) scLT.nd rfl (Or.inl rfl) rfl (zP (jv 1)) (fun _ _ _ _ _=>(gN 3 scLT.nd)) (fun _ _ _ _ _=>(ya (jW.pt (xK (tN zA (yx (yh K) (jv 4) zj (fun _ _=>rfl)) zq) (yP (tN vk (jv 3) (yx (yh K) (jv 0) zj (fun _ _=>rfl)))))))) (fun _ _ _ _ _=>(jv 3)))
      (zi (zx (xQ (zS (cA GR hr (jA3 (xT 4) (zu zZ (jv 5) (zF yt rfl m_list PyProof.Rows.boot_list (jA1 (xT 4)))) (jv 2)))))
        (zi (zp yw)) zr))))
    (zi (zp yw)))))))))),?_⟩
  have sl:=zK
  suffices pass:∀ {t:Str} {xs:List V},H p=some (.tup (.str t :: xs))->t≠"hold"->t≠"drop"->t≠"loose"->((m.all fun z=>b.fr z)=false->∀ H',Same H H'->Q (.bl false) H')->((m.all fun z=>b.fr z)=true->∀ H1 z,Same H H1->(?rest:TS) { nx:=fun _ H'=>Q .non H',rt:=Q } [some (.ref p),some (.ref lm),some (.ref od),z,none,none] H1)->(tSeq _ (tSeq _ (tSeq _ (tSeq _ ?rest))):TS) { nx:=fun _ H'=>Q .non H',rt:=Q } [some (.ref p),some (.ref lm),some (.ref od),none,none,none] H by
    cases b with
    | give y =>
      have h0:H p=some (.tup [.str "give",.str y]):=hI
      rw [lT] at q
      refine pass h0 (by decide) (by decide) (by decide) (fun e H' s'=>by have:=q H' s'; rw [e] at this; exact this) fun e H1 z s1=>?_
      have h0:=s1 _ _ h0
      have:=q H1 s1
      rw [e] at this
      exact ⟨_,rfl,ixT h0 aI0 ⟨rfl,_,rfl,iteT this⟩⟩
    | hold x y b =>
      obtain ⟨p1,h0,h1⟩:=hI
      rw [lT] at q
      rw [Bd.dp] at hd
      rw [Bd.binds,List.length_cons] at hz
      refine ⟨_,rfl,ixT h0 aI0 ⟨rfl,_,rfl,iteT ?_⟩⟩
      refine ⟨_,rfl,ixT h0 aI3 ⟨_,rfl,_,rfl,ixT h0 aI1 ⟨sN1,fun l1 f1=>?_⟩⟩⟩
      have s1:=zh (o:=.lst [.str x]) f1
      refine ⟨lm,l1,_,_,rfl,rfl,s1 _ _ hm,zf,by rw [List.length_map]; show m.length + 1<=_; lia,fun l2 f2=>?_⟩
      have s2:=s1.new (o:=.lst (m.map V.str ++ [.str x])) f2
      exact ⟨_,rfl,p1,l2,od,b,m ++ [x],_,ow,rfl,h1.keep (.of s2),by rw [zf,List.map_append]; rfl,ht,hO.same s2,Nat.le_of_succ_le_succ hd,by rw [List.length_append]; show m.length + 1 + _<=_; lia,fun H' s'=>q H' (s2.trans s')⟩
    | drop x b =>
      obtain ⟨p1,h0,h1⟩:=hI
      rw [lT] at q
      rw [Bd.dp] at hd
      rw [Bd.binds] at hz
      refine ⟨_,rfl,ixT h0 aI0 ⟨rfl,_,rfl,iteF (nxtC ?_)⟩⟩
      refine ⟨_,rfl,ixT h0 aI0 ⟨rfl,_,rfl,iteT ?_⟩⟩
      refine ⟨_,rfl,ixT h0 aI2 ⟨_,rfl,lm,rfl,⟨_,SqL.of hm⟩,ym (xs:=m.map V.str) (fun j τ ys H'=>H=H'/\(∃ v,τ=[some (.ref p),some (.ref lm),some (.ref od),v,none,none])/\∃ us:List Str,ys=us.map V.str/\us.length<=j/\us=(m.take j).filter fun z=>decide (z≠x)) ⟨rfl,⟨none,rfl⟩,[],rfl,Nat.le_refl _,rfl⟩ (fun j τ ys H' _ h=>SqL.of (h.1 ▸ hm)) ?_ ?_⟩⟩
      · rintro j v τ ys H3 hv ⟨rfl,⟨v',rfl⟩,us,rfl,ul,he⟩
        rw [List.getElem?_map] at hv
        obtain ⟨y,hy,rfl⟩:=Option.map_eq_some_iff.mp hv
        have hj:=(List.getElem?_eq_some_iff.mp hy).1
        have tk:(m.take (j + 1)).filter (fun z=>decide (z≠x))=us ++ [y].filter fun z=>decide (z≠x):=by rw [List.take_add_one,hy,List.filter_append,he]; rfl
        rw [tk]
        refine ⟨_,rfl,_,rfl,ixT h0 aI1 ⟨rfl,_,rfl,?_⟩⟩
        by_cases c:y=x
        · exact iteE (show (!decide (V.str y=V.str x))=false by rw [decide_eq_true (congrArg V.str c)]; rfl) ⟨rfl,⟨_,rfl⟩,us,rfl,by lia,by simp [c]⟩
        · exact zD (show (!decide (V.str y=V.str x))=true by rw [decide_eq_false fun z=>c (V.str.inj z)]; rfl) ⟨_,rfl,by rw [List.length_map]; lia,rfl,⟨_,rfl⟩,us ++ [y],by rw [List.map_append]; rfl,by rw [List.length_append]; show us.length + 1<=_; lia,by simp [c]⟩
      · rintro τ ys H3 ⟨rfl,_,us,rfl,ul,he⟩ r hr
        rw [List.length_map] at ul he
        rw [List.take_of_length_le (Nat.le_refl _)] at he
        have s1:=zh (o:=.lst (us.map V.str)) hr
        subst he
        exact ⟨_,rfl,p1,r,od,b,_,_,ow,rfl,h1.keep (.of s1),zf,ht,hO.same s1,Nat.le_of_succ_le_succ hd,by lia,fun H' s'=>q H' (s1.trans s')⟩
    | loose x b =>
      obtain ⟨p1,h0,h1⟩:=hI
      rw [lT] at q
      rw [Bd.dp] at hd
      rw [Bd.binds] at hz
      refine ⟨_,rfl,ixT h0 aI0 ⟨rfl,_,rfl,iteF (nxtC ?_)⟩⟩
      refine ⟨_,rfl,ixT h0 aI0 ⟨rfl,_,rfl,iteF (nxtC ?_)⟩⟩
      refine ⟨_,rfl,ixT h0 aI0 ⟨rfl,_,rfl,iteT ?_⟩⟩
      exact ⟨_,rfl,ixT h0 aI2 ⟨_,rfl,_,rfl,p1,lm,od,b,m,_,ow,rfl,h1,hm,ht,hO,Nat.le_of_succ_le_succ hd,hz,q⟩⟩
    | lt x d b =>
      obtain ⟨p1,p2,h0,h1,h2⟩:=hI
      rw [lT] at q
      rw [Bd.binds,List.length_cons] at hz
      refine pass h0 (by decide) (by decide) (by decide) (fun e H' s'=>by have:=q H' s'; rw [e] at this; exact this) fun e H1 z s1=>?_
      rw [e,Bool.true_and] at q
      rw [Bd.dp] at hd
      have h0:=s1 _ _ h0
      refine ⟨_,rfl,ixT h0 aI0 ⟨rfl,_,rfl,iteF (nxtC ?_)⟩⟩
      refine ⟨_,rfl,ixT h0 aI0 ⟨rfl,_,rfl,iteT ?_⟩⟩
      refine ⟨_,rfl,ixT h0 aI3 ⟨_,rfl,_,rfl,ixT h0 aI2 ⟨_,rfl,lm,p1,od,m,d,ow,rfl,s1 _ _ hm,by lia,h1.keep (.of s1),hO.same s1,ht.1,fun H2 r2 s2 g2=>?_⟩⟩⟩
      have h0:=s2 _ _ h0
      refine ⟨_,rfl,ixT h0 aI1 ⟨sN1,fun l1 f1=>?_⟩⟩
      have s3:=zh (o:=.lst [.str x]) f1
      have ll:(xg ow d m).length<=m.length:=List.length_filter_le _ _
      refine ⟨r2,l1,_,_,rfl,rfl,s3 _ _ g2,zf,by rw [List.length_map]; show (xg ow d m).length + 1<=_; lia,fun l2 f2=>?_⟩
      have s4:=s3.new (o:=.lst ((xg ow d m).map V.str ++ [.str x])) f2
      have s5:=(s1.trans s2).trans s4
      exact ⟨_,rfl,p2,l2,od,b,xg ow d m ++ [x],_,ow,rfl,h2.keep (.of s5),by rw [zf,List.map_append]; rfl,ht.2,hO.same s5,Nat.le_of_succ_le_succ hd,by rw [List.length_append]; show (xg ow d m).length + 1 + _<=_; lia,fun H' s'=>q H' (s5.trans s')⟩
    | iff x b c =>
      obtain ⟨p1,p2,h0,h1,h2⟩:=hI
      rw [lT] at q
      rw [Bd.binds,List.length_append] at hz
      refine pass h0 (by decide) (by decide) (by decide) (fun e H' s'=>by have:=q H' s'; rw [e] at this; exact this) fun e H1 z s1=>?_
      rw [e,Bool.true_and] at q
      rw [Bd.dp] at hd
      have hd':=Nat.le_of_succ_le_succ hd
      have d1:=Nat.le_trans (Nat.le_max_left _ _) hd'
      have d2:=Nat.le_trans (Nat.le_max_right _ _) hd'
      have h0:=s1 _ _ h0
      refine ⟨_,rfl,ixT h0 aI0 ⟨rfl,_,rfl,iteF (nxtC ?_)⟩⟩
      refine ⟨_,rfl,ixT h0 aI0 ⟨rfl,_,rfl,iteF (nxtC ?_)⟩⟩
      refine ⟨_,rfl,ixT h0 aI0 ⟨rfl,_,rfl,iteT ?_⟩⟩
      refine ⟨_,rfl,ixT h0 aI2 ⟨_,rfl,_,rfl,p1,lm,od,b,m,_,ow,rfl,h1.keep (.of s1),s1 _ _ hm,ht.1,hO.same s1,d1,by lia,fun H2 s2=>⟨_,rfl,?_⟩⟩⟩
      cases e2:lT ow b m with
      | false =>
        refine iteF ?_
        have:=q _ (s1.trans s2)
        rw [e2,Bool.false_and] at this
        exact this
      | true =>
        refine iteT ?_
        rw [e2,Bool.true_and] at q
        have s12:=s1.trans s2
        exact ⟨_,rfl,ixT (s2 _ _ h0) aI3 ⟨_,rfl,_,rfl,p2,lm,od,c,m,_,ow,rfl,h2.keep (.of s12),s12 _ _ hm,ht.2,hO.same s12,d2,by lia,fun H' s'=>q H' (s12.trans s')⟩⟩
    | cs x as =>
      obtain ⟨p1,ts,h0,h1,hA⟩:=hI
      rw [lT,lA_l] at q
      rw [Bd.binds] at hz
      refine pass h0 (by decide) (by decide) (by decide) (fun e H' s'=>by have:=q H' s'; rw [e] at this; exact this) fun e H1 z s1=>?_
      rw [e,Bool.true_and] at q
      rw [Bd.dp] at hd
      have hd':=Nat.le_of_succ_le_succ hd
      have h0:=s1 _ _ h0
      have al:=hA.len
      refine ⟨_,rfl,ixT h0 aI0 ⟨rfl,_,rfl,iteF (nxtC ?_)⟩⟩
      refine ⟨_,rfl,ixT h0 aI0 ⟨rfl,_,rfl,iteF (nxtC ?_)⟩⟩
      refine ⟨_,rfl,ixT h0 aI0 ⟨rfl,_,rfl,iteF (nxtC ?_)⟩⟩
      refine ⟨_,rfl,ixT h0 aI2 ⟨p1,rfl,⟨_,SqT.of (s1 _ _ h1)⟩,yK (xs:=ts.map V.ref) (fun i σ H'=>Same H1 H'/\(∃ z z4 z5,σ=[some (.ref p),some (.ref lm),some (.ref od),z,z4,z5])/\((as.l.take i).all fun a=>lT ow a.b (armL x m a))=true) ⟨Same.refl _,⟨_,_,_,rfl⟩,rfl⟩ (fun i σ H' _ h=>SqT.of (h.1 _ _ (s1 _ _ h1))) ?_ ?_⟩⟩
      · rintro i v σ H2 hv ⟨s2,⟨z,z4,z5,rfl⟩,ha⟩
        rw [List.getElem?_map] at hv
        obtain ⟨pa,hpa,rfl⟩:=Option.map_eq_some_iff.mp hv
        obtain ⟨a,q1,r1,e1,e2,e3,e4⟩:=hA.get hpa
        have hm':=List.mem_of_getElem? e1
        have s12:=s1.trans s2
        have e2':=s12 _ _ e2
        have hm2:=s12 _ _ hm
        have h02:=s2 _ _ h0
        have abl:=V4 hm'
        have tk:as.l.take (i + 1)=as.l.take i ++ [a]:=by rw [List.take_add_one,e1]; rfl
        refine ⟨_,rfl,lm,rfl,⟨_,SqL.of hm2⟩,ym (xs:=m.map V.str) (fun j τ ys H'=>H2=H'/\(∃ v,τ=[some (.ref p),some (.ref lm),some (.ref od),v,some (.ref pa),z5])/\∃ us:List Str,ys=us.map V.str/\us.length<=j/\us=(m.take j).filter fun z=>decide (a.m="look"\/z≠x)) ⟨rfl,⟨none,rfl⟩,[],rfl,Nat.le_refl _,rfl⟩ (fun j τ ys H' _ h=>SqL.of (h.1 ▸ hm2)) ?_ ?_⟩
        · rintro j v τ ys H3 hv ⟨rfl,⟨v',rfl⟩,us,rfl,ul,he⟩
          rw [List.getElem?_map] at hv
          obtain ⟨y,hy,rfl⟩:=Option.map_eq_some_iff.mp hv
          have hj:=(List.getElem?_eq_some_iff.mp hy).1
          have tk:(m.take (j + 1)).filter (fun z=>decide (a.m="look"\/z≠x))=us ++ [y].filter fun z=>decide (a.m="look"\/z≠x):=by rw [List.take_add_one,hy,List.filter_append,he]; rfl
          rw [tk]
          refine ⟨_,rfl,ixT e2' aI2 ⟨rfl,_,rfl,?_⟩⟩
          by_cases c1:a.m="look"
          · exact zD (decide_eq_true (congrArg V.str c1)) (iteT ⟨_,rfl,by rw [List.length_map]; lia,rfl,⟨_,rfl⟩,us ++ [y],by rw [List.map_append]; rfl,by rw [List.length_append]; show us.length + 1<=_; lia,by simp [c1]⟩)
          · refine iteE (decide_eq_false fun z=>c1 (V.str.inj z)) ⟨_,rfl,_,rfl,ixT h02 aI1 ⟨rfl,_,rfl,?_⟩⟩
            by_cases c:y=x
            · exact iteE (show (!decide (V.str y=V.str x))=false by rw [decide_eq_true (congrArg V.str c)]; rfl) ⟨rfl,⟨_,rfl⟩,us,rfl,by lia,by simp [c,c1]⟩
            · exact zD (show (!decide (V.str y=V.str x))=true by rw [decide_eq_false fun z=>c (V.str.inj z)]; rfl) ⟨_,rfl,by rw [List.length_map]; lia,rfl,⟨_,rfl⟩,us ++ [y],by rw [List.map_append]; rfl,by rw [List.length_append]; show us.length + 1<=_; lia,by simp [c,c1]⟩
        · rintro τ ys H3 ⟨rfl,_,us,rfl,ul,he⟩ r hr
          rw [List.length_map] at ul he
          rw [List.take_of_length_le (Nat.le_refl _)] at he
          have s3:=zh (o:=.lst (us.map V.str)) hr
          have e2'':=s3 _ _ e2'
          have g3:=zf (H:=H2) (a:=r) (o:=.lst (us.map V.str))
          refine ⟨_,rfl,ixT e2'' aI4 ⟨_,rfl,_,rfl,ixT e2'' aI1 ⟨q1,_,rfl,.inr (SqT.of (s3 _ _ (s12 _ _ e3))),fun l4 f4=>?_⟩⟩⟩
          have s4:=zh (o:=.lst (a.ns.map V.str)) f4
          refine ⟨r,l4,_,_,rfl,rfl,s4 _ _ g3,zf,by rw [List.length_map,List.length_map]; lia,fun l5 f5=>?_⟩
          have s5:=(s3.trans s4).new (o:=.lst (us.map V.str ++ a.ns.map V.str)) f5
          have s15:=s12.trans s5
          have eL:us ++ a.ns=armL x m a:=by rw [he]; rfl
          refine ⟨_,rfl,r1,l5,od,a.b,armL x m a,_,ow,rfl,e4.keep (.of s15),by rw [zf,<- eL,List.map_append],Xg hm' ht.2.2,hO.same s15,Nat.le_trans (Yo hm') hd',by rw [<- eL,List.length_append]; lia,fun H6 s6=>⟨_,rfl,?_⟩⟩
          cases e6:lT ow a.b (armL x m a) with
          | false =>
            refine iteT ?_
            have:=q _ (s15.trans s6)
            rw [show (as.l.all fun a=>lT ow a.b (armL x m a))=false from by
              rw [Bool.eq_false_iff]
              intro z
              have:=List.all_eq_true.mp z a hm'
              rw [e6] at this
              cases this] at this
            exact this
          | true =>
            refine iteF (nxtC ⟨(s2.trans s5).trans s6,⟨_,_,_,rfl⟩,?_⟩)
            rw [tk,List.all_append,ha,Bool.true_and,List.all_cons,List.all_nil,e6]
            rfl
      · rintro σ H2 ⟨s2,_,ha⟩
        rw [List.length_map,al,List.take_of_length_le (Nat.le_refl _)] at ha
        have:=q _ (s1.trans s2)
        rw [ha] at this
        exact this
  intro t xs h0 t1 t2 t3 qf qt
  refine ⟨_,rfl,ixT h0 aI0 ⟨rfl,_,rfl,iteE (decide_eq_false fun z=>t1 (V.str.inj z)) (nxtC ?_)⟩⟩
  refine ⟨_,rfl,ixT h0 aI0 ⟨rfl,_,rfl,iteE (decide_eq_false fun z=>t2 (V.str.inj z)) (nxtC ?_)⟩⟩
  refine ⟨_,rfl,ixT h0 aI0 ⟨rfl,_,rfl,iteE (decide_eq_false fun z=>t3 (V.str.inj z)) (nxtC ?_)⟩⟩
  refine ⟨_,rfl,lm,rfl,⟨_,SqL.of hm⟩,yS (xs:=m.map V.str) (fun i σ H'=>Same H H'/\(∃ z,σ=[some (.ref p),some (.ref lm),some (.ref od),z,none,none])/\((m.take i).all fun z=>b.fr z)=true) ⟨Same.refl _,⟨none,rfl⟩,rfl⟩ (fun i σ H' _ h=>SqL.of (h.1 _ _ hm)) ?_ ?_⟩
  · rintro i v σ H1 hv ⟨s1,⟨z,rfl⟩,ha⟩
    rw [List.getElem?_map] at hv
    obtain ⟨y,hy,rfl⟩:=Option.map_eq_some_iff.mp hv
    have tk:m.take (i + 1)=m.take i ++ [y]:=by rw [List.take_add_one,hy]; rfl
    refine ⟨_,rfl,_,rfl,p,y,b,ow,rfl,hI.keep (.of s1),ht.ok,Nat.le_trans hd hn,fun H2 s2=>⟨_,rfl,?_⟩⟩
    cases e:b.fr y with
    | false =>
      refine iteT (qf ?_ H2 (s1.trans s2))
      rw [Bool.eq_false_iff]
      intro z
      have:=List.all_eq_true.mp z y (List.mem_of_getElem? hy)
      rw [e] at this
      cases this
    | true =>
      refine iteF (nxtC ⟨s1.trans s2,⟨_,rfl⟩,?_⟩)
      rw [tk,List.all_append,ha,Bool.true_and,List.all_cons,List.all_nil,e]
      rfl
  · rintro σ H1 ⟨s1,⟨z,rfl⟩,ha⟩
    rw [List.length_map,List.take_of_length_le (Nat.le_refl _)] at ha
    exact qt ha H1 z s1
end
theorem V5 {j n:Nat} (h:j < n):seqIndex? (j:Int) n=some j:=by
  unfold seqIndex?
  simp
  lia
theorem xF {α β:Type} (g:α->β):∀ (l:List α) (j:Nat),(l.map g).eraseIdx j=(l.eraseIdx j).map g
  | [],_=>rfl
  | _ :: _,0=>rfl
  | a :: l,j + 1=>by show g a :: (l.map g).eraseIdx j=g a :: (l.eraseIdx j).map g; rw [xF g l j]
theorem vP {X:Cx}:jMt X "list.pop" WA:=⟨WB⟩
structure Wg where
  z:Str
  b:Bool
  T:List (Str × Nat × Nat)
  D:List (Str × List Bool)
  fl:Bool
structure WgOk (o:Wg):Prop where
  z:o.z.length<=6
  T:∀ t∈o.T,t.2.1<=9
  T0:∃ t,o.T[0]?=some t/\t.2.1=0
  Tn:o.T.length<=11
  Dn:o.D.length=3
  D:∀ d∈o.D,d.2.length<=3
  Dd:(o.D.map (·.1)).Nodup
def TsAt {α:Type} (R:α->Hp->Addr->Prop) (H:Hp) (l:List α) (ts:List Addr):Prop:=l.length=ts.length/\∀ (i:Nat) (a:α) (t:Addr),l[i]?=some a->ts[i]?=some t->R a H t
theorem TsAt.keep {α:Type} {R:α->Hp->Addr->Prop} {H H':Hp} {l:List α} {ts:List Addr} (h:TsAt R H l ts) (k:∀ a t,R a H t->R a H' t):TsAt R H' l ts:=⟨h.1,fun i a t h1 h2=>k _ _ (h.2 i a t h1 h2)⟩
theorem TsAt.at {α:Type} {R:α->Hp->Addr->Prop} {H:Hp} {l:List α} {ts:List Addr} {i:Nat} {t:Addr} (h:TsAt R H l ts) (ht:ts[i]?=some t):∃ a,l[i]?=some a/\R a H t:=by
  have hi:=(List.getElem?_eq_some_iff.mp ht).1
  have e:l[i]?=some (l[i]'(by rw [h.1]; exact hi)):=List.getElem?_eq_getElem _
  exact ⟨_,e,h.2 i _ t e ht⟩
theorem TsAt.snoc {α:Type} {R:α->Hp->Addr->Prop} {H:Hp} {l:List α} {ts:List Addr} {a:α} {t:Addr} (h:TsAt R H l ts) (ha:R a H t):TsAt R H (l ++ [a]) (ts ++ [t]):=by
  refine ⟨by rw [List.length_append,List.length_append,h.1]; rfl,fun i x y h1 h2=>?_⟩
  by_cases c:i < l.length
  · rw [List.getElem?_append_left c] at h1
    rw [List.getElem?_append_left (by rw [<- h.1]; exact c)] at h2
    exact h.2 i x y h1 h2
  · rw [List.getElem?_append_right (by lia)] at h1
    rw [List.getElem?_append_right (by rw [<- h.1]; lia),<- h.1] at h2
    match hk:i - l.length,h1,h2 with
    | 0,h1,h2=>cases h1; cases h2; exact ha
    | n + 1,h1,h2=>simp at h1
def tgR (a:Str × Nat × Nat) (H:Hp) (t:Addr):Prop:=H t=some (.tup [.str a.1,.int (a.2.1:Nat),.int (a.2.2:Nat)])
def dfR (a:Str × List Bool) (H:Hp) (t:Addr):Prop:=∃ q,H t=some (.tup [.str a.1,.ref q])/\H q=some (.tup (a.2.map V.bl))
theorem tgR.tk {a:Str × Nat × Nat} {H H':Hp} {t:Addr} (k:Tups H H') (h:tgR a H t):tgR a H' t:=k _ _ h
theorem dfR.tk {a:Str × List Bool} {H H':Hp} {t:Addr} (k:Tups H H') (h:dfR a H t):dfR a H' t:=let ⟨q,h1,h2⟩:=h; ⟨q,k _ _ h1,k _ _ h2⟩
def WlAt (H:Hp) (wl:Addr) (o:Wg):Prop:=∃ (tl dl:Addr) (ts us:List Addr),H wl=some (.lst [.str o.z,.bl o.b,.ref tl,.ref dl,.bl o.fl])/\H tl=some (.lst (ts.map V.ref))/\TsAt tgR H o.T ts/\H dl=some (.lst (us.map V.ref))/\TsAt dfR H o.D us
section
variable {K:PySem.W.Frag} {st wl lm:Addr} {B B':Nat} {H0 H H':Hp} {o:Wg} {M M':List Str}
theorem WlAt.kp (h:WlAt H wl o) (S:Sta K H st B) (k:Kp st H H'):WlAt H' wl o:=by
  obtain ⟨tl,dl,ts,us,h1,h2,h3,h4,h5⟩:=h
  have t:=k.tups S
  exact ⟨tl,dl,ts,us,k.k _ _ (S.neW h1) h1,k.k _ _ (S.neR h2) h2,h3.keep fun _ _ z=>z.tk t,k.k _ _ (S.neR h4) h4,h5.keep fun _ _ z=>z.tk t⟩
structure Hd (K:PySem.W.Frag) (st wl:Addr) (o:Wg) (H0 H:Hp) (lm:Addr) (M:List Str) (B:Nat):Prop where
  ok:WgOk o
  s0:∃ B0,Sta K H0 st B0
  w:WlAt H0 wl o
  f:H0 lm=none
  kp:Kp st H0 H
  s:Sta K H st B
  m:H lm=some (.lst (M.map V.str))
theorem Hd.wa (h:Hd K st wl o H0 H lm M B):WlAt H wl o:=let ⟨_,s0⟩:=h.s0; h.w.kp s0 h.kp
theorem Hd.ne (h:Hd K st wl o H0 H lm M B):lm≠st:=let ⟨_,s0⟩:=h.s0; s0.ne h.f
theorem Hd.go (h:Hd K st wl o H0 H lm M B) (k:Kp st H H') (s:Sta K H' st B'):Hd K st wl o H0 H' lm M B':=⟨h.ok,h.s0,h.w,h.f,h.kp.trans k,s,k.k _ _ h.ne h.m⟩
theorem Hd.same (h:Hd K st wl o H0 H lm M B) (s:Same H H'):Hd K st wl o H0 H' lm M B:=h.go (.of s) (h.s.same s)
theorem Hd.mono (h:Hd K st wl o H0 H lm M B) (l:B<=B'):Hd K st wl o H0 H lm M B':=⟨h.ok,h.s0,h.w,h.f,h.kp,h.s.mono l,h.m⟩
theorem Hd.set (h:Hd K st wl o H0 H lm M B):Hd K st wl o H0 (upd H lm (.lst (M'.map V.str))) lm M' B/\Tups H (upd H lm (.lst (M'.map V.str))):=by
  obtain ⟨B0,s0⟩:=h.s0
  exact ⟨⟨h.ok,h.s0,h.w,h.f,h.kp.put h.f,s0.put h.f h.kp h.s,zf⟩,fun p xs q=>by rw [zk fun e=>by rw [e,h.m] at q; cases q]; exact q⟩
theorem Hd.put (h:Hd K st wl o H0 H lm M B) {p:Addr} {xs:List V} {u:HO} (hp:H0 p=none) (n:p≠lm) (e:H p=some (.lst xs)):Hd K st wl o H0 (upd H p u) lm M B/\Tups H (upd H p u):=by
  obtain ⟨B0,s0⟩:=h.s0
  exact ⟨⟨h.ok,h.s0,h.w,h.f,h.kp.put hp,s0.put hp h.kp h.s,by rw [zk (Ne.symm n)]; exact h.m⟩,fun q ys z=>by rw [zk fun x=>by rw [x,e] at z; cases z]; exact z⟩
theorem Hd.new (h:Hd K st wl o H0 H lm M B) {p:Addr} (hp:H p=none):H0 p=none/\p≠lm/\p≠st:=by
  refine ⟨h.kp.free (h.s.ne hp) hp,fun e=>?_,h.s.ne hp⟩
  rw [e,h.m] at hp
  cases hp
end
def ZC:Sp:=fun vs H Q _=>∃ (a b:Bool),vs=[.bl a,.bl b]/\Q (.bl (a == b)) H
def j3 (K:PySem.W.Frag):Sp:=fun vs H Q _=>∃ (st lm:Addr) (n:Nat) (M:List Str) (B:Nat) (H0:Hp) (wl:Addr) (o:Wg),vs=[.ref st,.ref lm,.int (n:Nat)]/\Hd K st wl o H0 H lm M B/\n<=M.length/\n<=100/\M.length<=1000/\B + 200 < LIM/\∀ (H':Hp) (r:Addr) (N M':List Str),Hd K st wl o H0 H' lm M' (B + n)->Tups H H'->M'.length + n=M.length->(∀ x∈M',x∈M)->H' r=some (.tup (N.map V.str))->N.length=n->Q (.ref r) H'
section
variable {P:Program} {w:World} {K:PySem.W.Frag} {mg:Str->Option Value} {base:Heap} {f:Addr} {fd:FuncData}
theorem scSome:FnScope ["_law_state","_law_mine","_law_many","_law_names","_law_k"] lS8 (zo Vg):=.ok
theorem Qp (F:Fun K "_law_some" "_law_some" Vg f fd) (GD:Ca P w K mg base CX0 1 "_law_draw" lS2 (yv K)) (m_range:mg "range"=none) (m_len:mg "len"=none) (m_tuple:mg "tuple"=none):FnOk P w K mg base CX0 2 f fd lS8 (j3 K):=by
  refine F.by scSome (fun vs H Q E h=>?_) (fun cdv A outer s H vs Q E hr h=>?_)
  · obtain ⟨st,lm,n,M,B,H0,wl,o,rfl,_⟩:=h
    rfl
  obtain ⟨st,lm,n,M,B,H0,wl,o,rfl,hd,hn,hn9,hM,hB,q⟩:=h
  refine ⟨_,
    (zg (sE 3 scSome.nd (zB zE))
    (zg (zU PassesOwn.never rfl (yg rfl m_range (jA1 (jv 2))) (gN 4 scSome.nd)
      (zi (yf (yA PySem.F.plainAttrs_list PySem.F.slot_list_append PySem.F.type_list_append zQ (jv 3) (jA1 (yA PySem.F.plainAttrs_list PySem.F.slot_list_pop PySem.F.type_list_pop vP (jv 1) (jA1 (cA GD hr (jA2 (jv 0) (jL m_len (jv 1)))))))))))
    (zi (zp (zF zC rfl m_tuple PyProof.Rows.boot_tuple (jA1 (jv 3))))))),?_⟩
  have sl:=zK
  have LM:LIM=4611686018427387904:=rfl
  rw [LM] at hB
  refine ⟨sN0,fun nl hnl=>?_⟩
  obtain ⟨fn0,nlm,nst⟩:=hd.new hnl
  have s1:=zh (o:=.lst []) hnl
  refine ⟨_,rfl,_,rfl,by lia,by lia,wA (n:=((n:Nat):Int).toNat) (fun i σ H'=>∃ (N M':List Str) (z:Option V),σ=[some (.ref st),some (.ref lm),some (.int (n:Nat)),some (.ref nl),z]/\Hd K st wl o H0 H' lm M' (B + i)/\Tups H H'/\H' nl=some (.lst (N.map V.str))/\N.length=i/\M'.length + i=M.length/\∀ x∈M',x∈M) ⟨[],M,none,rfl,hd.same s1,.of s1,zf,rfl,rfl,fun _ z=>z⟩ ?_ ?_⟩
  · rintro i σ H1 hi ⟨N,M',z,rfl,h1,t1,g1,nl1,ml1,sub⟩
    rw [Int.toNat_natCast] at hi
    refine ⟨_,rfl,.inl ⟨rfl,_,SqL.of g1⟩,_,rfl,.inl ⟨rfl,_,SqL.of h1.m⟩,_,rfl,_,rfl,lm,_,rfl,.inl (SqL.of h1.m),st,((M'.map V.str).length:Nat),B + i,rfl,h1.s,by rw [LM]; lia,by rw [List.length_map]; lia,fun H2 r k2 S2 r0 r1=>?_⟩
    rw [List.length_map] at r1
    obtain ⟨j,rfl⟩:∃ j:Nat,r=(j:Int):=⟨r.toNat,by lia⟩
    have hj:j < M'.length:=by lia
    have h2:=h1.go k2 S2
    have g2:=k2.k _ _ nst g1
    have t2:=t1.trans (k2.tups h1.s)
    refine ⟨lm,_,_,j,_,rfl,rfl,h2.m,by lia,by lia,V5 (by rw [List.length_map]; exact hj),(by rw [List.getElem?_map,List.getElem?_eq_getElem hj]; rfl),?_⟩
    have e3:(M'.map V.str).eraseIdx j=(M'.eraseIdx j).map V.str:=xF _ _ _
    rw [e3]
    obtain ⟨h3,t3⟩:=h2.set (M':=M'.eraseIdx j)
    have g3:upd H2 lm (.lst ((M'.eraseIdx j).map V.str)) nl=some (.lst (N.map V.str)):=by rw [zk nlm]; exact g2
    refine ⟨nl,_,_,rfl,rfl,g3,by rw [List.length_map]; lia,?_⟩
    obtain ⟨h4,t4⟩:=h3.put (u:=.lst (N.map V.str ++ [.str M'[j]])) fn0 nlm g3
    refine ⟨N ++ [M'[j]],M'.eraseIdx j,_,rfl,h4,(t2.trans t3).trans t4,by rw [zf,List.map_append]; rfl,by rw [List.length_append,nl1]; rfl,?_,fun x hx=>sub x (List.mem_of_mem_eraseIdx hx)⟩
    rw [List.length_eraseIdx_of_lt hj]
    lia
  · rintro σ H1 ⟨N,M',z,rfl,h1,t1,g1,nl1,ml1,sub⟩
    rw [Int.toNat_natCast] at h1 nl1 ml1
    refine ⟨_,rfl,nl,_,rfl,.inl ⟨SqL.of g1,fun p hp=>?_⟩⟩
    have s2:=zh (o:=.tup (N.map V.str)) hp
    exact q _ p N M' (h1.same s2) (t1.trans (.of s2)) ml1 sub zf nl1
def Xh (K:PySem.W.Frag):Sp:=fun vs H Q _=>∃ (st lm ll po pm:Addr) (M L:List Str) (B:Nat) (H0:Hp) (wl:Addr) (o:Wg) (g:Str) (ms:List Bool),vs=[.ref st,.ref lm,.ref ll,.ref po]/\Hd K st wl o H0 H lm M B/\H0 ll=some (.lst (L.map V.str))/\H po=some (.tup [.str g,.ref pm])/\H pm=some (.tup (ms.map V.bl))/\ms.length<=3/\look o.D g=some ms/\M.length<=1000/\L.length<=1000/\B + 300 < LIM /\
  ∀ (H':Hp) (r:Addr) (d:Dd) (M':List Str),Hd K st wl o H0 H' lm M' (B + 10)->Tups H H'->(∀ x∈M',x∈M)->M'.length<=M.length->IsDd H' d r->LnD o.D d->Q (.ref r) H'
def cnt (ms:List Bool):Nat:=(ms.filter id).length
theorem Yq (ms:List Bool):cnt ms<=ms.length:=List.length_filter_le _ _
theorem ZD {ms:List Bool} {i:Nat} {b:Bool} (h:ms[i]?=some b):cnt (ms.take (i + 1))=cnt (ms.take i) + if b=true then 1 else 0:=by
  unfold cnt
  rw [List.take_add_one,h,List.filter_append,List.length_append]
  cases b <;> rfl
theorem zbm (ms:List Bool) (i:Nat):cnt (ms.take i)<=cnt ms:=by
  unfold cnt
  exact (List.Sublist.filter _ (List.take_sublist i ms)).length_le
theorem zbn {ms:List Bool} {i:Nat} (h:ms[i]?=some false):cnt ms < ms.length:=by
  unfold cnt
  exact List.length_filter_lt_length_iff_exists.mpr ⟨false,List.mem_of_getElem? h,by decide⟩
theorem scCallG:FnScope ["_law_state","_law_mine","_law_lent","_law_one","_law_many","_law_some_here","_law_near","_law_names","_law_own"] lS10 (zo Vh):=.ok
theorem V6 (F:Fun K "_law_call" "_law_call" Vh f fd) (GD:Ca P w K mg base CX0 1 "_law_draw" lS2 (yv K)) (GS:Ca P w K mg base CX0 2 "_law_some" lS8 (j3 K)) (m_len:mg "len"=none) (m_list:mg "list"=none) (m_tuple:mg "tuple"=none):FnOk P w K mg base CX0 3 f fd lS10 (Xh K):=by
  refine F.by scCallG (fun vs H Q E h=>?_) (fun cdv A outer s H vs Q E hr h=>?_)
  · obtain ⟨st,lm,ll,po,pm,M,L,B,H0,wl,o,g,ms,rfl,_⟩:=h
    rfl
  obtain ⟨st,lm,ll,po,pm,M,L,B,H0,wl,o,g,ms,rfl,hd,hL0,hpo,hpm,h9,hlk,hM,hLl,hB,q⟩:=h
  have hr1:Room 1 _:=hr.mono (by decide)
  refine ⟨_,
    (zg (sE 4 scCallG.nd (jL m_len (wm [8] [] rfl (yr (xT 3)) (fun _ _ _ _ _=>(gN 8 scCallG.nd)) (fun _ _ _ _ _=>(ya (zS (jv 8)))) (fun _ _ _ _ _=>(jv 8)))))
    (zg (zx (jW.pt (xK (tN jh (jv 4) (jL m_len (jv 1))) (yP (jW.pt (wE (tN vm (jv 4) (jL m_len (xT 3))) (wE (tN zA (jv 4) (jL m_len (jv 1))) (wg (tN (jF hr1) (jv 2) (zB zE)))))))))
      (zi (zp (zv (jA2 zq zj)))) zr)
    (zg (sE 5 scCallG.nd (zF yt rfl m_list PyProof.Rows.boot_list (jA1 (cA GS hr (jA3 (jv 0) (jv 1) (jv 4))))))
    (zg (sE 6 scCallG.nd (zu zZ (jv 1) (jv 2)))
    (zg (sE 7 scCallG.nd (zB zE))
    (zg (zU PassesOwn.never rfl (yr (xT 3)) (gN 8 scCallG.nd)
      (zi (zx (zS (jv 8))
        (zi (yf (yA PySem.F.plainAttrs_list PySem.F.slot_list_append PySem.F.type_list_append zQ (jv 7) (jA1 (jB PySem.F.plainAttrs_list PySem.F.slot_list_pop PySem.F.type_list_pop jD (jv 5))))))
        (zi (yf (yA PySem.F.plainAttrs_list PySem.F.slot_list_append PySem.F.type_list_append zQ (jv 7) (jA1 (xX zX (jv 6) (cA GD hr1 (jA2 (jv 0) (jL m_len (jv 6))))))))))))
    (zi (zp (zv (jA3 zq (xT 3) (zF zC rfl m_tuple PyProof.Rows.boot_tuple (jA1 (jv 7))))))))))))),?_⟩
  have sl:=zK
  have LM:LIM=4611686018427387904:=rfl
  rw [LM] at hB
  have hL:H ll=some (.lst (L.map V.str)):=hd.kp.k _ _ (let ⟨_,s0⟩:=hd.s0; s0.neS hL0) hL0
  refine (show ∀ u:TS,(cnt ms<=M.length->(cnt ms < ms.length->cnt ms=M.length->L≠[])->∀ H2:Hp,Same H H2->u { nx:=fun _ H'=>Q .non H',rt:=Q } [some (.ref st),some (.ref lm),some (.ref ll),some (.ref po),some (.int ((cnt ms:Nat):Int)),none,none,none,none] H2)->(tSeq _ (tSeq _ u):TS) { nx:=fun _ H'=>Q .non H',rt:=Q } [some (.ref st),some (.ref lm),some (.ref ll),some (.ref po),none,none,none,none,none] H from ?key) _ ?rst
  case key =>
    intro u rest
    refine ⟨_,rfl,ixT hpo aI1 ⟨pm,rfl,⟨_,SqT.of hpm⟩,vv (xs:=ms.map V.bl) (fun j τ ys H'=>H=H'/\(∃ v,τ=[some (.ref st),some (.ref lm),some (.ref ll),some (.ref po),none,none,none,none,v])/\ys.length=cnt (ms.take j)) ⟨rfl,⟨none,rfl⟩,rfl⟩ (fun j τ ys H' _ h=>SqT.of (h.1 ▸ hpm)) ?_ ?_⟩⟩
    · rintro j v τ ys H1 hv ⟨rfl,⟨v',rfl⟩,hy⟩
      rw [List.getElem?_map] at hv
      obtain ⟨b,hb,rfl⟩:=Option.map_eq_some_iff.mp hv
      have ct:=ZD hb
      have c1:=Yq (ms.take j)
      rw [List.length_take] at c1
      cases b with
      | true=>exact ⟨_,rfl,_,rfl,iteT ⟨_,rfl,by lia,rfl,⟨_,rfl⟩,by rw [List.length_append,hy,ct]; rfl⟩⟩
      | false=>exact ⟨_,rfl,_,rfl,iteF ⟨rfl,⟨_,rfl⟩,by rw [hy,ct]; rfl⟩⟩
    rintro τ ys H1 ⟨rfl,_,hy⟩ l1 hl1
    rw [List.length_map,List.take_of_length_le (Nat.le_refl _)] at hy
    have s1:=zh (o:=.lst ys) hl1
    refine ⟨l1,ys,rfl,.inl (SqL.of zf),?_⟩
    rw [hy]
    have h1:=hd.same s1
    have po1:=s1 _ _ hpo
    have pm1:=s1 _ _ hpm
    have hL1:=s1 _ _ hL
    generalize upd H l1 (.lst ys)=H1 at *
    have num:∀ H2 r,Same H1 H2->H2 r=none->Q (.ref r) (upd H2 r (.tup [.str "num",.int 8])):=fun H2 r s2 f=>by
      have s3:=s2.new (o:=.tup [.str "num",.int 8]) f
      exact q _ r (.num 8) M ((h1.same s3).mono (by lia)) (.of (s1.trans s3)) (fun _ z=>z) (Nat.le_refl _) zf ⟨by show 0<=1000; decide,trivial,rfl⟩
    refine ⟨_,rfl,_,rfl,lm,_,rfl,.inl (SqL.of h1.m),_,_,rfl,rfl,_,rfl,?_⟩
    rw [List.length_map]
    by_cases c1:M.length < cnt ms
    · exact zD (decide_eq_true (by lia)) (iteT ⟨sN2,fun r f=>num H1 r (Same.refl _) f⟩)
    · refine iteE (decide_eq_false (by lia)) ?_
      refine ⟨_,rfl,_,rfl,ixT po1 aI1 ⟨pm,_,rfl,.inr (SqT.of pm1),_,_,rfl,rfl,_,rfl,?_⟩⟩
      rw [List.length_map]
      by_cases c2:cnt ms < ms.length
      · refine zD (decide_eq_true (by lia)) ?_
        refine ⟨_,rfl,_,rfl,lm,_,rfl,.inl (SqL.of h1.m),rfl,_,rfl,?_⟩
        by_cases c3:cnt ms=M.length
        · refine zD (decide_eq_true (by rw [c3,List.length_map])) ?_
          refine ⟨_,rfl,sN0,fun l2 f2=>?_⟩
          have s2:=zh (o:=.lst []) f2
          refine ⟨ll,l2,_,rfl,rfl,SqL.of (s2 _ _ hL1),SqL.of zf,_,rfl,?_⟩
          by_cases e:L=[]
          · exact zD (show (L.map V.str).isEmpty=true by rw [e]; rfl) ⟨sN2,fun r f=>num _ r s2 f⟩
          · exact iteE (show (L.map V.str).isEmpty=false by rw [List.isEmpty_map]; simpa using e) (nxtC (rest (by lia) (fun _ _=>e) _ (s1.trans s2)))
        · refine iteE (decide_eq_false fun z=>c3 (by rw [V.int.injEq,List.length_map] at z; lia)) (iteF (nxtC (rest (by lia) (fun _ z=>absurd z c3) _ s1)))
      · exact iteE (decide_eq_false (by lia)) (iteF (nxtC (rest (by lia) (fun z=>absurd z c2) _ s1)))
  intro hcM hne H2 s2
  have h2:=hd.same s2
  refine ⟨_,rfl,_,rfl,_,rfl,st,lm,cnt ms,M,B,H0,wl,o,rfl,h2,hcM,by have:=Yq ms; lia,hM,by rw [LM]; lia,fun H3 r3 N M' h3 t3 ml3 sub g3 nl3=>?_⟩
  refine ⟨r3,_,rfl,.inr (SqT.of g3),fun l4 f4=>?_⟩
  have h4:=h3.same (zh (o:=.lst (N.map V.str)) f4)
  obtain ⟨f40,n4m,n4s⟩:=h3.new f4
  have t4:Tups H2 (upd H3 l4 (.lst (N.map V.str))):=t3.trans (.of (zh f4 _))
  have g4:=zf (H:=H3) (a:=l4) (o:=.lst (N.map V.str))
  have hL4:upd H3 l4 (.lst (N.map V.str)) ll=some (.lst (L.map V.str)):=h4.kp.k _ _ (let ⟨_,s0⟩:=hd.s0; s0.neS hL0) hL0
  refine ⟨_,rfl,_,rfl,lm,ll,_,_,rfl,rfl,h4.m,hL4,by rw [List.length_map,List.length_map]; lia,fun l5 f5=>?_⟩
  have s5:=zh (o:=.lst (M'.map V.str ++ L.map V.str)) f5
  have h5:=h4.same s5
  obtain ⟨f50,n5m,n5s⟩:=h4.new f5
  have n54:l5≠l4:=(zn g4 f5).symm
  refine ⟨sN0,fun l6 f6=>?_⟩
  have s6:=s5.new (o:=.lst []) f6
  have h6:=h4.same s6
  obtain ⟨f60,n6m,n6s⟩:=h5.new f6
  have n64:l6≠l4:=(zn (s5 _ _ g4) f6).symm
  have n65:l6≠l5:=(zn zf f6).symm
  have g46:=s6 _ _ g4
  have g56:=old (o:=.lst []) f6 (zf (H:=upd H3 l4 (.lst (N.map V.str))) (a:=l5) (o:=.lst (M'.map V.str ++ L.map V.str)))
  have t6:=t4.trans (.of s6)
  have po6:=t6 _ _ (s2 _ _ hpo)
  have pm6:=t6 _ _ (s2 _ _ hpm)
  have cl:=Yq ms
  refine ⟨_,rfl,ixT po6 aI1 ⟨pm,rfl,⟨_,SqT.of pm6⟩,yK (xs:=ms.map V.bl) (fun i σ H'=>∃ (N' X:List Str) (z:Option V),σ=[some (.ref st),some (.ref lm),some (.ref ll),some (.ref po),some (.int ((cnt ms:Nat):Int)),some (.ref l4),some (.ref l5),some (.ref l6),z]/\Hd K st wl o H0 H' lm M' (B + cnt ms + i)/\Tups H2 H'/\H' l4=some (.lst (N'.map V.str))/\N'.length + cnt (ms.take i)=cnt ms/\H' l5=some (.lst (M'.map V.str ++ L.map V.str))/\H' l6=some (.lst (X.map V.str))/\X.length=i) ⟨N,[],none,rfl,h6,t6,g46,nl3,g56,zf,rfl⟩ (fun i σ H' _ h=>?_) ?_ ?_⟩⟩
  · obtain ⟨_,_,_,_,_,t,_⟩:=h
    exact SqT.of (t _ _ (s2 _ _ hpm))
  · rintro i v σ H7 hv ⟨N',X,z,rfl,h7,t7,g4',nl7,g5',g6',xl⟩
    rw [List.getElem?_map] at hv
    obtain ⟨b,hb,rfl⟩:=Option.map_eq_some_iff.mp hv
    have hi:i < ms.length:=(List.getElem?_eq_some_iff.mp hb).1
    have ct:=ZD hb
    cases b with
    | true =>
      have ct1:cnt (ms.take (i + 1))=cnt (ms.take i) + 1:=ct
      have ctl:=zbm ms (i + 1)
      have hN:0 < N'.length:=by lia
      refine ⟨_,rfl,_,rfl,iteT ?_⟩
      refine ⟨_,rfl,.inl ⟨rfl,_,SqL.of g6'⟩,_,rfl,.inl ⟨rfl,_,SqL.of g4'⟩,l4,_,.str (N'[N'.length - 1]'(by lia)),rfl,rfl,g4',by rw [List.length_map,List.getElem?_map,List.getElem?_eq_getElem (by lia)]; rfl,?_⟩
      rw [<- List.map_dropLast]
      obtain ⟨h8,t8⟩:=h7.put (u:=.lst (N'.dropLast.map V.str)) f40 n4m g4'
      have g68:upd H7 l4 (.lst (N'.dropLast.map V.str)) l6=some (.lst (X.map V.str)):=by rw [zk n64]; exact g6'
      refine ⟨l6,_,_,rfl,rfl,g68,by rw [List.length_map]; lia,?_⟩
      obtain ⟨h9',t9⟩:=h8.put (u:=.lst (X.map V.str ++ [.str (N'[N'.length - 1]'(by lia))])) f60 n6m g68
      refine ⟨N'.dropLast,X ++ [N'[N'.length - 1]'(by lia)],_,rfl,h9'.mono (by lia),(t7.trans t8).trans t9,by rw [zk (Ne.symm n64),zf],by rw [List.length_dropLast]; lia,by rw [zk (Ne.symm n65),zk n54]; exact g5',by rw [zf,List.map_append]; rfl,by rw [List.length_append,xl]; rfl⟩
    | false =>
      have ct1:cnt (ms.take (i + 1))=cnt (ms.take i) + 0:=ct
      have clt:=zbn hb
      have hne':0 < (M'.map V.str ++ L.map V.str).length:=by
        rw [List.length_append,List.length_map,List.length_map]
        by_cases c:cnt ms=M.length
        · have:=List.length_pos_iff.mpr (hne clt c)
          lia
        · lia
      refine ⟨_,rfl,_,rfl,iteF ?_⟩
      refine ⟨_,rfl,.inl ⟨rfl,_,SqL.of g6'⟩,_,rfl,_,rfl,_,rfl,l5,_,rfl,.inl (SqL.of g5'),st,((M'.map V.str ++ L.map V.str).length:Nat),B + cnt ms + i,rfl,h7.s,by rw [LM]; lia,by lia,fun H8 r k8 S8 r0 r1=>?_⟩
      obtain ⟨j,rfl⟩:∃ j:Nat,r=(j:Int):=⟨r.toNat,by lia⟩
      have hj:j < (M'.map V.str ++ L.map V.str).length:=by lia
      have hjs:∃ x:Str,(M'.map V.str ++ L.map V.str)[j]?=some (.str x):=by
        rw [<- List.map_append,List.getElem?_map]
        rw [<- List.map_append,List.length_map] at hj
        exact ⟨_,by rw [List.getElem?_eq_getElem hj]; rfl⟩
      obtain ⟨x,hx⟩:=hjs
      have h8:=h7.go k8 S8
      have g68:=k8.k _ _ n6s g6'
      refine ⟨l5,_,_,_,rfl,rfl,SqL.of (k8.k _ _ n5s g5'),zR hx,l6,_,_,rfl,rfl,g68,by rw [List.length_map]; lia,?_⟩
      obtain ⟨h9',t9⟩:=h8.put (u:=.lst (X.map V.str ++ [.str x])) f60 n6m g68
      exact ⟨N',X ++ [x],_,rfl,h9',(t7.trans (k8.tups h7.s)).trans t9,by rw [zk (Ne.symm n64)]; exact k8.k _ _ n4s g4',by rw [ct1]; exact nl7,by rw [zk (Ne.symm n65)]; exact k8.k _ _ n5s g5',by rw [zf,List.map_append]; rfl,by rw [List.length_append,xl]; rfl⟩
  · rintro σ H7 ⟨N',X,z,rfl,h7,t7,g4',nl7,g5',g6',xl⟩
    rw [List.length_map] at h7 xl
    have po7:=t7 _ _ (s2 _ _ hpo)
    refine ⟨_,rfl,ixT po7 aI0 ⟨_,rfl,l6,_,rfl,.inl ⟨SqL.of g6',fun t8 f8=>⟨sN3,fun r f9=>?_⟩⟩⟩⟩
    have s9:=(zh (o:=.tup (X.map V.str)) f8).new (o:=.tup [.str "call",.str g,.ref t8]) f9
    refine q _ r (.call g X) M' ((h7.same s9).mono (by lia)) ((Tups.of s2).trans (t7.trans (.of s9))) sub (by lia) ⟨t8,zf,old f9 zf⟩ ⟨by show X.length<=1000; lia,⟨ms,hlk⟩,?_⟩
    show ((look o.D g).getD []).length=X.length
    rw [hlk,xl]
    rfl
end
end GN
namespace L2
open PySem PySem.Spec PyProof.Rows
section
variable {X:Cx}
end
section
variable {X:Cx} {pins:List (Addr × Obj)} {σ:St} {H:Hp} {s:Shared}
end
section
variable {X:Cx} {k n:Nat}
end
section
variable {prog:Program} {w:World} {A:Around} {E:Value->Shared->Prop} {s:Shared}
theorem X2 (a b c:Value):argsOk "min" ⟨[a,b,c],[]⟩:=by unfold argsOk; kernel_rfl
theorem X3 {a b c:Value} {ps:Array (Int × Tok)} (hps:intItems ps=#[a,b,c]) {Q:Value->Shared->Prop} (hh:A.handled=none) (q:∀ v h' tk,(∃ i:Nat,(intItems ps)[i]?=some v/\∀ j,j < 3->numAt ps i<=numAt ps j)->(∀ c o,s.heap.get? c=some o->h'.get? c=some o)->Q v { s with heap:=h',toks:=tk }) :
    wpAny (model prog w) A (call (.builtin "min") [a,b,c]) Q E s:=by
  have nm:(toString "min" ++ toString ".loop":String)="min.loop":=by decide
  refine call_function_tree F.kind_min F.plain_min F.entry_min (X2 _ _ _) ?_
  show wpAny _ A.in1 (Builtin.Builtins.bindParams "min" ["key","default"] 0 ⟨[],[]⟩ >>= _) _ _ s
  refine wpAny_bind (wpAny_of_eq (by exact rfl:Builtin.Builtins.bindParams "min" ["key","default"] 0 ⟨[],[]⟩=pure [none,none]) ?_)
  show wpAny _ A.in1 (newTuple [a,b,c] >>= _) _ _ s
  refine wpAny_bind (wpAny_newObj_type ?_)
  have hT:(s.heap.push { cls:=.type "tuple",data:=.seq #[a,b,c] }).IsTuple s.heap.objs.size (intItems ps):=⟨_,Heap.get?_push_size _ rfl,rfl,0,by rw [hps]⟩
  have z1:(s.heap.push { cls:=.type "tuple",data:=.seq #[a,b,c] }).objs.size=s.heap.objs.size + 1:=Heap.size_push ..
  refine wpAny_bind (wpAny_pyIter_tuple hT ?_)
  refine wpAny_bind (wpAny_newObj_type ?_)
  rw [nm]
  have W:=Walks.tuple (prog:=prog) (w:=w) (A:=A.in1) hh (s.heap.push { cls:=.type "tuple",data:=.seq #[a,b,c] }).objs.size s.heap.objs.size (by rw [z1]; exact Nat.ne_of_lt (Nat.lt_succ_self _)) (intItems ps)
  have sz:(intItems ps).size=3:=by rw [hps]; rfl
  have hst:((s.heap.push { cls:=.type "tuple",data:=.seq #[a,b,c] }).push { cls:=.type "tuple_iterator",data:=.fields #[.ref s.heap.objs.size,.int 0 0] }).objs.size=s.heap.objs.size + 2:=by rw [Heap.size_push,z1]
  refine wpAny_pure ⟨plainId_quiet F.plain_min_loop _,codeAny_min_loop_first W _ (CmpOf.ints_lt (numAt ps) (fun _ _=>intItems_at)) _ (fun hm=>?_) (by rw [sz]; decide) (W.frame _ _ _ ⟨⟨_,Heap.get?_push_size _ rfl,rfl,rfl⟩,hT.push _⟩ fun b _ o e=>Heap.get?_push_of_some _ e) (Heap.get?_push_size _ rfl) fun v h' tk hP hk=>?_⟩
  · dsimp only at hm
    simp only [List.mem_cons,List.not_mem_nil,or_false] at hm
    rcases hm with e | e
    · exact Nat.ne_of_gt (show _ < _ by rw [hst,z1]; exact Nat.lt_succ_self _) e
    · exact Nat.ne_of_gt (show _ < _ by rw [hst]; exact Nat.lt_succ_of_lt (Nat.lt_succ_self _)) e
  · obtain ⟨b1,b2⟩:=argBest_lt (numAt ps) ((intItems ps).size - 1)
    refine q v h' tk ⟨_,hP,fun j hj=>b2 j (by lia)⟩ fun x o e=>?_
    have lt:=Heap.lt_size e
    refine hk x o (fun hm=>?_) (fun e=>?_) (Heap.get?_push_of_some _ (Heap.get?_push_of_some _ (Heap.get?_push_of_some _ e)))
    · simp only [List.mem_cons,List.not_mem_nil,or_false] at hm
      exact Nat.ne_of_lt (Nat.lt_trans lt (by rw [z1]; exact Nat.lt_succ_self _)) hm
    · exact Nat.ne_of_lt (Nat.lt_trans lt (by rw [hst]; exact Nat.lt_succ_of_lt (Nat.lt_succ_self _))) e
end
section
variable {X:Cx}
theorem X4 (hc:X.calm=true):yI X (.builtin "min") (fun xs H Q=>∃ i j k,xs=[.int i,.int j,.int k]/\∀ r,(r=i\/r=j\/r=k)->r<=i->r<=j->r<=k->Q (.int r) H):=by
  intro pins s σ H xs us Q I r h
  obtain ⟨i,j,k,rfl,q⟩:=h
  cases r with
  | cons a r =>
    obtain ⟨u,w',rfl,⟨t2,rfl⟩,⟨t3,rfl⟩⟩:=Wq r
    obtain ⟨t1,rfl⟩:=a
    refine X3 (ps:=#[(i,t1),(j,t2),(k,t3)]) (by simp [intItems]) (I.ok.hd hc) fun v h' tk ⟨n,hn,hle⟩ kk=>?_
    have l0:=hle 0 (by decide)
    have l1:=hle 1 (by decide)
    have l2:=hle 2 (by decide)
    have hn3:n < 3:=by
      obtain ⟨h,_⟩:=Array.getElem?_eq_some_iff.mp hn
      simpa [intItems] using h
    match n,hn3 with
    | 0,_ =>
      have e:Value.int i t1=v:=by simpa [intItems] using hn
      subst e
      exact ⟨.int i,H,I.kept kk,⟨_,rfl⟩,q i (.inl rfl) l0 l1 l2⟩
    | 1,_ =>
      have e:Value.int j t2=v:=by simpa [intItems] using hn
      subst e
      exact ⟨.int j,H,I.kept kk,⟨_,rfl⟩,q j (.inr (.inl rfl)) l0 l1 l2⟩
    | 2,_ =>
      have e:Value.int k t3=v:=by simpa [intItems] using hn
      subst e
      exact ⟨.int k,H,I.kept kk,⟨_,rfl⟩,q k (.inr (.inr rfl)) l0 l1 l2⟩
theorem Qq (hc:X.calm=true):jCa X (.builtin "min") (fun xs H Q=>∃ i j k,xs=[.int i,.int j,.int k]/\∀ r,(r=i\/r=j\/r=k)->r<=i->r<=j->r<=k->Q (.int r) H):=⟨X4 hc⟩
end
end L2
namespace GN
open PySem L2 K11
def Xi (K:PySem.W.Frag):Sp:=fun vs H Q _=>∃ (st lm ll wl:Addr) (M L:List Str) (B:Nat) (H0:Hp) (o:Wg),vs=[.ref st,.ref lm,.ref ll,.ref wl]/\Hd K st wl o H0 H lm M B/\H0 ll=some (.lst (L.map V.str))/\M.length<=500/\L.length<=500/\B + 500 < LIM /\
  ∀ (H':Hp) (r:Addr) (d:Dd) (M':List Str),Hd K st wl o H0 H' lm M' (B + 30)->Tups H H'->(∀ x∈M',x∈M)->M'.length<=M.length->IsDd H' d r->LnD o.D d->Q (.ref r) H'
theorem Xj {α:Type}:∀ {l:List (Str × α)} {p:Str × α},(l.map (·.1)).Nodup->p∈l->look l p.1=some p.2
  | q :: l,p,nd,h=>by
    rw [List.map_cons,List.nodup_cons] at nd
    unfold look
    rw [List.find?_cons]
    rcases List.mem_cons.mp h with rfl | h
    · rw [decide_eq_true rfl]; rfl
    · have ne:¬ q.1=p.1:=fun e=>nd.1 (e ▸ List.mem_map.mpr ⟨p,h,rfl⟩)
      rw [decide_eq_false ne]
      exact Xj nd.2 h
section
variable {P:Program} {w:World} {K:PySem.W.Frag} {mg:Str->Option Value} {base:Heap} {f:Addr} {fd:FuncData}
theorem scDeedG:FnScope ["_law_state","_law_mine","_law_lent","_law_world_here","_law_near","_law_way","_law_some_here","_law_tag","_law_size","_law_kind","_law_name_here","_law_modes","_law_g"] lS9 (zo Ya):=.ok
theorem Qr:(["_law_state","_law_mine","_law_lent","_law_world_here","_law_near","_law_way","_law_some_here","_law_tag","_law_size","_law_kind","_law_name_here","_law_modes","_law_g","_law_one"]:List Str).Nodup:=by decide +kernel
theorem V7 (F:Fun K "_law_deed" "_law_deed" Ya f fd) (GD:Ca P w K mg base CX0 1 "_law_draw" lS2 (yv K)) (GS:Ca P w K mg base CX0 2 "_law_some" lS8 (j3 K)) (GC:Ca P w K mg base CX0 3 "_law_call" lS10 (Xh K)) (m_len:mg "len"=none) (m_all:mg "all"=none) (m_min:mg "min"=none):FnOk P w K mg base CX0 4 f fd lS9 (Xi K):=by
  refine F.by scDeedG (fun vs H Q E h=>?_) (fun cdv A outer s H vs Q E hr h=>?_)
  · obtain ⟨st,lm,ll,wl,M,L,B,H0,o,rfl,_⟩:=h
    rfl
  obtain ⟨st,lm,ll,wl,M,L,B,H0,o,rfl,hd,hL0,hM,hLl,hB,q⟩:=h
  have hr1:Room 1 _:=hr.mono (by decide)
  have hr2:Room 2 _:=hr.mono (by decide)
  refine ⟨_,
    (zg (sE 4 scDeedG.nd (zu zZ (jv 1) (jv 2)))
    (zg (sE 5 scDeedG.nd (cA GD hr1 (jA2 (jv 0) zj)))
    (zg (zx (jW.pt (xK (tN zA (jv 5) zj) (yP (tN (jF hr1) (jv 4) (zB zE)))))
      (zi (zp (zv (jA2 zq (zu yz (cA GD hr1 (jA2 (jv 0) zj)) zj))))) zr)
    (zg (zx (tN zA (jv 5) zj)
      (zi (zp (zv (jA4 zq zq (xX zX (jv 4) (cA GD hr1 (jA2 (jv 0) (jL m_len (jv 4))))) (xX zX (jv 4) (cA GD hr1 (jA2 (jv 0) (jL m_len (jv 4))))))))) zr)
    (zg (zx (tN vm (jv 5) zj)
      (zg (yC ["_law_one"] (i:=6) scDeedG.nd rfl (Or.inl rfl) rfl (zP (xL 3)) (fun _ _ _ _ _=>(gN 13 Qr)) (fun _ _ _ _ _=>(ya (tN WK (yx (yh K) (jv 13) zj (fun _ _=>rfl)) (yQ (Zk K) rfl m_len PySem.boot_len (jA1 (jv 1)))))) (fun _ _ _ _ _=>(jv 13)))
      (zg (vi (xX zX (jv 6) (cA GD hr1 (jA2 (jv 0) (jL m_len (jv 6))))) (xm rfl (zw (gN 7 scDeedG.nd) (zw (gN 8 scDeedG.nd) (zw (gN 9 scDeedG.nd) z6)))))
      (zi (zp (zv (jA4 zq (jv 7) (cA GS hr2 (jA3 (jv 0) (jv 1) (jv 8))) zq)))))) zr)
    (zg (vi (xX zX (xL 3) (cA GD hr1 (jA2 (jv 0) zj))) (xm rfl (zw (gN 10 scDeedG.nd) (zw (gN 11 scDeedG.nd) z6))))
    (zg (zx (tN zA (jv 5) zj)
      (zi (zp (cA GC hr (jA4 (jv 0) (jv 1) (jv 2) (zv (jA2 (jv 10) (jv 11))))))) zr)
    (zg (zx (jW.pt (wE (zS (yQ (vU rfl) rfl m_all PyProof.Rows.boot_all (jA1 (jv 11)))) (wg (tN zA (cA GD hr1 (jA2 (jv 0) zj)) zj))))
      (zi (zp (zv (jA3 zq (jv 10) (cA GS hr2 (jA3 (jv 0) (jv 1) (yQ (Qq rfl) rfl m_min PyProof.Rows.boot_min (jA3 (jL m_len (jv 11)) (jL m_len (jv 1)) (cA GD hr1 (jA2 (jv 0) zj)))))))))) zr)
    (zg (zx (tN (jF hr1) (jv 1) (zB zE))
      (zi (zp (zv (jA2 zq zj)))) zr)
    (zg (sE 12 scDeedG.nd (yA PySem.F.plainAttrs_list PySem.F.slot_list_pop PySem.F.type_list_pop vP (jv 1) (jA1 (cA GD hr1 (jA2 (jv 0) (jL m_len (jv 1)))))))
    (zi (zp (zv (jA3 zq (jv 12) (cA GS hr2 (jA3 (jv 0) (jv 1) (yQ (YM rfl) rfl m_min PyProof.Rows.boot_min (jA2 (jL m_len (jv 1)) (cA GD hr1 (jA2 (jv 0) zj)))))))))))))))))))),?_⟩
  have sl:=zK
  have LM:LIM=4611686018427387904:=rfl
  rw [LM] at hB
  have hL:H ll=some (.lst (L.map V.str)):=hd.kp.k _ _ (let ⟨_,s0⟩:=hd.s0; s0.neS hL0) hL0
  refine ⟨_,rfl,_,rfl,lm,ll,_,_,rfl,rfl,hd.m,hL,by rw [List.length_map,List.length_map]; lia,fun l1 f1=>?_⟩
  have s1:=zh (o:=.lst (M.map V.str ++ L.map V.str)) f1
  obtain ⟨f10,n1m,n1s⟩:=hd.new f1
  have h1:=hd.same s1
  have g1:=zf (H:=H) (a:=l1) (o:=.lst (M.map V.str ++ L.map V.str))
  refine ⟨_,rfl,st,8,B,rfl,h1.s,by rw [LM]; lia,by decide,fun H2 r k2 S2 r0 r1=>?_⟩
  have h2:=h1.go k2 S2
  have g2:=k2.k _ _ n1s g1
  have t2:Tups H H2:=(Tups.of s1).trans (k2.tups h1.s)
  refine ⟨_,rfl,rfl,_,rfl,?_⟩
  have dn:∀ (x y:Int) (z:Str),LnD o.D (.num x):=fun x _ _=>⟨by show 0<=1000; decide,trivial,rfl⟩
  by_cases c0:r=0
  · refine zD (decide_eq_true (by rw [c0])) (iteT ⟨_,rfl,st,9,B + 1,rfl,h2.s,by rw [LM]; lia,by decide,fun H4 r4 k4 S4 _ _=>⟨_,_,rfl,rfl,sN2,fun p f=>?_⟩⟩)
    exact q _ p (.num _) M (((h2.go k4 S4).same (zh f _)).mono (by lia)) (t2.trans ((k4.tups h2.s).trans (.of (zh f _)))) (fun _ z=>z) (Nat.le_refl _) zf (dn _ 0 "")
  refine iteE (decide_eq_false fun z=>c0 (V.int.inj z)) ⟨_,rfl,sN0,fun l3 f3=>?_⟩
  have s3:=zh (o:=.lst []) f3
  have h3:=h2.same s3
  have g3:=s3 _ _ g2
  have t3:=t2.trans (.of s3)
  refine ⟨l1,l3,_,rfl,rfl,SqL.of g3,SqL.of zf,_,rfl,?_⟩
  by_cases ce:(M.map V.str ++ L.map V.str).isEmpty=true
  · refine zD ce ⟨_,rfl,st,9,B + 1,rfl,h3.s,by rw [LM]; lia,by decide,fun H4 r4 k4 S4 _ _=>⟨_,_,rfl,rfl,sN2,fun p f=>?_⟩⟩
    exact q _ p (.num _) M (((h3.go k4 S4).same (zh f _)).mono (by lia)) (t3.trans ((k4.tups h3.s).trans (.of (zh f _)))) (fun _ z=>z) (Nat.le_refl _) zf (dn _ 0 "")
  refine iteE (by simpa using ce) (nxtC ?_)
  have hnz:0 < (M.map V.str ++ L.map V.str).length:=by
    cases h:M.map V.str ++ L.map V.str with
    | nil=>rw [h] at ce; exact absurd rfl ce
    | cons a l=>exact Nat.succ_pos _
  have hnl:(M.map V.str ++ L.map V.str).length<=1000:=by rw [List.length_append,List.length_map,List.length_map]; lia
  generalize upd H2 l3 (.lst [])=H3 at *
  have pick:∀ j:Nat,j < (M.map V.str ++ L.map V.str).length->∃ x:Str,(M.map V.str ++ L.map V.str)[j]?=some (.str x):=fun j hj=>by
    rw [<- List.map_append,List.length_map] at hj
    rw [<- List.map_append,List.getElem?_map]
    exact ⟨_,by rw [List.getElem?_eq_getElem hj]; rfl⟩
  refine ⟨_,rfl,rfl,_,rfl,?_⟩
  by_cases c1:r=1
  · refine zD (decide_eq_true (by rw [c1])) ?_
    refine ⟨_,rfl,_,rfl,_,rfl,l1,_,rfl,.inl (SqL.of g3),st,((M.map V.str ++ L.map V.str).length:Nat),B + 1,rfl,h3.s,by rw [LM]; lia,by lia,fun H4 r4 k4 S4 a4 b4=>?_⟩
    obtain ⟨j,rfl⟩:∃ j:Nat,r4=(j:Int):=⟨r4.toNat,by lia⟩
    obtain ⟨x,hx⟩:=pick j (by lia)
    have h4:=h3.go k4 S4
    have g4:=k4.k _ _ n1s g3
    refine ⟨l1,_,_,_,rfl,rfl,SqL.of g4,zR hx,_,rfl,_,rfl,_,rfl,l1,_,rfl,.inl (SqL.of g4),st,((M.map V.str ++ L.map V.str).length:Nat),B + 1 + 1,rfl,h4.s,by rw [LM]; lia,by lia,fun H5 r5 k5 S5 a5 b5=>?_⟩
    obtain ⟨j5,rfl⟩:∃ j:Nat,r5=(j:Int):=⟨r5.toNat,by lia⟩
    obtain ⟨y,hy⟩:=pick j5 (by lia)
    have h5:=h4.go k5 S5
    refine ⟨l1,_,_,_,rfl,rfl,SqL.of (k5.k _ _ n1s g4),zR hy,sN4,fun p f=>?_⟩
    exact q _ p (.op "plus" x y) M ((h5.same (zh f _)).mono (by lia)) (t3.trans ((k4.tups h3.s).trans ((k5.tups h4.s).trans (.of (zh f _))))) (fun _ z=>z) (Nat.le_refl _) zf ⟨by show 2<=1000; decide,trivial,rfl⟩
  refine iteE (decide_eq_false fun z=>c1 (V.int.inj z)) (nxtC ?_)
  refine ⟨_,rfl,_,_,rfl,rfl,_,rfl,?_⟩
  obtain ⟨tl,dl,ts,us,w1,w2,w3,w4,w5⟩:=h3.wa
  have Tn:=hd.ok.Tn
  by_cases c6:r < 6
  · refine zD (decide_eq_true c6) ?_
    refine ⟨_,rfl,wl,_,_,_,rfl,rfl,SqL.of w1,aI2,tl,rfl,⟨_,SqL.of w2⟩,ym (xs:=ts.map V.ref) (fun j τ ys H'=>H3=H'/\(∃ v,τ=[some (.ref st),some (.ref lm),some (.ref ll),some (.ref wl),some (.ref l1),some (.int r),none,none,none,none,none,none,none,v])/\∃ us:List Addr,ys=us.map V.ref/\us.length<=j/\(0 < j->us≠[])/\∀ u∈us,∃ a,tgR a H3 u/\a∈o.T/\a.2.1<=M.length) ⟨rfl,⟨none,rfl⟩,[],rfl,Nat.le_refl _,fun z=>absurd z (by decide),fun u hu=>by cases hu⟩ (fun j τ ys H' _ h=>SqL.of (h.1 ▸ w2)) ?_ ?_⟩
    · rintro j v τ ys H' hv ⟨rfl,⟨v',rfl⟩,vs,rfl,vl,vn,va⟩
      rw [List.getElem?_map] at hv
      obtain ⟨t,ht,rfl⟩:=Option.map_eq_some_iff.mp hv
      obtain ⟨a,ha,hR⟩:=w3.at ht
      have hj:j < ts.length:=(List.getElem?_eq_some_iff.mp ht).1
      have tl':=w3.1
      refine ⟨_,rfl,ixT hR aI1 ⟨_,rfl,lm,_,rfl,.inl (SqL.of h3.m),_,_,rfl,rfl,_,rfl,?_⟩⟩
      have ml:(M.map V.str).length=M.length:=List.length_map _
      by_cases c:a.2.1<=M.length
      · refine zD (decide_eq_true (by rw [ml]; exact Int.ofNat_le.mpr c)) ⟨_,rfl,by rw [List.length_map]; lia,rfl,⟨_,rfl⟩,vs ++ [t],by rw [List.map_append]; rfl,by rw [List.length_append]; show vs.length + 1<=_; lia,fun _=>by simp,fun u hu=>?_⟩
        rcases List.mem_append.mp hu with hu | hu
        · exact va u hu
        · rw [List.mem_singleton.mp hu]
          exact ⟨a,hR,List.mem_of_getElem? ha,c⟩
      · refine iteE (decide_eq_false (by rw [ml]; exact fun z=>c (Int.ofNat_le.mp z))) ⟨rfl,⟨_,rfl⟩,vs,rfl,by lia,fun _ e=>?_,va⟩
        by_cases z:j=0
        · obtain ⟨t0,h0,h0'⟩:=hd.ok.T0
          rw [z,h0] at ha
          cases ha
          rw [h0'] at c
          exact c (Nat.zero_le _)
        · exact vn (by lia) e
    rintro τ ys H' ⟨rfl,_,vs,rfl,vl,vn,va⟩ l4 f4
    have tl':=w3.1
    have Tp:0 < o.T.length:=by
      obtain ⟨t0,h0,_⟩:=hd.ok.T0
      exact Nat.lt_of_le_of_lt (Nat.zero_le _) (List.getElem?_eq_some_iff.mp h0).1
    rw [List.length_map] at vl vn
    have vp:0 < vs.length:=List.length_pos_iff.mpr (vn (by lia))
    have s4:=zh (o:=.lst (vs.map V.ref)) f4
    have h4:=h3.same s4
    have n4s:=h3.s.ne f4
    refine ⟨_,rfl,_,rfl,_,rfl,l4,_,rfl,.inl (SqL.of zf),st,((vs.map V.ref).length:Nat),B + 1,rfl,h4.s,by rw [LM]; lia,by rw [List.length_map]; lia,fun H5 r5 k5 S5 a5 b5=>?_⟩
    rw [List.length_map] at b5
    obtain ⟨j,rfl⟩:∃ j:Nat,r5=(j:Int):=⟨r5.toNat,by lia⟩
    have hj:j < vs.length:=by lia
    obtain ⟨a,aR,aT,aM⟩:=va vs[j] (List.getElem_mem hj)
    have h5:=h4.go k5 S5
    have tk5:=k5.tups h4.s
    have aR5:tgR a H5 vs[j]:=tk5 _ _ (s4 _ _ aR)
    have a9:=hd.ok.T a aT
    refine ⟨l4,_,_,_,rfl,rfl,SqL.of (k5.k _ _ n4s zf),zR (by rw [List.getElem?_map,List.getElem?_eq_getElem hj]; rfl),_,_,rfl,SqT.of aR5,rfl,_,_,rfl,_,_,rfl,_,_,rfl,rfl,?_⟩
    refine ⟨_,rfl,_,rfl,_,rfl,_,rfl,st,lm,a.2.1,M,B + 1 + 1,H0,wl,o,rfl,h5,aM,by lia,by lia,by rw [LM]; lia,fun H6 r6 N M' h6 t6 ml6 sub g6 nl6=>⟨sN4,fun p f=>?_⟩⟩
    have s7:=zh (o:=.tup [.str "make",.str a.1,.ref r6,.str ""]) f
    exact q _ p (.mk a.1 N "") M' ((h6.same s7).mono (by lia)) ((t3.trans (.of s4)).trans (tk5.trans (t6.trans (.of s7)))) sub (by lia) ⟨r6,zf,s7 _ _ g6⟩ ⟨by show N.length<=1000; lia,trivial,by show (N.map _).length=_; rw [List.length_map]; rfl⟩
  refine iteE (decide_eq_false c6) (nxtC ?_)
  refine ⟨_,rfl,wl,_,_,_,rfl,rfl,SqL.of w1,aI3,_,rfl,st,3,B + 1,rfl,h3.s,by rw [LM]; lia,by decide,fun H4 r4 k4 S4 a4 b4=>?_⟩
  obtain ⟨j,rfl⟩:∃ j:Nat,r4=(j:Int):=⟨r4.toNat,by lia⟩
  have ul:=w5.1
  have Dn:=hd.ok.Dn
  have hj:j < us.length:=by lia
  have hju:us[j]?=some us[j]:=List.getElem?_eq_getElem hj
  obtain ⟨dd,hdd,pm,hR1,hR2⟩:=w5.at hju
  have ddm:=List.mem_of_getElem? hdd
  have h4:=h3.go k4 S4
  have tk4:=k4.tups h3.s
  have t4:=t3.trans tk4
  have d9:=hd.ok.D dd ddm
  have hlk:look o.D dd.1=some dd.2:=Xj hd.ok.Dd ddm
  refine ⟨dl,_,_,_,rfl,rfl,SqL.of (k4.k _ _ (h3.s.neR w4) w4),zR (by rw [List.getElem?_map,hju]; rfl),_,_,rfl,SqT.of (tk4 _ _ hR1),rfl,_,_,rfl,_,_,rfl,rfl,?_⟩
  have pm4:=tk4 _ _ hR2
  refine ⟨_,rfl,rfl,_,rfl,?_⟩
  by_cases c6':r=6
  · refine zD (decide_eq_true (by rw [c6'])) ?_
    refine ⟨_,rfl,_,rfl,_,rfl,_,rfl,_,rfl,sN2,fun po fo=>?_⟩
    have s5:=zh (o:=.tup [.str dd.1,.ref pm]) fo
    exact ⟨st,lm,ll,po,pm,M,L,B + 1 + 1,H0,wl,o,dd.1,dd.2,rfl,h4.same s5,hL0,zf,s5 _ _ pm4,d9,hlk,by lia,by lia,by rw [LM]; lia,fun H6 r6 d6 M' h6 t6 sub ml6 I6 L6=>q _ r6 d6 M' (h6.mono (by lia)) (t4.trans ((Tups.of s5).trans t6)) sub ml6 I6 L6⟩
  refine iteE (decide_eq_false fun z=>c6' (V.int.inj z)) (nxtC ?_)
  dsimp only
  change (tSeq (tIfS _ _ _) (tSeq _ _):TS) { nx:=fun _ H'=>Q .non H',rt:=Q } [some (.ref st),some (.ref lm),some (.ref ll),some (.ref wl),some (.ref l1),some (.int r),none,none,none,none,some (.str dd.1),some (.ref pm),none] H4
  refine (show ∀ u:TS,(∀ H5:Hp,Hd K st wl o H0 H5 lm M (B + 3)->Tups H H5->u { nx:=fun _ H'=>Q .non H',rt:=Q } [some (.ref st),some (.ref lm),some (.ref ll),some (.ref wl),some (.ref l1),some (.int r),none,none,none,none,some (.str dd.1),some (.ref pm),none] H5)->(tSeq (tIfS _ _ _) u:TS) { nx:=fun _ H'=>Q .non H',rt:=Q } [some (.ref st),some (.ref lm),some (.ref ll),some (.ref wl),some (.ref l1),some (.int r),none,none,none,none,some (.str dd.1),some (.ref pm),none] H4 from ?key) _ ?rst
  case key =>
    intro u rest
    refine ⟨_,rfl,pm,dd.2,rfl,pm4,_,rfl,?_⟩
    cases ca:dd.2.all id with
    | false=>exact iteF (iteF (nxtC (rest H4 (h4.mono (by lia)) t4)))
    | true =>
      refine iteT ⟨_,rfl,st,2,B + 1 + 1,rfl,h4.s,by rw [LM]; lia,by decide,fun H5 r5 k5 S5 a5 b5=>⟨rfl,_,rfl,?_⟩⟩
      have h5:=h4.go k5 S5
      have tk5:=k5.tups h4.s
      have t5:=t4.trans tk5
      by_cases c7:r5=1
      · refine zD (decide_eq_true (by rw [c7])) ?_
        refine ⟨_,rfl,_,rfl,_,rfl,_,rfl,pm,_,rfl,.inr (SqT.of (tk5 _ _ pm4)),_,rfl,lm,_,rfl,.inl (SqL.of h5.m),_,rfl,st,4,B + 1 + 1 + 1,rfl,h5.s,by rw [LM]; lia,by decide,fun H6 r6 k6 S6 a6 b6=>⟨_,_,_,rfl,fun m0 hm1 hm2 hm3 hm4=>?_⟩⟩
        rw [List.length_map] at hm1 hm2 hm3
        obtain ⟨n,rfl⟩:∃ n:Nat,m0=(n:Int):=⟨m0.toNat,by rcases hm1 with e | e | e <;> lia⟩
        have h6:=h5.go k6 S6
        refine ⟨st,lm,n,M,B + 1 + 1 + 1 + 1,H0,wl,o,rfl,h6,by lia,by lia,by lia,by rw [LM]; lia,fun H7 r7 N M' h7 t7 ml7 sub g7 nl7=>⟨sN3,fun p f=>?_⟩⟩
        have s8:=zh (o:=.tup [.str "func",.str dd.1,.ref r7]) f
        exact q _ p (.fn dd.1 N) M' ((h7.same s8).mono (by lia)) (t5.trans ((k6.tups h5.s).trans (t7.trans (.of s8)))) sub (by lia) ⟨r7,zf,s8 _ _ g7⟩ ⟨by show N.length<=1000; lia,⟨dd.2,hlk⟩,by show (N.map _).length=_; rw [List.length_map]; rfl⟩
      · exact iteE (decide_eq_false fun z=>c7 (V.int.inj z)) (nxtC (rest H5 (h5.mono (by lia)) t5))
  intro H5 h5 t5
  refine ⟨_,rfl,sN0,fun l6 f6=>?_⟩
  have s6:=zh (o:=.lst []) f6
  have h6:=h5.same s6
  have t6:=t5.trans (.of s6)
  refine ⟨lm,l6,_,rfl,rfl,SqL.of h6.m,SqL.of zf,_,rfl,?_⟩
  by_cases cm:(M.map V.str).isEmpty=true
  · refine zD cm ⟨sN2,fun p f=>?_⟩
    exact q _ p (.num _) M ((h6.same (zh f _)).mono (by lia)) (t6.trans (.of (zh f _))) (fun _ z=>z) (Nat.le_refl _) zf (dn _ 0 "")
  refine iteE (by simpa using cm) (nxtC ?_)
  have mp:0 < M.length:=by
    rw [List.isEmpty_map] at cm
    cases M with
    | nil=>exact absurd rfl cm
    | cons a l=>exact Nat.succ_pos _
  refine ⟨_,rfl,.inl ⟨rfl,_,SqL.of h6.m⟩,_,rfl,_,rfl,lm,_,rfl,.inl (SqL.of h6.m),st,((M.map V.str).length:Nat),B + 3,rfl,h6.s,by rw [LM]; lia,by rw [List.length_map]; lia,fun H7 r7 k7 S7 a7 b7=>?_⟩
  rw [List.length_map] at b7
  obtain ⟨i,rfl⟩:∃ i:Nat,r7=(i:Int):=⟨r7.toNat,by lia⟩
  have hi:i < M.length:=by lia
  have h7:=h6.go k7 S7
  refine ⟨lm,_,_,i,_,rfl,rfl,h7.m,by lia,by lia,V5 (by rw [List.length_map]; exact hi),(by rw [List.getElem?_map,List.getElem?_eq_getElem hi]; rfl),?_⟩
  rw [xF]
  obtain ⟨h8,t8⟩:=h7.set (M':=M.eraseIdx i)
  have el:(M.eraseIdx i).length=M.length - 1:=List.length_eraseIdx_of_lt hi
  refine ⟨_,rfl,_,rfl,_,rfl,_,rfl,lm,_,rfl,.inl (SqL.of h8.m),_,rfl,st,4,B + 3 + 1,rfl,h8.s,by rw [LM]; lia,by decide,fun H9 r9 k9 S9 a9 b9=>⟨_,_,rfl,?_⟩⟩
  rw [List.length_map]
  have h9:=h8.go k9 S9
  obtain ⟨n,hn,hn1,hn2⟩:∃ n:Nat,(if r9 < (((M.eraseIdx i).length:Nat):Int) then r9 else (((M.eraseIdx i).length:Nat):Int))=(n:Int)/\n<=(M.eraseIdx i).length/\n<=4:=by
    split
    · exact ⟨r9.toNat,by lia,by lia,by lia⟩
    · exact ⟨(M.eraseIdx i).length,rfl,Nat.le_refl _,by lia⟩
  rw [hn]
  refine ⟨st,lm,n,M.eraseIdx i,B + 3 + 1 + 1,H0,wl,o,rfl,h9,hn1,by lia,by lia,by rw [LM]; lia,fun H10 r10 N M' h10 t10 ml10 sub g10 nl10=>⟨sN3,fun p f=>?_⟩⟩
  have s11:=zh (o:=.tup [.str "ask",.str M[i],.ref r10]) f
  exact q _ p (.ask M[i] N) M' ((h10.same s11).mono (by lia)) (t6.trans ((k7.tups h6.s).trans (t8.trans ((k9.tups h8.s).trans (t10.trans (.of s11)))))) (fun x hx=>List.mem_of_mem_eraseIdx (sub x hx)) (by lia) ⟨r10,zf,s11 _ _ g10⟩ ⟨by show N.length + 1<=1000; lia,trivial,by show (N.map _).length + 1=_; rw [List.length_map]; rfl⟩
end
structure BG (ow:Ow) (l:List Str) (b:Bd) (d s n:Nat):Prop where
  tw:TwB ow l b
  dp:b.dp<=d
  sz:b.sz<=s
  bn:b.binds.length<=n
section
variable {ow:Ow} {l l':List Str} {b c:Bd} {x y:Str} {dd:Dd} {d s n d' s' n':Nat}
theorem BG.mono (h:BG ow l b d s n) (hl:∀ z∈l,z∈l') (h1:d<=d') (h2:s<=s') (h3:n<=n'):BG ow l' b d' s' n':=⟨h.tw.mono hl,Nat.le_trans h.dp h1,Nat.le_trans h.sz h2,Nat.le_trans h.bn h3⟩
theorem BG.lt (h:BG ow (x :: l) b d s n) (hd:LnD ow dd):BG ow l (.lt x dd b) (d + 1) (s + 1) (n + 1):=⟨⟨hd,h.tw⟩,by rw [Bd.dp]; exact Nat.succ_le_succ h.dp,by rw [Bd.sz]; exact Nat.succ_le_succ h.sz,by rw [Bd.binds,List.length_cons]; exact Nat.succ_le_succ h.bn⟩
theorem BG.hold (h:BG ow (x :: l) b d s n):BG ow l (.hold x y b) (d + 1) (s + 1) (n + 1):=⟨h.tw,by rw [Bd.dp]; exact Nat.succ_le_succ h.dp,by rw [Bd.sz]; exact Nat.succ_le_succ h.sz,by rw [Bd.binds,List.length_cons]; exact Nat.succ_le_succ h.bn⟩
theorem BG.drop (h:BG ow l b d s n):BG ow l (.drop x b) (d + 1) (s + 1) n:=⟨h.tw,by rw [Bd.dp]; exact Nat.succ_le_succ h.dp,by rw [Bd.sz]; exact Nat.succ_le_succ h.sz,by rw [Bd.binds]; exact h.bn⟩
theorem BG.loose (h:BG ow l b d s n):BG ow l (.loose x b) (d + 1) (s + 1) n:=⟨h.tw,by rw [Bd.dp]; exact Nat.succ_le_succ h.dp,by rw [Bd.sz]; exact Nat.succ_le_succ h.sz,by rw [Bd.binds]; exact h.bn⟩
theorem BG.give:BG ow l (.give x) 1 1 0:=⟨trivial,by rw [Bd.dp]; exact Nat.le_refl _,by rw [Bd.sz]; exact Nat.le_refl _,by rw [Bd.binds]; exact Nat.le_refl _⟩
theorem BG.iff (h:BG ow l b d s n) (g:BG ow l c d s n):BG ow l (.iff x b c) (d + 1) (s + s + 1) (n + n):=⟨⟨h.tw,g.tw⟩,by rw [Bd.dp]; exact Nat.succ_le_succ (Nat.max_le.mpr ⟨h.dp,g.dp⟩),by rw [Bd.sz]; have:=h.sz; have:=g.sz; lia,by rw [Bd.binds,List.length_append]; exact Nat.add_le_add h.bn g.bn⟩
end
structure Gn (K:PySem.W.Frag) (st wl:Addr) (o:Wg) (H:Hp) (B:Nat):Prop where
  ok:WgOk o
  w:WlAt H wl o
  s:Sta K H st B
section
variable {K:PySem.W.Frag} {st wl:Addr} {o:Wg} {H H':Hp} {B B':Nat}
theorem Gn.go (h:Gn K st wl o H B) (k:Kp st H H') (s:Sta K H' st B'):Gn K st wl o H' B':=⟨h.ok,h.w.kp h.s k,s⟩
theorem Gn.same (h:Gn K st wl o H B) (s:Same H H'):Gn K st wl o H' B:=h.go (.of s) (h.s.same s)
end
def Yr (K:PySem.W.Frag):Sp:=fun vs H Q _=>∃ (st lm wl:Addr) (x:Str) (M:List Str) (B:Nat) (o:Wg),vs=[.ref st,.ref lm,.str x,.ref wl]/\Gn K st wl o H B/\H lm=some (.lst (M.map V.str))/\M.length<=60/\B + 100 < LIM /\
  ∀ (H':Hp) (p:Addr) (b:Bd),Kp st H H'->Sta K H' st (B + 60)->IsBd H' b p->BG o.D [] b 62 62 1->Q (.ref p) H'
theorem V8 (N:List Str) (lo hi:Option Int):∃ N':List Str,cutV (N.map V.str) lo hi=N'.map V.str/\N'.length<=N.length:=by
  refine ⟨(N.drop (HT.sIx N.length 0 lo)).take (HT.sIx N.length N.length hi - HT.sIx N.length 0 lo),?_,?_⟩
  · unfold cutV
    rw [List.length_map,<- List.map_drop,<- List.map_take]
  · rw [List.length_take,List.length_drop]
    lia
section
variable {P:Program} {w:World} {K:PySem.W.Frag} {mg:Str->Option Value} {base:Heap} {f:Addr} {fd:FuncData}
theorem scEndG:FnScope ["_law_state","_law_mine","_law_name_here","_law_world_here","_law_left_here","_law_body_here","_law_one"] lS5 (zo sEnd):=.ok
theorem Qs (F:Fun K "_law_end" "_law_end" sEnd f fd) (GD:Ca P w K mg base CX0 1 "_law_draw" lS2 (yv K)) (GN':Ca P w K mg base CX0 1 "_law_name" lS6 spNm) (m_len:mg "len"=none) (m_tuple:mg "tuple"=none):FnOk P w K mg base CX0 2 f fd lS5 (Yr K):=by
  refine F.by scEndG (fun vs H Q E h=>?_) (fun cdv A outer s H vs Q E hr h=>?_)
  · obtain ⟨st,lm,wl,x,M,B,o,rfl,_⟩:=h
    rfl
  obtain ⟨st,lm,wl,x,M,B,o,rfl,hg,hm,hM,hB,q⟩:=h
  refine ⟨_,
    (zg (sE 4 scEndG.nd (wj jC (wm [6] [] rfl (zP (jv 1)) (fun _ _ _ _ _=>(gN 6 scEndG.nd)) (fun _ _ _ _ _=>(ya (jW.pt (xK (xQ (zS (yx (W0 K) (jv 3) zj (fun _ _=>rfl)))) (yP (tN vk (cA GD hr (jA2 (jv 0) zj)) zj)))))) (fun _ _ _ _ _=>(jv 6))) wW (wX zj)))
    (zg (sE 5 scEndG.nd (zv (jA4 zq (jv 2) (zv (jA4 zq (cA GN' hr (jA2 (jv 3) (zu zM zj (jL m_len (jv 4))))) (zF zC rfl m_tuple PyProof.Rows.boot_tuple (jA1 (jv 4))) zq)) (zv (jA2 zq (jv 2))))))
    (zg (zU PassesOwn.never rfl (zP (jv 1)) (gN 6 scEndG.nd)
      (zi (zx (yY yE (jv 6) (jv 4) (by with_unfolding_all rfl))
        (zi (sE 5 scEndG.nd (zv (jA3 zq (jv 6) (jv 5))))) zr)))
    (zi (zp (jv 5)))))),?_⟩
  have sl:=zK
  have LM:LIM=4611686018427387904:=rfl
  rw [LM] at hB
  have nlm:=hg.s.neS hm
  obtain ⟨tl,dl,ts,us,w1,w2,w3,w4,w5⟩:=hg.w
  have wst:=hg.s.neW w1
  refine ⟨_,rfl,lm,rfl,⟨_,SqL.of hm⟩,ym (xs:=M.map V.str) (fun j τ ys H'=>Kp st H H'/\Sta K H' st (B + j)/\(∃ v,τ=[some (.ref st),some (.ref lm),some (.str x),some (.ref wl),none,none,v])/\∃ N:List Str,ys=N.map V.str/\N.length<=j) ⟨.refl,hg.s,⟨none,rfl⟩,[],rfl,Nat.le_refl _⟩ (fun j τ ys H' _ h=>SqL.of (h.1.k _ _ nlm hm)) ?_ ?_⟩
  · rintro j v τ ys H1 hv ⟨k1,S1,⟨v',rfl⟩,N,rfl,nl⟩
    rw [List.getElem?_map] at hv
    obtain ⟨y,hy,rfl⟩:=Option.map_eq_some_iff.mp hv
    have hj:j < M.length:=(List.getElem?_eq_some_iff.mp hy).1
    refine ⟨_,rfl,wl,_,_,_,rfl,rfl,SqL.of (k1.k _ _ wst w1),aI4,_,rfl,?_⟩
    have keep:∀ H2,Kp st H H2->Sta K H2 st (B + (j + 1))->(N.map V.str).length < sizeLine/\Kp st H H2/\Sta K H2 st (B + (j + 1))/\(∃ v,[some (.ref st),some (.ref lm),some (.str x),some (.ref wl),none,none,some (V.str y)]=[some (.ref st),some (.ref lm),some (.str x),some (.ref wl),none,none,v])/\∃ N',N.map V.str ++ [.str y]=List.map V.str N'/\N'.length<=j + 1:=fun H2 k2 S2=>⟨by rw [List.length_map]; lia,k2,S2,⟨_,rfl⟩,N ++ [y],by rw [List.map_append]; rfl,by rw [List.length_append]; show N.length + 1<=_; lia⟩
    cases o.fl with
    | false=>exact iteT (iteT ⟨_,rfl,keep H1 k1 (S1.mono (by lia))⟩)
    | true =>
      refine iteF ⟨_,rfl,st,12,B + j,rfl,S1,by rw [LM]; lia,by decide,fun H2 r k2 S2 _ _=>⟨rfl,_,rfl,?_⟩⟩
      by_cases c:r=5
      · exact iteE (show (!decide (V.int r=V.int 5))=false by rw [decide_eq_true (by rw [c])]; rfl) ⟨k1.trans k2,S2,⟨_,rfl⟩,N,rfl,by lia⟩
      · exact zD (show (!decide (V.int r=V.int 5))=true by rw [decide_eq_false fun z=>c (V.int.inj z)]; rfl) ⟨_,rfl,keep H2 (k1.trans k2) S2⟩
  rintro τ ys H1 ⟨k1,S1,_,N,rfl,nl⟩ l1 f1
  rw [List.length_map] at nl S1
  have s1:=zh (o:=.lst (N.map V.str)) f1
  refine ⟨_,rfl,_,_,rfl,SqL.of zf,fun l2 f2=>?_⟩
  obtain ⟨N',eN,nl'⟩:=V8 N none (some 9)
  rw [eN]
  have s2:=s1.new (o:=.lst (N'.map V.str)) f2
  have g2:=zf (H:=upd H1 l1 (.lst (N.map V.str))) (a:=l2) (o:=.lst (N'.map V.str))
  have k2:Kp st H _:=k1.trans (.of s2)
  have S2:=S1.same s2
  have hm2:=k2.k _ _ nlm hm
  have w12:=k2.k _ _ wst w1
  refine ⟨_,rfl,_,rfl,_,rfl,l2,_,rfl,.inl (SqL.of g2),_,_,rfl,rfl,wl,o.z,o.b,_,20 + N'.length,?_,w12,hg.ok.z,_,rfl,l2,_,rfl,.inl ⟨SqL.of g2,fun t3 f3=>?_⟩⟩
  · rw [List.length_map]; rfl
  refine ⟨sN4,fun t4 f4=>⟨_,rfl,sN2,fun t5 f5=>⟨sN4,fun t6 f6=>?_⟩⟩⟩
  have s3:=(((zh (o:=.tup (N'.map V.str)) f3).new (o:=.tup [.str "make",.str (nm o.z o.b (20 + N'.length)),.ref t3,.str ""]) f4).new (o:=.tup [.str "give",.str x]) f5).new (o:=.tup [.str "let",.str x,.ref t4,.ref t5]) f6
  have k3:=k2.trans (.of s3)
  have S3:=S2.same s3
  have g3:=s3 _ _ g2
  have b3:IsBd _ (.lt x (.mk (nm o.z o.b (20 + N'.length)) N' "") (.give x)) t6:=⟨t4,t5,zf,⟨t3,old f6 (old f5 zf),old f6 (old f5 (old f4 zf))⟩,old f6 zf⟩
  have hn2:l2≠st:=(S1.same s1).ne f2
  refine ⟨_,rfl,lm,rfl,⟨_,SqL.of (k3.k _ _ nlm hm)⟩,yS (xs:=M.map V.str) (fun i σ H'=>Same _ H'/\∃ (b:Bd) (p:Addr) (z:Option V),σ=[some (.ref st),some (.ref lm),some (.str x),some (.ref wl),some (.ref l2),some (.ref p),z]/\IsBd H' b p/\BG o.D [] b (2 + i) (2 + i) 1) ⟨Same.refl _,_,t6,none,rfl,b3,BG.lt BG.give ⟨by show N'.length<=1000; lia,trivial,by show (N'.map _).length=_; rw [List.length_map]; rfl⟩⟩ (fun i σ H' _ h=>SqL.of (h.1 _ _ (k3.k _ _ nlm hm))) ?_ ?_⟩
  · rintro i v σ H4 hv ⟨s4,b,p,z,rfl,hb,hbg⟩
    rw [List.getElem?_map] at hv
    obtain ⟨y,hy,rfl⟩:=Option.map_eq_some_iff.mp hv
    refine ⟨_,rfl,_,rfl,l2,_,rfl,.inl (SqL.of (s4 _ _ g3)),rfl,yH,_,rfl,?_⟩
    by_cases c:y∈N'
    · exact iteE (show (!inV _ _)=false by rw [yp,decide_eq_true c]; rfl) (nxtC ⟨s4,b,p,_,rfl,hb,hbg.mono (fun _ z=>z) (by lia) (by lia) (Nat.le_refl _)⟩)
    · refine zD (show (!inV _ _)=true by rw [yp,decide_eq_false c]; rfl) ⟨_,rfl,_,rfl,sN3,fun t7 f7=>?_⟩
      exact ⟨s4.new f7,.drop y b,t7,_,rfl,⟨p,zf,hb.keep (.of (zh f7 _))⟩,hbg.drop⟩
  · rintro σ H4 ⟨s4,b,p,z,rfl,hb,hbg⟩
    rw [List.length_map] at hbg
    exact ⟨_,rfl,q _ p b (k3.trans (.of s4)) ((S3.same s4).mono (by lia)) hb (hbg.mono (fun _ z=>z) (by lia) (by lia) (Nat.le_refl _))⟩
def dB (n:Nat):Nat:=63 + 5 * n
def sB (n:Nat):Nat:=64 * 14 ^ n
def nB (n:Nat):Nat:=50 * 14 ^ n
def bB (n:Nat):Nat:=200 * 30 ^ n
structure Pl (K:PySem.W.Frag) (st wl:Addr) (o:Wg) (H:Hp) (B:Nat) (lm ll:Addr) (M L:List Str) (n:Nat) (room:Int):Prop where
  g:Gn K st wl o H B
  m:H lm=some (.lst (M.map V.str))
  l:H ll=some (.lst (L.map V.str))
  ml:M.length + 12 * n<=60
  ll:L.length<=3
  r:room<=(n:Int)
def PsB (K:PySem.W.Frag) (st:Addr) (o:Wg) (H:Hp) (B:Nat) (l:List Str) (d s n:Nat) (Q:VK):Prop:=∀ (H':Hp) (p:Addr) (b:Bd),Kp st H H'->Sta K H' st B->IsBd H' b p->BG o.D l b d s n->Q (.ref p) H'
def xG (K:PySem.W.Frag) (n:Nat):Sp:=fun vs H Q _=>∃ (st lm ll wl:Addr) (M L:List Str) (k:Nat) (room:Int) (B:Nat) (o:Wg),vs=[.ref st,.ref lm,.ref ll,.int (k:Nat),.int room,.ref wl]/\Pl K st wl o H B lm ll M L n room/\k + 20 * n<=300/\B + bB n < LIM/\PsB K st o H (B + bB n) (M ++ L) (dB n) (sB n) (nB n) Q
def wy (K:PySem.W.Frag) (n:Nat):Sp:=fun vs H Q _=>∃ (st lm ll wl:Addr) (M L:List Str) (k:Nat) (room:Int) (B:Nat) (o:Wg),vs=[.ref st,.ref lm,.ref ll,.int (k:Nat),.int room,.ref wl]/\Pl K st wl o H B lm ll M L n room/\k + 20 * n<=300/\B + bB n + 2 < LIM/\PsB K st o H (B + bB n + 2) (M ++ L) (dB n + 1) (sB n + 1) (nB n) Q
theorem scBegunG:FnScope ["_law_state","_law_mine","_law_lent","_law_k","_law_room","_law_world_here","_law_left_here","_law_gone","_law_body_here","_law_one"] lS0 (zo Yb):=.ok
theorem jo {n e:Nat} (F:Fun K "_law_begun" "_law_begun" Yb f fd) (hv:1<=e) (GB:Ca P w K mg base CX0 e "_law_body" lS0 (xG K n)) (GD:Ca P w K mg base CX0 1 "_law_draw" lS2 (yv K)) (m_len:mg "len"=none) (m_list:mg "list"=none):FnOk P w K mg base CX0 (e + 1) f fd lS0 (wy K n):=by
  refine F.by scBegunG (fun vs H Q E h=>?_) (fun cdv A outer s H vs Q E hr h=>?_)
  · obtain ⟨st,lm,ll,wl,M,L,k,room,B,o,rfl,_⟩:=h
    rfl
  obtain ⟨st,lm,ll,wl,M,L,k,room,B,o,rfl,hp,hk,hB,q⟩:=h
  have hr1:Room 1 _:=hr.mono hv
  refine ⟨_,
    (zg (sE 6 scBegunG.nd (zF yt rfl m_list PyProof.Rows.boot_list (jA1 (jv 1))))
    (zg (sE 7 scBegunG.nd (zB zE))
    (zg (zx (jW.pt (wE (tN (zaV hr1) (jv 6) (zB zE)) (wg (tN zA (cA GD hr1 (jA2 (jv 0) zj)) zj))))
      (zi (yf (yA PySem.F.plainAttrs_list PySem.F.slot_list_append PySem.F.type_list_append zQ (jv 7) (jA1 (yA PySem.F.plainAttrs_list PySem.F.slot_list_pop PySem.F.type_list_pop vP (jv 6) (jA1 (cA GD hr1 (jA2 (jv 0) (jL m_len (jv 6)))))))))) zr)
    (zg (sE 8 scBegunG.nd (cA GB hr (jA6 (jv 0) (jv 6) (jv 2) (jv 3) (jv 4) (jv 5))))
    (zg (zU PassesOwn.never rfl (zP (jv 7)) (gN 9 scBegunG.nd)
      (zi (sE 8 scBegunG.nd (zv (jA3 zq (jv 9) (jv 8))))))
    (zi (zp (jv 8)))))))),?_⟩
  have sl:=zK
  have LM:LIM=4611686018427387904:=rfl
  rw [LM] at hB
  have hml:=hp.ml
  have nll:=hp.g.s.neS hp.l
  refine (show ∀ u:TS,(∀ (H5:Hp) (l1 l2:Addr) (M' G:List Str),Hd K st wl o H H5 l1 M' (B + 2)->(∀ x∈M',x∈M)->M'.length<=M.length->H5 l2=some (.lst (G.map V.str))->G.length<=1->l2≠st->u { nx:=fun _ H'=>Q .non H',rt:=Q } [some (.ref st),some (.ref lm),some (.ref ll),some (.int (k:Nat)),some (.int room),some (.ref wl),some (.ref l1),some (.ref l2),none,none] H5)->(tSeq _ (tSeq _ (tSeq _ u)):TS) { nx:=fun _ H'=>Q .non H',rt:=Q } [some (.ref st),some (.ref lm),some (.ref ll),some (.int (k:Nat)),some (.int room),some (.ref wl),none,none,none,none] H from ?key) _ ?rst
  case key =>
    intro u rest
    refine ⟨_,rfl,lm,_,rfl,.inl (SqL.of hp.m),fun l1 f1=>⟨sN0,fun l2 f2=>?_⟩⟩
    have s1:=zh (o:=.lst (M.map V.str)) f1
    have h1:Hd K st wl o H (upd H l1 (.lst (M.map V.str))) l1 M B:=⟨hp.g.ok,⟨B,hp.g.s⟩,hp.g.w,f1,.of s1,hp.g.s.same s1,zf⟩
    obtain ⟨f20,n21,n2s⟩:=h1.new f2
    have h2:=h1.same (zh (o:=.lst []) f2)
    have g2:=zf (H:=upd H l1 (.lst (M.map V.str))) (a:=l2) (o:=.lst [])
    generalize upd (upd H l1 (.lst (M.map V.str))) l2 (.lst [])=H2 at *
    refine ⟨_,rfl,sN0,fun l3 f3=>?_⟩
    have s3:=zh (o:=.lst []) f3
    have h3:=h2.same s3
    have g3:=s3 _ _ g2
    refine ⟨l1,l3,_,rfl,rfl,SqL.of h3.m,SqL.of zf,_,rfl,?_⟩
    generalize upd H2 l3 (.lst [])=H3 at *
    by_cases ce:(M.map V.str).isEmpty=true
    · exact iteE (show (!(M.map V.str).isEmpty)=false by rw [ce]; rfl) (iteF (nxtC (rest H3 l1 l2 M [] (h3.mono (by lia)) (fun _ z=>z) (Nat.le_refl _) g3 (Nat.zero_le _) n2s)))
    · have ce':(M.map V.str).isEmpty=false:=by simpa using ce
      have mp:0 < M.length:=by
        rw [List.isEmpty_map] at ce'
        cases M with
        | nil=>cases ce'
        | cons a l=>exact Nat.succ_pos _
      refine zD (show (!(M.map V.str).isEmpty)=true by rw [ce']; rfl) ⟨_,rfl,st,8,B,rfl,h3.s,by rw [LM]; lia,by decide,fun H4 r k4 S4 _ _=>⟨rfl,_,rfl,?_⟩⟩
      have h4:=h3.go k4 S4
      have g4:=k4.k _ _ n2s g3
      by_cases c:r=1
      · refine zD (decide_eq_true (by rw [c])) ?_
        refine ⟨_,rfl,.inl ⟨rfl,_,SqL.of g4⟩,_,rfl,.inl ⟨rfl,_,SqL.of h4.m⟩,_,rfl,_,rfl,l1,_,rfl,.inl (SqL.of h4.m),st,((M.map V.str).length:Nat),B + 1,rfl,h4.s,by rw [LM]; lia,by rw [List.length_map]; lia,fun H5 r5 k5 S5 a5 b5=>?_⟩
        rw [List.length_map] at b5
        obtain ⟨i,rfl⟩:∃ i:Nat,r5=(i:Int):=⟨r5.toNat,by lia⟩
        have hi:i < M.length:=by lia
        have h5:=h4.go k5 S5
        have g5:=k5.k _ _ n2s g4
        refine ⟨l1,_,_,i,_,rfl,rfl,h5.m,by lia,by lia,V5 (by rw [List.length_map]; exact hi),(by rw [List.getElem?_map,List.getElem?_eq_getElem hi]; rfl),?_⟩
        rw [xF]
        obtain ⟨h6,t6⟩:=h5.set (M':=M.eraseIdx i)
        have g6:upd H5 l1 (.lst ((M.eraseIdx i).map V.str)) l2=some (.lst []):=by rw [zk n21]; exact g5
        refine ⟨l2,_,_,rfl,rfl,g6,by show 0 < sizeLine; decide,?_⟩
        obtain ⟨h7,t7⟩:=h6.put (u:=.lst ([] ++ [.str M[i]])) f20 n21 g6
        have el:(M.eraseIdx i).length=M.length - 1:=List.length_eraseIdx_of_lt hi
        exact rest _ l1 l2 (M.eraseIdx i) [M[i]] (h7.mono (by lia)) (fun x hx=>List.mem_of_mem_eraseIdx hx) (by lia) zf (Nat.le_refl _) n2s
      · exact iteE (decide_eq_false fun z=>c (V.int.inj z)) (nxtC (rest H4 l1 l2 M [] (h4.mono (by lia)) (fun _ z=>z) (Nat.le_refl _) g4 (Nat.zero_le _) n2s))
  intro H5 l1 l2 M' G h5 sub ml5 g5 gl n2s
  have gn5:Gn K st wl o H5 (B + 2):=⟨h5.ok,h5.wa,h5.s⟩
  refine ⟨_,rfl,_,rfl,_,rfl,_,rfl,_,rfl,_,rfl,st,l1,ll,wl,M',L,k,room,B + 2,o,rfl,⟨gn5,h5.m,h5.kp.k _ _ nll hp.l,by lia,hp.ll,hp.r⟩,hk,by rw [LM]; lia,fun H6 p b k6 S6 hb hbg=>?_⟩
  have hbg':=hbg.mono (l':=M ++ L) (fun x hx=>List.mem_append.mpr ((List.mem_append.mp hx).imp (sub x) id)) (Nat.le_refl _) (Nat.le_refl _) (Nat.le_refl _)
  have g6:=k6.k _ _ n2s g5
  refine ⟨_,rfl,l2,rfl,⟨_,SqL.of g6⟩,yS (xs:=G.map V.str) (fun i σ H'=>Same H6 H'/\∃ (b:Bd) (p:Addr) (z:Option V),σ=[some (.ref st),some (.ref lm),some (.ref ll),some (.int (k:Nat)),some (.int room),some (.ref wl),some (.ref l1),some (.ref l2),some (.ref p),z]/\IsBd H' b p/\BG o.D (M ++ L) b (dB n + i) (sB n + i) (nB n)) ⟨Same.refl _,b,p,none,rfl,hb,hbg'⟩ (fun i σ H' _ h=>SqL.of (h.1 _ _ g6)) ?_ ?_⟩
  · rintro i v σ H7 hv ⟨s7,b,p,z,rfl,hb,hbg⟩
    rw [List.getElem?_map] at hv
    obtain ⟨y,hy,rfl⟩:=Option.map_eq_some_iff.mp hv
    refine ⟨_,rfl,_,rfl,sN3,fun t8 f8=>?_⟩
    exact ⟨s7.new f8,.drop y b,t8,_,rfl,⟨p,zf,hb.keep (.of (zh f8 _))⟩,hbg.drop⟩
  · rintro σ H7 ⟨s7,b,p,z,rfl,hb,hbg⟩
    rw [List.length_map] at hbg
    exact ⟨_,rfl,q _ p b ((h5.kp.trans k6).trans (.of s7)) ((S6.same s7).mono (by lia)) hb (hbg.mono (fun _ z=>z) (by lia) (by lia) (Nat.le_refl _))⟩
theorem BG.sub {ow:Ow} {l l':List Str} {b:Bd} {d s n:Nat} (h:BG ow l b d s n) (hl:∀ z∈l,z∈l'):BG ow l' b d s n:=h.mono hl (Nat.le_refl _) (Nat.le_refl _) (Nat.le_refl _)
def ZE (K:PySem.W.Frag) (n:Nat):Sp:=fun vs H Q _=>∃ (st lm ll wl:Addr) (x:Str) (M L:List Str) (k:Nat) (room:Int) (B:Nat) (o:Wg),vs=[.ref st,.ref lm,.ref ll,.str x,.int (k:Nat),.int room,.ref wl]/\Pl K st wl o H B lm ll M L (n + 1) room/\k + 20 * (n + 1)<=300/\B + bB n + 1 < LIM/\PsB K st o H (B + bB n + 1) (M ++ L) (dB n + 4) (sB n + 4) (nB n + 3) Q
theorem scTwiceG:FnScope ["_law_state","_law_mine","_law_lent","_law_x","_law_k","_law_room","_law_world_here","_law_name_here","_law_new","_law_body_here"] lS3 (zo Yc):=.ok
theorem X5 {n e:Nat} (F:Fun K "_law_bound_twice" "_law_bound_twice" Yc f fd) (hv:1<=e) (GB:Ca P w K mg base CX0 e "_law_body" lS0 (xG K n)) (GD:Ca P w K mg base CX0 1 "_law_draw" lS2 (yv K)) (GN':Ca P w K mg base CX0 1 "_law_name" lS6 spNm):FnOk P w K mg base CX0 (e + 1) f fd lS3 (ZE K n):=by
  refine F.by scTwiceG (fun vs H Q E h=>?_) (fun cdv A outer s H vs Q E hr h=>?_)
  · obtain ⟨st,lm,ll,wl,x,M,L,k,room,B,o,rfl,_⟩:=h
    rfl
  obtain ⟨st,lm,ll,wl,x,M,L,k,room,B,o,rfl,hp,hk,hB,q⟩:=h
  have hr1:Room 1 _:=hr.mono hv
  refine ⟨_,
    (zg (sE 7 scTwiceG.nd (cA GN' hr1 (jA2 (jv 6) (jv 4))))
    (zg (sE 8 scTwiceG.nd (cA GN' hr1 (jA2 (jv 6) (zu zM (jv 4) zj))))
    (zg (sE 9 scTwiceG.nd (cA GB hr (jA6 (jv 0) (zu zZ (jv 1) (zB (jA2 (jv 7) (jv 8)))) (jv 2) (zu zM (jv 4) zj) (zu yz (jv 5) zj) (jv 6))))
    (zg (sE 9 scTwiceG.nd (zv (jA3 zq (jv 7) (zv (jA4 zq (jv 7) (jv 3) (jv 9))))))
    (zi (zp (zv (jA4 zq (jv 7) (jv 3) (zv (jA4 zq (jv 8) (zv (jA2 zq (cA GD hr1 (jA2 (jv 0) zj)))) (jv 9))))))))))),?_⟩
  have sl:=zK
  have LM:LIM=4611686018427387904:=rfl
  rw [LM] at hB
  have hml:=hp.ml
  have hrm:=hp.r
  have nlm:=hp.g.s.neS hp.m
  have nll:=hp.g.s.neS hp.l
  obtain ⟨tl,dl,ts,us,w1,w2,w3,w4,w5⟩:=hp.g.w
  refine ⟨_,rfl,_,rfl,wl,o.z,o.b,_,k,rfl,w1,hp.g.ok.z,?_⟩
  refine ⟨_,rfl,_,rfl,_,_,rfl,rfl,wl,o.z,o.b,_,k + 1,rfl,w1,hp.g.ok.z,?_⟩
  refine ⟨_,rfl,_,rfl,_,rfl,_,rfl,sN2,fun l1 f1=>?_⟩
  have s1:=zh (o:=.lst [.str (nm o.z o.b k),.str (nm o.z o.b (k + 1))]) f1
  refine ⟨lm,l1,_,_,rfl,rfl,s1 _ _ hp.m,zf,by rw [List.length_map]; show M.length + 2<=_; lia,fun l2 f2=>?_⟩
  have s2:=s1.new (o:=.lst (M.map V.str ++ [.str (nm o.z o.b k),.str (nm o.z o.b (k + 1))])) f2
  have g2:upd (upd H l1 (.lst [.str (nm o.z o.b k),.str (nm o.z o.b (k + 1))])) l2 (.lst (M.map V.str ++ [.str (nm o.z o.b k),.str (nm o.z o.b (k + 1))])) l2=some (.lst ((M ++ [nm o.z o.b k,nm o.z o.b (k + 1)]).map V.str)):=by rw [zf,List.map_append]; rfl
  refine ⟨_,rfl,_,rfl,_,_,rfl,rfl,_,rfl,_,_,rfl,rfl,_,rfl,st,l2,ll,wl,M ++ [nm o.z o.b k,nm o.z o.b (k + 1)],L,k + 2,room - 2,B,o,rfl,⟨hp.g.same s2,g2,s2 _ _ hp.l,by rw [List.length_append]; show M.length + 2 + _<=_; lia,hp.ll,by lia⟩,by lia,by rw [LM]; lia,fun H3 p b k3 S3 hb hbg=>?_⟩
  have k03:Kp st H H3:=(Kp.of s2).trans k3
  refine ⟨_,rfl,_,rfl,_,rfl,_,rfl,sN4,fun t4 f4=>⟨sN3,fun t5 f5=>?_⟩⟩
  have s5:=(zh (o:=.tup [.str "hold",.str (nm o.z o.b k),.str x,.ref p]) f4).new (o:=.tup [.str "drop",.str (nm o.z o.b k),.ref t4]) f5
  have b5:IsBd _ (.drop (nm o.z o.b k) (.hold (nm o.z o.b k) x b)) t5:=⟨t4,zf,p,old f5 zf,hb.keep (.of s5)⟩
  have S5:=S3.same s5
  refine ⟨_,rfl,_,rfl,_,rfl,_,rfl,st,9,B + bB n,rfl,S5,by rw [LM]; lia,by decide,fun H6 r k6 S6 _ _=>⟨sN2,fun t7 f7=>⟨_,rfl,sN4,fun t8 f8=>⟨sN4,fun t9 f9=>?_⟩⟩⟩⟩
  have s9:=((zh (o:=.tup [.str "num",.int r]) f7).new (o:=.tup [.str "let",.str (nm o.z o.b (k + 1)),.ref t7,.ref t5]) f8).new (o:=.tup [.str "hold",.str (nm o.z o.b k),.str x,.ref t8]) f9
  have b6:=(b5.keep (k6.tups S5)).keep (.of s9)
  refine q _ t9 (.hold (nm o.z o.b k) x (.lt (nm o.z o.b (k + 1)) (.num r) (.drop (nm o.z o.b k) (.hold (nm o.z o.b k) x b)))) (((k03.trans (.of s5)).trans k6).trans (.of s9)) (S6.same s9) ⟨t8,zf,t7,t5,old f9 zf,old f9 (old f8 zf),b6⟩ ?_
  have e1:=(((hbg.sub (l':=nm o.z o.b k :: nm o.z o.b (k + 1) :: nm o.z o.b k :: (M ++ L)) fun z hz=>?_).hold (x:=nm o.z o.b k) (y:=x)).drop (x:=nm o.z o.b k)).lt (dd:=.num r) ⟨by show 0<=1000; decide,trivial,rfl⟩
  · exact e1.hold
  · simp only [List.mem_append,List.mem_cons,List.not_mem_nil,or_false] at hz ⊢
    rcases hz with (a | a | a) | a
    · exact .inr (.inr (.inr (.inl a)))
    · exact .inl a
    · exact .inr (.inl a)
    · exact .inr (.inr (.inr (.inr a)))
theorem Q5 (n:Nat):200<=bB n:=by
  unfold bB
  have:=Nat.one_le_pow n 30 (by decide)
  lia
theorem zbS:∀ n:Fin 301,(Str.ofString (toString ((n.val:Nat):Int))).length<=3/\((n.val:Nat):Int).natAbs.log2 < 1920:=by decide +kernel
theorem numL {k:Nat} (h:k<=300):(Str.ofString (toString ((k:Nat):Int))).length<=3/\((k:Nat):Int).natAbs.log2 < 1920:=zbS ⟨k,by lia⟩
def arR (a:ArmR) (H:Hp) (p:Addr):Prop:=∃ q s,H p=some (.tup [.str a.t,.ref q,.str a.m,.str a.k,.ref s])/\H q=some (.tup (a.ns.map V.str))/\IsBd H a.b s
theorem arR.tk {a:ArmR} {H H':Hp} {p:Addr} (k:Tups H H') (h:arR a H p):arR a H' p:=let ⟨q,s,h1,h2,h3⟩:=h; ⟨q,s,k _ _ h1,k _ _ h2,h3.keep k⟩
structure ArG (ow:Ow) (l:List Str) (a:ArmR) (d s n:Nat):Prop where
  m:a.m="look"\/a.m="take"
  nl:a.ns.length<=9
  g:BG ow (a.ns ++ l) a.b d s n
def PsA (K:PySem.W.Frag) (st:Addr) (o:Wg) (H:Hp) (B:Nat) (l:List Str) (d s n:Nat) (Q:VK):Prop:=∀ (H':Hp) (p:Addr) (a:ArmR),Kp st H H'->Sta K H' st B->arR a H' p->ArG o.D l a d s n->Q (.ref p) H'
def V9 (K:PySem.W.Frag) (n:Nat):Sp:=fun vs H Q _=>∃ (st lm ll wl pt:Addr) (x t:Str) (size kind:Nat) (M L:List Str) (k:Nat) (room:Int) (B:Nat) (o:Wg),vs=[.ref st,.ref lm,.ref ll,.str x,.ref pt,.int (k:Nat),.int room,.ref wl]/\Pl K st wl o H B lm ll M L (n + 1) room/\H pt=some (.tup [.str t,.int (size:Nat),.int (kind:Nat)])/\size<=9/\k + 20 * (n + 1)<=300/\B + bB n + 20 < LIM/\PsA K st o H (B + bB n + 20) (M ++ L) (dB n + 2) (sB n + 2) (nB n + 1) Q
theorem scArmG:FnScope ["_law_state","_law_mine","_law_lent","_law_x","_law_one","_law_k","_law_room","_law_world_here","_law_tag","_law_size","_law_kind","_law_names","_law_new","_law_inner","_law_left_here","_law_way","_law_token","_law_deed_here"] lS1 (zo Vi):=.ok
theorem zbo:(["_law_state","_law_mine","_law_lent","_law_x","_law_one","_law_k","_law_room","_law_world_here","_law_tag","_law_size","_law_kind","_law_names","_law_new","_law_inner","_law_left_here","_law_way","_law_token","_law_deed_here","_law_j"]:List Str).Nodup:=by decide +kernel
theorem zbp:(["_law_state","_law_mine","_law_lent","_law_x","_law_one","_law_k","_law_room","_law_world_here","_law_tag","_law_size","_law_kind","_law_names","_law_new","_law_inner","_law_left_here","_law_way","_law_token","_law_deed_here","_law_name_here"]:List Str).Nodup:=by decide +kernel
theorem Qt {n e:Nat} (F:Fun K "_law_arm" "_law_arm" Vi f fd) (hv:2<=e) (GB:Ca P w K mg base CX0 e "_law_begun" lS0 (wy K n)) (GD:Ca P w K mg base CX0 1 "_law_draw" lS2 (yv K)) (GN':Ca P w K mg base CX0 1 "_law_name" lS6 spNm) (GS:Ca P w K mg base CX0 2 "_law_some" lS8 (j3 K)) (m_range:mg "range"=none) (m_tuple:mg "tuple"=none) (m_str:mg "str"=none):FnOk P w K mg base CX0 (e + 1) f fd lS1 (V9 K n):=by
  refine F.by scArmG (fun vs H Q E h=>?_) (fun cdv A outer s H vs Q E hr h=>?_)
  · obtain ⟨st,lm,ll,wl,pt,x,t,size,kind,M,L,k,room,B,o,rfl,_⟩:=h
    rfl
  obtain ⟨st,lm,ll,wl,pt,x,t,size,kind,M,L,k,room,B,o,rfl,hp,hpt,h9,hk,hB,q⟩:=h
  have hr2:Room 2 _:=hr.mono hv
  have hr1:Room 1 _:=hr2.mono (by decide)
  refine ⟨_,
    (zg (vi (jv 4) (xm rfl (zw (gN 8 scArmG.nd) (zw (gN 9 scArmG.nd) (zw (gN 10 scArmG.nd) z6)))))
    (zg (yC ["_law_j"] (i:=11) scArmG.nd rfl (Or.inl rfl) rfl (yg rfl m_range (jA1 (jv 9))) (fun _ _ _ _ _=>(gN 18 zbo)) (fun _ _ _ _ _=>zV) (fun _ _ _ _ _=>(cA GN' hr1 (jA2 (jv 7) (zu zM (jv 5) (jv 18))))))
    (zg (sE 12 scArmG.nd (cA GN' hr1 (jA2 (jv 7) (zu zM (jv 5) (jv 9)))))
    (zg (zx (jW.pt (xK (yY yE (jv 3) (jv 1) (by with_unfolding_all rfl)) (yP (tN zA (cA GD hr1 (jA2 (jv 0) zj)) zj))))
      (zg (sE 13 scArmG.nd (cA GB hr (jA6 (jv 0) (zu zZ (jv 1) (jv 11)) (jv 2) (zu zM (jv 5) (jv 9)) (zu yD (zu yz (jv 6) zj) zj) (jv 7))))
      (zi (zp (zv (jA5 (jv 8) (zF zC rfl m_tuple PyProof.Rows.boot_tuple (jA1 (jv 11))) zq zq (jv 13)))))) zr)
    (zg (sE 14 scArmG.nd (zu zZ (zW ["_law_name_here"] rfl (zP (jv 1)) (fun _ _ _ _ _=>(gN 18 zbp)) (fun _ _ _ _ _=>(ya (tN vk (jv 18) (jv 3)))) (fun _ _ _ _ _=>(jv 18))) (jv 11)))
    (zg (sE 15 scArmG.nd (cA GD hr1 (jA2 (jv 0) zj)))
    (zg (zx (jW.pt (xK (tN zA (jv 9) zj) (yP (tN zA (jv 15) zj))))
      (zg (sE 13 scArmG.nd (cA GB hr (jA6 (jv 0) (jv 14) (jv 2) (zu zM (jv 5) (jv 9)) (zu yD (zu yz (jv 6) zj) zj) (jv 7))))
      (zi (zp (zv (jA5 (jv 8) (zF zC rfl m_tuple PyProof.Rows.boot_tuple (jA1 (jv 11))) zq zq (jv 13)))))) zr)
    (zg (sE 16 scArmG.nd (zu yo zq (zF Z4 rfl m_str PyProof.Rows.boot_str (jA1 (jv 5)))))
    (zg (zx (tN zA (jv 15) zj)
      (zg (sE 13 scArmG.nd (cA GB hr (jA6 (jv 0) (jv 14) (jv 2) (zu zM (jv 5) (jv 9)) (zu yD (zu yz (jv 6) zj) zj) (jv 7))))
      (zi (zp (zv (jA5 (jv 8) (zF zC rfl m_tuple PyProof.Rows.boot_tuple (jA1 (jv 11))) zq (jv 16) (zv (jA3 zq (jv 16) (jv 13)))))))) zr)
    (zg (sE 17 scArmG.nd (zv (jA4 zq (jv 8) (cA GS hr2 (jA3 (jv 0) (jv 14) (jv 9))) (jv 16))))
    (zg (sE 13 scArmG.nd (cA GB hr (jA6 (jv 0) (zu zZ (jv 14) (zB (jA1 (jv 12)))) (jv 2) (zu zM (zu zM (jv 5) (jv 9)) zj) (zu yD (zu yz (jv 6) zj) zj) (jv 7))))
    (zi (zp (zv (jA5 (jv 8) (zF zC rfl m_tuple PyProof.Rows.boot_tuple (jA1 (jv 11))) zq (jv 16) (zv (jA4 zq (jv 12) (jv 17) (jv 13)))))))))))))))))),?_⟩
  have sl:=zK
  have LM:LIM=4611686018427387904:=rfl
  rw [LM] at hB
  have hml:=hp.ml
  have hrm:=hp.r
  have bge:=Q5 n
  have nlm:=hp.g.s.neS hp.m
  have nll:=hp.g.s.neS hp.l
  obtain ⟨tl,dl,ts,us,w1,w2,w3,w4,w5⟩:=hp.g.w
  refine ⟨_,rfl,_,_,rfl,SqT.of hpt,rfl,_,_,rfl,_,_,rfl,_,_,rfl,rfl,?_⟩
  refine ⟨_,rfl,_,rfl,by lia,by lia,yT (n:=((size:Nat):Int).toNat) (fun i τ ys H'=>H=H'/\(∃ y,τ=[some (.ref st),some (.ref lm),some (.ref ll),some (.str x),some (.ref pt),some (.int (k:Nat)),some (.int room),some (.ref wl),some (.str t),some (.int (size:Nat)),some (.int (kind:Nat)),none,none,none,none,none,none,none,y])/\∃ Ns:List Str,ys=Ns.map V.str/\Ns.length=i) ⟨rfl,⟨none,rfl⟩,[],rfl,rfl⟩ ?_ ?_⟩
  · rintro i τ ys H' hi ⟨rfl,⟨y,rfl⟩,Ns,rfl,nl⟩
    rw [Int.toNat_natCast] at hi
    refine ⟨_,rfl,_,rfl,_,rfl,_,_,rfl,rfl,wl,o.z,o.b,_,k + i,?_,w1,hp.g.ok.z,by rw [List.length_map]; lia,rfl,⟨_,rfl⟩,Ns ++ [nm o.z o.b (k + i)],by rw [List.map_append]; rfl,by rw [List.length_append,nl]; rfl⟩
    show [V.ref wl,V.int ((k:Int) + (0 + (i:Int)))]=_
    rw [Int.zero_add]
    rfl
  rintro τ ys H' ⟨rfl,_,Ns,rfl,nl⟩ l1 f1
  rw [Int.toNat_natCast] at nl
  have s1:=zh (o:=.lst (Ns.map V.str)) f1
  have g1:=zf (H:=H) (a:=l1) (o:=.lst (Ns.map V.str))
  refine ⟨_,rfl,_,rfl,_,rfl,_,_,rfl,rfl,wl,o.z,o.b,_,k + size,rfl,s1 _ _ w1,hp.g.ok.z,?_⟩
  have hg1:=hp.g.same s1
  have n1s:=hp.g.s.ne f1
  have m1:=s1 _ _ hp.m
  have ll1:=s1 _ _ hp.l
  dsimp only
  generalize upd H l1 (.lst (Ns.map V.str))=H1 at *
  change (tSeq (tIfS _ _ _) (tSeq _ _):TS) { nx:=fun _ H'=>Q .non H',rt:=Q } [some (.ref st),some (.ref lm),some (.ref ll),some (.str x),some (.ref pt),some (.int (k:Nat)),some (.int room),some (.ref wl),some (.str t),some (.int (size:Nat)),some (.int (kind:Nat)),some (.ref l1),some (.str (nm o.z o.b (k + size))),none,none,none,none,none] H1
  have hdv:(room - 1) / 2<=(n:Int):=by lia
  refine (show ∀ a u:TS,(∀ (D:Ends) (H2:Hp),D.rt=Q->Kp st H H2->Sta K H2 st (B + 1)->H2 l1=some (.lst (Ns.map V.str))->a D [some (.ref st),some (.ref lm),some (.ref ll),some (.str x),some (.ref pt),some (.int (k:Nat)),some (.int room),some (.ref wl),some (.str t),some (.int (size:Nat)),some (.int (kind:Nat)),some (.ref l1),some (.str (nm o.z o.b (k + size))),none,none,none,none,none] H2)->(∀ H2:Hp,Kp st H H2->Sta K H2 st (B + 1)->H2 l1=some (.lst (Ns.map V.str))->u { nx:=fun _ H'=>Q .non H',rt:=Q } [some (.ref st),some (.ref lm),some (.ref ll),some (.str x),some (.ref pt),some (.int (k:Nat)),some (.int room),some (.ref wl),some (.str t),some (.int (size:Nat)),some (.int (kind:Nat)),some (.ref l1),some (.str (nm o.z o.b (k + size))),none,none,none,none,none] H2)->(tSeq (tIfS _ a v0) u:TS) { nx:=fun _ H'=>Q .non H',rt:=Q } [some (.ref st),some (.ref lm),some (.ref ll),some (.str x),some (.ref pt),some (.int (k:Nat)),some (.int room),some (.ref wl),some (.str t),some (.int (size:Nat)),some (.int (kind:Nat)),some (.ref l1),some (.str (nm o.z o.b (k + size))),none,none,none,none,none] H1 from ?key) _ _ ?look ?rst
  case key =>
    intro a u look rest
    refine ⟨_,rfl,_,rfl,lm,_,rfl,.inl (SqL.of m1),rfl,yH,_,rfl,?_⟩
    by_cases c:x∈M
    · refine iteE (show (!inV _ _)=false by rw [yp,decide_eq_true c]; rfl) ⟨_,rfl,st,4,B,rfl,hg1.s,by rw [LM]; lia,by decide,fun H2 r k2 S2 _ _=>⟨rfl,_,rfl,?_⟩⟩
      have k02:=(Kp.of s1).trans k2
      have g2:=k2.k _ _ n1s g1
      by_cases c2:r=1
      · exact zD (decide_eq_true (by rw [c2])) (look _ H2 rfl k02 S2 g2)
      · exact iteE (decide_eq_false fun z=>c2 (V.int.inj z)) (nxtC (rest H2 k02 S2 g2))
    · exact zD (show (!inV _ _)=true by rw [yp,decide_eq_false c]; rfl) (iteT (look _ H1 rfl (.of s1) (hg1.s.mono (by lia)) g1))
  case look =>
    intro D H2 hD k2 S2 g2
    have m2:=k2.k _ _ nlm hp.m
    have hg2:Gn K st wl o H2 (B + 1):=hp.g.go k2 S2
    refine ⟨_,rfl,_,rfl,_,rfl,lm,l1,_,_,rfl,rfl,m2,g2,by rw [List.length_map,List.length_map]; lia,fun l3 f3=>?_⟩
    have s3:=zh (o:=.lst (M.map V.str ++ Ns.map V.str)) f3
    have g3:upd H2 l3 (.lst (M.map V.str ++ Ns.map V.str)) l3=some (.lst ((M ++ Ns).map V.str)):=by rw [zf,List.map_append]
    refine ⟨_,rfl,_,rfl,_,rfl,_,_,rfl,rfl,_,rfl,_,_,rfl,rfl,_,_,rfl,rfl,⟨by decide,by decide⟩,_,rfl,st,l3,ll,wl,M ++ Ns,L,k + size,(room - 1) / 2,B + 1,o,rfl,⟨hg2.same s3,g3,s3 _ _ (k2.k _ _ nll hp.l),by rw [List.length_append]; lia,hp.ll,hdv⟩,by lia,by rw [LM]; lia,fun H4 p b k4 S4 hb hbg=>?_⟩
    have g4:=k4.k _ _ n1s (s3 _ _ g2)
    refine ⟨_,rfl,_,rfl,l1,_,rfl,.inl ⟨SqL.of g4,fun t5 f5=>⟨_,rfl,sN5,fun t6 f6=>?_⟩⟩⟩
    have s6:=(zh (o:=.tup (Ns.map V.str)) f5).new (o:=.tup [.str t,.ref t5,.str "look",.str "",.ref p]) f6
    show D.rt _ _
    rw [hD]
    refine q _ t6 ⟨t,Ns,"look","",b⟩ (((k2.trans (.of s3)).trans k4).trans (.of s6)) ((S4.same s6).mono (by lia)) ⟨t5,p,zf,old f6 zf,hb.keep (.of s6)⟩ ⟨.inl rfl,by show Ns.length<=9; lia,hbg.mono (fun z hz=>?_) (by lia) (by lia) (by lia)⟩
    simp only [List.mem_append] at hz ⊢
    rcases hz with (a | a) | a
    · exact .inr (.inl a)
    · exact .inl a
    · exact .inr (.inr a)
  intro H2 k2 S2 g2
  have m2:=k2.k _ _ nlm hp.m
  have hg2:Gn K st wl o H2 (B + 1):=hp.g.go k2 S2
  refine ⟨_,rfl,lm,rfl,⟨_,SqL.of m2⟩,ym (xs:=M.map V.str) (fun j τ ys H'=>H2=H'/\(∃ v,τ=[some (.ref st),some (.ref lm),some (.ref ll),some (.str x),some (.ref pt),some (.int (k:Nat)),some (.int room),some (.ref wl),some (.str t),some (.int (size:Nat)),some (.int (kind:Nat)),some (.ref l1),some (.str (nm o.z o.b (k + size))),none,none,none,none,none,v])/\∃ us:List Str,ys=us.map V.str/\us.length<=j/\∀ z∈us,z∈M) ⟨rfl,⟨none,rfl⟩,[],rfl,Nat.le_refl _,fun z hz=>by cases hz⟩ (fun j τ ys H' _ h=>SqL.of (h.1 ▸ m2)) ?_ ?_⟩
  · rintro j v τ ys H3 hv' ⟨rfl,⟨v',rfl⟩,us,rfl,ul,hu⟩
    rw [List.getElem?_map] at hv'
    obtain ⟨y,hy,rfl⟩:=Option.map_eq_some_iff.mp hv'
    have hj:=(List.getElem?_eq_some_iff.mp hy).1
    refine ⟨_,rfl,_,rfl,rfl,_,rfl,?_⟩
    by_cases c:y=x
    · exact iteE (show (!decide (V.str y=V.str x))=false by rw [decide_eq_true (congrArg V.str c)]; rfl) ⟨rfl,⟨_,rfl⟩,us,rfl,by lia,hu⟩
    · refine zD (show (!decide (V.str y=V.str x))=true by rw [decide_eq_false fun z=>c (V.str.inj z)]; rfl) ⟨_,rfl,by rw [List.length_map]; lia,rfl,⟨_,rfl⟩,us ++ [y],by rw [List.map_append]; rfl,by rw [List.length_append]; show us.length + 1<=_; lia,fun z hz=>?_⟩
      rcases List.mem_append.mp hz with hz | hz
      · exact hu z hz
      · rw [List.mem_singleton.mp hz]; exact List.mem_of_getElem? hy
  rintro τ ys H3 ⟨rfl,_,M2,rfl,ul,hu⟩ l3 f3
  rw [List.length_map] at ul
  have s3:=zh (o:=.lst (M2.map V.str)) f3
  have hg3:=hg2.same s3
  have g13:=s3 _ _ g2
  refine ⟨_,rfl,l3,l1,_,_,rfl,rfl,zf,g13,by rw [List.length_map,List.length_map]; lia,fun l4 f4=>?_⟩
  have k3:=k2.trans (.of s3)
  generalize upd H2 l3 (.lst (M2.map V.str))=H3 at *
  have s4:=zh (o:=.lst (M2.map V.str ++ Ns.map V.str)) f4
  have h4:Hd K st wl o H3 (upd H3 l4 (.lst (M2.map V.str ++ Ns.map V.str))) l4 (M2 ++ Ns) (B + 1):=⟨hp.g.ok,⟨_,hg3.s⟩,hg3.w,f4,.of s4,hg3.s.same s4,by rw [zf,List.map_append]⟩
  refine ⟨_,rfl,st,3,B + 1,rfl,h4.s,by rw [LM]; lia,by decide,fun H5 r k5 S5 r0 r1=>?_⟩
  have h5:=h4.go k5 S5
  have g5:=h5.kp.k _ _ n1s g13
  have ll5:=(k3.trans h5.kp).k _ _ nll hp.l
  have gn5:Gn K st wl o H5 (B + 1 + 1):=⟨h5.ok,h5.wa,h5.s⟩
  have ml2:(M2 ++ Ns).length + 12 * n<=60:=by rw [List.length_append]; lia
  have sub2:∀ z,z∈M2 ++ Ns ++ L->z∈Ns ++ (M ++ L):=fun z hz=>by
    simp only [List.mem_append] at hz ⊢
    rcases hz with (a | a) | a
    · exact .inr (.inl (hu z a))
    · exact .inl a
    · exact .inr (.inr a)
  refine ⟨_,rfl,rfl,_,rfl,?_⟩
  by_cases c0:size=0
  · refine zD (decide_eq_true (by rw [c0]; rfl)) (iteT ?_)
    refine ⟨_,rfl,_,rfl,_,rfl,_,rfl,_,rfl,_,_,rfl,rfl,_,rfl,_,_,rfl,rfl,_,_,rfl,rfl,⟨by decide,by decide⟩,_,rfl,st,l4,ll,wl,M2 ++ Ns,L,k + size,(room - 1) / 2,B + 1 + 1,o,rfl,⟨gn5,h5.m,ll5,ml2,hp.ll,hdv⟩,by lia,by rw [LM]; lia,fun H6 p b k6 S6 hb hbg=>?_⟩
    have g6:=k6.k _ _ n1s g5
    refine ⟨_,rfl,_,rfl,l1,_,rfl,.inl ⟨SqL.of g6,fun t7 f7=>⟨_,rfl,sN5,fun t8 f8=>?_⟩⟩⟩
    have s8:=(zh (o:=.tup (Ns.map V.str)) f7).new (o:=.tup [.str t,.ref t7,.str "take",.str "",.ref p]) f8
    exact q _ t8 ⟨t,Ns,"take","",b⟩ (((k3.trans h5.kp).trans k6).trans (.of s8)) ((S6.same s8).mono (by lia)) ⟨t7,p,zf,old f8 zf,hb.keep (.of s8)⟩ ⟨.inr rfl,by show Ns.length<=9; lia,hbg.mono sub2 (by lia) (by lia) (by lia)⟩
  refine iteE (decide_eq_false fun z=>c0 (by have:=V.int.inj z; lia)) ⟨_,rfl,rfl,_,rfl,?_⟩
  by_cases c1:r=0
  · refine zD (decide_eq_true (by rw [c1])) ?_
    refine ⟨_,rfl,_,rfl,_,rfl,_,rfl,_,rfl,_,_,rfl,rfl,_,rfl,_,_,rfl,rfl,_,_,rfl,rfl,⟨by decide,by decide⟩,_,rfl,st,l4,ll,wl,M2 ++ Ns,L,k + size,(room - 1) / 2,B + 1 + 1,o,rfl,⟨gn5,h5.m,ll5,ml2,hp.ll,hdv⟩,by lia,by rw [LM]; lia,fun H6 p b k6 S6 hb hbg=>?_⟩
    have g6:=k6.k _ _ n1s g5
    refine ⟨_,rfl,_,rfl,l1,_,rfl,.inl ⟨SqL.of g6,fun t7 f7=>⟨_,rfl,sN5,fun t8 f8=>?_⟩⟩⟩
    have s8:=(zh (o:=.tup (Ns.map V.str)) f7).new (o:=.tup [.str t,.ref t7,.str "take",.str "",.ref p]) f8
    exact q _ t8 ⟨t,Ns,"take","",b⟩ (((k3.trans h5.kp).trans k6).trans (.of s8)) ((S6.same s8).mono (by lia)) ⟨t7,p,zf,old f8 zf,hb.keep (.of s8)⟩ ⟨.inr rfl,by show Ns.length<=9; lia,hbg.mono sub2 (by lia) (by lia) (by lia)⟩
  refine iteE (decide_eq_false fun z=>c1 (V.int.inj z)) (nxtC ?_)
  obtain ⟨n1,n2⟩:=numL (k:=k) (by lia)
  refine ⟨_,rfl,_,rfl,n2,_,_,rfl,rfl,?_,?_⟩
  · have:("t":Str).length=1:=by decide +kernel
    rw [this]
    lia
  generalize ("t":Str) ++ Str.ofString (toString ((k:Nat):Int))=tok
  refine ⟨_,rfl,rfl,_,rfl,?_⟩
  by_cases c2:r=1
  · refine zD (decide_eq_true (by rw [c2])) ?_
    refine ⟨_,rfl,_,rfl,_,rfl,_,rfl,_,rfl,_,_,rfl,rfl,_,rfl,_,_,rfl,rfl,_,_,rfl,rfl,⟨by decide,by decide⟩,_,rfl,st,l4,ll,wl,M2 ++ Ns,L,k + size,(room - 1) / 2,B + 1 + 1,o,rfl,⟨gn5,h5.m,ll5,ml2,hp.ll,hdv⟩,by lia,by rw [LM]; lia,fun H6 p b k6 S6 hb hbg=>?_⟩
    have g6:=k6.k _ _ n1s g5
    refine ⟨_,rfl,_,rfl,l1,_,rfl,.inl ⟨SqL.of g6,fun t7 f7=>⟨_,rfl,_,rfl,_,rfl,sN3,fun t8 f8=>⟨sN5,fun t9 f9=>?_⟩⟩⟩⟩
    have s9:=((zh (o:=.tup (Ns.map V.str)) f7).new (o:=.tup [.str "loose",.str tok,.ref p]) f8).new (o:=.tup [.str t,.ref t7,.str "take",.str tok,.ref t8]) f9
    exact q _ t9 ⟨t,Ns,"take",tok,.loose tok b⟩ (((k3.trans h5.kp).trans k6).trans (.of s9)) ((S6.same s9).mono (by lia)) ⟨t7,t8,zf,old f9 (old f8 zf),p,old f9 zf,hb.keep (.of s9)⟩ ⟨.inr rfl,by show Ns.length<=9; lia,(hbg.loose (x:=tok)).mono sub2 (by lia) (by lia) (by lia)⟩
  refine iteE (decide_eq_false fun z=>c2 (V.int.inj z)) (nxtC ?_)
  refine ⟨_,rfl,_,rfl,_,rfl,_,rfl,st,l4,size,M2 ++ Ns,B + 1 + 1,H3,wl,o,rfl,h5,by rw [List.length_append]; lia,by lia,by lia,by rw [LM]; lia,fun H6 r6 N M3 h6 t6 ml6 sub6 g6 nl6=>?_⟩
  refine ⟨_,rfl,sN4,fun t7 f7=>?_⟩
  have s7:=zh (o:=.tup [.str "make",.str t,.ref r6,.str tok]) f7
  have h7:=h6.same s7
  have d7:IsDd (upd H6 t7 (.tup [.str "make",.str t,.ref r6,.str tok])) (.mk t N tok) t7:=⟨r6,zf,s7 _ _ g6⟩
  dsimp only
  generalize upd H6 t7 (.tup [.str "make",.str t,.ref r6,.str tok])=H7 at *
  refine ⟨_,rfl,_,rfl,_,rfl,sN1,fun l8 f8=>?_⟩
  have s8:=zh (o:=.lst [.str (nm o.z o.b (k + size))]) f8
  have el2:(M2 ++ Ns).length=M2.length + Ns.length:=List.length_append
  refine ⟨l4,l8,_,_,rfl,rfl,s8 _ _ h7.m,zf,by rw [List.length_map]; show M3.length + 1<=_; lia,fun l9 f9=>?_⟩
  have s9:=s8.new (o:=.lst (M3.map V.str ++ [.str (nm o.z o.b (k + size))])) f9
  have h9:=h7.same s9
  have g9:upd (upd H7 l8 (.lst [.str (nm o.z o.b (k + size))])) l9 (.lst (M3.map V.str ++ [.str (nm o.z o.b (k + size))])) l9=some (.lst ((M3 ++ [nm o.z o.b (k + size)]).map V.str)):=by rw [zf,List.map_append]; rfl
  have gn9:Gn K st wl o _ (B + 1 + 1 + size):=⟨h9.ok,h9.wa,h9.s⟩
  refine ⟨_,rfl,_,rfl,_,rfl,_,_,rfl,rfl,_,_,rfl,rfl,_,rfl,_,_,rfl,rfl,_,_,rfl,rfl,⟨by decide,by decide⟩,_,rfl,st,l9,ll,wl,M3 ++ [nm o.z o.b (k + size)],L,k + size + 1,(room - 1) / 2,B + 1 + 1 + size,o,rfl,⟨gn9,g9,(k3.trans h9.kp).k _ _ nll hp.l,by rw [List.length_append]; show M3.length + 1 + _<=_; lia,hp.ll,hdv⟩,by lia,by rw [LM]; lia,fun H10 p b k10 S10 hb hbg=>?_⟩
  have k010:=(k3.trans h9.kp).trans k10
  have g10:=(h9.kp.trans k10).k _ _ n1s g13
  have d10:=(d7.keep (.of s9)).keep (k10.tups h9.s)
  refine ⟨_,rfl,_,rfl,l1,_,rfl,.inl ⟨SqL.of g10,fun t11 f11=>⟨_,rfl,_,rfl,_,rfl,_,rfl,sN4,fun t12 f12=>⟨sN5,fun t13 f13=>?_⟩⟩⟩⟩
  have s13:=((zh (o:=.tup (Ns.map V.str)) f11).new (o:=.tup [.str "let",.str (nm o.z o.b (k + size)),.ref t7,.ref p]) f12).new (o:=.tup [.str t,.ref t11,.str "take",.str tok,.ref t12]) f13
  refine q _ t13 ⟨t,Ns,"take",tok,.lt (nm o.z o.b (k + size)) (.mk t N tok) b⟩ (k010.trans (.of s13)) ((S10.same s13).mono (by lia)) ⟨t11,t12,zf,old f13 (old f12 zf),t7,p,old f13 zf,d10.keep (.of s13),hb.keep (.of s13)⟩ ⟨.inr rfl,by show Ns.length<=9; lia,?_⟩
  refine ((hbg.sub (l':=nm o.z o.b (k + size) :: (Ns ++ (M ++ L))) fun z hz=>?_).lt (dd:=.mk t N tok) ⟨by show N.length<=1000; lia,trivial,by show (N.map _).length=_; rw [List.length_map]; rfl⟩).mono (fun _ z=>z) (by lia) (by lia) (by lia)
  rcases List.mem_append.mp hz with a | a
  · rcases List.mem_append.mp a with a | a
    · exact .tail _ (sub2 z (List.mem_append.mpr (.inl (sub6 z a))))
    · rw [List.mem_singleton.mp a]; exact .head _
  · exact .tail _ (sub2 z (List.mem_append.mpr (.inr a)))
end
end GN
namespace L2
open PySem
theorem X6 {X:Cx} {sts:List Stmt}:jSs X sts (fun _ _ _=>False):=⟨fun _ _ _ _ _ _ h=>h.elim⟩
end L2
namespace GN
open PySem L2 K11
def mkA:List ArmR->Arms
  | []=>.nil
  | a :: l=>.cons a.t a.ns a.m a.k a.b (mkA l)
theorem Q6:∀ (l:List ArmR),(mkA l).l=l
  | []=>rfl
  | a :: l=>by rw [mkA,Arms.l,Q6 l]
theorem Ja {H:Hp}:∀ {l:List ArmR} {ts:List Addr},TsAt arR H l ts->IsArms H (mkA l) ts
  | [],ts,h=>by
    have:ts=[]:=List.length_eq_zero_iff.mp h.1.symm
    subst this
    rw [mkA,IsArms]
  | a :: l,[],h=>by cases h.1
  | a :: l,t :: ts,h=>by
    obtain ⟨q,s,h1,h2,h3⟩:=h.2 0 a t rfl rfl
    rw [mkA,IsArms]
    exact ⟨t,q,s,ts,rfl,h1,h2,h3,Ja ⟨Nat.succ.inj h.1,fun i x y e1 e2=>h.2 (i + 1) x y e1 e2⟩⟩
theorem Q7 {ow:Ow} {L:List Str} {d s n:Nat}:∀ {l:List ArmR},(∀ a∈l,ArG ow L a d s n)->TwA ow L (mkA l)/\(mkA l).dp<=d/\(mkA l).sz<=l.length * (s + 1)/\(mkA l).binds.length<=l.length * (9 + n)
  | [],_=>by
    rw [mkA,TwA,Arms.dp,Arms.sz,Arms.binds]
    exact ⟨trivial,Nat.zero_le _,Nat.zero_le _,Nat.zero_le _⟩
  | a :: l,h=>by
    obtain ⟨i1,i2,i3,i4⟩:=Q7 (l:=l) fun x hx=>h x (List.mem_cons_of_mem _ hx)
    have g:=h a List.mem_cons_self
    have g1:=g.nl
    have g2:=g.g.sz
    have g3:=g.g.bn
    rw [mkA,TwA,Arms.dp,Arms.sz,Arms.binds,List.length_cons,List.length_append,List.length_append]
    refine ⟨⟨g.m,g.g.tw,i1⟩,Nat.max_le.mpr ⟨g.g.dp,i2⟩,?_,?_⟩
    · rw [Nat.succ_mul]; lia
    · rw [Nat.succ_mul]; lia
theorem BG.cs {ow:Ow} {x:Str} {L:List Str} {l:List ArmR} {d s n:Nat} (h:∀ a∈l,ArG ow L a d s n) (hx:x∈L) (ln:l.length<=11):BG ow L (.cs x (mkA l)) (d + 1) (11 * (s + 1) + 1) (11 * (9 + n)):=by
  obtain ⟨i1,i2,i3,i4⟩:=Q7 h
  refine ⟨⟨hx,by rw [Q6]; lia,i1⟩,by rw [Bd.dp]; lia,?_,?_⟩
  · rw [Bd.sz]
    exact Nat.succ_le_succ (Nat.le_trans i3 (Nat.mul_le_mul_right _ ln))
  · rw [Bd.binds]
    exact Nat.le_trans i4 (Nat.mul_le_mul_right _ ln)
theorem Q8 (n:Nat):64<=sB n:=by
  unfold sB
  have:=Nat.one_le_pow n 14 (by decide)
  lia
theorem Q9 (n:Nat):50<=nB n:=by
  unfold nB
  have:=Nat.one_le_pow n 14 (by decide)
  lia
theorem sB_s (n:Nat):sB (n + 1)=14 * sB n:=by unfold sB; rw [Nat.pow_succ]; lia
theorem nB_s (n:Nat):nB (n + 1)=14 * nB n:=by unfold nB; rw [Nat.pow_succ]; lia
section
variable {P:Program} {w:World} {K:PySem.W.Frag} {mg:Str->Option Value} {base:Heap} {f:Addr} {fd:FuncData}
theorem scBodyG:FnScope ["_law_state","_law_mine","_law_lent","_law_k","_law_room","_law_world_here","_law_way","_law_name_here","_law_near","_law_left_here","_law_deed_here","_law_x","_law_first","_law_sort","_law_arms"] lS0 (zo jQ):=.ok
theorem X7 (F:Fun K "_law_body" "_law_body" jQ f fd) (GD:Ca P w K mg base CX0 1 "_law_draw" lS2 (yv K)) (GN':Ca P w K mg base CX0 1 "_law_name" lS6 spNm) (GE:Ca P w K mg base CX0 2 "_law_end" lS5 (Yr K)):FnOk P w K mg base CX0 5 f fd lS0 (xG K 0):=by
  refine F.by scBodyG (fun vs H Q E h=>?_) (fun cdv A outer s H vs Q E hr h=>?_)
  · obtain ⟨st,lm,ll,wl,M,L,k,room,B,o,rfl,_⟩:=h
    rfl
  obtain ⟨st,lm,ll,wl,M,L,k,room,B,o,rfl,hp,hk,hB,q⟩:=h
  have hr1:Room 1 _:=hr.mono (by decide)
  have hr2:Room 2 _:=hr.mono (by decide)
  refine ⟨_,
    (zg (sE 6 scBodyG.nd (cA GD hr1 (jA2 (jv 0) zj)))
    (zg (sE 7 scBodyG.nd (cA GN' hr1 (jA2 (jv 5) (jv 3))))
    (zg (sE 8 scBodyG.nd (zu zZ (jv 1) (jv 2)))
    (zg (zx (tN WK (jv 4) zj)
      (zi (zp (cA GE hr2 (jA4 (jv 0) (jv 1) (jv 7) (jv 5))))) zr)
    X6)))),?_⟩
  have sl:=zK
  have LM:LIM=4611686018427387904:=rfl
  have e0:bB 0=200:=rfl
  rw [LM,e0] at hB
  rw [e0] at q
  have hml:=hp.ml
  have hll:=hp.ll
  have nlm:=hp.g.s.neS hp.m
  have nll:=hp.g.s.neS hp.l
  refine ⟨_,rfl,st,10,B,rfl,hp.g.s,by rw [LM]; lia,by decide,fun H1 way k1 S1 _ _=>?_⟩
  have g1:=hp.g.go k1 S1
  obtain ⟨tl,dl,ts,us,w1,w2,w3,w4,w5⟩:=g1.w
  refine ⟨_,rfl,_,rfl,wl,o.z,o.b,_,k,rfl,w1,g1.ok.z,?_⟩
  have m1:=k1.k _ _ nlm hp.m
  refine ⟨_,rfl,_,rfl,lm,ll,_,_,rfl,rfl,m1,k1.k _ _ nll hp.l,by rw [List.length_map,List.length_map]; lia,fun l2 f2=>?_⟩
  have s2:=zh (o:=.lst (M.map V.str ++ L.map V.str)) f2
  refine ⟨_,rfl,_,_,rfl,rfl,_,rfl,zD (decide_eq_true hp.r) ?_⟩
  exact ⟨_,rfl,_,rfl,_,rfl,_,rfl,st,lm,wl,_,M,B + 1,o,rfl,g1.same s2,s2 _ _ m1,by lia,by rw [LM]; lia,fun H3 p b k3 S3 hb hbg=>q _ p b ((k1.trans (.of s2)).trans k3) (S3.mono (by lia)) hb (hbg.mono (fun z hz=>by cases hz) (by decide) (by decide) (by decide))⟩
theorem Qu:(["_law_state","_law_mine","_law_lent","_law_k","_law_room","_law_world_here","_law_way","_law_name_here","_law_near","_law_left_here","_law_deed_here","_law_x","_law_first","_law_sort","_law_arms","_law_one"]:List Str).Nodup:=by decide +kernel
theorem Jb {n:Nat} (F:Fun K "_law_body" "_law_body" jQ f fd) (GD:Ca P w K mg base CX0 1 "_law_draw" lS2 (yv K)) (GN':Ca P w K mg base CX0 1 "_law_name" lS6 spNm) (GE:Ca P w K mg base CX0 2 "_law_end" lS5 (Yr K)) (GC:Ca P w K mg base CX0 4 "_law_deed" lS9 (Xi K)) (GB:Ca P w K mg base CX0 (5 + 3 * n) "_law_body" lS0 (xG K n)) (GG:Ca P w K mg base CX0 (5 + 3 * n + 1) "_law_begun" lS0 (wy K n)) (GT:Ca P w K mg base CX0 (5 + 3 * n + 1) "_law_bound_twice" lS3 (ZE K n)) (GA:Ca P w K mg base CX0 (5 + 3 * n + 2) "_law_arm" lS1 (V9 K n)) (m_len:mg "len"=none) (m_list:mg "list"=none) (m_tuple:mg "tuple"=none):FnOk P w K mg base CX0 (5 + 3 * (n + 1)) f fd lS0 (xG K (n + 1)):=by
  refine F.by scBodyG (fun vs H Q E h=>?_) (fun cdv A outer s H vs Q E hr h=>?_)
  · obtain ⟨st,lm,ll,wl,M,L,k,room,B,o,rfl,_⟩:=h
    rfl
  obtain ⟨st,lm,ll,wl,M,L,k,room,B,o,rfl,hp,hk,hB,q⟩:=h
  have hrA:Room (5 + 3 * n + 2) _:=hr
  have hrG:Room (5 + 3 * n + 1) _:=hrA.mono (by lia)
  have hrB:Room (5 + 3 * n) _:=hrA.mono (by lia)
  have hr4:Room 4 _:=hrA.mono (by lia)
  have hr2:Room 2 _:=hrA.mono (by lia)
  have hr1:Room 1 _:=hrA.mono (by lia)
  refine ⟨_,
    (zg (sE 6 scBodyG.nd (cA GD hr1 (jA2 (jv 0) zj)))
    (zg (sE 7 scBodyG.nd (cA GN' hr1 (jA2 (jv 5) (jv 3))))
    (zg (sE 8 scBodyG.nd (zu zZ (jv 1) (jv 2)))
    (zg (zx (tN WK (jv 4) zj)
      (zi (zp (cA GE hr2 (jA4 (jv 0) (jv 1) (jv 7) (jv 5))))) zr)
    (zg (zx (jW.pt (xK (tN (jF hr1) (jv 8) (zB zE)) (yP (tN vm (jv 6) zj))))
      (zg (sE 9 scBodyG.nd (zF yt rfl m_list PyProof.Rows.boot_list (jA1 (jv 1))))
      (zg (sE 10 scBodyG.nd (cA GC hr4 (jA4 (jv 0) (jv 9) (jv 2) (jv 5))))
      (zg (zx (zS (xL 5))
        (zi (zp (zv (jA4 zq (jv 7) (jv 10) (cA GG hrG (jA6 (jv 0) (zu zZ (jv 9) (zB (jA1 (jv 7)))) (jv 2) (zu zM (jv 3) zj) (zu yz (jv 4) zj) (jv 5))))))) zr)
      (zi (zp (zv (jA4 zq (jv 7) (jv 10) (cA GB hrB (jA6 (jv 0) (zu zZ (jv 9) (zB (jA1 (jv 7)))) (jv 2) (zu zM (jv 3) zj) (zu yz (jv 4) zj) (jv 5)))))))))) zr)
    (zg (sE 11 scBodyG.nd (xX zX (jv 8) (cA GD hr1 (jA2 (jv 0) (jL m_len (jv 8))))))
    (zg (zx (tN zA (jv 6) zj)
      (zi (zp (zv (jA4 zq (jv 7) (jv 11) (cA GB hrB (jA6 (jv 0) (zu zZ (jv 1) (zB (jA1 (jv 7)))) (jv 2) (zu zM (jv 3) zj) (zu yz (jv 4) zj) (jv 5))))))) zr)
    (zg (zx (jW.pt (wE (tN zA (jv 6) zj) (wg (zS (xL 5)))))
      (zi (zp (cA GT hrG (jA7 (jv 0) (jv 1) (jv 2) (jv 11) (jv 3) (jv 4) (jv 5))))) zr)
    (zg (zx (tN vm (jv 6) zj)
      (zg (sE 12 scBodyG.nd (cA GG hrG (jA6 (jv 0) (jv 1) (jv 2) (jv 3) (zu yD (zu yz (jv 4) zj) zj) (jv 5))))
      (zi (zp (zv (jA4 zq (jv 11) (jv 12) (cA GG hrG (jA6 (jv 0) (jv 1) (jv 2) (jv 3) (zu yD (zu yz (jv 4) zj) zj) (jv 5)))))))) zr)
    (zg (sE 13 scBodyG.nd (zu zM zj (cA GD hr1 (jA2 (jv 0) zj))))
    (zg (yC ["_law_one"] (i:=14) scBodyG.nd rfl (Or.inl rfl) rfl (zP (xL 5)) (fun _ _ _ _ _=>(gN 15 Qu)) (fun _ _ _ _ _=>(ya (tN zA (yx (yh K) (jv 15) zj (fun _ _=>rfl)) (jv 13)))) (fun _ _ _ _ _=>(cA GA hrA (jA8 (jv 0) (jv 1) (jv 2) (jv 11) (jv 15) (jv 3) (jv 4) (jv 5)))))
    (zi (zp (zv (jA3 zq (jv 11) (zF zC rfl m_tuple PyProof.Rows.boot_tuple (jA1 (jv 14)))))))))))))))))),?_⟩
  have sl:=zK
  have LM:LIM=4611686018427387904:=rfl
  have bge:=Q5 n
  have eb:bB (n + 1)=30 * bB n:=by unfold bB; rw [Nat.pow_succ]; lia
  rw [LM,eb] at hB
  rw [eb] at q
  have hml:=hp.ml
  have hll:=hp.ll
  have nlm:=hp.g.s.neS hp.m
  have nll:=hp.g.s.neS hp.l
  refine ⟨_,rfl,st,10,B,rfl,hp.g.s,by rw [LM]; lia,by decide,fun H1 way k1 S1 y0 y1=>?_⟩
  have g1:=hp.g.go k1 S1
  obtain ⟨tl,dl,ts,us,w1,w2,w3,w4,w5⟩:=g1.w
  refine ⟨_,rfl,_,rfl,wl,o.z,o.b,_,k,rfl,w1,g1.ok.z,?_⟩
  have m1:=k1.k _ _ nlm hp.m
  refine ⟨_,rfl,_,rfl,lm,ll,_,_,rfl,rfl,m1,k1.k _ _ nll hp.l,by rw [List.length_map,List.length_map]; lia,fun l2 f2=>?_⟩
  have s2:=zh (o:=.lst (M.map V.str ++ L.map V.str)) f2
  refine ⟨_,rfl,_,_,rfl,rfl,_,rfl,?_⟩
  by_cases c0:room<=0
  · refine zD (decide_eq_true c0) ?_
    exact ⟨_,rfl,_,rfl,_,rfl,_,rfl,st,lm,wl,_,M,B + 1,o,rfl,g1.same s2,s2 _ _ m1,by lia,by rw [LM]; lia,fun H3 p b k3 S3 hb hbg=>q _ p b ((k1.trans (.of s2)).trans k3) (S3.mono (by lia)) hb (hbg.mono (fun z hz=>by cases hz) (by unfold dB; lia) (Nat.le_trans (by decide) (Q8 _)) (Nat.le_trans (by decide) (Q9 _)))⟩
  refine iteE (decide_eq_false c0) (nxtC ?_)
  have n2s:=g1.s.ne f2
  have g2:=g1.same s2
  have m2:=s2 _ _ m1
  have ll2:=s2 _ _ (k1.k _ _ nll hp.l)
  have k2:Kp st H _:=k1.trans (.of s2)
  have e2:=zf (H:=H1) (a:=l2) (o:=.lst (M.map V.str ++ L.map V.str))
  have hrm:=hp.r
  have sbs:=sB_s n
  have nbs:=nB_s n
  have sge:=Q8 n
  have nge:=Q9 n
  have dbs:dB (n + 1)=dB n + 5:=by unfold dB; lia
  have hdv:(room - 1) / 2<=(n:Int):=by lia
  dsimp only
  generalize upd H1 l2 (.lst (M.map V.str ++ L.map V.str))=H2 at *
  change (tSeq (tIfS _ _ _) (tSeq _ _):TS) { nx:=fun _ H'=>Q .non H',rt:=Q } [some (.ref st),some (.ref lm),some (.ref ll),some (.int (k:Nat)),some (.int room),some (.ref wl),some (.int way),some (.str (nm o.z o.b k)),some (.ref l2),none,none,none,none,none,none] H2
  refine (show ∀ a u:TS,(∀ (D:Ends) (H3:Hp),D.rt=Q->Kp st H H3->Sta K H3 st (B + 1)->a D [some (.ref st),some (.ref lm),some (.ref ll),some (.int (k:Nat)),some (.int room),some (.ref wl),some (.int way),some (.str (nm o.z o.b k)),some (.ref l2),none,none,none,none,none,none] H3)->(M ++ L≠[]->∀ H3:Hp,Kp st H H3->Sta K H3 st (B + 1)->H3 l2=some (.lst ((M ++ L).map V.str))->u { nx:=fun _ H'=>Q .non H',rt:=Q } [some (.ref st),some (.ref lm),some (.ref ll),some (.int (k:Nat)),some (.int room),some (.ref wl),some (.int way),some (.str (nm o.z o.b k)),some (.ref l2),none,none,none,none,none,none] H3)->(tSeq (tIfS _ a v0) u:TS) { nx:=fun _ H'=>Q .non H',rt:=Q } [some (.ref st),some (.ref lm),some (.ref ll),some (.int (k:Nat)),some (.int room),some (.ref wl),some (.int way),some (.str (nm o.z o.b k)),some (.ref l2),none,none,none,none,none,none] H2 from ?key) _ _ ?lt ?rst
  case key =>
    intro a u lt rest
    refine ⟨_,rfl,sN0,fun l3 f3=>?_⟩
    have s3:=zh (o:=.lst []) f3
    have e3:=s3 _ _ e2
    refine ⟨l2,l3,_,rfl,rfl,SqL.of e3,SqL.of zf,_,rfl,?_⟩
    by_cases ce:(M.map V.str ++ L.map V.str).isEmpty=true
    · exact zD ce (iteT (lt _ _ rfl (k2.trans (.of s3)) (g2.s.same s3)))
    · refine iteE (by simpa using ce) ⟨_,rfl,_,_,rfl,rfl,_,rfl,?_⟩
      by_cases c5:way < 5
      · exact zD (decide_eq_true c5) (lt _ _ rfl (k2.trans (.of s3)) (g2.s.same s3))
      · refine iteE (decide_eq_false c5) (nxtC (rest (fun e=>ce ?_) _ (k2.trans (.of s3)) (g2.s.same s3) (by rw [List.map_append]; exact e3)))
        rw [<- List.map_append,e]
        rfl
  case lt =>
    intro D H3 hD k3 S3
    have g3:=hp.g.go k3 S3
    have m3:=k3.k _ _ nlm hp.m
    have ll3:=k3.k _ _ nll hp.l
    refine ⟨_,rfl,lm,_,rfl,.inl (SqL.of m3),fun l4 f4=>?_⟩
    have s4:=zh (o:=.lst (M.map V.str)) f4
    have h4:Hd K st wl o H3 (upd H3 l4 (.lst (M.map V.str))) l4 M (B + 1):=⟨g3.ok,⟨_,S3⟩,g3.w,f4,.of s4,S3.same s4,zf⟩
    refine ⟨_,rfl,_,rfl,_,rfl,_,rfl,st,l4,ll,wl,M,L,B + 1,H3,o,rfl,h4,ll3,by lia,by lia,by rw [LM]; lia,fun H5 r5 d M' h5 t5 sub5 ml5 I5 L5=>?_⟩
    have k5:=k3.trans h5.kp
    obtain ⟨tl5,dl5,ts5,us5,w51,_⟩:=h5.wa
    refine ⟨_,rfl,wl,_,_,_,rfl,rfl,SqL.of w51,aI4,_,rfl,?_⟩
    have subx:∀ M':List Str,(∀ x∈M',x∈M)->∀ z,z∈M' ++ [nm o.z o.b k] ++ L->z∈nm o.z o.b k :: (M ++ L):=fun M' su z hz=>by
      rcases List.mem_append.mp hz with a | a
      · rcases List.mem_append.mp a with a | a
        · exact .tail _ (List.mem_append.mpr (.inl (su z a)))
        · rw [List.mem_singleton.mp a]; exact .head _
      · exact .tail _ (List.mem_append.mpr (.inr a))
    cases ofl:o.fl with
    | true =>
      refine iteT ?_
      refine ⟨_,rfl,_,rfl,_,rfl,_,rfl,_,rfl,sN1,fun l6 f6=>?_⟩
      have s6:=zh (o:=.lst [.str (nm o.z o.b k)]) f6
      refine ⟨l4,l6,_,_,rfl,rfl,s6 _ _ h5.m,zf,by rw [List.length_map]; show M'.length + 1<=_; lia,fun l7 f7=>?_⟩
      have s7:=s6.new (o:=.lst (M'.map V.str ++ [.str (nm o.z o.b k)])) f7
      have h7:=h5.same s7
      have e7:upd (upd H5 l6 (.lst [.str (nm o.z o.b k)])) l7 (.lst (M'.map V.str ++ [.str (nm o.z o.b k)])) l7=some (.lst ((M' ++ [nm o.z o.b k]).map V.str)):=by rw [zf,List.map_append]; rfl
      refine ⟨_,rfl,_,rfl,_,_,rfl,rfl,_,rfl,_,_,rfl,rfl,_,rfl,st,l7,ll,wl,M' ++ [nm o.z o.b k],L,k + 1,room - 1,B + 1 + 30,o,rfl,⟨⟨h7.ok,h7.wa,h7.s⟩,e7,(k3.trans h7.kp).k _ _ nll hp.l,by rw [List.length_append]; show M'.length + 1 + _<=_; lia,hp.ll,by lia⟩,by lia,by rw [LM]; lia,fun H8 p b k8 S8 hb hbg=>⟨sN4,fun t9 f9=>?_⟩⟩
      have s9:=zh (o:=.tup [.str "let",.str (nm o.z o.b k),.ref r5,.ref p]) f9
      show D.rt _ _
      rw [hD]
      refine q _ t9 (.lt (nm o.z o.b k) d b) (((k3.trans h7.kp).trans k8).trans (.of s9)) ((S8.same s9).mono (by lia)) ⟨r5,p,zf,((I5.keep (.of s7)).keep (k8.tups h7.s)).keep (.of s9),hb.keep (.of s9)⟩ (((hbg.sub (l':=nm o.z o.b k :: (M ++ L)) (subx M' sub5)).lt L5).mono (fun _ z=>z) (by lia) (by lia) (by lia))
    | false =>
      refine iteF (nxtC ?_)
      refine ⟨_,rfl,_,rfl,_,rfl,_,rfl,_,rfl,sN1,fun l6 f6=>?_⟩
      have s6:=zh (o:=.lst [.str (nm o.z o.b k)]) f6
      refine ⟨l4,l6,_,_,rfl,rfl,s6 _ _ h5.m,zf,by rw [List.length_map]; show M'.length + 1<=_; lia,fun l7 f7=>?_⟩
      have s7:=s6.new (o:=.lst (M'.map V.str ++ [.str (nm o.z o.b k)])) f7
      have h7:=h5.same s7
      have e7:upd (upd H5 l6 (.lst [.str (nm o.z o.b k)])) l7 (.lst (M'.map V.str ++ [.str (nm o.z o.b k)])) l7=some (.lst ((M' ++ [nm o.z o.b k]).map V.str)):=by rw [zf,List.map_append]; rfl
      refine ⟨_,rfl,_,rfl,_,_,rfl,rfl,_,rfl,_,_,rfl,rfl,_,rfl,st,l7,ll,wl,M' ++ [nm o.z o.b k],L,k + 1,room - 1,B + 1 + 30,o,rfl,⟨⟨h7.ok,h7.wa,h7.s⟩,e7,(k3.trans h7.kp).k _ _ nll hp.l,by rw [List.length_append]; show M'.length + 1 + _<=_; lia,hp.ll,by lia⟩,by lia,by rw [LM]; lia,fun H8 p b k8 S8 hb hbg=>⟨sN4,fun t9 f9=>?_⟩⟩
      have s9:=zh (o:=.tup [.str "let",.str (nm o.z o.b k),.ref r5,.ref p]) f9
      show D.rt _ _
      rw [hD]
      refine q _ t9 (.lt (nm o.z o.b k) d b) (((k3.trans h7.kp).trans k8).trans (.of s9)) ((S8.same s9).mono (by lia)) ⟨r5,p,zf,((I5.keep (.of s7)).keep (k8.tups h7.s)).keep (.of s9),hb.keep (.of s9)⟩ (((hbg.sub (l':=nm o.z o.b k :: (M ++ L)) (subx M' sub5)).lt L5).mono (fun _ z=>z) (by lia) (by lia) (by lia))
  intro hne H3 k3 S3 e3
  have g3:=hp.g.go k3 S3
  have m3:=k3.k _ _ nlm hp.m
  have ll3:=k3.k _ _ nll hp.l
  have lne:0 < (M ++ L).length:=List.length_pos_iff.mpr hne
  refine ⟨_,rfl,_,rfl,_,rfl,l2,_,rfl,.inl (SqL.of e3),st,(((M ++ L).map V.str).length:Nat),B + 1,rfl,S3,by rw [LM]; lia,by rw [List.length_map]; lia,fun H4 r4 k4 S4 a4 b4=>?_⟩
  rw [List.length_map] at b4
  obtain ⟨j,rfl⟩:∃ j:Nat,r4=(j:Int):=⟨r4.toNat,by lia⟩
  have hj:j < (M ++ L).length:=by lia
  have hxj:(M ++ L)[j]?=some (M ++ L)[j]:=List.getElem?_eq_getElem hj
  have hxm:(M ++ L)[j]∈M ++ L:=List.getElem_mem hj
  refine ⟨l2,_,_,_,rfl,rfl,SqL.of (k4.k _ _ n2s e3),zR (by rw [List.getElem?_map,hxj]; rfl),?_⟩
  generalize (M ++ L)[j]=x at hxm
  have k04:=k3.trans k4
  have g4:=hp.g.go k04 S4
  have m4:=k04.k _ _ nlm hp.m
  have ll4:=k04.k _ _ nll hp.l
  refine ⟨_,rfl,rfl,_,rfl,?_⟩
  by_cases c5:way=5
  · refine zD (decide_eq_true (by rw [c5])) ?_
    refine ⟨_,rfl,_,rfl,_,rfl,_,rfl,_,rfl,sN1,fun l6 f6=>?_⟩
    have s6:=zh (o:=.lst [.str (nm o.z o.b k)]) f6
    refine ⟨lm,l6,_,_,rfl,rfl,s6 _ _ m4,zf,by rw [List.length_map]; show M.length + 1<=_; lia,fun l7 f7=>?_⟩
    have s7:=s6.new (o:=.lst (M.map V.str ++ [.str (nm o.z o.b k)])) f7
    have e7:upd (upd H4 l6 (.lst [.str (nm o.z o.b k)])) l7 (.lst (M.map V.str ++ [.str (nm o.z o.b k)])) l7=some (.lst ((M ++ [nm o.z o.b k]).map V.str)):=by rw [zf,List.map_append]; rfl
    refine ⟨_,rfl,_,rfl,_,_,rfl,rfl,_,rfl,_,_,rfl,rfl,_,rfl,st,l7,ll,wl,M ++ [nm o.z o.b k],L,k + 1,room - 1,B + 1 + 1,o,rfl,⟨g4.same s7,e7,s7 _ _ ll4,by rw [List.length_append]; show M.length + 1 + _<=_; lia,hp.ll,by lia⟩,by lia,by rw [LM]; lia,fun H8 p b k8 S8 hb hbg=>⟨sN4,fun t9 f9=>?_⟩⟩
    have s9:=zh (o:=.tup [.str "hold",.str (nm o.z o.b k),.str x,.ref p]) f9
    refine q _ t9 (.hold (nm o.z o.b k) x b) (((k04.trans (.of s7)).trans k8).trans (.of s9)) ((S8.same s9).mono (by lia)) ⟨p,zf,hb.keep (.of s9)⟩ (((hbg.sub (l':=nm o.z o.b k :: (M ++ L)) fun z hz=>?_).hold).mono (fun _ z=>z) (by lia) (by lia) (by lia))
    rcases List.mem_append.mp hz with a | a
    · rcases List.mem_append.mp a with a | a
      · exact .tail _ (List.mem_append.mpr (.inl a))
      · rw [List.mem_singleton.mp a]; exact .head _
    · exact .tail _ (List.mem_append.mpr (.inr a))
  refine iteE (decide_eq_false fun z=>c5 (V.int.inj z)) (nxtC ?_)
  obtain ⟨tl4,dl4,ts4,us4,w41,w42,w43,w44,w45⟩:=g4.w
  have pl4:Pl K st wl o H4 (B + 1 + 1) lm ll M L (n + 1) room:=⟨g4,m4,ll4,hp.ml,hp.ll,hp.r⟩
  dsimp only
  change (tSeq (tIfS _ _ _) (tSeq _ _):TS) { nx:=fun _ H'=>Q .non H',rt:=Q } [some (.ref st),some (.ref lm),some (.ref ll),some (.int (k:Nat)),some (.int room),some (.ref wl),some (.int way),some (.str (nm o.z o.b k)),some (.ref l2),none,none,some (.str x),none,none,none] H4
  refine (show ∀ u:TS,u { nx:=fun _ H'=>Q .non H',rt:=Q } [some (.ref st),some (.ref lm),some (.ref ll),some (.int (k:Nat)),some (.int room),some (.ref wl),some (.int way),some (.str (nm o.z o.b k)),some (.ref l2),none,none,some (.str x),none,none,none] H4->(tSeq (tIfS _ _ v0) u:TS) { nx:=fun _ H'=>Q .non H',rt:=Q } [some (.ref st),some (.ref lm),some (.ref ll),some (.int (k:Nat)),some (.int room),some (.ref wl),some (.int way),some (.str (nm o.z o.b k)),some (.ref l2),none,none,some (.str x),none,none,none] H4 from ?key2) _ ?rst2
  case key2 =>
    intro u rest
    refine ⟨_,rfl,rfl,_,rfl,?_⟩
    by_cases c6:way=6
    · refine zD (decide_eq_true (by rw [c6])) ⟨_,rfl,wl,_,_,_,rfl,rfl,SqL.of w41,aI4,_,rfl,?_⟩
      cases ofl:o.fl with
      | false=>exact iteF (nxtC rest)
      | true =>
        refine iteT ?_
        exact ⟨_,rfl,_,rfl,_,rfl,_,rfl,_,rfl,_,rfl,_,rfl,st,lm,ll,wl,x,M,L,k,room,B + 1 + 1,o,rfl,pl4,hk,by rw [LM]; lia,fun H8 p b k8 S8 hb hbg=>q _ p b (k04.trans k8) (S8.mono (by lia)) hb (hbg.mono (fun _ z=>z) (by lia) (by lia) (by lia))⟩
    · exact iteE (decide_eq_false fun z=>c6 (V.int.inj z)) (iteF (nxtC rest))
  refine ⟨_,rfl,_,_,rfl,rfl,_,rfl,?_⟩
  have plg:∀ {H':Hp} {B':Nat},Kp st H H'->Sta K H' st B'->Pl K st wl o H' B' lm ll M L n ((room - 1) / 2):=fun k' S'=>⟨hp.g.go k' S',k'.k _ _ nlm hp.m,k'.k _ _ nll hp.l,by lia,hp.ll,hdv⟩
  by_cases c8:way < 8
  · refine zD (decide_eq_true c8) ?_
    refine ⟨_,rfl,_,rfl,_,rfl,_,rfl,_,rfl,_,_,rfl,rfl,_,_,rfl,rfl,⟨by decide,by decide⟩,_,rfl,st,lm,ll,wl,M,L,k,(room - 1) / 2,B + 1 + 1,o,rfl,plg k04 S4,by lia,by rw [LM]; lia,fun H5 p5 b5 k5 S5 hb5 hbg5=>?_⟩
    have k05:=k04.trans k5
    refine ⟨_,rfl,_,rfl,_,rfl,_,rfl,_,rfl,_,rfl,_,rfl,_,_,rfl,rfl,_,_,rfl,rfl,⟨by decide,by decide⟩,_,rfl,st,lm,ll,wl,M,L,k,(room - 1) / 2,B + 1 + 1 + bB n + 2,o,rfl,plg k05 S5,by lia,by rw [LM]; lia,fun H6 p6 b6 k6 S6 hb6 hbg6=>⟨sN4,fun t7 f7=>?_⟩⟩
    have s7:=zh (o:=.tup [.str "if",.str x,.ref p5,.ref p6]) f7
    exact q _ t7 (.iff x b5 b6) ((k05.trans k6).trans (.of s7)) ((S6.same s7).mono (by lia)) ⟨p5,p6,zf,(hb5.keep (k6.tups S5)).keep (.of s7),hb6.keep (.of s7)⟩ ((hbg5.iff hbg6).mono (fun _ z=>z) (by lia) (by lia) (by lia))
  refine iteE (decide_eq_false c8) (nxtC ?_)
  refine ⟨_,rfl,st,2,B + 1 + 1,rfl,S4,by rw [LM]; lia,by decide,fun H5 r5 k5 S5 _ _=>⟨_,_,rfl,rfl,?_⟩⟩
  have k05:=k04.trans k5
  have g5:=hp.g.go k05 S5
  obtain ⟨tl5,dl5,ts5,us5,w51,w52,w53,w54,w55⟩:=g5.w
  have n5t:=S5.neR w52
  have Tn:=hp.g.ok.Tn
  have tln:=w53.1
  refine ⟨_,rfl,wl,_,_,_,rfl,rfl,SqL.of w51,aI2,tl5,rfl,⟨_,SqL.of w52⟩,ym (xs:=ts5.map V.ref) (fun j τ ys H'=>Kp st H5 H'/\Sta K H' st (B + 1 + 1 + 1 + j * (bB n + 20))/\(∃ v,τ=[some (.ref st),some (.ref lm),some (.ref ll),some (.int (k:Nat)),some (.int room),some (.ref wl),some (.int way),some (.str (nm o.z o.b k)),some (.ref l2),none,none,some (.str x),none,some (.int (1 + r5)),none,v])/\∃ (as:List ArmR) (us:List Addr),ys=us.map V.ref/\as.length<=j/\TsAt arR H' as us/\∀ a∈as,ArG o.D (M ++ L) a (dB n + 2) (sB n + 2) (nB n + 1)) ⟨.refl,S5.mono (by lia),⟨none,rfl⟩,[],[],rfl,Nat.le_refl _,⟨rfl,fun i a t h=>by simp at h⟩,fun a ha=>by cases ha⟩ (fun j τ ys H' _ h=>SqL.of (h.1.k _ _ n5t w52)) ?_ ?_⟩
  · rintro j v τ ys H6 hv ⟨k6,S6,⟨v',rfl⟩,as,us,rfl,al,ha,hA⟩
    rw [List.getElem?_map] at hv
    obtain ⟨t,ht,rfl⟩:=Option.map_eq_some_iff.mp hv
    have hj:j < ts5.length:=(List.getElem?_eq_some_iff.mp ht).1
    obtain ⟨a,haT,hR⟩:=w53.at ht
    have hR6:H6 t=some (.tup [.str a.1,.int (a.2.1:Nat),.int (a.2.2:Nat)]):=k6.tups S5 _ _ hR
    have a9:=hp.g.ok.T a (List.mem_of_getElem? haT)
    have ul:=ha.1
    have jb:j * (bB n + 20)<=10 * (bB n + 20):=Nat.mul_le_mul_right _ (by lia)
    have js:(j + 1) * (bB n + 20)=j * (bB n + 20) + (bB n + 20):=Nat.succ_mul _ _
    refine ⟨_,rfl,ixT hR6 aI2 ⟨_,rfl,rfl,_,rfl,?_⟩⟩
    by_cases c:V.int ((a.2.2:Nat):Int)=V.int (1 + r5)
    · refine zD (decide_eq_true c) ?_
      have k06:=k05.trans k6
      refine ⟨_,rfl,_,rfl,_,rfl,_,rfl,_,rfl,_,rfl,_,rfl,_,rfl,st,lm,ll,wl,t,x,a.1,a.2.1,a.2.2,M,L,k,room,B + 1 + 1 + 1 + j * (bB n + 20),o,rfl,⟨hp.g.go k06 S6,k06.k _ _ nlm hp.m,k06.k _ _ nll hp.l,hp.ml,hp.ll,hp.r⟩,hR6,a9,hk,by rw [LM]; lia,fun H7 p a7 k7 S7 hr7 hg7=>?_⟩
      refine ⟨by rw [List.length_map]; lia,k6.trans k7,S7.mono (by lia),⟨_,rfl⟩,as ++ [a7],us ++ [p],by rw [List.map_append]; rfl,by rw [List.length_append]; show as.length + 1<=_; lia,(ha.keep fun _ _ z=>z.tk (k7.tups S6)).snoc hr7,fun z hz=>?_⟩
      rcases List.mem_append.mp hz with hz | hz
      · exact hA z hz
      · rw [List.mem_singleton.mp hz]; exact hg7
    · exact iteE (decide_eq_false c) ⟨k6,S6.mono (by lia),⟨_,rfl⟩,as,us,rfl,by lia,ha,hA⟩
  rintro τ ys H6 ⟨k6,S6,_,as,us,rfl,al,ha,hA⟩ l7 f7
  rw [List.length_map] at al S6
  have s7:=zh (o:=.lst (us.map V.ref)) f7
  have tb:ts5.length * (bB n + 20)<=11 * (bB n + 20):=Nat.mul_le_mul_right _ (by lia)
  refine ⟨_,rfl,_,rfl,l7,_,rfl,.inl ⟨SqL.of zf,fun t8 f8=>⟨sN3,fun t9 f9=>?_⟩⟩⟩
  have s9:=(s7.new (o:=.tup (us.map V.ref)) f8).new (o:=.tup [.str "case",.str x,.ref t8]) f9
  refine q _ t9 (.cs x (mkA as)) ((k05.trans k6).trans (.of s9)) ((S6.same s9).mono (by lia)) ⟨t8,us,zf,old f9 zf,Ja (ha.keep fun _ _ z=>z.tk (.of s9))⟩ ((BG.cs hA hxm (by lia)).mono (fun _ z=>z) (by lia) (by lia) (by lia))
theorem ZG:∀ {zs:List Str},(∀ z∈zs,z.length=1)->(Str.join "" zs).length=zs.length
  | [],_=>rfl
  | [x],h=>h x List.mem_cons_self
  | x :: y :: r,h=>by
    have ih:=ZG (zs:=y :: r) fun z hz=>h z (List.mem_cons_of_mem _ hz)
    rw [<- xp,jK,List.length_append,List.length_append,xp,xp,xp,ih,h x List.mem_cons_self]
    show 1 + (0 + (y :: r).length)=(y :: r).length + 1
    lia
theorem Jc {zs:List Str} (h:∀ z∈zs,z.length=1):wide "" zs=zs.length:=by
  unfold wide
  have e:∀ {l:List Str},(∀ z∈l,z.length=1)->(l.map (·.length)).sum=l.length:=by
    intro l
    induction l with
    | nil=>intro _; rfl
    | cons a l ih=>intro h; rw [List.map_cons,List.sum_cons,ih fun z hz=>h z (List.mem_cons_of_mem _ hz),h a List.mem_cons_self,List.length_cons]; lia
  rw [e h]
  rfl
def Jd (K:PySem.W.Frag):Sp:=fun vs H Q _=>∃ (st:Addr) (B:Nat),vs=[.ref st]/\Sta K H st B/\B + 10 < LIM/\∀ (H':Hp) (r:Addr) (z:Str) (b:Bool),Kp st H H'->Sta K H' st (B + 8)->z.length<=6->H' r=some (.lst [.str z,.bl b])->Q (.ref r) H'
theorem scStem:FnScope ["_law_state","_law_letters","_law_stem_here"] ["_law_state"] (zo Vf):=.ok
theorem zbq:(["_law_state","_law_letters","_law_stem_here","_law_k"]:List Str).Nodup:=by decide +kernel
theorem Qv (F:Fun K "_law_stem" "_law_stem" Vf f fd) (GD:Ca P w K mg base CX0 1 "_law_draw" lS2 (yv K)) (m_range:mg "range"=none):FnOk P w K mg base CX0 2 f fd ["_law_state"] (Jd K):=by
  refine F.by scStem (fun vs H Q E h=>?_) (fun cdv A outer s H vs Q E hr h=>?_)
  · obtain ⟨st,B,rfl,_⟩:=h
    rfl
  obtain ⟨st,B,rfl,S0,hB,q⟩:=h
  refine ⟨_,
    (zg (sE 1 scStem.nd zq)
    (zg (sE 2 scStem.nd (yA PySem.F.plainAttrs_str PySem.F.slot_str_join PySem.F.type_str_join JR zq (jA1 (zW ["_law_k"] rfl (yg rfl m_range (jA1 (cA GD hr (jA2 (jv 0) zj)))) (fun _ _ _ _ _=>(gN 3 zbq)) (fun _ _ _ _ _=>zV) (fun _ _ _ _ _=>(xX Z2 (jv 1) (cA GD hr (jA2 (jv 0) zj))))))))
    (zi (zp (zB (jA2 (jv 2) (z0 zA (cA GD hr (jA2 (jv 0) zj)) zj (yq _)))))))),?_⟩
  have sl:=zK
  unfold LIM at hB
  have LM:LIM=4611686018427387904:=rfl
  refine ⟨rfl,_,rfl,st,7,B,rfl,S0,by lia,by decide,fun H1 r k1 S1 r0 r1=>?_⟩
  refine ⟨_,rfl,by lia,by lia,yT (n:=r.toNat) (fun i τ ys H'=>Kp st H H'/\Sta K H' st (B + 1 + i)/\(∃ x,τ=[some (.ref st),some (.str LET),none,x])/\∃ zs:List Str,ys=zs.map V.str/\zs.length=i/\∀ z∈zs,z.length=1) ⟨k1,S1,⟨none,rfl⟩,[],rfl,rfl,fun z hz=>by cases hz⟩ ?_ ?_⟩
  · rintro i τ ys H2 hi ⟨k2,S2,⟨x,rfl⟩,zs,rfl,hl,h1⟩
    refine ⟨_,rfl,_,rfl,st,26,B + 1 + i,rfl,S2,by lia,by decide,fun H3 r3 k3 S3 q0 q1=>?_⟩
    refine ⟨LET,_,_,rfl,rfl,by rw [jX]; decide,jV q0 q1,by rw [List.length_map]; lia,k2.trans k3,S3,⟨_,rfl⟩,zs ++ [⟨#[97 + r3.toNat]⟩],by simp,by simp [hl],?_⟩
    intro z hz
    rcases List.mem_append.mp hz with hz | hz
    · exact h1 z hz
    · rw [List.mem_singleton.mp hz]
      rfl
  rintro τ ys H2 ⟨k2,S2,_,zs,rfl,hl,h1⟩ pj hpj
  refine ⟨"",pj,zs,rfl,rfl,SqL.of zf,by rw [Jc h1]; lia,?_⟩
  have zl:(Str.join "" zs).length<=6:=by rw [ZG h1]; lia
  replace k2:=k2.new (o:=.lst (zs.map V.str)) hpj
  replace S2:=(S2.mono (show _<=B + 7 by lia)).new hpj (.lst (zs.map V.str))
  generalize upd H2 pj (.lst (zs.map V.str))=H3 at *
  generalize Str.join "" zs=z at *
  refine ⟨_,rfl,_,rfl,st,2,B + 7,rfl,S2,by lia,by decide,fun H4 r4 k4 S4 _ _=>?_⟩
  exact ⟨rfl,sN2,fun wl hw=>q _ wl z _ ((k2.trans k4).new hw) (S4.new hw _) zl zf⟩
theorem Je:FnScope lS18 lS18 (zo Yf):=.ok
theorem X8 (F:Fun K "_law_right" "_law_right" Yf f fd):FnOk P w K mg base CX0 1 f fd lS18 ZC:=by
  refine F.by Je (fun vs H Q E h=>?_) (fun cdv A outer s H vs Q E hr h=>?_)
  · obtain ⟨a,b,rfl,_⟩:=h
    rfl
  obtain ⟨a,b,rfl,q⟩:=h
  refine ⟨_,
    (zg (zx (zS (jv 1))
      (zi (zp (z0 WZ (jv 0) yw (yq _)))) zr)
    (zi (zp (z0 WZ (jv 0) yw (yq _))))),?_⟩
  refine ⟨_,rfl,_,rfl,?_⟩
  cases b with
  | true =>
    refine iteT ⟨_,rfl,_,_,rfl,rfl,?_⟩
    cases a <;> exact q
  | false =>
    refine iteF (nxtC ⟨_,rfl,_,_,rfl,rfl,?_⟩)
    cases a <;> exact q
end
theorem j4 (k:Nat):cl (ys k)=List.replicate (k % 2) 121:=by
  unfold ys
  rcases (show k % 2=0\/k % 2=1 by lia) with e | e
  · rw [e]; decide +kernel
  · rw [e]; decide +kernel
theorem j6 {z:Str} {b:Bool} {j k:Nat} (hj:j < 1352) (hk:k < 1352) (h:nm z b j=nm z b k):j=k:=by
  have hl:∀ i:Nat,(cl (core i)).length=3:=fun i=>by rw [w6]; rfl
  have cinj:cl (core j)=cl (core k)->j % 2=k % 2->j=k:=fun e e0=>by
    rw [w6,w6] at e
    injection e with e1 e2
    injection e2 with _ e3
    injection e3 with e3 _
    lia
  have e:=congrArg cl h
  unfold nm at e
  cases b with
  | true =>
    rw [if_pos rfl,if_pos rfl,yu,yu,yu,yu] at e
    have el:=congrArg List.length e
    rw [List.length_append,List.length_append,List.length_append,List.length_append,hl,hl,j4,j4,List.length_replicate,List.length_replicate] at el
    rw [List.append_assoc,List.append_assoc] at e
    exact cinj (List.append_inj_left e (by rw [hl,hl])) (by lia)
  | false =>
    rw [if_neg (by decide),if_neg (by decide),yu,yu,yu,yu] at e
    have el:=congrArg List.length e
    rw [List.length_append,List.length_append,List.length_append,List.length_append,hl,hl,j4,j4,List.length_replicate,List.length_replicate] at el
    exact cinj (List.append_inj_right' e (by rw [hl,hl])) (by lia)
structure WI (K:PySem.W.Frag) (st:Addr) (H H':Hp) (B:Nat) (z:Str) (b:Bool) (wl tl dl:Addr) (T:List (Str × Nat × Nat)) (D:List (Str × List Bool)):Prop where
  s0:∃ B0,Sta K H st B0
  k:Kp st H H'
  s:Sta K H' st B
  w:H' wl=some (.lst [.str z,.bl b,.ref tl,.ref dl])
  t:∃ ts,H' tl=some (.lst (ts.map V.ref))/\TsAt tgR H' T ts
  d:∃ us,H' dl=some (.lst (us.map V.ref))/\TsAt dfR H' D us
  f1:H wl=none
  f2:H tl=none
  f3:H dl=none
  n1:wl≠tl
  n2:wl≠dl
  n3:tl≠dl
section
variable {K:PySem.W.Frag} {st wl tl dl:Addr} {H H' H2:Hp} {B B':Nat} {z:Str} {b:Bool} {T:List (Str × Nat × Nat)} {D:List (Str × List Bool)}
theorem WI.by (h:WI K st H H' B z b wl tl dl T D) (k:∀ c∈[wl,tl,dl],∀ o,H' c=some o->H2 c=some o) (t:Tups H' H2) (kp:Kp st H H2) (s:Sta K H2 st B'):WI K st H H2 B' z b wl tl dl T D:=by
  obtain ⟨ts,t1,t2⟩:=h.t
  obtain ⟨us,d1,d2⟩:=h.d
  exact ⟨h.s0,kp,s,k _ (by simp) _ h.w,⟨ts,k _ (by simp) _ t1,t2.keep fun _ _ z=>z.tk t⟩,⟨us,k _ (by simp) _ d1,d2.keep fun _ _ z=>z.tk t⟩,h.f1,h.f2,h.f3,h.n1,h.n2,h.n3⟩
theorem WI.ne (h:WI K st H H' B z b wl tl dl T D):∀ c∈[wl,tl,dl],c≠st:=by
  intro c hc
  obtain ⟨B0,s0⟩:=h.s0
  simp only [List.mem_cons,List.not_mem_nil,or_false] at hc
  rcases hc with rfl | rfl | rfl
  · exact s0.ne h.f1
  · exact s0.ne h.f2
  · exact s0.ne h.f3
theorem WI.go (h:WI K st H H' B z b wl tl dl T D) (k:Kp st H' H2) (s:Sta K H2 st B'):WI K st H H2 B' z b wl tl dl T D:=h.by (fun c hc o q=>k.k _ _ (h.ne c hc) q) (k.tups h.s) (h.k.trans k) s
theorem WI.same (h:WI K st H H' B z b wl tl dl T D) (s:Same H' H2):WI K st H H2 B z b wl tl dl T D:=h.go (.of s) (h.s.same s)
theorem WI.mono (h:WI K st H H' B z b wl tl dl T D) (l:B<=B'):WI K st H H' B' z b wl tl dl T D:=⟨h.s0,h.k,h.s.mono l,h.w,h.t,h.d,h.f1,h.f2,h.f3,h.n1,h.n2,h.n3⟩
theorem WI.new (h:WI K st H H' B z b wl tl dl T D) {p:Addr} (hp:H' p=none):H p=none/\p ∉ [wl,tl,dl]:=by
  refine ⟨h.k.free (h.s.ne hp) hp,fun hm=>?_⟩
  obtain ⟨ts,t1,t2⟩:=h.t
  obtain ⟨us,d1,d2⟩:=h.d
  simp only [List.mem_cons,List.not_mem_nil,or_false] at hm
  rcases hm with e | e | e
  · rw [e,h.w] at hp; cases hp
  · rw [e,t1] at hp; cases hp
  · rw [e,d1] at hp; cases hp
theorem WI.put (h:WI K st H H' B z b wl tl dl T D) {p:Addr} {xs ys:List V} (hl:H' p=some (.lst xs)) (hp:H p=none) (n:p ∉ [wl,tl,dl]):WI K st H (upd H' p (.lst ys)) B z b wl tl dl T D:=by
  obtain ⟨B0,s0⟩:=h.s0
  refine h.by (fun c hc o q=>by rw [zk (fun e=>n (by rw [<- e]; exact hc))]; exact q) (fun c xs q=>?_) (h.k.put hp) (s0.put hp h.k h.s)
  rw [zk (fun e=>by rw [e,hl] at q; cases q)]
  exact q
theorem WI.addT (h:WI K st H H' B z b wl tl dl T D) {tg:Str × Nat × Nat} {p:Addr} (hp:tgR tg H' p) {ts:List Addr} (e:H' tl=some (.lst (ts.map V.ref))) (et:TsAt tgR H' T ts):WI K st H (upd H' tl (.lst (ts.map V.ref ++ [.ref p]))) B z b wl tl dl (T ++ [tg]) D:=by
  obtain ⟨B0,s0⟩:=h.s0
  obtain ⟨us,d1,d2⟩:=h.d
  have t:Tups H' (upd H' tl (.lst (ts.map V.ref ++ [.ref p]))):=fun c xs q=>by
    rw [zk (fun x=>by rw [x,e] at q; cases q)]
    exact q
  exact ⟨h.s0,h.k.put h.f2,s0.put h.f2 h.k h.s,by rw [zk h.n1]; exact h.w,⟨ts ++ [p],by rw [zf,List.map_append]; rfl,(et.snoc hp).keep fun _ _ z=>z.tk t⟩,⟨us,by rw [zk (Ne.symm h.n3)]; exact d1,d2.keep fun _ _ z=>z.tk t⟩,h.f1,h.f2,h.f3,h.n1,h.n2,h.n3⟩
theorem WI.addD (h:WI K st H H' B z b wl tl dl T D) {df:Str × List Bool} {p:Addr} (hp:dfR df H' p) {us:List Addr} (e:H' dl=some (.lst (us.map V.ref))) (et:TsAt dfR H' D us):WI K st H (upd H' dl (.lst (us.map V.ref ++ [.ref p]))) B z b wl tl dl T (D ++ [df]):=by
  obtain ⟨B0,s0⟩:=h.s0
  obtain ⟨ts,t1,t2⟩:=h.t
  have t:Tups H' (upd H' dl (.lst (us.map V.ref ++ [.ref p]))):=fun c xs q=>by
    rw [zk (fun x=>by rw [x,e] at q; cases q)]
    exact q
  exact ⟨h.s0,h.k.put h.f3,s0.put h.f3 h.k h.s,by rw [zk h.n2]; exact h.w,⟨ts,by rw [zk h.n3]; exact t1,t2.keep fun _ _ z=>z.tk t⟩,⟨us ++ [p],by rw [zf,List.map_append]; rfl,(et.snoc hp).keep fun _ _ z=>z.tk t⟩,h.f1,h.f2,h.f3,h.n1,h.n2,h.n3⟩
end
structure RmOk (R:List Nat):Prop where
  z:R[0]?=some 0
  n:∀ x∈R,x<=9
  l:4<=R.length
  u:R.length<=11
def tgs (z:Str) (b:Bool) (R:List Nat) (k:Nat):List (Str × Nat × Nat):=(List.range k).map fun k=>(nm z b k,R.getD k 0,1 + min (k / 3) 1)
theorem zbT (z:Str) (b:Bool) (R:List Nat) (k:Nat):tgs z b R (k + 1)=tgs z b R k ++ [(nm z b k,R.getD k 0,1 + min (k / 3) 1)]:=by
  unfold tgs
  rw [List.range_succ,List.map_append]
  rfl
theorem zaa (z:Str) (b:Bool) (R:List Nat) (k:Nat):(tgs z b R k).length=k:=by
  unfold tgs
  rw [List.length_map,List.length_range]
theorem zbr (z:Str) (b:Bool) (R:List Nat) {k j:Nat} (h:j < k):(tgs z b R k)[j]?=some (nm z b j,R.getD j 0,1 + min (j / 3) 1):=by
  unfold tgs
  rw [List.getElem?_map,List.getElem?_range h]
  rfl
theorem Qw {R:List Nat} (h:∀ x∈R,x<=9) (j:Nat):R.getD j 0<=9:=by
  rw [List.getD_eq_getElem?_getD]
  cases e:R[j]? with
  | none=>exact Nat.zero_le _
  | some x=>exact h x (List.mem_of_getElem? e)
theorem zbU {z:Str} {b fl:Bool} {R:List Nat} {D:List (Str × List Bool)} (hz:z.length<=6) (hR:RmOk R) (hD:D.map (·.1)=[nm z b 2,nm z b 1,nm z b 0]) (hl:∀ d∈D,d.2.length<=3):WgOk ⟨z,b,tgs z b R R.length,D,fl⟩:=by
  have l:=hR.l
  refine ⟨hz,fun t ht=>?_,?_,?_,?_,hl,?_⟩
  · obtain ⟨k,_,rfl⟩:=List.mem_map.mp ht
    exact Qw hR.n k
  · refine ⟨_,zbr z b R (by lia),?_⟩
    show R.getD 0 0=0
    rw [List.getD_eq_getElem?_getD,hR.z]
    rfl
  · show (tgs z b R R.length).length<=11
    rw [zaa]
    exact hR.u
  · show D.length=3
    have:=congrArg List.length hD
    rw [List.length_map] at this
    exact this
  · show (D.map (·.1)).Nodup
    rw [hD]
    have e21:nm z b 2≠nm z b 1:=fun e=>by have:=j6 (by decide) (by decide) e; lia
    have e20:nm z b 2≠nm z b 0:=fun e=>by have:=j6 (by decide) (by decide) e; lia
    have e10:nm z b 1≠nm z b 0:=fun e=>by have:=j6 (by decide) (by decide) e; lia
    simp [e21,e20,e10]
theorem ZH {H H':Hp} {r:Addr} (s:Same H H') (h:H' r=none):H r=none:=by
  cases e:H r with
  | none=>rfl
  | some o=>rw [s _ _ e] at h; cases h
def ZI (K:PySem.W.Frag):Sp:=fun vs H Q _=>∃ (st:Addr) (B:Nat),vs=[.ref st]/\Sta K H st B/\B + 50 < LIM/\∀ (H':Hp) (wl tl dl:Addr) (z:Str) (b:Bool) (T:List (Str × Nat × Nat)) (D:List (Str × List Bool)) (ts us:List Addr),Kp st H H'->Sta K H' st (B + 50)->H' wl=some (.lst [.str z,.bl b,.ref tl,.ref dl])->H' tl=some (.lst (ts.map V.ref))->TsAt tgR H' T ts->H' dl=some (.lst (us.map V.ref))->TsAt dfR H' D us->(∀ fl,WgOk ⟨z,b,T,D,fl⟩)->Q (.ref wl) H'
section
variable {P:Program} {w:World} {K:PySem.W.Frag} {mg:Str->Option Value} {base:Heap} {f:Addr} {fd:FuncData}
theorem scWorldG:FnScope ["_law_state","_law_world_here","_law_rooms","_law_way","_law_k","_law_modes"] ["_law_state"] (zo Z9):=.ok
theorem X9:(["_law_state","_law_world_here","_law_rooms","_law_way","_law_k","_law_modes","_law_j"]:List Str).Nodup:=by decide +kernel
theorem Wa:(["_law_state","_law_world_here","_law_rooms","_law_way","_law_k","_law_modes","_law_own"]:List Str).Nodup:=by decide +kernel
theorem Wb (F:Fun K "_law_world" "_law_world" Z9 f fd) (GD:Ca P w K mg base CX0 1 "_law_draw" lS2 (yv K)) (GT:Ca P w K mg base CX0 2 "_law_stem" ["_law_state"] (Jd K)) (GM:Ca P w K mg base CX0 1 "_law_name" lS6 spNm) (m_len:mg "len"=none) (m_range:mg "range"=none) (m_tuple:mg "tuple"=none) (m_min:mg "min"=none):FnOk P w K mg base CX0 3 f fd ["_law_state"] (ZI K):=by
  refine F.by scWorldG (fun vs H Q E h=>?_) (fun cdv A' outer s H vs Q E hr h=>?_)
  · obtain ⟨st,B,rfl,_⟩:=h
    rfl
  obtain ⟨st,B,rfl,hS,hB,q⟩:=h
  have hr1:Room 1 _:=hr.mono (by decide)
  refine ⟨_,
    (zg (sE 1 scWorldG.nd (zu zZ (cA GT hr (jA1 (jv 0))) (zB (jA2 (zB zE) (zB zE)))))
    (zg (sE 2 scWorldG.nd (zB (jA4 zj (zu zM zj (cA GD hr1 (jA2 (jv 0) zj))) (cA GD hr1 (jA2 (jv 0) zj)) (zu zM zj (cA GD hr1 (jA2 (jv 0) zj))))))
    (zg (sE 3 scWorldG.nd (cA GD hr1 (jA2 (jv 0) zj)))
    (zg (zx (tN vm (jv 3) zj)
      (zi (vi (zu zM zj (cA GD hr1 (jA2 (jv 0) zj))) (YK (jv 2) zj))) zr)
    (zg (zx (tN zA (jv 3) zj)
      (zi (sE 2 scWorldG.nd (zu zZ (zB (jA3 zj zj zj)) (wm [4] [] rfl (yg rfl m_range (jA1 (zu zM zj (cA GD hr1 (jA2 (jv 0) zj))))) (fun _ _ _ _ _=>(gN 4 scWorldG.nd)) (fun _ _ _ _ _=>zV) (fun _ _ _ _ _=>(cA GD hr1 (jA2 (jv 0) zj))))))) zr)
    (zg (zU PassesOwn.never rfl (yg rfl m_range (jA1 (jL m_len (jv 2)))) (gN 4 scWorldG.nd)
      (zi (yf (yA PySem.F.plainAttrs_list PySem.F.slot_list_append PySem.F.type_list_append zQ (xL 1) (jA1 (zv (jA3 (cA GM hr1 (jA2 (jv 1) (jv 4))) (xX zX (jv 2) (jv 4)) (zu zM zj (yQ (YM rfl) rfl m_min PyProof.Rows.boot_min (jA2 (zu yD (jv 4) zj) zj))))))))))
    (zg (zU PassesOwn.never rfl (yg rfl m_range (jA1 zj)) (gN 4 scWorldG.nd)
      (zg (yC ["_law_j"] (i:=5) scWorldG.nd rfl (Or.inl rfl) rfl (yg rfl m_range (jA1 (cA GD hr1 (jA2 (jv 0) zj)))) (fun _ _ _ _ _=>(gN 6 X9)) (fun _ _ _ _ _=>zV) (fun _ _ _ _ _=>(z0 jh (cA GD hr1 (jA2 (jv 0) zj)) zj (yq _))))
      (zg (zx (tN zA (jv 4) zj)
        (zi (yC ["_law_own"] (i:=5) scWorldG.nd rfl (Or.inl rfl) rfl (zP (jv 5)) (fun _ _ _ _ _=>(gN 6 Wa)) (fun _ _ _ _ _=>zV) (fun _ _ _ _ _=>yw))) zr)
      (zi (yf (yA PySem.F.plainAttrs_list PySem.F.slot_list_append PySem.F.type_list_append zQ (xL 1) (jA1 (zv (jA2 (cA GM hr1 (jA2 (jv 1) (zu yz zj (jv 4)))) (zF zC rfl m_tuple PyProof.Rows.boot_tuple (jA1 (jv 5))))))))))))
    (zi (zp (jv 1)))))))))),?_⟩
  have LM:LIM=4611686018427387904:=rfl
  have sl':=zK
  refine (show ∀ (v:TS) (D:Ends),(∀ (H1:Hp) (z:Str) (b:Bool) (wl tl dl rl:Addr) (way:Int) (R:List Nat),z.length<=6->WI K st H H1 (B + 12) z b wl tl dl [] []->H1 rl=some (.lst (R.map fun x=>V.int ((x:Nat):Int)))->H rl=none->rl ∉ [wl,tl,dl]->RmOk R->v D [some (.ref st),some (.ref wl),some (.ref rl),some (.int way),none,none] H1)->(tSeq _ (tSeq _ (tSeq _ v)):TS) D [some (.ref st),none,none,none,none,none] H from ?a1) _ _ ?a2
  case a1 =>
    intro v D hV
    refine ⟨_,rfl,st,B,rfl,hS,by lia,fun H1 r1 z b k1 S1 hz e1=>?_⟩
    refine ⟨sN0,fun tl g1=>⟨sN0,fun dl g2=>⟨sN2,fun l3 g3=>⟨r1,l3,_,_,rfl,rfl,old g3 (old g2 (old g1 e1)),zf,sN4,fun wl g4=>?_⟩⟩⟩⟩
    have s4:=(((zh g1 (.lst [])).new (o:=.lst []) g2).new (o:=.lst [.ref tl,.ref dl]) g3).new (o:=.lst ([.str z,.bl b] ++ [.ref tl,.ref dl])) g4
    have n3:tl≠dl:=fun e=>by rw [<- e,zf] at g2; cases g2
    have n1:wl≠tl:=fun e=>by rw [e,old g3 (old g2 (zf (H:=H1) (a:=tl) (o:=.lst [])))] at g4; cases g4
    have n2:wl≠dl:=fun e=>by rw [e,old g3 (zf (H:=upd H1 tl (.lst [])) (a:=dl) (o:=.lst []))] at g4; cases g4
    have f2:H tl=none:=k1.free (S1.ne g1) g1
    have g2':H1 dl=none:=ZH (zh g1 (.lst [])) g2
    have f3:H dl=none:=k1.free (S1.ne g2') g2'
    have g4':H1 wl=none:=ZH (((zh g1 (.lst [])).new (o:=.lst []) g2).new (o:=.lst [.ref tl,.ref dl]) g3) g4
    have f1:H wl=none:=k1.free (S1.ne g4') g4'
    have W4:WI K st H (upd (upd (upd (upd H1 tl (.lst [])) dl (.lst [])) l3 (.lst [.ref tl,.ref dl])) wl (.lst ([.str z,.bl b] ++ [.ref tl,.ref dl]))) (B + 8) z b wl tl dl [] []:=⟨⟨B,hS⟩,k1.trans (.of s4),S1.same s4,zf,⟨[],old g4 (old g3 (old g2 zf)),rfl,fun i a t h=>by simp at h⟩,⟨[],old g4 (old g3 zf),rfl,fun i a t h=>by simp at h⟩,f1,f2,f3,n1,n2,n3⟩
    dsimp only
    generalize upd (upd (upd (upd H1 tl (.lst [])) dl (.lst [])) l3 (.lst [.ref tl,.ref dl])) wl (.lst ([.str z,.bl b] ++ [.ref tl,.ref dl]))=H4 at *
    refine ⟨_,rfl,st,3,_,rfl,W4.s,by lia,by decide,fun H6 r6 k6 S6 a0 a1=>⟨_,_,rfl,rfl,?_⟩⟩
    refine ⟨_,rfl,st,4,_,rfl,S6,by lia,by decide,fun H7 r7 k7 S7 b0 b1=>?_⟩
    refine ⟨_,rfl,st,3,_,rfl,S7,by lia,by decide,fun H8 r8 k8 S8 c0 c1=>⟨_,_,rfl,rfl,sN4,fun rl g9=>?_⟩⟩
    have W8:=((W4.go k6 S6).go k7 S7).go k8 S8
    obtain ⟨h1,h2⟩:=W8.new g9
    obtain ⟨x6,rfl⟩:∃ x:Nat,r6=(x:Nat):=⟨r6.toNat,by lia⟩
    obtain ⟨x7,rfl⟩:∃ x:Nat,r7=(x:Nat):=⟨r7.toNat,by lia⟩
    obtain ⟨x8,rfl⟩:∃ x:Nat,r8=(x:Nat):=⟨r8.toNat,by lia⟩
    have W9:=W8.same (zh g9 (.lst [V.int 0,.int (1 + ((x6:Nat):Int)),.int ((x7:Nat):Int),.int (1 + ((x8:Nat):Int))]))
    have e9:=zf (H:=H8) (a:=rl) (o:=.lst [V.int 0,.int (1 + ((x6:Nat):Int)),.int ((x7:Nat):Int),.int (1 + ((x8:Nat):Int))])
    dsimp only
    generalize upd H8 rl (.lst [V.int 0,.int (1 + ((x6:Nat):Int)),.int ((x7:Nat):Int),.int (1 + ((x8:Nat):Int))])=H9 at *
    refine ⟨_,rfl,st,8,_,rfl,W9.s,by lia,by decide,fun H5 way k5 S5 _ _=>?_⟩
    have rs:rl≠st:=by
      obtain ⟨B0,s0⟩:=W8.s0
      exact s0.ne h1
    refine hV _ z b wl tl dl rl way [0,1 + x6,x7,1 + x8] hz ((W9.go k5 S5).mono (by lia)) ?_ h1 h2 ⟨rfl,fun x hx=>?_,by show 4<=4; decide,by show 4<=11; decide⟩
    · rw [k5.k _ _ rs e9]
      show some (HO.lst [V.int 0,.int (1 + ((x6:Nat):Int)),.int ((x7:Nat):Int),.int (1 + ((x8:Nat):Int))])=some (.lst [.int ((0:Nat):Int),.int ((1 + x6:Nat):Int),.int ((x7:Nat):Int),.int ((1 + x8:Nat):Int)])
      rw [show 1 + ((x6:Nat):Int)=((1 + x6:Nat):Int) by lia,show 1 + ((x8:Nat):Int)=((1 + x8:Nat):Int) by lia]
      rfl
    · simp only [List.mem_cons,List.not_mem_nil,or_false] at hx
      lia
  case a2 =>
  intro H1 z b wl tl dl rl way R hz W1 e1 f1 n1 hR
  refine (show ∀ (v:TS) (D:Ends),(∀ (H1:Hp) (R:List Nat),WI K st H H1 (B + 13) z b wl tl dl [] []->H1 rl=some (.lst (R.map fun x=>V.int ((x:Nat):Int)))->RmOk R->v D [some (.ref st),some (.ref wl),some (.ref rl),some (.int way),none,none] H1)->(tSeq _ v:TS) D [some (.ref st),some (.ref wl),some (.ref rl),some (.int way),none,none] H1 from ?c1) _ _ ?c2
  case c1 =>
    intro v D hV
    have rls:rl≠st:=by
      obtain ⟨B0,s0⟩:=W1.s0
      exact s0.ne f1
    refine ⟨_,rfl,_,_,rfl,rfl,_,rfl,ite2 (fun _=>?_) (fun _=>nxtC (hV _ R (W1.mono (by lia)) e1 hR))⟩
    refine ⟨_,rfl,st,6,_,rfl,W1.s,by lia,by decide,fun H2 r2 k2 S2 a0 a1=>⟨_,_,rfl,rfl,?_⟩⟩
    have W2:=W1.go k2 S2
    have e2:=k2.k _ _ rls e1
    obtain ⟨x2,rfl⟩:∃ x:Nat,r2=(x:Nat):=⟨r2.toNat,by lia⟩
    have l4:=hR.l
    refine ⟨_,rfl,rl,_,3,3,rfl,rfl,e2,by rw [List.length_map]; unfold ixN; rw [if_pos (by decide),if_pos (by lia)]; rfl,?_⟩
    have es:((R.map fun x=>V.int ((x:Nat):Int)).set 3 (.int (4 + ((x2:Nat):Int))))=(R.set 3 (4 + x2)).map fun x=>V.int ((x:Nat):Int):=by
      rw [show 4 + ((x2:Nat):Int)=((4 + x2:Nat):Int) by lia]
      exact List.map_set.symm
    rw [es]
    refine hV _ (R.set 3 (4 + x2)) (W2.put e2 f1 n1) zf ⟨?_,fun x hx=>?_,by rw [List.length_set]; exact hR.l,by rw [List.length_set]; exact hR.u⟩
    · rw [List.getElem?_set_ne (by decide)]; exact hR.z
    · rcases List.mem_or_eq_of_mem_set hx with h | h
      · exact hR.n x h
      · lia
  case c2 =>
  clear W1 e1 hR
  clear H1 R
  intro H1 R W1 e1 hR
  refine (show ∀ (v:TS) (D:Ends),(∀ (H1:Hp) (rl:Addr) (R:List Nat),WI K st H H1 (B + 30) z b wl tl dl [] []->H1 rl=some (.lst (R.map fun x=>V.int ((x:Nat):Int)))->H rl=none->rl ∉ [wl,tl,dl]->RmOk R->v D [some (.ref st),some (.ref wl),some (.ref rl),some (.int way),none,none] H1)->(tSeq _ v:TS) D [some (.ref st),some (.ref wl),some (.ref rl),some (.int way),none,none] H1 from ?b1) _ _ ?b2
  case b1 =>
    intro v D hV
    refine ⟨_,rfl,rfl,_,rfl,ite2 (fun _=>?_) (fun _=>nxtC (hV _ rl R (W1.mono (by lia)) e1 f1 n1 hR))⟩
    refine ⟨sN3,fun l3 g3=>?_⟩
    have W3:=W1.same (zh g3 (.lst [.int 0,.int 1,.int 2]))
    have e3:=zf (H:=H1) (a:=l3) (o:=.lst [.int 0,.int 1,.int 2])
    obtain ⟨h3,h3'⟩:=W1.new g3
    generalize upd H1 l3 (.lst [.int 0,.int 1,.int 2])=H3 at *
    refine ⟨_,rfl,st,5,_,rfl,W3.s,by lia,by decide,fun H4 r4 k4 S4 a0 a1=>⟨_,_,rfl,rfl,_,rfl,by lia,by lia,?_⟩⟩
    have W4:=W3.go k4 S4
    have l3s:l3≠st:=fun e=>by
      obtain ⟨B0,s0⟩:=W1.s0
      exact s0.ne h3 e
    have e4:=k4.k _ _ l3s e3
    refine yT (n:=(1 * 4 + r4).toNat) (fun i τ ys H'=>WI K st H H' (B + 14 + i) z b wl tl dl [] []/\H' l3=some (.lst [.int 0,.int 1,.int 2])/\(∃ y,τ=[some (.ref st),some (.ref wl),some (.ref rl),some (.int way),y,none])/\∃ ns:List Nat,ys=(ns.map fun x=>V.int ((x:Nat):Int))/\ns.length=i/\∀ x∈ns,x<=9) ⟨W4,e4,⟨none,rfl⟩,[],rfl,rfl,fun x h=>by cases h⟩ ?_ ?_
    · rintro i τ ys H5 hi ⟨W5,e5,⟨y,rfl⟩,ns,rfl,nl,hn⟩
      refine ⟨_,rfl,st,3,_,rfl,W5.s,by lia,by decide,fun H6 r6 k6 S6 b0 b1=>?_⟩
      obtain ⟨x6,rfl⟩:∃ x:Nat,r6=(x:Nat):=⟨r6.toNat,by lia⟩
      refine ⟨by rw [List.length_map]; lia,W5.go k6 S6,k6.k _ _ l3s e5,⟨_,rfl⟩,ns ++ [x6],by rw [List.map_append]; rfl,by rw [List.length_append,nl]; rfl,fun x hx=>?_⟩
      rcases List.mem_append.mp hx with h | h
      · exact hn x h
      · rw [List.mem_singleton.mp h]; lia
    · rintro τ ys H5 ⟨W5,e5,_,ns,rfl,nl,hn⟩ l6 g6
      refine ⟨l3,l6,_,_,rfl,rfl,old g6 e5,zf,by rw [List.length_map]; show 3 + ns.length<=_; lia,fun rl7 g7=>?_⟩
      have W6:=W5.same (zh g6 (.lst (ns.map fun x=>V.int ((x:Nat):Int))))
      obtain ⟨h7,h7'⟩:=W6.new g7
      have W7:=W6.same (zh g7 (.lst ([.int 0,.int 1,.int 2] ++ ns.map fun x=>V.int ((x:Nat):Int))))
      exact hV _ rl7 (0 :: 1 :: 2 :: ns) (W7.mono (by lia)) zf h7 h7' ⟨rfl,fun x hx=>by
        rcases List.mem_cons.mp hx with h | hx
        · lia
        · rcases List.mem_cons.mp hx with h | hx
          · lia
          · rcases List.mem_cons.mp hx with h | hx
            · lia
            · exact hn x hx,by show 4<=ns.length + 1 + 1 + 1; lia,by show ns.length + 1 + 1 + 1<=11; lia⟩
  case b2 =>
  clear W1 e1 f1 n1 hR
  clear H1 rl R
  intro H1 rl R W1 e1 f1 n1 hR
  refine (show ∀ (v:TS) (D:Ends),(∀ (H1:Hp) (y:Option V),WI K st H H1 (B + 30) z b wl tl dl (tgs z b R R.length) []->v D [some (.ref st),some (.ref wl),some (.ref rl),some (.int way),y,none] H1)->(tSeq _ v:TS) D [some (.ref st),some (.ref wl),some (.ref rl),some (.int way),none,none] H1 from ?f1) _ _ ?f2
  case f1 =>
    intro v D hV
    have ru:=hR.u
    refine ⟨_,rfl,rl,_,rfl,.inl (SqL.of e1),_,rfl,by rw [List.length_map]; lia,by rw [List.length_map]; lia,wA (n:=(((R.map fun x=>V.int ((x:Nat):Int)).length:Nat):Int).toNat) (fun i σ H'=>∃ y,σ=[some (.ref st),some (.ref wl),some (.ref rl),some (.int way),y,none]/\WI K st H H' (B + 30) z b wl tl dl (tgs z b R i) []/\H' rl=some (.lst (R.map fun x=>V.int ((x:Nat):Int)))) ⟨none,rfl,W1,e1⟩ ?_ ?_⟩
    · rintro i σ H2 hi ⟨y,rfl,W2,e2⟩
      rw [List.length_map] at hi
      have hi':i < R.length:=by lia
      obtain ⟨ts,t1,t2⟩:=W2.t
      have tl24:ts.length<=24:=by rw [<- t2.1,zaa]; lia
      have ez:(0:Int) + ((i:Nat):Int)=((i:Nat):Int):=by lia
      refine ⟨_,rfl,ixL W2.w aI2 ⟨.inl ⟨rfl,_,SqL.of t1⟩,_,rfl,_,rfl,wl,z,b,_,i,by rw [ez]; rfl,W2.w,hz,?_⟩⟩
      refine ⟨_,rfl,_,rfl,rl,_,_,.int ((R.getD i 0:Nat):Int),rfl,rfl,SqL.of e2,by rw [ez]; exact zR (by rw [List.getElem?_map,List.getD_eq_getElem?_getD,List.getElem?_eq_getElem hi']; rfl),?_⟩
      refine ⟨_,rfl,_,_,rfl,rfl,⟨by decide,by decide⟩,_,_,rfl,_,_,rfl,rfl,sN3,fun p hp=>⟨tl,_,_,rfl,rfl,old hp t1,by rw [List.length_map]; lia,?_⟩⟩
      have em:(1:Int) + (if (1:Int) < (0 + ((i:Nat):Int)) / 3 then 1 else (0 + ((i:Nat):Int)) / 3)=((1 + min (i / 3) 1:Nat):Int):=by
        split <;> lia
      dsimp only
      rw [em]
      have s3:=zh hp (.tup [.str (nm z b i),.int ((R.getD i 0:Nat):Int),.int ((1 + min (i / 3) 1:Nat):Int)])
      have W3:=W2.same s3
      have np:rl≠tl:=fun e=>n1 (by rw [e]; simp)
      refine ⟨_,rfl,?_,?_⟩
      · rw [zbT]
        exact W3.addT (tg:=(nm z b i,R.getD i 0,1 + min (i / 3) 1)) zf (s3 _ _ t1) (t2.keep fun _ _ z=>z.tk (.of s3))
      · rw [zk np]
        exact s3 _ _ e2
    · rintro σ H2 ⟨y,rfl,W2,e2⟩
      rw [List.length_map,Int.toNat_natCast] at W2
      exact hV _ y W2
  case f2 =>
  clear W1 e1
  clear H1
  intro H1 y W1
  refine ⟨_,rfl,by decide,by decide,wA (n:=(3:Int).toNat) (fun i σ H'=>∃ (y1 y3:Option V) (D:List (Str × List Bool)),σ=[some (.ref st),some (.ref wl),some (.ref rl),some (.int way),y1,y3]/\WI K st H H' (B + 30 + 4 * i) z b wl tl dl (tgs z b R R.length) D/\D.map (·.1)=([nm z b 2,nm z b 1,nm z b 0]).take i/\∀ d∈D,d.2.length<=3) ⟨y,none,[],rfl,W1,rfl,fun d h=>by cases h⟩ ?_ ?_⟩
  · rintro i σ H3 hi ⟨y1,y3,D,rfl,W3,eD,hD⟩
    have hi:i < 3:=hi
    refine ⟨_,rfl,st,4,_,rfl,W3.s,by lia,by decide,fun H4 r4 k4 S4 a0 a1=>⟨_,rfl,by lia,by lia,?_⟩⟩
    have W4:=W3.go k4 S4
    refine yT (n:=r4.toNat) (fun j τ ys H'=>WI K st H H' (B + 30 + 4 * i + 1 + j) z b wl tl dl (tgs z b R R.length) D/\(∃ y,τ=[some (.ref st),some (.ref wl),some (.ref rl),some (.int way),some (.int (0 + (i:Nat))),y3,y])/\∃ ms:List Bool,ys=ms.map V.bl/\ms.length=j) ⟨W4,⟨none,rfl⟩,[],rfl,rfl⟩ ?_ ?_
    · rintro j τ ys H5 hj ⟨W5,⟨y,rfl⟩,ms,rfl,ml⟩
      refine ⟨_,rfl,st,3,_,rfl,W5.s,by lia,by decide,fun H6 r6 k6 S6 b0 b1=>⟨_,_,rfl,rfl,by rw [List.length_map]; lia,W5.go k6 S6,⟨_,rfl⟩,ms ++ [decide (0 < r6)],by rw [List.map_append]; rfl,by rw [List.length_append,ml]; rfl⟩⟩
    · rintro τ ys H5 ⟨W5,_,ms,rfl,ml⟩ l6 g6
      have W6:=(W5.same (zh g6 (.lst (ms.map V.bl)))).mono (show _<=B + 30 + 4 * (i + 1) by lia)
      have e6:=zf (H:=H5) (a:=l6) (o:=.lst (ms.map V.bl))
      have m9:ms.length<=3:=by lia
      dsimp only
      generalize upd H5 l6 (.lst (ms.map V.bl))=H6 at *
      refine (show ∀ (v:TS) (D':Ends),(∀ (H7:Hp) (l7:Addr) (ms:List Bool),ms.length<=3->WI K st H H7 (B + 30 + 4 * (i + 1)) z b wl tl dl (tgs z b R R.length) D->H7 l7=some (.lst (ms.map V.bl))->v D' [some (.ref st),some (.ref wl),some (.ref rl),some (.int way),some (.int (0 + (i:Nat))),some (.ref l7)] H7)->(tSeq _ v:TS) D' [some (.ref st),some (.ref wl),some (.ref rl),some (.int way),some (.int (0 + (i:Nat))),some (.ref l6)] H6 from ?g1) _ _ ?g2
      case g1 =>
        intro v D' hV
        refine ⟨_,rfl,rfl,_,rfl,ite2 (fun _=>?_) (fun _=>nxtC (hV _ l6 ms m9 W6 e6))⟩
        refine ⟨_,rfl,l6,rfl,⟨_,SqL.of e6⟩,ym (xs:=ms.map V.bl) (fun j τ ys H'=>H6=H'/\(∃ y,τ=[some (.ref st),some (.ref wl),some (.ref rl),some (.int way),some (.int (0 + (i:Nat))),some (.ref l6),y])/\∃ ns:List Bool,ys=ns.map V.bl/\ns.length=j) ⟨rfl,⟨none,rfl⟩,[],rfl,rfl⟩ (fun i τ ys H' _ h=>by rw [<- h.1]; exact SqL.of e6) ?_ ?_⟩
        · rintro j v τ ys H' hv ⟨rfl,⟨y,rfl⟩,ns,rfl,nl⟩
          have hj:=(List.getElem?_eq_some_iff.mp hv).1
          rw [List.length_map] at hj
          exact ⟨by rw [List.length_map]; lia,rfl,⟨_,rfl⟩,ns ++ [true],by rw [List.map_append]; rfl,by rw [List.length_append,nl]; rfl⟩
        · rintro τ ys H' ⟨rfl,_,ns,rfl,nl⟩ l7 g7
          rw [List.length_map] at nl
          exact hV _ l7 ns (by lia) (W6.same (zh g7 _)) zf
      case g2 =>
      clear W6 e6 m9 ml W5
      intro H7 l7 ms m9 W7 e7
      obtain ⟨us,u1,u2⟩:=W7.d
      have lD:D.length=i:=by
        have:=congrArg List.length eD
        rw [List.length_map,List.length_take] at this
        have:min i [nm z b 2,nm z b 1,nm z b 0].length=i:=by show min i 3=i; lia
        lia
      have ul:us.length<=3:=by rw [<- u2.1]; lia
      refine ⟨_,rfl,ixL W7.w aI3 ⟨.inl ⟨rfl,_,SqL.of u1⟩,_,rfl,_,rfl,_,_,rfl,rfl,wl,z,b,_,2 - i,?_,W7.w,hz,?_⟩⟩
      · show [V.ref wl,V.int (2 - (0 + ((i:Nat):Int)))]=_
        rw [show (2:Int) - (0 + ((i:Nat):Int))=((2 - i:Nat):Int) by lia]
      refine ⟨_,rfl,l7,_,rfl,.inl ⟨SqL.of e7,fun q1 h1=>⟨sN2,fun q2 h2=>⟨dl,_,_,rfl,rfl,old h2 (old h1 u1),by rw [List.length_map]; lia,?_⟩⟩⟩⟩
      have s8:=(zh h1 (.tup (ms.map V.bl))).new (o:=.tup [.str (nm z b (2 - i)),.ref q1]) h2
      have W8:=W7.same s8
      refine ⟨_,_,D ++ [(nm z b (2 - i),ms)],rfl,W8.addD (df:=(nm z b (2 - i),ms)) ⟨q1,zf,old h2 zf⟩ (s8 _ _ u1) (u2.keep fun _ _ z=>z.tk (.of s8)),?_,fun d hd=>?_⟩
      · rw [List.map_append,eD]
        have a:i=0\/i=1\/i=2:=by lia
        rcases a with rfl | rfl | rfl <;> rfl
      · rcases List.mem_append.mp hd with h | h
        · exact hD d h
        · rw [List.mem_singleton.mp h]; exact m9
  · rintro σ H2 ⟨y1,y3,D,rfl,W2,eD,hD⟩
    obtain ⟨ts,t1,t2⟩:=W2.t
    obtain ⟨us,u1,u2⟩:=W2.d
    exact ⟨_,rfl,q _ wl tl dl z b _ D ts us W2.k (W2.s.mono (by show B + 30 + 4 * 3<=_; lia)) W2.w t1 t2 u1 u2 (fun fl=>zbU hz hR eD hD)⟩
structure DfH (ow:Ow) (d:Df):Prop where
  t:DfT ow d
  dp:d.b.dp<=80
  few:d.ps.length<=3
def ZJ (K:PySem.W.Frag):Sp:=fun vs H Q _=>∃ (st wl:Addr) (o:Wg) (B rm:Nat),vs=[.ref st,.ref wl,.int (rm:Nat)]/\Gn K st wl o H B/\rm<=3/\B + 17000000 < LIM/\∀ H' p ds,Kp st H H'->Sta K H' st (B + 17000000)->IsCode H' ds p->owOf ds=o.D->(∀ d∈ds,DfH o.D d)->Q (.ref p) H'
theorem IsDfs.snoc {H:Hp} {ds:List Df} {os:List Addr} {d:Df} {o:Addr} (h:IsDfs H ds os) (g:IsDf H d o):IsDfs H (ds ++ [d]) (os ++ [o]):=by
  refine ⟨by rw [List.length_append,List.length_append,h.1]; rfl,fun i x y h1 h2=>?_⟩
  by_cases c:i < ds.length
  · rw [List.getElem?_append_left c] at h1
    rw [List.getElem?_append_left (by rw [<- h.1]; exact c)] at h2
    exact h.2 i x y h1 h2
  · rw [List.getElem?_append_right (by lia)] at h1
    rw [List.getElem?_append_right (by rw [<- h.1]; lia),<- h.1] at h2
    match hk:i - ds.length,h1,h2 with
    | 0,h1,h2=>cases h1; cases h2; exact g
    | n + 1,h1,h2=>simp at h1
theorem scLCodeG:FnScope ["_law_state","_law_world_here","_law_room","_law_defs","_law_name_here","_law_modes","_law_params","_law_mine","_law_lent","_law_some_here","_law_packs"] lS12 (zo Yd):=.ok
theorem jp:(["_law_state","_law_world_here","_law_room","_law_defs","_law_name_here","_law_modes","_law_params","_law_mine","_law_lent","_law_some_here","_law_packs","_law_k"]:List Str).Nodup:=by decide +kernel
theorem xH:(["_law_state","_law_world_here","_law_room","_law_defs","_law_name_here","_law_modes","_law_params","_law_mine","_law_lent","_law_some_here","_law_packs","_law_param","_law_own"]:List Str).Nodup:=by decide +kernel
theorem wK:(["_law_state","_law_world_here","_law_room","_law_defs","_law_name_here","_law_modes","_law_params","_law_mine","_law_lent","_law_some_here","_law_packs","_law_tag","_law_size","_law_kind"]:List Str).Nodup:=by decide +kernel
theorem Wc {e:Nat} (he:1<=e) (F:Fun K "_law_code" "_law_code" Yd f fd) (GM:Ca P w K mg base CX0 1 "_law_name" lS6 spNm) (GB:Ca P w K mg base CX0 e "_law_begun" lS0 (wy K 3)) (m_len:mg "len"=none) (m_range:mg "range"=none) (m_tuple:mg "tuple"=none) (m_zip:mg "zip"=none):FnOk P w K mg base CX0 (e + 1) f fd lS12 (ZJ K):=by
  refine F.by scLCodeG (fun vs H Q E h=>?_) (fun cdv A' outer s H vs Q E hr h=>?_)
  · obtain ⟨st,wl,o,B,rm,rfl,_⟩:=h
    rfl
  obtain ⟨st,wl,o,B,rm,rfl,hg,hrm,hB,q⟩:=h
  have hr1:Room 1 _:=hr.mono he
  refine ⟨_,
    (zg (sE 3 scLCodeG.nd (zB zE))
    (zg (zU PassesOwn.never rfl (zP (xL 1)) (xm rfl (zw (gN 4 scLCodeG.nd) (zw (gN 5 scLCodeG.nd) z6)))
      (zg (yC ["_law_k"] (i:=6) scLCodeG.nd rfl (Or.inl rfl) rfl (yg rfl m_range (jA1 (jL m_len (jv 5)))) (fun _ _ _ _ _=>(gN 11 jp)) (fun _ _ _ _ _=>zV) (fun _ _ _ _ _=>(cA GM hr1 (jA2 (jv 1) (jv 11)))))
      (zg (yC ["_law_param","_law_own"] (i:=7) scLCodeG.nd rfl (Or.inl rfl) rfl (xS rfl m_zip (jA2 (jv 6) (jv 5))) (fun _ _ _ _ _=>(xa K (n:=2) rfl (zw (gN 11 xH) (zw (gN 12 xH) z6)))) (fun _ _ _ _ _=>(ya (zS (jv 12)))) (fun _ _ _ _ _=>(jv 11)))
      (zg (yC ["_law_param","_law_own"] (i:=8) scLCodeG.nd rfl (Or.inl rfl) rfl (xS rfl m_zip (jA2 (jv 6) (jv 5))) (fun _ _ _ _ _=>(xa K (n:=2) rfl (zw (gN 11 xH) (zw (gN 12 xH) z6)))) (fun _ _ _ _ _=>(ya (xQ (zS (jv 12))))) (fun _ _ _ _ _=>(jv 11)))
      (zi (yf (yA PySem.F.plainAttrs_list PySem.F.slot_list_append PySem.F.type_list_append zQ (jv 3) (jA1 (zv (jA4 (jv 4) (zF zC rfl m_tuple PyProof.Rows.boot_tuple (jA1 (jv 6))) (jv 5) (cA GB hr (jA6 (jv 0) (jv 7) (jv 8) (jL m_len (jv 6)) (jv 2) (jv 1)))))))))))))
    (zg (yC ["_law_tag","_law_size","_law_kind"] (i:=9) scLCodeG.nd rfl (Or.inl rfl) rfl (zP (xL 1)) (fun _ _ _ _ _=>(xa K (n:=3) rfl (zw (gN 11 wK) (zw (gN 12 wK) (zw (gN 13 wK) z6))))) (fun _ _ _ _ _=>zV) (fun _ _ _ _ _=>(zv (jA2 (jv 11) (jv 12)))))
    (zg (sE 10 scLCodeG.nd (zF zC rfl m_tuple PyProof.Rows.boot_tuple (jA1 (zW ["_law_k"] rfl (yg rfl m_range (jA1 zj)) (fun _ _ _ _ _=>(gN 11 jp)) (fun _ _ _ _ _=>zV) (fun _ _ _ _ _=>(zv (jA2 (cA GM hr1 (jA2 (jv 1) (zu zM zj (jv 11)))) (jv 11))))))))
    (zi (zp (zv (jA2 (zv (jA3 (zF zC rfl m_tuple PyProof.Rows.boot_tuple (jA1 (wj jC (jv 9) wW (wX zj)))) (zF zC rfl m_tuple PyProof.Rows.boot_tuple (jA1 (wj jC (jv 9) (wX zj) wW))) (jv 10))) (zF zC rfl m_tuple PyProof.Rows.boot_tuple (jA1 (jv 3))))))))))),?_⟩
  have LM:LIM=4611686018427387904:=rfl
  have b3:bB 3=5400000:=rfl
  have sl':=zK
  have hok:=hg.ok
  have hS:=hg.s
  obtain ⟨tl,dl,ts,us,x1,x2,x3,x4,x5⟩:=hg.w
  have ul:us.length=3:=by rw [<- x5.1]; exact hok.Dn
  have dls:=hS.neR x4
  refine (show ∀ (v:TS) (D:Ends),(∀ (H1:Hp) (ld:Addr) (os:List Addr) (ds:List Df) (y4 y5 y6 y7 y8:Option V),Kp st H H1->Sta K H1 st (B + 17000000)->H1 ld=some (.lst (os.map V.ref))->IsDfs H1 ds os->owOf ds=o.D->(∀ d∈ds,DfH o.D d)->v D [some (.ref st),some (.ref wl),some (.int (rm:Nat)),some (.ref ld),y4,y5,y6,y7,y8,none,none] H1)->(tSeq _ (tSeq _ v):TS) D [some (.ref st),some (.ref wl),some (.int (rm:Nat)),none,none,none,none,none,none,none,none] H from ?a1) _ _ ?a2
  case a1 =>
    intro v D hV
    refine ⟨sN0,fun ld gd=>?_⟩
    have s1:=zh gd (.lst [])
    have e1:=zf (H:=H) (a:=ld) (o:=.lst [])
    have S1:=hS.same s1
    have lds:=hS.ne gd
    dsimp only
    generalize upd H ld (.lst [])=H1 at *
    refine ⟨_,rfl,ixL (s1 _ _ x1) aI3 ⟨dl,rfl,⟨_,SqL.of (s1 _ _ x4)⟩,yS (xs:=us.map V.ref) (fun i σ H'=>∃ (os:List Addr) (ds:List Df) (y4 y5 y6 y7 y8:Option V),σ=[some (.ref st),some (.ref wl),some (.int (rm:Nat)),some (.ref ld),y4,y5,y6,y7,y8,none,none]/\Kp st H H'/\Sta K H' st (B + i * 5400002)/\H' ld=some (.lst (os.map V.ref))/\IsDfs H' ds os/\owOf ds=o.D.take i/\∀ d∈ds,DfH o.D d) ⟨[],[],none,none,none,none,none,rfl,.of s1,S1.mono (by lia),e1,⟨rfl,fun i d o h=>by simp at h⟩,rfl,fun d h=>by cases h⟩ (fun i σ H' _ h=>?_) ?_ ?_⟩⟩
    · obtain ⟨_,_,_,_,_,_,_,_,k,_⟩:=h
      exact SqL.of (k.k _ _ dls x4)
    · rintro i v σ H6 hv ⟨os,ds,y4,y5,y6,y7,y8,rfl,k6,S6,e6,I6,eo,hG⟩
      rw [List.getElem?_map] at hv
      obtain ⟨t,ht,rfl⟩:=Option.map_eq_some_iff.mp hv
      have hi:i < 3:=by have:=(List.getElem?_eq_some_iff.mp ht).1; lia
      obtain ⟨⟨g,ms⟩,ed,qm,d1,d2⟩:=x5.at ht
      have dm:=List.mem_of_getElem? ed
      have lms:ms.length<=3:=hok.D _ dm
      have t6:=k6.tups hS
      have od:os.length=i:=by
        have:=congrArg List.length eo
        unfold owOf at this
        rw [List.length_map,List.length_take,hok.Dn] at this
        have:=I6.1
        lia
      refine ⟨t,_,rfl,SqT.of (t6 _ _ d1),rfl,_,_,rfl,_,_,rfl,rfl,?_⟩
      have qm6:=t6 _ _ d2
      have wx:=k6.k _ _ (hS.neW x1) x1
      dsimp only at qm6
      refine ⟨_,rfl,qm,_,rfl,.inr (SqT.of qm6),_,rfl,by rw [List.length_map]; lia,by rw [List.length_map]; lia,yT (n:=(((ms.map V.bl).length:Nat):Int).toNat) (fun j τ ys H'=>H6=H'/\(∃ y,τ=[some (.ref st),some (.ref wl),some (.int (rm:Nat)),some (.ref ld),some (.str g),some (.ref qm),y6,y7,y8,none,none,y])/\ys=((List.range j).map fun k=>nm o.z o.b k).map V.str) ⟨rfl,⟨none,rfl⟩,rfl⟩ ?_ ?_⟩
      · rintro j τ ys H' hj ⟨rfl,⟨y,rfl⟩,rfl⟩
        rw [List.length_map] at hj
        refine ⟨_,rfl,_,rfl,wl,o.z,o.b,_,j,?_,wx,hok.z,by rw [List.length_map,List.length_map,List.length_range]; lia,rfl,⟨_,rfl⟩,by rw [List.range_succ,List.map_append,List.map_append]; rfl⟩
        show [V.ref wl,V.int (0 + ((j:Nat):Int))]=_
        rw [show (0:Int) + ((j:Nat):Int)=((j:Nat):Int) by lia]
      rintro τ ys H' ⟨rfl,_,rfl⟩ lp gp
      have ep:(((ms.map V.bl).length:Nat):Int).toNat=ms.length:=by rw [List.length_map]; lia
      rw [ep]
      have pl:((List.range ms.length).map fun k=>nm o.z o.b k).length=ms.length:=by rw [List.length_map,List.length_range]
      generalize ((List.range ms.length).map fun k=>nm o.z o.b k)=ps at *
      have s7:=zh gp (.lst (ps.map V.str))
      have e7:=zf (H:=H6) (a:=lp) (o:=.lst (ps.map V.str))
      have qm7:=s7 _ _ qm6
      dsimp only
      generalize upd H6 lp (.lst (ps.map V.str))=H7 at *
      have pm:(ps.map V.str).length=(ms.map V.bl).length:=by rw [List.length_map,List.length_map,pl]
      refine ⟨_,rfl,_,rfl,lp,qm,true,false,_,_,rfl,SqK.l e7,SqK.t qm7,wI (k:=true) (m:=false) (xs:=ps.map V.str) (ys:=ms.map V.bl) pm (fun i τ zs H'=>Same H7 H'/\(∃ y y',τ=[some (.ref st),some (.ref wl),some (.int (rm:Nat)),some (.ref ld),some (.str g),some (.ref qm),some (.ref lp),y7,y8,none,none,y,y'])/\∃ ws:List Str,zs=ws.map V.str/\ws.length<=i/\∀ z∈ws,z∈ps) ⟨Same.refl _,⟨none,none,rfl⟩,[],rfl,Nat.le_refl _,fun z hz=>by cases hz⟩ (fun i τ zs H' _ h=>⟨SqK.l (h.1 _ _ e7),SqK.t (h.1 _ _ qm7)⟩) ?_ ?_⟩
      · rintro j x y T τ zs H' hx hy hT ⟨s8,⟨y1,y2,rfl⟩,ws,rfl,wl8,sb8⟩
        rw [List.getElem?_map] at hx hy
        obtain ⟨n,hn',rfl⟩:=Option.map_eq_some_iff.mp hx
        obtain ⟨b,hb',rfl⟩:=Option.map_eq_some_iff.mp hy
        have hj:j < ms.length:=(List.getElem?_eq_some_iff.mp hb').1
        exact ⟨T,_,rfl,SqT.of zf,rfl,_,_,rfl,_,_,rfl,rfl,_,rfl,b,rfl,ite2 (fun _=>⟨_,rfl,by rw [List.length_map]; lia,s8.new hT,⟨_,_,rfl⟩,ws ++ [n],by rw [List.map_append]; rfl,by rw [List.length_append]; show ws.length + 1<=_; lia,fun z hz=>(List.mem_append.mp hz).elim (sb8 z) fun hz=>by rw [List.mem_singleton.mp hz]; exact List.mem_of_getElem? hn'⟩) (fun _=>⟨s8.new hT,⟨_,_,rfl⟩,ws,rfl,by lia,sb8⟩)⟩
      rintro τ zs H8 ⟨s8,_,n0,rfl,nl0,sb0⟩ lm gm
      rw [List.length_map,pl] at nl0
      have s9:=s8.new (o:=.lst (n0.map V.str)) gm
      have e9:=zf (H:=H8) (a:=lm) (o:=.lst (n0.map V.str))
      have e79:=s9 _ _ e7
      have qm9:=s9 _ _ qm7
      dsimp only
      generalize upd H8 lm (.lst (n0.map V.str))=H9 at *
      refine ⟨_,rfl,_,rfl,lp,qm,true,false,_,_,rfl,SqK.l e79,SqK.t qm9,wI (k:=true) (m:=false) (xs:=ps.map V.str) (ys:=ms.map V.bl) pm (fun i τ zs H'=>Same H9 H'/\(∃ y y',τ=[some (.ref st),some (.ref wl),some (.int (rm:Nat)),some (.ref ld),some (.str g),some (.ref qm),some (.ref lp),some (.ref lm),y8,none,none,y,y'])/\∃ ws:List Str,zs=ws.map V.str/\ws.length<=i/\∀ z∈ws,z∈ps) ⟨Same.refl _,⟨none,none,rfl⟩,[],rfl,Nat.le_refl _,fun z hz=>by cases hz⟩ (fun i τ zs H' _ h=>⟨SqK.l (h.1 _ _ e79),SqK.t (h.1 _ _ qm9)⟩) ?_ ?_⟩
      · rintro j x y T τ zs H' hx hy hT ⟨s8,⟨y1,y2,rfl⟩,ws,rfl,wl8,sb8⟩
        rw [List.getElem?_map] at hx hy
        obtain ⟨n,hn',rfl⟩:=Option.map_eq_some_iff.mp hx
        obtain ⟨b,hb',rfl⟩:=Option.map_eq_some_iff.mp hy
        have hj:j < ms.length:=(List.getElem?_eq_some_iff.mp hb').1
        exact ⟨T,_,rfl,SqT.of zf,rfl,_,_,rfl,_,_,rfl,rfl,_,rfl,b,rfl,ite2 (fun _=>⟨_,rfl,by rw [List.length_map]; lia,s8.new hT,⟨_,_,rfl⟩,ws ++ [n],by rw [List.map_append]; rfl,by rw [List.length_append]; show ws.length + 1<=_; lia,fun z hz=>(List.mem_append.mp hz).elim (sb8 z) fun hz=>by rw [List.mem_singleton.mp hz]; exact List.mem_of_getElem? hn'⟩) (fun _=>⟨s8.new hT,⟨_,_,rfl⟩,ws,rfl,by lia,sb8⟩)⟩
      rintro τ zs H10 ⟨s10,_,n1,rfl,nl1,sb1⟩ ll gl
      rw [List.length_map,pl] at nl1
      have s11:=s10.new (o:=.lst (n1.map V.str)) gl
      have e11:=zf (H:=H10) (a:=ll) (o:=.lst (n1.map V.str))
      dsimp only
      generalize upd H10 ll (.lst (n1.map V.str))=H11 at *
      have e911:=s11 _ _ e9
      have e711:=s11 _ _ e79
      have s611:=(s7.trans s9).trans s11
      refine ⟨_,rfl,.inl ⟨rfl,_,SqL.of (s611 _ _ e6)⟩,_,rfl,_,rfl,lp,_,rfl,.inl ⟨SqL.of e711,fun q1 h1=>⟨_,rfl,?_⟩⟩⟩
      have s12:=s611.new (o:=.tup (ps.map V.str)) h1
      have p12:=zf (H:=H11) (a:=q1) (o:=.tup (ps.map V.str))
      have e712:=old h1 (o:=.tup (ps.map V.str)) e711
      have e912:=old h1 (o:=.tup (ps.map V.str)) e911
      have e1112:=old h1 (o:=.tup (ps.map V.str)) e11
      generalize upd H11 q1 (.tup (ps.map V.str))=H12 at *
      have g12:Gn K st wl o H12 (B + i * 5400002):=hg.go (k6.trans (.of s12)) (S6.same s12)
      have i3:(i + 1) * 5400002=i * 5400002 + 5400002:=Nat.succ_mul _ _
      have i4:i * 5400002<=2 * 5400002:=Nat.mul_le_mul_right _ (by lia)
      refine ⟨_,rfl,_,rfl,_,rfl,_,rfl,lp,_,rfl,.inl (SqL.of e712),_,rfl,_,rfl,st,lm,ll,wl,n0,n1,ps.length,((rm:Nat):Int),B + i * 5400002,o,by rw [List.length_map]; rfl,⟨g12,e912,e1112,by lia,by lia,by lia⟩,by lia,by rw [b3]; lia,fun H13 pb b k13 S13 ib gb=>?_⟩
      have e13:=k13.k _ _ lds (s12 _ _ e6)
      have t13:=k13.tups g12.s
      refine ⟨sN4,fun q2 h2=>⟨ld,_,_,rfl,rfl,old h2 e13,by rw [List.length_map]; lia,?_⟩⟩
      have s14:=zh h2 (.tup [.str g,.ref q1,.ref qm,.ref pb])
      have S14:=S13.same s14
      have k14:Kp st H (upd H13 q2 (.tup [.str g,.ref q1,.ref qm,.ref pb])):=k6.trans ((Kp.of s12).trans (k13.trans (.of s14)))
      have I14:IsDfs (upd H13 q2 (.tup [.str g,.ref q1,.ref qm,.ref pb])) (ds ++ [⟨g,ps,ms,b⟩]) (os ++ [q2]):=(((I6.keep (.of s12)).keep t13).keep (.of s14)).snoc ⟨q1,qm,pb,zf,s14 _ _ (t13 _ _ p12),s14 _ _ (t13 _ _ (s12 _ _ qm6)),ib.keep (.of s14)⟩
      have e14:=s14 _ _ e13
      generalize upd H13 q2 (.tup [.str g,.ref q1,.ref qm,.ref pb])=H14 at *
      have tp:Tups H14 (upd H14 ld (.lst (os.map V.ref ++ [.ref q2]))):=fun c xs q=>by
        rw [zk (fun x=>by rw [x,e14] at q; cases q)]
        exact q
      refine ⟨os ++ [q2],ds ++ [⟨g,ps,ms,b⟩],_,_,_,_,_,rfl,k14.put gd,(hS.put gd k14 S14).mono (by rw [b3]; lia),by rw [zf,List.map_append]; rfl,I14.keep tp,?_,fun d hd=>?_⟩
      · unfold owOf at *
        rw [List.map_append,eo,List.take_add_one,ed]
        rfl
      · rcases List.mem_append.mp hd with h | h
        · exact hG d h
        · rw [List.mem_singleton.mp h]
          have g1:=gb.dp
          have g2:=gb.sz
          have g3:=gb.bn
          have d3:dB 3=78:=rfl
          have s3:sB 3=175616:=rfl
          have n3:nB 3=137200:=rfl
          refine ⟨⟨pl,by show ps.length<=_; lia,by show b.sz<=_; lia,by show b.binds.length<=_; lia,gb.tw.mono fun z hz=>?_⟩,by show b.dp<=_; lia,by show ps.length<=_; lia⟩
          exact (List.mem_append.mp hz).elim (sb0 z) (sb1 z)
    · rintro σ H2 ⟨os,ds,y4,y5,y6,y7,y8,rfl,k2,S2,e2,I2,eo,hG⟩
      rw [List.length_map,ul] at S2 eo
      rw [List.take_of_length_le (by rw [hok.Dn]; exact Nat.le_refl _)] at eo
      exact hV _ _ _ _ _ _ _ _ _ k2 (S2.mono (by lia)) e2 I2 eo hG
  case a2 =>
  intro H1 ld os ds y4 y5 y6 y7 y8 k1 S1 e1 I1 eo hG
  have v1:=k1.k _ _ (hS.neW x1) x1
  have v2:=k1.k _ _ (hS.neR x2) x2
  have v3:TsAt tgR H1 o.T ts:=x3.keep fun _ _ z=>z.tk (k1.tups hS)
  have tl24:ts.length<=24:=by have:=hok.Tn; rw [<- v3.1]; lia
  have ol:os.length<=3:=by
    have:=congrArg List.length eo
    unfold owOf at this
    rw [List.length_map,hok.Dn] at this
    have:=I1.1
    lia
  refine ⟨_,rfl,ixL v1 aI2 ⟨tl,rfl,⟨_,SqL.of v2⟩,ym (xs:=ts.map V.ref) (fun i τ ys H'=>Same H1 H'/\(∃ a b c,τ=[some (.ref st),some (.ref wl),some (.int (rm:Nat)),some (.ref ld),y4,y5,y6,y7,y8,none,none,a,b,c])/\ys.length=i) ⟨Same.refl _,⟨none,none,none,rfl⟩,rfl⟩ (fun i τ ys H' _ h=>SqL.of (h.1 _ _ v2)) ?_ ?_⟩⟩
  · rintro i v τ ys H2 hv ⟨s2,⟨a,b,c,rfl⟩,yl⟩
    rw [List.getElem?_map] at hv
    obtain ⟨t,ht,rfl⟩:=Option.map_eq_some_iff.mp hv
    have hi:=(List.getElem?_eq_some_iff.mp ht).1
    obtain ⟨tg,_,hR⟩:=v3.at ht
    exact ⟨t,_,rfl,SqT.of (s2 _ _ hR),rfl,_,_,rfl,_,_,rfl,_,_,rfl,rfl,_,rfl,_,rfl,sN2,fun p hp=>⟨by lia,s2.new hp,⟨_,_,_,rfl⟩,by rw [List.length_append,yl]; rfl⟩⟩
  rintro τ ys H2 ⟨s2,_,yl⟩ l3 g3
  have s3:=s2.new (o:=.lst ys) g3
  have e3:=zf (H:=H2) (a:=l3) (o:=.lst ys)
  dsimp only
  generalize upd H2 l3 (.lst ys)=H3 at *
  refine ⟨_,rfl,by decide,by decide,yT (n:=(10:Int).toNat) (fun j τ zs H'=>Same H3 H'/\(∃ y,τ=[some (.ref st),some (.ref wl),some (.int (rm:Nat)),some (.ref ld),y4,y5,y6,y7,y8,some (.ref l3),none,y])/\zs.length=j) ⟨Same.refl _,⟨none,rfl⟩,rfl⟩ ?_ ?_⟩
  · rintro j τ zs H4 hj ⟨s4,⟨y,rfl⟩,zl⟩
    have hj:j < 10:=hj
    refine ⟨_,rfl,_,rfl,_,_,rfl,rfl,wl,o.z,o.b,_,20 + j,?_,(s3.trans s4) _ _ v1,hok.z,_,rfl,sN2,fun p hp=>⟨by lia,s4.new hp,⟨_,rfl⟩,by rw [List.length_append,zl]; rfl⟩⟩
    show [V.ref wl,V.int (20 + (0 + ((j:Nat):Int)))]=_
    rw [show (20:Int) + (0 + ((j:Nat):Int))=((20 + j:Nat):Int) by lia]
  rintro τ zs H4 ⟨s4,_,zl⟩ lk gk
  refine ⟨lk,_,rfl,.inl ⟨SqL.of zf,fun pk hk=>?_⟩⟩
  have s5:=(s4.new (o:=.lst zs) gk).new (o:=.tup zs) hk
  have e5:=s5 _ _ e3
  generalize upd (upd H4 lk (.lst zs)) pk (.tup zs)=H5 at *
  refine ⟨_,rfl,3,rfl,l3,_,rfl,SqL.of e5,fun l4 g4=>⟨l4,_,rfl,.inl ⟨SqL.of zf,fun l5 g5=>?_⟩⟩⟩
  have s6:=((s3.trans s5).new (o:=.lst (cutV ys none (some 3))) g4).new (o:=.tup (cutV ys none (some 3))) g5
  have e6:=old (o:=.tup (cutV ys none (some 3))) g5 (old (o:=.lst (cutV ys none (some 3))) g4 e5)
  generalize upd (upd H5 l4 (.lst (cutV ys none (some 3)))) l5 (.tup (cutV ys none (some 3)))=H6 at *
  refine ⟨_,rfl,3,rfl,l3,_,rfl,SqL.of e6,fun l6 g6=>⟨l6,_,rfl,.inl ⟨SqL.of zf,fun l7 g7=>⟨_,rfl,sN3,fun l8 g8=>?_⟩⟩⟩⟩
  have s8:=((s6.new (o:=.lst (cutV ys (some 3) none)) g6).new (o:=.tup (cutV ys (some 3) none)) g7).new (o:=.tup [.ref l5,.ref l7,.ref pk]) g8
  generalize upd (upd (upd H6 l6 (.lst (cutV ys (some 3) none))) l7 (.tup (cutV ys (some 3) none))) l8 (.tup [.ref l5,.ref l7,.ref pk])=H8 at *
  refine ⟨_,rfl,ld,_,rfl,.inl ⟨SqL.of (s8 _ _ e1),fun l9 g9=>⟨sN2,fun p gp=>?_⟩⟩⟩
  have s9:=(s8.new (o:=.tup (os.map V.ref)) g9).new (o:=.tup [.ref l8,.ref l9]) gp
  exact q _ p ds (k1.trans (.of s9)) (S1.same s9) ⟨_,l9,os,zf,old gp zf,I1.keep (.of s9)⟩ eo hG
end
end GN
namespace L2
open PySem PySem.Spec PyProof.Rows
theorem Ys {P:Program} {w:World} {K:PySem.W.Frag} {mg mb:Str->Option Value} {CX:CXT} {k:Nat} {fa a:Addr} {Ts:List Addr} {fd:FuncData} {x:Str} {sp:Sp} {s₁:Shared} {vs:List Value} {ns:List Int}
    (KX:K.In s₁.heap) (hT:∀ T∈Ts,s₁.heap.get? T=some { cls:=.none,data:=.fields #[] }) (hTK:∀ T∈Ts,K.lookup T=none) (hTc:∀ T∈Ts,isCodeTable s₁.heap T) (hns:s₁.heap.Ns mainGlobals mg) (hb:s₁.heap.Ns builtinsNs mb) (hbb:∀ x:Str,x≠"__name__"->mb x=bootBuiltins x) (hlim:s₁.heap.NoLimit) (hBM:BMn mg s₁.heap) (hg:s₁.gens=#[])
    (ha:s₁.heap.get? a=some { cls:=.type "list",data:=.seq vs.toArray }) (hi:IntsAre vs ns) (hl:ns.length<=sizeLine) (hr:Room k callerA)
    (F:∀ base:Heap,K.In base->base.Ns mainGlobals mg->BMn mg base->FnOk P w K mg base CX k fa fd [x] sp) (hbind:∀ (s:Shared) (u:Value),BindsTo s fd ⟨[u],[]⟩ [(x,u)])
    (hsp:∀ H:Hp,(∀ T∈Ts,H T=some (.tbl #[]))->SqL K H a (ns.map V.int)->sp [.ref a] H (fun v _=>v=.bl true) fun _ _ _=>False)
    (hCX:∀ H e s',CX [] H s₁ (fun _ _ _=>False) e s'->False) :
    codeAny (model P w) callerA (.call (.ref fa) ⟨[.ref a],[]⟩) (fun r s'=>r=.ok (.ret (.bool true))/\OldK s₁.heap s'.heap/\s'.os=s₁.os/\AllBare s'.gens) s₁:=by
  have rv:=jd hi
  have lenV:=hi.length
  have nTa:a ∉ Ts:=fun e=>by rw [hT a e] at ha; cases ha
  have core:∀ H:Hp,(∀ b,H b=none\/(∃ o xs,H b=some (.frz o (.lst xs)))\/(b∈Ts/\H b=some (.tbl #[])))->(∀ T∈Ts,H T=some (.tbl #[]))->SqL K H a (ns.map V.int)->HOk P w H s₁.heap->(∀ b,H b≠none->b=a\/b∈Ts)->(H a≠none->K.lookup a=none) ->
      codeAny (model P w) callerA (.call (.ref fa) ⟨[.ref a],[]⟩) (fun r s'=>r=.ok (.ret (.bool true))/\OldK s₁.heap s'.heap/\s'.os=s₁.os/\AllBare s'.gens) s₁:=by
    intro H hO hHT hS hok hA hK
    have base_of:∀ {b:Addr} {o:Obj},s₁.heap.get? b=some o->H b=none->(hidT s₁.heap H).get? b=some o:=fun e n=>Wh e n
    have noA:∀ {b:Addr} {o:Obj} {es:Array DictEntry} {ep:Nat},s₁.heap.get? b=some o->o.data=.dict es ep->H b=none:=fun {b o es ep} e d=>by
      cases q:H b with
      | none=>rfl
      | some u =>
        rcases hA b (by rw [q]; simp) with e' | e'
        · subst e'
          rw [ha] at e; cases e
          have d':Data.seq vs.toArray _=Data.dict es ep:=d
          cases d'
        · rw [hT b e'] at e; cases e
          have d':Data.fields #[]=Data.dict es ep:=d
          cases d'
    have nsK:∀ {b:Addr} {m:Str->Option Value},s₁.heap.Ns b m->(hidT s₁.heap H).Ns b m:=fun {b m} ⟨o,es,ep,e,d,r⟩=>⟨o,es,ep,base_of e (noA e d),d,r⟩
    have hBb:BMn mg (hidT s₁.heap H):=by
      obtain ⟨bm,ob,b1,b2,b3,b4,b5,b6⟩:=hBM
      refine ⟨bm,ob,b1,b2,base_of b3 ?_,b4,b5,b6⟩
      cases q:H bm with
      | none=>rfl
      | some u =>
        rcases hA bm (by rw [q]; simp) with e' | e'
        · subst e'
          rw [ha] at b3; cases b3; cases b6
        · rw [hT bm e'] at b3; cases b3; cases b6
    have hKb:K.In (hidT s₁.heap H):=fun b o e=>base_of (KX b o e) (by
      cases q:H b with
      | none=>rfl
      | some u =>
        rcases hA b (by rw [q]; simp) with e' | e'
        · subst e'
          rw [hK (by rw [q]; simp)] at e; cases e
        · rw [hTK b e'] at e; cases e)
    have hM:Mod K mg (hidT s₁.heap H):=⟨hKb,nsK hns,⟨mb,nsK hb,hbb⟩,let ⟨mc,h1,h2⟩:=hlim; ⟨mc,nsK h1,h2⟩⟩
    have e0:Env0 P w K mg (hidT s₁.heap H) callerA [] s₁ H:=⟨rfl,hM,fun b o e=>Jk e,Nat.le_of_eq (Xo _ _),trivial,fun b hb=>absurd (show b∈([]:List Addr) from hb) (by simp),hok,.of_eq hg⟩
    refine codeAny_mono ((F _ hKb (nsK hns) hBb).run callerA [] s₁ H ⟨[.ref a],[]⟩ [.ref a] [.ref a] _ _ hr e0 (hbind s₁ (.ref a)) (.cons rfl .nil) (hsp H hHT hS)) fun r s' h=>?_
    cases r with
    | error e=>exact (hCX H e s' h).elim
    | ok fl =>
      cases fl with
      | next=>exact False.elim h
      | brk=>exact False.elim h
      | cont=>exact False.elim h
      | ret u =>
        obtain ⟨v,H',os,bare,un,hok',r',q⟩:=h
        have q':v=.bl true:=q
        subst q'
        obtain rfl:u=Value.bool true:=r'
        refine ⟨rfl,⟨fun b o e=>?_,fun b o e=>un.there b o e (by simp)⟩,os,bare⟩
        cases q:H b with
        | none=>exact .inl (un.keep b o e q (by intro z; exact absurd (show b∈([]:List Addr) from z) (by simp)) (by simp))
        | some u =>
          rcases hO b with z | ⟨ob,xs,z⟩ | ⟨zm,z⟩
          · rw [q] at z; cases z
          · have z2:=un.frzs b ob _ z
            obtain ⟨e1,_⟩:=hok b _ z
            obtain ⟨e2,_⟩:=hok' b _ z2
            rw [e] at e1; cases e1
            exact .inl e2
          · obtain ⟨more,z2⟩:=un.tbls b _ z
            have e2:s'.heap.get? b=some { cls:=.none,data:=.fields (#[] ++ more) }:=hok' b _ z2
            rw [hT b zm] at e; cases e
            exact .inr (.inl ⟨hTc b zm,rfl,#[],more,rfl,e2⟩)
  cases hk:K.lookup a with
  | some o =>
    have e:=KX a o hk
    rw [ha] at e
    cases e
    refine core (fun b=>if b∈Ts then some (.tbl #[]) else none) (fun b=>?_) (fun T hT=>if_pos hT) (.inr ⟨_,vs.toArray,_,hk,rfl,rfl,rfl,by rw [List.size_toArray,lenV]; exact hl,by simpa using rv⟩) (fun b u z=>?_) (fun b z=>?_) fun z=>absurd (if_neg nTa) z
    · by_cases hb:b∈Ts
      · exact .inr (.inr ⟨hb,if_pos hb⟩)
      · exact .inl (if_neg hb)
    · by_cases hb:b∈Ts
      · have z':=(if_pos hb).symm.trans z
        cases z'
        exact hT b hb
      · have z':=(if_neg hb).symm.trans z
        cases z'
    · by_cases hb:b∈Ts
      · exact .inr hb
      · exact absurd (if_neg hb) z
  | none =>
    refine core (fun b=>if b∈Ts then some (.tbl #[]) else if b=a then some (.frz { cls:=.type "list",data:=.seq vs.toArray } (.lst (ns.map V.int))) else none) (fun b=>?_) (fun T hT=>if_pos hT) (.inl (.inr ⟨{ cls:=.type "list",data:=.seq vs.toArray },(if_neg nTa).trans (if_pos rfl)⟩)) (fun b u z=>?_) (fun b z=>?_) fun _=>hk
    · by_cases hb:b∈Ts
      · exact .inr (.inr ⟨hb,if_pos hb⟩)
      · by_cases hb2:b=a
        · exact .inr (.inl ⟨_,_,(if_neg hb).trans (if_pos hb2)⟩)
        · exact .inl ((if_neg hb).trans (if_neg hb2))
    · by_cases hb:b∈Ts
      · have z':=(if_pos hb).symm.trans z
        cases z'
        exact hT b hb
      · by_cases hb2:b=a
        · have z':some (HO.frz { cls:=.type "list",data:=.seq vs.toArray } (.lst (ns.map V.int)))=some u:=((if_neg hb).trans (if_pos hb2)).symm.trans z
          cases z'
          subst hb2
          exact ⟨ha,by rw [List.length_map]; exact hl,vs,_,rv,ha⟩
        · have z':none=some u:=((if_neg hb).trans (if_neg hb2)).symm.trans z
          cases z'
    · by_cases hb:b∈Ts
      · exact .inr hb
      · by_cases hb2:b=a
        · exact .inl hb2
        · exact absurd ((if_neg hb).trans (if_neg hb2)) z
def wz (K:PySem.W.Frag) (Ts:List Addr):Sp:=fun vs H Q _=>∃ (a:Addr) (ns:List Int),vs=[.ref a]/\SqL K H a (ns.map V.int)/\ns.length<=63/\(∀ T∈Ts,H T=some (.tbl #[]))/\∀ H',Q (.bl true) H'
theorem Jf {l:PySem.W.OpenLaw} {w:World} {K:PySem.W.Frag} {h:Heap} {mg:Str->Option Value} {fa:Addr} {Ts:List Addr} {st:Stmt} {k:Nat} (d:DfIn K "law" st) (X:K.In h) (G:h.Ns mainGlobals mg) (hfa:mg "law"=some (.ref fa))
    (hb:∀ (kV doc pm:Value) (an:Option Addr) (cdv ct:Value) (s:Shared) (u:Value),BindsTo s (PySem.W.fnOf "law" "law" (zT st) (zJ st) (zo st) .none kV doc pm an cdv ct) ⟨[u],[]⟩ [("_law_script",u)])
    (ok:∀ (base:Heap) (fd:FuncData),BMn mg base->Fun K "law" "law" st fa fd->FnOk l.prog w K mg base CX0 k fa fd ["_law_script"] (wz K Ts)) :
    ∃ fd:FuncData,(∀ (s:Shared) (u:Value),BindsTo s fd ⟨[u],[]⟩ [("_law_script",u)])/\∀ base:Heap,K.In base->base.Ns mainGlobals mg->BMn mg base->FnOk l.prog w K mg base CX0 k fa fd ["_law_script"] (wz K Ts):=by
  obtain ⟨fl,al,oc,od,kV,doc,pm,an,cdv,ct,osl,lk,cc,kk⟩:=d
  have e:fl=fa:=by
    have:=PySem.W.mg_of X G al
    rw [hfa] at this
    injection this with this
    injection this with this
    exact this.symm
  subst e
  exact ⟨_,fun s v=>hb _ _ _ _ _ _ s v,fun base _ _ B=>ok base _ B (WC (st:=st) lk cc kk)⟩
theorem walkTs {l:PySem.W.OpenLaw} {q:Program} {loose:List Str} {XP:(Str->Option Value)->Heap->Prop} {d:DefRec} {K:Params->PySem.W.Frag} {as:List Addr} {e:∀ p,as=(K p).map (·.1)} {Ts:List Addr} {k:Nat} (hn:l.most=some 63) (hr:Room k callerA) (hdf:d.params.defaults=[]) (hnm:d.name="law")
    (hc:∀ p,∀ T∈Ts,∃ c,PySem.W.codeHdIn (K p) c T=true) (hTK:∀ p,∀ T∈Ts,(K p).lookup T=none)
    (F:∀ (w:World) (mg:Str->Option Value) (fa:Addr) (h:Heap),(K w.params).In h->h.Ns mainGlobals mg->mg "law"=some (.ref fa)->∃ fd:FuncData,(∀ (s:Shared) (u:Value),BindsTo s fd ⟨[u],[]⟩ [("_law_script",u)])/\∀ base:Heap,(K w.params).In base->base.Ns mainGlobals mg->BMn mg base->FnOk l.prog w (K w.params) mg base CX0 k fa fd ["_law_script"] (wz (K w.params) Ts)) :
    PySem.W.WalkO q loose XP (PySem.W.kmHook K as e Ts).says l.row.toRowW d [] (fun f vs=>PySem.call f vs):=by
  refine Att.attach_call hn hdf fun w s₀ s₁ mg mb fa o pm cd doc a vs ns G Y ho hd hcd hmg hobj hints hlen hg=>?_
  have KX:=PySem.W.km_in_of Y
  have hT:∀ T∈Ts,_:=fun T hm=>PySem.W.km_tabs_of Y T hm
  obtain ⟨fd,hb,hF⟩:=F w mg fa _ KX G.T.g (by rw [hnm] at hmg; exact hmg)
  have hTc:∀ T∈Ts,isCodeTable s₁.heap T:=fun T hm=>by
    obtain ⟨c,hc⟩:=hc w.params T hm
    obtain ⟨o1,vs1,_,_,_,_,_,_,_,c1,c2,c3,c4,_⟩:=PySem.W.codeHd_of_K KX hc
    exact ⟨c,o1,vs1,c1,c2,c3,c4⟩
  exact Ys KX hT (hTK w.params) hTc G.T.g G.T.b G.T.builtins G.T.nolimit G.T.bmain hg hobj hints (Nat.le_trans hlen (by decide)) hr hF hb (fun H hO hS=>⟨a,ns,rfl,hS,hlen,hO,fun _=>rfl⟩) fun _ _ _ z=>z
theorem Wd:typeLookup (.type "tuple") "__reversed__"=pure none:=by rw [typeLookup_type,builtinLookup_eq_fast]; kernel_rfl
theorem rev_slot_next:Slot "reversed" "__next__" "reversed.__next__" :=
  .of (owner:="reversed") (n:="__next__") (by rw [typeLookup_type,builtinLookup_eq_fast]; kernel_rfl) (by decide +kernel) (by decide +kernel) (by decide +kernel)
    (by first | exact .inl (by decide +kernel) | exact .inr (by decide +kernel)) (by rw [isSubtype_type]; kernel_rfl)
theorem xy:entryFor table "reversed.__next__"=some Builtin.«reversed.__next__»:=entryFor_of_tree (by kernel_rfl)
section
variable {prog:Program} {w:World} {A:Around} {E:Value->Shared->Prop} {s:Shared}
theorem xZ {l:Addr} {items:Array Value} {Q₁:Value->Shared->Prop} (hl:IsTup s.heap l items) (hz:items.size<=sizeLine)
    (h:∀ tk,Q₁ (.ref s.heap.objs.size) { s with heap:=s.heap.push { cls:=.type "reversed",data:=.fields #[.ref l,rawInt ((items.size:Int) - 1)] },toks:=tk }) :
    codeAny (model prog w) A (.call (.builtin "reversed.__new__") ⟨[.type "reversed",.ref l],[]⟩) (wants Q₁ E) s:=by
  refine codeAny_of_tree ?_
  show wpAny _ A.in1 (do checkBuiltinCall "reversed.__new__" ⟨[.type "reversed",.ref l],[]⟩; again (.builtin "reversed.__new__" ⟨[.type "reversed",.ref l],[]⟩)) _ _ s
  refine wpAny_bind (wpAny_of_eq (F.newCall_reversed_1 _) (wpAny_pure ⟨plainId_quiet F.plain_reversed_new _,codeAny_builtin F.entry_reversed_new ?_⟩))
  rw [Around.under_plainId F.plain_reversed_new _]
  unfold Builtin.«reversed.__new__»
  refine wpAny_bind (wpAny_of_eq (newClass_reversed _) ?_)
  try dsimp only
  refine wpAny_bind (wpAny_of_eq (a:=()) (by first | rfl | kernel_rfl) ?_)
  refine wpAny_bind (wpAny_of_eq (a:=()) (by first | rfl | kernel_rfl) ?_)
  try dsimp only
  refine wpAny_bind (wpAny_specialOf hl.typeIs Wd ?_)
  try dsimp only
  refine wpAny_bind ?_
  wp_delta
  refine wpAny_bind (wpAny_isInstance (T:="tuple") (b:=false) hl.typeIs (by rw [isSubtype_type]; kernel_rfl) ?_)
  refine wpAny_ite_split (fun hab=>absurd hab (by decide)) (fun _=>?_)
  try dsimp only
  refine wpAny_bind (wpAny_specialOf hl.typeIs slot_tuple_getitem.lookup ?_)
  try dsimp only
  rw [if_pos (by decide)]
  refine wpAny_pure ?_
  rw [if_neg (by decide)]
  have hn:=xi
  refine wpAny_bind (len_tuple hl (by lia) ?_)
  refine wpAny_bind (wpAny_of_eq (a:=some ((items.size:Nat):Int)) (by first | rfl | kernel_rfl) ?_)
  try dsimp only
  refine wpAny_bind ?_
  show wpAny _ _ (newObj (.type "reversed") (.fields [Value.ref l,rawInt (((items.size:Nat):Int) - 1)].toArray)) _ _ _
  refine wpAny_newObj_type ?_
  exact wpAny_pure (h _)
theorem x0:Slot "reversed" "__init__" "object.__init__" :=
  .of (owner:="object") (n:="__init__") (by rw [typeLookup_type,builtinLookup_eq_fast]; kernel_rfl) (by decide +kernel) (by decide +kernel) (by decide +kernel)
    (by first | exact .inl (by decide +kernel) | exact .inr (by decide +kernel)) (by rw [isSubtype_type]; kernel_rfl)
theorem called_reversed:TypeCalled "reversed" "reversed.__new__" "object.__init__" :=
  ⟨by decide +kernel,by decide +kernel,⟨_,_,F.mro_reversed⟩,F.made_reversed,by decide +kernel,F.sub_reversed_self,x0⟩
def IsRevT (h:Heap) (a l:Addr) (i:Int):Prop:=∃ o,h.get? a=some o/\o.cls=.type "reversed"/\o.data=.fields #[.ref l,rawInt i]
theorem IsRevT.typeIs {a l:Addr} {i:Int} (x:IsRevT s.heap a l i):s.TypeIs (.ref a) "reversed":=let ⟨o,ho,hc,_⟩:=x; ⟨o,ho,hc⟩
theorem IsRevT.at {h h':Heap} {a l:Addr} {i:Int} (x:IsRevT h a l i) (e:∀ o,h.get? a=some o->h'.get? a=some o):IsRevT h' a l i:=let ⟨o,ho,r⟩:=x; ⟨o,e _ ho,r⟩
theorem xI {l:Addr} {items:Array Value} {Q:Value->Shared->Prop} (hl:IsTup s.heap l items) (hz:items.size<=sizeLine)
    (h:∀ tk,Q (.ref s.heap.objs.size) { s with heap:=s.heap.push { cls:=.type "reversed",data:=.fields #[.ref l,rawInt ((items.size:Int) - 1)] },toks:=tk }) :
    wpAny (model prog w) A (call (.type "reversed") [.ref l]) Q E s:=by
  refine callType_codes (Q₁:=fun obj s₁=>s₁.TypeIs obj "reversed"/\Q obj s₁) called_reversed (F.typeCall_reversed_1 _) F.entry_object_init
    (xZ hl hz fun tk=>⟨⟨_,Heap.get?_push_size _ rfl,rfl⟩,h tk⟩) fun obj s₁ h₁=>?_
  exact ⟨h₁.1,F.args_object_init_2 obj _,object_init_meets called_reversed.init.lookup called_reversed.made (by decide) prog w A.in1 _ s₁ ⟨h₁.1,rfl,h₁.2⟩⟩
theorem wL:Manifest.owners.lookup (String.ofList ['d','e','s','r','e','v','e','r'].reverse)=some Manifest.sig_reversed:=by kernel_rfl
theorem xN (a:Value):argsOk "reversed.__next__" ⟨[a],[]⟩:=by
  unfold argsOk; rw [signature?_of (id:="reversed.__next__") (n:=['_','_','t','x','e','n','_','_']) (o:=['d','e','s','r','e','v','e','r']) (by kernel_rfl) wL]; kernel_rfl
theorem We {it l:Addr} {i:Nat} {items:Array Value} {x:Value} {Q:Option Value->Shared->Prop} (hit:IsRevT s.heap it l (i:Int)) (hl:IsTup s.heap l items) (hz:items.size<=sizeLine) (hx:items[i]?=some x)
    (hQ:∀ h' tk,IsRevT h' it l ((i:Int) - 1)->Heap.SameBut it s.heap h'->Q (some x) { s with heap:=h',toks:=tk }):wpAny (model prog w) A (pyNext (.ref it)) Q E s:=by
  obtain ⟨o,ho,hc,hd⟩:=id hit
  unfold pyNext
  refine wpAny_bind (wpAny_attempt (wpAny_callSpecial?_slot (name:=Str.ofString "__next__") hit.typeIs rev_slot_next
    (wpAny_call_entry rev_slot_next hit.typeIs xy ?_ (xN _))))
  unfold Builtin.«reversed.__next__»
  refine wpAny_bind (wpAny_of_eq (a:=(Value.ref it,[])) rfl ?_)
  try dsimp only
  refine wpAny_bind (wpAny_field ho hd (x:=.ref l) rfl ?_)
  refine wpAny_bind (wpAny_field ho hd (x:=rawInt (i:Int)) rfl ?_)
  show wpAny _ _ (if (i:Int) < 0 then _ else _) _ _ s
  rw [if_neg (by lia)]
  refine wpAny_bind (wpAny_specialOf hl.typeIs slot_tuple_getitem.lookup ?_)
  try dsimp only
  rw [if_neg (by decide)]
  refine wpAny_bind (wpAny_mkInt ?_)
  have hn:=xi
  have hi:i < items.size:=by
    rcases Nat.lt_or_ge i items.size with c | c
    · exact c
    · rw [Array.getElem?_eq_none c] at hx; cases hx
  refine wpAny_bind (wpAny_attempt (getItem_tuple (j:=i) hl (by lia) (by lia) (by unfold seqIndex?; simp; lia) hx ?_))
  try dsimp only
  refine wpAny_bind (wpAny_field ho hd (x:=rawInt (i:Int)) rfl ?_)
  show wpAny _ _ (setField (.ref it) 1 (rawInt ((i:Int) - 1)) >>= fun _=>ret x) _ _ _
  refine wpAny_bind (wpAny_setField ho hd (by simp) ?_)
  first
  | refine wpAny_pure ⟨x,rfl,wpAny_pure (hQ _ _ ?_ (Heap.SameBut.update ..))⟩
  | refine wpAny_bind (wpAny_pure (wpAny_pure ⟨x,rfl,wpAny_pure (hQ _ _ ?_ (Heap.SameBut.update ..))⟩))
  exact ⟨_,Heap.get?_update_self _ ho (Obj.isFreed_of_fields (Obj.data_mapFields hd _)),(Obj.cls_mapFields ..).trans hc,by
    rw [Obj.data_mapFields hd]; simp⟩
theorem Jg {it l:Addr} {Q:Option Value->Shared->Prop} (hh:A.handled=none) (hit:IsRevT s.heap it l (-1))
    (hQ:∀ h',Heap.ExtBut it s.heap h'->Q none { s with heap:=h' }):wpAny (model prog w) A (pyNext (.ref it)) Q E s:=by
  obtain ⟨o,ho,hc,hd⟩:=id hit
  unfold pyNext
  refine wpAny_bind (wpAny_attempt (wpAny_callSpecial?_slot (name:=Str.ofString "__next__") hit.typeIs rev_slot_next
    (wpAny_call_entry rev_slot_next hit.typeIs xy ?_ (xN _))))
  unfold Builtin.«reversed.__next__»
  refine wpAny_bind (wpAny_of_eq (a:=(Value.ref it,[])) rfl ?_)
  try dsimp only
  refine wpAny_bind (wpAny_field ho hd (x:=.ref l) rfl ?_)
  refine wpAny_bind (wpAny_field ho hd (x:=rawInt (-1)) rfl ?_)
  show wpAny _ _ (if (-1:Int) < 0 then _ else _) _ _ s
  rw [if_pos (by decide)]
  refine wpAny_bind (wpAny_rule ?_)
  refine wpAny_bind ?_
  wp_delta
  refine wpAny_bind (wpAny_setField ho hd (by simp) ?_)
  refine wpAny_setField (Heap.get?_update_self _ ho (Obj.isFreed_of_fields (Obj.data_mapFields hd _))) (Obj.data_mapFields hd _) (by simp) ?_
  show wpAny _ _ (Builtin.SmallTypes.stopIteration >>= _) _ _ _
  refine wpAny_bind ?_
  unfold Builtin.SmallTypes.stopIteration
  refine wpAny_bind ?_
  simp only [newExc,newTuple]
  refine wpAny_bind (wpAny_newObj_type ?_ (by size_fits))
  refine wpAny_bind (m:=firstArgMember _ _) (wpAny_of_eq (a:=Value.none) (by first | rfl | (simp only [firstArgMember]; rfl)) ?_)
  refine wpAny_newObj_type ?_ (by size_fits)
  simp only [raiseNew]
  refine wpAny_bind (wpAny_handled ?_)
  first | rw [show A.in1.handled=none from hh] | rw [hh]
  refine wpAny_bind (wpAny_pure (wpAny_throw ?_))
  refine wpAny_bind (wpAny_isInstance (T:="StopIteration") (b:=true) ⟨_,Heap.get?_push_size _ rfl,rfl⟩ isSubtype_stop ?_)
  exact wpAny_pure (hQ _ fun b o hb e=>Heap.get?_push_of_some _ (Heap.get?_push_of_some _ ((Heap.get?_update_other _ _ (Ne.symm hb)).trans ((Heap.get?_update_other _ _ (Ne.symm hb)).trans e))))
theorem xO:Slot "reversed" "__iter__" "reversed.__iter__" :=
  .of (owner:="reversed") (n:="__iter__") (by rw [typeLookup_type,builtinLookup_eq_fast]; kernel_rfl) (by decide +kernel) (by decide +kernel) (by decide +kernel)
    (by first | exact .inl (by decide +kernel) | exact .inr (by decide +kernel)) (by rw [isSubtype_type]; kernel_rfl)
theorem vX (a:Value):argsOk "reversed.__iter__" ⟨[a],[]⟩:=by
  unfold argsOk; rw [signature?_of (id:="reversed.__iter__") (n:=['_','_','r','e','t','i','_','_']) (o:=['d','e','s','r','e','v','e','r']) (by kernel_rfl) wL]; kernel_rfl
theorem vQ:entryFor table "reversed.__iter__"=some Builtin.«dict_keyiterator.__iter__» :=
  entryFor_alias (id':="dict_keyiterator.__iter__") (by kernel_rfl) (by first | rfl | decide +kernel | (unfold String.splitOn; simp +decide [String.splitOnAux])) (by decide +kernel) (by kernel_rfl)
theorem jq {it l:Addr} {i:Int} {Q:Value->Shared->Prop} (hit:IsRevT s.heap it l i) (h:Q (.ref it) s):wpAny (model prog w) A (pyIter (.ref it)) Q E s:=by
  refine wpAny_pyIter_slot hit.typeIs xO (wpAny_call_entry xO hit.typeIs vQ ?_ (vX _))
  show wpAny _ _ (ret (.ref it)) _ _ s
  exact wpAny_pure ⟨_,rfl,"reversed",_,hit.typeIs,rev_slot_next.lookup,h⟩
end
section
variable {X:Cx} {tg:Expr}
end
theorem rev_slot_hint:Slot "reversed" "__length_hint__" "reversed.__length_hint__" :=
  .of (owner:="reversed") (n:="__length_hint__") (by rw [typeLookup_type,builtinLookup_eq_fast]; kernel_rfl) (by decide +kernel) (by decide +kernel) (by decide +kernel)
    (by first | exact .inl (by decide +kernel) | exact .inr (by decide +kernel)) (by rw [isSubtype_type]; kernel_rfl)
theorem vR:entryFor table "reversed.__length_hint__"=some Builtin.«reversed.__length_hint__»:=entryFor_of_tree (by kernel_rfl)
theorem vY (a:Value):argsOk "reversed.__length_hint__" ⟨[a],[]⟩:=by
  unfold argsOk; rw [signature?_of (id:="reversed.__length_hint__") (n:=['_','_','t','n','i','h','_','h','t','g','n','e','l','_','_']) (o:=['d','e','s','r','e','v','e','r']) (by kernel_rfl) wL]; kernel_rfl
theorem Yt:typeLookup (.type "reversed") "__len__"=pure none:=by rw [typeLookup_type,builtinLookup_eq_fast]; kernel_rfl
section
variable {prog:Program} {w:World} {A:Around} {E:Value->Shared->Prop} {s:Shared}
theorem Wf {it l:Addr} {items:Array Value} {Q:Bool->Shared->Prop} (hit:IsRevT s.heap it l ((items.size:Int) - 1)) (hl:IsTup s.heap l items) (hz:items.size<=sizeLine) (h:∀ tk b,Q b { s with toks:=tk }):wpAny (model prog w) A (Builtin.List.listLengthHint (.ref it)) Q E s:=by
  obtain ⟨o,ho,hc,hd⟩:=id hit
  have hn:=xi
  unfold Builtin.List.listLengthHint
  refine wpAny_bind (wpAny_specialOf hit.typeIs Yt ?_)
  show wpAny _ _ (specialOf (Value.ref it) (Str.ofString "__length_hint__") >>= _) _ _ _
  refine wpAny_bind (wpAny_specialOf hit.typeIs rev_slot_hint.lookup ?_)
  generalize hid:("reversed.__length_hint__":String)=id0
  wp_delta
  rw [show splitId id0=some ("reversed","__length_hint__") from by subst hid; decide +kernel]
  subst hid
  refine wpAny_bind (wpAny_isInstance (T:="reversed") (b:=true) hit.typeIs (by rw [isSubtype_type]; kernel_rfl) ?_)
  refine wpAny_ite_split (fun hab=>absurd hab (by decide)) (fun _=>?_)
  refine wpAny_ite_split (fun hab=>absurd hab (by decide +kernel)) (fun _=>?_)
  refine wpAny_bind (wpAny_rule ?_)
  refine wpAny_bind (wpAny_of_eq (rev_slot_hint.bind _) ?_)
  refine wpAny_bind (wpAny_attempt (wpAny_call_entry rev_slot_hint hit.typeIs vR ?_ (vY _)))
  unfold Builtin.«reversed.__length_hint__»
  refine wpAny_bind (wpAny_of_eq (a:=Value.ref it) rfl ?_)
  try dsimp only
  refine wpAny_bind (wpAny_field ho hd (x:=.ref l) rfl ?_)
  rw [if_neg (show ¬ ((Value.ref l == Value.none)=true) from by intro z; cases (eq_of_beq z))]
  refine wpAny_bind (len_tuple hl (by lia) ?_)
  refine wpAny_bind (wpAny_of_eq (a:=some ((items.size:Nat):Int)) (by first | rfl | kernel_rfl) ?_)
  try dsimp only
  refine wpAny_bind (wpAny_field ho hd (x:=rawInt ((items.size:Int) - 1)) rfl ?_)
  show wpAny _ _ (if ((items.size:Nat):Int) < ((items.size:Int) - 1) + 1 then _ else retInt (((items.size:Int) - 1) + 1)) _ _ _
  rw [if_neg (by lia)]
  unfold retInt
  refine wpAny_bind (wpAny_mkInt ?_)
  refine wpAny_pure ⟨_,rfl,?_⟩
  try dsimp only
  refine wpAny_bind (m:=asInt? _) (wpAny_pure ?_)
  try dsimp only
  have en:((items.size:Int) - 1 + 1)=((items.size:Nat):Int):=by lia
  have sl:=sizeLine_eq
  rw [en]
  have hf:Builtin.List.listFitsIndex ((items.size:Nat):Int)=true:=by
    unfold Builtin.List.listFitsIndex
    rw [Bool.and_eq_true]
    exact ⟨decide_eq_true (by lia),decide_eq_true (by lia)⟩
  have ht:Builtin.List.listTooLong (((items.size:Nat):Int).toNat)=false:=by
    unfold Builtin.List.listTooLong
    exact decide_eq_false (by lia)
  have hg:¬ ((items.size:Nat):Int) < 0:=by lia
  simp only [hf,ht,hg,Bool.not_true,Bool.false_eq_true,if_false]
  exact wpAny_pure (h _ _)
theorem Walks.revT (hh:A.handled=none) (I l:Addr) (hne:l≠I) (items:Array Value) (hz:items.size<=sizeLine) :
    Walks prog w A I [I,l] [I] items.size (fun i v=>items[items.size - 1 - i]?=some v) (fun i h=>IsRevT h I l ((items.size:Int) - 1 - (i:Nat))/\IsTup h l items) where
  sub:=fun b hb=>by simp at hb; simp [hb]
  frame:=fun _ _ _ st hk=>⟨st.1.at fun o e=>hk I (by simp) o e,let ⟨o,ho,r⟩:=st.2; ⟨o,hk l (by simp) o ho,r⟩⟩
  item:=fun i s Q E hi st hQ=>by
    obtain ⟨st1,st2⟩:=st
    have e1:(items.size:Int) - 1 - (i:Nat)=((items.size - 1 - i:Nat):Int):=by lia
    rw [e1] at st1
    refine We st1 st2 hz (x:=items[items.size - 1 - i]'(by lia)) (by simp) fun h' tk hit' hs'=>?_
    refine hQ _ h' tk (by simp) ⟨?_,st2.extBut hs'.extBut hne⟩ fun b o hb e=>hs'.extBut b o (fun h=>hb (by simp [h])) e
    have e2:(items.size:Int) - 1 - ((i + 1:Nat):Int)=((items.size - 1 - i:Nat):Int) - 1:=by lia
    rw [e2]
    exact hit'
  done:=fun s Q E st hQ=>by
    obtain ⟨st1,st2⟩:=st
    have e1:(items.size:Int) - 1 - (items.size:Nat)=-1:=by lia
    rw [e1] at st1
    exact Jg hh st1 fun h' he'=>hQ h' s.toks fun b o hb e=>he' b o (fun h=>hb (by simp [h])) e
  self:=fun _ _ _ _ st hQ=>jq st.1 hQ
theorem ZK {R:Result->Shared->Prop} {r l:Addr} {items:Array Value} (hh:A.handled=none) (hr:IsRevT s.heap r l ((items.size:Int) - 1)) (hl:IsTup s.heap l items) (hz:items.size<=sizeLine) (hrl:l≠r) (S:Addr) (hSr:S≠r) (hSl:S≠l) (res:Value) (c₀:Nat) (hS:s.heap.get? S=some { cls:=.type "list",data:=.seq #[] c₀ })
    (hR:∀ h' tk acc' c',(∀ b o,b≠S->b≠r->s.heap.get? b=some o->h'.get? b=some o)->h'.get? S=some { cls:=.type "list",dict:=none,data:=.seq acc' c',slots:=#[] } ->
      ItemsOf (fun i v=>items[items.size - 1 - i]?=some v) acc' items.size->R (.ok (.ret res)) { s with heap:=h',toks:=tk }) :
    wpAny (model prog w) A.in1 (Builtin.List.listExtendWith (.ref S) (.ref r) res)
      (fun fin s'=>match fin with | .done f=>R (.ok f) s' | .again c'=>c'.quiet=true/\codeAny (model prog w) A c' R s') (fun e s'=>R (.error e) s') s:=by
  have hSf:S ∉ [r,l]:=by simp only [List.mem_cons,List.not_mem_nil,or_false,not_or]; exact ⟨hSr,hSl⟩
  have W:=(Walks.revT (prog:=prog) (w:=w) (A:=A.in1) hh r l hrl items hz).toS
  have key:∀ (h:Heap) (c₁ tk:Nat),IsRevT h r l ((items.size:Int) - 1 - ((0:Nat):Int))->IsTup h l items->(∀ b o,b≠S->s.heap.get? b=some o->h.get? b=some o) ->
      h.get? S=some { cls:=.type "list",data:=.seq #[] c₁ }->codeAny (model prog w) A (.builtin "list.extend.loop" ⟨[.ref S,.ref r,res],[]⟩) R { s with heap:=h,toks:=tk }:=by
    intro h c₁ tk hit hlt hk hS₁
    refine codeAny_extend_loopS W hz S hSf res items.size 0 _ #[] c₁ rfl (Nat.zero_le _) ⟨hit,hlt⟩ hS₁ (ItemsOf.nil _) fun s' acc' c' hm hS' hacc=>?_
    rw [Moved.eq_with hm]
    refine hR s'.heap s'.toks acc' c' (fun b o hb hbr e=>hm.heap b o (fun hmem=>?_) (hk b o hb e)) hS' hacc
    rcases List.mem_cons.mp hmem with e' | hmem
    · exact hb e'
    · exact hbr (List.mem_singleton.mp hmem)
  unfold Builtin.List.listExtendWith
  refine wpAny_bind (wpAny_typeOf (T:="reversed") hr.typeIs ?_)
  have h1:Builtin.List.listSameRef (.ref S) (.ref r)=false:=by simp [Builtin.List.listSameRef,hSr]
  have h2:(Value.type "reversed" == Value.type "list")=false:=by decide
  have h3:(Value.type "reversed" == Value.type "tuple")=false:=by decide
  simp only [h1,h2,h3,Bool.or_false,Bool.false_eq_true,if_false]
  refine wpAny_bind (jq hr ?_)
  refine wpAny_bind (wpAny_holding (Wf hr hl hz fun tk b=>?_))
  have e0:(items.size:Int) - 1 - ((0:Nat):Int)=(items.size:Int) - 1:=by lia
  refine wpAny_ite_split (fun _=>?_) (fun _=>wpAny_pure ⟨plainId_quiet PySem.F.plain_extend_loop _,key _ c₀ _ (by rw [e0]; exact hr) hl (fun b o _ e=>e) hS⟩)
  refine wpAny_bind (wpAny_rule ?_)
  refine wpAny_bind ?_
  show wpAny _ _ (updateSeq S (·.push .none) >>= fun _=>updateSeq S (·.pop)) _ _ _
  refine wpAny_bind (wpAny_updateSeq hS rfl ?_)
  have hS₂:=Heap.get?_update_self (Obj.mapSeq (·.push Value.none)) hS rfl
  refine wpAny_updateSeq (hz:=by seq_fits) hS₂ rfl ?_
  have hS₃:=Heap.get?_update_self (Obj.mapSeq (·.pop)) hS₂ rfl
  have oth:∀ b o,b≠S->s.heap.get? b=some o->((s.heap.update S (Obj.mapSeq (·.push Value.none))).update S (Obj.mapSeq (·.pop))).get? b=some o :=
    fun b o hb e=>(Heap.get?_update_other _ _ (Ne.symm hb)).trans ((Heap.get?_update_other _ _ (Ne.symm hb)).trans e)
  refine wpAny_pure ⟨plainId_quiet PySem.F.plain_extend_loop _,key _ _ _ ?_ ?_ oth hS₃⟩
  · rw [e0]
    exact hr.at fun o e=>oth r o (Ne.symm hSr) e
  · obtain ⟨o,ho,r'⟩:=hl
    exact ⟨o,oth l o (Ne.symm hSl) ho,r'⟩
end
section
variable {X:Cx}
end
section
variable {prog:Program} {w:World} {A:Around} {E:Value->Shared->Prop} {s:Shared}
theorem j7 {Q:List Value->Shared->Prop} {r l:Addr} {items:Array Value} (hh:A.handled=none) (hr:IsRevT s.heap r l ((items.size:Int) - 1)) (hl:IsTup s.heap l items) (hz:items.size<=sizeLine) (hrl:l≠r)
    (hQ:∀ (s':Shared) (acc:Array Value),(∀ b o,b≠r->s.heap.get? b=some o->s'.heap.get? b=some o)->s'.gens=s.gens->s'.drawn=s.drawn->s'.os=s.os->s.heap.objs.size<=s'.heap.objs.size->ItemsOf (fun i v=>items[items.size - 1 - i]?=some v) acc items.size->Q acc.toList s') :
    wpAny (model prog w) A (collect (.ref r)) Q E s:=by
  have hr1:r < s.heap.objs.size:=let ⟨_,ho,_⟩:=hr; Heap.lt_size ho
  have hl1:=hl.lt
  unfold collect
  refine wpAny_bind (wpAny_runValue (codeAny_builtin PySem.F.entry_proto_collect ?_))
  rw [Around.under_plainId PySem.F.plain_proto_collect _]
  show wpAny _ A.in1 (newList [] >>= fun l=>again (.builtin "list.__iadd__" ⟨[l,.ref r],[]⟩)) _ _ s
  refine wpAny_bind (wpAny_newObj_type ?_)
  refine wpAny_pure ⟨plainId_quiet PySem.F.plain_list_iadd _,codeAny_builtin PySem.F.entry_list_iadd ?_⟩
  rw [Around.under_plainId PySem.F.plain_list_iadd _]
  show wpAny _ A.in1 (Builtin.List.listExtendWith (.ref s.heap.objs.size) (.ref r) (.ref s.heap.objs.size)) _ _ _
  have hS:(s.heap.push { cls:=.type "list",data:=.seq ([]:List Value).toArray }).get? s.heap.objs.size=some { cls:=.type "list",data:=.seq #[] 0 }:=Heap.get?_push_size _ rfl
  have oth:∀ b o,s.heap.get? b=some o->(s.heap.push { cls:=.type "list",data:=.seq ([]:List Value).toArray }).get? b=some o:=fun b o e=>Heap.get?_push_of_some _ e
  refine wpAny_mono (ZK (A:=A) (R:=fun fl s'=>fl=.ok (.ret (.ref s.heap.objs.size))/\(∀ b o,b≠r->s.heap.get? b=some o->s'.heap.get? b=some o)/\s'.gens=s.gens/\s'.drawn=s.drawn/\s'.os=s.os/\∃ acc c',s'.heap.get? s.heap.objs.size=some { cls:=.type "list",dict:=none,data:=.seq acc c',slots:=#[] }/\ItemsOf (fun i v=>items[items.size - 1 - i]?=some v) acc items.size) (items:=items) (s:={ s with heap:=s.heap.push { cls:=.type "list",data:=.seq ([]:List Value).toArray } }) hh (hr.at fun o e=>oth r o e) (let ⟨o,ho,r'⟩:=hl; ⟨o,oth l o ho,r'⟩) hz hrl _ (Nat.ne_of_gt hr1) (Nat.ne_of_gt hl1) (.ref s.heap.objs.size) _ hS fun h' tk acc' c' hk hS' hacc=>⟨rfl,fun b o hb e=>hk b o (Nat.ne_of_lt (Heap.lt_size e)) hb (oth b o e),rfl,rfl,rfl,acc',c',hS',hacc⟩) (fun fin s' h=>?_) (fun e s' h=>absurd h.1 (by simp))
  have fin':∀ s':Shared,(∀ b o,b≠r->s.heap.get? b=some o->s'.heap.get? b=some o)->s'.gens=s.gens->s'.drawn=s.drawn->s'.os=s.os->(∃ acc c',s'.heap.get? s.heap.objs.size=some { cls:=.type "list",dict:=none,data:=.seq acc c',slots:=#[] }/\ItemsOf (fun i v=>items[items.size - 1 - i]?=some v) acc items.size)->wpAny (model prog w) A (match Value.ref s.heap.objs.size with
      | Value.ref a=>do
        match (<- load a).data with
          | Data.seq xs _=>pure xs.toList
          | _=>unsupported "internal:collect"
      | _=>unsupported "internal:collect") Q E s':=by
    rintro s' h1 h2 h3 h4 ⟨acc,c',hS',hacc⟩
    show wpAny _ A (load s.heap.objs.size >>= _) _ _ _
    refine wpAny_bind (wpAny_load hS' ?_)
    refine wpAny_pure ?_
    exact hQ _ acc h1 h2 h3 h4 (Nat.le_of_lt (Heap.lt_size hS')) hacc
  cases fin with
  | done f =>
    obtain ⟨e,h1,h2,h3,h4,h5⟩:=h
    cases e
    exact fin' s' h1 h2 h3 h4 h5
  | again c'=>exact ⟨h.1,codeAny_mono h.2 fun r s'' hr=>by obtain ⟨rfl,h1,h2,h3,h4,h5⟩:=hr; exact fin' s'' h1 h2 h3 h4 h5⟩
theorem xJ {Q₁:Value->Shared->Prop} {r l:Addr} {items:Array Value} (hh:A.handled=none) (hr:IsRevT s.heap r l ((items.size:Int) - 1)) (hl:IsTup s.heap l items) (hz:items.size<=sizeLine) (hrl:l≠r)
    (h:∀ (s':Shared) (acc:Array Value),(∀ b o,b≠r->s.heap.get? b=some o->s'.heap.get? b=some o)->s'.gens=s.gens->s'.drawn=s.drawn->s'.os=s.os->s.heap.objs.size<=s'.heap.objs.size->ItemsOf (fun i v=>items[items.size - 1 - i]?=some v) acc items.size->Q₁ (.ref s'.heap.objs.size) { s' with heap:=s'.heap.push { cls:=.type "tuple",data:=.seq acc } }) :
    codeAny (model prog w) A (.call (.builtin "tuple.__new__") ⟨[.type "tuple",.ref r],[]⟩) (wants Q₁ E) s:=by
  refine codeAny_of_tree ?_
  show wpAny _ A.in1 (do checkBuiltinCall "tuple.__new__" ⟨[.type "tuple",.ref r],[]⟩; again (.builtin "tuple.__new__" ⟨[.type "tuple",.ref r],[]⟩)) _ _ s
  refine wpAny_bind (wpAny_of_eq (PySem.F.newCall_tuple_1 _) (wpAny_pure ⟨plainId_quiet PySem.F.plain_tuple_new _,codeAny_builtin PySem.F.entry_tuple_new ?_⟩))
  rw [Around.under_plainId PySem.F.plain_tuple_new _]
  have hsub:=sub_tuple_self
  have hinit:=init_tuple_lookup
  have hmh:=madeHere_tuple
  have hTI:=hr.typeIs
  have hh1:A.in1.handled=none:=hh
  wp_walk using wpAny_typeOf hTI,j7 hh1 hr hl hz hrl
  intro s' acc hk hg hd hos hle hacc
  show wpAny _ _ (Builtin.Tuple.tupleExact acc.toList.toArray >>= fun v=>ret v) _ _ _
  unfold Builtin.Tuple.tupleExact
  refine wpAny_bind (wpAny_newObj_type ?_ (by show acc.toList.toArray.size<=sizeLine; simp only [Array.toArray_toList]; rw [hacc.1]; exact hz))
  refine wpAny_pure ?_
  have e:acc.toList.toArray=acc:=by simp
  rw [e]
  exact h s' acc hk hg hd hos hle hacc
theorem wU {Q:Value->Shared->Prop} {r l:Addr} {items:Array Value} (hh:A.handled=none) (hr:IsRevT s.heap r l ((items.size:Int) - 1)) (hl:IsTup s.heap l items) (hz:items.size<=sizeLine) (hrl:l≠r)
    (hQ:∀ (h':Heap) (tk:Nat) (acc:Array Value),(∀ b o,b≠r->s.heap.get? b=some o->h'.get? b=some o)->s.heap.objs.size<=h'.objs.size->ItemsOf (fun i v=>items[items.size - 1 - i]?=some v) acc items.size->Q (.ref h'.objs.size) { s with heap:=h'.push { cls:=.type "tuple",data:=.seq acc },toks:=tk }) :
    wpAny (model prog w) A (call (.type "tuple") [.ref r]) Q E s:=by
  refine callType_codes (Q₁:=fun obj s₁=>s₁.TypeIs obj "tuple"/\Q obj s₁) PySem.F.called_tuple (PySem.F.typeCall_tuple_1 _) PySem.F.entry_object_init
    (xJ hh hr hl hz hrl fun s' acc hk hg hd hos hle hacc=>⟨⟨_,Heap.get?_push_size _ rfl,rfl⟩,?_⟩) fun obj s₁ h₁=>?_
  · obtain ⟨h',g',d',tk',os'⟩:=s'
    have e1:g'=s.gens:=hg
    have e2:d'=s.drawn:=hd
    have e3:os'=s.os:=hos
    subst e1 e2 e3
    exact hQ h' tk' acc hk hle hacc
  · exact ⟨h₁.1,PySem.F.args_object_init_2 obj _,object_init_meets PySem.F.called_tuple.init.lookup PySem.F.called_tuple.made (by decide) prog w A.in1 _ s₁ ⟨h₁.1,rfl,h₁.2⟩⟩
end
section
variable {X:Cx}
def zab (K:PySem.W.Frag) (ta:TA):TE:=fun σ H Q=>ta σ H fun vs H1=>∃ l xs,vs=[.ref l]/\SqT K H1 l xs/\∀ r,H1 r=none->Q (.ref r) (upd H1 r (.tup xs.reverse))
theorem Qx {a:Expr} {ta:TA} {p p2 pos pos2:Pos} (hc:X.calm=true) (hg1:Gl X "tuple") (hm1:X.mg "tuple"=none) (hg:Gl X "reversed") (hm:X.mg "reversed"=none) (ha:PA X [a] ta) (hs:zt a=false) :
    PE X (.Call (.Name "tuple" p) [.Call (.Name "reversed" p2) [a] [] pos2] [] pos) (zab X.K ta):=by
  intro pins s σ H Q I h
  refine wpAny_Call_Name_kw (xh I hg1 hm1 boot_tuple ?_ (by decide) (by decide))
  refine PyProof.Rows.callWith_type1 ?_ (zy rfl) (yk rfl)
  rw [zy rfl]
  show wpAny _ _ (spliced ((false,eval _ X.env) :: backTo pos (starEach [] X.env))) _ _ s
  refine Calls.spliced_cons ?_
  refine Call_ (xh I hg hm boot_reversed (PyProof.Rows.callWith_type1 (thn (ha pos2 pins s σ H _ I h) fun us s1 ⟨vs,H1,I1,r1,q1⟩=>?_) (zy hs) rfl))
  obtain ⟨l,xs,e,hq,q⟩:=q1
  subst e
  obtain ⟨u,rfl,rx⟩:=xj r1
  cases rx
  obtain ⟨its,rv,pl,hz⟩:=I1.tuple hq
  have hl:=rv.length
  refine xI pl (by rw [List.size_toArray]; lia) fun tk=>?_
  have hr:IsRevT (s1.heap.push { cls:=.type "reversed",data:=.fields #[.ref l,rawInt ((its.toArray.size:Int) - 1)] }) s1.heap.objs.size l ((its.toArray.size:Int) - 1):=⟨_,Heap.get?_push_size _ rfl,rfl,rfl⟩
  have pl1:=pl.push { cls:=.type "reversed",data:=.fields #[.ref l,rawInt ((its.toArray.size:Int) - 1)] }
  refine Calls.spliced_nil ?_
  refine wU (s:={ s1 with heap:=s1.heap.push { cls:=.type "reversed",data:=.fields #[.ref l,rawInt ((its.toArray.size:Int) - 1)] },toks:=tk }) (I1.ok.hd hc) hr pl1 (by rw [List.size_toArray]; lia) (Nat.ne_of_lt pl.lt) fun h' tk' acc hk hle hacc=>?_
  have hsz:(s1.heap.push { cls:=.type "reversed",data:=.fields #[.ref l,rawInt ((its.toArray.size:Int) - 1)] }).objs.size=s1.heap.objs.size + 1:=by simp [Heap.push]
  have hle':s1.heap.objs.size + 1<=h'.objs.size:=by rw [<- hsz]; exact hle
  obtain ⟨a1,a2⟩:=hacc
  have al:acc.toList.length=acc.size:=Array.length_toList
  have a1':acc.size=its.length:=a1
  rw [List.size_toArray] at a2
  have kp:∀ b o,s1.heap.get? b=some o->h'.get? b=some o:=fun b o e=>hk b o (Nat.ne_of_lt (Heap.lt_size e)) (Heap.get?_push_of_some _ e)
  have I2:Inv X pins σ H1 { s1 with heap:=h',toks:=tk' }:=I1.kept (t':=tk') kp
  have va:Vals xs.reverse acc.toList:=by
    refine vA (by rw [List.length_reverse,al]; lia) fun j x v h1 h2=>?_
    have hj:j < xs.length:=by
      have:=(List.getElem?_eq_some_iff.mp h1).1
      rwa [List.length_reverse] at this
    have e2:=a2 j v (by rw [<- Array.getElem?_toList]; exact h2)
    rw [List.getElem?_reverse hj] at h1
    obtain ⟨u,hu,ru⟩:=rv.get h1
    rw [List.getElem?_toArray,show its.length - 1 - j=xs.length - 1 - j by lia,hu] at e2
    cases e2
    exact ru
  have I3:Inv X pins σ (upd H1 h'.objs.size (.tup xs.reverse)) { s1 with heap:=h'.push { cls:=.type "tuple",data:=.seq acc },toks:=tk' } :=
    I2.laid (t':=tk') (fun b o e=>Heap.get?_push_of_some _ e) (Nat.le_refl _) (show ObjOk X.prog X.w _ _ _ (.tup xs.reverse) from ⟨by rw [List.length_reverse]; exact hz,acc.toList,va,by rw [Array.toArray_toList]; exact IsTupN.new _ _⟩)
  exact ⟨.ref h'.objs.size,_,I3,rfl,q _ (I2.hok.fresh (Nat.le_refl _))⟩
theorem Qy {a:Expr} {ta:TA} {p p2 pos pos2:Pos} (hc:X.calm=true) (hg1:Gl X "tuple") (hm1:X.mg "tuple"=none) (hg:Gl X "reversed") (hm:X.mg "reversed"=none) (ha:jA X [a] ta) (hs:zt a=false:=by rfl) :
    jE X (.Call (.Name "tuple" p) [.Call (.Name "reversed" p2) [a] [] pos2] [] pos) (zab X.K ta):=⟨Qx hc hg1 hm1 hg hm ha.out hs⟩
def BG:Nat:=2 ^ 1000
theorem Qz:jCa X (.type "int") (fun xs H Q=>(∃ i,xs=[.int i]/\Q (.int i) H)\/∃ k,xs=[.bl k]/\Q (.int (if k then 1 else 0)) H):=⟨Xt⟩
end
section
variable {X:Cx} {Ch:Addr} {x n z:Str} {i j k:Nat} {np hpos tpos pz spos:Pos} {b0:Stmt} {suite:List Stmt} {th:Addr->Obj->TS} {ps:List Str} {sp:Sp} {y:Str} {p cpos:Pos} {a:Expr} {as:List Expr} {t:TA}
end
def zac:R2:=fun x y H Q=>∃ b c,x=.bl b/\y=.bl c/\Q (.bl (!decide (b=c))) H
theorem QA {X:Cx}:OpR X (compareOp .IsNot) zac:=by
  intro pins s σ H x y v u Q I rx ry h
  obtain ⟨b,c,rfl,rfl,q⟩:=h
  cases rx
  cases ry
  refine wpAny_isNot_plain rfl ⟨.bl (!decide (b=c)),H,I,?_,q⟩
  cases b <;> cases c <;> rfl
theorem us8 {p:List Value->Prop} (h:∀ a b c d e f g i,p [a,b,c,d,e,f,g,i]):∀ us:List Value,us.length=8->p us:=usS fun a=>us7 (p:=fun l=>p (a :: l)) (h a)
theorem QB {X:Cx}:jOp X (compareOp .IsNot) zac:=⟨QA⟩
end L2
namespace GN
open PySem L2 K11
theorem Jh {α:Type} {l:List (Str × α)} (h:(l.map (·.1)).Nodup) (x:Str):look l.reverse x=look l x:=by
  have aux:∀ {l:List (Str × α)} {a:α},(l.map (·.1)).Nodup->(x,a)∈l->look l x=some a:=by
    intro l a hn hm
    cases e:look l x with
    | none =>
      exfalso
      unfold look at e
      rw [Option.map_eq_none_iff,List.find?_eq_none] at e
      exact absurd (decide_eq_true rfl) (e _ hm)
    | some b =>
      have hb:=xC e
      induction l with
      | nil=>cases hm
      | cons q l ih =>
        rw [List.map_cons,List.nodup_cons] at hn
        have no:∀ c,(x,c)∈l->q.1≠x:=fun c hc z=>hn.1 (List.mem_map.mpr ⟨_,hc,z.symm⟩)
        rcases List.mem_cons.mp hm with h1 | h1 <;> rcases List.mem_cons.mp hb with h2 | h2
        · rw [<- h1] at h2; rw [(Prod.mk.inj h2).2]
        · exact absurd (by rw [<- h1]) (no _ h2)
        · exact absurd (by rw [<- h2]) (no _ h1)
        · unfold look at e
          rw [List.find?_cons,decide_eq_false (no _ h1)] at e
          exact ih hn.2 h1 e h2
  have nr:(l.reverse.map (·.1)).Nodup:=by rw [List.map_reverse]; exact (List.reverse_perm _).nodup_iff.mpr h
  cases e:look l x with
  | some a=>exact aux nr (List.mem_reverse.mpr (xC e))
  | none =>
    cases e2:look l.reverse x with
    | none=>rfl
    | some a=>rw [aux h (List.mem_reverse.mp (xC e2))] at e; cases e
section
variable {ow ow':Ow} (he:∀ g,look ow g=look ow' g)
include he
theorem QC (d:Dd):yM ow d=yM ow' d:=by
  cases d with
  | call g ns=>show (look ow g).getD []=(look ow' g).getD []; rw [he]
  | _=>rfl
theorem zbs {d:Dd} (h:OkD ow d):OkD ow' d:=by
  cases d with
  | call g ns=>obtain ⟨bs,e⟩:=h; exact ⟨bs,by rw [<- he]; exact e⟩
  | fn g ns=>obtain ⟨bs,e⟩:=h; exact ⟨bs,by rw [<- he]; exact e⟩
  | _=>trivial
theorem QD (d:Dd) (m:List Str):xg ow d m=xg ow' d m:=by
  have e:xv ow d=xv ow' d:=by
    cases d with
    | call g ns=>show ((ns.zip ((look ow g).getD [])).filter (·.2)).map (·.1)=_; rw [he]; rfl
    | _=>rfl
  unfold xg
  rw [e]
mutual
theorem wQ:∀ {b:Bd} {l:List Str},TwB ow l b->TwB ow' l b
  | .give _,_,_=>trivial
  | .lt _ d b,_,h=>⟨⟨h.1.1,zbs he h.1.2.1,by rw [<- QC he]; exact h.1.2.2⟩,wQ h.2⟩
  | .hold _ _ b,_,h=>wQ (b:=b) h
  | .drop _ b,_,h=>wQ (b:=b) h
  | .loose _ b,_,h=>wQ (b:=b) h
  | .iff _ _ _,_,h=>⟨wQ h.1,wQ h.2⟩
  | .cs _ _,_,h=>⟨h.1,h.2.1,Ji h.2.2⟩
theorem Ji:∀ {as:Arms} {l:List Str},TwA ow l as->TwA ow' l as
  | .nil,_,_=>trivial
  | .cons _ _ _ _ _ _,_,h=>⟨h.1,wQ h.2.1,Ji h.2.2⟩
end
mutual
theorem wR:∀ (b:Bd) (m:List Str),lT ow b m=lT ow' b m
  | .give _,m=>by unfold lT; rfl
  | .lt x d b,m=>by unfold lT; rw [QD he,wR b]
  | .hold _ _ b,m=>by unfold lT; rw [wR b]
  | .drop _ b,m=>by unfold lT; rw [wR b]
  | .loose _ b,m=>by unfold lT; rw [wR b]
  | .iff _ b c,m=>by unfold lT; rw [wR b,wR c]
  | .cs x as,m=>by unfold lT; rw [zad x as]
theorem zad (x:Str):∀ (as:Arms) (m:List Str),lA ow x as m=lA ow' x as m
  | .nil,m=>by unfold lA; rfl
  | .cons _ _ _ _ b r,m=>by unfold lA; rw [wR b,zad x r]
end
end
theorem IsDfs.rev {H:Hp} {ds:List Df} {os:List Addr} (h:IsDfs H ds os):IsDfs H ds.reverse os.reverse:=by
  refine ⟨by rw [List.length_reverse,List.length_reverse,h.1],fun i d o h1 h2=>?_⟩
  have hi:i < ds.length:=by
    have:=(List.getElem?_eq_some_iff.mp h1).1
    rwa [List.length_reverse] at this
  rw [List.getElem?_reverse hi] at h1
  rw [List.getElem?_reverse (by rw [<- h.1]; exact hi),<- h.1] at h2
  exact h.2 _ d o h1 h2
def dueT (ds:List Df):Bool:=ds.all fun d=>lT (owOf ds) d.b d.own
theorem Xk {ds:List Df} (h:∀ d∈ds,DfT (owOf ds) d):ds.all (tD (owOf ds))=dueT ds:=by
  unfold dueT
  rw [Bool.eq_iff_iff,List.all_eq_true,List.all_eq_true]
  exact ⟨fun z d hd=>by rw [<- Q4 (h d hd)]; exact z d hd,fun z d hd=>by rw [Q4 (h d hd)]; exact z d hd⟩
theorem QE {ds:List Df} (hn:(ds.map (·.g)).Nodup) (h:∀ d∈ds,DfT (owOf ds) d):(∀ d∈ds.reverse,DfT (owOf ds.reverse) d)/\dueT ds.reverse=dueT ds:=by
  have e1:(owOf ds).map (·.1)=ds.map (·.g):=by
    unfold owOf
    rw [List.map_map]
    rfl
  have er:owOf ds.reverse=(owOf ds).reverse:=by
    unfold owOf
    rw [List.map_reverse]
  have he:∀ g,look (owOf ds) g=look (owOf ds.reverse) g:=fun g=>by rw [er,Jh (by rw [e1]; exact hn)]
  refine ⟨fun d hd=>?_,?_⟩
  · have z:=h d (List.mem_reverse.mp hd)
    exact ⟨z.len,z.few,z.sz,z.bl,wQ he z.tw⟩
  · unfold dueT
    rw [List.all_reverse]
    congr 1
    funext d
    exact (wR he _ _).symm
theorem Tbs.kp {T1 T2 st B:Addr} {K:PySem.W.Frag} {H H':Hp} (h:Tbs T1 T2 H) (S:Sta K H st B) (k:Kp st H H'):Tbs T1 T2 H':=by
  obtain ⟨a,ns,i,hst,_⟩:=S
  have n:∀ {b:Addr} {u:HO},H b=some u->(∀ xs,u≠.lst xs)->H' b=some u:=fun {b u} e n=>k.k b u (fun z=>by rw [z,hst] at e; exact n _ (Option.some.inj e).symm) e
  exact ⟨h.t1.keep (fun ps e=>n e (by intro _ z; cases z)) fun c q e=>n e (by intro _ z; unfold CodO at z; cases z),h.t2.keep (fun ps e=>n e (by intro _ z; cases z)) fun c q e=>n e (by intro _ z; unfold CodO at z; cases z)⟩
theorem Tbs.lst {T1 T2:Addr} {H H':Hp} (h:Tbs T1 T2 H) (k:KM (MT T1 T2) H H') {b:Addr} {xs:List V} (e:H b=some (.lst xs)):H' b=some (.lst xs):=k b _ (h.noT e (by intro _ z; cases z)) e
structure Le (T1 T2 pc ld:Addr) (ds:List Df) (H:Hp):Prop where
  T:Tbs T1 T2 H
  c:IsCode H ds pc
  d:H ld=some (.lst ((ds.map fun d=>lT (owOf ds) d.b d.own).map V.bl))
theorem Le.km {T1 T2 pc ld:Addr} {ds:List Df} {H H':Hp} (h:Le T1 T2 pc ld ds H) (k:KM (MT T1 T2) H H') (t:Tbs T1 T2 H'):Le T1 T2 pc ld ds H':=⟨t,h.c.keep (h.T.tups k),h.T.lst k h.d⟩
theorem Le.same {T1 T2 pc ld:Addr} {ds:List Df} {H H':Hp} (h:Le T1 T2 pc ld ds H) (s:Same H H'):Le T1 T2 pc ld ds H':=h.km (.of s) (h.T.same s)
theorem Xl (ds:List Df):(ds.map fun d=>lT (owOf ds) d.b d.own).all _root_.id=dueT ds:=by
  rw [List.all_map]
  rfl
section
variable {P:Program} {w:World} {K:PySem.W.Frag} {mg:Str->Option Value} {base:Heap} {f:Addr} {fd:FuncData}
theorem scLawG:FnScope ["_law_script","_law_state","_law_world_here","_law_code_here","_law_owns","_law_one","_law_dues","_law_name_here","_law_params","_law_modes","_law_body_here","_law_turned"] ["_law_script"] (zo sLaw):=.ok
theorem Jj:(["_law_script","_law_state","_law_world_here","_law_code_here","_law_owns","_law_one","_law_dues","_law_name_here","_law_params","_law_modes","_law_body_here","_law_turned","_law_param","_law_own"]:List Str).Nodup:=by decide +kernel
theorem QF {T1 T2:Addr} (F:Fun K "law" "law" sLaw f fd) (GD:Ca P w K mg base CX0 1 "_law_draw" lS2 (yv K)) (GW:Ca P w K mg base CX0 3 "_law_world" ["_law_state"] (ZI K)) (GC:Ca P w K mg base CX0 16 "_law_code" lS12 (ZJ K)) (GL:Ca P w K mg base CX0 161 "_law_tight" lS4 (xx 80)) (GT:Ca P w K mg base CX0 8 "tight" ["code"] (Xe T1 T2)) (GR:Ca P w K mg base CX0 1 "_law_right" lS18 ZC) (m_len:mg "len"=none) (m_int:mg "int"=none) (m_all:mg "all"=none) (m_zip:mg "zip"=none) (m_tuple:mg "tuple"=none) (m_reversed:mg "reversed"=none):FnOk P w K mg base CX0 162 f fd ["_law_script"] (wz K [T2,T1]):=by
  refine F.by scLawG (fun vs H Q E h=>?_) (fun cdv A outer s H vs Q E hr h=>?_)
  · obtain ⟨a,ns,rfl,_⟩:=h
    rfl
  obtain ⟨a,ns,rfl,hS,h63,hTs,q⟩:=h
  have hr1:Room 1 _:=hr.mono (by decide)
  have hr3:Room 3 _:=hr.mono (by decide)
  have hr8:Room 8 _:=hr.mono (by decide)
  have hr16:Room 16 _:=hr.mono (by decide)
  refine ⟨_,
    (zg (sE 1 scLawG.nd (zB (jA2 (jv 0) zj)))
    (zg (sE 2 scLawG.nd (zu zZ (cA GW hr3 (jA1 (jv 1))) (zB (jA1 (z0 zA (cA GD hr1 (jA2 (jv 1) zj)) zj (yq _))))))
    (zg (sE 3 scLawG.nd (cA GC hr16 (jA3 (jv 1) (jv 2) (xX zX (zB (jA2 zj zj)) (zF Qz rfl m_int PyProof.Rows.boot_int (jA1 (z0 jh (jL m_len (xL 2)) zj (yq _))))))))
    (zg (sE 4 scLawG.nd wp)
    (zg (zU PassesOwn.never rfl (yr (xT 3)) (gN 5 scLawG.nd)
      (zi (wY hr1 (jv 4) (xT 5) (xT 5))))
    (zg (sE 6 scLawG.nd (zB zE))
    (zg (zU PassesOwn.never rfl (yr (xT 3)) (xm rfl (zw (gN 7 scLawG.nd) (zw (gN 8 scLawG.nd) (zw (gN 9 scLawG.nd) (zw (gN 10 scLawG.nd) z6)))))
      (zi (yf (yA PySem.F.plainAttrs_list PySem.F.slot_list_append PySem.F.type_list_append zQ (jv 6) (jA1 (cA GL hr (jA3 (jv 10) (zW ["_law_param","_law_own"] rfl (xS rfl m_zip (jA2 (jv 8) (jv 9))) (fun _ _ _ _ _=>(xa K (n:=2) rfl (zw (gN 12 Jj) (zw (gN 13 Jj) z6)))) (fun _ _ _ _ _=>(ya (zS (jv 13)))) (fun _ _ _ _ _=>(jv 12))) (jv 4))))))))
    (zg (zx (xQ (zS (cA GR hr1 (jA2 (cA GT hr8 (jA1 (jv 3))) (yQ (yF rfl) rfl m_all PyProof.Rows.boot_all (jA1 (jv 6)))))))
      (zi (zp yw)) zr)
    (zg (sE 11 scLawG.nd (zv (jA2 (xT 3) (Qy rfl rfl m_tuple rfl m_reversed (jA1 (xT 3))))))
    (zg (zx (jW.pt (xK (xQ (zS (cA GR hr1 (jA2 (cA GT hr8 (jA1 (jv 11))) (yQ (yF rfl) rfl m_all PyProof.Rows.boot_all (jA1 (jv 6))))))) (yP (tN QB (cA GT hr8 (jA1 (zv (jA2 (xT 3) (zv zE))))) yw))))
      (zi (zp yw)) zr)
    (zi (zp (cA GR hr1 (jA2 (cA GT hr8 (jA1 (jv 3))) (yQ (yF rfl) rfl m_all PyProof.Rows.boot_all (jA1 (jv 6))))))))))))))))),?_⟩
  have sl:=zK
  have LM:LIM=4611686018427387904:=rfl
  refine ⟨_,rfl,sN2,fun st h1=>?_⟩
  have S1:Sta K (upd H st (.lst [.ref a,.int ((0:Nat):Int)])) st 0:=by
    refine ⟨a,ns,0,zf,fun e=>?_,(zh h1 _).seq hS,Nat.le_refl _⟩
    rcases hS with (h | ⟨o,h⟩) | h
    · exact absurd e (zn h h1)
    · exact absurd e (zn h h1)
    · exact fun _=>.inr h
  have T1':Tbs T1 T2 (upd H st (.lst [.ref a,.int ((0:Nat):Int)])):=⟨.empty (old h1 (hTs T1 (.tail _ (.head _)))),.empty (old h1 (hTs T2 (.head _)))⟩
  show (tSeq _ _:TS) _ _ (upd H st (.lst [.ref a,.int ((0:Nat):Int)]))
  generalize upd H st (.lst [.ref a,.int ((0:Nat):Int)])=H1 at *
  refine ⟨_,rfl,st,0,rfl,S1,by lia,fun H2 w0 tl dl z b T D ts us k2 S2 ew et eT ed eD ok=>?_⟩
  refine ⟨_,rfl,st,2,_,rfl,S2,by lia,by decide,fun H3 r k3 S3 _ _=>?_⟩
  refine ⟨rfl,sN1,fun l4 g4=>?_⟩
  have w3:=k3.k _ _ (S2.neW ew) ew
  refine ⟨w0,l4,_,_,rfl,rfl,old g4 w3,zf,sN5,fun wl g5=>?_⟩
  generalize hfl:decide (V.int r=V.int 1)=fl at *
  have s5:=(zh g4 (.lst [.bl fl])).new (o:=.lst ([.str z,.bl b,.ref tl,.ref dl] ++ [.bl fl])) g5
  have tp3:=k3.tups S2
  have W5:WlAt (upd (upd H3 l4 (.lst [.bl fl])) wl (.lst ([.str z,.bl b,.ref tl,.ref dl] ++ [.bl fl]))) wl ⟨z,b,T,D,fl⟩:=⟨tl,dl,ts,us,zf,s5 _ _ (k3.k _ _ (S2.neR et) et),eT.keep fun _ _ y=>y.tk (tp3.trans (.of s5)),s5 _ _ (k3.k _ _ (S2.neR ed) ed),eD.keep fun _ _ y=>y.tk (tp3.trans (.of s5))⟩
  have S5:=S3.same s5
  have T5:=((T1'.kp S1 k2).kp S2 k3).same s5
  dsimp only
  generalize upd (upd H3 l4 (.lst [.bl fl])) wl (.lst ([.str z,.bl b,.ref tl,.ref dl] ++ [.bl fl]))=H5 at *
  have G5:Gn K st wl ⟨z,b,T,D,fl⟩ H5 (0 + 50 + 1):=⟨ok fl,W5,S5⟩
  obtain ⟨tl',dl',ts',us',x1,x2,x3,x4,x5⟩:=id W5
  refine ⟨_,rfl,_,rfl,sN2,fun l6 g6=>?_⟩
  have s6:=zh g6 (.lst [.int 3,.int 1])
  have e6:=zf (H:=H5) (a:=l6) (o:=.lst [.int 3,.int 1])
  have G6:=G5.same s6
  have T6:=T5.same s6
  generalize upd H5 l6 (.lst [.int 3,.int 1])=H6 at *
  refine ⟨_,rfl,ixL (s6 _ _ x1) aI2 ⟨_,_,rfl,.inl (SqL.of (s6 _ _ x2)),_,_,rfl,rfl,.inr ⟨_,rfl,?_⟩⟩⟩
  obtain ⟨rm,hrm,rm3⟩:∃ rm:Nat,atI [V.int 3,V.int 1] (if (decide (4 < (((ts'.map V.ref).length:Nat):Int)))=true then 1 else 0)=some (.int ((rm:Nat):Int))/\rm<=3:=by
    cases decide (4 < (((ts'.map V.ref).length:Nat):Int)) with
    | true=>exact ⟨1,rfl,by decide⟩
    | false=>exact ⟨3,rfl,by decide⟩
  refine ⟨l6,_,_,_,rfl,rfl,SqL.of e6,hrm,?_⟩
  refine ⟨st,wl,_,_,rm,rfl,G6,rm3,by lia,fun H7 pc ds k7 S7 ic eo hG=>?_⟩
  have T7:=T6.kp G6.s k7
  have hn:(ds.map (·.g)).Nodup:=by
    have e1:ds.map (·.g)=D.map (·.1):=by
      have:=congrArg (List.map (·.1)) eo
      unfold owOf at this
      rw [List.map_map] at this
      exact this
    rw [e1]
    exact (ok fl).Dd
  have dl3:ds.length=3:=by
    have:=congrArg List.length eo
    unfold owOf at this
    rw [List.length_map] at this
    exact this.trans (ok fl).Dn
  have hG':∀ d∈ds,DfH (owOf ds) d:=by rw [eo]; exact hG
  clear hG eo
  obtain ⟨v7,pd,os,h7,h8,h9⟩:=id ic
  refine fun od hod=>?_
  have s8:=zh hod (.dK [])
  have d8:=zf (H:=H7) (a:=od) (o:=.dK [])
  dsimp only
  generalize upd H7 od (.dK [])=H8 at *
  refine ⟨_,rfl,ixT (s8 _ _ h7) aI1 ⟨pd,rfl,⟨_,SqT.of (s8 _ _ h8)⟩,yK (xs:=os.map V.ref) (fun i σ H'=>∃ (L:List (Str × (List Bool × Addr))) (y:Option V),σ=[some (.ref a),some (.ref st),some (.ref wl),some (.ref pc),some (.ref od),y,none,none,none,none,none,none]/\Same H7 H'/\H' od=some (.dK (em (fun q=>V.ref q.2) L))/\L.map (fun x=>(x.1,x.2.1))=owOf (ds.take i)/\∀ x∈L,H7 x.2.2=some (.tup (x.2.1.map V.bl))) ⟨[],none,rfl,s8,d8,rfl,fun x hx=>by cases hx⟩ (fun i σ H' _ h=>?_) ?_ ?_⟩⟩
  · obtain ⟨_,_,_,k,_⟩:=h
    exact SqT.of (k _ _ h8)
  · rintro i v σ H2 hv ⟨L,y,rfl,s2,d2,eL,hL⟩
    rw [List.getElem?_map] at hv
    obtain ⟨o,ho,rfl⟩:=Option.map_eq_some_iff.mp hv
    have hi:i < ds.length:=by rw [h9.1]; exact (List.getElem?_eq_some_iff.mp ho).1
    obtain ⟨d,hd⟩:∃ d,ds[i]?=some d:=⟨_,List.getElem?_eq_getElem hi⟩
    obtain ⟨pp,po,pb,g1,g2,g3,g4⟩:=h9.2 i d o hd ho
    have tn:ds.take (i + 1)=ds.take i ++ [d]:=by rw [List.take_succ,hd]; rfl
    have ll:L.length=i:=by
      have:=congrArg List.length eL
      unfold owOf at this
      rw [List.length_map,List.length_map,List.length_take] at this
      lia
    have no:look L d.g=none:=by
      refine YQ fun hm=>?_
      have e:L.map (·.1)=(ds.take i).map (·.g):=by
        have:=congrArg (fun l=>l.map (·.1)) eL
        unfold owOf at this
        simp only [List.map_map] at this
        exact this
      rw [e] at hm
      rw [<- List.take_append_drop (i + 1) ds,List.map_append,tn,List.map_append,List.nodup_append,List.nodup_append] at hn
      exact hn.1.2.2 _ hm _ (by simp) rfl
    refine ⟨_,rfl,ixT (s2 _ _ g1) aI2 ⟨_,rfl,_,rfl,ixT (s2 _ _ g1) aI0 ⟨od,_,rfl,DPut.k (k:=.inr d.g) d2 (by rw [Vo]; lia),?_⟩⟩⟩
    have ep:=YN (fun q:List Bool × Addr=>V.ref q.2) (a:=(d.os,po)) no
    refine ⟨L ++ [(d.g,(d.os,po))],_,rfl,s2.put hod,by rw [zf]; exact congrArg (fun z=>some (HO.dK z)) ep,?_,fun x hx=>?_⟩
    · rw [List.map_append,eL,tn]
      unfold owOf
      rw [List.map_append]
      rfl
    · rcases List.mem_append.mp hx with z | z
      · exact hL x z
      · rw [List.mem_singleton.mp z]
        exact g3
  rintro σ H9 ⟨L,y,rfl,s9,d9,eL,hL⟩
  rw [List.length_map,<- h9.1,List.take_of_length_le (Nat.le_refl _)] at eL
  have hO:OwAt H9 od (owOf ds):=⟨_,d9,fun g bs hb=>by
    rw [<- eL,vC (fun q:List Bool × Addr=>q.1)] at hb
    obtain ⟨a,ha,rfl⟩:=Option.map_eq_some_iff.mp hb
    exact ⟨a.2,by rw [w9,ha]; rfl,s9 _ _ (hL _ (xC ha))⟩⟩
  clear hL eL d9 d8 s8
  have ic9:=ic.keep (.of s9)
  have T9:=T7.same s9
  refine ⟨sN0,fun ld gl=>?_⟩
  have s10:=zh gl (.lst [])
  have e10:=zf (H:=H9) (a:=ld) (o:=.lst [])
  have T10:=T9.same s10
  have s710:=s9.trans s10
  have O10:=hO.same s10
  dsimp only
  generalize upd H9 ld (.lst [])=H10 at *
  refine ⟨_,rfl,ixT (s710 _ _ h7) aI1 ⟨pd,rfl,⟨_,SqT.of (s710 _ _ h8)⟩,yK (xs:=os.map V.ref) (fun i σ H'=>∃ (y7 y8 y9 y10:Option V),σ=[some (.ref a),some (.ref st),some (.ref wl),some (.ref pc),some (.ref od),y,some (.ref ld),y7,y8,y9,y10,none]/\Same H9 H'/\H' ld=some (.lst (((ds.take i).map fun d=>lT (owOf ds) d.b d.own).map V.bl))) ⟨none,none,none,none,rfl,s10,e10⟩ (fun i σ H' _ h=>?_) ?_ ?_⟩⟩
  · obtain ⟨_,_,_,_,_,k,_⟩:=h
    exact SqT.of (k _ _ (s9 _ _ h8))
  · rintro i v σ H11 hv ⟨y7,y8,y9,y10,rfl,s11,e11⟩
    rw [List.getElem?_map] at hv
    obtain ⟨o,ho,rfl⟩:=Option.map_eq_some_iff.mp hv
    have hi:i < ds.length:=by rw [h9.1]; exact (List.getElem?_eq_some_iff.mp ho).1
    obtain ⟨df,hd⟩:∃ d,ds[i]?=some d:=⟨_,List.getElem?_eq_getElem hi⟩
    have hdf:=hG' df (List.mem_of_getElem? hd)
    obtain ⟨pp,po,pb,g1,g2,g3,g4⟩:=(h9.2 i df o hd ho).keep (.of (s9.trans s11))
    have k1:=hdf.few
    have k2:=hdf.t.bl
    refine ⟨o,_,rfl,SqT.of g1,rfl,_,_,rfl,_,_,rfl,_,_,rfl,_,_,rfl,rfl,?_⟩
    refine ⟨_,rfl,.inl ⟨rfl,_,SqL.of e11⟩,_,rfl,_,rfl,_,rfl,pp,po,false,false,_,_,rfl,SqK.t g2,SqK.t g3,wI (k:=false) (m:=false) (xs:=df.ps.map V.str) (ys:=df.os.map V.bl) (by rw [List.length_map,List.length_map,hdf.t.len]) (fun i τ zs H'=>Same H11 H'/\(∃ u u',τ=[some (.ref a),some (.ref st),some (.ref wl),some (.ref pc),some (.ref od),y,some (.ref ld),some (.str df.g),some (.ref pp),some (.ref po),some (.ref pb),none,u,u'])/\∃ us:List Str,zs=us.map V.str/\us.length<=i/\us=((((df.ps.zip df.os).take i).filter (·.2)).map (·.1))) ⟨Same.refl _,⟨none,none,rfl⟩,[],rfl,Nat.le_refl _,rfl⟩ (fun i τ zs H' _ h=>⟨SqK.t (h.1 _ _ g2),SqK.t (h.1 _ _ g3)⟩) ?_ ?_⟩
    · rintro i x y T τ zs H' hx hy hT' ⟨s7,⟨y1,y2,rfl⟩,us,rfl,ul,he⟩
      rw [List.getElem?_map] at hx hy
      obtain ⟨n,hn',rfl⟩:=Option.map_eq_some_iff.mp hx
      obtain ⟨b,hb',rfl⟩:=Option.map_eq_some_iff.mp hy
      have hi:i < df.ps.length:=(List.getElem?_eq_some_iff.mp hn').1
      have hz:(df.ps.zip df.os)[i]?=some (n,b):=List.getElem?_zip_eq_some.mpr ⟨hn',hb'⟩
      have tk:(df.ps.zip df.os).take (i + 1)=(df.ps.zip df.os).take i ++ [(n,b)]:=by rw [List.take_add_one,hz]; rfl
      rw [tk,List.filter_append,List.map_append,<- he]
      cases b with
      | false=>exact ⟨T,_,rfl,SqT.of zf,rfl,_,_,rfl,_,_,rfl,rfl,_,rfl,_,rfl,iteF ⟨s7.new hT',⟨_,_,rfl⟩,us,rfl,by lia,by simp⟩⟩
      | true=>exact ⟨T,_,rfl,SqT.of zf,rfl,_,_,rfl,_,_,rfl,rfl,_,rfl,_,rfl,iteT ⟨_,rfl,by rw [List.length_map]; lia,s7.new hT',⟨_,_,rfl⟩,us ++ [n],by rw [List.map_append]; rfl,by rw [List.length_append]; show us.length + 1<=_; lia,by simp⟩⟩
    rintro τ zs H12 ⟨s12,_,us,rfl,ul,he⟩ l3 f3
    have lz:=hdf.t.len
    rw [List.length_map] at ul
    rw [List.length_map,List.take_of_length_le (by rw [List.length_zip]; lia)] at he
    subst he
    have s13:=s12.new (o:=.lst (df.own.map V.str)) f3
    have lo:df.own.length<=3:=by show (((df.ps.zip df.os).filter (·.2)).map (·.1)).length<=3; lia
    refine ⟨_,rfl,pb,l3,od,df.b,df.own,df.ps,owOf ds,rfl,g4.keep (.of s13),zf,hdf.t.tw,(hO.same s11).same s13,hdf.dp,by lia,fun H14 s14=>?_⟩
    have s1114:=s13.trans s14
    refine ⟨ld,_,_,rfl,rfl,s1114 _ _ e11,by rw [List.length_map,List.length_map,List.length_take]; lia,_,_,_,_,rfl,(s11.trans s1114).put gl,?_⟩
    rw [zf,List.take_add_one,hd]
    simp
  rintro σ H11 ⟨y7,y8,y9,y10,rfl,s11,e11⟩
  rw [List.length_map,<- h9.1,List.take_of_length_le (Nat.le_refl _)] at e11
  have L11:Le T1 T2 pc ld ds H11:=⟨T9.same s11,ic9.keep (.of s11),e11⟩
  clear e11 s11 O10 hO T9 T10 s710 e10 s10
  have hT:∀ d∈ds,DfT (owOf ds) d:=fun d hd=>(hG' d hd).t
  have q1:(ds.all (tD (owOf ds)) == (ds.map fun d=>lT (owOf ds) d.b d.own).all _root_.id)=true:=by rw [Xk hT,Xl]; exact beq_self_eq_true _
  refine ⟨_,rfl,pc,ds,rfl,L11.c,hn,by lia,hT,L11.T,fun H12 k12 T12=>?_⟩
  have L12:=L11.km k12 T12
  refine ⟨_,rfl,ld,_,rfl,SqL.of L12.d,_,_,rfl,_,rfl,?_⟩
  rw [q1]
  refine iteF (nxtC ?_)
  obtain ⟨v12,pd12,os12,c1,c2,c3⟩:=id L12.c
  dsimp only
  refine ⟨_,rfl,ixT c1 aI0 ⟨_,rfl,ixT c1 aI1 ⟨pd12,_,rfl,SqT.of c2,fun pr gr=>⟨sN2,fun pt gt=>?_⟩⟩⟩⟩
  have s13:=(zh gr (.tup (os12.map V.ref).reverse)).new (o:=.tup [v12,.ref pr]) gt
  have L13:=L12.same s13
  have ct:IsCode (upd (upd H12 pr (.tup (os12.map V.ref).reverse)) pt (.tup [v12,.ref pr])) ds.reverse pt:=⟨v12,pr,os12.reverse,zf,by rw [List.map_reverse]; exact old gt zf,c3.rev.keep (.of s13)⟩
  have c13:=s13 _ _ c1
  dsimp only
  generalize upd (upd H12 pr (.tup (os12.map V.ref).reverse)) pt (.tup [v12,.ref pr])=H13 at *
  obtain ⟨hTr,q2⟩:=QE hn hT
  have q3:(ds.reverse.all (tD (owOf ds.reverse)) == (ds.map fun d=>lT (owOf ds) d.b d.own).all _root_.id)=true:=by rw [Xk hTr,Xl,q2]; exact beq_self_eq_true _
  refine ⟨_,rfl,pt,ds.reverse,rfl,ct,by rw [List.map_reverse]; exact (List.reverse_perm _).nodup_iff.mpr hn,by rw [List.length_reverse]; lia,hTr,L13.T,fun H14 k14 T14=>?_⟩
  have L14:=L13.km k14 T14
  have c14:=L13.T.tups k14 _ _ c13
  refine ⟨_,rfl,ld,_,rfl,SqL.of L14.d,_,_,rfl,_,rfl,?_⟩
  rw [q3]
  refine iteF ?_
  refine ⟨_,rfl,ixT c14 aI0 ⟨sN0,fun pe ge=>⟨sN2,fun pf gf=>?_⟩⟩⟩
  have s15:=(zh ge (.tup [])).new (o:=.tup [v12,.ref pe]) gf
  have L15:=L14.same s15
  have ce:IsCode (upd (upd H14 pe (.tup [])) pf (.tup [v12,.ref pe])) [] pf:=⟨v12,pe,[],zf,old gf zf,rfl,fun i d o h=>by simp at h⟩
  generalize upd (upd H14 pe (.tup [])) pf (.tup [v12,.ref pe])=H15 at *
  refine ⟨pf,[],rfl,ce,.nil,by decide,(fun d hd=>by cases hd),L15.T,fun H16 k16 T16=>?_⟩
  have L16:=L15.km k16 T16
  refine ⟨_,_,rfl,rfl,_,rfl,?_⟩
  refine iteF (nxtC ?_)
  dsimp only
  refine ⟨_,rfl,pc,ds,rfl,L16.c,hn,by lia,hT,L16.T,fun H17 k17 T17=>?_⟩
  have L17:=L16.km k17 T17
  refine ⟨_,rfl,ld,_,rfl,SqL.of L17.d,_,_,rfl,?_⟩
  rw [q1]
  exact q _
end
structure TopK (K:PySem.W.Frag) (cB:Addr):Prop where
  qO:OwnIn K "Begun" cB
  qe:PySem.W.findIn K (.ref cB) "within"=some none
  qf:PySem.W.findIn K (.ref cB) "finish"=some none
  qc:PySem.W.findIn K (.ref cB) "results"=some none
  qP:DcIn K "noted" wH 86
  qi:DcIn K "begun_note" yW 91
  hc1:PySem.W.codeHdIn K 86 82=true
  hc2:PySem.W.codeHdIn K 91 89=true
  qK:DfIn K "ways_on" Vb
  qb:MeIn K cB "__init__" "Begun.__init__" Z7
  qB:DfIn K "only_one" Vc
  qj:DfIn K "worked_out" jN
  qQ:DfIn K "bound" Z8
  qL:DfIn K "bits_of" Vd
  qC:DfIn K "together" sTog
  qD:DfIn K "names_of" vx
  qk:DfIn K "names_used" xV
  qM:DfIn K "used_up" jM
  qN:DfIn K "note_of" jP
  qd:DfIn K "bodies_within" yR
  qE:DfIn K "taken_by" vy
  qF:DfIn K "spent_by" vz
  qg:DfIn K "tight_place" xq
  qh:DfIn K "held_within" xr
  qr:DfIn K "tight_def" wG
  qG:DfIn K "all_owns" Va
  qR:DfIn K "tight" Z6
  qs:DfIn K "_law_draw" Ve
  qt:DfIn K "_law_name" sNm
  qu:DfIn K "_law_stem" Vf
  ql:DfIn K "_law_world" Z9
  qv:DfIn K "_law_some" Vg
  qw:DfIn K "_law_call" Vh
  qx:DfIn K "_law_deed" Ya
  qH:DfIn K "_law_end" sEnd
  qm:DfIn K "_law_begun" Yb
  qI:DfIn K "_law_arm" Vi
  qa:DfIn K "_law_bound_twice" Yc
  qy:DfIn K "_law_body" jQ
  qz:DfIn K "_law_code" Yd
  qn:DfIn K "_law_taken" Ye
  qo:DfIn K "_law_meets" jU
  qA:DfIn K "_law_left" Vj
  qp:DfIn K "_law_tight" wZ
  qq:DfIn K "_law_right" Yf
  qV:DfIn K "law" sLaw
  qW:PySem.W.nsIn K mainGlobals "len"=some none
  qS:PySem.W.nsIn K mainGlobals "range"=some none
  qU:PySem.W.nsIn K mainGlobals "list"=some none
  qT:PySem.W.nsIn K mainGlobals "tuple"=some none
  qX:PySem.W.nsIn K mainGlobals "zip"=some none
  qY:PySem.W.nsIn K mainGlobals "min"=some none
  qZ:PySem.W.nsIn K mainGlobals "all"=some none
  q0:PySem.W.nsIn K mainGlobals "int"=some none
  q1:PySem.W.nsIn K mainGlobals "str"=some none
  qJ:PySem.W.nsIn K mainGlobals "reversed"=some none
theorem top_ok {l:PySem.W.OpenLaw} {w:World} {K:PySem.W.Frag} {h:Heap} {mg:Str->Option Value} {fa cB:Addr} (T:TopK K cB) (X:K.In h) (G:h.Ns mainGlobals mg) (hfa:mg "law"=some (.ref fa)) :
    ∃ fd:FuncData,(∀ (s:Shared) (u:Value),BindsTo s fd ⟨[u],[]⟩ [("_law_script",u)])/\∀ base:Heap,K.In base->base.Ns mainGlobals mg->BMn mg base->FnOk l.prog w K mg base CX0 162 fa fd ["_law_script"] (wz K [89,82]):=by
  refine Jf T.qV X G hfa (fun _ _ _ _ _ _ s v=>.of_eq rfl) fun base fd hBM FL=>?_
  have qW:mg "len"=none:=PySem.W.mg_none_of X G T.qW
  have qS:mg "range"=none:=PySem.W.mg_none_of X G T.qS
  have qU:mg "list"=none:=PySem.W.mg_none_of X G T.qU
  have qT:mg "tuple"=none:=PySem.W.mg_none_of X G T.qT
  have qX:mg "zip"=none:=PySem.W.mg_none_of X G T.qX
  have qY:mg "min"=none:=PySem.W.mg_none_of X G T.qY
  have qZ:mg "all"=none:=PySem.W.mg_none_of X G T.qZ
  have q0:mg "int"=none:=PySem.W.mg_none_of X G T.q0
  have q1:mg "str"=none:=PySem.W.mg_none_of X G T.q1
  have qJ:mg "reversed"=none:=PySem.W.mg_none_of X G T.qJ
  have n_Begun:mg "Begun"=some (.ref cB):=PySem.W.mg_of X G T.qO.n
  have BN:Bn K cB:=⟨T.qO.cls,T.qe,T.qf,T.qc⟩
  have G1:=DfIn.ca (P:=l.prog) (w:=w) (base:=base) X G T.qK (ps:=["body"]) (fun _ _ _ _ _ _=>us1 fun _=>rfl) fun f fd F=>J2 F
  have GB:=T.qb.ma (P:=l.prog) (w:=w) (mg:=mg) (base:=base) (x:="Begun") (ps:=lS15) (fun _ _ _ _ _ _=>us3 fun _ _ _=>rfl) T.qO.mks T.qO.kp n_Begun fun f fd F=>VB F BN
  have GO:=DfIn.ca (P:=l.prog) (w:=w) (base:=base) X G T.qB (ps:=["results"]) (fun _ _ _ _ _ _=>us1 fun _=>rfl) fun f fd F=>q8 F
  obtain ⟨fo,fdo,GO1,GO2,GO3,GO4⟩:=GO.ex
  have GW:=DfIn.ca (P:=l.prog) (w:=w) (base:=base) X G T.qj (ps:=["task","begin"]) (fun _ _ _ _ _ _=>us2 fun _ _=>rfl) fun f fd F=>XI (k:=4) F BN GB GO1 GO2 GO3 GO4 qW (by decide)
  have GBo:=DfIn.ca X G T.qQ (ps:=["one"]) (fun _ _ _ _ _ _=>us1 fun _=>rfl) fun f fd F=>Vs F G1 qW qJ qU
  have GBi:=DfIn.ca (P:=l.prog) (w:=w) (base:=base) X G T.qL (ps:=["names"]) (fun _ _ _ _ _ _=>us1 fun _=>rfl) fun f fd F=>q9 F
  have GT:=DfIn.ca (P:=l.prog) (w:=w) (base:=base) X G T.qC (ps:=lS19) (fun _ _ _ _ _ _=>us2 fun _ _=>rfl) fun f fd F=>zbg F
  have GNo:=DfIn.ca (P:=l.prog) (w:=w) (base:=base) X G T.qD (ps:=["deed"]) (fun _ _ _ _ _ _=>us1 fun _=>rfl) fun f fd F=>Yh F
  have GU:=DfIn.ca X G T.qk (ps:=["body"]) (fun _ _ _ _ _ _=>us1 fun _=>rfl) fun f fd F=>Qa F GNo
  have GUu:=DfIn.ca X G T.qM (ps:=["deed","owns"]) (fun _ _ _ _ _ _=>us2 fun _ _=>rfl) fun f fd F=>XE F GNo qT
  have GNt:=DfIn.ca X G T.qN (ps:=lS11) (fun _ _ _ _ _ _=>us4 fun _ _ _ _=>rfl) fun f fd F=>XM F GT GU qX
  have GBn:=DcIn.ca (P:=l.prog) (w:=w) (base:=base) X G T.qi (ps:=lS13) (fun _ _ _ _ _ us hl=>match us,hl with | [_,_],_=>rfl) fun f fd F=>Yj F hBM T.hc2 G1
  have GNd:=DcIn.ca (P:=l.prog) (w:=w) (base:=base) X G T.qP (ps:=lS13) (fun _ _ _ _ _ us hl=>match us,hl with | [_,_],_=>rfl) fun f fd F=>VO F hBM T.hc1 (by decide) GBn GNt GW
  have GBw:=DfIn.ca X G T.qd (ps:=["body"]) (fun _ _ _ _ _ _=>us1 fun _=>rfl) fun f fd F=>Yk F G1
  have GTk:=DfIn.ca (P:=l.prog) (w:=w) (base:=base) X G T.qE (ps:=["arm","bit"]) (fun _ _ _ _ _ _=>us2 fun _ _=>rfl) fun f fd F=>VP F
  have GSp:=DfIn.ca X G T.qF (ps:=["owns","body"]) (fun _ _ _ _ _ _=>us2 fun _ _=>rfl) fun f fd F=>VQ F GNo GUu qX
  have GTp:=DfIn.ca (P:=l.prog) (w:=w) (base:=base) X G T.qg (ps:=lS17) (fun _ _ _ _ _ _=>us3 fun _ _ _=>rfl) fun f fd F=>XS F
  have GHw:=DfIn.ca X G T.qh (ps:=lS16) (fun _ _ _ _ _ _=>us4 fun _ _ _ _=>rfl) fun f fd F=>Yl F GT GTk GSp G1
  have GTd:=DfIn.ca X G T.qr (ps:=["owns","one"]) (fun _ _ _ _ _ _=>us2 fun _ _=>rfl) fun f fd F=>Ql F GBi GBo GT GNd GTp GHw GBw qX qW
  have GOw:=DfIn.ca (P:=l.prog) (w:=w) (base:=base) X G T.qG (ps:=["code"]) (fun _ _ _ _ _ _=>us1 fun _=>rfl) fun f fd F=>J1 F
  have GTi:=DfIn.ca X G T.qR (ps:=["code"]) (fun _ _ _ _ _ _=>us1 fun _=>rfl) fun f fd F=>VY F GOw GTd qZ
  have LD:=DfIn.ca (P:=l.prog) (w:=w) (base:=base) X G T.qs (ps:=lS2) (fun _ _ _ _ _ _=>us2 fun _ _=>rfl) fun f fd F=>J0 F qW
  have LN:=DfIn.ca (P:=l.prog) (w:=w) (base:=base) X G T.qt (ps:=lS6) (fun _ _ _ _ _ _=>us2 fun _ _=>rfl) fun f fd F=>zbL F
  have LS_:=DfIn.ca X G T.qu (ps:=["_law_state"]) (fun _ _ _ _ _ _=>us1 fun _=>rfl) fun f fd F=>Qv F LD qS
  have LW:=DfIn.ca X G T.ql (ps:=["_law_state"]) (fun _ _ _ _ _ _=>us1 fun _=>rfl) fun f fd F=>Wb F LD LS_ LN qW qS qT qY
  have LSo:=DfIn.ca X G T.qv (ps:=lS8) (fun _ _ _ _ _ _=>us3 fun _ _ _=>rfl) fun f fd F=>Qp F LD qS qW qT
  have LCa:=DfIn.ca X G T.qw (ps:=lS10) (fun _ _ _ _ _ _=>us4 fun _ _ _ _=>rfl) fun f fd F=>V6 F LD LSo qW qU qT
  have LDe:=DfIn.ca X G T.qx (ps:=lS9) (fun _ _ _ _ _ _=>us4 fun _ _ _ _=>rfl) fun f fd F=>V7 F LD LSo LCa qW qZ qY
  have LE:=DfIn.ca X G T.qH (ps:=lS5) (fun _ _ _ _ _ _=>us4 fun _ _ _ _=>rfl) fun f fd F=>Qs F LD LN qW qT
  have LB:∀ n:Nat,Ca l.prog w K mg base CX0 (5 + 3 * n) "_law_body" lS0 (xG K n):=by
    intro n
    induction n with
    | zero=>exact DfIn.ca (P:=l.prog) (w:=w) (base:=base) X G T.qy (ps:=lS0) (fun _ _ _ _ _ _=>us6 fun _ _ _ _ _ _=>rfl) fun f fd F=>X7 F LD LN LE
    | succ n ih =>
      have Lbe:=DfIn.ca (P:=l.prog) (w:=w) (base:=base) X G T.qm (ps:=lS0) (fun _ _ _ _ _ _=>us6 fun _ _ _ _ _ _=>rfl) fun f fd F=>jo F (by lia) ih LD qW qU
      have Ltw:=DfIn.ca (P:=l.prog) (w:=w) (base:=base) X G T.qa (ps:=lS3) (fun _ _ _ _ _ _=>us7 fun _ _ _ _ _ _ _=>rfl) fun f fd F=>X5 F (by lia) ih LD LN
      have Lar:=DfIn.ca (P:=l.prog) (w:=w) (base:=base) X G T.qI (ps:=lS1) (fun _ _ _ _ _ _=>us8 fun _ _ _ _ _ _ _ _=>rfl) fun f fd F=>Qt F (by lia) Lbe LD LN LSo qS qT q1
      exact DfIn.ca (P:=l.prog) (w:=w) (base:=base) X G T.qy (ps:=lS0) (fun _ _ _ _ _ _=>us6 fun _ _ _ _ _ _=>rfl) fun f fd F=>Jb F LD LN LE LDe ih Lbe Ltw Lar qW qU qT
  have LBe:=DfIn.ca (P:=l.prog) (w:=w) (base:=base) X G T.qm (ps:=lS0) (fun _ _ _ _ _ _=>us6 fun _ _ _ _ _ _=>rfl) fun f fd F=>jo (n:=3) F (by decide) (LB 3) LD qW qU
  have LG:=DfIn.ca X G T.qz (ps:=lS12) (fun _ _ _ _ _ _=>us3 fun _ _ _=>rfl) fun f fd F=>Wc (e:=15) (by decide) F LN LBe qW qS qT qX
  have LTa:=DfIn.ca (P:=l.prog) (w:=w) (base:=base) X G T.qn (ps:=["_law_deed_here"]) (fun _ _ _ _ _ _=>us1 fun _=>rfl) fun f fd F=>XZ F qU
  have LMe:∀ n:Nat,Ca l.prog w K mg base CX0 (1 + n) "_law_meets" lS7 (ww n):=by
    intro n
    induction n with
    | zero=>exact DfIn.ca (P:=l.prog) (w:=w) (base:=base) X G T.qo (ps:=lS7) (fun _ _ _ _ _ _=>us2 fun _ _=>rfl) fun f fd F=>X0 F
    | succ n ih=>exact DfIn.ca (P:=l.prog) (w:=w) (base:=base) X G T.qo (ps:=lS7) (fun _ _ _ _ _ _=>us2 fun _ _=>rfl) fun f fd F=>V2 F ih LTa
  have LLe:=DfIn.ca X G T.qA (ps:=lS14) (fun _ _ _ _ _ _=>us3 fun _ _ _=>rfl) fun f fd F=>Qo F LTa qX
  have LTi:∀ n:Nat,n<=80->Ca l.prog w K mg base CX0 (1 + 80 + n) "_law_tight" lS4 (xx n):=by
    intro n
    induction n with
    | zero=>exact fun _=>DfIn.ca (P:=l.prog) (w:=w) (base:=base) X G T.qp (ps:=lS4) (fun _ _ _ _ _ _=>us3 fun _ _ _=>rfl) fun f fd F=>Yp F
    | succ n ih=>exact fun hn=>DfIn.ca (P:=l.prog) (w:=w) (base:=base) X G T.qp (ps:=lS4) (fun _ _ _ _ _ _=>us3 fun _ _ _=>rfl) fun f fd F=>X1 F hn (ih (by lia)) (LMe 80) LLe qU
  have LRi:=DfIn.ca (P:=l.prog) (w:=w) (base:=base) X G T.qq (ps:=lS18) (fun _ _ _ _ _ _=>us2 fun _ _=>rfl) fun f fd F=>X8 F
  exact QF FL LD LW LG (LTi 80 (by decide)) GTi LRi qW q0 qZ qX qT qJ
end GN
namespace PySem.W.Fast
def tw13371297584336768011:=()
def tw15341216098459715782:=()
def tw4134774788054226541:=()
def tw1005738389867187877:=()
def tw720921403504938616:=()
def tw5390245894127297527:=()
def tw11389198367102633440:=()
def tw17346556816441261470:=()
def tw5068332058082154670:=()
def tw10155386417588992575:=()
def tw1474545295669629227:=()
def tw409778859236589506:=()
def tw3867401268553456255:=()
def tw11898237642511682326:=()
def tw287872769208469641:=()
def tw13321717422193015586:=()
def tw3074404503196782838:=()
def tw15961666497576035574:=()
def tw5392723176123903552:=()
def tw2027076530244037750:=()
def tw4381159870252839300:=()
def tw4713008006730972692:=()
def tw9365310267605365665:=()
def tw15552615944246040320:=()
def tw16452337953426086129:=()
def tw8326096657687507345:=()
def tw8319260570537101176:=()
def tw15711708623122176033:=()
def tw1424721206614886833:=()
def tw12917624255781271900:=()
def tw7679082268267254972:=()
def tw2424871972828593663:=()
def tw9624861262814403892:=()
def tw7197574778468230865:=()
def tw11641169357121554688:=()
def tw1923699625037207588:=()
def tw4384962244386055317:=()
def tw4844136429294267229:=()
def tw3618932523800381813:=()
def tw13548118907166904885:=()
def tw11716507402016673887:=()
def tw17073283617546895799:=()
def tw4781918459381463222:=()
def tw7704760438462668658:=()
def tw16828372669167992695:=()
def tw11812393685377940684:=()
def tw4248116741423997711:=()
def tw3685716307679729199:=()
def tw3484712017939348102:=()
def tw8293901697275857987:=()
def tw14686146318838668237:=()
def tw7539276174478392194:=()
def tw11872568870192551843:=()
def tw14646087090272298971:=()
def tw4612830332324532897:=()
def tw13554264639710817171:=()
def tw13512691360899178587:=()
def tw6768731053345445175:=()
def tw1271411806506468005:=()
def tw14039337302803248532:=()
def tw15050134034604096068:=()
def tw4557057888822556886:=()
def tw12575713854446837223:=()
def tw13734413968082188062:=()
def tw13455272645809322777:=()
def tw6103303768523340452:=()
def tw4743009204495178411:=()
def tw14241489829689298553:=()
def tw7562095714338454058:=()
def tw13147292372831510696:=()
def tw9416315411800370996:=()
def tw890074757919351686:=()
def tw18207684414127001417:=()
def tw8907023832308678755:=()
def tw18343580645636917563:=()
def tw6145845651707464902:=()
def tw10076369997400280627:=()
def tw9746930982744028579:=()
def tw6402127552005147168:=()
def tw11409912505421396792:=()
def tw7195796401663417773:=()
def tw12068632603153352542:=()
def tw18039689792793358547:=()
def tw12938801723348402356:=()
def tw4070957102332315096:=()
def tw14132201678605455869:=()
def tw2299625984158580107:=()
def tw4638983630693660420:=()
def tw13304650378826051958:=()
def tw1274953246912732621:=()
def tw5038899432752576084:=()
def tw1533769520205473707:=()
def tw10540024897332895698:=()
def tw11282423554036239071:=()
def tw17890108485805588817:=()
def tw1261868284786452431:=()
def tw14782669068316400717:=()
def tw11848226173014244349:=()
def tw7632192772254212643:=()
def tw6325060028504328933:=()
def tw11821314141978492840:=()
def tw5876482199880751767:=()
def tw13403686245144155746:=()
def tw15802391260664300665:=()
def tw1412725968075726055:=()
def tw5206284123892009217:=()
def tw163517597041719950:=()
def tw3021082895076835998:=()
def tw15290863066275770498:=()
def tw15255909912950964447:=()
def tw5851712273878401171:=()
def tw3860998075857436898:=()
def tw9161780598360252508:=()
def tw18269520118091873093:=()
def tw11509541886452724331:=()
def tw4182238808956914774:=()
def tw1398805730491527320:=()
def tw135823619375215786:=()
def tw5064201969507968877:=()
def tw16904616441574171536:=()
def tw799391948616316066:=()
def tw1024993957162852863:=()
def tw6217521052471024205:=()
def tw1310193718001327950:=()
def tw6078957604164326230:=()
def tw2541428436821942779:=()
def tw270806202112327106:=()
def tw6156427415009174757:=()
def tw12811123965437638958:=()
def tw14051930709044818213:=()
def tw9291362622422450558:=()
def tw17724869770314498263:=()
def tw5785183938919721687:=()
def tw3970366512285887592:=()
def tw8753907582481379926:=()
def tw3850588541292964432:=()
def tw6644896581832943360:=()
def tw380632393504607535:=()
def tw205509423789817735:=()
def tw13259062675754450957:=()
def tw7015028938948027478:=()
def tw11754924468044569608:=()
def tw14301447546673670853:=()
def tw9744843676756547847:=()
def tw9759909386409067152:=()
def tw12558595390164793972:=()
def tw16282137244123413399:=()
def tw13959709816765800508:=()
def tw9679457027922737446:=()
def tw9045799244482265823:=()
def tw12993925785378247076:=()
def tw1340778529302471069:=()
def tw10363084683977145320:=()
def tw13912105335658206527:=()
def tw7758329260630429970:=()
def tw7431046634822249950:=()
def tw12668862159672440147:=()
def tw9139552742260130146:=()
def tw10503083499509439627:=()
def tw3930779759938798359:=()
def tw4016834080059863784:=()
def tw15584617648448989974:=()
def tw12316310170842367820:=()
def tw14843480722436728760:=()
def tw159211246163049608:=()
def tw16050149968050165259:=()
def tw4082867593719682881:=()
def tw7638739474569873103:=()
def tw7795401697226405422:=()
def tw7820830536936353246:=()
def tw176906750029154611:=()
def tw17870336873065634181:=()
def tw9086799627633312793:=()
end PySem.W.Fast
open PySem PySem.W PyProof.Rows
set_option maxRecDepth 100000 in
set_option maxHeartbeats 0 in
theorem PySem.Challenge.cw_reusewise_k66_tight_holds : PySem.Challenge.rw_reusewise_k66_tight.Holds := by
  w_on; o_law; k_head; (case hw=>w_witness2)
  k_fill
  refine L2.walkTs (l:=PySem.Challenge.rw_reusewise_k66_tight) (k:=162) (Ts:=[89,82]) rfl ⟨rfl,by decide,by decide⟩ rfl rfl (fun p T hT=>by
    simp only [List.mem_cons,List.not_mem_nil,or_false] at hT
    rcases hT with rfl | rfl
    · exact ⟨91,rfl⟩
    · exact ⟨86,rfl⟩
    ) (fun p T hT=>by
    simp only [List.mem_cons,List.not_mem_nil,or_false] at hT
    rcases hT with rfl | rfl
    · exact rfl
    · exact rfl
    ) ?F
  case F =>
    intro w mg fa h KX G hm
    refine' GN.top_ok (GN.TopK.mk ?qO ?qe ?qf ?qc ?qP ?qi ?hc1 ?hc2 ?qK ?qb ?qB ?qj ?qQ ?qL ?qC ?qD ?qk ?qM ?qN ?qd ?qE ?qF ?qg ?qh ?qr ?qG ?qR ?qs ?qt ?qu ?ql ?qv ?qw ?qx ?qH ?qm ?qI ?qa ?qy ?qz ?qn ?qo ?qA ?qp ?qq ?qV ?qW ?qS ?qU ?qT ?qX ?qY ?qZ ?q0 ?q1 ?qJ) KX G hm
    (case qO=>(refine' L2.OwnIn.mk ?n ?pg ?hd ?po ?sa ?mks ?kp; (case n=>k_is); (case pg=>k_is); (case hd=>k_is); (case po=>k_is); (case sa=>k_is); (case mks=>k_is); (case kp=>k_is)))
    (case qe | qf | qc | qW | qS | qU | qT | qX | qY | qZ | q0 | q1 | qJ=>k_is)
    (case qP | qi=>(refine' L2.DcIn.mk ?a ?l ?c ?k; (case a=>k_is); (case l=>k_is); (case c=>k_is); (case k=>k_is)))
    (case hc1 | hc2=>(exact rfl))
    (case qK | qB | qj | qQ | qL | qC | qD | qk | qM | qN | qd | qE | qF | qg | qh | qr | qG | qR | qs | qt | qu | ql | qv | qw | qx | qH | qm | qI | qa | qy | qz | qn | qo | qA | qp | qq | qV=>(refine' L2.DfIn.mk ?a ?l ?c ?k; (case a=>k_is); (case l=>k_is); (case c=>k_is); (case k=>k_is)))
    (case qb=>(refine' L2.MeIn.mk ?a ?l ?c ?k ?n; (case a=>k_is); (case l=>k_is); (case c=>k_is); (case k=>k_is); (case n=>k_is)))
#print axioms PySem.Challenge.cw_reusewise_k66_tight_holds
