import PyProof.Rows.All
import Wide.All
import OpenK.AllK
import Wide.FinOn
import Lean
import PyProof.EqAt
import PyProof.EqKinds
import PyProof.TupleCall
import PyProof.PassesOwn
import PyProof.StationsW
import OpenK.KCls
import PyProof.ExcAttrAll.ValueError
import PyProof.ExcClass3
import PyProof.WalksEnum
import PyProof.EnumMake
import PyProof.EnumFor
import PyProof.EnumStmt
import KE.KRevIter
import PyProof.AutoSeq1
import PyProof.FactsAll.list
import PyProof.MeetsStr
import PyProof.StrLawsTight
import PyProof.NeKinds
import PyProof.Rows.SumAny
import PyProof.SeqI3
import PyProof.ZipIter
import PyProof.WalksMore
import PyProof.ListNew
import PyProof.IsRules
import KE.KItemsList
import PyProof.StrBlockL
import PyProof.StrBlockI
import PyProof.StrBlock2
import PyProof.StrLawsIn
import PyProof.StrLawsChain
import PyProof.Rows.StrLast
import PyProof.Rows.StrItems
import KE.IntTextText
import KE.KLam
import KE.KNestM
import PyProof.FactsAll.object_1
import PyProof.CallType
import KE.KIntText
import KE.KDictList
import PyProof.IsiTupleOf
import KE.KDictSum
import PyProof.Rows.SortWalk
import KE.KDictOf
import PyProof.AttrMissHeap
import PyProof.Walks
import PySem.Challenge.RW_reusewise_k36_rows_and_late
set_option Elab.async false
set_option linter.all false
set_option maxRecDepth 100000
set_option maxHeartbeats 4000000
namespace L2
open PySem PySem.Spec PyProof.Rows
abbrev Key:=Sum Int Str
def keyIs:Key->Value->Bool
  | .inl k,v=>Value.isInt k v
  | .inr x,v=>Value.isStrOf x v
def keyH (w:World):Key->Int
  | .inl k=>hashInt k
  | .inr x=>hashStr w x
theorem keyIs_shape:∀ {k:Key} {v:Value},keyIs k v=true->(∃ i t,k=Sum.inl i/\v=Value.int i t)\/(∃ x t,k=Sum.inr x/\v=Value.str x t)
  | .inl i,v,h=>by
    obtain ⟨t,e⟩:=Value.isInt_shape (k:=i) (v:=v) h
    exact .inl ⟨i,t,rfl,e⟩
  | .inr x,v,h=>by
    obtain ⟨t,e⟩:=Value.isStrOf_shape (x:=x) (v:=v) h
    exact .inr ⟨x,t,rfl,e⟩
theorem keyIs_int (i:Int) (t:Tok):keyIs (.inl i) (.int i t)=true:=by simp [keyIs,Value.isInt]
theorem keyIs_str (x:Str) (t:Tok):keyIs (.inr x) (.str x t)=true:=by simp [keyIs,Value.isStrOf]
theorem key_ll (a b:Int):decide ((Sum.inl a:Key)=Sum.inl b)=(a == b):=by
  by_cases e:a=b
  · subst e; simp
  · have h:¬ (Sum.inl a:Key)=Sum.inl b:=fun q=>e (Sum.inl.inj q)
    rw [decide_eq_false h]
    exact (beq_eq_false_iff_ne.mpr e).symm
theorem key_rr (a b:Str):decide ((Sum.inr a:Key)=Sum.inr b)=decide (a=b):=by
  by_cases e:a=b
  · subst e; simp
  · have h:¬ (Sum.inr a:Key)=Sum.inr b:=fun q=>e (Sum.inr.inj q)
    rw [decide_eq_false h,decide_eq_false e]
theorem key_lr (a:Int) (b:Str):decide ((Sum.inl a:Key)=Sum.inr b)=false:=decide_eq_false (fun q=>nomatch q)
theorem key_rl (a:Str) (b:Int):decide ((Sum.inr a:Key)=Sum.inl b)=false:=decide_eq_false (fun q=>nomatch q)
def mixKind (prog:Program) (w:World):PySem.KeyKind prog w Key where
  is:=keyIs
  hash:=keyH w
  inj:=fun v a b ha hb=>by
    rcases keyIs_shape ha with ⟨i,t,rfl,rfl⟩ | ⟨x,t,rfl,rfl⟩
    · rcases keyIs_shape hb with ⟨j,u,rfl,e⟩ | ⟨y,u,rfl,e⟩
      · injection e with e1 _; rw [e1]
      · exact nomatch e
    · rcases keyIs_shape hb with ⟨j,u,rfl,e⟩ | ⟨y,u,rfl,e⟩
      · exact nomatch e
      · injection e with e1 _; rw [e1]
  byValue:=fun k v h=>by
    rcases keyIs_shape h with ⟨i,t,rfl,rfl⟩ | ⟨x,t,rfl,rfl⟩ <;> rfl
  pyHash:=fun hv h=>by
    rcases keyIs_shape hv with ⟨i,t,rfl,rfl⟩ | ⟨x,t,rfl,rfl⟩
    · exact wpAny_pyHash_int h
    · exact wpAny_pyHash_str h
  eqBool:=fun hu hv h=>by
    rcases keyIs_shape hu with ⟨i,t,rfl,rfl⟩ | ⟨x,t,rfl,rfl⟩
    · rcases keyIs_shape hv with ⟨j,u,rfl,rfl⟩ | ⟨y,u,rfl,rfl⟩
      · rw [key_ll] at h; exact wpAny_eqBool_int h
      · rw [key_lr] at h; exact SeqAt.EqAt.int_str i t y u _ _ _ _ h
    · rcases keyIs_shape hv with ⟨j,u,rfl,rfl⟩ | ⟨y,u,rfl,rfl⟩
      · rw [key_rl] at h; exact SeqAt.EqAt.str_int x t j u _ _ _ _ h
      · rw [key_rr] at h; exact wpAny_eqBool_str h
  «strs»:=fun k x t v h=>by
    rcases keyIs_shape h with ⟨i,u,rfl,e⟩ | ⟨y,u,rfl,e⟩
    · exact nomatch e
    · injection e with e1 _
      subst e1
      cases v <;> rfl
theorem mixKind_int (prog:Program) (w:World) (i:Int) (t:Tok):(mixKind prog w).is (.inl i) (.int i t)=true:=keyIs_int i t
theorem mixKind_str (prog:Program) (w:World) (x:Str) (t:Tok):(mixKind prog w).is (.inr x) (.str x t)=true:=keyIs_str x t
end L2
namespace L2
open PySem PySem.Spec PyProof.Rows
inductive V where
  | non | bl (b:Bool) | int (i:Int) | str (x:Str) | byt (b:Array UInt8) | flt (b:UInt64) | ref (a:Addr) | ty (n:String)
  deriving DecidableEq
def RelV:V->Value->Prop
  | .non,u=>u=Value.none
  | .bl b,u=>u=Value.bool b
  | .int i,u=>∃ t,u=Value.int i t
  | .str x,u=>∃ t,u=Value.str x t
  | .byt b,u=>∃ t,u=Value.bytes b t
  | .flt b,u=>∃ t,u=Value.float b t
  | .ref a,u=>u=Value.ref a
  | .ty n,u=>u=Value.type n
abbrev Vals:List V->List Value->Prop:=Paired RelV
theorem Vals.length {xs:List V} {us:List Value} (r:Vals xs us):xs.length=us.length:=Paired.length r
theorem Vals.get:∀ {xs:List V} {us:List Value} {i:Nat} {x:V},Vals xs us->xs[i]?=some x->∃ u,us[i]?=some u/\RelV x u
  | _,_,_,_,.nil,e=>by simp at e
  | _,_,0,_,.cons r _,e=>by simp at e; subst e; exact ⟨_,rfl,r⟩
  | _,_,i + 1,x,.cons _ t,e=>by
    obtain ⟨u,h1,h2⟩:=Vals.get (i:=i) (x:=x) t (by simpa using e)
    exact ⟨u,by simpa using h1,h2⟩
theorem Vals.set {x:V} {u:Value} (r:RelV x u):∀ {xs:List V} {us:List Value} (i:Nat),Vals xs us->Vals (xs.set i x) (us.set i u)
  | _,_,_,.nil=>.nil
  | _,_,0,.cons _ t=>.cons r t
  | _,_,i + 1,.cons q t=>.cons q (Vals.set r i t)
theorem Vals.append:∀ {xs ys:List V} {us ws:List Value},Vals xs us->Vals ys ws->Vals (xs ++ ys) (us ++ ws)
  | _,_,_,_,.nil,s=>s
  | _,_,_,_,.cons r t,s=>.cons r (Vals.append t s)
theorem Vals.take:∀ {xs:List V} {us:List Value} (n:Nat),Vals xs us->Vals (xs.take n) (us.take n)
  | _,_,0,_=>.nil
  | _,_,_ + 1,.nil=>.nil
  | _,_,n + 1,.cons r t=>.cons r (Vals.take n t)
theorem Vals.drop:∀ {xs:List V} {us:List Value} (n:Nat),Vals xs us->Vals (xs.drop n) (us.drop n)
  | _,_,0,r=>r
  | _,_,_ + 1,.nil=>.nil
  | _,_,n + 1,.cons _ t=>Vals.drop n t
theorem Vals.none_of:∀ {xs:List V} {us:List Value} {i:Nat},Vals xs us->xs[i]?=none->us[i]?=none:=fun {xs us i} r e=>by
  have h1:=r.length
  have h2:xs.length<=i:=List.getElem?_eq_none_iff.mp e
  exact List.getElem?_eq_none_iff.mpr (by omega)
def RelO:Option V->Option Value->Prop
  | some v,some u=>RelV v u
  | none,none=>True
  | _,_=>False
def KV {κ:Type}:List (κ × V)->List (κ × Value)->Prop:=Paired fun (p:κ × V) (q:κ × Value)=>p.1=q.1/\RelV p.2 q.2
def kV:Key->V
  | .inl i=>.int i
  | .inr x=>.str x
inductive HO where
  | lst (xs:List V)
  | tup (xs:List V)
  | dK (kvs:List (Key × V)) | dT (kvs:List (List Key × V))
  | set (S:Int->Bool) (n:Nat)
  | ins (C dx:Addr) (fs:List (Str × V))
  | own (x:Addr)
  | xd (fs:List (Str × V))
  | met (f x:Addr)
  | rng (lo hi:Int)
  | frz (o:Obj) (u:HO)
  | tbl (ps:Array Value)
  | ext (φ:Heap->Prop)
abbrev Hp:=Addr->Option HO
def upd (H:Hp) (a:Addr) (o:HO):Hp:=fun b=>if b=a then some o else H b
theorem upd_same {H:Hp} {a:Addr} {o:HO}:upd H a o a=some o:=by unfold upd; rw [if_pos rfl]
theorem upd_ne {H:Hp} {a b:Addr} {o:HO} (h:b≠a):upd H a o b=H b:=by unfold upd; rw [if_neg h]
theorem ne_of {H:Hp} {a b:Addr} {o u:HO} (h:H a=some o) (h':H b=some u) (d:o≠u):a≠b:=by
  intro e; subst e; rw [h] at h'; exact d (Option.some.inj h')
theorem ne_of_none {H:Hp} {a b:Addr} {o:HO} (h:H a=some o) (h':H b=none):a≠b:=by
  intro e; subst e; rw [h] at h'; cases h'
def IsTupN (h:Heap) (a:Addr) (items:Array Value):Prop:=∃ o,h.get? a=some o/\o.cls=.type "tuple"/\o.dict=none/\∃ n,o.data=.seq items n
theorem IsTupN.is {h:Heap} {a:Addr} {items:Array Value} (x:IsTupN h a items):IsTup h a items:=let ⟨o,a,b,_,c⟩:=x; ⟨o,a,b,c⟩
theorem IsTupN.new (h:Heap) (items:Array Value):IsTupN (h.push { cls:=.type "tuple",data:=.seq items }) h.objs.size items:=⟨_,Heap.get?_push_size _ rfl,rfl,rfl,_,rfl⟩
section
variable (P:Program) (w:World)
def ObjOk (H:Hp) (h:Heap) (a:Addr):HO->Prop
  | .lst xs=>xs.length<=sizeLine/\∃ (its:List Value) (n:Nat),Vals xs its/\h.get? a=some { cls:=.type "list",data:=.seq its.toArray n }
  | .tup xs=>xs.length<=sizeLine/\∃ its:List Value,Vals xs its/\IsTupN h a its.toArray
  | .dK kvs=>kvs.length<=sizeLine/\(a == sysModules)=false/\∃ vs,KV kvs vs/\h.DictOf (mixKind P w) a vs
  | .dT kvs=>kvs.length<=sizeLine/\(a == sysModules)=false/\∃ xs:List (List Key × Addr × Value),
      Paired (fun (p:List Key × V) (q:List Key × Addr × Value)=>p.1=q.1/\H q.2.1=some (.tup (p.1.map kV))/\RelV p.2 q.2.2) kvs xs /\
      ∃ o es ep,h.get? a=some o/\o.ExactDict/\o.data=.dict es ep/\es.toList=xs.map (entryOfKey (tupleKind (mixKind P w)))/\(xs.map (·.1)).Nodup
  | .set S n=>h.SetOf (intKind P w) a S n
  | .ins C dx fs=>H dx=some (.own a)/\fs.length<=1000/\dx≠a/\h.get? a=some (PySem.W.instObj C dx) /\
      ∃ mA,h.Ns1 dx mA/\(∀ f,RelO (fs.lookup f) (mA f))/\PySem.Within mA (fs.map (·.1))
  | .own _=>∃ o,h.get? a=some o
  | .xd fs=>∃ mA,h.Ns1 a mA/\∀ f,RelO (fs.lookup f) (mA f)
  | .rng lo hi=>∃ t u v,h.get? a=some { cls:=.type "range",data:=.fields #[.int lo t,.int hi u,.int 1 v] }
  | .frz o u=>h.get? a=some o/\ObjOk H h a u
  | .tbl ps=>h.get? a=some { cls:=.none,data:=.fields ps }
  | .met f x=>h.get? a=some (PySem.W.methodObj (.ref f) (.ref x))
  | .ext φ=>φ h/\(∃ o,h.get? a=some o)/\∀ h1 h2:Heap,φ h1->(∀ o,h1.get? a=some o->h2.get? a=some o)->φ h2
def HOk (H:Hp) (h:Heap):Prop:=∀ a o,H a=some o->ObjOk P w H h a o
end
section
variable {P:Program} {w:World} {H H':Hp} {h h':Heap} {a:Addr} {o:HO}
theorem ObjOk.lt (x:ObjOk P w H h a o):a < h.objs.size:=by
  cases o with
  | lst xs=>obtain ⟨_,_,_,_,e⟩:=x; exact Heap.lt_size e
  | tup xs=>obtain ⟨_,_,_,p⟩:=x; exact p.is.lt
  | dK kvs=>obtain ⟨_,_,_,_,o,_,_,e,_⟩:=x; exact Heap.lt_size e
  | dT kvs=>obtain ⟨_,_,_,_,o,_,_,e,_⟩:=x; exact Heap.lt_size e
  | set S n=>obtain ⟨o,_,_,_,e,_⟩:=x; exact Heap.lt_size e
  | ins C dx fs=>obtain ⟨_,_,_,e,_⟩:=x; exact Heap.lt_size e
  | own y=>obtain ⟨_,e⟩:=x; exact Heap.lt_size e
  | xd fs=>obtain ⟨_,⟨_,_,_,e,_⟩,_⟩:=x; exact Heap.lt_size e
  | rng lo hi=>obtain ⟨_,_,_,e⟩:=x; exact Heap.lt_size e
  | frz ob u=>obtain ⟨e,_⟩:=x; exact Heap.lt_size e
  | tbl ps=>exact Heap.lt_size (show h.get? a=some _ from x)
  | met f y=>exact Heap.lt_size (show h.get? a=some _ from x)
  | ext φ=>obtain ⟨_,⟨_,e⟩,_⟩:=x; exact Heap.lt_size e
theorem Paired.mapP {α β:Type} {F G:α->β->Prop}:∀ {l₁:List α} {l₂:List β},Paired F l₁ l₂->(∀ a b,F a b->G a b)->Paired G l₁ l₂
  | _,_,.nil,_=>.nil
  | _,_,.cons r t,f=>.cons (f _ _ r) (Paired.mapP t f)
theorem ObjOk.stay (x:ObjOk P w H h a o) (k:∀ b u,(b=a\/H b=some (.own a))->h.get? b=some u->h'.get? b=some u)
    (ho:∀ b,H b=some (.own a)->H' b=some (.own a)) (ht:∀ b xs,H b=some (.tup xs)->H' b=some (.tup xs)):ObjOk P w H' h' a o:=by
  induction o with
  | lst xs=>obtain ⟨z,its,n,r,e⟩:=x; exact ⟨z,its,n,r,k _ _ (.inl rfl) e⟩
  | tup xs=>obtain ⟨z,its,r,ob,e,c⟩:=x; exact ⟨z,its,r,ob,k _ _ (.inl rfl) e,c⟩
  | dK kvs=>obtain ⟨z,y,vs,r,ob,es,ep,e,c⟩:=x; exact ⟨z,y,vs,r,ob,es,ep,k _ _ (.inl rfl) e,c⟩
  | dT kvs =>
    obtain ⟨z,y,xs,r,ob,es,ep,e,c⟩:=x
    exact ⟨z,y,xs,Paired.mapP r fun p q z=>⟨z.1,ht _ _ z.2.1,z.2.2⟩,ob,es,ep,k _ _ (.inl rfl) e,c⟩
  | set S n=>obtain ⟨ob,es,ep,t,e,c⟩:=x; exact ⟨ob,es,ep,t,k _ _ (.inl rfl) e,c⟩
  | ins C dx fs =>
    obtain ⟨d,z,ne,e,mA,⟨od,es,ep,e2,c⟩,r⟩:=x
    exact ⟨ho _ d,z,ne,k _ _ (.inl rfl) e,mA,⟨od,es,ep,k _ _ (.inr d) e2,c⟩,r⟩
  | own y=>obtain ⟨ob,e⟩:=x; exact ⟨ob,k _ _ (.inl rfl) e⟩
  | xd fs=>obtain ⟨mA,⟨od,es,ep,e,c⟩,r⟩:=x; exact ⟨mA,⟨od,es,ep,k _ _ (.inl rfl) e,c⟩,r⟩
  | rng lo hi=>obtain ⟨t,u,v,e⟩:=x; exact ⟨t,u,v,k _ _ (.inl rfl) e⟩
  | frz ob u ih=>obtain ⟨e,q⟩:=x; exact ⟨k _ _ (.inl rfl) e,ih q⟩
  | tbl ps =>
    have e:h.get? a=some { cls:=.none,data:=.fields ps }:=x
    show h'.get? a=some { cls:=.none,data:=.fields ps }
    exact k a _ (.inl rfl) e
  | met f y =>
    have e:h.get? a=some (PySem.W.methodObj (.ref f) (.ref y)):=x
    show h'.get? a=some (PySem.W.methodObj (.ref f) (.ref y))
    exact k a _ (.inl rfl) e
  | ext φ=>obtain ⟨p,⟨o,e⟩,st⟩:=x; exact ⟨st _ _ p fun o q=>k _ _ (.inl rfl) q,⟨o,k _ _ (.inl rfl) e⟩,st⟩
theorem HOk.lt (x:HOk P w H h) (e:H a=some o):a < h.objs.size:=(x a o e).lt
theorem HOk.fresh (x:HOk P w H h) (e:h.objs.size<=a):H a=none:=by
  cases q:H a with
  | none=>rfl
  | some u=>exact absurd (Nat.lt_of_lt_of_le (x.lt q) e) (Nat.lt_irrefl _)
theorem HOk.kept (x:HOk P w H h) (k:∀ b u,h.get? b=some u->h'.get? b=some u):HOk P w H h':=fun a o e =>
  (x a o e).stay (fun b u _ q=>k b u q) (fun _ q=>q) fun _ _ q=>q
theorem HOk.laid (x:HOk P w H h) (k:∀ b u,h.get? b=some u->h'.get? b=some u) (hp:h.objs.size<=a) (new:ObjOk P w (upd H a o) h' a o):HOk P w (upd H a o) h':=fun b u e=>by
  have hn:=x.fresh hp
  by_cases hb:b=a
  · subst hb; rw [upd_same] at e; cases e; exact new
  · rw [upd_ne hb] at e
    exact (x b u e).stay (fun c v _ q=>k c v q) (fun c q=>by rw [upd_ne (ne_of_none q hn)]; exact q) fun c xs q=>by rw [upd_ne (ne_of_none q hn)]; exact q
end
def Rd (H:Hp) (a:Addr) (u:HO):Prop:=H a=some u\/∃ o,H a=some (.frz o u)
theorem Rd.of {H:Hp} {a:Addr} {u:HO} (h:H a=some u):Rd H a u:=.inl h
theorem Rd.ok {P:Program} {w:World} {H:Hp} {h:Heap} {a:Addr} {u:HO} (r:Rd H a u) (x:HOk P w H h):ObjOk P w H h a u:=by
  rcases r with r | ⟨o,r⟩
  · exact x a u r
  · obtain ⟨_,q⟩:=x a _ r
    exact q
def Mut:Option HO->Prop
  | some (.lst _)=>True
  | some (.dK _)=>True
  | some (.dT _)=>True
  | some (.set _ _)=>True
  | some (.ins _ _ _)=>True
  | some (.ext _)=>True
  | _=>False
section
variable {P:Program} {w:World} {H:Hp} {h h':Heap} {x e:Addr} {o':HO}
theorem HOk.write (ok:HOk P w H h) (mu:Mut (H x)) (he:e=x\/H e=some (.own x)) (k:∀ b u,b≠e->h.get? b=some u->h'.get? b=some u) (heo:∃ u,h'.get? e=some u)
    (new:ObjOk P w (upd H x o') h' x o'):HOk P w (upd H x o') h':=fun b u q=>by
  have nown:∀ c y,H c=some (.own y)->c≠x:=fun c y r z=>by subst z; rw [r] at mu; exact mu
  have ntup:∀ c xs,H c=some (.tup xs)->c≠x:=fun c xs r z=>by subst z; rw [r] at mu; exact mu
  by_cases hb:b=x
  · subst hb; rw [upd_same] at q; cases q; exact new
  · rw [upd_ne hb] at q
    by_cases hbe:b=e
    · have q':H b=some (.own x):=by
        rcases he with z | z
        · exact absurd (hbe.trans z) hb
        · rw [hbe]; exact z
      rw [q] at q'; cases q'
      obtain ⟨v,hv⟩:=heo
      exact ⟨v,by rw [hbe]; exact hv⟩
    · refine (ok b u q).stay (fun c v hc r=>k c v ?_ r) (fun c r=>by rw [upd_ne (nown c b r)]; exact r) fun c xs r=>by rw [upd_ne (ntup c xs r)]; exact r
      rcases hc with rfl | hc
      · exact hbe
      · rintro rfl
        rcases he with z | z
        · exact nown c b hc z
        · rw [hc] at z; cases z; exact hb rfl
end
structure Un (fs ex:List Addr) (H H':Hp) (h h':Heap):Prop where
  keep:∀ b o,h.get? b=some o->H b=none->b ∉ fs->b ∉ ex->h'.get? b=some o
  slot:∀ b o,h.get? b=some o->H b=none->b∈fs->b ∉ ex->∃ sl,h'.get? b=some { o with slots:=sl }
  free:∀ b o,h.get? b=some o->H b=none->b ∉ ex->H' b=none
  there:∀ b o,h.get? b=some o->b ∉ ex->∃ o',h'.get? b=some o'
  tups:∀ b xs,H b=some (.tup xs)->H' b=some (.tup xs)
  frzs:∀ b o u,H b=some (.frz o u)->H' b=some (.frz o u)
  tbls:∀ b ps,H b=some (.tbl ps)->∃ more,H' b=some (.tbl (ps ++ more))
section
variable {fs fs' ex ex':List Addr} {H H1 H2:Hp} {h h1 h2 h':Heap} {a x e:Addr} {o:HO}
theorem Un.any (u:Un fs ex H H1 h h1) {b:Addr} {ob:Obj} (q:h.get? b=some ob) (n:H b=none) (hx:b ∉ ex):∃ sl,h1.get? b=some { ob with slots:=sl }:=by
  by_cases hb:b∈fs
  · exact u.slot b ob q n hb hx
  · exact ⟨ob.slots,u.keep b ob q n hb hx⟩
theorem Un.trans (a:Un fs ex H H1 h h1) (b:Un fs ex H1 H2 h1 h2):Un fs ex H H2 h h2 where
  keep:=fun c ob q n hc hx=>b.keep c ob (a.keep c ob q n hc hx) (a.free c ob q n hx) hc hx
  slot:=fun c ob q n hc hx=>by
    obtain ⟨sl,e1⟩:=a.slot c ob q n hc hx
    obtain ⟨sl',e2⟩:=b.slot c _ e1 (a.free c ob q n hx) hc hx
    exact ⟨sl',e2⟩
  free:=fun c ob q n hx=>by
    obtain ⟨o',e1⟩:=a.there c ob q hx
    exact b.free c o' e1 (a.free c ob q n hx) hx
  there:=fun c ob q hx=>by
    obtain ⟨o',e1⟩:=a.there c ob q hx
    exact b.there c o' e1 hx
  tups:=fun c xs q=>b.tups c xs (a.tups c xs q)
  frzs:=fun c ob xs q=>b.frzs c ob xs (a.frzs c ob xs q)
  tbls:=fun c ps q=>by
    obtain ⟨m1,e1⟩:=a.tbls c ps q
    obtain ⟨m2,e2⟩:=b.tbls c _ e1
    exact ⟨m1 ++ m2,by rw [e2,Array.append_assoc]⟩
theorem Un.kept (k:∀ b u,h.get? b=some u->h'.get? b=some u):Un fs ex H H h h' :=
  ⟨fun b ob q _ _ _=>k b ob q,fun b ob q _ _ _=>⟨ob.slots,k b ob q⟩,fun _ _ _ n _=>n,fun b ob q _=>⟨ob,k b ob q⟩,fun _ _ q=>q,fun _ _ _ q=>q,fun _ ps q=>⟨#[],by rw [q]; simp⟩⟩
theorem Un.refl:Un fs ex H H h h:=Un.kept fun _ _ q=>q
theorem Un.laid (k:∀ b u,h.get? b=some u->h'.get? b=some u) (hp:h.objs.size<=a) (hn:H a=none):Un fs ex H (upd H a o) h h' where
  keep:=fun b u q _ _ _=>k b u q
  slot:=fun b u q _ _ _=>⟨u.slots,k b u q⟩
  free:=fun b u q n _=>by rw [upd_ne (Nat.ne_of_lt (Nat.lt_of_lt_of_le (Heap.lt_size q) hp))]; exact n
  there:=fun b u q _=>⟨u,k b u q⟩
  tups:=fun b xs q=>by rw [upd_ne (ne_of_none q hn)]; exact q
  frzs:=fun b u xs q=>by rw [upd_ne (ne_of_none q hn)]; exact q
  tbls:=fun b ps q=>⟨#[],by rw [upd_ne (ne_of_none q hn),q]; simp⟩
theorem Un.write (mu:Mut (H x)) (he:e=x\/H e=some (.own x)) (k:∀ b u,b≠e->h.get? b=some u->h'.get? b=some u) (heo:∃ u,h'.get? e=some u):Un fs ex H (upd H x o) h h':=by
  have hx:∀ b,H b=none->b≠x:=fun b n z=>by subst z; rw [n] at mu; exact mu
  have hb:∀ b,H b=none->b≠e:=fun b n z=>by
    subst z
    rcases he with r | r
    · exact hx b n r
    · rw [n] at r; cases r
  have hm:∀ b u,H b=some u->¬ Mut (some u)->b≠x:=fun b u q nm z=>by subst z; rw [q] at mu; exact nm mu
  refine ⟨fun b u q n _ _=>k b u (hb b n) q,fun b u q n _ _=>⟨u.slots,k b u (hb b n) q⟩,fun b u q n _=>by rw [upd_ne (hx b n)]; exact n,fun b u q _=>?_,
    fun b xs q=>by rw [upd_ne (hm b _ q fun z=>z)]; exact q,fun b u xs q=>by rw [upd_ne (hm b _ q fun z=>z)]; exact q,fun b ps q=>⟨#[],by rw [upd_ne (hm b _ q fun z=>z),q]; simp⟩⟩
  by_cases hbe:b=e
  · subst hbe; exact heo
  · exact ⟨u,k b u hbe q⟩
theorem Un.mono (u:Un fs ex H H1 h h1) (hs:∀ b∈fs,b∈fs') (hx:∀ b∈ex,b∈ex'):Un fs' ex' H H1 h h1 :=
  ⟨fun b ob q n hb he=>u.keep b ob q n (fun z=>hb (hs b z)) fun z=>he (hx b z),fun _ _ q n _ he=>u.any q n fun z=>he (hx _ z),fun b ob q n he=>u.free b ob q n fun z=>he (hx b z),fun b ob q he=>u.there b ob q fun z=>he (hx b z),u.tups,u.frzs,u.tbls⟩
end
def trk (h:Heap) (H:Hp):List Addr:=(List.range h.objs.size).filter fun a=>(H a).isSome
def hidT (h:Heap) (H:Hp):Heap:=PySem.W.hideAll h (trk h H)
theorem hidT_size (h:Heap) (H:Hp):(hidT h H).objs.size=h.objs.size:=PySem.W.hideAll_size _ _
theorem hidT_get {h:Heap} {H:Hp} {b:Addr} {o:Obj} (e:h.get? b=some o) (n:H b=none):(hidT h H).get? b=some o :=
  PySem.W.hideAll_get _ e fun hm=>by
    have q:(H b).isSome=true:=(List.mem_filter.mp hm).2
    rw [n] at q; simp at q
theorem of_hidT {h:Heap} {H:Hp} {b:Addr} {o:Obj} (e:(hidT h H).get? b=some o):h.get? b=some o/\H b=none:=by
  have e':h.get? b=some o:=PySem.W.of_hideAll (trk h H) e
  refine ⟨e',?_⟩
  cases q:H b with
  | none=>rfl
  | some x =>
    have hm:b∈trk h H:=List.mem_filter.mpr ⟨List.mem_range.mpr (Heap.lt_size e'),by simp [q]⟩
    have z:(hidT h H).get? b=none:=PySem.W.hideAll_none (trk h H) hm
    rw [z] at e; cases e
def allNews (g h:Heap) (L:Addr):List (Addr × Obj):=(List.range h.objs.size).filterMap fun a=>if a=L\/(g.get? a).isSome=true then none else (h.get? a).map fun o=>(a,o)
def rest (g h:Heap) (L d:Addr):List (Addr × Obj):=(allNews g h L).filter fun p=>decide (p.1≠d)
end L2
namespace L2
open PySem PySem.Spec PyProof.Rows
structure Mod (K:PySem.W.Frag) (mg:Str->Option Value) (base:Heap):Prop where
  kin:K.In base
  glob:base.Ns mainGlobals mg
  blt:∃ mb,base.Ns builtinsNs mb/\∀ x:Str,x≠"__name__"->mb x=bootBuiltins x
  nolimit:base.NoLimit
/-- the context: a def's body (or a comprehension's block) running. base: fixed through the whole law; s₀, H₀: the entry; outer: the frames whose slots others may change (a def's callers); stack: all frames that run;
   ex: iterators that were made ahead of the entry and are walked here (a comprehension's); fn: the names whose cells were made at the entry (a def: all; a comprehension's block: its own); calm: not within an except suite; pn: pins that every state bears; xe: what is wanted of an exception that leaves the code -/
structure Cx where
  prog:Program
  w:World
  K:PySem.W.Frag
  mg:Str->Option Value
  base:Heap
  A:Around
  N:List Str
  s₀:Shared
  H₀:Hp
  env:Env
  outer:List Env
  stack:List Env
  ex:List Addr
  fn:Str->Bool
  calm:Bool
  pn:List (Addr × Obj)
  xe:Value->Shared->Prop
def frs (l:List Env):List Addr:=l.filterMap (·.frame)
abbrev Cx.fs (X:Cx):List Addr:=frs X.outer
def Vis (sc:Scope) (x:Str):Prop:=sc.names.lookup x=some .local\/sc.names.lookup x=some .cell\/sc.names.lookup x=some .free
def Loc (sc:Scope) (x:Str):Prop:=sc.names.lookup x=some .local\/sc.names.lookup x=some .cell
def Look (env:Env) (h:Heap) (m:Str->Option Value) (x:Str) (u:Value):Prop :=
  (env.kindOf x=some .local/\m x=some u)\/((env.kindOf x=some .cell\/env.kindOf x=some .free)/\∃ c,env.cells.lookup x=some c/\h.IsCell c (some u))
structure Cx.Ok (X:Cx):Prop where
  mod:Mod X.K X.mg X.base
  kind:X.env.scope.kind=.function
  glob:X.env.globals=mainGlobals
  blt:X.env.builtins=builtinsNs
  above:X.s₀.heap.objs.size<=X.env.locals
  inj:∀ x y c,X.env.cells.lookup x=some c->X.env.cells.lookup y=some c->x=y
  has:∀ x,(X.env.kindOf x=some .cell\/X.env.kindOf x=some .free)->∃ c,X.env.cells.lookup x=some c
  cab:∀ x c,X.fn x=true->X.env.cells.lookup x=some c->X.s₀.heap.objs.size<=c
  hd:X.calm=true->X.A.handled=none
  frames:X.A.frames=some X.stack
  stk:X.stack=X.outer\/(X.stack=X.env :: X.outer/\X.env.frame=some X.env.locals)
  exf:∀ b∈X.ex,b≠X.env.locals/\∀ x c,X.env.cells.lookup x=some c->c≠b
  bs:∀ b o,X.base.get? b=some o->X.s₀.heap.get? b=some o/\X.H₀ b=none
  bsz:X.base.objs.size<=X.s₀.heap.objs.size
  noex:∀ b o,X.base.get? b=some o->b ∉ X.ex
  exfs:∀ b∈X.ex,b ∉ X.fs
  funs:X.s₀.heap.FunFrames X.base X.outer
  frf:∀ b∈X.fs,X.H₀ b=none
structure Inv (X:Cx) (pins:List (Addr × Obj)) (σ:List (Option V)) (H:Hp) (s:Shared):Prop where
  ok:X.Ok
  os:s.os=X.s₀.os
  bare:AllBare s.gens
  base:Un X.fs X.ex X.H₀ H X.s₀.heap s.heap
  loc:∃ m,s.heap.Ns X.env.locals m/\∀ (i:Nat) (x:Str) (v:V),X.N[i]?=some x->σ[i]?=some (some v)->Vis X.env.scope x->∃ u,RelV v u/\Look X.env s.heap m x u
  cell:∀ x c,X.env.cells.lookup x=some c->∃ v,s.heap.IsCell c v
  free:H X.env.locals=none
  freeC:∀ x c,X.env.cells.lookup x=some c->H c=none
  pin:∀ p∈X.pn ++ pins,s.heap.get? p.1=some p.2/\H p.1=none/\p.1≠X.env.locals/\p.1 ∉ X.fs/\∀ v,p.2.data≠.cell v
  hok:HOk X.prog X.w H s.heap
  len:σ.length=X.N.length
section
variable {X:Cx} {pins:List (Addr × Obj)} {σ:List (Option V)} {H H':Hp} {s:Shared} {h':Heap}
theorem Cx.Ok.nofr (ok:X.Ok) {b:Addr} {o:Obj} (e:X.base.get? b=some o):b ∉ X.fs:=fun hb=>by
  have:=(ok.funs.mem hb).1
  rw [e] at this; cases this
theorem Inv.bs (I:Inv X pins σ H s):∀ b o,X.base.get? b=some o->s.heap.get? b=some o/\H b=none:=fun b o e =>
  ⟨I.base.keep b o (I.ok.bs b o e).1 (I.ok.bs b o e).2 (I.ok.nofr e) (I.ok.noex b o e),I.base.free b o (I.ok.bs b o e).1 (I.ok.bs b o e).2 (I.ok.noex b o e)⟩
theorem Inv.bk (I:Inv X pins σ H s):∀ b o,X.base.get? b=some o->s.heap.get? b=some o:=fun b o e=>(I.bs b o e).1
theorem Inv.mod (I:Inv X pins σ H s):Mod X.K X.mg X.base:=I.ok.mod
theorem Inv.kIn (I:Inv X pins σ H s):X.K.In s.heap:=I.ok.mod.kin.keeps I.bk
theorem Inv.nolimit (I:Inv X pins σ H s):s.heap.NoLimit:=I.ok.mod.nolimit.keeps I.bk
theorem Inv.fr (I:Inv X pins σ H s):∃ m,Fr X.base X.env.locals s.heap m :=
  let ⟨m,hn,_⟩:=I.loc
  ⟨m,hn,I.bk,Nat.le_trans I.ok.bsz I.ok.above⟩
theorem Inv.lt (I:Inv X pins σ H s):X.env.locals < s.heap.objs.size:=let ⟨_,hn,_⟩:=I.loc; hn.lt
theorem Inv.sz (I:Inv X pins σ H s):X.s₀.heap.objs.size<=s.heap.objs.size:=Nat.le_trans I.ok.above (Nat.le_of_lt I.lt)
theorem Inv.nofs (I:Inv X pins σ H s) {a:Addr} (h:s.heap.objs.size<=a):a ∉ X.fs:=fun hb=>by
  obtain ⟨_,o,ho,_⟩:=I.ok.funs.mem hb
  exact absurd (Nat.lt_of_lt_of_le (Heap.lt_size ho) (Nat.le_trans I.sz h)) (Nat.lt_irrefl _)
theorem Inv.cne (I:Inv X pins σ H s):∀ x c,X.env.cells.lookup x=some c->c≠X.env.locals:=fun x c e z=>by
  obtain ⟨v,o,ho,hd⟩:=I.cell x c e
  obtain ⟨m,⟨o',es,ep,ho',hd',_⟩,_⟩:=I.loc
  rw [z,ho'] at ho; cases ho; rw [hd'] at hd; cases hd
theorem Inv.funs (I:Inv X pins σ H s):s.heap.FunFrames X.base X.outer:=by
  have all:∀ (l:List Env),(∀ b∈frs l,b∈X.fs)->X.s₀.heap.FunFrames X.base l->s.heap.FunFrames X.base l:=by
    intro l
    induction l with
    | nil=>intro _ _; trivial
    | cons env r ih =>
      intro hs hl
      obtain ⟨hk,⟨L,o,hf,hn,ho,hd⟩,hr⟩:=hl
      have hL:L∈X.fs:=hs L (by unfold frs; rw [List.filterMap_cons,hf]; exact List.mem_cons_self)
      obtain ⟨sl,e⟩:=I.base.slot L o ho (I.ok.frf L hL) hL fun z=>I.ok.exfs L z hL
      exact ⟨hk,⟨L,_,hf,hn,e,hd⟩,ih (fun b hb=>hs b (by unfold frs; rw [List.filterMap_cons,hf]; exact List.mem_cons_of_mem _ hb)) hr⟩
  exact all X.outer (fun _ hb=>hb) I.ok.funs
theorem Inv.stack (I:Inv X pins σ H s):s.heap.FunFrames X.base X.stack:=by
  rcases I.ok.stk with e | ⟨e,hf⟩
  · rw [e]; exact I.funs
  · rw [e]
    obtain ⟨m,hn,_⟩:=I.loc
    refine .cons (by rw [I.ok.kind]; decide) hf hn ?_ I.funs
    exact Heap.get?_none_of_le (Nat.le_trans I.ok.bsz I.ok.above)
theorem Inv.stkSub (I:Inv X pins σ H s):∀ b∈frs X.stack,b∈X.env.locals :: X.fs:=fun b hb=>by
  rcases I.ok.stk with e | ⟨e,hf⟩
  · rw [e] at hb; exact List.mem_cons_of_mem _ hb
  · rw [e] at hb
    unfold frs at hb
    rw [List.filterMap_cons,hf] at hb
    exact hb
theorem Inv.stkFree (I:Inv X pins σ H s):∀ b∈frs X.stack,H b=none:=fun b hb=>by
  rcases List.mem_cons.mp (I.stkSub b hb) with e | hb
  · rw [e]; exact I.free
  · obtain ⟨_,o,ho,_⟩:=I.ok.funs.mem hb
    exact I.base.free b o ho (I.ok.frf b hb) fun z=>I.ok.exfs b z hb
theorem Inv.step {g':Array GenState} {t':Nat} {d':Drawn} {ch:List Addr} (I:Inv X pins σ H s)
    (hch:∀ b∈ch,(b∈X.ex\/X.s₀.heap.objs.size<=b)/\b≠X.env.locals/\(∀ x c,X.env.cells.lookup x=some c->c≠b)/\∀ p∈X.pn ++ pins,p.1≠b)
    (keep:∀ b o,b≠X.env.locals->b ∉ X.fs->b ∉ ch->s.heap.get? b=some o->H b=none->h'.get? b=some o)
    (slot:∀ b o,b≠X.env.locals->b∈X.fs->b ∉ ch->s.heap.get? b=some o->H b=none->∃ sl,h'.get? b=some { o with slots:=sl }) (free:∀ b o,b ∉ ch->s.heap.get? b=some o->H b=none->H' b=none)
    (there:∀ b o,b ∉ ch->s.heap.get? b=some o->∃ o',h'.get? b=some o')
    (tups:∀ b xs,H b=some (.tup xs)->H' b=some (.tup xs)) (frzs:∀ b o u,H b=some (.frz o u)->H' b=some (.frz o u)) (tbls:∀ b ps,H b=some (.tbl ps)->∃ more,H' b=some (.tbl (ps ++ more)))
    (ns:∀ m,s.heap.Ns X.env.locals m->h'.Ns X.env.locals m) (hok:HOk X.prog X.w H' h') (hg:AllBare g') :
    Inv X pins σ H' { s with heap:=h',gens:=g',drawn:=d',toks:=t' }:=by
  have neL:∀ b o,X.s₀.heap.get? b=some o->b≠X.env.locals:=fun b o e=>Nat.ne_of_lt (Nat.lt_of_lt_of_le (Heap.lt_size e) I.ok.above)
  have neC:∀ b o,X.s₀.heap.get? b=some o->b ∉ X.ex->b ∉ ch:=fun b o e hx hb=>by
    rcases (hch b hb).1 with z | z
    · exact hx z
    · exact absurd (Nat.lt_of_lt_of_le (Heap.lt_size e) z) (Nat.lt_irrefl _)
  have cellK:∀ x c,X.env.cells.lookup x=some c->∀ v,s.heap.IsCell c v->h'.IsCell c v:=fun x c e v ⟨o,ho,hd⟩=>by
    have nch:c ∉ ch:=fun z=>(hch c z).2.2.1 x c e rfl
    by_cases hc:c∈X.fs
    · obtain ⟨sl,q⟩:=slot c o (I.cne x c e) hc nch ho (I.freeC x c e)
      exact ⟨_,q,hd⟩
    · exact ⟨o,keep c o (I.cne x c e) hc nch ho (I.freeC x c e),hd⟩
  refine ⟨I.ok,I.os,hg,⟨fun b o e n hb hx=>?_,fun b o e n hb hx=>?_,fun b o e n hx=>?_,fun b o e hx=>?_,fun b xs e=>tups b xs (I.base.tups b xs e),fun b o xs e=>frzs b o xs (I.base.frzs b o xs e),fun b ps e=>?_⟩,?_,fun x c e=>?_,?_,fun x c e=>?_,fun p hp=>?_,hok,I.len⟩
  · exact keep b o (neL b o e) hb (neC b o e hx) (I.base.keep b o e n hb hx) (I.base.free b o e n hx)
  · obtain ⟨sl,e1⟩:=I.base.slot b o e n hb hx
    obtain ⟨sl',e2⟩:=slot b _ (neL b o e) hb (neC b o e hx) e1 (I.base.free b o e n hx)
    exact ⟨sl',e2⟩
  · obtain ⟨o',e1⟩:=I.base.there b o e hx
    exact free b o' (neC b o e hx) e1 (I.base.free b o e n hx)
  · obtain ⟨o',e1⟩:=I.base.there b o e hx
    exact there b o' (neC b o e hx) e1
  · obtain ⟨m1,e1⟩:=I.base.tbls b ps e
    obtain ⟨m2,e2⟩:=tbls b _ e1
    exact ⟨m1 ++ m2,by rw [e2,Array.append_assoc]⟩
  · obtain ⟨m,hn,hl⟩:=I.loc
    refine ⟨m,ns m hn,fun i x v e1 e2 e3=>?_⟩
    obtain ⟨u,r,l⟩:=hl i x v e1 e2 e3
    refine ⟨u,r,?_⟩
    rcases l with l | ⟨k,c,e,z⟩
    · exact .inl l
    · exact .inr ⟨k,c,e,cellK x c e _ z⟩
  · obtain ⟨v,z⟩:=I.cell x c e
    exact ⟨v,cellK x c e v z⟩
  · obtain ⟨m,⟨o,_,_,ho,_⟩,_⟩:=I.loc
    exact free _ o (fun z=>(hch _ z).2.1 rfl) ho I.free
  · obtain ⟨v,o,ho,hd⟩:=I.cell x c e
    exact free c o (fun z=>(hch c z).2.2.1 x c e rfl) ho (I.freeC x c e)
  · obtain ⟨e,n,ne,nf,d⟩:=I.pin p hp
    have nch:p.1 ∉ ch:=fun z=>(hch p.1 z).2.2.2 p hp rfl
    exact ⟨keep p.1 p.2 ne nf nch e n,free p.1 p.2 nch e n,ne,nf,d⟩
theorem Inv.un {t':Nat} (I:Inv X pins σ H s) (u:Un X.fs [] H H' s.heap h') (hok:HOk X.prog X.w H' h'):Inv X pins σ H' { s with heap:=h',toks:=t' }:=by
  obtain ⟨m,⟨o,es,ep,ho,r⟩,_⟩:=id I.loc
  obtain ⟨sl,hL⟩:=u.any ho I.free (by simp)
  exact I.step (g':=s.gens) (d':=s.drawn) (ch:=[]) (fun _ z=>nomatch z) (fun b o _ hb _ e n=>u.keep b o e n hb (by simp)) (fun b o _ hb _ e n=>u.slot b o e n hb (by simp)) (fun b o _ e n=>u.free b o e n (by simp)) (fun b o _ e=>u.there b o e (by simp)) u.tups u.frzs u.tbls (fun m' hm=>by
    obtain ⟨o',es',ep',ho',r'⟩:=hm
    rw [ho] at ho'; cases ho'
    exact ⟨_,es',ep',hL,r'⟩) hok I.bare
theorem Inv.call {g':Array GenState} {t':Nat} {d':Drawn} {ch:List Addr} (I:Inv X pins σ H s) (u:Un (frs X.stack) ch H H' s.heap h') (hok:HOk X.prog X.w H' h') (hg:AllBare g')
    (hch:∀ b∈ch,(b∈X.ex\/X.s₀.heap.objs.size<=b)/\b≠X.env.locals/\(∀ x c,X.env.cells.lookup x=some c->c≠b)/\∀ p∈X.pn ++ pins,p.1≠b) :
    Inv X pins σ H' { s with heap:=h',gens:=g',drawn:=d',toks:=t' }:=by
  obtain ⟨m,⟨o,es,ep,ho,r⟩,_⟩:=id I.loc
  obtain ⟨sl,hL⟩:=u.any ho I.free fun z=>(hch _ z).2.1 rfl
  exact I.step (ch:=ch) hch (fun b o hL hb hc e n=>u.keep b o e n (fun z=>(List.mem_cons.mp (I.stkSub b z)).elim hL hb) hc) (fun b o _ _ hc e n=>u.any e n hc) (fun b o hc e n=>u.free b o e n hc) (fun b o hc e=>u.there b o e hc) u.tups u.frzs u.tbls (fun m' hm=>by
    obtain ⟨o',es',ep',ho',r'⟩:=hm
    rw [ho] at ho'; cases ho'
    exact ⟨_,es',ep',hL,r'⟩) hok hg
theorem Inv.turned {t':Nat} {it:Addr} (I:Inv X pins σ H s) (k:∀ b o,b≠it->s.heap.get? b=some o->h'.get? b=some o) (hn:H it=none) (hL:it≠X.env.locals)
    (h1:it∈X.ex\/X.s₀.heap.objs.size<=it) (h2:∀ x c,X.env.cells.lookup x=some c->c≠it) (h3:∀ p∈X.pn ++ pins,p.1≠it):Inv X pins σ H { s with heap:=h',toks:=t' }:=by
  have nit:∀ b u,H b=some u->b≠it:=fun b u e z=>by rw [z,hn] at e; cases e
  refine I.step (g':=s.gens) (d':=s.drawn) (ch:=[it]) (fun b hb=>?_) (fun b o _ _ hc e _=>k b o (fun z=>hc (by simp [z])) e) (fun b o _ _ hc e _=>⟨o.slots,k b o (fun z=>hc (by simp [z])) e⟩) (fun _ _ _ _ n=>n)
    (fun b o hc e=>⟨o,k b o (fun z=>hc (by simp [z])) e⟩) (fun _ _ e=>e) (fun _ _ _ e=>e) (fun b ps e=>⟨#[],by rw [e]; simp⟩) (fun m hm=>?_) (fun b u e=>?_) I.bare
  · have e:b=it:=by simpa using hb
    subst e
    exact ⟨h1,hL,h2,h3⟩
  · obtain ⟨o,es,ep,ho,r⟩:=hm
    exact ⟨o,es,ep,k _ o (Ne.symm hL) ho,r⟩
  · refine (I.hok b u e).stay (fun c v hc q=>k c v ?_ q) (fun _ q=>q) fun _ _ q=>q
    rcases hc with z | z
    · rw [z]; exact nit b u e
    · exact nit c _ z
theorem Inv.tok (I:Inv X pins σ H s) (t:Nat):Inv X pins σ H { s with toks:=t }:=I.un (h':=s.heap) (t':=t) Un.refl I.hok
theorem Inv.kept {t':Nat} (I:Inv X pins σ H s) (k:∀ b u,s.heap.get? b=some u->h'.get? b=some u):Inv X pins σ H { s with heap:=h',toks:=t' }:=I.un (Un.kept k) (I.hok.kept k)
theorem Inv.laid {a:Addr} {o:HO} {t':Nat} (I:Inv X pins σ H s) (k:∀ b u,s.heap.get? b=some u->h'.get? b=some u) (hp:s.heap.objs.size<=a) (new:ObjOk X.prog X.w (upd H a o) h' a o) :
    Inv X pins σ (upd H a o) { s with heap:=h',toks:=t' }:=I.un (Un.laid k hp (I.hok.fresh hp)) (I.hok.laid k hp new)
theorem Inv.write {x e:Addr} {o:HO} {t':Nat} (I:Inv X pins σ H s) (mu:Mut (H x)) (he:e=x\/H e=some (.own x)) (k:∀ b u,b≠e->s.heap.get? b=some u->h'.get? b=some u) (heo:∃ u,h'.get? e=some u)
    (new:ObjOk X.prog X.w (upd H x o) h' x o):Inv X pins σ (upd H x o) { s with heap:=h',toks:=t' }:=I.un (Un.write mu he k heo) (I.hok.write mu he k heo new)
theorem Inv.pins_of {pins':List (Addr × Obj)} (I:Inv X pins σ H s) (h:∀ p∈pins',s.heap.get? p.1=some p.2/\H p.1=none/\p.1≠X.env.locals/\p.1 ∉ X.fs/\∀ v,p.2.data≠.cell v):Inv X pins' σ H s :=
  ⟨I.ok,I.os,I.bare,I.base,I.loc,I.cell,I.free,I.freeC,fun p hp=>(List.mem_append.mp hp).elim (fun z=>I.pin p (List.mem_append_left _ z)) (h p),I.hok,I.len⟩
theorem nodup_ix {N:List Str} (hN:N.Nodup) {i j:Nat} {x:Str} (a:N[i]?=some x) (b:N[j]?=some x):i=j:=by
  obtain ⟨h1,e1⟩:=List.getElem?_eq_some_iff.mp a
  obtain ⟨h2,e2⟩:=List.getElem?_eq_some_iff.mp b
  exact (List.getElem_inj hN).mp (e1.trans e2.symm)
theorem store_ok2 {M:Model} {A:Around} {E:Value->Shared->Prop} {i:Nat} {x:Str} {v:V} {u:Value} {Q:Unit->Shared->Prop} (I:Inv X pins σ H s) (hN:X.N.Nodup) (hi:X.N[i]?=some x) (hx:Loc X.env.scope x) (r:RelV v u)
    (h:∀ s',Inv X pins (σ.set i (some v)) H s'->(∃ a,Heap.SameBut a s.heap s'.heap/\(a=X.env.locals\/X.env.cells.lookup x=some a))->Q () s') (hf:X.fn x=true\/X.env.scope.names.lookup x=some .local:=by first | exact .inl rfl | exact .inr rfl | assumption):wpAny M A (storeName X.env x u) Q E s:=by
  obtain ⟨m,hn,hl⟩:=id I.loc
  have hcls:(X.env.scope.kind == .class || (X.env.scope.kind == .module && X.env.locals != X.env.globals))=false:=by rw [I.ok.kind]; rfl
  have hiσ:i < σ.length:=by rw [I.len]; exact (List.getElem?_eq_some_iff.mp hi).1
  have cne:=I.cne
  have tracked:∀ {a:Addr} {h':Heap},(∃ o,s.heap.get? a=some o/\H a=none)->Heap.SameBut a s.heap h'->HOk X.prog X.w H h':=fun {a h'} ha hs b ob e=>by
    obtain ⟨_,_,hfree⟩:=ha
    refine (I.hok b ob e).stay (fun c w' hc q=>(hs.2 c ?_).trans q) (fun _ q=>q) fun _ _ q=>q
    rintro rfl
    rcases hc with rfl | hc
    · rw [hfree] at e; cases e
    · rw [hfree] at hc; cases hc
  rcases hx with hk | hk
  · refine wpAny_storeName_local hk hn (fun h' hn' hs=>?_) hcls
    obtain ⟨oL,_,_,hoL,_⟩:=id hn
    refine h _ ⟨I.ok,I.os,I.bare,⟨fun b o e n hb hx=>?_,fun b o e n hb hx=>?_,I.base.free,fun b o e hx=>?_,I.base.tups,I.base.frzs,I.base.tbls⟩,⟨_,hn',fun j y v' e1 e2 e3=>?_⟩,fun y c e=>?_,I.free,I.freeC,fun p hp=>?_,tracked ⟨oL,hoL,I.free⟩ hs,by simpa using I.len⟩ ⟨_,hs,.inl rfl⟩
    · exact (hs.2 b (Nat.ne_of_lt (Nat.lt_of_lt_of_le (Heap.lt_size e) I.ok.above))).trans (I.base.keep b o e n hb hx)
    · obtain ⟨sl,e1⟩:=I.base.slot b o e n hb hx
      exact ⟨sl,(hs.2 b (Nat.ne_of_lt (Nat.lt_of_lt_of_le (Heap.lt_size e) I.ok.above))).trans e1⟩
    · obtain ⟨o',e1⟩:=I.base.there b o e hx
      exact ⟨o',(hs.2 b (Nat.ne_of_lt (Nat.lt_of_lt_of_le (Heap.lt_size e) I.ok.above))).trans e1⟩
    · by_cases hj:j=i
      · subst hj
        rw [hi] at e1; cases e1
        rw [List.getElem?_set_self hiσ] at e2
        cases e2
        exact ⟨u,r,.inl ⟨hk,by simp⟩⟩
      · rw [List.getElem?_set_ne (Ne.symm hj)] at e2
        obtain ⟨u',r',q⟩:=hl j y v' e1 e2 e3
        refine ⟨u',r',?_⟩
        rcases q with ⟨k,e⟩ | ⟨k,c,e,z⟩
        · refine .inl ⟨k,?_⟩
          have:y≠x:=fun e=>hj (nodup_ix hN e1 (e ▸ hi))
          simp [this,e]
        · exact .inr ⟨k,c,e,z.sameBut hs (cne y c e)⟩
    · obtain ⟨w',z⟩:=I.cell y c e
      exact ⟨w',z.sameBut hs (cne y c e)⟩
    · obtain ⟨e,n,ne,nf,d⟩:=I.pin p hp
      exact ⟨(hs.2 p.1 ne).trans e,n,ne,nf,d⟩
  · have hfn:X.fn x=true:=by
      rcases hf with z | z
      · exact z
      · rw [z] at hk; cases hk
    obtain ⟨c,hc⟩:=I.ok.has x (.inl hk)
    obtain ⟨w',z⟩:=I.cell x c hc
    refine wpAny_storeName_cell I.ok.kind hk hc z (fun h' hc' hs=>?_)
    obtain ⟨oc,hoc,hocd⟩:=id z
    refine h { s with heap:=h' } ⟨I.ok,I.os,I.bare,⟨fun b o e n hb hx=>?_,fun b o e n hb hx=>?_,I.base.free,fun b o e hx=>?_,I.base.tups,I.base.frzs,I.base.tbls⟩,⟨m,hn.sameBut hs (Ne.symm (cne x c hc)),fun j y v' e1 e2 e3=>?_⟩,fun y c' e=>?_,I.free,I.freeC,fun p hp=>?_,tracked ⟨oc,hoc,I.freeC x c hc⟩ hs,by simpa using I.len⟩ ⟨c,hs,.inr hc⟩
    · exact (hs.2 b (Nat.ne_of_lt (Nat.lt_of_lt_of_le (Heap.lt_size e) (I.ok.cab x c hfn hc)))).trans (I.base.keep b o e n hb hx)
    · obtain ⟨sl,e1⟩:=I.base.slot b o e n hb hx
      exact ⟨sl,(hs.2 b (Nat.ne_of_lt (Nat.lt_of_lt_of_le (Heap.lt_size e) (I.ok.cab x c hfn hc)))).trans e1⟩
    · obtain ⟨o',e1⟩:=I.base.there b o e hx
      exact ⟨o',(hs.2 b (Nat.ne_of_lt (Nat.lt_of_lt_of_le (Heap.lt_size e) (I.ok.cab x c hfn hc)))).trans e1⟩
    · by_cases hj:j=i
      · subst hj
        rw [hi] at e1; cases e1
        rw [List.getElem?_set_self hiσ] at e2
        cases e2
        exact ⟨u,r,.inr ⟨.inl hk,c,hc,hc'⟩⟩
      · rw [List.getElem?_set_ne (Ne.symm hj)] at e2
        obtain ⟨u',r',q⟩:=hl j y v' e1 e2 e3
        refine ⟨u',r',?_⟩
        rcases q with q | ⟨k,c',e,z'⟩
        · exact .inl q
        · refine .inr ⟨k,c',e,z'.sameBut hs ?_⟩
          rintro rfl
          exact hj (nodup_ix hN e1 (I.ok.inj _ _ _ e hc ▸ hi))
    · by_cases hcc:c'=c
      · subst hcc; exact ⟨_,hc'⟩
      · obtain ⟨w2,z2⟩:=I.cell y c' e
        exact ⟨w2,z2.sameBut hs hcc⟩
    · obtain ⟨e,n,ne,nf,d⟩:=I.pin p hp
      refine ⟨(hs.2 p.1 ?_).trans e,n,ne,nf,d⟩
      intro q
      rw [q,hoc] at e
      have q':oc=p.2:=Option.some.inj e
      exact d w' (by rw [<- q']; exact hocd)
theorem store_ok {M:Model} {A:Around} {E:Value->Shared->Prop} {i:Nat} {x:Str} {v:V} {u:Value} {Q:Unit->Shared->Prop} (I:Inv X pins σ H s) (hN:X.N.Nodup) (hi:X.N[i]?=some x) (hx:Loc X.env.scope x) (r:RelV v u)
    (h:∀ s',Inv X pins (σ.set i (some v)) H s'->Q () s') (hf:X.fn x=true\/X.env.scope.names.lookup x=some .local:=by first | exact .inl rfl | exact .inr rfl | assumption):wpAny M A (storeName X.env x u) Q E s :=
  store_ok2 I hN hi hx r (fun s' I' _=>h s' I') hf
theorem Inv.call' {s':Shared} {ch:List Addr} (I:Inv X pins σ H s) (ho:s'.os=s.os) (u:Un (frs X.stack) ch H H' s.heap s'.heap) (hok:HOk X.prog X.w H' s'.heap) (hg:AllBare s'.gens)
    (hch:∀ b∈ch,(b∈X.ex\/X.s₀.heap.objs.size<=b)/\b≠X.env.locals/\(∀ x c,X.env.cells.lookup x=some c->c≠b)/\∀ p∈X.pn ++ pins,p.1≠b):Inv X pins σ H' s':=by
  obtain ⟨h',g',d',t',o'⟩:=s'
  have e:o'=s.os:=ho
  subst e
  exact I.call (g':=g') (t':=t') (d':=d') u hok hg hch
end
abbrev XK:=Value->Option Addr->Hp->Prop
abbrev St:=List (Option V)
abbrev VK:=V->Hp->Prop
abbrev TE:=St->Hp->VK->Prop
abbrev TT:=St->Hp->(Bool->Hp->Prop)->Prop
abbrev TA:=St->Hp->(List V->Hp->Prop)->Prop
structure Ends where
  nx:St->Hp->Prop
  rt:VK
  bk:St->Hp->Prop:=fun _ _=>False
  ct:St->Hp->Prop:=fun _ _=>False
abbrev TS:=Ends->St->Hp->Prop
def EP (X:Cx) (pins:List (Addr × Obj)) (σ:St) (Q:VK) (u:Value) (s':Shared):Prop:=∃ v H',Inv X pins σ H' s'/\RelV v u/\Q v H'
def TP (X:Cx) (pins:List (Addr × Obj)) (σ:St) (Q:Bool->Hp->Prop) (b:Bool) (s':Shared):Prop:=∃ H',Inv X pins σ H' s'/\Q b H'
def AP (X:Cx) (pins:List (Addr × Obj)) (σ:St) (Q:List V->Hp->Prop) (us:List Value) (s':Shared):Prop:=∃ vs H',Inv X pins σ H' s'/\Vals vs us/\Q vs H'
def SP (X:Cx) (pins:List (Addr × Obj)) (D:Ends) (f:Flow) (s':Shared):Prop :=
  match f with
  | .next=>∃ σ' H',Inv X pins σ' H' s'/\D.nx σ' H'
  | .brk=>∃ σ' H',Inv X pins σ' H' s'/\D.bk σ' H'
  | .cont=>∃ σ' H',Inv X pins σ' H' s'/\D.ct σ' H'
  | .ret u=>∃ v σ' H',Inv X pins σ' H' s'/\RelV v u/\D.rt v H'
def PE (X:Cx) (e:Expr) (t:TE):Prop :=
  ∀ (pins:List (Addr × Obj)) (s:Shared) (σ:St) (H:Hp) (Q:VK),Inv X pins σ H s->t σ H Q->wpAny (model X.prog X.w) X.A (eval e X.env) (EP X pins σ Q) X.xe s
def PT (X:Cx) (e:Expr) (t:TT):Prop :=
  ∀ (pins:List (Addr × Obj)) (s:Shared) (σ:St) (H:Hp) (Q:Bool->Hp->Prop),Inv X pins σ H s->t σ H Q->wpAny (model X.prog X.w) X.A (isTrue e X.env (eval e X.env)) (TP X pins σ Q) X.xe s
def PW (X:Cx) (e:Expr) (t:TT):Prop :=
  ∀ (whole:Sem Value) (pins:List (Addr × Obj)) (s:Shared) (σ:St) (H:Hp) (Q:Bool->Hp->Prop),Inv X pins σ H s->t σ H Q->wpAny (model X.prog X.w) X.A (isTrue e X.env whole) (TP X pins σ Q) X.xe s
theorem PW.pt {X:Cx} {e:Expr} {t:TT} (h:PW X e t):PT X e t:=h _
def PA (X:Cx) (es:List Expr) (t:TA):Prop :=
  ∀ (pos:Pos) (pins:List (Addr × Obj)) (s:Shared) (σ:St) (H:Hp) (Q:List V->Hp->Prop),Inv X pins σ H s->t σ H Q->wpAny (model X.prog X.w) X.A (spliced (backTo pos (starEach es X.env))) (AP X pins σ Q) X.xe s
def PS (X:Cx) (st:Stmt) (t:TS):Prop :=
  ∀ (pins:List (Addr × Obj)) (s:Shared) (σ:St) (H:Hp) (D:Ends),Inv X pins σ H s->t D σ H->wpAny (model X.prog X.w) X.A (exec st X.env) (SP X pins D) X.xe s
def PSs (X:Cx) (st:List Stmt) (t:TS):Prop :=
  ∀ (pins:List (Addr × Obj)) (s:Shared) (σ:St) (H:Hp) (D:Ends),Inv X pins σ H s->t D σ H->wpAny (model X.prog X.w) X.A (execs st X.env) (SP X pins D) X.xe s
theorem thn {α:Type} {t:Sem α} {Q Q':α->Shared->Prop} {M:Model} {A:Around} {E:Value->Shared->Prop} {s:Shared} (h:wpAny M A t Q E s) (hQ:∀ a s,Q a s->Q' a s):wpAny M A t Q' E s:=wpAny_mono h hQ fun _ _ x=>x
end L2
namespace L2
open PySem PySem.Spec PyProof.Rows
section
variable {X:Cx}
def tVar (i:Nat):TE:=fun σ H Q=>∃ v,σ[i]?=some (some v)/\Q v H
def tC (v:V):TE:=fun _ H Q=>Q v H
theorem pe_var {i:Nat} {x:Str} {pos:Pos} (hN:X.N[i]?=some x) (hv:Vis X.env.scope x) (hd:(x == ("__debug__":Str))=false:=by decide) (hcd:(x == ("__classdict__":Str))=false:=by decide):PE X (.Name x pos) (tVar i):=by
  intro pins s σ H Q I h
  obtain ⟨v,e,h⟩:=h
  obtain ⟨m,hn,hl⟩:=I.loc
  obtain ⟨u,r,l⟩:=hl i x v hN e hv
  have fin:EP X pins σ Q u s:=⟨v,H,I,r,h⟩
  rcases l with ⟨hk,hm⟩ | ⟨hk,c,hc,hcell⟩
  · exact wpAny_Name (wpAny_loadName_local I.ok.kind hk hn hm fin) hd
  · rcases hk with hk | hk
    · exact wpAny_Name (wpAny_loadName_cell I.ok.kind hk hc hcell fin) hd
    · exact wpAny_Name (wpAny_loadName_free I.ok.kind hk hc hcell fin hcd) hd
theorem pe_int {i j pos}:PE X (.Constant (.int i) j pos) (tC (.int i)):=fun _ _ _ H _ I h=>wpAny_Constant_int ⟨.int i,H,I.tok _,⟨_,rfl⟩,h⟩
theorem pe_bl {b j pos}:PE X (.Constant (.bool b) j pos) (tC (.bl b)):=fun _ _ _ H _ I h=>Constant_bool ⟨.bl b,H,I,rfl,h⟩
theorem pe_non {j pos}:PE X (.Constant .none j pos) (tC .non):=fun _ _ _ H _ I h=>Constant_none ⟨.non,H,I,rfl,h⟩
theorem pe_str {x j pos}:PE X (.Constant (.str x) j pos) (tC (.str x)):=fun _ _ _ H _ I h=>Calls.Constant_str ⟨.str x,H,I.tok _,⟨_,rfl⟩,h⟩
def Gl (X:Cx) (x:Str):Prop:=X.env.kindOf x=some .globalImplicit
theorem ld_glob {E:Value->Shared->Prop} {pins:List (Addr × Obj)} {s:Shared} {σ:St} {H:Hp} {x:Str} {u:Value} {pos:Pos} {Q:Value->Shared->Prop} (I:Inv X pins σ H s) (hg:Gl X x) (hm:X.mg x=some u) (h:Q u s)
    (hd:(x == ("__debug__":Str))=false:=by decide):wpAny (model X.prog X.w) X.A (eval (.Name x pos) X.env) Q E s :=
  Calls.Name_function_global I.ok.kind hg (Calls.loadGlobal_global (by rw [I.ok.glob]; exact I.mod.glob.keeps I.bk) hm h) hd
theorem ld_blt {E:Value->Shared->Prop} {pins:List (Addr × Obj)} {s:Shared} {σ:St} {H:Hp} {x:Str} {u:Value} {pos:Pos} {Q:Value->Shared->Prop} (I:Inv X pins σ H s) (hg:Gl X x) (hm:X.mg x=none) (hv:bootBuiltins x=some u) (h:Q u s)
    (hn:x≠"__name__":=by decide) (hd:(x == ("__debug__":Str))=false:=by decide):wpAny (model X.prog X.w) X.A (eval (.Name x pos) X.env) Q E s:=by
  obtain ⟨mb,h1,h2⟩:=I.mod.blt
  exact Calls.Name_function_global I.ok.kind hg (Calls.loadGlobal_builtin (by rw [I.ok.glob]; exact I.mod.glob.keeps I.bk) hm (by rw [I.ok.blt]; exact h1.keeps I.bk) ((h2 x hn).trans hv) h) hd
theorem pe_bltn {x:Str} {v:V} {u:Value} {pos:Pos} (hg:Gl X x) (hm:X.mg x=none) (hv:bootBuiltins x=some u) (r:RelV v u) (hn:x≠"__name__":=by decide) (hd:(x == ("__debug__":Str))=false:=by decide):PE X (.Name x pos) (tC v) :=
  fun _ _ _ H _ I h=>ld_blt I hg hm hv ⟨v,H,I,r,h⟩ hn hd
variable {a b:Expr} {ta tb:TE} {pos:Pos}
def PC (X:Cx) (op:CmpOp) (a b:Expr) (t:TE):Prop :=
  ∀ (pins:List (Addr × Obj)) (s:Shared) (σ:St) (H:Hp) (Q:VK),Inv X pins σ H s->t σ H Q ->
    wpAny (model X.prog X.w) X.A (eval a X.env) (fun v s₁=>wpAny (model X.prog X.w) X.A (eval b X.env) (fun u s₂=>wpAny (model X.prog X.w) X.A (compareOp op v u) (EP X pins σ Q) X.xe s₂) X.xe s₁) X.xe s
theorem nobehind (b:Expr) {op:CmpOp} (h:op≠.In) (h2:op≠.NotIn):behindInMarks op b=false:=by
  have e1:(op == CmpOp.In)=false:=by cases op <;> first | rfl | exact absurd rfl h
  have e2:(op == CmpOp.NotIn)=false:=by cases op <;> first | rfl | exact absurd rfl h2
  cases b <;> simp [behindInMarks,e1,e2]
def tIsN (ta:TE):TE:=fun σ H Q=>ta σ H fun x H1=>Q (.bl (decide (x=.non))) H1
theorem RelV.none_iff {x:V} {v:Value} (r:RelV x v):(v == Value.none)=decide (x=.non):=by
  cases x with
  | non=>cases r; rfl
  | bl _=>cases r; rfl
  | int _=>obtain ⟨t,rfl⟩:=r; rfl
  | str _=>obtain ⟨t,rfl⟩:=r; rfl
  | byt _=>obtain ⟨t,rfl⟩:=r; rfl
  | flt _=>obtain ⟨t,rfl⟩:=r; rfl
  | ref _=>cases r; rfl
  | ty _=>cases r; rfl
theorem pc_isN {j pos'} (ha:PE X a ta):PC X .Is a (.Constant .none j pos') (tIsN ta):=by
  intro pins s σ H Q I h
  refine thn (ha pins s σ H _ I h) fun v s1 ⟨x,H1,I1,r1,q1⟩=>?_
  exact Constant_none (is_none_gen ⟨.bl _,H1,I1,by rw [r1.none_iff]; rfl,q1⟩)
def tB (t:TE):TT:=fun σ H Q=>t σ H fun x H1=>∃ c,x=.bl c/\Q c H1
theorem pt_cmp {op:CmpOp} {t:TE} (h:PC X op a b t) (h1:behindInMarks op b=false:=by first | exact nobehind _ (by decide) (by decide) | rfl):PT X (.Compare a [op] [b] pos) (tB t):=by
  intro pins s σ H Q I hw
  refine wpAny_isTrue_Compare1 (thn (h pins s σ H _ I hw) fun v s1 h1=>thn h1 fun u s2 h2=>thn h2 fun c s3 ⟨x,H1,I1,r1,q1⟩=>?_) h1
  obtain ⟨d,rfl,q⟩:=q1
  cases r1
  exact wpAny_truthy_bool ⟨H1,I1,q⟩
theorem pt_val {e:Expr} {t:TE} (h:PE X e t) (he:∀ whole,isTrue e X.env whole=(do let v <- whole; standAt e.pos; holding [v] (truthy v)):=by intro _; rfl):PT X e (tB t):=by
  intro pins s σ H Q I hw
  refine isTrue_plain (thn (h pins s σ H _ I hw) fun v s1 ⟨x,H1,I1,r1,q1⟩=>?_) (he _)
  obtain ⟨d,rfl,q⟩:=q1
  cases r1
  exact wpAny_truthy_bool ⟨H1,I1,q⟩
variable {tA tB':TT} {rest:List Expr}
def tAnd (t u:TT):TT:=fun σ H Q=>t σ H fun c H1=>if c=true then u σ H1 Q else Q false H1
def tOr (t u:TT):TT:=fun σ H Q=>t σ H fun c H1=>if c=true then Q true H1 else u σ H1 Q
def tNot (t:TT):TT:=fun σ H Q=>t σ H fun c H1=>Q (!c) H1
theorem pw_and1 (ha:PT X a tA):PW X (.BoolOp .And [a] pos) tA:=by
  intro wh pins s σ H Q I h
  refine isTrue_and (thn (ha pins s σ H Q I h) fun c s1 e=>?_)
  cases c with
  | true=>exact isTrue_and_nil e
  | false=>exact e
theorem pw_or1 (ha:PT X a tA):PW X (.BoolOp .Or [a] pos) tA:=by
  intro wh pins s σ H Q I h
  refine isTrue_or (thn (ha pins s σ H Q I h) fun c s1 e=>?_)
  cases c with
  | false=>exact isTrue_or_nil e
  | true=>exact e
theorem pw_and (ha:PT X a tA) (hb:PW X (.BoolOp .And (b :: rest) pos) tB'):PW X (.BoolOp .And (a :: b :: rest) pos) (tAnd tA tB'):=by
  intro wh pins s σ H Q I h
  refine isTrue_and (thn (ha pins s σ H _ I h) fun c s1 ⟨H1,I1,q1⟩=>?_)
  cases c with
  | true=>exact hb wh pins s1 σ H1 Q I1 q1
  | false=>exact ⟨H1,I1,q1⟩
theorem pw_or (ha:PT X a tA) (hb:PW X (.BoolOp .Or (b :: rest) pos) tB'):PW X (.BoolOp .Or (a :: b :: rest) pos) (tOr tA tB'):=by
  intro wh pins s σ H Q I h
  refine isTrue_or (thn (ha pins s σ H _ I h) fun c s1 ⟨H1,I1,q1⟩=>?_)
  cases c with
  | true=>exact ⟨H1,I1,q1⟩
  | false=>exact hb wh pins s1 σ H1 Q I1 q1
theorem pt_not (ha:PT X a tA):PT X (.UnaryOp .Not a pos) (tNot tA):=by
  intro pins s σ H Q I h
  exact isTrue_not (ha pins s σ H (fun c H1=>Q (!c) H1) I h)
def tAndV (ta tb:TE):TE:=fun σ H Q=>ta σ H fun x H1=>∃ c,x=.bl c/\if c=true then tb σ H1 Q else Q (.bl false) H1
def tNotV (ta:TE):TE:=fun σ H Q=>ta σ H fun x H1=>∃ c,x=.bl c/\Q (.bl (!c)) H1
theorem pe_one {op} {t:TE} (h:PE X a t):PE X (.BoolOp op [a] pos) t:=fun pins s σ H Q I hw=>BoolOp_one (h pins s σ H Q I hw)
theorem pe_and (ha:PE X a ta) (hb:PE X (.BoolOp .And (b :: rest) pos) tb):PE X (.BoolOp .And (a :: b :: rest) pos) (tAndV ta tb):=by
  intro pins s σ H Q I h
  refine BoolOp_and (thn (ha pins s σ H _ I h) fun v s1 ⟨x,H1,I1,r1,q1⟩=>?_)
  obtain ⟨c,rfl,q1⟩:=q1
  cases r1
  refine wpAny_truthy_bool ?_
  cases c with
  | true=>exact hb pins s1 σ H1 Q I1 q1
  | false=>exact ⟨.bl false,H1,I1,rfl,q1⟩
theorem pe_not (ha:PE X a ta):PE X (.UnaryOp .Not a pos) (tNotV ta):=by
  intro pins s σ H Q I h
  refine UnaryOp_ (thn (ha pins s σ H _ I h) fun v s1 ⟨x,H1,I1,r1,q1⟩=>?_)
  obtain ⟨c,rfl,q1⟩:=q1
  cases r1
  exact not_of (wpAny_truthy_bool ⟨.bl (!c),H1,I1,rfl,q1⟩)
def tIf (t:TT) (ta tb:TE):TE:=fun σ H Q=>t σ H fun c H1=>if c=true then ta σ H1 Q else tb σ H1 Q
theorem pe_ifExp {c:Expr} (hc:PT X c tA) (ha:PE X a ta) (hb:PE X b tb):PE X (.IfExp c a b pos) (tIf tA ta tb):=by
  intro pins s σ H Q I h
  refine wpAny_IfExp (thn (hc pins s σ H _ I h) fun d s1 ⟨H1,I1,q1⟩=>?_)
  cases d with
  | true=>exact ha pins s1 σ H1 Q I1 q1
  | false=>exact hb pins s1 σ H1 Q I1 q1
end
end L2
namespace L2
open PySem PySem.Spec PyProof.Rows
def SqL (K:PySem.W.Frag) (H:Hp) (a:Addr) (xs:List V):Prop :=
  Rd H a (.lst xs) \/
    ∃ (o:Obj) (its:Array Value) (n:Nat),K.lookup a=some o/\o.cls=.type "list"/\o.dict=none/\o.data=.seq its n/\its.size<=sizeLine/\Vals xs its.toList
def SqT (K:PySem.W.Frag) (H:Hp) (a:Addr) (xs:List V):Prop :=
  Rd H a (.tup xs) \/
    ∃ (o:Obj) (its:Array Value) (n:Nat),K.lookup a=some o/\o.cls=.type "tuple"/\o.data=.seq its n/\its.size<=sizeLine/\Vals xs its.toList
def absV:Value->Option V
  | .none=>some .non
  | .bool b=>some (.bl b)
  | .int i _=>some (.int i)
  | .str x _=>some (.str x)
  | .bytes b _=>some (.byt b)
  | .float b _=>some (.flt b)
  | .ref a=>some (.ref a)
  | .type n=>some (.ty n)
  | _=>none
theorem RelV.abs {x:V} {u:Value} (r:RelV x u):absV u=some x:=by
  cases x with
  | non=>cases r; rfl
  | bl _=>cases r; rfl
  | int _=>obtain ⟨t,rfl⟩:=r; rfl
  | str _=>obtain ⟨t,rfl⟩:=r; rfl
  | byt _=>obtain ⟨t,rfl⟩:=r; rfl
  | flt _=>obtain ⟨t,rfl⟩:=r; rfl
  | ref _=>cases r; rfl
  | ty _=>cases r; rfl
theorem RelV.inj {x y:V} {u:Value} (r:RelV x u) (q:RelV y u):x=y:=Option.some.inj (r.abs.symm.trans q.abs)
theorem Vals.inj:∀ {xs ys:List V} {us:List Value},Vals xs us->Vals ys us->xs=ys
  | _,_,_,.nil,.nil=>rfl
  | _,_,_,.cons r t,.cons r' t'=>by rw [r.inj r',Vals.inj t t']
section
variable {X:Cx} {pins:List (Addr × Obj)} {σ:St} {H:Hp} {s:Shared} {a:Addr} {xs ys:List V}
theorem SqL.of {K:PySem.W.Frag} (h:H a=some (.lst xs)):SqL K H a xs:=.inl (.inl h)
theorem SqT.of {K:PySem.W.Frag} (h:H a=some (.tup xs)):SqT K H a xs:=.inl (.inl h)
theorem Inv.list (I:Inv X pins σ H s) (h:SqL X.K H a xs):∃ its:List Value,Vals xs its/\PlainL s.heap a its.toArray/\xs.length<=sizeLine:=by
  rcases h with h | ⟨o,its,n,hk,hc,hd,hs,hz,r⟩
  · obtain ⟨z,its,n,r,e⟩:=h.ok I.hok
    exact ⟨its,r,⟨_,n,e,rfl,rfl,rfl⟩,z⟩
  · refine ⟨its.toList,r,⟨o,n,I.kIn a o hk,hc,hd,by simpa using hs⟩,?_⟩
    have e:=r.length
    simp only [Array.length_toList] at e
    omega
theorem Inv.tuple (I:Inv X pins σ H s) (h:SqT X.K H a xs):∃ its:List Value,Vals xs its/\IsTup s.heap a its.toArray/\xs.length<=sizeLine:=by
  rcases h with h | ⟨o,its,n,hk,hc,hs,hz,r⟩
  · obtain ⟨z,its,r,p⟩:=h.ok I.hok
    exact ⟨its,r,p.is,z⟩
  · refine ⟨its.toList,r,⟨o,I.kIn a o hk,hc,n,by simpa using hs⟩,?_⟩
    have e:=r.length
    simp only [Array.length_toList] at e
    omega
theorem Inv.list_inj (I:Inv X pins σ H s) (h:SqL X.K H a xs) (h':SqL X.K H a ys):xs=ys:=by
  obtain ⟨its,r,⟨o,n,e,_,_,d⟩,_⟩:=I.list h
  obtain ⟨its',r',⟨o',n',e',_,_,d'⟩,_⟩:=I.list h'
  rw [e] at e'; cases e'
  rw [d] at d'
  injection d' with d1 _
  have:its=its':=by simpa using congrArg Array.toList d1
  subst this
  exact r.inj r'
theorem Inv.tuple_inj (I:Inv X pins σ H s) (h:SqT X.K H a xs) (h':SqT X.K H a ys):xs=ys:=by
  obtain ⟨its,r,⟨o,e,_,n,d⟩,_⟩:=I.tuple h
  obtain ⟨its',r',⟨o',e',_,n',d'⟩,_⟩:=I.tuple h'
  rw [e] at e'; cases e'
  rw [d] at d'
  injection d' with d1 _
  have:its=its':=by simpa using congrArg Array.toList d1
  subst this
  exact r.inj r'
end
abbrev Cx.wish (X:Cx) (E:Value->Shared->Prop):Cx:={ X with xe:=E }
abbrev Cx.nox (X:Cx):Cx:=X.wish fun _ _=>False
theorem Cx.Ok.wish {X:Cx} (ok:X.Ok) (E:Value->Shared->Prop):(X.wish E).Ok :=
  ⟨ok.mod,ok.kind,ok.glob,ok.blt,ok.above,ok.inj,ok.has,ok.cab,ok.hd,ok.frames,ok.stk,ok.exf,ok.bs,ok.bsz,ok.noex,ok.exfs,ok.funs,ok.frf⟩
theorem Cx.Ok.unwish {X:Cx} {E:Value->Shared->Prop} (ok:(X.wish E).Ok):X.Ok :=
  ⟨ok.mod,ok.kind,ok.glob,ok.blt,ok.above,ok.inj,ok.has,ok.cab,ok.hd,ok.frames,ok.stk,ok.exf,ok.bs,ok.bsz,ok.noex,ok.exfs,ok.funs,ok.frf⟩
section
variable {X:Cx} {pins:List (Addr × Obj)} {σ:St} {H:Hp} {s:Shared} {E:Value->Shared->Prop}
theorem Inv.wish (I:Inv X pins σ H s) (E:Value->Shared->Prop):Inv (X.wish E) pins σ H s:=⟨I.ok.wish E,I.os,I.bare,I.base,I.loc,I.cell,I.free,I.freeC,I.pin,I.hok,I.len⟩
theorem Inv.unwish (I:Inv (X.wish E) pins σ H s):Inv X pins σ H s:=⟨I.ok.unwish,I.os,I.bare,I.base,I.loc,I.cell,I.free,I.freeC,I.pin,I.hok,I.len⟩
theorem SP.unwish {D:Ends} {f:Flow} {s':Shared} (h:SP (X.wish E) pins D f s'):SP X pins D f s':=by
  cases f with
  | next=>obtain ⟨σ',H',I,q⟩:=h; exact ⟨σ',H',I.unwish,q⟩
  | brk=>obtain ⟨σ',H',I,q⟩:=h; exact ⟨σ',H',I.unwish,q⟩
  | cont=>obtain ⟨σ',H',I,q⟩:=h; exact ⟨σ',H',I.unwish,q⟩
  | ret u=>obtain ⟨v,σ',H',I,r,q⟩:=h; exact ⟨v,σ',H',I.unwish,r,q⟩
theorem PE.nox {e:Expr} {t:TE} (h:PE X.nox e t):PE X e t:=fun pins s σ H Q I hw =>
  wpAny_mono (h pins s σ H Q (I.wish _) hw) (fun _ _ ⟨v,H',I',r,q⟩=>⟨v,H',I'.unwish,r,q⟩) fun _ _ z=>False.elim z
theorem PT.nox {e:Expr} {t:TT} (h:PT X.nox e t):PT X e t:=fun pins s σ H Q I hw =>
  wpAny_mono (h pins s σ H Q (I.wish _) hw) (fun _ _ ⟨H',I',q⟩=>⟨H',I'.unwish,q⟩) fun _ _ z=>False.elim z
theorem PSs.nox {st:List Stmt} {t:TS} (h:PSs X.nox st t):PSs X st t:=fun pins s σ H D I hw =>
  wpAny_mono (h pins s σ H D (I.wish _) hw) (fun _ _ q=>q.unwish) fun _ _ z=>False.elim z
end
section
variable {X:Cx} {st:Stmt} {rest:List Stmt} {t u:TS} {e:Expr} {te:TE} {pos:Pos}
def tNext:TS:=fun D σ H=>D.nx σ H
def tSeq (t u:TS):TS:=fun D σ H=>t { D with nx:=u D } σ H
theorem pss_nil:PSs X [] tNext:=fun _ _ σ H _ I h=>wpAny_execs_nil ⟨σ,H,I,h⟩
theorem pss_cons (h1:PS X st t) (h2:PSs X rest u):PSs X (st :: rest) (tSeq t u):=by
  intro pins s σ H D I h
  refine wpAny_execs_cons (thn (h1 pins s σ H { D with nx:=u D } I h) fun f s1 q=>?_)
  cases f with
  | next =>
    obtain ⟨σ',H',I',q⟩:=q
    exact h2 pins s1 σ' H' D I' q
  | ret v=>exact q
  | brk=>exact q
  | cont=>exact q
theorem pss_one (h1:PS X st t):PSs X [st] t:=by
  intro pins s σ H D I h
  refine wpAny_execs_cons (thn (h1 pins s σ H D I h) fun f s1 q=>?_)
  cases f with
  | next=>exact wpAny_execs_nil q
  | ret v=>exact q
  | brk=>exact q
  | cont=>exact q
theorem Inv.quiet {pins:List (Addr × Obj)} {σ:St} {H:Hp} {s:Shared} (I:Inv X pins σ H s):interactive X.env=false:=by simp [interactive,I.ok.kind]
def tDrop (te:TE):TS:=fun D σ H=>te σ H fun _ H1=>D.nx σ H1
theorem ps_expr (he:PE X e te) (hs:swapsWith e none pos.line X.env=pure false:=by rfl):PS X (.Expr e pos) (tDrop te):=by
  intro pins s σ H D I h
  exact wpAny_Expr_any (thn (he pins s σ H _ I h) fun v s1 ⟨x,H1,I1,r1,q1⟩=>⟨σ,H1,I1,q1⟩) I.quiet hs
def tRet (te:TE):TS:=fun D σ H=>te σ H D.rt
theorem ps_ret (he:PE X e te):PS X (.Return (some e) pos) (tRet te):=by
  intro pins s σ H D I h
  exact wpAny_Return_some (thn (he pins s σ H _ I h) fun v s1 ⟨x,H1,I1,r1,q1⟩=>⟨x,σ,H1,I1,r1,q1⟩)
def tRetN:TS:=fun D _ H=>D.rt .non H
theorem ps_retN:PS X (.Return none pos) tRetN:=fun _ _ σ H _ I h=>wpAny_Return_none ⟨.non,σ,H,I,rfl,h⟩
def tIfS (c:TT) (t u:TS):TS:=fun D σ H=>c σ H fun b H1=>if b=true then t D σ H1 else u D σ H1
theorem ps_if {c:Expr} {a b:List Stmt} {tc:TT} (hc:PT X c tc) (ha:PSs X a t) (hb:PSs X b u):PS X (.If c a b pos) (tIfS tc t u):=by
  intro pins s σ H D I h
  refine wpAny_If (thn (hc pins s σ H _ I h) fun d s1 ⟨H1,I1,q1⟩=>?_)
  cases d with
  | true=>exact ha pins s1 σ H1 D I1 q1
  | false=>exact hb pins s1 σ H1 D I1 q1
end
abbrev TG:=V->St->Hp->(St->Hp->Prop)->Prop
abbrev TGs:=List V->St->Hp->(St->Hp->Prop)->Prop
def PG (X:Cx) (target:Expr) (t:TG):Prop :=
  ∀ (pins:List (Addr × Obj)) (s:Shared) (σ:St) (H:Hp) (v:V) (u:Value) (Q:St->Hp->Prop),Inv X pins σ H s->RelV v u->t v σ H Q ->
    wpAny (model X.prog X.w) X.A (assign target X.env u) (fun _ s'=>∃ σ' H',Inv X pins σ' H' s'/\Q σ' H') X.xe s
def PGs (X:Cx) (ts:List Expr) (t:TGs):Prop :=
  ∀ (pins:List (Addr × Obj)) (s:Shared) (σ:St) (H:Hp) (vs:List V) (us:List Value) (Q:St->Hp->Prop),Inv X pins σ H s->Vals vs us->t vs σ H Q ->
    wpAny (model X.prog X.w) X.A (assignInOrder ((assignEach ts X.env).map (·.2)) us) (fun _ s'=>∃ σ' H',Inv X pins σ' H' s'/\Q σ' H') X.xe s
abbrev TSet:=V->V->V->Hp->(Hp->Prop)->Prop
def PSet (X:Cx) (t:TSet):Prop :=
  ∀ (pins:List (Addr × Obj)) (s:Shared) (σ:St) (H:Hp) (o i v:V) (ov iv u:Value) (Q:Hp->Prop),Inv X pins σ H s->RelV o ov->RelV i iv->RelV v u->t o i v H Q ->
    wpAny (model X.prog X.w) X.A (setItem ov iv u) (fun _ s'=>∃ H',Inv X pins σ H' s'/\Q H') X.xe s
section
variable {X:Cx} {pos:Pos}
def gName (i:Nat):TG:=fun v σ H Q=>Q (σ.set i (some v)) H
theorem pg_name {i:Nat} {x:Str} (hN:X.N.Nodup) (hi:X.N[i]?=some x) (hx:Loc X.env.scope x) (hf:X.fn x=true\/X.env.scope.names.lookup x=some .local:=by first | exact .inl rfl | exact .inr rfl | assumption):PG X (.Name x pos) (gName i):=by
  intro pins s σ H v u Q I r h
  exact wpAny_assign_Name (store_ok I hN hi hx r (fun s' I'=>⟨_,H,I',h⟩) hf)
def gNil:TGs:=fun vs σ H Q=>vs=[]/\Q σ H
def gCons (t:TG) (u:TGs):TGs:=fun vs σ H Q=>∃ v r,vs=v :: r/\t v σ H fun σ' H'=>u r σ' H' Q
theorem pgs_nil:PGs X [] gNil:=by
  intro pins s σ H vs us Q I r h
  obtain ⟨e,h⟩:=h
  subst e
  cases r
  exact assignInOrder_nil ⟨σ,H,I,h⟩
theorem pgs_cons {e:Expr} {es:List Expr} {t:TG} {u:TGs} (h1:PG X e t) (h2:PGs X es u)
    (hs:(assignEach (e :: es) X.env).map (·.2)=assign e X.env :: (assignEach es X.env).map (·.2):=by rfl):PGs X (e :: es) (gCons t u):=by
  intro pins s σ H vs us Q I r h
  obtain ⟨v,vr,e1,h⟩:=h
  subst e1
  cases r with
  | cons r rr =>
    rw [hs]
    refine assignInOrder_cons (thn (h1 pins s σ H _ _ _ I r h) fun _ s1 ⟨σ1,H1,I1,q1⟩=>?_)
    exact h2 pins s1 σ1 H1 _ _ Q I1 rr q1
def gTup (K:PySem.W.Frag) (n:Nat) (t:TGs):TG:=fun v σ H Q=>∃ a xs,v=.ref a/\SqT K H a xs/\xs.length=n/\t xs σ H Q
theorem pg_tup {es:List Expr} {k:Nat} {t:TGs} {n:Nat} (hc:X.calm=true) (h:PGs X es t)
    (hn:(assignEach es X.env).length=n:=by rfl) (hst:(assignEach es X.env).findIdx? (·.1)=none:=by rfl):PG X (.Tuple es k pos) (gTup X.K n t):=by
  intro pins s σ H v u Q I r hw
  obtain ⟨a,xs,e1,hq,hl,hw⟩:=hw
  subst e1
  cases r
  obtain ⟨its,rv,ht,hz⟩:=I.tuple hq
  refine assign_Tuple_tuple (I.ok.hd hc) ht (by simp [hn,<- hl,rv.length]) hst fun h' hx=>?_
  have I1:Inv X pins σ H { s with heap:=h' }:=I.kept (t':=s.toks) fun b o e=>hx b o (Nat.ne_of_lt (Heap.lt_size e)) e
  exact h pins _ σ H xs _ Q I1 (by simpa using rv) hw
def gSub (to ti:TE) (t:TSet):TG:=fun v σ H Q=>to σ H fun o H1=>ti σ H1 fun i H2=>t o i v H2 fun H3=>Q σ H3
theorem pg_sub {o i:Expr} {to ti:TE} {t:TSet} (ho:PE X o to) (hi:PE X i ti) (hs:PSet X t)
    (ha:∀ v,assign (.Subscript o i pos) X.env v=(do
      let ov <- holding [v] (eval o X.env)
      let iv <- holding [v,ov] (eval i X.env)
      standAt pos
      holding [v,ov,iv] (setItem ov iv v)
      release [v,ov,iv] []):=by intro _; rfl):PG X (.Subscript o i pos) (gSub to ti t):=by
  intro pins s σ H v u Q I r h
  rw [ha]
  refine wpAny_bind (wpAny_holding (thn (ho pins s σ H _ I h) fun ov s1 ⟨x,H1,I1,r1,q1⟩=>?_))
  refine wpAny_bind (wpAny_holding (thn (hi pins s1 σ H1 _ I1 q1) fun iv s2 ⟨y,H2,I2,r2,q2⟩=>?_))
  refine wpAny_bind (wpAny_standAt (wpAny_bind (wpAny_holding (thn (hs pins s2 σ H2 x y v ov iv u _ I2 r1 r2 r q2) fun _ s3 ⟨H3,I3,q3⟩=>?_))))
  exact wpAny_release ⟨σ,H3,I3,q3⟩
def tAsg (te:TE) (g:TG):TS:=fun D σ H=>te σ H fun x H1=>g x σ H1 D.nx
theorem ps_asg {tg e:Expr} {te:TE} {g:TG} (he:PE X e te) (hg:PG X tg g) (hs:swapsWithSole [tg] e pos.line X.env=pure false:=by rfl) (hw:swappedStores [tg] e X.env=pure none:=by rfl)
    (h1:(assignEach [tg] X.env).map (·.2)=[assign tg X.env]:=by rfl):PS X (.Assign [tg] e pos) (tAsg te g):=by
  intro pins s σ H D I h
  refine wpAny_Assign_stores (thn (he pins s σ H _ I h) fun v s1 ⟨x,H1,I1,r1,q1⟩=>?_) hs hw
  rw [h1]
  exact thn (hg pins s1 σ H1 x v _ I1 r1 q1) fun _ s2 q=>q
theorem ps_set {i:Nat} {x:Str} {e:Expr} {te:TE} {pos':Pos} (hN:X.N.Nodup) (hi:X.N[i]?=some x) (hx:Loc X.env.scope x) (he:PE X e te) (hs:swapsWith e (some (.Name x pos')) pos.line X.env=pure false:=by rfl) (hf:X.fn x=true\/X.env.scope.names.lookup x=some .local:=by first | exact .inl rfl | exact .inr rfl | assumption) :
    PS X (.Assign [.Name x pos'] e pos) (tAsg te (gName i)):=by
  intro pins s σ H D I h
  refine wpAny_Assign_Name (thn (he pins s σ H _ I h) fun v s1 ⟨y,H1,I1,r1,q1⟩=>?_) hs
  exact store_ok I1 hN hi hx r1 (fun s2 I2=>⟨_,H1,I2,q1⟩) hf
end
section
variable {X:Cx} {pos:Pos}
def tWhile (c:TT) (tb:TS):TS:=fun D σ H=>∃ W:Nat->St->Hp->Prop,(∃ m,W m σ H)/\∀ m σ H,W m σ H ->
  c σ H fun b H1=>if b=true then ∃ N:St->Hp->Prop,(∀ σ' H',N σ' H'->∃ m',m' < m/\W m' σ' H')/\tb { D with nx:=N,ct:=N,bk:=D.nx } σ H1 else D.nx σ H1
theorem ps_while {c:Expr} {body:List Stmt} {tc:TT} {tb:TS} (hp:PassesOwn (model X.prog X.w) X.A X.env X.xe) (hc:PT X c tc) (hb:PSs X body tb):PS X (.While c body [] pos) (tWhile tc tb):=by
  intro pins s σ H D I h
  obtain ⟨W,⟨m0,w0⟩,turn⟩:=h
  refine wpAny_While (codeAny_whileLoop (fun n s'=>∃ σ' H',Inv X pins σ' H' s'/\W n σ' H') ?_ m0 ⟨σ,H,I,w0⟩)
  rintro n s1 ⟨σ1,H1,I1,w1⟩
  refine wpAny_passesOwn hp (thn (hc pins s1 σ1 H1 _ I1 (turn n σ1 H1 w1)) fun b s2 ⟨H2,I2,q2⟩=>?_)
  cases b with
  | true =>
    obtain ⟨N,hN,q2⟩:=q2
    rw [if_pos rfl]
    refine wpAny_passesOwn hp (thn (hb pins s2 σ1 H2 _ I2 q2) fun f s3 q3=>?_)
    cases f with
    | next =>
      obtain ⟨σ3,H3,I3,n3⟩:=q3
      obtain ⟨m',hm,w3⟩:=hN σ3 H3 n3
      exact ⟨m',hm,σ3,H3,I3,w3⟩
    | cont =>
      obtain ⟨σ3,H3,I3,n3⟩:=q3
      obtain ⟨m',hm,w3⟩:=hN σ3 H3 n3
      exact ⟨m',hm,σ3,H3,I3,w3⟩
    | brk=>exact q3
    | ret v=>exact q3
  | false =>
    rw [if_neg Bool.false_ne_true]
    exact wpAny_execs_nil ⟨σ1,H2,I2,q2⟩
end
structure It where
  go:Nat->Hp->Prop
  yld:Nat->Hp->V->Hp->Prop
  stop:Nat->Hp->Prop
def FpOk (X:Cx) (pins:List (Addr × Obj)) (H:Hp) (b:Addr):Prop :=
  H b=none/\b≠X.env.locals/\b ∉ X.fs/\(b∈X.ex\/X.s₀.heap.objs.size<=b)/\(∀ x c,X.env.cells.lookup x=some c->c≠b)/\∀ p∈X.pn ++ pins,p.1≠b
theorem Inv.fpOk {X:Cx} {pins:List (Addr × Obj)} {σ:St} {H H':Hp} {s:Shared} {b:Addr} (I:Inv X pins σ H s) (hb:s.heap.objs.size<=b) (hn:H' b=none):FpOk X pins H' b:=by
  refine ⟨hn,Nat.ne_of_gt (Nat.lt_of_lt_of_le I.lt hb),I.nofs hb,.inr (Nat.le_trans I.sz hb),fun x c e z=>?_,fun p hp z=>?_⟩
  · obtain ⟨v,q⟩:=I.cell x c e
    exact absurd (Nat.lt_of_lt_of_le q.lt (by rw [z]; exact hb)) (Nat.lt_irrefl _)
  · exact absurd (Nat.lt_of_lt_of_le (Heap.lt_size (I.pin p hp).1) (by rw [z]; exact hb)) (Nat.lt_irrefl _)
structure Turn (P:Program) (w:World) (K:PySem.W.Frag) (tg:Expr) (J:It) (fp:List Addr) (it:Addr) (tn:Nat->Heap->Prop):Prop where
  mem:it∈fp
  obj:∀ i h,tn i h->∀ b∈fp,∃ o,h.get? b=some o/\∀ v,o.data≠.cell v
  keep:∀ i h h',tn i h->(∀ b∈fp,∀ o,h.get? b=some o->h'.get? b=some o)->tn i h'
  item:∀ (X:Cx),X.prog=P->X.w=w->X.K=K->X.calm=true->∀ (i:Nat) (pins:List (Addr × Obj)) (s:Shared) (σ:St) (H:Hp) (E:Value->Shared->Prop),Inv X pins σ H s->(∀ b∈fp,FpOk X pins H b)->tn i s.heap->J.go i H ->
    wpAny (model P w) X.A (pyNext (.ref it)) (fun r s1=>∃ u,r=some u /\
      wpAny (model P w) X.A (letOwnedTupleGo tg (.ref it) u) (fun _ s2=>∃ x H',Inv X pins σ H' s2/\RelV x u/\J.yld i H x H'/\tn (i + 1) s2.heap/\∀ b∈fp,H' b=none) E s1) E s
  done:∀ (X:Cx),X.prog=P->X.w=w->X.K=K->X.calm=true->∀ (i:Nat) (pins:List (Addr × Obj)) (s:Shared) (σ:St) (H:Hp) (E:Value->Shared->Prop),Inv X pins σ H s->(∀ b∈fp,FpOk X pins H b)->tn i s.heap->J.stop i H ->
    wpAny (model P w) X.A (pyNext (.ref it)) (fun r s1=>r=none/\Inv X pins σ H s1) E s
  self:∀ (A:Around) (i:Nat) (s:Shared) (Q:Value->Shared->Prop) (E:Value->Shared->Prop),tn i s.heap->Q (.ref it) s->wpAny (model P w) A (pyIter (.ref it)) Q E s
abbrev TI:=St->Hp->(It->Hp->Prop)->Prop
def PIE (X:Cx) (pins:List (Addr × Obj)) (σ:St) (tg:Expr) (R:It->Hp->Prop) (itv:Value) (s2:Shared):Prop :=
  ∃ (it:Addr) (fp:List Addr) (tn:Nat->Heap->Prop) (J:It) (H':Hp),itv=.ref it/\Inv X pins σ H' s2/\Turn X.prog X.w X.K tg J fp it tn/\tn 0 s2.heap/\(∀ b∈fp,FpOk X pins H' b)/\R J H'
def PI (X:Cx) (tg iter:Expr) (wi:TI):Prop :=
  ∀ (pins:List (Addr × Obj)) (s:Shared) (σ:St) (H:Hp) (R:It->Hp->Prop),Inv X pins σ H s->wi σ H R ->
    wpAny (model X.prog X.w) X.A (eval iter X.env) (fun v s1=>wpAny (model X.prog X.w) X.A (pyIter v) (PIE X pins σ tg R) X.xe s1) X.xe s
theorem go_of {M:Model} {A:Around} {E:Value->Shared->Prop} {s:Shared} {tg:Expr} {it:Addr} {u:Value} {o:Obj} {n:String} {vs:Array Value} {Q:Unit->Shared->Prop} (ho:s.heap.get? it=some o) (hc:o.cls=.type n) (hd:o.data=.fields vs)
    (hn:["enumerate","zip","dict_itemiterator","dict_reverseitemiterator","odict_iterator","itertools.zip_longest","itertools.pairwise"].contains n=false) (hQ:Q () s):wpAny M A (letOwnedTupleGo tg (.ref it) u) Q E s:=by
  unfold letOwnedTupleGo
  cases tg <;> first
    | exact wpAny_pure hQ
    | (cases u <;> first
        | exact wpAny_pure hQ
        | (refine wpAny_bind (wpAny_load ho ?_)
           rw [hc,hd]
           show wpAny M A (if (["enumerate","zip","dict_itemiterator","dict_reverseitemiterator","odict_iterator","itertools.zip_longest","itertools.pairwise"].contains n && vs[0]? == some (rawInt _))=true then _ else _) Q E s
           rw [if_neg (by intro h; rw [hn,Bool.false_and] at h; cases h)]
           exact wpAny_pure hQ))
def Itl (K:PySem.W.Frag) (a:Addr):It :=
  ⟨fun i H=>∃ xs x,SqL K H a xs/\xs[i]?=some x,fun i H x H'=>H'=H/\∀ xs,SqL K H a xs->xs[i]?=some x,fun i H=>∃ xs,SqL K H a xs/\xs.length<=i⟩
def Itt (K:PySem.W.Frag) (a:Addr):It :=
  ⟨fun i H=>∃ xs x,SqT K H a xs/\xs[i]?=some x,fun i H x H'=>H'=H/\∀ xs,SqT K H a xs->xs[i]?=some x,fun i H=>∃ xs,SqT K H a xs/\xs.length<=i⟩
def Itr (lo:Int) (n:Nat):It:=⟨fun i _=>i < n,fun i H x H'=>H'=H/\x=.int (lo + i),fun i _=>n<=i⟩
theorem turn_list {P:Program} {w:World} {K:PySem.W.Frag} {tg:Expr} (a it:Addr):Turn P w K tg (Itl K a) [it] it (fun i h=>h.IsListIter it a i) where
  mem:=by simp
  obj:=fun i h st b hb=>by
    have e:b=it:=by simpa using hb
    subst e
    obtain ⟨o,e,c,d⟩:=st
    exact ⟨o,e,fun v z=>by rw [d] at z; cases z⟩
  keep:=fun i h h' st k=>st.at fun o e=>k it (by simp) o e
  item:=by
    intro X hP hw hK hc i pins s σ H E I hf st hg
    subst hP hw hK
    obtain ⟨xs,x,hq,hx⟩:=hg
    obtain ⟨its,rv,p,hz⟩:=I.list hq
    obtain ⟨u,hu,ru⟩:=rv.get hx
    obtain ⟨f0,f1,f2,f3,f4,f5⟩:=hf it (by simp)
    refine wpAny_pyNext_list_item st p.isList (x:=u) (by simpa using hu) fun h' st' sb=>?_
    have I1:Inv X pins σ H { s with heap:=h' }:=I.turned (t':=s.toks) (fun b o hb e=>(sb.2 b hb).trans e) f0 f1 f3 f4 f5
    obtain ⟨o,e,c,d⟩:=id st'
    exact ⟨u,rfl,go_of (s:={ s with heap:=h' }) e c d (by decide) ⟨x,H,I1,ru,⟨rfl,fun ys hy=>by rw [I.list_inj hy hq]; exact hx⟩,st',fun b hb=>(hf b hb).1⟩⟩
  done:=by
    intro X hP hw hK hc i pins s σ H E I hf st hg
    subst hP hw hK
    obtain ⟨xs,hq,hx⟩:=hg
    obtain ⟨its,rv,p,hz⟩:=I.list hq
    obtain ⟨f0,f1,f2,f3,f4,f5⟩:=hf it (by simp)
    have hl:=rv.length
    exact wpAny_pyNext_list_end (I.ok.hd hc) st p.isList (by simp; omega) fun h' eb=>⟨rfl,I.turned (t':=s.toks) (fun b o hb e=>eb b o hb e) f0 f1 f3 f4 f5⟩
  self:=fun _ _ _ _ _ st h=>wpAny_pyIter_listiter st h
theorem turn_tuple {P:Program} {w:World} {K:PySem.W.Frag} {tg:Expr} (a it:Addr):Turn P w K tg (Itt K a) [it] it (fun i h=>h.IsTupleIter it a i) where
  mem:=by simp
  obj:=fun i h st b hb=>by
    have e:b=it:=by simpa using hb
    subst e
    obtain ⟨o,e,c,d⟩:=st
    exact ⟨o,e,fun v z=>by rw [d] at z; cases z⟩
  keep:=fun i h h' st k=>st.at fun o e=>k it (by simp) o e
  item:=by
    intro X hP hw hK hc i pins s σ H E I hf st hg
    subst hP hw hK
    obtain ⟨xs,x,hq,hx⟩:=hg
    obtain ⟨its,rv,p,hz⟩:=I.tuple hq
    obtain ⟨u,hu,ru⟩:=rv.get hx
    obtain ⟨f0,f1,f2,f3,f4,f5⟩:=hf it (by simp)
    refine wpAny_pyNext_tuple_item st (show s.heap.IsTuple a its.toArray from p) (x:=u) (by simpa using hu) fun h' st' sb=>?_
    have I1:Inv X pins σ H { s with heap:=h' }:=I.turned (t':=s.toks) (fun b o hb e=>(sb.2 b hb).trans e) f0 f1 f3 f4 f5
    obtain ⟨o,e,c,d⟩:=id st'
    exact ⟨u,rfl,go_of (s:={ s with heap:=h' }) e c d (by decide) ⟨x,H,I1,ru,⟨rfl,fun ys hy=>by rw [I.tuple_inj hy hq]; exact hx⟩,st',fun b hb=>(hf b hb).1⟩⟩
  done:=by
    intro X hP hw hK hc i pins s σ H E I hf st hg
    subst hP hw hK
    obtain ⟨xs,hq,hx⟩:=hg
    obtain ⟨its,rv,p,hz⟩:=I.tuple hq
    obtain ⟨f0,f1,f2,f3,f4,f5⟩:=hf it (by simp)
    have hl:=rv.length
    exact wpAny_pyNext_tuple_end (I.ok.hd hc) st (show s.heap.IsTuple a its.toArray from p) (by simp; omega) fun h' eb=>⟨rfl,I.turned (t':=s.toks) (fun b o hb e=>eb b o hb e) f0 f1 f3 f4 f5⟩
  self:=fun _ _ _ _ _ st h=>wpAny_pyIter_tupleiter st h
theorem turn_range {P:Program} {w:World} {K:PySem.W.Frag} {tg:Expr} (it:Addr) (lo:Int) (n:Nat):Turn P w K tg (Itr lo n) [it] it (fun i h=>IsRangeIter h it (lo + (i:Nat) * 1) ((n:Int) - (i:Nat)) 1) where
  mem:=by simp
  obj:=fun i h st b hb=>by
    have e:b=it:=by simpa using hb
    subst e
    exact ⟨_,st,fun v z=>by
      have z':Data.fields _=Data.cell v:=z
      cases z'⟩
  keep:=fun i h h' st k=>k it (by simp) _ st
  item:=by
    intro X hP hw hK hc i pins s σ H E I hf st hg
    subst hP hw hK
    obtain ⟨f0,f1,f2,f3,f4,f5⟩:=hf it (by simp)
    have W:=Walks.range (prog:=X.prog) (w:=X.w) (I.ok.hd hc) it lo 1 n
    refine W.item i s _ _ hg st fun v h' tk hv st' kk=>?_
    obtain ⟨t,rfl⟩:=hv
    have I1:Inv X pins σ H { s with heap:=h',toks:=tk }:=I.turned (fun b o hb e=>kk b o (by simpa using hb) e) f0 f1 f3 f4 f5
    refine ⟨_,rfl,go_of (s:={ s with heap:=h',toks:=tk }) (n:="range_iterator") st' rfl rfl (by decide) ⟨.int (lo + i),H,I1,⟨t,?_⟩,⟨rfl,rfl⟩,st',fun b hb=>(hf b hb).1⟩⟩
    rw [Int.mul_one]
  done:=by
    intro X hP hw hK hc i pins s σ H E I hf st hg
    subst hP hw hK
    obtain ⟨f0,f1,f2,f3,f4,f5⟩:=hf it (by simp)
    exact wpAny_pyNext_range_end (I.ok.hd hc) st (by have:n<=i:=hg; omega) fun h' eb=>⟨rfl,I.turned (t':=s.toks) (fun b o hb e=>eb b o hb e) f0 f1 f3 f4 f5⟩
  self:=fun _ _ _ _ _ st h=>wpAny_pyIter_rangeiter st h
end L2
namespace L2
open PySem PySem.Spec PyProof.Rows
section
variable {X:Cx} {tg:Expr}
def iList (K:PySem.W.Frag) (tl:TE):TI:=fun σ H R=>tl σ H fun x H1=>∃ a,x=.ref a/\(∃ xs,SqL K H1 a xs)/\R (Itl K a) H1
def iTup (K:PySem.W.Frag) (tl:TE):TI:=fun σ H R=>tl σ H fun x H1=>∃ a,x=.ref a/\(∃ xs,SqT K H1 a xs)/\R (Itt K a) H1
theorem pi_list {l:Expr} {tl:TE} (hl:PE X l tl):PI X tg l (iList X.K tl):=by
  intro pins s σ H R I h
  refine thn (hl pins s σ H _ I h) fun v s1 ⟨x,H1,I1,r1,q1⟩=>?_
  obtain ⟨a,e,⟨xs,hq⟩,q⟩:=q1
  subst e
  cases r1
  obtain ⟨its,rv,p,hz⟩:=I1.list hq
  refine wpAny_pyIter_list p.isList ?_
  refine ⟨s1.heap.objs.size,[s1.heap.objs.size],_,_,H1,rfl,I1.kept (t':=s1.toks) fun b o e=>Heap.get?_push_of_some _ e,turn_list a _,⟨_,Heap.get?_push_size _ rfl,rfl,rfl⟩,fun b hb=>?_,q⟩
  have e:b=s1.heap.objs.size:=by simpa using hb
  subst e
  exact I1.fpOk (Nat.le_refl _) (I1.hok.fresh (Nat.le_refl _))
theorem pi_tup {l:Expr} {tl:TE} (hl:PE X l tl):PI X tg l (iTup X.K tl):=by
  intro pins s σ H R I h
  refine thn (hl pins s σ H _ I h) fun v s1 ⟨x,H1,I1,r1,q1⟩=>?_
  obtain ⟨a,e,⟨xs,hq⟩,q⟩:=q1
  subst e
  cases r1
  obtain ⟨its,rv,p,hz⟩:=I1.tuple hq
  refine wpAny_pyIter_tuple (show s1.heap.IsTuple a its.toArray from p) ?_
  refine ⟨s1.heap.objs.size,[s1.heap.objs.size],_,_,H1,rfl,I1.kept (t':=s1.toks) fun b o e=>Heap.get?_push_of_some _ e,turn_tuple a _,⟨_,Heap.get?_push_size _ rfl,rfl,rfl⟩,fun b hb=>?_,q⟩
  have e:b=s1.heap.objs.size:=by simpa using hb
  subst e
  exact I1.fpOk (Nat.le_refl _) (I1.hok.fresh (Nat.le_refl _))
theorem range_it {pins:List (Addr × Obj)} {σ:St} {H:Hp} {s:Shared} {R:It->Hp->Prop} {E:Value->Shared->Prop} {lo hi:Int} {t u v:Tok} {tk:Nat} (I:Inv X pins σ H s) (h1:-(2 ^ 62)<=lo) (h2:lo < 2 ^ 62) (h3:-(2 ^ 62)<=hi) (h4:hi < 2 ^ 62)
    (q:R (Itr lo (hi - lo).toNat) H):wpAny (model X.prog X.w) X.A (pyIter (.ref s.heap.objs.size)) (PIE X pins σ tg R) E { s with heap:=s.heap.push { cls:=.type "range",data:=.fields #[.int lo t,.int hi u,.int 1 v] },toks:=tk }:=by
  refine wpAny_pyIter_range (IsRange.new ..) (small_one h1 h2 h3 h4) ?_
  have I1:Inv X pins σ H { s with heap:=s.heap.push { cls:=.type "range",data:=.fields #[.int lo t,.int hi u,.int 1 v] },toks:=tk }:=I.kept fun b o e=>Heap.get?_push_of_some _ e
  refine ⟨(s.heap.push { cls:=.type "range",data:=.fields #[.int lo t,.int hi u,.int 1 v] }).objs.size,[(s.heap.push { cls:=.type "range",data:=.fields #[.int lo t,.int hi u,.int 1 v] }).objs.size],_,_,H,rfl,
    I1.kept (t':=tk) fun b o e=>Heap.get?_push_of_some _ e,turn_range _ lo (hi - lo).toNat,?_,fun b hb=>?_,q⟩
  · have e1:lo + ((0:Nat):Int) * 1=lo:=by simp
    have e2:(((hi - lo).toNat:Nat):Int) - ((0:Nat):Int)=Builtin.Range.rangeSize lo hi 1:=by rw [rangeSize_one]; split <;> omega
    show IsRangeIter _ _ (lo + ((0:Nat):Int) * 1) ((((hi - lo).toNat:Nat):Int) - ((0:Nat):Int)) 1
    rw [e1,e2]
    exact Heap.get?_push_size _ rfl
  · have e:b=(s.heap.push { cls:=.type "range",data:=.fields #[.int lo t,.int hi u,.int 1 v] }).objs.size:=by simpa using hb
    subst e
    exact I1.fpOk (Nat.le_refl _) (I1.hok.fresh (Nat.le_refl _))
def iRng1 (ta:TA):TI:=fun σ H R=>ta σ H fun vs H1=>∃ j:Int,vs=[.int j]/\-(2 ^ 62)<=j/\j < 2 ^ 62/\R (Itr 0 j.toNat) H1
theorem pi_range1 {a:Expr} {ta:TA} {p pos:Pos} (hg:Gl X "range") (hm:X.mg "range"=none) (ha:PA X [a] ta) (hs:starEach [a] X.env=[(false,eval a X.env)]:=by rfl):PI X tg (.Call (.Name "range" p) [a] [] pos) (iRng1 ta):=by
  intro pins s σ H R I h
  refine Call_ (ld_blt I hg hm boot_range (PyProof.Rows.callWith_type1 (thn (ha pos pins s σ H _ I h) fun us s1 ⟨vs,H1,I1,r1,q1⟩=>?_) hs rfl))
  obtain ⟨j,e,q1,q2,q⟩:=q1
  subst e
  cases r1 with
  | cons r rr =>
    cases rr
    obtain ⟨t,rfl⟩:=r
    exact call_range_1 (range_it I1 (by omega) (by omega) q1 q2 (by simpa using q))
def tFor (wi:TI) (g:TG) (tb:TS):TS:=fun D σ H=>wi σ H fun J H1=>∃ W:Nat->Nat->St->Hp->Prop,(∃ m,W 0 m σ H1)/\∀ i m σ H,W i m σ H ->
  (J.stop i H/\D.nx σ H)\/(J.go i H/\∃ N:St->Hp->Prop,(∀ σ' H',N σ' H'->∃ m',m' < m/\W (i + 1) m' σ' H')/\∀ x H',J.yld i H x H'->g x σ H' fun σ2 H2=>tb { D with nx:=N,ct:=N,bk:=D.nx } σ2 H2)
def pinsAt (fp:List Addr) (h:Heap):List (Addr × Obj):=fp.filterMap fun b=>(h.get? b).map fun o=>(b,o)
theorem mem_pinsAt {fp:List Addr} {h:Heap} {b:Addr} {o:Obj} (hb:b∈fp) (e:h.get? b=some o):(b,o)∈pinsAt fp h:=List.mem_filterMap.mpr ⟨b,hb,by rw [e]; rfl⟩
theorem of_pinsAt {fp:List Addr} {h:Heap} {p:Addr × Obj} (hp:p∈pinsAt fp h):p.1∈fp/\h.get? p.1=some p.2:=by
  obtain ⟨b,hb,e⟩:=List.mem_filterMap.mp hp
  cases q:h.get? b with
  | none=>rw [q] at e; cases e
  | some o =>
    rw [q] at e
    have e':(b,o)=p:=Option.some.inj e
    subst e'
    exact ⟨hb,q⟩
theorem Inv.pinned {pins:List (Addr × Obj)} {σ:St} {H:Hp} {s:Shared} {fp:List Addr} (I:Inv X pins σ H s) (hf:∀ b∈fp,FpOk X pins H b) (ho:∀ b∈fp,∃ o,s.heap.get? b=some o/\∀ v,o.data≠.cell v):Inv X (pins ++ pinsAt fp s.heap) σ H s :=
  I.pins_of fun p hp=>(List.mem_append.mp hp).elim (fun z=>I.pin p (List.mem_append_right _ z)) fun z=>by
    obtain ⟨hb,e⟩:=of_pinsAt z
    obtain ⟨f0,f1,f2,_⟩:=hf p.1 hb
    obtain ⟨o,e',d⟩:=ho p.1 hb
    rw [e] at e'; cases e'
    exact ⟨e,f0,f1,f2,d⟩
theorem Inv.unpinned {pins pl:List (Addr × Obj)} {σ:St} {H:Hp} {s:Shared} (I:Inv X (pins ++ pl) σ H s):Inv X pins σ H s:=I.pins_of fun p hp=>I.pin p (List.mem_append_right _ (List.mem_append_left _ hp))
theorem ps_for {iter:Expr} {body:List Stmt} {wi:TI} {g:TG} {tb:TS} {pos:Pos} (hp:PassesOwn (model X.prog X.w) X.A X.env X.xe) (hc:X.calm=true) (hi:PI X tg iter wi) (hg:PG X tg g) (hb:PSs X body tb)
    (hs:∀ x,foldedSetIterable iter X.env x=pure x:=by intro _; rfl):PS X (.For tg iter body [] pos) (tFor wi g tb):=by
  intro pins s σ H D I h
  refine wpAny_For (thn (hi pins s σ H _ I h) fun v s1 h1=>thn h1 fun itv s2 h2=>?_) hs
  obtain ⟨it,fp,tn,J,H2,e,I2,T,st2,f2,W,⟨m0,w0⟩,turn⟩:=h2
  subst e
  -- what stays true of the iterator's objects through the loop
  have stat:∀ {H':Hp},(∀ b∈fp,H' b=none)->∀ b∈fp,FpOk X pins H' b:=fun hn b hb=>⟨hn b hb,(f2 b hb).2⟩
  refine codeAny_forLoop_any (fun n s'=>∃ i σ' H',Inv X pins σ' H' s'/\tn i s'.heap/\(∀ b∈fp,H' b=none)/\W i n σ' H') ?_ m0 ⟨0,σ,H2,I2,st2,fun b hb=>(f2 b hb).1,w0⟩
  rintro n s3 ⟨i,σ3,H3,I3,st3,fr3,w3⟩
  rcases turn i n σ3 H3 w3 with ⟨stop,qn⟩ | ⟨go,N,hN,step⟩
  · refine wpAny_passesOwn hp (thn (T.done X rfl rfl rfl hc i pins s3 σ3 H3 X.xe I3 (stat fr3) st3 stop) fun r s4 ⟨hr,I4⟩=>?_)
    subst hr
    exact wpAny_execs_nil ⟨σ3,H3,I4,qn⟩
  · refine wpAny_passesOwn hp (thn (T.item X rfl rfl rfl hc i pins s3 σ3 H3 X.xe I3 (stat fr3) st3 go) fun r s4 ⟨u,hr,h4⟩=>?_)
    subst hr
    refine wpAny_passesOwn hp (thn h4 fun _ s5 ⟨x,H5,I5,r5,y5,st5,fr5⟩=>?_)
    have I5':=I5.pinned (stat fr5) (T.obj _ _ st5)
    refine wpAny_passesOwn hp (thn (hg _ s5 σ3 H5 x u _ I5' r5 (step x H5 y5)) fun _ s6 ⟨σ6,H6,I6,q6⟩=>?_)
    refine wpAny_passesOwn hp (thn (hb _ s6 σ6 H6 _ I6 q6) fun f s7 q7=>?_)
    have again:∀ {σ7:St} {H7:Hp},Inv X (pins ++ pinsAt fp s5.heap) σ7 H7 s7->N σ7 H7->∃ m,m < n/\∃ i σ' H',Inv X pins σ' H' s7/\tn i s7.heap/\(∀ b∈fp,H' b=none)/\W i m σ' H':=fun {σ7 H7} I7 n7=>by
      obtain ⟨m',hm,w7⟩:=hN σ7 H7 n7
      refine ⟨m',hm,i + 1,σ7,H7,I7.unpinned,T.keep _ _ _ st5 fun b hb o e=>(I7.pin (b,o) (List.mem_append_right _ (List.mem_append_right _ (mem_pinsAt hb e)))).1,fun b hb=>?_,w7⟩
      obtain ⟨o,e,d⟩:=T.obj _ _ st5 b hb
      exact (I7.pin (b,o) (List.mem_append_right _ (List.mem_append_right _ (mem_pinsAt hb e)))).2.1
    cases f with
    | next=>obtain ⟨σ7,H7,I7,n7⟩:=q7; exact again I7 n7
    | cont=>obtain ⟨σ7,H7,I7,n7⟩:=q7; exact again I7 n7
    | brk=>obtain ⟨σ7,H7,I7,q7⟩:=q7; exact ⟨σ7,H7,I7.unpinned,q7⟩
    | ret v=>obtain ⟨x7,σ7,H7,I7,r7,q7⟩:=q7; exact ⟨x7,σ7,H7,I7.unpinned,r7,q7⟩
end
theorem for_list {K:PySem.W.Frag} {a:Addr} {xs:List V} {g:TG} {tb:TS} {D:Ends} {σ:St} {H:Hp} (Pv:Nat->St->Hp->Prop) (h0:Pv 0 σ H) (hl:∀ i σ H,i<=xs.length->Pv i σ H->SqL K H a xs)
    (hs:∀ i x σ H,xs[i]?=some x->Pv i σ H->g x σ H fun σ2 H2=>tb { D with nx:=Pv (i + 1),ct:=Pv (i + 1),bk:=D.nx } σ2 H2) (hd:∀ σ H,Pv xs.length σ H->D.nx σ H) :
    ∃ W:Nat->Nat->St->Hp->Prop,(∃ m,W 0 m σ H)/\∀ i m σ H,W i m σ H ->
      ((Itl K a).stop i H/\D.nx σ H)\/((Itl K a).go i H/\∃ N:St->Hp->Prop,(∀ σ' H',N σ' H'->∃ m',m' < m/\W (i + 1) m' σ' H')/\∀ x H',(Itl K a).yld i H x H'->g x σ H' fun σ2 H2=>tb { D with nx:=N,ct:=N,bk:=D.nx } σ2 H2):=by
  refine ⟨fun i m σ H=>m=xs.length - i/\i<=xs.length/\Pv i σ H,⟨xs.length,by simp,Nat.zero_le _,h0⟩,?_⟩
  rintro i m σ H ⟨rfl,hi,p⟩
  have q:=hl i σ H hi p
  by_cases hlt:i < xs.length
  · refine .inr ⟨⟨xs,xs[i],q,by simp [hlt]⟩,Pv (i + 1),fun σ' H' p'=>⟨xs.length - (i + 1),by omega,rfl,hlt,p'⟩,fun x H' y=>?_⟩
    obtain ⟨e,y⟩:=y
    subst e
    exact hs i x σ _ (y xs q) p
  · have e:i=xs.length:=by omega
    subst e
    exact .inl ⟨⟨xs,q,Nat.le_refl _⟩,hd σ H p⟩
theorem for_tup {K:PySem.W.Frag} {a:Addr} {xs:List V} {g:TG} {tb:TS} {D:Ends} {σ:St} {H:Hp} (Pv:Nat->St->Hp->Prop) (h0:Pv 0 σ H) (hl:∀ i σ H,i<=xs.length->Pv i σ H->SqT K H a xs)
    (hs:∀ i x σ H,xs[i]?=some x->Pv i σ H->g x σ H fun σ2 H2=>tb { D with nx:=Pv (i + 1),ct:=Pv (i + 1),bk:=D.nx } σ2 H2) (hd:∀ σ H,Pv xs.length σ H->D.nx σ H) :
    ∃ W:Nat->Nat->St->Hp->Prop,(∃ m,W 0 m σ H)/\∀ i m σ H,W i m σ H ->
      ((Itt K a).stop i H/\D.nx σ H)\/((Itt K a).go i H/\∃ N:St->Hp->Prop,(∀ σ' H',N σ' H'->∃ m',m' < m/\W (i + 1) m' σ' H')/\∀ x H',(Itt K a).yld i H x H'->g x σ H' fun σ2 H2=>tb { D with nx:=N,ct:=N,bk:=D.nx } σ2 H2):=by
  refine ⟨fun i m σ H=>m=xs.length - i/\i<=xs.length/\Pv i σ H,⟨xs.length,by simp,Nat.zero_le _,h0⟩,?_⟩
  rintro i m σ H ⟨rfl,hi,p⟩
  have q:=hl i σ H hi p
  by_cases hlt:i < xs.length
  · refine .inr ⟨⟨xs,xs[i],q,by simp [hlt]⟩,Pv (i + 1),fun σ' H' p'=>⟨xs.length - (i + 1),by omega,rfl,hlt,p'⟩,fun x H' y=>?_⟩
    obtain ⟨e,y⟩:=y
    subst e
    exact hs i x σ _ (y xs q) p
  · have e:i=xs.length:=by omega
    subst e
    exact .inl ⟨⟨xs,q,Nat.le_refl _⟩,hd σ H p⟩
end L2
namespace L2
open PySem PySem.Spec PyProof.Rows
abbrev R2:=V->V->Hp->VK->Prop
def OpR (X:Cx) (f:Value->Value->Sem Value) (r:R2):Prop :=
  ∀ (pins:List (Addr × Obj)) (s:Shared) (σ:St) (H:Hp) (x y:V) (v u:Value) (Q:VK),Inv X pins σ H s->RelV x v->RelV y u->r x y H Q ->
    wpAny (model X.prog X.w) X.A (f v u) (EP X pins σ Q) X.xe s
def UnR (X:Cx) (f:Value->Sem Value) (r:V->Hp->VK->Prop):Prop :=
  ∀ (pins:List (Addr × Obj)) (s:Shared) (σ:St) (H:Hp) (x:V) (v:Value) (Q:VK),Inv X pins σ H s->RelV x v->r x H Q ->
    wpAny (model X.prog X.w) X.A (f v) (EP X pins σ Q) X.xe s
def CallR (X:Cx) (f:Value) (r:List V->Hp->VK->Prop):Prop :=
  ∀ (pins:List (Addr × Obj)) (s:Shared) (σ:St) (H:Hp) (xs:List V) (us:List Value) (Q:VK),Inv X pins σ H s->Vals xs us->r xs H Q ->
    wpAny (model X.prog X.w) X.A (call f us) (EP X pins σ Q) X.xe s
def tOp (r:R2) (ta tb:TE):TE:=fun σ H Q=>ta σ H fun x H1=>tb σ H1 fun y H2=>r x y H2 Q
def tUn (r:V->Hp->VK->Prop) (ta:TE):TE:=fun σ H Q=>ta σ H fun x H1=>r x H1 Q
def rI (C:Int->Int->Prop) (g:Int->Int->V):R2:=fun x y H Q=>∃ i j,x=.int i/\y=.int j/\C i j/\Q (g i j) H
def rI0 (g:Int->Int->V):R2:=fun x y H Q=>∃ i j,x=.int i/\y=.int j/\Q (g i j) H
def rU (g:Int->V):V->Hp->VK->Prop:=fun x H Q=>∃ i,x=.int i/\Q (g i) H
section
variable {X:Cx} {a b c:Expr} {ta tb tc:TE} {pos:Pos}
theorem binT (ha:PE X a ta) (hb:PE X b tb) {pins:List (Addr × Obj)} {s:Shared} {σ:St} {H:Hp} {R:V->V->Hp->Prop} (I:Inv X pins σ H s)
    (h:ta σ H fun x H1=>tb σ H1 fun y H2=>R x y H2) {Q:Value->Shared->Prop} {f:Value->Value->Sem Value}
    (hf:∀ v u s2 x y H2,Inv X pins σ H2 s2->RelV x v->RelV y u->R x y H2->wpAny (model X.prog X.w) X.A (f v u) Q X.xe s2) :
    wpAny (model X.prog X.w) X.A (eval a X.env) (fun v s₁=>wpAny (model X.prog X.w) X.A (eval b X.env) (fun u s₂=>wpAny (model X.prog X.w) X.A (f v u) Q X.xe s₂) X.xe s₁) X.xe s:=by
  refine thn (ha pins s σ H _ I h) fun v s1 ⟨x,H1,I1,r1,q1⟩=>?_
  refine thn (hb pins s1 σ H1 _ I1 q1) fun u s2 ⟨y,H2,I2,r2,q2⟩=>?_
  exact hf v u s2 x y H2 I2 r1 r2 q2
theorem pe_op {op:Operator} {r:R2} (ho:OpR X (binaryOp op) r) (ha:PE X a ta) (hb:PE X b tb):PE X (.BinOp a op b pos) (tOp r ta tb):=by
  intro pins s σ H Q I h
  exact wpAny_BinOp (binT ha hb I h fun v u s2 x y H2 I2 rx ry q=>ho pins s2 σ H2 x y v u Q I2 rx ry q)
theorem pe_un {op:UnaryOp} {r:V->Hp->VK->Prop} (ho:UnR X (unaryOp op) r) (ha:PE X a ta):PE X (.UnaryOp op a pos) (tUn r ta):=by
  intro pins s σ H Q I h
  exact UnaryOp_ (thn (ha pins s σ H _ I h) fun v s1 ⟨x,H1,I1,r1,q1⟩=>ho pins s1 σ H1 x v Q I1 r1 q1)
theorem opI {f:Value->Value->Sem Value} {C:Int->Int->Prop} {g:Int->Int->Int}
    (rule:∀ (i j:Int) (t u:Tok) (s:Shared) (Q:Value->Shared->Prop) (E:Value->Shared->Prop),C i j->Q (.int (g i j) s.toks) { s with toks:=s.toks + 1 }->wpAny (model X.prog X.w) X.A (f (.int i t) (.int j u)) Q E s) :
    OpR X f (rI C fun i j=>.int (g i j)):=by
  intro pins s σ H x y v u Q I rx ry h
  obtain ⟨i,j,rfl,rfl,hc,q⟩:=h
  obtain ⟨t,rfl⟩:=rx
  obtain ⟨t',rfl⟩:=ry
  exact rule i j t t' s _ _ hc ⟨.int (g i j),H,I.tok _,⟨_,rfl⟩,q⟩
theorem opI0 {f:Value->Value->Sem Value} {g:Int->Int->Int}
    (rule:∀ (i j:Int) (t u:Tok) (s:Shared) (Q:Value->Shared->Prop) (E:Value->Shared->Prop),Q (.int (g i j) s.toks) { s with toks:=s.toks + 1 }->wpAny (model X.prog X.w) X.A (f (.int i t) (.int j u)) Q E s) :
    OpR X f (rI0 fun i j=>.int (g i j)):=by
  intro pins s σ H x y v u Q I rx ry h
  obtain ⟨i,j,rfl,rfl,q⟩:=h
  obtain ⟨t,rfl⟩:=rx
  obtain ⟨t',rfl⟩:=ry
  exact rule i j t t' s _ _ ⟨.int (g i j),H,I.tok _,⟨_,rfl⟩,q⟩
theorem opB0 {f:Value->Value->Sem Value} {g:Int->Int->Bool}
    (rule:∀ (i j:Int) (t u:Tok) (s:Shared) (Q:Value->Shared->Prop) (E:Value->Shared->Prop),Q (.bool (g i j)) s->wpAny (model X.prog X.w) X.A (f (.int i t) (.int j u)) Q E s) :
    OpR X f (rI0 fun i j=>.bl (g i j)):=by
  intro pins s σ H x y v u Q I rx ry h
  obtain ⟨i,j,rfl,rfl,q⟩:=h
  obtain ⟨t,rfl⟩:=rx
  obtain ⟨t',rfl⟩:=ry
  exact rule i j t t' s _ _ ⟨.bl (g i j),H,I,rfl,q⟩
def CDiv (i j:Int):Prop:=0 < j/\j < 1073741824
def CPow (i j:Int):Prop:=0<=j/\j<=1000000/\i.natAbs < 2 ^ 64
def CMul (i j:Int):Prop:=(-(2 ^ 64) < i/\i < 2 ^ 64)\/(-(2 ^ 64) < j/\j < 2 ^ 64)
theorem CMul.ok {i j:Int} (h:CMul i j):IntMulOk i j:=by
  rcases h with ⟨h1,h2⟩ | ⟨h1,h2⟩
  · exact .of_left (intBits_le_64 h1 h2)
  · exact .of_right (intBits_le_64 h1 h2)
theorem op_add:OpR X (binaryOp .Add) (rI0 fun i j=>.int (i + j)):=opI0 fun _ _ _ _ _ _ _ q=>add_int q
theorem op_sub:OpR X (binaryOp .Sub) (rI0 fun i j=>.int (i - j)):=opI0 fun _ _ _ _ _ _ _ q=>sub_int q
theorem op_mul:OpR X (binaryOp .Mult) (rI CMul fun i j=>.int (i * j)):=opI fun _ _ _ _ _ _ _ hc q=>mul_int q hc.ok
theorem op_fdiv:OpR X (binaryOp .FloorDiv) (rI CDiv fun i j=>.int (i / j)):=opI fun i j _ _ _ _ _ hc q=>by
  have h1:(0:Int) < j:=hc.1
  have h2:j < 1073741824:=hc.2
  exact floordiv_int (by omega) (by rw [Int.fdiv_eq_ediv_of_nonneg i (by omega)]; exact q) (.inl (PyProof.noPylong_small (by omega)))
theorem op_mod:OpR X (binaryOp .Mod) (rI (fun _ j=>0 < j) fun i j=>.int (i % j)):=opI fun i j _ _ _ _ _ hc q=>by
  have h1:(0:Int) < j:=hc
  exact mod_int' (by omega) (by rw [Int.fmod_eq_emod_of_nonneg i (by omega)]; exact q)
theorem op_modN:OpR X (binaryOp .Mod) (rI (fun _ j=>j≠0) fun i j=>.int (i.fmod j)):=opI fun _ _ _ _ _ _ _ hc q=>mod_int' hc q
theorem op_pow:OpR X (binaryOp .Pow) (rI CPow fun i j=>.int (i ^ j.toNat)):=opI fun _ _ _ _ _ _ _ hc q=>pow_int_small hc.1 hc.2.1 hc.2.2 q
theorem unI {f:Value->Sem Value} {g:Int->Int}
    (rule:∀ (i:Int) (t:Tok) (s:Shared) (Q:Value->Shared->Prop) (E:Value->Shared->Prop),Q (.int (g i) s.toks) { s with toks:=s.toks + 1 }->wpAny (model X.prog X.w) X.A (f (.int i t)) Q E s) :
    UnR X f (rU fun i=>.int (g i)):=by
  intro pins s σ H x v Q I rx h
  obtain ⟨i,rfl,q⟩:=h
  obtain ⟨t,rfl⟩:=rx
  exact rule i t s _ _ ⟨.int (g i),H,I.tok _,⟨_,rfl⟩,q⟩
theorem un_neg:UnR X (unaryOp .USub) (rU fun i=>.int (-i)):=unI fun _ _ _ _ _ q=>neg_int q
end
def scal:V->V->Bool
  | .non,.non=>true | .non,.int _=>true | .int _,.non=>true | .non,.bl _=>true | .bl _,.non=>true | .non,.str _=>true | .str _,.non=>true
  | .int _,.int _=>true | .bl _,.bl _=>true | .str _,.str _=>true | .byt _,.byt _=>true
  | .int _,.str _=>true | .str _,.int _=>true | .bl _,.str _=>true | .str _,.bl _=>true
  | _,_=>false
def rEq:R2:=fun x y H Q=>scal x y=true/\Q (.bl (decide (x=y))) H
def rNe:R2:=fun x y H Q=>scal x y=true/\Q (.bl (!decide (x=y))) H
theorem dec_int {i j:Int}:decide (V.int i=V.int j)=(i == j):=by
  rw [Bool.eq_iff_iff]
  simp
theorem dec_bl {i j:Bool}:decide (V.bl i=V.bl j)=(i == j):=by
  rw [Bool.eq_iff_iff]
  simp
theorem dec_str {i j:Str}:decide (V.str i=V.str j)=(i == j):=by
  rw [Bool.eq_iff_iff]
  simp
theorem dec_byt {i j:Array UInt8}:decide (V.byt i=V.byt j)=(i.toList == j.toList):=by
  rw [Bool.eq_iff_iff]
  cases i
  cases j
  simp
section
variable {X:Cx} {a b c:Expr} {ta tb tc:TE} {pos:Pos}
theorem fin_bl {pins:List (Addr × Obj)} {σ:St} {H:Hp} {s:Shared} {Q:VK} {k k':Bool} (I:Inv X pins σ H s) (q:Q (.bl k) H) (e:k=k'):EP X pins σ Q (.bool k') s:=by
  subst e
  exact ⟨.bl k,H,I,rfl,q⟩
theorem op_eq:OpR X (compareOp .Eq) rEq:=by
  intro pins s σ H x y v u Q I rx ry h
  obtain ⟨hs,q⟩:=h
  cases x with
  | non =>
    cases rx
    cases y with
    | non=>cases ry; exact PySem.EqNone.eq_none_none (fin_bl I q (by simp))
    | bl j=>cases ry; exact PySem.EqNone.eq_none_bool (fin_bl I q (by simp))
    | int j=>obtain ⟨t',rfl⟩:=ry; exact PySem.EqNone.eq_none_int (fin_bl I q (by simp))
    | str j=>obtain ⟨t',rfl⟩:=ry; exact PySem.EqNone.eq_none_str (fin_bl I q (by simp))
    | _=>exact absurd (show false=true from hs) Bool.false_ne_true
  | bl i =>
    cases rx
    cases y with
    | non=>cases ry; exact PySem.EqNone.eq_bool_none (fin_bl I q (by simp))
    | bl j=>cases ry; exact eq_bool (fin_bl I q dec_bl)
    | str j=>obtain ⟨t',rfl⟩:=ry; exact PySem.EqMixed.eq_bool_str (fin_bl I q (by simp))
    | _=>exact absurd (show false=true from hs) Bool.false_ne_true
  | int i =>
    obtain ⟨t,rfl⟩:=rx
    cases y with
    | non=>cases ry; exact PySem.EqNone.eq_int_none (fin_bl I q (by simp))
    | int j=>obtain ⟨t',rfl⟩:=ry; exact eq_int (fin_bl I q dec_int)
    | str j=>obtain ⟨t',rfl⟩:=ry; exact PySem.EqMixed.eq_int_str (fin_bl I q (by simp))
    | _=>exact absurd (show false=true from hs) Bool.false_ne_true
  | str i =>
    obtain ⟨t,rfl⟩:=rx
    cases y with
    | non=>cases ry; exact PySem.EqNone.eq_str_none (fin_bl I q (by simp))
    | bl j=>cases ry; exact PySem.EqMixed.eq_str_bool (fin_bl I q (by simp))
    | int j=>obtain ⟨t',rfl⟩:=ry; exact PySem.EqMixed.eq_str_int (fin_bl I q (by simp))
    | str j=>obtain ⟨t',rfl⟩:=ry; exact eq_str (fin_bl I q dec_str)
    | _=>exact absurd (show false=true from hs) Bool.false_ne_true
  | byt i =>
    obtain ⟨t,rfl⟩:=rx
    cases y with
    | byt j=>obtain ⟨t',rfl⟩:=ry; exact PySem.W.eq_bytes (fin_bl I q dec_byt)
    | _=>exact absurd (show false=true from hs) Bool.false_ne_true
  | _=>cases y <;> exact absurd (show false=true from hs) Bool.false_ne_true
theorem op_ne:OpR X (compareOp .NotEq) rNe:=by
  intro pins s σ H x y v u Q I rx ry h
  obtain ⟨hs,q⟩:=h
  cases x with
  | non =>
    cases rx
    cases y with
    | non=>cases ry; exact PySem.EqNone.ne_none_none (fin_bl I q (by simp))
    | bl j=>cases ry; exact PySem.EqNone.ne_none_bool (fin_bl I q (by simp))
    | int j=>obtain ⟨t',rfl⟩:=ry; exact PySem.EqNone.ne_none_int (fin_bl I q (by simp))
    | str j=>obtain ⟨t',rfl⟩:=ry; exact PySem.EqNone.ne_none_str (fin_bl I q (by simp))
    | _=>exact absurd (show false=true from hs) Bool.false_ne_true
  | bl i =>
    cases rx
    cases y with
    | non=>cases ry; exact PySem.EqNone.ne_bool_none (fin_bl I q (by simp))
    | bl j=>cases ry; exact ne_bool (fin_bl I q (congrArg not dec_bl))
    | str j=>obtain ⟨t',rfl⟩:=ry; exact PySem.EqMixed.ne_bool_str (fin_bl I q (by simp))
    | _=>exact absurd (show false=true from hs) Bool.false_ne_true
  | int i =>
    obtain ⟨t,rfl⟩:=rx
    cases y with
    | non=>cases ry; exact PySem.EqNone.ne_int_none (fin_bl I q (by simp))
    | int j=>obtain ⟨t',rfl⟩:=ry; exact ne_int (fin_bl I q (congrArg not dec_int))
    | str j=>obtain ⟨t',rfl⟩:=ry; exact PySem.EqMixed.ne_int_str (fin_bl I q (by simp))
    | _=>exact absurd (show false=true from hs) Bool.false_ne_true
  | str i =>
    obtain ⟨t,rfl⟩:=rx
    cases y with
    | non=>cases ry; exact PySem.EqNone.ne_str_none (fin_bl I q (by simp))
    | bl j=>cases ry; exact PySem.EqMixed.ne_str_bool (fin_bl I q (by simp))
    | int j=>obtain ⟨t',rfl⟩:=ry; exact PySem.EqMixed.ne_str_int (fin_bl I q (by simp))
    | str j=>obtain ⟨t',rfl⟩:=ry; exact ne_str (fin_bl I q (congrArg not dec_str))
    | _=>exact absurd (show false=true from hs) Bool.false_ne_true
  | byt i =>
    obtain ⟨t,rfl⟩:=rx
    cases y with
    | byt j=>obtain ⟨t',rfl⟩:=ry; exact PySem.W.ne_bytes (fin_bl I q (congrArg not dec_byt))
    | _=>exact absurd (show false=true from hs) Bool.false_ne_true
  | _=>cases y <;> exact absurd (show false=true from hs) Bool.false_ne_true
theorem op_lt:OpR X (compareOp .Lt) (rI0 fun i j=>.bl (decide (i < j))):=opB0 fun _ _ _ _ _ _ _ q=>lt_int q
theorem op_gt:OpR X (compareOp .Gt) (rI0 fun i j=>.bl (decide (j < i))):=opB0 fun _ _ _ _ _ _ _ q=>gt_int q
theorem op_ge:OpR X (compareOp .GtE) (rI0 fun i j=>.bl (decide (j<=i))):=opB0 fun _ _ _ _ _ _ _ q=>ge_int q
theorem OpR.or {f:Value->Value->Sem Value} {r r':R2} (h:OpR X f r) (h':OpR X f r'):OpR X f (fun x y H Q=>r x y H Q\/r' x y H Q):=by
  intro pins s σ H x y v u Q I rx ry q
  rcases q with q | q
  · exact h pins s σ H x y v u Q I rx ry q
  · exact h' pins s σ H x y v u Q I rx ry q
theorem nomark (b:Expr) {op:CmpOp} (h:op≠.In:=by decide) (h2:op≠.NotIn:=by decide):behindInMarks op b=false:=by
  have e1:(op == CmpOp.In)=false:=by cases op <;> first | rfl | exact absurd rfl h
  have e2:(op == CmpOp.NotIn)=false:=by cases op <;> first | rfl | exact absurd rfl h2
  cases b <;> simp [behindInMarks,e1,e2]
theorem pe_cmpR {op:CmpOp} {r:R2} (ho:OpR X (compareOp op) r) (ha:PE X a ta) (hb:PE X b tb) (hm:behindInMarks op b=false):PE X (.Compare a [op] [b] pos) (tOp r ta tb):=by
  intro pins s σ H Q I h
  exact wpAny_Compare1 (binT ha hb I h fun v u s2 x y H2 I2 rx ry q=>ho pins s2 σ H2 x y v u Q I2 rx ry q) hm
def tTest (t:TE):TT:=fun σ H Q=>t σ H fun x H'=>∃ k,x=.bl k/\Q k H'
theorem pt_cmpR {op:CmpOp} {r:R2} (ho:OpR X (compareOp op) r) (ha:PE X a ta) (hb:PE X b tb) (hm:behindInMarks op b=false):PT X (.Compare a [op] [b] pos) (tTest (tOp r ta tb)):=by
  intro pins s σ H Q I h
  refine wpAny_isTrue_Compare1 (thn (ha pins s σ H _ I h) fun v s1 ⟨x,H1,I1,r1,q1⟩=>thn (hb pins s1 σ H1 _ I1 q1) fun u s2 ⟨y,H2,I2,r2,q2⟩ =>
    thn (ho pins s2 σ H2 x y v u _ I2 r1 r2 q2) fun c s3 ⟨z,H3,I3,r3,k,e,q3⟩=>?_) hm
  subst e
  cases r3
  exact wpAny_truthy_bool ⟨H3,I3,q3⟩
def tChain (r r':R2) (ta tb tc:TE):TE:=fun σ H Q=>ta σ H fun x H1=>tb σ H1 fun y H2=>r x y H2 fun z H3=>∃ k,z=.bl k /\
  (if k=true then tc σ H3 fun w' H4=>r' y w' H4 Q else Q (.bl false) H3)
theorem pe_chain {op op':CmpOp} {r r':R2} (ho:OpR X (compareOp op) r) (ho':OpR X (compareOp op') r') (ha:PE X a ta) (hb:PE X b tb) (hc:PE X c tc)
    (hm:lastMarks [op,op'] [b,c]=false:=by with_unfolding_all rfl):PE X (.Compare a [op,op'] [b,c] pos) (tChain r r' ta tb tc):=by
  intro pins s σ H Q I h
  refine Compare_chain (thn (ha pins s σ H _ I h) fun v s1 ⟨x,H1,I1,r1,q1⟩=>chain_link (thn (hb pins s1 σ H1 _ I1 q1) fun u s2 ⟨y,H2,I2,r2,q2⟩ =>
    thn (ho pins s2 σ H2 x y v u _ I2 r1 r2 q2) fun d s3 ⟨z,H3,I3,r3,k,e,q3⟩=>?_)) hm
  subst e
  cases r3
  refine wpAny_truthy_bool ?_
  cases k with
  | false=>exact ite_ff ⟨.bl false,H3,I3,rfl,q3⟩
  | true=>exact ite_tt (chain_last (thn (hc pins s3 σ H3 _ I3 q3) fun w' s4 ⟨z',H4,I4,r4,q4⟩=>ho' pins s4 σ H4 y z' u w' Q I4 r2 r4 q4))
theorem line63:(sizeLine:Nat) < 2 ^ 63:=by rw [sizeLine_eq]; decide
theorem op_add_str:OpR X (binaryOp .Add) (fun x y H Q=>∃ i j,x=.str i/\y=.str j/\i.length + j.length<=sizeLine/\Q (.str (i ++ j)) H):=by
  intro pins s σ H x y v u Q I rx ry h
  obtain ⟨i,j,rfl,rfl,hz,q⟩:=h
  obtain ⟨t,rfl⟩:=rx
  obtain ⟨t',rfl⟩:=ry
  exact add_str (fun t' tk=>⟨.str (i ++ j),H,I.tok _,⟨_,rfl⟩,q⟩) hz
theorem vals1 {x:V} {us:List Value} (r:Vals [x] us):∃ u,us=[u]/\RelV x u:=by
  cases r with
  | cons r1 r2=>cases r2; exact ⟨_,rfl,r1⟩
theorem vals2 {x y:V} {us:List Value} (r:Vals [x,y] us):∃ u w',us=[u,w']/\RelV x u/\RelV y w':=by
  cases r with
  | cons r1 r2 =>
    cases r2 with
    | cons r3 r4=>cases r4; exact ⟨_,_,rfl,r1,r3⟩
theorem call_abs:CallR X (.builtin "abs") (fun xs H Q=>∃ i,xs=[.int i]/\Q (.int (if i < 0 then -i else i)) H):=by
  intro pins s σ H xs us Q I r h
  obtain ⟨i,rfl,q⟩:=h
  obtain ⟨u,rfl,t,rfl⟩:=vals1 r
  exact call_abs_int fun u tk=>⟨.int (if i < 0 then -i else i),H,I.tok _,⟨_,rfl⟩,q⟩
theorem call_max2 (hc:X.calm=true):CallR X (.builtin "max") (fun xs H Q=>∃ i j,xs=[.int i,.int j]/\Q (.int (if j > i then j else i)) H):=by
  intro pins s σ H xs us Q I r h
  obtain ⟨i,j,rfl,q⟩:=h
  obtain ⟨u,w',rfl,⟨t,rfl⟩,⟨t',rfl⟩⟩:=vals2 r
  refine max_two_ints (I.ok.hd hc) fun h' tk k=>⟨_,H,I.kept k,?_,q⟩
  by_cases hj:j > i
  · rw [if_pos hj,if_pos hj]; exact ⟨_,rfl⟩
  · rw [if_neg hj,if_neg hj]; exact ⟨_,rfl⟩
theorem call_int1:CallR X (.type "int") (fun xs H Q=>(∃ i,xs=[.int i]/\Q (.int i) H)\/∃ k,xs=[.bl k]/\Q (.int (if k then 1 else 0)) H):=by
  intro pins s σ H xs us Q I r h
  rcases h with ⟨i,rfl,q⟩ | ⟨k,rfl,q⟩
  · obtain ⟨u,rfl,t,rfl⟩:=vals1 r
    exact call_int_int ⟨.int i,H,I,⟨_,rfl⟩,q⟩
  · obtain ⟨u,rfl,r1⟩:=vals1 r
    cases r1
    exact call_int_bool ⟨.int (if k then 1 else 0),H,I.tok _,⟨_,rfl⟩,q⟩
end
end L2
namespace L2
open PySem PySem.Spec PyProof.Rows
structure ObjM (h:Heap) (x dx C:Addr) (mA:Str->Option Value):Prop where
  obj:h.get? x=some (PySem.W.instObj C dx)
  ns:h.Ns1 dx mA
  ne:dx≠x
theorem lookIn_ns {h:Heap} {dx:Addr} {mA:Str->Option Value} (n:h.Ns1 dx mA):∃ od,h.get? dx=some od/\∀ name,PySem.W.lookIn name od=some (mA name):=by
  obtain ⟨o,es,ep,ho,hd,hk,_,hm⟩:=n
  refine ⟨o,ho,fun name=>?_⟩
  have e:=hm name
  unfold nsFind findBy at e
  rw [<- Array.find?_toList] at e
  unfold PySem.W.lookIn
  rw [hd]
  dsimp only
  split
  · rename_i y q
    rw [q] at e
    exact congrArg some e
  · rename_i q
    rw [q] at e
    have a:es.toList.any (·.refKey)=false:=by
      rw [List.any_eq_false]
      intro y hy
      obtain ⟨z,t,hkey⟩:=hk y (Array.mem_toList_iff.mp hy)
      simp [DictEntry.refKey,hkey]
    have a':¬ es.toList.any (·.refKey)=true:=by rw [a]; exact Bool.false_ne_true
    rw [if_neg a']
    exact congrArg some e
theorem ObjM.look {h:Heap} {x dx C:Addr} {mA:Str->Option Value} (I:ObjM h x dx C mA):∃ od,PySem.W.InstAt h x (PySem.W.instObj C dx) C (some od)/\∀ name,PySem.W.lookIn name od=some (mA name) :=
  let ⟨od,ho,hl⟩:=lookIn_ns I.ns
  ⟨od,⟨I.obj,rfl,rfl,ho⟩,hl⟩
section
variable {prog:Program} {w:World} {A:Around} {E:Value->Shared->Prop} {s:Shared} {K:PySem.W.Frag} {x dx C f:Addr} {mA:Str->Option Value} {name:Str} {v:Value}
theorem get_map {expr:Bool} {Q:Value->Shared->Prop} (X:K.In s.heap) (I:ObjM s.heap x dx C mA) (hg:PySem.W.plainGet K C name=true) (hh:PySem.W.hasDictIn K C=true)
    (ha:PySem.W.findIn K (.ref C) name=some none) (hv:mA name=some v) (hv':PySem.W.handedIn v=true) (h:Q v { s with toks:=s.toks + 1 }) :
    wpAny (model prog w) A (getAttr (.ref x) name expr) Q E s:=by
  obtain ⟨od,J,hl⟩:=I.look
  exact PySem.W.get_value X J (PySem.W.plainGet_of hg).1 (PySem.W.findObj_own hh ha rfl (by rw [hl,hv])) hv' h
theorem get_meth {pl:Sem Bool} {Q:Value × List Value->Shared->Prop} (X:K.In s.heap) (I:ObjM s.heap x dx C mA) (hg:PySem.W.plainGet K C name=true)
    (hf:PySem.W.findIn K (.ref C) name=some (some (.ref f))) (ht:PySem.W.isFn K (.ref f)=true) (hv:mA name=none) (h:Q (.ref f,[.ref x]) s) :
    wpAny (model prog w) A (getMethod (.ref x) name pl) Q E s:=by
  obtain ⟨od,J,hl⟩:=I.look
  exact PySem.W.method_fn X J (PySem.W.plainGet_of hg).1 (PySem.W.plainGet_of hg).2 hf (beq_iff_eq.mp ht) (by show (PySem.W.lookIn name od).map (·.isSome)=some false; rw [hl,hv]; rfl) h
theorem set_map {ns:List Str} {Q:Unit->Shared->Prop} (X:K.In s.heap) (I:ObjM s.heap x dx C mA)
    (hs:PySem.W.findIn K (.ref C) "__setattr__"=some (some (.builtin "object.__setattr__"))) (hp:PySem.W.plainOver K C=true) (ht:PySem.W.takerIn K C name=some none) (hh:PySem.W.hasDictIn K C=true)
    (hw:PySem.Within mA ns) (hsz:ns.length<=sizeLine)
    (h:∀ h',ObjM h' x dx C (fun y=>if y=name then some v else mA y)->Heap.SameBut dx s.heap h'->Q () { s with heap:=h',toks:=s.toks + 2 }) :
    wpAny (model prog w) A (setAttr (.ref x) name v) Q E s:=by
  obtain ⟨od,J,hl⟩:=I.look
  refine PySem.W.set_plain X J hs (PySem.W.osa_open (s:={ s with toks:=s.toks + 1 }) (r:=none) X J hp ht fun b=>?_)
  obtain ⟨cd,hc,hd'⟩:=PySem.W.any_some hh
  have hx:s.heap.get? x=some ⟨.ref C,some dx,.plain,#[]⟩:=I.obj
  refine wpAny_bind (wpAny_pure (wpAny_bind (wpAny_bind (wpAny_loadPart hx (wpAny_bind (PySem.W.Looks.here (s:={ s with toks:=s.toks + 1 }) (PySem.W.looks_clsIn X hc) ?_))))))
  rw [hd']
  refine wpAny_pure (a:=some dx) (wpAny_bind (wpAny_pure (wpAny_bind ?_)))
  refine wpAny_nsSet1 (s:={ s with toks:=s.toks + 1 }) I.ns fun h' hn2 hs2=>?_
  obtain ⟨oD,esD,epD,hoD,hdD,hcD⟩:=hn2.count (PySem.Within.cons name v hw)
  refine wpAny_bind (wpAny_lookBehind hoD (by rw [hdD]; exact pastItsLine_dict (Nat.le_trans hcD (by rw [List.length_cons]; omega))) ?_)
  exact wpAny_pure (h _ ⟨(hs2.2 _ (Ne.symm I.ne)).trans I.obj,hn2,I.ne⟩ hs2)
theorem make_map {R:Result->Shared->Prop} {vs:List Value} {kw:List (Str × Value)} (X:K.In s.heap) (hm:PySem.W.makesIn K C=true)
    (hi:PySem.W.findIn K (.ref C) "__init__"=some (some (.ref f))) (hf:PySem.W.typeIn K (.ref f)=some (.type "function"))
    (h:codeAny (model prog w) (A.under (.builtin "type.__call__" ⟨.ref C :: vs,kw⟩)) (.call (.ref f) ⟨.ref (s.heap.objs.size + 1) :: vs,kw⟩) (PySem.W.InitBack (s.heap.objs.size + 1) R)
      { s with heap:=(s.heap.push PySem.W.emptyDict).push (PySem.W.instObj C s.heap.objs.size) }) :
    codeAny (model prog w) A (.call (.ref C) ⟨vs,kw⟩) R s:=by
  obtain ⟨hh,g,d,t,os⟩:=s
  exact PySem.W.make_core (PySem.W.makes_of X hm) (PySem.W.looks_findIn X hi) (fun self=>PySem.W.bind_fn X self hf) (.inl rfl) h
end
def putF (f:Str) (v:V):List (Str × V)->List (Str × V)
  | []=>[(f,v)]
  | (g,x) :: r=>if g=f then (g,v) :: r else (g,x) :: putF f v r
theorem lookup_putF (f g:Str) (v:V):∀ fs:List (Str × V),(putF f v fs).lookup g=if g=f then some v else fs.lookup g
  | []=>by
    show List.lookup g [(f,v)]=_
    by_cases h:g=f
    · have hb:(g == f)=true:=beq_iff_eq.mpr h
      simp only [List.lookup,hb,if_pos h]
    · have hb:(g == f)=false:=beq_eq_false_iff_ne.mpr h
      simp only [List.lookup,hb,if_neg h]
  | (k,x) :: r=>by
    have ih:=lookup_putF f g v r
    rw [show putF f v ((k,x) :: r)=(if k=f then (k,v) :: r else (k,x) :: putF f v r) from rfl]
    by_cases hk:k=f
    · rw [if_pos hk]
      by_cases h:g=k
      · have hb:(g == k)=true:=beq_iff_eq.mpr h
        simp only [List.lookup,hb,if_pos (h.trans hk)]
      · have hb:(g == k)=false:=beq_eq_false_iff_ne.mpr h
        simp only [List.lookup,hb,if_neg (fun e:g=f=>h (e.trans hk.symm))]
    · rw [if_neg hk]
      by_cases h:g=k
      · have hb:(g == k)=true:=beq_iff_eq.mpr h
        simp only [List.lookup,hb,if_neg (fun e:g=f=>hk (h.symm.trans e))]
      · have hb:(g == k)=false:=beq_eq_false_iff_ne.mpr h
        simp only [List.lookup,hb]
        exact ih
theorem keys_putF (f:Str) (v:V):∀ fs:List (Str × V),f∈(putF f v fs).map (·.1)/\∀ g,g∈fs.map (·.1)->g∈(putF f v fs).map (·.1)
  | []=>⟨by simp [putF],fun g h=>by simp at h⟩
  | (k,x) :: r=>by
    obtain ⟨i1,i2⟩:=keys_putF f v r
    rw [show putF f v ((k,x) :: r)=(if k=f then (k,v) :: r else (k,x) :: putF f v r) from rfl]
    by_cases hk:k=f
    · rw [if_pos hk]
      subst hk
      exact ⟨by simp,fun g h=>by simpa using h⟩
    · rw [if_neg hk]
      refine ⟨?_,fun g h=>?_⟩
      · rw [List.map_cons]
        exact List.mem_cons_of_mem _ i1
      · rw [List.map_cons] at h ⊢
        rcases List.mem_cons.mp h with e | e
        · exact List.mem_cons.mpr (.inl e)
        · exact List.mem_cons_of_mem _ (i2 g e)
theorem length_putF (f:Str) (v:V):∀ fs:List (Str × V),(putF f v fs).length<=fs.length + 1
  | []=>by simp [putF]
  | (k,x) :: r=>by
    have ih:=length_putF f v r
    rw [show putF f v ((k,x) :: r)=(if k=f then (k,v) :: r else (k,x) :: putF f v r) from rfl]
    by_cases hk:k=f
    · rw [if_pos hk,List.length_cons,List.length_cons]; omega
    · rw [if_neg hk,List.length_cons,List.length_cons]; omega
theorem RelO.some_of {v:V} {o:Option Value} (r:RelO (some v) o):∃ u,o=some u/\RelV v u:=by
  cases o with
  | none=>exact (show False from r).elim
  | some u=>exact ⟨u,rfl,r⟩
theorem RelO.none_of {o:Option Value} (r:RelO none o):o=none:=by
  cases o with
  | none=>rfl
  | some u=>exact (show False from r).elim
theorem handed_of {v:V} {u:Value} (r:RelV v u):PySem.W.handedIn u=true:=by
  cases v with
  | non=>cases (show u=Value.none from r); rfl
  | bl b=>cases (show u=Value.bool b from r); rfl
  | int i=>obtain ⟨t,e⟩:=(show ∃ t,u=Value.int i t from r); cases e; rfl
  | str x=>obtain ⟨t,e⟩:=(show ∃ t,u=Value.str x t from r); cases e; rfl
  | byt b=>obtain ⟨t,e⟩:=(show ∃ t,u=Value.bytes b t from r); cases e; rfl
  | flt b=>obtain ⟨t,e⟩:=(show ∃ t,u=Value.float b t from r); cases e; rfl
  | ref a=>cases (show u=Value.ref a from r); rfl
  | ty n=>cases (show u=Value.type n from r); rfl
section
variable {P:Program} {w:World} {H H':Hp} {h h':Heap} {a C dx:Addr} {fs fs':List (Str × V)}
theorem ins_get (hok:HOk P w H h) (e:H a=some (.ins C dx fs)):∃ mA,ObjM h a dx C mA/\(∀ f,RelO (fs.lookup f) (mA f))/\PySem.Within mA (fs.map (·.1))/\fs.length<=1000/\H dx=some (.own a):=by
  obtain ⟨d,z,ne,ob,mA,n,r,q⟩:=(show ObjOk P w H h a (.ins C dx fs) from hok a _ e)
  exact ⟨mA,⟨ob,n,ne⟩,r,q,z,d⟩
end
structure Cls (K:PySem.W.Frag) (C:Addr):Prop where
  pg:PySem.W.plainGet K C Str.empty=true
  hd:PySem.W.hasDictIn K C=true
  po:PySem.W.plainOver K C=true
  sa:PySem.W.findIn K (.ref C) "__setattr__"=some (some (.builtin "object.__setattr__"))
theorem Cls.get {K:PySem.W.Frag} {C:Addr} (c:Cls K C) (f:Str):PySem.W.plainGet K C f=true:=c.pg
def NoAttr (K:PySem.W.Frag) (C:Addr) (f:Str):Prop:=PySem.W.findIn K (.ref C) f=some none
theorem NoAttr.taker {K:PySem.W.Frag} {C:Addr} {f:Str} (n:NoAttr K C f):PySem.W.takerIn K C f=some none:=by
  unfold PySem.W.takerIn
  rw [show PySem.W.findIn K (.ref C) f=some none from n]
  rfl
structure Con (K:PySem.W.Frag) (C:Addr) (f:Str) (v:V) (u:Value):Prop where
  at_:PySem.W.findIn K (.ref C) f=some (some u)
  rel:RelV v u
  get:PySem.W.specialIn K u "__get__"=some none
  cp:PySem.W.copiedNames.contains f=false
structure Meth (K:PySem.W.Frag) (C:Addr) (m:Str) (f:Addr):Prop where
  at_:PySem.W.findIn K (.ref C) m=some (some (.ref f))
  fn:PySem.W.isFn K (.ref f)=true
  kp:PySem.W.keepIn K (.ref f)=true
section
variable {X:Cx} {pins:List (Addr × Obj)} {σ:St} {H:Hp} {s:Shared} {a C dx:Addr} {fs:List (Str × V)} {f:Str} {v:V} {A:Around} {E:Value->Shared->Prop}
theorem getattr_ok {b:Bool} {Q:Value->Shared->Prop} (I:Inv X pins σ H s) (e:H a=some (.ins C dx fs)) (c:Cls X.K C) (n:NoAttr X.K C f) (l:fs.lookup f=some v)
    (h:∀ u s',Inv X pins σ H s'->RelV v u->Q u s'):wpAny (model X.prog X.w) A (getAttr (.ref a) f b) Q E s:=by
  obtain ⟨mA,O,r,_,_,_⟩:=ins_get I.hok e
  obtain ⟨u,hu,ru⟩:=RelO.some_of (v:=v) (o:=mA f) (by rw [<- l]; exact r f)
  exact get_map I.kIn O (c.get f) c.hd n hu (handed_of ru) (h u _ (I.tok _) ru)
theorem getmeth_ok {m:Str} {g:Addr} {pl:Sem Bool} {Q:Value × List Value->Shared->Prop} (I:Inv X pins σ H s) (e:H a=some (.ins C dx fs)) (c:Cls X.K C) (k:Meth X.K C m g) (l:fs.lookup m=none)
    (h:Q (.ref g,[.ref a]) s):wpAny (model X.prog X.w) A (getMethod (.ref a) m pl) Q E s:=by
  obtain ⟨mA,O,r,_,_,_⟩:=ins_get I.hok e
  have hn:mA m=none:=RelO.none_of (by rw [<- l]; exact r m)
  exact get_meth I.kIn O (c.get m) k.at_ k.fn hn h
theorem setattr_ok {y:V} {u:Value} {Q:Unit->Shared->Prop} (I:Inv X pins σ H s) (e:H a=some (.ins C dx fs)) (c:Cls X.K C) (n:NoAttr X.K C f) (hl:fs.length < 1000) (ry:RelV y u)
    (h:∀ s',Inv X pins σ (upd H a (.ins C dx (putF f y fs))) s'->Q () s'):wpAny (model X.prog X.w) A (setAttr (.ref a) f u) Q E s:=by
  obtain ⟨mA,O,r,wi,_,ho⟩:=ins_get I.hok e
  have hz:(fs.map (·.1)).length<=sizeLine:=by rw [List.length_map,sizeLine_eq]; omega
  refine set_map I.kIn O c.sa c.po n.taker c.hd wi hz fun h' O' sb=>h _ ?_
  have hd:∃ o,h'.get? dx=some o:=let ⟨o,_,_,e',_⟩:=O'.ns; ⟨o,e'⟩
  refine I.write (x:=a) (e:=dx) (by rw [e]; exact True.intro) (.inr ho) (fun b q hb z=>(sb.2 b hb).trans z) hd ?_
  refine ⟨by rw [upd_ne O.ne]; exact ho,?_,O.ne,O'.obj,_,O'.ns,fun g=>?_,fun g hg=>?_⟩
  · have:=length_putF f y fs; omega
  · show RelO ((putF f y fs).lookup g) (if g=f then some u else mA g)
    rw [lookup_putF]
    by_cases q:g=f
    · rw [if_pos q,if_pos q]; exact ry
    · rw [if_neg q,if_neg q]; exact r g
  · by_cases q:g=f
    · rw [q]; exact (keys_putF f y fs).1
    · refine (keys_putF f y fs).2 g (wi g fun z=>hg ?_)
      show (if g=f then some u else mA g)=none
      rw [if_neg q]; exact z
theorem Inv.made (I:Inv X pins σ H s):Inv X pins σ (upd (upd H s.heap.objs.size (.own (s.heap.objs.size + 1))) (s.heap.objs.size + 1) (.ins C s.heap.objs.size []))
    { s with heap:=(s.heap.push PySem.W.emptyDict).push (PySem.W.instObj C s.heap.objs.size) }:=by
  have e1:(s.heap.push PySem.W.emptyDict).get? s.heap.objs.size=some PySem.W.emptyDict:=Heap.get?_push_size s.heap rfl
  have e2:((s.heap.push PySem.W.emptyDict).push (PySem.W.instObj C s.heap.objs.size)).get? (s.heap.objs.size + 1)=some (PySem.W.instObj C s.heap.objs.size):=by
    have:=Heap.get?_push_size (s.heap.push PySem.W.emptyDict) (o:=PySem.W.instObj C s.heap.objs.size) rfl
    rwa [Heap.size_push] at this
  have e3:(s.heap.push PySem.W.emptyDict).Ns s.heap.objs.size (fun _=>none):=⟨PySem.W.emptyDict,#[],_,e1,rfl,(fun e he=>absurd he (by simp)),fun _=>rfl⟩
  have I1:=I.laid (a:=s.heap.objs.size) (o:=.own (s.heap.objs.size + 1)) (h':=s.heap.push PySem.W.emptyDict) (t':=s.toks) (fun b u q=>Heap.get?_push_of_some _ q) (Nat.le_refl _) ⟨_,e1⟩
  refine I1.laid (a:=s.heap.objs.size + 1) (o:=.ins C s.heap.objs.size []) (t':=s.toks) (fun b u q=>Heap.get?_push_of_some _ q) (Nat.le_of_eq (Heap.size_push _ _)) ?_
  have ne:s.heap.objs.size≠s.heap.objs.size + 1:=Nat.ne_of_lt (Nat.lt_succ_self _)
  refine ⟨by rw [upd_ne ne,upd_same],Nat.zero_le _,ne,e2,fun _=>none,(Heap.Ns1.of_empty e3).at fun o q=>Heap.get?_push_of_some _ q,fun _=>True.intro,fun y hy=>absurd rfl hy⟩
theorem attr_of {prog:Program} {w:World} {env:Env} {e:Expr} {f:Str} {pos:Pos} {s:Shared} {Q:Value->Shared->Prop} (hb:attributeBase e f env (eval e env)=eval e env)
    (h:wpAny (model prog w) A (eval e env) (fun o s₁=>wpAny (model prog w) A (getAttr o f true) Q E s₁) E s):wpAny (model prog w) A (eval (.Attribute e f pos) env) Q E s :=
  Attribute_any_ h (by rw [arm_eval_Attribute,hb])
end
def tFld (K:PySem.W.Frag) (ta:TE) (f:Str):TE:=fun σ H Q=>ta σ H fun x H1=>∃ a C dx fs v,x=.ref a/\H1 a=some (.ins C dx fs)/\Cls K C/\NoAttr K C f/\fs.lookup f=some v/\Q v H1
def sFld (K:PySem.W.Frag) (ta tv:TE) (f:Str):TS:=fun D σ H=>tv σ H fun y H1=>ta σ H1 fun x H2=>∃ a C dx fs,x=.ref a/\H2 a=some (.ins C dx fs)/\Cls K C/\NoAttr K C f/\fs.length < 1000 /\
  D.nx σ (upd H2 a (.ins C dx (putF f y fs)))
section
variable {X:Cx} {o e value:Expr} {f:Str} {pos pos' tpos:Pos} {ta tv:TE}
theorem pe_fld (he:PE X e ta) (hb:attributeBase e f X.env (eval e X.env)=eval e X.env):PE X (.Attribute e f pos) (tFld X.K ta f):=by
  intro pins s σ H Q I h
  refine attr_of hb (thn (he pins s σ H _ I h) fun u s1 ⟨x,H1,I1,rx,a,C,dx,fs,v,ex,ea,c,n,l,q⟩=>?_)
  subst ex
  obtain rfl:u=Value.ref a:=rx
  exact getattr_ok I1 ea c n l fun u' s2 I2 ru=>⟨v,H1,I2,ru,q⟩
theorem ps_fld (ha:PE X o ta) (hv:PE X value tv) (hs:swapsWith value (some (.Attribute o f pos')) pos.line X.env=pure false):PS X (.Assign [.Attribute o f pos'] value pos) (sFld X.K ta tv f):=by
  intro pins s σ H D I h
  refine plainObj_wpAny_Assign_Attribute (thn (hv pins s σ H _ I h) fun u s1 ⟨y,H1,I1,ry,q⟩=>thn (ha pins s1 σ H1 _ I1 q) fun ov s2 ⟨x,H2,I2,rx,a,C,dx,fs,ex,ea,c,n,l,q2⟩=>?_) hs
  subst ex
  obtain rfl:ov=Value.ref a:=rx
  exact setattr_ok I2 ea c n l ry fun s3 I3=>⟨σ,_,I3,q2⟩
end
section
variable {X:Cx} {pins:List (Addr × Obj)} {σ:St} {H:Hp} {s:Shared} {A:Around} {E:Value->Shared->Prop} {Q:Value->Shared->Prop} {c:Value} {b:Bool}
inductive TyOf (K:PySem.W.Frag) (H:Hp):V->Value->Prop where
  | non:TyOf K H .non (.type "NoneType")
  | bl (x:Bool):TyOf K H (.bl x) (.type "bool")
  | int (i:Int):TyOf K H (.int i) (.type "int")
  | str (x:Str):TyOf K H (.str x) (.type "str")
  | flt (x:UInt64):TyOf K H (.flt x) (.type "float")
  | lst {a:Addr} {xs:List V} (e:H a=some (.lst xs)):TyOf K H (.ref a) (.type "list")
  | frz {a:Addr} {o:Obj} {xs:List V} (e:H a=some (.frz o (.lst xs))):TyOf K H (.ref a) (.type "list")
  | tup {a:Addr} {xs:List V} (e:H a=some (.tup xs)):TyOf K H (.ref a) (.type "tuple")
  | dK {a:Addr} {kvs:List (Key × V)} (e:H a=some (.dK kvs)):TyOf K H (.ref a) (.type "dict")
  | dT {a:Addr} {kvs:List (List Key × V)} (e:H a=some (.dT kvs)):TyOf K H (.ref a) (.type "dict")
  | ins {a C dx:Addr} {fs:List (Str × V)} (e:H a=some (.ins C dx fs)) (cl:Cls K C) (ha:PySem.W.findIn K (.ref C) "__class__"=some (some (.builtin "object.__class__")))
      (hn:PySem.W.specialIn K (.builtin "object.__class__") "__get__"=some (some (.builtin "getset_descriptor.__get__"))) (htk:PySem.W.takesIn K (.builtin "object.__class__")=some true)
      (hm:PySem.W.mroIn K C (.type "object")=some true):TyOf K H (.ref a) (.ref C)
theorem isinst_ok {x:V} {u t:Value} (I:Inv X pins σ H s) (rx:RelV x u) (ty:TyOf X.K H x t) (e:PySem.W.kitOne X.K t c=some b) (h:∀ tk,Q (.bool b) { s with toks:=tk }) :
    wpAny (model X.prog X.w) A (call (.builtin "isinstance") [u,c]) Q E s:=by
  cases ty with
  | non=>cases (show u=Value.none from rx); exact PySem.W.kia_one PySem.W.kitx_none I.kIn True.intro e (fun z=>nomatch z) h
  | bl y=>cases (show u=Value.bool y from rx); exact PySem.W.kia_one PySem.W.kitx_bool I.kIn True.intro e (fun z=>nomatch z) h
  | int i=>obtain ⟨t,q⟩:=(show ∃ t,u=Value.int i t from rx); cases q; exact PySem.W.kia_one PySem.W.kitx_int I.kIn True.intro e (fun z=>nomatch z) h
  | str y=>obtain ⟨t,q⟩:=(show ∃ t,u=Value.str y t from rx); cases q; exact PySem.W.kia_one PySem.W.kitx_str I.kIn True.intro e (fun z=>nomatch z) h
  | flt y=>obtain ⟨t,q⟩:=(show ∃ t,u=Value.float y t from rx); cases q; exact PySem.W.kia_one PySem.W.kitx_float I.kIn True.intro e (fun z=>nomatch z) h
  | @lst a xs ea =>
    cases (show u=Value.ref a from rx)
    obtain ⟨_,_,n,_,h1⟩:=(show ObjOk X.prog X.w H s.heap a (.lst xs) from I.hok a _ ea)
    exact PySem.W.kia_one PySem.W.kitx_list I.kIn ⟨_,h1,rfl⟩ e (fun z=>nomatch z) h
  | @frz a ob xs ea =>
    cases (show u=Value.ref a from rx)
    obtain ⟨_,_,_,n,_,h1⟩:=(show ObjOk X.prog X.w H s.heap a (.frz ob (.lst xs)) from I.hok a _ ea)
    exact PySem.W.kia_one PySem.W.kitx_list I.kIn ⟨_,h1,rfl⟩ e (fun z=>nomatch z) h
  | @tup a xs ea =>
    cases (show u=Value.ref a from rx)
    obtain ⟨_,_,_,p⟩:=(show ObjOk X.prog X.w H s.heap a (.tup xs) from I.hok a _ ea)
    obtain ⟨o,h1,h2,_⟩:=p
    exact PySem.W.kia_one PySem.W.kitx_tuple I.kIn ⟨o,h1,h2⟩ e (fun z=>nomatch z) h
  | @dK a kvs ea =>
    cases (show u=Value.ref a from rx)
    obtain ⟨_,_,vs,_,p⟩:=(show ObjOk X.prog X.w H s.heap a (.dK kvs) from I.hok a _ ea)
    obtain ⟨o,es,ep,h1,h2,_⟩:=p
    exact PySem.W.kia_one PySem.W.kitx_dict I.kIn ⟨o,h1,h2.1⟩ e (fun z=>nomatch z) h
  | @dT a kvs ea =>
    cases (show u=Value.ref a from rx)
    obtain ⟨_,_,xs,_,o,es,ep,h1,h2,_⟩:=(show ObjOk X.prog X.w H s.heap a (.dT kvs) from I.hok a _ ea)
    exact PySem.W.kia_one PySem.W.kitx_dict I.kIn ⟨o,h1,h2.1⟩ e (fun z=>nomatch z) h
  | @ins a C dx fs ea cl ha hn htk hm =>
    cases (show u=Value.ref a from rx)
    obtain ⟨mA,O,_⟩:=ins_get I.hok ea
    obtain ⟨od,J,_⟩:=O.look
    exact PySem.W.kia_one (PySem.W.kitx_own (cl.get _) cl.hd ha hn htk hm) I.kIn J e (fun z=>nomatch z) h
end
end L2
namespace L2
open PySem PySem.Spec PyProof.Rows
structure Room (k:Nat) (A:Around):Prop where
  hd:A.handled=none
  dp:A.depth + 3 * k + 5 < recursionLimit
  un:A.units + 16 * k + 200 < cLine
theorem Room.mono {j k:Nat} {A:Around} (r:Room k A) (h:j<=k):Room j A:=⟨r.hd,by have:=r.dp; omega,by have:=r.un; omega⟩
theorem Room.deeper {k:Nat} {A:Around} (r:Room (k + 1) A) (env:Env):Room k (A.deeper env) :=
  ⟨r.hd,by have:=r.dp; show A.depth + 1 + 3 * k + 5 < _; omega,by have:=r.un; show A.units + 3 + 16 * k + 200 < _; omega⟩
theorem Room.in1 {k:Nat} {A:Around} (r:Room (k + 1) A):Room k A.in1 :=
  ⟨r.hd,by have:=r.dp; show A.depth + 3 * k + 5 < _; omega,by have:=r.un; show A.units + 1 + 16 * k + 200 < _; omega⟩
theorem make_depth {A:Around} {C:Addr} {us:List Value} {kw:List (Str × Value)}:(A.under (.builtin "type.__call__" ⟨.ref C :: us,kw⟩)).depth=A.depth + 1:=by
  first | rfl | simp [Around.under,Code.weight,Code.isCreation,Code.isGuard,Code.isCaller,Code.frames,Code.isFrame,guardIds]
theorem make_units {A:Around} {C:Addr} {us:List Value} {kw:List (Str × Value)}:(A.under (.builtin "type.__call__" ⟨.ref C :: us,kw⟩)).units=A.units + 1:=by
  first | rfl | simp [Around.under,Code.cUnits,Code.frames,Code.isFrame]
theorem Room.make {k:Nat} {A:Around} (r:Room (k + 1) A) (C:Addr) (us:List Value) (kw:List (Str × Value)):Room k (A.under (.builtin "type.__call__" ⟨.ref C :: us,kw⟩)) :=
  ⟨r.hd,by have:=r.dp; rw [make_depth]; omega,by have:=r.un; rw [make_units]; omega⟩
theorem Room.depth {k:Nat} {A:Around} (r:Room k A):A.depth < recursionLimit:=by have:=r.dp; omega
theorem Room.units {k:Nat} {A:Around} (r:Room k A):A.units + 64 < cLine:=by have:=r.un; omega
theorem Room.units0 {k:Nat} {A:Around} (r:Room k A):A.units < cLine:=by have:=r.un; omega
def tNil:TA:=fun _ H Q=>Q [] H
def tCons (ta:TE) (tr:TA):TA:=fun σ H Q=>ta σ H fun x H1=>tr σ H1 fun xs H2=>Q (x :: xs) H2
section
variable {X:Cx} {e:Expr} {es:List Expr} {te:TE} {t:TA} {pos:Pos}
theorem pa_nil:PA X [] tNil:=fun _ _ _ _ H Q I h=>Calls.spliced_nil ⟨[],H,I,.nil,h⟩
theorem pa_cons (ha:PE X e te) (hr:PA X es t) (hs:starEach (e :: es) X.env=(false,eval e X.env) :: starEach es X.env:=by rfl):PA X (e :: es) (tCons te t):=by
  intro pos pins s σ H Q I h
  rw [hs]
  show wpAny _ _ (spliced ((false,eval e X.env) :: backTo pos (starEach es X.env))) _ _ s
  refine Calls.spliced_cons (thn (ha pins s σ H _ I h) fun u s1 ⟨x,H1,I1,r1,q1⟩=>?_)
  exact thn (hr pos pins s1 σ H1 _ I1 q1) fun us s2 ⟨xs,H2,I2,r2,q2⟩=>⟨x :: xs,H2,I2,.cons r1 r2,q2⟩
def tTup (t:TA):TE:=fun σ H Q=>t σ H fun xs H1=>xs.length<=sizeLine/\∀ p,H1 p=none->Q (.ref p) (upd H1 p (.tup xs))
def tLst (t:TA):TE:=fun σ H Q=>t σ H fun xs H1=>xs.length<=sizeLine/\∀ p,H1 p=none->Q (.ref p) (upd H1 p (.lst xs))
theorem pe_tup {x1} (h:PA X es t):PE X (.Tuple es x1 pos) (tTup t):=by
  intro pins s σ H Q I hq
  refine wpAny_Tuple_spliced (thn (h pos pins s σ H _ I hq) fun us s1 ⟨xs,H1,I1,r,z,q⟩=>⟨by rw [<- r.length]; exact z,?_⟩)
  have hf:H1 s1.heap.objs.size=none:=I1.hok.fresh (Nat.le_refl _)
  refine ⟨.ref s1.heap.objs.size,upd H1 s1.heap.objs.size (.tup xs),I1.laid (t':=s1.toks) (fun b u e=>Heap.get?_push_of_some _ e) (Nat.le_refl _) ?_,rfl,q _ hf⟩
  exact ⟨z,us,r,⟨_,Heap.get?_push_size _ rfl,rfl,rfl,_,rfl⟩⟩
theorem pe_lst (h:PA X es t):PE X (.List es pos) (tLst t):=by
  intro pins s σ H Q I hq
  refine wpAny_List_spliced (thn (h pos pins s σ H _ I hq) fun us s1 ⟨xs,H1,I1,r,z,q⟩=>⟨by rw [<- r.length]; exact z,?_⟩)
  have hf:H1 s1.heap.objs.size=none:=I1.hok.fresh (Nat.le_refl _)
  refine ⟨.ref s1.heap.objs.size,upd H1 s1.heap.objs.size (.lst xs),I1.laid (t':=s1.toks) (fun b u e=>Heap.get?_push_of_some _ e) (Nat.le_refl _) ?_,rfl,q _ hf⟩
  exact ⟨z,us,0,r,Heap.get?_push_size _ rfl⟩
end
abbrev Sp:=List V->Hp->VK->XK->Prop
abbrev CXT:=List Env->Hp->Shared->XK->Value->Shared->Prop
structure Env0 (P:Program) (w:World) (K:PySem.W.Frag) (mg:Str->Option Value) (base:Heap) (A:Around) (outer:List Env) (s:Shared) (H:Hp):Prop where
  frames:A.frames=some outer
  mod:Mod K mg base
  bs:∀ b o,base.get? b=some o->s.heap.get? b=some o/\H b=none
  bsz:base.objs.size<=s.heap.objs.size
  funs:s.heap.FunFrames base outer
  frf:∀ b∈frs outer,H b=none
  hok:HOk P w H s.heap
  bare:AllBare s.gens
def CE (outer:List Env) (P:Program) (w:World) (H:Hp) (s:Shared) (Q:VK) (u:Value) (s':Shared):Prop :=
  ∃ v H',s'.os=s.os/\AllBare s'.gens/\Un (frs outer) [] H H' s.heap s'.heap/\HOk P w H' s'.heap/\RelV v u/\Q v H'
def CR (CX:CXT) (outer:List Env) (P:Program) (w:World) (H:Hp) (s:Shared) (Q:VK) (E:XK) (r:Result) (s':Shared):Prop :=
  match r with
  | .ok (.ret u)=>CE outer P w H s Q u s'
  | .ok _=>False
  | .error e=>CX outer H s E e s'
structure FnOk (P:Program) (w:World) (K:PySem.W.Frag) (mg:Str->Option Value) (base:Heap) (CX:CXT) (k:Nat) (f:Addr) (fd:FuncData) (ps:List Str) (sp:Sp):Prop where
  len:∀ vs H Q E,sp vs H Q E->vs.length=ps.length
  run:∀ (A:Around) (outer:List Env) (s:Shared) (H:Hp) (args:Args) (us:List Value) (vs:List V) (Q:VK) (E:XK),Room k A->Env0 P w K mg base A outer s H->BindsTo s fd args (ps.zip us)->Vals vs us->sp vs H Q E ->
    codeAny (model P w) A (.call (.ref f) args) (CR CX outer P w H s Q E) s
theorem FnOk.mono {P:Program} {w:World} {K:PySem.W.Frag} {mg:Str->Option Value} {base:Heap} {CX:CXT} {j k:Nat} {f:Addr} {fd:FuncData} {ps:List Str} {sp:Sp} (F:FnOk P w K mg base CX j f fd ps sp) (h:j<=k) :
    FnOk P w K mg base CX k f fd ps sp:=⟨F.len,fun A outer s H args us vs Q E hr=>F.run A outer s H args us vs Q E (hr.mono h)⟩
theorem Env0.make {P:Program} {w:World} {K:PySem.W.Frag} {mg:Str->Option Value} {base:Heap} {A:Around} {outer:List Env} {s:Shared} {H:Hp} (e:Env0 P w K mg base A outer s H) (C:Addr) (us:List Value) (kw:List (Str × Value)) :
    Env0 P w K mg base (A.under (.builtin "type.__call__" ⟨.ref C :: us,kw⟩)) outer s H:=⟨by first | exact e.frames | (simpa [Around.under,Code.envs,Code.isFrame,pushEnvs] using e.frames),e.mod,e.bs,e.bsz,e.funs,e.frf,e.hok,e.bare⟩
theorem Env0.in1 {P:Program} {w:World} {K:PySem.W.Frag} {mg:Str->Option Value} {base:Heap} {A:Around} {outer:List Env} {s:Shared} {H:Hp} (e:Env0 P w K mg base A outer s H) :
    Env0 P w K mg base A.in1 outer s H:=⟨e.frames,e.mod,e.bs,e.bsz,e.funs,e.frf,e.hok,e.bare⟩
section
variable {X:Cx} {pins:List (Addr × Obj)} {σ:St} {H:Hp} {s s':Shared}
theorem Inv.env0 (I:Inv X pins σ H s):Env0 X.prog X.w X.K X.mg X.base X.A X.stack s H :=
  ⟨I.ok.frames,I.ok.mod,I.bs,Nat.le_trans I.ok.bsz I.sz,I.stack,I.stkFree,I.hok,I.bare⟩
theorem Inv.after {Q:VK} {u:Value} (I:Inv X pins σ H s) (h:CE X.stack X.prog X.w H s Q u s'):EP X pins σ Q u s':=by
  obtain ⟨v,H',os,bare,un,hok,r,q⟩:=h
  obtain ⟨hh,g,d,t,os'⟩:=s'
  obtain rfl:os'=s.os:=os
  exact ⟨v,H',I.call (h':=hh) (g':=g) (d':=d) (t':=t) (ch:=[]) un hok bare (fun b z=>absurd z (by simp)),r,q⟩
end
def tCall (sp:Sp) (dvs:List V) (E:XK) (t:TA):TE:=fun σ H Q=>t σ H fun vs H1=>sp (vs ++ dvs) H1 Q E
def tMeth (C:Addr) (m:Str) (sp:Sp) (dvs:List V) (E:XK) (ta:TE) (t:TA):TE:=fun σ H Q=>ta σ H fun x H1=>∃ a dx fs,x=.ref a/\H1 a=some (.ins C dx fs)/\fs.lookup m=none /\
  t σ H1 fun vs H2=>sp (x :: (vs ++ dvs)) H2 Q E
def tMake (C:Addr) (sp:Sp) (dvs:List V) (E:XK) (t:TA):TE:=fun σ H Q=>t σ H fun vs H1=>∀ x dx,H1 x=none->H1 dx=none->dx≠x ->
  sp (.ref x :: (vs ++ dvs)) (upd (upd H1 dx (.own x)) x (.ins C dx [])) (fun v H2=>v=.non/\Q (.ref x) H2) E
def Binds (K:PySem.W.Frag) (fd:FuncData) (ps:List Str) (ds:List Value):Prop :=
  ∀ (s:Shared) (us:List Value),K.In s.heap->(us ++ ds).length=ps.length->BindsTo s fd ⟨us,[]⟩ (ps.zip (us ++ ds))
theorem Binds.all {K:PySem.W.Frag} {fd:FuncData} {ps:List Str} (h:∀ us:List Value,us.length=ps.length->bindArgs fd ⟨us,[]⟩=pure (ps.zip us)):Binds K fd ps []:=fun s us _ hl=>by
  rw [List.append_nil] at hl ⊢
  exact .of_eq (h us hl)
def Passes (CX:CXT) (X:Cx) (E:XK):Prop:=∀ (pins:List (Addr × Obj)) (σ:St) (H:Hp) (s:Shared) (e:Value) (s':Shared),Inv X pins σ H s->CX X.stack H s E e s'->X.xe e s'
section
variable {X:Cx} {CX:CXT} {k:Nat} {f C:Addr} {fd:FuncData} {ps:List Str} {sp:Sp} {dvs:List V} {ds:List Value} {E:XK} {x m:Str} {p pos apos:Pos} {e o:Expr} {es:List Expr} {ta:TE} {t:TA}
theorem run_fn {pins:List (Addr × Obj)} {σ:St} {H:Hp} {s:Shared} {Q:VK} {us:List Value} {vs:List V} (F:FnOk X.prog X.w X.K X.mg X.base CX k f fd ps sp) (hr:Room k X.A) (hb:Binds X.K fd ps ds) (hd:Vals dvs ds) (hx:Passes CX X E)
    (I:Inv X pins σ H s) (r:Vals vs us) (h:sp (vs ++ dvs) H Q E):wpAny (model X.prog X.w) X.A (call (.ref f) us) (EP X pins σ Q) X.xe s:=by
  have r2:Vals (vs ++ dvs) (us ++ ds):=r.append hd
  have hl:(us ++ ds).length=ps.length:=by rw [<- r2.length]; exact F.len _ _ _ _ h
  refine wpAny_call (codeAny_mono (F.run X.A X.stack s H ⟨us,[]⟩ (us ++ ds) (vs ++ dvs) Q E hr I.env0 (hb s us I.kIn hl) r2 h) fun r s' hq=>?_)
  cases r with
  | error e=>exact hx pins σ H s e s' I hq
  | ok fl =>
    cases fl with
    | ret u=>exact I.after hq
    | next=>exact False.elim hq
    | brk=>exact False.elim hq
    | cont=>exact False.elim hq
theorem pe_call (F:FnOk X.prog X.w X.K X.mg X.base CX k f fd ps sp) (hr:Room k X.A) (hg:Gl X x) (hm:X.mg x=some (.ref f)) (hk:PySem.W.keepIn X.K (.ref f)=true) (hb:Binds X.K fd ps ds) (hd:Vals dvs ds) (hx:Passes CX X E)
    (ha:PA X (e :: es) t) (hdb:(x == ("__debug__":Str))=false:=by decide) (he:starEach (e :: es) X.env=(false,eval e X.env) :: starEach es X.env:=by rfl) (hpl:(backTo pos (starEach es X.env)).any (·.1)=false:=by rfl) :
    PE X (.Call (.Name x p) (e :: es) [] pos) (tCall sp dvs E t):=by
  intro pins s σ H Q I h
  refine wpAny_Call_Name_kw (ld_glob I hg hm ?_ hdb)
  refine PySem.W.callWith_K (h₀:=X.base) I.ok.mod.kin hk (thn (ha pos pins s σ H _ I h) fun us s1 ⟨vs,H1,I1,r,q⟩=>⟨I1.kIn,?_⟩) he hpl
  exact run_fn F hr hb hd hx I1 r q
theorem pe_meth {pl:Sem Bool} (he:PE X o ta) (c:Cls X.K C) (hm:Meth X.K C m f) (F:FnOk X.prog X.w X.K X.mg X.base CX k f fd ps sp) (hr:Room k X.A) (hb:Binds X.K fd ps ds) (hd:Vals dvs ds) (hx:Passes CX X E) (ha:PA X (e :: es) t)
    (hst:starEach (e :: es) X.env=(false,eval e X.env) :: starEach es X.env:=by rfl) (hpl:(backTo pos (starEach es X.env)).any (·.1)=false:=by rfl)
    (ht:eval (.Call (.Attribute o m apos) (e :: es) [] pos) X.env=(do
      let ov <- eval o X.env
      standAt apos.atName
      let (f,first) <- holding [ov] (getMethod ov m pl)
      callWith pos f first (backTo pos (starEach (e :: es) X.env)) (backToKw pos (keywordEach [] X.env))):=by rfl) :
    PE X (.Call (.Attribute o m apos) (e :: es) [] pos) (tMeth C m sp dvs E ta t):=by
  intro pins s σ H Q I h
  refine PySem.W.methodCall_KW (pl:=pl) (thn (he pins s σ H _ I h) fun u s1 ⟨x,H1,I1,rx,a,dx,fs,ex,ea,l,q⟩=>?_) ht
  subst ex
  obtain rfl:u=Value.ref a:=rx
  refine getmeth_ok I1 ea c hm l ?_
  refine PySem.W.callWith_K (first:=[.ref a]) (h₀:=X.base) I.ok.mod.kin hm.kp (thn (ha pos pins s1 σ H1 _ I1 q) fun us s2 ⟨vs,H2,I2,r,q2⟩=>⟨I2.kIn,?_⟩) hst hpl
  exact run_fn (us:=.ref a :: us) (vs:=.ref a :: vs) F hr hb hd hx I2 (.cons rfl r) q2
theorem pe_meth0 {pl:Sem Bool} (he:PE X o ta) (c:Cls X.K C) (hm:Meth X.K C m f) (F:FnOk X.prog X.w X.K X.mg X.base CX k f fd ps sp) (hr:Room k X.A) (hb:Binds X.K fd ps ds) (hd:Vals dvs ds) (hx:Passes CX X E)
    (ht:eval (.Call (.Attribute o m apos) [] [] pos) X.env=(do
      let ov <- eval o X.env
      standAt apos.atName
      let (f,first) <- holding [ov] (getMethod ov m pl)
      callWith pos f first (backTo pos (starEach [] X.env)) (backToKw pos (keywordEach [] X.env))):=by rfl) :
    PE X (.Call (.Attribute o m apos) [] [] pos) (tMeth C m sp dvs E ta tNil):=by
  intro pins s σ H Q I h
  refine PySem.W.methodCall_KW (pl:=pl) (thn (he pins s σ H _ I h) fun u s1 ⟨x,H1,I1,rx,a,dx,fs,ex,ea,l,q⟩=>?_) ht
  subst ex
  obtain rfl:u=Value.ref a:=rx
  refine getmeth_ok I1 ea c hm l ?_
  exact PySem.W.callWith_K0 (first:=[.ref a]) I1.kIn hm.kp (run_fn (us:=[.ref a]) (vs:=[.ref a]) F hr hb hd hx I1 (.cons rfl .nil) q)
structure Mk (K:PySem.W.Frag) (C f:Addr):Prop where
  makes:PySem.W.makesIn K C=true
  init:PySem.W.findIn K (.ref C) "__init__"=some (some (.ref f))
  fn:PySem.W.isFn K (.ref f)=true
  kp:PySem.W.keepIn K (.ref C)=true
theorem run_make {pins:List (Addr × Obj)} {σ:St} {H:Hp} {s:Shared} {Q:VK} {us:List Value} {vs:List V} (M:Mk X.K C f) (F:FnOk X.prog X.w X.K X.mg X.base CX k f fd ps sp) (hr:Room (k + 1) X.A) (hb:Binds X.K fd ps ds) (hd:Vals dvs ds)
    (hx:Passes CX X E) (I:Inv X pins σ H s) (r:Vals vs us)
    (h:∀ x dx,H x=none->H dx=none->dx≠x->sp (.ref x :: (vs ++ dvs)) (upd (upd H dx (.own x)) x (.ins C dx [])) (fun v H2=>v=.non/\Q (.ref x) H2) E) :
    wpAny (model X.prog X.w) X.A (call (.ref C) us) (EP X pins σ Q) X.xe s:=by
  have hq:=h (s.heap.objs.size + 1) s.heap.objs.size (I.hok.fresh (Nat.le_succ _)) (I.hok.fresh (Nat.le_refl _)) (Nat.ne_of_lt (Nat.lt_succ_self _))
  have I2:=Inv.made (C:=C) I
  have r2:Vals (V.ref (s.heap.objs.size + 1) :: (vs ++ dvs)) (Value.ref (s.heap.objs.size + 1) :: (us ++ ds)):=.cons rfl (r.append hd)
  have hl:(Value.ref (s.heap.objs.size + 1) :: us ++ ds).length=ps.length:=by
    have e:=r2.length
    rw [F.len _ _ _ _ hq] at e
    exact e.symm
  refine wpAny_call (make_map (f:=f) I.kIn M.makes M.init (beq_iff_eq.mp M.fn) (codeAny_mono (F.run _ X.stack _ _ ⟨Value.ref (s.heap.objs.size + 1) :: us,[]⟩ (Value.ref (s.heap.objs.size + 1) :: (us ++ ds)) _ _ E (hr.make C us [])
    (I2.env0.make C us []) (hb _ (Value.ref (s.heap.objs.size + 1) :: us) I2.kIn hl) r2 hq) fun r s' hq'=>?_))
  cases r with
  | error e=>exact hx pins σ _ _ e s' I2 hq'
  | ok fl =>
    cases fl with
    | ret u =>
      obtain ⟨v,H',I3,rv,ev,q3⟩:=I2.after hq'
      subst ev
      exact ⟨rv,⟨V.ref (s.heap.objs.size + 1),H',I3,rfl,q3⟩⟩
    | next=>exact False.elim hq'
    | brk=>exact False.elim hq'
    | cont=>exact False.elim hq'
theorem pe_make (M:Mk X.K C f) (F:FnOk X.prog X.w X.K X.mg X.base CX k f fd ps sp) (hr:Room (k + 1) X.A) (hg:Gl X x) (hm:X.mg x=some (.ref C)) (hb:Binds X.K fd ps ds) (hd:Vals dvs ds) (hx:Passes CX X E)
    (ha:PA X (e :: es) t) (hdb:(x == ("__debug__":Str))=false:=by decide) (he:starEach (e :: es) X.env=(false,eval e X.env) :: starEach es X.env:=by rfl) (hpl:(backTo pos (starEach es X.env)).any (·.1)=false:=by rfl) :
    PE X (.Call (.Name x p) (e :: es) [] pos) (tMake C sp dvs E t):=by
  intro pins s σ H Q I h
  refine wpAny_Call_Name_kw (ld_glob I hg hm ?_ hdb)
  refine PySem.W.callWith_K (h₀:=X.base) I.ok.mod.kin M.kp (thn (ha pos pins s σ H _ I h) fun us s1 ⟨vs,H1,I1,r,q⟩=>⟨I1.kIn,?_⟩) he hpl
  exact run_make M F hr hb hd hx I1 r q
end
section
variable {X:Cx} {CX:CXT} {k:Nat} {f C:Addr} {fd:FuncData} {ps ks:List Str} {sp:Sp} {E:XK} {x m:Str} {p pos apos kpos:Pos} {e o:Expr} {es:List Expr} {kws:List Keyword} {te ta:TE} {t tk:TA} {nm:Option Str}
structure KBinds (K:PySem.W.Frag) (fd:FuncData) (ps ks:List Str) (g:List Value->List Value->List Value) (gV:List V->List V->List V):Prop where
  to:∀ (s:Shared) (us ws:List Value),K.In s.heap->(g us ws).length=ps.length->BindsTo s fd ⟨us,ks.zip ws⟩ (ps.zip (g us ws))
  rel:∀ {vs:List V} {us:List Value} {zs:List V} {ws:List Value},Vals vs us->Vals zs ws->Vals (gV vs zs) (g us ws)
variable {g:List Value->List Value->List Value} {gV:List V->List V->List V}
end
structure FnScope (N P:List Str) (sc:Scope):Prop where
  kind:sc.kind=.function
  co:sc.isCoroutine=false
  gen:sc.isGenerator=false
  nd:N.Nodup
  pre:N.take P.length=P
  par:∀ x∈P,sc.names.lookup x=some .local\/sc.names.lookup x=some .cell
  nofree:∀ y∈sc.names,y.2≠.free
theorem bindL_out {kindOf:Str->Option NameKind} {x:Str}:∀ {binds:List (Str × Value)} {m:Str->Option Value},(∀ v,(x,v) ∉ binds)->bindL kindOf binds m x=m x
  | [],_,_=>rfl
  | (n,v) :: r,m,h=>by
    unfold bindL
    rw [bindL_out fun w hw=>h w (List.mem_cons_of_mem _ hw)]
    split
    · have:x≠n:=by rintro rfl; exact h v List.mem_cons_self
      simp [this]
    · rfl
theorem bindC_out {kindOf:Str->Option NameKind} {x:Str}:∀ {binds:List (Str × Value)} {m:Str->Option Value},(∀ v,(x,v) ∉ binds)->bindC kindOf binds m x=m x
  | [],_,_=>rfl
  | (n,v) :: r,m,h=>by
    unfold bindC
    rw [bindC_out fun w hw=>h w (List.mem_cons_of_mem _ hw)]
    split
    · rfl
    · have:x≠n:=by rintro rfl; exact h v List.mem_cons_self
      simp [this]
theorem bindL_get {kindOf:Str->Option NameKind} {x:Str} {v:Value}:∀ {P:List Str} {vs:List Value} {i:Nat} {m:Str->Option Value},P.Nodup->P[i]?=some x->vs[i]?=some v->kindOf x=some .local ->
    bindL kindOf (P.zip vs) m x=some v
  | [],_,_,_,_,h,_,_=>by simp at h
  | _ :: _,[],_,_,_,_,h,_=>by simp at h
  | p :: P,w :: vs,0,m,nd,h1,h2,hk=>by
    simp at h1 h2; subst h1; subst h2
    show bindL kindOf ((p,w) :: P.zip vs) m p=_
    unfold bindL
    rw [bindL_out fun v hv=>(List.nodup_cons.mp nd).1 (List.of_mem_zip hv).1,if_pos hk]
    simp
  | p :: P,w :: vs,i + 1,m,nd,h1,h2,hk=>by
    show bindL kindOf ((p,w) :: P.zip vs) m x=_
    unfold bindL
    exact bindL_get (i:=i) (List.nodup_cons.mp nd).2 (by simpa using h1) (by simpa using h2) hk
theorem bindC_get {kindOf:Str->Option NameKind} {x:Str} {v:Value}:∀ {P:List Str} {vs:List Value} {i:Nat} {m:Str->Option Value},P.Nodup->P[i]?=some x->vs[i]?=some v->kindOf x≠some .local ->
    bindC kindOf (P.zip vs) m x=some v
  | [],_,_,_,_,h,_,_=>by simp at h
  | _ :: _,[],_,_,_,_,h,_=>by simp at h
  | p :: P,w :: vs,0,m,nd,h1,h2,hk=>by
    simp at h1 h2; subst h1; subst h2
    show bindC kindOf ((p,w) :: P.zip vs) m p=_
    unfold bindC
    rw [bindC_out fun v hv=>(List.nodup_cons.mp nd).1 (List.of_mem_zip hv).1,if_neg hk]
    simp
  | p :: P,w :: vs,i + 1,m,nd,h1,h2,hk=>by
    show bindC kindOf ((p,w) :: P.zip vs) m x=_
    unfold bindC
    exact bindC_get (i:=i) (List.nodup_cons.mp nd).2 (by simpa using h1) (by simpa using h2) hk
def start (N:List Str) (vs:List V):St:=vs.map some ++ List.replicate (N.length - vs.length) none
def cxOf (CX:CXT) (P:Program) (w:World) (K:PySem.W.Frag) (mg:Str->Option Value) (base:Heap) (N:List Str) (qual:Str) (scope:Scope) (f:Addr) (cd:Value) (A:Around) (outer:List Env) (s:Shared) (H:Hp) (E:XK):Cx where
  prog:=P
  w:=w
  K:=K
  mg:=mg
  base:=base
  A:=A.deeper (envOfC qual scope s.heap.objs.size f cd)
  N:=N
  s₀:=s
  H₀:=H
  env:=envOfC qual scope s.heap.objs.size f cd
  outer:=outer
  stack:=envOfC qual scope s.heap.objs.size f cd :: outer
  ex:=[]
  calm:=true
  fn:=fun _=>true
  pn:=[]
  xe:=fun e s'=>wpAny (model P w) (A.deeper (envOfC qual scope s.heap.objs.size f cd)) (leaving (envOfC qual scope s.heap.objs.size f cd) e) (fun _ s''=>CX outer H s E e s'') (fun e' s''=>CX outer H s E e' s'') s'
theorem cell_has {sc:Scope} {n:Nat} {x:Str} (h:sc.names.lookup x=some .cell):∃ c,(cellsFrom n sc.names []).lookup x=some c:=by
  have q:=PySem.W.cellsFrom_some sc.names n [] (.inl h)
  exact Option.isSome_iff_exists.mp q
theorem inv_start {CX:CXT} {P:Program} {w:World} {K:PySem.W.Frag} {mg:Str->Option Value} {base:Heap} {N ps:List Str} {qual:Str} {scope:Scope} {f:Addr} {cd:Value} {A:Around} {outer:List Env} {s s1:Shared} {H:Hp} {E:XK} {us:List Value} {vs:List V}
    (S:FnScope N ps scope) (hd:A.handled=none) (e0:Env0 P w K mg base A outer s H) (hl:vs.length=ps.length) (r:Vals vs us)
    (x:InCallC s s.heap.objs.size (bindL (envOfC qual scope s.heap.objs.size f cd).kindOf (ps.zip us) fun _=>none) (cellsFrom (s.heap.objs.size + 1) scope.names []) (bindC (envOfC qual scope s.heap.objs.size f cd).kindOf (ps.zip us) fun _=>none) s1) :
    Inv (cxOf CX P w K mg base N qual scope f cd A outer s H E) [] (start N vs) H s1:=by
  have hpl:ps.length<=N.length:=by have:=congrArg List.length S.pre; rw [List.length_take] at this; omega
  obtain ⟨h1,tk,rfl,hk⟩:=x.done
  have noA:∀ b:Addr,b ∉ (cxOf CX P w K mg base N qual scope f cd A outer s H E).ex:=fun b z=>absurd (show b∈([]:List Addr) from z) (by simp)
  refine ⟨⟨e0.mod,S.kind,rfl,rfl,Nat.le_refl _,fun y z c h1 h2=>?_,fun y hy=>?_,fun y c _ h=>?_,fun _=>hd,Around.frames_deeper e0.frames,.inr ⟨rfl,rfl⟩,fun b z=>absurd z (noA b),e0.bs,e0.bsz,fun b _ _=>noA b,fun b z=>absurd z (noA b),e0.funs,e0.frf⟩,
    rfl,e0.bare,Un.kept hk,⟨_,x.toInCall.ns,fun i y v h1 h2 h3=>?_⟩,fun y c h=>⟨_,x.cell y c h⟩,e0.hok.fresh (Nat.le_refl _),fun y c h=>?_,fun p hp=>absurd (show p∈([]:List (Addr × Obj)) from hp) (by simp),e0.hok.kept hk,?_⟩
  · exact name_of_addr x.apart (PySem.mem_of_lookup h1) (PySem.mem_of_lookup h2)
  · have hy:scope.names.lookup y=some .cell\/scope.names.lookup y=some .free:=hy
    rcases hy with hy | hy
    · exact cell_has hy
    · exact absurd rfl (S.nofree _ (PySem.mem_of_lookup hy))
  · exact Nat.le_of_lt (x.above y c (PySem.mem_of_lookup h))
  · have hi:i < vs.length:=by
      unfold start at h2
      by_cases hi:i < vs.length
      · exact hi
      · rw [List.getElem?_append_right (by simpa using hi)] at h2
        rw [List.getElem?_replicate] at h2
        split at h2 <;> cases h2
    have ha:vs[i]?=some v:=by
      unfold start at h2
      rw [List.getElem?_append_left (by simpa using hi),List.getElem?_map] at h2
      cases e:vs[i]? with
      | none=>rw [e] at h2; cases h2
      | some a=>rw [e] at h2; cases h2; rfl
    obtain ⟨u,hu,rv⟩:=r.get ha
    have hp:ps[i]?=some y:=by
      rw [<- S.pre,List.getElem?_take_of_lt (by omega)]; exact h1
    have ndP:ps.Nodup:=by rw [<- S.pre]; exact S.nd.sublist (List.take_sublist _ _)
    refine ⟨u,rv,?_⟩
    rcases S.par y (List.mem_of_getElem? hp) with k | k
    · exact .inl ⟨k,bindL_get ndP hp hu k⟩
    · obtain ⟨c,e⟩:=cell_has (n:=s.heap.objs.size + 1) k
      refine .inr ⟨.inl k,c,e,?_⟩
      have q:=x.cell y c e
      rw [bindC_get ndP hp hu (by show scope.names.lookup y≠_; rw [k]; decide)] at q
      exact q
  · exact e0.hok.fresh (Nat.le_of_lt (x.above y c (PySem.mem_of_lookup h)))
  · unfold start
    show _=N.length
    rw [List.length_append,List.length_map,List.length_replicate]
    omega
theorem fn_of {CX:CXT} {P:Program} {w:World} {K:PySem.W.Frag} {mg:Str->Option Value} {base:Heap} {k:Nat} {f:Addr} {name qual:Str} {params:Arguments} {body:List Stmt} {scope:Scope} {dV kV doc pm cdv ct oc:Value} {an od:Option Addr}
    {osl:Array (Option Value)} {N ps:List Str} {sp:Sp} (lk:K.lookup f=some ⟨oc,od,.func (PySem.W.fnOf name qual params body scope dV kV doc pm an cdv ct),osl⟩) (hcd:PySem.W.codeIn K cdv qual=true) (S:FnScope N ps scope)
    (len:∀ vs H Q E,sp vs H Q E->vs.length=ps.length)
    (hbody:∀ (A:Around) (outer:List Env) (s:Shared) (H:Hp) (vs:List V) (Q:VK) (E:XK),Room k (A.deeper (envOfC qual scope s.heap.objs.size f cdv))->sp vs H Q E ->
      ∃ t,PSs (cxOf CX P w K mg base N qual scope f cdv A outer s H E) body t/\t { nx:=fun _ H'=>Q .non H',rt:=Q } (start N vs) H) :
    FnOk P w K mg base CX (k + 1) f (PySem.W.fnOf name qual params body scope dV kV doc pm an cdv ct) ps sp:=by
  refine ⟨len,fun A outer s H args us vs Q E hr e0 hb r hsp=>?_⟩
  have hl:=len _ _ _ _ hsp
  have KX:K.In s.heap:=e0.mod.kin.keeps fun b o e=>(e0.bs b o e).1
  have lim:s.heap.NoLimit:=e0.mod.nolimit.keeps fun b o e=>(e0.bs b o e).1
  have hkind:∀ y∈ps.zip us,scope.names.lookup y.1=some .local\/(scope.names.lookup y.1=some .cell/\((cellsFrom (s.heap.objs.size + 1) scope.names []).lookup y.1).isSome=true):=fun ⟨n,v⟩ hy=>by
    rcases S.par n (List.of_mem_zip hy).1 with q | q
    · exact .inl q
    · exact .inr ⟨q,PySem.W.cellsFrom_some _ _ _ (.inl q)⟩
  refine codeAny_call_function hr.depth (KX _ _ lk) rfl S.co S.gen rfl (PySem.W.codeRec_of KX hcd) (hb _ _ _ _ ?_)
  refine wpAny_newFunctionEnv_cells S.kind hkind fun env he s1 x=>?_
  subst he
  refine ⟨lim.keeps x.toInCall.keep,codeAny_func ?_⟩
  obtain ⟨t,ht,hq⟩:=hbody A outer s H vs Q E (hr.deeper _) hsp
  have I:Inv (cxOf CX P w K mg base N qual scope f cdv A outer s H E) [] (start N vs) H s1:=inv_start S hr.hd e0 hl r x
  refine wpAny_mono (ht [] s1 (start N vs) H _ I hq) (fun fl s' hs=>?_) fun e s' hs=>hs
  have fin:∀ {σ':St} {H':Hp} {v:V} {u:Value},Inv (cxOf CX P w K mg base N qual scope f cdv A outer s H E) [] σ' H' s'->RelV v u->Q v H'->CE outer P w H s Q u s' :=
    fun {σ' H' v u} J rv q=>⟨v,H',J.os,J.bare,J.base,J.hok,rv,q⟩
  cases fl with
  | ret u =>
    obtain ⟨v,σ',H',J,rv,q⟩:=hs
    exact fin J rv q
  | next =>
    obtain ⟨σ',H',J,q⟩:=hs
    exact fin (v:=V.non) (u:=Value.none) J rfl q
  | brk =>
    obtain ⟨_,_,_,q⟩:=hs
    exact False.elim q
  | cont =>
    obtain ⟨_,_,_,q⟩:=hs
    exact False.elim q
end L2
namespace L2
open PySem PySem.Spec PyProof.Rows
section
variable {X:Cx} {x:Str} {p pos:Pos} {e:Expr} {es:List Expr} {t:TA} {id T:String} {r:List V->Hp->VK->Prop}
def tCB (r:List V->Hp->VK->Prop) (t:TA):TE:=fun σ H Q=>t σ H fun vs H1=>r vs H1 Q
theorem pe_callB (hc:CallR X (.builtin id) r) (hg:Gl X x) (hm:X.mg x=none) (hv:bootBuiltins x=some (.builtin id)) (ha:PA X (e :: es) t) (hn:x≠"__name__":=by decide) (hdb:(x == ("__debug__":Str))=false:=by decide)
    (he:starEach (e :: es) X.env=(false,eval e X.env) :: starEach es X.env:=by rfl) (hpl:(backTo pos (starEach es X.env)).any (·.1)=false:=by rfl):PE X (.Call (.Name x p) (e :: es) [] pos) (tCB r t):=by
  intro pins s σ H Q I h
  refine wpAny_Call_Name_kw (ld_blt I hg hm hv ?_ hn hdb)
  exact PyProof.Rows.callWith_builtin1 (thn (ha pos pins s σ H _ I h) fun us s1 ⟨vs,H1,I1,r1,q1⟩=>hc pins s1 σ H1 vs us Q I1 r1 q1) he hpl
theorem pe_callTy (hc:CallR X (.type T) r) (hg:Gl X x) (hm:X.mg x=none) (hv:bootBuiltins x=some (.type T)) (ha:PA X (e :: es) t) (hn:x≠"__name__":=by decide) (hdb:(x == ("__debug__":Str))=false:=by decide)
    (he:starEach (e :: es) X.env=(false,eval e X.env) :: starEach es X.env:=by rfl) (hpl:(backTo pos (starEach es X.env)).any (·.1)=false:=by rfl):PE X (.Call (.Name x p) (e :: es) [] pos) (tCB r t):=by
  intro pins s σ H Q I h
  refine wpAny_Call_Name_kw (ld_blt I hg hm hv ?_ hn hdb)
  exact PyProof.Rows.callWith_type1 (thn (ha pos pins s σ H _ I h) fun us s1 ⟨vs,H1,I1,r1,q1⟩=>hc pins s1 σ H1 vs us Q I1 r1 q1) he hpl
end
end L2
namespace HT
open PySem PyProof.Rows
section
open PySem.SeqAt
open PySem.AutoSeq1 (wpAny_loadPart')
open PySem.MeetsSeq PySem.MeetsSeq2 PySem.MeetsSeq3
end
section
variable {prog:Program} {w:World} {A:Around} {E:Value->Shared->Prop} {s:Shared}
def sIx (n d:Nat):Option Int->Nat
  | none=>d
  | some v=>if v < 0 then (v + (n:Int)).toNat else min v.toNat n
end
end HT
namespace L2
open PySem PySem.Spec PyProof.Rows
abbrev TO:=St->Hp->(Option Int->Hp->Prop)->Prop
def PO (X:Cx) (e:Option Expr) (t:TO):Prop :=
  ∀ (pins:List (Addr × Obj)) (s:Shared) (σ:St) (H:Hp) (Q:Option Int->Hp->Prop),Inv X pins σ H s->t σ H Q ->
    wpAny (model X.prog X.w) X.A (evalPart e X.env) (fun u s'=>∃ o H',Inv X pins σ H' s'/\IsPart u o/\Q o H') X.xe s
def tNoPart:TO:=fun _ H Q=>Q none H
def tPart (t:TE):TO:=fun σ H Q=>t σ H fun x H1=>∃ i,x=.int i/\Q (some i) H1
section
variable {X:Cx} {e:Expr} {te:TE} {lo hi:Option Expr} {tl th:TO} {pos p2:Pos}
theorem po_none:PO X none tNoPart:=by
  intro pins s σ H Q I h
  rw [evalPart_none]
  exact wpAny_pure ⟨none,H,I,.none,h⟩
theorem po_some (h:PE X e te):PO X (some e) (tPart te):=by
  intro pins s σ H Q I hw
  rw [evalPart_some]
  refine thn (h pins s σ H _ I hw) fun u s1 ⟨x,H1,I1,r1,q1⟩=>?_
  obtain ⟨i,rfl,q⟩:=q1
  obtain ⟨t,rfl⟩:=r1
  exact ⟨some i,H1,I1,.int i t,q⟩
def SlR (X:Cx) (r:V->Option Int->Option Int->Hp->VK->Prop):Prop :=
  ∀ (pins:List (Addr × Obj)) (s:Shared) (σ:St) (H:Hp) (x:V) (v vl vu:Value) (lo hi:Option Int) (sl:Addr) (Q:VK),Inv X pins σ H s->RelV x v->s.heap.IsSliceOf sl vl vu .none->IsPart vl lo->IsPart vu hi->r x lo hi H Q ->
    ∃ T id,typeLookup (.type T) "__getitem__"=pure (some (.builtin id))/\s.TypeIs v T/\wpAny (model X.prog X.w) X.A (getItem v (.ref sl)) (EP X pins σ Q) X.xe s
theorem SlR.or {r r':V->Option Int->Option Int->Hp->VK->Prop} (h:SlR X r) (h':SlR X r'):SlR X (fun x lo hi H Q=>r x lo hi H Q\/r' x lo hi H Q):=by
  intro pins s σ H x v vl vu lo hi sl Q I rx hs pl pu q
  rcases q with q | q
  · exact h pins s σ H x v vl vu lo hi sl Q I rx hs pl pu q
  · exact h' pins s σ H x v vl vu lo hi sl Q I rx hs pl pu q
def tSl (r:V->Option Int->Option Int->Hp->VK->Prop) (te:TE) (tl th:TO):TE:=fun σ H Q=>te σ H fun x H1=>tl σ H1 fun l H2=>th σ H2 fun u H3=>r x l u H3 Q
theorem pe_slice {r:V->Option Int->Option Int->Hp->VK->Prop} (hr:SlR X r) (he:PE X e te) (hl:PO X lo tl) (hu:PO X hi th):PE X (.Subscript e (.Slice lo hi none p2) pos) (tSl r te tl th):=by
  intro pins s σ H Q I h
  refine Subscript_ (thn (he pins s σ H _ I h) fun v s1 ⟨x,H1,I1,r1,q1⟩=>?_)
  refine wpAny_Slice (thn (hl pins s1 σ H1 _ I1 q1) fun vl s2 ⟨l,H2,I2,pl,q2⟩=>thn (hu pins s2 σ H2 _ I2 q2) fun vu s3 ⟨u,H3,I3,pu,q3⟩=>?_)
  rw [evalPart_none]
  refine wpAny_pure ?_
  have I4:Inv X pins σ H3 { s3 with heap:=s3.heap.push { cls:=.type "slice",data:=.fields #[vl,vu,.none] } }:=I3.kept (t':=s3.toks) fun b ob q=>Heap.get?_push_of_some _ q
  obtain ⟨T,id,hT,ht,hg⟩:=hr pins { s3 with heap:=s3.heap.push { cls:=.type "slice",data:=.fields #[vl,vu,.none] } } σ H3 x v vl vu l u s3.heap.objs.size Q I4 r1 (Heap.IsSliceOf.new ..) pl pu q3
  show wpAny (model X.prog X.w) X.A (subscriptTail e (.Slice lo hi none p2) v (.ref s3.heap.objs.size)) (EP X pins σ Q) X.xe { s3 with heap:=s3.heap.push { cls:=.type "slice",data:=.fields #[vl,vu,.none] } }
  exact tail_any (ops:=[.ref s3.heap.objs.size,v]) ht hT hg (by with_unfolding_all rfl)
def cutV (xs:List V) (lo hi:Option Int):List V:=(xs.drop (HT.sIx xs.length 0 lo)).take (HT.sIx xs.length xs.length hi - HT.sIx xs.length 0 lo)
theorem cutV_length (xs:List V) (lo hi:Option Int):(cutV xs lo hi).length<=xs.length:=by
  unfold cutV
  rw [List.length_take,List.length_drop]
  omega
end
end L2
namespace L2
open PySem PySem.Spec PyProof.Rows
def ixN (n:Nat) (i:Int):Option Nat:=if 0<=i then (if i < n then some i.toNat else none) else if -(n:Int)<=i then some (i + n).toNat else none
def atI {α:Type} (xs:List α) (i:Int):Option α:=(ixN xs.length i).bind fun j=>xs[j]?
theorem ixN_seq {n:Nat} {i:Int} {j:Nat} (h:ixN n i=some j):seqIndex? i n=some j/\j < n/\-(n:Int)<=i/\i < n:=by
  unfold ixN at h
  by_cases h0:0<=i
  · rw [if_pos h0] at h
    by_cases h1:i < n
    · rw [if_pos h1] at h
      have e:i.toNat=j:=Option.some.inj h
      exact ⟨by rw [seqIndex_of h0 h1,e],by omega,by omega,h1⟩
    · rw [if_neg h1] at h; cases h
  · rw [if_neg h0] at h
    by_cases h1:-(n:Int)<=i
    · rw [if_pos h1] at h
      have e:(i + n).toNat=j:=Option.some.inj h
      exact ⟨by rw [seqIndex_neg (by omega) h1,e],by omega,h1,by omega⟩
    · rw [if_neg h1] at h; cases h
theorem atI_get {α:Type} {xs:List α} {i:Int} {v:α} (h:atI xs i=some v):∃ j,seqIndex? i xs.length=some j/\xs[j]?=some v/\j < xs.length/\-(xs.length:Int)<=i/\i < xs.length:=by
  unfold atI at h
  cases e:ixN xs.length i with
  | none=>rw [e] at h; cases h
  | some j =>
    rw [e] at h
    obtain ⟨h1,h2,h3,h4⟩:=ixN_seq e
    exact ⟨j,h1,h,h2,h3,h4⟩
theorem atI_nat {α:Type} {xs:List α} {j:Nat} {v:α} (h:xs[j]?=some v):atI xs (j:Int)=some v:=by
  have hj:j < xs.length:=(List.getElem?_eq_some_iff.mp h).1
  have e:ixN xs.length (j:Int)=some j:=by
    unfold ixN
    rw [if_pos (by omega),if_pos (by omega)]; simp
  unfold atI; rw [e]; exact h
def PlainIx (b:Expr):Prop:=∀ o i,subscripted b false o i=operate [o,i] (getItem o i)
def IxR (X:Cx) (r:R2):Prop :=
  ∀ (value slice:Expr) (pins:List (Addr × Obj)) (s:Shared) (σ:St) (H:Hp) (x y:V) (v u:Value) (Q:VK),Inv X pins σ H s->RelV x v->RelV y u->r x y H Q ->
    subscripted slice false v u=operate [v,u] (getItem v u)->wpAny (model X.prog X.w) X.A (subscriptTail value slice v u) (EP X pins σ Q) X.xe s
def MtR (X:Cx) (id:String) (r:V->List V->Hp->VK->Prop):Prop :=
  ∀ (pins:List (Addr × Obj)) (s:Shared) (σ:St) (H:Hp) (x:V) (xs:List V) (v:Value) (us:List Value) (Q:VK),Inv X pins σ H s->RelV x v->Vals xs us->r x xs H Q ->
    wpAny (model X.prog X.w) X.A (call (.builtin id) (v :: us)) (EP X pins σ Q) X.xe s
section
variable {X:Cx} {a b:Expr} {ta tb:TE} {pos:Pos}
theorem IxR.or {r r':R2} (h:IxR X r) (h':IxR X r'):IxR X (fun x y H Q=>r x y H Q\/r' x y H Q):=by
  intro value slice pins s σ H x y v u Q I rx ry q hs
  rcases q with q | q
  · exact h value slice pins s σ H x y v u Q I rx ry q hs
  · exact h' value slice pins s σ H x y v u Q I rx ry q hs
theorem MtR.or {id:String} {r r':V->List V->Hp->VK->Prop} (h:MtR X id r) (h':MtR X id r'):MtR X id (fun x xs H Q=>r x xs H Q\/r' x xs H Q):=by
  intro pins s σ H x xs v us Q I rx rs q
  rcases q with q | q
  · exact h pins s σ H x xs v us Q I rx rs q
  · exact h' pins s σ H x xs v us Q I rx rs q
theorem pe_ix {r:R2} (hr:IxR X r) (ha:PE X a ta) (hb:PE X b tb) (hs:PlainIx b):PE X (.Subscript a b pos) (tOp r ta tb):=by
  intro pins s σ H Q I h
  exact Subscript_ (binT ha hb I h fun v u s2 x y H2 I2 rx ry q=>hr a b pins s2 σ H2 x y v u Q I2 rx ry q (hs _ _))
def rIxL (K:PySem.W.Frag):R2:=fun x y H Q=>∃ p xs i v,x=.ref p/\y=.int i/\SqL K H p xs/\atI xs i=some v/\Q v H
def rIxT (K:PySem.W.Frag):R2:=fun x y H Q=>∃ p xs i v,x=.ref p/\y=.int i/\SqT K H p xs/\atI xs i=some v/\Q v H
def rIxS:R2:=fun x y H Q=>∃ z i c,x=.str z/\y=.int i/\z.length<=sizeLine/\atI z.cps.toList i=some c/\Q (.str ⟨#[c]⟩) H
theorem ix_list:IxR X (rIxL X.K):=by
  intro value slice pins s σ H x y v u Q I rx ry h hs
  obtain ⟨p,xs,i,z,rfl,rfl,hq,he,q⟩:=h
  cases rx
  obtain ⟨t,rfl⟩:=ry
  obtain ⟨its,r,pl,hz⟩:=I.list hq
  obtain ⟨j,h1,h2,h3,h4,h5⟩:=atI_get he
  obtain ⟨w,ew,rw'⟩:=r.get h2
  have hl:=r.length
  have hn:=line63
  have fin:EP X pins σ Q w s:=⟨z,H,I,rw',q⟩
  by_cases h0:0<=i
  · have hj:i.toNat=j:=by
      rw [seqIndex_of h0 h5] at h1
      exact Option.some.inj h1
    exact item_listR pl.isList h0 (by omega) (by rw [hj]; simpa using ew) fin hs
  · have hj:(i + (its.toArray.size:Int)).toNat=j:=by
      rw [seqIndex_neg (by omega) h4] at h1
      rw [List.size_toArray,<- hl]
      exact Option.some.inj h1
    exact subscriptTail_builtinR (x:=w) pl.isList.typeIs slot_list_getitem.lookup
      (wpAny_getItem_list_neg (Q:=fun r s'=>r=w/\EP X pins σ Q r s') pl.isList (by omega) (by rw [List.size_toArray] <;> omega) (by omega) (by rw [hj]; simpa using ew) ⟨rfl,fin⟩) hs
theorem ix_tup:IxR X (rIxT X.K):=by
  intro value slice pins s σ H x y v u Q I rx ry h hs
  obtain ⟨p,xs,i,z,rfl,rfl,hq,he,q⟩:=h
  cases rx
  obtain ⟨t,rfl⟩:=ry
  obtain ⟨its,r,pl,hz⟩:=I.tuple hq
  obtain ⟨j,h1,h2,h3,h4,h5⟩:=atI_get he
  obtain ⟨w,ew,rw'⟩:=r.get h2
  have hl:=r.length
  have hn:=line63
  have fin:EP X pins σ Q w s:=⟨z,H,I,rw',q⟩
  exact subscriptTail_builtinR (x:=w) pl.typeIs slot_tuple_getitem.lookup
    (getItem_tuple (j:=j) (Q:=fun r s'=>r=w/\EP X pins σ Q r s') pl (by omega) (by omega) (by rw [List.size_toArray,<- hl]; exact h1) (by simpa using ew) ⟨rfl,fin⟩) hs
theorem ix_str:IxR X rIxS:=by
  intro value slice pins s σ H x y v u Q I rx ry h hs
  obtain ⟨z,i,c,rfl,rfl,hz,he,q⟩:=h
  obtain ⟨t,rfl⟩:=rx
  obtain ⟨t',rfl⟩:=ry
  obtain ⟨j,h1,h2,h3,h4,h5⟩:=atI_get he
  have hl:z.cps.toList.length=z.length:=by simp [Str.length]
  rw [hl] at h1 h4 h5
  have hn:=line63
  exact tail_any (typeIs_str s z t) slot_str_getitem.lookup (getItem_str (c:=c) (by
    have e1:decide (i < -(2 ^ 63:Int))=false:=decide_eq_false (by omega)
    have e2:decide (i ≥ 2 ^ 63)=false:=decide_eq_false (by omega)
    rw [e1,e2,Bool.or_false]) (by rw [h1]; simpa using h2) ⟨.str ⟨#[c]⟩,H,I.tok _,⟨_,rfl⟩,q⟩) hs
theorem mapSeq_set (its:List Value) (n j:Nat) (u:Value):Obj.mapSeq (·.setIfInBounds j u) { cls:=.type "list",data:=.seq its.toArray n }={ cls:=.type "list",data:=.seq (its.set j u).toArray n }:=by
  simp [Obj.mapSeq]
theorem Inv.lst {pins:List (Addr × Obj)} {σ:St} {H:Hp} {s:Shared} {p:Addr} {xs:List V} (I:Inv X pins σ H s) (h:H p=some (.lst xs)) :
    ∃ (its:List Value) (n:Nat),Vals xs its/\s.heap.get? p=some { cls:=.type "list",data:=.seq its.toArray n }/\xs.length<=sizeLine:=by
  obtain ⟨z,its,n,r,e⟩:=I.hok p _ h
  exact ⟨its,n,r,e,z⟩
theorem Inv.lstUpd {pins:List (Addr × Obj)} {σ:St} {H:Hp} {s:Shared} {p:Addr} {xs ys:List V} {its its':List Value} {n n':Nat} {f:Obj->Obj} (I:Inv X pins σ H s) (h:H p=some (.lst xs))
    (ho:s.heap.get? p=some { cls:=.type "list",data:=.seq its.toArray n }) (hf:f { cls:=.type "list",data:=.seq its.toArray n }={ cls:=.type "list",data:=.seq its'.toArray n' }) (r:Vals ys its') (hz:ys.length<=sizeLine) (t:Nat) :
    Inv X pins σ (upd H p (.lst ys)) { s with heap:=s.heap.update p f,toks:=t }:=by
  have e:(s.heap.update p f).get? p=some { cls:=.type "list",data:=.seq its'.toArray n' }:=by
    rw [Heap.get?_update_self f ho (by rw [hf] <;> rfl),hf]
  refine I.write (x:=p) (e:=p) (by rw [h]; trivial) (.inl rfl) (fun b u hb q=>(Heap.get?_update_other _ _ (Ne.symm hb)).trans q) ⟨_,e⟩ ?_
  exact ⟨hz,its',n',r,e⟩
def rSetL:V->V->V->Hp->(Hp->Prop)->Prop:=fun o i v H Q=>∃ p xs k j,o=.ref p/\i=.int k/\H p=some (.lst xs)/\ixN xs.length k=some j/\Q (upd H p (.lst (xs.set j v)))
theorem set_list:PSet X rSetL:=by
  intro pins s σ H o i v ov iv u Q I ro ri rv h
  obtain ⟨p,xs,k,j,rfl,rfl,hp,hj,q⟩:=h
  cases ro
  obtain ⟨t,rfl⟩:=ri
  obtain ⟨its,n,r,ho,hz⟩:=I.lst hp
  obtain ⟨h1,h2,h3,h4⟩:=ixN_seq hj
  have hl:=r.length
  have hn:=line63
  have I':Inv X pins σ (upd H p (.lst (xs.set j v))) { s with heap:=s.heap.update p (Obj.mapSeq (·.setIfInBounds j u)) } :=
    I.lstUpd hp ho (mapSeq_set its n j u) (r.set rv j) (by rw [List.length_set]; exact hz) s.toks
  by_cases h0:0<=k
  · have hk:k.toNat=j:=by
      rw [seqIndex_of h0 h4] at h1
      exact Option.some.inj h1
    exact PySem.W.ki_setAt ho h0 (by omega) (by rw [List.size_toArray,<- hl]; exact h4) (by rw [hk]; exact ⟨_,I',q⟩)
  · have hk:(k + (its.toArray.size:Int)).toNat=j:=by
      rw [seqIndex_neg (by omega) h3] at h1
      rw [List.size_toArray,<- hl]
      exact Option.some.inj h1
    exact PySem.W.ki_setBack ho (by omega) (by rw [List.size_toArray,<- hl]; exact h3) (by omega) (by rw [hk]; exact ⟨_,I',q⟩)
theorem slice_bounds (lo hi:Option Int) (n:Nat):(sliceBounds lo hi none n).1=((HT.sIx n 0 lo:Nat):Int)/\(sliceBounds lo hi none n).2.1=((HT.sIx n n hi:Nat):Int)/\(sliceBounds lo hi none n).2.2=1:=by
  refine ⟨?_,?_,rfl⟩
  · cases lo with
    | none=>simp [sliceBounds,HT.sIx]
    | some i =>
      simp only [sliceBounds,HT.sIx,Option.getD_none,show (1:Int) > 0 by decide,if_true]
      by_cases h:i < 0
      · simp only [h,if_true] <;> omega
      · simp only [h,if_false] <;> omega
  · cases hi with
    | none=>simp [sliceBounds,HT.sIx]
    | some i =>
      simp only [sliceBounds,HT.sIx,Option.getD_none,show (1:Int) > 0 by decide,if_true]
      by_cases h:i < 0
      · simp only [h,if_true] <;> omega
      · simp only [h,if_false] <;> omega
theorem slicePick_cut (its:List Value) (lo hi:Option Int):slicePick its.toArray lo hi none=((its.drop (HT.sIx its.length 0 lo)).take (HT.sIx its.length its.length hi - HT.sIx its.length 0 lo)).toArray:=by
  obtain ⟨h1,h2,h3⟩:=slice_bounds lo hi its.toArray.size
  unfold slicePick
  rw [h1,h2,h3]
  simp only [sliceRange_one,pick_run,List.size_toArray] <;> rfl
def rSlL (K:PySem.W.Frag):V->Option Int->Option Int->Hp->VK->Prop:=fun x lo hi H Q=>∃ a xs,x=.ref a/\SqL K H a xs/\∀ p,H p=none->Q (.ref p) (upd H p (.lst (cutV xs lo hi)))
theorem sl_list:SlR X (rSlL X.K):=by
  intro pins s σ H x v vl vu lo hi sl Q I rx hs pl pu h
  obtain ⟨a,xs,rfl,hx,q⟩:=h
  cases rx
  obtain ⟨its,r,ht,hz⟩:=I.list hx
  have hlen:=r.length
  refine ⟨"list",_,slot_list_getitem.lookup,ht.isList.typeIs,?_⟩
  refine wpAny_getItem_list_slice ht.isList hs pl pu .none (by simp) ?_ (by rw [List.size_toArray] <;> omega)
  rw [slicePick_cut,<- hlen]
  refine ⟨.ref s.heap.objs.size,_,I.laid (t':=s.toks) (o:=.lst (cutV xs lo hi)) (fun b ob q=>Heap.get?_push_of_some _ q) (Nat.le_refl _) ?_,rfl,q _ (I.hok.fresh (Nat.le_refl _))⟩
  exact ⟨Nat.le_trans (cutV_length xs lo hi) hz,_,0,(r.drop (HT.sIx xs.length 0 lo)).take (HT.sIx xs.length xs.length hi - HT.sIx xs.length 0 lo),Heap.get?_push_size _ rfl⟩
def flatV:V->Bool
  | .non=>true
  | .bl _=>true
  | .int _=>true
  | .str _=>true
  | _=>false
def eqV:V->V->Bool
  | .non,.non=>true
  | .bl a,.bl b=>a == b
  | .bl a,.int b=>(if a then 1 else 0) == b
  | .int a,.bl b=>a == (if b then 1 else 0)
  | .int a,.int b=>a == b
  | .str a,.str b=>a == b
  | _,_=>false
theorem eqAt_V {A:Around} {s:Shared} {y x:V} {u v:Value} (ry:RelV y u) (rx:RelV x v) (fy:flatV y=true) (fx:flatV x=true):SeqAt.EqAt A s u v (eqV y x):=by
  cases y with
  | non =>
    cases ry
    cases x with
    | non=>cases rx; exact SeqAt.EqAt.same _
    | bl b=>cases rx; exact SeqAt.EqAt.none_bool b
    | int b=>obtain ⟨t,rfl⟩:=rx; exact SeqAt.EqAt.none_int b t
    | str b=>obtain ⟨t,rfl⟩:=rx; exact SeqAt.EqAt.none_str b t
    | _=>exact absurd (show false=true from fx) Bool.false_ne_true
  | bl a =>
    cases ry
    cases x with
    | non=>cases rx; exact SeqAt.EqAt.bool_none a
    | bl b=>cases rx; exact SeqAt.EqAt.bool_bool a b
    | int b=>obtain ⟨t,rfl⟩:=rx; exact SeqAt.EqAt.bool_int a b t
    | str b=>obtain ⟨t,rfl⟩:=rx; exact SeqAt.EqAt.bool_str a b t
    | _=>exact absurd (show false=true from fx) Bool.false_ne_true
  | int a =>
    obtain ⟨t',rfl⟩:=ry
    cases x with
    | non=>cases rx; exact SeqAt.EqAt.int_none a t'
    | bl b=>cases rx; exact SeqAt.EqAt.int_bool a t' b
    | int b=>obtain ⟨t,rfl⟩:=rx; exact SeqAt.EqAt.int_int a t' b t
    | str b=>obtain ⟨t,rfl⟩:=rx; exact SeqAt.EqAt.int_str a t' b t
    | _=>exact absurd (show false=true from fx) Bool.false_ne_true
  | str a =>
    obtain ⟨t',rfl⟩:=ry
    cases x with
    | non=>cases rx; exact SeqAt.EqAt.str_none a t'
    | bl b=>cases rx; exact SeqAt.EqAt.str_bool a t' b
    | int b=>obtain ⟨t,rfl⟩:=rx; exact SeqAt.EqAt.str_int a t' b t
    | str b=>obtain ⟨t,rfl⟩:=rx; exact SeqAt.EqAt.str_str a t' b t
    | _=>exact absurd (show false=true from fx) Bool.false_ne_true
  | _=>exact absurd (show false=true from fy) Bool.false_ne_true
def eqU (x:V) (u:Value):Bool:=match u with
  | .none=>eqV .non x
  | .bool b=>eqV (.bl b) x
  | .int i _=>eqV (.int i) x
  | .str z _=>eqV (.str z) x
  | _=>false
theorem eqU_of {x y:V} {u:Value} (r:RelV y u) (f:flatV y=true):eqU x u=eqV y x:=by
  cases y with
  | non=>cases r; rfl
  | bl b=>cases r; rfl
  | int i=>obtain ⟨t,rfl⟩:=r; rfl
  | str z=>obtain ⟨t,rfl⟩:=r; rfl
  | _=>exact absurd (show false=true from f) Bool.false_ne_true
theorem any_eqU {x:V}:∀ {xs:List V} {us:List Value},Vals xs us->xs.all flatV=true->us.any (eqU x)=xs.any fun y=>eqV y x
  | _,_,.nil,_=>rfl
  | y :: xs,u :: us,.cons r t,f=>by
    rw [List.all_cons,Bool.and_eq_true] at f
    rw [List.any_cons,List.any_cons,eqU_of r f.1,any_eqU t f.2]
theorem mem_eqAt {A:Around} {s:Shared} {x:V} {v:Value} (rx:RelV x v) (fx:flatV x=true):∀ {xs:List V} {us:List Value},Vals xs us->xs.all flatV=true->∀ u∈us,SeqAt.EqAt A s u v (eqU x u)
  | _,_,.nil,_=>fun u hu=>by cases hu
  | y :: xs,u :: us,.cons r t,f=>fun u' hu=>by
    rw [List.all_cons,Bool.and_eq_true] at f
    rcases List.mem_cons.mp hu with rfl | hu
    · rw [eqU_of r f.1]; exact eqAt_V r rx f.1 fx
    · exact mem_eqAt rx fx t f.2 u' hu
def inV (x:V) (xs:List V):Bool:=xs.any fun y=>eqV y x
def rIn (K:PySem.W.Frag) (neg:Bool):R2:=fun x y H Q=>∃ p xs,y=.ref p/\(SqL K H p xs\/SqT K H p xs)/\flatV x=true/\xs.all flatV=true/\Q (.bl (if neg then !inV x xs else inV x xs)) H
theorem op_in_seq:OpR X (compareOp .In) (rIn X.K false):=by
  intro pins s σ H x y v u Q I rx ry h
  obtain ⟨p,xs,rfl,hq,fx,fs,q⟩:=h
  cases ry
  rcases hq with hq | hq
  · obtain ⟨its,r,pl,hz⟩:=I.list hq
    refine SeqAt.in_listAt (eqU x) pl.isList (fun w hw=>mem_eqAt rx fx r fs w (by simpa using hw)) ⟨.bl _,H,I,rfl,?_⟩
    rw [show its.toArray.any (eqU x)=its.any (eqU x) by simp,any_eqU r fs]
    exact q
  · obtain ⟨its,r,pl,hz⟩:=I.tuple hq
    refine SeqAt.in_tupleAt (eqU x) pl (fun w hw=>mem_eqAt rx fx r fs w (by simpa using hw)) ⟨.bl _,H,I,rfl,?_⟩
    rw [show its.toArray.any (eqU x)=its.any (eqU x) by simp,any_eqU r fs]
    exact q
theorem call_len_seq:CallR X (.builtin "len") (fun xs H Q=>∃ p ys,xs=[.ref p]/\(SqL X.K H p ys\/SqT X.K H p ys)/\Q (.int ys.length) H):=by
  intro pins s σ H xs us Q I r h
  obtain ⟨p,ys,rfl,hq,q⟩:=h
  obtain ⟨u,rfl,rx⟩:=vals1 r
  cases rx
  have hn:=line63
  rcases hq with hq | hq
  · obtain ⟨its,r',pl,hz⟩:=I.list hq
    have hlen:=r'.length
    exact Calls.call_len_list pl.isList (by simp only [List.size_toArray] <;> omega) ⟨.int ys.length,H,I.tok _,⟨s.toks + 1,by rw [List.size_toArray,hlen]⟩,q⟩
  · obtain ⟨its,r',pl,hz⟩:=I.tuple hq
    have hlen:=r'.length
    exact len_tuple pl (by simp only [List.size_toArray] <;> omega) ⟨.int ys.length,H,I.tok _,⟨s.toks + 1,by rw [List.size_toArray,hlen]⟩,q⟩
theorem CallR.or {f:Value} {r r':List V->Hp->VK->Prop} (h:CallR X f r) (h':CallR X f r'):CallR X f (fun xs H Q=>r xs H Q\/r' xs H Q):=by
  intro pins s σ H xs us Q I rs q
  rcases q with q | q
  · exact h pins s σ H xs us Q I rs q
  · exact h' pins s σ H xs us Q I rs q
theorem call_list_of:CallR X (.type "list") (fun xs H Q=>∃ p ys,xs=[.ref p]/\(SqL X.K H p ys\/SqT X.K H p ys)/\∀ l,H l=none->Q (.ref l) (upd H l (.lst ys))):=by
  intro pins s σ H xs us Q I r h
  obtain ⟨p,ys,rfl,hq,q⟩:=h
  obtain ⟨u,rfl,rx⟩:=vals1 r
  cases rx
  have fin:∀ (its:List Value),Vals ys its->ys.length<=sizeLine->∀ (h':Heap) (c':Nat),(∀ b o',s.heap.get? b=some o'->h'.get? b=some o') ->
      h'.get? s.heap.objs.size=some { cls:=.type "list",dict:=none,data:=.seq its.toArray c',slots:=#[] }->EP X pins σ Q (.ref s.heap.objs.size) { s with heap:=h' }:=fun its r' hz h' c' kp e =>
    ⟨.ref s.heap.objs.size,_,I.laid (t':=s.toks) kp (Nat.le_refl _) (show ObjOk X.prog X.w _ h' _ (.lst ys) from ⟨hz,its,c',r',e⟩),rfl,q _ (I.hok.fresh (Nat.le_refl _))⟩
  rcases hq with hq | hq
  · obtain ⟨its,r',pl,hz⟩:=I.list hq
    have hlen:=r'.length
    obtain ⟨o,ho,hc,n,hd⟩:=pl.isList
    exact call_list_seq p (.inl rfl) ho hc hd (fun h' c' kp e=>fin its r' hz h' c' kp e) (by simp only [List.size_toArray] <;> omega)
  · obtain ⟨its,r',pl,hz⟩:=I.tuple hq
    have hlen:=r'.length
    obtain ⟨o,ho,hc,n,hd⟩:=pl
    exact call_list_seq p (.inr rfl) ho hc hd (fun h' c' kp e=>fin its r' hz h' c' kp e) (by simp only [List.size_toArray] <;> omega)
theorem call_tuple_of:CallR X (.type "tuple") (fun xs H Q=>∃ p ys,xs=[.ref p]/\((SqL X.K H p ys/\∀ l,H l=none->Q (.ref l) (upd H l (.tup ys)))\/(SqT X.K H p ys/\Q (.ref p) H))):=by
  intro pins s σ H xs us Q I r h
  obtain ⟨p,ys,rfl,h⟩:=h
  obtain ⟨u,rfl,rx⟩:=vals1 r
  cases rx
  rcases h with ⟨hq,q⟩ | ⟨hq,q⟩
  · obtain ⟨its,r',pl,hz⟩:=I.list hq
    have hlen:=r'.length
    refine call_tuple_list pl.isList (fun h' kp=>?_) (by simp only [List.size_toArray] <;> omega)
    have I1:Inv X pins σ H { s with heap:=h' }:=I.kept (t':=s.toks) kp
    have I2:Inv X pins σ (upd H h'.objs.size (.tup ys)) { s with heap:=h'.push { cls:=.type "tuple",data:=.seq its.toArray } } :=
      I1.laid (t':=s.toks) (fun b o e=>Heap.get?_push_of_some _ e) (Nat.le_refl _) (show ObjOk X.prog X.w _ _ _ (.tup ys) from ⟨hz,its,r',IsTupN.new _ _⟩)
    exact ⟨.ref h'.objs.size,_,I2,rfl,q _ (I1.hok.fresh (Nat.le_refl _))⟩
  · obtain ⟨its,r',pl,hz⟩:=I.tuple hq
    exact call_tuple_same pl ⟨.ref p,H,I,rfl,q⟩
def tyV (K:PySem.W.Frag) (T:String) (x:V) (H:Hp):Prop:=match x with
  | .str _=>T="str"
  | .int _=>T="int"
  | .ref p=>(T="list"/\∃ xs,SqL K H p xs)\/(T="tuple"/\((∃ o,K.lookup p=some o/\o.cls=.type "tuple"/\o.dict=none)\/∃ xs,H p=some (.tup xs))) \/
      (T="dict"/\((∃ kvs,H p=some (.dK kvs))\/∃ kvs,H p=some (.dT kvs)))\/(T="set"/\∃ S n,H p=some (.set S n))
  | _=>False
theorem tyV_is {pins:List (Addr × Obj)} {σ:St} {H:Hp} {s:Shared} {T:String} {x:V} {v:Value} (I:Inv X pins σ H s) (r:RelV x v) (ty:tyV X.K T x H) :
    s.TypeIs v T/\∀ a,v=.ref a->∃ ob,s.heap.get? a=some ob/\ob.dict=none:=by
  cases x with
  | str z =>
    obtain ⟨t,rfl⟩:=r
    cases (show T="str" from ty)
    exact ⟨typeIs_str s z t,fun _ e=>nomatch e⟩
  | int i =>
    obtain ⟨t,rfl⟩:=r
    cases (show T="int" from ty)
    exact ⟨typeIs_int s i t,fun _ e=>nomatch e⟩
  | ref p =>
    cases r
    rcases ty with ⟨rfl,xs,hq⟩ | ⟨rfl,⟨o,hk,hc,hd⟩ | ⟨xs,hk⟩⟩ | ⟨rfl,hk⟩ | ⟨rfl,S,n,hk⟩
    · obtain ⟨its,_,pl,_⟩:=I.list hq
      refine ⟨pl.isList.typeIs,fun a e=>?_⟩
      cases e
      obtain ⟨o,n,e,c,hd,_⟩:=pl
      exact ⟨o,e,hd⟩
    · refine ⟨⟨o,I.kIn p o hk,hc⟩,fun a e=>?_⟩
      cases e
      exact ⟨o,I.kIn _ o hk,hd⟩
    · obtain ⟨_,_,_,o,ho,hc,hd,_⟩:=I.hok p _ hk
      refine ⟨⟨o,ho,hc⟩,fun a e=>?_⟩
      cases e
      exact ⟨o,ho,hd⟩
    · have z:∃ o,s.heap.get? p=some o/\o.ExactDict:=by
        rcases hk with ⟨kvs,hk⟩ | ⟨kvs,hk⟩
        · obtain ⟨_,_,_,_,o,_,_,e,ex,_⟩:=I.hok p _ hk
          exact ⟨o,e,ex⟩
        · obtain ⟨_,_,_,_,o,_,_,e,ex,_⟩:=I.hok p _ hk
          exact ⟨o,e,ex⟩
      obtain ⟨o,e,ex⟩:=z
      refine ⟨⟨o,e,ex.1⟩,fun a e2=>?_⟩
      cases e2
      exact ⟨o,e,ex.2.1⟩
    · obtain ⟨o,_,_,_,e,ex,_⟩:=I.hok p _ hk
      refine ⟨⟨o,e,ex.1⟩,fun a e2=>?_⟩
      cases e2
      exact ⟨o,e,ex.2.1⟩
  | _=>exact False.elim ty
def tBM0 (K:PySem.W.Frag) (T:String) (r:V->List V->Hp->VK->Prop) (to:TE):TE:=fun σ H Q=>to σ H fun x H1=>tyV K T x H1/\r x [] H1 Q
def tBM (K:PySem.W.Frag) (T:String) (r:V->List V->Hp->VK->Prop) (to:TE) (t:TA):TE:=fun σ H Q=>to σ H fun x H1=>tyV K T x H1/\t σ H1 fun xs H2=>r x xs H2 Q
variable {o e:Expr} {es:List Expr} {to:TE} {t:TA} {name:Str} {apos cpos:Pos} {T id:String} {r:V->List V->Hp->VK->Prop}
theorem pe_bm0 (pa:PlainAttrs T) (slot:Slot T name id) (hty:typeOf (.builtin id)=pure (.type "method_descriptor")) (hm:MtR X id r) (ho:PE X o to)
    (hbase:attributeBase o name X.env (eval o X.env)=eval o X.env:=by rfl) (hline:(apos.endLine == cpos.line)=true:=by rfl):PE X (.Call (.Attribute o name apos) [] [] cpos) (tBM0 X.K T r to):=by
  intro pins s σ H Q I h
  refine wpAny_Call_method0_late hbase hline (thn (ho pins s σ H _ I h) fun v s1 ⟨x,H1,I1,r1,ty,q1⟩=>?_)
  obtain ⟨h1,h2⟩:=tyV_is I1 r1 ty
  exact ⟨T,id,pa,slot,hty,h1,h2,Calls.callWith_builtin rfl (PySem.evalArgs_none (hm pins s1 σ H1 x [] v [] Q I1 r1 .nil q1))⟩
theorem pe_bm (pa:PlainAttrs T) (slot:Slot T name id) (hty:typeOf (.builtin id)=pure (.type "method_descriptor")) (hm:MtR X id r) (ho:PE X o to) (ha:PA X (e :: es) t)
    (hbase:attributeBase o name X.env (eval o X.env)=eval o X.env:=by rfl)
    (hfew:((backTo cpos (starEach (e :: es) X.env)).all (fun x=>!x.1) && (backToKw cpos (keywordEach [] X.env)).all (fun x=>x.1.isSome)
      && decide ((e :: es).length + ([]:List Keyword).length + (if ([]:List Keyword).isEmpty then 0 else 1) < 30))=true:=by rfl)
    (hline:(apos.endLine == cpos.line)=true:=by rfl) (hs:starEach (e :: es) X.env=(false,eval e X.env) :: starEach es X.env:=by rfl) (hplain:(backTo cpos (starEach es X.env)).any (·.1)=false:=by rfl) :
    PE X (.Call (.Attribute o name apos) (e :: es) [] cpos) (tBM X.K T r to t):=by
  intro pins s σ H Q I h
  refine wpAny_Call_method_late hbase hfew hline rfl (thn (ho pins s σ H _ I h) fun v s1 ⟨x,H1,I1,r1,ty,q1⟩=>?_)
  obtain ⟨h1,h2⟩:=tyV_is I1 r1 ty
  refine ⟨T,id,pa,slot,hty,h1,h2,?_⟩
  have hA:=ha cpos pins s1 σ H1 _ I1 q1
  rw [hs] at hA ⊢
  refine Calls.callWith_builtin (by show (false || (backTo cpos (starEach es X.env)).any (·.1))=false; rw [hplain] <;> rfl) (Calls.evalArgs_plain ?_)
  exact thn hA fun us s2 ⟨vs,H2,I2,r2,q2⟩=>hm pins s2 σ H2 x vs v us Q I2 r1 r2 q2
end
end L2
namespace L2
open PySem PySem.Spec PyProof.Rows
def MtM (X:Cx) (id:String) (r:V->List V->Hp->VK->Prop):Prop :=
  ∀ (pins:List (Addr × Obj)) (s:Shared) (σ:St) (H:Hp) (x:V) (xs:List V) (v:Value) (us:List Value) (Q:VK),Inv X pins σ H s->RelV x v->Vals xs us->r x xs H Q ->
    wpAny (model X.prog X.w) X.A (call (.builtin id) (v :: us)) (EP X pins σ Q) X.xe s
theorem Vals.one:∀ {x:V} {us:List Value},Vals [x] us->∃ u,us=[u]/\RelV x u
  | _,_,.cons r .nil=>⟨_,rfl,r⟩
theorem Vals.two:∀ {x y:V} {us:List Value},Vals [x,y] us->∃ u v,us=[u,v]/\RelV x u/\RelV y v
  | _,_,_,.cons r (.cons q .nil)=>⟨_,_,rfl,r,q⟩
theorem Vals.zero:∀ {us:List Value},Vals [] us->us=[]
  | _,.nil=>rfl
theorem Vals.dropLast {xs:List V} {us:List Value} (h:Vals xs us):Vals xs.dropLast us.dropLast:=by
  induction h with
  | nil=>exact .nil
  | cons r t ih =>
    cases t with
    | nil=>exact .nil
    | cons q t'=>exact .cons r ih
theorem Vals.eraseIdx:∀ {xs:List V} {us:List Value} (i:Nat),Vals xs us->Vals (xs.eraseIdx i) (us.eraseIdx i)
  | _,_,_,.nil=>.nil
  | _,_,0,.cons _ t=>t
  | _,_,i + 1,.cons r t=>.cons r (Vals.eraseIdx i t)
theorem Vals.reverse {xs:List V} {us:List Value} (h:Vals xs us):Vals xs.reverse us.reverse:=by
  induction h with
  | nil=>exact .nil
  | cons r t ih=>rw [List.reverse_cons,List.reverse_cons]; exact Vals.append ih (.cons r .nil)
theorem Vals.rep {xs:List V} {us:List Value} (h:Vals xs us):∀ k:Nat,Vals (List.replicate k xs).flatten (List.replicate k us).flatten
  | 0=>.nil
  | k + 1=>by
    rw [List.replicate_succ,List.replicate_succ,List.flatten_cons,List.flatten_cons]
    exact Vals.append h (Vals.rep h k)
theorem erase_last {α:Type} (l:List α):l.eraseIdx (l.length - 1)=l.dropLast:=by
  induction l with
  | nil=>rfl
  | cons a r ih =>
    cases r with
    | nil=>rfl
    | cons b r =>
      have e:(a :: b :: r).length - 1=((b :: r).length - 1) + 1:=by
        have h1:(a :: b :: r).length=r.length + 2:=rfl
        have h2:(b :: r).length=r.length + 1:=rfl
        omega
      rw [e,List.eraseIdx_cons_succ,ih]
      all_goals rfl
theorem foldl_rep (its:List Value):∀ (k:Nat) (acc:List Value),
    List.foldl (fun x1 x2=>x1 ++ x2) acc.toArray (List.replicate k its.toArray)=(acc ++ (List.replicate k its).flatten).toArray
  | 0,acc=>by simp
  | k + 1,acc=>by
    have e:acc.toArray ++ its.toArray=(acc ++ its).toArray:=by simp
    have e2:(acc ++ its) ++ (List.replicate k its).flatten=acc ++ (List.replicate (k + 1) its).flatten:=by
      rw [List.replicate_succ,List.flatten_cons,List.append_assoc]
    rw [<- e2,<- foldl_rep its k (acc ++ its),<- e,List.replicate_succ,List.foldl_cons]
section
variable {X:Cx} {pins:List (Addr × Obj)} {σ:St} {H:Hp} {s:Shared} {l b:Addr} {xs ys zs:List V}
theorem Inv.lset {its its':List Value} {n:Nat} {f:Array Value->Array Value} {t':Nat} (I:Inv X pins σ H s) (hH:H l=some (.lst xs))
    (e:s.heap.get? l=some { cls:=.type "list",data:=.seq its.toArray n }) (hf:f its.toArray=its'.toArray) (hv:Vals ys its') (hz:ys.length<=sizeLine) :
    Inv X pins σ (upd H l (.lst ys)) { s with heap:=s.heap.update l (Obj.mapSeq f),toks:=t' }:=by
  have q:=PySem.IsL.update e f
  rw [hf] at q
  refine I.write (x:=l) (e:=l) (by rw [hH]; exact trivial) (.inl rfl) (fun b' u hb hu=>(Heap.get?_update_other s.heap (Obj.mapSeq f) (Ne.symm hb)).trans hu) ⟨_,q⟩ ?_
  exact ⟨hz,its',_,hv,q⟩
theorem Inv.lnew {its:List Value} {t':Nat} (I:Inv X pins σ H s) (hv:Vals ys its) (hz:ys.length<=sizeLine) :
    Inv X pins σ (upd H s.heap.objs.size (.lst ys)) { s with heap:=s.heap.push { cls:=.type "list",data:=.seq its.toArray },toks:=t' } :=
  I.laid (fun _ _ q=>Heap.get?_push_of_some _ q) (Nat.le_refl _) ⟨hz,its,0,hv,Heap.get?_push_size _ rfl⟩
theorem Inv.fresh (I:Inv X pins σ H s):H s.heap.objs.size=none:=I.hok.fresh (Nat.le_refl _)
theorem Inv.lstM (I:Inv X pins σ H s) (hH:H l=some (.lst xs)):xs.length<=sizeLine/\∃ (its:List Value) (n:Nat),Vals xs its/\xs.length=its.length/\s.heap.get? l=some { cls:=.type "list",data:=.seq its.toArray n }:=by
  obtain ⟨z,its,n,r,e⟩:=I.hok l _ hH
  exact ⟨z,its,n,r,r.length,e⟩
theorem notLongL {n:Nat} (h:n<=sizeLine):Builtin.List.listTooLong n=false:=by
  unfold Builtin.List.listTooLong
  exact decide_eq_false (by omega)
end
section
variable {X:Cx}
def rAppend:V->List V->Hp->VK->Prop:=fun x vs H Q=>∃ l xs y,x=.ref l/\vs=[y]/\H l=some (.lst xs)/\xs.length < sizeLine/\Q .non (upd H l (.lst (xs ++ [y])))
theorem mt_append:MtM X "list.append" rAppend:=by
  intro pins s σ H x vs v us Q I rx rv h
  obtain ⟨l,xs,y,rfl,rfl,hH,hz,q⟩:=h
  cases rx
  obtain ⟨u,rfl,ru⟩:=rv.one
  obtain ⟨z,its,n,r,hl,e⟩:=I.lstM hH
  refine call_meets F.slot_list_append ⟨_,e,rfl⟩ F.entry_list_append (F.args_list_append_2 _ _) (PySem.list_append l its.toArray n u (by rw [List.size_toArray]; omega)) ⟨e,?_⟩
  refine ⟨.non,_,I.lset (its':=its ++ [u]) hH e (by simp) (r.append (.cons ru .nil)) ?_,rfl,q⟩
  rw [List.length_append,List.length_singleton]
  omega
def rExtend:V->List V->Hp->VK->Prop:=fun x vs H Q=>∃ l b xs zs,x=.ref l/\vs=[.ref b]/\H l=some (.lst xs)/\H b=some (.lst zs)/\xs.length + zs.length<=sizeLine/\Q .non (upd H l (.lst (xs ++ zs)))
theorem mt_extend:MtM X "list.extend" rExtend:=by
  intro pins s σ H x vs v us Q I rx rv h
  obtain ⟨l,b,xs,zs,rfl,rfl,hH,hB,hz,q⟩:=h
  cases rx
  obtain ⟨u,rfl,ru⟩:=rv.one
  cases ru
  obtain ⟨z,its,n,r,hl,e⟩:=I.lstM hH
  obtain ⟨z2,its2,n2,r2,hl2,e2⟩:=I.lstM hB
  have hsz:its.toArray.size + its2.toArray.size<=sizeLine:=by rw [List.size_toArray,List.size_toArray]; omega
  have hlong:¬ (!its.toArray.isEmpty && Builtin.List.listTooLong (its.toArray.size + its2.toArray.size))=true:=by
    rw [notLongL hsz,Bool.and_false]
    exact Bool.false_ne_true
  refine call_meets F.slot_list_extend ⟨_,e,rfl⟩ F.entry_list_extend (F.args_list_extend_2 _ _)
    (AutoSeq1.list_extend_list_list_0 l its.toArray n b its2.toArray n2 hlong (by rw [List.size_toArray]; omega) (by omega)) ⟨e,e2,?_⟩
  refine ⟨.non,_,I.lset (its':=its ++ its2) hH e (by simp) (r.append r2) ?_,rfl,q⟩
  rw [List.length_append]
  omega
def rPop:V->List V->Hp->VK->Prop:=fun x vs H Q=>∃ l xs y,x=.ref l/\vs=[]/\H l=some (.lst xs)/\xs[xs.length - 1]?=some y/\Q y (upd H l (.lst xs.dropLast))
theorem mt_pop:MtM X "list.pop" rPop:=by
  intro pins s σ H x vs v us Q I rx rv h
  obtain ⟨l,xs,y,rfl,rfl,hH,hy,q⟩:=h
  cases rx
  have hus:=rv.zero
  subst hus
  obtain ⟨z,its,n,r,hl,e⟩:=I.lstM hH
  obtain ⟨u,hu,ru⟩:=r.get hy
  have hy':its.toArray[its.toArray.size - 1]?=some u:=by
    show its.toArray[its.length - 1]?=some u
    rw [<- Array.getElem?_toList,<- hl]
    exact hu
  refine call_meets F.slot_list_pop ⟨_,e,rfl⟩ F.entry_list_pop (F.args_list_pop_1 _) (MeetsSeq.list_pop_last l its.toArray n u hy' (by rw [List.size_toArray]; omega)) ⟨e,?_⟩
  refine ⟨y,_,I.lset (its':=its.dropLast) hH e ?_ r.dropLast ?_,ru,q⟩
  · show its.toArray.eraseIdxIfInBounds (its.toArray.size - 1)=its.dropLast.toArray
    rw [List.size_toArray,List.eraseIdxIfInBounds_toArray,erase_last]
  · rw [List.length_dropLast]
    omega
def rReverse:V->List V->Hp->VK->Prop:=fun x vs H Q=>∃ l xs,x=.ref l/\vs=[]/\H l=some (.lst xs)/\Q .non (upd H l (.lst xs.reverse))
theorem mt_reverse:MtM X "list.reverse" rReverse:=by
  intro pins s σ H x vs v us Q I rx rv h
  obtain ⟨l,xs,rfl,rfl,hH,q⟩:=h
  cases rx
  have hus:=rv.zero
  subst hus
  obtain ⟨z,its,n,r,hl,e⟩:=I.lstM hH
  refine call_meets F.slot_list_reverse ⟨_,e,rfl⟩ F.entry_list_reverse (F.args_list_reverse_1 _) (AutoSeq1.list_reverse_list_0 l its.toArray n (by rw [List.size_toArray]; omega)) ⟨e,?_⟩
  refine ⟨.non,_,I.lset (its':=its.reverse) hH e (by simp) r.reverse ?_,rfl,q⟩
  rw [List.length_reverse]
  omega
def rCat:R2:=fun x y H Q=>∃ l b xs zs,x=.ref l/\y=.ref b/\H l=some (.lst xs)/\H b=some (.lst zs)/\xs.length + zs.length<=sizeLine/\∀ p,H p=none->Q (.ref p) (upd H p (.lst (xs ++ zs)))
theorem op_cat:OpR X (binaryOp .Add) rCat:=by
  intro pins s σ H x y v u Q I rx ry h
  obtain ⟨l,b,xs,zs,rfl,rfl,hH,hB,hz,q⟩:=h
  cases rx
  cases ry
  obtain ⟨z,its,n,r,hl,e⟩:=I.lstM hH
  obtain ⟨z2,its2,n2,r2,hl2,e2⟩:=I.lstM hB
  refine PySem.P.add_list e e2 ?_ (by rw [List.size_toArray,List.size_toArray]; omega)
  have ea:its.toArray ++ its2.toArray=(its ++ its2).toArray:=by simp
  rw [ea]
  exact ⟨.ref _,_,I.lnew (t':=s.toks) (r.append r2) (by rw [List.length_append]; omega),rfl,q _ I.fresh⟩
def rRep:R2:=fun x y H Q=>∃ l k xs,x=.ref l/\y=.int k/\H l=some (.lst xs)/\-(2 ^ 63)<=k/\k < 2 ^ 63/\xs.length * k.toNat<=sizeLine /\
  ∀ p,H p=none->Q (.ref p) (upd H p (.lst (List.replicate k.toNat xs).flatten))
theorem len_rep {α:Type} (xs:List α) (k:Nat):(List.replicate k xs).flatten.length=k * xs.length:=by
  induction k with
  | zero=>simp
  | succ k ih=>rw [List.replicate_succ,List.flatten_cons,List.length_append,ih,Nat.succ_mul,Nat.add_comm]
theorem op_rep:OpR X (binaryOp .Mult) rRep:=by
  intro pins s σ H x y v u Q I rx ry h
  obtain ⟨l,k,xs,rfl,rfl,hH,h1,h2,hz,q⟩:=h
  cases rx
  obtain ⟨t,rfl⟩:=ry
  obtain ⟨z,its,n,r,hl,e⟩:=I.lstM hH
  have hlen:its.toArray.size * k.toNat<=sizeLine:=by rw [List.size_toArray,<- hl]; exact hz
  have hcap:¬ its.toArray.size * k.toNat > (2 ^ 63 - 1) / 8:=by
    have:(sizeLine:Nat)<=(2 ^ 63 - 1) / 8:=by decide
    omega
  have hfit:¬ (!Builtin.List.listFitsIndex k)=true:=by
    rw [fitsIndex_both h1 h2]
    exact Bool.false_ne_true
  have hlong:¬ Builtin.List.listTooLong (its.toArray.size * k.toNat)=true:=by
    rw [notLongL hlen]
    exact Bool.false_ne_true
  have hnew:List.foldl (fun x1 x2=>x1 ++ x2) #[] (List.replicate (if its.toArray.isEmpty=true then 0 else k.toNat) its.toArray)=(List.replicate k.toNat its).flatten.toArray:=by
    have f0:∀ m:Nat,List.foldl (fun x1 x2=>x1 ++ x2) #[] (List.replicate m its.toArray)=(List.replicate m its).flatten.toArray:=fun m=>by
      have:=foldl_rep its m []
      rw [List.nil_append] at this
      exact this
    rw [f0]
    cases its with
    | nil=>simp
    | cons a r'=>rw [if_neg (by simp)]
  refine wpAny_binaryOp_repeat_ref (T:="list") (U:="int") (by decide) ⟨_,e,rfl⟩ (fun s'=>typeIs_int s' k t) noFill_list_mul F.fills_int_mul F.slot_int_rmul repeat_list F.slot_int_index.lookup
    (call_meets F.slot_int_rmul (typeIs_int s k t) F.entry_int_rmul (F.args_int_rmul_2 _ _) (int___rmul___int_list k t l its.toArray n)
      ⟨e,rfl,⟨_,e,rfl⟩,call_meets F.slot_list_mul ⟨_,e,rfl⟩ F.entry_list_mul (F.args_list_mul_2 _ _) (AutoListH.list___mul___list_int_3 l its.toArray n k t hfit hcap hlong) ⟨e,?_⟩⟩)
  rw [hnew]
  exact ⟨.ref _,_,I.lnew (t':=s.toks) (r.rep k.toNat) (by rw [len_rep,Nat.mul_comm]; exact hz),rfl,q _ I.fresh⟩
end
section
variable {prog:Program} {w:World} {A:Around} {E:Value->Shared->Prop} {s:Shared}
end
section
variable {X:Cx}
end
end L2
namespace Att
open PySem PySem.W PySem.Calls PyProof.Rows
theorem ints_of_wellAll {P:Params} {h:Heap}:∀ (ns:List Int) (vs:List Value),WellAll P h vs (ns.map WData.int)->IntsAre vs ns:=by
  intro ns
  induction ns with
  | nil =>
    intro vs w
    rw [List.map_nil] at w
    cases w
    exact .nil
  | cons n ns ih =>
    intro vs w
    rw [List.map_cons] at w
    cases w with
    | cons a b =>
      cases a
      exact .cons _ _ (ih _ b)
theorem script_of {l:OpenLaw} {n:Nat} (hn:l.most=some n) {P:Params} {h:Heap} {args:List WData} {vals:List Value}
    (hpre:l.row.toRowW.claim.pre args=true) (hwl:WellAll P h vals args) :
    ∃ a vs ns,vals=[Value.ref a]/\args=[WData.list (ns.map WData.int)]/\h.get? a=some { cls:=.type "list",data:=.seq vs.toArray }/\IntsAre vs ns/\ns.length<=n:=by
  have hsh:WShape.hasAll [] args [.list .int]=true:=(pre_splitW hpre).1
  have hc:l.pre.holds [] { args:=args }=true:=(pre_splitW hpre).2
  obtain ⟨d,r,rfl,h1,h2⟩:=hasAllW_cons hsh
  obtain rfl:=hasAllW_nil h2
  obtain ⟨xs,rfl,h3⟩:=hasW_list h1
  obtain ⟨ns,rfl⟩:=items_int h3
  have hlen:ns.length<=n:=by
    unfold OpenLaw.pre at hc
    have h4:(WTm.not (.lt (.lit (.int (n:Int))) (.len (.arg 0)))).holds [] { args:=[.list (ns.map .int)] }=true:=by
      have h4:=(holds_andW hc).1
      rw [hn] at h4
      exact h4
    have h5:=condW_of h4 (w_not (w_lt w_lit (w_len_list (w_arg rfl))))
    rw [List.length_map] at h5
    refine Nat.le_of_not_lt fun q=>?_
    have q':(n:Int) < ((ns.length:Nat):Int):=by omega
    first
      | (rw [decide_eq_true q'] at h5; exact absurd h5 (by decide))
      | (simp at h5; omega)
  cases hwl with
  | cons w1 w2 =>
    cases w2
    cases w1 with
    | list ho hall=>exact ⟨_,_,ns,rfl,rfl,ho,ints_of_wellAll ns _ hall,hlen⟩
theorem post_true (l:OpenLaw) (args:List WData):l.row.toRowW.claim.post args (.bool true) args=true :=
  postW_of (r:=l.row.toRowW) (X:=(true == true))
    (show WShape.has [] (.bool true) .bool=true by first | rfl | decide | simp [WShape.has,WShape.arms,WShape.armsAll])
    (show (WTm.eq .res (.lit (.bool true))).value [] { args:=args,res:=some (.bool true),after:=args }=some (.bool (true == true)) from w_eq_bool (w_res rfl) w_lit) rfl
theorem attach_call {l:OpenLaw} {n:Nat} {q:Program} {loose:List Str} {XP:(Str->Option Value)->Heap->Prop} {YP:World->Heap->Prop} {d:DefRec}
    (hn:l.most=some n) (hdf:d.params.defaults=[])
    (call:∀ (w:World) (s₀ s₁:Shared) (mg mb:Str->Option Value) (fa:Addr) (o:Obj) (pm cd doc:Value) (a:Addr) (vs:List Value) (ns:List Int),
      Ground q loose [] XP w s₀ mg mb s₁.heap->YP w s₁.heap ->
      s₁.heap.get? fa=some o->o.data=.func (docDef d.name d.params d.body d.scope pm cd doc)->s₁.heap.CodeRec cd d.name->mg d.name=some (.ref fa) ->
      s₁.heap.get? a=some { cls:=.type "list",data:=.seq vs.toArray }->IntsAre vs ns->ns.length<=n->s₁.gens=#[] ->
      codeAny (model l.prog w) callerA (.call (.ref fa) ⟨[.ref a],[]⟩) (fun r s'=>r=.ok (.ret (.bool true))/\OldK s₁.heap s'.heap/\s'.os=s₁.os/\AllBare s'.gens) s₁) :
    WalkO q loose XP YP l.row.toRowW d [] (fun f vs=>PySem.call f vs):=by
  intro w s₀ s₁ mg mb G Y fa o pm cd doc dV kV ho hd hcd hD hmg hg args vals as hpre hlay hrd hwl hlo
  obtain rfl:dV=.none:=Dflts.none hD hdf
  obtain rfl:kV=.none:=Dflts.noKw hD
  obtain ⟨a,vs,ns,rfl,rfl,hobj,hints,hlen⟩:=script_of hn hpre hwl
  refine enter_call (codeAny_mono (call w s₀ s₁ mg mb fa o pm cd doc a vs ns G Y ho (fd_plain hd) hcd hmg hobj hints hlen hg) fun r s' hq=>?_)
  obtain ⟨rfl,h2,h3,h4⟩:=hq
  exact ⟨.inl ⟨.bool true,.bool true,[],rfl,fun _=>rfl,.bool true,post_true l _,fun _=>⟨List.Pairwise.nil,fun _ hm=>(nomatch hm)⟩⟩,h2,h3,h4⟩
section
variable {prog:Program} {w:World} {A:Around} {E:Value->Shared->Prop} {s:Shared} {K:Frag}
def ledger (h:Heap) (L d:Addr):List (Addr × Obj):=(List.range h.objs.size).filterMap fun a=>if a=L\/a=d then none else (h.get? a).map fun o=>(a,o)
end
end Att
namespace L2
open PySem PySem.Spec PyProof.Rows
theorem vals_ints:∀ {vs:List Value} {ns:List Int},IntsAre vs ns->Vals (ns.map V.int) vs
  | _,_,.nil=>.nil
  | _,_,.cons n t h=>.cons ⟨t,rfl⟩ (vals_ints h)
end L2
namespace L2
open PySem PySem.Spec PyProof.Rows
end L2
/- THE LAST THEOREM (shape; LID, My.* are yours):
   My.Adr: a structure of the addresses that your layer names (classes,functions); My.Txt K t: a structure (Prop) of the equations over K;
   My.txt_mk:{K} {implicit addresses ..} (e1:nsIn K mainGlobals "law"=some (some (.ref f))) (e2:K.lookup f=some ⟨oc,od,.func (fnOf "law" "law" params body scope dV kV doc pm an cdv ct),sl⟩) (e3:codeIn K cdv "law"=true) ..:∃ t,My.Txt K t
set_option maxRecDepth 100000 in
set_option maxHeartbeats 0 in
theorem PySem.Challenge.cw_LID_holds : PySem.Challenge.rw_LID.Holds := by
  w_on; o_law; k_head; (case hw=>w_witness2)
  k_fill
  refine L2.walk_of (l:=PySem.Challenge.rw_LID) (n:=63) (k:=40) (x:="script") (CX:=fun w=>..) (sp:=fun _=>My.sp_law) rfl (by decide) rfl ⟨rfl,by decide,by decide⟩ (fun w h Y=>PySem.W.kIn_of Y) ?F ?S ?C
  case F =>
    intro w mg fa h KX G hmg
    have T:∃ t,My.Txt (L2.KOf KX) t:=by
      dsimp only [L2.KOf]                          -- K must stand as «<heap const> w.params» for k_is
      refine' My.txt_mk ?e1 ?e2 ?e3 ..
      (case e1 => PySem.W.k_is)                    -- in the order: a name -> its address -> its object -> its parts
      (case e2=>PySem.W.k_is)
      ..
    obtain ⟨t,T⟩:=T
    have e0:=hmg.symm.trans (PySem.W.mg_of KX G T.law)
    cases e0                                       -- fa is the law's own address
    exact ⟨_, fun s u => .of_eq rfl, fun base kb nb => My.law_fn T kb nb⟩     -- if «.of_eq rfl» comes too early: refine' ⟨_, ?b, fun base kb nb => My.law_fn T kb nb⟩; exact fun s u => .of_eq rfl
  case S=>exact fun w H a ns hl hO hS=>..
  case C=>exact ..
(the tactic k_is has no namespace: write k_is) -/
namespace L2
open PySem PySem.Spec PyProof.Rows
def inClass (s:Stmt) (j:Nat):Stmt:=match s with
  | .ClassDef _ _ _ body _ _ _ _ _ _ _=>body.getD j (.Pass ⟨0,0,0,0⟩)
  | _=>.Pass ⟨0,0,0,0⟩
def defArgs (s:Stmt):Arguments:=match s with
  | .FunctionDef _ a _ _ _ _ _ _ _ _=>a
  | _=>{ posonlyargs:=[],args:=[],vararg:=none,kwonlyargs:=[],kw_defaults:=[],kwarg:=none,defaults:=[] }
def defBody (s:Stmt):List Stmt:=match s with
  | .FunctionDef _ _ b _ _ _ _ _ _ _=>b
  | _=>[]
def defScope (s:Stmt):Scope:=match s with
  | .FunctionDef _ _ _ _ _ _ sc _ _ _=>sc
  | _=>{ kind:=.function,names:=[],isGenerator:=false,isCoroutine:=false }
abbrev CX0:CXT:=fun _ _ _ _ _ _=>False
abbrev E0:XK:=fun _ _ _=>False
theorem pass0 {X:Cx}:Passes CX0 X E0:=fun _ _ _ _ _ _ _ h=>h.elim
structure Fun (K:PySem.W.Frag) (x qual:Str) (st:Stmt) (f:Addr) (fd:FuncData):Prop where
  ex:∃ (oc:Value) (od:Option Addr) (kV doc pm:Value) (an:Option Addr) (cdv ct:Value) (osl:Array (Option Value)),
    fd=PySem.W.fnOf x qual (defArgs st) (defBody st) (defScope st) .none kV doc pm an cdv ct/\K.lookup f=some ⟨oc,od,.func fd,osl⟩/\PySem.W.codeIn K cdv qual=true
  kp:PySem.W.keepIn K (.ref f)=true
section
variable {P:Program} {w:World} {K:PySem.W.Frag} {mg:Str->Option Value} {base:Heap}
theorem Fun.ok {x qual:Str} {st:Stmt} {f:Addr} {fd:FuncData} {N ps:List Str} {k:Nat} {sp:Sp} (F:Fun K x qual st f fd) (S:FnScope N ps (defScope st)) (len:∀ vs H Q E,sp vs H Q E->vs.length=ps.length)
    (hbody:∀ (cdv:Value) (A:Around) (outer:List Env) (s:Shared) (H:Hp) (vs:List V) (Q:VK) (E:XK),Room k (A.deeper (envOfC qual (defScope st) s.heap.objs.size f cdv))->sp vs H Q E ->
      ∃ t,PSs (cxOf CX0 P w K mg base N qual (defScope st) f cdv A outer s H E).nox (defBody st) t/\t { nx:=fun _ H'=>Q .non H',rt:=Q } (start N vs) H):FnOk P w K mg base CX0 (k + 1) f fd ps sp:=by
  obtain ⟨oc,od,kV,doc,pm,an,cdv,ct,osl,rfl,lk,hcd⟩:=F.ex
  refine fn_of lk hcd S len fun A outer s H vs Q E hr hsp=>?_
  obtain ⟨t,h,q⟩:=hbody cdv A outer s H vs Q E hr hsp
  exact ⟨t,h.nox,q⟩
theorem Fun.binds {x qual:Str} {st:Stmt} {f:Addr} {fd:FuncData} {ps:List Str} (F:Fun K x qual st f fd)
    (h:∀ (kV doc pm:Value) (an:Option Addr) (cdv ct:Value) (us:List Value),us.length=ps.length->bindArgs (PySem.W.fnOf x qual (defArgs st) (defBody st) (defScope st) .none kV doc pm an cdv ct) ⟨us,[]⟩=pure (ps.zip us)):Binds K fd ps []:=by
  obtain ⟨oc,od,kV,doc,pm,an,cdv,ct,osl,rfl,lk,hcd⟩:=F.ex
  exact .all (h kV doc pm an cdv ct)
theorem fun_mk {x qual:Str} {st:Stmt} {f:Addr} {oc:Value} {od an:Option Addr} {osl:Array (Option Value)} {kV doc pm cdv ct:Value} (l:K.lookup f=some ⟨oc,od,.func (PySem.W.fnOf x qual (defArgs st) (defBody st) (defScope st) .none kV doc pm an cdv ct),osl⟩)
    (c:PySem.W.codeIn K cdv qual=true) (k:PySem.W.keepIn K (.ref f)=true):Fun K x qual st f (PySem.W.fnOf x qual (defArgs st) (defBody st) (defScope st) .none kV doc pm an cdv ct):=⟨⟨oc,od,kV,doc,pm,an,cdv,ct,osl,rfl,l,c⟩,k⟩
end
theorem hu_of {A:Around} {k:Nat} (hr:Room k A):A.units + 1 < cLine:=Nat.lt_of_le_of_lt (Nat.add_le_add_left (by decide:1<=64) _) hr.units
section
variable {X:Cx}
theorem pv (i:Nat) {x:Str} {pos:Pos} (hN:X.N[i]?=some x:=by rfl) (hv:Vis X.env.scope x:=by first | exact Or.inl rfl | exact Or.inr (Or.inl rfl) | exact Or.inr (Or.inr rfl)) (hd:(x == ("__debug__":Str))=false:=by decide)
    (hcd:(x == ("__classdict__":Str))=false:=by decide):PE X (.Name x pos) (tVar i):=pe_var hN hv hd hcd
end
theorem iteF {A B:Prop} (h:B):if false=true then A else B:=by
  rw [if_neg Bool.false_ne_true]
  exact h
theorem iteT {A B:Prop} (h:A):if true=true then A else B:=by
  rw [if_pos rfl]
  exact h
theorem ite2 {c A B:Prop} [Decidable c] (h1:c->A) (h2:¬ c->B):if c then A else B:=by
  by_cases h:c
  · rw [if_pos h]
    exact h1 h
  · rw [if_neg h]
    exact h2 h
def Same (H H':Hp):Prop:=∀ b o,H b=some o->H' b=some o
theorem Same.refl (H:Hp):Same H H:=fun _ _ h=>h
theorem Same.trans {H H1 H2:Hp} (a:Same H H1) (b:Same H1 H2):Same H H2:=fun c o h=>b c o (a c o h)
theorem Same.free {H H':Hp} (e:Same H H') {l:Addr} (h:H' l=Option.none):H l=Option.none:=by
  cases q:H l with
  | none=>rfl
  | some o =>
    rw [e l o q] at h
    cases h
theorem Same.seq {K:PySem.W.Frag} {H H':Hp} {a:Addr} {xs:List V} (e:Same H H') (h:SqL K H a xs):SqL K H' a xs:=by
  rcases h with (h | ⟨o,h⟩) | h
  · exact .inl (.inl (e _ _ h))
  · exact .inl (.inr ⟨o,e _ _ h⟩)
  · exact .inr h
end L2
namespace L2
open PySem PySem.Spec PyProof.Rows
def AllIn (env:Env):List (Str × Addr)->Prop
  | []=>True
  | p :: r=>env.cells.lookup p.1=some p.2/\AllIn env r
theorem AllIn.get {env:Env}:∀ {cl:List (Str × Addr)} {y:Str} {c:Addr},AllIn env cl->cl.lookup y=some c->env.cells.lookup y=some c
  | [],_,_,_,h=>by simp at h
  | (n,a) :: r,y,c,⟨e,t⟩,h=>by
    rw [List.lookup_cons] at h
    by_cases q:y=n
    · subst q
      rw [beq_self_eq_true] at h
      cases h
      exact e
    · have q':(y == n)=false:=beq_eq_false_iff_ne.mpr q
      rw [q'] at h
      exact AllIn.get t h
def blank:List Nat->St->St
  | [],σ=>σ
  | i :: S,σ=>blank S (σ.set i none)
theorem blank_len:∀ (S:List Nat) (σ:St),(blank S σ).length=σ.length
  | [],_=>rfl
  | i :: S,σ=>by rw [blank,blank_len S,List.length_set]
theorem blank_get:∀ (S:List Nat) (σ:St) {j:Nat} {v:V},(blank S σ)[j]?=some (some v)->σ[j]?=some (some v)/\j ∉ S
  | [],_,_,_,h=>⟨h,by simp⟩
  | i :: S,σ,j,v,h=>by
    obtain ⟨h1,h2⟩:=blank_get S (σ.set i none) h
    rw [List.getElem?_set] at h1
    by_cases e:i=j
    · rw [if_pos e] at h1
      split at h1 <;> cases h1
    · rw [if_neg e] at h1
      exact ⟨h1,fun z=>(List.mem_cons.mp z).elim (fun z=>e z.symm) h2⟩
structure LcOk (X:Cx) (scope:Scope) (cl:List (Str × Addr)) (S:List Nat):Prop where
  clos:closureFor scope X.env=pure cl
  kind:scope.kind=.function
  noC:scope.names.all (fun y=>y.2 != .cell)=true
  loc:scope.names.all (fun y=>y.2 != .local || scope.names.lookup y.1 == some .local)=true
  own:X.N.zipIdx.all (fun y=>S.contains y.2 || scope.names.lookup y.1 != some .local)=true
  sub:AllIn X.env cl
  has:scope.names.all (fun p=>p.2 != .free || ((cl.lookup p.1).isSome && (X.env.kindOf p.1 == some .cell || X.env.kindOf p.1 == some .free)))=true
section
variable {X:Cx} {scope:Scope} {cl:List (Str × Addr)} {S:List Nat}
theorem LcOk.nocell (L:LcOk X scope cl S):∀ y∈scope.names,y.2≠.cell:=fun y hy=>by
  have h:=List.all_eq_true.mp L.noC y hy
  exact bne_iff_ne.mp h
theorem LcOk.locs (L:LcOk X scope cl S):∀ y∈scope.names,y.2=.local->scope.names.lookup y.1=some .local:=fun y hy e=>by
  have h:=List.all_eq_true.mp L.loc y hy
  rw [e] at h
  simpa using h
theorem LcOk.apart (L:LcOk X scope cl S):∀ (i:Nat) (y:Str),X.N[i]?=some y->i ∉ S->scope.names.lookup y≠some .local:=fun i y hy hi=>by
  have h:=List.all_eq_true.mp L.own (y,i) (List.mem_zipIdx_iff_getElem?.mpr hy)
  have hc:S.contains i=false:=by simpa using hi
  rw [hc,Bool.false_or] at h
  exact bne_iff_ne.mp h
theorem LcOk.free (L:LcOk X scope cl S) {y:Str} (h:scope.names.lookup y=some .free):(∃ c,cl.lookup y=some c)/\(X.env.kindOf y=some .cell\/X.env.kindOf y=some .free):=by
  have h1:=List.all_eq_true.mp L.has _ (PySem.mem_of_lookup h)
  simp only [bne_self_eq_false,Bool.false_or,Bool.and_eq_true,Bool.or_eq_true,beq_iff_eq] at h1
  exact ⟨Option.isSome_iff_exists.mp h1.1,h1.2⟩
theorem lookup_relabel (names:List (Str × NameKind)) (env:Env) (y:Str) :
    (names.map fun (n,k)=>if (k == NameKind.free && env.scope.kind == .function && env.kindOf n == some .cell) then (n,NameKind.cell) else (n,k)).lookup y =
      (names.lookup y).map fun k=>if (k == NameKind.free && env.scope.kind == .function && env.kindOf y == some .cell) then NameKind.cell else k:=by
  induction names with
  | nil=>rfl
  | cons p r ih =>
    obtain ⟨n,k⟩:=p
    rw [List.map_cons]
    by_cases q:y=n
    · subst q
      by_cases hc:(k == NameKind.free && env.scope.kind == .function && env.kindOf y == some .cell)=true
      · show List.lookup y ((if (k == NameKind.free && env.scope.kind == .function && env.kindOf y == some .cell)=true then (y,NameKind.cell) else (y,k)) :: _)=_
        rw [if_pos hc,List.lookup_cons,List.lookup_cons,beq_self_eq_true]
        show some NameKind.cell=some (if _ then _ else _)
        rw [if_pos hc]
      · show List.lookup y ((if (k == NameKind.free && env.scope.kind == .function && env.kindOf y == some .cell)=true then (y,NameKind.cell) else (y,k)) :: _)=_
        rw [if_neg hc,List.lookup_cons,List.lookup_cons,beq_self_eq_true]
        show some k=some (if _ then _ else _)
        rw [if_neg hc]
    · have q':(y == n)=false:=beq_eq_false_iff_ne.mpr q
      by_cases hc:(k == NameKind.free && env.scope.kind == .function && env.kindOf n == some .cell)=true
      · show List.lookup y ((if (k == NameKind.free && env.scope.kind == .function && env.kindOf n == some .cell)=true then (n,NameKind.cell) else (n,k)) :: _)=_
        rw [if_pos hc,List.lookup_cons,List.lookup_cons,q']
        exact ih
      · show List.lookup y ((if (k == NameKind.free && env.scope.kind == .function && env.kindOf n == some .cell)=true then (n,NameKind.cell) else (n,k)) :: _)=_
        rw [if_neg hc,List.lookup_cons,List.lookup_cons,q']
        exact ih
theorem LcOk.kinds (L:LcOk X scope cl S) {y:Str} (h:(relabel scope X.env).names.lookup y=some .cell\/(relabel scope X.env).names.lookup y=some .free):scope.names.lookup y=some .free:=by
  have e:(relabel scope X.env).names.lookup y=(scope.names.lookup y).map fun k=>if (k == NameKind.free && X.env.scope.kind == .function && X.env.kindOf y == some .cell) then NameKind.cell else k:=lookup_relabel scope.names X.env y
  rw [e] at h
  cases q:scope.names.lookup y with
  | none=>rw [q] at h; rcases h with h | h <;> cases h
  | some k =>
    have hk:k≠.cell:=L.nocell _ (PySem.mem_of_lookup q)
    rw [q] at h
    by_cases hf:k=.free
    · rw [hf]
    · have z:(k == NameKind.free)=false:=beq_eq_false_iff_ne.mpr hf
      rw [Option.map_some,z,Bool.false_and,Bool.false_and,if_neg Bool.false_ne_true] at h
      rcases h with h | h
      · exact absurd (Option.some.inj h) hk
      · exact absurd (Option.some.inj h) hf
def cxLC (X:Cx) (scope:Scope) (cl:List (Str × Addr)) (M:List Str) (C:Addr) (s₀:Shared) (H₀:Hp) (ex:List Addr) (E:Value->Shared->Prop):Cx where
  prog:=X.prog
  w:=X.w
  K:=X.K
  mg:=X.mg
  base:=X.base
  A:=X.A
  N:=X.N ++ M
  s₀:=s₀
  H₀:=H₀
  env:=compEnvC scope cl C X.env
  outer:=X.stack
  stack:=X.stack
  ex:=ex
  fn:=fun _=>false
  calm:=X.calm
  pn:=[]
  xe:=E
variable {pins:List (Addr × Obj)} {σ:St} {H:Hp} {s:Shared} {ex:List Addr} {M:List Str} {C:Addr}
theorem lc_start {E:Value->Shared->Prop} {h1:Heap} {tk:Nat} {m:Str->Option Value} (I:Inv X pins σ H s) (L:LcOk X scope cl S) (hf:∀ b∈ex,FpOk X pins H b) (hlt:∀ b∈ex,b < s.heap.objs.size)
    (hk:∀ b o,s.heap.get? b=some o->h1.get? b=some o) (hC:s.heap.objs.size<=C) (hns:h1.Ns C m) :
    Inv (cxLC X scope cl M C s H ex E) [] (blank S σ ++ List.replicate M.length none) H { s with heap:=h1,toks:=tk }:=by
  refine ⟨⟨I.ok.mod,L.kind,I.ok.glob,I.ok.blt,hC,fun x y c a b=>I.ok.inj x y c (L.sub.get a) (L.sub.get b),fun y hy=>(L.free (L.kinds hy)).1,(fun x c z=>nomatch z),I.ok.hd,I.ok.frames,.inl rfl,fun b hb=>⟨?_,fun x c e=>?_⟩,
      I.bs,Nat.le_trans I.ok.bsz I.sz,fun b o e hb=>?_,fun b hb z=>?_,I.stack,I.stkFree⟩,
    rfl,I.bare,Un.kept hk,⟨m,hns,fun i y v e1 e2 e3=>?_⟩,fun y c e=>?_,I.hok.fresh hC,fun y c e=>I.freeC y c (L.sub.get e),fun p hp=>absurd (show p∈([]:List (Addr × Obj)) from hp) (by simp),I.hok.kept hk,?_⟩
  · exact Nat.ne_of_lt (Nat.lt_of_lt_of_le (hlt b hb) hC)
  · exact (hf b hb).2.2.2.2.1 x c (L.sub.get e)
  · rcases (hf b hb).2.2.2.1 with z | z
    · exact I.ok.noex b o e z
    · exact absurd (Nat.lt_of_lt_of_le (Heap.lt_size e) (Nat.le_trans I.ok.bsz z)) (Nat.lt_irrefl _)
  · rcases List.mem_cons.mp (I.stkSub b z) with q | q
    · exact (hf b hb).2.1 q
    · exact (hf b hb).2.2.1 q
  · have e1':(X.N ++ M)[i]?=some y:=e1
    by_cases hi:i < σ.length
    · rw [List.getElem?_append_left (by rw [blank_len]; exact hi)] at e2
      obtain ⟨e2,hiS⟩:=blank_get S σ e2
      rw [List.getElem?_append_left (by rw [<- I.len]; exact hi)] at e1'
      obtain ⟨m0,hn0,hl⟩:=I.loc
      have hy:scope.names.lookup y=some .free:=by
        rcases e3 with e3 | e3
        · have q:=lookup_relabel scope.names X.env y
          have e3':(relabel scope X.env).names.lookup y=some .local:=e3
          cases z:scope.names.lookup y with
          | none =>
            rw [z] at q
            have q':(relabel scope X.env).names.lookup y=none:=q
            rw [e3'] at q'; cases q'
          | some k =>
            have hk1:k≠.local:=fun w=>L.apart i y e1' hiS (w ▸ z)
            rw [z,Option.map_some] at q
            have q':some NameKind.local=some (if (k == NameKind.free && X.env.scope.kind == .function && X.env.kindOf y == some .cell)=true then NameKind.cell else k):=e3'.symm.trans q
            have q2:=Option.some.inj q'
            by_cases hc:(k == NameKind.free && X.env.scope.kind == .function && X.env.kindOf y == some .cell)=true
            · rw [if_pos hc] at q2; cases q2
            · rw [if_neg hc] at q2; exact absurd q2.symm hk1
        · exact L.kinds e3
      obtain ⟨⟨c,hc⟩,hk2⟩:=L.free hy
      obtain ⟨u,r,l⟩:=hl i y v e1' e2 (.inr hk2)
      refine ⟨u,r,.inr ⟨?_,c,hc,?_⟩⟩
      · have q:=lookup_relabel scope.names X.env y
        rw [hy,Option.map_some] at q
        have q':(relabel scope X.env).names.lookup y=some (if (NameKind.free == NameKind.free && X.env.scope.kind == .function && X.env.kindOf y == some .cell)=true then NameKind.cell else NameKind.free):=q
        by_cases hc:(NameKind.free == NameKind.free && X.env.scope.kind == .function && X.env.kindOf y == some .cell)=true
        · rw [if_pos hc] at q'; exact .inl q'
        · rw [if_neg hc] at q'; exact .inr q'
      · rcases l with ⟨l1,_⟩ | ⟨_,c',e',z⟩
        · rcases hk2 with w | w <;> (rw [l1] at w; cases w)
        · have ec:c'=c:=by
            have w:=L.sub.get hc
            rw [e'] at w
            exact Option.some.inj w
          subst ec
          obtain ⟨o,ho,hd⟩:=z
          exact ⟨o,hk _ _ ho,hd⟩
    · rw [List.getElem?_append_right (by rw [blank_len]; exact Nat.not_lt.mp hi),List.getElem?_replicate] at e2
      split at e2 <;> cases e2
  · obtain ⟨v,o,ho,hd⟩:=I.cell y c (L.sub.get e)
    exact ⟨v,o,hk _ _ ho,hd⟩
  · show (blank S σ ++ List.replicate M.length none).length=(X.N ++ M).length
    rw [List.length_append,List.length_append,List.length_replicate,blank_len,I.len]
def PTs (X:Cx) (ifs:List Expr) (t:TT):Prop :=
  ∀ (pins:List (Addr × Obj)) (s:Shared) (σ:St) (H:Hp) (Q:Bool->Hp->Prop),Inv X pins σ H s->t σ H Q ->
    wpAny (model X.prog X.w) X.A (forIn ifs true fun c r=>if r=true then do let ok <- isTrue c X.env (eval c X.env); pure (ForInStep.yield ok) else pure (ForInStep.yield r)) (TP X pins σ Q) X.xe s
def tYes:TT:=fun _ H Q=>Q true H
theorem pts_nil {X:Cx}:PTs X [] tYes:=fun _ _ _ H _ I h=>wpAny_tests_nil ⟨H,I,h⟩
theorem pts_one {X:Cx} {c:Expr} {t:TT} (h:PT X c t):PTs X [c] t:=fun pins s σ H Q I q=>wpAny_tests_one (h pins s σ H Q I q)
def lcBy (J:It) (g:TG) (tt:TT) (te:TE) (Q:VK) (W:Nat->Nat->St->List V->Hp->Prop):Prop:=∀ i m τ ys H,W i m τ ys H ->
  (J.stop i H/\∀ p,H p=none->Q (.ref p) (upd H p (.lst ys))) \/
  (J.go i H/\∃ N:St->List V->Hp->Prop,(∀ τ' ys' H',N τ' ys' H'->∃ m',m' < m/\W (i + 1) m' τ' ys' H')/\∀ x H',J.yld i H x H'->g x τ H' fun τ2 H2=>tt τ2 H2 fun b H3 =>
    if b=true then te τ2 H3 fun y H4=>ys.length < sizeLine/\N τ2 (ys ++ [y]) H4 else N τ2 ys H3)
def tLC (wi:TI) (g:TG) (tt:TT) (te:TE) (n:Nat):TE:=fun σ H Q=>wi σ H fun J H1=>∃ W,(∃ m,W 0 m (σ ++ List.replicate n none) [] H1)/\lcBy J g tt te Q W
def tLCS (S:List Nat) (wi:TI) (g:TG) (tt:TT) (te:TE) (n:Nat):TE:=fun σ H Q=>wi σ H fun J H1=>∃ W,(∃ m,W 0 m (blank S σ ++ List.replicate n none) [] H1)/\lcBy J g tt te Q W
theorem lc_core {tg elt iter:Expr} {ifs:List Expr} {pos:Pos} {g:TG} {tt:TT} {te:TE} {J:It} {fp:List Addr} {it:Addr} {tn:Nat->Heap->Prop} {Q:VK} {E:Value->Shared->Prop} {R:Value->Addr->Result->Shared->Prop} {Al:Addr->(Value->Shared->Prop)->Prop}
    {W:Nat->Nat->St->List V->Hp->Prop} {m0:Nat} (L:LcOk X scope cl S) (hc:X.calm=true) (I:Inv X pins σ H s) (T:Turn X.prog X.w X.K tg J fp it tn) (st:tn 0 s.heap) (hf:∀ b∈fp,FpOk X pins H b)
    (hg:∀ C s H ex E,PG (cxLC X scope cl M C s H ex E) tg g) (ht:∀ C s H ex E,PTs (cxLC X scope cl M C s H ex E) ifs tt) (he:∀ C E,Al C E->PE (cxLC X scope cl M C s H fp E) elt te)
    (hal:∀ C,s.heap.objs.size < C->Al C (notedBy (model X.prog X.w) X.A (compEnvC scope cl C X.env) (fun e s'=>R (.ref s.heap.objs.size) C (.error e) s')))
    (w0:W 0 m0 (blank S σ ++ List.replicate M.length none) [] H) (turn:lcBy J g tt te Q W)
    (hR:∀ D C s' H' ys m,Inv X pins σ (upd H' D (.lst ys)) s'->FpOk X pins (upd H' D (.lst ys)) C->s'.heap.Ns C m->Q (.ref D) (upd H' D (.lst ys))->R (.ref D) C (.ok .next) s') :
    wpAny (model X.prog X.w) X.A (newList []) (fun acc s₃=>wpAny (model X.prog X.w) X.A (newFunctionEnv scope X.env.globals cl [] X.env.qual none .none (some X.env)) (fun cenv s₄ =>
      codeAny (model X.prog X.w) X.A (.compStart (.ListComp elt [⟨tg,iter,ifs,0⟩] scope pos) 0 (.ref it) acc { cenv with scope:=relabel scope X.env }) (R acc cenv.locals) s₄) E s₃) E s:=by
  refine wpAny_newObj_type (wpAny_newFunctionEnv L.nocell (by intro y hy; simp at hy) (fun h₁ hns₁ hsb₁=>?_) L.kind)
  dsimp only at hns₁ hsb₁ ⊢
  generalize hG:s.heap.push { cls:=.type "list",dict:=none,data:=.seq ([]:List Value).toArray }=G at hns₁ hsb₁ ⊢
  have hC:G.objs.size=s.heap.objs.size + 1:=by rw [<- hG,Heap.size_push]
  have hDC:s.heap.objs.size≠G.objs.size:=by rw [hC]; exact Nat.ne_of_lt (Nat.lt_succ_self _)
  have hCle:s.heap.objs.size<=G.objs.size:=by rw [hC]; exact Nat.le_succ _
  have old:∀ b o,s.heap.get? b=some o->h₁.get? b=some o:=fun b o e =>
    hsb₁.extBut b o (by rw [hC]; exact Nat.ne_of_lt (Nat.lt_succ_of_lt (Heap.lt_size e))) (Heap.get?_push_of_some _ (hG ▸ Heap.get?_push_of_some _ e))
  have hacc:h₁.get? s.heap.objs.size=some { cls:=.type "list",data:=.seq ([]:List Value).toArray }:=hsb₁.extBut _ _ hDC (Heap.get?_push_of_some _ (hG ▸ Heap.get?_push_size _ rfl))
  have fpo:∀ b∈fp,b < s.heap.objs.size:=fun b hb=>let ⟨o,e,_⟩:=T.obj 0 _ st b hb; Heap.lt_size e
  have st1:tn 0 h₁:=T.keep 0 _ _ st fun b _ o e=>old b o e
  have nofs:s.heap.objs.size ∉ frs X.stack:=fun z=>by
    rcases List.mem_cons.mp (I.stkSub _ z) with q | q
    · exact absurd (q ▸ I.lt) (Nat.lt_irrefl _)
    · exact I.nofs (Nat.le_refl _) q
  have nocl:∀ y c,cl.lookup y=some c->c≠s.heap.objs.size:=fun y c e z=>by
    obtain ⟨v,o,ho,_⟩:=I.cell y c (L.sub.get e)
    exact absurd (z ▸ Heap.lt_size ho) (Nat.lt_irrefl _)
  have loop:∀ s₃:Shared,s₃={ s with heap:=h₁,toks:=s.toks + ([]:List (Str × Value)).length } ->
      codeAny (model X.prog X.w) X.A (.compLoop (.ListComp elt [⟨tg,iter,ifs,0⟩] scope pos) 0 (.ref it) (.ref s.heap.objs.size) (compEnvC scope cl G.objs.size X.env)) (R (.ref s.heap.objs.size) G.objs.size) s₃:=by
    rintro s₃ rfl
    have hAl:=hal G.objs.size (by rw [hC]; exact Nat.lt_succ_self _)
    generalize hE:notedBy (model X.prog X.w) X.A (compEnvC scope cl G.objs.size X.env) (fun e s'=>R (.ref s.heap.objs.size) G.objs.size (.error e) s')=E' at hAl ⊢
    have IY:Inv (cxLC X scope cl M G.objs.size s H fp E') [] (blank S σ ++ List.replicate M.length none) H { s with heap:=h₁,toks:=s.toks + ([]:List (Str × Value)).length }:=lc_start I L hf fpo old hCle hns₁
    refine codeAny_loop rfl (fun n s'=>∃ (i:Nat) (τ:St) (H':Hp) (ys:List V) (its:List Value) (k:Nat),Inv (cxLC X scope cl M G.objs.size s H fp E') [] τ H' s'/\tn i s'.heap/\(∀ b∈fp,H' b=none) /\
      s'.heap.get? s.heap.objs.size=some { cls:=.type "list",data:=.seq its.toArray k }/\H' s.heap.objs.size=none/\Vals ys its/\ys.length<=sizeLine/\W i n τ ys H') (fun n s' hI=>?_) m0
      ⟨0,_,H,[],[],_,IY,st1,fun b hb=>(hf b hb).1,hacc,I.hok.fresh (Nat.le_refl _),.nil,Nat.zero_le _,w0⟩
    obtain ⟨i,τ,H1,ys,its,k,I1,st1,fr1,eD,fD,rv,hz,w1⟩:=hI
    show wpAny _ X.A ((compTurn (.ListComp elt [⟨tg,iter,ifs,0⟩] scope pos) 0 (.ref it) (.ref s.heap.objs.size) (compEnvC scope cl G.objs.size X.env)).onRaise (fun x=>do noteFrame x (compEnvC scope cl G.objs.size X.env); theTreesLotGoes x)) _ _ s'
    refine wpAny_noted ?_
    rw [hE,compTurn_list]
    have I1':Inv (cxLC X scope cl M G.objs.size s H fp E') [(s.heap.objs.size,{ cls:=.type "list",data:=.seq its.toArray k })] τ H1 s':=I1.pins_of fun p hp=>by
      have e:p=(s.heap.objs.size,{ cls:=.type "list",data:=.seq its.toArray k }):=by simpa using hp
      subst e
      exact ⟨eD,fD,hDC,nofs,(fun v z=>nomatch z)⟩
    have stat:∀ {H':Hp},(∀ b∈fp,H' b=none)->∀ b∈fp,FpOk (cxLC X scope cl M G.objs.size s H fp E') [(s.heap.objs.size,{ cls:=.type "list",data:=.seq its.toArray k })] H' b:=fun hn b hb=>by
      refine ⟨hn b hb,?_,?_,.inl hb,fun x c e=>(hf b hb).2.2.2.2.1 x c (L.sub.get e),fun p hp z=>?_⟩
      · exact Nat.ne_of_lt (Nat.lt_of_lt_of_le (fpo b hb) hCle)
      · intro z
        rcases List.mem_cons.mp (I.stkSub b z) with q | q
        · exact (hf b hb).2.1 q
        · exact (hf b hb).2.2.1 q
      · have e:p=(s.heap.objs.size,{ cls:=.type "list",data:=.seq its.toArray k }):=by
          have hp':p∈[(s.heap.objs.size,({ cls:=.type "list",data:=.seq its.toArray k }:Obj))]:=hp
          simpa using hp'
        subst e
        exact absurd (z ▸ fpo b hb) (Nat.lt_irrefl _)
    refine wpAny_bind (wpAny_standAt (wpAny_bind ?_))
    rcases turn i n τ ys H1 w1 with ⟨stop,q⟩ | ⟨go,N,hN,step⟩
    · refine thn (T.done (cxLC X scope cl M G.objs.size s H fp E') rfl rfl rfl hc i _ s' τ H1 E' I1' (stat fr1) st1 stop) fun r s4 ⟨hr,I4⟩=>?_
      subst hr
      refine wpAny_pure ?_
      obtain ⟨eD4,_,_⟩:=I4.pin (s.heap.objs.size,{ cls:=.type "list",data:=.seq its.toArray k }) (List.mem_append_right _ List.mem_cons_self)
      have base4:Un (frs X.stack) fp H H1 s.heap s4.heap:=I4.base
      have un:Un (frs X.stack) fp H (upd H1 s.heap.objs.size (.lst ys)) s.heap s4.heap:=⟨base4.keep,base4.slot,fun b o e n hx=>by rw [upd_ne (Nat.ne_of_lt (Heap.lt_size e))]; exact base4.free b o e n hx,base4.there,
        fun b xs e=>by rw [upd_ne (ne_of_none (base4.tups b xs e) fD)]; exact base4.tups b xs e,fun b o u e=>by rw [upd_ne (ne_of_none (base4.frzs b o u e) fD)]; exact base4.frzs b o u e,
        fun b ps e=>by
          obtain ⟨more,w⟩:=base4.tbls b ps e
          exact ⟨more,by rw [upd_ne (ne_of_none w fD)]; exact w⟩⟩
      have hok:HOk X.prog X.w (upd H1 s.heap.objs.size (.lst ys)) s4.heap:=fun b u e=>by
        by_cases hb:b=s.heap.objs.size
        · subst hb
          rw [upd_same] at e
          cases e
          exact ⟨hz,its,k,rv,eD4⟩
        · rw [upd_ne hb] at e
          exact (I4.hok b u e).stay (fun c v _ q=>q) (fun c q=>by rw [upd_ne (ne_of_none q fD)]; exact q) fun c xs q=>by rw [upd_ne (ne_of_none q fD)]; exact q
      have IX:Inv X pins σ (upd H1 s.heap.objs.size (.lst ys)) s4:=I.call' I4.os un hok I4.bare fun b hb=>⟨(hf b hb).2.2.2.1,(hf b hb).2.1,(hf b hb).2.2.2.2.1,(hf b hb).2.2.2.2.2⟩
      have fC:H1 G.objs.size=none:=I4.free
      obtain ⟨m4,n4,_⟩:=I4.loc
      exact hR _ _ s4 H1 ys m4 IX (I.fpOk hCle (by rw [upd_ne (Ne.symm hDC)]; exact fC)) n4 (q _ fD)
    · refine thn (T.item (cxLC X scope cl M G.objs.size s H fp E') rfl rfl rfl hc i _ s' τ H1 E' I1' (stat fr1) st1 go) fun r s4 ⟨u,hr,h4⟩=>?_
      subst hr
      refine wpAny_bind (thn h4 fun _ s5 ⟨x,H5,I5,r5,y5,st5,fr5⟩=>?_)
      have I5':=I5.pinned (stat fr5) (T.obj _ _ st5)
      -- what holds behind a turn
      have kept:∀ {τ6:St} {H6:Hp} {s6:Shared},Inv (cxLC X scope cl M G.objs.size s H fp E') ([(s.heap.objs.size,{ cls:=.type "list",data:=.seq its.toArray k })] ++ pinsAt fp s5.heap) τ6 H6 s6 ->
          Inv (cxLC X scope cl M G.objs.size s H fp E') [] τ6 H6 s6/\tn (i + 1) s6.heap/\(∀ b∈fp,H6 b=none)/\s6.heap.get? s.heap.objs.size=some { cls:=.type "list",data:=.seq its.toArray k }/\H6 s.heap.objs.size=none:=fun {τ6 H6 s6} I6=>by
        have pin:∀ b∈fp,∀ o,s5.heap.get? b=some o->s6.heap.get? b=some o/\H6 b=none:=fun b hb o e =>
          let w:=I6.pin (b,o) (List.mem_append_right _ (List.mem_append_right _ (mem_pinsAt hb e)))
          ⟨w.1,w.2.1⟩
        have pD:=I6.pin (s.heap.objs.size,{ cls:=.type "list",data:=.seq its.toArray k }) (List.mem_append_right _ (List.mem_append_left _ List.mem_cons_self))
        refine ⟨I6.pins_of (fun p hp=>nomatch hp),T.keep _ _ _ st5 fun b hb o e=>(pin b hb o e).1,fun b hb=>?_,pD.1,pD.2.1⟩
        obtain ⟨o,e,_⟩:=T.obj _ _ st5 b hb
        exact (pin b hb o e).2
      refine wpAny_bind (thn (hg _ _ _ _ _ _ s5 τ H5 x u _ I5' r5 (step x H5 y5)) fun _ s6 ⟨σ6,H6,I6,q6⟩=>?_)
      refine wpAny_bind (thn (ht _ _ _ _ _ _ s6 σ6 H6 _ I6 q6) fun ok s7 ⟨H7,I7,q7⟩=>?_)
      cases ok with
      | false =>
        have q7':N σ6 ys H7:=by simpa using q7
        obtain ⟨m',hm,w7⟩:=hN _ _ _ q7'
        obtain ⟨K1,K2,K3,K4,K5⟩:=kept I7
        exact wpAny_pure ⟨rfl,m',hm,i + 1,σ6,H7,ys,its,k,K1,K2,K3,K4,K5,rv,hz,w7⟩
      | true =>
        have q7':te σ6 H7 fun y H4=>ys.length < sizeLine/\N σ6 (ys ++ [y]) H4:=by simpa using q7
        refine wpAny_bind (wpAny_bind (thn (he _ _ hAl _ s7 σ6 H7 _ I7 q7') fun y s8 ⟨v8,H8,I8,r8,hz8,n8⟩=>?_))
        obtain ⟨m',hm,w8⟩:=hN _ _ _ n8
        obtain ⟨K1,K2,K3,K4,K5⟩:=kept I8
        have hl:=rv.length
        refine wpAny_bind (wpAny_list_append_plain (hsz:=by rw [List.size_toArray]; omega) ⟨k,K4⟩ fun h9 hl9 hs9=>wpAny_pure (wpAny_pure ⟨rfl,m',hm,?_⟩))
        obtain ⟨k9,e9⟩:=hl9
        have I9:Inv (cxLC X scope cl M G.objs.size s H fp E') [] σ6 H8 { s8 with heap:=h9 }:=K1.turned (t':=s8.toks) (it:=s.heap.objs.size) (fun b o hb e=>(hs9.2 b hb).trans e) K5 hDC (.inr (Nat.le_refl _))
          (fun y c e=>nocl y c e) fun p hp=>nomatch hp
        refine ⟨i + 1,σ6,H8,ys ++ [v8],its ++ [y],k9,I9,T.keep _ _ _ K2 fun b hb o e=>(hs9.2 b (Nat.ne_of_lt (fpo b hb))).trans e,K3,?_,K5,rv.append (.cons r8 .nil),?_,w8⟩
        · rw [e9]
          simp
        · rw [List.length_append,List.length_singleton]
          omega
  exact codeAny_compStart_list (loop _ rfl) (T.self X.A 0 _ _ _ st1 (loop _ rfl))
variable {tg elt iter:Expr} {ifs:List Expr} {pos:Pos} {wi:TI} {g:TG} {tt:TT} {te:TE}
theorem pe_lc (L:LcOk X scope cl S) (hc:X.calm=true) (hi:PI X tg iter wi) (hg:∀ C s H ex E,PG (cxLC X scope cl M C s H ex E) tg g) (ht:∀ C s H ex E,PTs (cxLC X scope cl M C s H ex E) ifs tt) (he:∀ C s H ex E,PE (cxLC X scope cl M C s H ex E) elt te)
    (hs:∀ x,foldedSetIterable iter X.env x=pure x:=by intro _; rfl):PE X (.ListComp elt [⟨tg,iter,ifs,0⟩] scope pos) (tLCS S wi g tt te M.length):=by
  intro pins s σ H Q I h
  rw [eval_ListComp]
  refine wpAny_comprehension_free (use:=none) rfl hs L.clos L.kind L.locs (thn (hi pins s σ H _ I h) fun v s1 h1=>thn h1 fun itv s2 h2=>?_)
  obtain ⟨it,fp,tn,J,H2,rfl,I2,T,st2,f2,W,⟨m0,w0⟩,turn⟩:=h2
  refine lc_core (R:=fun acc C=>compPost (model X.prog X.w) X.A X.xe none (EP X pins σ Q) acc C) (Al:=fun _ _=>True) L hc I2 T st2 f2 hg ht (fun C E _=>he C _ _ _ E) (fun _ _=>trivial) w0 turn ?_
  intro D C s' H' ys m IX fC ns q
  exact ⟨m,ns,fun h' sb=>⟨.ref D,_,IX.turned (t':=s'.toks) (fun b o hb e=>(sb.2 b hb).trans e) fC.1 fC.2.1 fC.2.2.2.1 fC.2.2.2.2.1 fC.2.2.2.2.2,rfl,q⟩⟩
theorem ps_set_lc {i:Nat} {y:Str} {py spos:Pos} (hN:X.N.Nodup) (hi':X.N[i]?=some y) (hy:Loc X.env.scope y) (L:LcOk X scope cl S) (hc:X.calm=true) (hi:PI X tg iter wi) (hg:∀ C s H ex E,PG (cxLC X scope cl M C s H ex E) tg g)
    (ht:∀ C s H ex E,PTs (cxLC X scope cl M C s H ex E) ifs tt) (he:∀ C s H ex E,PE (cxLC X scope cl M C s H ex E) elt te) (hs:∀ x,foldedSetIterable iter X.env x=pure x:=by intro _; rfl)
    (hsw:swapsWith (.ListComp elt [⟨tg,iter,ifs,0⟩] scope pos) (some (.Name y py)) spos.line X.env=pure true:=by rfl)
    (hf:X.fn y=true\/X.env.scope.names.lookup y=some .local:=by first | exact .inl rfl | exact .inr rfl | assumption) :
    PS X (.Assign [.Name y py] (.ListComp elt [⟨tg,iter,ifs,0⟩] scope pos) spos) (fun D σ H=>tLCS S wi g tt te M.length σ H fun v H1=>D.nx (σ.set i (some v)) H1):=by
  intro pins s σ H D I h
  rw [exec_Assign_Name_used _ _ _ _ hsw]
  refine wpAny_bind (wpAny_standAt (wpAny_bind ?_))
  show wpAny _ X.A (do let _ <- comprehension (.ListComp elt [⟨tg,iter,ifs,0⟩] scope pos) scope X.env _ (newList []) false (eval iter X.env) (some (assign (.Name y py) X.env))) _ _ s
  refine wpAny_bind (wpAny_mono (wpAny_comprehension_free (use:=some (assign (.Name y py) X.env)) (Q:=fun _ s'=>SP X pins D .next s') rfl hs L.clos L.kind L.locs
    (thn (hi pins s σ H _ I h) fun v s1 h1=>thn h1 fun itv s2 h2=>?_)) (fun _ s' hq=>wpAny_pure (wpAny_pure hq)) fun _ _ e=>e)
  obtain ⟨it,fp,tn,J,H2,rfl,I2,T,st2,f2,W,⟨m0,w0⟩,turn⟩:=h2
  refine lc_core (R:=fun acc C=>compPost (model X.prog X.w) X.A X.xe (some (assign (.Name y py) X.env)) (fun _ s'=>SP X pins D .next s') acc C) (Al:=fun _ _=>True) L hc I2 T st2 f2 hg ht (fun C E _=>he C _ _ _ E) (fun _ _=>trivial) w0 turn ?_
  intro D' C s' H' ys m IX fC ns q
  show wpAny _ X.A (assign (.Name y py) X.env (.ref D')) _ _ s'
  refine wpAny_assign_Name (store_ok2 IX hN hi' hy (v:=.ref D') rfl (fun s'' I'' ⟨a,sb,ha⟩=>?_) hf)
  refine ⟨m,ns.sameBut sb ?_,fun h' sb'=>⟨_,_,I''.turned (t':=s''.toks) (fun b o hb e=>(sb'.2 b hb).trans e) fC.1 fC.2.1 fC.2.2.2.1 fC.2.2.2.2.1 fC.2.2.2.2.2,q⟩⟩
  rcases ha with ha | ha
  · rw [ha]; exact fC.2.1
  · exact Ne.symm (fC.2.2.2.2.1 y a ha)
end
def clOf (scope:Scope) (env:Env):List (Str × Addr):=scope.names.foldl (fun cs p=>if p.2 == .free then (match env.cells.lookup p.1 with | some a=>(p.1,a) :: cs | none=>cs) else cs) []
theorem clOf_in (env:Env):∀ (names:List (Str × NameKind)) (acc:List (Str × Addr)),AllIn env acc->AllIn env (names.foldl (fun cs p=>if p.2 == .free then (match env.cells.lookup p.1 with | some a=>(p.1,a) :: cs | none=>cs) else cs) acc)
  | [],_,h=>h
  | (n,k) :: r,acc,h=>by
    rw [List.foldl_cons]
    refine clOf_in env r _ ?_
    by_cases hk:(k == NameKind.free)=true
    · rw [if_pos hk]
      cases e:env.cells.lookup n with
      | none=>exact h
      | some a=>exact ⟨e,h⟩
    · rw [if_neg hk]
      exact h
section
variable {X:Cx} {scope:Scope} {M:List Str} {tg elt iter:Expr} {ifs:List Expr} {pos:Pos} {wi:TI} {g:TG} {tt:TT} {te:TE}
theorem lcOkS {S:List Nat} (h1:closureFor scope X.env=pure (clOf scope X.env)) (h2:scope.kind=.function) (h3:scope.names.all (fun y=>y.2 != .cell)=true) (h4:scope.names.all (fun y=>y.2 != .local || scope.names.lookup y.1 == some .local)=true)
    (h5:X.N.zipIdx.all (fun y=>S.contains y.2 || scope.names.lookup y.1 != some .local)=true) (h6:scope.names.all (fun p=>p.2 != .free || (((clOf scope X.env).lookup p.1).isSome && (X.env.kindOf p.1 == some .cell || X.env.kindOf p.1 == some .free)))=true) :
    LcOk X scope (clOf scope X.env) S:=⟨h1,h2,h3,h4,h5,clOf_in X.env scope.names [] trivial,h6⟩
theorem lcOk (h1:closureFor scope X.env=pure (clOf scope X.env)) (h2:scope.kind=.function) (h3:scope.names.all (fun y=>y.2 != .cell)=true) (h4:scope.names.all (fun y=>y.2 != .local || scope.names.lookup y.1 == some .local)=true)
    (h5:X.N.all (fun y=>scope.names.lookup y != some .local)=true) (h6:scope.names.all (fun p=>p.2 != .free || (((clOf scope X.env).lookup p.1).isSome && (X.env.kindOf p.1 == some .cell || X.env.kindOf p.1 == some .free)))=true) :
    LcOk X scope (clOf scope X.env) []:=lcOkS h1 h2 h3 h4 (List.all_eq_true.mpr fun y hy=>by
      have hm:y.1∈X.N:=List.mem_of_getElem? (List.mem_zipIdx_iff_getElem?.mp hy)
      rw [List.all_eq_true.mp h5 y.1 hm,Bool.or_true]) h6
theorem pe_comp (M:List Str) (hc:X.calm=true) (hi:PI X tg iter wi) (hg:∀ C s H ex E,PG (cxLC X scope (clOf scope X.env) M C s H ex E) tg g) (ht:∀ C s H ex E,PTs (cxLC X scope (clOf scope X.env) M C s H ex E) ifs tt)
    (he:∀ C s H ex E,PE (cxLC X scope (clOf scope X.env) M C s H ex E) elt te) (hs:∀ x,foldedSetIterable iter X.env x=pure x:=by intro _; rfl)
    (h1:closureFor scope X.env=pure (clOf scope X.env):=by with_unfolding_all rfl) (h2:scope.kind=.function:=by rfl) (h3:scope.names.all (fun y=>y.2 != .cell)=true:=by rfl) (h4:scope.names.all (fun y=>y.2 != .local || scope.names.lookup y.1 == some .local)=true:=by rfl)
    (h5:X.N.all (fun y=>scope.names.lookup y != some .local)=true:=by rfl) (h6:scope.names.all (fun p=>p.2 != .free || (((clOf scope X.env).lookup p.1).isSome && (X.env.kindOf p.1 == some .cell || X.env.kindOf p.1 == some .free)))=true:=by rfl) :
    PE X (.ListComp elt [⟨tg,iter,ifs,0⟩] scope pos) (tLC wi g tt te M.length):=pe_lc (lcOk h1 h2 h3 h4 h5 h6) hc hi hg ht he hs
theorem ps_comp (M:List Str) {i:Nat} {y:Str} {py spos:Pos} (hN:X.N.Nodup) (hi':X.N[i]?=some y) (hy:Loc X.env.scope y) (hc:X.calm=true) (hi:PI X tg iter wi) (hg:∀ C s H ex E,PG (cxLC X scope (clOf scope X.env) M C s H ex E) tg g)
    (ht:∀ C s H ex E,PTs (cxLC X scope (clOf scope X.env) M C s H ex E) ifs tt) (he:∀ C s H ex E,PE (cxLC X scope (clOf scope X.env) M C s H ex E) elt te) (hs:∀ x,foldedSetIterable iter X.env x=pure x:=by intro _; rfl)
    (hsw:swapsWith (.ListComp elt [⟨tg,iter,ifs,0⟩] scope pos) (some (.Name y py)) spos.line X.env=pure true:=by rfl)
    (hf:X.fn y=true\/X.env.scope.names.lookup y=some .local:=by first | exact .inl rfl | exact .inr rfl | assumption)
    (h1:closureFor scope X.env=pure (clOf scope X.env):=by with_unfolding_all rfl) (h2:scope.kind=.function:=by rfl) (h3:scope.names.all (fun y=>y.2 != .cell)=true:=by rfl) (h4:scope.names.all (fun y=>y.2 != .local || scope.names.lookup y.1 == some .local)=true:=by rfl)
    (h5:X.N.all (fun y=>scope.names.lookup y != some .local)=true:=by rfl) (h6:scope.names.all (fun p=>p.2 != .free || (((clOf scope X.env).lookup p.1).isSome && (X.env.kindOf p.1 == some .cell || X.env.kindOf p.1 == some .free)))=true:=by rfl) :
    PS X (.Assign [.Name y py] (.ListComp elt [⟨tg,iter,ifs,0⟩] scope pos) spos) (fun D σ H=>tLC wi g tt te M.length σ H fun v H1=>D.nx (σ.set i (some v)) H1):=ps_set_lc hN hi' hy (lcOk h1 h2 h3 h4 h5 h6) hc hi hg ht he hs hsw hf
end
section
variable {g:TG} {tt:TT} {te:TE} {Q:VK} {σ:St} {H:Hp}
theorem lc_list {K:PySem.W.Frag} {a:Addr} {xs:List V} (Pv:Nat->St->List V->Hp->Prop) (h0:Pv 0 σ [] H) (hl:∀ i τ ys H,i<=xs.length->Pv i τ ys H->SqL K H a xs)
    (hs:∀ i x τ ys H,xs[i]?=some x->Pv i τ ys H->g x τ H fun τ2 H2=>tt τ2 H2 fun b H3=>if b=true then te τ2 H3 fun y H4=>ys.length < sizeLine/\Pv (i + 1) τ2 (ys ++ [y]) H4 else Pv (i + 1) τ2 ys H3)
    (hd:∀ τ ys H,Pv xs.length τ ys H->∀ p,H p=none->Q (.ref p) (upd H p (.lst ys))):∃ W,(∃ m,W 0 m σ [] H)/\lcBy (Itl K a) g tt te Q W:=by
  refine ⟨fun i m τ ys H=>m=xs.length - i/\i<=xs.length/\Pv i τ ys H,⟨xs.length,by simp,Nat.zero_le _,h0⟩,?_⟩
  rintro i m τ ys H ⟨rfl,hi,p⟩
  have q:=hl i τ ys H hi p
  by_cases hlt:i < xs.length
  · refine .inr ⟨⟨xs,xs[i],q,by simp [hlt]⟩,Pv (i + 1),fun τ' ys' H' p'=>⟨xs.length - (i + 1),by omega,rfl,hlt,p'⟩,fun x H' y=>?_⟩
    obtain ⟨e,y⟩:=y
    subst e
    exact hs i x τ ys _ (y xs q) p
  · have e:i=xs.length:=by omega
    subst e
    exact .inl ⟨⟨xs,q,Nat.le_refl _⟩,hd τ ys H p⟩
theorem lc_range {lo:Int} {n:Nat} (Pv:Nat->St->List V->Hp->Prop) (h0:Pv 0 σ [] H)
    (hs:∀ i τ ys H,i < n->Pv i τ ys H->g (.int (lo + i)) τ H fun τ2 H2=>tt τ2 H2 fun b H3=>if b=true then te τ2 H3 fun y H4=>ys.length < sizeLine/\Pv (i + 1) τ2 (ys ++ [y]) H4 else Pv (i + 1) τ2 ys H3)
    (hd:∀ τ ys H,Pv n τ ys H->∀ p,H p=none->Q (.ref p) (upd H p (.lst ys))):∃ W,(∃ m,W 0 m σ [] H)/\lcBy (Itr lo n) g tt te Q W:=by
  refine ⟨fun i m τ ys H=>m=n - i/\i<=n/\Pv i τ ys H,⟨n,by simp,Nat.zero_le _,h0⟩,?_⟩
  rintro i m τ ys H ⟨rfl,hi,p⟩
  by_cases hlt:i < n
  · refine .inr ⟨hlt,Pv (i + 1),fun τ' ys' H' p'=>⟨n - (i + 1),by omega,rfl,hlt,p'⟩,fun x H' y=>?_⟩
    obtain ⟨e,y⟩:=y
    subst e y
    exact hs i τ ys _ hlt p
  · have e:i=n:=by omega
    subst e
    exact .inl ⟨Nat.le_refl _,hd τ ys H p⟩
end
end L2
namespace L2
open PySem PySem.Spec PyProof.Rows Builtin Builtin.Str
section
variable {X:Cx} {tg:Expr}
theorem op_mul_str:OpR X (binaryOp .Mult) (fun x y H Q=>∃ z n,x=.str z/\y=.int n/\MulOk z n/\Q (.str (Txt.mul z n)) H):=by
  intro pins s σ H x y v u Q I rx ry h
  obtain ⟨z,n,rfl,rfl,ok,q⟩:=h
  obtain ⟨t,rfl⟩:=rx
  obtain ⟨t',rfl⟩:=ry
  exact SB.mul ok fun t'' k=>⟨.str (Txt.mul z n),H,I.tok k,⟨t'',rfl⟩,q⟩
theorem call_isinst:CallR X (.builtin "isinstance") (fun xs H Q=>∃ x t T b,xs=[x,.ty T]/\TyOf X.K H x t/\PySem.W.kitOne X.K t (.type T)=some b/\Q (.bl b) H):=by
  intro pins s σ H xs us Q I r h
  obtain ⟨x,t,T,b,rfl,ty,e,q⟩:=h
  obtain ⟨u,u',rfl,rx,ru⟩:=vals2 r
  cases ru
  exact isinst_ok I rx ty e fun tk=>⟨.bl b,H,I.tok tk,rfl,q⟩
end
end L2
namespace L2
open PySem PySem.Spec PyProof.Rows
def isStar:Expr->Bool
  | .Starred ..=>true
  | _=>false
theorem star_cons {e:Expr} {es:List Expr} {env:Env} (h:isStar e=false):starEach (e :: es) env=(false,eval e env) :: starEach es env:=by
  cases e <;> first
    | rfl
    | exact absurd (show true=false from h) (by decide)
theorem star_any {env:Env} {pos:Pos}:∀ {es:List Expr},es.all (fun e=>!isStar e)=true->(backTo pos (starEach es env)).any (·.1)=false
  | [],_=>rfl
  | e :: es,h=>by
    rw [List.all_cons,Bool.and_eq_true] at h
    have h1:isStar e=false:=by simpa using h.1
    rw [star_cons h1]
    show (false || (backTo pos (starEach es env)).any (·.1))=false
    rw [star_any h.2]
    rfl
section
variable {X:Cx} {CX:CXT} {k:Nat} {f C:Addr} {fd:FuncData} {ps:List Str} {sp:Sp} {dvs:List V} {ds:List Value} {E:XK} {x m:Str} {p pos apos:Pos} {e o:Expr} {es:List Expr} {te ta:TE} {t:TA} {id T:String} {r:List V->Hp->VK->Prop}
theorem pa_c (ha:PE X e te) (hr:PA X es t) (h:isStar e=false:=by rfl):PA X (e :: es) (tCons te t):=pa_cons ha hr (star_cons h)
theorem pe_fn (F:FnOk X.prog X.w X.K X.mg X.base CX k f fd ps sp) (hr:Room k X.A) (hg:Gl X x) (hm:X.mg x=some (.ref f)) (hk:PySem.W.keepIn X.K (.ref f)=true) (hb:Binds X.K fd ps ds) (hd:Vals dvs ds) (hx:Passes CX X E)
    (ha:PA X (e :: es) t) (hdb:(x == ("__debug__":Str))=false:=by decide) (h1:isStar e=false:=by rfl) (h2:es.all (fun e=>!isStar e)=true:=by rfl) :
    PE X (.Call (.Name x p) (e :: es) [] pos) (tCall sp dvs E t):=pe_call F hr hg hm hk hb hd hx ha hdb (star_cons h1) (star_any h2)
theorem pe_fnB (hc:CallR X (.builtin id) r) (hg:Gl X x) (hm:X.mg x=none) (hv:bootBuiltins x=some (.builtin id)) (ha:PA X (e :: es) t) (hn:x≠"__name__":=by decide) (hdb:(x == ("__debug__":Str))=false:=by decide)
    (h1:isStar e=false:=by rfl) (h2:es.all (fun e=>!isStar e)=true:=by rfl):PE X (.Call (.Name x p) (e :: es) [] pos) (tCB r t):=pe_callB hc hg hm hv ha hn hdb (star_cons h1) (star_any h2)
theorem pe_fnTy (hc:CallR X (.type T) r) (hg:Gl X x) (hm:X.mg x=none) (hv:bootBuiltins x=some (.type T)) (ha:PA X (e :: es) t) (hn:x≠"__name__":=by decide) (hdb:(x == ("__debug__":Str))=false:=by decide)
    (h1:isStar e=false:=by rfl) (h2:es.all (fun e=>!isStar e)=true:=by rfl):PE X (.Call (.Name x p) (e :: es) [] pos) (tCB r t):=pe_callTy hc hg hm hv ha hn hdb (star_cons h1) (star_any h2)
end
end L2
namespace L2
open PySem PySem.Spec PyProof.Rows
structure jE (X:Cx) (e:Expr) (t:TE):Prop where
  out:PE X e t
structure jT (X:Cx) (e:Expr) (t:TT):Prop where
  out:PT X e t
structure jW (X:Cx) (e:Expr) (t:TT):Prop where
  out:PW X e t
structure jA (X:Cx) (es:List Expr) (t:TA):Prop where
  out:PA X es t
structure jS (X:Cx) (st:Stmt) (t:TS):Prop where
  out:PS X st t
structure jSs (X:Cx) (sts:List Stmt) (t:TS):Prop where
  out:PSs X sts t
structure jG (X:Cx) (tg:Expr) (t:TG):Prop where
  out:PG X tg t
structure jGs (X:Cx) (tg:List Expr) (t:TGs):Prop where
  out:PGs X tg t
structure jI (X:Cx) (tg iter:Expr) (t:TI):Prop where
  out:PI X tg iter t
structure jO (X:Cx) (e:Option Expr) (t:TO):Prop where
  out:PO X e t
structure jTs (X:Cx) (ifs:List Expr) (t:TT):Prop where
  out:PTs X ifs t
structure jOp (X:Cx) (f:Value->Value->Sem Value) (r:R2):Prop where
  out:OpR X f r
structure jIx (X:Cx) (r:R2):Prop where
  out:IxR X r
structure jSl (X:Cx) (r:V->Option Int->Option Int->Hp->VK->Prop):Prop where
  out:SlR X r
structure jMt (X:Cx) (id:String) (r:V->List V->Hp->VK->Prop):Prop where
  out:MtR X id r
structure jCa (X:Cx) (f:Value) (r:List V->Hp->VK->Prop):Prop where
  out:CallR X f r
section
variable {X:Cx} {a b c e o:Expr} {es rest:List Expr} {ta tb tc te to:TE} {t u:TA} {tA tB':TT} {pos p p2 apos cpos px:Pos} {x y m:Str} {op op':CmpOp} {bop:Operator} {r r':R2}
theorem jv (i:Nat) (hN:X.N[i]?=some x:=by rfl) (hv:Vis X.env.scope x:=by first | exact Or.inl rfl | exact Or.inr (Or.inl rfl) | exact Or.inr (Or.inr rfl)) (hd:(x == ("__debug__":Str))=false:=by decide)
    (hcd:(x == ("__classdict__":Str))=false:=by decide):jE X (.Name x pos) (tVar i):=⟨pv i hN hv hd hcd⟩
theorem je_int {i j}:jE X (.Constant (.int i) j pos) (tC (.int i)):=⟨pe_int⟩
theorem je_bl {b j}:jE X (.Constant (.bool b) j pos) (tC (.bl b)):=⟨pe_bl⟩
theorem je_non {j}:jE X (.Constant .none j pos) (tC .non):=⟨pe_non⟩
theorem je_str {x j}:jE X (.Constant (.str x) j pos) (tC (.str x)):=⟨pe_str⟩
theorem je_bltn {v:V} {w:Value} (hg:Gl X x) (hm:X.mg x=none) (hv:bootBuiltins x=some w) (r:RelV v w) (hn:x≠"__name__":=by decide) (hd:(x == ("__debug__":Str))=false:=by decide):jE X (.Name x pos) (tC v):=⟨pe_bltn hg hm hv r hn hd⟩
theorem je_op (ho:jOp X (binaryOp bop) r) (ha:jE X a ta) (hb:jE X b tb):jE X (.BinOp a bop b pos) (tOp r ta tb):=⟨pe_op ho.out ha.out hb.out⟩
theorem je_neg (ha:jE X a ta):jE X (.UnaryOp .USub a pos) (tUn (rU fun i=>.int (-i)) ta):=⟨pe_un un_neg ha.out⟩
theorem je_cmpR (ho:jOp X (compareOp op) r) (ha:jE X a ta) (hb:jE X b tb) (hm:behindInMarks op b=false):jE X (.Compare a [op] [b] pos) (tOp r ta tb):=⟨pe_cmpR ho.out ha.out hb.out hm⟩
theorem jt_cmpR (ho:jOp X (compareOp op) r) (ha:jE X a ta) (hb:jE X b tb) (hm:behindInMarks op b=false):jT X (.Compare a [op] [b] pos) (tTest (tOp r ta tb)):=⟨pt_cmpR ho.out ha.out hb.out hm⟩
theorem je_chain (ho:jOp X (compareOp op) r) (ho':jOp X (compareOp op') r') (ha:jE X a ta) (hb:jE X b tb) (hc:jE X c tc) (hm:lastMarks [op,op'] [b,c]=false:=by with_unfolding_all rfl):jE X (.Compare a [op,op'] [b,c] pos) (tChain r r' ta tb tc):=⟨pe_chain ho.out ho'.out ha.out hb.out hc.out hm⟩
theorem jt_val (h:jE X e te) (he:∀ whole,isTrue e X.env whole=(do let v <- whole; standAt e.pos; holding [v] (truthy v)):=by intro _; rfl):jT X e (tB te):=⟨pt_val h.out he⟩
theorem jw_and1 (ha:jT X a tA):jW X (.BoolOp .And [a] pos) tA:=⟨pw_and1 ha.out⟩
theorem jw_or1 (ha:jT X a tA):jW X (.BoolOp .Or [a] pos) tA:=⟨pw_or1 ha.out⟩
theorem jw_and (ha:jT X a tA) (hb:jW X (.BoolOp .And (b :: rest) pos) tB'):jW X (.BoolOp .And (a :: b :: rest) pos) (tAnd tA tB'):=⟨pw_and ha.out hb.out⟩
theorem jw_or (ha:jT X a tA) (hb:jW X (.BoolOp .Or (b :: rest) pos) tB'):jW X (.BoolOp .Or (a :: b :: rest) pos) (tOr tA tB'):=⟨pw_or ha.out hb.out⟩
theorem jW.pt (h:jW X e tA):jT X e tA:=⟨PW.pt h.out⟩
theorem jt_not (ha:jT X a tA):jT X (.UnaryOp .Not a pos) (tNot tA):=⟨pt_not ha.out⟩
theorem je_one {op} (h:jE X a te):jE X (.BoolOp op [a] pos) te:=⟨pe_one h.out⟩
theorem je_and (ha:jE X a ta) (hb:jE X (.BoolOp .And (b :: rest) pos) tb):jE X (.BoolOp .And (a :: b :: rest) pos) (tAndV ta tb):=⟨pe_and ha.out hb.out⟩
theorem je_not (ha:jE X a ta):jE X (.UnaryOp .Not a pos) (tNotV ta):=⟨pe_not ha.out⟩
theorem je_ifExp (hc:jT X c tA) (ha:jE X a ta) (hb:jE X b tb):jE X (.IfExp c a b pos) (tIf tA ta tb):=⟨pe_ifExp hc.out ha.out hb.out⟩
theorem ja_nil:jA X [] tNil:=⟨pa_nil⟩
theorem ja_c (ha:jE X e te) (hr:jA X es t) (h:isStar e=false:=by rfl):jA X (e :: es) (tCons te t):=⟨pa_c ha.out hr.out h⟩
theorem je_lst (h:jA X es t):jE X (.List es pos) (tLst t):=⟨pe_lst h.out⟩
theorem je_tup {x1} (h:jA X es t):jE X (.Tuple es x1 pos) (tTup t):=⟨pe_tup h.out⟩
theorem je_ix (hr:jIx X r) (ha:jE X a ta) (hb:jE X b tb) (hs:PlainIx b):jE X (.Subscript a b pos) (tOp r ta tb):=⟨pe_ix hr.out ha.out hb.out hs⟩
theorem jo_none:jO X none tNoPart:=⟨po_none⟩
theorem jo_some (h:jE X e te):jO X (some e) (tPart te):=⟨po_some h.out⟩
theorem je_slice {r:V->Option Int->Option Int->Hp->VK->Prop} {lo hi:Option Expr} {tl th:TO} (hr:jSl X r) (he:jE X e te) (hl:jO X lo tl) (hu:jO X hi th):jE X (.Subscript e (.Slice lo hi none p2) pos) (tSl r te tl th):=⟨pe_slice hr.out he.out hl.out hu.out⟩
variable {CX:CXT} {k:Nat} {f C:Addr} {fd:FuncData} {ps:List Str} {sp:Sp} {dvs:List V} {ds:List Value} {E:XK} {id T:String} {rc:List V->Hp->VK->Prop} {rm:V->List V->Hp->VK->Prop}
theorem je_fn (F:FnOk X.prog X.w X.K X.mg X.base CX k f fd ps sp) (hr:Room k X.A) (hg:Gl X x) (hm:X.mg x=some (.ref f)) (hk:PySem.W.keepIn X.K (.ref f)=true) (hb:Binds X.K fd ps ds) (hd:Vals dvs ds) (hx:Passes CX X E)
    (ha:jA X (e :: es) t) (hdb:(x == ("__debug__":Str))=false:=by decide) (h1:isStar e=false:=by rfl) (h2:es.all (fun e=>!isStar e)=true:=by rfl) :
    jE X (.Call (.Name x p) (e :: es) [] pos) (tCall sp dvs E t):=⟨pe_fn F hr hg hm hk hb hd hx ha.out hdb h1 h2⟩
theorem je_fnB (hc:jCa X (.builtin id) rc) (hg:Gl X x) (hm:X.mg x=none) (hv:bootBuiltins x=some (.builtin id)) (ha:jA X (e :: es) t) (hn:x≠"__name__":=by decide) (hdb:(x == ("__debug__":Str))=false:=by decide)
    (h1:isStar e=false:=by rfl) (h2:es.all (fun e=>!isStar e)=true:=by rfl):jE X (.Call (.Name x p) (e :: es) [] pos) (tCB rc t):=⟨pe_fnB hc.out hg hm hv ha.out hn hdb h1 h2⟩
theorem je_fnTy (hc:jCa X (.type T) rc) (hg:Gl X x) (hm:X.mg x=none) (hv:bootBuiltins x=some (.type T)) (ha:jA X (e :: es) t) (hn:x≠"__name__":=by decide) (hdb:(x == ("__debug__":Str))=false:=by decide)
    (h1:isStar e=false:=by rfl) (h2:es.all (fun e=>!isStar e)=true:=by rfl):jE X (.Call (.Name x p) (e :: es) [] pos) (tCB rc t):=⟨pe_fnTy hc.out hg hm hv ha.out hn hdb h1 h2⟩
theorem je_bm0 {name:Str} (pa:PlainAttrs T) (slot:Slot T name id) (hty:typeOf (.builtin id)=pure (.type "method_descriptor")) (hm:jMt X id rm) (ho:jE X o to)
    (hbase:attributeBase o name X.env (eval o X.env)=eval o X.env:=by rfl) (hline:(apos.endLine == cpos.line)=true:=by rfl):jE X (.Call (.Attribute o name apos) [] [] cpos) (tBM0 X.K T rm to):=⟨pe_bm0 pa slot hty hm.out ho.out hbase hline⟩
theorem je_bm {name:Str} (pa:PlainAttrs T) (slot:Slot T name id) (hty:typeOf (.builtin id)=pure (.type "method_descriptor")) (hm:jMt X id rm) (ho:jE X o to) (ha:jA X (e :: es) t)
    (hbase:attributeBase o name X.env (eval o X.env)=eval o X.env:=by rfl)
    (hfew:((backTo cpos (starEach (e :: es) X.env)).all (fun x=>!x.1) && (backToKw cpos (keywordEach [] X.env)).all (fun x=>x.1.isSome)
      && decide ((e :: es).length + ([]:List Keyword).length + (if ([]:List Keyword).isEmpty then 0 else 1) < 30))=true:=by rfl)
    (hline:(apos.endLine == cpos.line)=true:=by rfl) (h1:isStar e=false:=by rfl) (h2:es.all (fun e=>!isStar e)=true:=by rfl) :
    jE X (.Call (.Attribute o name apos) (e :: es) [] cpos) (tBM X.K T rm to t):=⟨pe_bm pa slot hty hm.out ho.out ha.out hbase hfew hline (star_cons h1) (star_any h2)⟩
variable {st:Stmt} {sts:List Stmt} {s1 s2:TS} {tg iter elt:Expr} {g:TG} {wi:TI} {tb1:TS} {ifs:List Expr} {tt:TT}
theorem jss_nil:jSs X [] tNext:=⟨pss_nil⟩
theorem jss_cons (h1:jS X st s1) (h2:jSs X sts s2):jSs X (st :: sts) (tSeq s1 s2):=⟨pss_cons h1.out h2.out⟩
theorem jss_one (h1:jS X st s1):jSs X [st] s1:=⟨pss_one h1.out⟩
theorem js_expr (he:jE X e te) (hs:swapsWith e none pos.line X.env=pure false:=by rfl):jS X (.Expr e pos) (tDrop te):=⟨ps_expr he.out hs⟩
theorem js_ret (he:jE X e te):jS X (.Return (some e) pos) (tRet te):=⟨ps_ret he.out⟩
theorem js_retN:jS X (.Return none pos) tRetN:=⟨ps_retN⟩
theorem js_if {A B:List Stmt} (hc:jT X c tA) (ha:jSs X A s1) (hb:jSs X B s2):jS X (.If c A B pos) (tIfS tA s1 s2):=⟨ps_if hc.out ha.out hb.out⟩
theorem js_set {i:Nat} {pos':Pos} (hN:X.N.Nodup) (hi:X.N[i]?=some x) (hx:Loc X.env.scope x) (he:jE X e te) (hs:swapsWith e (some (.Name x pos')) pos.line X.env=pure false:=by rfl)
    (hf:X.fn x=true\/X.env.scope.names.lookup x=some .local:=by first | exact .inl rfl | exact .inr rfl | assumption):jS X (.Assign [.Name x pos'] e pos) (tAsg te (gName i)):=⟨ps_set hN hi hx he.out hs hf⟩
theorem js_asg (he:jE X e te) (hg:jG X tg g) (hs:swapsWithSole [tg] e pos.line X.env=pure false:=by rfl) (hw:swappedStores [tg] e X.env=pure none:=by rfl) (h1:(assignEach [tg] X.env).map (·.2)=[assign tg X.env]:=by rfl):jS X (.Assign [tg] e pos) (tAsg te g):=⟨ps_asg he.out hg.out hs hw h1⟩
theorem jg_name {i:Nat} (hN:X.N.Nodup) (hi:X.N[i]?=some x) (hx:Loc X.env.scope x) (hf:X.fn x=true\/X.env.scope.names.lookup x=some .local:=by first | exact .inl rfl | exact .inr rfl | assumption):jG X (.Name x pos) (gName i):=⟨pg_name hN hi hx hf⟩
theorem jgs_nil:jGs X [] gNil:=⟨pgs_nil⟩
theorem jgs_cons {g:TG} {gs:TGs} (h1:jG X e g) (h2:jGs X es gs) (hs:(assignEach (e :: es) X.env).map (·.2)=assign e X.env :: (assignEach es X.env).map (·.2):=by rfl):jGs X (e :: es) (gCons g gs):=⟨pgs_cons h1.out h2.out hs⟩
theorem jg_tup {k:Nat} {gs:TGs} {n:Nat} (hc:X.calm=true) (h:jGs X es gs) (hn:(assignEach es X.env).length=n:=by rfl) (hst:(assignEach es X.env).findIdx? (·.1)=none:=by rfl):jG X (.Tuple es k pos) (gTup X.K n gs):=⟨pg_tup hc h.out hn hst⟩
theorem ji_list {l:Expr} {tl:TE} (hl:jE X l tl):jI X tg l (iList X.K tl):=⟨pi_list hl.out⟩
theorem ji_tup {l:Expr} {tl:TE} (hl:jE X l tl):jI X tg l (iTup X.K tl):=⟨pi_tup hl.out⟩
theorem ji_range1 (hg:Gl X "range") (hm:X.mg "range"=none) (ha:jA X [a] t) (h:isStar a=false:=by rfl):jI X tg (.Call (.Name "range" p) [a] [] pos) (iRng1 t):=⟨pi_range1 hg hm ha.out (star_cons h)⟩
theorem js_for (hp:PassesOwn (model X.prog X.w) X.A X.env X.xe) (hc:X.calm=true) (hi:jI X tg iter wi) (hg:jG X tg g) (hb:jSs X sts tb1) (hs:∀ x,foldedSetIterable iter X.env x=pure x:=by intro _; rfl):jS X (.For tg iter sts [] pos) (tFor wi g tb1):=⟨ps_for hp hc hi.out hg.out hb.out hs⟩
theorem js_while (hp:PassesOwn (model X.prog X.w) X.A X.env X.xe) (hc:jT X c tA) (hb:jSs X sts tb1):jS X (.While c sts [] pos) (tWhile tA tb1):=⟨ps_while hp hc.out hb.out⟩
theorem jts_nil:jTs X [] tYes:=⟨pts_nil⟩
theorem jts_one (h:jT X c tA):jTs X [c] tA:=⟨pts_one h.out⟩
theorem je_comp {scope:Scope} (M:List Str) (hc:X.calm=true) (hi:jI X tg iter wi) (hg:∀ C s H ex E,jG (cxLC X scope (clOf scope X.env) M C s H ex E) tg g) (ht:∀ C s H ex E,jTs (cxLC X scope (clOf scope X.env) M C s H ex E) ifs tt)
    (he:∀ C s H ex E,jE (cxLC X scope (clOf scope X.env) M C s H ex E) elt te) (hs:∀ x,foldedSetIterable iter X.env x=pure x:=by intro _; rfl)
    (h1:closureFor scope X.env=pure (clOf scope X.env):=by with_unfolding_all rfl) (h2:scope.kind=.function:=by rfl) (h3:scope.names.all (fun y=>y.2 != .cell)=true:=by rfl) (h4:scope.names.all (fun y=>y.2 != .local || scope.names.lookup y.1 == some .local)=true:=by rfl)
    (h5:X.N.all (fun y=>scope.names.lookup y != some .local)=true:=by rfl) (h6:scope.names.all (fun p=>p.2 != .free || (((clOf scope X.env).lookup p.1).isSome && (X.env.kindOf p.1 == some .cell || X.env.kindOf p.1 == some .free)))=true:=by rfl) :
    jE X (.ListComp elt [⟨tg,iter,ifs,0⟩] scope pos) (tLC wi g tt te M.length):=⟨pe_comp M hc hi.out (fun C s H ex E=>(hg C s H ex E).out) (fun C s H ex E=>(ht C s H ex E).out) (fun C s H ex E=>(he C s H ex E).out) hs h1 h2 h3 h4 h5 h6⟩
theorem js_comp {scope:Scope} (M:List Str) {i:Nat} {py spos:Pos} (hN:X.N.Nodup) (hi':X.N[i]?=some y) (hy:Loc X.env.scope y) (hc:X.calm=true) (hi:jI X tg iter wi) (hg:∀ C s H ex E,jG (cxLC X scope (clOf scope X.env) M C s H ex E) tg g)
    (ht:∀ C s H ex E,jTs (cxLC X scope (clOf scope X.env) M C s H ex E) ifs tt) (he:∀ C s H ex E,jE (cxLC X scope (clOf scope X.env) M C s H ex E) elt te) (hs:∀ x,foldedSetIterable iter X.env x=pure x:=by intro _; rfl)
    (hsw:swapsWith (.ListComp elt [⟨tg,iter,ifs,0⟩] scope pos) (some (.Name y py)) spos.line X.env=pure true:=by rfl)
    (hf:X.fn y=true\/X.env.scope.names.lookup y=some .local:=by first | exact .inl rfl | exact .inr rfl | assumption)
    (h1:closureFor scope X.env=pure (clOf scope X.env):=by with_unfolding_all rfl) (h2:scope.kind=.function:=by rfl) (h3:scope.names.all (fun y=>y.2 != .cell)=true:=by rfl) (h4:scope.names.all (fun y=>y.2 != .local || scope.names.lookup y.1 == some .local)=true:=by rfl)
    (h5:X.N.all (fun y=>scope.names.lookup y != some .local)=true:=by rfl) (h6:scope.names.all (fun p=>p.2 != .free || (((clOf scope X.env).lookup p.1).isSome && (X.env.kindOf p.1 == some .cell || X.env.kindOf p.1 == some .free)))=true:=by rfl) :
    jS X (.Assign [.Name y py] (.ListComp elt [⟨tg,iter,ifs,0⟩] scope pos) spos) (fun D σ H=>tLC wi g tt te M.length σ H fun v H1=>D.nx (σ.set i (some v)) H1) :=
  ⟨ps_comp M hN hi' hy hc hi.out (fun C s H ex E=>(hg C s H ex E).out) (fun C s H ex E=>(ht C s H ex E).out) (fun C s H ex E=>(he C s H ex E).out) hs hsw hf h1 h2 h3 h4 h5 h6⟩
theorem jo_add:jOp X (binaryOp .Add) (rI0 fun i j=>.int (i + j)):=⟨op_add⟩
theorem jo_sub:jOp X (binaryOp .Sub) (rI0 fun i j=>.int (i - j)):=⟨op_sub⟩
theorem jo_mul:jOp X (binaryOp .Mult) (rI CMul fun i j=>.int (i * j)):=⟨op_mul⟩
theorem jo_fdiv:jOp X (binaryOp .FloorDiv) (rI CDiv fun i j=>.int (i / j)):=⟨op_fdiv⟩
theorem jo_mod:jOp X (binaryOp .Mod) (rI (fun _ j=>0 < j) fun i j=>.int (i % j)):=⟨op_mod⟩
theorem jo_pow:jOp X (binaryOp .Pow) (rI CPow fun i j=>.int (i ^ j.toNat)):=⟨op_pow⟩
theorem jo_eq:jOp X (compareOp .Eq) rEq:=⟨op_eq⟩
theorem jo_ne:jOp X (compareOp .NotEq) rNe:=⟨op_ne⟩
theorem jo_lt:jOp X (compareOp .Lt) (rI0 fun i j=>.bl (decide (i < j))):=⟨op_lt⟩
theorem jo_gt:jOp X (compareOp .Gt) (rI0 fun i j=>.bl (decide (j < i))):=⟨op_gt⟩
theorem jo_ge:jOp X (compareOp .GtE) (rI0 fun i j=>.bl (decide (j<=i))):=⟨op_ge⟩
theorem jo_in_seq:jOp X (compareOp .In) (rIn X.K false):=⟨op_in_seq⟩
theorem jo_add_str:jOp X (binaryOp .Add) (fun x y H Q=>∃ i j,x=.str i/\y=.str j/\i.length + j.length<=sizeLine/\Q (.str (i ++ j)) H):=⟨op_add_str⟩
theorem jo_mul_str:jOp X (binaryOp .Mult) (fun x y H Q=>∃ z n,x=.str z/\y=.int n/\MulOk z n/\Q (.str (Txt.mul z n)) H):=⟨op_mul_str⟩
theorem jo_cat:jOp X (binaryOp .Add) rCat:=⟨op_cat⟩
theorem jx_list:jIx X (rIxL X.K):=⟨ix_list⟩
theorem jx_tup:jIx X (rIxT X.K):=⟨ix_tup⟩
theorem jx_str:jIx X rIxS:=⟨ix_str⟩
theorem jl_list:jSl X (rSlL X.K):=⟨sl_list⟩
theorem jm_append:jMt X "list.append" rAppend:=⟨mt_append⟩
theorem jm_pop:jMt X "list.pop" rPop:=⟨mt_pop⟩
theorem jm_extend:jMt X "list.extend" rExtend:=⟨mt_extend⟩
theorem jc_len_seq:jCa X (.builtin "len") (fun xs H Q=>∃ p ys,xs=[.ref p]/\(SqL X.K H p ys\/SqT X.K H p ys)/\Q (.int ys.length) H):=⟨call_len_seq⟩
theorem jc_isinst:jCa X (.builtin "isinstance") (fun xs H Q=>∃ x t T b,xs=[x,.ty T]/\TyOf X.K H x t/\PySem.W.kitOne X.K t (.type T)=some b/\Q (.bl b) H):=⟨call_isinst⟩
theorem jc_tuple_of:jCa X (.type "tuple") (fun xs H Q=>∃ p ys,xs=[.ref p]/\((SqL X.K H p ys/\∀ l,H l=none->Q (.ref l) (upd H l (.tup ys)))\/(SqT X.K H p ys/\Q (.ref p) H))):=⟨call_tuple_of⟩
theorem jc_list_of:jCa X (.type "list") (fun xs H Q=>∃ p ys,xs=[.ref p]/\(SqL X.K H p ys\/SqT X.K H p ys)/\∀ l,H l=none->Q (.ref l) (upd H l (.lst ys))):=⟨call_list_of⟩
end
section
variable {P:Program} {w:World} {K:PySem.W.Frag} {mg:Str->Option Value} {base:Heap}
theorem Fun.by {x qual:Str} {st:Stmt} {f:Addr} {fd:FuncData} {N ps:List Str} {k:Nat} {sp:Sp} (F:Fun K x qual st f fd) (S:FnScope N ps (defScope st)) (len:∀ vs H Q E,sp vs H Q E->vs.length=ps.length)
    (hbody:∀ (cdv:Value) (A:Around) (outer:List Env) (s:Shared) (H:Hp) (vs:List V) (Q:VK) (E:XK),Room k (A.deeper (envOfC qual (defScope st) s.heap.objs.size f cdv))->sp vs H Q E ->
      ∃ t,jSs (cxOf CX0 P w K mg base N qual (defScope st) f cdv A outer s H E).nox (defBody st) t/\t { nx:=fun _ H'=>Q .non H',rt:=Q } (start N vs) H):FnOk P w K mg base CX0 (k + 1) f fd ps sp :=
  F.ok S len fun cdv A outer s H vs Q E hr h=>let ⟨t,b,q⟩:=hbody cdv A outer s H vs Q E hr h; ⟨t,b.out,q⟩
end
end L2
namespace L2
open PySem
structure Mv (fs xs:List Addr) (h h':Heap):Prop where
  keep:∀ b o,h.get? b=some o->b ∉ fs->b ∉ xs->h'.get? b=some o
  slot:∀ b o,h.get? b=some o->b ∉ xs->∃ sl,h'.get? b=some { o with slots:=sl }
  there:∀ b o,h.get? b=some o->∃ o',h'.get? b=some o'
theorem Mv.refl {fs xs:List Addr} {h:Heap}:Mv fs xs h h:=⟨fun _ _ e _ _=>e,fun _ o e _=>⟨o.slots,e⟩,fun _ o e=>⟨o,e⟩⟩
theorem Mv.trans {fs xs:List Addr} {h h1 h2:Heap} (a:Mv fs xs h h1) (b:Mv fs xs h1 h2):Mv fs xs h h2 :=
  ⟨fun c o e f x=>b.keep c o (a.keep c o e f x) f x,fun c o e x=>let ⟨_,e1⟩:=a.slot c o e x; let ⟨sl,e2⟩:=b.slot c _ e1 x; ⟨sl,e2⟩,fun c o e=>let ⟨o1,e1⟩:=a.there c o e; b.there c o1 e1⟩
theorem Mv.mono {fs fs' xs xs':List Addr} {h h1:Heap} (a:Mv fs xs h h1) (hf:∀ b∈fs,b∈fs') (hx:∀ b∈xs,b∈xs'):Mv fs' xs' h h1 :=
  ⟨fun c o e f x=>a.keep c o e (fun z=>f (hf c z)) fun z=>x (hx c z),fun c o e x=>a.slot c o e fun z=>x (hx c z),a.there⟩
theorem Mv.of_keeps {fs xs:List Addr} {h h':Heap} (k:∀ b o,h.get? b=some o->h'.get? b=some o):Mv fs xs h h':=⟨fun b o e _ _=>k b o e,fun b o e _=>⟨o.slots,k b o e⟩,fun b o e=>⟨o,k b o e⟩⟩
structure Tr (h:Heap) (e:Addr) (C:Value) (dx:Option Addr) (T:Addr) (fl:Value):Prop where
  ex:∃ oe vs,h.get? e=some oe/\oe.cls=C/\oe.dict=dx/\oe.data=.fields vs/\vs[1]?=some (.ref T)/\vs[2]?=some .none
  tb:∃ ot ts,h.get? T=some ot/\ot.data=.fields ts/\ts[3]?=some fl
  ne:T≠e
theorem dict_mapFields (f:Array Value->Array Value) (o:Obj):(Obj.mapFields f o).dict=o.dict:=by
  unfold Obj.mapFields
  split <;> rfl
theorem frames_mem {h base:Heap} {l:List Env} (hl:h.FunFrames base l) {e:Addr} {oe:Obj} {vs:Array Value} (he:h.get? e=some oe) (hd:oe.data=.fields vs):e ∉ l.filterMap (·.frame):=fun z=>by
  obtain ⟨_,o,ho,nf⟩:=hl.mem z
  rw [he] at ho
  cases ho
  exact nf vs hd
section
variable {M:Model} {A:Around} {E:Value->Shared->Prop} {s:Shared} {base:Heap} {env:Env} {outer:List Env} {L e T:Addr} {C:Value} {dx:Option Addr} {Q:Unit->Shared->Prop}
theorem fly_entry {oe:Obj} {vs:Array Value} {head:Value} {had:Bool} (hfr:A.frames=some (env :: outer)) (hl:s.heap.FunFrames base (env :: outer)) (hf:env.frame=some L)
    (he:s.heap.get? e=some oe) (hd:oe.data=.fields vs) (hsz:1 < vs.size) (hz2:vs[2]?=some .none)
    (hq:∀ h' T,s.heap.objs.size<=T->Tr h' e oe.cls oe.dict T (rawInt L)->Mv ((env :: outer).filterMap (·.frame)) [e] s.heap h'->Q () { s with heap:=h' }) :
    wpAny M A (do let a <- frameOf env; let pl <- entryPlaceOf L had; let b <- EntryCells.newEntry head a .none (rawInt L) .none pl; setField (.ref e) 1 b) Q E s:=by
  have nf:=frames_mem hl he hd
  refine wpAny_bind (wpAny_frameOf_fun hfr hl hf fun h1 s1=>wpAny_bind (wpAny_entryPlaceOf fun pl hp=>?_))
  unfold EntryCells.newEntry newFields
  refine wpAny_bind (wpAny_newObj_type ?_ (by exact hp.sizeOk5 _ _ _ _ _))
  have e1:h1.get? e=some oe:=(s1.2.1 e nf).trans he
  have ne:h1.objs.size≠e:=Nat.ne_of_gt (Heap.lt_size e1)
  generalize ho:({ cls:=.type "traceback",dict:=none,data:=.fields ([head,.ref L,.none,rawInt L,.none] ++ (if pl.isEmpty then List.replicate 6 Value.none else pl)).toArray }:Obj)=ob
  have t3:∃ ts,ob.data=.fields ts/\ts[3]?=some (rawInt L):=by
    subst ho
    refine ⟨_,rfl,?_⟩
    simp
  have fr:ob.isFreed=false:=by
    obtain ⟨ts,q,_⟩:=t3
    exact Obj.isFreed_of_fields q
  have e2:=Heap.get?_push_of_some (h:=h1) ob e1
  refine wpAny_setField e2 hd hsz (hq _ h1.objs.size (Nat.le_of_eq s1.1.symm) ⟨?_,?_,ne⟩ ⟨fun b o q f x=>?_,fun b o q x=>?_,fun b o q=>?_⟩)
  · exact ⟨_,_,Heap.get?_update_self _ e2 (Obj.isFreed_of_fields (Obj.data_mapFields hd _)),Obj.cls_mapFields _ _,dict_mapFields _ _,Obj.data_mapFields hd _,by simp [hsz],by simp [hz2]⟩
  · obtain ⟨ts,q1,q2⟩:=t3
    exact ⟨ob,ts,(Heap.get?_update_other _ _ (Ne.symm ne)).trans (Heap.get?_push_size _ fr),q1,q2⟩
  · rw [Heap.get?_update_other _ _ (fun z=>x (by simp [z]))]
    exact Heap.get?_push_of_some _ ((s1.2.1 b f).trans q)
  · obtain ⟨sl,q1⟩:=s1.2.2 b o q
    exact ⟨sl,by rw [Heap.get?_update_other _ _ (fun z=>x (by simp [z]))]; exact Heap.get?_push_of_some _ q1⟩
  · obtain ⟨sl,q1⟩:=s1.2.2 b o q
    by_cases z:b=e
    · subst z
      exact ⟨_,Heap.get?_update_self _ e2 (Obj.isFreed_of_fields (Obj.data_mapFields hd _))⟩
    · exact ⟨_,by rw [Heap.get?_update_other _ _ (Ne.symm z)]; exact Heap.get?_push_of_some _ q1⟩
theorem fly_first {oe:Obj} {vs:Array Value} (hfr:A.frames=some (env :: outer)) (hl:s.heap.FunFrames base (env :: outer)) (hf:env.frame=some L)
    (he:s.heap.get? e=some oe) (hd:oe.data=.fields vs) (h1:vs[1]?=some .none) (hz2:vs[2]?=some .none)
    (hq:∀ h' T,s.heap.objs.size<=T->Tr h' e oe.cls oe.dict T (rawInt L)->Mv ((env :: outer).filterMap (·.frame)) [e] s.heap h'->Q () { s with heap:=h' }) :
    wpAny M A (noteFrame (.ref e) env) Q E s:=by
  unfold noteFrame
  simp only [hf]
  refine wpAny_bind (wpAny_field he hd h1 ?_)
  rw [if_neg (by decide:¬ ((Value.none != Value.none)=true))]
  exact fly_entry hfr hl hf he hd (Array.getElem?_eq_some_iff.mp h1).1 hz2 hq
theorem fly_set {fl:Value} {v:Option Addr} (t:Tr s.heap e C dx T fl) (hq:∀ h',Tr h' e C dx T (v.elim .none fun f=>rawInt f)->Mv [] [T] s.heap h'->Q () { s with heap:=h' }) :
    wpAny M A (setFlight (.ref e) v) Q E s:=by
  obtain ⟨⟨oe,vs,he,hc,hx,hd,h1,hz2⟩,⟨ot,ts,ht,hdt,h3⟩,ne⟩:=t
  unfold setFlight
  refine wpAny_bind (wpAny_field he hd h1 ?_)
  rw [if_pos (by simp:(Value.ref T != Value.none)=true)]
  have up:=Heap.get?_update_self (Obj.mapFields (·.setIfInBounds 3 (v.elim .none fun f=>rawInt f))) ht (Obj.isFreed_of_fields (Obj.data_mapFields hdt _))
  refine wpAny_setField ht hdt (Array.getElem?_eq_some_iff.mp h3).1 (hq _ ⟨⟨oe,vs,(Heap.get?_update_other _ _ ne).trans he,hc,hx,hd,h1,hz2⟩,⟨_,_,up,Obj.data_mapFields hdt _,?_⟩,ne⟩ ⟨fun b o q _ x=>?_,fun b o q x=>⟨o.slots,?_⟩,fun b o q=>?_⟩)
  · simp [(Array.getElem?_eq_some_iff.mp h3).1]
  · exact (Heap.get?_update_other _ _ (fun z=>x (by simp [z]))).trans q
  · exact (Heap.get?_update_other _ _ (fun z=>x (by simp [z]))).trans q
  · by_cases z:b=T
    · subst z
      exact ⟨_,up⟩
    · exact ⟨o,(Heap.get?_update_other _ _ (Ne.symm z)).trans q⟩
theorem fly_next (hfr:A.frames=some (env :: outer)) (hl:s.heap.FunFrames base (env :: outer)) (hf:env.frame=some L) (t:Tr s.heap e C dx T .none)
    (hq:∀ h' T',s.heap.objs.size<=T'->Tr h' e C dx T' (rawInt L)->Mv ((env :: outer).filterMap (·.frame)) [e,T] s.heap h'->Q () { s with heap:=h' }) :
    wpAny M A (noteFrame (.ref e) env) Q E s:=by
  obtain ⟨⟨oe,vs,he,hc,hx,hd,h1,hz2⟩,⟨ot,ts,ht,hdt,h3⟩,ne⟩:=t
  subst hc
  subst hx
  unfold noteFrame
  simp only [hf]
  refine wpAny_bind (wpAny_field he hd h1 ?_)
  rw [if_pos (by simp:(Value.ref T != Value.none)=true)]
  refine wpAny_bind (wpAny_field ht hdt h3 ?_)
  rw [if_neg (by simp [rawInt]:¬ ((Value.none == rawInt L)=true))]
  have up:=Heap.get?_update_self (Obj.mapFields (·.setIfInBounds 3 .none)) ht (Obj.isFreed_of_fields (Obj.data_mapFields hdt _))
  have k:∀ b o,b≠T->s.heap.get? b=some o->(s.heap.update T (Obj.mapFields (·.setIfInBounds 3 .none))).get? b=some o:=fun b o z q=>(Heap.get?_update_other _ _ (Ne.symm z)).trans q
  refine wpAny_bind (wpAny_setField ht hdt (Array.getElem?_eq_some_iff.mp h3).1 ?_)
  refine fly_entry (base:=base) hfr (hl.of_keeps fun b o q nf=>⟨o,k b o (fun z=>?_) q,rfl⟩) hf (k e oe (Ne.symm ne) he) hd (Array.getElem?_eq_some_iff.mp h1).1 hz2 fun h' T' hs t m=>hq h' T' ?_ t ⟨fun b o q f x=>?_,fun b o q x=>?_,fun b o q=>?_⟩
  · rw [z,ht] at q
    cases q
    exact nf ts hdt
  · rw [Heap.size_after_update] at hs
    exact hs
  · exact m.keep b o (k b o (fun z=>x (by simp [z])) q) f fun z=>x (by simp at z; simp [z])
  · exact m.slot b o (k b o (fun z=>x (by simp [z])) q) fun z=>x (by simp at z; simp [z])
  · by_cases z:b=T
    · subst z
      exact m.there b _ up
    · exact m.there b o (k b o z q)
end
end L2
namespace L2
open PySem PySem.Spec PyProof.Rows
theorem HOk.moved {P:Program} {w:World} {H:Hp} {h h':Heap} {fs xs:List Addr} (x:HOk P w H h) (m:Mv fs xs h h') (hf:∀ b∈fs,H b=none) (hx:∀ b∈xs,H b=none):HOk P w H h':=fun a o e =>
  (x a o e).stay (fun b u hb q=>m.keep b u q (fun z=>by
      have n:=hf b z
      rcases hb with r | r
      · rw [r,e] at n
        cases n
      · rw [r] at n
        cases n) fun z=>by
      have n:=hx b z
      rcases hb with r | r
      · rw [r,e] at n
        cases n
      · rw [r] at n
        cases n) (fun _ q=>q) fun _ _ q=>q
def CXf (P:Program) (w:World):CXT:=fun outer H s E u s'=>∃ (e T:Addr) (C:Value) (dx:Option Addr) (H':Hp),u=.ref e/\s'.os=s.os/\AllBare s'.gens/\Un (frs outer) [] H H' s.heap s'.heap/\HOk P w H' s'.heap /\
  Tr s'.heap e C dx T .none/\(s.heap.objs.size<=e/\s.heap.objs.size<=T)/\(H' e=none/\H' T=none)/\E C dx H'
def Fl (h:Heap) (H:Hp) (n:Nat) (e:Addr) (C:Value) (dx:Option Addr):Prop :=
  (∃ oe vs,h.get? e=some oe/\oe.cls=C/\oe.dict=dx/\oe.data=.fields vs/\vs[1]?=some .none/\vs[2]?=some .none)\/∃ T,Tr h e C dx T .none/\H T=none/\n<=T
def Air (X:Cx) (pins:List (Addr × Obj)) (σ:St) (E:XK) (u:Value) (s':Shared):Prop:=∃ (e:Addr) (C:Value) (dx:Option Addr) (H':Hp) (n:Nat),u=.ref e/\Inv X pins σ H' s'/\H' e=none/\X.s₀.heap.objs.size<=n/\n<=e/\(∀ p∈X.pn ++ pins,p.1 < n)/\Fl s'.heap H' n e C dx/\E C dx H'
section
variable {P:Program} {w:World} {K:PySem.W.Frag} {mg:Str->Option Value} {base:Heap} {N:List Str} {qual:Str} {scope:Scope} {f:Addr} {cd:Value} {A:Around} {outer:List Env} {s:Shared} {H:Hp} {E:XK}
theorem leave_air {pins:List (Addr × Obj)} {σ:St} {u:Value} {s':Shared} (h:Air (cxOf (CXf P w) P w K mg base N qual scope f cd A outer s H E) pins σ E u s'):(cxOf (CXf P w) P w K mg base N qual scope f cd A outer s H E).xe u s':=by
  obtain ⟨e,C,dx,H',n,rfl,I,ne,hn,he,hp,st,hE⟩:=h
  have fin:∀ (h2:Heap) (T:Addr) (xs:List Addr),Tr h2 e C dx T .none->Mv (frs (cxOf (CXf P w) P w K mg base N qual scope f cd A outer s H E).stack) xs s'.heap h2->(∀ b∈xs,H' b=none/\s.heap.objs.size<=b)->H' T=none->s.heap.objs.size<=T ->
      CXf P w outer H s E (.ref e) { s' with heap:=h2 }:=by
    intro h2 T xs t m hx nT sT
    have nst:∀ (b:Addr) (o:Obj),s.heap.get? b=some o->b ∉ frs outer->b ∉ frs (cxOf (CXf P w) P w K mg base N qual scope f cd A outer s H E).stack:=fun b o q nb z=>by
      rcases List.mem_cons.mp (I.stkSub b z) with r | r
      · exact absurd (show b=(cxOf (CXf P w) P w K mg base N qual scope f cd A outer s H E).env.locals from r) (Nat.ne_of_lt (Nat.lt_of_lt_of_le (Heap.lt_size q) I.ok.above))
      · exact nb r
    have nx:∀ (b:Addr) (o:Obj),s.heap.get? b=some o->b ∉ xs:=fun b o q z=>absurd (Nat.lt_of_lt_of_le (Heap.lt_size q) (hx b z).2) (Nat.lt_irrefl _)
    have B:Un (frs outer) [] H H' s.heap s'.heap:=I.base
    refine ⟨e,T,C,dx,H',rfl,I.os,I.bare,⟨fun b o q n hb hx=>?_,fun b o q n hb hx=>?_,B.free,fun b o q hx=>?_,B.tups,B.frzs,B.tbls⟩,I.hok.moved m I.stkFree fun b hb=>(hx b hb).1,t,⟨Nat.le_trans hn he,sT⟩,⟨ne,nT⟩,hE⟩
    · exact m.keep b o (B.keep b o q n hb hx) (nst b o q hb) (nx b o q)
    · obtain ⟨sl,q1⟩:=B.slot b o q n hb hx
      obtain ⟨sl2,q2⟩:=m.slot b _ q1 (nx b o q)
      exact ⟨sl2,q2⟩
    · obtain ⟨o1,q1⟩:=B.there b o q hx
      exact m.there b o1 q1
  show wpAny (model P w) _ (leaving _ (.ref e)) _ _ s'
  unfold leaving
  rcases st with ⟨oe,vs,h1,rfl,rfl,h4,h5,h6⟩ | ⟨T0,t0,n0,s0⟩
  · refine wpAny_bind (fly_first I.ok.frames I.stack rfl h1 h4 h5 h6 fun h' T hs t m=>fly_set t fun h2 t2 m2=>?_)
    refine fin h2 T [e,T] t2 ((m.mono (fun _ z=>z) fun b z=>?_).trans (m2.mono (fun b z=>nomatch z) fun b z=>?_)) (fun b hb=>?_) (I.hok.fresh hs) (Nat.le_trans I.sz hs)
    · simp at z
      simp [z]
    · simp at z
      simp [z]
    · rcases List.mem_cons.mp hb with r | hb
      · rw [r]
        exact ⟨ne,Nat.le_trans hn he⟩
      · rw [List.mem_singleton.mp hb]
        exact ⟨I.hok.fresh hs,Nat.le_trans I.sz hs⟩
  · refine wpAny_bind (fly_next I.ok.frames I.stack rfl t0 fun h' T hs t m=>fly_set t fun h2 t2 m2=>?_)
    refine fin h2 T [e,T0,T] t2 ((m.mono (fun _ z=>z) fun b z=>?_).trans (m2.mono (fun b z=>nomatch z) fun b z=>?_)) (fun b hb=>?_) (I.hok.fresh hs) (Nat.le_trans I.sz hs)
    · simp at z
      rcases z with z | z <;> simp [z]
    · simp at z
      simp [z]
    · rcases List.mem_cons.mp hb with r | hb
      · rw [r]
        exact ⟨ne,Nat.le_trans hn he⟩
      · rcases List.mem_cons.mp hb with r | hb
        · rw [r]
          exact ⟨n0,Nat.le_trans hn s0⟩
        · rw [List.mem_singleton.mp hb]
          exact ⟨I.hok.fresh hs,Nat.le_trans I.sz hs⟩
theorem air_of {X:Cx} {pins:List (Addr × Obj)} {σ:St} {H1:Hp} {s1 s2:Shared} {u:Value} {E':XK} (hP:X.prog=P) (hw:X.w=w) (I:Inv X pins σ H1 s1) (h:CXf P w X.stack H1 s1 E' u s2):Air X pins σ E' u s2:=by
  obtain ⟨e,T,C,dx,H',rfl,os,bare,un,hok,t,⟨se,sT⟩,⟨ne,nT⟩,hE⟩:=h
  have I2:Inv X pins σ H' s2:=I.call' (ch:=[]) os un (by rw [hP,hw]; exact hok) bare (fun b z=>absurd z (by simp))
  exact ⟨e,C,dx,H',s1.heap.objs.size,rfl,I2,ne,I.sz,se,fun p hp=>Heap.lt_size (I.pin p hp).1,.inr ⟨T,t,nT,sT⟩,hE⟩
theorem passx:Passes (CXf P w) (cxOf (CXf P w) P w K mg base N qual scope f cd A outer s H E) E:=fun pins σ H1 s1 u s2 I h=>leave_air (air_of rfl rfl I h)
theorem ownx:PassesOwn (model P w) (cxOf (CXf P w) P w K mg base N qual scope f cd A outer s H E).A (cxOf (CXf P w) P w K mg base N qual scope f cd A outer s H E).env (cxOf (CXf P w) P w K mg base N qual scope f cd A outer s H E).xe:=PassesOwn.leaving
theorem FnOk.upx {k:Nat} {fd:FuncData} {ps:List Str} {sp:Sp} {CX:CXT} (F:FnOk P w K mg base CX0 k f fd ps sp):FnOk P w K mg base CX k f fd ps sp :=
  ⟨F.len,fun A outer s H args us vs Q E hr he hb hv hs=>codeAny_mono (F.run A outer s H args us vs Q E hr he hb hv hs) fun r s' q=>by
    cases r with
    | error e=>exact False.elim q
    | ok fl =>
      cases fl with
      | ret u=>exact q
      | next=>exact False.elim q
      | brk=>exact False.elim q
      | cont=>exact False.elim q⟩
theorem Fun.byx {x:Str} {st:Stmt} {fd:FuncData} {ps:List Str} {k:Nat} {sp:Sp} (F:Fun K x qual st f fd) (S:FnScope N ps (defScope st)) (len:∀ vs H Q E,sp vs H Q E->vs.length=ps.length)
    (hbody:∀ (cdv:Value) (A:Around) (outer:List Env) (s:Shared) (H:Hp) (vs:List V) (Q:VK) (E:XK),Room k (A.deeper (envOfC qual (defScope st) s.heap.objs.size f cdv))->sp vs H Q E ->
      ∃ t,jSs (cxOf (CXf P w) P w K mg base N qual (defScope st) f cdv A outer s H E) (defBody st) t/\t { nx:=fun _ H'=>Q .non H',rt:=Q } (start N vs) H):FnOk P w K mg base (CXf P w) (k + 1) f fd ps sp:=by
  obtain ⟨oc,od,kV,doc,pm,an,cdv,ct,osl,rfl,lk,hcd⟩:=F.ex
  refine fn_of lk hcd S len fun A outer s H vs Q E hr hsp=>?_
  obtain ⟨t,h,q⟩:=hbody cdv A outer s H vs Q E hr hsp
  exact ⟨t,h.out,q⟩
end
end L2
namespace L2
open PySem
section
variable {M:Model} {A:Around} {E:Value->Shared->Prop} {env:Env} {nm q:Str} {C N:Addr} {bs bm:List Value} {hdct:Bool} {sn:List Str} {sub:List Value} {ab:Bool} {col:Option Bool} {dd:Option Addr} {k0 k1 k2 k3 k5:Option Value} {newId:String}
theorem rs_stmt {s:Shared} {x:Sem Value} {Q:Flow->Shared->Prop} (hb:bm.contains (.type "BaseException")=true) (hh:A.handled=none)
    (h:wpAny M A x (fun v s1=>∃ e oe vs,v=.ref e/\s1.heap.get? C=some (excClassObj nm q C N bs bm hdct sn sub ab col dd k0 k1 k2 k3 k5 newId)/\s1.heap.get? e=some oe/\oe.cls=.ref C/\oe.data=.fields vs/\vs[1]?=some .none/\E (.ref e) s1) E s) :
    wpAny M A (raiseStmt env (some x) none) Q E s:=by
  have cB:(Value.ref C :: bm).contains (.type "BaseException")=true:=by rw [List.contains_cons,hb,Bool.or_true]
  unfold raiseStmt
  refine wpAny_bind (wpAny_mono h (fun v s1 h1=>?_) fun _ _ x=>x)
  obtain ⟨e,⟨c,d0,dt,sl⟩,vs,rfl,hC,he,hc,hd,hv,hE⟩:=h1
  dsimp only at hc hd
  subst hc hd
  obtain ⟨hp,g,d,tk,os⟩:=s1
  repeat (first | (with_reducible refine wpAny_field he rfl hv ?_) | with_reducible refine wpAny_loadPart_at he ?_ | with_reducible refine wpAny_loadPart_at hC ?_ | (with_reducible refine wpAny_isSubtype_exc hC ?_; rw [cB]) | wp_step)
  exact wpAny_raiseNew_none hh hE
end
theorem fn_bind {M:Model} {A:Around} {E:Value->Shared->Prop} {s:Shared} {f:Addr} {ob:Obj} {self:Value} {Q:Value × List Value->Shared->Prop} (h1:s.heap.get? f=some ob) (h2:ob.cls=.type "function") (q:Q (.ref f,[self]) s):wpAny M A (bindSpecial (.ref f) self) Q E s:=by
  unfold bindSpecial
  refine wpAny_bind (wpAny_typeOf (T:="function") ⟨ob,h1,h2⟩ ?_)
  exact wpAny_pure q
abbrev tupOf (rest:List Value):Obj:={ cls:=.type "tuple",data:=.seq rest.toArray }
abbrev excOf (C t:Addr):Obj:={ cls:=.ref C,data:=.fields #[.ref t,.none,.none,.none,.bool false,.none] }
section
variable {prog:Program} {w:World} {A:Around} {E:Value->Shared->Prop} {h:Heap} {g:Array GenState} {d:Drawn} {t:Nat} {os:OsState}
variable {nm q:Str} {C N f:Addr} {bs bm bmB:List Value} {hdct:Bool} {sn:List Str} {sub:List Value} {ab:Bool} {col:Option Bool} {dd:Option Addr} {k0 k1 k2 k3 k5:Option Value} {B Bn newId nid initId inN:String} {bmN:List Value}
theorem ex_typeCall (Fn:ExcBaseFacts Bn newId inN bmN) (hBn:bmB.contains (.type Bn)=true) (F:ExcBaseFacts B nid initId bmB) (T:OwnTail h bmB bm) {mN:Str->Option Value} {rest:List Value} {Q:Fin->Shared->Prop} {ob:Obj}
    (hC:h.get? C=some (excClassObj nm q C N bs bm hdct sn sub ab col dd k0 k1 k2 k3 k5 newId)) (hn:h.Ns N mN) (hi:mN "__init__"=some (.ref f)) (hf:h.get? f=some ob) (hfc:ob.cls=.type "function") (hrest:rest.length<=sizeLine)
    (hq:wpAny (model prog w) A (call (.ref f) (.ref (h.objs.size + 1) :: rest)) (fun v s'=>v=.none/\Q (.done (.ret (.ref (h.objs.size + 1)))) s') E ⟨(h.push (tupOf rest)).push (excOf C h.objs.size),g,d,t,os⟩) :
    wpAny (model prog w) A (Builtin.«type.__call__» ⟨.ref C :: rest,[]⟩) Q E ⟨h,g,d,t,os⟩:=by
  repeat (first | with_reducible refine wpAny_madeBy_exc hC ?_ | with_reducible refine wpAny_loadPart_at hC ?_ | wp_step)
  refine codeAny_call_builtin_code (Code.quiet_builtin _ Fn.quiet) (wpAny_check_new_subU Fn hBn T hC (codeAny_exc_new_subU Fn hBn F T hC ?_ hrest))
  show wpAny _ _ _ _ _ _
  have k:∀ b o,h.get? b=some o->((h.push (tupOf rest)).push (excOf C h.objs.size)).get? b=some o:=fun b o e=>Heap.get?_push_of_some _ (Heap.get?_push_of_some _ e)
  have C1:=k _ _ hC
  have e1:((h.push (tupOf rest)).push (excOf C h.objs.size)).get? (h.objs.size + 1)=some (excOf C h.objs.size):=Heap.get?_push_at (by simp only [Heap.size_push]) rfl
  have cC:(Value.ref C :: bm).contains (.ref C)=true:=by simp
  unfold isInstance
  repeat (first | with_reducible refine wpAny_loadPart_at e1 ?_ | (with_reducible refine wpAny_isSubtype_exc C1 ?_; rw [cC]) | wp_step)
  show wpAny _ _ (typeLookup (.ref C) _) _ _ _
  refine wpAny_typeLookup_tail C1 (hn.keeps k) (T.keeps k) F.mroIs F.init.lookup ?_
  rw [hi]
  refine wpAny_holding (wpAny_bind (fn_bind (k _ _ hf) hfc ?_))
  refine wpAny_bind (wpAny_mono hq (fun v s' hv=>?_) fun _ _ x=>x)
  obtain ⟨rfl,hv⟩:=hv
  exact wpAny_pure (wpAny_pure hv)
theorem ex_call (Fn:ExcBaseFacts Bn newId inN bmN) (hBn:bmB.contains (.type Bn)=true) (F:ExcBaseFacts B nid initId bmB) (T:OwnTail h bmB bm) {mN:Str->Option Value} {rest:List Value} {Q:Value->Shared->Prop} {ob:Obj}
    (hC:h.get? C=some (excClassObj nm q C N bs bm hdct sn sub ab col dd k0 k1 k2 k3 k5 newId)) (hn:h.Ns N mN) (hi:mN "__init__"=some (.ref f)) (hf:h.get? f=some ob) (hfc:ob.cls=.type "function") (hrest:rest.length<=sizeLine)
    (hq:wpAny (model prog w) (A.under (.builtin "type.__call__" ⟨.ref C :: rest,[]⟩)) (call (.ref f) (.ref (h.objs.size + 1) :: rest)) (fun v s'=>v=.none/\Q (.ref (h.objs.size + 1)) s') E ⟨(h.push (tupOf rest)).push (excOf C h.objs.size),g,d,t,os⟩) :
    wpAny (model prog w) A (call (.ref C) rest) Q E ⟨h,g,d,t,os⟩:=by
  have f1:=tc_lookup
  have f2:=tc_bind (.ref C)
  have hT:(⟨h,g,d,t,os⟩:Shared).TypeIs (.ref C) "type":=⟨_,hC,rfl⟩
  refine wpAny_call (codeAny_of_tree ?_)
  show wpAny _ _ (callAny (.ref C) ⟨rest,[]⟩) _ _ _
  repeat (any_goals (first | assumption | (with_reducible refine wpAny_loadPart_at hC ?_) | wp_step))
  refine ⟨rfl,codeAny_call_builtin_at (Code.quiet_builtin _ (by decide +kernel)) entry_typeCall (wpAny_check_type_call_sub hC ?_)⟩
  exact ex_typeCall Fn hBn F T hC hn hi hf hfc hrest hq
theorem ex_init (F:ExcBaseFacts B nid initId bmB) (T:OwnTail h bmB bm) {e t0:Addr} {oe:Obj} {vs:Array Value} {rest:List Value} {Q:Value->Shared->Prop}
    (hC:h.get? C=some (excClassObj nm q C N bs bm hdct sn sub ab col dd k0 k1 k2 k3 k5 newId)) (he:h.get? e=some oe) (hc:oe.cls=.ref C) (hd:oe.data=.fields vs) (h0:vs[0]?=some (.ref t0)) (hrest:rest.length<=sizeLine)
    (hq:Q .none ⟨(h.push (tupOf rest)).update e (Obj.mapFields (·.setIfInBounds 0 (.ref h.objs.size))),g,d,t,os⟩) :
    wpAny (model prog w) A (call (.builtin initId) (.ref e :: rest)) Q E ⟨h,g,d,t,os⟩:=by
  refine wpAny_call (codeAny_call_builtin F.init.plain F.initEntry (wpAny_check_init_subU F T hC he hc ?_))
  unfold Builtin.«BaseException.__init__»
  dsimp only
  rw [if_neg (by simp:¬ ((!List.isEmpty ([]:List (Str × Value)))=true))]
  unfold newTuple Builtin.BaseException.bexcPut
  have e1:=Heap.get?_push_of_some (h:=h) (tupOf rest) he
  refine wpAny_bind (wpAny_newObj_type ?_ (by show rest.toArray.size<=sizeLine; rw [List.size_toArray]; exact hrest))
  refine wpAny_bind (wpAny_bind (wpAny_field e1 hd h0 (wpAny_bind (wpAny_setField e1 hd (Array.getElem?_eq_some_iff.mp h0).1 ?_))))
  exact wpAny_letGo (wpAny_pure hq)
end
end L2
namespace L2
open PySem PySem.W PySem.Calls PyProof.Rows Builtin Builtin.ObjectAttr
def bmV:List Value:=[.type "ValueError",.type "Exception",.type "BaseException",.type "object"]
theorem refuse_V (self:Value):refuseLoop self "__setattr__" bmV=pure ():=by kernel_rfl
def overV:List Value->Bool
  | []=>false
  | v :: r=>(v :: r) == bmV || (match v with
    | .ref _=>overV r
    | _=>false)
theorem refuse_over (self:Value):∀ {l:List Value},overV l=true->refuseLoop self "__setattr__" l=pure ()
  | [],e=>by cases e
  | v :: r,e=>by
    unfold overV at e
    rcases Bool.or_eq_true_iff.mp e with q | q
    · rw [beq_iff_eq.mp q]
      exact refuse_V self
    · split at q
      · rw [refuseLoop_ref]
        exact refuse_over self q
      · cases q
theorem over_has:∀ {l:List Value},overV l=true->l.contains (.type "object")=true/\l.isEmpty=false
  | [],e=>by cases e
  | v :: r,e=>by
    unfold overV at e
    rcases Bool.or_eq_true_iff.mp e with q | q
    · rw [beq_iff_eq.mp q]
      exact ⟨by decide,rfl⟩
    · split at q
      · exact ⟨by rw [List.contains_cons,(over_has q).1,Bool.or_true],rfl⟩
      · cases q
def overIn (K:Frag) (C:Addr):Bool:=(clsIn K C).any fun cd=>overV cd.mro
section
variable {prog:Program} {w:World} {A:Around} {E:Value->Shared->Prop} {K:Frag} {C e:Addr} {s:Shared} {ox:Obj} {od:Option Obj} {name:Str} {R:Result->Shared->Prop}
theorem xa_open {tk:Tok} {v:Value} (X:K.In s.heap) (I:InstAt s.heap e ox C od) (hp:overIn K C=true) (ht:takerIn K C name=some none)
    (h:∀ b,wpAny (model prog w) A.in1 (storeInOwnDict (.ref e) (.ref C) (.str name tk) name v b) (fun fin s'=>match fin with | .done f=>R (.ok f) s' | .again c'=>c'.quiet=true/\codeAny (model prog w) A c' R s') (fun u s'=>R (.error u) s') s) :
    codeAny (model prog w) A (.call (.builtin "object.__setattr__") ⟨[.ref e,.str name tk,v],[]⟩) R s:=by
  have SF:=PySem.F.store_object
  obtain ⟨cd,hc,ho⟩:=any_some hp
  have hm:Looks (model prog w) s.heap (mroOf (.ref C)) cd.mro:=(looks_clsIn X hc).andThen .now
  have sub:Looks (model prog w) s.heap (isInstance (.ref e) (.type "object")) true:=I.type.andThen (looks_mroIn X (by unfold mroIn; rw [hc,Option.bind_some,if_neg (by rw [(over_has ho).2]; decide),(over_has ho).1]))
  obtain ⟨attr,ha,hr⟩:=Option.bind_eq_some_iff.mp ht
  have tk3:Looks (model prog w) s.heap (storeTaker? attr) none:=by
    cases attr with
    | none=>exact .now
    | some a =>
      obtain ⟨b,hb,hn⟩:=Option.map_eq_some_iff.mp hr
      refine (looks_takesIn X hb).andThen ?_
      cases b
      · exact .now
      · cases hn
  refine codeAny_call_builtin SF.slot.plain SF.entry (@check_slot (model prog w) _ _ s "object.__setattr__" "object" "__setattr__" (.ref e) [.str name tk,v] [] _ SF.kind SF.split sub (SF.args (.ref e) (.str name tk) v) ?_)
  rw [osa_eq,refuse_eq]
  refine wpAny_bind (wpAny_bind (I.type.here (wpAny_bind (hm.here ?_))))
  rw [refuse_over _ ho]
  exact wpAny_pure (wpAny_bind (I.type.here (wpAny_bind ((looks_findIn X ha).here (wpAny_bind (tk3.here (h _)))))))
theorem xs_new {oe:Obj} {vs:Array Value} {v:Value} {Q:Unit->Shared->Prop} (X:K.In s.heap) (he:s.heap.get? e=some oe) (hc:oe.cls=.ref C) (hx:oe.dict=none) (hd:oe.data=.fields vs)
    (hs:findIn K (.ref C) "__setattr__"=some (some (.builtin "object.__setattr__"))) (hp:overIn K C=true) (ht:takerIn K C name=some none) (hh:(clsIn K C).any (·.hasDict)=true)
    (h:∀ h',h'.Ns1 s.heap.objs.size (fun y=>if y=name then some v else none)->h'.get? e=some { oe with dict:=some s.heap.objs.size }->(∀ b o,b≠e->s.heap.get? b=some o->h'.get? b=some o)->Q () { s with heap:=h',toks:=s.toks + 2 }) :
    wpAny (model prog w) A (setAttr (.ref e) name v) Q E s:=by
  have J:InstAt s.heap e oe C none:=⟨he,hc,by unfold notCls; rw [hd],by rw [hx]; trivial⟩
  refine set_plain X J hs (xa_open (s:={ s with toks:=s.toks + 1 }) X J hp ht fun b=>?_)
  obtain ⟨cd,hcd,hdd⟩:=any_some hh
  obtain ⟨oc,odi,oda,osl⟩:=oe
  dsimp only at hc hx hd
  subst hc hx hd
  refine wpAny_bind (wpAny_pure (wpAny_bind (wpAny_bind (wpAny_loadPart he (wpAny_bind (Looks.here (s:={ s with toks:=s.toks + 1 }) (looks_clsIn X hcd) ?_))))))
  rw [hdd]
  have e1:=Heap.get?_push_of_some (h:=s.heap) PySem.W.emptyDict he
  have ne:s.heap.objs.size≠e:=Nat.ne_of_gt (Heap.lt_size he)
  have d1:(s.heap.push PySem.W.emptyDict).get? s.heap.objs.size=some PySem.W.emptyDict:=Heap.get?_push_size _ rfl
  have d2:((s.heap.push PySem.W.emptyDict).update e fun o=>{ o with dict:=some s.heap.objs.size }).get? s.heap.objs.size=some PySem.W.emptyDict:=(Heap.get?_update_other _ _ (Ne.symm ne)).trans d1
  have e2:=Heap.get?_update_self (fun o=>{ o with dict:=some s.heap.objs.size }) e1 rfl
  have n2:((s.heap.push PySem.W.emptyDict).update e fun o=>{ o with dict:=some s.heap.objs.size }).Ns s.heap.objs.size (fun _=>none):=⟨PySem.W.emptyDict,#[],_,d2,rfl,(fun z hz=>absurd hz (by simp)),fun _=>rfl⟩
  show wpAny _ _ (alloc PySem.W.emptyDict >>= _) _ _ _
  refine wpAny_bind (wpAny_alloc (wpAny_bind (wpAny_update e1 ?_)))
  refine wpAny_pure (a:=some s.heap.objs.size) (wpAny_bind (wpAny_pure (wpAny_bind ?_)))
  refine wpAny_nsSet1 (Heap.Ns1.of_empty n2) fun h' hn hsb=>?_
  obtain ⟨oD,esD,epD,hoD,hdD,hcD⟩:=hn.count (PySem.Within.cons name v PySem.Within.nil)
  refine wpAny_bind (wpAny_lookBehind hoD (by rw [hdD]; exact pastItsLine_dict (Nat.le_trans hcD (by show 1<=sizeLine + 1; omega))) (wpAny_pure ?_))
  refine h h' hn ((hsb.2 _ (Ne.symm ne)).trans e2) fun b o nb q=>?_
  rw [hsb.2 b (Nat.ne_of_lt (Heap.lt_size q)),Heap.get?_update_other _ _ (Ne.symm nb)]
  exact Heap.get?_push_of_some _ q
theorem xg_slot:Slot "ValueError" "__getattribute__" "BaseException.__getattribute__":=PySem.F.attr_ValueError.ga
theorem xg_get {v:Value} {expr:Bool} {Q:Value->Shared->Prop} (X:K.In s.heap) (I:InstAt s.heap e ox C od) (hga:findIn K (.ref C) "__getattribute__"=some (some (.builtin "BaseException.__getattribute__"))) (hk:findIn K (.ref C) "__getattr__"=some none)
    (hb:subIn K (.ref C) (.type "BaseException")=some true) (hf:findObj K C od name=some (.value v)) (hh:handedIn v=true) (h:Q v { s with toks:=s.toks + 1 }):wpAny (model prog w) A (getAttr (.ref e) name expr) Q E s:=by
  have ty:=I.type (M:=model prog w)
  have fd:=looks_find (M:=model prog w) X I hf
  refine wpAny_bind (wpAny_mkText (wpAny_holding (wpAny_bind (ty _ _ _ _ (fun _ _ q=>q) (wpAny_bind (looks_findIn X hga _ _ _ _ (fun _ _ q=>q) ?_))))))
  dsimp only
  rw [show (onTheHeap (Value.ref C) && Value.builtin "BaseException.__getattribute__" == Value.builtin "object.__getattribute__")=false from by rw [show (Value.builtin "BaseException.__getattribute__" == Value.builtin "object.__getattribute__")=false from by decide +kernel,Bool.and_false],if_neg (by decide:¬ (false=true))]
  refine wpAny_bind ((looks_hook (mc:=.ref C) X (by rw [if_pos (show onTheHeap (.ref C)=true from rfl)]; exact hk)) _ _ _ _ (fun _ _ q=>q) (wpAny_bind (wpAny_attempt (wpAny_holding ?_))))
  unfold callGetattribute
  rw [show (expr && onTheHeap (Value.builtin "BaseException.__getattribute__"))=false from Bool.and_false _,if_neg (by decide:¬ (false=true))]
  unfold boundAndCalled
  rw [xg_slot.bind]
  refine wpAny_bind (wpAny_pure (wpAny_call (codeAny_call_builtin xg_slot.plain PySem.F.entry_bexc_ga ?_)))
  refine @check_slot (model prog w) _ _ { s with toks:=s.toks + 1 } "BaseException.__getattribute__" "BaseException" "__getattribute__" (.ref e) [.str name s.toks] [] _ (by decide +kernel) (by decide +kernel) (ty.andThen (looks_subIn X hb)) (PySem.F.args_bexc_ga (.ref e) (.str name s.toks)) ?_
  refine wpAny_bind (wpAny_pure (wpAny_bind (wpAny_pure (wpAny_bind (ty _ _ _ _ (fun _ _ q=>q) (wpAny_bind (fd _ _ _ _ (fun _ _ q=>q) ?_)))))))
  refine wpAny_pure ?_
  show wpAny _ _ (handedOut v) _ _ _
  rw [handedOut_of hh]
  exact wpAny_pure h
end
end L2
namespace L2
open PySem PySem.Spec PyProof.Rows
def XO (e C:Addr) (dx:Option Addr):HO:=.ext fun h=>∃ oe vs t0,h.get? e=some oe/\oe.cls=.ref C/\oe.dict=dx/\oe.data=.fields vs/\vs[0]?=some (.ref t0)/\vs[1]?=some .none/\vs[2]?=some .none
theorem XO.ok {P:Program} {w:World} {H:Hp} {h:Heap} {e C:Addr} {dx:Option Addr} (p:∃ oe vs t0,h.get? e=some oe/\oe.cls=.ref C/\oe.dict=dx/\oe.data=.fields vs/\vs[0]?=some (.ref t0)/\vs[1]?=some .none/\vs[2]?=some .none):ObjOk P w H h e (XO e C dx) :=
  ⟨p,let ⟨oe,_,_,q,_⟩:=p; ⟨oe,q⟩,fun _ _ ⟨oe,vs,t0,a,r⟩ k=>⟨oe,vs,t0,k oe a,r⟩⟩
theorem XO.get {P:Program} {w:World} {H:Hp} {h:Heap} {e C:Addr} {dx:Option Addr} (x:HOk P w H h) (q:H e=some (XO e C dx)):∃ oe vs t0,h.get? e=some oe/\oe.cls=.ref C/\oe.dict=dx/\oe.data=.fields vs/\vs[0]?=some (.ref t0)/\vs[1]?=some .none/\vs[2]?=some .none :=
  (show ObjOk P w H h e (.ext _) from x e _ q).1
def XD (d:Addr) (fs:List (Str × V)):HO:=.ext fun h=>∃ mA,h.Ns1 d mA/\(∀ f,RelO (fs.lookup f) (mA f))/\PySem.Within mA (fs.map (·.1))/\fs.length<=1000
theorem XD.ok {P:Program} {w:World} {H:Hp} {h:Heap} {d:Addr} {fs:List (Str × V)} (p:∃ mA,h.Ns1 d mA/\(∀ f,RelO (fs.lookup f) (mA f))/\PySem.Within mA (fs.map (·.1))/\fs.length<=1000):ObjOk P w H h d (XD d fs) :=
  ⟨p,let ⟨_,⟨o,_,_,q,_⟩,_⟩:=p; ⟨o,q⟩,fun _ _ ⟨mA,n,r⟩ k=>⟨mA,n.at k,r⟩⟩
theorem XD.get {P:Program} {w:World} {H:Hp} {h:Heap} {d:Addr} {fs:List (Str × V)} (x:HOk P w H h) (q:H d=some (XD d fs)):∃ mA,h.Ns1 d mA/\(∀ f,RelO (fs.lookup f) (mA f))/\PySem.Within mA (fs.map (·.1))/\fs.length<=1000 :=
  (show ObjOk P w H h d (.ext _) from x d _ q).1
def xIn (K:PySem.W.Frag) (C f:Addr):Bool:=match K.lookup C with
  | some ⟨.type "type",_,.cls cd,sl⟩=>(match cd.mro,sl.toList with
    | .ref C' :: bm,[_,_,_,_,some (.builtin n),_]=>C' == C && n == "ValueError.__new__" && !cd.hasDel && PySem.W.tailIn K bmV bm && PySem.W.nsOkIn K cd.ns && PySem.W.nsIn K cd.ns "__init__" == some (some (.ref f)) && bm.contains (.type "BaseException")
    | _,_=>false)
  | _=>false
structure XCl (K:PySem.W.Frag) (C f:Addr):Prop where
  cls:xIn K C f=true
  fn:PySem.W.typeIn K (.ref f)=some (.type "function")
  kp:PySem.W.keepIn K (.ref C)=true
  over:overIn K C=true
  sa:PySem.W.findIn K (.ref C) "__setattr__"=some (some (.builtin "object.__setattr__"))
  hd:(PySem.W.clsIn K C).any (·.hasDict)=true
  ga:PySem.W.findIn K (.ref C) "__getattribute__"=some (some (.builtin "BaseException.__getattribute__"))
  ha:PySem.W.findIn K (.ref C) "__getattr__"=some none
  sb:PySem.W.subIn K (.ref C) (.type "BaseException")=some true
theorem ns_some {K:PySem.W.Frag} {h:Heap} {N:Addr} {mg:Str->Option Value} {n:Str} {v:Value} (X:K.In h) (G:h.Ns N mg) (e:PySem.W.nsIn K N n=some (some v)):mg n=some v:=by
  obtain ⟨o,es,ep,ho,hd,_,hf⟩:=G
  unfold PySem.W.nsIn at e
  split at e
  · rename_i c d es' n' sl q
    have:=X _ _ q
    rw [ho] at this
    cases this
    cases hd
    split at e
    · rename_i en he
      cases e
      rw [<- hf]
      unfold nsFind findBy
      rw [<- Array.find?_toList,he]
      rfl
    · split at e <;> cases e
  · cases e
theorem XCl.at {K:PySem.W.Frag} {C f:Addr} (c:XCl K C f) {h:Heap} (X:K.In h):∃ nm q N bs bm hdct sn sub ab col dd k0 k1 k2 k3 k5 mN,h.get? C=some (excClassObj nm q C N bs bm hdct sn sub ab col dd k0 k1 k2 k3 k5 "ValueError.__new__") /\
    OwnTail h bmV bm/\h.Ns N mN/\mN "__init__"=some (.ref f)/\bm.contains (.type "BaseException")=true:=by
  have q:=c.cls
  unfold xIn at q
  split at q
  · rename_i dd cd sl ho
    split at q
    · rename_i C' bm k0 k1 k2 k3 n k5 hm hs
      simp only [Bool.and_eq_true,beq_iff_eq,Bool.not_eq_true'] at q
      obtain ⟨⟨⟨⟨⟨⟨rfl,rfl⟩,hdel⟩,ht⟩,hok⟩,hi⟩,hb⟩:=q
      obtain ⟨nm,bs,mro,ns,qn,hd,sn,sub,ab,col,del⟩:=cd
      dsimp only at hm hdel hok hi
      subst hm hdel
      have es:sl=#[k0,k1,k2,k3,some (.builtin "ValueError.__new__"),k5]:=by
        obtain ⟨l⟩:=sl
        simp only at hs
        rw [hs]
      subst es
      have nN:=PySem.Heap.Ns.of_isNs (PySem.W.isNs_of_in X hok)
      exact ⟨nm,qn,ns,bs,bm,hd,sn,sub,ab,col,dd,k0,k1,k2,k3,k5,_,X _ _ ho,PySem.W.tail_of_in X ht,nN,ns_some X nN hi,hb⟩
    · cases q
  · cases q
def drp (H:Hp) (e:Addr):Hp:=fun b=>if b=e then none else H b
theorem drp_same {H:Hp} {e:Addr}:drp H e e=none:=if_pos rfl
theorem drp_ne {H:Hp} {e b:Addr} (h:b≠e):drp H e b=H b:=if_neg h
theorem Inv.drop {X:Cx} {pins:List (Addr × Obj)} {σ:St} {H:Hp} {s:Shared} {e:Addr} {φ:Heap->Prop} (I:Inv X pins σ H s) (he:H e=some (.ext φ)):Inv X pins σ (drp H e) s:=by
  have no:∀ b,H b=none->drp H e b=none:=fun b h=>by
    by_cases q:b=e
    · rw [q]
      exact drp_same
    · rw [drp_ne q]
      exact h
  have nx:∀ (b:Addr) (o:HO),H b=some o->(∀ ψ,o≠.ext ψ)->drp H e b=some o:=fun b o h n=>by
    have q:b≠e:=fun z=>by
      rw [z,he] at h
      cases h
      exact n _ rfl
    rw [drp_ne q]
    exact h
  refine ⟨I.ok,I.os,I.bare,⟨I.base.keep,I.base.slot,fun b o q n x=>no b (I.base.free b o q n x),I.base.there,fun b xs q=>nx _ _ (I.base.tups b xs q) (by intro ψ z; cases z),fun b o u q=>nx _ _ (I.base.frzs b o u q) (by intro ψ z; cases z),fun b ps q=>?_⟩,I.loc,I.cell,no _ I.free,fun x c q=>no _ (I.freeC x c q),fun p hp=>?_,fun a o q=>?_,I.len⟩
  · obtain ⟨m,r⟩:=I.base.tbls b ps q
    exact ⟨m,nx _ _ r (by intro ψ z; cases z)⟩
  · obtain ⟨a,b,c⟩:=I.pin p hp
    exact ⟨a,no _ b,c⟩
  · have na:a≠e:=fun z=>by
      rw [z,drp_same] at q
      cases q
    rw [drp_ne na] at q
    exact (I.hok a o q).stay (fun _ _ _ z=>z) (fun b z=>nx b _ z (by intro ψ y; cases y)) fun b xs z=>nx b _ z (by intro ψ y; cases y)
def Throws (X:Cx) (E:XK):Prop:=∀ (pins:List (Addr × Obj)) (σ:St) (u:Value) (s':Shared),Air X pins σ E u s'->X.xe u s'
theorem throwx {P:Program} {w:World} {K:PySem.W.Frag} {mg:Str->Option Value} {base:Heap} {N:List Str} {qual:Str} {scope:Scope} {f:Addr} {cd:Value} {A:Around} {outer:List Env} {s:Shared} {H:Hp} {E:XK} :
    Throws (cxOf (CXf P w) P w K mg base N qual scope f cd A outer s H E) E:=fun _ _ _ _ h=>leave_air h
def tRaise (C:Addr) (sp:Sp) (E:XK) (t:TA):TS:=fun _ σ H=>t σ H fun vs H1=>vs.length<=sizeLine/\∀ e,H1 e=none->sp (.ref e :: vs) (upd H1 e (XO e C none)) (fun v H2=>v=.non/\∃ dx,H2 e=some (XO e C dx)/\E (.ref C) dx (drp H2 e)) E0
section
variable {X:Cx} {k:Nat} {f C:Addr} {fd:FuncData} {ps:List Str} {sp:Sp} {E:XK} {x:Str} {np cpos pos:Pos} {a:Expr} {as:List Expr} {t:TA}
theorem ps_raise (M:XCl X.K C f) (F:FnOk X.prog X.w X.K X.mg X.base CX0 k f fd ps sp) (hr:Room (k + 1) X.A) (hg:Gl X x) (hm:X.mg x=some (.ref C)) (hb:Binds X.K fd ps []) (hx:Throws X E)
    (ha:PA X (a :: as) t) (hdb:(x == ("__debug__":Str))=false:=by decide) (h1:isStar a=false:=by rfl) (h2:as.all (fun e=>!isStar e)=true:=by rfl) :
    PS X (.Raise (some (.Call (.Name x np) (a :: as) [] cpos)) none pos) (tRaise C sp E t):=by
  intro pins s σ H D I h
  obtain ⟨nm,q,N,bs,bm,hdct,sn,sub,ab,col,dd,k0,k1,k2,k3,k5,mN,hC0,T0,n0,i0,hB⟩:=M.at I.mod.kin
  rw [arm_exec_Raise]
  simp only [evalOpt,Option.map]
  refine wpAny_bind (wpAny_standAt (rs_stmt (C:=C) (nm:=nm) (q:=q) (N:=N) (bs:=bs) (hdct:=hdct) (sn:=sn) (sub:=sub) (ab:=ab) (col:=col) (dd:=dd) (k0:=k0) (k1:=k1) (k2:=k2) (k3:=k3) (k5:=k5) (newId:="ValueError.__new__") hB hr.hd (wpAny_bind ?_)))
  refine wpAny_Call_Name_kw (ld_glob I hg hm ?_ hdb)
  refine PySem.W.callWith_K (h₀:=X.base) I.ok.mod.kin M.kp (thn (ha cpos pins s σ H _ I h) fun us s1 ⟨vs,H1,I1,r,hl,q1⟩=>⟨I1.kIn,?_⟩) (star_cons h1) (star_any h2)
  obtain ⟨hh,g,d,tk,os⟩:=s1
  have kb:∀ b o,X.base.get? b=some o->hh.get? b=some o:=I1.bk
  have e0:H1 (hh.objs.size + 1)=none:=I1.hok.fresh (Nat.le_succ _)
  obtain ⟨of,hof,hofc⟩:=Option.map_eq_some_iff.mp M.fn
  have hof':hh.get? f=some of:=I1.kIn _ _ hof
  refine ex_call PySem.F.excBase_ValueError (by decide +kernel) PySem.F.excBase_ValueError (T0.keeps kb) (kb _ _ hC0) (n0.keeps kb) i0 hof' hofc (show us.length<=sizeLine by rw [<- r.length]; exact hl) ?_
  have ex:((hh.push (tupOf us)).push (excOf C hh.objs.size)).get? (hh.objs.size + 1)=some (excOf C hh.objs.size):=Heap.get?_push_at (by simp only [Heap.size_push]) rfl
  have I2:Inv X pins σ (upd H1 (hh.objs.size + 1) (XO (hh.objs.size + 1) C none)) ⟨(hh.push (tupOf us)).push (excOf C hh.objs.size),g,d,tk,os⟩ :=
    I1.laid (a:=hh.objs.size + 1) (o:=XO (hh.objs.size + 1) C none) (t':=tk) (fun b u q=>Heap.get?_push_of_some _ (Heap.get?_push_of_some _ q)) (Nat.le_succ _) (XO.ok ⟨excOf C hh.objs.size,_,hh.objs.size,ex,rfl,rfl,rfl,rfl,rfl,rfl⟩)
  have hq:=q1 _ e0
  have r2:Vals (V.ref (hh.objs.size + 1) :: vs) (Value.ref (hh.objs.size + 1) :: us):=.cons rfl r
  have hlen:(Value.ref (hh.objs.size + 1) :: us).length=ps.length:=by rw [<- r2.length]; exact F.len _ _ _ _ hq
  have bd:=hb ⟨(hh.push (tupOf us)).push (excOf C hh.objs.size),g,d,tk,os⟩ (Value.ref (hh.objs.size + 1) :: us) I2.kIn (by rw [List.append_nil]; exact hlen)
  rw [List.append_nil] at bd
  refine wpAny_call (codeAny_mono (F.run _ X.stack _ _ ⟨Value.ref (hh.objs.size + 1) :: us,[]⟩ (Value.ref (hh.objs.size + 1) :: us) _ _ E0 (hr.make C us []) (I2.env0.make C us []) bd r2 hq) fun r s' hq'=>?_)
  cases r with
  | error u=>exact False.elim hq'
  | ok fl =>
    cases fl with
    | ret u =>
      obtain ⟨v,H',I3,rv,ev,dx,hH,hE⟩:=I2.after hq'
      subst ev
      obtain ⟨oe,ws,t0,g1,g2,g3,g4,g5,g6⟩:=XO.get I3.hok hH
      exact ⟨rv,wpAny_bind (wpAny_standAt (wpAny_pure ⟨_,oe,ws,rfl,I3.bk _ _ hC0,g1,g2,g4,g6.1,hx pins σ _ s' ⟨_,.ref C,dx,drp H' (hh.objs.size + 1),hh.objs.size,rfl,I3.drop hH,drp_same,I1.sz,Nat.le_succ _,fun p hp=>Heap.lt_size (I1.pin p hp).1,.inl ⟨oe,ws,g1,g2,g3,g4,g6⟩,hE⟩⟩))⟩
    | next=>exact False.elim hq'
    | brk=>exact False.elim hq'
    | cont=>exact False.elim hq'
end
structure XBase (K:PySem.W.Frag) (R:Addr):Prop where
  sp:PySem.W.specialIn K (.ref R) "__getattribute__"=some (some (.builtin "type.__getattribute__"))
  rd:PySem.W.readsIn K R (.type "type")=true
  fi:PySem.W.findCls K (.ref R) (.type "type") "__init__"=some (.val (.builtin "ValueError.__init__"))
def tXInit (C:Addr) (t:TA):TE:=fun σ H Q=>t σ H fun vs H1=>∃ e rest dx,vs=.ref e :: rest/\rest.length<=sizeLine/\H1 e=some (XO e C dx)/\Q .non H1
theorem upd_id {H:Hp} {e:Addr} {o:HO} (h:H e=some o):upd H e o=H:=by
  funext b
  unfold upd
  split
  · rename_i q
    rw [q,h]
  · rfl
section
variable {X:Cx} {f C R:Addr} {x m:Str} {np apos pos pos':Pos} {a o e value:Expr} {as:List Expr} {t:TA} {ta tv te:TE}
theorem pe_xinit {pl:Sem Bool} (M:XCl X.K C f) (B:XBase X.K R) (hg:Gl X x) (hm:X.mg x=some (.ref R)) (ha:PA X (a :: as) t) (hdb:(x == ("__debug__":Str))=false:=by decide) (h1:isStar a=false:=by rfl) (h2:as.all (fun e=>!isStar e)=true:=by rfl)
    (ht:eval (.Call (.Attribute (.Name x np) "__init__" apos) (a :: as) [] pos) X.env=(do
      let ov <- eval (.Name x np) X.env
      standAt apos.atName
      let (f,first) <- holding [ov] (getMethod ov "__init__" pl)
      callWith pos f first (backTo pos (starEach (a :: as) X.env)) (backToKw pos (keywordEach [] X.env))):=by rfl) :
    PE X (.Call (.Attribute (.Name x np) "__init__" apos) (a :: as) [] pos) (tXInit C t):=by
  intro pins s σ H Q I h
  refine PySem.W.methodCall_KW (pl:=pl) (ld_glob I hg hm ?_ hdb) ht
  refine PySem.W.method_cls I.kIn B.sp (PySem.W.cls_value I.kIn B.rd B.fi (by decide +kernel) ?_)
  have I0:Inv X pins σ H { s with toks:=s.toks + 1 }:=I.tok _
  refine PyProof.Rows.callWith_builtin1 (thn (ha pos pins _ σ H _ I0 h) fun us s1 ⟨vs,H1,I1,r,e,rest,dx,ev,hl,hH,q⟩=>?_) (star_cons h1) (star_any h2)
  subst ev
  obtain ⟨ue,ur,rfl,re,rr⟩:∃ ue ur,us=ue :: ur/\RelV (.ref e) ue/\Vals rest ur:=by
    cases r with
    | cons p q=>exact ⟨_,_,rfl,p,q⟩
  obtain rfl:ue=Value.ref e:=re
  obtain ⟨oe,ws,t0,g1,g2,g3,g4,g5,g6⟩:=XO.get I1.hok hH
  obtain ⟨nm,q',N,bs,bm,hdct,sn,sub,ab,col,dd,k0,k1,k2,k3,k5,mN,hC,T,_,_,_⟩:=M.at I1.kIn
  obtain ⟨hh,g,d,tk,os⟩:=s1
  refine ex_init PySem.F.excBase_ValueError T hC g1 g2 g4 g5 (by rw [<- rr.length]; exact hl) ?_
  have e1:=Heap.get?_push_of_some (h:=hh) (tupOf ur) g1
  have up:=Heap.get?_update_self (Obj.mapFields (·.setIfInBounds 0 (.ref hh.objs.size))) e1 (Obj.isFreed_of_fields (Obj.data_mapFields g4 _))
  have sz:0 < ws.size:=(Array.getElem?_eq_some_iff.mp g5).1
  have I2:=I1.write (x:=e) (e:=e) (o:=XO e C dx) (h':=(hh.push (tupOf ur)).update e (Obj.mapFields (·.setIfInBounds 0 (.ref hh.objs.size)))) (t':=tk) (by rw [hH]; exact True.intro) (.inl rfl)
    (fun b u nb q=>(Heap.get?_update_other _ _ (Ne.symm nb)).trans (Heap.get?_push_of_some _ q)) ⟨_,up⟩
    (XO.ok ⟨_,_,hh.objs.size,up,(Obj.cls_mapFields _ _).trans g2,(dict_mapFields _ _).trans g3,Obj.data_mapFields g4 _,by simp [sz],by rw [Array.getElem?_setIfInBounds_ne (by decide)]; exact g6.1,by rw [Array.getElem?_setIfInBounds_ne (by decide)]; exact g6.2⟩)
  rw [upd_id hH] at I2
  exact ⟨.non,H1,I2,rfl,q⟩
def sXNew (K:PySem.W.Frag) (C:Addr) (ta tv:TE) (m:Str):TS:=fun D σ H=>tv σ H fun y H1=>ta σ H1 fun x H2=>∃ e,x=.ref e/\H2 e=some (XO e C none)/\PySem.W.takerIn K C m=some none/\∀ d,H2 d=none->d≠e->D.nx σ (upd (upd H2 d (XD d [(m,y)])) e (XO e C (some d)))
theorem ps_xnew (M:XCl X.K C f) (ha:PE X o ta) (hv:PE X value tv) (hs:swapsWith value (some (.Attribute o m pos')) pos.line X.env=pure false:=by rfl):PS X (.Assign [.Attribute o m pos'] value pos) (sXNew X.K C ta tv m):=by
  intro pins s σ H D I h
  refine plainObj_wpAny_Assign_Attribute (thn (hv pins s σ H _ I h) fun u s1 ⟨y,H1,I1,ry,q⟩=>thn (ha pins s1 σ H1 _ I1 q) fun ov s2 ⟨x,H2,I2,rx,e,ex,hH,hk,q2⟩=>?_) hs
  subst ex
  obtain rfl:ov=Value.ref e:=rx
  obtain ⟨oe,ws,t0,g1,g2,g3,g4,g5,g6⟩:=XO.get I2.hok hH
  refine xs_new I2.kIn g1 g2 g3 g4 M.sa M.over hk M.hd fun h' hn he kp=>?_
  have nd:s2.heap.objs.size≠e:=Nat.ne_of_gt (Heap.lt_size g1)
  have fd:H2 s2.heap.objs.size=none:=I2.hok.fresh (Nat.le_refl _)
  have ns:∀ (b:Addr) (u:HO),H2 b=some u->(∀ ψ,u≠.ext ψ)->upd (upd H2 s2.heap.objs.size (XD s2.heap.objs.size [(m,y)])) e (XO e C (some s2.heap.objs.size)) b=some u:=fun b u q nx=>by
    have n1:b≠e:=fun z=>by
      rw [z,hH] at q
      cases q
      exact nx _ rfl
    rw [upd_ne n1,upd_ne (ne_of_none q fd)]
    exact q
  have ne':∀ b,H2 b=none->b≠e:=fun b q z=>by
    rw [z,hH] at q
    cases q
  refine ⟨σ,_,I2.un (H':=upd (upd H2 s2.heap.objs.size (XD s2.heap.objs.size [(m,y)])) e (XO e C (some s2.heap.objs.size))) (h':=h') (t':=s2.toks + 2) ⟨fun b o q n _ _=>kp b o (ne' b n) q,fun b o q n _ _=>⟨o.slots,kp b o (ne' b n) q⟩,fun b o q n _=>?_,fun b o q _=>?_,fun b xs q=>ns b _ q (by intro ψ z; cases z),fun b o u q=>ns b _ q (by intro ψ z; cases z),fun b ps q=>⟨#[],by rw [ns b _ q (by intro ψ z; cases z)]; simp⟩⟩ fun b u q=>?_,q2 _ fd nd⟩
  · rw [upd_ne (ne' b n),upd_ne (Nat.ne_of_lt (Heap.lt_size q))]
    exact n
  · by_cases z:b=e
    · rw [z]
      exact ⟨_,he⟩
    · exact ⟨o,kp b o z q⟩
  · by_cases z:b=e
    · subst z
      rw [upd_same] at q
      cases q
      exact XO.ok ⟨_,ws,t0,he,g2,rfl,g4,g5,g6⟩
    · rw [upd_ne z] at q
      by_cases z2:b=s2.heap.objs.size
      · subst z2
        rw [upd_same] at q
        cases q
        refine XD.ok ⟨_,hn,fun f=>?_,fun f hf=>?_,show 1<=1000 by decide⟩
        · rw [List.lookup_cons]
          by_cases w:f=m
          · rw [if_pos w,w,beq_self_eq_true]
            exact ry
          · rw [if_neg w,beq_eq_false_iff_ne.mpr w]
            exact True.intro
        · by_cases w:f=m
          · rw [w]
            exact List.mem_cons_self
          · exact absurd (if_neg w) hf
      · rw [upd_ne z2] at q
        refine (I2.hok b u q).stay (fun c v hc r=>kp c v (fun w=>?_) r) (fun c r=>ns c _ r (by intro ψ z; cases z)) fun c xs r=>ns c _ r (by intro ψ z; cases z)
        rcases hc with hc | hc
        · exact z (hc.symm.trans w)
        · rw [w,hH] at hc
          cases hc
end
end L2
namespace L2
open PySem PySem.Spec PyProof.Rows
section
variable {X:Cx} {pins:List (Addr × Obj)} {σ:St} {H:Hp} {s:Shared} {h':Heap} {xs:List Addr}
theorem Inv.moved (I:Inv X pins σ H s) (m:Mv (frs X.stack) xs s.heap h')
    (hx:∀ b∈xs,H b=none/\(b∈X.ex\/X.s₀.heap.objs.size<=b)/\b≠X.env.locals/\(∀ x c,X.env.cells.lookup x=some c->c≠b)/\∀ p∈X.pn ++ pins,p.1≠b):Inv X pins σ H { s with heap:=h' } :=
  I.call (g':=s.gens) (d':=s.drawn) (t':=s.toks) (ch:=xs) ⟨fun b o q _ f x=>m.keep b o q f x,fun b o q _ _ x=>m.slot b o q x,fun _ _ _ n _=>n,fun b o q _=>m.there b o q,fun _ _ q=>q,fun _ _ _ q=>q,fun _ ps q=>⟨#[],by rw [q]; simp⟩⟩
    (I.hok.moved m I.stkFree fun b hb=>(hx b hb).1) I.bare fun b hb=>(hx b hb).2
theorem Inv.apart (I:Inv X pins σ H s) {b:Addr} {o:Obj} {vs:Array Value} (q:s.heap.get? b=some o) (d:o.data=.fields vs):b≠X.env.locals/\∀ x c,X.env.cells.lookup x=some c->c≠b:=by
  refine ⟨fun z=>?_,fun x c e z=>?_⟩
  · obtain ⟨m,⟨o',es,ep,ho,hd,_⟩,_⟩:=I.loc
    rw [z,ho] at q
    cases q
    rw [hd] at d
    cases d
  · obtain ⟨v,o',ho,hd⟩:=I.cell x c e
    rw [z,q] at ho
    cases ho
    rw [d] at hd
    cases hd
abbrev Cx.inEx (X:Cx) (u:Value) (p:List (Addr × Obj)):Cx:={ X with A:=X.A.mark (some u),calm:=false,pn:=p ++ X.pn,xe:=fun _ _=>False }
theorem Inv.inEx (I:Inv X pins σ H s) (u:Value) {p:List (Addr × Obj)} (hp:∀ q∈p,s.heap.get? q.1=some q.2/\H q.1=none/\q.1≠X.env.locals/\q.1 ∉ X.fs/\∀ v,q.2.data≠.cell v):Inv (X.inEx u p) pins σ H s :=
  ⟨⟨I.ok.mod,I.ok.kind,I.ok.glob,I.ok.blt,I.ok.above,I.ok.inj,I.ok.has,I.ok.cab,(fun z=>nomatch z),I.ok.frames,I.ok.stk,I.ok.exf,I.ok.bs,I.ok.bsz,I.ok.noex,I.ok.exfs,I.ok.funs,I.ok.frf⟩,I.os,I.bare,I.base,I.loc,I.cell,I.free,I.freeC,fun q hq=>by
    have hq':q∈(p ++ X.pn) ++ pins:=hq
    rw [List.append_assoc] at hq'
    rcases List.mem_append.mp hq' with z | z
    · exact hp q z
    · exact I.pin q z,I.hok,I.len⟩
theorem Inv.outEx {u:Value} {p:List (Addr × Obj)} (ok:X.Ok) (I:Inv (X.inEx u p) pins σ H s):Inv X pins σ H s :=
  ⟨ok,I.os,I.bare,I.base,I.loc,I.cell,I.free,I.freeC,fun q hq=>I.pin q (by
    show q∈(p ++ X.pn) ++ pins
    rw [List.append_assoc]
    exact List.mem_append_right _ hq),I.hok,I.len⟩
theorem unbind_ok {A:Around} {E:Value->Shared->Prop} {i:Nat} {n:Str} {pos:Pos} {Q:Unit->Shared->Prop} (I:Inv X pins σ H s) (hN:X.N.Nodup) (hi:X.N[i]?=some n) (hl:X.env.scope.names.lookup n=some .local)
    (h:∀ s',Inv X pins (σ.set i none) H s'->Q () s'):wpAny (model X.prog X.w) A (do bindName X.env n .none; unbindBehindTheSuite X.env n pos) Q E s:=by
  obtain ⟨m,hn,hlk⟩:=id I.loc
  have iσ:i < σ.length:=by rw [I.len]; exact (List.getElem?_eq_some_iff.mp hi).1
  refine wpAny_nameGoes_keeps (env:=X.env) hl hn (by rw [I.ok.kind]; rfl) fun h' v hn' hs=>h _ ?_
  have nl:∀ (b:Addr) (o:Obj),X.s₀.heap.get? b=some o->b≠X.env.locals:=fun b o q=>Nat.ne_of_lt (Nat.lt_of_lt_of_le (Heap.lt_size q) I.ok.above)
  refine ⟨I.ok,I.os,I.bare,⟨fun b o q n hb hx=>(hs.2 b (nl b o q)).trans (I.base.keep b o q n hb hx),fun b o q n hb hx=>?_,I.base.free,fun b o q hx=>?_,I.base.tups,I.base.frzs,I.base.tbls⟩,⟨_,hn',fun j y v' e1 e2 e3=>?_⟩,fun y c q=>?_,I.free,I.freeC,fun p hp=>?_,fun b u q=>?_,by rw [List.length_set]; exact I.len⟩
  · obtain ⟨sl,q1⟩:=I.base.slot b o q n hb hx
    exact ⟨sl,(hs.2 b (nl b o q)).trans q1⟩
  · obtain ⟨o1,q1⟩:=I.base.there b o q hx
    exact ⟨o1,(hs.2 b (nl b o q)).trans q1⟩
  · have hj:j≠i:=fun z=>by
      rw [z,List.getElem?_set_self iσ] at e2
      cases e2
    rw [List.getElem?_set_ne (Ne.symm hj)] at e2
    obtain ⟨u,r,q⟩:=hlk j y v' e1 e2 e3
    refine ⟨u,r,?_⟩
    rcases q with ⟨k,e⟩ | ⟨k,c,e,z⟩
    · have ny:y≠n:=fun z=>hj (nodup_ix hN e1 (z ▸ hi))
      exact .inl ⟨k,by simp [ny,e]⟩
    · exact .inr ⟨k,c,e,z.sameBut hs (I.cne y c e)⟩
  · obtain ⟨w,z⟩:=I.cell y c q
    exact ⟨w,z.sameBut hs (I.cne y c q)⟩
  · obtain ⟨a,b,c,d⟩:=I.pin p hp
    exact ⟨(hs.2 p.1 c).trans a,b,c,d⟩
  · refine (I.hok b u q).stay (fun c v hc r=>(hs.2 c fun z=>?_).trans r) (fun _ r=>r) fun _ _ r=>r
    rcases hc with hc | hc
    · rw [<- hc,z,I.free] at q
      cases q
    · rw [z,I.free] at hc
      cases hc
end
abbrev Ends.behind (D:Ends) (i:Nat):Ends:={ nx:=fun σ H=>D.nx (σ.set i none) H,rt:=D.rt,bk:=fun σ H=>D.bk (σ.set i none) H,ct:=fun σ H=>D.ct (σ.set i none) H }
section
variable {X:Cx} {Ch:Addr} {x n:Str} {i:Nat} {np hpos tpos:Pos} {b0:Stmt} {suite:List Stmt} {th:Addr->Obj->TS}
variable {k:Nat} {f:Addr} {fd:FuncData} {ps:List Str} {sp:Sp} {y:Str} {p cpos epos:Pos} {a:Expr} {as:List Expr} {t:TA}
end
end L2
namespace L2
open PySem PySem.Spec PyProof.Rows
section
variable {X:Cx} {pins:List (Addr × Obj)} {σ:St} {H:Hp} {s:Shared} {h':Heap}
theorem Inv.turns {t':Nat} {ch:List Addr} (I:Inv X pins σ H s) (k:∀ b o,b ∉ ch->s.heap.get? b=some o->h'.get? b=some o) (hf:∀ b∈ch,FpOk X pins H b):Inv X pins σ H { s with heap:=h',toks:=t' }:=by
  have nit:∀ b u,H b=some u->b ∉ ch:=fun b u e z=>by rw [(hf b z).1] at e; cases e
  refine I.call (g':=s.gens) (d':=s.drawn) (t':=t') (ch:=ch) ⟨fun b o q _ _ x=>k b o x q,fun b o q _ _ x=>⟨o.slots,k b o x q⟩,fun _ _ _ n _=>n,fun b o q x=>⟨o,k b o x q⟩,fun _ _ q=>q,fun _ _ _ q=>q,fun _ ps q=>⟨#[],by rw [q]; simp⟩⟩
    (fun b u e=>(I.hok b u e).stay (fun c v hc q=>k c v ?_ q) (fun _ q=>q) fun _ _ q=>q) I.bare fun b hb=>?_
  · rcases hc with z | z
    · rw [z]; exact nit b u e
    · exact nit c _ z
  · obtain ⟨f0,f1,f2,f3,f4,f5⟩:=hf b hb
    exact ⟨f3,f1,f4,f5⟩
theorem Inv.turnsLaid {t':Nat} {ch:List Addr} {a:Addr} {o:HO} (I:Inv X pins σ H s) (k:∀ b o,b ∉ ch->s.heap.get? b=some o->h'.get? b=some o) (hf:∀ b∈ch,FpOk X pins H b) (hp:s.heap.objs.size<=a) (new:ObjOk X.prog X.w (upd H a o) h' a o) :
    Inv X pins σ (upd H a o) { s with heap:=h',toks:=t' }:=by
  have hn:=I.hok.fresh hp
  have nit:∀ b u,H b=some u->b ∉ ch:=fun b u e z=>by rw [(hf b z).1] at e; cases e
  refine I.call (g':=s.gens) (d':=s.drawn) (t':=t') (ch:=ch) ⟨fun b o q _ _ x=>k b o x q,fun b o q _ _ x=>⟨o.slots,k b o x q⟩,fun b u q n _=>by rw [upd_ne (Nat.ne_of_lt (Nat.lt_of_lt_of_le (Heap.lt_size q) hp))]; exact n,fun b o q x=>⟨o,k b o x q⟩,
      fun b xs q=>by rw [upd_ne (ne_of_none q hn)]; exact q,fun b u xs q=>by rw [upd_ne (ne_of_none q hn)]; exact q,fun b ps q=>⟨#[],by rw [upd_ne (ne_of_none q hn),q]; simp⟩⟩
    (fun b u e=>?_) I.bare fun b hb=>?_
  · by_cases hb:b=a
    · subst hb
      rw [upd_same] at e
      cases e
      exact new
    · rw [upd_ne hb] at e
      refine (I.hok b u e).stay (fun c v hc q=>k c v ?_ q) (fun c q=>by rw [upd_ne (ne_of_none q hn)]; exact q) fun c xs q=>by rw [upd_ne (ne_of_none q hn)]; exact q
      rcases hc with z | z
      · rw [z]; exact nit b u e
      · exact nit c _ z
  · obtain ⟨f0,f1,f2,f3,f4,f5⟩:=hf b hb
    exact ⟨f3,f1,f4,f5⟩
end
section
variable {X:Cx} {elts:List Expr} {k:Nat} {tpos:Pos}
end
end L2
namespace L2
open PySem PySem.Spec PyProof.Rows
def Itv (K:PySem.W.Frag) (a:Addr) (n:Nat):It :=
  ⟨fun i H=>i < n/\∃ xs x,SqL K H a xs/\xs[n - 1 - i]?=some x,fun i H x H'=>H'=H/\∀ xs,SqL K H a xs->xs[n - 1 - i]?=some x,fun i _=>n<=i⟩
theorem turn_rev {P:Program} {w:World} {K:PySem.W.Frag} {tg:Expr} (a it:Addr) (n:Nat):Turn P w K tg (Itv K a n) [it] it (fun i h=>i<=n/\h.IsRevIter it a ((n:Int) - 1 - (i:Nat))) where
  mem:=by simp
  obj:=fun i h st b hb=>by
    have e:b=it:=by simpa using hb
    subst e
    obtain ⟨_,o,e,c,d⟩:=st
    exact ⟨o,e,fun v z=>by rw [d] at z; cases z⟩
  keep:=fun i h h' st k=>⟨st.1,st.2.at fun o e=>k it (by simp) o e⟩
  item:=by
    intro X hP hw hK hc i pins s σ H E I hf st hg
    subst hP hw hK
    obtain ⟨hi,xs,x,hq,hx⟩:=hg
    obtain ⟨its,rv,p,hz⟩:=I.list hq
    obtain ⟨u,hu,ru⟩:=rv.get hx
    obtain ⟨f0,f1,f2,f3,f4,f5⟩:=hf it (by simp)
    obtain ⟨_,st2⟩:=st
    have e1:(n:Int) - 1 - (i:Nat)=((n - 1 - i:Nat):Int):=by omega
    rw [e1] at st2
    refine wpAny_pyNext_rev_item st2 p.isList (x:=u) (by simpa using hu) fun h' st' sb=>?_
    have I1:Inv X pins σ H { s with heap:=h' }:=I.turned (t':=s.toks) (fun b o hb e=>(sb.2 b hb).trans e) f0 f1 f3 f4 f5
    obtain ⟨o,e,c,d⟩:=id st'
    refine ⟨u,rfl,go_of (s:={ s with heap:=h' }) e c d (by decide) ⟨x,H,I1,ru,⟨rfl,fun ys hy=>by rw [I.list_inj hy hq]; exact hx⟩,⟨hi,?_⟩,fun b hb=>(hf b hb).1⟩⟩
    have e2:(n:Int) - 1 - ((i + 1:Nat):Int)=((n - 1 - i:Nat):Int) - 1:=by omega
    rw [e2]
    exact st'
  done:=by
    intro X hP hw hK hc i pins s σ H E I hf st hg
    subst hP hw hK
    obtain ⟨f0,f1,f2,f3,f4,f5⟩:=hf it (by simp)
    obtain ⟨h1,st2⟩:=st
    have h2:n<=i:=hg
    have e1:(n:Int) - 1 - (i:Nat)=-1:=by omega
    rw [e1] at st2
    exact wpAny_pyNext_rev_end (I.ok.hd hc) st2 fun h' eb=>⟨rfl,I.turned (t':=s.toks) (fun b o hb e=>eb b o hb e) f0 f1 f3 f4 f5⟩
  self:=fun _ _ _ _ _ st h=>wpAny_pyIter_revIter st.2 h
section
variable {X:Cx} {tg:Expr}
def iRev (K:PySem.W.Frag) (ta:TA):TI:=fun σ H R=>ta σ H fun vs H1=>∃ a xs,vs=[.ref a]/\SqL K H1 a xs/\R (Itv K a xs.length) H1
theorem pi_rev {a:Expr} {ta:TA} {p pos:Pos} (hg:Gl X "reversed") (hm:X.mg "reversed"=none) (ha:PA X [a] ta) (hs:starEach [a] X.env=[(false,eval a X.env)]:=by rfl):PI X tg (.Call (.Name "reversed" p) [a] [] pos) (iRev X.K ta):=by
  intro pins s σ H R I h
  refine Call_ (ld_blt I hg hm boot_reversed (PyProof.Rows.callWith_type1 (thn (ha pos pins s σ H _ I h) fun us s1 ⟨vs,H1,I1,r1,q1⟩=>?_) hs rfl))
  obtain ⟨l,xs,e,hq,q⟩:=q1
  subst e
  obtain ⟨u,rfl,rx⟩:=vals1 r1
  cases rx
  obtain ⟨its,rv,pl,hz⟩:=I1.list hq
  have hl:=rv.length
  refine call_reversed_list pl.isList ?_
  have hr:(s1.heap.push (revObj l ((its.toArray.size:Int) - 1))).IsRevIter s1.heap.objs.size l ((its.toArray.size:Int) - 1):=⟨_,Heap.get?_push_size _ rfl,rfl,rfl⟩
  refine wpAny_pyIter_revIter (s:={ s1 with heap:=s1.heap.push (revObj l ((its.toArray.size:Int) - 1)) }) hr ?_
  refine ⟨s1.heap.objs.size,[s1.heap.objs.size],_,_,H1,rfl,I1.kept (t':=s1.toks) fun b o e=>Heap.get?_push_of_some _ e,turn_rev l _ xs.length,⟨Nat.zero_le _,?_⟩,fun b hb=>?_,q⟩
  · have e:(xs.length:Int) - 1 - ((0:Nat):Int)=(its.toArray.size:Int) - 1:=by simp [hl]
    rw [e]
    exact hr
  have e:b=s1.heap.objs.size:=by simpa using hb
  subst e
  exact I1.fpOk (Nat.le_refl _) (I1.hok.fresh (Nat.le_refl _))
theorem ji_rev {a:Expr} {t:TA} {p pos:Pos} (hg:Gl X "reversed") (hm:X.mg "reversed"=none) (ha:jA X [a] t) (h:isStar a=false:=by rfl):jI X tg (.Call (.Name "reversed" p) [a] [] pos) (iRev X.K t):=⟨pi_rev hg hm ha.out (star_cons h)⟩
end
theorem for_rev {K:PySem.W.Frag} {a:Addr} {xs:List V} {g:TG} {tb:TS} {D:Ends} {σ:St} {H:Hp} (Pv:Nat->St->Hp->Prop) (h0:Pv 0 σ H) (hl:∀ i σ H,i<=xs.length->Pv i σ H->SqL K H a xs)
    (hs:∀ i x σ H,xs.reverse[i]?=some x->Pv i σ H->g x σ H fun σ2 H2=>tb { D with nx:=Pv (i + 1),ct:=Pv (i + 1),bk:=D.nx } σ2 H2) (hd:∀ σ H,Pv xs.length σ H->D.nx σ H) :
    ∃ W:Nat->Nat->St->Hp->Prop,(∃ m,W 0 m σ H)/\∀ i m σ H,W i m σ H ->
      ((Itv K a xs.length).stop i H/\D.nx σ H)\/((Itv K a xs.length).go i H/\∃ N:St->Hp->Prop,(∀ σ' H',N σ' H'->∃ m',m' < m/\W (i + 1) m' σ' H')/\∀ x H',(Itv K a xs.length).yld i H x H'->g x σ H' fun σ2 H2=>tb { D with nx:=N,ct:=N,bk:=D.nx } σ2 H2):=by
  refine ⟨fun i m σ H=>m=xs.length - i/\i<=xs.length/\Pv i σ H,⟨xs.length,by simp,Nat.zero_le _,h0⟩,?_⟩
  rintro i m σ H ⟨rfl,hi,p⟩
  have q:=hl i σ H hi p
  by_cases hlt:i < xs.length
  · refine .inr ⟨⟨hlt,xs,xs[xs.length - 1 - i],q,by rw [List.getElem?_eq_getElem]⟩,Pv (i + 1),fun σ' H' p'=>⟨xs.length - (i + 1),by omega,rfl,hlt,p'⟩,fun x H' y=>?_⟩
    obtain ⟨e,y⟩:=y
    subst e
    refine hs i x σ _ ?_ p
    rw [List.getElem?_reverse hlt]
    exact y xs q
  · have e:i=xs.length:=by omega
    subst e
    exact .inl ⟨Nat.le_refl _,hd σ H p⟩
section
variable {g:TG} {tt:TT} {te:TE} {Q:VK} {σ:St} {H:Hp}
theorem lc_tup {K:PySem.W.Frag} {a:Addr} {xs:List V} (Pv:Nat->St->List V->Hp->Prop) (h0:Pv 0 σ [] H) (hl:∀ i τ ys H,i<=xs.length->Pv i τ ys H->SqT K H a xs)
    (hs:∀ i x τ ys H,xs[i]?=some x->Pv i τ ys H->g x τ H fun τ2 H2=>tt τ2 H2 fun b H3=>if b=true then te τ2 H3 fun y H4=>ys.length < sizeLine/\Pv (i + 1) τ2 (ys ++ [y]) H4 else Pv (i + 1) τ2 ys H3)
    (hd:∀ τ ys H,Pv xs.length τ ys H->∀ p,H p=none->Q (.ref p) (upd H p (.lst ys))):∃ W,(∃ m,W 0 m σ [] H)/\lcBy (Itt K a) g tt te Q W:=by
  refine ⟨fun i m τ ys H=>m=xs.length - i/\i<=xs.length/\Pv i τ ys H,⟨xs.length,by simp,Nat.zero_le _,h0⟩,?_⟩
  rintro i m τ ys H ⟨rfl,hi,p⟩
  have q:=hl i τ ys H hi p
  by_cases hlt:i < xs.length
  · refine .inr ⟨⟨xs,xs[i],q,by simp [hlt]⟩,Pv (i + 1),fun τ' ys' H' p'=>⟨xs.length - (i + 1),by omega,rfl,hlt,p'⟩,fun x H' y=>?_⟩
    obtain ⟨e,y⟩:=y
    subst e
    exact hs i x τ ys _ (y xs q) p
  · have e:i=xs.length:=by omega
    subst e
    exact .inl ⟨⟨xs,q,Nat.le_refl _⟩,hd τ ys H p⟩
end
theorem old {H:Hp} {p q:Addr} {o u:HO} (hp:H p=none) (h:H q=some u):upd H p o q=some u:=by rw [upd_ne (ne_of_none h hp)]; exact h
theorem Same.new {H H1:Hp} {p:Addr} {o:HO} (s:Same H H1) (hp:H1 p=none):Same H (upd H1 p o):=fun b u q=>old hp (s b u q)
theorem Same.put {H H1:Hp} {p:Addr} {o:HO} (s:Same H H1) (hp:H p=none):Same H (upd H1 p o):=fun b u q=>by rw [upd_ne (ne_of_none q hp)]; exact s b u q
end L2
namespace L2
open PySem PySem.Spec PyProof.Rows
theorem eqV_self {x:V} (h:flatV x=true):eqV x x=true:=by
  cases x <;> first
    | rfl
    | (show ((_:Bool) == _)=true; simp)
    | (show ((_:Int) == _)=true; simp)
    | (show ((_:Str) == _)=true; simp)
    | (cases h)
section
variable {X:Cx}
end
section
variable {X:Cx}
end
end L2
namespace L2
open PySem PySem.Spec PyProof.Rows Builtin Builtin.Str
section
variable {X:Cx}
theorem strs_of_vals:∀ {zs:List Str} {us:List Value},Vals (zs.map V.str) us->∃ l:List (Str × Tok),us=strValues l/\l.map (·.1)=zs
  | [],_,.nil=>⟨[],rfl,rfl⟩
  | z :: zs,_,.cons ⟨t,e⟩ r=>by
    obtain ⟨l,rfl,h⟩:=strs_of_vals r
    exact ⟨(z,t) :: l,by rw [e]; rfl,by rw [List.map_cons,h]⟩
theorem fold_len (sep:Str):∀ (zs:List Str) (a:Nat),zs.foldl (· + ·.length + sep.length) a=a + ((zs.map (·.length)).sum + zs.length * sep.length)
  | [],a=>by simp
  | z :: zs,a=>by
    rw [List.foldl_cons,fold_len sep zs]
    simp only [List.map_cons,List.sum_cons,List.length_cons,Nat.add_mul,Nat.one_mul]
    omega
def wide (sep:Str) (zs:List Str):Nat:=(zs.map (·.length)).sum + zs.length * sep.length
def rJoin (K:PySem.W.Frag):V->List V->Hp->VK->Prop:=fun x vs H Q=>∃ sep p zs,x=.str sep/\vs=[.ref p]/\SqL K H p (zs.map V.str)/\wide sep zs<=sizeLine/\Q (.str (Str.join sep zs)) H
theorem mt_join:MtR X "str.join" (rJoin X.K):=by
  intro pins s σ H x vs v us Q I rx rv h
  obtain ⟨sep,p,zs,rfl,rfl,hq,hw,q⟩:=h
  obtain ⟨t,rfl⟩:=rx
  obtain ⟨u,rfl,ru⟩:=rv.one
  cases ru
  obtain ⟨its,r,pl,hz⟩:=I.list hq
  obtain ⟨l,rfl,hl⟩:=strs_of_vals r
  have big:tooLong ((l.map (·.1)).toArray.foldl (· + ·.length + sep.length) 0)=false:=by
    rw [hl,List.foldl_toArray,fold_len]
    unfold tooLong
    rw [decide_eq_false_iff_not]
    unfold wide at hw
    omega
  have hg:=size_glued sep zs
  have hle:(glued sep zs).length<=sizeLine:=by
    rw [hg]
    unfold wide at hw
    have:(zs.length - 1) * sep.length<=zs.length * sep.length:=Nat.mul_le_mul_right _ (Nat.sub_le _ _)
    omega
  refine call_meets F.slot_str_join (typeIs_str _ _ _) F.entry_str_join (F.args_str_join_2 _ _) (meets_str_join_list sep t p l big) ⟨pl.isList,?_⟩
  rw [<- StrLaws.glued_eq_join] at q
  match l,hl with
  | [],hl=>exact ⟨by rw [hl]; exact hle,.str _,H,I.tok _,⟨_,rfl⟩,by rw [hl]; exact q⟩
  | [(z,tz)],hl =>
    have e:glued sep zs=z:=by
      rw [<- hl]
      rfl
    rw [e] at q
    exact ⟨.str z,H,I,⟨tz,rfl⟩,q⟩
  | a :: b :: r,hl=>exact ⟨by rw [hl]; exact hle,.str _,H,I.tok _,⟨_,rfl⟩,by rw [hl]; exact q⟩
theorem jm_join:jMt X "str.join" (rJoin X.K):=⟨mt_join⟩
def rEqE (K:PySem.W.Frag) (neg:Bool):R2:=fun x y H Q=>∃ p p' xs,x=.ref p/\y=.ref p'/\SqL K H p xs/\SqL K H p' []/\Q (.bl (if neg then !xs.isEmpty else xs.isEmpty)) H
theorem op_eqE (hu:X.A.units < cLine):OpR X (compareOp .Eq) (rEqE X.K false):=by
  intro pins s σ H x y v u Q I rx ry h
  obtain ⟨p,p',xs,rfl,rfl,h1,h2,q⟩:=h
  cases rx
  cases ry
  obtain ⟨its,r,pl,_⟩:=I.list h1
  obtain ⟨its',r',pl',_⟩:=I.list h2
  cases r'
  cases r with
  | nil=>exact SeqAt.eq_listAt (e:=fun _=>true) pl.isList pl'.isList rfl hu (fun j h=>absurd h (Nat.not_lt_zero _)) ⟨.bl true,H,I,rfl,q⟩
  | cons a b=>exact SeqAt.eq_list_lengthsAt pl.isList pl'.isList rfl hu ⟨.bl false,H,I,rfl,q⟩
theorem jo_eqE {k:Nat} (hr:Room k X.A):jOp X (compareOp .Eq) (rEqE X.K false):=⟨op_eqE hr.units0⟩
end
end L2
namespace L2
open PySem PySem.Spec PyProof.Rows
def Sq (k:Bool) (h:Heap) (l:Addr) (xs:Array Value):Prop:=match k with
  | true=>h.IsList l xs
  | false=>h.IsTuple l xs
def SqI (k:Bool) (h:Heap) (j l:Addr) (n:Nat):Prop:=match k with
  | true=>h.IsListIter j l n
  | false=>h.IsTupleIter j l n
def SqN (k:Bool):String:=if k then "list_iterator" else "tuple_iterator"
theorem Sq.at {k:Bool} {h h':Heap} {l:Addr} {xs:Array Value} (x:Sq k h l xs) (e:∀ o,h.get? l=some o->h'.get? l=some o):Sq k h' l xs:=by
  cases k <;> obtain ⟨o,ho,r⟩:=x <;> exact ⟨o,e _ ho,r⟩
theorem SqI.at {k:Bool} {h h':Heap} {j l:Addr} {n:Nat} (x:SqI k h j l n) (e:∀ o,h.get? j=some o->h'.get? j=some o):SqI k h' j l n:=by
  cases k <;> obtain ⟨o,ho,r⟩:=x <;> exact ⟨o,e _ ho,r⟩
theorem SqI.ex {k:Bool} {h:Heap} {j l:Addr} {n:Nat} (x:SqI k h j l n):∃ o,h.get? j=some o/\o.cls=.type (SqN k)/\o.data=.fields #[.ref l,.int n 0]:=by
  cases k <;> exact x
theorem SqI.of {k:Bool} {h:Heap} {j l:Addr} {n:Nat} (x:∃ o,h.get? j=some o/\o.cls=.type (SqN k)/\o.data=.fields #[.ref l,.int n 0]):SqI k h j l n:=by
  cases k <;> exact x
section
variable {P:Program} {w:World} {A:Around} {E:Value->Shared->Prop} {s:Shared}
theorem tup_next {j l:Addr} {n:Nat} {xs:Array Value} {x:Value} {Q:Value->Shared->Prop} (hj:s.heap.IsTupleIter j l n) (hl:s.heap.IsTuple l xs) (hx:xs[n]?=some x)
    (q:∀ h',h'.IsTupleIter j l (n + 1)->Heap.SameBut j s.heap h'->Q x { s with heap:=h' }):wpAny (model P w) A (Builtin.SmallTypes.nextOf (.ref j)) Q E s:=by
  have ⟨oj,hoj,cj,dj⟩:=hj
  have ⟨ol,hol,_,m,dl⟩:=hl
  unfold Builtin.SmallTypes.nextOf
  refine wpAny_bind (wpAny_callSpecial?_slot hj.typeIs F.slot_tuple_iterator_next (wpAny_call_entry F.slot_tuple_iterator_next hj.typeIs F.entry_tuple_iterator_next ?_ (F.args_tuple_iterator_next_1 (.ref j))))
  refine wpAny_bind (m:=field (.ref j) 0) (wpAny_field hoj dj (x:=.ref l) rfl ?_)
  have nn:¬ ((Value.ref l == Value.none)=true):=Bool.false_ne_true
  show wpAny _ _ (ite ((Value.ref l == Value.none)=true) _ _) _ _ _
  rw [if_neg nn]
  refine wpAny_bind (m:=field (.ref j) 1) (wpAny_field hoj dj (x:=.int n 0) rfl ?_)
  refine wpAny_bind (m:=seqItems? (.ref l)) (wpAny_seqItems hol dl ?_)
  simp only [Int.toNat_natCast,hx]
  refine wpAny_bind (wpAny_setField hoj dj (by simp) (wpAny_pure ⟨x,rfl,wpAny_pure (q _ ⟨_,Heap.get?_update_self _ hoj (Obj.isFreed_of_fields (Obj.data_mapFields dj _)),(Obj.cls_mapFields ..).trans cj,?_⟩ (Heap.SameBut.update ..))⟩))
  rw [Obj.data_mapFields dj]
  simp [rawInt]
theorem tup_end {j l:Addr} {n:Nat} {xs:Array Value} {Q:Value->Shared->Prop} (hA:A.handled=none) (hj:s.heap.IsTupleIter j l n) (hl:s.heap.IsTuple l xs) (hx:xs[n]?=none)
    (q:∀ h' e,Heap.ExtBut j s.heap h'->(∃ o,h'.get? e=some o/\o.cls=.type "StopIteration")->E (.ref e) { s with heap:=h' }):wpAny (model P w) A (Builtin.SmallTypes.nextOf (.ref j)) Q E s:=by
  have ⟨oj,hoj,cj,dj⟩:=hj
  have ⟨ol,hol,_,m,dl⟩:=hl
  unfold Builtin.SmallTypes.nextOf
  refine wpAny_bind (wpAny_callSpecial?_slot hj.typeIs F.slot_tuple_iterator_next (wpAny_call_entry F.slot_tuple_iterator_next hj.typeIs F.entry_tuple_iterator_next ?_ (F.args_tuple_iterator_next_1 (.ref j))))
  refine wpAny_bind (m:=field (.ref j) 0) (wpAny_field hoj dj (x:=.ref l) rfl ?_)
  have nn:¬ ((Value.ref l == Value.none)=true):=Bool.false_ne_true
  show wpAny _ _ (ite ((Value.ref l == Value.none)=true) _ _) _ _ _
  rw [if_neg nn]
  refine wpAny_bind (m:=field (.ref j) 1) (wpAny_field hoj dj (x:=.int n 0) rfl ?_)
  refine wpAny_bind (m:=seqItems? (.ref l)) (wpAny_seqItems hol dl ?_)
  simp only [Int.toNat_natCast,hx]
  refine wpAny_bind (wpAny_rule (wpAny_bind (wpAny_setField hoj dj (by simp) ?_)))
  refine wpAny_bind (m:=newExc (.type "StopIteration") []) ?_
  unfold newExc newTuple
  refine wpAny_bind (wpAny_newObj_type (wpAny_bind (m:=firstArgMember _ _) (wpAny_of_eq (a:=Value.none) (by first | rfl | (simp only [firstArgMember]; rfl)) (wpAny_newObj_type ?_ (by size_fits)))) (by size_fits))
  unfold raiseNew
  refine wpAny_bind (wpAny_handled ?_)
  rw [show A.in1.handled=none from hA]
  exact wpAny_bind (wpAny_pure (wpAny_throw (q _ _ (((Heap.SameBut.update ..).extBut.push _).push _) ⟨_,Heap.get?_push_size _ rfl,rfl⟩)))
theorem sq_next {k:Bool} {j l:Addr} {n:Nat} {xs:Array Value} {x:Value} {Q:Value->Shared->Prop} (hj:SqI k s.heap j l n) (hl:Sq k s.heap l xs) (hx:xs[n]?=some x)
    (q:∀ h',SqI k h' j l (n + 1)->Heap.SameBut j s.heap h'->Q x { s with heap:=h' }):wpAny (model P w) A (Builtin.SmallTypes.nextOf (.ref j)) Q E s:=by
  cases k with
  | true=>exact wpAny_nextOf_list_item hj hl hx q
  | false=>exact tup_next hj hl hx q
theorem sq_end {k:Bool} {j l:Addr} {n:Nat} {xs:Array Value} {Q:Value->Shared->Prop} (hA:A.handled=none) (hj:SqI k s.heap j l n) (hl:Sq k s.heap l xs) (hx:xs[n]?=none)
    (q:∀ h' e,Heap.ExtBut j s.heap h'->(∃ o,h'.get? e=some o/\o.cls=.type "StopIteration")->E (.ref e) { s with heap:=h' }):wpAny (model P w) A (Builtin.SmallTypes.nextOf (.ref j)) Q E s:=by
  cases k with
  | true=>exact wpAny_nextOf_list_end hA hj hl hx q
  | false=>exact tup_end hA hj hl hx q
theorem sq_iter {k:Bool} {l:Addr} {xs:Array Value} {Q:Value->Shared->Prop} (hl:Sq k s.heap l xs) (q:Q (.ref s.heap.objs.size) { s with heap:=s.heap.push { cls:=.type (SqN k),data:=.fields #[.ref l,.int 0 0] } }) :
    wpAny (model P w) A (pyIter (.ref l)) Q E s:=by
  cases k with
  | true=>exact wpAny_pyIter_list hl q
  | false=>exact wpAny_pyIter_tuple hl q
end
abbrev za (k:Bool) (h:Heap) (l:Addr):Heap:=h.push { cls:=.type (SqN k),data:=.fields #[.ref l,.int 0 0] }
abbrev zb (k m:Bool) (h:Heap) (l r:Addr):Heap:=za m (za k h l) r
abbrev zc (k m:Bool) (h:Heap) (l r:Addr):Heap:=(zb k m h l r).push { cls:=.type "tuple",data:=.seq #[.ref h.objs.size,.ref (za k h l).objs.size] }
abbrev zd (k m:Bool) (h:Heap) (l r:Addr):Heap:=(zc k m h l r).push { cls:=.type "tuple",data:=.seq #[.none,.none] }
abbrev ze (k m:Bool) (h:Heap) (l r:Addr):Heap:=(zd k m h l r).push { cls:=.type "zip",data:=.fields #[.none,.bool false,.bool false,.ref (zb k m h l r).objs.size,.ref (zc k m h l r).objs.size] }
theorem zip_made (k m:Bool) (l r:Addr) (xs ys:Array Value):Meets (Builtin.«zip.__new__» ⟨[.type "zip",.ref l,.ref r],[]⟩)
    (fun _ R s=>Sq k s.heap l xs/\Sq m s.heap r ys/\R (.ok (.ret (.ref (zd k m s.heap l r).objs.size))) { s with heap:=ze k m s.heap l r }) :=
  .of_wp fun prog w A R s h=>by
    obtain ⟨hp,g,d,tk,os⟩:=s
    obtain ⟨h1,h2,h⟩:=h
    have hs:=sub_zip
    have q1:Sq k (Shared.heap ⟨hp,g,d,tk,os⟩) l xs:=h1
    have q2:Sq m (Shared.heap ⟨za k hp l,g,d,tk,os⟩) r ys:=h2.at fun o e=>Heap.get?_push_of_some _ e
    wp_walk using sq_iter q1,sq_iter q2
    exact ⟨_,rfl,h⟩
structure ZS (k m:Bool) (h:Heap) (B l r:Nat) (n:Nat) (f g:Value):Prop where
  z:h.get? (B + 4)=some { cls:=.type "zip",data:=.fields #[f,g,.bool false,.ref (B + 2),.ref (B + 3)] }
  ti:IsPair h (B + 2) (.ref B) (.ref (B + 1))
  to:∃ a b,IsPair h (B + 3) a b
  i:SqI k h B l n
  j:SqI m h (B + 1) r n
theorem ZS.at {k m:Bool} {h h':Heap} {B l r:Nat} {n:Nat} {f g:Value} (x:ZS k m h B l r n f g) (e:∀ (b:Nat) o,B<=b->b<=B + 4->h.get? b=some o->h'.get? b=some o):ZS k m h' B l r n f g where
  z:=e _ _ (by omega) (by omega) x.z
  ti:=e _ _ (by omega) (by omega) x.ti
  to:=let ⟨a,b,y⟩:=x.to; ⟨a,b,e _ _ (by omega) (by omega) y⟩
  i:=x.i.at fun o=>e _ o (by omega) (by omega)
  j:=x.j.at fun o=>e _ o (by omega) (by omega)
def KeptZ (B:Nat) (h h':Heap):Prop:=∀ (c:Nat) o,(c < B\/B + 4 < c)->h.get? c=some o->h'.get? c=some o
section
variable {P:Program} {w:World} {A:Around} {E:Value->Shared->Prop} {s:Shared} {k m:Bool} {B l r:Nat} {n:Nat} {xs ys:Array Value} {x y f g:Value}
theorem zip_call {Q:Value->Shared->Prop} (hl:Sq k s.heap l xs) (hr:Sq m s.heap r ys)
    (q:∀ h',ZS k m h' s.heap.objs.size l r 0 .none (.bool false)->h'.objs.size=s.heap.objs.size + 5->(∀ c o,s.heap.get? c=some o->h'.get? c=some o)->Q (.ref (s.heap.objs.size + 4)) { s with heap:=h' }) :
    wpAny (model P w) A (call (.type "zip") [.ref l,.ref r]) Q E s:=by
  apply callType_new F.called_zip (by decide) (F.typeCall_zip_2 _ _) (F.newCall_zip_2 _ _) (fun obj=>F.args_object_init_3 obj _ _) F.entry_zip_new (zip_made k m l r xs ys)
  refine ⟨hl,hr,?_⟩
  have s1:(za k s.heap l).objs.size=s.heap.objs.size + 1:=Heap.size_push ..
  have s2:(zb k m s.heap l r).objs.size=s.heap.objs.size + 2:=by rw [Heap.size_push,s1]
  have s3:(zc k m s.heap l r).objs.size=s.heap.objs.size + 3:=by rw [Heap.size_push,s2]
  have s4:(zd k m s.heap l r).objs.size=s.heap.objs.size + 4:=by rw [Heap.size_push,s3]
  have s5:(ze k m s.heap l r).objs.size=s.heap.objs.size + 5:=by rw [Heap.size_push,s4]
  have up:∀ {c o},(zd k m s.heap l r).get? c=some o->(ze k m s.heap l r).get? c=some o:=fun e=>Heap.get?_push_of_some _ e
  have p5:(ze k m s.heap l r).get? (zd k m s.heap l r).objs.size=some _:=Heap.get?_push_size _ rfl
  have p4:(ze k m s.heap l r).get? (zc k m s.heap l r).objs.size=some _:=up (Heap.get?_push_size _ rfl)
  have p3:(ze k m s.heap l r).get? (zb k m s.heap l r).objs.size=some _:=up (Heap.get?_push_of_some _ (Heap.get?_push_size _ rfl))
  have p2:(ze k m s.heap l r).get? (za k s.heap l).objs.size=some _:=up (Heap.get?_push_of_some _ (Heap.get?_push_of_some _ (Heap.get?_push_size _ rfl)))
  have p1:(ze k m s.heap l r).get? s.heap.objs.size=some _:=up (Heap.get?_push_of_some _ (Heap.get?_push_of_some _ (Heap.get?_push_of_some _ (Heap.get?_push_size _ rfl))))
  rw [s4,s2,s3] at p5
  rw [s3] at p4
  rw [s2,s1] at p3
  rw [s1] at p2
  show _/\_
  rw [s4]
  exact ⟨⟨_,p5,rfl⟩,q _ ⟨p5,p3,⟨_,_,p4⟩,.of ⟨_,p1,rfl,rfl⟩,.of ⟨_,p2,rfl,rfl⟩⟩ s5 fun c o e=>up (Heap.get?_push_of_some _ (Heap.get?_push_of_some _ (Heap.get?_push_of_some _ (Heap.get?_push_of_some _ e))))⟩
theorem zip_free {Q:Value->Shared->Prop} (Z:ZS k m s.heap B l r n .none g) (hl:Sq k s.heap l xs) (hr:Sq m s.heap r ys) (ll:l < B) (rl:r < B) (hx:xs[n]?=some x) (hy:ys[n]?=some y)
    (q:∀ h',ZS k m h' B l r (n + 1) (rawInt s.heap.objs.size) (.bool false)->IsPair h' s.heap.objs.size x y->h'.objs.size=s.heap.objs.size + 1->KeptZ B s.heap h'->Q (.ref s.heap.objs.size) { s with heap:=h' }) :
    wpAny (model P w) A (Builtin.«zip.__next__» ⟨[.ref (B + 4)],[]⟩) (fun fin s'=>∃ v,fin=.done (.ret v)/\Q v s') E s:=by
  obtain ⟨a,b,hto⟩:=Z.to
  refine wpAny_bind (m:=field (.ref (B + 4)) 2) (wpAny_field Z.z rfl (x:=.bool false) rfl ?_)
  refine wpAny_bind (m:=field (.ref (B + 4)) 3) (wpAny_field Z.z rfl (x:=.ref (B + 2)) rfl (wpAny_bind (wpAny_seqItems Z.ti rfl ?_)))
  refine wpAny_bind (m:=Builtin.SmallTypes.ownedTupleIsFree (.ref (B + 4))) ?_
  unfold Builtin.SmallTypes.ownedTupleIsFree
  refine wpAny_bind (wpAny_field Z.z rfl (x:=.none) rfl (wpAny_pure ?_))
  rw [if_pos rfl]
  refine wpAny_bind (wpAny_rule (wpAny_bind (wpAny_field Z.z rfl (x:=.ref (B + 3)) rfl (wpAny_bind (wpAny_setField_rec Z.z (by simp) fun h1 z1 u1=>wpAny_bind ?_)))))
  replace z1:h1.get? (B + 4)=some { cls:=.type "zip",data:=.fields #[.ellipsis,g,.bool false,.ref (B + 2),.ref (B + 3)] }:=z1
  have k1:∀ (c:Nat) o,c≠B + 4->s.heap.get? c=some o->h1.get? c=some o:=fun c o n e=>(u1.2 c n).trans e
  simp only [List.zipIdx_cons,List.zipIdx_nil,List.forIn_cons,List.forIn_nil]
  refine wpAny_bind (wpAny_bind (wpAny_onRaise (wpAny_bind (m:=Builtin.SmallTypes.nextOf (.ref B)) ?_)))
  refine sq_next (Z.i.at fun o=>k1 _ o (by omega)) (hl.at fun o=>k1 _ o (by omega)) hx fun h2 i2 u2=>wpAny_pure ?_
  have k2:∀ (c:Nat) o,c≠B->h1.get? c=some o->h2.get? c=some o:=fun c o n e=>(u2.2 c n).trans e
  have to2:IsPair h2 (B + 3) a b:=k2 _ _ (by omega) (k1 _ _ (by omega) hto)
  refine wpAny_bind (wpAny_seqItems to2 rfl (wpAny_bind (wpAny_updateSeq_pair to2 fun h3 to3 u3=>?_)))
  replace to3:IsPair h3 (B + 3) x b:=to3
  have k3:∀ (c:Nat) o,c≠B + 3->h2.get? c=some o->h3.get? c=some o:=fun c o n e=>(u3.2 c n).trans e
  refine wpAny_bind (wpAny_letGo (wpAny_pure (wpAny_bind (wpAny_bind (wpAny_onRaise (wpAny_bind (m:=Builtin.SmallTypes.nextOf (.ref (B + 1))) ?_))))))
  refine sq_next (Z.j.at fun o e=>k3 _ o (by omega) (k2 _ o (by omega) (k1 _ o (by omega) e))) (hr.at fun o e=>k3 _ o (by omega) (k2 _ o (by omega) (k1 _ o (by omega) e))) hy fun h4 i4 u4=>wpAny_pure ?_
  have k4:∀ (c:Nat) o,c≠B + 1->h3.get? c=some o->h4.get? c=some o:=fun c o n e=>(u4.2 c n).trans e
  have to4:IsPair h4 (B + 3) x b:=k4 _ _ (by omega) to3
  refine wpAny_bind (wpAny_seqItems to4 rfl (wpAny_bind (wpAny_updateSeq_pair to4 fun h5 to5 u5=>?_)))
  replace to5:IsPair h5 (B + 3) x y:=to5
  have k5:∀ (c:Nat) o,c≠B + 3->h4.get? c=some o->h5.get? c=some o:=fun c o n e=>(u5.2 c n).trans e
  refine wpAny_bind (wpAny_letGo (wpAny_pure (wpAny_pure (wpAny_bind (wpAny_seqItems to5 rfl (wpAny_bind (wpAny_newTuple ?_)))))))
  have sz:h5.objs.size=s.heap.objs.size:=by rw [u5.1,u4.1,u3.1,u2.1,u1.1]
  have z5:h5.get? (B + 4)=some { cls:=.type "zip",data:=.fields #[.ellipsis,g,.bool false,.ref (B + 2),.ref (B + 3)] }:=k5 _ _ (by omega) (k4 _ _ (by omega) (k3 _ _ (by omega) (k2 _ _ (by omega) z1)))
  have lt4:B + 4 < h5.objs.size:=Heap.lt_size z5
  refine wpAny_bind (m:=Builtin.SmallTypes.ownedTupleHandOut (.ref (B + 4)) (.ref h5.objs.size)) ?_
  unfold Builtin.SmallTypes.ownedTupleHandOut
  refine wpAny_bind (wpAny_setField_rec (Heap.get?_push_of_some { cls:=.type "tuple",data:=.seq #[x,y] } z5) (by simp) fun h7 z7 u7=>?_)
  refine wpAny_setField_rec z7 (by simp) fun h8 z8 u8=>wpAny_pure ⟨.ref h5.objs.size,rfl,?_⟩
  have k8:∀ (c:Nat) o,c≠B + 4->h5.get? c=some o->h8.get? c=some o:=fun c o n e=>(u8.2 c n).trans ((u7.2 c n).trans (Heap.get?_push_of_some _ e))
  have p8:IsPair h8 h5.objs.size x y:=(u8.2 _ (Nat.ne_of_gt lt4)).trans ((u7.2 _ (Nat.ne_of_gt lt4)).trans (Heap.get?_push_size _ rfl))
  have s8:h8.objs.size=h5.objs.size + 1:=by rw [u8.1,u7.1,Heap.size_push]
  rw [sz] at p8 s8 ⊢
  refine q h8 ⟨?_,k8 _ _ (by omega) (k5 _ _ (by omega) (k4 _ _ (by omega) (k3 _ _ (by omega) (k2 _ _ (by omega) (k1 _ _ (by omega) Z.ti))))),⟨x,y,k8 _ _ (by omega) to5⟩,
    i2.at fun o e=>k8 _ _ (by omega) (k5 _ _ (by omega) (k4 _ _ (by omega) (k3 _ _ (by omega) e))),i4.at fun o e=>k8 _ _ (by omega) (k5 _ _ (by omega) e)⟩ p8 s8
    fun c o hc e=>k8 _ _ (by omega) (k5 _ _ (by omega) (k4 _ _ (by omega) (k3 _ _ (by omega) (k2 _ _ (by omega) (k1 _ _ (by omega) e)))))
  rw [<- sz]
  exact z8
theorem if_alive {a:Addr} {o:Obj} {Q:Option Obj->Shared->Prop} (ho:s.heap.get? a=some o) (h:Q (some o) s):wpAny (model P w) A (loadIfAlive a) Q E s:=fun Γ p _=>by
  unfold loadIfAlive
  rw [Sem.wp_loadIfAlive,ho]
  simpa using h
theorem own_held {Q:Bool->Shared->Prop} {T:Nat} {ot:Obj} {c:Bool} (hz:s.heap.get? (B + 4)=some { cls:=.type "zip",data:=.fields #[rawInt T,.bool c,.bool false,.ref (B + 2),.ref (B + 3)] }) (hT:s.heap.get? T=some ot)
    (q:∀ h1,h1.get? (B + 4)=some { cls:=.type "zip",data:=.fields #[rawInt T,.bool true,.bool false,.ref (B + 2),.ref (B + 3)] }->h1.objs.size=s.heap.objs.size->(∀ (d:Nat) o,d≠B + 4->s.heap.get? d=some o->h1.get? d=some o)->Q false { s with heap:=h1 }) :
    wpAny (model P w) A (Builtin.SmallTypes.ownedTupleIsFree (.ref (B + 4))) Q E s:=by
  unfold Builtin.SmallTypes.ownedTupleIsFree
  refine wpAny_bind (wpAny_field hz rfl (x:=rawInt T) rfl ?_)
  refine wpAny_bind (m:=loadIfAlive ((T:Int).toNat)) (if_alive (o:=ot) (by rw [Int.toNat_natCast]; exact hT) ?_)
  rw [if_neg (by simp)]
  refine wpAny_bind (wpAny_field hz rfl (x:=.bool c) rfl ?_)
  cases c with
  | true =>
    rw [if_neg (by decide)]
    exact wpAny_pure (q _ hz rfl fun d o _ e=>e)
  | false =>
    rw [if_pos (by decide)]
    exact wpAny_bind (wpAny_setField_rec hz (by simp) fun h1 z1 u1=>wpAny_pure (q h1 z1 u1.1 fun d o n e=>(u1.2 d n).trans e))
theorem zip_held {Q:Value->Shared->Prop} {T:Nat} {ot:Obj} {c:Bool} (Z:ZS k m s.heap B l r n (rawInt T) (.bool c)) (hT:s.heap.get? T=some ot) (hl:Sq k s.heap l xs) (hr:Sq m s.heap r ys) (ll:l < B) (rl:r < B) (hx:xs[n]?=some x) (hy:ys[n]?=some y)
    (q:∀ h',ZS k m h' B l r (n + 1) (rawInt T) (.bool true)->IsPair h' s.heap.objs.size x y->h'.objs.size=s.heap.objs.size + 1->KeptZ B s.heap h'->Q (.ref s.heap.objs.size) { s with heap:=h' }) :
    wpAny (model P w) A (Builtin.«zip.__next__» ⟨[.ref (B + 4)],[]⟩) (fun fin s'=>∃ v,fin=.done (.ret v)/\Q v s') E s:=by
  obtain ⟨a,b,hto⟩:=Z.to
  refine wpAny_bind (m:=field (.ref (B + 4)) 2) (wpAny_field Z.z rfl (x:=.bool false) rfl ?_)
  refine wpAny_bind (m:=field (.ref (B + 4)) 3) (wpAny_field Z.z rfl (x:=.ref (B + 2)) rfl (wpAny_bind (wpAny_seqItems Z.ti rfl ?_)))
  refine wpAny_bind (m:=Builtin.SmallTypes.ownedTupleIsFree (.ref (B + 4))) (own_held Z.z hT fun h1 z1 s1 k1=>?_)
  rw [if_neg Bool.false_ne_true]
  refine wpAny_bind ?_
  rw [<- Array.forIn_toList]
  simp only [List.forIn_cons,List.forIn_nil]
  refine wpAny_bind (wpAny_bind (wpAny_holding (wpAny_bind (m:=Builtin.SmallTypes.nextOf (.ref B)) ?_)))
  refine sq_next (Z.i.at fun o=>k1 _ o (by omega)) (hl.at fun o=>k1 _ o (by omega)) hx fun h2 i2 u2=>wpAny_pure (wpAny_pure ?_)
  have k2:∀ (c:Nat) o,c≠B->h1.get? c=some o->h2.get? c=some o:=fun c o n e=>(u2.2 c n).trans e
  refine wpAny_bind (wpAny_bind (wpAny_holding (wpAny_bind (m:=Builtin.SmallTypes.nextOf (.ref (B + 1))) ?_)))
  refine sq_next (Z.j.at fun o e=>k2 _ o (by omega) (k1 _ o (by omega) e)) (hr.at fun o e=>k2 _ o (by omega) (k1 _ o (by omega) e)) hy fun h4 i4 u4=>wpAny_pure (wpAny_pure (wpAny_pure ?_))
  have k4:∀ (c:Nat) o,c≠B + 1->h2.get? c=some o->h4.get? c=some o:=fun c o n e=>(u4.2 c n).trans e
  have sz:h4.objs.size=s.heap.objs.size:=by rw [u4.1,u2.1]; exact s1
  refine wpAny_bind (wpAny_newTuple (hsz:=by show 2<=sizeLine; decide) (wpAny_pure ⟨.ref h4.objs.size,rfl,?_⟩))
  have p5:IsPair (h4.push { cls:=.type "tuple",data:=.seq #[x,y] }) h4.objs.size x y:=Heap.get?_push_size _ rfl
  have s5:(h4.push { cls:=.type "tuple",data:=.seq #[x,y] }).objs.size=h4.objs.size + 1:=Heap.size_push ..
  rw [sz] at p5 s5 ⊢
  have k5:∀ (c:Nat) o,h4.get? c=some o->(h4.push { cls:=.type "tuple",data:=.seq #[x,y] }).get? c=some o:=fun c o e=>Heap.get?_push_of_some _ e
  exact q _ ⟨k5 _ _ (k4 _ _ (by omega) (k2 _ _ (by omega) z1)),k5 _ _ (k4 _ _ (by omega) (k2 _ _ (by omega) (k1 _ _ (by omega) Z.ti))),⟨a,b,k5 _ _ (k4 _ _ (by omega) (k2 _ _ (by omega) (k1 _ _ (by omega) hto)))⟩,
    i2.at fun o e=>k5 _ _ (k4 _ _ (by omega) e),i4.at fun o e=>k5 _ _ e⟩ p5 s5 fun c o hc e=>k5 _ _ (k4 _ _ (by omega) (k2 _ _ (by omega) (k1 _ _ (by omega) e)))
theorem zip_out {Q:PySem.Fin->Shared->Prop} (hA:A.handled=none) (Z:ZS k m s.heap B l r n .none g) (hl:Sq k s.heap l xs) (hr:Sq m s.heap r ys) (ll:l < B) (rl:r < B) (hx:xs[n]?=none\/ys[n]?=none)
    (q:∀ h' e,KeptZ B s.heap h'->(∃ o,h'.get? e=some o/\o.cls=.type "StopIteration")->E (.ref e) { s with heap:=h' }):wpAny (model P w) A (Builtin.«zip.__next__» ⟨[.ref (B + 4)],[]⟩) Q E s:=by
  obtain ⟨a,b,hto⟩:=Z.to
  refine wpAny_bind (m:=field (.ref (B + 4)) 2) (wpAny_field Z.z rfl (x:=.bool false) rfl ?_)
  refine wpAny_bind (m:=field (.ref (B + 4)) 3) (wpAny_field Z.z rfl (x:=.ref (B + 2)) rfl (wpAny_bind (wpAny_seqItems Z.ti rfl ?_)))
  refine wpAny_bind (m:=Builtin.SmallTypes.ownedTupleIsFree (.ref (B + 4))) ?_
  unfold Builtin.SmallTypes.ownedTupleIsFree
  refine wpAny_bind (wpAny_field Z.z rfl (x:=.none) rfl (wpAny_pure ?_))
  rw [if_pos rfl]
  refine wpAny_bind (wpAny_rule (wpAny_bind (wpAny_field Z.z rfl (x:=.ref (B + 3)) rfl (wpAny_bind (wpAny_setField_rec Z.z (by simp) fun h1 z1 u1=>wpAny_bind ?_)))))
  replace z1:h1.get? (B + 4)=some { cls:=.type "zip",data:=.fields #[.ellipsis,g,.bool false,.ref (B + 2),.ref (B + 3)] }:=z1
  have k1:∀ (c:Nat) o,c≠B + 4->s.heap.get? c=some o->h1.get? c=some o:=fun c o n e=>(u1.2 c n).trans e
  have nz:∀ {h:Heap} {e:Nat} {v:Value} {o:Obj},h.get? (B + 4)=some { cls:=.type "zip",data:=.fields #[v,g,.bool false,.ref (B + 2),.ref (B + 3)] }->h.get? e=some o->o.cls=.type "StopIteration"->e≠B + 4:=fun h1 h2 h3 e=>by
    rw [e,h1] at h2
    cases h2
    simp at h3
  simp only [List.zipIdx_cons,List.zipIdx_nil,List.forIn_cons,List.forIn_nil]
  refine wpAny_bind (wpAny_bind (wpAny_onRaise (wpAny_bind (m:=Builtin.SmallTypes.nextOf (.ref B)) ?_)))
  cases e1:xs[n]? with
  | none =>
    refine sq_end hA (Z.i.at fun o=>k1 _ o (by omega)) (hl.at fun o=>k1 _ o (by omega)) e1 fun h2 e u2 he=>?_
    obtain ⟨oe,he,ce⟩:=he
    have k2:∀ (c:Nat) o,c≠B->h1.get? c=some o->h2.get? c=some o:=fun c o n e=>u2 c o n e
    have z2:=k2 _ _ (show B + 4≠B by omega) z1
    refine wpAny_setField_rec z2 (by simp) fun h3 z3 u3=>q h3 e (fun c o hc x=>(u3.2 c (show (c:Nat)≠B + 4 by omega)).trans (k2 _ _ (by omega) (k1 _ _ (by omega) x))) ⟨oe,(u3.2 e (nz z2 he ce)).trans he,ce⟩
  | some x =>
    have hy:ys[n]?=none:=hx.resolve_left (by rw [e1]; simp)
    refine sq_next (Z.i.at fun o=>k1 _ o (by omega)) (hl.at fun o=>k1 _ o (by omega)) e1 fun h2 i2 u2=>wpAny_pure ?_
    have k2:∀ (c:Nat) o,c≠B->h1.get? c=some o->h2.get? c=some o:=fun c o n e=>(u2.2 c n).trans e
    have to2:IsPair h2 (B + 3) a b:=k2 _ _ (by omega) (k1 _ _ (by omega) hto)
    refine wpAny_bind (wpAny_seqItems to2 rfl (wpAny_bind (wpAny_updateSeq_pair to2 fun h3 to3 u3=>?_)))
    have k3:∀ (c:Nat) o,c≠B + 3->h2.get? c=some o->h3.get? c=some o:=fun c o n e=>(u3.2 c n).trans e
    refine wpAny_bind (wpAny_letGo (wpAny_pure (wpAny_bind (wpAny_bind (wpAny_onRaise (wpAny_bind (m:=Builtin.SmallTypes.nextOf (.ref (B + 1))) ?_))))))
    refine sq_end hA (Z.j.at fun o e=>k3 _ o (by omega) (k2 _ o (by omega) (k1 _ o (by omega) e))) (hr.at fun o e=>k3 _ o (by omega) (k2 _ o (by omega) (k1 _ o (by omega) e))) hy fun h4 e u4 he=>?_
    obtain ⟨oe,he,ce⟩:=he
    have k4:∀ (c:Nat) o,c≠B + 1->h3.get? c=some o->h4.get? c=some o:=fun c o n e=>u4 c o n e
    have z4:=k4 _ _ (show B + 4≠B + 1 by omega) (k3 _ _ (by omega) (k2 _ _ (by omega) z1))
    refine wpAny_setField_rec z4 (by simp) fun h5 z5 u5=>q h5 e (fun c o hc x=>(u5.2 c (show (c:Nat)≠B + 4 by omega)).trans (k4 _ _ (by omega) (k3 _ _ (by omega) (k2 _ _ (by omega) (k1 _ _ (by omega) x))))) ⟨oe,(u5.2 e (nz z4 he ce)).trans he,ce⟩
theorem zip_out_held {Q:PySem.Fin->Shared->Prop} {T:Nat} {ot:Obj} {c:Bool} (hA:A.handled=none) (Z:ZS k m s.heap B l r n (rawInt T) (.bool c)) (hT:s.heap.get? T=some ot) (hl:Sq k s.heap l xs) (hr:Sq m s.heap r ys) (ll:l < B) (rl:r < B) (hx:xs[n]?=none\/ys[n]?=none)
    (q:∀ h' e,KeptZ B s.heap h'->(∃ o,h'.get? e=some o/\o.cls=.type "StopIteration")->E (.ref e) { s with heap:=h' }):wpAny (model P w) A (Builtin.«zip.__next__» ⟨[.ref (B + 4)],[]⟩) Q E s:=by
  refine wpAny_bind (m:=field (.ref (B + 4)) 2) (wpAny_field Z.z rfl (x:=.bool false) rfl ?_)
  refine wpAny_bind (m:=field (.ref (B + 4)) 3) (wpAny_field Z.z rfl (x:=.ref (B + 2)) rfl (wpAny_bind (wpAny_seqItems Z.ti rfl ?_)))
  refine wpAny_bind (m:=Builtin.SmallTypes.ownedTupleIsFree (.ref (B + 4))) (own_held Z.z hT fun h1 z1 s1 k1=>?_)
  rw [if_neg Bool.false_ne_true]
  refine wpAny_bind ?_
  rw [<- Array.forIn_toList]
  simp only [List.forIn_cons,List.forIn_nil]
  refine wpAny_bind (wpAny_bind (wpAny_holding (wpAny_bind (m:=Builtin.SmallTypes.nextOf (.ref B)) ?_)))
  cases e1:xs[n]? with
  | none=>exact sq_end hA (Z.i.at fun o=>k1 _ o (by omega)) (hl.at fun o=>k1 _ o (by omega)) e1 fun h2 e u2 he=>q h2 e (fun c o hc x=>u2 _ _ (show (c:Nat)≠B by omega) (k1 _ _ (by omega) x)) he
  | some x =>
    have hy:ys[n]?=none:=hx.resolve_left (by rw [e1]; simp)
    refine sq_next (Z.i.at fun o=>k1 _ o (by omega)) (hl.at fun o=>k1 _ o (by omega)) e1 fun h2 i2 u2=>wpAny_pure (wpAny_pure ?_)
    have k2:∀ (c:Nat) o,c≠B->h1.get? c=some o->h2.get? c=some o:=fun c o n e=>(u2.2 c n).trans e
    refine wpAny_bind (wpAny_bind (wpAny_holding (wpAny_bind (m:=Builtin.SmallTypes.nextOf (.ref (B + 1))) ?_)))
    exact sq_end hA (Z.j.at fun o e=>k2 _ o (by omega) (k1 _ o (by omega) e)) (hr.at fun o e=>k2 _ o (by omega) (k1 _ o (by omega) e)) hy fun h4 e u4 he=>q h4 e (fun c o hc x=>u4 _ _ (show (c:Nat)≠B + 1 by omega) (k2 _ _ (by omega) (k1 _ _ (by omega) x))) he
end
end L2
namespace L2
open PySem PySem.Spec PyProof.Rows
def ZF (B:Nat) (h:Heap) (f g:Value):Prop:=f=.none\/∃ (T:Nat) (c:Bool) (o:Obj),f=rawInt T/\g=.bool c/\h.get? T=some o/\B + 5 < T
section
variable {P:Program} {w:World} {A:Around} {E:Value->Shared->Prop} {s:Shared} {k m:Bool} {B l r:Nat} {n:Nat} {xs ys:Array Value} {x y f g:Value}
theorem zip_step {Q:Option Value->Shared->Prop} (Z:ZS k m s.heap B l r n f g) (hf:ZF B s.heap f g) (hl:Sq k s.heap l xs) (hr:Sq m s.heap r ys) (ll:l < B) (rl:r < B) (hx:xs[n]?=some x) (hy:ys[n]?=some y)
    (q:∀ h' (T:Nat) (c:Bool),ZS k m h' B l r (n + 1) (rawInt T) (.bool c)->(T=s.heap.objs.size\/B + 5 < T/\∃ o,s.heap.get? T=some o)->IsPair h' s.heap.objs.size x y->h'.objs.size=s.heap.objs.size + 1->KeptZ B s.heap h'->Q (some (.ref s.heap.objs.size)) { s with heap:=h' }) :
    wpAny (model P w) A (pyNext (.ref (B + 4))) Q E s:=by
  have ty:s.TypeIs (.ref (B + 4)) "zip":=⟨_,Z.z,rfl⟩
  unfold pyNext
  refine wpAny_bind (wpAny_attempt (wpAny_callSpecial?_slot ty F.slot_zip_next (wpAny_call_entry F.slot_zip_next ty F.entry_zip_next ?_ (F.args_zip_next_1 (.ref (B + 4))))))
  rcases hf with rfl | ⟨T,c,o,rfl,rfl,hT,lT⟩
  · exact zip_free Z hl hr ll rl hx hy fun h' z p sz kz=>wpAny_pure (q h' _ _ z (.inl rfl) p sz kz)
  · exact zip_held Z hT hl hr ll rl hx hy fun h' z p sz kz=>wpAny_pure (q h' _ _ z (.inr ⟨lT,o,hT⟩) p sz kz)
theorem zip_stop {Q:Option Value->Shared->Prop} (hA:A.handled=none) (Z:ZS k m s.heap B l r n f g) (hf:ZF B s.heap f g) (hl:Sq k s.heap l xs) (hr:Sq m s.heap r ys) (ll:l < B) (rl:r < B) (hx:xs[n]?=none\/ys[n]?=none)
    (q:∀ h',KeptZ B s.heap h'->Q none { s with heap:=h' }):wpAny (model P w) A (pyNext (.ref (B + 4))) Q E s:=by
  have ty:s.TypeIs (.ref (B + 4)) "zip":=⟨_,Z.z,rfl⟩
  unfold pyNext
  refine wpAny_bind (wpAny_attempt (wpAny_callSpecial?_slot ty F.slot_zip_next (wpAny_call_entry F.slot_zip_next ty F.entry_zip_next ?_ (F.args_zip_next_1 (.ref (B + 4))))))
  have fin:∀ h' e,KeptZ B s.heap h'->(∃ o,h'.get? e=some o/\o.cls=.type "StopIteration")->wpAny (model P w) A (do
      if <- isInstance (.ref e) (.type "StopIteration") then pure none else throw (.ref e)) Q E { s with heap:=h' }:=by
    intro h' e kz ⟨o,ho,hc⟩
    exact wpAny_bind (wpAny_isInstance (T:="StopIteration") (b:=true) ⟨o,ho,hc⟩ isSubtype_stop (wpAny_pure (q _ kz)))
  rcases hf with rfl | ⟨T,c,o,rfl,rfl,hT,lT⟩
  · exact zip_out hA Z hl hr ll rl hx fun h' e kz he=>fin h' e kz he
  · exact zip_out_held hA Z hT hl hr ll rl hx fun h' e kz he=>fin h' e kz he
end
structure ZL (k m:Bool) (h0 h:Heap) (B l r n:Nat) (xs ys acc:Array Value) (c:Nat) (f g:Value):Prop where
  zs:ZS k m h B l r n f g
  zf:ZF B h f g
  hl:Sq k h l xs
  hr:Sq m h r ys
  sz:h.objs.size=B + 6 + n
  lst:h.get? (B + 5)=some { cls:=.type "list",data:=.seq acc c }
  asz:acc.size=n
  par:∀ i x y,i < n->xs[i]?=some x->ys[i]?=some y->acc[i]?=some (.ref (B + 6 + i))/\IsPair h (B + 6 + i) x y
  old:∀ (b:Nat) o,b < B->h0.get? b=some o->h.get? b=some o
section
variable {P:Program} {w:World} {A:Around} {R:Result->Shared->Prop} {h0:Heap} {k m:Bool} {B l r N:Nat} {xs ys:Array Value} {res:Value}
end
end L2
namespace L2
open PySem PySem.Spec PyProof.Rows
section
variable {P:Program} {w:World} {A:Around} {E:Value->Shared->Prop} {s:Shared} {k m:Bool} {B l r N:Nat} {xs ys:Array Value}
end
theorem Inv.sq {X:Cx} {pins:List (Addr × Obj)} {σ:St} {H:Hp} {s:Shared} {a:Addr} {xs:List V} (I:Inv X pins σ H s) (h:SqL X.K H a xs\/SqT X.K H a xs):∃ (k:Bool) (its:List Value),Vals xs its/\Sq k s.heap a its.toArray/\xs.length<=sizeLine/\(a:Nat) < s.heap.objs.size:=by
  rcases h with h | h
  · obtain ⟨its,r,p,z⟩:=I.list h
    have ⟨o,n,e,_⟩:=p
    exact ⟨true,its,r,p.isList,z,Heap.lt_size e⟩
  · obtain ⟨its,r,p,z⟩:=I.tuple h
    have ⟨o,e,_⟩:=p
    exact ⟨false,its,r,p,z,Heap.lt_size e⟩
section
variable {X:Cx} {a b:Expr} {ta:TA} {p1 p2 pos1 pos2:Pos}
end
end L2
namespace L2
open PySem PySem.Spec PyProof.Rows
def SqK (k:Bool) (K:PySem.W.Frag) (H:Hp) (a:Addr) (xs:List V):Prop:=match k with
  | true=>SqL K H a xs
  | false=>SqT K H a xs
theorem Inv.sqk {X:Cx} {pins:List (Addr × Obj)} {σ:St} {H:Hp} {s:Shared} {k:Bool} {a:Addr} {xs:List V} (I:Inv X pins σ H s) (h:SqK k X.K H a xs):∃ its:List Value,Vals xs its/\Sq k s.heap a its.toArray/\xs.length<=sizeLine/\(a:Nat) < s.heap.objs.size:=by
  cases k with
  | true =>
    obtain ⟨its,r,p,z⟩:=I.list h
    have ⟨o,n,e,_⟩:=p
    exact ⟨its,r,p.isList,z,Heap.lt_size e⟩
  | false =>
    obtain ⟨its,r,p,z⟩:=I.tuple h
    have ⟨o,e,_⟩:=p
    exact ⟨its,r,p,z,Heap.lt_size e⟩
theorem Inv.sqk_inj {X:Cx} {pins:List (Addr × Obj)} {σ:St} {H:Hp} {s:Shared} {k:Bool} {a:Addr} {xs ys:List V} (I:Inv X pins σ H s) (h:SqK k X.K H a xs) (h':SqK k X.K H a ys):xs=ys:=by
  cases k with
  | true=>exact I.list_inj h h'
  | false=>exact I.tuple_inj h h'
def Itz (K:PySem.W.Frag) (k m:Bool) (a b:Addr):It :=
  ⟨fun i H=>∃ xs ys x y,SqK k K H a xs/\SqK m K H b ys/\xs[i]?=some x/\ys[i]?=some y,
   fun i H v H'=>∃ T x y,v=.ref T/\H T=none/\H'=upd H T (.tup [x,y])/\(∀ xs,SqK k K H a xs->xs[i]?=some x)/\∀ ys,SqK m K H b ys->ys[i]?=some y,
   fun i H=>∃ xs ys,SqK k K H a xs/\SqK m K H b ys/\(xs.length<=i\/ys.length<=i)⟩
theorem KeptZ.of {B:Nat} {h h':Heap} (z:KeptZ B h h'):∀ (b:Nat) o,b ∉ [B,B + 1,B + 2,B + 3,B + 4]->h.get? b=some o->h'.get? b=some o:=fun b o n e=>z b o (by simp only [List.mem_cons,List.not_mem_nil,or_false,not_or] at n; omega) e
theorem zip_obj {k m:Bool} {h:Heap} {B l r n:Nat} {f g:Value} (Z:ZS k m h B l r n f g):∀ b∈[B,B + 1,B + 2,B + 3,B + 4],∃ o,h.get? b=some o/\∀ v,o.data≠.cell v:=by
  intro b hb
  simp only [List.mem_cons,List.not_mem_nil,or_false] at hb
  rcases hb with rfl | rfl | rfl | rfl | rfl
  · obtain ⟨o,e,_,d⟩:=Z.i.ex
    exact ⟨o,e,fun v z=>by rw [d] at z; cases z⟩
  · obtain ⟨o,e,_,d⟩:=Z.j.ex
    exact ⟨o,e,fun v z=>by rw [d] at z; cases z⟩
  · exact ⟨_,Z.ti,fun v z=>by cases z⟩
  · obtain ⟨x,y,e⟩:=Z.to
    exact ⟨_,e,fun v z=>by cases z⟩
  · exact ⟨_,Z.z,fun v z=>by cases z⟩
theorem turn_zip {P:Program} {w:World} {K:PySem.W.Frag} {elts:List Expr} {n:Nat} {pos:Pos} {k m:Bool} {a b:Addr} {B:Nat} (la:(a:Nat) < B) (lb:(b:Nat) < B) :
    Turn P w K (.Tuple elts n pos) (Itz K k m a b) [B,B + 1,B + 2,B + 3,B + 4] (B + 4) (fun i h=>ZS k m h B a b i .none (.bool false)) where
  mem:=by simp
  obj:=fun i h st=>zip_obj st
  keep:=fun i h h' st kp=>st.at fun c o h1 h2 e=>kp c (by
    have:c=B\/c=B + 1\/c=B + 2\/c=B + 3\/c=B + 4:=by omega
    simpa using this) o e
  item:=by
    intro X hP hw hK hc i pins s σ H E I hf st hg
    subst hP hw hK
    obtain ⟨xs,ys,x,y,h1,h2,hx,hy⟩:=hg
    obtain ⟨i1,v1,q1,z1,l1⟩:=I.sqk h1
    obtain ⟨i2,v2,q2,z2,l2⟩:=I.sqk h2
    obtain ⟨u,eu,ru⟩:=v1.get hx
    obtain ⟨v,ev,rv⟩:=v2.get hy
    have ty:s.TypeIs (.ref (B + 4)) "zip":=⟨_,st.z,rfl⟩
    unfold pyNext
    refine wpAny_bind (wpAny_attempt (wpAny_callSpecial?_slot ty F.slot_zip_next (wpAny_call_entry F.slot_zip_next ty F.entry_zip_next ?_ (F.args_zip_next_1 (.ref (B + 4))))))
    refine zip_free st q1 q2 la lb (by simpa using eu) (by simpa using ev) fun h' z p sz kz=>wpAny_pure ⟨_,rfl,?_⟩
    have new:ObjOk X.prog X.w (upd H s.heap.objs.size (.tup [x,y])) h' s.heap.objs.size (.tup [x,y]):=⟨by show 2<=sizeLine; decide,[u,v],.cons ru (.cons rv .nil),⟨_,p,rfl,rfl,_,rfl⟩⟩
    have I1:Inv X pins σ (upd H s.heap.objs.size (.tup [x,y])) { s with heap:=h' }:=I.turnsLaid (t':=s.toks) (ch:=[B,B + 1,B + 2,B + 3,B + 4]) kz.of hf (Nat.le_refl _) new
    have hn:∀ c∈[B,B + 1,B + 2,B + 3,B + 4],upd H s.heap.objs.size (.tup [x,y]) c=none:=fun c hc=>by
      obtain ⟨o,e,_⟩:=zip_obj st c hc
      rw [upd_ne (Nat.ne_of_lt (Heap.lt_size e))]
      exact (hf c hc).1
    have hf1:∀ c∈[B,B + 1,B + 2,B + 3,B + 4],FpOk X pins (upd H s.heap.objs.size (.tup [x,y])) c:=fun c hc=>⟨hn c hc,(hf c hc).2⟩
    refine wpAny_letOwnedTupleGo_zip z.z fun h3 z2 u2=>?_
    have I2:Inv X pins σ (upd H s.heap.objs.size (.tup [x,y])) { s with heap:=h3 }:=Inv.turns (s:={ s with heap:=h' }) (t':=s.toks) (ch:=[B,B + 1,B + 2,B + 3,B + 4]) I1 (fun c o hc e=>(u2.2 c fun z=>hc (by simp [z])).trans e) hf1
    refine ⟨.ref s.heap.objs.size,_,I2,rfl,⟨_,x,y,rfl,I.fresh,rfl,fun zs hz=>by rw [I.sqk_inj hz h1]; exact hx,fun zs hz=>by rw [I.sqk_inj hz h2]; exact hy⟩,?_,hn⟩
    have up:∀ (c:Nat) o,c≠B + 4->h'.get? c=some o->h3.get? c=some o:=fun c o n e=>(u2.2 c n).trans e
    exact ⟨z2,up _ _ (by omega) z.ti,let ⟨c,d,e⟩:=z.to; ⟨c,d,up _ _ (by omega) e⟩,z.i.at fun o e=>up _ _ (by omega) e,z.j.at fun o e=>up _ _ (by omega) e⟩
  done:=by
    intro X hP hw hK hc i pins s σ H E I hf st hg
    subst hP hw hK
    obtain ⟨xs,ys,h1,h2,hl⟩:=hg
    obtain ⟨i1,v1,q1,z1,l1⟩:=I.sqk h1
    obtain ⟨i2,v2,q2,z2,l2⟩:=I.sqk h2
    have n1:=v1.length
    have n2:=v2.length
    refine zip_stop (I.ok.hd hc) st (.inl rfl) q1 q2 la lb ?_ fun h' kz=>⟨rfl,I.turns (t':=s.toks) (ch:=[B,B + 1,B + 2,B + 3,B + 4]) kz.of hf⟩
    rcases hl with hl | hl
    · exact .inl (by simp; omega)
    · exact .inr (by simp; omega)
  self:=fun _ _ _ _ _ st h=>by
    have ty:Shared.TypeIs _ (.ref (B + 4)) "zip":=⟨_,st.z,rfl⟩
    exact wpAny_pyIter_slot ty F.slot_zip_iter (wpAny_call_entry F.slot_zip_iter ty F.entry_zip_iter (wpAny_pure ⟨_,rfl,"zip",_,ty,F.slot_zip_next.lookup,h⟩) (F.args_zip_iter_1 (.ref (B + 4))))
section
variable {X:Cx} {elts:List Expr} {n:Nat} {tpos:Pos}
def iZip (K:PySem.W.Frag) (ta:TA):TI:=fun σ H R=>ta σ H fun vs H1=>∃ a b k m xs ys,vs=[.ref a,.ref b]/\SqK k K H1 a xs/\SqK m K H1 b ys/\R (Itz K k m a b) H1
theorem pi_zip {a b:Expr} {ta:TA} {p pos:Pos} (hg:Gl X "zip") (hm:X.mg "zip"=none) (ha:PA X [a,b] ta) (h1:starEach [a,b] X.env=[(false,eval a X.env),(false,eval b X.env)]:=by rfl) (h2:starEach [b] X.env=[(false,eval b X.env)]:=by rfl) :
    PI X (.Tuple elts n tpos) (.Call (.Name "zip" p) [a,b] [] pos) (iZip X.K ta):=by
  intro pins s σ H R I h
  refine Call_ (ld_blt I hg hm boot_zip (PyProof.Rows.callWith_type1 (thn (ha pos pins s σ H _ I h) fun us s1 g=>?_) (by rw [h1,h2]) (by rw [h2]; rfl)))
  obtain ⟨vs,H1,I1,r1,a1,b1,k,m,xs,ys,rfl,g1,g2,q⟩:=g
  obtain ⟨u,u',rfl,e1,e2⟩:=vals2 r1
  cases e1
  cases e2
  obtain ⟨i1,v1,q1,z1,l1⟩:=I1.sqk g1
  obtain ⟨i2,v2,q2,z2,l2⟩:=I1.sqk g2
  refine zip_call q1 q2 fun h' Z sz kp=>?_
  have tz:=turn_zip (P:=X.prog) (w:=X.w) (K:=X.K) (elts:=elts) (n:=n) (pos:=tpos) (k:=k) (m:=m) l1 l2
  refine tz.self X.A 0 { s1 with heap:=h' } _ _ Z ⟨s1.heap.objs.size + 4,_,_,_,H1,rfl,I1.kept (t':=s1.toks) kp,tz,Z,fun c hc=>?_,q⟩
  have hc':c=s1.heap.objs.size\/c=s1.heap.objs.size + 1\/c=s1.heap.objs.size + 2\/c=s1.heap.objs.size + 3\/c=s1.heap.objs.size + 4:=by simpa using hc
  have le:s1.heap.objs.size<=c:=by
    rcases hc' with e | e | e | e | e <;> rw [e] <;> first | exact Nat.le_refl _ | exact Nat.le_add_right _ _
  exact I1.fpOk le (I1.hok.fresh le)
theorem ji_zip {a b:Expr} {t:TA} {p pos:Pos} (hg:Gl X "zip") (hm:X.mg "zip"=none) (ha:jA X [a,b] t) (h1:isStar a=false:=by rfl) (h2:isStar b=false:=by rfl):jI X (.Tuple elts n tpos) (.Call (.Name "zip" p) [a,b] [] pos) (iZip X.K t) :=
  ⟨pi_zip hg hm ha.out (by rw [star_cons h1,star_cons h2]; rfl) (by rw [star_cons h2]; rfl)⟩
end
end L2
namespace L2
open PySem PySem.Spec PyProof.Rows
end L2
namespace L2
open PySem PySem.Spec PyProof.Rows
section
variable (P:Program) (w:World)
end
section
variable {P:Program} {w:World} {H H':Hp} {h h':Heap} {a:Addr} {o:HO}
end
section
variable {P:Program} {w:World} {H:Hp} {h h':Heap} {x e:Addr} {o':HO}
end
section
variable {fs fs' ex ex':List Addr} {H H1 H2:Hp} {h h1 h2 h':Heap} {a x e:Addr} {o:HO}
end
end L2
namespace L2
open PySem PySem.Spec PyProof.Rows
section
variable {X:Cx} {pins:List (Addr × Obj)} {σ:List (Option V)} {H H':Hp} {s:Shared} {h':Heap}
end
end L2
namespace L2
open PySem PySem.Spec PyProof.Rows
section
variable {X:Cx}
variable {a b:Expr} {ta tb:TE} {pos:Pos}
variable {tA tB':TT} {rest:List Expr}
end
end L2
namespace L2
open PySem PySem.Spec PyProof.Rows
section
variable {X:Cx} {pins:List (Addr × Obj)} {σ:St} {H:Hp} {s:Shared} {a:Addr} {xs ys:List V}
end
section
variable {X:Cx} {pins:List (Addr × Obj)} {σ:St} {H:Hp} {s:Shared} {E:Value->Shared->Prop}
end
section
variable {X:Cx} {st:Stmt} {rest:List Stmt} {t u:TS} {e:Expr} {te:TE} {pos:Pos}
end
section
variable {X:Cx} {pos:Pos}
end
section
variable {X:Cx} {pos:Pos}
end
end L2
namespace L2
open PySem PySem.Spec PyProof.Rows
section
variable {X:Cx} {tg:Expr}
end
end L2
namespace L2
open PySem PySem.Spec PyProof.Rows
section
variable {X:Cx} {a b c:Expr} {ta tb tc:TE} {pos:Pos}
end
section
variable {X:Cx} {a b c:Expr} {ta tb tc:TE} {pos:Pos}
end
end L2
namespace L2
open PySem PySem.Spec PyProof.Rows
section
variable {prog:Program} {w:World} {A:Around} {E:Value->Shared->Prop} {s:Shared} {K:PySem.W.Frag} {x dx C f:Addr} {mA:Str->Option Value} {name:Str} {v:Value}
end
section
variable {P:Program} {w:World} {H H':Hp} {h h':Heap} {a C dx:Addr} {fs fs':List (Str × V)}
end
section
variable {X:Cx} {pins:List (Addr × Obj)} {σ:St} {H:Hp} {s:Shared} {a C dx:Addr} {fs:List (Str × V)} {f:Str} {v:V} {A:Around} {E:Value->Shared->Prop}
end
section
variable {X:Cx} {o e value:Expr} {f:Str} {pos pos' tpos:Pos} {ta tv:TE}
end
section
variable {X:Cx} {pins:List (Addr × Obj)} {σ:St} {H:Hp} {s:Shared} {A:Around} {E:Value->Shared->Prop} {Q:Value->Shared->Prop} {c:Value} {b:Bool}
end
end L2
namespace L2
open PySem PySem.Spec PyProof.Rows
section
variable {X:Cx} {e:Expr} {es:List Expr} {te:TE} {t:TA} {pos:Pos}
end
section
variable {X:Cx} {pins:List (Addr × Obj)} {σ:St} {H:Hp} {s s':Shared}
end
section
variable {X:Cx} {CX:CXT} {k:Nat} {f C:Addr} {fd:FuncData} {ps:List Str} {sp:Sp} {dvs:List V} {ds:List Value} {E:XK} {x m:Str} {p pos apos:Pos} {e o:Expr} {es:List Expr} {ta:TE} {t:TA}
end
section
variable {X:Cx} {CX:CXT} {k:Nat} {f C:Addr} {fd:FuncData} {ps ks:List Str} {sp:Sp} {E:XK} {x m:Str} {p pos apos kpos:Pos} {e o:Expr} {es:List Expr} {kws:List Keyword} {te ta:TE} {t tk:TA} {nm:Option Str}
variable {g:List Value->List Value->List Value} {gV:List V->List V->List V}
end
end L2
namespace L2
open PySem PySem.Spec PyProof.Rows
section
variable {X:Cx} {x:Str} {p pos:Pos} {e:Expr} {es:List Expr} {t:TA} {id T:String} {r:List V->Hp->VK->Prop}
end
end L2
namespace L2
open PySem PySem.Spec PyProof.Rows
section
variable {κ:Type} [DecidableEq κ]
def valV (kvs:List (κ × V)) (k:κ):Option V:=(kvs.find? fun kv=>decide (kv.1=k)).map (·.2)
def putK (kvs:List (κ × V)) (k:κ) (v:V):List (κ × V) :=
  if (kvs.any fun kv=>decide (kv.1=k))=true then kvs.map (fun kv=>if kv.1=k then (kv.1,v) else kv) else kvs ++ [(k,v)]
def dropK (kvs:List (κ × V)) (k:κ):List (κ × V):=kvs.filter fun kv=>decide (kv.1≠k)
theorem valV_pos {p:κ × V} {r:List (κ × V)} {k:κ} (e:p.1=k):valV (p :: r) k=some p.2:=by simp [valV,List.find?_cons,e]
theorem valV_neg {p:κ × V} {r:List (κ × V)} {k:κ} (e:¬ p.1=k):valV (p :: r) k=valV r k:=by simp [valV,List.find?_cons,e]
theorem valV_any (k:κ):∀ kvs:List (κ × V),(kvs.any fun kv=>decide (kv.1=k))=(valV kvs k).isSome
  | []=>rfl
  | p :: r=>by
    rw [List.any_cons]
    by_cases e:p.1=k
    · simp only [valV_pos e,decide_eq_true e,Bool.true_or,Option.isSome_some]
    · rw [valV_neg e,decide_eq_false e,Bool.false_or]; exact valV_any k r
theorem valV_map (k j:κ) (y:V):∀ kvs:List (κ × V),valV (kvs.map fun kv=>if kv.1=k then (kv.1,y) else kv) j=(valV kvs j).map fun x=>if j=k then y else x
  | []=>rfl
  | p :: r=>by
    have ih:=valV_map k j y r
    rw [List.map_cons]
    by_cases h:p.1=k
    · rw [if_pos h]
      by_cases e:p.1=j
      · rw [valV_pos (p:=(p.1,y)) e,valV_pos e,Option.map_some,if_pos (e.symm.trans h)]
      · rw [valV_neg (p:=(p.1,y)) e,valV_neg e,ih]
    · rw [if_neg h]
      by_cases e:p.1=j
      · rw [valV_pos (p:=p) e,valV_pos e,Option.map_some,if_neg (fun z=>h (e.trans z))]
      · rw [valV_neg (p:=p) e,valV_neg e,ih]
theorem valV_snoc (k j:κ) (y:V):∀ kvs:List (κ × V),valV kvs k=none->valV (kvs ++ [(k,y)]) j=if j=k then some y else valV kvs j
  | [],_=>by
    by_cases e:k=j
    · rw [if_pos e.symm]; exact valV_pos (p:=(k,y)) e
    · rw [if_neg (fun z=>e z.symm)]; exact valV_neg (p:=(k,y)) e
  | p :: r,hn=>by
    rw [List.cons_append]
    have hk:¬ p.1=k:=fun z=>by rw [valV_pos z] at hn; cases hn
    rw [valV_neg hk] at hn
    have ih:=valV_snoc k j y r hn
    by_cases e:p.1=j
    · rw [valV_pos e,valV_pos e,if_neg (fun z=>hk (e.trans z))]
    · rw [valV_neg e,valV_neg e,ih]
theorem valV_put (kvs:List (κ × V)) (k j:κ) (y:V):valV (putK kvs k y) j=if j=k then some y else valV kvs j:=by
  unfold putK
  by_cases a:(kvs.any fun kv=>decide (kv.1=k))=true
  · rw [if_pos a,valV_map]
    rw [valV_any] at a
    by_cases e:j=k
    · obtain ⟨x,hx⟩:=Option.isSome_iff_exists.mp a
      rw [if_pos e,e,hx,Option.map_some,if_pos rfl]
    · rw [if_neg e]
      cases valV kvs j with
      | none=>rfl
      | some x=>rw [Option.map_some,if_neg e]
  · rw [if_neg a]
    refine valV_snoc k j y kvs ?_
    rw [valV_any] at a
    cases q:valV kvs k with
    | none=>rfl
    | some x=>rw [q] at a; exact (a rfl).elim
theorem length_putK (kvs:List (κ × V)) (k:κ) (v:V):(putK kvs k v).length<=kvs.length + 1:=by
  unfold putK
  split
  · rw [List.length_map]; omega
  · rw [List.length_append,List.length_cons,List.length_nil]; omega
theorem RelO.isSome_eq {o:Option V} {u:Option Value} (r:RelO o u):o.isSome=u.isSome:=by
  cases o with
  | none=>cases u with
    | none=>rfl
    | some _=>exact (show False from r).elim
  | some _=>cases u with
    | none=>exact (show False from r).elim
    | some _=>rfl
theorem RelO.getD {o:Option V} {u:Option Value} {d:V} {d':Value} (r:RelO o u) (rd:RelV d d'):RelV (o.getD d) (u.getD d'):=by
  cases o with
  | none=>cases u with
    | none=>exact rd
    | some _=>exact (show False from r).elim
  | some _=>cases u with
    | none=>exact (show False from r).elim
    | some _=>exact r
theorem KV.val {kvs:List (κ × V)} {vs:List (κ × Value)} (r:KV kvs vs) (k:κ):RelO (valV kvs k) (valueAt vs k):=by
  unfold KV at r
  induction r with
  | nil=>exact True.intro
  | @cons p q ps qs h t ih =>
    obtain ⟨h1,h2⟩:=h
    by_cases e:p.1=k
    · have e':q.1=k:=h1.symm.trans e
      have b:valueAt (q :: qs) k=some q.2:=by simp [valueAt,List.find?_cons,e']
      rw [valV_pos e,b]; exact h2
    · have e':¬ q.1=k:=fun z=>e (h1.trans z)
      have b:valueAt (q :: qs) k=valueAt qs k:=by simp [valueAt,List.find?_cons,e']
      rw [valV_neg e,b]; exact ih
theorem KV.any {kvs:List (κ × V)} {vs:List (κ × Value)} (r:KV kvs vs) (k:κ):(kvs.any fun kv=>decide (kv.1=k))=vs.any fun kv=>decide (kv.1=k):=by
  unfold KV at r
  induction r with
  | nil=>rfl
  | cons h t ih=>rw [List.any_cons,List.any_cons,ih,h.1]
theorem KV.repl {kvs:List (κ × V)} {vs:List (κ × Value)} (r:KV kvs vs) (k:κ) {y:V} {u:Value} (ry:RelV y u) :
    KV (kvs.map fun kv=>if kv.1=k then (kv.1,y) else kv) (vs.map fun kv=>if kv.1=k then (kv.1,u) else kv):=by
  unfold KV at r ⊢
  induction r with
  | nil=>exact .nil
  | @cons p q ps qs h t ih =>
    rw [List.map_cons,List.map_cons]
    refine .cons ?_ ih
    obtain ⟨h1,h2⟩:=h
    by_cases e:p.1=k
    · rw [if_pos e,if_pos (h1.symm.trans e)]; exact ⟨h1,ry⟩
    · rw [if_neg e,if_neg (fun z=>e (h1.trans z))]; exact ⟨h1,h2⟩
theorem KV.put {kvs:List (κ × V)} {vs:List (κ × Value)} (r:KV kvs vs) (k:κ) {y:V} {u:Value} (ry:RelV y u):KV (putK kvs k y) (stored vs k u):=by
  unfold putK stored
  rw [r.any k]
  by_cases e:(vs.any fun kv=>decide (kv.1=k))=true
  · rw [if_pos e,if_pos e]; exact r.repl k ry
  · rw [if_neg e,if_neg e]; exact Paired.snoc r ⟨rfl,ry⟩
theorem KV.drop {kvs:List (κ × V)} {vs:List (κ × Value)} (r:KV kvs vs) (k:κ):KV (dropK kvs k) (without vs k):=by
  unfold KV at r ⊢
  unfold dropK without
  induction r with
  | nil=>exact .nil
  | @cons p q ps qs h t ih =>
    obtain ⟨h1,h2⟩:=h
    rw [List.filter_cons,List.filter_cons]
    by_cases e:p.1=k
    · have a:¬ decide (p.1≠k)=true:=by simp [e]
      have b:¬ decide (q.1≠k)=true:=by simp [h1.symm.trans e]
      rw [if_neg a,if_neg b]; exact ih
    · have e':¬ q.1=k:=fun z=>e (h1.trans z)
      have a:decide (p.1≠k)=true:=by simp [e]
      have b:decide (q.1≠k)=true:=by simp [e']
      rw [if_pos a,if_pos b]; exact .cons ⟨h1,h2⟩ ih
theorem KV.keys {kvs:List (κ × V)} {vs:List (κ × Value)} (r:KV kvs vs):kvs.map (·.1)=vs.map (·.1):=by
  unfold KV at r
  induction r with
  | nil=>rfl
  | cons h t ih=>rw [List.map_cons,List.map_cons,ih,h.1]
theorem KV.length {kvs:List (κ × V)} {vs:List (κ × Value)} (r:KV kvs vs):kvs.length=vs.length:=Paired.length r
end
theorem kV_is {P:Program} {w:World} {k:Key} {u:Value} (r:RelV (kV k) u):(mixKind P w).is k u=true:=by
  cases k with
  | inl i=>obtain ⟨t,e⟩:=(show ∃ t,u=Value.int i t from r); subst e; exact mixKind_int P w i t
  | inr x=>obtain ⟨t,e⟩:=(show ∃ t,u=Value.str x t from r); subst e; exact mixKind_str P w x t
theorem items_are {P:Program} {w:World}:∀ {ks:List Key} {us:List Value},Vals (ks.map kV) us->ItemsAre (mixKind P w) ks us
  | [],_,r=>by rw [List.map_nil] at r; cases r; exact .nil
  | k :: ks,_,r=>by
    rw [List.map_cons] at r
    cases r with
    | cons h t=>exact .cons (kV_is h) (items_are t)
abbrev KT (H:Hp):List (List Key × V)->List (List Key × Addr × Value)->Prop:=Paired fun p q=>p.1=q.1/\H q.2.1=some (.tup (p.1.map kV))/\RelV p.2 q.2.2
theorem KT.val {H:Hp} {kvs:List (List Key × V)} {xs:List (List Key × Addr × Value)} (r:KT H kvs xs) (k:List Key):RelO (valV kvs k) ((atKey xs k).map (·.2)):=by
  induction r with
  | nil=>exact True.intro
  | @cons p q ps qs h t ih =>
    obtain ⟨h1,_,h2⟩:=h
    by_cases e:p.1=k
    · have e':q.1=k:=h1.symm.trans e
      have b:atKey (q :: qs) k=some q.2:=by simp [atKey,List.find?_cons,e']
      rw [valV_pos e,b]; exact h2
    · have e':¬ q.1=k:=fun z=>e (h1.trans z)
      have b:atKey (q :: qs) k=atKey qs k:=by simp [atKey,List.find?_cons,e']
      rw [valV_neg e,b]; exact ih
theorem KT.repl {H:Hp} {kvs:List (List Key × V)} {xs:List (List Key × Addr × Value)} (r:KT H kvs xs) (k:List Key) {y:V} {u:Value} (ry:RelV y u) :
    KT H (kvs.map fun kv=>if kv.1=k then (kv.1,y) else kv) (xs.map (putAt k u)):=by
  induction r with
  | nil=>exact .nil
  | @cons p q ps qs h t ih =>
    rw [List.map_cons,List.map_cons]
    refine .cons ?_ ih
    obtain ⟨h1,h2,h3⟩:=h
    unfold putAt
    by_cases e:p.1=k
    · rw [if_pos e,if_pos (h1.symm.trans e)]; exact ⟨h1,h2,ry⟩
    · rw [if_neg e,if_neg (fun z=>e (h1.trans z))]; exact ⟨h1,h2,h3⟩
theorem KT.put {H:Hp} {kvs:List (List Key × V)} {xs:List (List Key × Addr × Value)} (r:KT H kvs xs) (k:List Key) {b:Addr} {y:V} {u:Value} (hb:H b=some (.tup (k.map kV))) (ry:RelV y u) :
    KT H (putK kvs k y) (storedH xs k b u):=by
  have e:(kvs.any fun kv=>decide (kv.1=k))=(atKey xs k).isSome:=by
    rw [valV_any,(r.val k).isSome_eq,Option.isSome_map]
  unfold putK storedH
  rw [e]
  by_cases q:(atKey xs k).isSome=true
  · rw [if_pos q,if_pos q]; exact r.repl k ry
  · rw [if_neg q,if_neg q]; exact Paired.snoc r ⟨rfl,hb,ry⟩
theorem KT.keeps {H H':Hp} {kvs:List (List Key × V)} {xs:List (List Key × Addr × Value)} (r:KT H kvs xs) (ht:∀ b ys,H b=some (.tup ys)->H' b=some (.tup ys)):KT H' kvs xs :=
  Paired.mapP r fun _ _ z=>⟨z.1,ht _ _ z.2.1,z.2.2⟩
section
variable {P:Program} {w:World} {H:Hp} {h:Heap} {a:Addr}
theorem rd_of {u:HO} (ok:HOk P w H h) (e:Rd H a u):ObjOk P w H h a u:=e.ok ok
theorem dk_rd {kvs:List (Key × V)} (ok:HOk P w H h) (e:Rd H a (.dK kvs)):kvs.length<=sizeLine/\(a == sysModules)=false/\∃ vs,KV kvs vs/\h.DictOf (mixKind P w) a vs :=
  show ObjOk P w H h a (.dK kvs) from rd_of ok e
theorem dk_of {kvs:List (Key × V)} (ok:HOk P w H h) (e:H a=some (.dK kvs)):kvs.length<=sizeLine/\(a == sysModules)=false/\∃ vs,KV kvs vs/\h.DictOf (mixKind P w) a vs:=dk_rd ok (.inl e)
theorem key_of {ks:List Key} (ok:HOk P w H h) (e:H a=some (.tup (ks.map kV))):(tupleKind (mixKind P w)).is h ks a:=by
  obtain ⟨_,its,r,o,h1,h2,_,n,h3⟩:=(show ObjOk P w H h a (.tup (ks.map kV)) from ok a _ e)
  exact ⟨o,its.toArray,n,h1,h2,h3,by simpa using items_are r⟩
theorem dt_rd {kvs:List (List Key × V)} (ok:HOk P w H h) (e:Rd H a (.dT kvs)):kvs.length<=sizeLine/\(a == sysModules)=false /\
    ∃ xs,KT H kvs xs/\h.DictOfH (tupleKind (mixKind P w)) a xs:=by
  obtain ⟨z,y,xs,r,o,es,ep,h1,h2,h3,h4,h5⟩:=(show ObjOk P w H h a (.dT kvs) from rd_of ok e)
  refine ⟨z,y,xs,r,o,es,ep,h1,h2,h3,h4,fun x hx=>?_,h5⟩
  have all:∀ {l:List (List Key × V)} {m:List (List Key × Addr × Value)},KT H l m->∀ x∈m,(tupleKind (mixKind P w)).is h x.1 x.2.1:=by
    intro l m q
    induction q with
    | nil=>intro x hx; exact nomatch hx
    | @cons p q ps qs hq t ih =>
      intro x hx
      rcases List.mem_cons.mp hx with e | hx
      · subst e
        exact key_of ok (by rw [<- hq.1]; exact hq.2.1)
      · exact ih x hx
  exact all r x hx
theorem dt_of {kvs:List (List Key × V)} (ok:HOk P w H h) (e:H a=some (.dT kvs)):kvs.length<=sizeLine/\(a == sysModules)=false /\
    ∃ xs,KT H kvs xs/\h.DictOfH (tupleKind (mixKind P w)) a xs:=dt_rd ok (.inl e)
end
def DGet (H:Hp) (a:Addr) (y:V) (r:Option V):Prop :=
  (∃ kvs k,Rd H a (.dK kvs)/\y=kV k/\r=valV kvs k)\/∃ kvs k b,Rd H a (.dT kvs)/\y=.ref b/\H b=some (.tup (k.map kV))/\r=valV kvs k
def DPut (H:Hp) (a:Addr) (y v:V) (H':Hp):Prop :=
  (∃ kvs k,H a=some (.dK kvs)/\y=kV k/\kvs.length < sizeLine/\H'=upd H a (.dK (putK kvs k v))) \/
  ∃ kvs k b,H a=some (.dT kvs)/\y=.ref b/\H b=some (.tup (k.map kV))/\kvs.length < sizeLine/\H'=upd H a (.dT (putK kvs k v))
theorem DGet.k {H:Hp} {a:Addr} {kvs:List (Key × V)} {k:Key} (e:H a=some (.dK kvs)):DGet H a (kV k) (valV kvs k):=.inl ⟨kvs,k,.inl e,rfl,rfl⟩
theorem DGet.t {H:Hp} {a b:Addr} {kvs:List (List Key × V)} {k:List Key} (e:H a=some (.dT kvs)) (eb:H b=some (.tup (k.map kV))):DGet H a (.ref b) (valV kvs k):=.inr ⟨kvs,k,b,.inl e,rfl,eb,rfl⟩
theorem DPut.k {H:Hp} {a:Addr} {kvs:List (Key × V)} {k:Key} {v:V} (e:H a=some (.dK kvs)) (hl:kvs.length < sizeLine):DPut H a (kV k) v (upd H a (.dK (putK kvs k v))):=.inl ⟨kvs,k,e,rfl,hl,rfl⟩
theorem DPut.t {H:Hp} {a b:Addr} {kvs:List (List Key × V)} {k:List Key} {v:V} (e:H a=some (.dT kvs)) (eb:H b=some (.tup (k.map kV))) (hl:kvs.length < sizeLine) :
    DPut H a (.ref b) v (upd H a (.dT (putK kvs k v))):=.inr ⟨kvs,k,b,e,rfl,eb,hl,rfl⟩
section
variable {X:Cx} {pins:List (Addr × Obj)} {σ:St} {H:Hp} {s:Shared} {a:Addr} {y v:V} {u r:Value} {o:Option V} {A:Around} {E:Value->Shared->Prop}
theorem Inv.big (I:Inv X pins σ H s):sysModules < s.heap.objs.size:=by
  have h:mainGlobals < s.heap.objs.size:=(I.mod.glob.keeps I.bk).lt
  exact Nat.lt_trans (by decide) h
theorem d_getItem {Q:Value->Shared->Prop} (hu:A.units + 1 < cLine) (I:Inv X pins σ H s) (g:DGet H a y (some v)) (ry:RelV y u) (h:∀ w' s',Inv X pins σ H s'->RelV v w'->Q w' s') :
    wpAny (model X.prog X.w) A (getItem (.ref a) u) Q E s:=by
  rcases g with ⟨kvs,k,e,ey,l⟩ | ⟨kvs,k,b,e,ey,eb,l⟩
  · subst ey
    obtain ⟨z,hd,vs,rel,dd⟩:=dk_rd I.hok e
    obtain ⟨w',hw,rw'⟩:=RelO.some_of (v:=v) (o:=valueAt vs k) (by rw [l]; exact rel.val k)
    exact wpAny_getItem_of (kV_is ry) dd.mapOf hw (h w' _ (I.tok _) rw')
  · subst ey
    cases (show u=Value.ref b from ry)
    obtain ⟨z,hd,xs,rel,dd⟩:=dt_rd I.hok e
    obtain ⟨w',hw,rw'⟩:=RelO.some_of (v:=v) (o:=(atKey xs k).map (·.2)) (by rw [l]; exact rel.val k)
    obtain ⟨p,hp,hp2⟩:=Option.map_eq_some_iff.mp hw
    refine wpAny_getItem_heap (tupleKind_room_in1 hu) (key_of I.hok eb) dd hp ?_
    rw [hp2]
    exact h w' _ (I.tok _) rw'
theorem d_notIn {Q:Value->Shared->Prop} (hu:A.units + 1 < cLine) (I:Inv X pins σ H s) (g:DGet H a y o) (ry:RelV y u) (h:∀ s',Inv X pins σ H s'->Q (.bool (!o.isSome)) s') :
    wpAny (model X.prog X.w) A (compareOp .NotIn u (.ref a)) Q E s:=by
  rcases g with ⟨kvs,k,e,ey,l⟩ | ⟨kvs,k,b,e,ey,eb,l⟩
  · subst ey
    obtain ⟨z,hd,vs,rel,dd⟩:=dk_rd I.hok e
    refine wpAny_notIn_of (kV_is ry) hd dd.mapOf ?_
    rw [<- (rel.val k).isSome_eq,<- l]
    exact h _ (I.tok _)
  · subst ey
    cases (show u=Value.ref b from ry)
    obtain ⟨z,hd,xs,rel,dd⟩:=dt_rd I.hok e
    refine wpAny_notIn_heap (tupleKind_room_in1 hu) (key_of I.hok eb) hd dd ?_
    have q:=(rel.val k).isSome_eq
    rw [Option.isSome_map] at q
    rw [<- q,<- l]
    exact h _ (I.tok _)
theorem d_write {h':Heap} {t':Nat} {ob:HO} (I:Inv X pins σ H s) (mu:Mut (H a)) (hs:Heap.SameBut a s.heap h') (he:∃ q,h'.get? a=some q) (new:ObjOk X.prog X.w (upd H a ob) h' a ob) :
    Inv X pins σ (upd H a ob) { s with heap:=h',toks:=t' } :=
  I.write (x:=a) (e:=a) mu (.inl rfl) (fun b q hb z=>(hs.2 b hb).trans z) he new
theorem dk_new {P:Program} {w:World} {H':Hp} {h':Heap} {kvs:List (Key × V)} {vs:List (Key × Value)} (z:kvs.length<=sizeLine) (hd:(a == sysModules)=false) (rel:KV kvs vs) (dd:h'.DictOf (mixKind P w) a vs) :
    ObjOk P w H' h' a (.dK kvs):=⟨z,hd,vs,rel,dd⟩
theorem d_setItem {H':Hp} {Q:Unit->Shared->Prop} (hu:A.units + 1 < cLine) (I:Inv X pins σ H s) (g:DPut H a y v H') (ry:RelV y u) (rv:RelV v r) (h:∀ s',Inv X pins σ H' s'->Q () s') :
    wpAny (model X.prog X.w) A (setItem (.ref a) u r) Q E s:=by
  rcases g with ⟨kvs,k,e,ey,l,eH⟩ | ⟨kvs,k,b,e,ey,eb,l,eH⟩
  · subst ey eH
    obtain ⟨z,hd,vs,rel,dd⟩:=dk_of I.hok e
    have hz:vs.length<=sizeLine:=by rw [<- rel.length]; exact z
    have hl:(putK kvs k v).length<=sizeLine:=by have:=length_putK kvs k v; omega
    refine wpAny_setItem_pairs (hsz:=hz) (kV_is ry) dd fun h' dd' hs=>h _ ?_
    have he:∃ q,h'.get? a=some q:=let ⟨q,_,_,hq,_⟩:=dd'; ⟨q,hq⟩
    exact d_write I (by rw [e]; exact True.intro) hs he (dk_new hl hd (rel.put k rv) dd')
  · subst ey eH
    cases (show u=Value.ref b from ry)
    obtain ⟨z,hd,xs,rel,dd⟩:=dt_of I.hok e
    have hz:xs.length<=sizeLine:=by rw [<- Paired.length rel]; exact z
    have hl:(putK kvs k v).length<=sizeLine:=by have:=length_putK kvs k v; omega
    refine wpAny_setItem_heap (hsz:=hz) (tupleKind_room_in1 hu) (key_of I.hok eb) dd fun h' dd' hs=>h _ ?_
    obtain ⟨q,es,ep,hq,h2,h3,h4,_,h5⟩:=dd'
    refine d_write I (by rw [e]; exact True.intro) hs ⟨q,hq⟩ ⟨hl,hd,_,(rel.put k eb rv).keeps fun c ys ec=>?_,q,es,ep,hq,h2,h3,h4,h5⟩
    rw [upd_ne (ne_of ec e (fun z=>nomatch z))]
    exact ec
end
section
variable {X:Cx} {pins:List (Addr × Obj)} {σ:St} {H:Hp} {s:Shared} {a:Addr} {kvs:List (Key × V)} {k:Key} {u:Value} {A:Around} {E:Value->Shared->Prop}
end
def NoSl (i:Expr):Prop:=∀ ov iv,subscripted i false ov iv=operate [ov,iv] (getItem ov iv)
theorem subD_of {prog:Program} {w:World} {A:Around} {E:Value->Shared->Prop} {s:Shared} {env:Env} {value slice:Expr} {pos:Pos} {T id:String} {Q:Value->Shared->Prop}
    (hl:typeLookup (.type T) "__getitem__"=pure (some (.builtin id))) (hs:NoSl slice)
    (h:wpAny (model prog w) A (eval value env) (fun o s₁=>wpAny (model prog w) A (eval slice env) (fun i s₂=>s₂.TypeIs o T/\wpAny (model prog w) A (getItem o i) Q E s₂) E s₁) E s) :
    wpAny (model prog w) A (eval (.Subscript value slice pos) env) Q E s:=by
  refine Subscript_ (wpAny_mono h (fun o s₁ h₁=>wpAny_mono h₁ (fun i s₂ h₂=>?_) fun _ _ x=>x) fun _ _ x=>x)
  obtain ⟨hT,h₂⟩:=h₂
  unfold subscriptTail
  refine wpAny_bind ?_
  rw [getitemInPython_of_ne hT.not_modules]
  refine wpAny_bind (wpAny_specialOf hT hl ?_)
  have fin:wpAny (model prog w) A (subscripted slice false o i) (fun r s₃=>wpAny (model prog w) A (letTemporaryGo value o r >>= fun _=>pure r) Q E s₃) E s₂:=by
    rw [hs o i]
    exact wpAny_operating (wpAny_mono h₂ (fun r s₃ h₃=>wpAny_bind (wpAny_letTemporaryGo (wpAny_pure h₃))) fun _ _ x=>x)
  first
    | exact wpAny_pure (wpAny_bind fin)
    | exact wpAny_bind (wpAny_pure (wpAny_bind fin))
    | exact wpAny_bind fin
theorem dict_typeIs {X:Cx} {pins:List (Addr × Obj)} {σ:St} {H:Hp} {s:Shared} {a:Addr} {y:V} {o:Option V} (I:Inv X pins σ H s) (g:DGet H a y o):s.TypeIs (.ref a) "dict":=by
  rcases g with ⟨kvs,k,e,_,_⟩ | ⟨kvs,k,b,e,_,_,_⟩
  · obtain ⟨_,_,vs,_,dd⟩:=dk_rd I.hok e
    exact dd.typeIs
  · obtain ⟨_,_,xs,_,dd⟩:=dt_rd I.hok e
    exact dd.typeIs
def tDGet (td ty:TE):TE:=fun σ H Q=>td σ H fun x H1=>ty σ H1 fun y H2=>∃ a v,x=.ref a/\DGet H2 a y (some v)/\Q v H2
def tDNotIn (ty td:TE):TE:=fun σ H Q=>ty σ H fun y H1=>td σ H1 fun x H2=>∃ a o,x=.ref a/\DGet H2 a y o/\Q (.bl (!o.isSome)) H2
def sDPut (td ty tv:TE):TS:=fun D σ H=>tv σ H fun v H1=>td σ H1 fun x H2=>ty σ H2 fun y H3=>∃ a H4,x=.ref a/\DPut H3 a y v H4/\D.nx σ H4
section
variable {X:Cx} {o i e value:Expr} {pos pos' tpos:Pos} {td ty tv:TE}
theorem pe_dget (hu:X.A.units + 1 < cLine) (ho:PE X o td) (hi:PE X i ty) (hs:NoSl i):PE X (.Subscript o i pos) (tDGet td ty):=by
  intro pins s σ H Q I h
  refine subD_of PySem.F.slot_dict_getitem.lookup hs (thn (ho pins s σ H _ I h) fun u s1 ⟨x,H1,I1,rx,q1⟩=>thn (hi pins s1 σ H1 _ I1 q1) fun iv s2 ⟨y,H2,I2,ry,a,v,ex,g,q2⟩=>?_)
  subst ex
  obtain rfl:u=Value.ref a:=rx
  exact ⟨dict_typeIs I2 g,d_getItem hu I2 g ry fun w' s3 I3 rw'=>⟨v,H2,I3,rw',q2⟩⟩
theorem pc_dnotin (hu:X.A.units + 1 < cLine) (hi:PE X i ty) (ho:PE X o td):PC X .NotIn i o (tDNotIn ty td):=by
  intro pins s σ H Q I h
  refine thn (hi pins s σ H _ I h) fun iv s1 ⟨y,H1,I1,ry,q1⟩=>thn (ho pins s1 σ H1 _ I1 q1) fun u s2 ⟨x,H2,I2,rx,a,ov,ex,g,q2⟩=>?_
  subst ex
  obtain rfl:u=Value.ref a:=rx
  exact d_notIn hu I2 g ry fun s3 I3=>⟨.bl (!ov.isSome),H2,I3,rfl,q2⟩
theorem ps_dput (hu:X.A.units + 1 < cLine) (ho:PE X o td) (hi:PE X i ty) (hv:PE X value tv) (hs:swapsWith value (some (.Subscript o i pos')) pos.line X.env=pure false) :
    PS X (.Assign [.Subscript o i pos'] value pos) (sDPut td ty tv):=by
  intro pins s σ H D I h
  refine wpAny_Assign_Subscript (thn (hv pins s σ H _ I h) fun r s1 ⟨v,H1,I1,rv,q1⟩=>thn (ho pins s1 σ H1 _ I1 q1) fun u s2 ⟨x,H2,I2,rx,q2⟩=>thn (hi pins s2 σ H2 _ I2 q2) fun iv s3 ⟨y,H3,I3,ry,a,H4,ex,g,q3⟩=>?_) hs
  subst ex
  obtain rfl:u=Value.ref a:=rx
  exact d_setItem hu I3 g ry rv fun s4 I4=>⟨σ,H4,I4,q3⟩
end
theorem dk_empty {P:Program} {w:World} {H:Hp} (h:Heap) (hb:sysModules < h.objs.size):ObjOk P w H (h.push { cls:=.type "dict",data:=.dict #[] }) h.objs.size (.dK []) :=
  ⟨Nat.zero_le _,beq_eq_false_iff_ne.mpr (Ne.symm (Nat.ne_of_lt hb)),[],.nil,Heap.DictOf.new h⟩
def tDNewK:TE:=fun _ H Q=>∀ p,H p=none->Q (.ref p) (upd H p (.dK []))
section
variable {X:Cx} {pos:Pos}
theorem pe_dnewK:PE X (.Dict [] [] pos) tDNewK:=fun pins s σ H Q I h =>
  wpAny_Dict_empty ⟨.ref s.heap.objs.size,_,I.laid (a:=s.heap.objs.size) (o:=.dK []) (t':=s.toks) (fun _ _ q=>Heap.get?_push_of_some _ q) (Nat.le_refl _) (dk_empty s.heap I.big),rfl,h _ (I.hok.fresh (Nat.le_refl _))⟩
end
structure M1 (X:Cx) (o:Expr) (m:Str) (apos:Pos) (e:Expr) (cpos:Pos):Prop where
  base:attributeBase o m X.env (eval o X.env)=eval o X.env
  few:((backTo cpos (starEach [e] X.env)).all (fun x=>!x.1) && (backToKw cpos (keywordEach [] X.env)).all (fun x=>x.1.isSome)
    && decide (([e]:List Expr).length + ([]:List Keyword).length + (if ([]:List Keyword).isEmpty then 0 else 1) < 30))=true
  line:(apos.endLine == cpos.line)=true
  trees:backTo cpos (starEach [e] X.env)=[(false,eval e X.env)]
structure M2 (X:Cx) (o:Expr) (m:Str) (apos:Pos) (e f:Expr) (cpos:Pos):Prop where
  base:attributeBase o m X.env (eval o X.env)=eval o X.env
  few:((backTo cpos (starEach [e,f] X.env)).all (fun x=>!x.1) && (backToKw cpos (keywordEach [] X.env)).all (fun x=>x.1.isSome)
    && decide (([e,f]:List Expr).length + ([]:List Keyword).length + (if ([]:List Keyword).isEmpty then 0 else 1) < 30))=true
  line:(apos.endLine == cpos.line)=true
  trees:backTo cpos (starEach [e,f] X.env)=[(false,eval e X.env),(false,eval f X.env)]
section
variable {X:Cx} {pins:List (Addr × Obj)} {σ:St} {H:Hp} {s:Shared} {a:Addr} {y d:V} {u r:Value} {o:Option V} {A:Around} {E:Value->Shared->Prop}
end
section
variable {X:Cx} {o e f:Expr} {apos cpos:Pos} {td ty tx:TE}
end
section
variable {X:Cx} {pins:List (Addr × Obj)} {σ:St} {H:Hp} {s:Shared} {a:Addr} {kvs:List (Key × V)} {A:Around} {E:Value->Shared->Prop}
end
section
variable {X:Cx} {pins:List (Addr × Obj)} {σ:St} {H:Hp} {s:Shared} {a:Addr} {y:V} {u:Value} {A:Around} {E:Value->Shared->Prop}
end
end L2
namespace Att
open PySem PySem.W PySem.Calls PyProof.Rows
section
variable {prog:Program} {w:World} {A:Around} {E:Value->Shared->Prop} {s:Shared} {K:Frag}
end
end Att
namespace L2
open PySem PySem.Spec PyProof.Rows
end L2
namespace L2
open PySem PySem.Spec PyProof.Rows
end L2
namespace L2
open PySem PySem.Spec PyProof.Rows
section
variable {P:Program} {w:World} {K:PySem.W.Frag} {mg:Str->Option Value} {base:Heap}
end
section
variable {X:Cx}
end
section
variable {κ:Type} [DecidableEq κ]
end
end L2
namespace L2
open PySem PySem.Spec PyProof.Rows
section
variable {X:Cx} {pos:Pos}
theorem je_dnewK:jE X (.Dict [] [] pos) tDNewK:=⟨pe_dnewK⟩
end
theorem SqK.l {K:PySem.W.Frag} {H:Hp} {a:Addr} {xs:List V} (h:H a=some (.lst xs)):SqK true K H a xs:=SqL.of h
theorem SqK.t {K:PySem.W.Frag} {H:Hp} {a:Addr} {xs:List V} (h:H a=some (.tup xs)):SqK false K H a xs:=SqT.of h
theorem for_zip {K:PySem.W.Frag} {k m:Bool} {a b:Addr} {xs ys:List V} {g:TG} {tb:TS} {D:Ends} {σ:St} {H:Hp} (hlen:xs.length=ys.length) (Pv:Nat->St->Hp->Prop) (h0:Pv 0 σ H) (hl:∀ i σ H,i<=xs.length->Pv i σ H->SqK k K H a xs/\SqK m K H b ys)
    (hs:∀ i x y T σ H,xs[i]?=some x->ys[i]?=some y->H T=none->Pv i σ H->g (.ref T) σ (upd H T (.tup [x,y])) fun σ2 H2=>tb { D with nx:=Pv (i + 1),ct:=Pv (i + 1),bk:=D.nx } σ2 H2) (hd:∀ σ H,Pv xs.length σ H->D.nx σ H) :
    ∃ W:Nat->Nat->St->Hp->Prop,(∃ m,W 0 m σ H)/\∀ i n σ H,W i n σ H ->
      ((Itz K k m a b).stop i H/\D.nx σ H)\/((Itz K k m a b).go i H/\∃ N:St->Hp->Prop,(∀ σ' H',N σ' H'->∃ m',m' < n/\W (i + 1) m' σ' H')/\∀ x H',(Itz K k m a b).yld i H x H'->g x σ H' fun σ2 H2=>tb { D with nx:=N,ct:=N,bk:=D.nx } σ2 H2):=by
  refine ⟨fun i m σ H=>m=xs.length - i/\i<=xs.length/\Pv i σ H,⟨xs.length,by simp,Nat.zero_le _,h0⟩,?_⟩
  rintro i n σ H ⟨rfl,hi,p⟩
  obtain ⟨q1,q2⟩:=hl i σ H hi p
  by_cases hlt:i < xs.length
  · refine .inr ⟨⟨xs,ys,xs[i],ys[i]'(by omega),q1,q2,by simp [hlt],by simp [<- hlen,hlt]⟩,Pv (i + 1),fun σ' H' p'=>⟨xs.length - (i + 1),by omega,rfl,hlt,p'⟩,fun x H' y=>?_⟩
    obtain ⟨T,x,y,rfl,hT,rfl,e1,e2⟩:=y
    exact hs i x y T σ H (e1 xs q1) (e2 ys q2) hT p
  · have e:i=xs.length:=by omega
    subst e
    exact .inl ⟨⟨xs,ys,q1,q2,.inl (Nat.le_refl _)⟩,hd σ H p⟩
end L2
namespace L2
open PySem PySem.Spec PyProof.Rows
def lay (H:Hp):List (Addr × HO)->Hp
  | []=>H
  | p :: r=>upd (lay H r) p.1 p.2
theorem lay_off {H:Hp}:∀ {l:List (Addr × HO)} {b:Addr},b ∉ l.map (·.1)->lay H l b=H b
  | [],_,_=>rfl
  | p :: r,b,h=>by
    rw [List.map_cons,List.mem_cons,not_or] at h
    show upd (lay H r) p.1 p.2 b=_
    rw [upd_ne h.1]
    exact lay_off h.2
theorem lay_at {H:Hp}:∀ {l:List (Addr × HO)} {p:Addr × HO},(l.map (·.1)).Nodup->p∈l->lay H l p.1=some p.2
  | q :: r,p,hn,hm=>by
    rw [List.map_cons,List.nodup_cons] at hn
    show upd (lay H r) q.1 q.2 p.1=_
    rcases List.mem_cons.mp hm with e | e
    · subst e
      exact upd_same
    · rw [upd_ne fun z=>hn.1 (by rw [<- z]; exact List.mem_map_of_mem e)]
      exact lay_at hn.2 e
section
variable {X:Cx} {pins:List (Addr × Obj)} {σ:St} {H:Hp} {s:Shared} {h':Heap}
theorem Inv.lays {l:List (Addr × HO)} {t':Nat} (I:Inv X pins σ H s) (k:∀ b u,s.heap.get? b=some u->h'.get? b=some u) (hp:∀ p∈l,s.heap.objs.size<=p.1) (hn:(l.map (·.1)).Nodup) (new:∀ p∈l,ObjOk X.prog X.w (lay H l) h' p.1 p.2) :
    Inv X pins σ (lay H l) { s with heap:=h',toks:=t' }:=by
  have off:∀ b,b < s.heap.objs.size->lay H l b=H b:=fun b hb=>lay_off fun z=>by
    obtain ⟨p,h1,h2⟩:=List.mem_map.mp z
    have:=hp p h1
    rw [h2] at this
    exact absurd hb (Nat.not_lt.mpr this)
  have st:∀ b u,H b=some u->lay H l b=some u:=fun b u e=>by rw [off b (I.hok.lt e)]; exact e
  refine I.un ⟨fun b u q _ _ _=>k b u q,fun b u q _ _ _=>⟨u.slots,k b u q⟩,fun b u q n _=>by rw [off b (Heap.lt_size q)]; exact n,fun b u q _=>⟨u,k b u q⟩,fun b xs q=>st b _ q,fun b o u q=>st b _ q,fun b ps q=>⟨#[],by rw [st b _ q]; simp⟩⟩ fun b u e=>?_
  by_cases hb:b∈l.map (·.1)
  · obtain ⟨p,h1,rfl⟩:=List.mem_map.mp hb
    rw [lay_at hn h1] at e
    cases e
    exact new p h1
  · rw [lay_off hb] at e
    exact (I.hok b u e).stay (fun c v _ q=>k c v q) (fun c q=>st c _ q) fun c xs q=>st c _ q
end
section
variable {X:Cx}
theorem js_dput {o i value:Expr} {td ty tv:TE} {pos pos':Pos} {k:Nat} (hr:Room k X.A) (ho:jE X o td) (hi:jE X i ty) (hv:jE X value tv) (hs:swapsWith value (some (.Subscript o i pos')) pos.line X.env=pure false:=by rfl) :
    jS X (.Assign [.Subscript o i pos'] value pos) (sDPut td ty tv):=⟨ps_dput (by have:=hr.units; omega) ho.out hi.out hv.out hs⟩
theorem KV.get {kvs:List (Key × V)} {ws:List (Key × Value)} (r:KV kvs ws) {j:Nat} {k:Key} {x:Value} (h:ws[j]?=some (k,x)):∃ y,kvs[j]?=some (k,y)/\RelV y x:=by
  unfold KV at r
  induction r generalizing j with
  | nil=>simp at h
  | @cons p q ps qs hh t ih =>
    cases j with
    | zero =>
      simp at h
      subst h
      obtain ⟨p1,p2⟩:=p
      have e:p1=k:=hh.1
      subst e
      exact ⟨p2,rfl,hh.2⟩
    | succ j =>
      obtain ⟨y,h1,h2⟩:=ih (j:=j) (by simpa using h)
      exact ⟨y,by simpa using h1,h2⟩
end
end L2
namespace L2
open PySem PySem.Spec PyProof.Rows
structure Ca (P:Program) (w:World) (K:PySem.W.Frag) (mg:Str->Option Value) (base:Heap) (CX:CXT) (k:Nat) (x:Str) (ps:List Str) (sp:Sp):Prop where
  ex:∃ f fd,FnOk P w K mg base CX k f fd ps sp/\Binds K fd ps []/\PySem.W.keepIn K (.ref f)=true/\mg x=some (.ref f)
structure Me (P:Program) (w:World) (K:PySem.W.Frag) (mg:Str->Option Value) (base:Heap) (CX:CXT) (k:Nat) (C:Addr) (m:Str) (ps:List Str) (sp:Sp):Prop where
  ex:∃ f fd,FnOk P w K mg base CX k f fd ps sp/\Binds K fd ps []/\Meth K C m f
structure Ma (P:Program) (w:World) (K:PySem.W.Frag) (mg:Str->Option Value) (base:Heap) (CX:CXT) (k:Nat) (x:Str) (C:Addr) (ps:List Str) (sp:Sp):Prop where
  ex:∃ f fd,Mk K C f/\FnOk P w K mg base CX k f fd ps sp/\Binds K fd ps []/\mg x=some (.ref C)
structure Xa (P:Program) (w:World) (K:PySem.W.Frag) (mg:Str->Option Value) (base:Heap) (k:Nat) (x:Str) (C:Addr) (ps:List Str) (sp:Sp):Prop where
  ex:∃ f fd,XCl K C f/\FnOk P w K mg base CX0 k f fd ps sp/\Binds K fd ps []/\mg x=some (.ref C)
section
variable {P:Program} {w:World} {K:PySem.W.Frag} {mg:Str->Option Value} {base:Heap} {CX:CXT} {k j:Nat} {x m:Str} {C:Addr} {ps:List Str} {sp sp':Sp}
theorem Ca.mono (h:Ca P w K mg base CX j x ps sp) (l:j<=k):Ca P w K mg base CX k x ps sp:=let ⟨f,fd,a,r⟩:=h.ex; ⟨f,fd,a.mono l,r⟩
theorem Me.mono (h:Me P w K mg base CX j C m ps sp) (l:j<=k):Me P w K mg base CX k C m ps sp:=let ⟨f,fd,a,r⟩:=h.ex; ⟨f,fd,a.mono l,r⟩
theorem Ca.upx (h:Ca P w K mg base CX0 k x ps sp):Ca P w K mg base CX k x ps sp:=let ⟨f,fd,a,r⟩:=h.ex; ⟨f,fd,a.upx,r⟩
theorem Me.upx (h:Me P w K mg base CX0 k C m ps sp):Me P w K mg base CX k C m ps sp:=let ⟨f,fd,a,r⟩:=h.ex; ⟨f,fd,a.upx,r⟩
end
section
variable {X:Cx} {CX:CXT} {k i:Nat} {C:Addr} {ps:List Str} {sp:Sp} {E:XK} {x m n f:Str} {p pos apos cpos np pos' epos hpos tpos:Pos} {e o a value:Expr} {es as:List Expr} {ta te tv to t1 t2:TE} {t:TA}
theorem je_ca (F:Ca X.prog X.w X.K X.mg X.base CX k x ps sp) (hr:Room k X.A) (hg:Gl X x) (hx:Passes CX X E) (ha:jA X (e :: es) t) (hdb:(x == ("__debug__":Str))=false:=by decide) (h1:isStar e=false:=by rfl) (h2:es.all (fun e=>!isStar e)=true:=by rfl) :
    jE X (.Call (.Name x p) (e :: es) [] pos) (tCall sp [] E t):=let ⟨_,_,G,b,kp,mg⟩:=F.ex; je_fn G hr hg mg kp b .nil hx ha hdb h1 h2
theorem je_me {pl:Sem Bool} (he:jE X o ta) (c:Cls X.K C) (F:Me X.prog X.w X.K X.mg X.base CX k C m ps sp) (hr:Room k X.A) (hx:Passes CX X E) (ha:jA X (e :: es) t) (h1:isStar e=false:=by rfl) (h2:es.all (fun e=>!isStar e)=true:=by rfl)
    (ht:eval (.Call (.Attribute o m apos) (e :: es) [] pos) X.env=(do
      let ov <- eval o X.env
      standAt apos.atName
      let (f,first) <- holding [ov] (getMethod ov m pl)
      callWith pos f first (backTo pos (starEach (e :: es) X.env)) (backToKw pos (keywordEach [] X.env))):=by rfl) :
    jE X (.Call (.Attribute o m apos) (e :: es) [] pos) (tMeth C m sp [] E ta t):=let ⟨_,_,G,b,mt⟩:=F.ex; ⟨pe_meth he.out c mt G hr b .nil hx ha.out (star_cons h1) (star_any h2) ht⟩
theorem je_me0 {pl:Sem Bool} (he:jE X o ta) (c:Cls X.K C) (F:Me X.prog X.w X.K X.mg X.base CX k C m ps sp) (hr:Room k X.A) (hx:Passes CX X E)
    (ht:eval (.Call (.Attribute o m apos) [] [] pos) X.env=(do
      let ov <- eval o X.env
      standAt apos.atName
      let (f,first) <- holding [ov] (getMethod ov m pl)
      callWith pos f first (backTo pos (starEach [] X.env)) (backToKw pos (keywordEach [] X.env))):=by rfl) :
    jE X (.Call (.Attribute o m apos) [] [] pos) (tMeth C m sp [] E ta tNil):=let ⟨_,_,G,b,mt⟩:=F.ex; ⟨pe_meth0 he.out c mt G hr b .nil hx ht⟩
theorem je_ma (F:Ma X.prog X.w X.K X.mg X.base CX k x C ps sp) (hr:Room (k + 1) X.A) (hg:Gl X x) (hx:Passes CX X E) (ha:jA X (e :: es) t) (hdb:(x == ("__debug__":Str))=false:=by decide) (h1:isStar e=false:=by rfl) (h2:es.all (fun e=>!isStar e)=true:=by rfl) :
    jE X (.Call (.Name x p) (e :: es) [] pos) (tMake C sp [] E t):=let ⟨_,_,M,G,b,mg⟩:=F.ex; ⟨pe_make M G hr hg mg b .nil hx ha.out hdb (star_cons h1) (star_any h2)⟩
theorem je_fld (he:jE X e ta) (hb:attributeBase e f X.env (eval e X.env)=eval e X.env:=by rfl):jE X (.Attribute e f pos) (tFld X.K ta f):=⟨pe_fld he.out hb⟩
theorem js_fld (ha:jE X o ta) (hv:jE X value tv) (hs:swapsWith value (some (.Attribute o f pos')) pos.line X.env=pure false:=by rfl):jS X (.Assign [.Attribute o f pos'] value pos) (sFld X.K ta tv f):=⟨ps_fld ha.out hv.out hs⟩
theorem js_raise (F:Xa X.prog X.w X.K X.mg X.base k x C ps sp) (hr:Room (k + 1) X.A) (hg:Gl X x) (hx:Throws X E) (ha:jA X (a :: as) t) (hdb:(x == ("__debug__":Str))=false:=by decide) (h1:isStar a=false:=by rfl) (h2:as.all (fun e=>!isStar e)=true:=by rfl) :
    jS X (.Raise (some (.Call (.Name x np) (a :: as) [] cpos)) none pos) (tRaise C sp E t):=let ⟨_,_,M,G,b,mg⟩:=F.ex; ⟨ps_raise M G hr hg mg b hx ha.out hdb h1 h2⟩
theorem jt_isN {j pos'} (ha:jE X a ta):jT X (.Compare a [.Is] [.Constant .none j pos'] pos) (tB (tIsN ta)):=⟨pt_cmp (pc_isN ha.out)⟩
end
theorem FnOk.no {P:Program} {w:World} {K:PySem.W.Frag} {mg:Str->Option Value} {base:Heap} {CX:CXT} {k:Nat} {f:Addr} {fd:FuncData} {ps:List Str}:FnOk P w K mg base CX k f fd ps (fun _ _ _ _=>False) :=
  ⟨fun _ _ _ _ h=>h.elim,fun _ _ _ _ _ _ _ _ _ _ _ _ _ h=>h.elim⟩
end L2
namespace L2
open PySem PySem.Spec PySem.Calls PyProof.Rows
section
variable {P:Program} {w:World} {A:Around} {E:Value->Shared->Prop} {s:Shared} {K:PySem.W.Frag}
end
section
variable {X:Cx} {e C:Addr} {oe:Obj} {ex:Expr} {te:TE} {name:Str} {pos:Pos} {f:Addr}
def tXFld (C e:Addr) (oe:Obj) (te:TE) (name:Str):TE:=fun σ H Q=>te σ H fun x H1=>x=.ref e/\oe.cls=.ref C/\(∃ vs,oe.data=.fields vs)/\∃ d fs v,oe.dict=some d/\H1 d=some (XD d fs)/\fs.lookup name=some v/\Q v H1
theorem pe_xfld (hp:(e,oe)∈X.pn) (M:XCl X.K C f) (hn:PySem.W.findIn X.K (.ref C) name=some none) (hh:PySem.W.hasDictIn X.K C=true) (he:PE X ex te) (hb:attributeBase ex name X.env (eval ex X.env)=eval ex X.env) :
    PE X (.Attribute ex name pos) (tXFld C e oe te name):=by
  intro pins s σ H Q I h
  refine attr_of hb (thn (he pins s σ H _ I h) fun u s1 g=>?_)
  obtain ⟨x,H1,I1,rx,rfl,hc,⟨vs,hd⟩,d,fs,v,h1,h2,h3,q⟩:=g
  obtain rfl:u=Value.ref e:=rx
  obtain ⟨mA,ns,r,_⟩:=XD.get I1.hok h2
  obtain ⟨u',hu,ru⟩:=RelO.some_of (v:=v) (o:=mA name) (by rw [<- h3]; exact r name)
  obtain ⟨od,ho,hl⟩:=lookIn_ns ns
  have J:PySem.W.InstAt s1.heap e oe C (some od):=⟨(I1.pin (e,oe) (List.mem_append_left _ hp)).1,hc,by unfold PySem.W.notCls; rw [hd],by rw [h1]; exact ho⟩
  exact xg_get I1.kIn J M.ga M.ha M.sb (PySem.W.findObj_own hh hn rfl (by rw [hl,hu])) (handed_of ru) ⟨v,H1,I1.tok _,ru,q⟩
theorem je_xfld (hp:(e,oe)∈X.pn) (M:XCl X.K C f) (hn:PySem.W.findIn X.K (.ref C) name=some none) (hh:PySem.W.hasDictIn X.K C=true) (he:jE X ex te) (hb:attributeBase ex name X.env (eval ex X.env)=eval ex X.env:=by rfl) :
    jE X (.Attribute ex name pos) (tXFld C e oe te name):=⟨pe_xfld hp M hn hh he.out hb⟩
end
section
variable {X:Cx} {Ch:Addr} {x n:Str} {i k:Nat} {np hpos tpos:Pos} {b0:Stmt} {suite:List Stmt} {th:Addr->Obj->TS} {ps:List Str} {sp:Sp} {y:Str} {p cpos epos:Pos} {a:Expr} {as:List Expr} {t:TA}
end
end L2
namespace L2
open PySem PySem.Spec PyProof.Rows
section
variable {P:Program} {w:World} {A:Around} {E:Value->Shared->Prop}
theorem draws {j l:Addr} {xs:Array Value} (ne:l≠j):∀ (k i:Nat) (s:Shared) (Q:List Value->Shared->Prop),s.heap.IsListIter j l i->s.heap.IsList l xs->i + k<=xs.size ->
    (∀ h',h'.IsListIter j l (i + k)->Heap.SameBut j s.heap h'->Q ((xs.toList.drop i).take k) { s with heap:=h' })->wpAny (model P w) A (draw (.ref j) k) Q E s
  | 0,i,s,Q,hj,_,_,q=>wpAny_pure (by simpa using q s.heap hj (Heap.SameBut.refl ..))
  | k + 1,i,s,Q,hj,hl,le,q=>by
    have lt:i < xs.size:=by omega
    refine wpAny_bind (m:=pyNext (.ref j)) (wpAny_pyNext_list_item hj hl (Array.getElem?_eq_getElem lt) fun h1 j1 u1=>?_)
    refine wpAny_bind (wpAny_holding (draws ne k (i + 1) _ _ j1 (hl.extBut u1.extBut ne) (by omega) fun h2 j2 u2=>wpAny_pure ?_))
    have e:xs.toList.drop i=xs[i] :: xs.toList.drop (i + 1):=by simp [List.drop_eq_getElem_cons,lt]
    have r:=q h2 (by rw [show i + (k + 1)=i + 1 + k by omega]; exact j2) (u1.trans u2)
    rw [e,List.take_succ_cons] at r
    exact r
theorem unpacks {s:Shared} {l:Addr} {xs:Array Value} {ts:List (Bool × (Value->Sem Unit))} {Q:Unit->Shared->Prop} (hA:A.handled=none) (hl:s.heap.IsList l xs) (hn:ts.length=xs.size) (hs:ts.findIdx? (·.1)=none)
    (q:∀ h',Heap.ExtBut s.heap.objs.size s.heap h'->wpAny (model P w) A (assignInOrder (ts.map (·.2)) xs.toList) Q E { s with heap:=h' }):wpAny (model P w) A (unpack (.ref l) ts) Q E s:=by
  have ne:l≠s.heap.objs.size:=by
    obtain ⟨o,ho,_⟩:=hl
    exact Nat.ne_of_lt (Heap.lt_size ho)
  unfold unpack
  rw [hn,hs]
  refine wpAny_bind (wpAny_holding ?_)
  unfold unpackItems
  refine wpAny_bind ?_
  unfold notIterableAtAll
  refine wpAny_bind (wpAny_specialOf hl.typeIs slot_list_iter.lookup (wpAny_pure ?_))
  simp only [Bool.false_eq_true,if_false]
  refine wpAny_bind (wpAny_holding (wpAny_pyIter_list hl ?_))
  refine wpAny_bind (wpAny_holding (draws ne xs.size 0 _ _ ⟨_,Heap.get?_push_size _ rfl,rfl,rfl⟩ (hl.push _) (by omega) fun h1 j1 u1=>?_))
  have all:List.take xs.size (List.drop 0 xs.toList)=xs.toList:=by rw [List.drop_zero]; exact List.take_of_length_le (by simp)
  rw [all,if_neg (by simp)]
  refine wpAny_bind (wpAny_holding (wpAny_pyNext_list_end hA j1 ((hl.push _).extBut u1.extBut ne) (by simp) fun h2 e2=>?_))
  simp only [Option.isSome_none,Bool.false_eq_true,if_false]
  exact wpAny_pure (q h2 fun b o hb e=>e2 b o hb (u1.extBut b o hb (Heap.get?_push_of_some _ e)))
end
section
variable {X:Cx} {pos:Pos}
def gLst (K:PySem.W.Frag) (n:Nat) (t:TGs):TG:=fun v σ H Q=>∃ a xs,v=.ref a/\SqL K H a xs/\xs.length=n/\t xs σ H Q
theorem pg_lst {es:List Expr} {k:Nat} {t:TGs} {n:Nat} (hc:X.calm=true) (h:PGs X es t)
    (hn:(assignEach es X.env).length=n:=by rfl) (hst:(assignEach es X.env).findIdx? (·.1)=none:=by rfl):PG X (.Tuple es k pos) (gLst X.K n t):=by
  intro pins s σ H v u Q I r g
  obtain ⟨a,xs,rfl,hq,hl,g⟩:=g
  cases r
  obtain ⟨its,rv,p,hz⟩:=I.list hq
  rw [assign_Tuple]
  refine wpAny_bind (wpAny_standAt (unpacks (I.ok.hd hc) p.isList (by simp [hn,<- hl,rv.length]) hst fun h' hx=>?_))
  have I1:Inv X pins σ H { s with heap:=h' }:=I.kept (t':=s.toks) fun b o e=>hx b o (Nat.ne_of_lt (Heap.lt_size e)) e
  exact h pins _ σ H xs _ Q I1 (by simpa using rv) g
theorem jg_lst {es:List Expr} {k:Nat} {gs:TGs} {n:Nat} (hc:X.calm=true) (h:jGs X es gs) (hn:(assignEach es X.env).length=n:=by rfl) (hst:(assignEach es X.env).findIdx? (·.1)=none:=by rfl):jG X (.Tuple es k pos) (gLst X.K n gs):=⟨pg_lst hc h.out hn hst⟩
end
end L2
namespace L2
open PySem
theorem line0:sizeLine=16777216:=by decide
theorem itD {c A B:Prop} [Decidable c] (e:c) (h:A):if decide c=true then A else B:=by
  rw [if_pos (decide_eq_true e)]; exact h
theorem itDN {c A B:Prop} [Decidable c] (e:¬ c) (h:B):if decide c=true then A else B:=by
  rw [if_neg (by rw [decide_eq_false e]; decide)]; exact h
theorem rel_of_abs {u:Value} {x:V} (h:absV u=some x):RelV x u:=by
  cases u <;> first
    | (cases h; rfl)
    | (cases h; exact ⟨_,rfl⟩)
    | (cases h)
theorem vals_of_abs:∀ {us:List Value} {xs:List V},us.map absV=xs.map some->Vals xs us
  | [],[],_=>.nil
  | [],_ :: _,h=>by cases h
  | _ :: _,[],h=>by cases h
  | u :: us,x :: xs,h=>by
    rw [List.map_cons,List.map_cons] at h
    injection h with h1 h2
    exact .cons (rel_of_abs h1) (vals_of_abs h2)
def FnIn (K:PySem.W.Frag) (x qual:Str) (st:Stmt) (f:Addr):Prop:=∃ (oc:Value) (od:Option Addr) (kV doc pm:Value) (an:Option Addr) (cdv ct:Value) (osl:Array (Option Value)),K.lookup f=some ⟨oc,od,.func (PySem.W.fnOf x qual (defArgs st) (defBody st) (defScope st) .none kV doc pm an cdv ct),osl⟩/\PySem.W.codeIn K cdv qual=true/\PySem.W.keepIn K (.ref f)=true
theorem FnIn.fn {K:PySem.W.Frag} {x qual:Str} {st:Stmt} {f:Addr} (h:FnIn K x qual st f):∃ fd,Fun K x qual st f fd/\PySem.W.keepIn K (.ref f)=true:=by
  obtain ⟨_,_,_,_,_,_,_,_,_,l,c,k⟩:=h
  exact ⟨_,fun_mk l c k,k⟩
def DfIn (K:PySem.W.Frag) (x:Str) (st:Stmt):Prop:=∃ f,PySem.W.nsIn K mainGlobals x=some (some (.ref f))/\FnIn K x x st f
def MeIn (K:PySem.W.Frag) (C:Addr) (x qual:Str) (st:Stmt):Prop:=∃ f,PySem.W.findIn K (.ref C) x=some (some (.ref f))/\PySem.W.isFn K (.ref f)=true/\FnIn K x qual st f
def TpIn (K:PySem.W.Frag) (x:Str) (l:List Str):Prop:=∃ (a:Addr) (d:Option Addr) (it:Array Value) (n:Nat) (sl:Array (Option Value)),PySem.W.nsIn K mainGlobals x=some (some (.ref a))/\K.lookup a=some ⟨.type "tuple",d,.seq it n,sl⟩/\it.toList.map absV=l.map fun x=>some (.str x)
theorem TpIn.sq {K:PySem.W.Frag} {x:Str} {l:List Str} (h:TpIn K x l) (hl:l.length<=100):∃ a,PySem.W.nsIn K mainGlobals x=some (some (.ref a))/\∀ H:Hp,SqT K H a (l.map V.str):=by
  obtain ⟨a,d,it,n,sl,h1,h2,h3⟩:=h
  refine ⟨a,h1,fun H=>.inr ⟨_,it,n,h2,rfl,rfl,?_,vals_of_abs (by rw [h3,List.map_map]; rfl)⟩⟩
  have e:=congrArg List.length h3
  rw [List.length_map,List.length_map,Array.length_toList] at e
  have sl:=line0
  omega
theorem MeIn.me {P:Program} {w:World} {K:PySem.W.Frag} {mg:Str->Option Value} {base:Heap} {CX:CXT} {k:Nat} {C:Addr} {x qual:Str} {st:Stmt} {ps:List Str} {sp:Sp} (h:MeIn K C x qual st) (hb:∀ (kV doc pm:Value) (an:Option Addr) (cdv ct:Value) (us:List Value),us.length=ps.length->bindArgs (PySem.W.fnOf x qual (defArgs st) (defBody st) (defScope st) .none kV doc pm an cdv ct) ⟨us,[]⟩=pure (ps.zip us))
    (ok:∀ f fd,Fun K x qual st f fd->FnOk P w K mg base CX k f fd ps sp):Me P w K mg base CX k C x ps sp:=by
  obtain ⟨f,a,n,g⟩:=h
  obtain ⟨fd,F,kp⟩:=g.fn
  exact ⟨f,fd,ok f fd F,F.binds hb,a,n,kp⟩
theorem MeIn.ma {P:Program} {w:World} {K:PySem.W.Frag} {mg:Str->Option Value} {base:Heap} {CX:CXT} {k:Nat} {C:Addr} {x qual:Str} {st:Stmt} {ps:List Str} {sp:Sp} (h:MeIn K C "__init__" qual st) (hb:∀ (kV doc pm:Value) (an:Option Addr) (cdv ct:Value) (us:List Value),us.length=ps.length->bindArgs (PySem.W.fnOf "__init__" qual (defArgs st) (defBody st) (defScope st) .none kV doc pm an cdv ct) ⟨us,[]⟩=pure (ps.zip us))
    (mk:PySem.W.makesIn K C=true) (kp:PySem.W.keepIn K (.ref C)=true) (hm:mg x=some (.ref C)) (ok:∀ f fd,Fun K "__init__" qual st f fd->FnOk P w K mg base CX k f fd ps sp):Ma P w K mg base CX k x C ps sp:=by
  obtain ⟨f,a,n,g⟩:=h
  obtain ⟨fd,F,_⟩:=g.fn
  exact ⟨f,fd,⟨mk,a,n,kp⟩,ok f fd F,F.binds hb,hm⟩
theorem DfIn.ca {P:Program} {w:World} {K:PySem.W.Frag} {mg:Str->Option Value} {base h:Heap} {CX:CXT} {k:Nat} {x:Str} {st:Stmt} {ps:List Str} {sp:Sp} (X:K.In h) (G:h.Ns mainGlobals mg) (d:DfIn K x st) (hb:∀ (kV doc pm:Value) (an:Option Addr) (cdv ct:Value) (us:List Value),us.length=ps.length->bindArgs (PySem.W.fnOf x x (defArgs st) (defBody st) (defScope st) .none kV doc pm an cdv ct) ⟨us,[]⟩=pure (ps.zip us))
    (ok:∀ f fd,Fun K x x st f fd->FnOk P w K mg base CX k f fd ps sp):Ca P w K mg base CX k x ps sp:=by
  obtain ⟨f,a,g⟩:=d
  obtain ⟨fd,F,kp⟩:=g.fn
  exact ⟨f,fd,ok f fd F,F.binds hb,kp,PySem.W.mg_of X G a⟩
theorem DfIn.mk {K:PySem.W.Frag} {x:Str} {st:Stmt} {f:Addr} {oc:Value} {od:Option Addr} {kV doc pm:Value} {an:Option Addr} {cdv ct:Value} {osl:Array (Option Value)} (a:PySem.W.nsIn K mainGlobals x=some (some (.ref f))) (l:K.lookup f=some ⟨oc,od,.func (PySem.W.fnOf x x (defArgs st) (defBody st) (defScope st) .none kV doc pm an cdv ct),osl⟩) (c:PySem.W.codeIn K cdv x=true) (k:PySem.W.keepIn K (.ref f)=true):DfIn K x st:=⟨f,a,oc,od,kV,doc,pm,an,cdv,ct,osl,l,c,k⟩
theorem MeIn.mk {K:PySem.W.Frag} {C:Addr} {x qual:Str} {st:Stmt} {f:Addr} {oc:Value} {od:Option Addr} {kV doc pm:Value} {an:Option Addr} {cdv ct:Value} {osl:Array (Option Value)} (a:PySem.W.findIn K (.ref C) x=some (some (.ref f))) (l:K.lookup f=some ⟨oc,od,.func (PySem.W.fnOf x qual (defArgs st) (defBody st) (defScope st) .none kV doc pm an cdv ct),osl⟩) (c:PySem.W.codeIn K cdv qual=true) (k:PySem.W.keepIn K (.ref f)=true) (n:PySem.W.isFn K (.ref f)=true):MeIn K C x qual st:=⟨f,a,n,oc,od,kV,doc,pm,an,cdv,ct,osl,l,c,k⟩
theorem TpIn.mk {K:PySem.W.Frag} {x:Str} {l:List Str} {b:Addr} {d:Option Addr} {it:Array Value} {n:Nat} {sl:Array (Option Value)} (a:PySem.W.nsIn K mainGlobals x=some (some (.ref b))) (k:K.lookup b=some ⟨.type "tuple",d,.seq it n,sl⟩) (v:it.toList.map absV=l.map fun x=>some (.str x)):TpIn K x l:=⟨b,d,it,n,sl,a,k,v⟩
theorem GlIn.mk {K:PySem.W.Frag} {x:Str} {z:Str} {v:Value} {t:Tok} (a:PySem.W.nsIn K mainGlobals x=some (some v)) (e:v=.str z t):∃ t,PySem.W.nsIn K mainGlobals x=some (some (.str z t)):=⟨t,by rw [a,e]⟩
theorem GiIn.mk {K:PySem.W.Frag} {x:Str} {i:Int} {v:Value} {t:Tok} (a:PySem.W.nsIn K mainGlobals x=some (some v)) (e:v=.int i t):∃ t,PySem.W.nsIn K mainGlobals x=some (some (.int i t)):=⟨t,by rw [a,e]⟩
theorem XcIn.mk {K:PySem.W.Frag} {C f:Addr} (a:PySem.W.findIn K (.ref C) "__init__"=some (some (.ref f))) (b:xIn K C f=true) (c:PySem.W.typeIn K (.ref f)=some (.type "function")):∃ f,PySem.W.findIn K (.ref C) "__init__"=some (some (.ref f))/\xIn K C f=true/\PySem.W.typeIn K (.ref f)=some (.type "function"):=⟨f,a,b,c⟩
structure OwnIn (K:PySem.W.Frag) (x:Str) (C:Addr):Prop where
  n:PySem.W.nsIn K mainGlobals x=some (some (.ref C))
  pg:PySem.W.plainGet K C Str.empty=true
  hd:PySem.W.hasDictIn K C=true
  po:PySem.W.plainOver K C=true
  sa:PySem.W.findIn K (.ref C) "__setattr__"=some (some (.builtin "object.__setattr__"))
  mks:PySem.W.makesIn K C=true
  kp:PySem.W.keepIn K (.ref C)=true
theorem OwnIn.cls {K:PySem.W.Frag} {x:Str} {C:Addr} (o:OwnIn K x C):Cls K C:=⟨o.pg,o.hd,o.po,o.sa⟩
end L2
namespace L2
open PySem PySem.Spec PyProof.Rows
section
variable {X:Cx} {pos:Pos}
theorem jc_isinstK (K:PySem.W.Frag) (h:X.K=K:=by rfl):jCa X (.builtin "isinstance") (fun xs H Q=>∃ x t T b,xs=[x,.ty T]/\TyOf K H x t/\PySem.W.kitOne K t (.type T)=some b/\Q (.bl b) H):=h ▸ jc_isinst
theorem jc_list_ofK (K:PySem.W.Frag) (h:X.K=K:=by rfl):jCa X (.type "list") (fun xs H Q=>∃ p ys,xs=[.ref p]/\(SqL K H p ys\/SqT K H p ys)/\∀ l,H l=none->Q (.ref l) (upd H l (.lst ys))):=h ▸ jc_list_of
theorem je_fldK (K:PySem.W.Frag) {e:Expr} {ta:TE} {f:Str} (he:jE X e ta) (h:X.K=K:=by rfl) (hb:attributeBase e f X.env (eval e X.env)=eval e X.env:=by rfl):jE X (.Attribute e f pos) (tFld K ta f):=h ▸ je_fld he hb
end
end L2
namespace K11
open PySem
def sg (c:Nat):Str:=⟨#[c]⟩
theorem size_foldl (a:Array Nat):∀ (k:Nat) (acc:Array Nat),((List.replicate k a).foldl (· ++ ·) acc).size=acc.size + k * a.size
  | 0,acc=>by simp
  | k + 1,acc=>by
    rw [List.replicate_succ,List.foldl_cons,size_foldl a k,Array.size_append,Nat.add_mul]
    omega
theorem mul_len {z:Str} {n:Int} (hz:z.length=1):(Txt.mul z n).length<=n.toNat:=by
  unfold Txt.mul
  split
  · simp [Str.empty,Str.length]
  · rename_i h
    split
    · rw [hz]; omega
    · show ((List.replicate n.toNat z.cps).foldl (· ++ ·) #[]).size<=n.toNat
      have e:z.cps.size=1:=hz
      rw [size_foldl,e]
      simp
theorem mul_ok {z:Str} {n:Int} (hz:z.length=1) (h0:0<=n) (h1:n<=1000):MulOk z n:=by
  have hs:sizeLine=16777216:=by decide
  refine ⟨?_,fun a b=>?_,fun a b=>?_⟩
  · have e1:decide (n < -(2 ^ 63:Int))=false:=decide_eq_false (by omega)
    have e2:decide (n ≥ 2 ^ 63)=false:=decide_eq_false (by omega)
    rw [e1,e2]; rfl
  · rw [hz]
    have:(1:Int)<=(2 ^ 63 - 1) / n:=Int.le_ediv_of_mul_le (by omega) (by omega)
    intro c
    have c':(1:Int) > (2 ^ 63 - 1) / n:=c
    omega
  · rw [hz]
    unfold Builtin.Str.tooLong
    exact decide_eq_false (by rw [hs]; omega)
end K11
namespace K11
open PySem PySem.Spec PyProof.Rows Builtin Builtin.Str
abbrev cl (z:Str):List Nat:=z.cps.toList
theorem cl_len (z:Str):(cl z).length=z.length:=by simp [Str.length]
theorem cl_app (x y:Str):cl (x ++ y)=cl x ++ cl y:=by
  show (x.cps ++ y.cps).toList=_
  simp
theorem cl_join_cons {sep x y:Str} {r:List Str}:cl (Str.join sep (x :: y :: r))=cl x ++ (cl sep ++ cl (Str.join sep (y :: r))):=by
  show cl (x ++ sep ++ Str.join sep (y :: r))=_
  rw [cl_app,cl_app,List.append_assoc]
end K11
namespace GN
open PySem L2
def top (i:Nat):Stmt:=PySem.Challenge.pw_reusewise_k36_rows_and_late.main.body.getD i (.Pass ⟨0,0,0,0⟩)
abbrev sFault:Stmt:=inClass (top 5) 0
abbrev sSizes:Stmt:=top 7
abbrev sWhole:Stmt:=top 9
abbrev sIn:Stmt:=top 10
abbrev sGrown:Stmt:=top 11
abbrev sShape:Stmt:=top 12
abbrev sParts:Stmt:=top 13
abbrev sFirst:Stmt:=top 14
abbrev sReck:Stmt:=top 16
abbrev sRes:Stmt:=top 17
abbrev sRun:Stmt:=top 19
abbrev sBy:Stmt:=top 20
abbrev sBegun:Stmt:=top 21
abbrev sArmOf:Stmt:=top 24
abbrev sWInit:Stmt:=inClass (top 25) 0
abbrev sRInit:Stmt:=inClass (top 26) 0
abbrev sBegin:Stmt:=inClass (top 26) 1
abbrev sGo:Stmt:=inClass (top 26) 2
abbrev sGive:Stmt:=inClass (top 26) 3
abbrev sChoose:Stmt:=inClass (top 26) 4
abbrev sTakeArm:Stmt:=inClass (top 26) 5
abbrev sLet:Stmt:=inClass (top 26) 6
abbrev sValued:Stmt:=inClass (top 26) 7
abbrev sOut:Stmt:=inClass (top 26) 8
abbrev sCall:Stmt:=inClass (top 26) 9
abbrev sDraw:Stmt:=top 28
abbrev sNm:Stmt:=top 29
abbrev sStem:Stmt:=top 30
abbrev sNumber:Stmt:=top 31
abbrev sOp:Stmt:=top 33
abbrev sDue:Stmt:=top 37
abbrev sSame:Stmt:=top 38
abbrev sLaw:Stmt:=top 41
abbrev sDefs:Stmt:=top 32
abbrev sLParts:Stmt:=top 36
abbrev sMap:Stmt:=top 34
abbrev sFold:Stmt:=top 35
abbrev sRow:Stmt:=top 39
abbrev sTask:Stmt:=top 40
end GN
namespace L2
open PySem
section
variable {X:Cx} {o i:Expr} {to ti:TE} {pos:Pos}
theorem jg_setL (ho:jE X o to) (hi:jE X i ti) (ha:∀ v,assign (.Subscript o i pos) X.env v=(do
      let ov <- holding [v] (eval o X.env)
      let iv <- holding [v,ov] (eval i X.env)
      standAt pos
      holding [v,ov,iv] (setItem ov iv v)
      release [v,ov,iv] []):=by intro _; rfl):jG X (.Subscript o i pos) (gSub to ti rSetL):=⟨pg_sub ho.out hi.out set_list ha⟩
theorem jo_rep:jOp X (binaryOp .Mult) rRep:=⟨op_rep⟩
theorem jm_reverse:jMt X "list.reverse" rReverse:=⟨mt_reverse⟩
theorem jc_max2 (hc:X.calm=true):jCa X (.builtin "max") (fun xs H Q=>∃ i j,xs=[.int i,.int j]/\Q (.int (if j > i then j else i)) H):=⟨call_max2 hc⟩
end
end L2
namespace GN
open PySem L2 K11
theorem same_new {H:Hp} {p:Addr} (h:H p=none) (o:HO):Same H (upd H p o):=fun b u q=>by rw [upd_ne (ne_of_none q h)]; exact q
def LIM:Nat:=4611686018427387904
def Sta (K:PySem.W.Frag) (H:Hp) (st:Addr) (B:Nat):Prop:=∃ (a:Addr) (ns:List Int) (k:Nat),H st=some (.lst [.ref a,.int (k:Nat)])/\(a=st->∀ H',SqL K H' a (ns.map V.int))/\SqL K H a (ns.map V.int)/\k<=B
structure Kp (st:Addr) (H H':Hp):Prop where
  k:∀ b u,b≠st->H b=some u->H' b=some u
  s:∀ a k,H st=some (.lst [.ref a,.int k])->∃ k',H' st=some (.lst [.ref a,.int k'])
theorem Kp.refl {st:Addr} {H:Hp}:Kp st H H:=⟨fun _ _ _ h=>h,fun _ k h=>⟨k,h⟩⟩
theorem Kp.trans {st:Addr} {H H1 H2:Hp} (a:Kp st H H1) (b:Kp st H1 H2):Kp st H H2:=⟨fun c u n h=>b.k c u n (a.k c u n h),fun x k h=>let ⟨k',h'⟩:=a.s x k h; b.s x k' h'⟩
theorem Kp.of {st:Addr} {H H1:Hp} (a:Same H H1):Kp st H H1:=⟨fun c u _ h=>a c u h,fun _ k h=>⟨k,a _ _ h⟩⟩
theorem Kp.new {st p:Addr} {H H1:Hp} {o:HO} (a:Kp st H H1) (h:H1 p=none):Kp st H (upd H1 p o):=a.trans (.of (same_new h o))
theorem Kp.put {st p:Addr} {H H1:Hp} {o:HO} (a:Kp st H H1) (h:H p=none):Kp st H (upd H1 p o):=⟨fun b u n q=>by rw [upd_ne (ne_of_none q h)]; exact a.k b u n q,fun x k q=>by
  obtain ⟨k',h'⟩:=a.s x k q
  exact ⟨k',by rw [upd_ne (ne_of_none q h)]; exact h'⟩⟩
theorem Kp.seq {K:PySem.W.Frag} {st a:Addr} {H H':Hp} {xs:List V} (e:Kp st H H') (n:a≠st) (h:SqL K H a xs):SqL K H' a xs:=by
  rcases h with (h | ⟨o,h⟩) | h
  · exact .inl (.inl (e.k _ _ n h))
  · exact .inl (.inr ⟨o,e.k _ _ n h⟩)
  · exact .inr h
theorem Kp.free {st p:Addr} {H H':Hp} (e:Kp st H H') (n:p≠st) (h:H' p=none):H p=none:=by
  cases q:H p with
  | none=>rfl
  | some o =>
    rw [e.k p o n q] at h
    cases h
section
variable {K:PySem.W.Frag} {H H':Hp} {st:Addr} {B B':Nat}
theorem Sta.ex (h:Sta K H st B):∃ o,H st=some o:=let ⟨_,_,_,e,_⟩:=h; ⟨_,e⟩
theorem Sta.mono (h:Sta K H st B) (l:B<=B'):Sta K H st B':=let ⟨a,ns,k,h1,h2,h3,h4⟩:=h; ⟨a,ns,k,h1,h2,h3,Nat.le_trans h4 l⟩
theorem Sta.same (h:Sta K H st B) (s:Same H H'):Sta K H' st B:=let ⟨a,ns,k,h1,h2,h3,h4⟩:=h; ⟨a,ns,k,s _ _ h1,h2,s.seq h3,h4⟩
theorem Sta.new (h:Sta K H st B) {p:Addr} (hp:H p=none) (o:HO):Sta K (upd H p o) st B:=h.same (same_new hp o)
theorem Sta.ne {p:Addr} (h:Sta K H st B) (hp:H p=none):p≠st:=fun e=>by
  obtain ⟨o,q⟩:=h.ex
  rw [e,q] at hp
  cases hp
theorem Sta.neR {p:Addr} {ts:List Addr} (h:Sta K H st B) (hp:H p=some (.lst (ts.map V.ref))):p≠st:=fun e=>by
  obtain ⟨a,ns,k,h1,_⟩:=h
  rw [e,h1] at hp
  have e2:=congrArg (fun o=>match o with | some (HO.lst l)=>l | _=>[]) hp
  simp only at e2
  match ts,e2 with
  | [_,_],e2=>simp at e2
  | [],e2=>simp at e2
  | [_],e2=>simp at e2
  | _ :: _ :: _ :: _,e2=>simp at e2
theorem Sta.neS {p:Addr} {ts:List Str} (h:Sta K H st B) (hp:H p=some (.lst (ts.map V.str))):p≠st:=fun e=>by
  obtain ⟨a,ns,k,h1,_⟩:=h
  rw [e,h1] at hp
  have e2:=congrArg (fun o=>match o with | some (HO.lst l)=>l | _=>[]) hp
  simp only at e2
  match ts,e2 with
  | [],e2=>simp at e2
  | _ :: _,e2=>simp at e2
theorem Sta.neW {p:Addr} {x:Str} {xs:List V} (h:Sta K H st B) (hp:H p=some (.lst (.str x :: xs))):p≠st:=fun e=>by
  obtain ⟨a,ns,k,h1,_⟩:=h
  rw [e,h1] at hp
  simp at hp
theorem Sta.put {H2:Hp} {p:Addr} {o:HO} (S0:Sta K H st B) (hp:H p=none) (k:Kp st H H2) (S2:Sta K H2 st B'):Sta K (upd H2 p o) st B':=by
  obtain ⟨a,ns,i,h1,h2,h3,_⟩:=S0
  obtain ⟨a',ns',i',g1,g2,g3,g4⟩:=S2
  obtain ⟨k',h'⟩:=k.s a _ h1
  rw [g1] at h'
  have ea:a'=a:=by
    have:=congrArg (fun o=>match o with | some (HO.lst (V.ref x :: _))=>x | _=>0) h'
    exact this
  subst ea
  have g1':upd H2 p o st=some (.lst [.ref a',.int ((i':Nat):Int)]):=by rw [upd_ne (ne_of_none h1 hp)]; exact g1
  have key:a'≠p->Sta K (upd H2 p o) st B':=fun n=>by
    refine ⟨a',ns',i',g1',g2,?_,g4⟩
    rcases g3 with (g | ⟨o,g⟩) | g
    · exact .inl (.inl (by rw [upd_ne n]; exact g))
    · exact .inl (.inr ⟨o,by rw [upd_ne n]; exact g⟩)
    · exact .inr g
  rcases h3 with (h | ⟨_,h⟩) | h
  · exact key (ne_of_none h hp)
  · exact key (ne_of_none h hp)
  · exact ⟨a',ns,i',g1',fun _ _=>.inr h,.inr h,g4⟩
def Tups (H H':Hp):Prop:=∀ p xs,H p=some (.tup xs)->H' p=some (.tup xs)
theorem Tups.of (s:Same H H'):Tups H H':=fun p xs h=>s p _ h
theorem Tups.trans {H2:Hp} (a:Tups H H') (b:Tups H' H2):Tups H H2:=fun p xs h=>b p xs (a p xs h)
theorem Kp.tups (k:Kp st H H') (h:Sta K H st B):Tups H H':=fun p xs q=>k.k p _ (fun e=>by
  obtain ⟨_,_,_,h1,_⟩:=h
  rw [e,h1] at q
  cases q) q
end
def spDraw (K:PySem.W.Frag):Sp:=fun vs H Q _=>∃ (st:Addr) (m:Int) (B:Nat),vs=[.ref st,.int m]/\Sta K H st B/\B < LIM/\0 < m/\∀ (H':Hp) (r:Int),Kp st H H'->Sta K H' st (B + 1)->0<=r->r < m->Q (.int r) H'
def LET:Str:="abcdefghijklmnopqrstuvwxyz"
theorem let_cl:cl LET=(List.range 26).map (97 + ·):=by decide +kernel
def lt (i:Nat):Str:=sg (97 + i)
theorem let_at {i:Nat} (h:i < 26):atI LET.cps.toList (i:Int)=some (97 + i):=by
  refine atI_nat ?_
  show (cl LET)[i]?=_
  rw [let_cl,List.getElem?_map,List.getElem?_range h]
  rfl
theorem let_atI {m:Int} (h0:0<=m) (h:m < 26):atI LET.cps.toList m=some (97 + m.toNat):=by
  have e:=let_at (i:=m.toNat) (by omega)
  rw [Int.toNat_of_nonneg h0] at e
  exact e
theorem let_len:LET.length=26:=by decide +kernel
def core (k:Nat):Str:=lt (k / 2 % 26) ++ ("z":Str) ++ lt (k / 52 % 26)
def ys (k:Nat):Str:=Txt.mul "y" ((k % 2:Nat):Int)
def nm (z:Str) (b:Bool) (k:Nat):Str:=if b=true then core k ++ z ++ ys k else ys k ++ z ++ core k
theorem cl_core (k:Nat):cl (core k)=[97 + k / 2 % 26,122,97 + k / 52 % 26]:=by
  unfold core
  rw [cl_app,cl_app]
  rfl
theorem core_len (k:Nat):(core k).length=3:=by rw [<- cl_len,cl_core]; rfl
theorem ys_len (k:Nat):(ys k).length<=1:=by
  have h:=mul_len (z:="y") (n:=((k % 2:Nat):Int)) rfl
  unfold ys
  omega
theorem len_app (a b:Str):(a ++ b).length=a.length + b.length:=by rw [<- cl_len,cl_app,List.length_append,cl_len,cl_len]
def spNm:Sp:=fun vs H Q _=>∃ (p:Addr) (z:Str) (b:Bool) (xs:List V) (k:Nat),vs=[.ref p,.int (k:Nat)]/\H p=some (.lst (.str z :: .bl b :: xs))/\z.length<=6/\Q (.str (nm z b k)) H
section
variable {P:Program} {w:World} {K:PySem.W.Frag} {mg:Str->Option Value} {base:Heap} {f:Addr} {fd:FuncData}
theorem scDraw:FnScope ["_law_state","_law_many","_law_k","_law_cell"] ["_law_state","_law_many"] (defScope sDraw):=⟨rfl,rfl,rfl,by decide +kernel,rfl,by decide +kernel,by decide +kernel⟩
theorem ok_draw (F:Fun K "_law_draw" "_law_draw" sDraw f fd) (m_len:mg "len"=none):FnOk P w K mg base CX0 1 f fd ["_law_state","_law_many"] (spDraw K):=by
  refine F.by scDraw (fun vs H Q E h=>?_) (fun cdv A outer s H vs Q E hr h=>?_)
  · obtain ⟨st,m,B,rfl,_⟩:=h
    rfl
  obtain ⟨st,m,B,rfl,⟨a,ns,k,hst,hne,hS,hk⟩,hB,hm,q⟩:=h
  refine ⟨_,
    (jss_cons (js_set (i:=2) scDraw.nd rfl (Or.inl rfl) (je_ix jx_list (jv 0) je_int (fun _ _=>rfl)))
    (jss_cons (js_asg (je_op jo_add (jv 2) je_int) (jg_setL (jv 0) je_int))
    (jss_cons (js_if (jt_cmpR jo_lt (jv 2) (je_fnB jc_len_seq rfl m_len PySem.boot_len (ja_c (je_ix jx_list (jv 0) je_int (fun _ _=>rfl)) ja_nil)) (nomark _))
      (jss_one (js_ret (je_op jo_mod (je_ix jx_list (je_ix jx_list (jv 0) je_int (fun _ _=>rfl)) (jv 2) (fun _ _=>rfl)) (jv 1)))) jss_nil)
    (jss_cons (js_set (i:=3) scDraw.nd rfl (Or.inl rfl) (je_op jo_add (je_op jo_mul (jv 2) je_int) je_int))
    (jss_cons (js_if (jt_cmpR jo_gt (je_fnB jc_len_seq rfl m_len PySem.boot_len (ja_c (je_ix jx_list (jv 0) je_int (fun _ _=>rfl)) ja_nil)) je_int (nomark _))
      (jss_one (js_set (i:=3) scDraw.nd rfl (Or.inl rfl) (je_op jo_add (jv 3) (je_op jo_mul (je_ix jx_list (je_ix jx_list (jv 0) je_int (fun _ _=>rfl)) (je_op jo_mod (je_op jo_mul (jv 2) je_int) (je_fnB jc_len_seq rfl m_len PySem.boot_len (ja_c (je_ix jx_list (jv 0) je_int (fun _ _=>rfl)) ja_nil))) (fun _ _=>rfl)) (je_op jo_add je_int (jv 2)))))) jss_nil)
    (jss_one (js_ret (je_op jo_mod (je_op jo_mod (jv 3) je_int) (jv 1))))))))),?_⟩
  refine ⟨_,rfl,st,_,_,_,rfl,rfl,SqL.of hst,atI_nat (j:=1) rfl,?_⟩
  refine ⟨_,rfl,_,_,rfl,rfl,_,rfl,st,_,1,1,rfl,rfl,hst,rfl,?_⟩
  have kp:Kp st H (upd H st (.lst [.ref a,.int ((k + 1:Nat):Int)])):=⟨fun b u n h=>by rw [upd_ne n]; exact h,fun x y h=>by
    rw [hst] at h
    cases h
    exact ⟨_,upd_same⟩⟩
  have hst1:=upd_same (H:=H) (a:=st) (o:=.lst [.ref a,.int ((k + 1:Nat):Int)])
  have hS1:SqL K (upd H st (.lst [.ref a,.int ((k + 1:Nat):Int)])) a (ns.map V.int):=by
    by_cases e:a=st
    · exact hne e _
    · exact kp.seq e hS
  have fin:∀ r:Int,0<=r->r < m->Q (.int r) (upd H st (.lst [.ref a,.int ((k + 1:Nat):Int)])):=fun r h0 h1=>q _ r kp ⟨a,ns,k + 1,hst1,hne,hS1,by omega⟩ h0 h1
  show (tSeq _ _:TS) _ _ (upd H st (.lst [.ref a,.int ((k + 1:Nat):Int)]))
  generalize upd H st (.lst [.ref a,.int ((k + 1:Nat):Int)])=H1 at *
  have ix0:atI [V.ref a,V.int ((k + 1:Nat):Int)] 0=some (.ref a):=atI_nat (j:=0) rfl
  have mm:∀ x:Int,0<=x % m/\x % m < m:=fun x=>⟨Int.emod_nonneg x (by omega),Int.emod_lt_of_pos x hm⟩
  refine ⟨_,rfl,_,rfl,st,_,_,_,rfl,rfl,SqL.of hst1,ix0,_,_,rfl,.inl hS1,_,_,rfl,rfl,_,rfl,?_⟩
  rw [List.length_map]
  refine ite2 (fun c=>?_) (fun c=>?_)
  · rw [decide_eq_true_eq] at c
    have hi:k < ns.length:=by omega
    have hx:(ns.map V.int)[k]?=some (.int ns[k]):=by rw [List.getElem?_map,List.getElem?_eq_getElem hi]; rfl
    exact ⟨_,rfl,st,_,_,_,rfl,rfl,SqL.of hst1,ix0,_,rfl,a,_,_,_,rfl,rfl,hS1,atI_nat hx,_,rfl,_,_,rfl,rfl,hm,fin _ (mm _).1 (mm _).2⟩
  · refine ⟨_,rfl,_,_,rfl,rfl,.inr ⟨by decide,by decide⟩,_,_,rfl,rfl,?_⟩
    have tail:∀ (c:Int) (D:Ends),D.rt=Q->(tRet (tOp (rI (fun _ j=>0 < j) fun i j=>V.int (i % j)) (tOp (rI (fun _ j=>0 < j) fun i j=>V.int (i % j)) (tVar 3) (tC (.int 2147483629))) (tVar 1)):TS) D [some (.ref st),some (.int m),some (.int (k:Nat)),some (.int c)] H1:=fun c D e=>by
      refine ⟨_,rfl,_,_,rfl,rfl,(by show (0:Int) < _; decide),_,rfl,_,_,rfl,rfl,hm,?_⟩
      rw [e]
      exact fin _ (mm _).1 (mm _).2
    refine ⟨_,rfl,st,_,_,_,rfl,rfl,SqL.of hst1,ix0,_,_,rfl,.inl hS1,_,_,rfl,rfl,_,rfl,?_⟩
    rw [List.length_map]
    refine ite2 (fun c2=>?_) (fun c2=>tail _ _ rfl)
    rw [decide_eq_true_eq] at c2
    have hl:(0:Int) < (ns.length:Nat):=by omega
    have c0:=Int.emod_nonneg ((k:Nat) * 7:Int) (show ((ns.length:Nat):Int)≠0 by omega)
    have c1:=Int.emod_lt_of_pos ((k:Nat) * 7:Int) hl
    have hi:(((k:Nat) * 7:Int) % (ns.length:Nat)).toNat < ns.length:=by omega
    have hx:(ns.map V.int)[(((k:Nat) * 7:Int) % (ns.length:Nat)).toNat]?=some (.int ns[(((k:Nat) * 7:Int) % (ns.length:Nat)).toNat]):=by rw [List.getElem?_map,List.getElem?_eq_getElem hi]; rfl
    have hx2:atI (ns.map V.int) (((k:Nat) * 7:Int) % (ns.length:Nat))=some (.int ns[(((k:Nat) * 7:Int) % (ns.length:Nat)).toNat]):=by
      have e:=atI_nat hx
      rw [Int.toNat_of_nonneg c0] at e
      exact e
    refine ⟨_,rfl,_,rfl,st,_,_,_,rfl,rfl,SqL.of hst1,ix0,_,rfl,_,_,rfl,rfl,.inr ⟨by decide,by decide⟩,_,rfl,st,_,_,_,rfl,rfl,SqL.of hst1,ix0,_,_,rfl,.inl hS1,_,_,rfl,rfl,(by rw [List.length_map]; exact hl),?_⟩
    refine ⟨a,_,_,_,rfl,rfl,hS1,(by rw [List.length_map]; exact hx2),_,rfl,_,_,rfl,rfl,_,_,rfl,rfl,.inr ⟨by show -(2 ^ 64) < (48271 + (k:Nat):Int); omega,by show (48271 + (k:Nat):Int) < 2 ^ 64; unfold LIM at hB; omega⟩,_,_,rfl,rfl,tail _ _ rfl⟩
theorem scNm:FnScope ["_law_world","_law_k","_law_letters","_law_core"] ["_law_world","_law_k"] (defScope sNm):=⟨rfl,rfl,rfl,by decide +kernel,rfl,by decide +kernel,by decide +kernel⟩
theorem ok_nm (F:Fun K "_law_name" "_law_name" sNm f fd):FnOk P w K mg base CX0 1 f fd ["_law_world","_law_k"] spNm:=by
  refine F.by scNm (fun vs H Q E h=>?_) (fun cdv A outer s H vs Q E hr h=>?_)
  · obtain ⟨p,z,b,xs,k,rfl,_⟩:=h
    rfl
  obtain ⟨p,z,b,xs,k,rfl,hp,hz,q⟩:=h
  refine ⟨_,
    (jss_cons (js_set (i:=2) scNm.nd rfl (Or.inl rfl) je_str)
    (jss_cons (js_set (i:=3) scNm.nd rfl (Or.inl rfl) (je_op jo_add_str (je_op jo_add_str (je_ix jx_str (jv 2) (je_op jo_mod (je_op jo_fdiv (jv 1) je_int) je_int) (fun _ _=>rfl)) je_str) (je_ix jx_str (jv 2) (je_op jo_mod (je_op jo_fdiv (jv 1) je_int) je_int) (fun _ _=>rfl))))
    (jss_cons (js_if (jt_val (je_ix jx_list (jv 0) je_int (fun _ _=>rfl)))
      (jss_one (js_ret (je_op jo_add_str (je_op jo_add_str (jv 3) (je_ix jx_list (jv 0) je_int (fun _ _=>rfl))) (je_op jo_mul_str je_str (je_op jo_mod (jv 1) je_int))))) jss_nil)
    (jss_one (js_ret (je_op jo_add_str (je_op jo_add_str (je_op jo_mul_str je_str (je_op jo_mod (jv 1) je_int)) (je_ix jx_list (jv 0) je_int (fun _ _=>rfl))) (jv 3))))))),?_⟩
  have sl:=line0
  have e1:((k:Nat):Int) / 2 % 26=((k / 2 % 26:Nat):Int):=by omega
  have e2:((k:Nat):Int) / 52 % 26=((k / 52 % 26:Nat):Int):=by omega
  have e3:((k:Nat):Int) % 2=((k % 2:Nat):Int):=by omega
  have cl3:=core_len k
  have yl:=ys_len k
  have ec:(⟨#[97 + (((k:Nat):Int) / 2 % 26).toNat]⟩:Str) ++ ("z":Str) ++ (⟨#[97 + (((k:Nat):Int) / 52 % 26).toNat]⟩:Str)=core k:=by
    rw [e1,e2]
    rfl
  suffices rest:∀ c3:Str,c3=core k->(tSeq _ _:TS) { nx:=fun _ H'=>Q .non H',rt:=Q } [some (.ref p),some (.int (k:Nat)),some (.str LET),some (.str c3)] H by
    exact ⟨_,rfl,_,rfl,_,_,rfl,rfl,⟨by decide,by decide⟩,_,_,rfl,rfl,(by show (0:Int) < _; decide),LET,_,_,rfl,rfl,by rw [let_len]; decide,let_atI (by omega) (by omega),_,_,rfl,rfl,by show 1 + 1<=sizeLine; decide,_,rfl,_,rfl,_,_,rfl,rfl,⟨by decide,by decide⟩,_,_,rfl,rfl,(by show (0:Int) < _; decide),LET,_,_,rfl,rfl,by rw [let_len]; decide,let_atI (by omega) (by omega),_,_,rfl,rfl,by show 2 + 1<=sizeLine; decide,rest _ ec⟩
  rintro _ rfl
  have mo:MulOk "y" (((k % 2:Nat):Int)):=mul_ok rfl (by omega) (by omega)
  refine ⟨_,rfl,p,_,_,_,rfl,rfl,SqL.of hp,atI_nat (j:=1) rfl,_,rfl,?_⟩
  unfold nm at q
  cases b with
  | true =>
    rw [if_pos rfl] at q
    refine iteT ?_
    refine ⟨_,rfl,_,rfl,p,_,_,_,rfl,rfl,SqL.of hp,atI_nat (j:=0) rfl,_,_,rfl,rfl,by omega,_,rfl,_,_,rfl,rfl,(by show (0:Int) < _; decide),_,_,rfl,rfl,by rw [e3]; exact mo,?_⟩
    rw [e3]
    exact ⟨_,_,rfl,rfl,by rw [len_app]; show (core k).length + z.length + (ys k).length<=_; omega,q⟩
  | false =>
    rw [if_neg (by decide)] at q
    refine iteF ?_
    refine ⟨_,rfl,_,_,rfl,rfl,(by show (0:Int) < _; decide),_,_,rfl,rfl,by rw [e3]; exact mo,?_⟩
    rw [e3]
    refine ⟨_,rfl,p,_,_,_,rfl,rfl,SqL.of hp,atI_nat (j:=0) rfl,_,_,rfl,rfl,by show (ys k).length + z.length<=_; omega,_,rfl,_,_,rfl,rfl,by show (Txt.mul "y" (((k % 2:Nat):Int)) ++ z).length + (core k).length<=_; rw [len_app]; show (ys k).length + z.length + (core k).length<=_; omega,q⟩
end
end GN
namespace L2
open PySem PySem.Spec PyProof.Rows
def BMn (mg:Str->Option Value) (h:Heap):Prop:=∃ bm ob,mg "__builtins__"=some (.ref bm)/\bm≠builtinsNs/\h.get? bm=some ob/\ob.cls=.type "module"/\ob.dict=some builtinsNs/\ob.data=.plain
theorem BMn.at {mg:Str->Option Value} {h:Heap} {P:Addr} {ps:Array Value} (B:BMn mg h) (g:h.Ns mainGlobals mg) (hP:h.get? P=some { cls:=.none,data:=.fields ps }):h.BuiltinsAt mg P/\mainGlobals≠P:=by
  obtain ⟨bm,ob,b1,b2,b3,b4,b5,b6⟩:=B
  refine ⟨⟨bm,ob,b1,b2,fun q=>?_,fun q=>?_,b3,b4,b5,b6⟩,fun q=>?_⟩
  · obtain ⟨o,es,ep,e,hd,_⟩:=g
    rw [q,e] at b3; cases b3; rw [hd] at b6; cases b6
  · rw [q,hP] at b3; cases b3; cases b4
  · obtain ⟨o,es,ep,e,hd,_⟩:=g
    rw [q,hP] at e; cases e; cases hd
theorem BMn.keeps {mg:Str->Option Value} {h h':Heap} (B:BMn mg h) (k:∀ b o,h.get? b=some o->h'.get? b=some o):BMn mg h' :=
  let ⟨bm,ob,b1,b2,b3,r⟩:=B; ⟨bm,ob,b1,b2,k _ _ b3,r⟩
theorem law_callT {P:Program} {w:World} {K:PySem.W.Frag} {mg mb:Str->Option Value} {CX:CXT} {k:Nat} {fa a T:Addr} {fd:FuncData} {x:Str} {sp:Sp} {s₁:Shared} {vs:List Value} {ns:List Int}
    (KX:K.In s₁.heap) (hT:s₁.heap.get? T=some { cls:=.none,data:=.fields #[] }) (hTK:K.lookup T=none) (hTc:isCodeTable s₁.heap T) (hns:s₁.heap.Ns mainGlobals mg) (hb:s₁.heap.Ns builtinsNs mb) (hbb:∀ x:Str,x≠"__name__"->mb x=bootBuiltins x) (hlim:s₁.heap.NoLimit) (hBM:BMn mg s₁.heap) (hg:s₁.gens=#[])
    (ha:s₁.heap.get? a=some { cls:=.type "list",data:=.seq vs.toArray }) (hi:IntsAre vs ns) (hl:ns.length<=sizeLine) (hr:Room k callerA)
    (F:∀ base:Heap,K.In base->base.Ns mainGlobals mg->BMn mg base->FnOk P w K mg base CX k fa fd [x] sp) (hbind:∀ (s:Shared) (u:Value),BindsTo s fd ⟨[u],[]⟩ [(x,u)])
    (hsp:∀ H:Hp,H T=some (.tbl #[])->SqL K H a (ns.map V.int)->sp [.ref a] H (fun v _=>v=.bl true) fun _ _ _=>False)
    (hCX:∀ H e s',CX [] H s₁ (fun _ _ _=>False) e s'->False) :
    codeAny (model P w) callerA (.call (.ref fa) ⟨[.ref a],[]⟩) (fun r s'=>r=.ok (.ret (.bool true))/\OldK s₁.heap s'.heap/\s'.os=s₁.os/\AllBare s'.gens) s₁:=by
  have rv:=vals_ints hi
  have lenV:=hi.length
  have nTa:a≠T:=fun e=>by rw [e,hT] at ha; cases ha
  have core:∀ H:Hp,(∀ b,H b=none\/(∃ o xs,H b=some (.frz o (.lst xs)))\/(b=T/\H b=some (.tbl #[])))->H T=some (.tbl #[])->SqL K H a (ns.map V.int)->HOk P w H s₁.heap->(∀ b,H b≠none->b=a\/b=T)->(H a≠none->K.lookup a=none) ->
      codeAny (model P w) callerA (.call (.ref fa) ⟨[.ref a],[]⟩) (fun r s'=>r=.ok (.ret (.bool true))/\OldK s₁.heap s'.heap/\s'.os=s₁.os/\AllBare s'.gens) s₁:=by
    intro H hO hHT hS hok hA hK
    have base_of:∀ {b:Addr} {o:Obj},s₁.heap.get? b=some o->H b=none->(hidT s₁.heap H).get? b=some o:=fun e n=>hidT_get e n
    have noA:∀ {b:Addr} {o:Obj} {es:Array DictEntry} {ep:Nat},s₁.heap.get? b=some o->o.data=.dict es ep->H b=none:=fun {b o es ep} e d=>by
      cases q:H b with
      | none=>rfl
      | some u =>
        rcases hA b (by rw [q]; simp) with e' | e'
        · subst e'
          rw [ha] at e; cases e
          have d':Data.seq vs.toArray _=Data.dict es ep:=d
          cases d'
        · subst e'
          rw [hT] at e; cases e
          have d':Data.fields #[]=Data.dict es ep:=d
          cases d'
    have nsK:∀ {b:Addr} {m:Str->Option Value},s₁.heap.Ns b m->(hidT s₁.heap H).Ns b m:=fun {b m} ⟨o,es,ep,e,d,r⟩=>⟨o,es,ep,base_of e (noA e d),d,r⟩
    have hBb:BMn mg (hidT s₁.heap H):=by
      obtain ⟨bm,ob,b1,b2,b3,b4,b5,b6⟩:=hBM
      refine ⟨bm,ob,b1,b2,base_of b3 ?_,b4,b5,b6⟩
      cases q:H bm with
      | none=>rfl
      | some u =>
        rcases hA bm (by rw [q]; simp) with e' | e'
        · subst e'
          rw [ha] at b3; cases b3; cases b6
        · subst e'
          rw [hT] at b3; cases b3; cases b6
    have hKb:K.In (hidT s₁.heap H):=fun b o e=>base_of (KX b o e) (by
      cases q:H b with
      | none=>rfl
      | some u =>
        rcases hA b (by rw [q]; simp) with e' | e'
        · subst e'
          rw [hK (by rw [q]; simp)] at e; cases e
        · subst e'
          rw [hTK] at e; cases e)
    have hM:Mod K mg (hidT s₁.heap H):=⟨hKb,nsK hns,⟨mb,nsK hb,hbb⟩,let ⟨mc,h1,h2⟩:=hlim; ⟨mc,nsK h1,h2⟩⟩
    have e0:Env0 P w K mg (hidT s₁.heap H) callerA [] s₁ H:=⟨rfl,hM,fun b o e=>of_hidT e,Nat.le_of_eq (hidT_size _ _),trivial,fun b hb=>absurd (show b∈([]:List Addr) from hb) (by simp),hok,.of_eq hg⟩
    refine codeAny_mono ((F _ hKb (nsK hns) hBb).run callerA [] s₁ H ⟨[.ref a],[]⟩ [.ref a] [.ref a] _ _ hr e0 (hbind s₁ (.ref a)) (.cons rfl .nil) (hsp H hHT hS)) fun r s' h=>?_
    cases r with
    | error e=>exact (hCX H e s' h).elim
    | ok fl =>
      cases fl with
      | next=>exact False.elim h
      | brk=>exact False.elim h
      | cont=>exact False.elim h
      | ret u =>
        obtain ⟨v,H',os,bare,un,hok',r',q⟩:=h
        have q':v=.bl true:=q
        subst q'
        obtain rfl:u=Value.bool true:=r'
        refine ⟨rfl,⟨fun b o e=>?_,fun b o e=>un.there b o e (by simp)⟩,os,bare⟩
        cases q:H b with
        | none=>exact .inl (un.keep b o e q (by intro z; exact absurd (show b∈([]:List Addr) from z) (by simp)) (by simp))
        | some u =>
          rcases hO b with z | ⟨ob,xs,z⟩ | ⟨rfl,z⟩
          · rw [q] at z; cases z
          · have z2:=un.frzs b ob _ z
            obtain ⟨e1,_⟩:=hok b _ z
            obtain ⟨e2,_⟩:=hok' b _ z2
            rw [e] at e1; cases e1
            exact .inl e2
          · obtain ⟨more,z2⟩:=un.tbls b _ z
            have e2:s'.heap.get? b=some { cls:=.none,data:=.fields (#[] ++ more) }:=hok' b _ z2
            rw [hT] at e; cases e
            exact .inr (.inl ⟨hTc,rfl,#[],more,rfl,e2⟩)
  cases hk:K.lookup a with
  | some o =>
    have e:=KX a o hk
    rw [ha] at e
    cases e
    refine core (fun b=>if b=T then some (.tbl #[]) else none) (fun b=>?_) (if_pos rfl) (.inr ⟨_,vs.toArray,_,hk,rfl,rfl,rfl,by rw [List.size_toArray,lenV]; exact hl,by simpa using rv⟩) (fun b u z=>?_) (fun b z=>?_) fun z=>absurd (if_neg nTa) z
    · by_cases hb:b=T
      · exact .inr (.inr ⟨hb,if_pos hb⟩)
      · exact .inl (if_neg hb)
    · by_cases hb:b=T
      · have z':=(if_pos hb).symm.trans z
        cases z'
        subst hb
        exact hT
      · have z':=(if_neg hb).symm.trans z
        cases z'
    · by_cases hb:b=T
      · exact .inr hb
      · exact absurd (if_neg hb) z
  | none =>
    refine core (fun b=>if b=T then some (.tbl #[]) else if b=a then some (.frz { cls:=.type "list",data:=.seq vs.toArray } (.lst (ns.map V.int))) else none) (fun b=>?_) (if_pos rfl) (.inl (.inr ⟨{ cls:=.type "list",data:=.seq vs.toArray },(if_neg nTa).trans (if_pos rfl)⟩)) (fun b u z=>?_) (fun b z=>?_) fun _=>hk
    · by_cases hb:b=T
      · exact .inr (.inr ⟨hb,if_pos hb⟩)
      · by_cases hb2:b=a
        · exact .inr (.inl ⟨_,_,(if_neg hb).trans (if_pos hb2)⟩)
        · exact .inl ((if_neg hb).trans (if_neg hb2))
    · by_cases hb:b=T
      · have z':=(if_pos hb).symm.trans z
        cases z'
        subst hb
        exact hT
      · by_cases hb2:b=a
        · have z':some (HO.frz { cls:=.type "list",data:=.seq vs.toArray } (.lst (ns.map V.int)))=some u:=((if_neg hb).trans (if_pos hb2)).symm.trans z
          cases z'
          subst hb2
          exact ⟨ha,by rw [List.length_map]; exact hl,vs,_,rv,ha⟩
        · have z':none=some u:=((if_neg hb).trans (if_neg hb2)).symm.trans z
          cases z'
    · by_cases hb:b=T
      · exact .inr hb
      · by_cases hb2:b=a
        · exact .inl hb2
        · exact absurd ((if_neg hb).trans (if_neg hb2)) z
def spTopT (K:PySem.W.Frag) (T:Addr):Sp:=fun vs H Q _=>∃ (a:Addr) (ns:List Int),vs=[.ref a]/\SqL K H a (ns.map V.int)/\ns.length<=63/\H T=some (.tbl #[])/\∀ H',Q (.bl true) H'
theorem law_inT {l:PySem.W.OpenLaw} {w:World} {K:PySem.W.Frag} {h:Heap} {mg:Str->Option Value} {fa T:Addr} {st:Stmt} {k:Nat} (d:DfIn K "law" st) (X:K.In h) (G:h.Ns mainGlobals mg) (hfa:mg "law"=some (.ref fa))
    (hb:∀ (kV doc pm:Value) (an:Option Addr) (cdv ct:Value) (s:Shared) (u:Value),BindsTo s (PySem.W.fnOf "law" "law" (defArgs st) (defBody st) (defScope st) .none kV doc pm an cdv ct) ⟨[u],[]⟩ [("_law_script",u)])
    (ok:∀ (base:Heap) (fd:FuncData),BMn mg base->Fun K "law" "law" st fa fd->FnOk l.prog w K mg base CX0 k fa fd ["_law_script"] (spTopT K T)) :
    ∃ fd:FuncData,(∀ (s:Shared) (u:Value),BindsTo s fd ⟨[u],[]⟩ [("_law_script",u)])/\∀ base:Heap,K.In base->base.Ns mainGlobals mg->BMn mg base->FnOk l.prog w K mg base CX0 k fa fd ["_law_script"] (spTopT K T):=by
  obtain ⟨fl,al,oc,od,kV,doc,pm,an,cdv,ct,osl,lk,cc,kk⟩:=d
  have e:fl=fa:=by
    have:=PySem.W.mg_of X G al
    rw [hfa] at this
    injection this with this
    injection this with this
    exact this.symm
  subst e
  exact ⟨_,fun s v=>hb _ _ _ _ _ _ s v,fun base _ _ B=>ok base _ B (fun_mk (st:=st) lk cc kk)⟩
theorem walkT {l:PySem.W.OpenLaw} {q:Program} {loose:List Str} {XP:(Str->Option Value)->Heap->Prop} {d:DefRec} {K:Params->PySem.W.Frag} {as:List Addr} {e:∀ p,as=(K p).map (·.1)} {T c:Addr} {k:Nat} (hn:l.most=some 63) (hr:Room k callerA) (hdf:d.params.defaults=[]) (hnm:d.name="law")
    (hc:∀ p,PySem.W.codeHdIn (K p) c T=true) (hTK:∀ p,(K p).lookup T=none)
    (F:∀ (w:World) (mg:Str->Option Value) (fa:Addr) (h:Heap),(K w.params).In h->h.Ns mainGlobals mg->mg "law"=some (.ref fa)->∃ fd:FuncData,(∀ (s:Shared) (u:Value),BindsTo s fd ⟨[u],[]⟩ [("_law_script",u)])/\∀ base:Heap,(K w.params).In base->base.Ns mainGlobals mg->BMn mg base->FnOk l.prog w (K w.params) mg base CX0 k fa fd ["_law_script"] (spTopT (K w.params) T)) :
    PySem.W.WalkO q loose XP (PySem.W.kmHook K as e [T]).says l.row.toRowW d [] (fun f vs=>PySem.call f vs):=by
  refine Att.attach_call hn hdf fun w s₀ s₁ mg mb fa o pm cd doc a vs ns G Y ho hd hcd hmg hobj hints hlen hg=>?_
  have KX:=PySem.W.km_in_of Y
  have hT:=PySem.W.km_tabs_of Y T (by simp)
  obtain ⟨fd,hb,hF⟩:=F w mg fa _ KX G.T.g (by rw [hnm] at hmg; exact hmg)
  obtain ⟨o1,vs1,_,_,_,_,_,_,_,c1,c2,c3,c4,_⟩:=PySem.W.codeHd_of_K KX (hc w.params)
  exact law_callT KX hT (hTK w.params) ⟨c,o1,vs1,c1,c2,c3,c4⟩ G.T.g G.T.b G.T.builtins G.T.nolimit G.T.bmain hg hobj hints (Nat.le_trans hlen (by decide)) hr hF hb (fun H hO hS=>⟨a,ns,rfl,hS,hlen,hO,fun _=>rfl⟩) fun _ _ _ z=>z
end L2
namespace L2
open PySem PySem.Spec PyProof.Rows
def FunO (f:Addr) (fd:FuncData):HO:=.ext fun h=>h.get? f=some { cls:=.type "function",data:=.func fd }
def CodO (c:Addr) (qual:Str):HO:=.ext fun h=>h.CodeRec (.ref c) qual
theorem ok_fun {P:Program} {w:World} {H:Hp} {h:Heap} {f:Addr} {fd:FuncData} (e:h.get? f=some { cls:=.type "function",data:=.func fd }):ObjOk P w H h f (FunO f fd) :=
  ⟨e,⟨_,e⟩,fun _ _ p k=>k _ p⟩
theorem ok_cod {P:Program} {w:World} {H:Hp} {h:Heap} {c:Addr} {qual:Str} (e:h.CodeRec (.ref c) qual):ObjOk P w H h c (CodO c qual) :=
  ⟨e,(let ⟨_,oc,_,_,q,e,_⟩:=e; by cases q; exact ⟨oc,e⟩),fun _ _ ⟨d,oc,vs,t,q,e,r⟩ k=>by cases q; exact ⟨c,oc,vs,t,rfl,k _ e,r⟩⟩
abbrev lamF (mg:Str->Option Value) (qual:Str) (params:Arguments) (body:Expr) (scope:Scope) (c:Addr) (ctv:Value):FuncData:=PySem.W.kla_fn "<lambda>" qual params body scope [] ((mg "__name__").getD .none) (.ref c) ctv
def tLam (mg:Str->Option Value) (T:Addr) (qual:Str) (params:Arguments) (body:Expr) (scope:Scope) (pos:Pos):TE:=fun _ H Q=>∃ ps,H T=some (.tbl ps)/\TriplesOk ps.toList /\
  ((codeAmong pos ps.toList=none/\∀ (c f:Addr) (ctv:Value),H c=none->H f=none->f≠c->Q (.ref f) (upd (upd (upd H T (.tbl (ps ++ #[rawInt pos.line,rawInt pos.col,.ref c]))) c (CodO c qual)) f (FunO f (lamF mg qual params body scope c ctv)))) \/
   (∃ c,codeAmong pos ps.toList=some (.ref c)/\∀ (f:Addr) (ctv:Value),H f=none->Q (.ref f) (upd H f (FunO f (lamF mg qual params body scope c ctv)))))
theorem pe_lam {X:Cx} {c T:Addr} {params:Arguments} {body:Expr} {scope:Scope} {pos:Pos} {qual:Str} (hB:BMn X.mg X.base) (hcode:X.env.code=.ref c) (hc:PySem.W.codeHdIn X.K c T=true) (hq:X.env.qual ++ "<lambda>"=qual)
    (hdef:defaultsOf params X.env=([],[])) (hcl:closureFor scope X.env=pure []):PE X (.Lambda params body scope pos) (tLam X.mg T qual params body scope pos):=by
  intro pins s σ H Q I h
  refine PySem.W.kla_eval hdef ?_
  rw [hq]
  obtain ⟨ps,hT,tr,h⟩:=h
  have gT:s.heap.get? T=some { cls:=.none,data:=.fields ps }:=I.hok T _ hT
  have hg:=I.mod.glob.keeps I.bk
  obtain ⟨bAt,hgP⟩:=(hB.keeps I.bk).at hg gT
  rcases h with ⟨nf,h⟩ | ⟨c',hit,h⟩
  · refine PySem.W.kla_makeFunction (mg:=X.mg) hcl I.ok.glob hg hcode (PySem.W.codeHd_of_K I.kIn hc) gT tr nf hgP bAt fun c' ctv h' tk ext ge lt rec tab=>?_
    have hc0:H c'=none:=I.hok.fresh ge
    have hf0:H h'.objs.size=none:=I.hok.fresh (Nat.le_trans ge (Nat.le_of_lt lt))
    have nfc:h'.objs.size≠c':=Nat.ne_of_gt lt
    have ncT:T≠c':=ne_of_none hT hc0
    have nfT:T≠h'.objs.size:=ne_of_none hT hf0
    have elsewhere:∀ b,b≠T->b≠c'->b≠h'.objs.size->upd (upd (upd H T (.tbl (ps ++ #[rawInt pos.line,rawInt pos.col,.ref c']))) c' (CodO c' qual)) h'.objs.size (FunO h'.objs.size (lamF X.mg qual params body scope c' ctv)) b=H b:=fun b h1 h2 h3=>by rw [upd_ne h3,upd_ne h2,upd_ne h1]
    have hU:∀ b u,H b=some u->b≠T->upd (upd (upd H T (.tbl (ps ++ #[rawInt pos.line,rawInt pos.col,.ref c']))) c' (CodO c' qual)) h'.objs.size (FunO h'.objs.size (lamF X.mg qual params body scope c' ctv)) b=some u:=fun b u e n=>by
      rw [elsewhere b n (ne_of_none e hc0) (ne_of_none e hf0)]; exact e
    have hTb:upd (upd (upd H T (.tbl (ps ++ #[rawInt pos.line,rawInt pos.col,.ref c']))) c' (CodO c' qual)) h'.objs.size (FunO h'.objs.size (lamF X.mg qual params body scope c' ctv)) T=some (.tbl (ps ++ #[rawInt pos.line,rawInt pos.col,.ref c'])):=by
      rw [upd_ne nfT,upd_ne ncT]; exact upd_same
    have keep:∀ b o,b≠T->s.heap.get? b=some o->(h'.push (PySem.W.kla_obj "<lambda>" qual params body scope [] ((X.mg "__name__").getD .none) c' ctv)).get? b=some o:=fun b o n e=>Heap.get?_push_of_some _ (ext b o n e)
    have neT:∀ b,H b=none->b≠T:=fun b e n=>by rw [n,hT] at e; cases e
    refine ⟨.ref h'.objs.size,_,I.un (t':=tk) (H':=upd (upd (upd H T (.tbl (ps ++ #[rawInt pos.line,rawInt pos.col,.ref c']))) c' (CodO c' qual)) h'.objs.size (FunO h'.objs.size (lamF X.mg qual params body scope c' ctv))) ⟨fun b o e n _ _=>keep b o (neT b n) e,fun b o e n _ _=>⟨o.slots,keep b o (neT b n) e⟩,fun b o e n _=>?_,fun b o e _=>?_,fun b xs e=>hU b _ e (fun z=>by rw [z,hT] at e; cases e),fun b o xs e=>hU b _ e (fun z=>by rw [z,hT] at e; cases e),fun b qs e=>?_⟩ ?_,rfl,h c' _ ctv hc0 hf0 nfc⟩
    · have l:=Heap.lt_size e
      rw [elsewhere b (neT b n) (Nat.ne_of_lt (Nat.lt_of_lt_of_le l ge)) (Nat.ne_of_lt (Nat.lt_trans (Nat.lt_of_lt_of_le l ge) lt))]
      exact n
    · by_cases z:b=T
      · rw [z]; exact ⟨_,Heap.get?_push_of_some _ tab⟩
      · exact ⟨o,keep b o z e⟩
    · by_cases z:b=T
      · subst z
        rw [hT] at e; cases e
        exact ⟨_,hTb⟩
      · exact ⟨#[],by rw [hU b _ e z]; simp⟩
    · intro b u e
      by_cases z1:b=h'.objs.size
      · subst z1
        rw [upd_same] at e; cases e
        exact ok_fun (Heap.get?_push_size _ rfl)
      rw [upd_ne z1] at e
      by_cases z2:b=c'
      · subst z2
        rw [upd_same] at e; cases e
        obtain ⟨d,oc,vs,t,q,e,r⟩:=rec
        exact ok_cod ⟨d,oc,vs,t,q,Heap.get?_push_of_some _ e,r⟩
      rw [upd_ne z2] at e
      by_cases z3:b=T
      · subst z3
        rw [upd_same] at e; cases e
        exact Heap.get?_push_of_some _ tab
      rw [upd_ne z3] at e
      refine (I.hok b u e).stay (fun d v hd q=>keep d v ?_ q) (fun d q=>hU d _ q fun z=>by rw [z,hT] at q; cases q) fun d xs q=>hU d _ q fun z=>by rw [z,hT] at q; cases q
      rcases hd with rfl | hd
      · exact z3
      · intro z
        rw [z,hT] at hd; cases hd
  · refine PySem.W.kla_makeFunctionHit (mg:=X.mg) hcl I.ok.glob hg hcode (PySem.W.codeHd_of_K I.kIn hc) gT tr hit bAt fun ctv h' tk kp sz=>?_
    have hf0:H h'.objs.size=none:=I.hok.fresh sz
    exact ⟨.ref h'.objs.size,_,I.laid (t':=tk) (o:=FunO h'.objs.size (lamF X.mg qual params body scope c' ctv)) (fun b u e=>Heap.get?_push_of_some _ (kp b u e)) sz (ok_fun (Heap.get?_push_size _ rfl)),rfl,h _ ctv hf0⟩
theorem je_lam {X:Cx} {c T:Addr} {params:Arguments} {body:Expr} {scope:Scope} {pos:Pos} {qual:Str} (hB:BMn X.mg X.base) (hcode:X.env.code=.ref c) (hc:PySem.W.codeHdIn X.K c T=true) (hq:X.env.qual ++ "<lambda>"=qual)
    (hdef:defaultsOf params X.env=([],[]):=by rfl) (hcl:closureFor scope X.env=pure []:=by rfl):jE X (.Lambda params body scope pos) (tLam X.mg T qual params body scope pos):=⟨pe_lam hB hcode hc hq hdef hcl⟩
theorem lam_of {CX:CXT} {P:Program} {w:World} {K:PySem.W.Frag} {mg:Str->Option Value} {base:Heap} {k:Nat} {f c:Addr} {name qual:Str} {params:Arguments} {body:Expr} {scope:Scope} {pm ct:Value}
    {N ps:List Str} {sp:Sp} (here:∀ vs H Q E,sp vs H Q E->H f=some (FunO f (PySem.W.kla_fn name qual params body scope [] pm (.ref c) ct))/\H c=some (CodO c qual)) (S:FnScope N ps scope)
    (len:∀ vs H Q E,sp vs H Q E->vs.length=ps.length)
    (hbody:∀ (A:Around) (outer:List Env) (s:Shared) (H:Hp) (vs:List V) (Q:VK) (E:XK),Room k (A.deeper (envOfC qual scope s.heap.objs.size f (.ref c)))->sp vs H Q E ->
      ∃ t,PE (cxOf CX P w K mg base N qual scope f (.ref c) A outer s H E) body t/\t (start N vs) H Q) :
    FnOk P w K mg base CX (k + 1) f (PySem.W.kla_fn name qual params body scope [] pm (.ref c) ct) ps sp:=by
  refine ⟨len,fun A outer s H args us vs Q E hr e0 hb r hsp=>?_⟩
  have hl:=len _ _ _ _ hsp
  have lim:s.heap.NoLimit:=e0.mod.nolimit.keeps fun b o e=>(e0.bs b o e).1
  have hkind:∀ y∈ps.zip us,scope.names.lookup y.1=some .local\/(scope.names.lookup y.1=some .cell/\((cellsFrom (s.heap.objs.size + 1) scope.names []).lookup y.1).isSome=true):=fun ⟨n,v⟩ hy=>by
    rcases S.par n (List.of_mem_zip hy).1 with q | q
    · exact .inl q
    · exact .inr ⟨q,PySem.W.cellsFrom_some _ _ _ (.inl q)⟩
  obtain ⟨hf,hc⟩:=here _ _ _ _ hsp
  have of:=(e0.hok f _ hf).1
  have oc:=(e0.hok c _ hc).1
  refine PySem.W.kla_callFunE hr.depth of rfl S.co S.gen rfl oc (hb _ _ _ _ ?_)
  refine wpAny_newFunctionEnv_cells S.kind hkind fun env he s1 x=>?_
  subst he
  refine ⟨lim.keeps x.toInCall.keep,PySem.W.kla_codeExpr ?_⟩
  obtain ⟨t,ht,hq⟩:=hbody A outer s H vs Q E (hr.deeper _) hsp
  have I:Inv (cxOf CX P w K mg base N qual scope f (.ref c) A outer s H E) [] (start N vs) H s1:=inv_start S hr.hd e0 hl r x
  refine wpAny_mono (ht [] s1 (start N vs) H _ I hq) (fun u s' hs=>?_) fun e s' hs=>hs
  obtain ⟨v,H',J,rv,q⟩:=hs
  exact ⟨v,H',J.os,J.bare,J.base,J.hok,rv,q⟩
def tCallV (fo:Addr->Value->FuncData) (sp:Addr->Addr->Value->Sp) (E:XK) (i:Nat) (t:TA):TE:=fun σ H Q=>∃ f,σ[i]?=some (some (.ref f))/\∃ c ct,H f=some (FunO f (fo c ct))/\t σ H fun vs H1=>H1 f=some (FunO f (fo c ct))/\sp f c ct vs H1 Q E
theorem pe_callV {X:Cx} {CX:CXT} {k:Nat} {fo:Addr->Value->FuncData} {ps:List Str} {sp:Addr->Addr->Value->Sp} {E:XK} {i:Nat} {x:Str} {p pos:Pos} {e:Expr} {es:List Expr} {t:TA}
    (F:∀ f c ct,FnOk X.prog X.w X.K X.mg X.base CX k f (fo c ct) ps (sp f c ct)) (hr:Room k X.A) (hn:PE X (.Name x p) (tVar i)) (hb:∀ c ct,Binds X.K (fo c ct) ps []) (hx:Passes CX X E) (ha:PA X (e :: es) t)
    (he:starEach (e :: es) X.env=(false,eval e X.env) :: starEach es X.env) (hpl:(backTo pos (starEach es X.env)).any (·.1)=false) :
    PE X (.Call (.Name x p) (e :: es) [] pos) (tCallV fo sp E i t):=by
  intro pins s σ H Q I h
  obtain ⟨f,hf,c,ct,hF,h⟩:=h
  refine wpAny_Call_Name_kw (thn (hn pins s σ H (fun v H1=>v=.ref f/\H1=H) I ⟨_,hf,rfl,rfl⟩) fun u s0 ⟨v,H0,I0,r0,e1,e2⟩=>?_)
  subst e1; subst e2
  cases r0
  refine PySem.W.callWith_F ⟨_,_,_,_,(I0.hok f _ hF).1⟩ (thn (ha pos pins s0 σ H0 _ I0 h) fun us s1 ⟨vs,H1,I1,r,hF1,q⟩=>⟨⟨_,_,_,_,(I1.hok f _ hF1).1⟩,?_⟩) he hpl
  exact run_fn (F f c ct) hr (hb c ct) .nil hx I1 r (by rw [List.append_nil]; exact q)
theorem je_callV {X:Cx} {CX:CXT} {k:Nat} {fo:Addr->Value->FuncData} {ps:List Str} {sp:Addr->Addr->Value->Sp} {E:XK} {i:Nat} {x:Str} {p pos:Pos} {e:Expr} {es:List Expr} {t:TA}
    (F:∀ f c ct,FnOk X.prog X.w X.K X.mg X.base CX k f (fo c ct) ps (sp f c ct)) (hr:Room k X.A) (hn:jE X (.Name x p) (tVar i)) (hb:∀ c ct,Binds X.K (fo c ct) ps []) (hx:Passes CX X E) (ha:jA X (e :: es) t) (h1:isStar e=false:=by rfl) (h2:es.all (fun e=>!isStar e)=true:=by rfl) :
    jE X (.Call (.Name x p) (e :: es) [] pos) (tCallV fo sp E i t):=⟨pe_callV F hr hn.out hb hx ha.out (star_cons h1) (star_any h2)⟩
structure CaD (P:Program) (w:World) (K:PySem.W.Frag) (mg:Str->Option Value) (base:Heap) (CX:CXT) (k:Nat) (x:Str) (ps:List Str) (dvs:List V) (sp:Sp):Prop where
  ex:∃ f fd,FnOk P w K mg base CX k f fd ps sp/\Binds K fd ps []/\(∃ ds,Binds K fd ps ds/\Vals dvs ds)/\PySem.W.keepIn K (.ref f)=true/\mg x=some (.ref f)
section
variable {X:Cx} {CX:CXT} {k:Nat} {x:Str} {ps:List Str} {sp:Sp} {dvs:List V} {E:XK} {p pos:Pos} {e:Expr} {es:List Expr} {t:TA}
theorem je_caD (F:CaD X.prog X.w X.K X.mg X.base CX k x ps dvs sp) (hr:Room k X.A) (hg:Gl X x) (hx:Passes CX X E) (ha:jA X (e :: es) t) (hdb:(x == ("__debug__":Str))=false:=by decide) (h1:isStar e=false:=by rfl) (h2:es.all (fun e=>!isStar e)=true:=by rfl) :
    jE X (.Call (.Name x p) (e :: es) [] pos) (tCall sp dvs E t):=let ⟨_,_,G,_,⟨_,b,r⟩,kp,mg⟩:=F.ex; je_fn G hr hg mg kp b r hx ha hdb h1 h2
end
def DdIn (K:PySem.W.Frag) (x:Str) (st:Stmt) (c D:Addr):Prop:=∃ f,PySem.W.nsIn K mainGlobals x=some (some (.ref f))/\∃ (oc:Value) (od:Option Addr) (kV doc pm:Value) (an:Option Addr) (ct:Value) (osl:Array (Option Value)),K.lookup f=some ⟨oc,od,.func (PySem.W.fnOf x x (defArgs st) (defBody st) (defScope st) (.ref D) kV doc pm an (.ref c) ct),osl⟩/\PySem.W.codeIn K (.ref c) x=true/\PySem.W.keepIn K (.ref f)=true
theorem DdIn.mk {K:PySem.W.Frag} {x:Str} {st:Stmt} {f c D:Addr} {oc:Value} {od:Option Addr} {kV doc pm:Value} {an:Option Addr} {ct:Value} {osl:Array (Option Value)} (a:PySem.W.nsIn K mainGlobals x=some (some (.ref f))) (l:K.lookup f=some ⟨oc,od,.func (PySem.W.fnOf x x (defArgs st) (defBody st) (defScope st) (.ref D) kV doc pm an (.ref c) ct),osl⟩) (cc:PySem.W.codeIn K (.ref c) x=true) (k:PySem.W.keepIn K (.ref f)=true):DdIn K x st c D:=⟨f,a,oc,od,kV,doc,pm,an,ct,osl,l,cc,k⟩
structure FunD (K:PySem.W.Frag) (x:Str) (st:Stmt) (c D f:Addr) (fd:FuncData):Prop where
  ex:∃ (oc:Value) (od:Option Addr) (kV doc pm:Value) (an:Option Addr) (ct:Value) (osl:Array (Option Value)),fd=PySem.W.fnOf x x (defArgs st) (defBody st) (defScope st) (.ref D) kV doc pm an (.ref c) ct/\K.lookup f=some ⟨oc,od,.func fd,osl⟩/\PySem.W.codeIn K (.ref c) x=true
theorem FunD.by {P:Program} {w:World} {K:PySem.W.Frag} {mg:Str->Option Value} {base:Heap} {x:Str} {st:Stmt} {f c D:Addr} {fd:FuncData} {N ps:List Str} {k:Nat} {sp:Sp} (F:FunD K x st c D f fd) (S:FnScope N ps (defScope st)) (len:∀ vs H Q E,sp vs H Q E->vs.length=ps.length)
    (hbody:∀ (A:Around) (outer:List Env) (s:Shared) (H:Hp) (vs:List V) (Q:VK) (E:XK),Room k (A.deeper (envOfC x (defScope st) s.heap.objs.size f (.ref c)))->sp vs H Q E ->
      ∃ t,jSs (cxOf CX0 P w K mg base N x (defScope st) f (.ref c) A outer s H E).nox (defBody st) t/\t { nx:=fun _ H'=>Q .non H',rt:=Q } (start N vs) H):FnOk P w K mg base CX0 (k + 1) f fd ps sp:=by
  obtain ⟨oc,od,kV,doc,pm,an,ct,osl,rfl,lk,hcd⟩:=F.ex
  refine fn_of lk hcd S len fun A outer s H vs Q E hr hsp=>?_
  obtain ⟨t,h,q⟩:=hbody A outer s H vs Q E hr hsp
  exact ⟨t,h.out.nox,q⟩
def DtIn (K:PySem.W.Frag) (D:Addr) (i:Int):Prop:=∃ (d:Option Addr) (t:Tok) (n:Nat) (sl:Array (Option Value)),K.lookup D=some ⟨.type "tuple",d,.seq #[.int i t] n,sl⟩
theorem DtIn.mk {K:PySem.W.Frag} {D:Addr} {i:Int} {d:Option Addr} {t:Tok} {n:Nat} {sl:Array (Option Value)} (a:K.lookup D=some ⟨.type "tuple",d,.seq #[.int i t] n,sl⟩):DtIn K D i:=⟨d,t,n,sl,a⟩
theorem DdIn.ca {P:Program} {w:World} {K:PySem.W.Frag} {mg:Str->Option Value} {base h:Heap} {k:Nat} {x:Str} {st:Stmt} {c D:Addr} {ps:List Str} {dvs:List V} {sp:Sp} (X:K.In h) (G:h.Ns mainGlobals mg) (d:DdIn K x st c D)
    (hb:∀ (kV doc pm:Value) (an:Option Addr) (ct:Value),Binds K (PySem.W.fnOf x x (defArgs st) (defBody st) (defScope st) (.ref D) kV doc pm an (.ref c) ct) ps [])
    (hd:∀ (kV doc pm:Value) (an:Option Addr) (ct:Value),∃ ds,Binds K (PySem.W.fnOf x x (defArgs st) (defBody st) (defScope st) (.ref D) kV doc pm an (.ref c) ct) ps ds/\Vals dvs ds)
    (ok:∀ f fd,FunD K x st c D f fd->FnOk P w K mg base CX0 k f fd ps sp):CaD P w K mg base CX0 k x ps dvs sp:=by
  obtain ⟨f,a,oc,od,kV,doc,pm,an,ct,osl,l,cc,kp⟩:=d
  exact ⟨f,_,ok f _ ⟨oc,od,kV,doc,pm,an,ct,osl,rfl,l,cc⟩,hb kV doc pm an ct,hd kV doc pm an ct,kp,PySem.W.mg_of X G a⟩
end L2
namespace L2
open PySem PySem.Spec PyProof.Rows
theorem tup_norev:typeLookup (.type "tuple") "__reversed__"=pure none:=by rw [typeLookup_type,builtinLookup_eq_fast]; kernel_rfl
theorem rev_slot_next:Slot "reversed" "__next__" "reversed.__next__" :=
  .of (owner:="reversed") (n:="__next__") (by rw [typeLookup_type,builtinLookup_eq_fast]; kernel_rfl) (by decide +kernel) (by decide +kernel) (by decide +kernel)
    (by first | exact .inl (by decide +kernel) | exact .inr (by decide +kernel)) (by rw [isSubtype_type]; kernel_rfl)
theorem rev_entry_next:entryFor table "reversed.__next__"=some Builtin.«reversed.__next__»:=entryFor_of_tree (by kernel_rfl)
section
variable {prog:Program} {w:World} {A:Around} {E:Value->Shared->Prop} {s:Shared}
theorem code_reversed_newT {l:Addr} {items:Array Value} {Q₁:Value->Shared->Prop} (hl:IsTup s.heap l items) (hz:items.size<=sizeLine)
    (h:∀ tk,Q₁ (.ref s.heap.objs.size) { s with heap:=s.heap.push { cls:=.type "reversed",data:=.fields #[.ref l,rawInt ((items.size:Int) - 1)] },toks:=tk }) :
    codeAny (model prog w) A (.call (.builtin "reversed.__new__") ⟨[.type "reversed",.ref l],[]⟩) (wants Q₁ E) s:=by
  refine codeAny_of_tree ?_
  show wpAny _ A.in1 (do checkBuiltinCall "reversed.__new__" ⟨[.type "reversed",.ref l],[]⟩; again (.builtin "reversed.__new__" ⟨[.type "reversed",.ref l],[]⟩)) _ _ s
  refine wpAny_bind (wpAny_of_eq (F.newCall_reversed_1 _) (wpAny_pure ⟨plainId_quiet F.plain_reversed_new _,codeAny_builtin F.entry_reversed_new ?_⟩))
  rw [Around.under_plainId F.plain_reversed_new _]
  unfold Builtin.«reversed.__new__»
  refine wpAny_bind (wpAny_of_eq (newClass_reversed _) ?_)
  try dsimp only
  refine wpAny_bind (wpAny_of_eq (a:=()) (by first | rfl | kernel_rfl) ?_)
  refine wpAny_bind (wpAny_of_eq (a:=()) (by first | rfl | kernel_rfl) ?_)
  try dsimp only
  refine wpAny_bind (wpAny_specialOf hl.typeIs tup_norev ?_)
  try dsimp only
  refine wpAny_bind ?_
  wp_delta
  refine wpAny_bind (wpAny_isInstance (T:="tuple") (b:=false) hl.typeIs (by rw [isSubtype_type]; kernel_rfl) ?_)
  refine wpAny_ite_split (fun hab=>absurd hab (by decide)) (fun _=>?_)
  try dsimp only
  refine wpAny_bind (wpAny_specialOf hl.typeIs slot_tuple_getitem.lookup ?_)
  try dsimp only
  rw [if_pos (by decide)]
  refine wpAny_pure ?_
  rw [if_neg (by decide)]
  have hn:=line63
  refine wpAny_bind (len_tuple hl (by omega) ?_)
  refine wpAny_bind (wpAny_of_eq (a:=some ((items.size:Nat):Int)) (by first | rfl | kernel_rfl) ?_)
  try dsimp only
  refine wpAny_bind ?_
  show wpAny _ _ (newObj (.type "reversed") (.fields [Value.ref l,rawInt (((items.size:Nat):Int) - 1)].toArray)) _ _ _
  refine wpAny_newObj_type ?_
  exact wpAny_pure (h _)
theorem slot_reversed_init:Slot "reversed" "__init__" "object.__init__" :=
  .of (owner:="object") (n:="__init__") (by rw [typeLookup_type,builtinLookup_eq_fast]; kernel_rfl) (by decide +kernel) (by decide +kernel) (by decide +kernel)
    (by first | exact .inl (by decide +kernel) | exact .inr (by decide +kernel)) (by rw [isSubtype_type]; kernel_rfl)
theorem called_reversed:TypeCalled "reversed" "reversed.__new__" "object.__init__" :=
  ⟨by decide +kernel,by decide +kernel,⟨_,_,F.mro_reversed⟩,F.made_reversed,by decide +kernel,F.sub_reversed_self,slot_reversed_init⟩
def IsRevT (h:Heap) (a l:Addr) (i:Int):Prop:=∃ o,h.get? a=some o/\o.cls=.type "reversed"/\o.data=.fields #[.ref l,rawInt i]
theorem IsRevT.typeIs {a l:Addr} {i:Int} (x:IsRevT s.heap a l i):s.TypeIs (.ref a) "reversed":=let ⟨o,ho,hc,_⟩:=x; ⟨o,ho,hc⟩
theorem IsRevT.at {h h':Heap} {a l:Addr} {i:Int} (x:IsRevT h a l i) (e:∀ o,h.get? a=some o->h'.get? a=some o):IsRevT h' a l i:=let ⟨o,ho,r⟩:=x; ⟨o,e _ ho,r⟩
theorem call_reversed_tuple {l:Addr} {items:Array Value} {Q:Value->Shared->Prop} (hl:IsTup s.heap l items) (hz:items.size<=sizeLine)
    (h:∀ tk,Q (.ref s.heap.objs.size) { s with heap:=s.heap.push { cls:=.type "reversed",data:=.fields #[.ref l,rawInt ((items.size:Int) - 1)] },toks:=tk }) :
    wpAny (model prog w) A (call (.type "reversed") [.ref l]) Q E s:=by
  refine callType_codes (Q₁:=fun obj s₁=>s₁.TypeIs obj "reversed"/\Q obj s₁) called_reversed (F.typeCall_reversed_1 _) F.entry_object_init
    (code_reversed_newT hl hz fun tk=>⟨⟨_,Heap.get?_push_size _ rfl,rfl⟩,h tk⟩) fun obj s₁ h₁=>?_
  exact ⟨h₁.1,F.args_object_init_2 obj _,object_init_meets called_reversed.init.lookup called_reversed.made (by decide) prog w A.in1 _ s₁ ⟨h₁.1,rfl,h₁.2⟩⟩
theorem rev_owner:Manifest.owners.lookup (String.ofList ['d','e','s','r','e','v','e','r'].reverse)=some Manifest.sig_reversed:=by kernel_rfl
theorem rev_args_next (a:Value):argsOk "reversed.__next__" ⟨[a],[]⟩:=by
  unfold argsOk; rw [signature?_of (id:="reversed.__next__") (n:=['_','_','t','x','e','n','_','_']) (o:=['d','e','s','r','e','v','e','r']) (by kernel_rfl) rev_owner]; kernel_rfl
theorem revT_item {it l:Addr} {i:Nat} {items:Array Value} {x:Value} {Q:Option Value->Shared->Prop} (hit:IsRevT s.heap it l (i:Int)) (hl:IsTup s.heap l items) (hz:items.size<=sizeLine) (hx:items[i]?=some x)
    (hQ:∀ h' tk,IsRevT h' it l ((i:Int) - 1)->Heap.SameBut it s.heap h'->Q (some x) { s with heap:=h',toks:=tk }):wpAny (model prog w) A (pyNext (.ref it)) Q E s:=by
  obtain ⟨o,ho,hc,hd⟩:=id hit
  unfold pyNext
  refine wpAny_bind (wpAny_attempt (wpAny_callSpecial?_slot (name:=Str.ofString "__next__") hit.typeIs rev_slot_next
    (wpAny_call_entry rev_slot_next hit.typeIs rev_entry_next ?_ (rev_args_next _))))
  unfold Builtin.«reversed.__next__»
  refine wpAny_bind (wpAny_of_eq (a:=(Value.ref it,[])) rfl ?_)
  try dsimp only
  refine wpAny_bind (wpAny_field ho hd (x:=.ref l) rfl ?_)
  refine wpAny_bind (wpAny_field ho hd (x:=rawInt (i:Int)) rfl ?_)
  show wpAny _ _ (if (i:Int) < 0 then _ else _) _ _ s
  rw [if_neg (by omega)]
  refine wpAny_bind (wpAny_specialOf hl.typeIs slot_tuple_getitem.lookup ?_)
  try dsimp only
  rw [if_neg (by decide)]
  refine wpAny_bind (wpAny_mkInt ?_)
  have hn:=line63
  have hi:i < items.size:=by
    rcases Nat.lt_or_ge i items.size with c | c
    · exact c
    · rw [Array.getElem?_eq_none c] at hx; cases hx
  refine wpAny_bind (wpAny_attempt (getItem_tuple (j:=i) hl (by omega) (by omega) (by unfold seqIndex?; simp; omega) hx ?_))
  try dsimp only
  refine wpAny_bind (wpAny_field ho hd (x:=rawInt (i:Int)) rfl ?_)
  show wpAny _ _ (setField (.ref it) 1 (rawInt ((i:Int) - 1)) >>= fun _=>ret x) _ _ _
  refine wpAny_bind (wpAny_setField ho hd (by simp) ?_)
  first
  | refine wpAny_pure ⟨x,rfl,wpAny_pure (hQ _ _ ?_ (Heap.SameBut.update ..))⟩
  | refine wpAny_bind (wpAny_pure (wpAny_pure ⟨x,rfl,wpAny_pure (hQ _ _ ?_ (Heap.SameBut.update ..))⟩))
  exact ⟨_,Heap.get?_update_self _ ho (Obj.isFreed_of_fields (Obj.data_mapFields hd _)),(Obj.cls_mapFields ..).trans hc,by
    rw [Obj.data_mapFields hd]; simp⟩
theorem revT_end {it l:Addr} {Q:Option Value->Shared->Prop} (hh:A.handled=none) (hit:IsRevT s.heap it l (-1))
    (hQ:∀ h',Heap.ExtBut it s.heap h'->Q none { s with heap:=h' }):wpAny (model prog w) A (pyNext (.ref it)) Q E s:=by
  obtain ⟨o,ho,hc,hd⟩:=id hit
  unfold pyNext
  refine wpAny_bind (wpAny_attempt (wpAny_callSpecial?_slot (name:=Str.ofString "__next__") hit.typeIs rev_slot_next
    (wpAny_call_entry rev_slot_next hit.typeIs rev_entry_next ?_ (rev_args_next _))))
  unfold Builtin.«reversed.__next__»
  refine wpAny_bind (wpAny_of_eq (a:=(Value.ref it,[])) rfl ?_)
  try dsimp only
  refine wpAny_bind (wpAny_field ho hd (x:=.ref l) rfl ?_)
  refine wpAny_bind (wpAny_field ho hd (x:=rawInt (-1)) rfl ?_)
  show wpAny _ _ (if (-1:Int) < 0 then _ else _) _ _ s
  rw [if_pos (by decide)]
  refine wpAny_bind (wpAny_rule ?_)
  refine wpAny_bind ?_
  wp_delta
  refine wpAny_bind (wpAny_setField ho hd (by simp) ?_)
  refine wpAny_setField (Heap.get?_update_self _ ho (Obj.isFreed_of_fields (Obj.data_mapFields hd _))) (Obj.data_mapFields hd _) (by simp) ?_
  show wpAny _ _ (Builtin.SmallTypes.stopIteration >>= _) _ _ _
  refine wpAny_bind ?_
  unfold Builtin.SmallTypes.stopIteration
  refine wpAny_bind ?_
  simp only [newExc,newTuple]
  refine wpAny_bind (wpAny_newObj_type ?_ (by size_fits))
  refine wpAny_bind (m:=firstArgMember _ _) (wpAny_of_eq (a:=Value.none) (by first | rfl | (simp only [firstArgMember]; rfl)) ?_)
  refine wpAny_newObj_type ?_ (by size_fits)
  simp only [raiseNew]
  refine wpAny_bind (wpAny_handled ?_)
  first | rw [show A.in1.handled=none from hh] | rw [hh]
  refine wpAny_bind (wpAny_pure (wpAny_throw ?_))
  refine wpAny_bind (wpAny_isInstance (T:="StopIteration") (b:=true) ⟨_,Heap.get?_push_size _ rfl,rfl⟩ isSubtype_stop ?_)
  exact wpAny_pure (hQ _ fun b o hb e=>Heap.get?_push_of_some _ (Heap.get?_push_of_some _ ((Heap.get?_update_other _ _ (Ne.symm hb)).trans ((Heap.get?_update_other _ _ (Ne.symm hb)).trans e))))
theorem rev_slot_iter:Slot "reversed" "__iter__" "reversed.__iter__" :=
  .of (owner:="reversed") (n:="__iter__") (by rw [typeLookup_type,builtinLookup_eq_fast]; kernel_rfl) (by decide +kernel) (by decide +kernel) (by decide +kernel)
    (by first | exact .inl (by decide +kernel) | exact .inr (by decide +kernel)) (by rw [isSubtype_type]; kernel_rfl)
theorem rev_args_iter (a:Value):argsOk "reversed.__iter__" ⟨[a],[]⟩:=by
  unfold argsOk; rw [signature?_of (id:="reversed.__iter__") (n:=['_','_','r','e','t','i','_','_']) (o:=['d','e','s','r','e','v','e','r']) (by kernel_rfl) rev_owner]; kernel_rfl
theorem rev_entry_iter:entryFor table "reversed.__iter__"=some Builtin.«dict_keyiterator.__iter__» :=
  entryFor_alias (id':="dict_keyiterator.__iter__") (by kernel_rfl) (by first | rfl | decide +kernel | (unfold String.splitOn; simp +decide [String.splitOnAux])) (by decide +kernel) (by kernel_rfl)
theorem revT_iter {it l:Addr} {i:Int} {Q:Value->Shared->Prop} (hit:IsRevT s.heap it l i) (h:Q (.ref it) s):wpAny (model prog w) A (pyIter (.ref it)) Q E s:=by
  refine wpAny_pyIter_slot hit.typeIs rev_slot_iter (wpAny_call_entry rev_slot_iter hit.typeIs rev_entry_iter ?_ (rev_args_iter _))
  show wpAny _ _ (ret (.ref it)) _ _ s
  exact wpAny_pure ⟨_,rfl,"reversed",_,hit.typeIs,rev_slot_next.lookup,h⟩
end
def ItvT (K:PySem.W.Frag) (a:Addr) (n:Nat):It :=
  ⟨fun i H=>i < n/\∃ xs x,SqT K H a xs/\xs[n - 1 - i]?=some x,fun i H x H'=>H'=H/\∀ xs,SqT K H a xs->xs[n - 1 - i]?=some x,fun i _=>n<=i⟩
theorem turn_revT {P:Program} {w:World} {K:PySem.W.Frag} {tg:Expr} (a it:Addr) (n:Nat):Turn P w K tg (ItvT K a n) [it] it (fun i h=>i<=n/\IsRevT h it a ((n:Int) - 1 - (i:Nat))) where
  mem:=by simp
  obj:=fun i h st b hb=>by
    have e:b=it:=by simpa using hb
    subst e
    obtain ⟨_,o,e,c,d⟩:=st
    exact ⟨o,e,fun v z=>by rw [d] at z; cases z⟩
  keep:=fun i h h' st k=>⟨st.1,st.2.at fun o e=>k it (by simp) o e⟩
  item:=by
    intro X hP hw hK hc i pins s σ H E I hf st hg
    subst hP hw hK
    obtain ⟨hi,xs,x,hq,hx⟩:=hg
    obtain ⟨its,rv,p,hz⟩:=I.tuple hq
    obtain ⟨u,hu,ru⟩:=rv.get hx
    have hl:=rv.length
    obtain ⟨f0,f1,f2,f3,f4,f5⟩:=hf it (by simp)
    obtain ⟨_,st2⟩:=st
    have e1:(n:Int) - 1 - (i:Nat)=((n - 1 - i:Nat):Int):=by omega
    rw [e1] at st2
    refine revT_item st2 p (by rw [List.size_toArray]; omega) (x:=u) (by simpa using hu) fun h' tk st' sb=>?_
    have I1:Inv X pins σ H { s with heap:=h',toks:=tk }:=I.turned (t':=tk) (fun b o hb e=>(sb.2 b hb).trans e) f0 f1 f3 f4 f5
    obtain ⟨o,e,c,d⟩:=id st'
    refine ⟨u,rfl,go_of (s:={ s with heap:=h',toks:=tk }) e c d (by decide) ⟨x,H,I1,ru,⟨rfl,fun ys hy=>by rw [I.tuple_inj hy hq]; exact hx⟩,⟨hi,?_⟩,fun b hb=>(hf b hb).1⟩⟩
    have e2:(n:Int) - 1 - ((i + 1:Nat):Int)=((n - 1 - i:Nat):Int) - 1:=by omega
    rw [e2]
    exact st'
  done:=by
    intro X hP hw hK hc i pins s σ H E I hf st hg
    subst hP hw hK
    obtain ⟨f0,f1,f2,f3,f4,f5⟩:=hf it (by simp)
    obtain ⟨h1,st2⟩:=st
    have h2:n<=i:=hg
    have e1:(n:Int) - 1 - (i:Nat)=-1:=by omega
    rw [e1] at st2
    exact revT_end (I.ok.hd hc) st2 fun h' eb=>⟨rfl,I.turned (t':=s.toks) (fun b o hb e=>eb b o hb e) f0 f1 f3 f4 f5⟩
  self:=fun _ _ _ _ _ st h=>revT_iter st.2 h
section
variable {X:Cx} {tg:Expr}
def iRevT (K:PySem.W.Frag) (ta:TA):TI:=fun σ H R=>ta σ H fun vs H1=>∃ a xs,vs=[.ref a]/\SqT K H1 a xs/\R (ItvT K a xs.length) H1
theorem pi_revT {a:Expr} {ta:TA} {p pos:Pos} (hg:Gl X "reversed") (hm:X.mg "reversed"=none) (ha:PA X [a] ta) (hs:starEach [a] X.env=[(false,eval a X.env)]:=by rfl):PI X tg (.Call (.Name "reversed" p) [a] [] pos) (iRevT X.K ta):=by
  intro pins s σ H R I h
  refine Call_ (ld_blt I hg hm boot_reversed (PyProof.Rows.callWith_type1 (thn (ha pos pins s σ H _ I h) fun us s1 ⟨vs,H1,I1,r1,q1⟩=>?_) hs rfl))
  obtain ⟨l,xs,e,hq,q⟩:=q1
  subst e
  obtain ⟨u,rfl,rx⟩:=vals1 r1
  cases rx
  obtain ⟨its,rv,pl,hz⟩:=I1.tuple hq
  have hl:=rv.length
  refine call_reversed_tuple pl (by rw [List.size_toArray]; omega) fun tk=>?_
  have hr:IsRevT (s1.heap.push { cls:=.type "reversed",data:=.fields #[.ref l,rawInt ((its.toArray.size:Int) - 1)] }) s1.heap.objs.size l ((its.toArray.size:Int) - 1):=⟨_,Heap.get?_push_size _ rfl,rfl,rfl⟩
  refine revT_iter (s:={ s1 with heap:=s1.heap.push { cls:=.type "reversed",data:=.fields #[.ref l,rawInt ((its.toArray.size:Int) - 1)] },toks:=tk }) hr ?_
  refine ⟨s1.heap.objs.size,[s1.heap.objs.size],_,_,H1,rfl,I1.kept (t':=tk) fun b o e=>Heap.get?_push_of_some _ e,turn_revT l _ xs.length,⟨Nat.zero_le _,?_⟩,fun b hb=>?_,q⟩
  · have e:(xs.length:Int) - 1 - ((0:Nat):Int)=(its.toArray.size:Int) - 1:=by simp [hl]
    rw [e]
    exact hr
  have e:b=s1.heap.objs.size:=by simpa using hb
  subst e
  exact I1.fpOk (Nat.le_refl _) (I1.hok.fresh (Nat.le_refl _))
theorem ji_revT {a:Expr} {t:TA} {p pos:Pos} (hg:Gl X "reversed") (hm:X.mg "reversed"=none) (ha:jA X [a] t) (h:isStar a=false:=by rfl):jI X tg (.Call (.Name "reversed" p) [a] [] pos) (iRevT X.K t):=⟨pi_revT hg hm ha.out (star_cons h)⟩
end
theorem for_revT {K:PySem.W.Frag} {a:Addr} {xs:List V} {g:TG} {tb:TS} {D:Ends} {σ:St} {H:Hp} (Pv:Nat->St->Hp->Prop) (h0:Pv 0 σ H) (hl:∀ i σ H,i<=xs.length->Pv i σ H->SqT K H a xs)
    (hs:∀ i x σ H,xs.reverse[i]?=some x->Pv i σ H->g x σ H fun σ2 H2=>tb { D with nx:=Pv (i + 1),ct:=Pv (i + 1),bk:=D.nx } σ2 H2) (hd:∀ σ H,Pv xs.length σ H->D.nx σ H) :
    ∃ W:Nat->Nat->St->Hp->Prop,(∃ m,W 0 m σ H)/\∀ i m σ H,W i m σ H ->
      ((ItvT K a xs.length).stop i H/\D.nx σ H)\/((ItvT K a xs.length).go i H/\∃ N:St->Hp->Prop,(∀ σ' H',N σ' H'->∃ m',m' < m/\W (i + 1) m' σ' H')/\∀ x H',(ItvT K a xs.length).yld i H x H'->g x σ H' fun σ2 H2=>tb { D with nx:=N,ct:=N,bk:=D.nx } σ2 H2):=by
  refine ⟨fun i m σ H=>m=xs.length - i/\i<=xs.length/\Pv i σ H,⟨xs.length,by simp,Nat.zero_le _,h0⟩,?_⟩
  rintro i m σ H ⟨rfl,hi,p⟩
  have q:=hl i σ H hi p
  by_cases hlt:i < xs.length
  · refine .inr ⟨⟨hlt,xs,xs[xs.length - 1 - i],q,by rw [List.getElem?_eq_getElem]⟩,Pv (i + 1),fun σ' H' p'=>⟨xs.length - (i + 1),by omega,rfl,hlt,p'⟩,fun x H' y=>?_⟩
    obtain ⟨e,y⟩:=y
    subst e
    refine hs i x σ _ ?_ p
    rw [List.getElem?_reverse hlt]
    exact y xs q
  · have e:i=xs.length:=by omega
    subst e
    exact .inl ⟨Nat.le_refl _,hd σ H p⟩
end L2
namespace GN
open PySem L2 K11
inductive PtL (H:Hp):List V->List V->Prop
  | nil:PtL H [] []
  | num {i:Int} {vs xs:List V}:PtL H vs xs->PtL H (.int i :: vs) (.int i :: xs)
  | shp {p q:Addr} {t:Str} {us vs xs ys:List V}:H p=some (.tup [.str t,.ref q])->H q=some (.tup us)->us.length<=9->PtL H us xs->PtL H vs ys->PtL H (.ref p :: vs) (.str t :: (xs ++ ys))
theorem PtL.keep {H H':Hp} {vs xs:List V} (t:Tups H H') (h:PtL H vs xs):PtL H' vs xs:=by
  induction h with
  | nil=>exact .nil
  | num _ ih=>exact .num ih
  | shp a b c _ _ ih1 ih2=>exact .shp (t _ _ a) (t _ _ b) c ih1 ih2
theorem PtL.app {H:Hp} {us vs xs ys:List V} (h:PtL H us xs) (g:PtL H vs ys):PtL H (us ++ vs) (xs ++ ys):=by
  induction h with
  | nil=>exact g
  | num _ ih=>exact .num ih
  | shp a b c d _ _ ih2 =>
    rw [List.cons_append,List.cons_append,List.append_assoc]
    exact .shp a b c d ih2
def At:V->Prop
  | .int _=>True
  | .str _=>True
  | _=>False
theorem PtL.at {H:Hp} {vs xs:List V} (h:PtL H vs xs):∀ x∈xs,At x:=by
  induction h with
  | nil=>intro x hx; cases hx
  | num _ ih =>
    intro x hx
    rcases List.mem_cons.mp hx with rfl | hx
    · trivial
    · exact ih x hx
  | shp _ _ _ _ _ ih1 ih2 =>
    intro x hx
    rcases List.mem_cons.mp hx with rfl | hx
    · trivial
    · rcases List.mem_append.mp hx with hx | hx
      · exact ih1 x hx
      · exact ih2 x hx
theorem PtL.len {H:Hp} {vs xs:List V} (h:PtL H vs xs):vs.length<=xs.length:=by
  induction h with
  | nil=>exact Nat.le_refl _
  | num _ ih=>simp; exact ih
  | shp _ _ _ _ _ _ ih2=>simp; omega
def lamX:Expr:=match defBody sParts with
  | [.Return (some (.Call _ [_,_,l] _ _)) _]=>l
  | _=>.Constant .none 0 ⟨0,0,0,0⟩
def lamP:Arguments:=match lamX with
  | .Lambda a _ _ _=>a
  | _=>defArgs sParts
def lamB:Expr:=match lamX with
  | .Lambda _ b _ _=>b
  | e=>e
def lamS:Scope:=match lamX with
  | .Lambda _ _ s _=>s
  | _=>defScope sParts
def lamPos:Pos:=match lamX with
  | .Lambda _ _ _ p=>p
  | _=>⟨0,0,0,0⟩
def lamQ:Str:=("parts_of":Str) ++ (".<locals>.":Str) ++ ("<lambda>":Str)
abbrev lamFd (mg:Str->Option Value) (c:Addr) (ct:Value):FuncData:=lamF mg lamQ lamP lamB lamS c ct
def spId (mg:Str->Option Value) (f c:Addr) (ct:Value):Sp:=fun vs H Q _=>∃ v,vs=[v]/\H f=some (FunO f (lamFd mg c ct))/\H c=some (CodO c lamQ)/\Q v H
theorem scLam:FnScope ["shape_value"] ["shape_value"] lamS:=⟨rfl,rfl,rfl,by decide +kernel,rfl,by decide +kernel,by decide +kernel⟩
theorem lamB_eq:∃ p,lamB=.Name "shape_value" p:=⟨_,rfl⟩
def spWhole:Sp:=fun vs H Q _=>∃ v,vs=[v]/\((∃ i,v=.int i/\Q (.bl true) H)\/(∃ p xs,v=.ref p/\H p=some (.tup xs)/\Q (.bl false) H))
def spFirst (mg:Str->Option Value):Sp:=fun vs H Q _=>∃ (v:V) (m:Nat) (f c:Addr) (ct:Value) (full:List V),vs=[v,.int (m:Nat),.ref f]/\m<=300/\H f=some (FunO f (lamFd mg c ct))/\H c=some (CodO c lamQ)/\PtL H [v] full /\
  ∀ (H':Hp) (l:Addr),Same H H'->H l=none->H' l=some (.lst (full.take m))->Q (.ref l) H'
def Tb (T:Addr) (H:Hp):Prop:=∃ ps,H T=some (.tbl ps)/\(ps=#[]\/∃ c,ps=#[rawInt lamPos.line,rawInt lamPos.col,.ref c]/\H c=some (CodO c lamQ))
def KT (T:Addr) (H H':Hp):Prop:=∀ b u,b≠T->H b=some u->H' b=some u
theorem KT.trans {T:Addr} {H H1 H2:Hp} (a:KT T H H1) (b:KT T H1 H2):KT T H H2:=fun c u n h=>b c u n (a c u n h)
theorem KT.of {T:Addr} {H H1:Hp} (s:Same H H1):KT T H H1:=fun c u _ h=>s c u h
theorem KT.put {T p:Addr} {H H1:Hp} {o:HO} (a:KT T H H1) (h:H p=none):KT T H (upd H1 p o):=fun b u n q=>by rw [upd_ne (ne_of_none q h)]; exact a b u n q
theorem Tb.tbl {T:Addr} {H:Hp} (h:Tb T H):∃ ps,H T=some (.tbl ps):=let ⟨ps,e,_⟩:=h; ⟨ps,e⟩
theorem Tb.same {T:Addr} {H H':Hp} (h:Tb T H) (s:Same H H'):Tb T H':=by
  obtain ⟨ps,e,h⟩:=h
  refine ⟨ps,s _ _ e,?_⟩
  rcases h with h | ⟨c,h,g⟩
  · exact .inl h
  · exact .inr ⟨c,h,s _ _ g⟩
theorem Tb.put {T p:Addr} {H:Hp} {xs:List V} {o:HO} (h:Tb T H) (hp:H p=some (.lst xs)):Tb T (upd H p o):=by
  obtain ⟨ps,e,h⟩:=h
  refine ⟨ps,by rw [upd_ne (ne_of e hp (by intro z; cases z))]; exact e,?_⟩
  rcases h with h | ⟨c,h,g⟩
  · exact .inl h
  · exact .inr ⟨c,h,by rw [upd_ne (ne_of g hp (by unfold CodO; intro z; cases z))]; exact g⟩
theorem KT.tups {T:Addr} {H H':Hp} (k:KT T H H') (h:Tb T H):Tups H H':=fun p xs q=>k p _ (let ⟨_,e⟩:=h.tbl; ne_of q e (by intro z; cases z)) q
theorem KT.lst {T:Addr} {H H':Hp} (k:KT T H H') (h:Tb T H) {p:Addr} {xs:List V} (q:H p=some (.lst xs)):H' p=some (.lst xs):=k p _ (let ⟨_,e⟩:=h.tbl; ne_of q e (by intro z; cases z)) q
def spParts (T:Addr):Sp:=fun vs H Q _=>∃ (v:V) (m:Nat) (full:List V),vs=[v,.int (m:Nat)]/\m<=300/\Tb T H/\PtL H [v] full/\∀ (H':Hp) (l:Addr),KT T H H'->Tb T H'->H l=none->H' l=some (.lst (full.take m))->Q (.ref l) H'
section
variable {P:Program} {w:World} {K:PySem.W.Frag} {mg:Str->Option Value} {base:Heap} {f:Addr} {fd:FuncData}
theorem ok_lam (f c:Addr) (ct:Value):FnOk P w K mg base CX0 1 f (lamFd mg c ct) ["shape_value"] (spId mg f c ct):=by
  refine lam_of (k:=0) (N:=["shape_value"]) (fun vs H Q E h=>?_) scLam (fun vs H Q E h=>?_) (fun A outer s H vs Q E hr h=>?_)
  · obtain ⟨v,rfl,h1,h2,_⟩:=h
    exact ⟨h1,h2⟩
  · obtain ⟨v,rfl,_⟩:=h
    rfl
  · obtain ⟨v,rfl,h1,h2,q⟩:=h
    obtain ⟨p,e⟩:=lamB_eq
    rw [e]
    exact ⟨tVar 0,pv 0,v,rfl,q⟩
theorem bd_lam (c:Addr) (ct:Value):Binds K (lamFd mg c ct) ["shape_value"] []:=.all fun us hl=>match us,hl with | [_],_=>rfl
theorem scWhole:FnScope ["thing"] ["thing"] (defScope sWhole):=⟨rfl,rfl,rfl,by decide +kernel,rfl,by decide +kernel,by decide +kernel⟩
theorem ok_whole (F:Fun K "is_whole" "is_whole" sWhole f fd) (m_isinstance:mg "isinstance"=none) (m_int:mg "int"=none) (m_bool:mg "bool"=none):FnOk P w K mg base CX0 1 f fd ["thing"] spWhole:=by
  refine F.by scWhole (fun vs H Q E h=>?_) (fun cdv A outer s H vs Q E hr h=>?_)
  · obtain ⟨v,rfl,_⟩:=h
    rfl
  obtain ⟨v,rfl,h⟩:=h
  refine ⟨_,
    (jss_one (js_ret (je_and (je_fnB jc_isinst rfl m_isinstance PyProof.Rows.boot_isinstance (ja_c (jv 0) (ja_c (je_bltn (v:=.ty "int") rfl m_int PyProof.Rows.boot_int rfl) ja_nil))) (je_one (je_not (je_fnB jc_isinst rfl m_isinstance PyProof.Rows.boot_isinstance (ja_c (jv 0) (ja_c (je_bltn (v:=.ty "bool") rfl m_bool PyProof.Rows.boot_bool rfl) ja_nil)))))))),?_⟩
  rcases h with ⟨i,rfl,q⟩ | ⟨p,xs,rfl,hp,q⟩
  · exact ⟨_,rfl,_,_,_,_,rfl,.int _,rfl,_,rfl,iteT ⟨_,rfl,_,_,_,_,rfl,.int _,rfl,_,rfl,q⟩⟩
  · exact ⟨_,rfl,_,_,_,_,rfl,.tup hp,rfl,_,rfl,iteF q⟩
theorem scFirst:FnScope ["value","most","shape_of","told","left","one","pair","part"] ["value","most","shape_of"] (defScope sFirst):=⟨rfl,rfl,rfl,by decide +kernel,rfl,by decide +kernel,by decide +kernel⟩
theorem take_done {told xs full:List V} {m:Nat} (e:told ++ xs=full) (h:told.length<=m) (d:xs=[]\/told.length=m):told=full.take m:=by
  subst e
  rcases d with rfl | d
  · rw [List.append_nil,List.take_of_length_le h]
  · rw [<- d,List.take_left]
theorem ok_first (F:Fun K "first_parts" "first_parts" sFirst f fd) (GW:Ca P w K mg base CX0 1 "is_whole" ["thing"] spWhole) (m_len:mg "len"=none) (m_reversed:mg "reversed"=none):FnOk P w K mg base CX0 2 f fd ["value","most","shape_of"] (spFirst mg):=by
  refine F.by scFirst (fun vs H Q E h=>?_) (fun cdv A outer s H vs Q E hr h=>?_)
  · obtain ⟨v,m,f,c,ct,full,rfl,_⟩:=h
    rfl
  obtain ⟨v,m,fl,c,ct,full,rfl,hm,hf,hc,hP,q⟩:=h
  refine ⟨_,
    (jss_cons (js_set (i:=3) scFirst.nd rfl (Or.inl rfl) (je_lst ja_nil))
    (jss_cons (js_set (i:=4) scFirst.nd rfl (Or.inl rfl) (je_lst (ja_c (jv 0) ja_nil)))
    (jss_cons (js_while PassesOwn.never (jW.pt (jw_and (jt_cmpR jo_gt (je_fnB jc_len_seq rfl m_len PySem.boot_len (ja_c (jv 4) ja_nil)) je_int (nomark _)) (jw_and1 (jt_cmpR jo_lt (je_fnB jc_len_seq rfl m_len PySem.boot_len (ja_c (jv 3) ja_nil)) (jv 1) (nomark _)))))
      (jss_cons (js_set (i:=5) scFirst.nd rfl (Or.inl rfl) (je_bm0 PySem.F.plainAttrs_list PySem.F.slot_list_pop PySem.F.type_list_pop jm_pop (jv 4)))
      (jss_one (js_if (jt_val (je_ca GW hr rfl pass0 (ja_c (jv 5) ja_nil)))
        (jss_one (js_expr (je_bm PySem.F.plainAttrs_list PySem.F.slot_list_append PySem.F.type_list_append jm_append (jv 3) (ja_c (jv 5) ja_nil))))
        (jss_cons (js_set (i:=6) scFirst.nd rfl (Or.inl rfl) (je_callV (fo:=lamFd mg) (sp:=spId mg) (fun f c ct=>ok_lam f c ct) hr (jv 2) (fun c ct=>bd_lam c ct) pass0 (ja_c (jv 5) ja_nil)))
        (jss_cons (js_expr (je_bm PySem.F.plainAttrs_list PySem.F.slot_list_append PySem.F.type_list_append jm_append (jv 3) (ja_c (je_ix jx_tup (jv 6) je_int (fun _ _=>rfl)) ja_nil)))
        (jss_one (js_for PassesOwn.never rfl (ji_revT rfl m_reversed (ja_c (je_ix jx_tup (jv 6) je_int (fun _ _=>rfl)) ja_nil)) (jg_name (i:=7) scFirst.nd rfl (Or.inl rfl))
          (jss_one (js_expr (je_bm PySem.F.plainAttrs_list PySem.F.slot_list_append PySem.F.type_list_append jm_append (jv 4) (ja_c (jv 7) ja_nil))))))))))))
    (jss_one (js_ret (jv 3)))))),?_⟩
  have sl:=line0
  refine ⟨by show 0<=sizeLine; decide,fun lt h1=>⟨_,rfl,by show 1<=sizeLine; decide,fun lf h2=>?_⟩⟩
  have s1:=same_new (o:=.lst []) h1
  have flf:H lf=none:=s1.free h2
  have s2:=s1.new (o:=.lst [v]) h2
  have ntf:lt≠lf:=ne_of_none (upd_same (H:=H) (a:=lt) (o:=.lst [])) h2
  have hP2:=hP.keep (.of s2)
  refine ⟨fun k σ H'=>∃ (told ls xs:List V) (x y z:Option V),k=m - told.length/\σ=[some v,some (.int (m:Nat)),some (.ref fl),some (.ref lt),some (.ref lf),x,y,z]/\Same H H'/\H' lt=some (.lst told)/\H' lf=some (.lst ls)/\PtL H' ls.reverse xs/\told ++ xs=full/\told.length<=m/\ls.length<=1 + 9 * told.length,
    ⟨_,[],[v],full,none,none,none,rfl,rfl,s2,old h2 upd_same,upd_same,hP2,rfl,Nat.zero_le _,by simp⟩,?_⟩
  rintro k σ H3 ⟨told,ls,xs,x,y,z,rfl,rfl,sm,ht,hl,hx,e,hlen,hls⟩
  refine ⟨_,rfl,_,_,rfl,.inl (SqL.of hl),_,_,rfl,rfl,_,rfl,?_⟩
  have fin:(xs=[]\/told.length=m)->Q (.ref lt) H3:=fun d=>q _ lt sm h1 (by rw [ht,take_done e hlen d])
  refine ite2 (fun c1=>?_) (fun c1=>?_)
  · rw [decide_eq_true_eq] at c1
    have c1:0 < ls.length:=by omega
    refine ⟨_,rfl,_,_,rfl,.inl (SqL.of ht),_,rfl,_,_,rfl,rfl,_,rfl,?_⟩
    by_cases c2:told.length < m
    · rw [decide_eq_true (show ((told.length:Nat):Int) < (m:Nat) by omega)]
      refine iteT ⟨_,fun _ _ h=>h,?_⟩
      obtain ⟨ls',one,rfl⟩:∃ ls' one,ls=ls' ++ [one]:=⟨ls.dropLast,ls.getLast (by intro z; rw [z] at c1; simp at c1),(List.dropLast_concat_getLast _).symm⟩
      refine ⟨_,rfl,.inl ⟨rfl,_,SqL.of hl⟩,lf,_,one,rfl,rfl,hl,by simp,?_⟩
      rw [List.dropLast_concat]
      rw [List.reverse_append,List.reverse_singleton] at hx
      rw [List.length_append] at hls
      have hls:ls'.length<=9 * told.length:=by simp at hls; omega
      have t4:Tups H3 (upd H3 lf (.lst ls')):=fun b xs z=>by rw [upd_ne (ne_of z hl (by intro z; cases z))]; exact z
      have s4:=sm.put (o:=.lst ls') flf
      have ht4:upd H3 lf (.lst ls') lt=some (.lst told):=by rw [upd_ne ntf]; exact ht
      have hl4:=upd_same (H:=H3) (a:=lf) (o:=.lst ls')
      replace hx:=hx.keep t4
      clear fin
      generalize upd H3 lf (.lst ls')=H4 at *
      cases hx with
      | @num i vs xs2 hx =>
        refine ⟨_,rfl,_,rfl,.inl ⟨i,rfl,_,rfl,iteT ?_⟩⟩
        refine ⟨_,rfl,.inl ⟨rfl,_,SqL.of ht4⟩,_,rfl,lt,_,_,rfl,rfl,ht4,by omega,?_⟩
        have t5:Tups H4 (upd H4 lt (.lst (told ++ [.int i]))):=fun b xs z=>by rw [upd_ne (ne_of z ht4 (by intro z; cases z))]; exact z
        refine ⟨m - (told ++ [V.int i]).length,by rw [List.length_append]; show m - (told.length + 1) < _; omega,told ++ [.int i],ls',xs2,_,_,_,rfl,rfl,s4.put h1,upd_same,by rw [upd_ne ntf.symm]; exact hl4,hx.keep t5,by rw [<- e]; simp,by rw [List.length_append]; show told.length + 1<=m; omega,by rw [List.length_append]; show _<=1 + 9 * (told.length + 1); omega⟩
      | @shp p pq t us vs ys zs hp hq hu hus hx =>
        refine ⟨_,rfl,_,rfl,.inr ⟨p,_,rfl,hp,_,rfl,iteF ?_⟩⟩
        refine ⟨fl,rfl,c,ct,s4 _ _ hf,_,rfl,s4 _ _ hf,_,rfl,s4 _ _ hf,s4 _ _ hc,?_⟩
        refine ⟨_,rfl,.inl ⟨rfl,_,SqL.of ht4⟩,_,rfl,p,_,_,_,rfl,rfl,SqT.of hp,atI_nat (j:=0) rfl,lt,_,_,rfl,rfl,ht4,by omega,?_⟩
        have t5:Tups H4 (upd H4 lt (.lst (told ++ [.str t]))):=fun b xs z=>by rw [upd_ne (ne_of z ht4 (by intro z; cases z))]; exact z
        have s5:=s4.put (o:=.lst (told ++ [.str t])) h1
        have ht5:=upd_same (H:=H4) (a:=lt) (o:=.lst (told ++ [.str t]))
        have hl5:upd H4 lt (.lst (told ++ [.str t])) lf=some (.lst ls'):=by rw [upd_ne ntf.symm]; exact hl4
        replace hp:=t5 _ _ hp
        replace hq:=t5 _ _ hq
        replace hus:=hus.keep t5
        replace hx:=hx.keep t5
        generalize upd H4 lt (.lst (told ++ [.str t]))=H5 at *
        refine ⟨_,rfl,p,_,_,_,rfl,rfl,SqT.of hp,atI_nat (j:=1) rfl,pq,us,rfl,SqT.of hq,for_revT (xs:=us) (fun i σ H'=>∃ x,σ=[some v,some (.int (m:Nat)),some (.ref fl),some (.ref lt),some (.ref lf),some (.ref p),some (.ref p),x]/\Same H H'/\Tups H5 H'/\H' lt=some (.lst (told ++ [.str t]))/\H' lf=some (.lst (ls' ++ us.reverse.take i))) ⟨_,rfl,s5,fun _ _ h=>h,ht5,by simpa using hl5⟩ (fun i σ H' _ h=>SqT.of (h.choose_spec.2.2.1 _ _ hq)) ?_ ?_⟩
        · rintro i y σ H6 hy ⟨x,rfl,s6,t6,ht6,hl6⟩
          have hi:i < us.reverse.length:=(List.getElem?_eq_some_iff.mp hy).1
          rw [List.length_reverse] at hi
          refine ⟨_,rfl,.inl ⟨rfl,_,SqL.of hl6⟩,_,rfl,lf,_,_,rfl,rfl,hl6,by rw [List.length_append,List.length_take]; omega,?_⟩
          refine ⟨_,rfl,s6.put flf,t6.trans (fun b xs z=>by rw [upd_ne (ne_of z hl6 (by intro z; cases z))]; exact z),by rw [upd_ne ntf]; exact ht6,?_⟩
          rw [upd_same,List.append_assoc,List.take_succ,hy]
          rfl
        · rintro σ H6 ⟨x,rfl,s6,t6,ht6,hl6⟩
          rw [List.take_of_length_le (by simp)] at hl6
          refine ⟨m - (told ++ [V.str t]).length,by rw [List.length_append]; show m - (told.length + 1) < _; omega,told ++ [.str t],ls' ++ us.reverse,ys ++ zs,_,_,_,rfl,rfl,s6,ht6,hl6,?_,by rw [<- e]; simp,by rw [List.length_append]; show told.length + 1<=m; omega,by rw [List.length_append,List.length_append,List.length_reverse]; show _<=1 + 9 * (told.length + 1); omega⟩
          rw [List.reverse_append,List.reverse_reverse]
          exact (hus.app hx).keep t6
    · rw [decide_eq_false (show ¬ ((told.length:Nat):Int) < (m:Nat) by omega)]
      exact iteF ⟨_,rfl,fin (.inr (by omega))⟩
  · rw [decide_eq_true_eq] at c1
    have e0:ls=[]:=List.length_eq_zero_iff.mp (by omega)
    subst e0
    cases hx
    exact iteF ⟨_,rfl,fin (.inl rfl)⟩
theorem bd_parts2 {c D:Addr} (dt:DtIn K D 100) (kV doc pm:Value) (an:Option Addr) (ct:Value):Binds K (PySem.W.fnOf "parts_of" "parts_of" (defArgs sParts) (defBody sParts) (defScope sParts) (.ref D) kV doc pm an (.ref c) ct) ["value","most"] []:=fun s us X hl=>by
  obtain ⟨d,t,n,sl,lk⟩:=dt
  have hl':us.length=2:=by simp at hl; omega
  match us,hl' with
  | [_,_],_=>exact PySem.W.binds_K X rfl lk rfl rfl rfl
theorem bd_parts1 {c D:Addr} (dt:DtIn K D 100) (kV doc pm:Value) (an:Option Addr) (ct:Value):∃ ds,Binds K (PySem.W.fnOf "parts_of" "parts_of" (defArgs sParts) (defBody sParts) (defScope sParts) (.ref D) kV doc pm an (.ref c) ct) ["value","most"] ds/\Vals [.int 100] ds:=by
  obtain ⟨d,t,n,sl,lk⟩:=dt
  refine ⟨[.int 100 t],fun s us X hl=>?_,.cons ⟨_,rfl⟩ .nil⟩
  have hl':us.length=1:=by simp at hl; omega
  match us,hl' with
  | [_],_=>exact PySem.W.binds_K X rfl lk rfl rfl rfl
theorem scParts:FnScope ["value","most"] ["value","most"] (defScope sParts):=⟨rfl,rfl,rfl,by decide +kernel,rfl,by decide +kernel,by decide +kernel⟩
theorem ok_parts {c D T:Addr} (F:FunD K "parts_of" sParts c D f fd) (hB:BMn mg base) (hc:PySem.W.codeHdIn K c T=true) (GF:Ca P w K mg base CX0 2 "first_parts" ["value","most","shape_of"] (spFirst mg)):FnOk P w K mg base CX0 3 f fd ["value","most"] (spParts T):=by
  refine F.by scParts (fun vs H Q E h=>?_) (fun A outer s H vs Q E hr h=>?_)
  · obtain ⟨v,m,full,rfl,_⟩:=h
    rfl
  obtain ⟨v,m,full,rfl,hm,hT,hP,q⟩:=h
  refine ⟨_,
    (jss_one (js_ret (je_ca GF hr rfl pass0 (ja_c (jv 0) (ja_c (jv 1) (ja_c (je_lam (params:=lamP) (body:=lamB) (scope:=lamS) (pos:=lamPos) (T:=T) (qual:=lamQ) hB rfl hc rfl) ja_nil)))))),?_⟩
  obtain ⟨ps,hT1,hT2⟩:=hT
  refine ⟨_,rfl,_,rfl,ps,hT1,?_⟩
  rcases hT2 with rfl | ⟨c',rfl,hc'⟩
  · refine ⟨trivial,.inl ⟨rfl,fun c' fl ct h1 h2 h3=>?_⟩⟩
    have n1:T≠c':=ne_of_none hT1 h1
    have n2:T≠fl:=ne_of_none hT1 h2
    have kt:KT T H (upd (upd (upd H T (.tbl (#[] ++ #[rawInt lamPos.line,rawInt lamPos.col,.ref c']))) c' (CodO c' lamQ)) fl (FunO fl (lamFd mg c' ct))):=fun b u n e=>by rw [upd_ne (ne_of_none e h2),upd_ne (ne_of_none e h1),upd_ne n]; exact e
    have e1:upd (upd (upd H T (.tbl (#[] ++ #[rawInt lamPos.line,rawInt lamPos.col,.ref c']))) c' (CodO c' lamQ)) fl (FunO fl (lamFd mg c' ct)) T=some (.tbl #[rawInt lamPos.line,rawInt lamPos.col,.ref c']):=by rw [upd_ne n2,upd_ne n1]; exact upd_same
    have e2:upd (upd (upd H T (.tbl (#[] ++ #[rawInt lamPos.line,rawInt lamPos.col,.ref c']))) c' (CodO c' lamQ)) fl (FunO fl (lamFd mg c' ct)) c'=some (CodO c' lamQ):=by rw [upd_ne h3.symm]; exact upd_same
    refine ⟨v,m,fl,c',ct,full,rfl,hm,upd_same,e2,hP.keep (fun p xs e=>kt p _ (ne_of e hT1 (by intro z; cases z)) e),fun H' l s' hl e=>q H' l (kt.trans (.of s')) ((Tb.same ⟨_,e1,.inr ⟨c',rfl,e2⟩⟩ s')) ?_ e⟩
    cases hz:H l with
    | none=>rfl
    | some u =>
      by_cases z:l=T
      · subst z
        exact absurd (e1.symm.trans hl) (by intro y; cases y)
      · exact absurd ((kt l u z hz).symm.trans hl) (by intro y; cases y)
  · refine ⟨trivial,.inr ⟨c',?_,fun fl ct h2=>?_⟩⟩
    · show (if ((lamPos.line:Nat):Int) == _ && _ then _ else _)=_
      rw [if_pos (by simp)]
    have s1:=same_new (o:=FunO fl (lamFd mg c' ct)) h2
    refine ⟨v,m,fl,c',ct,full,rfl,hm,upd_same,s1 _ _ hc',hP.keep (.of s1),fun H' l s' hl e=>q H' l (.of (s1.trans s')) (Tb.same ⟨_,hT1,.inr ⟨c',rfl,hc'⟩⟩ (s1.trans s')) (s1.free hl) e⟩
end
end GN
namespace L2
open PySem PySem.Spec PyProof.Rows
section
variable {prog:Program} {w:World} {A:Around} {s:Shared} {E:Value->Shared->Prop}
end
def HandP (X:Cx):Prop:=∃ (eh:Addr) (oe:Obj) (ve:Array Value),X.A.handled=some (.ref eh)/\X.s₀.heap.get? eh=some oe/\X.H₀ eh=none/\eh ∉ X.fs/\eh ∉ X.ex/\oe.data=.fields ve/\ve[2]?=some .none
theorem HandP.now {X:Cx} {pins:List (Addr × Obj)} {σ:St} {H:Hp} {s:Shared} (h:HandP X) (I:Inv X pins σ H s):∃ (eh:Addr) (oe:Obj) (ve:Array Value),X.A.handled=some (.ref eh)/\s.heap.get? eh=some oe/\H eh=none/\eh ∉ X.fs/\eh < X.s₀.heap.objs.size/\eh ∉ X.ex/\oe.data=.fields ve/\ve[2]?=some .none:=by
  obtain ⟨eh,oe,ve,a1,a2,a3,a4,a5,a6,a7⟩:=h
  exact ⟨eh,oe,ve,a1,I.base.keep eh oe a2 a3 a4 a5,I.base.free eh oe a2 a3 a5,a4,Heap.lt_size a2,a5,a6,a7⟩
theorem HandP.lc {X:Cx} {pins:List (Addr × Obj)} {σ:St} {H:Hp} {s:Shared} {scope:Scope} {cl:List (Str × Addr)} {M:List Str} {C:Addr} {fp:List Addr} {E:Value->Shared->Prop} (h:HandP X) (I:Inv X pins σ H s) (hf:∀ b∈fp,FpOk X pins H b):HandP (cxLC X scope cl M C s H fp E):=by
  obtain ⟨eh,oe,ve,a1,a2,a3,a4,a5,a6,a7,a8⟩:=h.now I
  refine ⟨eh,oe,ve,a1,a2,a3,fun z=>?_,fun z=>?_,a7,a8⟩
  · rcases List.mem_cons.mp (I.stkSub eh z) with q | q
    · exact (I.apart a2 a7).1 q
    · exact a4 q
  · rcases (hf eh z).2.2.2.1 with q | q
    · exact a6 q
    · exact absurd (Nat.lt_of_lt_of_le a5 q) (Nat.lt_irrefl _)
structure TurnC (Cn:Cx->Prop) (P:Program) (w:World) (K:PySem.W.Frag) (tg:Expr) (J:It) (fp:List Addr) (it:Addr) (tn:Nat->Heap->Prop):Prop where
  mem:it∈fp
  obj:∀ i h,tn i h->∀ b∈fp,∃ o,h.get? b=some o/\∀ v,o.data≠.cell v
  keep:∀ i h h',tn i h->(∀ b∈fp,∀ o,h.get? b=some o->h'.get? b=some o)->tn i h'
  item:∀ (X:Cx),X.prog=P->X.w=w->X.K=K->Cn X->∀ (i:Nat) (pins:List (Addr × Obj)) (s:Shared) (σ:St) (H:Hp) (E:Value->Shared->Prop),Inv X pins σ H s->(∀ b∈fp,FpOk X pins H b)->tn i s.heap->J.go i H ->
    wpAny (model P w) X.A (pyNext (.ref it)) (fun r s1=>∃ u,r=some u /\
      wpAny (model P w) X.A (letOwnedTupleGo tg (.ref it) u) (fun _ s2=>∃ x H',Inv X pins σ H' s2/\RelV x u/\J.yld i H x H'/\tn (i + 1) s2.heap/\∀ b∈fp,H' b=none) E s1) E s
  done:∀ (X:Cx),X.prog=P->X.w=w->X.K=K->Cn X->∀ (i:Nat) (pins:List (Addr × Obj)) (s:Shared) (σ:St) (H:Hp) (E:Value->Shared->Prop),Inv X pins σ H s->(∀ b∈fp,FpOk X pins H b)->tn i s.heap->J.stop i H ->
    wpAny (model P w) X.A (pyNext (.ref it)) (fun r s1=>r=none/\Inv X pins σ H s1) E s
  self:∀ (A:Around) (i:Nat) (s:Shared) (Q:Value->Shared->Prop) (E:Value->Shared->Prop),tn i s.heap->Q (.ref it) s->wpAny (model P w) A (pyIter (.ref it)) Q E s
end L2
namespace L2
open PySem PySem.Spec PyProof.Rows
section
variable {X:Cx} {scope:Scope} {cl:List (Str × Addr)} {S:List Nat} {pins:List (Addr × Obj)} {σ:St} {H:Hp} {s:Shared} {ex:List Addr} {M:List Str} {C:Addr}
variable {tg elt iter:Expr} {ifs:List Expr} {pos:Pos} {wi:TI} {g:TG} {tt:TT} {te:TE}
end
section
variable {X:Cx} {scope:Scope} {M:List Str} {tg elt l:Expr} {ifs:List Expr} {pos:Pos} {tl:TE} {g:TG} {tt:TT} {te:TE}
end
structure RoomH (k:Nat) (A:Around):Prop where
  dp:A.depth + 3 * k + 5 < recursionLimit
  un:A.units + 16 * k + 200 < cLine
theorem RoomH.deeper {k:Nat} {A:Around} (r:RoomH (k + 1) A) (env:Env):RoomH k (A.deeper env) :=
  ⟨by have:=r.dp; show A.depth + 1 + 3 * k + 5 < _; omega,by have:=r.un; show A.units + 3 + 16 * k + 200 < _; omega⟩
theorem Room.h {k:Nat} {A:Around} (r:Room k A) (u:Option Value):RoomH k (A.mark u):=⟨r.dp,r.un⟩
structure Hnd (A:Around) (outer:List Env) (s:Shared) (H:Hp) (e:Addr) (oe:Obj):Prop where
  h:A.handled=some (.ref e)
  g:s.heap.get? e=some oe
  n:H e=none
  f:e ∉ frs outer
  d:∃ ve:Array Value,oe.data=.fields ve/\ve[2]?=some .none
structure FnOkH (P:Program) (w:World) (K:PySem.W.Frag) (mg:Str->Option Value) (base:Heap) (k:Nat) (f:Addr) (fd:FuncData) (ps:List Str) (sp:Addr->Obj->Sp):Prop where
  len:∀ e oe vs H Q E,sp e oe vs H Q E->vs.length=ps.length
  run:∀ (A:Around) (outer:List Env) (s:Shared) (H:Hp) (args:Args) (us:List Value) (vs:List V) (Q:VK) (e:Addr) (oe:Obj),RoomH k A->Env0 P w K mg base A outer s H->Hnd A outer s H e oe->BindsTo s fd args (ps.zip us)->Vals vs us->sp e oe vs H Q E0 ->
    codeAny (model P w) A (.call (.ref f) args) (CR CX0 outer P w H s Q E0) s
abbrev cxOfH (P:Program) (w:World) (K:PySem.W.Frag) (mg:Str->Option Value) (base:Heap) (N:List Str) (qual:Str) (scope:Scope) (f:Addr) (cd:Value) (A:Around) (outer:List Env) (s:Shared) (H:Hp):Cx :=
  { cxOf CX0 P w K mg base N qual scope f cd A outer s H E0 with calm:=false,xe:=fun _ _=>False }
theorem Hnd.p {P:Program} {w:World} {K:PySem.W.Frag} {mg:Str->Option Value} {base:Heap} {N:List Str} {qual:Str} {scope:Scope} {f:Addr} {cd:Value} {A:Around} {outer:List Env} {s:Shared} {H:Hp} {e:Addr} {oe:Obj} (h:Hnd A outer s H e oe):HandP (cxOfH P w K mg base N qual scope f cd A outer s H) :=
  let ⟨ve,d1,d2⟩:=h.d; ⟨e,oe,ve,h.h,h.g,h.n,h.f,(fun z=>absurd (show e∈([]:List Addr) from z) (by simp)),d1,d2⟩
structure CaH (P:Program) (w:World) (K:PySem.W.Frag) (mg:Str->Option Value) (base:Heap) (k:Nat) (x:Str) (ps:List Str) (sp:Addr->Obj->Sp):Prop where
  ex:∃ f fd,FnOkH P w K mg base k f fd ps sp/\Binds K fd ps []/\PySem.W.keepIn K (.ref f)=true/\mg x=some (.ref f)
end L2
namespace PySem.W
open PySem PySem.Spec PySem.Calls PyProof.Rows
section
variable {prog:Program} {w:World} {A:Around} {E:Value->Shared->Prop} {s:Shared} {K:Frag} {e C:Addr} {ox od:Obj}
end
structure XIs (K:Frag) (C:Addr):Prop where
  ga:findIn K (.ref C) "__getattribute__"=some (some (.builtin "BaseException.__getattribute__"))
  ha:findIn K (.ref C) "__getattr__"=some none
  sb:subIn K (.ref C) (.type "BaseException")=some true
  hd:hasDictIn K C=true
  cl:findIn K (.ref C) "__class__"=some (some (.builtin "object.__class__"))
  gs:specialIn K (.builtin "object.__class__") "__get__"=some (some (.builtin "getset_descriptor.__get__"))
  tk:takesIn K (.builtin "object.__class__")=some true
  mo:mroIn K C (.type "object")=some true
end PySem.W
namespace L2
open PySem PySem.Spec PyProof.Rows
end L2
namespace L2
open PySem PySem.Spec PyProof.Rows
section
variable {X:Cx}
end
end L2
namespace L2
open PySem PySem.Spec PyProof.Rows
def BG:Nat:=2 ^ 1000
set_option exponentiation.threshold 2000 in
theorem log_big {i:Int} (h:i.natAbs < BG):i.natAbs.log2 < 1000\/i=0:=by
  by_cases z:i.natAbs=0
  · exact .inr (Int.natAbs_eq_zero.mp z)
  · exact .inl ((Nat.log2_lt z).mpr h)
theorem bits_big {i:Int} (h:i.natAbs < BG):Builtin.Int.intBits i<=2 ^ 20:=by
  unfold Builtin.Int.intBits
  have e:(2:Nat) ^ 20=1048576:=by decide
  rcases log_big h with l | l
  · split <;> omega
  · rw [if_pos (by rw [l]; rfl)]; omega
theorem noPylong_big {i j:Int} (h:j.natAbs < BG):Builtin.divisionGoesByPylong i j=false:=by
  refine PyProof.noPylong_of_log2 ?_
  rcases log_big h with l | l
  · omega
  · rw [l]; decide
def CMulB (i j:Int):Prop:=i.natAbs < BG/\j.natAbs < BG
def CDivB (_ j:Int):Prop:=j≠0/\j.natAbs < BG
section
variable {X:Cx}
theorem jo_mulB:jOp X (binaryOp .Mult) (rI CMulB fun i j=>.int (i * j)):=⟨opI fun _ _ _ _ _ _ _ hc q=>mul_int q (.of_bits (bits_big hc.1) (bits_big hc.2))⟩
theorem jo_fdivB:jOp X (binaryOp .FloorDiv) (rI CDivB fun i j=>.int (i.fdiv j)):=⟨opI fun _ _ _ _ _ _ _ hc q=>floordiv_int hc.1 q (.inl (noPylong_big hc.2))⟩
theorem jo_modN:jOp X (binaryOp .Mod) (rI (fun _ j=>j≠0) fun i j=>.int (i.fmod j)):=⟨op_modN⟩
theorem jc_abs:jCa X (.builtin "abs") (fun xs H Q=>∃ i,xs=[.int i]/\Q (.int (if i < 0 then -i else i)) H):=⟨call_abs⟩
theorem jc_int1:jCa X (.type "int") (fun xs H Q=>(∃ i,xs=[.int i]/\Q (.int i) H)\/∃ k,xs=[.bl k]/\Q (.int (if k then 1 else 0)) H):=⟨call_int1⟩
theorem js_never {st:Stmt}:jS X st (fun _ _ _=>False):=⟨fun _ _ _ _ _ _ h=>h.elim⟩
end
section
variable {X:Cx} {Ch:Addr} {x n z:Str} {i j k:Nat} {np hpos tpos pz spos:Pos} {b0:Stmt} {suite:List Stmt} {th:Addr->Obj->TS} {ps:List Str} {sp:Sp} {y:Str} {p cpos:Pos} {a:Expr} {as:List Expr} {t:TA}
end
end L2
namespace GN
open PySem L2 K11
theorem join_len:∀ {zs:List Str},(∀ z∈zs,z.length=1)->(Str.join "" zs).length=zs.length
  | [],_=>rfl
  | [x],h=>h x List.mem_cons_self
  | x :: y :: r,h=>by
    have ih:=join_len (zs:=y :: r) fun z hz=>h z (List.mem_cons_of_mem _ hz)
    rw [<- cl_len,cl_join_cons,List.length_append,List.length_append,cl_len,cl_len,cl_len,ih,h x List.mem_cons_self]
    show 1 + (0 + (y :: r).length)=(y :: r).length + 1
    omega
theorem wide_one {zs:List Str} (h:∀ z∈zs,z.length=1):wide "" zs=zs.length:=by
  unfold wide
  have e:∀ {l:List Str},(∀ z∈l,z.length=1)->(l.map (·.length)).sum=l.length:=by
    intro l
    induction l with
    | nil=>intro _; rfl
    | cons a l ih=>intro h; rw [List.map_cons,List.sum_cons,ih fun z hz=>h z (List.mem_cons_of_mem _ hz),h a List.mem_cons_self,List.length_cons]; omega
  rw [e h]
  rfl
theorem cut_id {s:List V} {m:Int} (h:0<=m):cutV s none (some m)=s.take m.toNat:=by
  unfold cutV
  have c1:HT.sIx s.length 0 none=0:=rfl
  have c2:HT.sIx s.length s.length (some m)=min m.toNat s.length:=by
    show (if m < 0 then (m + (s.length:Nat)).toNat else min m.toNat s.length)=_
    rw [if_neg (by omega)]
  rw [c1,c2,List.drop_zero,Nat.sub_zero]
  rcases Nat.le_total m.toNat s.length with c | c
  · rw [Nat.min_eq_left c]
  · rw [Nat.min_eq_right c,List.take_of_length_le (Nat.le_refl _),List.take_of_length_le c]
theorem t30:(10:Int) ^ (30:Int).toNat=1000000000000000000000000000000:=by decide
def Sm (i:Int):Prop:=-1000000000000000000000000000000 < i/\i < 1000000000000000000000000000000
def spStem (K:PySem.W.Frag):Sp:=fun vs H Q _=>∃ (st:Addr) (B:Nat),vs=[.ref st]/\Sta K H st B/\B + 8 < LIM/\∀ (H':Hp) (p:Addr) (z:Str) (b:Bool),Kp st H H'->Sta K H' st (B + 8)->H' p=some (.lst [.str z,.bl b])->z.length<=6->Q (.ref p) H'
def spNumber (K:PySem.W.Frag):Sp:=fun vs H Q _=>∃ (st:Addr) (B:Nat),vs=[.ref st]/\Sta K H st B/\B + 2 < LIM/\∀ (H':Hp) (i:Int),Kp st H H'->Sta K H' st (B + 2)->Sm i->Q (.int i) H'
inductive Th (H:Hp):Bool->V->Prop
  | int (i:Int):Th H true (.int i)
  | bl (b:Bool):Th H false (.bl b)
  | non:Th H false .non
  | str (x:Str):Th H false (.str x)
  | lst {p:Addr} {xs:List V}:H p=some (.lst xs)->Th H false (.ref p)
  | tup {p:Addr} {xs:List V}:H p=some (.tup xs)->Th H false (.ref p)
  | dK {p:Addr} {xs:List (Key × V)}:H p=some (.dK xs)->Th H false (.ref p)
theorem Th.keep {H H':Hp} {b:Bool} {v:V} (s:Same H H') (h:Th H b v):Th H' b v:=by
  cases h with
  | int i=>exact .int i
  | bl b=>exact .bl b
  | non=>exact .non
  | str x=>exact .str x
  | lst h=>exact .lst (s _ _ h)
  | tup h=>exact .tup (s _ _ h)
  | dK h=>exact .dK (s _ _ h)
def spWholeB:Sp:=fun vs H Q _=>∃ (v:V) (b:Bool),vs=[v]/\Th H b v/\Q (.bl b) H
def spIn:Sp:=fun vs H Q _=>∃ i:Int,vs=[.int i]/\Q (.bl (decide (-1000000000000000000000000000000 < i/\i < 1000000000000000000000000000000))) H
section
variable {P:Program} {w:World} {K:PySem.W.Frag} {mg:Str->Option Value} {base:Heap} {f:Addr} {fd:FuncData}
theorem scStem:FnScope ["_law_state","_law_letters","_law_stem_here"] ["_law_state"] (defScope sStem):=⟨rfl,rfl,rfl,by decide +kernel,rfl,by decide +kernel,by decide +kernel⟩
theorem ndStem:(["_law_state","_law_letters","_law_stem_here","_law_k"]:List Str).Nodup:=by decide +kernel
theorem ok_stem (F:Fun K "_law_stem" "_law_stem" sStem f fd) (GD:Ca P w K mg base CX0 1 "_law_draw" ["_law_state","_law_many"] (spDraw K)) (m_range:mg "range"=none):FnOk P w K mg base CX0 2 f fd ["_law_state"] (spStem K):=by
  refine F.by scStem (fun vs H Q E h=>?_) (fun cdv A outer s H vs Q E hr h=>?_)
  · obtain ⟨st,B,rfl,_⟩:=h
    rfl
  obtain ⟨st,B,rfl,S0,hB,q⟩:=h
  refine ⟨_,
    (jss_cons (js_set (i:=1) scStem.nd rfl (Or.inr rfl) je_str)
    (jss_cons (js_set (i:=2) scStem.nd rfl (Or.inl rfl) (je_bm PySem.F.plainAttrs_str PySem.F.slot_str_join PySem.F.type_str_join jm_join je_str (ja_c (je_comp ["_law_k"] rfl (ji_range1 rfl m_range (ja_c (je_ca GD hr rfl pass0 (ja_c (jv 0) (ja_c je_int ja_nil))) ja_nil)) (fun _ _ _ _ _=>(jg_name (i:=3) ndStem rfl (Or.inl rfl))) (fun _ _ _ _ _=>jts_nil) (fun _ _ _ _ _=>(je_ix jx_str (jv 1) (je_ca GD hr rfl pass0 (ja_c (jv 0) (ja_c je_int ja_nil))) (fun _ _=>rfl)))) ja_nil)))
    (jss_one (js_ret (je_lst (ja_c (jv 2) (ja_c (je_cmpR jo_eq (je_ca GD hr rfl pass0 (ja_c (jv 0) (ja_c je_int ja_nil))) je_int (nomark _)) ja_nil))))))),?_⟩
  have sl:=line0
  have LM:LIM=4611686018427387904:=rfl
  refine ⟨rfl,_,rfl,st,7,B,rfl,S0,by omega,by decide,fun H1 r k1 S1 r0 r1=>?_⟩
  refine ⟨_,rfl,by omega,by omega,lc_range (n:=r.toNat) (fun i τ ys H'=>Kp st H H'/\Sta K H' st (B + 1 + i)/\(∃ x,τ=[some (.ref st),some (.str LET),none,x])/\∃ zs:List Str,ys=zs.map V.str/\zs.length=i/\∀ z∈zs,z.length=1) ⟨k1,S1,⟨none,rfl⟩,[],rfl,rfl,fun z hz=>by cases hz⟩ ?_ ?_⟩
  · rintro i τ ys H2 hi ⟨k2,S2,⟨x,rfl⟩,zs,rfl,hl,h1⟩
    refine ⟨_,rfl,_,rfl,st,26,B + 1 + i,rfl,S2,by omega,by decide,fun H3 r3 k3 S3 q0 q1=>?_⟩
    refine ⟨LET,_,_,rfl,rfl,by rw [let_len]; decide,let_atI q0 q1,by rw [List.length_map]; omega,k2.trans k3,S3,⟨_,rfl⟩,zs ++ [⟨#[97 + r3.toNat]⟩],by simp,by simp [hl],?_⟩
    intro z hz
    rcases List.mem_append.mp hz with hz | hz
    · exact h1 z hz
    · rw [List.mem_singleton.mp hz]
      rfl
  rintro τ ys H2 ⟨k2,S2,_,zs,rfl,hl,h1⟩ pj hpj
  refine ⟨"",pj,zs,rfl,rfl,SqL.of upd_same,by rw [wide_one h1]; omega,?_⟩
  have zl:(Str.join "" zs).length<=6:=by rw [join_len h1]; omega
  replace k2:=k2.new (o:=.lst (zs.map V.str)) hpj
  replace S2:=(S2.mono (show _<=B + 7 by omega)).new hpj (.lst (zs.map V.str))
  generalize upd H2 pj (.lst (zs.map V.str))=H3 at *
  generalize Str.join "" zs=z at *
  refine ⟨_,rfl,_,rfl,st,2,B + 7,rfl,S2,by omega,by decide,fun H4 r4 k4 S4 _ _=>?_⟩
  refine ⟨rfl,by show 2<=sizeLine; decide,fun p hp=>?_⟩
  exact q _ p z _ ((k2.trans k4).new hp) (S4.new hp _) upd_same zl
theorem scNumber:FnScope ["_law_state","_law_way"] ["_law_state"] (defScope sNumber):=⟨rfl,rfl,rfl,by decide +kernel,rfl,by decide +kernel,by decide +kernel⟩
theorem ok_number (F:Fun K "_law_number" "_law_number" sNumber f fd) (GD:Ca P w K mg base CX0 1 "_law_draw" ["_law_state","_law_many"] (spDraw K)):FnOk P w K mg base CX0 2 f fd ["_law_state"] (spNumber K):=by
  refine F.by scNumber (fun vs H Q E h=>?_) (fun cdv A outer s H vs Q E hr h=>?_)
  · obtain ⟨st,B,rfl,_⟩:=h
    rfl
  obtain ⟨st,B,rfl,S0,hB,q⟩:=h
  refine ⟨_,
    (jss_cons (js_set (i:=1) scNumber.nd rfl (Or.inl rfl) (je_ca GD hr rfl pass0 (ja_c (jv 0) (ja_c je_int ja_nil))))
    (jss_cons (js_if (jt_cmpR jo_eq (jv 1) je_int (nomark _))
      (jss_one (js_ret (je_op jo_sub (je_ca GD hr rfl pass0 (ja_c (jv 0) (ja_c (je_op jo_sub (je_op jo_mul je_int (je_op jo_pow je_int je_int)) je_int) ja_nil))) (je_op jo_sub (je_op jo_pow je_int je_int) je_int)))) jss_nil)
    (jss_cons (js_if (jt_cmpR jo_eq (jv 1) je_int (nomark _))
      (jss_one (js_ret (je_op jo_mul (je_op jo_sub je_int (je_op jo_mul je_int (je_ca GD hr rfl pass0 (ja_c (jv 0) (ja_c je_int ja_nil))))) (je_op jo_sub (je_op jo_pow je_int je_int) je_int)))) jss_nil)
    (jss_one (js_ret (je_op jo_sub (je_ca GD hr rfl pass0 (ja_c (jv 0) (ja_c je_int ja_nil))) je_int)))))),?_⟩
  have LM:LIM=4611686018427387904:=rfl
  refine ⟨_,rfl,st,5,B,rfl,S0,by omega,by decide,fun H1 r k1 S1 r0 r1=>?_⟩
  refine ⟨_,rfl,rfl,_,rfl,ite2 (fun c=>?_) (fun c=>?_)⟩
  · refine ⟨_,rfl,_,_,rfl,rfl,⟨by decide,by decide,by decide⟩,_,_,rfl,rfl,.inl ⟨by decide,by decide⟩,_,_,rfl,rfl,st,_,B + 1,rfl,S1,by omega,by decide,fun H2 r2 k2 S2 a0 a1=>?_⟩
    exact ⟨_,_,rfl,rfl,⟨by decide,by decide,by decide⟩,_,_,rfl,rfl,_,_,rfl,rfl,q _ _ (k1.trans k2) S2 (by rw [t30] at a1 ⊢; unfold Sm; omega)⟩
  · refine ⟨_,rfl,rfl,_,rfl,ite2 (fun c=>?_) (fun c=>?_)⟩
    · refine ⟨_,rfl,st,2,B + 1,rfl,S1,by omega,by decide,fun H2 r2 k2 S2 a0 a1=>?_⟩
      exact ⟨_,_,rfl,rfl,.inl ⟨by decide,by decide⟩,_,_,rfl,rfl,_,_,rfl,rfl,⟨by decide,by decide,by decide⟩,_,_,rfl,rfl,_,_,rfl,rfl,.inl ⟨by omega,by omega⟩,q _ _ (k1.trans k2) S2 (by
        rw [t30]
        unfold Sm
        rcases (show r2=0\/r2=1 by omega) with e | e <;> rw [e] <;> decide)⟩
    · refine ⟨_,rfl,st,19,B + 1,rfl,S1,by omega,by decide,fun H2 r2 k2 S2 a0 a1=>?_⟩
      exact ⟨_,_,rfl,rfl,q _ _ (k1.trans k2) S2 (by unfold Sm; omega)⟩
theorem scWhole2:FnScope ["thing"] ["thing"] (defScope sWhole):=⟨rfl,rfl,rfl,by decide +kernel,rfl,by decide +kernel,by decide +kernel⟩
theorem ok_wholeB (F:Fun K "is_whole" "is_whole" sWhole f fd) (m_isinstance:mg "isinstance"=none) (m_int:mg "int"=none) (m_bool:mg "bool"=none):FnOk P w K mg base CX0 1 f fd ["thing"] spWholeB:=by
  refine F.by scWhole2 (fun vs H Q E h=>?_) (fun cdv A outer s H vs Q E hr h=>?_)
  · obtain ⟨v,b,rfl,_⟩:=h
    rfl
  obtain ⟨v,b,rfl,hT,q⟩:=h
  refine ⟨_,
    (jss_one (js_ret (je_and (je_fnB jc_isinst rfl m_isinstance PyProof.Rows.boot_isinstance (ja_c (jv 0) (ja_c (je_bltn (v:=.ty "int") rfl m_int PyProof.Rows.boot_int rfl) ja_nil))) (je_one (je_not (je_fnB jc_isinst rfl m_isinstance PyProof.Rows.boot_isinstance (ja_c (jv 0) (ja_c (je_bltn (v:=.ty "bool") rfl m_bool PyProof.Rows.boot_bool rfl) ja_nil)))))))),?_⟩
  cases hT with
  | int i=>exact ⟨_,rfl,_,_,_,_,rfl,.int _,rfl,_,rfl,iteT ⟨_,rfl,_,_,_,_,rfl,.int _,rfl,_,rfl,q⟩⟩
  | bl b=>exact ⟨_,rfl,_,_,_,_,rfl,.bl _,rfl,_,rfl,iteT ⟨_,rfl,_,_,_,_,rfl,.bl _,rfl,_,rfl,q⟩⟩
  | non=>exact ⟨_,rfl,_,_,_,_,rfl,.non,rfl,_,rfl,iteF q⟩
  | str x=>exact ⟨_,rfl,_,_,_,_,rfl,.str _,rfl,_,rfl,iteF q⟩
  | lst h=>exact ⟨_,rfl,_,_,_,_,rfl,.lst h,rfl,_,rfl,iteF q⟩
  | tup h=>exact ⟨_,rfl,_,_,_,_,rfl,.tup h,rfl,_,rfl,iteF q⟩
  | dK h=>exact ⟨_,rfl,_,_,_,_,rfl,.dK h,rfl,_,rfl,iteF q⟩
theorem scIn:FnScope ["number"] ["number"] (defScope sIn):=⟨rfl,rfl,rfl,by decide +kernel,rfl,by decide +kernel,by decide +kernel⟩
theorem ok_in (F:Fun K "in_bounds" "in_bounds" sIn f fd):FnOk P w K mg base CX0 1 f fd ["number"] spIn:=by
  refine F.by scIn (fun vs H Q E h=>?_) (fun cdv A outer s H vs Q E hr h=>?_)
  · obtain ⟨i,rfl,_⟩:=h
    rfl
  obtain ⟨i,rfl,q⟩:=h
  refine ⟨_,(jss_one (js_ret (je_chain jo_lt jo_lt (je_neg (je_op jo_pow je_int je_int)) (jv 0) (je_op jo_pow je_int je_int)))),?_⟩
  refine ⟨_,_,rfl,rfl,⟨by decide,by decide,by decide⟩,_,rfl,_,rfl,_,_,rfl,rfl,?_⟩
  rw [t30]
  by_cases c:-1000000000000000000000000000000 < i
  · refine ⟨_,rfl,itD c ?_⟩
    refine ⟨_,_,rfl,rfl,⟨by decide,by decide,by decide⟩,_,_,rfl,rfl,?_⟩
    rw [t30]
    have e:decide (-1000000000000000000000000000000 < i/\i < 1000000000000000000000000000000)=decide (i < 1000000000000000000000000000000):=by simp [c]
    rw [e] at q
    exact q
  · refine ⟨_,rfl,itDN c ?_⟩
    have e:decide (-1000000000000000000000000000000 < i/\i < 1000000000000000000000000000000)=false:=by simp [c]
    rw [e] at q
    exact q
end
end GN
namespace L2
open PySem PySem.Spec PyProof.Rows
section
variable {X:Cx}
end
end L2
namespace L2
open PySem PySem.Spec PyProof.Rows
def Sme:Nat->Hp->V->V->Prop
  | 0,_,_,_=>False
  | n + 1,H,x,y=>(flatV x=true/\x=y)\/∃ a b xs ys,x=.ref a/\y=.ref b/\((H a=some (.lst xs)/\H b=some (.lst ys))\/(H a=some (.tup xs)/\H b=some (.tup ys)))/\xs.length=ys.length/\∀ (i:Nat) u v,xs[i]?=some u->ys[i]?=some v->Sme n H u v
section
variable {X:Cx} {pins:List (Addr × Obj)} {σ:St} {H:Hp} {s:Shared}
theorem sme_items {A:Around} {n:Nat} {xs ys:List V} {us vs:List Value} (r:Vals xs us) (r':Vals ys vs) (go:∀ {x y:V} {u v:Value},Sme n H x y->RelV x u->RelV y v->SeqAt.EqAt A s u v true)
    (h:∀ (i:Nat) u v,xs[i]?=some u->ys[i]?=some v->Sme n H u v) (j:Nat) (h1:j < us.toArray.size) (h2:j < vs.toArray.size):SeqAt.EqAt A s us.toArray[j] vs.toArray[j] true:=by
  have l1:=r.length
  have l2:=r'.length
  simp at h1 h2
  have hx:xs[j]?=some (xs[j]'(by omega)):=List.getElem?_eq_getElem _
  have hy:ys[j]?=some (ys[j]'(by omega)):=List.getElem?_eq_getElem _
  obtain ⟨u,e1,rx⟩:=r.get hx
  obtain ⟨v,e2,ry⟩:=r'.get hy
  have g1:us.toArray[j]=u:=by
    have:=List.getElem?_eq_some_iff.mp e1
    simpa using this.2
  have g2:vs.toArray[j]=v:=by
    have:=List.getElem?_eq_some_iff.mp e2
    simpa using this.2
  rw [g1,g2]
  exact go (h j _ _ hx hy) rx ry
theorem sme_rc {A:Around} {n:Nat} {a b:Addr} {xs ys:List V} (hu:A.units < cLine) (I:Inv X pins σ H s) (hl:xs.length=ys.length) (hab:(H a=some (.lst xs)/\H b=some (.lst ys))\/(H a=some (.tup xs)/\H b=some (.tup ys)))
    (go:∀ {x y:V} {u v:Value},Sme n H x y->RelV x u->RelV y v->SeqAt.EqAt A.in1 s u v true) (h:∀ (i:Nat) u v,xs[i]?=some u->ys[i]?=some v->Sme n H u v):SeqAt.RcAt A s (.ref a) (.ref b) true:=by
  rcases hab with ⟨h1,h2⟩ | ⟨h1,h2⟩
  · obtain ⟨i1,v1,m1,_⟩:=I.list (SqL.of h1)
    obtain ⟨i2,v2,m2,_⟩:=I.list (SqL.of h2)
    have n1:=v1.length
    have n2:=v2.length
    have main:=SeqAt.RcAt.lists (A:=A) (s:=s) (e:=fun _=>true) m1.isList m2.isList (by simp; omega) hu (fun j x y=>sme_items v1 v2 go h j x y)
    rw [show ((List.range i1.toArray.size).all fun _=>true)=true from List.all_eq_true.mpr fun _ _=>rfl] at main
    exact main
  · obtain ⟨i1,v1,m1,_⟩:=I.tuple (SqT.of h1)
    obtain ⟨i2,v2,m2,_⟩:=I.tuple (SqT.of h2)
    have n1:=v1.length
    have n2:=v2.length
    have main:=SeqAt.RcAt.tuples (A:=A) (s:=s) (e:=fun _=>true) m1 m2 hu (fun j x y=>sme_items v1 v2 go h j x y)
    have eb:((List.range (min i1.toArray.size i2.toArray.size)).all (fun _=>true) && i1.toArray.size == i2.toArray.size)=true:=by
      rw [show (List.range (min i1.toArray.size i2.toArray.size)).all (fun _=>true)=true from List.all_eq_true.mpr fun _ _=>rfl]
      simp
      omega
    rw [eb] at main
    exact main
theorem sme_eq (I:Inv X pins σ H s):∀ (n:Nat) {A:Around} (hu:A.units + n < cLine) {x y:V} {u v:Value},Sme n H x y->RelV x u->RelV y v->SeqAt.EqAt A s u v true
  | 0,_,_,_,_,_,_,h,_,_=>h.elim
  | n + 1,A,hu,x,y,u,v,h,rx,ry=>by
    rcases h with ⟨f,rfl⟩ | ⟨a,b,xs,ys,rfl,rfl,hab,hl,h⟩
    · have k:=eqAt_V (A:=A) (s:=s) rx ry f f
      rw [eqV_self f] at k
      exact k
    · cases rx
      cases ry
      by_cases c:a=b
      · subst c
        exact .same _
      · exact .of_refs c (sme_rc (by omega) I hl hab (fun {x y u v}=>sme_eq I n (A:=A.in1) (by show A.units + 1 + n < cLine; omega)) h)
def rSme (n:Nat) (b:Bool):R2:=fun x y H Q=>∃ p p',x=.ref p/\y=.ref p'/\Sme n H x y/\Q (.bl b) H
theorem op_eqD {n:Nat} (hn:n<=32) (hu:X.A.units + 64 < cLine):OpR X (compareOp .Eq) (rSme n true):=by
  intro pins s σ H x y v u Q I rx ry h
  obtain ⟨p,p',rfl,rfl,h,q⟩:=h
  cases rx
  cases ry
  match n,h with
  | n + 1,h =>
    rcases h with ⟨f,_⟩ | ⟨a,b,xs,ys,e1,e2,hab,hl,h⟩
    · cases f
    · cases e1
      cases e2
      exact sme_rc (A:=X.A) (by omega) I hl hab (fun {x y u v}=>sme_eq I n (A:=X.A.in1) (by show X.A.units + 1 + n < cLine; omega)) h _ _ _ _ ⟨.bl true,H,I,rfl,q⟩
theorem jo_eqD {k n:Nat} (hn:n<=32) (hr:Room k X.A):jOp X (compareOp .Eq) (rSme n true):=⟨op_eqD hn hr.units⟩
theorem op_neD {n:Nat} (hn:n<=32) (hu:X.A.units + 64 < cLine):OpR X (compareOp .NotEq) (rSme n false):=by
  intro pins s σ H x y v u Q I rx ry h
  obtain ⟨p,p',rfl,rfl,h,q⟩:=h
  cases rx
  cases ry
  match n,h with
  | n + 1,h =>
    rcases h with ⟨f,_⟩ | ⟨a,b,xs,ys,e1,e2,hab,hl,h⟩
    · cases f
    · cases e1
      cases e2
      have go:∀ {x y:V} {u v:Value},Sme n H x y->RelV x u->RelV y v->SeqAt.EqAt X.A.in1 s u v true:=fun {x y u v}=>sme_eq I n (A:=X.A.in1) (by show X.A.units + 1 + n < cLine; omega)
      rcases hab with ⟨h1,h2⟩ | ⟨h1,h2⟩
      · obtain ⟨i1,v1,m1,_⟩:=I.list (SqL.of h1)
        obtain ⟨i2,v2,m2,_⟩:=I.list (SqL.of h2)
        have n1:=v1.length
        have n2:=v2.length
        have main:=SeqAt.RcNeAt.lists (A:=X.A) (s:=s) (e:=fun _=>true) m1.isList m2.isList (by simp; omega) (by omega) (fun j x y=>sme_items v1 v2 go h j x y)
        rw [show ((List.range i1.toArray.size).all fun _=>true)=true from List.all_eq_true.mpr fun _ _=>rfl] at main
        exact main _ _ _ _ ⟨.bl false,H,I,rfl,q⟩
      · obtain ⟨i1,v1,m1,_⟩:=I.tuple (SqT.of h1)
        obtain ⟨i2,v2,m2,_⟩:=I.tuple (SqT.of h2)
        have n1:=v1.length
        have n2:=v2.length
        have main:=SeqAt.RcNeAt.tuples (A:=X.A) (s:=s) (e:=fun _=>true) m1 m2 (by omega) (fun j x y=>sme_items v1 v2 go h j x y)
        have eb:((List.range (min i1.toArray.size i2.toArray.size)).all (fun _=>true) && i1.toArray.size == i2.toArray.size)=true:=by
          rw [show (List.range (min i1.toArray.size i2.toArray.size)).all (fun _=>true)=true from List.all_eq_true.mpr fun _ _=>rfl]
          simp
          omega
        rw [eb] at main
        exact main _ _ _ _ ⟨.bl false,H,I,rfl,q⟩
theorem jo_neD {k n:Nat} (hn:n<=32) (hr:Room k X.A):jOp X (compareOp .NotEq) (rSme n false):=⟨op_neD hn hr.units⟩
end
end L2
namespace PySem.SeqAt
open PySem PySem.Spec PyProof.Rows
end PySem.SeqAt
namespace L2
open PySem PySem.Spec PyProof.Rows
section
variable {X:Cx}
end
end L2
namespace L2
open PySem PySem.Spec PyProof.Rows
theorem vals_all:∀ {xs:List V} {us:List Value},xs.length=us.length->(∀ (j:Nat) x u,xs[j]?=some x->us[j]?=some u->RelV x u)->Vals xs us
  | [],[],_,_=>.nil
  | [],_ :: _,h,_=>by simp at h
  | _ :: _,[],h,_=>by simp at h
  | x :: xs,u :: us,h,g=>.cons (g 0 x u rfl rfl) (vals_all (by simpa using h) fun j a b h1 h2=>g (j + 1) a b (by simpa using h1) (by simpa using h2))
section
variable {X:Cx}
end
end L2
namespace L2
open PySem PySem.Spec PyProof.Rows
section
variable {prog:Program} {w:World} {A:Around} {E:Value->Shared->Prop}
end
inductive TyN (H:Hp):V->Bool->Prop where
  | int (i:Int):TyN H (.int i) false
  | str (z:Str):TyN H (.str z) false
  | bl (b:Bool):TyN H (.bl b) false
  | non:TyN H .non false
  | lst {a:Addr} {xs:List V} (e:H a=some (.lst xs)):TyN H (.ref a) true
  | tup {a:Addr} {xs:List V} (e:H a=some (.tup xs)):TyN H (.ref a) true
section
variable {X:Cx}
variable {CX:CXT} {k:Nat} {C:Addr} {ps:List Str} {sp:Sp} {E:XK} {x m:Str} {p pos apos:Pos} {e o:Expr} {es:List Expr} {ta:TE} {t:TA}
structure MeD (P:Program) (w:World) (K:PySem.W.Frag) (mg:Str->Option Value) (base:Heap) (CX:CXT) (k:Nat) (C:Addr) (m:Str) (ps:List Str) (dvs:List V) (sp:Sp):Prop where
  ex:∃ f fd,FnOk P w K mg base CX k f fd ps sp/\Binds K fd ps []/\(∃ ds,Binds K fd ps ds/\Vals dvs ds)/\Meth K C m f
theorem je_never {e:Expr}:jE X e (fun _ _ _=>False):=⟨fun _ _ _ _ _ _ h=>h.elim⟩
theorem je_dget {o i:Expr} {td ty:TE} {pos:Pos} (hr:Room k X.A) (ho:jE X o td) (hi:jE X i ty) (hs:NoSl i:=by intro _ _; rfl):jE X (.Subscript o i pos) (tDGet td ty):=⟨pe_dget (hu_of hr) ho.out hi.out hs⟩
end
section
variable {g:TG} {tt:TT} {te:TE} {Q:VK} {σ:St} {H:Hp}
end
structure FunM (K:PySem.W.Frag) (x qual:Str) (st:Stmt) (D f:Addr) (fd:FuncData):Prop where
  ex:∃ (oc:Value) (od:Option Addr) (kV doc pm:Value) (an:Option Addr) (cdv ct:Value) (osl:Array (Option Value)),fd=PySem.W.fnOf x qual (defArgs st) (defBody st) (defScope st) (.ref D) kV doc pm an cdv ct/\K.lookup f=some ⟨oc,od,.func fd,osl⟩/\PySem.W.codeIn K cdv qual=true
theorem FunM.by {P:Program} {w:World} {K:PySem.W.Frag} {mg:Str->Option Value} {base:Heap} {x qual:Str} {st:Stmt} {f D:Addr} {fd:FuncData} {N ps:List Str} {k:Nat} {sp:Sp} (F:FunM K x qual st D f fd) (S:FnScope N ps (defScope st)) (len:∀ vs H Q E,sp vs H Q E->vs.length=ps.length)
    (hbody:∀ (cdv:Value) (A:Around) (outer:List Env) (s:Shared) (H:Hp) (vs:List V) (Q:VK) (E:XK),Room k (A.deeper (envOfC qual (defScope st) s.heap.objs.size f cdv))->sp vs H Q E ->
      ∃ t,jSs (cxOf CX0 P w K mg base N qual (defScope st) f cdv A outer s H E).nox (defBody st) t/\t { nx:=fun _ H'=>Q .non H',rt:=Q } (start N vs) H):FnOk P w K mg base CX0 (k + 1) f fd ps sp:=by
  obtain ⟨oc,od,kV,doc,pm,an,cdv,ct,osl,rfl,lk,hcd⟩:=F.ex
  refine fn_of lk hcd S len fun A outer s H vs Q E hr hsp=>?_
  obtain ⟨t,h,q⟩:=hbody cdv A outer s H vs Q E hr hsp
  exact ⟨t,h.out.nox,q⟩
def MdIn (K:PySem.W.Frag) (C:Addr) (x qual:Str) (st:Stmt) (D:Addr):Prop:=∃ f,PySem.W.findIn K (.ref C) x=some (some (.ref f))/\PySem.W.isFn K (.ref f)=true/\∃ (oc:Value) (od:Option Addr) (kV doc pm:Value) (an:Option Addr) (cdv ct:Value) (osl:Array (Option Value)),K.lookup f=some ⟨oc,od,.func (PySem.W.fnOf x qual (defArgs st) (defBody st) (defScope st) (.ref D) kV doc pm an cdv ct),osl⟩/\PySem.W.codeIn K cdv qual=true/\PySem.W.keepIn K (.ref f)=true
theorem MdIn.mk {K:PySem.W.Frag} {C:Addr} {x qual:Str} {st:Stmt} {f D:Addr} {oc:Value} {od:Option Addr} {kV doc pm:Value} {an:Option Addr} {cdv ct:Value} {osl:Array (Option Value)} (a:PySem.W.findIn K (.ref C) x=some (some (.ref f))) (l:K.lookup f=some ⟨oc,od,.func (PySem.W.fnOf x qual (defArgs st) (defBody st) (defScope st) (.ref D) kV doc pm an cdv ct),osl⟩) (c:PySem.W.codeIn K cdv qual=true) (k:PySem.W.keepIn K (.ref f)=true) (n:PySem.W.isFn K (.ref f)=true):MdIn K C x qual st D:=⟨f,a,n,oc,od,kV,doc,pm,an,cdv,ct,osl,l,c,k⟩
def DnIn (K:PySem.W.Frag) (D:Addr):Prop:=∃ (d:Option Addr) (n:Nat) (sl:Array (Option Value)),K.lookup D=some ⟨.type "tuple",d,.seq #[.none] n,sl⟩
theorem DnIn.mk {K:PySem.W.Frag} {D:Addr} {d:Option Addr} {n:Nat} {sl:Array (Option Value)} (a:K.lookup D=some ⟨.type "tuple",d,.seq #[.none] n,sl⟩):DnIn K D:=⟨d,n,sl,a⟩
theorem MdIn.me {P:Program} {w:World} {K:PySem.W.Frag} {mg:Str->Option Value} {base:Heap} {k:Nat} {C:Addr} {x qual:Str} {st:Stmt} {D:Addr} {ps:List Str} {dvs:List V} {sp:Sp} (d:MdIn K C x qual st D)
    (hb:∀ (kV doc pm:Value) (an:Option Addr) (cdv ct:Value),Binds K (PySem.W.fnOf x qual (defArgs st) (defBody st) (defScope st) (.ref D) kV doc pm an cdv ct) ps [])
    (hd:∀ (kV doc pm:Value) (an:Option Addr) (cdv ct:Value),∃ ds,Binds K (PySem.W.fnOf x qual (defArgs st) (defBody st) (defScope st) (.ref D) kV doc pm an cdv ct) ps ds/\Vals dvs ds)
    (ok:∀ f fd,FunM K x qual st D f fd->FnOk P w K mg base CX0 k f fd ps sp):MeD P w K mg base CX0 k C x ps dvs sp:=by
  obtain ⟨f,a,n,oc,od,kV,doc,pm,an,cdv,ct,osl,l,cc,kp⟩:=d
  exact ⟨f,_,ok f _ ⟨oc,od,kV,doc,pm,an,cdv,ct,osl,rfl,l,cc⟩,hb kV doc pm an cdv ct,hd kV doc pm an cdv ct,a,n,kp⟩
end L2
namespace L2
open PySem PySem.Spec PyProof.Rows
section
variable {X:Cx} {k:Nat} {o e f i:Expr} {td ty tx:TE} {apos cpos pos:Pos}
theorem jt_dnotin (hr:Room k X.A) (hi:jE X i ty) (ho:jE X o td) (h1:behindInMarks .NotIn o=false:=by rfl):jT X (.Compare i [.NotIn] [o] pos) (tB (tDNotIn ty td)):=⟨pt_cmp (pc_dnotin (hu_of hr) hi.out ho.out) (h1:=h1)⟩
end
end L2
namespace L2
open PySem PySem.Spec PyProof.Rows
section
variable {prog:Program} {w:World} {A:Around} {E:Value->Shared->Prop} {h:Heap} {g:Array GenState} {d:Drawn} {t:Nat} {os:OsState}
variable {nm q:Str} {C N:Addr} {bs bm bmB:List Value} {hdct:Bool} {sn:List Str} {sub:List Value} {ab:Bool} {col:Option Bool} {dd:Option Addr} {k0 k1 k2 k3 k5:Option Value} {B Bn newId nid initId inN:String} {bmN:List Value}
abbrev bareX (h:Heap) (C:Addr):Heap:=(((h.push (tupOf [])).push (excOf C h.objs.size)).push (tupOf [])).update (h.objs.size + 1) (Obj.mapFields (·.setIfInBounds 0 (.ref ((h.push (tupOf [])).push (excOf C h.objs.size)).objs.size)))
theorem ex_typeCall0 (Fn:ExcBaseFacts Bn newId inN bmN) (hBn:bmB.contains (.type Bn)=true) (F:ExcBaseFacts B nid initId bmB) (T:OwnTail h bmB bm) {mN:Str->Option Value} {Q:Fin->Shared->Prop}
    (hC:h.get? C=some (excClassObj nm q C N bs bm hdct sn sub ab col dd k0 k1 k2 k3 k5 newId)) (hn:h.Ns N mN) (hi:mN "__init__"=none)
    (hq:Q (.done (.ret (.ref (h.objs.size + 1)))) ⟨bareX h C,g,d,t,os⟩) :
    wpAny (model prog w) A (Builtin.«type.__call__» ⟨[.ref C],[]⟩) Q E ⟨h,g,d,t,os⟩:=by
  repeat (first | with_reducible refine wpAny_madeBy_exc hC ?_ | with_reducible refine wpAny_loadPart_at hC ?_ | wp_step)
  refine codeAny_call_builtin_code (Code.quiet_builtin _ Fn.quiet) (wpAny_check_new_subU Fn hBn T hC (codeAny_exc_new_subU Fn hBn F T hC ?_ (Nat.zero_le _)))
  show wpAny _ _ _ _ _ _
  have k:∀ b o,h.get? b=some o->((h.push (tupOf [])).push (excOf C h.objs.size)).get? b=some o:=fun b o e=>Heap.get?_push_of_some _ (Heap.get?_push_of_some _ e)
  have C1:=k _ _ hC
  have e1:((h.push (tupOf [])).push (excOf C h.objs.size)).get? (h.objs.size + 1)=some (excOf C h.objs.size):=Heap.get?_push_at (by simp only [Heap.size_push]) rfl
  have cC:(Value.ref C :: bm).contains (.ref C)=true:=by simp
  unfold isInstance
  repeat (first | with_reducible refine wpAny_loadPart_at e1 ?_ | (with_reducible refine wpAny_isSubtype_exc C1 ?_; rw [cC]) | wp_step)
  show wpAny _ _ (typeLookup (.ref C) _) _ _ _
  refine wpAny_typeLookup_tail C1 (hn.keeps k) (T.keeps k) F.mroIs F.init.lookup ?_
  rw [hi]
  refine wpAny_holding (wpAny_bind (wpAny_of_eq (F.init.bind _) ?_))
  refine wpAny_bind (ex_init F (T.keeps k) C1 e1 rfl rfl rfl (Nat.zero_le _) ?_)
  exact wpAny_pure (wpAny_pure hq)
theorem ex_call0 (Fn:ExcBaseFacts Bn newId inN bmN) (hBn:bmB.contains (.type Bn)=true) (F:ExcBaseFacts B nid initId bmB) (T:OwnTail h bmB bm) {mN:Str->Option Value} {Q:Value->Shared->Prop}
    (hC:h.get? C=some (excClassObj nm q C N bs bm hdct sn sub ab col dd k0 k1 k2 k3 k5 newId)) (hn:h.Ns N mN) (hi:mN "__init__"=none)
    (hq:Q (.ref (h.objs.size + 1)) ⟨bareX h C,g,d,t,os⟩):wpAny (model prog w) A (call (.ref C) []) Q E ⟨h,g,d,t,os⟩:=by
  have f1:=tc_lookup
  have f2:=tc_bind (.ref C)
  have hT:(⟨h,g,d,t,os⟩:Shared).TypeIs (.ref C) "type":=⟨_,hC,rfl⟩
  refine wpAny_call (codeAny_of_tree ?_)
  show wpAny _ _ (callAny (.ref C) ⟨[],[]⟩) _ _ _
  repeat (any_goals (first | assumption | (with_reducible refine wpAny_loadPart_at hC ?_) | wp_step))
  refine ⟨rfl,codeAny_call_builtin_at (Code.quiet_builtin _ (by decide +kernel)) entry_typeCall (wpAny_check_type_call_sub hC ?_)⟩
  exact ex_typeCall0 Fn hBn F T hC hn hi hq
end
theorem ns_none {K:PySem.W.Frag} {h:Heap} {N:Addr} {mg:Str->Option Value} {n:Str} (X:K.In h) (G:h.Ns N mg) (e:PySem.W.nsIn K N n=some none):mg n=none:=by
  obtain ⟨o,es,ep,ho,hd,_,hf⟩:=G
  unfold PySem.W.nsIn at e
  split at e
  · rename_i c d es' n' sl q
    have:=X _ _ q
    rw [ho] at this
    cases this
    cases hd
    split at e
    · cases e
    · rename_i he
      rw [<- hf]
      unfold nsFind findBy
      rw [<- Array.find?_toList,he]
      rfl
  · cases e
def xIn0 (K:PySem.W.Frag) (C:Addr):Bool:=match K.lookup C with
  | some ⟨.type "type",_,.cls cd,sl⟩=>(match cd.mro,sl.toList with
    | .ref C' :: bm,[_,_,_,_,some (.builtin n),_]=>C' == C && n == "ValueError.__new__" && !cd.hasDel && PySem.W.tailIn K bmV bm && PySem.W.nsOkIn K cd.ns && PySem.W.nsIn K cd.ns "__init__" == some none && bm.contains (.type "BaseException")
    | _,_=>false)
  | _=>false
structure XCl0 (K:PySem.W.Frag) (C:Addr):Prop where
  cls:xIn0 K C=true
  kp:PySem.W.keepIn K (.ref C)=true
theorem XCl0.at {K:PySem.W.Frag} {C:Addr} (c:XCl0 K C) {h:Heap} (X:K.In h):∃ nm q N bs bm hdct sn sub ab col dd k0 k1 k2 k3 k5 mN,h.get? C=some (excClassObj nm q C N bs bm hdct sn sub ab col dd k0 k1 k2 k3 k5 "ValueError.__new__") /\
    OwnTail h bmV bm/\h.Ns N mN/\mN "__init__"=none/\bm.contains (.type "BaseException")=true:=by
  have q:=c.cls
  unfold xIn0 at q
  split at q
  · rename_i dd cd sl ho
    split at q
    · rename_i C' bm k0 k1 k2 k3 n k5 hm hs
      simp only [Bool.and_eq_true,beq_iff_eq,Bool.not_eq_true'] at q
      obtain ⟨⟨⟨⟨⟨⟨rfl,rfl⟩,hdel⟩,ht⟩,hok⟩,hi⟩,hb⟩:=q
      obtain ⟨nm,bs,mro,ns,qn,hd,sn,sub,ab,col,del⟩:=cd
      dsimp only at hm hdel hok hi
      subst hm hdel
      have es:sl=#[k0,k1,k2,k3,some (.builtin "ValueError.__new__"),k5]:=by
        obtain ⟨l⟩:=sl
        simp only at hs
        rw [hs]
      subst es
      have nN:=PySem.Heap.Ns.of_isNs (PySem.W.isNs_of_in X hok)
      exact ⟨nm,qn,ns,bs,bm,hd,sn,sub,ab,col,dd,k0,k1,k2,k3,k5,_,X _ _ ho,PySem.W.tail_of_in X ht,nN,ns_none X nN hi,hb⟩
    · cases q
  · cases q
def tRaise0 (C:Addr) (E:XK):TS:=fun _ _ H=>E (.ref C) none H
section
variable {X:Cx} {k:Nat} {C:Addr} {E:XK} {x:Str} {np cpos pos:Pos}
theorem ps_raise0 (M:XCl0 X.K C) (hr:Room k X.A) (hg:Gl X x) (hm:X.mg x=some (.ref C)) (hx:Throws X E) (hdb:(x == ("__debug__":Str))=false:=by decide) :
    PS X (.Raise (some (.Call (.Name x np) [] [] cpos)) none pos) (tRaise0 C E):=by
  intro pins s σ H D I h
  obtain ⟨nm,q,N,bs,bm,hdct,sn,sub,ab,col,dd,k0,k1,k2,k3,k5,mN,hC0,T0,n0,i0,hB⟩:=M.at I.mod.kin
  rw [arm_exec_Raise]
  simp only [evalOpt,Option.map]
  refine wpAny_bind (wpAny_standAt (rs_stmt (C:=C) (nm:=nm) (q:=q) (N:=N) (bs:=bs) (hdct:=hdct) (sn:=sn) (sub:=sub) (ab:=ab) (col:=col) (dd:=dd) (k0:=k0) (k1:=k1) (k2:=k2) (k3:=k3) (k5:=k5) (newId:="ValueError.__new__") hB hr.hd (wpAny_bind ?_)))
  refine wpAny_Call_Name_kw (ld_glob I hg hm ?_ hdb)
  refine PySem.W.callWith_K0 I.kIn M.kp ?_
  obtain ⟨hh,g,d,tk,os⟩:=s
  have kb:∀ b o,X.base.get? b=some o->hh.get? b=some o:=I.bk
  refine ex_call0 PySem.F.excBase_ValueError (by decide +kernel) PySem.F.excBase_ValueError (T0.keeps kb) (kb _ _ hC0) (n0.keeps kb) i0 ?_
  have e1:(((hh.push (tupOf [])).push (excOf C hh.objs.size)).push (tupOf [])).get? (hh.objs.size + 1)=some (excOf C hh.objs.size):=Heap.get?_push_of_some _ (Heap.get?_push_at (by simp only [Heap.size_push]) rfl)
  have ge:=Heap.get?_update_self (Obj.mapFields (·.setIfInBounds 0 (.ref ((hh.push (tupOf [])).push (excOf C hh.objs.size)).objs.size))) e1 rfl
  have kk:∀ b o,hh.get? b=some o->(bareX hh C).get? b=some o:=fun b o e=>by
    rw [Heap.get?_update_other _ _ (Nat.ne_of_gt (Nat.lt_succ_of_lt (Heap.lt_size e)))]
    exact Heap.get?_push_of_some _ (Heap.get?_push_of_some _ (Heap.get?_push_of_some _ e))
  have I2:Inv X pins σ H ⟨bareX hh C,g,d,tk,os⟩:=I.un (Un.kept kk) (I.hok.kept kk)
  have he:hh.objs.size<=hh.objs.size + 1:=Nat.le_succ _
  refine wpAny_bind (wpAny_standAt (wpAny_pure ⟨_,_,_,rfl,I2.bk _ _ hC0,ge,rfl,rfl,rfl,hx pins σ _ _ ⟨_,.ref C,none,H,hh.objs.size,rfl,I2,I.hok.fresh he,I.sz,he,fun p hp=>Heap.lt_size (I.pin p hp).1,.inl ⟨_,_,ge,rfl,rfl,rfl,rfl,rfl⟩,h⟩⟩))
theorem js_raise0 (M:XCl0 X.K C) (hr:Room k X.A) (hg:Gl X x) (hm:X.mg x=some (.ref C)) (hx:Throws X E) (hdb:(x == ("__debug__":Str))=false:=by decide) :
    jS X (.Raise (some (.Call (.Name x np) [] [] cpos)) none pos) (tRaise0 C E):=⟨ps_raise0 M hr hg hm hx hdb⟩
end
end L2
namespace L2
open PySem
section
variable {X:Cx} {T id:String} {name:Str} {rm:V->List V->Hp->VK->Prop} {o e:Expr} {es:List Expr} {to:TE} {t:TA} {apos cpos:Pos}
theorem je_bm0K (K:PySem.W.Frag) (pa:PlainAttrs T) (slot:Slot T name id) (hty:typeOf (.builtin id)=pure (.type "method_descriptor")) (hm:jMt X id rm) (ho:jE X o to) (h:X.K=K:=by rfl)
    (hbase:attributeBase o name X.env (eval o X.env)=eval o X.env:=by rfl) (hline:(apos.endLine == cpos.line)=true:=by rfl):jE X (.Call (.Attribute o name apos) [] [] cpos) (tBM0 K T rm to):=h ▸ je_bm0 pa slot hty hm ho hbase hline
end
end L2
namespace GN
open PySem L2 K11
abbrev Kvs:=List (Key × V)
def szOf (kvs:Kvs) (t:Str):Option Nat:=match valV kvs (.inr t) with
  | some (.int n)=>some n.toNat
  | _=>none
def dl (kvs:Kvs):V->Option Nat
  | .int i=>if -1000000000000000000000000000000 < i/\i < 1000000000000000000000000000000 then some 0 else none
  | .str t=>szOf kvs t
  | _=>none
def hgt (kvs:Kvs):List V->Option Nat
  | []=>some 0
  | x :: xs=>match hgt kvs xs,dl kvs x with
    | some n,some s=>if s<=n then some (n - s + 1) else none
    | _,_=>none
structure Rm (kvs:Kvs):Prop where
  e:∀ kv∈kvs,∃ (t:Str) (n:Nat),kv=(.inr t,.int (n:Int))/\n<=9
  l:kvs.length<=100
inductive Pz (kvs:Kvs) (H:Hp):List V->List V->Prop
  | nil:Pz kvs H [] []
  | num {i:Int} {vs xs:List V}:Sm i->Pz kvs H vs xs->Pz kvs H (.int i :: vs) (.int i :: xs)
  | shp {p q:Addr} {t:Str} {us vs xs ys:List V}:H p=some (.tup [.str t,.ref q])->H q=some (.tup us)->szOf kvs t=some us.length->us.length<=9->Pz kvs H us xs->Pz kvs H vs ys->Pz kvs H (.ref p :: vs) (.str t :: (xs ++ ys))
section
variable {kvs:Kvs} {H H':Hp} {us vs xs ys:List V}
theorem Pz.keep (t:Tups H H') (h:Pz kvs H vs xs):Pz kvs H' vs xs:=by
  induction h with
  | nil=>exact .nil
  | num a _ ih=>exact .num a ih
  | shp a b c d _ _ ih1 ih2=>exact .shp (t _ _ a) (t _ _ b) c d ih1 ih2
theorem Pz.pt (h:Pz kvs H vs xs):PtL H vs xs:=by
  induction h with
  | nil=>exact .nil
  | num _ _ ih=>exact .num ih
  | shp a b _ d _ _ ih1 ih2=>exact .shp a b d ih1 ih2
theorem Pz.app (h:Pz kvs H us xs) (g:Pz kvs H vs ys):Pz kvs H (us ++ vs) (xs ++ ys):=by
  induction h with
  | nil=>exact g
  | num a _ ih=>exact .num a ih
  | shp a b c d e _ _ ih2 =>
    rw [List.cons_append,List.cons_append,List.append_assoc]
    exact .shp a b c d e ih2
theorem Pz.split:∀ {us vs zs:List V},Pz kvs H (us ++ vs) zs->∃ xs ys,zs=xs ++ ys/\Pz kvs H us xs/\Pz kvs H vs ys
  | [],vs,zs,h=>⟨[],zs,rfl,.nil,h⟩
  | u :: us,vs,zs,h=>by
    rw [List.cons_append] at h
    cases h with
    | num a h =>
      obtain ⟨xs,ys,e,h1,h2⟩:=Pz.split h
      exact ⟨_ :: xs,ys,by rw [e]; rfl,.num a h1,h2⟩
    | shp a b c d e h =>
      obtain ⟨xs,ys,e',h1,h2⟩:=Pz.split h
      exact ⟨_ :: (_ ++ xs),ys,by rw [e',List.cons_append,List.append_assoc],.shp a b c d e h1,h2⟩
end
end GN
namespace GN
open PySem L2 K11
def But (v:Addr) (H H':Hp):Prop:=∀ b o,b≠v->H b=some o->H' b=some o
theorem But.refl {v:Addr} {H:Hp}:But v H H:=fun _ _ _ h=>h
theorem But.of {v:Addr} {H H':Hp} (s:Same H H'):But v H H':=fun b o _ h=>s b o h
theorem But.trans {v:Addr} {H H1 H2:Hp} (a:But v H H1) (b:But v H1 H2):But v H H2:=fun c o n h=>b c o n (a c o n h)
theorem But.put {v:Addr} {H:Hp} {o:HO}:But v H (upd H v o):=fun b o' n h=>by rw [upd_ne n]; exact h
theorem But.tups {v:Addr} {H H':Hp} {xs:List V} (h:But v H H') (g:H v=some (.lst xs)):Tups H H':=fun p ys q=>h p _ (ne_of q g (by intro z; cases z)) q
theorem But.fresh {v:Addr} {H H1 H2:Hp} (s:Same H H1) (n:H v=none) (h:But v H1 H2):Same H H2:=fun b o q=>h b o (ne_of_none q n) (s b o q)
def KnR (H:Hp) (q:Addr) (l:List (Str × Nat)):Prop:=∃ ts:List Addr,H q=some (.tup (ts.map V.ref))/\ts.length=l.length/\∀ (i:Nat) t a,ts[i]?=some t->l[i]?=some a->H t=some (.tup [.str a.1,.int (a.2:Int)])
def Kn (H:Hp) (p:Addr) (ks:List (List (Str × Nat))):Prop:=∃ qs:List Addr,H p=some (.tup (qs.map V.ref))/\qs.length=ks.length/\∀ (i:Nat) q l,qs[i]?=some q->ks[i]?=some l->KnR H q l
theorem KnR.keep {H H':Hp} {q:Addr} {l:List (Str × Nat)} (t:Tups H H') (h:KnR H q l):KnR H' q l:=let ⟨ts,a,b,c⟩:=h; ⟨ts,t _ _ a,b,fun i x y h1 h2=>t _ _ (c i x y h1 h2)⟩
theorem Kn.keep {H H':Hp} {p:Addr} {ks:List (List (Str × Nat))} (t:Tups H H') (h:Kn H p ks):Kn H' p ks:=let ⟨qs,a,b,c⟩:=h; ⟨qs,t _ _ a,b,fun i x y h1 h2=>(c i x y h1 h2).keep t⟩
structure KsOk (ks:List (List (Str × Nat))):Prop where
  n:ks.flatten.length<=100
  s:∀ a∈ks.flatten,a.2<=9
def puts (l:List (Str × Nat)) (kvs:Kvs):Kvs:=l.foldl (fun kvs a=>putK kvs (.inr a.1) (.int (a.2:Int))) kvs
theorem puts_app (a b:List (Str × Nat)) (kvs:Kvs):puts (a ++ b) kvs=puts b (puts a kvs):=List.foldl_append
structure Rm' (kvs:Kvs) (n:Nat):Prop where
  e:∀ kv∈kvs,∃ (t:Str) (n:Nat),kv=(.inr t,.int (n:Int))/\n<=9
  l:kvs.length<=n
theorem rm_put {kvs:Kvs} {n:Nat} {a:Str × Nat} (h:Rm' kvs n) (ha:a.2<=9):Rm' (putK kvs (.inr a.1) (.int (a.2:Int))) (n + 1):=by
  unfold putK
  split
  · refine ⟨fun kv hkv=>?_,by rw [List.length_map]; have:=h.l; omega⟩
    obtain ⟨x,hx,e⟩:=List.mem_map.mp hkv
    obtain ⟨t,m,ex,hm⟩:=h.e x hx
    split at e
    · rename_i c
      rw [<- e,c]
      exact ⟨_,_,rfl,ha⟩
    · rw [<- e]
      exact ⟨t,m,ex,hm⟩
  · refine ⟨fun kv hkv=>?_,by rw [List.length_append]; have:=h.l; show _ + 1<=_; omega⟩
    rcases List.mem_append.mp hkv with z | z
    · exact h.e kv z
    · rw [List.mem_singleton.mp z]
      exact ⟨_,_,rfl,ha⟩
theorem rm_puts:∀ {l:List (Str × Nat)} {kvs:Kvs} {n:Nat},Rm' kvs n->(∀ a∈l,a.2<=9)->Rm' (puts l kvs) (n + l.length)
  | [],_,_,h,_=>h
  | a :: l,kvs,n,h,hs=>by
    have:=rm_puts (l:=l) (rm_put h (hs a List.mem_cons_self)) fun x hx=>hs x (List.mem_cons_of_mem _ hx)
    rw [List.length_cons,show n + (l.length + 1)=n + 1 + l.length by omega]
    exact this
theorem KsOk.rm {ks:List (List (Str × Nat))} (h:KsOk ks):Rm (puts ks.flatten []):=by
  have r:=rm_puts (l:=ks.flatten) (kvs:=[]) (n:=0) ⟨(fun kv hk=>by cases hk),Nat.le_refl _⟩ h.s
  exact ⟨r.e,by have:=r.l; have:=h.n; omega⟩
theorem take_snoc {α:Type} {l:List α} {i:Nat} {x:α} (h:l[i]?=some x):l.take i ++ [x]=l.take (i + 1):=by
  rw [List.take_add_one,h]
  rfl
theorem fl_take {ks:List (List (Str × Nat))} {i:Nat} {k:List (Str × Nat)} (h:ks[i]?=some k):(ks.take (i + 1)).flatten=(ks.take i).flatten ++ k:=by
  rw [<- take_snoc h,List.flatten_append]
  simp
theorem fl_len {ks:List (List (Str × Nat))} {i:Nat} {k:List (Str × Nat)} (h:ks[i]?=some k):(ks.take i).flatten.length + k.length<=ks.flatten.length:=by
  have e:ks.flatten=(ks.take (i + 1)).flatten ++ (ks.drop (i + 1)).flatten:=by rw [<- List.flatten_append,List.take_append_drop]
  rw [e,List.length_append,fl_take h,List.length_append]
  omega
theorem puts_len:∀ {l:List (Str × Nat)} {kvs:Kvs},(puts l kvs).length<=kvs.length + l.length
  | [],_=>Nat.le_refl _
  | a :: l,kvs=>by
    have:=puts_len (l:=l) (kvs:=putK kvs (.inr a.1) (.int (a.2:Int)))
    have h2:(putK kvs (.inr a.1) (.int (a.2:Int))).length<=kvs.length + 1:=by
      unfold putK
      split
      · rw [List.length_map]; omega
      · rw [List.length_append]; exact Nat.le_refl _
    show (puts l (putK kvs (.inr a.1) (.int (a.2:Int)))).length<=_
    rw [List.length_cons]
    omega
theorem Rm.sz {kvs:Kvs} (h:Rm kvs) {t:Str}:(valV kvs (.inr t)=none/\szOf kvs t=none)\/∃ n:Nat,valV kvs (.inr t)=some (.int (n:Int))/\szOf kvs t=some n/\n<=9:=by
  unfold szOf
  cases e:valV kvs (.inr t) with
  | none=>exact .inl ⟨rfl,rfl⟩
  | some v =>
    unfold valV at e
    obtain ⟨kv,hk,ev⟩:=Option.map_eq_some_iff.mp e
    obtain ⟨t',n,e1,e2⟩:=h.e kv (List.mem_of_find?_eq_some hk)
    rw [e1] at ev
    subst ev
    exact .inr ⟨n,rfl,rfl,e2⟩
theorem hgt_none {kvs:Kvs}:∀ {a b:List V},hgt kvs b=none->hgt kvs (a ++ b)=none
  | [],_,h=>h
  | x :: a,b,h=>by
    have ih:=hgt_none (a:=a) h
    show (match hgt kvs (a ++ b),dl kvs x with | some n,some s=>if s<=n then some (n - s + 1) else none | _,_=>none)=none
    rw [ih]
def spSizes:Sp:=fun vs H Q _=>∃ (p:Addr) (ks:List (List (Str × Nat))),vs=[.ref p]/\Kn H p ks/\KsOk ks/\∀ (H':Hp) (d:Addr),Same H H'->H d=none->H' d=some (.dK (puts ks.flatten []))->Q (.ref d) H'
def spShape (C:Addr):Sp:=fun vs H Q E=>∃ (t:Str) (d vl:Addr) (kvs:Kvs) (vals:List V),vs=[.str t,.ref d,.ref vl]/\H d=some (.dK kvs)/\Rm kvs/\H vl=some (.lst vals)/\vals.length<=300 /\
  (((szOf kvs t=none\/∃ s,szOf kvs t=some s/\vals.length < s)/\E (.ref C) none H) \/
   ∃ (s:Nat) (us rest:List V),szOf kvs t=some s/\vals=rest.reverse ++ us.reverse/\us.length=s/\∀ H' p q,But vl H H'->H' vl=some (.lst rest.reverse)->H' p=some (.tup [.str t,.ref q])->H' q=some (.tup us)->Q (.ref p) H')
def NotL (H:Hp) (v:V):Prop:=v=.non\/(∃ i,v=.int i)\/(∃ z,v=.str z)\/(∃ p xs,v=.ref p/\H p=some (.tup xs)/\∀ x∈xs,At x)\/∃ p,v=.ref p/\H p=some (.dK [])
def spGrown (C:Addr):Sp:=fun vs H Q E=>∃ (pk:Addr) (v:V) (ks:List (List (Str × Nat))),vs=[.ref pk,v]/\Kn H pk ks/\KsOk ks /\
  ((NotL H v/\E (.ref C) none H)\/∃ l xs,v=.ref l/\H l=some (.lst xs)/\xs.length<=300/\(∀ x∈xs,∃ b,Th H b x)/\(hgt (puts ks.flatten []) xs≠some 1->∀ H',Same H H'->E (.ref C) none H')/\(hgt (puts ks.flatten []) xs=some 1->∀ H' v,Same H H'->Pz (puts ks.flatten []) H' [v] xs->Q v H'))
section
variable {P:Program} {w:World} {K:PySem.W.Frag} {mg:Str->Option Value} {base:Heap} {f C:Addr} {fd:FuncData}
theorem scSizes:FnScope ["kinds","found","kind","tag","size"] ["kinds"] (defScope sSizes):=⟨rfl,rfl,rfl,by decide +kernel,rfl,by decide +kernel,by decide +kernel⟩
theorem ok_sizes (F:Fun K "sizes" "sizes" sSizes f fd):FnOk P w K mg base CX0 1 f fd ["kinds"] spSizes:=by
  refine F.by scSizes (fun vs H Q E h=>?_) (fun cdv A outer s H vs Q E hr h=>?_)
  · obtain ⟨p,ks,rfl,_⟩:=h
    rfl
  obtain ⟨p,ks,rfl,⟨qs,hp,hlen,hK⟩,hF,q⟩:=h
  refine ⟨_,
    (jss_cons (js_set (i:=1) scSizes.nd rfl (Or.inl rfl) je_dnewK)
    (jss_cons (js_for PassesOwn.never rfl (ji_tup (jv 0)) (jg_name (i:=2) scSizes.nd rfl (Or.inl rfl))
      (jss_one (js_for PassesOwn.never rfl (ji_tup (jv 2)) (jg_tup rfl (jgs_cons (jg_name (i:=3) scSizes.nd rfl (Or.inl rfl)) (jgs_cons (jg_name (i:=4) scSizes.nd rfl (Or.inl rfl)) jgs_nil)))
        (jss_one (js_dput hr (jv 1) (jv 3) (jv 4))))))
    (jss_one (js_ret (jv 1))))),?_⟩
  have sl:=line0
  intro d hd
  have s1:=same_new (o:=.dK []) hd
  refine ⟨_,rfl,_,rfl,⟨_,SqT.of (s1 _ _ hp)⟩,for_tup (xs:=qs.map V.ref) (fun i σ H'=>Same H H'/\H' d=some (.dK (puts (ks.take i).flatten []))/\∃ x y z,σ=[some (.ref p),some (.ref d),x,y,z]) ⟨s1,upd_same,none,none,none,rfl⟩ (fun i σ H' _ h=>SqT.of (h.1 _ _ hp)) ?_ ?_⟩
  · rintro i v σ H1 hv ⟨s1,hd1,x,y,z,rfl⟩
    rw [List.getElem?_map] at hv
    obtain ⟨qq,hq,rfl⟩:=Option.map_eq_some_iff.mp hv
    have hi:i < qs.length:=(List.getElem?_eq_some_iff.mp hq).1
    have hk:ks[i]?=some (ks[i]'(by omega)):=List.getElem?_eq_getElem _
    obtain ⟨k,ek⟩:∃ k,k=ks[i]'(by omega):=⟨_,rfl⟩
    rw [<- ek] at hk
    obtain ⟨ts,hts,htl,hT⟩:=hK i qq k hq hk
    have hl:=fl_len hk
    have hkl:=hF.n
    refine ⟨_,rfl,_,rfl,⟨_,SqT.of (s1 _ _ hts)⟩,for_tup (xs:=ts.map V.ref) (fun j σ H'=>Same H H'/\H' d=some (.dK (puts ((ks.take i).flatten ++ k.take j) []))/\∃ y z,σ=[some (.ref p),some (.ref d),some (.ref qq),y,z]) ⟨s1,by rw [List.take_zero,List.append_nil]; exact hd1,_,_,rfl⟩ (fun i σ H' _ h=>SqT.of (h.1 _ _ hts)) ?_ ?_⟩
    · rintro j v σ H2 hv ⟨s2,hd2,y,z,rfl⟩
      rw [List.getElem?_map] at hv
      obtain ⟨tt,ht,rfl⟩:=Option.map_eq_some_iff.mp hv
      have hj:j < ts.length:=(List.getElem?_eq_some_iff.mp ht).1
      have ha:k[j]?=some (k[j]'(by omega)):=List.getElem?_eq_getElem _
      obtain ⟨a,ea⟩:∃ a,a=k[j]'(by omega):=⟨_,rfl⟩
      rw [<- ea] at ha
      have e2:=hT j tt a ht ha
      refine ⟨_,_,rfl,SqT.of (s2 _ _ e2),rfl,_,_,rfl,_,_,rfl,rfl,_,rfl,_,rfl,_,rfl,d,_,rfl,DPut.k (k:=.inr a.1) hd2 ?_,s2.put hd,?_,_,_,rfl⟩
      · have:=puts_len (l:=(ks.take i).flatten ++ k.take j) (kvs:=[])
        rw [List.length_append,List.length_take] at this
        simp only [List.length_nil] at this
        omega
      · rw [upd_same,<- take_snoc ha,<- List.append_assoc,puts_app _ [a]]
        rfl
    · rintro σ H2 ⟨s2,hd2,y,z,rfl⟩
      rw [List.length_map,htl,List.take_of_length_le (Nat.le_refl _),<- fl_take hk] at hd2
      exact ⟨s2,hd2,_,_,_,rfl⟩
  · rintro σ H1 ⟨s1,hd1,x,y,z,rfl⟩
    rw [List.length_map,hlen,List.take_of_length_le (Nat.le_refl _)] at hd1
    exact ⟨_,rfl,q _ d s1 hd hd1⟩
theorem scShape:FnScope ["tag","known_sizes","values","parts"] ["tag","known_sizes","values"] (defScope sShape):=⟨rfl,rfl,rfl,by decide +kernel,rfl,by decide +kernel,by decide +kernel⟩
theorem ndShape:(["tag","known_sizes","values","parts","place"]:List Str).Nodup:=by decide +kernel
theorem ok_shape (F:Fun K "shape" "shape" sShape f fd) (mC:mg "NoValue"=some (.ref C)) (xC:XCl0 K C) (m_len:mg "len"=none) (m_range:mg "range"=none) (m_tuple:mg "tuple"=none):FnOk P w K mg base (CXf P w) 1 f fd ["tag","known_sizes","values"] (spShape C):=by
  refine F.byx scShape (fun vs H Q E h=>?_) (fun cdv A outer s H vs Q E hr h=>?_)
  · obtain ⟨t,d,vl,kvs,vals,rfl,_⟩:=h
    rfl
  obtain ⟨t,d,vl,kvs,vals,rfl,hd,hRm,hvl,hle,hq⟩:=h
  refine ⟨_,
    (jss_cons (js_if (jW.pt (jw_or (jt_dnotin hr (jv 0) (jv 1)) (jw_or1 (jt_cmpR jo_gt (je_dget hr (jv 1) (jv 0) (fun _ _=>rfl)) (je_fnB jc_len_seq rfl m_len PySem.boot_len (ja_c (jv 2) ja_nil)) (nomark _))))) 
      (jss_one (js_raise0 xC hr rfl mC throwx))  jss_nil)
    (jss_cons (js_comp ["place"] (i:=3) scShape.nd rfl (Or.inl rfl) rfl (ji_range1 rfl m_range (ja_c (je_dget hr (jv 1) (jv 0) (fun _ _=>rfl)) ja_nil)) (fun _ _ _ _ _=>(jg_name (i:=4) ndShape rfl (Or.inl rfl))) (fun _ _ _ _ _=>jts_nil) (fun _ _ _ _ _=>(je_bm0K K PySem.F.plainAttrs_list PySem.F.slot_list_pop PySem.F.type_list_pop jm_pop (jv 2))))
    (jss_one (js_ret (je_tup (ja_c (jv 0) (ja_c (je_fnTy jc_tuple_of rfl m_tuple PyProof.Rows.boot_tuple (ja_c (jv 3) ja_nil)) ja_nil))))))),?_⟩
  have sl:=line0
  have dg:DGet H d (.str t) (valV kvs (.inr t)):=DGet.k (k:=.inr t) hd
  refine ⟨_,rfl,_,rfl,d,_,rfl,dg,_,rfl,?_⟩
  rcases hq with ⟨hb,q⟩ | ⟨n,us,rest,hn,ev,hu,q⟩
  · rcases hRm.sz (t:=t) with ⟨e1,e2⟩ | ⟨n,e1,e2,_⟩
    · rw [e1]
      exact iteT q
    · rw [e1]
      refine iteF ⟨_,rfl,_,rfl,d,_,rfl,by rw [<- e1]; exact dg,_,rfl,vl,_,rfl,.inl (SqL.of hvl),_,_,rfl,rfl,_,rfl,ite2 (fun _=>q) (fun c=>?_)⟩
      exfalso
      apply c
      rw [decide_eq_true_eq]
      rcases hb with z | ⟨s,z,z2⟩
      · rw [e2] at z; cases z
      · rw [e2] at z
        injection z with z
        omega
  · rcases hRm.sz (t:=t) with ⟨e1,e2⟩ | ⟨n',e1,e2,n9⟩
    · rw [e2] at hn; cases hn
    rw [e2] at hn
    injection hn with hn
    subst hn
    rw [e1]
    refine iteF ⟨_,rfl,_,rfl,d,_,rfl,by rw [<- e1]; exact dg,_,rfl,vl,_,rfl,.inl (SqL.of hvl),_,_,rfl,rfl,_,rfl,ite2 (fun c=>?_) (fun _=>?_)⟩
    · exfalso
      rw [decide_eq_true_eq,ev,List.length_append,List.length_reverse,List.length_reverse] at c
      omega
    refine ⟨_,rfl,_,rfl,d,_,rfl,by rw [<- e1]; exact dg,_,rfl,by omega,by omega,lc_range (lo:=0) (n:=(n':Int).toNat) (fun j τ ys H'=>But vl H H'/\H' vl=some (.lst (rest.reverse ++ (us.drop j).reverse))/\(∃ x,τ=[some (.str t),some (.ref d),some (.ref vl),none,x])/\ys=us.take j) ⟨.refl,by rw [List.drop_zero,<- ev]; exact hvl,⟨none,rfl⟩,rfl⟩ ?_ ?_⟩
    · rintro j τ ys H1 hj ⟨b1,h1,⟨x,rfl⟩,rfl⟩
      have hj':j < us.length:=by omega
      have ed:=List.drop_eq_getElem_cons hj'
      rw [ed,List.reverse_cons,<- List.append_assoc] at h1
      refine ⟨_,rfl,.inl ⟨rfl,_,SqL.of h1⟩,vl,_,us[j],rfl,rfl,h1,by simp,?_⟩
      rw [List.dropLast_concat]
      refine ⟨by rw [List.length_take]; omega,b1.trans .put,upd_same,⟨_,rfl⟩,?_⟩
      exact take_snoc (List.getElem?_eq_getElem hj')
    · rintro τ ys H1 ⟨b1,h1,_,rfl⟩ lp hlp
      rw [show (n':Int).toNat=us.length by omega,List.drop_length,List.reverse_nil,List.append_nil] at h1
      rw [show (n':Int).toNat=us.length by omega,List.take_length]
      have s2:=same_new (o:=.lst us) hlp
      refine ⟨_,rfl,_,rfl,lp,us,rfl,.inl ⟨SqL.of upd_same,fun q1 hq1=>⟨by show 2<=sizeLine; omega,fun p hp=>?_⟩⟩⟩
      have s3:=same_new (o:=.tup us) hq1
      have s4:=same_new (o:=.tup [.str t,.ref q1]) hp
      exact q _ p q1 (b1.trans (.of ((s2.trans s3).trans s4))) (s4 _ _ (s3 _ _ (s2 _ _ h1))) upd_same (s4 _ _ upd_same)
theorem scGrown:FnScope ["kinds","parts","known_sizes","values","thing"] ["kinds","parts"] (defScope sGrown):=⟨rfl,rfl,rfl,by decide +kernel,rfl,by decide +kernel,by decide +kernel⟩
theorem ok_grown (F:Fun K "grown" "grown" sGrown f fd) (mC:mg "NoValue"=some (.ref C)) (xC:XCl0 K C) (m_len:mg "len"=none) (m_isinstance:mg "isinstance"=none) (m_list:mg "list"=none) (m_str:mg "str"=none) (m_reversed:mg "reversed"=none) (GS:Ca P w K mg base CX0 1 "sizes" ["kinds"] spSizes) (GH:Ca P w K mg base (CXf P w) 1 "shape" ["tag","known_sizes","values"] (spShape C)) (GW:Ca P w K mg base CX0 1 "is_whole" ["thing"] spWholeB) (GI:Ca P w K mg base CX0 1 "in_bounds" ["number"] spIn):FnOk P w K mg base (CXf P w) 2 f fd ["kinds","parts"] (spGrown C):=by
  refine F.byx scGrown (fun vs H Q E h=>?_) (fun cdv A outer s H vs Q E hr h=>?_)
  · obtain ⟨pk,v,ks,rfl,_⟩:=h
    rfl
  obtain ⟨pk,v,ks,rfl,hK,hok,hq⟩:=h
  refine ⟨_,
    (jss_cons (js_if (jt_not (jt_val (je_fnB jc_isinst rfl m_isinstance PyProof.Rows.boot_isinstance (ja_c (jv 1) (ja_c (je_bltn (v:=.ty "list") rfl m_list PyProof.Rows.boot_list rfl) ja_nil))))) 
      (jss_one (js_raise0 xC hr rfl mC throwx))  jss_nil)
    (jss_cons (js_set (i:=2) scGrown.nd rfl (Or.inl rfl) (je_ca GS.upx hr rfl passx (ja_c (jv 0) ja_nil)))
    (jss_cons (js_set (i:=3) scGrown.nd rfl (Or.inl rfl) (je_lst ja_nil))
    (jss_cons (js_for ownx rfl (ji_rev rfl m_reversed (ja_c (jv 1) ja_nil)) (jg_name (i:=4) scGrown.nd rfl (Or.inl rfl))
      (jss_one (js_if (jt_val (je_fnB jc_isinst rfl m_isinstance PyProof.Rows.boot_isinstance (ja_c (jv 4) (ja_c (je_bltn (v:=.ty "str") rfl m_str PyProof.Rows.boot_str rfl) ja_nil)))) 
        (jss_one (js_expr (je_bm PySem.F.plainAttrs_list PySem.F.slot_list_append PySem.F.type_list_append jm_append (jv 3) (ja_c (je_ca GH hr rfl passx (ja_c (jv 4) (ja_c (jv 2) (ja_c (jv 3) ja_nil)))) ja_nil)))) 
        (jss_one (js_if (jW.pt (jw_and (jt_val (je_ca GW.upx hr rfl passx (ja_c (jv 4) ja_nil))) (jw_and1 (jt_val (je_ca GI.upx hr rfl passx (ja_c (jv 4) ja_nil)))))) 
          (jss_one (js_expr (je_bm PySem.F.plainAttrs_list PySem.F.slot_list_append PySem.F.type_list_append jm_append (jv 3) (ja_c (jv 4) ja_nil)))) 
          (jss_one (js_raise0 xC hr rfl mC throwx)))))))
    (jss_cons (js_if (jt_cmpR jo_ne (je_fnB jc_len_seq rfl m_len PySem.boot_len (ja_c (jv 3) ja_nil)) je_int (nomark _)) 
      (jss_one (js_raise0 xC hr rfl mC throwx))  jss_nil)
    (jss_one (js_ret (je_ix jx_list (jv 3) je_int (fun _ _=>rfl))))))))),?_⟩
  have sl:=line0
  rcases hq with ⟨hn,q⟩ | ⟨l,xs,rfl,hl,h300,hth,qE,qQ⟩
  · rcases hn with rfl | ⟨i,rfl⟩ | ⟨z,rfl⟩ | ⟨p,ys,rfl,hp,_⟩ | ⟨p,rfl,hp⟩
    · exact ⟨_,rfl,_,_,_,_,rfl,.non,rfl,_,rfl,iteT q⟩
    · exact ⟨_,rfl,_,_,_,_,rfl,.int _,rfl,_,rfl,iteT q⟩
    · exact ⟨_,rfl,_,_,_,_,rfl,.str _,rfl,_,rfl,iteT q⟩
    · exact ⟨_,rfl,_,_,_,_,rfl,.tup hp,rfl,_,rfl,iteT q⟩
    · exact ⟨_,rfl,_,_,_,_,rfl,.dK hp,rfl,_,rfl,iteT q⟩
  obtain ⟨kvs,ek⟩:∃ kvs,kvs=puts ks.flatten []:=⟨_,rfl⟩
  have hRm:Rm kvs:=by rw [ek]; exact hok.rm
  rw [<- ek] at qE qQ
  refine ⟨_,rfl,_,_,_,_,rfl,.lst hl,rfl,_,rfl,iteF ?_⟩
  refine ⟨_,rfl,pk,ks,rfl,hK,hok,fun H1 d s1 nd hd1=>?_⟩
  rw [<- ek] at hd1
  refine ⟨by show 0<=sizeLine; omega,fun vl hvl=>?_⟩
  have s2:=same_new (o:=.lst []) hvl
  have s02:=s1.trans s2
  have nvl:H vl=none:=s1.free hvl
  have nlv:l≠vl:=ne_of_none hl nvl
  have ndv:d≠vl:=ne_of_none hd1 hvl
  refine ⟨_,rfl,l,_,rfl,SqL.of (s02 _ _ hl),for_rev (xs:=xs) (fun i σ H'=>∃ (vals:List V) (vt:Option V),σ=[some (.ref pk),some (.ref l),some (.ref d),some (.ref vl),vt]/\But vl H1 H'/\Same H H'/\H' vl=some (.lst vals)/\hgt kvs (xs.drop (xs.length - i))=some vals.length/\vals.length<=i/\Pz kvs H' vals.reverse (xs.drop (xs.length - i))) ⟨[],none,rfl,.of s2,s02,upd_same,by rw [Nat.sub_zero,List.drop_length]; rfl,Nat.le_refl _,by rw [Nat.sub_zero,List.drop_length]; exact .nil⟩ ?_ ?_ ?_⟩
  · rintro i σ H' hi ⟨vals,vt,_,_,s',_⟩
    exact SqL.of (s' _ _ hl)
  · rintro i x σ H2 hx ⟨vals,vt,rfl,b2,sm,gv,hg,hle,hP⟩
    have hi:i < xs.length:=by
      have:=(List.getElem?_eq_some_iff.mp hx).1
      rw [List.length_reverse] at this
      exact this
    rw [List.getElem?_reverse hi] at hx
    have hdr:xs.drop (xs.length - (i + 1))=x :: xs.drop (xs.length - i):=by
      have h1:xs.length - (i + 1) < xs.length:=by omega
      rw [List.drop_eq_getElem_cons h1,show xs.length - (i + 1) + 1=xs.length - i by omega]
      congr 1
      rw [show xs.length - 1 - i=xs.length - (i + 1) by omega] at hx
      exact (List.getElem?_eq_some_iff.mp hx).2
    have bad:dl kvs x=none\/(∃ s,dl kvs x=some s/\vals.length < s)->∀ H',Same H H'->E (.ref C) none H':=fun hb=>qE (by
      have e:xs=xs.take (xs.length - (i + 1)) ++ xs.drop (xs.length - (i + 1)):=(List.take_append_drop ..).symm
      have hz:hgt kvs (xs.drop (xs.length - (i + 1)))=none:=by
        rw [hdr]
        show (match hgt kvs (xs.drop (xs.length - i)),dl kvs x with | some n,some s=>if s<=n then some (n - s + 1) else none | _,_=>none)=none
        rw [hg]
        rcases hb with z | ⟨s,z,z2⟩
        · rw [z]
        · rw [z]
          show (if s<=vals.length then _ else _)=none
          rw [if_neg (by omega)]
      rw [e,hgt_none hz]
      intro z
      cases z)
    have hl300:vals.length<=300:=by omega
    have fin:∀ (H':Hp) (y:V) (vals':List V) (s:Nat),dl kvs x=some s->s<=vals.length->But vl H2 H'->vals'.length + s=vals.length->H' vl=some (.lst (vals' ++ [y]))->Pz kvs H' (y :: vals'.reverse) (x :: xs.drop (xs.length - i))->∃ (vals:List V) (vt:Option V),[some (.ref pk),some (.ref l),some (.ref d),some (.ref vl),some x]=[some (.ref pk),some (.ref l),some (.ref d),some (.ref vl),vt]/\But vl H1 H'/\Same H H'/\H' vl=some (.lst vals)/\hgt kvs (xs.drop (xs.length - (i + 1)))=some vals.length/\vals.length<=i + 1/\Pz kvs H' vals.reverse (xs.drop (xs.length - (i + 1))):=fun H' y vals' s e1 e2 b3 e3 g P=>by
      refine ⟨_,_,rfl,b2.trans b3,But.fresh sm nvl b3,g,?_,by rw [List.length_append]; show _ + 1<=_; omega,by rw [hdr,List.reverse_append]; exact P⟩
      rw [hdr]
      show (match hgt kvs (xs.drop (xs.length - i)),dl kvs x with | some n,some s=>if s<=n then some (n - s + 1) else none | _,_=>none)=_
      rw [hg,e1]
      show (if s<=vals.length then some (vals.length - s + 1) else none)=_
      rw [if_pos e2,List.length_append]
      show some (vals.length - s + 1)=some (vals'.length + 1)
      rw [show vals.length - s + 1=vals'.length + 1 by omega]
    have gd2:H2 d=some (.dK kvs):=b2 _ _ ndv hd1
    obtain ⟨b,hT⟩:=hth x (List.mem_of_getElem? hx)
    have hT2:=hT.keep sm
    cases hT2 with
    | str z =>
      refine ⟨_,rfl,_,_,_,_,rfl,.str _,rfl,_,rfl,iteT ?_⟩
      have ez:dl kvs (.str z)=szOf kvs z:=rfl
      refine ⟨_,rfl,.inl ⟨rfl,_,SqL.of gv⟩,_,rfl,_,rfl,_,rfl,z,d,vl,kvs,vals,rfl,gd2,hRm,gv,hl300,?_⟩
      rcases hRm.sz (t:=z) with ⟨_,e2⟩ | ⟨n,_,e2,n9⟩
      · exact .inl ⟨.inl e2,bad (.inl (ez.trans e2)) _ sm⟩
      · rcases Nat.lt_or_ge vals.length n with c | c
        · exact .inl ⟨.inr ⟨n,e2,c⟩,bad (.inr ⟨n,ez.trans e2,c⟩) _ sm⟩
        · have ev:vals=((vals.reverse).drop n).reverse ++ ((vals.reverse).take n).reverse:=by
            rw [<- List.reverse_append,List.take_append_drop,List.reverse_reverse]
          have ul:((vals.reverse).take n).length=n:=by rw [List.length_take,List.length_reverse]; omega
          refine .inr ⟨n,(vals.reverse).take n,(vals.reverse).drop n,e2,ev,ul,fun H3 p qq b3 g3 gp gq=>?_⟩
          refine ⟨vl,_,_,rfl,rfl,g3,by rw [List.length_reverse,List.length_drop,List.length_reverse]; omega,?_⟩
          have t3:Tups H2 H3:=b3.tups gv
          have nb:But vl H3 (upd H3 vl (.lst (((vals.reverse).drop n).reverse ++ [V.ref p]))):=.put
          have t4:=nb.tups g3
          refine fin _ (.ref p) _ n (ez.trans e2) c (b3.trans nb) (by rw [List.length_reverse,List.length_drop,List.length_reverse]; omega) upd_same ?_
          have hP':=hP
          rw [<- List.take_append_drop n vals.reverse] at hP'
          obtain ⟨xs1,xs2,ex,p1,p2⟩:=hP'.split
          rw [ex,List.reverse_reverse]
          exact .shp (t4 _ _ gp) (t4 _ _ gq) (by rw [ul]; exact e2) (by omega) (p1.keep (t3.trans t4)) (p2.keep (t3.trans t4))
    | int j =>
      refine ⟨_,rfl,_,_,_,_,rfl,.int _,rfl,_,rfl,iteF ?_⟩
      refine ⟨_,rfl,_,_,rfl,.int j,_,rfl,iteT ⟨_,rfl,_,rfl,_,rfl,?_⟩⟩
      by_cases c:-1000000000000000000000000000000 < j/\j < 1000000000000000000000000000000
      · rw [decide_eq_true c]
        have ej:dl kvs (.int j)=some 0:=if_pos c
        refine iteT ⟨_,rfl,.inl ⟨rfl,_,SqL.of gv⟩,_,rfl,vl,_,_,rfl,rfl,gv,by omega,?_⟩
        have nb:But vl H2 (upd H2 vl (.lst (vals ++ [V.int j]))):=.put
        exact fin _ (.int j) vals 0 ej (Nat.zero_le _) nb rfl upd_same (.num c (hP.keep (nb.tups gv)))
      · rw [decide_eq_false c]
        have ej:dl kvs (.int j)=none:=if_neg c
        exact iteF (bad (.inl ej) _ sm)
    | bl j=>exact ⟨_,rfl,_,_,_,_,rfl,.bl _,rfl,_,rfl,iteF ⟨_,rfl,_,_,rfl,.bl j,_,rfl,iteF (iteF (bad (.inl rfl) _ sm))⟩⟩
    | non=>exact ⟨_,rfl,_,_,_,_,rfl,.non,rfl,_,rfl,iteF ⟨_,rfl,_,_,rfl,.non,_,rfl,iteF (iteF (bad (.inl rfl) _ sm))⟩⟩
    | lst h=>exact ⟨_,rfl,_,_,_,_,rfl,.lst h,rfl,_,rfl,iteF ⟨_,rfl,_,_,rfl,.lst h,_,rfl,iteF (iteF (bad (.inl rfl) _ sm))⟩⟩
    | tup h=>exact ⟨_,rfl,_,_,_,_,rfl,.tup h,rfl,_,rfl,iteF ⟨_,rfl,_,_,rfl,.tup h,_,rfl,iteF (iteF (bad (.inl rfl) _ sm))⟩⟩
    | dK h=>exact ⟨_,rfl,_,_,_,_,rfl,.dK h,rfl,_,rfl,iteF ⟨_,rfl,_,_,rfl,.dK h,_,rfl,iteF (iteF (bad (.inl rfl) _ sm))⟩⟩
  · rintro σ H2 ⟨vals,vt,rfl,b2,sm,gv,hg,hle,hP⟩
    rw [Nat.sub_self,List.drop_zero] at hg hP
    refine ⟨_,rfl,vl,_,rfl,.inl (SqL.of gv),rfl,_,rfl,ite2 (fun c=>?_) (fun c=>?_)⟩
    · refine qE (fun z=>?_) _ sm
      rw [hg] at z
      injection z with z
      rw [z] at c
      exact absurd c (by decide)
    · have h1:vals.length=1:=by
        by_cases z:vals.length=1
        · exact z
        · exfalso
          apply c
          simp
          omega
      match vals,h1 with
      | [y],_=>exact ⟨_,rfl,vl,_,_,_,rfl,rfl,SqL.of gv,atI_nat (j:=0) rfl,qQ hg _ y sm hP⟩
end
end GN
namespace K31
open PySem L2
open GN (sFault sWhole sIn sReck sRes)
theorem same_new {H:Hp} {p:Addr} (h:H p=none) (o:HO):Same H (upd H p o):=fun b u q=>by rw [upd_ne (ne_of_none q h)]; exact q
theorem t30:(10:Int) ^ (30:Int).toNat=1000000000000000000000000000000:=by decide
def Sm (i:Int):Prop:=-1000000000000000000000000000000 < i/\i < 1000000000000000000000000000000
set_option exponentiation.threshold 2000 in
theorem big_of {i:Int} (h:i.natAbs < 10 ^ 100):i.natAbs < BG:=Nat.lt_of_lt_of_le h (by unfold BG; decide +kernel)
theorem Sm.big {i:Int} (h:Sm i):i.natAbs < BG:=big_of (by unfold Sm at h; omega)
theorem ifT {b:Bool} {A B:Prop} (e:b=true) (h:A):if b=true then A else B:=by rw [if_pos e]; exact h
theorem ifF {b:Bool} {A B:Prop} (e:b=false) (h:B):if b=true then A else B:=by rw [if_neg (by rw [e]; decide)]; exact h
inductive Nu (H:Hp):V->Option Int->Prop
  | int {i:Int}:Sm i->Nu H (.int i) (some i)
  | tup {p:Addr} {xs:List V}:H p=some (.tup xs)->Nu H (.ref p) none
theorem Nu.keep {H H':Hp} {v:V} {o:Option Int} (s:Same H H') (h:Nu H v o):Nu H' v o:=by
  cases h with
  | int h=>exact .int h
  | tup h=>exact .tup (s _ _ h)
def res (w:Str) (i j:Int):Int:=if w="plus" then i + j else if w="minus" then i - j else if w="times" then i * j else if w="over" then i.fdiv j else if w="rest" then i.fmod j else if w="less" then (if i < j then 1 else 0) else (if i=j then 1 else 0)
def fw (w:Str):Option Int->Option Int->Str
  | some i,some j=>if j=0/\(w="over"\/w="rest") then "nought" else if -1000000000000000000000000000000 < res w i j/\res w i j < 1000000000000000000000000000000 then "" else "great"
  | _,_=>"nonumber"
theorem fw_ss (w:Str) (i j:Int):fw w (some i) (some j)=if j=0/\(w="over"\/w="rest") then ("nought":Str) else if -1000000000000000000000000000000 < res w i j/\res w i j < 1000000000000000000000000000000 then ("":Str) else ("great":Str):=rfl
def spWhole:Sp:=fun vs H Q _=>∃ v o,vs=[v]/\Nu H v o/\Q (.bl o.isSome) H
def spIn:Sp:=fun vs H Q _=>∃ i:Int,vs=[.int i]/\Q (.bl (decide (-1000000000000000000000000000000 < i/\i < 1000000000000000000000000000000))) H
def spRes:Sp:=fun vs H Q _=>∃ (w:Str) (i j:Int),vs=[.str w,.int i,.int j]/\Sm i/\Sm j/\(j=0->w≠"over"/\w≠"rest")/\Q (.int (res w i j)) H
def spFault (C:Addr):Sp:=fun vs H Q _=>∃ e v,vs=[.ref e,v]/\H e=some (XO e C none)/\∀ d,H d=none->d≠e->Q .non (upd (upd H d (XD d [("word",v)])) e (XO e C (some d)))
def spReck (C:Addr):Sp:=fun vs H Q E=>∃ (w:Str) (x y:V) (a b:Option Int),vs=[.str w,x,y]/\Nu H x a/\Nu H y b /\
  (fw w a b=""->∀ (i j:Int) (H':Hp),Same H H'->a=some i->b=some j->Q (.int (res w i j)) H')/\(fw w a b≠""->∀ d H',Same H H'->H' d=some (XD d [("word",.str (fw w a b))])->E (.ref C) (some d) H')
section
variable {P:Program} {w:World} {K:PySem.W.Frag} {mg:Str->Option Value} {base:Heap} {f R C:Addr} {fd:FuncData}
theorem scFault:FnScope ["self","word"] ["self","word"] (defScope sFault):=⟨rfl,rfl,rfl,by decide +kernel,rfl,by decide +kernel,by decide +kernel⟩
theorem ok_fault {fi:Addr} (F:Fun K "__init__" "Fault.__init__" sFault f fd) (xw:PySem.W.takerIn K C "word"=some none) (M:XCl K C fi) (B:XBase K R) (mR:mg "ReuseError"=some (.ref R)):FnOk P w K mg base CX0 1 f fd ["self","word"] (spFault C):=by
  refine F.by scFault (fun vs H Q E h=>?_) (fun cdv A' outer s H vs Q E hr h=>?_)
  · obtain ⟨e,v,rfl,_⟩:=h
    rfl
  obtain ⟨e,v,rfl,hX,q⟩:=h
  refine ⟨_,jss_cons (js_expr ⟨pe_xinit M B rfl mR (ja_c (jv 0) (ja_c (jv 1) ja_nil)).out⟩) (jss_one ⟨ps_xnew M (jv 0).out (jv 1).out⟩),?_⟩
  refine ⟨_,rfl,_,rfl,e,[v],none,rfl,by show 1<=sizeLine; decide,hX,?_⟩
  exact ⟨_,rfl,_,rfl,e,rfl,hX,xw,fun d hd ne=>q d hd ne⟩
theorem scWhole:FnScope ["thing"] ["thing"] (defScope sWhole):=⟨rfl,rfl,rfl,by decide +kernel,rfl,by decide +kernel,by decide +kernel⟩
theorem ok_whole (F:Fun K "is_whole" "is_whole" sWhole f fd) (m_isinstance:mg "isinstance"=none) (m_int:mg "int"=none) (m_bool:mg "bool"=none):FnOk P w K mg base CX0 1 f fd ["thing"] spWhole:=by
  refine F.by scWhole (fun vs H Q E h=>?_) (fun cdv A outer s H vs Q E hr h=>?_)
  · obtain ⟨v,o,rfl,_⟩:=h
    rfl
  obtain ⟨v,o,rfl,h,q⟩:=h
  refine ⟨_,
    (jss_one (js_ret (je_and (je_fnB jc_isinst rfl m_isinstance PyProof.Rows.boot_isinstance (ja_c (jv 0) (ja_c (je_bltn (v:=.ty "int") rfl m_int PyProof.Rows.boot_int rfl) ja_nil))) (je_one (je_not (je_fnB jc_isinst rfl m_isinstance PyProof.Rows.boot_isinstance (ja_c (jv 0) (ja_c (je_bltn (v:=.ty "bool") rfl m_bool PyProof.Rows.boot_bool rfl) ja_nil)))))))),?_⟩
  cases h with
  | int h=>exact ⟨_,rfl,_,_,_,_,rfl,.int _,rfl,_,rfl,iteT ⟨_,rfl,_,_,_,_,rfl,.int _,rfl,_,rfl,q⟩⟩
  | tup h=>exact ⟨_,rfl,_,_,_,_,rfl,.tup h,rfl,_,rfl,iteF q⟩
theorem scIn:FnScope ["number"] ["number"] (defScope sIn):=⟨rfl,rfl,rfl,by decide +kernel,rfl,by decide +kernel,by decide +kernel⟩
theorem ok_in (F:Fun K "in_bounds" "in_bounds" sIn f fd):FnOk P w K mg base CX0 1 f fd ["number"] spIn:=by
  refine F.by scIn (fun vs H Q E h=>?_) (fun cdv A outer s H vs Q E hr h=>?_)
  · obtain ⟨i,rfl,_⟩:=h
    rfl
  obtain ⟨i,rfl,q⟩:=h
  refine ⟨_,(jss_one (js_ret (je_chain jo_lt jo_lt (je_neg (je_op jo_pow je_int je_int)) (jv 0) (je_op jo_pow je_int je_int)))),?_⟩
  refine ⟨_,_,rfl,rfl,⟨by decide,by decide,by decide⟩,_,rfl,_,rfl,_,_,rfl,rfl,?_⟩
  rw [t30]
  by_cases c:-1000000000000000000000000000000 < i
  · refine ⟨_,rfl,itD c ?_⟩
    refine ⟨_,_,rfl,rfl,⟨by decide,by decide,by decide⟩,_,_,rfl,rfl,?_⟩
    rw [t30]
    have e:decide (-1000000000000000000000000000000 < i/\i < 1000000000000000000000000000000)=decide (i < 1000000000000000000000000000000):=by simp [c]
    rw [e] at q
    exact q
  · refine ⟨_,rfl,itDN c ?_⟩
    have e:decide (-1000000000000000000000000000000 < i/\i < 1000000000000000000000000000000)=false:=by simp [c]
    rw [e] at q
    exact q
theorem scRes:FnScope ["word","a","b","holds"] ["word","a","b"] (defScope sRes):=⟨rfl,rfl,rfl,by decide +kernel,rfl,by decide +kernel,by decide +kernel⟩
theorem ok_res (F:Fun K "result_of" "result_of" sRes f fd):FnOk P w K mg base CX0 1 f fd ["word","a","b"] spRes:=by
  refine F.by scRes (fun vs H Q E h=>?_) (fun cdv A outer s H vs Q E hr h=>?_)
  · obtain ⟨w,i,j,rfl,_⟩:=h
    rfl
  obtain ⟨w,i,j,rfl,hi,hj,hz,q⟩:=h
  refine ⟨_,
    (jss_cons (js_if (jt_cmpR jo_eq (jv 0) je_str (nomark _)) (jss_one (js_ret (je_op jo_add (jv 1) (jv 2)))) jss_nil)
    (jss_cons (js_if (jt_cmpR jo_eq (jv 0) je_str (nomark _)) (jss_one (js_ret (je_op jo_sub (jv 1) (jv 2)))) jss_nil)
    (jss_cons (js_if (jt_cmpR jo_eq (jv 0) je_str (nomark _)) (jss_one (js_ret (je_op jo_mulB (jv 1) (jv 2)))) jss_nil)
    (jss_cons (js_if (jt_cmpR jo_eq (jv 0) je_str (nomark _)) (jss_one (js_ret (je_op jo_fdivB (jv 1) (jv 2)))) jss_nil)
    (jss_cons (js_if (jt_cmpR jo_eq (jv 0) je_str (nomark _)) (jss_one (js_ret (je_op jo_modN (jv 1) (jv 2)))) jss_nil)
    (jss_cons (js_set (i:=3) scRes.nd rfl (Or.inl rfl) (je_ifExp (jt_cmpR jo_eq (jv 0) je_str (nomark _)) (je_cmpR jo_lt (jv 1) (jv 2) (nomark _)) (je_cmpR jo_eq (jv 1) (jv 2) (nomark _))))
    (jss_one (js_ret (je_ifExp (jt_val (jv 3)) je_int je_int))))))))),?_⟩
  unfold res at q
  have sE:∀ a b:Str,(V.str a=V.str b)=(a=b):=fun a b=>by simp
  refine ⟨_,rfl,rfl,_,rfl,?_⟩
  by_cases c1:w="plus"
  · rw [if_pos c1] at q
    rw [if_pos (by simp [c1])]
    exact ⟨_,rfl,_,rfl,_,_,rfl,rfl,q⟩
  rw [if_neg c1] at q
  rw [if_neg (by simp [c1])]
  refine ⟨_,rfl,rfl,_,rfl,?_⟩
  by_cases c2:w="minus"
  · rw [if_pos c2] at q
    rw [if_pos (by simp [c2])]
    exact ⟨_,rfl,_,rfl,_,_,rfl,rfl,q⟩
  rw [if_neg c2] at q
  rw [if_neg (by simp [c2])]
  refine ⟨_,rfl,rfl,_,rfl,?_⟩
  by_cases c3:w="times"
  · rw [if_pos c3] at q
    rw [if_pos (by simp [c3])]
    exact ⟨_,rfl,_,rfl,_,_,rfl,rfl,⟨hi.big,hj.big⟩,q⟩
  rw [if_neg c3] at q
  rw [if_neg (by simp [c3])]
  refine ⟨_,rfl,rfl,_,rfl,?_⟩
  by_cases c4:w="over"
  · rw [if_pos c4] at q
    rw [if_pos (by simp [c4])]
    exact ⟨_,rfl,_,rfl,_,_,rfl,rfl,⟨fun z=>(hz z).1 c4,hj.big⟩,q⟩
  rw [if_neg c4] at q
  rw [if_neg (by simp [c4])]
  refine ⟨_,rfl,rfl,_,rfl,?_⟩
  by_cases c5:w="rest"
  · rw [if_pos c5] at q
    rw [if_pos (by simp [c5])]
    exact ⟨_,rfl,_,rfl,_,_,rfl,rfl,(fun z=>(hz z).2 c5),q⟩
  rw [if_neg c5] at q
  rw [if_neg (by simp [c5])]
  refine ⟨_,rfl,rfl,_,rfl,?_⟩
  by_cases c6:w="less"
  · rw [if_pos c6] at q
    rw [if_pos (by simp [c6])]
    refine ⟨_,rfl,_,rfl,_,_,rfl,rfl,_,rfl,_,rfl,?_⟩
    by_cases c7:i < j
    · rw [if_pos c7] at q
      exact itD c7 q
    · rw [if_neg c7] at q
      exact itDN c7 q
  · rw [if_neg c6] at q
    rw [if_neg (by simp [c6])]
    refine ⟨_,rfl,_,rfl,rfl,_,rfl,_,rfl,?_⟩
    by_cases c7:i=j
    · rw [if_pos c7] at q
      rw [if_pos (by simp [c7])]
      exact q
    · rw [if_neg c7] at q
      rw [if_neg (by simp [c7])]
      exact q
theorem in_strs {x:Str}:∀ {l:List Str},inV (.str x) (l.map V.str)=decide (x∈l)
  | []=>rfl
  | y :: l=>by
    have ih:=in_strs (x:=x) (l:=l)
    unfold inV at ih ⊢
    rw [List.map_cons,List.any_cons,ih]
    show ((y == x) || decide (x∈l))=_
    by_cases e:y=x
    · subst e; simp
    · have e':(y == x)=false:=beq_eq_false_iff_ne.mpr e
      have e2:¬ x=y:=fun z=>e z.symm
      simp [e',e2]
theorem scReck:FnScope ["word","a","b","result"] ["word","a","b"] (defScope sReck):=⟨rfl,rfl,rfl,by decide +kernel,rfl,by decide +kernel,by decide +kernel⟩
theorem fw_none {w:Str} {a b:Option Int} (h:¬ (a.isSome=true/\b.isSome=true)):fw w a b="nonumber":=by
  cases a with
  | none=>rfl
  | some i =>
    cases b with
    | none=>rfl
    | some j=>exact absurd ⟨rfl,rfl⟩ h
theorem raised {C:Addr} {H:Hp} {E:XK} {v:V} (hE:∀ d H',Same H H'->H' d=some (XD d [("word",v)])->E (.ref C) (some d) H') (e:Addr) (he:H e=none) :
    spFault C [.ref e,v] (upd H e (XO e C none)) (fun u H2=>u=.non/\∃ dx,H2 e=some (XO e C dx)/\E (.ref C) dx (drp H2 e)) E0:=by
  refine ⟨e,v,rfl,upd_same,fun d hd hne=>⟨rfl,some d,upd_same,?_⟩⟩
  have hd':H d=none:=by rw [upd_ne hne] at hd; exact hd
  refine hE d _ (fun b u hb=>?_) ?_
  · rw [drp_ne (ne_of_none hb he),upd_ne (ne_of_none hb he),upd_ne (ne_of_none hb hd'),upd_ne (ne_of_none hb he)]
    exact hb
  · rw [drp_ne hne,upd_ne hne]
    exact upd_same
theorem ok_reck (F:Fun K "reckoned" "reckoned" sReck f fd) (GX:Xa P w K mg base 1 "Fault" C ["self","word"] (spFault C)) (GW:Ca P w K mg base CX0 1 "is_whole" ["thing"] spWhole) (GR:Ca P w K mg base CX0 1 "result_of" ["word","a","b"] spRes) (GI:Ca P w K mg base CX0 1 "in_bounds" ["number"] spIn):FnOk P w K mg base (CXf P w) 3 f fd ["word","a","b"] (spReck C):=by
  refine F.byx scReck (fun vs H Q E h=>?_) (fun cdv A outer s H vs Q E hr h=>?_)
  · obtain ⟨w,x,y,a,b,rfl,_⟩:=h
    rfl
  obtain ⟨w,x,y,a,b,rfl,hx,hy,q1,q2⟩:=h
  have hr1:Room 1 _:=hr.mono (by decide)
  refine ⟨_,
    (jss_cons (js_if (jW.pt (jw_or (jt_not (jt_val (je_ca GW.upx hr1 rfl passx (ja_c (jv 1) ja_nil)))) (jw_or1 (jt_not (jt_val (je_ca GW.upx hr1 rfl passx (ja_c (jv 2) ja_nil)))))))
      (jss_one (js_raise GX hr rfl throwx (ja_c je_str ja_nil))) jss_nil)
    (jss_cons (js_if (jW.pt (jw_and (jt_cmpR jo_eq (jv 2) je_int (nomark _)) (jw_and1 (jt_cmpR jo_in_seq (jv 0) (je_tup (ja_c je_str (ja_c je_str ja_nil))) (by with_unfolding_all rfl)))))
      (jss_one (js_raise GX hr rfl throwx (ja_c je_str ja_nil))) jss_nil)
    (jss_cons (js_set (i:=3) scReck.nd rfl (Or.inl rfl) (je_ca GR.upx hr1 rfl passx (ja_c (jv 0) (ja_c (jv 1) (ja_c (jv 2) ja_nil)))))
    (jss_cons (js_if (jt_not (jt_val (je_ca GI.upx hr1 rfl passx (ja_c (jv 3) ja_nil))))
      (jss_one (js_raise GX hr rfl throwx (ja_c je_str ja_nil))) jss_nil)
    (jss_one (js_ret (jv 3))))))),?_⟩
  have bad:∀ (z:Str) (H':Hp),Same H H'->fw w a b=z->z≠""->(tRaise C (spFault C) E (tCons (tC (.str z)) tNil):TS) { nx:=fun _ H'=>Q .non H',rt:=Q } (start ["word","a","b","result"] [.str w,x,y]) H':=fun z H' s' e hz=>by
    subst e
    refine ⟨by show 1<=sizeLine; decide,fun e he=>raised (fun d H2 s2 hd=>q2 hz d H2 (s'.trans s2) hd) e he⟩
  refine ⟨_,rfl,x,a,rfl,hx,_,rfl,?_⟩
  cases hx with
  | tup hx=>exact iteT (iteT (bad "nonumber" H (Same.refl _) (fw_none (by simp)) (by decide)))
  | @int i hi =>
    refine iteF ⟨_,rfl,y,b,rfl,hy,_,rfl,?_⟩
    cases hy with
    | tup hy=>exact iteT (bad "nonumber" H (Same.refl _) (fw_none (by simp)) (by decide))
    | @int j hj =>
      refine iteF ⟨_,rfl,rfl,_,rfl,?_⟩
      suffices tail:∀ (H1:Hp),Same H H1->¬ (j=0/\(w="over"\/w="rest"))->(tSeq _ _:TS) { nx:=fun _ H'=>Q .non H',rt:=Q } [some (.str w),some (.int i),some (.int j),none] H1 by
        by_cases hz:j=0
        · refine ifT (by simp [hz]) ?_
          refine ⟨_,rfl,by show 2<=sizeLine; decide,fun p hp=>⟨p,_,rfl,.inr (SqT.of upd_same),rfl,rfl,_,rfl,?_⟩⟩
          have e2:inV (.str w) [.str "over",.str "rest"]=decide (w∈(["over","rest"]:List Str)):=in_strs (l:=["over","rest"])
          have s1:=same_new (o:=.tup [.str "over",.str "rest"]) hp
          by_cases hw:w="over"\/w="rest"
          · refine ifT (e2.trans (decide_eq_true (by simpa using hw))) ?_
            exact bad "nought" _ s1 (by rw [fw_ss,if_pos ⟨hz,hw⟩]) (by decide)
          · refine ifF (e2.trans (decide_eq_false (by simpa using hw))) ?_
            exact tail _ s1 fun z=>hw z.2
        · refine ifF (by simp [hz]) ?_
          exact iteF (tail H (Same.refl _) fun z=>hz z.1)
      intro H1 s1 hn
      refine ⟨_,rfl,_,rfl,_,rfl,w,i,j,rfl,hi,hj,fun z=>⟨fun y=>hn ⟨z,.inl y⟩,fun y=>hn ⟨z,.inr y⟩⟩,?_⟩
      refine ⟨_,rfl,_,rfl,_,rfl,?_⟩
      by_cases c:-1000000000000000000000000000000 < res w i j/\res w i j < 1000000000000000000000000000000
      · rw [decide_eq_true c]
        refine iteF ⟨_,rfl,q1 ?_ i j H1 s1 rfl rfl⟩
        rw [fw_ss]
        rw [if_neg hn,if_pos c]
      · rw [decide_eq_false c]
        refine iteT ?_
        refine ⟨by show 1<=sizeLine; decide,fun e he=>?_⟩
        have e1:fw w (some i) (some j)="great":=by rw [fw_ss,if_neg hn,if_neg c]
        rw [e1] at q2
        exact raised (fun d H2 s2 hd=>q2 (by decide) d H2 (s1.trans s2) hd) e he
end
end K31
namespace L2
open PySem PySem.Spec PyProof.Rows
section
variable {X:Cx}
end
end L2
namespace L2
open PySem PySem.Spec PyProof.Rows
theorem keys_named:(["__module__","__name__","__qualname__","__doc__","__annotations__"]:List Str).contains ("keys":Str)=false:=by decide +kernel
theorem entry_pairs_loop:entryFor table "dict.update.loop"=some Builtin.«dict.update.loop»:=entryFor_of_tree (by kernel_rfl)
theorem plain_pairs_loop:plainId "dict.update.loop"=true:=by decide +kernel
section
variable {prog:Program} {w:World} {A:Around}
end
section
variable {X:Cx}
end
end L2
namespace L2
open PySem PySem.Spec PyProof.Rows
theorem miss_keysZ:typeLookup (.type "zip") "keys"=pure none:=am_miss_of_fast (by decide +kernel)
theorem zip_getattr_none:typeLookup (.type "zip") "__getattr__"=pure none:=by rw [typeLookup_type,builtinLookup_eq_fast]; kernel_rfl
theorem am_entry_zip_getattribute:entryFor table "zip.__getattribute__"=some Builtin.«object.__getattribute__» :=
  entryFor_alias (id':="object.__getattribute__") (by kernel_rfl) (by decide +kernel) (by decide +kernel) (by kernel_rfl)
theorem meets_getattribute_miss_zip (a:Addr) (fs:Array Value) (sl:Array (Option Value)) (name:Str) (u:Tok) (hmiss:typeLookup (.type "zip") name=pure none) (hname:(["__module__","__name__","__qualname__","__doc__","__annotations__"]:List Str).contains name=false) (hsz:name.length + 100<=sizeLine:=by size_fits) :
    Meets (Builtin.«object.__getattribute__» ⟨[.ref a,.str name u],[]⟩) (fun A R s=>s.heap.get? a=some { cls:=.type "zip",dict:=none,data:=.fields fs,slots:=sl }/\raisesAttr (.ref a) name A R s) :=
  Meets.of_wp fun prog w A R s hs=>by
    obtain ⟨hp,g,d,tk,os⟩:=s
    obtain ⟨hx,hs⟩:=hs
    have hT:(⟨hp,g,d,tk,os⟩:Shared).TypeIs (.ref a) "zip":=⟨_,hx,rfl⟩
    unfold Builtin.«object.__getattribute__»
    repeat (any_goals (first | assumption | wp_step))
    simp only [hname,Bool.false_eq_true,if_false]
    repeat (any_goals (first | assumption | wp_step))
    exact wpAny_raiseAttrError hs.1 hs.2 (attrMsg_fits (by decide +kernel) hsz)
section
variable {prog:Program} {w:World} {A:Around}
theorem keys_noneZ {E:Value->Shared->Prop} {s:Shared} {a:Addr} {fs:Array Value} {Q:Option Value->Shared->Prop} (hx:s.heap.get? a=some { cls:=.type "zip",data:=.fields fs }) (hA:A.handled=none)
    (h:∀ h' tk,(∀ b o,s.heap.get? b=some o->h'.get? b=some o)->Q none { s with heap:=h',toks:=tk }):wpAny (model prog w) A (getAttr? (.ref a) "keys") Q E s:=by
  obtain ⟨hp,g,d,tk,os⟩:=s
  have hT:∀ t',(⟨hp,g,d,t',os⟩:Shared).TypeIs (.ref a) "zip":=fun _=>⟨_,hx,rfl⟩
  have g1:=sub_AttributeError
  have g2:=PySem.F.slot_zip_getattribute.lookup
  have g3:=PySem.F.slot_zip_getattribute.bind (.ref a)
  have g4:=zip_getattr_none
  unfold getAttr? getAttrBy? getAttrBy
  repeat (any_goals (first | assumption | exact hT _ | ((with_reducible show wpAny _ _ (call (Value.builtin "zip.__getattribute__") _ _) _ _ _); refine call_meets PySem.F.slot_zip_getattribute (hT _) am_entry_zip_getattribute (PySem.F.args_zip_getattribute_2 _ _) (meets_getattribute_miss_zip a fs #[] "keys" _ miss_keysZ keys_named (by show 4 + 100<=sizeLine; decide)) ⟨hx,hA,fun h' tk' e hx'=>?_⟩) | wp_step))
  obtain ⟨t',u',he⟩:=hx'.there
  show wpAny _ _ (getattributeRaised _ _ _ _ _ _ _) _ _ _
  unfold getattributeRaised
  repeat (any_goals (first | assumption | wp_step))
  exact h _ _ hx'.keeps
theorem zpairs_loop {κ:Type} [DecidableEq κ] {knd:KeyKind prog w κ} {R:Result->Shared->Prop} {k m:Bool} {B l r D:Nat} {xs ys:Array Value} {more:List (κ × Value)} {res:Value} (hh:A.handled=none) (ll:l < B) (rl:r < B) (hD:B + 4 < D) (hz:more.length<=sizeLine) (hx:xs.size=more.length)
    (hp:∀ (j:Nat) k v,more[j]?=some (k,v)->∃ ku,xs[j]?=some ku/\ys[j]?=some v/\knd.is k ku=true) :
    ∀ (d i:Nat) (s:Shared) (f g:Value),more.length - i=d->i<=more.length->ZS k m s.heap B l r i f g->ZF B s.heap f g->Sq k s.heap l xs->Sq m s.heap r ys->D < s.heap.objs.size->s.heap.DictOf knd D (merged [] (more.take i)) ->
      (∀ h' tk,(∀ (b:Nat) o,(b < B\/B + 4 < b)->b≠D->s.heap.get? b=some o->h'.get? b=some o)->h'.DictOf knd D (merged [] more)->R (.ok (.ret res)) { s with heap:=h',toks:=tk }) ->
      codeAny (model prog w) A (.builtin "dict.update.loop" ⟨[.ref D,.ref (B + 4),rawInt i,res],[]⟩) R s:=by
  intro d
  induction d with
  | zero =>
    intro i s f g hm hi Z hf hl hr hs hd hR
    have e:i=more.length:=by omega
    refine codeAny_builtin entry_pairs_loop ?_
    rw [Around.under_plainId plain_pairs_loop _]
    show wpAny _ A.in1 (pyNext (.ref (B + 4)) >>= _) _ _ s
    refine wpAny_bind (zip_stop (A:=A.in1) hh Z hf hl hr ll rl (.inl (Array.getElem?_eq_none (by omega))) fun h' kz=>?_)
    show wpAny _ A.in1 (Builtin.Dict.addKeywords D [] >>= fun _=>ret res) _ _ _
    refine wpAny_bind (wpAny_pure (wpAny_pure ?_))
    rw [e,List.take_of_length_le (Nat.le_refl _)] at hd
    obtain ⟨o,es,ep,ho,hr'⟩:=hd
    exact hR h' s.toks (fun b o nb _ e'=>kz b o nb e') ⟨o,es,ep,kz _ _ (.inr hD) ho,hr'⟩
  | succ d ih =>
    intro i s f g hm hi Z hf hl hr hs hd hR
    have hlt:i < more.length:=by omega
    obtain ⟨kv,ekv⟩:∃ kv,more[i]?=some kv:=⟨_,List.getElem?_eq_getElem hlt⟩
    obtain ⟨ke,v⟩:=kv
    obtain ⟨ku,e1,e2,e3⟩:=hp i ke v ekv
    refine codeAny_builtin entry_pairs_loop ?_
    rw [Around.under_plainId plain_pairs_loop _]
    show wpAny _ A.in1 (pyNext (.ref (B + 4)) >>= _) _ _ s
    refine wpAny_bind (zip_step (A:=A.in1) Z hf hl hr ll rl e1 e2 fun h' T ct z hT p sz kz=>?_)
    show wpAny _ A.in1 (holding [Value.ref s.heap.objs.size] _ >>= _) _ _ _
    refine wpAny_bind (wpAny_holding (wpAny_bind (wpAny_tryCatch ?_)))
    unfold Builtin.Dict.pairItems
    refine wpAny_bind (wpAny_typeOf ⟨_,p,rfl⟩ ?_)
    rw [if_pos (by decide +kernel)]
    refine wpAny_bind ?_
    unfold seqItems?
    refine wpAny_bind (wpAny_load p ?_)
    refine wpAny_pure (wpAny_pure ?_)
    show wpAny _ A.in1 (holding [ku,v] (dictSet D ku v)) _ _ _
    have hd':h'.DictOf knd D (merged [] (more.take i)):=by
      obtain ⟨o,es,ep,ho,hr'⟩:=hd
      exact ⟨o,es,ep,kz _ _ (.inr hD) ho,hr'⟩
    have lz:(merged [] (more.take i)).length<=sizeLine:=by
      have:=merged_length_le [] (more.take i)
      rw [List.length_take] at this
      simp only [List.length_nil] at this
      omega
    refine wpAny_holding (wpAny_dictSet_pairs (hsz:=lz) e3 hd' fun h'' hd'' sb''=>?_)
    rw [<- merged_take_succ [] more i (ke,v) ekv] at hd''
    have up:∀ (b:Nat) o,b≠D->h'.get? b=some o->h''.get? b=some o:=fun b o nb e=>sb''.extBut b o nb e
    have sz'':s.heap.objs.size < h''.objs.size:=Heap.lt_size (up _ _ (Nat.ne_of_gt hs) p)
    refine wpAny_pure ⟨plainId_quiet plain_pairs_loop _,ih (i + 1) _ (rawInt T) (.bool ct) (by omega) hlt (z.at fun b o h1 h2 e=>up b o (by omega) e) ?_ ((hl.at fun o e=>kz _ o (by omega) e).at fun o e=>up _ o (by omega) e) ((hr.at fun o e=>kz _ o (by omega) e).at fun o e=>up _ o (by omega) e) (Nat.lt_trans hs sz'') hd'' fun h3 tk k3 d3=>?_⟩
    · rcases hT with e | ⟨lT,o,hT⟩
      · subst e
        exact .inr ⟨_,ct,_,rfl,rfl,up _ _ (Nat.ne_of_gt hs) p,by omega⟩
      · by_cases c:T=D
        · obtain ⟨o,es,ep,ho,_⟩:=hd''
          exact .inr ⟨T,ct,o,rfl,rfl,by rw [c]; exact ho,lT⟩
        · exact .inr ⟨T,ct,o,rfl,rfl,up _ _ c (kz _ _ (by omega) hT),lT⟩
    · exact hR h3 tk (fun b o b1 b2 e'=>k3 b o b1 b2 (up _ _ b2 (kz _ _ b1 e'))) d3
end
section
variable {X:Cx} {a b:Expr} {ta:TA} {p1 p2 pos1 pos2:Pos}
def zkv (ns:List Str) (ys:List V):List (Key × V):=(ns.zip ys).map fun p=>(.inr p.1,p.2)
def tDictZ (K:PySem.W.Frag) (ta:TA):TE:=fun σ H Q=>ta σ H fun vs H1=>∃ (a b:Addr) (ns:List Str) (ys:List V),vs=[.ref a,.ref b]/\(SqL K H1 a (ns.map V.str)\/SqT K H1 a (ns.map V.str))/\(SqL K H1 b ys\/SqT K H1 b ys)/\ns.length=ys.length/\ns.Nodup/\∀ d,H1 d=none->Q (.ref d) (upd H1 d (.dK (zkv ns ys)))
theorem zkv_keys {ns:List Str} {ys:List V} (h:ns.length=ys.length):(zkv ns ys).map (·.1)=ns.map Sum.inr:=by
  unfold zkv
  rw [List.map_map]
  have:((fun x=>x.1) ∘ fun (p:Str × V)=>((Sum.inr p.1:Key),p.2))=fun p=>(Sum.inr p.1:Key):=rfl
  rw [this]
  have e:=List.map_fst_zip (l₁:=ns) (l₂:=ys) (by omega)
  conv=>rhs; rw [<- e]
  rw [List.map_map]
  rfl
theorem pe_dictZ (hc:X.calm=true) (hgL:Gl X "dict") (hmL:X.mg "dict"=none) (hgZ:Gl X "zip") (hmZ:X.mg "zip"=none) (ha:PA X [a,b] ta)
    (h1:starEach [a,b] X.env=[(false,eval a X.env),(false,eval b X.env)]:=by rfl) (h2:starEach [b] X.env=[(false,eval b X.env)]:=by rfl):PE X (.Call (.Name "dict" p1) [.Call (.Name "zip" p2) [a,b] [] pos2] [] pos1) (tDictZ X.K ta):=by
  intro pins s σ H Q I h
  refine Call_ (ld_blt I hgL hmL PyProof.Rows.boot_dict (PyProof.Rows.callWith_type1 (Calls.spliced_cons (Call_ (ld_blt I hgZ hmZ boot_zip (PyProof.Rows.callWith_type1 (thn (ha pos2 pins s σ H _ I h) fun us s1 g=>?_) (by rw [h1,h2]) (by rw [h2]; rfl))))) rfl rfl))
  obtain ⟨vs,H1,I1,r1,a1,b1,ns,ys,rfl,hq1,hq2,ll,hn,q⟩:=g
  obtain ⟨u,u',rfl,e1,e2⟩:=vals2 r1
  cases e1
  cases e2
  obtain ⟨k1,i1,v1,q1,z1,l1⟩:=I1.sq hq1
  obtain ⟨k2,i2,v2,q2,z2,l2⟩:=I1.sq hq2
  refine zip_call q1 q2 fun h' Z sz kp=>Calls.spliced_nil ?_
  have hh:X.A.handled=none:=I1.ok.hd hc
  have n1:=v1.length
  have n2:=v2.length
  rw [List.length_map] at n1 z1
  have big:=I1.big
  obtain ⟨B,eB⟩:∃ B:Nat,B=s1.heap.objs.size:=⟨_,rfl⟩
  rw [<- eB] at Z sz l1 l2 ⊢
  obtain ⟨more,emore⟩:∃ more:List (Key × Value),more=(ns.zip i2).map fun p=>(.inr p.1,p.2):=⟨_,rfl⟩
  have lmore:more.length=ns.length:=by rw [emore,List.length_map,List.length_zip]; omega
  have hmore:∀ (j:Nat) k v,more[j]?=some (k,v)->∃ ku,i1.toArray[j]?=some ku/\i2.toArray[j]?=some v/\(mixKind X.prog X.w).is k ku=true:=fun j k v hj=>by
    rw [emore,List.getElem?_map] at hj
    obtain ⟨⟨n,v'⟩,hz,e⟩:=Option.map_eq_some_iff.mp hj
    cases e
    rw [List.getElem?_zip_eq_some] at hz
    obtain ⟨ku,hu,ru⟩:=v1.get (i:=j) (x:=.str n) (by rw [List.getElem?_map,hz.1]; rfl)
    obtain ⟨t,rfl⟩:=ru
    exact ⟨_,by simpa using hu,by simpa using hz.2,mixKind_str _ _ n t⟩
  have km:KV (zkv ns ys) more:=by
    have:∀ {ns:List Str} {ys:List V} {us:List Value},Vals ys us->ns.length=ys.length->KV (zkv ns ys) ((ns.zip us).map fun p=>((.inr p.1:Key),p.2)):=fun {ns ys us} hv hl=>by
      induction hv generalizing ns with
      | nil =>
        cases ns with
        | nil=>exact .nil
        | cons _ _=>simp at hl
      | cons r _ ih =>
        cases ns with
        | nil=>simp at hl
        | cons n ns=>exact .cons ⟨rfl,r⟩ (ih (by simpa using hl))
    rw [emore]
    exact this v2 ll
  have keys:more.map (·.1)=ns.map Sum.inr:=by
    rw [<- zkv_keys ll]
    have:∀ {a:List (Key × V)} {b:List (Key × Value)},KV a b->b.map (·.1)=a.map (·.1):=fun {a b} z=>by
      induction z with
      | nil=>rfl
      | cons h _ ih=>rw [List.map_cons,List.map_cons,h.1,ih]
    exact this km
  refine callType_codes (Q₁:=fun obj s₁=>obj=.ref h'.objs.size/\s₁={ s1 with heap:=h'.push { cls:=.type "dict",data:=.dict #[] } }) PySem.F.kt_called_dict (PySem.F.kt_typeCall_dict_1 _) PySem.F.entry_dict_init (kt_code_dict_new _ ⟨rfl,rfl⟩) ?_
  rintro obj s₁ ⟨rfl,rfl⟩
  have new:(h'.push { cls:=.type "dict",data:=.dict #[] }).DictOf (mixKind X.prog X.w) h'.objs.size []:=Heap.DictOf.new h'
  have Z1:ZS k1 k2 (h'.push { cls:=.type "dict",data:=.dict #[] }) B a1 b1 0 .none (.bool false):=Z.at fun b o _ _ e=>Heap.get?_push_of_some _ e
  refine ⟨new.typeIs,PySem.F.args_dict_init_2 _ _,?_⟩
  unfold Builtin.«dict.__init__»
  refine wpAny_bind ?_
  unfold Builtin.Dict.selfAndRest
  refine wpAny_bind (wpAny_notOrdered_dict new.typeIs ?_)
  show wpAny _ _ (pure (h'.objs.size,[Value.ref (B + 4)])) _ _ _
  refine wpAny_pure ?_
  show wpAny _ _ (Builtin.Dict.updateFrom "dict.__init__" h'.objs.size (.ref (B + 4)) [] .none) _ _ _
  unfold Builtin.Dict.updateFrom
  refine wpAny_bind (wpAny_typeOf ⟨_,Z1.z,rfl⟩ ?_)
  rw [if_pos (by decide +kernel)]
  refine wpAny_bind (keys_noneZ Z1.z hh fun h2 t2 k2'=>?_)
  rw [if_pos (show ((none:Option Value).isNone=true) from rfl)]
  have Z2:ZS k1 k2 h2 B a1 b1 0 .none (.bool false):=Z1.at fun b o _ _ e=>k2' _ _ e
  obtain ⟨o,es,ep,ho,hr⟩:=id new
  have ho1:=k2' _ _ ho
  have ltD:h'.objs.size < h2.objs.size:=Heap.lt_size ho1
  have kall:∀ b o,s1.heap.get? b=some o->h2.get? b=some o:=fun b o e=>k2' _ _ (Heap.get?_push_of_some _ (kp _ _ e))
  have ty:∀ t,Shared.TypeIs { s1 with heap:=h2,toks:=t } (.ref (B + 4)) "zip":=fun t=>⟨_,Z2.z,rfl⟩
  refine wpAny_bind (wpAny_rule (wpAny_bind (wpAny_pyIter_slot (ty _) PySem.F.slot_zip_iter (wpAny_call_entry PySem.F.slot_zip_iter (ty _) PySem.F.entry_zip_iter ?_ (PySem.F.args_zip_iter_1 _)))))
  show wpAny _ _ (ret (.ref (B + 4))) _ _ _
  refine wpAny_pure ⟨_,rfl,"zip",_,ty _,PySem.F.slot_zip_next.lookup,?_⟩
  refine wpAny_pure ⟨plainId_quiet plain_pairs_loop _,?_⟩
  refine zpairs_loop (A:=X.A.in1) (knd:=mixKind X.prog X.w) (B:=B) (xs:=i1.toArray) (ys:=i2.toArray) (more:=more) hh l1 l2 (by rw [sz]; omega) (by omega) (by rw [List.size_toArray]; omega) hmore more.length 0 _ _ _ (by omega) (Nat.zero_le _) Z2 (.inl rfl) (q1.at fun o e=>kall _ o e) (q2.at fun o e=>kall _ o e) ltD ⟨o,es,ep,ho1,hr⟩ (fun h3 tk kk dd=>?_)
  rw [merged_nil_of_nodup more (by rw [keys]; exact List.Pairwise.map _ (fun i j (ne:i≠j) e=>ne (Sum.inr.inj e)) hn)] at dd
  have hk:∀ b o,s1.heap.get? b=some o->h3.get? b=some o:=fun b o e=>by
    have lb:b < B:=by rw [eB]; exact Heap.lt_size e
    exact kk b o (.inl lb) (Nat.ne_of_lt (Nat.lt_of_lt_of_le lb (by rw [sz]; exact Nat.le_add_right _ _))) (kall _ _ e)
  refine ⟨rfl,.ref h'.objs.size,_,I1.laid (t':=tk) hk (by rw [sz,eB]; exact Nat.le_add_right _ _) (show ObjOk X.prog X.w _ h3 _ (.dK (zkv ns ys)) from ⟨by rw [Paired.length km]; omega,?_,more,km,dd⟩),rfl,q _ (I1.hok.fresh (by rw [sz,eB]; exact Nat.le_add_right _ _))⟩
  exact beq_eq_false_iff_ne.mpr (fun e=>by rw [sz,eB] at e; rw [<- e] at big; exact absurd big (Nat.not_lt.mpr (Nat.le_add_right _ _)))
theorem je_dictZ (hc:X.calm=true) (hgL:Gl X "dict") (hmL:X.mg "dict"=none) (hgZ:Gl X "zip") (hmZ:X.mg "zip"=none) (ha:jA X [a,b] ta) (h1:isStar a=false:=by rfl) (h2:isStar b=false:=by rfl) :
    jE X (.Call (.Name "dict" p1) [.Call (.Name "zip" p2) [a,b] [] pos2] [] pos1) (tDictZ X.K ta):=⟨pe_dictZ hc hgL hmL hgZ hmZ ha.out (by rw [star_cons h1,star_cons h2]; rfl) (by rw [star_cons h2]; rfl)⟩
end
end L2
namespace L2
open PySem PySem.Spec PyProof.Rows
abbrev Cx.plusP (X:Cx) (pins:List (Addr × Obj)):Cx:={ X with pn:=X.pn ++ pins }
section
variable {X:Cx} {Ch:Addr} {x:Str} {np hpos tpos:Pos} {b0:Stmt} {suite body:List Stmt} {th:Addr->Obj->TS} {tb:XK->TS}
theorem Inv.ofPlus {pins pins':List (Addr × Obj)} {σ:St} {H:Hp} {s:Shared} (ok:X.Ok) (I:Inv (X.plusP pins) pins' σ H s):Inv X (pins ++ pins') σ H s :=
  ⟨ok,I.os,I.bare,I.base,I.loc,I.cell,I.free,I.freeC,fun q hq=>I.pin q (by simpa using hq),I.hok,I.len⟩
theorem Inv.few {pins pins':List (Addr × Obj)} {σ:St} {H:Hp} {s:Shared} (I:Inv X (pins ++ pins') σ H s):Inv X pins σ H s :=
  ⟨I.ok,I.os,I.bare,I.base,I.loc,I.cell,I.free,I.freeC,fun q hq=>I.pin q (by rw [<- List.append_assoc]; exact List.mem_append_left _ hq),I.hok,I.len⟩
end
end L2
namespace L2
open PySem PySem.Spec PyProof.Rows
def HB (X:Cx) (hs:List ExceptHandler) (Tk:Ends->XK):Prop:=∀ (pins:List (Addr × Obj)) (σ:St) (D:Ends) (e:Addr) (C:Value) (dx:Option Addr) (H':Hp) (T:Addr) (s:Shared),Tr s.heap e C dx T .none->Inv X pins σ H' s->H' e=none->H' T=none->X.s₀.heap.objs.size<=T->(∀ p∈X.pn ++ pins,p.1≠T)->Tk D C dx H' ->
  wpAny (model X.prog X.w) X.A (handleBy (.ref e) X.env hs) (SP X pins D) X.xe s
def xN (K:PySem.W.Frag) (Ch:Addr) (i n:Nat) (th:Addr->Obj->TS) (Tk:Ends->XK):Ends->XK:=fun D C dx H =>
  (PySem.W.exmOne K C (.ref Ch)=some true/\∀ (e:Addr) (oe:Obj) (vs:Array Value) (σ:St),σ.length=n->oe.cls=C->oe.dict=dx->oe.data=.fields vs->vs[2]?=some .none->H e=none->th e oe (D.behind i) (σ.set i (some (.ref e))) H)\/(PySem.W.exmOne K C (.ref Ch)=some false/\Tk D C dx H)
def xNil:Ends->XK:=fun _ _ _ _=>False
section
variable {X:Cx} {Ch:Addr} {x n:Str} {i:Nat} {np hpos tpos:Pos} {b0:Stmt} {suite body:List Stmt} {th:Addr->Obj->TS} {tb:XK->TS} {h0:ExceptHandler} {hs:List ExceptHandler} {Tk:Ends->XK}
theorem hb_nil:HB X [] xNil:=fun _ _ _ _ _ _ _ _ _ _ _ _ _ _ _ h=>False.elim h
theorem hb_as (R:HB X hs Tk) (hN:X.N.Nodup) (hi:X.N[i]?=some n) (hg:Gl X x) (hm:X.mg x=some (.ref Ch)) (hS:∀ e oe,jSs (X.inEx (.ref e) [(e,oe)]) (b0 :: suite) (th e oe)) (hl:X.env.scope.names.lookup n=some .local:=by rfl) (hdb:(x == ("__debug__":Str))=false:=by decide) :
    HB X (.ExceptHandler (some (.Name x np)) (some n) (b0 :: suite) hpos :: hs) (xN X.K Ch i X.N.length th Tk):=by
  intro pins σ D e C dx H' T s t J ne nT sT pT h
  obtain ⟨oe,vs,g1,g2,g3,g4,g5⟩:=t.ex
  have Jm:Inv (X.inEx (.ref e) []) pins σ H' s:=J.inEx (.ref e) fun q hq=>nomatch hq
  have LT:PySem.W.Looks (model X.prog X.w) s.heap (typeOf (.ref e)) C:=g2 ▸ (PySem.W.Looks.ld g1).andThen .now
  refine wpAny_handleBy_cons (codeAny_handlers_test (ld_glob Jm hg hm ?_ hdb)) (by intro q; cases q)
  rcases h with ⟨hex,hth⟩ | ⟨hex,hn⟩
  · refine PySem.W.Looks.here (PySem.W.exm_one (K:=X.K) J.kIn LT hex) ?_
    refine codeAny_handlers_suite_as (fly_set (v:=none) t fun h3 t3 m3=>?_)
    have J3:Inv X pins σ H' { s with heap:=h3 }:=Inv.moved J (m3.mono (fun b z=>nomatch z) fun _ z=>z) fun b hb=>by
      rw [List.mem_singleton.mp hb]
      obtain ⟨ot,ts,q1,q2,_⟩:=t.tb
      exact ⟨nT,.inr sT,(J.apart q1 q2).1,(J.apart q1 q2).2,pT⟩
    obtain ⟨oe3,vs3,a1,a2,a3,a4,a5⟩:=t3.ex
    have ap:=Inv.apart (s:={ s with heap:=h3 }) J3 a1 a4
    have J4:Inv (X.inEx (.ref e) [(e,oe3)]) pins σ H' { s with heap:=h3 }:=J3.inEx (.ref e) fun q hq=>by
      rw [List.mem_singleton.mp hq]
      exact ⟨a1,ne,ap.1,fun z=>by
        obtain ⟨_,o,ho,nf⟩:=J3.funs.mem z
        have ho':h3.get? e=some o:=ho
        rw [a1] at ho'
        cases ho'
        exact nf vs3 a4,fun v z=>by rw [a4] at z; cases z⟩
    refine store_ok (X:=X.inEx (.ref e) [(e,oe3)]) (v:=.ref e) J4 hN hi (.inl hl) rfl (fun s4 J5=>?_) (.inr hl)
    refine wpAny_mono ((hS e oe3).out pins s4 _ H' (D.behind i) J5 (hth e oe3 vs3 _ J3.len a2 a3 a4 a5.2 ne)) (fun f s5 q=>?_) fun _ _ z=>False.elim z
    cases f with
    | next =>
      obtain ⟨σ',H5,I5,q⟩:=q
      exact unbind_ok (I5.outEx J.ok) hN hi hl fun s6 I6=>⟨_,_,I6,q⟩
    | brk =>
      obtain ⟨σ',H5,I5,q⟩:=q
      exact unbind_ok (I5.outEx J.ok) hN hi hl fun s6 I6=>⟨_,_,I6,q⟩
    | cont =>
      obtain ⟨σ',H5,I5,q⟩:=q
      exact unbind_ok (I5.outEx J.ok) hN hi hl fun s6 I6=>⟨_,_,I6,q⟩
    | ret w =>
      obtain ⟨v,σ',H5,I5,r,q⟩:=q
      exact unbind_ok (I5.outEx J.ok) hN hi hl fun s6 I6=>⟨v,_,_,I6,r,q⟩
  · refine PySem.W.Looks.here (PySem.W.exm_one (K:=X.K) J.kIn LT hex) ?_
    exact R pins σ D e C dx H' T s t J ne nT sT pT hn
theorem catch_okL {pins:List (Addr × Obj)} {σ:St} {D:Ends} {u:Value} {s':Shared} (hst:X.stack=X.env :: X.outer) (hf:X.env.frame=some X.env.locals) (R:HB X hs Tk)
    (h:Air X pins σ (Tk D) u s') :
    wpAny (model X.prog X.w) X.A (noteFrame u X.env) (fun _ s2=>wpAny (model X.prog X.w) X.A (setFlight u none) (fun _ s3=>wpAny (model X.prog X.w) X.A (handleBy u X.env hs) (SP X pins D) X.xe s3) X.xe s2) X.xe s':=by
  obtain ⟨e,C,dx,H',k,rfl,I,ne,hk,he,hp,st,hth⟩:=h
  have fr:X.A.frames=some (X.env :: X.outer):=hst ▸ I.ok.frames
  have fs:s'.heap.FunFrames X.base (X.env :: X.outer):=hst ▸ I.stack
  have pk:∀ b,k<=b->∀ p∈X.pn ++ pins,p.1≠b:=fun b hb p q z=>absurd (Nat.lt_of_lt_of_le (hp p q) hb) (by rw [z]; exact Nat.lt_irrefl _)
  have two:∀ (h1:Heap) (T:Addr) (xs:List Addr),Tr h1 e C dx T (rawInt X.env.locals)->Mv ((X.env :: X.outer).filterMap (·.frame)) xs s'.heap h1->(∀ b∈xs,H' b=none/\X.s₀.heap.objs.size<=b/\(∀ p∈X.pn ++ pins,p.1≠b)/\∃ o vs,s'.heap.get? b=some o/\o.data=.fields vs)->s'.heap.objs.size<=T ->
      wpAny (model X.prog X.w) X.A (setFlight (.ref e) none) (fun _ s3=>wpAny (model X.prog X.w) X.A (handleBy (.ref e) X.env hs) (SP X pins D) X.xe s3) X.xe { s' with heap:=h1 }:=by
    intro h1 T xs t m hxs hT
    have J1:Inv X pins σ H' { s' with heap:=h1 }:=I.moved (hst ▸ m) fun b hb=>by
      obtain ⟨r1,r2,r3,o,vs,r4,r5⟩:=hxs b hb
      exact ⟨r1,.inr r2,(I.apart r4 r5).1,(I.apart r4 r5).2,r3⟩
    have nT:H' T=none:=I.hok.fresh hT
    have sT:X.s₀.heap.objs.size<=T:=Nat.le_trans I.sz hT
    have pT:∀ p∈X.pn ++ pins,p.1≠T:=fun p q z=>absurd (Nat.lt_of_lt_of_le (Heap.lt_size (I.pin p q).1) hT) (by rw [z]; exact Nat.lt_irrefl _)
    refine fly_set (s:={ s' with heap:=h1 }) (v:=none) t fun h2 t2 m2=>R pins σ D e C dx H' T { s' with heap:=h2 } t2 (Inv.moved (s:={ s' with heap:=h1 }) J1 (m2.mono (fun b z=>nomatch z) fun _ z=>z) fun b hb=>?_) ne nT sT pT hth
    rw [List.mem_singleton.mp hb]
    obtain ⟨ot,ts,q1,q2,_⟩:=t.tb
    exact ⟨nT,.inr sT,(J1.apart q1 q2).1,(J1.apart q1 q2).2,pT⟩
  rcases st with ⟨oe,vs,h1,rfl,rfl,h4,h5,h6⟩ | ⟨T0,t0,n0,s0⟩
  · refine fly_first fr fs hf h1 h4 h5 h6 fun h' T hs t m=>two h' T [e] t m (fun b hb=>?_) hs
    rw [List.mem_singleton.mp hb]
    exact ⟨ne,Nat.le_trans hk he,pk e he,oe,vs,h1,h4⟩
  · refine fly_next fr fs hf t0 fun h' T hs t m=>two h' T [e,T0] t m (fun b hb=>?_) hs
    rcases List.mem_cons.mp hb with r | hb
    · rw [r]
      obtain ⟨oe,vs,q1,_,_,q4,_⟩:=t0.ex
      exact ⟨ne,Nat.le_trans hk he,pk e he,oe,vs,q1,q4⟩
    · rw [List.mem_singleton.mp hb]
      obtain ⟨ot,ts,q1,q2,_⟩:=t0.tb
      exact ⟨n0,Nat.le_trans hk s0,pk T0 s0,ot,ts,q1,q2⟩
end
end L2
namespace L2
open PySem PySem.Spec PyProof.Rows
def onW (X:Cx) (pins:List (Addr × Obj)) (hs:List ExceptHandler) (D:Ends):Value->Shared->Prop:=fun u s2=>wpAny (model X.prog X.w) X.A (setFlight u none) (fun _ s3=>wpAny (model X.prog X.w) X.A (handleBy u X.env hs) (SP X pins D) X.xe s3) X.xe s2
abbrev Cx.inTryW (X:Cx) (pins:List (Addr × Obj)) (hs:List ExceptHandler) (D:Ends):Cx:={ X with pn:=X.pn ++ pins,xe:=fun u s'=>wpAny (model X.prog X.w) X.A (noteFrame u X.env) (fun _ s2=>onW X pins hs D u s2) X.xe s' }
section
variable {X:Cx} {tpos:Pos} {body:List Stmt} {tb:Ends->TS} {h0:ExceptHandler} {hs:List ExceptHandler} {Tk:Ends->XK}
theorem Inv.toTryW {pins:List (Addr × Obj)} {σ:St} {H:Hp} {s:Shared} {D:Ends} (I:Inv X pins σ H s):Inv (X.inTryW pins hs D) [] σ H s :=
  ⟨⟨I.ok.mod,I.ok.kind,I.ok.glob,I.ok.blt,I.ok.above,I.ok.inj,I.ok.has,I.ok.cab,I.ok.hd,I.ok.frames,I.ok.stk,I.ok.exf,I.ok.bs,I.ok.bsz,I.ok.noex,I.ok.exfs,I.ok.funs,I.ok.frf⟩,I.os,I.bare,I.base,I.loc,I.cell,I.free,I.freeC,fun q hq=>I.pin q (by simpa using hq),I.hok,I.len⟩
theorem Inv.ofTryW {pins:List (Addr × Obj)} {σ:St} {H:Hp} {s:Shared} {D:Ends} (ok:X.Ok) (I:Inv (X.inTryW pins hs D) [] σ H s):Inv X pins σ H s :=
  ⟨ok,I.os,I.bare,I.base,I.loc,I.cell,I.free,I.freeC,fun q hq=>I.pin q (by simpa using hq),I.hok,I.len⟩
theorem own_tryW {pins:List (Addr × Obj)} {D:Ends}:PassesOwn (model (X.inTryW pins hs D).prog (X.inTryW pins hs D).w) (X.inTryW pins hs D).A (X.inTryW pins hs D).env (X.inTryW pins hs D).xe:=PassesOwn.looking
theorem pass_tryW {pins:List (Addr × Obj)} {D:Ends} (R:HB X hs Tk) (ok:X.Ok) (hst:X.stack=X.env :: X.outer:=by rfl) (hf:X.env.frame=some X.env.locals:=by rfl):Passes (CXf X.prog X.w) (X.inTryW pins hs D) (Tk D):=fun pins' σ H1 s1 u s2 I h=>by
  have I0:Inv (X.plusP pins) pins' σ H1 s1:=⟨⟨I.ok.mod,I.ok.kind,I.ok.glob,I.ok.blt,I.ok.above,I.ok.inj,I.ok.has,I.ok.cab,I.ok.hd,I.ok.frames,I.ok.stk,I.ok.exf,I.ok.bs,I.ok.bsz,I.ok.noex,I.ok.exfs,I.ok.funs,I.ok.frf⟩,I.os,I.bare,I.base,I.loc,I.cell,I.free,I.freeC,I.pin,I.hok,I.len⟩
  obtain ⟨e,C,dx,H',k,rfl,I5,ne,hk,he,hp,st,hE⟩:=air_of (X:=X.plusP pins) rfl rfl I0 h
  have a:Air X (pins ++ pins') σ (Tk D) (.ref e) s2:=⟨e,C,dx,H',k,rfl,I5.ofPlus ok,ne,hk,he,fun p q=>hp p (by simpa using q),st,hE⟩
  have g:=catch_okL hst hf R a
  have sp:∀ f s3,SP X (pins ++ pins') D f s3->SP X pins D f s3:=fun f s3 q=>by
    cases f with
    | next=>obtain ⟨σ',H5,I5,q⟩:=q; exact ⟨_,_,I5.few,q⟩
    | brk=>obtain ⟨σ',H5,I5,q⟩:=q; exact ⟨_,_,I5.few,q⟩
    | cont=>obtain ⟨σ',H5,I5,q⟩:=q; exact ⟨_,_,I5.few,q⟩
    | ret w=>obtain ⟨v,σ',H5,I5,r,q⟩:=q; exact ⟨v,_,_,I5.few,r,q⟩
  exact wpAny_mono g (fun _ s2 q=>wpAny_mono q (fun _ s3 q=>wpAny_mono q sp fun _ _ z=>z) fun _ _ z=>z) fun _ _ z=>z
def tTryW (tb:Ends->TS):TS:=fun D σ H=>tb D D σ H
theorem js_tryW (hb:∀ pins D,X.Ok->jSs (X.inTryW pins (h0 :: hs) D) body (tb D)):jS X (.Try body (h0 :: hs) [] [] tpos) (tTryW tb):=by
  constructor
  intro pins s σ H D I h
  refine wpAny_Try_except (wpAny_mono ((hb pins D I.ok).out [] s σ H D I.toTryW h) (fun f s1 q=>?_) (fun u s1 q=>q))
  cases f with
  | next =>
    obtain ⟨σ',H5,I5,q⟩:=q
    exact wpAny_execs_nil ⟨_,_,I5.ofTryW I.ok,q⟩
  | brk =>
    obtain ⟨σ',H5,I5,q⟩:=q
    exact ⟨_,_,I5.ofTryW I.ok,q⟩
  | cont =>
    obtain ⟨σ',H5,I5,q⟩:=q
    exact ⟨_,_,I5.ofTryW I.ok,q⟩
  | ret w =>
    obtain ⟨v,σ',H5,I5,r,q⟩:=q
    exact ⟨v,_,_,I5.ofTryW I.ok,r,q⟩
def tTryWh (tc:TT) (tb:Ends->TS):TS:=fun D σ H=>tWhile tc (tb D) D σ H
theorem js_tryWh {c:Expr} {sts:List Stmt} {wpos:Pos} {tc:TT} (hc:∀ pins D,X.Ok->jT (X.inTryW pins (h0 :: hs) D) c tc) (hb:∀ pins D,X.Ok->jSs (X.inTryW pins (h0 :: hs) D) sts (tb D)):jS X (.Try [.While c sts [] wpos] (h0 :: hs) [] [] tpos) (tTryWh tc tb) :=
  js_tryW (tb:=fun D=>tWhile tc (tb D)) fun pins D ok=>jss_one (js_while own_tryW (hc pins D ok) (hb pins D ok))
end
end L2
namespace PySem.W
open PySem PySem.Spec PySem.Calls PyProof.Rows
section
variable {prog:Program} {w:World} {A:Around} {E:Value->Shared->Prop} {s:Shared} {K:Frag} {e C:Addr} {ox:Obj} {od:Option Obj}
end
end PySem.W
namespace L2
open PySem PySem.Spec PyProof.Rows
inductive ClsV:V->Value->Prop where
  | ref (C:Addr):ClsV (.ref C) (.ref C)
  | ty (T:String):ClsV (.ty T) (.type T)
theorem ClsV.un {D:V} {c c':Value} (h:ClsV D c) (r:RelV D c'):c'=c:=by
  cases h with
  | ref C=>cases r; rfl
  | ty T=>cases r; rfl
inductive ClsVs:List V->List Value->Prop where
  | nil:ClsVs [] []
  | cons {D:V} {c:Value} {Ds:List V} {cs:List Value} (h:ClsV D c) (t:ClsVs Ds cs):ClsVs (D :: Ds) (c :: cs)
theorem ClsVs.un {Ds:List V} {cs:List Value} (h:ClsVs Ds cs):∀ {us:List Value},Vals Ds us->us=cs:=by
  induction h with
  | nil=>intro us r; cases r; rfl
  | cons a _ ih=>intro us r; cases r with
    | cons p q=>rw [a.un p,ih q]
inductive Asked (K:PySem.W.Frag) (t:Value) (H:Hp):V->Bool->Prop where
  | one {D:V} {c:Value} {b:Bool} (h:ClsV D c) (e:PySem.W.kitOne K t c=some b):Asked K t H D b
  | tup {tp:Addr} {Ds:List V} {cs:List Value} {b:Bool} (ht:H tp=some (.tup Ds)) (h:ClsVs Ds cs) (e:PySem.W.kitAny K t cs=some b):Asked K t H (.ref tp) b
section
variable {X:Cx} {e C d:Addr} {oe:Obj} {pins:List (Addr × Obj)} {s:Shared} {σ:St} {H:Hp} {od:Option Obj} {D:V} {b:Bool} {u:Value} {Q:VK}
end
section
variable {X:Cx} {k:Nat} {C f:Addr} {ps:List Str} {sp:Sp} {x name:Str} {np cpos pos:Pos} {a ex:Expr} {as:List Expr} {t:TA} {te:TE}
end
end L2
namespace GN
open PySem L2 K11
theorem nxt {D:Ends} {σ:St} {H:Hp} (h:D.nx σ H):tNext D σ H:=h
theorem iteT' {b:Bool} {A B:Prop} (e:b=true) (h:A):if b=true then A else B:=by rw [if_pos e]; exact h
theorem iteF' {b:Bool} {A B:Prop} (e:b=false) (h:B):if b=true then A else B:=by rw [if_neg (by rw [e]; decide)]; exact h
def KX (S:List Addr) (H H':Hp):Prop:=∀ b o,b ∉ S->H b=some o->H' b=some o
section
variable {S S':List Addr} {H H1 H2:Hp} {a:Addr} {o:HO}
theorem KX.refl:KX S H H:=fun _ _ _ h=>h
theorem KX.trans (x:KX S H H1) (y:KX S H1 H2):KX S H H2:=fun b o n h=>y b o n (x b o n h)
theorem KX.mono (x:KX S H H1) (h:∀ b∈S,b∈S'):KX S' H H1:=fun b o n q=>x b o (fun z=>n (h b z)) q
theorem KX.of (h:Same H H1):KX S H H1:=fun b o _ q=>h b o q
theorem KX.put (x:KX S H H1) (h:a∈S):KX S H (upd H1 a o):=fun b u n q=>by
  rw [upd_ne (fun z=>n (by rw [z]; exact h))]
  exact x b u n q
theorem KX.putN (x:KX S H H1) (h:H a=none):KX S H (upd H1 a o):=fun b u n q=>by
  rw [upd_ne (ne_of_none q h)]
  exact x b u n q
theorem KX.new (x:KX S H H1) (h:H1 a=none):KX S H (upd H1 a o):=fun b u n q=>by
  have:=x b u n q
  rw [upd_ne (ne_of_none this h)]
  exact this
end
inductive Dd
  | num (i:Int)
  | op (w a b:Str)
  | mk (t:Str) (ns:List Str)
def IsDd (H:Hp):Dd->Addr->Prop
  | .num i,p=>H p=some (.tup [.str "num",.int i])
  | .op w a b,p=>H p=some (.tup [.str "op",.str w,.str a,.str b])
  | .mk t ns,p=>∃ q,H p=some (.tup [.str "make",.str t,.ref q])/\H q=some (.tup (ns.map V.str))
theorem IsDd.keep {H H':Hp} (t:Tups H H'):∀ {d:Dd} {p:Addr},IsDd H d p->IsDd H' d p
  | .num _,_,h=>t _ _ h
  | .op _ _ _,_,h=>t _ _ h
  | .mk _ _,_,⟨q,a,b⟩=>⟨q,t _ _ a,t _ _ b⟩
def IsBy (H:Hp):List (Str × Dd)->Str->Addr->Prop
  | [],x,p=>H p=some (.tup [.str "give",.str x])
  | (n,d) :: r,x,p=>∃ pd pb,H p=some (.tup [.str "let",.str n,.ref pd,.ref pb])/\IsDd H d pd/\IsBy H r x pb
theorem IsBy.keep {H H':Hp} (t:Tups H H'):∀ {l:List (Str × Dd)} {x:Str} {p:Addr},IsBy H l x p->IsBy H' l x p
  | [],_,_,h=>t _ _ h
  | (_,_) :: _,_,_,⟨pd,pb,a,b,c⟩=>⟨pd,pb,t _ _ a,b.keep t,c.keep t⟩
abbrev En:=List (Str × List V)
def valE (e:En) (n:Str):Option (List V):=(e.find? fun p=>decide (p.1=n)).map (·.2)
def putE (e:En) (n:Str) (v:List V):En:=if (e.any fun p=>decide (p.1=n))=true then e.map (fun p=>if p.1=n then (p.1,v) else p) else e ++ [(n,v)]
theorem valE_any (n:Str):∀ e:En,(e.any fun p=>decide (p.1=n))=(valE e n).isSome
  | []=>rfl
  | p :: r=>by
    rw [List.any_cons]
    unfold valE
    rw [List.find?_cons]
    by_cases c:p.1=n
    · simp [c]
    · rw [decide_eq_false c,Bool.false_or]
      exact valE_any n r
theorem valE_put {e:En} {n m:Str} {v:List V} (h:m=n\/(valE e m).isSome=true):(valE (putE e n v) m).isSome=true:=by
  rw [<- valE_any,List.any_eq_true]
  unfold putE
  by_cases a:(e.any fun p=>decide (p.1=n))=true
  · rw [if_pos a]
    have:(e.any fun p=>decide (p.1=m))=true:=by
      rcases h with rfl | h
      · exact a
      · rw [valE_any]; exact h
    obtain ⟨p,hp,hd⟩:=List.any_eq_true.mp this
    refine ⟨_,List.mem_map.mpr ⟨p,hp,rfl⟩,?_⟩
    split
    · exact hd
    · exact hd
  · rw [if_neg a]
    rcases h with rfl | h
    · exact ⟨_,List.mem_append_right _ (List.mem_singleton.mpr rfl),by simp⟩
    · rw [<- valE_any] at h
      obtain ⟨p,hp,hd⟩:=List.any_eq_true.mp h
      exact ⟨p,List.mem_append_left _ hp,hd⟩
inductive ER (R:V->List V->Prop):List (Key × V)->En->Prop
  | nil:ER R [] []
  | cons {n:Str} {v:V} {f:List V} {kvs:List (Key × V)} {e:En}:R v f->ER R kvs e->ER R ((.inr n,v) :: kvs) ((n,f) :: e)
section
variable {R R':V->List V->Prop} {kvs:List (Key × V)} {e:En} {n:Str} {v:V} {f:List V}
theorem ER.mono (h:ER R kvs e) (g:∀ v f,R v f->R' v f):ER R' kvs e:=by
  induction h with
  | nil=>exact .nil
  | cons a _ ih=>exact .cons (g _ _ a) ih
theorem ER.len (h:ER R kvs e):kvs.length=e.length:=by
  induction h with
  | nil=>rfl
  | cons _ _ ih=>rw [List.length_cons,List.length_cons,ih]
theorem ER.val (h:ER R kvs e) (g:valE e n=some f):∃ v,valV kvs (.inr n)=some v/\R v f:=by
  induction h with
  | nil=>cases g
  | @cons m u w kvs e a _ ih =>
    unfold valE at g
    rw [List.find?_cons] at g
    by_cases c:m=n
    · rw [decide_eq_true c] at g
      cases g
      exact ⟨u,valV_pos (by rw [c]),a⟩
    · rw [decide_eq_false c] at g
      obtain ⟨v,h1,h2⟩:=ih g
      exact ⟨v,by rw [valV_neg (fun z=>c (Sum.inr.inj z))]; exact h1,h2⟩
theorem ER.any (h:ER R kvs e):(kvs.any fun kv=>decide (kv.1=(Sum.inr n:Key)))=(e.any fun p=>decide (p.1=n)):=by
  induction h with
  | nil=>rfl
  | @cons m u w kvs e a _ ih =>
    rw [List.any_cons,List.any_cons,ih]
    congr 1
    by_cases c:m=n
    · rw [decide_eq_true c,decide_eq_true (by rw [c])]
    · rw [decide_eq_false c,decide_eq_false (fun z=>c (Sum.inr.inj z))]
theorem ER.app {k2:List (Key × V)} {e2:En} (h:ER R kvs e) (g:ER R k2 e2):ER R (kvs ++ k2) (e ++ e2):=by
  induction h with
  | nil=>exact g
  | cons a _ ih=>exact .cons a ih
theorem ER.mapput (h:ER R kvs e) (g:R v f):ER R (kvs.map fun kv=>if kv.1=Sum.inr n then (kv.1,v) else kv) (e.map fun p=>if p.1=n then (p.1,f) else p):=by
  induction h with
  | nil=>exact .nil
  | @cons m u w kvs e a _ ih =>
    rw [List.map_cons,List.map_cons]
    by_cases c:m=n
    · rw [if_pos (by rw [c]),if_pos c]
      exact .cons g ih
    · rw [if_neg (fun z=>c (Sum.inr.inj z)),if_neg c]
      exact .cons a ih
theorem ER.put (h:ER R kvs e) (g:R v f):ER R (putK kvs (.inr n) v) (putE e n f):=by
  unfold putK putE
  rw [h.any]
  split
  · exact h.mapput g
  · exact h.app (.cons g .nil)
end
def Vl (H:Hp) (v:V) (f:List V):Prop:=PtL H [v] f/\∀ i,v=.int i->Sm i
theorem Vl.keep {H H':Hp} {v:V} {f:List V} (t:Tups H H') (h:Vl H v f):Vl H' v f:=⟨h.1.keep t,h.2⟩
def nf:List V->Option Int
  | .int i :: _=>some i
  | _=>none
theorem Vl.nu {H:Hp} {v:V} {f:List V} (h:Vl H v f):K31.Nu H v (nf f):=by
  obtain ⟨h1,h2⟩:=h
  cases h1 with
  | num _=>exact .int (h2 _ rfl)
  | shp a _ _ _ _=>exact .tup a
theorem Vl.int {H:Hp} {i:Int} (h:Sm i):Vl H (.int i) [.int i]:=⟨.num .nil,fun j e=>by cases e; exact h⟩
def outE (e:En):Dd->List V ⊕ Str
  | .num i=>.inl [.int i]
  | .op w a b=>if K31.fw w (nf ((valE e a).getD [])) (nf ((valE e b).getD []))="" then .inl [.int (K31.res w ((nf ((valE e a).getD [])).getD 0) ((nf ((valE e b).getD [])).getD 0))] else .inr (K31.fw w (nf ((valE e a).getD [])) (nf ((valE e b).getD [])))
  | .mk t ns=>.inl (.str t :: (ns.map fun n=>(valE e n).getD []).flatten)
def OkD (ks:List Str):Dd->Prop
  | .num i=>Sm i
  | .op _ a b=>a∈ks/\b∈ks
  | .mk _ ns=>(∀ n∈ns,n∈ks)/\ns.length<=3
def Bnd (ks:List Str) (e:En):Prop:=∀ n∈ks,(valE e n).isSome=true
theorem Bnd.get {ks:List Str} {e:En} (h:Bnd ks e) {n:Str} (m:n∈ks):∃ f,valE e n=some f:=Option.isSome_iff_exists.mp (h n m)
theorem Bnd.put {ks:List Str} {e:En} (h:Bnd ks e) {n:Str} {f:List V}:Bnd (ks ++ [n]) (putE e n f):=fun m hm=>by
  rcases List.mem_append.mp hm with hm | hm
  · exact valE_put (.inr (h m hm))
  · exact valE_put (.inl (List.mem_singleton.mp hm))
theorem fw_some {w:Str} {x y:Option Int} (h:K31.fw w x y=""):∃ i j,x=some i/\y=some j/\-1000000000000000000000000000000 < K31.res w i j/\K31.res w i j < 1000000000000000000000000000000:=by
  match x,y,h with
  | some i,some j,h =>
    rw [K31.fw_ss] at h
    split at h
    · cases h
    · split at h
      · rename_i c
        exact ⟨i,j,rfl,rfl,c⟩
      · cases h
  | none,_,h=>cases h
  | some _,none,h=>cases h
theorem PtL.flat {H:Hp}:∀ {vs:List V} {fs:List (List V)},vs.length=fs.length->(∀ (j:Nat) v f,vs[j]?=some v->fs[j]?=some f->PtL H [v] f)->PtL H vs fs.flatten
  | [],[],_,_=>.nil
  | [],_ :: _,h,_=>by simp at h
  | _ :: _,[],h,_=>by simp at h
  | v :: vs,f :: fs,h,g=>by
    rw [List.flatten_cons]
    exact PtL.app (us:=[v]) (g 0 v f rfl rfl) (PtL.flat (by simpa using h) fun j v f h1 h2=>g (j + 1) v f h1 h2)
end GN
namespace GN
open PySem L2 K11
structure Rn (K:PySem.W.Frag) (cR:Addr):Prop where
  cl:Cls K cR
  a1:NoAttr K cR "defs"
  a2:NoAttr K cR "steps"
  a3:NoAttr K cR "done"
  a4:NoAttr K cR "waiting"
  a5:NoAttr K cR "body"
  a6:NoAttr K cR "names"
  a7:NoAttr K cR "end"
abbrev RF (d:Addr) (st dn:Int) (wl:Addr) (b:V) (nd:Addr) (e:V):List (Str × V):=[("defs",.ref d),("steps",.int st),("done",.int dn),("waiting",.ref wl),("body",b),("names",.ref nd),("end",e)]
def RO (cR dx d:Addr) (st dn:Int) (wl:Addr) (b:V) (nd:Addr) (e:V):HO:=.ins cR dx (RF d st dn wl b nd e)
def ErrW (C:Addr) (E:XK) (H:Hp) (w:Str):Prop:=∀ dd H',Same H H'->H' dd=some (XD dd [("word",.str w)])->E (.ref C) (some dd) H'
theorem ErrW.at {C:Addr} {E:XK} {H H1:Hp} {w:Str} (h:ErrW C E H w) (s:Same H H1):ErrW C E H1 w:=fun dd H' s' e=>h dd H' (s.trans s') e
def vals (kvs:List (Key × V)) (ns:List Str):List V:=ns.map fun n=>(valV kvs (.inr n)).getD .non
def spValued (cR:Addr):Sp:=fun vs H Q _=>∃ (r dx d wl nd q:Addr) (st dn:Int) (b en:V) (kvs:List (Key × V)) (ns:List Str),vs=[.ref r,.ref q]/\H r=some (RO cR dx d st dn wl b nd en)/\H nd=some (.dK kvs)/\H q=some (.tup (ns.map V.str))/\(∀ n∈ns,∃ v,valV kvs (.inr n)=some v)/\ns.length<=1000/\∀ H' l,Same H H'->H l=none->H' l=some (.lst (vals kvs ns))->Q (.ref l) H'
section
variable {P:Program} {w:World} {K:PySem.W.Frag} {mg:Str->Option Value} {base:Heap} {f R C cR:Addr} {fd:FuncData}
theorem scValued:FnScope ["self","names"] ["self","names"] (defScope sValued):=⟨rfl,rfl,rfl,by decide +kernel,rfl,by decide +kernel,by decide +kernel⟩
theorem ndValued:(["self","names","name"]:List Str).Nodup:=by decide +kernel
theorem ok_valued (F:Fun K "valued" "Run.valued" sValued f fd) (T:Rn K cR):FnOk P w K mg base CX0 1 f fd ["self","names"] (spValued cR):=by
  refine F.by scValued (fun vs H Q E h=>?_) (fun cdv A outer s H vs Q E hr h=>?_)
  · obtain ⟨r,dx,d,wl,nd,q,st,dn,b,en,kvs,ns,rfl,_⟩:=h
    rfl
  obtain ⟨r,dx,d,wl,nd,q,st,dn,b,en,kvs,ns,rfl,hR,hN,hq,hall,hl,qq⟩:=h
  refine ⟨_,(jss_one (js_ret (je_comp ["name"] rfl (ji_tup (jv 1)) (fun _ _ _ _ _=>(jg_name (i:=2) ndValued rfl (Or.inl rfl))) (fun _ _ _ _ _=>jts_nil) (fun _ _ _ _ _=>(je_dget hr (je_fldK K (jv 0)) (jv 2)))))),?_⟩
  have sl:=line0
  refine ⟨_,rfl,_,rfl,⟨_,SqT.of hq⟩,lc_tup (xs:=ns.map V.str) (fun j τ ys H'=>H'=H/\(∃ v,τ=[some (.ref r),some (.ref q),v])/\ys=vals kvs (ns.take j)) ⟨rfl,⟨none,rfl⟩,rfl⟩ (fun j τ ys H' _ h=>by rw [h.1]; exact SqT.of hq) ?_ ?_⟩
  · rintro j v τ ys H1 hv ⟨rfl,⟨u,rfl⟩,rfl⟩
    rw [List.getElem?_map] at hv
    obtain ⟨n,hn,rfl⟩:=Option.map_eq_some_iff.mp hv
    obtain ⟨v,hv⟩:=hall n (List.mem_of_getElem? hn)
    have hj:=(List.getElem?_eq_some_iff.mp hn).1
    refine ⟨_,rfl,r,cR,dx,_,_,rfl,hR,T.cl,T.a6,rfl,_,rfl,nd,v,rfl,?_,?_,rfl,⟨_,rfl⟩,?_⟩
    · rw [<- hv]
      exact DGet.k (k:=.inr n) hN
    · unfold vals
      rw [List.length_map,List.length_take]
      omega
    · unfold vals
      rw [List.take_add_one,hn,List.map_append]
      show _=_ ++ [(valV kvs (.inr n)).getD .non]
      rw [hv]
      rfl
  · rintro τ ys H1 ⟨rfl,_,rfl⟩ l hl'
    rw [List.length_map,List.take_of_length_le (Nat.le_refl _)]
    exact qq _ l (same_new hl' _) hl' upd_same
theorem scOut:FnScope ["self","deed","tag"] ["self","deed"] (defScope sOut):=⟨rfl,rfl,rfl,by decide +kernel,rfl,by decide +kernel,by decide +kernel⟩
end
end GN
namespace GN
open PySem L2 K11
theorem KX.tups {S:List Addr} {H H':Hp} (k:KX S H H') (h:∀ a∈S,∀ xs,H a≠some (.tup xs)):Tups H H':=fun p xs q=>k p _ (fun z=>h p z xs q) q
theorem putK_len (kvs:List (Key × V)) (k:Key) (v:V):(putK kvs k v).length<=kvs.length + 1:=by
  unfold putK
  split
  · rw [List.length_map]; omega
  · rw [List.length_append]; exact Nat.le_refl _
inductive Dx
  | dd (d:Dd)
  | call (g:Str) (ns:List Str)
def IsDx (H:Hp):Dx->Addr->Prop
  | .dd d,p=>IsDd H d p
  | .call g ns,p=>∃ q,H p=some (.tup [.str "call",.str g,.ref q])/\H q=some (.tup (ns.map V.str))
theorem IsDx.keep {H H':Hp} (t:Tups H H'):∀ {d:Dx} {p:Addr},IsDx H d p->IsDx H' d p
  | .dd _,_,h=>IsDd.keep t h
  | .call _ _,_,⟨q,a,b⟩=>⟨q,t _ _ a,t _ _ b⟩
mutual
inductive Bd
  | lt (n:Str) (d:Dx) (b:Bd)
  | give (x:Str)
  | iff (x:Str) (b c:Bd)
  | cs (x:Str) (as:Arms)
inductive Arms
  | nil
  | cons (t:Str) (ns:List Str) (b:Bd) (r:Arms)
end
mutual
def Bd.sz:Bd->Nat
  | .lt _ _ b=>b.sz + 1
  | .give _=>1
  | .iff _ b c=>b.sz + c.sz + 1
  | .cs _ as=>as.sz + 1
def Arms.sz:Arms->Nat
  | .nil=>0
  | .cons _ ns b r=>ns.length + b.sz + r.sz + 1
end
mutual
def IsBd (H:Hp):Bd->Addr->Prop
  | .lt n d b,p=>∃ q r,H p=some (.tup [.str "let",.str n,.ref q,.ref r])/\IsDx H d q/\IsBd H b r
  | .give x,p=>H p=some (.tup [.str "give",.str x])
  | .iff x b c,p=>∃ q r,H p=some (.tup [.str "if",.str x,.ref q,.ref r])/\IsBd H b q/\IsBd H c r
  | .cs x as,p=>∃ q ts,H p=some (.tup [.str "case",.str x,.ref q])/\H q=some (.tup (ts.map V.ref))/\IsArms H as ts
def IsArms (H:Hp):Arms->List Addr->Prop
  | .nil,ts=>ts=[]
  | .cons t ns b r,ts=>∃ p q s ts',ts=p :: ts'/\H p=some (.tup [.str t,.ref q,.ref s])/\H q=some (.tup (ns.map V.str))/\IsBd H b s/\IsArms H r ts'
end
mutual
theorem IsBd.keep {H H':Hp} (t:Tups H H'):∀ {b:Bd} {p:Addr},IsBd H b p->IsBd H' b p
  | .lt n d b,p,h=>let ⟨q,r,a,e,f⟩:=h; ⟨q,r,t _ _ a,e.keep t,IsBd.keep t f⟩
  | .give x,p,h=>t _ _ h
  | .iff x b c,p,h=>let ⟨q,r,a,e,f⟩:=h; ⟨q,r,t _ _ a,IsBd.keep t e,IsBd.keep t f⟩
  | .cs x as,p,h=>let ⟨q,ts,a,e,f⟩:=h; ⟨q,ts,t _ _ a,t _ _ e,IsArms.keep t f⟩
theorem IsArms.keep {H H':Hp} (t:Tups H H'):∀ {as:Arms} {ts:List Addr},IsArms H as ts->IsArms H' as ts
  | .nil,ts,h=>h
  | .cons g ns b r,ts,h=>let ⟨p,q,s,ts',e,a1,a2,a3,a4⟩:=h; ⟨p,q,s,ts',e,t _ _ a1,t _ _ a2,IsBd.keep t a3,IsArms.keep t a4⟩
end
def Arms.hs:Arms->List (Str × List Str × Bd)
  | .nil=>[]
  | .cons t ns b r=>(t,ns,b) :: r.hs
theorem Arms.hs_sz:∀ {as:Arms} {a:Str × List Str × Bd},a∈as.hs->a.2.2.sz + a.2.1.length < as.sz
  | .nil,_,h=>by cases h
  | .cons t ns b r,a,h=>by
    rcases List.mem_cons.mp h with rfl | h
    · show b.sz + ns.length < ns.length + b.sz + r.sz + 1; omega
    · have:=Arms.hs_sz h
      show _ < ns.length + b.sz + r.sz + 1
      omega
theorem IsArms.get {H:Hp}:∀ {as:Arms} {ts:List Addr},IsArms H as ts->ts.length=as.hs.length/\∀ (i:Nat) (p:Addr) (a:Str × List Str × Bd),ts[i]?=some p->as.hs[i]?=some a->∃ q s,H p=some (.tup [.str a.1,.ref q,.ref s])/\H q=some (.tup (a.2.1.map V.str))/\IsBd H a.2.2 s
  | .nil,ts,h=>by
    have h':ts=[]:=h
    subst h'
    exact ⟨rfl,fun i p a e=>by simp at e⟩
  | .cons t ns b r,ts,h=>by
    obtain ⟨p',q,s,ts',rfl,a1,a2,a3,a4⟩:=h
    obtain ⟨l,g⟩:=IsArms.get a4
    refine ⟨by show ts'.length + 1=r.hs.length + 1; omega,fun i p a e1 e2=>?_⟩
    match i,e1,e2 with
    | 0,e1,e2=>cases e1; cases e2; exact ⟨q,s,a1,a2,a3⟩
    | i + 1,e1,e2=>exact g i p a (by simpa using e1) (by rw [Arms.hs,List.getElem?_cons_succ] at e2; exact e2)
def pcs (kvs:Kvs):Nat->List V->List V->List (List V)
  | _,[],acc=>if acc=[] then [] else [acc]
  | lack,x :: xs,acc =>
    if lack - 1 + (dl kvs x).getD 0=0 then (acc ++ [x]) :: pcs kvs 1 xs [] else pcs kvs (lack - 1 + (dl kvs x).getD 0) xs (acc ++ [x])
theorem pcs_cons (kvs:Kvs) (n:Nat) (x:V) (xs acc:List V):pcs kvs n (x :: xs) acc=if n - 1 + (dl kvs x).getD 0=0 then (acc ++ [x]) :: pcs kvs 1 xs [] else pcs kvs (n - 1 + (dl kvs x).getD 0) xs (acc ++ [x]):=rfl
theorem pz_nil {kvs:Kvs} {H:Hp} {xs:List V} (h:Pz kvs H [] xs):xs=[]:=by cases h; rfl
theorem pcs_vals {kvs:Kvs} {H:Hp} {us xs:List V} (h:Pz kvs H us xs):∀ (n:Nat) (ys acc:List V),0 < us.length->us.length<=n->pcs kvs n (xs ++ ys) acc=if us.length=n then (acc ++ xs) :: pcs kvs 1 ys [] else pcs kvs (n - us.length) ys (acc ++ xs):=by
  induction h with
  | nil=>intro n ys acc h; exact absurd h (by decide)
  | @num i vs xs hi hv ih =>
    intro n ys acc _ hn
    have hn:vs.length + 1<=n:=hn
    rw [List.cons_append,pcs_cons]
    have d0:(dl kvs (.int i)).getD 0=0:=by
      have:dl kvs (.int i)=some 0:=if_pos hi
      rw [this]; rfl
    rw [d0]
    show _=if vs.length + 1=n then _ else _
    by_cases c:vs=[]
    · subst c
      cases hv
      by_cases c1:n=1
      · rw [if_pos (by omega),if_pos (by show 0 + 1=n; omega)]
        rfl
      · rw [if_neg (by omega),if_neg (by show ¬ 0 + 1=n; omega)]
        rfl
    · have lv:0 < vs.length:=by cases vs with | nil=>exact absurd rfl c | cons _ _=>exact Nat.succ_pos _
      rw [if_neg (by omega),ih (n - 1 + 0) ys _ lv (by omega),List.append_assoc]
      by_cases c1:vs.length + 1=n
      · rw [if_pos (by omega),if_pos c1]; rfl
      · rw [if_neg (by omega),if_neg c1,show n - 1 + 0 - vs.length=n - (vs.length + 1) by omega]; rfl
  | @shp p q t us vs xs zs h1 h2 hs h9 g1 g2 ih1 ih2 =>
    intro n ys acc _ hn
    have hn:vs.length + 1<=n:=hn
    rw [List.cons_append,pcs_cons]
    have d0:(dl kvs (.str t)).getD 0=us.length:=by
      have:dl kvs (.str t)=some us.length:=hs
      rw [this]; rfl
    rw [d0]
    show _=if vs.length + 1=n then _ else _
    have tail:∀ acc':List V,n≠1->pcs kvs (n - 1) (zs ++ ys) acc'=if vs.length + 1=n then (acc' ++ zs) :: pcs kvs 1 ys [] else pcs kvs (n - (vs.length + 1)) ys (acc' ++ zs):=fun acc' c1=>by
      by_cases c:vs=[]
      · subst c
        cases g2
        rw [if_neg (by show ¬ 0 + 1=n; omega),List.append_nil]
        rfl
      · have lv:0 < vs.length:=by cases vs with | nil=>exact absurd rfl c | cons _ _=>exact Nat.succ_pos _
        rw [ih2 (n - 1) ys _ lv (by omega)]
        by_cases c2:vs.length + 1=n
        · rw [if_pos (by omega),if_pos c2]
        · rw [if_neg (by omega),if_neg c2,show n - 1 - vs.length=n - (vs.length + 1) by omega]
    by_cases cu:us=[]
    · subst cu
      cases g1
      by_cases c1:n=1
      · have:vs=[]:=by cases vs with | nil=>rfl | cons _ _=>simp at hn; omega
        subst this
        cases g2
        rw [if_pos (by show n - 1 + 0=0; omega),if_pos (by show 0 + 1=n; omega)]
        rfl
      · rw [if_neg (by show ¬ n - 1 + 0=0; omega)]
        have:=tail (acc ++ [.str t]) c1
        rw [List.append_assoc] at this
        exact this
    · have lu:0 < us.length:=by cases us with | nil=>exact absurd rfl cu | cons _ _=>exact Nat.succ_pos _
      rw [if_neg (by omega),List.append_assoc,ih1 (n - 1 + us.length) (zs ++ ys) _ lu (by omega)]
      by_cases c1:n=1
      · have:vs=[]:=by cases vs with | nil=>rfl | cons _ _=>simp at hn; omega
        subst this
        cases g2
        rw [if_pos (by omega),if_pos (by show 0 + 1=n; omega),List.append_assoc,List.append_nil]
        rfl
      · rw [if_neg (by omega),show n - 1 + us.length - us.length=n - 1 by omega,tail _ c1,List.append_assoc,List.append_assoc]
        rfl
theorem pcs_all {kvs:Kvs} {H:Hp}:∀ {us xs:List V},Pz kvs H us xs->∃ fs,pcs kvs 1 xs []=fs/\fs.length=us.length/\∀ (j:Nat) u f,us[j]?=some u->fs[j]?=some f->Pz kvs H [u] f
  | [],xs,h=>by
    rw [pz_nil h]
    exact ⟨[],rfl,rfl,fun j u f h=>by simp at h⟩
  | u :: us,xs,h=>by
    obtain ⟨x1,x2,rfl,a,b⟩:=Pz.split (us:=[u]) (vs:=us) h
    obtain ⟨fs,e,l,g⟩:=pcs_all b
    refine ⟨x1 :: fs,?_,by rw [List.length_cons,List.length_cons,l],fun j u' f h1 h2=>?_⟩
    · rw [pcs_vals a 1 x2 [] (by show 0 < 1; decide) (by show 1<=1; decide),if_pos (by rfl:[u].length=1),e]
      rfl
    · match j,h1,h2 with
      | 0,h1,h2=>cases h1; cases h2; exact a
      | j + 1,h1,h2=>exact g j u' f (by simpa using h1) (by simpa using h2)
end GN
namespace GN
open PySem L2 K11
theorem pz_vl {kvs:Kvs} {H:Hp} {v:V} {f:List V} (h:Pz kvs H [v] f):Vl H v f:=⟨h.pt,fun i e=>by
  rw [e] at h
  cases h with
  | num a _=>exact a⟩
def tgf:List V->Str
  | .str t :: _=>t
  | _=>""
def fnd (as:Arms) (t:Str):Option (Str × List Str × Bd):=as.hs.find? fun a=>decide (a.1=t)
def putA (e:En):List Str->List (List V)->En
  | n :: ns,f :: fs=>putA (putE e n f) ns fs
  | _,_=>e
def OkA (kvs:Kvs) (as:Arms):Prop:=∀ a∈as.hs,a.1≠""/\szOf kvs a.1=some a.2.1.length
def spArm (C:Addr):Sp:=fun vs H Q E=>∃ (q:Addr) (t:Str) (ts:List Addr) (as:Arms),vs=[.ref q,.str t]/\H q=some (.tup (ts.map V.ref))/\IsArms H as ts/\(∀ (i:Nat) p a,ts[i]?=some p->as.hs[i]?=some a->fnd as t=some a->Q (.ref p) H)/\(fnd as t=none->ErrW C E H "noshape")
def spChoose (cR C:Addr):Sp:=fun vs H Q E=>∃ (r dx d wl nd p q1 q2:Addr) (st dn:Int) (b v:V) (z x:Str) (f:List V),vs=[.ref r,.ref p,v]/\H r=some (RO cR dx d st dn wl b nd .non)/\H p=some (.tup [.str z,.str x,.ref q1,.ref q2])/\Vl H v f /\
  (∀ i,nf f=some i->∀ H',KX [r] H H'->H' r=some (RO cR dx d st dn wl (.ref (if i≠0 then q1 else q2)) nd .non)->Q .non H')/\(nf f=none->ErrW C E H "nonumber")
def spTake (cR C:Addr):Sp:=fun vs H Q E=>∃ (r dx d wl nd q:Addr) (st dn:Int) (b v:V) (f:List V) (ts:List Addr) (as:Arms) (kvs:Kvs) (ks:List (Key × V)) (e:En),vs=[.ref r,.ref q,v]/\H r=some (RO cR dx d st dn wl b nd .non)/\H nd=some (.dK ks)/\ks.length<=1000/\ER (fun v f=>Pz kvs H [v] f) ks e/\H q=some (.tup (ts.map V.ref))/\IsArms H as ts/\OkA kvs as/\Pz kvs H [v] f /\
  (∀ a,fnd as (tgf f)=some a->∀ H' ks' s,KX [r,nd] H H'->H' r=some (RO cR dx d st dn wl (.ref s) nd .non)->IsBd H' a.2.2 s->H' nd=some (.dK ks')->ER (fun v f=>Pz kvs H' [v] f) ks' (putA e a.2.1 (pcs kvs 1 f.tail []))->ks'.length<=ks.length + a.2.1.length->Q .non H')/\(fnd as (tgf f)=none->ErrW C E H "noshape")
theorem putA_snoc:∀ {ns:List Str} {fs:List (List V)} {j:Nat} {n:Str} {f:List V} {e:En},ns[j]?=some n->fs[j]?=some f->putA e (ns.take (j + 1)) (fs.take (j + 1))=putE (putA e (ns.take j) (fs.take j)) n f
  | [],_,_,_,_,_,h,_=>by simp at h
  | _ :: _,[],_,_,_,_,_,h=>by simp at h
  | m :: ns,g :: fs,0,n,f,e,h1,h2=>by cases h1; cases h2; rfl
  | m :: ns,g :: fs,j + 1,n,f,e,h1,h2=>by
    rw [List.take_succ_cons,List.take_succ_cons,List.take_succ_cons,List.take_succ_cons]
    show putA (putE e m g) (ns.take (j + 1)) (fs.take (j + 1))=putE (putA (putE e m g) (ns.take j) (fs.take j)) n f
    exact putA_snoc (by simpa using h1) (by simpa using h2)
theorem find_take {α:Type} {p:α->Bool}:∀ {l:List α} {i:Nat} {a:α},(∀ j b,j < i->l[j]?=some b->p b=false)->l[i]?=some a->p a=true->l.find? p=some a
  | [],i,a,_,h,_=>by simp at h
  | x :: l,0,a,_,h,hp=>by cases h; rw [List.find?_cons,hp]
  | x :: l,i + 1,a,g,h,hp=>by
    rw [List.find?_cons,g 0 x (by omega) rfl]
    exact find_take (i:=i) (fun j b hj hb=>g (j + 1) b (by omega) (by simpa using hb)) (by simpa using h) hp
section
variable {P:Program} {w:World} {K:PySem.W.Frag} {mg:Str->Option Value} {base:Heap} {f R C cR T:Addr} {fd:FuncData}
theorem scArm:FnScope ["arms","tag","arm"] ["arms","tag"] (defScope sArmOf):=⟨rfl,rfl,rfl,by decide +kernel,rfl,by decide +kernel,by decide +kernel⟩
theorem ok_arm (F:Fun K "arm_of" "arm_of" sArmOf f fd) (GX:Xa P w K mg base 1 "Fault" C ["self","word"] (K31.spFault C)):FnOk P w K mg base (CXf P w) 3 f fd ["arms","tag"] (spArm C):=by
  refine F.byx scArm (fun vs H Q E h=>?_) (fun cdv A outer s H vs Q E hr h=>?_)
  · obtain ⟨q,t,ts,as,rfl,_⟩:=h
    rfl
  obtain ⟨q,t,ts,as,rfl,hq,hA,q1,q2⟩:=h
  refine ⟨_,
    (jss_cons (js_for ownx rfl (ji_tup (jv 0)) (jg_name (i:=2) scArm.nd rfl (Or.inl rfl))
      (jss_one (js_if (jt_cmpR jo_eq (je_ix jx_tup (jv 2) je_int (fun _ _=>rfl)) (jv 1) (nomark _))
        (jss_one (js_ret (jv 2))) jss_nil)))
    (jss_one (js_raise GX hr rfl throwx (ja_c je_str ja_nil)))),?_⟩
  obtain ⟨lt,hg⟩:=hA.get
  refine ⟨_,rfl,_,rfl,⟨_,SqT.of hq⟩,for_tup (xs:=ts.map V.ref) (fun i σ H'=>H'=H/\(∃ x,σ=[some (.ref q),some (.str t),x])/\∀ j a,j < i->as.hs[j]?=some a->a.1≠t) ⟨rfl,⟨none,rfl⟩,fun j a h=>absurd h (by omega)⟩ (fun i σ H' _ h=>by rw [h.1]; exact SqT.of hq) ?_ ?_⟩
  · rintro i v σ H1 hv ⟨rfl,⟨x,rfl⟩,hno⟩
    rw [List.getElem?_map] at hv
    obtain ⟨p,hp,rfl⟩:=Option.map_eq_some_iff.mp hv
    have hi:=(List.getElem?_eq_some_iff.mp hp).1
    obtain ⟨a,ha⟩:∃ a,as.hs[i]?=some a:=⟨_,List.getElem?_eq_getElem (by omega)⟩
    obtain ⟨q',s',g1,g2,g3⟩:=hg i p a hp ha
    refine ⟨_,rfl,p,_,_,_,rfl,rfl,SqT.of g1,atI_nat (j:=0) rfl,_,rfl,rfl,_,rfl,?_⟩
    by_cases c:a.1=t
    · refine iteT' (decide_eq_true (by rw [c])) ⟨_,rfl,q1 i p a hp ha ?_⟩
      exact find_take (fun j b hj hb=>decide_eq_false (hno j b hj hb)) ha (decide_eq_true c)
    · refine iteF' (decide_eq_false (fun e=>c (V.str.inj e))) (nxt ⟨rfl,⟨_,rfl⟩,fun j b hj hb=>?_⟩)
      by_cases cj:j=i
      · subst cj
        rw [ha] at hb
        cases hb
        exact c
      · exact hno j b (by omega) hb
  · rintro σ H1 ⟨rfl,⟨x,rfl⟩,hno⟩
    rw [List.length_map,lt] at hno
    refine ⟨by show 1<=sizeLine; decide,fun e he=>K31.raised (fun d H2 s2 hd=>q2 ?_ d H2 s2 hd) e he⟩
    refine List.find?_eq_none.mpr fun a ha=>?_
    obtain ⟨j,hj⟩:=List.getElem?_of_mem ha
    have:=hno j a (List.getElem?_eq_some_iff.mp hj).1 hj
    simpa using this
theorem scChoose:FnScope ["self","body","value"] ["self","body","value"] (defScope sChoose):=⟨rfl,rfl,rfl,by decide +kernel,rfl,by decide +kernel,by decide +kernel⟩
theorem ok_choose (F:Fun K "choose" "Run.choose" sChoose f fd) (N:Rn K cR) (GX:Xa P w K mg base 1 "Fault" C ["self","word"] (K31.spFault C)) (GW:Ca P w K mg base CX0 1 "is_whole" ["thing"] K31.spWhole):FnOk P w K mg base (CXf P w) 3 f fd ["self","body","value"] (spChoose cR C):=by
  refine F.byx scChoose (fun vs H Q E h=>?_) (fun cdv A outer s H vs Q E hr h=>?_)
  · obtain ⟨r,dx,d,wl,nd,p,q1,q2,st,dn,b,v,z,x,f,rfl,_⟩:=h
    rfl
  obtain ⟨r,dx,d,wl,nd,p,q1,q2,st,dn,b,v,z,x,f,rfl,hR,hp,hv,k1,k2⟩:=h
  have r1:Room 1 _:=hr.mono (by decide)
  refine ⟨_,
    (jss_cons (js_if (jt_not (jt_val (je_ca GW.upx r1 rfl passx (ja_c (jv 2) ja_nil))))
      (jss_one (js_raise GX hr rfl throwx (ja_c je_str ja_nil))) jss_nil)
    (jss_one (js_fld (jv 0) (je_ifExp (jt_cmpR jo_ne (jv 2) je_int (nomark _)) (je_ix jx_tup (jv 1) je_int (fun _ _=>rfl)) (je_ix jx_tup (jv 1) je_int (fun _ _=>rfl)))))),?_⟩
  have nu:=hv.nu
  refine ⟨_,rfl,v,nf f,rfl,nu,_,rfl,?_⟩
  cases ho:nf f with
  | none =>
    exact iteT ⟨by show 1<=sizeLine; decide,fun e he=>K31.raised (fun d H2 s2 hd=>k2 ho d H2 s2 hd) e he⟩
  | some i =>
    rw [ho] at nu
    cases nu with
    | int hi =>
      refine iteF (nxt ?_)
      refine ⟨_,rfl,rfl,_,rfl,?_⟩
      by_cases c:i=0
      · refine iteF' (by simp [c]) ⟨_,rfl,p,_,_,_,rfl,rfl,SqT.of hp,atI_nat (j:=3) rfl,_,rfl,r,cR,dx,_,rfl,hR,N.cl,N.a5,by show 7 < 1000; decide,?_⟩
        refine k1 i ho _ (KX.refl.put (by simp)) ?_
        rw [if_neg (fun h=>h c)]
        exact upd_same
      · refine iteT' (by simp [c]) ⟨_,rfl,p,_,_,_,rfl,rfl,SqT.of hp,atI_nat (j:=2) rfl,_,rfl,r,cR,dx,_,rfl,hR,N.cl,N.a5,by show 7 < 1000; decide,?_⟩
        refine k1 i ho _ (KX.refl.put (by simp)) ?_
        rw [if_pos c]
        exact upd_same
theorem scTake:FnScope ["self","arms","value","shape","arm","name","part"] ["self","arms","value"] (defScope sTakeArm):=⟨rfl,rfl,rfl,by decide +kernel,rfl,by decide +kernel,by decide +kernel⟩
theorem ok_take (F:Fun K "take_arm" "Run.take_arm" sTakeArm f fd) (N:Rn K cR) (GA:Ca P w K mg base (CXf P w) 3 "arm_of" ["arms","tag"] (spArm C)) (GW:Ca P w K mg base CX0 1 "is_whole" ["thing"] K31.spWhole) (m_zip:mg "zip"=none):FnOk P w K mg base (CXf P w) 4 f fd ["self","arms","value"] (spTake cR C):=by
  refine F.byx scTake (fun vs H Q E h=>?_) (fun cdv A outer s H vs Q E hr h=>?_)
  · obtain ⟨r,dx,d,wl,nd,q,st,dn,b,v,f,ts,as,kvs,ks,e,rfl,_⟩:=h
    rfl
  obtain ⟨r,dx,d,wl,nd,q,st,dn,b,v,f,ts,as,kvs,ks,e,rfl,hR,hN,hk,hE,hq,hA,hO,hv,k1,k2⟩:=h
  have r1:Room 1 _:=hr.mono (by decide)
  refine ⟨_,
    (jss_cons (js_set (i:=3) scTake.nd rfl (Or.inl rfl) (je_ifExp (jt_val (je_ca GW.upx r1 rfl passx (ja_c (jv 2) ja_nil))) (je_tup (ja_c je_str (ja_c (je_tup ja_nil) ja_nil))) (jv 2)))
    (jss_cons (js_set (i:=4) scTake.nd rfl (Or.inl rfl) (je_ca GA hr rfl passx (ja_c (jv 1) (ja_c (je_ix jx_tup (jv 3) je_int (fun _ _=>rfl)) ja_nil))))
    (jss_cons (js_for ownx rfl (ji_zip rfl m_zip (ja_c (je_ix jx_tup (jv 4) je_int (fun _ _=>rfl)) (ja_c (je_ix jx_tup (jv 3) je_int (fun _ _=>rfl)) ja_nil))) (jg_tup rfl (jgs_cons (jg_name (i:=5) scTake.nd rfl (Or.inl rfl)) (jgs_cons (jg_name (i:=6) scTake.nd rfl (Or.inl rfl)) jgs_nil)))
      (jss_one (js_dput hr (je_fld (jv 0)) (jv 5) (jv 6))))
    (jss_one (js_fld (jv 0) (je_ix jx_tup (jv 4) je_int (fun _ _=>rfl))))))),?_⟩
  have sl:=line0
  have nu:=(pz_vl hv).nu
  obtain ⟨lt,hg⟩:=hA.get
  have nrn:nd≠r:=fun z=>by
    rw [z,hR] at hN
    cases hN
  have tu:∀ {H':Hp},KX [r,nd] H H'->Tups H H':=fun {H'} k=>k.tups fun a ha xs z=>by
    rcases List.mem_cons.mp ha with e | ha
    · rw [e,hR] at z; cases z
    · rw [List.mem_singleton.mp ha,hN] at z; cases z
  refine ⟨_,rfl,v,nf f,rfl,nu,_,rfl,?_⟩
  cases hv with
  | @num i _ xs hi hn =>
    cases hn
    have nof:fnd as (tgf [.int i])=none:=List.find?_eq_none.mpr fun a ha e=>(hO a ha).1 (of_decide_eq_true e)
    refine iteT ⟨by show 0<=sizeLine; decide,fun t1 h1=>⟨by show 2<=sizeLine; decide,fun t2 h2=>?_⟩⟩
    have n2:=(same_new h1 (.tup [])).new (o:=.tup [.str "",.ref t1]) h2
    refine ⟨_,rfl,_,rfl,t2,_,_,_,rfl,rfl,SqT.of upd_same,atI_nat (j:=0) rfl,q,"",ts,as,rfl,n2 _ _ hq,hA.keep (.of n2),fun i' p a _ _ e=>?_,fun _=>(k2 nof).at n2⟩
    have e':fnd as (tgf [.int i])=some a:=e
    rw [nof] at e'
    cases e'
  | @shp p q' t us _ xs ys h1 h2 hs h9 g1 g2 =>
    cases g2
    rw [List.append_nil] at *
    refine iteF ⟨_,rfl,?_⟩
    refine ⟨_,rfl,_,rfl,p,_,_,_,rfl,rfl,SqT.of h1,atI_nat (j:=0) rfl,q,t,ts,as,rfl,hq,hA,fun i p' a hp' ha hf=>?_,fun hno=>k2 hno⟩
    obtain ⟨q2,s2,a1,a2,a3⟩:=hg i p' a hp' ha
    have am:a∈as.hs:=List.mem_of_getElem? ha
    have at_:a.1=t:=by simpa using List.find?_some hf
    have ln:a.2.1.length=us.length:=by
      have h1:=(hO a am).2
      rw [at_,hs] at h1
      exact (Option.some.inj h1).symm
    obtain ⟨fs,efs,lf,hfs⟩:=pcs_all g1
    refine ⟨_,rfl,p',_,_,_,rfl,rfl,SqT.of a1,atI_nat (j:=1) rfl,_,rfl,p,_,_,_,rfl,rfl,SqT.of h1,atI_nat (j:=1) rfl,q2,q',false,false,_,_,rfl,SqT.of a2,SqT.of h2,for_zip (xs:=a.2.1.map V.str) (ys:=us) (by rw [List.length_map]; exact ln) (fun j σ H'=>KX [r,nd] H H'/\H' r=some (RO cR dx d st dn wl b nd .non)/\(∃ x y,σ=[some (.ref r),some (.ref q),some (.ref p),some (.ref p),some (.ref p'),x,y])/\∃ ks',H' nd=some (.dK ks')/\ks'.length<=ks.length + j/\ER (fun v f=>Pz kvs H' [v] f) ks' (putA e (a.2.1.take j) (fs.take j))) ⟨KX.refl,hR,⟨none,none,rfl⟩,ks,hN,by omega,hE⟩ (fun j σ H' _ h=>⟨?_,?_⟩) ?_ ?_⟩
    · exact SqT.of (tu h.1 _ _ a2)
    · exact SqT.of (tu h.1 _ _ h2)
    · rintro j x y T' σ H1 hx hy hT ⟨kx,hR1,⟨x',y',rfl⟩,ks',hN1,lk,hE1⟩
      rw [List.getElem?_map] at hx
      obtain ⟨n,hn,rfl⟩:=Option.map_eq_some_iff.mp hx
      have hj:=(List.getElem?_eq_some_iff.mp hy).1
      obtain ⟨ff,hff⟩:∃ ff,fs[j]?=some ff:=⟨_,List.getElem?_eq_getElem (by omega)⟩
      have n1:=same_new hT (.tup [.str n,y])
      have hy1:=(hfs j y ff hy hff).keep (tu kx)
      refine ⟨_,_,rfl,SqT.of upd_same,rfl,_,_,rfl,_,_,rfl,rfl,?_⟩
      have nTr:r≠T':=ne_of_none hR1 hT
      have nTn:nd≠T':=ne_of_none hN1 hT
      refine ⟨_,rfl,_,rfl,r,cR,dx,_,_,rfl,n1 _ _ hR1,N.cl,N.a6,rfl,_,rfl,nd,_,rfl,DPut.k (k:=.inr n) (n1 _ _ hN1) (by omega),?_⟩
      have t2:Tups H1 (upd (upd H1 T' (.tup [.str n,y])) nd (.dK (putK ks' (.inr n) y))):=fun c xs hc=>by
        rw [upd_ne (ne_of hc hN1 (by intro z; cases z))]
        exact n1 _ _ hc
      refine ⟨(kx.new hT).put (by simp),by rw [upd_ne nrn.symm]; exact n1 _ _ hR1,⟨_,_,rfl⟩,_,upd_same,by have:=putK_len ks' (.inr n) y; omega,?_⟩
      rw [putA_snoc hn hff]
      exact (hE1.mono fun v f h=>h.keep t2).put (hy1.keep t2)
    · rintro σ H1 ⟨kx,hR1,⟨x',y',rfl⟩,ks',hN1,lk,hE1⟩
      rw [List.length_map] at lk hE1
      rw [List.take_of_length_le (Nat.le_refl _),List.take_of_length_le (by omega)] at hE1
      have tk:=tu kx
      refine ⟨_,rfl,p',_,_,_,rfl,rfl,SqT.of (tk _ _ a1),atI_nat (j:=2) rfl,_,rfl,r,cR,dx,_,rfl,hR1,N.cl,N.a5,by show 7 < 1000; decide,?_⟩
      have t2:Tups H1 (upd H1 r (RO cR dx d st dn wl (.ref s2) nd .non)):=fun c xs hc=>by
        rw [upd_ne (ne_of hc hR1 (by intro z; cases z))]
        exact hc
      refine k1 a hf _ ks' s2 (kx.put (by simp)) upd_same ((a3.keep tk).keep t2) (by rw [upd_ne nrn]; exact hN1) ?_ lk
      show ER _ ks' (putA e a.2.1 (pcs kvs 1 xs []))
      rw [efs]
      exact hE1.mono fun v f h=>h.keep t2
end
end GN
namespace L2
open PySem
theorem FnOk.dn {P:Program} {w:World} {K:PySem.W.Frag} {mg:Str->Option Value} {base:Heap} {k:Nat} {f:Addr} {fd:FuncData} {ps:List Str} {sp sp':Sp} (F:FnOk P w K mg base (CXf P w) k f fd ps sp) (h:∀ vs H Q E,sp' vs H Q E->sp vs H Q E0):FnOk P w K mg base CX0 k f fd ps sp' :=
  ⟨fun vs H Q E q=>F.len _ _ _ _ (h vs H Q E q),fun A outer s H args us vs Q E hr he hb hv hs=>codeAny_mono (F.run A outer s H args us vs Q E0 hr he hb hv (h vs H Q E hs)) fun r s' q=>by
    cases r with
    | error e =>
      obtain ⟨_,_,_,_,_,_,_,_,_,_,_,_,_,z⟩:=q
      exact z.elim
    | ok fl =>
      cases fl with
      | ret u=>exact q
      | _=>exact q⟩
theorem Ca.dn {P:Program} {w:World} {K:PySem.W.Frag} {mg:Str->Option Value} {base:Heap} {k:Nat} {x:Str} {ps:List Str} {sp sp':Sp} (F:Ca P w K mg base (CXf P w) k x ps sp) (h:∀ vs H Q E,sp' vs H Q E->sp vs H Q E0):Ca P w K mg base CX0 k x ps sp':=let ⟨f,fd,a,r⟩:=F.ex; ⟨f,fd,a.dn h,r⟩
end L2
namespace GN
open PySem L2 K11
def spRInit (cR:Addr):Sp:=fun vs H Q _=>∃ (b dx d:Addr) (st:Int),vs=[.ref b,.ref d,.int st]/\H b=some (.ins cR dx [])/\∀ H' wl nd,KX [b] H H'->H wl=none->H nd=none->H' b=some (RO cR dx d st 0 wl .non nd .non)->H' wl=some (.lst [])->H' nd=some (.dK [])->Q .non H'
def spBegin (cR:Addr):Sp:=fun vs H Q _=>∃ (r dx d wl nd vl one pp pb:Addr) (st dn:Int) (b:V) (n:Str) (kvs:List (Key × V)) (ps:List Str) (us:List V),vs=[.ref r,.str n,.ref vl]/\H r=some (RO cR dx d st dn wl b nd .non)/\H d=some (.dK kvs)/\valV kvs (.inr n)=some (.ref one)/\H one=some (.tup [.str n,.ref pp,.ref pb])/\H pp=some (.tup (ps.map V.str))/\ps.Nodup/\H vl=some (.lst us)/\ps.length=us.length /\
  ∀ H' nd',KX [r] H H'->H nd'=none->H' r=some (RO cR dx d st dn wl (.ref pb) nd' .non)->H' nd'=some (.dK (zkv ps us))->Q .non H'
section
variable {P:Program} {w:World} {K:PySem.W.Frag} {mg:Str->Option Value} {base:Heap} {f R C cR T:Addr} {fd:FuncData}
theorem scRInit:FnScope ["self","defs","steps"] ["self","defs","steps"] (defScope sRInit):=⟨rfl,rfl,rfl,by decide +kernel,rfl,by decide +kernel,by decide +kernel⟩
theorem ok_rinit (F:Fun K "__init__" "Run.__init__" sRInit f fd) (N:Rn K cR):FnOk P w K mg base CX0 1 f fd ["self","defs","steps"] (spRInit cR):=by
  refine F.by scRInit (fun vs H Q E h=>?_) (fun cdv A outer s H vs Q E hr h=>?_)
  · obtain ⟨b,dx,d,st,rfl,_⟩:=h
    rfl
  obtain ⟨b,dx,d,st,rfl,hb,q⟩:=h
  refine ⟨_,
    (jss_cons (js_fld (jv 0) (jv 1))
    (jss_cons (js_fld (jv 0) (jv 2))
    (jss_cons (js_fld (jv 0) je_int)
    (jss_cons (js_fld (jv 0) (je_lst ja_nil))
    (jss_cons (js_fld (jv 0) je_non)
    (jss_cons (js_fld (jv 0) je_dnewK)
    (jss_one (js_fld (jv 0) je_non)))))))),?_⟩
  have sl:=line0
  refine ⟨_,rfl,_,rfl,b,cR,dx,_,rfl,hb,N.cl,N.a1,by show 0 < 1000; decide,?_⟩
  refine ⟨_,rfl,_,rfl,b,cR,dx,_,rfl,upd_same,N.cl,N.a2,by show 1 < 1000; decide,?_⟩
  refine ⟨_,rfl,b,cR,dx,_,rfl,upd_same,N.cl,N.a3,by show 2 < 1000; decide,?_⟩
  have k1:KX [b] H (upd (upd (upd H b (.ins cR dx (putF "defs" (.ref d) []))) b (.ins cR dx (putF "steps" (.int st) (putF "defs" (.ref d) [])))) b (.ins cR dx (putF "done" (.int 0) (putF "steps" (.int st) (putF "defs" (.ref d) []))))):=((KX.refl.put (by simp)).put (by simp)).put (by simp)
  have b1:=upd_same (H:=upd (upd H b (.ins cR dx (putF "defs" (.ref d) []))) b (.ins cR dx (putF "steps" (.int st) (putF "defs" (.ref d) [])))) (a:=b) (o:=.ins cR dx (putF "done" (.int 0) (putF "steps" (.int st) (putF "defs" (.ref d) []))))
  generalize upd (upd (upd H b (.ins cR dx (putF "defs" (.ref d) []))) b (.ins cR dx (putF "steps" (.int st) (putF "defs" (.ref d) [])))) b (.ins cR dx (putF "done" (.int 0) (putF "steps" (.int st) (putF "defs" (.ref d) []))))=H1 at *
  have fr:∀ {H2:Hp} {z:Addr},KX [b] H H2->H2 b≠none->H2 z=none->H z=none/\z≠b:=fun {H2 z} k n e=>by
    have nz:z≠b:=fun c=>n (by rw [<- c]; exact e)
    refine ⟨?_,nz⟩
    cases c:H z with
    | none=>rfl
    | some o =>
      have:=k z o (by simp [nz]) c
      rw [e] at this
      cases this
  refine ⟨by show 0<=sizeLine; decide,fun wl hwl=>?_⟩
  obtain ⟨fw,nwb⟩:=fr k1 (by rw [b1]; intro z; cases z) hwl
  refine ⟨_,rfl,b,cR,dx,_,rfl,by rw [upd_ne nwb.symm]; exact b1,N.cl,N.a4,by show 3 < 1000; decide,?_⟩
  refine ⟨_,rfl,b,cR,dx,_,rfl,upd_same,N.cl,N.a5,by show 4 < 1000; decide,?_⟩
  obtain ⟨fs2,efs2⟩:∃ fs,fs=putF "body" V.non (putF "waiting" (.ref wl) (putF "done" (.int 0) (putF "steps" (.int st) (putF "defs" (.ref d) [])))):=⟨_,rfl⟩
  rw [<- efs2]
  have k2:KX [b] H (upd (upd (upd H1 wl (.lst [])) b (.ins cR dx (putF "waiting" (.ref wl) (putF "done" (.int 0) (putF "steps" (.int st) (putF "defs" (.ref d) [])))))) b (.ins cR dx fs2)):=((k1.new hwl).put (by simp)).put (by simp)
  have b2:=upd_same (H:=upd (upd H1 wl (.lst [])) b (.ins cR dx (putF "waiting" (.ref wl) (putF "done" (.int 0) (putF "steps" (.int st) (putF "defs" (.ref d) [])))))) (a:=b) (o:=.ins cR dx fs2)
  have w2:upd (upd (upd H1 wl (.lst [])) b (.ins cR dx (putF "waiting" (.ref wl) (putF "done" (.int 0) (putF "steps" (.int st) (putF "defs" (.ref d) [])))))) b (.ins cR dx fs2) wl=some (.lst []):=by
    rw [upd_ne nwb,upd_ne nwb]
    exact upd_same
  generalize upd (upd (upd H1 wl (.lst [])) b (.ins cR dx (putF "waiting" (.ref wl) (putF "done" (.int 0) (putF "steps" (.int st) (putF "defs" (.ref d) [])))))) b (.ins cR dx fs2)=H2 at *
  intro nd hnd
  obtain ⟨fn,nnb⟩:=fr k2 (by rw [b2]; intro z; cases z) hnd
  refine ⟨_,rfl,b,cR,dx,_,rfl,by rw [upd_ne nnb.symm]; exact b2,N.cl,N.a6,by rw [efs2]; show 5 < 1000; decide,?_⟩
  refine ⟨_,rfl,b,cR,dx,_,rfl,upd_same,N.cl,N.a7,by rw [efs2]; show 6 < 1000; decide,?_⟩
  have nwn:wl≠nd:=ne_of_none w2 hnd
  refine q _ wl nd (((k2.new hnd).put (by simp)).put (by simp)) fw fn ?_ ?_ ?_
  · rw [upd_same,efs2]
    rfl
  · rw [upd_ne nwb,upd_ne nwb,upd_ne nwn]
    exact w2
  · rw [upd_ne nnb,upd_ne nnb]
    exact upd_same
theorem scBegin:FnScope ["self","name","values","one"] ["self","name","values"] (defScope sBegin):=⟨rfl,rfl,rfl,by decide +kernel,rfl,by decide +kernel,by decide +kernel⟩
theorem ok_begin (F:Fun K "begin_def" "Run.begin_def" sBegin f fd) (N:Rn K cR) (m_dict:mg "dict"=none) (m_zip:mg "zip"=none):FnOk P w K mg base CX0 1 f fd ["self","name","values"] (spBegin cR):=by
  refine F.by scBegin (fun vs H Q E h=>?_) (fun cdv A outer s H vs Q E hr h=>?_)
  · obtain ⟨r,dx,d,wl,nd,vl,one,pp,pb,st,dn,b,n,kvs,ps,us,rfl,_⟩:=h
    rfl
  obtain ⟨r,dx,d,wl,nd,vl,one,pp,pb,st,dn,b,n,kvs,ps,us,rfl,hR,hd,hv,h1,hp,hn,hl,ll,q⟩:=h
  refine ⟨_,
    (jss_cons (js_set (i:=3) scBegin.nd rfl (Or.inl rfl) (je_dget hr (je_fld (jv 0)) (jv 1)))
    (jss_cons (js_fld (jv 0) (je_ix jx_tup (jv 3) je_int (fun _ _=>rfl)))
    (jss_one (js_fld (jv 0) (je_dictZ rfl rfl m_dict rfl m_zip (ja_c (je_ix jx_tup (jv 3) je_int (fun _ _=>rfl)) (ja_c (jv 2) ja_nil))))))),?_⟩
  have sl:=line0
  refine ⟨_,rfl,r,cR,dx,_,_,rfl,hR,N.cl,N.a1,rfl,_,rfl,d,.ref one,rfl,by rw [<- hv]; exact DGet.k (k:=.inr n) hd,?_⟩
  refine ⟨_,rfl,one,_,_,_,rfl,rfl,SqT.of h1,atI_nat (j:=2) rfl,_,rfl,r,cR,dx,_,rfl,hR,N.cl,N.a5,by show 7 < 1000; decide,?_⟩
  have k1:KX [r] H (upd H r (.ins cR dx (putF "body" (.ref pb) (RF d st dn wl b nd .non)))):=KX.refl.put (by simp)
  have r1:upd H r (.ins cR dx (putF "body" (.ref pb) (RF d st dn wl b nd .non))) r=some (RO cR dx d st dn wl (.ref pb) nd .non):=upd_same
  generalize upd H r (.ins cR dx (putF "body" (.ref pb) (RF d st dn wl b nd .non)))=H1 at *
  have ne1:∀ {z:Addr} {o:HO},H z=some o->(∀ C dx fs,o≠.ins C dx fs)->z ∉ [r]:=fun {z o} e n c=>by
    rw [List.mem_singleton.mp c,hR] at e
    cases e
    exact n _ _ _ rfl
  have h11:=k1 _ _ (ne1 h1 (by intro _ _ _ z; cases z)) h1
  have hp1:=k1 _ _ (ne1 hp (by intro _ _ _ z; cases z)) hp
  have hl1:=k1 _ _ (ne1 hl (by intro _ _ _ z; cases z)) hl
  refine ⟨_,rfl,one,_,_,_,rfl,rfl,SqT.of h11,atI_nat (j:=1) rfl,_,rfl,pp,vl,ps,us,rfl,.inr (SqT.of hp1),.inl (SqL.of hl1),ll,hn,fun nd' hnd'=>?_⟩
  have nnr:nd'≠r:=fun z=>by
    rw [z,r1] at hnd'
    cases hnd'
  have fn:H nd'=none:=by
    cases c:H nd' with
    | none=>rfl
    | some o =>
      have:=k1 nd' o (by simp [nnr]) c
      rw [hnd'] at this
      cases this
  refine ⟨_,rfl,r,cR,dx,_,rfl,by rw [upd_ne nnr.symm]; exact r1,N.cl,N.a6,by show 7 < 1000; decide,?_⟩
  exact q _ nd' ((k1.new hnd').put (by simp)) fn upd_same (by rw [upd_ne nnr]; exact upd_same)
end
end GN
namespace GN
open PySem L2 K11
theorem Pz.flat {kv:Kvs} {H:Hp}:∀ {vs:List V} {fs:List (List V)},vs.length=fs.length->(∀ (j:Nat) v f,vs[j]?=some v->fs[j]?=some f->Pz kv H [v] f)->Pz kv H vs fs.flatten
  | [],[],_,_=>.nil
  | [],_ :: _,h,_=>by simp at h
  | _ :: _,[],h,_=>by simp at h
  | v :: vs,f :: fs,h,g=>by
    have:=Pz.app (g 0 v f rfl rfl) (Pz.flat (vs:=vs) (fs:=fs) (by simpa using h) fun j v f h1 h2=>g (j + 1) v f (by simpa using h1) (by simpa using h2))
    exact this
def OkZ (kv:Kvs) (dd:Dd):Prop:=∀ t ns,dd=.mk t ns->szOf kv t=some ns.length
def spOutZ (cR C:Addr):Sp:=fun vs H Q E=>∃ (r dx d wl nd p:Addr) (st dn:Int) (b en:V) (kvs:List (Key × V)) (e:En) (ks:List Str) (dd:Dd) (kv:Kvs),vs=[.ref r,.ref p]/\H r=some (RO cR dx d st dn wl b nd en)/\H nd=some (.dK kvs)/\ER (fun v f=>Pz kv H [v] f) kvs e/\Bnd ks e/\OkD ks dd/\OkZ kv dd/\IsDd H dd p /\
  (∀ f,outE e dd=.inl f->∀ H' v,Same H H'->Pz kv H' [v] f->Q v H')/\∀ w,outE e dd=.inr w->ErrW C E H w
section
variable {P:Program} {w:World} {K:PySem.W.Frag} {mg:Str->Option Value} {base:Heap} {f R C cR T:Addr} {fd:FuncData}
theorem ok_outZ (F:Fun K "outcome" "Run.outcome" sOut f fd) (T:Rn K cR) (GV:Me P w K mg base CX0 1 cR "valued" ["self","names"] (spValued cR)) (GR:Ca P w K mg base (CXf P w) 3 "reckoned" ["word","a","b"] (K31.spReck C)) (m_tuple:mg "tuple"=none):FnOk P w K mg base (CXf P w) 4 f fd ["self","deed"] (spOutZ cR C):=by
  refine F.byx scOut (fun vs H Q E h=>?_) (fun cdv A outer s H vs Q E hr h=>?_)
  · obtain ⟨r,dx,d,wl,nd,p,st,dn,b,en,kvs,e,ks,dd,kv,rfl,_⟩:=h
    rfl
  obtain ⟨r,dx,d,wl,nd,p,st,dn,b,en,kvs,e,ks,dd,kv,rfl,hR,hN,hE,hB,hO,hOz,hD,q1,q2⟩:=h
  have r1:Room 1 _:=hr.mono (by decide)
  refine ⟨_,
    (jss_cons (js_if (jt_cmpR jo_eq (je_ix jx_tup (jv 1) je_int (fun _ _=>rfl)) je_str (nomark _)) (jss_one (js_ret (je_ix jx_tup (jv 1) je_int (fun _ _=>rfl)))) jss_nil)
    (jss_cons (js_if (jt_cmpR jo_eq (je_ix jx_tup (jv 1) je_int (fun _ _=>rfl)) je_str (nomark _)) (jss_one (js_ret (je_ca GR hr rfl passx (ja_c (je_ix jx_tup (jv 1) je_int (fun _ _=>rfl)) (ja_c (je_dget hr (je_fld (jv 0)) (je_ix jx_tup (jv 1) je_int (fun _ _=>rfl))) (ja_c (je_dget hr (je_fld (jv 0)) (je_ix jx_tup (jv 1) je_int (fun _ _=>rfl))) ja_nil)))))) jss_nil)
    (jss_cons (js_set (i:=2) scOut.nd rfl (Or.inl rfl) (je_ifExp (jt_cmpR jo_eq (je_ix jx_tup (jv 1) je_int (fun _ _=>rfl)) je_str (nomark _)) (je_ix jx_tup (jv 1) je_int (fun _ _=>rfl)) je_never))
    (jss_one (js_ret (je_tup (ja_c (jv 2) (ja_c (je_fnTy jc_tuple_of rfl m_tuple PyProof.Rows.boot_tuple (ja_c (je_me (jv 0) T.cl GV.upx r1 passx (ja_c (je_ix jx_tup (jv 1) je_int (fun _ _=>rfl)) ja_nil)) ja_nil)) ja_nil)))))))),?_⟩
  have sl:=line0
  match dd,hO,hOz,hD with
  | .num i,hO,hOz,hD =>
    have hD:H p=some (.tup [.str "num",.int i]):=hD
    refine ⟨_,rfl,p,_,_,_,rfl,rfl,SqT.of hD,rfl,rfl,_,rfl,iteT' (by decide +kernel) ?_⟩
    exact ⟨_,rfl,p,_,_,_,rfl,rfl,SqT.of hD,atI_nat (j:=1) rfl,q1 _ rfl _ _ (Same.refl _) (.num hO .nil)⟩
  | .op ww a b',hO,hOz,hD =>
    have hD:H p=some (.tup [.str "op",.str ww,.str a,.str b']):=hD
    obtain ⟨fa,ea⟩:=hB.get hO.1
    obtain ⟨fb,eb⟩:=hB.get hO.2
    obtain ⟨va,a1,a2⟩:=hE.val ea
    obtain ⟨vb,b1,b2⟩:=hE.val eb
    refine ⟨_,rfl,p,_,_,_,rfl,rfl,SqT.of hD,rfl,rfl,_,rfl,iteF' (by decide +kernel) (nxt ?_)⟩
    refine ⟨_,rfl,p,_,_,_,rfl,rfl,SqT.of hD,rfl,rfl,_,rfl,iteT' (by decide +kernel) ?_⟩
    refine ⟨_,rfl,p,_,_,_,rfl,rfl,SqT.of hD,atI_nat (j:=1) rfl,_,rfl,r,cR,dx,_,_,rfl,hR,T.cl,T.a6,rfl,_,rfl,p,_,_,_,rfl,rfl,SqT.of hD,atI_nat (j:=2) rfl,nd,va,rfl,?_,_,rfl,r,cR,dx,_,_,rfl,hR,T.cl,T.a6,rfl,_,rfl,p,_,_,_,rfl,rfl,SqT.of hD,atI_nat (j:=3) rfl,nd,vb,rfl,?_,ww,va,vb,nf fa,nf fb,rfl,(pz_vl a2).nu,(pz_vl b2).nu,fun hf i j H' s' e1 e2=>?_,fun hf dd H' s' hd=>?_⟩
    · rw [<- a1]; exact DGet.k (k:=.inr a) hN
    · rw [<- b1]; exact DGet.k (k:=.inr b') hN
    · have eo:outE e (.op ww a b')=.inl [.int (K31.res ww i j)]:=by
        unfold outE
        dsimp only
        rw [ea,eb]
        show (if K31.fw ww (nf fa) (nf fb)="" then _ else _)=_
        rw [if_pos hf]
        show Sum.inl [V.int (K31.res ww ((nf fa).getD 0) ((nf fb).getD 0))]=_
        rw [e1,e2]
        rfl
      obtain ⟨i',j',c1,c2,c3⟩:=fw_some hf
      rw [e1] at c1
      rw [e2] at c2
      cases c1
      cases c2
      exact q1 _ eo _ _ s' (.num c3 .nil)
    · have eo:outE e (.op ww a b')=.inr (K31.fw ww (nf fa) (nf fb)):=by
        unfold outE
        dsimp only
        rw [ea,eb]
        show (if K31.fw ww (nf fa) (nf fb)="" then _ else _)=_
        rw [if_neg hf]
        rfl
      exact q2 _ eo dd H' s' hd
  | .mk t ns,hO,hOz,hD =>
    obtain ⟨pq,hD,hQ⟩:∃ q,H p=some (.tup [.str "make",.str t,.ref q])/\H q=some (.tup (ns.map V.str)):=hD
    have hall:∀ n∈ns,∃ v,valV kvs (.inr n)=some v:=fun n hn=>by
      obtain ⟨fa,ea⟩:=hB.get (hO.1 n hn)
      obtain ⟨va,a1,_⟩:=hE.val ea
      exact ⟨va,a1⟩
    have l3:=hO.2
    refine ⟨_,rfl,p,_,_,_,rfl,rfl,SqT.of hD,rfl,rfl,_,rfl,iteF' (by decide +kernel) (nxt ?_)⟩
    refine ⟨_,rfl,p,_,_,_,rfl,rfl,SqT.of hD,rfl,rfl,_,rfl,iteF' (by decide +kernel) (nxt ?_)⟩
    refine ⟨_,rfl,p,_,_,_,rfl,rfl,SqT.of hD,rfl,rfl,_,rfl,iteT' (by decide +kernel) ?_⟩
    refine ⟨_,rfl,p,_,_,_,rfl,rfl,SqT.of hD,atI_nat (j:=1) rfl,?_⟩
    refine ⟨_,rfl,_,rfl,r,dx,_,rfl,hR,rfl,_,rfl,p,_,_,_,rfl,rfl,SqT.of hD,atI_nat (j:=2) rfl,r,dx,d,wl,nd,pq,st,dn,b,en,kvs,ns,rfl,hR,hN,hQ,hall,by omega,fun H1 l s1 _ hl=>?_⟩
    refine ⟨l,_,rfl,.inl ⟨SqL.of hl,fun tp htp=>⟨by show 2<=sizeLine; decide,fun tv htv=>?_⟩⟩⟩
    have n1:=(same_new htp (.tup (vals kvs ns))).new (o:=.tup [.str t,.ref tp]) htv
    have s2:=s1.trans n1
    refine q1 _ rfl _ _ s2 ?_
    have hsz:szOf kv t=some (vals kvs ns).length:=by unfold vals; rw [List.length_map]; exact hOz t ns rfl
    have:=Pz.shp (kvs:=kv) (vs:=[]) (ys:=[]) (upd_same (H:=upd H1 tp (.tup (vals kvs ns))) (a:=tv) (o:=.tup [.str t,.ref tp])) (old htv upd_same) hsz (by unfold vals; rw [List.length_map]; omega) (Pz.flat (fs:=ns.map fun n=>(valE e n).getD []) (by unfold vals; rw [List.length_map,List.length_map]) fun j v f h1 h2=>?_) .nil
    · rw [List.append_nil] at this
      exact this
    · unfold vals at h1
      rw [List.getElem?_map] at h1 h2
      obtain ⟨n,hn,rfl⟩:=Option.map_eq_some_iff.mp h1
      rw [hn] at h2
      have h2:some ((valE e n).getD [])=some f:=h2
      cases h2
      obtain ⟨fa,ea⟩:=hB.get (hO.1 n (List.mem_of_getElem? hn))
      obtain ⟨va,a1,a2⟩:=hE.val ea
      rw [a1,ea]
      exact a2.keep (.of s2)
end
end GN
namespace GN
open PySem L2 K11
structure Wn (K:PySem.W.Frag) (cW:Addr):Prop where
  cl:Cls K cW
  b1:NoAttr K cW "wants"
  b2:NoAttr K cW "body"
  b3:NoAttr K cW "names"
def WO (cW dx:Addr) (n:Str) (pb nd:Addr):HO:=.ins cW dx [("wants",.str n),("body",.ref pb),("names",.ref nd)]
def spWInit (cW:Addr):Sp:=fun vs H Q _=>∃ (x dx pb nd:Addr) (n:Str),vs=[.ref x,.str n,.ref pb,.ref nd]/\H x=some (.ins cW dx [])/\∀ H',KX [x] H H'->H' x=some (WO cW dx n pb nd)->Q .non H'
def spCall (cR:Addr):Sp:=fun vs H Q _=>∃ (r dx d wl nd vl bh one pp pb:Addr) (st dn:Int) (b:V) (n:Str) (kvs:List (Key × V)) (ps:List Str) (us ws:List V),vs=[.ref r,.ref bh,.str n,.ref vl]/\H r=some (RO cR dx d st dn wl b nd .non)/\H wl=some (.lst ws)/\ws.length<=10000/\H d=some (.dK kvs)/\valV kvs (.inr n)=some (.ref one)/\H one=some (.tup [.str n,.ref pp,.ref pb])/\H pp=some (.tup (ps.map V.str))/\ps.Nodup/\H vl=some (.lst us)/\vl≠wl/\ps.length=us.length /\
  (dn=st->∀ H' tp,KX [r] H H'->H' r=some (RO cR dx d st dn wl b nd (.ref tp))->H' tp=some (.tup [.str "late",.int st])->Q .non H') /\
  (dn≠st->∀ H' nd',KX [r,wl] H H'->H nd'=none->H' r=some (RO cR dx d st (dn + 1) wl (.ref pb) nd' .non)->H' wl=some (.lst (ws ++ [.ref bh]))->H' nd'=some (.dK (zkv ps us))->Q .non H')
section
variable {P:Program} {w:World} {K:PySem.W.Frag} {mg:Str->Option Value} {base:Heap} {f R C cR cW T:Addr} {fd:FuncData}
theorem scWInit:FnScope ["self","wants","body","names"] ["self","wants","body","names"] (defScope sWInit):=⟨rfl,rfl,rfl,by decide +kernel,rfl,by decide +kernel,by decide +kernel⟩
theorem ok_winit (F:Fun K "__init__" "Waiting.__init__" sWInit f fd) (N:Wn K cW):FnOk P w K mg base CX0 1 f fd ["self","wants","body","names"] (spWInit cW):=by
  refine F.by scWInit (fun vs H Q E h=>?_) (fun cdv A outer s H vs Q E hr h=>?_)
  · obtain ⟨x,dx,pb,nd,n,rfl,_⟩:=h
    rfl
  obtain ⟨x,dx,pb,nd,n,rfl,hx,q⟩:=h
  refine ⟨_,(jss_cons (js_fld (jv 0) (jv 1)) (jss_cons (js_fld (jv 0) (jv 2)) (jss_one (js_fld (jv 0) (jv 3))))),?_⟩
  refine ⟨_,rfl,_,rfl,x,cW,dx,_,rfl,hx,N.cl,N.b1,by show 0 < 1000; decide,?_⟩
  refine ⟨_,rfl,_,rfl,x,cW,dx,_,rfl,upd_same,N.cl,N.b2,by show 1 < 1000; decide,?_⟩
  refine ⟨_,rfl,_,rfl,x,cW,dx,_,rfl,upd_same,N.cl,N.b3,by show 2 < 1000; decide,?_⟩
  exact q _ (((KX.refl.put (by simp)).put (by simp)).put (by simp)) upd_same
theorem scCallR:FnScope ["self","behind","name","values"] ["self","behind","name","values"] (defScope sCall):=⟨rfl,rfl,rfl,by decide +kernel,rfl,by decide +kernel,by decide +kernel⟩
theorem ok_call (F:Fun K "call" "Run.call" sCall f fd) (N:Rn K cR) (GB:Me P w K mg base CX0 1 cR "begin_def" ["self","name","values"] (spBegin cR)):FnOk P w K mg base CX0 2 f fd ["self","behind","name","values"] (spCall cR):=by
  refine F.by scCallR (fun vs H Q E h=>?_) (fun cdv A outer s H vs Q E hr h=>?_)
  · obtain ⟨r,dx,d,wl,nd,vl,bh,one,pp,pb,st,dn,b,n,kvs,ps,us,ws,rfl,_⟩:=h
    rfl
  obtain ⟨r,dx,d,wl,nd,vl,bh,one,pp,pb,st,dn,b,n,kvs,ps,us,ws,rfl,hR,hW,lw,hd,hv,h1,hp,hn,hl,nvw,ll,q1,q2⟩:=h
  refine ⟨_,
    (jss_cons (js_if (jt_cmpR jo_eq (je_fld (jv 0)) (je_fld (jv 0)) (nomark _))
      (jss_cons (js_fld (jv 0) (je_tup (ja_c je_str (ja_c (je_fld (jv 0)) ja_nil)))) (jss_one js_retN)) jss_nil)
    (jss_cons (js_fld (jv 0) (je_op jo_add (je_fld (jv 0)) je_int))
    (jss_cons (js_expr (je_bm PySem.F.plainAttrs_list PySem.F.slot_list_append PySem.F.type_list_append jm_append (je_fld (jv 0)) (ja_c (jv 1) ja_nil)))
    (jss_one (js_expr (je_me (jv 0) N.cl GB hr pass0 (ja_c (jv 2) (ja_c (jv 3) ja_nil)))))))),?_⟩
  have sl:=line0
  have nwr:wl≠r:=fun z=>by
    rw [z,hR] at hW
    cases hW
  refine ⟨_,rfl,r,cR,dx,_,_,rfl,hR,N.cl,N.a3,rfl,_,rfl,r,cR,dx,_,_,rfl,hR,N.cl,N.a2,rfl,rfl,_,rfl,ite2 (fun c=>?_) (fun c=>nxt ?_)⟩
  · have c:dn=st:=V.int.inj (of_decide_eq_true c)
    refine ⟨_,rfl,r,cR,dx,_,_,rfl,hR,N.cl,N.a2,rfl,by show 2<=sizeLine; decide,fun tp htp=>?_⟩
    have nrt:r≠tp:=ne_of_none hR htp
    refine ⟨_,rfl,r,cR,dx,_,rfl,by rw [upd_ne nrt]; exact hR,N.cl,N.a7,by show 7 < 1000; decide,?_⟩
    exact q1 c _ tp ((KX.refl.new htp).put (by simp)) upd_same (by rw [upd_ne nrt.symm]; exact upd_same)
  · have c:dn≠st:=fun e=>c (decide_eq_true (by rw [e]))
    refine ⟨_,rfl,r,cR,dx,_,_,rfl,hR,N.cl,N.a3,rfl,_,_,rfl,rfl,_,rfl,r,cR,dx,_,rfl,hR,N.cl,N.a3,by show 7 < 1000; decide,?_⟩
    have k1:KX [r] H (upd H r (.ins cR dx (putF "done" (.int (dn + 1)) (RF d st dn wl b nd .non)))):=KX.refl.put (by simp)
    have r1:upd H r (.ins cR dx (putF "done" (.int (dn + 1)) (RF d st dn wl b nd .non))) r=some (RO cR dx d st (dn + 1) wl b nd .non):=upd_same
    generalize upd H r (.ins cR dx (putF "done" (.int (dn + 1)) (RF d st dn wl b nd .non)))=H1 at *
    have hW1:=k1 _ _ (by simp [nwr]) hW
    refine ⟨_,rfl,r,cR,dx,_,_,rfl,r1,N.cl,N.a4,rfl,.inl ⟨rfl,_,SqL.of hW1⟩,_,rfl,wl,_,_,rfl,rfl,hW1,by omega,?_⟩
    have k2:KX [r,wl] H (upd H1 wl (.lst (ws ++ [.ref bh]))):=(k1.mono (by simp)).put (by simp)
    have r2:upd H1 wl (.lst (ws ++ [.ref bh])) r=some (RO cR dx d st (dn + 1) wl b nd .non):=by rw [upd_ne nwr.symm]; exact r1
    have w2:=upd_same (H:=H1) (a:=wl) (o:=.lst (ws ++ [.ref bh]))
    generalize upd H1 wl (.lst (ws ++ [.ref bh]))=H2 at *
    have kp:∀ {z:Addr} {o:HO},H z=some o->z≠r->z≠wl->H2 z=some o:=fun {z o} e n1 n2=>k2 _ _ (by simp [n1,n2]) e
    have nr:∀ {z:Addr} {o:HO},H z=some o->(∀ C dx fs,o≠.ins C dx fs)->z≠r:=fun {z o} e n c=>by
      rw [c,hR] at e
      cases e
      exact n _ _ _ rfl
    have hd2:=kp hd (nr hd (by intro _ _ _ z; cases z)) (ne_of hd hW (by intro z; cases z))
    have h12:=kp h1 (nr h1 (by intro _ _ _ z; cases z)) (ne_of h1 hW (by intro z; cases z))
    have hp2:=kp hp (nr hp (by intro _ _ _ z; cases z)) (ne_of hp hW (by intro z; cases z))
    have hl2:=kp hl (nr hl (by intro _ _ _ z; cases z)) nvw
    refine ⟨_,rfl,r,dx,_,rfl,r2,rfl,_,rfl,_,rfl,r,dx,d,wl,nd,vl,one,pp,pb,st,dn + 1,b,n,kvs,ps,us,rfl,r2,hd2,hv,h12,hp2,hn,hl2,ll,fun H3 nd' k3 f3 g1 g2=>?_⟩
    have fn:H nd'=none:=by
      cases e:H nd' with
      | none=>rfl
      | some o =>
        by_cases z1:nd'=r
        · rw [z1,r2] at f3; cases f3
        by_cases z2:nd'=wl
        · rw [z2,w2] at f3; cases f3
        rw [kp e z1 z2] at f3
        cases f3
    exact q2 c H3 nd' (k2.trans (k3.mono (by simp))) fn g1 (k3 _ _ (by simp [nwr]) w2) g2
end
end GN
namespace GN
open PySem L2 K11
def spGiveG (cR cW T:Addr):Sp:=fun vs H Q _=>∃ (r dx d wl nd:Addr) (st dn:Int) (b v:V) (f:List V) (ws:List V),vs=[.ref r,v]/\H r=some (RO cR dx d st dn wl b nd .non)/\H wl=some (.lst ws)/\ws.length<=10000/\Tb T H/\Vl H v f /\
  (ws=[]->∀ H' tp l,KX [r,T] H H'->Tb T H'->H' r=some (RO cR dx d st dn wl b nd (.ref tp))->H' tp=some (.tup [.str "told",.ref l])->H' l=some (.lst (f.take 100))->H l=none->Q .non H') /\
  (ws≠[]->∃ (ws':List V) (x dxw pb nd2:Addr) (n:Str) (ks:List (Key × V)),ws=ws' ++ [.ref x]/\H x=some (WO cW dxw n pb nd2)/\H nd2=some (.dK ks)/\ks.length<=1000/\∀ H',KX [r,wl,nd2] H H'->H' r=some (RO cR dx d st dn wl (.ref pb) nd2 .non)->H' wl=some (.lst ws')->H' nd2=some (.dK (putK ks (.inr n) v))->Q .non H')
section
variable {P:Program} {w:World} {K:PySem.W.Frag} {mg:Str->Option Value} {base:Heap} {f R C cR cW T:Addr} {fd:FuncData}
theorem scGiveG:FnScope ["self","value","last"] ["self","value"] (defScope sGive):=⟨rfl,rfl,rfl,by decide +kernel,rfl,by decide +kernel,by decide +kernel⟩
theorem ok_giveG (F:Fun K "give" "Run.give" sGive f fd) (N:Rn K cR) (W:Wn K cW) (GP:CaD P w K mg base CX0 3 "parts_of" ["value","most"] [.int 100] (spParts T)) (m_len:mg "len"=none):FnOk P w K mg base CX0 4 f fd ["self","value"] (spGiveG cR cW T):=by
  refine F.by scGiveG (fun vs H Q E h=>?_) (fun cdv A outer s H vs Q E hr h=>?_)
  · obtain ⟨r,dx,d,wl,nd,st,dn,b,v,ff,ws,rfl,_⟩:=h
    rfl
  obtain ⟨r,dx,d,wl,nd,st,dn,b,v,ff,ws,rfl,hR,hW,lw,hT,hv,q1,q2⟩:=h
  refine ⟨_,
    (jss_one (js_if (jt_cmpR jo_eq (je_fnB jc_len_seq rfl m_len PySem.boot_len (ja_c (je_fld (jv 0)) ja_nil)) je_int (nomark _))
      (jss_one (js_fld (jv 0) (je_tup (ja_c je_str (ja_c (je_caD GP hr rfl pass0 (ja_c (jv 1) ja_nil)) ja_nil)))))
      (jss_cons (js_set (i:=2) scGiveG.nd rfl (Or.inl rfl) (je_bm0 PySem.F.plainAttrs_list PySem.F.slot_list_pop PySem.F.type_list_pop jm_pop (je_fld (jv 0))))
      (jss_cons (js_fld (jv 0) (je_fld (jv 2)))
      (jss_cons (js_fld (jv 0) (je_fld (jv 2)))
      (jss_one (js_dput hr (je_fld (jv 0)) (je_fld (jv 2)) (jv 1)))))))),?_⟩
  have sl:=line0
  have nwr:wl≠r:=fun z=>by
    rw [z,hR] at hW
    cases hW
  by_cases c:ws=[]
  · have hW:H wl=some (.lst []):=by rw [<- c]; exact hW
    refine ⟨_,rfl,r,cR,dx,_,_,rfl,hR,N.cl,N.a4,rfl,wl,_,rfl,.inl (SqL.of hW),rfl,_,rfl,iteT' rfl ?_⟩
    obtain ⟨ps0,hTt⟩:=hT.tbl
    have nTr:r≠T:=fun z=>by
      rw [z,hTt] at hR
      cases hR
    refine ⟨_,rfl,v,100,ff,rfl,by decide,hT,hv.1,fun H1 l k1 T1 hl0 hl=>⟨by show 2<=sizeLine; decide,fun tp htp=>?_⟩⟩
    have hR1:=k1 _ _ nTr hR
    have nrl:r≠tp:=ne_of_none hR1 htp
    refine ⟨_,rfl,r,cR,dx,_,rfl,by rw [upd_ne nrl]; exact hR1,N.cl,N.a7,by show 7 < 1000; decide,?_⟩
    have n2:=same_new htp (.tup [.str "told",.ref l])
    have nlr:l≠r:=fun z=>by
      rw [z,hR] at hl0
      cases hl0
    refine q1 c _ tp l ?_ ?_ upd_same (by rw [upd_ne nrl.symm]; exact upd_same) (by rw [upd_ne nlr]; exact n2 _ _ hl) hl0
    · have:KX [r,T] H H1:=fun a o na ha=>k1 a o (fun z=>na (by simp [z])) ha
      exact (this.new htp).put (by simp)
    · obtain ⟨ps,e1,e2⟩:=T1.same n2
      refine ⟨ps,by rw [upd_ne nTr.symm]; exact e1,?_⟩
      rcases e2 with e2 | ⟨c,e2,e3⟩
      · exact .inl e2
      · exact .inr ⟨c,e2,by rw [upd_ne (ne_of e3 (n2 _ _ hR1) (by unfold CodO RO; intro z; cases z))]; exact e3⟩
  · obtain ⟨ws',x,dxw,pb,nd2,n,ks,ews,hx,hk,lk,q⟩:=q2 c
    have l0:ws.length≠0:=fun e=>c (List.length_eq_zero_iff.mp e)
    refine ⟨_,rfl,r,cR,dx,_,_,rfl,hR,N.cl,N.a4,rfl,wl,_,rfl,.inl (SqL.of hW),rfl,_,rfl,iteF' (decide_eq_false (by intro e; injection e with e; omega)) ?_⟩
    refine ⟨_,rfl,r,cR,dx,_,_,rfl,hR,N.cl,N.a4,rfl,.inl ⟨rfl,_,SqL.of hW⟩,wl,_,.ref x,rfl,rfl,hW,by rw [ews,List.length_append]; simp,?_⟩
    rw [ews,List.dropLast_concat]
    have r1:upd H wl (.lst ws') r=some (RO cR dx d st dn wl b nd .non):=by rw [upd_ne nwr.symm]; exact hR
    have x1:upd H wl (.lst ws') x=some (WO cW dxw n pb nd2):=by rw [upd_ne (ne_of hx hW (by intro z; cases z))]; exact hx
    have k1:upd H wl (.lst ws') nd2=some (.dK ks):=by rw [upd_ne (ne_of hk hW (by intro z; cases z))]; exact hk
    have w1:=upd_same (H:=H) (a:=wl) (o:=.lst ws')
    have kx1:KX [r,wl,nd2] H (upd H wl (.lst ws')):=KX.refl.put (by simp)
    generalize upd H wl (.lst ws')=H1 at *
    have nxr:x≠r:=fun z=>by
      rw [z,r1] at x1
      have:(7:Nat)=3:=congrArg (fun o:Option HO=>match o with | some (.ins _ _ fs)=>fs.length | _=>0) x1
      exact absurd this (by decide)
    have nkr:nd2≠r:=fun z=>by
      rw [z,r1] at k1
      cases k1
    refine ⟨_,rfl,x,cW,dxw,_,_,rfl,x1,W.cl,W.b2,rfl,_,rfl,r,cR,dx,_,rfl,r1,N.cl,N.a5,by show 7 < 1000; decide,?_⟩
    refine ⟨_,rfl,x,cW,dxw,_,_,rfl,by rw [upd_ne nxr]; exact x1,W.cl,W.b3,rfl,_,rfl,r,cR,dx,_,rfl,upd_same,N.cl,N.a6,by show 7 < 1000; decide,?_⟩
    refine ⟨_,rfl,_,rfl,r,cR,dx,_,_,rfl,upd_same,N.cl,N.a6,rfl,_,rfl,x,cW,dxw,_,_,rfl,by rw [upd_ne nxr,upd_ne nxr]; exact x1,W.cl,W.b1,rfl,nd2,_,rfl,DPut.k (k:=.inr n) (by rw [upd_ne nkr,upd_ne nkr]; exact k1) (by omega),?_⟩
    refine q _ (((kx1.put (by simp)).put (by simp)).put (by simp)) (by rw [upd_ne nkr.symm]; exact upd_same) ?_ upd_same
    have nwk:wl≠nd2:=ne_of w1 k1 (by intro z; cases z)
    rw [upd_ne nwk,upd_ne nwr,upd_ne nwr]
    exact w1
end
end GN
namespace L2
open PySem
theorem Ma.upx {P:Program} {w:World} {K:PySem.W.Frag} {mg:Str->Option Value} {base:Heap} {CX:CXT} {k:Nat} {x:Str} {C:Addr} {ps:List Str} {sp:Sp} (h:Ma P w K mg base CX0 k x C ps sp):Ma P w K mg base CX k x C ps sp:=let ⟨f,fd,m,a,r⟩:=h.ex; ⟨f,fd,m,a.upx,r⟩
end L2
namespace GN
open PySem L2 K11
abbrev Ez (kv:Kvs) (H:Hp) (ks:List (Key × V)) (e:En):Prop:=ER (fun v f=>Pz kv H [v] f) ks e
def spLetD (cR C:Addr):Sp:=fun vs H Q E=>∃ (r dx d wl nd p pb:Addr) (st dn:Int) (b:V) (n:Str) (kvs:List (Key × V)) (e:En) (ks:List Str) (dd:Dd) (kv:Kvs),vs=[.ref r,.str n,.ref p,.ref pb]/\H r=some (RO cR dx d st dn wl b nd .non)/\H nd=some (.dK kvs)/\kvs.length<=1000/\Ez kv H kvs e/\Bnd ks e/\OkD ks dd/\OkZ kv dd/\IsDd H dd p /\
  (∀ f,outE e dd=.inl f->∀ H' kvs',KX [r,nd] H H'->H' r=some (RO cR dx d st dn wl (.ref pb) nd .non)->H' nd=some (.dK kvs')->Ez kv H' kvs' (putE e n f)->kvs'.length<=kvs.length + 1->Q .non H')/\∀ w,outE e dd=.inr w->ErrW C E H w
def spLetC (cR cW:Addr):Sp:=fun vs H Q _=>∃ (r dx d wl nd p pb pq one pp pb2:Addr) (st dn:Int) (b:V) (n g:Str) (kvs dks:List (Key × V)) (ns ps:List Str) (ws:List V),vs=[.ref r,.str n,.ref p,.ref pb]/\H r=some (RO cR dx d st dn wl b nd .non)/\H nd=some (.dK kvs)/\H p=some (.tup [.str "call",.str g,.ref pq])/\H pq=some (.tup (ns.map V.str))/\(∀ n∈ns,∃ v,valV kvs (.inr n)=some v)/\ns.length<=1000/\H wl=some (.lst ws)/\ws.length<=10000/\H d=some (.dK dks)/\valV dks (.inr g)=some (.ref one)/\H one=some (.tup [.str g,.ref pp,.ref pb2])/\H pp=some (.tup (ps.map V.str))/\ps.Nodup/\ps.length=ns.length /\
  (dn=st->∀ H' tp,KX [r] H H'->H' r=some (RO cR dx d st dn wl b nd (.ref tp))->H' tp=some (.tup [.str "late",.int st])->Q .non H') /\
  (dn≠st->∀ H' nd' x dxw,KX [r,wl] H H'->H nd'=none->H x=none->H' r=some (RO cR dx d st (dn + 1) wl (.ref pb2) nd' .non)->H' wl=some (.lst (ws ++ [.ref x]))->H' x=some (WO cW dxw n pb nd)->H' nd'=some (.dK (zkv ps (vals kvs ns)))->Q .non H')
def spLetG (cR cW C:Addr):Sp:=fun vs H Q E=>spLetD cR C vs H Q E\/spLetC cR cW vs H Q E
section
variable {P:Program} {w:World} {K:PySem.W.Frag} {mg:Str->Option Value} {base:Heap} {f R C cR cW T:Addr} {fd:FuncData}
theorem scLetG:FnScope ["self","wants","deed","body"] ["self","wants","deed","body"] (defScope sLet):=⟨rfl,rfl,rfl,by decide +kernel,rfl,by decide +kernel,by decide +kernel⟩
theorem Dd.wordG {H:Hp}:∀ {dd:Dd} {p:Addr},IsDd H dd p->∃ z rest,H p=some (.tup (.str z :: rest))/\z≠"call"/\z≠"ask"
  | .num i,p,h=>⟨_,_,h,by decide +kernel,by decide +kernel⟩
  | .op _ _ _,p,h=>⟨_,_,h,by decide +kernel,by decide +kernel⟩
  | .mk _ _,p,⟨q,h,_⟩=>⟨_,_,h,by decide +kernel,by decide +kernel⟩
theorem ok_letG (F:Fun K "let" "Run.let" sLet f fd) (N:Rn K cR) (GO:Me P w K mg base (CXf P w) 4 cR "outcome" ["self","deed"] (spOutZ cR C)) (GC:Me P w K mg base CX0 2 cR "call" ["self","behind","name","values"] (spCall cR)) (GV:Me P w K mg base CX0 1 cR "valued" ["self","names"] (spValued cR)) (GW:Ma P w K mg base CX0 1 "Waiting" cW ["self","wants","body","names"] (spWInit cW)):FnOk P w K mg base (CXf P w) 5 f fd ["self","wants","deed","body"] (spLetG cR cW C):=by
  refine F.byx scLetG (fun vs H Q E h=>?_) (fun cdv A outer s H vs Q E hr h=>?_)
  · rcases h with h | h
    · obtain ⟨r,dx,d,wl,nd,p,pb,st,dn,b,n,kvs,e,ks,dd,kv,rfl,_⟩:=h
      rfl
    · obtain ⟨r,dx,d,wl,nd,p,pb,pq,one,pp,pb2,st,dn,b,n,g,kvs,dks,ns,ps,ws,rfl,_⟩:=h
      rfl
  have r1:Room 1 _:=hr.mono (by decide)
  have r2:Room 2 _:=hr.mono (by decide)
  refine ⟨_,
    (jss_one (js_if (jt_cmpR jo_eq (je_ix jx_tup (jv 2) je_int (fun _ _=>rfl)) je_str (nomark _))
      (jss_one (js_expr (je_me (jv 0) N.cl GC.upx r2 passx (ja_c (je_ma GW.upx r2 rfl passx (ja_c (jv 1) (ja_c (jv 3) (ja_c (je_fld (jv 0)) ja_nil)))) (ja_c (je_ix jx_tup (jv 2) je_int (fun _ _=>rfl)) (ja_c (je_me (jv 0) N.cl GV.upx r1 passx (ja_c (je_ix jx_tup (jv 2) je_int (fun _ _=>rfl)) ja_nil)) ja_nil))))))
      (jss_one (js_if (jt_cmpR jo_eq (je_ix jx_tup (jv 2) je_int (fun _ _=>rfl)) je_str (nomark _)) (jss_one js_never)
        (jss_cons (js_dput hr (je_fld (jv 0)) (jv 1) (je_me (jv 0) N.cl GO hr passx (ja_c (jv 2) ja_nil)))
        (jss_one (js_fld (jv 0) (jv 3)))))))),?_⟩
  have sl:=line0
  rcases h with h | h
  · obtain ⟨r,dx,d,wl,nd,p,pb,st,dn,b,n,kvs,e,ks,dd,kv,rfl,hR,hN,hk,hE,hB,hO,hOz,hD,q1,q2⟩:=h
    obtain ⟨z,rest,hz,z1,z2⟩:=Dd.wordG hD
    refine ⟨_,rfl,p,_,_,_,rfl,rfl,SqT.of hz,atI_nat (j:=0) rfl,rfl,_,rfl,iteF' (decide_eq_false fun h=>z1 (V.str.inj h)) ?_⟩
    refine ⟨_,rfl,p,_,_,_,rfl,rfl,SqT.of hz,atI_nat (j:=0) rfl,rfl,_,rfl,iteF' (decide_eq_false fun h=>z2 (V.str.inj h)) ?_⟩
    refine ⟨_,rfl,r,dx,_,rfl,hR,rfl,_,rfl,r,dx,d,wl,nd,p,st,dn,b,.non,kvs,e,ks,dd,kv,rfl,hR,hN,hE,hB,hO,hOz,hD,fun ff ho H1 v s1 hv=>?_,fun w hw=>q2 w hw⟩
    have hR1:=s1 _ _ hR
    have hN1:=s1 _ _ hN
    have nrn:nd≠r:=fun z=>by
      rw [z,hR] at hN
      cases hN
    refine ⟨_,rfl,r,cR,dx,_,_,rfl,hR1,N.cl,N.a6,rfl,_,rfl,nd,_,rfl,DPut.k (k:=.inr n) hN1 (by omega),?_⟩
    refine ⟨_,rfl,_,rfl,r,cR,dx,_,rfl,by rw [upd_ne nrn.symm]; exact hR1,N.cl,N.a5,by show 7 < 1000; decide,?_⟩
    have tu:Tups H1 (upd (upd H1 nd (.dK (putK kvs (.inr n) v))) r (RO cR dx d st dn wl (.ref pb) nd .non)):=fun a xs ha=>by
      rw [upd_ne (ne_of ha hR1 (by intro z; cases z)),upd_ne (ne_of ha hN1 (by intro z; cases z))]
      exact ha
    refine q1 ff ho _ (putK kvs (.inr n) v) (((KX.of s1).put (by simp)).put (by simp)) upd_same (by rw [upd_ne nrn]; exact upd_same) ?_ (putK_len _ _ _)
    exact ((hE.mono fun v f h=>h.keep (.of s1)).put hv).mono fun v f h=>h.keep tu
  · obtain ⟨r,dx,d,wl,nd,p,pb,pq,one,pp,pb2,st,dn,b,n,g,kvs,dks,ns,ps,ws,rfl,hR,hN,hp,hpq,hall,l1000,hW,lw,hd,hv,h1,hpp,hnd,ll,q1,q2⟩:=h
    refine ⟨_,rfl,p,_,_,_,rfl,rfl,SqT.of hp,atI_nat (j:=0) rfl,rfl,_,rfl,iteT' (by decide +kernel) ?_⟩
    refine ⟨_,rfl,r,dx,_,rfl,hR,rfl,_,rfl,_,rfl,_,rfl,r,cR,dx,_,_,rfl,hR,N.cl,N.a6,rfl,fun x dxw hx0 hdx0 ndx=>?_⟩
    have n3:=(same_new hdx0 (.own x)).new (o:=.ins cW dxw []) (by rw [upd_ne (Ne.symm ndx)]; exact hx0)
    have hx3:=upd_same (H:=upd H dxw (.own x)) (a:=x) (o:=.ins cW dxw [])
    generalize upd (upd H dxw (.own x)) x (.ins cW dxw [])=H3 at *
    refine ⟨x,dxw,pb,nd,n,rfl,hx3,fun H4 k4 hx4=>⟨rfl,?_⟩⟩
    have s4:Same H H4:=fun z o e=>k4 _ _ (by
      intro c
      rw [List.mem_singleton.mp c,hx0] at e
      cases e) (n3 _ _ e)
    refine ⟨_,rfl,p,_,_,_,rfl,rfl,SqT.of (s4 _ _ hp),atI_nat (j:=1) rfl,_,rfl,r,dx,_,rfl,s4 _ _ hR,rfl,_,rfl,p,_,_,_,rfl,rfl,SqT.of (s4 _ _ hp),atI_nat (j:=2) rfl,r,dx,d,wl,nd,pq,st,dn,b,.non,kvs,ns,rfl,s4 _ _ hR,s4 _ _ hN,s4 _ _ hpq,hall,l1000,fun H5 vl s5 fvl hvl=>?_⟩
    have s45:=s4.trans s5
    refine ⟨r,dx,d,wl,nd,vl,x,one,pp,pb2,st,dn,b,g,dks,ps,_,ws,rfl,s45 _ _ hR,s45 _ _ hW,lw,s45 _ _ hd,hv,s45 _ _ h1,s45 _ _ hpp,hnd,hvl,fun z=>(by rw [z,s4 _ _ hW] at fvl; cases fvl),by unfold vals; rw [List.length_map]; exact ll,fun c H' tp k' g1 g2=>?_,fun c H' nd' k' f' g1 g2 g3=>?_⟩
    · exact q1 c H' tp ((KX.of s45).trans k') g1 g2
    · have nxr:x≠r:=fun z=>by
        rw [z,hR] at hx0
        cases hx0
      have nxw:x≠wl:=fun z=>by
        rw [z,hW] at hx0
        cases hx0
      exact q2 c H' nd' x dxw ((KX.of s45).trans k') (s45.free f') hx0 g1 g2 (k' _ _ (by simp [nxr,nxw]) (s5 _ _ hx4)) g3
end
end GN
namespace GN
open PySem L2 K11
def Ans (H:Hp) (p:Addr):List V ⊕ Str->Prop
  | .inl f=>∃ l,H p=some (.tup [.str "told",.ref l])/\H l=some (.lst (f.take 100))
  | .inr w=>H p=some (.tup [.str "fault",.str w])
structure Wt where
  n:Str
  b:Bd
  e:En
inductive Rs
  | go (b:Bd) (e:En) (ts:List Wt) (k:Nat)
  | told (f:List V)
  | late
  | fault (w:Str)
abbrev Dfl:=List (Str × List Str × Bd)
def dfOf (ds:Dfl) (g:Str):Option (Str × List Str × Bd):=ds.find? fun a=>decide (a.1=g)
abbrev prt (e:En) (x:Str):List V:=(valE e x).getD []
def stp (kv:Kvs) (ds:Dfl) (st:Int):Bd->En->List Wt->Nat->Rs
  | .give x,e,[],_=>.told (prt e x)
  | .give x,e,t :: r,k=>.go t.b (putE t.e t.n (prt e x)) r k
  | .iff x b c,e,ts,k=>match nf (prt e x) with
    | some i=>if i≠0 then .go b e ts k else .go c e ts k
    | none=>.fault "nonumber"
  | .cs x as,e,ts,k=>match fnd as (tgf (prt e x)) with
    | none=>.fault "noshape"
    | some a=>.go a.2.2 (putA e a.2.1 (pcs kv 1 (prt e x).tail [])) ts k
  | .lt n (.dd d) b,e,ts,k=>match outE e d with
    | .inl f=>.go b (putE e n f) ts k
    | .inr w=>.fault w
  | .lt n (.call g ns) b,e,ts,k=>if (k:Int)=st then .late else match dfOf ds g with
    | some a=>.go a.2.2 (a.2.1.zip (ns.map (prt e))) (⟨n,b,e⟩ :: ts) (k + 1)
    | none=>.fault ""
mutual
def OkX (kv:Kvs) (ds:Dfl):List Str->Bd->Prop
  | ks,.give x=>x∈ks
  | ks,.iff x b c=>x∈ks/\OkX kv ds ks b/\OkX kv ds ks c
  | ks,.cs x as=>x∈ks/\OkXs kv ds ks as
  | ks,.lt n d b=>(match d with
    | .dd d=>OkD ks d/\OkZ kv d
    | .call g ns=>(∀ m∈ns,m∈ks)/\ns.length<=9/\∃ a,dfOf ds g=some a/\a.2.1.length=ns.length)/\OkX kv ds (ks ++ [n]) b
def OkXs (kv:Kvs) (ds:Dfl):List Str->Arms->Prop
  | _,.nil=>True
  | ks,.cons t ns b r=>t≠""/\szOf kv t=some ns.length/\OkX kv ds (ks ++ ns) b/\OkXs kv ds ks r
end
theorem OkXs.at {kv:Kvs} {ds:Dfl} {ks:List Str}:∀ {as:Arms},OkXs kv ds ks as->∀ a∈as.hs,a.1≠""/\szOf kv a.1=some a.2.1.length/\OkX kv ds (ks ++ a.2.1) a.2.2
  | .nil,_,a,h=>by cases h
  | .cons t ns b r,g,a,h=>by
    rcases List.mem_cons.mp h with rfl | h
    · exact ⟨g.1,g.2.1,g.2.2.1⟩
    · exact OkXs.at g.2.2.2 a h
theorem OkXs.okA {kv:Kvs} {ds:Dfl} {ks:List Str} {as:Arms} (h:OkXs kv ds ks as):OkA kv as:=fun a ha=>⟨(h.at a ha).1,(h.at a ha).2.1⟩
structure Dfs (kv:Kvs) (H:Hp) (d:Addr) (ds:Dfl):Prop where
  ex:∃ dks,H d=some (.dK dks)/\∀ g a,dfOf ds g=some a->∃ one pp pb,valV dks (.inr g)=some (.ref one)/\H one=some (.tup [.str g,.ref pp,.ref pb])/\H pp=some (.tup (a.2.1.map V.str))/\IsBd H a.2.2 pb
  ok:∀ a∈ds,a.2.1.Nodup/\a.2.1.length<=9/\OkX kv ds a.2.1 a.2.2/\a.2.2.sz<=700
def Stk (kv:Kvs) (ds:Dfl) (cW:Addr) (H:Hp):List Addr->List Addr->List Wt->Prop
  | [],[],[]=>True
  | x :: ws,nd :: nds,t :: ts=>(∃ dxw pb ks,H x=some (WO cW dxw t.n pb nd)/\IsBd H t.b pb/\H nd=some (.dK ks)/\Ez kv H ks t.e/\ks.length + t.b.sz + 1<=900/\∃ nm,Bnd nm t.e/\OkX kv ds (nm ++ [t.n]) t.b)/\Stk kv ds cW H ws nds ts
  | _,_,_=>False
theorem Stk.keep {kv:Kvs} {ds:Dfl} {cW:Addr} {H H':Hp} (tu:Tups H H'):∀ {ws nds:List Addr} {ts:List Wt},Stk kv ds cW H ws nds ts->(∀ x dxw n pb nd,H x=some (WO cW dxw n pb nd)->H' x=some (WO cW dxw n pb nd))->(∀ nd∈nds,∀ ks,H nd=some (.dK ks)->H' nd=some (.dK ks))->Stk kv ds cW H' ws nds ts
  | [],[],[],_,_,_=>trivial
  | x :: ws,nd :: nds,t :: ts,⟨⟨dxw,pb,ks,a1,a2,a3,a4,a5,a6⟩,r⟩,h1,h2=>⟨⟨dxw,pb,ks,h1 _ _ _ _ _ a1,a2.keep tu,h2 nd (List.mem_cons_self ..) ks a3,a4.mono fun v f h=>h.keep tu,a5,a6⟩,Stk.keep tu r h1 fun z hz=>h2 z (List.mem_cons_of_mem _ hz)⟩
theorem Stk.len {kv:Kvs} {ds:Dfl} {cW:Addr} {H:Hp}:∀ {ws nds:List Addr} {ts:List Wt},Stk kv ds cW H ws nds ts->ws.length=ts.length/\nds.length=ts.length
  | [],[],[],_=>⟨rfl,rfl⟩
  | x :: ws,nd :: nds,t :: ts,⟨_,r⟩=>by
    obtain ⟨a,b⟩:=Stk.len r
    exact ⟨by rw [List.length_cons,List.length_cons,a],by rw [List.length_cons,List.length_cons,b]⟩
theorem Stk.dict {kv:Kvs} {ds:Dfl} {cW:Addr} {H:Hp}:∀ {ws nds:List Addr} {ts:List Wt},Stk kv ds cW H ws nds ts->∀ nd∈nds,∃ ks,H nd=some (.dK ks)
  | [],[],[],_,nd,h=>by cases h
  | x :: ws,nd :: nds,t :: ts,⟨⟨dxw,pb,ks,a1,a2,a3,_⟩,r⟩,z,h=>by
    rcases List.mem_cons.mp h with rfl | h
    · exact ⟨ks,a3⟩
    · exact Stk.dict r z h
structure MS (cR cW T:Addr) (kv:Kvs) (ds:Dfl) (st:Int) (H0 H:Hp) (r dx d:Addr) (b:Bd) (e:En) (ts:List Wt) (k:Nat):Prop where
  ex:∃ (wl nd pb:Addr) (ks:List (Key × V)) (ws nds:List Addr),H r=some (RO cR dx d st (k:Nat) wl (.ref pb) nd .non)/\IsBd H b pb/\H nd=some (.dK ks)/\Ez kv H ks e/\ks.length + b.sz<=900/\H wl=some (.lst (ws.reverse.map V.ref))/\Stk kv ds cW H ws nds ts/\(nd :: nds).Nodup/\d ∉ nd :: nds/\H0 wl=none/\∀ x∈nd :: nds,H0 x=none
  nm:∃ names,Bnd names e/\OkX kv ds names b
  fr:H0 r=none
  kt:KT T H0 H
  tb:Tb T H
  df:Dfs kv H d ds
  lk:ts.length<=k/\(k:Int)<=st/\st<=10000
theorem Dfs.keep {kv:Kvs} {H H':Hp} {d:Addr} {ds:Dfl} (h:Dfs kv H d ds) (tu:Tups H H') (hd:∀ ks,H d=some (.dK ks)->H' d=some (.dK ks)):Dfs kv H' d ds:=by
  obtain ⟨dks,a,b⟩:=h.ex
  refine ⟨⟨dks,hd _ a,fun g x hx=>?_⟩,h.ok⟩
  obtain ⟨one,pp,pb,c1,c2,c3,c4⟩:=b g x hx
  exact ⟨one,pp,pb,c1,tu _ _ c2,tu _ _ c3,c4.keep tu⟩
def spGoG (cR cW C T:Addr):Sp:=fun vs H Q E=>∃ (kv:Kvs) (ds:Dfl) (st:Int) (H0:Hp) (r dx d:Addr) (b:Bd) (e:En) (ts:List Wt) (k:Nat),vs=[.ref r]/\MS cR cW T kv ds st H0 H r dx d b e ts k /\
  (∀ b' e' ts' k',stp kv ds st b e ts k=.go b' e' ts' k'->∀ H',MS cR cW T kv ds st H0 H' r dx d b' e' ts' k'->Q .non H') /\
  (∀ f,stp kv ds st b e ts k=.told f->∀ H' tp dn wl bb nd,KT T H0 H'->Tb T H'->H' r=some (RO cR dx d st dn wl bb nd (.ref tp))->Ans H' tp (.inl f)->Q .non H') /\
  (stp kv ds st b e ts k=.late->∀ H' tp dn wl bb nd,KT T H0 H'->Tb T H'->H' r=some (RO cR dx d st dn wl bb nd (.ref tp))->H' tp=some (.tup [.str "late",.int st])->Q .non H') /\
  (∀ w,stp kv ds st b e ts k=.fault w->ErrW C E H w)
end GN
namespace GN
open PySem L2 K11
theorem Bnd.putA:∀ {ns ks:List Str} {e:En} {fs:List (List V)},Bnd ks e->ns.length<=fs.length->Bnd (ks ++ ns) (putA e ns fs)
  | [],ks,e,fs,h,_=>by rw [List.append_nil]; exact h
  | n :: ns,ks,e,[],_,l=>by simp at l
  | n :: ns,ks,e,f :: fs,h,l=>by
    have:=Bnd.putA (ns:=ns) (ks:=ks ++ [n]) (e:=putE e n f) (fs:=fs) h.put (by simpa using l)
    rw [List.append_assoc] at this
    exact this
theorem er_zipZ {H:Hp} {kvs:Kvs}:∀ {ps:List Str} {us:List V} {xss:List (List V)},ps.length=xss.length->us.length=xss.length->(∀ (j:Nat) u xs,us[j]?=some u->xss[j]?=some xs->Pz kvs H [u] xs)->Ez kvs H (zkv ps us) (ps.zip xss)
  | [],[],[],_,_,_=>.nil
  | [],_ :: _,[],_,h,_=>by simp at h
  | _ :: _,_,[],h,_,_=>by simp at h
  | [],_,_ :: _,h,_,_=>by simp at h
  | _ :: _,[],_ :: _,_,h,_=>by simp at h
  | p :: ps,u :: us,xs :: xss,h1,h2,h3=>.cons (h3 0 u xs rfl rfl) (er_zipZ (by simpa using h1) (by simpa using h2) fun j u xs a b=>h3 (j + 1) u xs a b)
theorem bnd_zip:∀ {ps:List Str} {xss:List (List V)},ps.length=xss.length->Bnd ps (ps.zip xss)
  | ps,xss,h,n,hn=>by
    rw [<- valE_any,List.any_eq_true]
    obtain ⟨i,hi⟩:=List.getElem?_of_mem hn
    have hl:=(List.getElem?_eq_some_iff.mp hi).1
    refine ⟨(n,xss[i]'(by omega)),List.mem_of_getElem? (i:=i) ?_,by simp⟩
    rw [List.getElem?_zip_eq_some]
    exact ⟨hi,List.getElem?_eq_getElem _⟩
theorem wo_ro {cW cR x dxw pb nd r dx d wl nd':Addr} {n:Str} {st dn:Int} {b v:V} {H:Hp} (h:H x=some (WO cW dxw n pb nd)) (g:H r=some (RO cR dx d st dn wl b nd' v)):x≠r:=fun z=>by
  rw [z,g] at h
  have:(7:Nat)=3:=congrArg (fun o:Option HO=>match o with | some (.ins _ _ fs)=>fs.length | _=>0) h
  exact absurd this (by decide)
structure Frm (cW T:Addr) (H0 H H':Hp) (D:List Addr):Prop where
  tu:Tups H H'
  wo:∀ x dxw n pb nd,H x=some (WO cW dxw n pb nd)->H' x=some (WO cW dxw n pb nd)
  dk:∀ z,z ∉ D->∀ ks,H z=some (.dK ks)->H' z=some (.dK ks)
  kt:KT T H0 H'
  tb:Tb T H'
theorem frm {cR cW T r dx d wl nd:Addr} {st dn:Int} {b v:V} {ws:List V} {D:List Addr} {H0 H H':Hp} (hR:H r=some (RO cR dx d st dn wl b nd v)) (hW:H wl=some (.lst ws)) (hD:∀ z∈D,∃ ks,H z=some (.dK ks)) (k':KX ([r,wl] ++ D) H H') (kt:KT T H0 H) (tb:Tb T H) (f1:H0 r=none) (f2:H0 wl=none) (f3:∀ z∈D,H0 z=none):Frm cW T H0 H H' D:=by
  have kp:∀ {z:Addr} {o:HO},H z=some o->z≠r->z≠wl->z ∉ D->H' z=some o:=fun {z o} e n1 n2 n3=>k' _ _ (by simp [n1,n2,n3]) e
  have nr:∀ {z:Addr} {o:HO},H z=some o->(∀ C dx fs,o≠.ins C dx fs)->z≠r:=fun {z o} e n c=>by
    rw [c,hR] at e
    cases e
    exact n _ _ _ rfl
  have nD:∀ {z:Addr} {o:HO},H z=some o->(∀ ks,o≠.dK ks)->z ∉ D:=fun {z o} e n c=>by
    obtain ⟨ks,h⟩:=hD z c
    rw [e] at h
    cases h
    exact n _ rfl
  refine ⟨fun p xs e=>kp e (nr e (by intro _ _ _ z; cases z)) (ne_of e hW (by intro z; cases z)) (nD e (by intro _ z; cases z)),fun x dxw n pb nd e=>kp e (wo_ro e hR) (ne_of e hW (by intro z; cases z)) (nD e (by unfold WO; intro _ z; cases z)),fun z hz ks e=>kp e (nr e (by intro _ _ _ z; cases z)) (ne_of e hW (by intro z; cases z)) hz,fun z o n e=>?_,?_⟩
  · have e':=kt z o n e
    exact kp e' (fun c=>by rw [c,f1] at e; cases e) (fun c=>by rw [c,f2] at e; cases e) (fun c=>by rw [f3 z c] at e; cases e)
  · obtain ⟨ps,e1,e2⟩:=tb
    refine ⟨ps,kp e1 (nr e1 (by intro _ _ _ z; cases z)) (ne_of e1 hW (by intro z; cases z)) (nD e1 (by intro _ z; cases z)),?_⟩
    rcases e2 with e2 | ⟨c,e2,e3⟩
    · exact .inl e2
    · exact .inr ⟨c,e2,kp e3 (nr e3 (by unfold CodO; intro _ _ _ z; cases z)) (ne_of e3 hW (by unfold CodO; intro z; cases z)) (nD e3 (by unfold CodO; intro _ z; cases z))⟩
section
variable {P:Program} {w:World} {K:PySem.W.Frag} {mg:Str->Option Value} {base:Heap} {f R C cR cW T:Addr} {fd:FuncData}
theorem scGoG:FnScope ["self","body"] ["self"] (defScope sGo):=⟨rfl,rfl,rfl,by decide +kernel,rfl,by decide +kernel,by decide +kernel⟩
theorem ok_goG (F:Fun K "go_on" "Run.go_on" sGo f fd) (N:Rn K cR) (GL:Me P w K mg base (CXf P w) 5 cR "let" ["self","wants","deed","body"] (spLetG cR cW C)) (GC:Me P w K mg base (CXf P w) 3 cR "choose" ["self","body","value"] (spChoose cR C)) (GA:Me P w K mg base (CXf P w) 4 cR "take_arm" ["self","arms","value"] (spTake cR C)) (GG:Me P w K mg base CX0 4 cR "give" ["self","value"] (spGiveG cR cW T)):FnOk P w K mg base (CXf P w) 6 f fd ["self"] (spGoG cR cW C T):=by
  refine F.byx scGoG (fun vs H Q E h=>?_) (fun cdv A outer s H vs Q E hr h=>?_)
  · obtain ⟨kv,ds,st,H0,r,dx,d,b,e,ts,k,rfl,_⟩:=h
    rfl
  obtain ⟨kv,ds,st,H0,r,dx,d,b,e,ts,k,rfl,M,q1,q2,q3,q4⟩:=h
  have r4:Room 4 _:=hr.mono (by decide)
  have r3:Room 3 _:=hr.mono (by decide)
  refine ⟨_,
    (jss_cons (js_set (i:=1) scGoG.nd rfl (Or.inl rfl) (je_fld (jv 0)))
    (jss_one (js_if (jt_cmpR jo_eq (je_ix jx_tup (jv 1) je_int (fun _ _=>rfl)) je_str (nomark _))
      (jss_one (js_expr (je_me (jv 0) N.cl GL hr passx (ja_c (je_ix jx_tup (jv 1) je_int (fun _ _=>rfl)) (ja_c (je_ix jx_tup (jv 1) je_int (fun _ _=>rfl)) (ja_c (je_ix jx_tup (jv 1) je_int (fun _ _=>rfl)) ja_nil))))))
      (jss_one (js_if (jt_cmpR jo_eq (je_ix jx_tup (jv 1) je_int (fun _ _=>rfl)) je_str (nomark _))
        (jss_one (js_expr (je_me (jv 0) N.cl GC r3 passx (ja_c (jv 1) (ja_c (je_dget hr (je_fld (jv 0)) (je_ix jx_tup (jv 1) je_int (fun _ _=>rfl))) ja_nil)))))
        (jss_one (js_if (jt_cmpR jo_eq (je_ix jx_tup (jv 1) je_int (fun _ _=>rfl)) je_str (nomark _))
          (jss_one (js_expr (je_me (jv 0) N.cl GA r4 passx (ja_c (je_ix jx_tup (jv 1) je_int (fun _ _=>rfl)) (ja_c (je_dget hr (je_fld (jv 0)) (je_ix jx_tup (jv 1) je_int (fun _ _=>rfl))) ja_nil)))))
          (jss_one (js_expr (je_me (jv 0) N.cl GG.upx r4 passx (ja_c (je_dget hr (je_fld (jv 0)) (je_ix jx_tup (jv 1) je_int (fun _ _=>rfl))) ja_nil))))))))))),?_⟩
  have sl:=line0
  obtain ⟨⟨wl,nd,pb,ks,ws,nds,hR,hb,hN,hE,hsz,hW,hS,hnd,hdn,f2,f3⟩,⟨nm,hB,hO⟩,f1,kt,tb,df,lk1,lk2,lk3⟩:=M
  obtain ⟨lws,lnds⟩:=hS.len
  have f3':=f3 nd (List.mem_cons_self ..)
  have fD:∀ z∈[nd],H0 z=none:=fun z hz=>by rw [List.mem_singleton.mp hz]; exact f3'
  have hDn:∀ z∈[nd],∃ ks,H z=some (.dK ks):=fun z hz=>⟨ks,by rw [List.mem_singleton.mp hz]; exact hN⟩
  have nn:∀ z∈nds,z ∉ [nd]:=fun z hz c=>(List.nodup_cons.mp hnd).1 (by rw [<- List.mem_singleton.mp c]; exact hz)
  have dn1:d ∉ [nd]:=fun c=>hdn (by rw [List.mem_singleton.mp c]; exact List.mem_cons_self ..)
  have nrn:nd≠r:=fun z=>by
    rw [z,hR] at hN
    cases hN
  have Fn:∀ {H':Hp},KX [r,nd] H H'->Frm cW T H0 H H' [nd]:=fun {H'} k'=>frm hR hW hDn (k'.mono (by simp)) kt tb f1 f2 fD
  have hWk:∀ {H':Hp},KX [r,nd] H H'->H' wl=some (.lst (ws.reverse.map V.ref)):=fun {H'} k'=>k' _ _ (by
    intro c
    rcases List.mem_cons.mp c with c | c
    · rw [c,hR] at hW; cases hW
    · rw [List.mem_singleton.mp c,hN] at hW; cases hW) hW
  have mk:∀ (H':Hp) (b':Bd) (e':En) (ks':List (Key × V)) (pb':Addr) (nm':List Str),KX [r,nd] H H'->H' r=some (RO cR dx d st (k:Nat) wl (.ref pb') nd .non)->IsBd H' b' pb'->H' nd=some (.dK ks')->Ez kv H' ks' e'->ks'.length + b'.sz<=900->Bnd nm' e'->OkX kv ds nm' b'->MS cR cW T kv ds st H0 H' r dx d b' e' ts k:=fun H' b' e' ks' pb' nm' k' g1 g2 g3 g4 g5 g6 g7 =>
    ⟨⟨wl,nd,pb',ks',ws,nds,g1,g2,g3,g4,g5,hWk k',hS.keep (Fn k').tu (Fn k').wo (fun z hz=>(Fn k').dk z (nn z hz)),hnd,hdn,f2,f3⟩,⟨nm',g6,g7⟩,f1,(Fn k').kt,(Fn k').tb,df.keep (Fn k').tu ((Fn k').dk d dn1),lk1,lk2,lk3⟩
  refine ⟨_,rfl,r,cR,dx,_,_,rfl,hR,N.cl,N.a5,rfl,?_⟩
  match b,hO,hb,hsz,q1,q2,q3,q4 with
  | .give x,hO,hb,hsz,q1,q2,q3,q4 =>
    have hb:H pb=some (.tup [.str "give",.str x]):=hb
    obtain ⟨ff,ef⟩:=hB.get hO
    obtain ⟨v,hv1,hv2⟩:=hE.val ef
    have ep:prt e x=ff:=by unfold prt; rw [ef]; rfl
    refine ⟨_,rfl,pb,_,_,_,rfl,rfl,SqT.of hb,rfl,rfl,_,rfl,iteF' (by decide +kernel) ?_⟩
    refine ⟨_,rfl,pb,_,_,_,rfl,rfl,SqT.of hb,rfl,rfl,_,rfl,iteF' (by decide +kernel) ?_⟩
    refine ⟨_,rfl,pb,_,_,_,rfl,rfl,SqT.of hb,rfl,rfl,_,rfl,iteF' (by decide +kernel) ?_⟩
    refine ⟨_,rfl,r,dx,_,rfl,hR,rfl,_,rfl,r,cR,dx,_,_,rfl,hR,N.cl,N.a6,rfl,_,rfl,pb,_,_,_,rfl,rfl,SqT.of hb,atI_nat (j:=1) rfl,nd,v,rfl,by rw [<- hv1]; exact DGet.k (k:=.inr x) hN,r,dx,d,wl,nd,st,(k:Nat),.ref pb,v,ff,_,rfl,hR,hW,by rw [List.length_map,List.length_reverse,lws]; omega,tb,pz_vl hv2,fun ew H' tp l k' T' h1 h2 h3 h4=>?_,fun ew=>?_⟩
    · have ew:ws=[]:=by simpa using ew
      subst ew
      have et:ts=[]:=List.length_eq_zero_iff.mp lws.symm
      subst et
      refine q2 ff (by rw [stp,ep]) H' tp _ _ _ _ (fun z o n e=>k' _ _ (by
        intro c
        rcases List.mem_cons.mp c with c | c
        · rw [c,f1] at e; cases e
        · exact n (List.mem_singleton.mp c)) (kt z o n e)) T' h1 ⟨l,h2,h3⟩
    · match ws,nds,ts,hS,lws,lnds,ew with
      | x' :: ws0,nd2 :: nds0,t :: ts0,⟨⟨dxw,pb2,ks2,a1,a2,a3,a4,a5,nm2,a6,a7⟩,rr⟩,lws,lnds,_ =>
        refine ⟨ws0.reverse.map V.ref,x',dxw,pb2,nd2,t.n,ks2,by rw [List.reverse_cons,List.map_append]; rfl,a1,a3,by omega,fun H' k' g1 g2 g3=>?_⟩
        have nd2':=List.nodup_cons.mp (List.nodup_cons.mp hnd).2
        have Fr:Frm cW T H0 H H' [nd2]:=frm hR hW (fun z hz=>⟨ks2,by rw [List.mem_singleton.mp hz]; exact a3⟩) (k'.mono (by simp)) kt tb f1 f2 (fun z hz=>f3 z (by rw [List.mem_singleton.mp hz]; simp))
        have lp:=putK_len ks2 (.inr t.n) v
        refine q1 _ _ _ _ (by rw [stp,ep]) H' ⟨⟨wl,nd2,pb2,_,ws0,nds0,g1,a2.keep Fr.tu,g3,((a4.put hv2).mono fun v f h=>h.keep Fr.tu),by omega,g2,rr.keep Fr.tu Fr.wo (fun z hz=>Fr.dk z (fun c=>nd2'.1 (by rw [<- List.mem_singleton.mp c]; exact hz))),(List.nodup_cons.mp hnd).2,fun c=>hdn (List.mem_cons_of_mem _ c),f2,fun z hz=>f3 z (List.mem_cons_of_mem _ hz)⟩,⟨nm2 ++ [t.n],a6.put,a7⟩,f1,Fr.kt,Fr.tb,df.keep Fr.tu (Fr.dk d (fun c=>hdn (by rw [List.mem_singleton.mp c]; simp))),by rw [List.length_cons] at lk1; omega,lk2,lk3⟩
  | .iff x b c,hO,hb,hsz,q1,q2,q3,q4 =>
    obtain ⟨p1,p2,hb,d1,d2⟩:∃ q r,H pb=some (.tup [.str "if",.str x,.ref q,.ref r])/\IsBd H b q/\IsBd H c r:=hb
    obtain ⟨ff,ef⟩:=hB.get hO.1
    obtain ⟨v,hv1,hv2⟩:=hE.val ef
    have ep:prt e x=ff:=by unfold prt; rw [ef]; rfl
    have bsz:(Bd.iff x b c).sz=b.sz + c.sz + 1:=by rw [Bd.sz]
    refine ⟨_,rfl,pb,_,_,_,rfl,rfl,SqT.of hb,rfl,rfl,_,rfl,iteF' (by decide +kernel) ?_⟩
    refine ⟨_,rfl,pb,_,_,_,rfl,rfl,SqT.of hb,rfl,rfl,_,rfl,iteT' (by decide +kernel) ?_⟩
    refine ⟨_,rfl,r,dx,_,rfl,hR,rfl,_,rfl,_,rfl,r,cR,dx,_,_,rfl,hR,N.cl,N.a6,rfl,_,rfl,pb,_,_,_,rfl,rfl,SqT.of hb,atI_nat (j:=1) rfl,nd,v,rfl,by rw [<- hv1]; exact DGet.k (k:=.inr x) hN,r,dx,d,wl,nd,pb,p1,p2,st,(k:Nat),.ref pb,v,"if",x,ff,rfl,hR,hb,pz_vl hv2,fun i hi H' k' h1=>?_,fun hno=>q4 _ (by rw [stp,ep,hno])⟩
    have k2:KX [r,nd] H H':=k'.mono (by simp)
    have tk:=(Fn k2).tu
    have hN':=k' _ _ (by simp [nrn]) hN
    by_cases c0:i≠0
    · rw [if_pos c0] at h1
      exact q1 _ _ _ _ (by rw [stp,ep,hi]; exact if_pos c0) H' (mk H' b e ks p1 nm k2 h1 (d1.keep tk) hN' (hE.mono fun v f h=>h.keep tk) (by omega) hB hO.2.1)
    · rw [if_neg c0] at h1
      exact q1 _ _ _ _ (by rw [stp,ep,hi]; exact if_neg c0) H' (mk H' c e ks p2 nm k2 h1 (d2.keep tk) hN' (hE.mono fun v f h=>h.keep tk) (by omega) hB hO.2.2)
  | .cs x as,hO,hb,hsz,q1,q2,q3,q4 =>
    obtain ⟨qa,tt,hb,d1,d2⟩:∃ (q:Addr) (ts:List Addr),H pb=some (.tup [.str "case",.str x,.ref q])/\H q=some (.tup (ts.map V.ref))/\IsArms H as ts:=hb
    obtain ⟨ff,ef⟩:=hB.get hO.1
    obtain ⟨v,hv1,hv2⟩:=hE.val ef
    have ep:prt e x=ff:=by unfold prt; rw [ef]; rfl
    have bsz:(Bd.cs x as).sz=as.sz + 1:=by rw [Bd.sz]
    refine ⟨_,rfl,pb,_,_,_,rfl,rfl,SqT.of hb,rfl,rfl,_,rfl,iteF' (by decide +kernel) ?_⟩
    refine ⟨_,rfl,pb,_,_,_,rfl,rfl,SqT.of hb,rfl,rfl,_,rfl,iteF' (by decide +kernel) ?_⟩
    refine ⟨_,rfl,pb,_,_,_,rfl,rfl,SqT.of hb,rfl,rfl,_,rfl,iteT' (by decide +kernel) ?_⟩
    refine ⟨_,rfl,r,dx,_,rfl,hR,rfl,_,rfl,pb,_,_,_,rfl,rfl,SqT.of hb,atI_nat (j:=2) rfl,_,rfl,r,cR,dx,_,_,rfl,hR,N.cl,N.a6,rfl,_,rfl,pb,_,_,_,rfl,rfl,SqT.of hb,atI_nat (j:=1) rfl,nd,v,rfl,by rw [<- hv1]; exact DGet.k (k:=.inr x) hN,r,dx,d,wl,nd,qa,st,(k:Nat),.ref pb,v,ff,tt,as,kv,ks,e,rfl,hR,hN,by omega,hE,d1,d2,hO.2.okA,hv2,fun a hf H' ks' s' k' h1 h2 h3 h4 h5=>?_,fun hno=>q4 _ (by rw [stp,ep,hno])⟩
    have am:a∈as.hs:=List.mem_of_find?_eq_some hf
    have hh:=Arms.hs_sz am
    obtain ⟨o1,o2,o3⟩:=hO.2.at a am
    refine q1 _ _ _ _ (by rw [stp,ep,hf]) H' (mk H' a.2.2 _ ks' s' (nm ++ a.2.1) k' h1 h2 h3 h4 (by omega) (hB.putA ?_) o3)
    have at_:a.1=tgf ff:=by simpa using List.find?_some hf
    cases hv2 with
    | @num i _ xs hi hn=>exact absurd at_ (fun z=>o1 z)
    | @shp p q' t us _ xs ys g1 g2 hs h9 g3 g4 =>
      cases g4
      obtain ⟨fs,efs,lf,_⟩:=pcs_all g3
      rw [List.append_nil]
      show _<=(pcs kv 1 xs []).length
      rw [efs,lf]
      have at_:a.1=t:=at_
      rw [at_,hs] at o2
      have:=Option.some.inj o2
      omega
  | .lt n dd b,hO,hb,hsz,q1,q2,q3,q4 =>
    obtain ⟨pd,pr,hb,hdd,hbr⟩:∃ q r,H pb=some (.tup [.str "let",.str n,.ref q,.ref r])/\IsDx H dd q/\IsBd H b r:=hb
    have bsz:(Bd.lt n dd b).sz=b.sz + 1:=by rw [Bd.sz]
    refine ⟨_,rfl,pb,_,_,_,rfl,rfl,SqT.of hb,rfl,rfl,_,rfl,iteT' (by decide +kernel) ?_⟩
    refine ⟨_,rfl,r,dx,_,rfl,hR,rfl,_,rfl,pb,_,_,_,rfl,rfl,SqT.of hb,atI_nat (j:=1) rfl,_,rfl,pb,_,_,_,rfl,rfl,SqT.of hb,atI_nat (j:=2) rfl,_,rfl,pb,_,_,_,rfl,rfl,SqT.of hb,atI_nat (j:=3) rfl,?_⟩
    match dd,hO,hdd,q1,q2,q3,q4 with
    | .dd d',hO,hdd,q1,q2,q3,q4 =>
      refine .inl ⟨r,dx,d,wl,nd,pd,pr,st,(k:Nat),.ref pb,n,ks,e,nm,d',kv,rfl,hR,hN,by omega,hE,hB,hO.1.1,hO.1.2,hdd,fun ff hf H' ks' k' g1 g2 g3 g4=>?_,fun ww hw=>q4 ww (by rw [stp,hw])⟩
      exact q1 _ _ _ _ (by rw [stp,hf]) H' (mk H' b _ ks' pr (nm ++ [n]) k' g1 (hbr.keep (Fn k').tu) g2 g3 (by omega) hB.put hO.2)
    | .call g ns,hO,hdd,q1,q2,q3,q4 =>
      obtain ⟨pq,hpd,hpq⟩:∃ q,H pd=some (.tup [.str "call",.str g,.ref q])/\H q=some (.tup (ns.map V.str)):=hdd
      obtain ⟨⟨o1,o2,a,o3,o4⟩,o5⟩:=hO
      obtain ⟨dks,hd,hdf⟩:=df.ex
      obtain ⟨one,pp,pb2,c1,c2,c3,c4⟩:=hdf g a o3
      have am:a∈ds:=List.mem_of_find?_eq_some o3
      obtain ⟨y1,y2,y3,y4⟩:=df.ok a am
      have hall:∀ n∈ns,∃ v,valV ks (.inr n)=some v:=fun m hm=>by
        obtain ⟨fa,ea⟩:=hB.get (o1 m hm)
        obtain ⟨va,e1,_⟩:=hE.val ea
        exact ⟨va,e1⟩
      refine .inr ⟨r,dx,d,wl,nd,pd,pr,pq,one,pp,pb2,st,(k:Nat),.ref pb,n,g,ks,dks,ns,a.2.1,_,rfl,hR,hN,hpd,hpq,hall,by omega,hW,by rw [List.length_map,List.length_reverse,lws]; omega,hd,c1,c2,c3,y1,o4,fun c H' tp k' g1 g2=>?_,fun c H' nd' x dxw k' f' fx g1 g2 g3 g4=>?_⟩
      · have Fr:Frm cW T H0 H H' []:=frm hR hW (fun z hz=>by cases hz) (k'.mono (by simp)) kt tb f1 f2 (fun z hz=>by cases hz)
        exact q3 (by rw [stp,if_pos c]) H' tp _ _ _ _ Fr.kt Fr.tb g1 g2
      · have Fr:Frm cW T H0 H H' []:=frm hR hW (fun z hz=>by cases hz) (k'.mono (by simp)) kt tb f1 f2 (fun z hz=>by cases hz)
        have nin:∀ z∈nd :: nds,nd'≠z:=fun z hz c=>by
          rcases List.mem_cons.mp hz with e | e
          · rw [c,e,hN] at f'; cases f'
          · obtain ⟨ks',h⟩:=hS.dict z e
            rw [c,h] at f'; cases f'
        have f0:H0 nd'=none:=by
          cases e0:H0 nd' with
          | none=>rfl
          | some o =>
            by_cases zT:nd'=T
            · obtain ⟨tb',ht⟩:=tb.tbl
              rw [zT,ht] at f'; cases f'
            · rw [kt nd' o zT e0] at f'; cases f'
        have lz:(zkv a.2.1 (vals ks ns)).length<=9:=by
          unfold zkv
          rw [List.length_map,List.length_zip]
          omega
        have lv:(vals ks ns).length=(ns.map (prt e)).length:=by unfold vals; rw [List.length_map,List.length_map]
        have lm:a.2.1.length=(ns.map (prt e)).length:=by rw [List.length_map]; exact o4
        refine q1 a.2.2 (a.2.1.zip (ns.map (prt e))) (⟨n,b,e⟩ :: ts) (k + 1) (by rw [stp,if_neg c,o3]) H' ⟨⟨wl,nd',pb2,_,x :: ws,nd :: nds,by rw [show ((k + 1:Nat):Int)=((k:Nat):Int) + 1 by omega]; exact g1,c4.keep Fr.tu,g4,er_zipZ lm lv fun j u xs h1 h2=>?_,by omega,by rw [g2,List.reverse_cons,List.map_append]; rfl,⟨⟨dxw,pr,ks,g3,hbr.keep Fr.tu,Fr.dk nd (by simp) ks hN,hE.mono fun v f h=>h.keep Fr.tu,by show ks.length + b.sz + 1<=900; omega,nm,hB,o5⟩,hS.keep Fr.tu Fr.wo fun z hz=>Fr.dk z (by simp)⟩,List.nodup_cons.mpr ⟨fun c=>nin _ c rfl,hnd⟩,fun c=>?_,f2,fun z hz=>?_⟩,⟨a.2.1,bnd_zip lm,y3⟩,f1,Fr.kt,Fr.tb,df.keep Fr.tu (Fr.dk d (by simp)),by rw [List.length_cons]; omega,by omega,lk3⟩
        · unfold vals at h1
          rw [List.getElem?_map] at h1 h2
          obtain ⟨m,hm,rfl⟩:=Option.map_eq_some_iff.mp h1
          rw [hm] at h2
          have h2:some (prt e m)=some xs:=h2
          cases h2
          obtain ⟨fa,ea⟩:=hB.get (o1 m (List.mem_of_getElem? hm))
          obtain ⟨va,e1,e2⟩:=hE.val ea
          have:prt e m=fa:=by unfold prt; rw [ea]; rfl
          rw [e1,this]
          exact e2.keep Fr.tu
        · rcases List.mem_cons.mp c with c | c
          · rw [<- c,hd] at f'; cases f'
          · exact hdn c
        · rcases List.mem_cons.mp hz with e | e
          · rw [e]; exact f0
          · exact f3 z e
end
end GN
namespace GN
open PySem L2 K11
def Grw (ks:List (List (Str × Nat))) (xs:List V):Prop:=xs.length<=300/\(∀ x∈xs,At x)/\hgt (puts ks.flatten []) xs=some 1
def Args (H:Hp) (ks:List (List (Str × Nat))) (al:Addr) (as:List Addr) (xss:List (List V)):Prop:=H al=some (.lst (as.map V.ref))/\as.length=xss.length/\∀ (j:Nat) a xs,as[j]?=some a->xss[j]?=some xs->H a=some (.lst xs)/\Grw ks xs
theorem Args.same {H H':Hp} {ks:List (List (Str × Nat))} {al:Addr} {as:List Addr} {xss:List (List V)} (h:Args H ks al as xss) (s:Same H H'):Args H' ks al as xss:=⟨s _ _ h.1,h.2.1,fun j a xs h1 h2=>⟨s _ _ (h.2.2 j a xs h1 h2).1,(h.2.2 j a xs h1 h2).2⟩⟩
structure Ft (K:PySem.W.Frag) (mg:Str->Option Value) (C:Addr):Prop where
  m:mg "Fault"=some (.ref C)
  cl:∃ f,XCl K C f
  fn:PySem.W.findIn K (.ref C) "word"=some none
  hd:PySem.W.hasDictIn K C=true
  ex:PySem.W.exmOne K (.ref C) (.ref C)=some true
theorem KT.kx {T:Addr} {S:List Addr} {H H1 H2:Hp} (a:KT T H H1) (b:KX S H1 H2) (h:∀ z∈S,z=T\/H z=none):KT T H H2:=fun c u n q=>b c u (fun z=>by
  rcases h c z with e | e
  · exact n e
  · rw [e] at q; cases q) (a c u n q)
theorem Tb.kx {T:Addr} {S:List Addr} {H H':Hp} (h:Tb T H) (k:KX S H H') (n:∀ z∈S,(∃ C dx fs,H z=some (.ins C dx fs))\/∃ kvs,H z=some (.dK kvs)):Tb T H':=by
  obtain ⟨ps,e,h⟩:=h
  refine ⟨ps,k _ _ (fun z=>?_) e,?_⟩
  · rcases n T z with ⟨C,dx,fs,h'⟩ | ⟨kvs,h'⟩
    · rw [e] at h'; cases h'
    · rw [e] at h'; cases h'
  · rcases h with h | ⟨c,h,g⟩
    · exact .inl h
    · refine .inr ⟨c,h,k _ _ (fun z=>?_) g⟩
      rcases n c z with ⟨C,dx,fs,h'⟩ | ⟨kvs,h'⟩
      · rw [g] at h'; unfold CodO at h'; cases h'
      · rw [g] at h'; unfold CodO at h'; cases h'
def spGrowZ:Sp:=fun vs H Q _=>∃ (pk l:Addr) (ks:List (List (Str × Nat))) (xs:List V),vs=[.ref pk,.ref l]/\Kn H pk ks/\KsOk ks/\H l=some (.lst xs)/\Grw ks xs/\∀ H' v,Same H H'->Pz (puts ks.flatten []) H' [v] xs->Q v H'
theorem growZ_of {C:Addr} {vs:List V} {H:Hp} {Q:VK} {E:XK} (h:spGrowZ vs H Q E):spGrown C vs H Q E0:=by
  obtain ⟨pk,l,ks,xs,rfl,hK,hk,hl,⟨g1,g2,g3⟩,q⟩:=h
  refine ⟨pk,.ref l,ks,rfl,hK,hk,.inr ⟨l,xs,rfl,hl,g1,fun x hx=>?_,fun n=>absurd g3 n,fun _ H' v s hv=>q H' v s hv⟩⟩
  have:=g2 x hx
  match x,this with
  | .int i,_=>exact ⟨_,.int i⟩
  | .str z,_=>exact ⟨_,.str z⟩
def spBegunZ:Sp:=fun vs H Q _=>∃ (pk d al one pp pb:Addr) (n:Str) (ks:List (List (Str × Nat))) (kvs:List (Key × V)) (ps:List Str) (as:List Addr) (xss:List (List V)),vs=[.ref pk,.ref d,.str n,.ref al]/\Kn H pk ks/\KsOk ks/\H d=some (.dK kvs)/\valV kvs (.inr n)=some (.ref one)/\H one=some (.tup [.str n,.ref pp,.ref pb])/\H pp=some (.tup (ps.map V.str))/\Args H ks al as xss/\ps.length=xss.length/\ps.length<=100 /\
  ∀ H' l us,Same H H'->H' l=some (.lst us)->us.length=xss.length->(∀ (j:Nat) u xs,us[j]?=some u->xss[j]?=some xs->Pz (puts ks.flatten []) H' [u] xs)->Q (.ref l) H'
def spByM:Sp:=fun vs H Q _=>∃ (pd:Addr) (ones:List Addr) (ns:List Str),vs=[.ref pd]/\H pd=some (.tup (ones.map V.ref))/\ones.length=ns.length/\ns.Nodup/\ns.length<=100/\(∀ (i:Nat) o n,ones[i]?=some o->ns[i]?=some n->∃ rest,H o=some (.tup (.str n :: rest))) /\
  ∀ H' d kvs,Same H H'->H d=none->H' d=some (.dK kvs)->(∀ (i:Nat) o n,ones[i]?=some o->ns[i]?=some n->valV kvs (.inr n)=some (.ref o))->(∀ n,n ∉ ns->valV kvs (.inr n)=none)->Q (.ref d) H'
section
variable {P:Program} {w:World} {K:PySem.W.Frag} {mg:Str->Option Value} {base:Heap} {f R C cR T:Addr} {fd:FuncData}
theorem scBy:FnScope ["defs","found","one"] ["defs"] (defScope sBy):=⟨rfl,rfl,rfl,by decide +kernel,rfl,by decide +kernel,by decide +kernel⟩
theorem scBegun:FnScope ["kinds","defs","name","args"] ["kinds","defs","name","args"] (defScope sBegun):=⟨rfl,rfl,rfl,by decide +kernel,rfl,by decide +kernel,by decide +kernel⟩
theorem ndBegun:(["kinds","defs","name","args","parts"]:List Str).Nodup:=by decide +kernel
theorem ok_begunZ (F:Fun K "begun_with" "begun_with" sBegun f fd) (GG:Ca P w K mg base CX0 2 "grown" ["kinds","parts"] spGrowZ) (m_len:mg "len"=none):FnOk P w K mg base CX0 3 f fd ["kinds","defs","name","args"] spBegunZ:=by
  refine F.by scBegun (fun vs H Q E h=>?_) (fun cdv A outer s H vs Q E hr h=>?_)
  · obtain ⟨pk,d,al,one,pp,pb,n,ks,kvs,ps,as,xss,rfl,_⟩:=h
    rfl
  obtain ⟨pk,d,al,one,pp,pb,n,ks,kvs,ps,as,xss,rfl,hK,hk,hd,hv,h1,hp,hA,ll,l100,q⟩:=h
  refine ⟨_,
    (jss_cons (js_if (jt_dnotin hr (jv 2) (jv 1)) (jss_one js_never) jss_nil)
    (jss_cons (js_if (jt_cmpR jo_ne (je_fnB jc_len_seq rfl m_len PySem.boot_len (ja_c (jv 3) ja_nil)) (je_fnB jc_len_seq rfl m_len PySem.boot_len (ja_c (je_ix jx_tup (je_dget hr (jv 1) (jv 2)) je_int (fun _ _=>rfl)) ja_nil)) (nomark _)) (jss_one js_never) jss_nil)
    (jss_one (js_ret (je_comp ["parts"] rfl (ji_list (jv 3)) (fun _ _ _ _ _=>(jg_name (i:=4) ndBegun rfl (Or.inl rfl))) (fun _ _ _ _ _=>jts_nil) (fun _ _ _ _ _=>(je_ca GG hr rfl pass0 (ja_c (jv 0) (ja_c (jv 4) ja_nil))))))))),?_⟩
  have sl:=line0
  have gd:DGet H d (V.str n) (some (.ref one)):=by rw [<- hv]; exact DGet.k (k:=.inr n) hd
  have la:=hA.2.1
  refine ⟨_,rfl,_,rfl,d,_,rfl,gd,_,rfl,iteF' rfl (nxt ?_)⟩
  refine ⟨_,rfl,al,_,rfl,.inl (SqL.of hA.1),_,rfl,_,rfl,d,_,rfl,gd,one,_,_,_,rfl,rfl,SqT.of h1,atI_nat (j:=1) rfl,pp,_,rfl,.inr (SqT.of hp),rfl,_,rfl,iteF' (by rw [List.length_map,List.length_map,la,ll]; simp) (nxt ?_)⟩
  refine ⟨_,rfl,_,rfl,⟨_,SqL.of hA.1⟩,lc_list (xs:=as.map V.ref) (fun j τ ys H'=>Same H H'/\(∃ v,τ=[some (.ref pk),some (.ref d),some (.str n),some (.ref al),v])/\ys.length=j/\∀ (i:Nat) u xs,ys[i]?=some u->xss[i]?=some xs->Pz (puts ks.flatten []) H' [u] xs) ⟨Same.refl _,⟨none,rfl⟩,rfl,fun i u xs h=>by simp at h⟩ (fun j τ ys H' _ h=>SqL.of (h.1 _ _ hA.1)) ?_ ?_⟩
  · rintro j v τ ys H2 hv ⟨s2,⟨u,rfl⟩,ly,hys⟩
    rw [List.getElem?_map] at hv
    obtain ⟨a,ha,rfl⟩:=Option.map_eq_some_iff.mp hv
    have hj:=(List.getElem?_eq_some_iff.mp ha).1
    obtain ⟨g1,g2⟩:=hA.2.2 j a _ ha (List.getElem?_eq_getElem (by omega))
    refine ⟨_,rfl,_,rfl,pk,a,ks,_,rfl,hK.keep (.of s2),hk,s2 _ _ g1,g2,fun H3 v s3 hv'=>⟨by omega,s2.trans s3,⟨_,rfl⟩,by rw [List.length_append,ly]; rfl,fun i u xs h1 h2=>?_⟩⟩
    by_cases c:i < ys.length
    · rw [List.getElem?_append_left c] at h1
      exact (hys i u xs h1 h2).keep (.of s3)
    · rw [List.getElem?_append_right (by omega)] at h1
      have:i - ys.length=0:=by
        have:=(List.getElem?_eq_some_iff.mp h1).1
        simp at this
        omega
      rw [this] at h1
      cases h1
      have e:i=j:=by omega
      subst e
      rw [List.getElem?_eq_getElem (by omega)] at h2
      cases h2
      exact hv'
  · rintro τ ys H2 ⟨s2,_,ly,hys⟩ l hl
    have n3:=same_new hl (.lst ys)
    rw [List.length_map] at ly
    exact q _ l ys (s2.trans n3) upd_same (by omega) fun j u xs h1 h2=>(hys j u xs h1 h2).keep (.of n3)
theorem ok_byM (F:Fun K "by_name" "by_name" sBy f fd):FnOk P w K mg base CX0 1 f fd ["defs"] spByM:=by
  refine F.by scBy (fun vs H Q E h=>?_) (fun cdv A outer s H vs Q E hr h=>?_)
  · obtain ⟨pd,ones,ns,rfl,_⟩:=h
    rfl
  obtain ⟨pd,ones,ns,rfl,hp,lo,hnd,l100,h1,q⟩:=h
  refine ⟨_,
    (jss_cons (js_set (i:=1) scBy.nd rfl (Or.inl rfl) je_dnewK)
    (jss_cons (js_for PassesOwn.never rfl (ji_tup (jv 0)) (jg_name (i:=2) scBy.nd rfl (Or.inl rfl))
      (jss_one (js_dput hr (jv 1) (je_ix jx_tup (jv 2) je_int (fun _ _=>rfl)) (jv 2))))
    (jss_one (js_ret (jv 1))))),?_⟩
  have sl:=line0
  intro d hd
  have s1:=same_new hd (.dK [])
  refine ⟨_,rfl,_,rfl,⟨_,SqT.of (s1 _ _ hp)⟩,for_tup (xs:=ones.map V.ref) (fun i σ H'=>Same H H'/\(∃ kvs,H' d=some (.dK kvs)/\kvs.length<=i/\(∀ (j:Nat) o n,j < i->ones[j]?=some o->ns[j]?=some n->valV kvs (.inr n)=some (.ref o))/\∀ n,n ∉ ns.take i->valV kvs (.inr n)=none)/\∃ x,σ=[some (.ref pd),some (.ref d),x]) ⟨s1,⟨[],upd_same,Nat.zero_le _,fun j o n h=>absurd h (by omega),fun n _=>rfl⟩,none,rfl⟩ (fun i σ H' _ h=>SqT.of (h.1 _ _ hp)) ?_ ?_⟩
  · rintro i v σ H1 hv ⟨s2,⟨kvs,hd2,lk,a1,a2⟩,x,rfl⟩
    rw [List.getElem?_map] at hv
    obtain ⟨o,ho,rfl⟩:=Option.map_eq_some_iff.mp hv
    have hi:=(List.getElem?_eq_some_iff.mp ho).1
    have hn:ns[i]?=some (ns[i]'(by omega)):=List.getElem?_eq_getElem _
    generalize ns[i]'(by omega)=n at hn
    obtain ⟨rest,hO⟩:=h1 i o n ho hn
    refine ⟨_,rfl,_,rfl,_,rfl,o,_,_,_,rfl,rfl,SqT.of (s2 _ _ hO),atI_nat (j:=0) rfl,d,_,rfl,DPut.k (k:=.inr n) hd2 (by omega),s2.put hd,⟨_,upd_same,?_,fun j o' n' hj h1 h2=>?_,fun n' h'=>?_⟩,_,rfl⟩
    · unfold putK
      split
      · rw [List.length_map]; omega
      · rw [List.length_append]; show _ + 1<=_; omega
    · rw [valV_put]
      by_cases c:j=i
      · subst c
        rw [hn] at h2
        rw [ho] at h1
        cases h1; cases h2
        rw [if_pos rfl]
      · rw [if_neg (fun e=>c (nodup_ix hnd h2 (by rw [hn,Sum.inr.inj e])))]
        exact a1 j o' n' (by omega) h1 h2
    · rw [List.take_add_one,hn] at h'
      have h':n' ∉ ns.take i ++ [n]:=h'
      rw [List.mem_append,not_or] at h'
      rw [valV_put,if_neg (fun e=>h'.2 (List.mem_singleton.mpr (Sum.inr.inj e)))]
      exact a2 n' h'.1
  · rintro σ H1 ⟨s2,⟨kvs,hd2,lk,a1,a2⟩,x,rfl⟩
    rw [List.length_map] at a1 a2
    exact ⟨_,rfl,q _ d kvs s2 hd hd2 (fun i o n g1 g2=>a1 i o n (List.getElem?_eq_some_iff.mp g1).1 g1 g2) fun n hn=>a2 n (by rw [lo,List.take_of_length_le (Nat.le_refl _)]; exact hn)⟩
theorem scRun:FnScope ["program","name","args","steps","defs","values","running","fault"] ["program","name","args","steps"] (defScope sRun):=⟨rfl,rfl,rfl,by decide +kernel,rfl,by decide +kernel,by decide +kernel⟩
end
end GN
namespace GN
open PySem L2 K11
inductive Oc
  | told (f:List V)
  | late
  | fault (w:Str)
def mrun (kv:Kvs) (ds:Dfl) (st:Int):Nat->Bd->En->List Wt->Nat->Option Oc
  | 0,_,_,_,_=>none
  | N + 1,b,e,ts,k=>match stp kv ds st b e ts k with
    | .go b' e' ts' k'=>mrun kv ds st N b' e' ts' k'
    | .told f=>some (.told f)
    | .late=>some .late
    | .fault w=>some (.fault w)
def AnsG (H:Hp) (p:Addr) (st:Int):Oc->Prop
  | .told f=>Ans H p (.inl f)
  | .late=>H p=some (.tup [.str "late",.int st])
  | .fault w=>Ans H p (.inr w)
def IsDs (H:Hp) (ones:List Addr) (ds:Dfl):Prop:=ones.length=ds.length/\∀ (i:Nat) o a,ones[i]?=some o->ds[i]?=some a->∃ pp pb,H o=some (.tup [.str a.1,.ref pp,.ref pb])/\H pp=some (.tup (a.2.1.map V.str))/\IsBd H a.2.2 pb
theorem IsDs.keep {H H':Hp} (t:Tups H H') {ones:List Addr} {ds:Dfl} (h:IsDs H ones ds):IsDs H' ones ds:=⟨h.1,fun i o a h1 h2=>let ⟨pp,pb,a1,a2,a3⟩:=h.2 i o a h1 h2; ⟨pp,pb,t _ _ a1,t _ _ a2,a3.keep t⟩⟩
def IsPG (H:Hp) (ks:List (List (Str × Nat))) (ds:Dfl) (p:Addr):Prop:=∃ pk pd ones,H p=some (.tup [.ref pk,.ref pd])/\Kn H pk ks/\H pd=some (.tup (ones.map V.ref))/\IsDs H ones ds
structure PGOk (ks:List (List (Str × Nat))) (ds:Dfl):Prop where
  k:KsOk ks
  n:(ds.map (·.1)).Nodup
  l:ds.length<=100
  b:∀ a∈ds,a.2.1.Nodup/\a.2.1.length<=9/\OkX (puts ks.flatten []) ds a.2.1 a.2.2/\a.2.2.sz<=700
def spRunG (T:Addr):Sp:=fun vs H Q _=>∃ (p al:Addr) (st:Int) (g:Str) (ks:List (List (Str × Nat))) (ds:Dfl) (a:Str × List Str × Bd) (as:List Addr) (xss:List (List V)) (M:Nat) (o:Oc),vs=[.ref p,.str g,.ref al,.int st]/\IsPG H ks ds p/\PGOk ks ds/\dfOf ds g=some a/\Args H ks al as xss/\a.2.1.length=xss.length/\Tb T H/\0<=st/\st<=10000/\mrun (puts ks.flatten []) ds st M a.2.2 (a.2.1.zip xss) [] 0=some o /\
  ∀ H' r,KT T H H'->Tb T H'->AnsG H' r st o->Q (.ref r) H'
section
variable {P:Program} {w:World} {K:PySem.W.Frag} {mg:Str->Option Value} {base:Heap} {f R C cR cW T:Addr} {fd:FuncData}
theorem ok_runG (F:Fun K "run" "run" sRun f fd) (N:Rn K cR) (X:Ft K mg C) (GY:Ca P w K mg base CX0 1 "by_name" ["defs"] spByM) (GB:Ca P w K mg base CX0 3 "begun_with" ["kinds","defs","name","args"] spBegunZ) (GM:Ma P w K mg base CX0 1 "Run" cR ["self","defs","steps"] (spRInit cR)) (GE:Me P w K mg base CX0 1 cR "begin_def" ["self","name","values"] (spBegin cR)) (GO:Me P w K mg base (CXf P w) 6 cR "go_on" ["self"] (spGoG cR cW C T)):FnOk P w K mg base CX0 7 f fd ["program","name","args","steps"] (spRunG T):=by
  refine F.by scRun (fun vs H Q E h=>?_) (fun cdv A outer s H vs Q E hr h=>?_)
  · obtain ⟨p,al,st,g,ks,ds,a,as,xss,M,o,rfl,_⟩:=h
    rfl
  obtain ⟨p,al,st,g,ks,ds,a,as,xss,M,o,rfl,⟨pk,pd,ones,hp,hK,hpd,hds⟩,hOk,hg,hA,ll,hT,st0,st1,hrun,q⟩:=h
  have r1:Room 1 _:=hr.mono (by decide)
  have r2:Room 2 _:=hr.mono (by decide)
  have r3:Room 3 _:=hr.mono (by decide)
  have r6:Room 6 _:=hr.mono (by decide)
  obtain ⟨fi,MX⟩:=X.cl
  refine ⟨_,
    (jss_cons (js_set (i:=4) scRun.nd rfl (Or.inl rfl) (je_ca GY r1 rfl pass0 (ja_c (je_ix jx_tup (jv 0) je_int (fun _ _=>rfl)) ja_nil)))
    (jss_cons (js_set (i:=5) scRun.nd rfl (Or.inl rfl) (je_ca GB r3 rfl pass0 (ja_c (je_ix jx_tup (jv 0) je_int (fun _ _=>rfl)) (ja_c (jv 4) (ja_c (jv 1) (ja_c (jv 2) ja_nil))))))
    (jss_cons (js_set (i:=6) scRun.nd rfl (Or.inl rfl) (je_ma GM r2 rfl pass0 (ja_c (jv 4) (ja_c (jv 3) ja_nil))))
    (jss_cons (js_expr (je_me (jv 6) N.cl GE r1 pass0 (ja_c (jv 1) (ja_c (jv 5) ja_nil))))
    (jss_cons (js_tryWh (tb:=fun D=>_) (fun pins D ok=>jt_isN (je_fldK K (jv 6))) (fun pins D ok=>jss_one (js_expr (je_me0 (jv 6) N.cl GO r6 (pass_tryW (hb_as (i:=7) (th:=fun e oe=>_) hb_nil scRun.nd rfl rfl X.m (fun e oe=>jss_one (js_ret (je_tup (ja_c je_str (ja_c (je_xfld (e:=e) (oe:=oe) List.mem_cons_self MX X.fn X.hd (jv 7)) ja_nil)))))) ok)))))
    (jss_one (js_ret (je_fld (jv 6))))))))),?_⟩
  have sl:=line0
  have am:a∈ds:=List.mem_of_find?_eq_some hg
  have ag:a.1=g:=by simpa using List.find?_some hg
  obtain ⟨y1,y2,y3,y4⟩:=hOk.b a am
  refine ⟨_,rfl,p,_,_,_,rfl,rfl,SqT.of hp,atI_nat (j:=1) rfl,pd,ones,ds.map (·.1),rfl,hpd,by rw [List.length_map]; exact hds.1,hOk.n,by rw [List.length_map]; exact hOk.l,fun i o n h1 h2=>?_,fun H1 d dks s1 fd1 hd1 hdv _=>?_⟩
  · rw [List.getElem?_map] at h2
    obtain ⟨a',ha',rfl⟩:=Option.map_eq_some_iff.mp h2
    obtain ⟨pp,pb,e1,_⟩:=hds.2 i o a' h1 ha'
    exact ⟨_,e1⟩
  have fnd:∀ g' a',dfOf ds g'=some a'->∃ one pp pb,valV dks (.inr g')=some (.ref one)/\H one=some (.tup [.str g',.ref pp,.ref pb])/\H pp=some (.tup (a'.2.1.map V.str))/\IsBd H a'.2.2 pb:=fun g' a' hf=>by
    have m':a'∈ds:=List.mem_of_find?_eq_some hf
    have e':a'.1=g':=by simpa using List.find?_some hf
    obtain ⟨i,hi⟩:=List.getElem?_of_mem m'
    have hl:=(List.getElem?_eq_some_iff.mp hi).1
    have ho:ones[i]?=some (ones[i]'(by rw [hds.1]; exact hl)):=List.getElem?_eq_getElem _
    obtain ⟨pp,pb,e1,e2,e3⟩:=hds.2 i _ a' ho hi
    exact ⟨_,pp,pb,hdv i _ g' ho (by rw [List.getElem?_map,hi]; show some a'.1=_; rw [e']),by rw [<- e']; exact e1,e2,e3⟩
  obtain ⟨one,pp,pb,v1,h1,hpp,hby⟩:=fnd g a hg
  refine ⟨_,rfl,p,_,_,_,rfl,rfl,SqT.of (s1 _ _ hp),rfl,_,rfl,_,rfl,_,rfl,pk,d,al,one,pp,pb,g,ks,_,a.2.1,as,xss,rfl,hK.keep (.of s1),hOk.k,hd1,v1,s1 _ _ h1,s1 _ _ hpp,hA.same s1,ll,by omega,fun H2 vl us s2 hvl lus hus=>?_⟩
  have s12:=s1.trans s2
  refine ⟨_,rfl,_,rfl,fun r dx hr0 hdx0 ndx=>?_⟩
  have n3:=(same_new hdx0 (.own r)).new (o:=.ins cR dx []) (by rw [upd_ne (Ne.symm ndx)]; exact hr0)
  have hr3:=upd_same (H:=upd H2 dx (.own r)) (a:=r) (o:=.ins cR dx [])
  have fr3:H r=none:=s12.free hr0
  generalize upd (upd H2 dx (.own r)) r (.ins cR dx [])=H3 at *
  have s13:=s12.trans n3
  refine ⟨r,dx,d,st,rfl,hr3,fun H4 wl nd k4 fwl fnd0 hr4 hwl hnd=>⟨rfl,?_⟩⟩
  have fwl':H wl=none:=s13.free fwl
  have kt4:KT T H H4:=(KT.of s13).kx k4 fun z hz=>.inr (by rw [List.mem_singleton.mp hz]; exact fr3)
  have keep4:∀ {z:Addr} {o:HO},H2 z=some o->H4 z=some o:=fun {z o} e=>k4 _ _ (by
    intro c
    rw [List.mem_singleton.mp c,hr0] at e
    cases e) (n3 _ _ e)
  have tu4:Tups H2 H4:=fun z xs e=>keep4 e
  have hd4:=keep4 (s2 _ _ hd1)
  have T4:Tb T H4:=by
    obtain ⟨ps0,e1,e2⟩:=hT
    refine ⟨ps0,keep4 (s12 _ _ e1),?_⟩
    rcases e2 with e2 | ⟨c,e2,e3⟩
    · exact .inl e2
    · exact .inr ⟨c,e2,keep4 (s12 _ _ e3)⟩
  refine ⟨_,rfl,r,dx,_,rfl,hr4,rfl,_,rfl,_,rfl,r,dx,d,wl,nd,vl,one,pp,pb,st,0,.non,g,_,a.2.1,us,rfl,hr4,hd4,v1,keep4 (s12 _ _ h1),keep4 (s12 _ _ hpp),y1,keep4 hvl,by omega,fun H5 nd' k5 fnd' hr5 hnd5=>?_⟩
  have fnd1:H nd'=none:=by
    cases c:H nd' with
    | none=>rfl
    | some o =>
      rw [keep4 (s12 _ _ c)] at fnd'
      cases fnd'
  have ne4:∀ {z:Addr} {o:HO},H4 z=some o->(∀ C dx fs,o≠.ins C dx fs)->z ∉ [r]:=fun {z o} e n c=>by
    rw [List.mem_singleton.mp c,hr4] at e
    cases e
    exact n _ _ _ rfl
  have kt5:KT T H H5:=kt4.kx k5 fun z hz=>.inr (by rw [List.mem_singleton.mp hz]; exact fr3)
  have hwl5:H5 wl=some (.lst []):=k5 _ _ (ne4 hwl (by intro _ _ _ z; cases z)) hwl
  have hd5:=k5 _ _ (ne4 hd4 (by intro _ _ _ z; cases z)) hd4
  have T5:Tb T H5:=T4.kx k5 fun z hz=>.inl (by rw [List.mem_singleton.mp hz]; exact ⟨_,_,_,hr4⟩)
  have tu5:Tups H4 H5:=fun z xs e=>k5 _ _ (ne4 e (by intro _ _ _ z; cases z)) e
  have tu25:Tups H2 H5:=fun z xs e=>tu5 _ _ (tu4 _ _ e)
  have tu05:Tups H H5:=fun z xs e=>tu25 _ _ (s12 _ _ e)
  have hE5:Ez (puts ks.flatten []) H5 (zkv a.2.1 us) (a.2.1.zip xss):=er_zipZ ll lus fun j u xs h1 h2=>(hus j u xs h1 h2).keep tu25
  have lz:(zkv a.2.1 us).length<=9:=by
    unfold zkv
    rw [List.length_map,List.length_zip]
    omega
  have MS0:MS cR cW T (puts ks.flatten []) ds st H H5 r dx d a.2.2 (a.2.1.zip xss) [] 0 :=
    ⟨⟨wl,nd',pb,_,[],[],hr5,hby.keep tu05,hnd5,hE5,by omega,hwl5,trivial,by simp,fun c=>(by rw [<- List.mem_singleton.mp c,hd4] at fnd'; cases fnd'),fwl',fun z hz=>(by rw [List.mem_singleton.mp hz]; exact fnd1)⟩,⟨a.2.1,bnd_zip ll,y3⟩,fr3,kt5,T5,⟨⟨dks,hd5,fun g' a' hf=>let ⟨one,pp,pb,e1,e2,e3,e4⟩:=fnd g' a' hf; ⟨one,pp,pb,e1,tu05 _ _ e2,tu05 _ _ e3,e4.keep tu05⟩⟩,hOk.b⟩,Nat.le_refl _,st0,st1⟩
  refine ⟨fun m σ H'=>σ=[some (.ref p),some (.str g),some (.ref al),some (.int st),some (.ref d),some (.ref vl),some (.ref r),none]/\((∃ b e ts k,MS cR cW T (puts ks.flatten []) ds st H H' r dx d b e ts k/\mrun (puts ks.flatten []) ds st m b e ts k=some o)\/(m=0/\KT T H H'/\Tb T H'/\∃ tp dn wl bb nd,H' r=some (RO cR dx d st dn wl bb nd (.ref tp))/\AnsG H' tp st o)),⟨M,rfl,.inl ⟨_,_,_,_,MS0,hrun⟩⟩,?_⟩
  rintro m σ H6 ⟨rfl,hcase⟩
  rcases hcase with ⟨b,e,ts,k,ms,hm⟩ | ⟨rfl,kt6,T6,tp,dn,wl6,bb,nd6,hr6,hAns⟩
  · obtain ⟨wl6,nd6,pb6,ks6,ws6,nds6,hr6,_⟩:=ms.ex
    cases m with
    | zero=>cases hm
    | succ m =>
      refine ⟨_,rfl,r,cR,dx,_,_,rfl,hr6,N.cl,N.a7,rfl,_,rfl,iteT' (decide_eq_true rfl) ⟨_,fun _ _ h=>h,?_⟩⟩
      refine ⟨_,rfl,r,dx,_,rfl,hr6,rfl,puts ks.flatten [],ds,st,H,r,dx,d,b,e,ts,k,rfl,ms,fun b' e' ts' k' hs H7 ms7=>?_,fun ff hs H7 tp dn wl7 bb nd7 kt7 T7 g1 g2=>?_,fun hs H7 tp dn wl7 bb nd7 kt7 T7 g1 g2=>?_,fun ww hw dd' H7 s7 hdd=>?_⟩
      · exact ⟨m,Nat.lt_succ_self _,rfl,.inl ⟨b',e',ts',k',ms7,by rw [mrun,hs] at hm; exact hm⟩⟩
      · exact ⟨0,Nat.succ_pos _,rfl,.inr ⟨rfl,kt7,T7,tp,dn,wl7,bb,nd7,g1,by rw [mrun,hs] at hm; cases hm; exact g2⟩⟩
      · exact ⟨0,Nat.succ_pos _,rfl,.inr ⟨rfl,kt7,T7,tp,dn,wl7,bb,nd7,g1,by rw [mrun,hs] at hm; cases hm; exact g2⟩⟩
      · refine .inl ⟨X.ex,fun e' oe ws σ' hσ hc hdx hdt _ _=>?_⟩
        have hσ:σ'.length=8:=hσ
        refine ⟨_,by rw [List.getElem?_set_self (by omega)],rfl,hc,⟨ws,hdt⟩,dd',_,_,hdx,hdd,rfl,by show 2<=sizeLine; decide,fun tp htp=>?_⟩
        have n8:=same_new htp (.tup [.str "fault",.str ww])
        have s8:=s7.trans n8
        refine q _ tp (fun c u n h=>s8 _ _ (ms.kt c u n h)) (ms.tb.same s8) ?_
        rw [mrun,hw] at hm
        cases hm
        exact upd_same
  · refine ⟨_,rfl,r,cR,dx,_,_,rfl,hr6,N.cl,N.a7,rfl,_,rfl,iteF' (decide_eq_false (by intro z; cases z)) ?_⟩
    exact ⟨_,rfl,r,cR,dx,_,_,rfl,hr6,N.cl,N.a7,rfl,q _ tp kt6 T6 hAns⟩
end
end GN
namespace GN
open PySem L2 K11
abbrev inz (xs:List Int):List V:=xs.map V.int
def rowH (cons:Str) (xs:List Int):List V:=xs.flatMap fun x=>[.str cons,.int x]
def rowP (nil cons:Str) (xs:List Int):List V:=rowH cons xs ++ [.str nil]
theorem rowH_len (cons:Str):∀ xs:List Int,(rowH cons xs).length=2 * xs.length
  | []=>rfl
  | x :: r=>by
    have:=rowH_len cons r
    unfold rowH at *
    rw [List.flatMap_cons,List.length_append,this]
    show 2 + 2 * r.length=2 * (r.length + 1)
    omega
def spRowP:Sp:=fun vs H Q _=>∃ (lr:Addr) (nil cons:Str) (xs:List Int),vs=[.ref lr,.str nil,.str cons]/\H lr=some (.lst (inz xs))/\xs.length<=3000/\∀ H' l,Same H H'->H l=none->H' l=some (.lst (rowP nil cons xs))->Q (.ref l) H'
section
variable {P:Program} {w:World} {K:PySem.W.Frag} {mg:Str->Option Value} {base:Heap} {f T:Addr} {fd:FuncData}
theorem scRowP:FnScope ["_law_row_here","_law_nil","_law_cons","_law_parts_here","_law_one"] ["_law_row_here","_law_nil","_law_cons"] (defScope sLParts):=⟨rfl,rfl,rfl,by decide +kernel,rfl,by decide +kernel,by decide +kernel⟩
theorem ok_rowP (F:Fun K "_law_parts" "_law_parts" sLParts f fd):FnOk P w K mg base CX0 1 f fd ["_law_row_here","_law_nil","_law_cons"] spRowP:=by
  refine F.by scRowP (fun vs H Q E h=>?_) (fun cdv A outer s H vs Q E hr h=>?_)
  · obtain ⟨lr,nil,cons,xs,rfl,_⟩:=h
    rfl
  obtain ⟨lr,nil,cons,xs,rfl,hl,l3,q⟩:=h
  refine ⟨_,
    (jss_cons (js_set (i:=3) scRowP.nd rfl (Or.inl rfl) (je_lst ja_nil))
    (jss_cons (js_for PassesOwn.never rfl (ji_list (jv 0)) (jg_name (i:=4) scRowP.nd rfl (Or.inl rfl))
      (jss_one (js_set (i:=3) scRowP.nd rfl (Or.inl rfl) (je_op jo_cat (jv 3) (je_lst (ja_c (jv 2) (ja_c (jv 4) ja_nil)))))))
    (jss_one (js_ret (je_op jo_cat (jv 3) (je_lst (ja_c (jv 1) ja_nil))))))),?_⟩
  have sl:=line0
  refine ⟨by show 0<=sizeLine; decide,fun p0 h0=>?_⟩
  have s0:=same_new h0 (.lst [])
  refine ⟨_,rfl,lr,rfl,⟨_,SqL.of (s0 _ _ hl)⟩,for_list (xs:=inz xs) (fun i σ H'=>Same H H'/\∃ (p:Addr) (v4:Option V),σ=[some (.ref lr),some (.str nil),some (.str cons),some (.ref p),v4]/\H' p=some (.lst (rowH cons (xs.take i)))) ⟨s0,p0,none,rfl,upd_same⟩ (fun i σ H' _ h=>SqL.of (h.1 _ _ hl)) ?_ ?_⟩
  · rintro i v σ H1 hv ⟨s1,p,v4,rfl,hp⟩
    rw [List.getElem?_map] at hv
    obtain ⟨x,hx,rfl⟩:=Option.map_eq_some_iff.mp hv
    have hi:=(List.getElem?_eq_some_iff.mp hx).1
    have ln:=rowH_len cons (xs.take i)
    rw [List.length_take] at ln
    refine ⟨_,rfl,_,rfl,_,rfl,by show 2<=sizeLine; decide,fun p2 h2=>?_⟩
    have n2:=same_new h2 (.lst [V.str cons,V.int x])
    refine ⟨p,p2,_,_,rfl,rfl,n2 _ _ hp,upd_same,by rw [ln]; show _ + 2<=_; omega,fun p3 h3=>⟨(s1.trans n2).new h3,p3,_,rfl,?_⟩⟩
    rw [upd_same,List.take_add_one,hx]
    unfold rowH
    rw [List.flatMap_append]
    rfl
  · rintro σ H1 ⟨s1,p,v4,rfl,hp⟩
    rw [List.length_map,List.take_of_length_le (Nat.le_refl _)] at hp
    have ln:=rowH_len cons xs
    refine ⟨_,rfl,_,rfl,by show 1<=sizeLine; decide,fun p2 h2=>?_⟩
    have n2:=same_new h2 (.lst [V.str nil])
    refine ⟨p,p2,_,_,rfl,rfl,n2 _ _ hp,upd_same,by rw [ln]; show _ + 1<=_; omega,fun p3 h3=>?_⟩
    exact q _ p3 ((s1.trans n2).new h3) ((s1.trans n2).free h3) upd_same
end
end GN
namespace GN
open PySem L2 K11
theorem hgt_cons (kvs:Kvs) (x:V) (xs:List V):hgt kvs (x :: xs)=match hgt kvs xs,dl kvs x with
    | some n,some s=>if s<=n then some (n - s + 1) else none
    | _,_=>none:=rfl
theorem pcs_one {kvs:Kvs}:∀ {xs:List V} {n L:Nat} {acc:List V},hgt kvs xs=some n->1<=L->L<=n->∃ p q,xs=p ++ q/\pcs kvs L xs acc=(acc ++ p) :: pcs kvs 1 q []/\hgt kvs p=some L/\hgt kvs q=some (n - L)
  | [],n,L,acc,h,h1,h2=>by
    cases h
    omega
  | x :: r,n,L,acc,h,h1,h2=>by
    rw [hgt_cons] at h
    cases e1:hgt kvs r with
    | none=>rw [e1] at h; cases h
    | some m =>
      rw [e1] at h
      cases e2:dl kvs x with
      | none=>rw [e2] at h; cases h
      | some s =>
        rw [e2] at h
        dsimp only at h
        by_cases c:s<=m
        · rw [if_pos c] at h
          cases h
          rw [pcs_cons,e2]
          show ∃ p q,x :: r=p ++ q/\(if L - 1 + s=0 then _ else _)=_/\_
          by_cases c0:L - 1 + s=0
          · rw [if_pos c0]
            refine ⟨[x],r,rfl,rfl,?_,?_⟩
            · rw [hgt_cons,e2,show hgt kvs []=some 0 from rfl]
              dsimp only
              rw [if_pos (by omega)]
              congr 1
              omega
            · rw [e1]
              congr 1
              omega
          · rw [if_neg c0]
            obtain ⟨p,q,a1,a2,a3,a4⟩:=pcs_one (acc:=acc ++ [x]) e1 (show 1<=L - 1 + s by omega) (by omega)
            refine ⟨x :: p,q,by rw [a1]; rfl,by show pcs kvs (L - 1 + s) r (acc ++ [x])=_; rw [a2,List.append_assoc]; rfl,?_,?_⟩
            · rw [hgt_cons,e2,a3]
              dsimp only
              rw [if_pos (by omega)]
              congr 1
              omega
            · rw [a4]
              congr 1
              omega
        · rw [if_neg c] at h
          cases h
theorem hgt_pos {kvs:Kvs} {x:V} {r:List V} {n:Nat} (h:hgt kvs (x :: r)=some n):1<=n:=by
  rw [hgt_cons] at h
  split at h
  · split at h
    · cases h; omega
    · cases h
  · cases h
structure NC (kv:Kvs) (nil cons:Str):Prop where
  n:szOf kv nil=some 0
  c:szOf kv cons=some 2
theorem rowP_nil (nil cons:Str):rowP nil cons []=[.str nil]:=rfl
theorem rowP_cons (nil cons:Str) (x:Int) (r:List Int):rowP nil cons (x :: r)=.str cons :: .int x :: rowP nil cons r:=rfl
theorem hgt_row {kv:Kvs} {nil cons:Str} (h:NC kv nil cons):∀ {xs:List Int},(∀ x∈xs,Sm x)->hgt kv (rowP nil cons xs)=some 1
  | [],_=>by
    rw [rowP_nil,hgt_cons,show dl kv (.str nil)=some 0 from h.n,show hgt kv []=some 0 from rfl]
    rfl
  | x :: r,g=>by
    have ih:=hgt_row h (xs:=r) fun y hy=>g y (List.mem_cons_of_mem _ hy)
    have hx:dl kv (.int x)=some 0:=if_pos (g x (List.mem_cons_self ..))
    rw [rowP_cons,hgt_cons,hgt_cons,ih,hx,show dl kv (.str cons)=some 2 from h.c]
    rfl
theorem pcs_val {kv:Kvs} {xs:List V} (h:hgt kv xs=some 1):pcs kv 1 xs []=[xs]:=by
  obtain ⟨p,q,rfl,a2,a3,a4⟩:=pcs_one (acc:=[]) h (Nat.le_refl 1) (Nat.le_refl 1)
  have:q=[]:=by
    cases q with
    | nil=>rfl
    | cons x r=>exact absurd (hgt_pos a4) (by decide)
  subst this
  rw [a2]
  show [[] ++ p]=[p ++ []]
  rw [List.append_nil,List.nil_append]
theorem pcs_row {kv:Kvs} {nil cons:Str} (h:NC kv nil cons) {x:Int} {r:List Int} (hx:Sm x) (hr:∀ y∈r,Sm y):pcs kv 1 (rowP nil cons (x :: r)).tail []=[[.int x],rowP nil cons r]:=by
  rw [rowP_cons]
  show pcs kv 1 (.int x :: rowP nil cons r) []=_
  have hd:dl kv (.int x)=some 0:=if_pos hx
  rw [pcs_cons,hd]
  show (if 1 - 1 + 0=0 then ([] ++ [V.int x]) :: pcs kv 1 (rowP nil cons r) [] else _)=_
  rw [if_pos rfl,pcs_val (hgt_row h hr)]
  rfl
end GN
namespace GN
open PySem L2 K11
inductive Ou
  | ret (f:List V) (k:Nat)
  | late
  | fault (w:Str)
def fin (kv:Kvs) (ds:Dfl) (st:Int) (N:Nat) (ts:List Wt):Ou->Option Oc
  | .ret f k=>match ts with
    | []=>some (.told f)
    | t :: r=>mrun kv ds st N t.b (putE t.e t.n f) r k
  | .late=>some .late
  | .fault w=>some (.fault w)
def Ou.oc:Ou->Oc
  | .ret f _=>.told f
  | .late=>.late
  | .fault w=>.fault w
def Big (kv:Kvs) (ds:Dfl) (st:Int) (b:Bd) (e:En) (k:Nat) (o:Ou):Prop:=∃ c,∀ N ts,mrun kv ds st (N + c) b e ts k=fin kv ds st N ts o
section
variable {kv:Kvs} {ds:Dfl} {st:Int} {b b' b2:Bd} {e e':En} {k k':Nat} {o:Ou}
theorem Big.run (h:Big kv ds st b e k o):∃ M,mrun kv ds st M b e [] k=some o.oc:=by
  obtain ⟨c,h⟩:=h
  refine ⟨0 + c,?_⟩
  rw [h 0 []]
  cases o <;> rfl
theorem mrun_go {N:Nat} {ts ts':List Wt} (h:stp kv ds st b e ts k=.go b' e' ts' k'):mrun kv ds st (N + 1) b e ts k=mrun kv ds st N b' e' ts' k':=by rw [mrun,h]
theorem Big.give {x:Str}:Big kv ds st (.give x) e k (.ret (prt e x) k):=⟨1,fun N ts=>by
  cases ts with
  | nil=>rfl
  | cons t r=>exact mrun_go rfl⟩
theorem Big.go (h:∀ ts,stp kv ds st b e ts k=.go b' e' ts k') (g:Big kv ds st b' e' k' o):Big kv ds st b e k o:=by
  obtain ⟨c,g⟩:=g
  exact ⟨c + 1,fun N ts=>by rw [<- g N ts]; exact mrun_go (h ts)⟩
theorem Big.flt {w:Str} (h:∀ ts,stp kv ds st b e ts k=.fault w):Big kv ds st b e k (.fault w):=⟨1,fun N ts=>by rw [mrun,h ts]; rfl⟩
theorem Big.lateC {n g:Str} {ns:List Str} (h:(k:Int)=st):Big kv ds st (.lt n (.call g ns) b2) e k .late:=⟨1,fun N ts=>by rw [mrun,stp,if_pos h]; rfl⟩
theorem Big.call {n g:Str} {ns:List Str} {a:Str × List Str × Bd} {f:List V} {k1:Nat} (h:(k:Int)≠st) (ha:dfOf ds g=some a) (g1:Big kv ds st a.2.2 (a.2.1.zip (ns.map (prt e))) (k + 1) (.ret f k1)) (g2:Big kv ds st b2 (putE e n f) k1 o):Big kv ds st (.lt n (.call g ns) b2) e k o:=by
  obtain ⟨c1,g1⟩:=g1
  obtain ⟨c2,g2⟩:=g2
  refine ⟨c2 + c1 + 1,fun N ts=>?_⟩
  rw [<- g2 N ts,<- Nat.add_assoc,<- Nat.add_assoc,mrun_go (b':=a.2.2) (e':=a.2.1.zip (ns.map (prt e))) (ts':=⟨n,b2,e⟩ :: ts) (k':=k + 1) (by rw [stp,if_neg h,ha]),g1 (N + c2) (⟨n,b2,e⟩ :: ts)]
  rfl
theorem Big.callX {n g:Str} {ns:List Str} {a:Str × List Str × Bd} (h:(k:Int)≠st) (ha:dfOf ds g=some a) (g1:Big kv ds st a.2.2 (a.2.1.zip (ns.map (prt e))) (k + 1) o) (ho:∀ f k,o≠.ret f k):Big kv ds st (.lt n (.call g ns) b2) e k o:=by
  obtain ⟨c1,g1⟩:=g1
  refine ⟨c1 + 1,fun N ts=>?_⟩
  rw [<- Nat.add_assoc,mrun_go (b':=a.2.2) (e':=a.2.1.zip (ns.map (prt e))) (ts':=⟨n,b2,e⟩ :: ts) (k':=k + 1) (by rw [stp,if_neg h,ha]),g1 N (⟨n,b2,e⟩ :: ts)]
  cases o with
  | ret f k=>exact absurd rfl (ho f k)
  | late=>rfl
  | fault w=>rfl
end
end GN
namespace GN
open PySem L2 K11
theorem valE_cons (p:Str × List V) (r:En) (m:Str):valE (p :: r) m=if p.1=m then some p.2 else valE r m:=by
  unfold valE
  rw [List.find?_cons]
  by_cases c:p.1=m
  · rw [decide_eq_true c,if_pos c]
    rfl
  · rw [decide_eq_false c,if_neg c]
theorem valE_map (n m:Str) (f:List V):∀ e:En,valE (e.map fun p=>if p.1=n then (p.1,f) else p) m=if m=n then (valE e m).map (fun _=>f) else valE e m
  | []=>by split <;> rfl
  | p :: r=>by
    have ih:=valE_map n m f r
    rw [List.map_cons,valE_cons,valE_cons,ih]
    by_cases c:p.1=n
    · rw [if_pos c]
      by_cases d:p.1=m
      · rw [if_pos d,if_pos d,if_pos (d.symm.trans c)]
        rfl
      · rw [if_neg d,if_neg d]
    · rw [if_neg c]
      by_cases d:p.1=m
      · rw [if_pos d,if_pos d,if_neg (fun z=>c (d.trans z))]
      · rw [if_neg d,if_neg d]
theorem valE_snoc (n m:Str) (f:List V):∀ e:En,valE (e ++ [(n,f)]) m=match valE e m with
    | some g=>some g
    | none=>if n=m then some f else none
  | []=>by
    rw [List.nil_append,valE_cons]
    rfl
  | p :: r=>by
    rw [List.cons_append,valE_cons,valE_cons,valE_snoc n m f r]
    by_cases d:p.1=m
    · rw [if_pos d,if_pos d]
    · rw [if_neg d,if_neg d]
theorem valE_putE (e:En) (n m:Str) (f:List V):valE (putE e n f) m=if m=n then some f else valE e m:=by
  unfold putE
  by_cases a:(e.any fun p=>decide (p.1=n))=true
  · rw [if_pos a,valE_map]
    by_cases c:m=n
    · rw [if_pos c,if_pos c,c]
      rw [valE_any] at a
      obtain ⟨g,hg⟩:=Option.isSome_iff_exists.mp a
      rw [hg]
      rfl
    · rw [if_neg c,if_neg c]
  · rw [if_neg a,valE_snoc]
    by_cases c:m=n
    · subst c
      rw [valE_any] at a
      rw [Option.not_isSome_iff_eq_none.mp a,if_pos rfl]
    · rw [if_neg c]
      cases valE e m with
      | some g=>rfl
      | none=>exact if_neg fun z=>c z.symm
theorem prt_put (e:En) (n m:Str) (f:List V):prt (putE e n f) m=if m=n then f else prt e m:=by
  unfold prt
  rw [valE_putE]
  by_cases c:m=n
  · rw [if_pos c,if_pos c]
    rfl
  · rw [if_neg c,if_neg c]
end GN
namespace GN
open PySem L2 K11
structure N7 (row acc h t n r s:Str):Prop where
  d:[row,acc,h,t,n,r,s].Nodup
def foldB (row acc h t n r g nil cons w:Str):Bd:=.cs row (.cons nil [] (.give acc) (.cons cons [h,t] (.lt n (.dd (.op w acc h)) (.lt r (.call g [t,n]) (.give r))) .nil))
def foldO (w:Str) (st:Int):List Int->Int->Nat->Ou
  | [],a,k=>.ret [.int a] k
  | x :: r,a,k=>if K31.fw w (some a) (some x)="" then (if (k:Int)=st then .late else foldO w st r (K31.res w a x) (k + 1)) else .fault (K31.fw w (some a) (some x))
theorem big_fold {kv:Kvs} {ds:Dfl} {st:Int} {row acc h t n r s g nil cons w:Str} (N:N7 row acc h t n r s) (nc:NC kv nil cons) (hnc:nil≠cons) (hg:dfOf ds g=some (g,[row,acc],foldB row acc h t n r g nil cons w)):∀ (xs:List Int) (a:Int) (k:Nat),(∀ x∈xs,Sm x)->Big kv ds st (foldB row acc h t n r g nil cons w) [(row,rowP nil cons xs),(acc,[.int a])] k (foldO w st xs a k)
  | [],a,k,_=>by
    have hd:=N.d
    simp only [List.nodup_cons,List.mem_cons,List.not_mem_nil,not_or] at hd
    have e1:prt [(row,rowP nil cons []),(acc,[.int a])] row=[.str nil]:=by unfold prt; rw [valE_cons,if_pos rfl]; rfl
    have e2:prt [(row,rowP nil cons []),(acc,[.int a])] acc=[.int a]:=by unfold prt; rw [valE_cons,if_neg hd.1.1,valE_cons,if_pos rfl]; rfl
    have:=Big.give (kv:=kv) (ds:=ds) (st:=st) (e:=[(row,rowP nil cons []),(acc,[.int a])]) (k:=k) (x:=acc)
    rw [e2] at this
    refine Big.go (fun ts=>?_) this
    unfold foldB
    rw [stp,e1]
    show (match fnd (.cons nil [] (.give acc) (.cons cons [h,t] _ .nil)) nil with | none=>_ | some a=>_)=_
    unfold fnd
    rw [Arms.hs,List.find?_cons,decide_eq_true rfl]
    rfl
  | x :: xs,a,k,hs=>by
    have hd:=N.d
    simp only [List.nodup_cons,List.mem_cons,List.not_mem_nil,not_or] at hd
    obtain ⟨e0,ee⟩:∃ e0,e0=[(row,rowP nil cons (x :: xs)),(acc,[V.int a])]:=⟨_,rfl⟩
    rw [<- ee]
    have e1:prt e0 row=rowP nil cons (x :: xs):=by rw [ee]; unfold prt; rw [valE_cons,if_pos rfl]; rfl
    have e2:prt e0 acc=[.int a]:=by rw [ee]; unfold prt; rw [valE_cons,if_neg hd.1.1,valE_cons,if_pos rfl]; rfl
    have hp:=pcs_row nc (hs x (List.mem_cons_self ..)) fun y hy=>hs y (List.mem_cons_of_mem _ hy)
    have g1:∀ ts,stp kv ds st (foldB row acc h t n r g nil cons w) e0 ts k=.go (.lt n (.dd (.op w acc h)) (.lt r (.call g [t,n]) (.give r))) (putE (putE e0 h [.int x]) t (rowP nil cons xs)) ts k:=fun ts=>by
      unfold foldB
      rw [stp,e1,hp]
      show (match fnd (.cons nil [] (.give acc) (.cons cons [h,t] _ .nil)) cons with | none=>_ | some a=>_)=_
      unfold fnd
      rw [Arms.hs,List.find?_cons,decide_eq_false hnc,Arms.hs,List.find?_cons,decide_eq_true rfl]
      rfl
    refine Big.go g1 ?_
    obtain ⟨e3,ee3⟩:∃ e3,e3=putE (putE e0 h [V.int x]) t (rowP nil cons xs):=⟨_,rfl⟩
    rw [<- ee3]
    have f1:prt e3 acc=[.int a]:=by rw [ee3,prt_put,if_neg (by simp_all),prt_put,if_neg (by simp_all),e2]
    have f2:prt e3 h=[.int x]:=by rw [ee3,prt_put,if_neg (by simp_all),prt_put,if_pos rfl]
    have f3:prt e3 t=rowP nil cons xs:=by rw [ee3,prt_put,if_pos rfl]
    have oe:outE e3 (.op w acc h)=if K31.fw w (some a) (some x)="" then .inl [.int (K31.res w a x)] else .inr (K31.fw w (some a) (some x)):=by
      show (if K31.fw w (nf (prt e3 acc)) (nf (prt e3 h))="" then Sum.inl [V.int (K31.res w ((nf (prt e3 acc)).getD 0) ((nf (prt e3 h)).getD 0))] else Sum.inr (K31.fw w (nf (prt e3 acc)) (nf (prt e3 h))))=_
      rw [f1,f2]
      rfl
    rw [foldO]
    by_cases c:K31.fw w (some a) (some x)=""
    · rw [if_pos c] at oe ⊢
      refine Big.go (fun ts=>by rw [stp,oe]) ?_
      by_cases c2:(k:Int)=st
      · rw [if_pos c2]
        exact Big.lateC c2
      · rw [if_neg c2]
        have ih:=big_fold (st:=st) N nc hnc hg xs (K31.res w a x) (k + 1) fun y hy=>hs y (List.mem_cons_of_mem _ hy)
        have ez:([row,acc]:List Str).zip ([t,n].map (prt (putE e3 n [.int (K31.res w a x)])))=[(row,rowP nil cons xs),(acc,[.int (K31.res w a x)])]:=by
          show [(row,prt (putE e3 n [.int (K31.res w a x)]) t),(acc,prt (putE e3 n [.int (K31.res w a x)]) n)]=_
          rw [prt_put,if_neg (by simp_all),prt_put,if_pos rfl,f3]
        cases ho:foldO w st xs (K31.res w a x) (k + 1) with
        | ret f k1 =>
          rw [ho] at ih
          refine Big.call c2 hg (f:=f) (k1:=k1) (by show Big kv ds st _ (([row,acc]:List Str).zip _) _ _; rw [ez]; exact ih) ?_
          have:=Big.give (kv:=kv) (ds:=ds) (st:=st) (e:=putE (putE e3 n [.int (K31.res w a x)]) r f) (k:=k1) (x:=r)
          rw [prt_put,if_pos rfl] at this
          exact this
        | late =>
          rw [ho] at ih
          exact Big.callX c2 hg (by show Big kv ds st _ (([row,acc]:List Str).zip _) _ _; rw [ez]; exact ih) (by intro _ _ z; cases z)
        | fault ww =>
          rw [ho] at ih
          exact Big.callX c2 hg (by show Big kv ds st _ (([row,acc]:List Str).zip _) _ _; rw [ez]; exact ih) (by intro _ _ z; cases z)
    · rw [if_neg c] at oe ⊢
      exact Big.flt fun ts=>by rw [stp,oe]
end GN
namespace GN
open PySem L2 K11
def turnB (row acc h t n r g nil cons:Str):Bd:=.cs row (.cons cons [h,t] (.lt n (.dd (.mk cons [h,acc])) (.lt r (.call g [t,n]) (.give r))) (.cons nil [] (.give acc) .nil))
def turnO (nil cons:Str) (st:Int):List Int->List Int->Nat->Ou
  | [],ys,k=>.ret (rowP nil cons ys) k
  | x :: r,ys,k=>if (k:Int)=st then .late else turnO nil cons st r (x :: ys) (k + 1)
theorem big_turn {kv:Kvs} {ds:Dfl} {st:Int} {row acc h t n r s g nil cons:Str} (N:N7 row acc h t n r s) (nc:NC kv nil cons) (hnc:nil≠cons) (hg:dfOf ds g=some (g,[row,acc],turnB row acc h t n r g nil cons)):∀ (xs ys:List Int) (k:Nat),(∀ x∈xs,Sm x)->Big kv ds st (turnB row acc h t n r g nil cons) [(row,rowP nil cons xs),(acc,rowP nil cons ys)] k (turnO nil cons st xs ys k)
  | [],ys,k,_=>by
    have hd:=N.d
    simp only [List.nodup_cons,List.mem_cons,List.not_mem_nil,not_or] at hd
    have e1:prt [(row,rowP nil cons []),(acc,rowP nil cons ys)] row=[.str nil]:=by unfold prt; rw [valE_cons,if_pos rfl]; rfl
    have e2:prt [(row,rowP nil cons []),(acc,rowP nil cons ys)] acc=rowP nil cons ys:=by unfold prt; rw [valE_cons,if_neg hd.1.1,valE_cons,if_pos rfl]; rfl
    have:=Big.give (kv:=kv) (ds:=ds) (st:=st) (e:=[(row,rowP nil cons []),(acc,rowP nil cons ys)]) (k:=k) (x:=acc)
    rw [e2] at this
    refine Big.go (fun ts=>?_) this
    unfold turnB
    rw [stp,e1]
    show (match fnd (.cons cons [h,t] _ (.cons nil [] (.give acc) .nil)) nil with | none=>_ | some a=>_)=_
    unfold fnd
    rw [Arms.hs,List.find?_cons,decide_eq_false (fun z=>hnc z.symm),Arms.hs,List.find?_cons,decide_eq_true rfl]
    rfl
  | x :: xs,ys,k,hs=>by
    have hd:=N.d
    simp only [List.nodup_cons,List.mem_cons,List.not_mem_nil,not_or] at hd
    obtain ⟨e0,ee⟩:∃ e0,e0=[(row,rowP nil cons (x :: xs)),(acc,rowP nil cons ys)]:=⟨_,rfl⟩
    rw [<- ee]
    have e1:prt e0 row=rowP nil cons (x :: xs):=by rw [ee]; unfold prt; rw [valE_cons,if_pos rfl]; rfl
    have e2:prt e0 acc=rowP nil cons ys:=by rw [ee]; unfold prt; rw [valE_cons,if_neg hd.1.1,valE_cons,if_pos rfl]; rfl
    have hp:=pcs_row nc (hs x (List.mem_cons_self ..)) fun y hy=>hs y (List.mem_cons_of_mem _ hy)
    have g1:∀ ts,stp kv ds st (turnB row acc h t n r g nil cons) e0 ts k=.go (.lt n (.dd (.mk cons [h,acc])) (.lt r (.call g [t,n]) (.give r))) (putE (putE e0 h [.int x]) t (rowP nil cons xs)) ts k:=fun ts=>by
      unfold turnB
      rw [stp,e1,hp]
      show (match fnd (.cons cons [h,t] _ (.cons nil [] (.give acc) .nil)) cons with | none=>_ | some a=>_)=_
      unfold fnd
      rw [Arms.hs,List.find?_cons,decide_eq_true rfl]
      rfl
    refine Big.go g1 ?_
    obtain ⟨e3,ee3⟩:∃ e3,e3=putE (putE e0 h [V.int x]) t (rowP nil cons xs):=⟨_,rfl⟩
    rw [<- ee3]
    have f1:prt e3 acc=rowP nil cons ys:=by rw [ee3,prt_put,if_neg (by simp_all),prt_put,if_neg (by simp_all),e2]
    have f2:prt e3 h=[.int x]:=by rw [ee3,prt_put,if_neg (by simp_all),prt_put,if_pos rfl]
    have f3:prt e3 t=rowP nil cons xs:=by rw [ee3,prt_put,if_pos rfl]
    have oe:outE e3 (.mk cons [h,acc])=.inl (rowP nil cons (x :: ys)):=by
      show Sum.inl (V.str cons :: ([prt e3 h,prt e3 acc]:List (List V)).flatten)=_
      rw [f1,f2,rowP_cons]
      simp
    refine Big.go (fun ts=>by rw [stp,oe]) ?_
    rw [turnO]
    by_cases c2:(k:Int)=st
    · rw [if_pos c2]
      exact Big.lateC c2
    · rw [if_neg c2]
      have ih:=big_turn (st:=st) N nc hnc hg xs (x :: ys) (k + 1) fun y hy=>hs y (List.mem_cons_of_mem _ hy)
      have ez:([row,acc]:List Str).zip ([t,n].map (prt (putE e3 n (rowP nil cons (x :: ys)))))=[(row,rowP nil cons xs),(acc,rowP nil cons (x :: ys))]:=by
        show [(row,prt (putE e3 n (rowP nil cons (x :: ys))) t),(acc,prt (putE e3 n (rowP nil cons (x :: ys))) n)]=_
        rw [prt_put,if_neg (by simp_all),prt_put,if_pos rfl,f3]
      cases ho:turnO nil cons st xs (x :: ys) (k + 1) with
      | ret f k1 =>
        rw [ho] at ih
        refine Big.call c2 hg (f:=f) (k1:=k1) (by show Big kv ds st _ (([row,acc]:List Str).zip _) _ _; rw [ez]; exact ih) ?_
        have:=Big.give (kv:=kv) (ds:=ds) (st:=st) (e:=putE (putE e3 n (rowP nil cons (x :: ys))) r f) (k:=k1) (x:=r)
        rw [prt_put,if_pos rfl] at this
        exact this
      | late =>
        rw [ho] at ih
        exact Big.callX c2 hg (by show Big kv ds st _ (([row,acc]:List Str).zip _) _ _; rw [ez]; exact ih) (by intro _ _ z; cases z)
      | fault ww =>
        rw [ho] at ih
        exact Big.callX c2 hg (by show Big kv ds st _ (([row,acc]:List Str).zip _) _ _; rw [ez]; exact ih) (by intro _ _ z; cases z)
end GN
namespace GN
open PySem L2 K11
def mapB (row acc h t n r s g nil cons w:Str) (i:Int):Bd:=.cs row (.cons nil [] (.lt n (.dd (.mk nil [])) (.give n)) (.cons cons [h,t] (.lt n (.dd (.num i)) (.lt s (.dd (.op w h n)) (.lt r (.call g [t]) (.lt acc (.dd (.mk cons [s,r])) (.give acc))))) .nil))
def mapO (nil cons w:Str) (i:Int) (st:Int):List Int->Nat->Ou
  | [],k=>.ret (rowP nil cons []) k
  | x :: r,k=>if K31.fw w (some x) (some i)="" then (if (k:Int)=st then .late else match mapO nil cons w i st r (k + 1) with
      | .ret f k1=>.ret (.str cons :: .int (K31.res w x i) :: f) k1
      | .late=>.late
      | .fault z=>.fault z) else .fault (K31.fw w (some x) (some i))
theorem big_map {kv:Kvs} {ds:Dfl} {st i:Int} {row acc h t n r s g nil cons w:Str} (N:N7 row acc h t n r s) (nc:NC kv nil cons) (hnc:nil≠cons) (hg:dfOf ds g=some (g,[row],mapB row acc h t n r s g nil cons w i)):∀ (xs:List Int) (k:Nat),(∀ x∈xs,Sm x)->Big kv ds st (mapB row acc h t n r s g nil cons w i) [(row,rowP nil cons xs)] k (mapO nil cons w i st xs k)
  | [],k,_=>by
    have e1:prt [(row,rowP nil cons [])] row=[.str nil]:=by unfold prt; rw [valE_cons,if_pos rfl]; rfl
    have:=Big.give (kv:=kv) (ds:=ds) (st:=st) (e:=putE [(row,rowP nil cons [])] n [.str nil]) (k:=k) (x:=n)
    rw [prt_put,if_pos rfl] at this
    refine Big.go (b':=.lt n (.dd (.mk nil [])) (.give n)) (e':=[(row,rowP nil cons [])]) (k':=k) (fun ts=>?_) (Big.go (fun ts=>rfl) this)
    unfold mapB
    rw [stp,e1]
    show (match fnd (.cons nil [] _ (.cons cons [h,t] _ .nil)) nil with | none=>_ | some a=>_)=_
    unfold fnd
    rw [Arms.hs,List.find?_cons,decide_eq_true rfl]
    rfl
  | x :: xs,k,hs=>by
    have hd:=N.d
    simp only [List.nodup_cons,List.mem_cons,List.not_mem_nil,not_or] at hd
    obtain ⟨e0,ee⟩:∃ e0,e0=[(row,rowP nil cons (x :: xs))]:=⟨_,rfl⟩
    rw [<- ee]
    have e1:prt e0 row=rowP nil cons (x :: xs):=by rw [ee]; unfold prt; rw [valE_cons,if_pos rfl]; rfl
    have hp:=pcs_row nc (hs x (List.mem_cons_self ..)) fun y hy=>hs y (List.mem_cons_of_mem _ hy)
    have g1:∀ ts,stp kv ds st (mapB row acc h t n r s g nil cons w i) e0 ts k=.go (.lt n (.dd (.num i)) (.lt s (.dd (.op w h n)) (.lt r (.call g [t]) (.lt acc (.dd (.mk cons [s,r])) (.give acc))))) (putE (putE e0 h [.int x]) t (rowP nil cons xs)) ts k:=fun ts=>by
      unfold mapB
      rw [stp,e1,hp]
      show (match fnd (.cons nil [] _ (.cons cons [h,t] _ .nil)) cons with | none=>_ | some a=>_)=_
      unfold fnd
      rw [Arms.hs,List.find?_cons,decide_eq_false hnc,Arms.hs,List.find?_cons,decide_eq_true rfl]
      rfl
    refine Big.go g1 ?_
    obtain ⟨e3,ee3⟩:∃ e3,e3=putE (putE (putE e0 h [V.int x]) t (rowP nil cons xs)) n [.int i]:=⟨_,rfl⟩
    refine Big.go (e':=e3) (fun ts=>by rw [ee3]; rfl) ?_
    have f1:prt e3 n=[.int i]:=by rw [ee3,prt_put,if_pos rfl]
    have f2:prt e3 h=[.int x]:=by rw [ee3,prt_put,if_neg (by simp_all),prt_put,if_neg (by simp_all),prt_put,if_pos rfl]
    have f3:prt e3 t=rowP nil cons xs:=by rw [ee3,prt_put,if_neg (by simp_all),prt_put,if_pos rfl]
    have oe:outE e3 (.op w h n)=if K31.fw w (some x) (some i)="" then .inl [.int (K31.res w x i)] else .inr (K31.fw w (some x) (some i)):=by
      show (if K31.fw w (nf (prt e3 h)) (nf (prt e3 n))="" then Sum.inl [V.int (K31.res w ((nf (prt e3 h)).getD 0) ((nf (prt e3 n)).getD 0))] else Sum.inr (K31.fw w (nf (prt e3 h)) (nf (prt e3 n))))=_
      rw [f1,f2]
      rfl
    rw [mapO]
    by_cases c:K31.fw w (some x) (some i)=""
    · rw [if_pos c] at oe ⊢
      obtain ⟨e4,ee4⟩:∃ e4,e4=putE e3 s [.int (K31.res w x i)]:=⟨_,rfl⟩
      refine Big.go (e':=e4) (fun ts=>by rw [stp,oe,ee4]) ?_
      by_cases c2:(k:Int)=st
      · rw [if_pos c2]
        exact Big.lateC c2
      · rw [if_neg c2]
        have ih:=big_map (st:=st) N nc hnc hg xs (k + 1) fun y hy=>hs y (List.mem_cons_of_mem _ hy)
        have ez:([row]:List Str).zip ([t].map (prt e4))=[(row,rowP nil cons xs)]:=by
          show [(row,prt e4 t)]=_
          rw [ee4,prt_put,if_neg (by simp_all),f3]
        cases ho:mapO nil cons w i st xs (k + 1) with
        | ret f k1 =>
          rw [ho] at ih
          refine Big.call c2 hg (f:=f) (k1:=k1) (by show Big kv ds st _ (([row]:List Str).zip _) _ _; rw [ez]; exact ih) ?_
          have om:outE (putE e4 r f) (.mk cons [s,r])=.inl (.str cons :: .int (K31.res w x i) :: f):=by
            show Sum.inl (V.str cons :: ([prt (putE e4 r f) s,prt (putE e4 r f) r]:List (List V)).flatten)=_
            rw [prt_put,if_neg (fun z=>hd.2.2.2.2.2.1.1 z.symm),prt_put,if_pos rfl,ee4,prt_put,if_pos rfl]
            simp
          refine Big.go (fun ts=>by rw [stp,om]) ?_
          have:=Big.give (kv:=kv) (ds:=ds) (st:=st) (e:=putE (putE e4 r f) acc (.str cons :: .int (K31.res w x i) :: f)) (k:=k1) (x:=acc)
          rw [prt_put,if_pos rfl] at this
          exact this
        | late =>
          rw [ho] at ih
          exact Big.callX c2 hg (by show Big kv ds st _ (([row]:List Str).zip _) _ _; rw [ez]; exact ih) (by intro _ _ z; cases z)
        | fault ww =>
          rw [ho] at ih
          exact Big.callX c2 hg (by show Big kv ds st _ (([row]:List Str).zip _) _ _; rw [ez]; exact ih) (by intro _ _ z; cases z)
    · rw [if_neg c] at oe ⊢
      exact Big.flt fun ts=>by rw [stp,oe]
end GN
namespace GN
open PySem L2 K11
def downB (row h t n s g:Str):Bd:=.iff row (.lt h (.dd (.num 1)) (.lt n (.dd (.op "minus" row h)) (.lt t (.call g [n]) (.lt s (.dd (.op "plus" t row)) (.give s))))) (.give row)
def tri:Nat->Nat
  | 0=>0
  | m + 1=>tri m + (m + 1)
theorem tri_le:∀ m:Nat,tri m<=m * (m + 1)
  | 0=>Nat.le_refl _
  | m + 1=>by
    have h1:=tri_le m
    show tri m + (m + 1)<=(m + 1) * (m + 1 + 1)
    have e:(m + 1) * (m + 1 + 1)=m * (m + 1) + 2 * (m + 1):=by rw [Nat.mul_comm,<- Nat.add_mul]
    omega
def downO (st:Int):Nat->Nat->Ou
  | 0,k=>.ret [.int 0] k
  | m + 1,k=>if (k:Int)=st then .late else match downO st m (k + 1) with
    | .ret _ k1=>.ret [.int ((tri (m + 1):Nat):Int)] k1
    | .late=>.late
    | .fault z=>.fault z
theorem downO_ret {st:Int}:∀ {m k k1:Nat} {f:List V},downO st m k=.ret f k1->f=[.int ((tri m:Nat):Int)]
  | 0,k,k1,f,h=>by cases h; rfl
  | m + 1,k,k1,f,h=>by
    rw [downO] at h
    split at h
    · cases h
    · split at h
      · cases h; rfl
      · cases h
      · cases h
theorem fw_pm {w:Str} {i j:Int} (hw:w="plus"\/w="minus") (h1:-1000000 < i/\i < 100000000) (h2:-1000000 < j/\j < 100000000):K31.fw w (some i) (some j)=""/\K31.res w i j=if w="plus" then i + j else i - j:=by
  have hr:K31.res w i j=if w="plus" then i + j else i - j:=by
    unfold K31.res
    rcases hw with rfl | rfl
    · rw [if_pos rfl,if_pos rfl]
    · rw [if_neg (by decide +kernel),if_pos rfl,if_neg (by decide +kernel)]
  refine ⟨?_,hr⟩
  have fs:=K31.fw_ss w i j
  rw [fs,hr]
  rcases hw with rfl | rfl
  · rw [if_neg (by intro z; rcases z.2 with z | z <;> exact absurd z (by decide +kernel)),if_pos rfl,if_pos (by omega)]
  · rw [if_neg (by intro z; rcases z.2 with z | z <;> exact absurd z (by decide +kernel)),if_neg (show ¬ (("minus":Str)="plus") by decide +kernel),if_pos (by omega)]
theorem big_down {kv:Kvs} {ds:Dfl} {st:Int} {row acc h t n r s g:Str} (N:N7 row acc h t n r s) (hg:dfOf ds g=some (g,[row],downB row h t n s g)):∀ (m k:Nat),m<=3000->Big kv ds st (downB row h t n s g) [(row,[.int (m:Nat)])] k (downO st m k)
  | 0,k,_=>by
    have e1:prt [(row,[V.int ((0:Nat):Int)])] row=[.int 0]:=by unfold prt; rw [valE_cons,if_pos rfl]; rfl
    have:=Big.give (kv:=kv) (ds:=ds) (st:=st) (e:=[(row,[V.int ((0:Nat):Int)])]) (k:=k) (x:=row)
    rw [e1] at this
    refine Big.go (fun ts=>?_) this
    unfold downB
    rw [stp,e1]
    rfl
  | m + 1,k,hm=>by
    have hd:=N.d
    simp only [List.nodup_cons,List.mem_cons,List.not_mem_nil,not_or] at hd
    obtain ⟨e0,ee⟩:∃ e0,e0=[(row,[V.int ((m + 1:Nat):Int)])]:=⟨_,rfl⟩
    rw [<- ee]
    have e1:prt e0 row=[.int ((m + 1:Nat):Int)]:=by rw [ee]; unfold prt; rw [valE_cons,if_pos rfl]; rfl
    refine Big.go (b':=.lt h (.dd (.num 1)) (.lt n (.dd (.op "minus" row h)) (.lt t (.call g [n]) (.lt s (.dd (.op "plus" t row)) (.give s))))) (e':=e0) (k':=k) (fun ts=>?_) ?_
    · unfold downB
      rw [stp,e1]
      show (if ((m + 1:Nat):Int)≠0 then _ else _)=_
      rw [if_pos (by omega)]
    refine Big.go (e':=putE e0 h [.int 1]) (fun ts=>rfl) ?_
    have f1:prt (putE e0 h [.int 1]) row=[.int ((m + 1:Nat):Int)]:=by rw [prt_put,if_neg hd.1.2.1,e1]
    have f2:prt (putE e0 h [.int 1]) h=[.int 1]:=by rw [prt_put,if_pos rfl]
    obtain ⟨c1,c2⟩:=fw_pm (w:="minus") (i:=((m + 1:Nat):Int)) (j:=1) (.inr rfl) (by omega) (by omega)
    rw [if_neg (show ¬ (("minus":Str)="plus") by decide +kernel),show ((m + 1:Nat):Int) - 1=((m:Nat):Int) by omega] at c2
    have oe:outE (putE e0 h [.int 1]) (.op "minus" row h)=.inl [.int (m:Nat)]:=by
      show (if K31.fw "minus" (nf (prt (putE e0 h [.int 1]) row)) (nf (prt (putE e0 h [.int 1]) h))="" then Sum.inl [V.int (K31.res "minus" ((nf (prt (putE e0 h [.int 1]) row)).getD 0) ((nf (prt (putE e0 h [.int 1]) h)).getD 0))] else Sum.inr (K31.fw "minus" (nf (prt (putE e0 h [.int 1]) row)) (nf (prt (putE e0 h [.int 1]) h))))=_
      rw [f1,f2]
      show (if K31.fw "minus" (some ((m + 1:Nat):Int)) (some 1)="" then Sum.inl [V.int (K31.res "minus" ((m + 1:Nat):Int) 1)] else _)=_
      rw [if_pos c1,c2]
    obtain ⟨e2,ee2⟩:∃ e2,e2=putE (putE e0 h [.int 1]) n [.int (m:Nat)]:=⟨_,rfl⟩
    refine Big.go (e':=e2) (fun ts=>by rw [stp,oe,ee2]) ?_
    rw [downO]
    by_cases c3:(k:Int)=st
    · rw [if_pos c3]
      exact Big.lateC c3
    · rw [if_neg c3]
      have ih:=big_down (st:=st) (kv:=kv) N hg m (k + 1) (by omega)
      have ez:([row]:List Str).zip ([n].map (prt e2))=[(row,[.int (m:Nat)])]:=by
        show [(row,prt e2 n)]=_
        rw [ee2,prt_put,if_pos rfl]
      cases ho:downO st m (k + 1) with
      | ret f k1 =>
        have hf:=downO_ret ho
        rw [ho] at ih
        refine Big.call c3 hg (f:=f) (k1:=k1) (by show Big kv ds st _ (([row]:List Str).zip _) _ _; rw [ez]; exact ih) ?_
        have f3:prt (putE e2 t f) t=[.int ((tri m:Nat):Int)]:=by rw [prt_put,if_pos rfl,hf]
        have f4:prt (putE e2 t f) row=[.int ((m + 1:Nat):Int)]:=by rw [prt_put,if_neg hd.1.2.2.1,ee2,prt_put,if_neg hd.1.2.2.2.1,f1]
        have tl:=tri_le m
        have tb:tri m<=10000000:=Nat.le_trans tl (Nat.le_trans (Nat.mul_le_mul (show m<=3000 by omega) (show m + 1<=3001 by omega)) (by decide))
        obtain ⟨d1,d2⟩:=fw_pm (w:="plus") (i:=((tri m:Nat):Int)) (j:=((m + 1:Nat):Int)) (.inl rfl) (by omega) (by omega)
        rw [if_pos rfl,show ((tri m:Nat):Int) + ((m + 1:Nat):Int)=((tri (m + 1):Nat):Int) by rw [tri]; omega] at d2
        have om:outE (putE e2 t f) (.op "plus" t row)=.inl [.int ((tri (m + 1):Nat):Int)]:=by
          show (if K31.fw "plus" (nf (prt (putE e2 t f) t)) (nf (prt (putE e2 t f) row))="" then Sum.inl [V.int (K31.res "plus" ((nf (prt (putE e2 t f) t)).getD 0) ((nf (prt (putE e2 t f) row)).getD 0))] else Sum.inr (K31.fw "plus" (nf (prt (putE e2 t f) t)) (nf (prt (putE e2 t f) row))))=_
          rw [f3,f4]
          show (if K31.fw "plus" (some ((tri m:Nat):Int)) (some ((m + 1:Nat):Int))="" then Sum.inl [V.int (K31.res "plus" ((tri m:Nat):Int) ((m + 1:Nat):Int))] else _)=_
          rw [if_pos d1,d2]
        refine Big.go (fun ts=>by rw [stp,om]) ?_
        have:=Big.give (kv:=kv) (ds:=ds) (st:=st) (e:=putE (putE e2 t f) s [.int ((tri (m + 1):Nat):Int)]) (k:=k1) (x:=s)
        rw [prt_put,if_pos rfl] at this
        exact this
      | late =>
        rw [ho] at ih
        exact Big.callX c3 hg (by show Big kv ds st _ (([row]:List Str).zip _) _ _; rw [ez]; exact ih) (by intro _ _ z; cases z)
      | fault ww =>
        rw [ho] at ih
        exact Big.callX c3 hg (by show Big kv ds st _ (([row]:List Str).zip _) _ _; rw [ez]; exact ih) (by intro _ _ z; cases z)
end GN
namespace GN
open PySem L2 K11
theorem mapO_ret {nil cons w:Str} {i st:Int}:∀ {xs:List Int} {k k1:Nat} {f:List V},mapO nil cons w i st xs k=.ret f k1->f=rowP nil cons (xs.map fun x=>K31.res w x i)/\k1=k + xs.length/\∀ x∈xs,K31.fw w (some x) (some i)=""
  | [],k,k1,f,h=>by cases h; exact ⟨rfl,rfl,fun x hx=>by cases hx⟩
  | x :: xs,k,k1,f,h=>by
    rw [mapO] at h
    by_cases c:K31.fw w (some x) (some i)=""
    · rw [if_pos c] at h
      split at h
      · cases h
      · cases ho:mapO nil cons w i st xs (k + 1) with
        | ret f' k' =>
          rw [ho] at h
          cases h
          obtain ⟨a1,a2,a3⟩:=mapO_ret ho
          refine ⟨by rw [List.map_cons,rowP_cons,a1],by rw [a2,List.length_cons]; omega,fun y hy=>?_⟩
          rcases List.mem_cons.mp hy with rfl | hy
          · exact c
          · exact a3 y hy
        | late=>rw [ho] at h; cases h
        | fault z=>rw [ho] at h; cases h
    · rw [if_neg c] at h
      cases h
theorem turnO_ret {nil cons:Str} {st:Int}:∀ {xs ys:List Int} {k k1:Nat} {f:List V},turnO nil cons st xs ys k=.ret f k1->f=rowP nil cons (xs.reverse ++ ys)/\k1=k + xs.length
  | [],ys,k,k1,f,h=>by cases h; exact ⟨rfl,rfl⟩
  | x :: xs,ys,k,k1,f,h=>by
    rw [turnO] at h
    split at h
    · cases h
    · obtain ⟨a1,a2⟩:=turnO_ret h
      exact ⟨by rw [a1,List.reverse_cons,List.append_assoc]; rfl,by rw [a2,List.length_cons]; omega⟩
end GN
namespace GN
open PySem L2 K11
def threeB (row acc h t r s f0 f1 f2 nil:Str):Bd:=.lt h (.call f2 [row]) (.lt t (.dd (.mk nil [])) (.lt r (.call f1 [h,t]) (.lt s (.call f0 [r,acc]) (.give s))))
def thenO:Ou->(List V->Nat->Ou)->Ou
  | .ret f k,g=>g f k
  | .late,_=>.late
  | .fault z,_=>.fault z
def threeO (nil cons w0 w1:Str) (i st:Int) (xs:List Int) (a:Int) (k:Nat):Ou :=
  if (k:Int)=st then .late else thenO (mapO nil cons w1 i st xs (k + 1)) fun _ k1 =>
    if (k1:Int)=st then .late else thenO (turnO nil cons st (xs.map fun x=>K31.res w1 x i) [] (k1 + 1)) fun _ k2 =>
      if (k2:Int)=st then .late else foldO w0 st (xs.map fun x=>K31.res w1 x i).reverse a (k2 + 1)
theorem Big.callT {kv:Kvs} {ds:Dfl} {st:Int} {b2:Bd} {e:En} {k:Nat} {n g:Str} {ns:List Str} {a:Str × List Str × Bd} {o:Ou} {F:List V->Nat->Ou} (h:(k:Int)≠st) (ha:dfOf ds g=some a) (g1:Big kv ds st a.2.2 (a.2.1.zip (ns.map (prt e))) (k + 1) o) (g2:∀ f k1,o=.ret f k1->Big kv ds st b2 (putE e n f) k1 (F f k1)):Big kv ds st (.lt n (.call g ns) b2) e k (thenO o F):=by
  cases o with
  | ret f k1=>exact Big.call h ha g1 (g2 f k1 rfl)
  | late=>exact Big.callX h ha g1 (by intro _ _ z; cases z)
  | fault w=>exact Big.callX h ha g1 (by intro _ _ z; cases z)
theorem big_three {kv:Kvs} {ds:Dfl} {i st:Int} {row acc h t n r s f0 f1 f2 nil cons w0 w1:Str} (N:N7 row acc h t n r s) (nc:NC kv nil cons) (hnc:nil≠cons) (h0:dfOf ds f0=some (f0,[row,acc],foldB row acc h t n r f0 nil cons w0)) (h1:dfOf ds f1=some (f1,[row,acc],turnB row acc h t n r f1 nil cons)) (h2:dfOf ds f2=some (f2,[row],mapB row acc h t n r s f2 nil cons w1 i)) (xs:List Int) (a:Int) (k:Nat) (hs:∀ x∈xs,Sm x):Big kv ds st (threeB row acc h t r s f0 f1 f2 nil) [(row,rowP nil cons xs),(acc,[.int a])] k (threeO nil cons w0 w1 i st xs a k):=by
  have hd:=N.d
  simp only [List.nodup_cons,List.mem_cons,List.not_mem_nil,not_or] at hd
  obtain ⟨e0,ee⟩:∃ e0,e0=[(row,rowP nil cons xs),(acc,[V.int a])]:=⟨_,rfl⟩
  rw [<- ee]
  have e1:prt e0 row=rowP nil cons xs:=by rw [ee]; unfold prt; rw [valE_cons,if_pos rfl]; rfl
  have e2:prt e0 acc=[.int a]:=by rw [ee]; unfold prt; rw [valE_cons,if_neg hd.1.1,valE_cons,if_pos rfl]; rfl
  unfold threeO threeB
  by_cases c:(k:Int)=st
  · rw [if_pos c]
    exact Big.lateC c
  rw [if_neg c]
  refine Big.callT c h2 (by show Big kv ds st _ [(row,prt e0 row)] _ _; rw [e1]; exact big_map N nc hnc h2 xs (k + 1) hs) fun f k1 ho=>?_
  obtain ⟨rfl,_,hok⟩:=mapO_ret ho
  generalize hys:(xs.map fun x=>K31.res w1 x i)=ys at *
  have sy:∀ y∈ys,Sm y:=fun y hy=>by
    rw [<- hys] at hy
    obtain ⟨x,hx,rfl⟩:=List.mem_map.mp hy
    obtain ⟨i',j',c1,c2,c3⟩:=fw_some (hok x hx)
    cases c1
    cases c2
    exact c3
  obtain ⟨e3,ee3⟩:∃ e3,e3=putE (putE e0 h (rowP nil cons ys)) t [.str nil]:=⟨_,rfl⟩
  refine Big.go (e':=e3) (fun ts=>by rw [ee3]; rfl) ?_
  have g1:prt e3 h=rowP nil cons ys:=by rw [ee3,prt_put,if_neg hd.2.2.1.1,prt_put,if_pos rfl]
  have g2:prt e3 t=rowP nil cons []:=by rw [ee3,prt_put,if_pos rfl]; rfl
  have g3:prt e3 acc=[.int a]:=by rw [ee3,prt_put,if_neg hd.2.1.2.1,prt_put,if_neg hd.2.1.1,e2]
  by_cases c':(k1:Int)=st
  · rw [if_pos c']
    exact Big.lateC c'
  rw [if_neg c']
  refine Big.callT c' h1 (by show Big kv ds st _ [(row,prt e3 h),(acc,prt e3 t)] _ _; rw [g1,g2]; exact big_turn N nc hnc h1 ys [] (k1 + 1) sy) fun f k2 ho2=>?_
  obtain ⟨rfl,_⟩:=turnO_ret ho2
  rw [List.append_nil]
  obtain ⟨e4,ee4⟩:∃ e4,e4=putE e3 r (rowP nil cons ys.reverse):=⟨_,rfl⟩
  rw [<- ee4]
  have g4:prt e4 r=rowP nil cons ys.reverse:=by rw [ee4,prt_put,if_pos rfl]
  have g5:prt e4 acc=[.int a]:=by rw [ee4,prt_put,if_neg hd.2.1.2.2.2.1,g3]
  by_cases c'':(k2:Int)=st
  · rw [if_pos c'']
    exact Big.lateC c''
  rw [if_neg c'']
  have bf:=big_fold (st:=st) N nc hnc h0 ys.reverse a (k2 + 1) fun y hy=>sy y (List.mem_reverse.mp hy)
  have:=Big.callT (n:=s) (b2:=.give s) (F:=fun f k=>.ret f k) c'' h0 (ns:=[r,acc]) (e:=e4) (by show Big kv ds st _ [(row,prt e4 r),(acc,prt e4 acc)] _ _; rw [g4,g5]; exact bf) fun f k3 _=>by
    have:=Big.give (kv:=kv) (ds:=ds) (st:=st) (e:=putE e4 s f) (k:=k3) (x:=s)
    rw [prt_put,if_pos rfl] at this
    exact this
  have ex:thenO (foldO w0 st ys.reverse a (k2 + 1)) (fun f k=>.ret f k)=foldO w0 st ys.reverse a (k2 + 1):=by cases foldO w0 st ys.reverse a (k2 + 1) <;> rfl
  rw [ex] at this
  exact this
end GN
namespace GN
open PySem L2 K11
def ouOf (st:Int) (f:List V):List Str->Nat->Ou
  | [],k=>.ret f k
  | x :: r,k=>if x="call" then (if (k:Int)=st then .late else ouOf st f r (k + 1)) else .fault x
theorem ouOf_app {st:Int} {f g:List V}:∀ {a b:List Str} {k:Nat},ouOf st f (a ++ b) k=thenO (ouOf st g a k) fun _ k1=>ouOf st f b k1
  | [],b,k=>rfl
  | x :: a,b,k=>by
    rw [List.cons_append,ouOf,ouOf]
    by_cases c:x="call"
    · rw [if_pos c,if_pos c]
      by_cases d:(k:Int)=st
      · rw [if_pos d,if_pos d]; rfl
      · rw [if_neg d,if_neg d]; exact ouOf_app
    · rw [if_neg c,if_neg c]; rfl
def calls (n:Nat):List Str:=List.replicate n "call"
def mapS (w:Str) (i:Int):List Int->List Int
  | []=>[]
  | x :: r=>if K31.fw w (some x) (some i)="" then K31.res w x i :: mapS w i r else []
def mapE (w:Str) (i:Int):List Int->List Str
  | []=>[]
  | x :: r=>if K31.fw w (some x) (some i)="" then "call" :: mapE w i r else [K31.fw w (some x) (some i)]
def foldS (w:Str):List Int->Int->Int
  | [],a=>a
  | x :: r,a=>if K31.fw w (some a) (some x)="" then foldS w r (K31.res w a x) else a
def foldE (w:Str):List Int->Int->List Str
  | [],a=>[]
  | x :: r,a=>if K31.fw w (some a) (some x)="" then "call" :: foldE w r (K31.res w a x) else [K31.fw w (some a) (some x)]
theorem fw_nc (w:Str) (i j:Int):K31.fw w (some i) (some j)≠"call":=by
  have fs:=K31.fw_ss w i j
  rw [fs]
  split
  · decide +kernel
  · split <;> decide +kernel
theorem foldO_ev {w:Str} {st:Int}:∀ {xs:List Int} {a:Int} {k:Nat},foldO w st xs a k=ouOf st [.int (foldS w xs a)] (foldE w xs a) k
  | [],a,k=>rfl
  | x :: r,a,k=>by
    rw [foldO,foldS,foldE]
    by_cases c:K31.fw w (some a) (some x)=""
    · rw [if_pos c,if_pos c,if_pos c,ouOf,if_pos rfl,foldO_ev]
    · rw [if_neg c,if_neg c,if_neg c,ouOf,if_neg (fw_nc w a x)]
theorem mapO_ev {nil cons w:Str} {i st:Int}:∀ {xs:List Int} {k:Nat},mapO nil cons w i st xs k=ouOf st (rowP nil cons (mapS w i xs)) (mapE w i xs) k
  | [],k=>rfl
  | x :: r,k=>by
    rw [mapO,mapS,mapE]
    by_cases c:K31.fw w (some x) (some i)=""
    · rw [if_pos c,if_pos c,if_pos c,ouOf,if_pos rfl,mapO_ev]
      by_cases d:(k:Int)=st
      · rw [if_pos d,if_pos d]
      · rw [if_neg d,if_neg d,rowP_cons]
        generalize hg:mapE w i r=es
        clear hg
        generalize rowP nil cons (mapS w i r)=g
        generalize k + 1=k'
        clear d
        induction es generalizing k' with
        | nil=>rfl
        | cons y es ih =>
          rw [ouOf,ouOf]
          by_cases c1:y="call"
          · rw [if_pos c1,if_pos c1]
            by_cases c2:(k':Int)=st
            · rw [if_pos c2,if_pos c2]
            · rw [if_neg c2,if_neg c2]; exact ih _
          · rw [if_neg c1,if_neg c1]
    · rw [if_neg c,if_neg c,if_neg c,ouOf,if_neg (fw_nc w x i)]
theorem turnO_ev {nil cons:Str} {st:Int}:∀ {xs ys:List Int} {k:Nat},turnO nil cons st xs ys k=ouOf st (rowP nil cons (xs.reverse ++ ys)) (calls xs.length) k
  | [],ys,k=>rfl
  | x :: r,ys,k=>by
    rw [turnO,List.length_cons,calls,List.replicate_succ,ouOf,if_pos rfl]
    by_cases d:(k:Int)=st
    · rw [if_pos d,if_pos d]
    · rw [if_neg d,if_neg d,turnO_ev,List.reverse_cons,List.append_assoc]; rfl
theorem downO_ev {st:Int}:∀ {m k:Nat},downO st m k=ouOf st [.int ((tri m:Nat):Int)] (calls m) k
  | 0,k=>rfl
  | m + 1,k=>by
    rw [downO,calls,List.replicate_succ,ouOf,if_pos rfl,downO_ev]
    by_cases d:(k:Int)=st
    · rw [if_pos d,if_pos d]
    · rw [if_neg d,if_neg d]
      show _=ouOf st _ (calls m) (k + 1)
      generalize k + 1=k'
      generalize ([V.int ((tri m:Nat):Int)])=g
      generalize ([V.int ((tri (m + 1):Nat):Int)])=g'
      clear d
      induction m generalizing k' with
      | zero=>rfl
      | succ m ih =>
        rw [calls,List.replicate_succ,ouOf,ouOf,if_pos rfl,if_pos rfl]
        by_cases c2:(k':Int)=st
        · rw [if_pos c2,if_pos c2]
        · rw [if_neg c2,if_neg c2]; exact ih _
theorem map_all {w:Str} {i:Int}:∀ {xs:List Int},(∀ x∈xs,K31.fw w (some x) (some i)="")->mapS w i xs=xs.map (fun x=>K31.res w x i)/\mapE w i xs=calls xs.length
  | [],_=>⟨rfl,rfl⟩
  | x :: r,h=>by
    obtain ⟨a,b⟩:=map_all (xs:=r) fun y hy=>h y (List.mem_cons_of_mem _ hy)
    have c:=h x (List.mem_cons_self ..)
    rw [mapS,mapE,if_pos c,if_pos c,a,b]
    exact ⟨rfl,rfl⟩
theorem thenO_x {o:Ou} {F G:List V->Nat->Ou} (h:∀ f k,o=.ret f k->F f k=G f k):thenO o F=thenO o G:=by
  cases o with
  | ret f k=>exact h f k rfl
  | late=>rfl
  | fault w=>rfl
theorem threeO_ev {nil cons w0 w1:Str} {i st:Int} {xs:List Int} {a:Int} {k:Nat}:threeO nil cons w0 w1 i st xs a k=ouOf st [.int (foldS w0 (mapS w1 i xs).reverse a)] ("call" :: (mapE w1 i xs ++ (calls (2 + (mapS w1 i xs).length) ++ foldE w0 (mapS w1 i xs).reverse a))) k:=by
  unfold threeO
  rw [ouOf,if_pos rfl]
  by_cases d:(k:Int)=st
  · rw [if_pos d,if_pos d]
  rw [if_neg d,if_neg d,ouOf_app (g:=rowP nil cons (mapS w1 i xs)),<- mapO_ev]
  refine thenO_x fun f k1 h=>?_
  obtain ⟨_,_,hok⟩:=mapO_ret h
  obtain ⟨e1,e2⟩:=map_all hok
  rw [<- e1]
  generalize mapS w1 i xs=ys
  have ec:calls (2 + ys.length)=("call":Str) :: (calls ys.length ++ (["call"]:List Str)):=by
    unfold calls
    rw [show 2 + ys.length=(ys.length + 1) + 1 by omega,List.replicate_succ,List.replicate_succ']
  rw [ec,List.cons_append,ouOf,if_pos rfl]
  by_cases d1:(k1:Int)=st
  · rw [if_pos d1,if_pos d1]
  rw [if_neg d1,if_neg d1,turnO_ev,List.append_assoc,ouOf_app (g:=rowP nil cons (ys.reverse ++ []))]
  refine thenO_x fun f k2 _=>?_
  show _=ouOf _ _ (("call":Str) :: foldE w0 ys.reverse a) _
  rw [ouOf,if_pos rfl,foldO_ev]
end GN
namespace GN
open PySem L2 K11
abbrev W7:List Str:=["plus","minus","times","over","rest","less","same"]
def spOpL:Sp:=fun vs H Q _=>∃ (w:Str) (i j:Int),vs=[.str w,.int i,.int j]/\Sm i/\Sm j/\w∈W7/\(K31.fw w (some i) (some j)=""->∀ H',Same H H'->Q (.int (K31.res w i j)) H')/\(K31.fw w (some i) (some j)≠""->∀ H',Same H H'->Q (.str (K31.fw w (some i) (some j))) H')
section
variable {P:Program} {w:World} {K:PySem.W.Frag} {mg:Str->Option Value} {base:Heap} {f:Addr} {fd:FuncData}
theorem scOpL:FnScope ["_law_word","_law_a","_law_b","_law_number_here"] ["_law_word","_law_a","_law_b"] (defScope sOp):=⟨rfl,rfl,rfl,by decide +kernel,rfl,by decide +kernel,by decide +kernel⟩
theorem ok_opL (F:Fun K "_law_op" "_law_op" sOp f fd) (m_int:mg "int"=none) (m_abs:mg "abs"=none):FnOk P w K mg base CX0 1 f fd ["_law_word","_law_a","_law_b"] spOpL:=by
  refine F.by scOpL (fun vs H Q E h=>?_) (fun cdv A outer s H vs Q E hr h=>?_)
  · obtain ⟨w,i,j,rfl,_⟩:=h
    rfl
  obtain ⟨w,i,j,rfl,si,sj,hw,q1,q2⟩:=h
  refine ⟨_,
    (jss_cons (js_if (jW.pt (jw_and (jt_cmpR jo_in_seq (jv 0) (je_tup (ja_c je_str (ja_c je_str ja_nil))) (by with_unfolding_all rfl)) (jw_and1 (jt_cmpR jo_eq (jv 2) je_int (nomark _))))) 
      (jss_one (js_ret je_str))  jss_nil)
    (jss_cons (js_set (i:=3) scOpL.nd rfl (Or.inl rfl) (je_fnTy jc_int1 rfl m_int PyProof.Rows.boot_int (ja_c (je_cmpR jo_lt (jv 1) (jv 2) (nomark _)) ja_nil)))
    (jss_cons (js_if (jt_cmpR jo_eq (jv 0) je_str (nomark _)) 
      (jss_one (js_set (i:=3) scOpL.nd rfl (Or.inl rfl) (je_op jo_add (jv 1) (jv 2))))  jss_nil)
    (jss_cons (js_if (jt_cmpR jo_eq (jv 0) je_str (nomark _)) 
      (jss_one (js_set (i:=3) scOpL.nd rfl (Or.inl rfl) (je_op jo_sub (jv 1) (jv 2))))  jss_nil)
    (jss_cons (js_if (jt_cmpR jo_eq (jv 0) je_str (nomark _)) 
      (jss_one (js_set (i:=3) scOpL.nd rfl (Or.inl rfl) (je_op jo_mulB (jv 1) (jv 2))))  jss_nil)
    (jss_cons (js_if (jt_cmpR jo_eq (jv 0) je_str (nomark _)) 
      (jss_one (js_set (i:=3) scOpL.nd rfl (Or.inl rfl) (je_op jo_fdivB (jv 1) (jv 2))))  jss_nil)
    (jss_cons (js_if (jt_cmpR jo_eq (jv 0) je_str (nomark _)) 
      (jss_one (js_set (i:=3) scOpL.nd rfl (Or.inl rfl) (je_op jo_modN (jv 1) (jv 2))))  jss_nil)
    (jss_cons (js_if (jt_cmpR jo_eq (jv 0) je_str (nomark _)) 
      (jss_one (js_set (i:=3) scOpL.nd rfl (Or.inl rfl) (je_fnTy jc_int1 rfl m_int PyProof.Rows.boot_int (ja_c (je_cmpR jo_eq (jv 1) (jv 2) (nomark _)) ja_nil))))  jss_nil)
    (jss_cons (js_if (jt_cmpR jo_ge (je_fnB jc_abs rfl m_abs PyProof.Rows.boot_abs (ja_c (jv 3) ja_nil)) (je_op jo_pow je_int je_int) (nomark _)) 
      (jss_one (js_ret je_str))  jss_nil)
    (jss_one (js_ret (jv 3)))))))))))),?_⟩
  have sl:=line0
  have fs:K31.fw w (some i) (some j)=if j=0/\(w="over"\/w="rest") then ("nought":Str) else if -1000000000000000000000000000000 < K31.res w i j/\K31.res w i j < 1000000000000000000000000000000 then ("":Str) else ("great":Str):=K31.fw_ss w i j
  have nn:∀ (z:Str),K31.fw w (some i) (some j)=z->z≠""->∀ H',Same H H'->Q (.str z) H':=fun z h hz H' s=>by rw [<- h]; exact q2 (by rw [h]; exact hz) H' s
  refine (show ∀ (uA u:TS) (D:Ends),D.rt=Q->(∀ (D':Ends) (H3:Hp),D'.rt=Q->Same H H3->(j=0/\(w="over"\/w="rest"))->uA D' [some (.str w),some (.int i),some (.int j),none] H3)->(∀ H3,Same H H3->¬ (j=0/\(w="over"\/w="rest"))->u D [some (.str w),some (.int i),some (.int j),none] H3)->(tSeq (tIfS _ uA tNext) u:TS) D [some (.str w),some (.int i),some (.int j),none] H from ?key) _ _ _ rfl ?ga ?tail
  case key =>
    intro uA u D hD' hA hU
    refine ⟨_,rfl,by show 2<=sizeLine; decide,fun tp htp=>⟨tp,_,rfl,.inr (SqT.of upd_same),rfl,rfl,_,rfl,?_⟩⟩
    have n3:=same_new htp (.tup [.str "over",.str "rest"])
    have e2:inV (.str w) [.str "over",.str "rest"]=decide (w∈(["over","rest"]:List Str)):=K31.in_strs (l:=["over","rest"])
    show if (if false=true then !inV (.str w) [.str "over",.str "rest"] else inV (.str w) [.str "over",.str "rest"])=true then _ else _
    rw [if_neg (by decide:¬ (false=true)),e2]
    by_cases cw:w="over"\/w="rest"
    · refine iteT' (decide_eq_true (by simpa using cw)) ?_
      refine ⟨_,rfl,rfl,_,rfl,?_⟩
      by_cases cj:j=0
      · exact iteT' (decide_eq_true (by rw [cj])) (hA _ _ hD' n3 ⟨cj,cw⟩)
      · exact iteF' (decide_eq_false fun z=>cj (V.int.inj z)) (nxt (hU _ n3 fun z=>cj z.1))
    · exact iteF' (decide_eq_false (by simpa using cw)) (iteF (nxt (hU _ n3 fun z=>cw z.2)))
  case ga =>
    intro D' H3 hD' s3 hc
    show D'.rt (.str "nought") H3
    rw [hD']
    exact nn "nought" (by rw [fs,if_pos hc]) (by decide +kernel) _ s3
  case tail =>
    intro H3 s3 hc
    rw [if_neg hc] at fs
    refine (show ∀ (u:TS) (D:Ends),(u D [some (.str w),some (.int i),some (.int j),some (.int (K31.res w i j))] H3)->(tSeq _ (tSeq _ (tSeq _ (tSeq _ (tSeq _ (tSeq _ (tSeq _ u)))))):TS) D [some (.str w),some (.int i),some (.int j),none] H3 from ?key2) _ _ ?fin
    case key2 =>
      intro u D hU
      refine ⟨_,rfl,_,rfl,_,_,rfl,rfl,.inr ⟨_,rfl,?_⟩⟩
      rcases (by simpa using hw:w="plus"\/w="minus"\/w="times"\/w="over"\/w="rest"\/w="less"\/w="same") with rfl | rfl | rfl | rfl | rfl | rfl | rfl
      · refine ⟨_,rfl,rfl,_,rfl,iteT' (by decide +kernel) ⟨_,rfl,_,rfl,_,_,rfl,rfl,?_⟩⟩
        refine ⟨_,rfl,rfl,_,rfl,iteF' (by decide +kernel) (nxt ⟨_,rfl,rfl,_,rfl,iteF' (by decide +kernel) (nxt ⟨_,rfl,rfl,_,rfl,iteF' (by decide +kernel) (nxt ⟨_,rfl,rfl,_,rfl,iteF' (by decide +kernel) (nxt ⟨_,rfl,rfl,_,rfl,iteF' (by decide +kernel) (nxt hU)⟩)⟩)⟩)⟩)⟩
      · refine ⟨_,rfl,rfl,_,rfl,iteF' (by decide +kernel) (nxt ⟨_,rfl,rfl,_,rfl,iteT' (by decide +kernel) ⟨_,rfl,_,rfl,_,_,rfl,rfl,?_⟩⟩)⟩
        refine ⟨_,rfl,rfl,_,rfl,iteF' (by decide +kernel) (nxt ⟨_,rfl,rfl,_,rfl,iteF' (by decide +kernel) (nxt ⟨_,rfl,rfl,_,rfl,iteF' (by decide +kernel) (nxt ⟨_,rfl,rfl,_,rfl,iteF' (by decide +kernel) (nxt hU)⟩)⟩)⟩)⟩
      · refine ⟨_,rfl,rfl,_,rfl,iteF' (by decide +kernel) (nxt ⟨_,rfl,rfl,_,rfl,iteF' (by decide +kernel) (nxt ⟨_,rfl,rfl,_,rfl,iteT' (by decide +kernel) ⟨_,rfl,_,rfl,_,_,rfl,rfl,⟨(show K31.Sm i from si).big,(show K31.Sm j from sj).big⟩,?_⟩⟩)⟩)⟩
        refine ⟨_,rfl,rfl,_,rfl,iteF' (by decide +kernel) (nxt ⟨_,rfl,rfl,_,rfl,iteF' (by decide +kernel) (nxt ⟨_,rfl,rfl,_,rfl,iteF' (by decide +kernel) (nxt hU)⟩)⟩)⟩
      · refine ⟨_,rfl,rfl,_,rfl,iteF' (by decide +kernel) (nxt ⟨_,rfl,rfl,_,rfl,iteF' (by decide +kernel) (nxt ⟨_,rfl,rfl,_,rfl,iteF' (by decide +kernel) (nxt ⟨_,rfl,rfl,_,rfl,iteT' (by decide +kernel) ⟨_,rfl,_,rfl,_,_,rfl,rfl,⟨fun z=>hc ⟨z,.inl rfl⟩,(show K31.Sm j from sj).big⟩,?_⟩⟩)⟩)⟩)⟩
        refine ⟨_,rfl,rfl,_,rfl,iteF' (by decide +kernel) (nxt ⟨_,rfl,rfl,_,rfl,iteF' (by decide +kernel) (nxt hU)⟩)⟩
      · refine ⟨_,rfl,rfl,_,rfl,iteF' (by decide +kernel) (nxt ⟨_,rfl,rfl,_,rfl,iteF' (by decide +kernel) (nxt ⟨_,rfl,rfl,_,rfl,iteF' (by decide +kernel) (nxt ⟨_,rfl,rfl,_,rfl,iteF' (by decide +kernel) (nxt ⟨_,rfl,rfl,_,rfl,iteT' (by decide +kernel) ⟨_,rfl,_,rfl,_,_,rfl,rfl,(fun z=>hc ⟨z,.inr rfl⟩),?_⟩⟩)⟩)⟩)⟩)⟩
        refine ⟨_,rfl,rfl,_,rfl,iteF' (by decide +kernel) (nxt hU)⟩
      · have e:K31.res "less" i j=if (decide (i < j))=true then 1 else 0:=by
          unfold K31.res
          rw [if_neg (by decide +kernel),if_neg (by decide +kernel),if_neg (by decide +kernel),if_neg (by decide +kernel),if_neg (by decide +kernel),if_pos rfl]
          by_cases c:i < j
          · rw [if_pos c,if_pos (decide_eq_true c)]
          · rw [if_neg c,if_neg (by simpa using c)]
        rw [e] at hU
        refine ⟨_,rfl,rfl,_,rfl,iteF' (by decide +kernel) (nxt ⟨_,rfl,rfl,_,rfl,iteF' (by decide +kernel) (nxt ⟨_,rfl,rfl,_,rfl,iteF' (by decide +kernel) (nxt ⟨_,rfl,rfl,_,rfl,iteF' (by decide +kernel) (nxt ⟨_,rfl,rfl,_,rfl,iteF' (by decide +kernel) (nxt ⟨_,rfl,rfl,_,rfl,iteF' (by decide +kernel) (nxt hU)⟩)⟩)⟩)⟩)⟩)⟩
      · have e:K31.res "same" i j=if (decide (i=j))=true then 1 else 0:=by
          unfold K31.res
          rw [if_neg (by decide +kernel),if_neg (by decide +kernel),if_neg (by decide +kernel),if_neg (by decide +kernel),if_neg (by decide +kernel),if_neg (by decide +kernel)]
          by_cases c:i=j
          · rw [if_pos c,if_pos (decide_eq_true c)]
          · rw [if_neg c,if_neg (by simpa using c)]
        rw [e] at hU
        refine ⟨_,rfl,rfl,_,rfl,iteF' (by decide +kernel) (nxt ⟨_,rfl,rfl,_,rfl,iteF' (by decide +kernel) (nxt ⟨_,rfl,rfl,_,rfl,iteF' (by decide +kernel) (nxt ⟨_,rfl,rfl,_,rfl,iteF' (by decide +kernel) (nxt ⟨_,rfl,rfl,_,rfl,iteF' (by decide +kernel) (nxt ⟨_,rfl,rfl,_,rfl,iteT' (by decide +kernel) ⟨_,rfl,_,rfl,rfl,.inr ⟨_,rfl,?_⟩⟩⟩)⟩)⟩)⟩)⟩)⟩
        have e3:decide (V.int i=V.int j)=decide (i=j):=by by_cases c:i=j <;> simp [c]
        rw [e3]
        exact hU
    case fin =>
      refine ⟨_,rfl,_,rfl,_,_,rfl,rfl,⟨by decide,by decide,by decide⟩,_,_,rfl,rfl,_,rfl,?_⟩
      rw [t30]
      by_cases cg:-1000000000000000000000000000000 < K31.res w i j/\K31.res w i j < 1000000000000000000000000000000
      · rw [if_pos cg] at fs
        exact iteF' (decide_eq_false (by split <;> omega)) (nxt ⟨_,rfl,q1 fs _ s3⟩)
      · rw [if_neg cg] at fs
        exact iteT' (decide_eq_true (by split <;> omega)) (nn "great" fs (by decide +kernel) _ s3)
end
end GN
namespace GN
open PySem L2 K11
abbrev sts (es:List Str):List V:=es.map V.str
theorem calls_len (n:Nat):(calls n).length=n:=List.length_replicate ..
theorem calls_app (n:Nat) (r:List Str):calls n ++ (("call":Str) :: r)=calls (n + 1) ++ r:=by
  unfold calls
  rw [List.replicate_succ',List.append_assoc]
  rfl
theorem fw_sm {w:Str} {i j:Int} (h:K31.fw w (some i) (some j)=""):Sm (K31.res w i j):=by
  obtain ⟨i',j',c1,c2,c3⟩:=fw_some h
  cases c1
  cases c2
  exact c3
theorem dropC {α:Type} {xs:List α} {k:Nat} {x:α} (h:xs[k]?=some x):xs.drop k=x :: xs.drop (k + 1):=by
  obtain ⟨hl,e⟩:=List.getElem?_eq_some_iff.mp h
  rw [<- e]
  exact List.drop_eq_getElem_cons hl
def spMapL:Sp:=fun vs H Q _=>∃ (lr ev:Addr) (w:Str) (i:Int) (xs:List Int) (es:List Str),vs=[.ref lr,.str w,.int i,.ref ev]/\H lr=some (.lst (inz xs))/\H ev=some (.lst (sts es))/\lr≠ev/\w∈W7/\Sm i/\(∀ x∈xs,Sm x)/\xs.length<=3000/\es.length<=3000 /\
  ∀ H' l,KX [ev] H H'->H l=none->H' ev=some (.lst (sts (es ++ mapE w i xs)))->H' l=some (.lst (inz (mapS w i xs)))->Q (.ref l) H'
def spFoldL:Sp:=fun vs H Q _=>∃ (lr ev:Addr) (w:Str) (a:Int) (xs:List Int) (es:List Str),vs=[.ref lr,.str w,.int a,.ref ev]/\H lr=some (.lst (inz xs))/\H ev=some (.lst (sts es))/\lr≠ev/\w∈W7/\Sm a/\(∀ x∈xs,Sm x)/\xs.length<=3000/\es.length<=9000 /\
  ∀ H',KX [ev] H H'->H' ev=some (.lst (sts (es ++ foldE w xs a)))->Q (.int (foldS w xs a)) H'
section
variable {P:Program} {w:World} {K:PySem.W.Frag} {mg:Str->Option Value} {base:Heap} {f:Addr} {fd:FuncData}
theorem scMapL:FnScope ["_law_row_here","_law_word","_law_number_here","_law_events","_law_some","_law_one","_law_new"] ["_law_row_here","_law_word","_law_number_here","_law_events"] (defScope sMap):=⟨rfl,rfl,rfl,by decide +kernel,rfl,by decide +kernel,by decide +kernel⟩
theorem ok_mapL (F:Fun K "_law_map" "_law_map" sMap f fd) (GO:Ca P w K mg base CX0 1 "_law_op" ["_law_word","_law_a","_law_b"] spOpL) (m_isinstance:mg "isinstance"=none) (m_str:mg "str"=none):FnOk P w K mg base CX0 2 f fd ["_law_row_here","_law_word","_law_number_here","_law_events"] spMapL:=by
  refine F.by scMapL (fun vs H Q E h=>?_) (fun cdv A outer s H vs Q E hr h=>?_)
  · obtain ⟨lr,ev,w,i,xs,es,rfl,_⟩:=h
    rfl
  obtain ⟨lr,ev,w,i,xs,es,rfl,hl,he,nle,hw,si,sx,lx,le,q⟩:=h
  have r1:Room 1 _:=hr.mono (by decide)
  refine ⟨_,
    (jss_cons (js_set (i:=4) scMapL.nd rfl (Or.inl rfl) (je_lst ja_nil))
    (jss_cons (js_for PassesOwn.never rfl (ji_list (jv 0)) (jg_name (i:=5) scMapL.nd rfl (Or.inl rfl))
      (jss_cons (js_set (i:=6) scMapL.nd rfl (Or.inl rfl) (je_ca GO r1 rfl pass0 (ja_c (jv 1) (ja_c (jv 5) (ja_c (jv 2) ja_nil)))))
      (jss_cons (js_if (jt_val (je_fnB jc_isinst rfl m_isinstance PyProof.Rows.boot_isinstance (ja_c (jv 6) (ja_c (je_bltn (v:=.ty "str") rfl m_str PyProof.Rows.boot_str rfl) ja_nil)))) 
        (jss_cons (js_expr (je_bm PySem.F.plainAttrs_list PySem.F.slot_list_append PySem.F.type_list_append jm_append (jv 3) (ja_c (jv 6) ja_nil)))
        (jss_one (js_ret (jv 4))))  jss_nil)
      (jss_cons (js_expr (je_bm PySem.F.plainAttrs_list PySem.F.slot_list_append PySem.F.type_list_append jm_append (jv 4) (ja_c (jv 6) ja_nil)))
      (jss_one (js_expr (je_bm PySem.F.plainAttrs_list PySem.F.slot_list_append PySem.F.type_list_append jm_append (jv 3) (ja_c je_str ja_nil))))))))
    (jss_one (js_ret (jv 4))))),?_⟩
  have sl:=line0
  refine ⟨by show 0<=sizeLine; decide,fun p0 h0=>?_⟩
  have s0:=same_new h0 (.lst [])
  have n0e:p0≠ev:=fun e=>by rw [e,he] at h0; cases h0
  have n0l:lr≠p0:=fun e=>by rw [<- e,hl] at h0; cases h0
  refine ⟨_,rfl,lr,rfl,⟨_,SqL.of (s0 _ _ hl)⟩,for_list (xs:=inz xs) (fun k σ H'=>KX [ev] H H'/\H' lr=some (.lst (inz xs))/\∃ (ys:List Int) (v5 v6:Option V),σ=[some (.ref lr),some (.str w),some (.int i),some (.ref ev),some (.ref p0),v5,v6]/\H' ev=some (.lst (sts (es ++ calls k)))/\H' p0=some (.lst (inz ys))/\ys.length=k/\mapS w i xs=ys ++ mapS w i (xs.drop k)/\mapE w i xs=calls k ++ mapE w i (xs.drop k)) ⟨.of s0,s0 _ _ hl,[],none,none,rfl,by rw [show es ++ calls 0=es from List.append_nil _]; exact s0 _ _ he,upd_same,rfl,rfl,rfl⟩ (fun i σ H' _ h=>SqL.of h.2.1) ?_ ?_⟩
  · rintro k v σ H1 hv ⟨k1,hl1,ys,v5,v6,rfl,he1,hp1,ly,eS,eE⟩
    rw [List.getElem?_map] at hv
    obtain ⟨x,hx,rfl⟩:=Option.map_eq_some_iff.mp hv
    have hk:=(List.getElem?_eq_some_iff.mp hx).1
    rw [dropC hx,mapS] at eS
    rw [dropC hx,mapE] at eE
    have sxx:=sx x (List.mem_of_getElem? hx)
    refine ⟨_,rfl,_,rfl,_,rfl,w,x,i,rfl,sxx,si,hw,fun hf H2 s2=>?_,fun hf H2 s2=>?_⟩
    · rw [if_pos hf] at eS eE
      refine ⟨_,rfl,_,_,_,_,rfl,.int _,rfl,_,rfl,iteF (nxt ?_)⟩
      refine ⟨_,rfl,.inl ⟨rfl,_,SqL.of (s2 _ _ hp1)⟩,_,rfl,p0,_,_,rfl,rfl,s2 _ _ hp1,by rw [List.length_map]; omega,?_⟩
      refine ⟨_,rfl,.inl ⟨rfl,_,SqL.of (by rw [upd_ne (Ne.symm n0e)]; exact s2 _ _ he1)⟩,ev,_,_,rfl,rfl,by rw [upd_ne (Ne.symm n0e)]; exact s2 _ _ he1,by rw [List.length_map,List.length_append,calls_len]; omega,?_⟩
      have hl2:H2 lr=some (.lst (inz xs)):=s2 _ _ hl1
      refine ⟨((k1.trans (.of s2)).putN h0).put (List.mem_singleton.mpr rfl),by rw [upd_ne nle,upd_ne n0l]; exact hl2,ys ++ [K31.res w x i],_,_,rfl,?_,?_,by rw [List.length_append,ly]; rfl,by rw [eS,List.append_assoc]; rfl,by rw [eE,calls_app]⟩
      · rw [upd_same,show calls (k + 1)=calls k ++ (["call"]:List Str) from List.replicate_succ',<- List.append_assoc,sts,sts,List.map_append (l₂:=(["call"]:List Str))]
        rfl
      · rw [upd_ne n0e,upd_same,inz,inz,List.map_append]
        rfl
    · rw [if_neg hf] at eS eE
      refine ⟨_,rfl,_,_,_,_,rfl,.str _,rfl,_,rfl,iteT ?_⟩
      refine ⟨_,rfl,.inl ⟨rfl,_,SqL.of (s2 _ _ he1)⟩,_,rfl,ev,_,_,rfl,rfl,s2 _ _ he1,by rw [List.length_map,List.length_append,calls_len]; omega,?_⟩
      refine ⟨_,rfl,q _ p0 ((k1.trans (.of s2)).put (List.mem_singleton.mpr rfl)) h0 ?_ ?_⟩
      · rw [upd_same,eE,<- List.append_assoc,sts,sts,List.map_append (l₂:=[_])]
        rfl
      · rw [upd_ne n0e,eS,List.append_nil]
        exact s2 _ _ hp1
  · rintro σ H1 ⟨k1,hl1,ys,v5,v6,rfl,he1,hp1,ly,eS,eE⟩
    rw [List.length_map] at *
    rw [List.drop_of_length_le (Nat.le_refl _)] at eS eE
    rw [show mapS w i []=[] from rfl,List.append_nil] at eS
    rw [show mapE w i []=[] from rfl,List.append_nil] at eE
    exact ⟨_,rfl,q _ p0 k1 h0 (by rw [eE]; exact he1) (by rw [eS]; exact hp1)⟩
theorem scFoldL:FnScope ["_law_row_here","_law_word","_law_acc","_law_events","_law_one","_law_new"] ["_law_row_here","_law_word","_law_acc","_law_events"] (defScope sFold):=⟨rfl,rfl,rfl,by decide +kernel,rfl,by decide +kernel,by decide +kernel⟩
theorem ok_foldL (F:Fun K "_law_fold" "_law_fold" sFold f fd) (GO:Ca P w K mg base CX0 1 "_law_op" ["_law_word","_law_a","_law_b"] spOpL) (m_isinstance:mg "isinstance"=none) (m_str:mg "str"=none):FnOk P w K mg base CX0 2 f fd ["_law_row_here","_law_word","_law_acc","_law_events"] spFoldL:=by
  refine F.by scFoldL (fun vs H Q E h=>?_) (fun cdv A outer s H vs Q E hr h=>?_)
  · obtain ⟨lr,ev,w,a,xs,es,rfl,_⟩:=h
    rfl
  obtain ⟨lr,ev,w,a,xs,es,rfl,hl,he,nle,hw,sa,sx,lx,le,q⟩:=h
  have r1:Room 1 _:=hr.mono (by decide)
  refine ⟨_,
    (jss_cons (js_for PassesOwn.never rfl (ji_list (jv 0)) (jg_name (i:=4) scFoldL.nd rfl (Or.inl rfl))
      (jss_cons (js_set (i:=5) scFoldL.nd rfl (Or.inl rfl) (je_ca GO r1 rfl pass0 (ja_c (jv 1) (ja_c (jv 2) (ja_c (jv 4) ja_nil)))))
      (jss_cons (js_if (jt_val (je_fnB jc_isinst rfl m_isinstance PyProof.Rows.boot_isinstance (ja_c (jv 5) (ja_c (je_bltn (v:=.ty "str") rfl m_str PyProof.Rows.boot_str rfl) ja_nil)))) 
        (jss_cons (js_expr (je_bm PySem.F.plainAttrs_list PySem.F.slot_list_append PySem.F.type_list_append jm_append (jv 3) (ja_c (jv 5) ja_nil)))
        (jss_one (js_ret (jv 2))))  jss_nil)
      (jss_cons (js_set (i:=2) scFoldL.nd rfl (Or.inl rfl) (jv 5))
      (jss_one (js_expr (je_bm PySem.F.plainAttrs_list PySem.F.slot_list_append PySem.F.type_list_append jm_append (jv 3) (ja_c je_str ja_nil))))))))
    (jss_one (js_ret (jv 2)))),?_⟩
  have sl:=line0
  refine ⟨_,rfl,lr,rfl,⟨_,SqL.of hl⟩,for_list (xs:=inz xs) (fun k σ H'=>KX [ev] H H'/\H' lr=some (.lst (inz xs))/\∃ (acc:Int) (v4 v5:Option V),σ=[some (.ref lr),some (.str w),some (.int acc),some (.ref ev),v4,v5]/\Sm acc/\H' ev=some (.lst (sts (es ++ calls k)))/\foldS w xs a=foldS w (xs.drop k) acc/\foldE w xs a=calls k ++ foldE w (xs.drop k) acc) ⟨.refl,hl,a,none,none,rfl,sa,by rw [show es ++ calls 0=es from List.append_nil _]; exact he,rfl,rfl⟩ (fun i σ H' _ h=>SqL.of h.2.1) ?_ ?_⟩
  · rintro k v σ H1 hv ⟨k1,hl1,acc,v4,v5,rfl,sacc,he1,eS,eE⟩
    rw [List.getElem?_map] at hv
    obtain ⟨x,hx,rfl⟩:=Option.map_eq_some_iff.mp hv
    have hk:=(List.getElem?_eq_some_iff.mp hx).1
    rw [dropC hx,foldS] at eS
    rw [dropC hx,foldE] at eE
    have sxx:=sx x (List.mem_of_getElem? hx)
    refine ⟨_,rfl,_,rfl,_,rfl,w,acc,x,rfl,sacc,sxx,hw,fun hf H2 s2=>?_,fun hf H2 s2=>?_⟩
    · rw [if_pos hf] at eS eE
      refine ⟨_,rfl,_,_,_,_,rfl,.int _,rfl,_,rfl,iteF (nxt ?_)⟩
      refine ⟨_,rfl,_,rfl,.inl ⟨rfl,_,SqL.of (s2 _ _ he1)⟩,ev,_,_,rfl,rfl,s2 _ _ he1,by rw [List.length_map,List.length_append,calls_len]; omega,?_⟩
      refine ⟨(k1.trans (.of s2)).put (List.mem_singleton.mpr rfl),by rw [upd_ne nle]; exact s2 _ _ hl1,_,_,_,rfl,fw_sm hf,?_,eS,by rw [eE,calls_app]⟩
      rw [upd_same,show calls (k + 1)=calls k ++ (["call"]:List Str) from List.replicate_succ',<- List.append_assoc,sts,sts,List.map_append (l₂:=(["call"]:List Str))]
      rfl
    · rw [if_neg hf] at eS eE
      refine ⟨_,rfl,_,_,_,_,rfl,.str _,rfl,_,rfl,iteT ?_⟩
      refine ⟨_,rfl,.inl ⟨rfl,_,SqL.of (s2 _ _ he1)⟩,_,rfl,ev,_,_,rfl,rfl,s2 _ _ he1,by rw [List.length_map,List.length_append,calls_len]; omega,?_⟩
      refine ⟨_,rfl,?_⟩
      have q':=q
      rw [eS] at q'
      refine q' _ ((k1.trans (.of s2)).put (List.mem_singleton.mpr rfl)) ?_
      rw [upd_same,eE,<- List.append_assoc,sts,sts,List.map_append (l₂:=[_])]
      rfl
  · rintro σ H1 ⟨k1,hl1,acc,v4,v5,rfl,sacc,he1,eS,eE⟩
    rw [List.length_map] at *
    rw [List.drop_of_length_le (Nat.le_refl _)] at eS eE
    rw [show foldS w [] acc=acc from rfl] at eS
    rw [show foldE w [] acc=[] from rfl,List.append_nil] at eE
    refine ⟨_,rfl,?_⟩
    rw [<- eS]
    exact q _ k1 (by rw [eE]; exact he1)
end
end GN
namespace GN
open PySem L2 K11
def spDueL:Sp:=fun vs H Q _=>∃ (ev pp:Addr) (st:Int) (es:List Str) (f:List V),vs=[.ref ev,.int st,.ref pp]/\H ev=some (.lst (sts es))/\H pp=some (.lst f)/\es.length<=10000/\∀ H' r,Same H H'->AnsG H' r st (ouOf st f es 0).oc->Q (.ref r) H'
section
variable {P:Program} {w:World} {K:PySem.W.Frag} {mg:Str->Option Value} {base:Heap} {f:Addr} {fd:FuncData}
theorem scDueL:FnScope ["_law_events","_law_steps","_law_parts_here","_law_done","_law_one"] ["_law_events","_law_steps","_law_parts_here"] (defScope sDue):=⟨rfl,rfl,rfl,by decide +kernel,rfl,by decide +kernel,by decide +kernel⟩
theorem ok_dueL (F:Fun K "_law_due" "_law_due" sDue f fd):FnOk P w K mg base CX0 1 f fd ["_law_events","_law_steps","_law_parts_here"] spDueL:=by
  refine F.by scDueL (fun vs H Q E h=>?_) (fun cdv A outer s H vs Q E hr h=>?_)
  · obtain ⟨ev,pp,st,es,f,rfl,_⟩:=h
    rfl
  obtain ⟨ev,pp,st,es,f,rfl,he,hp,le,q⟩:=h
  refine ⟨_,
    (jss_cons (js_set (i:=3) scDueL.nd rfl (Or.inl rfl) je_int)
    (jss_cons (js_for PassesOwn.never rfl (ji_list (jv 0)) (jg_name (i:=4) scDueL.nd rfl (Or.inl rfl))
      (jss_cons (js_if (jt_cmpR jo_ne (jv 4) je_str (nomark _)) 
        (jss_one (js_ret (je_tup (ja_c je_str (ja_c (jv 4) ja_nil)))))  jss_nil)
      (jss_cons (js_if (jt_cmpR jo_eq (jv 3) (jv 1) (nomark _)) 
        (jss_one (js_ret (je_tup (ja_c je_str (ja_c (jv 1) ja_nil)))))  jss_nil)
      (jss_one (js_set (i:=3) scDueL.nd rfl (Or.inl rfl) (je_op jo_add (jv 3) je_int))))))
    (jss_one (js_ret (je_tup (ja_c je_str (ja_c (je_slice jl_list (jv 2) jo_none (jo_some je_int)) ja_nil))))))),?_⟩
  have sl:=line0
  refine ⟨_,rfl,ev,rfl,⟨_,SqL.of he⟩,for_list (xs:=sts es) (fun k σ H'=>H=H'/\∃ (v4:Option V),σ=[some (.ref ev),some (.int st),some (.ref pp),some (.int (k:Nat)),v4]/\ouOf st f es 0=ouOf st f (es.drop k) k) ⟨rfl,none,rfl,rfl⟩ (fun i σ H' _ h=>by rw [<- h.1]; exact SqL.of he) ?_ ?_⟩
  · rintro k v σ H1 hv ⟨rfl,v4,rfl,eo⟩
    rw [List.getElem?_map] at hv
    obtain ⟨x,hx,rfl⟩:=Option.map_eq_some_iff.mp hv
    rw [dropC hx,ouOf] at eo
    refine ⟨_,rfl,rfl,_,rfl,?_⟩
    by_cases c:x="call"
    · rw [if_pos c] at eo
      refine iteF' (by rw [c]; decide +kernel) (nxt ⟨_,rfl,_,rfl,rfl,_,rfl,?_⟩)
      by_cases d:(k:Int)=st
      · rw [if_pos d] at eo
        refine iteT' (decide_eq_true (by rw [d])) ⟨_,rfl,by show 2<=sizeLine; decide,fun p hp'=>?_⟩
        exact q _ p (same_new hp' _) (by rw [eo]; exact upd_same)
      · rw [if_neg d] at eo
        refine iteF' (decide_eq_false fun z=>d (V.int.inj z)) (nxt ⟨_,rfl,_,_,rfl,rfl,rfl,_,rfl,eo⟩)
    · rw [if_neg c] at eo
      refine iteT' (by simp [c]) ⟨_,rfl,by show 2<=sizeLine; decide,fun p hp'=>?_⟩
      exact q _ p (same_new hp' _) (by rw [eo]; exact upd_same)
  · rintro σ H1 ⟨rfl,v4,rfl,eo⟩
    rw [List.length_map,List.drop_of_length_le (Nat.le_refl _)] at eo
    refine ⟨_,rfl,_,rfl,pp,_,rfl,SqL.of hp,fun l hl=>⟨by show 2<=sizeLine; decide,fun p hp'=>?_⟩⟩
    refine q _ p ((same_new hl _).new hp') ?_
    rw [eo]
    refine ⟨l,upd_same,?_⟩
    rw [old hp' upd_same,cut_id (by decide)]
    rfl
end
end GN
namespace GN
open PySem L2 K11
theorem At.fl {v:V} (h:At v):flatV v=true:=by
  match v,h with
  | .int _,_=>rfl
  | .str _,_=>rfl
theorem sme_flat2 {H:Hp} {n:Nat} {xs:List V} {a b:Addr} (h:(H a=some (.lst xs)/\H b=some (.lst xs))\/(H a=some (.tup xs)/\H b=some (.tup xs))) (f:∀ x∈xs,flatV x=true):Sme (n + 2) H (.ref a) (.ref b) :=
  .inr ⟨a,b,xs,xs,rfl,rfl,h,rfl,fun i u v h1 h2=>.inl ⟨f u (List.mem_of_getElem? h1),by rw [h1] at h2; exact Option.some.inj h2⟩⟩
def AtG:Oc->Prop
  | .told f=>∀ x∈f,At x
  | _=>True
theorem AnsG.kt {T:Addr} {H H':Hp} {r:Addr} {st:Int} {o:Oc} (h:AnsG H r st o) (k:KT T H H') (t:Tb T H):AnsG H' r st o:=by
  obtain ⟨tb,ht⟩:=t.tbl
  match o,h with
  | .told f,h =>
    obtain ⟨l,a,b⟩:=h
    exact ⟨l,k _ _ (ne_of a ht (by intro z; cases z)) a,k _ _ (ne_of b ht (by intro z; cases z)) b⟩
  | .late,h=>exact k _ _ (ne_of h ht (by intro z; cases z)) h
  | .fault w,h=>exact k _ _ (ne_of (o:=.tup [.str "fault",.str w]) h ht (by intro z; cases z)) h
theorem AnsG.same {H H':Hp} {r:Addr} {st:Int} {o:Oc} (h:AnsG H r st o) (s:Same H H'):AnsG H' r st o:=by
  match o,h with
  | .told f,h=>obtain ⟨l,a,b⟩:=h; exact ⟨l,s _ _ a,s _ _ b⟩
  | .late,h=>exact s _ _ h
  | .fault w,h=>exact s _ _ h
def spSameG:Sp:=fun vs H Q _=>∃ (g u:Addr) (st:Int) (o:Oc),vs=[.ref g,.ref u]/\AnsG H g st o/\AnsG H u st o/\AtG o/\∀ H',Same H H'->Q (.bl true) H'
section
variable {P:Program} {w:World} {K:PySem.W.Frag} {mg:Str->Option Value} {base:Heap} {f:Addr} {fd:FuncData}
theorem scSame:FnScope ["_law_got","_law_due_here","_law_parts_here"] ["_law_got","_law_due_here"] (defScope sSame):=⟨rfl,rfl,rfl,by decide +kernel,rfl,by decide +kernel,by decide +kernel⟩
theorem ndSame:(["_law_got","_law_due_here","_law_parts_here","_law_one"]:List Str).Nodup:=by decide +kernel
theorem ok_sameG (F:Fun K "_law_same" "_law_same" sSame f fd) (m_isinstance:mg "isinstance"=none) (m_list:mg "list"=none) (m_bool:mg "bool"=none) (m_tuple:mg "tuple"=none) (m_len:mg "len"=none):FnOk P w K mg base CX0 1 f fd ["_law_got","_law_due_here"] spSameG:=by
  refine F.by scSame (fun vs H Q E h=>?_) (fun cdv A outer s H vs Q E hr h=>?_)
  · obtain ⟨g,u,st,o,rfl,_⟩:=h
    rfl
  obtain ⟨g,u,st,o,rfl,hg,hu,hat,q⟩:=h
  refine ⟨_,
    (jss_cons (js_if (jW.pt (jw_or (jt_not (jt_val (je_fnB jc_isinst rfl m_isinstance PyProof.Rows.boot_isinstance (ja_c (jv 0) (ja_c (je_bltn (v:=.ty "tuple") rfl m_tuple PyProof.Rows.boot_tuple rfl) ja_nil))))) (jw_or (jt_cmpR jo_ne (je_fnB jc_len_seq rfl m_len PySem.boot_len (ja_c (jv 0) ja_nil)) je_int (nomark _)) (jw_or1 (jt_cmpR jo_ne (je_ix jx_tup (jv 0) je_int (fun _ _=>rfl)) (je_ix jx_tup (jv 1) je_int (fun _ _=>rfl)) (nomark _)))))) (jss_one (js_ret je_bl)) jss_nil)
    (jss_cons (js_if (jt_cmpR jo_eq (je_ix jx_tup (jv 1) je_int (fun _ _=>rfl)) je_str (nomark _)) 
      (jss_one (js_ret (je_and (je_not (je_fnB jc_isinst rfl m_isinstance PyProof.Rows.boot_isinstance (ja_c (je_ix jx_tup (jv 0) je_int (fun _ _=>rfl)) (ja_c (je_bltn (v:=.ty "bool") rfl m_bool PyProof.Rows.boot_bool rfl) ja_nil)))) (je_one (je_cmpR jo_eq (je_ix jx_tup (jv 0) je_int (fun _ _=>rfl)) (je_ix jx_tup (jv 1) je_int (fun _ _=>rfl)) (nomark _))))))  jss_nil)
    (jss_cons (js_if (jt_cmpR jo_eq (je_ix jx_tup (jv 1) je_int (fun _ _=>rfl)) je_str (nomark _)) (jss_one (js_ret (je_cmpR jo_eq (je_ix jx_tup (jv 0) je_int (fun _ _=>rfl)) (je_ix jx_tup (jv 1) je_int (fun _ _=>rfl)) (nomark _)))) jss_nil)
    (jss_cons (js_set (i:=2) scSame.nd rfl (Or.inl rfl) (je_ix jx_tup (jv 0) je_int (fun _ _=>rfl)))
    (jss_cons (js_if (jW.pt (jw_or (jt_not (jt_val (je_fnB jc_isinst rfl m_isinstance PyProof.Rows.boot_isinstance (ja_c (jv 2) (ja_c (je_bltn (v:=.ty "list") rfl m_list PyProof.Rows.boot_list rfl) ja_nil))))) (jw_or1 (jt_cmpR jo_ne (je_fnB jc_len_seq rfl m_len PySem.boot_len (ja_c (jv 2) ja_nil)) (je_fnB jc_len_seq rfl m_len PySem.boot_len (ja_c (je_ix jx_tup (jv 1) je_int (fun _ _=>rfl)) ja_nil)) (nomark _))))) (jss_one (js_ret je_bl)) jss_nil)
    (jss_one (js_ret (je_and (je_cmpR (jo_eqE hr) (je_comp ["_law_one"] rfl (ji_list (jv 2)) (fun _ _ _ _ _=>(jg_name (i:=3) ndSame rfl (Or.inl rfl))) (fun _ _ _ _ _=>(jts_one (jt_val (je_fnB (jc_isinstK K) rfl m_isinstance PyProof.Rows.boot_isinstance (ja_c (jv 3) (ja_c (je_bltn (v:=.ty "bool") rfl m_bool PyProof.Rows.boot_bool rfl) ja_nil)))))) (fun _ _ _ _ _=>(jv 3))) (je_lst ja_nil) (nomark _)) (je_one (je_cmpR (jo_eqD (n:=3) (by decide) hr) (jv 2) (je_ix jx_tup (jv 1) je_int (fun _ _=>rfl)) (nomark _))))))))))),?_⟩
  have sl:=line0
  match o,hg,hu,hat with
  | .late,hg,hu,_ =>
    have hg:H g=some (.tup [.str "late",.int st]):=hg
    have hu:H u=some (.tup [.str "late",.int st]):=hu
    refine ⟨_,rfl,_,_,_,_,rfl,.tup hg,rfl,_,rfl,iteF ⟨_,rfl,g,_,rfl,.inr (SqT.of hg),rfl,_,rfl,iteF' rfl ⟨_,rfl,g,_,_,_,rfl,rfl,SqT.of hg,rfl,_,rfl,u,_,_,_,rfl,rfl,SqT.of hu,rfl,rfl,_,rfl,iteF' (by simp) (nxt ?_)⟩⟩⟩
    refine ⟨_,rfl,u,_,_,_,rfl,rfl,SqT.of hu,rfl,rfl,_,rfl,iteT' (by decide +kernel) ?_⟩
    refine ⟨_,rfl,g,_,_,_,rfl,rfl,SqT.of hg,atI_nat (j:=1) rfl,_,_,_,_,rfl,.int _,rfl,_,rfl,_,rfl,iteT ?_⟩
    refine ⟨_,rfl,g,_,_,_,rfl,rfl,SqT.of hg,atI_nat (j:=1) rfl,_,rfl,u,_,_,_,rfl,rfl,SqT.of hu,atI_nat (j:=1) rfl,rfl,?_⟩
    rw [decide_eq_true rfl]
    exact q _ (Same.refl _)
  | .fault ww,hg,hu,_ =>
    have hg:H g=some (.tup [.str "fault",.str ww]):=hg
    have hu:H u=some (.tup [.str "fault",.str ww]):=hu
    refine ⟨_,rfl,_,_,_,_,rfl,.tup hg,rfl,_,rfl,iteF ⟨_,rfl,g,_,rfl,.inr (SqT.of hg),rfl,_,rfl,iteF' rfl ⟨_,rfl,g,_,_,_,rfl,rfl,SqT.of hg,rfl,_,rfl,u,_,_,_,rfl,rfl,SqT.of hu,rfl,rfl,_,rfl,iteF' (by simp) (nxt ?_)⟩⟩⟩
    refine ⟨_,rfl,u,_,_,_,rfl,rfl,SqT.of hu,rfl,rfl,_,rfl,iteF' (by decide +kernel) (nxt ?_)⟩
    refine ⟨_,rfl,u,_,_,_,rfl,rfl,SqT.of hu,rfl,rfl,_,rfl,iteT' (by decide +kernel) ?_⟩
    refine ⟨_,rfl,g,_,_,_,rfl,rfl,SqT.of hg,atI_nat (j:=1) rfl,_,rfl,u,_,_,_,rfl,rfl,SqT.of hu,atI_nat (j:=1) rfl,rfl,?_⟩
    rw [decide_eq_true rfl]
    exact q _ (Same.refl _)
  | .told ff,hg,hu,hat =>
    obtain ⟨lg,hg,hlg⟩:=hg
    obtain ⟨lu,hu,hlu⟩:=hu
    have hat:∀ x∈ff.take 100,At x:=fun x hx=>hat x (List.mem_of_mem_take hx)
    generalize ff.take 100=xs at *
    refine ⟨_,rfl,_,_,_,_,rfl,.tup hg,rfl,_,rfl,iteF ⟨_,rfl,g,_,rfl,.inr (SqT.of hg),rfl,_,rfl,iteF' rfl ⟨_,rfl,g,_,_,_,rfl,rfl,SqT.of hg,rfl,_,rfl,u,_,_,_,rfl,rfl,SqT.of hu,rfl,rfl,_,rfl,iteF' (by simp) (nxt ?_)⟩⟩⟩
    refine ⟨_,rfl,u,_,_,_,rfl,rfl,SqT.of hu,rfl,rfl,_,rfl,iteF' (by decide +kernel) (nxt ?_)⟩
    refine ⟨_,rfl,u,_,_,_,rfl,rfl,SqT.of hu,rfl,rfl,_,rfl,iteF' (by decide +kernel) (nxt ?_)⟩
    refine ⟨_,rfl,g,_,_,_,rfl,rfl,SqT.of hg,atI_nat (j:=1) rfl,?_⟩
    refine ⟨_,rfl,_,_,_,_,rfl,.lst hlg,rfl,_,rfl,iteF ⟨_,rfl,lg,_,rfl,.inl (SqL.of hlg),_,rfl,u,_,_,_,rfl,rfl,SqT.of hu,atI_nat (j:=1) rfl,lu,_,rfl,.inl (SqL.of hlu),rfl,_,rfl,iteF' (by simp) (nxt ?_)⟩⟩
    refine ⟨_,rfl,lg,rfl,⟨_,SqL.of hlg⟩,lc_list (K:=K) (xs:=xs) (fun i τ ys H'=>H=H'/\(∃ x,τ=[some (.ref g),some (.ref u),some (.ref lg),x])/\ys=[]) ⟨rfl,⟨none,rfl⟩,rfl⟩ (fun i τ ys H' _ h=>by rw [<- h.1]; exact SqL.of hlg) ?_ ?_⟩
    · rintro i x τ ys H' hx ⟨rfl,⟨y,rfl⟩,rfl⟩
      match x,hat x (List.mem_of_getElem? hx) with
      | .int j,_=>exact ⟨_,rfl,_,_,_,_,rfl,.int _,rfl,_,rfl,iteF ⟨rfl,⟨_,rfl⟩,rfl⟩⟩
      | .str j,_=>exact ⟨_,rfl,_,_,_,_,rfl,.str _,rfl,_,rfl,iteF ⟨rfl,⟨_,rfl⟩,rfl⟩⟩
    · rintro τ ys H' ⟨rfl,_,rfl⟩ p1 hp1
      refine ⟨by show 0<=sizeLine; decide,fun p2 hp2=>?_⟩
      have n1:=(same_new hp1 (.lst [])).new (o:=.lst []) hp2
      refine ⟨p1,p2,_,rfl,rfl,SqL.of (old hp2 upd_same),SqL.of upd_same,true,rfl,iteT ?_⟩
      refine ⟨_,rfl,_,rfl,u,_,_,_,rfl,rfl,SqT.of (n1 _ _ hu),atI_nat (j:=1) rfl,lg,lu,rfl,rfl,sme_flat2 (.inl ⟨n1 _ _ hlg,n1 _ _ hlu⟩) fun x hx=>(hat x hx).fl,q _ n1⟩
end
end GN
namespace GN
open PySem L2 K11
def spRowL (K:PySem.W.Frag):Sp:=fun vs H Q _=>∃ (st:Addr) (B:Nat),vs=[.ref st]/\Sta K H st B/\B + 400 < LIM/\∀ (H':Hp) (l:Addr) (xs:List Int),Kp st H H'->Sta K H' st (B + 300)->H l=none->H' l=some (.lst (inz xs))->(∀ x∈xs,Sm x)->xs.length<=148->Q (.ref l) H'
section
variable {P:Program} {w:World} {K:PySem.W.Frag} {mg:Str->Option Value} {base:Heap} {f:Addr} {fd:FuncData}
theorem scRowL:FnScope ["_law_state","_law_many"] ["_law_state"] (defScope sRow):=⟨rfl,rfl,rfl,by decide +kernel,rfl,by decide +kernel,by decide +kernel⟩
theorem ndRowL:(["_law_state","_law_many","_law_k"]:List Str).Nodup:=by decide +kernel
theorem ok_rowL (F:Fun K "_law_row" "_law_row" sRow f fd) (GD:Ca P w K mg base CX0 1 "_law_draw" ["_law_state","_law_many"] (spDraw K)) (GN:Ca P w K mg base CX0 2 "_law_number" ["_law_state"] (spNumber K)) (m_range:mg "range"=none):FnOk P w K mg base CX0 3 f fd ["_law_state"] (spRowL K):=by
  refine F.by scRowL (fun vs H Q E h=>?_) (fun cdv A outer s H vs Q E hr h=>?_)
  · obtain ⟨st,B,rfl,_⟩:=h
    rfl
  obtain ⟨st,B,rfl,S0,hB,q⟩:=h
  have r1:Room 1 _:=hr.mono (by decide)
  have r2:Room 2 _:=hr.mono (by decide)
  refine ⟨_,
    (jss_cons (js_set (i:=1) scRowL.nd rfl (Or.inl rfl) (je_ca GD r1 rfl pass0 (ja_c (jv 0) (ja_c je_int ja_nil))))
    (jss_cons (js_if (jt_cmpR jo_eq (je_ca GD r1 rfl pass0 (ja_c (jv 0) (ja_c je_int ja_nil))) je_int (nomark _)) 
      (jss_one (js_set (i:=1) scRowL.nd rfl (Or.inl rfl) (je_ca GD r1 rfl pass0 (ja_c (jv 0) (ja_c je_int ja_nil)))))  jss_nil)
    (jss_cons (js_if (jt_cmpR jo_eq (je_ca GD r1 rfl pass0 (ja_c (jv 0) (ja_c je_int ja_nil))) je_int (nomark _)) 
      (jss_one (js_ret (je_comp ["_law_k"] rfl (ji_range1 rfl m_range (ja_c (jv 1) ja_nil)) (fun _ _ _ _ _=>(jg_name (i:=2) ndRowL rfl (Or.inl rfl))) (fun _ _ _ _ _=>jts_nil) (fun _ _ _ _ _=>(je_op jo_sub (je_ca GD r1 rfl pass0 (ja_c (jv 0) (ja_c je_int ja_nil))) je_int)))))  jss_nil)
    (jss_one (js_ret (je_comp ["_law_k"] rfl (ji_range1 rfl m_range (ja_c (jv 1) ja_nil)) (fun _ _ _ _ _=>(jg_name (i:=2) ndRowL rfl (Or.inl rfl))) (fun _ _ _ _ _=>jts_nil) (fun _ _ _ _ _=>(je_ca GN r2 rfl pass0 (ja_c (jv 0) ja_nil))))))))),?_⟩
  have sl:=line0
  have LM:LIM=4611686018427387904:=rfl
  refine (show ∀ (u:TS) (D:Ends),(∀ (H2:Hp) (m:Nat),Kp st H H2->Sta K H2 st (B + 3)->m<=148->u D [some (.ref st),some (.int (m:Nat))] H2)->(tSeq _ (tSeq _ u):TS) D [some (.ref st),none] H from ?key) _ _ ?rest
  case key =>
    intro u D hU
    refine ⟨_,rfl,st,12,B,rfl,S0,by omega,by decide,fun H1 m1 k1 S1 m10 m11=>?_⟩
    refine ⟨_,rfl,st,8,B + 1,rfl,S1,by omega,by decide,fun H2 r2 k2 S2 _ _=>⟨rfl,_,rfl,ite2 (fun _=>?_) (fun _=>nxt ?_)⟩⟩
    · refine ⟨_,rfl,st,149,B + 2,rfl,S2,by omega,by decide,fun H3 m3 k3 S3 m30 m31=>?_⟩
      have:=hU H3 m3.toNat ((k1.trans k2).trans k3) S3 (by omega)
      rw [show ((m3.toNat:Nat):Int)=m3 by omega] at this
      exact this
    · have:=hU H2 m1.toNat (k1.trans k2) (S2.mono (by omega)) (by omega)
      rw [show ((m1.toNat:Nat):Int)=m1 by omega] at this
      exact this
  case rest =>
    intro H2 m k2 S2 hm
    refine ⟨_,rfl,st,2,B + 3,rfl,S2,by omega,by decide,fun H3 r3 k3 S3 _ _=>⟨rfl,_,rfl,ite2 (fun _=>?_) (fun _=>nxt ?_)⟩⟩
    · refine ⟨_,rfl,_,rfl,by omega,by omega,lc_range (n:=m) (fun i τ ys H'=>Kp st H H'/\Sta K H' st (B + 4 + i)/\(∃ x,τ=[some (.ref st),some (.int (m:Nat)),x])/\∃ xs:List Int,ys=inz xs/\xs.length=i/\∀ x∈xs,Sm x) ⟨k2.trans k3,S3,⟨none,rfl⟩,[],rfl,rfl,fun z hz=>by cases hz⟩ ?_ ?_⟩
      · rintro i τ ys H4 hi ⟨k4,S4,⟨x,rfl⟩,xs,rfl,hl,h1⟩
        have hi:i < m:=by omega
        refine ⟨_,rfl,st,19,B + 4 + i,rfl,S4,by omega,by decide,fun H5 r5 k5 S5 q0 q1=>?_⟩
        refine ⟨_,_,rfl,rfl,by rw [List.length_map]; omega,k4.trans k5,S5,⟨_,rfl⟩,xs ++ [r5 - 9],by rw [inz,inz,List.map_append]; rfl,by rw [List.length_append,hl]; rfl,fun y hy=>?_⟩
        rcases List.mem_append.mp hy with hy | hy
        · exact h1 y hy
        · rw [List.mem_singleton.mp hy]
          unfold Sm
          omega
      · rintro τ ys H4 ⟨k4,S4,_,xs,rfl,hl,h1⟩ p hp
        exact q _ p xs (k4.new hp) ((S4.mono (by omega)).new hp _) (k4.free (S4.ne hp) hp) upd_same h1 (by omega)
    · refine ⟨_,rfl,_,rfl,by omega,by omega,lc_range (n:=m) (fun i τ ys H'=>Kp st H H'/\Sta K H' st (B + 4 + 2 * i)/\(∃ x,τ=[some (.ref st),some (.int (m:Nat)),x])/\∃ xs:List Int,ys=inz xs/\xs.length=i/\∀ x∈xs,Sm x) ⟨k2.trans k3,S3,⟨none,rfl⟩,[],rfl,rfl,fun z hz=>by cases hz⟩ ?_ ?_⟩
      · rintro i τ ys H4 hi ⟨k4,S4,⟨x,rfl⟩,xs,rfl,hl,h1⟩
        have hi:i < m:=by omega
        refine ⟨_,rfl,st,B + 4 + 2 * i,rfl,S4,by omega,fun H5 r5 k5 S5 sm5=>?_⟩
        refine ⟨by rw [List.length_map]; omega,k4.trans k5,S5,⟨_,rfl⟩,xs ++ [r5],by rw [inz,inz,List.map_append]; rfl,by rw [List.length_append,hl]; rfl,fun y hy=>?_⟩
        rcases List.mem_append.mp hy with hy | hy
        · exact h1 y hy
        · rw [List.mem_singleton.mp hy]
          exact sm5
      · rintro τ ys H4 ⟨k4,S4,_,xs,rfl,hl,h1⟩ p hp
        exact q _ p xs (k4.new hp) ((S4.mono (by omega)).new hp _) (k4.free (S4.ne hp) hp) upd_same h1 (by omega)
end
end GN
namespace L2
open PySem PySem.Spec PyProof.Rows
theorem lri_slot_hint:Slot "list_reverseiterator" "__length_hint__" "list_reverseiterator.__length_hint__" :=
  .of (owner:="list_reverseiterator") (n:="__length_hint__") (by rw [typeLookup_type,builtinLookup_eq_fast]; kernel_rfl) (by decide +kernel) (by decide +kernel) (by decide +kernel)
    (by first | exact .inl (by decide +kernel) | exact .inr (by decide +kernel)) (by rw [isSubtype_type]; kernel_rfl)
theorem lri_no_len:typeLookup (.type "list_reverseiterator") "__len__"=pure none:=by rw [typeLookup_type,builtinLookup_eq_fast]; kernel_rfl
section
variable {prog:Program} {w:World} {A:Around} {E:Value->Shared->Prop} {s:Shared}
theorem hint_lri {it l:Addr} {items:Array Value} {Q:Bool->Shared->Prop} (hit:s.heap.IsRevIter it l ((items.size:Int) - 1)) (hl:s.heap.IsList l items) (hz:items.size<=sizeLine) (h:∀ tk b,Q b { s with toks:=tk }):wpAny (model prog w) A (Builtin.List.listLengthHint (.ref it)) Q E s:=by
  obtain ⟨o,ho,hc,hd⟩:=id hit
  have hn:=line63
  unfold Builtin.List.listLengthHint
  refine wpAny_bind (wpAny_specialOf hit.typeIs lri_no_len ?_)
  show wpAny _ _ (specialOf (Value.ref it) (Str.ofString "__length_hint__") >>= _) _ _ _
  refine wpAny_bind (wpAny_specialOf hit.typeIs lri_slot_hint.lookup ?_)
  generalize hid:("list_reverseiterator.__length_hint__":String)=id0
  wp_delta
  rw [show splitId id0=some ("list_reverseiterator","__length_hint__") from by subst hid; decide +kernel]
  subst hid
  refine wpAny_bind (wpAny_isInstance (T:="list_reverseiterator") (b:=true) hit.typeIs (by rw [isSubtype_type]; kernel_rfl) ?_)
  exact wpAny_pure (h s.toks false)
theorem extend_lri {R:Result->Shared->Prop} {r l:Addr} {items:Array Value} (hh:A.handled=none) (hr:s.heap.IsRevIter r l ((items.size:Int) - 1)) (hl:s.heap.IsList l items) (hz:items.size<=sizeLine) (hrl:l≠r) (S:Addr) (hSr:S≠r) (hSl:S≠l) (res:Value) (c₀:Nat) (hS:s.heap.get? S=some { cls:=.type "list",data:=.seq #[] c₀ })
    (hR:∀ h' tk acc' c',(∀ b o,b≠S->b≠r->s.heap.get? b=some o->h'.get? b=some o)->h'.get? S=some { cls:=.type "list",dict:=none,data:=.seq acc' c',slots:=#[] } ->
      ItemsOf (fun i v=>items[items.size - 1 - i]?=some v) acc' items.size->R (.ok (.ret res)) { s with heap:=h',toks:=tk }) :
    wpAny (model prog w) A.in1 (Builtin.List.listExtendWith (.ref S) (.ref r) res)
      (fun fin s'=>match fin with | .done f=>R (.ok f) s' | .again c'=>c'.quiet=true/\codeAny (model prog w) A c' R s') (fun e s'=>R (.error e) s') s:=by
  have hSf:S ∉ [r,l]:=by simp only [List.mem_cons,List.not_mem_nil,or_false,not_or]; exact ⟨hSr,hSl⟩
  have W:=(Walks.listRev (prog:=prog) (w:=w) (A:=A.in1) hh r l hrl items).toS
  have key:∀ (h:Heap) (c₁ tk:Nat),h.IsRevIter r l ((items.size:Int) - 1 - ((0:Nat):Int))->h.IsList l items->(∀ b o,b≠S->s.heap.get? b=some o->h.get? b=some o) ->
      h.get? S=some { cls:=.type "list",data:=.seq #[] c₁ }->codeAny (model prog w) A (.builtin "list.extend.loop" ⟨[.ref S,.ref r,res],[]⟩) R { s with heap:=h,toks:=tk }:=by
    intro h c₁ tk hit hlt hk hS₁
    refine codeAny_extend_loopS W hz S hSf res items.size 0 _ #[] c₁ rfl (Nat.zero_le _) ⟨Nat.zero_le _,hit,hlt⟩ hS₁ (ItemsOf.nil _) fun s' acc' c' hm hS' hacc=>?_
    rw [Moved.eq_with hm]
    refine hR s'.heap s'.toks acc' c' (fun b o hb hbr e=>hm.heap b o (fun hmem=>?_) (hk b o hb e)) hS' hacc
    rcases List.mem_cons.mp hmem with e' | hmem
    · exact hb e'
    · exact hbr (List.mem_singleton.mp hmem)
  unfold Builtin.List.listExtendWith
  refine wpAny_bind (wpAny_typeOf (T:="list_reverseiterator") hr.typeIs ?_)
  have h1:Builtin.List.listSameRef (.ref S) (.ref r)=false:=by simp [Builtin.List.listSameRef,hSr]
  have h2:(Value.type "list_reverseiterator" == Value.type "list")=false:=by decide
  have h3:(Value.type "list_reverseiterator" == Value.type "tuple")=false:=by decide
  simp only [h1,h2,h3,Bool.or_false,Bool.false_eq_true,if_false]
  refine wpAny_bind (wpAny_pyIter_revIter hr ?_)
  refine wpAny_bind (wpAny_holding (hint_lri hr hl hz fun tk b=>?_))
  have e0:(items.size:Int) - 1 - ((0:Nat):Int)=(items.size:Int) - 1:=by omega
  refine wpAny_ite_split (fun _=>?_) (fun _=>wpAny_pure ⟨plainId_quiet PySem.F.plain_extend_loop _,key _ c₀ _ (by rw [e0]; exact hr) hl (fun b o _ e=>e) hS⟩)
  refine wpAny_bind (wpAny_rule ?_)
  refine wpAny_bind ?_
  show wpAny _ _ (updateSeq S (·.push .none) >>= fun _=>updateSeq S (·.pop)) _ _ _
  refine wpAny_bind (wpAny_updateSeq hS rfl ?_)
  have hS₂:=Heap.get?_update_self (Obj.mapSeq (·.push Value.none)) hS rfl
  refine wpAny_updateSeq (hz:=by seq_fits) hS₂ rfl ?_
  have hS₃:=Heap.get?_update_self (Obj.mapSeq (·.pop)) hS₂ rfl
  have oth:∀ b o,b≠S->s.heap.get? b=some o->((s.heap.update S (Obj.mapSeq (·.push Value.none))).update S (Obj.mapSeq (·.pop))).get? b=some o :=
    fun b o hb e=>(Heap.get?_update_other _ _ (Ne.symm hb)).trans ((Heap.get?_update_other _ _ (Ne.symm hb)).trans e)
  refine wpAny_pure ⟨plainId_quiet PySem.F.plain_extend_loop _,key _ _ _ ?_ ?_ oth hS₃⟩
  · rw [e0]
    exact hr.at fun o e=>oth r o (Ne.symm hSr) e
  · exact hl.at fun o e=>oth l o (Ne.symm hSl) e
theorem call_list_lri {Q:Value->Shared->Prop} {r l:Addr} {items:Array Value} (hh:A.handled=none) (hr:s.heap.IsRevIter r l ((items.size:Int) - 1)) (hl:s.heap.IsList l items) (hz:items.size<=sizeLine) (hrl:l≠r)
    (hQ:∀ h' tk acc' c',(∀ b o,b≠r->s.heap.get? b=some o->h'.get? b=some o)->h'.get? s.heap.objs.size=some { cls:=.type "list",dict:=none,data:=.seq acc' c',slots:=#[] }->ItemsOf (fun i v=>items[items.size - 1 - i]?=some v) acc' items.size->Q (.ref s.heap.objs.size) { s with heap:=h',toks:=tk }) :
    wpAny (model prog w) A (call (.type "list") [.ref r]) Q E s:=by
  have hr1:r < s.heap.objs.size:=let ⟨_,ho,_⟩:=hr; Heap.lt_size ho
  have hl1:l < s.heap.objs.size:=let ⟨_,ho,_⟩:=hl; Heap.lt_size ho
  refine callType_codes (Q₁:=fun obj s₁=>obj=.ref s.heap.objs.size/\s₁={ s with heap:=s.heap.push { cls:=.type "list",data:=.seq #[] } }) PySem.F.called_list (PySem.F.typeCall_list_1 _) PySem.F.entry_list_init
    (code_list_new _ ⟨rfl,rfl⟩) fun obj s₁ h₁=>?_
  obtain ⟨rfl,rfl⟩:=h₁
  have hS:(s.heap.push { cls:=.type "list",data:=.seq #[] }).get? s.heap.objs.size=some { cls:=.type "list",data:=.seq #[] }:=Heap.get?_push_size _ rfl
  refine ⟨⟨_,hS,rfl⟩,PySem.F.args_list_init_2 _ _,?_⟩
  show wpAny _ _ (do let old <- Builtin.List.listItems (.ref s.heap.objs.size); Builtin.List.listUpdate (.ref s.heap.objs.size) (fun _=>#[]); letGo old.toList.reverse; Builtin.List.listExtendWith (.ref s.heap.objs.size) (.ref r) .none) _ _ _
  refine wpAny_bind ?_
  unfold Builtin.List.listItems
  refine wpAny_bind (wpAny_seqItems hS rfl (wpAny_pure ?_))
  show wpAny _ _ (updateSeq s.heap.objs.size (fun _=>#[]) >>= fun _=>letGo (#[]:Array Value).toList.reverse >>= fun _=>Builtin.List.listExtendWith (.ref s.heap.objs.size) (.ref r) .none) _ _ _
  refine wpAny_bind (wpAny_updateSeq hS rfl ?_)
  have hS₂:=Heap.get?_update_self (Obj.mapSeq (fun _=>(#[]:Array Value))) hS rfl
  have oth:∀ b o,b≠s.heap.objs.size->s.heap.get? b=some o->((s.heap.push { cls:=.type "list",data:=.seq #[] }).update s.heap.objs.size (Obj.mapSeq (fun _=>(#[]:Array Value)))).get? b=some o :=
    fun b o hb e=>(Heap.get?_update_other _ _ (Ne.symm hb)).trans (Heap.get?_push_of_some _ e)
  refine wpAny_bind (wpAny_letGo ?_)
  refine extend_lri (A:=A.in1) (items:=items) hh (hr.at fun o e=>oth r o (Nat.ne_of_lt hr1) e) (hl.at fun o e=>oth l o (Nat.ne_of_lt hl1) e) hz hrl _ (Nat.ne_of_gt hr1) (Nat.ne_of_gt hl1) .none _ hS₂ fun h' tk acc' c' hk hS' hacc=>?_
  exact ⟨rfl,hQ h' tk acc' c' (fun b o hb e=>hk b o (Nat.ne_of_lt (Heap.lt_size e)) hb (oth b o (Nat.ne_of_lt (Heap.lt_size e)) e)) hS' hacc⟩
end
section
variable {X:Cx}
def tListL (K:PySem.W.Frag) (ta:TA):TE:=fun σ H Q=>ta σ H fun vs H1=>∃ l xs,vs=[.ref l]/\SqL K H1 l xs/\∀ r,H1 r=none->Q (.ref r) (upd H1 r (.lst xs.reverse))
theorem pe_listL {a:Expr} {ta:TA} {p p2 pos pos2:Pos} (hc:X.calm=true) (hg1:Gl X "list") (hm1:X.mg "list"=none) (hg:Gl X "reversed") (hm:X.mg "reversed"=none) (ha:PA X [a] ta) (hs:isStar a=false) :
    PE X (.Call (.Name "list" p) [.Call (.Name "reversed" p2) [a] [] pos2] [] pos) (tListL X.K ta):=by
  intro pins s σ H Q I h
  refine wpAny_Call_Name_kw (ld_blt I hg1 hm1 boot_list ?_ (by decide) (by decide))
  refine PyProof.Rows.callWith_type1 ?_ (star_cons rfl) (star_any rfl)
  rw [star_cons rfl]
  show wpAny _ _ (spliced ((false,eval _ X.env) :: backTo pos (starEach [] X.env))) _ _ s
  refine Calls.spliced_cons ?_
  refine Call_ (ld_blt I hg hm boot_reversed (PyProof.Rows.callWith_type1 (thn (ha pos2 pins s σ H _ I h) fun us s1 ⟨vs,H1,I1,r1,q1⟩=>?_) (star_cons hs) rfl))
  obtain ⟨l,xs,e,hq,q⟩:=q1
  subst e
  obtain ⟨u,rfl,rx⟩:=vals1 r1
  cases rx
  obtain ⟨its,rv,pl0,hz⟩:=I1.list hq
  have pl:=pl0.isList
  have hl:=rv.length
  refine call_reversed_list pl ?_
  have hr:(s1.heap.push (revObj l ((its.toArray.size:Int) - 1))).IsRevIter s1.heap.objs.size l ((its.toArray.size:Int) - 1):=⟨_,Heap.get?_push_size _ rfl,rfl,rfl⟩
  have pl1:=pl.push (revObj l ((its.toArray.size:Int) - 1))
  have hlt:l < s1.heap.objs.size:=let ⟨_,ho,_⟩:=pl; Heap.lt_size ho
  refine Calls.spliced_nil ?_
  refine call_list_lri (s:={ s1 with heap:=s1.heap.push (revObj l ((its.toArray.size:Int) - 1)) }) (I1.ok.hd hc) hr pl1 (by rw [List.size_toArray]; omega) (Nat.ne_of_lt hlt) fun h' tk' acc c hk hS hacc=>?_
  have hsz:(s1.heap.push (revObj l ((its.toArray.size:Int) - 1))).objs.size=s1.heap.objs.size + 1:=by simp [Heap.push]
  obtain ⟨a1,a2⟩:=hacc
  have al:acc.toList.length=acc.size:=Array.length_toList
  have a1':acc.size=its.length:=a1
  rw [List.size_toArray] at a2
  refine ⟨.ref _,_,I1.laid (t':=tk') (fun b o e=>hk b o (Nat.ne_of_lt (Heap.lt_size e)) (Heap.get?_push_of_some _ e)) (by show s1.heap.objs.size<=_; rw [hsz]; omega) (show ObjOk X.prog X.w _ h' _ (.lst xs.reverse) from ⟨by rw [List.length_reverse]; exact hz,acc.toList,c,?_,by rw [Array.toArray_toList]; exact hS⟩),rfl,q _ (I1.hok.fresh (by show s1.heap.objs.size<=_; rw [hsz]; omega))⟩
  refine vals_all (by rw [List.length_reverse,al]; omega) fun j x v h1 h2=>?_
  have hj:j < xs.length:=by
    have:=(List.getElem?_eq_some_iff.mp h1).1
    rwa [List.length_reverse] at this
  have e2:=a2 j v (by rw [<- Array.getElem?_toList]; exact h2)
  rw [List.getElem?_reverse hj] at h1
  obtain ⟨u,hu,ru⟩:=rv.get h1
  rw [List.getElem?_toArray,show its.length - 1 - j=xs.length - 1 - j by omega,hu] at e2
  cases e2
  exact ru
theorem je_listL {a:Expr} {ta:TA} {p p2 pos pos2:Pos} (hc:X.calm=true) (hg1:Gl X "list") (hm1:X.mg "list"=none) (hg:Gl X "reversed") (hm:X.mg "reversed"=none) (ha:jA X [a] ta) (hs:isStar a=false:=by rfl) :
    jE X (.Call (.Name "list" p) [.Call (.Name "reversed" p2) [a] [] pos2] [] pos) (tListL X.K ta):=⟨pe_listL hc hg1 hm1 hg hm ha.out hs⟩
end
end L2
namespace GN
open PySem L2 K11
inductive Task (nil cons w0 w1:Str) (i:Int):Nat->List (List V)->List Str->List V->Prop
  | fold (xs:List Int) (a:Int):(∀ x∈xs,Sm x)->xs.length<=148->Sm a->Task nil cons w0 w1 i 0 [rowP nil cons xs,[.int a]] (foldE w0 xs a) [.int (foldS w0 xs a)]
  | turn (xs ys:List Int):(∀ x∈xs,Sm x)->xs.length<=148->(∀ x∈ys,Sm x)->ys.length<=4->Task nil cons w0 w1 i 1 [rowP nil cons xs,rowP nil cons ys] (calls xs.length) (rowP nil cons (xs.reverse ++ ys))
  | map (xs:List Int):(∀ x∈xs,Sm x)->xs.length<=148->Task nil cons w0 w1 i 2 [rowP nil cons xs] (mapE w1 i xs) (rowP nil cons (mapS w1 i xs))
  | three (xs:List Int) (a:Int):(∀ x∈xs,Sm x)->xs.length<=148->Sm a->Task nil cons w0 w1 i 3 [rowP nil cons xs,[.int a]] ("call" :: (mapE w1 i xs ++ (calls (2 + (mapS w1 i xs).length) ++ foldE w0 (mapS w1 i xs).reverse a))) [.int (foldS w0 (mapS w1 i xs).reverse a)]
  | down (m:Nat):m<=2499->Task nil cons w0 w1 i 4 [[.int (m:Nat)]] (calls m) [.int ((tri m:Nat):Int)]
theorem mapS_len {w:Str} {i:Int}:∀ xs:List Int,(mapS w i xs).length<=xs.length
  | []=>Nat.le_refl _
  | x :: r=>by
    have:=mapS_len (w:=w) (i:=i) r
    rw [mapS]
    split
    · rw [List.length_cons,List.length_cons]; omega
    · exact Nat.zero_le _
theorem mapE_len {w:Str} {i:Int}:∀ xs:List Int,(mapE w i xs).length<=xs.length
  | []=>Nat.le_refl _
  | x :: r=>by
    have:=mapE_len (w:=w) (i:=i) r
    rw [mapE]
    split
    · rw [List.length_cons,List.length_cons]; omega
    · rw [List.length_cons,List.length_cons]; exact Nat.succ_le_succ (Nat.zero_le _)
theorem foldE_len {w:Str}:∀ (xs:List Int) (a:Int),(foldE w xs a).length<=xs.length
  | [],a=>Nat.le_refl _
  | x :: r,a=>by
    have:=foldE_len (w:=w) r (K31.res w a x)
    rw [foldE]
    split
    · rw [List.length_cons,List.length_cons]; omega
    · rw [List.length_cons,List.length_cons]; exact Nat.succ_le_succ (Nat.zero_le _)
theorem mapS_sm {w:Str} {i:Int}:∀ xs:List Int,∀ y∈mapS w i xs,Sm y
  | [],y,h=>by cases h
  | x :: r,y,h=>by
    rw [mapS] at h
    split at h
    · rename_i c
      rcases List.mem_cons.mp h with rfl | h
      · exact fw_sm c
      · exact mapS_sm r y h
    · cases h
theorem tri2:∀ m:Nat,2 * tri m=m * (m + 1)
  | 0=>rfl
  | m + 1=>by
    have h1:=tri2 m
    show 2 * (tri m + (m + 1))=(m + 1) * (m + 1 + 1)
    have e:(m + 1) * (m + 1 + 1)=m * (m + 1) + 2 * (m + 1):=by rw [Nat.mul_comm,<- Nat.add_mul]
    omega
theorem tri_div (m:Nat):((m:Nat):Int) * (((m:Nat):Int) + 1) / 2=((tri m:Nat):Int):=by
  have h:=tri2 m
  have e:((m:Nat):Int) * (((m:Nat):Int) + 1)=2 * ((tri m:Nat):Int):=by
    have:((m * (m + 1):Nat):Int)=((2 * tri m:Nat):Int):=by rw [h]
    rw [Int.natCast_mul,Int.natCast_mul] at this
    exact this
  rw [e]
  omega
theorem rep_calls (n:Nat):(List.replicate n [V.str "call"]).flatten=sts (calls n):=by
  unfold sts calls
  induction n with
  | zero=>rfl
  | succ n ih=>rw [List.replicate_succ,List.replicate_succ,List.flatten_cons,ih]; rfl
theorem Task.len {nil cons w0 w1:Str} {i:Int} {n:Nat} {xss:List (List V)} {es:List Str} {f:List V} (h:Task nil cons w0 w1 i n xss es f):es.length<=3000:=by
  cases h with
  | fold xs a h1 h2 h3=>have:=foldE_len (w:=w0) xs a; omega
  | turn xs ys h1 h2 h3 h4=>rw [calls_len]; omega
  | map xs h1 h2=>have:=mapE_len (w:=w1) (i:=i) xs; omega
  | three xs a h1 h2 h3 =>
    have a1:=mapE_len (w:=w1) (i:=i) xs
    have a2:=mapS_len (w:=w1) (i:=i) xs
    have a3:=foldE_len (w:=w0) (mapS w1 i xs).reverse a
    rw [List.length_reverse] at a3
    rw [List.length_cons,List.length_append,List.length_append,calls_len]
    omega
  | down m h=>rw [calls_len]; omega
def Lss (H:Hp) (ls:List Addr) (xss:List (List V)):Prop:=ls.length=xss.length/\∀ (j:Nat) l xs,ls[j]?=some l->xss[j]?=some xs->H l=some (.lst xs)
theorem lss1 {H:Hp} {l:Addr} {xs:List V} (h:H l=some (.lst xs)):Lss H [l] [xs]:=⟨rfl,fun j a b h1 h2=>by
  cases j with
  | zero=>cases h1; cases h2; exact h
  | succ j=>simp at h1⟩
theorem lss2 {H:Hp} {l m:Addr} {xs ys:List V} (h:H l=some (.lst xs)) (g:H m=some (.lst ys)):Lss H [l,m] [xs,ys]:=⟨rfl,fun j a b h1 h2=>by
  match j with
  | 0=>cases h1; cases h2; exact h
  | 1=>cases h1; cases h2; exact g
  | j + 2=>simp at h1⟩
def spTask (K:PySem.W.Frag):Sp:=fun vs H Q _=>∃ (st wl:Addr) (B way:Nat) (i:Int) (nil cons w0 w1:Str),vs=[.ref st,.int (way:Nat),.ref wl,.int i,.str nil,.str cons]/\way < 5/\Sta K H st B/\B + 1000 < LIM/\H wl=some (.lst [.str w0,.str w1])/\w0∈W7/\w1∈W7/\Sm i /\
  ∀ (H':Hp) (p la ev pp:Addr) (ls:List Addr) (xss:List (List V)) (es:List Str) (f:List V),Kp st H H'->Sta K H' st (B + 400)->H' p=some (.tup [.ref la,.ref ev,.ref pp])->H' la=some (.lst (ls.map V.ref))->Lss H' ls xss->H' ev=some (.lst (sts es))->H' pp=some (.lst f)->Task nil cons w0 w1 i way xss es f->Q (.ref p) H'
theorem sameKx {ev:Addr} {H H1 H2:Hp} (s:Same H H1) (h:H ev=none) (x:KX [ev] H1 H2):Same H H2:=fun b o q=>x b o (fun z=>by
  rw [List.mem_singleton.mp z,h] at q
  cases q) (s b o q)
section
variable {P:Program} {w:World} {K:PySem.W.Frag} {mg:Str->Option Value} {base:Heap} {f:Addr} {fd:FuncData}
theorem scTask:FnScope ["_law_state","_law_way","_law_words","_law_number_here","_law_nil","_law_cons","_law_row_here","_law_acc","_law_other","_law_parts_here","_law_events","_law_some","_law_many","_law_far"] ["_law_state","_law_way","_law_words","_law_number_here","_law_nil","_law_cons"] (defScope sTask):=⟨rfl,rfl,rfl,by decide +kernel,rfl,by decide +kernel,by decide +kernel⟩
theorem ndTask:(["_law_state","_law_way","_law_words","_law_number_here","_law_nil","_law_cons","_law_row_here","_law_acc","_law_other","_law_parts_here","_law_events","_law_some","_law_many","_law_far","_law_k"]:List Str).Nodup:=by decide +kernel
theorem ok_task (F:Fun K "_law_task" "_law_task" sTask f fd) (GD:Ca P w K mg base CX0 1 "_law_draw" ["_law_state","_law_many"] (spDraw K)) (GN:Ca P w K mg base CX0 2 "_law_number" ["_law_state"] (spNumber K)) (GR:Ca P w K mg base CX0 3 "_law_row" ["_law_state"] (spRowL K)) (GP:Ca P w K mg base CX0 1 "_law_parts" ["_law_row_here","_law_nil","_law_cons"] spRowP) (GM:Ca P w K mg base CX0 2 "_law_map" ["_law_row_here","_law_word","_law_number_here","_law_events"] spMapL) (GF:Ca P w K mg base CX0 2 "_law_fold" ["_law_row_here","_law_word","_law_acc","_law_events"] spFoldL) (m_range:mg "range"=none) (m_len:mg "len"=none) (m_list:mg "list"=none) (m_reversed:mg "reversed"=none):FnOk P w K mg base CX0 4 f fd ["_law_state","_law_way","_law_words","_law_number_here","_law_nil","_law_cons"] (spTask K):=by
  refine F.by scTask (fun vs H Q E h=>?_) (fun cdv A outer s H vs Q E hr h=>?_)
  · obtain ⟨st,wl,B,way,i,nil,cons,w0,w1,rfl,_⟩:=h
    rfl
  obtain ⟨st,wl,B,way,i,nil,cons,w0,w1,rfl,hway,S0,hB,hwl,hw0,hw1,si,q⟩:=h
  have r1:Room 1 _:=hr.mono (by decide)
  have r2:Room 2 _:=hr.mono (by decide)
  have r3:Room 3 _:=hr.mono (by decide)
  refine ⟨_,
    (jss_cons (js_set (i:=6) scTask.nd rfl (Or.inl rfl) (je_ca GR r3 rfl pass0 (ja_c (jv 0) ja_nil)))
    (jss_cons (js_set (i:=7) scTask.nd rfl (Or.inl rfl) (je_lst (ja_c (je_ca GN r2 rfl pass0 (ja_c (jv 0) ja_nil)) ja_nil)))
    (jss_cons (js_if (jt_cmpR jo_eq (jv 1) je_int (nomark _)) 
      (jss_cons (js_comp ["_law_k"] (i:=8) scTask.nd rfl (Or.inl rfl) rfl (ji_range1 rfl m_range (ja_c (je_ca GD r1 rfl pass0 (ja_c (jv 0) (ja_c je_int ja_nil))) ja_nil)) (fun _ _ _ _ _=>(jg_name (i:=14) ndTask rfl (Or.inl rfl))) (fun _ _ _ _ _=>jts_nil) (fun _ _ _ _ _=>(je_ca GD r1 rfl pass0 (ja_c (jv 0) (ja_c je_int ja_nil)))))
      (jss_cons (js_set (i:=9) scTask.nd rfl (Or.inl rfl) (je_ca GP r1 rfl pass0 (ja_c (je_op jo_cat (je_listL rfl rfl m_list rfl m_reversed (ja_c (jv 6) ja_nil)) (jv 8)) (ja_c (jv 4) (ja_c (jv 5) ja_nil)))))
      (jss_one (js_ret (je_tup (ja_c (je_lst (ja_c (je_ca GP r1 rfl pass0 (ja_c (jv 6) (ja_c (jv 4) (ja_c (jv 5) ja_nil)))) (ja_c (je_ca GP r1 rfl pass0 (ja_c (jv 8) (ja_c (jv 4) (ja_c (jv 5) ja_nil)))) ja_nil))) (ja_c (je_op jo_rep (je_lst (ja_c je_str ja_nil)) (je_fnB jc_len_seq rfl m_len PySem.boot_len (ja_c (jv 6) ja_nil))) (ja_c (jv 9) ja_nil))))))))  jss_nil)
    (jss_cons (js_set (i:=10) scTask.nd rfl (Or.inl rfl) (je_lst ja_nil))
    (jss_cons (js_if (jt_cmpR jo_eq (jv 1) je_int (nomark _)) 
      (jss_one (js_ret (je_tup (ja_c (je_lst (ja_c (je_ca GP r1 rfl pass0 (ja_c (jv 6) (ja_c (jv 4) (ja_c (jv 5) ja_nil)))) (ja_c (jv 7) ja_nil))) (ja_c (jv 10) (ja_c (je_lst (ja_c (je_ca GF r2 rfl pass0 (ja_c (jv 6) (ja_c (je_ix jx_list (jv 2) je_int (fun _ _=>rfl)) (ja_c (je_ix jx_list (jv 7) je_int (fun _ _=>rfl)) (ja_c (jv 10) ja_nil))))) ja_nil)) ja_nil))))))  jss_nil)
    (jss_cons (js_if (jt_cmpR jo_eq (jv 1) je_int (nomark _)) 
      (jss_cons (js_set (i:=11) scTask.nd rfl (Or.inl rfl) (je_ca GM r2 rfl pass0 (ja_c (jv 6) (ja_c (je_ix jx_list (jv 2) je_int (fun _ _=>rfl)) (ja_c (jv 3) (ja_c (jv 10) ja_nil))))))
      (jss_one (js_ret (je_tup (ja_c (je_lst (ja_c (je_ca GP r1 rfl pass0 (ja_c (jv 6) (ja_c (jv 4) (ja_c (jv 5) ja_nil)))) ja_nil)) (ja_c (jv 10) (ja_c (je_ca GP r1 rfl pass0 (ja_c (jv 11) (ja_c (jv 4) (ja_c (jv 5) ja_nil)))) ja_nil)))))))  jss_nil)
    (jss_cons (js_if (jt_cmpR jo_eq (jv 1) je_int (nomark _)) 
      (jss_cons (js_expr (je_bm PySem.F.plainAttrs_list PySem.F.slot_list_append PySem.F.type_list_append jm_append (jv 10) (ja_c je_str ja_nil)))
      (jss_cons (js_set (i:=11) scTask.nd rfl (Or.inl rfl) (je_ca GM r2 rfl pass0 (ja_c (jv 6) (ja_c (je_ix jx_list (jv 2) je_int (fun _ _=>rfl)) (ja_c (jv 3) (ja_c (jv 10) ja_nil))))))
      (jss_cons (js_expr (je_bm PySem.F.plainAttrs_list PySem.F.slot_list_extend PySem.F.type_list_extend jm_extend (jv 10) (ja_c (je_op jo_rep (je_lst (ja_c je_str ja_nil)) (je_op jo_add je_int (je_fnB jc_len_seq rfl m_len PySem.boot_len (ja_c (jv 11) ja_nil)))) ja_nil)))
      (jss_cons (js_expr (je_bm0 PySem.F.plainAttrs_list PySem.F.slot_list_reverse PySem.F.type_list_reverse jm_reverse (jv 11)))
      (jss_one (js_ret (je_tup (ja_c (je_lst (ja_c (je_ca GP r1 rfl pass0 (ja_c (jv 6) (ja_c (jv 4) (ja_c (jv 5) ja_nil)))) (ja_c (jv 7) ja_nil))) (ja_c (jv 10) (ja_c (je_lst (ja_c (je_ca GF r2 rfl pass0 (ja_c (jv 11) (ja_c (je_ix jx_list (jv 2) je_int (fun _ _=>rfl)) (ja_c (je_ix jx_list (jv 7) je_int (fun _ _=>rfl)) (ja_c (jv 10) ja_nil))))) ja_nil)) ja_nil))))))))))  jss_nil)
    (jss_cons (js_set (i:=12) scTask.nd rfl (Or.inl rfl) (je_fnB jc_len_seq rfl m_len PySem.boot_len (ja_c (jv 6) ja_nil)))
    (jss_cons (js_set (i:=13) scTask.nd rfl (Or.inl rfl) (je_ca GD r1 rfl pass0 (ja_c (jv 0) (ja_c je_int ja_nil))))
    (jss_cons (js_if (jt_cmpR jo_eq (jv 13) je_int (nomark _)) 
      (jss_one (js_set (i:=12) scTask.nd rfl (Or.inl rfl) (je_ca GD r1 rfl pass0 (ja_c (jv 0) (ja_c je_int ja_nil)))))  jss_nil)
    (jss_cons (js_if (jt_cmpR jo_eq (jv 13) je_int (nomark _)) 
      (jss_one (js_set (i:=12) scTask.nd rfl (Or.inl rfl) (je_op jo_add je_int (je_ca GD r1 rfl pass0 (ja_c (jv 0) (ja_c je_int ja_nil))))))  jss_nil)
    (jss_one (js_ret (je_tup (ja_c (je_lst (ja_c (je_lst (ja_c (jv 12) ja_nil)) ja_nil)) (ja_c (je_op jo_rep (je_lst (ja_c je_str ja_nil)) (jv 12)) (ja_c (je_lst (ja_c (je_op jo_fdiv (je_op jo_mul (jv 12) (je_op jo_add (jv 12) je_int)) je_int) ja_nil)) ja_nil))))))))))))))))),?_⟩
  have sl:=line0
  have LM:LIM=4611686018427387904:=rfl
  refine ⟨_,rfl,st,B,rfl,S0,by omega,fun H1 row xs k1 S1 f1 hrow sx lx=>?_⟩
  refine ⟨_,rfl,st,B + 300,rfl,S1,by omega,fun H2 a k2 S2 sa=>⟨by show 1<=sizeLine; decide,fun la hla=>?_⟩⟩
  have nrow:row≠st:=S0.ne f1
  have n3:=same_new hla (.lst [.int a])
  have hla3:=upd_same (H:=H2) (a:=la) (o:=.lst [V.int a])
  have k3:Kp st H (upd H2 la (.lst [.int a])):=(k1.trans k2).trans (.of n3)
  have S3:=S2.same n3
  have hrow3:=n3 _ _ (k2.k _ _ nrow hrow)
  have nla:la≠st:=S2.ne hla
  have nlr:la≠row:=fun e=>by rw [e,k2.k _ _ nrow hrow] at hla; cases hla
  generalize upd H2 la (.lst [.int a])=H3 at *
  clear hla n3
  have nwl:wl≠st:=S0.neS (ts:=[w0,w1]) hwl
  have hwl3:=k3.k _ _ nwl hwl
  obtain rfl | rfl | rfl | rfl | rfl:way=1\/way=0\/way=2\/way=3\/way=4:=by omega
  · refine ⟨_,rfl,rfl,_,rfl,iteT' (by decide) ?_⟩
    refine ⟨_,rfl,st,5,B + 302,rfl,S3,by omega,by decide,fun H4 r k4 S4 r0 r5=>?_⟩
    refine ⟨_,rfl,by omega,by omega,lc_range (n:=r.toNat) (fun j τ ys H'=>Kp st H3 H'/\Sta K H' st (B + 303 + j)/\(∃ x,τ=[some (.ref st),some (.int (1:Nat)),some (.ref wl),some (.int i),some (.str nil),some (.str cons),some (.ref row),some (.ref la),none,none,none,none,none,none,x])/\∃ zs:List Int,ys=inz zs/\zs.length=j/\∀ z∈zs,Sm z) ⟨k4,S4,⟨none,rfl⟩,[],rfl,rfl,fun z hz=>by cases hz⟩ ?_ ?_⟩
    · rintro j τ ys H5 hj ⟨k5,S5,⟨x,rfl⟩,zs,rfl,hl,h1⟩
      refine ⟨_,rfl,st,9,B + 303 + j,rfl,S5,by omega,by decide,fun H6 r6 k6 S6 q0 q1=>?_⟩
      refine ⟨by rw [List.length_map]; omega,k5.trans k6,S6,⟨_,rfl⟩,zs ++ [r6],by rw [inz,inz,List.map_append]; rfl,by rw [List.length_append,hl]; rfl,fun y hy=>?_⟩
      rcases List.mem_append.mp hy with hy | hy
      · exact h1 y hy
      · rw [List.mem_singleton.mp hy]
        unfold Sm
        omega
    · rintro τ ys H5 ⟨k5,S5,_,zs,rfl,hl,h1⟩ oth hoth
      have n6:=same_new hoth (.lst (inz zs))
      have ho6:=upd_same (H:=H5) (a:=oth) (o:=.lst (inz zs))
      have k6:Kp st H (upd H5 oth (.lst (inz zs))):=(k3.trans k5).trans (.of n6)
      have S6:=S5.same n6
      have hrow6:=n6 _ _ (k5.k _ _ nrow hrow3)
      generalize upd H5 oth (.lst (inz zs))=H6 at *
      refine ⟨_,rfl,row,_,rfl,SqL.of hrow6,fun rv hrv=>⟨_,rfl,rv,oth,_,_,rfl,rfl,upd_same,old hrv ho6,by rw [List.length_reverse,List.length_map,List.length_map]; omega,fun ct hct=>⟨_,rfl,_,rfl,ct,nil,cons,xs.reverse ++ zs,rfl,by rw [upd_same,inz,inz,inz,List.map_append,List.map_reverse],by rw [List.length_append,List.length_reverse]; omega,fun H7 l9 s7 f7 h9=>?_⟩⟩⟩
      have n7:Same H6 H7:=((same_new hrv (.lst (inz xs).reverse)).new hct).trans s7
      refine ⟨_,rfl,_,rfl,_,rfl,row,nil,cons,xs,rfl,n7 _ _ hrow6,by omega,fun H8 lA s8 f8 hA=>⟨_,rfl,_,rfl,_,rfl,oth,nil,cons,zs,rfl,s8 _ _ (n7 _ _ ho6),by omega,fun H9 lB s9 f9 hB9=>⟨by show 2<=sizeLine; decide,fun l1 hl1=>⟨by show 1<=sizeLine; decide,fun lc hlc=>⟨_,rfl,row,_,rfl,.inl (SqL.of (old hlc (old hl1 (s9 _ _ (s8 _ _ (n7 _ _ hrow6)))))),lc,_,_,rfl,rfl,upd_same,by rw [List.length_map]; omega,by rw [List.length_map]; omega,by rw [List.length_map,show ([V.str "call"]:List V).length=1 from rfl]; omega,fun le hle=>⟨_,rfl,by show 3<=sizeLine; decide,fun p hp=>?_⟩⟩⟩⟩⟩⟩
      have nf:Same H9 _:=(((same_new hl1 (.lst [.ref lA,.ref lB])).new (o:=.lst [.str "call"]) hlc).new (o:=.lst (List.replicate (((inz xs).length:Nat):Int).toNat [V.str "call"]).flatten) hle).new (o:=.tup [.ref l1,.ref le,.ref l9]) hp
      refine q _ p l1 le l9 [lA,lB] _ _ _ ((k6.trans (.of (n7.trans (s8.trans s9)))).trans (.of nf)) ((S6.same (n7.trans (s8.trans s9))).same nf |>.mono (by omega)) upd_same (old hp (old hle (old hlc upd_same))) (lss2 (nf _ _ (s9 _ _ hA)) (nf _ _ hB9)) ?_ (nf _ _ (s9 _ _ (s8 _ _ h9))) (.turn xs zs sx lx h1 (by omega))
      rw [old hp upd_same,List.length_map,show (((xs.length:Nat):Int)).toNat=xs.length from rfl,rep_calls]
  · refine ⟨_,rfl,rfl,_,rfl,iteF' (by decide) (nxt ⟨by show 0<=sizeLine; decide,fun ev hev=>?_⟩)⟩
    have n4:=same_new hev (.lst [])
    have he4:upd H3 ev (.lst []) ev=some (.lst (sts [])):=upd_same
    have nrev:row≠ev:=fun e=>by rw [<- e,hrow3] at hev; cases hev
    refine ⟨_,rfl,rfl,_,rfl,iteT' (by decide) ?_⟩
    refine ⟨_,rfl,_,rfl,_,rfl,row,nil,cons,xs,rfl,n4 _ _ hrow3,by omega,fun H5 lA s5 f5 hA=>⟨_,rfl,by show 2<=sizeLine; decide,fun l1 hl1=>?_⟩⟩
    have n5:=n4.trans s5
    have n6:Same H5 (upd H5 l1 (.lst [.ref lA,.ref la])):=same_new hl1 _
    have hl16:=upd_same (H:=H5) (a:=l1) (o:=.lst [.ref lA,.ref la])
    generalize upd H5 l1 (.lst [.ref lA,.ref la])=H6 at *
    have n36:=n5.trans n6
    refine ⟨_,rfl,_,rfl,_,rfl,wl,_,_,_,rfl,rfl,SqL.of (n36 _ _ hwl3),rfl,_,rfl,la,_,_,_,rfl,rfl,SqL.of (n36 _ _ hla3),rfl,_,rfl,row,ev,w0,a,xs,[],rfl,n36 _ _ hrow3,n6 _ _ (s5 _ _ he4),nrev,hw0,sa,sx,by omega,by show 0<=9000; decide,fun H7 k7 he7=>⟨by show 1<=sizeLine; decide,fun lp hlp=>⟨by show 3<=sizeLine; decide,fun p hp=>?_⟩⟩⟩
    have n37:Same H3 H7:=sameKx n36 hev k7
    have nf:Same H7 _:=(same_new hlp (.lst [.int (foldS w0 xs a)])).new (o:=.tup [.ref l1,.ref ev,.ref lp]) hp
    have ne1:∀ {z:Addr} {o:HO},H6 z=some o->z≠ev->H7 z=some o:=fun h n=>k7 _ _ (fun e=>n (List.mem_singleton.mp e)) h
    have nA:lA≠ev:=fun e=>by rw [e,he4] at f5; cases f5
    have n1:l1≠ev:=fun e=>by rw [e,s5 _ _ he4] at hl1; cases hl1
    exact q _ p l1 ev lp [lA,la] _ _ _ ((k3.trans (.of n37)).trans (.of nf)) ((S3.same n37).same nf |>.mono (by omega)) upd_same (nf _ _ (ne1 hl16 n1)) (lss2 (nf _ _ (ne1 (n6 _ _ hA) nA)) (nf _ _ (n37 _ _ hla3))) (nf _ _ he7) (old hp upd_same) (.fold xs a sx lx sa)
  · refine ⟨_,rfl,rfl,_,rfl,iteF' (by decide) (nxt ⟨by show 0<=sizeLine; decide,fun ev hev=>?_⟩)⟩
    have n4:=same_new hev (.lst [])
    have he4:upd H3 ev (.lst []) ev=some (.lst (sts [])):=upd_same
    have nrev:row≠ev:=fun e=>by rw [<- e,hrow3] at hev; cases hev
    refine ⟨_,rfl,rfl,_,rfl,iteF' (by decide) (nxt ⟨_,rfl,rfl,_,rfl,iteT' (by decide) ?_⟩)⟩
    refine ⟨_,rfl,_,rfl,wl,_,_,_,rfl,rfl,SqL.of (n4 _ _ hwl3),atI_nat (j:=1) rfl,_,rfl,_,rfl,row,ev,w1,i,xs,[],rfl,n4 _ _ hrow3,he4,nrev,hw1,si,sx,by omega,by show 0<=3000; decide,fun H5 lm k5 fm he5 hm5=>?_⟩
    have n5:Same H3 H5:=sameKx n4 hev k5
    have lm1:=mapS_len (w:=w1) (i:=i) xs
    refine ⟨_,rfl,_,rfl,_,rfl,row,nil,cons,xs,rfl,n5 _ _ hrow3,by omega,fun H6 lA s6 f6 hA=>⟨by show 1<=sizeLine; decide,fun l1 hl1=>⟨_,rfl,_,rfl,_,rfl,_,rfl,lm,nil,cons,_,rfl,old hl1 (s6 _ _ hm5),by omega,fun H7 lp s7 f7 hp7=>⟨by show 3<=sizeLine; decide,fun p hp=>?_⟩⟩⟩⟩
    have n57:Same H5 H7:=(s6.new hl1).trans s7
    have nf:=same_new hp (.tup [.ref l1,.ref ev,.ref lp])
    exact q _ p l1 ev lp [lA] _ _ _ ((k3.trans (.of (n5.trans n57))).trans (.of nf)) ((S3.same (n5.trans n57)).same nf |>.mono (by omega)) upd_same (nf _ _ (s7 _ _ upd_same)) (lss1 (nf _ _ (s7 _ _ (old hl1 hA)))) (nf _ _ (n57 _ _ he5)) (nf _ _ hp7) (.map xs sx lx)
  · refine ⟨_,rfl,rfl,_,rfl,iteF' (by decide) (nxt ⟨by show 0<=sizeLine; decide,fun ev hev=>?_⟩)⟩
    have n4:=same_new hev (.lst [])
    have he4:upd H3 ev (.lst []) ev=some (.lst []):=upd_same
    have nrev:row≠ev:=fun e=>by rw [<- e,hrow3] at hev; cases hev
    refine ⟨_,rfl,rfl,_,rfl,iteF' (by decide) (nxt ⟨_,rfl,rfl,_,rfl,iteF' (by decide) (nxt ⟨_,rfl,rfl,_,rfl,iteT' (by decide) ?_⟩)⟩)⟩
    refine ⟨_,rfl,.inl ⟨rfl,_,SqL.of he4⟩,ev,_,_,rfl,rfl,he4,by show 0 < sizeLine; decide,?_⟩
    have n5:Same H3 (upd (upd H3 ev (.lst [])) ev (.lst ([] ++ [.str "call"]))):=n4.put hev
    have he5:upd (upd H3 ev (.lst [])) ev (.lst ([] ++ [.str "call"])) ev=some (.lst (sts ["call"])):=upd_same
    generalize upd (upd H3 ev (.lst [])) ev (.lst ([] ++ [.str "call"]))=H5 at *
    refine ⟨_,rfl,_,rfl,wl,_,_,_,rfl,rfl,SqL.of (n5 _ _ hwl3),atI_nat (j:=1) rfl,_,rfl,_,rfl,row,ev,w1,i,xs,["call"],rfl,n5 _ _ hrow3,he5,nrev,hw1,si,sx,by omega,by show 1<=3000; decide,fun H6 lm k6 fm he6 hm6=>?_⟩
    have n6:Same H3 H6:=sameKx n5 hev k6
    have lm1:=mapS_len (w:=w1) (i:=i) xs
    have lm2:=mapE_len (w:=w1) (i:=i) xs
    have nme:lm≠ev:=fun e=>by rw [e,he5] at fm; cases fm
    have fm3:H3 lm=none:=n5.free fm
    refine ⟨_,rfl,.inl ⟨rfl,_,SqL.of he6⟩,by show 1<=sizeLine; decide,fun lc hlc=>⟨_,rfl,lm,_,rfl,.inl (SqL.of (old hlc hm6)),_,_,rfl,rfl,lc,_,_,rfl,rfl,upd_same,by rw [List.length_map]; omega,by rw [List.length_map]; omega,by rw [List.length_map,show ([V.str "call"]:List V).length=1 from rfl]; omega,fun lx' hlx=>?_⟩⟩
    have n7:=(same_new hlc (.lst [.str "call"])).new (o:=.lst (List.replicate ((2:Int) + (((inz (mapS w1 i xs)).length:Nat):Int)).toNat [V.str "call"]).flatten) hlx
    have elx:upd (upd H6 lc (.lst [.str "call"])) lx' (.lst (List.replicate ((2:Int) + (((inz (mapS w1 i xs)).length:Nat):Int)).toNat [V.str "call"]).flatten) lx'=some (.lst (sts (calls (2 + (mapS w1 i xs).length)))):=by
      rw [upd_same,List.length_map,show ((2:Int) + (((mapS w1 i xs).length:Nat):Int)).toNat=2 + (mapS w1 i xs).length by omega,rep_calls]
    generalize upd (upd H6 lc (.lst [.str "call"])) lx' (.lst (List.replicate ((2:Int) + (((inz (mapS w1 i xs)).length:Nat):Int)).toNat [V.str "call"]).flatten)=H7 at *
    refine ⟨ev,lx',_,_,rfl,rfl,n7 _ _ he6,elx,by rw [List.length_map,List.length_append,List.length_map,calls_len]; show 1 + _ + _<=_; omega,?_⟩
    have he8:upd H7 ev (.lst (sts ([("call":Str)] ++ mapE w1 i xs) ++ sts (calls (2 + (mapS w1 i xs).length)))) ev=some (.lst (sts (([("call":Str)] ++ mapE w1 i xs) ++ calls (2 + (mapS w1 i xs).length)))):=by
      rw [upd_same,sts,sts,sts,List.map_append (l₁:=_ ++ _)]
    have n8:Same H3 (upd H7 ev (.lst (sts ([("call":Str)] ++ mapE w1 i xs) ++ sts (calls (2 + (mapS w1 i xs).length))))):=(n6.trans n7).put hev
    have hm8:upd H7 ev (.lst (sts ([("call":Str)] ++ mapE w1 i xs) ++ sts (calls (2 + (mapS w1 i xs).length)))) lm=some (.lst (inz (mapS w1 i xs))):=by
      rw [upd_ne nme]
      exact n7 _ _ hm6
    generalize upd H7 ev (.lst (sts ([("call":Str)] ++ mapE w1 i xs) ++ sts (calls (2 + (mapS w1 i xs).length))))=H8 at *
    refine ⟨_,rfl,.inl ⟨rfl,_,SqL.of hm8⟩,lm,_,rfl,rfl,hm8,?_⟩
    have n9:Same H3 (upd H8 lm (.lst (inz (mapS w1 i xs)).reverse)):=n8.put fm3
    have he9:upd H8 lm (.lst (inz (mapS w1 i xs)).reverse) ev=some (.lst (sts (([("call":Str)] ++ mapE w1 i xs) ++ calls (2 + (mapS w1 i xs).length)))):=by
      rw [upd_ne (Ne.symm nme)]
      exact he8
    have hm9:upd H8 lm (.lst (inz (mapS w1 i xs)).reverse) lm=some (.lst (inz (mapS w1 i xs).reverse)):=by
      rw [upd_same,inz,inz,List.map_reverse]
    generalize upd H8 lm (.lst (inz (mapS w1 i xs)).reverse)=H9 at *
    refine ⟨_,rfl,_,rfl,_,rfl,row,nil,cons,xs,rfl,n9 _ _ hrow3,by omega,fun H10 lA s10 f10 hA=>⟨_,rfl,by show 2<=sizeLine; decide,fun l1 hl1=>?_⟩⟩
    have nf0:Same H10 (upd H10 l1 (.lst [.ref lA,.ref la])):=same_new hl1 _
    have hl11:=upd_same (H:=H10) (a:=l1) (o:=.lst [.ref lA,.ref la])
    have nA:lA≠ev:=fun e=>by rw [e,he9] at f10; cases f10
    have n1:l1≠ev:=fun e=>by rw [e,s10 _ _ he9] at hl1; cases hl1
    generalize upd H10 l1 (.lst [.ref lA,.ref la])=H11 at *
    have n11:=(n9.trans s10).trans nf0
    refine ⟨_,rfl,_,rfl,_,rfl,wl,_,_,_,rfl,rfl,SqL.of (n11 _ _ hwl3),rfl,_,rfl,la,_,_,_,rfl,rfl,SqL.of (n11 _ _ hla3),rfl,_,rfl,lm,ev,w0,a,(mapS w1 i xs).reverse,_,rfl,nf0 _ _ (s10 _ _ hm9),nf0 _ _ (s10 _ _ he9),nme,hw0,sa,fun y hy=>mapS_sm xs y (List.mem_reverse.mp hy),by rw [List.length_reverse]; omega,by rw [List.length_append,List.length_append,calls_len]; show 1 + _ + _<=_; omega,fun H12 k12 he12=>⟨by show 1<=sizeLine; decide,fun lp hlp=>⟨by show 3<=sizeLine; decide,fun p hp=>?_⟩⟩⟩
    have n12:Same H3 H12:=sameKx n11 hev k12
    have nf:Same H12 _:=(same_new hlp (.lst [.int (foldS w0 (mapS w1 i xs).reverse a)])).new (o:=.tup [.ref l1,.ref ev,.ref lp]) hp
    have ne1:∀ {z:Addr} {o:HO},H11 z=some o->z≠ev->H12 z=some o:=fun h n=>k12 _ _ (fun e=>n (List.mem_singleton.mp e)) h
    refine q _ p l1 ev lp [lA,la] _ _ _ ((k3.trans (.of n12)).trans (.of nf)) ((S3.same n12).same nf |>.mono (by omega)) upd_same (nf _ _ (ne1 hl11 n1)) (lss2 (nf _ _ (ne1 (nf0 _ _ hA) nA)) (nf _ _ (n12 _ _ hla3))) (nf _ _ he12) (old hp upd_same) ?_
    rw [List.append_assoc,List.append_assoc]
    exact .three xs a sx lx sa
  · refine ⟨_,rfl,rfl,_,rfl,iteF' (by decide) (nxt ⟨by show 0<=sizeLine; decide,fun ev hev=>?_⟩)⟩
    have n4:=same_new hev (.lst [])
    have S4:=S3.same n4
    have k4:=k3.trans (.of n4)
    have hrow4:=n4 _ _ hrow3
    generalize upd H3 ev (.lst [])=H4 at *
    refine ⟨_,rfl,rfl,_,rfl,iteF' (by decide) (nxt ⟨_,rfl,rfl,_,rfl,iteF' (by decide) (nxt ⟨_,rfl,rfl,_,rfl,iteF' (by decide) (nxt ?_)⟩)⟩)⟩
    refine (show ∀ (u:TS) (D:Ends),(∀ (H6:Hp) (m:Nat) (v:Option V),Kp st H4 H6->Sta K H6 st (B + 304)->m<=2499->u D [some (.ref st),some (.int (4:Nat)),some (.ref wl),some (.int i),some (.str nil),some (.str cons),some (.ref row),some (.ref la),none,none,some (.ref ev),none,some (.int (m:Nat)),v] H6)->(tSeq _ (tSeq _ (tSeq _ (tSeq _ (tSeq _ u)))):TS) D [some (.ref st),some (.int (4:Nat)),some (.ref wl),some (.int i),some (.str nil),some (.str cons),some (.ref row),some (.ref la),none,none,some (.ref ev),none,none,none] H4 from ?key) _ _ ?rest
    case key =>
      intro u D hU
      refine ⟨_,rfl,row,_,rfl,.inl (SqL.of hrow4),?_⟩
      refine ⟨_,rfl,st,16,B + 302,rfl,S4,by omega,by decide,fun H5 far k5 S5 r0 r16=>?_⟩
      refine ⟨_,rfl,rfl,_,rfl,?_⟩
      by_cases c1:far=1
      · refine iteT' (decide_eq_true (by rw [c1])) ⟨_,rfl,st,900,B + 303,rfl,S5,by omega,by decide,fun H6 m k6 S6 m0 m1=>?_⟩
        refine ⟨_,rfl,rfl,_,rfl,iteF' (decide_eq_false fun z=>by cases (V.int.inj z); cases c1) (nxt ?_)⟩
        have:=hU H6 m.toNat (some (.int far)) (k5.trans k6) S6 (by omega)
        rw [show ((m.toNat:Nat):Int)=m by omega] at this
        exact this
      · refine iteF' (decide_eq_false fun z=>c1 (V.int.inj z)) (nxt ⟨_,rfl,rfl,_,rfl,?_⟩)
        by_cases c2:far=2
        · refine iteT' (decide_eq_true (by rw [c2])) ⟨_,rfl,st,1500,B + 303,rfl,S5,by omega,by decide,fun H6 m k6 S6 m0 m1=>⟨_,_,rfl,rfl,?_⟩⟩
          have:=hU H6 (1000 + m.toNat) (some (.int far)) (k5.trans k6) S6 (by omega)
          rw [show ((1000 + m.toNat:Nat):Int)=1000 + m by omega] at this
          exact this
        · refine iteF' (decide_eq_false fun z=>c2 (V.int.inj z)) (nxt ?_)
          have:=hU H5 xs.length (some (.int far)) k5 (S5.mono (by omega)) (by omega)
          rw [<- List.length_map (f:=V.int)] at this
          exact this
    case rest =>
      intro H6 m v k6 S6 hm
      refine ⟨_,rfl,by show 1<=sizeLine; decide,fun lA hA=>⟨by show 1<=sizeLine; decide,fun l1 h1=>⟨by show 1<=sizeLine; decide,fun lc hlc=>⟨_,rfl,lc,_,_,rfl,rfl,upd_same,by omega,by omega,by rw [show ([V.str "call"]:List V).length=1 from rfl]; omega,fun le hle=>⟨_,rfl,_,rfl,_,_,rfl,rfl,_,_,rfl,rfl,.inl ⟨by omega,by omega⟩,_,_,rfl,rfl,⟨by decide,by decide⟩,by show 1<=sizeLine; decide,fun lp hlp=>⟨by show 3<=sizeLine; decide,fun p hp=>?_⟩⟩⟩⟩⟩⟩
      have s1:=(((same_new hA (.lst [.int (m:Nat)])).new (o:=.lst [.ref lA]) h1).new (o:=.lst [.str "call"]) hlc).new (o:=.lst (List.replicate (((m:Nat):Int)).toNat [V.str "call"]).flatten) hle
      have s2:=(s1.new (o:=.lst [.int (((m:Nat):Int) * (((m:Nat):Int) + 1) / 2)]) hlp).new (o:=.tup [.ref l1,.ref le,.ref lp]) hp
      refine q _ p l1 le lp [lA] _ _ _ ((k4.trans k6).trans (.of s2)) ((S6.same s2).mono (by omega)) upd_same (old hp (old hlp (old hle (old hlc upd_same)))) (lss1 (old hp (old hlp (old hle (old hlc (old h1 upd_same)))))) ?_ ?_ (.down m hm)
      · rw [old hp (old hlp upd_same),show (((m:Nat):Int)).toNat=m from rfl,rep_calls]
      · rw [old hp upd_same,<- tri_div]
end
end GN
namespace GN
open PySem L2 K11
structure SV where
  P:V->Hp->Prop
  s:∀ v H H',Same H H'->P v H->P v H'
def sA (x:V):SV:=⟨fun v _=>v=x,fun _ _ _ _ h=>h⟩
def sAll:List SV->List V->Hp->Prop
  | [],[],_=>True
  | S :: Ss,v :: vs,H=>S.P v H/\sAll Ss vs H
  | _,_,_=>False
theorem sAll.same {H H':Hp} (e:Same H H'):∀ {Ss:List SV} {vs:List V},sAll Ss vs H->sAll Ss vs H'
  | [],[],_=>trivial
  | S :: Ss,v :: vs,h=>⟨S.s _ _ _ e h.1,sAll.same e h.2⟩
theorem sAll.len {H:Hp}:∀ {Ss:List SV} {vs:List V},sAll Ss vs H->vs.length=Ss.length
  | [],[],_=>rfl
  | S :: Ss,v :: vs,h=>by rw [List.length_cons,List.length_cons,sAll.len h.2]
def sT (Ss:List SV):SV:=⟨fun v H=>∃ p vs,v=.ref p/\H p=some (.tup vs)/\sAll Ss vs H,fun v H H' e ⟨p,vs,a,b,c⟩=>⟨p,vs,a,e _ _ b,c.same e⟩⟩
def Rd (σ:St) (H0:Hp) (t:TE) (S:SV):Prop:=∀ H,Same H0 H->∀ Q:VK,(∀ v H',Same H H'->S.P v H'->Q v H')->t σ H Q
def RdA (σ:St) (H0:Hp) (t:TA) (Ss:List SV):Prop:=∀ H,Same H0 H->∀ Q:List V->Hp->Prop,(∀ vs H',Same H H'->sAll Ss vs H'->Q vs H')->t σ H Q
section
variable {σ:St} {H0:Hp} {t te:TE} {ta tr:TA} {S S':SV} {Ss:List SV}
theorem rd_c {x:V}:Rd σ H0 (tC x) (sA x):=fun H _ Q q=>q x H (Same.refl _) rfl
theorem rd_v {i:Nat} {v:V} (h:S.P v H0) (e:σ[i]?=some (some v):=by rfl):Rd σ H0 (tVar i) S:=fun H s Q q=>⟨v,e,q v H (Same.refl _) (S.s _ _ _ s h)⟩
theorem rd_a {i:Nat} {v:V} (e:σ[i]?=some (some v):=by rfl):Rd σ H0 (tVar i) (sA v):=fun H s Q q=>⟨v,e,q v H (Same.refl _) rfl⟩
theorem rd_ix {K:PySem.W.Frag} {i:Nat} {k:Int} {p:Addr} {xs:List V} {v:V} (hp:H0 p=some (.lst xs)) (ha:atI xs k=some v) (e:σ[i]?=some (some (.ref p)):=by rfl):Rd σ H0 (tOp (rIxL K) (tVar i) (tC (.int k))) (sA v):=fun H s Q q=>⟨_,e,p,xs,k,v,rfl,rfl,SqL.of (s _ _ hp),ha,q v H (Same.refl _) rfl⟩
theorem rda_n:RdA σ H0 tNil []:=fun H _ Q q=>q [] H (Same.refl _) trivial
theorem rda_c (h:Rd σ H0 te S) (r:RdA σ H0 tr Ss):RdA σ H0 (tCons te tr) (S :: Ss):=fun H s Q q =>
  h H s _ fun v H1 s1 hv=>r H1 (s.trans s1) _ fun vs H2 s2 hvs=>q (v :: vs) H2 (s1.trans s2) ⟨S.s _ _ _ s2 hv,hvs⟩
theorem rd_tup (h:RdA σ H0 ta Ss) (l:Ss.length<=100:=by exact Nat.le_of_ble_eq_true rfl):Rd σ H0 (tTup ta) (sT Ss):=fun H s Q q =>
  h H s _ fun vs H1 s1 hvs=>⟨by rw [hvs.len]; have:=line0; omega,fun p hp=>q (.ref p) _ (s1.new hp) ⟨p,vs,rfl,upd_same,hvs.same (same_new hp _)⟩⟩
theorem Rd.mono (h:Rd σ H0 t S) (g:∀ v H,S.P v H->S'.P v H):Rd σ H0 t S':=fun H s Q q=>h H s Q fun v H' s' hv=>q v H' s' (g v H' hv)
theorem Rd.set {i:Nat} {u:TS} {D:Ends} {H:Hp} (h:Rd σ H t S) (k:∀ v H',Same H H'->S.P v H'->u D (σ.set i (some v)) H'):(tSeq (tAsg t (gName i)) u:TS) D σ H:=h H (Same.refl _) _ k
theorem Rd.ret {D:Ends} {H:Hp} (h:Rd σ H t S) (k:∀ v H',Same H H'->S.P v H'->D.rt v H'):(tRet t:TS) D σ H:=h H (Same.refl _) _ k
end
def sNs (ns:List Str):List SV:=ns.map fun n=>sA (.str n)
theorem sNs_eq {H:Hp}:∀ {ns:List Str} {vs:List V},sAll (sNs ns) vs H->vs=ns.map V.str
  | [],[],_=>rfl
  | n :: ns,v :: vs,h=>by rw [List.map_cons,<- sNs_eq h.2,show v=.str n from h.1]
def sB (b:Bd):SV:=⟨fun v H=>∃ p,v=.ref p/\IsBd H b p,fun _ _ _ e ⟨p,a,h⟩=>⟨p,a,h.keep (.of e)⟩⟩
def sD (d:Dx):SV:=⟨fun v H=>∃ p,v=.ref p/\IsDx H d p,fun _ _ _ e ⟨p,a,h⟩=>⟨p,a,h.keep (.of e)⟩⟩
def sArm (t:Str) (ns:List Str) (b:Bd):SV:=⟨fun v H=>∃ p q s,v=.ref p/\H p=some (.tup [.str t,.ref q,.ref s])/\H q=some (.tup (ns.map V.str))/\IsBd H b s,fun _ _ _ e ⟨p,q,s,a,h1,h2,h3⟩=>⟨p,q,s,a,e _ _ h1,e _ _ h2,h3.keep (.of e)⟩⟩
def sDef (a:Str × List Str × Bd):SV:=⟨fun v H=>∃ o pp pb,v=.ref o/\H o=some (.tup [.str a.1,.ref pp,.ref pb])/\H pp=some (.tup (a.2.1.map V.str))/\IsBd H a.2.2 pb,fun _ _ _ e ⟨p,q,s,b,h1,h2,h3⟩=>⟨p,q,s,b,e _ _ h1,e _ _ h2,h3.keep (.of e)⟩⟩
def armsS:Arms->List SV
  | .nil=>[]
  | .cons t ns b r=>sArm t ns b :: armsS r
theorem armsS_ok {H:Hp}:∀ {as:Arms} {vs:List V},sAll (armsS as) vs H->∃ ts:List Addr,vs=ts.map V.ref/\IsArms H as ts
  | .nil,[],_=>⟨[],rfl,rfl⟩
  | .cons t ns b r,v :: vs,⟨⟨p,q,s,e,h1,h2,h3⟩,h⟩=>by
    obtain ⟨ts,e',g⟩:=armsS_ok h
    exact ⟨p :: ts,by rw [e,e']; rfl,p,q,s,ts,rfl,h1,h2,h3,g⟩
theorem defsS_ok {H:Hp}:∀ {ds:Dfl} {vs:List V},sAll (ds.map sDef) vs H->∃ os:List Addr,vs=os.map V.ref/\IsDs H os ds
  | [],[],_=>⟨[],rfl,rfl,fun i o a h=>by simp at h⟩
  | d :: ds,v :: vs,⟨⟨o,pp,pb,e,h1,h2,h3⟩,h⟩=>by
    obtain ⟨os,e',l,g⟩:=defsS_ok h
    refine ⟨o :: os,by rw [e,e']; rfl,by rw [List.length_cons,List.length_cons,l],fun i o' a g1 g2=>?_⟩
    cases i with
    | zero=>cases g1; cases g2; exact ⟨pp,pb,h1,h2,h3⟩
    | succ i=>exact g i o' a (by simpa using g1) (by simpa using g2)
section
variable {σ:St} {H0:Hp} {tn tx tw tg tt td tb tc t1 t2:TE} {ta tns:TA}
theorem rd_give {x:Str} (h:Rd σ H0 tx (sA (.str x))):Rd σ H0 (tTup (tCons (tC (.str "give")) (tCons tx tNil))) (sB (.give x)) :=
  (rd_tup (rda_c rd_c (rda_c h rda_n))).mono fun v H hv=>by
    obtain ⟨p,vs,rfl,hp,h⟩:=hv
    match vs,h with
    | [a,b],⟨e1,e2,_⟩=>cases e1; cases e2; exact ⟨p,rfl,hp⟩
theorem rd_let {n:Str} {d:Dx} {b:Bd} (h1:Rd σ H0 tn (sA (.str n))) (h2:Rd σ H0 td (sD d)) (h3:Rd σ H0 tb (sB b)):Rd σ H0 (tTup (tCons (tC (.str "let")) (tCons tn (tCons td (tCons tb tNil))))) (sB (.lt n d b)) :=
  (rd_tup (rda_c rd_c (rda_c h1 (rda_c h2 (rda_c h3 rda_n))))).mono fun v H hv=>by
    obtain ⟨p,vs,rfl,hp,h⟩:=hv
    match vs,h with
    | [a,b,c,d],⟨e1,e2,⟨q,e3,g3⟩,⟨r,e4,g4⟩,_⟩=>cases e1; cases e2; cases e3; cases e4; exact ⟨p,rfl,q,r,hp,g3,g4⟩
theorem rd_if {x:Str} {b c:Bd} (h1:Rd σ H0 tx (sA (.str x))) (h2:Rd σ H0 tb (sB b)) (h3:Rd σ H0 tc (sB c)):Rd σ H0 (tTup (tCons (tC (.str "if")) (tCons tx (tCons tb (tCons tc tNil))))) (sB (.iff x b c)) :=
  (rd_tup (rda_c rd_c (rda_c h1 (rda_c h2 (rda_c h3 rda_n))))).mono fun v H hv=>by
    obtain ⟨p,vs,rfl,hp,h⟩:=hv
    match vs,h with
    | [a,b,c,d],⟨e1,e2,⟨q,e3,g3⟩,⟨r,e4,g4⟩,_⟩=>cases e1; cases e2; cases e3; cases e4; exact ⟨p,rfl,q,r,hp,g3,g4⟩
theorem rd_case {x:Str} {as:Arms} (h1:Rd σ H0 tx (sA (.str x))) (h2:RdA σ H0 ta (armsS as)) (l:(armsS as).length<=100:=by exact Nat.le_of_ble_eq_true rfl):Rd σ H0 (tTup (tCons (tC (.str "case")) (tCons tx (tCons (tTup ta) tNil)))) (sB (.cs x as)) :=
  (rd_tup (rda_c rd_c (rda_c h1 (rda_c (rd_tup h2 l) rda_n)))).mono fun v H hv=>by
    obtain ⟨p,vs,rfl,hp,h⟩:=hv
    match vs,h with
    | [a,b,c],⟨e1,e2,⟨q,us,e3,g3,g4⟩,_⟩ =>
      cases e1; cases e2; cases e3
      obtain ⟨ts,rfl,g⟩:=armsS_ok g4
      exact ⟨p,rfl,q,ts,hp,g3,g⟩
theorem rd_arm {t:Str} {ns:List Str} {b:Bd} (h1:Rd σ H0 tt (sA (.str t))) (h2:RdA σ H0 tns (sNs ns)) (h3:Rd σ H0 tb (sB b)) (l:(sNs ns).length<=100:=by exact Nat.le_of_ble_eq_true rfl):Rd σ H0 (tTup (tCons tt (tCons (tTup tns) (tCons tb tNil)))) (sArm t ns b) :=
  (rd_tup (rda_c h1 (rda_c (rd_tup h2 l) (rda_c h3 rda_n)))).mono fun v H hv=>by
    obtain ⟨p,vs,rfl,hp,h⟩:=hv
    match vs,h with
    | [a,b,c],⟨e1,⟨q,us,e3,g3,g4⟩,⟨r,e4,g5⟩,_⟩ =>
      cases e1; cases e3; cases e4
      rw [sNs_eq g4] at g3
      exact ⟨p,q,r,rfl,hp,g3,g5⟩
theorem rd_def {g:Str} {ps:List Str} {b:Bd} (h1:Rd σ H0 tt (sA (.str g))) (h2:RdA σ H0 tns (sNs ps)) (h3:Rd σ H0 tb (sB b)) (l:(sNs ps).length<=100:=by exact Nat.le_of_ble_eq_true rfl):Rd σ H0 (tTup (tCons tt (tCons (tTup tns) (tCons tb tNil)))) (sDef (g,ps,b)) :=
  (rd_arm h1 h2 h3 l).mono fun v H hv=>hv
theorem rd_num {i:Int} (h1:Rd σ H0 t1 (sA (.int i))):Rd σ H0 (tTup (tCons (tC (.str "num")) (tCons t1 tNil))) (sD (.dd (.num i))) :=
  (rd_tup (rda_c rd_c (rda_c h1 rda_n))).mono fun v H hv=>by
    obtain ⟨p,vs,rfl,hp,h⟩:=hv
    match vs,h with
    | [a,b],⟨e1,e2,_⟩=>cases e1; cases e2; exact ⟨p,rfl,hp⟩
theorem rd_op {w a b:Str} (h1:Rd σ H0 tw (sA (.str w))) (h2:Rd σ H0 t1 (sA (.str a))) (h3:Rd σ H0 t2 (sA (.str b))):Rd σ H0 (tTup (tCons (tC (.str "op")) (tCons tw (tCons t1 (tCons t2 tNil))))) (sD (.dd (.op w a b))) :=
  (rd_tup (rda_c rd_c (rda_c h1 (rda_c h2 (rda_c h3 rda_n))))).mono fun v H hv=>by
    obtain ⟨p,vs,rfl,hp,h⟩:=hv
    match vs,h with
    | [a,b,c,d],⟨e1,e2,e3,e4,_⟩=>cases e1; cases e2; cases e3; cases e4; exact ⟨p,rfl,hp⟩
theorem rd_make {t:Str} {ns:List Str} (h1:Rd σ H0 tt (sA (.str t))) (h2:RdA σ H0 tns (sNs ns)) (l:(sNs ns).length<=100:=by exact Nat.le_of_ble_eq_true rfl):Rd σ H0 (tTup (tCons (tC (.str "make")) (tCons tt (tCons (tTup tns) tNil)))) (sD (.dd (.mk t ns))) :=
  (rd_tup (rda_c rd_c (rda_c h1 (rda_c (rd_tup h2 l) rda_n)))).mono fun v H hv=>by
    obtain ⟨p,vs,rfl,hp,h⟩:=hv
    match vs,h with
    | [a,b,c],⟨e1,e2,⟨q,us,e3,g3,g4⟩,_⟩ =>
      cases e1; cases e2; cases e3
      rw [sNs_eq g4] at g3
      exact ⟨p,rfl,q,hp,g3⟩
theorem rd_call {g:Str} {ns:List Str} (h1:Rd σ H0 tt (sA (.str g))) (h2:RdA σ H0 tns (sNs ns)) (l:(sNs ns).length<=100:=by exact Nat.le_of_ble_eq_true rfl):Rd σ H0 (tTup (tCons (tC (.str "call")) (tCons tt (tCons (tTup tns) tNil)))) (sD (.call g ns)) :=
  (rd_tup (rda_c rd_c (rda_c h1 (rda_c (rd_tup h2 l) rda_n)))).mono fun v H hv=>by
    obtain ⟨p,vs,rfl,hp,h⟩:=hv
    match vs,h with
    | [a,b,c],⟨e1,e2,⟨q,us,e3,g3,g4⟩,_⟩ =>
      cases e1; cases e2; cases e3
      rw [sNs_eq g4] at g3
      exact ⟨p,rfl,q,hp,g3⟩
end
end GN
namespace GN
open PySem L2 K11
def defs36 (n0 n1 n2 n3 n4 n5 n6 nil cons w0 w1:Str) (i:Int):Dfl:=[(n0,[n0,n1],foldB n0 n1 n2 n3 n4 n5 n0 nil cons w0),(n1,[n0,n1],turnB n0 n1 n2 n3 n4 n5 n1 nil cons),(n2,[n0],mapB n0 n1 n2 n3 n4 n5 n6 n2 nil cons w1 i),(n3,[n0,n1],threeB n0 n1 n2 n3 n5 n6 n0 n1 n2 nil),(n4,[n0],downB n0 n2 n3 n4 n6 n4)]
def spDefs:Sp:=fun vs H Q _=>∃ (nl wl:Addr) (i:Int) (n0 n1 n2 n3 n4 n5 n6 nil cons w0 w1:Str),vs=[.ref nl,.str nil,.str cons,.ref wl,.int i]/\H nl=some (.lst [.str n0,.str n1,.str n2,.str n3,.str n4,.str n5,.str n6])/\H wl=some (.lst [.str w0,.str w1]) /\
  ∀ (H':Hp) (p:Addr) (ones:List Addr),Same H H'->H' p=some (.tup (ones.map V.ref))->IsDs H' ones (defs36 n0 n1 n2 n3 n4 n5 n6 nil cons w0 w1 i)->Q (.ref p) H'
section
variable {P:Program} {w:World} {K:PySem.W.Frag} {mg:Str->Option Value} {base:Heap} {f:Addr} {fd:FuncData}
theorem scDefs:FnScope ["_law_names","_law_nil","_law_cons","_law_words","_law_number_here","_law_row_here","_law_acc","_law_h","_law_t","_law_n","_law_r","_law_s","_law_done","_law_fold_here","_law_turn","_law_each","_law_bare","_law_three","_law_down"] ["_law_names","_law_nil","_law_cons","_law_words","_law_number_here"] (defScope sDefs):=⟨rfl,rfl,rfl,by decide +kernel,rfl,by decide +kernel,by decide +kernel⟩
theorem ok_defs (F:Fun K "_law_defs" "_law_defs" sDefs f fd):FnOk P w K mg base CX0 1 f fd ["_law_names","_law_nil","_law_cons","_law_words","_law_number_here"] spDefs:=by
  refine F.by scDefs (fun vs H Q E h=>?_) (fun cdv A outer s H vs Q E hr h=>?_)
  · obtain ⟨nl,wl,i,n0,n1,n2,n3,n4,n5,n6,nil,cons,w0,w1,rfl,_⟩:=h
    rfl
  obtain ⟨nl,wl,i,n0,n1,n2,n3,n4,n5,n6,nil,cons,w0,w1,rfl,hn,hw,q⟩:=h
  refine ⟨_,
    (jss_cons (js_asg (jv 0) (jg_lst rfl (jgs_cons (jg_name (i:=5) scDefs.nd rfl (Or.inl rfl)) (jgs_cons (jg_name (i:=6) scDefs.nd rfl (Or.inl rfl)) (jgs_cons (jg_name (i:=7) scDefs.nd rfl (Or.inl rfl)) (jgs_cons (jg_name (i:=8) scDefs.nd rfl (Or.inl rfl)) (jgs_cons (jg_name (i:=9) scDefs.nd rfl (Or.inl rfl)) (jgs_cons (jg_name (i:=10) scDefs.nd rfl (Or.inl rfl)) (jgs_cons (jg_name (i:=11) scDefs.nd rfl (Or.inl rfl)) jgs_nil)))))))))
    (jss_cons (js_set (i:=12) scDefs.nd rfl (Or.inl rfl) (je_tup (ja_c je_str (ja_c (jv 10) ja_nil))))
    (jss_cons (js_set (i:=13) scDefs.nd rfl (Or.inl rfl) (je_tup (ja_c je_str (ja_c (jv 9) (ja_c (je_tup (ja_c je_str (ja_c (je_ix jx_list (jv 3) je_int (fun _ _=>rfl)) (ja_c (jv 6) (ja_c (jv 7) ja_nil))))) (ja_c (je_tup (ja_c je_str (ja_c (jv 10) (ja_c (je_tup (ja_c je_str (ja_c (je_ix jx_list (jv 0) je_int (fun _ _=>rfl)) (ja_c (je_tup (ja_c (jv 8) (ja_c (jv 9) ja_nil))) ja_nil)))) (ja_c (jv 12) ja_nil))))) ja_nil))))))
    (jss_cons (js_set (i:=14) scDefs.nd rfl (Or.inl rfl) (je_tup (ja_c je_str (ja_c (jv 9) (ja_c (je_tup (ja_c je_str (ja_c (jv 2) (ja_c (je_tup (ja_c (jv 7) (ja_c (jv 6) ja_nil))) ja_nil)))) (ja_c (je_tup (ja_c je_str (ja_c (jv 10) (ja_c (je_tup (ja_c je_str (ja_c (je_ix jx_list (jv 0) je_int (fun _ _=>rfl)) (ja_c (je_tup (ja_c (jv 8) (ja_c (jv 9) ja_nil))) ja_nil)))) (ja_c (jv 12) ja_nil))))) ja_nil))))))
    (jss_cons (js_set (i:=15) scDefs.nd rfl (Or.inl rfl) (je_tup (ja_c je_str (ja_c (jv 10) (ja_c (je_tup (ja_c je_str (ja_c (je_ix jx_list (jv 0) je_int (fun _ _=>rfl)) (ja_c (je_tup (ja_c (jv 8) ja_nil)) ja_nil)))) (ja_c (je_tup (ja_c je_str (ja_c (jv 6) (ja_c (je_tup (ja_c je_str (ja_c (jv 2) (ja_c (je_tup (ja_c (jv 11) (ja_c (jv 10) ja_nil))) ja_nil)))) (ja_c (je_tup (ja_c je_str (ja_c (jv 6) ja_nil))) ja_nil))))) ja_nil))))))
    (jss_cons (js_set (i:=15) scDefs.nd rfl (Or.inl rfl) (je_tup (ja_c je_str (ja_c (jv 9) (ja_c (je_tup (ja_c je_str (ja_c (jv 4) ja_nil))) (ja_c (je_tup (ja_c je_str (ja_c (jv 11) (ja_c (je_tup (ja_c je_str (ja_c (je_ix jx_list (jv 3) je_int (fun _ _=>rfl)) (ja_c (jv 7) (ja_c (jv 9) ja_nil))))) (ja_c (jv 15) ja_nil))))) ja_nil))))))
    (jss_cons (js_set (i:=16) scDefs.nd rfl (Or.inl rfl) (je_tup (ja_c je_str (ja_c (jv 9) (ja_c (je_tup (ja_c je_str (ja_c (jv 1) (ja_c (je_tup ja_nil) ja_nil)))) (ja_c (je_tup (ja_c je_str (ja_c (jv 9) ja_nil))) ja_nil))))))
    (jss_cons (js_set (i:=17) scDefs.nd rfl (Or.inl rfl) (je_tup (ja_c je_str (ja_c (jv 10) (ja_c (je_tup (ja_c je_str (ja_c (je_ix jx_list (jv 0) je_int (fun _ _=>rfl)) (ja_c (je_tup (ja_c (jv 7) (ja_c (jv 8) ja_nil))) ja_nil)))) (ja_c (je_tup (ja_c je_str (ja_c (jv 11) (ja_c (je_tup (ja_c je_str (ja_c (je_ix jx_list (jv 0) je_int (fun _ _=>rfl)) (ja_c (je_tup (ja_c (jv 10) (ja_c (jv 6) ja_nil))) ja_nil)))) (ja_c (je_tup (ja_c je_str (ja_c (jv 11) ja_nil))) ja_nil))))) ja_nil))))))
    (jss_cons (js_set (i:=17) scDefs.nd rfl (Or.inl rfl) (je_tup (ja_c je_str (ja_c (jv 7) (ja_c (je_tup (ja_c je_str (ja_c (je_ix jx_list (jv 0) je_int (fun _ _=>rfl)) (ja_c (je_tup (ja_c (jv 5) ja_nil)) ja_nil)))) (ja_c (je_tup (ja_c je_str (ja_c (jv 8) (ja_c (je_tup (ja_c je_str (ja_c (jv 1) (ja_c (je_tup ja_nil) ja_nil)))) (ja_c (jv 17) ja_nil))))) ja_nil))))))
    (jss_cons (js_set (i:=18) scDefs.nd rfl (Or.inl rfl) (je_tup (ja_c je_str (ja_c (jv 8) (ja_c (je_tup (ja_c je_str (ja_c (je_ix jx_list (jv 0) je_int (fun _ _=>rfl)) (ja_c (je_tup (ja_c (jv 9) ja_nil)) ja_nil)))) (ja_c (je_tup (ja_c je_str (ja_c (jv 11) (ja_c (je_tup (ja_c je_str (ja_c je_str (ja_c (jv 8) (ja_c (jv 5) ja_nil))))) (ja_c (je_tup (ja_c je_str (ja_c (jv 11) ja_nil))) ja_nil))))) ja_nil))))))
    (jss_cons (js_set (i:=18) scDefs.nd rfl (Or.inl rfl) (je_tup (ja_c je_str (ja_c (jv 7) (ja_c (je_tup (ja_c je_str (ja_c je_int ja_nil))) (ja_c (je_tup (ja_c je_str (ja_c (jv 9) (ja_c (je_tup (ja_c je_str (ja_c je_str (ja_c (jv 5) (ja_c (jv 7) ja_nil))))) (ja_c (jv 18) ja_nil))))) ja_nil))))))
    (jss_one (js_ret (je_tup (ja_c (je_tup (ja_c (je_ix jx_list (jv 0) je_int (fun _ _=>rfl)) (ja_c (je_tup (ja_c (jv 5) (ja_c (jv 6) ja_nil))) (ja_c (je_tup (ja_c je_str (ja_c (jv 5) (ja_c (je_tup (ja_c (je_tup (ja_c (jv 1) (ja_c (je_tup ja_nil) (ja_c (je_tup (ja_c je_str (ja_c (jv 6) ja_nil))) ja_nil)))) (ja_c (je_tup (ja_c (jv 2) (ja_c (je_tup (ja_c (jv 7) (ja_c (jv 8) ja_nil))) (ja_c (jv 13) ja_nil)))) ja_nil))) ja_nil)))) ja_nil)))) (ja_c (je_tup (ja_c (je_ix jx_list (jv 0) je_int (fun _ _=>rfl)) (ja_c (je_tup (ja_c (jv 5) (ja_c (jv 6) ja_nil))) (ja_c (je_tup (ja_c je_str (ja_c (jv 5) (ja_c (je_tup (ja_c (je_tup (ja_c (jv 2) (ja_c (je_tup (ja_c (jv 7) (ja_c (jv 8) ja_nil))) (ja_c (jv 14) ja_nil)))) (ja_c (je_tup (ja_c (jv 1) (ja_c (je_tup ja_nil) (ja_c (je_tup (ja_c je_str (ja_c (jv 6) ja_nil))) ja_nil)))) ja_nil))) ja_nil)))) ja_nil)))) (ja_c (je_tup (ja_c (je_ix jx_list (jv 0) je_int (fun _ _=>rfl)) (ja_c (je_tup (ja_c (jv 5) ja_nil)) (ja_c (je_tup (ja_c je_str (ja_c (jv 5) (ja_c (je_tup (ja_c (je_tup (ja_c (jv 1) (ja_c (je_tup ja_nil) (ja_c (jv 16) ja_nil)))) (ja_c (je_tup (ja_c (jv 2) (ja_c (je_tup (ja_c (jv 7) (ja_c (jv 8) ja_nil))) (ja_c (jv 15) ja_nil)))) ja_nil))) ja_nil)))) ja_nil)))) (ja_c (je_tup (ja_c (je_ix jx_list (jv 0) je_int (fun _ _=>rfl)) (ja_c (je_tup (ja_c (jv 5) (ja_c (jv 6) ja_nil))) (ja_c (jv 17) ja_nil)))) (ja_c (je_tup (ja_c (je_ix jx_list (jv 0) je_int (fun _ _=>rfl)) (ja_c (je_tup (ja_c (jv 5) ja_nil)) (ja_c (je_tup (ja_c je_str (ja_c (jv 5) (ja_c (jv 18) (ja_c (je_tup (ja_c je_str (ja_c (jv 5) ja_nil))) ja_nil))))) ja_nil)))) ja_nil))))))))))))))))))),?_⟩
  have sl:=line0
  refine ⟨_,rfl,nl,_,rfl,SqL.of hn,rfl,_,_,rfl,_,_,rfl,_,_,rfl,_,_,rfl,_,_,rfl,_,_,rfl,_,_,rfl,rfl,?_⟩
  change (tSeq _ _:TS) _ [some (.ref nl),some (.str nil),some (.str cons),some (.ref wl),some (.int i),some (.str n0),some (.str n1),some (.str n2),some (.str n3),some (.str n4),some (.str n5),some (.str n6),none,none,none,none,none,none,none] H
  have hs:=Same.refl H
  refine Rd.set (S:=sB (.give n5)) (rd_give rd_a) fun v0 H0 s0 b0=>?_
  dsimp only [List.set]
  replace hs:=hs.trans s0
  replace hn:=s0 _ _ hn
  replace hw:=s0 _ _ hw
  refine Rd.set (S:=sB (.lt n4 (.dd (.op w0 n1 n2)) (.lt n5 (.call n0 [n3,n4]) (.give n5)))) (rd_let rd_a (rd_op (rd_ix hw (atI_nat (j:=0) rfl)) rd_a rd_a) (rd_let rd_a (rd_call (rd_ix hn (atI_nat (j:=0) rfl)) (rda_c rd_a (rda_c rd_a rda_n))) (rd_v b0))) fun v1 H1 s1 b1=>?_
  dsimp only [List.set]
  replace hs:=hs.trans s1
  replace hn:=s1 _ _ hn
  replace hw:=s1 _ _ hw
  replace b0:=(sB _).s _ _ _ s1 b0
  refine Rd.set (S:=sB (.lt n4 (.dd (.mk cons [n2,n1])) (.lt n5 (.call n1 [n3,n4]) (.give n5)))) (rd_let rd_a (rd_make rd_a (rda_c rd_a (rda_c rd_a rda_n))) (rd_let rd_a (rd_call (rd_ix hn (atI_nat (j:=1) rfl)) (rda_c rd_a (rda_c rd_a rda_n))) (rd_v b0))) fun v2 H2 s2 b2=>?_
  dsimp only [List.set]
  replace hs:=hs.trans s2
  replace hn:=s2 _ _ hn
  replace hw:=s2 _ _ hw
  replace b0:=(sB _).s _ _ _ s2 b0
  replace b1:=(sB _).s _ _ _ s2 b1
  refine Rd.set (S:=sB (.lt n5 (.call n2 [n3]) (.lt n1 (.dd (.mk cons [n6,n5])) (.give n1)))) (rd_let rd_a (rd_call (rd_ix hn (atI_nat (j:=2) rfl)) (rda_c rd_a rda_n)) (rd_let rd_a (rd_make rd_a (rda_c rd_a (rda_c rd_a rda_n))) (rd_give rd_a))) fun v3 H3 s3 b3=>?_
  dsimp only [List.set]
  replace hs:=hs.trans s3
  replace hn:=s3 _ _ hn
  replace hw:=s3 _ _ hw
  replace b0:=(sB _).s _ _ _ s3 b0
  replace b1:=(sB _).s _ _ _ s3 b1
  replace b2:=(sB _).s _ _ _ s3 b2
  refine Rd.set (S:=sB (.lt n4 (.dd (.num i)) (.lt n6 (.dd (.op w1 n2 n4)) (.lt n5 (.call n2 [n3]) (.lt n1 (.dd (.mk cons [n6,n5])) (.give n1)))))) (rd_let rd_a (rd_num rd_a) (rd_let rd_a (rd_op (rd_ix hw (atI_nat (j:=1) rfl)) rd_a rd_a) (rd_v b3))) fun v4 H4 s4 b4=>?_
  dsimp only [List.set]
  replace hs:=hs.trans s4
  replace hn:=s4 _ _ hn
  replace hw:=s4 _ _ hw
  replace b0:=(sB _).s _ _ _ s4 b0
  replace b1:=(sB _).s _ _ _ s4 b1
  replace b2:=(sB _).s _ _ _ s4 b2
  refine Rd.set (S:=sB (.lt n4 (.dd (.mk nil [])) (.give n4))) (rd_let rd_a (rd_make rd_a rda_n) (rd_give rd_a)) fun v5 H5 s5 b5=>?_
  dsimp only [List.set]
  replace hs:=hs.trans s5
  replace hn:=s5 _ _ hn
  replace hw:=s5 _ _ hw
  replace b0:=(sB _).s _ _ _ s5 b0
  replace b1:=(sB _).s _ _ _ s5 b1
  replace b2:=(sB _).s _ _ _ s5 b2
  replace b4:=(sB _).s _ _ _ s5 b4
  refine Rd.set (S:=sB (.lt n5 (.call n1 [n2,n3]) (.lt n6 (.call n0 [n5,n1]) (.give n6)))) (rd_let rd_a (rd_call (rd_ix hn (atI_nat (j:=1) rfl)) (rda_c rd_a (rda_c rd_a rda_n))) (rd_let rd_a (rd_call (rd_ix hn (atI_nat (j:=0) rfl)) (rda_c rd_a (rda_c rd_a rda_n))) (rd_give rd_a))) fun v6 H6 s6 b6=>?_
  dsimp only [List.set]
  replace hs:=hs.trans s6
  replace hn:=s6 _ _ hn
  replace hw:=s6 _ _ hw
  replace b0:=(sB _).s _ _ _ s6 b0
  replace b1:=(sB _).s _ _ _ s6 b1
  replace b2:=(sB _).s _ _ _ s6 b2
  replace b4:=(sB _).s _ _ _ s6 b4
  replace b5:=(sB _).s _ _ _ s6 b5
  refine Rd.set (S:=sB (.lt n2 (.call n2 [n0]) (.lt n3 (.dd (.mk nil [])) (.lt n5 (.call n1 [n2,n3]) (.lt n6 (.call n0 [n5,n1]) (.give n6)))))) (rd_let rd_a (rd_call (rd_ix hn (atI_nat (j:=2) rfl)) (rda_c rd_a rda_n)) (rd_let rd_a (rd_make rd_a rda_n) (rd_v b6))) fun v7 H7 s7 b7=>?_
  dsimp only [List.set]
  replace hs:=hs.trans s7
  replace hn:=s7 _ _ hn
  replace hw:=s7 _ _ hw
  replace b0:=(sB _).s _ _ _ s7 b0
  replace b1:=(sB _).s _ _ _ s7 b1
  replace b2:=(sB _).s _ _ _ s7 b2
  replace b4:=(sB _).s _ _ _ s7 b4
  replace b5:=(sB _).s _ _ _ s7 b5
  refine Rd.set (S:=sB (.lt n3 (.call n4 [n4]) (.lt n6 (.dd (.op "plus" n3 n0)) (.give n6)))) (rd_let rd_a (rd_call (rd_ix hn (atI_nat (j:=4) rfl)) (rda_c rd_a rda_n)) (rd_let rd_a (rd_op rd_c rd_a rd_a) (rd_give rd_a))) fun v8 H8 s8 b8=>?_
  dsimp only [List.set]
  replace hs:=hs.trans s8
  replace hn:=s8 _ _ hn
  replace hw:=s8 _ _ hw
  replace b0:=(sB _).s _ _ _ s8 b0
  replace b1:=(sB _).s _ _ _ s8 b1
  replace b2:=(sB _).s _ _ _ s8 b2
  replace b4:=(sB _).s _ _ _ s8 b4
  replace b5:=(sB _).s _ _ _ s8 b5
  replace b7:=(sB _).s _ _ _ s8 b7
  refine Rd.set (S:=sB (.lt n2 (.dd (.num 1)) (.lt n4 (.dd (.op "minus" n0 n2)) (.lt n3 (.call n4 [n4]) (.lt n6 (.dd (.op "plus" n3 n0)) (.give n6)))))) (rd_let rd_a (rd_num rd_c) (rd_let rd_a (rd_op rd_c rd_a rd_a) (rd_v b8))) fun v9 H9 s9 b9=>?_
  dsimp only [List.set]
  replace hs:=hs.trans s9
  replace hn:=s9 _ _ hn
  replace hw:=s9 _ _ hw
  replace b0:=(sB _).s _ _ _ s9 b0
  replace b1:=(sB _).s _ _ _ s9 b1
  replace b2:=(sB _).s _ _ _ s9 b2
  replace b4:=(sB _).s _ _ _ s9 b4
  replace b5:=(sB _).s _ _ _ s9 b5
  replace b7:=(sB _).s _ _ _ s9 b7
  refine Rd.ret (S:=sT ((defs36 n0 n1 n2 n3 n4 n5 n6 nil cons w0 w1 i).map sDef)) (rd_tup (rda_c (rd_def (rd_ix hn (atI_nat (j:=0) rfl)) (rda_c rd_a (rda_c rd_a rda_n)) (rd_case rd_a (rda_c (rd_arm rd_a rda_n (rd_give rd_a)) (rda_c (rd_arm rd_a (rda_c rd_a (rda_c rd_a rda_n)) (rd_v b1)) rda_n)))) (rda_c (rd_def (rd_ix hn (atI_nat (j:=1) rfl)) (rda_c rd_a (rda_c rd_a rda_n)) (rd_case rd_a (rda_c (rd_arm rd_a (rda_c rd_a (rda_c rd_a rda_n)) (rd_v b2)) (rda_c (rd_arm rd_a rda_n (rd_give rd_a)) rda_n)))) (rda_c (rd_def (rd_ix hn (atI_nat (j:=2) rfl)) (rda_c rd_a rda_n) (rd_case rd_a (rda_c (rd_arm rd_a rda_n (rd_v b5)) (rda_c (rd_arm rd_a (rda_c rd_a (rda_c rd_a rda_n)) (rd_v b4)) rda_n)))) (rda_c (rd_def (rd_ix hn (atI_nat (j:=3) rfl)) (rda_c rd_a (rda_c rd_a rda_n)) (rd_v b7)) (rda_c (rd_def (rd_ix hn (atI_nat (j:=4) rfl)) (rda_c rd_a rda_n) (rd_if rd_a (rd_v b9) (rd_give rd_a))) rda_n)))))) fun v H' s' hv=>?_
  obtain ⟨p,vs,rfl,hp,hd⟩:=hv
  obtain ⟨os,rfl,hdd⟩:=defsS_ok hd
  exact q _ p os (hs.trans s') hp hdd
end
end GN
namespace GN
open PySem L2 K11
theorem cl_ysG (k:Nat):cl (ys k)=List.replicate (k % 2) 121:=by
  unfold ys
  rcases (show k % 2=0\/k % 2=1 by omega) with e | e
  · rw [e]; decide +kernel
  · rw [e]; decide +kernel
theorem nm_injG {z:Str} {b:Bool} {j k:Nat} (hj:j < 1352) (hk:k < 1352) (h:nm z b j=nm z b k):j=k:=by
  have hl:∀ i:Nat,(cl (core i)).length=3:=fun i=>by rw [cl_core]; rfl
  have cinj:cl (core j)=cl (core k)->j % 2=k % 2->j=k:=fun e e0=>by
    rw [cl_core,cl_core] at e
    injection e with e1 e2
    injection e2 with _ e3
    injection e3 with e3 _
    omega
  have e:=congrArg cl h
  unfold nm at e
  cases b with
  | true =>
    rw [if_pos rfl,if_pos rfl,cl_app,cl_app,cl_app,cl_app] at e
    have el:=congrArg List.length e
    rw [List.length_append,List.length_append,List.length_append,List.length_append,hl,hl,cl_ysG,cl_ysG,List.length_replicate,List.length_replicate] at el
    rw [List.append_assoc,List.append_assoc] at e
    exact cinj (List.append_inj_left e (by rw [hl,hl])) (by omega)
  | false =>
    rw [if_neg (by decide),if_neg (by decide),cl_app,cl_app,cl_app,cl_app] at e
    have el:=congrArg List.length e
    rw [List.length_append,List.length_append,List.length_append,List.length_append,hl,hl,cl_ysG,cl_ysG,List.length_replicate,List.length_replicate] at el
    exact cinj (List.append_inj_right' e (by rw [hl,hl])) (by omega)
theorem nm_ne {z:Str} {b:Bool} {k:Nat}:nm z b k≠"":=fun e=>by
  have h1:(cl (core k)).length=3:=by rw [cl_core]; rfl
  have:(cl (nm z b k)).length=0:=by rw [e]; decide +kernel
  unfold nm at this
  split at this
  · rw [cl_app,cl_app,List.length_append,List.length_append] at this; omega
  · rw [cl_app,cl_app,List.length_append,List.length_append] at this; omega
theorem puts_out:∀ {l:List (Str × Nat)} {kvs:Kvs} {t:Str},t ∉ l.map (·.1)->valV (puts l kvs) (.inr t)=valV kvs (.inr t)
  | [],_,_,_=>rfl
  | a :: l,kvs,t,h=>by
    rw [List.map_cons,List.mem_cons,not_or] at h
    show valV (puts l (putK kvs (.inr a.1) (.int (a.2:Int)))) _=_
    rw [puts_out h.2,valV_put,if_neg (fun e=>h.1 (Sum.inr.inj e))]
theorem puts_in:∀ {l:List (Str × Nat)} {kvs:Kvs} {t:Str} {n:Nat},(l.map (·.1)).Nodup->(t,n)∈l->valV (puts l kvs) (.inr t)=some (.int (n:Nat))
  | [],_,_,_,_,h=>by cases h
  | a :: l,kvs,t,n,hn,h=>by
    rw [List.map_cons,List.nodup_cons] at hn
    show valV (puts l (putK kvs (.inr a.1) (.int (a.2:Int)))) _=_
    rcases List.mem_cons.mp h with rfl | h
    · rw [puts_out hn.1,valV_put,if_pos rfl]
    · exact puts_in hn.2 h
end GN
namespace GN
open PySem L2 K11
theorem oc_told {st:Int} {f:List V}:∀ {es:List Str} {k:Nat} {g:List V},(ouOf st f es k).oc=.told g->g=f
  | [],k,g,h=>by cases h; rfl
  | x :: r,k,g,h=>by
    rw [ouOf] at h
    split at h
    · split at h
      · cases h
      · exact oc_told h
    · cases h
theorem at_ou {st:Int} {f:List V} {es:List Str} {k:Nat} (h:∀ x∈f,At x):AtG (ouOf st f es k).oc:=by
  cases e:(ouOf st f es k).oc with
  | told g=>rw [oc_told e]; exact h
  | late=>trivial
  | fault w=>trivial
theorem at_row {nil cons:Str} {xs:List Int}:∀ x∈rowP nil cons xs,At x:=by
  intro x hx
  unfold rowP rowH at hx
  rcases List.mem_append.mp hx with h | h
  · obtain ⟨y,_,hy⟩:=List.mem_flatMap.mp h
    simp only [List.mem_cons,List.not_mem_nil,or_false] at hy
    rcases hy with rfl | rfl <;> trivial
  · rw [List.mem_singleton.mp h]; trivial
abbrev ks36 (nil cons:Str):List (List (Str × Nat)):=[[(nil,0),(cons,2)]]
theorem nc36 {nil cons:Str} (h:nil≠cons):NC (puts (ks36 nil cons).flatten []) nil cons:=by
  have nd:(((ks36 nil cons).flatten).map (·.1)).Nodup:=by simpa using h
  refine ⟨?_,?_⟩
  · unfold szOf
    rw [puts_in (n:=0) nd (by simp)]
    rfl
  · unfold szOf
    rw [puts_in (n:=2) nd (by simp)]
    rfl
section
variable {n0 n1 n2 n3 n4 n5 n6 nil cons w0 w1:Str} {i:Int}
theorem df36 (N:N7 n0 n1 n2 n3 n4 n5 n6):dfOf (defs36 n0 n1 n2 n3 n4 n5 n6 nil cons w0 w1 i) n0=some (n0,[n0,n1],foldB n0 n1 n2 n3 n4 n5 n0 nil cons w0)/\dfOf (defs36 n0 n1 n2 n3 n4 n5 n6 nil cons w0 w1 i) n1=some (n1,[n0,n1],turnB n0 n1 n2 n3 n4 n5 n1 nil cons)/\dfOf (defs36 n0 n1 n2 n3 n4 n5 n6 nil cons w0 w1 i) n2=some (n2,[n0],mapB n0 n1 n2 n3 n4 n5 n6 n2 nil cons w1 i)/\dfOf (defs36 n0 n1 n2 n3 n4 n5 n6 nil cons w0 w1 i) n3=some (n3,[n0,n1],threeB n0 n1 n2 n3 n5 n6 n0 n1 n2 nil)/\dfOf (defs36 n0 n1 n2 n3 n4 n5 n6 nil cons w0 w1 i) n4=some (n4,[n0],downB n0 n2 n3 n4 n6 n4):=by
  have hd:=N.d
  simp only [List.nodup_cons,List.mem_cons,List.not_mem_nil,not_or] at hd
  unfold dfOf defs36
  refine ⟨?_,?_,?_,?_,?_⟩
  · rw [List.find?_cons,decide_eq_true rfl]
  · rw [List.find?_cons,decide_eq_false hd.1.1,List.find?_cons,decide_eq_true rfl]
  · rw [List.find?_cons,decide_eq_false hd.1.2.1,List.find?_cons,decide_eq_false hd.2.1.1,List.find?_cons,decide_eq_true rfl]
  · rw [List.find?_cons,decide_eq_false hd.1.2.2.1,List.find?_cons,decide_eq_false hd.2.1.2.1,List.find?_cons,decide_eq_false hd.2.2.1.1,List.find?_cons,decide_eq_true rfl]
  · rw [List.find?_cons,decide_eq_false hd.1.2.2.2.1,List.find?_cons,decide_eq_false hd.2.1.2.2.1,List.find?_cons,decide_eq_false hd.2.2.1.2.1,List.find?_cons,decide_eq_false hd.2.2.2.1.1,List.find?_cons,decide_eq_true rfl]
theorem pg36 (N:N7 n0 n1 n2 n3 n4 n5 n6) (hn:nil≠cons) (e1:nil≠"") (e2:cons≠"") (si:Sm i):PGOk (ks36 nil cons) (defs36 n0 n1 n2 n3 n4 n5 n6 nil cons w0 w1 i):=by
  obtain ⟨h0,h1,h2,h3,h4⟩:=df36 (nil:=nil) (cons:=cons) (w0:=w0) (w1:=w1) (i:=i) N
  have nc:=nc36 hn
  have c1:=nc.n
  have c2:=nc.c
  have s1:Sm 1:=by unfold Sm; omega
  have hd:=N.d
  have nd2:[n0,n1].Nodup:=by
    simp only [List.nodup_cons,List.mem_cons,List.not_mem_nil,not_or] at hd ⊢
    exact ⟨⟨hd.1.1,id⟩,by simp⟩
  refine ⟨⟨by simp,?_⟩,?_,by show 5<=100; decide,?_⟩
  · intro a ha
    simp at ha
    rcases ha with rfl | rfl <;> exact Nat.le_of_ble_eq_true rfl
  · unfold defs36
    simp only [List.map_cons,List.map_nil]
    exact List.Sublist.nodup (l₂:=[n0,n1,n2,n3,n4,n5,n6]) (by simp) hd
  · generalize hds:defs36 n0 n1 n2 n3 n4 n5 n6 nil cons w0 w1 i=ds at *
    intro a ha
    rw [<- hds] at ha
    unfold defs36 at ha
    simp only [List.mem_cons,List.not_mem_nil,or_false] at ha
    generalize puts (ks36 nil cons).flatten []=kv at *
    rcases ha with rfl | rfl | rfl | rfl | rfl
    · refine ⟨nd2,by show 2<=9; decide,?_,by show _<=700; simp [foldB,Bd.sz,Arms.sz]⟩
      simp [foldB,OkX,OkXs,OkD,OkZ,e1,e2,c1,c2,h0]
    · refine ⟨nd2,by show 2<=9; decide,?_,by show _<=700; simp [turnB,Bd.sz,Arms.sz]⟩
      simp [turnB,OkX,OkXs,OkD,OkZ,e1,e2,c1,c2,h1]
    · refine ⟨by simp,by show 1<=9; decide,?_,by show _<=700; simp [mapB,Bd.sz,Arms.sz]⟩
      simp [mapB,OkX,OkXs,OkD,OkZ,e1,e2,c1,c2,h2,si]
    · refine ⟨nd2,by show 2<=9; decide,?_,by show _<=700; simp [threeB,Bd.sz,Arms.sz]⟩
      simp [threeB,OkX,OkXs,OkD,OkZ,e1,e2,c1,c2,h0,h1,h2]
    · refine ⟨by simp,by show 1<=9; decide,?_,by show _<=700; simp [downB,Bd.sz,Arms.sz]⟩
      simp [downB,OkX,OkXs,OkD,OkZ,e1,e2,c1,c2,h4,s1]
theorem task_run {way:Nat} {xss:List (List V)} {es:List Str} {f:List V} {st:Int} (N:N7 n0 n1 n2 n3 n4 n5 n6) (hn:nil≠cons) (t:Task nil cons w0 w1 i way xss es f) :
    ∃ g a M,[n0,n1,n2,n3,n4][way]?=some g/\dfOf (defs36 n0 n1 n2 n3 n4 n5 n6 nil cons w0 w1 i) g=some a/\a.2.1.length=xss.length/\mrun (puts (ks36 nil cons).flatten []) (defs36 n0 n1 n2 n3 n4 n5 n6 nil cons w0 w1 i) st M a.2.2 (a.2.1.zip xss) [] 0=some (ouOf st f es 0).oc:=by
  obtain ⟨h0,h1,h2,h3,h4⟩:=df36 (nil:=nil) (cons:=cons) (w0:=w0) (w1:=w1) (i:=i) N
  have nc:=nc36 hn
  generalize puts (ks36 nil cons).flatten []=kv at *
  generalize defs36 n0 n1 n2 n3 n4 n5 n6 nil cons w0 w1 i=ds at *
  cases t with
  | fold xs a s1 s2 s3 =>
    obtain ⟨M,hM⟩:=(big_fold (st:=st) N nc hn h0 xs a 0 s1).run
    rw [foldO_ev] at hM
    exact ⟨_,_,M,rfl,h0,rfl,hM⟩
  | turn xs ys s1 s2 s3 s4 =>
    obtain ⟨M,hM⟩:=(big_turn (st:=st) N nc hn h1 xs ys 0 s1).run
    rw [turnO_ev] at hM
    exact ⟨_,_,M,rfl,h1,rfl,hM⟩
  | map xs s1 s2 =>
    obtain ⟨M,hM⟩:=(big_map (st:=st) N nc hn h2 xs 0 s1).run
    rw [mapO_ev] at hM
    exact ⟨_,_,M,rfl,h2,rfl,hM⟩
  | three xs a s1 s2 s3 =>
    obtain ⟨M,hM⟩:=(big_three (st:=st) N nc hn h0 h1 h2 xs a 0 s1).run
    rw [threeO_ev] at hM
    exact ⟨_,_,M,rfl,h3,rfl,hM⟩
  | down m s1 =>
    obtain ⟨M,hM⟩:=(big_down (st:=st) (kv:=kv) N h4 m 0 (by omega)).run
    rw [downO_ev] at hM
    exact ⟨_,_,M,rfl,h4,rfl,hM⟩
theorem grw_row {xs:List Int} (hn:nil≠cons) (h:∀ x∈xs,Sm x) (l:xs.length<=148):Grw (ks36 nil cons) (rowP nil cons xs):=⟨by
  unfold rowP
  rw [List.length_append,rowH_len]
  show _ + 1<=300
  omega,at_row,hgt_row (nc36 hn) h⟩
theorem grw_int {a:Int} (h:Sm a):Grw (ks36 nil cons) [.int a]:=⟨by show 1<=300; decide,fun x hx=>by rw [List.mem_singleton.mp hx]; trivial,by
  rw [hgt_cons,show dl _ (.int a)=some 0 from if_pos h]
  rfl⟩
theorem task_grw {way:Nat} {xss:List (List V)} {es:List Str} {f:List V} (hn:nil≠cons) (t:Task nil cons w0 w1 i way xss es f):∀ xs∈xss,Grw (ks36 nil cons) xs:=by
  intro x hx
  cases t with
  | fold xs a s1 s2 s3 =>
    simp only [List.mem_cons,List.not_mem_nil,or_false] at hx
    rcases hx with rfl | rfl
    · exact grw_row hn s1 s2
    · exact grw_int s3
  | turn xs ys s1 s2 s3 s4 =>
    simp only [List.mem_cons,List.not_mem_nil,or_false] at hx
    rcases hx with rfl | rfl
    · exact grw_row hn s1 s2
    · exact grw_row hn s3 (by omega)
  | map xs s1 s2=>rw [List.mem_singleton.mp hx]; exact grw_row hn s1 s2
  | three xs a s1 s2 s3 =>
    simp only [List.mem_cons,List.not_mem_nil,or_false] at hx
    rcases hx with rfl | rfl
    · exact grw_row hn s1 s2
    · exact grw_int s3
  | down m s1=>rw [List.mem_singleton.mp hx]; exact grw_int (by unfold Sm; omega)
theorem task_at {way:Nat} {xss:List (List V)} {es:List Str} {f:List V} (t:Task nil cons w0 w1 i way xss es f):∀ x∈f,At x:=by
  cases t with
  | fold xs a s1 s2 s3=>intro x hx; rw [List.mem_singleton.mp hx]; trivial
  | turn xs ys s1 s2 s3 s4=>exact at_row
  | map xs s1 s2=>exact at_row
  | three xs a s1 s2 s3=>intro x hx; rw [List.mem_singleton.mp hx]; trivial
  | down m s1=>intro x hx; rw [List.mem_singleton.mp hx]; trivial
end
end GN
namespace GN
open PySem L2 K11
def spTopT (K:PySem.W.Frag) (T:Addr):Sp:=fun vs H Q _=>∃ (a:Addr) (ns:List Int),vs=[.ref a]/\SqL K H a (ns.map V.int)/\ns.length<=63/\H T=some (.tbl #[])/\∀ H',Q (.bl true) H'
structure Lw (T pg nl ha la ev pp:Addr) (hs ls:List Addr) (ks:List (List (Str × Nat))) (ds:Dfl) (xss:List (List V)) (es:List Str) (f names:List V) (H:Hp):Prop where
  tb:Tb T H
  pg:IsPG H ks ds pg
  nl:H nl=some (.lst names)
  ha:Args H ks ha hs xss
  la:Args H ks la ls xss
  ev:H ev=some (.lst (sts es))
  pp:H pp=some (.lst f)
theorem IsPG.keep {H H':Hp} {ks:List (List (Str × Nat))} {ds:Dfl} {p:Addr} (h:IsPG H ks ds p) (t:Tups H H'):IsPG H' ks ds p:=by
  obtain ⟨pk,pd,ones,a,b,c,d⟩:=h
  exact ⟨pk,pd,ones,t _ _ a,b.keep t,t _ _ c,d.keep t⟩
theorem Args.kt {T:Addr} {H H':Hp} {ks:List (List (Str × Nat))} {al:Addr} {as:List Addr} {xss:List (List V)} (h:Args H ks al as xss) (k:KT T H H') (t:Tb T H):Args H' ks al as xss:=⟨k.lst t h.1,h.2.1,fun j a xs h1 h2=>⟨k.lst t (h.2.2 j a xs h1 h2).1,(h.2.2 j a xs h1 h2).2⟩⟩
theorem Lw.kt {T pg nl ha la ev pp:Addr} {hs ls:List Addr} {ks:List (List (Str × Nat))} {ds:Dfl} {xss:List (List V)} {es:List Str} {f names:List V} {H H':Hp} (h:Lw T pg nl ha la ev pp hs ls ks ds xss es f names H) (k:KT T H H') (t:Tb T H'):Lw T pg nl ha la ev pp hs ls ks ds xss es f names H' :=
  ⟨t,h.pg.keep (k.tups h.tb),k.lst h.tb h.nl,h.ha.kt k h.tb,h.la.kt k h.tb,k.lst h.tb h.ev,k.lst h.tb h.pp⟩
theorem Lw.same {T pg nl ha la ev pp:Addr} {hs ls:List Addr} {ks:List (List (Str × Nat))} {ds:Dfl} {xss:List (List V)} {es:List Str} {f names:List V} {H H':Hp} (h:Lw T pg nl ha la ev pp hs ls ks ds xss es f names H) (s:Same H H'):Lw T pg nl ha la ev pp hs ls ks ds xss es f names H':=h.kt (.of s) (h.tb.same s)
theorem Sta.neL {K:PySem.W.Frag} {H:Hp} {st p:Addr} {B:Nat} {xs:List V} (S:Sta K H st B) (h:H p=some (.lst xs)) (hat:∀ x∈xs,At x):p≠st:=fun e=>by
  obtain ⟨b,ns,k,h1,_⟩:=S
  rw [e,h1] at h
  cases h
  exact hat _ (List.mem_cons_self ..)
section
variable {P:Program} {w:World} {K:PySem.W.Frag} {mg:Str->Option Value} {base:Heap} {f T:Addr} {fd:FuncData}
theorem scLaw36:FnScope ["_law_script","_law_state","_law_world","_law_names","_law_nil","_law_cons","_law_some","_law_words","_law_number_here","_law_program","_law_way","_law_args","_law_events","_law_parts_here","_law_steps","_law_due_here","_law_handed"] ["_law_script"] (defScope sLaw):=⟨rfl,rfl,rfl,by decide +kernel,rfl,by decide +kernel,by decide +kernel⟩
theorem ndLaw36:(["_law_script","_law_state","_law_world","_law_names","_law_nil","_law_cons","_law_some","_law_words","_law_number_here","_law_program","_law_way","_law_args","_law_events","_law_parts_here","_law_steps","_law_due_here","_law_handed","_law_k"]:List Str).Nodup:=by decide +kernel
theorem ndLaw36o:(["_law_script","_law_state","_law_world","_law_names","_law_nil","_law_cons","_law_some","_law_words","_law_number_here","_law_program","_law_way","_law_args","_law_events","_law_parts_here","_law_steps","_law_due_here","_law_handed","_law_one"]:List Str).Nodup:=by decide +kernel
theorem ok_law36 (F:Fun K "law" "law" sLaw f fd) (GD:Ca P w K mg base CX0 1 "_law_draw" ["_law_state","_law_many"] (spDraw K)) (GM:Ca P w K mg base CX0 1 "_law_name" ["_law_world","_law_k"] spNm) (GS:Ca P w K mg base CX0 2 "_law_stem" ["_law_state"] (spStem K)) (GN:Ca P w K mg base CX0 2 "_law_number" ["_law_state"] (spNumber K)) (GF:Ca P w K mg base CX0 1 "_law_defs" ["_law_names","_law_nil","_law_cons","_law_words","_law_number_here"] spDefs) (GT:Ca P w K mg base CX0 4 "_law_task" ["_law_state","_law_way","_law_words","_law_number_here","_law_nil","_law_cons"] (spTask K)) (GE:Ca P w K mg base CX0 1 "_law_due" ["_law_events","_law_steps","_law_parts_here"] spDueL) (GA:Ca P w K mg base CX0 1 "_law_same" ["_law_got","_law_due_here"] spSameG) (GR:Ca P w K mg base CX0 7 "run" ["program","name","args","steps"] (spRunG T)) (m_len:mg "len"=none) (m_list:mg "list"=none) (m_range:mg "range"=none) (m_max:mg "max"=none):FnOk P w K mg base CX0 8 f fd ["_law_script"] (spTopT K T):=by
  refine F.by scLaw36 (fun vs H Q E h=>?_) (fun cdv A outer s H vs Q E hr h=>?_)
  · obtain ⟨a,ns,rfl,_⟩:=h
    rfl
  obtain ⟨a,ns,rfl,hS,h63,hT,q⟩:=h
  have r1:Room 1 _:=hr.mono (by decide)
  have r2:Room 2 _:=hr.mono (by decide)
  have r4:Room 4 _:=hr.mono (by decide)
  refine ⟨_,
    (jss_cons (js_set (i:=1) scLaw36.nd rfl (Or.inl rfl) (je_lst (ja_c (jv 0) (ja_c je_int ja_nil))))
    (jss_cons (js_set (i:=2) scLaw36.nd rfl (Or.inr rfl) (je_ca GS r2 rfl pass0 (ja_c (jv 1) ja_nil)))
    (jss_cons (js_comp ["_law_k"] (i:=3) scLaw36.nd rfl (Or.inl rfl) rfl (ji_range1 rfl m_range (ja_c je_int ja_nil)) (fun _ _ _ _ _=>(jg_name (i:=17) ndLaw36 rfl (Or.inl rfl))) (fun _ _ _ _ _=>jts_nil) (fun _ _ _ _ _=>(je_ca GM r1 rfl pass0 (ja_c (jv 2) (ja_c (jv 17) ja_nil)))))
    (jss_cons (js_set (i:=4) scLaw36.nd rfl (Or.inl rfl) (je_ix jx_list (jv 3) (je_ca GD r1 rfl pass0 (ja_c (jv 1) (ja_c je_int ja_nil))) (fun _ _=>rfl)))
    (jss_cons (js_set (i:=5) scLaw36.nd rfl (Or.inl rfl) (je_ix jx_list (jv 3) (je_op jo_add je_int (je_ca GD r1 rfl pass0 (ja_c (jv 1) (ja_c je_int ja_nil)))) (fun _ _=>rfl)))
    (jss_cons (js_set (i:=6) scLaw36.nd rfl (Or.inl rfl) (je_lst (ja_c je_str (ja_c je_str (ja_c je_str (ja_c je_str (ja_c je_str (ja_c je_str (ja_c je_str ja_nil)))))))))
    (jss_cons (js_set (i:=7) scLaw36.nd rfl (Or.inl rfl) (je_lst (ja_c (je_ix jx_list (jv 6) (je_ca GD r1 rfl pass0 (ja_c (jv 1) (ja_c je_int ja_nil))) (fun _ _=>rfl)) (ja_c (je_ix jx_list (jv 6) (je_ca GD r1 rfl pass0 (ja_c (jv 1) (ja_c je_int ja_nil))) (fun _ _=>rfl)) ja_nil))))
    (jss_cons (js_set (i:=8) scLaw36.nd rfl (Or.inl rfl) (je_ca GN r2 rfl pass0 (ja_c (jv 1) ja_nil)))
    (jss_cons (js_set (i:=9) scLaw36.nd rfl (Or.inl rfl) (je_tup (ja_c (je_tup (ja_c (je_tup (ja_c (je_tup (ja_c (jv 4) (ja_c je_int ja_nil))) (ja_c (je_tup (ja_c (jv 5) (ja_c je_int ja_nil))) ja_nil))) ja_nil)) (ja_c (je_ca GF r1 rfl pass0 (ja_c (jv 3) (ja_c (jv 4) (ja_c (jv 5) (ja_c (jv 7) (ja_c (jv 8) ja_nil)))))) ja_nil))))
    (jss_cons (js_set (i:=10) scLaw36.nd rfl (Or.inl rfl) (je_ca GD r1 rfl pass0 (ja_c (jv 1) (ja_c je_int ja_nil))))
    (jss_cons (js_asg (je_ca GT r4 rfl pass0 (ja_c (jv 1) (ja_c (jv 10) (ja_c (jv 7) (ja_c (jv 8) (ja_c (jv 4) (ja_c (jv 5) ja_nil))))))) (jg_tup rfl (jgs_cons (jg_name (i:=11) scLaw36.nd rfl (Or.inl rfl)) (jgs_cons (jg_name (i:=12) scLaw36.nd rfl (Or.inl rfl)) (jgs_cons (jg_name (i:=13) scLaw36.nd rfl (Or.inl rfl)) jgs_nil)))))
    (jss_cons (js_set (i:=14) scLaw36.nd rfl (Or.inl rfl) (je_ca GD r1 rfl pass0 (ja_c (jv 1) (ja_c (je_op jo_add (je_fnB jc_len_seq rfl m_len PySem.boot_len (ja_c (jv 12) ja_nil)) je_int) ja_nil))))
    (jss_cons (js_if (jt_cmpR jo_gt (je_ca GD r1 rfl pass0 (ja_c (jv 1) (ja_c je_int ja_nil))) je_int (nomark _)) 
      (jss_one (js_set (i:=14) scLaw36.nd rfl (Or.inl rfl) (je_fnB (jc_max2 rfl) rfl m_max PyProof.Rows.boot_max (ja_c je_int (ja_c (je_op jo_add (je_op jo_sub (je_fnB jc_len_seq rfl m_len PySem.boot_len (ja_c (jv 12) ja_nil)) je_int) (je_ca GD r1 rfl pass0 (ja_c (jv 1) (ja_c je_int ja_nil)))) ja_nil)))))  jss_nil)
    (jss_cons (js_set (i:=15) scLaw36.nd rfl (Or.inl rfl) (je_ca GE r1 rfl pass0 (ja_c (jv 12) (ja_c (jv 14) (ja_c (jv 13) ja_nil)))))
    (jss_cons (js_comp ["_law_one"] (i:=16) scLaw36.nd rfl (Or.inl rfl) rfl (ji_list (jv 11)) (fun _ _ _ _ _=>(jg_name (i:=17) ndLaw36o rfl (Or.inl rfl))) (fun _ _ _ _ _=>jts_nil) (fun _ _ _ _ _=>(je_fnTy (jc_list_ofK K) rfl m_list PyProof.Rows.boot_list (ja_c (jv 17) ja_nil))))
    (jss_cons (js_if (jt_cmpR jo_ge (je_fnB jc_len_seq rfl m_len PySem.boot_len (ja_c (jv 12) ja_nil)) je_int (nomark _)) 
      (jss_one (js_ret (je_ca GA r1 rfl pass0 (ja_c (je_ca GR hr rfl pass0 (ja_c (jv 9) (ja_c (je_ix jx_list (jv 3) (jv 10) (fun _ _=>rfl)) (ja_c (jv 16) (ja_c je_int ja_nil))))) (ja_c (je_ca GE r1 rfl pass0 (ja_c (jv 12) (ja_c je_int (ja_c (jv 13) ja_nil)))) ja_nil)))))  jss_nil)
    (jss_cons (js_if (jW.pt (jw_or (jt_not (jt_val (je_ca GA r1 rfl pass0 (ja_c (je_ca GR hr rfl pass0 (ja_c (jv 9) (ja_c (je_ix jx_list (jv 3) (jv 10) (fun _ _=>rfl)) (ja_c (jv 16) (ja_c (jv 14) ja_nil))))) (ja_c (jv 15) ja_nil))))) (jw_or1 (jt_cmpR (jo_neD (n:=4) (by decide) hr) (jv 16) (jv 11) (nomark _))))) 
      (jss_one (js_ret je_bl))  jss_nil)
    (jss_cons (js_if (jt_not (jt_val (je_ca GA r1 rfl pass0 (ja_c (je_ca GR hr rfl pass0 (ja_c (jv 9) (ja_c (je_ix jx_list (jv 3) (jv 10) (fun _ _=>rfl)) (ja_c (jv 11) (ja_c je_int ja_nil))))) (ja_c (je_ca GE r1 rfl pass0 (ja_c (jv 12) (ja_c je_int (ja_c (jv 13) ja_nil)))) ja_nil))))) 
      (jss_one (js_ret je_bl))  jss_nil)
    (jss_one (js_ret (je_ca GA r1 rfl pass0 (ja_c (je_ca GR hr rfl pass0 (ja_c (jv 9) (ja_c (je_ix jx_list (jv 3) (jv 10) (fun _ _=>rfl)) (ja_c (jv 16) (ja_c (jv 14) ja_nil))))) (ja_c (jv 15) ja_nil))))))))))))))))))))))),?_⟩
  have sl:=line0
  have LM:LIM=4611686018427387904:=rfl
  refine ⟨_,rfl,by show 2<=sizeLine; decide,fun st h1=>?_⟩
  have S1:Sta K (upd H st (.lst [.ref a,.int ((0:Nat):Int)])) st 0:=by
    refine ⟨a,ns,0,upd_same,fun e=>?_,(same_new h1 _).seq hS,Nat.le_refl _⟩
    rcases hS with (h | ⟨o,h⟩) | h
    · exact absurd e (ne_of_none h h1)
    · exact absurd e (ne_of_none h h1)
    · exact fun _=>.inr h
  have hT1:=old (o:=.lst [.ref a,.int ((0:Nat):Int)]) h1 hT
  show (tSeq _ _:TS) _ _ (upd H st (.lst [.ref a,.int ((0:Nat):Int)]))
  generalize upd H st (.lst [.ref a,.int ((0:Nat):Int)])=H1 at *
  have nTs:T≠st:=fun e=>by
    obtain ⟨b,ns',k',e1,_⟩:=S1
    rw [e,e1] at hT1
    cases hT1
  refine ⟨_,rfl,st,0,rfl,S1,by omega,fun H2 wp z b k2 S2 hw hz=>?_⟩
  have nws:=S2.neW hw
  have hT2:=k2.k _ _ nTs hT1
  refine ⟨_,rfl,by show -(2 ^ 62)<=(7:Int); decide,by show (7:Int) < 2 ^ 62; decide,lc_range (fun j τ ys H'=>H2=H'/\(∃ x,τ=[some (.ref a),some (.ref st),some (.ref wp),none,none,none,none,none,none,none,none,none,none,none,none,none,none,x])/\ys=(List.range j).map fun k=>V.str (nm z b k)) ⟨rfl,⟨none,rfl⟩,rfl⟩ ?_ ?_⟩
  · rintro j τ ys H3 hj ⟨rfl,⟨x,rfl⟩,rfl⟩
    refine ⟨_,rfl,_,rfl,wp,z,b,[],j,(by rw [Int.zero_add]; rfl),hw,hz,?_⟩
    refine ⟨by rw [List.length_map,List.length_range]; have:j < 7:=hj; omega,rfl,⟨_,rfl⟩,?_⟩
    rw [List.range_succ,List.map_append]
    rfl
  rintro τ ys H3 ⟨rfl,_,rfl⟩ nl hnl
  have S3:=S2.new hnl (.lst ((List.range 7).map fun k=>V.str (nm z b k)))
  have hT3:=old (o:=.lst ((List.range 7).map fun k=>V.str (nm z b k))) hnl hT2
  have hnl3:upd H2 nl (.lst ((List.range 7).map fun k=>V.str (nm z b k))) nl=some (.lst [.str (nm z b 0),.str (nm z b 1),.str (nm z b 2),.str (nm z b 3),.str (nm z b 4),.str (nm z b 5),.str (nm z b 6)]):=upd_same
  have nns:nl≠st:=S2.ne hnl
  show (tSeq _ _:TS) _ _ (upd H2 nl (.lst ((List.range 7).map fun k=>V.str (nm z b k))))
  generalize upd H2 nl (.lst ((List.range 7).map fun k=>V.str (nm z b k)))=H3 at *
  have inj:∀ {i j:Nat},i < 7->j < 7->i≠j->nm z b i≠nm z b j:=fun h1 h2 n e=>n (nm_injG (by omega) (by omega) e)
  have N:N7 (nm z b 0) (nm z b 1) (nm z b 2) (nm z b 3) (nm z b 4) (nm z b 5) (nm z b 6):=⟨by
    simp only [List.nodup_cons,List.mem_cons,List.not_mem_nil,not_or,not_false_eq_true,and_true,List.nodup_nil]
    refine ⟨⟨?_,?_,?_,?_,?_,?_⟩,⟨?_,?_,?_,?_,?_⟩,⟨?_,?_,?_,?_⟩,⟨?_,?_,?_⟩,⟨?_,?_⟩,?_⟩ <;> exact inj (by decide) (by decide) (by decide)⟩
  obtain ⟨NM,eNM⟩:∃ NM:Nat->Str,NM=nm z b:=⟨_,rfl⟩
  have ne0:∀ k,NM k≠"":=fun k=>by rw [eNM]; exact nm_ne
  rw [<- eNM] at hnl3 N
  simp only [<- eNM] at inj
  refine ⟨_,rfl,_,rfl,st,3,_,rfl,S3,by omega,by decide,fun H4 jn k4 S4 jn0 jn3=>?_⟩
  obtain ⟨n,rfl⟩:∃ n:Nat,jn=(n:Int):=⟨jn.toNat,by omega⟩
  have hn3:n < 3:=by omega
  have at7:∀ {m:Nat},m < 7->atI [V.str (NM 0),V.str (NM 1),V.str (NM 2),V.str (NM 3),V.str (NM 4),V.str (NM 5),V.str (NM 6)] ((m:Nat):Int)=some (.str (NM m)):=fun {m} hm=>by
    rcases (show m=0\/m=1\/m=2\/m=3\/m=4\/m=5\/m=6 by omega) with rfl | rfl | rfl | rfl | rfl | rfl | rfl <;> exact atI_nat rfl
  refine ⟨nl,_,_,_,rfl,rfl,SqL.of (k4.k _ _ nns hnl3),at7 (by omega),?_⟩
  refine ⟨_,rfl,_,rfl,st,3,_,rfl,S4,by omega,by decide,fun H5 jc k5 S5 jc0 jc3=>⟨_,_,rfl,rfl,?_⟩⟩
  obtain ⟨c,rfl⟩:∃ c:Nat,jc=(c:Int):=⟨jc.toNat,by omega⟩
  have k35:=k4.trans k5
  have hnl5:=k35.k _ _ nns hnl3
  have hT5:=k35.k _ _ nTs hT3
  refine ⟨nl,_,_,_,rfl,rfl,SqL.of hnl5,by rw [show (3:Int) + ((c:Nat):Int)=((3 + c:Nat):Int) by omega]; exact at7 (by omega),?_⟩
  have hnc:NM n≠NM (3 + c):=inj (by omega) (by omega) (by omega)
  have ne1:=ne0 n
  have ne2:=ne0 (3 + c)
  generalize NM n=nil at *
  generalize NM (3 + c)=cons at *
  clear k4 k5 S4 S3 hnl3 hT3 k35
  refine ⟨by show 7<=sizeLine; decide,fun ws hws=>?_⟩
  have s6:=same_new hws (.lst [.str "plus",.str "minus",.str "times",.str "over",.str "rest",.str "less",.str "same"])
  have hws6:=upd_same (H:=H5) (a:=ws) (o:=.lst [.str "plus",.str "minus",.str "times",.str "over",.str "rest",.str "less",.str "same"])
  have S6:=S5.same s6
  have hnl6:=s6 _ _ hnl5
  have hT6:=s6 _ _ hT5
  have nwss:ws≠st:=S5.ne hws
  show (tSeq _ _:TS) _ _ (upd H5 ws (.lst [.str "plus",.str "minus",.str "times",.str "over",.str "rest",.str "less",.str "same"]))
  generalize upd H5 ws (.lst [.str "plus",.str "minus",.str "times",.str "over",.str "rest",.str "less",.str "same"])=H6 at *
  have atw:∀ {m:Int},0<=m->m < 7->∃ w,w∈W7/\atI [V.str "plus",V.str "minus",V.str "times",V.str "over",V.str "rest",V.str "less",V.str "same"] m=some (.str w):=fun {m} h0 h7=>by
    obtain ⟨m,rfl⟩:∃ k:Nat,m=(k:Int):=⟨m.toNat,by omega⟩
    rcases (show m=0\/m=1\/m=2\/m=3\/m=4\/m=5\/m=6 by omega) with rfl | rfl | rfl | rfl | rfl | rfl | rfl <;> exact ⟨_,by decide +kernel,atI_nat rfl⟩
  refine ⟨_,rfl,_,rfl,st,7,_,rfl,S6,by omega,by decide,fun H7 j0 k7 S7 j00 j07=>?_⟩
  obtain ⟨w0,hw0,at0⟩:=atw j00 j07
  refine ⟨ws,_,_,_,rfl,rfl,SqL.of (k7.k _ _ nwss hws6),at0,_,rfl,_,rfl,st,7,_,rfl,S7,by omega,by decide,fun H8 j1 k8 S8 j10 j17=>?_⟩
  obtain ⟨w1,hw1,at1⟩:=atw j10 j17
  have k68:=k7.trans k8
  refine ⟨ws,_,_,_,rfl,rfl,SqL.of (k68.k _ _ nwss hws6),at1,by show 2<=sizeLine; decide,fun wl hwl=>?_⟩
  have s9:=same_new hwl (.lst [.str w0,.str w1])
  have hwl9:=upd_same (H:=H8) (a:=wl) (o:=.lst [.str w0,.str w1])
  have S9:=S8.same s9
  have hnl9:=s9 _ _ (k68.k _ _ nns hnl6)
  have hT9:=s9 _ _ (k68.k _ _ nTs hT6)
  have nwl:wl≠st:=S8.ne hwl
  show (tSeq _ _:TS) _ _ (upd H8 wl (.lst [.str w0,.str w1]))
  generalize upd H8 wl (.lst [.str w0,.str w1])=H9 at *
  clear k7 k8 k68 S8 S7 S6 hnl6 hT6 hnl5 hT5 hws6 at0 at1
  refine ⟨_,rfl,st,_,rfl,S9,by omega,fun H10 i k10 S10 si=>?_⟩
  have hnl10:=k10.k _ _ nns hnl9
  have hT10:=k10.k _ _ nTs hT9
  have hwl10:=k10.k _ _ nwl hwl9
  change (tSeq _ _:TS) _ [some (.ref a),some (.ref st),some (.ref wp),some (.ref nl),some (.str nil),some (.str cons),some (.ref ws),some (.ref wl),some (.int i),none,none,none,none,none,none,none,none] H10
  refine ⟨_,rfl,by show 2<=sizeLine; decide,fun p1 hp1=>⟨_,rfl,by show 2<=sizeLine; decide,fun p2 hp2=>⟨by show 2<=sizeLine; decide,fun p3 hp3=>⟨by show 1<=sizeLine; decide,fun p4 hp4=>?_⟩⟩⟩⟩
  have s11:=(((same_new hp1 (.tup [.str nil,.int 0])).new (o:=.tup [.str cons,.int 2]) hp2).new (o:=.tup [.ref p1,.ref p2]) hp3).new (o:=.tup [.ref p3]) hp4
  have hK11:Kn (upd (upd (upd (upd H10 p1 (.tup [.str nil,.int 0])) p2 (.tup [.str cons,.int 2])) p3 (.tup [.ref p1,.ref p2])) p4 (.tup [.ref p3])) p4 (ks36 nil cons):=by
    refine ⟨[p3],upd_same,rfl,fun j q' l h1 h2=>?_⟩
    cases j with
    | succ j=>simp at h1
    | zero =>
      cases h1
      cases h2
      refine ⟨[p1,p2],old hp4 upd_same,rfl,fun j t x g1 g2=>?_⟩
      match j,g1,g2 with
      | 0,g1,g2 =>
        cases g1
        cases g2
        exact old hp4 (old hp3 (old hp2 upd_same))
      | 1,g1,g2 =>
        cases g1
        cases g2
        exact old hp4 (old hp3 upd_same)
      | j + 2,g1,_=>simp at g1
  have S11:=S10.same s11
  have hnl11:=s11 _ _ hnl10
  have hT11:=s11 _ _ hT10
  have hwl11:=s11 _ _ hwl10
  generalize upd (upd (upd (upd H10 p1 (.tup [.str nil,.int 0])) p2 (.tup [.str cons,.int 2])) p3 (.tup [.ref p1,.ref p2])) p4 (.tup [.ref p3])=H11 at *
  refine ⟨_,rfl,_,rfl,_,rfl,_,rfl,_,rfl,nl,wl,i,NM 0,NM 1,NM 2,NM 3,NM 4,NM 5,NM 6,nil,cons,w0,w1,rfl,hnl11,hwl11,fun H12 pd ones s12 hpd hds=>⟨by show 2<=sizeLine; decide,fun pg hpg=>?_⟩⟩
  have s13:=s12.new (o:=.tup [.ref p4,.ref pd]) hpg
  have hP13:IsPG (upd H12 pg (.tup [.ref p4,.ref pd])) (ks36 nil cons) (defs36 (NM 0) (NM 1) (NM 2) (NM 3) (NM 4) (NM 5) (NM 6) nil cons w0 w1 i) pg:=⟨p4,pd,ones,upd_same,hK11.keep (.of s13),old hpg hpd,hds.keep (.of (same_new hpg _))⟩
  have S13:=S11.same s13
  have hnl13:=s13 _ _ hnl11
  have hT13:=s13 _ _ hT11
  have hwl13:=s13 _ _ hwl11
  generalize upd H12 pg (.tup [.ref p4,.ref pd])=H13 at *
  have PG:=pg36 (w0:=w0) (w1:=w1) N hnc ne1 ne2 si
  dsimp only [List.set]
  refine ⟨_,rfl,st,5,_,rfl,S13,by omega,by decide,fun H14 jw k14 S14 jw0 jw5=>?_⟩
  obtain ⟨way,rfl⟩:∃ c:Nat,jw=(c:Int):=⟨jw.toNat,by omega⟩
  refine ⟨_,rfl,_,rfl,_,rfl,_,rfl,_,rfl,_,rfl,st,wl,_,way,i,nil,cons,w0,w1,rfl,by omega,S14,by omega,k14.k _ _ nwl hwl13,hw0,hw1,si,fun H15 p la ev pp ls xss es f k15 S15 hp hla hL hev hpp tk=>?_⟩
  have k1315:=k14.trans k15
  have hP15:=hP13.keep (k1315.tups S13)
  have hnl15:=k1315.k _ _ nns hnl13
  have hT15:=k1315.k _ _ nTs hT13
  have hlen:=tk.len
  obtain ⟨g,df,M0,hg,hdf,hlx,hrun0⟩:=task_run (st:=10000) N hnc tk
  have hrun:∀ st:Int,∃ M,mrun (puts (ks36 nil cons).flatten []) (defs36 (NM 0) (NM 1) (NM 2) (NM 3) (NM 4) (NM 5) (NM 6) nil cons w0 w1 i) st M df.2.2 (df.2.1.zip xss) [] 0=some (ouOf st f es 0).oc:=fun st=>by
    obtain ⟨g',df',M',hg',hdf',_,h⟩:=task_run (st:=st) N hnc tk
    rw [hg] at hg'
    cases hg'
    rw [hdf] at hdf'
    cases hdf'
    exact ⟨M',h⟩
  clear hrun0 M0
  have tk2:df.2.1.length<=2:=by
    rw [hlx]
    cases tk <;> exact Nat.le_of_ble_eq_true rfl
  have hgr:=task_grw hnc tk
  have hat:=task_at tk
  generalize defs36 (NM 0) (NM 1) (NM 2) (NM 3) (NM 4) (NM 5) (NM 6) nil cons w0 w1 i=ds at *
  generalize ks36 nil cons=ks at *
  have hgw:atI [V.str (NM 0),V.str (NM 1),V.str (NM 2),V.str (NM 3),V.str (NM 4),V.str (NM 5),V.str (NM 6)] ((way:Nat):Int)=some (.str g):=by
    rw [at7 (by omega)]
    rcases (show way=0\/way=1\/way=2\/way=3\/way=4 by omega) with rfl | rfl | rfl | rfl | rfl <;> (cases hg; rfl)
  refine ⟨p,_,rfl,SqT.of hp,rfl,_,_,rfl,_,_,rfl,_,_,rfl,rfl,?_⟩
  dsimp only [List.set]
  have nlas:la≠st:=S15.neR hla
  have nevs:ev≠st:=S15.neS hev
  have npps:pp≠st:=S15.neL hpp hat
  refine (show ∀ (u:TS) (D:Ends),(∀ (H':Hp) (sp:Int),Kp st H15 H'->0<=sp->sp<=10000->u D [some (.ref a),some (.ref st),some (.ref wp),some (.ref nl),some (.str nil),some (.str cons),some (.ref ws),some (.ref wl),some (.int i),some (.ref pg),some (.int (way:Nat)),some (.ref la),some (.ref ev),some (.ref pp),some (.int sp),none,none] H')->(tSeq _ (tSeq _ u):TS) D [some (.ref a),some (.ref st),some (.ref wp),some (.ref nl),some (.str nil),some (.str cons),some (.ref ws),some (.ref wl),some (.int i),some (.ref pg),some (.int (way:Nat)),some (.ref la),some (.ref ev),some (.ref pp),none,none,none] H15 from ?key) _ _ ?rest
  case key =>
    intro u D hU
    have le:(sts es).length=es.length:=List.length_map ..
    refine ⟨_,rfl,_,rfl,ev,_,rfl,.inl (SqL.of hev),_,_,rfl,rfl,st,_,_,rfl,S15,by omega,by omega,fun H16 sp k16 S16 sp0 sp1=>?_⟩
    refine ⟨_,rfl,st,3,_,rfl,S16,by omega,by decide,fun H17 r k17 S17 r0 r3=>⟨_,_,rfl,rfl,_,rfl,ite2 (fun c=>?_) (fun c=>nxt ?_)⟩⟩
    · have k1517:=k16.trans k17
      refine ⟨_,rfl,ev,_,rfl,.inl (SqL.of (k1517.k _ _ nevs hev)),_,_,rfl,rfl,_,rfl,st,3,_,rfl,S17,by omega,by decide,fun H18 r2 k18 S18 q0 q3=>⟨_,_,rfl,rfl,_,_,rfl,?_⟩⟩
      refine hU H18 _ (k1517.trans k18) ?_ ?_
      · split <;> omega
      · split <;> omega
    · exact hU H17 sp (k16.trans k17) sp0 (by omega)
  case rest =>
    intro H16 sp k16 sp0 sp1
    have hP16:=hP15.keep (k16.tups S15)
    have hnl16:=k16.k _ _ nns hnl15
    have hT16:=k16.k _ _ nTs hT15
    have hla16:=k16.k _ _ nlas hla
    have hev16:=k16.k _ _ nevs hev
    have hpp16:=k16.k _ _ npps hpp
    have hA16:Args H16 ks la ls xss:=⟨hla16,hL.1,fun j l xs h1 h2=>by
      have hx:=hL.2 j l xs h1 h2
      have hgx:=hgr xs (List.mem_of_getElem? h2)
      exact ⟨k16.k _ _ (S15.neL hx hgx.2.1) hx,hgx⟩⟩
    refine ⟨_,rfl,_,rfl,_,rfl,ev,pp,sp,es,f,rfl,hev16,hpp16,by omega,fun H17 du s17 an17=>?_⟩
    have hla17:=s17 _ _ hla16
    refine ⟨_,rfl,la,rfl,⟨_,SqL.of hla17⟩,lc_list (K:=K) (xs:=ls.map V.ref) (fun j τ ys H'=>Same H17 H'/\(∃ y,τ=[some (.ref a),some (.ref st),some (.ref wp),some (.ref nl),some (.str nil),some (.str cons),some (.ref ws),some (.ref wl),some (.int i),some (.ref pg),some (.int (way:Nat)),some (.ref la),some (.ref ev),some (.ref pp),some (.int sp),some (.ref du),none,y])/\∃ bs:List Addr,ys=bs.map V.ref/\bs.length=j/\∀ (i:Nat) l xs,bs[i]?=some l->xss[i]?=some xs->H' l=some (.lst xs)) ⟨Same.refl _,⟨none,rfl⟩,[],rfl,rfl,fun i l xs h=>by simp at h⟩ (fun i τ ys H' _ h=>SqL.of (h.1 _ _ hla17)) ?_ ?_⟩
    · rintro j v τ ys H18 hv ⟨s18,⟨y,rfl⟩,bs,rfl,lb,hbs⟩
      rw [List.getElem?_map] at hv
      obtain ⟨l,hl,rfl⟩:=Option.map_eq_some_iff.mp hv
      have hj:=(List.getElem?_eq_some_iff.mp hl).1
      have hx:xss[j]?=some (xss[j]'(by have:=hL.1; omega)):=List.getElem?_eq_getElem _
      generalize xss[j]'(by have:=hL.1; omega)=xs at hx
      have g1:=(hA16.2.2 j l xs hl hx).1
      refine ⟨_,rfl,l,_,rfl,.inl (SqL.of (s18 _ _ (s17 _ _ g1))),fun l' hl'=>⟨by have:ls.length<=2:=(by rw [hL.1,<- hlx]; exact tk2); rw [List.length_map]; omega,s18.new hl',⟨_,rfl⟩,bs ++ [l'],by rw [List.map_append]; rfl,by rw [List.length_append,lb]; rfl,fun m b0 xs0 h1 h2=>?_⟩⟩
      by_cases c:m < bs.length
      · rw [List.getElem?_append_left c] at h1
        exact old hl' (hbs m b0 xs0 h1 h2)
      · rw [List.getElem?_append_right (by omega)] at h1
        have:m=bs.length:=by
          have:=(List.getElem?_eq_some_iff.mp h1).1
          simp at this
          omega
        subst this
        rw [Nat.sub_self] at h1
        cases h1
        rw [lb,hx] at h2
        cases h2
        exact upd_same
    rintro τ ys H18 ⟨s18,_,bs,rfl,lb,hbs⟩ ha hha
    rw [List.length_map] at lb
    have n19:=same_new hha (.lst (bs.map V.ref))
    have s19:Same H16 (upd H18 ha (.lst (bs.map V.ref))):=(s17.trans s18).trans n19
    have L19:Lw T pg nl ha la ev pp bs ls ks ds xss es f [V.str (NM 0),V.str (NM 1),V.str (NM 2),V.str (NM 3),V.str (NM 4),V.str (NM 5),V.str (NM 6)] (upd H18 ha (.lst (bs.map V.ref))):=⟨⟨#[],s19 _ _ hT16,.inl rfl⟩,hP16.keep (.of s19),s19 _ _ hnl16,⟨upd_same,by rw [lb]; exact hL.1,fun m b0 xs0 h1 h2=>⟨n19 _ _ (hbs m b0 xs0 h1 h2),hgr xs0 (List.mem_of_getElem? h2)⟩⟩,hA16.same s19,s19 _ _ hev16,s19 _ _ hpp16⟩
    have an19:=(an17.same s18).same n19
    show (tSeq _ _:TS) _ _ (upd H18 ha (.lst (bs.map V.ref)))
    generalize upd H18 ha (.lst (bs.map V.ref))=H19 at *
    clear hbs hP16 hnl16 hT16 hla16 hev16 hpp16 hA16 hla17 s17 s18 an17 s19 n19 hha
    have le:(sts es).length=es.length:=List.length_map ..
    refine ⟨_,rfl,ev,_,rfl,.inl (SqL.of L19.ev),_,_,rfl,rfl,_,rfl,ite2 (fun c=>?_) (fun c=>nxt ?_)⟩
    · obtain ⟨M,hM⟩:=hrun 10000
      refine ⟨_,rfl,_,rfl,_,rfl,nl,_,_,_,rfl,rfl,SqL.of L19.nl,hgw,_,rfl,pg,ha,10000,g,ks,ds,df,bs,xss,M,_,rfl,L19.pg,PG,hdf,L19.ha,hlx,L19.tb,by decide,by decide,hM,fun H20 r k20 t20 an20=>?_⟩
      have L20:=L19.kt k20 t20
      refine ⟨_,rfl,_,rfl,ev,pp,10000,es,f,rfl,L20.ev,L20.pp,by omega,fun H21 d2 s21 an21=>?_⟩
      exact ⟨r,d2,10000,_,rfl,an20.same s21,an21,at_ou hat,fun H22 _=>q _⟩
    · obtain ⟨M,hM⟩:=hrun sp
      refine ⟨_,rfl,_,rfl,_,rfl,nl,_,_,_,rfl,rfl,SqL.of L19.nl,hgw,_,rfl,_,rfl,pg,ha,sp,g,ks,ds,df,bs,xss,M,_,rfl,L19.pg,PG,hdf,L19.ha,hlx,L19.tb,sp0,sp1,hM,fun H20 r k20 t20 an20=>?_⟩
      have L20:=L19.kt k20 t20
      have an20':=an19.kt k20 L19.tb
      refine ⟨_,rfl,r,du,sp,_,rfl,an20,an20',at_ou hat,fun H21 s21=>⟨true,rfl,iteF ?_⟩⟩
      have L21:=L20.same s21
      refine ⟨_,rfl,_,rfl,ha,la,rfl,rfl,.inr ⟨_,_,_,_,rfl,rfl,.inl ⟨L21.ha.1,L21.la.1⟩,by rw [List.length_map,List.length_map,lb],fun m v1 v2 h1 h2=>?_⟩,false,rfl,iteF (nxt ?_)⟩
      · rw [List.getElem?_map] at h1 h2
        obtain ⟨b',hb',rfl⟩:=Option.map_eq_some_iff.mp h1
        obtain ⟨l',hl',rfl⟩:=Option.map_eq_some_iff.mp h2
        have hi:=(List.getElem?_eq_some_iff.mp hl').1
        have hx:xss[m]?=some (xss[m]'(by have:=hL.1; omega)):=List.getElem?_eq_getElem _
        exact sme_flat2 (n:=1) (.inl ⟨(L21.ha.2.2 m b' _ hb' hx).1,(L21.la.2.2 m l' _ hl' hx).1⟩) fun z hz=>((L21.la.2.2 m l' _ hl' hx).2.2.1 z hz).fl
      obtain ⟨M2,hM2⟩:=hrun 10000
      have an21:=an20'.same s21
      refine ⟨_,rfl,_,rfl,_,rfl,nl,_,_,_,rfl,rfl,SqL.of L21.nl,hgw,_,rfl,pg,la,10000,g,ks,ds,df,ls,xss,M2,_,rfl,L21.pg,PG,hdf,L21.la,hlx,L21.tb,by decide,by decide,hM2,fun H22 r2 k22 t22 an22=>?_⟩
      have L22:=L21.kt k22 t22
      refine ⟨_,rfl,_,rfl,ev,pp,10000,es,f,rfl,L22.ev,L22.pp,by omega,fun H23 d2 s23 an23=>?_⟩
      refine ⟨r2,d2,10000,_,rfl,an22.same s23,an23,at_ou hat,fun H24 s24=>⟨true,rfl,iteF (nxt ?_)⟩⟩
      have s2224:=s23.trans s24
      have L24:=L22.same s2224
      have an24:=(an21.kt k22 L21.tb).same s2224
      refine ⟨_,rfl,_,rfl,_,rfl,nl,_,_,_,rfl,rfl,SqL.of L24.nl,hgw,_,rfl,_,rfl,pg,ha,sp,g,ks,ds,df,bs,xss,M,_,rfl,L24.pg,PG,hdf,L24.ha,hlx,L24.tb,sp0,sp1,hM,fun H25 r3 k25 t25 an25=>?_⟩
      exact ⟨_,rfl,r3,du,sp,_,rfl,an25,an24.kt k25 L24.tb,at_ou hat,fun H26 _=>q _⟩
end
end GN
namespace GN
open PySem L2 K11
structure TopK (K:PySem.W.Frag) (cR cW C R V:Addr):Prop where
  c_Run:OwnIn K "Run" cR
  a_Run_defs:PySem.W.findIn K (.ref cR) "defs"=some none
  a_Run_steps:PySem.W.findIn K (.ref cR) "steps"=some none
  a_Run_done:PySem.W.findIn K (.ref cR) "done"=some none
  a_Run_waiting:PySem.W.findIn K (.ref cR) "waiting"=some none
  a_Run_body:PySem.W.findIn K (.ref cR) "body"=some none
  a_Run_names:PySem.W.findIn K (.ref cR) "names"=some none
  a_Run_end:PySem.W.findIn K (.ref cR) "end"=some none
  c_Waiting:OwnIn K "Waiting" cW
  a_Waiting_wants:PySem.W.findIn K (.ref cW) "wants"=some none
  a_Waiting_body:PySem.W.findIn K (.ref cW) "body"=some none
  a_Waiting_names:PySem.W.findIn K (.ref cW) "names"=some none
  d_parts_of:DdIn K "parts_of" sParts 136 130
  dt:DtIn K 130 100
  hcT:PySem.W.codeHdIn K 136 132=true
  n_NoValue:PySem.W.nsIn K mainGlobals "NoValue"=some (some (.ref V))
  v_in:xIn0 K V=true
  v_kp:PySem.W.keepIn K (.ref V)=true
  n_Fault:PySem.W.nsIn K mainGlobals "Fault"=some (some (.ref C))
  n_ReuseError:PySem.W.nsIn K mainGlobals "ReuseError"=some (some (.ref R))
  m_init:MeIn K C "__init__" "Fault.__init__" sFault
  x_word:PySem.W.takerIn K C "word"=some none
  x_find:PySem.W.findIn K (.ref C) "word"=some none
  x_hd:PySem.W.hasDictIn K C=true
  x_over:overIn K C=true
  x_sa:PySem.W.findIn K (.ref C) "__setattr__"=some (some (.builtin "object.__setattr__"))
  x_any:(PySem.W.clsIn K C).any (·.hasDict)=true
  x_ga:PySem.W.findIn K (.ref C) "__getattribute__"=some (some (.builtin "BaseException.__getattribute__"))
  x_ha:PySem.W.findIn K (.ref C) "__getattr__"=some none
  x_sb:PySem.W.subIn K (.ref C) (.type "BaseException")=some true
  x_kp:PySem.W.keepIn K (.ref C)=true
  x_cl:∃ f,PySem.W.findIn K (.ref C) "__init__"=some (some (.ref f))/\xIn K C f=true/\PySem.W.typeIn K (.ref f)=some (.type "function")
  r_sp:PySem.W.specialIn K (.ref R) "__getattribute__"=some (some (.builtin "type.__getattribute__"))
  r_rd:PySem.W.readsIn K R (.type "type")=true
  r_fi:PySem.W.findCls K (.ref R) (.type "type") "__init__"=some (.val (.builtin "ValueError.__init__"))
  k_x:PySem.W.exmOne K (.ref C) (.ref C)=some true
  d_is_whole:DfIn K "is_whole" sWhole
  d_first_parts:DfIn K "first_parts" sFirst
  d_sizes:DfIn K "sizes" sSizes
  d_in_bounds:DfIn K "in_bounds" sIn
  d_shape:DfIn K "shape" sShape
  d_grown:DfIn K "grown" sGrown
  d_result_of:DfIn K "result_of" sRes
  d_reckoned:DfIn K "reckoned" sReck
  d_by_name:DfIn K "by_name" sBy
  d_begun_with:DfIn K "begun_with" sBegun
  d_arm_of:DfIn K "arm_of" sArmOf
  m_Waiting___init__:MeIn K cW "__init__" "Waiting.__init__" sWInit
  m_Run___init__:MeIn K cR "__init__" "Run.__init__" sRInit
  m_Run_begin_def:MeIn K cR "begin_def" "Run.begin_def" sBegin
  m_Run_valued:MeIn K cR "valued" "Run.valued" sValued
  m_Run_outcome:MeIn K cR "outcome" "Run.outcome" sOut
  m_Run_call:MeIn K cR "call" "Run.call" sCall
  m_Run_let:MeIn K cR "let" "Run.let" sLet
  m_Run_give:MeIn K cR "give" "Run.give" sGive
  m_Run_choose:MeIn K cR "choose" "Run.choose" sChoose
  m_Run_take_arm:MeIn K cR "take_arm" "Run.take_arm" sTakeArm
  m_Run_go_on:MeIn K cR "go_on" "Run.go_on" sGo
  d_run:DfIn K "run" sRun
  d__law_draw:DfIn K "_law_draw" sDraw
  d__law_name:DfIn K "_law_name" sNm
  d__law_stem:DfIn K "_law_stem" sStem
  d__law_number:DfIn K "_law_number" sNumber
  d__law_defs:DfIn K "_law_defs" sDefs
  d__law_op:DfIn K "_law_op" sOp
  d__law_map:DfIn K "_law_map" sMap
  d__law_fold:DfIn K "_law_fold" sFold
  d__law_parts:DfIn K "_law_parts" sLParts
  d__law_due:DfIn K "_law_due" sDue
  d__law_same:DfIn K "_law_same" sSame
  d__law_row:DfIn K "_law_row" sRow
  d__law_task:DfIn K "_law_task" sTask
  d_law:DfIn K "law" sLaw
  z_len:PySem.W.nsIn K mainGlobals "len"=some none
  z_range:PySem.W.nsIn K mainGlobals "range"=some none
  z_isinstance:PySem.W.nsIn K mainGlobals "isinstance"=some none
  z_int:PySem.W.nsIn K mainGlobals "int"=some none
  z_bool:PySem.W.nsIn K mainGlobals "bool"=some none
  z_reversed:PySem.W.nsIn K mainGlobals "reversed"=some none
  z_list:PySem.W.nsIn K mainGlobals "list"=some none
  z_str:PySem.W.nsIn K mainGlobals "str"=some none
  z_tuple:PySem.W.nsIn K mainGlobals "tuple"=some none
  z_dict:PySem.W.nsIn K mainGlobals "dict"=some none
  z_zip:PySem.W.nsIn K mainGlobals "zip"=some none
  z_abs:PySem.W.nsIn K mainGlobals "abs"=some none
  z_max:PySem.W.nsIn K mainGlobals "max"=some none
theorem top_ok {l:PySem.W.OpenLaw} {w:World} {K:PySem.W.Frag} {h:Heap} {mg:Str->Option Value} {fa cR cW C R V:Addr} (T:TopK K cR cW C R V) (X:K.In h) (G:h.Ns mainGlobals mg) (hfa:mg "law"=some (.ref fa)) :
    ∃ fd:FuncData,(∀ (s:Shared) (u:Value),BindsTo s fd ⟨[u],[]⟩ [("_law_script",u)])/\∀ base:Heap,K.In base->base.Ns mainGlobals mg->BMn mg base->FnOk l.prog w K mg base CX0 8 fa fd ["_law_script"] (spTopT K 132):=by
  refine law_inT T.d_law X G hfa (fun _ _ _ _ _ _ s v=>.of_eq rfl) fun base fd hBM FL=>?_
  have z_len:mg "len"=none:=PySem.W.mg_none_of X G T.z_len
  have z_range:mg "range"=none:=PySem.W.mg_none_of X G T.z_range
  have z_isinstance:mg "isinstance"=none:=PySem.W.mg_none_of X G T.z_isinstance
  have z_int:mg "int"=none:=PySem.W.mg_none_of X G T.z_int
  have z_bool:mg "bool"=none:=PySem.W.mg_none_of X G T.z_bool
  have z_reversed:mg "reversed"=none:=PySem.W.mg_none_of X G T.z_reversed
  have z_list:mg "list"=none:=PySem.W.mg_none_of X G T.z_list
  have z_str:mg "str"=none:=PySem.W.mg_none_of X G T.z_str
  have z_tuple:mg "tuple"=none:=PySem.W.mg_none_of X G T.z_tuple
  have z_dict:mg "dict"=none:=PySem.W.mg_none_of X G T.z_dict
  have z_zip:mg "zip"=none:=PySem.W.mg_none_of X G T.z_zip
  have z_abs:mg "abs"=none:=PySem.W.mg_none_of X G T.z_abs
  have z_max:mg "max"=none:=PySem.W.mg_none_of X G T.z_max
  have n_Run:mg "Run"=some (.ref cR):=PySem.W.mg_of X G T.c_Run.n
  have n_Waiting:mg "Waiting"=some (.ref cW):=PySem.W.mg_of X G T.c_Waiting.n
  have n_Fault:=PySem.W.mg_of X G T.n_Fault
  have n_NoValue:=PySem.W.mg_of X G T.n_NoValue
  have n_ReuseError:=PySem.W.mg_of X G T.n_ReuseError
  have xV:XCl0 K V:=⟨T.v_in,T.v_kp⟩
  obtain ⟨fx,ax,xin,xty⟩:=T.x_cl
  have M:XCl K C fx:=⟨xin,xty,T.x_kp,T.x_over,T.x_sa,T.x_any,T.x_ga,T.x_ha,T.x_sb⟩
  have B:XBase K R:=⟨T.r_sp,T.r_rd,T.r_fi⟩
  have GX:Xa l.prog w K mg base 1 "Fault" C ["self","word"] (K31.spFault C):=by
    obtain ⟨f,a,n,g⟩:=T.m_init
    obtain ⟨fd,F,kp⟩:=g.fn
    have e:f=fx:=by
      rw [ax] at a
      injection a with a
      injection a with a
      injection a with a
      exact a.symm
    subst e
    exact ⟨f,fd,M,K31.ok_fault F T.x_word M B n_ReuseError,F.binds (ps:=["self","word"]) fun _ _ _ _ _ _ us hl=>match us,hl with | [_,_],_=>rfl,n_Fault⟩
  have N:Rn K cR:=⟨T.c_Run.cls,T.a_Run_defs,T.a_Run_steps,T.a_Run_done,T.a_Run_waiting,T.a_Run_body,T.a_Run_names,T.a_Run_end⟩
  have FT:Ft K mg C:=⟨n_Fault,⟨fx,M⟩,T.x_find,T.x_hd,T.k_x⟩
  have NW:Wn K cW:=⟨T.c_Waiting.cls,T.a_Waiting_wants,T.a_Waiting_body,T.a_Waiting_names⟩
  have G1:=DfIn.ca (P:=l.prog) (w:=w) (base:=base) X G T.d_is_whole (ps:=["thing"]) (fun _ _ _ _ _ _ us hl=>match us,hl with | [_],_=>rfl) fun f fd F=>ok_whole F z_isinstance z_int z_bool
  have G1B:=DfIn.ca (P:=l.prog) (w:=w) (base:=base) X G T.d_is_whole (ps:=["thing"]) (fun _ _ _ _ _ _ us hl=>match us,hl with | [_],_=>rfl) fun f fd F=>ok_wholeB F z_isinstance z_int z_bool
  have G1C:=DfIn.ca (P:=l.prog) (w:=w) (base:=base) X G T.d_is_whole (ps:=["thing"]) (fun _ _ _ _ _ _ us hl=>match us,hl with | [_],_=>rfl) fun f fd F=>K31.ok_whole F z_isinstance z_int z_bool
  have G2:=DfIn.ca (P:=l.prog) (w:=w) (base:=base) X G T.d_first_parts (ps:=["value","most","shape_of"]) (fun _ _ _ _ _ _ us hl=>match us,hl with | [_,_,_],_=>rfl) fun f fd F=>ok_first F G1 z_len z_reversed
  have G3:=DdIn.ca (P:=l.prog) (w:=w) (base:=base) (dvs:=[.int 100]) X G T.d_parts_of (ps:=["value","most"]) (fun kV doc pm an ct=>bd_parts2 T.dt kV doc pm an ct) (fun kV doc pm an ct=>bd_parts1 T.dt kV doc pm an ct) fun f fd F=>ok_parts F hBM T.hcT G2
  have G4:=DfIn.ca (P:=l.prog) (w:=w) (base:=base) X G T.d_sizes (ps:=["kinds"]) (fun _ _ _ _ _ _ us hl=>match us,hl with | [_],_=>rfl) fun f fd F=>ok_sizes F
  have G5:=DfIn.ca (P:=l.prog) (w:=w) (base:=base) X G T.d_in_bounds (ps:=["number"]) (fun _ _ _ _ _ _ us hl=>match us,hl with | [_],_=>rfl) fun f fd F=>ok_in F
  have G5B:=DfIn.ca (P:=l.prog) (w:=w) (base:=base) X G T.d_in_bounds (ps:=["number"]) (fun _ _ _ _ _ _ us hl=>match us,hl with | [_],_=>rfl) fun f fd F=>K31.ok_in F
  have G6:=DfIn.ca (P:=l.prog) (w:=w) (base:=base) X G T.d_shape (ps:=["tag","known_sizes","values"]) (fun _ _ _ _ _ _ us hl=>match us,hl with | [_,_,_],_=>rfl) fun f fd F=>ok_shape F n_NoValue xV z_len z_range z_tuple
  have G7:=DfIn.ca (P:=l.prog) (w:=w) (base:=base) X G T.d_grown (ps:=["kinds","parts"]) (fun _ _ _ _ _ _ us hl=>match us,hl with | [_,_],_=>rfl) fun f fd F=>ok_grown F n_NoValue xV z_len z_isinstance z_list z_str z_reversed G4 G6 G1B G5
  have G8:=G7.dn (sp':=spGrowZ) (fun vs H Q E h=>growZ_of h)
  have R1:=DfIn.ca (P:=l.prog) (w:=w) (base:=base) X G T.d_result_of (ps:=["word","a","b"]) (fun _ _ _ _ _ _ us hl=>match us,hl with | [_,_,_],_=>rfl) fun f fd F=>K31.ok_res F
  have R2:=DfIn.ca (P:=l.prog) (w:=w) (base:=base) X G T.d_reckoned (ps:=["word","a","b"]) (fun _ _ _ _ _ _ us hl=>match us,hl with | [_,_,_],_=>rfl) fun f fd F=>K31.ok_reck F GX G1C R1 G5B
  have R3:=DfIn.ca (P:=l.prog) (w:=w) (base:=base) X G T.d_by_name (ps:=["defs"]) (fun _ _ _ _ _ _ us hl=>match us,hl with | [_],_=>rfl) fun f fd F=>ok_byM F
  have R4:=DfIn.ca (P:=l.prog) (w:=w) (base:=base) X G T.d_begun_with (ps:=["kinds","defs","name","args"]) (fun _ _ _ _ _ _ us hl=>match us,hl with | [_,_,_,_],_=>rfl) fun f fd F=>ok_begunZ F G8 z_len
  have R6:=DfIn.ca (P:=l.prog) (w:=w) (base:=base) X G T.d_arm_of (ps:=["arms","tag"]) (fun _ _ _ _ _ _ us hl=>match us,hl with | [_,_],_=>rfl) fun f fd F=>ok_arm F GX
  have W0:=T.m_Waiting___init__.ma (P:=l.prog) (w:=w) (mg:=mg) (base:=base) (x:="Waiting") (ps:=["self","wants","body","names"]) (fun _ _ _ _ _ _ us hl=>match us,hl with | [_,_,_,_],_=>rfl) T.c_Waiting.mks T.c_Waiting.kp n_Waiting fun f fd F=>ok_winit F NW
  have M0:=T.m_Run___init__.ma (P:=l.prog) (w:=w) (mg:=mg) (base:=base) (x:="Run") (ps:=["self","defs","steps"]) (fun _ _ _ _ _ _ us hl=>match us,hl with | [_,_,_],_=>rfl) T.c_Run.mks T.c_Run.kp n_Run fun f fd F=>ok_rinit F N
  have M1:=T.m_Run_begin_def.me (P:=l.prog) (w:=w) (mg:=mg) (base:=base) (ps:=["self","name","values"]) (fun _ _ _ _ _ _ us hl=>match us,hl with | [_,_,_],_=>rfl) fun f fd F=>ok_begin F N z_dict z_zip
  have M2:=T.m_Run_valued.me (P:=l.prog) (w:=w) (mg:=mg) (base:=base) (ps:=["self","names"]) (fun _ _ _ _ _ _ us hl=>match us,hl with | [_,_],_=>rfl) fun f fd F=>ok_valued F N
  have M3:=T.m_Run_outcome.me (P:=l.prog) (w:=w) (mg:=mg) (base:=base) (ps:=["self","deed"]) (fun _ _ _ _ _ _ us hl=>match us,hl with | [_,_],_=>rfl) fun f fd F=>ok_outZ F N M2 R2 z_tuple
  have M4:=T.m_Run_call.me (P:=l.prog) (w:=w) (mg:=mg) (base:=base) (ps:=["self","behind","name","values"]) (fun _ _ _ _ _ _ us hl=>match us,hl with | [_,_,_,_],_=>rfl) fun f fd F=>ok_call F N M1
  have M9:=T.m_Run_let.me (P:=l.prog) (w:=w) (mg:=mg) (base:=base) (ps:=["self","wants","deed","body"]) (fun _ _ _ _ _ _ us hl=>match us,hl with | [_,_,_,_],_=>rfl) fun f fd F=>ok_letG F N M3 M4 M2 W0
  have M5:=T.m_Run_give.me (P:=l.prog) (w:=w) (mg:=mg) (base:=base) (ps:=["self","value"]) (fun _ _ _ _ _ _ us hl=>match us,hl with | [_,_],_=>rfl) fun f fd F=>ok_giveG F N NW G3 z_len
  have M7:=T.m_Run_choose.me (P:=l.prog) (w:=w) (mg:=mg) (base:=base) (ps:=["self","body","value"]) (fun _ _ _ _ _ _ us hl=>match us,hl with | [_,_,_],_=>rfl) fun f fd F=>ok_choose F N GX G1C
  have M8:=T.m_Run_take_arm.me (P:=l.prog) (w:=w) (mg:=mg) (base:=base) (ps:=["self","arms","value"]) (fun _ _ _ _ _ _ us hl=>match us,hl with | [_,_,_],_=>rfl) fun f fd F=>ok_take F N R6 G1C z_zip
  have M6:=T.m_Run_go_on.me (P:=l.prog) (w:=w) (mg:=mg) (base:=base) (ps:=["self"]) (fun _ _ _ _ _ _ us hl=>match us,hl with | [_],_=>rfl) fun f fd F=>ok_goG F N M9 M7 M8 M5
  have R5:=DfIn.ca (P:=l.prog) (w:=w) (base:=base) X G T.d_run (ps:=["program","name","args","steps"]) (fun _ _ _ _ _ _ us hl=>match us,hl with | [_,_,_,_],_=>rfl) fun f fd F=>ok_runG F N FT R3 R4 M0 M1 M6
  have LD:=DfIn.ca (P:=l.prog) (w:=w) (base:=base) X G T.d__law_draw (ps:=["_law_state","_law_many"]) (fun _ _ _ _ _ _ us hl=>match us,hl with | [_,_],_=>rfl) fun f fd F=>ok_draw F z_len
  have LN:=DfIn.ca (P:=l.prog) (w:=w) (base:=base) X G T.d__law_name (ps:=["_law_world","_law_k"]) (fun _ _ _ _ _ _ us hl=>match us,hl with | [_,_],_=>rfl) fun f fd F=>ok_nm F
  have LS:=DfIn.ca (P:=l.prog) (w:=w) (base:=base) X G T.d__law_stem (ps:=["_law_state"]) (fun _ _ _ _ _ _ us hl=>match us,hl with | [_],_=>rfl) fun f fd F=>ok_stem F LD z_range
  have LB:=DfIn.ca (P:=l.prog) (w:=w) (base:=base) X G T.d__law_number (ps:=["_law_state"]) (fun _ _ _ _ _ _ us hl=>match us,hl with | [_],_=>rfl) fun f fd F=>ok_number F LD
  have LF:=DfIn.ca (P:=l.prog) (w:=w) (base:=base) X G T.d__law_defs (ps:=["_law_names","_law_nil","_law_cons","_law_words","_law_number_here"]) (fun _ _ _ _ _ _ us hl=>match us,hl with | [_,_,_,_,_],_=>rfl) fun f fd F=>ok_defs F
  have LO:=DfIn.ca (P:=l.prog) (w:=w) (base:=base) X G T.d__law_op (ps:=["_law_word","_law_a","_law_b"]) (fun _ _ _ _ _ _ us hl=>match us,hl with | [_,_,_],_=>rfl) fun f fd F=>ok_opL F z_int z_abs
  have LP:=DfIn.ca (P:=l.prog) (w:=w) (base:=base) X G T.d__law_map (ps:=["_law_row_here","_law_word","_law_number_here","_law_events"]) (fun _ _ _ _ _ _ us hl=>match us,hl with | [_,_,_,_],_=>rfl) fun f fd F=>ok_mapL F LO z_isinstance z_str
  have LQ:=DfIn.ca (P:=l.prog) (w:=w) (base:=base) X G T.d__law_fold (ps:=["_law_row_here","_law_word","_law_acc","_law_events"]) (fun _ _ _ _ _ _ us hl=>match us,hl with | [_,_,_,_],_=>rfl) fun f fd F=>ok_foldL F LO z_isinstance z_str
  have LA:=DfIn.ca (P:=l.prog) (w:=w) (base:=base) X G T.d__law_parts (ps:=["_law_row_here","_law_nil","_law_cons"]) (fun _ _ _ _ _ _ us hl=>match us,hl with | [_,_,_],_=>rfl) fun f fd F=>ok_rowP F
  have LU:=DfIn.ca (P:=l.prog) (w:=w) (base:=base) X G T.d__law_due (ps:=["_law_events","_law_steps","_law_parts_here"]) (fun _ _ _ _ _ _ us hl=>match us,hl with | [_,_,_],_=>rfl) fun f fd F=>ok_dueL F
  have LM:=DfIn.ca (P:=l.prog) (w:=w) (base:=base) X G T.d__law_same (ps:=["_law_got","_law_due_here"]) (fun _ _ _ _ _ _ us hl=>match us,hl with | [_,_],_=>rfl) fun f fd F=>ok_sameG F z_isinstance z_list z_bool z_tuple z_len
  have LR:=DfIn.ca (P:=l.prog) (w:=w) (base:=base) X G T.d__law_row (ps:=["_law_state"]) (fun _ _ _ _ _ _ us hl=>match us,hl with | [_],_=>rfl) fun f fd F=>ok_rowL F LD LB z_range
  have LT:=DfIn.ca (P:=l.prog) (w:=w) (base:=base) X G T.d__law_task (ps:=["_law_state","_law_way","_law_words","_law_number_here","_law_nil","_law_cons"]) (fun _ _ _ _ _ _ us hl=>match us,hl with | [_,_,_,_,_,_],_=>rfl) fun f fd F=>ok_task F LD LB LR LA LP LQ z_range z_len z_list z_reversed
  exact ok_law36 FL LD LN LS LB LF LT LU LM R5 z_len z_list z_range z_max
end GN
def PySem.W.Fast.tw517140869410245941:Unit:=()
def PySem.W.Fast.tw1337719120370342322:Unit:=()
def PySem.W.Fast.tw4543271247247788279:Unit:=()
def PySem.W.Fast.tw7862896047030375212:Unit:=()
def PySem.W.Fast.tw13355963269062088835:Unit:=()
def PySem.W.Fast.tw12975007239073073640:Unit:=()
def PySem.W.Fast.tw16759387630097056303:Unit:=()
def PySem.W.Fast.tw2273204234076959932:Unit:=()
def PySem.W.Fast.tw9362365645643987363:Unit:=()
def PySem.W.Fast.tw12112955937620045011:Unit:=()
def PySem.W.Fast.tw15686322110371160127:Unit:=()
def PySem.W.Fast.tw8887017453299715193:Unit:=()
def PySem.W.Fast.tw1770158839852126294:Unit:=()
def PySem.W.Fast.tw7031368268288494141:Unit:=()
def PySem.W.Fast.tw203366393958355137:Unit:=()
def PySem.W.Fast.tw6163002406927284699:Unit:=()
def PySem.W.Fast.tw753387863769527164:Unit:=()
def PySem.W.Fast.tw4539101474851606476:Unit:=()
def PySem.W.Fast.tw15365200199400115633:Unit:=()
def PySem.W.Fast.tw18047551007550113622:Unit:=()
def PySem.W.Fast.tw2827457894157134052:Unit:=()
def PySem.W.Fast.tw10475473576567539622:Unit:=()
def PySem.W.Fast.tw6583561191962453549:Unit:=()
def PySem.W.Fast.tw7844138013776768063:Unit:=()
def PySem.W.Fast.tw16574853219582484040:Unit:=()
def PySem.W.Fast.tw17840864455027688056:Unit:=()
def PySem.W.Fast.tw11852514242182392741:Unit:=()
def PySem.W.Fast.tw1268009828848881433:Unit:=()
def PySem.W.Fast.tw4599945917644796651:Unit:=()
def PySem.W.Fast.tw14244938664425668916:Unit:=()
def PySem.W.Fast.tw4658898816644835951:Unit:=()
def PySem.W.Fast.tw12641896148597662657:Unit:=()
def PySem.W.Fast.tw7349080877772178064:Unit:=()
def PySem.W.Fast.tw11285508779025107904:Unit:=()
def PySem.W.Fast.tw8660224831622766768:Unit:=()
def PySem.W.Fast.tw14851077655586941458:Unit:=()
def PySem.W.Fast.tw3505339528946553092:Unit:=()
def PySem.W.Fast.tw3781479060891596757:Unit:=()
def PySem.W.Fast.tw18290672151657601294:Unit:=()
def PySem.W.Fast.tw947963612409992080:Unit:=()
def PySem.W.Fast.tw13296511302314935324:Unit:=()
def PySem.W.Fast.tw9027114440882127775:Unit:=()
def PySem.W.Fast.tw10311981128188308463:Unit:=()
def PySem.W.Fast.tw9155154117201199964:Unit:=()
def PySem.W.Fast.tw1506234596920330369:Unit:=()
def PySem.W.Fast.tw17623122166463166514:Unit:=()
def PySem.W.Fast.tw5948102651077117947:Unit:=()
def PySem.W.Fast.tw3218366688694971434:Unit:=()
def PySem.W.Fast.tw14224325382219340109:Unit:=()
def PySem.W.Fast.tw17805044049941134154:Unit:=()
def PySem.W.Fast.tw9088147910421593485:Unit:=()
def PySem.W.Fast.tw17661683023492514221:Unit:=()
def PySem.W.Fast.tw13952228044546400647:Unit:=()
def PySem.W.Fast.tw76670403741300454:Unit:=()
def PySem.W.Fast.tw10475517269936055391:Unit:=()
def PySem.W.Fast.tw5363515032282946002:Unit:=()
def PySem.W.Fast.tw4763110931730164562:Unit:=()
def PySem.W.Fast.tw13346706082365106025:Unit:=()
def PySem.W.Fast.tw7848513385046538466:Unit:=()
def PySem.W.Fast.tw16712684063326406033:Unit:=()
def PySem.W.Fast.tw16465939532863212136:Unit:=()
def PySem.W.Fast.tw6911415245008381750:Unit:=()
def PySem.W.Fast.tw12835420269989055323:Unit:=()
def PySem.W.Fast.tw162265644480870109:Unit:=()
def PySem.W.Fast.tw9324835024136618202:Unit:=()
def PySem.W.Fast.tw8719201684132439429:Unit:=()
def PySem.W.Fast.tw14715466724017165331:Unit:=()
def PySem.W.Fast.tw3240551444028023924:Unit:=()
def PySem.W.Fast.tw693535502232661383:Unit:=()
def PySem.W.Fast.tw3168528434229288078:Unit:=()
def PySem.W.Fast.tw16118257104594670158:Unit:=()
def PySem.W.Fast.tw4622462131066253696:Unit:=()
def PySem.W.Fast.tw3593990079135875094:Unit:=()
def PySem.W.Fast.tw13819111293765076664:Unit:=()
def PySem.W.Fast.tw16871923677419675422:Unit:=()
def PySem.W.Fast.tw2029146510800507751:Unit:=()
def PySem.W.Fast.tw4534451068513475192:Unit:=()
def PySem.W.Fast.tw1397496199201890098:Unit:=()
def PySem.W.Fast.tw5783267550237994343:Unit:=()
def PySem.W.Fast.tw7658161594513749141:Unit:=()
def PySem.W.Fast.tw1465169290080045455:Unit:=()
def PySem.W.Fast.tw15050452999086358011:Unit:=()
def PySem.W.Fast.tw12246885419723518619:Unit:=()
def PySem.W.Fast.tw4869815777236767015:Unit:=()
def PySem.W.Fast.tw17108065063174356377:Unit:=()
def PySem.W.Fast.tw17027592342021374531:Unit:=()
def PySem.W.Fast.tw6716208958529464134:Unit:=()
def PySem.W.Fast.tw11475447595696064769:Unit:=()
def PySem.W.Fast.tw9929712581434793441:Unit:=()
def PySem.W.Fast.tw10479692845135114753:Unit:=()
open PySem PySem.W PyProof.Rows
set_option maxRecDepth 100000 in
set_option maxHeartbeats 0 in
theorem PySem.Challenge.cw_reusewise_k36_rows_and_late_holds : PySem.Challenge.rw_reusewise_k36_rows_and_late.Holds := by
  w_on; o_law; k_head; (case hw=>w_witness2)
  k_fill
  refine L2.walkT (l:=PySem.Challenge.rw_reusewise_k36_rows_and_late) (k:=8) (T:=132) (c:=136) rfl ⟨rfl,by decide,by decide⟩ rfl rfl (fun p=>rfl) (fun p=>rfl) ?F
  case F =>
    intro w mg fa h KX G hm
    refine' GN.top_ok (GN.TopK.mk ?c_Run ?a_Run_defs ?a_Run_steps ?a_Run_done ?a_Run_waiting ?a_Run_body ?a_Run_names ?a_Run_end ?c_Waiting ?a_Waiting_wants ?a_Waiting_body ?a_Waiting_names ?d_parts_of ?dt ?hcT ?n_NoValue ?v_in ?v_kp ?n_Fault ?n_ReuseError ?m_init ?x_word ?x_find ?x_hd ?x_over ?x_sa ?x_any ?x_ga ?x_ha ?x_sb ?x_kp ?x_cl ?r_sp ?r_rd ?r_fi ?k_x ?d_is_whole ?d_first_parts ?d_sizes ?d_in_bounds ?d_shape ?d_grown ?d_result_of ?d_reckoned ?d_by_name ?d_begun_with ?d_arm_of ?m_Waiting___init__ ?m_Run___init__ ?m_Run_begin_def ?m_Run_valued ?m_Run_outcome ?m_Run_call ?m_Run_let ?m_Run_give ?m_Run_choose ?m_Run_take_arm ?m_Run_go_on ?d_run ?d__law_draw ?d__law_name ?d__law_stem ?d__law_number ?d__law_defs ?d__law_op ?d__law_map ?d__law_fold ?d__law_parts ?d__law_due ?d__law_same ?d__law_row ?d__law_task ?d_law ?z_len ?z_range ?z_isinstance ?z_int ?z_bool ?z_reversed ?z_list ?z_str ?z_tuple ?z_dict ?z_zip ?z_abs ?z_max) KX G hm
    (case c_Run=>(refine' L2.OwnIn.mk ?n ?pg ?hd ?po ?sa ?mks ?kp; (case n=>k_is); (case pg=>k_is); (case hd=>k_is); (case po=>k_is); (case sa=>k_is); (case mks=>k_is); (case kp=>k_is)))
    (case a_Run_defs=>k_is)
    (case a_Run_steps=>k_is)
    (case a_Run_done=>k_is)
    (case a_Run_waiting=>k_is)
    (case a_Run_body=>k_is)
    (case a_Run_names=>k_is)
    (case a_Run_end=>k_is)
    (case c_Waiting=>(refine' L2.OwnIn.mk ?n ?pg ?hd ?po ?sa ?mks ?kp; (case n=>k_is); (case pg=>k_is); (case hd=>k_is); (case po=>k_is); (case sa=>k_is); (case mks=>k_is); (case kp=>k_is)))
    (case a_Waiting_wants=>k_is)
    (case a_Waiting_body=>k_is)
    (case a_Waiting_names=>k_is)
    (case d_parts_of=>(refine' L2.DdIn.mk ?a ?l ?c ?k; (case a=>k_is); (case l=>k_is); (case c=>k_is); (case k=>k_is)))
    (case dt=>(refine' L2.DtIn.mk ?a; (case a=>k_is)))
    (case hcT=>(exact rfl))
    (case n_NoValue=>k_is)
    (case v_in=>(first | kernel_rfl | rfl | decide +kernel))
    (case v_kp=>k_is)
    (case n_Fault=>k_is)
    (case n_ReuseError=>k_is)
    (case m_init=>(refine' L2.MeIn.mk ?a ?l ?c ?k ?n; (case a=>k_is); (case l=>k_is); (case c=>k_is); (case k=>k_is); (case n=>k_is)))
    (case x_word=>k_is)
    (case x_find=>k_is)
    (case x_hd=>k_is)
    (case x_over=>(first | kernel_rfl | rfl | decide +kernel))
    (case x_sa=>k_is)
    (case x_any=>(first | kernel_rfl | rfl | decide +kernel))
    (case x_ga=>k_is)
    (case x_ha=>k_is)
    (case x_sb=>k_is)
    (case x_kp=>k_is)
    (case x_cl=>(refine' L2.XcIn.mk ?a ?b ?c; (case a=>k_is); (case b=>(first | kernel_rfl | rfl | decide +kernel)); (case c=>k_is)))
    (case r_sp=>k_is)
    (case r_rd=>k_is)
    (case r_fi=>k_is)
    (case k_x=>(first | kernel_rfl | rfl | decide +kernel))
    (case d_is_whole=>(refine' L2.DfIn.mk ?a ?l ?c ?k; (case a=>k_is); (case l=>k_is); (case c=>k_is); (case k=>k_is)))
    (case d_first_parts=>(refine' L2.DfIn.mk ?a ?l ?c ?k; (case a=>k_is); (case l=>k_is); (case c=>k_is); (case k=>k_is)))
    (case d_sizes=>(refine' L2.DfIn.mk ?a ?l ?c ?k; (case a=>k_is); (case l=>k_is); (case c=>k_is); (case k=>k_is)))
    (case d_in_bounds=>(refine' L2.DfIn.mk ?a ?l ?c ?k; (case a=>k_is); (case l=>k_is); (case c=>k_is); (case k=>k_is)))
    (case d_shape=>(refine' L2.DfIn.mk ?a ?l ?c ?k; (case a=>k_is); (case l=>k_is); (case c=>k_is); (case k=>k_is)))
    (case d_grown=>(refine' L2.DfIn.mk ?a ?l ?c ?k; (case a=>k_is); (case l=>k_is); (case c=>k_is); (case k=>k_is)))
    (case d_result_of=>(refine' L2.DfIn.mk ?a ?l ?c ?k; (case a=>k_is); (case l=>k_is); (case c=>k_is); (case k=>k_is)))
    (case d_reckoned=>(refine' L2.DfIn.mk ?a ?l ?c ?k; (case a=>k_is); (case l=>k_is); (case c=>k_is); (case k=>k_is)))
    (case d_by_name=>(refine' L2.DfIn.mk ?a ?l ?c ?k; (case a=>k_is); (case l=>k_is); (case c=>k_is); (case k=>k_is)))
    (case d_begun_with=>(refine' L2.DfIn.mk ?a ?l ?c ?k; (case a=>k_is); (case l=>k_is); (case c=>k_is); (case k=>k_is)))
    (case d_arm_of=>(refine' L2.DfIn.mk ?a ?l ?c ?k; (case a=>k_is); (case l=>k_is); (case c=>k_is); (case k=>k_is)))
    (case m_Waiting___init__=>(refine' L2.MeIn.mk ?a ?l ?c ?k ?n; (case a=>k_is); (case l=>k_is); (case c=>k_is); (case k=>k_is); (case n=>k_is)))
    (case m_Run___init__=>(refine' L2.MeIn.mk ?a ?l ?c ?k ?n; (case a=>k_is); (case l=>k_is); (case c=>k_is); (case k=>k_is); (case n=>k_is)))
    (case m_Run_begin_def=>(refine' L2.MeIn.mk ?a ?l ?c ?k ?n; (case a=>k_is); (case l=>k_is); (case c=>k_is); (case k=>k_is); (case n=>k_is)))
    (case m_Run_valued=>(refine' L2.MeIn.mk ?a ?l ?c ?k ?n; (case a=>k_is); (case l=>k_is); (case c=>k_is); (case k=>k_is); (case n=>k_is)))
    (case m_Run_outcome=>(refine' L2.MeIn.mk ?a ?l ?c ?k ?n; (case a=>k_is); (case l=>k_is); (case c=>k_is); (case k=>k_is); (case n=>k_is)))
    (case m_Run_call=>(refine' L2.MeIn.mk ?a ?l ?c ?k ?n; (case a=>k_is); (case l=>k_is); (case c=>k_is); (case k=>k_is); (case n=>k_is)))
    (case m_Run_let=>(refine' L2.MeIn.mk ?a ?l ?c ?k ?n; (case a=>k_is); (case l=>k_is); (case c=>k_is); (case k=>k_is); (case n=>k_is)))
    (case m_Run_give=>(refine' L2.MeIn.mk ?a ?l ?c ?k ?n; (case a=>k_is); (case l=>k_is); (case c=>k_is); (case k=>k_is); (case n=>k_is)))
    (case m_Run_choose=>(refine' L2.MeIn.mk ?a ?l ?c ?k ?n; (case a=>k_is); (case l=>k_is); (case c=>k_is); (case k=>k_is); (case n=>k_is)))
    (case m_Run_take_arm=>(refine' L2.MeIn.mk ?a ?l ?c ?k ?n; (case a=>k_is); (case l=>k_is); (case c=>k_is); (case k=>k_is); (case n=>k_is)))
    (case m_Run_go_on=>(refine' L2.MeIn.mk ?a ?l ?c ?k ?n; (case a=>k_is); (case l=>k_is); (case c=>k_is); (case k=>k_is); (case n=>k_is)))
    (case d_run=>(refine' L2.DfIn.mk ?a ?l ?c ?k; (case a=>k_is); (case l=>k_is); (case c=>k_is); (case k=>k_is)))
    (case d__law_draw=>(refine' L2.DfIn.mk ?a ?l ?c ?k; (case a=>k_is); (case l=>k_is); (case c=>k_is); (case k=>k_is)))
    (case d__law_name=>(refine' L2.DfIn.mk ?a ?l ?c ?k; (case a=>k_is); (case l=>k_is); (case c=>k_is); (case k=>k_is)))
    (case d__law_stem=>(refine' L2.DfIn.mk ?a ?l ?c ?k; (case a=>k_is); (case l=>k_is); (case c=>k_is); (case k=>k_is)))
    (case d__law_number=>(refine' L2.DfIn.mk ?a ?l ?c ?k; (case a=>k_is); (case l=>k_is); (case c=>k_is); (case k=>k_is)))
    (case d__law_defs=>(refine' L2.DfIn.mk ?a ?l ?c ?k; (case a=>k_is); (case l=>k_is); (case c=>k_is); (case k=>k_is)))
    (case d__law_op=>(refine' L2.DfIn.mk ?a ?l ?c ?k; (case a=>k_is); (case l=>k_is); (case c=>k_is); (case k=>k_is)))
    (case d__law_map=>(refine' L2.DfIn.mk ?a ?l ?c ?k; (case a=>k_is); (case l=>k_is); (case c=>k_is); (case k=>k_is)))
    (case d__law_fold=>(refine' L2.DfIn.mk ?a ?l ?c ?k; (case a=>k_is); (case l=>k_is); (case c=>k_is); (case k=>k_is)))
    (case d__law_parts=>(refine' L2.DfIn.mk ?a ?l ?c ?k; (case a=>k_is); (case l=>k_is); (case c=>k_is); (case k=>k_is)))
    (case d__law_due=>(refine' L2.DfIn.mk ?a ?l ?c ?k; (case a=>k_is); (case l=>k_is); (case c=>k_is); (case k=>k_is)))
    (case d__law_same=>(refine' L2.DfIn.mk ?a ?l ?c ?k; (case a=>k_is); (case l=>k_is); (case c=>k_is); (case k=>k_is)))
    (case d__law_row=>(refine' L2.DfIn.mk ?a ?l ?c ?k; (case a=>k_is); (case l=>k_is); (case c=>k_is); (case k=>k_is)))
    (case d__law_task=>(refine' L2.DfIn.mk ?a ?l ?c ?k; (case a=>k_is); (case l=>k_is); (case c=>k_is); (case k=>k_is)))
    (case d_law=>(refine' L2.DfIn.mk ?a ?l ?c ?k; (case a=>k_is); (case l=>k_is); (case c=>k_is); (case k=>k_is)))
    (case z_len=>k_is)
    (case z_range=>k_is)
    (case z_isinstance=>k_is)
    (case z_int=>k_is)
    (case z_bool=>k_is)
    (case z_reversed=>k_is)
    (case z_list=>k_is)
    (case z_str=>k_is)
    (case z_tuple=>k_is)
    (case z_dict=>k_is)
    (case z_zip=>k_is)
    (case z_abs=>k_is)
    (case z_max=>k_is)
#print axioms PySem.Challenge.cw_reusewise_k36_rows_and_late_holds
