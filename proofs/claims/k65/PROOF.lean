import PyProof.Rows.All
import Wide.All
import OpenK.AllK
import Wide.FinOn
import Lean
import PyProof.EqAt
import PyProof.EqKinds
import PyProof.TupleCall
import PyProof.PassesOwn
import PyProof.StationsW
import OpenK.KCls
import PyProof.ExcAttrAll.ValueError
import PyProof.ExcClass3
import PyProof.WalksEnum
import PyProof.EnumMake
import PyProof.EnumFor
import PyProof.EnumStmt
import PyProof.MeetsStr
import PyProof.StrLawsTight
import PyProof.NeKinds
import PyProof.Rows.SumAny
import PyProof.SeqI3
import PyProof.ZipIter
import PyProof.WalksMore
import PyProof.ListNew
import KE.KRevIter
import PyProof.AutoSeq1
import PyProof.FactsAll.list
import PyProof.IsRules
import KE.KItemsList
import PyProof.StrBlockL
import PyProof.StrBlockI
import PyProof.StrBlock2
import PyProof.StrLawsIn
import PyProof.StrLawsChain
import PyProof.Rows.StrLast
import PyProof.Rows.StrItems
import KE.IntTextText
import KE.KDictList
import KE.KLam
import KE.KNestM
import PyProof.IsiTupleOf
import KE.KDictSum
import PyProof.Rows.SortWalk
import KE.KDictOf
import PyProof.Draws
import PyProof.DictWalks
import PyProof.AttrMissHeap
import PyProof.Walks
import KE.KIntText
import PySem.Challenge.RW_reusewise_k65_one_spoilt_row
set_option Elab.async false
set_option linter.all false
set_option maxRecDepth 100000
set_option maxHeartbeats 4000000
namespace L2
open PySem PySem.Spec PyProof.Rows
abbrev Key:=Sum Int Str
def keyIs:Key->Value->Bool
  | .inl k,v=>Value.isInt k v
  | .inr x,v=>Value.isStrOf x v
def keyH (w:World):Key->Int
  | .inl k=>hashInt k
  | .inr x=>hashStr w x
theorem keyIs_shape:∀ {k:Key} {v:Value},keyIs k v=true->(∃ i t,k=Sum.inl i/\v=Value.int i t)\/(∃ x t,k=Sum.inr x/\v=Value.str x t)
  | .inl i,v,h=>by
    obtain ⟨t,e⟩:=Value.isInt_shape (k:=i) (v:=v) h
    exact .inl ⟨i,t,rfl,e⟩
  | .inr x,v,h=>by
    obtain ⟨t,e⟩:=Value.isStrOf_shape (x:=x) (v:=v) h
    exact .inr ⟨x,t,rfl,e⟩
theorem keyIs_int (i:Int) (t:Tok):keyIs (.inl i) (.int i t)=true:=by simp [keyIs,Value.isInt]
theorem keyIs_str (x:Str) (t:Tok):keyIs (.inr x) (.str x t)=true:=by simp [keyIs,Value.isStrOf]
theorem key_ll (a b:Int):decide ((Sum.inl a:Key)=Sum.inl b)=(a == b):=by
  by_cases e:a=b
  · subst e; simp
  · have h:¬ (Sum.inl a:Key)=Sum.inl b:=fun q=>e (Sum.inl.inj q)
    rw [decide_eq_false h]
    exact (beq_eq_false_iff_ne.mpr e).symm
theorem key_rr (a b:Str):decide ((Sum.inr a:Key)=Sum.inr b)=decide (a=b):=by
  by_cases e:a=b
  · subst e; simp
  · have h:¬ (Sum.inr a:Key)=Sum.inr b:=fun q=>e (Sum.inr.inj q)
    rw [decide_eq_false h,decide_eq_false e]
theorem key_lr (a:Int) (b:Str):decide ((Sum.inl a:Key)=Sum.inr b)=false:=decide_eq_false (fun q=>nomatch q)
theorem key_rl (a:Str) (b:Int):decide ((Sum.inr a:Key)=Sum.inl b)=false:=decide_eq_false (fun q=>nomatch q)
def mixKind (prog:Program) (w:World):PySem.KeyKind prog w Key where
  is:=keyIs
  hash:=keyH w
  inj:=fun v a b ha hb=>by
    rcases keyIs_shape ha with ⟨i,t,rfl,rfl⟩ | ⟨x,t,rfl,rfl⟩
    · rcases keyIs_shape hb with ⟨j,u,rfl,e⟩ | ⟨y,u,rfl,e⟩
      · injection e with e1 _; rw [e1]
      · exact nomatch e
    · rcases keyIs_shape hb with ⟨j,u,rfl,e⟩ | ⟨y,u,rfl,e⟩
      · exact nomatch e
      · injection e with e1 _; rw [e1]
  byValue:=fun k v h=>by
    rcases keyIs_shape h with ⟨i,t,rfl,rfl⟩ | ⟨x,t,rfl,rfl⟩ <;> rfl
  pyHash:=fun hv h=>by
    rcases keyIs_shape hv with ⟨i,t,rfl,rfl⟩ | ⟨x,t,rfl,rfl⟩
    · exact wpAny_pyHash_int h
    · exact wpAny_pyHash_str h
  eqBool:=fun hu hv h=>by
    rcases keyIs_shape hu with ⟨i,t,rfl,rfl⟩ | ⟨x,t,rfl,rfl⟩
    · rcases keyIs_shape hv with ⟨j,u,rfl,rfl⟩ | ⟨y,u,rfl,rfl⟩
      · rw [key_ll] at h; exact wpAny_eqBool_int h
      · rw [key_lr] at h; exact SeqAt.EqAt.int_str i t y u _ _ _ _ h
    · rcases keyIs_shape hv with ⟨j,u,rfl,rfl⟩ | ⟨y,u,rfl,rfl⟩
      · rw [key_rl] at h; exact SeqAt.EqAt.str_int x t j u _ _ _ _ h
      · rw [key_rr] at h; exact wpAny_eqBool_str h
  «strs»:=fun k x t v h=>by
    rcases keyIs_shape h with ⟨i,u,rfl,e⟩ | ⟨y,u,rfl,e⟩
    · exact nomatch e
    · injection e with e1 _
      subst e1
      cases v <;> rfl
theorem mixKind_int (prog:Program) (w:World) (i:Int) (t:Tok):(mixKind prog w).is (.inl i) (.int i t)=true:=keyIs_int i t
theorem mixKind_str (prog:Program) (w:World) (x:Str) (t:Tok):(mixKind prog w).is (.inr x) (.str x t)=true:=keyIs_str x t
end L2
namespace L2
open PySem PySem.Spec PyProof.Rows
inductive V where
  | non | bl (b:Bool) | int (i:Int) | str (x:Str) | byt (b:Array UInt8) | flt (b:UInt64) | ref (a:Addr) | ty (n:String)
  deriving DecidableEq
def RelV:V->Value->Prop
  | .non,u=>u=Value.none
  | .bl b,u=>u=Value.bool b
  | .int i,u=>∃ t,u=Value.int i t
  | .str x,u=>∃ t,u=Value.str x t
  | .byt b,u=>∃ t,u=Value.bytes b t
  | .flt b,u=>∃ t,u=Value.float b t
  | .ref a,u=>u=Value.ref a
  | .ty n,u=>u=Value.type n
abbrev Vals:List V->List Value->Prop:=Paired RelV
theorem Vals.length {xs:List V} {us:List Value} (r:Vals xs us):xs.length=us.length:=Paired.length r
theorem Vals.get:∀ {xs:List V} {us:List Value} {i:Nat} {x:V},Vals xs us->xs[i]?=some x->∃ u,us[i]?=some u/\RelV x u
  | _,_,_,_,.nil,e=>by simp at e
  | _,_,0,_,.cons r _,e=>by simp at e; subst e; exact ⟨_,rfl,r⟩
  | _,_,i + 1,x,.cons _ t,e=>by
    obtain ⟨u,h1,h2⟩:=Vals.get (i:=i) (x:=x) t (by simpa using e)
    exact ⟨u,by simpa using h1,h2⟩
theorem Vals.set {x:V} {u:Value} (r:RelV x u):∀ {xs:List V} {us:List Value} (i:Nat),Vals xs us->Vals (xs.set i x) (us.set i u)
  | _,_,_,.nil=>.nil
  | _,_,0,.cons _ t=>.cons r t
  | _,_,i + 1,.cons q t=>.cons q (Vals.set r i t)
theorem Vals.append:∀ {xs ys:List V} {us ws:List Value},Vals xs us->Vals ys ws->Vals (xs ++ ys) (us ++ ws)
  | _,_,_,_,.nil,s=>s
  | _,_,_,_,.cons r t,s=>.cons r (Vals.append t s)
theorem Vals.take:∀ {xs:List V} {us:List Value} (n:Nat),Vals xs us->Vals (xs.take n) (us.take n)
  | _,_,0,_=>.nil
  | _,_,_ + 1,.nil=>.nil
  | _,_,n + 1,.cons r t=>.cons r (Vals.take n t)
theorem Vals.drop:∀ {xs:List V} {us:List Value} (n:Nat),Vals xs us->Vals (xs.drop n) (us.drop n)
  | _,_,0,r=>r
  | _,_,_ + 1,.nil=>.nil
  | _,_,n + 1,.cons _ t=>Vals.drop n t
theorem Vals.none_of:∀ {xs:List V} {us:List Value} {i:Nat},Vals xs us->xs[i]?=none->us[i]?=none:=fun {xs us i} r e=>by
  have h1:=r.length
  have h2:xs.length<=i:=List.getElem?_eq_none_iff.mp e
  exact List.getElem?_eq_none_iff.mpr (by lia)
def RelO:Option V->Option Value->Prop
  | some v,some u=>RelV v u
  | none,none=>True
  | _,_=>False
def KV {κ:Type}:List (κ × V)->List (κ × Value)->Prop:=Paired fun (p:κ × V) (q:κ × Value)=>p.1=q.1/\RelV p.2 q.2
def kV:Key->V
  | .inl i=>.int i
  | .inr x=>.str x
inductive HO where
  | lst (xs:List V)
  | tup (xs:List V)
  | dK (kvs:List (Key × V)) | dT (kvs:List (List Key × V))
  | set (S:Int->Bool) (n:Nat)
  | ins (C dx:Addr) (fs:List (Str × V))
  | own (x:Addr)
  | xd (fs:List (Str × V))
  | met (f x:Addr)
  | rng (lo hi:Int)
  | frz (o:Obj) (u:HO)
  | tbl (ps:Array Value)
  | ext (φ:Heap->Prop)
abbrev Hp:=Addr->Option HO
def upd (H:Hp) (a:Addr) (o:HO):Hp:=fun b=>if b=a then some o else H b
theorem upd_same {H:Hp} {a:Addr} {o:HO}:upd H a o a=some o:=by unfold upd; rw [if_pos rfl]
theorem upd_ne {H:Hp} {a b:Addr} {o:HO} (h:b≠a):upd H a o b=H b:=by unfold upd; rw [if_neg h]
theorem ne_of {H:Hp} {a b:Addr} {o u:HO} (h:H a=some o) (h':H b=some u) (d:o≠u):a≠b:=by
  intro e; subst e; rw [h] at h'; exact d (Option.some.inj h')
theorem ne_of_none {H:Hp} {a b:Addr} {o:HO} (h:H a=some o) (h':H b=none):a≠b:=by
  intro e; subst e; rw [h] at h'; cases h'
def IsTupN (h:Heap) (a:Addr) (items:Array Value):Prop:=∃ o,h.get? a=some o/\o.cls=.type "tuple"/\o.dict=none/\∃ n,o.data=.seq items n
theorem IsTupN.is {h:Heap} {a:Addr} {items:Array Value} (x:IsTupN h a items):IsTup h a items:=let ⟨o,a,b,_,c⟩:=x; ⟨o,a,b,c⟩
theorem IsTupN.new (h:Heap) (items:Array Value):IsTupN (h.push { cls:=.type "tuple",data:=.seq items }) h.objs.size items:=⟨_,Heap.get?_push_size _ rfl,rfl,rfl,_,rfl⟩
section
variable (P:Program) (w:World)
def ObjOk (H:Hp) (h:Heap) (a:Addr):HO->Prop
  | .lst xs=>xs.length<=sizeLine/\∃ (its:List Value) (n:Nat),Vals xs its/\h.get? a=some { cls:=.type "list",data:=.seq its.toArray n }
  | .tup xs=>xs.length<=sizeLine/\∃ its:List Value,Vals xs its/\IsTupN h a its.toArray
  | .dK kvs=>kvs.length<=sizeLine/\(a == sysModules)=false/\∃ vs,KV kvs vs/\h.DictOf (mixKind P w) a vs
  | .dT kvs=>kvs.length<=sizeLine/\(a == sysModules)=false/\∃ xs:List (List Key × Addr × Value),
      Paired (fun (p:List Key × V) (q:List Key × Addr × Value)=>p.1=q.1/\H q.2.1=some (.tup (p.1.map kV))/\RelV p.2 q.2.2) kvs xs /\
      ∃ o es ep,h.get? a=some o/\o.ExactDict/\o.data=.dict es ep/\es.toList=xs.map (entryOfKey (tupleKind (mixKind P w)))/\(xs.map (·.1)).Nodup
  | .set S n=>h.SetOf (intKind P w) a S n
  | .ins C dx fs=>H dx=some (.own a)/\fs.length<=1000/\dx≠a/\h.get? a=some (PySem.W.instObj C dx) /\
      ∃ mA,h.Ns1 dx mA/\(∀ f,RelO (fs.lookup f) (mA f))/\PySem.Within mA (fs.map (·.1))
  | .own _=>∃ o,h.get? a=some o
  | .xd fs=>∃ mA,h.Ns1 a mA/\∀ f,RelO (fs.lookup f) (mA f)
  | .rng lo hi=>∃ t u v,h.get? a=some { cls:=.type "range",data:=.fields #[.int lo t,.int hi u,.int 1 v] }
  | .frz o u=>h.get? a=some o/\ObjOk H h a u
  | .tbl ps=>h.get? a=some { cls:=.none,data:=.fields ps }
  | .met f x=>h.get? a=some (PySem.W.methodObj (.ref f) (.ref x))
  | .ext φ=>φ h/\(∃ o,h.get? a=some o)/\∀ h1 h2:Heap,φ h1->(∀ o,h1.get? a=some o->h2.get? a=some o)->φ h2
def HOk (H:Hp) (h:Heap):Prop:=∀ a o,H a=some o->ObjOk P w H h a o
end
section
variable {P:Program} {w:World} {H H':Hp} {h h':Heap} {a:Addr} {o:HO}
theorem ObjOk.lt (x:ObjOk P w H h a o):a < h.objs.size:=by
  cases o with
  | lst xs=>obtain ⟨_,_,_,_,e⟩:=x; exact Heap.lt_size e
  | tup xs=>obtain ⟨_,_,_,p⟩:=x; exact p.is.lt
  | dK kvs=>obtain ⟨_,_,_,_,o,_,_,e,_⟩:=x; exact Heap.lt_size e
  | dT kvs=>obtain ⟨_,_,_,_,o,_,_,e,_⟩:=x; exact Heap.lt_size e
  | set S n=>obtain ⟨o,_,_,_,e,_⟩:=x; exact Heap.lt_size e
  | ins C dx fs=>obtain ⟨_,_,_,e,_⟩:=x; exact Heap.lt_size e
  | own y=>obtain ⟨_,e⟩:=x; exact Heap.lt_size e
  | xd fs=>obtain ⟨_,⟨_,_,_,e,_⟩,_⟩:=x; exact Heap.lt_size e
  | rng lo hi=>obtain ⟨_,_,_,e⟩:=x; exact Heap.lt_size e
  | frz ob u=>obtain ⟨e,_⟩:=x; exact Heap.lt_size e
  | tbl ps=>exact Heap.lt_size (show h.get? a=some _ from x)
  | met f y=>exact Heap.lt_size (show h.get? a=some _ from x)
  | ext φ=>obtain ⟨_,⟨_,e⟩,_⟩:=x; exact Heap.lt_size e
theorem Paired.mapP {α β:Type} {F G:α->β->Prop}:∀ {l₁:List α} {l₂:List β},Paired F l₁ l₂->(∀ a b,F a b->G a b)->Paired G l₁ l₂
  | _,_,.nil,_=>.nil
  | _,_,.cons r t,f=>.cons (f _ _ r) (Paired.mapP t f)
theorem ObjOk.stay (x:ObjOk P w H h a o) (k:∀ b u,(b=a\/H b=some (.own a))->h.get? b=some u->h'.get? b=some u)
    (ho:∀ b,H b=some (.own a)->H' b=some (.own a)) (ht:∀ b xs,H b=some (.tup xs)->H' b=some (.tup xs)):ObjOk P w H' h' a o:=by
  induction o with
  | lst xs=>obtain ⟨z,its,n,r,e⟩:=x; exact ⟨z,its,n,r,k _ _ (.inl rfl) e⟩
  | tup xs=>obtain ⟨z,its,r,ob,e,c⟩:=x; exact ⟨z,its,r,ob,k _ _ (.inl rfl) e,c⟩
  | dK kvs=>obtain ⟨z,y,vs,r,ob,es,ep,e,c⟩:=x; exact ⟨z,y,vs,r,ob,es,ep,k _ _ (.inl rfl) e,c⟩
  | dT kvs =>
    obtain ⟨z,y,xs,r,ob,es,ep,e,c⟩:=x
    exact ⟨z,y,xs,Paired.mapP r fun p q z=>⟨z.1,ht _ _ z.2.1,z.2.2⟩,ob,es,ep,k _ _ (.inl rfl) e,c⟩
  | set S n=>obtain ⟨ob,es,ep,t,e,c⟩:=x; exact ⟨ob,es,ep,t,k _ _ (.inl rfl) e,c⟩
  | ins C dx fs =>
    obtain ⟨d,z,ne,e,mA,⟨od,es,ep,e2,c⟩,r⟩:=x
    exact ⟨ho _ d,z,ne,k _ _ (.inl rfl) e,mA,⟨od,es,ep,k _ _ (.inr d) e2,c⟩,r⟩
  | own y=>obtain ⟨ob,e⟩:=x; exact ⟨ob,k _ _ (.inl rfl) e⟩
  | xd fs=>obtain ⟨mA,⟨od,es,ep,e,c⟩,r⟩:=x; exact ⟨mA,⟨od,es,ep,k _ _ (.inl rfl) e,c⟩,r⟩
  | rng lo hi=>obtain ⟨t,u,v,e⟩:=x; exact ⟨t,u,v,k _ _ (.inl rfl) e⟩
  | frz ob u ih=>obtain ⟨e,q⟩:=x; exact ⟨k _ _ (.inl rfl) e,ih q⟩
  | tbl ps =>
    have e:h.get? a=some { cls:=.none,data:=.fields ps }:=x
    show h'.get? a=some { cls:=.none,data:=.fields ps }
    exact k a _ (.inl rfl) e
  | met f y =>
    have e:h.get? a=some (PySem.W.methodObj (.ref f) (.ref y)):=x
    show h'.get? a=some (PySem.W.methodObj (.ref f) (.ref y))
    exact k a _ (.inl rfl) e
  | ext φ=>obtain ⟨p,⟨o,e⟩,st⟩:=x; exact ⟨st _ _ p fun o q=>k _ _ (.inl rfl) q,⟨o,k _ _ (.inl rfl) e⟩,st⟩
theorem HOk.lt (x:HOk P w H h) (e:H a=some o):a < h.objs.size:=(x a o e).lt
theorem HOk.fresh (x:HOk P w H h) (e:h.objs.size<=a):H a=none:=by
  cases q:H a with
  | none=>rfl
  | some u=>exact absurd (Nat.lt_of_lt_of_le (x.lt q) e) (Nat.lt_irrefl _)
theorem HOk.kept (x:HOk P w H h) (k:∀ b u,h.get? b=some u->h'.get? b=some u):HOk P w H h':=fun a o e =>
  (x a o e).stay (fun b u _ q=>k b u q) (fun _ q=>q) fun _ _ q=>q
theorem HOk.laid (x:HOk P w H h) (k:∀ b u,h.get? b=some u->h'.get? b=some u) (hp:h.objs.size<=a) (new:ObjOk P w (upd H a o) h' a o):HOk P w (upd H a o) h':=fun b u e=>by
  have hn:=x.fresh hp
  by_cases hb:b=a
  · subst hb; rw [upd_same] at e; cases e; exact new
  · rw [upd_ne hb] at e
    exact (x b u e).stay (fun c v _ q=>k c v q) (fun c q=>by rw [upd_ne (ne_of_none q hn)]; exact q) fun c xs q=>by rw [upd_ne (ne_of_none q hn)]; exact q
end
def Rd (H:Hp) (a:Addr) (u:HO):Prop:=H a=some u\/∃ o,H a=some (.frz o u)
theorem Rd.of {H:Hp} {a:Addr} {u:HO} (h:H a=some u):Rd H a u:=.inl h
theorem Rd.ok {P:Program} {w:World} {H:Hp} {h:Heap} {a:Addr} {u:HO} (r:Rd H a u) (x:HOk P w H h):ObjOk P w H h a u:=by
  rcases r with r | ⟨o,r⟩
  · exact x a u r
  · obtain ⟨_,q⟩:=x a _ r
    exact q
def Mut:Option HO->Prop
  | some (.lst _)=>True
  | some (.dK _)=>True
  | some (.dT _)=>True
  | some (.set _ _)=>True
  | some (.ins _ _ _)=>True
  | some (.ext _)=>True
  | _=>False
section
variable {P:Program} {w:World} {H:Hp} {h h':Heap} {x e:Addr} {o':HO}
theorem HOk.write (ok:HOk P w H h) (mu:Mut (H x)) (he:e=x\/H e=some (.own x)) (k:∀ b u,b≠e->h.get? b=some u->h'.get? b=some u) (heo:∃ u,h'.get? e=some u)
    (new:ObjOk P w (upd H x o') h' x o'):HOk P w (upd H x o') h':=fun b u q=>by
  have nown:∀ c y,H c=some (.own y)->c≠x:=fun c y r z=>by subst z; rw [r] at mu; exact mu
  have ntup:∀ c xs,H c=some (.tup xs)->c≠x:=fun c xs r z=>by subst z; rw [r] at mu; exact mu
  by_cases hb:b=x
  · subst hb; rw [upd_same] at q; cases q; exact new
  · rw [upd_ne hb] at q
    by_cases hbe:b=e
    · have q':H b=some (.own x):=by
        rcases he with z | z
        · exact absurd (hbe.trans z) hb
        · rw [hbe]; exact z
      rw [q] at q'; cases q'
      obtain ⟨v,hv⟩:=heo
      exact ⟨v,by rw [hbe]; exact hv⟩
    · refine (ok b u q).stay (fun c v hc r=>k c v ?_ r) (fun c r=>by rw [upd_ne (nown c b r)]; exact r) fun c xs r=>by rw [upd_ne (ntup c xs r)]; exact r
      rcases hc with rfl | hc
      · exact hbe
      · rintro rfl
        rcases he with z | z
        · exact nown c b hc z
        · rw [hc] at z; cases z; exact hb rfl
end
structure Un (fs ex:List Addr) (H H':Hp) (h h':Heap):Prop where
  keep:∀ b o,h.get? b=some o->H b=none->b ∉ fs->b ∉ ex->h'.get? b=some o
  slot:∀ b o,h.get? b=some o->H b=none->b∈fs->b ∉ ex->∃ sl,h'.get? b=some { o with slots:=sl }
  free:∀ b o,h.get? b=some o->H b=none->b ∉ ex->H' b=none
  there:∀ b o,h.get? b=some o->b ∉ ex->∃ o',h'.get? b=some o'
  tups:∀ b xs,H b=some (.tup xs)->H' b=some (.tup xs)
  frzs:∀ b o u,H b=some (.frz o u)->H' b=some (.frz o u)
  tbls:∀ b ps,H b=some (.tbl ps)->∃ more,H' b=some (.tbl (ps ++ more))
section
variable {fs fs' ex ex':List Addr} {H H1 H2:Hp} {h h1 h2 h':Heap} {a x e:Addr} {o:HO}
theorem Un.any (u:Un fs ex H H1 h h1) {b:Addr} {ob:Obj} (q:h.get? b=some ob) (n:H b=none) (hx:b ∉ ex):∃ sl,h1.get? b=some { ob with slots:=sl }:=by
  by_cases hb:b∈fs
  · exact u.slot b ob q n hb hx
  · exact ⟨ob.slots,u.keep b ob q n hb hx⟩
theorem Un.trans (a:Un fs ex H H1 h h1) (b:Un fs ex H1 H2 h1 h2):Un fs ex H H2 h h2 where
  keep:=fun c ob q n hc hx=>b.keep c ob (a.keep c ob q n hc hx) (a.free c ob q n hx) hc hx
  slot:=fun c ob q n hc hx=>by
    obtain ⟨sl,e1⟩:=a.slot c ob q n hc hx
    obtain ⟨sl',e2⟩:=b.slot c _ e1 (a.free c ob q n hx) hc hx
    exact ⟨sl',e2⟩
  free:=fun c ob q n hx=>by
    obtain ⟨o',e1⟩:=a.there c ob q hx
    exact b.free c o' e1 (a.free c ob q n hx) hx
  there:=fun c ob q hx=>by
    obtain ⟨o',e1⟩:=a.there c ob q hx
    exact b.there c o' e1 hx
  tups:=fun c xs q=>b.tups c xs (a.tups c xs q)
  frzs:=fun c ob xs q=>b.frzs c ob xs (a.frzs c ob xs q)
  tbls:=fun c ps q=>by
    obtain ⟨m1,e1⟩:=a.tbls c ps q
    obtain ⟨m2,e2⟩:=b.tbls c _ e1
    exact ⟨m1 ++ m2,by rw [e2,Array.append_assoc]⟩
theorem Un.kept (k:∀ b u,h.get? b=some u->h'.get? b=some u):Un fs ex H H h h' :=
  ⟨fun b ob q _ _ _=>k b ob q,fun b ob q _ _ _=>⟨ob.slots,k b ob q⟩,fun _ _ _ n _=>n,fun b ob q _=>⟨ob,k b ob q⟩,fun _ _ q=>q,fun _ _ _ q=>q,fun _ ps q=>⟨#[],by rw [q]; simp⟩⟩
theorem Un.refl:Un fs ex H H h h:=Un.kept fun _ _ q=>q
theorem Un.laid (k:∀ b u,h.get? b=some u->h'.get? b=some u) (hp:h.objs.size<=a) (hn:H a=none):Un fs ex H (upd H a o) h h' where
  keep:=fun b u q _ _ _=>k b u q
  slot:=fun b u q _ _ _=>⟨u.slots,k b u q⟩
  free:=fun b u q n _=>by rw [upd_ne (Nat.ne_of_lt (Nat.lt_of_lt_of_le (Heap.lt_size q) hp))]; exact n
  there:=fun b u q _=>⟨u,k b u q⟩
  tups:=fun b xs q=>by rw [upd_ne (ne_of_none q hn)]; exact q
  frzs:=fun b u xs q=>by rw [upd_ne (ne_of_none q hn)]; exact q
  tbls:=fun b ps q=>⟨#[],by rw [upd_ne (ne_of_none q hn),q]; simp⟩
theorem Un.write (mu:Mut (H x)) (he:e=x\/H e=some (.own x)) (k:∀ b u,b≠e->h.get? b=some u->h'.get? b=some u) (heo:∃ u,h'.get? e=some u):Un fs ex H (upd H x o) h h':=by
  have hx:∀ b,H b=none->b≠x:=fun b n z=>by subst z; rw [n] at mu; exact mu
  have hb:∀ b,H b=none->b≠e:=fun b n z=>by
    subst z
    rcases he with r | r
    · exact hx b n r
    · rw [n] at r; cases r
  have hm:∀ b u,H b=some u->¬ Mut (some u)->b≠x:=fun b u q nm z=>by subst z; rw [q] at mu; exact nm mu
  refine ⟨fun b u q n _ _=>k b u (hb b n) q,fun b u q n _ _=>⟨u.slots,k b u (hb b n) q⟩,fun b u q n _=>by rw [upd_ne (hx b n)]; exact n,fun b u q _=>?_,
    fun b xs q=>by rw [upd_ne (hm b _ q fun z=>z)]; exact q,fun b u xs q=>by rw [upd_ne (hm b _ q fun z=>z)]; exact q,fun b ps q=>⟨#[],by rw [upd_ne (hm b _ q fun z=>z),q]; simp⟩⟩
  by_cases hbe:b=e
  · subst hbe; exact heo
  · exact ⟨u,k b u hbe q⟩
theorem Un.mono (u:Un fs ex H H1 h h1) (hs:∀ b∈fs,b∈fs') (hx:∀ b∈ex,b∈ex'):Un fs' ex' H H1 h h1 :=
  ⟨fun b ob q n hb he=>u.keep b ob q n (fun z=>hb (hs b z)) fun z=>he (hx b z),fun _ _ q n _ he=>u.any q n fun z=>he (hx _ z),fun b ob q n he=>u.free b ob q n fun z=>he (hx b z),fun b ob q he=>u.there b ob q fun z=>he (hx b z),u.tups,u.frzs,u.tbls⟩
end
def trk (h:Heap) (H:Hp):List Addr:=(List.range h.objs.size).filter fun a=>(H a).isSome
def hidT (h:Heap) (H:Hp):Heap:=PySem.W.hideAll h (trk h H)
theorem hidT_size (h:Heap) (H:Hp):(hidT h H).objs.size=h.objs.size:=PySem.W.hideAll_size _ _
theorem hidT_get {h:Heap} {H:Hp} {b:Addr} {o:Obj} (e:h.get? b=some o) (n:H b=none):(hidT h H).get? b=some o :=
  PySem.W.hideAll_get _ e fun hm=>by
    have q:(H b).isSome=true:=(List.mem_filter.mp hm).2
    rw [n] at q; simp at q
theorem of_hidT {h:Heap} {H:Hp} {b:Addr} {o:Obj} (e:(hidT h H).get? b=some o):h.get? b=some o/\H b=none:=by
  have e':h.get? b=some o:=PySem.W.of_hideAll (trk h H) e
  refine ⟨e',?_⟩
  cases q:H b with
  | none=>rfl
  | some x =>
    have hm:b∈trk h H:=List.mem_filter.mpr ⟨List.mem_range.mpr (Heap.lt_size e'),by simp [q]⟩
    have z:(hidT h H).get? b=none:=PySem.W.hideAll_none (trk h H) hm
    rw [z] at e; cases e
def allNews (g h:Heap) (L:Addr):List (Addr × Obj):=(List.range h.objs.size).filterMap fun a=>if a=L\/(g.get? a).isSome=true then none else (h.get? a).map fun o=>(a,o)
def rest (g h:Heap) (L d:Addr):List (Addr × Obj):=(allNews g h L).filter fun p=>decide (p.1≠d)
end L2
namespace L2
open PySem PySem.Spec PyProof.Rows
structure Mod (K:PySem.W.Frag) (mg:Str->Option Value) (base:Heap):Prop where
  kin:K.In base
  glob:base.Ns mainGlobals mg
  blt:∃ mb,base.Ns builtinsNs mb/\∀ x:Str,x≠"__name__"->mb x=bootBuiltins x
  nolimit:base.NoLimit
/-- the context: a def's body (or a comprehension's block) running. base: fixed through the whole law; s₀, H₀: the entry; outer: the frames whose slots others may change (a def's callers); stack: all frames that run;
   ex: iterators that were made ahead of the entry and are walked here (a comprehension's); fn: the names whose cells were made at the entry (a def: all; a comprehension's block: its own); calm: not within an except suite; pn: pins that every state bears; xe: what is wanted of an exception that leaves the code -/
structure Cx where
  prog:Program
  w:World
  K:PySem.W.Frag
  mg:Str->Option Value
  base:Heap
  A:Around
  N:List Str
  s₀:Shared
  H₀:Hp
  env:Env
  outer:List Env
  stack:List Env
  ex:List Addr
  fn:Str->Bool
  calm:Bool
  pn:List (Addr × Obj)
  xe:Value->Shared->Prop
def frs (l:List Env):List Addr:=l.filterMap (·.frame)
abbrev Cx.fs (X:Cx):List Addr:=frs X.outer
def Vis (sc:Scope) (x:Str):Prop:=sc.names.lookup x=some .local\/sc.names.lookup x=some .cell\/sc.names.lookup x=some .free
def Loc (sc:Scope) (x:Str):Prop:=sc.names.lookup x=some .local\/sc.names.lookup x=some .cell
def Look (env:Env) (h:Heap) (m:Str->Option Value) (x:Str) (u:Value):Prop :=
  (env.kindOf x=some .local/\m x=some u)\/((env.kindOf x=some .cell\/env.kindOf x=some .free)/\∃ c,env.cells.lookup x=some c/\h.IsCell c (some u))
structure Cx.Ok (X:Cx):Prop where
  mod:Mod X.K X.mg X.base
  kind:X.env.scope.kind=.function
  glob:X.env.globals=mainGlobals
  blt:X.env.builtins=builtinsNs
  above:X.s₀.heap.objs.size<=X.env.locals
  inj:∀ x y c,X.env.cells.lookup x=some c->X.env.cells.lookup y=some c->x=y
  has:∀ x,(X.env.kindOf x=some .cell\/X.env.kindOf x=some .free)->∃ c,X.env.cells.lookup x=some c
  cab:∀ x c,X.fn x=true->X.env.cells.lookup x=some c->X.s₀.heap.objs.size<=c
  hd:X.calm=true->X.A.handled=none
  frames:X.A.frames=some X.stack
  stk:X.stack=X.outer\/(X.stack=X.env :: X.outer/\X.env.frame=some X.env.locals)
  exf:∀ b∈X.ex,b≠X.env.locals/\∀ x c,X.env.cells.lookup x=some c->c≠b
  bs:∀ b o,X.base.get? b=some o->X.s₀.heap.get? b=some o/\X.H₀ b=none
  bsz:X.base.objs.size<=X.s₀.heap.objs.size
  noex:∀ b o,X.base.get? b=some o->b ∉ X.ex
  exfs:∀ b∈X.ex,b ∉ X.fs
  funs:X.s₀.heap.FunFrames X.base X.outer
  frf:∀ b∈X.fs,X.H₀ b=none
structure Inv (X:Cx) (pins:List (Addr × Obj)) (σ:List (Option V)) (H:Hp) (s:Shared):Prop where
  ok:X.Ok
  os:s.os=X.s₀.os
  bare:AllBare s.gens
  base:Un X.fs X.ex X.H₀ H X.s₀.heap s.heap
  loc:∃ m,s.heap.Ns X.env.locals m/\∀ (i:Nat) (x:Str) (v:V),X.N[i]?=some x->σ[i]?=some (some v)->Vis X.env.scope x->∃ u,RelV v u/\Look X.env s.heap m x u
  cell:∀ x c,X.env.cells.lookup x=some c->∃ v,s.heap.IsCell c v
  free:H X.env.locals=none
  freeC:∀ x c,X.env.cells.lookup x=some c->H c=none
  pin:∀ p∈X.pn ++ pins,s.heap.get? p.1=some p.2/\H p.1=none/\p.1≠X.env.locals/\p.1 ∉ X.fs/\∀ v,p.2.data≠.cell v
  hok:HOk X.prog X.w H s.heap
  len:σ.length=X.N.length
section
variable {X:Cx} {pins:List (Addr × Obj)} {σ:List (Option V)} {H H':Hp} {s:Shared} {h':Heap}
theorem Cx.Ok.nofr (ok:X.Ok) {b:Addr} {o:Obj} (e:X.base.get? b=some o):b ∉ X.fs:=fun hb=>by
  have:=(ok.funs.mem hb).1
  rw [e] at this; cases this
theorem Inv.bs (I:Inv X pins σ H s):∀ b o,X.base.get? b=some o->s.heap.get? b=some o/\H b=none:=fun b o e =>
  ⟨I.base.keep b o (I.ok.bs b o e).1 (I.ok.bs b o e).2 (I.ok.nofr e) (I.ok.noex b o e),I.base.free b o (I.ok.bs b o e).1 (I.ok.bs b o e).2 (I.ok.noex b o e)⟩
theorem Inv.bk (I:Inv X pins σ H s):∀ b o,X.base.get? b=some o->s.heap.get? b=some o:=fun b o e=>(I.bs b o e).1
theorem Inv.mod (I:Inv X pins σ H s):Mod X.K X.mg X.base:=I.ok.mod
theorem Inv.kIn (I:Inv X pins σ H s):X.K.In s.heap:=I.ok.mod.kin.keeps I.bk
theorem Inv.nolimit (I:Inv X pins σ H s):s.heap.NoLimit:=I.ok.mod.nolimit.keeps I.bk
theorem Inv.fr (I:Inv X pins σ H s):∃ m,Fr X.base X.env.locals s.heap m :=
  let ⟨m,hn,_⟩:=I.loc
  ⟨m,hn,I.bk,Nat.le_trans I.ok.bsz I.ok.above⟩
theorem Inv.lt (I:Inv X pins σ H s):X.env.locals < s.heap.objs.size:=let ⟨_,hn,_⟩:=I.loc; hn.lt
theorem Inv.sz (I:Inv X pins σ H s):X.s₀.heap.objs.size<=s.heap.objs.size:=Nat.le_trans I.ok.above (Nat.le_of_lt I.lt)
theorem Inv.nofs (I:Inv X pins σ H s) {a:Addr} (h:s.heap.objs.size<=a):a ∉ X.fs:=fun hb=>by
  obtain ⟨_,o,ho,_⟩:=I.ok.funs.mem hb
  exact absurd (Nat.lt_of_lt_of_le (Heap.lt_size ho) (Nat.le_trans I.sz h)) (Nat.lt_irrefl _)
theorem Inv.cne (I:Inv X pins σ H s):∀ x c,X.env.cells.lookup x=some c->c≠X.env.locals:=fun x c e z=>by
  obtain ⟨v,o,ho,hd⟩:=I.cell x c e
  obtain ⟨m,⟨o',es,ep,ho',hd',_⟩,_⟩:=I.loc
  rw [z,ho'] at ho; cases ho; rw [hd'] at hd; cases hd
theorem Inv.funs (I:Inv X pins σ H s):s.heap.FunFrames X.base X.outer:=by
  have all:∀ (l:List Env),(∀ b∈frs l,b∈X.fs)->X.s₀.heap.FunFrames X.base l->s.heap.FunFrames X.base l:=by
    intro l
    induction l with
    | nil=>intro _ _; trivial
    | cons env r ih =>
      intro hs hl
      obtain ⟨hk,⟨L,o,hf,hn,ho,hd⟩,hr⟩:=hl
      have hL:L∈X.fs:=hs L (by unfold frs; rw [List.filterMap_cons,hf]; exact List.mem_cons_self)
      obtain ⟨sl,e⟩:=I.base.slot L o ho (I.ok.frf L hL) hL fun z=>I.ok.exfs L z hL
      exact ⟨hk,⟨L,_,hf,hn,e,hd⟩,ih (fun b hb=>hs b (by unfold frs; rw [List.filterMap_cons,hf]; exact List.mem_cons_of_mem _ hb)) hr⟩
  exact all X.outer (fun _ hb=>hb) I.ok.funs
theorem Inv.stack (I:Inv X pins σ H s):s.heap.FunFrames X.base X.stack:=by
  rcases I.ok.stk with e | ⟨e,hf⟩
  · rw [e]; exact I.funs
  · rw [e]
    obtain ⟨m,hn,_⟩:=I.loc
    refine .cons (by rw [I.ok.kind]; decide) hf hn ?_ I.funs
    exact Heap.get?_none_of_le (Nat.le_trans I.ok.bsz I.ok.above)
theorem Inv.stkSub (I:Inv X pins σ H s):∀ b∈frs X.stack,b∈X.env.locals :: X.fs:=fun b hb=>by
  rcases I.ok.stk with e | ⟨e,hf⟩
  · rw [e] at hb; exact List.mem_cons_of_mem _ hb
  · rw [e] at hb
    unfold frs at hb
    rw [List.filterMap_cons,hf] at hb
    exact hb
theorem Inv.stkFree (I:Inv X pins σ H s):∀ b∈frs X.stack,H b=none:=fun b hb=>by
  rcases List.mem_cons.mp (I.stkSub b hb) with e | hb
  · rw [e]; exact I.free
  · obtain ⟨_,o,ho,_⟩:=I.ok.funs.mem hb
    exact I.base.free b o ho (I.ok.frf b hb) fun z=>I.ok.exfs b z hb
theorem Inv.step {g':Array GenState} {t':Nat} {d':Drawn} {ch:List Addr} (I:Inv X pins σ H s)
    (hch:∀ b∈ch,(b∈X.ex\/X.s₀.heap.objs.size<=b)/\b≠X.env.locals/\(∀ x c,X.env.cells.lookup x=some c->c≠b)/\∀ p∈X.pn ++ pins,p.1≠b)
    (keep:∀ b o,b≠X.env.locals->b ∉ X.fs->b ∉ ch->s.heap.get? b=some o->H b=none->h'.get? b=some o)
    (slot:∀ b o,b≠X.env.locals->b∈X.fs->b ∉ ch->s.heap.get? b=some o->H b=none->∃ sl,h'.get? b=some { o with slots:=sl }) (free:∀ b o,b ∉ ch->s.heap.get? b=some o->H b=none->H' b=none)
    (there:∀ b o,b ∉ ch->s.heap.get? b=some o->∃ o',h'.get? b=some o')
    (tups:∀ b xs,H b=some (.tup xs)->H' b=some (.tup xs)) (frzs:∀ b o u,H b=some (.frz o u)->H' b=some (.frz o u)) (tbls:∀ b ps,H b=some (.tbl ps)->∃ more,H' b=some (.tbl (ps ++ more)))
    (ns:∀ m,s.heap.Ns X.env.locals m->h'.Ns X.env.locals m) (hok:HOk X.prog X.w H' h') (hg:AllBare g') :
    Inv X pins σ H' { s with heap:=h',gens:=g',drawn:=d',toks:=t' }:=by
  have neL:∀ b o,X.s₀.heap.get? b=some o->b≠X.env.locals:=fun b o e=>Nat.ne_of_lt (Nat.lt_of_lt_of_le (Heap.lt_size e) I.ok.above)
  have neC:∀ b o,X.s₀.heap.get? b=some o->b ∉ X.ex->b ∉ ch:=fun b o e hx hb=>by
    rcases (hch b hb).1 with z | z
    · exact hx z
    · exact absurd (Nat.lt_of_lt_of_le (Heap.lt_size e) z) (Nat.lt_irrefl _)
  have cellK:∀ x c,X.env.cells.lookup x=some c->∀ v,s.heap.IsCell c v->h'.IsCell c v:=fun x c e v ⟨o,ho,hd⟩=>by
    have nch:c ∉ ch:=fun z=>(hch c z).2.2.1 x c e rfl
    by_cases hc:c∈X.fs
    · obtain ⟨sl,q⟩:=slot c o (I.cne x c e) hc nch ho (I.freeC x c e)
      exact ⟨_,q,hd⟩
    · exact ⟨o,keep c o (I.cne x c e) hc nch ho (I.freeC x c e),hd⟩
  refine ⟨I.ok,I.os,hg,⟨fun b o e n hb hx=>?_,fun b o e n hb hx=>?_,fun b o e n hx=>?_,fun b o e hx=>?_,fun b xs e=>tups b xs (I.base.tups b xs e),fun b o xs e=>frzs b o xs (I.base.frzs b o xs e),fun b ps e=>?_⟩,?_,fun x c e=>?_,?_,fun x c e=>?_,fun p hp=>?_,hok,I.len⟩
  · exact keep b o (neL b o e) hb (neC b o e hx) (I.base.keep b o e n hb hx) (I.base.free b o e n hx)
  · obtain ⟨sl,e1⟩:=I.base.slot b o e n hb hx
    obtain ⟨sl',e2⟩:=slot b _ (neL b o e) hb (neC b o e hx) e1 (I.base.free b o e n hx)
    exact ⟨sl',e2⟩
  · obtain ⟨o',e1⟩:=I.base.there b o e hx
    exact free b o' (neC b o e hx) e1 (I.base.free b o e n hx)
  · obtain ⟨o',e1⟩:=I.base.there b o e hx
    exact there b o' (neC b o e hx) e1
  · obtain ⟨m1,e1⟩:=I.base.tbls b ps e
    obtain ⟨m2,e2⟩:=tbls b _ e1
    exact ⟨m1 ++ m2,by rw [e2,Array.append_assoc]⟩
  · obtain ⟨m,hn,hl⟩:=I.loc
    refine ⟨m,ns m hn,fun i x v e1 e2 e3=>?_⟩
    obtain ⟨u,r,l⟩:=hl i x v e1 e2 e3
    refine ⟨u,r,?_⟩
    rcases l with l | ⟨k,c,e,z⟩
    · exact .inl l
    · exact .inr ⟨k,c,e,cellK x c e _ z⟩
  · obtain ⟨v,z⟩:=I.cell x c e
    exact ⟨v,cellK x c e v z⟩
  · obtain ⟨m,⟨o,_,_,ho,_⟩,_⟩:=I.loc
    exact free _ o (fun z=>(hch _ z).2.1 rfl) ho I.free
  · obtain ⟨v,o,ho,hd⟩:=I.cell x c e
    exact free c o (fun z=>(hch c z).2.2.1 x c e rfl) ho (I.freeC x c e)
  · obtain ⟨e,n,ne,nf,d⟩:=I.pin p hp
    have nch:p.1 ∉ ch:=fun z=>(hch p.1 z).2.2.2 p hp rfl
    exact ⟨keep p.1 p.2 ne nf nch e n,free p.1 p.2 nch e n,ne,nf,d⟩
theorem Inv.un {t':Nat} (I:Inv X pins σ H s) (u:Un X.fs [] H H' s.heap h') (hok:HOk X.prog X.w H' h'):Inv X pins σ H' { s with heap:=h',toks:=t' }:=by
  obtain ⟨m,⟨o,es,ep,ho,r⟩,_⟩:=id I.loc
  obtain ⟨sl,hL⟩:=u.any ho I.free (by simp)
  exact I.step (g':=s.gens) (d':=s.drawn) (ch:=[]) (fun _ z=>nomatch z) (fun b o _ hb _ e n=>u.keep b o e n hb (by simp)) (fun b o _ hb _ e n=>u.slot b o e n hb (by simp)) (fun b o _ e n=>u.free b o e n (by simp)) (fun b o _ e=>u.there b o e (by simp)) u.tups u.frzs u.tbls (fun m' hm=>by
    obtain ⟨o',es',ep',ho',r'⟩:=hm
    rw [ho] at ho'; cases ho'
    exact ⟨_,es',ep',hL,r'⟩) hok I.bare
theorem Inv.call {g':Array GenState} {t':Nat} {d':Drawn} {ch:List Addr} (I:Inv X pins σ H s) (u:Un (frs X.stack) ch H H' s.heap h') (hok:HOk X.prog X.w H' h') (hg:AllBare g')
    (hch:∀ b∈ch,(b∈X.ex\/X.s₀.heap.objs.size<=b)/\b≠X.env.locals/\(∀ x c,X.env.cells.lookup x=some c->c≠b)/\∀ p∈X.pn ++ pins,p.1≠b) :
    Inv X pins σ H' { s with heap:=h',gens:=g',drawn:=d',toks:=t' }:=by
  obtain ⟨m,⟨o,es,ep,ho,r⟩,_⟩:=id I.loc
  obtain ⟨sl,hL⟩:=u.any ho I.free fun z=>(hch _ z).2.1 rfl
  exact I.step (ch:=ch) hch (fun b o hL hb hc e n=>u.keep b o e n (fun z=>(List.mem_cons.mp (I.stkSub b z)).elim hL hb) hc) (fun b o _ _ hc e n=>u.any e n hc) (fun b o hc e n=>u.free b o e n hc) (fun b o hc e=>u.there b o e hc) u.tups u.frzs u.tbls (fun m' hm=>by
    obtain ⟨o',es',ep',ho',r'⟩:=hm
    rw [ho] at ho'; cases ho'
    exact ⟨_,es',ep',hL,r'⟩) hok hg
theorem Inv.turned {t':Nat} {it:Addr} (I:Inv X pins σ H s) (k:∀ b o,b≠it->s.heap.get? b=some o->h'.get? b=some o) (hn:H it=none) (hL:it≠X.env.locals)
    (h1:it∈X.ex\/X.s₀.heap.objs.size<=it) (h2:∀ x c,X.env.cells.lookup x=some c->c≠it) (h3:∀ p∈X.pn ++ pins,p.1≠it):Inv X pins σ H { s with heap:=h',toks:=t' }:=by
  have nit:∀ b u,H b=some u->b≠it:=fun b u e z=>by rw [z,hn] at e; cases e
  refine I.step (g':=s.gens) (d':=s.drawn) (ch:=[it]) (fun b hb=>?_) (fun b o _ _ hc e _=>k b o (fun z=>hc (by simp [z])) e) (fun b o _ _ hc e _=>⟨o.slots,k b o (fun z=>hc (by simp [z])) e⟩) (fun _ _ _ _ n=>n)
    (fun b o hc e=>⟨o,k b o (fun z=>hc (by simp [z])) e⟩) (fun _ _ e=>e) (fun _ _ _ e=>e) (fun b ps e=>⟨#[],by rw [e]; simp⟩) (fun m hm=>?_) (fun b u e=>?_) I.bare
  · have e:b=it:=by simpa using hb
    subst e
    exact ⟨h1,hL,h2,h3⟩
  · obtain ⟨o,es,ep,ho,r⟩:=hm
    exact ⟨o,es,ep,k _ o (Ne.symm hL) ho,r⟩
  · refine (I.hok b u e).stay (fun c v hc q=>k c v ?_ q) (fun _ q=>q) fun _ _ q=>q
    rcases hc with z | z
    · rw [z]; exact nit b u e
    · exact nit c _ z
theorem Inv.tok (I:Inv X pins σ H s) (t:Nat):Inv X pins σ H { s with toks:=t }:=I.un (h':=s.heap) (t':=t) Un.refl I.hok
theorem Inv.kept {t':Nat} (I:Inv X pins σ H s) (k:∀ b u,s.heap.get? b=some u->h'.get? b=some u):Inv X pins σ H { s with heap:=h',toks:=t' }:=I.un (Un.kept k) (I.hok.kept k)
theorem Inv.laid {a:Addr} {o:HO} {t':Nat} (I:Inv X pins σ H s) (k:∀ b u,s.heap.get? b=some u->h'.get? b=some u) (hp:s.heap.objs.size<=a) (new:ObjOk X.prog X.w (upd H a o) h' a o) :
    Inv X pins σ (upd H a o) { s with heap:=h',toks:=t' }:=I.un (Un.laid k hp (I.hok.fresh hp)) (I.hok.laid k hp new)
theorem Inv.write {x e:Addr} {o:HO} {t':Nat} (I:Inv X pins σ H s) (mu:Mut (H x)) (he:e=x\/H e=some (.own x)) (k:∀ b u,b≠e->s.heap.get? b=some u->h'.get? b=some u) (heo:∃ u,h'.get? e=some u)
    (new:ObjOk X.prog X.w (upd H x o) h' x o):Inv X pins σ (upd H x o) { s with heap:=h',toks:=t' }:=I.un (Un.write mu he k heo) (I.hok.write mu he k heo new)
theorem Inv.pins_of {pins':List (Addr × Obj)} (I:Inv X pins σ H s) (h:∀ p∈pins',s.heap.get? p.1=some p.2/\H p.1=none/\p.1≠X.env.locals/\p.1 ∉ X.fs/\∀ v,p.2.data≠.cell v):Inv X pins' σ H s :=
  ⟨I.ok,I.os,I.bare,I.base,I.loc,I.cell,I.free,I.freeC,fun p hp=>(List.mem_append.mp hp).elim (fun z=>I.pin p (List.mem_append_left _ z)) (h p),I.hok,I.len⟩
theorem nodup_ix {N:List Str} (hN:N.Nodup) {i j:Nat} {x:Str} (a:N[i]?=some x) (b:N[j]?=some x):i=j:=by
  obtain ⟨h1,e1⟩:=List.getElem?_eq_some_iff.mp a
  obtain ⟨h2,e2⟩:=List.getElem?_eq_some_iff.mp b
  exact (List.getElem_inj hN).mp (e1.trans e2.symm)
theorem store_ok2 {M:Model} {A:Around} {E:Value->Shared->Prop} {i:Nat} {x:Str} {v:V} {u:Value} {Q:Unit->Shared->Prop} (I:Inv X pins σ H s) (hN:X.N.Nodup) (hi:X.N[i]?=some x) (hx:Loc X.env.scope x) (r:RelV v u)
    (h:∀ s',Inv X pins (σ.set i (some v)) H s'->(∃ a,Heap.SameBut a s.heap s'.heap/\(a=X.env.locals\/X.env.cells.lookup x=some a))->Q () s') (hf:X.fn x=true\/X.env.scope.names.lookup x=some .local:=by first | exact .inl rfl | exact .inr rfl | assumption):wpAny M A (storeName X.env x u) Q E s:=by
  obtain ⟨m,hn,hl⟩:=id I.loc
  have hcls:(X.env.scope.kind == .class || (X.env.scope.kind == .module && X.env.locals != X.env.globals))=false:=by rw [I.ok.kind]; rfl
  have hiσ:i < σ.length:=by rw [I.len]; exact (List.getElem?_eq_some_iff.mp hi).1
  have cne:=I.cne
  have tracked:∀ {a:Addr} {h':Heap},(∃ o,s.heap.get? a=some o/\H a=none)->Heap.SameBut a s.heap h'->HOk X.prog X.w H h':=fun {a h'} ha hs b ob e=>by
    obtain ⟨_,_,hfree⟩:=ha
    refine (I.hok b ob e).stay (fun c w' hc q=>(hs.2 c ?_).trans q) (fun _ q=>q) fun _ _ q=>q
    rintro rfl
    rcases hc with rfl | hc
    · rw [hfree] at e; cases e
    · rw [hfree] at hc; cases hc
  rcases hx with hk | hk
  · refine wpAny_storeName_local hk hn (fun h' hn' hs=>?_) hcls
    obtain ⟨oL,_,_,hoL,_⟩:=id hn
    refine h _ ⟨I.ok,I.os,I.bare,⟨fun b o e n hb hx=>?_,fun b o e n hb hx=>?_,I.base.free,fun b o e hx=>?_,I.base.tups,I.base.frzs,I.base.tbls⟩,⟨_,hn',fun j y v' e1 e2 e3=>?_⟩,fun y c e=>?_,I.free,I.freeC,fun p hp=>?_,tracked ⟨oL,hoL,I.free⟩ hs,by simpa using I.len⟩ ⟨_,hs,.inl rfl⟩
    · exact (hs.2 b (Nat.ne_of_lt (Nat.lt_of_lt_of_le (Heap.lt_size e) I.ok.above))).trans (I.base.keep b o e n hb hx)
    · obtain ⟨sl,e1⟩:=I.base.slot b o e n hb hx
      exact ⟨sl,(hs.2 b (Nat.ne_of_lt (Nat.lt_of_lt_of_le (Heap.lt_size e) I.ok.above))).trans e1⟩
    · obtain ⟨o',e1⟩:=I.base.there b o e hx
      exact ⟨o',(hs.2 b (Nat.ne_of_lt (Nat.lt_of_lt_of_le (Heap.lt_size e) I.ok.above))).trans e1⟩
    · by_cases hj:j=i
      · subst hj
        rw [hi] at e1; cases e1
        rw [List.getElem?_set_self hiσ] at e2
        cases e2
        exact ⟨u,r,.inl ⟨hk,by simp⟩⟩
      · rw [List.getElem?_set_ne (Ne.symm hj)] at e2
        obtain ⟨u',r',q⟩:=hl j y v' e1 e2 e3
        refine ⟨u',r',?_⟩
        rcases q with ⟨k,e⟩ | ⟨k,c,e,z⟩
        · refine .inl ⟨k,?_⟩
          have:y≠x:=fun e=>hj (nodup_ix hN e1 (e ▸ hi))
          simp [this,e]
        · exact .inr ⟨k,c,e,z.sameBut hs (cne y c e)⟩
    · obtain ⟨w',z⟩:=I.cell y c e
      exact ⟨w',z.sameBut hs (cne y c e)⟩
    · obtain ⟨e,n,ne,nf,d⟩:=I.pin p hp
      exact ⟨(hs.2 p.1 ne).trans e,n,ne,nf,d⟩
  · have hfn:X.fn x=true:=by
      rcases hf with z | z
      · exact z
      · rw [z] at hk; cases hk
    obtain ⟨c,hc⟩:=I.ok.has x (.inl hk)
    obtain ⟨w',z⟩:=I.cell x c hc
    refine wpAny_storeName_cell I.ok.kind hk hc z (fun h' hc' hs=>?_)
    obtain ⟨oc,hoc,hocd⟩:=id z
    refine h { s with heap:=h' } ⟨I.ok,I.os,I.bare,⟨fun b o e n hb hx=>?_,fun b o e n hb hx=>?_,I.base.free,fun b o e hx=>?_,I.base.tups,I.base.frzs,I.base.tbls⟩,⟨m,hn.sameBut hs (Ne.symm (cne x c hc)),fun j y v' e1 e2 e3=>?_⟩,fun y c' e=>?_,I.free,I.freeC,fun p hp=>?_,tracked ⟨oc,hoc,I.freeC x c hc⟩ hs,by simpa using I.len⟩ ⟨c,hs,.inr hc⟩
    · exact (hs.2 b (Nat.ne_of_lt (Nat.lt_of_lt_of_le (Heap.lt_size e) (I.ok.cab x c hfn hc)))).trans (I.base.keep b o e n hb hx)
    · obtain ⟨sl,e1⟩:=I.base.slot b o e n hb hx
      exact ⟨sl,(hs.2 b (Nat.ne_of_lt (Nat.lt_of_lt_of_le (Heap.lt_size e) (I.ok.cab x c hfn hc)))).trans e1⟩
    · obtain ⟨o',e1⟩:=I.base.there b o e hx
      exact ⟨o',(hs.2 b (Nat.ne_of_lt (Nat.lt_of_lt_of_le (Heap.lt_size e) (I.ok.cab x c hfn hc)))).trans e1⟩
    · by_cases hj:j=i
      · subst hj
        rw [hi] at e1; cases e1
        rw [List.getElem?_set_self hiσ] at e2
        cases e2
        exact ⟨u,r,.inr ⟨.inl hk,c,hc,hc'⟩⟩
      · rw [List.getElem?_set_ne (Ne.symm hj)] at e2
        obtain ⟨u',r',q⟩:=hl j y v' e1 e2 e3
        refine ⟨u',r',?_⟩
        rcases q with q | ⟨k,c',e,z'⟩
        · exact .inl q
        · refine .inr ⟨k,c',e,z'.sameBut hs ?_⟩
          rintro rfl
          exact hj (nodup_ix hN e1 (I.ok.inj _ _ _ e hc ▸ hi))
    · by_cases hcc:c'=c
      · subst hcc; exact ⟨_,hc'⟩
      · obtain ⟨w2,z2⟩:=I.cell y c' e
        exact ⟨w2,z2.sameBut hs hcc⟩
    · obtain ⟨e,n,ne,nf,d⟩:=I.pin p hp
      refine ⟨(hs.2 p.1 ?_).trans e,n,ne,nf,d⟩
      intro q
      rw [q,hoc] at e
      have q':oc=p.2:=Option.some.inj e
      exact d w' (by rw [<- q']; exact hocd)
theorem store_ok {M:Model} {A:Around} {E:Value->Shared->Prop} {i:Nat} {x:Str} {v:V} {u:Value} {Q:Unit->Shared->Prop} (I:Inv X pins σ H s) (hN:X.N.Nodup) (hi:X.N[i]?=some x) (hx:Loc X.env.scope x) (r:RelV v u)
    (h:∀ s',Inv X pins (σ.set i (some v)) H s'->Q () s') (hf:X.fn x=true\/X.env.scope.names.lookup x=some .local:=by first | exact .inl rfl | exact .inr rfl | assumption):wpAny M A (storeName X.env x u) Q E s :=
  store_ok2 I hN hi hx r (fun s' I' _=>h s' I') hf
theorem Inv.call' {s':Shared} {ch:List Addr} (I:Inv X pins σ H s) (ho:s'.os=s.os) (u:Un (frs X.stack) ch H H' s.heap s'.heap) (hok:HOk X.prog X.w H' s'.heap) (hg:AllBare s'.gens)
    (hch:∀ b∈ch,(b∈X.ex\/X.s₀.heap.objs.size<=b)/\b≠X.env.locals/\(∀ x c,X.env.cells.lookup x=some c->c≠b)/\∀ p∈X.pn ++ pins,p.1≠b):Inv X pins σ H' s':=by
  obtain ⟨h',g',d',t',o'⟩:=s'
  have e:o'=s.os:=ho
  subst e
  exact I.call (g':=g') (t':=t') (d':=d') u hok hg hch
end
abbrev XK:=Value->Option Addr->Hp->Prop
abbrev St:=List (Option V)
abbrev VK:=V->Hp->Prop
abbrev TE:=St->Hp->VK->Prop
abbrev TT:=St->Hp->(Bool->Hp->Prop)->Prop
abbrev TA:=St->Hp->(List V->Hp->Prop)->Prop
structure Ends where
  nx:St->Hp->Prop
  rt:VK
  bk:St->Hp->Prop:=fun _ _=>False
  ct:St->Hp->Prop:=fun _ _=>False
abbrev TS:=Ends->St->Hp->Prop
def EP (X:Cx) (pins:List (Addr × Obj)) (σ:St) (Q:VK) (u:Value) (s':Shared):Prop:=∃ v H',Inv X pins σ H' s'/\RelV v u/\Q v H'
def TP (X:Cx) (pins:List (Addr × Obj)) (σ:St) (Q:Bool->Hp->Prop) (b:Bool) (s':Shared):Prop:=∃ H',Inv X pins σ H' s'/\Q b H'
def AP (X:Cx) (pins:List (Addr × Obj)) (σ:St) (Q:List V->Hp->Prop) (us:List Value) (s':Shared):Prop:=∃ vs H',Inv X pins σ H' s'/\Vals vs us/\Q vs H'
def SP (X:Cx) (pins:List (Addr × Obj)) (D:Ends) (f:Flow) (s':Shared):Prop :=
  match f with
  | .next=>∃ σ' H',Inv X pins σ' H' s'/\D.nx σ' H'
  | .brk=>∃ σ' H',Inv X pins σ' H' s'/\D.bk σ' H'
  | .cont=>∃ σ' H',Inv X pins σ' H' s'/\D.ct σ' H'
  | .ret u=>∃ v σ' H',Inv X pins σ' H' s'/\RelV v u/\D.rt v H'
def PE (X:Cx) (e:Expr) (t:TE):Prop :=
  ∀ (pins:List (Addr × Obj)) (s:Shared) (σ:St) (H:Hp) (Q:VK),Inv X pins σ H s->t σ H Q->wpAny (model X.prog X.w) X.A (eval e X.env) (EP X pins σ Q) X.xe s
def PT (X:Cx) (e:Expr) (t:TT):Prop :=
  ∀ (pins:List (Addr × Obj)) (s:Shared) (σ:St) (H:Hp) (Q:Bool->Hp->Prop),Inv X pins σ H s->t σ H Q->wpAny (model X.prog X.w) X.A (isTrue e X.env (eval e X.env)) (TP X pins σ Q) X.xe s
def PW (X:Cx) (e:Expr) (t:TT):Prop :=
  ∀ (whole:Sem Value) (pins:List (Addr × Obj)) (s:Shared) (σ:St) (H:Hp) (Q:Bool->Hp->Prop),Inv X pins σ H s->t σ H Q->wpAny (model X.prog X.w) X.A (isTrue e X.env whole) (TP X pins σ Q) X.xe s
theorem PW.pt {X:Cx} {e:Expr} {t:TT} (h:PW X e t):PT X e t:=h _
def PA (X:Cx) (es:List Expr) (t:TA):Prop :=
  ∀ (pos:Pos) (pins:List (Addr × Obj)) (s:Shared) (σ:St) (H:Hp) (Q:List V->Hp->Prop),Inv X pins σ H s->t σ H Q->wpAny (model X.prog X.w) X.A (spliced (backTo pos (starEach es X.env))) (AP X pins σ Q) X.xe s
def PS (X:Cx) (st:Stmt) (t:TS):Prop :=
  ∀ (pins:List (Addr × Obj)) (s:Shared) (σ:St) (H:Hp) (D:Ends),Inv X pins σ H s->t D σ H->wpAny (model X.prog X.w) X.A (exec st X.env) (SP X pins D) X.xe s
def PSs (X:Cx) (st:List Stmt) (t:TS):Prop :=
  ∀ (pins:List (Addr × Obj)) (s:Shared) (σ:St) (H:Hp) (D:Ends),Inv X pins σ H s->t D σ H->wpAny (model X.prog X.w) X.A (execs st X.env) (SP X pins D) X.xe s
theorem thn {α:Type} {t:Sem α} {Q Q':α->Shared->Prop} {M:Model} {A:Around} {E:Value->Shared->Prop} {s:Shared} (h:wpAny M A t Q E s) (hQ:∀ a s,Q a s->Q' a s):wpAny M A t Q' E s:=wpAny_mono h hQ fun _ _ x=>x
end L2
namespace L2
open PySem PySem.Spec PyProof.Rows
section
variable {X:Cx}
def tVar (i:Nat):TE:=fun σ H Q=>∃ v,σ[i]?=some (some v)/\Q v H
def tC (v:V):TE:=fun _ H Q=>Q v H
theorem pe_var {i:Nat} {x:Str} {pos:Pos} (hN:X.N[i]?=some x) (hv:Vis X.env.scope x) (hd:(x == ("__debug__":Str))=false:=by decide) (hcd:(x == ("__classdict__":Str))=false:=by decide):PE X (.Name x pos) (tVar i):=by
  intro pins s σ H Q I h
  obtain ⟨v,e,h⟩:=h
  obtain ⟨m,hn,hl⟩:=I.loc
  obtain ⟨u,r,l⟩:=hl i x v hN e hv
  have fin:EP X pins σ Q u s:=⟨v,H,I,r,h⟩
  rcases l with ⟨hk,hm⟩ | ⟨hk,c,hc,hcell⟩
  · exact wpAny_Name (wpAny_loadName_local I.ok.kind hk hn hm fin) hd
  · rcases hk with hk | hk
    · exact wpAny_Name (wpAny_loadName_cell I.ok.kind hk hc hcell fin) hd
    · exact wpAny_Name (wpAny_loadName_free I.ok.kind hk hc hcell fin hcd) hd
theorem pe_int {i j pos}:PE X (.Constant (.int i) j pos) (tC (.int i)):=fun _ _ _ H _ I h=>wpAny_Constant_int ⟨.int i,H,I.tok _,⟨_,rfl⟩,h⟩
theorem pe_bl {b j pos}:PE X (.Constant (.bool b) j pos) (tC (.bl b)):=fun _ _ _ H _ I h=>Constant_bool ⟨.bl b,H,I,rfl,h⟩
theorem pe_non {j pos}:PE X (.Constant .none j pos) (tC .non):=fun _ _ _ H _ I h=>Constant_none ⟨.non,H,I,rfl,h⟩
theorem pe_str {x j pos}:PE X (.Constant (.str x) j pos) (tC (.str x)):=fun _ _ _ H _ I h=>Calls.Constant_str ⟨.str x,H,I.tok _,⟨_,rfl⟩,h⟩
def Gl (X:Cx) (x:Str):Prop:=X.env.kindOf x=some .globalImplicit
theorem ld_glob {E:Value->Shared->Prop} {pins:List (Addr × Obj)} {s:Shared} {σ:St} {H:Hp} {x:Str} {u:Value} {pos:Pos} {Q:Value->Shared->Prop} (I:Inv X pins σ H s) (hg:Gl X x) (hm:X.mg x=some u) (h:Q u s)
    (hd:(x == ("__debug__":Str))=false:=by decide):wpAny (model X.prog X.w) X.A (eval (.Name x pos) X.env) Q E s :=
  Calls.Name_function_global I.ok.kind hg (Calls.loadGlobal_global (by rw [I.ok.glob]; exact I.mod.glob.keeps I.bk) hm h) hd
theorem ld_blt {E:Value->Shared->Prop} {pins:List (Addr × Obj)} {s:Shared} {σ:St} {H:Hp} {x:Str} {u:Value} {pos:Pos} {Q:Value->Shared->Prop} (I:Inv X pins σ H s) (hg:Gl X x) (hm:X.mg x=none) (hv:bootBuiltins x=some u) (h:Q u s)
    (hn:x≠"__name__":=by decide) (hd:(x == ("__debug__":Str))=false:=by decide):wpAny (model X.prog X.w) X.A (eval (.Name x pos) X.env) Q E s:=by
  obtain ⟨mb,h1,h2⟩:=I.mod.blt
  exact Calls.Name_function_global I.ok.kind hg (Calls.loadGlobal_builtin (by rw [I.ok.glob]; exact I.mod.glob.keeps I.bk) hm (by rw [I.ok.blt]; exact h1.keeps I.bk) ((h2 x hn).trans hv) h) hd
theorem pe_glob {x:Str} {v:V} {u:Value} {pos:Pos} (hg:Gl X x) (hm:X.mg x=some u) (r:RelV v u) (hd:(x == ("__debug__":Str))=false:=by decide):PE X (.Name x pos) (tC v) :=
  fun _ _ _ H _ I h=>ld_glob I hg hm ⟨v,H,I,r,h⟩ hd
theorem pe_bltn {x:Str} {v:V} {u:Value} {pos:Pos} (hg:Gl X x) (hm:X.mg x=none) (hv:bootBuiltins x=some u) (r:RelV v u) (hn:x≠"__name__":=by decide) (hd:(x == ("__debug__":Str))=false:=by decide):PE X (.Name x pos) (tC v) :=
  fun _ _ _ H _ I h=>ld_blt I hg hm hv ⟨v,H,I,r,h⟩ hn hd
variable {a b:Expr} {ta tb:TE} {pos:Pos}
def PC (X:Cx) (op:CmpOp) (a b:Expr) (t:TE):Prop :=
  ∀ (pins:List (Addr × Obj)) (s:Shared) (σ:St) (H:Hp) (Q:VK),Inv X pins σ H s->t σ H Q ->
    wpAny (model X.prog X.w) X.A (eval a X.env) (fun v s₁=>wpAny (model X.prog X.w) X.A (eval b X.env) (fun u s₂=>wpAny (model X.prog X.w) X.A (compareOp op v u) (EP X pins σ Q) X.xe s₂) X.xe s₁) X.xe s
theorem nobehind (b:Expr) {op:CmpOp} (h:op≠.In) (h2:op≠.NotIn):behindInMarks op b=false:=by
  have e1:(op == CmpOp.In)=false:=by cases op <;> first | rfl | exact absurd rfl h
  have e2:(op == CmpOp.NotIn)=false:=by cases op <;> first | rfl | exact absurd rfl h2
  cases b <;> simp [behindInMarks,e1,e2]
def tB (t:TE):TT:=fun σ H Q=>t σ H fun x H1=>∃ c,x=.bl c/\Q c H1
theorem pe_cmp {op:CmpOp} {t:TE} (h:PC X op a b t) (h1:behindInMarks op b=false:=by first | exact nobehind _ (by decide) (by decide) | rfl):PE X (.Compare a [op] [b] pos) t:=fun pins s σ H Q I hw=>wpAny_Compare1 (h pins s σ H Q I hw) h1
theorem pt_val {e:Expr} {t:TE} (h:PE X e t) (he:∀ whole,isTrue e X.env whole=(do let v <- whole; standAt e.pos; holding [v] (truthy v)):=by intro _; rfl):PT X e (tB t):=by
  intro pins s σ H Q I hw
  refine isTrue_plain (thn (h pins s σ H _ I hw) fun v s1 ⟨x,H1,I1,r1,q1⟩=>?_) (he _)
  obtain ⟨d,rfl,q⟩:=q1
  cases r1
  exact wpAny_truthy_bool ⟨H1,I1,q⟩
variable {tA tB':TT} {rest:List Expr}
def tAnd (t u:TT):TT:=fun σ H Q=>t σ H fun c H1=>if c=true then u σ H1 Q else Q false H1
def tNot (t:TT):TT:=fun σ H Q=>t σ H fun c H1=>Q (!c) H1
theorem pw_and1 (ha:PT X a tA):PW X (.BoolOp .And [a] pos) tA:=by
  intro wh pins s σ H Q I h
  refine isTrue_and (thn (ha pins s σ H Q I h) fun c s1 e=>?_)
  cases c with
  | true=>exact isTrue_and_nil e
  | false=>exact e
theorem pw_and (ha:PT X a tA) (hb:PW X (.BoolOp .And (b :: rest) pos) tB'):PW X (.BoolOp .And (a :: b :: rest) pos) (tAnd tA tB'):=by
  intro wh pins s σ H Q I h
  refine isTrue_and (thn (ha pins s σ H _ I h) fun c s1 ⟨H1,I1,q1⟩=>?_)
  cases c with
  | true=>exact hb wh pins s1 σ H1 Q I1 q1
  | false=>exact ⟨H1,I1,q1⟩
theorem pt_not (ha:PT X a tA):PT X (.UnaryOp .Not a pos) (tNot tA):=by
  intro pins s σ H Q I h
  exact isTrue_not (ha pins s σ H (fun c H1=>Q (!c) H1) I h)
def tAndV (ta tb:TE):TE:=fun σ H Q=>ta σ H fun x H1=>∃ c,x=.bl c/\if c=true then tb σ H1 Q else Q (.bl false) H1
def tNotV (ta:TE):TE:=fun σ H Q=>ta σ H fun x H1=>∃ c,x=.bl c/\Q (.bl (!c)) H1
theorem pe_one {op} {t:TE} (h:PE X a t):PE X (.BoolOp op [a] pos) t:=fun pins s σ H Q I hw=>BoolOp_one (h pins s σ H Q I hw)
theorem pe_and (ha:PE X a ta) (hb:PE X (.BoolOp .And (b :: rest) pos) tb):PE X (.BoolOp .And (a :: b :: rest) pos) (tAndV ta tb):=by
  intro pins s σ H Q I h
  refine BoolOp_and (thn (ha pins s σ H _ I h) fun v s1 ⟨x,H1,I1,r1,q1⟩=>?_)
  obtain ⟨c,rfl,q1⟩:=q1
  cases r1
  refine wpAny_truthy_bool ?_
  cases c with
  | true=>exact hb pins s1 σ H1 Q I1 q1
  | false=>exact ⟨.bl false,H1,I1,rfl,q1⟩
theorem pe_not (ha:PE X a ta):PE X (.UnaryOp .Not a pos) (tNotV ta):=by
  intro pins s σ H Q I h
  refine UnaryOp_ (thn (ha pins s σ H _ I h) fun v s1 ⟨x,H1,I1,r1,q1⟩=>?_)
  obtain ⟨c,rfl,q1⟩:=q1
  cases r1
  exact not_of (wpAny_truthy_bool ⟨.bl (!c),H1,I1,rfl,q1⟩)
end
end L2
namespace L2
open PySem PySem.Spec PyProof.Rows
def SqL (K:PySem.W.Frag) (H:Hp) (a:Addr) (xs:List V):Prop :=
  Rd H a (.lst xs) \/
    ∃ (o:Obj) (its:Array Value) (n:Nat),K.lookup a=some o/\o.cls=.type "list"/\o.dict=none/\o.data=.seq its n/\its.size<=sizeLine/\Vals xs its.toList
def SqT (K:PySem.W.Frag) (H:Hp) (a:Addr) (xs:List V):Prop :=
  Rd H a (.tup xs) \/
    ∃ (o:Obj) (its:Array Value) (n:Nat),K.lookup a=some o/\o.cls=.type "tuple"/\o.data=.seq its n/\its.size<=sizeLine/\Vals xs its.toList
def absV:Value->Option V
  | .none=>some .non
  | .bool b=>some (.bl b)
  | .int i _=>some (.int i)
  | .str x _=>some (.str x)
  | .bytes b _=>some (.byt b)
  | .float b _=>some (.flt b)
  | .ref a=>some (.ref a)
  | .type n=>some (.ty n)
  | _=>none
theorem RelV.abs {x:V} {u:Value} (r:RelV x u):absV u=some x:=by
  cases x with
  | non=>cases r; rfl
  | bl _=>cases r; rfl
  | int _=>obtain ⟨t,rfl⟩:=r; rfl
  | str _=>obtain ⟨t,rfl⟩:=r; rfl
  | byt _=>obtain ⟨t,rfl⟩:=r; rfl
  | flt _=>obtain ⟨t,rfl⟩:=r; rfl
  | ref _=>cases r; rfl
  | ty _=>cases r; rfl
theorem RelV.inj {x y:V} {u:Value} (r:RelV x u) (q:RelV y u):x=y:=Option.some.inj (r.abs.symm.trans q.abs)
theorem Vals.inj:∀ {xs ys:List V} {us:List Value},Vals xs us->Vals ys us->xs=ys
  | _,_,_,.nil,.nil=>rfl
  | _,_,_,.cons r t,.cons r' t'=>by rw [r.inj r',Vals.inj t t']
section
variable {X:Cx} {pins:List (Addr × Obj)} {σ:St} {H:Hp} {s:Shared} {a:Addr} {xs ys:List V}
theorem SqL.of {K:PySem.W.Frag} (h:H a=some (.lst xs)):SqL K H a xs:=.inl (.inl h)
theorem SqT.of {K:PySem.W.Frag} (h:H a=some (.tup xs)):SqT K H a xs:=.inl (.inl h)
theorem Inv.list (I:Inv X pins σ H s) (h:SqL X.K H a xs):∃ its:List Value,Vals xs its/\PlainL s.heap a its.toArray/\xs.length<=sizeLine:=by
  rcases h with h | ⟨o,its,n,hk,hc,hd,hs,hz,r⟩
  · obtain ⟨z,its,n,r,e⟩:=h.ok I.hok
    exact ⟨its,r,⟨_,n,e,rfl,rfl,rfl⟩,z⟩
  · refine ⟨its.toList,r,⟨o,n,I.kIn a o hk,hc,hd,by simpa using hs⟩,?_⟩
    have e:=r.length
    simp only [Array.length_toList] at e
    lia
theorem Inv.tuple (I:Inv X pins σ H s) (h:SqT X.K H a xs):∃ its:List Value,Vals xs its/\IsTup s.heap a its.toArray/\xs.length<=sizeLine:=by
  rcases h with h | ⟨o,its,n,hk,hc,hs,hz,r⟩
  · obtain ⟨z,its,r,p⟩:=h.ok I.hok
    exact ⟨its,r,p.is,z⟩
  · refine ⟨its.toList,r,⟨o,I.kIn a o hk,hc,n,by simpa using hs⟩,?_⟩
    have e:=r.length
    simp only [Array.length_toList] at e
    lia
theorem Inv.list_inj (I:Inv X pins σ H s) (h:SqL X.K H a xs) (h':SqL X.K H a ys):xs=ys:=by
  obtain ⟨its,r,⟨o,n,e,_,_,d⟩,_⟩:=I.list h
  obtain ⟨its',r',⟨o',n',e',_,_,d'⟩,_⟩:=I.list h'
  rw [e] at e'; cases e'
  rw [d] at d'
  injection d' with d1 _
  have:its=its':=by simpa using congrArg Array.toList d1
  subst this
  exact r.inj r'
theorem Inv.tuple_inj (I:Inv X pins σ H s) (h:SqT X.K H a xs) (h':SqT X.K H a ys):xs=ys:=by
  obtain ⟨its,r,⟨o,e,_,n,d⟩,_⟩:=I.tuple h
  obtain ⟨its',r',⟨o',e',_,n',d'⟩,_⟩:=I.tuple h'
  rw [e] at e'; cases e'
  rw [d] at d'
  injection d' with d1 _
  have:its=its':=by simpa using congrArg Array.toList d1
  subst this
  exact r.inj r'
end
abbrev Cx.wish (X:Cx) (E:Value->Shared->Prop):Cx:={ X with xe:=E }
abbrev Cx.nox (X:Cx):Cx:=X.wish fun _ _=>False
theorem Cx.Ok.wish {X:Cx} (ok:X.Ok) (E:Value->Shared->Prop):(X.wish E).Ok :=
  ⟨ok.mod,ok.kind,ok.glob,ok.blt,ok.above,ok.inj,ok.has,ok.cab,ok.hd,ok.frames,ok.stk,ok.exf,ok.bs,ok.bsz,ok.noex,ok.exfs,ok.funs,ok.frf⟩
theorem Cx.Ok.unwish {X:Cx} {E:Value->Shared->Prop} (ok:(X.wish E).Ok):X.Ok :=
  ⟨ok.mod,ok.kind,ok.glob,ok.blt,ok.above,ok.inj,ok.has,ok.cab,ok.hd,ok.frames,ok.stk,ok.exf,ok.bs,ok.bsz,ok.noex,ok.exfs,ok.funs,ok.frf⟩
section
variable {X:Cx} {pins:List (Addr × Obj)} {σ:St} {H:Hp} {s:Shared} {E:Value->Shared->Prop}
theorem Inv.wish (I:Inv X pins σ H s) (E:Value->Shared->Prop):Inv (X.wish E) pins σ H s:=⟨I.ok.wish E,I.os,I.bare,I.base,I.loc,I.cell,I.free,I.freeC,I.pin,I.hok,I.len⟩
theorem Inv.unwish (I:Inv (X.wish E) pins σ H s):Inv X pins σ H s:=⟨I.ok.unwish,I.os,I.bare,I.base,I.loc,I.cell,I.free,I.freeC,I.pin,I.hok,I.len⟩
theorem SP.unwish {D:Ends} {f:Flow} {s':Shared} (h:SP (X.wish E) pins D f s'):SP X pins D f s':=by
  cases f with
  | next=>obtain ⟨σ',H',I,q⟩:=h; exact ⟨σ',H',I.unwish,q⟩
  | brk=>obtain ⟨σ',H',I,q⟩:=h; exact ⟨σ',H',I.unwish,q⟩
  | cont=>obtain ⟨σ',H',I,q⟩:=h; exact ⟨σ',H',I.unwish,q⟩
  | ret u=>obtain ⟨v,σ',H',I,r,q⟩:=h; exact ⟨v,σ',H',I.unwish,r,q⟩
theorem PE.nox {e:Expr} {t:TE} (h:PE X.nox e t):PE X e t:=fun pins s σ H Q I hw =>
  wpAny_mono (h pins s σ H Q (I.wish _) hw) (fun _ _ ⟨v,H',I',r,q⟩=>⟨v,H',I'.unwish,r,q⟩) fun _ _ z=>False.elim z
theorem PT.nox {e:Expr} {t:TT} (h:PT X.nox e t):PT X e t:=fun pins s σ H Q I hw =>
  wpAny_mono (h pins s σ H Q (I.wish _) hw) (fun _ _ ⟨H',I',q⟩=>⟨H',I'.unwish,q⟩) fun _ _ z=>False.elim z
theorem PSs.nox {st:List Stmt} {t:TS} (h:PSs X.nox st t):PSs X st t:=fun pins s σ H D I hw =>
  wpAny_mono (h pins s σ H D (I.wish _) hw) (fun _ _ q=>q.unwish) fun _ _ z=>False.elim z
end
section
variable {X:Cx} {st:Stmt} {rest:List Stmt} {t u:TS} {e:Expr} {te:TE} {pos:Pos}
def tNext:TS:=fun D σ H=>D.nx σ H
def tSeq (t u:TS):TS:=fun D σ H=>t { D with nx:=u D } σ H
theorem pss_nil:PSs X [] tNext:=fun _ _ σ H _ I h=>wpAny_execs_nil ⟨σ,H,I,h⟩
theorem pss_cons (h1:PS X st t) (h2:PSs X rest u):PSs X (st :: rest) (tSeq t u):=by
  intro pins s σ H D I h
  refine wpAny_execs_cons (thn (h1 pins s σ H { D with nx:=u D } I h) fun f s1 q=>?_)
  cases f with
  | next =>
    obtain ⟨σ',H',I',q⟩:=q
    exact h2 pins s1 σ' H' D I' q
  | ret v=>exact q
  | brk=>exact q
  | cont=>exact q
theorem pss_one (h1:PS X st t):PSs X [st] t:=by
  intro pins s σ H D I h
  refine wpAny_execs_cons (thn (h1 pins s σ H D I h) fun f s1 q=>?_)
  cases f with
  | next=>exact wpAny_execs_nil q
  | ret v=>exact q
  | brk=>exact q
  | cont=>exact q
theorem Inv.quiet {pins:List (Addr × Obj)} {σ:St} {H:Hp} {s:Shared} (I:Inv X pins σ H s):interactive X.env=false:=by simp [interactive,I.ok.kind]
def tDrop (te:TE):TS:=fun D σ H=>te σ H fun _ H1=>D.nx σ H1
theorem ps_expr (he:PE X e te) (hs:swapsWith e none pos.line X.env=pure false:=by rfl):PS X (.Expr e pos) (tDrop te):=by
  intro pins s σ H D I h
  exact wpAny_Expr_any (thn (he pins s σ H _ I h) fun v s1 ⟨x,H1,I1,r1,q1⟩=>⟨σ,H1,I1,q1⟩) I.quiet hs
def tRet (te:TE):TS:=fun D σ H=>te σ H D.rt
theorem ps_ret (he:PE X e te):PS X (.Return (some e) pos) (tRet te):=by
  intro pins s σ H D I h
  exact wpAny_Return_some (thn (he pins s σ H _ I h) fun v s1 ⟨x,H1,I1,r1,q1⟩=>⟨x,σ,H1,I1,r1,q1⟩)
def tIfS (c:TT) (t u:TS):TS:=fun D σ H=>c σ H fun b H1=>if b=true then t D σ H1 else u D σ H1
theorem ps_if {c:Expr} {a b:List Stmt} {tc:TT} (hc:PT X c tc) (ha:PSs X a t) (hb:PSs X b u):PS X (.If c a b pos) (tIfS tc t u):=by
  intro pins s σ H D I h
  refine wpAny_If (thn (hc pins s σ H _ I h) fun d s1 ⟨H1,I1,q1⟩=>?_)
  cases d with
  | true=>exact ha pins s1 σ H1 D I1 q1
  | false=>exact hb pins s1 σ H1 D I1 q1
end
abbrev TG:=V->St->Hp->(St->Hp->Prop)->Prop
abbrev TGs:=List V->St->Hp->(St->Hp->Prop)->Prop
def PG (X:Cx) (target:Expr) (t:TG):Prop :=
  ∀ (pins:List (Addr × Obj)) (s:Shared) (σ:St) (H:Hp) (v:V) (u:Value) (Q:St->Hp->Prop),Inv X pins σ H s->RelV v u->t v σ H Q ->
    wpAny (model X.prog X.w) X.A (assign target X.env u) (fun _ s'=>∃ σ' H',Inv X pins σ' H' s'/\Q σ' H') X.xe s
def PGs (X:Cx) (ts:List Expr) (t:TGs):Prop :=
  ∀ (pins:List (Addr × Obj)) (s:Shared) (σ:St) (H:Hp) (vs:List V) (us:List Value) (Q:St->Hp->Prop),Inv X pins σ H s->Vals vs us->t vs σ H Q ->
    wpAny (model X.prog X.w) X.A (assignInOrder ((assignEach ts X.env).map (·.2)) us) (fun _ s'=>∃ σ' H',Inv X pins σ' H' s'/\Q σ' H') X.xe s
abbrev TSet:=V->V->V->Hp->(Hp->Prop)->Prop
def PSet (X:Cx) (t:TSet):Prop :=
  ∀ (pins:List (Addr × Obj)) (s:Shared) (σ:St) (H:Hp) (o i v:V) (ov iv u:Value) (Q:Hp->Prop),Inv X pins σ H s->RelV o ov->RelV i iv->RelV v u->t o i v H Q ->
    wpAny (model X.prog X.w) X.A (setItem ov iv u) (fun _ s'=>∃ H',Inv X pins σ H' s'/\Q H') X.xe s
section
variable {X:Cx} {pos:Pos}
def gName (i:Nat):TG:=fun v σ H Q=>Q (σ.set i (some v)) H
theorem pg_name {i:Nat} {x:Str} (hN:X.N.Nodup) (hi:X.N[i]?=some x) (hx:Loc X.env.scope x) (hf:X.fn x=true\/X.env.scope.names.lookup x=some .local:=by first | exact .inl rfl | exact .inr rfl | assumption):PG X (.Name x pos) (gName i):=by
  intro pins s σ H v u Q I r h
  exact wpAny_assign_Name (store_ok I hN hi hx r (fun s' I'=>⟨_,H,I',h⟩) hf)
def gNil:TGs:=fun vs σ H Q=>vs=[]/\Q σ H
def gCons (t:TG) (u:TGs):TGs:=fun vs σ H Q=>∃ v r,vs=v :: r/\t v σ H fun σ' H'=>u r σ' H' Q
theorem pgs_nil:PGs X [] gNil:=by
  intro pins s σ H vs us Q I r h
  obtain ⟨e,h⟩:=h
  subst e
  cases r
  exact assignInOrder_nil ⟨σ,H,I,h⟩
theorem pgs_cons {e:Expr} {es:List Expr} {t:TG} {u:TGs} (h1:PG X e t) (h2:PGs X es u)
    (hs:(assignEach (e :: es) X.env).map (·.2)=assign e X.env :: (assignEach es X.env).map (·.2):=by rfl):PGs X (e :: es) (gCons t u):=by
  intro pins s σ H vs us Q I r h
  obtain ⟨v,vr,e1,h⟩:=h
  subst e1
  cases r with
  | cons r rr =>
    rw [hs]
    refine assignInOrder_cons (thn (h1 pins s σ H _ _ _ I r h) fun _ s1 ⟨σ1,H1,I1,q1⟩=>?_)
    exact h2 pins s1 σ1 H1 _ _ Q I1 rr q1
def gTup (K:PySem.W.Frag) (n:Nat) (t:TGs):TG:=fun v σ H Q=>∃ a xs,v=.ref a/\SqT K H a xs/\xs.length=n/\t xs σ H Q
theorem pg_tup {es:List Expr} {k:Nat} {t:TGs} {n:Nat} (hc:X.calm=true) (h:PGs X es t)
    (hn:(assignEach es X.env).length=n:=by rfl) (hst:(assignEach es X.env).findIdx? (·.1)=none:=by rfl):PG X (.Tuple es k pos) (gTup X.K n t):=by
  intro pins s σ H v u Q I r hw
  obtain ⟨a,xs,e1,hq,hl,hw⟩:=hw
  subst e1
  cases r
  obtain ⟨its,rv,ht,hz⟩:=I.tuple hq
  refine assign_Tuple_tuple (I.ok.hd hc) ht (by simp [hn,<- hl,rv.length]) hst fun h' hx=>?_
  have I1:Inv X pins σ H { s with heap:=h' }:=I.kept (t':=s.toks) fun b o e=>hx b o (Nat.ne_of_lt (Heap.lt_size e)) e
  exact h pins _ σ H xs _ Q I1 (by simpa using rv) hw
def gSub (to ti:TE) (t:TSet):TG:=fun v σ H Q=>to σ H fun o H1=>ti σ H1 fun i H2=>t o i v H2 fun H3=>Q σ H3
theorem pg_sub {o i:Expr} {to ti:TE} {t:TSet} (ho:PE X o to) (hi:PE X i ti) (hs:PSet X t)
    (ha:∀ v,assign (.Subscript o i pos) X.env v=(do
      let ov <- holding [v] (eval o X.env)
      let iv <- holding [v,ov] (eval i X.env)
      standAt pos
      holding [v,ov,iv] (setItem ov iv v)
      release [v,ov,iv] []):=by intro _; rfl):PG X (.Subscript o i pos) (gSub to ti t):=by
  intro pins s σ H v u Q I r h
  rw [ha]
  refine wpAny_bind (wpAny_holding (thn (ho pins s σ H _ I h) fun ov s1 ⟨x,H1,I1,r1,q1⟩=>?_))
  refine wpAny_bind (wpAny_holding (thn (hi pins s1 σ H1 _ I1 q1) fun iv s2 ⟨y,H2,I2,r2,q2⟩=>?_))
  refine wpAny_bind (wpAny_standAt (wpAny_bind (wpAny_holding (thn (hs pins s2 σ H2 x y v ov iv u _ I2 r1 r2 r q2) fun _ s3 ⟨H3,I3,q3⟩=>?_))))
  exact wpAny_release ⟨σ,H3,I3,q3⟩
def tAsg (te:TE) (g:TG):TS:=fun D σ H=>te σ H fun x H1=>g x σ H1 D.nx
theorem ps_asg {tg e:Expr} {te:TE} {g:TG} (he:PE X e te) (hg:PG X tg g) (hs:swapsWithSole [tg] e pos.line X.env=pure false:=by rfl) (hw:swappedStores [tg] e X.env=pure none:=by rfl)
    (h1:(assignEach [tg] X.env).map (·.2)=[assign tg X.env]:=by rfl):PS X (.Assign [tg] e pos) (tAsg te g):=by
  intro pins s σ H D I h
  refine wpAny_Assign_stores (thn (he pins s σ H _ I h) fun v s1 ⟨x,H1,I1,r1,q1⟩=>?_) hs hw
  rw [h1]
  exact thn (hg pins s1 σ H1 x v _ I1 r1 q1) fun _ s2 q=>q
theorem ps_set {i:Nat} {x:Str} {e:Expr} {te:TE} {pos':Pos} (hN:X.N.Nodup) (hi:X.N[i]?=some x) (hx:Loc X.env.scope x) (he:PE X e te) (hs:swapsWith e (some (.Name x pos')) pos.line X.env=pure false:=by rfl) (hf:X.fn x=true\/X.env.scope.names.lookup x=some .local:=by first | exact .inl rfl | exact .inr rfl | assumption) :
    PS X (.Assign [.Name x pos'] e pos) (tAsg te (gName i)):=by
  intro pins s σ H D I h
  refine wpAny_Assign_Name (thn (he pins s σ H _ I h) fun v s1 ⟨y,H1,I1,r1,q1⟩=>?_) hs
  exact store_ok I1 hN hi hx r1 (fun s2 I2=>⟨_,H1,I2,q1⟩) hf
end
section
variable {X:Cx} {pos:Pos}
def tWhile (c:TT) (tb:TS):TS:=fun D σ H=>∃ W:Nat->St->Hp->Prop,(∃ m,W m σ H)/\∀ m σ H,W m σ H ->
  c σ H fun b H1=>if b=true then ∃ N:St->Hp->Prop,(∀ σ' H',N σ' H'->∃ m',m' < m/\W m' σ' H')/\tb { D with nx:=N,ct:=N,bk:=D.nx } σ H1 else D.nx σ H1
theorem ps_while {c:Expr} {body:List Stmt} {tc:TT} {tb:TS} (hp:PassesOwn (model X.prog X.w) X.A X.env X.xe) (hc:PT X c tc) (hb:PSs X body tb):PS X (.While c body [] pos) (tWhile tc tb):=by
  intro pins s σ H D I h
  obtain ⟨W,⟨m0,w0⟩,turn⟩:=h
  refine wpAny_While (codeAny_whileLoop (fun n s'=>∃ σ' H',Inv X pins σ' H' s'/\W n σ' H') ?_ m0 ⟨σ,H,I,w0⟩)
  rintro n s1 ⟨σ1,H1,I1,w1⟩
  refine wpAny_passesOwn hp (thn (hc pins s1 σ1 H1 _ I1 (turn n σ1 H1 w1)) fun b s2 ⟨H2,I2,q2⟩=>?_)
  cases b with
  | true =>
    obtain ⟨N,hN,q2⟩:=q2
    rw [if_pos rfl]
    refine wpAny_passesOwn hp (thn (hb pins s2 σ1 H2 _ I2 q2) fun f s3 q3=>?_)
    cases f with
    | next =>
      obtain ⟨σ3,H3,I3,n3⟩:=q3
      obtain ⟨m',hm,w3⟩:=hN σ3 H3 n3
      exact ⟨m',hm,σ3,H3,I3,w3⟩
    | cont =>
      obtain ⟨σ3,H3,I3,n3⟩:=q3
      obtain ⟨m',hm,w3⟩:=hN σ3 H3 n3
      exact ⟨m',hm,σ3,H3,I3,w3⟩
    | brk=>exact q3
    | ret v=>exact q3
  | false =>
    rw [if_neg Bool.false_ne_true]
    exact wpAny_execs_nil ⟨σ1,H2,I2,q2⟩
end
structure It where
  go:Nat->Hp->Prop
  yld:Nat->Hp->V->Hp->Prop
  stop:Nat->Hp->Prop
def FpOk (X:Cx) (pins:List (Addr × Obj)) (H:Hp) (b:Addr):Prop :=
  H b=none/\b≠X.env.locals/\b ∉ X.fs/\(b∈X.ex\/X.s₀.heap.objs.size<=b)/\(∀ x c,X.env.cells.lookup x=some c->c≠b)/\∀ p∈X.pn ++ pins,p.1≠b
theorem Inv.fpOk {X:Cx} {pins:List (Addr × Obj)} {σ:St} {H H':Hp} {s:Shared} {b:Addr} (I:Inv X pins σ H s) (hb:s.heap.objs.size<=b) (hn:H' b=none):FpOk X pins H' b:=by
  refine ⟨hn,Nat.ne_of_gt (Nat.lt_of_lt_of_le I.lt hb),I.nofs hb,.inr (Nat.le_trans I.sz hb),fun x c e z=>?_,fun p hp z=>?_⟩
  · obtain ⟨v,q⟩:=I.cell x c e
    exact absurd (Nat.lt_of_lt_of_le q.lt (by rw [z]; exact hb)) (Nat.lt_irrefl _)
  · exact absurd (Nat.lt_of_lt_of_le (Heap.lt_size (I.pin p hp).1) (by rw [z]; exact hb)) (Nat.lt_irrefl _)
structure Turn (P:Program) (w:World) (K:PySem.W.Frag) (tg:Expr) (J:It) (fp:List Addr) (it:Addr) (tn:Nat->Heap->Prop):Prop where
  mem:it∈fp
  obj:∀ i h,tn i h->∀ b∈fp,∃ o,h.get? b=some o/\∀ v,o.data≠.cell v
  keep:∀ i h h',tn i h->(∀ b∈fp,∀ o,h.get? b=some o->h'.get? b=some o)->tn i h'
  item:∀ (X:Cx),X.prog=P->X.w=w->X.K=K->X.calm=true->∀ (i:Nat) (pins:List (Addr × Obj)) (s:Shared) (σ:St) (H:Hp) (E:Value->Shared->Prop),Inv X pins σ H s->(∀ b∈fp,FpOk X pins H b)->tn i s.heap->J.go i H ->
    wpAny (model P w) X.A (pyNext (.ref it)) (fun r s1=>∃ u,r=some u /\
      wpAny (model P w) X.A (letOwnedTupleGo tg (.ref it) u) (fun _ s2=>∃ x H',Inv X pins σ H' s2/\RelV x u/\J.yld i H x H'/\tn (i + 1) s2.heap/\∀ b∈fp,H' b=none) E s1) E s
  done:∀ (X:Cx),X.prog=P->X.w=w->X.K=K->X.calm=true->∀ (i:Nat) (pins:List (Addr × Obj)) (s:Shared) (σ:St) (H:Hp) (E:Value->Shared->Prop),Inv X pins σ H s->(∀ b∈fp,FpOk X pins H b)->tn i s.heap->J.stop i H ->
    wpAny (model P w) X.A (pyNext (.ref it)) (fun r s1=>r=none/\Inv X pins σ H s1) E s
  self:∀ (A:Around) (i:Nat) (s:Shared) (Q:Value->Shared->Prop) (E:Value->Shared->Prop),tn i s.heap->Q (.ref it) s->wpAny (model P w) A (pyIter (.ref it)) Q E s
abbrev TI:=St->Hp->(It->Hp->Prop)->Prop
def PIE (X:Cx) (pins:List (Addr × Obj)) (σ:St) (tg:Expr) (R:It->Hp->Prop) (itv:Value) (s2:Shared):Prop :=
  ∃ (it:Addr) (fp:List Addr) (tn:Nat->Heap->Prop) (J:It) (H':Hp),itv=.ref it/\Inv X pins σ H' s2/\Turn X.prog X.w X.K tg J fp it tn/\tn 0 s2.heap/\(∀ b∈fp,FpOk X pins H' b)/\R J H'
def PI (X:Cx) (tg iter:Expr) (wi:TI):Prop :=
  ∀ (pins:List (Addr × Obj)) (s:Shared) (σ:St) (H:Hp) (R:It->Hp->Prop),Inv X pins σ H s->wi σ H R ->
    wpAny (model X.prog X.w) X.A (eval iter X.env) (fun v s1=>wpAny (model X.prog X.w) X.A (pyIter v) (PIE X pins σ tg R) X.xe s1) X.xe s
theorem go_of {M:Model} {A:Around} {E:Value->Shared->Prop} {s:Shared} {tg:Expr} {it:Addr} {u:Value} {o:Obj} {n:String} {vs:Array Value} {Q:Unit->Shared->Prop} (ho:s.heap.get? it=some o) (hc:o.cls=.type n) (hd:o.data=.fields vs)
    (hn:["enumerate","zip","dict_itemiterator","dict_reverseitemiterator","odict_iterator","itertools.zip_longest","itertools.pairwise"].contains n=false) (hQ:Q () s):wpAny M A (letOwnedTupleGo tg (.ref it) u) Q E s:=by
  unfold letOwnedTupleGo
  cases tg <;> first
    | exact wpAny_pure hQ
    | (cases u <;> first
        | exact wpAny_pure hQ
        | (refine wpAny_bind (wpAny_load ho ?_)
           rw [hc,hd]
           show wpAny M A (if (["enumerate","zip","dict_itemiterator","dict_reverseitemiterator","odict_iterator","itertools.zip_longest","itertools.pairwise"].contains n && vs[0]? == some (rawInt _))=true then _ else _) Q E s
           rw [if_neg (by intro h; rw [hn,Bool.false_and] at h; cases h)]
           exact wpAny_pure hQ))
def Itl (K:PySem.W.Frag) (a:Addr):It :=
  ⟨fun i H=>∃ xs x,SqL K H a xs/\xs[i]?=some x,fun i H x H'=>H'=H/\∀ xs,SqL K H a xs->xs[i]?=some x,fun i H=>∃ xs,SqL K H a xs/\xs.length<=i⟩
def Itt (K:PySem.W.Frag) (a:Addr):It :=
  ⟨fun i H=>∃ xs x,SqT K H a xs/\xs[i]?=some x,fun i H x H'=>H'=H/\∀ xs,SqT K H a xs->xs[i]?=some x,fun i H=>∃ xs,SqT K H a xs/\xs.length<=i⟩
def Itr (lo:Int) (n:Nat):It:=⟨fun i _=>i < n,fun i H x H'=>H'=H/\x=.int (lo + i),fun i _=>n<=i⟩
theorem turn_list {P:Program} {w:World} {K:PySem.W.Frag} {tg:Expr} (a it:Addr):Turn P w K tg (Itl K a) [it] it (fun i h=>h.IsListIter it a i) where
  mem:=by simp
  obj:=fun i h st b hb=>by
    have e:b=it:=by simpa using hb
    subst e
    obtain ⟨o,e,c,d⟩:=st
    exact ⟨o,e,fun v z=>by rw [d] at z; cases z⟩
  keep:=fun i h h' st k=>st.at fun o e=>k it (by simp) o e
  item:=by
    intro X hP hw hK hc i pins s σ H E I hf st hg
    subst hP hw hK
    obtain ⟨xs,x,hq,hx⟩:=hg
    obtain ⟨its,rv,p,hz⟩:=I.list hq
    obtain ⟨u,hu,ru⟩:=rv.get hx
    obtain ⟨f0,f1,f2,f3,f4,f5⟩:=hf it (by simp)
    refine wpAny_pyNext_list_item st p.isList (x:=u) (by simpa using hu) fun h' st' sb=>?_
    have I1:Inv X pins σ H { s with heap:=h' }:=I.turned (t':=s.toks) (fun b o hb e=>(sb.2 b hb).trans e) f0 f1 f3 f4 f5
    obtain ⟨o,e,c,d⟩:=id st'
    exact ⟨u,rfl,go_of (s:={ s with heap:=h' }) e c d (by decide) ⟨x,H,I1,ru,⟨rfl,fun ys hy=>by rw [I.list_inj hy hq]; exact hx⟩,st',fun b hb=>(hf b hb).1⟩⟩
  done:=by
    intro X hP hw hK hc i pins s σ H E I hf st hg
    subst hP hw hK
    obtain ⟨xs,hq,hx⟩:=hg
    obtain ⟨its,rv,p,hz⟩:=I.list hq
    obtain ⟨f0,f1,f2,f3,f4,f5⟩:=hf it (by simp)
    have hl:=rv.length
    exact wpAny_pyNext_list_end (I.ok.hd hc) st p.isList (by simp; lia) fun h' eb=>⟨rfl,I.turned (t':=s.toks) (fun b o hb e=>eb b o hb e) f0 f1 f3 f4 f5⟩
  self:=fun _ _ _ _ _ st h=>wpAny_pyIter_listiter st h
theorem turn_tuple {P:Program} {w:World} {K:PySem.W.Frag} {tg:Expr} (a it:Addr):Turn P w K tg (Itt K a) [it] it (fun i h=>h.IsTupleIter it a i) where
  mem:=by simp
  obj:=fun i h st b hb=>by
    have e:b=it:=by simpa using hb
    subst e
    obtain ⟨o,e,c,d⟩:=st
    exact ⟨o,e,fun v z=>by rw [d] at z; cases z⟩
  keep:=fun i h h' st k=>st.at fun o e=>k it (by simp) o e
  item:=by
    intro X hP hw hK hc i pins s σ H E I hf st hg
    subst hP hw hK
    obtain ⟨xs,x,hq,hx⟩:=hg
    obtain ⟨its,rv,p,hz⟩:=I.tuple hq
    obtain ⟨u,hu,ru⟩:=rv.get hx
    obtain ⟨f0,f1,f2,f3,f4,f5⟩:=hf it (by simp)
    refine wpAny_pyNext_tuple_item st (show s.heap.IsTuple a its.toArray from p) (x:=u) (by simpa using hu) fun h' st' sb=>?_
    have I1:Inv X pins σ H { s with heap:=h' }:=I.turned (t':=s.toks) (fun b o hb e=>(sb.2 b hb).trans e) f0 f1 f3 f4 f5
    obtain ⟨o,e,c,d⟩:=id st'
    exact ⟨u,rfl,go_of (s:={ s with heap:=h' }) e c d (by decide) ⟨x,H,I1,ru,⟨rfl,fun ys hy=>by rw [I.tuple_inj hy hq]; exact hx⟩,st',fun b hb=>(hf b hb).1⟩⟩
  done:=by
    intro X hP hw hK hc i pins s σ H E I hf st hg
    subst hP hw hK
    obtain ⟨xs,hq,hx⟩:=hg
    obtain ⟨its,rv,p,hz⟩:=I.tuple hq
    obtain ⟨f0,f1,f2,f3,f4,f5⟩:=hf it (by simp)
    have hl:=rv.length
    exact wpAny_pyNext_tuple_end (I.ok.hd hc) st (show s.heap.IsTuple a its.toArray from p) (by simp; lia) fun h' eb=>⟨rfl,I.turned (t':=s.toks) (fun b o hb e=>eb b o hb e) f0 f1 f3 f4 f5⟩
  self:=fun _ _ _ _ _ st h=>wpAny_pyIter_tupleiter st h
theorem turn_range {P:Program} {w:World} {K:PySem.W.Frag} {tg:Expr} (it:Addr) (lo:Int) (n:Nat):Turn P w K tg (Itr lo n) [it] it (fun i h=>IsRangeIter h it (lo + (i:Nat) * 1) ((n:Int) - (i:Nat)) 1) where
  mem:=by simp
  obj:=fun i h st b hb=>by
    have e:b=it:=by simpa using hb
    subst e
    exact ⟨_,st,fun v z=>by
      have z':Data.fields _=Data.cell v:=z
      cases z'⟩
  keep:=fun i h h' st k=>k it (by simp) _ st
  item:=by
    intro X hP hw hK hc i pins s σ H E I hf st hg
    subst hP hw hK
    obtain ⟨f0,f1,f2,f3,f4,f5⟩:=hf it (by simp)
    have W:=Walks.range (prog:=X.prog) (w:=X.w) (I.ok.hd hc) it lo 1 n
    refine W.item i s _ _ hg st fun v h' tk hv st' kk=>?_
    obtain ⟨t,rfl⟩:=hv
    have I1:Inv X pins σ H { s with heap:=h',toks:=tk }:=I.turned (fun b o hb e=>kk b o (by simpa using hb) e) f0 f1 f3 f4 f5
    refine ⟨_,rfl,go_of (s:={ s with heap:=h',toks:=tk }) (n:="range_iterator") st' rfl rfl (by decide) ⟨.int (lo + i),H,I1,⟨t,?_⟩,⟨rfl,rfl⟩,st',fun b hb=>(hf b hb).1⟩⟩
    rw [Int.mul_one]
  done:=by
    intro X hP hw hK hc i pins s σ H E I hf st hg
    subst hP hw hK
    obtain ⟨f0,f1,f2,f3,f4,f5⟩:=hf it (by simp)
    exact wpAny_pyNext_range_end (I.ok.hd hc) st (by have:n<=i:=hg; lia) fun h' eb=>⟨rfl,I.turned (t':=s.toks) (fun b o hb e=>eb b o hb e) f0 f1 f3 f4 f5⟩
  self:=fun _ _ _ _ _ st h=>wpAny_pyIter_rangeiter st h
end L2
namespace L2
open PySem PySem.Spec PyProof.Rows
section
variable {X:Cx} {tg:Expr}
def iList (K:PySem.W.Frag) (tl:TE):TI:=fun σ H R=>tl σ H fun x H1=>∃ a,x=.ref a/\(∃ xs,SqL K H1 a xs)/\R (Itl K a) H1
def iTup (K:PySem.W.Frag) (tl:TE):TI:=fun σ H R=>tl σ H fun x H1=>∃ a,x=.ref a/\(∃ xs,SqT K H1 a xs)/\R (Itt K a) H1
theorem pi_list {l:Expr} {tl:TE} (hl:PE X l tl):PI X tg l (iList X.K tl):=by
  intro pins s σ H R I h
  refine thn (hl pins s σ H _ I h) fun v s1 ⟨x,H1,I1,r1,q1⟩=>?_
  obtain ⟨a,e,⟨xs,hq⟩,q⟩:=q1
  subst e
  cases r1
  obtain ⟨its,rv,p,hz⟩:=I1.list hq
  refine wpAny_pyIter_list p.isList ?_
  refine ⟨s1.heap.objs.size,[s1.heap.objs.size],_,_,H1,rfl,I1.kept (t':=s1.toks) fun b o e=>Heap.get?_push_of_some _ e,turn_list a _,⟨_,Heap.get?_push_size _ rfl,rfl,rfl⟩,fun b hb=>?_,q⟩
  have e:b=s1.heap.objs.size:=by simpa using hb
  subst e
  exact I1.fpOk (Nat.le_refl _) (I1.hok.fresh (Nat.le_refl _))
theorem pi_tup {l:Expr} {tl:TE} (hl:PE X l tl):PI X tg l (iTup X.K tl):=by
  intro pins s σ H R I h
  refine thn (hl pins s σ H _ I h) fun v s1 ⟨x,H1,I1,r1,q1⟩=>?_
  obtain ⟨a,e,⟨xs,hq⟩,q⟩:=q1
  subst e
  cases r1
  obtain ⟨its,rv,p,hz⟩:=I1.tuple hq
  refine wpAny_pyIter_tuple (show s1.heap.IsTuple a its.toArray from p) ?_
  refine ⟨s1.heap.objs.size,[s1.heap.objs.size],_,_,H1,rfl,I1.kept (t':=s1.toks) fun b o e=>Heap.get?_push_of_some _ e,turn_tuple a _,⟨_,Heap.get?_push_size _ rfl,rfl,rfl⟩,fun b hb=>?_,q⟩
  have e:b=s1.heap.objs.size:=by simpa using hb
  subst e
  exact I1.fpOk (Nat.le_refl _) (I1.hok.fresh (Nat.le_refl _))
theorem range_it {pins:List (Addr × Obj)} {σ:St} {H:Hp} {s:Shared} {R:It->Hp->Prop} {E:Value->Shared->Prop} {lo hi:Int} {t u v:Tok} {tk:Nat} (I:Inv X pins σ H s) (h1:-(2 ^ 62)<=lo) (h2:lo < 2 ^ 62) (h3:-(2 ^ 62)<=hi) (h4:hi < 2 ^ 62)
    (q:R (Itr lo (hi - lo).toNat) H):wpAny (model X.prog X.w) X.A (pyIter (.ref s.heap.objs.size)) (PIE X pins σ tg R) E { s with heap:=s.heap.push { cls:=.type "range",data:=.fields #[.int lo t,.int hi u,.int 1 v] },toks:=tk }:=by
  refine wpAny_pyIter_range (IsRange.new ..) (small_one h1 h2 h3 h4) ?_
  have I1:Inv X pins σ H { s with heap:=s.heap.push { cls:=.type "range",data:=.fields #[.int lo t,.int hi u,.int 1 v] },toks:=tk }:=I.kept fun b o e=>Heap.get?_push_of_some _ e
  refine ⟨(s.heap.push { cls:=.type "range",data:=.fields #[.int lo t,.int hi u,.int 1 v] }).objs.size,[(s.heap.push { cls:=.type "range",data:=.fields #[.int lo t,.int hi u,.int 1 v] }).objs.size],_,_,H,rfl,
    I1.kept (t':=tk) fun b o e=>Heap.get?_push_of_some _ e,turn_range _ lo (hi - lo).toNat,?_,fun b hb=>?_,q⟩
  · have e1:lo + ((0:Nat):Int) * 1=lo:=by simp
    have e2:(((hi - lo).toNat:Nat):Int) - ((0:Nat):Int)=Builtin.Range.rangeSize lo hi 1:=by rw [rangeSize_one]; split <;> lia
    show IsRangeIter _ _ (lo + ((0:Nat):Int) * 1) ((((hi - lo).toNat:Nat):Int) - ((0:Nat):Int)) 1
    rw [e1,e2]
    exact Heap.get?_push_size _ rfl
  · have e:b=(s.heap.push { cls:=.type "range",data:=.fields #[.int lo t,.int hi u,.int 1 v] }).objs.size:=by simpa using hb
    subst e
    exact I1.fpOk (Nat.le_refl _) (I1.hok.fresh (Nat.le_refl _))
def iRng1 (ta:TA):TI:=fun σ H R=>ta σ H fun vs H1=>∃ j:Int,vs=[.int j]/\-(2 ^ 62)<=j/\j < 2 ^ 62/\R (Itr 0 j.toNat) H1
theorem pi_range1 {a:Expr} {ta:TA} {p pos:Pos} (hg:Gl X "range") (hm:X.mg "range"=none) (ha:PA X [a] ta) (hs:starEach [a] X.env=[(false,eval a X.env)]:=by rfl):PI X tg (.Call (.Name "range" p) [a] [] pos) (iRng1 ta):=by
  intro pins s σ H R I h
  refine Call_ (ld_blt I hg hm boot_range (PyProof.Rows.callWith_type1 (thn (ha pos pins s σ H _ I h) fun us s1 ⟨vs,H1,I1,r1,q1⟩=>?_) hs rfl))
  obtain ⟨j,e,q1,q2,q⟩:=q1
  subst e
  cases r1 with
  | cons r rr =>
    cases rr
    obtain ⟨t,rfl⟩:=r
    exact call_range_1 (range_it I1 (by lia) (by lia) q1 q2 (by simpa using q))
def tFor (wi:TI) (g:TG) (tb:TS):TS:=fun D σ H=>wi σ H fun J H1=>∃ W:Nat->Nat->St->Hp->Prop,(∃ m,W 0 m σ H1)/\∀ i m σ H,W i m σ H ->
  (J.stop i H/\D.nx σ H)\/(J.go i H/\∃ N:St->Hp->Prop,(∀ σ' H',N σ' H'->∃ m',m' < m/\W (i + 1) m' σ' H')/\∀ x H',J.yld i H x H'->g x σ H' fun σ2 H2=>tb { D with nx:=N,ct:=N,bk:=D.nx } σ2 H2)
def pinsAt (fp:List Addr) (h:Heap):List (Addr × Obj):=fp.filterMap fun b=>(h.get? b).map fun o=>(b,o)
theorem mem_pinsAt {fp:List Addr} {h:Heap} {b:Addr} {o:Obj} (hb:b∈fp) (e:h.get? b=some o):(b,o)∈pinsAt fp h:=List.mem_filterMap.mpr ⟨b,hb,by rw [e]; rfl⟩
theorem of_pinsAt {fp:List Addr} {h:Heap} {p:Addr × Obj} (hp:p∈pinsAt fp h):p.1∈fp/\h.get? p.1=some p.2:=by
  obtain ⟨b,hb,e⟩:=List.mem_filterMap.mp hp
  cases q:h.get? b with
  | none=>rw [q] at e; cases e
  | some o =>
    rw [q] at e
    have e':(b,o)=p:=Option.some.inj e
    subst e'
    exact ⟨hb,q⟩
theorem Inv.pinned {pins:List (Addr × Obj)} {σ:St} {H:Hp} {s:Shared} {fp:List Addr} (I:Inv X pins σ H s) (hf:∀ b∈fp,FpOk X pins H b) (ho:∀ b∈fp,∃ o,s.heap.get? b=some o/\∀ v,o.data≠.cell v):Inv X (pins ++ pinsAt fp s.heap) σ H s :=
  I.pins_of fun p hp=>(List.mem_append.mp hp).elim (fun z=>I.pin p (List.mem_append_right _ z)) fun z=>by
    obtain ⟨hb,e⟩:=of_pinsAt z
    obtain ⟨f0,f1,f2,_⟩:=hf p.1 hb
    obtain ⟨o,e',d⟩:=ho p.1 hb
    rw [e] at e'; cases e'
    exact ⟨e,f0,f1,f2,d⟩
theorem Inv.unpinned {pins pl:List (Addr × Obj)} {σ:St} {H:Hp} {s:Shared} (I:Inv X (pins ++ pl) σ H s):Inv X pins σ H s:=I.pins_of fun p hp=>I.pin p (List.mem_append_right _ (List.mem_append_left _ hp))
theorem ps_for {iter:Expr} {body:List Stmt} {wi:TI} {g:TG} {tb:TS} {pos:Pos} (hp:PassesOwn (model X.prog X.w) X.A X.env X.xe) (hc:X.calm=true) (hi:PI X tg iter wi) (hg:PG X tg g) (hb:PSs X body tb)
    (hs:∀ x,foldedSetIterable iter X.env x=pure x:=by intro _; rfl):PS X (.For tg iter body [] pos) (tFor wi g tb):=by
  intro pins s σ H D I h
  refine wpAny_For (thn (hi pins s σ H _ I h) fun v s1 h1=>thn h1 fun itv s2 h2=>?_) hs
  obtain ⟨it,fp,tn,J,H2,e,I2,T,st2,f2,W,⟨m0,w0⟩,turn⟩:=h2
  subst e
  -- what stays true of the iterator's objects through the loop
  have stat:∀ {H':Hp},(∀ b∈fp,H' b=none)->∀ b∈fp,FpOk X pins H' b:=fun hn b hb=>⟨hn b hb,(f2 b hb).2⟩
  refine codeAny_forLoop_any (fun n s'=>∃ i σ' H',Inv X pins σ' H' s'/\tn i s'.heap/\(∀ b∈fp,H' b=none)/\W i n σ' H') ?_ m0 ⟨0,σ,H2,I2,st2,fun b hb=>(f2 b hb).1,w0⟩
  rintro n s3 ⟨i,σ3,H3,I3,st3,fr3,w3⟩
  rcases turn i n σ3 H3 w3 with ⟨stop,qn⟩ | ⟨go,N,hN,step⟩
  · refine wpAny_passesOwn hp (thn (T.done X rfl rfl rfl hc i pins s3 σ3 H3 X.xe I3 (stat fr3) st3 stop) fun r s4 ⟨hr,I4⟩=>?_)
    subst hr
    exact wpAny_execs_nil ⟨σ3,H3,I4,qn⟩
  · refine wpAny_passesOwn hp (thn (T.item X rfl rfl rfl hc i pins s3 σ3 H3 X.xe I3 (stat fr3) st3 go) fun r s4 ⟨u,hr,h4⟩=>?_)
    subst hr
    refine wpAny_passesOwn hp (thn h4 fun _ s5 ⟨x,H5,I5,r5,y5,st5,fr5⟩=>?_)
    have I5':=I5.pinned (stat fr5) (T.obj _ _ st5)
    refine wpAny_passesOwn hp (thn (hg _ s5 σ3 H5 x u _ I5' r5 (step x H5 y5)) fun _ s6 ⟨σ6,H6,I6,q6⟩=>?_)
    refine wpAny_passesOwn hp (thn (hb _ s6 σ6 H6 _ I6 q6) fun f s7 q7=>?_)
    have again:∀ {σ7:St} {H7:Hp},Inv X (pins ++ pinsAt fp s5.heap) σ7 H7 s7->N σ7 H7->∃ m,m < n/\∃ i σ' H',Inv X pins σ' H' s7/\tn i s7.heap/\(∀ b∈fp,H' b=none)/\W i m σ' H':=fun {σ7 H7} I7 n7=>by
      obtain ⟨m',hm,w7⟩:=hN σ7 H7 n7
      refine ⟨m',hm,i + 1,σ7,H7,I7.unpinned,T.keep _ _ _ st5 fun b hb o e=>(I7.pin (b,o) (List.mem_append_right _ (List.mem_append_right _ (mem_pinsAt hb e)))).1,fun b hb=>?_,w7⟩
      obtain ⟨o,e,d⟩:=T.obj _ _ st5 b hb
      exact (I7.pin (b,o) (List.mem_append_right _ (List.mem_append_right _ (mem_pinsAt hb e)))).2.1
    cases f with
    | next=>obtain ⟨σ7,H7,I7,n7⟩:=q7; exact again I7 n7
    | cont=>obtain ⟨σ7,H7,I7,n7⟩:=q7; exact again I7 n7
    | brk=>obtain ⟨σ7,H7,I7,q7⟩:=q7; exact ⟨σ7,H7,I7.unpinned,q7⟩
    | ret v=>obtain ⟨x7,σ7,H7,I7,r7,q7⟩:=q7; exact ⟨x7,σ7,H7,I7.unpinned,r7,q7⟩
end
theorem for_list {K:PySem.W.Frag} {a:Addr} {xs:List V} {g:TG} {tb:TS} {D:Ends} {σ:St} {H:Hp} (Pv:Nat->St->Hp->Prop) (h0:Pv 0 σ H) (hl:∀ i σ H,i<=xs.length->Pv i σ H->SqL K H a xs)
    (hs:∀ i x σ H,xs[i]?=some x->Pv i σ H->g x σ H fun σ2 H2=>tb { D with nx:=Pv (i + 1),ct:=Pv (i + 1),bk:=D.nx } σ2 H2) (hd:∀ σ H,Pv xs.length σ H->D.nx σ H) :
    ∃ W:Nat->Nat->St->Hp->Prop,(∃ m,W 0 m σ H)/\∀ i m σ H,W i m σ H ->
      ((Itl K a).stop i H/\D.nx σ H)\/((Itl K a).go i H/\∃ N:St->Hp->Prop,(∀ σ' H',N σ' H'->∃ m',m' < m/\W (i + 1) m' σ' H')/\∀ x H',(Itl K a).yld i H x H'->g x σ H' fun σ2 H2=>tb { D with nx:=N,ct:=N,bk:=D.nx } σ2 H2):=by
  refine ⟨fun i m σ H=>m=xs.length - i/\i<=xs.length/\Pv i σ H,⟨xs.length,by simp,Nat.zero_le _,h0⟩,?_⟩
  rintro i m σ H ⟨rfl,hi,p⟩
  have q:=hl i σ H hi p
  by_cases hlt:i < xs.length
  · refine .inr ⟨⟨xs,xs[i],q,by simp [hlt]⟩,Pv (i + 1),fun σ' H' p'=>⟨xs.length - (i + 1),by lia,rfl,hlt,p'⟩,fun x H' y=>?_⟩
    obtain ⟨e,y⟩:=y
    subst e
    exact hs i x σ _ (y xs q) p
  · have e:i=xs.length:=by lia
    subst e
    exact .inl ⟨⟨xs,q,Nat.le_refl _⟩,hd σ H p⟩
theorem for_tup {K:PySem.W.Frag} {a:Addr} {xs:List V} {g:TG} {tb:TS} {D:Ends} {σ:St} {H:Hp} (Pv:Nat->St->Hp->Prop) (h0:Pv 0 σ H) (hl:∀ i σ H,i<=xs.length->Pv i σ H->SqT K H a xs)
    (hs:∀ i x σ H,xs[i]?=some x->Pv i σ H->g x σ H fun σ2 H2=>tb { D with nx:=Pv (i + 1),ct:=Pv (i + 1),bk:=D.nx } σ2 H2) (hd:∀ σ H,Pv xs.length σ H->D.nx σ H) :
    ∃ W:Nat->Nat->St->Hp->Prop,(∃ m,W 0 m σ H)/\∀ i m σ H,W i m σ H ->
      ((Itt K a).stop i H/\D.nx σ H)\/((Itt K a).go i H/\∃ N:St->Hp->Prop,(∀ σ' H',N σ' H'->∃ m',m' < m/\W (i + 1) m' σ' H')/\∀ x H',(Itt K a).yld i H x H'->g x σ H' fun σ2 H2=>tb { D with nx:=N,ct:=N,bk:=D.nx } σ2 H2):=by
  refine ⟨fun i m σ H=>m=xs.length - i/\i<=xs.length/\Pv i σ H,⟨xs.length,by simp,Nat.zero_le _,h0⟩,?_⟩
  rintro i m σ H ⟨rfl,hi,p⟩
  have q:=hl i σ H hi p
  by_cases hlt:i < xs.length
  · refine .inr ⟨⟨xs,xs[i],q,by simp [hlt]⟩,Pv (i + 1),fun σ' H' p'=>⟨xs.length - (i + 1),by lia,rfl,hlt,p'⟩,fun x H' y=>?_⟩
    obtain ⟨e,y⟩:=y
    subst e
    exact hs i x σ _ (y xs q) p
  · have e:i=xs.length:=by lia
    subst e
    exact .inl ⟨⟨xs,q,Nat.le_refl _⟩,hd σ H p⟩
theorem for_range {lo:Int} {n:Nat} {g:TG} {tb:TS} {D:Ends} {σ:St} {H:Hp} (Pv:Nat->St->Hp->Prop) (h0:Pv 0 σ H)
    (hs:∀ i σ H,i < n->Pv i σ H->g (.int (lo + i)) σ H fun σ2 H2=>tb { D with nx:=Pv (i + 1),ct:=Pv (i + 1),bk:=D.nx } σ2 H2) (hd:∀ σ H,Pv n σ H->D.nx σ H) :
    ∃ W:Nat->Nat->St->Hp->Prop,(∃ m,W 0 m σ H)/\∀ i m σ H,W i m σ H ->
      ((Itr lo n).stop i H/\D.nx σ H)\/((Itr lo n).go i H/\∃ N:St->Hp->Prop,(∀ σ' H',N σ' H'->∃ m',m' < m/\W (i + 1) m' σ' H')/\∀ x H',(Itr lo n).yld i H x H'->g x σ H' fun σ2 H2=>tb { D with nx:=N,ct:=N,bk:=D.nx } σ2 H2):=by
  refine ⟨fun i m σ H=>m=n - i/\i<=n/\Pv i σ H,⟨n,by simp,Nat.zero_le _,h0⟩,?_⟩
  rintro i m σ H ⟨rfl,hi,p⟩
  by_cases hlt:i < n
  · refine .inr ⟨hlt,Pv (i + 1),fun σ' H' p'=>⟨n - (i + 1),by lia,rfl,hlt,p'⟩,fun x H' y=>?_⟩
    obtain ⟨e,y⟩:=y
    subst e y
    exact hs i σ _ hlt p
  · have e:i=n:=by lia
    subst e
    exact .inl ⟨Nat.le_refl _,hd σ H p⟩
end L2
namespace L2
open PySem PySem.Spec PyProof.Rows
abbrev R2:=V->V->Hp->VK->Prop
def OpR (X:Cx) (f:Value->Value->Sem Value) (r:R2):Prop :=
  ∀ (pins:List (Addr × Obj)) (s:Shared) (σ:St) (H:Hp) (x y:V) (v u:Value) (Q:VK),Inv X pins σ H s->RelV x v->RelV y u->r x y H Q ->
    wpAny (model X.prog X.w) X.A (f v u) (EP X pins σ Q) X.xe s
def UnR (X:Cx) (f:Value->Sem Value) (r:V->Hp->VK->Prop):Prop :=
  ∀ (pins:List (Addr × Obj)) (s:Shared) (σ:St) (H:Hp) (x:V) (v:Value) (Q:VK),Inv X pins σ H s->RelV x v->r x H Q ->
    wpAny (model X.prog X.w) X.A (f v) (EP X pins σ Q) X.xe s
def CallR (X:Cx) (f:Value) (r:List V->Hp->VK->Prop):Prop :=
  ∀ (pins:List (Addr × Obj)) (s:Shared) (σ:St) (H:Hp) (xs:List V) (us:List Value) (Q:VK),Inv X pins σ H s->Vals xs us->r xs H Q ->
    wpAny (model X.prog X.w) X.A (call f us) (EP X pins σ Q) X.xe s
def tOp (r:R2) (ta tb:TE):TE:=fun σ H Q=>ta σ H fun x H1=>tb σ H1 fun y H2=>r x y H2 Q
def tUn (r:V->Hp->VK->Prop) (ta:TE):TE:=fun σ H Q=>ta σ H fun x H1=>r x H1 Q
def rI (C:Int->Int->Prop) (g:Int->Int->V):R2:=fun x y H Q=>∃ i j,x=.int i/\y=.int j/\C i j/\Q (g i j) H
def rI0 (g:Int->Int->V):R2:=fun x y H Q=>∃ i j,x=.int i/\y=.int j/\Q (g i j) H
def rU (g:Int->V):V->Hp->VK->Prop:=fun x H Q=>∃ i,x=.int i/\Q (g i) H
section
variable {X:Cx} {a b c:Expr} {ta tb tc:TE} {pos:Pos}
theorem binT (ha:PE X a ta) (hb:PE X b tb) {pins:List (Addr × Obj)} {s:Shared} {σ:St} {H:Hp} {R:V->V->Hp->Prop} (I:Inv X pins σ H s)
    (h:ta σ H fun x H1=>tb σ H1 fun y H2=>R x y H2) {Q:Value->Shared->Prop} {f:Value->Value->Sem Value}
    (hf:∀ v u s2 x y H2,Inv X pins σ H2 s2->RelV x v->RelV y u->R x y H2->wpAny (model X.prog X.w) X.A (f v u) Q X.xe s2) :
    wpAny (model X.prog X.w) X.A (eval a X.env) (fun v s₁=>wpAny (model X.prog X.w) X.A (eval b X.env) (fun u s₂=>wpAny (model X.prog X.w) X.A (f v u) Q X.xe s₂) X.xe s₁) X.xe s:=by
  refine thn (ha pins s σ H _ I h) fun v s1 ⟨x,H1,I1,r1,q1⟩=>?_
  refine thn (hb pins s1 σ H1 _ I1 q1) fun u s2 ⟨y,H2,I2,r2,q2⟩=>?_
  exact hf v u s2 x y H2 I2 r1 r2 q2
theorem pe_op {op:Operator} {r:R2} (ho:OpR X (binaryOp op) r) (ha:PE X a ta) (hb:PE X b tb):PE X (.BinOp a op b pos) (tOp r ta tb):=by
  intro pins s σ H Q I h
  exact wpAny_BinOp (binT ha hb I h fun v u s2 x y H2 I2 rx ry q=>ho pins s2 σ H2 x y v u Q I2 rx ry q)
theorem pe_un {op:UnaryOp} {r:V->Hp->VK->Prop} (ho:UnR X (unaryOp op) r) (ha:PE X a ta):PE X (.UnaryOp op a pos) (tUn r ta):=by
  intro pins s σ H Q I h
  exact UnaryOp_ (thn (ha pins s σ H _ I h) fun v s1 ⟨x,H1,I1,r1,q1⟩=>ho pins s1 σ H1 x v Q I1 r1 q1)
theorem opI {f:Value->Value->Sem Value} {C:Int->Int->Prop} {g:Int->Int->Int}
    (rule:∀ (i j:Int) (t u:Tok) (s:Shared) (Q:Value->Shared->Prop) (E:Value->Shared->Prop),C i j->Q (.int (g i j) s.toks) { s with toks:=s.toks + 1 }->wpAny (model X.prog X.w) X.A (f (.int i t) (.int j u)) Q E s) :
    OpR X f (rI C fun i j=>.int (g i j)):=by
  intro pins s σ H x y v u Q I rx ry h
  obtain ⟨i,j,rfl,rfl,hc,q⟩:=h
  obtain ⟨t,rfl⟩:=rx
  obtain ⟨t',rfl⟩:=ry
  exact rule i j t t' s _ _ hc ⟨.int (g i j),H,I.tok _,⟨_,rfl⟩,q⟩
theorem opI0 {f:Value->Value->Sem Value} {g:Int->Int->Int}
    (rule:∀ (i j:Int) (t u:Tok) (s:Shared) (Q:Value->Shared->Prop) (E:Value->Shared->Prop),Q (.int (g i j) s.toks) { s with toks:=s.toks + 1 }->wpAny (model X.prog X.w) X.A (f (.int i t) (.int j u)) Q E s) :
    OpR X f (rI0 fun i j=>.int (g i j)):=by
  intro pins s σ H x y v u Q I rx ry h
  obtain ⟨i,j,rfl,rfl,q⟩:=h
  obtain ⟨t,rfl⟩:=rx
  obtain ⟨t',rfl⟩:=ry
  exact rule i j t t' s _ _ ⟨.int (g i j),H,I.tok _,⟨_,rfl⟩,q⟩
theorem opB0 {f:Value->Value->Sem Value} {g:Int->Int->Bool}
    (rule:∀ (i j:Int) (t u:Tok) (s:Shared) (Q:Value->Shared->Prop) (E:Value->Shared->Prop),Q (.bool (g i j)) s->wpAny (model X.prog X.w) X.A (f (.int i t) (.int j u)) Q E s) :
    OpR X f (rI0 fun i j=>.bl (g i j)):=by
  intro pins s σ H x y v u Q I rx ry h
  obtain ⟨i,j,rfl,rfl,q⟩:=h
  obtain ⟨t,rfl⟩:=rx
  obtain ⟨t',rfl⟩:=ry
  exact rule i j t t' s _ _ ⟨.bl (g i j),H,I,rfl,q⟩
def CDiv (i j:Int):Prop:=0 < j/\j < 1073741824
def CMul (i j:Int):Prop:=(-(2 ^ 64) < i/\i < 2 ^ 64)\/(-(2 ^ 64) < j/\j < 2 ^ 64)
theorem CMul.ok {i j:Int} (h:CMul i j):IntMulOk i j:=by
  rcases h with ⟨h1,h2⟩ | ⟨h1,h2⟩
  · exact .of_left (intBits_le_64 h1 h2)
  · exact .of_right (intBits_le_64 h1 h2)
theorem op_add:OpR X (binaryOp .Add) (rI0 fun i j=>.int (i + j)):=opI0 fun _ _ _ _ _ _ _ q=>add_int q
theorem op_sub:OpR X (binaryOp .Sub) (rI0 fun i j=>.int (i - j)):=opI0 fun _ _ _ _ _ _ _ q=>sub_int q
theorem op_mul:OpR X (binaryOp .Mult) (rI CMul fun i j=>.int (i * j)):=opI fun _ _ _ _ _ _ _ hc q=>mul_int q hc.ok
theorem op_fdiv:OpR X (binaryOp .FloorDiv) (rI CDiv fun i j=>.int (i / j)):=opI fun i j _ _ _ _ _ hc q=>by
  have h1:(0:Int) < j:=hc.1
  have h2:j < 1073741824:=hc.2
  exact floordiv_int (by lia) (by rw [Int.fdiv_eq_ediv_of_nonneg i (by lia)]; exact q) (.inl (PyProof.noPylong_small (by lia)))
theorem op_mod:OpR X (binaryOp .Mod) (rI (fun _ j=>0 < j) fun i j=>.int (i % j)):=opI fun i j _ _ _ _ _ hc q=>by
  have h1:(0:Int) < j:=hc
  exact mod_int' (by lia) (by rw [Int.fmod_eq_emod_of_nonneg i (by lia)]; exact q)
theorem unI {f:Value->Sem Value} {g:Int->Int}
    (rule:∀ (i:Int) (t:Tok) (s:Shared) (Q:Value->Shared->Prop) (E:Value->Shared->Prop),Q (.int (g i) s.toks) { s with toks:=s.toks + 1 }->wpAny (model X.prog X.w) X.A (f (.int i t)) Q E s) :
    UnR X f (rU fun i=>.int (g i)):=by
  intro pins s σ H x v Q I rx h
  obtain ⟨i,rfl,q⟩:=h
  obtain ⟨t,rfl⟩:=rx
  exact rule i t s _ _ ⟨.int (g i),H,I.tok _,⟨_,rfl⟩,q⟩
theorem un_neg:UnR X (unaryOp .USub) (rU fun i=>.int (-i)):=unI fun _ _ _ _ _ q=>neg_int q
end
def scal:V->V->Bool
  | .non,.non=>true | .non,.int _=>true | .int _,.non=>true | .non,.bl _=>true | .bl _,.non=>true | .non,.str _=>true | .str _,.non=>true
  | .int _,.int _=>true | .bl _,.bl _=>true | .str _,.str _=>true | .byt _,.byt _=>true
  | .int _,.str _=>true | .str _,.int _=>true | .bl _,.str _=>true | .str _,.bl _=>true
  | _,_=>false
def rEq:R2:=fun x y H Q=>scal x y=true/\Q (.bl (decide (x=y))) H
def rNe:R2:=fun x y H Q=>scal x y=true/\Q (.bl (!decide (x=y))) H
theorem dec_int {i j:Int}:decide (V.int i=V.int j)=(i == j):=by
  rw [Bool.eq_iff_iff]
  simp
theorem dec_bl {i j:Bool}:decide (V.bl i=V.bl j)=(i == j):=by
  rw [Bool.eq_iff_iff]
  simp
theorem dec_str {i j:Str}:decide (V.str i=V.str j)=(i == j):=by
  rw [Bool.eq_iff_iff]
  simp
theorem dec_byt {i j:Array UInt8}:decide (V.byt i=V.byt j)=(i.toList == j.toList):=by
  rw [Bool.eq_iff_iff]
  cases i
  cases j
  simp
section
variable {X:Cx} {a b c:Expr} {ta tb tc:TE} {pos:Pos}
theorem fin_bl {pins:List (Addr × Obj)} {σ:St} {H:Hp} {s:Shared} {Q:VK} {k k':Bool} (I:Inv X pins σ H s) (q:Q (.bl k) H) (e:k=k'):EP X pins σ Q (.bool k') s:=by
  subst e
  exact ⟨.bl k,H,I,rfl,q⟩
theorem op_eq:OpR X (compareOp .Eq) rEq:=by
  intro pins s σ H x y v u Q I rx ry h
  obtain ⟨hs,q⟩:=h
  cases x with
  | non =>
    cases rx
    cases y with
    | non=>cases ry; exact PySem.EqNone.eq_none_none (fin_bl I q (by simp))
    | bl j=>cases ry; exact PySem.EqNone.eq_none_bool (fin_bl I q (by simp))
    | int j=>obtain ⟨t',rfl⟩:=ry; exact PySem.EqNone.eq_none_int (fin_bl I q (by simp))
    | str j=>obtain ⟨t',rfl⟩:=ry; exact PySem.EqNone.eq_none_str (fin_bl I q (by simp))
    | _=>exact absurd (show false=true from hs) Bool.false_ne_true
  | bl i =>
    cases rx
    cases y with
    | non=>cases ry; exact PySem.EqNone.eq_bool_none (fin_bl I q (by simp))
    | bl j=>cases ry; exact eq_bool (fin_bl I q dec_bl)
    | str j=>obtain ⟨t',rfl⟩:=ry; exact PySem.EqMixed.eq_bool_str (fin_bl I q (by simp))
    | _=>exact absurd (show false=true from hs) Bool.false_ne_true
  | int i =>
    obtain ⟨t,rfl⟩:=rx
    cases y with
    | non=>cases ry; exact PySem.EqNone.eq_int_none (fin_bl I q (by simp))
    | int j=>obtain ⟨t',rfl⟩:=ry; exact eq_int (fin_bl I q dec_int)
    | str j=>obtain ⟨t',rfl⟩:=ry; exact PySem.EqMixed.eq_int_str (fin_bl I q (by simp))
    | _=>exact absurd (show false=true from hs) Bool.false_ne_true
  | str i =>
    obtain ⟨t,rfl⟩:=rx
    cases y with
    | non=>cases ry; exact PySem.EqNone.eq_str_none (fin_bl I q (by simp))
    | bl j=>cases ry; exact PySem.EqMixed.eq_str_bool (fin_bl I q (by simp))
    | int j=>obtain ⟨t',rfl⟩:=ry; exact PySem.EqMixed.eq_str_int (fin_bl I q (by simp))
    | str j=>obtain ⟨t',rfl⟩:=ry; exact eq_str (fin_bl I q dec_str)
    | _=>exact absurd (show false=true from hs) Bool.false_ne_true
  | byt i =>
    obtain ⟨t,rfl⟩:=rx
    cases y with
    | byt j=>obtain ⟨t',rfl⟩:=ry; exact PySem.W.eq_bytes (fin_bl I q dec_byt)
    | _=>exact absurd (show false=true from hs) Bool.false_ne_true
  | _=>cases y <;> exact absurd (show false=true from hs) Bool.false_ne_true
theorem op_ne:OpR X (compareOp .NotEq) rNe:=by
  intro pins s σ H x y v u Q I rx ry h
  obtain ⟨hs,q⟩:=h
  cases x with
  | non =>
    cases rx
    cases y with
    | non=>cases ry; exact PySem.EqNone.ne_none_none (fin_bl I q (by simp))
    | bl j=>cases ry; exact PySem.EqNone.ne_none_bool (fin_bl I q (by simp))
    | int j=>obtain ⟨t',rfl⟩:=ry; exact PySem.EqNone.ne_none_int (fin_bl I q (by simp))
    | str j=>obtain ⟨t',rfl⟩:=ry; exact PySem.EqNone.ne_none_str (fin_bl I q (by simp))
    | _=>exact absurd (show false=true from hs) Bool.false_ne_true
  | bl i =>
    cases rx
    cases y with
    | non=>cases ry; exact PySem.EqNone.ne_bool_none (fin_bl I q (by simp))
    | bl j=>cases ry; exact ne_bool (fin_bl I q (congrArg not dec_bl))
    | str j=>obtain ⟨t',rfl⟩:=ry; exact PySem.EqMixed.ne_bool_str (fin_bl I q (by simp))
    | _=>exact absurd (show false=true from hs) Bool.false_ne_true
  | int i =>
    obtain ⟨t,rfl⟩:=rx
    cases y with
    | non=>cases ry; exact PySem.EqNone.ne_int_none (fin_bl I q (by simp))
    | int j=>obtain ⟨t',rfl⟩:=ry; exact ne_int (fin_bl I q (congrArg not dec_int))
    | str j=>obtain ⟨t',rfl⟩:=ry; exact PySem.EqMixed.ne_int_str (fin_bl I q (by simp))
    | _=>exact absurd (show false=true from hs) Bool.false_ne_true
  | str i =>
    obtain ⟨t,rfl⟩:=rx
    cases y with
    | non=>cases ry; exact PySem.EqNone.ne_str_none (fin_bl I q (by simp))
    | bl j=>cases ry; exact PySem.EqMixed.ne_str_bool (fin_bl I q (by simp))
    | int j=>obtain ⟨t',rfl⟩:=ry; exact PySem.EqMixed.ne_str_int (fin_bl I q (by simp))
    | str j=>obtain ⟨t',rfl⟩:=ry; exact ne_str (fin_bl I q (congrArg not dec_str))
    | _=>exact absurd (show false=true from hs) Bool.false_ne_true
  | byt i =>
    obtain ⟨t,rfl⟩:=rx
    cases y with
    | byt j=>obtain ⟨t',rfl⟩:=ry; exact PySem.W.ne_bytes (fin_bl I q (congrArg not dec_byt))
    | _=>exact absurd (show false=true from hs) Bool.false_ne_true
  | _=>cases y <;> exact absurd (show false=true from hs) Bool.false_ne_true
theorem op_lt:OpR X (compareOp .Lt) (rI0 fun i j=>.bl (decide (i < j))):=opB0 fun _ _ _ _ _ _ _ q=>lt_int q
theorem op_gt:OpR X (compareOp .Gt) (rI0 fun i j=>.bl (decide (j < i))):=opB0 fun _ _ _ _ _ _ _ q=>gt_int q
theorem OpR.or {f:Value->Value->Sem Value} {r r':R2} (h:OpR X f r) (h':OpR X f r'):OpR X f (fun x y H Q=>r x y H Q\/r' x y H Q):=by
  intro pins s σ H x y v u Q I rx ry q
  rcases q with q | q
  · exact h pins s σ H x y v u Q I rx ry q
  · exact h' pins s σ H x y v u Q I rx ry q
theorem nomark (b:Expr) {op:CmpOp} (h:op≠.In:=by decide) (h2:op≠.NotIn:=by decide):behindInMarks op b=false:=by
  have e1:(op == CmpOp.In)=false:=by cases op <;> first | rfl | exact absurd rfl h
  have e2:(op == CmpOp.NotIn)=false:=by cases op <;> first | rfl | exact absurd rfl h2
  cases b <;> simp [behindInMarks,e1,e2]
theorem pe_cmpR {op:CmpOp} {r:R2} (ho:OpR X (compareOp op) r) (ha:PE X a ta) (hb:PE X b tb) (hm:behindInMarks op b=false):PE X (.Compare a [op] [b] pos) (tOp r ta tb):=by
  intro pins s σ H Q I h
  exact wpAny_Compare1 (binT ha hb I h fun v u s2 x y H2 I2 rx ry q=>ho pins s2 σ H2 x y v u Q I2 rx ry q) hm
def tTest (t:TE):TT:=fun σ H Q=>t σ H fun x H'=>∃ k,x=.bl k/\Q k H'
theorem pt_cmpR {op:CmpOp} {r:R2} (ho:OpR X (compareOp op) r) (ha:PE X a ta) (hb:PE X b tb) (hm:behindInMarks op b=false):PT X (.Compare a [op] [b] pos) (tTest (tOp r ta tb)):=by
  intro pins s σ H Q I h
  refine wpAny_isTrue_Compare1 (thn (ha pins s σ H _ I h) fun v s1 ⟨x,H1,I1,r1,q1⟩=>thn (hb pins s1 σ H1 _ I1 q1) fun u s2 ⟨y,H2,I2,r2,q2⟩ =>
    thn (ho pins s2 σ H2 x y v u _ I2 r1 r2 q2) fun c s3 ⟨z,H3,I3,r3,k,e,q3⟩=>?_) hm
  subst e
  cases r3
  exact wpAny_truthy_bool ⟨H3,I3,q3⟩
theorem line63:(sizeLine:Nat) < 2 ^ 63:=by rw [sizeLine_eq]; decide
theorem op_add_str:OpR X (binaryOp .Add) (fun x y H Q=>∃ i j,x=.str i/\y=.str j/\i.length + j.length<=sizeLine/\Q (.str (i ++ j)) H):=by
  intro pins s σ H x y v u Q I rx ry h
  obtain ⟨i,j,rfl,rfl,hz,q⟩:=h
  obtain ⟨t,rfl⟩:=rx
  obtain ⟨t',rfl⟩:=ry
  exact add_str (fun t' tk=>⟨.str (i ++ j),H,I.tok _,⟨_,rfl⟩,q⟩) hz
theorem vals1 {x:V} {us:List Value} (r:Vals [x] us):∃ u,us=[u]/\RelV x u:=by
  cases r with
  | cons r1 r2=>cases r2; exact ⟨_,rfl,r1⟩
theorem vals2 {x y:V} {us:List Value} (r:Vals [x,y] us):∃ u w',us=[u,w']/\RelV x u/\RelV y w':=by
  cases r with
  | cons r1 r2 =>
    cases r2 with
    | cons r3 r4=>cases r4; exact ⟨_,_,rfl,r1,r3⟩
theorem call_int1:CallR X (.type "int") (fun xs H Q=>(∃ i,xs=[.int i]/\Q (.int i) H)\/∃ k,xs=[.bl k]/\Q (.int (if k then 1 else 0)) H):=by
  intro pins s σ H xs us Q I r h
  rcases h with ⟨i,rfl,q⟩ | ⟨k,rfl,q⟩
  · obtain ⟨u,rfl,t,rfl⟩:=vals1 r
    exact call_int_int ⟨.int i,H,I,⟨_,rfl⟩,q⟩
  · obtain ⟨u,rfl,r1⟩:=vals1 r
    cases r1
    exact call_int_bool ⟨.int (if k then 1 else 0),H,I.tok _,⟨_,rfl⟩,q⟩
theorem call_str_int:CallR X (.type "str") (fun xs H Q=>∃ i,xs=[.int i]/\i.natAbs.log2 < 1920/\Q (.str (toString i)) H):=by
  intro pins s σ H xs us Q I r h
  obtain ⟨i,rfl,hz,q⟩:=h
  obtain ⟨u,rfl,t,rfl⟩:=vals1 r
  exact PySem.P.str_of_int hz ⟨.str _,H,I.tok _,⟨_,rfl⟩,q⟩
end
end L2
namespace L2
open PySem PySem.Spec PyProof.Rows
structure ObjM (h:Heap) (x dx C:Addr) (mA:Str->Option Value):Prop where
  obj:h.get? x=some (PySem.W.instObj C dx)
  ns:h.Ns1 dx mA
  ne:dx≠x
theorem lookIn_ns {h:Heap} {dx:Addr} {mA:Str->Option Value} (n:h.Ns1 dx mA):∃ od,h.get? dx=some od/\∀ name,PySem.W.lookIn name od=some (mA name):=by
  obtain ⟨o,es,ep,ho,hd,hk,_,hm⟩:=n
  refine ⟨o,ho,fun name=>?_⟩
  have e:=hm name
  unfold nsFind findBy at e
  rw [<- Array.find?_toList] at e
  unfold PySem.W.lookIn
  rw [hd]
  dsimp only
  split
  · rename_i y q
    rw [q] at e
    exact congrArg some e
  · rename_i q
    rw [q] at e
    have a:es.toList.any (·.refKey)=false:=by
      rw [List.any_eq_false]
      intro y hy
      obtain ⟨z,t,hkey⟩:=hk y (Array.mem_toList_iff.mp hy)
      simp [DictEntry.refKey,hkey]
    have a':¬ es.toList.any (·.refKey)=true:=by rw [a]; exact Bool.false_ne_true
    rw [if_neg a']
    exact congrArg some e
theorem ObjM.look {h:Heap} {x dx C:Addr} {mA:Str->Option Value} (I:ObjM h x dx C mA):∃ od,PySem.W.InstAt h x (PySem.W.instObj C dx) C (some od)/\∀ name,PySem.W.lookIn name od=some (mA name) :=
  let ⟨od,ho,hl⟩:=lookIn_ns I.ns
  ⟨od,⟨I.obj,rfl,rfl,ho⟩,hl⟩
section
variable {prog:Program} {w:World} {A:Around} {E:Value->Shared->Prop} {s:Shared} {K:PySem.W.Frag} {x dx C f:Addr} {mA:Str->Option Value} {name:Str} {v:Value}
theorem get_map {expr:Bool} {Q:Value->Shared->Prop} (X:K.In s.heap) (I:ObjM s.heap x dx C mA) (hg:PySem.W.plainGet K C name=true) (hh:PySem.W.hasDictIn K C=true)
    (ha:PySem.W.findIn K (.ref C) name=some none) (hv:mA name=some v) (hv':PySem.W.handedIn v=true) (h:Q v { s with toks:=s.toks + 1 }) :
    wpAny (model prog w) A (getAttr (.ref x) name expr) Q E s:=by
  obtain ⟨od,J,hl⟩:=I.look
  exact PySem.W.get_value X J (PySem.W.plainGet_of hg).1 (PySem.W.findObj_own hh ha rfl (by rw [hl,hv])) hv' h
theorem get_meth {pl:Sem Bool} {Q:Value × List Value->Shared->Prop} (X:K.In s.heap) (I:ObjM s.heap x dx C mA) (hg:PySem.W.plainGet K C name=true)
    (hf:PySem.W.findIn K (.ref C) name=some (some (.ref f))) (ht:PySem.W.isFn K (.ref f)=true) (hv:mA name=none) (h:Q (.ref f,[.ref x]) s) :
    wpAny (model prog w) A (getMethod (.ref x) name pl) Q E s:=by
  obtain ⟨od,J,hl⟩:=I.look
  exact PySem.W.method_fn X J (PySem.W.plainGet_of hg).1 (PySem.W.plainGet_of hg).2 hf (beq_iff_eq.mp ht) (by show (PySem.W.lookIn name od).map (·.isSome)=some false; rw [hl,hv]; rfl) h
theorem set_map {ns:List Str} {Q:Unit->Shared->Prop} (X:K.In s.heap) (I:ObjM s.heap x dx C mA)
    (hs:PySem.W.findIn K (.ref C) "__setattr__"=some (some (.builtin "object.__setattr__"))) (hp:PySem.W.plainOver K C=true) (ht:PySem.W.takerIn K C name=some none) (hh:PySem.W.hasDictIn K C=true)
    (hw:PySem.Within mA ns) (hsz:ns.length<=sizeLine)
    (h:∀ h',ObjM h' x dx C (fun y=>if y=name then some v else mA y)->Heap.SameBut dx s.heap h'->Q () { s with heap:=h',toks:=s.toks + 2 }) :
    wpAny (model prog w) A (setAttr (.ref x) name v) Q E s:=by
  obtain ⟨od,J,hl⟩:=I.look
  refine PySem.W.set_plain X J hs (PySem.W.osa_open (s:={ s with toks:=s.toks + 1 }) (r:=none) X J hp ht fun b=>?_)
  obtain ⟨cd,hc,hd'⟩:=PySem.W.any_some hh
  have hx:s.heap.get? x=some ⟨.ref C,some dx,.plain,#[]⟩:=I.obj
  refine wpAny_bind (wpAny_pure (wpAny_bind (wpAny_bind (wpAny_loadPart hx (wpAny_bind (PySem.W.Looks.here (s:={ s with toks:=s.toks + 1 }) (PySem.W.looks_clsIn X hc) ?_))))))
  rw [hd']
  refine wpAny_pure (a:=some dx) (wpAny_bind (wpAny_pure (wpAny_bind ?_)))
  refine wpAny_nsSet1 (s:={ s with toks:=s.toks + 1 }) I.ns fun h' hn2 hs2=>?_
  obtain ⟨oD,esD,epD,hoD,hdD,hcD⟩:=hn2.count (PySem.Within.cons name v hw)
  refine wpAny_bind (wpAny_lookBehind hoD (by rw [hdD]; exact pastItsLine_dict (Nat.le_trans hcD (by rw [List.length_cons]; lia))) ?_)
  exact wpAny_pure (h _ ⟨(hs2.2 _ (Ne.symm I.ne)).trans I.obj,hn2,I.ne⟩ hs2)
theorem make_map {R:Result->Shared->Prop} {vs:List Value} {kw:List (Str × Value)} (X:K.In s.heap) (hm:PySem.W.makesIn K C=true)
    (hi:PySem.W.findIn K (.ref C) "__init__"=some (some (.ref f))) (hf:PySem.W.typeIn K (.ref f)=some (.type "function"))
    (h:codeAny (model prog w) (A.under (.builtin "type.__call__" ⟨.ref C :: vs,kw⟩)) (.call (.ref f) ⟨.ref (s.heap.objs.size + 1) :: vs,kw⟩) (PySem.W.InitBack (s.heap.objs.size + 1) R)
      { s with heap:=(s.heap.push PySem.W.emptyDict).push (PySem.W.instObj C s.heap.objs.size) }) :
    codeAny (model prog w) A (.call (.ref C) ⟨vs,kw⟩) R s:=by
  obtain ⟨hh,g,d,t,os⟩:=s
  exact PySem.W.make_core (PySem.W.makes_of X hm) (PySem.W.looks_findIn X hi) (fun self=>PySem.W.bind_fn X self hf) (.inl rfl) h
end
def putF (f:Str) (v:V):List (Str × V)->List (Str × V)
  | []=>[(f,v)]
  | (g,x) :: r=>if g=f then (g,v) :: r else (g,x) :: putF f v r
theorem lookup_putF (f g:Str) (v:V):∀ fs:List (Str × V),(putF f v fs).lookup g=if g=f then some v else fs.lookup g
  | []=>by
    show List.lookup g [(f,v)]=_
    by_cases h:g=f
    · have hb:(g == f)=true:=beq_iff_eq.mpr h
      simp only [List.lookup,hb,if_pos h]
    · have hb:(g == f)=false:=beq_eq_false_iff_ne.mpr h
      simp only [List.lookup,hb,if_neg h]
  | (k,x) :: r=>by
    have ih:=lookup_putF f g v r
    rw [show putF f v ((k,x) :: r)=(if k=f then (k,v) :: r else (k,x) :: putF f v r) from rfl]
    by_cases hk:k=f
    · rw [if_pos hk]
      by_cases h:g=k
      · have hb:(g == k)=true:=beq_iff_eq.mpr h
        simp only [List.lookup,hb,if_pos (h.trans hk)]
      · have hb:(g == k)=false:=beq_eq_false_iff_ne.mpr h
        simp only [List.lookup,hb,if_neg (fun e:g=f=>h (e.trans hk.symm))]
    · rw [if_neg hk]
      by_cases h:g=k
      · have hb:(g == k)=true:=beq_iff_eq.mpr h
        simp only [List.lookup,hb,if_neg (fun e:g=f=>hk (h.symm.trans e))]
      · have hb:(g == k)=false:=beq_eq_false_iff_ne.mpr h
        simp only [List.lookup,hb]
        exact ih
theorem keys_putF (f:Str) (v:V):∀ fs:List (Str × V),f∈(putF f v fs).map (·.1)/\∀ g,g∈fs.map (·.1)->g∈(putF f v fs).map (·.1)
  | []=>⟨by simp [putF],fun g h=>by simp at h⟩
  | (k,x) :: r=>by
    obtain ⟨i1,i2⟩:=keys_putF f v r
    rw [show putF f v ((k,x) :: r)=(if k=f then (k,v) :: r else (k,x) :: putF f v r) from rfl]
    by_cases hk:k=f
    · rw [if_pos hk]
      subst hk
      exact ⟨by simp,fun g h=>by simpa using h⟩
    · rw [if_neg hk]
      refine ⟨?_,fun g h=>?_⟩
      · rw [List.map_cons]
        exact List.mem_cons_of_mem _ i1
      · rw [List.map_cons] at h ⊢
        rcases List.mem_cons.mp h with e | e
        · exact List.mem_cons.mpr (.inl e)
        · exact List.mem_cons_of_mem _ (i2 g e)
theorem length_putF (f:Str) (v:V):∀ fs:List (Str × V),(putF f v fs).length<=fs.length + 1
  | []=>by simp [putF]
  | (k,x) :: r=>by
    have ih:=length_putF f v r
    rw [show putF f v ((k,x) :: r)=(if k=f then (k,v) :: r else (k,x) :: putF f v r) from rfl]
    by_cases hk:k=f
    · rw [if_pos hk,List.length_cons,List.length_cons]; lia
    · rw [if_neg hk,List.length_cons,List.length_cons]; lia
theorem RelO.some_of {v:V} {o:Option Value} (r:RelO (some v) o):∃ u,o=some u/\RelV v u:=by
  cases o with
  | none=>exact (show False from r).elim
  | some u=>exact ⟨u,rfl,r⟩
theorem RelO.none_of {o:Option Value} (r:RelO none o):o=none:=by
  cases o with
  | none=>rfl
  | some u=>exact (show False from r).elim
theorem handed_of {v:V} {u:Value} (r:RelV v u):PySem.W.handedIn u=true:=by
  cases v with
  | non=>cases (show u=Value.none from r); rfl
  | bl b=>cases (show u=Value.bool b from r); rfl
  | int i=>obtain ⟨t,e⟩:=(show ∃ t,u=Value.int i t from r); cases e; rfl
  | str x=>obtain ⟨t,e⟩:=(show ∃ t,u=Value.str x t from r); cases e; rfl
  | byt b=>obtain ⟨t,e⟩:=(show ∃ t,u=Value.bytes b t from r); cases e; rfl
  | flt b=>obtain ⟨t,e⟩:=(show ∃ t,u=Value.float b t from r); cases e; rfl
  | ref a=>cases (show u=Value.ref a from r); rfl
  | ty n=>cases (show u=Value.type n from r); rfl
section
variable {P:Program} {w:World} {H H':Hp} {h h':Heap} {a C dx:Addr} {fs fs':List (Str × V)}
theorem ins_get (hok:HOk P w H h) (e:H a=some (.ins C dx fs)):∃ mA,ObjM h a dx C mA/\(∀ f,RelO (fs.lookup f) (mA f))/\PySem.Within mA (fs.map (·.1))/\fs.length<=1000/\H dx=some (.own a):=by
  obtain ⟨d,z,ne,ob,mA,n,r,q⟩:=(show ObjOk P w H h a (.ins C dx fs) from hok a _ e)
  exact ⟨mA,⟨ob,n,ne⟩,r,q,z,d⟩
end
structure Cls (K:PySem.W.Frag) (C:Addr):Prop where
  pg:PySem.W.plainGet K C Str.empty=true
  hd:PySem.W.hasDictIn K C=true
  po:PySem.W.plainOver K C=true
  sa:PySem.W.findIn K (.ref C) "__setattr__"=some (some (.builtin "object.__setattr__"))
theorem Cls.get {K:PySem.W.Frag} {C:Addr} (c:Cls K C) (f:Str):PySem.W.plainGet K C f=true:=c.pg
def NoAttr (K:PySem.W.Frag) (C:Addr) (f:Str):Prop:=PySem.W.findIn K (.ref C) f=some none
theorem NoAttr.taker {K:PySem.W.Frag} {C:Addr} {f:Str} (n:NoAttr K C f):PySem.W.takerIn K C f=some none:=by
  unfold PySem.W.takerIn
  rw [show PySem.W.findIn K (.ref C) f=some none from n]
  rfl
structure Con (K:PySem.W.Frag) (C:Addr) (f:Str) (v:V) (u:Value):Prop where
  at_:PySem.W.findIn K (.ref C) f=some (some u)
  rel:RelV v u
  get:PySem.W.specialIn K u "__get__"=some none
  cp:PySem.W.copiedNames.contains f=false
structure Meth (K:PySem.W.Frag) (C:Addr) (m:Str) (f:Addr):Prop where
  at_:PySem.W.findIn K (.ref C) m=some (some (.ref f))
  fn:PySem.W.isFn K (.ref f)=true
  kp:PySem.W.keepIn K (.ref f)=true
section
variable {X:Cx} {pins:List (Addr × Obj)} {σ:St} {H:Hp} {s:Shared} {a C dx:Addr} {fs:List (Str × V)} {f:Str} {v:V} {A:Around} {E:Value->Shared->Prop}
theorem getattr_ok {b:Bool} {Q:Value->Shared->Prop} (I:Inv X pins σ H s) (e:H a=some (.ins C dx fs)) (c:Cls X.K C) (n:NoAttr X.K C f) (l:fs.lookup f=some v)
    (h:∀ u s',Inv X pins σ H s'->RelV v u->Q u s'):wpAny (model X.prog X.w) A (getAttr (.ref a) f b) Q E s:=by
  obtain ⟨mA,O,r,_,_,_⟩:=ins_get I.hok e
  obtain ⟨u,hu,ru⟩:=RelO.some_of (v:=v) (o:=mA f) (by rw [<- l]; exact r f)
  exact get_map I.kIn O (c.get f) c.hd n hu (handed_of ru) (h u _ (I.tok _) ru)
theorem getmeth_ok {m:Str} {g:Addr} {pl:Sem Bool} {Q:Value × List Value->Shared->Prop} (I:Inv X pins σ H s) (e:H a=some (.ins C dx fs)) (c:Cls X.K C) (k:Meth X.K C m g) (l:fs.lookup m=none)
    (h:Q (.ref g,[.ref a]) s):wpAny (model X.prog X.w) A (getMethod (.ref a) m pl) Q E s:=by
  obtain ⟨mA,O,r,_,_,_⟩:=ins_get I.hok e
  have hn:mA m=none:=RelO.none_of (by rw [<- l]; exact r m)
  exact get_meth I.kIn O (c.get m) k.at_ k.fn hn h
theorem setattr_ok {y:V} {u:Value} {Q:Unit->Shared->Prop} (I:Inv X pins σ H s) (e:H a=some (.ins C dx fs)) (c:Cls X.K C) (n:NoAttr X.K C f) (hl:fs.length < 1000) (ry:RelV y u)
    (h:∀ s',Inv X pins σ (upd H a (.ins C dx (putF f y fs))) s'->Q () s'):wpAny (model X.prog X.w) A (setAttr (.ref a) f u) Q E s:=by
  obtain ⟨mA,O,r,wi,_,ho⟩:=ins_get I.hok e
  have hz:(fs.map (·.1)).length<=sizeLine:=by rw [List.length_map,sizeLine_eq]; lia
  refine set_map I.kIn O c.sa c.po n.taker c.hd wi hz fun h' O' sb=>h _ ?_
  have hd:∃ o,h'.get? dx=some o:=let ⟨o,_,_,e',_⟩:=O'.ns; ⟨o,e'⟩
  refine I.write (x:=a) (e:=dx) (by rw [e]; exact True.intro) (.inr ho) (fun b q hb z=>(sb.2 b hb).trans z) hd ?_
  refine ⟨by rw [upd_ne O.ne]; exact ho,?_,O.ne,O'.obj,_,O'.ns,fun g=>?_,fun g hg=>?_⟩
  · have:=length_putF f y fs; lia
  · show RelO ((putF f y fs).lookup g) (if g=f then some u else mA g)
    rw [lookup_putF]
    by_cases q:g=f
    · rw [if_pos q,if_pos q]; exact ry
    · rw [if_neg q,if_neg q]; exact r g
  · by_cases q:g=f
    · rw [q]; exact (keys_putF f y fs).1
    · refine (keys_putF f y fs).2 g (wi g fun z=>hg ?_)
      show (if g=f then some u else mA g)=none
      rw [if_neg q]; exact z
theorem Inv.made (I:Inv X pins σ H s):Inv X pins σ (upd (upd H s.heap.objs.size (.own (s.heap.objs.size + 1))) (s.heap.objs.size + 1) (.ins C s.heap.objs.size []))
    { s with heap:=(s.heap.push PySem.W.emptyDict).push (PySem.W.instObj C s.heap.objs.size) }:=by
  have e1:(s.heap.push PySem.W.emptyDict).get? s.heap.objs.size=some PySem.W.emptyDict:=Heap.get?_push_size s.heap rfl
  have e2:((s.heap.push PySem.W.emptyDict).push (PySem.W.instObj C s.heap.objs.size)).get? (s.heap.objs.size + 1)=some (PySem.W.instObj C s.heap.objs.size):=by
    have:=Heap.get?_push_size (s.heap.push PySem.W.emptyDict) (o:=PySem.W.instObj C s.heap.objs.size) rfl
    rwa [Heap.size_push] at this
  have e3:(s.heap.push PySem.W.emptyDict).Ns s.heap.objs.size (fun _=>none):=⟨PySem.W.emptyDict,#[],_,e1,rfl,(fun e he=>absurd he (by simp)),fun _=>rfl⟩
  have I1:=I.laid (a:=s.heap.objs.size) (o:=.own (s.heap.objs.size + 1)) (h':=s.heap.push PySem.W.emptyDict) (t':=s.toks) (fun b u q=>Heap.get?_push_of_some _ q) (Nat.le_refl _) ⟨_,e1⟩
  refine I1.laid (a:=s.heap.objs.size + 1) (o:=.ins C s.heap.objs.size []) (t':=s.toks) (fun b u q=>Heap.get?_push_of_some _ q) (Nat.le_of_eq (Heap.size_push _ _)) ?_
  have ne:s.heap.objs.size≠s.heap.objs.size + 1:=Nat.ne_of_lt (Nat.lt_succ_self _)
  refine ⟨by rw [upd_ne ne,upd_same],Nat.zero_le _,ne,e2,fun _=>none,(Heap.Ns1.of_empty e3).at fun o q=>Heap.get?_push_of_some _ q,fun _=>True.intro,fun y hy=>absurd rfl hy⟩
theorem attr_of {prog:Program} {w:World} {env:Env} {e:Expr} {f:Str} {pos:Pos} {s:Shared} {Q:Value->Shared->Prop} (hb:attributeBase e f env (eval e env)=eval e env)
    (h:wpAny (model prog w) A (eval e env) (fun o s₁=>wpAny (model prog w) A (getAttr o f true) Q E s₁) E s):wpAny (model prog w) A (eval (.Attribute e f pos) env) Q E s :=
  Attribute_any_ h (by rw [arm_eval_Attribute,hb])
end
def tFld (K:PySem.W.Frag) (ta:TE) (f:Str):TE:=fun σ H Q=>ta σ H fun x H1=>∃ a C dx fs v,x=.ref a/\H1 a=some (.ins C dx fs)/\Cls K C/\NoAttr K C f/\fs.lookup f=some v/\Q v H1
def sFld (K:PySem.W.Frag) (ta tv:TE) (f:Str):TS:=fun D σ H=>tv σ H fun y H1=>ta σ H1 fun x H2=>∃ a C dx fs,x=.ref a/\H2 a=some (.ins C dx fs)/\Cls K C/\NoAttr K C f/\fs.length < 1000 /\
  D.nx σ (upd H2 a (.ins C dx (putF f y fs)))
section
variable {X:Cx} {o e value:Expr} {f:Str} {pos pos' tpos:Pos} {ta tv:TE}
theorem pe_fld (he:PE X e ta) (hb:attributeBase e f X.env (eval e X.env)=eval e X.env):PE X (.Attribute e f pos) (tFld X.K ta f):=by
  intro pins s σ H Q I h
  refine attr_of hb (thn (he pins s σ H _ I h) fun u s1 ⟨x,H1,I1,rx,a,C,dx,fs,v,ex,ea,c,n,l,q⟩=>?_)
  subst ex
  obtain rfl:u=Value.ref a:=rx
  exact getattr_ok I1 ea c n l fun u' s2 I2 ru=>⟨v,H1,I2,ru,q⟩
theorem ps_fld (ha:PE X o ta) (hv:PE X value tv) (hs:swapsWith value (some (.Attribute o f pos')) pos.line X.env=pure false):PS X (.Assign [.Attribute o f pos'] value pos) (sFld X.K ta tv f):=by
  intro pins s σ H D I h
  refine plainObj_wpAny_Assign_Attribute (thn (hv pins s σ H _ I h) fun u s1 ⟨y,H1,I1,ry,q⟩=>thn (ha pins s1 σ H1 _ I1 q) fun ov s2 ⟨x,H2,I2,rx,a,C,dx,fs,ex,ea,c,n,l,q2⟩=>?_) hs
  subst ex
  obtain rfl:ov=Value.ref a:=rx
  exact setattr_ok I2 ea c n l ry fun s3 I3=>⟨σ,_,I3,q2⟩
end
section
variable {X:Cx} {pins:List (Addr × Obj)} {σ:St} {H:Hp} {s:Shared} {A:Around} {E:Value->Shared->Prop} {Q:Value->Shared->Prop} {c:Value} {b:Bool}
inductive TyOf (K:PySem.W.Frag) (H:Hp):V->Value->Prop where
  | non:TyOf K H .non (.type "NoneType")
  | bl (x:Bool):TyOf K H (.bl x) (.type "bool")
  | int (i:Int):TyOf K H (.int i) (.type "int")
  | str (x:Str):TyOf K H (.str x) (.type "str")
  | flt (x:UInt64):TyOf K H (.flt x) (.type "float")
  | lst {a:Addr} {xs:List V} (e:H a=some (.lst xs)):TyOf K H (.ref a) (.type "list")
  | frz {a:Addr} {o:Obj} {xs:List V} (e:H a=some (.frz o (.lst xs))):TyOf K H (.ref a) (.type "list")
  | tup {a:Addr} {xs:List V} (e:H a=some (.tup xs)):TyOf K H (.ref a) (.type "tuple")
  | dK {a:Addr} {kvs:List (Key × V)} (e:H a=some (.dK kvs)):TyOf K H (.ref a) (.type "dict")
  | dT {a:Addr} {kvs:List (List Key × V)} (e:H a=some (.dT kvs)):TyOf K H (.ref a) (.type "dict")
  | ins {a C dx:Addr} {fs:List (Str × V)} (e:H a=some (.ins C dx fs)) (cl:Cls K C) (ha:PySem.W.findIn K (.ref C) "__class__"=some (some (.builtin "object.__class__")))
      (hn:PySem.W.specialIn K (.builtin "object.__class__") "__get__"=some (some (.builtin "getset_descriptor.__get__"))) (htk:PySem.W.takesIn K (.builtin "object.__class__")=some true)
      (hm:PySem.W.mroIn K C (.type "object")=some true):TyOf K H (.ref a) (.ref C)
end
end L2
namespace L2
open PySem PySem.Spec PyProof.Rows
structure Room (k:Nat) (A:Around):Prop where
  hd:A.handled=none
  dp:A.depth + 3 * k + 5 < recursionLimit
  un:A.units + 16 * k + 200 < cLine
theorem Room.mono {j k:Nat} {A:Around} (r:Room k A) (h:j<=k):Room j A:=⟨r.hd,by have:=r.dp; lia,by have:=r.un; lia⟩
theorem Room.deeper {k:Nat} {A:Around} (r:Room (k + 1) A) (env:Env):Room k (A.deeper env) :=
  ⟨r.hd,by have:=r.dp; show A.depth + 1 + 3 * k + 5 < _; lia,by have:=r.un; show A.units + 3 + 16 * k + 200 < _; lia⟩
theorem Room.in1 {k:Nat} {A:Around} (r:Room (k + 1) A):Room k A.in1 :=
  ⟨r.hd,by have:=r.dp; show A.depth + 3 * k + 5 < _; lia,by have:=r.un; show A.units + 1 + 16 * k + 200 < _; lia⟩
theorem make_depth {A:Around} {C:Addr} {us:List Value} {kw:List (Str × Value)}:(A.under (.builtin "type.__call__" ⟨.ref C :: us,kw⟩)).depth=A.depth + 1:=by
  first | rfl | simp [Around.under,Code.weight,Code.isCreation,Code.isGuard,Code.isCaller,Code.frames,Code.isFrame,guardIds]
theorem make_units {A:Around} {C:Addr} {us:List Value} {kw:List (Str × Value)}:(A.under (.builtin "type.__call__" ⟨.ref C :: us,kw⟩)).units=A.units + 1:=by
  first | rfl | simp [Around.under,Code.cUnits,Code.frames,Code.isFrame]
theorem Room.make {k:Nat} {A:Around} (r:Room (k + 1) A) (C:Addr) (us:List Value) (kw:List (Str × Value)):Room k (A.under (.builtin "type.__call__" ⟨.ref C :: us,kw⟩)) :=
  ⟨r.hd,by have:=r.dp; rw [make_depth]; lia,by have:=r.un; rw [make_units]; lia⟩
theorem Room.depth {k:Nat} {A:Around} (r:Room k A):A.depth < recursionLimit:=by have:=r.dp; lia
theorem Room.units {k:Nat} {A:Around} (r:Room k A):A.units + 64 < cLine:=by have:=r.un; lia
theorem Room.units0 {k:Nat} {A:Around} (r:Room k A):A.units < cLine:=by have:=r.un; lia
def tNil:TA:=fun _ H Q=>Q [] H
def tCons (ta:TE) (tr:TA):TA:=fun σ H Q=>ta σ H fun x H1=>tr σ H1 fun xs H2=>Q (x :: xs) H2
section
variable {X:Cx} {e:Expr} {es:List Expr} {te:TE} {t:TA} {pos:Pos}
theorem pa_nil:PA X [] tNil:=fun _ _ _ _ H Q I h=>Calls.spliced_nil ⟨[],H,I,.nil,h⟩
theorem pa_cons (ha:PE X e te) (hr:PA X es t) (hs:starEach (e :: es) X.env=(false,eval e X.env) :: starEach es X.env:=by rfl):PA X (e :: es) (tCons te t):=by
  intro pos pins s σ H Q I h
  rw [hs]
  show wpAny _ _ (spliced ((false,eval e X.env) :: backTo pos (starEach es X.env))) _ _ s
  refine Calls.spliced_cons (thn (ha pins s σ H _ I h) fun u s1 ⟨x,H1,I1,r1,q1⟩=>?_)
  exact thn (hr pos pins s1 σ H1 _ I1 q1) fun us s2 ⟨xs,H2,I2,r2,q2⟩=>⟨x :: xs,H2,I2,.cons r1 r2,q2⟩
def tTup (t:TA):TE:=fun σ H Q=>t σ H fun xs H1=>xs.length<=sizeLine/\∀ p,H1 p=none->Q (.ref p) (upd H1 p (.tup xs))
def tLst (t:TA):TE:=fun σ H Q=>t σ H fun xs H1=>xs.length<=sizeLine/\∀ p,H1 p=none->Q (.ref p) (upd H1 p (.lst xs))
theorem pe_tup {x1} (h:PA X es t):PE X (.Tuple es x1 pos) (tTup t):=by
  intro pins s σ H Q I hq
  refine wpAny_Tuple_spliced (thn (h pos pins s σ H _ I hq) fun us s1 ⟨xs,H1,I1,r,z,q⟩=>⟨by rw [<- r.length]; exact z,?_⟩)
  have hf:H1 s1.heap.objs.size=none:=I1.hok.fresh (Nat.le_refl _)
  refine ⟨.ref s1.heap.objs.size,upd H1 s1.heap.objs.size (.tup xs),I1.laid (t':=s1.toks) (fun b u e=>Heap.get?_push_of_some _ e) (Nat.le_refl _) ?_,rfl,q _ hf⟩
  exact ⟨z,us,r,⟨_,Heap.get?_push_size _ rfl,rfl,rfl,_,rfl⟩⟩
theorem pe_lst (h:PA X es t):PE X (.List es pos) (tLst t):=by
  intro pins s σ H Q I hq
  refine wpAny_List_spliced (thn (h pos pins s σ H _ I hq) fun us s1 ⟨xs,H1,I1,r,z,q⟩=>⟨by rw [<- r.length]; exact z,?_⟩)
  have hf:H1 s1.heap.objs.size=none:=I1.hok.fresh (Nat.le_refl _)
  refine ⟨.ref s1.heap.objs.size,upd H1 s1.heap.objs.size (.lst xs),I1.laid (t':=s1.toks) (fun b u e=>Heap.get?_push_of_some _ e) (Nat.le_refl _) ?_,rfl,q _ hf⟩
  exact ⟨z,us,0,r,Heap.get?_push_size _ rfl⟩
end
abbrev Sp:=List V->Hp->VK->XK->Prop
abbrev CXT:=List Env->Hp->Shared->XK->Value->Shared->Prop
structure Env0 (P:Program) (w:World) (K:PySem.W.Frag) (mg:Str->Option Value) (base:Heap) (A:Around) (outer:List Env) (s:Shared) (H:Hp):Prop where
  frames:A.frames=some outer
  mod:Mod K mg base
  bs:∀ b o,base.get? b=some o->s.heap.get? b=some o/\H b=none
  bsz:base.objs.size<=s.heap.objs.size
  funs:s.heap.FunFrames base outer
  frf:∀ b∈frs outer,H b=none
  hok:HOk P w H s.heap
  bare:AllBare s.gens
def CE (outer:List Env) (P:Program) (w:World) (H:Hp) (s:Shared) (Q:VK) (u:Value) (s':Shared):Prop :=
  ∃ v H',s'.os=s.os/\AllBare s'.gens/\Un (frs outer) [] H H' s.heap s'.heap/\HOk P w H' s'.heap/\RelV v u/\Q v H'
def CR (CX:CXT) (outer:List Env) (P:Program) (w:World) (H:Hp) (s:Shared) (Q:VK) (E:XK) (r:Result) (s':Shared):Prop :=
  match r with
  | .ok (.ret u)=>CE outer P w H s Q u s'
  | .ok _=>False
  | .error e=>CX outer H s E e s'
structure FnOk (P:Program) (w:World) (K:PySem.W.Frag) (mg:Str->Option Value) (base:Heap) (CX:CXT) (k:Nat) (f:Addr) (fd:FuncData) (ps:List Str) (sp:Sp):Prop where
  len:∀ vs H Q E,sp vs H Q E->vs.length=ps.length
  run:∀ (A:Around) (outer:List Env) (s:Shared) (H:Hp) (args:Args) (us:List Value) (vs:List V) (Q:VK) (E:XK),Room k A->Env0 P w K mg base A outer s H->BindsTo s fd args (ps.zip us)->Vals vs us->sp vs H Q E ->
    codeAny (model P w) A (.call (.ref f) args) (CR CX outer P w H s Q E) s
theorem FnOk.mono {P:Program} {w:World} {K:PySem.W.Frag} {mg:Str->Option Value} {base:Heap} {CX:CXT} {j k:Nat} {f:Addr} {fd:FuncData} {ps:List Str} {sp:Sp} (F:FnOk P w K mg base CX j f fd ps sp) (h:j<=k) :
    FnOk P w K mg base CX k f fd ps sp:=⟨F.len,fun A outer s H args us vs Q E hr=>F.run A outer s H args us vs Q E (hr.mono h)⟩
theorem FnOk.imp {P:Program} {w:World} {K:PySem.W.Frag} {mg:Str->Option Value} {base:Heap} {CX:CXT} {k:Nat} {f:Addr} {fd:FuncData} {ps:List Str} {sp sp':Sp} (F:FnOk P w K mg base CX k f fd ps sp)
    (h:∀ vs H Q E,sp' vs H Q E->sp vs H Q E):FnOk P w K mg base CX k f fd ps sp' :=
  ⟨fun vs H Q E q=>F.len vs H Q E (h _ _ _ _ q),fun A outer s H args us vs Q E hr he hb hv hs=>F.run A outer s H args us vs Q E hr he hb hv (h _ _ _ _ hs)⟩
theorem Env0.make {P:Program} {w:World} {K:PySem.W.Frag} {mg:Str->Option Value} {base:Heap} {A:Around} {outer:List Env} {s:Shared} {H:Hp} (e:Env0 P w K mg base A outer s H) (C:Addr) (us:List Value) (kw:List (Str × Value)) :
    Env0 P w K mg base (A.under (.builtin "type.__call__" ⟨.ref C :: us,kw⟩)) outer s H:=⟨by first | exact e.frames | (simpa [Around.under,Code.envs,Code.isFrame,pushEnvs] using e.frames),e.mod,e.bs,e.bsz,e.funs,e.frf,e.hok,e.bare⟩
theorem Env0.in1 {P:Program} {w:World} {K:PySem.W.Frag} {mg:Str->Option Value} {base:Heap} {A:Around} {outer:List Env} {s:Shared} {H:Hp} (e:Env0 P w K mg base A outer s H) :
    Env0 P w K mg base A.in1 outer s H:=⟨e.frames,e.mod,e.bs,e.bsz,e.funs,e.frf,e.hok,e.bare⟩
section
variable {X:Cx} {pins:List (Addr × Obj)} {σ:St} {H:Hp} {s s':Shared}
theorem Inv.env0 (I:Inv X pins σ H s):Env0 X.prog X.w X.K X.mg X.base X.A X.stack s H :=
  ⟨I.ok.frames,I.ok.mod,I.bs,Nat.le_trans I.ok.bsz I.sz,I.stack,I.stkFree,I.hok,I.bare⟩
theorem Inv.after {Q:VK} {u:Value} (I:Inv X pins σ H s) (h:CE X.stack X.prog X.w H s Q u s'):EP X pins σ Q u s':=by
  obtain ⟨v,H',os,bare,un,hok,r,q⟩:=h
  obtain ⟨hh,g,d,t,os'⟩:=s'
  obtain rfl:os'=s.os:=os
  exact ⟨v,H',I.call (h':=hh) (g':=g) (d':=d) (t':=t) (ch:=[]) un hok bare (fun b z=>absurd z (by simp)),r,q⟩
end
def tCall (sp:Sp) (dvs:List V) (E:XK) (t:TA):TE:=fun σ H Q=>t σ H fun vs H1=>sp (vs ++ dvs) H1 Q E
def tMeth (C:Addr) (m:Str) (sp:Sp) (dvs:List V) (E:XK) (ta:TE) (t:TA):TE:=fun σ H Q=>ta σ H fun x H1=>∃ a dx fs,x=.ref a/\H1 a=some (.ins C dx fs)/\fs.lookup m=none /\
  t σ H1 fun vs H2=>sp (x :: (vs ++ dvs)) H2 Q E
def tMake (C:Addr) (sp:Sp) (dvs:List V) (E:XK) (t:TA):TE:=fun σ H Q=>t σ H fun vs H1=>∀ x dx,H1 x=none->H1 dx=none->dx≠x ->
  sp (.ref x :: (vs ++ dvs)) (upd (upd H1 dx (.own x)) x (.ins C dx [])) (fun v H2=>v=.non/\Q (.ref x) H2) E
def Binds (K:PySem.W.Frag) (fd:FuncData) (ps:List Str) (ds:List Value):Prop :=
  ∀ (s:Shared) (us:List Value),K.In s.heap->(us ++ ds).length=ps.length->BindsTo s fd ⟨us,[]⟩ (ps.zip (us ++ ds))
theorem Binds.all {K:PySem.W.Frag} {fd:FuncData} {ps:List Str} (h:∀ us:List Value,us.length=ps.length->bindArgs fd ⟨us,[]⟩=pure (ps.zip us)):Binds K fd ps []:=fun s us _ hl=>by
  rw [List.append_nil] at hl ⊢
  exact .of_eq (h us hl)
def Passes (CX:CXT) (X:Cx) (E:XK):Prop:=∀ (pins:List (Addr × Obj)) (σ:St) (H:Hp) (s:Shared) (e:Value) (s':Shared),Inv X pins σ H s->CX X.stack H s E e s'->X.xe e s'
section
variable {X:Cx} {CX:CXT} {k:Nat} {f C:Addr} {fd:FuncData} {ps:List Str} {sp:Sp} {dvs:List V} {ds:List Value} {E:XK} {x m:Str} {p pos apos:Pos} {e o:Expr} {es:List Expr} {ta:TE} {t:TA}
theorem run_fn {pins:List (Addr × Obj)} {σ:St} {H:Hp} {s:Shared} {Q:VK} {us:List Value} {vs:List V} (F:FnOk X.prog X.w X.K X.mg X.base CX k f fd ps sp) (hr:Room k X.A) (hb:Binds X.K fd ps ds) (hd:Vals dvs ds) (hx:Passes CX X E)
    (I:Inv X pins σ H s) (r:Vals vs us) (h:sp (vs ++ dvs) H Q E):wpAny (model X.prog X.w) X.A (call (.ref f) us) (EP X pins σ Q) X.xe s:=by
  have r2:Vals (vs ++ dvs) (us ++ ds):=r.append hd
  have hl:(us ++ ds).length=ps.length:=by rw [<- r2.length]; exact F.len _ _ _ _ h
  refine wpAny_call (codeAny_mono (F.run X.A X.stack s H ⟨us,[]⟩ (us ++ ds) (vs ++ dvs) Q E hr I.env0 (hb s us I.kIn hl) r2 h) fun r s' hq=>?_)
  cases r with
  | error e=>exact hx pins σ H s e s' I hq
  | ok fl =>
    cases fl with
    | ret u=>exact I.after hq
    | next=>exact False.elim hq
    | brk=>exact False.elim hq
    | cont=>exact False.elim hq
theorem pe_call (F:FnOk X.prog X.w X.K X.mg X.base CX k f fd ps sp) (hr:Room k X.A) (hg:Gl X x) (hm:X.mg x=some (.ref f)) (hk:PySem.W.keepIn X.K (.ref f)=true) (hb:Binds X.K fd ps ds) (hd:Vals dvs ds) (hx:Passes CX X E)
    (ha:PA X (e :: es) t) (hdb:(x == ("__debug__":Str))=false:=by decide) (he:starEach (e :: es) X.env=(false,eval e X.env) :: starEach es X.env:=by rfl) (hpl:(backTo pos (starEach es X.env)).any (·.1)=false:=by rfl) :
    PE X (.Call (.Name x p) (e :: es) [] pos) (tCall sp dvs E t):=by
  intro pins s σ H Q I h
  refine wpAny_Call_Name_kw (ld_glob I hg hm ?_ hdb)
  refine PySem.W.callWith_K (h₀:=X.base) I.ok.mod.kin hk (thn (ha pos pins s σ H _ I h) fun us s1 ⟨vs,H1,I1,r,q⟩=>⟨I1.kIn,?_⟩) he hpl
  exact run_fn F hr hb hd hx I1 r q
theorem pe_meth {pl:Sem Bool} (he:PE X o ta) (c:Cls X.K C) (hm:Meth X.K C m f) (F:FnOk X.prog X.w X.K X.mg X.base CX k f fd ps sp) (hr:Room k X.A) (hb:Binds X.K fd ps ds) (hd:Vals dvs ds) (hx:Passes CX X E) (ha:PA X (e :: es) t)
    (hst:starEach (e :: es) X.env=(false,eval e X.env) :: starEach es X.env:=by rfl) (hpl:(backTo pos (starEach es X.env)).any (·.1)=false:=by rfl)
    (ht:eval (.Call (.Attribute o m apos) (e :: es) [] pos) X.env=(do
      let ov <- eval o X.env
      standAt apos.atName
      let (f,first) <- holding [ov] (getMethod ov m pl)
      callWith pos f first (backTo pos (starEach (e :: es) X.env)) (backToKw pos (keywordEach [] X.env))):=by rfl) :
    PE X (.Call (.Attribute o m apos) (e :: es) [] pos) (tMeth C m sp dvs E ta t):=by
  intro pins s σ H Q I h
  refine PySem.W.methodCall_KW (pl:=pl) (thn (he pins s σ H _ I h) fun u s1 ⟨x,H1,I1,rx,a,dx,fs,ex,ea,l,q⟩=>?_) ht
  subst ex
  obtain rfl:u=Value.ref a:=rx
  refine getmeth_ok I1 ea c hm l ?_
  refine PySem.W.callWith_K (first:=[.ref a]) (h₀:=X.base) I.ok.mod.kin hm.kp (thn (ha pos pins s1 σ H1 _ I1 q) fun us s2 ⟨vs,H2,I2,r,q2⟩=>⟨I2.kIn,?_⟩) hst hpl
  exact run_fn (us:=.ref a :: us) (vs:=.ref a :: vs) F hr hb hd hx I2 (.cons rfl r) q2
structure Mk (K:PySem.W.Frag) (C f:Addr):Prop where
  makes:PySem.W.makesIn K C=true
  init:PySem.W.findIn K (.ref C) "__init__"=some (some (.ref f))
  fn:PySem.W.isFn K (.ref f)=true
  kp:PySem.W.keepIn K (.ref C)=true
theorem run_make {pins:List (Addr × Obj)} {σ:St} {H:Hp} {s:Shared} {Q:VK} {us:List Value} {vs:List V} (M:Mk X.K C f) (F:FnOk X.prog X.w X.K X.mg X.base CX k f fd ps sp) (hr:Room (k + 1) X.A) (hb:Binds X.K fd ps ds) (hd:Vals dvs ds)
    (hx:Passes CX X E) (I:Inv X pins σ H s) (r:Vals vs us)
    (h:∀ x dx,H x=none->H dx=none->dx≠x->sp (.ref x :: (vs ++ dvs)) (upd (upd H dx (.own x)) x (.ins C dx [])) (fun v H2=>v=.non/\Q (.ref x) H2) E) :
    wpAny (model X.prog X.w) X.A (call (.ref C) us) (EP X pins σ Q) X.xe s:=by
  have hq:=h (s.heap.objs.size + 1) s.heap.objs.size (I.hok.fresh (Nat.le_succ _)) (I.hok.fresh (Nat.le_refl _)) (Nat.ne_of_lt (Nat.lt_succ_self _))
  have I2:=Inv.made (C:=C) I
  have r2:Vals (V.ref (s.heap.objs.size + 1) :: (vs ++ dvs)) (Value.ref (s.heap.objs.size + 1) :: (us ++ ds)):=.cons rfl (r.append hd)
  have hl:(Value.ref (s.heap.objs.size + 1) :: us ++ ds).length=ps.length:=by
    have e:=r2.length
    rw [F.len _ _ _ _ hq] at e
    exact e.symm
  refine wpAny_call (make_map (f:=f) I.kIn M.makes M.init (beq_iff_eq.mp M.fn) (codeAny_mono (F.run _ X.stack _ _ ⟨Value.ref (s.heap.objs.size + 1) :: us,[]⟩ (Value.ref (s.heap.objs.size + 1) :: (us ++ ds)) _ _ E (hr.make C us [])
    (I2.env0.make C us []) (hb _ (Value.ref (s.heap.objs.size + 1) :: us) I2.kIn hl) r2 hq) fun r s' hq'=>?_))
  cases r with
  | error e=>exact hx pins σ _ _ e s' I2 hq'
  | ok fl =>
    cases fl with
    | ret u =>
      obtain ⟨v,H',I3,rv,ev,q3⟩:=I2.after hq'
      subst ev
      exact ⟨rv,⟨V.ref (s.heap.objs.size + 1),H',I3,rfl,q3⟩⟩
    | next=>exact False.elim hq'
    | brk=>exact False.elim hq'
    | cont=>exact False.elim hq'
theorem pe_make (M:Mk X.K C f) (F:FnOk X.prog X.w X.K X.mg X.base CX k f fd ps sp) (hr:Room (k + 1) X.A) (hg:Gl X x) (hm:X.mg x=some (.ref C)) (hb:Binds X.K fd ps ds) (hd:Vals dvs ds) (hx:Passes CX X E)
    (ha:PA X (e :: es) t) (hdb:(x == ("__debug__":Str))=false:=by decide) (he:starEach (e :: es) X.env=(false,eval e X.env) :: starEach es X.env:=by rfl) (hpl:(backTo pos (starEach es X.env)).any (·.1)=false:=by rfl) :
    PE X (.Call (.Name x p) (e :: es) [] pos) (tMake C sp dvs E t):=by
  intro pins s σ H Q I h
  refine wpAny_Call_Name_kw (ld_glob I hg hm ?_ hdb)
  refine PySem.W.callWith_K (h₀:=X.base) I.ok.mod.kin M.kp (thn (ha pos pins s σ H _ I h) fun us s1 ⟨vs,H1,I1,r,q⟩=>⟨I1.kIn,?_⟩) he hpl
  exact run_make M F hr hb hd hx I1 r q
end
section
variable {X:Cx} {CX:CXT} {k:Nat} {f C:Addr} {fd:FuncData} {ps ks:List Str} {sp:Sp} {E:XK} {x m:Str} {p pos apos kpos:Pos} {e o:Expr} {es:List Expr} {kws:List Keyword} {te ta:TE} {t tk:TA} {nm:Option Str}
structure KBinds (K:PySem.W.Frag) (fd:FuncData) (ps ks:List Str) (g:List Value->List Value->List Value) (gV:List V->List V->List V):Prop where
  to:∀ (s:Shared) (us ws:List Value),K.In s.heap->(g us ws).length=ps.length->BindsTo s fd ⟨us,ks.zip ws⟩ (ps.zip (g us ws))
  rel:∀ {vs:List V} {us:List Value} {zs:List V} {ws:List Value},Vals vs us->Vals zs ws->Vals (gV vs zs) (g us ws)
variable {g:List Value->List Value->List Value} {gV:List V->List V->List V}
end
structure FnScope (N P:List Str) (sc:Scope):Prop where
  kind:sc.kind=.function
  co:sc.isCoroutine=false
  gen:sc.isGenerator=false
  nd:N.Nodup
  pre:N.take P.length=P
  par:∀ x∈P,sc.names.lookup x=some .local\/sc.names.lookup x=some .cell
  nofree:∀ y∈sc.names,y.2≠.free
theorem bindL_out {kindOf:Str->Option NameKind} {x:Str}:∀ {binds:List (Str × Value)} {m:Str->Option Value},(∀ v,(x,v) ∉ binds)->bindL kindOf binds m x=m x
  | [],_,_=>rfl
  | (n,v) :: r,m,h=>by
    unfold bindL
    rw [bindL_out fun w hw=>h w (List.mem_cons_of_mem _ hw)]
    split
    · have:x≠n:=by rintro rfl; exact h v List.mem_cons_self
      simp [this]
    · rfl
theorem bindC_out {kindOf:Str->Option NameKind} {x:Str}:∀ {binds:List (Str × Value)} {m:Str->Option Value},(∀ v,(x,v) ∉ binds)->bindC kindOf binds m x=m x
  | [],_,_=>rfl
  | (n,v) :: r,m,h=>by
    unfold bindC
    rw [bindC_out fun w hw=>h w (List.mem_cons_of_mem _ hw)]
    split
    · rfl
    · have:x≠n:=by rintro rfl; exact h v List.mem_cons_self
      simp [this]
theorem bindL_get {kindOf:Str->Option NameKind} {x:Str} {v:Value}:∀ {P:List Str} {vs:List Value} {i:Nat} {m:Str->Option Value},P.Nodup->P[i]?=some x->vs[i]?=some v->kindOf x=some .local ->
    bindL kindOf (P.zip vs) m x=some v
  | [],_,_,_,_,h,_,_=>by simp at h
  | _ :: _,[],_,_,_,_,h,_=>by simp at h
  | p :: P,w :: vs,0,m,nd,h1,h2,hk=>by
    simp at h1 h2; subst h1; subst h2
    show bindL kindOf ((p,w) :: P.zip vs) m p=_
    unfold bindL
    rw [bindL_out fun v hv=>(List.nodup_cons.mp nd).1 (List.of_mem_zip hv).1,if_pos hk]
    simp
  | p :: P,w :: vs,i + 1,m,nd,h1,h2,hk=>by
    show bindL kindOf ((p,w) :: P.zip vs) m x=_
    unfold bindL
    exact bindL_get (i:=i) (List.nodup_cons.mp nd).2 (by simpa using h1) (by simpa using h2) hk
theorem bindC_get {kindOf:Str->Option NameKind} {x:Str} {v:Value}:∀ {P:List Str} {vs:List Value} {i:Nat} {m:Str->Option Value},P.Nodup->P[i]?=some x->vs[i]?=some v->kindOf x≠some .local ->
    bindC kindOf (P.zip vs) m x=some v
  | [],_,_,_,_,h,_,_=>by simp at h
  | _ :: _,[],_,_,_,_,h,_=>by simp at h
  | p :: P,w :: vs,0,m,nd,h1,h2,hk=>by
    simp at h1 h2; subst h1; subst h2
    show bindC kindOf ((p,w) :: P.zip vs) m p=_
    unfold bindC
    rw [bindC_out fun v hv=>(List.nodup_cons.mp nd).1 (List.of_mem_zip hv).1,if_neg hk]
    simp
  | p :: P,w :: vs,i + 1,m,nd,h1,h2,hk=>by
    show bindC kindOf ((p,w) :: P.zip vs) m x=_
    unfold bindC
    exact bindC_get (i:=i) (List.nodup_cons.mp nd).2 (by simpa using h1) (by simpa using h2) hk
def start (N:List Str) (vs:List V):St:=vs.map some ++ List.replicate (N.length - vs.length) none
def cxOf (CX:CXT) (P:Program) (w:World) (K:PySem.W.Frag) (mg:Str->Option Value) (base:Heap) (N:List Str) (qual:Str) (scope:Scope) (f:Addr) (cd:Value) (A:Around) (outer:List Env) (s:Shared) (H:Hp) (E:XK):Cx where
  prog:=P
  w:=w
  K:=K
  mg:=mg
  base:=base
  A:=A.deeper (envOfC qual scope s.heap.objs.size f cd)
  N:=N
  s₀:=s
  H₀:=H
  env:=envOfC qual scope s.heap.objs.size f cd
  outer:=outer
  stack:=envOfC qual scope s.heap.objs.size f cd :: outer
  ex:=[]
  calm:=true
  fn:=fun _=>true
  pn:=[]
  xe:=fun e s'=>wpAny (model P w) (A.deeper (envOfC qual scope s.heap.objs.size f cd)) (leaving (envOfC qual scope s.heap.objs.size f cd) e) (fun _ s''=>CX outer H s E e s'') (fun e' s''=>CX outer H s E e' s'') s'
theorem cell_has {sc:Scope} {n:Nat} {x:Str} (h:sc.names.lookup x=some .cell):∃ c,(cellsFrom n sc.names []).lookup x=some c:=by
  have q:=PySem.W.cellsFrom_some sc.names n [] (.inl h)
  exact Option.isSome_iff_exists.mp q
theorem inv_start {CX:CXT} {P:Program} {w:World} {K:PySem.W.Frag} {mg:Str->Option Value} {base:Heap} {N ps:List Str} {qual:Str} {scope:Scope} {f:Addr} {cd:Value} {A:Around} {outer:List Env} {s s1:Shared} {H:Hp} {E:XK} {us:List Value} {vs:List V}
    (S:FnScope N ps scope) (hd:A.handled=none) (e0:Env0 P w K mg base A outer s H) (hl:vs.length=ps.length) (r:Vals vs us)
    (x:InCallC s s.heap.objs.size (bindL (envOfC qual scope s.heap.objs.size f cd).kindOf (ps.zip us) fun _=>none) (cellsFrom (s.heap.objs.size + 1) scope.names []) (bindC (envOfC qual scope s.heap.objs.size f cd).kindOf (ps.zip us) fun _=>none) s1) :
    Inv (cxOf CX P w K mg base N qual scope f cd A outer s H E) [] (start N vs) H s1:=by
  have hpl:ps.length<=N.length:=by have:=congrArg List.length S.pre; rw [List.length_take] at this; lia
  obtain ⟨h1,tk,rfl,hk⟩:=x.done
  have noA:∀ b:Addr,b ∉ (cxOf CX P w K mg base N qual scope f cd A outer s H E).ex:=fun b z=>absurd (show b∈([]:List Addr) from z) (by simp)
  refine ⟨⟨e0.mod,S.kind,rfl,rfl,Nat.le_refl _,fun y z c h1 h2=>?_,fun y hy=>?_,fun y c _ h=>?_,fun _=>hd,Around.frames_deeper e0.frames,.inr ⟨rfl,rfl⟩,fun b z=>absurd z (noA b),e0.bs,e0.bsz,fun b _ _=>noA b,fun b z=>absurd z (noA b),e0.funs,e0.frf⟩,
    rfl,e0.bare,Un.kept hk,⟨_,x.toInCall.ns,fun i y v h1 h2 h3=>?_⟩,fun y c h=>⟨_,x.cell y c h⟩,e0.hok.fresh (Nat.le_refl _),fun y c h=>?_,fun p hp=>absurd (show p∈([]:List (Addr × Obj)) from hp) (by simp),e0.hok.kept hk,?_⟩
  · exact name_of_addr x.apart (PySem.mem_of_lookup h1) (PySem.mem_of_lookup h2)
  · have hy:scope.names.lookup y=some .cell\/scope.names.lookup y=some .free:=hy
    rcases hy with hy | hy
    · exact cell_has hy
    · exact absurd rfl (S.nofree _ (PySem.mem_of_lookup hy))
  · exact Nat.le_of_lt (x.above y c (PySem.mem_of_lookup h))
  · have hi:i < vs.length:=by
      unfold start at h2
      by_cases hi:i < vs.length
      · exact hi
      · rw [List.getElem?_append_right (by simpa using hi)] at h2
        rw [List.getElem?_replicate] at h2
        split at h2 <;> cases h2
    have ha:vs[i]?=some v:=by
      unfold start at h2
      rw [List.getElem?_append_left (by simpa using hi),List.getElem?_map] at h2
      cases e:vs[i]? with
      | none=>rw [e] at h2; cases h2
      | some a=>rw [e] at h2; cases h2; rfl
    obtain ⟨u,hu,rv⟩:=r.get ha
    have hp:ps[i]?=some y:=by
      rw [<- S.pre,List.getElem?_take_of_lt (by lia)]; exact h1
    have ndP:ps.Nodup:=by rw [<- S.pre]; exact S.nd.sublist (List.take_sublist _ _)
    refine ⟨u,rv,?_⟩
    rcases S.par y (List.mem_of_getElem? hp) with k | k
    · exact .inl ⟨k,bindL_get ndP hp hu k⟩
    · obtain ⟨c,e⟩:=cell_has (n:=s.heap.objs.size + 1) k
      refine .inr ⟨.inl k,c,e,?_⟩
      have q:=x.cell y c e
      rw [bindC_get ndP hp hu (by show scope.names.lookup y≠_; rw [k]; decide)] at q
      exact q
  · exact e0.hok.fresh (Nat.le_of_lt (x.above y c (PySem.mem_of_lookup h)))
  · unfold start
    show _=N.length
    rw [List.length_append,List.length_map,List.length_replicate]
    lia
theorem fn_of {CX:CXT} {P:Program} {w:World} {K:PySem.W.Frag} {mg:Str->Option Value} {base:Heap} {k:Nat} {f:Addr} {name qual:Str} {params:Arguments} {body:List Stmt} {scope:Scope} {dV kV doc pm cdv ct oc:Value} {an od:Option Addr}
    {osl:Array (Option Value)} {N ps:List Str} {sp:Sp} (lk:K.lookup f=some ⟨oc,od,.func (PySem.W.fnOf name qual params body scope dV kV doc pm an cdv ct),osl⟩) (hcd:PySem.W.codeIn K cdv qual=true) (S:FnScope N ps scope)
    (len:∀ vs H Q E,sp vs H Q E->vs.length=ps.length)
    (hbody:∀ (A:Around) (outer:List Env) (s:Shared) (H:Hp) (vs:List V) (Q:VK) (E:XK),Room k (A.deeper (envOfC qual scope s.heap.objs.size f cdv))->sp vs H Q E ->
      ∃ t,PSs (cxOf CX P w K mg base N qual scope f cdv A outer s H E) body t/\t { nx:=fun _ H'=>Q .non H',rt:=Q } (start N vs) H) :
    FnOk P w K mg base CX (k + 1) f (PySem.W.fnOf name qual params body scope dV kV doc pm an cdv ct) ps sp:=by
  refine ⟨len,fun A outer s H args us vs Q E hr e0 hb r hsp=>?_⟩
  have hl:=len _ _ _ _ hsp
  have KX:K.In s.heap:=e0.mod.kin.keeps fun b o e=>(e0.bs b o e).1
  have lim:s.heap.NoLimit:=e0.mod.nolimit.keeps fun b o e=>(e0.bs b o e).1
  have hkind:∀ y∈ps.zip us,scope.names.lookup y.1=some .local\/(scope.names.lookup y.1=some .cell/\((cellsFrom (s.heap.objs.size + 1) scope.names []).lookup y.1).isSome=true):=fun ⟨n,v⟩ hy=>by
    rcases S.par n (List.of_mem_zip hy).1 with q | q
    · exact .inl q
    · exact .inr ⟨q,PySem.W.cellsFrom_some _ _ _ (.inl q)⟩
  refine codeAny_call_function hr.depth (KX _ _ lk) rfl S.co S.gen rfl (PySem.W.codeRec_of KX hcd) (hb _ _ _ _ ?_)
  refine wpAny_newFunctionEnv_cells S.kind hkind fun env he s1 x=>?_
  subst he
  refine ⟨lim.keeps x.toInCall.keep,codeAny_func ?_⟩
  obtain ⟨t,ht,hq⟩:=hbody A outer s H vs Q E (hr.deeper _) hsp
  have I:Inv (cxOf CX P w K mg base N qual scope f cdv A outer s H E) [] (start N vs) H s1:=inv_start S hr.hd e0 hl r x
  refine wpAny_mono (ht [] s1 (start N vs) H _ I hq) (fun fl s' hs=>?_) fun e s' hs=>hs
  have fin:∀ {σ':St} {H':Hp} {v:V} {u:Value},Inv (cxOf CX P w K mg base N qual scope f cdv A outer s H E) [] σ' H' s'->RelV v u->Q v H'->CE outer P w H s Q u s' :=
    fun {σ' H' v u} J rv q=>⟨v,H',J.os,J.bare,J.base,J.hok,rv,q⟩
  cases fl with
  | ret u =>
    obtain ⟨v,σ',H',J,rv,q⟩:=hs
    exact fin J rv q
  | next =>
    obtain ⟨σ',H',J,q⟩:=hs
    exact fin (v:=V.non) (u:=Value.none) J rfl q
  | brk =>
    obtain ⟨_,_,_,q⟩:=hs
    exact False.elim q
  | cont =>
    obtain ⟨_,_,_,q⟩:=hs
    exact False.elim q
end L2
namespace L2
open PySem PySem.Spec PyProof.Rows
section
variable {X:Cx} {x:Str} {p pos:Pos} {e:Expr} {es:List Expr} {t:TA} {id T:String} {r:List V->Hp->VK->Prop}
def tCB (r:List V->Hp->VK->Prop) (t:TA):TE:=fun σ H Q=>t σ H fun vs H1=>r vs H1 Q
theorem pe_callB (hc:CallR X (.builtin id) r) (hg:Gl X x) (hm:X.mg x=none) (hv:bootBuiltins x=some (.builtin id)) (ha:PA X (e :: es) t) (hn:x≠"__name__":=by decide) (hdb:(x == ("__debug__":Str))=false:=by decide)
    (he:starEach (e :: es) X.env=(false,eval e X.env) :: starEach es X.env:=by rfl) (hpl:(backTo pos (starEach es X.env)).any (·.1)=false:=by rfl):PE X (.Call (.Name x p) (e :: es) [] pos) (tCB r t):=by
  intro pins s σ H Q I h
  refine wpAny_Call_Name_kw (ld_blt I hg hm hv ?_ hn hdb)
  exact PyProof.Rows.callWith_builtin1 (thn (ha pos pins s σ H _ I h) fun us s1 ⟨vs,H1,I1,r1,q1⟩=>hc pins s1 σ H1 vs us Q I1 r1 q1) he hpl
theorem pe_callTy (hc:CallR X (.type T) r) (hg:Gl X x) (hm:X.mg x=none) (hv:bootBuiltins x=some (.type T)) (ha:PA X (e :: es) t) (hn:x≠"__name__":=by decide) (hdb:(x == ("__debug__":Str))=false:=by decide)
    (he:starEach (e :: es) X.env=(false,eval e X.env) :: starEach es X.env:=by rfl) (hpl:(backTo pos (starEach es X.env)).any (·.1)=false:=by rfl):PE X (.Call (.Name x p) (e :: es) [] pos) (tCB r t):=by
  intro pins s σ H Q I h
  refine wpAny_Call_Name_kw (ld_blt I hg hm hv ?_ hn hdb)
  exact PyProof.Rows.callWith_type1 (thn (ha pos pins s σ H _ I h) fun us s1 ⟨vs,H1,I1,r1,q1⟩=>hc pins s1 σ H1 vs us Q I1 r1 q1) he hpl
end
end L2
namespace HT
open PySem PyProof.Rows
section
open PySem.SeqAt
open PySem.AutoSeq1 (wpAny_loadPart')
open PySem.MeetsSeq PySem.MeetsSeq2 PySem.MeetsSeq3
end
section
variable {prog:Program} {w:World} {A:Around} {E:Value->Shared->Prop} {s:Shared}
theorem cat_tup {t b:Addr} {vs ws:List Value} {Q:Value->Shared->Prop} (ht:IsTup s.heap t vs.toArray) (hb:IsTup s.heap b ws.toArray) (hv:vs≠[])
    (h1:ws=[]->Q (.ref t) s) (h2:ws≠[]->Q (.ref s.heap.objs.size) { s with heap:=s.heap.push { cls:=.type "tuple",data:=.seq (vs ++ ws).toArray } })
    (hsz:vs.length + ws.length<=sizeLine):wpAny (model prog w) A (binaryOp .Add (.ref t) (.ref b)) Q E s:=by
  obtain ⟨⟨cls,dd,data,sl⟩,ho,hc,n,hd⟩:=id ht
  obtain ⟨⟨cls2,dd2,data2,sl2⟩,ho2,hc2,n2,hd2⟩:=id hb
  simp only at hc hd hc2 hd2
  subst hc hd hc2 hd2
  have e:vs.toArray ++ ws.toArray=(vs ++ ws).toArray:=by simp
  by_cases hw:ws=[]
  · exact concat_meets ⟨_,ho,rfl⟩ ⟨_,ho2,rfl⟩ noFill_tuple_add seq_tuple_add PySem.F.slot_tuple_add PySem.F.entry_tuple_add (PySem.F.args_tuple_add_2 _ _)
      (tuple_addW1 t b vs.toArray ws.toArray n n2 dd dd2 sl sl2 (by simpa using hv) (by simp [hw])) ⟨ho,ho2,h1 hw⟩
  · refine concat_meets ⟨_,ho,rfl⟩ ⟨_,ho2,rfl⟩ noFill_tuple_add seq_tuple_add PySem.F.slot_tuple_add PySem.F.entry_tuple_add (PySem.F.args_tuple_add_2 _ _)
      (tuple_addW2 t b vs.toArray ws.toArray n n2 dd dd2 sl sl2 (by simpa using hv) (by simpa using hw) (by rw [List.size_toArray,List.size_toArray]; exact hsz)) ⟨ho,ho2,?_⟩
    rw [e]
    exact h2 hw
def sIx (n d:Nat):Option Int->Nat
  | none=>d
  | some v=>if v < 0 then (v + (n:Int)).toNat else min v.toNat n
theorem sIx_le (n d:Nat) (hd:d<=n) (o:Option Int):sIx n d o<=n:=by
  cases o with
  | none=>exact hd
  | some v =>
    show (if v < 0 then (v + (n:Int)).toNat else min v.toNat n)<=n
    by_cases hv:v < 0
    · rw [if_pos hv]; lia
    · rw [if_neg hv]; exact Nat.min_le_right _ _
theorem clip_eq (v:Int) (n d:Nat):(if v < 0 then max (v + (n:Int)) 0 else min v (n:Int))=((sIx n d (some v):Nat):Int):=by
  show (if v < 0 then max (v + (n:Int)) 0 else min v (n:Int))=(((if v < 0 then (v + (n:Int)).toNat else min v.toNat n):Nat):Int)
  by_cases hv:v < 0
  · simp only [if_pos hv]; lia
  · simp only [if_neg hv]; lia
theorem adjust_gen (lo hi:Option Int) (n:Nat):Builtin.Slice.sliceAdjust lo hi 1 (n:Int)=(((sIx n 0 lo:Nat):Int),((sIx n n hi:Nat):Int)):=by
  have h1:¬ ((1:Int) < 0):=by lia
  unfold Builtin.Slice.sliceAdjust
  simp only [h1,if_false]
  refine Prod.ext ?_ ?_
  · cases lo with
    | none=>rfl
    | some v=>exact clip_eq v n 0
  · cases hi with
    | none=>rfl
    | some v=>exact clip_eq v n n
theorem places_gen (i j:Nat):Builtin.Slice.slicePlaces (i:Int) (j:Int) 1=j - i:=by
  unfold Builtin.Slice.slicePlaces
  have h1:(1:Int) > 0:=by lia
  simp only [h1,if_true,Int.ediv_one]
  split <;> lia
theorem slicePart_ {v:Value} {o:Option Int} {Q:Option Int->Shared->Prop} (p:IsPart v o) (h:Q o s):wpAny (model prog w) A (Builtin.Slice.slicePartIndex v) Q E s:=by
  cases p with
  | none=>exact slicePart_none h
  | int i t=>exact slicePart_int h
theorem sliceApplied_gen {sl:Addr} {vl vu:Value} {lo hi:Option Int} {n:Nat} {Q:Int × Int × Nat->Shared->Prop} (hs:s.heap.IsSliceOf sl vl vu .none) (pl:IsPart vl lo) (pu:IsPart vu hi)
    (h:Q (((sIx n 0 lo:Nat):Int),1,sIx n n hi - sIx n 0 lo) s):wpAny (model prog w) A (Builtin.Slice.sliceApplied (.ref sl) (pure (n:Int))) Q E s:=by
  obtain ⟨os,hos,hcs,hds⟩:=id hs
  unfold Builtin.Slice.sliceApplied Builtin.Slice.sliceFields
  refine wpAny_bind (wpAny_bind (wpAny_field hos hds (x:=vl) rfl (wpAny_bind (wpAny_field hos hds (x:=vu) rfl (wpAny_bind (wpAny_field hos hds (x:=.none) rfl (wpAny_pure ?_)))))))
  refine wpAny_bind (slicePart_none ?_)
  show wpAny _ _ (if ((1:Int) == 0)=true then _ else _) _ _ s
  rw [if_neg (by decide)]
  refine wpAny_bind (slicePart_ pl (wpAny_bind (slicePart_ pu (wpAny_bind (wpAny_pure ?_)))))
  show wpAny _ _ (match Builtin.Slice.sliceAdjust lo hi 1 (n:Int) with | (lo,hi)=>pure (lo,(1:Int),Builtin.Slice.slicePlaces lo hi 1)) _ _ s
  rw [adjust_gen lo hi n]
  show wpAny _ _ (pure (((sIx n 0 lo:Nat):Int),(1:Int),Builtin.Slice.slicePlaces ((sIx n 0 lo:Nat):Int) ((sIx n n hi:Nat):Int) 1)) _ _ s
  rw [places_gen]
  exact wpAny_pure h
theorem pick_gen (xs:Array Value) (i k:Nat):((List.range k).filterMap fun (m:Nat)=>xs[((i:Int) + (m:Int) * 1).toNat]?).toArray=((xs.toList.drop i).take k).toArray:=by
  have e:(fun (m:Nat)=>xs[((i:Int) + (m:Int) * 1).toNat]?)=fun m=>xs[i + m]?:=by
    funext m
    have:((i:Int) + (m:Int) * 1).toNat=i + m:=by lia
    rw [this]
  rw [e]
  have:=pick_run xs i k
  rw [List.filterMap_map] at this
  have e2:((fun x=>xs[x]?) ∘ fun x=>i + x)=fun m=>xs[i + m]?:=rfl
  rw [e2] at this
  rw [this]
theorem getItem_tuple_cut {t sl:Addr} {items:Array Value} {vl vu:Value} {lo hi:Option Int} {Q:Value->Shared->Prop} (ht:IsTup s.heap t items) (hs:s.heap.IsSliceOf sl vl vu .none) (pl:IsPart vl lo) (pu:IsPart vu hi)
    (hw:¬ (sIx items.size 0 lo=0/\sIx items.size items.size hi=items.size))
    (h:Q (.ref s.heap.objs.size) { s with heap:=s.heap.push { cls:=.type "tuple",data:=.seq ((items.toList.drop (sIx items.size 0 lo)).take (sIx items.size items.size hi - sIx items.size 0 lo)).toArray } })
    (hsz:items.size<=sizeLine):wpAny (model prog w) A (getItem (.ref t) (.ref sl)) Q E s:=by
  have htake:sizeOk (.seq ((items.toList.drop (sIx items.size 0 lo)).take (sIx items.size items.size hi - sIx items.size 0 lo)).toArray):=by
    show ((items.toList.drop (sIx items.size 0 lo)).take (sIx items.size items.size hi - sIx items.size 0 lo)).toArray.size<=sizeLine
    rw [List.size_toArray,List.length_take,List.length_drop,Array.length_toList]
    lia
  have hj:sIx items.size items.size hi<=items.size:=sIx_le _ _ (Nat.le_refl _) hi
  obtain ⟨os,hos,hcs,hds⟩:=id hs
  have hTs:s.TypeIs (.ref sl) "slice":=⟨os,hos,hcs⟩
  unfold getItem
  try with_reducible refine wpAny_holding ?_
  first | refine wpAny_bind (wpAny_pure ?_) | skip
  refine wpAny_bind (wpAny_sequenceKey ht.typeIs (by decide) ?_)
  refine wpAny_bind (wpAny_callSpecial?_slot (name:=Str.ofString "__getitem__") ht.typeIs PyProof.Rows.slot_tuple_getitem
    (wpAny_call_entry PyProof.Rows.slot_tuple_getitem ht.typeIs entry_tuple_getitem ?_ (args_tuple_getitem _ _)))
  show wpAny _ _ (Builtin.Tuple.tupleItemsOf (.ref t) >>= _) _ _ s
  refine wpAny_bind (tupleItemsOf_ ht ?_)
  refine wpAny_bind (wpAny_typeOf hTs ?_)
  rw [if_pos (by decide)]
  refine wpAny_bind (sliceApplied_gen hs pl pu ?_)
  have hno:¬ ((((sIx items.size 0 lo:Nat):Int) == 0 && (1:Int) == 1 && (sIx items.size items.size hi - sIx items.size 0 lo) == items.size)=true):=by
    intro q
    rw [Bool.and_eq_true,Bool.and_eq_true] at q
    have q1:((sIx items.size 0 lo:Nat):Int)=0:=eq_of_beq q.1.1
    have q2:sIx items.size items.size hi - sIx items.size 0 lo=items.size:=eq_of_beq q.2
    exact hw ⟨by lia,by lia⟩
  show wpAny _ _ (if (((sIx items.size 0 lo:Nat):Int) == 0 && (1:Int) == 1 && (sIx items.size items.size hi - sIx items.size 0 lo) == items.size)=true then _ else _) _ _ s
  rw [if_neg hno,pick_gen]
  first
    | exact wpAny_bind (m:=Builtin.Tuple.tupleExact _) (wpAny_newObj_type (wpAny_pure ⟨_,rfl,wpAny_pure h⟩) htake)
    | exact wpAny_bind (m:=Builtin.Tuple.tupleExact _) (wpAny_newObj_type (wpAny_bind (wpAny_pure (wpAny_pure ⟨_,rfl,wpAny_pure h⟩))) htake)
    | exact wpAny_bind (wpAny_bind (m:=Builtin.Tuple.tupleExact _) (wpAny_newObj_type (wpAny_pure (wpAny_pure ⟨_,rfl,wpAny_pure h⟩)) htake))
    | exact wpAny_bind (wpAny_bind (m:=Builtin.Tuple.tupleExact _) (wpAny_newObj_type (wpAny_pure ⟨_,rfl,wpAny_pure h⟩) htake))
end
end HT
namespace L2
open PySem PySem.Spec PyProof.Rows
abbrev TO:=St->Hp->(Option Int->Hp->Prop)->Prop
def PO (X:Cx) (e:Option Expr) (t:TO):Prop :=
  ∀ (pins:List (Addr × Obj)) (s:Shared) (σ:St) (H:Hp) (Q:Option Int->Hp->Prop),Inv X pins σ H s->t σ H Q ->
    wpAny (model X.prog X.w) X.A (evalPart e X.env) (fun u s'=>∃ o H',Inv X pins σ H' s'/\IsPart u o/\Q o H') X.xe s
def tNoPart:TO:=fun _ H Q=>Q none H
def tPart (t:TE):TO:=fun σ H Q=>t σ H fun x H1=>∃ i,x=.int i/\Q (some i) H1
section
variable {X:Cx} {e:Expr} {te:TE} {lo hi:Option Expr} {tl th:TO} {pos p2:Pos}
theorem po_none:PO X none tNoPart:=by
  intro pins s σ H Q I h
  rw [evalPart_none]
  exact wpAny_pure ⟨none,H,I,.none,h⟩
theorem po_some (h:PE X e te):PO X (some e) (tPart te):=by
  intro pins s σ H Q I hw
  rw [evalPart_some]
  refine thn (h pins s σ H _ I hw) fun u s1 ⟨x,H1,I1,r1,q1⟩=>?_
  obtain ⟨i,rfl,q⟩:=q1
  obtain ⟨t,rfl⟩:=r1
  exact ⟨some i,H1,I1,.int i t,q⟩
def SlR (X:Cx) (r:V->Option Int->Option Int->Hp->VK->Prop):Prop :=
  ∀ (pins:List (Addr × Obj)) (s:Shared) (σ:St) (H:Hp) (x:V) (v vl vu:Value) (lo hi:Option Int) (sl:Addr) (Q:VK),Inv X pins σ H s->RelV x v->s.heap.IsSliceOf sl vl vu .none->IsPart vl lo->IsPart vu hi->r x lo hi H Q ->
    ∃ T id,typeLookup (.type T) "__getitem__"=pure (some (.builtin id))/\s.TypeIs v T/\wpAny (model X.prog X.w) X.A (getItem v (.ref sl)) (EP X pins σ Q) X.xe s
theorem SlR.or {r r':V->Option Int->Option Int->Hp->VK->Prop} (h:SlR X r) (h':SlR X r'):SlR X (fun x lo hi H Q=>r x lo hi H Q\/r' x lo hi H Q):=by
  intro pins s σ H x v vl vu lo hi sl Q I rx hs pl pu q
  rcases q with q | q
  · exact h pins s σ H x v vl vu lo hi sl Q I rx hs pl pu q
  · exact h' pins s σ H x v vl vu lo hi sl Q I rx hs pl pu q
def tSl (r:V->Option Int->Option Int->Hp->VK->Prop) (te:TE) (tl th:TO):TE:=fun σ H Q=>te σ H fun x H1=>tl σ H1 fun l H2=>th σ H2 fun u H3=>r x l u H3 Q
theorem pe_slice {r:V->Option Int->Option Int->Hp->VK->Prop} (hr:SlR X r) (he:PE X e te) (hl:PO X lo tl) (hu:PO X hi th):PE X (.Subscript e (.Slice lo hi none p2) pos) (tSl r te tl th):=by
  intro pins s σ H Q I h
  refine Subscript_ (thn (he pins s σ H _ I h) fun v s1 ⟨x,H1,I1,r1,q1⟩=>?_)
  refine wpAny_Slice (thn (hl pins s1 σ H1 _ I1 q1) fun vl s2 ⟨l,H2,I2,pl,q2⟩=>thn (hu pins s2 σ H2 _ I2 q2) fun vu s3 ⟨u,H3,I3,pu,q3⟩=>?_)
  rw [evalPart_none]
  refine wpAny_pure ?_
  have I4:Inv X pins σ H3 { s3 with heap:=s3.heap.push { cls:=.type "slice",data:=.fields #[vl,vu,.none] } }:=I3.kept (t':=s3.toks) fun b ob q=>Heap.get?_push_of_some _ q
  obtain ⟨T,id,hT,ht,hg⟩:=hr pins { s3 with heap:=s3.heap.push { cls:=.type "slice",data:=.fields #[vl,vu,.none] } } σ H3 x v vl vu l u s3.heap.objs.size Q I4 r1 (Heap.IsSliceOf.new ..) pl pu q3
  show wpAny (model X.prog X.w) X.A (subscriptTail e (.Slice lo hi none p2) v (.ref s3.heap.objs.size)) (EP X pins σ Q) X.xe { s3 with heap:=s3.heap.push { cls:=.type "slice",data:=.fields #[vl,vu,.none] } }
  exact tail_any (ops:=[.ref s3.heap.objs.size,v]) ht hT hg (by with_unfolding_all rfl)
def cutV (xs:List V) (lo hi:Option Int):List V:=(xs.drop (HT.sIx xs.length 0 lo)).take (HT.sIx xs.length xs.length hi - HT.sIx xs.length 0 lo)
theorem cutV_length (xs:List V) (lo hi:Option Int):(cutV xs lo hi).length<=xs.length:=by
  unfold cutV
  rw [List.length_take,List.length_drop]
  lia
def rSlT (K:PySem.W.Frag):V->Option Int->Option Int->Hp->VK->Prop:=fun x lo hi H Q=>∃ a xs,x=.ref a/\SqT K H a xs /\
  ¬ (HT.sIx xs.length 0 lo=0/\HT.sIx xs.length xs.length hi=xs.length)/\∀ p,H p=none->Q (.ref p) (upd H p (.tup (cutV xs lo hi)))
theorem sl_tup:SlR X (rSlT X.K):=by
  intro pins s σ H x v vl vu lo hi sl Q I rx hs pl pu h
  obtain ⟨a,xs,rfl,hx,hw,q⟩:=h
  cases rx
  obtain ⟨its,r,ht,hz⟩:=I.tuple hx
  have hlen:its.toArray.size=xs.length:=by rw [List.size_toArray]; exact r.length.symm
  refine ⟨"tuple",_,PyProof.Rows.slot_tuple_getitem.lookup,ht.typeIs,?_⟩
  refine HT.getItem_tuple_cut ht hs pl pu (by rw [hlen]; exact hw) ?_ (by rw [hlen]; exact hz)
  rw [hlen]
  refine ⟨.ref s.heap.objs.size,_,I.laid (t':=s.toks) (o:=.tup (cutV xs lo hi)) (fun b ob q=>Heap.get?_push_of_some _ q) (Nat.le_refl _) ?_,rfl,q _ (I.hok.fresh (Nat.le_refl _))⟩
  exact ⟨Nat.le_trans (cutV_length xs lo hi) hz,_,(r.drop (HT.sIx xs.length 0 lo)).take (HT.sIx xs.length xs.length hi - HT.sIx xs.length 0 lo),IsTupN.new _ _⟩
def rCatT (K:PySem.W.Frag):R2:=fun x y H Q=>∃ a b xs ys,x=.ref a/\y=.ref b/\SqT K H a xs/\SqT K H b ys/\xs≠[]/\xs.length + ys.length<=sizeLine /\
  (ys=[]->Q (.ref a) H)/\(ys≠[]->∀ p,H p=none->Q (.ref p) (upd H p (.tup (xs ++ ys))))
theorem Vals.nil_iff {xs:List V} {us:List Value} (r:Vals xs us):us=[]↔xs=[]:=by
  cases r with
  | nil=>simp
  | cons _ _=>simp
theorem op_catT:OpR X (binaryOp .Add) (rCatT X.K):=by
  intro pins s σ H x y v u Q I rx ry h
  obtain ⟨a,b,xs,ys,rfl,rfl,ha,hb,hx,hz,q1,q2⟩:=h
  cases rx
  cases ry
  obtain ⟨its,r1,p1,_⟩:=I.tuple ha
  obtain ⟨its2,r2,p2,_⟩:=I.tuple hb
  refine HT.cat_tup p1 p2 (fun z=>hx (r1.nil_iff.mp z)) (fun z=>⟨.ref a,H,I,rfl,q1 (r2.nil_iff.mp z)⟩) (fun z=>?_) (by rw [<- r1.length,<- r2.length]; exact hz)
  refine ⟨.ref s.heap.objs.size,_,I.laid (t':=s.toks) (o:=.tup (xs ++ ys)) (fun b ob q=>Heap.get?_push_of_some _ q) (Nat.le_refl _) ?_,rfl,q2 (fun w=>z (r2.nil_iff.mpr w)) _ (I.hok.fresh (Nat.le_refl _))⟩
  exact ⟨by rw [List.length_append]; exact hz,_,r1.append r2,IsTupN.new _ _⟩
end
end L2
namespace L2
open PySem PySem.Spec PyProof.Rows
def ixN (n:Nat) (i:Int):Option Nat:=if 0<=i then (if i < n then some i.toNat else none) else if -(n:Int)<=i then some (i + n).toNat else none
def atI {α:Type} (xs:List α) (i:Int):Option α:=(ixN xs.length i).bind fun j=>xs[j]?
theorem ixN_seq {n:Nat} {i:Int} {j:Nat} (h:ixN n i=some j):seqIndex? i n=some j/\j < n/\-(n:Int)<=i/\i < n:=by
  unfold ixN at h
  by_cases h0:0<=i
  · rw [if_pos h0] at h
    by_cases h1:i < n
    · rw [if_pos h1] at h
      have e:i.toNat=j:=Option.some.inj h
      exact ⟨by rw [seqIndex_of h0 h1,e],by lia,by lia,h1⟩
    · rw [if_neg h1] at h; cases h
  · rw [if_neg h0] at h
    by_cases h1:-(n:Int)<=i
    · rw [if_pos h1] at h
      have e:(i + n).toNat=j:=Option.some.inj h
      exact ⟨by rw [seqIndex_neg (by lia) h1,e],by lia,h1,by lia⟩
    · rw [if_neg h1] at h; cases h
theorem atI_get {α:Type} {xs:List α} {i:Int} {v:α} (h:atI xs i=some v):∃ j,seqIndex? i xs.length=some j/\xs[j]?=some v/\j < xs.length/\-(xs.length:Int)<=i/\i < xs.length:=by
  unfold atI at h
  cases e:ixN xs.length i with
  | none=>rw [e] at h; cases h
  | some j =>
    rw [e] at h
    obtain ⟨h1,h2,h3,h4⟩:=ixN_seq e
    exact ⟨j,h1,h,h2,h3,h4⟩
theorem atI_nat {α:Type} {xs:List α} {j:Nat} {v:α} (h:xs[j]?=some v):atI xs (j:Int)=some v:=by
  have hj:j < xs.length:=(List.getElem?_eq_some_iff.mp h).1
  have e:ixN xs.length (j:Int)=some j:=by
    unfold ixN
    rw [if_pos (by lia),if_pos (by lia)]; simp
  unfold atI; rw [e]; exact h
def PlainIx (b:Expr):Prop:=∀ o i,subscripted b false o i=operate [o,i] (getItem o i)
def IxR (X:Cx) (r:R2):Prop :=
  ∀ (value slice:Expr) (pins:List (Addr × Obj)) (s:Shared) (σ:St) (H:Hp) (x y:V) (v u:Value) (Q:VK),Inv X pins σ H s->RelV x v->RelV y u->r x y H Q ->
    subscripted slice false v u=operate [v,u] (getItem v u)->wpAny (model X.prog X.w) X.A (subscriptTail value slice v u) (EP X pins σ Q) X.xe s
def MtR (X:Cx) (id:String) (r:V->List V->Hp->VK->Prop):Prop :=
  ∀ (pins:List (Addr × Obj)) (s:Shared) (σ:St) (H:Hp) (x:V) (xs:List V) (v:Value) (us:List Value) (Q:VK),Inv X pins σ H s->RelV x v->Vals xs us->r x xs H Q ->
    wpAny (model X.prog X.w) X.A (call (.builtin id) (v :: us)) (EP X pins σ Q) X.xe s
section
variable {X:Cx} {a b:Expr} {ta tb:TE} {pos:Pos}
theorem IxR.or {r r':R2} (h:IxR X r) (h':IxR X r'):IxR X (fun x y H Q=>r x y H Q\/r' x y H Q):=by
  intro value slice pins s σ H x y v u Q I rx ry q hs
  rcases q with q | q
  · exact h value slice pins s σ H x y v u Q I rx ry q hs
  · exact h' value slice pins s σ H x y v u Q I rx ry q hs
theorem MtR.or {id:String} {r r':V->List V->Hp->VK->Prop} (h:MtR X id r) (h':MtR X id r'):MtR X id (fun x xs H Q=>r x xs H Q\/r' x xs H Q):=by
  intro pins s σ H x xs v us Q I rx rs q
  rcases q with q | q
  · exact h pins s σ H x xs v us Q I rx rs q
  · exact h' pins s σ H x xs v us Q I rx rs q
theorem pe_ix {r:R2} (hr:IxR X r) (ha:PE X a ta) (hb:PE X b tb) (hs:PlainIx b):PE X (.Subscript a b pos) (tOp r ta tb):=by
  intro pins s σ H Q I h
  exact Subscript_ (binT ha hb I h fun v u s2 x y H2 I2 rx ry q=>hr a b pins s2 σ H2 x y v u Q I2 rx ry q (hs _ _))
def rIxL (K:PySem.W.Frag):R2:=fun x y H Q=>∃ p xs i v,x=.ref p/\y=.int i/\SqL K H p xs/\atI xs i=some v/\Q v H
def rIxT (K:PySem.W.Frag):R2:=fun x y H Q=>∃ p xs i v,x=.ref p/\y=.int i/\SqT K H p xs/\atI xs i=some v/\Q v H
def rIxS:R2:=fun x y H Q=>∃ z i c,x=.str z/\y=.int i/\z.length<=sizeLine/\atI z.cps.toList i=some c/\Q (.str ⟨#[c]⟩) H
theorem ix_list:IxR X (rIxL X.K):=by
  intro value slice pins s σ H x y v u Q I rx ry h hs
  obtain ⟨p,xs,i,z,rfl,rfl,hq,he,q⟩:=h
  cases rx
  obtain ⟨t,rfl⟩:=ry
  obtain ⟨its,r,pl,hz⟩:=I.list hq
  obtain ⟨j,h1,h2,h3,h4,h5⟩:=atI_get he
  obtain ⟨w,ew,rw'⟩:=r.get h2
  have hl:=r.length
  have hn:=line63
  have fin:EP X pins σ Q w s:=⟨z,H,I,rw',q⟩
  by_cases h0:0<=i
  · have hj:i.toNat=j:=by
      rw [seqIndex_of h0 h5] at h1
      exact Option.some.inj h1
    exact item_listR pl.isList h0 (by lia) (by rw [hj]; simpa using ew) fin hs
  · have hj:(i + (its.toArray.size:Int)).toNat=j:=by
      rw [seqIndex_neg (by lia) h4] at h1
      rw [List.size_toArray,<- hl]
      exact Option.some.inj h1
    exact subscriptTail_builtinR (x:=w) pl.isList.typeIs slot_list_getitem.lookup
      (wpAny_getItem_list_neg (Q:=fun r s'=>r=w/\EP X pins σ Q r s') pl.isList (by lia) (by rw [List.size_toArray] <;> lia) (by lia) (by rw [hj]; simpa using ew) ⟨rfl,fin⟩) hs
theorem ix_tup:IxR X (rIxT X.K):=by
  intro value slice pins s σ H x y v u Q I rx ry h hs
  obtain ⟨p,xs,i,z,rfl,rfl,hq,he,q⟩:=h
  cases rx
  obtain ⟨t,rfl⟩:=ry
  obtain ⟨its,r,pl,hz⟩:=I.tuple hq
  obtain ⟨j,h1,h2,h3,h4,h5⟩:=atI_get he
  obtain ⟨w,ew,rw'⟩:=r.get h2
  have hl:=r.length
  have hn:=line63
  have fin:EP X pins σ Q w s:=⟨z,H,I,rw',q⟩
  exact subscriptTail_builtinR (x:=w) pl.typeIs slot_tuple_getitem.lookup
    (getItem_tuple (j:=j) (Q:=fun r s'=>r=w/\EP X pins σ Q r s') pl (by lia) (by lia) (by rw [List.size_toArray,<- hl]; exact h1) (by simpa using ew) ⟨rfl,fin⟩) hs
theorem ix_str:IxR X rIxS:=by
  intro value slice pins s σ H x y v u Q I rx ry h hs
  obtain ⟨z,i,c,rfl,rfl,hz,he,q⟩:=h
  obtain ⟨t,rfl⟩:=rx
  obtain ⟨t',rfl⟩:=ry
  obtain ⟨j,h1,h2,h3,h4,h5⟩:=atI_get he
  have hl:z.cps.toList.length=z.length:=by simp [Str.length]
  rw [hl] at h1 h4 h5
  have hn:=line63
  exact tail_any (typeIs_str s z t) slot_str_getitem.lookup (getItem_str (c:=c) (by
    have e1:decide (i < -(2 ^ 63:Int))=false:=decide_eq_false (by lia)
    have e2:decide (i ≥ 2 ^ 63)=false:=decide_eq_false (by lia)
    rw [e1,e2,Bool.or_false]) (by rw [h1]; simpa using h2) ⟨.str ⟨#[c]⟩,H,I.tok _,⟨_,rfl⟩,q⟩) hs
theorem mapSeq_set (its:List Value) (n j:Nat) (u:Value):Obj.mapSeq (·.setIfInBounds j u) { cls:=.type "list",data:=.seq its.toArray n }={ cls:=.type "list",data:=.seq (its.set j u).toArray n }:=by
  simp [Obj.mapSeq]
theorem Inv.lst {pins:List (Addr × Obj)} {σ:St} {H:Hp} {s:Shared} {p:Addr} {xs:List V} (I:Inv X pins σ H s) (h:H p=some (.lst xs)) :
    ∃ (its:List Value) (n:Nat),Vals xs its/\s.heap.get? p=some { cls:=.type "list",data:=.seq its.toArray n }/\xs.length<=sizeLine:=by
  obtain ⟨z,its,n,r,e⟩:=I.hok p _ h
  exact ⟨its,n,r,e,z⟩
theorem Inv.lstUpd {pins:List (Addr × Obj)} {σ:St} {H:Hp} {s:Shared} {p:Addr} {xs ys:List V} {its its':List Value} {n n':Nat} {f:Obj->Obj} (I:Inv X pins σ H s) (h:H p=some (.lst xs))
    (ho:s.heap.get? p=some { cls:=.type "list",data:=.seq its.toArray n }) (hf:f { cls:=.type "list",data:=.seq its.toArray n }={ cls:=.type "list",data:=.seq its'.toArray n' }) (r:Vals ys its') (hz:ys.length<=sizeLine) (t:Nat) :
    Inv X pins σ (upd H p (.lst ys)) { s with heap:=s.heap.update p f,toks:=t }:=by
  have e:(s.heap.update p f).get? p=some { cls:=.type "list",data:=.seq its'.toArray n' }:=by
    rw [Heap.get?_update_self f ho (by rw [hf] <;> rfl),hf]
  refine I.write (x:=p) (e:=p) (by rw [h]; trivial) (.inl rfl) (fun b u hb q=>(Heap.get?_update_other _ _ (Ne.symm hb)).trans q) ⟨_,e⟩ ?_
  exact ⟨hz,its',n',r,e⟩
def rSetL:V->V->V->Hp->(Hp->Prop)->Prop:=fun o i v H Q=>∃ p xs k j,o=.ref p/\i=.int k/\H p=some (.lst xs)/\ixN xs.length k=some j/\Q (upd H p (.lst (xs.set j v)))
theorem set_list:PSet X rSetL:=by
  intro pins s σ H o i v ov iv u Q I ro ri rv h
  obtain ⟨p,xs,k,j,rfl,rfl,hp,hj,q⟩:=h
  cases ro
  obtain ⟨t,rfl⟩:=ri
  obtain ⟨its,n,r,ho,hz⟩:=I.lst hp
  obtain ⟨h1,h2,h3,h4⟩:=ixN_seq hj
  have hl:=r.length
  have hn:=line63
  have I':Inv X pins σ (upd H p (.lst (xs.set j v))) { s with heap:=s.heap.update p (Obj.mapSeq (·.setIfInBounds j u)) } :=
    I.lstUpd hp ho (mapSeq_set its n j u) (r.set rv j) (by rw [List.length_set]; exact hz) s.toks
  by_cases h0:0<=k
  · have hk:k.toNat=j:=by
      rw [seqIndex_of h0 h4] at h1
      exact Option.some.inj h1
    exact PySem.W.ki_setAt ho h0 (by lia) (by rw [List.size_toArray,<- hl]; exact h4) (by rw [hk]; exact ⟨_,I',q⟩)
  · have hk:(k + (its.toArray.size:Int)).toNat=j:=by
      rw [seqIndex_neg (by lia) h3] at h1
      rw [List.size_toArray,<- hl]
      exact Option.some.inj h1
    exact PySem.W.ki_setBack ho (by lia) (by rw [List.size_toArray,<- hl]; exact h3) (by lia) (by rw [hk]; exact ⟨_,I',q⟩)
def flatV:V->Bool
  | .non=>true
  | .bl _=>true
  | .int _=>true
  | .str _=>true
  | _=>false
def eqV:V->V->Bool
  | .non,.non=>true
  | .bl a,.bl b=>a == b
  | .bl a,.int b=>(if a then 1 else 0) == b
  | .int a,.bl b=>a == (if b then 1 else 0)
  | .int a,.int b=>a == b
  | .str a,.str b=>a == b
  | _,_=>false
theorem eqAt_V {A:Around} {s:Shared} {y x:V} {u v:Value} (ry:RelV y u) (rx:RelV x v) (fy:flatV y=true) (fx:flatV x=true):SeqAt.EqAt A s u v (eqV y x):=by
  cases y with
  | non =>
    cases ry
    cases x with
    | non=>cases rx; exact SeqAt.EqAt.same _
    | bl b=>cases rx; exact SeqAt.EqAt.none_bool b
    | int b=>obtain ⟨t,rfl⟩:=rx; exact SeqAt.EqAt.none_int b t
    | str b=>obtain ⟨t,rfl⟩:=rx; exact SeqAt.EqAt.none_str b t
    | _=>exact absurd (show false=true from fx) Bool.false_ne_true
  | bl a =>
    cases ry
    cases x with
    | non=>cases rx; exact SeqAt.EqAt.bool_none a
    | bl b=>cases rx; exact SeqAt.EqAt.bool_bool a b
    | int b=>obtain ⟨t,rfl⟩:=rx; exact SeqAt.EqAt.bool_int a b t
    | str b=>obtain ⟨t,rfl⟩:=rx; exact SeqAt.EqAt.bool_str a b t
    | _=>exact absurd (show false=true from fx) Bool.false_ne_true
  | int a =>
    obtain ⟨t',rfl⟩:=ry
    cases x with
    | non=>cases rx; exact SeqAt.EqAt.int_none a t'
    | bl b=>cases rx; exact SeqAt.EqAt.int_bool a t' b
    | int b=>obtain ⟨t,rfl⟩:=rx; exact SeqAt.EqAt.int_int a t' b t
    | str b=>obtain ⟨t,rfl⟩:=rx; exact SeqAt.EqAt.int_str a t' b t
    | _=>exact absurd (show false=true from fx) Bool.false_ne_true
  | str a =>
    obtain ⟨t',rfl⟩:=ry
    cases x with
    | non=>cases rx; exact SeqAt.EqAt.str_none a t'
    | bl b=>cases rx; exact SeqAt.EqAt.str_bool a t' b
    | int b=>obtain ⟨t,rfl⟩:=rx; exact SeqAt.EqAt.str_int a t' b t
    | str b=>obtain ⟨t,rfl⟩:=rx; exact SeqAt.EqAt.str_str a t' b t
    | _=>exact absurd (show false=true from fx) Bool.false_ne_true
  | _=>exact absurd (show false=true from fy) Bool.false_ne_true
theorem call_len_seq:CallR X (.builtin "len") (fun xs H Q=>∃ p ys,xs=[.ref p]/\(SqL X.K H p ys\/SqT X.K H p ys)/\Q (.int ys.length) H):=by
  intro pins s σ H xs us Q I r h
  obtain ⟨p,ys,rfl,hq,q⟩:=h
  obtain ⟨u,rfl,rx⟩:=vals1 r
  cases rx
  have hn:=line63
  rcases hq with hq | hq
  · obtain ⟨its,r',pl,hz⟩:=I.list hq
    have hlen:=r'.length
    exact Calls.call_len_list pl.isList (by simp only [List.size_toArray] <;> lia) ⟨.int ys.length,H,I.tok _,⟨s.toks + 1,by rw [List.size_toArray,hlen]⟩,q⟩
  · obtain ⟨its,r',pl,hz⟩:=I.tuple hq
    have hlen:=r'.length
    exact len_tuple pl (by simp only [List.size_toArray] <;> lia) ⟨.int ys.length,H,I.tok _,⟨s.toks + 1,by rw [List.size_toArray,hlen]⟩,q⟩
theorem CallR.or {f:Value} {r r':List V->Hp->VK->Prop} (h:CallR X f r) (h':CallR X f r'):CallR X f (fun xs H Q=>r xs H Q\/r' xs H Q):=by
  intro pins s σ H xs us Q I rs q
  rcases q with q | q
  · exact h pins s σ H xs us Q I rs q
  · exact h' pins s σ H xs us Q I rs q
theorem call_tuple_of:CallR X (.type "tuple") (fun xs H Q=>∃ p ys,xs=[.ref p]/\((SqL X.K H p ys/\∀ l,H l=none->Q (.ref l) (upd H l (.tup ys)))\/(SqT X.K H p ys/\Q (.ref p) H))):=by
  intro pins s σ H xs us Q I r h
  obtain ⟨p,ys,rfl,h⟩:=h
  obtain ⟨u,rfl,rx⟩:=vals1 r
  cases rx
  rcases h with ⟨hq,q⟩ | ⟨hq,q⟩
  · obtain ⟨its,r',pl,hz⟩:=I.list hq
    have hlen:=r'.length
    refine call_tuple_list pl.isList (fun h' kp=>?_) (by simp only [List.size_toArray] <;> lia)
    have I1:Inv X pins σ H { s with heap:=h' }:=I.kept (t':=s.toks) kp
    have I2:Inv X pins σ (upd H h'.objs.size (.tup ys)) { s with heap:=h'.push { cls:=.type "tuple",data:=.seq its.toArray } } :=
      I1.laid (t':=s.toks) (fun b o e=>Heap.get?_push_of_some _ e) (Nat.le_refl _) (show ObjOk X.prog X.w _ _ _ (.tup ys) from ⟨hz,its,r',IsTupN.new _ _⟩)
    exact ⟨.ref h'.objs.size,_,I2,rfl,q _ (I1.hok.fresh (Nat.le_refl _))⟩
  · obtain ⟨its,r',pl,hz⟩:=I.tuple hq
    exact call_tuple_same pl ⟨.ref p,H,I,rfl,q⟩
def tyV (K:PySem.W.Frag) (T:String) (x:V) (H:Hp):Prop:=match x with
  | .str _=>T="str"
  | .int _=>T="int"
  | .ref p=>(T="list"/\∃ xs,SqL K H p xs)\/(T="tuple"/\((∃ o,K.lookup p=some o/\o.cls=.type "tuple"/\o.dict=none)\/∃ xs,H p=some (.tup xs))) \/
      (T="dict"/\((∃ kvs,H p=some (.dK kvs))\/∃ kvs,H p=some (.dT kvs)))\/(T="set"/\∃ S n,H p=some (.set S n))
  | _=>False
theorem tyV_is {pins:List (Addr × Obj)} {σ:St} {H:Hp} {s:Shared} {T:String} {x:V} {v:Value} (I:Inv X pins σ H s) (r:RelV x v) (ty:tyV X.K T x H) :
    s.TypeIs v T/\∀ a,v=.ref a->∃ ob,s.heap.get? a=some ob/\ob.dict=none:=by
  cases x with
  | str z =>
    obtain ⟨t,rfl⟩:=r
    cases (show T="str" from ty)
    exact ⟨typeIs_str s z t,fun _ e=>nomatch e⟩
  | int i =>
    obtain ⟨t,rfl⟩:=r
    cases (show T="int" from ty)
    exact ⟨typeIs_int s i t,fun _ e=>nomatch e⟩
  | ref p =>
    cases r
    rcases ty with ⟨rfl,xs,hq⟩ | ⟨rfl,⟨o,hk,hc,hd⟩ | ⟨xs,hk⟩⟩ | ⟨rfl,hk⟩ | ⟨rfl,S,n,hk⟩
    · obtain ⟨its,_,pl,_⟩:=I.list hq
      refine ⟨pl.isList.typeIs,fun a e=>?_⟩
      cases e
      obtain ⟨o,n,e,c,hd,_⟩:=pl
      exact ⟨o,e,hd⟩
    · refine ⟨⟨o,I.kIn p o hk,hc⟩,fun a e=>?_⟩
      cases e
      exact ⟨o,I.kIn _ o hk,hd⟩
    · obtain ⟨_,_,_,o,ho,hc,hd,_⟩:=I.hok p _ hk
      refine ⟨⟨o,ho,hc⟩,fun a e=>?_⟩
      cases e
      exact ⟨o,ho,hd⟩
    · have z:∃ o,s.heap.get? p=some o/\o.ExactDict:=by
        rcases hk with ⟨kvs,hk⟩ | ⟨kvs,hk⟩
        · obtain ⟨_,_,_,_,o,_,_,e,ex,_⟩:=I.hok p _ hk
          exact ⟨o,e,ex⟩
        · obtain ⟨_,_,_,_,o,_,_,e,ex,_⟩:=I.hok p _ hk
          exact ⟨o,e,ex⟩
      obtain ⟨o,e,ex⟩:=z
      refine ⟨⟨o,e,ex.1⟩,fun a e2=>?_⟩
      cases e2
      exact ⟨o,e,ex.2.1⟩
    · obtain ⟨o,_,_,_,e,ex,_⟩:=I.hok p _ hk
      refine ⟨⟨o,e,ex.1⟩,fun a e2=>?_⟩
      cases e2
      exact ⟨o,e,ex.2.1⟩
  | _=>exact False.elim ty
def tBM0 (K:PySem.W.Frag) (T:String) (r:V->List V->Hp->VK->Prop) (to:TE):TE:=fun σ H Q=>to σ H fun x H1=>tyV K T x H1/\r x [] H1 Q
def tBM (K:PySem.W.Frag) (T:String) (r:V->List V->Hp->VK->Prop) (to:TE) (t:TA):TE:=fun σ H Q=>to σ H fun x H1=>tyV K T x H1/\t σ H1 fun xs H2=>r x xs H2 Q
variable {o e:Expr} {es:List Expr} {to:TE} {t:TA} {name:Str} {apos cpos:Pos} {T id:String} {r:V->List V->Hp->VK->Prop}
theorem pe_bm0 (pa:PlainAttrs T) (slot:Slot T name id) (hty:typeOf (.builtin id)=pure (.type "method_descriptor")) (hm:MtR X id r) (ho:PE X o to)
    (hbase:attributeBase o name X.env (eval o X.env)=eval o X.env:=by rfl) (hline:(apos.endLine == cpos.line)=true:=by rfl):PE X (.Call (.Attribute o name apos) [] [] cpos) (tBM0 X.K T r to):=by
  intro pins s σ H Q I h
  refine wpAny_Call_method0_late hbase hline (thn (ho pins s σ H _ I h) fun v s1 ⟨x,H1,I1,r1,ty,q1⟩=>?_)
  obtain ⟨h1,h2⟩:=tyV_is I1 r1 ty
  exact ⟨T,id,pa,slot,hty,h1,h2,Calls.callWith_builtin rfl (PySem.evalArgs_none (hm pins s1 σ H1 x [] v [] Q I1 r1 .nil q1))⟩
theorem pe_bm (pa:PlainAttrs T) (slot:Slot T name id) (hty:typeOf (.builtin id)=pure (.type "method_descriptor")) (hm:MtR X id r) (ho:PE X o to) (ha:PA X (e :: es) t)
    (hbase:attributeBase o name X.env (eval o X.env)=eval o X.env:=by rfl)
    (hfew:((backTo cpos (starEach (e :: es) X.env)).all (fun x=>!x.1) && (backToKw cpos (keywordEach [] X.env)).all (fun x=>x.1.isSome)
      && decide ((e :: es).length + ([]:List Keyword).length + (if ([]:List Keyword).isEmpty then 0 else 1) < 30))=true:=by rfl)
    (hline:(apos.endLine == cpos.line)=true:=by rfl) (hs:starEach (e :: es) X.env=(false,eval e X.env) :: starEach es X.env:=by rfl) (hplain:(backTo cpos (starEach es X.env)).any (·.1)=false:=by rfl) :
    PE X (.Call (.Attribute o name apos) (e :: es) [] cpos) (tBM X.K T r to t):=by
  intro pins s σ H Q I h
  refine wpAny_Call_method_late hbase hfew hline rfl (thn (ho pins s σ H _ I h) fun v s1 ⟨x,H1,I1,r1,ty,q1⟩=>?_)
  obtain ⟨h1,h2⟩:=tyV_is I1 r1 ty
  refine ⟨T,id,pa,slot,hty,h1,h2,?_⟩
  have hA:=ha cpos pins s1 σ H1 _ I1 q1
  rw [hs] at hA ⊢
  refine Calls.callWith_builtin (by show (false || (backTo cpos (starEach es X.env)).any (·.1))=false; rw [hplain] <;> rfl) (Calls.evalArgs_plain ?_)
  exact thn hA fun us s2 ⟨vs,H2,I2,r2,q2⟩=>hm pins s2 σ H2 x vs v us Q I2 r1 r2 q2
end
end L2
namespace L2
open PySem PySem.Spec PyProof.Rows
def MtM (X:Cx) (id:String) (r:V->List V->Hp->VK->Prop):Prop :=
  ∀ (pins:List (Addr × Obj)) (s:Shared) (σ:St) (H:Hp) (x:V) (xs:List V) (v:Value) (us:List Value) (Q:VK),Inv X pins σ H s->RelV x v->Vals xs us->r x xs H Q ->
    wpAny (model X.prog X.w) X.A (call (.builtin id) (v :: us)) (EP X pins σ Q) X.xe s
theorem Vals.one:∀ {x:V} {us:List Value},Vals [x] us->∃ u,us=[u]/\RelV x u
  | _,_,.cons r .nil=>⟨_,rfl,r⟩
theorem Vals.two:∀ {x y:V} {us:List Value},Vals [x,y] us->∃ u v,us=[u,v]/\RelV x u/\RelV y v
  | _,_,_,.cons r (.cons q .nil)=>⟨_,_,rfl,r,q⟩
theorem Vals.zero:∀ {us:List Value},Vals [] us->us=[]
  | _,.nil=>rfl
theorem Vals.dropLast {xs:List V} {us:List Value} (h:Vals xs us):Vals xs.dropLast us.dropLast:=by
  induction h with
  | nil=>exact .nil
  | cons r t ih =>
    cases t with
    | nil=>exact .nil
    | cons q t'=>exact .cons r ih
theorem Vals.eraseIdx:∀ {xs:List V} {us:List Value} (i:Nat),Vals xs us->Vals (xs.eraseIdx i) (us.eraseIdx i)
  | _,_,_,.nil=>.nil
  | _,_,0,.cons _ t=>t
  | _,_,i + 1,.cons r t=>.cons r (Vals.eraseIdx i t)
theorem Vals.reverse {xs:List V} {us:List Value} (h:Vals xs us):Vals xs.reverse us.reverse:=by
  induction h with
  | nil=>exact .nil
  | cons r t ih=>rw [List.reverse_cons,List.reverse_cons]; exact Vals.append ih (.cons r .nil)
theorem erase_last {α:Type} (l:List α):l.eraseIdx (l.length - 1)=l.dropLast:=by
  induction l with
  | nil=>rfl
  | cons a r ih =>
    cases r with
    | nil=>rfl
    | cons b r =>
      have e:(a :: b :: r).length - 1=((b :: r).length - 1) + 1:=by
        have h1:(a :: b :: r).length=r.length + 2:=rfl
        have h2:(b :: r).length=r.length + 1:=rfl
        lia
      rw [e,List.eraseIdx_cons_succ,ih]
      all_goals rfl
section
variable {X:Cx} {pins:List (Addr × Obj)} {σ:St} {H:Hp} {s:Shared} {l b:Addr} {xs ys zs:List V}
theorem Inv.lset {its its':List Value} {n:Nat} {f:Array Value->Array Value} {t':Nat} (I:Inv X pins σ H s) (hH:H l=some (.lst xs))
    (e:s.heap.get? l=some { cls:=.type "list",data:=.seq its.toArray n }) (hf:f its.toArray=its'.toArray) (hv:Vals ys its') (hz:ys.length<=sizeLine) :
    Inv X pins σ (upd H l (.lst ys)) { s with heap:=s.heap.update l (Obj.mapSeq f),toks:=t' }:=by
  have q:=PySem.IsL.update e f
  rw [hf] at q
  refine I.write (x:=l) (e:=l) (by rw [hH]; exact trivial) (.inl rfl) (fun b' u hb hu=>(Heap.get?_update_other s.heap (Obj.mapSeq f) (Ne.symm hb)).trans hu) ⟨_,q⟩ ?_
  exact ⟨hz,its',_,hv,q⟩
theorem Inv.lnew {its:List Value} {t':Nat} (I:Inv X pins σ H s) (hv:Vals ys its) (hz:ys.length<=sizeLine) :
    Inv X pins σ (upd H s.heap.objs.size (.lst ys)) { s with heap:=s.heap.push { cls:=.type "list",data:=.seq its.toArray },toks:=t' } :=
  I.laid (fun _ _ q=>Heap.get?_push_of_some _ q) (Nat.le_refl _) ⟨hz,its,0,hv,Heap.get?_push_size _ rfl⟩
theorem Inv.fresh (I:Inv X pins σ H s):H s.heap.objs.size=none:=I.hok.fresh (Nat.le_refl _)
theorem Inv.lstM (I:Inv X pins σ H s) (hH:H l=some (.lst xs)):xs.length<=sizeLine/\∃ (its:List Value) (n:Nat),Vals xs its/\xs.length=its.length/\s.heap.get? l=some { cls:=.type "list",data:=.seq its.toArray n }:=by
  obtain ⟨z,its,n,r,e⟩:=I.hok l _ hH
  exact ⟨z,its,n,r,r.length,e⟩
theorem notLongL {n:Nat} (h:n<=sizeLine):Builtin.List.listTooLong n=false:=by
  unfold Builtin.List.listTooLong
  exact decide_eq_false (by lia)
end
section
variable {X:Cx}
def rAppend:V->List V->Hp->VK->Prop:=fun x vs H Q=>∃ l xs y,x=.ref l/\vs=[y]/\H l=some (.lst xs)/\xs.length < sizeLine/\Q .non (upd H l (.lst (xs ++ [y])))
theorem mt_append:MtM X "list.append" rAppend:=by
  intro pins s σ H x vs v us Q I rx rv h
  obtain ⟨l,xs,y,rfl,rfl,hH,hz,q⟩:=h
  cases rx
  obtain ⟨u,rfl,ru⟩:=rv.one
  obtain ⟨z,its,n,r,hl,e⟩:=I.lstM hH
  refine call_meets F.slot_list_append ⟨_,e,rfl⟩ F.entry_list_append (F.args_list_append_2 _ _) (PySem.list_append l its.toArray n u (by rw [List.size_toArray]; lia)) ⟨e,?_⟩
  refine ⟨.non,_,I.lset (its':=its ++ [u]) hH e (by simp) (r.append (.cons ru .nil)) ?_,rfl,q⟩
  rw [List.length_append,List.length_singleton]
  lia
def rExtend:V->List V->Hp->VK->Prop:=fun x vs H Q=>∃ l b xs zs,x=.ref l/\vs=[.ref b]/\H l=some (.lst xs)/\H b=some (.lst zs)/\xs.length + zs.length<=sizeLine/\Q .non (upd H l (.lst (xs ++ zs)))
theorem mt_extend:MtM X "list.extend" rExtend:=by
  intro pins s σ H x vs v us Q I rx rv h
  obtain ⟨l,b,xs,zs,rfl,rfl,hH,hB,hz,q⟩:=h
  cases rx
  obtain ⟨u,rfl,ru⟩:=rv.one
  cases ru
  obtain ⟨z,its,n,r,hl,e⟩:=I.lstM hH
  obtain ⟨z2,its2,n2,r2,hl2,e2⟩:=I.lstM hB
  have hsz:its.toArray.size + its2.toArray.size<=sizeLine:=by rw [List.size_toArray,List.size_toArray]; lia
  have hlong:¬ (!its.toArray.isEmpty && Builtin.List.listTooLong (its.toArray.size + its2.toArray.size))=true:=by
    rw [notLongL hsz,Bool.and_false]
    exact Bool.false_ne_true
  refine call_meets F.slot_list_extend ⟨_,e,rfl⟩ F.entry_list_extend (F.args_list_extend_2 _ _)
    (AutoSeq1.list_extend_list_list_0 l its.toArray n b its2.toArray n2 hlong (by rw [List.size_toArray]; lia) (by lia)) ⟨e,e2,?_⟩
  refine ⟨.non,_,I.lset (its':=its ++ its2) hH e (by simp) (r.append r2) ?_,rfl,q⟩
  rw [List.length_append]
  lia
def rPop:V->List V->Hp->VK->Prop:=fun x vs H Q=>∃ l xs y,x=.ref l/\vs=[]/\H l=some (.lst xs)/\xs[xs.length - 1]?=some y/\Q y (upd H l (.lst xs.dropLast))
theorem mt_pop:MtM X "list.pop" rPop:=by
  intro pins s σ H x vs v us Q I rx rv h
  obtain ⟨l,xs,y,rfl,rfl,hH,hy,q⟩:=h
  cases rx
  have hus:=rv.zero
  subst hus
  obtain ⟨z,its,n,r,hl,e⟩:=I.lstM hH
  obtain ⟨u,hu,ru⟩:=r.get hy
  have hy':its.toArray[its.toArray.size - 1]?=some u:=by
    show its.toArray[its.length - 1]?=some u
    rw [<- Array.getElem?_toList,<- hl]
    exact hu
  refine call_meets F.slot_list_pop ⟨_,e,rfl⟩ F.entry_list_pop (F.args_list_pop_1 _) (MeetsSeq.list_pop_last l its.toArray n u hy' (by rw [List.size_toArray]; lia)) ⟨e,?_⟩
  refine ⟨y,_,I.lset (its':=its.dropLast) hH e ?_ r.dropLast ?_,ru,q⟩
  · show its.toArray.eraseIdxIfInBounds (its.toArray.size - 1)=its.dropLast.toArray
    rw [List.size_toArray,List.eraseIdxIfInBounds_toArray,erase_last]
  · rw [List.length_dropLast]
    lia
def rCat:R2:=fun x y H Q=>∃ l b xs zs,x=.ref l/\y=.ref b/\H l=some (.lst xs)/\H b=some (.lst zs)/\xs.length + zs.length<=sizeLine/\∀ p,H p=none->Q (.ref p) (upd H p (.lst (xs ++ zs)))
theorem op_cat:OpR X (binaryOp .Add) rCat:=by
  intro pins s σ H x y v u Q I rx ry h
  obtain ⟨l,b,xs,zs,rfl,rfl,hH,hB,hz,q⟩:=h
  cases rx
  cases ry
  obtain ⟨z,its,n,r,hl,e⟩:=I.lstM hH
  obtain ⟨z2,its2,n2,r2,hl2,e2⟩:=I.lstM hB
  refine PySem.P.add_list e e2 ?_ (by rw [List.size_toArray,List.size_toArray]; lia)
  have ea:its.toArray ++ its2.toArray=(its ++ its2).toArray:=by simp
  rw [ea]
  exact ⟨.ref _,_,I.lnew (t':=s.toks) (r.append r2) (by rw [List.length_append]; lia),rfl,q _ I.fresh⟩
end
section
variable {prog:Program} {w:World} {A:Around} {E:Value->Shared->Prop} {s:Shared}
end
section
variable {X:Cx}
end
end L2
namespace Att
open PySem PySem.W PySem.Calls PyProof.Rows
theorem ints_of_wellAll {P:Params} {h:Heap}:∀ (ns:List Int) (vs:List Value),WellAll P h vs (ns.map WData.int)->IntsAre vs ns:=by
  intro ns
  induction ns with
  | nil =>
    intro vs w
    rw [List.map_nil] at w
    cases w
    exact .nil
  | cons n ns ih =>
    intro vs w
    rw [List.map_cons] at w
    cases w with
    | cons a b =>
      cases a
      exact .cons _ _ (ih _ b)
theorem script_of {l:OpenLaw} {n:Nat} (hn:l.most=some n) {P:Params} {h:Heap} {args:List WData} {vals:List Value}
    (hpre:l.row.toRowW.claim.pre args=true) (hwl:WellAll P h vals args) :
    ∃ a vs ns,vals=[Value.ref a]/\args=[WData.list (ns.map WData.int)]/\h.get? a=some { cls:=.type "list",data:=.seq vs.toArray }/\IntsAre vs ns/\ns.length<=n:=by
  have hsh:WShape.hasAll [] args [.list .int]=true:=(pre_splitW hpre).1
  have hc:l.pre.holds [] { args:=args }=true:=(pre_splitW hpre).2
  obtain ⟨d,r,rfl,h1,h2⟩:=hasAllW_cons hsh
  obtain rfl:=hasAllW_nil h2
  obtain ⟨xs,rfl,h3⟩:=hasW_list h1
  obtain ⟨ns,rfl⟩:=items_int h3
  have hlen:ns.length<=n:=by
    unfold OpenLaw.pre at hc
    have h4:(WTm.not (.lt (.lit (.int (n:Int))) (.len (.arg 0)))).holds [] { args:=[.list (ns.map .int)] }=true:=by
      have h4:=(holds_andW hc).1
      rw [hn] at h4
      exact h4
    have h5:=condW_of h4 (w_not (w_lt w_lit (w_len_list (w_arg rfl))))
    rw [List.length_map] at h5
    refine Nat.le_of_not_lt fun q=>?_
    have q':(n:Int) < ((ns.length:Nat):Int):=by lia
    first
      | (rw [decide_eq_true q'] at h5; exact absurd h5 (by decide))
      | (simp at h5; lia)
  cases hwl with
  | cons w1 w2 =>
    cases w2
    cases w1 with
    | list ho hall=>exact ⟨_,_,ns,rfl,rfl,ho,ints_of_wellAll ns _ hall,hlen⟩
theorem post_true (l:OpenLaw) (args:List WData):l.row.toRowW.claim.post args (.bool true) args=true :=
  postW_of (r:=l.row.toRowW) (X:=(true == true))
    (show WShape.has [] (.bool true) .bool=true by first | rfl | decide | simp [WShape.has,WShape.arms,WShape.armsAll])
    (show (WTm.eq .res (.lit (.bool true))).value [] { args:=args,res:=some (.bool true),after:=args }=some (.bool (true == true)) from w_eq_bool (w_res rfl) w_lit) rfl
theorem attach_call {l:OpenLaw} {n:Nat} {q:Program} {loose:List Str} {XP:(Str->Option Value)->Heap->Prop} {YP:World->Heap->Prop} {d:DefRec}
    (hn:l.most=some n) (hdf:d.params.defaults=[])
    (call:∀ (w:World) (s₀ s₁:Shared) (mg mb:Str->Option Value) (fa:Addr) (o:Obj) (pm cd doc:Value) (a:Addr) (vs:List Value) (ns:List Int),
      Ground q loose [] XP w s₀ mg mb s₁.heap->YP w s₁.heap ->
      s₁.heap.get? fa=some o->o.data=.func (docDef d.name d.params d.body d.scope pm cd doc)->s₁.heap.CodeRec cd d.name->mg d.name=some (.ref fa) ->
      s₁.heap.get? a=some { cls:=.type "list",data:=.seq vs.toArray }->IntsAre vs ns->ns.length<=n->s₁.gens=#[] ->
      codeAny (model l.prog w) callerA (.call (.ref fa) ⟨[.ref a],[]⟩) (fun r s'=>r=.ok (.ret (.bool true))/\OldK s₁.heap s'.heap/\s'.os=s₁.os/\AllBare s'.gens) s₁) :
    WalkO q loose XP YP l.row.toRowW d [] (fun f vs=>PySem.call f vs):=by
  intro w s₀ s₁ mg mb G Y fa o pm cd doc dV kV ho hd hcd hD hmg hg args vals as hpre hlay hrd hwl hlo
  obtain rfl:dV=.none:=Dflts.none hD hdf
  obtain rfl:kV=.none:=Dflts.noKw hD
  obtain ⟨a,vs,ns,rfl,rfl,hobj,hints,hlen⟩:=script_of hn hpre hwl
  refine enter_call (codeAny_mono (call w s₀ s₁ mg mb fa o pm cd doc a vs ns G Y ho (fd_plain hd) hcd hmg hobj hints hlen hg) fun r s' hq=>?_)
  obtain ⟨rfl,h2,h3,h4⟩:=hq
  exact ⟨.inl ⟨.bool true,.bool true,[],rfl,fun _=>rfl,.bool true,post_true l _,fun _=>⟨List.Pairwise.nil,fun _ hm=>(nomatch hm)⟩⟩,h2,h3,h4⟩
section
variable {prog:Program} {w:World} {A:Around} {E:Value->Shared->Prop} {s:Shared} {K:Frag}
def ledger (h:Heap) (L d:Addr):List (Addr × Obj):=(List.range h.objs.size).filterMap fun a=>if a=L\/a=d then none else (h.get? a).map fun o=>(a,o)
end
end Att
namespace L2
open PySem PySem.Spec PyProof.Rows
theorem vals_ints:∀ {vs:List Value} {ns:List Int},IntsAre vs ns->Vals (ns.map V.int) vs
  | _,_,.nil=>.nil
  | _,_,.cons n t h=>.cons ⟨t,rfl⟩ (vals_ints h)
def Only (H:Hp):Prop:=∀ b,H b=none\/∃ o xs,H b=some (.frz o (.lst xs))
theorem law_call {P:Program} {w:World} {K:PySem.W.Frag} {mg mb:Str->Option Value} {CX:CXT} {k:Nat} {fa a:Addr} {fd:FuncData} {x:Str} {sp:Sp} {s₁:Shared} {vs:List Value} {ns:List Int}
    (KX:K.In s₁.heap) (hns:s₁.heap.Ns mainGlobals mg) (hb:s₁.heap.Ns builtinsNs mb) (hbb:∀ x:Str,x≠"__name__"->mb x=bootBuiltins x) (hlim:s₁.heap.NoLimit) (hg:s₁.gens=#[])
    (ha:s₁.heap.get? a=some { cls:=.type "list",data:=.seq vs.toArray }) (hi:IntsAre vs ns) (hl:ns.length<=sizeLine) (hr:Room k callerA)
    (F:∀ base:Heap,K.In base->base.Ns mainGlobals mg->FnOk P w K mg base CX k fa fd [x] sp) (hbind:∀ (s:Shared) (u:Value),BindsTo s fd ⟨[u],[]⟩ [(x,u)])
    (hsp:∀ H:Hp,Only H->SqL K H a (ns.map V.int)->sp [.ref a] H (fun v _=>v=.bl true) fun _ _ _=>False)
    (hCX:∀ H e s',CX [] H s₁ (fun _ _ _=>False) e s'->False) :
    codeAny (model P w) callerA (.call (.ref fa) ⟨[.ref a],[]⟩) (fun r s'=>r=.ok (.ret (.bool true))/\OldK s₁.heap s'.heap/\s'.os=s₁.os/\AllBare s'.gens) s₁:=by
  have rv:=vals_ints hi
  have lenV:=hi.length
  -- from an abstract heap in which nothing but the script may be tracked
  have core:∀ H:Hp,Only H->SqL K H a (ns.map V.int)->HOk P w H s₁.heap->(∀ b,H b≠none->b=a)->(H a≠none->K.lookup a=none) ->
      codeAny (model P w) callerA (.call (.ref fa) ⟨[.ref a],[]⟩) (fun r s'=>r=.ok (.ret (.bool true))/\OldK s₁.heap s'.heap/\s'.os=s₁.os/\AllBare s'.gens) s₁:=by
    intro H hO hS hok hA hK
    have base_of:∀ {b:Addr} {o:Obj},s₁.heap.get? b=some o->H b=none->(hidT s₁.heap H).get? b=some o:=fun e n=>hidT_get e n
    have noA:∀ {b:Addr} {o:Obj} {es:Array DictEntry} {ep:Nat},s₁.heap.get? b=some o->o.data=.dict es ep->H b=none:=fun {b o es ep} e d=>by
      cases q:H b with
      | none=>rfl
      | some u =>
        have e':b=a:=hA b (by rw [q]; simp)
        subst e'
        rw [ha] at e; cases e
        have d':Data.seq vs.toArray _=Data.dict es ep:=d
        cases d'
    have nsK:∀ {b:Addr} {m:Str->Option Value},s₁.heap.Ns b m->(hidT s₁.heap H).Ns b m:=fun {b m} ⟨o,es,ep,e,d,r⟩=>⟨o,es,ep,base_of e (noA e d),d,r⟩
    have hKb:K.In (hidT s₁.heap H):=fun b o e=>base_of (KX b o e) (by
      cases q:H b with
      | none=>rfl
      | some u =>
        have e':b=a:=hA b (by rw [q]; simp)
        subst e'
        rw [hK (by rw [q]; simp)] at e; cases e)
    have hM:Mod K mg (hidT s₁.heap H):=⟨hKb,nsK hns,⟨mb,nsK hb,hbb⟩,let ⟨mc,h1,h2⟩:=hlim; ⟨mc,nsK h1,h2⟩⟩
    have e0:Env0 P w K mg (hidT s₁.heap H) callerA [] s₁ H:=⟨rfl,hM,fun b o e=>of_hidT e,Nat.le_of_eq (hidT_size _ _),trivial,fun b hb=>absurd (show b∈([]:List Addr) from hb) (by simp),hok,.of_eq hg⟩
    refine codeAny_mono ((F _ hKb (nsK hns)).run callerA [] s₁ H ⟨[.ref a],[]⟩ [.ref a] [.ref a] _ _ hr e0 (hbind s₁ (.ref a)) (.cons rfl .nil) (hsp H hO hS)) fun r s' h=>?_
    cases r with
    | error e=>exact (hCX H e s' h).elim
    | ok fl =>
      cases fl with
      | next=>exact False.elim h
      | brk=>exact False.elim h
      | cont=>exact False.elim h
      | ret u =>
        obtain ⟨v,H',os,bare,un,hok',r',q⟩:=h
        have q':v=.bl true:=q
        subst q'
        obtain rfl:u=Value.bool true:=r'
        refine ⟨rfl,OldK.of_keep fun b o e=>?_,os,bare⟩
        cases q:H b with
        | none=>exact un.keep b o e q (by intro z; exact absurd (show b∈([]:List Addr) from z) (by simp)) (by simp)
        | some u =>
          rcases hO b with z | ⟨ob,xs,z⟩
          · rw [q] at z; cases z
          · have z2:=un.frzs b ob _ z
            obtain ⟨e1,_⟩:=hok b _ z
            obtain ⟨e2,_⟩:=hok' b _ z2
            rw [e] at e1; cases e1
            exact e2
  cases hk:K.lookup a with
  | some o =>
    -- the script is one of the module's own objects
    have e:=KX a o hk
    rw [ha] at e
    cases e
    refine core (fun _=>none) (fun _=>.inl rfl) (.inr ⟨_,vs.toArray,_,hk,rfl,rfl,rfl,by rw [List.size_toArray,lenV]; exact hl,by simpa using rv⟩) (fun b u z=>by have z':(none:Option HO)=some u:=z; cases z') (fun b z=>absurd rfl z) fun z=>absurd rfl z
  | none =>
    refine core (fun b=>if b=a then some (.frz { cls:=.type "list",data:=.seq vs.toArray } (.lst (ns.map V.int))) else none) (fun b=>?_) (.inl (.inr ⟨{ cls:=.type "list",data:=.seq vs.toArray },if_pos rfl⟩)) (fun b u z=>?_) (fun b z=>?_) fun _=>hk
    · by_cases hb:b=a
      · exact .inr ⟨_,_,if_pos hb⟩
      · exact .inl (if_neg hb)
    · by_cases hb:b=a
      · have z':=(if_pos hb).symm.trans z
        cases z'
        subst hb
        exact ⟨ha,by rw [List.length_map]; exact hl,vs,_,rv,ha⟩
      · have z':=(if_neg hb).symm.trans z
        cases z'
    · by_cases hb:b=a
      · exact hb
      · exact absurd (if_neg hb) z
end L2
namespace L2
open PySem PySem.Spec PyProof.Rows
theorem walk_of {l:PySem.W.OpenLaw} {n k:Nat} {q:Program} {loose:List Str} {XP:(Str->Option Value)->Heap->Prop} {YP:World->Heap->Prop} {d:DefRec} {K:Params->PySem.W.Frag} {CX:World->CXT} {sp:World->Sp} {x:Str}
    (hn:l.most=some n) (hn2:n<=sizeLine) (hdf:d.params.defaults=[]) (hr:Room k callerA)
    (hY:∀ (w:World) (h:Heap),YP w h->(K w.params).In h)
    (F:∀ (w:World) (mg:Str->Option Value) (fa:Addr) (h:Heap),(K w.params).In h->h.Ns mainGlobals mg->mg d.name=some (.ref fa) ->
      ∃ fd:FuncData,(∀ (s:Shared) (u:Value),BindsTo s fd ⟨[u],[]⟩ [(x,u)]) /\
        ∀ base:Heap,(K w.params).In base->base.Ns mainGlobals mg->FnOk l.prog w (K w.params) mg base (CX w) k fa fd [x] (sp w))
    (hsp:∀ (w:World) (H:Hp) (a:Addr) (ns:List Int),ns.length<=n->Only H->SqL (K w.params) H a (ns.map V.int)->sp w [.ref a] H (fun v _=>v=.bl true) fun _ _ _=>False)
    (hCX:∀ (w:World) (H:Hp) (s:Shared) (e:Value) (s':Shared),CX w [] H s (fun _ _ _=>False) e s'->False) :
    PySem.W.WalkO q loose XP YP l.row.toRowW d [] (fun f vs=>PySem.call f vs):=by
  refine Att.attach_call hn hdf fun w s₀ s₁ mg mb fa o pm cd doc a vs ns G Y ho hd hcd hmg hobj hints hlen hg=>?_
  have KX:=hY w _ Y
  obtain ⟨fd,hb,hF⟩:=F w mg fa _ KX G.T.g hmg
  exact law_call KX G.T.g G.T.b G.T.builtins G.T.nolimit hg hobj hints (Nat.le_trans hlen hn2) hr hF hb (fun H hO hS=>hsp w H a ns hlen hO hS) fun H e s'=>hCX w H s₁ e s'
end L2
/- THE LAST THEOREM (shape; LID, My.* are yours):
   My.Adr: a structure of the addresses that your layer names (classes,functions); My.Txt K t: a structure (Prop) of the equations over K;
   My.txt_mk:{K} {implicit addresses ..} (e1:nsIn K mainGlobals "law"=some (some (.ref f))) (e2:K.lookup f=some ⟨oc,od,.func (fnOf "law" "law" params body scope dV kV doc pm an cdv ct),sl⟩) (e3:codeIn K cdv "law"=true) ..:∃ t,My.Txt K t
set_option maxRecDepth 100000 in
set_option maxHeartbeats 0 in
theorem PySem.Challenge.cw_LID_holds : PySem.Challenge.rw_LID.Holds := by
  w_on; o_law; k_head; (case hw=>w_witness2)
  k_fill
  refine L2.walk_of (l:=PySem.Challenge.rw_LID) (n:=63) (k:=40) (x:="script") (CX:=fun w=>..) (sp:=fun _=>My.sp_law) rfl (by decide) rfl ⟨rfl,by decide,by decide⟩ (fun w h Y=>PySem.W.kIn_of Y) ?F ?S ?C
  case F =>
    intro w mg fa h KX G hmg
    have T:∃ t,My.Txt (L2.KOf KX) t:=by
      dsimp only [L2.KOf]                          -- K must stand as «<heap const> w.params» for k_is
      refine' My.txt_mk ?e1 ?e2 ?e3 ..
      (case e1 => PySem.W.k_is)                    -- in the order: a name -> its address -> its object -> its parts
      (case e2=>PySem.W.k_is)
      ..
    obtain ⟨t,T⟩:=T
    have e0:=hmg.symm.trans (PySem.W.mg_of KX G T.law)
    cases e0                                       -- fa is the law's own address
    exact ⟨_, fun s u => .of_eq rfl, fun base kb nb => My.law_fn T kb nb⟩     -- if «.of_eq rfl» comes too early: refine' ⟨_, ?b, fun base kb nb => My.law_fn T kb nb⟩; exact fun s u => .of_eq rfl
  case S=>exact fun w H a ns hl hO hS=>..
  case C=>exact ..
(the tactic k_is has no namespace: write k_is) -/
namespace L2
open PySem PySem.Spec PyProof.Rows
def inClass (s:Stmt) (j:Nat):Stmt:=match s with
  | .ClassDef _ _ _ body _ _ _ _ _ _ _=>body.getD j (.Pass ⟨0,0,0,0⟩)
  | _=>.Pass ⟨0,0,0,0⟩
def defArgs (s:Stmt):Arguments:=match s with
  | .FunctionDef _ a _ _ _ _ _ _ _ _=>a
  | _=>{ posonlyargs:=[],args:=[],vararg:=none,kwonlyargs:=[],kw_defaults:=[],kwarg:=none,defaults:=[] }
def defBody (s:Stmt):List Stmt:=match s with
  | .FunctionDef _ _ b _ _ _ _ _ _ _=>b
  | _=>[]
def defScope (s:Stmt):Scope:=match s with
  | .FunctionDef _ _ _ _ _ _ sc _ _ _=>sc
  | _=>{ kind:=.function,names:=[],isGenerator:=false,isCoroutine:=false }
abbrev CX0:CXT:=fun _ _ _ _ _ _=>False
abbrev E0:XK:=fun _ _ _=>False
theorem pass0 {X:Cx}:Passes CX0 X E0:=fun _ _ _ _ _ _ _ h=>h.elim
structure Fun (K:PySem.W.Frag) (x qual:Str) (st:Stmt) (f:Addr) (fd:FuncData):Prop where
  ex:∃ (oc:Value) (od:Option Addr) (kV doc pm:Value) (an:Option Addr) (cdv ct:Value) (osl:Array (Option Value)),
    fd=PySem.W.fnOf x qual (defArgs st) (defBody st) (defScope st) .none kV doc pm an cdv ct/\K.lookup f=some ⟨oc,od,.func fd,osl⟩/\PySem.W.codeIn K cdv qual=true
  kp:PySem.W.keepIn K (.ref f)=true
section
variable {P:Program} {w:World} {K:PySem.W.Frag} {mg:Str->Option Value} {base:Heap}
theorem Fun.ok {x qual:Str} {st:Stmt} {f:Addr} {fd:FuncData} {N ps:List Str} {k:Nat} {sp:Sp} (F:Fun K x qual st f fd) (S:FnScope N ps (defScope st)) (len:∀ vs H Q E,sp vs H Q E->vs.length=ps.length)
    (hbody:∀ (cdv:Value) (A:Around) (outer:List Env) (s:Shared) (H:Hp) (vs:List V) (Q:VK) (E:XK),Room k (A.deeper (envOfC qual (defScope st) s.heap.objs.size f cdv))->sp vs H Q E ->
      ∃ t,PSs (cxOf CX0 P w K mg base N qual (defScope st) f cdv A outer s H E).nox (defBody st) t/\t { nx:=fun _ H'=>Q .non H',rt:=Q } (start N vs) H):FnOk P w K mg base CX0 (k + 1) f fd ps sp:=by
  obtain ⟨oc,od,kV,doc,pm,an,cdv,ct,osl,rfl,lk,hcd⟩:=F.ex
  refine fn_of lk hcd S len fun A outer s H vs Q E hr hsp=>?_
  obtain ⟨t,h,q⟩:=hbody cdv A outer s H vs Q E hr hsp
  exact ⟨t,h.nox,q⟩
theorem Fun.binds {x qual:Str} {st:Stmt} {f:Addr} {fd:FuncData} {ps:List Str} (F:Fun K x qual st f fd)
    (h:∀ (kV doc pm:Value) (an:Option Addr) (cdv ct:Value) (us:List Value),us.length=ps.length->bindArgs (PySem.W.fnOf x qual (defArgs st) (defBody st) (defScope st) .none kV doc pm an cdv ct) ⟨us,[]⟩=pure (ps.zip us)):Binds K fd ps []:=by
  obtain ⟨oc,od,kV,doc,pm,an,cdv,ct,osl,rfl,lk,hcd⟩:=F.ex
  exact .all (h kV doc pm an cdv ct)
theorem fun_mk {x qual:Str} {st:Stmt} {f:Addr} {oc:Value} {od an:Option Addr} {osl:Array (Option Value)} {kV doc pm cdv ct:Value} (l:K.lookup f=some ⟨oc,od,.func (PySem.W.fnOf x qual (defArgs st) (defBody st) (defScope st) .none kV doc pm an cdv ct),osl⟩)
    (c:PySem.W.codeIn K cdv qual=true) (k:PySem.W.keepIn K (.ref f)=true):Fun K x qual st f (PySem.W.fnOf x qual (defArgs st) (defBody st) (defScope st) .none kV doc pm an cdv ct):=⟨⟨oc,od,kV,doc,pm,an,cdv,ct,osl,rfl,l,c⟩,k⟩
end
theorem hu_of {A:Around} {k:Nat} (hr:Room k A):A.units + 1 < cLine:=Nat.lt_of_le_of_lt (Nat.add_le_add_left (by decide:1<=64) _) hr.units
section
variable {X:Cx}
theorem pv (i:Nat) {x:Str} {pos:Pos} (hN:X.N[i]?=some x:=by rfl) (hv:Vis X.env.scope x:=by first | exact Or.inl rfl | exact Or.inr (Or.inl rfl) | exact Or.inr (Or.inr rfl)) (hd:(x == ("__debug__":Str))=false:=by decide)
    (hcd:(x == ("__classdict__":Str))=false:=by decide):PE X (.Name x pos) (tVar i):=pe_var hN hv hd hcd
end
theorem iteF {A B:Prop} (h:B):if false=true then A else B:=by
  rw [if_neg Bool.false_ne_true]
  exact h
theorem iteT {A B:Prop} (h:A):if true=true then A else B:=by
  rw [if_pos rfl]
  exact h
theorem ite2 {c A B:Prop} [Decidable c] (h1:c->A) (h2:¬ c->B):if c then A else B:=by
  by_cases h:c
  · rw [if_pos h]
    exact h1 h
  · rw [if_neg h]
    exact h2 h
def Same (H H':Hp):Prop:=∀ b o,H b=some o->H' b=some o
theorem Same.refl (H:Hp):Same H H:=fun _ _ h=>h
theorem Same.trans {H H1 H2:Hp} (a:Same H H1) (b:Same H1 H2):Same H H2:=fun c o h=>b c o (a c o h)
theorem Same.free {H H':Hp} (e:Same H H') {l:Addr} (h:H' l=Option.none):H l=Option.none:=by
  cases q:H l with
  | none=>rfl
  | some o =>
    rw [e l o q] at h
    cases h
theorem Same.seq {K:PySem.W.Frag} {H H':Hp} {a:Addr} {xs:List V} (e:Same H H') (h:SqL K H a xs):SqL K H' a xs:=by
  rcases h with (h | ⟨o,h⟩) | h
  · exact .inl (.inl (e _ _ h))
  · exact .inl (.inr ⟨o,e _ _ h⟩)
  · exact .inr h
end L2
namespace L2
open PySem PySem.Spec PyProof.Rows
def AllIn (env:Env):List (Str × Addr)->Prop
  | []=>True
  | p :: r=>env.cells.lookup p.1=some p.2/\AllIn env r
theorem AllIn.get {env:Env}:∀ {cl:List (Str × Addr)} {y:Str} {c:Addr},AllIn env cl->cl.lookup y=some c->env.cells.lookup y=some c
  | [],_,_,_,h=>by simp at h
  | (n,a) :: r,y,c,⟨e,t⟩,h=>by
    rw [List.lookup_cons] at h
    by_cases q:y=n
    · subst q
      rw [beq_self_eq_true] at h
      cases h
      exact e
    · have q':(y == n)=false:=beq_eq_false_iff_ne.mpr q
      rw [q'] at h
      exact AllIn.get t h
def blank:List Nat->St->St
  | [],σ=>σ
  | i :: S,σ=>blank S (σ.set i none)
theorem blank_len:∀ (S:List Nat) (σ:St),(blank S σ).length=σ.length
  | [],_=>rfl
  | i :: S,σ=>by rw [blank,blank_len S,List.length_set]
theorem blank_get:∀ (S:List Nat) (σ:St) {j:Nat} {v:V},(blank S σ)[j]?=some (some v)->σ[j]?=some (some v)/\j ∉ S
  | [],_,_,_,h=>⟨h,by simp⟩
  | i :: S,σ,j,v,h=>by
    obtain ⟨h1,h2⟩:=blank_get S (σ.set i none) h
    rw [List.getElem?_set] at h1
    by_cases e:i=j
    · rw [if_pos e] at h1
      split at h1 <;> cases h1
    · rw [if_neg e] at h1
      exact ⟨h1,fun z=>(List.mem_cons.mp z).elim (fun z=>e z.symm) h2⟩
structure LcOk (X:Cx) (scope:Scope) (cl:List (Str × Addr)) (S:List Nat):Prop where
  clos:closureFor scope X.env=pure cl
  kind:scope.kind=.function
  noC:scope.names.all (fun y=>y.2 != .cell)=true
  loc:scope.names.all (fun y=>y.2 != .local || scope.names.lookup y.1 == some .local)=true
  own:X.N.zipIdx.all (fun y=>S.contains y.2 || scope.names.lookup y.1 != some .local)=true
  sub:AllIn X.env cl
  has:scope.names.all (fun p=>p.2 != .free || ((cl.lookup p.1).isSome && (X.env.kindOf p.1 == some .cell || X.env.kindOf p.1 == some .free)))=true
section
variable {X:Cx} {scope:Scope} {cl:List (Str × Addr)} {S:List Nat}
theorem LcOk.nocell (L:LcOk X scope cl S):∀ y∈scope.names,y.2≠.cell:=fun y hy=>by
  have h:=List.all_eq_true.mp L.noC y hy
  exact bne_iff_ne.mp h
theorem LcOk.locs (L:LcOk X scope cl S):∀ y∈scope.names,y.2=.local->scope.names.lookup y.1=some .local:=fun y hy e=>by
  have h:=List.all_eq_true.mp L.loc y hy
  rw [e] at h
  simpa using h
theorem LcOk.apart (L:LcOk X scope cl S):∀ (i:Nat) (y:Str),X.N[i]?=some y->i ∉ S->scope.names.lookup y≠some .local:=fun i y hy hi=>by
  have h:=List.all_eq_true.mp L.own (y,i) (List.mem_zipIdx_iff_getElem?.mpr hy)
  have hc:S.contains i=false:=by simpa using hi
  rw [hc,Bool.false_or] at h
  exact bne_iff_ne.mp h
theorem LcOk.free (L:LcOk X scope cl S) {y:Str} (h:scope.names.lookup y=some .free):(∃ c,cl.lookup y=some c)/\(X.env.kindOf y=some .cell\/X.env.kindOf y=some .free):=by
  have h1:=List.all_eq_true.mp L.has _ (PySem.mem_of_lookup h)
  simp only [bne_self_eq_false,Bool.false_or,Bool.and_eq_true,Bool.or_eq_true,beq_iff_eq] at h1
  exact ⟨Option.isSome_iff_exists.mp h1.1,h1.2⟩
theorem lookup_relabel (names:List (Str × NameKind)) (env:Env) (y:Str) :
    (names.map fun (n,k)=>if (k == NameKind.free && env.scope.kind == .function && env.kindOf n == some .cell) then (n,NameKind.cell) else (n,k)).lookup y =
      (names.lookup y).map fun k=>if (k == NameKind.free && env.scope.kind == .function && env.kindOf y == some .cell) then NameKind.cell else k:=by
  induction names with
  | nil=>rfl
  | cons p r ih =>
    obtain ⟨n,k⟩:=p
    rw [List.map_cons]
    by_cases q:y=n
    · subst q
      by_cases hc:(k == NameKind.free && env.scope.kind == .function && env.kindOf y == some .cell)=true
      · show List.lookup y ((if (k == NameKind.free && env.scope.kind == .function && env.kindOf y == some .cell)=true then (y,NameKind.cell) else (y,k)) :: _)=_
        rw [if_pos hc,List.lookup_cons,List.lookup_cons,beq_self_eq_true]
        show some NameKind.cell=some (if _ then _ else _)
        rw [if_pos hc]
      · show List.lookup y ((if (k == NameKind.free && env.scope.kind == .function && env.kindOf y == some .cell)=true then (y,NameKind.cell) else (y,k)) :: _)=_
        rw [if_neg hc,List.lookup_cons,List.lookup_cons,beq_self_eq_true]
        show some k=some (if _ then _ else _)
        rw [if_neg hc]
    · have q':(y == n)=false:=beq_eq_false_iff_ne.mpr q
      by_cases hc:(k == NameKind.free && env.scope.kind == .function && env.kindOf n == some .cell)=true
      · show List.lookup y ((if (k == NameKind.free && env.scope.kind == .function && env.kindOf n == some .cell)=true then (n,NameKind.cell) else (n,k)) :: _)=_
        rw [if_pos hc,List.lookup_cons,List.lookup_cons,q']
        exact ih
      · show List.lookup y ((if (k == NameKind.free && env.scope.kind == .function && env.kindOf n == some .cell)=true then (n,NameKind.cell) else (n,k)) :: _)=_
        rw [if_neg hc,List.lookup_cons,List.lookup_cons,q']
        exact ih
theorem LcOk.kinds (L:LcOk X scope cl S) {y:Str} (h:(relabel scope X.env).names.lookup y=some .cell\/(relabel scope X.env).names.lookup y=some .free):scope.names.lookup y=some .free:=by
  have e:(relabel scope X.env).names.lookup y=(scope.names.lookup y).map fun k=>if (k == NameKind.free && X.env.scope.kind == .function && X.env.kindOf y == some .cell) then NameKind.cell else k:=lookup_relabel scope.names X.env y
  rw [e] at h
  cases q:scope.names.lookup y with
  | none=>rw [q] at h; rcases h with h | h <;> cases h
  | some k =>
    have hk:k≠.cell:=L.nocell _ (PySem.mem_of_lookup q)
    rw [q] at h
    by_cases hf:k=.free
    · rw [hf]
    · have z:(k == NameKind.free)=false:=beq_eq_false_iff_ne.mpr hf
      rw [Option.map_some,z,Bool.false_and,Bool.false_and,if_neg Bool.false_ne_true] at h
      rcases h with h | h
      · exact absurd (Option.some.inj h) hk
      · exact absurd (Option.some.inj h) hf
def cxLC (X:Cx) (scope:Scope) (cl:List (Str × Addr)) (M:List Str) (C:Addr) (s₀:Shared) (H₀:Hp) (ex:List Addr) (E:Value->Shared->Prop):Cx where
  prog:=X.prog
  w:=X.w
  K:=X.K
  mg:=X.mg
  base:=X.base
  A:=X.A
  N:=X.N ++ M
  s₀:=s₀
  H₀:=H₀
  env:=compEnvC scope cl C X.env
  outer:=X.stack
  stack:=X.stack
  ex:=ex
  fn:=fun _=>false
  calm:=X.calm
  pn:=[]
  xe:=E
variable {pins:List (Addr × Obj)} {σ:St} {H:Hp} {s:Shared} {ex:List Addr} {M:List Str} {C:Addr}
theorem lc_start {E:Value->Shared->Prop} {h1:Heap} {tk:Nat} {m:Str->Option Value} (I:Inv X pins σ H s) (L:LcOk X scope cl S) (hf:∀ b∈ex,FpOk X pins H b) (hlt:∀ b∈ex,b < s.heap.objs.size)
    (hk:∀ b o,s.heap.get? b=some o->h1.get? b=some o) (hC:s.heap.objs.size<=C) (hns:h1.Ns C m) :
    Inv (cxLC X scope cl M C s H ex E) [] (blank S σ ++ List.replicate M.length none) H { s with heap:=h1,toks:=tk }:=by
  refine ⟨⟨I.ok.mod,L.kind,I.ok.glob,I.ok.blt,hC,fun x y c a b=>I.ok.inj x y c (L.sub.get a) (L.sub.get b),fun y hy=>(L.free (L.kinds hy)).1,(fun x c z=>nomatch z),I.ok.hd,I.ok.frames,.inl rfl,fun b hb=>⟨?_,fun x c e=>?_⟩,
      I.bs,Nat.le_trans I.ok.bsz I.sz,fun b o e hb=>?_,fun b hb z=>?_,I.stack,I.stkFree⟩,
    rfl,I.bare,Un.kept hk,⟨m,hns,fun i y v e1 e2 e3=>?_⟩,fun y c e=>?_,I.hok.fresh hC,fun y c e=>I.freeC y c (L.sub.get e),fun p hp=>absurd (show p∈([]:List (Addr × Obj)) from hp) (by simp),I.hok.kept hk,?_⟩
  · exact Nat.ne_of_lt (Nat.lt_of_lt_of_le (hlt b hb) hC)
  · exact (hf b hb).2.2.2.2.1 x c (L.sub.get e)
  · rcases (hf b hb).2.2.2.1 with z | z
    · exact I.ok.noex b o e z
    · exact absurd (Nat.lt_of_lt_of_le (Heap.lt_size e) (Nat.le_trans I.ok.bsz z)) (Nat.lt_irrefl _)
  · rcases List.mem_cons.mp (I.stkSub b z) with q | q
    · exact (hf b hb).2.1 q
    · exact (hf b hb).2.2.1 q
  · have e1':(X.N ++ M)[i]?=some y:=e1
    by_cases hi:i < σ.length
    · rw [List.getElem?_append_left (by rw [blank_len]; exact hi)] at e2
      obtain ⟨e2,hiS⟩:=blank_get S σ e2
      rw [List.getElem?_append_left (by rw [<- I.len]; exact hi)] at e1'
      obtain ⟨m0,hn0,hl⟩:=I.loc
      have hy:scope.names.lookup y=some .free:=by
        rcases e3 with e3 | e3
        · have q:=lookup_relabel scope.names X.env y
          have e3':(relabel scope X.env).names.lookup y=some .local:=e3
          cases z:scope.names.lookup y with
          | none =>
            rw [z] at q
            have q':(relabel scope X.env).names.lookup y=none:=q
            rw [e3'] at q'; cases q'
          | some k =>
            have hk1:k≠.local:=fun w=>L.apart i y e1' hiS (w ▸ z)
            rw [z,Option.map_some] at q
            have q':some NameKind.local=some (if (k == NameKind.free && X.env.scope.kind == .function && X.env.kindOf y == some .cell)=true then NameKind.cell else k):=e3'.symm.trans q
            have q2:=Option.some.inj q'
            by_cases hc:(k == NameKind.free && X.env.scope.kind == .function && X.env.kindOf y == some .cell)=true
            · rw [if_pos hc] at q2; cases q2
            · rw [if_neg hc] at q2; exact absurd q2.symm hk1
        · exact L.kinds e3
      obtain ⟨⟨c,hc⟩,hk2⟩:=L.free hy
      obtain ⟨u,r,l⟩:=hl i y v e1' e2 (.inr hk2)
      refine ⟨u,r,.inr ⟨?_,c,hc,?_⟩⟩
      · have q:=lookup_relabel scope.names X.env y
        rw [hy,Option.map_some] at q
        have q':(relabel scope X.env).names.lookup y=some (if (NameKind.free == NameKind.free && X.env.scope.kind == .function && X.env.kindOf y == some .cell)=true then NameKind.cell else NameKind.free):=q
        by_cases hc:(NameKind.free == NameKind.free && X.env.scope.kind == .function && X.env.kindOf y == some .cell)=true
        · rw [if_pos hc] at q'; exact .inl q'
        · rw [if_neg hc] at q'; exact .inr q'
      · rcases l with ⟨l1,_⟩ | ⟨_,c',e',z⟩
        · rcases hk2 with w | w <;> (rw [l1] at w; cases w)
        · have ec:c'=c:=by
            have w:=L.sub.get hc
            rw [e'] at w
            exact Option.some.inj w
          subst ec
          obtain ⟨o,ho,hd⟩:=z
          exact ⟨o,hk _ _ ho,hd⟩
    · rw [List.getElem?_append_right (by rw [blank_len]; exact Nat.not_lt.mp hi),List.getElem?_replicate] at e2
      split at e2 <;> cases e2
  · obtain ⟨v,o,ho,hd⟩:=I.cell y c (L.sub.get e)
    exact ⟨v,o,hk _ _ ho,hd⟩
  · show (blank S σ ++ List.replicate M.length none).length=(X.N ++ M).length
    rw [List.length_append,List.length_append,List.length_replicate,blank_len,I.len]
def PTs (X:Cx) (ifs:List Expr) (t:TT):Prop :=
  ∀ (pins:List (Addr × Obj)) (s:Shared) (σ:St) (H:Hp) (Q:Bool->Hp->Prop),Inv X pins σ H s->t σ H Q ->
    wpAny (model X.prog X.w) X.A (forIn ifs true fun c r=>if r=true then do let ok <- isTrue c X.env (eval c X.env); pure (ForInStep.yield ok) else pure (ForInStep.yield r)) (TP X pins σ Q) X.xe s
def tYes:TT:=fun _ H Q=>Q true H
theorem pts_nil {X:Cx}:PTs X [] tYes:=fun _ _ _ H _ I h=>wpAny_tests_nil ⟨H,I,h⟩
theorem pts_one {X:Cx} {c:Expr} {t:TT} (h:PT X c t):PTs X [c] t:=fun pins s σ H Q I q=>wpAny_tests_one (h pins s σ H Q I q)
def lcBy (J:It) (g:TG) (tt:TT) (te:TE) (Q:VK) (W:Nat->Nat->St->List V->Hp->Prop):Prop:=∀ i m τ ys H,W i m τ ys H ->
  (J.stop i H/\∀ p,H p=none->Q (.ref p) (upd H p (.lst ys))) \/
  (J.go i H/\∃ N:St->List V->Hp->Prop,(∀ τ' ys' H',N τ' ys' H'->∃ m',m' < m/\W (i + 1) m' τ' ys' H')/\∀ x H',J.yld i H x H'->g x τ H' fun τ2 H2=>tt τ2 H2 fun b H3 =>
    if b=true then te τ2 H3 fun y H4=>ys.length < sizeLine/\N τ2 (ys ++ [y]) H4 else N τ2 ys H3)
def tLC (wi:TI) (g:TG) (tt:TT) (te:TE) (n:Nat):TE:=fun σ H Q=>wi σ H fun J H1=>∃ W,(∃ m,W 0 m (σ ++ List.replicate n none) [] H1)/\lcBy J g tt te Q W
def tLCS (S:List Nat) (wi:TI) (g:TG) (tt:TT) (te:TE) (n:Nat):TE:=fun σ H Q=>wi σ H fun J H1=>∃ W,(∃ m,W 0 m (blank S σ ++ List.replicate n none) [] H1)/\lcBy J g tt te Q W
theorem lc_core {tg elt iter:Expr} {ifs:List Expr} {pos:Pos} {g:TG} {tt:TT} {te:TE} {J:It} {fp:List Addr} {it:Addr} {tn:Nat->Heap->Prop} {Q:VK} {E:Value->Shared->Prop} {R:Value->Addr->Result->Shared->Prop} {Al:Addr->(Value->Shared->Prop)->Prop}
    {W:Nat->Nat->St->List V->Hp->Prop} {m0:Nat} (L:LcOk X scope cl S) (hc:X.calm=true) (I:Inv X pins σ H s) (T:Turn X.prog X.w X.K tg J fp it tn) (st:tn 0 s.heap) (hf:∀ b∈fp,FpOk X pins H b)
    (hg:∀ C s H ex E,PG (cxLC X scope cl M C s H ex E) tg g) (ht:∀ C s H ex E,PTs (cxLC X scope cl M C s H ex E) ifs tt) (he:∀ C E,Al C E->PE (cxLC X scope cl M C s H fp E) elt te)
    (hal:∀ C,s.heap.objs.size < C->Al C (notedBy (model X.prog X.w) X.A (compEnvC scope cl C X.env) (fun e s'=>R (.ref s.heap.objs.size) C (.error e) s')))
    (w0:W 0 m0 (blank S σ ++ List.replicate M.length none) [] H) (turn:lcBy J g tt te Q W)
    (hR:∀ D C s' H' ys m,Inv X pins σ (upd H' D (.lst ys)) s'->FpOk X pins (upd H' D (.lst ys)) C->s'.heap.Ns C m->Q (.ref D) (upd H' D (.lst ys))->R (.ref D) C (.ok .next) s') :
    wpAny (model X.prog X.w) X.A (newList []) (fun acc s₃=>wpAny (model X.prog X.w) X.A (newFunctionEnv scope X.env.globals cl [] X.env.qual none .none (some X.env)) (fun cenv s₄ =>
      codeAny (model X.prog X.w) X.A (.compStart (.ListComp elt [⟨tg,iter,ifs,0⟩] scope pos) 0 (.ref it) acc { cenv with scope:=relabel scope X.env }) (R acc cenv.locals) s₄) E s₃) E s:=by
  refine wpAny_newObj_type (wpAny_newFunctionEnv L.nocell (by intro y hy; simp at hy) (fun h₁ hns₁ hsb₁=>?_) L.kind)
  dsimp only at hns₁ hsb₁ ⊢
  generalize hG:s.heap.push { cls:=.type "list",dict:=none,data:=.seq ([]:List Value).toArray }=G at hns₁ hsb₁ ⊢
  have hC:G.objs.size=s.heap.objs.size + 1:=by rw [<- hG,Heap.size_push]
  have hDC:s.heap.objs.size≠G.objs.size:=by rw [hC]; exact Nat.ne_of_lt (Nat.lt_succ_self _)
  have hCle:s.heap.objs.size<=G.objs.size:=by rw [hC]; exact Nat.le_succ _
  have old:∀ b o,s.heap.get? b=some o->h₁.get? b=some o:=fun b o e =>
    hsb₁.extBut b o (by rw [hC]; exact Nat.ne_of_lt (Nat.lt_succ_of_lt (Heap.lt_size e))) (Heap.get?_push_of_some _ (hG ▸ Heap.get?_push_of_some _ e))
  have hacc:h₁.get? s.heap.objs.size=some { cls:=.type "list",data:=.seq ([]:List Value).toArray }:=hsb₁.extBut _ _ hDC (Heap.get?_push_of_some _ (hG ▸ Heap.get?_push_size _ rfl))
  have fpo:∀ b∈fp,b < s.heap.objs.size:=fun b hb=>let ⟨o,e,_⟩:=T.obj 0 _ st b hb; Heap.lt_size e
  have st1:tn 0 h₁:=T.keep 0 _ _ st fun b _ o e=>old b o e
  have nofs:s.heap.objs.size ∉ frs X.stack:=fun z=>by
    rcases List.mem_cons.mp (I.stkSub _ z) with q | q
    · exact absurd (q ▸ I.lt) (Nat.lt_irrefl _)
    · exact I.nofs (Nat.le_refl _) q
  have nocl:∀ y c,cl.lookup y=some c->c≠s.heap.objs.size:=fun y c e z=>by
    obtain ⟨v,o,ho,_⟩:=I.cell y c (L.sub.get e)
    exact absurd (z ▸ Heap.lt_size ho) (Nat.lt_irrefl _)
  have loop:∀ s₃:Shared,s₃={ s with heap:=h₁,toks:=s.toks + ([]:List (Str × Value)).length } ->
      codeAny (model X.prog X.w) X.A (.compLoop (.ListComp elt [⟨tg,iter,ifs,0⟩] scope pos) 0 (.ref it) (.ref s.heap.objs.size) (compEnvC scope cl G.objs.size X.env)) (R (.ref s.heap.objs.size) G.objs.size) s₃:=by
    rintro s₃ rfl
    have hAl:=hal G.objs.size (by rw [hC]; exact Nat.lt_succ_self _)
    generalize hE:notedBy (model X.prog X.w) X.A (compEnvC scope cl G.objs.size X.env) (fun e s'=>R (.ref s.heap.objs.size) G.objs.size (.error e) s')=E' at hAl ⊢
    have IY:Inv (cxLC X scope cl M G.objs.size s H fp E') [] (blank S σ ++ List.replicate M.length none) H { s with heap:=h₁,toks:=s.toks + ([]:List (Str × Value)).length }:=lc_start I L hf fpo old hCle hns₁
    refine codeAny_loop rfl (fun n s'=>∃ (i:Nat) (τ:St) (H':Hp) (ys:List V) (its:List Value) (k:Nat),Inv (cxLC X scope cl M G.objs.size s H fp E') [] τ H' s'/\tn i s'.heap/\(∀ b∈fp,H' b=none) /\
      s'.heap.get? s.heap.objs.size=some { cls:=.type "list",data:=.seq its.toArray k }/\H' s.heap.objs.size=none/\Vals ys its/\ys.length<=sizeLine/\W i n τ ys H') (fun n s' hI=>?_) m0
      ⟨0,_,H,[],[],_,IY,st1,fun b hb=>(hf b hb).1,hacc,I.hok.fresh (Nat.le_refl _),.nil,Nat.zero_le _,w0⟩
    obtain ⟨i,τ,H1,ys,its,k,I1,st1,fr1,eD,fD,rv,hz,w1⟩:=hI
    show wpAny _ X.A ((compTurn (.ListComp elt [⟨tg,iter,ifs,0⟩] scope pos) 0 (.ref it) (.ref s.heap.objs.size) (compEnvC scope cl G.objs.size X.env)).onRaise (fun x=>do noteFrame x (compEnvC scope cl G.objs.size X.env); theTreesLotGoes x)) _ _ s'
    refine wpAny_noted ?_
    rw [hE,compTurn_list]
    have I1':Inv (cxLC X scope cl M G.objs.size s H fp E') [(s.heap.objs.size,{ cls:=.type "list",data:=.seq its.toArray k })] τ H1 s':=I1.pins_of fun p hp=>by
      have e:p=(s.heap.objs.size,{ cls:=.type "list",data:=.seq its.toArray k }):=by simpa using hp
      subst e
      exact ⟨eD,fD,hDC,nofs,(fun v z=>nomatch z)⟩
    have stat:∀ {H':Hp},(∀ b∈fp,H' b=none)->∀ b∈fp,FpOk (cxLC X scope cl M G.objs.size s H fp E') [(s.heap.objs.size,{ cls:=.type "list",data:=.seq its.toArray k })] H' b:=fun hn b hb=>by
      refine ⟨hn b hb,?_,?_,.inl hb,fun x c e=>(hf b hb).2.2.2.2.1 x c (L.sub.get e),fun p hp z=>?_⟩
      · exact Nat.ne_of_lt (Nat.lt_of_lt_of_le (fpo b hb) hCle)
      · intro z
        rcases List.mem_cons.mp (I.stkSub b z) with q | q
        · exact (hf b hb).2.1 q
        · exact (hf b hb).2.2.1 q
      · have e:p=(s.heap.objs.size,{ cls:=.type "list",data:=.seq its.toArray k }):=by
          have hp':p∈[(s.heap.objs.size,({ cls:=.type "list",data:=.seq its.toArray k }:Obj))]:=hp
          simpa using hp'
        subst e
        exact absurd (z ▸ fpo b hb) (Nat.lt_irrefl _)
    refine wpAny_bind (wpAny_standAt (wpAny_bind ?_))
    rcases turn i n τ ys H1 w1 with ⟨stop,q⟩ | ⟨go,N,hN,step⟩
    · refine thn (T.done (cxLC X scope cl M G.objs.size s H fp E') rfl rfl rfl hc i _ s' τ H1 E' I1' (stat fr1) st1 stop) fun r s4 ⟨hr,I4⟩=>?_
      subst hr
      refine wpAny_pure ?_
      obtain ⟨eD4,_,_⟩:=I4.pin (s.heap.objs.size,{ cls:=.type "list",data:=.seq its.toArray k }) (List.mem_append_right _ List.mem_cons_self)
      have base4:Un (frs X.stack) fp H H1 s.heap s4.heap:=I4.base
      have un:Un (frs X.stack) fp H (upd H1 s.heap.objs.size (.lst ys)) s.heap s4.heap:=⟨base4.keep,base4.slot,fun b o e n hx=>by rw [upd_ne (Nat.ne_of_lt (Heap.lt_size e))]; exact base4.free b o e n hx,base4.there,
        fun b xs e=>by rw [upd_ne (ne_of_none (base4.tups b xs e) fD)]; exact base4.tups b xs e,fun b o u e=>by rw [upd_ne (ne_of_none (base4.frzs b o u e) fD)]; exact base4.frzs b o u e,
        fun b ps e=>by
          obtain ⟨more,w⟩:=base4.tbls b ps e
          exact ⟨more,by rw [upd_ne (ne_of_none w fD)]; exact w⟩⟩
      have hok:HOk X.prog X.w (upd H1 s.heap.objs.size (.lst ys)) s4.heap:=fun b u e=>by
        by_cases hb:b=s.heap.objs.size
        · subst hb
          rw [upd_same] at e
          cases e
          exact ⟨hz,its,k,rv,eD4⟩
        · rw [upd_ne hb] at e
          exact (I4.hok b u e).stay (fun c v _ q=>q) (fun c q=>by rw [upd_ne (ne_of_none q fD)]; exact q) fun c xs q=>by rw [upd_ne (ne_of_none q fD)]; exact q
      have IX:Inv X pins σ (upd H1 s.heap.objs.size (.lst ys)) s4:=I.call' I4.os un hok I4.bare fun b hb=>⟨(hf b hb).2.2.2.1,(hf b hb).2.1,(hf b hb).2.2.2.2.1,(hf b hb).2.2.2.2.2⟩
      have fC:H1 G.objs.size=none:=I4.free
      obtain ⟨m4,n4,_⟩:=I4.loc
      exact hR _ _ s4 H1 ys m4 IX (I.fpOk hCle (by rw [upd_ne (Ne.symm hDC)]; exact fC)) n4 (q _ fD)
    · refine thn (T.item (cxLC X scope cl M G.objs.size s H fp E') rfl rfl rfl hc i _ s' τ H1 E' I1' (stat fr1) st1 go) fun r s4 ⟨u,hr,h4⟩=>?_
      subst hr
      refine wpAny_bind (thn h4 fun _ s5 ⟨x,H5,I5,r5,y5,st5,fr5⟩=>?_)
      have I5':=I5.pinned (stat fr5) (T.obj _ _ st5)
      -- what holds behind a turn
      have kept:∀ {τ6:St} {H6:Hp} {s6:Shared},Inv (cxLC X scope cl M G.objs.size s H fp E') ([(s.heap.objs.size,{ cls:=.type "list",data:=.seq its.toArray k })] ++ pinsAt fp s5.heap) τ6 H6 s6 ->
          Inv (cxLC X scope cl M G.objs.size s H fp E') [] τ6 H6 s6/\tn (i + 1) s6.heap/\(∀ b∈fp,H6 b=none)/\s6.heap.get? s.heap.objs.size=some { cls:=.type "list",data:=.seq its.toArray k }/\H6 s.heap.objs.size=none:=fun {τ6 H6 s6} I6=>by
        have pin:∀ b∈fp,∀ o,s5.heap.get? b=some o->s6.heap.get? b=some o/\H6 b=none:=fun b hb o e =>
          let w:=I6.pin (b,o) (List.mem_append_right _ (List.mem_append_right _ (mem_pinsAt hb e)))
          ⟨w.1,w.2.1⟩
        have pD:=I6.pin (s.heap.objs.size,{ cls:=.type "list",data:=.seq its.toArray k }) (List.mem_append_right _ (List.mem_append_left _ List.mem_cons_self))
        refine ⟨I6.pins_of (fun p hp=>nomatch hp),T.keep _ _ _ st5 fun b hb o e=>(pin b hb o e).1,fun b hb=>?_,pD.1,pD.2.1⟩
        obtain ⟨o,e,_⟩:=T.obj _ _ st5 b hb
        exact (pin b hb o e).2
      refine wpAny_bind (thn (hg _ _ _ _ _ _ s5 τ H5 x u _ I5' r5 (step x H5 y5)) fun _ s6 ⟨σ6,H6,I6,q6⟩=>?_)
      refine wpAny_bind (thn (ht _ _ _ _ _ _ s6 σ6 H6 _ I6 q6) fun ok s7 ⟨H7,I7,q7⟩=>?_)
      cases ok with
      | false =>
        have q7':N σ6 ys H7:=by simpa using q7
        obtain ⟨m',hm,w7⟩:=hN _ _ _ q7'
        obtain ⟨K1,K2,K3,K4,K5⟩:=kept I7
        exact wpAny_pure ⟨rfl,m',hm,i + 1,σ6,H7,ys,its,k,K1,K2,K3,K4,K5,rv,hz,w7⟩
      | true =>
        have q7':te σ6 H7 fun y H4=>ys.length < sizeLine/\N σ6 (ys ++ [y]) H4:=by simpa using q7
        refine wpAny_bind (wpAny_bind (thn (he _ _ hAl _ s7 σ6 H7 _ I7 q7') fun y s8 ⟨v8,H8,I8,r8,hz8,n8⟩=>?_))
        obtain ⟨m',hm,w8⟩:=hN _ _ _ n8
        obtain ⟨K1,K2,K3,K4,K5⟩:=kept I8
        have hl:=rv.length
        refine wpAny_bind (wpAny_list_append_plain (hsz:=by rw [List.size_toArray]; lia) ⟨k,K4⟩ fun h9 hl9 hs9=>wpAny_pure (wpAny_pure ⟨rfl,m',hm,?_⟩))
        obtain ⟨k9,e9⟩:=hl9
        have I9:Inv (cxLC X scope cl M G.objs.size s H fp E') [] σ6 H8 { s8 with heap:=h9 }:=K1.turned (t':=s8.toks) (it:=s.heap.objs.size) (fun b o hb e=>(hs9.2 b hb).trans e) K5 hDC (.inr (Nat.le_refl _))
          (fun y c e=>nocl y c e) fun p hp=>nomatch hp
        refine ⟨i + 1,σ6,H8,ys ++ [v8],its ++ [y],k9,I9,T.keep _ _ _ K2 fun b hb o e=>(hs9.2 b (Nat.ne_of_lt (fpo b hb))).trans e,K3,?_,K5,rv.append (.cons r8 .nil),?_,w8⟩
        · rw [e9]
          simp
        · rw [List.length_append,List.length_singleton]
          lia
  exact codeAny_compStart_list (loop _ rfl) (T.self X.A 0 _ _ _ st1 (loop _ rfl))
variable {tg elt iter:Expr} {ifs:List Expr} {pos:Pos} {wi:TI} {g:TG} {tt:TT} {te:TE}
theorem pe_lc (L:LcOk X scope cl S) (hc:X.calm=true) (hi:PI X tg iter wi) (hg:∀ C s H ex E,PG (cxLC X scope cl M C s H ex E) tg g) (ht:∀ C s H ex E,PTs (cxLC X scope cl M C s H ex E) ifs tt) (he:∀ C s H ex E,PE (cxLC X scope cl M C s H ex E) elt te)
    (hs:∀ x,foldedSetIterable iter X.env x=pure x:=by intro _; rfl):PE X (.ListComp elt [⟨tg,iter,ifs,0⟩] scope pos) (tLCS S wi g tt te M.length):=by
  intro pins s σ H Q I h
  rw [eval_ListComp]
  refine wpAny_comprehension_free (use:=none) rfl hs L.clos L.kind L.locs (thn (hi pins s σ H _ I h) fun v s1 h1=>thn h1 fun itv s2 h2=>?_)
  obtain ⟨it,fp,tn,J,H2,rfl,I2,T,st2,f2,W,⟨m0,w0⟩,turn⟩:=h2
  refine lc_core (R:=fun acc C=>compPost (model X.prog X.w) X.A X.xe none (EP X pins σ Q) acc C) (Al:=fun _ _=>True) L hc I2 T st2 f2 hg ht (fun C E _=>he C _ _ _ E) (fun _ _=>trivial) w0 turn ?_
  intro D C s' H' ys m IX fC ns q
  exact ⟨m,ns,fun h' sb=>⟨.ref D,_,IX.turned (t':=s'.toks) (fun b o hb e=>(sb.2 b hb).trans e) fC.1 fC.2.1 fC.2.2.2.1 fC.2.2.2.2.1 fC.2.2.2.2.2,rfl,q⟩⟩
theorem ps_set_lc {i:Nat} {y:Str} {py spos:Pos} (hN:X.N.Nodup) (hi':X.N[i]?=some y) (hy:Loc X.env.scope y) (L:LcOk X scope cl S) (hc:X.calm=true) (hi:PI X tg iter wi) (hg:∀ C s H ex E,PG (cxLC X scope cl M C s H ex E) tg g)
    (ht:∀ C s H ex E,PTs (cxLC X scope cl M C s H ex E) ifs tt) (he:∀ C s H ex E,PE (cxLC X scope cl M C s H ex E) elt te) (hs:∀ x,foldedSetIterable iter X.env x=pure x:=by intro _; rfl)
    (hsw:swapsWith (.ListComp elt [⟨tg,iter,ifs,0⟩] scope pos) (some (.Name y py)) spos.line X.env=pure true:=by rfl)
    (hf:X.fn y=true\/X.env.scope.names.lookup y=some .local:=by first | exact .inl rfl | exact .inr rfl | assumption) :
    PS X (.Assign [.Name y py] (.ListComp elt [⟨tg,iter,ifs,0⟩] scope pos) spos) (fun D σ H=>tLCS S wi g tt te M.length σ H fun v H1=>D.nx (σ.set i (some v)) H1):=by
  intro pins s σ H D I h
  rw [exec_Assign_Name_used _ _ _ _ hsw]
  refine wpAny_bind (wpAny_standAt (wpAny_bind ?_))
  show wpAny _ X.A (do let _ <- comprehension (.ListComp elt [⟨tg,iter,ifs,0⟩] scope pos) scope X.env _ (newList []) false (eval iter X.env) (some (assign (.Name y py) X.env))) _ _ s
  refine wpAny_bind (wpAny_mono (wpAny_comprehension_free (use:=some (assign (.Name y py) X.env)) (Q:=fun _ s'=>SP X pins D .next s') rfl hs L.clos L.kind L.locs
    (thn (hi pins s σ H _ I h) fun v s1 h1=>thn h1 fun itv s2 h2=>?_)) (fun _ s' hq=>wpAny_pure (wpAny_pure hq)) fun _ _ e=>e)
  obtain ⟨it,fp,tn,J,H2,rfl,I2,T,st2,f2,W,⟨m0,w0⟩,turn⟩:=h2
  refine lc_core (R:=fun acc C=>compPost (model X.prog X.w) X.A X.xe (some (assign (.Name y py) X.env)) (fun _ s'=>SP X pins D .next s') acc C) (Al:=fun _ _=>True) L hc I2 T st2 f2 hg ht (fun C E _=>he C _ _ _ E) (fun _ _=>trivial) w0 turn ?_
  intro D' C s' H' ys m IX fC ns q
  show wpAny _ X.A (assign (.Name y py) X.env (.ref D')) _ _ s'
  refine wpAny_assign_Name (store_ok2 IX hN hi' hy (v:=.ref D') rfl (fun s'' I'' ⟨a,sb,ha⟩=>?_) hf)
  refine ⟨m,ns.sameBut sb ?_,fun h' sb'=>⟨_,_,I''.turned (t':=s''.toks) (fun b o hb e=>(sb'.2 b hb).trans e) fC.1 fC.2.1 fC.2.2.2.1 fC.2.2.2.2.1 fC.2.2.2.2.2,q⟩⟩
  rcases ha with ha | ha
  · rw [ha]; exact fC.2.1
  · exact Ne.symm (fC.2.2.2.2.1 y a ha)
end
def clOf (scope:Scope) (env:Env):List (Str × Addr):=scope.names.foldl (fun cs p=>if p.2 == .free then (match env.cells.lookup p.1 with | some a=>(p.1,a) :: cs | none=>cs) else cs) []
theorem clOf_in (env:Env):∀ (names:List (Str × NameKind)) (acc:List (Str × Addr)),AllIn env acc->AllIn env (names.foldl (fun cs p=>if p.2 == .free then (match env.cells.lookup p.1 with | some a=>(p.1,a) :: cs | none=>cs) else cs) acc)
  | [],_,h=>h
  | (n,k) :: r,acc,h=>by
    rw [List.foldl_cons]
    refine clOf_in env r _ ?_
    by_cases hk:(k == NameKind.free)=true
    · rw [if_pos hk]
      cases e:env.cells.lookup n with
      | none=>exact h
      | some a=>exact ⟨e,h⟩
    · rw [if_neg hk]
      exact h
section
variable {X:Cx} {scope:Scope} {M:List Str} {tg elt iter:Expr} {ifs:List Expr} {pos:Pos} {wi:TI} {g:TG} {tt:TT} {te:TE}
theorem lcOkS {S:List Nat} (h1:closureFor scope X.env=pure (clOf scope X.env)) (h2:scope.kind=.function) (h3:scope.names.all (fun y=>y.2 != .cell)=true) (h4:scope.names.all (fun y=>y.2 != .local || scope.names.lookup y.1 == some .local)=true)
    (h5:X.N.zipIdx.all (fun y=>S.contains y.2 || scope.names.lookup y.1 != some .local)=true) (h6:scope.names.all (fun p=>p.2 != .free || (((clOf scope X.env).lookup p.1).isSome && (X.env.kindOf p.1 == some .cell || X.env.kindOf p.1 == some .free)))=true) :
    LcOk X scope (clOf scope X.env) S:=⟨h1,h2,h3,h4,h5,clOf_in X.env scope.names [] trivial,h6⟩
theorem lcOk (h1:closureFor scope X.env=pure (clOf scope X.env)) (h2:scope.kind=.function) (h3:scope.names.all (fun y=>y.2 != .cell)=true) (h4:scope.names.all (fun y=>y.2 != .local || scope.names.lookup y.1 == some .local)=true)
    (h5:X.N.all (fun y=>scope.names.lookup y != some .local)=true) (h6:scope.names.all (fun p=>p.2 != .free || (((clOf scope X.env).lookup p.1).isSome && (X.env.kindOf p.1 == some .cell || X.env.kindOf p.1 == some .free)))=true) :
    LcOk X scope (clOf scope X.env) []:=lcOkS h1 h2 h3 h4 (List.all_eq_true.mpr fun y hy=>by
      have hm:y.1∈X.N:=List.mem_of_getElem? (List.mem_zipIdx_iff_getElem?.mp hy)
      rw [List.all_eq_true.mp h5 y.1 hm,Bool.or_true]) h6
theorem pe_comp (M:List Str) (hc:X.calm=true) (hi:PI X tg iter wi) (hg:∀ C s H ex E,PG (cxLC X scope (clOf scope X.env) M C s H ex E) tg g) (ht:∀ C s H ex E,PTs (cxLC X scope (clOf scope X.env) M C s H ex E) ifs tt)
    (he:∀ C s H ex E,PE (cxLC X scope (clOf scope X.env) M C s H ex E) elt te) (hs:∀ x,foldedSetIterable iter X.env x=pure x:=by intro _; rfl)
    (h1:closureFor scope X.env=pure (clOf scope X.env):=by with_unfolding_all rfl) (h2:scope.kind=.function:=by rfl) (h3:scope.names.all (fun y=>y.2 != .cell)=true:=by rfl) (h4:scope.names.all (fun y=>y.2 != .local || scope.names.lookup y.1 == some .local)=true:=by rfl)
    (h5:X.N.all (fun y=>scope.names.lookup y != some .local)=true:=by rfl) (h6:scope.names.all (fun p=>p.2 != .free || (((clOf scope X.env).lookup p.1).isSome && (X.env.kindOf p.1 == some .cell || X.env.kindOf p.1 == some .free)))=true:=by rfl) :
    PE X (.ListComp elt [⟨tg,iter,ifs,0⟩] scope pos) (tLC wi g tt te M.length):=pe_lc (lcOk h1 h2 h3 h4 h5 h6) hc hi hg ht he hs
theorem ps_comp (M:List Str) {i:Nat} {y:Str} {py spos:Pos} (hN:X.N.Nodup) (hi':X.N[i]?=some y) (hy:Loc X.env.scope y) (hc:X.calm=true) (hi:PI X tg iter wi) (hg:∀ C s H ex E,PG (cxLC X scope (clOf scope X.env) M C s H ex E) tg g)
    (ht:∀ C s H ex E,PTs (cxLC X scope (clOf scope X.env) M C s H ex E) ifs tt) (he:∀ C s H ex E,PE (cxLC X scope (clOf scope X.env) M C s H ex E) elt te) (hs:∀ x,foldedSetIterable iter X.env x=pure x:=by intro _; rfl)
    (hsw:swapsWith (.ListComp elt [⟨tg,iter,ifs,0⟩] scope pos) (some (.Name y py)) spos.line X.env=pure true:=by rfl)
    (hf:X.fn y=true\/X.env.scope.names.lookup y=some .local:=by first | exact .inl rfl | exact .inr rfl | assumption)
    (h1:closureFor scope X.env=pure (clOf scope X.env):=by with_unfolding_all rfl) (h2:scope.kind=.function:=by rfl) (h3:scope.names.all (fun y=>y.2 != .cell)=true:=by rfl) (h4:scope.names.all (fun y=>y.2 != .local || scope.names.lookup y.1 == some .local)=true:=by rfl)
    (h5:X.N.all (fun y=>scope.names.lookup y != some .local)=true:=by rfl) (h6:scope.names.all (fun p=>p.2 != .free || (((clOf scope X.env).lookup p.1).isSome && (X.env.kindOf p.1 == some .cell || X.env.kindOf p.1 == some .free)))=true:=by rfl) :
    PS X (.Assign [.Name y py] (.ListComp elt [⟨tg,iter,ifs,0⟩] scope pos) spos) (fun D σ H=>tLC wi g tt te M.length σ H fun v H1=>D.nx (σ.set i (some v)) H1):=ps_set_lc hN hi' hy (lcOk h1 h2 h3 h4 h5 h6) hc hi hg ht he hs hsw hf
theorem pe_compS (S:List Nat) (M:List Str) (hc:X.calm=true) (hi:PI X tg iter wi) (hg:∀ C s H ex E,PG (cxLC X scope (clOf scope X.env) M C s H ex E) tg g) (ht:∀ C s H ex E,PTs (cxLC X scope (clOf scope X.env) M C s H ex E) ifs tt)
    (he:∀ C s H ex E,PE (cxLC X scope (clOf scope X.env) M C s H ex E) elt te) (hs:∀ x,foldedSetIterable iter X.env x=pure x:=by intro _; rfl)
    (h1:closureFor scope X.env=pure (clOf scope X.env):=by with_unfolding_all rfl) (h2:scope.kind=.function:=by rfl) (h3:scope.names.all (fun y=>y.2 != .cell)=true:=by rfl) (h4:scope.names.all (fun y=>y.2 != .local || scope.names.lookup y.1 == some .local)=true:=by rfl)
    (h5:X.N.zipIdx.all (fun y=>S.contains y.2 || scope.names.lookup y.1 != some .local)=true:=by rfl) (h6:scope.names.all (fun p=>p.2 != .free || (((clOf scope X.env).lookup p.1).isSome && (X.env.kindOf p.1 == some .cell || X.env.kindOf p.1 == some .free)))=true:=by rfl) :
    PE X (.ListComp elt [⟨tg,iter,ifs,0⟩] scope pos) (tLCS S wi g tt te M.length):=pe_lc (lcOkS h1 h2 h3 h4 h5 h6) hc hi hg ht he hs
end
section
variable {g:TG} {tt:TT} {te:TE} {Q:VK} {σ:St} {H:Hp}
theorem lc_list {K:PySem.W.Frag} {a:Addr} {xs:List V} (Pv:Nat->St->List V->Hp->Prop) (h0:Pv 0 σ [] H) (hl:∀ i τ ys H,i<=xs.length->Pv i τ ys H->SqL K H a xs)
    (hs:∀ i x τ ys H,xs[i]?=some x->Pv i τ ys H->g x τ H fun τ2 H2=>tt τ2 H2 fun b H3=>if b=true then te τ2 H3 fun y H4=>ys.length < sizeLine/\Pv (i + 1) τ2 (ys ++ [y]) H4 else Pv (i + 1) τ2 ys H3)
    (hd:∀ τ ys H,Pv xs.length τ ys H->∀ p,H p=none->Q (.ref p) (upd H p (.lst ys))):∃ W,(∃ m,W 0 m σ [] H)/\lcBy (Itl K a) g tt te Q W:=by
  refine ⟨fun i m τ ys H=>m=xs.length - i/\i<=xs.length/\Pv i τ ys H,⟨xs.length,by simp,Nat.zero_le _,h0⟩,?_⟩
  rintro i m τ ys H ⟨rfl,hi,p⟩
  have q:=hl i τ ys H hi p
  by_cases hlt:i < xs.length
  · refine .inr ⟨⟨xs,xs[i],q,by simp [hlt]⟩,Pv (i + 1),fun τ' ys' H' p'=>⟨xs.length - (i + 1),by lia,rfl,hlt,p'⟩,fun x H' y=>?_⟩
    obtain ⟨e,y⟩:=y
    subst e
    exact hs i x τ ys _ (y xs q) p
  · have e:i=xs.length:=by lia
    subst e
    exact .inl ⟨⟨xs,q,Nat.le_refl _⟩,hd τ ys H p⟩
theorem lc_range {lo:Int} {n:Nat} (Pv:Nat->St->List V->Hp->Prop) (h0:Pv 0 σ [] H)
    (hs:∀ i τ ys H,i < n->Pv i τ ys H->g (.int (lo + i)) τ H fun τ2 H2=>tt τ2 H2 fun b H3=>if b=true then te τ2 H3 fun y H4=>ys.length < sizeLine/\Pv (i + 1) τ2 (ys ++ [y]) H4 else Pv (i + 1) τ2 ys H3)
    (hd:∀ τ ys H,Pv n τ ys H->∀ p,H p=none->Q (.ref p) (upd H p (.lst ys))):∃ W,(∃ m,W 0 m σ [] H)/\lcBy (Itr lo n) g tt te Q W:=by
  refine ⟨fun i m τ ys H=>m=n - i/\i<=n/\Pv i τ ys H,⟨n,by simp,Nat.zero_le _,h0⟩,?_⟩
  rintro i m τ ys H ⟨rfl,hi,p⟩
  by_cases hlt:i < n
  · refine .inr ⟨hlt,Pv (i + 1),fun τ' ys' H' p'=>⟨n - (i + 1),by lia,rfl,hlt,p'⟩,fun x H' y=>?_⟩
    obtain ⟨e,y⟩:=y
    subst e y
    exact hs i τ ys _ hlt p
  · have e:i=n:=by lia
    subst e
    exact .inl ⟨Nat.le_refl _,hd τ ys H p⟩
end
end L2
namespace L2
open PySem PySem.Spec PyProof.Rows Builtin Builtin.Str
section
variable {X:Cx} {tg:Expr}
theorem op_mul_str:OpR X (binaryOp .Mult) (fun x y H Q=>∃ z n,x=.str z/\y=.int n/\MulOk z n/\Q (.str (Txt.mul z n)) H):=by
  intro pins s σ H x y v u Q I rx ry h
  obtain ⟨z,n,rfl,rfl,ok,q⟩:=h
  obtain ⟨t,rfl⟩:=rx
  obtain ⟨t',rfl⟩:=ry
  exact SB.mul ok fun t'' k=>⟨.str (Txt.mul z n),H,I.tok k,⟨t'',rfl⟩,q⟩
theorem range_all (bs:List Bool):(List.range bs.length).all (fun i=>bs.getD i false)=bs.all id:=by
  induction bs with
  | nil=>rfl
  | cons b r ih =>
    rw [List.length_cons,List.range_succ_eq_map,List.all_cons,List.all_map,List.all_cons]
    have e:(List.range r.length).all ((fun i=>(b :: r).getD i false) ∘ Nat.succ)=(List.range r.length).all fun i=>r.getD i false:=by
      congr 1
    rw [e,ih]
    rfl
end
end L2
namespace L2
open PySem PySem.Spec PyProof.Rows
def isStar:Expr->Bool
  | .Starred ..=>true
  | _=>false
theorem star_cons {e:Expr} {es:List Expr} {env:Env} (h:isStar e=false):starEach (e :: es) env=(false,eval e env) :: starEach es env:=by
  cases e <;> first
    | rfl
    | exact absurd (show true=false from h) (by decide)
theorem star_any {env:Env} {pos:Pos}:∀ {es:List Expr},es.all (fun e=>!isStar e)=true->(backTo pos (starEach es env)).any (·.1)=false
  | [],_=>rfl
  | e :: es,h=>by
    rw [List.all_cons,Bool.and_eq_true] at h
    have h1:isStar e=false:=by simpa using h.1
    rw [star_cons h1]
    show (false || (backTo pos (starEach es env)).any (·.1))=false
    rw [star_any h.2]
    rfl
section
variable {X:Cx} {CX:CXT} {k:Nat} {f C:Addr} {fd:FuncData} {ps:List Str} {sp:Sp} {dvs:List V} {ds:List Value} {E:XK} {x m:Str} {p pos apos:Pos} {e o:Expr} {es:List Expr} {te ta:TE} {t:TA} {id T:String} {r:List V->Hp->VK->Prop}
theorem pa_c (ha:PE X e te) (hr:PA X es t) (h:isStar e=false:=by rfl):PA X (e :: es) (tCons te t):=pa_cons ha hr (star_cons h)
theorem pe_fn (F:FnOk X.prog X.w X.K X.mg X.base CX k f fd ps sp) (hr:Room k X.A) (hg:Gl X x) (hm:X.mg x=some (.ref f)) (hk:PySem.W.keepIn X.K (.ref f)=true) (hb:Binds X.K fd ps ds) (hd:Vals dvs ds) (hx:Passes CX X E)
    (ha:PA X (e :: es) t) (hdb:(x == ("__debug__":Str))=false:=by decide) (h1:isStar e=false:=by rfl) (h2:es.all (fun e=>!isStar e)=true:=by rfl) :
    PE X (.Call (.Name x p) (e :: es) [] pos) (tCall sp dvs E t):=pe_call F hr hg hm hk hb hd hx ha hdb (star_cons h1) (star_any h2)
theorem pe_fnB (hc:CallR X (.builtin id) r) (hg:Gl X x) (hm:X.mg x=none) (hv:bootBuiltins x=some (.builtin id)) (ha:PA X (e :: es) t) (hn:x≠"__name__":=by decide) (hdb:(x == ("__debug__":Str))=false:=by decide)
    (h1:isStar e=false:=by rfl) (h2:es.all (fun e=>!isStar e)=true:=by rfl):PE X (.Call (.Name x p) (e :: es) [] pos) (tCB r t):=pe_callB hc hg hm hv ha hn hdb (star_cons h1) (star_any h2)
theorem pe_fnTy (hc:CallR X (.type T) r) (hg:Gl X x) (hm:X.mg x=none) (hv:bootBuiltins x=some (.type T)) (ha:PA X (e :: es) t) (hn:x≠"__name__":=by decide) (hdb:(x == ("__debug__":Str))=false:=by decide)
    (h1:isStar e=false:=by rfl) (h2:es.all (fun e=>!isStar e)=true:=by rfl):PE X (.Call (.Name x p) (e :: es) [] pos) (tCB r t):=pe_callTy hc hg hm hv ha hn hdb (star_cons h1) (star_any h2)
end
end L2
namespace L2
open PySem PySem.Spec PyProof.Rows
structure jE (X:Cx) (e:Expr) (t:TE):Prop where
  out:PE X e t
structure jT (X:Cx) (e:Expr) (t:TT):Prop where
  out:PT X e t
structure jW (X:Cx) (e:Expr) (t:TT):Prop where
  out:PW X e t
structure jA (X:Cx) (es:List Expr) (t:TA):Prop where
  out:PA X es t
structure jS (X:Cx) (st:Stmt) (t:TS):Prop where
  out:PS X st t
structure jSs (X:Cx) (sts:List Stmt) (t:TS):Prop where
  out:PSs X sts t
structure jG (X:Cx) (tg:Expr) (t:TG):Prop where
  out:PG X tg t
structure jGs (X:Cx) (tg:List Expr) (t:TGs):Prop where
  out:PGs X tg t
structure jI (X:Cx) (tg iter:Expr) (t:TI):Prop where
  out:PI X tg iter t
structure jO (X:Cx) (e:Option Expr) (t:TO):Prop where
  out:PO X e t
structure jTs (X:Cx) (ifs:List Expr) (t:TT):Prop where
  out:PTs X ifs t
structure jOp (X:Cx) (f:Value->Value->Sem Value) (r:R2):Prop where
  out:OpR X f r
structure jIx (X:Cx) (r:R2):Prop where
  out:IxR X r
structure jSl (X:Cx) (r:V->Option Int->Option Int->Hp->VK->Prop):Prop where
  out:SlR X r
structure jMt (X:Cx) (id:String) (r:V->List V->Hp->VK->Prop):Prop where
  out:MtR X id r
structure jCa (X:Cx) (f:Value) (r:List V->Hp->VK->Prop):Prop where
  out:CallR X f r
section
variable {X:Cx} {a b c e o:Expr} {es rest:List Expr} {ta tb tc te to:TE} {t u:TA} {tA tB':TT} {pos p p2 apos cpos px:Pos} {x y m:Str} {op op':CmpOp} {bop:Operator} {r r':R2}
theorem jv (i:Nat) (hN:X.N[i]?=some x:=by rfl) (hv:Vis X.env.scope x:=by first | exact Or.inl rfl | exact Or.inr (Or.inl rfl) | exact Or.inr (Or.inr rfl)) (hd:(x == ("__debug__":Str))=false:=by decide)
    (hcd:(x == ("__classdict__":Str))=false:=by decide):jE X (.Name x pos) (tVar i):=⟨pv i hN hv hd hcd⟩
theorem je_int {i j}:jE X (.Constant (.int i) j pos) (tC (.int i)):=⟨pe_int⟩
theorem je_bl {b j}:jE X (.Constant (.bool b) j pos) (tC (.bl b)):=⟨pe_bl⟩
theorem je_non {j}:jE X (.Constant .none j pos) (tC .non):=⟨pe_non⟩
theorem je_str {x j}:jE X (.Constant (.str x) j pos) (tC (.str x)):=⟨pe_str⟩
theorem je_glob {v:V} {w:Value} (hg:Gl X x) (hm:X.mg x=some w) (r:RelV v w) (hd:(x == ("__debug__":Str))=false:=by decide):jE X (.Name x pos) (tC v):=⟨pe_glob hg hm r hd⟩
theorem je_bltn {v:V} {w:Value} (hg:Gl X x) (hm:X.mg x=none) (hv:bootBuiltins x=some w) (r:RelV v w) (hn:x≠"__name__":=by decide) (hd:(x == ("__debug__":Str))=false:=by decide):jE X (.Name x pos) (tC v):=⟨pe_bltn hg hm hv r hn hd⟩
theorem je_op (ho:jOp X (binaryOp bop) r) (ha:jE X a ta) (hb:jE X b tb):jE X (.BinOp a bop b pos) (tOp r ta tb):=⟨pe_op ho.out ha.out hb.out⟩
theorem je_neg (ha:jE X a ta):jE X (.UnaryOp .USub a pos) (tUn (rU fun i=>.int (-i)) ta):=⟨pe_un un_neg ha.out⟩
theorem je_cmpR (ho:jOp X (compareOp op) r) (ha:jE X a ta) (hb:jE X b tb) (hm:behindInMarks op b=false):jE X (.Compare a [op] [b] pos) (tOp r ta tb):=⟨pe_cmpR ho.out ha.out hb.out hm⟩
theorem jt_cmpR (ho:jOp X (compareOp op) r) (ha:jE X a ta) (hb:jE X b tb) (hm:behindInMarks op b=false):jT X (.Compare a [op] [b] pos) (tTest (tOp r ta tb)):=⟨pt_cmpR ho.out ha.out hb.out hm⟩
theorem jt_val (h:jE X e te) (he:∀ whole,isTrue e X.env whole=(do let v <- whole; standAt e.pos; holding [v] (truthy v)):=by intro _; rfl):jT X e (tB te):=⟨pt_val h.out he⟩
theorem jw_and1 (ha:jT X a tA):jW X (.BoolOp .And [a] pos) tA:=⟨pw_and1 ha.out⟩
theorem jw_and (ha:jT X a tA) (hb:jW X (.BoolOp .And (b :: rest) pos) tB'):jW X (.BoolOp .And (a :: b :: rest) pos) (tAnd tA tB'):=⟨pw_and ha.out hb.out⟩
theorem jW.pt (h:jW X e tA):jT X e tA:=⟨PW.pt h.out⟩
theorem jt_not (ha:jT X a tA):jT X (.UnaryOp .Not a pos) (tNot tA):=⟨pt_not ha.out⟩
theorem je_one {op} (h:jE X a te):jE X (.BoolOp op [a] pos) te:=⟨pe_one h.out⟩
theorem je_and (ha:jE X a ta) (hb:jE X (.BoolOp .And (b :: rest) pos) tb):jE X (.BoolOp .And (a :: b :: rest) pos) (tAndV ta tb):=⟨pe_and ha.out hb.out⟩
theorem je_not (ha:jE X a ta):jE X (.UnaryOp .Not a pos) (tNotV ta):=⟨pe_not ha.out⟩
theorem ja_nil:jA X [] tNil:=⟨pa_nil⟩
theorem ja_c (ha:jE X e te) (hr:jA X es t) (h:isStar e=false:=by rfl):jA X (e :: es) (tCons te t):=⟨pa_c ha.out hr.out h⟩
theorem je_lst (h:jA X es t):jE X (.List es pos) (tLst t):=⟨pe_lst h.out⟩
theorem je_tup {x1} (h:jA X es t):jE X (.Tuple es x1 pos) (tTup t):=⟨pe_tup h.out⟩
theorem je_ix (hr:jIx X r) (ha:jE X a ta) (hb:jE X b tb) (hs:PlainIx b):jE X (.Subscript a b pos) (tOp r ta tb):=⟨pe_ix hr.out ha.out hb.out hs⟩
theorem jo_none:jO X none tNoPart:=⟨po_none⟩
theorem jo_some (h:jE X e te):jO X (some e) (tPart te):=⟨po_some h.out⟩
theorem je_slice {r:V->Option Int->Option Int->Hp->VK->Prop} {lo hi:Option Expr} {tl th:TO} (hr:jSl X r) (he:jE X e te) (hl:jO X lo tl) (hu:jO X hi th):jE X (.Subscript e (.Slice lo hi none p2) pos) (tSl r te tl th):=⟨pe_slice hr.out he.out hl.out hu.out⟩
variable {CX:CXT} {k:Nat} {f C:Addr} {fd:FuncData} {ps:List Str} {sp:Sp} {dvs:List V} {ds:List Value} {E:XK} {id T:String} {rc:List V->Hp->VK->Prop} {rm:V->List V->Hp->VK->Prop}
theorem je_fn (F:FnOk X.prog X.w X.K X.mg X.base CX k f fd ps sp) (hr:Room k X.A) (hg:Gl X x) (hm:X.mg x=some (.ref f)) (hk:PySem.W.keepIn X.K (.ref f)=true) (hb:Binds X.K fd ps ds) (hd:Vals dvs ds) (hx:Passes CX X E)
    (ha:jA X (e :: es) t) (hdb:(x == ("__debug__":Str))=false:=by decide) (h1:isStar e=false:=by rfl) (h2:es.all (fun e=>!isStar e)=true:=by rfl) :
    jE X (.Call (.Name x p) (e :: es) [] pos) (tCall sp dvs E t):=⟨pe_fn F hr hg hm hk hb hd hx ha.out hdb h1 h2⟩
theorem je_fnB (hc:jCa X (.builtin id) rc) (hg:Gl X x) (hm:X.mg x=none) (hv:bootBuiltins x=some (.builtin id)) (ha:jA X (e :: es) t) (hn:x≠"__name__":=by decide) (hdb:(x == ("__debug__":Str))=false:=by decide)
    (h1:isStar e=false:=by rfl) (h2:es.all (fun e=>!isStar e)=true:=by rfl):jE X (.Call (.Name x p) (e :: es) [] pos) (tCB rc t):=⟨pe_fnB hc.out hg hm hv ha.out hn hdb h1 h2⟩
theorem je_fnTy (hc:jCa X (.type T) rc) (hg:Gl X x) (hm:X.mg x=none) (hv:bootBuiltins x=some (.type T)) (ha:jA X (e :: es) t) (hn:x≠"__name__":=by decide) (hdb:(x == ("__debug__":Str))=false:=by decide)
    (h1:isStar e=false:=by rfl) (h2:es.all (fun e=>!isStar e)=true:=by rfl):jE X (.Call (.Name x p) (e :: es) [] pos) (tCB rc t):=⟨pe_fnTy hc.out hg hm hv ha.out hn hdb h1 h2⟩
theorem je_bm0 {name:Str} (pa:PlainAttrs T) (slot:Slot T name id) (hty:typeOf (.builtin id)=pure (.type "method_descriptor")) (hm:jMt X id rm) (ho:jE X o to)
    (hbase:attributeBase o name X.env (eval o X.env)=eval o X.env:=by rfl) (hline:(apos.endLine == cpos.line)=true:=by rfl):jE X (.Call (.Attribute o name apos) [] [] cpos) (tBM0 X.K T rm to):=⟨pe_bm0 pa slot hty hm.out ho.out hbase hline⟩
theorem je_bm {name:Str} (pa:PlainAttrs T) (slot:Slot T name id) (hty:typeOf (.builtin id)=pure (.type "method_descriptor")) (hm:jMt X id rm) (ho:jE X o to) (ha:jA X (e :: es) t)
    (hbase:attributeBase o name X.env (eval o X.env)=eval o X.env:=by rfl)
    (hfew:((backTo cpos (starEach (e :: es) X.env)).all (fun x=>!x.1) && (backToKw cpos (keywordEach [] X.env)).all (fun x=>x.1.isSome)
      && decide ((e :: es).length + ([]:List Keyword).length + (if ([]:List Keyword).isEmpty then 0 else 1) < 30))=true:=by rfl)
    (hline:(apos.endLine == cpos.line)=true:=by rfl) (h1:isStar e=false:=by rfl) (h2:es.all (fun e=>!isStar e)=true:=by rfl) :
    jE X (.Call (.Attribute o name apos) (e :: es) [] cpos) (tBM X.K T rm to t):=⟨pe_bm pa slot hty hm.out ho.out ha.out hbase hfew hline (star_cons h1) (star_any h2)⟩
variable {st:Stmt} {sts:List Stmt} {s1 s2:TS} {tg iter elt:Expr} {g:TG} {wi:TI} {tb1:TS} {ifs:List Expr} {tt:TT}
theorem jss_nil:jSs X [] tNext:=⟨pss_nil⟩
theorem jss_cons (h1:jS X st s1) (h2:jSs X sts s2):jSs X (st :: sts) (tSeq s1 s2):=⟨pss_cons h1.out h2.out⟩
theorem jss_one (h1:jS X st s1):jSs X [st] s1:=⟨pss_one h1.out⟩
theorem js_expr (he:jE X e te) (hs:swapsWith e none pos.line X.env=pure false:=by rfl):jS X (.Expr e pos) (tDrop te):=⟨ps_expr he.out hs⟩
theorem js_ret (he:jE X e te):jS X (.Return (some e) pos) (tRet te):=⟨ps_ret he.out⟩
theorem js_if {A B:List Stmt} (hc:jT X c tA) (ha:jSs X A s1) (hb:jSs X B s2):jS X (.If c A B pos) (tIfS tA s1 s2):=⟨ps_if hc.out ha.out hb.out⟩
theorem js_set {i:Nat} {pos':Pos} (hN:X.N.Nodup) (hi:X.N[i]?=some x) (hx:Loc X.env.scope x) (he:jE X e te) (hs:swapsWith e (some (.Name x pos')) pos.line X.env=pure false:=by rfl)
    (hf:X.fn x=true\/X.env.scope.names.lookup x=some .local:=by first | exact .inl rfl | exact .inr rfl | assumption):jS X (.Assign [.Name x pos'] e pos) (tAsg te (gName i)):=⟨ps_set hN hi hx he.out hs hf⟩
theorem js_asg (he:jE X e te) (hg:jG X tg g) (hs:swapsWithSole [tg] e pos.line X.env=pure false:=by rfl) (hw:swappedStores [tg] e X.env=pure none:=by rfl) (h1:(assignEach [tg] X.env).map (·.2)=[assign tg X.env]:=by rfl):jS X (.Assign [tg] e pos) (tAsg te g):=⟨ps_asg he.out hg.out hs hw h1⟩
theorem jg_name {i:Nat} (hN:X.N.Nodup) (hi:X.N[i]?=some x) (hx:Loc X.env.scope x) (hf:X.fn x=true\/X.env.scope.names.lookup x=some .local:=by first | exact .inl rfl | exact .inr rfl | assumption):jG X (.Name x pos) (gName i):=⟨pg_name hN hi hx hf⟩
theorem jgs_nil:jGs X [] gNil:=⟨pgs_nil⟩
theorem jgs_cons {g:TG} {gs:TGs} (h1:jG X e g) (h2:jGs X es gs) (hs:(assignEach (e :: es) X.env).map (·.2)=assign e X.env :: (assignEach es X.env).map (·.2):=by rfl):jGs X (e :: es) (gCons g gs):=⟨pgs_cons h1.out h2.out hs⟩
theorem jg_tup {k:Nat} {gs:TGs} {n:Nat} (hc:X.calm=true) (h:jGs X es gs) (hn:(assignEach es X.env).length=n:=by rfl) (hst:(assignEach es X.env).findIdx? (·.1)=none:=by rfl):jG X (.Tuple es k pos) (gTup X.K n gs):=⟨pg_tup hc h.out hn hst⟩
theorem ji_list {l:Expr} {tl:TE} (hl:jE X l tl):jI X tg l (iList X.K tl):=⟨pi_list hl.out⟩
theorem ji_tup {l:Expr} {tl:TE} (hl:jE X l tl):jI X tg l (iTup X.K tl):=⟨pi_tup hl.out⟩
theorem ji_range1 (hg:Gl X "range") (hm:X.mg "range"=none) (ha:jA X [a] t) (h:isStar a=false:=by rfl):jI X tg (.Call (.Name "range" p) [a] [] pos) (iRng1 t):=⟨pi_range1 hg hm ha.out (star_cons h)⟩
theorem js_for (hp:PassesOwn (model X.prog X.w) X.A X.env X.xe) (hc:X.calm=true) (hi:jI X tg iter wi) (hg:jG X tg g) (hb:jSs X sts tb1) (hs:∀ x,foldedSetIterable iter X.env x=pure x:=by intro _; rfl):jS X (.For tg iter sts [] pos) (tFor wi g tb1):=⟨ps_for hp hc hi.out hg.out hb.out hs⟩
theorem js_while (hp:PassesOwn (model X.prog X.w) X.A X.env X.xe) (hc:jT X c tA) (hb:jSs X sts tb1):jS X (.While c sts [] pos) (tWhile tA tb1):=⟨ps_while hp hc.out hb.out⟩
theorem jts_nil:jTs X [] tYes:=⟨pts_nil⟩
theorem jts_one (h:jT X c tA):jTs X [c] tA:=⟨pts_one h.out⟩
theorem je_comp {scope:Scope} (M:List Str) (hc:X.calm=true) (hi:jI X tg iter wi) (hg:∀ C s H ex E,jG (cxLC X scope (clOf scope X.env) M C s H ex E) tg g) (ht:∀ C s H ex E,jTs (cxLC X scope (clOf scope X.env) M C s H ex E) ifs tt)
    (he:∀ C s H ex E,jE (cxLC X scope (clOf scope X.env) M C s H ex E) elt te) (hs:∀ x,foldedSetIterable iter X.env x=pure x:=by intro _; rfl)
    (h1:closureFor scope X.env=pure (clOf scope X.env):=by with_unfolding_all rfl) (h2:scope.kind=.function:=by rfl) (h3:scope.names.all (fun y=>y.2 != .cell)=true:=by rfl) (h4:scope.names.all (fun y=>y.2 != .local || scope.names.lookup y.1 == some .local)=true:=by rfl)
    (h5:X.N.all (fun y=>scope.names.lookup y != some .local)=true:=by rfl) (h6:scope.names.all (fun p=>p.2 != .free || (((clOf scope X.env).lookup p.1).isSome && (X.env.kindOf p.1 == some .cell || X.env.kindOf p.1 == some .free)))=true:=by rfl) :
    jE X (.ListComp elt [⟨tg,iter,ifs,0⟩] scope pos) (tLC wi g tt te M.length):=⟨pe_comp M hc hi.out (fun C s H ex E=>(hg C s H ex E).out) (fun C s H ex E=>(ht C s H ex E).out) (fun C s H ex E=>(he C s H ex E).out) hs h1 h2 h3 h4 h5 h6⟩
theorem js_comp {scope:Scope} (M:List Str) {i:Nat} {py spos:Pos} (hN:X.N.Nodup) (hi':X.N[i]?=some y) (hy:Loc X.env.scope y) (hc:X.calm=true) (hi:jI X tg iter wi) (hg:∀ C s H ex E,jG (cxLC X scope (clOf scope X.env) M C s H ex E) tg g)
    (ht:∀ C s H ex E,jTs (cxLC X scope (clOf scope X.env) M C s H ex E) ifs tt) (he:∀ C s H ex E,jE (cxLC X scope (clOf scope X.env) M C s H ex E) elt te) (hs:∀ x,foldedSetIterable iter X.env x=pure x:=by intro _; rfl)
    (hsw:swapsWith (.ListComp elt [⟨tg,iter,ifs,0⟩] scope pos) (some (.Name y py)) spos.line X.env=pure true:=by rfl)
    (hf:X.fn y=true\/X.env.scope.names.lookup y=some .local:=by first | exact .inl rfl | exact .inr rfl | assumption)
    (h1:closureFor scope X.env=pure (clOf scope X.env):=by with_unfolding_all rfl) (h2:scope.kind=.function:=by rfl) (h3:scope.names.all (fun y=>y.2 != .cell)=true:=by rfl) (h4:scope.names.all (fun y=>y.2 != .local || scope.names.lookup y.1 == some .local)=true:=by rfl)
    (h5:X.N.all (fun y=>scope.names.lookup y != some .local)=true:=by rfl) (h6:scope.names.all (fun p=>p.2 != .free || (((clOf scope X.env).lookup p.1).isSome && (X.env.kindOf p.1 == some .cell || X.env.kindOf p.1 == some .free)))=true:=by rfl) :
    jS X (.Assign [.Name y py] (.ListComp elt [⟨tg,iter,ifs,0⟩] scope pos) spos) (fun D σ H=>tLC wi g tt te M.length σ H fun v H1=>D.nx (σ.set i (some v)) H1) :=
  ⟨ps_comp M hN hi' hy hc hi.out (fun C s H ex E=>(hg C s H ex E).out) (fun C s H ex E=>(ht C s H ex E).out) (fun C s H ex E=>(he C s H ex E).out) hs hsw hf h1 h2 h3 h4 h5 h6⟩
theorem je_compS {scope:Scope} (S:List Nat) (M:List Str) (hc:X.calm=true) (hi:jI X tg iter wi) (hg:∀ C s H ex E,jG (cxLC X scope (clOf scope X.env) M C s H ex E) tg g) (ht:∀ C s H ex E,jTs (cxLC X scope (clOf scope X.env) M C s H ex E) ifs tt)
    (he:∀ C s H ex E,jE (cxLC X scope (clOf scope X.env) M C s H ex E) elt te) (hs:∀ x,foldedSetIterable iter X.env x=pure x:=by intro _; rfl)
    (h1:closureFor scope X.env=pure (clOf scope X.env):=by with_unfolding_all rfl) (h2:scope.kind=.function:=by rfl) (h3:scope.names.all (fun y=>y.2 != .cell)=true:=by rfl) (h4:scope.names.all (fun y=>y.2 != .local || scope.names.lookup y.1 == some .local)=true:=by rfl)
    (h5:X.N.zipIdx.all (fun y=>S.contains y.2 || scope.names.lookup y.1 != some .local)=true:=by rfl) (h6:scope.names.all (fun p=>p.2 != .free || (((clOf scope X.env).lookup p.1).isSome && (X.env.kindOf p.1 == some .cell || X.env.kindOf p.1 == some .free)))=true:=by rfl) :
    jE X (.ListComp elt [⟨tg,iter,ifs,0⟩] scope pos) (tLCS S wi g tt te M.length):=⟨pe_compS S M hc hi.out (fun C s H ex E=>(hg C s H ex E).out) (fun C s H ex E=>(ht C s H ex E).out) (fun C s H ex E=>(he C s H ex E).out) hs h1 h2 h3 h4 h5 h6⟩
theorem jo_add:jOp X (binaryOp .Add) (rI0 fun i j=>.int (i + j)):=⟨op_add⟩
theorem jo_sub:jOp X (binaryOp .Sub) (rI0 fun i j=>.int (i - j)):=⟨op_sub⟩
theorem jo_mul:jOp X (binaryOp .Mult) (rI CMul fun i j=>.int (i * j)):=⟨op_mul⟩
theorem jo_fdiv:jOp X (binaryOp .FloorDiv) (rI CDiv fun i j=>.int (i / j)):=⟨op_fdiv⟩
theorem jo_mod:jOp X (binaryOp .Mod) (rI (fun _ j=>0 < j) fun i j=>.int (i % j)):=⟨op_mod⟩
theorem jo_eq:jOp X (compareOp .Eq) rEq:=⟨op_eq⟩
theorem jo_ne:jOp X (compareOp .NotEq) rNe:=⟨op_ne⟩
theorem jo_lt:jOp X (compareOp .Lt) (rI0 fun i j=>.bl (decide (i < j))):=⟨op_lt⟩
theorem jo_gt:jOp X (compareOp .Gt) (rI0 fun i j=>.bl (decide (j < i))):=⟨op_gt⟩
theorem jo_add_str:jOp X (binaryOp .Add) (fun x y H Q=>∃ i j,x=.str i/\y=.str j/\i.length + j.length<=sizeLine/\Q (.str (i ++ j)) H):=⟨op_add_str⟩
theorem jo_mul_str:jOp X (binaryOp .Mult) (fun x y H Q=>∃ z n,x=.str z/\y=.int n/\MulOk z n/\Q (.str (Txt.mul z n)) H):=⟨op_mul_str⟩
theorem jo_cat:jOp X (binaryOp .Add) rCat:=⟨op_cat⟩
theorem jo_catT:jOp X (binaryOp .Add) (rCatT X.K):=⟨op_catT⟩
theorem jx_list:jIx X (rIxL X.K):=⟨ix_list⟩
theorem jx_tup:jIx X (rIxT X.K):=⟨ix_tup⟩
theorem jx_str:jIx X rIxS:=⟨ix_str⟩
theorem jl_tup:jSl X (rSlT X.K):=⟨sl_tup⟩
theorem jm_append:jMt X "list.append" rAppend:=⟨mt_append⟩
theorem jm_pop:jMt X "list.pop" rPop:=⟨mt_pop⟩
theorem jm_extend:jMt X "list.extend" rExtend:=⟨mt_extend⟩
theorem jc_len_seq:jCa X (.builtin "len") (fun xs H Q=>∃ p ys,xs=[.ref p]/\(SqL X.K H p ys\/SqT X.K H p ys)/\Q (.int ys.length) H):=⟨call_len_seq⟩
theorem jc_str_int:jCa X (.type "str") (fun xs H Q=>∃ i,xs=[.int i]/\i.natAbs.log2 < 1920/\Q (.str (toString i)) H):=⟨call_str_int⟩
theorem jc_tuple_of:jCa X (.type "tuple") (fun xs H Q=>∃ p ys,xs=[.ref p]/\((SqL X.K H p ys/\∀ l,H l=none->Q (.ref l) (upd H l (.tup ys)))\/(SqT X.K H p ys/\Q (.ref p) H))):=⟨call_tuple_of⟩
end
section
variable {P:Program} {w:World} {K:PySem.W.Frag} {mg:Str->Option Value} {base:Heap}
theorem Fun.by {x qual:Str} {st:Stmt} {f:Addr} {fd:FuncData} {N ps:List Str} {k:Nat} {sp:Sp} (F:Fun K x qual st f fd) (S:FnScope N ps (defScope st)) (len:∀ vs H Q E,sp vs H Q E->vs.length=ps.length)
    (hbody:∀ (cdv:Value) (A:Around) (outer:List Env) (s:Shared) (H:Hp) (vs:List V) (Q:VK) (E:XK),Room k (A.deeper (envOfC qual (defScope st) s.heap.objs.size f cdv))->sp vs H Q E ->
      ∃ t,jSs (cxOf CX0 P w K mg base N qual (defScope st) f cdv A outer s H E).nox (defBody st) t/\t { nx:=fun _ H'=>Q .non H',rt:=Q } (start N vs) H):FnOk P w K mg base CX0 (k + 1) f fd ps sp :=
  F.ok S len fun cdv A outer s H vs Q E hr h=>let ⟨t,b,q⟩:=hbody cdv A outer s H vs Q E hr h; ⟨t,b.out,q⟩
end
end L2
namespace L2
open PySem
structure Mv (fs xs:List Addr) (h h':Heap):Prop where
  keep:∀ b o,h.get? b=some o->b ∉ fs->b ∉ xs->h'.get? b=some o
  slot:∀ b o,h.get? b=some o->b ∉ xs->∃ sl,h'.get? b=some { o with slots:=sl }
  there:∀ b o,h.get? b=some o->∃ o',h'.get? b=some o'
theorem Mv.refl {fs xs:List Addr} {h:Heap}:Mv fs xs h h:=⟨fun _ _ e _ _=>e,fun _ o e _=>⟨o.slots,e⟩,fun _ o e=>⟨o,e⟩⟩
theorem Mv.trans {fs xs:List Addr} {h h1 h2:Heap} (a:Mv fs xs h h1) (b:Mv fs xs h1 h2):Mv fs xs h h2 :=
  ⟨fun c o e f x=>b.keep c o (a.keep c o e f x) f x,fun c o e x=>let ⟨_,e1⟩:=a.slot c o e x; let ⟨sl,e2⟩:=b.slot c _ e1 x; ⟨sl,e2⟩,fun c o e=>let ⟨o1,e1⟩:=a.there c o e; b.there c o1 e1⟩
theorem Mv.mono {fs fs' xs xs':List Addr} {h h1:Heap} (a:Mv fs xs h h1) (hf:∀ b∈fs,b∈fs') (hx:∀ b∈xs,b∈xs'):Mv fs' xs' h h1 :=
  ⟨fun c o e f x=>a.keep c o e (fun z=>f (hf c z)) fun z=>x (hx c z),fun c o e x=>a.slot c o e fun z=>x (hx c z),a.there⟩
theorem Mv.of_keeps {fs xs:List Addr} {h h':Heap} (k:∀ b o,h.get? b=some o->h'.get? b=some o):Mv fs xs h h':=⟨fun b o e _ _=>k b o e,fun b o e _=>⟨o.slots,k b o e⟩,fun b o e=>⟨o,k b o e⟩⟩
structure Tr (h:Heap) (e:Addr) (C:Value) (dx:Option Addr) (T:Addr) (fl:Value):Prop where
  ex:∃ oe vs,h.get? e=some oe/\oe.cls=C/\oe.dict=dx/\oe.data=.fields vs/\vs[1]?=some (.ref T)/\vs[2]?=some .none
  tb:∃ ot ts,h.get? T=some ot/\ot.data=.fields ts/\ts[3]?=some fl
  ne:T≠e
theorem dict_mapFields (f:Array Value->Array Value) (o:Obj):(Obj.mapFields f o).dict=o.dict:=by
  unfold Obj.mapFields
  split <;> rfl
theorem frames_mem {h base:Heap} {l:List Env} (hl:h.FunFrames base l) {e:Addr} {oe:Obj} {vs:Array Value} (he:h.get? e=some oe) (hd:oe.data=.fields vs):e ∉ l.filterMap (·.frame):=fun z=>by
  obtain ⟨_,o,ho,nf⟩:=hl.mem z
  rw [he] at ho
  cases ho
  exact nf vs hd
section
variable {M:Model} {A:Around} {E:Value->Shared->Prop} {s:Shared} {base:Heap} {env:Env} {outer:List Env} {L e T:Addr} {C:Value} {dx:Option Addr} {Q:Unit->Shared->Prop}
theorem fly_entry {oe:Obj} {vs:Array Value} {head:Value} {had:Bool} (hfr:A.frames=some (env :: outer)) (hl:s.heap.FunFrames base (env :: outer)) (hf:env.frame=some L)
    (he:s.heap.get? e=some oe) (hd:oe.data=.fields vs) (hsz:1 < vs.size) (hz2:vs[2]?=some .none)
    (hq:∀ h' T,s.heap.objs.size<=T->Tr h' e oe.cls oe.dict T (rawInt L)->Mv ((env :: outer).filterMap (·.frame)) [e] s.heap h'->Q () { s with heap:=h' }) :
    wpAny M A (do let a <- frameOf env; let pl <- entryPlaceOf L had; let b <- EntryCells.newEntry head a .none (rawInt L) .none pl; setField (.ref e) 1 b) Q E s:=by
  have nf:=frames_mem hl he hd
  refine wpAny_bind (wpAny_frameOf_fun hfr hl hf fun h1 s1=>wpAny_bind (wpAny_entryPlaceOf fun pl hp=>?_))
  unfold EntryCells.newEntry newFields
  refine wpAny_bind (wpAny_newObj_type ?_ (by exact hp.sizeOk5 _ _ _ _ _))
  have e1:h1.get? e=some oe:=(s1.2.1 e nf).trans he
  have ne:h1.objs.size≠e:=Nat.ne_of_gt (Heap.lt_size e1)
  generalize ho:({ cls:=.type "traceback",dict:=none,data:=.fields ([head,.ref L,.none,rawInt L,.none] ++ (if pl.isEmpty then List.replicate 6 Value.none else pl)).toArray }:Obj)=ob
  have t3:∃ ts,ob.data=.fields ts/\ts[3]?=some (rawInt L):=by
    subst ho
    refine ⟨_,rfl,?_⟩
    simp
  have fr:ob.isFreed=false:=by
    obtain ⟨ts,q,_⟩:=t3
    exact Obj.isFreed_of_fields q
  have e2:=Heap.get?_push_of_some (h:=h1) ob e1
  refine wpAny_setField e2 hd hsz (hq _ h1.objs.size (Nat.le_of_eq s1.1.symm) ⟨?_,?_,ne⟩ ⟨fun b o q f x=>?_,fun b o q x=>?_,fun b o q=>?_⟩)
  · exact ⟨_,_,Heap.get?_update_self _ e2 (Obj.isFreed_of_fields (Obj.data_mapFields hd _)),Obj.cls_mapFields _ _,dict_mapFields _ _,Obj.data_mapFields hd _,by simp [hsz],by simp [hz2]⟩
  · obtain ⟨ts,q1,q2⟩:=t3
    exact ⟨ob,ts,(Heap.get?_update_other _ _ (Ne.symm ne)).trans (Heap.get?_push_size _ fr),q1,q2⟩
  · rw [Heap.get?_update_other _ _ (fun z=>x (by simp [z]))]
    exact Heap.get?_push_of_some _ ((s1.2.1 b f).trans q)
  · obtain ⟨sl,q1⟩:=s1.2.2 b o q
    exact ⟨sl,by rw [Heap.get?_update_other _ _ (fun z=>x (by simp [z]))]; exact Heap.get?_push_of_some _ q1⟩
  · obtain ⟨sl,q1⟩:=s1.2.2 b o q
    by_cases z:b=e
    · subst z
      exact ⟨_,Heap.get?_update_self _ e2 (Obj.isFreed_of_fields (Obj.data_mapFields hd _))⟩
    · exact ⟨_,by rw [Heap.get?_update_other _ _ (Ne.symm z)]; exact Heap.get?_push_of_some _ q1⟩
theorem fly_first {oe:Obj} {vs:Array Value} (hfr:A.frames=some (env :: outer)) (hl:s.heap.FunFrames base (env :: outer)) (hf:env.frame=some L)
    (he:s.heap.get? e=some oe) (hd:oe.data=.fields vs) (h1:vs[1]?=some .none) (hz2:vs[2]?=some .none)
    (hq:∀ h' T,s.heap.objs.size<=T->Tr h' e oe.cls oe.dict T (rawInt L)->Mv ((env :: outer).filterMap (·.frame)) [e] s.heap h'->Q () { s with heap:=h' }) :
    wpAny M A (noteFrame (.ref e) env) Q E s:=by
  unfold noteFrame
  simp only [hf]
  refine wpAny_bind (wpAny_field he hd h1 ?_)
  rw [if_neg (by decide:¬ ((Value.none != Value.none)=true))]
  exact fly_entry hfr hl hf he hd (Array.getElem?_eq_some_iff.mp h1).1 hz2 hq
theorem fly_set {fl:Value} {v:Option Addr} (t:Tr s.heap e C dx T fl) (hq:∀ h',Tr h' e C dx T (v.elim .none fun f=>rawInt f)->Mv [] [T] s.heap h'->Q () { s with heap:=h' }) :
    wpAny M A (setFlight (.ref e) v) Q E s:=by
  obtain ⟨⟨oe,vs,he,hc,hx,hd,h1,hz2⟩,⟨ot,ts,ht,hdt,h3⟩,ne⟩:=t
  unfold setFlight
  refine wpAny_bind (wpAny_field he hd h1 ?_)
  rw [if_pos (by simp:(Value.ref T != Value.none)=true)]
  have up:=Heap.get?_update_self (Obj.mapFields (·.setIfInBounds 3 (v.elim .none fun f=>rawInt f))) ht (Obj.isFreed_of_fields (Obj.data_mapFields hdt _))
  refine wpAny_setField ht hdt (Array.getElem?_eq_some_iff.mp h3).1 (hq _ ⟨⟨oe,vs,(Heap.get?_update_other _ _ ne).trans he,hc,hx,hd,h1,hz2⟩,⟨_,_,up,Obj.data_mapFields hdt _,?_⟩,ne⟩ ⟨fun b o q _ x=>?_,fun b o q x=>⟨o.slots,?_⟩,fun b o q=>?_⟩)
  · simp [(Array.getElem?_eq_some_iff.mp h3).1]
  · exact (Heap.get?_update_other _ _ (fun z=>x (by simp [z]))).trans q
  · exact (Heap.get?_update_other _ _ (fun z=>x (by simp [z]))).trans q
  · by_cases z:b=T
    · subst z
      exact ⟨_,up⟩
    · exact ⟨o,(Heap.get?_update_other _ _ (Ne.symm z)).trans q⟩
theorem fly_next (hfr:A.frames=some (env :: outer)) (hl:s.heap.FunFrames base (env :: outer)) (hf:env.frame=some L) (t:Tr s.heap e C dx T .none)
    (hq:∀ h' T',s.heap.objs.size<=T'->Tr h' e C dx T' (rawInt L)->Mv ((env :: outer).filterMap (·.frame)) [e,T] s.heap h'->Q () { s with heap:=h' }) :
    wpAny M A (noteFrame (.ref e) env) Q E s:=by
  obtain ⟨⟨oe,vs,he,hc,hx,hd,h1,hz2⟩,⟨ot,ts,ht,hdt,h3⟩,ne⟩:=t
  subst hc
  subst hx
  unfold noteFrame
  simp only [hf]
  refine wpAny_bind (wpAny_field he hd h1 ?_)
  rw [if_pos (by simp:(Value.ref T != Value.none)=true)]
  refine wpAny_bind (wpAny_field ht hdt h3 ?_)
  rw [if_neg (by simp [rawInt]:¬ ((Value.none == rawInt L)=true))]
  have up:=Heap.get?_update_self (Obj.mapFields (·.setIfInBounds 3 .none)) ht (Obj.isFreed_of_fields (Obj.data_mapFields hdt _))
  have k:∀ b o,b≠T->s.heap.get? b=some o->(s.heap.update T (Obj.mapFields (·.setIfInBounds 3 .none))).get? b=some o:=fun b o z q=>(Heap.get?_update_other _ _ (Ne.symm z)).trans q
  refine wpAny_bind (wpAny_setField ht hdt (Array.getElem?_eq_some_iff.mp h3).1 ?_)
  refine fly_entry (base:=base) hfr (hl.of_keeps fun b o q nf=>⟨o,k b o (fun z=>?_) q,rfl⟩) hf (k e oe (Ne.symm ne) he) hd (Array.getElem?_eq_some_iff.mp h1).1 hz2 fun h' T' hs t m=>hq h' T' ?_ t ⟨fun b o q f x=>?_,fun b o q x=>?_,fun b o q=>?_⟩
  · rw [z,ht] at q
    cases q
    exact nf ts hdt
  · rw [Heap.size_after_update] at hs
    exact hs
  · exact m.keep b o (k b o (fun z=>x (by simp [z])) q) f fun z=>x (by simp at z; simp [z])
  · exact m.slot b o (k b o (fun z=>x (by simp [z])) q) fun z=>x (by simp at z; simp [z])
  · by_cases z:b=T
    · subst z
      exact m.there b _ up
    · exact m.there b o (k b o z q)
end
end L2
namespace L2
open PySem PySem.Spec PyProof.Rows
theorem HOk.moved {P:Program} {w:World} {H:Hp} {h h':Heap} {fs xs:List Addr} (x:HOk P w H h) (m:Mv fs xs h h') (hf:∀ b∈fs,H b=none) (hx:∀ b∈xs,H b=none):HOk P w H h':=fun a o e =>
  (x a o e).stay (fun b u hb q=>m.keep b u q (fun z=>by
      have n:=hf b z
      rcases hb with r | r
      · rw [r,e] at n
        cases n
      · rw [r] at n
        cases n) fun z=>by
      have n:=hx b z
      rcases hb with r | r
      · rw [r,e] at n
        cases n
      · rw [r] at n
        cases n) (fun _ q=>q) fun _ _ q=>q
def CXf (P:Program) (w:World):CXT:=fun outer H s E u s'=>∃ (e T:Addr) (C:Value) (dx:Option Addr) (H':Hp),u=.ref e/\s'.os=s.os/\AllBare s'.gens/\Un (frs outer) [] H H' s.heap s'.heap/\HOk P w H' s'.heap /\
  Tr s'.heap e C dx T .none/\(s.heap.objs.size<=e/\s.heap.objs.size<=T)/\(H' e=none/\H' T=none)/\E C dx H'
def Fl (h:Heap) (H:Hp) (n:Nat) (e:Addr) (C:Value) (dx:Option Addr):Prop :=
  (∃ oe vs,h.get? e=some oe/\oe.cls=C/\oe.dict=dx/\oe.data=.fields vs/\vs[1]?=some .none/\vs[2]?=some .none)\/∃ T,Tr h e C dx T .none/\H T=none/\n<=T
def Air (X:Cx) (pins:List (Addr × Obj)) (σ:St) (E:XK) (u:Value) (s':Shared):Prop:=∃ (e:Addr) (C:Value) (dx:Option Addr) (H':Hp) (n:Nat),u=.ref e/\Inv X pins σ H' s'/\H' e=none/\X.s₀.heap.objs.size<=n/\n<=e/\(∀ p∈X.pn ++ pins,p.1 < n)/\Fl s'.heap H' n e C dx/\E C dx H'
section
variable {P:Program} {w:World} {K:PySem.W.Frag} {mg:Str->Option Value} {base:Heap} {N:List Str} {qual:Str} {scope:Scope} {f:Addr} {cd:Value} {A:Around} {outer:List Env} {s:Shared} {H:Hp} {E:XK}
theorem leave_air {pins:List (Addr × Obj)} {σ:St} {u:Value} {s':Shared} (h:Air (cxOf (CXf P w) P w K mg base N qual scope f cd A outer s H E) pins σ E u s'):(cxOf (CXf P w) P w K mg base N qual scope f cd A outer s H E).xe u s':=by
  obtain ⟨e,C,dx,H',n,rfl,I,ne,hn,he,hp,st,hE⟩:=h
  have fin:∀ (h2:Heap) (T:Addr) (xs:List Addr),Tr h2 e C dx T .none->Mv (frs (cxOf (CXf P w) P w K mg base N qual scope f cd A outer s H E).stack) xs s'.heap h2->(∀ b∈xs,H' b=none/\s.heap.objs.size<=b)->H' T=none->s.heap.objs.size<=T ->
      CXf P w outer H s E (.ref e) { s' with heap:=h2 }:=by
    intro h2 T xs t m hx nT sT
    have nst:∀ (b:Addr) (o:Obj),s.heap.get? b=some o->b ∉ frs outer->b ∉ frs (cxOf (CXf P w) P w K mg base N qual scope f cd A outer s H E).stack:=fun b o q nb z=>by
      rcases List.mem_cons.mp (I.stkSub b z) with r | r
      · exact absurd (show b=(cxOf (CXf P w) P w K mg base N qual scope f cd A outer s H E).env.locals from r) (Nat.ne_of_lt (Nat.lt_of_lt_of_le (Heap.lt_size q) I.ok.above))
      · exact nb r
    have nx:∀ (b:Addr) (o:Obj),s.heap.get? b=some o->b ∉ xs:=fun b o q z=>absurd (Nat.lt_of_lt_of_le (Heap.lt_size q) (hx b z).2) (Nat.lt_irrefl _)
    have B:Un (frs outer) [] H H' s.heap s'.heap:=I.base
    refine ⟨e,T,C,dx,H',rfl,I.os,I.bare,⟨fun b o q n hb hx=>?_,fun b o q n hb hx=>?_,B.free,fun b o q hx=>?_,B.tups,B.frzs,B.tbls⟩,I.hok.moved m I.stkFree fun b hb=>(hx b hb).1,t,⟨Nat.le_trans hn he,sT⟩,⟨ne,nT⟩,hE⟩
    · exact m.keep b o (B.keep b o q n hb hx) (nst b o q hb) (nx b o q)
    · obtain ⟨sl,q1⟩:=B.slot b o q n hb hx
      obtain ⟨sl2,q2⟩:=m.slot b _ q1 (nx b o q)
      exact ⟨sl2,q2⟩
    · obtain ⟨o1,q1⟩:=B.there b o q hx
      exact m.there b o1 q1
  show wpAny (model P w) _ (leaving _ (.ref e)) _ _ s'
  unfold leaving
  rcases st with ⟨oe,vs,h1,rfl,rfl,h4,h5,h6⟩ | ⟨T0,t0,n0,s0⟩
  · refine wpAny_bind (fly_first I.ok.frames I.stack rfl h1 h4 h5 h6 fun h' T hs t m=>fly_set t fun h2 t2 m2=>?_)
    refine fin h2 T [e,T] t2 ((m.mono (fun _ z=>z) fun b z=>?_).trans (m2.mono (fun b z=>nomatch z) fun b z=>?_)) (fun b hb=>?_) (I.hok.fresh hs) (Nat.le_trans I.sz hs)
    · simp at z
      simp [z]
    · simp at z
      simp [z]
    · rcases List.mem_cons.mp hb with r | hb
      · rw [r]
        exact ⟨ne,Nat.le_trans hn he⟩
      · rw [List.mem_singleton.mp hb]
        exact ⟨I.hok.fresh hs,Nat.le_trans I.sz hs⟩
  · refine wpAny_bind (fly_next I.ok.frames I.stack rfl t0 fun h' T hs t m=>fly_set t fun h2 t2 m2=>?_)
    refine fin h2 T [e,T0,T] t2 ((m.mono (fun _ z=>z) fun b z=>?_).trans (m2.mono (fun b z=>nomatch z) fun b z=>?_)) (fun b hb=>?_) (I.hok.fresh hs) (Nat.le_trans I.sz hs)
    · simp at z
      rcases z with z | z <;> simp [z]
    · simp at z
      simp [z]
    · rcases List.mem_cons.mp hb with r | hb
      · rw [r]
        exact ⟨ne,Nat.le_trans hn he⟩
      · rcases List.mem_cons.mp hb with r | hb
        · rw [r]
          exact ⟨n0,Nat.le_trans hn s0⟩
        · rw [List.mem_singleton.mp hb]
          exact ⟨I.hok.fresh hs,Nat.le_trans I.sz hs⟩
theorem air_of {X:Cx} {pins:List (Addr × Obj)} {σ:St} {H1:Hp} {s1 s2:Shared} {u:Value} {E':XK} (hP:X.prog=P) (hw:X.w=w) (I:Inv X pins σ H1 s1) (h:CXf P w X.stack H1 s1 E' u s2):Air X pins σ E' u s2:=by
  obtain ⟨e,T,C,dx,H',rfl,os,bare,un,hok,t,⟨se,sT⟩,⟨ne,nT⟩,hE⟩:=h
  have I2:Inv X pins σ H' s2:=I.call' (ch:=[]) os un (by rw [hP,hw]; exact hok) bare (fun b z=>absurd z (by simp))
  exact ⟨e,C,dx,H',s1.heap.objs.size,rfl,I2,ne,I.sz,se,fun p hp=>Heap.lt_size (I.pin p hp).1,.inr ⟨T,t,nT,sT⟩,hE⟩
theorem passx:Passes (CXf P w) (cxOf (CXf P w) P w K mg base N qual scope f cd A outer s H E) E:=fun pins σ H1 s1 u s2 I h=>leave_air (air_of rfl rfl I h)
theorem ownx:PassesOwn (model P w) (cxOf (CXf P w) P w K mg base N qual scope f cd A outer s H E).A (cxOf (CXf P w) P w K mg base N qual scope f cd A outer s H E).env (cxOf (CXf P w) P w K mg base N qual scope f cd A outer s H E).xe:=PassesOwn.leaving
theorem Fun.byx {x:Str} {st:Stmt} {fd:FuncData} {ps:List Str} {k:Nat} {sp:Sp} (F:Fun K x qual st f fd) (S:FnScope N ps (defScope st)) (len:∀ vs H Q E,sp vs H Q E->vs.length=ps.length)
    (hbody:∀ (cdv:Value) (A:Around) (outer:List Env) (s:Shared) (H:Hp) (vs:List V) (Q:VK) (E:XK),Room k (A.deeper (envOfC qual (defScope st) s.heap.objs.size f cdv))->sp vs H Q E ->
      ∃ t,jSs (cxOf (CXf P w) P w K mg base N qual (defScope st) f cdv A outer s H E) (defBody st) t/\t { nx:=fun _ H'=>Q .non H',rt:=Q } (start N vs) H):FnOk P w K mg base (CXf P w) (k + 1) f fd ps sp:=by
  obtain ⟨oc,od,kV,doc,pm,an,cdv,ct,osl,rfl,lk,hcd⟩:=F.ex
  refine fn_of lk hcd S len fun A outer s H vs Q E hr hsp=>?_
  obtain ⟨t,h,q⟩:=hbody cdv A outer s H vs Q E hr hsp
  exact ⟨t,h.out,q⟩
end
end L2
namespace L2
open PySem
section
variable {M:Model} {A:Around} {E:Value->Shared->Prop} {env:Env} {nm q:Str} {C N:Addr} {bs bm:List Value} {hdct:Bool} {sn:List Str} {sub:List Value} {ab:Bool} {col:Option Bool} {dd:Option Addr} {k0 k1 k2 k3 k5:Option Value} {newId:String}
theorem rs_stmt {s:Shared} {x:Sem Value} {Q:Flow->Shared->Prop} (hb:bm.contains (.type "BaseException")=true) (hh:A.handled=none)
    (h:wpAny M A x (fun v s1=>∃ e oe vs,v=.ref e/\s1.heap.get? C=some (excClassObj nm q C N bs bm hdct sn sub ab col dd k0 k1 k2 k3 k5 newId)/\s1.heap.get? e=some oe/\oe.cls=.ref C/\oe.data=.fields vs/\vs[1]?=some .none/\E (.ref e) s1) E s) :
    wpAny M A (raiseStmt env (some x) none) Q E s:=by
  have cB:(Value.ref C :: bm).contains (.type "BaseException")=true:=by rw [List.contains_cons,hb,Bool.or_true]
  unfold raiseStmt
  refine wpAny_bind (wpAny_mono h (fun v s1 h1=>?_) fun _ _ x=>x)
  obtain ⟨e,⟨c,d0,dt,sl⟩,vs,rfl,hC,he,hc,hd,hv,hE⟩:=h1
  dsimp only at hc hd
  subst hc hd
  obtain ⟨hp,g,d,tk,os⟩:=s1
  repeat (first | (with_reducible refine wpAny_field he rfl hv ?_) | with_reducible refine wpAny_loadPart_at he ?_ | with_reducible refine wpAny_loadPart_at hC ?_ | (with_reducible refine wpAny_isSubtype_exc hC ?_; rw [cB]) | wp_step)
  exact wpAny_raiseNew_none hh hE
end
theorem fn_bind {M:Model} {A:Around} {E:Value->Shared->Prop} {s:Shared} {f:Addr} {ob:Obj} {self:Value} {Q:Value × List Value->Shared->Prop} (h1:s.heap.get? f=some ob) (h2:ob.cls=.type "function") (q:Q (.ref f,[self]) s):wpAny M A (bindSpecial (.ref f) self) Q E s:=by
  unfold bindSpecial
  refine wpAny_bind (wpAny_typeOf (T:="function") ⟨ob,h1,h2⟩ ?_)
  exact wpAny_pure q
abbrev tupOf (rest:List Value):Obj:={ cls:=.type "tuple",data:=.seq rest.toArray }
abbrev excOf (C t:Addr):Obj:={ cls:=.ref C,data:=.fields #[.ref t,.none,.none,.none,.bool false,.none] }
section
variable {prog:Program} {w:World} {A:Around} {E:Value->Shared->Prop} {h:Heap} {g:Array GenState} {d:Drawn} {t:Nat} {os:OsState}
variable {nm q:Str} {C N f:Addr} {bs bm bmB:List Value} {hdct:Bool} {sn:List Str} {sub:List Value} {ab:Bool} {col:Option Bool} {dd:Option Addr} {k0 k1 k2 k3 k5:Option Value} {B Bn newId nid initId inN:String} {bmN:List Value}
theorem ex_typeCall (Fn:ExcBaseFacts Bn newId inN bmN) (hBn:bmB.contains (.type Bn)=true) (F:ExcBaseFacts B nid initId bmB) (T:OwnTail h bmB bm) {mN:Str->Option Value} {rest:List Value} {Q:Fin->Shared->Prop} {ob:Obj}
    (hC:h.get? C=some (excClassObj nm q C N bs bm hdct sn sub ab col dd k0 k1 k2 k3 k5 newId)) (hn:h.Ns N mN) (hi:mN "__init__"=some (.ref f)) (hf:h.get? f=some ob) (hfc:ob.cls=.type "function") (hrest:rest.length<=sizeLine)
    (hq:wpAny (model prog w) A (call (.ref f) (.ref (h.objs.size + 1) :: rest)) (fun v s'=>v=.none/\Q (.done (.ret (.ref (h.objs.size + 1)))) s') E ⟨(h.push (tupOf rest)).push (excOf C h.objs.size),g,d,t,os⟩) :
    wpAny (model prog w) A (Builtin.«type.__call__» ⟨.ref C :: rest,[]⟩) Q E ⟨h,g,d,t,os⟩:=by
  repeat (first | with_reducible refine wpAny_madeBy_exc hC ?_ | with_reducible refine wpAny_loadPart_at hC ?_ | wp_step)
  refine codeAny_call_builtin_code (Code.quiet_builtin _ Fn.quiet) (wpAny_check_new_subU Fn hBn T hC (codeAny_exc_new_subU Fn hBn F T hC ?_ hrest))
  show wpAny _ _ _ _ _ _
  have k:∀ b o,h.get? b=some o->((h.push (tupOf rest)).push (excOf C h.objs.size)).get? b=some o:=fun b o e=>Heap.get?_push_of_some _ (Heap.get?_push_of_some _ e)
  have C1:=k _ _ hC
  have e1:((h.push (tupOf rest)).push (excOf C h.objs.size)).get? (h.objs.size + 1)=some (excOf C h.objs.size):=Heap.get?_push_at (by simp only [Heap.size_push]) rfl
  have cC:(Value.ref C :: bm).contains (.ref C)=true:=by simp
  unfold isInstance
  repeat (first | with_reducible refine wpAny_loadPart_at e1 ?_ | (with_reducible refine wpAny_isSubtype_exc C1 ?_; rw [cC]) | wp_step)
  show wpAny _ _ (typeLookup (.ref C) _) _ _ _
  refine wpAny_typeLookup_tail C1 (hn.keeps k) (T.keeps k) F.mroIs F.init.lookup ?_
  rw [hi]
  refine wpAny_holding (wpAny_bind (fn_bind (k _ _ hf) hfc ?_))
  refine wpAny_bind (wpAny_mono hq (fun v s' hv=>?_) fun _ _ x=>x)
  obtain ⟨rfl,hv⟩:=hv
  exact wpAny_pure (wpAny_pure hv)
theorem ex_call (Fn:ExcBaseFacts Bn newId inN bmN) (hBn:bmB.contains (.type Bn)=true) (F:ExcBaseFacts B nid initId bmB) (T:OwnTail h bmB bm) {mN:Str->Option Value} {rest:List Value} {Q:Value->Shared->Prop} {ob:Obj}
    (hC:h.get? C=some (excClassObj nm q C N bs bm hdct sn sub ab col dd k0 k1 k2 k3 k5 newId)) (hn:h.Ns N mN) (hi:mN "__init__"=some (.ref f)) (hf:h.get? f=some ob) (hfc:ob.cls=.type "function") (hrest:rest.length<=sizeLine)
    (hq:wpAny (model prog w) (A.under (.builtin "type.__call__" ⟨.ref C :: rest,[]⟩)) (call (.ref f) (.ref (h.objs.size + 1) :: rest)) (fun v s'=>v=.none/\Q (.ref (h.objs.size + 1)) s') E ⟨(h.push (tupOf rest)).push (excOf C h.objs.size),g,d,t,os⟩) :
    wpAny (model prog w) A (call (.ref C) rest) Q E ⟨h,g,d,t,os⟩:=by
  have f1:=tc_lookup
  have f2:=tc_bind (.ref C)
  have hT:(⟨h,g,d,t,os⟩:Shared).TypeIs (.ref C) "type":=⟨_,hC,rfl⟩
  refine wpAny_call (codeAny_of_tree ?_)
  show wpAny _ _ (callAny (.ref C) ⟨rest,[]⟩) _ _ _
  repeat (any_goals (first | assumption | (with_reducible refine wpAny_loadPart_at hC ?_) | wp_step))
  refine ⟨rfl,codeAny_call_builtin_at (Code.quiet_builtin _ (by decide +kernel)) entry_typeCall (wpAny_check_type_call_sub hC ?_)⟩
  exact ex_typeCall Fn hBn F T hC hn hi hf hfc hrest hq
theorem ex_init (F:ExcBaseFacts B nid initId bmB) (T:OwnTail h bmB bm) {e t0:Addr} {oe:Obj} {vs:Array Value} {rest:List Value} {Q:Value->Shared->Prop}
    (hC:h.get? C=some (excClassObj nm q C N bs bm hdct sn sub ab col dd k0 k1 k2 k3 k5 newId)) (he:h.get? e=some oe) (hc:oe.cls=.ref C) (hd:oe.data=.fields vs) (h0:vs[0]?=some (.ref t0)) (hrest:rest.length<=sizeLine)
    (hq:Q .none ⟨(h.push (tupOf rest)).update e (Obj.mapFields (·.setIfInBounds 0 (.ref h.objs.size))),g,d,t,os⟩) :
    wpAny (model prog w) A (call (.builtin initId) (.ref e :: rest)) Q E ⟨h,g,d,t,os⟩:=by
  refine wpAny_call (codeAny_call_builtin F.init.plain F.initEntry (wpAny_check_init_subU F T hC he hc ?_))
  unfold Builtin.«BaseException.__init__»
  dsimp only
  rw [if_neg (by simp:¬ ((!List.isEmpty ([]:List (Str × Value)))=true))]
  unfold newTuple Builtin.BaseException.bexcPut
  have e1:=Heap.get?_push_of_some (h:=h) (tupOf rest) he
  refine wpAny_bind (wpAny_newObj_type ?_ (by show rest.toArray.size<=sizeLine; rw [List.size_toArray]; exact hrest))
  refine wpAny_bind (wpAny_bind (wpAny_field e1 hd h0 (wpAny_bind (wpAny_setField e1 hd (Array.getElem?_eq_some_iff.mp h0).1 ?_))))
  exact wpAny_letGo (wpAny_pure hq)
end
end L2
namespace L2
open PySem PySem.W PySem.Calls PyProof.Rows Builtin Builtin.ObjectAttr
def bmV:List Value:=[.type "ValueError",.type "Exception",.type "BaseException",.type "object"]
theorem refuse_V (self:Value):refuseLoop self "__setattr__" bmV=pure ():=by kernel_rfl
def overV:List Value->Bool
  | []=>false
  | v :: r=>(v :: r) == bmV || (match v with
    | .ref _=>overV r
    | _=>false)
theorem refuse_over (self:Value):∀ {l:List Value},overV l=true->refuseLoop self "__setattr__" l=pure ()
  | [],e=>by cases e
  | v :: r,e=>by
    unfold overV at e
    rcases Bool.or_eq_true_iff.mp e with q | q
    · rw [beq_iff_eq.mp q]
      exact refuse_V self
    · split at q
      · rw [refuseLoop_ref]
        exact refuse_over self q
      · cases q
theorem over_has:∀ {l:List Value},overV l=true->l.contains (.type "object")=true/\l.isEmpty=false
  | [],e=>by cases e
  | v :: r,e=>by
    unfold overV at e
    rcases Bool.or_eq_true_iff.mp e with q | q
    · rw [beq_iff_eq.mp q]
      exact ⟨by decide,rfl⟩
    · split at q
      · exact ⟨by rw [List.contains_cons,(over_has q).1,Bool.or_true],rfl⟩
      · cases q
def overIn (K:Frag) (C:Addr):Bool:=(clsIn K C).any fun cd=>overV cd.mro
section
variable {prog:Program} {w:World} {A:Around} {E:Value->Shared->Prop} {K:Frag} {C e:Addr} {s:Shared} {ox:Obj} {od:Option Obj} {name:Str} {R:Result->Shared->Prop}
theorem xa_open {tk:Tok} {v:Value} (X:K.In s.heap) (I:InstAt s.heap e ox C od) (hp:overIn K C=true) (ht:takerIn K C name=some none)
    (h:∀ b,wpAny (model prog w) A.in1 (storeInOwnDict (.ref e) (.ref C) (.str name tk) name v b) (fun fin s'=>match fin with | .done f=>R (.ok f) s' | .again c'=>c'.quiet=true/\codeAny (model prog w) A c' R s') (fun u s'=>R (.error u) s') s) :
    codeAny (model prog w) A (.call (.builtin "object.__setattr__") ⟨[.ref e,.str name tk,v],[]⟩) R s:=by
  have SF:=PySem.F.store_object
  obtain ⟨cd,hc,ho⟩:=any_some hp
  have hm:Looks (model prog w) s.heap (mroOf (.ref C)) cd.mro:=(looks_clsIn X hc).andThen .now
  have sub:Looks (model prog w) s.heap (isInstance (.ref e) (.type "object")) true:=I.type.andThen (looks_mroIn X (by unfold mroIn; rw [hc,Option.bind_some,if_neg (by rw [(over_has ho).2]; decide),(over_has ho).1]))
  obtain ⟨attr,ha,hr⟩:=Option.bind_eq_some_iff.mp ht
  have tk3:Looks (model prog w) s.heap (storeTaker? attr) none:=by
    cases attr with
    | none=>exact .now
    | some a =>
      obtain ⟨b,hb,hn⟩:=Option.map_eq_some_iff.mp hr
      refine (looks_takesIn X hb).andThen ?_
      cases b
      · exact .now
      · cases hn
  refine codeAny_call_builtin SF.slot.plain SF.entry (@check_slot (model prog w) _ _ s "object.__setattr__" "object" "__setattr__" (.ref e) [.str name tk,v] [] _ SF.kind SF.split sub (SF.args (.ref e) (.str name tk) v) ?_)
  rw [osa_eq,refuse_eq]
  refine wpAny_bind (wpAny_bind (I.type.here (wpAny_bind (hm.here ?_))))
  rw [refuse_over _ ho]
  exact wpAny_pure (wpAny_bind (I.type.here (wpAny_bind ((looks_findIn X ha).here (wpAny_bind (tk3.here (h _)))))))
theorem xs_new {oe:Obj} {vs:Array Value} {v:Value} {Q:Unit->Shared->Prop} (X:K.In s.heap) (he:s.heap.get? e=some oe) (hc:oe.cls=.ref C) (hx:oe.dict=none) (hd:oe.data=.fields vs)
    (hs:findIn K (.ref C) "__setattr__"=some (some (.builtin "object.__setattr__"))) (hp:overIn K C=true) (ht:takerIn K C name=some none) (hh:(clsIn K C).any (·.hasDict)=true)
    (h:∀ h',h'.Ns1 s.heap.objs.size (fun y=>if y=name then some v else none)->h'.get? e=some { oe with dict:=some s.heap.objs.size }->(∀ b o,b≠e->s.heap.get? b=some o->h'.get? b=some o)->Q () { s with heap:=h',toks:=s.toks + 2 }) :
    wpAny (model prog w) A (setAttr (.ref e) name v) Q E s:=by
  have J:InstAt s.heap e oe C none:=⟨he,hc,by unfold notCls; rw [hd],by rw [hx]; trivial⟩
  refine set_plain X J hs (xa_open (s:={ s with toks:=s.toks + 1 }) X J hp ht fun b=>?_)
  obtain ⟨cd,hcd,hdd⟩:=any_some hh
  obtain ⟨oc,odi,oda,osl⟩:=oe
  dsimp only at hc hx hd
  subst hc hx hd
  refine wpAny_bind (wpAny_pure (wpAny_bind (wpAny_bind (wpAny_loadPart he (wpAny_bind (Looks.here (s:={ s with toks:=s.toks + 1 }) (looks_clsIn X hcd) ?_))))))
  rw [hdd]
  have e1:=Heap.get?_push_of_some (h:=s.heap) PySem.W.emptyDict he
  have ne:s.heap.objs.size≠e:=Nat.ne_of_gt (Heap.lt_size he)
  have d1:(s.heap.push PySem.W.emptyDict).get? s.heap.objs.size=some PySem.W.emptyDict:=Heap.get?_push_size _ rfl
  have d2:((s.heap.push PySem.W.emptyDict).update e fun o=>{ o with dict:=some s.heap.objs.size }).get? s.heap.objs.size=some PySem.W.emptyDict:=(Heap.get?_update_other _ _ (Ne.symm ne)).trans d1
  have e2:=Heap.get?_update_self (fun o=>{ o with dict:=some s.heap.objs.size }) e1 rfl
  have n2:((s.heap.push PySem.W.emptyDict).update e fun o=>{ o with dict:=some s.heap.objs.size }).Ns s.heap.objs.size (fun _=>none):=⟨PySem.W.emptyDict,#[],_,d2,rfl,(fun z hz=>absurd hz (by simp)),fun _=>rfl⟩
  show wpAny _ _ (alloc PySem.W.emptyDict >>= _) _ _ _
  refine wpAny_bind (wpAny_alloc (wpAny_bind (wpAny_update e1 ?_)))
  refine wpAny_pure (a:=some s.heap.objs.size) (wpAny_bind (wpAny_pure (wpAny_bind ?_)))
  refine wpAny_nsSet1 (Heap.Ns1.of_empty n2) fun h' hn hsb=>?_
  obtain ⟨oD,esD,epD,hoD,hdD,hcD⟩:=hn.count (PySem.Within.cons name v PySem.Within.nil)
  refine wpAny_bind (wpAny_lookBehind hoD (by rw [hdD]; exact pastItsLine_dict (Nat.le_trans hcD (by show 1<=sizeLine + 1; lia))) (wpAny_pure ?_))
  refine h h' hn ((hsb.2 _ (Ne.symm ne)).trans e2) fun b o nb q=>?_
  rw [hsb.2 b (Nat.ne_of_lt (Heap.lt_size q)),Heap.get?_update_other _ _ (Ne.symm nb)]
  exact Heap.get?_push_of_some _ q
theorem xg_slot:Slot "ValueError" "__getattribute__" "BaseException.__getattribute__":=PySem.F.attr_ValueError.ga
theorem xg_get {v:Value} {expr:Bool} {Q:Value->Shared->Prop} (X:K.In s.heap) (I:InstAt s.heap e ox C od) (hga:findIn K (.ref C) "__getattribute__"=some (some (.builtin "BaseException.__getattribute__"))) (hk:findIn K (.ref C) "__getattr__"=some none)
    (hb:subIn K (.ref C) (.type "BaseException")=some true) (hf:findObj K C od name=some (.value v)) (hh:handedIn v=true) (h:Q v { s with toks:=s.toks + 1 }):wpAny (model prog w) A (getAttr (.ref e) name expr) Q E s:=by
  have ty:=I.type (M:=model prog w)
  have fd:=looks_find (M:=model prog w) X I hf
  refine wpAny_bind (wpAny_mkText (wpAny_holding (wpAny_bind (ty _ _ _ _ (fun _ _ q=>q) (wpAny_bind (looks_findIn X hga _ _ _ _ (fun _ _ q=>q) ?_))))))
  dsimp only
  rw [show (onTheHeap (Value.ref C) && Value.builtin "BaseException.__getattribute__" == Value.builtin "object.__getattribute__")=false from by rw [show (Value.builtin "BaseException.__getattribute__" == Value.builtin "object.__getattribute__")=false from by decide +kernel,Bool.and_false],if_neg (by decide:¬ (false=true))]
  refine wpAny_bind ((looks_hook (mc:=.ref C) X (by rw [if_pos (show onTheHeap (.ref C)=true from rfl)]; exact hk)) _ _ _ _ (fun _ _ q=>q) (wpAny_bind (wpAny_attempt (wpAny_holding ?_))))
  unfold callGetattribute
  rw [show (expr && onTheHeap (Value.builtin "BaseException.__getattribute__"))=false from Bool.and_false _,if_neg (by decide:¬ (false=true))]
  unfold boundAndCalled
  rw [xg_slot.bind]
  refine wpAny_bind (wpAny_pure (wpAny_call (codeAny_call_builtin xg_slot.plain PySem.F.entry_bexc_ga ?_)))
  refine @check_slot (model prog w) _ _ { s with toks:=s.toks + 1 } "BaseException.__getattribute__" "BaseException" "__getattribute__" (.ref e) [.str name s.toks] [] _ (by decide +kernel) (by decide +kernel) (ty.andThen (looks_subIn X hb)) (PySem.F.args_bexc_ga (.ref e) (.str name s.toks)) ?_
  refine wpAny_bind (wpAny_pure (wpAny_bind (wpAny_pure (wpAny_bind (ty _ _ _ _ (fun _ _ q=>q) (wpAny_bind (fd _ _ _ _ (fun _ _ q=>q) ?_)))))))
  refine wpAny_pure ?_
  show wpAny _ _ (handedOut v) _ _ _
  rw [handedOut_of hh]
  exact wpAny_pure h
end
end L2
namespace L2
open PySem PySem.Spec PyProof.Rows
def XO (e C:Addr) (dx:Option Addr):HO:=.ext fun h=>∃ oe vs t0,h.get? e=some oe/\oe.cls=.ref C/\oe.dict=dx/\oe.data=.fields vs/\vs[0]?=some (.ref t0)/\vs[1]?=some .none/\vs[2]?=some .none
theorem XO.ok {P:Program} {w:World} {H:Hp} {h:Heap} {e C:Addr} {dx:Option Addr} (p:∃ oe vs t0,h.get? e=some oe/\oe.cls=.ref C/\oe.dict=dx/\oe.data=.fields vs/\vs[0]?=some (.ref t0)/\vs[1]?=some .none/\vs[2]?=some .none):ObjOk P w H h e (XO e C dx) :=
  ⟨p,let ⟨oe,_,_,q,_⟩:=p; ⟨oe,q⟩,fun _ _ ⟨oe,vs,t0,a,r⟩ k=>⟨oe,vs,t0,k oe a,r⟩⟩
theorem XO.get {P:Program} {w:World} {H:Hp} {h:Heap} {e C:Addr} {dx:Option Addr} (x:HOk P w H h) (q:H e=some (XO e C dx)):∃ oe vs t0,h.get? e=some oe/\oe.cls=.ref C/\oe.dict=dx/\oe.data=.fields vs/\vs[0]?=some (.ref t0)/\vs[1]?=some .none/\vs[2]?=some .none :=
  (show ObjOk P w H h e (.ext _) from x e _ q).1
def XD (d:Addr) (fs:List (Str × V)):HO:=.ext fun h=>∃ mA,h.Ns1 d mA/\(∀ f,RelO (fs.lookup f) (mA f))/\PySem.Within mA (fs.map (·.1))/\fs.length<=1000
theorem XD.ok {P:Program} {w:World} {H:Hp} {h:Heap} {d:Addr} {fs:List (Str × V)} (p:∃ mA,h.Ns1 d mA/\(∀ f,RelO (fs.lookup f) (mA f))/\PySem.Within mA (fs.map (·.1))/\fs.length<=1000):ObjOk P w H h d (XD d fs) :=
  ⟨p,let ⟨_,⟨o,_,_,q,_⟩,_⟩:=p; ⟨o,q⟩,fun _ _ ⟨mA,n,r⟩ k=>⟨mA,n.at k,r⟩⟩
theorem XD.get {P:Program} {w:World} {H:Hp} {h:Heap} {d:Addr} {fs:List (Str × V)} (x:HOk P w H h) (q:H d=some (XD d fs)):∃ mA,h.Ns1 d mA/\(∀ f,RelO (fs.lookup f) (mA f))/\PySem.Within mA (fs.map (·.1))/\fs.length<=1000 :=
  (show ObjOk P w H h d (.ext _) from x d _ q).1
def xIn (K:PySem.W.Frag) (C f:Addr):Bool:=match K.lookup C with
  | some ⟨.type "type",_,.cls cd,sl⟩=>(match cd.mro,sl.toList with
    | .ref C' :: bm,[_,_,_,_,some (.builtin n),_]=>C' == C && n == "ValueError.__new__" && !cd.hasDel && PySem.W.tailIn K bmV bm && PySem.W.nsOkIn K cd.ns && PySem.W.nsIn K cd.ns "__init__" == some (some (.ref f)) && bm.contains (.type "BaseException")
    | _,_=>false)
  | _=>false
structure XCl (K:PySem.W.Frag) (C f:Addr):Prop where
  cls:xIn K C f=true
  fn:PySem.W.typeIn K (.ref f)=some (.type "function")
  kp:PySem.W.keepIn K (.ref C)=true
  over:overIn K C=true
  sa:PySem.W.findIn K (.ref C) "__setattr__"=some (some (.builtin "object.__setattr__"))
  hd:(PySem.W.clsIn K C).any (·.hasDict)=true
  ga:PySem.W.findIn K (.ref C) "__getattribute__"=some (some (.builtin "BaseException.__getattribute__"))
  ha:PySem.W.findIn K (.ref C) "__getattr__"=some none
  sb:PySem.W.subIn K (.ref C) (.type "BaseException")=some true
theorem ns_some {K:PySem.W.Frag} {h:Heap} {N:Addr} {mg:Str->Option Value} {n:Str} {v:Value} (X:K.In h) (G:h.Ns N mg) (e:PySem.W.nsIn K N n=some (some v)):mg n=some v:=by
  obtain ⟨o,es,ep,ho,hd,_,hf⟩:=G
  unfold PySem.W.nsIn at e
  split at e
  · rename_i c d es' n' sl q
    have:=X _ _ q
    rw [ho] at this
    cases this
    cases hd
    split at e
    · rename_i en he
      cases e
      rw [<- hf]
      unfold nsFind findBy
      rw [<- Array.find?_toList,he]
      rfl
    · split at e <;> cases e
  · cases e
theorem XCl.at {K:PySem.W.Frag} {C f:Addr} (c:XCl K C f) {h:Heap} (X:K.In h):∃ nm q N bs bm hdct sn sub ab col dd k0 k1 k2 k3 k5 mN,h.get? C=some (excClassObj nm q C N bs bm hdct sn sub ab col dd k0 k1 k2 k3 k5 "ValueError.__new__") /\
    OwnTail h bmV bm/\h.Ns N mN/\mN "__init__"=some (.ref f)/\bm.contains (.type "BaseException")=true:=by
  have q:=c.cls
  unfold xIn at q
  split at q
  · rename_i dd cd sl ho
    split at q
    · rename_i C' bm k0 k1 k2 k3 n k5 hm hs
      simp only [Bool.and_eq_true,beq_iff_eq,Bool.not_eq_true'] at q
      obtain ⟨⟨⟨⟨⟨⟨rfl,rfl⟩,hdel⟩,ht⟩,hok⟩,hi⟩,hb⟩:=q
      obtain ⟨nm,bs,mro,ns,qn,hd,sn,sub,ab,col,del⟩:=cd
      dsimp only at hm hdel hok hi
      subst hm hdel
      have es:sl=#[k0,k1,k2,k3,some (.builtin "ValueError.__new__"),k5]:=by
        obtain ⟨l⟩:=sl
        simp only at hs
        rw [hs]
      subst es
      have nN:=PySem.Heap.Ns.of_isNs (PySem.W.isNs_of_in X hok)
      exact ⟨nm,qn,ns,bs,bm,hd,sn,sub,ab,col,dd,k0,k1,k2,k3,k5,_,X _ _ ho,PySem.W.tail_of_in X ht,nN,ns_some X nN hi,hb⟩
    · cases q
  · cases q
def drp (H:Hp) (e:Addr):Hp:=fun b=>if b=e then none else H b
theorem drp_same {H:Hp} {e:Addr}:drp H e e=none:=if_pos rfl
theorem drp_ne {H:Hp} {e b:Addr} (h:b≠e):drp H e b=H b:=if_neg h
theorem Inv.drop {X:Cx} {pins:List (Addr × Obj)} {σ:St} {H:Hp} {s:Shared} {e:Addr} {φ:Heap->Prop} (I:Inv X pins σ H s) (he:H e=some (.ext φ)):Inv X pins σ (drp H e) s:=by
  have no:∀ b,H b=none->drp H e b=none:=fun b h=>by
    by_cases q:b=e
    · rw [q]
      exact drp_same
    · rw [drp_ne q]
      exact h
  have nx:∀ (b:Addr) (o:HO),H b=some o->(∀ ψ,o≠.ext ψ)->drp H e b=some o:=fun b o h n=>by
    have q:b≠e:=fun z=>by
      rw [z,he] at h
      cases h
      exact n _ rfl
    rw [drp_ne q]
    exact h
  refine ⟨I.ok,I.os,I.bare,⟨I.base.keep,I.base.slot,fun b o q n x=>no b (I.base.free b o q n x),I.base.there,fun b xs q=>nx _ _ (I.base.tups b xs q) (by intro ψ z; cases z),fun b o u q=>nx _ _ (I.base.frzs b o u q) (by intro ψ z; cases z),fun b ps q=>?_⟩,I.loc,I.cell,no _ I.free,fun x c q=>no _ (I.freeC x c q),fun p hp=>?_,fun a o q=>?_,I.len⟩
  · obtain ⟨m,r⟩:=I.base.tbls b ps q
    exact ⟨m,nx _ _ r (by intro ψ z; cases z)⟩
  · obtain ⟨a,b,c⟩:=I.pin p hp
    exact ⟨a,no _ b,c⟩
  · have na:a≠e:=fun z=>by
      rw [z,drp_same] at q
      cases q
    rw [drp_ne na] at q
    exact (I.hok a o q).stay (fun _ _ _ z=>z) (fun b z=>nx b _ z (by intro ψ y; cases y)) fun b xs z=>nx b _ z (by intro ψ y; cases y)
def Throws (X:Cx) (E:XK):Prop:=∀ (pins:List (Addr × Obj)) (σ:St) (u:Value) (s':Shared),Air X pins σ E u s'->X.xe u s'
theorem throwx {P:Program} {w:World} {K:PySem.W.Frag} {mg:Str->Option Value} {base:Heap} {N:List Str} {qual:Str} {scope:Scope} {f:Addr} {cd:Value} {A:Around} {outer:List Env} {s:Shared} {H:Hp} {E:XK} :
    Throws (cxOf (CXf P w) P w K mg base N qual scope f cd A outer s H E) E:=fun _ _ _ _ h=>leave_air h
def tRaise (C:Addr) (sp:Sp) (E:XK) (t:TA):TS:=fun _ σ H=>t σ H fun vs H1=>vs.length<=sizeLine/\∀ e,H1 e=none->sp (.ref e :: vs) (upd H1 e (XO e C none)) (fun v H2=>v=.non/\∃ dx,H2 e=some (XO e C dx)/\E (.ref C) dx (drp H2 e)) E0
section
variable {X:Cx} {k:Nat} {f C:Addr} {fd:FuncData} {ps:List Str} {sp:Sp} {E:XK} {x:Str} {np cpos pos:Pos} {a:Expr} {as:List Expr} {t:TA}
theorem ps_raise (M:XCl X.K C f) (F:FnOk X.prog X.w X.K X.mg X.base CX0 k f fd ps sp) (hr:Room (k + 1) X.A) (hg:Gl X x) (hm:X.mg x=some (.ref C)) (hb:Binds X.K fd ps []) (hx:Throws X E)
    (ha:PA X (a :: as) t) (hdb:(x == ("__debug__":Str))=false:=by decide) (h1:isStar a=false:=by rfl) (h2:as.all (fun e=>!isStar e)=true:=by rfl) :
    PS X (.Raise (some (.Call (.Name x np) (a :: as) [] cpos)) none pos) (tRaise C sp E t):=by
  intro pins s σ H D I h
  obtain ⟨nm,q,N,bs,bm,hdct,sn,sub,ab,col,dd,k0,k1,k2,k3,k5,mN,hC0,T0,n0,i0,hB⟩:=M.at I.mod.kin
  rw [arm_exec_Raise]
  simp only [evalOpt,Option.map]
  refine wpAny_bind (wpAny_standAt (rs_stmt (C:=C) (nm:=nm) (q:=q) (N:=N) (bs:=bs) (hdct:=hdct) (sn:=sn) (sub:=sub) (ab:=ab) (col:=col) (dd:=dd) (k0:=k0) (k1:=k1) (k2:=k2) (k3:=k3) (k5:=k5) (newId:="ValueError.__new__") hB hr.hd (wpAny_bind ?_)))
  refine wpAny_Call_Name_kw (ld_glob I hg hm ?_ hdb)
  refine PySem.W.callWith_K (h₀:=X.base) I.ok.mod.kin M.kp (thn (ha cpos pins s σ H _ I h) fun us s1 ⟨vs,H1,I1,r,hl,q1⟩=>⟨I1.kIn,?_⟩) (star_cons h1) (star_any h2)
  obtain ⟨hh,g,d,tk,os⟩:=s1
  have kb:∀ b o,X.base.get? b=some o->hh.get? b=some o:=I1.bk
  have e0:H1 (hh.objs.size + 1)=none:=I1.hok.fresh (Nat.le_succ _)
  obtain ⟨of,hof,hofc⟩:=Option.map_eq_some_iff.mp M.fn
  have hof':hh.get? f=some of:=I1.kIn _ _ hof
  refine ex_call PySem.F.excBase_ValueError (by decide +kernel) PySem.F.excBase_ValueError (T0.keeps kb) (kb _ _ hC0) (n0.keeps kb) i0 hof' hofc (show us.length<=sizeLine by rw [<- r.length]; exact hl) ?_
  have ex:((hh.push (tupOf us)).push (excOf C hh.objs.size)).get? (hh.objs.size + 1)=some (excOf C hh.objs.size):=Heap.get?_push_at (by simp only [Heap.size_push]) rfl
  have I2:Inv X pins σ (upd H1 (hh.objs.size + 1) (XO (hh.objs.size + 1) C none)) ⟨(hh.push (tupOf us)).push (excOf C hh.objs.size),g,d,tk,os⟩ :=
    I1.laid (a:=hh.objs.size + 1) (o:=XO (hh.objs.size + 1) C none) (t':=tk) (fun b u q=>Heap.get?_push_of_some _ (Heap.get?_push_of_some _ q)) (Nat.le_succ _) (XO.ok ⟨excOf C hh.objs.size,_,hh.objs.size,ex,rfl,rfl,rfl,rfl,rfl,rfl⟩)
  have hq:=q1 _ e0
  have r2:Vals (V.ref (hh.objs.size + 1) :: vs) (Value.ref (hh.objs.size + 1) :: us):=.cons rfl r
  have hlen:(Value.ref (hh.objs.size + 1) :: us).length=ps.length:=by rw [<- r2.length]; exact F.len _ _ _ _ hq
  have bd:=hb ⟨(hh.push (tupOf us)).push (excOf C hh.objs.size),g,d,tk,os⟩ (Value.ref (hh.objs.size + 1) :: us) I2.kIn (by rw [List.append_nil]; exact hlen)
  rw [List.append_nil] at bd
  refine wpAny_call (codeAny_mono (F.run _ X.stack _ _ ⟨Value.ref (hh.objs.size + 1) :: us,[]⟩ (Value.ref (hh.objs.size + 1) :: us) _ _ E0 (hr.make C us []) (I2.env0.make C us []) bd r2 hq) fun r s' hq'=>?_)
  cases r with
  | error u=>exact False.elim hq'
  | ok fl =>
    cases fl with
    | ret u =>
      obtain ⟨v,H',I3,rv,ev,dx,hH,hE⟩:=I2.after hq'
      subst ev
      obtain ⟨oe,ws,t0,g1,g2,g3,g4,g5,g6⟩:=XO.get I3.hok hH
      exact ⟨rv,wpAny_bind (wpAny_standAt (wpAny_pure ⟨_,oe,ws,rfl,I3.bk _ _ hC0,g1,g2,g4,g6.1,hx pins σ _ s' ⟨_,.ref C,dx,drp H' (hh.objs.size + 1),hh.objs.size,rfl,I3.drop hH,drp_same,I1.sz,Nat.le_succ _,fun p hp=>Heap.lt_size (I1.pin p hp).1,.inl ⟨oe,ws,g1,g2,g3,g4,g6⟩,hE⟩⟩))⟩
    | next=>exact False.elim hq'
    | brk=>exact False.elim hq'
    | cont=>exact False.elim hq'
end
structure XBase (K:PySem.W.Frag) (R:Addr):Prop where
  sp:PySem.W.specialIn K (.ref R) "__getattribute__"=some (some (.builtin "type.__getattribute__"))
  rd:PySem.W.readsIn K R (.type "type")=true
  fi:PySem.W.findCls K (.ref R) (.type "type") "__init__"=some (.val (.builtin "ValueError.__init__"))
def tXInit (C:Addr) (t:TA):TE:=fun σ H Q=>t σ H fun vs H1=>∃ e rest dx,vs=.ref e :: rest/\rest.length<=sizeLine/\H1 e=some (XO e C dx)/\Q .non H1
theorem upd_id {H:Hp} {e:Addr} {o:HO} (h:H e=some o):upd H e o=H:=by
  funext b
  unfold upd
  split
  · rename_i q
    rw [q,h]
  · rfl
section
variable {X:Cx} {f C R:Addr} {x m:Str} {np apos pos pos':Pos} {a o e value:Expr} {as:List Expr} {t:TA} {ta tv te:TE}
theorem pe_xinit {pl:Sem Bool} (M:XCl X.K C f) (B:XBase X.K R) (hg:Gl X x) (hm:X.mg x=some (.ref R)) (ha:PA X (a :: as) t) (hdb:(x == ("__debug__":Str))=false:=by decide) (h1:isStar a=false:=by rfl) (h2:as.all (fun e=>!isStar e)=true:=by rfl)
    (ht:eval (.Call (.Attribute (.Name x np) "__init__" apos) (a :: as) [] pos) X.env=(do
      let ov <- eval (.Name x np) X.env
      standAt apos.atName
      let (f,first) <- holding [ov] (getMethod ov "__init__" pl)
      callWith pos f first (backTo pos (starEach (a :: as) X.env)) (backToKw pos (keywordEach [] X.env))):=by rfl) :
    PE X (.Call (.Attribute (.Name x np) "__init__" apos) (a :: as) [] pos) (tXInit C t):=by
  intro pins s σ H Q I h
  refine PySem.W.methodCall_KW (pl:=pl) (ld_glob I hg hm ?_ hdb) ht
  refine PySem.W.method_cls I.kIn B.sp (PySem.W.cls_value I.kIn B.rd B.fi (by decide +kernel) ?_)
  have I0:Inv X pins σ H { s with toks:=s.toks + 1 }:=I.tok _
  refine PyProof.Rows.callWith_builtin1 (thn (ha pos pins _ σ H _ I0 h) fun us s1 ⟨vs,H1,I1,r,e,rest,dx,ev,hl,hH,q⟩=>?_) (star_cons h1) (star_any h2)
  subst ev
  obtain ⟨ue,ur,rfl,re,rr⟩:∃ ue ur,us=ue :: ur/\RelV (.ref e) ue/\Vals rest ur:=by
    cases r with
    | cons p q=>exact ⟨_,_,rfl,p,q⟩
  obtain rfl:ue=Value.ref e:=re
  obtain ⟨oe,ws,t0,g1,g2,g3,g4,g5,g6⟩:=XO.get I1.hok hH
  obtain ⟨nm,q',N,bs,bm,hdct,sn,sub,ab,col,dd,k0,k1,k2,k3,k5,mN,hC,T,_,_,_⟩:=M.at I1.kIn
  obtain ⟨hh,g,d,tk,os⟩:=s1
  refine ex_init PySem.F.excBase_ValueError T hC g1 g2 g4 g5 (by rw [<- rr.length]; exact hl) ?_
  have e1:=Heap.get?_push_of_some (h:=hh) (tupOf ur) g1
  have up:=Heap.get?_update_self (Obj.mapFields (·.setIfInBounds 0 (.ref hh.objs.size))) e1 (Obj.isFreed_of_fields (Obj.data_mapFields g4 _))
  have sz:0 < ws.size:=(Array.getElem?_eq_some_iff.mp g5).1
  have I2:=I1.write (x:=e) (e:=e) (o:=XO e C dx) (h':=(hh.push (tupOf ur)).update e (Obj.mapFields (·.setIfInBounds 0 (.ref hh.objs.size)))) (t':=tk) (by rw [hH]; exact True.intro) (.inl rfl)
    (fun b u nb q=>(Heap.get?_update_other _ _ (Ne.symm nb)).trans (Heap.get?_push_of_some _ q)) ⟨_,up⟩
    (XO.ok ⟨_,_,hh.objs.size,up,(Obj.cls_mapFields _ _).trans g2,(dict_mapFields _ _).trans g3,Obj.data_mapFields g4 _,by simp [sz],by rw [Array.getElem?_setIfInBounds_ne (by decide)]; exact g6.1,by rw [Array.getElem?_setIfInBounds_ne (by decide)]; exact g6.2⟩)
  rw [upd_id hH] at I2
  exact ⟨.non,H1,I2,rfl,q⟩
def sXNew (K:PySem.W.Frag) (C:Addr) (ta tv:TE) (m:Str):TS:=fun D σ H=>tv σ H fun y H1=>ta σ H1 fun x H2=>∃ e,x=.ref e/\H2 e=some (XO e C none)/\PySem.W.takerIn K C m=some none/\∀ d,H2 d=none->d≠e->D.nx σ (upd (upd H2 d (XD d [(m,y)])) e (XO e C (some d)))
theorem ps_xnew (M:XCl X.K C f) (ha:PE X o ta) (hv:PE X value tv) (hs:swapsWith value (some (.Attribute o m pos')) pos.line X.env=pure false:=by rfl):PS X (.Assign [.Attribute o m pos'] value pos) (sXNew X.K C ta tv m):=by
  intro pins s σ H D I h
  refine plainObj_wpAny_Assign_Attribute (thn (hv pins s σ H _ I h) fun u s1 ⟨y,H1,I1,ry,q⟩=>thn (ha pins s1 σ H1 _ I1 q) fun ov s2 ⟨x,H2,I2,rx,e,ex,hH,hk,q2⟩=>?_) hs
  subst ex
  obtain rfl:ov=Value.ref e:=rx
  obtain ⟨oe,ws,t0,g1,g2,g3,g4,g5,g6⟩:=XO.get I2.hok hH
  refine xs_new I2.kIn g1 g2 g3 g4 M.sa M.over hk M.hd fun h' hn he kp=>?_
  have nd:s2.heap.objs.size≠e:=Nat.ne_of_gt (Heap.lt_size g1)
  have fd:H2 s2.heap.objs.size=none:=I2.hok.fresh (Nat.le_refl _)
  have ns:∀ (b:Addr) (u:HO),H2 b=some u->(∀ ψ,u≠.ext ψ)->upd (upd H2 s2.heap.objs.size (XD s2.heap.objs.size [(m,y)])) e (XO e C (some s2.heap.objs.size)) b=some u:=fun b u q nx=>by
    have n1:b≠e:=fun z=>by
      rw [z,hH] at q
      cases q
      exact nx _ rfl
    rw [upd_ne n1,upd_ne (ne_of_none q fd)]
    exact q
  have ne':∀ b,H2 b=none->b≠e:=fun b q z=>by
    rw [z,hH] at q
    cases q
  refine ⟨σ,_,I2.un (H':=upd (upd H2 s2.heap.objs.size (XD s2.heap.objs.size [(m,y)])) e (XO e C (some s2.heap.objs.size))) (h':=h') (t':=s2.toks + 2) ⟨fun b o q n _ _=>kp b o (ne' b n) q,fun b o q n _ _=>⟨o.slots,kp b o (ne' b n) q⟩,fun b o q n _=>?_,fun b o q _=>?_,fun b xs q=>ns b _ q (by intro ψ z; cases z),fun b o u q=>ns b _ q (by intro ψ z; cases z),fun b ps q=>⟨#[],by rw [ns b _ q (by intro ψ z; cases z)]; simp⟩⟩ fun b u q=>?_,q2 _ fd nd⟩
  · rw [upd_ne (ne' b n),upd_ne (Nat.ne_of_lt (Heap.lt_size q))]
    exact n
  · by_cases z:b=e
    · rw [z]
      exact ⟨_,he⟩
    · exact ⟨o,kp b o z q⟩
  · by_cases z:b=e
    · subst z
      rw [upd_same] at q
      cases q
      exact XO.ok ⟨_,ws,t0,he,g2,rfl,g4,g5,g6⟩
    · rw [upd_ne z] at q
      by_cases z2:b=s2.heap.objs.size
      · subst z2
        rw [upd_same] at q
        cases q
        refine XD.ok ⟨_,hn,fun f=>?_,fun f hf=>?_,show 1<=1000 by decide⟩
        · rw [List.lookup_cons]
          by_cases w:f=m
          · rw [if_pos w,w,beq_self_eq_true]
            exact ry
          · rw [if_neg w,beq_eq_false_iff_ne.mpr w]
            exact True.intro
        · by_cases w:f=m
          · rw [w]
            exact List.mem_cons_self
          · exact absurd (if_neg w) hf
      · rw [upd_ne z2] at q
        refine (I2.hok b u q).stay (fun c v hc r=>kp c v (fun w=>?_) r) (fun c r=>ns c _ r (by intro ψ z; cases z)) fun c xs r=>ns c _ r (by intro ψ z; cases z)
        rcases hc with hc | hc
        · exact z (hc.symm.trans w)
        · rw [w,hH] at hc
          cases hc
end
end L2
namespace L2
open PySem PySem.Spec PyProof.Rows
section
variable {X:Cx} {pins:List (Addr × Obj)} {σ:St} {H:Hp} {s:Shared} {h':Heap} {xs:List Addr}
theorem Inv.moved (I:Inv X pins σ H s) (m:Mv (frs X.stack) xs s.heap h')
    (hx:∀ b∈xs,H b=none/\(b∈X.ex\/X.s₀.heap.objs.size<=b)/\b≠X.env.locals/\(∀ x c,X.env.cells.lookup x=some c->c≠b)/\∀ p∈X.pn ++ pins,p.1≠b):Inv X pins σ H { s with heap:=h' } :=
  I.call (g':=s.gens) (d':=s.drawn) (t':=s.toks) (ch:=xs) ⟨fun b o q _ f x=>m.keep b o q f x,fun b o q _ _ x=>m.slot b o q x,fun _ _ _ n _=>n,fun b o q _=>m.there b o q,fun _ _ q=>q,fun _ _ _ q=>q,fun _ ps q=>⟨#[],by rw [q]; simp⟩⟩
    (I.hok.moved m I.stkFree fun b hb=>(hx b hb).1) I.bare fun b hb=>(hx b hb).2
theorem Inv.apart (I:Inv X pins σ H s) {b:Addr} {o:Obj} {vs:Array Value} (q:s.heap.get? b=some o) (d:o.data=.fields vs):b≠X.env.locals/\∀ x c,X.env.cells.lookup x=some c->c≠b:=by
  refine ⟨fun z=>?_,fun x c e z=>?_⟩
  · obtain ⟨m,⟨o',es,ep,ho,hd,_⟩,_⟩:=I.loc
    rw [z,ho] at q
    cases q
    rw [hd] at d
    cases d
  · obtain ⟨v,o',ho,hd⟩:=I.cell x c e
    rw [z,q] at ho
    cases ho
    rw [d] at hd
    cases hd
abbrev Cx.inEx (X:Cx) (u:Value) (p:List (Addr × Obj)):Cx:={ X with A:=X.A.mark (some u),calm:=false,pn:=p ++ X.pn,xe:=fun _ _=>False }
theorem Inv.inEx (I:Inv X pins σ H s) (u:Value) {p:List (Addr × Obj)} (hp:∀ q∈p,s.heap.get? q.1=some q.2/\H q.1=none/\q.1≠X.env.locals/\q.1 ∉ X.fs/\∀ v,q.2.data≠.cell v):Inv (X.inEx u p) pins σ H s :=
  ⟨⟨I.ok.mod,I.ok.kind,I.ok.glob,I.ok.blt,I.ok.above,I.ok.inj,I.ok.has,I.ok.cab,(fun z=>nomatch z),I.ok.frames,I.ok.stk,I.ok.exf,I.ok.bs,I.ok.bsz,I.ok.noex,I.ok.exfs,I.ok.funs,I.ok.frf⟩,I.os,I.bare,I.base,I.loc,I.cell,I.free,I.freeC,fun q hq=>by
    have hq':q∈(p ++ X.pn) ++ pins:=hq
    rw [List.append_assoc] at hq'
    rcases List.mem_append.mp hq' with z | z
    · exact hp q z
    · exact I.pin q z,I.hok,I.len⟩
theorem Inv.outEx {u:Value} {p:List (Addr × Obj)} (ok:X.Ok) (I:Inv (X.inEx u p) pins σ H s):Inv X pins σ H s :=
  ⟨ok,I.os,I.bare,I.base,I.loc,I.cell,I.free,I.freeC,fun q hq=>I.pin q (by
    show q∈(p ++ X.pn) ++ pins
    rw [List.append_assoc]
    exact List.mem_append_right _ hq),I.hok,I.len⟩
theorem unbind_ok {A:Around} {E:Value->Shared->Prop} {i:Nat} {n:Str} {pos:Pos} {Q:Unit->Shared->Prop} (I:Inv X pins σ H s) (hN:X.N.Nodup) (hi:X.N[i]?=some n) (hl:X.env.scope.names.lookup n=some .local)
    (h:∀ s',Inv X pins (σ.set i none) H s'->Q () s'):wpAny (model X.prog X.w) A (do bindName X.env n .none; unbindBehindTheSuite X.env n pos) Q E s:=by
  obtain ⟨m,hn,hlk⟩:=id I.loc
  have iσ:i < σ.length:=by rw [I.len]; exact (List.getElem?_eq_some_iff.mp hi).1
  refine wpAny_nameGoes_keeps (env:=X.env) hl hn (by rw [I.ok.kind]; rfl) fun h' v hn' hs=>h _ ?_
  have nl:∀ (b:Addr) (o:Obj),X.s₀.heap.get? b=some o->b≠X.env.locals:=fun b o q=>Nat.ne_of_lt (Nat.lt_of_lt_of_le (Heap.lt_size q) I.ok.above)
  refine ⟨I.ok,I.os,I.bare,⟨fun b o q n hb hx=>(hs.2 b (nl b o q)).trans (I.base.keep b o q n hb hx),fun b o q n hb hx=>?_,I.base.free,fun b o q hx=>?_,I.base.tups,I.base.frzs,I.base.tbls⟩,⟨_,hn',fun j y v' e1 e2 e3=>?_⟩,fun y c q=>?_,I.free,I.freeC,fun p hp=>?_,fun b u q=>?_,by rw [List.length_set]; exact I.len⟩
  · obtain ⟨sl,q1⟩:=I.base.slot b o q n hb hx
    exact ⟨sl,(hs.2 b (nl b o q)).trans q1⟩
  · obtain ⟨o1,q1⟩:=I.base.there b o q hx
    exact ⟨o1,(hs.2 b (nl b o q)).trans q1⟩
  · have hj:j≠i:=fun z=>by
      rw [z,List.getElem?_set_self iσ] at e2
      cases e2
    rw [List.getElem?_set_ne (Ne.symm hj)] at e2
    obtain ⟨u,r,q⟩:=hlk j y v' e1 e2 e3
    refine ⟨u,r,?_⟩
    rcases q with ⟨k,e⟩ | ⟨k,c,e,z⟩
    · have ny:y≠n:=fun z=>hj (nodup_ix hN e1 (z ▸ hi))
      exact .inl ⟨k,by simp [ny,e]⟩
    · exact .inr ⟨k,c,e,z.sameBut hs (I.cne y c e)⟩
  · obtain ⟨w,z⟩:=I.cell y c q
    exact ⟨w,z.sameBut hs (I.cne y c q)⟩
  · obtain ⟨a,b,c,d⟩:=I.pin p hp
    exact ⟨(hs.2 p.1 c).trans a,b,c,d⟩
  · refine (I.hok b u q).stay (fun c v hc r=>(hs.2 c fun z=>?_).trans r) (fun _ r=>r) fun _ _ r=>r
    rcases hc with hc | hc
    · rw [<- hc,z,I.free] at q
      cases q
    · rw [z,I.free] at hc
      cases hc
end
abbrev Ends.behind (D:Ends) (i:Nat):Ends:={ nx:=fun σ H=>D.nx (σ.set i none) H,rt:=D.rt,bk:=fun σ H=>D.bk (σ.set i none) H,ct:=fun σ H=>D.ct (σ.set i none) H }
section
variable {X:Cx} {Ch:Addr} {x n:Str} {i:Nat} {np hpos tpos:Pos} {b0:Stmt} {suite:List Stmt} {th:Addr->Obj->TS}
variable {k:Nat} {f:Addr} {fd:FuncData} {ps:List Str} {sp:Sp} {y:Str} {p cpos epos:Pos} {a:Expr} {as:List Expr} {t:TA}
end
end L2
namespace L2
open PySem PySem.Spec PyProof.Rows
section
variable {X:Cx} {pins:List (Addr × Obj)} {σ:St} {H:Hp} {s:Shared} {h':Heap}
theorem Inv.turns {t':Nat} {ch:List Addr} (I:Inv X pins σ H s) (k:∀ b o,b ∉ ch->s.heap.get? b=some o->h'.get? b=some o) (hf:∀ b∈ch,FpOk X pins H b):Inv X pins σ H { s with heap:=h',toks:=t' }:=by
  have nit:∀ b u,H b=some u->b ∉ ch:=fun b u e z=>by rw [(hf b z).1] at e; cases e
  refine I.call (g':=s.gens) (d':=s.drawn) (t':=t') (ch:=ch) ⟨fun b o q _ _ x=>k b o x q,fun b o q _ _ x=>⟨o.slots,k b o x q⟩,fun _ _ _ n _=>n,fun b o q x=>⟨o,k b o x q⟩,fun _ _ q=>q,fun _ _ _ q=>q,fun _ ps q=>⟨#[],by rw [q]; simp⟩⟩
    (fun b u e=>(I.hok b u e).stay (fun c v hc q=>k c v ?_ q) (fun _ q=>q) fun _ _ q=>q) I.bare fun b hb=>?_
  · rcases hc with z | z
    · rw [z]; exact nit b u e
    · exact nit c _ z
  · obtain ⟨f0,f1,f2,f3,f4,f5⟩:=hf b hb
    exact ⟨f3,f1,f4,f5⟩
end
section
variable {X:Cx} {elts:List Expr} {k:Nat} {tpos:Pos}
end
end L2
namespace L2
open PySem PySem.Spec PyProof.Rows Builtin Builtin.Str
section
variable {X:Cx}
theorem strs_of_vals:∀ {zs:List Str} {us:List Value},Vals (zs.map V.str) us->∃ l:List (Str × Tok),us=strValues l/\l.map (·.1)=zs
  | [],_,.nil=>⟨[],rfl,rfl⟩
  | z :: zs,_,.cons ⟨t,e⟩ r=>by
    obtain ⟨l,rfl,h⟩:=strs_of_vals r
    exact ⟨(z,t) :: l,by rw [e]; rfl,by rw [List.map_cons,h]⟩
theorem fold_len (sep:Str):∀ (zs:List Str) (a:Nat),zs.foldl (· + ·.length + sep.length) a=a + ((zs.map (·.length)).sum + zs.length * sep.length)
  | [],a=>by simp
  | z :: zs,a=>by
    rw [List.foldl_cons,fold_len sep zs]
    simp only [List.map_cons,List.sum_cons,List.length_cons,Nat.add_mul,Nat.one_mul]
    lia
def wide (sep:Str) (zs:List Str):Nat:=(zs.map (·.length)).sum + zs.length * sep.length
def rJoin (K:PySem.W.Frag):V->List V->Hp->VK->Prop:=fun x vs H Q=>∃ sep p zs,x=.str sep/\vs=[.ref p]/\SqL K H p (zs.map V.str)/\wide sep zs<=sizeLine/\Q (.str (Str.join sep zs)) H
theorem mt_join:MtR X "str.join" (rJoin X.K):=by
  intro pins s σ H x vs v us Q I rx rv h
  obtain ⟨sep,p,zs,rfl,rfl,hq,hw,q⟩:=h
  obtain ⟨t,rfl⟩:=rx
  obtain ⟨u,rfl,ru⟩:=rv.one
  cases ru
  obtain ⟨its,r,pl,hz⟩:=I.list hq
  obtain ⟨l,rfl,hl⟩:=strs_of_vals r
  have big:tooLong ((l.map (·.1)).toArray.foldl (· + ·.length + sep.length) 0)=false:=by
    rw [hl,List.foldl_toArray,fold_len]
    unfold tooLong
    rw [decide_eq_false_iff_not]
    unfold wide at hw
    lia
  have hg:=size_glued sep zs
  have hle:(glued sep zs).length<=sizeLine:=by
    rw [hg]
    unfold wide at hw
    have:(zs.length - 1) * sep.length<=zs.length * sep.length:=Nat.mul_le_mul_right _ (Nat.sub_le _ _)
    lia
  refine call_meets F.slot_str_join (typeIs_str _ _ _) F.entry_str_join (F.args_str_join_2 _ _) (meets_str_join_list sep t p l big) ⟨pl.isList,?_⟩
  rw [<- StrLaws.glued_eq_join] at q
  match l,hl with
  | [],hl=>exact ⟨by rw [hl]; exact hle,.str _,H,I.tok _,⟨_,rfl⟩,by rw [hl]; exact q⟩
  | [(z,tz)],hl =>
    have e:glued sep zs=z:=by
      rw [<- hl]
      rfl
    rw [e] at q
    exact ⟨.str z,H,I,⟨tz,rfl⟩,q⟩
  | a :: b :: r,hl=>exact ⟨by rw [hl]; exact hle,.str _,H,I.tok _,⟨_,rfl⟩,by rw [hl]; exact q⟩
theorem jm_join:jMt X "str.join" (rJoin X.K):=⟨mt_join⟩
def rEqE (K:PySem.W.Frag) (neg:Bool):R2:=fun x y H Q=>∃ p p' xs,x=.ref p/\y=.ref p'/\SqL K H p xs/\SqL K H p' []/\Q (.bl (if neg then !xs.isEmpty else xs.isEmpty)) H
theorem op_eqE (hu:X.A.units < cLine):OpR X (compareOp .Eq) (rEqE X.K false):=by
  intro pins s σ H x y v u Q I rx ry h
  obtain ⟨p,p',xs,rfl,rfl,h1,h2,q⟩:=h
  cases rx
  cases ry
  obtain ⟨its,r,pl,_⟩:=I.list h1
  obtain ⟨its',r',pl',_⟩:=I.list h2
  cases r'
  cases r with
  | nil=>exact SeqAt.eq_listAt (e:=fun _=>true) pl.isList pl'.isList rfl hu (fun j h=>absurd h (Nat.not_lt_zero _)) ⟨.bl true,H,I,rfl,q⟩
  | cons a b=>exact SeqAt.eq_list_lengthsAt pl.isList pl'.isList rfl hu ⟨.bl false,H,I,rfl,q⟩
theorem op_neE (hu:X.A.units < cLine):OpR X (compareOp .NotEq) (rEqE X.K true):=by
  intro pins s σ H x y v u Q I rx ry h
  obtain ⟨p,p',xs,rfl,rfl,h1,h2,q⟩:=h
  cases rx
  cases ry
  obtain ⟨its,r,pl,_⟩:=I.list h1
  obtain ⟨its',r',pl',_⟩:=I.list h2
  cases r'
  cases r with
  | nil=>exact SeqAt.RcNeAt.lists (e:=fun _=>true) pl.isList pl'.isList rfl hu (fun j h=>absurd h (Nat.not_lt_zero _)) _ _ _ _ ⟨.bl false,H,I,rfl,q⟩
  | cons a b=>exact SeqAt.RcNeAt.lists_lengths pl.isList pl'.isList rfl hu _ _ _ _ ⟨.bl true,H,I,rfl,q⟩
theorem jo_eqE {k:Nat} (hr:Room k X.A):jOp X (compareOp .Eq) (rEqE X.K false):=⟨op_eqE hr.units0⟩
theorem jo_neE {k:Nat} (hr:Room k X.A):jOp X (compareOp .NotEq) (rEqE X.K true):=⟨op_neE hr.units0⟩
end
end L2
namespace L2
open PySem PySem.Spec PyProof.Rows
def Sq (k:Bool) (h:Heap) (l:Addr) (xs:Array Value):Prop:=match k with
  | true=>h.IsList l xs
  | false=>h.IsTuple l xs
def SqI (k:Bool) (h:Heap) (j l:Addr) (n:Nat):Prop:=match k with
  | true=>h.IsListIter j l n
  | false=>h.IsTupleIter j l n
def SqN (k:Bool):String:=if k then "list_iterator" else "tuple_iterator"
theorem Sq.at {k:Bool} {h h':Heap} {l:Addr} {xs:Array Value} (x:Sq k h l xs) (e:∀ o,h.get? l=some o->h'.get? l=some o):Sq k h' l xs:=by
  cases k <;> obtain ⟨o,ho,r⟩:=x <;> exact ⟨o,e _ ho,r⟩
theorem SqI.at {k:Bool} {h h':Heap} {j l:Addr} {n:Nat} (x:SqI k h j l n) (e:∀ o,h.get? j=some o->h'.get? j=some o):SqI k h' j l n:=by
  cases k <;> obtain ⟨o,ho,r⟩:=x <;> exact ⟨o,e _ ho,r⟩
theorem SqI.ex {k:Bool} {h:Heap} {j l:Addr} {n:Nat} (x:SqI k h j l n):∃ o,h.get? j=some o/\o.cls=.type (SqN k)/\o.data=.fields #[.ref l,.int n 0]:=by
  cases k <;> exact x
theorem SqI.of {k:Bool} {h:Heap} {j l:Addr} {n:Nat} (x:∃ o,h.get? j=some o/\o.cls=.type (SqN k)/\o.data=.fields #[.ref l,.int n 0]):SqI k h j l n:=by
  cases k <;> exact x
section
variable {P:Program} {w:World} {A:Around} {E:Value->Shared->Prop} {s:Shared}
theorem tup_next {j l:Addr} {n:Nat} {xs:Array Value} {x:Value} {Q:Value->Shared->Prop} (hj:s.heap.IsTupleIter j l n) (hl:s.heap.IsTuple l xs) (hx:xs[n]?=some x)
    (q:∀ h',h'.IsTupleIter j l (n + 1)->Heap.SameBut j s.heap h'->Q x { s with heap:=h' }):wpAny (model P w) A (Builtin.SmallTypes.nextOf (.ref j)) Q E s:=by
  have ⟨oj,hoj,cj,dj⟩:=hj
  have ⟨ol,hol,_,m,dl⟩:=hl
  unfold Builtin.SmallTypes.nextOf
  refine wpAny_bind (wpAny_callSpecial?_slot hj.typeIs F.slot_tuple_iterator_next (wpAny_call_entry F.slot_tuple_iterator_next hj.typeIs F.entry_tuple_iterator_next ?_ (F.args_tuple_iterator_next_1 (.ref j))))
  refine wpAny_bind (m:=field (.ref j) 0) (wpAny_field hoj dj (x:=.ref l) rfl ?_)
  have nn:¬ ((Value.ref l == Value.none)=true):=Bool.false_ne_true
  show wpAny _ _ (ite ((Value.ref l == Value.none)=true) _ _) _ _ _
  rw [if_neg nn]
  refine wpAny_bind (m:=field (.ref j) 1) (wpAny_field hoj dj (x:=.int n 0) rfl ?_)
  refine wpAny_bind (m:=seqItems? (.ref l)) (wpAny_seqItems hol dl ?_)
  simp only [Int.toNat_natCast,hx]
  refine wpAny_bind (wpAny_setField hoj dj (by simp) (wpAny_pure ⟨x,rfl,wpAny_pure (q _ ⟨_,Heap.get?_update_self _ hoj (Obj.isFreed_of_fields (Obj.data_mapFields dj _)),(Obj.cls_mapFields ..).trans cj,?_⟩ (Heap.SameBut.update ..))⟩))
  rw [Obj.data_mapFields dj]
  simp [rawInt]
theorem tup_end {j l:Addr} {n:Nat} {xs:Array Value} {Q:Value->Shared->Prop} (hA:A.handled=none) (hj:s.heap.IsTupleIter j l n) (hl:s.heap.IsTuple l xs) (hx:xs[n]?=none)
    (q:∀ h' e,Heap.ExtBut j s.heap h'->(∃ o,h'.get? e=some o/\o.cls=.type "StopIteration")->E (.ref e) { s with heap:=h' }):wpAny (model P w) A (Builtin.SmallTypes.nextOf (.ref j)) Q E s:=by
  have ⟨oj,hoj,cj,dj⟩:=hj
  have ⟨ol,hol,_,m,dl⟩:=hl
  unfold Builtin.SmallTypes.nextOf
  refine wpAny_bind (wpAny_callSpecial?_slot hj.typeIs F.slot_tuple_iterator_next (wpAny_call_entry F.slot_tuple_iterator_next hj.typeIs F.entry_tuple_iterator_next ?_ (F.args_tuple_iterator_next_1 (.ref j))))
  refine wpAny_bind (m:=field (.ref j) 0) (wpAny_field hoj dj (x:=.ref l) rfl ?_)
  have nn:¬ ((Value.ref l == Value.none)=true):=Bool.false_ne_true
  show wpAny _ _ (ite ((Value.ref l == Value.none)=true) _ _) _ _ _
  rw [if_neg nn]
  refine wpAny_bind (m:=field (.ref j) 1) (wpAny_field hoj dj (x:=.int n 0) rfl ?_)
  refine wpAny_bind (m:=seqItems? (.ref l)) (wpAny_seqItems hol dl ?_)
  simp only [Int.toNat_natCast,hx]
  refine wpAny_bind (wpAny_rule (wpAny_bind (wpAny_setField hoj dj (by simp) ?_)))
  refine wpAny_bind (m:=newExc (.type "StopIteration") []) ?_
  unfold newExc newTuple
  refine wpAny_bind (wpAny_newObj_type (wpAny_bind (m:=firstArgMember _ _) (wpAny_of_eq (a:=Value.none) (by first | rfl | (simp only [firstArgMember]; rfl)) (wpAny_newObj_type ?_ (by size_fits)))) (by size_fits))
  unfold raiseNew
  refine wpAny_bind (wpAny_handled ?_)
  rw [show A.in1.handled=none from hA]
  exact wpAny_bind (wpAny_pure (wpAny_throw (q _ _ (((Heap.SameBut.update ..).extBut.push _).push _) ⟨_,Heap.get?_push_size _ rfl,rfl⟩)))
theorem sq_next {k:Bool} {j l:Addr} {n:Nat} {xs:Array Value} {x:Value} {Q:Value->Shared->Prop} (hj:SqI k s.heap j l n) (hl:Sq k s.heap l xs) (hx:xs[n]?=some x)
    (q:∀ h',SqI k h' j l (n + 1)->Heap.SameBut j s.heap h'->Q x { s with heap:=h' }):wpAny (model P w) A (Builtin.SmallTypes.nextOf (.ref j)) Q E s:=by
  cases k with
  | true=>exact wpAny_nextOf_list_item hj hl hx q
  | false=>exact tup_next hj hl hx q
theorem sq_end {k:Bool} {j l:Addr} {n:Nat} {xs:Array Value} {Q:Value->Shared->Prop} (hA:A.handled=none) (hj:SqI k s.heap j l n) (hl:Sq k s.heap l xs) (hx:xs[n]?=none)
    (q:∀ h' e,Heap.ExtBut j s.heap h'->(∃ o,h'.get? e=some o/\o.cls=.type "StopIteration")->E (.ref e) { s with heap:=h' }):wpAny (model P w) A (Builtin.SmallTypes.nextOf (.ref j)) Q E s:=by
  cases k with
  | true=>exact wpAny_nextOf_list_end hA hj hl hx q
  | false=>exact tup_end hA hj hl hx q
theorem sq_iter {k:Bool} {l:Addr} {xs:Array Value} {Q:Value->Shared->Prop} (hl:Sq k s.heap l xs) (q:Q (.ref s.heap.objs.size) { s with heap:=s.heap.push { cls:=.type (SqN k),data:=.fields #[.ref l,.int 0 0] } }) :
    wpAny (model P w) A (pyIter (.ref l)) Q E s:=by
  cases k with
  | true=>exact wpAny_pyIter_list hl q
  | false=>exact wpAny_pyIter_tuple hl q
end
abbrev za (k:Bool) (h:Heap) (l:Addr):Heap:=h.push { cls:=.type (SqN k),data:=.fields #[.ref l,.int 0 0] }
abbrev zb (k m:Bool) (h:Heap) (l r:Addr):Heap:=za m (za k h l) r
abbrev zc (k m:Bool) (h:Heap) (l r:Addr):Heap:=(zb k m h l r).push { cls:=.type "tuple",data:=.seq #[.ref h.objs.size,.ref (za k h l).objs.size] }
abbrev zd (k m:Bool) (h:Heap) (l r:Addr):Heap:=(zc k m h l r).push { cls:=.type "tuple",data:=.seq #[.none,.none] }
abbrev ze (k m:Bool) (h:Heap) (l r:Addr):Heap:=(zd k m h l r).push { cls:=.type "zip",data:=.fields #[.none,.bool false,.bool false,.ref (zb k m h l r).objs.size,.ref (zc k m h l r).objs.size] }
theorem zip_made (k m:Bool) (l r:Addr) (xs ys:Array Value):Meets (Builtin.«zip.__new__» ⟨[.type "zip",.ref l,.ref r],[]⟩)
    (fun _ R s=>Sq k s.heap l xs/\Sq m s.heap r ys/\R (.ok (.ret (.ref (zd k m s.heap l r).objs.size))) { s with heap:=ze k m s.heap l r }) :=
  .of_wp fun prog w A R s h=>by
    obtain ⟨hp,g,d,tk,os⟩:=s
    obtain ⟨h1,h2,h⟩:=h
    have hs:=sub_zip
    have q1:Sq k (Shared.heap ⟨hp,g,d,tk,os⟩) l xs:=h1
    have q2:Sq m (Shared.heap ⟨za k hp l,g,d,tk,os⟩) r ys:=h2.at fun o e=>Heap.get?_push_of_some _ e
    wp_walk using sq_iter q1,sq_iter q2
    exact ⟨_,rfl,h⟩
structure ZS (k m:Bool) (h:Heap) (B l r:Nat) (n:Nat) (f g:Value):Prop where
  z:h.get? (B + 4)=some { cls:=.type "zip",data:=.fields #[f,g,.bool false,.ref (B + 2),.ref (B + 3)] }
  ti:IsPair h (B + 2) (.ref B) (.ref (B + 1))
  to:∃ a b,IsPair h (B + 3) a b
  i:SqI k h B l n
  j:SqI m h (B + 1) r n
theorem ZS.at {k m:Bool} {h h':Heap} {B l r:Nat} {n:Nat} {f g:Value} (x:ZS k m h B l r n f g) (e:∀ (b:Nat) o,B<=b->b<=B + 4->h.get? b=some o->h'.get? b=some o):ZS k m h' B l r n f g where
  z:=e _ _ (by lia) (by lia) x.z
  ti:=e _ _ (by lia) (by lia) x.ti
  to:=let ⟨a,b,y⟩:=x.to; ⟨a,b,e _ _ (by lia) (by lia) y⟩
  i:=x.i.at fun o=>e _ o (by lia) (by lia)
  j:=x.j.at fun o=>e _ o (by lia) (by lia)
def KeptZ (B:Nat) (h h':Heap):Prop:=∀ (c:Nat) o,(c < B\/B + 4 < c)->h.get? c=some o->h'.get? c=some o
section
variable {P:Program} {w:World} {A:Around} {E:Value->Shared->Prop} {s:Shared} {k m:Bool} {B l r:Nat} {n:Nat} {xs ys:Array Value} {x y f g:Value}
theorem zip_call {Q:Value->Shared->Prop} (hl:Sq k s.heap l xs) (hr:Sq m s.heap r ys)
    (q:∀ h',ZS k m h' s.heap.objs.size l r 0 .none (.bool false)->h'.objs.size=s.heap.objs.size + 5->(∀ c o,s.heap.get? c=some o->h'.get? c=some o)->Q (.ref (s.heap.objs.size + 4)) { s with heap:=h' }) :
    wpAny (model P w) A (call (.type "zip") [.ref l,.ref r]) Q E s:=by
  apply callType_new F.called_zip (by decide) (F.typeCall_zip_2 _ _) (F.newCall_zip_2 _ _) (fun obj=>F.args_object_init_3 obj _ _) F.entry_zip_new (zip_made k m l r xs ys)
  refine ⟨hl,hr,?_⟩
  have s1:(za k s.heap l).objs.size=s.heap.objs.size + 1:=Heap.size_push ..
  have s2:(zb k m s.heap l r).objs.size=s.heap.objs.size + 2:=by rw [Heap.size_push,s1]
  have s3:(zc k m s.heap l r).objs.size=s.heap.objs.size + 3:=by rw [Heap.size_push,s2]
  have s4:(zd k m s.heap l r).objs.size=s.heap.objs.size + 4:=by rw [Heap.size_push,s3]
  have s5:(ze k m s.heap l r).objs.size=s.heap.objs.size + 5:=by rw [Heap.size_push,s4]
  have up:∀ {c o},(zd k m s.heap l r).get? c=some o->(ze k m s.heap l r).get? c=some o:=fun e=>Heap.get?_push_of_some _ e
  have p5:(ze k m s.heap l r).get? (zd k m s.heap l r).objs.size=some _:=Heap.get?_push_size _ rfl
  have p4:(ze k m s.heap l r).get? (zc k m s.heap l r).objs.size=some _:=up (Heap.get?_push_size _ rfl)
  have p3:(ze k m s.heap l r).get? (zb k m s.heap l r).objs.size=some _:=up (Heap.get?_push_of_some _ (Heap.get?_push_size _ rfl))
  have p2:(ze k m s.heap l r).get? (za k s.heap l).objs.size=some _:=up (Heap.get?_push_of_some _ (Heap.get?_push_of_some _ (Heap.get?_push_size _ rfl)))
  have p1:(ze k m s.heap l r).get? s.heap.objs.size=some _:=up (Heap.get?_push_of_some _ (Heap.get?_push_of_some _ (Heap.get?_push_of_some _ (Heap.get?_push_size _ rfl))))
  rw [s4,s2,s3] at p5
  rw [s3] at p4
  rw [s2,s1] at p3
  rw [s1] at p2
  show _/\_
  rw [s4]
  exact ⟨⟨_,p5,rfl⟩,q _ ⟨p5,p3,⟨_,_,p4⟩,.of ⟨_,p1,rfl,rfl⟩,.of ⟨_,p2,rfl,rfl⟩⟩ s5 fun c o e=>up (Heap.get?_push_of_some _ (Heap.get?_push_of_some _ (Heap.get?_push_of_some _ (Heap.get?_push_of_some _ e))))⟩
theorem zip_free {Q:Value->Shared->Prop} (Z:ZS k m s.heap B l r n .none g) (hl:Sq k s.heap l xs) (hr:Sq m s.heap r ys) (ll:l < B) (rl:r < B) (hx:xs[n]?=some x) (hy:ys[n]?=some y)
    (q:∀ h',ZS k m h' B l r (n + 1) (rawInt s.heap.objs.size) (.bool false)->IsPair h' s.heap.objs.size x y->h'.objs.size=s.heap.objs.size + 1->KeptZ B s.heap h'->Q (.ref s.heap.objs.size) { s with heap:=h' }) :
    wpAny (model P w) A (Builtin.«zip.__next__» ⟨[.ref (B + 4)],[]⟩) (fun fin s'=>∃ v,fin=.done (.ret v)/\Q v s') E s:=by
  obtain ⟨a,b,hto⟩:=Z.to
  refine wpAny_bind (m:=field (.ref (B + 4)) 2) (wpAny_field Z.z rfl (x:=.bool false) rfl ?_)
  refine wpAny_bind (m:=field (.ref (B + 4)) 3) (wpAny_field Z.z rfl (x:=.ref (B + 2)) rfl (wpAny_bind (wpAny_seqItems Z.ti rfl ?_)))
  refine wpAny_bind (m:=Builtin.SmallTypes.ownedTupleIsFree (.ref (B + 4))) ?_
  unfold Builtin.SmallTypes.ownedTupleIsFree
  refine wpAny_bind (wpAny_field Z.z rfl (x:=.none) rfl (wpAny_pure ?_))
  rw [if_pos rfl]
  refine wpAny_bind (wpAny_rule (wpAny_bind (wpAny_field Z.z rfl (x:=.ref (B + 3)) rfl (wpAny_bind (wpAny_setField_rec Z.z (by simp) fun h1 z1 u1=>wpAny_bind ?_)))))
  replace z1:h1.get? (B + 4)=some { cls:=.type "zip",data:=.fields #[.ellipsis,g,.bool false,.ref (B + 2),.ref (B + 3)] }:=z1
  have k1:∀ (c:Nat) o,c≠B + 4->s.heap.get? c=some o->h1.get? c=some o:=fun c o n e=>(u1.2 c n).trans e
  simp only [List.zipIdx_cons,List.zipIdx_nil,List.forIn_cons,List.forIn_nil]
  refine wpAny_bind (wpAny_bind (wpAny_onRaise (wpAny_bind (m:=Builtin.SmallTypes.nextOf (.ref B)) ?_)))
  refine sq_next (Z.i.at fun o=>k1 _ o (by lia)) (hl.at fun o=>k1 _ o (by lia)) hx fun h2 i2 u2=>wpAny_pure ?_
  have k2:∀ (c:Nat) o,c≠B->h1.get? c=some o->h2.get? c=some o:=fun c o n e=>(u2.2 c n).trans e
  have to2:IsPair h2 (B + 3) a b:=k2 _ _ (by lia) (k1 _ _ (by lia) hto)
  refine wpAny_bind (wpAny_seqItems to2 rfl (wpAny_bind (wpAny_updateSeq_pair to2 fun h3 to3 u3=>?_)))
  replace to3:IsPair h3 (B + 3) x b:=to3
  have k3:∀ (c:Nat) o,c≠B + 3->h2.get? c=some o->h3.get? c=some o:=fun c o n e=>(u3.2 c n).trans e
  refine wpAny_bind (wpAny_letGo (wpAny_pure (wpAny_bind (wpAny_bind (wpAny_onRaise (wpAny_bind (m:=Builtin.SmallTypes.nextOf (.ref (B + 1))) ?_))))))
  refine sq_next (Z.j.at fun o e=>k3 _ o (by lia) (k2 _ o (by lia) (k1 _ o (by lia) e))) (hr.at fun o e=>k3 _ o (by lia) (k2 _ o (by lia) (k1 _ o (by lia) e))) hy fun h4 i4 u4=>wpAny_pure ?_
  have k4:∀ (c:Nat) o,c≠B + 1->h3.get? c=some o->h4.get? c=some o:=fun c o n e=>(u4.2 c n).trans e
  have to4:IsPair h4 (B + 3) x b:=k4 _ _ (by lia) to3
  refine wpAny_bind (wpAny_seqItems to4 rfl (wpAny_bind (wpAny_updateSeq_pair to4 fun h5 to5 u5=>?_)))
  replace to5:IsPair h5 (B + 3) x y:=to5
  have k5:∀ (c:Nat) o,c≠B + 3->h4.get? c=some o->h5.get? c=some o:=fun c o n e=>(u5.2 c n).trans e
  refine wpAny_bind (wpAny_letGo (wpAny_pure (wpAny_pure (wpAny_bind (wpAny_seqItems to5 rfl (wpAny_bind (wpAny_newTuple ?_)))))))
  have sz:h5.objs.size=s.heap.objs.size:=by rw [u5.1,u4.1,u3.1,u2.1,u1.1]
  have z5:h5.get? (B + 4)=some { cls:=.type "zip",data:=.fields #[.ellipsis,g,.bool false,.ref (B + 2),.ref (B + 3)] }:=k5 _ _ (by lia) (k4 _ _ (by lia) (k3 _ _ (by lia) (k2 _ _ (by lia) z1)))
  have lt4:B + 4 < h5.objs.size:=Heap.lt_size z5
  refine wpAny_bind (m:=Builtin.SmallTypes.ownedTupleHandOut (.ref (B + 4)) (.ref h5.objs.size)) ?_
  unfold Builtin.SmallTypes.ownedTupleHandOut
  refine wpAny_bind (wpAny_setField_rec (Heap.get?_push_of_some { cls:=.type "tuple",data:=.seq #[x,y] } z5) (by simp) fun h7 z7 u7=>?_)
  refine wpAny_setField_rec z7 (by simp) fun h8 z8 u8=>wpAny_pure ⟨.ref h5.objs.size,rfl,?_⟩
  have k8:∀ (c:Nat) o,c≠B + 4->h5.get? c=some o->h8.get? c=some o:=fun c o n e=>(u8.2 c n).trans ((u7.2 c n).trans (Heap.get?_push_of_some _ e))
  have p8:IsPair h8 h5.objs.size x y:=(u8.2 _ (Nat.ne_of_gt lt4)).trans ((u7.2 _ (Nat.ne_of_gt lt4)).trans (Heap.get?_push_size _ rfl))
  have s8:h8.objs.size=h5.objs.size + 1:=by rw [u8.1,u7.1,Heap.size_push]
  rw [sz] at p8 s8 ⊢
  refine q h8 ⟨?_,k8 _ _ (by lia) (k5 _ _ (by lia) (k4 _ _ (by lia) (k3 _ _ (by lia) (k2 _ _ (by lia) (k1 _ _ (by lia) Z.ti))))),⟨x,y,k8 _ _ (by lia) to5⟩,
    i2.at fun o e=>k8 _ _ (by lia) (k5 _ _ (by lia) (k4 _ _ (by lia) (k3 _ _ (by lia) e))),i4.at fun o e=>k8 _ _ (by lia) (k5 _ _ (by lia) e)⟩ p8 s8
    fun c o hc e=>k8 _ _ (by lia) (k5 _ _ (by lia) (k4 _ _ (by lia) (k3 _ _ (by lia) (k2 _ _ (by lia) (k1 _ _ (by lia) e)))))
  rw [<- sz]
  exact z8
theorem if_alive {a:Addr} {o:Obj} {Q:Option Obj->Shared->Prop} (ho:s.heap.get? a=some o) (h:Q (some o) s):wpAny (model P w) A (loadIfAlive a) Q E s:=fun Γ p _=>by
  unfold loadIfAlive
  rw [Sem.wp_loadIfAlive,ho]
  simpa using h
theorem own_held {Q:Bool->Shared->Prop} {T:Nat} {ot:Obj} {c:Bool} (hz:s.heap.get? (B + 4)=some { cls:=.type "zip",data:=.fields #[rawInt T,.bool c,.bool false,.ref (B + 2),.ref (B + 3)] }) (hT:s.heap.get? T=some ot)
    (q:∀ h1,h1.get? (B + 4)=some { cls:=.type "zip",data:=.fields #[rawInt T,.bool true,.bool false,.ref (B + 2),.ref (B + 3)] }->h1.objs.size=s.heap.objs.size->(∀ (d:Nat) o,d≠B + 4->s.heap.get? d=some o->h1.get? d=some o)->Q false { s with heap:=h1 }) :
    wpAny (model P w) A (Builtin.SmallTypes.ownedTupleIsFree (.ref (B + 4))) Q E s:=by
  unfold Builtin.SmallTypes.ownedTupleIsFree
  refine wpAny_bind (wpAny_field hz rfl (x:=rawInt T) rfl ?_)
  refine wpAny_bind (m:=loadIfAlive ((T:Int).toNat)) (if_alive (o:=ot) (by rw [Int.toNat_natCast]; exact hT) ?_)
  rw [if_neg (by simp)]
  refine wpAny_bind (wpAny_field hz rfl (x:=.bool c) rfl ?_)
  cases c with
  | true =>
    rw [if_neg (by decide)]
    exact wpAny_pure (q _ hz rfl fun d o _ e=>e)
  | false =>
    rw [if_pos (by decide)]
    exact wpAny_bind (wpAny_setField_rec hz (by simp) fun h1 z1 u1=>wpAny_pure (q h1 z1 u1.1 fun d o n e=>(u1.2 d n).trans e))
theorem zip_held {Q:Value->Shared->Prop} {T:Nat} {ot:Obj} {c:Bool} (Z:ZS k m s.heap B l r n (rawInt T) (.bool c)) (hT:s.heap.get? T=some ot) (hl:Sq k s.heap l xs) (hr:Sq m s.heap r ys) (ll:l < B) (rl:r < B) (hx:xs[n]?=some x) (hy:ys[n]?=some y)
    (q:∀ h',ZS k m h' B l r (n + 1) (rawInt T) (.bool true)->IsPair h' s.heap.objs.size x y->h'.objs.size=s.heap.objs.size + 1->KeptZ B s.heap h'->Q (.ref s.heap.objs.size) { s with heap:=h' }) :
    wpAny (model P w) A (Builtin.«zip.__next__» ⟨[.ref (B + 4)],[]⟩) (fun fin s'=>∃ v,fin=.done (.ret v)/\Q v s') E s:=by
  obtain ⟨a,b,hto⟩:=Z.to
  refine wpAny_bind (m:=field (.ref (B + 4)) 2) (wpAny_field Z.z rfl (x:=.bool false) rfl ?_)
  refine wpAny_bind (m:=field (.ref (B + 4)) 3) (wpAny_field Z.z rfl (x:=.ref (B + 2)) rfl (wpAny_bind (wpAny_seqItems Z.ti rfl ?_)))
  refine wpAny_bind (m:=Builtin.SmallTypes.ownedTupleIsFree (.ref (B + 4))) (own_held Z.z hT fun h1 z1 s1 k1=>?_)
  rw [if_neg Bool.false_ne_true]
  refine wpAny_bind ?_
  rw [<- Array.forIn_toList]
  simp only [List.forIn_cons,List.forIn_nil]
  refine wpAny_bind (wpAny_bind (wpAny_holding (wpAny_bind (m:=Builtin.SmallTypes.nextOf (.ref B)) ?_)))
  refine sq_next (Z.i.at fun o=>k1 _ o (by lia)) (hl.at fun o=>k1 _ o (by lia)) hx fun h2 i2 u2=>wpAny_pure (wpAny_pure ?_)
  have k2:∀ (c:Nat) o,c≠B->h1.get? c=some o->h2.get? c=some o:=fun c o n e=>(u2.2 c n).trans e
  refine wpAny_bind (wpAny_bind (wpAny_holding (wpAny_bind (m:=Builtin.SmallTypes.nextOf (.ref (B + 1))) ?_)))
  refine sq_next (Z.j.at fun o e=>k2 _ o (by lia) (k1 _ o (by lia) e)) (hr.at fun o e=>k2 _ o (by lia) (k1 _ o (by lia) e)) hy fun h4 i4 u4=>wpAny_pure (wpAny_pure (wpAny_pure ?_))
  have k4:∀ (c:Nat) o,c≠B + 1->h2.get? c=some o->h4.get? c=some o:=fun c o n e=>(u4.2 c n).trans e
  have sz:h4.objs.size=s.heap.objs.size:=by rw [u4.1,u2.1]; exact s1
  refine wpAny_bind (wpAny_newTuple (hsz:=by show 2<=sizeLine; decide) (wpAny_pure ⟨.ref h4.objs.size,rfl,?_⟩))
  have p5:IsPair (h4.push { cls:=.type "tuple",data:=.seq #[x,y] }) h4.objs.size x y:=Heap.get?_push_size _ rfl
  have s5:(h4.push { cls:=.type "tuple",data:=.seq #[x,y] }).objs.size=h4.objs.size + 1:=Heap.size_push ..
  rw [sz] at p5 s5 ⊢
  have k5:∀ (c:Nat) o,h4.get? c=some o->(h4.push { cls:=.type "tuple",data:=.seq #[x,y] }).get? c=some o:=fun c o e=>Heap.get?_push_of_some _ e
  exact q _ ⟨k5 _ _ (k4 _ _ (by lia) (k2 _ _ (by lia) z1)),k5 _ _ (k4 _ _ (by lia) (k2 _ _ (by lia) (k1 _ _ (by lia) Z.ti))),⟨a,b,k5 _ _ (k4 _ _ (by lia) (k2 _ _ (by lia) (k1 _ _ (by lia) hto)))⟩,
    i2.at fun o e=>k5 _ _ (k4 _ _ (by lia) e),i4.at fun o e=>k5 _ _ e⟩ p5 s5 fun c o hc e=>k5 _ _ (k4 _ _ (by lia) (k2 _ _ (by lia) (k1 _ _ (by lia) e)))
theorem zip_out {Q:PySem.Fin->Shared->Prop} (hA:A.handled=none) (Z:ZS k m s.heap B l r n .none g) (hl:Sq k s.heap l xs) (hr:Sq m s.heap r ys) (ll:l < B) (rl:r < B) (hx:xs[n]?=none\/ys[n]?=none)
    (q:∀ h' e,KeptZ B s.heap h'->(∃ o,h'.get? e=some o/\o.cls=.type "StopIteration")->E (.ref e) { s with heap:=h' }):wpAny (model P w) A (Builtin.«zip.__next__» ⟨[.ref (B + 4)],[]⟩) Q E s:=by
  obtain ⟨a,b,hto⟩:=Z.to
  refine wpAny_bind (m:=field (.ref (B + 4)) 2) (wpAny_field Z.z rfl (x:=.bool false) rfl ?_)
  refine wpAny_bind (m:=field (.ref (B + 4)) 3) (wpAny_field Z.z rfl (x:=.ref (B + 2)) rfl (wpAny_bind (wpAny_seqItems Z.ti rfl ?_)))
  refine wpAny_bind (m:=Builtin.SmallTypes.ownedTupleIsFree (.ref (B + 4))) ?_
  unfold Builtin.SmallTypes.ownedTupleIsFree
  refine wpAny_bind (wpAny_field Z.z rfl (x:=.none) rfl (wpAny_pure ?_))
  rw [if_pos rfl]
  refine wpAny_bind (wpAny_rule (wpAny_bind (wpAny_field Z.z rfl (x:=.ref (B + 3)) rfl (wpAny_bind (wpAny_setField_rec Z.z (by simp) fun h1 z1 u1=>wpAny_bind ?_)))))
  replace z1:h1.get? (B + 4)=some { cls:=.type "zip",data:=.fields #[.ellipsis,g,.bool false,.ref (B + 2),.ref (B + 3)] }:=z1
  have k1:∀ (c:Nat) o,c≠B + 4->s.heap.get? c=some o->h1.get? c=some o:=fun c o n e=>(u1.2 c n).trans e
  have nz:∀ {h:Heap} {e:Nat} {v:Value} {o:Obj},h.get? (B + 4)=some { cls:=.type "zip",data:=.fields #[v,g,.bool false,.ref (B + 2),.ref (B + 3)] }->h.get? e=some o->o.cls=.type "StopIteration"->e≠B + 4:=fun h1 h2 h3 e=>by
    rw [e,h1] at h2
    cases h2
    simp at h3
  simp only [List.zipIdx_cons,List.zipIdx_nil,List.forIn_cons,List.forIn_nil]
  refine wpAny_bind (wpAny_bind (wpAny_onRaise (wpAny_bind (m:=Builtin.SmallTypes.nextOf (.ref B)) ?_)))
  cases e1:xs[n]? with
  | none =>
    refine sq_end hA (Z.i.at fun o=>k1 _ o (by lia)) (hl.at fun o=>k1 _ o (by lia)) e1 fun h2 e u2 he=>?_
    obtain ⟨oe,he,ce⟩:=he
    have k2:∀ (c:Nat) o,c≠B->h1.get? c=some o->h2.get? c=some o:=fun c o n e=>u2 c o n e
    have z2:=k2 _ _ (show B + 4≠B by lia) z1
    refine wpAny_setField_rec z2 (by simp) fun h3 z3 u3=>q h3 e (fun c o hc x=>(u3.2 c (show (c:Nat)≠B + 4 by lia)).trans (k2 _ _ (by lia) (k1 _ _ (by lia) x))) ⟨oe,(u3.2 e (nz z2 he ce)).trans he,ce⟩
  | some x =>
    have hy:ys[n]?=none:=hx.resolve_left (by rw [e1]; simp)
    refine sq_next (Z.i.at fun o=>k1 _ o (by lia)) (hl.at fun o=>k1 _ o (by lia)) e1 fun h2 i2 u2=>wpAny_pure ?_
    have k2:∀ (c:Nat) o,c≠B->h1.get? c=some o->h2.get? c=some o:=fun c o n e=>(u2.2 c n).trans e
    have to2:IsPair h2 (B + 3) a b:=k2 _ _ (by lia) (k1 _ _ (by lia) hto)
    refine wpAny_bind (wpAny_seqItems to2 rfl (wpAny_bind (wpAny_updateSeq_pair to2 fun h3 to3 u3=>?_)))
    have k3:∀ (c:Nat) o,c≠B + 3->h2.get? c=some o->h3.get? c=some o:=fun c o n e=>(u3.2 c n).trans e
    refine wpAny_bind (wpAny_letGo (wpAny_pure (wpAny_bind (wpAny_bind (wpAny_onRaise (wpAny_bind (m:=Builtin.SmallTypes.nextOf (.ref (B + 1))) ?_))))))
    refine sq_end hA (Z.j.at fun o e=>k3 _ o (by lia) (k2 _ o (by lia) (k1 _ o (by lia) e))) (hr.at fun o e=>k3 _ o (by lia) (k2 _ o (by lia) (k1 _ o (by lia) e))) hy fun h4 e u4 he=>?_
    obtain ⟨oe,he,ce⟩:=he
    have k4:∀ (c:Nat) o,c≠B + 1->h3.get? c=some o->h4.get? c=some o:=fun c o n e=>u4 c o n e
    have z4:=k4 _ _ (show B + 4≠B + 1 by lia) (k3 _ _ (by lia) (k2 _ _ (by lia) z1))
    refine wpAny_setField_rec z4 (by simp) fun h5 z5 u5=>q h5 e (fun c o hc x=>(u5.2 c (show (c:Nat)≠B + 4 by lia)).trans (k4 _ _ (by lia) (k3 _ _ (by lia) (k2 _ _ (by lia) (k1 _ _ (by lia) x))))) ⟨oe,(u5.2 e (nz z4 he ce)).trans he,ce⟩
theorem zip_out_held {Q:PySem.Fin->Shared->Prop} {T:Nat} {ot:Obj} {c:Bool} (hA:A.handled=none) (Z:ZS k m s.heap B l r n (rawInt T) (.bool c)) (hT:s.heap.get? T=some ot) (hl:Sq k s.heap l xs) (hr:Sq m s.heap r ys) (ll:l < B) (rl:r < B) (hx:xs[n]?=none\/ys[n]?=none)
    (q:∀ h' e,KeptZ B s.heap h'->(∃ o,h'.get? e=some o/\o.cls=.type "StopIteration")->E (.ref e) { s with heap:=h' }):wpAny (model P w) A (Builtin.«zip.__next__» ⟨[.ref (B + 4)],[]⟩) Q E s:=by
  refine wpAny_bind (m:=field (.ref (B + 4)) 2) (wpAny_field Z.z rfl (x:=.bool false) rfl ?_)
  refine wpAny_bind (m:=field (.ref (B + 4)) 3) (wpAny_field Z.z rfl (x:=.ref (B + 2)) rfl (wpAny_bind (wpAny_seqItems Z.ti rfl ?_)))
  refine wpAny_bind (m:=Builtin.SmallTypes.ownedTupleIsFree (.ref (B + 4))) (own_held Z.z hT fun h1 z1 s1 k1=>?_)
  rw [if_neg Bool.false_ne_true]
  refine wpAny_bind ?_
  rw [<- Array.forIn_toList]
  simp only [List.forIn_cons,List.forIn_nil]
  refine wpAny_bind (wpAny_bind (wpAny_holding (wpAny_bind (m:=Builtin.SmallTypes.nextOf (.ref B)) ?_)))
  cases e1:xs[n]? with
  | none=>exact sq_end hA (Z.i.at fun o=>k1 _ o (by lia)) (hl.at fun o=>k1 _ o (by lia)) e1 fun h2 e u2 he=>q h2 e (fun c o hc x=>u2 _ _ (show (c:Nat)≠B by lia) (k1 _ _ (by lia) x)) he
  | some x =>
    have hy:ys[n]?=none:=hx.resolve_left (by rw [e1]; simp)
    refine sq_next (Z.i.at fun o=>k1 _ o (by lia)) (hl.at fun o=>k1 _ o (by lia)) e1 fun h2 i2 u2=>wpAny_pure (wpAny_pure ?_)
    have k2:∀ (c:Nat) o,c≠B->h1.get? c=some o->h2.get? c=some o:=fun c o n e=>(u2.2 c n).trans e
    refine wpAny_bind (wpAny_bind (wpAny_holding (wpAny_bind (m:=Builtin.SmallTypes.nextOf (.ref (B + 1))) ?_)))
    exact sq_end hA (Z.j.at fun o e=>k2 _ o (by lia) (k1 _ o (by lia) e)) (hr.at fun o e=>k2 _ o (by lia) (k1 _ o (by lia) e)) hy fun h4 e u4 he=>q h4 e (fun c o hc x=>u4 _ _ (show (c:Nat)≠B + 1 by lia) (k2 _ _ (by lia) (k1 _ _ (by lia) x))) he
end
end L2
namespace L2
open PySem PySem.Spec PyProof.Rows
def ZF (B:Nat) (h:Heap) (f g:Value):Prop:=f=.none\/∃ (T:Nat) (c:Bool) (o:Obj),f=rawInt T/\g=.bool c/\h.get? T=some o/\B + 5 < T
section
variable {P:Program} {w:World} {A:Around} {E:Value->Shared->Prop} {s:Shared} {k m:Bool} {B l r:Nat} {n:Nat} {xs ys:Array Value} {x y f g:Value}
theorem zip_step {Q:Option Value->Shared->Prop} (Z:ZS k m s.heap B l r n f g) (hf:ZF B s.heap f g) (hl:Sq k s.heap l xs) (hr:Sq m s.heap r ys) (ll:l < B) (rl:r < B) (hx:xs[n]?=some x) (hy:ys[n]?=some y)
    (q:∀ h' (T:Nat) (c:Bool),ZS k m h' B l r (n + 1) (rawInt T) (.bool c)->(T=s.heap.objs.size\/B + 5 < T/\∃ o,s.heap.get? T=some o)->IsPair h' s.heap.objs.size x y->h'.objs.size=s.heap.objs.size + 1->KeptZ B s.heap h'->Q (some (.ref s.heap.objs.size)) { s with heap:=h' }) :
    wpAny (model P w) A (pyNext (.ref (B + 4))) Q E s:=by
  have ty:s.TypeIs (.ref (B + 4)) "zip":=⟨_,Z.z,rfl⟩
  unfold pyNext
  refine wpAny_bind (wpAny_attempt (wpAny_callSpecial?_slot ty F.slot_zip_next (wpAny_call_entry F.slot_zip_next ty F.entry_zip_next ?_ (F.args_zip_next_1 (.ref (B + 4))))))
  rcases hf with rfl | ⟨T,c,o,rfl,rfl,hT,lT⟩
  · exact zip_free Z hl hr ll rl hx hy fun h' z p sz kz=>wpAny_pure (q h' _ _ z (.inl rfl) p sz kz)
  · exact zip_held Z hT hl hr ll rl hx hy fun h' z p sz kz=>wpAny_pure (q h' _ _ z (.inr ⟨lT,o,hT⟩) p sz kz)
theorem zip_stop {Q:Option Value->Shared->Prop} (hA:A.handled=none) (Z:ZS k m s.heap B l r n f g) (hf:ZF B s.heap f g) (hl:Sq k s.heap l xs) (hr:Sq m s.heap r ys) (ll:l < B) (rl:r < B) (hx:xs[n]?=none\/ys[n]?=none)
    (q:∀ h',KeptZ B s.heap h'->Q none { s with heap:=h' }):wpAny (model P w) A (pyNext (.ref (B + 4))) Q E s:=by
  have ty:s.TypeIs (.ref (B + 4)) "zip":=⟨_,Z.z,rfl⟩
  unfold pyNext
  refine wpAny_bind (wpAny_attempt (wpAny_callSpecial?_slot ty F.slot_zip_next (wpAny_call_entry F.slot_zip_next ty F.entry_zip_next ?_ (F.args_zip_next_1 (.ref (B + 4))))))
  have fin:∀ h' e,KeptZ B s.heap h'->(∃ o,h'.get? e=some o/\o.cls=.type "StopIteration")->wpAny (model P w) A (do
      if <- isInstance (.ref e) (.type "StopIteration") then pure none else throw (.ref e)) Q E { s with heap:=h' }:=by
    intro h' e kz ⟨o,ho,hc⟩
    exact wpAny_bind (wpAny_isInstance (T:="StopIteration") (b:=true) ⟨o,ho,hc⟩ isSubtype_stop (wpAny_pure (q _ kz)))
  rcases hf with rfl | ⟨T,c,o,rfl,rfl,hT,lT⟩
  · exact zip_out hA Z hl hr ll rl hx fun h' e kz he=>fin h' e kz he
  · exact zip_out_held hA Z hT hl hr ll rl hx fun h' e kz he=>fin h' e kz he
end
structure ZL (k m:Bool) (h0 h:Heap) (B l r n:Nat) (xs ys acc:Array Value) (c:Nat) (f g:Value):Prop where
  zs:ZS k m h B l r n f g
  zf:ZF B h f g
  hl:Sq k h l xs
  hr:Sq m h r ys
  sz:h.objs.size=B + 6 + n
  lst:h.get? (B + 5)=some { cls:=.type "list",data:=.seq acc c }
  asz:acc.size=n
  par:∀ i x y,i < n->xs[i]?=some x->ys[i]?=some y->acc[i]?=some (.ref (B + 6 + i))/\IsPair h (B + 6 + i) x y
  old:∀ (b:Nat) o,b < B->h0.get? b=some o->h.get? b=some o
section
variable {P:Program} {w:World} {A:Around} {R:Result->Shared->Prop} {h0:Heap} {k m:Bool} {B l r N:Nat} {xs ys:Array Value} {res:Value}
theorem zip_loop (hA:A.handled=none) (ll:l < B) (rl:r < B) (hN:N<=sizeLine) (hx:N<=xs.size) (hy:N<=ys.size) (he:xs.size<=N\/ys.size<=N):∀ (d n:Nat) (s:Shared) (acc:Array Value) (c:Nat) (f g:Value),n + d=N->ZL k m h0 s.heap B l r n xs ys acc c f g ->
    (∀ h' acc' c',h'.get? (B + 5)=some { cls:=.type "list",data:=.seq acc' c' }->acc'.size=N->(∀ i x y,i < N->xs[i]?=some x->ys[i]?=some y->acc'[i]?=some (.ref (B + 6 + i))/\IsPair h' (B + 6 + i) x y)->(∀ (b:Nat) o,b < B->h0.get? b=some o->h'.get? b=some o)->R (.ok (.ret res)) { s with heap:=h' }) ->
    codeAny (model P w) A (.builtin "list.extend.loop" ⟨[.ref (B + 5),.ref (B + 4),res],[]⟩) R s
  | 0,n,s,acc,c,f,g,hd,Z,q=>by
    have e:n=N:=by lia
    subst e
    refine codeAny_builtin F.entry_extend_loop ?_
    rw [Around.under_plainId F.plain_extend_loop _]
    refine wpAny_bind (m:=pyNext (.ref (B + 4))) (zip_stop (A:=A.in1) hA Z.zs Z.zf Z.hl Z.hr ll rl ?_ fun h' kz=>wpAny_pure (q h' acc c (kz _ _ (by lia) Z.lst) Z.asz ?_ fun b o hb x=>kz _ _ (by lia) (Z.old b o hb x)))
    · rcases he with he | he
      · exact .inl (Array.getElem?_eq_none (by lia))
      · exact .inr (Array.getElem?_eq_none (by lia))
    · intro i x y hi h1 h2
      obtain ⟨p1,p2⟩:=Z.par i x y hi h1 h2
      exact ⟨p1,kz _ _ (by lia) p2⟩
  | d + 1,n,s,acc,c,f,g,hd,Z,q=>by
    refine codeAny_builtin F.entry_extend_loop ?_
    rw [Around.under_plainId F.plain_extend_loop _]
    have hx':n < xs.size:=by lia
    have hy':n < ys.size:=by lia
    refine wpAny_bind (m:=pyNext (.ref (B + 4))) (zip_step (A:=A.in1) Z.zs Z.zf Z.hl Z.hr ll rl (Array.getElem?_eq_getElem hx') (Array.getElem?_eq_getElem hy') fun h' T ct z hT p sz kz=>?_)
    have s0:=Z.sz
    rw [s0] at p sz
    have l1:h'.get? (B + 5)=some { cls:=.type "list",data:=.seq acc c }:=kz _ _ (by lia) Z.lst
    have as:=Z.asz
    have up:∀ (b:Nat) o,b≠B + 5->h'.get? b=some o->(h'.update (B + 5) (Obj.mapSeq (·.push (.ref (B + 6 + n))))).get? b=some o:=fun b o nb e=>(Heap.get?_update_other _ _ (Ne.symm nb)).trans e
    rw [s0]
    refine wpAny_bind (m:=updateSeq (B + 5) (·.push (.ref (B + 6 + n)))) (wpAny_updateSeq l1 rfl (wpAny_pure ⟨plainId_quiet F.plain_extend_loop _,zip_loop hA ll rl hN hx hy he d (n + 1) _ (acc.push (.ref (B + 6 + n))) _ (rawInt T) (.bool ct) (by lia) ⟨?_,?_,?_,?_,?_,Heap.get?_update_self _ l1 rfl,?_,?_,?_⟩ q⟩) (by lia) (by show (acc.push _).size<=sizeLine + 1; rw [Array.size_push]; lia))
    · exact z.at fun b o h1 h2 e=>up b o (by lia) e
    · rcases hT with e | ⟨lT,o,hT⟩
      · rw [s0] at e
        subst e
        exact .inr ⟨_,ct,_,rfl,rfl,up _ _ (by lia) p,by lia⟩
      · exact .inr ⟨T,ct,o,rfl,rfl,up _ _ (by lia) (kz _ _ (by lia) hT),lT⟩
    · exact Z.hl.at fun o e=>up _ o (by lia) (kz _ o (by lia) e)
    · exact Z.hr.at fun o e=>up _ o (by lia) (kz _ o (by lia) e)
    · show (h'.update _ _).objs.size=_
      rw [Heap.size_update,sz]
      lia
    · rw [Array.size_push,as]
    · intro i x y hi h1 h2
      by_cases c1:i=n
      · subst c1
        rw [Array.getElem?_eq_getElem hx'] at h1
        rw [Array.getElem?_eq_getElem hy'] at h2
        cases h1
        cases h2
        refine ⟨?_,up _ _ (by lia) p⟩
        rw [Array.getElem?_push,if_pos as.symm]
      · obtain ⟨p1,p2⟩:=Z.par i x y (by lia) h1 h2
        refine ⟨?_,up _ _ (by lia) (kz _ _ (by lia) p2)⟩
        rw [Array.getElem?_push,if_neg (by lia)]
        exact p1
    · exact fun b o hb x=>up _ _ (by lia) (kz _ _ (by lia) (Z.old b o hb x))
end
end L2
namespace L2
open PySem PySem.Spec PyProof.Rows
theorem zip_len:typeLookup (.type "zip") "__len__"=pure none:=by rw [typeLookup_type,builtinLookup_eq_fast]; kernel_rfl
theorem zip_hint:typeLookup (.type "zip") "__length_hint__"=pure none:=by rw [typeLookup_type,builtinLookup_eq_fast]; kernel_rfl
section
variable {P:Program} {w:World} {A:Around} {E:Value->Shared->Prop} {s:Shared} {k m:Bool} {B l r N:Nat} {xs ys:Array Value}
theorem list_zip {Q:Value->Shared->Prop} (hA:A.handled=none) (Z:ZS k m s.heap B l r 0 .none (.bool false)) (hl:Sq k s.heap l xs) (hr:Sq m s.heap r ys) (ll:l < B) (rl:r < B) (sz:s.heap.objs.size=B + 5)
    (hN:N<=sizeLine) (hx:N<=xs.size) (hy:N<=ys.size) (he:xs.size<=N\/ys.size<=N)
    (q:∀ h' acc' c',h'.get? (B + 5)=some { cls:=.type "list",data:=.seq acc' c' }->acc'.size=N->(∀ i x y,i < N->xs[i]?=some x->ys[i]?=some y->acc'[i]?=some (.ref (B + 6 + i))/\IsPair h' (B + 6 + i) x y)->(∀ (b:Nat) o,b < B->s.heap.get? b=some o->h'.get? b=some o)->Q (.ref (B + 5)) { s with heap:=h' }) :
    wpAny (model P w) A (call (.type "list") [.ref (B + 4)]) Q E s:=by
  refine callType_codes (Q₁:=fun obj s₁=>obj=.ref (B + 5)/\s₁={ s with heap:=s.heap.push { cls:=.type "list",data:=.seq #[] } }) F.called_list (F.typeCall_list_1 _) F.entry_list_init (code_list_new _ ⟨by rw [sz],rfl⟩) ?_
  rintro obj s1 ⟨rfl,rfl⟩
  have l0:(s.heap.push { cls:=.type "list",data:=.seq #[] }).get? (B + 5)=some { cls:=.type "list",data:=.seq #[] }:=by
    rw [<- sz]
    exact Heap.get?_push_size _ rfl
  have z0:(s.heap.push { cls:=.type "list",data:=.seq #[] }).objs.size=B + 6:=by rw [Heap.size_push,sz]
  have up:∀ (b:Nat) o,s.heap.get? b=some o->(s.heap.push { cls:=.type "list",data:=.seq #[] }).get? b=some o:=fun b o e=>Heap.get?_push_of_some _ e
  generalize s.heap.push { cls:=.type "list",data:=.seq #[] }=h at l0 z0 up
  refine ⟨⟨_,l0,rfl⟩,F.args_list_init_2 _ _,?_⟩
  refine wpAny_bind (m:=Builtin.List.listItems (.ref (B + 5))) ?_
  unfold Builtin.List.listItems
  refine wpAny_bind (wpAny_seqItems l0 rfl (wpAny_pure ?_))
  refine wpAny_bind (m:=updateSeq (B + 5) (fun _=>#[])) (wpAny_updateSeq l0 rfl ?_)
  have l1:=Heap.get?_update_self (Obj.mapSeq (fun _=>(#[]:Array Value))) l0 rfl
  have u1:∀ (b:Nat) o,b≠B + 5->h.get? b=some o->(h.update (B + 5) (Obj.mapSeq (fun _=>(#[]:Array Value)))).get? b=some o:=fun b o n e=>(Heap.get?_update_other _ _ (Ne.symm n)).trans e
  have z1:(h.update (B + 5) (Obj.mapSeq (fun _=>(#[]:Array Value)))).objs.size=B + 6:=by rw [Heap.size_update,z0]
  refine wpAny_bind (wpAny_letGo ?_)
  show wpAny _ _ (Builtin.List.listExtendWith (.ref (B + 5)) (.ref (B + 4)) .none) _ _ _
  generalize h.update (B + 5) (Obj.mapSeq (fun _=>(#[]:Array Value)))=h1 at l1 u1 z1 ⊢
  replace up:∀ (b:Nat) o,b < B + 5->s.heap.get? b=some o->h1.get? b=some o:=fun b o n e=>u1 b o (by lia) (up b o e)
  have Z1:ZS k m h1 B l r 0 .none (.bool false):=Z.at fun b o h1 h2 e=>up b o (by lia) e
  unfold Builtin.List.listExtendWith
  refine wpAny_bind (wpAny_typeOf (T:="zip") ⟨_,Z1.z,rfl⟩ ?_)
  have n1:Builtin.List.listSameRef (.ref (B + 5)) (.ref (B + 4))=false:=by simp [Builtin.List.listSameRef]
  have n2:(Value.type "zip" == Value.type "list" || Value.type "zip" == Value.type "tuple")=false:=by decide
  rw [n1,Bool.false_or,n2,if_neg Bool.false_ne_true]
  refine wpAny_bind (wpAny_pyIter_zip Z1.z (wpAny_bind (wpAny_holding ?_)))
  unfold Builtin.List.listLengthHint
  refine wpAny_bind (wpAny_specialOf (T:="zip") ⟨_,Z1.z,rfl⟩ zip_len ?_)
  refine wpAny_bind (m:=specialOf (Value.ref (B + 4)) (Str.ofString "__length_hint__")) (wpAny_specialOf (T:="zip") ⟨_,Z1.z,rfl⟩ zip_hint (wpAny_pure ?_))
  refine wpAny_bind (m:=rule "list.extend.makes-room") (wpAny_rule (wpAny_bind ?_))
  refine wpAny_bind (m:=updateSeq (B + 5) (·.push .none)) (wpAny_updateSeq l1 rfl ?_)
  have l2:=Heap.get?_update_self (Obj.mapSeq (·.push Value.none)) l1 rfl
  refine wpAny_updateSeq (a:=B + 5) (f:=(·.pop)) (hz:=by seq_fits) l2 rfl ?_
  have l3:=Heap.get?_update_self (Obj.mapSeq (·.pop)) l2 rfl
  have u3:∀ (b:Nat) o,b≠B + 5->h1.get? b=some o->((h1.update (B + 5) (Obj.mapSeq (·.push Value.none))).update (B + 5) (Obj.mapSeq (·.pop))).get? b=some o:=fun b o n e=>(Heap.get?_update_other _ _ (Ne.symm n)).trans ((Heap.get?_update_other _ _ (Ne.symm n)).trans e)
  refine wpAny_pure ⟨plainId_quiet F.plain_extend_loop _,zip_loop (h0:=s.heap) (A:=A.in1) (acc:=#[]) hA ll rl hN hx hy he N 0 _ _ .none (.bool false) (by lia) ⟨Z1.at fun b o h1 h2 e=>u3 b o (by lia) e,.inl rfl,?_,?_,?_,l3,rfl,?_,?_⟩ ?_⟩
  · exact hl.at fun o e=>u3 _ o (by lia) (up _ o (by lia) e)
  · exact hr.at fun o e=>u3 _ o (by lia) (up _ o (by lia) e)
  · show (Heap.update (Heap.update _ _ _) _ _).objs.size=_
    rw [Heap.size_update,Heap.size_update,z1]
  · intro i x y hi
    lia
  · exact fun b o hb e=>u3 _ _ (by lia) (up _ _ (by lia) e)
  · exact fun h' acc' c' h1 h2 h3 h4=>⟨rfl,q h' acc' c' h1 h2 h3 h4⟩
end
theorem vals_refs (g:Nat->Nat):∀ l:List Nat,Vals (l.map fun i=>V.ref (g i)) (l.map fun i=>Value.ref (g i))
  | []=>.nil
  | i :: l=>.cons rfl (vals_refs g l)
def hpZ (H:Hp) (B N:Nat) (f:Nat->List V):Hp:=fun (b:Nat)=>if b=B + 5 then some (.lst ((List.range N).map fun i=>V.ref (B + 6 + i))) else if B + 6<=b/\b < B + 6 + N then some (.tup (f (b - (B + 6)))) else H b
theorem hpZ_old {H:Hp} {B N:Nat} {f:Nat->List V} {b:Nat} (h:b < B + 5):hpZ H B N f b=H b:=by
  unfold hpZ
  rw [if_neg (by lia),if_neg (by lia)]
theorem hpZ_lst {H:Hp} {B N:Nat} {f:Nat->List V}:hpZ H B N f (B + 5)=some (.lst ((List.range N).map fun i=>V.ref (B + 6 + i))):=if_pos rfl
theorem hpZ_tup {H:Hp} {B N:Nat} {f:Nat->List V} {i:Nat} (h:i < N):hpZ H B N f (B + 6 + i)=some (.tup (f i)):=by
  unfold hpZ
  rw [if_neg (by lia),if_pos (by lia)]
  rw [show B + 6 + i - (B + 6)=i by lia]
theorem Inv.zipped {X:Cx} {pins:List (Addr × Obj)} {σ:St} {H:Hp} {s:Shared} {h':Heap} {B N:Nat} {f:Nat->List V} {us:Nat->Array Value} {acc:Array Value} {c:Nat} (I:Inv X pins σ H s) (hB:s.heap.objs.size=B) (k:∀ (b:Nat) o,b < B->s.heap.get? b=some o->h'.get? b=some o)
    (hl:h'.get? (B + 5)=some { cls:=.type "list",data:=.seq acc c }) (hN:N<=sizeLine) (hs:acc.size=N) (ha:∀ i,i < N->acc[i]?=some (.ref (B + 6 + i))) (ht:∀ i,i < N->(f i).length<=sizeLine/\Vals (f i) (us i).toList/\h'.get? (B + 6 + i)=some { cls:=.type "tuple",data:=.seq (us i) }) :
    Inv X pins σ (hpZ H B N f) { s with heap:=h' }:=by
  have lt:∀ {b:Nat} {u},H b=some u->b < B:=fun e=>by rw [<- hB]; exact I.hok.lt e
  have lt':∀ {b:Nat} {o},s.heap.get? b=some o->b < B:=fun e=>by rw [<- hB]; exact Heap.lt_size e
  refine I.un (t':=s.toks) ⟨fun b o e _ _ _=>k b o (lt' e) e,fun b o e _ _ _=>⟨o.slots,k b o (lt' e) e⟩,fun b o e n _=>by rw [hpZ_old (by have:=lt' e; lia)]; exact n,fun b o e _=>⟨o,k b o (lt' e) e⟩,
    fun b xs e=>by rw [hpZ_old (by have:=lt e; lia)]; exact e,fun b u xs e=>by rw [hpZ_old (by have:=lt e; lia)]; exact e,fun b ps e=>⟨#[],by rw [hpZ_old (by have:=lt e; lia),e]; simp⟩⟩ fun (b:Nat) u e=>?_
  by_cases c1:b=B + 5
  · subst c1
    rw [hpZ_lst] at e
    cases e
    refine ⟨by simpa using hN,acc.toList,c,?_,by simpa using hl⟩
    have e2:acc.toList=(List.range N).map fun i=>Value.ref (B + 6 + i):=by
      apply List.ext_getElem?
      intro i
      by_cases hi:i < N
      · have:=ha i hi
        simp [hi]
        simpa using this
      · simp [hi]
        lia
    rw [e2]
    exact vals_refs _ _
  · by_cases c2:B + 6<=b/\b < B + 6 + N
    · obtain ⟨i,rfl⟩:∃ i,b=B + 6 + i:=⟨b - (B + 6),by lia⟩
      have hi:i < N:=by lia
      rw [hpZ_tup hi] at e
      cases e
      obtain ⟨t1,t2,t3⟩:=ht i hi
      exact ⟨t1,(us i).toList,t2,⟨_,t3,rfl,rfl,0,rfl⟩⟩
    · have e':H b=some u:=by
        unfold hpZ at e
        rw [if_neg c1,if_neg c2] at e
        exact e
      exact (I.hok b u e').stay (fun d v _ q=>k d v (lt' q) q) (fun d q=>by rw [hpZ_old (by have:=lt q; lia)]; exact q) fun d xs q=>by rw [hpZ_old (by have:=lt q; lia)]; exact q
def rZipL (K:PySem.W.Frag):List V->Hp->VK->Prop:=fun vs H Q=>∃ a b xs ys,vs=[.ref a,.ref b]/\(SqL K H a xs\/SqT K H a xs)/\(SqL K H b ys\/SqT K H b ys) /\
  ∀ (H':Hp) (p:Addr) (ps:List Addr),Same H H'->H p=none->H' p=some (.lst (ps.map V.ref))->ps.length=min xs.length ys.length->(∀ t∈ps,H t=none/\t≠p)->ps.Nodup->(∀ (i:Nat) x y,xs[i]?=some x->ys[i]?=some y->∃ t,ps[i]?=some t/\H' t=some (.tup [x,y]))->Q (.ref p) H'
def tZipL (K:PySem.W.Frag) (ta:TA):TE:=fun σ H Q=>ta σ H fun vs H1=>rZipL K vs H1 Q
theorem Inv.sq {X:Cx} {pins:List (Addr × Obj)} {σ:St} {H:Hp} {s:Shared} {a:Addr} {xs:List V} (I:Inv X pins σ H s) (h:SqL X.K H a xs\/SqT X.K H a xs):∃ (k:Bool) (its:List Value),Vals xs its/\Sq k s.heap a its.toArray/\xs.length<=sizeLine/\(a:Nat) < s.heap.objs.size:=by
  rcases h with h | h
  · obtain ⟨its,r,p,z⟩:=I.list h
    have ⟨o,n,e,_⟩:=p
    exact ⟨true,its,r,p.isList,z,Heap.lt_size e⟩
  · obtain ⟨its,r,p,z⟩:=I.tuple h
    have ⟨o,e,_⟩:=p
    exact ⟨false,its,r,p,z,Heap.lt_size e⟩
section
variable {X:Cx} {a b:Expr} {ta:TA} {p1 p2 pos1 pos2:Pos}
theorem pe_zipL (hc:X.calm=true) (hgL:Gl X "list") (hmL:X.mg "list"=none) (hgZ:Gl X "zip") (hmZ:X.mg "zip"=none) (ha:PA X [a,b] ta)
    (h1:starEach [a,b] X.env=[(false,eval a X.env),(false,eval b X.env)]:=by rfl) (h2:starEach [b] X.env=[(false,eval b X.env)]:=by rfl):PE X (.Call (.Name "list" p1) [.Call (.Name "zip" p2) [a,b] [] pos2] [] pos1) (tZipL X.K ta):=by
  intro pins s σ H Q I h
  refine Call_ (ld_blt I hgL hmL PyProof.Rows.boot_list (PyProof.Rows.callWith_type1 (Calls.spliced_cons (Call_ (ld_blt I hgZ hmZ boot_zip (PyProof.Rows.callWith_type1 (thn (ha pos2 pins s σ H _ I h) fun us s1 g=>?_) (by rw [h1,h2]) (by rw [h2]; rfl))))) rfl rfl))
  obtain ⟨vs,H1,I1,r1,a1,b1,xs,ys,rfl,hq1,hq2,q⟩:=g
  obtain ⟨u,u',rfl,e1,e2⟩:=vals2 r1
  cases e1
  cases e2
  obtain ⟨k1,i1,v1,q1,z1,l1⟩:=I1.sq hq1
  obtain ⟨k2,i2,v2,q2,z2,l2⟩:=I1.sq hq2
  refine zip_call q1 q2 fun h' Z sz kp=>Calls.spliced_nil ?_
  have hh:X.A.handled=none:=I1.ok.hd hc
  have n1:=v1.length
  have n2:=v2.length
  refine list_zip (s:={ s1 with heap:=h' }) (N:=min xs.length ys.length) hh Z (q1.at fun o=>kp _ o) (q2.at fun o=>kp _ o) l1 l2 sz (by lia) (by rw [List.size_toArray]; lia) (by rw [List.size_toArray]; lia) (by rw [List.size_toArray,List.size_toArray]; lia) fun h'' acc c hl hs hp ho=>?_
  have pairs:∀ i,i < min xs.length ys.length->∃ x y u v,xs[i]?=some x/\ys[i]?=some y/\i1[i]?=some u/\i2[i]?=some v/\RelV x u/\RelV y v:=fun i hi=>by
    have c1:i < xs.length:=by lia
    have c2:i < ys.length:=by lia
    obtain ⟨u,e1,r1⟩:=v1.get (List.getElem?_eq_getElem c1)
    obtain ⟨v,e2,r2⟩:=v2.get (List.getElem?_eq_getElem c2)
    exact ⟨_,_,u,v,List.getElem?_eq_getElem c1,List.getElem?_eq_getElem c2,e1,e2,r1,r2⟩
  have I2:Inv X pins σ (hpZ H1 s1.heap.objs.size (min xs.length ys.length) fun i=>[xs.getD i .non,ys.getD i .non]) { s1 with heap:=h'' }:=by
    refine I1.zipped (us:=fun i=>#[i1.getD i .none,i2.getD i .none]) (acc:=acc) (c:=c) rfl (fun b o hb e=>ho b o hb (kp _ _ e)) hl (by lia) hs (fun i hi=>?_) fun i hi=>?_
    · obtain ⟨x,y,u,v,_,_,e1,e2,_⟩:=pairs i hi
      exact (hp i u v hi (by simpa using e1) (by simpa using e2)).1
    · obtain ⟨x,y,u,v,f1,f2,e1,e2,r1,r2⟩:=pairs i hi
      refine ⟨by show 2<=sizeLine; decide,?_,?_⟩
      · rw [List.getD_eq_getElem?_getD,List.getD_eq_getElem?_getD,f1,f2]
        rw [List.getD_eq_getElem?_getD,List.getD_eq_getElem?_getD,e1,e2]
        exact .cons r1 (.cons r2 .nil)
      · rw [List.getD_eq_getElem?_getD,List.getD_eq_getElem?_getD,e1,e2]
        exact (hp i u v hi (by simpa using e1) (by simpa using e2)).2
  have old:∀ {c:Nat} {o},H1 c=some o->c < s1.heap.objs.size:=fun e=>I1.hok.lt e
  refine ⟨.ref (s1.heap.objs.size + 5),_,I2,rfl,q _ _ ((List.range (min xs.length ys.length)).map fun i=>s1.heap.objs.size + 6 + i) (fun c o e=>?_) (I1.hok.fresh (Nat.le_add_right _ _)) ?_ (by simp) ?_ ?_ ?_⟩
  · rw [hpZ_old (by have:=old e; lia)]
    exact e
  · rw [hpZ_lst,List.map_map]
    rfl
  · intro t ht
    obtain ⟨i,_,rfl⟩:=List.mem_map.mp ht
    refine ⟨I1.hok.fresh ?_,?_⟩
    · show s1.heap.objs.size<=s1.heap.objs.size + 6 + i
      lia
    · show s1.heap.objs.size + 6 + i≠s1.heap.objs.size + 5
      lia
  · refine List.Pairwise.map _ (fun i j (ne:i≠j) e=>ne ?_) List.nodup_range
    have e':s1.heap.objs.size + 6 + i=s1.heap.objs.size + 6 + j:=e
    exact Nat.add_left_cancel e'
  · intro i x y hx hy
    have c1:i < xs.length:=(List.getElem?_eq_some_iff.mp hx).1
    have c2:i < ys.length:=(List.getElem?_eq_some_iff.mp hy).1
    refine ⟨s1.heap.objs.size + 6 + i,?_,?_⟩
    · rw [List.getElem?_map,List.getElem?_range (by lia)]
      rfl
    · rw [hpZ_tup (by lia),List.getD_eq_getElem?_getD,List.getD_eq_getElem?_getD,hx,hy]
      rfl
theorem je_zipL (hc:X.calm=true) (hgL:Gl X "list") (hmL:X.mg "list"=none) (hgZ:Gl X "zip") (hmZ:X.mg "zip"=none) (ha:jA X [a,b] ta) (h1:isStar a=false:=by rfl) (h2:isStar b=false:=by rfl) :
    jE X (.Call (.Name "list" p1) [.Call (.Name "zip" p2) [a,b] [] pos2] [] pos1) (tZipL X.K ta):=⟨pe_zipL hc hgL hmL hgZ hmZ ha.out (by rw [star_cons h1,star_cons h2]; rfl) (by rw [star_cons h2]; rfl)⟩
end
end L2
namespace L2
open PySem PySem.Spec PyProof.Rows
def SqK (k:Bool) (K:PySem.W.Frag) (H:Hp) (a:Addr) (xs:List V):Prop:=match k with
  | true=>SqL K H a xs
  | false=>SqT K H a xs
theorem KeptZ.of {B:Nat} {h h':Heap} (z:KeptZ B h h'):∀ (b:Nat) o,b ∉ [B,B + 1,B + 2,B + 3,B + 4]->h.get? b=some o->h'.get? b=some o:=fun b o n e=>z b o (by simp only [List.mem_cons,List.not_mem_nil,or_false,not_or] at n; lia) e
section
variable {X:Cx} {elts:List Expr} {n:Nat} {tpos:Pos}
end
end L2
namespace L2
open PySem PySem.Spec PyProof.Rows
structure Ca (P:Program) (w:World) (K:PySem.W.Frag) (mg:Str->Option Value) (base:Heap) (CX:CXT) (k:Nat) (x:Str) (ps:List Str) (sp:Sp):Prop where
  ex:∃ f fd,FnOk P w K mg base CX k f fd ps sp/\Binds K fd ps []/\PySem.W.keepIn K (.ref f)=true/\mg x=some (.ref f)
structure Me (P:Program) (w:World) (K:PySem.W.Frag) (mg:Str->Option Value) (base:Heap) (CX:CXT) (k:Nat) (C:Addr) (m:Str) (ps:List Str) (sp:Sp):Prop where
  ex:∃ f fd,FnOk P w K mg base CX k f fd ps sp/\Binds K fd ps []/\Meth K C m f
structure Ma (P:Program) (w:World) (K:PySem.W.Frag) (mg:Str->Option Value) (base:Heap) (CX:CXT) (k:Nat) (x:Str) (C:Addr) (ps:List Str) (sp:Sp):Prop where
  ex:∃ f fd,Mk K C f/\FnOk P w K mg base CX k f fd ps sp/\Binds K fd ps []/\mg x=some (.ref C)
structure Xa (P:Program) (w:World) (K:PySem.W.Frag) (mg:Str->Option Value) (base:Heap) (k:Nat) (x:Str) (C:Addr) (ps:List Str) (sp:Sp):Prop where
  ex:∃ f fd,XCl K C f/\FnOk P w K mg base CX0 k f fd ps sp/\Binds K fd ps []/\mg x=some (.ref C)
section
variable {P:Program} {w:World} {K:PySem.W.Frag} {mg:Str->Option Value} {base:Heap} {CX:CXT} {k j:Nat} {x m:Str} {C:Addr} {ps:List Str} {sp sp':Sp}
theorem Ca.mono (h:Ca P w K mg base CX j x ps sp) (l:j<=k):Ca P w K mg base CX k x ps sp:=let ⟨f,fd,a,r⟩:=h.ex; ⟨f,fd,a.mono l,r⟩
theorem Me.mono (h:Me P w K mg base CX j C m ps sp) (l:j<=k):Me P w K mg base CX k C m ps sp:=let ⟨f,fd,a,r⟩:=h.ex; ⟨f,fd,a.mono l,r⟩
end
section
variable {X:Cx} {CX:CXT} {k i:Nat} {C:Addr} {ps:List Str} {sp:Sp} {E:XK} {x m n f:Str} {p pos apos cpos np pos' epos hpos tpos:Pos} {e o a value:Expr} {es as:List Expr} {ta te tv to t1 t2:TE} {t:TA}
theorem je_ca (F:Ca X.prog X.w X.K X.mg X.base CX k x ps sp) (hr:Room k X.A) (hg:Gl X x) (hx:Passes CX X E) (ha:jA X (e :: es) t) (hdb:(x == ("__debug__":Str))=false:=by decide) (h1:isStar e=false:=by rfl) (h2:es.all (fun e=>!isStar e)=true:=by rfl) :
    jE X (.Call (.Name x p) (e :: es) [] pos) (tCall sp [] E t):=let ⟨_,_,G,b,kp,mg⟩:=F.ex; je_fn G hr hg mg kp b .nil hx ha hdb h1 h2
theorem je_me {pl:Sem Bool} (he:jE X o ta) (c:Cls X.K C) (F:Me X.prog X.w X.K X.mg X.base CX k C m ps sp) (hr:Room k X.A) (hx:Passes CX X E) (ha:jA X (e :: es) t) (h1:isStar e=false:=by rfl) (h2:es.all (fun e=>!isStar e)=true:=by rfl)
    (ht:eval (.Call (.Attribute o m apos) (e :: es) [] pos) X.env=(do
      let ov <- eval o X.env
      standAt apos.atName
      let (f,first) <- holding [ov] (getMethod ov m pl)
      callWith pos f first (backTo pos (starEach (e :: es) X.env)) (backToKw pos (keywordEach [] X.env))):=by rfl) :
    jE X (.Call (.Attribute o m apos) (e :: es) [] pos) (tMeth C m sp [] E ta t):=let ⟨_,_,G,b,mt⟩:=F.ex; ⟨pe_meth he.out c mt G hr b .nil hx ha.out (star_cons h1) (star_any h2) ht⟩
theorem je_ma (F:Ma X.prog X.w X.K X.mg X.base CX k x C ps sp) (hr:Room (k + 1) X.A) (hg:Gl X x) (hx:Passes CX X E) (ha:jA X (e :: es) t) (hdb:(x == ("__debug__":Str))=false:=by decide) (h1:isStar e=false:=by rfl) (h2:es.all (fun e=>!isStar e)=true:=by rfl) :
    jE X (.Call (.Name x p) (e :: es) [] pos) (tMake C sp [] E t):=let ⟨_,_,M,G,b,mg⟩:=F.ex; ⟨pe_make M G hr hg mg b .nil hx ha.out hdb (star_cons h1) (star_any h2)⟩
theorem je_fld (he:jE X e ta) (hb:attributeBase e f X.env (eval e X.env)=eval e X.env:=by rfl):jE X (.Attribute e f pos) (tFld X.K ta f):=⟨pe_fld he.out hb⟩
theorem js_fld (ha:jE X o ta) (hv:jE X value tv) (hs:swapsWith value (some (.Attribute o f pos')) pos.line X.env=pure false:=by rfl):jS X (.Assign [.Attribute o f pos'] value pos) (sFld X.K ta tv f):=⟨ps_fld ha.out hv.out hs⟩
theorem js_raise (F:Xa X.prog X.w X.K X.mg X.base k x C ps sp) (hr:Room (k + 1) X.A) (hg:Gl X x) (hx:Throws X E) (ha:jA X (a :: as) t) (hdb:(x == ("__debug__":Str))=false:=by decide) (h1:isStar a=false:=by rfl) (h2:as.all (fun e=>!isStar e)=true:=by rfl) :
    jS X (.Raise (some (.Call (.Name x np) (a :: as) [] cpos)) none pos) (tRaise C sp E t):=let ⟨_,_,M,G,b,mg⟩:=F.ex; ⟨ps_raise M G hr hg mg b hx ha.out hdb h1 h2⟩
end
theorem FnOk.no {P:Program} {w:World} {K:PySem.W.Frag} {mg:Str->Option Value} {base:Heap} {CX:CXT} {k:Nat} {f:Addr} {fd:FuncData} {ps:List Str}:FnOk P w K mg base CX k f fd ps (fun _ _ _ _=>False) :=
  ⟨fun _ _ _ _ h=>h.elim,fun _ _ _ _ _ _ _ _ _ _ _ _ _ h=>h.elim⟩
end L2
namespace L2
open PySem PySem.Spec PySem.Calls PyProof.Rows
section
variable {P:Program} {w:World} {A:Around} {E:Value->Shared->Prop} {s:Shared} {K:PySem.W.Frag}
end
section
variable {X:Cx} {e C:Addr} {oe:Obj} {ex:Expr} {te:TE} {name:Str} {pos:Pos} {f:Addr}
def tXFld (C e:Addr) (oe:Obj) (te:TE) (name:Str):TE:=fun σ H Q=>te σ H fun x H1=>x=.ref e/\oe.cls=.ref C/\(∃ vs,oe.data=.fields vs)/\∃ d fs v,oe.dict=some d/\H1 d=some (XD d fs)/\fs.lookup name=some v/\Q v H1
theorem pe_xfld (hp:(e,oe)∈X.pn) (M:XCl X.K C f) (hn:PySem.W.findIn X.K (.ref C) name=some none) (hh:PySem.W.hasDictIn X.K C=true) (he:PE X ex te) (hb:attributeBase ex name X.env (eval ex X.env)=eval ex X.env) :
    PE X (.Attribute ex name pos) (tXFld C e oe te name):=by
  intro pins s σ H Q I h
  refine attr_of hb (thn (he pins s σ H _ I h) fun u s1 g=>?_)
  obtain ⟨x,H1,I1,rx,rfl,hc,⟨vs,hd⟩,d,fs,v,h1,h2,h3,q⟩:=g
  obtain rfl:u=Value.ref e:=rx
  obtain ⟨mA,ns,r,_⟩:=XD.get I1.hok h2
  obtain ⟨u',hu,ru⟩:=RelO.some_of (v:=v) (o:=mA name) (by rw [<- h3]; exact r name)
  obtain ⟨od,ho,hl⟩:=lookIn_ns ns
  have J:PySem.W.InstAt s1.heap e oe C (some od):=⟨(I1.pin (e,oe) (List.mem_append_left _ hp)).1,hc,by unfold PySem.W.notCls; rw [hd],by rw [h1]; exact ho⟩
  exact xg_get I1.kIn J M.ga M.ha M.sb (PySem.W.findObj_own hh hn rfl (by rw [hl,hu])) (handed_of ru) ⟨v,H1,I1.tok _,ru,q⟩
theorem je_xfld (hp:(e,oe)∈X.pn) (M:XCl X.K C f) (hn:PySem.W.findIn X.K (.ref C) name=some none) (hh:PySem.W.hasDictIn X.K C=true) (he:jE X ex te) (hb:attributeBase ex name X.env (eval ex X.env)=eval ex X.env:=by rfl) :
    jE X (.Attribute ex name pos) (tXFld C e oe te name):=⟨pe_xfld hp M hn hh he.out hb⟩
end
section
variable {X:Cx} {Ch:Addr} {x n:Str} {i k:Nat} {np hpos tpos:Pos} {b0:Stmt} {suite:List Stmt} {th:Addr->Obj->TS} {ps:List Str} {sp:Sp} {y:Str} {p cpos epos:Pos} {a:Expr} {as:List Expr} {t:TA}
end
end L2
namespace L2
open PySem PySem.Spec PyProof.Rows
section
variable {P:Program} {w:World} {A:Around} {E:Value->Shared->Prop}
theorem draws {j l:Addr} {xs:Array Value} (ne:l≠j):∀ (k i:Nat) (s:Shared) (Q:List Value->Shared->Prop),s.heap.IsListIter j l i->s.heap.IsList l xs->i + k<=xs.size ->
    (∀ h',h'.IsListIter j l (i + k)->Heap.SameBut j s.heap h'->Q ((xs.toList.drop i).take k) { s with heap:=h' })->wpAny (model P w) A (draw (.ref j) k) Q E s
  | 0,i,s,Q,hj,_,_,q=>wpAny_pure (by simpa using q s.heap hj (Heap.SameBut.refl ..))
  | k + 1,i,s,Q,hj,hl,le,q=>by
    have lt:i < xs.size:=by lia
    refine wpAny_bind (m:=pyNext (.ref j)) (wpAny_pyNext_list_item hj hl (Array.getElem?_eq_getElem lt) fun h1 j1 u1=>?_)
    refine wpAny_bind (wpAny_holding (draws ne k (i + 1) _ _ j1 (hl.extBut u1.extBut ne) (by lia) fun h2 j2 u2=>wpAny_pure ?_))
    have e:xs.toList.drop i=xs[i] :: xs.toList.drop (i + 1):=by simp [List.drop_eq_getElem_cons,lt]
    have r:=q h2 (by rw [show i + (k + 1)=i + 1 + k by lia]; exact j2) (u1.trans u2)
    rw [e,List.take_succ_cons] at r
    exact r
theorem unpacks {s:Shared} {l:Addr} {xs:Array Value} {ts:List (Bool × (Value->Sem Unit))} {Q:Unit->Shared->Prop} (hA:A.handled=none) (hl:s.heap.IsList l xs) (hn:ts.length=xs.size) (hs:ts.findIdx? (·.1)=none)
    (q:∀ h',Heap.ExtBut s.heap.objs.size s.heap h'->wpAny (model P w) A (assignInOrder (ts.map (·.2)) xs.toList) Q E { s with heap:=h' }):wpAny (model P w) A (unpack (.ref l) ts) Q E s:=by
  have ne:l≠s.heap.objs.size:=by
    obtain ⟨o,ho,_⟩:=hl
    exact Nat.ne_of_lt (Heap.lt_size ho)
  unfold unpack
  rw [hn,hs]
  refine wpAny_bind (wpAny_holding ?_)
  unfold unpackItems
  refine wpAny_bind ?_
  unfold notIterableAtAll
  refine wpAny_bind (wpAny_specialOf hl.typeIs slot_list_iter.lookup (wpAny_pure ?_))
  simp only [Bool.false_eq_true,if_false]
  refine wpAny_bind (wpAny_holding (wpAny_pyIter_list hl ?_))
  refine wpAny_bind (wpAny_holding (draws ne xs.size 0 _ _ ⟨_,Heap.get?_push_size _ rfl,rfl,rfl⟩ (hl.push _) (by lia) fun h1 j1 u1=>?_))
  have all:List.take xs.size (List.drop 0 xs.toList)=xs.toList:=by rw [List.drop_zero]; exact List.take_of_length_le (by simp)
  rw [all,if_neg (by simp)]
  refine wpAny_bind (wpAny_holding (wpAny_pyNext_list_end hA j1 ((hl.push _).extBut u1.extBut ne) (by simp) fun h2 e2=>?_))
  simp only [Option.isSome_none,Bool.false_eq_true,if_false]
  exact wpAny_pure (q h2 fun b o hb e=>e2 b o hb (u1.extBut b o hb (Heap.get?_push_of_some _ e)))
end
section
variable {X:Cx} {pos:Pos}
def gLst (K:PySem.W.Frag) (n:Nat) (t:TGs):TG:=fun v σ H Q=>∃ a xs,v=.ref a/\SqL K H a xs/\xs.length=n/\t xs σ H Q
theorem pg_lst {es:List Expr} {k:Nat} {t:TGs} {n:Nat} (hc:X.calm=true) (h:PGs X es t)
    (hn:(assignEach es X.env).length=n:=by rfl) (hst:(assignEach es X.env).findIdx? (·.1)=none:=by rfl):PG X (.Tuple es k pos) (gLst X.K n t):=by
  intro pins s σ H v u Q I r g
  obtain ⟨a,xs,rfl,hq,hl,g⟩:=g
  cases r
  obtain ⟨its,rv,p,hz⟩:=I.list hq
  rw [assign_Tuple]
  refine wpAny_bind (wpAny_standAt (unpacks (I.ok.hd hc) p.isList (by simp [hn,<- hl,rv.length]) hst fun h' hx=>?_))
  have I1:Inv X pins σ H { s with heap:=h' }:=I.kept (t':=s.toks) fun b o e=>hx b o (Nat.ne_of_lt (Heap.lt_size e)) e
  exact h pins _ σ H xs _ Q I1 (by simpa using rv) g
theorem jg_lst {es:List Expr} {k:Nat} {gs:TGs} {n:Nat} (hc:X.calm=true) (h:jGs X es gs) (hn:(assignEach es X.env).length=n:=by rfl) (hst:(assignEach es X.env).findIdx? (·.1)=none:=by rfl):jG X (.Tuple es k pos) (gLst X.K n gs):=⟨pg_lst hc h.out hn hst⟩
end
end L2
namespace L2
open PySem
theorem line0:sizeLine=16777216:=by decide
theorem rel_of_abs {u:Value} {x:V} (h:absV u=some x):RelV x u:=by
  cases u <;> first
    | (cases h; rfl)
    | (cases h; exact ⟨_,rfl⟩)
    | (cases h)
theorem vals_of_abs:∀ {us:List Value} {xs:List V},us.map absV=xs.map some->Vals xs us
  | [],[],_=>.nil
  | [],_ :: _,h=>by cases h
  | _ :: _,[],h=>by cases h
  | u :: us,x :: xs,h=>by
    rw [List.map_cons,List.map_cons] at h
    injection h with h1 h2
    exact .cons (rel_of_abs h1) (vals_of_abs h2)
def FnIn (K:PySem.W.Frag) (x qual:Str) (st:Stmt) (f:Addr):Prop:=∃ (oc:Value) (od:Option Addr) (kV doc pm:Value) (an:Option Addr) (cdv ct:Value) (osl:Array (Option Value)),K.lookup f=some ⟨oc,od,.func (PySem.W.fnOf x qual (defArgs st) (defBody st) (defScope st) .none kV doc pm an cdv ct),osl⟩/\PySem.W.codeIn K cdv qual=true/\PySem.W.keepIn K (.ref f)=true
theorem FnIn.fn {K:PySem.W.Frag} {x qual:Str} {st:Stmt} {f:Addr} (h:FnIn K x qual st f):∃ fd,Fun K x qual st f fd/\PySem.W.keepIn K (.ref f)=true:=by
  obtain ⟨_,_,_,_,_,_,_,_,_,l,c,k⟩:=h
  exact ⟨_,fun_mk l c k,k⟩
def DfIn (K:PySem.W.Frag) (x:Str) (st:Stmt):Prop:=∃ f,PySem.W.nsIn K mainGlobals x=some (some (.ref f))/\FnIn K x x st f
def MeIn (K:PySem.W.Frag) (C:Addr) (x qual:Str) (st:Stmt):Prop:=∃ f,PySem.W.findIn K (.ref C) x=some (some (.ref f))/\PySem.W.isFn K (.ref f)=true/\FnIn K x qual st f
def TpIn (K:PySem.W.Frag) (x:Str) (l:List Str):Prop:=∃ (a:Addr) (d:Option Addr) (it:Array Value) (n:Nat) (sl:Array (Option Value)),PySem.W.nsIn K mainGlobals x=some (some (.ref a))/\K.lookup a=some ⟨.type "tuple",d,.seq it n,sl⟩/\it.toList.map absV=l.map fun x=>some (.str x)
theorem TpIn.sq {K:PySem.W.Frag} {x:Str} {l:List Str} (h:TpIn K x l) (hl:l.length<=100):∃ a,PySem.W.nsIn K mainGlobals x=some (some (.ref a))/\∀ H:Hp,SqT K H a (l.map V.str):=by
  obtain ⟨a,d,it,n,sl,h1,h2,h3⟩:=h
  refine ⟨a,h1,fun H=>.inr ⟨_,it,n,h2,rfl,rfl,?_,vals_of_abs (by rw [h3,List.map_map]; rfl)⟩⟩
  have e:=congrArg List.length h3
  rw [List.length_map,List.length_map,Array.length_toList] at e
  have sl:=line0
  lia
theorem MeIn.me {P:Program} {w:World} {K:PySem.W.Frag} {mg:Str->Option Value} {base:Heap} {CX:CXT} {k:Nat} {C:Addr} {x qual:Str} {st:Stmt} {ps:List Str} {sp:Sp} (h:MeIn K C x qual st) (hb:∀ (kV doc pm:Value) (an:Option Addr) (cdv ct:Value) (us:List Value),us.length=ps.length->bindArgs (PySem.W.fnOf x qual (defArgs st) (defBody st) (defScope st) .none kV doc pm an cdv ct) ⟨us,[]⟩=pure (ps.zip us))
    (ok:∀ f fd,Fun K x qual st f fd->FnOk P w K mg base CX k f fd ps sp):Me P w K mg base CX k C x ps sp:=by
  obtain ⟨f,a,n,g⟩:=h
  obtain ⟨fd,F,kp⟩:=g.fn
  exact ⟨f,fd,ok f fd F,F.binds hb,a,n,kp⟩
theorem MeIn.ma {P:Program} {w:World} {K:PySem.W.Frag} {mg:Str->Option Value} {base:Heap} {CX:CXT} {k:Nat} {C:Addr} {x qual:Str} {st:Stmt} {ps:List Str} {sp:Sp} (h:MeIn K C "__init__" qual st) (hb:∀ (kV doc pm:Value) (an:Option Addr) (cdv ct:Value) (us:List Value),us.length=ps.length->bindArgs (PySem.W.fnOf "__init__" qual (defArgs st) (defBody st) (defScope st) .none kV doc pm an cdv ct) ⟨us,[]⟩=pure (ps.zip us))
    (mk:PySem.W.makesIn K C=true) (kp:PySem.W.keepIn K (.ref C)=true) (hm:mg x=some (.ref C)) (ok:∀ f fd,Fun K "__init__" qual st f fd->FnOk P w K mg base CX k f fd ps sp):Ma P w K mg base CX k x C ps sp:=by
  obtain ⟨f,a,n,g⟩:=h
  obtain ⟨fd,F,_⟩:=g.fn
  exact ⟨f,fd,⟨mk,a,n,kp⟩,ok f fd F,F.binds hb,hm⟩
theorem DfIn.ca {P:Program} {w:World} {K:PySem.W.Frag} {mg:Str->Option Value} {base h:Heap} {CX:CXT} {k:Nat} {x:Str} {st:Stmt} {ps:List Str} {sp:Sp} (X:K.In h) (G:h.Ns mainGlobals mg) (d:DfIn K x st) (hb:∀ (kV doc pm:Value) (an:Option Addr) (cdv ct:Value) (us:List Value),us.length=ps.length->bindArgs (PySem.W.fnOf x x (defArgs st) (defBody st) (defScope st) .none kV doc pm an cdv ct) ⟨us,[]⟩=pure (ps.zip us))
    (ok:∀ f fd,Fun K x x st f fd->FnOk P w K mg base CX k f fd ps sp):Ca P w K mg base CX k x ps sp:=by
  obtain ⟨f,a,g⟩:=d
  obtain ⟨fd,F,kp⟩:=g.fn
  exact ⟨f,fd,ok f fd F,F.binds hb,kp,PySem.W.mg_of X G a⟩
theorem DfIn.mk {K:PySem.W.Frag} {x:Str} {st:Stmt} {f:Addr} {oc:Value} {od:Option Addr} {kV doc pm:Value} {an:Option Addr} {cdv ct:Value} {osl:Array (Option Value)} (a:PySem.W.nsIn K mainGlobals x=some (some (.ref f))) (l:K.lookup f=some ⟨oc,od,.func (PySem.W.fnOf x x (defArgs st) (defBody st) (defScope st) .none kV doc pm an cdv ct),osl⟩) (c:PySem.W.codeIn K cdv x=true) (k:PySem.W.keepIn K (.ref f)=true):DfIn K x st:=⟨f,a,oc,od,kV,doc,pm,an,cdv,ct,osl,l,c,k⟩
theorem MeIn.mk {K:PySem.W.Frag} {C:Addr} {x qual:Str} {st:Stmt} {f:Addr} {oc:Value} {od:Option Addr} {kV doc pm:Value} {an:Option Addr} {cdv ct:Value} {osl:Array (Option Value)} (a:PySem.W.findIn K (.ref C) x=some (some (.ref f))) (l:K.lookup f=some ⟨oc,od,.func (PySem.W.fnOf x qual (defArgs st) (defBody st) (defScope st) .none kV doc pm an cdv ct),osl⟩) (c:PySem.W.codeIn K cdv qual=true) (k:PySem.W.keepIn K (.ref f)=true) (n:PySem.W.isFn K (.ref f)=true):MeIn K C x qual st:=⟨f,a,n,oc,od,kV,doc,pm,an,cdv,ct,osl,l,c,k⟩
theorem TpIn.mk {K:PySem.W.Frag} {x:Str} {l:List Str} {b:Addr} {d:Option Addr} {it:Array Value} {n:Nat} {sl:Array (Option Value)} (a:PySem.W.nsIn K mainGlobals x=some (some (.ref b))) (k:K.lookup b=some ⟨.type "tuple",d,.seq it n,sl⟩) (v:it.toList.map absV=l.map fun x=>some (.str x)):TpIn K x l:=⟨b,d,it,n,sl,a,k,v⟩
theorem GlIn.mk {K:PySem.W.Frag} {x:Str} {z:Str} {v:Value} {t:Tok} (a:PySem.W.nsIn K mainGlobals x=some (some v)) (e:v=.str z t):∃ t,PySem.W.nsIn K mainGlobals x=some (some (.str z t)):=⟨t,by rw [a,e]⟩
theorem GiIn.mk {K:PySem.W.Frag} {x:Str} {i:Int} {v:Value} {t:Tok} (a:PySem.W.nsIn K mainGlobals x=some (some v)) (e:v=.int i t):∃ t,PySem.W.nsIn K mainGlobals x=some (some (.int i t)):=⟨t,by rw [a,e]⟩
theorem XcIn.mk {K:PySem.W.Frag} {C f:Addr} (a:PySem.W.findIn K (.ref C) "__init__"=some (some (.ref f))) (b:xIn K C f=true) (c:PySem.W.typeIn K (.ref f)=some (.type "function")):∃ f,PySem.W.findIn K (.ref C) "__init__"=some (some (.ref f))/\xIn K C f=true/\PySem.W.typeIn K (.ref f)=some (.type "function"):=⟨f,a,b,c⟩
structure OwnIn (K:PySem.W.Frag) (x:Str) (C:Addr):Prop where
  n:PySem.W.nsIn K mainGlobals x=some (some (.ref C))
  pg:PySem.W.plainGet K C Str.empty=true
  hd:PySem.W.hasDictIn K C=true
  po:PySem.W.plainOver K C=true
  sa:PySem.W.findIn K (.ref C) "__setattr__"=some (some (.builtin "object.__setattr__"))
  mks:PySem.W.makesIn K C=true
  kp:PySem.W.keepIn K (.ref C)=true
theorem OwnIn.cls {K:PySem.W.Frag} {x:Str} {C:Addr} (o:OwnIn K x C):Cls K C:=⟨o.pg,o.hd,o.po,o.sa⟩
def spTop (K:PySem.W.Frag):Sp:=fun vs H Q _=>∃ (a:Addr) (ns:List Int),vs=[.ref a]/\SqL K H a (ns.map V.int)/\ns.length<=63/\∀ H',Q (.bl true) H'
theorem law_in {l:PySem.W.OpenLaw} {w:World} {K:PySem.W.Frag} {h:Heap} {mg:Str->Option Value} {fa:Addr} {st:Stmt} {k:Nat} (d:DfIn K "law" st) (X:K.In h) (G:h.Ns mainGlobals mg) (hfa:mg "law"=some (.ref fa))
    (hb:∀ (kV doc pm:Value) (an:Option Addr) (cdv ct:Value) (s:Shared) (u:Value),BindsTo s (PySem.W.fnOf "law" "law" (defArgs st) (defBody st) (defScope st) .none kV doc pm an cdv ct) ⟨[u],[]⟩ [("_law_script",u)])
    (ok:∀ (base:Heap) (fd:FuncData),Fun K "law" "law" st fa fd->FnOk l.prog w K mg base CX0 k fa fd ["_law_script"] (spTop K)) :
    ∃ fd:FuncData,(∀ (s:Shared) (u:Value),BindsTo s fd ⟨[u],[]⟩ [("_law_script",u)])/\∀ base:Heap,K.In base->base.Ns mainGlobals mg->FnOk l.prog w K mg base CX0 k fa fd ["_law_script"] (spTop K):=by
  obtain ⟨fl,al,oc,od,kV,doc,pm,an,cdv,ct,osl,lk,cc,kk⟩:=d
  have e:fl=fa:=by
    have:=PySem.W.mg_of X G al
    rw [hfa] at this
    injection this with this
    injection this with this
    exact this.symm
  subst e
  exact ⟨_,fun s v=>hb _ _ _ _ _ _ s v,fun base _ _=>ok base _ (fun_mk (st:=st) lk cc kk)⟩
theorem walk1 {l:PySem.W.OpenLaw} {q:Program} {loose:List Str} {XP:(Str->Option Value)->Heap->Prop} {YP:World->Heap->Prop} {d:DefRec} {K:Params->PySem.W.Frag} {k:Nat} (hn:l.most=some 63) (hr:Room k callerA) (hdf:d.params.defaults=[]) (hnm:d.name="law")
    (hY:∀ (w:World) (h:Heap),YP w h->(K w.params).In h)
    (F:∀ (w:World) (mg:Str->Option Value) (fa:Addr) (h:Heap),(K w.params).In h->h.Ns mainGlobals mg->mg "law"=some (.ref fa)->∃ fd:FuncData,(∀ (s:Shared) (u:Value),BindsTo s fd ⟨[u],[]⟩ [("_law_script",u)])/\∀ base:Heap,(K w.params).In base->base.Ns mainGlobals mg->FnOk l.prog w (K w.params) mg base CX0 k fa fd ["_law_script"] (spTop (K w.params))) :
    PySem.W.WalkO q loose XP YP l.row.toRowW d [] (fun f vs=>PySem.call f vs) :=
  L2.walk_of (n:=63) (k:=k) (x:="_law_script") (CX:=fun _=>CX0) (sp:=fun w=>spTop (K w.params)) hn (by decide) hdf hr hY (fun w mg fa h X G hm=>F w mg fa h X G (by rw [hnm] at hm; exact hm)) (fun _ _ a ns hl _ hS=>⟨a,ns,rfl,hS,hl,fun _=>rfl⟩) fun _ _ _ _ _ z=>z
end L2
namespace L2
open PySem
theorem usS {n:Nat} {p:List Value->Prop} (h:∀ a us,us.length=n->p (a :: us)):∀ us:List Value,us.length=n + 1->p us:=fun us=>by
  cases us with
  | nil=>exact fun e=>by cases e
  | cons a r=>exact fun e=>h a r (Nat.succ.inj e)
theorem us1 {p:List Value->Prop} (h:∀ a,p [a]):∀ us:List Value,us.length=1->p us:=usS fun a us e=>by rw [List.length_eq_zero_iff.mp e]; exact h a
theorem us2 {p:List Value->Prop} (h:∀ a b,p [a,b]):∀ us:List Value,us.length=2->p us:=usS fun a=>us1 (p:=fun l=>p (a :: l)) (h a)
theorem us3 {p:List Value->Prop} (h:∀ a b c,p [a,b,c]):∀ us:List Value,us.length=3->p us:=usS fun a=>us2 (p:=fun l=>p (a :: l)) (h a)
theorem us4 {p:List Value->Prop} (h:∀ a b c d,p [a,b,c,d]):∀ us:List Value,us.length=4->p us:=usS fun a=>us3 (p:=fun l=>p (a :: l)) (h a)
theorem us5 {p:List Value->Prop} (h:∀ a b c d e,p [a,b,c,d,e]):∀ us:List Value,us.length=5->p us:=usS fun a=>us4 (p:=fun l=>p (a :: l)) (h a)
theorem us6 {p:List Value->Prop} (h:∀ a b c d e f,p [a,b,c,d,e,f]):∀ us:List Value,us.length=6->p us:=usS fun a=>us5 (p:=fun l=>p (a :: l)) (h a)
theorem us7 {p:List Value->Prop} (h:∀ a b c d e f g,p [a,b,c,d,e,f,g]):∀ us:List Value,us.length=7->p us:=usS fun a=>us6 (p:=fun l=>p (a :: l)) (h a)
end L2
namespace L2
open PySem
section
variable {a b c d e u:TS} {D:Ends} {σ:List (Option V)} {H:Hp}
theorem ixT {K:PySem.W.Frag} {Q:VK} {p:Addr} {xs:List V} {i:Int} {v:V} (h:H p=some (.tup xs)) (a:atI xs i=some v) (q:Q v H):tC (.int i) σ H fun y H2=>rIxT K (.ref p) y H2 Q:=⟨p,xs,i,v,rfl,rfl,SqT.of h,a,q⟩
theorem ixL {K:PySem.W.Frag} {Q:VK} {p:Addr} {xs:List V} {i:Int} {v:V} (h:H p=some (.lst xs)) (a:atI xs i=some v) (q:Q v H):tC (.int i) σ H fun y H2=>rIxL K (.ref p) y H2 Q:=⟨p,xs,i,v,rfl,rfl,SqL.of h,a,q⟩
theorem nxtC {E:Ends} (h:E.nx σ H):tNext E σ H:=h
end
end L2
namespace L2
open PySem PySem.Spec PyProof.Rows
def Itv (K:PySem.W.Frag) (a:Addr) (n:Nat):It :=
  ⟨fun i H=>i < n/\∃ xs x,SqL K H a xs/\xs[n - 1 - i]?=some x,fun i H x H'=>H'=H/\∀ xs,SqL K H a xs->xs[n - 1 - i]?=some x,fun i _=>n<=i⟩
theorem turn_rev {P:Program} {w:World} {K:PySem.W.Frag} {tg:Expr} (a it:Addr) (n:Nat):Turn P w K tg (Itv K a n) [it] it (fun i h=>i<=n/\h.IsRevIter it a ((n:Int) - 1 - (i:Nat))) where
  mem:=by simp
  obj:=fun i h st b hb=>by
    have e:b=it:=by simpa using hb
    subst e
    obtain ⟨_,o,e,c,d⟩:=st
    exact ⟨o,e,fun v z=>by rw [d] at z; cases z⟩
  keep:=fun i h h' st k=>⟨st.1,st.2.at fun o e=>k it (by simp) o e⟩
  item:=by
    intro X hP hw hK hc i pins s σ H E I hf st hg
    subst hP hw hK
    obtain ⟨hi,xs,x,hq,hx⟩:=hg
    obtain ⟨its,rv,p,hz⟩:=I.list hq
    obtain ⟨u,hu,ru⟩:=rv.get hx
    obtain ⟨f0,f1,f2,f3,f4,f5⟩:=hf it (by simp)
    obtain ⟨_,st2⟩:=st
    have e1:(n:Int) - 1 - (i:Nat)=((n - 1 - i:Nat):Int):=by lia
    rw [e1] at st2
    refine wpAny_pyNext_rev_item st2 p.isList (x:=u) (by simpa using hu) fun h' st' sb=>?_
    have I1:Inv X pins σ H { s with heap:=h' }:=I.turned (t':=s.toks) (fun b o hb e=>(sb.2 b hb).trans e) f0 f1 f3 f4 f5
    obtain ⟨o,e,c,d⟩:=id st'
    refine ⟨u,rfl,go_of (s:={ s with heap:=h' }) e c d (by decide) ⟨x,H,I1,ru,⟨rfl,fun ys hy=>by rw [I.list_inj hy hq]; exact hx⟩,⟨hi,?_⟩,fun b hb=>(hf b hb).1⟩⟩
    have e2:(n:Int) - 1 - ((i + 1:Nat):Int)=((n - 1 - i:Nat):Int) - 1:=by lia
    rw [e2]
    exact st'
  done:=by
    intro X hP hw hK hc i pins s σ H E I hf st hg
    subst hP hw hK
    obtain ⟨f0,f1,f2,f3,f4,f5⟩:=hf it (by simp)
    obtain ⟨h1,st2⟩:=st
    have h2:n<=i:=hg
    have e1:(n:Int) - 1 - (i:Nat)=-1:=by lia
    rw [e1] at st2
    exact wpAny_pyNext_rev_end (I.ok.hd hc) st2 fun h' eb=>⟨rfl,I.turned (t':=s.toks) (fun b o hb e=>eb b o hb e) f0 f1 f3 f4 f5⟩
  self:=fun _ _ _ _ _ st h=>wpAny_pyIter_revIter st.2 h
section
variable {X:Cx} {tg:Expr}
def iRev (K:PySem.W.Frag) (ta:TA):TI:=fun σ H R=>ta σ H fun vs H1=>∃ a xs,vs=[.ref a]/\SqL K H1 a xs/\R (Itv K a xs.length) H1
theorem pi_rev {a:Expr} {ta:TA} {p pos:Pos} (hg:Gl X "reversed") (hm:X.mg "reversed"=none) (ha:PA X [a] ta) (hs:starEach [a] X.env=[(false,eval a X.env)]:=by rfl):PI X tg (.Call (.Name "reversed" p) [a] [] pos) (iRev X.K ta):=by
  intro pins s σ H R I h
  refine Call_ (ld_blt I hg hm boot_reversed (PyProof.Rows.callWith_type1 (thn (ha pos pins s σ H _ I h) fun us s1 ⟨vs,H1,I1,r1,q1⟩=>?_) hs rfl))
  obtain ⟨l,xs,e,hq,q⟩:=q1
  subst e
  obtain ⟨u,rfl,rx⟩:=vals1 r1
  cases rx
  obtain ⟨its,rv,pl,hz⟩:=I1.list hq
  have hl:=rv.length
  refine call_reversed_list pl.isList ?_
  have hr:(s1.heap.push (revObj l ((its.toArray.size:Int) - 1))).IsRevIter s1.heap.objs.size l ((its.toArray.size:Int) - 1):=⟨_,Heap.get?_push_size _ rfl,rfl,rfl⟩
  refine wpAny_pyIter_revIter (s:={ s1 with heap:=s1.heap.push (revObj l ((its.toArray.size:Int) - 1)) }) hr ?_
  refine ⟨s1.heap.objs.size,[s1.heap.objs.size],_,_,H1,rfl,I1.kept (t':=s1.toks) fun b o e=>Heap.get?_push_of_some _ e,turn_rev l _ xs.length,⟨Nat.zero_le _,?_⟩,fun b hb=>?_,q⟩
  · have e:(xs.length:Int) - 1 - ((0:Nat):Int)=(its.toArray.size:Int) - 1:=by simp [hl]
    rw [e]
    exact hr
  have e:b=s1.heap.objs.size:=by simpa using hb
  subst e
  exact I1.fpOk (Nat.le_refl _) (I1.hok.fresh (Nat.le_refl _))
theorem ji_rev {a:Expr} {t:TA} {p pos:Pos} (hg:Gl X "reversed") (hm:X.mg "reversed"=none) (ha:jA X [a] t) (h:isStar a=false:=by rfl):jI X tg (.Call (.Name "reversed" p) [a] [] pos) (iRev X.K t):=⟨pi_rev hg hm ha.out (star_cons h)⟩
end
theorem for_rev {K:PySem.W.Frag} {a:Addr} {xs:List V} {g:TG} {tb:TS} {D:Ends} {σ:St} {H:Hp} (Pv:Nat->St->Hp->Prop) (h0:Pv 0 σ H) (hl:∀ i σ H,i<=xs.length->Pv i σ H->SqL K H a xs)
    (hs:∀ i x σ H,xs.reverse[i]?=some x->Pv i σ H->g x σ H fun σ2 H2=>tb { D with nx:=Pv (i + 1),ct:=Pv (i + 1),bk:=D.nx } σ2 H2) (hd:∀ σ H,Pv xs.length σ H->D.nx σ H) :
    ∃ W:Nat->Nat->St->Hp->Prop,(∃ m,W 0 m σ H)/\∀ i m σ H,W i m σ H ->
      ((Itv K a xs.length).stop i H/\D.nx σ H)\/((Itv K a xs.length).go i H/\∃ N:St->Hp->Prop,(∀ σ' H',N σ' H'->∃ m',m' < m/\W (i + 1) m' σ' H')/\∀ x H',(Itv K a xs.length).yld i H x H'->g x σ H' fun σ2 H2=>tb { D with nx:=N,ct:=N,bk:=D.nx } σ2 H2):=by
  refine ⟨fun i m σ H=>m=xs.length - i/\i<=xs.length/\Pv i σ H,⟨xs.length,by simp,Nat.zero_le _,h0⟩,?_⟩
  rintro i m σ H ⟨rfl,hi,p⟩
  have q:=hl i σ H hi p
  by_cases hlt:i < xs.length
  · refine .inr ⟨⟨hlt,xs,xs[xs.length - 1 - i],q,by rw [List.getElem?_eq_getElem]⟩,Pv (i + 1),fun σ' H' p'=>⟨xs.length - (i + 1),by lia,rfl,hlt,p'⟩,fun x H' y=>?_⟩
    obtain ⟨e,y⟩:=y
    subst e
    refine hs i x σ _ ?_ p
    rw [List.getElem?_reverse hlt]
    exact y xs q
  · have e:i=xs.length:=by lia
    subst e
    exact .inl ⟨Nat.le_refl _,hd σ H p⟩
section
variable {g:TG} {tt:TT} {te:TE} {Q:VK} {σ:St} {H:Hp}
theorem lc_tup {K:PySem.W.Frag} {a:Addr} {xs:List V} (Pv:Nat->St->List V->Hp->Prop) (h0:Pv 0 σ [] H) (hl:∀ i τ ys H,i<=xs.length->Pv i τ ys H->SqT K H a xs)
    (hs:∀ i x τ ys H,xs[i]?=some x->Pv i τ ys H->g x τ H fun τ2 H2=>tt τ2 H2 fun b H3=>if b=true then te τ2 H3 fun y H4=>ys.length < sizeLine/\Pv (i + 1) τ2 (ys ++ [y]) H4 else Pv (i + 1) τ2 ys H3)
    (hd:∀ τ ys H,Pv xs.length τ ys H->∀ p,H p=none->Q (.ref p) (upd H p (.lst ys))):∃ W,(∃ m,W 0 m σ [] H)/\lcBy (Itt K a) g tt te Q W:=by
  refine ⟨fun i m τ ys H=>m=xs.length - i/\i<=xs.length/\Pv i τ ys H,⟨xs.length,by simp,Nat.zero_le _,h0⟩,?_⟩
  rintro i m τ ys H ⟨rfl,hi,p⟩
  have q:=hl i τ ys H hi p
  by_cases hlt:i < xs.length
  · refine .inr ⟨⟨xs,xs[i],q,by simp [hlt]⟩,Pv (i + 1),fun τ' ys' H' p'=>⟨xs.length - (i + 1),by lia,rfl,hlt,p'⟩,fun x H' y=>?_⟩
    obtain ⟨e,y⟩:=y
    subst e
    exact hs i x τ ys _ (y xs q) p
  · have e:i=xs.length:=by lia
    subst e
    exact .inl ⟨⟨xs,q,Nat.le_refl _⟩,hd τ ys H p⟩
end
theorem old {H:Hp} {p q:Addr} {o u:HO} (hp:H p=none) (h:H q=some u):upd H p o q=some u:=by rw [upd_ne (ne_of_none h hp)]; exact h
theorem Same.new {H H1:Hp} {p:Addr} {o:HO} (s:Same H H1) (hp:H1 p=none):Same H (upd H1 p o):=fun b u q=>old hp (s b u q)
theorem Same.put {H H1:Hp} {p:Addr} {o:HO} (s:Same H H1) (hp:H p=none):Same H (upd H1 p o):=fun b u q=>by rw [upd_ne (ne_of_none q hp)]; exact s b u q
end L2
namespace L2
open PySem PySem.Spec PyProof.Rows
theorem eqV_self {x:V} (h:flatV x=true):eqV x x=true:=by
  cases x <;> first
    | rfl
    | (show ((_:Bool) == _)=true; simp)
    | (show ((_:Int) == _)=true; simp)
    | (show ((_:Str) == _)=true; simp)
    | (cases h)
section
variable {X:Cx}
theorem eq_items {A:Around} {s:Shared} {xs:List V} {us us':List Value} (r:Vals xs us) (r':Vals xs us') (f:xs.all flatV=true) (j:Nat) (h1:j < us.toArray.size) (h2:j < us'.toArray.size):SeqAt.EqAt A s us.toArray[j] us'.toArray[j] true:=by
  have l1:=r.length
  have l2:=r'.length
  simp at h1 h2
  have hx:xs[j]?=some (xs[j]'(by lia)):=List.getElem?_eq_getElem _
  obtain ⟨u,e1,rx⟩:=r.get hx
  obtain ⟨u',e2,rx'⟩:=r'.get hx
  have g1:us.toArray[j]=u:=by
    have:=List.getElem?_eq_some_iff.mp e1
    simpa using this.2
  have g2:us'.toArray[j]=u':=by
    have:=List.getElem?_eq_some_iff.mp e2
    simpa using this.2
  rw [g1,g2]
  have fx:flatV (xs[j]'(by lia))=true:=List.all_eq_true.mp f _ (List.getElem_mem _)
  have k:=eqAt_V (A:=A) (s:=s) rx rx' fx fx
  rw [eqV_self fx] at k
  exact k
end
section
variable {X:Cx}
def rInsert:V->List V->Hp->VK->Prop:=fun x vs H Q=>∃ l xs k kk y,x=.ref l/\vs=[.int kk,y]/\kk=((k:Nat):Int)/\H l=some (.lst xs)/\xs.length < sizeLine/\k<=xs.length/\Q .non (upd H l (.lst (xs.take k ++ y :: xs.drop k)))
theorem mt_insert:MtM X "list.insert" rInsert:=by
  intro pins s σ H x vs v us Q I rx rv h
  obtain ⟨l,xs,k,kk,y,rfl,rfl,hkk,hH,hz,hk,q⟩:=h
  cases rx
  obtain ⟨u,u',rfl,ru,ru'⟩:=rv.two
  obtain ⟨t,rfl⟩:=ru
  obtain ⟨z,its,n,r,hl,e⟩:=I.lstM hH
  have sl:sizeLine=16777216:=by unfold sizeLine; rfl
  have hz2:its.toArray.size<=sizeLine:=by rw [List.size_toArray]; lia
  have hf:Builtin.List.listFitsIndex kk=true:=by
    unfold Builtin.List.listFitsIndex
    simp
    lia
  have h0:¬(!Builtin.List.listFitsIndex kk)=true:=by rw [hf]; decide
  have g:=PySem.AutoSeq1.list_insert_list_int_val_1 l its.toArray n kk t u' h0 hz2
  refine call_meets F.slot_list_insert ⟨_,e,rfl⟩ F.entry_list_insert (F.args_list_insert_3 _ _ _) g ⟨e,?_⟩
  refine ⟨.non,_,I.lset (its':=its.take k ++ u' :: its.drop k) hH e ?_ ((r.take k).append (.cons ru' (r.drop k))) ?_,rfl,q⟩
  · have e1:(if kk < 0 then (kk + ((its.toArray.size:Nat):Int)).toNat else min kk.toNat its.toArray.size)=k:=by
      rw [if_neg (by lia),List.size_toArray]
      lia
    show (its.toArray.extract 0 (if kk < 0 then (kk + ((its.toArray.size:Nat):Int)).toNat else min kk.toNat its.toArray.size)).push u' ++ its.toArray.extract (if kk < 0 then (kk + ((its.toArray.size:Nat):Int)).toNat else min kk.toNat its.toArray.size)=_
    rw [e1]
    apply Array.toList_inj.mp
    simp [Array.toList_extract,List.extract,List.take_of_length_le]
  · rw [List.length_append,List.length_cons,List.length_take,List.length_drop]
    lia
theorem jm_insert:jMt X "list.insert" rInsert:=⟨mt_insert⟩
end
end L2
namespace L2
open PySem PySem.Spec PyProof.Rows
end L2
namespace L2
open PySem PySem.Spec PyProof.Rows
section
variable (P:Program) (w:World)
end
section
variable {P:Program} {w:World} {H H':Hp} {h h':Heap} {a:Addr} {o:HO}
end
section
variable {P:Program} {w:World} {H:Hp} {h h':Heap} {x e:Addr} {o':HO}
end
section
variable {fs fs' ex ex':List Addr} {H H1 H2:Hp} {h h1 h2 h':Heap} {a x e:Addr} {o:HO}
end
end L2
namespace L2
open PySem PySem.Spec PyProof.Rows
section
variable {X:Cx} {pins:List (Addr × Obj)} {σ:List (Option V)} {H H':Hp} {s:Shared} {h':Heap}
end
end L2
namespace L2
open PySem PySem.Spec PyProof.Rows
section
variable {X:Cx}
variable {a b:Expr} {ta tb:TE} {pos:Pos}
variable {tA tB':TT} {rest:List Expr}
end
end L2
namespace L2
open PySem PySem.Spec PyProof.Rows
section
variable {X:Cx} {pins:List (Addr × Obj)} {σ:St} {H:Hp} {s:Shared} {a:Addr} {xs ys:List V}
end
section
variable {X:Cx} {pins:List (Addr × Obj)} {σ:St} {H:Hp} {s:Shared} {E:Value->Shared->Prop}
end
section
variable {X:Cx} {st:Stmt} {rest:List Stmt} {t u:TS} {e:Expr} {te:TE} {pos:Pos}
end
section
variable {X:Cx} {pos:Pos}
end
section
variable {X:Cx} {pos:Pos}
end
end L2
namespace L2
open PySem PySem.Spec PyProof.Rows
section
variable {X:Cx} {tg:Expr}
end
end L2
namespace L2
open PySem PySem.Spec PyProof.Rows
section
variable {X:Cx} {a b c:Expr} {ta tb tc:TE} {pos:Pos}
end
section
variable {X:Cx} {a b c:Expr} {ta tb tc:TE} {pos:Pos}
end
end L2
namespace L2
open PySem PySem.Spec PyProof.Rows
section
variable {prog:Program} {w:World} {A:Around} {E:Value->Shared->Prop} {s:Shared} {K:PySem.W.Frag} {x dx C f:Addr} {mA:Str->Option Value} {name:Str} {v:Value}
end
section
variable {P:Program} {w:World} {H H':Hp} {h h':Heap} {a C dx:Addr} {fs fs':List (Str × V)}
end
section
variable {X:Cx} {pins:List (Addr × Obj)} {σ:St} {H:Hp} {s:Shared} {a C dx:Addr} {fs:List (Str × V)} {f:Str} {v:V} {A:Around} {E:Value->Shared->Prop}
end
section
variable {X:Cx} {o e value:Expr} {f:Str} {pos pos' tpos:Pos} {ta tv:TE}
end
section
variable {X:Cx} {pins:List (Addr × Obj)} {σ:St} {H:Hp} {s:Shared} {A:Around} {E:Value->Shared->Prop} {Q:Value->Shared->Prop} {c:Value} {b:Bool}
end
end L2
namespace L2
open PySem PySem.Spec PyProof.Rows
section
variable {X:Cx} {e:Expr} {es:List Expr} {te:TE} {t:TA} {pos:Pos}
end
section
variable {X:Cx} {pins:List (Addr × Obj)} {σ:St} {H:Hp} {s s':Shared}
end
section
variable {X:Cx} {CX:CXT} {k:Nat} {f C:Addr} {fd:FuncData} {ps:List Str} {sp:Sp} {dvs:List V} {ds:List Value} {E:XK} {x m:Str} {p pos apos:Pos} {e o:Expr} {es:List Expr} {ta:TE} {t:TA}
end
section
variable {X:Cx} {CX:CXT} {k:Nat} {f C:Addr} {fd:FuncData} {ps ks:List Str} {sp:Sp} {E:XK} {x m:Str} {p pos apos kpos:Pos} {e o:Expr} {es:List Expr} {kws:List Keyword} {te ta:TE} {t tk:TA} {nm:Option Str}
variable {g:List Value->List Value->List Value} {gV:List V->List V->List V}
end
end L2
namespace L2
open PySem PySem.Spec PyProof.Rows
section
variable {X:Cx} {x:Str} {p pos:Pos} {e:Expr} {es:List Expr} {t:TA} {id T:String} {r:List V->Hp->VK->Prop}
end
end L2
namespace L2
open PySem PySem.Spec PyProof.Rows
section
variable {κ:Type} [DecidableEq κ]
def valV (kvs:List (κ × V)) (k:κ):Option V:=(kvs.find? fun kv=>decide (kv.1=k)).map (·.2)
def putK (kvs:List (κ × V)) (k:κ) (v:V):List (κ × V) :=
  if (kvs.any fun kv=>decide (kv.1=k))=true then kvs.map (fun kv=>if kv.1=k then (kv.1,v) else kv) else kvs ++ [(k,v)]
def dropK (kvs:List (κ × V)) (k:κ):List (κ × V):=kvs.filter fun kv=>decide (kv.1≠k)
theorem valV_pos {p:κ × V} {r:List (κ × V)} {k:κ} (e:p.1=k):valV (p :: r) k=some p.2:=by simp [valV,List.find?_cons,e]
theorem valV_neg {p:κ × V} {r:List (κ × V)} {k:κ} (e:¬ p.1=k):valV (p :: r) k=valV r k:=by simp [valV,List.find?_cons,e]
theorem valV_any (k:κ):∀ kvs:List (κ × V),(kvs.any fun kv=>decide (kv.1=k))=(valV kvs k).isSome
  | []=>rfl
  | p :: r=>by
    rw [List.any_cons]
    by_cases e:p.1=k
    · simp only [valV_pos e,decide_eq_true e,Bool.true_or,Option.isSome_some]
    · rw [valV_neg e,decide_eq_false e,Bool.false_or]; exact valV_any k r
theorem length_putK (kvs:List (κ × V)) (k:κ) (v:V):(putK kvs k v).length<=kvs.length + 1:=by
  unfold putK
  split
  · rw [List.length_map]; lia
  · rw [List.length_append,List.length_cons,List.length_nil]; lia
theorem RelO.isSome_eq {o:Option V} {u:Option Value} (r:RelO o u):o.isSome=u.isSome:=by
  cases o with
  | none=>cases u with
    | none=>rfl
    | some _=>exact (show False from r).elim
  | some _=>cases u with
    | none=>exact (show False from r).elim
    | some _=>rfl
theorem RelO.getD {o:Option V} {u:Option Value} {d:V} {d':Value} (r:RelO o u) (rd:RelV d d'):RelV (o.getD d) (u.getD d'):=by
  cases o with
  | none=>cases u with
    | none=>exact rd
    | some _=>exact (show False from r).elim
  | some _=>cases u with
    | none=>exact (show False from r).elim
    | some _=>exact r
theorem KV.val {kvs:List (κ × V)} {vs:List (κ × Value)} (r:KV kvs vs) (k:κ):RelO (valV kvs k) (valueAt vs k):=by
  unfold KV at r
  induction r with
  | nil=>exact True.intro
  | @cons p q ps qs h t ih =>
    obtain ⟨h1,h2⟩:=h
    by_cases e:p.1=k
    · have e':q.1=k:=h1.symm.trans e
      have b:valueAt (q :: qs) k=some q.2:=by simp [valueAt,List.find?_cons,e']
      rw [valV_pos e,b]; exact h2
    · have e':¬ q.1=k:=fun z=>e (h1.trans z)
      have b:valueAt (q :: qs) k=valueAt qs k:=by simp [valueAt,List.find?_cons,e']
      rw [valV_neg e,b]; exact ih
theorem KV.any {kvs:List (κ × V)} {vs:List (κ × Value)} (r:KV kvs vs) (k:κ):(kvs.any fun kv=>decide (kv.1=k))=vs.any fun kv=>decide (kv.1=k):=by
  unfold KV at r
  induction r with
  | nil=>rfl
  | cons h t ih=>rw [List.any_cons,List.any_cons,ih,h.1]
theorem KV.repl {kvs:List (κ × V)} {vs:List (κ × Value)} (r:KV kvs vs) (k:κ) {y:V} {u:Value} (ry:RelV y u) :
    KV (kvs.map fun kv=>if kv.1=k then (kv.1,y) else kv) (vs.map fun kv=>if kv.1=k then (kv.1,u) else kv):=by
  unfold KV at r ⊢
  induction r with
  | nil=>exact .nil
  | @cons p q ps qs h t ih =>
    rw [List.map_cons,List.map_cons]
    refine .cons ?_ ih
    obtain ⟨h1,h2⟩:=h
    by_cases e:p.1=k
    · rw [if_pos e,if_pos (h1.symm.trans e)]; exact ⟨h1,ry⟩
    · rw [if_neg e,if_neg (fun z=>e (h1.trans z))]; exact ⟨h1,h2⟩
theorem KV.put {kvs:List (κ × V)} {vs:List (κ × Value)} (r:KV kvs vs) (k:κ) {y:V} {u:Value} (ry:RelV y u):KV (putK kvs k y) (stored vs k u):=by
  unfold putK stored
  rw [r.any k]
  by_cases e:(vs.any fun kv=>decide (kv.1=k))=true
  · rw [if_pos e,if_pos e]; exact r.repl k ry
  · rw [if_neg e,if_neg e]; exact Paired.snoc r ⟨rfl,ry⟩
theorem KV.drop {kvs:List (κ × V)} {vs:List (κ × Value)} (r:KV kvs vs) (k:κ):KV (dropK kvs k) (without vs k):=by
  unfold KV at r ⊢
  unfold dropK without
  induction r with
  | nil=>exact .nil
  | @cons p q ps qs h t ih =>
    obtain ⟨h1,h2⟩:=h
    rw [List.filter_cons,List.filter_cons]
    by_cases e:p.1=k
    · have a:¬ decide (p.1≠k)=true:=by simp [e]
      have b:¬ decide (q.1≠k)=true:=by simp [h1.symm.trans e]
      rw [if_neg a,if_neg b]; exact ih
    · have e':¬ q.1=k:=fun z=>e (h1.trans z)
      have a:decide (p.1≠k)=true:=by simp [e]
      have b:decide (q.1≠k)=true:=by simp [e']
      rw [if_pos a,if_pos b]; exact .cons ⟨h1,h2⟩ ih
theorem KV.keys {kvs:List (κ × V)} {vs:List (κ × Value)} (r:KV kvs vs):kvs.map (·.1)=vs.map (·.1):=by
  unfold KV at r
  induction r with
  | nil=>rfl
  | cons h t ih=>rw [List.map_cons,List.map_cons,ih,h.1]
theorem KV.length {kvs:List (κ × V)} {vs:List (κ × Value)} (r:KV kvs vs):kvs.length=vs.length:=Paired.length r
theorem dropK_le (kvs:List (κ × V)) (k:κ):(dropK kvs k).length<=kvs.length:=List.length_filter_le _ _
end
theorem kV_is {P:Program} {w:World} {k:Key} {u:Value} (r:RelV (kV k) u):(mixKind P w).is k u=true:=by
  cases k with
  | inl i=>obtain ⟨t,e⟩:=(show ∃ t,u=Value.int i t from r); subst e; exact mixKind_int P w i t
  | inr x=>obtain ⟨t,e⟩:=(show ∃ t,u=Value.str x t from r); subst e; exact mixKind_str P w x t
theorem items_are {P:Program} {w:World}:∀ {ks:List Key} {us:List Value},Vals (ks.map kV) us->ItemsAre (mixKind P w) ks us
  | [],_,r=>by rw [List.map_nil] at r; cases r; exact .nil
  | k :: ks,_,r=>by
    rw [List.map_cons] at r
    cases r with
    | cons h t=>exact .cons (kV_is h) (items_are t)
abbrev KT (H:Hp):List (List Key × V)->List (List Key × Addr × Value)->Prop:=Paired fun p q=>p.1=q.1/\H q.2.1=some (.tup (p.1.map kV))/\RelV p.2 q.2.2
theorem KT.val {H:Hp} {kvs:List (List Key × V)} {xs:List (List Key × Addr × Value)} (r:KT H kvs xs) (k:List Key):RelO (valV kvs k) ((atKey xs k).map (·.2)):=by
  induction r with
  | nil=>exact True.intro
  | @cons p q ps qs h t ih =>
    obtain ⟨h1,_,h2⟩:=h
    by_cases e:p.1=k
    · have e':q.1=k:=h1.symm.trans e
      have b:atKey (q :: qs) k=some q.2:=by simp [atKey,List.find?_cons,e']
      rw [valV_pos e,b]; exact h2
    · have e':¬ q.1=k:=fun z=>e (h1.trans z)
      have b:atKey (q :: qs) k=atKey qs k:=by simp [atKey,List.find?_cons,e']
      rw [valV_neg e,b]; exact ih
theorem KT.repl {H:Hp} {kvs:List (List Key × V)} {xs:List (List Key × Addr × Value)} (r:KT H kvs xs) (k:List Key) {y:V} {u:Value} (ry:RelV y u) :
    KT H (kvs.map fun kv=>if kv.1=k then (kv.1,y) else kv) (xs.map (putAt k u)):=by
  induction r with
  | nil=>exact .nil
  | @cons p q ps qs h t ih =>
    rw [List.map_cons,List.map_cons]
    refine .cons ?_ ih
    obtain ⟨h1,h2,h3⟩:=h
    unfold putAt
    by_cases e:p.1=k
    · rw [if_pos e,if_pos (h1.symm.trans e)]; exact ⟨h1,h2,ry⟩
    · rw [if_neg e,if_neg (fun z=>e (h1.trans z))]; exact ⟨h1,h2,h3⟩
theorem KT.put {H:Hp} {kvs:List (List Key × V)} {xs:List (List Key × Addr × Value)} (r:KT H kvs xs) (k:List Key) {b:Addr} {y:V} {u:Value} (hb:H b=some (.tup (k.map kV))) (ry:RelV y u) :
    KT H (putK kvs k y) (storedH xs k b u):=by
  have e:(kvs.any fun kv=>decide (kv.1=k))=(atKey xs k).isSome:=by
    rw [valV_any,(r.val k).isSome_eq,Option.isSome_map]
  unfold putK storedH
  rw [e]
  by_cases q:(atKey xs k).isSome=true
  · rw [if_pos q,if_pos q]; exact r.repl k ry
  · rw [if_neg q,if_neg q]; exact Paired.snoc r ⟨rfl,hb,ry⟩
theorem KT.keeps {H H':Hp} {kvs:List (List Key × V)} {xs:List (List Key × Addr × Value)} (r:KT H kvs xs) (ht:∀ b ys,H b=some (.tup ys)->H' b=some (.tup ys)):KT H' kvs xs :=
  Paired.mapP r fun _ _ z=>⟨z.1,ht _ _ z.2.1,z.2.2⟩
section
variable {P:Program} {w:World} {H:Hp} {h:Heap} {a:Addr}
theorem rd_of {u:HO} (ok:HOk P w H h) (e:Rd H a u):ObjOk P w H h a u:=e.ok ok
theorem dk_rd {kvs:List (Key × V)} (ok:HOk P w H h) (e:Rd H a (.dK kvs)):kvs.length<=sizeLine/\(a == sysModules)=false/\∃ vs,KV kvs vs/\h.DictOf (mixKind P w) a vs :=
  show ObjOk P w H h a (.dK kvs) from rd_of ok e
theorem dk_of {kvs:List (Key × V)} (ok:HOk P w H h) (e:H a=some (.dK kvs)):kvs.length<=sizeLine/\(a == sysModules)=false/\∃ vs,KV kvs vs/\h.DictOf (mixKind P w) a vs:=dk_rd ok (.inl e)
theorem key_of {ks:List Key} (ok:HOk P w H h) (e:H a=some (.tup (ks.map kV))):(tupleKind (mixKind P w)).is h ks a:=by
  obtain ⟨_,its,r,o,h1,h2,_,n,h3⟩:=(show ObjOk P w H h a (.tup (ks.map kV)) from ok a _ e)
  exact ⟨o,its.toArray,n,h1,h2,h3,by simpa using items_are r⟩
theorem dt_rd {kvs:List (List Key × V)} (ok:HOk P w H h) (e:Rd H a (.dT kvs)):kvs.length<=sizeLine/\(a == sysModules)=false /\
    ∃ xs,KT H kvs xs/\h.DictOfH (tupleKind (mixKind P w)) a xs:=by
  obtain ⟨z,y,xs,r,o,es,ep,h1,h2,h3,h4,h5⟩:=(show ObjOk P w H h a (.dT kvs) from rd_of ok e)
  refine ⟨z,y,xs,r,o,es,ep,h1,h2,h3,h4,fun x hx=>?_,h5⟩
  have all:∀ {l:List (List Key × V)} {m:List (List Key × Addr × Value)},KT H l m->∀ x∈m,(tupleKind (mixKind P w)).is h x.1 x.2.1:=by
    intro l m q
    induction q with
    | nil=>intro x hx; exact nomatch hx
    | @cons p q ps qs hq t ih =>
      intro x hx
      rcases List.mem_cons.mp hx with e | hx
      · subst e
        exact key_of ok (by rw [<- hq.1]; exact hq.2.1)
      · exact ih x hx
  exact all r x hx
theorem dt_of {kvs:List (List Key × V)} (ok:HOk P w H h) (e:H a=some (.dT kvs)):kvs.length<=sizeLine/\(a == sysModules)=false /\
    ∃ xs,KT H kvs xs/\h.DictOfH (tupleKind (mixKind P w)) a xs:=dt_rd ok (.inl e)
end
def DGet (H:Hp) (a:Addr) (y:V) (r:Option V):Prop :=
  (∃ kvs k,Rd H a (.dK kvs)/\y=kV k/\r=valV kvs k)\/∃ kvs k b,Rd H a (.dT kvs)/\y=.ref b/\H b=some (.tup (k.map kV))/\r=valV kvs k
def DPut (H:Hp) (a:Addr) (y v:V) (H':Hp):Prop :=
  (∃ kvs k,H a=some (.dK kvs)/\y=kV k/\kvs.length < sizeLine/\H'=upd H a (.dK (putK kvs k v))) \/
  ∃ kvs k b,H a=some (.dT kvs)/\y=.ref b/\H b=some (.tup (k.map kV))/\kvs.length < sizeLine/\H'=upd H a (.dT (putK kvs k v))
theorem DGet.k {H:Hp} {a:Addr} {kvs:List (Key × V)} {k:Key} (e:H a=some (.dK kvs)):DGet H a (kV k) (valV kvs k):=.inl ⟨kvs,k,.inl e,rfl,rfl⟩
theorem DGet.t {H:Hp} {a b:Addr} {kvs:List (List Key × V)} {k:List Key} (e:H a=some (.dT kvs)) (eb:H b=some (.tup (k.map kV))):DGet H a (.ref b) (valV kvs k):=.inr ⟨kvs,k,b,.inl e,rfl,eb,rfl⟩
theorem DPut.k {H:Hp} {a:Addr} {kvs:List (Key × V)} {k:Key} {v:V} (e:H a=some (.dK kvs)) (hl:kvs.length < sizeLine):DPut H a (kV k) v (upd H a (.dK (putK kvs k v))):=.inl ⟨kvs,k,e,rfl,hl,rfl⟩
theorem DPut.t {H:Hp} {a b:Addr} {kvs:List (List Key × V)} {k:List Key} {v:V} (e:H a=some (.dT kvs)) (eb:H b=some (.tup (k.map kV))) (hl:kvs.length < sizeLine) :
    DPut H a (.ref b) v (upd H a (.dT (putK kvs k v))):=.inr ⟨kvs,k,b,e,rfl,eb,hl,rfl⟩
section
variable {X:Cx} {pins:List (Addr × Obj)} {σ:St} {H:Hp} {s:Shared} {a:Addr} {y v:V} {u r:Value} {o:Option V} {A:Around} {E:Value->Shared->Prop}
theorem Inv.big (I:Inv X pins σ H s):sysModules < s.heap.objs.size:=by
  have h:mainGlobals < s.heap.objs.size:=(I.mod.glob.keeps I.bk).lt
  exact Nat.lt_trans (by decide) h
theorem d_getItem {Q:Value->Shared->Prop} (hu:A.units + 1 < cLine) (I:Inv X pins σ H s) (g:DGet H a y (some v)) (ry:RelV y u) (h:∀ w' s',Inv X pins σ H s'->RelV v w'->Q w' s') :
    wpAny (model X.prog X.w) A (getItem (.ref a) u) Q E s:=by
  rcases g with ⟨kvs,k,e,ey,l⟩ | ⟨kvs,k,b,e,ey,eb,l⟩
  · subst ey
    obtain ⟨z,hd,vs,rel,dd⟩:=dk_rd I.hok e
    obtain ⟨w',hw,rw'⟩:=RelO.some_of (v:=v) (o:=valueAt vs k) (by rw [l]; exact rel.val k)
    exact wpAny_getItem_of (kV_is ry) dd.mapOf hw (h w' _ (I.tok _) rw')
  · subst ey
    cases (show u=Value.ref b from ry)
    obtain ⟨z,hd,xs,rel,dd⟩:=dt_rd I.hok e
    obtain ⟨w',hw,rw'⟩:=RelO.some_of (v:=v) (o:=(atKey xs k).map (·.2)) (by rw [l]; exact rel.val k)
    obtain ⟨p,hp,hp2⟩:=Option.map_eq_some_iff.mp hw
    refine wpAny_getItem_heap (tupleKind_room_in1 hu) (key_of I.hok eb) dd hp ?_
    rw [hp2]
    exact h w' _ (I.tok _) rw'
theorem d_in {Q:Value->Shared->Prop} (hu:A.units + 1 < cLine) (I:Inv X pins σ H s) (g:DGet H a y o) (ry:RelV y u) (h:∀ s',Inv X pins σ H s'->Q (.bool o.isSome) s') :
    wpAny (model X.prog X.w) A (compareOp .In u (.ref a)) Q E s:=by
  rcases g with ⟨kvs,k,e,ey,l⟩ | ⟨kvs,k,b,e,ey,eb,l⟩
  · subst ey
    obtain ⟨z,hd,vs,rel,dd⟩:=dk_rd I.hok e
    refine wpAny_in_of (kV_is ry) hd dd.mapOf ?_
    rw [<- (rel.val k).isSome_eq,<- l]
    exact h _ (I.tok _)
  · subst ey
    cases (show u=Value.ref b from ry)
    obtain ⟨z,hd,xs,rel,dd⟩:=dt_rd I.hok e
    refine wpAny_in_heap (tupleKind_room_in1 hu) (key_of I.hok eb) hd dd ?_
    have q:=(rel.val k).isSome_eq
    rw [Option.isSome_map] at q
    rw [<- q,<- l]
    exact h _ (I.tok _)
theorem d_notIn {Q:Value->Shared->Prop} (hu:A.units + 1 < cLine) (I:Inv X pins σ H s) (g:DGet H a y o) (ry:RelV y u) (h:∀ s',Inv X pins σ H s'->Q (.bool (!o.isSome)) s') :
    wpAny (model X.prog X.w) A (compareOp .NotIn u (.ref a)) Q E s:=by
  rcases g with ⟨kvs,k,e,ey,l⟩ | ⟨kvs,k,b,e,ey,eb,l⟩
  · subst ey
    obtain ⟨z,hd,vs,rel,dd⟩:=dk_rd I.hok e
    refine wpAny_notIn_of (kV_is ry) hd dd.mapOf ?_
    rw [<- (rel.val k).isSome_eq,<- l]
    exact h _ (I.tok _)
  · subst ey
    cases (show u=Value.ref b from ry)
    obtain ⟨z,hd,xs,rel,dd⟩:=dt_rd I.hok e
    refine wpAny_notIn_heap (tupleKind_room_in1 hu) (key_of I.hok eb) hd dd ?_
    have q:=(rel.val k).isSome_eq
    rw [Option.isSome_map] at q
    rw [<- q,<- l]
    exact h _ (I.tok _)
theorem d_write {h':Heap} {t':Nat} {ob:HO} (I:Inv X pins σ H s) (mu:Mut (H a)) (hs:Heap.SameBut a s.heap h') (he:∃ q,h'.get? a=some q) (new:ObjOk X.prog X.w (upd H a ob) h' a ob) :
    Inv X pins σ (upd H a ob) { s with heap:=h',toks:=t' } :=
  I.write (x:=a) (e:=a) mu (.inl rfl) (fun b q hb z=>(hs.2 b hb).trans z) he new
theorem dk_new {P:Program} {w:World} {H':Hp} {h':Heap} {kvs:List (Key × V)} {vs:List (Key × Value)} (z:kvs.length<=sizeLine) (hd:(a == sysModules)=false) (rel:KV kvs vs) (dd:h'.DictOf (mixKind P w) a vs) :
    ObjOk P w H' h' a (.dK kvs):=⟨z,hd,vs,rel,dd⟩
theorem d_setItem {H':Hp} {Q:Unit->Shared->Prop} (hu:A.units + 1 < cLine) (I:Inv X pins σ H s) (g:DPut H a y v H') (ry:RelV y u) (rv:RelV v r) (h:∀ s',Inv X pins σ H' s'->Q () s') :
    wpAny (model X.prog X.w) A (setItem (.ref a) u r) Q E s:=by
  rcases g with ⟨kvs,k,e,ey,l,eH⟩ | ⟨kvs,k,b,e,ey,eb,l,eH⟩
  · subst ey eH
    obtain ⟨z,hd,vs,rel,dd⟩:=dk_of I.hok e
    have hz:vs.length<=sizeLine:=by rw [<- rel.length]; exact z
    have hl:(putK kvs k v).length<=sizeLine:=by have:=length_putK kvs k v; lia
    refine wpAny_setItem_pairs (hsz:=hz) (kV_is ry) dd fun h' dd' hs=>h _ ?_
    have he:∃ q,h'.get? a=some q:=let ⟨q,_,_,hq,_⟩:=dd'; ⟨q,hq⟩
    exact d_write I (by rw [e]; exact True.intro) hs he (dk_new hl hd (rel.put k rv) dd')
  · subst ey eH
    cases (show u=Value.ref b from ry)
    obtain ⟨z,hd,xs,rel,dd⟩:=dt_of I.hok e
    have hz:xs.length<=sizeLine:=by rw [<- Paired.length rel]; exact z
    have hl:(putK kvs k v).length<=sizeLine:=by have:=length_putK kvs k v; lia
    refine wpAny_setItem_heap (hsz:=hz) (tupleKind_room_in1 hu) (key_of I.hok eb) dd fun h' dd' hs=>h _ ?_
    obtain ⟨q,es,ep,hq,h2,h3,h4,_,h5⟩:=dd'
    refine d_write I (by rw [e]; exact True.intro) hs ⟨q,hq⟩ ⟨hl,hd,_,(rel.put k eb rv).keeps fun c ys ec=>?_,q,es,ep,hq,h2,h3,h4,h5⟩
    rw [upd_ne (ne_of ec e (fun z=>nomatch z))]
    exact ec
end
section
variable {X:Cx} {pins:List (Addr × Obj)} {σ:St} {H:Hp} {s:Shared} {a:Addr} {kvs:List (Key × V)} {k:Key} {u:Value} {A:Around} {E:Value->Shared->Prop}
theorem d_pop {v:V} {more:List Value} {Q:Value->Shared->Prop} (I:Inv X pins σ H s) (e:H a=some (.dK kvs)) (ry:RelV (kV k) u) (l:valV kvs k=some v) (hm:more=[]\/∃ x,more=[x])
    (h:∀ w' s',Inv X pins σ (upd H a (.dK (dropK kvs k))) s'->RelV v w'->Q w' s'):wpAny (model X.prog X.w) A (call (.builtin "dict.pop") (.ref a :: u :: more)) Q E s:=by
  obtain ⟨z,hd,vs,rel,dd⟩:=dk_of I.hok e
  obtain ⟨w',hw,rw'⟩:=RelO.some_of (v:=v) (o:=valueAt vs k) (by rw [<- l]; exact rel.val k)
  have hp:(keyPart u).isSome=true:=by
    cases k with
    | inl i=>obtain ⟨t,q⟩:=(show ∃ t,u=Value.int i t from ry); subst q; rfl
    | inr x=>obtain ⟨t,q⟩:=(show ∃ t,u=Value.str x t from ry); subst q; rfl
  have ha:argsOk "dict.pop" ⟨.ref a :: u :: more,[]⟩:=by
    rcases hm with q | ⟨x,q⟩
    · subst q; exact PySem.F.args_dict_pop_2 _ _
    · subst q; exact PySem.F.args_dict_pop_3 _ _ _
  refine call_meetsIn PySem.F.slot_dict_pop dd.typeIs PySem.F.entry_dict_pop ha (meets_dict_pop_there (mixKind X.prog X.w) a (kV_is ry) more hm hp)
    ⟨vs,w',dd,by rw [<- rel.length]; exact z,hw,fun h' dd' hs=>h w' _ ?_ rw'⟩
  have he:∃ q,h'.get? a=some q:=let ⟨q,_,_,hq,_⟩:=dd'; ⟨q,hq⟩
  exact d_write I (by rw [e]; exact True.intro) hs he (dk_new (Nat.le_trans (dropK_le kvs k) z) hd (rel.drop k) dd')
theorem d_len {Q:Value->Shared->Prop} (I:Inv X pins σ H s) (e:Rd H a (.dK kvs)) (h:∀ t s',Inv X pins σ H s'->Q (.int kvs.length t) s'):wpAny (model X.prog X.w) A (call (.builtin "len") [.ref a]) Q E s:=by
  obtain ⟨z,hd,vs,rel,dd⟩:=dk_rd I.hok e
  refine call_len_dict hd dd (by rw [<- rel.length]; rw [sizeLine_eq] at z; lia) ?_
  rw [<- rel.length]
  exact h _ _ (I.tok _)
end
def NoSl (i:Expr):Prop:=∀ ov iv,subscripted i false ov iv=operate [ov,iv] (getItem ov iv)
theorem subD_of {prog:Program} {w:World} {A:Around} {E:Value->Shared->Prop} {s:Shared} {env:Env} {value slice:Expr} {pos:Pos} {T id:String} {Q:Value->Shared->Prop}
    (hl:typeLookup (.type T) "__getitem__"=pure (some (.builtin id))) (hs:NoSl slice)
    (h:wpAny (model prog w) A (eval value env) (fun o s₁=>wpAny (model prog w) A (eval slice env) (fun i s₂=>s₂.TypeIs o T/\wpAny (model prog w) A (getItem o i) Q E s₂) E s₁) E s) :
    wpAny (model prog w) A (eval (.Subscript value slice pos) env) Q E s:=by
  refine Subscript_ (wpAny_mono h (fun o s₁ h₁=>wpAny_mono h₁ (fun i s₂ h₂=>?_) fun _ _ x=>x) fun _ _ x=>x)
  obtain ⟨hT,h₂⟩:=h₂
  unfold subscriptTail
  refine wpAny_bind ?_
  rw [getitemInPython_of_ne hT.not_modules]
  refine wpAny_bind (wpAny_specialOf hT hl ?_)
  have fin:wpAny (model prog w) A (subscripted slice false o i) (fun r s₃=>wpAny (model prog w) A (letTemporaryGo value o r >>= fun _=>pure r) Q E s₃) E s₂:=by
    rw [hs o i]
    exact wpAny_operating (wpAny_mono h₂ (fun r s₃ h₃=>wpAny_bind (wpAny_letTemporaryGo (wpAny_pure h₃))) fun _ _ x=>x)
  first
    | exact wpAny_pure (wpAny_bind fin)
    | exact wpAny_bind (wpAny_pure (wpAny_bind fin))
    | exact wpAny_bind fin
theorem dict_typeIs {X:Cx} {pins:List (Addr × Obj)} {σ:St} {H:Hp} {s:Shared} {a:Addr} {y:V} {o:Option V} (I:Inv X pins σ H s) (g:DGet H a y o):s.TypeIs (.ref a) "dict":=by
  rcases g with ⟨kvs,k,e,_,_⟩ | ⟨kvs,k,b,e,_,_,_⟩
  · obtain ⟨_,_,vs,_,dd⟩:=dk_rd I.hok e
    exact dd.typeIs
  · obtain ⟨_,_,xs,_,dd⟩:=dt_rd I.hok e
    exact dd.typeIs
def tDGet (td ty:TE):TE:=fun σ H Q=>td σ H fun x H1=>ty σ H1 fun y H2=>∃ a v,x=.ref a/\DGet H2 a y (some v)/\Q v H2
def tDIn (ty td:TE):TE:=fun σ H Q=>ty σ H fun y H1=>td σ H1 fun x H2=>∃ a o,x=.ref a/\DGet H2 a y o/\Q (.bl o.isSome) H2
def tDNotIn (ty td:TE):TE:=fun σ H Q=>ty σ H fun y H1=>td σ H1 fun x H2=>∃ a o,x=.ref a/\DGet H2 a y o/\Q (.bl (!o.isSome)) H2
def sDPut (td ty tv:TE):TS:=fun D σ H=>tv σ H fun v H1=>td σ H1 fun x H2=>ty σ H2 fun y H3=>∃ a H4,x=.ref a/\DPut H3 a y v H4/\D.nx σ H4
section
variable {X:Cx} {o i e value:Expr} {pos pos' tpos:Pos} {td ty tv:TE}
theorem pe_dget (hu:X.A.units + 1 < cLine) (ho:PE X o td) (hi:PE X i ty) (hs:NoSl i):PE X (.Subscript o i pos) (tDGet td ty):=by
  intro pins s σ H Q I h
  refine subD_of PySem.F.slot_dict_getitem.lookup hs (thn (ho pins s σ H _ I h) fun u s1 ⟨x,H1,I1,rx,q1⟩=>thn (hi pins s1 σ H1 _ I1 q1) fun iv s2 ⟨y,H2,I2,ry,a,v,ex,g,q2⟩=>?_)
  subst ex
  obtain rfl:u=Value.ref a:=rx
  exact ⟨dict_typeIs I2 g,d_getItem hu I2 g ry fun w' s3 I3 rw'=>⟨v,H2,I3,rw',q2⟩⟩
theorem pc_din (hu:X.A.units + 1 < cLine) (hi:PE X i ty) (ho:PE X o td):PC X .In i o (tDIn ty td):=by
  intro pins s σ H Q I h
  refine thn (hi pins s σ H _ I h) fun iv s1 ⟨y,H1,I1,ry,q1⟩=>thn (ho pins s1 σ H1 _ I1 q1) fun u s2 ⟨x,H2,I2,rx,a,ov,ex,g,q2⟩=>?_
  subst ex
  obtain rfl:u=Value.ref a:=rx
  exact d_in hu I2 g ry fun s3 I3=>⟨.bl ov.isSome,H2,I3,rfl,q2⟩
theorem pc_dnotin (hu:X.A.units + 1 < cLine) (hi:PE X i ty) (ho:PE X o td):PC X .NotIn i o (tDNotIn ty td):=by
  intro pins s σ H Q I h
  refine thn (hi pins s σ H _ I h) fun iv s1 ⟨y,H1,I1,ry,q1⟩=>thn (ho pins s1 σ H1 _ I1 q1) fun u s2 ⟨x,H2,I2,rx,a,ov,ex,g,q2⟩=>?_
  subst ex
  obtain rfl:u=Value.ref a:=rx
  exact d_notIn hu I2 g ry fun s3 I3=>⟨.bl (!ov.isSome),H2,I3,rfl,q2⟩
theorem ps_dput (hu:X.A.units + 1 < cLine) (ho:PE X o td) (hi:PE X i ty) (hv:PE X value tv) (hs:swapsWith value (some (.Subscript o i pos')) pos.line X.env=pure false) :
    PS X (.Assign [.Subscript o i pos'] value pos) (sDPut td ty tv):=by
  intro pins s σ H D I h
  refine wpAny_Assign_Subscript (thn (hv pins s σ H _ I h) fun r s1 ⟨v,H1,I1,rv,q1⟩=>thn (ho pins s1 σ H1 _ I1 q1) fun u s2 ⟨x,H2,I2,rx,q2⟩=>thn (hi pins s2 σ H2 _ I2 q2) fun iv s3 ⟨y,H3,I3,ry,a,H4,ex,g,q3⟩=>?_) hs
  subst ex
  obtain rfl:u=Value.ref a:=rx
  exact d_setItem hu I3 g ry rv fun s4 I4=>⟨σ,H4,I4,q3⟩
end
theorem dk_empty {P:Program} {w:World} {H:Hp} (h:Heap) (hb:sysModules < h.objs.size):ObjOk P w H (h.push { cls:=.type "dict",data:=.dict #[] }) h.objs.size (.dK []) :=
  ⟨Nat.zero_le _,beq_eq_false_iff_ne.mpr (Ne.symm (Nat.ne_of_lt hb)),[],.nil,Heap.DictOf.new h⟩
def tDNewK:TE:=fun _ H Q=>∀ p,H p=none->Q (.ref p) (upd H p (.dK []))
section
variable {X:Cx} {pos:Pos}
theorem pe_dnewK:PE X (.Dict [] [] pos) tDNewK:=fun pins s σ H Q I h =>
  wpAny_Dict_empty ⟨.ref s.heap.objs.size,_,I.laid (a:=s.heap.objs.size) (o:=.dK []) (t':=s.toks) (fun _ _ q=>Heap.get?_push_of_some _ q) (Nat.le_refl _) (dk_empty s.heap I.big),rfl,h _ (I.hok.fresh (Nat.le_refl _))⟩
end
structure M1 (X:Cx) (o:Expr) (m:Str) (apos:Pos) (e:Expr) (cpos:Pos):Prop where
  base:attributeBase o m X.env (eval o X.env)=eval o X.env
  few:((backTo cpos (starEach [e] X.env)).all (fun x=>!x.1) && (backToKw cpos (keywordEach [] X.env)).all (fun x=>x.1.isSome)
    && decide (([e]:List Expr).length + ([]:List Keyword).length + (if ([]:List Keyword).isEmpty then 0 else 1) < 30))=true
  line:(apos.endLine == cpos.line)=true
  trees:backTo cpos (starEach [e] X.env)=[(false,eval e X.env)]
structure M2 (X:Cx) (o:Expr) (m:Str) (apos:Pos) (e f:Expr) (cpos:Pos):Prop where
  base:attributeBase o m X.env (eval o X.env)=eval o X.env
  few:((backTo cpos (starEach [e,f] X.env)).all (fun x=>!x.1) && (backToKw cpos (keywordEach [] X.env)).all (fun x=>x.1.isSome)
    && decide (([e,f]:List Expr).length + ([]:List Keyword).length + (if ([]:List Keyword).isEmpty then 0 else 1) < 30))=true
  line:(apos.endLine == cpos.line)=true
  trees:backTo cpos (starEach [e,f] X.env)=[(false,eval e X.env),(false,eval f X.env)]
def IsD (H:Hp) (a:Addr):Prop:=(∃ kvs,Rd H a (.dK kvs))\/∃ kvs,Rd H a (.dT kvs)
theorem isD_at {X:Cx} {pins:List (Addr × Obj)} {σ:St} {H:Hp} {s:Shared} {a:Addr} (I:Inv X pins σ H s) (d:IsD H a) :
    s.TypeIs (.ref a) "dict"/\(∀ b,Value.ref a=.ref b->∃ ob,s.heap.get? b=some ob/\ob.dict=none)/\(a == sysModules)=false:=by
  rcases d with ⟨kvs,e⟩ | ⟨kvs,e⟩
  · obtain ⟨_,hd,vs,_,dd⟩:=dk_rd I.hok e
    refine ⟨dd.typeIs,fun b q=>?_,hd⟩
    cases q
    obtain ⟨ob,_,_,h1,h2,_⟩:=dd
    exact ⟨ob,h1,h2.2.1⟩
  · obtain ⟨_,hd,xs,_,dd⟩:=dt_rd I.hok e
    refine ⟨dd.typeIs,fun b q=>?_,hd⟩
    cases q
    obtain ⟨ob,_,_,h1,h2,_⟩:=dd
    exact ⟨ob,h1,h2.2.1⟩
section
variable {X:Cx} {pins:List (Addr × Obj)} {σ:St} {H:Hp} {s:Shared} {a:Addr} {y d:V} {u r:Value} {o:Option V} {A:Around} {E:Value->Shared->Prop}
theorem d_get2 {Q:Value->Shared->Prop} (hu:A.units + 1 < cLine) (I:Inv X pins σ H s) (g:DGet H a y o) (ry:RelV y u) (rd:RelV d r) (h:∀ w' s',Inv X pins σ H s'->RelV (o.getD d) w'->Q w' s') :
    wpAny (model X.prog X.w) A (call (.builtin "dict.get") [.ref a,u,r]) Q E s:=by
  rcases g with ⟨kvs,k,e,ey,l⟩ | ⟨kvs,k,b,e,ey,eb,l⟩
  · subst ey
    obtain ⟨z,hd,vs,rel,dd⟩:=dk_rd I.hok e
    refine call_meetsIn PySem.F.slot_dict_get dd.typeIs PySem.F.entry_dict_get (PySem.F.args_dict_get_3 _ _ _) (meets_dict_get_default (mixKind X.prog X.w) a (kV_is ry) hd r) ⟨_,dd.mapOf,h _ _ (I.tok _) ?_⟩
    rw [l]
    exact (rel.val k).getD rd
  · subst ey
    cases (show u=Value.ref b from ry)
    obtain ⟨z,hd,xs,rel,dd⟩:=dt_rd I.hok e
    refine call_meetsIn PySem.F.slot_dict_get dd.typeIs PySem.F.entry_dict_get (PySem.F.args_dict_get_3 _ _ _) (meetsH_dict_get_default (tupleKind (mixKind X.prog X.w)) a b hd r) ⟨tupleKind_room_in1 hu,k,xs,key_of I.hok eb,dd,h _ _ (I.tok _) ?_⟩
    rw [l]
    exact (rel.val k).getD rd
end
def tDGet2 (td ty tx:TE):TE:=fun σ H Q=>td σ H fun x H1=>∃ a,x=.ref a/\IsD H1 a/\ty σ H1 fun y H2=>tx σ H2 fun z H3=>∃ o,DGet H3 a y o/\Q (o.getD z) H3
def tDPop1 (td ty:TE):TE:=fun σ H Q=>td σ H fun x H1=>∃ a,x=.ref a/\IsD H1 a/\ty σ H1 fun y H2=>∃ kvs k v,H2 a=some (.dK kvs)/\y=kV k/\valV kvs k=some v/\Q v (upd H2 a (.dK (dropK kvs k)))
section
variable {X:Cx} {o e f:Expr} {apos cpos:Pos} {td ty tx:TE}
theorem pe_dget2 (hu:X.A.units + 1 < cLine) (ho:PE X o td) (he:PE X e ty) (hf:PE X f tx) (m:M2 X o "get" apos e f cpos):PE X (.Call (.Attribute o "get" apos) [e,f] [] cpos) (tDGet2 td ty tx):=by
  intro pins s σ H Q I h
  refine wpAny_Call_method m.base m.few m.line PySem.F.plainAttrs_dict PySem.F.slot_dict_get PySem.F.type_dict_get (thn (ho pins s σ H _ I h) fun u s1 ⟨x,H1,I1,rx,a,ex,d,q1⟩=>?_)
  subst ex
  obtain rfl:u=Value.ref a:=rx
  obtain ⟨t1,t2,_⟩:=isD_at I1 d
  refine ⟨t1,t2,?_⟩
  rw [m.trees]
  refine Calls.callWith_builtin rfl (Calls.evalArgs_plain (Calls.spliced_cons (thn (he pins s1 σ H1 _ I1 q1) fun iv s2 ⟨y,H2,I2,ry,q2⟩ =>
    Calls.spliced_cons (thn (hf pins s2 σ H2 _ I2 q2) fun fv s3 ⟨z,H3,I3,rz,ov,g,q3⟩=>Calls.spliced_nil ?_))))
  exact d_get2 hu I3 g ry rz fun w' s4 I4 rw'=>⟨_,H3,I4,rw',q3⟩
theorem pe_dpop1 (ho:PE X o td) (he:PE X e ty) (m:M1 X o "pop" apos e cpos):PE X (.Call (.Attribute o "pop" apos) [e] [] cpos) (tDPop1 td ty):=by
  intro pins s σ H Q I h
  refine wpAny_Call_method m.base m.few m.line PySem.F.plainAttrs_dict PySem.F.slot_dict_pop PySem.F.type_dict_pop (thn (ho pins s σ H _ I h) fun u s1 ⟨x,H1,I1,rx,a,ex,d,q1⟩=>?_)
  subst ex
  obtain rfl:u=Value.ref a:=rx
  obtain ⟨t1,t2,_⟩:=isD_at I1 d
  refine ⟨t1,t2,?_⟩
  rw [m.trees]
  refine Calls.callWith_builtin rfl (Calls.evalArgs_plain (Calls.spliced_cons (thn (he pins s1 σ H1 _ I1 q1) fun iv s2 ⟨y,H2,I2,ry,kvs,k,v,ea,ey,l,q2⟩=>Calls.spliced_nil ?_)))
  subst ey
  exact d_pop I2 ea ry l (.inl rfl) fun w' s3 I3 rw'=>⟨v,_,I3,rw',q2⟩
end
section
variable {X:Cx} {pins:List (Addr × Obj)} {σ:St} {H:Hp} {s:Shared} {a:Addr} {kvs:List (Key × V)} {A:Around} {E:Value->Shared->Prop}
end
section
variable {X:Cx} {pins:List (Addr × Obj)} {σ:St} {H:Hp} {s:Shared} {a:Addr} {y:V} {u:Value} {A:Around} {E:Value->Shared->Prop}
end
end L2
namespace Att
open PySem PySem.W PySem.Calls PyProof.Rows
section
variable {prog:Program} {w:World} {A:Around} {E:Value->Shared->Prop} {s:Shared} {K:Frag}
end
end Att
namespace L2
open PySem PySem.Spec PyProof.Rows
end L2
namespace L2
open PySem PySem.Spec PyProof.Rows
end L2
namespace L2
open PySem PySem.Spec PyProof.Rows
section
variable {P:Program} {w:World} {K:PySem.W.Frag} {mg:Str->Option Value} {base:Heap}
end
section
variable {X:Cx}
theorem call_lenD:CallR X (.builtin "len") (fun xs H Q=>∃ a kvs,xs=[V.ref a]/\H a=some (.dK kvs)/\Q (.int kvs.length) H):=by
  intro pins s σ H xs us Q I r h
  obtain ⟨a,kvs,rfl,ha,q⟩:=h
  obtain ⟨u,rfl,ru⟩:=vals1 r
  cases ru
  exact d_len I (.inl ha) fun t s' I'=>⟨.int kvs.length,H,I',⟨t,rfl⟩,q⟩
end
section
variable {κ:Type} [DecidableEq κ]
end
end L2
namespace L2
open PySem PySem.Spec PyProof.Rows
section
variable {X:Cx} {pos:Pos}
def rIsB:R2:=fun x y H Q=>∃ b c,x=.bl b/\y=.bl c/\Q (.bl (decide (b=c))) H
theorem op_isB:OpR X (compareOp .Is) rIsB:=by
  intro pins s σ H x y v u Q I rx ry h
  obtain ⟨b,c,rfl,rfl,q⟩:=h
  cases rx
  cases ry
  refine wpAny_is_plain rfl ⟨.bl (decide (b=c)),H,I,?_,q⟩
  cases b <;> cases c <;> rfl
theorem jo_isB:jOp X (compareOp .Is) rIsB:=⟨op_isB⟩
theorem je_dnewK:jE X (.Dict [] [] pos) tDNewK:=⟨pe_dnewK⟩
end
theorem SqK.l {K:PySem.W.Frag} {H:Hp} {a:Addr} {xs:List V} (h:H a=some (.lst xs)):SqK true K H a xs:=SqL.of h
theorem SqK.t {K:PySem.W.Frag} {H:Hp} {a:Addr} {xs:List V} (h:H a=some (.tup xs)):SqK false K H a xs:=SqT.of h
end L2
namespace L2
open PySem PySem.Spec PyProof.Rows
section
variable {X:Cx} {pins:List (Addr × Obj)} {σ:St} {H:Hp} {s:Shared} {h':Heap}
end
section
variable {X:Cx}
theorem js_dput {o i value:Expr} {td ty tv:TE} {pos pos':Pos} {k:Nat} (hr:Room k X.A) (ho:jE X o td) (hi:jE X i ty) (hv:jE X value tv) (hs:swapsWith value (some (.Subscript o i pos')) pos.line X.env=pure false:=by rfl) :
    jS X (.Assign [.Subscript o i pos'] value pos) (sDPut td ty tv):=⟨ps_dput (by have:=hr.units; lia) ho.out hi.out hv.out hs⟩
theorem KV.get {kvs:List (Key × V)} {ws:List (Key × Value)} (r:KV kvs ws) {j:Nat} {k:Key} {x:Value} (h:ws[j]?=some (k,x)):∃ y,kvs[j]?=some (k,y)/\RelV y x:=by
  unfold KV at r
  induction r generalizing j with
  | nil=>simp at h
  | @cons p q ps qs hh t ih =>
    cases j with
    | zero =>
      simp at h
      subst h
      obtain ⟨p1,p2⟩:=p
      have e:p1=k:=hh.1
      subst e
      exact ⟨p2,rfl,hh.2⟩
    | succ j =>
      obtain ⟨y,h1,h2⟩:=ih (j:=j) (by simpa using h)
      exact ⟨y,by simpa using h1,h2⟩
end
end L2
namespace L2
open PySem PySem.Spec PyProof.Rows
section
variable {X:Cx} {pos:Pos}
theorem jx_tupK (K:PySem.W.Frag) (h:X.K=K:=by rfl):jIx X (rIxT K):=h ▸ jx_tup
theorem jx_listK (K:PySem.W.Frag) (h:X.K=K:=by rfl):jIx X (rIxL K):=h ▸ jx_list
theorem jg_tupK (K:PySem.W.Frag) {es:List Expr} {k:Nat} {gs:TGs} {n:Nat} (hc:X.calm=true) (g:jGs X es gs) (h:X.K=K:=by rfl) (hn:(assignEach es X.env).length=n:=by rfl) (hst:(assignEach es X.env).findIdx? (·.1)=none:=by rfl):jG X (.Tuple es k pos) (gTup K n gs):=h ▸ jg_tup hc g hn hst
end
end L2
namespace K11
open PySem
def sg (c:Nat):Str:=⟨#[c]⟩
theorem size_foldl (a:Array Nat):∀ (k:Nat) (acc:Array Nat),((List.replicate k a).foldl (· ++ ·) acc).size=acc.size + k * a.size
  | 0,acc=>by simp
  | k + 1,acc=>by
    rw [List.replicate_succ,List.foldl_cons,size_foldl a k,Array.size_append,Nat.add_mul]
    lia
theorem mul_len {z:Str} {n:Int} (hz:z.length=1):(Txt.mul z n).length<=n.toNat:=by
  unfold Txt.mul
  split
  · simp [Str.empty,Str.length]
  · rename_i h
    split
    · rw [hz]; lia
    · show ((List.replicate n.toNat z.cps).foldl (· ++ ·) #[]).size<=n.toNat
      have e:z.cps.size=1:=hz
      rw [size_foldl,e]
      simp
theorem mul_ok {z:Str} {n:Int} (hz:z.length=1) (h0:0<=n) (h1:n<=1000):MulOk z n:=by
  have hs:sizeLine=16777216:=by decide
  refine ⟨?_,fun a b=>?_,fun a b=>?_⟩
  · have e1:decide (n < -(2 ^ 63:Int))=false:=decide_eq_false (by lia)
    have e2:decide (n ≥ 2 ^ 63)=false:=decide_eq_false (by lia)
    rw [e1,e2]; rfl
  · rw [hz]
    have:(1:Int)<=(2 ^ 63 - 1) / n:=Int.le_ediv_of_mul_le (by lia) (by lia)
    intro c
    have c':(1:Int) > (2 ^ 63 - 1) / n:=c
    lia
  · rw [hz]
    unfold Builtin.Str.tooLong
    exact decide_eq_false (by rw [hs]; lia)
end K11
namespace K11
open PySem PySem.Spec PyProof.Rows Builtin Builtin.Str
abbrev cl (z:Str):List Nat:=z.cps.toList
theorem cl_len (z:Str):(cl z).length=z.length:=by simp [Str.length]
theorem cl_app (x y:Str):cl (x ++ y)=cl x ++ cl y:=by
  show (x.cps ++ y.cps).toList=_
  simp
theorem cl_join_cons {sep x y:Str} {r:List Str}:cl (Str.join sep (x :: y :: r))=cl x ++ (cl sep ++ cl (Str.join sep (y :: r))):=by
  show cl (x ++ sep ++ Str.join sep (y :: r))=_
  rw [cl_app,cl_app,List.append_assoc]
end K11
namespace GN
open PySem L2
def top (i:Nat):Stmt:=PySem.Challenge.pw_reusewise_k65_one_spoilt_row.main.body.getD i (.Pass ⟨0,0,0,0⟩)
abbrev sNamesOf:Stmt:=top 13
abbrev sUsedUp:Stmt:=top 14
abbrev sChecked:Stmt:=top 16
abbrev sOwns:Stmt:=top 17
abbrev sHInit:Stmt:=inClass (top 18) 0
abbrev sInsist:Stmt:=inClass (top 18) 1
abbrev sLookAt:Stmt:=inClass (top 18) 2
abbrev sUseUp:Stmt:=inClass (top 18) 3
abbrev sBind:Stmt:=inClass (top 18) 4
abbrev sKeep:Stmt:=inClass (top 18) 5
abbrev sUseTok:Stmt:=inClass (top 18) 6
abbrev sCkDef:Stmt:=top 19
abbrev sCkPiece:Stmt:=top 20
abbrev sCopied:Stmt:=top 21
abbrev sCkGive:Stmt:=top 22
abbrev sCkDeed:Stmt:=top 23
abbrev sCkCase:Stmt:=top 24
abbrev sCkArm:Stmt:=top 25
abbrev iUnheld:Stmt:=inClass (top 6) 0
abbrev sDraw:Stmt:=top 27
abbrev sNm:Stmt:=top 28
abbrev sStem:Stmt:=top 29
abbrev sPair:Stmt:=top 30
abbrev sArm:Stmt:=top 31
abbrev sPlainBl:Stmt:=top 32
abbrev sKeptBl:Stmt:=top 33
abbrev sBlock:Stmt:=top 34
abbrev sJoined:Stmt:=top 35
abbrev sEnd:Stmt:=top 36
abbrev sDef:Stmt:=top 37
abbrev sOne:Stmt:=top 38
abbrev sGot:Stmt:=top 39
abbrev sLaw:Stmt:=top 40
end GN
namespace L2
open PySem
section
variable {X:Cx} {o i:Expr} {to ti:TE} {pos:Pos}
theorem jg_setL (ho:jE X o to) (hi:jE X i ti) (ha:∀ v,assign (.Subscript o i pos) X.env v=(do
      let ov <- holding [v] (eval o X.env)
      let iv <- holding [v,ov] (eval i X.env)
      standAt pos
      holding [v,ov,iv] (setItem ov iv v)
      release [v,ov,iv] []):=by intro _; rfl):jG X (.Subscript o i pos) (gSub to ti rSetL):=⟨pg_sub ho.out hi.out set_list ha⟩
end
end L2
namespace GN
open PySem L2 K11
theorem same_new {H:Hp} {p:Addr} (h:H p=none) (o:HO):Same H (upd H p o):=fun b u q=>by rw [upd_ne (ne_of_none q h)]; exact q
def LIM:Nat:=4611686018427387904
def Sta (K:PySem.W.Frag) (H:Hp) (st:Addr) (B:Nat):Prop:=∃ (a:Addr) (ns:List Int) (k:Nat),H st=some (.lst [.ref a,.int (k:Nat)])/\(a=st->∀ H',SqL K H' a (ns.map V.int))/\SqL K H a (ns.map V.int)/\k<=B
structure Kp (st:Addr) (H H':Hp):Prop where
  k:∀ b u,b≠st->H b=some u->H' b=some u
  s:∀ a k,H st=some (.lst [.ref a,.int k])->∃ k',H' st=some (.lst [.ref a,.int k'])
theorem Kp.refl {st:Addr} {H:Hp}:Kp st H H:=⟨fun _ _ _ h=>h,fun _ k h=>⟨k,h⟩⟩
theorem Kp.trans {st:Addr} {H H1 H2:Hp} (a:Kp st H H1) (b:Kp st H1 H2):Kp st H H2:=⟨fun c u n h=>b.k c u n (a.k c u n h),fun x k h=>let ⟨k',h'⟩:=a.s x k h; b.s x k' h'⟩
theorem Kp.of {st:Addr} {H H1:Hp} (a:Same H H1):Kp st H H1:=⟨fun c u _ h=>a c u h,fun _ k h=>⟨k,a _ _ h⟩⟩
theorem Kp.new {st p:Addr} {H H1:Hp} {o:HO} (a:Kp st H H1) (h:H1 p=none):Kp st H (upd H1 p o):=a.trans (.of (same_new h o))
theorem Kp.put {st p:Addr} {H H1:Hp} {o:HO} (a:Kp st H H1) (h:H p=none):Kp st H (upd H1 p o):=⟨fun b u n q=>by rw [upd_ne (ne_of_none q h)]; exact a.k b u n q,fun x k q=>by
  obtain ⟨k',h'⟩:=a.s x k q
  exact ⟨k',by rw [upd_ne (ne_of_none q h)]; exact h'⟩⟩
theorem Kp.seq {K:PySem.W.Frag} {st a:Addr} {H H':Hp} {xs:List V} (e:Kp st H H') (n:a≠st) (h:SqL K H a xs):SqL K H' a xs:=by
  rcases h with (h | ⟨o,h⟩) | h
  · exact .inl (.inl (e.k _ _ n h))
  · exact .inl (.inr ⟨o,e.k _ _ n h⟩)
  · exact .inr h
theorem Kp.free {st p:Addr} {H H':Hp} (e:Kp st H H') (n:p≠st) (h:H' p=none):H p=none:=by
  cases q:H p with
  | none=>rfl
  | some o =>
    rw [e.k p o n q] at h
    cases h
section
variable {K:PySem.W.Frag} {H H':Hp} {st:Addr} {B B':Nat}
theorem Sta.ex (h:Sta K H st B):∃ o,H st=some o:=let ⟨_,_,_,e,_⟩:=h; ⟨_,e⟩
theorem Sta.mono (h:Sta K H st B) (l:B<=B'):Sta K H st B':=let ⟨a,ns,k,h1,h2,h3,h4⟩:=h; ⟨a,ns,k,h1,h2,h3,Nat.le_trans h4 l⟩
theorem Sta.same (h:Sta K H st B) (s:Same H H'):Sta K H' st B:=let ⟨a,ns,k,h1,h2,h3,h4⟩:=h; ⟨a,ns,k,s _ _ h1,h2,s.seq h3,h4⟩
theorem Sta.new (h:Sta K H st B) {p:Addr} (hp:H p=none) (o:HO):Sta K (upd H p o) st B:=h.same (same_new hp o)
theorem Sta.ne {p:Addr} (h:Sta K H st B) (hp:H p=none):p≠st:=fun e=>by
  obtain ⟨o,q⟩:=h.ex
  rw [e,q] at hp
  cases hp
theorem Sta.neR {p:Addr} {ts:List Addr} (h:Sta K H st B) (hp:H p=some (.lst (ts.map V.ref))):p≠st:=fun e=>by
  obtain ⟨a,ns,k,h1,_⟩:=h
  rw [e,h1] at hp
  have e2:=congrArg (fun o=>match o with | some (HO.lst l)=>l | _=>[]) hp
  simp only at e2
  match ts,e2 with
  | [_,_],e2=>simp at e2
  | [],e2=>simp at e2
  | [_],e2=>simp at e2
  | _ :: _ :: _ :: _,e2=>simp at e2
theorem Sta.neS {p:Addr} {ts:List Str} (h:Sta K H st B) (hp:H p=some (.lst (ts.map V.str))):p≠st:=fun e=>by
  obtain ⟨a,ns,k,h1,_⟩:=h
  rw [e,h1] at hp
  have e2:=congrArg (fun o=>match o with | some (HO.lst l)=>l | _=>[]) hp
  simp only at e2
  match ts,e2 with
  | [],e2=>simp at e2
  | _ :: _,e2=>simp at e2
theorem Sta.neW {p:Addr} {x:Str} {xs:List V} (h:Sta K H st B) (hp:H p=some (.lst (.str x :: xs))):p≠st:=fun e=>by
  obtain ⟨a,ns,k,h1,_⟩:=h
  rw [e,h1] at hp
  simp at hp
theorem Sta.put {H2:Hp} {p:Addr} {o:HO} (S0:Sta K H st B) (hp:H p=none) (k:Kp st H H2) (S2:Sta K H2 st B'):Sta K (upd H2 p o) st B':=by
  obtain ⟨a,ns,i,h1,h2,h3,_⟩:=S0
  obtain ⟨a',ns',i',g1,g2,g3,g4⟩:=S2
  obtain ⟨k',h'⟩:=k.s a _ h1
  rw [g1] at h'
  have ea:a'=a:=by
    have:=congrArg (fun o=>match o with | some (HO.lst (V.ref x :: _))=>x | _=>0) h'
    exact this
  subst ea
  have g1':upd H2 p o st=some (.lst [.ref a',.int ((i':Nat):Int)]):=by rw [upd_ne (ne_of_none h1 hp)]; exact g1
  have key:a'≠p->Sta K (upd H2 p o) st B':=fun n=>by
    refine ⟨a',ns',i',g1',g2,?_,g4⟩
    rcases g3 with (g | ⟨o,g⟩) | g
    · exact .inl (.inl (by rw [upd_ne n]; exact g))
    · exact .inl (.inr ⟨o,by rw [upd_ne n]; exact g⟩)
    · exact .inr g
  rcases h3 with (h | ⟨_,h⟩) | h
  · exact key (ne_of_none h hp)
  · exact key (ne_of_none h hp)
  · exact ⟨a',ns,i',g1',fun _ _=>.inr h,.inr h,g4⟩
def Tups (H H':Hp):Prop:=∀ p xs,H p=some (.tup xs)->H' p=some (.tup xs)
theorem Tups.of (s:Same H H'):Tups H H':=fun p xs h=>s p _ h
theorem Tups.trans {H2:Hp} (a:Tups H H') (b:Tups H' H2):Tups H H2:=fun p xs h=>b p xs (a p xs h)
theorem Kp.tups (k:Kp st H H') (h:Sta K H st B):Tups H H':=fun p xs q=>k.k p _ (fun e=>by
  obtain ⟨_,_,_,h1,_⟩:=h
  rw [e,h1] at q
  cases q) q
end
def spDraw (K:PySem.W.Frag):Sp:=fun vs H Q _=>∃ (st:Addr) (m:Int) (B:Nat),vs=[.ref st,.int m]/\Sta K H st B/\B < LIM/\0 < m/\∀ (H':Hp) (r:Int),Kp st H H'->Sta K H' st (B + 1)->0<=r->r < m->Q (.int r) H'
def LET:Str:="abcdefghijklmnopqrstuvwxyz"
theorem let_cl:cl LET=(List.range 26).map (97 + ·):=by decide +kernel
def lt (i:Nat):Str:=sg (97 + i)
theorem let_at {i:Nat} (h:i < 26):atI LET.cps.toList (i:Int)=some (97 + i):=by
  refine atI_nat ?_
  show (cl LET)[i]?=_
  rw [let_cl,List.getElem?_map,List.getElem?_range h]
  rfl
theorem let_atI {m:Int} (h0:0<=m) (h:m < 26):atI LET.cps.toList m=some (97 + m.toNat):=by
  have e:=let_at (i:=m.toNat) (by lia)
  rw [Int.toNat_of_nonneg h0] at e
  exact e
theorem let_len:LET.length=26:=by decide +kernel
def core (k:Nat):Str:=lt (k / 2 % 26) ++ ("z":Str) ++ lt (k / 52 % 26)
def ys (k:Nat):Str:=Txt.mul "y" ((k % 2:Nat):Int)
def nm (z:Str) (b:Bool) (k:Nat):Str:=if b=true then core k ++ z ++ ys k else ys k ++ z ++ core k
theorem cl_core (k:Nat):cl (core k)=[97 + k / 2 % 26,122,97 + k / 52 % 26]:=by
  unfold core
  rw [cl_app,cl_app]
  rfl
theorem core_len (k:Nat):(core k).length=3:=by rw [<- cl_len,cl_core]; rfl
theorem ys_len (k:Nat):(ys k).length<=1:=by
  have h:=mul_len (z:="y") (n:=((k % 2:Nat):Int)) rfl
  unfold ys
  lia
theorem len_app (a b:Str):(a ++ b).length=a.length + b.length:=by rw [<- cl_len,cl_app,List.length_append,cl_len,cl_len]
def spNm:Sp:=fun vs H Q _=>∃ (p:Addr) (z:Str) (b:Bool) (xs:List V) (k:Nat),vs=[.ref p,.int (k:Nat)]/\H p=some (.lst (.str z :: .bl b :: xs))/\z.length<=6/\Q (.str (nm z b k)) H
def So (l:List Int):Prop:=∀ x∈l,0<=x/\x<=2
theorem So.app {a b:List Int} (h:So a) (g:So b):So (a ++ b):=fun x hx=>(List.mem_append.mp hx).elim (h x) (g x)
theorem So.nil:So []:=fun x hx=>by cases hx
section
variable {P:Program} {w:World} {K:PySem.W.Frag} {mg:Str->Option Value} {base:Heap} {f:Addr} {fd:FuncData}
theorem scDraw:FnScope ["_law_state","_law_many","_law_k","_law_cell"] ["_law_state","_law_many"] (defScope sDraw):=⟨rfl,rfl,rfl,by decide +kernel,rfl,by decide +kernel,by decide +kernel⟩
theorem ok_draw (F:Fun K "_law_draw" "_law_draw" sDraw f fd) (m_len:mg "len"=none):FnOk P w K mg base CX0 1 f fd ["_law_state","_law_many"] (spDraw K):=by
  refine F.by scDraw (fun vs H Q E h=>?_) (fun cdv A outer s H vs Q E hr h=>?_)
  · obtain ⟨st,m,B,rfl,_⟩:=h
    rfl
  obtain ⟨st,m,B,rfl,⟨a,ns,k,hst,hne,hS,hk⟩,hB,hm,q⟩:=h
  refine ⟨_,
    (jss_cons (js_set (i:=2) scDraw.nd rfl (Or.inl rfl) (je_ix jx_list (jv 0) je_int (fun _ _=>rfl)))
    (jss_cons (js_asg (je_op jo_add (jv 2) je_int) (jg_setL (jv 0) je_int))
    (jss_cons (js_if (jt_cmpR jo_lt (jv 2) (je_fnB jc_len_seq rfl m_len PySem.boot_len (ja_c (je_ix jx_list (jv 0) je_int (fun _ _=>rfl)) ja_nil)) (nomark _))
      (jss_one (js_ret (je_op jo_mod (je_ix jx_list (je_ix jx_list (jv 0) je_int (fun _ _=>rfl)) (jv 2) (fun _ _=>rfl)) (jv 1)))) jss_nil)
    (jss_cons (js_set (i:=3) scDraw.nd rfl (Or.inl rfl) (je_op jo_add (je_op jo_mul (jv 2) je_int) je_int))
    (jss_cons (js_if (jt_cmpR jo_gt (je_fnB jc_len_seq rfl m_len PySem.boot_len (ja_c (je_ix jx_list (jv 0) je_int (fun _ _=>rfl)) ja_nil)) je_int (nomark _))
      (jss_one (js_set (i:=3) scDraw.nd rfl (Or.inl rfl) (je_op jo_add (jv 3) (je_op jo_mul (je_ix jx_list (je_ix jx_list (jv 0) je_int (fun _ _=>rfl)) (je_op jo_mod (je_op jo_mul (jv 2) je_int) (je_fnB jc_len_seq rfl m_len PySem.boot_len (ja_c (je_ix jx_list (jv 0) je_int (fun _ _=>rfl)) ja_nil))) (fun _ _=>rfl)) (je_op jo_add je_int (jv 2)))))) jss_nil)
    (jss_one (js_ret (je_op jo_mod (je_op jo_mod (jv 3) je_int) (jv 1))))))))),?_⟩
  refine ⟨_,rfl,ixL hst (atI_nat (j:=1) rfl) ?_⟩
  refine ⟨_,rfl,_,_,rfl,rfl,_,rfl,st,_,1,1,rfl,rfl,hst,rfl,?_⟩
  have kp:Kp st H (upd H st (.lst [.ref a,.int ((k + 1:Nat):Int)])):=⟨fun b u n h=>by rw [upd_ne n]; exact h,fun x y h=>by
    rw [hst] at h
    cases h
    exact ⟨_,upd_same⟩⟩
  have hst1:=upd_same (H:=H) (a:=st) (o:=.lst [.ref a,.int ((k + 1:Nat):Int)])
  have hS1:SqL K (upd H st (.lst [.ref a,.int ((k + 1:Nat):Int)])) a (ns.map V.int):=by
    by_cases e:a=st
    · exact hne e _
    · exact kp.seq e hS
  have fin:∀ r:Int,0<=r->r < m->Q (.int r) (upd H st (.lst [.ref a,.int ((k + 1:Nat):Int)])):=fun r h0 h1=>q _ r kp ⟨a,ns,k + 1,hst1,hne,hS1,by lia⟩ h0 h1
  show (tSeq _ _:TS) _ _ (upd H st (.lst [.ref a,.int ((k + 1:Nat):Int)]))
  generalize upd H st (.lst [.ref a,.int ((k + 1:Nat):Int)])=H1 at *
  have ix0:atI [V.ref a,V.int ((k + 1:Nat):Int)] 0=some (.ref a):=atI_nat (j:=0) rfl
  have mm:∀ x:Int,0<=x % m/\x % m < m:=fun x=>⟨Int.emod_nonneg x (by lia),Int.emod_lt_of_pos x hm⟩
  refine ⟨_,rfl,_,rfl,st,_,_,_,rfl,rfl,SqL.of hst1,ix0,_,_,rfl,.inl hS1,_,_,rfl,rfl,_,rfl,?_⟩
  rw [List.length_map]
  refine ite2 (fun c=>?_) (fun c=>?_)
  · rw [decide_eq_true_eq] at c
    have hi:k < ns.length:=by lia
    have hx:(ns.map V.int)[k]?=some (.int ns[k]):=by rw [List.getElem?_map,List.getElem?_eq_getElem hi]; rfl
    exact ⟨_,rfl,st,_,_,_,rfl,rfl,SqL.of hst1,ix0,_,rfl,a,_,_,_,rfl,rfl,hS1,atI_nat hx,_,rfl,_,_,rfl,rfl,hm,fin _ (mm _).1 (mm _).2⟩
  · refine ⟨_,rfl,_,_,rfl,rfl,.inr ⟨by decide,by decide⟩,_,_,rfl,rfl,?_⟩
    have tail:∀ (c:Int) (D:Ends),D.rt=Q->(tRet (tOp (rI (fun _ j=>0 < j) fun i j=>V.int (i % j)) (tOp (rI (fun _ j=>0 < j) fun i j=>V.int (i % j)) (tVar 3) (tC (.int 2147483629))) (tVar 1)):TS) D [some (.ref st),some (.int m),some (.int (k:Nat)),some (.int c)] H1:=fun c D e=>by
      refine ⟨_,rfl,_,_,rfl,rfl,(by show (0:Int) < _; decide),_,rfl,_,_,rfl,rfl,hm,?_⟩
      rw [e]
      exact fin _ (mm _).1 (mm _).2
    refine ⟨_,rfl,st,_,_,_,rfl,rfl,SqL.of hst1,ix0,_,_,rfl,.inl hS1,_,_,rfl,rfl,_,rfl,?_⟩
    rw [List.length_map]
    refine ite2 (fun c2=>?_) (fun c2=>tail _ _ rfl)
    rw [decide_eq_true_eq] at c2
    have hl:(0:Int) < (ns.length:Nat):=by lia
    have c0:=Int.emod_nonneg ((k:Nat) * 7:Int) (show ((ns.length:Nat):Int)≠0 by lia)
    have c1:=Int.emod_lt_of_pos ((k:Nat) * 7:Int) hl
    have hi:(((k:Nat) * 7:Int) % (ns.length:Nat)).toNat < ns.length:=by lia
    have hx:(ns.map V.int)[(((k:Nat) * 7:Int) % (ns.length:Nat)).toNat]?=some (.int ns[(((k:Nat) * 7:Int) % (ns.length:Nat)).toNat]):=by rw [List.getElem?_map,List.getElem?_eq_getElem hi]; rfl
    have hx2:atI (ns.map V.int) (((k:Nat) * 7:Int) % (ns.length:Nat))=some (.int ns[(((k:Nat) * 7:Int) % (ns.length:Nat)).toNat]):=by
      have e:=atI_nat hx
      rw [Int.toNat_of_nonneg c0] at e
      exact e
    refine ⟨_,rfl,_,rfl,st,_,_,_,rfl,rfl,SqL.of hst1,ix0,_,rfl,_,_,rfl,rfl,.inr ⟨by decide,by decide⟩,_,rfl,st,_,_,_,rfl,rfl,SqL.of hst1,ix0,_,_,rfl,.inl hS1,_,_,rfl,rfl,(by rw [List.length_map]; exact hl),?_⟩
    refine ⟨a,_,_,_,rfl,rfl,hS1,(by rw [List.length_map]; exact hx2),_,rfl,_,_,rfl,rfl,_,_,rfl,rfl,.inr ⟨by show -(2 ^ 64) < (48271 + (k:Nat):Int); lia,by show (48271 + (k:Nat):Int) < 2 ^ 64; unfold LIM at hB; lia⟩,_,_,rfl,rfl,tail _ _ rfl⟩
theorem scNm:FnScope ["_law_world","_law_k","_law_letters","_law_core"] ["_law_world","_law_k"] (defScope sNm):=⟨rfl,rfl,rfl,by decide +kernel,rfl,by decide +kernel,by decide +kernel⟩
theorem ok_nm (F:Fun K "_law_name" "_law_name" sNm f fd):FnOk P w K mg base CX0 1 f fd ["_law_world","_law_k"] spNm:=by
  refine F.by scNm (fun vs H Q E h=>?_) (fun cdv A outer s H vs Q E hr h=>?_)
  · obtain ⟨p,z,b,xs,k,rfl,_⟩:=h
    rfl
  obtain ⟨p,z,b,xs,k,rfl,hp,hz,q⟩:=h
  refine ⟨_,
    (jss_cons (js_set (i:=2) scNm.nd rfl (Or.inl rfl) je_str)
    (jss_cons (js_set (i:=3) scNm.nd rfl (Or.inl rfl) (je_op jo_add_str (je_op jo_add_str (je_ix jx_str (jv 2) (je_op jo_mod (je_op jo_fdiv (jv 1) je_int) je_int) (fun _ _=>rfl)) je_str) (je_ix jx_str (jv 2) (je_op jo_mod (je_op jo_fdiv (jv 1) je_int) je_int) (fun _ _=>rfl))))
    (jss_cons (js_if (jt_val (je_ix jx_list (jv 0) je_int (fun _ _=>rfl)))
      (jss_one (js_ret (je_op jo_add_str (je_op jo_add_str (jv 3) (je_ix jx_list (jv 0) je_int (fun _ _=>rfl))) (je_op jo_mul_str je_str (je_op jo_mod (jv 1) je_int))))) jss_nil)
    (jss_one (js_ret (je_op jo_add_str (je_op jo_add_str (je_op jo_mul_str je_str (je_op jo_mod (jv 1) je_int)) (je_ix jx_list (jv 0) je_int (fun _ _=>rfl))) (jv 3))))))),?_⟩
  have sl:=line0
  have e1:((k:Nat):Int) / 2 % 26=((k / 2 % 26:Nat):Int):=by lia
  have e2:((k:Nat):Int) / 52 % 26=((k / 52 % 26:Nat):Int):=by lia
  have e3:((k:Nat):Int) % 2=((k % 2:Nat):Int):=by lia
  have cl3:=core_len k
  have yl:=ys_len k
  have ec:(⟨#[97 + (((k:Nat):Int) / 2 % 26).toNat]⟩:Str) ++ ("z":Str) ++ (⟨#[97 + (((k:Nat):Int) / 52 % 26).toNat]⟩:Str)=core k:=by
    rw [e1,e2]
    rfl
  suffices rest:∀ c3:Str,c3=core k->(tSeq _ _:TS) { nx:=fun _ H'=>Q .non H',rt:=Q } [some (.ref p),some (.int (k:Nat)),some (.str LET),some (.str c3)] H by
    exact ⟨_,rfl,_,rfl,_,_,rfl,rfl,⟨by decide,by decide⟩,_,_,rfl,rfl,(by show (0:Int) < _; decide),LET,_,_,rfl,rfl,by rw [let_len]; decide,let_atI (by lia) (by lia),_,_,rfl,rfl,by show 1 + 1<=sizeLine; decide,_,rfl,_,rfl,_,_,rfl,rfl,⟨by decide,by decide⟩,_,_,rfl,rfl,(by show (0:Int) < _; decide),LET,_,_,rfl,rfl,by rw [let_len]; decide,let_atI (by lia) (by lia),_,_,rfl,rfl,by show 2 + 1<=sizeLine; decide,rest _ ec⟩
  rintro _ rfl
  have mo:MulOk "y" (((k % 2:Nat):Int)):=mul_ok rfl (by lia) (by lia)
  refine ⟨_,rfl,ixL hp (atI_nat (j:=1) rfl) ⟨_,rfl,?_⟩⟩
  unfold nm at q
  cases b with
  | true =>
    rw [if_pos rfl] at q
    refine iteT ?_
    refine ⟨_,rfl,_,rfl,ixL hp (atI_nat (j:=0) rfl) ⟨_,_,rfl,rfl,by lia,_,rfl,_,_,rfl,rfl,(by show (0:Int) < _; decide),_,_,rfl,rfl,by rw [e3]; exact mo,?_⟩⟩
    rw [e3]
    exact ⟨_,_,rfl,rfl,by rw [len_app]; show (core k).length + z.length + (ys k).length<=_; lia,q⟩
  | false =>
    rw [if_neg (by decide)] at q
    refine iteF ?_
    refine ⟨_,rfl,_,_,rfl,rfl,(by show (0:Int) < _; decide),_,_,rfl,rfl,by rw [e3]; exact mo,?_⟩
    rw [e3]
    refine ⟨_,rfl,ixL hp (atI_nat (j:=0) rfl) ⟨_,_,rfl,rfl,by show (ys k).length + z.length<=_; lia,_,rfl,_,_,rfl,rfl,by show (Txt.mul "y" (((k % 2:Nat):Int)) ++ z).length + (core k).length<=_; rw [len_app]; show (ys k).length + z.length + (core k).length<=_; lia,q⟩⟩
end
end GN
namespace L2
open PySem PySem.Spec PyProof.Rows
section
variable {X:Cx}
end
end L2
namespace L2
open PySem PySem.Spec PyProof.Rows
def BMn (mg:Str->Option Value) (h:Heap):Prop:=∃ bm ob,mg "__builtins__"=some (.ref bm)/\bm≠builtinsNs/\h.get? bm=some ob/\ob.cls=.type "module"/\ob.dict=some builtinsNs/\ob.data=.plain
theorem BMn.at {mg:Str->Option Value} {h:Heap} {P:Addr} {ps:Array Value} (B:BMn mg h) (g:h.Ns mainGlobals mg) (hP:h.get? P=some { cls:=.none,data:=.fields ps }):h.BuiltinsAt mg P/\mainGlobals≠P:=by
  obtain ⟨bm,ob,b1,b2,b3,b4,b5,b6⟩:=B
  refine ⟨⟨bm,ob,b1,b2,fun q=>?_,fun q=>?_,b3,b4,b5,b6⟩,fun q=>?_⟩
  · obtain ⟨o,es,ep,e,hd,_⟩:=g
    rw [q,e] at b3; cases b3; rw [hd] at b6; cases b6
  · rw [q,hP] at b3; cases b3; cases b4
  · obtain ⟨o,es,ep,e,hd,_⟩:=g
    rw [q,hP] at e; cases e; cases hd
theorem BMn.keeps {mg:Str->Option Value} {h h':Heap} (B:BMn mg h) (k:∀ b o,h.get? b=some o->h'.get? b=some o):BMn mg h' :=
  let ⟨bm,ob,b1,b2,b3,r⟩:=B; ⟨bm,ob,b1,b2,k _ _ b3,r⟩
end L2
namespace L2
open PySem PySem.Spec PyProof.Rows
structure CaD (P:Program) (w:World) (K:PySem.W.Frag) (mg:Str->Option Value) (base:Heap) (CX:CXT) (k:Nat) (x:Str) (ps:List Str) (dvs:List V) (sp:Sp):Prop where
  ex:∃ f fd,FnOk P w K mg base CX k f fd ps sp/\Binds K fd ps []/\(∃ ds,Binds K fd ps ds/\Vals dvs ds)/\PySem.W.keepIn K (.ref f)=true/\mg x=some (.ref f)
section
variable {X:Cx} {CX:CXT} {k:Nat} {x:Str} {ps:List Str} {sp:Sp} {dvs:List V} {E:XK} {p pos:Pos} {e:Expr} {es:List Expr} {t:TA}
end
def DdIn (K:PySem.W.Frag) (x:Str) (st:Stmt) (c D:Addr):Prop:=∃ f,PySem.W.nsIn K mainGlobals x=some (some (.ref f))/\∃ (oc:Value) (od:Option Addr) (kV doc pm:Value) (an:Option Addr) (ct:Value) (osl:Array (Option Value)),K.lookup f=some ⟨oc,od,.func (PySem.W.fnOf x x (defArgs st) (defBody st) (defScope st) (.ref D) kV doc pm an (.ref c) ct),osl⟩/\PySem.W.codeIn K (.ref c) x=true/\PySem.W.keepIn K (.ref f)=true
theorem DdIn.mk {K:PySem.W.Frag} {x:Str} {st:Stmt} {f c D:Addr} {oc:Value} {od:Option Addr} {kV doc pm:Value} {an:Option Addr} {ct:Value} {osl:Array (Option Value)} (a:PySem.W.nsIn K mainGlobals x=some (some (.ref f))) (l:K.lookup f=some ⟨oc,od,.func (PySem.W.fnOf x x (defArgs st) (defBody st) (defScope st) (.ref D) kV doc pm an (.ref c) ct),osl⟩) (cc:PySem.W.codeIn K (.ref c) x=true) (k:PySem.W.keepIn K (.ref f)=true):DdIn K x st c D:=⟨f,a,oc,od,kV,doc,pm,an,ct,osl,l,cc,k⟩
structure FunD (K:PySem.W.Frag) (x:Str) (st:Stmt) (c D f:Addr) (fd:FuncData):Prop where
  ex:∃ (oc:Value) (od:Option Addr) (kV doc pm:Value) (an:Option Addr) (ct:Value) (osl:Array (Option Value)),fd=PySem.W.fnOf x x (defArgs st) (defBody st) (defScope st) (.ref D) kV doc pm an (.ref c) ct/\K.lookup f=some ⟨oc,od,.func fd,osl⟩/\PySem.W.codeIn K (.ref c) x=true
theorem FunD.by {P:Program} {w:World} {K:PySem.W.Frag} {mg:Str->Option Value} {base:Heap} {x:Str} {st:Stmt} {f c D:Addr} {fd:FuncData} {N ps:List Str} {k:Nat} {sp:Sp} (F:FunD K x st c D f fd) (S:FnScope N ps (defScope st)) (len:∀ vs H Q E,sp vs H Q E->vs.length=ps.length)
    (hbody:∀ (A:Around) (outer:List Env) (s:Shared) (H:Hp) (vs:List V) (Q:VK) (E:XK),Room k (A.deeper (envOfC x (defScope st) s.heap.objs.size f (.ref c)))->sp vs H Q E ->
      ∃ t,jSs (cxOf CX0 P w K mg base N x (defScope st) f (.ref c) A outer s H E).nox (defBody st) t/\t { nx:=fun _ H'=>Q .non H',rt:=Q } (start N vs) H):FnOk P w K mg base CX0 (k + 1) f fd ps sp:=by
  obtain ⟨oc,od,kV,doc,pm,an,ct,osl,rfl,lk,hcd⟩:=F.ex
  refine fn_of lk hcd S len fun A outer s H vs Q E hr hsp=>?_
  obtain ⟨t,h,q⟩:=hbody A outer s H vs Q E hr hsp
  exact ⟨t,h.out.nox,q⟩
def DtIn (K:PySem.W.Frag) (D:Addr) (i:Int):Prop:=∃ (d:Option Addr) (t:Tok) (n:Nat) (sl:Array (Option Value)),K.lookup D=some ⟨.type "tuple",d,.seq #[.int i t] n,sl⟩
theorem DtIn.mk {K:PySem.W.Frag} {D:Addr} {i:Int} {d:Option Addr} {t:Tok} {n:Nat} {sl:Array (Option Value)} (a:K.lookup D=some ⟨.type "tuple",d,.seq #[.int i t] n,sl⟩):DtIn K D i:=⟨d,t,n,sl,a⟩
theorem DdIn.ca {P:Program} {w:World} {K:PySem.W.Frag} {mg:Str->Option Value} {base h:Heap} {k:Nat} {x:Str} {st:Stmt} {c D:Addr} {ps:List Str} {dvs:List V} {sp:Sp} (X:K.In h) (G:h.Ns mainGlobals mg) (d:DdIn K x st c D)
    (hb:∀ (kV doc pm:Value) (an:Option Addr) (ct:Value),Binds K (PySem.W.fnOf x x (defArgs st) (defBody st) (defScope st) (.ref D) kV doc pm an (.ref c) ct) ps [])
    (hd:∀ (kV doc pm:Value) (an:Option Addr) (ct:Value),∃ ds,Binds K (PySem.W.fnOf x x (defArgs st) (defBody st) (defScope st) (.ref D) kV doc pm an (.ref c) ct) ps ds/\Vals dvs ds)
    (ok:∀ f fd,FunD K x st c D f fd->FnOk P w K mg base CX0 k f fd ps sp):CaD P w K mg base CX0 k x ps dvs sp:=by
  obtain ⟨f,a,oc,od,kV,doc,pm,an,ct,osl,l,cc,kp⟩:=d
  exact ⟨f,_,ok f _ ⟨oc,od,kV,doc,pm,an,ct,osl,rfl,l,cc⟩,hb kV doc pm an ct,hd kV doc pm an ct,kp,PySem.W.mg_of X G a⟩
end L2
namespace L2
open PySem PySem.Spec PyProof.Rows
section
variable {prog:Program} {w:World} {A:Around} {E:Value->Shared->Prop}
end
inductive TyN (H:Hp):V->Bool->Prop where
  | int (i:Int):TyN H (.int i) false
  | str (z:Str):TyN H (.str z) false
  | bl (b:Bool):TyN H (.bl b) false
  | non:TyN H .non false
  | lst {a:Addr} {xs:List V} (e:H a=some (.lst xs)):TyN H (.ref a) true
  | tup {a:Addr} {xs:List V} (e:H a=some (.tup xs)):TyN H (.ref a) true
section
variable {X:Cx}
variable {CX:CXT} {k:Nat} {C:Addr} {ps:List Str} {sp:Sp} {E:XK} {x m:Str} {p pos apos:Pos} {e o:Expr} {es:List Expr} {ta:TE} {t:TA}
structure MeD (P:Program) (w:World) (K:PySem.W.Frag) (mg:Str->Option Value) (base:Heap) (CX:CXT) (k:Nat) (C:Addr) (m:Str) (ps:List Str) (dvs:List V) (sp:Sp):Prop where
  ex:∃ f fd,FnOk P w K mg base CX k f fd ps sp/\Binds K fd ps []/\(∃ ds,Binds K fd ps ds/\Vals dvs ds)/\Meth K C m f
theorem je_dget {o i:Expr} {td ty:TE} {pos:Pos} (hr:Room k X.A) (ho:jE X o td) (hi:jE X i ty) (hs:NoSl i:=by intro _ _; rfl):jE X (.Subscript o i pos) (tDGet td ty):=⟨pe_dget (hu_of hr) ho.out hi.out hs⟩
theorem je_dget2 {o e f:Expr} {td ty tx:TE} {apos cpos:Pos} (hr:Room k X.A) (ho:jE X o td) (he:jE X e ty) (hf:jE X f tx) (m:M2 X o "get" apos e f cpos:=by exact ⟨rfl,rfl,rfl,rfl⟩):jE X (.Call (.Attribute o "get" apos) [e,f] [] cpos) (tDGet2 td ty tx):=⟨pe_dget2 (hu_of hr) ho.out he.out hf.out m⟩
theorem jc_lenD:jCa X (.builtin "len") (fun xs H Q=>∃ a kvs,xs=[V.ref a]/\H a=some (.dK kvs)/\Q (.int kvs.length) H):=⟨call_lenD⟩
end
section
variable {g:TG} {tt:TT} {te:TE} {Q:VK} {σ:St} {H:Hp}
end
structure FunM (K:PySem.W.Frag) (x qual:Str) (st:Stmt) (D f:Addr) (fd:FuncData):Prop where
  ex:∃ (oc:Value) (od:Option Addr) (kV doc pm:Value) (an:Option Addr) (cdv ct:Value) (osl:Array (Option Value)),fd=PySem.W.fnOf x qual (defArgs st) (defBody st) (defScope st) (.ref D) kV doc pm an cdv ct/\K.lookup f=some ⟨oc,od,.func fd,osl⟩/\PySem.W.codeIn K cdv qual=true
theorem FunM.by {P:Program} {w:World} {K:PySem.W.Frag} {mg:Str->Option Value} {base:Heap} {x qual:Str} {st:Stmt} {f D:Addr} {fd:FuncData} {N ps:List Str} {k:Nat} {sp:Sp} (F:FunM K x qual st D f fd) (S:FnScope N ps (defScope st)) (len:∀ vs H Q E,sp vs H Q E->vs.length=ps.length)
    (hbody:∀ (cdv:Value) (A:Around) (outer:List Env) (s:Shared) (H:Hp) (vs:List V) (Q:VK) (E:XK),Room k (A.deeper (envOfC qual (defScope st) s.heap.objs.size f cdv))->sp vs H Q E ->
      ∃ t,jSs (cxOf CX0 P w K mg base N qual (defScope st) f cdv A outer s H E).nox (defBody st) t/\t { nx:=fun _ H'=>Q .non H',rt:=Q } (start N vs) H):FnOk P w K mg base CX0 (k + 1) f fd ps sp:=by
  obtain ⟨oc,od,kV,doc,pm,an,cdv,ct,osl,rfl,lk,hcd⟩:=F.ex
  refine fn_of lk hcd S len fun A outer s H vs Q E hr hsp=>?_
  obtain ⟨t,h,q⟩:=hbody cdv A outer s H vs Q E hr hsp
  exact ⟨t,h.out.nox,q⟩
def MdIn (K:PySem.W.Frag) (C:Addr) (x qual:Str) (st:Stmt) (D:Addr):Prop:=∃ f,PySem.W.findIn K (.ref C) x=some (some (.ref f))/\PySem.W.isFn K (.ref f)=true/\∃ (oc:Value) (od:Option Addr) (kV doc pm:Value) (an:Option Addr) (cdv ct:Value) (osl:Array (Option Value)),K.lookup f=some ⟨oc,od,.func (PySem.W.fnOf x qual (defArgs st) (defBody st) (defScope st) (.ref D) kV doc pm an cdv ct),osl⟩/\PySem.W.codeIn K cdv qual=true/\PySem.W.keepIn K (.ref f)=true
theorem MdIn.mk {K:PySem.W.Frag} {C:Addr} {x qual:Str} {st:Stmt} {f D:Addr} {oc:Value} {od:Option Addr} {kV doc pm:Value} {an:Option Addr} {cdv ct:Value} {osl:Array (Option Value)} (a:PySem.W.findIn K (.ref C) x=some (some (.ref f))) (l:K.lookup f=some ⟨oc,od,.func (PySem.W.fnOf x qual (defArgs st) (defBody st) (defScope st) (.ref D) kV doc pm an cdv ct),osl⟩) (c:PySem.W.codeIn K cdv qual=true) (k:PySem.W.keepIn K (.ref f)=true) (n:PySem.W.isFn K (.ref f)=true):MdIn K C x qual st D:=⟨f,a,n,oc,od,kV,doc,pm,an,cdv,ct,osl,l,c,k⟩
def DnIn (K:PySem.W.Frag) (D:Addr):Prop:=∃ (d:Option Addr) (n:Nat) (sl:Array (Option Value)),K.lookup D=some ⟨.type "tuple",d,.seq #[.none] n,sl⟩
theorem DnIn.mk {K:PySem.W.Frag} {D:Addr} {d:Option Addr} {n:Nat} {sl:Array (Option Value)} (a:K.lookup D=some ⟨.type "tuple",d,.seq #[.none] n,sl⟩):DnIn K D:=⟨d,n,sl,a⟩
theorem MdIn.me {P:Program} {w:World} {K:PySem.W.Frag} {mg:Str->Option Value} {base:Heap} {k:Nat} {C:Addr} {x qual:Str} {st:Stmt} {D:Addr} {ps:List Str} {dvs:List V} {sp:Sp} (d:MdIn K C x qual st D)
    (hb:∀ (kV doc pm:Value) (an:Option Addr) (cdv ct:Value),Binds K (PySem.W.fnOf x qual (defArgs st) (defBody st) (defScope st) (.ref D) kV doc pm an cdv ct) ps [])
    (hd:∀ (kV doc pm:Value) (an:Option Addr) (cdv ct:Value),∃ ds,Binds K (PySem.W.fnOf x qual (defArgs st) (defBody st) (defScope st) (.ref D) kV doc pm an cdv ct) ps ds/\Vals dvs ds)
    (ok:∀ f fd,FunM K x qual st D f fd->FnOk P w K mg base CX0 k f fd ps sp):MeD P w K mg base CX0 k C x ps dvs sp:=by
  obtain ⟨f,a,n,oc,od,kV,doc,pm,an,cdv,ct,osl,l,cc,kp⟩:=d
  exact ⟨f,_,ok f _ ⟨oc,od,kV,doc,pm,an,cdv,ct,osl,rfl,l,cc⟩,hb kV doc pm an cdv ct,hd kV doc pm an cdv ct,a,n,kp⟩
end L2
namespace L2
open PySem PySem.Spec PyProof.Rows
section
variable {X:Cx} {k:Nat} {o e f i:Expr} {td ty tx:TE} {apos cpos pos:Pos}
theorem je_dpop1 (ho:jE X o td) (he:jE X e ty) (m:M1 X o "pop" apos e cpos:=by exact ⟨rfl,rfl,rfl,rfl⟩):jE X (.Call (.Attribute o "pop" apos) [e] [] cpos) (tDPop1 td ty):=⟨pe_dpop1 ho.out he.out m⟩
theorem je_din (hr:Room k X.A) (hi:jE X i ty) (ho:jE X o td) (h1:behindInMarks .In o=false:=by rfl):jE X (.Compare i [.In] [o] pos) (tDIn ty td):=⟨pe_cmp (pc_din (hu_of hr) hi.out ho.out) (h1:=h1)⟩
theorem je_dnotin (hr:Room k X.A) (hi:jE X i ty) (ho:jE X o td) (h1:behindInMarks .NotIn o=false:=by rfl):jE X (.Compare i [.NotIn] [o] pos) (tDNotIn ty td):=⟨pe_cmp (pc_dnotin (hu_of hr) hi.out ho.out) (h1:=h1)⟩
end
end L2
namespace L2
open PySem PySem.Spec PyProof.Rows
theorem entry_unchain:entryFor table "proto.unchain"=some Builtin.«proto.unchain»:=entryFor_of_fast (by kernel_rfl)
theorem ref_bne {a b:Addr} (h:a≠b):(Value.ref a != Value.ref b)=true:=by
  rw [bne_iff_ne]
  intro e
  injection e with e
  exact h e
section
variable {prog:Program} {w:World} {A:Around} {s:Shared} {E:Value->Shared->Prop}
theorem list_endH {it l eh:Addr} {i:Nat} {items} {oe:Obj} {ve:Array Value} {Q:Option Value->Shared->Prop} (hh:A.handled=some (.ref eh)) (he:s.heap.get? eh=some oe) (hde:oe.data=.fields ve) (h2:ve[2]?=some .none) (hne:eh≠it)
    (hit:s.heap.IsListIter it l i) (hl:s.heap.IsList l items) (hx:items[i]?=none)
    (hQ:∀ h',Heap.ExtBut it s.heap h'->Q none { s with heap:=h' }):wpAny (model prog w) A (pyNext (.ref it)) Q E s:=by
  obtain ⟨o,ho,hc,hd⟩:=id hit
  obtain ⟨ol,hol,_,nl,hdl⟩:=hl
  unfold pyNext
  refine wpAny_bind (wpAny_attempt (wpAny_callSpecial?_slot (name:=Str.ofString "__next__") hit.typeIs slot_listiter_next
    (wpAny_call_entry slot_listiter_next hit.typeIs entry_listiter_next ?_ (args_listiter_next _))))
  show wpAny _ _ (field (.ref it) 0 >>= _) _ _ s
  refine wpAny_bind (wpAny_field ho hd (x:=.ref l) rfl ?_)
  show wpAny _ _ (if (Value.ref l == Value.none)=true then _ else _) _ _ s
  rw [if_neg (show ¬ ((Value.ref l == Value.none)=true) from Bool.false_ne_true)]
  show wpAny _ _ (field (.ref it) 1 >>= _) _ _ s
  refine wpAny_bind (wpAny_field ho hd (x:=.int i 0) rfl ?_)
  show wpAny _ _ (seqItems? (.ref l) >>= _) _ _ s
  refine wpAny_bind (wpAny_seqItems hol hdl ?_)
  simp only [Int.toNat_natCast,hx]
  refine wpAny_bind (wpAny_rule (wpAny_bind (wpAny_setField ho hd (by simp) ?_)))
  show wpAny _ _ (newExc (.type "StopIteration") [] >>= _) _ _ _
  refine wpAny_bind ?_
  simp only [newExc,newTuple]
  refine wpAny_bind (wpAny_newObj_type ?_ (by size_fits))
  refine wpAny_bind (m:=firstArgMember _ _) (wpAny_of_eq (a:=Value.none) (by first | rfl | (simp only [firstArgMember]; rfl)) ?_)
  refine wpAny_newObj_type ?_ (by size_fits)
  simp only [raiseNew]
  refine wpAny_bind (wpAny_handled ?_)
  rw [show A.in1.handled=some (.ref eh) from hh]
  generalize hG:(s.heap.update it (Obj.mapFields fun x=>x.setIfInBounds 0 Value.none)).push { cls:=.type "tuple",data:=.seq #[] }=G
  have kG:∀ b o,b≠it->s.heap.get? b=some o->G.get? b=some o:=fun b o n e=>by
    rw [<- hG]
    exact Heap.get?_push_of_some _ ((Heap.SameBut.update ..).extBut b o n e)
  have eG:=kG eh oe hne he
  have la:eh≠G.objs.size:=Nat.ne_of_lt (Heap.lt_size eG)
  show wpAny _ _ (if (Value.ref eh != Value.ref G.objs.size)=true then _ else _) _ _ _
  rw [if_pos (ref_bne la)]
  refine wpAny_bind (wpAny_holding (wpAny_runValue (codeAny_builtin entry_unchain ?_)))
  show wpAny _ _ (field (.ref eh) 2 >>= _) _ _ _
  refine wpAny_bind (wpAny_field (Heap.get?_push_of_some _ eG) hde (x:=.none) h2 ?_)
  show wpAny _ _ (if (Value.none == Value.none)=true then _ else _) _ _ _
  rw [if_pos (show (Value.none == Value.none)=true from rfl)]
  refine wpAny_bind (wpAny_pure (wpAny_pure ?_))
  show wpAny (model prog w) A.in1 (updateField G.objs.size 2 (.ref eh) >>= fun _=>throw (.ref G.objs.size)) _ _ _
  refine wpAny_bind ?_
  simp only [updateField]
  refine wpAny_bind (wpAny_load (Heap.get?_push_size _ rfl) ?_)
  show wpAny _ _ (if 2 < _ then _ else _) _ _ _
  rw [if_pos (by rw [Array.size_append]; show 2 < 6 + _; lia)]
  refine wpAny_update (Heap.get?_push_size _ rfl) (wpAny_throw ?_)
  refine wpAny_bind (wpAny_isInstance (T:="StopIteration") (b:=true) ⟨_,Heap.get?_update_self _ (Heap.get?_push_size _ rfl) rfl,rfl⟩ isSubtype_stop ?_)
  exact wpAny_pure (hQ _ fun b o n e=>(Heap.SameBut.update ..).extBut b o (Nat.ne_of_lt (Heap.lt_size (kG b o n e))) (Heap.get?_push_of_some _ (kG b o n e)))
end
def HandP (X:Cx):Prop:=∃ (eh:Addr) (oe:Obj) (ve:Array Value),X.A.handled=some (.ref eh)/\X.s₀.heap.get? eh=some oe/\X.H₀ eh=none/\eh ∉ X.fs/\eh ∉ X.ex/\oe.data=.fields ve/\ve[2]?=some .none
theorem HandP.now {X:Cx} {pins:List (Addr × Obj)} {σ:St} {H:Hp} {s:Shared} (h:HandP X) (I:Inv X pins σ H s):∃ (eh:Addr) (oe:Obj) (ve:Array Value),X.A.handled=some (.ref eh)/\s.heap.get? eh=some oe/\H eh=none/\eh ∉ X.fs/\eh < X.s₀.heap.objs.size/\eh ∉ X.ex/\oe.data=.fields ve/\ve[2]?=some .none:=by
  obtain ⟨eh,oe,ve,a1,a2,a3,a4,a5,a6,a7⟩:=h
  exact ⟨eh,oe,ve,a1,I.base.keep eh oe a2 a3 a4 a5,I.base.free eh oe a2 a3 a5,a4,Heap.lt_size a2,a5,a6,a7⟩
theorem HandP.lc {X:Cx} {pins:List (Addr × Obj)} {σ:St} {H:Hp} {s:Shared} {scope:Scope} {cl:List (Str × Addr)} {M:List Str} {C:Addr} {fp:List Addr} {E:Value->Shared->Prop} (h:HandP X) (I:Inv X pins σ H s) (hf:∀ b∈fp,FpOk X pins H b):HandP (cxLC X scope cl M C s H fp E):=by
  obtain ⟨eh,oe,ve,a1,a2,a3,a4,a5,a6,a7,a8⟩:=h.now I
  refine ⟨eh,oe,ve,a1,a2,a3,fun z=>?_,fun z=>?_,a7,a8⟩
  · rcases List.mem_cons.mp (I.stkSub eh z) with q | q
    · exact (I.apart a2 a7).1 q
    · exact a4 q
  · rcases (hf eh z).2.2.2.1 with q | q
    · exact a6 q
    · exact absurd (Nat.lt_of_lt_of_le a5 q) (Nat.lt_irrefl _)
structure TurnC (Cn:Cx->Prop) (P:Program) (w:World) (K:PySem.W.Frag) (tg:Expr) (J:It) (fp:List Addr) (it:Addr) (tn:Nat->Heap->Prop):Prop where
  mem:it∈fp
  obj:∀ i h,tn i h->∀ b∈fp,∃ o,h.get? b=some o/\∀ v,o.data≠.cell v
  keep:∀ i h h',tn i h->(∀ b∈fp,∀ o,h.get? b=some o->h'.get? b=some o)->tn i h'
  item:∀ (X:Cx),X.prog=P->X.w=w->X.K=K->Cn X->∀ (i:Nat) (pins:List (Addr × Obj)) (s:Shared) (σ:St) (H:Hp) (E:Value->Shared->Prop),Inv X pins σ H s->(∀ b∈fp,FpOk X pins H b)->tn i s.heap->J.go i H ->
    wpAny (model P w) X.A (pyNext (.ref it)) (fun r s1=>∃ u,r=some u /\
      wpAny (model P w) X.A (letOwnedTupleGo tg (.ref it) u) (fun _ s2=>∃ x H',Inv X pins σ H' s2/\RelV x u/\J.yld i H x H'/\tn (i + 1) s2.heap/\∀ b∈fp,H' b=none) E s1) E s
  done:∀ (X:Cx),X.prog=P->X.w=w->X.K=K->Cn X->∀ (i:Nat) (pins:List (Addr × Obj)) (s:Shared) (σ:St) (H:Hp) (E:Value->Shared->Prop),Inv X pins σ H s->(∀ b∈fp,FpOk X pins H b)->tn i s.heap->J.stop i H ->
    wpAny (model P w) X.A (pyNext (.ref it)) (fun r s1=>r=none/\Inv X pins σ H s1) E s
  self:∀ (A:Around) (i:Nat) (s:Shared) (Q:Value->Shared->Prop) (E:Value->Shared->Prop),tn i s.heap->Q (.ref it) s->wpAny (model P w) A (pyIter (.ref it)) Q E s
theorem turn_listH {P:Program} {w:World} {K:PySem.W.Frag} {tg:Expr} (a it:Addr):TurnC HandP P w K tg (Itl K a) [it] it (fun i h=>h.IsListIter it a i) where
  mem:=by simp
  obj:=fun i h st b hb=>by
    have e:b=it:=by simpa using hb
    subst e
    obtain ⟨o,e,c,d⟩:=st
    exact ⟨o,e,fun v z=>by rw [d] at z; cases z⟩
  keep:=fun i h h' st k=>st.at fun o e=>k it (by simp) o e
  item:=by
    intro X hP hw hK hc i pins s σ H E I hf st hg
    subst hP hw hK
    obtain ⟨xs,x,hq,hx⟩:=hg
    obtain ⟨its,rv,p,hz⟩:=I.list hq
    obtain ⟨u,hu,ru⟩:=rv.get hx
    obtain ⟨f0,f1,f2,f3,f4,f5⟩:=hf it (by simp)
    refine wpAny_pyNext_list_item st p.isList (x:=u) (by simpa using hu) fun h' st' sb=>?_
    have I1:Inv X pins σ H { s with heap:=h' }:=I.turned (t':=s.toks) (fun b o hb e=>(sb.2 b hb).trans e) f0 f1 f3 f4 f5
    obtain ⟨o,e,c,d⟩:=id st'
    exact ⟨u,rfl,go_of (s:={ s with heap:=h' }) e c d (by decide) ⟨x,H,I1,ru,⟨rfl,fun ys hy=>by rw [I.list_inj hy hq]; exact hx⟩,st',fun b hb=>(hf b hb).1⟩⟩
  done:=by
    intro X hP hw hK hc i pins s σ H E I hf st hg
    subst hP hw hK
    obtain ⟨xs,hq,hx⟩:=hg
    obtain ⟨its,rv,p,hz⟩:=I.list hq
    obtain ⟨f0,f1,f2,f3,f4,f5⟩:=hf it (by simp)
    have hl:=rv.length
    obtain ⟨eh,oe,ve,a1,a2,a3,a4,a5,a6,a7,a8⟩:=hc.now I
    have hne:eh≠it:=fun z=>by
      rcases f3 with q | q
      · exact a6 (z ▸ q)
      · exact absurd (Nat.lt_of_lt_of_le a5 (z ▸ q)) (Nat.lt_irrefl _)
    exact list_endH a1 a2 a7 a8 hne st p.isList (by simp; lia) fun h' eb=>⟨rfl,I.turned (t':=s.toks) (fun b o hb e=>eb b o hb e) f0 f1 f3 f4 f5⟩
  self:=fun _ _ _ _ _ st h=>wpAny_pyIter_listiter st h
end L2
namespace L2
open PySem PySem.Spec PyProof.Rows
def PIEH (X:Cx) (pins:List (Addr × Obj)) (σ:St) (tg:Expr) (R:It->Hp->Prop) (itv:Value) (s2:Shared):Prop :=
  ∃ (it:Addr) (fp:List Addr) (tn:Nat->Heap->Prop) (J:It) (H':Hp),itv=.ref it/\Inv X pins σ H' s2/\TurnC HandP X.prog X.w X.K tg J fp it tn/\tn 0 s2.heap/\(∀ b∈fp,FpOk X pins H' b)/\R J H'
def PIH (X:Cx) (tg iter:Expr) (wi:TI):Prop :=
  ∀ (pins:List (Addr × Obj)) (s:Shared) (σ:St) (H:Hp) (R:It->Hp->Prop),Inv X pins σ H s->wi σ H R ->
    wpAny (model X.prog X.w) X.A (eval iter X.env) (fun v s1=>wpAny (model X.prog X.w) X.A (pyIter v) (PIEH X pins σ tg R) X.xe s1) X.xe s
theorem pi_listH {X:Cx} {tg l:Expr} {tl:TE} (hl:PE X l tl):PIH X tg l (iList X.K tl):=by
  intro pins s σ H R I h
  refine thn (hl pins s σ H _ I h) fun v s1 ⟨x,H1,I1,r1,q1⟩=>?_
  obtain ⟨a,e,⟨xs,hq⟩,q⟩:=q1
  subst e
  cases r1
  obtain ⟨its,rv,p,hz⟩:=I1.list hq
  refine wpAny_pyIter_list p.isList ?_
  refine ⟨s1.heap.objs.size,[s1.heap.objs.size],_,_,H1,rfl,I1.kept (t':=s1.toks) fun b o e=>Heap.get?_push_of_some _ e,turn_listH a _,⟨_,Heap.get?_push_size _ rfl,rfl,rfl⟩,fun b hb=>?_,q⟩
  have e:b=s1.heap.objs.size:=by simpa using hb
  subst e
  exact I1.fpOk (Nat.le_refl _) (I1.hok.fresh (Nat.le_refl _))
section
variable {X:Cx} {scope:Scope} {cl:List (Str × Addr)} {S:List Nat} {pins:List (Addr × Obj)} {σ:St} {H:Hp} {s:Shared} {ex:List Addr} {M:List Str} {C:Addr}
theorem lc_coreH {tg elt iter:Expr} {ifs:List Expr} {pos:Pos} {g:TG} {tt:TT} {te:TE} {J:It} {fp:List Addr} {it:Addr} {tn:Nat->Heap->Prop} {Q:VK} {E:Value->Shared->Prop} {R:Value->Addr->Result->Shared->Prop}
    {W:Nat->Nat->St->List V->Hp->Prop} {m0:Nat} (L:LcOk X scope cl S) (hc:HandP X) (I:Inv X pins σ H s) (T:TurnC HandP X.prog X.w X.K tg J fp it tn) (st:tn 0 s.heap) (hf:∀ b∈fp,FpOk X pins H b)
    (hg:∀ C s H ex E,PG (cxLC X scope cl M C s H ex E) tg g) (ht:∀ C s H ex E,PTs (cxLC X scope cl M C s H ex E) ifs tt) (he:∀ C s H ex E,PE (cxLC X scope cl M C s H ex E) elt te)
    (w0:W 0 m0 (blank S σ ++ List.replicate M.length none) [] H) (turn:lcBy J g tt te Q W)
    (hR:∀ D C s' H' ys m,Inv X pins σ (upd H' D (.lst ys)) s'->FpOk X pins (upd H' D (.lst ys)) C->s'.heap.Ns C m->Q (.ref D) (upd H' D (.lst ys))->R (.ref D) C (.ok .next) s') :
    wpAny (model X.prog X.w) X.A (newList []) (fun acc s₃=>wpAny (model X.prog X.w) X.A (newFunctionEnv scope X.env.globals cl [] X.env.qual none .none (some X.env)) (fun cenv s₄ =>
      codeAny (model X.prog X.w) X.A (.compStart (.ListComp elt [⟨tg,iter,ifs,0⟩] scope pos) 0 (.ref it) acc { cenv with scope:=relabel scope X.env }) (R acc cenv.locals) s₄) E s₃) E s:=by
  refine wpAny_newObj_type (wpAny_newFunctionEnv L.nocell (by intro y hy; simp at hy) (fun h₁ hns₁ hsb₁=>?_) L.kind)
  dsimp only at hns₁ hsb₁ ⊢
  generalize hG:s.heap.push { cls:=.type "list",dict:=none,data:=.seq ([]:List Value).toArray }=G at hns₁ hsb₁ ⊢
  have hC:G.objs.size=s.heap.objs.size + 1:=by rw [<- hG,Heap.size_push]
  have hDC:s.heap.objs.size≠G.objs.size:=by rw [hC]; exact Nat.ne_of_lt (Nat.lt_succ_self _)
  have hCle:s.heap.objs.size<=G.objs.size:=by rw [hC]; exact Nat.le_succ _
  have old:∀ b o,s.heap.get? b=some o->h₁.get? b=some o:=fun b o e =>
    hsb₁.extBut b o (by rw [hC]; exact Nat.ne_of_lt (Nat.lt_succ_of_lt (Heap.lt_size e))) (Heap.get?_push_of_some _ (hG ▸ Heap.get?_push_of_some _ e))
  have hacc:h₁.get? s.heap.objs.size=some { cls:=.type "list",data:=.seq ([]:List Value).toArray }:=hsb₁.extBut _ _ hDC (Heap.get?_push_of_some _ (hG ▸ Heap.get?_push_size _ rfl))
  have fpo:∀ b∈fp,b < s.heap.objs.size:=fun b hb=>let ⟨o,e,_⟩:=T.obj 0 _ st b hb; Heap.lt_size e
  have st1:tn 0 h₁:=T.keep 0 _ _ st fun b _ o e=>old b o e
  have nofs:s.heap.objs.size ∉ frs X.stack:=fun z=>by
    rcases List.mem_cons.mp (I.stkSub _ z) with q | q
    · exact absurd (q ▸ I.lt) (Nat.lt_irrefl _)
    · exact I.nofs (Nat.le_refl _) q
  have nocl:∀ y c,cl.lookup y=some c->c≠s.heap.objs.size:=fun y c e z=>by
    obtain ⟨v,o,ho,_⟩:=I.cell y c (L.sub.get e)
    exact absurd (z ▸ Heap.lt_size ho) (Nat.lt_irrefl _)
  have loop:∀ s₃:Shared,s₃={ s with heap:=h₁,toks:=s.toks + ([]:List (Str × Value)).length } ->
      codeAny (model X.prog X.w) X.A (.compLoop (.ListComp elt [⟨tg,iter,ifs,0⟩] scope pos) 0 (.ref it) (.ref s.heap.objs.size) (compEnvC scope cl G.objs.size X.env)) (R (.ref s.heap.objs.size) G.objs.size) s₃:=by
    rintro s₃ rfl
    generalize hE:notedBy (model X.prog X.w) X.A (compEnvC scope cl G.objs.size X.env) (fun e s'=>R (.ref s.heap.objs.size) G.objs.size (.error e) s')=E'
    have IY:Inv (cxLC X scope cl M G.objs.size s H fp E') [] (blank S σ ++ List.replicate M.length none) H { s with heap:=h₁,toks:=s.toks + ([]:List (Str × Value)).length }:=lc_start I L hf fpo old hCle hns₁
    refine codeAny_loop rfl (fun n s'=>∃ (i:Nat) (τ:St) (H':Hp) (ys:List V) (its:List Value) (k:Nat),Inv (cxLC X scope cl M G.objs.size s H fp E') [] τ H' s'/\tn i s'.heap/\(∀ b∈fp,H' b=none) /\
      s'.heap.get? s.heap.objs.size=some { cls:=.type "list",data:=.seq its.toArray k }/\H' s.heap.objs.size=none/\Vals ys its/\ys.length<=sizeLine/\W i n τ ys H') (fun n s' hI=>?_) m0
      ⟨0,_,H,[],[],_,IY,st1,fun b hb=>(hf b hb).1,hacc,I.hok.fresh (Nat.le_refl _),.nil,Nat.zero_le _,w0⟩
    obtain ⟨i,τ,H1,ys,its,k,I1,st1,fr1,eD,fD,rv,hz,w1⟩:=hI
    show wpAny _ X.A ((compTurn (.ListComp elt [⟨tg,iter,ifs,0⟩] scope pos) 0 (.ref it) (.ref s.heap.objs.size) (compEnvC scope cl G.objs.size X.env)).onRaise (fun x=>do noteFrame x (compEnvC scope cl G.objs.size X.env); theTreesLotGoes x)) _ _ s'
    refine wpAny_noted ?_
    rw [hE,compTurn_list]
    have I1':Inv (cxLC X scope cl M G.objs.size s H fp E') [(s.heap.objs.size,{ cls:=.type "list",data:=.seq its.toArray k })] τ H1 s':=I1.pins_of fun p hp=>by
      have e:p=(s.heap.objs.size,{ cls:=.type "list",data:=.seq its.toArray k }):=by simpa using hp
      subst e
      exact ⟨eD,fD,hDC,nofs,(fun v z=>nomatch z)⟩
    have stat:∀ {H':Hp},(∀ b∈fp,H' b=none)->∀ b∈fp,FpOk (cxLC X scope cl M G.objs.size s H fp E') [(s.heap.objs.size,{ cls:=.type "list",data:=.seq its.toArray k })] H' b:=fun hn b hb=>by
      refine ⟨hn b hb,?_,?_,.inl hb,fun x c e=>(hf b hb).2.2.2.2.1 x c (L.sub.get e),fun p hp z=>?_⟩
      · exact Nat.ne_of_lt (Nat.lt_of_lt_of_le (fpo b hb) hCle)
      · intro z
        rcases List.mem_cons.mp (I.stkSub b z) with q | q
        · exact (hf b hb).2.1 q
        · exact (hf b hb).2.2.1 q
      · have e:p=(s.heap.objs.size,{ cls:=.type "list",data:=.seq its.toArray k }):=by
          have hp':p∈[(s.heap.objs.size,({ cls:=.type "list",data:=.seq its.toArray k }:Obj))]:=hp
          simpa using hp'
        subst e
        exact absurd (z ▸ fpo b hb) (Nat.lt_irrefl _)
    refine wpAny_bind (wpAny_standAt (wpAny_bind ?_))
    rcases turn i n τ ys H1 w1 with ⟨stop,q⟩ | ⟨go,N,hN,step⟩
    · refine thn (T.done (cxLC X scope cl M G.objs.size s H fp E') rfl rfl rfl (hc.lc I hf) i _ s' τ H1 E' I1' (stat fr1) st1 stop) fun r s4 ⟨hr,I4⟩=>?_
      subst hr
      refine wpAny_pure ?_
      obtain ⟨eD4,_,_⟩:=I4.pin (s.heap.objs.size,{ cls:=.type "list",data:=.seq its.toArray k }) (List.mem_append_right _ List.mem_cons_self)
      have base4:Un (frs X.stack) fp H H1 s.heap s4.heap:=I4.base
      have un:Un (frs X.stack) fp H (upd H1 s.heap.objs.size (.lst ys)) s.heap s4.heap:=⟨base4.keep,base4.slot,fun b o e n hx=>by rw [upd_ne (Nat.ne_of_lt (Heap.lt_size e))]; exact base4.free b o e n hx,base4.there,
        fun b xs e=>by rw [upd_ne (ne_of_none (base4.tups b xs e) fD)]; exact base4.tups b xs e,fun b o u e=>by rw [upd_ne (ne_of_none (base4.frzs b o u e) fD)]; exact base4.frzs b o u e,
        fun b ps e=>by
          obtain ⟨more,w⟩:=base4.tbls b ps e
          exact ⟨more,by rw [upd_ne (ne_of_none w fD)]; exact w⟩⟩
      have hok:HOk X.prog X.w (upd H1 s.heap.objs.size (.lst ys)) s4.heap:=fun b u e=>by
        by_cases hb:b=s.heap.objs.size
        · subst hb
          rw [upd_same] at e
          cases e
          exact ⟨hz,its,k,rv,eD4⟩
        · rw [upd_ne hb] at e
          exact (I4.hok b u e).stay (fun c v _ q=>q) (fun c q=>by rw [upd_ne (ne_of_none q fD)]; exact q) fun c xs q=>by rw [upd_ne (ne_of_none q fD)]; exact q
      have IX:Inv X pins σ (upd H1 s.heap.objs.size (.lst ys)) s4:=I.call' I4.os un hok I4.bare fun b hb=>⟨(hf b hb).2.2.2.1,(hf b hb).2.1,(hf b hb).2.2.2.2.1,(hf b hb).2.2.2.2.2⟩
      have fC:H1 G.objs.size=none:=I4.free
      obtain ⟨m4,n4,_⟩:=I4.loc
      exact hR _ _ s4 H1 ys m4 IX (I.fpOk hCle (by rw [upd_ne (Ne.symm hDC)]; exact fC)) n4 (q _ fD)
    · refine thn (T.item (cxLC X scope cl M G.objs.size s H fp E') rfl rfl rfl (hc.lc I hf) i _ s' τ H1 E' I1' (stat fr1) st1 go) fun r s4 ⟨u,hr,h4⟩=>?_
      subst hr
      refine wpAny_bind (thn h4 fun _ s5 ⟨x,H5,I5,r5,y5,st5,fr5⟩=>?_)
      have I5':=I5.pinned (stat fr5) (T.obj _ _ st5)
      -- what holds behind a turn
      have kept:∀ {τ6:St} {H6:Hp} {s6:Shared},Inv (cxLC X scope cl M G.objs.size s H fp E') ([(s.heap.objs.size,{ cls:=.type "list",data:=.seq its.toArray k })] ++ pinsAt fp s5.heap) τ6 H6 s6 ->
          Inv (cxLC X scope cl M G.objs.size s H fp E') [] τ6 H6 s6/\tn (i + 1) s6.heap/\(∀ b∈fp,H6 b=none)/\s6.heap.get? s.heap.objs.size=some { cls:=.type "list",data:=.seq its.toArray k }/\H6 s.heap.objs.size=none:=fun {τ6 H6 s6} I6=>by
        have pin:∀ b∈fp,∀ o,s5.heap.get? b=some o->s6.heap.get? b=some o/\H6 b=none:=fun b hb o e =>
          let w:=I6.pin (b,o) (List.mem_append_right _ (List.mem_append_right _ (mem_pinsAt hb e)))
          ⟨w.1,w.2.1⟩
        have pD:=I6.pin (s.heap.objs.size,{ cls:=.type "list",data:=.seq its.toArray k }) (List.mem_append_right _ (List.mem_append_left _ List.mem_cons_self))
        refine ⟨I6.pins_of (fun p hp=>nomatch hp),T.keep _ _ _ st5 fun b hb o e=>(pin b hb o e).1,fun b hb=>?_,pD.1,pD.2.1⟩
        obtain ⟨o,e,_⟩:=T.obj _ _ st5 b hb
        exact (pin b hb o e).2
      refine wpAny_bind (thn (hg _ _ _ _ _ _ s5 τ H5 x u _ I5' r5 (step x H5 y5)) fun _ s6 ⟨σ6,H6,I6,q6⟩=>?_)
      refine wpAny_bind (thn (ht _ _ _ _ _ _ s6 σ6 H6 _ I6 q6) fun ok s7 ⟨H7,I7,q7⟩=>?_)
      cases ok with
      | false =>
        have q7':N σ6 ys H7:=by simpa using q7
        obtain ⟨m',hm,w7⟩:=hN _ _ _ q7'
        obtain ⟨K1,K2,K3,K4,K5⟩:=kept I7
        exact wpAny_pure ⟨rfl,m',hm,i + 1,σ6,H7,ys,its,k,K1,K2,K3,K4,K5,rv,hz,w7⟩
      | true =>
        have q7':te σ6 H7 fun y H4=>ys.length < sizeLine/\N σ6 (ys ++ [y]) H4:=by simpa using q7
        refine wpAny_bind (wpAny_bind (thn (he _ _ _ _ _ _ s7 σ6 H7 _ I7 q7') fun y s8 ⟨v8,H8,I8,r8,hz8,n8⟩=>?_))
        obtain ⟨m',hm,w8⟩:=hN _ _ _ n8
        obtain ⟨K1,K2,K3,K4,K5⟩:=kept I8
        have hl:=rv.length
        refine wpAny_bind (wpAny_list_append_plain (hsz:=by rw [List.size_toArray]; lia) ⟨k,K4⟩ fun h9 hl9 hs9=>wpAny_pure (wpAny_pure ⟨rfl,m',hm,?_⟩))
        obtain ⟨k9,e9⟩:=hl9
        have I9:Inv (cxLC X scope cl M G.objs.size s H fp E') [] σ6 H8 { s8 with heap:=h9 }:=K1.turned (t':=s8.toks) (it:=s.heap.objs.size) (fun b o hb e=>(hs9.2 b hb).trans e) K5 hDC (.inr (Nat.le_refl _))
          (fun y c e=>nocl y c e) fun p hp=>nomatch hp
        refine ⟨i + 1,σ6,H8,ys ++ [v8],its ++ [y],k9,I9,T.keep _ _ _ K2 fun b hb o e=>(hs9.2 b (Nat.ne_of_lt (fpo b hb))).trans e,K3,?_,K5,rv.append (.cons r8 .nil),?_,w8⟩
        · rw [e9]
          simp
        · rw [List.length_append,List.length_singleton]
          lia
  exact codeAny_compStart_list (loop _ rfl) (T.self X.A 0 _ _ _ st1 (loop _ rfl))
variable {tg elt iter:Expr} {ifs:List Expr} {pos:Pos} {wi:TI} {g:TG} {tt:TT} {te:TE}
theorem pe_lcH (L:LcOk X scope cl S) (hc:HandP X) (hi:PIH X tg iter wi) (hg:∀ C s H ex E,PG (cxLC X scope cl M C s H ex E) tg g) (ht:∀ C s H ex E,PTs (cxLC X scope cl M C s H ex E) ifs tt) (he:∀ C s H ex E,PE (cxLC X scope cl M C s H ex E) elt te)
    (hs:∀ x,foldedSetIterable iter X.env x=pure x:=by intro _; rfl):PE X (.ListComp elt [⟨tg,iter,ifs,0⟩] scope pos) (tLCS S wi g tt te M.length):=by
  intro pins s σ H Q I h
  rw [eval_ListComp]
  refine wpAny_comprehension_free (use:=none) rfl hs L.clos L.kind L.locs (thn (hi pins s σ H _ I h) fun v s1 h1=>thn h1 fun itv s2 h2=>?_)
  obtain ⟨it,fp,tn,J,H2,rfl,I2,T,st2,f2,W,⟨m0,w0⟩,turn⟩:=h2
  refine lc_coreH (R:=fun acc C=>compPost (model X.prog X.w) X.A X.xe none (EP X pins σ Q) acc C) L hc I2 T st2 f2 hg ht he w0 turn ?_
  intro D C s' H' ys m IX fC ns q
  exact ⟨m,ns,fun h' sb=>⟨.ref D,_,IX.turned (t':=s'.toks) (fun b o hb e=>(sb.2 b hb).trans e) fC.1 fC.2.1 fC.2.2.2.1 fC.2.2.2.2.1 fC.2.2.2.2.2,rfl,q⟩⟩
end
section
variable {X:Cx} {scope:Scope} {M:List Str} {tg elt l:Expr} {ifs:List Expr} {pos:Pos} {tl:TE} {g:TG} {tt:TT} {te:TE}
theorem je_compH (M:List Str) (hc:HandP X) (hl:jE X l tl) (hg:∀ C s H ex E,jG (cxLC X scope (clOf scope X.env) M C s H ex E) tg g) (ht:∀ C s H ex E,jTs (cxLC X scope (clOf scope X.env) M C s H ex E) ifs tt)
    (he:∀ C s H ex E,jE (cxLC X scope (clOf scope X.env) M C s H ex E) elt te) (hs:∀ x,foldedSetIterable l X.env x=pure x:=by intro _; rfl)
    (h1:closureFor scope X.env=pure (clOf scope X.env):=by with_unfolding_all rfl) (h2:scope.kind=.function:=by rfl) (h3:scope.names.all (fun y=>y.2 != .cell)=true:=by rfl) (h4:scope.names.all (fun y=>y.2 != .local || scope.names.lookup y.1 == some .local)=true:=by rfl)
    (h5:X.N.all (fun y=>scope.names.lookup y != some .local)=true:=by rfl) (h6:scope.names.all (fun p=>p.2 != .free || (((clOf scope X.env).lookup p.1).isSome && (X.env.kindOf p.1 == some .cell || X.env.kindOf p.1 == some .free)))=true:=by rfl) :
    jE X (.ListComp elt [⟨tg,l,ifs,0⟩] scope pos) (tLC (iList X.K tl) g tt te M.length):=⟨pe_lcH (lcOk h1 h2 h3 h4 h5 h6) hc (pi_listH hl.out) (fun C s H ex E=>(hg C s H ex E).out) (fun C s H ex E=>(ht C s H ex E).out) (fun C s H ex E=>(he C s H ex E).out) hs⟩
end
structure RoomH (k:Nat) (A:Around):Prop where
  dp:A.depth + 3 * k + 5 < recursionLimit
  un:A.units + 16 * k + 200 < cLine
theorem RoomH.deeper {k:Nat} {A:Around} (r:RoomH (k + 1) A) (env:Env):RoomH k (A.deeper env) :=
  ⟨by have:=r.dp; show A.depth + 1 + 3 * k + 5 < _; lia,by have:=r.un; show A.units + 3 + 16 * k + 200 < _; lia⟩
theorem Room.h {k:Nat} {A:Around} (r:Room k A) (u:Option Value):RoomH k (A.mark u):=⟨r.dp,r.un⟩
structure Hnd (A:Around) (outer:List Env) (s:Shared) (H:Hp) (e:Addr) (oe:Obj):Prop where
  h:A.handled=some (.ref e)
  g:s.heap.get? e=some oe
  n:H e=none
  f:e ∉ frs outer
  d:∃ ve:Array Value,oe.data=.fields ve/\ve[2]?=some .none
structure FnOkH (P:Program) (w:World) (K:PySem.W.Frag) (mg:Str->Option Value) (base:Heap) (k:Nat) (f:Addr) (fd:FuncData) (ps:List Str) (sp:Addr->Obj->Sp):Prop where
  len:∀ e oe vs H Q E,sp e oe vs H Q E->vs.length=ps.length
  run:∀ (A:Around) (outer:List Env) (s:Shared) (H:Hp) (args:Args) (us:List Value) (vs:List V) (Q:VK) (e:Addr) (oe:Obj),RoomH k A->Env0 P w K mg base A outer s H->Hnd A outer s H e oe->BindsTo s fd args (ps.zip us)->Vals vs us->sp e oe vs H Q E0 ->
    codeAny (model P w) A (.call (.ref f) args) (CR CX0 outer P w H s Q E0) s
abbrev cxOfH (P:Program) (w:World) (K:PySem.W.Frag) (mg:Str->Option Value) (base:Heap) (N:List Str) (qual:Str) (scope:Scope) (f:Addr) (cd:Value) (A:Around) (outer:List Env) (s:Shared) (H:Hp):Cx :=
  { cxOf CX0 P w K mg base N qual scope f cd A outer s H E0 with calm:=false,xe:=fun _ _=>False }
theorem inv_startH {P:Program} {w:World} {K:PySem.W.Frag} {mg:Str->Option Value} {base:Heap} {N ps:List Str} {qual:Str} {scope:Scope} {f:Addr} {cd:Value} {A:Around} {outer:List Env} {s s1:Shared} {H:Hp} {us:List Value} {vs:List V}
    (S:FnScope N ps scope) (e0:Env0 P w K mg base A outer s H) (hl:vs.length=ps.length) (r:Vals vs us)
    (x:InCallC s s.heap.objs.size (bindL (envOfC qual scope s.heap.objs.size f cd).kindOf (ps.zip us) fun _=>none) (cellsFrom (s.heap.objs.size + 1) scope.names []) (bindC (envOfC qual scope s.heap.objs.size f cd).kindOf (ps.zip us) fun _=>none) s1) :
    Inv (cxOfH P w K mg base N qual scope f cd A outer s H) [] (start N vs) H s1:=by
  have I0:Inv { cxOf CX0 P w K mg base N qual scope f cd { A with handled:=none } outer s H E0 with xe:=fun _ _=>False } [] (start N vs) H s1:=by
    have J:=inv_start (CX:=CX0) (E:=E0) (A:={ A with handled:=none }) S rfl (⟨e0.frames,e0.mod,e0.bs,e0.bsz,e0.funs,e0.frf,e0.hok,e0.bare⟩:Env0 P w K mg base { A with handled:=none } outer s H) hl r x
    exact ⟨⟨J.ok.mod,J.ok.kind,J.ok.glob,J.ok.blt,J.ok.above,J.ok.inj,J.ok.has,J.ok.cab,J.ok.hd,J.ok.frames,J.ok.stk,J.ok.exf,J.ok.bs,J.ok.bsz,J.ok.noex,J.ok.exfs,J.ok.funs,J.ok.frf⟩,J.os,J.bare,J.base,J.loc,J.cell,J.free,J.freeC,J.pin,J.hok,J.len⟩
  exact ⟨⟨I0.ok.mod,I0.ok.kind,I0.ok.glob,I0.ok.blt,I0.ok.above,I0.ok.inj,I0.ok.has,I0.ok.cab,(fun z=>nomatch z),I0.ok.frames,I0.ok.stk,I0.ok.exf,I0.ok.bs,I0.ok.bsz,I0.ok.noex,I0.ok.exfs,I0.ok.funs,I0.ok.frf⟩,I0.os,I0.bare,I0.base,I0.loc,I0.cell,I0.free,I0.freeC,I0.pin,I0.hok,I0.len⟩
theorem Fun.byH {P:Program} {w:World} {K:PySem.W.Frag} {mg:Str->Option Value} {base:Heap} {x qual:Str} {st:Stmt} {f:Addr} {fd:FuncData} {N ps:List Str} {k:Nat} {sp:Addr->Obj->Sp} (F:Fun K x qual st f fd) (S:FnScope N ps (defScope st)) (len:∀ e oe vs H Q E,sp e oe vs H Q E->vs.length=ps.length)
    (hbody:∀ (cdv:Value) (A:Around) (outer:List Env) (s:Shared) (H:Hp) (vs:List V) (Q:VK) (e:Addr) (oe:Obj),RoomH k (A.deeper (envOfC qual (defScope st) s.heap.objs.size f cdv))->sp e oe vs H Q E0->Hnd A outer s H e oe ->
      ∃ t,jSs (cxOfH P w K mg base N qual (defScope st) f cdv A outer s H) (defBody st) t/\t { nx:=fun _ H'=>Q .non H',rt:=Q } (start N vs) H):FnOkH P w K mg base (k + 1) f fd ps sp:=by
  obtain ⟨oc,od,kV,doc,pm,an,cdv,ct,osl,rfl,lk,hcd⟩:=F.ex
  refine ⟨len,fun A outer s H args us vs Q e oe hr e0 hn hb r hsp=>?_⟩
  have hl:=len _ _ _ _ _ _ hsp
  have KX:K.In s.heap:=e0.mod.kin.keeps fun b o e=>(e0.bs b o e).1
  have lim:s.heap.NoLimit:=e0.mod.nolimit.keeps fun b o e=>(e0.bs b o e).1
  have hkind:∀ y∈ps.zip us,(defScope st).names.lookup y.1=some .local\/((defScope st).names.lookup y.1=some .cell/\((cellsFrom (s.heap.objs.size + 1) (defScope st).names []).lookup y.1).isSome=true):=fun ⟨n,v⟩ hy=>by
    rcases S.par n (List.of_mem_zip hy).1 with q | q
    · exact .inl q
    · exact .inr ⟨q,PySem.W.cellsFrom_some _ _ _ (.inl q)⟩
  refine codeAny_call_function (by have:=hr.dp; lia) (KX _ _ lk) rfl S.co S.gen rfl (PySem.W.codeRec_of KX hcd) (hb _ _ _ _ ?_)
  refine wpAny_newFunctionEnv_cells S.kind hkind fun env he s1 x=>?_
  subst he
  refine ⟨lim.keeps x.toInCall.keep,codeAny_func ?_⟩
  obtain ⟨t,ht,hq⟩:=hbody cdv A outer s H vs Q e oe (hr.deeper _) hsp hn
  have I:Inv (cxOfH P w K mg base N qual (defScope st) f cdv A outer s H) [] (start N vs) H s1:=inv_startH S e0 hl r x
  refine wpAny_mono (ht.out [] s1 (start N vs) H _ I hq) (fun fl s' hs=>?_) fun e s' hs=>False.elim hs
  have fin:∀ {σ':St} {H':Hp} {v:V} {u:Value},Inv (cxOfH P w K mg base N qual (defScope st) f cdv A outer s H) [] σ' H' s'->RelV v u->Q v H'->CE outer P w H s Q u s' :=
    fun {σ' H' v u} J rv q=>⟨v,H',J.os,J.bare,J.base,J.hok,rv,q⟩
  cases fl with
  | ret u =>
    obtain ⟨v,σ',H',J,rv,q⟩:=hs
    exact fin J rv q
  | next =>
    obtain ⟨σ',H',J,q⟩:=hs
    exact fin (v:=V.non) (u:=Value.none) J rfl q
  | brk =>
    obtain ⟨_,_,_,q⟩:=hs
    exact False.elim q
  | cont =>
    obtain ⟨_,_,_,q⟩:=hs
    exact False.elim q
theorem Hnd.p {P:Program} {w:World} {K:PySem.W.Frag} {mg:Str->Option Value} {base:Heap} {N:List Str} {qual:Str} {scope:Scope} {f:Addr} {cd:Value} {A:Around} {outer:List Env} {s:Shared} {H:Hp} {e:Addr} {oe:Obj} (h:Hnd A outer s H e oe):HandP (cxOfH P w K mg base N qual scope f cd A outer s H) :=
  let ⟨ve,d1,d2⟩:=h.d; ⟨e,oe,ve,h.h,h.g,h.n,h.f,(fun z=>absurd (show e∈([]:List Addr) from z) (by simp)),d1,d2⟩
structure CaH (P:Program) (w:World) (K:PySem.W.Frag) (mg:Str->Option Value) (base:Heap) (k:Nat) (x:Str) (ps:List Str) (sp:Addr->Obj->Sp):Prop where
  ex:∃ f fd,FnOkH P w K mg base k f fd ps sp/\Binds K fd ps []/\PySem.W.keepIn K (.ref f)=true/\mg x=some (.ref f)
theorem DfIn.caH {P:Program} {w:World} {K:PySem.W.Frag} {mg:Str->Option Value} {base h:Heap} {k:Nat} {x:Str} {st:Stmt} {ps:List Str} {sp:Addr->Obj->Sp} (X:K.In h) (G:h.Ns mainGlobals mg) (d:DfIn K x st) (hb:∀ (kV doc pm:Value) (an:Option Addr) (cdv ct:Value) (us:List Value),us.length=ps.length->bindArgs (PySem.W.fnOf x x (defArgs st) (defBody st) (defScope st) .none kV doc pm an cdv ct) ⟨us,[]⟩=pure (ps.zip us))
    (ok:∀ f fd,Fun K x x st f fd->FnOkH P w K mg base k f fd ps sp):CaH P w K mg base k x ps sp:=by
  obtain ⟨f,a,g⟩:=d
  obtain ⟨fd,F,kp⟩:=g.fn
  exact ⟨f,fd,ok f fd F,F.binds hb,kp,PySem.W.mg_of X G a⟩
def tCaH (e:Addr) (oe:Obj) (sp:Addr->Obj->Sp) (t:TA):TE:=fun σ H Q=>t σ H fun vs H1=>(∃ ve:Array Value,oe.data=.fields ve/\ve[2]?=some .none)/\sp e oe vs H1 Q E0
theorem je_caH {X:Cx} {k:Nat} {x:Str} {ps:List Str} {sp:Addr->Obj->Sp} {p pos:Pos} {a:Expr} {as:List Expr} {t:TA} {e:Addr} {oe:Obj} (F:CaH X.prog X.w X.K X.mg X.base k x ps sp) (hr:RoomH k X.A) (hg:Gl X x) (hh:X.A.handled=some (.ref e)) (hp:(e,oe)∈X.pn) (ha:jA X (a :: as) t)
    (hdb:(x == ("__debug__":Str))=false:=by decide) (h1:isStar a=false:=by rfl) (h2:as.all (fun e=>!isStar e)=true:=by rfl):jE X (.Call (.Name x p) (a :: as) [] pos) (tCaH e oe sp t):=by
  constructor
  intro pins s σ H Q I h
  obtain ⟨f,fd,G,hb,hk,hm⟩:=F.ex
  refine wpAny_Call_Name_kw (ld_glob I hg hm ?_ hdb)
  refine PySem.W.callWith_K (h₀:=X.base) I.ok.mod.kin hk (thn (ha.out pos pins s σ H _ I h) fun us s1 ⟨vs,H1,I1,r,hd,q⟩=>⟨I1.kIn,?_⟩) (star_cons h1) (star_any h2)
  have hlen:us.length=ps.length:=by rw [<- r.length]; exact G.len _ _ _ _ _ _ q
  have bd:=hb s1 us I1.kIn (by rw [List.append_nil]; exact hlen)
  rw [List.append_nil] at bd
  obtain ⟨p1,p2,p3,p4,p5⟩:=I1.pin (e,oe) (List.mem_append_left _ hp)
  have hn:Hnd X.A X.stack s1 H1 e oe:=⟨hh,p1,p2,fun z=>(List.mem_cons.mp (I1.stkSub e z)).elim p3 p4,hd⟩
  refine wpAny_call (codeAny_mono (G.run X.A X.stack s1 H1 ⟨us,[]⟩ us vs Q e oe hr I1.env0 hn bd r q) fun r s' hq=>?_)
  cases r with
  | error e=>exact False.elim hq
  | ok fl =>
    cases fl with
    | ret u=>exact I1.after hq
    | next=>exact False.elim hq
    | brk=>exact False.elim hq
    | cont=>exact False.elim hq
end L2
namespace PySem.W
open PySem PySem.Spec PySem.Calls PyProof.Rows
section
variable {prog:Program} {w:World} {A:Around} {E:Value->Shared->Prop} {s:Shared} {K:Frag} {e C:Addr} {ox od:Obj}
theorem xg_class {Q:Option Value->Shared->Prop} (X:K.In s.heap) (I:InstAt s.heap e ox C (some od)) (hga:findIn K (.ref C) "__getattribute__"=some (some (.builtin "BaseException.__getattribute__"))) (hk:findIn K (.ref C) "__getattr__"=some none)
    (hb:subIn K (.ref C) (.type "BaseException")=some true) (hf:findObj K C (some od) "__class__"=some (.bind (.builtin "getset_descriptor.__get__") (.builtin "object.__class__"))) (hm:mroIn K C (.type "object")=some true)
    (h:Q (some (.ref C)) { s with toks:=s.toks + 1 }):wpAny (model prog w) A (getAttr? (.ref e) "__class__") Q E s:=by
  have ty:=I.type (M:=model prog w)
  have fd:=looks_find (M:=model prog w) X I hf
  unfold getAttr? getAttrBy?
  refine wpAny_bind (wpAny_mkText (wpAny_bind (wpAny_attempt ?_)))
  refine wpAny_holding (wpAny_bind (ty _ _ _ _ (fun _ _ q=>q) (wpAny_bind (looks_findIn X hga _ _ _ _ (fun _ _ q=>q) ?_))))
  dsimp only
  rw [show (onTheHeap (Value.ref C) && Value.builtin "BaseException.__getattribute__" == Value.builtin "object.__getattribute__")=false from by rw [show (Value.builtin "BaseException.__getattribute__" == Value.builtin "object.__getattribute__")=false from by decide +kernel,Bool.and_false],if_neg (by decide:¬ (false=true))]
  refine wpAny_bind ((looks_hook (mc:=.ref C) X (by rw [if_pos (show onTheHeap (.ref C)=true from rfl)]; exact hk)) _ _ _ _ (fun _ _ q=>q) (wpAny_bind (wpAny_attempt (wpAny_holding ?_))))
  unfold callGetattribute
  rw [show (false && onTheHeap (Value.builtin "BaseException.__getattribute__"))=false from rfl,if_neg (by decide:¬ (false=true))]
  unfold boundAndCalled
  rw [L2.xg_slot.bind]
  refine wpAny_bind (wpAny_pure (wpAny_call (codeAny_call_builtin L2.xg_slot.plain PySem.F.entry_bexc_ga ?_)))
  refine @check_slot (model prog w) _ _ { s with toks:=s.toks + 1 } "BaseException.__getattribute__" "BaseException" "__getattribute__" (.ref e) [.str "__class__" s.toks] [] _ (by decide +kernel) (by decide +kernel) (ty.andThen (looks_subIn X hb)) (PySem.F.args_bexc_ga (.ref e) (.str "__class__" s.toks)) ?_
  refine wpAny_bind (wpAny_pure (wpAny_bind (wpAny_pure (wpAny_bind (ty _ _ _ _ (fun _ _ q=>q) (wpAny_bind (fd _ _ _ _ (fun _ _ q=>q) ?_)))))))
  show wpAny _ _ (holding [Value.builtin "object.__class__"] (call (.builtin "getset_descriptor.__get__") [.builtin "object.__class__",.ref e,.ref C]) >>= ret) _ _ _
  refine wpAny_bind (wpAny_holding (wpAny_call (class_get (s:={ s with toks:=s.toks + 1 }) X I hm ?_)))
  refine wpAny_pure ?_
  show wpAny _ _ (handedOut (.ref C)) _ _ _
  rw [handedOut_of rfl]
  exact wpAny_pure (wpAny_pure h)
end
structure XIs (K:Frag) (C:Addr):Prop where
  ga:findIn K (.ref C) "__getattribute__"=some (some (.builtin "BaseException.__getattribute__"))
  ha:findIn K (.ref C) "__getattr__"=some none
  sb:subIn K (.ref C) (.type "BaseException")=some true
  hd:hasDictIn K C=true
  cl:findIn K (.ref C) "__class__"=some (some (.builtin "object.__class__"))
  gs:specialIn K (.builtin "object.__class__") "__get__"=some (some (.builtin "getset_descriptor.__get__"))
  tk:takesIn K (.builtin "object.__class__")=some true
  mo:mroIn K C (.type "object")=some true
theorem kitx_exc {K:Frag} {x D:Addr} {ox od:Obj} (c:XIs K D):KitX K (.ref x) (.ref D) (fun h=>InstAt h x ox D (some od)) where
  ty:=fun _ _ _ I=>I.type
  it:=fun _ _ X _=>by
    obtain ⟨cdD,hcD,_⟩:=any_some c.hd
    unfold clsIn at hcD
    split at hcD
    · rename_i c' d' cd' sl' ho
      intro A' Q' E' s' k q
      unfold isType loadHead
      exact wpAny_bind (wpAny_loadPart (k _ _ (X _ _ ho)) (wpAny_pure q))
    · cases hcD
  ne:=fun h tp dd its n sl X htp=>by
    obtain ⟨cdD,hcD,_⟩:=any_some c.hd
    refine Bool.eq_false_iff.mpr fun q=>?_
    have e:D=tp:=Value.ref.inj (beq_iff_eq.mp q)
    subst e
    unfold clsIn at hcD
    split at hcD
    · rename_i c' d' cd' sl' ho
      have z:=(X _ _ ho).symm.trans htp
      cases z
    · cases hcD
  ca:=fun X I k=>xg_class X I c.ga c.ha c.sb (findObj_data (by obtain ⟨cd,hc,_⟩:=any_some c.hd; rw [hc]; rfl) c.cl c.gs c.tk) c.mo k
end PySem.W
namespace L2
open PySem PySem.Spec PyProof.Rows
theorem jc_isi {X:Cx} {e C d:Addr} {oe:Obj} {D:V} {c:Value} (hh:∀ pins σ H s,Inv X pins σ H s->s.heap.get? e=some oe) (hx:PySem.W.XIs X.K C) (hD:RelV D c) (hu:∀ c',RelV D c'->c'=c) :
    jCa X (.builtin "isinstance") (fun xs H Q=>xs=[.ref e,D]/\oe.cls=.ref C/\oe.dict=some d/\(∃ vs,oe.data=.fields vs)/\(∃ fs,H d=some (XD d fs))/\∃ b,PySem.W.kitOne X.K (.ref C) c=some b/\Q (.bl b) H):=by
  constructor
  intro pins s σ H xs us Q I r h
  obtain ⟨rfl,hc,hdx,⟨vs,hd⟩,⟨fs,hdo⟩,b,hk,q⟩:=h
  obtain ⟨u,u',rfl,r1,r2⟩:=vals2 r
  cases r1
  obtain rfl:=hu _ r2
  obtain ⟨mA,⟨od,es,ep,ho,_⟩,_⟩:=XD.get I.hok hdo
  have J:PySem.W.InstAt s.heap e oe C (some od):=⟨hh _ _ _ _ I,hc,by unfold PySem.W.notCls; rw [hd],by rw [hdx]; exact ho⟩
  exact PySem.W.kia_one (PySem.W.kitx_exc hx) I.kIn J hk (fun z=>nomatch z) fun tk=>⟨.bl b,H,I.tok tk,rfl,q⟩
end L2
namespace L2
open PySem PySem.Spec PyProof.Rows
section
variable {prog:Program} {w:World} {A:Around} {E:Value->Shared->Prop} {h:Heap} {g:Array GenState} {d:Drawn} {t:Nat} {os:OsState}
variable {nm q:Str} {C N:Addr} {bs bm bmB:List Value} {hdct:Bool} {sn:List Str} {sub:List Value} {ab:Bool} {col:Option Bool} {dd:Option Addr} {k0 k1 k2 k3 k5:Option Value} {B Bn newId nid initId inN:String} {bmN:List Value}
end
theorem ns_none {K:PySem.W.Frag} {h:Heap} {N:Addr} {mg:Str->Option Value} {n:Str} (X:K.In h) (G:h.Ns N mg) (e:PySem.W.nsIn K N n=some none):mg n=none:=by
  obtain ⟨o,es,ep,ho,hd,_,hf⟩:=G
  unfold PySem.W.nsIn at e
  split at e
  · rename_i c d es' n' sl q
    have:=X _ _ q
    rw [ho] at this
    cases this
    cases hd
    split at e
    · cases e
    · rename_i he
      rw [<- hf]
      unfold nsFind findBy
      rw [<- Array.find?_toList,he]
      rfl
  · cases e
def xIn0 (K:PySem.W.Frag) (C:Addr):Bool:=match K.lookup C with
  | some ⟨.type "type",_,.cls cd,sl⟩=>(match cd.mro,sl.toList with
    | .ref C' :: bm,[_,_,_,_,some (.builtin n),_]=>C' == C && n == "ValueError.__new__" && !cd.hasDel && PySem.W.tailIn K bmV bm && PySem.W.nsOkIn K cd.ns && PySem.W.nsIn K cd.ns "__init__" == some none && bm.contains (.type "BaseException")
    | _,_=>false)
  | _=>false
structure XCl0 (K:PySem.W.Frag) (C:Addr):Prop where
  cls:xIn0 K C=true
  kp:PySem.W.keepIn K (.ref C)=true
theorem XCl0.at {K:PySem.W.Frag} {C:Addr} (c:XCl0 K C) {h:Heap} (X:K.In h):∃ nm q N bs bm hdct sn sub ab col dd k0 k1 k2 k3 k5 mN,h.get? C=some (excClassObj nm q C N bs bm hdct sn sub ab col dd k0 k1 k2 k3 k5 "ValueError.__new__") /\
    OwnTail h bmV bm/\h.Ns N mN/\mN "__init__"=none/\bm.contains (.type "BaseException")=true:=by
  have q:=c.cls
  unfold xIn0 at q
  split at q
  · rename_i dd cd sl ho
    split at q
    · rename_i C' bm k0 k1 k2 k3 n k5 hm hs
      simp only [Bool.and_eq_true,beq_iff_eq,Bool.not_eq_true'] at q
      obtain ⟨⟨⟨⟨⟨⟨rfl,rfl⟩,hdel⟩,ht⟩,hok⟩,hi⟩,hb⟩:=q
      obtain ⟨nm,bs,mro,ns,qn,hd,sn,sub,ab,col,del⟩:=cd
      dsimp only at hm hdel hok hi
      subst hm hdel
      have es:sl=#[k0,k1,k2,k3,some (.builtin "ValueError.__new__"),k5]:=by
        obtain ⟨l⟩:=sl
        simp only at hs
        rw [hs]
      subst es
      have nN:=PySem.Heap.Ns.of_isNs (PySem.W.isNs_of_in X hok)
      exact ⟨nm,qn,ns,bs,bm,hd,sn,sub,ab,col,dd,k0,k1,k2,k3,k5,_,X _ _ ho,PySem.W.tail_of_in X ht,nN,ns_none X nN hi,hb⟩
    · cases q
  · cases q
section
variable {X:Cx} {k:Nat} {C:Addr} {E:XK} {x:Str} {np cpos pos:Pos}
end
end L2
namespace PySem.W
open PySem PySem.Spec PySem.Calls PyProof.Rows
theorem findObj_dataO {K:Frag} {C:Addr} {od:Option Obj} {name:Str} {a g:Value} (hc:(clsIn K C).isSome=true) (ha:findIn K (.ref C) name=some (some a)) (hg:specialIn K a "__get__"=some (some g)) (ht:takesIn K a=some true):findObj K C od name=some (.bind g a):=by
  obtain ⟨cd,hc⟩:=Option.isSome_iff_exists.mp hc
  unfold findObj
  rw [hc,Option.bind_some,ha,Option.bind_some]
  simp [hg,ht]
section
variable {prog:Program} {w:World} {A:Around} {E:Value->Shared->Prop} {s:Shared} {K:Frag} {e C:Addr} {ox:Obj} {od:Option Obj}
theorem xg_classO {Q:Option Value->Shared->Prop} (X:K.In s.heap) (I:InstAt s.heap e ox C od) (hga:findIn K (.ref C) "__getattribute__"=some (some (.builtin "BaseException.__getattribute__"))) (hk:findIn K (.ref C) "__getattr__"=some none)
    (hb:subIn K (.ref C) (.type "BaseException")=some true) (hf:findObj K C od "__class__"=some (.bind (.builtin "getset_descriptor.__get__") (.builtin "object.__class__"))) (hm:mroIn K C (.type "object")=some true)
    (h:Q (some (.ref C)) { s with toks:=s.toks + 1 }):wpAny (model prog w) A (getAttr? (.ref e) "__class__") Q E s:=by
  have ty:=I.type (M:=model prog w)
  have fd:=looks_find (M:=model prog w) X I hf
  unfold getAttr? getAttrBy?
  refine wpAny_bind (wpAny_mkText (wpAny_bind (wpAny_attempt ?_)))
  refine wpAny_holding (wpAny_bind (ty _ _ _ _ (fun _ _ q=>q) (wpAny_bind (looks_findIn X hga _ _ _ _ (fun _ _ q=>q) ?_))))
  dsimp only
  rw [show (onTheHeap (Value.ref C) && Value.builtin "BaseException.__getattribute__" == Value.builtin "object.__getattribute__")=false from by rw [show (Value.builtin "BaseException.__getattribute__" == Value.builtin "object.__getattribute__")=false from by decide +kernel,Bool.and_false],if_neg (by decide:¬ (false=true))]
  refine wpAny_bind ((looks_hook (mc:=.ref C) X (by rw [if_pos (show onTheHeap (.ref C)=true from rfl)]; exact hk)) _ _ _ _ (fun _ _ q=>q) (wpAny_bind (wpAny_attempt (wpAny_holding ?_))))
  unfold callGetattribute
  rw [show (false && onTheHeap (Value.builtin "BaseException.__getattribute__"))=false from rfl,if_neg (by decide:¬ (false=true))]
  unfold boundAndCalled
  rw [L2.xg_slot.bind]
  refine wpAny_bind (wpAny_pure (wpAny_call (codeAny_call_builtin L2.xg_slot.plain PySem.F.entry_bexc_ga ?_)))
  refine @check_slot (model prog w) _ _ { s with toks:=s.toks + 1 } "BaseException.__getattribute__" "BaseException" "__getattribute__" (.ref e) [.str "__class__" s.toks] [] _ (by decide +kernel) (by decide +kernel) (ty.andThen (looks_subIn X hb)) (PySem.F.args_bexc_ga (.ref e) (.str "__class__" s.toks)) ?_
  refine wpAny_bind (wpAny_pure (wpAny_bind (wpAny_pure (wpAny_bind (ty _ _ _ _ (fun _ _ q=>q) (wpAny_bind (fd _ _ _ _ (fun _ _ q=>q) ?_)))))))
  show wpAny _ _ (holding [Value.builtin "object.__class__"] (call (.builtin "getset_descriptor.__get__") [.builtin "object.__class__",.ref e,.ref C]) >>= ret) _ _ _
  refine wpAny_bind (wpAny_holding (wpAny_call (class_get (s:={ s with toks:=s.toks + 1 }) X I hm ?_)))
  refine wpAny_pure ?_
  show wpAny _ _ (handedOut (.ref C)) _ _ _
  rw [handedOut_of rfl]
  exact wpAny_pure (wpAny_pure h)
end
theorem kitx_excO {K:Frag} {x D:Addr} {ox:Obj} {od:Option Obj} (c:XIs K D):KitX K (.ref x) (.ref D) (fun h=>InstAt h x ox D od) where
  ty:=fun _ _ _ I=>I.type
  it:=fun _ _ X _=>by
    obtain ⟨cdD,hcD,_⟩:=any_some c.hd
    unfold clsIn at hcD
    split at hcD
    · rename_i c' d' cd' sl' ho
      intro A' Q' E' s' k q
      unfold isType loadHead
      exact wpAny_bind (wpAny_loadPart (k _ _ (X _ _ ho)) (wpAny_pure q))
    · cases hcD
  ne:=fun h tp dd its n sl X htp=>by
    obtain ⟨cdD,hcD,_⟩:=any_some c.hd
    refine Bool.eq_false_iff.mpr fun q=>?_
    have e:D=tp:=Value.ref.inj (beq_iff_eq.mp q)
    subst e
    unfold clsIn at hcD
    split at hcD
    · rename_i c' d' cd' sl' ho
      have z:=(X _ _ ho).symm.trans htp
      cases z
    · cases hcD
  ca:=fun X I k=>xg_classO X I c.ga c.ha c.sb (findObj_dataO (by obtain ⟨cd,hc,_⟩:=any_some c.hd; rw [hc]; rfl) c.cl c.gs c.tk) c.mo k
end PySem.W
namespace L2
open PySem PySem.Spec PyProof.Rows
inductive ClsV:V->Value->Prop where
  | ref (C:Addr):ClsV (.ref C) (.ref C)
  | ty (T:String):ClsV (.ty T) (.type T)
theorem ClsV.un {D:V} {c c':Value} (h:ClsV D c) (r:RelV D c'):c'=c:=by
  cases h with
  | ref C=>cases r; rfl
  | ty T=>cases r; rfl
inductive ClsVs:List V->List Value->Prop where
  | nil:ClsVs [] []
  | cons {D:V} {c:Value} {Ds:List V} {cs:List Value} (h:ClsV D c) (t:ClsVs Ds cs):ClsVs (D :: Ds) (c :: cs)
theorem ClsVs.un {Ds:List V} {cs:List Value} (h:ClsVs Ds cs):∀ {us:List Value},Vals Ds us->us=cs:=by
  induction h with
  | nil=>intro us r; cases r; rfl
  | cons a _ ih=>intro us r; cases r with
    | cons p q=>rw [a.un p,ih q]
inductive Asked (K:PySem.W.Frag) (t:Value) (H:Hp):V->Bool->Prop where
  | one {D:V} {c:Value} {b:Bool} (h:ClsV D c) (e:PySem.W.kitOne K t c=some b):Asked K t H D b
  | tup {tp:Addr} {Ds:List V} {cs:List Value} {b:Bool} (ht:H tp=some (.tup Ds)) (h:ClsVs Ds cs) (e:PySem.W.kitAny K t cs=some b):Asked K t H (.ref tp) b
section
variable {X:Cx} {e C d:Addr} {oe:Obj} {pins:List (Addr × Obj)} {s:Shared} {σ:St} {H:Hp} {od:Option Obj} {D:V} {b:Bool} {u:Value} {Q:VK}
end
section
variable {X:Cx} {k:Nat} {C f:Addr} {ps:List Str} {sp:Sp} {x name:Str} {np cpos pos:Pos} {a ex:Expr} {as:List Expr} {t:TA} {te:TE}
end
end L2
namespace GN
open PySem L2 K11
section
variable {α:Type}
def look (l:List (Str × α)) (x:Str):Option α:=(l.find? fun p=>decide (p.1=x)).map (·.2)
def drpA (l:List (Str × α)) (x:Str):List (Str × α):=l.filter fun p=>decide (p.1≠x)
def em (e:α->V) (l:List (Str × α)):List (Key × V):=l.map fun p=>(.inr p.1,e p.2)
theorem valV_em (e:α->V):∀ (l:List (Str × α)) (x:Str),valV (em e l) (.inr x)=(look l x).map e
  | [],x=>rfl
  | p :: l,x=>by
    have ih:=valV_em e l x
    by_cases c:p.1=x
    · show valV ((.inr p.1,e p.2) :: em e l) (.inr x)=_
      rw [valV_pos (by rw [c])]
      unfold look
      rw [List.find?_cons,decide_eq_true c]
      rfl
    · show valV ((.inr p.1,e p.2) :: em e l) (.inr x)=_
      rw [valV_neg (fun z=>c (Sum.inr.inj z)),ih]
      unfold look
      rw [List.find?_cons,decide_eq_false c]
theorem dropK_em (e:α->V) (l:List (Str × α)) (x:Str):dropK (em e l) (.inr x)=em e (drpA l x):=by
  unfold dropK em drpA
  rw [List.filter_map]
  congr 1
  refine List.filter_congr fun p _=>?_
  show decide ((Sum.inr p.1:Key)≠.inr x)=decide (p.1≠x)
  by_cases c:p.1=x <;> simp [c]
theorem putK_em (e:α->V) {l:List (Str × α)} {x:Str} {a:α} (h:look l x=none):putK (em e l) (.inr x) (e a)=em e (l ++ [(x,a)]):=by
  unfold putK
  rw [valV_any,valV_em,h,if_neg (by simp)]
  unfold em
  rw [List.map_append]
  rfl
theorem em_len (e:α->V) (l:List (Str × α)):(em e l).length=l.length:=List.length_map _
end
structure Hs where
  ns:List (Str × Bool)
  ts:List (Str × Int)
inductive Dd
  | num (i:Int)
  | op (w a b:Str)
  | mk (t:Str) (ns:List Str) (k:Str)
  | call (g:Str) (ns:List Str)
  | fn (g:Str) (ns:List Str)
  | ask (g:Str) (ns:List Str)
mutual
inductive Bd
  | give (x:Str)
  | lt (x:Str) (d:Dd) (b:Bd)
  | hold (x y:Str) (b:Bd)
  | drop (x:Str) (b:Bd)
  | loose (t:Str) (b:Bd)
  | iff (x:Str) (b c:Bd)
  | cs (x:Str) (as:Arms)
inductive Arms
  | nil
  | cons (t:Str) (ns:List Str) (m k:Str) (b:Bd) (r:Arms)
end
def IsDd (H:Hp):Dd->Addr->Prop
  | .num i,p=>H p=some (.tup [.str "num",.int i])
  | .op w a b,p=>H p=some (.tup [.str "op",.str w,.str a,.str b])
  | .mk t ns k,p=>∃ q,H p=some (.tup [.str "make",.str t,.ref q,.str k])/\H q=some (.tup (ns.map V.str))
  | .call g ns,p=>∃ q,H p=some (.tup [.str "call",.str g,.ref q])/\H q=some (.tup (ns.map V.str))
  | .fn g ns,p=>∃ q,H p=some (.tup [.str "func",.str g,.ref q])/\H q=some (.tup (ns.map V.str))
  | .ask g ns,p=>∃ q,H p=some (.tup [.str "ask",.str g,.ref q])/\H q=some (.tup (ns.map V.str))
theorem IsDd.keep {H H':Hp} (t:Tups H H'):∀ {d:Dd} {p:Addr},IsDd H d p->IsDd H' d p
  | .num _,p,h=>t _ _ h
  | .op _ _ _,p,h=>t _ _ h
  | .mk _ _ _,p,⟨q,a,b⟩=>⟨q,t _ _ a,t _ _ b⟩
  | .call _ _,p,⟨q,a,b⟩=>⟨q,t _ _ a,t _ _ b⟩
  | .fn _ _,p,⟨q,a,b⟩=>⟨q,t _ _ a,t _ _ b⟩
  | .ask _ _,p,⟨q,a,b⟩=>⟨q,t _ _ a,t _ _ b⟩
mutual
def IsBd (H:Hp):Bd->Addr->Prop
  | .give x,p=>H p=some (.tup [.str "give",.str x])
  | .lt x d b,p=>∃ q r,H p=some (.tup [.str "let",.str x,.ref q,.ref r])/\IsDd H d q/\IsBd H b r
  | .hold x y b,p=>∃ r,H p=some (.tup [.str "hold",.str x,.str y,.ref r])/\IsBd H b r
  | .drop x b,p=>∃ r,H p=some (.tup [.str "drop",.str x,.ref r])/\IsBd H b r
  | .loose x b,p=>∃ r,H p=some (.tup [.str "loose",.str x,.ref r])/\IsBd H b r
  | .iff x b c,p=>∃ q r,H p=some (.tup [.str "if",.str x,.ref q,.ref r])/\IsBd H b q/\IsBd H c r
  | .cs x as,p=>∃ q ts,H p=some (.tup [.str "case",.str x,.ref q])/\H q=some (.tup (ts.map V.ref))/\IsArms H as ts
def IsArms (H:Hp):Arms->List Addr->Prop
  | .nil,ts=>ts=[]
  | .cons t ns m k b r,ts=>∃ p q s ts',ts=p :: ts'/\H p=some (.tup [.str t,.ref q,.str m,.str k,.ref s])/\H q=some (.tup (ns.map V.str))/\IsBd H b s/\IsArms H r ts'
end
mutual
theorem IsBd.keep {H H':Hp} (t:Tups H H'):∀ {b:Bd} {p:Addr},IsBd H b p->IsBd H' b p
  | .give x,p,h=>t _ _ h
  | .lt x d b,p,h=>let ⟨q,r,a,e,f⟩:=h; ⟨q,r,t _ _ a,e.keep t,IsBd.keep t f⟩
  | .hold x y b,p,h=>let ⟨r,a,f⟩:=h; ⟨r,t _ _ a,IsBd.keep t f⟩
  | .drop x b,p,h=>let ⟨r,a,f⟩:=h; ⟨r,t _ _ a,IsBd.keep t f⟩
  | .loose x b,p,h=>let ⟨r,a,f⟩:=h; ⟨r,t _ _ a,IsBd.keep t f⟩
  | .iff x b c,p,h=>let ⟨q,r,a,e,f⟩:=h; ⟨q,r,t _ _ a,IsBd.keep t e,IsBd.keep t f⟩
  | .cs x as,p,h=>let ⟨q,ts,a,e,f⟩:=h; ⟨q,ts,t _ _ a,t _ _ e,IsArms.keep t f⟩
theorem IsArms.keep {H H':Hp} (t:Tups H H'):∀ {as:Arms} {ts:List Addr},IsArms H as ts->IsArms H' as ts
  | .nil,ts,h=>h
  | .cons g ns m k b r,ts,h=>let ⟨p,q,s,ts',e,a1,a2,a3,a4⟩:=h; ⟨p,q,s,ts',e,t _ _ a1,t _ _ a2,IsBd.keep t a3,IsArms.keep t a4⟩
end
mutual
def Bd.sz:Bd->Nat
  | .give _=>1
  | .lt _ _ b=>b.sz + 1
  | .hold _ _ b=>b.sz + 1
  | .drop _ b=>b.sz + 1
  | .loose _ b=>b.sz + 1
  | .iff _ b c=>b.sz + c.sz + 1
  | .cs _ as=>as.sz + 1
def Arms.sz:Arms->Nat
  | .nil=>0
  | .cons _ _ _ _ b r=>b.sz + r.sz + 1
end
def useUp (x:Str) (s:Hs):Option Hs:=if look s.ns x=some true then some ⟨drpA s.ns x,s.ts⟩ else none
def bindN (x:Str) (s:Hs):Option Hs:=if look s.ns x=none then some ⟨s.ns ++ [(x,true)],s.ts⟩ else none
def lookAt (x:Str) (s:Hs):Bool:=(look s.ns x).isSome
def keepT (t:Str) (n:Int) (s:Hs):Option Hs:=if look s.ts t=none then some ⟨s.ns,s.ts ++ [(t,n)]⟩ else none
def useT (t:Str) (s:Hs):Option (Int × Hs):=(look s.ts t).map fun n=>(n,⟨s.ns,drpA s.ts t⟩)
abbrev Ow:=List (Str × List Bool)
def namesD:Dd->List Str
  | .num _=>[]
  | .op _ a b=>[a,b]
  | .mk _ ns _=>ns
  | .call _ ns=>ns
  | .fn _ ns=>ns
  | .ask g ns=>g :: ns
def usedD (ow:Ow):Dd->List Bool
  | .num _=>[]
  | .op _ _ _=>[false,false]
  | .mk _ ns _=>ns.map fun _=>true
  | .call g _=>(look ow g).getD []
  | .fn _ ns=>ns.map fun _=>true
  | .ask _ ns=>true :: ns.map fun _=>true
def useAll:List (Str × Bool)->Hs->Option Hs
  | [],s=>some s
  | (x,true) :: r,s=>(useUp x s).bind (useAll r)
  | (_,false) :: r,s=>useAll r s
def lookAll:List (Str × Bool)->Hs->Bool
  | [],_=>true
  | (_,true) :: r,s=>lookAll r s
  | (x,false) :: r,s=>lookAt x s && lookAll r s
def restD (ow:Ow):Dd->Hs->Option Hs
  | .fn g _,s=>if ((look ow g).getD []).all id=true then some s else none
  | .mk _ ns k,s=>if k="" then some s else (useT k s).bind fun p=>if p.1=((ns.length:Nat):Int) then some p.2 else none
  | _,s=>some s
def deedC (ow:Ow) (d:Dd) (s:Hs):Option Hs:=(useAll ((namesD d).zip (usedD ow d)) s).bind fun s1=>if lookAll ((namesD d).zip (usedD ow d)) s1=true then restD ow d s1 else none
def bindAll:List Str->Hs->Option Hs
  | [],s=>some s
  | x :: r,s=>(bindN x s).bind (bindAll r)
def armC (x:Str) (ns:List Str) (m k:Str) (s:Hs):Option Hs:=(if m="take" then useUp x s else some s).bind fun s1=>(bindAll ns s1).bind fun s2=>if k="" then some s2 else if m="take"/\0 < ns.length then keepT k ((ns.length:Nat):Int) s2 else none
def armsC (x:Str):Arms->Hs->Option (List (Bd × Hs))
  | .nil,_=>some []
  | .cons _ ns m k b r,s=>(armC x ns m k s).bind fun s1=>(armsC x r s).map fun l=>(b,s1) :: l
def clean (s:Hs):Bool:=s.ts.isEmpty && !(s.ns.any (·.2))
def pc (ow:Ow):Bd->Hs->Option (List (Bd × Hs))
  | .give x,s=>(useUp x s).bind fun s1=>if clean s1=true then some [] else none
  | .lt x d b,s=>(deedC ow d s).bind fun s1=>(bindN x s1).map fun s2=>[(b,s2)]
  | .hold x y b,s=>if lookAt y s=true then (bindN x s).map fun s2=>[(b,s2)] else none
  | .drop x b,s=>(useUp x s).map fun s2=>[(b,s2)]
  | .loose t b,s=>(useT t s).map fun p=>[(b,p.2)]
  | .iff x b c,s=>if lookAt x s=true then some [(b,s),(c,s)] else none
  | .cs x as,s=>if lookAt x s=true then armsC x as s else none
mutual
def okB (ow:Ow):Bd->Hs->Bool
  | .give x,s=>(pc ow (.give x) s).isSome
  | .lt x d b,s=>match (deedC ow d s).bind (bindN x) with
    | none=>false
    | some s2=>okB ow b s2
  | .hold x y b,s=>lookAt y s && match bindN x s with
    | none=>false
    | some s2=>okB ow b s2
  | .drop x b,s=>match useUp x s with
    | none=>false
    | some s2=>okB ow b s2
  | .loose t b,s=>match useT t s with
    | none=>false
    | some p=>okB ow b p.2
  | .iff x b c,s=>lookAt x s && (okB ow b s && okB ow c s)
  | .cs x as,s=>lookAt x s && okA ow x as s
def okA (ow:Ow) (x:Str):Arms->Hs->Bool
  | .nil,_=>true
  | .cons _ ns m k b r,s=>(match armC x ns m k s with
    | none=>false
    | some s1=>okB ow b s1) && okA ow x r s
end
theorem okA_all {ow:Ow} {x:Str}:∀ {as:Arms} {s:Hs},okA ow x as s=match armsC x as s with
    | none=>false
    | some l=>l.all fun q=>okB ow q.1 q.2
  | .nil,s=>by rw [okA,armsC]; rfl
  | .cons t ns m k b r,s=>by
    rw [okA,armsC]
    rw [okA_all (as:=r)]
    cases armC x ns m k s with
    | none=>rfl
    | some s1 =>
      dsimp only [Option.bind_some]
      cases armsC x r s with
      | none=>exact Bool.and_false _
      | some l=>rfl
theorem okB_pc {ow:Ow} {b:Bd} {s:Hs}:okB ow b s=match pc ow b s with
    | none=>false
    | some l=>l.all fun q=>okB ow q.1 q.2:=by
  cases b with
  | give x =>
    rw [okB]
    have:pc ow (.give x) s=none\/pc ow (.give x) s=some []:=by
      rw [pc]
      cases useUp x s with
      | none=>exact .inl rfl
      | some s1 =>
        dsimp only [Option.bind_some]
        split
        · exact .inr rfl
        · exact .inl rfl
    rcases this with e | e <;> rw [e] <;> rfl
  | lt x d b =>
    rw [okB,pc]
    cases deedC ow d s with
    | none=>rfl
    | some s1 =>
      dsimp only [Option.bind_some]
      cases bindN x s1 with
      | none=>rfl
      | some s2=>simp
  | hold x y b =>
    rw [okB,pc]
    cases lookAt y s with
    | false=>rfl
    | true =>
      rw [if_pos rfl,Bool.true_and]
      cases bindN x s with
      | none=>rfl
      | some s2=>simp
  | drop x b =>
    rw [okB,pc]
    cases useUp x s with
    | none=>rfl
    | some s2=>simp
  | loose t b =>
    rw [okB,pc]
    cases useT t s with
    | none=>rfl
    | some s2=>simp
  | iff x b c =>
    rw [okB,pc]
    cases lookAt x s with
    | false=>rfl
    | true=>simp
  | cs x as =>
    rw [okB,pc]
    cases lookAt x s with
    | false=>rfl
    | true =>
      rw [if_pos rfl,Bool.true_and]
      exact okA_all
theorem armsC_sz {x:Str}:∀ {as:Arms} {s:Hs} {l:List (Bd × Hs)},armsC x as s=some l->(l.map fun q=>q.1.sz).sum<=as.sz
  | .nil,s,l,h=>by
    unfold armsC at h
    cases h
    exact Nat.zero_le _
  | .cons t ns m k b r,s,l,h=>by
    unfold armsC at h
    obtain ⟨s1,_,h⟩:=Option.bind_eq_some_iff.mp h
    obtain ⟨l1,h1,h2⟩:=Option.map_eq_some_iff.mp h
    have:=armsC_sz h1
    subst h2
    unfold Arms.sz
    rw [List.map_cons,List.sum_cons]
    dsimp only
    lia
theorem pc_sz {ow:Ow} {b:Bd} {s:Hs} {l:List (Bd × Hs)} (h:pc ow b s=some l):(l.map fun q=>q.1.sz).sum < b.sz:=by
  cases b with
  | give x =>
    rw [pc] at h
    obtain ⟨s1,_,h⟩:=Option.bind_eq_some_iff.mp h
    split at h
    · cases h
      rw [Bd.sz]
      exact Nat.zero_lt_one
    · cases h
  | lt x d b =>
    rw [pc] at h
    obtain ⟨s1,_,h⟩:=Option.bind_eq_some_iff.mp h
    obtain ⟨s2,_,h⟩:=Option.map_eq_some_iff.mp h
    subst h
    rw [Bd.sz]
    simp
  | hold x y b =>
    rw [pc] at h
    split at h
    · obtain ⟨s2,_,h⟩:=Option.map_eq_some_iff.mp h
      subst h
      rw [Bd.sz]
      simp
    · cases h
  | drop x b =>
    rw [pc] at h
    obtain ⟨s2,_,h⟩:=Option.map_eq_some_iff.mp h
    subst h
    rw [Bd.sz]
    simp
  | loose x b =>
    rw [pc] at h
    obtain ⟨s2,_,h⟩:=Option.map_eq_some_iff.mp h
    subst h
    rw [Bd.sz]
    simp
  | iff x b c =>
    rw [pc] at h
    split at h
    · cases h
      rw [Bd.sz]
      simp
    · cases h
  | cs x as =>
    rw [pc] at h
    split at h
    · have:=armsC_sz h
      rw [Bd.sz]
      lia
    · cases h
end GN
namespace L2
open PySem PySem.Spec PyProof.Rows
section
variable {X:Cx}
def rDictD:List V->Hp->VK->Prop:=fun xs H Q=>∃ d kvs,xs=[.ref d]/\H d=some (.dK kvs)/\∀ l,H l=none->Q (.ref l) (upd H l (.dK kvs))
theorem call_dict_dict:CallR X (.type "dict") rDictD:=by
  intro pins s σ H xs us Q I r h
  obtain ⟨d,kvs,rfl,hd,q⟩:=h
  obtain ⟨u,rfl,rx⟩:=vals1 r
  cases rx
  obtain ⟨z,hs,ws,rel,dd⟩:=dk_of I.hok hd
  refine kt_call_dict (knd:=mixKind X.prog X.w) hs dd (by rw [<- rel.length]; exact z) fun h' dn sb=>?_
  have hk:∀ b o,s.heap.get? b=some o->h'.get? b=some o:=fun b o e=>(sb.2 b (Nat.ne_of_lt (Heap.lt_size e))).trans (Heap.get?_push_of_some _ e)
  refine ⟨.ref s.heap.objs.size,_,I.laid (t':=s.toks) hk (Nat.le_refl _) (show ObjOk X.prog X.w _ h' _ (.dK kvs) from ⟨z,?_,ws,rel,dn⟩),rfl,q _ (I.hok.fresh (Nat.le_refl _))⟩
  have:=I.big
  exact beq_eq_false_iff_ne.mpr (fun e=>by rw [e] at this; exact Nat.lt_irrefl _ this)
theorem jc_dict_dict:jCa X (.type "dict") rDictD:=⟨call_dict_dict⟩
end
end L2
namespace GN
open PySem L2 K11
def KpS (S:Addr->Prop) (H H':Hp):Prop:=∀ b o,¬ S b->H b=some o->H' b=some o
theorem KpS.refl {S:Addr->Prop} {H:Hp}:KpS S H H:=fun _ _ _ h=>h
theorem KpS.trans {S:Addr->Prop} {H H1 H2:Hp} (a:KpS S H H1) (b:KpS S H1 H2):KpS S H H2:=fun c o n h=>b c o n (a c o n h)
theorem KpS.mono {S S':Addr->Prop} {H H1:Hp} (a:KpS S H H1) (h:∀ b,S b->S' b):KpS S' H H1:=fun c o n q=>a c o (fun z=>n (h c z)) q
theorem KpS.of {S:Addr->Prop} {H H1:Hp} (a:Same H H1):KpS S H H1:=fun c o _ q=>a c o q
theorem KpS.put {S:Addr->Prop} {H:Hp} {a:Addr} {o:HO} (h:S a):KpS S H (upd H a o):=fun c u n q=>by
  rw [upd_ne (fun z=>n (by rw [z]; exact h))]
  exact q
structure Ha where
  h:Addr
  dx:Addr
  dn:Addr
  dt:Addr
def Ha.own (a:Ha):Addr->Prop:=fun b=>b=a.dn\/b=a.dt
structure HandAt (cH:Addr) (H:Hp) (a:Ha) (g:Str) (s:Hs):Prop where
  o:H a.h=some (.ins cH a.dx [("def_name",.str g),("names",.ref a.dn),("tokens",.ref a.dt)])
  n:H a.dn=some (.dK (em V.bl s.ns))
  t:H a.dt=some (.dK (em V.int s.ts))
  ne:a.dn≠a.dt
theorem HandAt.keep {cH:Addr} {H H':Hp} {a:Ha} {g:Str} {s:Hs} (h:HandAt cH H a g s) (k:∀ b o,(b=a.h\/b=a.dn\/b=a.dt)->H b=some o->H' b=some o):HandAt cH H' a g s:=⟨k _ _ (.inl rfl) h.o,k _ _ (.inr (.inl rfl)) h.n,k _ _ (.inr (.inr rfl)) h.t,h.ne⟩
theorem HandAt.same {cH:Addr} {H H':Hp} {a:Ha} {g:Str} {s:Hs} (h:HandAt cH H a g s) (k:Same H H'):HandAt cH H' a g s:=h.keep fun b o _ q=>k b o q
theorem HandAt.hn {cH:Addr} {H:Hp} {a:Ha} {g:Str} {s:Hs} (h:HandAt cH H a g s):a.h≠a.dn/\a.h≠a.dt:=⟨ne_of h.o h.n (by intro z; cases z),ne_of h.o h.t (by intro z; cases z)⟩
theorem HandAt.putN {cH:Addr} {H:Hp} {a:Ha} {g:Str} {s:Hs} (h:HandAt cH H a g s) (ns:List (Str × Bool)):HandAt cH (upd H a.dn (.dK (em V.bl ns))) a g ⟨ns,s.ts⟩:=⟨by rw [upd_ne h.hn.1]; exact h.o,upd_same,by rw [upd_ne h.ne.symm]; exact h.t,h.ne⟩
theorem HandAt.putT {cH:Addr} {H:Hp} {a:Ha} {g:Str} {s:Hs} (h:HandAt cH H a g s) (ts:List (Str × Int)):HandAt cH (upd H a.dt (.dK (em V.int ts))) a g ⟨s.ns,ts⟩:=⟨by rw [upd_ne h.hn.2]; exact h.o,by rw [upd_ne h.ne]; exact h.n,upd_same,h.ne⟩
def ErrU (uh:Addr) (E:XK) (S:Addr->Prop) (H:Hp) (g:Str):Prop:=∀ d H',KpS S H H'->H' d=some (XD d [("name",.str g)])->E (.ref uh) (some d) H'
theorem ErrU.at {uh:Addr} {E:XK} {S S':Addr->Prop} {H H1:Hp} {g:Str} (h:ErrU uh E S H g) (k:KpS S H H1) (m:∀ b,S' b->S b):ErrU uh E S' H1 g:=fun d H' k' q=>h d H' (k.trans (k'.mono m)) q
theorem ErrU.mk {uh:Addr} {E:XK} {S:Addr->Prop} {H:Hp} {g:Str} (h:ErrU uh E S H g):ErrU uh E (fun _=>False) H g:=h.at .refl fun _ z=>z.elim
def spX (C:Addr) (f:Str):Sp:=fun vs H Q _=>∃ e v,vs=[.ref e,v]/\H e=some (XO e C none)/\∀ d,H d=none->d≠e->Q .non (upd (upd H d (XD d [(f,v)])) e (XO e C (some d)))
structure TH (K:PySem.W.Frag) (cH:Addr):Prop where
  cl:Cls K cH
  nd:PySem.W.findIn K (.ref cH) "def_name"=some none
  nn:PySem.W.findIn K (.ref cH) "names"=some none
  nt:PySem.W.findIn K (.ref cH) "tokens"=some none
def spInsist (cH uh:Addr):Sp:=fun vs H Q E=>∃ (a:Ha) (g:Str) (s:Hs) (b:Bool),vs=[.ref a.h,.bl b]/\HandAt cH H a g s/\(b=true->Q .non H)/\(b=false->ErrU uh E (fun _=>False) H g)
def spLook (cH uh:Addr):Sp:=fun vs H Q E=>∃ (a:Ha) (g:Str) (s:Hs) (x:Str),vs=[.ref a.h,.str x]/\HandAt cH H a g s/\(lookAt x s=true->Q .non H)/\(lookAt x s=false->ErrU uh E (fun _=>False) H g)
def spChg (cH uh:Addr) (f:Str->Hs->Option Hs):Sp:=fun vs H Q E=>∃ (a:Ha) (g:Str) (s:Hs) (x:Str),vs=[.ref a.h,.str x]/\HandAt cH H a g s/\s.ns.length < 1000000/\(∀ s',f x s=some s'->∀ H',KpS a.own H H'->HandAt cH H' a g s'->Q .non H')/\(f x s=none->ErrU uh E (fun _=>False) H g)
def spKeep (cH uh:Addr):Sp:=fun vs H Q E=>∃ (a:Ha) (g:Str) (s:Hs) (x:Str) (n:Int),vs=[.ref a.h,.str x,.int n]/\HandAt cH H a g s/\s.ts.length < 1000000/\(∀ s',keepT x n s=some s'->∀ H',KpS a.own H H'->HandAt cH H' a g s'->Q .non H')/\(keepT x n s=none->ErrU uh E (fun _=>False) H g)
def spUseT (cH uh:Addr):Sp:=fun vs H Q E=>∃ (a:Ha) (g:Str) (s:Hs) (x:Str),vs=[.ref a.h,.str x]/\HandAt cH H a g s/\(∀ p,useT x s=some p->∀ H',KpS a.own H H'->HandAt cH H' a g p.2->Q (.int p.1) H')/\(useT x s=none->ErrU uh E (fun _=>False) H g)
section
variable {P:Program} {w:World} {K:PySem.W.Frag} {mg:Str->Option Value} {base:Heap} {f R C cH uh:Addr} {fd:FuncData}
theorem scIUnheld:FnScope ["self","name"] ["self","name"] (defScope iUnheld):=⟨rfl,rfl,rfl,by decide +kernel,rfl,by decide +kernel,by decide +kernel⟩
theorem ok_iUnheld {fi:Addr} (F:Fun K "__init__" "Unheld.__init__" iUnheld f fd) (xw:PySem.W.takerIn K C "name"=some none) (M:XCl K C fi) (B:XBase K R) (mR:mg "ReuseError"=some (.ref R)):FnOk P w K mg base CX0 1 f fd ["self","name"] (spX C "name"):=by
  refine F.by scIUnheld (fun vs H Q E h=>?_) (fun cdv A' outer s H vs Q E hr h=>?_)
  · obtain ⟨e,v,rfl,_⟩:=h
    rfl
  obtain ⟨e,v,rfl,hX,q⟩:=h
  refine ⟨_,jss_cons (js_expr ⟨pe_xinit M B rfl mR (ja_c (jv 0) (ja_c (jv 1) ja_nil)).out⟩) (jss_one ⟨ps_xnew M (jv 0).out (jv 1).out⟩),?_⟩
  refine ⟨_,rfl,_,rfl,e,[v],none,rfl,by show 1<=sizeLine; decide,hX,?_⟩
  exact ⟨_,rfl,_,rfl,e,rfl,hX,xw,fun d hd ne=>q d hd ne⟩
theorem scInsist:FnScope ["self","fits"] ["self","fits"] (defScope sInsist):=⟨rfl,rfl,rfl,by decide +kernel,rfl,by decide +kernel,by decide +kernel⟩
theorem ok_insist (F:Fun K "insist" "Hand.insist" sInsist f fd) (T:TH K cH) (G:Xa P w K mg base 1 "Unheld" uh ["self","name"] (spX uh "name")):FnOk P w K mg base (CXf P w) 3 f fd ["self","fits"] (spInsist cH uh):=by
  refine F.byx scInsist (fun vs H Q E h=>?_) (fun cdv A' outer s H vs Q E hr h=>?_)
  · obtain ⟨a,g,s,b,rfl,_⟩:=h
    rfl
  obtain ⟨a,g,s,b,rfl,hA,hT,hF⟩:=h
  refine ⟨_,jss_one (js_if (jt_not (jt_val (jv 1))) (jss_one (js_raise G hr rfl throwx (ja_c (je_fld (jv 0)) ja_nil))) jss_nil),?_⟩
  refine ⟨_,rfl,b,rfl,?_⟩
  cases b with
  | true=>exact iteF (hT rfl)
  | false =>
    refine iteT ⟨_,rfl,a.h,cH,a.dx,_,_,rfl,hA.o,T.cl,T.nd,rfl,by show 1<=sizeLine; decide,fun e he=>⟨e,.str g,rfl,upd_same,fun d hd ne=>⟨rfl,some d,upd_same,?_⟩⟩⟩
    have hd':H d=none:=by
      rw [upd_ne ne] at hd
      exact hd
    refine hF rfl d _ (fun b o _ q=>?_) ?_
    · have n1:b≠e:=ne_of_none q he
      have n2:b≠d:=ne_of_none q hd'
      rw [drp_ne n1,upd_ne n1,upd_ne n2,upd_ne n1]
      exact q
    · rw [drp_ne ne,upd_ne ne,upd_same]
theorem scLookAt:FnScope ["self","name"] ["self","name"] (defScope sLookAt):=⟨rfl,rfl,rfl,by decide +kernel,rfl,by decide +kernel,by decide +kernel⟩
theorem ok_look (F:Fun K "look_at" "Hand.look_at" sLookAt f fd) (T:TH K cH) (GI:Me P w K mg base (CXf P w) 3 cH "insist" ["self","fits"] (spInsist cH uh)):FnOk P w K mg base (CXf P w) 4 f fd ["self","name"] (spLook cH uh):=by
  refine F.byx scLookAt (fun vs H Q E h=>?_) (fun cdv A' outer s H vs Q E hr h=>?_)
  · obtain ⟨a,g,s,x,rfl,_⟩:=h
    rfl
  obtain ⟨a,g,s,x,rfl,hA,hT,hF⟩:=h
  refine ⟨_,jss_one (js_expr (je_me (jv 0) T.cl GI hr passx (ja_c (je_din hr (jv 1) (je_fld (jv 0))) ja_nil))),?_⟩
  have e:(valV (em V.bl s.ns) (.inr x)).isSome=lookAt x s:=by rw [valV_em,Option.isSome_map]; rfl
  refine ⟨_,rfl,a.h,a.dx,_,rfl,hA.o,rfl,_,rfl,_,rfl,a.h,cH,a.dx,_,_,rfl,hA.o,T.cl,T.nn,rfl,a.dn,_,rfl,DGet.k (k:=.inr x) hA.n,a,g,s,_,rfl,hA,fun hb=>?_,fun hb=>?_⟩
  · exact hT (by rw [<- e]; exact hb)
  · exact hF (by rw [<- e]; exact hb)
theorem scUseUp:FnScope ["self","name"] ["self","name"] (defScope sUseUp):=⟨rfl,rfl,rfl,by decide +kernel,rfl,by decide +kernel,by decide +kernel⟩
theorem ok_useup (F:Fun K "use_up" "Hand.use_up" sUseUp f fd) (T:TH K cH) (GI:Me P w K mg base (CXf P w) 3 cH "insist" ["self","fits"] (spInsist cH uh)):FnOk P w K mg base (CXf P w) 4 f fd ["self","name"] (spChg cH uh useUp):=by
  refine F.byx scUseUp (fun vs H Q E h=>?_) (fun cdv A' outer s H vs Q E hr h=>?_)
  · obtain ⟨a,g,s,x,rfl,_⟩:=h
    rfl
  obtain ⟨a,g,s,x,rfl,hA,hL,hT,hF⟩:=h
  refine ⟨_,jss_cons (js_expr (je_me (jv 0) T.cl GI hr passx (ja_c (je_dget2 hr (je_fld (jv 0)) (jv 1) je_bl) ja_nil))) (jss_one (js_expr (je_dpop1 (je_fld (jv 0)) (jv 1)))),?_⟩
  have e:(valV (em V.bl s.ns) (.inr x)).getD (.bl false)=.bl ((look s.ns x).getD false):=by
    rw [valV_em]
    cases look s.ns x <;> rfl
  refine ⟨_,rfl,a.h,a.dx,_,rfl,hA.o,rfl,_,rfl,a.h,cH,a.dx,_,_,rfl,hA.o,T.cl,T.nn,rfl,a.dn,rfl,.inl ⟨_,.inl hA.n⟩,_,rfl,_,DGet.k (k:=.inr x) hA.n,?_⟩
  rw [e]
  refine ⟨a,g,s,_,rfl,hA,fun hb=>?_,fun hb=>?_⟩
  · have hl:look s.ns x=some true:=by
      cases c:look s.ns x with
      | none=>rw [c] at hb; cases hb
      | some b=>rw [c] at hb; exact congrArg some hb
    refine ⟨_,rfl,a.h,cH,a.dx,_,_,rfl,hA.o,T.cl,T.nn,rfl,a.dn,rfl,.inl ⟨_,.inl hA.n⟩,_,rfl,_,.inr x,.bl true,hA.n,rfl,by rw [valV_em,hl]; rfl,?_⟩
    rw [dropK_em]
    exact hT _ (if_pos hl) _ (.put (.inl rfl)) (hA.putN _)
  · refine hF (if_neg fun z=>?_)
    rw [z] at hb
    cases hb
theorem scBind:FnScope ["self","name"] ["self","name"] (defScope sBind):=⟨rfl,rfl,rfl,by decide +kernel,rfl,by decide +kernel,by decide +kernel⟩
theorem ok_bind (F:Fun K "bind" "Hand.bind" sBind f fd) (T:TH K cH) (GI:Me P w K mg base (CXf P w) 3 cH "insist" ["self","fits"] (spInsist cH uh)):FnOk P w K mg base (CXf P w) 4 f fd ["self","name"] (spChg cH uh bindN):=by
  refine F.byx scBind (fun vs H Q E h=>?_) (fun cdv A' outer s H vs Q E hr h=>?_)
  · obtain ⟨a,g,s,x,rfl,_⟩:=h
    rfl
  obtain ⟨a,g,s,x,rfl,hA,hL,hT,hF⟩:=h
  refine ⟨_,jss_cons (js_expr (je_me (jv 0) T.cl GI hr passx (ja_c (je_dnotin hr (jv 1) (je_fld (jv 0))) ja_nil))) (jss_one (js_dput hr (je_fld (jv 0)) (jv 1) je_bl)),?_⟩
  have sl:=line0
  have e:(!(valV (em V.bl s.ns) (.inr x)).isSome)=(look s.ns x).isNone:=by
    rw [valV_em]
    cases look s.ns x <;> rfl
  refine ⟨_,rfl,a.h,a.dx,_,rfl,hA.o,rfl,_,rfl,_,rfl,a.h,cH,a.dx,_,_,rfl,hA.o,T.cl,T.nn,rfl,a.dn,_,rfl,DGet.k (k:=.inr x) hA.n,?_⟩
  rw [e]
  refine ⟨a,g,s,_,rfl,hA,fun hb=>?_,fun hb=>?_⟩
  · have hl:look s.ns x=none:=Option.isNone_iff_eq_none.mp hb
    refine ⟨_,rfl,a.h,cH,a.dx,_,_,rfl,hA.o,T.cl,T.nn,rfl,_,rfl,a.dn,_,rfl,DPut.k (k:=.inr x) hA.n (by rw [em_len]; lia),?_⟩
    rw [putK_em V.bl hl]
    exact hT _ (if_pos hl) _ (.put (.inl rfl)) (hA.putN _)
  · refine hF (if_neg fun z=>?_)
    rw [z] at hb
    cases hb
theorem scKeep:FnScope ["self","token","many"] ["self","token","many"] (defScope sKeep):=⟨rfl,rfl,rfl,by decide +kernel,rfl,by decide +kernel,by decide +kernel⟩
theorem ok_keep (F:Fun K "keep" "Hand.keep" sKeep f fd) (T:TH K cH) (GI:Me P w K mg base (CXf P w) 3 cH "insist" ["self","fits"] (spInsist cH uh)):FnOk P w K mg base (CXf P w) 4 f fd ["self","token","many"] (spKeep cH uh):=by
  refine F.byx scKeep (fun vs H Q E h=>?_) (fun cdv A' outer s H vs Q E hr h=>?_)
  · obtain ⟨a,g,s,x,n,rfl,_⟩:=h
    rfl
  obtain ⟨a,g,s,x,n,rfl,hA,hL,hT,hF⟩:=h
  refine ⟨_,jss_cons (js_expr (je_me (jv 0) T.cl GI hr passx (ja_c (je_dnotin hr (jv 1) (je_fld (jv 0))) ja_nil))) (jss_one (js_dput hr (je_fld (jv 0)) (jv 1) (jv 2))),?_⟩
  have sl:=line0
  have e:(!(valV (em V.int s.ts) (.inr x)).isSome)=(look s.ts x).isNone:=by
    rw [valV_em]
    cases look s.ts x <;> rfl
  refine ⟨_,rfl,a.h,a.dx,_,rfl,hA.o,rfl,_,rfl,_,rfl,a.h,cH,a.dx,_,_,rfl,hA.o,T.cl,T.nt,rfl,a.dt,_,rfl,DGet.k (k:=.inr x) hA.t,?_⟩
  rw [e]
  refine ⟨a,g,s,_,rfl,hA,fun hb=>?_,fun hb=>?_⟩
  · have hl:look s.ts x=none:=Option.isNone_iff_eq_none.mp hb
    refine ⟨_,rfl,_,rfl,a.h,cH,a.dx,_,_,rfl,hA.o,T.cl,T.nt,rfl,_,rfl,a.dt,_,rfl,DPut.k (k:=.inr x) hA.t (by rw [em_len]; lia),?_⟩
    rw [putK_em V.int hl]
    exact hT _ (if_pos hl) _ (.put (.inr rfl)) (hA.putT _)
  · refine hF (if_neg fun z=>?_)
    rw [z] at hb
    cases hb
theorem scUseTok:FnScope ["self","token"] ["self","token"] (defScope sUseTok):=⟨rfl,rfl,rfl,by decide +kernel,rfl,by decide +kernel,by decide +kernel⟩
theorem ok_usetok (F:Fun K "use_up_token" "Hand.use_up_token" sUseTok f fd) (T:TH K cH) (GI:Me P w K mg base (CXf P w) 3 cH "insist" ["self","fits"] (spInsist cH uh)):FnOk P w K mg base (CXf P w) 4 f fd ["self","token"] (spUseT cH uh):=by
  refine F.byx scUseTok (fun vs H Q E h=>?_) (fun cdv A' outer s H vs Q E hr h=>?_)
  · obtain ⟨a,g,s,x,rfl,_⟩:=h
    rfl
  obtain ⟨a,g,s,x,rfl,hA,hT,hF⟩:=h
  refine ⟨_,jss_cons (js_expr (je_me (jv 0) T.cl GI hr passx (ja_c (je_din hr (jv 1) (je_fld (jv 0))) ja_nil))) (jss_one (js_ret (je_dpop1 (je_fld (jv 0)) (jv 1)))),?_⟩
  have e:(valV (em V.int s.ts) (.inr x)).isSome=(look s.ts x).isSome:=by rw [valV_em,Option.isSome_map]
  refine ⟨_,rfl,a.h,a.dx,_,rfl,hA.o,rfl,_,rfl,_,rfl,a.h,cH,a.dx,_,_,rfl,hA.o,T.cl,T.nt,rfl,a.dt,_,rfl,DGet.k (k:=.inr x) hA.t,?_⟩
  rw [e]
  refine ⟨a,g,s,_,rfl,hA,fun hb=>?_,fun hb=>?_⟩
  · obtain ⟨n,hl⟩:=Option.isSome_iff_exists.mp hb
    refine ⟨_,rfl,a.h,cH,a.dx,_,_,rfl,hA.o,T.cl,T.nt,rfl,a.dt,rfl,.inl ⟨_,.inl hA.t⟩,_,rfl,_,.inr x,.int n,hA.t,rfl,by rw [valV_em,hl]; rfl,?_⟩
    rw [dropK_em]
    exact hT (n,⟨s.ns,drpA s.ts x⟩) (by unfold useT; rw [hl]; rfl) _ (.put (.inr rfl)) (hA.putT _)
  · refine hF ?_
    unfold useT
    rw [Option.isSome_eq_false_iff,Option.isNone_iff_eq_none] at hb
    rw [hb]
    rfl
end
end GN
namespace L2
open PySem PySem.Spec PyProof.Rows
section
variable {X:Cx}
end
section
variable {prog:Program} {w:World} {A:Around} {E:Value->Shared->Prop} {s:Shared}
end
section
variable {X:Cx} {elts:List Expr} {k:Nat} {tpos:Pos}
end
end L2
namespace L2
open PySem PySem.Spec PyProof.Rows
section
variable {X:Cx}
def rVals:V->List V->Hp->VK->Prop:=fun x vs H Q=>∃ d kvs,x=.ref d/\vs=[]/\H d=some (.dK kvs)/\∀ p,H p=none->Q (.ref p) (upd H p (.ext fun h=>h.IsValuesView p d))
theorem mt_vals:MtM X "dict.values" rVals:=by
  intro pins s σ H x vs v us Q I rx rv h
  obtain ⟨d,kvs,rfl,rfl,hd,q⟩:=h
  cases rx
  have hus:=rv.zero
  subst hus
  obtain ⟨z,hs,ws,rel,dd⟩:=dk_of I.hok hd
  refine call_meetsIn PySem.F.slot_dict_values dd.typeIs PySem.F.entry_dict_values (PySem.F.args_dict_values_1 _) (meets_dict_values (mixKind X.prog X.w) d hs) ⟨⟨ws,dd⟩,?_⟩
  have e:=Heap.get?_push_size (h:=s.heap) (o:={ cls:=.type "dict_values",data:=.fields #[.ref d] }) rfl
  refine ⟨.ref _,_,I.laid (t':=s.toks) (fun b o e=>Heap.get?_push_of_some _ e) (Nat.le_refl _) ?_,rfl,q _ (I.hok.fresh (Nat.le_refl _))⟩
  refine ⟨⟨_,e,rfl,rfl⟩,⟨_,e⟩,fun h1 h2 ⟨o,a,b⟩ k=>⟨o,k o a,b⟩⟩
theorem jm_vals:jMt X "dict.values" rVals:=⟨mt_vals⟩
theorem call_any_vals (hc:X.calm=true):CallR X (.builtin "any") (fun xs H Q=>∃ (p d:Addr) (l:List (Key × Bool)),xs=[.ref p]/\H p=some (.ext fun h=>h.IsValuesView p d)/\H d=some (.dK (l.map fun q=>(q.1,V.bl q.2)))/\Q (.bl (l.any (·.2))) H):=by
  intro pins s σ H xs us Q I r h
  obtain ⟨p,d,l,rfl,hv,hd,q⟩:=h
  obtain ⟨u,rfl,rx⟩:=vals1 r
  cases rx
  have hh:X.A.handled=none:=I.ok.hd hc
  obtain ⟨z,hs,ws,rel,dd⟩:=dk_of I.hok hd
  obtain ⟨ep,da⟩:=dd.dictAt
  have hvw:s.heap.IsValuesView p d:=(I.hok p _ hv).1
  have wl:=rel.length
  rw [List.length_map] at wl
  have hlt:d < s.heap.objs.size:=I.hok.lt hd
  have hne:d≠s.heap.objs.size:=Nat.ne_of_lt hlt
  refine call_any_walk (wpAny_pyIter_values (knd:=mixKind X.prog X.w) hvw da ?_)
  refine ⟨s.heap.objs.size,_,_,_,_,_,fun i=>((l.map (·.2))[i]?).getD false,rfl,Walks.dictValues (knd:=mixKind X.prog X.w) (A:=X.A.in1) hh _ d hne ws ep,⟨⟨_,Heap.get?_push_size _ rfl,rfl,rfl⟩,da.at' fun o e=>Heap.get?_push_of_some _ e⟩,fun i v s1 Q1 E1 hv hQ=>?_,fun h' tk kk=>?_⟩
  · obtain ⟨k,hk⟩:=hv
    obtain ⟨y,h1,h2⟩:=rel.get hk
    rw [List.getElem?_map] at h1
    obtain ⟨b,hb,e⟩:=Option.map_eq_some_iff.mp h1
    cases e
    cases h2
    have:((l.map (·.2))[i]?).getD false=b.2:=by
      rw [List.getElem?_map,hb]
      rfl
    dsimp only at hQ
    rw [this] at hQ
    exact wpAny_truthy_bool hQ
  · have e:(List.range ws.length).any (fun i=>((l.map (·.2))[i]?).getD false)=l.any (·.2):=by
      rw [<- wl,show l.length=(l.map (·.2)).length by rw [List.length_map],LSm.range_any,List.any_map]
      rfl
    rw [e]
    have I1:Inv X pins σ H { s with heap:=s.heap.push { cls:=.type "dict_valueiterator",data:=.fields #[.ref d,.int 0 0,.int ws.length 0,.int ep 0] } }:=I.kept (t':=s.toks) fun b o e=>Heap.get?_push_of_some _ e
    have f:=I.fpOk (H':=H) (Nat.le_refl _) I.fresh
    exact ⟨.bl (l.any (·.2)),H,I1.turned (it:=s.heap.objs.size) (fun b o hb e=>kk b o (by simpa using hb) e) f.1 f.2.1 f.2.2.2.1 f.2.2.2.2.1 f.2.2.2.2.2,rfl,q⟩
theorem jc_any_vals (hc:X.calm=true):jCa X (.builtin "any") (fun xs H Q=>∃ (p d:Addr) (l:List (Key × Bool)),xs=[.ref p]/\H p=some (.ext fun h=>h.IsValuesView p d)/\H d=some (.dK (l.map fun q=>(q.1,V.bl q.2)))/\Q (.bl (l.any (·.2))) H):=⟨call_any_vals hc⟩
theorem call_all_boolsT (hc:X.calm=true):CallR X (.builtin "all") (fun xs H Q=>∃ (p:Addr) (bs:List Bool),xs=[.ref p]/\H p=some (.tup (bs.map V.bl))/\Q (.bl (bs.all _root_.id)) H):=by
  intro pins s σ H xs us Q I r h
  obtain ⟨p,bs,rfl,hq,q⟩:=h
  obtain ⟨u,rfl,rx⟩:=vals1 r
  cases rx
  obtain ⟨its,rv,pl,hz⟩:=I.tuple (SqT.of hq)
  have hh:X.A.handled=none:=I.ok.hd hc
  have hlen:its.toArray.size=bs.length:=by rw [List.size_toArray,<- rv.length,List.length_map]
  have hne:p≠s.heap.objs.size:=Nat.ne_of_lt (I.hok.lt hq)
  refine call_all_walk (wpAny_pyIter_tuple (show s.heap.IsTuple p its.toArray from pl) ?_)
  refine ⟨s.heap.objs.size,_,_,_,_,_,fun i=>bs.getD i false,rfl,Walks.tuple (A:=X.A.in1) hh _ p hne its.toArray,⟨⟨_,Heap.get?_push_size _ rfl,rfl,rfl⟩,(show s.heap.IsTuple p its.toArray from pl).at fun o e=>Heap.get?_push_of_some _ e⟩,fun i v s1 Q1 E1 hv hQ=>?_,fun h' tk kk=>?_⟩
  · have hi:i < bs.length:=by
      obtain ⟨hi,_⟩:=Array.getElem?_eq_some_iff.mp hv
      rw [hlen] at hi
      exact hi
    have hb:(bs.map V.bl)[i]?=some (V.bl (bs.getD i false)):=by
      rw [List.getElem?_map,List.getElem?_eq_getElem hi]
      simp [List.getD,List.getElem?_eq_getElem hi]
    obtain ⟨u',hu,ru⟩:=rv.get hb
    have e:its.toArray[i]?=some u':=by simpa using hu
    have hv':its.toArray[i]?=some v:=hv
    rw [hv'] at e
    cases e
    cases ru
    exact wpAny_truthy_bool hQ
  · have e:(List.range its.toArray.size).all (fun i=>bs.getD i false)=bs.all _root_.id:=by
      rw [hlen]
      exact range_all bs
    rw [e]
    have I1:Inv X pins σ H { s with heap:=s.heap.push { cls:=.type "tuple_iterator",data:=.fields #[.ref p,.int 0 0] } }:=I.kept (t':=s.toks) fun b o e=>Heap.get?_push_of_some _ e
    have f:=I.fpOk (H':=H) (Nat.le_refl _) I.fresh
    exact ⟨.bl (bs.all _root_.id),H,I1.turned (it:=s.heap.objs.size) (fun b o hb e=>kk b o (by simpa using hb) e) f.1 f.2.1 f.2.2.2.1 f.2.2.2.2.1 f.2.2.2.2.2,rfl,q⟩
theorem jc_all_boolsT (hc:X.calm=true):jCa X (.builtin "all") (fun xs H Q=>∃ (p:Addr) (bs:List Bool),xs=[.ref p]/\H p=some (.tup (bs.map V.bl))/\Q (.bl (bs.all _root_.id)) H):=⟨call_all_boolsT hc⟩
end
end L2
namespace GN
open PySem L2 K11
theorem same_made {H:Hp} {x dx:Addr} {o o':HO} (hx:H x=none) (hd:H dx=none) (n:dx≠x):Same H (upd (upd H dx o) x o'):=(same_new hd o).trans (same_new (by rw [upd_ne n.symm]; exact hx) o')
theorem iteE {b:Bool} {A B:Prop} (e:b=false) (h:B):if b=true then A else B:=by rw [if_neg (by rw [e]; decide)]; exact h
def spHInit (cH:Addr):Sp:=fun vs H Q _=>∃ (b dx dn0 dt0:Addr) (g:Str) (s:Hs),vs=[.ref b,.str g,.ref dn0,.ref dt0]/\H b=some (.ins cH dx [])/\H dn0=some (.dK (em V.bl s.ns))/\H dt0=some (.dK (em V.int s.ts))/\∀ H' dn dt,KpS (·=b) H H'->H dn=none->H dt=none->HandAt cH H' ⟨b,dx,dn,dt⟩ g s->Q .non H'
structure New (H:Hp) (a:Ha):Prop where
  h:H a.h=none
  n:H a.dn=none
  t:H a.dt=none
def spCopied (cH:Addr):Sp:=fun vs H Q _=>∃ (a:Ha) (g:Str) (s:Hs),vs=[.ref a.h]/\HandAt cH H a g s/\∀ H' a',Same H H'->New H a'->HandAt cH H' a' g s->Q (.ref a'.h) H'
def spNamesOf:Sp:=fun vs H Q _=>∃ (p:Addr) (d:Dd),vs=[.ref p]/\IsDd H d p/\(namesD d).length<=1000/\∀ H' r,Same H H'->H' r=some (.tup ((namesD d).map V.str))->Q (.ref r) H'
def OwAt (H:Hp) (od:Addr) (ow:Ow):Prop:=∃ kvs,H od=some (.dK kvs)/\∀ g bs,look ow g=some bs->∃ q,valV kvs (.inr g)=some (.ref q)/\H q=some (.tup (bs.map V.bl))
theorem OwAt.keep {H H':Hp} {od:Addr} {ow:Ow} (h:OwAt H od ow) (k:∀ b o,(b=od\/∃ xs,o=.tup xs)->H b=some o->H' b=some o):OwAt H' od ow:=by
  obtain ⟨kvs,a,b⟩:=h
  refine ⟨kvs,k _ _ (.inl rfl) a,fun g bs e=>?_⟩
  obtain ⟨q,h1,h2⟩:=b g bs e
  exact ⟨q,h1,k _ _ (.inr ⟨_,rfl⟩) h2⟩
theorem OwAt.same {H H':Hp} {od:Addr} {ow:Ow} (h:OwAt H od ow) (s:Same H H'):OwAt H' od ow:=h.keep fun b o _ q=>s b o q
def OkD (ow:Ow):Dd->Prop
  | .call g ns=>∃ bs,look ow g=some bs
  | .fn g _=>∃ bs,look ow g=some bs
  | _=>True
def spUsedUp:Sp:=fun vs H Q _=>∃ (p od:Addr) (d:Dd) (ow:Ow),vs=[.ref p,.ref od]/\IsDd H d p/\(namesD d).length<=1000/\OwAt H od ow/\OkD ow d/\∀ H' r,Same H H'->H' r=some (.tup ((usedD ow d).map V.bl))->Q (.ref r) H'
section
variable {P:Program} {w:World} {K:PySem.W.Frag} {mg:Str->Option Value} {base:Heap} {f R C cH uh:Addr} {fd:FuncData}
theorem scHInit:FnScope ["self","def_name","names","tokens"] ["self","def_name","names","tokens"] (defScope sHInit):=⟨rfl,rfl,rfl,by decide +kernel,rfl,by decide +kernel,by decide +kernel⟩
theorem ok_hinit (F:Fun K "__init__" "Hand.__init__" sHInit f fd) (T:TH K cH) (m_dict:mg "dict"=none):FnOk P w K mg base CX0 1 f fd ["self","def_name","names","tokens"] (spHInit cH):=by
  refine F.by scHInit (fun vs H Q E h=>?_) (fun cdv A' outer s H vs Q E hr h=>?_)
  · obtain ⟨b,dx,dn0,dt0,g,s,rfl,_⟩:=h
    rfl
  obtain ⟨b,dx,dn0,dt0,g,s,rfl,hb,hn,ht,q⟩:=h
  refine ⟨_,jss_cons (js_fld (jv 0) (jv 1)) (jss_cons (js_fld (jv 0) (je_fnTy jc_dict_dict rfl m_dict PyProof.Rows.boot_dict (ja_c (jv 2) ja_nil))) (jss_one (js_fld (jv 0) (je_fnTy jc_dict_dict rfl m_dict PyProof.Rows.boot_dict (ja_c (jv 3) ja_nil))))),?_⟩
  have nbn:dn0≠b:=ne_of hn hb (by intro z; cases z)
  have nbt:dt0≠b:=ne_of ht hb (by intro z; cases z)
  refine ⟨_,rfl,_,rfl,b,cH,dx,_,rfl,hb,T.cl,T.nd,by show 0 < 1000; decide,?_⟩
  have k1:KpS (·=b) H (upd H b (.ins cH dx (putF "def_name" (.str g) []))):=.put rfl
  have b1:=upd_same (H:=H) (a:=b) (o:=.ins cH dx (putF "def_name" (.str g) []))
  generalize upd H b (.ins cH dx (putF "def_name" (.str g) []))=H1 at *
  refine ⟨_,rfl,dn0,_,rfl,k1 _ _ nbn hn,fun dn hdn=>?_⟩
  have nd:dn≠b:=fun e=>by rw [e,b1] at hdn; cases hdn
  have f1:H dn=none:=by
    cases z:H dn with
    | none=>rfl
    | some o=>rw [k1 _ _ nd z] at hdn; cases hdn
  have s2:=same_new hdn (.dK (em V.bl s.ns))
  have d2:=upd_same (H:=H1) (a:=dn) (o:=.dK (em V.bl s.ns))
  generalize upd H1 dn (.dK (em V.bl s.ns))=H2 at *
  refine ⟨_,rfl,b,cH,dx,_,rfl,s2 _ _ b1,T.cl,T.nn,by show 1 < 1000; decide,?_⟩
  have k3:KpS (·=b) H (upd H2 b (.ins cH dx (putF "names" (.ref dn) (putF "def_name" (.str g) [])))):=(k1.trans (.of s2)).trans (.put rfl)
  have b3:=upd_same (H:=H2) (a:=b) (o:=.ins cH dx (putF "names" (.ref dn) (putF "def_name" (.str g) [])))
  have d3:upd H2 b (.ins cH dx (putF "names" (.ref dn) (putF "def_name" (.str g) []))) dn=some (.dK (em V.bl s.ns)):=by rw [upd_ne nd]; exact d2
  generalize upd H2 b (.ins cH dx (putF "names" (.ref dn) (putF "def_name" (.str g) [])))=H3 at *
  refine ⟨_,rfl,dt0,_,rfl,k3 _ _ nbt ht,fun dt hdt=>?_⟩
  have ndt:dt≠b:=fun e=>by rw [e,b3] at hdt; cases hdt
  have nnt:dn≠dt:=fun e=>by rw [<- e,d3] at hdt; cases hdt
  have f3:H dt=none:=by
    cases z:H dt with
    | none=>rfl
    | some o=>rw [k3 _ _ ndt z] at hdt; cases hdt
  refine ⟨_,rfl,b,cH,dx,_,rfl,old hdt b3,T.cl,T.nt,by show 2 < 1000; decide,?_⟩
  refine q _ dn dt ((k3.trans (.of (same_new hdt _))).trans (.put rfl)) f1 f3 ⟨upd_same,?_,?_,nnt⟩
  · rw [upd_ne nd]
    exact old hdt d3
  · rw [upd_ne ndt]
    exact upd_same
theorem scCopied:FnScope ["hand"] ["hand"] (defScope sCopied):=⟨rfl,rfl,rfl,by decide +kernel,rfl,by decide +kernel,by decide +kernel⟩
theorem ok_copied (F:Fun K "copied" "copied" sCopied f fd) (T:TH K cH) (GH:Ma P w K mg base CX0 1 "Hand" cH ["self","def_name","names","tokens"] (spHInit cH)):FnOk P w K mg base CX0 3 f fd ["hand"] (spCopied cH):=by
  refine F.by scCopied (fun vs H Q E h=>?_) (fun cdv A' outer s H vs Q E hr h=>?_)
  · obtain ⟨a,g,s,rfl,_⟩:=h
    rfl
  obtain ⟨a,g,s,rfl,hA,q⟩:=h
  refine ⟨_,jss_one (js_ret (je_ma GH hr rfl pass0 (ja_c (je_fld (jv 0)) (ja_c (je_fld (jv 0)) (ja_c (je_fld (jv 0)) ja_nil))))),?_⟩
  refine ⟨_,rfl,a.h,cH,a.dx,_,_,rfl,hA.o,T.cl,T.nd,rfl,_,rfl,a.h,cH,a.dx,_,_,rfl,hA.o,T.cl,T.nn,rfl,_,rfl,a.h,cH,a.dx,_,_,rfl,hA.o,T.cl,T.nt,rfl,fun b dx hb hdx ndx=>?_⟩
  have sm:=same_made (o:=.own b) (o':=.ins cH dx []) hb hdx ndx
  refine ⟨b,dx,a.dn,a.dt,g,s,rfl,upd_same,sm _ _ hA.n,sm _ _ hA.t,fun H' dn dt k fn ft hA'=>⟨rfl,?_⟩⟩
  have hbn:∀ c,H c≠none->c≠b:=fun c h e=>h (by rw [e]; exact hb)
  have fr:∀ c,upd (upd H dx (.own b)) b (.ins cH dx []) c=none->H c=none:=fun c h=>by
    cases z:H c with
    | none=>rfl
    | some o=>rw [sm _ _ z] at h; cases h
  exact q H' ⟨b,dx,dn,dt⟩ (fun c o z=>k _ _ (fun e=>hbn c (by rw [z]; simp) e) (sm _ _ z)) ⟨hb,fr _ fn,fr _ ft⟩ hA'
theorem scNamesOf:FnScope ["deed"] ["deed"] (defScope sNamesOf):=⟨rfl,rfl,rfl,by decide +kernel,rfl,by decide +kernel,by decide +kernel⟩
theorem ok_namesof (F:Fun K "names_of" "names_of" sNamesOf f fd):FnOk P w K mg base CX0 1 f fd ["deed"] spNamesOf:=by
  refine F.by scNamesOf (fun vs H Q E h=>?_) (fun cdv A outer s H vs Q E hr h=>?_)
  · obtain ⟨p,d,rfl,_⟩:=h
    rfl
  obtain ⟨p,d,rfl,hI,hl,q⟩:=h
  refine ⟨_,
    (jss_cons (js_if (jt_cmpR jo_eq (je_ix jx_tup (jv 0) je_int (fun _ _=>rfl)) je_str (nomark _))
      (jss_one (js_ret (je_tup ja_nil))) jss_nil)
    (jss_cons (js_if (jt_cmpR jo_eq (je_ix jx_tup (jv 0) je_int (fun _ _=>rfl)) je_str (nomark _))
      (jss_one (js_ret (je_slice jl_tup (jv 0) (jo_some je_int) jo_none))) jss_nil)
    (jss_cons (js_if (jt_cmpR jo_eq (je_ix jx_tup (jv 0) je_int (fun _ _=>rfl)) je_str (nomark _))
      (jss_one (js_ret (je_op jo_catT (je_tup (ja_c (je_ix jx_tup (jv 0) je_int (fun _ _=>rfl)) ja_nil)) (je_ix jx_tup (jv 0) je_int (fun _ _=>rfl))))) jss_nil)
    (jss_one (js_ret (je_ix jx_tup (jv 0) je_int (fun _ _=>rfl))))))),?_⟩
  have sl:=line0
  cases d with
  | num i =>
    have hI:H p=_:=hI
    exact ⟨_,rfl,ixT hI (atI_nat (j:=0) rfl) ⟨rfl,_,rfl,iteT ⟨by show 0<=sizeLine; decide,fun r hr=>q _ r (same_new hr _) upd_same⟩⟩⟩
  | op o a b =>
    have hI:H p=_:=hI
    refine ⟨_,rfl,ixT hI (atI_nat (j:=0) rfl) ⟨rfl,_,rfl,iteF (nxtC ?_)⟩⟩
    exact ⟨_,rfl,ixT hI (atI_nat (j:=0) rfl) ⟨rfl,_,rfl,iteT ⟨_,rfl,_,rfl,p,_,rfl,SqT.of hI,(fun z=>absurd z.1 (show ¬ (HT.sIx 4 0 (some 2)=0) by decide)),fun r hr=>q _ r (same_new hr _) upd_same⟩⟩⟩
  | mk t ns k =>
    obtain ⟨r,h1,h2⟩:=hI
    refine ⟨_,rfl,ixT h1 (atI_nat (j:=0) rfl) ⟨rfl,_,rfl,iteF (nxtC ?_)⟩⟩
    refine ⟨_,rfl,ixT h1 (atI_nat (j:=0) rfl) ⟨rfl,_,rfl,iteF (nxtC ?_)⟩⟩
    refine ⟨_,rfl,ixT h1 (atI_nat (j:=0) rfl) ⟨rfl,_,rfl,iteF (nxtC ?_)⟩⟩
    exact ⟨_,rfl,ixT h1 (atI_nat (j:=2) rfl) (q _ r (Same.refl _) h2)⟩
  | call g ns =>
    obtain ⟨r,h1,h2⟩:=hI
    refine ⟨_,rfl,ixT h1 (atI_nat (j:=0) rfl) ⟨rfl,_,rfl,iteF (nxtC ?_)⟩⟩
    refine ⟨_,rfl,ixT h1 (atI_nat (j:=0) rfl) ⟨rfl,_,rfl,iteF (nxtC ?_)⟩⟩
    refine ⟨_,rfl,ixT h1 (atI_nat (j:=0) rfl) ⟨rfl,_,rfl,iteF (nxtC ?_)⟩⟩
    exact ⟨_,rfl,ixT h1 (atI_nat (j:=2) rfl) (q _ r (Same.refl _) h2)⟩
  | fn g ns =>
    obtain ⟨r,h1,h2⟩:=hI
    refine ⟨_,rfl,ixT h1 (atI_nat (j:=0) rfl) ⟨rfl,_,rfl,iteF (nxtC ?_)⟩⟩
    refine ⟨_,rfl,ixT h1 (atI_nat (j:=0) rfl) ⟨rfl,_,rfl,iteF (nxtC ?_)⟩⟩
    refine ⟨_,rfl,ixT h1 (atI_nat (j:=0) rfl) ⟨rfl,_,rfl,iteF (nxtC ?_)⟩⟩
    exact ⟨_,rfl,ixT h1 (atI_nat (j:=2) rfl) (q _ r (Same.refl _) h2)⟩
  | ask g ns =>
    obtain ⟨r,h1,h2⟩:=hI
    refine ⟨_,rfl,ixT h1 (atI_nat (j:=0) rfl) ⟨rfl,_,rfl,iteF (nxtC ?_)⟩⟩
    refine ⟨_,rfl,ixT h1 (atI_nat (j:=0) rfl) ⟨rfl,_,rfl,iteF (nxtC ?_)⟩⟩
    refine ⟨_,rfl,ixT h1 (atI_nat (j:=0) rfl) ⟨rfl,_,rfl,iteT ?_⟩⟩
    refine ⟨_,rfl,ixT h1 (atI_nat (j:=1) rfl) ⟨by show 1<=sizeLine; decide,fun p1 hp1=>?_⟩⟩
    refine ⟨_,rfl,ixT (old hp1 h1) (atI_nat (j:=2) rfl) ⟨p1,r,[.str g],_,rfl,rfl,SqT.of upd_same,SqT.of (old hp1 h2),by simp,?_,fun e=>?_,fun _ p2 hp2=>?_⟩⟩
    · have hl:(g :: ns).length<=1000:=hl
      rw [List.length_cons] at hl
      rw [List.length_map]
      show 1 + _<=_
      lia
    · rw [List.map_eq_nil_iff] at e
      subst e
      exact q _ p1 (same_new hp1 _) upd_same
    · exact q _ p2 ((same_new hp1 _).new hp2) upd_same
theorem scUsedUp:FnScope ["deed","owns"] ["deed","owns"] (defScope sUsedUp):=⟨rfl,rfl,rfl,by decide +kernel,rfl,by decide +kernel,by decide +kernel⟩
theorem ndUsedUp:(["deed","owns","name"]:List Str).Nodup:=by decide +kernel
theorem ok_usedup (F:Fun K "used_up" "used_up" sUsedUp f fd) (GN':Ca P w K mg base CX0 1 "names_of" ["deed"] spNamesOf) (m_tuple:mg "tuple"=none):FnOk P w K mg base CX0 2 f fd ["deed","owns"] spUsedUp:=by
  refine F.by scUsedUp (fun vs H Q E h=>?_) (fun cdv A outer s H vs Q E hr h=>?_)
  · obtain ⟨p,od,d,ow,rfl,_⟩:=h
    rfl
  obtain ⟨p,od,d,ow,rfl,hI,hl,hO,hok,q⟩:=h
  refine ⟨_,
    (jss_cons (js_if (jt_cmpR jo_eq (je_ix jx_tup (jv 0) je_int (fun _ _=>rfl)) je_str (nomark _))
      (jss_one (js_ret (je_dget hr (jv 1) (je_ix jx_tup (jv 0) je_int (fun _ _=>rfl))))) jss_nil)
    (jss_one (js_ret (je_fnTy jc_tuple_of rfl m_tuple PyProof.Rows.boot_tuple (ja_c (je_comp ["name"] rfl (ji_tup (je_ca GN' hr rfl pass0 (ja_c (jv 0) ja_nil))) (fun _ _ _ _ _=>(jg_name (i:=2) ndUsedUp rfl (Or.inl rfl))) (fun _ _ _ _ _=>jts_nil) (fun _ _ _ _ _=>(je_cmpR jo_ne (je_ix (jx_tupK K) (jv 0) je_int (fun _ _=>rfl)) je_str (nomark _)))) ja_nil))))),?_⟩
  have sl:=line0
  obtain ⟨tg,xs,h0,hc⟩:∃ (tg:Str) (xs:List V),H p=some (.tup (.str tg :: xs))/\((tg="call"/\∃ g ns,d=.call g ns/\xs[0]?=some (.str g))\/(tg≠"call"/\usedD ow d=(namesD d).map fun _=>!decide (tg="op"))):=by
    cases d with
    | num i=>exact ⟨_,_,hI,.inr ⟨by decide,rfl⟩⟩
    | op o a b=>exact ⟨_,_,hI,.inr ⟨by decide,rfl⟩⟩
    | mk t ns k=>obtain ⟨r,h1,h2⟩:=hI; exact ⟨_,_,h1,.inr ⟨by decide,rfl⟩⟩
    | call g ns=>obtain ⟨r,h1,h2⟩:=hI; exact ⟨_,_,h1,.inl ⟨rfl,g,ns,rfl,rfl⟩⟩
    | fn g ns=>obtain ⟨r,h1,h2⟩:=hI; exact ⟨_,_,h1,.inr ⟨by decide,rfl⟩⟩
    | ask g ns=>obtain ⟨r,h1,h2⟩:=hI; exact ⟨_,_,h1,.inr ⟨by decide,rfl⟩⟩
  refine ⟨_,rfl,ixT h0 (atI_nat (j:=0) rfl) ⟨rfl,_,rfl,?_⟩⟩
  rcases hc with ⟨rfl,g,ns,rfl,hg⟩ | ⟨hc,e⟩
  · obtain ⟨kvs,o1,o2⟩:=hO
    obtain ⟨bs,hb⟩:=hok
    obtain ⟨r,v1,v2⟩:=o2 g bs hb
    refine iteT ⟨_,rfl,_,rfl,ixT h0 (atI_nat (j:=1) (by rw [List.getElem?_cons_succ]; exact hg)) ⟨od,.ref r,rfl,?_,?_⟩⟩
    · rw [<- v1]
      exact DGet.k (k:=.inr g) o1
    · refine q _ r (Same.refl _) ?_
      show H r=some (.tup (((look ow g).getD []).map V.bl))
      rw [hb]
      exact v2
  · refine iteE (decide_eq_false fun z=>hc (V.str.inj z)) (nxtC ?_)
    refine ⟨_,rfl,p,d,rfl,hI,hl,fun H1 r1 s1 h1=>⟨r1,rfl,⟨_,SqT.of h1⟩,lc_tup (xs:=(namesD d).map V.str) (fun i τ ys H'=>H1=H'/\(∃ v,τ=[some (.ref p),some (.ref od),v])/\ys=(List.replicate i (V.bl (!decide (tg="op"))))) ⟨rfl,⟨none,rfl⟩,rfl⟩ (fun i τ ys H' _ pv=>pv.1 ▸ SqT.of h1) ?_ ?_⟩⟩
    · rintro i x τ ys H' hx ⟨rfl,⟨v,rfl⟩,rfl⟩
      have hi:=(List.getElem?_eq_some_iff.mp hx).1
      rw [List.length_map] at hi
      refine ⟨_,rfl,ixT (s1 _ _ h0) (atI_nat (j:=0) rfl) ⟨rfl,by rw [List.length_replicate]; lia,rfl,⟨_,rfl⟩,?_⟩⟩
      rw [List.replicate_succ']
      congr 4
      by_cases c:tg="op"
      · rw [decide_eq_true c,decide_eq_true (congrArg V.str c)]
      · rw [decide_eq_false c,decide_eq_false fun z=>c (V.str.inj z)]
    · rintro τ ys H' ⟨rfl,_,rfl⟩ p2 hp2
      refine ⟨p2,_,rfl,.inl ⟨SqL.of upd_same,fun p3 hp3=>q _ p3 ((s1.new hp2).new hp3) ?_⟩⟩
      rw [upd_same,e,List.length_map,List.map_map]
      congr 2
      rw [<- List.map_const']
      rfl
end
end GN
namespace GN
open PySem L2 K11
def spGive (cH uh:Addr):Sp:=fun vs H Q E=>∃ (p:Addr) (x:Str) (a:Ha) (g:Str) (s:Hs),vs=[.ref p,.ref a.h]/\H p=some (.tup [.str "give",.str x])/\HandAt cH H a g s/\s.ns.length < 1000000/\(∀ s1,useUp x s=some s1->clean s1=true->∀ H',KpS a.own H H'->HandAt cH H' a g s1->Q .non H')/\((∀ s1,useUp x s=some s1->clean s1=false)->ErrU uh E a.own H g)
def spArm (cH uh:Addr):Sp:=fun vs H Q E=>∃ (p q:Addr) (x t m k:Str) (ns:List Str) (v:V) (a:Ha) (g:Str) (s:Hs),vs=[.str x,.ref p,.ref a.h]/\H p=some (.tup [.str t,.ref q,.str m,.str k,v])/\H q=some (.tup (ns.map V.str))/\HandAt cH H a g s/\s.ns.length + ns.length < 1000000/\s.ts.length < 1000000/\(∀ s1,armC x ns m k s=some s1->∀ H',KpS a.own H H'->HandAt cH H' a g s1->Q .non H')/\(armC x ns m k s=none->ErrU uh E a.own H g)
theorem useUp_len {x:Str} {s s':Hs} (h:useUp x s=some s'):s'.ns.length<=s.ns.length/\s'.ts=s.ts:=by
  unfold useUp at h
  split at h
  · cases h
    exact ⟨List.length_filter_le _ _,rfl⟩
  · cases h
theorem bindN_len {x:Str} {s s':Hs} (h:bindN x s=some s'):s'.ns.length=s.ns.length + 1/\s'.ts=s.ts:=by
  unfold bindN at h
  split at h
  · cases h
    exact ⟨by rw [List.length_append]; rfl,rfl⟩
  · cases h
section
variable {P:Program} {w:World} {K:PySem.W.Frag} {mg:Str->Option Value} {base:Heap} {f R C cH uh:Addr} {fd:FuncData}
theorem scCkGive:FnScope ["body","hand"] ["body","hand"] (defScope sCkGive):=⟨rfl,rfl,rfl,by decide +kernel,rfl,by decide +kernel,by decide +kernel⟩
theorem ok_give (F:Fun K "check_give" "check_give" sCkGive f fd) (T:TH K cH) (GI:Me P w K mg base (CXf P w) 3 cH "insist" ["self","fits"] (spInsist cH uh)) (GU:Me P w K mg base (CXf P w) 4 cH "use_up" ["self","name"] (spChg cH uh useUp)) (m_len:mg "len"=none) (m_any:mg "any"=none):FnOk P w K mg base (CXf P w) 5 f fd ["body","hand"] (spGive cH uh):=by
  refine F.byx scCkGive (fun vs H Q E h=>?_) (fun cdv A' outer s H vs Q E hr h=>?_)
  · obtain ⟨p,x,a,g,s,rfl,_⟩:=h
    rfl
  obtain ⟨p,x,a,g,s,rfl,hp,hA,hL,hT,hF⟩:=h
  have hr3:Room 3 _:=hr.mono (by decide)
  refine ⟨_,jss_cons (js_expr (je_me (jv 1) T.cl GU hr passx (ja_c (je_ix jx_tup (jv 0) je_int (fun _ _=>rfl)) ja_nil)))
    (jss_one (js_expr (je_me (jv 1) T.cl GI hr3 passx (ja_c (je_and (je_cmpR jo_eq (je_fnB jc_lenD rfl m_len PySem.boot_len (ja_c (je_fld (jv 1)) ja_nil)) je_int (nomark _)) (je_one (je_not (je_fnB (jc_any_vals rfl) rfl m_any PyProof.Rows.boot_any (ja_c (je_bm0 PySem.F.plainAttrs_dict PySem.F.slot_dict_values PySem.F.type_dict_values jm_vals (je_fld (jv 1))) ja_nil))))) ja_nil)))),?_⟩
  refine ⟨_,rfl,a.h,a.dx,_,rfl,hA.o,rfl,_,rfl,ixT hp (atI_nat (j:=1) rfl) ⟨a,g,s,x,rfl,hA,hL,fun s1 e1 H1 k1 hA1=>?_,fun e=>(hF fun s1 z=>by rw [e] at z; cases z).mk⟩⟩
  have hF1:clean s1=false->ErrU uh E a.own H1 g:=fun c=>(hF fun s2 z=>by rw [e1] at z; cases z; exact c).at k1 fun _ z=>z
  refine ⟨_,rfl,a.h,a.dx,_,rfl,hA1.o,rfl,_,rfl,a.h,cH,a.dx,_,_,rfl,hA1.o,T.cl,T.nt,rfl,a.dt,_,rfl,hA1.t,rfl,_,rfl,?_⟩
  rw [em_len]
  by_cases c:s1.ts.length=0
  · have ct:s1.ts=[]:=List.length_eq_zero_iff.mp c
    rw [decide_eq_true (congrArg V.int (by lia))]
    refine iteT ⟨_,rfl,a.h,cH,a.dx,_,_,rfl,hA1.o,T.cl,T.nn,rfl,.inr (.inr (.inl ⟨rfl,.inl ⟨_,hA1.n⟩⟩)),a.dn,_,rfl,rfl,hA1.n,fun pv hpv=>?_⟩
    have s2:=same_new hpv (.ext fun h=>h.IsValuesView pv a.dn)
    have hA2:=hA1.same s2
    have v2:=upd_same (H:=H1) (a:=pv) (o:=.ext fun h=>h.IsValuesView pv a.dn)
    generalize upd H1 pv (.ext fun h=>h.IsValuesView pv a.dn)=H2 at *
    refine ⟨pv,a.dn,s1.ns.map fun q=>(.inr q.1,q.2),rfl,v2,by rw [List.map_map]; exact hA2.n,_,rfl,?_⟩
    rw [List.any_map]
    have ec:clean s1=!(s1.ns.any ((·.2) ∘ fun q=>((.inr q.1:Key),q.2))):=by
      unfold clean
      rw [ct]
      rfl
    refine ⟨a,g,s1,_,rfl,hA2,fun hb=>?_,fun hb=>?_⟩
    · exact hT s1 e1 (by rw [ec]; exact hb) H2 (k1.trans (.of s2)) hA2
    · exact ((hF1 (by rw [ec]; exact hb)).at (.of s2) fun _ z=>z).mk
  · rw [decide_eq_false (fun z=>c (by have:=V.int.inj z; lia))]
    refine iteF ?_
    refine ⟨a,g,s1,_,rfl,hA1,(fun hb=>by cases hb),fun hb=>(hF1 ?_).mk⟩
    unfold clean
    cases h:s1.ts with
    | nil=>rw [h] at c; exact absurd rfl c
    | cons _ _=>rfl
theorem scCkArm:FnScope ["name","arm","hand","part"] ["name","arm","hand"] (defScope sCkArm):=⟨rfl,rfl,rfl,by decide +kernel,rfl,by decide +kernel,by decide +kernel⟩
theorem bindAll_snoc:∀ (l:List Str) (x:Str) (s:Hs),bindAll (l ++ [x]) s=(bindAll l s).bind (bindN x)
  | [],x,s=>by
    show (bindN x s).bind (fun s=>some s)=bindN x s
    cases bindN x s <;> rfl
  | y :: l,x,s=>by
    show (bindN y s).bind (bindAll (l ++ [x]))=((bindN y s).bind (bindAll l)).bind (bindN x)
    cases bindN y s with
    | none=>rfl
    | some s1=>exact bindAll_snoc l x s1
theorem bindAll_none {l:List Str} {s:Hs} {i:Nat} (h:bindAll (l.take i) s=none):bindAll l s=none:=by
  rw [<- List.take_append_drop i l]
  generalize l.drop i=r
  generalize l.take i=l' at *
  induction r generalizing l' with
  | nil=>rw [List.append_nil]; exact h
  | cons x r ih =>
    have:=ih (l':=l' ++ [x]) (by rw [bindAll_snoc,h]; rfl)
    rwa [List.append_assoc] at this
theorem HandAt.tup {H H':Hp} {a:Ha} {g:Str} {s:Hs} {p:Addr} {xs:List V} (h:HandAt cH H a g s) (k:KpS a.own H H') (hp:H p=some (.tup xs)):H' p=some (.tup xs):=k _ _ (fun z=>z.elim (fun e=>by rw [e,h.n] at hp; cases hp) fun e=>by rw [e,h.t] at hp; cases hp) hp
theorem HandAt.tups {H H':Hp} {a:Ha} {g:Str} {s:Hs} (h:HandAt cH H a g s) (k:KpS a.own H H'):Tups H H':=fun p xs hp=>h.tup k hp
theorem cut1R {a u:TS} {D:Ends} {σ:St} {H:Hp} (R:St->Hp->Prop) (fin:∀ σ' H',R σ' H'->u D σ' H') (key:∀ (v:TS) (D':Ends),D'.rt=D.rt->(∀ σ' H',R σ' H'->v D' σ' H')->(tSeq a v:TS) D' σ H):(tSeq a u:TS) D σ H:=key u D rfl fin
theorem ok_arm (F:Fun K "check_arm" "check_arm" sCkArm f fd) (T:TH K cH) (GI:Me P w K mg base (CXf P w) 3 cH "insist" ["self","fits"] (spInsist cH uh)) (GU:Me P w K mg base (CXf P w) 4 cH "use_up" ["self","name"] (spChg cH uh useUp)) (GB:Me P w K mg base (CXf P w) 4 cH "bind" ["self","name"] (spChg cH uh bindN)) (GK:Me P w K mg base (CXf P w) 4 cH "keep" ["self","token","many"] (spKeep cH uh)) (m_len:mg "len"=none):FnOk P w K mg base (CXf P w) 5 f fd ["name","arm","hand"] (spArm cH uh):=by
  refine F.byx scCkArm (fun vs H Q E h=>?_) (fun cdv A' outer s H vs Q E hr h=>?_)
  · obtain ⟨p,q,x,t,m,k,ns,v,a,g,s,rfl,_⟩:=h
    rfl
  obtain ⟨p,r,x,t,m,k,ns,v,a,g,s,rfl,hp,hq,hA,hL,hL2,hT,hF⟩:=h
  have hr3:Room 3 _:=hr.mono (by decide)
  refine ⟨_,
    (jss_cons (js_if (jt_cmpR jo_eq (je_ix jx_tup (jv 1) je_int (fun _ _=>rfl)) je_str (nomark _))
      (jss_one (js_expr (je_me (jv 2) T.cl GU hr passx (ja_c (jv 0) ja_nil)))) jss_nil)
    (jss_cons (js_for ownx rfl (ji_tup (je_ix jx_tup (jv 1) je_int (fun _ _=>rfl))) (jg_name (i:=3) scCkArm.nd rfl (Or.inl rfl))
      (jss_one (js_expr (je_me (jv 2) T.cl GB hr passx (ja_c (jv 3) ja_nil)))))
    (jss_one (js_if (jt_cmpR jo_ne (je_ix jx_tup (jv 1) je_int (fun _ _=>rfl)) je_str (nomark _))
      (jss_cons (js_expr (je_me (jv 2) T.cl GI hr3 passx (ja_c (je_and (je_cmpR jo_eq (je_ix jx_tup (jv 1) je_int (fun _ _=>rfl)) je_str (nomark _)) (je_one (je_cmpR jo_gt (je_fnB jc_len_seq rfl m_len PySem.boot_len (ja_c (je_ix jx_tup (jv 1) je_int (fun _ _=>rfl)) ja_nil)) je_int (nomark _)))) ja_nil)))
      (jss_one (js_expr (je_me (jv 2) T.cl GK hr passx (ja_c (je_ix jx_tup (jv 1) je_int (fun _ _=>rfl)) (ja_c (je_fnB jc_len_seq rfl m_len PySem.boot_len (ja_c (je_ix jx_tup (jv 1) je_int (fun _ _=>rfl)) ja_nil)) ja_nil)))))) jss_nil)))),?_⟩
  have sl:=line0
  have tk:∀ {c:Bool},c=decide (m="take")->decide (V.str m=V.str "take")=c:=fun e=>by
    rw [e]
    by_cases c:m="take"
    · rw [decide_eq_true c,decide_eq_true (congrArg V.str c)]
    · rw [decide_eq_false c,decide_eq_false fun z=>c (V.str.inj z)]
  refine cut1R (fun σ' H'=>∃ s1,σ'=[some (.str x),some (.ref p),some (.ref a.h),none]/\KpS a.own H H'/\HandAt cH H' a g s1/\(if m="take" then useUp x s else some s)=some s1) ?fin ?key
  case key =>
    intro u Dn _ fin
    refine ⟨_,rfl,ixT hp (atI_nat (j:=2) rfl) ⟨rfl,_,rfl,?_⟩⟩
    rw [tk rfl]
    by_cases c:m="take"
    · rw [decide_eq_true c]
      refine iteT ⟨_,rfl,a.h,a.dx,_,rfl,hA.o,rfl,_,rfl,a,g,s,x,rfl,hA,by lia,fun s1 e1 H1 k1 hA1=>?_,fun e=>(hF ?_).mk⟩
      · exact fin _ _ ⟨s1,rfl,k1,hA1,by rw [if_pos c]; exact e1⟩
      · unfold armC
        rw [if_pos c,e]
        rfl
    · rw [decide_eq_false c]
      exact iteF (nxtC (fin _ _ ⟨s,rfl,.refl,hA,if_neg c⟩))
  case fin =>
  rintro σ' H1 ⟨s1,rfl,k1,hA1,e1⟩
  have hF1:bindAll ns s1=none->ErrU uh E a.own H g:=fun e=>hF (by unfold armC; rw [e1,Option.bind_some,e]; rfl)
  have l1:s1.ns.length<=s.ns.length/\s1.ts=s.ts:=by
    split at e1
    · exact useUp_len e1
    · cases e1; exact ⟨Nat.le_refl _,rfl⟩
  have hp1:=hA.tup k1 hp
  have hq1:=hA.tup k1 hq
  refine ⟨_,rfl,ixT hp1 (atI_nat (j:=1) rfl) ⟨r,rfl,⟨_,SqT.of hq1⟩,for_tup (xs:=ns.map V.str) (fun i σ H'=>∃ s2 y,σ=[some (.str x),some (.ref p),some (.ref a.h),y]/\KpS a.own H H'/\HandAt cH H' a g s2/\bindAll (ns.take i) s1=some s2/\s2.ns.length=s1.ns.length + (ns.take i).length/\s2.ts=s1.ts) ⟨s1,none,rfl,k1,hA1,rfl,rfl,rfl⟩ (fun i σ H' _ h=>?_) ?_ ?_⟩⟩
  · obtain ⟨_,_,_,k2,_⟩:=h
    exact SqT.of (hA.tup k2 hq)
  · rintro i y σ H2 hy ⟨s2,z,rfl,k2,hA2,e2,l2,t2⟩
    rw [List.getElem?_map] at hy
    obtain ⟨n,hn,rfl⟩:=Option.map_eq_some_iff.mp hy
    have hi:=(List.getElem?_eq_some_iff.mp hn).1
    have tn:ns.take (i + 1)=ns.take i ++ [n]:=by
      rw [List.take_succ,hn]
      rfl
    have lt:(ns.take i).length=i:=by rw [List.length_take]; lia
    refine ⟨_,rfl,a.h,a.dx,_,rfl,hA2.o,rfl,_,rfl,a,g,s2,n,rfl,hA2,by lia,fun s3 e3 H3 k3 hA3=>?_,fun e=>?_⟩
    · obtain ⟨l3,t3⟩:=bindN_len e3
      refine ⟨s3,_,rfl,k2.trans k3,hA3,by rw [tn,bindAll_snoc,e2]; exact e3,?_,by rw [t3,t2]⟩
      rw [tn,List.length_append,List.length_singleton]
      lia
    · exact ((hF1 (bindAll_none (i:=i + 1) (by rw [tn,bindAll_snoc,e2]; exact e))).at k2 fun _ z=>z).mk
  · rintro σ H2 ⟨s2,z,rfl,k2,hA2,e2,l2,t2⟩
    rw [List.length_map,List.take_of_length_le (Nat.le_refl _)] at e2 l2
    have hp2:=hA.tup k2 hp
    have hq2:=hA.tup k2 hq
    have eC:armC x ns m k s=if k="" then some s2 else if m="take"/\0 < ns.length then keepT k ((ns.length:Nat):Int) s2 else none:=by
      unfold armC
      rw [e1,Option.bind_some,e2,Option.bind_some]
    have ll:(ns.map V.str).length=ns.length:=List.length_map _
    refine ⟨_,rfl,ixT hp2 (atI_nat (j:=3) rfl) ⟨rfl,_,rfl,?_⟩⟩
    by_cases ck:k=""
    · rw [decide_eq_true (congrArg V.str ck)]
      exact iteF (nxtC (hT s2 (by rw [eC,if_pos ck]) H2 k2 hA2))
    · rw [decide_eq_false fun z=>ck (V.str.inj z)]
      rw [if_neg ck] at eC
      refine iteT ⟨_,rfl,a.h,a.dx,_,rfl,hA2.o,rfl,_,rfl,ixT hp2 (atI_nat (j:=2) rfl) ⟨rfl,_,rfl,?_⟩⟩
      rw [tk rfl]
      by_cases cm:m="take"
      · rw [decide_eq_true cm]
        refine iteT ⟨_,rfl,ixT hp2 (atI_nat (j:=1) rfl) ⟨r,_,rfl,.inr (SqT.of hq2),_,_,rfl,rfl,a,g,s2,_,rfl,hA2,fun hb=>?_,fun hb=>?_⟩⟩
        · rw [decide_eq_true_eq,ll] at hb
          rw [if_pos ⟨cm,by lia⟩] at eC
          refine ⟨_,rfl,a.h,a.dx,_,rfl,hA2.o,rfl,_,rfl,ixT hp2 (atI_nat (j:=3) rfl) ⟨_,rfl,ixT hp2 (atI_nat (j:=1) rfl) ⟨r,_,rfl,.inr (SqT.of hq2),?_⟩⟩⟩
          rw [ll]
          refine ⟨a,g,s2,k,_,rfl,hA2,by rw [t2,l1.2]; exact hL2,fun s3 e3 H3 k3 hA3=>hT s3 (by rw [eC]; exact e3) H3 (k2.trans k3) hA3,fun e=>((hF (by rw [eC]; exact e)).at k2 fun _ z=>z).mk⟩
        · rw [decide_eq_false_iff_not,ll] at hb
          exact ((hF (by rw [eC,if_neg (fun z=>hb (by lia))])).at k2 fun _ z=>z).mk
      · rw [decide_eq_false cm]
        refine iteF ⟨a,g,s2,_,rfl,hA2,(fun hb=>by cases hb),fun hb=>?_⟩
        exact ((hF (by rw [eC,if_neg (fun z=>cm z.1)])).at k2 fun _ z=>z).mk
end
end GN
namespace GN
open PySem L2 K11
def spDeed (cH uh:Addr):Sp:=fun vs H Q E=>∃ (od p:Addr) (d:Dd) (ow:Ow) (a:Ha) (g:Str) (s:Hs),vs=[.ref od,.ref p,.ref a.h]/\IsDd H d p/\(namesD d).length<=1000/\OwAt H od ow/\OkD ow d/\HandAt cH H a g s/\¬ a.own od/\s.ns.length < 1000000/\(∀ s1,deedC ow d s=some s1->∀ H',KpS a.own H H'->HandAt cH H' a g s1->Q .non H')/\(deedC ow d s=none->ErrU uh E a.own H g)
def useOne (q:Str × Bool) (s:Hs):Option Hs:=if q.2=true then useUp q.1 s else some s
theorem useAll_cons (q:Str × Bool) (l:List (Str × Bool)) (s:Hs):useAll (q :: l) s=(useOne q s).bind (useAll l):=by
  obtain ⟨x,b⟩:=q
  cases b <;> rfl
theorem useAll_snoc:∀ (l:List (Str × Bool)) (q:Str × Bool) (s:Hs),useAll (l ++ [q]) s=(useAll l s).bind (useOne q)
  | [],q,s=>by
    rw [List.nil_append,useAll_cons]
    show (useOne q s).bind (fun s=>some s)=useOne q s
    cases useOne q s <;> rfl
  | y :: l,q,s=>by
    rw [List.cons_append,useAll_cons,useAll_cons]
    cases useOne y s with
    | none=>rfl
    | some s1=>exact useAll_snoc l q s1
theorem useAll_none {l:List (Str × Bool)} {s:Hs} {i:Nat} (h:useAll (l.take i) s=none):useAll l s=none:=by
  rw [<- List.take_append_drop i l]
  generalize l.drop i=r
  generalize l.take i=l' at *
  induction r generalizing l' with
  | nil=>rw [List.append_nil]; exact h
  | cons x r ih =>
    have:=ih (l':=l' ++ [x]) (by rw [useAll_snoc,h]; rfl)
    rwa [List.append_assoc] at this
def lookOne (q:Str × Bool) (s:Hs):Bool:=q.2 || lookAt q.1 s
theorem lookAll_eq:∀ (l:List (Str × Bool)) (s:Hs),lookAll l s=l.all fun q=>lookOne q s
  | [],s=>rfl
  | (x,true) :: l,s=>by
    show lookAll l s=_
    rw [lookAll_eq l s]
    rfl
  | (x,false) :: l,s=>by
    show (lookAt x s && lookAll l s)=_
    rw [lookAll_eq l s]
    rfl
theorem rest_tag {H:Hp} {d:Dd} {p:Addr} (ow:Ow) (h:IsDd H d p):∃ (tg:Str) (xs:List V),H p=some (.tup (.str tg :: xs))/\((tg="func"/\∃ g ns,d=.fn g ns/\xs[0]?=some (.str g))\/(tg="make"/\∃ t ns k q,d=.mk t ns k/\xs=[.str t,.ref q,.str k]/\H q=some (.tup (ns.map V.str)))\/(tg≠"func"/\tg≠"make"/\∀ s,restD ow d s=some s)):=by
  cases d with
  | num i=>exact ⟨_,_,h,.inr (.inr ⟨by decide,by decide,fun _=>rfl⟩)⟩
  | op o a b=>exact ⟨_,_,h,.inr (.inr ⟨by decide,by decide,fun _=>rfl⟩)⟩
  | mk t ns k=>obtain ⟨r,h1,h2⟩:=h; exact ⟨_,_,h1,.inr (.inl ⟨rfl,t,ns,k,r,rfl,rfl,h2⟩)⟩
  | call g ns=>obtain ⟨r,h1,h2⟩:=h; exact ⟨_,_,h1,.inr (.inr ⟨by decide,by decide,fun _=>rfl⟩)⟩
  | fn g ns=>obtain ⟨r,h1,h2⟩:=h; exact ⟨_,_,h1,.inl ⟨rfl,g,ns,rfl,rfl⟩⟩
  | ask g ns=>obtain ⟨r,h1,h2⟩:=h; exact ⟨_,_,h1,.inr (.inr ⟨by decide,by decide,fun _=>rfl⟩)⟩
theorem strd (a b:Str):decide (V.str a=V.str b)=decide (a=b):=by
  by_cases c:a=b
  · rw [decide_eq_true c,decide_eq_true (congrArg V.str c)]
  · rw [decide_eq_false c,decide_eq_false fun z=>c (V.str.inj z)]
section
variable {P:Program} {w:World} {K:PySem.W.Frag} {mg:Str->Option Value} {base:Heap} {f R C cH uh:Addr} {fd:FuncData}
theorem scCkDeed:FnScope ["owns","deed","hand","ends","name","end"] ["owns","deed","hand"] (defScope sCkDeed):=⟨rfl,rfl,rfl,by decide +kernel,rfl,by decide +kernel,by decide +kernel⟩
theorem ok_ckdeed (F:Fun K "check_deed" "check_deed" sCkDeed f fd) (T:TH K cH) (GN':Ca P w K mg base CX0 1 "names_of" ["deed"] spNamesOf) (GD:Ca P w K mg base CX0 2 "used_up" ["deed","owns"] spUsedUp) (GI:Me P w K mg base (CXf P w) 3 cH "insist" ["self","fits"] (spInsist cH uh)) (GU:Me P w K mg base (CXf P w) 4 cH "use_up" ["self","name"] (spChg cH uh useUp)) (GL:Me P w K mg base (CXf P w) 4 cH "look_at" ["self","name"] (spLook cH uh)) (GT:Me P w K mg base (CXf P w) 4 cH "use_up_token" ["self","token"] (spUseT cH uh))
    (m_len:mg "len"=none) (m_list:mg "list"=none) (m_zip:mg "zip"=none) (m_all:mg "all"=none):FnOk P w K mg base (CXf P w) 5 f fd ["owns","deed","hand"] (spDeed cH uh):=by
  refine F.byx scCkDeed (fun vs H Q E h=>?_) (fun cdv A' outer s H vs Q E hr h=>?_)
  · obtain ⟨od,p,d,ow,a,g,s,rfl,_⟩:=h
    rfl
  obtain ⟨od,p,d,ow,a,g,s,rfl,hI,hl,hO,hok,hA,hno,hL,hT,hF⟩:=h
  have hr3:Room 3 _:=hr.mono (by decide)
  have hr2:Room 2 _:=hr.mono (by decide)
  have hr1:Room 1 _:=hr.mono (by decide)
  refine ⟨_,
    (jss_cons (js_set (i:=3) scCkDeed.nd rfl (Or.inl rfl) (je_zipL rfl rfl m_list rfl m_zip (ja_c (je_ca GN' hr1 rfl pass0 (ja_c (jv 1) ja_nil)) (ja_c (je_ca GD hr2 rfl pass0 (ja_c (jv 1) (ja_c (jv 0) ja_nil))) ja_nil))))
    (jss_cons (js_for ownx rfl (ji_list (jv 3)) (jg_tup rfl (jgs_cons (jg_name (i:=4) scCkDeed.nd rfl (Or.inl rfl)) (jgs_cons (jg_name (i:=5) scCkDeed.nd rfl (Or.inl rfl)) jgs_nil)))
      (jss_one (js_if (jt_val (jv 5))
        (jss_one (js_expr (je_me (jv 2) T.cl GU hr passx (ja_c (jv 4) ja_nil)))) jss_nil)))
    (jss_cons (js_for ownx rfl (ji_list (jv 3)) (jg_tup rfl (jgs_cons (jg_name (i:=4) scCkDeed.nd rfl (Or.inl rfl)) (jgs_cons (jg_name (i:=5) scCkDeed.nd rfl (Or.inl rfl)) jgs_nil)))
      (jss_one (js_if (jt_not (jt_val (jv 5)))
        (jss_one (js_expr (je_me (jv 2) T.cl GL hr passx (ja_c (jv 4) ja_nil)))) jss_nil)))
    (jss_cons (js_if (jt_cmpR jo_eq (je_ix jx_tup (jv 1) je_int (fun _ _=>rfl)) je_str (nomark _))
      (jss_one (js_expr (je_me (jv 2) T.cl GI hr3 passx (ja_c (je_fnB (jc_all_boolsT rfl) rfl m_all PyProof.Rows.boot_all (ja_c (je_dget hr (jv 0) (je_ix jx_tup (jv 1) je_int (fun _ _=>rfl))) ja_nil)) ja_nil)))) jss_nil)
    (jss_one (js_if (jW.pt (jw_and (jt_cmpR jo_eq (je_ix jx_tup (jv 1) je_int (fun _ _=>rfl)) je_str (nomark _)) (jw_and1 (jt_cmpR jo_ne (je_ix jx_tup (jv 1) je_int (fun _ _=>rfl)) je_str (nomark _)))))
      (jss_one (js_expr (je_me (jv 2) T.cl GI hr3 passx (ja_c (je_cmpR jo_eq (je_me (jv 2) T.cl GT hr passx (ja_c (je_ix jx_tup (jv 1) je_int (fun _ _=>rfl)) ja_nil)) (je_fnB jc_len_seq rfl m_len PySem.boot_len (ja_c (je_ix jx_tup (jv 1) je_int (fun _ _=>rfl)) ja_nil)) (nomark _)) ja_nil)))) jss_nil)))))),?_⟩
  have sl:=line0
  refine ⟨_,rfl,p,d,rfl,hI,hl,fun H1 r1 s1 h1=>⟨_,rfl,_,rfl,p,od,d,ow,rfl,hI.keep (.of s1),hl,hO.same s1,hok,fun H2 r2 s2 h2=>?_⟩⟩
  refine ⟨r1,r2,(namesD d).map V.str,(usedD ow d).map V.bl,rfl,.inr (SqT.of (s2 _ _ h1)),.inr (SqT.of h2),fun H3 pl ps s3 _ hpl hps _ _ hpt=>?_⟩
  generalize hes:(namesD d).zip (usedD ow d)=es at *
  have lps:ps.length=es.length:=by rw [hps,<- hes,List.length_zip,List.length_map,List.length_map]
  have pt:∀ (i:Nat) (t:Addr),ps[i]?=some t->∃ e:Str × Bool,es[i]?=some e/\H3 t=some (.tup [.str e.1,.bl e.2]):=fun i t ht=>by
    have hi:i < es.length:=by rw [<- lps]; exact (List.getElem?_eq_some_iff.mp ht).1
    obtain ⟨e,he⟩:∃ e,es[i]?=some e:=⟨_,List.getElem?_eq_getElem hi⟩
    have he2:((namesD d).zip (usedD ow d))[i]?=some e:=by rw [hes]; exact he
    rw [List.getElem?_zip_eq_some] at he2
    obtain ⟨t',h1',h2'⟩:=hpt i (.str e.1) (.bl e.2) (by rw [List.getElem?_map,he2.1]; rfl) (by rw [List.getElem?_map,he2.2]; rfl)
    rw [ht] at h1'
    cases h1'
    exact ⟨_,he,h2'⟩
  have s03:=(s1.trans s2).trans s3
  have hA3:=hA.same s03
  have hI3:=hI.keep (.of s03)
  have hO3:=hO.same s03
  have hF3:deedC ow d s=none->ErrU uh E a.own H3 g:=fun e=>(hF e).at (.of s03) fun _ z=>z
  have hT3:∀ st,deedC ow d s=some st->∀ H',KpS a.own H3 H'->HandAt cH H' a g st->Q .non H':=fun st e H' k=>hT st e H' ((KpS.of s03).trans k)
  clear hF hT hI hO hA s1 s2 s3 s03 h1 h2 hpt hps hl
  have lst:∀ {H':Hp},KpS a.own H3 H'->H' pl=some (.lst (ps.map V.ref)):=fun k=>k _ _ (fun z=>z.elim (fun e=>by rw [e,hA3.n] at hpl; cases hpl) fun e=>by rw [e,hA3.t] at hpl; cases hpl) hpl
  have eD:deedC ow d s=(useAll es s).bind fun s1=>if lookAll es s1=true then restD ow d s1 else none:=by unfold deedC; rw [hes]
  dsimp only
  refine ⟨_,rfl,⟨_,rfl,⟨_,SqL.of hpl⟩,for_list (xs:=ps.map V.ref) (fun i σ H'=>∃ s1 x y,σ=[some (.ref od),some (.ref p),some (.ref a.h),some (.ref pl),x,y]/\KpS a.own H3 H'/\HandAt cH H' a g s1/\useAll (es.take i) s=some s1/\s1.ns.length<=s.ns.length) ⟨s,none,none,rfl,.refl,hA3,rfl,Nat.le_refl _⟩ (fun i σ H' _ h=>?_) ?_ ?_⟩⟩
  · obtain ⟨_,_,_,_,k,_⟩:=h
    exact SqL.of (lst k)
  · rintro i v σ H4 hv ⟨s4,x,y,rfl,k4,hA4,e4,l4⟩
    rw [List.getElem?_map] at hv
    obtain ⟨t,ht,rfl⟩:=Option.map_eq_some_iff.mp hv
    obtain ⟨e,he,ht3⟩:=pt i t ht
    have tn:es.take (i + 1)=es.take i ++ [e]:=by rw [List.take_succ,he]; rfl
    refine ⟨_,_,rfl,SqT.of (hA3.tup k4 ht3),rfl,_,_,rfl,_,_,rfl,rfl,?_⟩
    refine ⟨_,rfl,_,rfl,?_⟩
    obtain ⟨n,b⟩:=e
    cases b with
    | true =>
      refine iteT ⟨_,rfl,a.h,a.dx,_,rfl,hA4.o,rfl,_,rfl,a,g,s4,n,rfl,hA4,by lia,fun s5 e5 H5 k5 hA5=>?_,fun er=>?_⟩
      · exact ⟨s5,_,_,rfl,k4.trans k5,hA5,by rw [tn,useAll_snoc,e4]; exact e5,Nat.le_trans (useUp_len e5).1 l4⟩
      · refine ((hF3 ?_).at k4 fun _ z=>z).mk
        rw [eD,useAll_none (i:=i + 1) (by rw [tn,useAll_snoc,e4]; exact er)]
        rfl
    | false =>
      refine iteF (nxtC ?_)
      exact ⟨s4,_,_,rfl,k4,hA4,by rw [tn,useAll_snoc,e4]; rfl,l4⟩
  rintro σ H4 ⟨s1,x,y,rfl,k4,hA4,e4,l4⟩
  rw [List.length_map,lps,List.take_of_length_le (Nat.le_refl _)] at e4
  rw [e4,Option.bind_some] at eD
  refine ⟨_,rfl,⟨_,rfl,⟨_,SqL.of (lst k4)⟩,for_list (xs:=ps.map V.ref) (fun i σ H'=>H4=H'/\(∃ x y,σ=[some (.ref od),some (.ref p),some (.ref a.h),some (.ref pl),x,y])/\∀ q∈es.take i,lookOne q s1=true) ⟨rfl,⟨_,_,rfl⟩,fun q hq=>by simp at hq⟩ (fun i σ H' _ h=>h.1 ▸ SqL.of (lst k4)) ?_ ?_⟩⟩
  · rintro i v σ H5 hv ⟨rfl,⟨x,y,rfl⟩,hall⟩
    rw [List.getElem?_map] at hv
    obtain ⟨t,ht,rfl⟩:=Option.map_eq_some_iff.mp hv
    obtain ⟨e,he,ht3⟩:=pt i t ht
    have tn:es.take (i + 1)=es.take i ++ [e]:=by rw [List.take_succ,he]; rfl
    have go:lookOne e s1=true->∀ q∈es.take (i + 1),lookOne q s1=true:=fun h q hq=>by
      rw [tn] at hq
      rcases List.mem_append.mp hq with z | z
      · exact hall q z
      · rw [List.mem_singleton.mp z]
        exact h
    refine ⟨_,_,rfl,SqT.of (hA3.tup k4 ht3),rfl,_,_,rfl,_,_,rfl,rfl,?_⟩
    refine ⟨_,rfl,_,rfl,?_⟩
    obtain ⟨n,b⟩:=e
    cases b with
    | true=>exact iteF (nxtC ⟨rfl,⟨_,_,rfl⟩,go rfl⟩)
    | false =>
      refine iteT ⟨_,rfl,a.h,a.dx,_,rfl,hA4.o,rfl,_,rfl,a,g,s1,n,rfl,hA4,fun hb=>⟨rfl,⟨_,_,rfl⟩,go hb⟩,fun hb=>?_⟩
      refine ((hF3 ?_).at k4 fun _ z=>z).mk
      rw [eD,if_neg (fun z=>?_)]
      rw [lookAll_eq,List.all_eq_true] at z
      have:=z (n,false) (List.mem_of_getElem? he)
      rw [show lookOne (n,false) s1=lookAt n s1 from rfl,hb] at this
      cases this
  rintro σ H5 ⟨rfl,⟨x,y,rfl⟩,hall⟩
  rw [List.length_map,lps,List.take_of_length_le (Nat.le_refl _)] at hall
  rw [if_pos (by rw [lookAll_eq,List.all_eq_true]; exact hall)] at eD
  obtain ⟨tg,xs,h0,hc⟩:=rest_tag ow (hI3.keep (hA3.tups k4))
  dsimp only
  refine cut1R (fun σ' H'=>σ'=[some (.ref od),some (.ref p),some (.ref a.h),some (.ref pl),x,y]/\H'=H4/\(tg="make"\/restD ow d s1=some s1)) ?fin ?key
  case key =>
    intro u Dn _ fin
    refine ⟨_,rfl,ixT h0 (atI_nat (j:=0) rfl) ⟨rfl,_,rfl,?_⟩⟩
    rw [strd]
    rcases hc with ⟨rfl,g',ns,rfl,hg⟩ | ⟨rfl,_⟩ | ⟨h1,h2,h3⟩
    · obtain ⟨kvs,o1,o2⟩:=hO3.keep (H':=H4) fun b o hb q=>by
        rcases hb with rfl | ⟨xs,rfl⟩
        · exact k4 _ _ hno q
        · exact hA3.tup k4 q
      obtain ⟨bs,hbs⟩:=hok
      obtain ⟨r,v1,v2⟩:=o2 g' bs hbs
      refine iteT ⟨_,rfl,a.h,a.dx,_,rfl,hA4.o,rfl,_,rfl,_,rfl,ixT h0 (atI_nat (j:=1) (by rw [List.getElem?_cons_succ]; exact hg)) ⟨od,.ref r,rfl,by rw [<- v1]; exact DGet.k (k:=.inr g') o1,r,bs,rfl,v2,a,g,s1,_,rfl,hA4,fun hb=>?_,fun hb=>?_⟩⟩
      · refine fin _ _ ⟨rfl,rfl,.inr ?_⟩
        show (if ((look ow g').getD []).all id=true then some s1 else none)=_
        rw [hbs]
        exact if_pos hb
      · refine ((hF3 ?_).at k4 fun _ z=>z).mk
        rw [eD]
        show (if ((look ow g').getD []).all id=true then some s1 else none)=_
        rw [hbs]
        exact if_neg (fun z=>by rw [show (some bs).getD []=bs from rfl] at z; rw [z] at hb; cases hb)
    · exact iteF (nxtC (fin _ _ ⟨rfl,rfl,.inl rfl⟩))
    · rw [decide_eq_false h1]
      exact iteF (nxtC (fin _ _ ⟨rfl,rfl,.inr (h3 s1)⟩))
  case fin =>
  rintro σ' H6 ⟨rfl,rfl,hm⟩
  refine ⟨_,rfl,ixT h0 (atI_nat (j:=0) rfl) ⟨rfl,_,rfl,?_⟩⟩
  rw [strd]
  by_cases cm:tg="make"
  · rcases hc with ⟨rfl,_⟩ | ⟨_,t,ns,k,q,rfl,rfl,hq⟩ | ⟨_,h2,_⟩
    · exact absurd cm (by decide)
    · subst cm
      refine iteT ⟨_,rfl,ixT h0 (atI_nat (j:=3) rfl) ⟨rfl,_,rfl,?_⟩⟩
      rw [strd]
      by_cases ck:k=""
      · rw [decide_eq_true ck]
        refine iteF (nxtC (hT3 s1 ?_ _ k4 hA4))
        rw [eD]
        exact if_pos ck
      · rw [decide_eq_false ck]
        have eR:deedC ow (.mk t ns k) s=(useT k s1).bind fun p=>if p.1=((ns.length:Nat):Int) then some p.2 else none:=by
          rw [eD]
          exact if_neg ck
        refine iteT ⟨_,rfl,a.h,a.dx,_,rfl,hA4.o,rfl,_,rfl,a.h,a.dx,_,rfl,hA4.o,rfl,_,rfl,ixT h0 (atI_nat (j:=3) rfl) ⟨a,g,s1,k,rfl,hA4,fun st e5 H5 k5 hA5=>?_,fun e=>?_⟩⟩
        · rw [e5,Option.bind_some] at eR
          have h05:=hA4.tup k5 h0
          have hq5:=hA4.tup k5 hq
          refine ⟨_,rfl,ixT h05 (atI_nat (j:=2) rfl) ⟨q,_,rfl,.inr (SqT.of hq5),rfl,?_⟩⟩
          rw [List.length_map]
          refine ⟨a,g,st.2,_,rfl,hA5,fun hb=>?_,fun hb=>?_⟩
          · refine hT3 st.2 ?_ _ (k4.trans k5) hA5
            rw [eR,if_pos (V.int.inj (of_decide_eq_true hb))]
          · refine ((hF3 ?_).at (k4.trans k5) fun _ z=>z).mk
            rw [eR,if_neg (fun z=>of_decide_eq_false hb (congrArg V.int z))]
        · refine ((hF3 ?_).at k4 fun _ z=>z).mk
          rw [eR,e]
          rfl
    · exact absurd cm h2
  · rw [decide_eq_false cm]
    have hr1:restD ow d s1=some s1:=hm.resolve_left cm
    exact iteF (iteF (nxtC (hT3 s1 (by rw [eD]; exact hr1) _ k4 hA4)))
end
end GN
namespace GN
open PySem L2 K11
mutual
def Bd.wt:Bd->Nat
  | .give _=>0
  | .lt _ _ b=>b.wt + 1
  | .hold _ _ b=>b.wt + 1
  | .drop _ b=>b.wt
  | .loose _ b=>b.wt
  | .iff _ b c=>b.wt + c.wt
  | .cs _ as=>as.wt
def Arms.wt:Arms->Nat
  | .nil=>0
  | .cons _ ns _ _ b r=>ns.length + 1 + b.wt + r.wt
end
structure ArmR where
  t:Str
  ns:List Str
  m:Str
  k:Str
  b:Bd
def Arms.l:Arms->List ArmR
  | .nil=>[]
  | .cons t ns m k b r=>⟨t,ns,m,k,b⟩ :: r.l
mutual
def OkBd (ow:Ow):Bd->Prop
  | .give _=>True
  | .lt _ d b=>(namesD d).length<=1000/\OkD ow d/\OkBd ow b
  | .hold _ _ b=>OkBd ow b
  | .drop _ b=>OkBd ow b
  | .loose _ b=>OkBd ow b
  | .iff _ b c=>OkBd ow b/\OkBd ow c
  | .cs _ as=>as.l.length<=1000/\OkAs ow as
def OkAs (ow:Ow):Arms->Prop
  | .nil=>True
  | .cons _ _ _ _ b r=>OkBd ow b/\OkAs ow r
end
def armsCL (x:Str):List ArmR->Hs->Option (List (Bd × Hs))
  | [],_=>some []
  | q :: r,s=>(armC x q.ns q.m q.k s).bind fun s1=>(armsCL x r s).map fun l=>(q.b,s1) :: l
theorem armsC_l {x:Str} {s:Hs}:∀ {as:Arms},armsC x as s=armsCL x as.l s
  | .nil=>rfl
  | .cons t ns m k b r=>by
    show (armC x ns m k s).bind _=(armC x ns m k s).bind _
    rw [armsC_l (as:=r)]
theorem armsCL_snoc {x:Str} {s:Hs}:∀ (l:List ArmR) (q:ArmR),armsCL x (l ++ [q]) s=(armsCL x l s).bind fun r=>(armC x q.ns q.m q.k s).map fun s1=>r ++ [(q.b,s1)]
  | [],q=>by
    show (armC x q.ns q.m q.k s).bind (fun s1=>some [(q.b,s1)])=(armC x q.ns q.m q.k s).map _
    cases armC x q.ns q.m q.k s <;> rfl
  | y :: l,q=>by
    rw [List.cons_append,armsCL,armsCL,armsCL_snoc l q]
    cases armC x y.ns y.m y.k s with
    | none=>rfl
    | some s1 =>
      dsimp only [Option.bind_some]
      cases armsCL x l s with
      | none=>rfl
      | some r =>
        dsimp only [Option.bind_some,Option.map_some]
        cases armC x q.ns q.m q.k s <;> rfl
theorem armsCL_none {x:Str} {s:Hs} {l:List ArmR} {i:Nat} (h:armsCL x (l.take i) s=none):armsCL x l s=none:=by
  rw [<- List.take_append_drop i l]
  generalize l.drop i=r
  generalize l.take i=l' at *
  induction r generalizing l' with
  | nil=>rw [List.append_nil]; exact h
  | cons y r ih =>
    have:=ih (l':=l' ++ [y]) (by rw [armsCL_snoc,h]; rfl)
    rwa [List.append_assoc] at this
theorem Arms.l_wt:∀ {as:Arms} {q:ArmR},q∈as.l->q.ns.length + 1 + q.b.wt<=as.wt
  | .nil,q,h=>by cases h
  | .cons t ns m k b r,q,h=>by
    rw [Arms.wt]
    rcases List.mem_cons.mp h with e | e
    · rw [e]
      dsimp only
      lia
    · have:=Arms.l_wt e
      lia
theorem IsArms.len {H:Hp}:∀ {as:Arms} {ts:List Addr},IsArms H as ts->ts.length=as.l.length
  | .nil,ts,h=>by
    have h:ts=[]:=h
    rw [h]
    rfl
  | .cons t ns m k b r,ts,h=>by
    obtain ⟨p,q,s,ts',rfl,_,_,_,h⟩:=h
    rw [List.length_cons,IsArms.len h]
    rfl
theorem IsArms.get {H:Hp}:∀ {as:Arms} {ts:List Addr} {i:Nat} {t:Addr},IsArms H as ts->ts[i]?=some t->∃ (q:ArmR) (p s:Addr),as.l[i]?=some q/\H t=some (.tup [.str q.t,.ref p,.str q.m,.str q.k,.ref s])/\H p=some (.tup (q.ns.map V.str))/\IsBd H q.b s
  | .nil,ts,i,t,h,e=>by
    have h:ts=[]:=h
    rw [h] at e
    simp at e
  | .cons tg ns m k b r,ts,i,t,h,e=>by
    obtain ⟨p,q,s,ts',rfl,h1,h2,h3,h4⟩:=h
    cases i with
    | zero =>
      simp at e
      subst e
      exact ⟨⟨tg,ns,m,k,b⟩,q,s,rfl,h1,h2,h3⟩
    | succ i =>
      obtain ⟨q',p',s',g1,g2⟩:=IsArms.get (i:=i) h4 (by simpa using e)
      exact ⟨q',p',s',by simpa [Arms.l] using g1,g2⟩
structure En where
  t:Addr
  p:Addr
  b:Bd
  a:Ha
  s:Hs
structure EnAt (cH:Addr) (H:Hp) (g:Str) (e:En):Prop where
  t:H e.t=some (.tup [.ref e.p,.ref e.a.h])
  b:IsBd H e.b e.p
  a:HandAt cH H e.a g e.s
theorem EnAt.same {cH:Addr} {H H':Hp} {g:Str} {e:En} (h:EnAt cH H g e) (k:Same H H'):EnAt cH H' g e:=⟨k _ _ h.t,h.b.keep (.of k),h.a.same k⟩
theorem EnAt.putL {cH:Addr} {H:Hp} {g:Str} {e:En} {w:Addr} {xs ys:List V} (h:EnAt cH H g e) (hw:H w=some (.lst xs)):EnAt cH (upd H w (.lst ys)) g e :=
  ⟨by rw [upd_ne (ne_of h.t hw (by intro z; cases z))]; exact h.t,h.b.keep fun p xs q=>by rw [upd_ne (ne_of q hw (by intro z; cases z))]; exact q,h.a.keep fun b o hb q=>by
    rw [upd_ne (fun z=>?_)]
    · exact q
    · rw [z] at hb
      rcases hb with e | e | e
      · rw [e,h.a.o] at hw; cases hw
      · rw [e,h.a.n] at hw; cases hw
      · rw [e,h.a.t] at hw; cases hw⟩
def En.fp (e:En):List Addr:=[e.a.dn,e.a.dt]
structure Ens (cH:Addr) (H:Hp) (g:Str) (es:List En):Prop where
  at_:∀ e∈es,EnAt cH H g e
  nd:(es.flatMap En.fp).Nodup
theorem Ens.same {cH:Addr} {H H':Hp} {g:Str} {es:List En} (h:Ens cH H g es) (k:Same H H'):Ens cH H' g es:=⟨fun e he=>(h.at_ e he).same k,h.nd⟩
theorem Ens.putL {cH:Addr} {H:Hp} {g:Str} {es:List En} {w:Addr} {xs ys:List V} (h:Ens cH H g es) (hw:H w=some (.lst xs)):Ens cH (upd H w (.lst ys)) g es:=⟨fun e he=>(h.at_ e he).putL hw,h.nd⟩
theorem Ens.in_ {cH:Addr} {H:Hp} {g:Str} {es:List En} (h:Ens cH H g es) {b:Addr} (hb:b∈es.flatMap En.fp):∃ o,H b=some o:=by
  obtain ⟨e,he,hm⟩:=List.mem_flatMap.mp hb
  unfold En.fp at hm
  simp only [List.mem_cons,List.not_mem_nil,or_false] at hm
  rcases hm with z | z
  · rw [z]; exact ⟨_,(h.at_ e he).a.n⟩
  · rw [z]; exact ⟨_,(h.at_ e he).a.t⟩
theorem Ens.snoc {cH:Addr} {H:Hp} {g:Str} {es:List En} {e:En} (h:Ens cH H g es) (he:EnAt cH H g e) (hn:∀ b∈e.fp,b ∉ es.flatMap En.fp):Ens cH H g (es ++ [e]):=by
  refine ⟨fun x hx=>?_,?_⟩
  · rcases List.mem_append.mp hx with z | z
    · exact h.at_ x z
    · rw [List.mem_singleton.mp z]
      exact he
  · rw [List.flatMap_append,List.nodup_append]
    refine ⟨h.nd,?_,fun a ha b hb=>?_⟩
    · rw [List.flatMap_cons,List.flatMap_nil,List.append_nil]
      unfold En.fp
      simp [he.a.ne]
    · rw [List.flatMap_cons,List.flatMap_nil,List.append_nil] at hb
      exact fun z=>hn b hb (z ▸ ha)
def spCase (cH uh:Addr):Sp:=fun vs H Q E=>∃ (p q:Addr) (ts:List Addr) (x:Str) (as:Arms) (a:Ha) (g:Str) (s:Hs),vs=[.ref p,.ref a.h]/\H p=some (.tup [.str "case",.str x,.ref q])/\H q=some (.tup (ts.map V.ref))/\IsArms H as ts/\ts.length<=1000/\HandAt cH H a g s/\s.ns.length + s.ts.length + as.wt < 1000000 /\
  (∀ l,pc [] (.cs x as) s=some l->∀ (H':Hp) (r:Addr) (es:List En),Same H H'->H r=none->H' r=some (.lst (es.map fun e=>.ref e.t))->Ens cH H' g es->es.map (fun e=>(e.b,e.s))=l->(∀ e∈es,New H e.a)->Q (.ref r) H')/\(pc [] (.cs x as) s=none->ErrU uh E (fun _=>False) H g)
section
variable {P:Program} {w:World} {K:PySem.W.Frag} {mg:Str->Option Value} {base:Heap} {f R C cH uh:Addr} {fd:FuncData}
theorem scCkCase:FnScope ["body","hand","within","arm","there"] ["body","hand"] (defScope sCkCase):=⟨rfl,rfl,rfl,by decide +kernel,rfl,by decide +kernel,by decide +kernel⟩
theorem ok_ckcase (F:Fun K "check_case" "check_case" sCkCase f fd) (T:TH K cH) (GL:Me P w K mg base (CXf P w) 4 cH "look_at" ["self","name"] (spLook cH uh)) (GC:Ca P w K mg base CX0 3 "copied" ["hand"] (spCopied cH)) (GA:Ca P w K mg base (CXf P w) 5 "check_arm" ["name","arm","hand"] (spArm cH uh)):FnOk P w K mg base (CXf P w) 6 f fd ["body","hand"] (spCase cH uh):=by
  refine F.byx scCkCase (fun vs H Q E h=>?_) (fun cdv A' outer s H vs Q E hr h=>?_)
  · obtain ⟨p,q,ts,x,as,a,g,s,rfl,_⟩:=h
    rfl
  obtain ⟨p,q0,ts,x,as,a,g,s,rfl,hp,hq,hI,ht1,hA,hL,hT,hF⟩:=h
  have hr4:Room 4 _:=hr.mono (by decide)
  have hr3:Room 3 _:=hr.mono (by decide)
  refine ⟨_,
    (jss_cons (js_expr (je_me (jv 1) T.cl GL hr4 passx (ja_c (je_ix jx_tup (jv 0) je_int (fun _ _=>rfl)) ja_nil)))
    (jss_cons (js_set (i:=2) scCkCase.nd rfl (Or.inl rfl) (je_lst ja_nil))
    (jss_cons (js_for ownx rfl (ji_tup (je_ix jx_tup (jv 0) je_int (fun _ _=>rfl))) (jg_name (i:=3) scCkCase.nd rfl (Or.inl rfl))
      (jss_cons (js_set (i:=4) scCkCase.nd rfl (Or.inl rfl) (je_ca GC hr3 rfl pass0 (ja_c (jv 1) ja_nil)))
      (jss_cons (js_expr (je_ca GA hr rfl passx (ja_c (je_ix jx_tup (jv 0) je_int (fun _ _=>rfl)) (ja_c (jv 3) (ja_c (jv 4) ja_nil)))))
      (jss_one (js_expr (je_bm PySem.F.plainAttrs_list PySem.F.slot_list_append PySem.F.type_list_append jm_append (jv 2) (ja_c (je_tup (ja_c (je_ix jx_tup (jv 3) je_int (fun _ _=>rfl)) (ja_c (jv 4) ja_nil))) ja_nil)))))))
    (jss_one (js_ret (jv 2)))))),?_⟩
  have sl:=line0
  have tl:=hI.len
  refine ⟨_,rfl,a.h,a.dx,_,rfl,hA.o,rfl,_,rfl,ixT hp (atI_nat (j:=1) rfl) ⟨a,g,s,x,rfl,hA,fun hb=>?_,fun hb=>hF (by rw [pc,if_neg (by rw [hb]; decide)])⟩⟩
  have ePc:pc [] (.cs x as) s=armsCL x as.l s:=by rw [pc,if_pos hb,armsC_l]
  rw [ePc] at hT hF
  refine ⟨by show 0<=sizeLine; decide,fun lw hlw=>?_⟩
  have s1:=same_new hlw (.lst [])
  have w1:=upd_same (H:=H) (a:=lw) (o:=.lst [])
  dsimp only
  generalize upd H lw (.lst [])=H1 at *
  refine ⟨_,rfl,ixT (s1 _ _ hp) (atI_nat (j:=2) rfl) ⟨q0,rfl,⟨_,SqT.of (s1 _ _ hq)⟩,for_tup (xs:=ts.map V.ref) (fun i σ H'=>∃ es y z,σ=[some (.ref p),some (.ref a.h),some (.ref lw),y,z]/\Same H H'/\H' lw=some (.lst (es.map fun e=>.ref e.t))/\Ens cH H' g es/\armsCL x (as.l.take i) s=some (es.map fun e=>(e.b,e.s))/\(∀ e∈es,New H e.a)/\es.length=i) ⟨[],none,none,rfl,s1,w1,⟨(fun e he=>by cases he),List.nodup_nil⟩,rfl,(fun e he=>by cases he),rfl⟩ (fun i σ H' _ h=>?_) ?_ ?_⟩⟩
  · obtain ⟨_,_,_,_,k,_⟩:=h
    exact SqT.of (k _ _ hq)
  · rintro i v σ H2 hv ⟨es,y,z,rfl,s2,w2,hE2,e2,n2,el⟩
    rw [List.getElem?_map] at hv
    obtain ⟨t,ht,rfl⟩:=Option.map_eq_some_iff.mp hv
    have hi:=(List.getElem?_eq_some_iff.mp ht).1
    obtain ⟨q,pn,ps,hq1,hq2,hq3,hq4⟩:=hI.get ht
    have tn:as.l.take (i + 1)=as.l.take i ++ [q]:=by rw [List.take_succ,hq1]; rfl
    have hwt:=Arms.l_wt (List.mem_of_getElem? hq1)
    refine ⟨_,rfl,a,g,s,rfl,hA.same s2,fun H3 a3 s3 n3 hA3=>?_⟩
    have s03:=s2.trans s3
    refine ⟨_,rfl,ixT (s03 _ _ hp) (atI_nat (j:=1) rfl) ⟨_,rfl,_,rfl,t,pn,x,q.t,q.m,q.k,q.ns,.ref ps,a3,g,s,rfl,s03 _ _ hq2,s03 _ _ hq3,hA3,by lia,by lia,fun s4 e4 H4 k4 hA4=>?_,fun e=>?_⟩⟩
    · have s24:Same H2 H4:=fun b o hb=>k4 _ _ (fun z=>z.elim (fun e=>by rw [e,n3.n] at hb; cases hb) fun e=>by rw [e,n3.t] at hb; cases hb) (s3 _ _ hb)
      have s04:=s2.trans s24
      have w4:=s24 _ _ w2
      have hE4:=hE2.same s24
      refine ⟨_,rfl,.inl ⟨rfl,_,SqL.of w4⟩,_,rfl,ixT (s04 _ _ hq2) (atI_nat (j:=4) rfl) ⟨_,rfl,by show 2<=sizeLine; decide,fun p5 hp5=>?_⟩⟩
      have s5:=same_new hp5 (.tup [.ref ps,.ref a3.h])
      have w5:=s5 _ _ w4
      have hE5:=hE4.same s5
      have hA5:=hA4.same s5
      have t5:=upd_same (H:=H4) (a:=p5) (o:=.tup [.ref ps,.ref a3.h])
      have b5:=hq4.keep (.of (s04.trans s5))
      generalize upd H4 p5 (.tup [.ref ps,.ref a3.h])=H5 at *
      refine ⟨lw,_,_,rfl,rfl,w5,by rw [List.length_map]; lia,?_⟩
      have hEn:EnAt cH H5 g ⟨p5,ps,q.b,a3,s4⟩:=⟨t5,b5,hA5⟩
      have hEs:Ens cH H5 g (es ++ [⟨p5,ps,q.b,a3,s4⟩]):=hE5.snoc hEn fun b hb hm=>by
        obtain ⟨o,ho⟩:=hE2.in_ hm
        unfold En.fp at hb
        simp only [List.mem_cons,List.not_mem_nil,or_false] at hb
        rcases hb with e | e
        · rw [e,n3.n] at ho; cases ho
        · rw [e,n3.t] at ho; cases ho
      have fr:∀ {c:Addr},H2 c=none->H c=none:=fun {c} h=>s2.free h
      refine ⟨es ++ [⟨p5,ps,q.b,a3,s4⟩],_,_,rfl,(s04.trans s5).put hlw,by rw [upd_same,List.map_append]; rfl,hEs.putL w5,?_,?_,by rw [List.length_append,el]; rfl⟩
      · rw [tn,armsCL_snoc,e2,Option.bind_some,e4,List.map_append]
        rfl
      · intro e he
        rcases List.mem_append.mp he with z | z
        · exact n2 e z
        · rw [List.mem_singleton.mp z]
          exact ⟨fr n3.h,fr n3.n,fr n3.t⟩
    · have hn:armsCL x as.l s=none:=armsCL_none (i:=i + 1) (by rw [tn,armsCL_snoc,e2,Option.bind_some,e]; rfl)
      refine fun d H' k' hd=>hF hn d H' (fun b o _ hb=>?_) hd
      exact k' _ _ (fun z=>z.elim (fun e=>by rw [e,s2.free n3.n] at hb; cases hb) fun e=>by rw [e,s2.free n3.t] at hb; cases hb) (s03 _ _ hb)
  · rintro σ H2 ⟨es,y,z,rfl,s2,w2,hE2,e2,n2,el⟩
    rw [List.length_map,tl,List.take_of_length_le (Nat.le_refl _)] at e2
    exact ⟨_,rfl,hT _ e2 H2 lw es s2 hlw w2 hE2 rfl n2⟩
end
end GN
namespace GN
open PySem L2 K11
def spPiece (cH uh:Addr):Sp:=fun vs H Q E=>∃ (od p:Addr) (b:Bd) (ow:Ow) (a:Ha) (g:Str) (s:Hs),vs=[.ref od,.ref p,.ref a.h]/\IsBd H b p/\OwAt H od ow/\OkBd ow b/\HandAt cH H a g s/\¬ a.own od/\s.ns.length + s.ts.length + b.wt < 1000000 /\
  (∀ l,pc ow b s=some l->∀ (H':Hp) (r:Addr) (es:List En),KpS a.own H H'->H r=none->H' r=some (.lst (es.map fun e=>.ref e.t))->Ens cH H' g es->es.map (fun e=>(e.b,e.s))=l->(∀ e∈es,e.a=a\/New H e.a)->Q (.ref r) H')/\(pc ow b s=none->ErrU uh E a.own H g)
theorem KpS.free {S:Addr->Prop} {H H':Hp} {c:Addr} (k:KpS S H H') (n:¬ S c) (h:H' c=none):H c=none:=by
  cases z:H c with
  | none=>rfl
  | some o=>rw [k _ _ n z] at h; cases h
theorem HandAt.no {cH:Addr} {H:Hp} {a:Ha} {g:Str} {s:Hs} (h:HandAt cH H a g s) {c:Addr} (hc:H c=none):¬ a.own c:=fun z=>z.elim (fun e=>by rw [e,h.n] at hc; cases hc) fun e=>by rw [e,h.t] at hc; cases hc
theorem ens_one {cH:Addr} {H:Hp} {g:Str} {e:En} (h:EnAt cH H g e):Ens cH H g [e]:=(⟨(fun e he=>by cases he),List.nodup_nil⟩:Ens cH H g []).snoc h fun b _ hm=>by cases hm
theorem useAll_len:∀ {l:List (Str × Bool)} {s s':Hs},useAll l s=some s'->s'.ns.length<=s.ns.length/\s'.ts=s.ts
  | [],s,s',h=>by cases h; exact ⟨Nat.le_refl _,rfl⟩
  | (x,true) :: r,s,s',h=>by
    obtain ⟨s1,h1,h2⟩:=Option.bind_eq_some_iff.mp (show (useUp x s).bind (useAll r)=some s' from h)
    have a:=useUp_len h1
    have b:=useAll_len h2
    exact ⟨Nat.le_trans b.1 a.1,by rw [b.2,a.2]⟩
  | (x,false) :: r,s,s',h=>useAll_len (l:=r) h
theorem useT_len {t:Str} {s:Hs} {p:Int × Hs} (h:useT t s=some p):p.2.ns=s.ns/\p.2.ts.length<=s.ts.length:=by
  unfold useT at h
  obtain ⟨n,_,rfl⟩:=Option.map_eq_some_iff.mp h
  exact ⟨rfl,List.length_filter_le _ _⟩
theorem restD_len {ow:Ow} {d:Dd} {s s':Hs} (h:restD ow d s=some s'):s'.ns.length<=s.ns.length/\s'.ts.length<=s.ts.length:=by
  cases d with
  | fn g ns =>
    have h:(if ((look ow g).getD []).all id=true then some s else none)=some s':=h
    split at h
    · cases h; exact ⟨Nat.le_refl _,Nat.le_refl _⟩
    · cases h
  | mk t ns k =>
    have h:(if k="" then some s else (useT k s).bind fun p=>if p.1=((ns.length:Nat):Int) then some p.2 else none)=some s':=h
    split at h
    · cases h; exact ⟨Nat.le_refl _,Nat.le_refl _⟩
    · obtain ⟨p,h1,h2⟩:=Option.bind_eq_some_iff.mp h
      split at h2
      · cases h2
        have:=useT_len h1
        exact ⟨by rw [this.1]; exact Nat.le_refl _,this.2⟩
      · cases h2
  | num i=>cases h; exact ⟨Nat.le_refl _,Nat.le_refl _⟩
  | op _ _ _=>cases h; exact ⟨Nat.le_refl _,Nat.le_refl _⟩
  | call _ _=>cases h; exact ⟨Nat.le_refl _,Nat.le_refl _⟩
  | ask _ _=>cases h; exact ⟨Nat.le_refl _,Nat.le_refl _⟩
theorem deedC_len {ow:Ow} {d:Dd} {s s':Hs} (h:deedC ow d s=some s'):s'.ns.length<=s.ns.length/\s'.ts.length<=s.ts.length:=by
  unfold deedC at h
  obtain ⟨s1,h1,h2⟩:=Option.bind_eq_some_iff.mp h
  split at h2
  · have a:=useAll_len h1
    have b:=restD_len h2
    rw [a.2] at b
    exact ⟨Nat.le_trans b.1 a.1,b.2⟩
  · cases h2
section
variable {P:Program} {w:World} {K:PySem.W.Frag} {mg:Str->Option Value} {base:Heap} {f R C cH uh:Addr} {fd:FuncData}
theorem scCkPiece:FnScope ["owns","body","hand"] ["owns","body","hand"] (defScope sCkPiece):=⟨rfl,rfl,rfl,by decide +kernel,rfl,by decide +kernel,by decide +kernel⟩
theorem ok_ckpiece (F:Fun K "check_piece" "check_piece" sCkPiece f fd) (T:TH K cH) (GC:Ca P w K mg base (CXf P w) 6 "check_case" ["body","hand"] (spCase cH uh)) (GL:Me P w K mg base (CXf P w) 4 cH "look_at" ["self","name"] (spLook cH uh)) (GCo:Ca P w K mg base CX0 3 "copied" ["hand"] (spCopied cH)) (GG:Ca P w K mg base (CXf P w) 5 "check_give" ["body","hand"] (spGive cH uh)) (GD:Ca P w K mg base (CXf P w) 5 "check_deed" ["owns","deed","hand"] (spDeed cH uh))
    (GB:Me P w K mg base (CXf P w) 4 cH "bind" ["self","name"] (spChg cH uh bindN)) (GU:Me P w K mg base (CXf P w) 4 cH "use_up" ["self","name"] (spChg cH uh useUp)) (GT:Me P w K mg base (CXf P w) 4 cH "use_up_token" ["self","token"] (spUseT cH uh)):FnOk P w K mg base (CXf P w) 7 f fd ["owns","body","hand"] (spPiece cH uh):=by
  refine F.byx scCkPiece (fun vs H Q E h=>?_) (fun cdv A' outer s H vs Q E hr h=>?_)
  · obtain ⟨od,p,b,ow,a,g,s,rfl,_⟩:=h
    rfl
  obtain ⟨od,p,b,ow,a,g,s,rfl,hI,hO,hok,hA,hno,hL,hT,hF⟩:=h
  have hr5:Room 5 _:=hr.mono (by decide)
  have hr4:Room 4 _:=hr.mono (by decide)
  have hr3:Room 3 _:=hr.mono (by decide)
  refine ⟨_,
    (jss_cons (js_if (jt_cmpR jo_eq (je_ix jx_tup (jv 1) je_int (fun _ _=>rfl)) je_str (nomark _))
      (jss_one (js_ret (je_ca GC hr rfl passx (ja_c (jv 1) (ja_c (jv 2) ja_nil))))) jss_nil)
    (jss_cons (js_if (jt_cmpR jo_eq (je_ix jx_tup (jv 1) je_int (fun _ _=>rfl)) je_str (nomark _))
      (jss_cons (js_expr (je_me (jv 2) T.cl GL hr4 passx (ja_c (je_ix jx_tup (jv 1) je_int (fun _ _=>rfl)) ja_nil)))
      (jss_one (js_ret (je_lst (ja_c (je_tup (ja_c (je_ix jx_tup (jv 1) je_int (fun _ _=>rfl)) (ja_c (jv 2) ja_nil))) (ja_c (je_tup (ja_c (je_ix jx_tup (jv 1) je_int (fun _ _=>rfl)) (ja_c (je_ca GCo hr3 rfl pass0 (ja_c (jv 2) ja_nil)) ja_nil))) ja_nil)))))) jss_nil)
    (jss_cons (js_if (jt_cmpR jo_eq (je_ix jx_tup (jv 1) je_int (fun _ _=>rfl)) je_str (nomark _))
      (jss_cons (js_expr (je_ca GG hr5 rfl passx (ja_c (jv 1) (ja_c (jv 2) ja_nil))))
      (jss_one (js_ret (je_lst ja_nil)))) jss_nil)
    (jss_cons (js_if (jt_cmpR jo_eq (je_ix jx_tup (jv 1) je_int (fun _ _=>rfl)) je_str (nomark _))
      (jss_cons (js_expr (je_ca GD hr5 rfl passx (ja_c (jv 0) (ja_c (je_ix jx_tup (jv 1) je_int (fun _ _=>rfl)) (ja_c (jv 2) ja_nil)))))
      (jss_one (js_expr (je_me (jv 2) T.cl GB hr4 passx (ja_c (je_ix jx_tup (jv 1) je_int (fun _ _=>rfl)) ja_nil)))))
      (jss_one (js_if (jt_cmpR jo_eq (je_ix jx_tup (jv 1) je_int (fun _ _=>rfl)) je_str (nomark _))
        (jss_cons (js_expr (je_me (jv 2) T.cl GL hr4 passx (ja_c (je_ix jx_tup (jv 1) je_int (fun _ _=>rfl)) ja_nil)))
        (jss_one (js_expr (je_me (jv 2) T.cl GB hr4 passx (ja_c (je_ix jx_tup (jv 1) je_int (fun _ _=>rfl)) ja_nil)))))
        (jss_one (js_if (jt_cmpR jo_eq (je_ix jx_tup (jv 1) je_int (fun _ _=>rfl)) je_str (nomark _))
          (jss_one (js_expr (je_me (jv 2) T.cl GU hr4 passx (ja_c (je_ix jx_tup (jv 1) je_int (fun _ _=>rfl)) ja_nil))))
          (jss_one (js_expr (je_me (jv 2) T.cl GT hr4 passx (ja_c (je_ix jx_tup (jv 1) je_int (fun _ _=>rfl)) ja_nil)))))))))
    (jss_one (js_ret (je_lst (ja_c (je_tup (ja_c (je_ix jx_tup (jv 1) (je_neg je_int) (fun _ _=>rfl)) (ja_c (jv 2) ja_nil))) ja_nil)))))))),?_⟩
  have sl:=line0
  cases b with
  | cs x as =>
    obtain ⟨q,ts,h1,h2,h3⟩:=hI
    have tl:=h3.len
    have ep:pc ow (.cs x as) s=pc [] (.cs x as) s:=by rw [pc,pc]
    refine ⟨_,rfl,ixT h1 (atI_nat (j:=0) rfl) ⟨rfl,_,rfl,iteT ⟨_,rfl,_,rfl,p,q,ts,x,as,a,g,s,rfl,h1,h2,h3,by rw [tl]; exact hok.1,hA,hL,fun l e H' r es s' fr hr' hE em' hn=>?_,fun e=>(hF (by rw [ep]; exact e)).mk⟩⟩⟩
    exact hT l (by rw [ep]; exact e) H' r es (.of s') fr hr' hE em' fun e he=>.inr (hn e he)
  | iff x b c =>
    obtain ⟨q,r,h1,h2,h3⟩:=hI
    refine ⟨_,rfl,ixT h1 (atI_nat (j:=0) rfl) ⟨rfl,_,rfl,iteF (nxtC ?_)⟩⟩
    refine ⟨_,rfl,ixT h1 (atI_nat (j:=0) rfl) ⟨rfl,_,rfl,iteT ⟨_,rfl,a.h,a.dx,_,rfl,hA.o,rfl,_,rfl,ixT h1 (atI_nat (j:=1) rfl) ⟨a,g,s,x,rfl,hA,fun hb=>?_,fun hb=>(hF (by rw [pc,if_neg (by rw [hb]; decide)])).mk⟩⟩⟩⟩
    refine ⟨_,rfl,ixT h1 (atI_nat (j:=2) rfl) ⟨_,rfl,by show 2<=sizeLine; decide,fun p1 hp1=>?_⟩⟩
    have s1:=same_new hp1 (.tup [.ref q,.ref a.h])
    have t1:=upd_same (H:=H) (a:=p1) (o:=.tup [.ref q,.ref a.h])
    generalize upd H p1 (.tup [.ref q,.ref a.h])=H1 at *
    refine ⟨_,rfl,ixT (s1 _ _ h1) (atI_nat (j:=3) rfl) ⟨_,rfl,a,g,s,rfl,hA.same s1,fun H2 a2 s2 n2 hA2=>⟨by show 2<=sizeLine; decide,fun p3 hp3=>⟨by show 2<=sizeLine; decide,fun pl hpl=>?_⟩⟩⟩⟩
    have s3:=(s1.trans s2).new (o:=.tup [.ref r,.ref a2.h]) hp3
    have s4:=s3.new (o:=.lst [.ref p1,.ref p3]) hpl
    have t3:=old (o:=.lst [.ref p1,.ref p3]) hpl (upd_same (H:=H2) (a:=p3) (o:=.tup [.ref r,.ref a2.h]))
    have t4:=old (o:=.lst [.ref p1,.ref p3]) hpl (old (o:=.tup [.ref r,.ref a2.h]) hp3 (s2 _ _ t1))
    have hA2':=(hA2.same (same_new hp3 (.tup [.ref r,.ref a2.h]))).same (same_new hpl (.lst [.ref p1,.ref p3]))
    have eA:EnAt cH (upd (upd H2 p3 (.tup [.ref r,.ref a2.h])) pl (.lst [.ref p1,.ref p3])) g ⟨p1,q,b,a,s⟩:=⟨t4,h2.keep (.of s4),hA.same s4⟩
    have eB:EnAt cH (upd (upd H2 p3 (.tup [.ref r,.ref a2.h])) pl (.lst [.ref p1,.ref p3])) g ⟨p3,r,c,a2,s⟩:=⟨t3,h3.keep (.of s4),hA2'⟩
    refine hT [(b,s),(c,s)] (by rw [pc,if_pos hb]) _ pl [⟨p1,q,b,a,s⟩,⟨p3,r,c,a2,s⟩] (.of s4) (s3.free hpl) upd_same ((ens_one eA).snoc eB fun x hx hm=>?_) rfl fun e he=>?_
    · rw [List.flatMap_cons,List.flatMap_nil,List.append_nil] at hm
      unfold En.fp at hx hm
      simp only [List.mem_cons,List.not_mem_nil,or_false] at hx hm
      have hx1:H1 x=none:=by
        rcases hx with e | e
        · rw [e]; exact n2.n
        · rw [e]; exact n2.t
      rcases hm with e | e
      · rw [e,s1 _ _ hA.n] at hx1; cases hx1
      · rw [e,s1 _ _ hA.t] at hx1; cases hx1
    · simp only [List.mem_cons,List.not_mem_nil,or_false] at he
      rcases he with e | e
      · rw [e]; exact .inl rfl
      · rw [e]; exact .inr ⟨s1.free n2.h,s1.free n2.n,s1.free n2.t⟩
  | give x =>
    have h1:H p=_:=hI
    refine ⟨_,rfl,ixT h1 (atI_nat (j:=0) rfl) ⟨rfl,_,rfl,iteF (nxtC ?_)⟩⟩
    refine ⟨_,rfl,ixT h1 (atI_nat (j:=0) rfl) ⟨rfl,_,rfl,iteF (nxtC ?_)⟩⟩
    refine ⟨_,rfl,ixT h1 (atI_nat (j:=0) rfl) ⟨rfl,_,rfl,iteT ⟨_,rfl,_,rfl,p,x,a,g,s,rfl,h1,hA,by lia,fun s1 e1 c H1 k1 hA1=>⟨by show 0<=sizeLine; decide,fun r hr'=>?_⟩,fun hn=>hF ?_⟩⟩⟩
    · refine hT [] (by rw [pc,e1,Option.bind_some,if_pos c]) _ r [] (k1.trans (.of (same_new hr' _))) ?_ upd_same ⟨(fun e he=>by cases he),List.nodup_nil⟩ rfl (fun e he=>by cases he)
      exact k1.free (hA1.no hr') hr'
    · rw [pc]
      cases c:useUp x s with
      | none=>rfl
      | some s1 =>
        rw [Option.bind_some,if_neg]
        rw [hn s1 c]
        decide
  | lt x d b =>
    obtain ⟨q,r,h1,h2,h3⟩:=hI
    obtain ⟨o1,o2,o3⟩:=hok
    rw [Bd.wt] at hL
    refine ⟨_,rfl,ixT h1 (atI_nat (j:=0) rfl) ⟨rfl,_,rfl,iteF (nxtC ?_)⟩⟩
    refine ⟨_,rfl,ixT h1 (atI_nat (j:=0) rfl) ⟨rfl,_,rfl,iteF (nxtC ?_)⟩⟩
    refine ⟨_,rfl,ixT h1 (atI_nat (j:=0) rfl) ⟨rfl,_,rfl,iteF (nxtC ?_)⟩⟩
    dsimp only
    refine cut1R (fun σ' H'=>∃ s2,σ'=[some (.ref od),some (.ref p),some (.ref a.h)]/\KpS a.own H H'/\HandAt cH H' a g s2/\pc ow (.lt x d b) s=some [(b,s2)]) ?fin ?key
    case fin =>
      rintro σ' H1 ⟨s2,rfl,k1,hA1,e1⟩
      have hp1:=hA.tup k1 h1
      refine ⟨_,rfl,_,rfl,p,_,_,_,rfl,rfl,SqT.of hp1,rfl,_,rfl,by show 2<=sizeLine; decide,fun p2 hp2=>⟨by show 1<=sizeLine; decide,fun pl hpl=>?_⟩⟩
      have s2':=(same_new hp2 (.tup [.ref r,.ref a.h])).new (o:=.lst [.ref p2]) hpl
      have t2:=old (o:=.lst [.ref p2]) hpl (upd_same (H:=H1) (a:=p2) (o:=.tup [.ref r,.ref a.h]))
      refine hT _ e1 _ pl [⟨p2,r,b,a,s2⟩] (k1.trans (.of s2')) ?_ upd_same (ens_one ⟨t2,(h3.keep (hA.tups k1)).keep (.of s2'),hA1.same s2'⟩) rfl fun e he=>.inl (by rw [List.mem_singleton.mp he])
      exact k1.free (fun z=>by
        have f:=(same_new hp2 (.tup [.ref r,.ref a.h])).free hpl
        exact hA1.no f z) ((same_new hp2 (.tup [.ref r,.ref a.h])).free hpl)
    case key =>
    intro u Dn _ fin
    refine ⟨_,rfl,ixT h1 (atI_nat (j:=0) rfl) ⟨rfl,_,rfl,iteT ⟨_,rfl,_,rfl,ixT h1 (atI_nat (j:=2) rfl) ⟨_,rfl,od,q,d,ow,a,g,s,rfl,h2,o1,hO,o2,hA,hno,by lia,fun s1 e1 H1 k1 hA1=>?_,fun e=>hF (by rw [pc,e]; rfl)⟩⟩⟩⟩
    have l1:=deedC_len e1
    refine ⟨_,rfl,a.h,a.dx,_,rfl,hA1.o,rfl,_,rfl,ixT (hA.tup k1 h1) (atI_nat (j:=1) rfl) ⟨a,g,s1,x,rfl,hA1,by lia,fun s2 e2 H2 k2 hA2=>fin _ _ ⟨s2,rfl,k1.trans k2,hA2,by rw [pc,e1,Option.bind_some,e2]; rfl⟩,fun e=>?_⟩⟩
    exact ((hF (by rw [pc,e1,Option.bind_some,e]; rfl)).at k1 fun _ z=>z).mk
  | hold x y b =>
    obtain ⟨r,h1,h3⟩:=hI
    rw [Bd.wt] at hL
    refine ⟨_,rfl,ixT h1 (atI_nat (j:=0) rfl) ⟨rfl,_,rfl,iteF (nxtC ?_)⟩⟩
    refine ⟨_,rfl,ixT h1 (atI_nat (j:=0) rfl) ⟨rfl,_,rfl,iteF (nxtC ?_)⟩⟩
    refine ⟨_,rfl,ixT h1 (atI_nat (j:=0) rfl) ⟨rfl,_,rfl,iteF (nxtC ?_)⟩⟩
    dsimp only
    refine cut1R (fun σ' H'=>∃ s2,σ'=[some (.ref od),some (.ref p),some (.ref a.h)]/\KpS a.own H H'/\HandAt cH H' a g s2/\pc ow (.hold x y b) s=some [(b,s2)]) ?fin ?key
    case fin =>
      rintro σ' H1 ⟨s2,rfl,k1,hA1,e1⟩
      have hp1:=hA.tup k1 h1
      refine ⟨_,rfl,_,rfl,p,_,_,_,rfl,rfl,SqT.of hp1,rfl,_,rfl,by show 2<=sizeLine; decide,fun p2 hp2=>⟨by show 1<=sizeLine; decide,fun pl hpl=>?_⟩⟩
      have s2':=(same_new hp2 (.tup [.ref r,.ref a.h])).new (o:=.lst [.ref p2]) hpl
      have t2:=old (o:=.lst [.ref p2]) hpl (upd_same (H:=H1) (a:=p2) (o:=.tup [.ref r,.ref a.h]))
      refine hT _ e1 _ pl [⟨p2,r,b,a,s2⟩] (k1.trans (.of s2')) ?_ upd_same (ens_one ⟨t2,(h3.keep (hA.tups k1)).keep (.of s2'),hA1.same s2'⟩) rfl fun e he=>.inl (by rw [List.mem_singleton.mp he])
      exact k1.free (fun z=>by
        have f:=(same_new hp2 (.tup [.ref r,.ref a.h])).free hpl
        exact hA1.no f z) ((same_new hp2 (.tup [.ref r,.ref a.h])).free hpl)
    case key =>
    intro u Dn _ fin
    refine ⟨_,rfl,ixT h1 (atI_nat (j:=0) rfl) ⟨rfl,_,rfl,iteF ?_⟩⟩
    refine ⟨_,rfl,ixT h1 (atI_nat (j:=0) rfl) ⟨rfl,_,rfl,iteT ⟨_,rfl,a.h,a.dx,_,rfl,hA.o,rfl,_,rfl,ixT h1 (atI_nat (j:=2) rfl) ⟨a,g,s,y,rfl,hA,fun hb=>?_,fun hb=>(hF (by rw [pc,if_neg (by rw [hb]; decide)])).mk⟩⟩⟩⟩
    refine ⟨_,rfl,a.h,a.dx,_,rfl,hA.o,rfl,_,rfl,ixT h1 (atI_nat (j:=1) rfl) ⟨a,g,s,x,rfl,hA,by lia,fun s2 e2 H2 k2 hA2=>fin _ _ ⟨s2,rfl,k2,hA2,by rw [pc,if_pos hb,e2]; rfl⟩,fun e=>?_⟩⟩
    exact (hF (by rw [pc,if_pos hb,e]; rfl)).mk
  | drop x b =>
    obtain ⟨r,h1,h3⟩:=hI
    rw [Bd.wt] at hL
    refine ⟨_,rfl,ixT h1 (atI_nat (j:=0) rfl) ⟨rfl,_,rfl,iteF (nxtC ?_)⟩⟩
    refine ⟨_,rfl,ixT h1 (atI_nat (j:=0) rfl) ⟨rfl,_,rfl,iteF (nxtC ?_)⟩⟩
    refine ⟨_,rfl,ixT h1 (atI_nat (j:=0) rfl) ⟨rfl,_,rfl,iteF (nxtC ?_)⟩⟩
    dsimp only
    refine cut1R (fun σ' H'=>∃ s2,σ'=[some (.ref od),some (.ref p),some (.ref a.h)]/\KpS a.own H H'/\HandAt cH H' a g s2/\pc ow (.drop x b) s=some [(b,s2)]) ?fin ?key
    case fin =>
      rintro σ' H1 ⟨s2,rfl,k1,hA1,e1⟩
      have hp1:=hA.tup k1 h1
      refine ⟨_,rfl,_,rfl,p,_,_,_,rfl,rfl,SqT.of hp1,rfl,_,rfl,by show 2<=sizeLine; decide,fun p2 hp2=>⟨by show 1<=sizeLine; decide,fun pl hpl=>?_⟩⟩
      have s2':=(same_new hp2 (.tup [.ref r,.ref a.h])).new (o:=.lst [.ref p2]) hpl
      have t2:=old (o:=.lst [.ref p2]) hpl (upd_same (H:=H1) (a:=p2) (o:=.tup [.ref r,.ref a.h]))
      refine hT _ e1 _ pl [⟨p2,r,b,a,s2⟩] (k1.trans (.of s2')) ?_ upd_same (ens_one ⟨t2,(h3.keep (hA.tups k1)).keep (.of s2'),hA1.same s2'⟩) rfl fun e he=>.inl (by rw [List.mem_singleton.mp he])
      exact k1.free (fun z=>by
        have f:=(same_new hp2 (.tup [.ref r,.ref a.h])).free hpl
        exact hA1.no f z) ((same_new hp2 (.tup [.ref r,.ref a.h])).free hpl)
    case key =>
    intro u Dn _ fin
    refine ⟨_,rfl,ixT h1 (atI_nat (j:=0) rfl) ⟨rfl,_,rfl,iteF ?_⟩⟩
    refine ⟨_,rfl,ixT h1 (atI_nat (j:=0) rfl) ⟨rfl,_,rfl,iteF ?_⟩⟩
    refine ⟨_,rfl,ixT h1 (atI_nat (j:=0) rfl) ⟨rfl,_,rfl,iteT ⟨_,rfl,a.h,a.dx,_,rfl,hA.o,rfl,_,rfl,ixT h1 (atI_nat (j:=1) rfl) ⟨a,g,s,x,rfl,hA,by lia,fun s2 e2 H2 k2 hA2=>fin _ _ ⟨s2,rfl,k2,hA2,by rw [pc,e2]; rfl⟩,fun e=>(hF (by rw [pc,e]; rfl)).mk⟩⟩⟩⟩
  | loose x b =>
    obtain ⟨r,h1,h3⟩:=hI
    rw [Bd.wt] at hL
    refine ⟨_,rfl,ixT h1 (atI_nat (j:=0) rfl) ⟨rfl,_,rfl,iteF (nxtC ?_)⟩⟩
    refine ⟨_,rfl,ixT h1 (atI_nat (j:=0) rfl) ⟨rfl,_,rfl,iteF (nxtC ?_)⟩⟩
    refine ⟨_,rfl,ixT h1 (atI_nat (j:=0) rfl) ⟨rfl,_,rfl,iteF (nxtC ?_)⟩⟩
    dsimp only
    refine cut1R (fun σ' H'=>∃ s2,σ'=[some (.ref od),some (.ref p),some (.ref a.h)]/\KpS a.own H H'/\HandAt cH H' a g s2/\pc ow (.loose x b) s=some [(b,s2)]) ?fin ?key
    case fin =>
      rintro σ' H1 ⟨s2,rfl,k1,hA1,e1⟩
      have hp1:=hA.tup k1 h1
      refine ⟨_,rfl,_,rfl,p,_,_,_,rfl,rfl,SqT.of hp1,rfl,_,rfl,by show 2<=sizeLine; decide,fun p2 hp2=>⟨by show 1<=sizeLine; decide,fun pl hpl=>?_⟩⟩
      have s2':=(same_new hp2 (.tup [.ref r,.ref a.h])).new (o:=.lst [.ref p2]) hpl
      have t2:=old (o:=.lst [.ref p2]) hpl (upd_same (H:=H1) (a:=p2) (o:=.tup [.ref r,.ref a.h]))
      refine hT _ e1 _ pl [⟨p2,r,b,a,s2⟩] (k1.trans (.of s2')) ?_ upd_same (ens_one ⟨t2,(h3.keep (hA.tups k1)).keep (.of s2'),hA1.same s2'⟩) rfl fun e he=>.inl (by rw [List.mem_singleton.mp he])
      exact k1.free (fun z=>by
        have f:=(same_new hp2 (.tup [.ref r,.ref a.h])).free hpl
        exact hA1.no f z) ((same_new hp2 (.tup [.ref r,.ref a.h])).free hpl)
    case key =>
    intro u Dn _ fin
    refine ⟨_,rfl,ixT h1 (atI_nat (j:=0) rfl) ⟨rfl,_,rfl,iteF ?_⟩⟩
    refine ⟨_,rfl,ixT h1 (atI_nat (j:=0) rfl) ⟨rfl,_,rfl,iteF ?_⟩⟩
    refine ⟨_,rfl,ixT h1 (atI_nat (j:=0) rfl) ⟨rfl,_,rfl,iteF ⟨_,rfl,a.h,a.dx,_,rfl,hA.o,rfl,_,rfl,ixT h1 (atI_nat (j:=1) rfl) ⟨a,g,s,x,rfl,hA,fun st e2 H2 k2 hA2=>fin _ _ ⟨st.2,rfl,k2,hA2,by rw [pc,e2]; rfl⟩,fun e=>(hF (by rw [pc,e]; rfl)).mk⟩⟩⟩⟩
end
end GN
namespace L2
open PySem PySem.Spec PyProof.Rows
theorem keys_named:(["__module__","__name__","__qualname__","__doc__","__annotations__"]:List Str).contains ("keys":Str)=false:=by decide +kernel
theorem entry_pairs_loop:entryFor table "dict.update.loop"=some Builtin.«dict.update.loop»:=entryFor_of_tree (by kernel_rfl)
theorem plain_pairs_loop:plainId "dict.update.loop"=true:=by decide +kernel
section
variable {prog:Program} {w:World} {A:Around}
end
section
variable {X:Cx}
end
end L2
namespace L2
open PySem PySem.Spec PyProof.Rows
theorem miss_keysZ:typeLookup (.type "zip") "keys"=pure none:=am_miss_of_fast (by decide +kernel)
theorem zip_getattr_none:typeLookup (.type "zip") "__getattr__"=pure none:=by rw [typeLookup_type,builtinLookup_eq_fast]; kernel_rfl
theorem am_entry_zip_getattribute:entryFor table "zip.__getattribute__"=some Builtin.«object.__getattribute__» :=
  entryFor_alias (id':="object.__getattribute__") (by kernel_rfl) (by decide +kernel) (by decide +kernel) (by kernel_rfl)
theorem meets_getattribute_miss_zip (a:Addr) (fs:Array Value) (sl:Array (Option Value)) (name:Str) (u:Tok) (hmiss:typeLookup (.type "zip") name=pure none) (hname:(["__module__","__name__","__qualname__","__doc__","__annotations__"]:List Str).contains name=false) (hsz:name.length + 100<=sizeLine:=by size_fits) :
    Meets (Builtin.«object.__getattribute__» ⟨[.ref a,.str name u],[]⟩) (fun A R s=>s.heap.get? a=some { cls:=.type "zip",dict:=none,data:=.fields fs,slots:=sl }/\raisesAttr (.ref a) name A R s) :=
  Meets.of_wp fun prog w A R s hs=>by
    obtain ⟨hp,g,d,tk,os⟩:=s
    obtain ⟨hx,hs⟩:=hs
    have hT:(⟨hp,g,d,tk,os⟩:Shared).TypeIs (.ref a) "zip":=⟨_,hx,rfl⟩
    unfold Builtin.«object.__getattribute__»
    repeat (any_goals (first | assumption | wp_step))
    simp only [hname,Bool.false_eq_true,if_false]
    repeat (any_goals (first | assumption | wp_step))
    exact wpAny_raiseAttrError hs.1 hs.2 (attrMsg_fits (by decide +kernel) hsz)
section
variable {prog:Program} {w:World} {A:Around}
theorem keys_noneZ {E:Value->Shared->Prop} {s:Shared} {a:Addr} {fs:Array Value} {Q:Option Value->Shared->Prop} (hx:s.heap.get? a=some { cls:=.type "zip",data:=.fields fs }) (hA:A.handled=none)
    (h:∀ h' tk,(∀ b o,s.heap.get? b=some o->h'.get? b=some o)->Q none { s with heap:=h',toks:=tk }):wpAny (model prog w) A (getAttr? (.ref a) "keys") Q E s:=by
  obtain ⟨hp,g,d,tk,os⟩:=s
  have hT:∀ t',(⟨hp,g,d,t',os⟩:Shared).TypeIs (.ref a) "zip":=fun _=>⟨_,hx,rfl⟩
  have g1:=sub_AttributeError
  have g2:=PySem.F.slot_zip_getattribute.lookup
  have g3:=PySem.F.slot_zip_getattribute.bind (.ref a)
  have g4:=zip_getattr_none
  unfold getAttr? getAttrBy? getAttrBy
  repeat (any_goals (first | assumption | exact hT _ | ((with_reducible show wpAny _ _ (call (Value.builtin "zip.__getattribute__") _ _) _ _ _); refine call_meets PySem.F.slot_zip_getattribute (hT _) am_entry_zip_getattribute (PySem.F.args_zip_getattribute_2 _ _) (meets_getattribute_miss_zip a fs #[] "keys" _ miss_keysZ keys_named (by show 4 + 100<=sizeLine; decide)) ⟨hx,hA,fun h' tk' e hx'=>?_⟩) | wp_step))
  obtain ⟨t',u',he⟩:=hx'.there
  show wpAny _ _ (getattributeRaised _ _ _ _ _ _ _) _ _ _
  unfold getattributeRaised
  repeat (any_goals (first | assumption | wp_step))
  exact h _ _ hx'.keeps
theorem zpairs_loop {κ:Type} [DecidableEq κ] {knd:KeyKind prog w κ} {R:Result->Shared->Prop} {k m:Bool} {B l r D:Nat} {xs ys:Array Value} {more:List (κ × Value)} {res:Value} (hh:A.handled=none) (ll:l < B) (rl:r < B) (hD:B + 4 < D) (hz:more.length<=sizeLine) (hx:xs.size=more.length)
    (hp:∀ (j:Nat) k v,more[j]?=some (k,v)->∃ ku,xs[j]?=some ku/\ys[j]?=some v/\knd.is k ku=true) :
    ∀ (d i:Nat) (s:Shared) (f g:Value),more.length - i=d->i<=more.length->ZS k m s.heap B l r i f g->ZF B s.heap f g->Sq k s.heap l xs->Sq m s.heap r ys->D < s.heap.objs.size->s.heap.DictOf knd D (merged [] (more.take i)) ->
      (∀ h' tk,(∀ (b:Nat) o,(b < B\/B + 4 < b)->b≠D->s.heap.get? b=some o->h'.get? b=some o)->h'.DictOf knd D (merged [] more)->R (.ok (.ret res)) { s with heap:=h',toks:=tk }) ->
      codeAny (model prog w) A (.builtin "dict.update.loop" ⟨[.ref D,.ref (B + 4),rawInt i,res],[]⟩) R s:=by
  intro d
  induction d with
  | zero =>
    intro i s f g hm hi Z hf hl hr hs hd hR
    have e:i=more.length:=by lia
    refine codeAny_builtin entry_pairs_loop ?_
    rw [Around.under_plainId plain_pairs_loop _]
    show wpAny _ A.in1 (pyNext (.ref (B + 4)) >>= _) _ _ s
    refine wpAny_bind (zip_stop (A:=A.in1) hh Z hf hl hr ll rl (.inl (Array.getElem?_eq_none (by lia))) fun h' kz=>?_)
    show wpAny _ A.in1 (Builtin.Dict.addKeywords D [] >>= fun _=>ret res) _ _ _
    refine wpAny_bind (wpAny_pure (wpAny_pure ?_))
    rw [e,List.take_of_length_le (Nat.le_refl _)] at hd
    obtain ⟨o,es,ep,ho,hr'⟩:=hd
    exact hR h' s.toks (fun b o nb _ e'=>kz b o nb e') ⟨o,es,ep,kz _ _ (.inr hD) ho,hr'⟩
  | succ d ih =>
    intro i s f g hm hi Z hf hl hr hs hd hR
    have hlt:i < more.length:=by lia
    obtain ⟨kv,ekv⟩:∃ kv,more[i]?=some kv:=⟨_,List.getElem?_eq_getElem hlt⟩
    obtain ⟨ke,v⟩:=kv
    obtain ⟨ku,e1,e2,e3⟩:=hp i ke v ekv
    refine codeAny_builtin entry_pairs_loop ?_
    rw [Around.under_plainId plain_pairs_loop _]
    show wpAny _ A.in1 (pyNext (.ref (B + 4)) >>= _) _ _ s
    refine wpAny_bind (zip_step (A:=A.in1) Z hf hl hr ll rl e1 e2 fun h' T ct z hT p sz kz=>?_)
    show wpAny _ A.in1 (holding [Value.ref s.heap.objs.size] _ >>= _) _ _ _
    refine wpAny_bind (wpAny_holding (wpAny_bind (wpAny_tryCatch ?_)))
    unfold Builtin.Dict.pairItems
    refine wpAny_bind (wpAny_typeOf ⟨_,p,rfl⟩ ?_)
    rw [if_pos (by decide +kernel)]
    refine wpAny_bind ?_
    unfold seqItems?
    refine wpAny_bind (wpAny_load p ?_)
    refine wpAny_pure (wpAny_pure ?_)
    show wpAny _ A.in1 (holding [ku,v] (dictSet D ku v)) _ _ _
    have hd':h'.DictOf knd D (merged [] (more.take i)):=by
      obtain ⟨o,es,ep,ho,hr'⟩:=hd
      exact ⟨o,es,ep,kz _ _ (.inr hD) ho,hr'⟩
    have lz:(merged [] (more.take i)).length<=sizeLine:=by
      have:=merged_length_le [] (more.take i)
      rw [List.length_take] at this
      simp only [List.length_nil] at this
      lia
    refine wpAny_holding (wpAny_dictSet_pairs (hsz:=lz) e3 hd' fun h'' hd'' sb''=>?_)
    rw [<- merged_take_succ [] more i (ke,v) ekv] at hd''
    have up:∀ (b:Nat) o,b≠D->h'.get? b=some o->h''.get? b=some o:=fun b o nb e=>sb''.extBut b o nb e
    have sz'':s.heap.objs.size < h''.objs.size:=Heap.lt_size (up _ _ (Nat.ne_of_gt hs) p)
    refine wpAny_pure ⟨plainId_quiet plain_pairs_loop _,ih (i + 1) _ (rawInt T) (.bool ct) (by lia) hlt (z.at fun b o h1 h2 e=>up b o (by lia) e) ?_ ((hl.at fun o e=>kz _ o (by lia) e).at fun o e=>up _ o (by lia) e) ((hr.at fun o e=>kz _ o (by lia) e).at fun o e=>up _ o (by lia) e) (Nat.lt_trans hs sz'') hd'' fun h3 tk k3 d3=>?_⟩
    · rcases hT with e | ⟨lT,o,hT⟩
      · subst e
        exact .inr ⟨_,ct,_,rfl,rfl,up _ _ (Nat.ne_of_gt hs) p,by lia⟩
      · by_cases c:T=D
        · obtain ⟨o,es,ep,ho,_⟩:=hd''
          exact .inr ⟨T,ct,o,rfl,rfl,by rw [c]; exact ho,lT⟩
        · exact .inr ⟨T,ct,o,rfl,rfl,up _ _ c (kz _ _ (by lia) hT),lT⟩
    · exact hR h3 tk (fun b o b1 b2 e'=>k3 b o b1 b2 (up _ _ b2 (kz _ _ b1 e'))) d3
end
section
variable {X:Cx} {a b:Expr} {ta:TA} {p1 p2 pos1 pos2:Pos}
def zkv (ns:List Str) (ys:List V):List (Key × V):=(ns.zip ys).map fun p=>(.inr p.1,p.2)
def tDictZ (K:PySem.W.Frag) (ta:TA):TE:=fun σ H Q=>ta σ H fun vs H1=>∃ (a b:Addr) (ns:List Str) (ys:List V),vs=[.ref a,.ref b]/\(SqL K H1 a (ns.map V.str)\/SqT K H1 a (ns.map V.str))/\(SqL K H1 b ys\/SqT K H1 b ys)/\ns.length=ys.length/\ns.Nodup/\∀ d,H1 d=none->Q (.ref d) (upd H1 d (.dK (zkv ns ys)))
theorem zkv_keys {ns:List Str} {ys:List V} (h:ns.length=ys.length):(zkv ns ys).map (·.1)=ns.map Sum.inr:=by
  unfold zkv
  rw [List.map_map]
  have:((fun x=>x.1) ∘ fun (p:Str × V)=>((Sum.inr p.1:Key),p.2))=fun p=>(Sum.inr p.1:Key):=rfl
  rw [this]
  have e:=List.map_fst_zip (l₁:=ns) (l₂:=ys) (by lia)
  conv=>rhs; rw [<- e]
  rw [List.map_map]
  rfl
theorem pe_dictZ (hc:X.calm=true) (hgL:Gl X "dict") (hmL:X.mg "dict"=none) (hgZ:Gl X "zip") (hmZ:X.mg "zip"=none) (ha:PA X [a,b] ta)
    (h1:starEach [a,b] X.env=[(false,eval a X.env),(false,eval b X.env)]:=by rfl) (h2:starEach [b] X.env=[(false,eval b X.env)]:=by rfl):PE X (.Call (.Name "dict" p1) [.Call (.Name "zip" p2) [a,b] [] pos2] [] pos1) (tDictZ X.K ta):=by
  intro pins s σ H Q I h
  refine Call_ (ld_blt I hgL hmL PyProof.Rows.boot_dict (PyProof.Rows.callWith_type1 (Calls.spliced_cons (Call_ (ld_blt I hgZ hmZ boot_zip (PyProof.Rows.callWith_type1 (thn (ha pos2 pins s σ H _ I h) fun us s1 g=>?_) (by rw [h1,h2]) (by rw [h2]; rfl))))) rfl rfl))
  obtain ⟨vs,H1,I1,r1,a1,b1,ns,ys,rfl,hq1,hq2,ll,hn,q⟩:=g
  obtain ⟨u,u',rfl,e1,e2⟩:=vals2 r1
  cases e1
  cases e2
  obtain ⟨k1,i1,v1,q1,z1,l1⟩:=I1.sq hq1
  obtain ⟨k2,i2,v2,q2,z2,l2⟩:=I1.sq hq2
  refine zip_call q1 q2 fun h' Z sz kp=>Calls.spliced_nil ?_
  have hh:X.A.handled=none:=I1.ok.hd hc
  have n1:=v1.length
  have n2:=v2.length
  rw [List.length_map] at n1 z1
  have big:=I1.big
  obtain ⟨B,eB⟩:∃ B:Nat,B=s1.heap.objs.size:=⟨_,rfl⟩
  rw [<- eB] at Z sz l1 l2 ⊢
  obtain ⟨more,emore⟩:∃ more:List (Key × Value),more=(ns.zip i2).map fun p=>(.inr p.1,p.2):=⟨_,rfl⟩
  have lmore:more.length=ns.length:=by rw [emore,List.length_map,List.length_zip]; lia
  have hmore:∀ (j:Nat) k v,more[j]?=some (k,v)->∃ ku,i1.toArray[j]?=some ku/\i2.toArray[j]?=some v/\(mixKind X.prog X.w).is k ku=true:=fun j k v hj=>by
    rw [emore,List.getElem?_map] at hj
    obtain ⟨⟨n,v'⟩,hz,e⟩:=Option.map_eq_some_iff.mp hj
    cases e
    rw [List.getElem?_zip_eq_some] at hz
    obtain ⟨ku,hu,ru⟩:=v1.get (i:=j) (x:=.str n) (by rw [List.getElem?_map,hz.1]; rfl)
    obtain ⟨t,rfl⟩:=ru
    exact ⟨_,by simpa using hu,by simpa using hz.2,mixKind_str _ _ n t⟩
  have km:KV (zkv ns ys) more:=by
    have:∀ {ns:List Str} {ys:List V} {us:List Value},Vals ys us->ns.length=ys.length->KV (zkv ns ys) ((ns.zip us).map fun p=>((.inr p.1:Key),p.2)):=fun {ns ys us} hv hl=>by
      induction hv generalizing ns with
      | nil =>
        cases ns with
        | nil=>exact .nil
        | cons _ _=>simp at hl
      | cons r _ ih =>
        cases ns with
        | nil=>simp at hl
        | cons n ns=>exact .cons ⟨rfl,r⟩ (ih (by simpa using hl))
    rw [emore]
    exact this v2 ll
  have keys:more.map (·.1)=ns.map Sum.inr:=by
    rw [<- zkv_keys ll]
    have:∀ {a:List (Key × V)} {b:List (Key × Value)},KV a b->b.map (·.1)=a.map (·.1):=fun {a b} z=>by
      induction z with
      | nil=>rfl
      | cons h _ ih=>rw [List.map_cons,List.map_cons,h.1,ih]
    exact this km
  refine callType_codes (Q₁:=fun obj s₁=>obj=.ref h'.objs.size/\s₁={ s1 with heap:=h'.push { cls:=.type "dict",data:=.dict #[] } }) PySem.F.kt_called_dict (PySem.F.kt_typeCall_dict_1 _) PySem.F.entry_dict_init (kt_code_dict_new _ ⟨rfl,rfl⟩) ?_
  rintro obj s₁ ⟨rfl,rfl⟩
  have new:(h'.push { cls:=.type "dict",data:=.dict #[] }).DictOf (mixKind X.prog X.w) h'.objs.size []:=Heap.DictOf.new h'
  have Z1:ZS k1 k2 (h'.push { cls:=.type "dict",data:=.dict #[] }) B a1 b1 0 .none (.bool false):=Z.at fun b o _ _ e=>Heap.get?_push_of_some _ e
  refine ⟨new.typeIs,PySem.F.args_dict_init_2 _ _,?_⟩
  unfold Builtin.«dict.__init__»
  refine wpAny_bind ?_
  unfold Builtin.Dict.selfAndRest
  refine wpAny_bind (wpAny_notOrdered_dict new.typeIs ?_)
  show wpAny _ _ (pure (h'.objs.size,[Value.ref (B + 4)])) _ _ _
  refine wpAny_pure ?_
  show wpAny _ _ (Builtin.Dict.updateFrom "dict.__init__" h'.objs.size (.ref (B + 4)) [] .none) _ _ _
  unfold Builtin.Dict.updateFrom
  refine wpAny_bind (wpAny_typeOf ⟨_,Z1.z,rfl⟩ ?_)
  rw [if_pos (by decide +kernel)]
  refine wpAny_bind (keys_noneZ Z1.z hh fun h2 t2 k2'=>?_)
  rw [if_pos (show ((none:Option Value).isNone=true) from rfl)]
  have Z2:ZS k1 k2 h2 B a1 b1 0 .none (.bool false):=Z1.at fun b o _ _ e=>k2' _ _ e
  obtain ⟨o,es,ep,ho,hr⟩:=id new
  have ho1:=k2' _ _ ho
  have ltD:h'.objs.size < h2.objs.size:=Heap.lt_size ho1
  have kall:∀ b o,s1.heap.get? b=some o->h2.get? b=some o:=fun b o e=>k2' _ _ (Heap.get?_push_of_some _ (kp _ _ e))
  have ty:∀ t,Shared.TypeIs { s1 with heap:=h2,toks:=t } (.ref (B + 4)) "zip":=fun t=>⟨_,Z2.z,rfl⟩
  refine wpAny_bind (wpAny_rule (wpAny_bind (wpAny_pyIter_slot (ty _) PySem.F.slot_zip_iter (wpAny_call_entry PySem.F.slot_zip_iter (ty _) PySem.F.entry_zip_iter ?_ (PySem.F.args_zip_iter_1 _)))))
  show wpAny _ _ (ret (.ref (B + 4))) _ _ _
  refine wpAny_pure ⟨_,rfl,"zip",_,ty _,PySem.F.slot_zip_next.lookup,?_⟩
  refine wpAny_pure ⟨plainId_quiet plain_pairs_loop _,?_⟩
  refine zpairs_loop (A:=X.A.in1) (knd:=mixKind X.prog X.w) (B:=B) (xs:=i1.toArray) (ys:=i2.toArray) (more:=more) hh l1 l2 (by rw [sz]; lia) (by lia) (by rw [List.size_toArray]; lia) hmore more.length 0 _ _ _ (by lia) (Nat.zero_le _) Z2 (.inl rfl) (q1.at fun o e=>kall _ o e) (q2.at fun o e=>kall _ o e) ltD ⟨o,es,ep,ho1,hr⟩ (fun h3 tk kk dd=>?_)
  rw [merged_nil_of_nodup more (by rw [keys]; exact List.Pairwise.map _ (fun i j (ne:i≠j) e=>ne (Sum.inr.inj e)) hn)] at dd
  have hk:∀ b o,s1.heap.get? b=some o->h3.get? b=some o:=fun b o e=>by
    have lb:b < B:=by rw [eB]; exact Heap.lt_size e
    exact kk b o (.inl lb) (Nat.ne_of_lt (Nat.lt_of_lt_of_le lb (by rw [sz]; exact Nat.le_add_right _ _))) (kall _ _ e)
  refine ⟨rfl,.ref h'.objs.size,_,I1.laid (t':=tk) hk (by rw [sz,eB]; exact Nat.le_add_right _ _) (show ObjOk X.prog X.w _ h3 _ (.dK (zkv ns ys)) from ⟨by rw [Paired.length km]; lia,?_,more,km,dd⟩),rfl,q _ (I1.hok.fresh (by rw [sz,eB]; exact Nat.le_add_right _ _))⟩
  exact beq_eq_false_iff_ne.mpr (fun e=>by rw [sz,eB] at e; rw [<- e] at big; exact absurd big (Nat.not_lt.mpr (Nat.le_add_right _ _)))
theorem je_dictZ (hc:X.calm=true) (hgL:Gl X "dict") (hmL:X.mg "dict"=none) (hgZ:Gl X "zip") (hmZ:X.mg "zip"=none) (ha:jA X [a,b] ta) (h1:isStar a=false:=by rfl) (h2:isStar b=false:=by rfl) :
    jE X (.Call (.Name "dict" p1) [.Call (.Name "zip" p2) [a,b] [] pos2] [] pos1) (tDictZ X.K ta):=⟨pe_dictZ hc hgL hmL hgZ hmZ ha.out (by rw [star_cons h1,star_cons h2]; rfl) (by rw [star_cons h2]; rfl)⟩
end
end L2
namespace GN
open PySem L2 K11
structure Df where
  g:Str
  ps:List Str
  os:List Bool
  b:Bd
def IsDf (H:Hp) (d:Df) (o:Addr):Prop:=∃ pp po pb,H o=some (.tup [.str d.g,.ref pp,.ref po,.ref pb])/\H pp=some (.tup (d.ps.map V.str))/\H po=some (.tup (d.os.map V.bl))/\IsBd H d.b pb
theorem IsDf.keep {H H':Hp} {d:Df} {o:Addr} (t:Tups H H') (h:IsDf H d o):IsDf H' d o:=let ⟨pp,po,pb,a,b,c,e⟩:=h; ⟨pp,po,pb,t _ _ a,t _ _ b,t _ _ c,e.keep t⟩
structure DfOk (ow:Ow) (d:Df):Prop where
  nd:d.ps.Nodup
  len:d.ps.length=d.os.length
  ok:OkBd ow d.b
  few:d.ps.length + d.b.wt < 1000000
  sz:d.b.sz < 1000000
def Df.s0 (d:Df):Hs:=⟨d.ps.zip d.os,[]⟩
def spCkDef (cH uh:Addr):Sp:=fun vs H Q E=>∃ (od o:Addr) (ow:Ow) (d:Df),vs=[.ref od,.ref o]/\OwAt H od ow/\IsDf H d o/\DfOk ow d/\(okB ow d.b d.s0=true->∀ H',Same H H'->Q .non H')/\(okB ow d.b d.s0=false->ErrU uh E (fun _=>False) H d.g)
theorem Bd.sz_pos:∀ b:Bd,0 < b.sz
  | .give _=>by rw [Bd.sz]; exact Nat.zero_lt_one
  | .lt _ _ _=>by rw [Bd.sz]; lia
  | .hold _ _ _=>by rw [Bd.sz]; lia
  | .drop _ _=>by rw [Bd.sz]; lia
  | .loose _ _=>by rw [Bd.sz]; lia
  | .iff _ _ _=>by rw [Bd.sz]; lia
  | .cs _ _=>by rw [Bd.sz]; lia
def Hs.n (s:Hs):Nat:=s.ns.length + s.ts.length
theorem useUp_n {x:Str} {s s':Hs} (h:useUp x s=some s'):s'.n<=s.n:=by
  have:=useUp_len h
  unfold Hs.n
  rw [this.2]
  lia
theorem bindN_n {x:Str} {s s':Hs} (h:bindN x s=some s'):s'.n=s.n + 1:=by
  have:=bindN_len h
  unfold Hs.n
  rw [this.2]
  lia
theorem bindAll_n:∀ {l:List Str} {s s':Hs},bindAll l s=some s'->s'.n=s.n + l.length
  | [],s,s',h=>by cases h; rfl
  | x :: l,s,s',h=>by
    obtain ⟨s1,h1,h2⟩:=Option.bind_eq_some_iff.mp (show (bindN x s).bind (bindAll l)=some s' from h)
    rw [bindAll_n h2,bindN_n h1,List.length_cons]
    lia
theorem armC_n {x m k:Str} {ns:List Str} {s s':Hs} (h:armC x ns m k s=some s'):s'.n<=s.n + ns.length + 1:=by
  unfold armC at h
  obtain ⟨s1,h1,h⟩:=Option.bind_eq_some_iff.mp h
  obtain ⟨s2,h2,h⟩:=Option.bind_eq_some_iff.mp h
  have l1:s1.n<=s.n:=by
    split at h1
    · exact useUp_n h1
    · cases h1; exact Nat.le_refl _
  have l2:=bindAll_n h2
  split at h
  · cases h
    lia
  · split at h
    · unfold keepT at h
      split at h
      · cases h
        unfold Hs.n at *
        rw [List.length_append,List.length_singleton]
        dsimp only
        lia
      · cases h
    · cases h
theorem armsC_ok {ow:Ow} {x:Str} {s:Hs}:∀ {as:Arms} {l:List (Bd × Hs)},armsC x as s=some l->OkAs ow as->∀ q∈l,OkBd ow q.1/\q.2.n + q.1.wt<=s.n + as.wt
  | .nil,l,h,_,q,hq=>by
    rw [armsC] at h
    cases h
    cases hq
  | .cons t ns m k b r,l,h,ho,q,hq=>by
    rw [armsC] at h
    obtain ⟨s1,h1,h⟩:=Option.bind_eq_some_iff.mp h
    obtain ⟨l1,h2,rfl⟩:=Option.map_eq_some_iff.mp h
    rw [OkAs] at ho
    rw [Arms.wt]
    rcases List.mem_cons.mp hq with e | e
    · rw [e]
      have:=armC_n h1
      exact ⟨ho.1,by dsimp only; lia⟩
    · have:=armsC_ok h2 ho.2 q e
      exact ⟨this.1,by lia⟩
theorem pc_ok {ow:Ow} {b:Bd} {s:Hs} {l:List (Bd × Hs)} (h:pc ow b s=some l) (ho:OkBd ow b):∀ q∈l,OkBd ow q.1/\q.2.n + q.1.wt<=s.n + b.wt:=by
  intro q hq
  cases b with
  | give x =>
    rw [pc] at h
    obtain ⟨s1,_,h⟩:=Option.bind_eq_some_iff.mp h
    split at h
    · cases h; cases hq
    · cases h
  | lt x d b =>
    rw [pc] at h
    rw [OkBd] at ho
    obtain ⟨s1,h1,h⟩:=Option.bind_eq_some_iff.mp h
    obtain ⟨s2,h2,rfl⟩:=Option.map_eq_some_iff.mp h
    rw [List.mem_singleton.mp hq,Bd.wt]
    have:=deedC_len h1
    have:=bindN_n h2
    unfold Hs.n at *
    exact ⟨ho.2.2,by dsimp only; lia⟩
  | hold x y b =>
    rw [pc] at h
    rw [OkBd] at ho
    split at h
    · obtain ⟨s2,h2,rfl⟩:=Option.map_eq_some_iff.mp h
      rw [List.mem_singleton.mp hq,Bd.wt]
      have:=bindN_n h2
      exact ⟨ho,by dsimp only; lia⟩
    · cases h
  | drop x b =>
    rw [pc] at h
    rw [OkBd] at ho
    obtain ⟨s2,h2,rfl⟩:=Option.map_eq_some_iff.mp h
    rw [List.mem_singleton.mp hq,Bd.wt]
    have:=useUp_n h2
    exact ⟨ho,by dsimp only; lia⟩
  | loose x b =>
    rw [pc] at h
    rw [OkBd] at ho
    obtain ⟨s2,h2,rfl⟩:=Option.map_eq_some_iff.mp h
    rw [List.mem_singleton.mp hq,Bd.wt]
    have:=useT_len h2
    unfold Hs.n
    exact ⟨ho,by dsimp only; rw [this.1]; lia⟩
  | iff x b c =>
    rw [pc] at h
    rw [OkBd] at ho
    split at h
    · cases h
      rw [Bd.wt]
      simp only [List.mem_cons,List.not_mem_nil,or_false] at hq
      rcases hq with e | e
      · rw [e]; exact ⟨ho.1,by dsimp only; lia⟩
      · rw [e]; exact ⟨ho.2,by dsimp only; lia⟩
    · cases h
  | cs x as =>
    rw [pc] at h
    rw [OkBd] at ho
    split at h
    · rw [Bd.wt]
      exact armsC_ok h ho.2 q hq
    · cases h
theorem zkv_em (ps:List Str) (os:List Bool):zkv ps (os.map V.bl)=em V.bl (ps.zip os):=by
  unfold zkv em
  rw [List.zip_map_right,List.map_map]
  rfl
theorem EnAt.kp {cH:Addr} {H H':Hp} {g:Str} {e:En} {a:Ha} {s:Hs} (h:EnAt cH H g e) (hA:HandAt cH H a g s) (k:KpS a.own H H') (n:∀ b∈e.fp,¬ a.own b):EnAt cH H' g e :=
  ⟨hA.tup k h.t,h.b.keep (hA.tups k),h.a.keep fun b o hb q=>k _ _ (fun z=>by
    rcases hb with e' | e' | e'
    · rw [e'] at z
      rcases z with z | z
      · have:=h.a.o; rw [z,hA.n] at this; cases this
      · have:=h.a.o; rw [z,hA.t] at this; cases this
    · exact n b (by rw [e']; unfold En.fp; simp) z
    · exact n b (by rw [e']; unfold En.fp; simp) z) q⟩
theorem Ens.app {cH:Addr} {H:Hp} {g:Str} {es fs:List En} (h:Ens cH H g es) (k:Ens cH H g fs) (n:∀ b∈fs.flatMap En.fp,b ∉ es.flatMap En.fp):Ens cH H g (es ++ fs):=by
  refine ⟨fun e he=>(List.mem_append.mp he).elim (h.at_ e) (k.at_ e),?_⟩
  rw [List.flatMap_append,List.nodup_append]
  exact ⟨h.nd,k.nd,fun a ha b hb z=>n b hb (z ▸ ha)⟩
end GN
namespace GN
open PySem L2 K11
theorem iteE' {b:Bool} {A B:Prop} (e:b=true) (h:A):if b=true then A else B:=by rw [if_pos e]; exact h
section
variable {P:Program} {w:World} {K:PySem.W.Frag} {mg:Str->Option Value} {base:Heap} {f R C cH uh:Addr} {fd:FuncData}
theorem scCkDef:FnScope ["owns","one","left","pair"] ["owns","one"] (defScope sCkDef):=⟨rfl,rfl,rfl,by decide +kernel,rfl,by decide +kernel,by decide +kernel⟩
theorem ok_ckdef (F:Fun K "check_def" "check_def" sCkDef f fd) (T:TH K cH) (GH:Ma P w K mg base CX0 1 "Hand" cH ["self","def_name","names","tokens"] (spHInit cH)) (GP:Ca P w K mg base (CXf P w) 7 "check_piece" ["owns","body","hand"] (spPiece cH uh)) (m_len:mg "len"=none) (m_dict:mg "dict"=none) (m_zip:mg "zip"=none):FnOk P w K mg base (CXf P w) 8 f fd ["owns","one"] (spCkDef cH uh):=by
  refine F.byx scCkDef (fun vs H Q E h=>?_) (fun cdv A' outer s H vs Q E hr h=>?_)
  · obtain ⟨od,o,ow,d,rfl,_⟩:=h
    rfl
  obtain ⟨od,o,ow,d,rfl,hO,⟨pp,po,pb,h1,h2,h3,h4⟩,hok,hT,hF⟩:=h
  have hr2:Room 2 _:=hr.mono (by decide)
  refine ⟨_,
    (jss_cons (js_set (i:=2) scCkDef.nd rfl (Or.inl rfl) (je_lst (ja_c (je_tup (ja_c (je_ix jx_tup (jv 1) je_int (fun _ _=>rfl)) (ja_c (je_ma GH hr2 rfl pass0 (ja_c (je_ix jx_tup (jv 1) je_int (fun _ _=>rfl)) (ja_c (je_dictZ rfl rfl m_dict rfl m_zip (ja_c (je_ix jx_tup (jv 1) je_int (fun _ _=>rfl)) (ja_c (je_ix jx_tup (jv 1) je_int (fun _ _=>rfl)) ja_nil))) (ja_c je_dnewK ja_nil)))) ja_nil))) ja_nil)))
    (jss_one (js_while ownx (jt_cmpR jo_gt (je_fnB jc_len_seq rfl m_len PySem.boot_len (ja_c (jv 2) ja_nil)) je_int (nomark _))
      (jss_cons (js_set (i:=3) scCkDef.nd rfl (Or.inl rfl) (je_bm0 PySem.F.plainAttrs_list PySem.F.slot_list_pop PySem.F.type_list_pop jm_pop (jv 2)))
      (jss_one (js_expr (je_bm PySem.F.plainAttrs_list PySem.F.slot_list_extend PySem.F.type_list_extend jm_extend (jv 2) (ja_c (je_ca GP hr rfl passx (ja_c (jv 0) (ja_c (je_ix jx_tup (jv 3) je_int (fun _ _=>rfl)) (ja_c (je_ix jx_tup (jv 3) je_int (fun _ _=>rfl)) ja_nil)))) ja_nil)))))))),?_⟩
  have sl:=line0
  refine ⟨_,rfl,ixT h1 (atI_nat (j:=3) rfl) ⟨_,rfl,ixT h1 (atI_nat (j:=0) rfl) ⟨_,rfl,ixT h1 (atI_nat (j:=1) rfl) ⟨_,rfl,ixT h1 (atI_nat (j:=2) rfl) ⟨pp,po,d.ps,d.os.map V.bl,rfl,.inr (SqT.of h2),.inr (SqT.of h3),by rw [List.length_map]; exact hok.len,hok.nd,fun dz hdz=>?_⟩⟩⟩⟩⟩
  rw [zkv_em]
  have s1:=same_new hdz (.dK (em V.bl (d.ps.zip d.os)))
  have z1:=upd_same (H:=H) (a:=dz) (o:=.dK (em V.bl (d.ps.zip d.os)))
  generalize upd H dz (.dK (em V.bl (d.ps.zip d.os)))=H1 at *
  refine fun dt hdt b dx hb hdx ndx=>?_
  have s2:=s1.new (o:=.dK []) hdt
  have z2:=old (o:=.dK []) hdt z1
  have u2:=upd_same (H:=H1) (a:=dt) (o:=.dK [])
  generalize upd H1 dt (.dK [])=H2 at *
  have sm:=same_made (o:=.own b) (o':=.ins cH dx []) hb hdx ndx
  refine ⟨b,dx,dz,dt,d.g,d.s0,rfl,upd_same,sm _ _ z2,sm _ _ u2,fun H3 dn3 dt3 k3 fn ft hA3=>⟨rfl,?_⟩⟩
  have s23:Same H2 H3:=fun c o z=>k3 _ _ (fun e=>by rw [e,hb] at z; cases z) (sm _ _ z)
  have fr:∀ c,upd (upd H2 dx (.own b)) b (.ins cH dx []) c=none->H2 c=none:=fun c h=>by
    cases z:H2 c with
    | none=>rfl
    | some o=>rw [sm _ _ z] at h; cases h
  have s03:=s2.trans s23
  have n3:New H ⟨b,dx,dn3,dt3⟩:=⟨s2.free hb,s2.free (fr _ fn),s2.free (fr _ ft)⟩
  refine ⟨by show 2<=sizeLine; decide,fun p4 hp4=>⟨by show 1<=sizeLine; decide,fun lf hlf=>?_⟩⟩
  have s4:=(s03.new (o:=.tup [.ref pb,.ref b]) hp4).new (o:=.lst [.ref p4]) hlf
  have s34:=(same_new hp4 (.tup [.ref pb,.ref b])).new (o:=.lst [.ref p4]) hlf
  have t4:=old (o:=.lst [.ref p4]) hlf (upd_same (H:=H3) (a:=p4) (o:=.tup [.ref pb,.ref b]))
  have l4:=upd_same (H:=upd H3 p4 (.tup [.ref pb,.ref b])) (a:=lf) (o:=.lst [.ref p4])
  have hA4:=hA3.same s34
  have nlf:H lf=none:=(s03.new (o:=.tup [.ref pb,.ref b]) hp4).free hlf
  dsimp only
  generalize upd (upd H3 p4 (.tup [.ref pb,.ref b])) lf (.lst [.ref p4])=H4 at *
  have e4:EnAt cH H4 d.g ⟨p4,pb,d.b,⟨b,dx,dn3,dt3⟩,d.s0⟩:=⟨t4,h4.keep (.of s4),hA4⟩
  have l0:d.s0.n<=d.ps.length:=by
    show (d.ps.zip d.os).length + 0<=_
    rw [List.length_zip]
    lia
  have few:=hok.few
  have dsz:=hok.sz
  clear h2 h3 h4 z1 z2 u2 s1 s2 s23 s03 s34 t4 hA3 hA4 k3 fr fn ft sm hdz hdt hb hdx ndx hp4 hlf
  refine ⟨fun m σ H'=>∃ (es:List En) (y:Option V),m=(es.map fun e=>e.b.sz).sum/\m<=d.b.sz/\σ=[some (.ref od),some (.ref o),some (.ref lf),y]/\Same H H'/\H' lf=some (.lst (es.map fun e=>.ref e.t))/\Ens cH H' d.g es/\(∀ e∈es,New H e.a/\OkBd ow e.b/\e.s.n + e.b.wt<=d.s0.n + d.b.wt)/\(es.all fun e=>okB ow e.b e.s)=okB ow d.b d.s0,⟨_,[⟨p4,pb,d.b,⟨b,dx,dn3,dt3⟩,d.s0⟩],none,rfl,by simp,rfl,s4,l4,ens_one e4,fun e he=>by rw [List.mem_singleton.mp he]; exact ⟨n3,hok.ok,Nat.le_refl _⟩,by simp⟩,?_⟩
  rintro m σ H5 ⟨es,y,rfl,hm,rfl,s5,l5,hE5,ha5,eo⟩
  refine ⟨_,rfl,lf,_,rfl,.inl (SqL.of l5),_,_,rfl,rfl,_,rfl,?_⟩
  rw [List.length_map]
  cases hes:es.reverse with
  | nil =>
    have:es=[]:=by rw [<- List.reverse_reverse es,hes]; rfl
    subst this
    exact iteF (hT (by rw [<- eo]; rfl) H5 s5)
  | cons e es' =>
    obtain ⟨es1,rfl⟩:∃ es1,es=es1 ++ [e]:=⟨es'.reverse,by rw [<- List.reverse_reverse es,hes,List.reverse_cons]⟩
    clear hes es'
    rw [List.length_append,List.length_singleton]
    refine iteE' (decide_eq_true (by lia)) ?_
    obtain ⟨n5,ok5,w5⟩:=ha5 e (List.mem_append_right _ List.mem_cons_self)
    have hEe:=hE5.at_ e (List.mem_append_right _ List.mem_cons_self)
    have lall:((es1 ++ [e]).map fun e=>e.b.sz).sum=(es1.map fun e=>e.b.sz).sum + e.b.sz:=by rw [List.map_append,List.sum_append]; simp
    have les:es1.length<=(es1.map fun e=>e.b.sz).sum:=by
      have:∀ l:List En,l.length<=(l.map fun e=>e.b.sz).sum:=fun l=>by
        induction l with
        | nil=>exact Nat.le_refl _
        | cons a l ih =>
          have:=Bd.sz_pos a.b
          rw [List.map_cons,List.sum_cons,List.length_cons]
          lia
      exact this es1
    refine ⟨fun σ' H'=>∃ m',m' < ((es1 ++ [e]).map fun e=>e.b.sz).sum/\∃ (es:List En) (y:Option V),m'=(es.map fun e=>e.b.sz).sum/\m'<=d.b.sz/\σ'=[some (.ref od),some (.ref o),some (.ref lf),y]/\Same H H'/\H' lf=some (.lst (es.map fun e=>.ref e.t))/\Ens cH H' d.g es/\(∀ e∈es,New H e.a/\OkBd ow e.b/\e.s.n + e.b.wt<=d.s0.n + d.b.wt)/\(es.all fun e=>okB ow e.b e.s)=okB ow d.b d.s0,fun σ' H' h=>h,?_⟩
    rw [List.map_append] at l5
    refine ⟨_,rfl,.inl ⟨rfl,_,SqL.of l5⟩,lf,_,.ref e.t,rfl,rfl,l5,by simp,?_⟩
    rw [List.map_singleton,List.dropLast_concat]
    have kE:Ens cH (upd H5 lf (.lst (es1.map fun e=>.ref e.t))) d.g (es1 ++ [e]):=hE5.putL l5
    have s6:Same H (upd H5 lf (.lst (es1.map fun e=>.ref e.t))):=s5.put nlf
    have l6:=upd_same (H:=H5) (a:=lf) (o:=.lst (es1.map fun e=>.ref e.t))
    dsimp only
    generalize upd H5 lf (.lst (es1.map fun e=>.ref e.t))=H6 at *
    have hE6:=kE.at_ e (List.mem_append_right _ List.mem_cons_self)
    have nod:¬ e.a.own od:=fun z=>by
      obtain ⟨kvs,ho,_⟩:=hO
      rcases z with z | z
      · rw [z,n5.n] at ho; cases ho
      · rw [z,n5.t] at ho; cases ho
    refine ⟨_,rfl,.inl ⟨rfl,_,SqL.of l6⟩,_,rfl,_,rfl,ixT hE6.t (atI_nat (j:=0) rfl) ⟨_,rfl,ixT hE6.t (atI_nat (j:=1) rfl) ⟨od,e.p,e.b,ow,e.a,d.g,e.s,rfl,hE6.b,hO.same s6,ok5,hE6.a,nod,by have:e.s.ns.length + e.s.ts.length=e.s.n:=rfl; lia,fun l el H7 r es2 k7 fr7 hr7 hE7 em7 hn7=>?_,fun el=>?_⟩⟩⟩
    · have l7:H7 lf=some (.lst (es1.map fun e=>.ref e.t)):=k7 _ _ (fun z=>by
        rcases z with z | z
        · rw [z,hE6.a.n] at l6; cases l6
        · rw [z,hE6.a.t] at l6; cases l6) l6
      have nd:=kE.nd
      rw [List.flatMap_append,List.nodup_append] at nd
      have dis:∀ c,e.a.own c->c ∉ es1.flatMap En.fp:=fun c hc hm=>by
        refine nd.2.2 c hm c ?_ rfl
        rw [List.flatMap_cons,List.flatMap_nil,List.append_nil]
        unfold En.fp
        rcases hc with z | z <;> rw [z] <;> simp
      have k1:Ens cH H7 d.g es1:=⟨fun e1 h1=>(kE.at_ e1 (List.mem_append_left _ h1)).kp hE6.a k7 fun c hc z=>dis c z (List.mem_flatMap.mpr ⟨e1,h1,hc⟩),nd.1⟩
      have k1':Ens cH H6 d.g es1:=⟨fun e1 h1=>kE.at_ e1 (List.mem_append_left _ h1),nd.1⟩
      have kk:Ens cH H7 d.g (es1 ++ es2):=k1.app hE7 fun c hc hm=>by
        obtain ⟨e2,he2,hc2⟩:=List.mem_flatMap.mp hc
        have own2:e2.a.own c:=by
          unfold En.fp at hc2
          simp only [List.mem_cons,List.not_mem_nil,or_false] at hc2
          exact hc2
        rcases hn7 e2 he2 with z | z
        · rw [z] at own2
          exact dis c own2 hm
        · obtain ⟨o',ho'⟩:=k1'.in_ hm
          rcases own2 with q | q
          · rw [q,z.n] at ho'; cases ho'
          · rw [q,z.t] at ho'; cases ho'
      have s7:Same H H7:=fun c o' hc=>k7 _ _ (fun z=>by
        rcases z with z | z
        · rw [z,n5.n] at hc; cases hc
        · rw [z,n5.t] at hc; cases hc) (s6 _ _ hc)
      have szl:=pc_sz el
      have es2sz:(es2.map fun e=>e.b.sz).sum=(l.map fun q=>q.1.sz).sum:=by
        rw [<- em7,List.map_map]
        rfl
      have les2:es2.length<=(es2.map fun e=>e.b.sz).sum:=by
        have:∀ l:List En,l.length<=(l.map fun e=>e.b.sz).sum:=fun l=>by
          induction l with
          | nil=>exact Nat.le_refl _
          | cons a l ih =>
            have:=Bd.sz_pos a.b
            rw [List.map_cons,List.sum_cons,List.length_cons]
            lia
        exact this es2
      have sums:((es1 ++ es2).map fun e=>e.b.sz).sum=(es1.map fun e=>e.b.sz).sum + (es2.map fun e=>e.b.sz).sum:=by rw [List.map_append,List.sum_append]
      refine ⟨lf,r,_,_,rfl,rfl,l7,hr7,by rw [List.length_map,List.length_map]; lia,?_⟩
      refine ⟨_,?_,es1 ++ es2,_,rfl,?_,rfl,s7.put nlf,by rw [upd_same,List.map_append],kk.putL l7,?_,?_⟩
      · lia
      · lia
      · intro e3 he3
        rcases List.mem_append.mp he3 with z | z
        · exact ha5 e3 (List.mem_append_left _ z)
        · have hq:(e3.b,e3.s)∈l:=by rw [<- em7]; exact List.mem_map.mpr ⟨e3,z,rfl⟩
          obtain ⟨q1,q2⟩:=pc_ok el ok5 _ hq
          dsimp only at q1 q2
          refine ⟨?_,q1,by lia⟩
          rcases hn7 e3 z with y' | y'
          · rw [y']; exact n5
          · exact ⟨s6.free y'.h,s6.free y'.n,s6.free y'.t⟩
      · rw [List.all_append] at eo ⊢
        rw [<- eo]
        congr 1
        rw [List.all_cons,List.all_nil,Bool.and_true,okB_pc,el,<- em7]
        dsimp only
        rw [List.all_map]
        rfl
    · have hb0:okB ow d.b d.s0=false:=by
        rw [<- eo,List.all_append,List.all_cons,List.all_nil,Bool.and_true,okB_pc,el]
        exact Bool.and_false _
      exact fun dd H7 k7 hd=>hF hb0 dd H7 (fun c o' _ hc=>k7 _ _ (fun z=>by
        rcases z with z | z
        · rw [z,n5.n] at hc; cases hc
        · rw [z,n5.t] at hc; cases hc) (s6 _ _ hc)) hd
end
end GN
namespace GN
open PySem L2 K11
def IsDfs (H:Hp) (ds:List Df) (os:List Addr):Prop:=ds.length=os.length/\∀ (i:Nat) (d:Df) (o:Addr),ds[i]?=some d->os[i]?=some o->IsDf H d o
theorem IsDfs.keep {H H':Hp} {ds:List Df} {os:List Addr} (t:Tups H H') (h:IsDfs H ds os):IsDfs H' ds os:=⟨h.1,fun i d o a b=>(h.2 i d o a b).keep t⟩
def IsCode (H:Hp) (ds:List Df) (p:Addr):Prop:=∃ v pd os,H p=some (.tup [v,.ref pd])/\H pd=some (.tup (os.map V.ref))/\IsDfs H ds os
theorem IsCode.keep {H H':Hp} {ds:List Df} {p:Addr} (t:Tups H H') (h:IsCode H ds p):IsCode H' ds p:=let ⟨v,pd,os,a,b,c⟩:=h; ⟨v,pd,os,t _ _ a,t _ _ b,c.keep t⟩
def owOf (ds:List Df):Ow:=ds.map fun d=>(d.g,d.os)
theorem look_map {α β:Type} (h:α->β):∀ (l:List (Str × α)) (x:Str),look (l.map fun q=>(q.1,h q.2)) x=(look l x).map h
  | [],x=>rfl
  | q :: l,x=>by
    have ih:=look_map h l x
    unfold look at *
    rw [List.map_cons,List.find?_cons,List.find?_cons]
    by_cases c:q.1=x
    · rw [decide_eq_true c]
      rfl
    · rw [decide_eq_false c]
      exact ih
theorem look_in {α:Type} {l:List (Str × α)} {x:Str} {a:α} (h:look l x=some a):(x,a)∈l:=by
  unfold look at h
  obtain ⟨q,h1,rfl⟩:=Option.map_eq_some_iff.mp h
  have e:decide (q.1=x)=true:=List.find?_some (p:=fun p:Str × α=>decide (p.1=x)) h1
  rw [decide_eq_true_eq] at e
  rw [<- e]
  exact List.mem_of_find?_eq_some h1
theorem look_no {α:Type} {l:List (Str × α)} {x:Str} (h:x ∉ l.map (·.1)):look l x=none:=by
  cases c:look l x with
  | none=>rfl
  | some a=>exact absurd (List.mem_map.mpr ⟨_,look_in c,rfl⟩) h
def spOwns:Sp:=fun vs H Q _=>∃ (p:Addr) (ds:List Df),vs=[.ref p]/\IsCode H ds p/\(ds.map (·.g)).Nodup/\ds.length<=1000/\∀ H' od,Same H H'->OwAt H' od (owOf ds)->Q (.ref od) H'
def bad1 (ds:List Df):Option Df:=ds.find? fun d=>!okB (owOf ds) d.b d.s0
def spChecked (uh:Addr):Sp:=fun vs H Q E=>∃ (p:Addr) (ds:List Df),vs=[.ref p]/\IsCode H ds p/\(ds.map (·.g)).Nodup/\ds.length<=1000/\(∀ d∈ds,DfOk (owOf ds) d)/\(bad1 ds=none->∀ H',Same H H'->Q (.bl true) H')/\(∀ d,bad1 ds=some d->ErrU uh E (fun _=>False) H d.g)
section
variable {P:Program} {w:World} {K:PySem.W.Frag} {mg:Str->Option Value} {base:Heap} {f R C cH uh:Addr} {fd:FuncData}
theorem scOwns:FnScope ["code","owns","one"] ["code"] (defScope sOwns):=⟨rfl,rfl,rfl,by decide +kernel,rfl,by decide +kernel,by decide +kernel⟩
theorem ok_owns (F:Fun K "all_owns" "all_owns" sOwns f fd):FnOk P w K mg base CX0 1 f fd ["code"] spOwns:=by
  refine F.by scOwns (fun vs H Q E h=>?_) (fun cdv A outer s H vs Q E hr h=>?_)
  · obtain ⟨p,ds,rfl,_⟩:=h
    rfl
  obtain ⟨p,ds,rfl,⟨v,pd,os,h1,h2,h3⟩,hn,hl,q⟩:=h
  refine ⟨_,
    (jss_cons (js_set (i:=1) scOwns.nd rfl (Or.inl rfl) je_dnewK)
    (jss_cons (js_for PassesOwn.never rfl (ji_tup (je_ix jx_tup (jv 0) je_int (fun _ _=>rfl))) (jg_name (i:=2) scOwns.nd rfl (Or.inl rfl))
      (jss_one (js_dput hr (jv 1) (je_ix jx_tup (jv 2) je_int (fun _ _=>rfl)) (je_ix jx_tup (jv 2) je_int (fun _ _=>rfl)))))
    (jss_one (js_ret (jv 1))))),?_⟩
  have sl:=line0
  refine fun od hod=>?_
  have s1:=same_new hod (.dK [])
  have d1:=upd_same (H:=H) (a:=od) (o:=.dK [])
  dsimp only
  generalize upd H od (.dK [])=H1 at *
  refine ⟨_,rfl,ixT (s1 _ _ h1) (atI_nat (j:=1) rfl) ⟨pd,rfl,⟨_,SqT.of (s1 _ _ h2)⟩,for_tup (xs:=os.map V.ref) (fun i σ H'=>∃ (L:List (Str × (List Bool × Addr))) (y:Option V),σ=[some (.ref p),some (.ref od),y]/\Same H H'/\H' od=some (.dK (em (fun q=>V.ref q.2) L))/\L.map (fun x=>(x.1,x.2.1))=owOf (ds.take i)/\∀ x∈L,H x.2.2=some (.tup (x.2.1.map V.bl))) ⟨[],none,rfl,s1,d1,rfl,fun x hx=>by cases hx⟩ (fun i σ H' _ h=>?_) ?_ ?_⟩⟩
  · obtain ⟨_,_,_,k,_⟩:=h
    exact SqT.of (k _ _ h2)
  · rintro i v σ H2 hv ⟨L,y,rfl,s2,d2,eL,hL⟩
    rw [List.getElem?_map] at hv
    obtain ⟨o,ho,rfl⟩:=Option.map_eq_some_iff.mp hv
    have hi:i < ds.length:=by rw [h3.1]; exact (List.getElem?_eq_some_iff.mp ho).1
    obtain ⟨d,hd⟩:∃ d,ds[i]?=some d:=⟨_,List.getElem?_eq_getElem hi⟩
    obtain ⟨pp,po,pb,g1,g2,g3,g4⟩:=h3.2 i d o hd ho
    have tn:ds.take (i + 1)=ds.take i ++ [d]:=by rw [List.take_succ,hd]; rfl
    have ll:L.length=i:=by
      have:=congrArg List.length eL
      unfold owOf at this
      rw [List.length_map,List.length_map,List.length_take] at this
      lia
    have no:look L d.g=none:=by
      refine look_no fun hm=>?_
      have e:L.map (·.1)=(ds.take i).map (·.g):=by
        have:=congrArg (fun l=>l.map (·.1)) eL
        unfold owOf at this
        simp only [List.map_map] at this
        exact this
      rw [e] at hm
      rw [<- List.take_append_drop (i + 1) ds,List.map_append,tn,List.map_append,List.nodup_append,List.nodup_append] at hn
      exact hn.1.2.2 _ hm _ (by simp) rfl
    refine ⟨_,rfl,ixT (s2 _ _ g1) (atI_nat (j:=2) rfl) ⟨_,rfl,_,rfl,ixT (s2 _ _ g1) (atI_nat (j:=0) rfl) ⟨od,_,rfl,DPut.k (k:=.inr d.g) d2 (by rw [em_len]; lia),?_⟩⟩⟩
    have ep:=putK_em (fun q:List Bool × Addr=>V.ref q.2) (a:=(d.os,po)) no
    refine ⟨L ++ [(d.g,(d.os,po))],_,rfl,s2.put hod,by rw [upd_same]; exact congrArg (fun z=>some (HO.dK z)) ep,?_,fun x hx=>?_⟩
    · rw [List.map_append,eL,tn]
      unfold owOf
      rw [List.map_append]
      rfl
    · rcases List.mem_append.mp hx with z | z
      · exact hL x z
      · rw [List.mem_singleton.mp z]
        exact g3
  · rintro σ H2 ⟨L,y,rfl,s2,d2,eL,hL⟩
    rw [List.length_map,<- h3.1,List.take_of_length_le (Nat.le_refl _)] at eL
    refine ⟨_,rfl,q _ od s2 ⟨_,d2,fun g bs hb=>?_⟩⟩
    rw [<- eL,look_map (fun q:List Bool × Addr=>q.1)] at hb
    obtain ⟨a,ha,rfl⟩:=Option.map_eq_some_iff.mp hb
    exact ⟨a.2,by rw [valV_em,ha]; rfl,s2 _ _ (hL _ (look_in ha))⟩
theorem scChecked:FnScope ["code","owns","one"] ["code"] (defScope sChecked):=⟨rfl,rfl,rfl,by decide +kernel,rfl,by decide +kernel,by decide +kernel⟩
theorem ok_checked (F:Fun K "checked" "checked" sChecked f fd) (GO:Ca P w K mg base CX0 1 "all_owns" ["code"] spOwns) (GD:Ca P w K mg base (CXf P w) 8 "check_def" ["owns","one"] (spCkDef cH uh)):FnOk P w K mg base (CXf P w) 9 f fd ["code"] (spChecked uh):=by
  refine F.byx scChecked (fun vs H Q E h=>?_) (fun cdv A outer s H vs Q E hr h=>?_)
  · obtain ⟨p,ds,rfl,_⟩:=h
    rfl
  obtain ⟨p,ds,rfl,hI,hn,hl,hok,hT,hF⟩:=h
  have hr1:Room 1 _:=hr.mono (by decide)
  refine ⟨_,
    (jss_cons (js_set (i:=1) scChecked.nd rfl (Or.inl rfl) (je_ca GO hr1 rfl pass0 (ja_c (jv 0) ja_nil)))
    (jss_cons (js_for ownx rfl (ji_tup (je_ix jx_tup (jv 0) je_int (fun _ _=>rfl))) (jg_name (i:=2) scChecked.nd rfl (Or.inl rfl))
      (jss_one (js_expr (je_ca GD hr rfl passx (ja_c (jv 1) (ja_c (jv 2) ja_nil))))))
    (jss_one (js_ret je_bl)))),?_⟩
  refine ⟨_,rfl,p,ds,rfl,hI,hn,hl,fun H1 od s1 hO=>?_⟩
  obtain ⟨v,pd,os,h1,h2,h3⟩:=hI
  dsimp only
  refine ⟨_,rfl,ixT (s1 _ _ h1) (atI_nat (j:=1) rfl) ⟨pd,rfl,⟨_,SqT.of (s1 _ _ h2)⟩,for_tup (xs:=os.map V.ref) (fun i σ H'=>∃ y:Option V,σ=[some (.ref p),some (.ref od),y]/\Same H1 H'/\∀ d∈ds.take i,okB (owOf ds) d.b d.s0=true) ⟨none,rfl,Same.refl _,fun d hd=>by simp at hd⟩ (fun i σ H' _ h=>?_) ?_ ?_⟩⟩
  · obtain ⟨_,_,k,_⟩:=h
    exact SqT.of (k _ _ (s1 _ _ h2))
  · rintro i v σ H2 hv ⟨y,rfl,s2,hall⟩
    rw [List.getElem?_map] at hv
    obtain ⟨o,ho,rfl⟩:=Option.map_eq_some_iff.mp hv
    have hi:i < ds.length:=by rw [h3.1]; exact (List.getElem?_eq_some_iff.mp ho).1
    obtain ⟨d,hd⟩:∃ d,ds[i]?=some d:=⟨_,List.getElem?_eq_getElem hi⟩
    have tn:ds.take (i + 1)=ds.take i ++ [d]:=by rw [List.take_succ,hd]; rfl
    have s02:=s1.trans s2
    refine ⟨_,rfl,_,rfl,od,o,owOf ds,d,rfl,hO.same s2,(h3.2 i d o hd ho).keep (.of s02),hok d (List.mem_of_getElem? hd),fun hb H3 s3=>⟨_,rfl,s2.trans s3,fun d' hd'=>?_⟩,fun hb=>?_⟩
    · rw [tn] at hd'
      rcases List.mem_append.mp hd' with z | z
      · exact hall d' z
      · rw [List.mem_singleton.mp z]
        exact hb
    · refine (hF d ?_).at (.of s02) fun _ z=>z
      unfold bad1
      have e:ds=ds.take i ++ d :: ds.drop (i + 1):=by
        have:=List.take_append_drop (i + 1) ds
        rw [tn,List.append_assoc] at this
        exact this.symm
      conv=>lhs; arg 2; rw [e]
      rw [List.find?_append,List.find?_eq_none.mpr (fun d' hd'=>by rw [hall d' hd']; decide),Option.none_or,List.find?_cons_of_pos (by rw [hb]; rfl)]
  · rintro σ H2 ⟨y,rfl,s2,hall⟩
    rw [List.length_map,<- h3.1,List.take_of_length_le (Nat.le_refl _)] at hall
    refine hT ?_ _ (s1.trans s2)
    unfold bad1
    exact List.find?_eq_none.mpr fun d' hd'=>by rw [hall d' hd']; decide
end
end GN
namespace GN
open PySem L2 K11
structure SV where
  P:V->Hp->Prop
  s:∀ v H H',Same H H'->P v H->P v H'
def sA (x:V):SV:=⟨fun v _=>v=x,fun _ _ _ _ h=>h⟩
def sAll:List SV->List V->Hp->Prop
  | [],[],_=>True
  | S :: Ss,v :: vs,H=>S.P v H/\sAll Ss vs H
  | _,_,_=>False
theorem sAll.same {H H':Hp} (e:Same H H'):∀ {Ss:List SV} {vs:List V},sAll Ss vs H->sAll Ss vs H'
  | [],[],_=>trivial
  | S :: Ss,v :: vs,h=>⟨S.s _ _ _ e h.1,sAll.same e h.2⟩
theorem sAll.len {H:Hp}:∀ {Ss:List SV} {vs:List V},sAll Ss vs H->vs.length=Ss.length
  | [],[],_=>rfl
  | S :: Ss,v :: vs,h=>by rw [List.length_cons,List.length_cons,sAll.len h.2]
theorem sAll.get {H:Hp}:∀ {Ss:List SV} {vs:List V} {i:Nat} {S:SV},sAll Ss vs H->Ss[i]?=some S->∃ v,vs[i]?=some v/\S.P v H
  | [],[],i,S,_,e=>by simp at e
  | S' :: Ss,v :: vs,0,S,h,e=>by
    simp at e
    subst e
    exact ⟨v,rfl,h.1⟩
  | S' :: Ss,v :: vs,i + 1,S,h,e=>by
    obtain ⟨v',a,b⟩:=sAll.get (i:=i) h.2 (by simpa using e)
    exact ⟨v',by simpa using a,b⟩
theorem sAll.app {H:Hp}:∀ {Ss Ts:List SV} {vs us:List V},sAll Ss vs H->sAll Ts us H->sAll (Ss ++ Ts) (vs ++ us) H
  | [],Ts,[],us,_,g=>g
  | S :: Ss,Ts,v :: vs,us,h,g=>⟨h.1,sAll.app h.2 g⟩
def sT (Ss:List SV):SV:=⟨fun v H=>∃ p vs,v=.ref p/\H p=some (.tup vs)/\sAll Ss vs H,fun v H H' e ⟨p,vs,a,b,c⟩=>⟨p,vs,a,e _ _ b,c.same e⟩⟩
def sL (Ss:List SV):SV:=⟨fun v H=>∃ p vs,v=.ref p/\H p=some (.lst vs)/\sAll Ss vs H,fun v H H' e ⟨p,vs,a,b,c⟩=>⟨p,vs,a,e _ _ b,c.same e⟩⟩
def sLs (ns:List Str):SV:=⟨fun v H=>∃ p,v=.ref p/\H p=some (.lst (ns.map V.str)),fun v H H' e ⟨p,a,b⟩=>⟨p,a,e _ _ b⟩⟩
abbrev Gm:=List (Option SV)
def Env (σ:St) (H:Hp) (Γ:Gm):Prop:=σ.length=Γ.length/\∀ (i:Nat) (S:SV),Γ[i]?=some (some S)->∃ v,σ[i]?=some (some v)/\S.P v H
theorem Env.same {σ:St} {H H':Hp} {Γ:Gm} (h:Env σ H Γ) (e:Same H H'):Env σ H' Γ:=⟨h.1,fun i S a=>let ⟨v,b,c⟩:=h.2 i S a; ⟨v,b,S.s _ _ _ e c⟩⟩
theorem Env.set {σ:St} {H:Hp} {Γ:Gm} {i:Nat} {v:V} {S:SV} (h:Env σ H Γ) (hv:S.P v H):Env (σ.set i (some v)) H (Γ.set i (some S)):=by
  refine ⟨by rw [List.length_set,List.length_set]; exact h.1,fun j T e=>?_⟩
  by_cases c:i=j
  · subst c
    by_cases l:i < Γ.length
    · rw [List.getElem?_set_self l] at e
      cases e
      exact ⟨v,List.getElem?_set_self (by rw [h.1]; exact l),hv⟩
    · rw [List.getElem?_eq_none (by rw [List.length_set]; lia)] at e
      cases e
  · rw [List.getElem?_set_ne c] at e ⊢
    exact h.2 j T e
def Rd (Γ:Gm) (t:TE) (S:SV):Prop:=∀ σ H,Env σ H Γ->∀ Q:VK,(∀ v H',Same H H'->S.P v H'->Q v H')->t σ H Q
def RdA (Γ:Gm) (t:TA) (Ss:List SV):Prop:=∀ σ H,Env σ H Γ->∀ Q:List V->Hp->Prop,(∀ vs H',Same H H'->sAll Ss vs H'->Q vs H')->t σ H Q
def Run (Γ:Gm) (u:TS) (S:SV):Prop:=∀ (D:Ends) σ H,Env σ H Γ->(∀ v H',Same H H'->S.P v H'->D.rt v H')->u D σ H
section
variable {Γ:Gm} {t te t1 t2:TE} {ta tr:TA} {S S':SV} {Ss Ts:List SV} {K:PySem.W.Frag}
theorem rd_c {x:V}:Rd Γ (tC x) (sA x):=fun σ H _ Q q=>q x H (Same.refl _) rfl
theorem rd_v {i:Nat} (e:Γ[i]?=some (some S):=by rfl):Rd Γ (tVar i) S:=fun σ H h Q q=>let ⟨v,a,b⟩:=h.2 i S e; ⟨v,a,q v H (Same.refl _) b⟩
theorem rd_ixs {i:Nat} {k:Int} {ns:List Str} {x:Str} (e:Γ[i]?=some (some (sLs ns)):=by rfl) (a:atI ns k=some x:=by rfl):Rd Γ (tOp (rIxL K) (tVar i) (tC (.int k))) (sA (.str x)):=fun σ H h Q q=>by
  obtain ⟨v,b,p,rfl,hp⟩:=h.2 i _ e
  refine ⟨_,b,p,_,k,.str x,rfl,rfl,SqL.of hp,?_,q _ H (Same.refl _) rfl⟩
  unfold atI at a ⊢
  rw [List.length_map]
  cases c:ixN ns.length k with
  | none=>rw [c] at a; cases a
  | some j =>
    rw [c] at a
    show (ns.map V.str)[j]?=_
    rw [List.getElem?_map,show ns[j]?=some x from a]
    rfl
theorem rda_n:RdA Γ tNil []:=fun σ H _ Q q=>q [] H (Same.refl _) trivial
theorem rda_c (h:Rd Γ te S) (r:RdA Γ tr Ss):RdA Γ (tCons te tr) (S :: Ss):=fun σ H e Q q =>
  h σ H e _ fun v H1 s1 hv=>r σ H1 (e.same s1) _ fun vs H2 s2 hvs=>q (v :: vs) H2 (s1.trans s2) ⟨S.s _ _ _ s2 hv,hvs⟩
theorem rd_tup (h:RdA Γ ta Ss) (l:Ss.length<=100:=by exact Nat.le_of_ble_eq_true rfl):Rd Γ (tTup ta) (sT Ss):=fun σ H e Q q =>
  h σ H e _ fun vs H1 s1 hvs=>⟨by rw [hvs.len]; have:=line0; lia,fun p hp=>q (.ref p) _ (s1.new hp) ⟨p,vs,rfl,upd_same,hvs.same (same_new hp _)⟩⟩
theorem rd_lst (h:RdA Γ ta Ss) (l:Ss.length<=100:=by exact Nat.le_of_ble_eq_true rfl):Rd Γ (tLst ta) (sL Ss):=fun σ H e Q q =>
  h σ H e _ fun vs H1 s1 hvs=>⟨by rw [hvs.len]; have:=line0; lia,fun p hp=>q (.ref p) _ (s1.new hp) ⟨p,vs,rfl,upd_same,hvs.same (same_new hp _)⟩⟩
theorem rd_cat (h:Rd Γ t1 (sL Ss)) (g:Rd Γ t2 (sL Ts)) (l:Ss.length + Ts.length<=100:=by exact Nat.le_of_ble_eq_true rfl):Rd Γ (tOp rCat t1 t2) (sL (Ss ++ Ts)):=fun σ H e Q q =>
  h σ H e _ fun v1 H1 s1 ⟨p1,vs1,e1,h1,a1⟩=>g σ H1 (e.same s1) _ fun v2 H2 s2 ⟨p2,vs2,e2,h2,a2⟩=>⟨p1,p2,vs1,vs2,e1,e2,s2 _ _ h1,h2,by rw [a1.len,a2.len]; have:=line0; lia,fun p hp=>q (.ref p) _ ((s1.trans s2).new hp) ⟨p,_,rfl,upd_same,((a1.same s2).app a2).same (same_new hp _)⟩⟩
theorem Rd.mono (h:Rd Γ t S) (g:∀ v H,S.P v H->S'.P v H):Rd Γ t S':=fun σ H e Q q=>h σ H e Q fun v H' s' hv=>q v H' s' (g v H' hv)
def spOf (Ss:List SV) (S:SV):Sp:=fun vs H Q _=>sAll Ss vs H/\∀ v H',Same H H'->S.P v H'->Q v H'
theorem rd_call {sp:Sp} {E:XK} (h:RdA Γ ta Ss) (g:∀ vs H Q,spOf Ss S vs H Q E->sp vs H Q E):Rd Γ (tCall sp [] E ta) S:=fun σ H e Q q =>
  h σ H e _ fun vs H1 s1 hvs=>g _ _ _ (by
    rw [List.append_nil]
    exact ⟨hvs,fun v H' s' hv=>q v H' (s1.trans s') hv⟩)
theorem run_set {i:Nat} {u:TS} (h:Rd Γ t S') (k:Run (Γ.set i (some S')) u S):Run Γ (tSeq (tAsg t (gName i)) u) S:=fun D σ H e q =>
  h σ H e _ fun v H' s' hv=>k D _ H' ((e.same s').set hv) fun v2 H2 s2 h2=>q v2 H2 (s'.trans s2) h2
theorem run_ret (h:Rd Γ t S):Run Γ (tRet t) S:=fun D σ H e q=>h σ H e _ q
theorem Run.mono {u:TS} (h:Run Γ u S) (g:∀ v H,S.P v H->S'.P v H):Run Γ u S':=fun D σ H e q=>h D σ H e fun v H' s' hv=>q v H' s' (g v H' hv)
end
def sNs (ns:List Str):List SV:=ns.map fun n=>sA (.str n)
theorem sNs_eq {H:Hp}:∀ {ns:List Str} {vs:List V},sAll (sNs ns) vs H->vs=ns.map V.str
  | [],[],_=>rfl
  | n :: ns,v :: vs,h=>by rw [List.map_cons,<- sNs_eq h.2,show v=.str n from h.1]
inductive Pz
  | lt (x:Str) (d:Dd)
  | hold (x y:Str)
  | drop (x:Str)
  | loose (t:Str)
  | arm (x t:Str) (ns:List Str) (m k:Str)
  | fork (q:Str) (o:Bd)
def Pz.on:Pz->Bd->Bd
  | .lt x d,b=>.lt x d b
  | .hold x y,b=>.hold x y b
  | .drop x,b=>.drop x b
  | .loose t,b=>.loose t b
  | .arm x t ns m k,b=>.cs x (.cons t ns m k b .nil)
  | .fork q o,b=>.iff q b o
def IsPz (H:Hp):Pz->Addr->Prop
  | .lt x d,p=>∃ q,H p=some (.tup [.str "let",.str x,.ref q])/\IsDd H d q
  | .hold x y,p=>H p=some (.tup [.str "hold",.str x,.str y])
  | .drop x,p=>H p=some (.tup [.str "drop",.str x])
  | .loose t,p=>H p=some (.tup [.str "loose",.str t])
  | .arm x t ns m k,p=>∃ q,H p=some (.tup [.str "arm",.str x,.str t,.ref q,.str m,.str k])/\H q=some (.tup (ns.map V.str))
  | .fork x o,p=>∃ r,H p=some (.tup [.str "fork",.str x,.ref r])/\IsBd H o r
theorem IsPz.keep {H H':Hp} (t:Tups H H'):∀ {c:Pz} {p:Addr},IsPz H c p->IsPz H' c p
  | .lt _ _,p,⟨q,a,b⟩=>⟨q,t _ _ a,b.keep t⟩
  | .hold _ _,p,h=>t _ _ h
  | .drop _,p,h=>t _ _ h
  | .loose _,p,h=>t _ _ h
  | .arm _ _ _ _ _,p,⟨q,a,b⟩=>⟨q,t _ _ a,t _ _ b⟩
  | .fork _ _,p,⟨q,a,b⟩=>⟨q,t _ _ a,b.keep t⟩
def sP (c:Pz):SV:=⟨fun v H=>∃ p,v=.ref p/\IsPz H c p,fun _ _ _ e ⟨p,a,h⟩=>⟨p,a,h.keep (.of e)⟩⟩
def sD (d:Dd):SV:=⟨fun v H=>∃ p,v=.ref p/\IsDd H d p,fun _ _ _ e ⟨p,a,h⟩=>⟨p,a,h.keep (.of e)⟩⟩
def sB (b:Bd):SV:=⟨fun v H=>∃ p,v=.ref p/\IsBd H b p,fun _ _ _ e ⟨p,a,h⟩=>⟨p,a,h.keep (.of e)⟩⟩
section
variable {Γ:Gm} {tx ty tt td tk tm tb:TE} {tns:TA}
theorem rd_lt {x:Str} {d:Dd} (h1:Rd Γ tx (sA (.str x))) (h2:Rd Γ td (sD d)):Rd Γ (tTup (tCons (tC (.str "let")) (tCons tx (tCons td tNil)))) (sP (.lt x d)) :=
  (rd_tup (rda_c rd_c (rda_c h1 (rda_c h2 rda_n)))).mono fun v H hv=>by
    obtain ⟨p,vs,rfl,hp,h⟩:=hv
    match vs,h with
    | [a,b,c],⟨e1,e2,⟨q,e3,g3⟩,_⟩=>cases e1; cases e2; cases e3; exact ⟨p,rfl,q,hp,g3⟩
theorem rd_hold {x y:Str} (h1:Rd Γ tx (sA (.str x))) (h2:Rd Γ ty (sA (.str y))):Rd Γ (tTup (tCons (tC (.str "hold")) (tCons tx (tCons ty tNil)))) (sP (.hold x y)) :=
  (rd_tup (rda_c rd_c (rda_c h1 (rda_c h2 rda_n)))).mono fun v H hv=>by
    obtain ⟨p,vs,rfl,hp,h⟩:=hv
    match vs,h with
    | [a,b,c],⟨e1,e2,e3,_⟩=>cases e1; cases e2; cases e3; exact ⟨p,rfl,hp⟩
theorem rd_drop {x:Str} (h1:Rd Γ tx (sA (.str x))):Rd Γ (tTup (tCons (tC (.str "drop")) (tCons tx tNil))) (sP (.drop x)) :=
  (rd_tup (rda_c rd_c (rda_c h1 rda_n))).mono fun v H hv=>by
    obtain ⟨p,vs,rfl,hp,h⟩:=hv
    match vs,h with
    | [a,b],⟨e1,e2,_⟩=>cases e1; cases e2; exact ⟨p,rfl,hp⟩
theorem rd_loose {x:Str} (h1:Rd Γ tx (sA (.str x))):Rd Γ (tTup (tCons (tC (.str "loose")) (tCons tx tNil))) (sP (.loose x)) :=
  (rd_tup (rda_c rd_c (rda_c h1 rda_n))).mono fun v H hv=>by
    obtain ⟨p,vs,rfl,hp,h⟩:=hv
    match vs,h with
    | [a,b],⟨e1,e2,_⟩=>cases e1; cases e2; exact ⟨p,rfl,hp⟩
theorem rd_arm {x t m k:Str} {ns:List Str} (h1:Rd Γ tx (sA (.str x))) (h2:Rd Γ tt (sA (.str t))) (h3:RdA Γ tns (sNs ns)) (h4:Rd Γ tm (sA (.str m))) (h5:Rd Γ tk (sA (.str k))) (l:(sNs ns).length<=100:=by exact Nat.le_of_ble_eq_true rfl):Rd Γ (tTup (tCons (tC (.str "arm")) (tCons tx (tCons tt (tCons (tTup tns) (tCons tm (tCons tk tNil))))))) (sP (.arm x t ns m k)) :=
  (rd_tup (rda_c rd_c (rda_c h1 (rda_c h2 (rda_c (rd_tup h3 l) (rda_c h4 (rda_c h5 rda_n))))))).mono fun v H hv=>by
    obtain ⟨p,vs,rfl,hp,h⟩:=hv
    match vs,h with
    | [a,b,c,d,e,f],⟨e1,e2,e3,⟨q,us,e4,g4,g5⟩,e5,e6,_⟩ =>
      cases e1; cases e2; cases e3; cases e4; cases e5; cases e6
      rw [sNs_eq g5] at g4
      exact ⟨p,rfl,q,hp,g4⟩
theorem rd_fork {x:Str} {o:Bd} (h1:Rd Γ tx (sA (.str x))) (h2:Rd Γ tb (sB o)):Rd Γ (tTup (tCons (tC (.str "fork")) (tCons tx (tCons tb tNil)))) (sP (.fork x o)) :=
  (rd_tup (rda_c rd_c (rda_c h1 (rda_c h2 rda_n)))).mono fun v H hv=>by
    obtain ⟨p,vs,rfl,hp,h⟩:=hv
    match vs,h with
    | [a,b,c],⟨e1,e2,⟨q,e3,g3⟩,_⟩=>cases e1; cases e2; cases e3; exact ⟨p,rfl,q,hp,g3⟩
theorem rd_num {i:Int}:Rd Γ (tTup (tCons (tC (.str "num")) (tCons (tC (.int i)) tNil))) (sD (.num i)) :=
  (rd_tup (rda_c rd_c (rda_c rd_c rda_n))).mono fun v H hv=>by
    obtain ⟨p,vs,rfl,hp,h⟩:=hv
    match vs,h with
    | [a,b],⟨e1,e2,_⟩=>cases e1; cases e2; exact ⟨p,rfl,hp⟩
theorem rd_op {o a b:Str} (h1:Rd Γ tx (sA (.str a))) (h2:Rd Γ ty (sA (.str b))):Rd Γ (tTup (tCons (tC (.str "op")) (tCons (tC (.str o)) (tCons tx (tCons ty tNil))))) (sD (.op o a b)) :=
  (rd_tup (rda_c rd_c (rda_c rd_c (rda_c h1 (rda_c h2 rda_n))))).mono fun v H hv=>by
    obtain ⟨p,vs,rfl,hp,h⟩:=hv
    match vs,h with
    | [a,b,c,d],⟨e1,e2,e3,e4,_⟩=>cases e1; cases e2; cases e3; cases e4; exact ⟨p,rfl,hp⟩
theorem rd_make {t k:Str} {ns:List Str} (h1:Rd Γ tt (sA (.str t))) (h2:RdA Γ tns (sNs ns)) (h3:Rd Γ tk (sA (.str k))) (l:(sNs ns).length<=100:=by exact Nat.le_of_ble_eq_true rfl):Rd Γ (tTup (tCons (tC (.str "make")) (tCons tt (tCons (tTup tns) (tCons tk tNil))))) (sD (.mk t ns k)) :=
  (rd_tup (rda_c rd_c (rda_c h1 (rda_c (rd_tup h2 l) (rda_c h3 rda_n))))).mono fun v H hv=>by
    obtain ⟨p,vs,rfl,hp,h⟩:=hv
    match vs,h with
    | [a,b,c,d],⟨e1,e2,⟨q,us,e3,g3,g4⟩,e4,_⟩ =>
      cases e1; cases e2; cases e3; cases e4
      rw [sNs_eq g4] at g3
      exact ⟨p,rfl,q,hp,g3⟩
theorem rd_names {w g:Str} {ns:List Str} {d:Dd} (hd:∀ H p q,H p=some (.tup [.str w,.str g,.ref q])->H q=some (.tup (ns.map V.str))->IsDd H d p) (h1:Rd Γ tt (sA (.str g))) (h2:RdA Γ tns (sNs ns)) (l:(sNs ns).length<=100:=by exact Nat.le_of_ble_eq_true rfl):Rd Γ (tTup (tCons (tC (.str w)) (tCons tt (tCons (tTup tns) tNil)))) (sD d) :=
  (rd_tup (rda_c rd_c (rda_c h1 (rda_c (rd_tup h2 l) rda_n)))).mono fun v H hv=>by
    obtain ⟨p,vs,rfl,hp,h⟩:=hv
    match vs,h with
    | [a,b,c],⟨e1,e2,⟨q,us,e3,g3,g4⟩,_⟩ =>
      cases e1; cases e2; cases e3
      rw [sNs_eq g4] at g3
      exact ⟨p,rfl,hd _ _ _ hp g3⟩
end
end GN
namespace GN
open PySem L2 K11
structure Bk where
  n:Nat->Str
  q:Str
  t:Nat->Str
  h:Nat->Str
  tok:Str
def Bk.ns (C:Bk):List Str:=[C.n 0,C.n 1,C.n 2,C.n 3,C.n 4,C.n 5,C.n 6,C.n 7]
def Bk.ts (C:Bk):List Str:=[C.t 0,C.t 1,C.t 2]
def Bk.hs (C:Bk):List Str:=[C.h 0,C.h 1,C.h 2,C.h 3,C.h 4,C.h 5,C.h 6]
inductive Rf
  | q
  | n (j:Nat)
inductive AD
  | num (i:Int)
  | op (a b:Rf)
  | mk (t:Nat) (ns:List Rf) (k:Bool)
  | call (a b:Rf)
  | fn (h:Bool)
  | ask (g:Rf) (ns:List Rf)
inductive AP
  | lt (j:Nat) (d:AD)
  | hold (x y:Rf)
  | drop (x:Rf)
  | loose (k:Bool)
  | arm (x:Rf) (t:Nat) (ns:List Nat) (m k:Bool)
def Bk.r (C:Bk):Rf->Str
  | .q=>C.q
  | .n j=>C.n j
def Bk.k (C:Bk):Bool->Str
  | true=>C.tok
  | false=>""
def Bk.d (C:Bk):AD->Dd
  | .num i=>.num i
  | .op a b=>.op "plus" (C.r a) (C.r b)
  | .mk t ns k=>.mk (C.t t) (ns.map C.r) (C.k k)
  | .call a b=>.call (C.h 0) [C.r a,C.r b]
  | .fn true=>.fn (C.h 1) []
  | .fn false=>.fn (C.h 0) []
  | .ask g ns=>.ask (C.r g) (ns.map C.r)
def mdS:Bool->Str
  | true=>"take"
  | false=>"look"
def Bk.c (C:Bk):AP->Pz
  | .lt j d=>.lt (C.n j) (C.d d)
  | .hold x y=>.hold (C.r x) (C.r y)
  | .drop x=>.drop (C.r x)
  | .loose k=>.loose (C.k k)
  | .arm x t ns m k=>.arm (C.r x) (C.t t) (ns.map C.n) (mdS m) (C.k k)
def sPs (C:Bk) (l:List AP):SV:=sL (l.map fun a=>sP (C.c a))
def pairA:List AP:=[.lt 0 (.num 1),.lt 1 (.num 2),.lt 2 (.mk 2 [(.n 0),(.n 1)] false)]
def plainA:List (List AP × List AP) :=
  [([.lt 0 (.num 1),.drop (.n 0)],[.lt 0 (.num 1),.drop (.n 0),.drop (.n 0)]),
   ([.lt 0 (.num 1),.drop (.n 0)],[.lt 0 (.num 1)]),
   ([.hold (.n 0) .q,.drop (.n 0)],[.drop .q]),
   ([.lt 0 (.num 1),.hold (.n 1) (.n 0),.lt 2 (.mk 2 [(.n 0),(.n 1)] false),.drop (.n 2)],[.lt 0 (.num 1),.hold (.n 1) (.n 0),.lt 2 (.mk 2 [(.n 0),(.n 0)] false),.drop (.n 2),.drop (.n 1)]),
   ([.lt 0 (.num 1),.hold (.n 1) (.n 0),.drop (.n 1),.hold (.n 1) (.n 0),.drop (.n 0),.drop (.n 1)],[.lt 0 (.num 1),.hold (.n 1) (.n 0),.hold (.n 1) (.n 0),.drop (.n 0),.drop (.n 1)]),
   ([.lt 0 (.fn true),.drop (.n 0)],[.lt 0 (.fn false),.drop (.n 0)]),
   ([.lt 0 (.num 1),.lt 1 (.call (.n 0) .q),.drop (.n 1)],[.lt 0 (.num 1),.lt 1 (.call (.n 0) (.n 0)),.drop (.n 1)]),
   ([.lt 0 (.num 1),.lt 1 (.op (.n 0) .q),.drop (.n 0),.drop (.n 1)],[.lt 0 (.num 1),.drop (.n 0),.lt 1 (.op (.n 0) .q),.drop (.n 1)]),
   ([.lt 0 (.fn true),.hold (.n 1) (.n 0),.lt 2 (.ask (.n 0) [(.n 1)]),.drop (.n 2)],[.lt 0 (.fn true),.lt 2 (.ask (.n 0) [(.n 0)]),.drop (.n 2)]),
   ([.hold (.n 0) .q,.drop (.n 0),.lt 0 (.num 1),.drop (.n 0)],[.hold (.n 0) .q,.lt 0 (.num 1),.drop (.n 0)]),
   ([.hold (.n 0) .q,.lt 1 (.mk 1 [(.n 0)] false),.drop (.n 1)],[.lt 1 (.mk 1 [.q] false),.drop (.n 1)]),
   ([.lt 0 (.num 1),.hold (.n 1) (.n 0),.drop (.n 0),.drop (.n 1)],[.lt 0 (.num 1),.hold .q (.n 0),.drop (.n 0),.drop .q]),
   ([.lt 0 (.num 1),.drop (.n 0),.hold (.n 0) .q,.drop (.n 0)],[.lt 0 (.num 1),.drop (.n 0),.hold (.n 0) .q,.drop (.n 0),.drop (.n 0)]),
   ([],[.loose false])]
def keptA:List (List AP × List AP) :=
  [([.lt 0 (.num 1),.lt 1 (.num 2),.lt 2 (.mk 2 [(.n 0),(.n 1)] false),.arm (.n 2) 2 [3,4] false false,.drop (.n 2),.drop (.n 3),.drop (.n 4)],[.lt 0 (.num 1),.lt 1 (.num 2),.lt 2 (.mk 2 [(.n 0),(.n 1)] false),.arm (.n 2) 2 [3,4] false true,.loose true,.drop (.n 2),.drop (.n 3),.drop (.n 4)]),
   ([.lt 0 (.num 1),.lt 1 (.num 2),.lt 2 (.mk 2 [(.n 0),(.n 1)] false),.arm (.n 2) 2 [3,4] true true,.lt 5 (.mk 2 [(.n 3),(.n 4)] true),.drop (.n 5)],[.lt 0 (.num 1),.lt 1 (.num 2),.lt 2 (.mk 2 [(.n 0),(.n 1)] false),.arm (.n 2) 2 [3,4] true false,.lt 5 (.mk 2 [(.n 3),(.n 4)] true),.drop (.n 5)]),
   ([.lt 0 (.num 1),.lt 1 (.num 2),.lt 2 (.mk 2 [(.n 0),(.n 1)] false),.arm (.n 2) 2 [3,4] true true,.lt 5 (.mk 2 [(.n 3),(.n 4)] true),.drop (.n 5)],[.lt 0 (.num 1),.lt 1 (.num 2),.lt 2 (.mk 2 [(.n 0),(.n 1)] false),.arm (.n 2) 2 [3,4] true true,.lt 5 (.mk 1 [(.n 3)] true),.drop (.n 4),.drop (.n 5)]),
   ([.lt 0 (.num 1),.lt 1 (.num 2),.lt 2 (.mk 2 [(.n 0),(.n 1)] false),.arm (.n 2) 2 [3,4] true true,.loose true,.drop (.n 3),.drop (.n 4)],[.lt 0 (.num 1),.lt 1 (.num 2),.lt 2 (.mk 2 [(.n 0),(.n 1)] false),.arm (.n 2) 2 [3,4] true false,.loose true,.drop (.n 3),.drop (.n 4)]),
   ([.lt 0 (.num 1),.lt 1 (.num 2),.lt 2 (.mk 2 [(.n 0),(.n 1)] false),.arm (.n 2) 2 [3,4] true true,.loose true,.drop (.n 3),.drop (.n 4)],[.lt 0 (.num 1),.lt 1 (.num 2),.lt 2 (.mk 2 [(.n 0),(.n 1)] false),.arm (.n 2) 2 [3,4] true true,.drop (.n 3),.drop (.n 4)]),
   ([.lt 0 (.mk 0 [] false),.arm (.n 0) 0 [] true false],[.lt 0 (.mk 0 [] false),.arm (.n 0) 0 [] true true,.loose true]),
   ([.lt 0 (.num 1),.lt 1 (.num 2),.lt 2 (.mk 2 [(.n 0),(.n 1)] false),.arm (.n 2) 2 [3,4] true true,.loose true,.lt 5 (.mk 2 [(.n 3),(.n 4)] false),.arm (.n 5) 2 [6,7] true true,.loose true,.drop (.n 6),.drop (.n 7)],[.lt 0 (.num 1),.lt 1 (.num 2),.lt 2 (.mk 2 [(.n 0),(.n 1)] false),.arm (.n 2) 2 [3,4] true true,.lt 5 (.mk 2 [(.n 3),(.n 4)] false),.arm (.n 5) 2 [6,7] true true,.loose true,.drop (.n 6),.drop (.n 7)]),
   ([.lt 0 (.num 1),.lt 1 (.num 2),.lt 2 (.mk 2 [(.n 0),(.n 1)] false),.arm (.n 2) 2 [3,4] true false,.drop (.n 3),.drop (.n 4)],[.lt 0 (.num 1),.lt 1 (.num 2),.lt 2 (.mk 2 [(.n 0),(.n 1)] false),.arm (.n 2) 2 [3,4] true false,.drop (.n 3),.drop (.n 4),.drop (.n 2)]),
   ([.lt 0 (.num 1),.lt 1 (.num 2),.lt 2 (.mk 2 [(.n 0),(.n 1)] false),.hold (.n 3) .q,.drop (.n 3),.arm (.n 2) 2 [3,4] true false,.drop (.n 3),.drop (.n 4)],[.lt 0 (.num 1),.lt 1 (.num 2),.lt 2 (.mk 2 [(.n 0),(.n 1)] false),.hold (.n 3) .q,.arm (.n 2) 2 [3,4] true false,.drop (.n 3),.drop (.n 4)])]
theorem rd_catP {Γ:Gm} {t1 t2:TE} {C:Bk} (A B:List AP) (h:Rd Γ t1 (sPs C A)) (g:Rd Γ t2 (sPs C B)) (l:A.length + B.length<=100:=by exact Nat.le_of_ble_eq_true rfl):Rd Γ (tOp rCat t1 t2) (sPs C (A ++ B)) :=
  (rd_cat h g (by rw [List.length_map,List.length_map]; exact l)).mono fun v H hv=>by
    rw [<- List.map_append] at hv
    exact hv
def blkS (C:Bk) (g:List AP × List AP):SV:=sT [sPs C g.1,sPs C g.2]
def spPair:Sp:=fun vs H Q _=>∃ C:Bk,sAll [sLs C.ns,sLs C.ts] vs H/\∀ v H',Same H H'->(sPs C pairA).P v H'->Q v H'
def spLArm:Sp:=fun vs H Q _=>∃ (C:Bk) (m k:Str),sAll [sLs C.ns,sLs C.ts,sA (.str m),sA (.str k)] vs H/\∀ v H',Same H H'->(sP (.arm (C.n 2) (C.t 2) [C.n 3,C.n 4] m k)).P v H'->Q v H'
def spPlain:Sp:=fun vs H Q _=>∃ C:Bk,sAll [sLs C.ns,sA (.str C.q),sLs C.ts,sLs C.hs] vs H/\∀ v H',Same H H'->(sL (plainA.map (blkS C))).P v H'->Q v H'
def spKept:Sp:=fun vs H Q _=>∃ C:Bk,sAll [sLs C.ns,sA (.str C.q),sLs C.ts,sA (.str C.tok)] vs H/\∀ v H',Same H H'->(sL (keptA.map (blkS C))).P v H'->Q v H'
theorem call_pair {C:Bk} {E:XK}:∀ vs H Q,spOf [sLs C.ns,sLs C.ts] (sPs C pairA) vs H Q E->spPair vs H Q E:=fun vs H Q h=>⟨C,h.1,h.2⟩
theorem call_arm {C:Bk} {m k:Str} {E:XK}:∀ vs H Q,spOf [sLs C.ns,sLs C.ts,sA (.str m),sA (.str k)] (sP (.arm (C.n 2) (C.t 2) [C.n 3,C.n 4] m k)) vs H Q E->spLArm vs H Q E:=fun vs H Q h=>⟨C,m,k,h.1,h.2⟩
theorem env_start {N:List Str} {Ss:List SV} {vs:List V} {H:Hp} {n:Nat} (h:sAll Ss vs H) (hl:N.length - Ss.length=n:=by rfl):Env (L2.start N vs) H (Ss.map some ++ List.replicate n none):=by
  have l:=h.len
  unfold L2.start
  refine ⟨by rw [List.length_append,List.length_append,List.length_map,List.length_map,List.length_replicate,List.length_replicate,l,hl],fun i S e=>?_⟩
  by_cases c:i < Ss.length
  · rw [List.getElem?_append_left (by rw [List.length_map]; exact c),List.getElem?_map] at e
    obtain ⟨S',h1,h2⟩:=Option.map_eq_some_iff.mp e
    cases h2
    obtain ⟨v,a,b⟩:=h.get h1
    exact ⟨v,by rw [List.getElem?_append_left (by rw [List.length_map,l]; exact c),List.getElem?_map,a]; rfl,b⟩
  · rw [List.getElem?_append_right (by rw [List.length_map]; lia)] at e
    have:=List.mem_of_getElem? e
    rw [List.mem_replicate] at this
    cases this.2
theorem Run.go {Γ:Gm} {u:TS} {S:SV} {D:Ends} {σ:St} {H:Hp} (h:Run Γ u S) (e:Env σ H Γ) (q:∀ v H',Same H H'->S.P v H'->D.rt v H'):u D σ H:=h D σ H e q
section
variable {P:Program} {w:World} {K:PySem.W.Frag} {mg:Str->Option Value} {base:Heap} {f R C cH uh:Addr} {fd:FuncData}
theorem scPair:FnScope ["_law_n","_law_tags"] ["_law_n","_law_tags"] (defScope sPair):=⟨rfl,rfl,rfl,by decide +kernel,rfl,by decide +kernel,by decide +kernel⟩
theorem ok_pair (F:Fun K "_law_pair" "_law_pair" sPair f fd):FnOk P w K mg base CX0 1 f fd ["_law_n","_law_tags"] spPair:=by
  refine F.by scPair (fun vs H Q E h=>?_) (fun cdv A outer s H vs Q E hr h=>?_)
  · obtain ⟨C,h,_⟩:=h
    exact h.len
  obtain ⟨C,h,q⟩:=h
  refine ⟨_,
    (jss_one (js_ret (je_lst (ja_c (je_tup (ja_c je_str (ja_c (je_ix jx_list (jv 0) je_int (fun _ _=>rfl)) (ja_c (je_tup (ja_c je_str (ja_c je_int ja_nil))) ja_nil)))) (ja_c (je_tup (ja_c je_str (ja_c (je_ix jx_list (jv 0) je_int (fun _ _=>rfl)) (ja_c (je_tup (ja_c je_str (ja_c je_int ja_nil))) ja_nil)))) (ja_c (je_tup (ja_c je_str (ja_c (je_ix jx_list (jv 0) je_int (fun _ _=>rfl)) (ja_c (je_tup (ja_c je_str (ja_c (je_ix jx_list (jv 1) je_int (fun _ _=>rfl)) (ja_c (je_tup (ja_c (je_ix jx_list (jv 0) je_int (fun _ _=>rfl)) (ja_c (je_ix jx_list (jv 0) je_int (fun _ _=>rfl)) ja_nil))) (ja_c je_str ja_nil))))) ja_nil)))) ja_nil)))))),?_⟩
  refine Run.go (Γ:=[some (sLs C.ns),some (sLs C.ts)]) (S:=sPs C pairA) ?_ (env_start (Ss:=[sLs C.ns,sLs C.ts]) h) q
  exact run_ret (rd_lst (rda_c (rd_lt rd_ixs rd_num) (rda_c (rd_lt rd_ixs rd_num) (rda_c (rd_lt rd_ixs (rd_make rd_ixs (rda_c rd_ixs (rda_c rd_ixs (rda_n:RdA _ tNil (sNs [])))) rd_c)) rda_n))))
theorem scPlainBl:FnScope ["_law_n","_law_q","_law_tags","_law_heads","_law_one","_law_drop","_law_hold","_law_other","_law_last","_law_borrow","_law_func","_law_two","_law_twice","_law_sum_of","_law_call","_law_call_twice","_law_ask","_law_ask_twice","_law_lent"] ["_law_n","_law_q","_law_tags","_law_heads"] (defScope sPlainBl):=⟨rfl,rfl,rfl,by decide +kernel,rfl,by decide +kernel,by decide +kernel⟩
theorem ok_plain (F:Fun K "_law_plain_blocks" "_law_plain_blocks" sPlainBl f fd):FnOk P w K mg base CX0 1 f fd ["_law_n","_law_q","_law_tags","_law_heads"] spPlain:=by
  refine F.by scPlainBl (fun vs H Q E h=>?_) (fun cdv A outer s H vs Q E hr h=>?_)
  · obtain ⟨C,h,_⟩:=h
    exact h.len
  obtain ⟨C,h,q⟩:=h
  refine ⟨_,
    (jss_cons (js_set (i:=4) scPlainBl.nd rfl (Or.inl rfl) (je_tup (ja_c je_str (ja_c (je_ix jx_list (jv 0) je_int (fun _ _=>rfl)) (ja_c (je_tup (ja_c je_str (ja_c je_int ja_nil))) ja_nil)))))
    (jss_cons (js_set (i:=5) scPlainBl.nd rfl (Or.inl rfl) (je_tup (ja_c je_str (ja_c (je_ix jx_list (jv 0) je_int (fun _ _=>rfl)) ja_nil))))
    (jss_cons (js_set (i:=6) scPlainBl.nd rfl (Or.inl rfl) (je_tup (ja_c je_str (ja_c (je_ix jx_list (jv 0) je_int (fun _ _=>rfl)) (ja_c (je_ix jx_list (jv 0) je_int (fun _ _=>rfl)) ja_nil)))))
    (jss_cons (js_set (i:=7) scPlainBl.nd rfl (Or.inl rfl) (je_tup (ja_c je_str (ja_c (je_ix jx_list (jv 0) je_int (fun _ _=>rfl)) ja_nil))))
    (jss_cons (js_set (i:=8) scPlainBl.nd rfl (Or.inl rfl) (je_tup (ja_c je_str (ja_c (je_ix jx_list (jv 0) je_int (fun _ _=>rfl)) ja_nil))))
    (jss_cons (js_set (i:=9) scPlainBl.nd rfl (Or.inl rfl) (je_tup (ja_c je_str (ja_c (je_ix jx_list (jv 0) je_int (fun _ _=>rfl)) (ja_c (jv 1) ja_nil)))))
    (jss_cons (js_set (i:=10) scPlainBl.nd rfl (Or.inl rfl) (je_tup (ja_c je_str (ja_c (je_ix jx_list (jv 0) je_int (fun _ _=>rfl)) (ja_c (je_tup (ja_c je_str (ja_c (je_ix jx_list (jv 3) je_int (fun _ _=>rfl)) (ja_c (je_tup ja_nil) ja_nil)))) ja_nil)))))
    (jss_cons (js_set (i:=11) scPlainBl.nd rfl (Or.inl rfl) (je_tup (ja_c je_str (ja_c (je_ix jx_list (jv 0) je_int (fun _ _=>rfl)) (ja_c (je_tup (ja_c je_str (ja_c (je_ix jx_list (jv 2) je_int (fun _ _=>rfl)) (ja_c (je_tup (ja_c (je_ix jx_list (jv 0) je_int (fun _ _=>rfl)) (ja_c (je_ix jx_list (jv 0) je_int (fun _ _=>rfl)) ja_nil))) (ja_c je_str ja_nil))))) ja_nil)))))
    (jss_cons (js_set (i:=12) scPlainBl.nd rfl (Or.inl rfl) (je_tup (ja_c je_str (ja_c (je_ix jx_list (jv 0) je_int (fun _ _=>rfl)) (ja_c (je_tup (ja_c je_str (ja_c (je_ix jx_list (jv 2) je_int (fun _ _=>rfl)) (ja_c (je_tup (ja_c (je_ix jx_list (jv 0) je_int (fun _ _=>rfl)) (ja_c (je_ix jx_list (jv 0) je_int (fun _ _=>rfl)) ja_nil))) (ja_c je_str ja_nil))))) ja_nil)))))
    (jss_cons (js_set (i:=13) scPlainBl.nd rfl (Or.inl rfl) (je_tup (ja_c je_str (ja_c (je_ix jx_list (jv 0) je_int (fun _ _=>rfl)) (ja_c (je_tup (ja_c je_str (ja_c je_str (ja_c (je_ix jx_list (jv 0) je_int (fun _ _=>rfl)) (ja_c (jv 1) ja_nil))))) ja_nil)))))
    (jss_cons (js_set (i:=14) scPlainBl.nd rfl (Or.inl rfl) (je_tup (ja_c je_str (ja_c (je_ix jx_list (jv 0) je_int (fun _ _=>rfl)) (ja_c (je_tup (ja_c je_str (ja_c (je_ix jx_list (jv 3) je_int (fun _ _=>rfl)) (ja_c (je_tup (ja_c (je_ix jx_list (jv 0) je_int (fun _ _=>rfl)) (ja_c (jv 1) ja_nil))) ja_nil)))) ja_nil)))))
    (jss_cons (js_set (i:=15) scPlainBl.nd rfl (Or.inl rfl) (je_tup (ja_c je_str (ja_c (je_ix jx_list (jv 0) je_int (fun _ _=>rfl)) (ja_c (je_tup (ja_c je_str (ja_c (je_ix jx_list (jv 3) je_int (fun _ _=>rfl)) (ja_c (je_tup (ja_c (je_ix jx_list (jv 0) je_int (fun _ _=>rfl)) (ja_c (je_ix jx_list (jv 0) je_int (fun _ _=>rfl)) ja_nil))) ja_nil)))) ja_nil)))))
    (jss_cons (js_set (i:=16) scPlainBl.nd rfl (Or.inl rfl) (je_tup (ja_c je_str (ja_c (je_ix jx_list (jv 0) je_int (fun _ _=>rfl)) (ja_c (je_tup (ja_c je_str (ja_c (je_ix jx_list (jv 0) je_int (fun _ _=>rfl)) (ja_c (je_tup (ja_c (je_ix jx_list (jv 0) je_int (fun _ _=>rfl)) ja_nil)) ja_nil)))) ja_nil)))))
    (jss_cons (js_set (i:=17) scPlainBl.nd rfl (Or.inl rfl) (je_tup (ja_c je_str (ja_c (je_ix jx_list (jv 0) je_int (fun _ _=>rfl)) (ja_c (je_tup (ja_c je_str (ja_c (je_ix jx_list (jv 0) je_int (fun _ _=>rfl)) (ja_c (je_tup (ja_c (je_ix jx_list (jv 0) je_int (fun _ _=>rfl)) ja_nil)) ja_nil)))) ja_nil)))))
    (jss_cons (js_set (i:=18) scPlainBl.nd rfl (Or.inl rfl) (je_tup (ja_c je_str (ja_c (je_ix jx_list (jv 0) je_int (fun _ _=>rfl)) (ja_c (je_tup (ja_c je_str (ja_c (je_ix jx_list (jv 2) je_int (fun _ _=>rfl)) (ja_c (je_tup (ja_c (jv 1) ja_nil)) (ja_c je_str ja_nil))))) ja_nil)))))
    (jss_one (js_ret (je_lst (ja_c (je_tup (ja_c (je_lst (ja_c (jv 4) (ja_c (jv 5) ja_nil))) (ja_c (je_lst (ja_c (jv 4) (ja_c (jv 5) (ja_c (jv 5) ja_nil)))) ja_nil))) (ja_c (je_tup (ja_c (je_lst (ja_c (jv 4) (ja_c (jv 5) ja_nil))) (ja_c (je_lst (ja_c (jv 4) ja_nil)) ja_nil))) (ja_c (je_tup (ja_c (je_lst (ja_c (jv 9) (ja_c (jv 5) ja_nil))) (ja_c (je_lst (ja_c (je_tup (ja_c je_str (ja_c (jv 1) ja_nil))) ja_nil)) ja_nil))) (ja_c (je_tup (ja_c (je_lst (ja_c (jv 4) (ja_c (jv 6) (ja_c (jv 11) (ja_c (jv 8) ja_nil))))) (ja_c (je_lst (ja_c (jv 4) (ja_c (jv 6) (ja_c (jv 12) (ja_c (jv 8) (ja_c (jv 7) ja_nil)))))) ja_nil))) (ja_c (je_tup (ja_c (je_lst (ja_c (jv 4) (ja_c (jv 6) (ja_c (jv 7) (ja_c (jv 6) (ja_c (jv 5) (ja_c (jv 7) ja_nil))))))) (ja_c (je_lst (ja_c (jv 4) (ja_c (jv 6) (ja_c (jv 6) (ja_c (jv 5) (ja_c (jv 7) ja_nil)))))) ja_nil))) (ja_c (je_tup (ja_c (je_lst (ja_c (jv 10) (ja_c (jv 5) ja_nil))) (ja_c (je_lst (ja_c (je_tup (ja_c je_str (ja_c (je_ix jx_list (jv 0) je_int (fun _ _=>rfl)) (ja_c (je_tup (ja_c je_str (ja_c (je_ix jx_list (jv 3) je_int (fun _ _=>rfl)) (ja_c (je_tup ja_nil) ja_nil)))) ja_nil)))) (ja_c (jv 5) ja_nil))) ja_nil))) (ja_c (je_tup (ja_c (je_lst (ja_c (jv 4) (ja_c (jv 14) (ja_c (jv 7) ja_nil)))) (ja_c (je_lst (ja_c (jv 4) (ja_c (jv 15) (ja_c (jv 7) ja_nil)))) ja_nil))) (ja_c (je_tup (ja_c (je_lst (ja_c (jv 4) (ja_c (jv 13) (ja_c (jv 5) (ja_c (jv 7) ja_nil))))) (ja_c (je_lst (ja_c (jv 4) (ja_c (jv 5) (ja_c (jv 13) (ja_c (jv 7) ja_nil))))) ja_nil))) (ja_c (je_tup (ja_c (je_lst (ja_c (jv 10) (ja_c (jv 6) (ja_c (jv 16) (ja_c (jv 8) ja_nil))))) (ja_c (je_lst (ja_c (jv 10) (ja_c (jv 17) (ja_c (jv 8) ja_nil)))) ja_nil))) (ja_c (je_tup (ja_c (je_lst (ja_c (jv 9) (ja_c (jv 5) (ja_c (jv 4) (ja_c (jv 5) ja_nil))))) (ja_c (je_lst (ja_c (jv 9) (ja_c (jv 4) (ja_c (jv 5) ja_nil)))) ja_nil))) (ja_c (je_tup (ja_c (je_lst (ja_c (jv 9) (ja_c (je_tup (ja_c je_str (ja_c (je_ix jx_list (jv 0) je_int (fun _ _=>rfl)) (ja_c (je_tup (ja_c je_str (ja_c (je_ix jx_list (jv 2) je_int (fun _ _=>rfl)) (ja_c (je_tup (ja_c (je_ix jx_list (jv 0) je_int (fun _ _=>rfl)) ja_nil)) (ja_c je_str ja_nil))))) ja_nil)))) (ja_c (jv 7) ja_nil)))) (ja_c (je_lst (ja_c (jv 18) (ja_c (jv 7) ja_nil))) ja_nil))) (ja_c (je_tup (ja_c (je_lst (ja_c (jv 4) (ja_c (jv 6) (ja_c (jv 5) (ja_c (jv 7) ja_nil))))) (ja_c (je_lst (ja_c (jv 4) (ja_c (je_tup (ja_c je_str (ja_c (jv 1) (ja_c (je_ix jx_list (jv 0) je_int (fun _ _=>rfl)) ja_nil)))) (ja_c (jv 5) (ja_c (je_tup (ja_c je_str (ja_c (jv 1) ja_nil))) ja_nil))))) ja_nil))) (ja_c (je_tup (ja_c (je_lst (ja_c (jv 4) (ja_c (jv 5) (ja_c (jv 9) (ja_c (jv 5) ja_nil))))) (ja_c (je_lst (ja_c (jv 4) (ja_c (jv 5) (ja_c (jv 9) (ja_c (jv 5) (ja_c (jv 5) ja_nil)))))) ja_nil))) (ja_c (je_tup (ja_c (je_lst ja_nil) (ja_c (je_lst (ja_c (je_tup (ja_c je_str (ja_c je_str ja_nil))) ja_nil)) ja_nil))) ja_nil)))))))))))))))))))))))))))))))),?_⟩
  refine Run.go (Γ:=[some (sLs C.ns),some (sA (.str C.q)),some (sLs C.ts),some (sLs C.hs),none,none,none,none,none,none,none,none,none,none,none,none,none,none,none]) (S:=sL (plainA.map (blkS C))) ?_ (env_start (Ss:=[sLs C.ns,sA (.str C.q),sLs C.ts,sLs C.hs]) h) q
  refine run_set (S':=sP (C.c (.lt 0 (.num 1)))) (rd_lt rd_ixs rd_num) ?_
  show Run [some (sLs C.ns),some (sA (.str C.q)),some (sLs C.ts),some (sLs C.hs),some (sP (C.c (.lt 0 (.num 1)))),none,none,none,none,none,none,none,none,none,none,none,none,none,none] _ _
  refine run_set (S':=sP (C.c (.drop (.n 0)))) (rd_drop rd_ixs) ?_
  show Run [some (sLs C.ns),some (sA (.str C.q)),some (sLs C.ts),some (sLs C.hs),some (sP (C.c (.lt 0 (.num 1)))),some (sP (C.c (.drop (.n 0)))),none,none,none,none,none,none,none,none,none,none,none,none,none] _ _
  refine run_set (S':=sP (C.c (.hold (.n 1) (.n 0)))) (rd_hold rd_ixs rd_ixs) ?_
  show Run [some (sLs C.ns),some (sA (.str C.q)),some (sLs C.ts),some (sLs C.hs),some (sP (C.c (.lt 0 (.num 1)))),some (sP (C.c (.drop (.n 0)))),some (sP (C.c (.hold (.n 1) (.n 0)))),none,none,none,none,none,none,none,none,none,none,none,none] _ _
  refine run_set (S':=sP (C.c (.drop (.n 1)))) (rd_drop rd_ixs) ?_
  show Run [some (sLs C.ns),some (sA (.str C.q)),some (sLs C.ts),some (sLs C.hs),some (sP (C.c (.lt 0 (.num 1)))),some (sP (C.c (.drop (.n 0)))),some (sP (C.c (.hold (.n 1) (.n 0)))),some (sP (C.c (.drop (.n 1)))),none,none,none,none,none,none,none,none,none,none,none] _ _
  refine run_set (S':=sP (C.c (.drop (.n 2)))) (rd_drop rd_ixs) ?_
  show Run [some (sLs C.ns),some (sA (.str C.q)),some (sLs C.ts),some (sLs C.hs),some (sP (C.c (.lt 0 (.num 1)))),some (sP (C.c (.drop (.n 0)))),some (sP (C.c (.hold (.n 1) (.n 0)))),some (sP (C.c (.drop (.n 1)))),some (sP (C.c (.drop (.n 2)))),none,none,none,none,none,none,none,none,none,none] _ _
  refine run_set (S':=sP (C.c (.hold (.n 0) .q))) (rd_hold rd_ixs rd_v) ?_
  show Run [some (sLs C.ns),some (sA (.str C.q)),some (sLs C.ts),some (sLs C.hs),some (sP (C.c (.lt 0 (.num 1)))),some (sP (C.c (.drop (.n 0)))),some (sP (C.c (.hold (.n 1) (.n 0)))),some (sP (C.c (.drop (.n 1)))),some (sP (C.c (.drop (.n 2)))),some (sP (C.c (.hold (.n 0) .q))),none,none,none,none,none,none,none,none,none] _ _
  refine run_set (S':=sP (C.c (.lt 0 (.fn true)))) (rd_lt rd_ixs (rd_names (d:=.fn _ _) (fun _ _ q a b=>⟨q,a,b⟩) rd_ixs (rda_n:RdA _ tNil (sNs [])))) ?_
  show Run [some (sLs C.ns),some (sA (.str C.q)),some (sLs C.ts),some (sLs C.hs),some (sP (C.c (.lt 0 (.num 1)))),some (sP (C.c (.drop (.n 0)))),some (sP (C.c (.hold (.n 1) (.n 0)))),some (sP (C.c (.drop (.n 1)))),some (sP (C.c (.drop (.n 2)))),some (sP (C.c (.hold (.n 0) .q))),some (sP (C.c (.lt 0 (.fn true)))),none,none,none,none,none,none,none,none] _ _
  refine run_set (S':=sP (C.c (.lt 2 (.mk 2 [(.n 0),(.n 1)] false)))) (rd_lt rd_ixs (rd_make rd_ixs (rda_c rd_ixs (rda_c rd_ixs (rda_n:RdA _ tNil (sNs [])))) rd_c)) ?_
  show Run [some (sLs C.ns),some (sA (.str C.q)),some (sLs C.ts),some (sLs C.hs),some (sP (C.c (.lt 0 (.num 1)))),some (sP (C.c (.drop (.n 0)))),some (sP (C.c (.hold (.n 1) (.n 0)))),some (sP (C.c (.drop (.n 1)))),some (sP (C.c (.drop (.n 2)))),some (sP (C.c (.hold (.n 0) .q))),some (sP (C.c (.lt 0 (.fn true)))),some (sP (C.c (.lt 2 (.mk 2 [(.n 0),(.n 1)] false)))),none,none,none,none,none,none,none] _ _
  refine run_set (S':=sP (C.c (.lt 2 (.mk 2 [(.n 0),(.n 0)] false)))) (rd_lt rd_ixs (rd_make rd_ixs (rda_c rd_ixs (rda_c rd_ixs (rda_n:RdA _ tNil (sNs [])))) rd_c)) ?_
  show Run [some (sLs C.ns),some (sA (.str C.q)),some (sLs C.ts),some (sLs C.hs),some (sP (C.c (.lt 0 (.num 1)))),some (sP (C.c (.drop (.n 0)))),some (sP (C.c (.hold (.n 1) (.n 0)))),some (sP (C.c (.drop (.n 1)))),some (sP (C.c (.drop (.n 2)))),some (sP (C.c (.hold (.n 0) .q))),some (sP (C.c (.lt 0 (.fn true)))),some (sP (C.c (.lt 2 (.mk 2 [(.n 0),(.n 1)] false)))),some (sP (C.c (.lt 2 (.mk 2 [(.n 0),(.n 0)] false)))),none,none,none,none,none,none] _ _
  refine run_set (S':=sP (C.c (.lt 1 (.op (.n 0) .q)))) (rd_lt rd_ixs (rd_op rd_ixs rd_v)) ?_
  show Run [some (sLs C.ns),some (sA (.str C.q)),some (sLs C.ts),some (sLs C.hs),some (sP (C.c (.lt 0 (.num 1)))),some (sP (C.c (.drop (.n 0)))),some (sP (C.c (.hold (.n 1) (.n 0)))),some (sP (C.c (.drop (.n 1)))),some (sP (C.c (.drop (.n 2)))),some (sP (C.c (.hold (.n 0) .q))),some (sP (C.c (.lt 0 (.fn true)))),some (sP (C.c (.lt 2 (.mk 2 [(.n 0),(.n 1)] false)))),some (sP (C.c (.lt 2 (.mk 2 [(.n 0),(.n 0)] false)))),some (sP (C.c (.lt 1 (.op (.n 0) .q)))),none,none,none,none,none] _ _
  refine run_set (S':=sP (C.c (.lt 1 (.call (.n 0) .q)))) (rd_lt rd_ixs (rd_names (d:=.call _ _) (fun _ _ q a b=>⟨q,a,b⟩) rd_ixs (rda_c rd_ixs (rda_c rd_v (rda_n:RdA _ tNil (sNs [])))))) ?_
  show Run [some (sLs C.ns),some (sA (.str C.q)),some (sLs C.ts),some (sLs C.hs),some (sP (C.c (.lt 0 (.num 1)))),some (sP (C.c (.drop (.n 0)))),some (sP (C.c (.hold (.n 1) (.n 0)))),some (sP (C.c (.drop (.n 1)))),some (sP (C.c (.drop (.n 2)))),some (sP (C.c (.hold (.n 0) .q))),some (sP (C.c (.lt 0 (.fn true)))),some (sP (C.c (.lt 2 (.mk 2 [(.n 0),(.n 1)] false)))),some (sP (C.c (.lt 2 (.mk 2 [(.n 0),(.n 0)] false)))),some (sP (C.c (.lt 1 (.op (.n 0) .q)))),some (sP (C.c (.lt 1 (.call (.n 0) .q)))),none,none,none,none] _ _
  refine run_set (S':=sP (C.c (.lt 1 (.call (.n 0) (.n 0))))) (rd_lt rd_ixs (rd_names (d:=.call _ _) (fun _ _ q a b=>⟨q,a,b⟩) rd_ixs (rda_c rd_ixs (rda_c rd_ixs (rda_n:RdA _ tNil (sNs [])))))) ?_
  show Run [some (sLs C.ns),some (sA (.str C.q)),some (sLs C.ts),some (sLs C.hs),some (sP (C.c (.lt 0 (.num 1)))),some (sP (C.c (.drop (.n 0)))),some (sP (C.c (.hold (.n 1) (.n 0)))),some (sP (C.c (.drop (.n 1)))),some (sP (C.c (.drop (.n 2)))),some (sP (C.c (.hold (.n 0) .q))),some (sP (C.c (.lt 0 (.fn true)))),some (sP (C.c (.lt 2 (.mk 2 [(.n 0),(.n 1)] false)))),some (sP (C.c (.lt 2 (.mk 2 [(.n 0),(.n 0)] false)))),some (sP (C.c (.lt 1 (.op (.n 0) .q)))),some (sP (C.c (.lt 1 (.call (.n 0) .q)))),some (sP (C.c (.lt 1 (.call (.n 0) (.n 0))))),none,none,none] _ _
  refine run_set (S':=sP (C.c (.lt 2 (.ask (.n 0) [(.n 1)])))) (rd_lt rd_ixs (rd_names (d:=.ask _ _) (fun _ _ q a b=>⟨q,a,b⟩) rd_ixs (rda_c rd_ixs (rda_n:RdA _ tNil (sNs []))))) ?_
  show Run [some (sLs C.ns),some (sA (.str C.q)),some (sLs C.ts),some (sLs C.hs),some (sP (C.c (.lt 0 (.num 1)))),some (sP (C.c (.drop (.n 0)))),some (sP (C.c (.hold (.n 1) (.n 0)))),some (sP (C.c (.drop (.n 1)))),some (sP (C.c (.drop (.n 2)))),some (sP (C.c (.hold (.n 0) .q))),some (sP (C.c (.lt 0 (.fn true)))),some (sP (C.c (.lt 2 (.mk 2 [(.n 0),(.n 1)] false)))),some (sP (C.c (.lt 2 (.mk 2 [(.n 0),(.n 0)] false)))),some (sP (C.c (.lt 1 (.op (.n 0) .q)))),some (sP (C.c (.lt 1 (.call (.n 0) .q)))),some (sP (C.c (.lt 1 (.call (.n 0) (.n 0))))),some (sP (C.c (.lt 2 (.ask (.n 0) [(.n 1)])))),none,none] _ _
  refine run_set (S':=sP (C.c (.lt 2 (.ask (.n 0) [(.n 0)])))) (rd_lt rd_ixs (rd_names (d:=.ask _ _) (fun _ _ q a b=>⟨q,a,b⟩) rd_ixs (rda_c rd_ixs (rda_n:RdA _ tNil (sNs []))))) ?_
  show Run [some (sLs C.ns),some (sA (.str C.q)),some (sLs C.ts),some (sLs C.hs),some (sP (C.c (.lt 0 (.num 1)))),some (sP (C.c (.drop (.n 0)))),some (sP (C.c (.hold (.n 1) (.n 0)))),some (sP (C.c (.drop (.n 1)))),some (sP (C.c (.drop (.n 2)))),some (sP (C.c (.hold (.n 0) .q))),some (sP (C.c (.lt 0 (.fn true)))),some (sP (C.c (.lt 2 (.mk 2 [(.n 0),(.n 1)] false)))),some (sP (C.c (.lt 2 (.mk 2 [(.n 0),(.n 0)] false)))),some (sP (C.c (.lt 1 (.op (.n 0) .q)))),some (sP (C.c (.lt 1 (.call (.n 0) .q)))),some (sP (C.c (.lt 1 (.call (.n 0) (.n 0))))),some (sP (C.c (.lt 2 (.ask (.n 0) [(.n 1)])))),some (sP (C.c (.lt 2 (.ask (.n 0) [(.n 0)])))),none] _ _
  refine run_set (S':=sP (C.c (.lt 1 (.mk 1 [.q] false)))) (rd_lt rd_ixs (rd_make rd_ixs (rda_c rd_v (rda_n:RdA _ tNil (sNs []))) rd_c)) ?_
  show Run [some (sLs C.ns),some (sA (.str C.q)),some (sLs C.ts),some (sLs C.hs),some (sP (C.c (.lt 0 (.num 1)))),some (sP (C.c (.drop (.n 0)))),some (sP (C.c (.hold (.n 1) (.n 0)))),some (sP (C.c (.drop (.n 1)))),some (sP (C.c (.drop (.n 2)))),some (sP (C.c (.hold (.n 0) .q))),some (sP (C.c (.lt 0 (.fn true)))),some (sP (C.c (.lt 2 (.mk 2 [(.n 0),(.n 1)] false)))),some (sP (C.c (.lt 2 (.mk 2 [(.n 0),(.n 0)] false)))),some (sP (C.c (.lt 1 (.op (.n 0) .q)))),some (sP (C.c (.lt 1 (.call (.n 0) .q)))),some (sP (C.c (.lt 1 (.call (.n 0) (.n 0))))),some (sP (C.c (.lt 2 (.ask (.n 0) [(.n 1)])))),some (sP (C.c (.lt 2 (.ask (.n 0) [(.n 0)])))),some (sP (C.c (.lt 1 (.mk 1 [.q] false))))] _ _
  exact run_ret (rd_lst (rda_c (rd_tup (rda_c (rd_lst (rda_c rd_v (rda_c rd_v rda_n))) (rda_c (rd_lst (rda_c rd_v (rda_c rd_v (rda_c rd_v rda_n)))) rda_n))) (rda_c (rd_tup (rda_c (rd_lst (rda_c rd_v (rda_c rd_v rda_n))) (rda_c (rd_lst (rda_c rd_v rda_n)) rda_n))) (rda_c (rd_tup (rda_c (rd_lst (rda_c rd_v (rda_c rd_v rda_n))) (rda_c (rd_lst (rda_c (rd_drop rd_v) rda_n)) rda_n))) (rda_c (rd_tup (rda_c (rd_lst (rda_c rd_v (rda_c rd_v (rda_c rd_v (rda_c rd_v rda_n))))) (rda_c (rd_lst (rda_c rd_v (rda_c rd_v (rda_c rd_v (rda_c rd_v (rda_c rd_v rda_n)))))) rda_n))) (rda_c (rd_tup (rda_c (rd_lst (rda_c rd_v (rda_c rd_v (rda_c rd_v (rda_c rd_v (rda_c rd_v (rda_c rd_v rda_n))))))) (rda_c (rd_lst (rda_c rd_v (rda_c rd_v (rda_c rd_v (rda_c rd_v (rda_c rd_v rda_n)))))) rda_n))) (rda_c (rd_tup (rda_c (rd_lst (rda_c rd_v (rda_c rd_v rda_n))) (rda_c (rd_lst (rda_c (rd_lt rd_ixs (rd_names (d:=.fn _ _) (fun _ _ q a b=>⟨q,a,b⟩) rd_ixs (rda_n:RdA _ tNil (sNs [])))) (rda_c rd_v rda_n))) rda_n))) (rda_c (rd_tup (rda_c (rd_lst (rda_c rd_v (rda_c rd_v (rda_c rd_v rda_n)))) (rda_c (rd_lst (rda_c rd_v (rda_c rd_v (rda_c rd_v rda_n)))) rda_n))) (rda_c (rd_tup (rda_c (rd_lst (rda_c rd_v (rda_c rd_v (rda_c rd_v (rda_c rd_v rda_n))))) (rda_c (rd_lst (rda_c rd_v (rda_c rd_v (rda_c rd_v (rda_c rd_v rda_n))))) rda_n))) (rda_c (rd_tup (rda_c (rd_lst (rda_c rd_v (rda_c rd_v (rda_c rd_v (rda_c rd_v rda_n))))) (rda_c (rd_lst (rda_c rd_v (rda_c rd_v (rda_c rd_v rda_n)))) rda_n))) (rda_c (rd_tup (rda_c (rd_lst (rda_c rd_v (rda_c rd_v (rda_c rd_v (rda_c rd_v rda_n))))) (rda_c (rd_lst (rda_c rd_v (rda_c rd_v (rda_c rd_v rda_n)))) rda_n))) (rda_c (rd_tup (rda_c (rd_lst (rda_c rd_v (rda_c (rd_lt rd_ixs (rd_make rd_ixs (rda_c rd_ixs (rda_n:RdA _ tNil (sNs []))) rd_c)) (rda_c rd_v rda_n)))) (rda_c (rd_lst (rda_c rd_v (rda_c rd_v rda_n))) rda_n))) (rda_c (rd_tup (rda_c (rd_lst (rda_c rd_v (rda_c rd_v (rda_c rd_v (rda_c rd_v rda_n))))) (rda_c (rd_lst (rda_c rd_v (rda_c (rd_hold rd_v rd_ixs) (rda_c rd_v (rda_c (rd_drop rd_v) rda_n))))) rda_n))) (rda_c (rd_tup (rda_c (rd_lst (rda_c rd_v (rda_c rd_v (rda_c rd_v (rda_c rd_v rda_n))))) (rda_c (rd_lst (rda_c rd_v (rda_c rd_v (rda_c rd_v (rda_c rd_v (rda_c rd_v rda_n)))))) rda_n))) (rda_c (rd_tup (rda_c (rd_lst rda_n) (rda_c (rd_lst (rda_c (rd_loose rd_c) rda_n)) rda_n))) rda_n)))))))))))))))
theorem scKeptBl:FnScope ["_law_n","_law_q","_law_tags","_law_token","_law_pair_here","_law_shut","_law_keep","_law_take","_law_look","_law_loose","_law_again","_law_one","_law_new","_law_more","_law_bare","_law_borrow","_law_filled"] ["_law_n","_law_q","_law_tags","_law_token"] (defScope sKeptBl):=⟨rfl,rfl,rfl,by decide +kernel,rfl,by decide +kernel,by decide +kernel⟩
theorem ok_kept (F:Fun K "_law_kept_blocks" "_law_kept_blocks" sKeptBl f fd) (GP:Ca P w K mg base CX0 1 "_law_pair" ["_law_n","_law_tags"] spPair) (GA:Ca P w K mg base CX0 1 "_law_arm" ["_law_n","_law_tags","_law_mode","_law_token"] spLArm):FnOk P w K mg base CX0 2 f fd ["_law_n","_law_q","_law_tags","_law_token"] spKept:=by
  refine F.by scKeptBl (fun vs H Q E h=>?_) (fun cdv A outer s H vs Q E hr h=>?_)
  · obtain ⟨C,h,_⟩:=h
    exact h.len
  obtain ⟨C,h,q⟩:=h
  have hr1:Room 1 _:=hr.mono (by decide)
  refine ⟨_,
    (jss_cons (js_set (i:=4) scKeptBl.nd rfl (Or.inl rfl) (je_ca GP hr1 rfl pass0 (ja_c (jv 0) (ja_c (jv 2) ja_nil))))
    (jss_cons (js_set (i:=5) scKeptBl.nd rfl (Or.inl rfl) (je_lst (ja_c (je_tup (ja_c je_str (ja_c (je_ix jx_list (jv 0) je_int (fun _ _=>rfl)) ja_nil))) (ja_c (je_tup (ja_c je_str (ja_c (je_ix jx_list (jv 0) je_int (fun _ _=>rfl)) ja_nil))) ja_nil))))
    (jss_cons (js_set (i:=6) scKeptBl.nd rfl (Or.inl rfl) (je_ca GA hr1 rfl pass0 (ja_c (jv 0) (ja_c (jv 2) (ja_c je_str (ja_c (jv 3) ja_nil))))))
    (jss_cons (js_set (i:=7) scKeptBl.nd rfl (Or.inl rfl) (je_ca GA hr1 rfl pass0 (ja_c (jv 0) (ja_c (jv 2) (ja_c je_str (ja_c je_str ja_nil))))))
    (jss_cons (js_set (i:=8) scKeptBl.nd rfl (Or.inl rfl) (je_ca GA hr1 rfl pass0 (ja_c (jv 0) (ja_c (jv 2) (ja_c je_str (ja_c je_str ja_nil))))))
    (jss_cons (js_set (i:=9) scKeptBl.nd rfl (Or.inl rfl) (je_tup (ja_c je_str (ja_c (jv 3) ja_nil))))
    (jss_cons (js_set (i:=10) scKeptBl.nd rfl (Or.inl rfl) (je_tup (ja_c je_str (ja_c (je_ix jx_list (jv 0) je_int (fun _ _=>rfl)) (ja_c (je_tup (ja_c je_str (ja_c (je_ix jx_list (jv 2) je_int (fun _ _=>rfl)) (ja_c (je_tup (ja_c (je_ix jx_list (jv 0) je_int (fun _ _=>rfl)) (ja_c (je_ix jx_list (jv 0) je_int (fun _ _=>rfl)) ja_nil))) (ja_c (jv 3) ja_nil))))) ja_nil)))))
    (jss_cons (js_set (i:=11) scKeptBl.nd rfl (Or.inl rfl) (je_tup (ja_c je_str (ja_c (je_ix jx_list (jv 0) je_int (fun _ _=>rfl)) (ja_c (je_tup (ja_c je_str (ja_c (je_ix jx_list (jv 2) je_int (fun _ _=>rfl)) (ja_c (je_tup (ja_c (je_ix jx_list (jv 0) je_int (fun _ _=>rfl)) ja_nil)) (ja_c (jv 3) ja_nil))))) ja_nil)))))
    (jss_cons (js_set (i:=12) scKeptBl.nd rfl (Or.inl rfl) (je_tup (ja_c je_str (ja_c (je_ix jx_list (jv 0) je_int (fun _ _=>rfl)) (ja_c (je_tup (ja_c je_str (ja_c (je_ix jx_list (jv 2) je_int (fun _ _=>rfl)) (ja_c (je_tup (ja_c (je_ix jx_list (jv 0) je_int (fun _ _=>rfl)) (ja_c (je_ix jx_list (jv 0) je_int (fun _ _=>rfl)) ja_nil))) (ja_c je_str ja_nil))))) ja_nil)))))
    (jss_cons (js_set (i:=13) scKeptBl.nd rfl (Or.inl rfl) (je_lst (ja_c (je_tup (ja_c je_str (ja_c (je_ix jx_list (jv 0) je_int (fun _ _=>rfl)) (ja_c (je_ix jx_list (jv 2) je_int (fun _ _=>rfl)) (ja_c (je_tup (ja_c (je_ix jx_list (jv 0) je_int (fun _ _=>rfl)) (ja_c (je_ix jx_list (jv 0) je_int (fun _ _=>rfl)) ja_nil))) (ja_c je_str (ja_c (jv 3) ja_nil))))))) (ja_c (jv 9) (ja_c (je_tup (ja_c je_str (ja_c (je_ix jx_list (jv 0) je_int (fun _ _=>rfl)) ja_nil))) (ja_c (je_tup (ja_c je_str (ja_c (je_ix jx_list (jv 0) je_int (fun _ _=>rfl)) ja_nil))) ja_nil))))))
    (jss_cons (js_set (i:=14) scKeptBl.nd rfl (Or.inl rfl) (je_tup (ja_c je_str (ja_c (je_ix jx_list (jv 0) je_int (fun _ _=>rfl)) (ja_c (je_tup (ja_c je_str (ja_c (je_ix jx_list (jv 2) je_int (fun _ _=>rfl)) (ja_c (je_tup ja_nil) (ja_c je_str ja_nil))))) ja_nil)))))
    (jss_cons (js_set (i:=15) scKeptBl.nd rfl (Or.inl rfl) (je_tup (ja_c je_str (ja_c (je_ix jx_list (jv 0) je_int (fun _ _=>rfl)) (ja_c (jv 1) ja_nil)))))
    (jss_cons (js_set (i:=16) scKeptBl.nd rfl (Or.inl rfl) (je_lst (ja_c (jv 10) (ja_c (je_tup (ja_c je_str (ja_c (je_ix jx_list (jv 0) je_int (fun _ _=>rfl)) ja_nil))) ja_nil))))
    (jss_one (js_ret (je_lst (ja_c (je_tup (ja_c (je_op jo_cat (je_op jo_cat (jv 4) (je_lst (ja_c (jv 8) (ja_c (je_tup (ja_c je_str (ja_c (je_ix jx_list (jv 0) je_int (fun _ _=>rfl)) ja_nil))) ja_nil)))) (jv 5)) (ja_c (je_op jo_cat (je_op jo_cat (jv 4) (je_lst (ja_c (je_ca GA hr1 rfl pass0 (ja_c (jv 0) (ja_c (jv 2) (ja_c je_str (ja_c (jv 3) ja_nil))))) (ja_c (jv 9) (ja_c (je_tup (ja_c je_str (ja_c (je_ix jx_list (jv 0) je_int (fun _ _=>rfl)) ja_nil))) ja_nil))))) (jv 5)) ja_nil))) (ja_c (je_tup (ja_c (je_op jo_cat (je_op jo_cat (jv 4) (je_lst (ja_c (jv 6) ja_nil))) (jv 16)) (ja_c (je_op jo_cat (je_op jo_cat (jv 4) (je_lst (ja_c (jv 7) ja_nil))) (jv 16)) ja_nil))) (ja_c (je_tup (ja_c (je_op jo_cat (je_op jo_cat (jv 4) (je_lst (ja_c (jv 6) ja_nil))) (jv 16)) (ja_c (je_op jo_cat (jv 4) (je_lst (ja_c (jv 6) (ja_c (jv 11) (ja_c (je_tup (ja_c je_str (ja_c (je_ix jx_list (jv 0) je_int (fun _ _=>rfl)) ja_nil))) (ja_c (je_tup (ja_c je_str (ja_c (je_ix jx_list (jv 0) je_int (fun _ _=>rfl)) ja_nil))) ja_nil)))))) ja_nil))) (ja_c (je_tup (ja_c (je_op jo_cat (je_op jo_cat (jv 4) (je_lst (ja_c (jv 6) (ja_c (jv 9) ja_nil)))) (jv 5)) (ja_c (je_op jo_cat (je_op jo_cat (jv 4) (je_lst (ja_c (jv 7) (ja_c (jv 9) ja_nil)))) (jv 5)) ja_nil))) (ja_c (je_tup (ja_c (je_op jo_cat (je_op jo_cat (jv 4) (je_lst (ja_c (jv 6) (ja_c (jv 9) ja_nil)))) (jv 5)) (ja_c (je_op jo_cat (je_op jo_cat (jv 4) (je_lst (ja_c (jv 6) ja_nil))) (jv 5)) ja_nil))) (ja_c (je_tup (ja_c (je_lst (ja_c (jv 14) (ja_c (je_tup (ja_c je_str (ja_c (je_ix jx_list (jv 0) je_int (fun _ _=>rfl)) (ja_c (je_ix jx_list (jv 2) je_int (fun _ _=>rfl)) (ja_c (je_tup ja_nil) (ja_c je_str (ja_c je_str ja_nil))))))) ja_nil))) (ja_c (je_lst (ja_c (jv 14) (ja_c (je_tup (ja_c je_str (ja_c (je_ix jx_list (jv 0) je_int (fun _ _=>rfl)) (ja_c (je_ix jx_list (jv 2) je_int (fun _ _=>rfl)) (ja_c (je_tup ja_nil) (ja_c je_str (ja_c (jv 3) ja_nil))))))) (ja_c (jv 9) ja_nil)))) ja_nil))) (ja_c (je_tup (ja_c (je_op jo_cat (je_op jo_cat (jv 4) (je_lst (ja_c (jv 6) (ja_c (jv 9) (ja_c (jv 12) ja_nil))))) (jv 13)) (ja_c (je_op jo_cat (je_op jo_cat (jv 4) (je_lst (ja_c (jv 6) (ja_c (jv 12) ja_nil)))) (jv 13)) ja_nil))) (ja_c (je_tup (ja_c (je_op jo_cat (je_op jo_cat (jv 4) (je_lst (ja_c (jv 7) ja_nil))) (jv 5)) (ja_c (je_op jo_cat (je_op jo_cat (je_op jo_cat (jv 4) (je_lst (ja_c (jv 7) ja_nil))) (jv 5)) (je_lst (ja_c (je_tup (ja_c je_str (ja_c (je_ix jx_list (jv 0) je_int (fun _ _=>rfl)) ja_nil))) ja_nil))) ja_nil))) (ja_c (je_tup (ja_c (je_op jo_cat (je_op jo_cat (jv 4) (je_lst (ja_c (jv 15) (ja_c (je_tup (ja_c je_str (ja_c (je_ix jx_list (jv 0) je_int (fun _ _=>rfl)) ja_nil))) (ja_c (jv 7) ja_nil))))) (jv 5)) (ja_c (je_op jo_cat (je_op jo_cat (jv 4) (je_lst (ja_c (jv 15) (ja_c (jv 7) ja_nil)))) (jv 5)) ja_nil))) ja_nil))))))))))))))))))))))))),?_⟩
  refine Run.go (Γ:=[some (sLs C.ns),some (sA (.str C.q)),some (sLs C.ts),some (sA (.str C.tok)),none,none,none,none,none,none,none,none,none,none,none,none,none]) (S:=sL (keptA.map (blkS C))) ?_ (env_start (Ss:=[sLs C.ns,sA (.str C.q),sLs C.ts,sA (.str C.tok)]) h) q
  refine run_set (S':=sPs C [.lt 0 (.num 1),.lt 1 (.num 2),.lt 2 (.mk 2 [(.n 0),(.n 1)] false)]) (rd_call (rda_c rd_v (rda_c rd_v rda_n)) call_pair) ?_
  show Run [some (sLs C.ns),some (sA (.str C.q)),some (sLs C.ts),some (sA (.str C.tok)),some (sPs C [.lt 0 (.num 1),.lt 1 (.num 2),.lt 2 (.mk 2 [(.n 0),(.n 1)] false)]),none,none,none,none,none,none,none,none,none,none,none,none] _ _
  refine run_set (S':=sPs C [.drop (.n 3),.drop (.n 4)]) (rd_lst (rda_c (rd_drop rd_ixs) (rda_c (rd_drop rd_ixs) rda_n))) ?_
  show Run [some (sLs C.ns),some (sA (.str C.q)),some (sLs C.ts),some (sA (.str C.tok)),some (sPs C [.lt 0 (.num 1),.lt 1 (.num 2),.lt 2 (.mk 2 [(.n 0),(.n 1)] false)]),some (sPs C [.drop (.n 3),.drop (.n 4)]),none,none,none,none,none,none,none,none,none,none,none] _ _
  refine run_set (S':=sP (C.c (.arm (.n 2) 2 [3,4] true true))) (rd_call (rda_c rd_v (rda_c rd_v (rda_c rd_c (rda_c rd_v rda_n)))) call_arm) ?_
  show Run [some (sLs C.ns),some (sA (.str C.q)),some (sLs C.ts),some (sA (.str C.tok)),some (sPs C [.lt 0 (.num 1),.lt 1 (.num 2),.lt 2 (.mk 2 [(.n 0),(.n 1)] false)]),some (sPs C [.drop (.n 3),.drop (.n 4)]),some (sP (C.c (.arm (.n 2) 2 [3,4] true true))),none,none,none,none,none,none,none,none,none,none] _ _
  refine run_set (S':=sP (C.c (.arm (.n 2) 2 [3,4] true false))) (rd_call (rda_c rd_v (rda_c rd_v (rda_c rd_c (rda_c rd_c rda_n)))) call_arm) ?_
  show Run [some (sLs C.ns),some (sA (.str C.q)),some (sLs C.ts),some (sA (.str C.tok)),some (sPs C [.lt 0 (.num 1),.lt 1 (.num 2),.lt 2 (.mk 2 [(.n 0),(.n 1)] false)]),some (sPs C [.drop (.n 3),.drop (.n 4)]),some (sP (C.c (.arm (.n 2) 2 [3,4] true true))),some (sP (C.c (.arm (.n 2) 2 [3,4] true false))),none,none,none,none,none,none,none,none,none] _ _
  refine run_set (S':=sP (C.c (.arm (.n 2) 2 [3,4] false false))) (rd_call (rda_c rd_v (rda_c rd_v (rda_c rd_c (rda_c rd_c rda_n)))) call_arm) ?_
  show Run [some (sLs C.ns),some (sA (.str C.q)),some (sLs C.ts),some (sA (.str C.tok)),some (sPs C [.lt 0 (.num 1),.lt 1 (.num 2),.lt 2 (.mk 2 [(.n 0),(.n 1)] false)]),some (sPs C [.drop (.n 3),.drop (.n 4)]),some (sP (C.c (.arm (.n 2) 2 [3,4] true true))),some (sP (C.c (.arm (.n 2) 2 [3,4] true false))),some (sP (C.c (.arm (.n 2) 2 [3,4] false false))),none,none,none,none,none,none,none,none] _ _
  refine run_set (S':=sP (C.c (.loose true))) (rd_loose rd_v) ?_
  show Run [some (sLs C.ns),some (sA (.str C.q)),some (sLs C.ts),some (sA (.str C.tok)),some (sPs C [.lt 0 (.num 1),.lt 1 (.num 2),.lt 2 (.mk 2 [(.n 0),(.n 1)] false)]),some (sPs C [.drop (.n 3),.drop (.n 4)]),some (sP (C.c (.arm (.n 2) 2 [3,4] true true))),some (sP (C.c (.arm (.n 2) 2 [3,4] true false))),some (sP (C.c (.arm (.n 2) 2 [3,4] false false))),some (sP (C.c (.loose true))),none,none,none,none,none,none,none] _ _
  refine run_set (S':=sP (C.c (.lt 5 (.mk 2 [(.n 3),(.n 4)] true)))) (rd_lt rd_ixs (rd_make rd_ixs (rda_c rd_ixs (rda_c rd_ixs (rda_n:RdA _ tNil (sNs [])))) rd_v)) ?_
  show Run [some (sLs C.ns),some (sA (.str C.q)),some (sLs C.ts),some (sA (.str C.tok)),some (sPs C [.lt 0 (.num 1),.lt 1 (.num 2),.lt 2 (.mk 2 [(.n 0),(.n 1)] false)]),some (sPs C [.drop (.n 3),.drop (.n 4)]),some (sP (C.c (.arm (.n 2) 2 [3,4] true true))),some (sP (C.c (.arm (.n 2) 2 [3,4] true false))),some (sP (C.c (.arm (.n 2) 2 [3,4] false false))),some (sP (C.c (.loose true))),some (sP (C.c (.lt 5 (.mk 2 [(.n 3),(.n 4)] true)))),none,none,none,none,none,none] _ _
  refine run_set (S':=sP (C.c (.lt 5 (.mk 1 [(.n 3)] true)))) (rd_lt rd_ixs (rd_make rd_ixs (rda_c rd_ixs (rda_n:RdA _ tNil (sNs []))) rd_v)) ?_
  show Run [some (sLs C.ns),some (sA (.str C.q)),some (sLs C.ts),some (sA (.str C.tok)),some (sPs C [.lt 0 (.num 1),.lt 1 (.num 2),.lt 2 (.mk 2 [(.n 0),(.n 1)] false)]),some (sPs C [.drop (.n 3),.drop (.n 4)]),some (sP (C.c (.arm (.n 2) 2 [3,4] true true))),some (sP (C.c (.arm (.n 2) 2 [3,4] true false))),some (sP (C.c (.arm (.n 2) 2 [3,4] false false))),some (sP (C.c (.loose true))),some (sP (C.c (.lt 5 (.mk 2 [(.n 3),(.n 4)] true)))),some (sP (C.c (.lt 5 (.mk 1 [(.n 3)] true)))),none,none,none,none,none] _ _
  refine run_set (S':=sP (C.c (.lt 5 (.mk 2 [(.n 3),(.n 4)] false)))) (rd_lt rd_ixs (rd_make rd_ixs (rda_c rd_ixs (rda_c rd_ixs (rda_n:RdA _ tNil (sNs [])))) rd_c)) ?_
  show Run [some (sLs C.ns),some (sA (.str C.q)),some (sLs C.ts),some (sA (.str C.tok)),some (sPs C [.lt 0 (.num 1),.lt 1 (.num 2),.lt 2 (.mk 2 [(.n 0),(.n 1)] false)]),some (sPs C [.drop (.n 3),.drop (.n 4)]),some (sP (C.c (.arm (.n 2) 2 [3,4] true true))),some (sP (C.c (.arm (.n 2) 2 [3,4] true false))),some (sP (C.c (.arm (.n 2) 2 [3,4] false false))),some (sP (C.c (.loose true))),some (sP (C.c (.lt 5 (.mk 2 [(.n 3),(.n 4)] true)))),some (sP (C.c (.lt 5 (.mk 1 [(.n 3)] true)))),some (sP (C.c (.lt 5 (.mk 2 [(.n 3),(.n 4)] false)))),none,none,none,none] _ _
  refine run_set (S':=sPs C [.arm (.n 5) 2 [6,7] true true,.loose true,.drop (.n 6),.drop (.n 7)]) (rd_lst (rda_c (rd_arm rd_ixs rd_ixs (rda_c rd_ixs (rda_c rd_ixs (rda_n:RdA _ tNil (sNs [])))) rd_c rd_v) (rda_c rd_v (rda_c (rd_drop rd_ixs) (rda_c (rd_drop rd_ixs) rda_n))))) ?_
  show Run [some (sLs C.ns),some (sA (.str C.q)),some (sLs C.ts),some (sA (.str C.tok)),some (sPs C [.lt 0 (.num 1),.lt 1 (.num 2),.lt 2 (.mk 2 [(.n 0),(.n 1)] false)]),some (sPs C [.drop (.n 3),.drop (.n 4)]),some (sP (C.c (.arm (.n 2) 2 [3,4] true true))),some (sP (C.c (.arm (.n 2) 2 [3,4] true false))),some (sP (C.c (.arm (.n 2) 2 [3,4] false false))),some (sP (C.c (.loose true))),some (sP (C.c (.lt 5 (.mk 2 [(.n 3),(.n 4)] true)))),some (sP (C.c (.lt 5 (.mk 1 [(.n 3)] true)))),some (sP (C.c (.lt 5 (.mk 2 [(.n 3),(.n 4)] false)))),some (sPs C [.arm (.n 5) 2 [6,7] true true,.loose true,.drop (.n 6),.drop (.n 7)]),none,none,none] _ _
  refine run_set (S':=sP (C.c (.lt 0 (.mk 0 [] false)))) (rd_lt rd_ixs (rd_make rd_ixs (rda_n:RdA _ tNil (sNs [])) rd_c)) ?_
  show Run [some (sLs C.ns),some (sA (.str C.q)),some (sLs C.ts),some (sA (.str C.tok)),some (sPs C [.lt 0 (.num 1),.lt 1 (.num 2),.lt 2 (.mk 2 [(.n 0),(.n 1)] false)]),some (sPs C [.drop (.n 3),.drop (.n 4)]),some (sP (C.c (.arm (.n 2) 2 [3,4] true true))),some (sP (C.c (.arm (.n 2) 2 [3,4] true false))),some (sP (C.c (.arm (.n 2) 2 [3,4] false false))),some (sP (C.c (.loose true))),some (sP (C.c (.lt 5 (.mk 2 [(.n 3),(.n 4)] true)))),some (sP (C.c (.lt 5 (.mk 1 [(.n 3)] true)))),some (sP (C.c (.lt 5 (.mk 2 [(.n 3),(.n 4)] false)))),some (sPs C [.arm (.n 5) 2 [6,7] true true,.loose true,.drop (.n 6),.drop (.n 7)]),some (sP (C.c (.lt 0 (.mk 0 [] false)))),none,none] _ _
  refine run_set (S':=sP (C.c (.hold (.n 3) .q))) (rd_hold rd_ixs rd_v) ?_
  show Run [some (sLs C.ns),some (sA (.str C.q)),some (sLs C.ts),some (sA (.str C.tok)),some (sPs C [.lt 0 (.num 1),.lt 1 (.num 2),.lt 2 (.mk 2 [(.n 0),(.n 1)] false)]),some (sPs C [.drop (.n 3),.drop (.n 4)]),some (sP (C.c (.arm (.n 2) 2 [3,4] true true))),some (sP (C.c (.arm (.n 2) 2 [3,4] true false))),some (sP (C.c (.arm (.n 2) 2 [3,4] false false))),some (sP (C.c (.loose true))),some (sP (C.c (.lt 5 (.mk 2 [(.n 3),(.n 4)] true)))),some (sP (C.c (.lt 5 (.mk 1 [(.n 3)] true)))),some (sP (C.c (.lt 5 (.mk 2 [(.n 3),(.n 4)] false)))),some (sPs C [.arm (.n 5) 2 [6,7] true true,.loose true,.drop (.n 6),.drop (.n 7)]),some (sP (C.c (.lt 0 (.mk 0 [] false)))),some (sP (C.c (.hold (.n 3) .q))),none] _ _
  refine run_set (S':=sPs C [.lt 5 (.mk 2 [(.n 3),(.n 4)] true),.drop (.n 5)]) (rd_lst (rda_c rd_v (rda_c (rd_drop rd_ixs) rda_n))) ?_
  show Run [some (sLs C.ns),some (sA (.str C.q)),some (sLs C.ts),some (sA (.str C.tok)),some (sPs C [.lt 0 (.num 1),.lt 1 (.num 2),.lt 2 (.mk 2 [(.n 0),(.n 1)] false)]),some (sPs C [.drop (.n 3),.drop (.n 4)]),some (sP (C.c (.arm (.n 2) 2 [3,4] true true))),some (sP (C.c (.arm (.n 2) 2 [3,4] true false))),some (sP (C.c (.arm (.n 2) 2 [3,4] false false))),some (sP (C.c (.loose true))),some (sP (C.c (.lt 5 (.mk 2 [(.n 3),(.n 4)] true)))),some (sP (C.c (.lt 5 (.mk 1 [(.n 3)] true)))),some (sP (C.c (.lt 5 (.mk 2 [(.n 3),(.n 4)] false)))),some (sPs C [.arm (.n 5) 2 [6,7] true true,.loose true,.drop (.n 6),.drop (.n 7)]),some (sP (C.c (.lt 0 (.mk 0 [] false)))),some (sP (C.c (.hold (.n 3) .q))),some (sPs C [.lt 5 (.mk 2 [(.n 3),(.n 4)] true),.drop (.n 5)])] _ _
  exact run_ret (rd_lst (rda_c (rd_tup (rda_c (rd_catP [.lt 0 (.num 1),.lt 1 (.num 2),.lt 2 (.mk 2 [(.n 0),(.n 1)] false),.arm (.n 2) 2 [3,4] false false,.drop (.n 2)] [.drop (.n 3),.drop (.n 4)] (rd_catP [.lt 0 (.num 1),.lt 1 (.num 2),.lt 2 (.mk 2 [(.n 0),(.n 1)] false)] [.arm (.n 2) 2 [3,4] false false,.drop (.n 2)] rd_v (rd_lst (rda_c rd_v (rda_c (rd_drop rd_ixs) rda_n)))) rd_v) (rda_c (rd_catP [.lt 0 (.num 1),.lt 1 (.num 2),.lt 2 (.mk 2 [(.n 0),(.n 1)] false),.arm (.n 2) 2 [3,4] false true,.loose true,.drop (.n 2)] [.drop (.n 3),.drop (.n 4)] (rd_catP [.lt 0 (.num 1),.lt 1 (.num 2),.lt 2 (.mk 2 [(.n 0),(.n 1)] false)] [.arm (.n 2) 2 [3,4] false true,.loose true,.drop (.n 2)] rd_v (rd_lst (rda_c (rd_call (rda_c rd_v (rda_c rd_v (rda_c rd_c (rda_c rd_v rda_n)))) call_arm) (rda_c rd_v (rda_c (rd_drop rd_ixs) rda_n))))) rd_v) rda_n))) (rda_c (rd_tup (rda_c (rd_catP [.lt 0 (.num 1),.lt 1 (.num 2),.lt 2 (.mk 2 [(.n 0),(.n 1)] false),.arm (.n 2) 2 [3,4] true true] [.lt 5 (.mk 2 [(.n 3),(.n 4)] true),.drop (.n 5)] (rd_catP [.lt 0 (.num 1),.lt 1 (.num 2),.lt 2 (.mk 2 [(.n 0),(.n 1)] false)] [.arm (.n 2) 2 [3,4] true true] rd_v (rd_lst (rda_c rd_v rda_n))) rd_v) (rda_c (rd_catP [.lt 0 (.num 1),.lt 1 (.num 2),.lt 2 (.mk 2 [(.n 0),(.n 1)] false),.arm (.n 2) 2 [3,4] true false] [.lt 5 (.mk 2 [(.n 3),(.n 4)] true),.drop (.n 5)] (rd_catP [.lt 0 (.num 1),.lt 1 (.num 2),.lt 2 (.mk 2 [(.n 0),(.n 1)] false)] [.arm (.n 2) 2 [3,4] true false] rd_v (rd_lst (rda_c rd_v rda_n))) rd_v) rda_n))) (rda_c (rd_tup (rda_c (rd_catP [.lt 0 (.num 1),.lt 1 (.num 2),.lt 2 (.mk 2 [(.n 0),(.n 1)] false),.arm (.n 2) 2 [3,4] true true] [.lt 5 (.mk 2 [(.n 3),(.n 4)] true),.drop (.n 5)] (rd_catP [.lt 0 (.num 1),.lt 1 (.num 2),.lt 2 (.mk 2 [(.n 0),(.n 1)] false)] [.arm (.n 2) 2 [3,4] true true] rd_v (rd_lst (rda_c rd_v rda_n))) rd_v) (rda_c (rd_catP [.lt 0 (.num 1),.lt 1 (.num 2),.lt 2 (.mk 2 [(.n 0),(.n 1)] false)] [.arm (.n 2) 2 [3,4] true true,.lt 5 (.mk 1 [(.n 3)] true),.drop (.n 4),.drop (.n 5)] rd_v (rd_lst (rda_c rd_v (rda_c rd_v (rda_c (rd_drop rd_ixs) (rda_c (rd_drop rd_ixs) rda_n)))))) rda_n))) (rda_c (rd_tup (rda_c (rd_catP [.lt 0 (.num 1),.lt 1 (.num 2),.lt 2 (.mk 2 [(.n 0),(.n 1)] false),.arm (.n 2) 2 [3,4] true true,.loose true] [.drop (.n 3),.drop (.n 4)] (rd_catP [.lt 0 (.num 1),.lt 1 (.num 2),.lt 2 (.mk 2 [(.n 0),(.n 1)] false)] [.arm (.n 2) 2 [3,4] true true,.loose true] rd_v (rd_lst (rda_c rd_v (rda_c rd_v rda_n)))) rd_v) (rda_c (rd_catP [.lt 0 (.num 1),.lt 1 (.num 2),.lt 2 (.mk 2 [(.n 0),(.n 1)] false),.arm (.n 2) 2 [3,4] true false,.loose true] [.drop (.n 3),.drop (.n 4)] (rd_catP [.lt 0 (.num 1),.lt 1 (.num 2),.lt 2 (.mk 2 [(.n 0),(.n 1)] false)] [.arm (.n 2) 2 [3,4] true false,.loose true] rd_v (rd_lst (rda_c rd_v (rda_c rd_v rda_n)))) rd_v) rda_n))) (rda_c (rd_tup (rda_c (rd_catP [.lt 0 (.num 1),.lt 1 (.num 2),.lt 2 (.mk 2 [(.n 0),(.n 1)] false),.arm (.n 2) 2 [3,4] true true,.loose true] [.drop (.n 3),.drop (.n 4)] (rd_catP [.lt 0 (.num 1),.lt 1 (.num 2),.lt 2 (.mk 2 [(.n 0),(.n 1)] false)] [.arm (.n 2) 2 [3,4] true true,.loose true] rd_v (rd_lst (rda_c rd_v (rda_c rd_v rda_n)))) rd_v) (rda_c (rd_catP [.lt 0 (.num 1),.lt 1 (.num 2),.lt 2 (.mk 2 [(.n 0),(.n 1)] false),.arm (.n 2) 2 [3,4] true true] [.drop (.n 3),.drop (.n 4)] (rd_catP [.lt 0 (.num 1),.lt 1 (.num 2),.lt 2 (.mk 2 [(.n 0),(.n 1)] false)] [.arm (.n 2) 2 [3,4] true true] rd_v (rd_lst (rda_c rd_v rda_n))) rd_v) rda_n))) (rda_c (rd_tup (rda_c (rd_lst (rda_c rd_v (rda_c (rd_arm rd_ixs rd_ixs (rda_n:RdA _ tNil (sNs [])) rd_c rd_c) rda_n))) (rda_c (rd_lst (rda_c rd_v (rda_c (rd_arm rd_ixs rd_ixs (rda_n:RdA _ tNil (sNs [])) rd_c rd_v) (rda_c rd_v rda_n)))) rda_n))) (rda_c (rd_tup (rda_c (rd_catP [.lt 0 (.num 1),.lt 1 (.num 2),.lt 2 (.mk 2 [(.n 0),(.n 1)] false),.arm (.n 2) 2 [3,4] true true,.loose true,.lt 5 (.mk 2 [(.n 3),(.n 4)] false)] [.arm (.n 5) 2 [6,7] true true,.loose true,.drop (.n 6),.drop (.n 7)] (rd_catP [.lt 0 (.num 1),.lt 1 (.num 2),.lt 2 (.mk 2 [(.n 0),(.n 1)] false)] [.arm (.n 2) 2 [3,4] true true,.loose true,.lt 5 (.mk 2 [(.n 3),(.n 4)] false)] rd_v (rd_lst (rda_c rd_v (rda_c rd_v (rda_c rd_v rda_n))))) rd_v) (rda_c (rd_catP [.lt 0 (.num 1),.lt 1 (.num 2),.lt 2 (.mk 2 [(.n 0),(.n 1)] false),.arm (.n 2) 2 [3,4] true true,.lt 5 (.mk 2 [(.n 3),(.n 4)] false)] [.arm (.n 5) 2 [6,7] true true,.loose true,.drop (.n 6),.drop (.n 7)] (rd_catP [.lt 0 (.num 1),.lt 1 (.num 2),.lt 2 (.mk 2 [(.n 0),(.n 1)] false)] [.arm (.n 2) 2 [3,4] true true,.lt 5 (.mk 2 [(.n 3),(.n 4)] false)] rd_v (rd_lst (rda_c rd_v (rda_c rd_v rda_n)))) rd_v) rda_n))) (rda_c (rd_tup (rda_c (rd_catP [.lt 0 (.num 1),.lt 1 (.num 2),.lt 2 (.mk 2 [(.n 0),(.n 1)] false),.arm (.n 2) 2 [3,4] true false] [.drop (.n 3),.drop (.n 4)] (rd_catP [.lt 0 (.num 1),.lt 1 (.num 2),.lt 2 (.mk 2 [(.n 0),(.n 1)] false)] [.arm (.n 2) 2 [3,4] true false] rd_v (rd_lst (rda_c rd_v rda_n))) rd_v) (rda_c (rd_catP [.lt 0 (.num 1),.lt 1 (.num 2),.lt 2 (.mk 2 [(.n 0),(.n 1)] false),.arm (.n 2) 2 [3,4] true false,.drop (.n 3),.drop (.n 4)] [.drop (.n 2)] (rd_catP [.lt 0 (.num 1),.lt 1 (.num 2),.lt 2 (.mk 2 [(.n 0),(.n 1)] false),.arm (.n 2) 2 [3,4] true false] [.drop (.n 3),.drop (.n 4)] (rd_catP [.lt 0 (.num 1),.lt 1 (.num 2),.lt 2 (.mk 2 [(.n 0),(.n 1)] false)] [.arm (.n 2) 2 [3,4] true false] rd_v (rd_lst (rda_c rd_v rda_n))) rd_v) (rd_lst (rda_c (rd_drop rd_ixs) rda_n))) rda_n))) (rda_c (rd_tup (rda_c (rd_catP [.lt 0 (.num 1),.lt 1 (.num 2),.lt 2 (.mk 2 [(.n 0),(.n 1)] false),.hold (.n 3) .q,.drop (.n 3),.arm (.n 2) 2 [3,4] true false] [.drop (.n 3),.drop (.n 4)] (rd_catP [.lt 0 (.num 1),.lt 1 (.num 2),.lt 2 (.mk 2 [(.n 0),(.n 1)] false)] [.hold (.n 3) .q,.drop (.n 3),.arm (.n 2) 2 [3,4] true false] rd_v (rd_lst (rda_c rd_v (rda_c (rd_drop rd_ixs) (rda_c rd_v rda_n))))) rd_v) (rda_c (rd_catP [.lt 0 (.num 1),.lt 1 (.num 2),.lt 2 (.mk 2 [(.n 0),(.n 1)] false),.hold (.n 3) .q,.arm (.n 2) 2 [3,4] true false] [.drop (.n 3),.drop (.n 4)] (rd_catP [.lt 0 (.num 1),.lt 1 (.num 2),.lt 2 (.mk 2 [(.n 0),(.n 1)] false)] [.hold (.n 3) .q,.arm (.n 2) 2 [3,4] true false] rd_v (rd_lst (rda_c rd_v (rda_c rd_v rda_n)))) rd_v) rda_n))) rda_n))))))))))
theorem scArm:FnScope ["_law_n","_law_tags","_law_mode","_law_token"] ["_law_n","_law_tags","_law_mode","_law_token"] (defScope sArm):=⟨rfl,rfl,rfl,by decide +kernel,rfl,by decide +kernel,by decide +kernel⟩
theorem ok_larm (F:Fun K "_law_arm" "_law_arm" sArm f fd):FnOk P w K mg base CX0 1 f fd ["_law_n","_law_tags","_law_mode","_law_token"] spLArm:=by
  refine F.by scArm (fun vs H Q E h=>?_) (fun cdv A outer s H vs Q E hr h=>?_)
  · obtain ⟨C,m,k,h,_⟩:=h
    exact h.len
  obtain ⟨C,m,k,h,q⟩:=h
  refine ⟨_,
    (jss_one (js_ret (je_tup (ja_c je_str (ja_c (je_ix jx_list (jv 0) je_int (fun _ _=>rfl)) (ja_c (je_ix jx_list (jv 1) je_int (fun _ _=>rfl)) (ja_c (je_tup (ja_c (je_ix jx_list (jv 0) je_int (fun _ _=>rfl)) (ja_c (je_ix jx_list (jv 0) je_int (fun _ _=>rfl)) ja_nil))) (ja_c (jv 2) (ja_c (jv 3) ja_nil))))))))),?_⟩
  refine Run.go (Γ:=[some (sLs C.ns),some (sLs C.ts),some (sA (.str m)),some (sA (.str k))]) (S:=sP (.arm (C.n 2) (C.t 2) [C.n 3,C.n 4] m k)) ?_ (env_start (Ss:=[sLs C.ns,sLs C.ts,sA (.str m),sA (.str k)]) h) q
  exact run_ret (rd_arm rd_ixs rd_ixs (rda_c rd_ixs (rda_c rd_ixs (rda_n:RdA _ tNil (sNs [])))) rd_v rd_v)
end
end GN
namespace GN
open PySem L2 K11
def stp (ow:Ow):Pz->Hs->Option Hs
  | .lt x d,s=>(deedC ow d s).bind (bindN x)
  | .hold x y,s=>if lookAt y s=true then bindN x s else none
  | .drop x,s=>useUp x s
  | .loose t,s=>(useT t s).map (·.2)
  | .arm x _ ns m k,s=>if lookAt x s=true then armC x ns m k s else none
  | .fork q o,s=>if lookAt q s=true/\okB ow o s=true then some s else none
def steps (ow:Ow):List Pz->Hs->Option Hs
  | [],s=>some s
  | c :: r,s=>(stp ow c s).bind (steps ow r)
theorem steps_app (ow:Ow):∀ (a b:List Pz) (s:Hs),steps ow (a ++ b) s=(steps ow a s).bind (steps ow b)
  | [],b,s=>rfl
  | c :: a,b,s=>by
    rw [List.cons_append,steps,steps]
    cases stp ow c s with
    | none=>rfl
    | some s1=>exact steps_app ow a b s1
def jn (l:List Pz) (b:Bd):Bd:=l.foldr Pz.on b
def okO (ow:Ow) (b:Bd):Option Hs->Bool
  | none=>false
  | some s=>okB ow b s
theorem okB_on (ow:Ow) (c:Pz) (b:Bd) (s:Hs):okB ow (c.on b) s=okO ow b (stp ow c s):=by
  cases c with
  | lt x d =>
    rw [Pz.on,okB,stp]
    cases (deedC ow d s).bind (bindN x) <;> rfl
  | hold x y =>
    rw [Pz.on,okB,stp]
    cases lookAt y s with
    | false=>rfl
    | true =>
      rw [if_pos rfl,Bool.true_and]
      cases bindN x s <;> rfl
  | drop x =>
    rw [Pz.on,okB,stp]
    cases useUp x s <;> rfl
  | loose t =>
    rw [Pz.on,okB,stp]
    cases useT t s <;> rfl
  | arm x t ns m k =>
    rw [Pz.on,okB,stp,okA,okA]
    cases lookAt x s with
    | false=>rfl
    | true =>
      rw [if_pos rfl,Bool.true_and,Bool.and_true]
      cases armC x ns m k s <;> rfl
  | fork q o =>
    rw [Pz.on,okB,stp]
    cases lookAt q s with
    | false=>rfl
    | true =>
      rw [Bool.true_and]
      cases okB ow o s with
      | false =>
        rw [Bool.and_false]
        rfl
      | true =>
        rw [Bool.and_true]
        rfl
theorem okB_jn (ow:Ow) (b:Bd):∀ (l:List Pz) (s:Hs),okB ow (jn l b) s=okO ow b (steps ow l s)
  | [],s=>rfl
  | c :: l,s=>by
    show okB ow (c.on (jn l b)) s=_
    rw [okB_on,steps]
    cases stp ow c s with
    | none=>rfl
    | some s1=>exact okB_jn ow b l s1
structure Ax where
  e:List (Nat × Bool)
  k:Option Int
  deriving DecidableEq
inductive AO
  | fail
  | go (a:Ax)
  | huh
  deriving DecidableEq
def AO.bind:AO->(Ax->AO)->AO
  | .go a,f=>f a
  | .fail,_=>.fail
  | .huh,_=>.huh
def lkN (l:List (Nat × Bool)) (j:Nat):Option Bool:=(l.find? fun p=>decide (p.1=j)).map (·.2)
def aUse (r:Rf) (a:Ax):AO:=match r with
  | .q=>.fail
  | .n j=>if lkN a.e j=some true then .go ⟨a.e.filter fun p=>decide (p.1≠j),a.k⟩ else .fail
def aBind (r:Rf) (a:Ax):AO:=match r with
  | .q=>.fail
  | .n j=>if lkN a.e j=none then .go ⟨a.e ++ [(j,true)],a.k⟩ else .fail
def aSee (r:Rf) (a:Ax):Bool:=match r with
  | .q=>true
  | .n j=>(lkN a.e j).isSome
def aEs:AD->List (Rf × Bool)
  | .num _=>[]
  | .op a b=>[(a,false),(b,false)]
  | .mk _ ns _=>ns.map fun r=>(r,true)
  | .call a b=>[(a,true),(b,false)]
  | .fn _=>[]
  | .ask g ns=>(g,true) :: ns.map fun r=>(r,true)
def aUseAll:List (Rf × Bool)->Ax->AO
  | [],a=>.go a
  | (r,true) :: l,a=>(aUse r a).bind (aUseAll l)
  | (_,false) :: l,a=>aUseAll l a
def aSeeAll:List (Rf × Bool)->Ax->Bool
  | [],_=>true
  | (_,true) :: l,a=>aSeeAll l a
  | (r,false) :: l,a=>aSee r a && aSeeAll l a
def aTok (inb:Bool) (n:Int) (a:Ax):AO:=match a.k with
  | some m=>if m=n then .go ⟨a.e,none⟩ else .fail
  | none=>if inb=true then .huh else .fail
def aRest (inb:Bool):AD->Ax->AO
  | .fn h,a=>if h=true then .go a else .fail
  | .mk _ ns true,a=>aTok inb ((ns.length:Nat):Int) a
  | _,a=>.go a
def aDeed (inb:Bool) (d:AD) (a:Ax):AO:=(aUseAll (aEs d) a).bind fun a1=>if aSeeAll (aEs d) a1=true then aRest inb d a1 else .fail
def aBindAll:List Nat->Ax->AO
  | [],a=>.go a
  | j :: l,a=>(aBind (.n j) a).bind (aBindAll l)
def aKeep (inb:Bool) (n:Int) (a:Ax):AO:=match a.k with
  | some _=>.fail
  | none=>if inb=true then .fail else .go ⟨a.e,some n⟩
def aP (inb:Bool):AP->Ax->AO
  | .lt j d,a=>(aDeed inb d a).bind (aBind (.n j))
  | .hold x y,a=>if aSee y a=true then aBind x a else .fail
  | .drop x,a=>aUse x a
  | .loose true,a=>(match a.k with
    | some _=>.go ⟨a.e,none⟩
    | none=>if inb=true then .huh else .fail)
  | .loose false,_=>.fail
  | .arm x _ ns m k,a=>if aSee x a=true then (if m=true then aUse x a else .go a).bind fun a1=>(aBindAll ns a1).bind fun a2=>if k=true then (if m=true/\0 < ns.length then aKeep inb ((ns.length:Nat):Int) a2 else .fail) else .go a2 else .fail
def aRun (inb:Bool):List AP->Ax->AO
  | [],a=>.go a
  | c :: l,a=>(aP inb c a).bind (aRun inb l)
def ax0:Ax:=⟨[],none⟩
def Ax.dirty (a:Ax):Bool:=a.e.any (·.2) || a.k.isSome
def AO.dirty:AO->Bool
  | .fail=>true
  | .go a=>a.dirty
  | .huh=>false
theorem good_a:∀ g∈plainA ++ keptA,aRun false g.1 ax0=.go ax0/\(aRun true g.1 ax0=.go ax0\/aRun true g.1 ax0=.fail):=by decide +kernel
theorem bad_a:∀ g∈plainA ++ keptA,(aRun false g.2 ax0).dirty=true:=by decide +kernel
def rfOk:Rf->Bool
  | .q=>true
  | .n j=>decide (j < 8)
def apOk:AP->Bool
  | .lt j d=>decide (j < 8) && (aEs d).all fun p=>rfOk p.1
  | .hold x y=>rfOk x && rfOk y
  | .drop x=>rfOk x
  | .loose _=>true
  | .arm x _ ns _ _=>rfOk x && ns.all fun j=>decide (j < 8)
theorem all_ok:∀ g∈plainA ++ keptA,g.1.all apOk=true/\g.2.all apOk=true:=by decide +kernel
end GN
namespace GN
open PySem L2 K11
theorem look_app {α:Type} (a b:List (Str × α)) (x:Str):look (a ++ b) x=(look a x).or (look b x):=by
  unfold look
  rw [List.find?_append]
  cases List.find? (fun p=>decide (p.1=x)) a <;> rfl
theorem drpA_no {α:Type} {l:List (Str × α)} {x:Str} (h:look l x=none):drpA l x=l:=by
  unfold drpA
  refine List.filter_eq_self.mpr fun p hp=>decide_eq_true fun e=>?_
  unfold look at h
  rw [Option.map_eq_none_iff,List.find?_eq_none] at h
  exact h p hp (decide_eq_true e)
theorem restD_e {ow:Ow} {t:Str} {ns:List Str} {s:Hs}:restD ow (.mk t ns "") s=some s:=by
  rw [restD]
  exact if_pos rfl
structure Bs (ow:Ow) (C:Bk) (s:Hs) (inb:Bool):Prop where
  q:look s.ns C.q=some false
  fr:∀ j,j < 8->look s.ns (C.n j)=none
  inj:∀ i j,i < 8->j < 8->C.n i=C.n j->i=j
  nq:∀ j,j < 8->C.n j≠C.q
  tk:(look s.ts C.tok).isSome=inb
  te:look s.ts ""=none
  t0:C.tok≠""
  h0:look ow (C.h 0)=some [true,false]
  h1:look ow (C.h 1)=some [true]
def cE (C:Bk) (l:List (Nat × Bool)):List (Str × Bool):=l.map fun p=>(C.n p.1,p.2)
def cK (C:Bk) (k:Option Int):List (Str × Int):=match k with
  | none=>[]
  | some n=>[(C.tok,n)]
def conc (C:Bk) (s:Hs) (a:Ax):Hs:=⟨s.ns ++ cE C a.e,s.ts ++ cK C a.k⟩
theorem conc0 (C:Bk) (s:Hs):conc C s ax0=s:=by
  unfold conc ax0 cE cK
  simp
structure InR (inb:Bool) (a:Ax):Prop where
  e:∀ p∈a.e,p.1 < 8
  k:inb=true->a.k=none
section
variable {ow:Ow} {C:Bk} {s:Hs} {inb:Bool}
def Rel (C:Bk) (s:Hs) (inb:Bool):AO->Option Hs->Prop
  | .fail,x=>x=none
  | .go a,x=>x=some (conc C s a)/\InR inb a
  | .huh,_=>True
theorem Rel.bind {o:AO} {x:Option Hs} {f:Ax->AO} {g:Hs->Option Hs} (h:Rel C s inb o x) (k:∀ a,InR inb a->Rel C s inb (f a) (g (conc C s a))):Rel C s inb (o.bind f) (x.bind g):=by
  cases o with
  | fail =>
    have h:x=none:=h
    rw [h]
    rfl
  | go a =>
    obtain ⟨rfl,hi⟩:=h
    exact k a hi
  | huh=>trivial
theorem look_cE (B:Bs ow C s inb):∀ {l:List (Nat × Bool)} {j:Nat},(∀ p∈l,p.1 < 8)->j < 8->look (cE C l) (C.n j)=lkN l j
  | [],j,_,_=>rfl
  | p :: l,j,h,hj=>by
    have ih:=look_cE B (l:=l) (fun x hx=>h x (List.mem_cons_of_mem _ hx)) hj
    unfold look lkN cE at *
    rw [List.map_cons,List.find?_cons,List.find?_cons]
    by_cases c:p.1=j
    · rw [decide_eq_true c,decide_eq_true (by rw [c])]
      rfl
    · rw [decide_eq_false c,decide_eq_false (fun z=>c (B.inj _ _ (h p List.mem_cons_self) hj z))]
      exact ih
theorem look_n (B:Bs ow C s inb) {a:Ax} {j:Nat} (hi:InR inb a) (hj:j < 8):look (conc C s a).ns (C.n j)=lkN a.e j:=by
  show look (s.ns ++ cE C a.e) (C.n j)=_
  rw [look_app,B.fr j hj,Option.none_or,look_cE B hi.e hj]
theorem look_q (B:Bs ow C s inb) {a:Ax}:look (conc C s a).ns C.q=some false:=by
  show look (s.ns ++ cE C a.e) C.q=_
  rw [look_app,B.q]
  rfl
theorem drp_n (B:Bs ow C s inb) {a:Ax} {j:Nat} (hi:InR inb a) (hj:j < 8):drpA (conc C s a).ns (C.n j)=s.ns ++ cE C (a.e.filter fun p=>decide (p.1≠j)):=by
  show drpA (s.ns ++ cE C a.e) (C.n j)=_
  have e:drpA (s.ns ++ cE C a.e) (C.n j)=drpA s.ns (C.n j) ++ drpA (cE C a.e) (C.n j):=List.filter_append ..
  rw [e,drpA_no (B.fr j hj)]
  congr 1
  unfold drpA cE
  rw [List.filter_map]
  congr 1
  refine List.filter_congr fun p hp=>?_
  show decide (C.n p.1≠C.n j)=decide (p.1≠j)
  by_cases c:p.1=j
  · simp [c]
  · have c2:C.n p.1≠C.n j:=fun z=>c (B.inj _ _ (hi.e p hp) hj z)
    rw [decide_eq_true c2]
    exact (decide_eq_true c).symm
theorem rel_use (B:Bs ow C s inb) {r:Rf} {a:Ax} (hr:rfOk r=true) (hi:InR inb a):Rel C s inb (aUse r a) (useUp (C.r r) (conc C s a)):=by
  cases r with
  | q =>
    show useUp C.q (conc C s a)=none
    unfold useUp
    rw [look_q B,if_neg (by decide)]
  | n j =>
    have hj:j < 8:=of_decide_eq_true hr
    unfold aUse
    dsimp only
    show Rel C s inb _ (useUp (C.n j) (conc C s a))
    unfold useUp
    rw [look_n B hi hj]
    by_cases c:lkN a.e j=some true
    · rw [if_pos c,if_pos c]
      refine ⟨?_,⟨fun p hp=>hi.e p (List.mem_filter.mp hp).1,hi.k⟩⟩
      rw [drp_n B hi hj]
      rfl
    · rw [if_neg c,if_neg c]
      rfl
theorem rel_bind (B:Bs ow C s inb) {r:Rf} {a:Ax} (hr:rfOk r=true) (hi:InR inb a):Rel C s inb (aBind r a) (bindN (C.r r) (conc C s a)):=by
  cases r with
  | q =>
    show bindN C.q (conc C s a)=none
    unfold bindN
    rw [look_q B,if_neg (by decide)]
  | n j =>
    have hj:j < 8:=of_decide_eq_true hr
    unfold aBind
    dsimp only
    show Rel C s inb _ (bindN (C.n j) (conc C s a))
    unfold bindN
    rw [look_n B hi hj]
    by_cases c:lkN a.e j=none
    · rw [if_pos c,if_pos c]
      refine ⟨?_,⟨fun p hp=>?_,hi.k⟩⟩
      · unfold conc cE
        rw [List.map_append,List.append_assoc]
        rfl
      · rcases List.mem_append.mp hp with z | z
        · exact hi.e p z
        · rw [List.mem_singleton.mp z]
          exact hj
    · rw [if_neg c,if_neg c]
      rfl
theorem see_eq (B:Bs ow C s inb) {r:Rf} {a:Ax} (hr:rfOk r=true) (hi:InR inb a):lookAt (C.r r) (conc C s a)=aSee r a:=by
  cases r with
  | q =>
    show (look (conc C s a).ns C.q).isSome=true
    rw [look_q B]
    rfl
  | n j =>
    show (look (conc C s a).ns (C.n j)).isSome=(lkN a.e j).isSome
    rw [look_n B hi (of_decide_eq_true hr)]
def cEs (C:Bk) (l:List (Rf × Bool)):List (Str × Bool):=l.map fun p=>(C.r p.1,p.2)
theorem rel_useAll (B:Bs ow C s inb):∀ {l:List (Rf × Bool)} {a:Ax},(l.all fun p=>rfOk p.1)=true->InR inb a->Rel C s inb (aUseAll l a) (useAll (cEs C l) (conc C s a))
  | [],a,_,hi=>⟨rfl,hi⟩
  | (r,true) :: l,a,h,hi=>by
    rw [List.all_cons,Bool.and_eq_true] at h
    exact (rel_use B h.1 hi).bind fun a' hi'=>rel_useAll B h.2 hi'
  | (r,false) :: l,a,h,hi=>by
    rw [List.all_cons,Bool.and_eq_true] at h
    exact rel_useAll B (l:=l) h.2 hi
theorem see_all (B:Bs ow C s inb):∀ {l:List (Rf × Bool)} {a:Ax},(l.all fun p=>rfOk p.1)=true->InR inb a->lookAll (cEs C l) (conc C s a)=aSeeAll l a
  | [],a,_,hi=>rfl
  | (r,true) :: l,a,h,hi=>by
    rw [List.all_cons,Bool.and_eq_true] at h
    exact see_all B (l:=l) h.2 hi
  | (r,false) :: l,a,h,hi=>by
    rw [List.all_cons,Bool.and_eq_true] at h
    show (lookAt (C.r r) (conc C s a) && lookAll (cEs C l) (conc C s a))=(aSee r a && aSeeAll l a)
    rw [see_eq B h.1 hi,see_all B (l:=l) h.2 hi]
theorem zip_es (B:Bs ow C s inb) (d:AD):(namesD (C.d d)).zip (usedD ow (C.d d))=cEs C (aEs d):=by
  have z:∀ ns:List Rf,(ns.map C.r).zip ((ns.map C.r).map fun _=>true)=cEs C (ns.map fun r=>(r,true)):=fun ns=>by
    unfold cEs
    induction ns with
    | nil=>rfl
    | cons r ns ih=>rw [List.map_cons,List.map_cons,List.zip_cons_cons,ih]; rfl
  cases d with
  | num i=>rfl
  | op a b=>rfl
  | mk t ns k=>exact z ns
  | call a b =>
    show [C.r a,C.r b].zip ((look ow (C.h 0)).getD [])=_
    rw [B.h0]
    rfl
  | fn h=>cases h <;> rfl
  | ask g ns =>
    show (C.r g :: ns.map C.r).zip (true :: (ns.map C.r).map fun _=>true)=_
    rw [List.zip_cons_cons,z]
    rfl
theorem tok_no (B:Bs ow C s inb) (h:inb=false):look s.ts C.tok=none:=by
  have:=B.tk
  rw [h] at this
  cases c:look s.ts C.tok with
  | none=>rfl
  | some n=>rw [c] at this; cases this
theorem use_tok (B:Bs ow C s inb) {a:Ax} {n:Int} (hi:InR inb a) (h:a.k=some n):useT C.tok (conc C s a)=some (n,conc C s ⟨a.e,none⟩):=by
  have ib:inb=false:=by
    cases c:inb with
    | false=>rfl
    | true=>rw [hi.k c] at h; cases h
  have no:=tok_no B ib
  have e:(conc C s a).ts=s.ts ++ [(C.tok,n)]:=by
    unfold conc
    rw [h]
    rfl
  have l1:look [(C.tok,n)] C.tok=some n:=by
    unfold look
    rw [List.find?_cons,decide_eq_true rfl]
    rfl
  have e2:drpA (s.ts ++ [(C.tok,n)]) C.tok=s.ts:=by
    have:drpA (s.ts ++ [(C.tok,n)]) C.tok=drpA s.ts C.tok ++ drpA [(C.tok,n)] C.tok:=List.filter_append ..
    rw [this,drpA_no no]
    unfold drpA
    simp
  unfold useT
  rw [e,look_app,no,Option.none_or,l1,Option.map_some,e2]
  unfold conc cK
  simp
theorem use_tokn (B:Bs ow C s inb) {a:Ax} (ib:inb=false) (h:a.k=none):useT C.tok (conc C s a)=none:=by
  have e:(conc C s a).ts=s.ts:=by
    unfold conc cK
    rw [h]
    simp
  unfold useT
  rw [e,tok_no B ib]
  rfl
theorem use_e (B:Bs ow C s inb) {a:Ax}:useT "" (conc C s a)=none:=by
  have e:look (conc C s a).ts ""=none:=by
    show look (s.ts ++ cK C a.k) ""=none
    rw [look_app,B.te,Option.none_or]
    unfold cK look
    cases a.k with
    | none=>rfl
    | some n =>
      dsimp only
      rw [List.find?_cons,decide_eq_false B.t0]
      rfl
  unfold useT
  rw [e]
  rfl
theorem rel_rest (B:Bs ow C s inb) {d:AD} {a:Ax} (hi:InR inb a):Rel C s inb (aRest inb d a) (restD ow (C.d d) (conc C s a)):=by
  cases d with
  | num i=>exact ⟨rfl,hi⟩
  | op a b=>exact ⟨rfl,hi⟩
  | call a b=>exact ⟨rfl,hi⟩
  | ask g ns=>exact ⟨rfl,hi⟩
  | fn h =>
    cases h with
    | true =>
      refine ⟨?_,hi⟩
      show (if ((look ow (C.h 1)).getD []).all id=true then some (conc C s a) else none)=_
      rw [B.h1]
      rfl
    | false =>
      show (if ((look ow (C.h 0)).getD []).all id=true then some (conc C s a) else none)=none
      rw [B.h0]
      rfl
  | mk t ns k =>
    cases k with
    | false=>exact ⟨restD_e,hi⟩
    | true =>
      show Rel C s inb (aTok inb ((ns.length:Nat):Int) a) (if C.tok="" then some (conc C s a) else (useT C.tok (conc C s a)).bind fun p=>if p.1=(((ns.map C.r).length:Nat):Int) then some p.2 else none)
      rw [if_neg B.t0,List.length_map]
      unfold aTok
      cases h:a.k with
      | some m =>
        rw [use_tok B hi h,Option.bind_some]
        dsimp only
        by_cases c:m=((ns.length:Nat):Int)
        · rw [if_pos c,if_pos c]
          exact ⟨rfl,⟨hi.e,fun _=>rfl⟩⟩
        · rw [if_neg c,if_neg c]
          rfl
      | none =>
        dsimp only
        cases c:inb with
        | true =>
          rw [if_pos rfl]
          trivial
        | false =>
          rw [if_neg (by decide),use_tokn B c h]
          rfl
theorem rel_deed (B:Bs ow C s inb) {d:AD} {a:Ax} (hd:((aEs d).all fun p=>rfOk p.1)=true) (hi:InR inb a):Rel C s inb (aDeed inb d a) (deedC ow (C.d d) (conc C s a)):=by
  unfold aDeed deedC
  rw [zip_es B]
  refine (rel_useAll B hd hi).bind fun a1 hi1=>?_
  rw [see_all B hd hi1]
  by_cases c:aSeeAll (aEs d) a1=true
  · rw [if_pos c,if_pos c]
    exact rel_rest B hi1
  · rw [if_neg c,if_neg c]
    rfl
theorem rel_bindAll (B:Bs ow C s inb):∀ {ns:List Nat} {a:Ax},(ns.all fun j=>decide (j < 8))=true->InR inb a->Rel C s inb (aBindAll ns a) (bindAll (ns.map C.n) (conc C s a))
  | [],a,_,hi=>⟨rfl,hi⟩
  | j :: l,a,h,hi=>by
    rw [List.all_cons,Bool.and_eq_true] at h
    exact (rel_bind B (r:=.n j) h.1 hi).bind fun a' hi'=>rel_bindAll B h.2 hi'
theorem rel_piece (B:Bs ow C s inb) {c:AP} {a:Ax} (hc:apOk c=true) (hi:InR inb a):Rel C s inb (aP inb c a) (stp ow (C.c c) (conc C s a)):=by
  cases c with
  | lt j d =>
    unfold apOk at hc
    rw [Bool.and_eq_true] at hc
    exact (rel_deed B hc.2 hi).bind fun a' hi'=>rel_bind B (r:=.n j) hc.1 hi'
  | hold x y =>
    unfold apOk at hc
    rw [Bool.and_eq_true] at hc
    show Rel C s inb (if aSee y a=true then aBind x a else .fail) (if lookAt (C.r y) (conc C s a)=true then bindN (C.r x) (conc C s a) else none)
    rw [see_eq B hc.2 hi]
    by_cases h:aSee y a=true
    · rw [if_pos h,if_pos h]
      exact rel_bind B hc.1 hi
    · rw [if_neg h,if_neg h]
      rfl
  | drop x=>exact rel_use B hc hi
  | loose k =>
    cases k with
    | false =>
      show (useT "" (conc C s a)).map (·.2)=none
      rw [use_e B]
      rfl
    | true =>
      show Rel C s inb (match a.k with
        | some _=>.go ⟨a.e,none⟩
        | none=>if inb=true then .huh else .fail) ((useT C.tok (conc C s a)).map (·.2))
      cases h:a.k with
      | some m =>
        rw [use_tok B hi h]
        exact ⟨rfl,⟨hi.e,fun _=>rfl⟩⟩
      | none =>
        dsimp only
        cases c:inb with
        | true =>
          rw [if_pos rfl]
          trivial
        | false =>
          rw [if_neg (by decide),use_tokn B c h]
          rfl
  | arm x t ns m k =>
    unfold apOk at hc
    rw [Bool.and_eq_true] at hc
    show Rel C s inb (if aSee x a=true then _ else .fail) (if lookAt (C.r x) (conc C s a)=true then armC (C.r x) (ns.map C.n) (mdS m) (C.k k) (conc C s a) else none)
    rw [see_eq B hc.1 hi]
    by_cases h:aSee x a=true
    · rw [if_pos h,if_pos h]
      unfold armC
      have h1:Rel C s inb (if m=true then aUse x a else .go a) (if mdS m="take" then useUp (C.r x) (conc C s a) else some (conc C s a)):=by
        cases m with
        | true =>
          rw [if_pos rfl,if_pos (show mdS true="take" from rfl)]
          exact rel_use B hc.1 hi
        | false =>
          rw [if_neg (by decide),if_neg (by decide)]
          exact ⟨rfl,hi⟩
      refine h1.bind fun a1 hi1=>(rel_bindAll B hc.2 hi1).bind fun a2 hi2=>?_
      cases k with
      | false =>
        rw [if_neg (by decide)]
        exact ⟨if_pos rfl,hi2⟩
      | true =>
        rw [if_pos rfl]
        rw [show C.k true=C.tok from rfl,if_neg B.t0,List.length_map]
        have em':(mdS m="take")↔m=true:=by cases m <;> decide
        by_cases c:m=true/\0 < ns.length
        · rw [if_pos c,if_pos ⟨em'.mpr c.1,c.2⟩]
          unfold aKeep keepT
          cases hk:a2.k with
          | some n =>
            have e:look (conc C s a2).ts C.tok≠none:=by
              have:=use_tok B hi2 hk
              unfold useT at this
              intro z
              rw [z] at this
              cases this
            rw [if_neg e]
            rfl
          | none =>
            have e:(conc C s a2).ts=s.ts:=by
              unfold conc cK
              rw [hk]
              simp
            dsimp only
            rw [e]
            cases ib:inb with
            | true =>
              have:look s.ts C.tok≠none:=fun z=>by
                have t:=B.tk
                rw [z,ib] at t
                cases t
              rw [if_pos rfl,if_neg this]
              rfl
            | false =>
              rw [if_neg (by decide),if_pos (tok_no B ib)]
              refine ⟨?_,⟨hi2.e,fun z=>by cases z⟩⟩
              unfold conc cK
              rfl
        · rw [if_neg c,if_neg fun z=>c ⟨em'.mp z.1,z.2⟩]
          rfl
    · rw [if_neg h,if_neg h]
      rfl
theorem rel_run (B:Bs ow C s inb):∀ {l:List AP} {a:Ax},l.all apOk=true->InR inb a->Rel C s inb (aRun inb l a) (steps ow (l.map C.c) (conc C s a))
  | [],a,_,hi=>⟨rfl,hi⟩
  | c :: l,a,h,hi=>by
    rw [List.all_cons,Bool.and_eq_true] at h
    exact (rel_piece B h.1 hi).bind fun a' hi'=>rel_run B h.2 hi'
theorem in0:InR inb ax0:=⟨(fun p hp=>by cases hp),fun _=>rfl⟩
theorem good_blk (B:Bs ow C s inb) {g:List AP × List AP} (hg:g∈plainA ++ keptA):(inb=false->steps ow (g.1.map C.c) s=some s)/\(steps ow (g.1.map C.c) s=some s\/steps ow (g.1.map C.c) s=none):=by
  have r:=rel_run B (all_ok g hg).1 in0
  rw [conc0] at r
  obtain ⟨g1,g2⟩:=good_a g hg
  cases inb with
  | false =>
    rw [g1] at r
    have:steps ow (g.1.map C.c) s=some s:=by rw [r.1,conc0]
    exact ⟨fun _=>this,.inl this⟩
  | true =>
    refine ⟨(fun z=>by cases z),?_⟩
    rcases g2 with e | e
    · rw [e] at r
      exact .inl (by rw [r.1,conc0])
    · rw [e] at r
      exact .inr r
theorem bad_blk (B:Bs ow C s false) {g:List AP × List AP} (hg:g∈plainA ++ keptA):steps ow (g.2.map C.c) s=none\/∃ a:Ax,steps ow (g.2.map C.c) s=some (conc C s a)/\a.dirty=true/\∀ p∈a.e,p.1 < 8:=by
  have r:=rel_run B (all_ok g hg).2 in0
  rw [conc0] at r
  have b:=bad_a g hg
  cases h:aRun false g.2 ax0 with
  | fail=>rw [h] at r; exact .inl r
  | go a=>rw [h] at r b; exact .inr ⟨a,r.1,b,r.2.e⟩
  | huh=>rw [h] at b; cases b
end
end GN
namespace GN
open PySem L2 K11
theorem cl_ysG (k:Nat):cl (ys k)=List.replicate (k % 2) 121:=by
  unfold ys
  rcases (show k % 2=0\/k % 2=1 by lia) with e | e
  · rw [e]; decide +kernel
  · rw [e]; decide +kernel
theorem nm_injG {z:Str} {b:Bool} {j k:Nat} (hj:j < 1352) (hk:k < 1352) (h:nm z b j=nm z b k):j=k:=by
  have hl:∀ i:Nat,(cl (core i)).length=3:=fun i=>by rw [cl_core]; rfl
  have cinj:cl (core j)=cl (core k)->j % 2=k % 2->j=k:=fun e e0=>by
    rw [cl_core,cl_core] at e
    injection e with e1 e2
    injection e2 with _ e3
    injection e3 with e3 _
    lia
  have e:=congrArg cl h
  unfold nm at e
  cases b with
  | true =>
    rw [if_pos rfl,if_pos rfl,cl_app,cl_app,cl_app,cl_app] at e
    have el:=congrArg List.length e
    rw [List.length_append,List.length_append,List.length_append,List.length_append,hl,hl,cl_ysG,cl_ysG,List.length_replicate,List.length_replicate] at el
    rw [List.append_assoc,List.append_assoc] at e
    exact cinj (List.append_inj_left e (by rw [hl,hl])) (by lia)
  | false =>
    rw [if_neg (by decide),if_neg (by decide),cl_app,cl_app,cl_app,cl_app] at e
    have el:=congrArg List.length e
    rw [List.length_append,List.length_append,List.length_append,List.length_append,hl,hl,cl_ysG,cl_ysG,List.length_replicate,List.length_replicate] at el
    exact cinj (List.append_inj_right' e (by rw [hl,hl])) (by lia)
structure Wd where
  z:Str
  b:Bool
  ip:Nat
  iq:Nat
  lp:ip < 2
  lq:iq=2\/iq=3
def Wd.p (o:Wd):Str:=nm o.z o.b o.ip
def Wd.q (o:Wd):Str:=nm o.z o.b o.iq
def Wd.zz (o:Wd):Str:=nm o.z o.b 4
def Wd.C (o:Wd) (k:Nat) (tok:Str):Bk:=⟨fun j=>nm o.z o.b (5 + 8 * k + j),o.q,fun i=>nm o.z o.b (1 + i),fun i=>nm o.z o.b i,tok⟩
def otherB (C:Bk):Bd:=.lt (C.n 0) (.num 5) (.give (C.n 0))
def blk (C:Bk) (p:Str) (way:Nat):List Pz × List Pz:=match (plainA ++ keptA)[way]? with
  | some g=>(g.1.map C.c,g.2.map C.c)
  | none=>([.fork C.q (.drop p (otherB C))],[.fork C.q (otherB C)])
def Wd.s0 (o:Wd):Hs:=⟨[(o.p,true),(o.q,false)],[]⟩
structure OwO (o:Wd) (ow:Ow):Prop where
  h0:look ow (nm o.z o.b 0)=some [true,false]
  h1:look ow (nm o.z o.b 1)=some [true]
structure Dy (o:Wd) (k:Nat) (s:Hs):Prop where
  q:look s.ns o.q=some false
  fr:∀ k' j,k<=k'->k' < 5->j < 8->look s.ns (nm o.z o.b (5 + 8 * k' + j))=none
  te:look s.ts ""=none
  dy:(∃ x,x≠o.p/\x≠o.zz/\(x,true)∈s.ns)\/s.ts≠[]
section
variable {o:Wd} {ow:Ow} {k way:Nat} {tok:Str} {s:Hs}
theorem nm_ne {z:Str} {b:Bool} {i j:Nat} (hi:i < 100) (hj:j < 100) (h:i≠j):nm z b i≠nm z b j:=fun e=>h (nm_injG (by lia) (by lia) e)
theorem Wd.bs (ho:OwO o ow) (hk:k < 5) (ht:tok≠"") {s:Hs} (hq:look s.ns o.q=some false) (hf:∀ j,j < 8->look s.ns (nm o.z o.b (5 + 8 * k + j))=none) (te:look s.ts ""=none):Bs ow (o.C k tok) s (look s.ts tok).isSome:=by
  have:=o.lq
  exact ⟨hq,hf,fun i j hi hj e=>by have:=nm_injG (by lia) (by lia) e; lia,fun j hj=>nm_ne (by lia) (by rcases this with e | e <;> rw [e] <;> decide) (by lia),rfl,te,ht,ho.h0,ho.h1⟩
theorem look_one {α:Type} (x y:Str) (a:α) (l:List (Str × α)):look ((x,a) :: l) y=if x=y then some a else look l y:=by
  unfold look
  rw [List.find?_cons]
  by_cases c:x=y
  · rw [decide_eq_true c,if_pos c]
    rfl
  · rw [decide_eq_false c,if_neg c]
theorem p_q:o.p≠o.q:=by
  have:=o.lq
  have:=o.lp
  exact nm_ne (by lia) (by lia) (by lia)
theorem p_n {i:Nat} (h:4<=i) (h1:i < 100):o.p≠nm o.z o.b i:=by
  have:=o.lp
  exact nm_ne (by lia) (by lia) (by lia)
theorem q_n {i:Nat} (h:4<=i) (h1:i < 100):o.q≠nm o.z o.b i:=by
  have:=o.lq
  exact nm_ne (by lia) (by lia) (by lia)
theorem s0_q:look o.s0.ns o.q=some false:=by
  show look [(o.p,true),(o.q,false)] o.q=_
  rw [look_one,if_neg p_q,look_one,if_pos rfl]
theorem s0_n {i:Nat} (h:4<=i) (h1:i < 100):look o.s0.ns (nm o.z o.b i)=none:=by
  show look [(o.p,true),(o.q,false)] _=_
  rw [look_one,if_neg (p_n h h1),look_one,if_neg (q_n h h1)]
  rfl
theorem s0_p:look o.s0.ns o.p=some true:=by
  show look [(o.p,true),(o.q,false)] o.p=_
  rw [look_one,if_pos rfl]
theorem s0_dp:drpA o.s0.ns o.p=[(o.q,false)]:=by
  have:=o.lq
  have:=o.lp
  have n:o.q≠o.p:=nm_ne (by lia) (by lia) (by lia)
  show [(o.p,true),(o.q,false)].filter _=_
  rw [List.filter_cons_of_neg (by simp),List.filter_cons_of_pos (by simp [n])]
  rfl
theorem ok_other {x:Str} {i:Int} {s:Hs} (h:look s.ns x=none) (hc:clean s=true):okB ow (.lt x (.num i) (.give x)) s=true:=by
  rw [okB]
  have e1:deedC ow (.num i) s=some s:=rfl
  have e2:bindN x s=some ⟨s.ns ++ [(x,true)],s.ts⟩:=by unfold bindN; rw [if_pos h]
  rw [e1,Option.bind_some,e2]
  dsimp only
  rw [okB,pc]
  have e3:look (s.ns ++ [(x,true)]) x=some true:=by rw [look_app,h,Option.none_or,look_one,if_pos rfl]
  have e4:drpA (s.ns ++ [(x,true)]) x=s.ns:=by
    have:drpA (s.ns ++ [(x,true)]) x=drpA s.ns x ++ drpA [(x,true)] x:=List.filter_append ..
    rw [this,drpA_no h]
    unfold drpA
    simp
  have e5:useUp x ⟨s.ns ++ [(x,true)],s.ts⟩=some s:=by
    unfold useUp
    rw [if_pos e3,e4]
  rw [e5,Option.bind_some,if_pos hc]
  rfl
theorem okB_drop {x:Str} {b:Bd} {s s':Hs} (h:useUp x s=some s'):okB ow (.drop x b) s=okB ow b s':=by
  rw [okB,h]
theorem use_p:useUp o.p o.s0=some ⟨[(o.q,false)],[]⟩:=by
  unfold useUp
  rw [if_pos s0_p,s0_dp]
  rfl
theorem good_s0 (ho:OwO o ow) (hk:k < 5) (ht:tok≠""):steps ow (blk (o.C k tok) o.p way).1 o.s0=some o.s0:=by
  have B:Bs ow (o.C k tok) o.s0 (look o.s0.ts tok).isSome:=Wd.bs ho hk ht s0_q (fun j hj=>s0_n (by lia) (by lia)) rfl
  unfold blk
  cases h:(plainA ++ keptA)[way]? with
  | some g=>exact (good_blk B (List.mem_of_getElem? h)).1 rfl
  | none =>
    dsimp only
    rw [steps,stp]
    have l:lookAt (o.C k tok).q o.s0=true:=by
      show (look o.s0.ns o.q).isSome=true
      rw [s0_q]
      rfl
    have e:okB ow (.drop o.p (otherB (o.C k tok))) o.s0=true:=by
      rw [okB_drop use_p]
      refine ok_other ?_ rfl
      show look [(o.q,false)] (nm o.z o.b (5 + 8 * k + 0))=none
      rw [look_one,if_neg (q_n (by lia) (by lia))]
      rfl
    rw [if_pos ⟨l,e⟩]
    rfl
theorem good_dy (ho:OwO o ow) (hk:k < 5) (ht:tok≠"") (h:Dy o k s):steps ow (blk (o.C k tok) o.p way).1 s=some s\/steps ow (blk (o.C k tok) o.p way).1 s=none:=by
  have B:=Wd.bs ho hk ht h.q (fun j hj=>h.fr k j (Nat.le_refl _) hk hj) h.te
  unfold blk
  cases c:(plainA ++ keptA)[way]? with
  | some g=>exact (good_blk B (List.mem_of_getElem? c)).2
  | none =>
    dsimp only
    rw [steps,stp]
    split
    · exact .inl rfl
    · exact .inr rfl
theorem Dy.up (h:Dy o k s):Dy o (k + 1) s:=⟨h.q,fun k' j h1=>h.fr k' j (by lia),h.te,h.dy⟩
theorem not_clean {x:Str} {s:Hs} (h:(x,true)∈s.ns\/s.ts≠[]):clean s=false:=by
  unfold clean
  rcases h with h | h
  · have:s.ns.any (·.2)=true:=List.any_eq_true.mpr ⟨_,h,rfl⟩
    rw [this]
    exact Bool.and_false _
  · cases c:s.ts with
    | nil=>exact absurd c h
    | cons _ _=>rfl
theorem bad_s0 (ho:OwO o ow) (hk:k < 5) (ht:tok≠""):steps ow (blk (o.C k tok) o.p way).2 o.s0=none\/∃ s,steps ow (blk (o.C k tok) o.p way).2 o.s0=some s/\Dy o (k + 1) s:=by
  have B:Bs ow (o.C k tok) o.s0 (look o.s0.ts tok).isSome:=Wd.bs ho hk ht s0_q (fun j hj=>s0_n (by lia) (by lia)) rfl
  have B':Bs ow (o.C k tok) o.s0 false:=B
  unfold blk
  cases h:(plainA ++ keptA)[way]? with
  | some g =>
    rcases bad_blk B' (List.mem_of_getElem? h) with e | ⟨a,e,hd,hi⟩
    · exact .inl e
    · refine .inr ⟨_,e,⟨?_,fun k' j h1 h2 h3=>?_,?_,?_⟩⟩
      · exact look_q B'
      · show look (o.s0.ns ++ cE (o.C k tok) a.e) _=none
        rw [look_app,s0_n (by lia) (by lia),Option.none_or]
        refine look_no fun hm=>?_
        unfold cE at hm
        rw [List.map_map] at hm
        obtain ⟨p,hp,ep⟩:=List.mem_map.mp hm
        have ep:nm o.z o.b (5 + 8 * k + p.1)=nm o.z o.b (5 + 8 * k' + j):=ep
        have:=nm_injG (by have:=hi p hp; lia) (by lia) ep
        have:=hi p hp
        lia
      · show look (o.s0.ts ++ cK (o.C k tok) a.k) ""=none
        rw [show o.s0.ts=[] from rfl,List.nil_append]
        unfold cK
        cases a.k with
        | none=>rfl
        | some n =>
          dsimp only
          rw [look_one,if_neg (show (o.C k tok).tok≠"" from ht)]
          rfl
      · unfold Ax.dirty at hd
        rw [Bool.or_eq_true] at hd
        rcases hd with hd | hd
        · obtain ⟨p,hp,e2⟩:=List.any_eq_true.mp hd
          have:=hi p hp
          have:=o.lp
          refine .inl ⟨nm o.z o.b (5 + 8 * k + p.1),nm_ne (by lia) (by lia) (by lia),nm_ne (by lia) (by decide) (by lia),?_⟩
          refine List.mem_append_right _ (List.mem_map.mpr ⟨p,hp,?_⟩)
          rw [e2]
          rfl
        · refine .inr ?_
          obtain ⟨n,hn⟩:=Option.isSome_iff_exists.mp hd
          show o.s0.ts ++ cK (o.C k tok) a.k≠[]
          rw [hn]
          unfold cK
          simp
  | none =>
    left
    dsimp only
    rw [steps,stp]
    have e:okB ow (otherB (o.C k tok)) o.s0=false:=by
      unfold otherB
      rw [okB]
      have e1:deedC ow (.num 5) o.s0=some o.s0:=rfl
      have fr:look o.s0.ns ((o.C k tok).n 0)=none:=s0_n (by lia) (by lia)
      have e2:bindN ((o.C k tok).n 0) o.s0=some ⟨o.s0.ns ++ [((o.C k tok).n 0,true)],o.s0.ts⟩:=by unfold bindN; rw [if_pos fr]
      rw [e1,Option.bind_some,e2]
      dsimp only
      rw [okB,pc]
      cases c:useUp ((o.C k tok).n 0) ⟨o.s0.ns ++ [((o.C k tok).n 0,true)],o.s0.ts⟩ with
      | none=>rfl
      | some s1 =>
        have:clean s1=false:=by
          unfold useUp at c
          split at c
          · cases c
            have:=o.lp
            refine not_clean (x:=o.p) (.inl ?_)
            unfold drpA
            refine List.mem_filter.mpr ⟨List.mem_append_left _ List.mem_cons_self,decide_eq_true (nm_ne (by lia) (by lia) (by lia))⟩
          · cases c
        rw [Option.bind_some,if_neg (by rw [this]; decide)]
        rfl
    rw [if_neg (fun z=>by rw [e] at z; cases z.2)]
    rfl
inductive EndG (o:Wd):Bd->Prop
  | a:EndG o (.give o.p)
  | b:EndG o (.drop o.p (.hold o.zz o.q (.give o.zz)))
  | c:EndG o (.drop o.p (.lt o.zz (.num 6) (.give o.zz)))
def endBad (o:Wd):Bd:=.drop o.p (.give o.q)
theorem end_s0 {e:Bd} (h:EndG o e):okB ow e o.s0=true:=by
  have:=o.lq
  have nz:look [(o.q,false)] o.zz=none:=by
    rw [look_one,if_neg (show o.q≠o.zz from q_n (i:=4) (by decide) (by decide))]
    rfl
  cases h with
  | a =>
    rw [okB,pc,use_p,Option.bind_some]
    rfl
  | b =>
    rw [okB_drop use_p,okB]
    have l:lookAt o.q ⟨[(o.q,false)],[]⟩=true:=by
      unfold lookAt
      rw [look_one,if_pos rfl]
      rfl
    have e2:bindN o.zz ⟨[(o.q,false)],[]⟩=some ⟨[(o.q,false)] ++ [(o.zz,true)],[]⟩:=by unfold bindN; rw [if_pos nz]
    rw [l,Bool.true_and,e2]
    dsimp only
    rw [okB,pc]
    have e3:look ([(o.q,false)] ++ [(o.zz,true)]) o.zz=some true:=by rw [look_app,nz,Option.none_or,look_one,if_pos rfl]
    have e4:drpA ([(o.q,false)] ++ [(o.zz,true)]) o.zz=[(o.q,false)]:=by
      have:drpA ([(o.q,false)] ++ [(o.zz,true)]) o.zz=drpA [(o.q,false)] o.zz ++ drpA [(o.zz,true)] o.zz:=List.filter_append ..
      rw [this,drpA_no nz]
      unfold drpA
      simp
    have e5:useUp o.zz ⟨[(o.q,false)] ++ [(o.zz,true)],[]⟩=some ⟨[(o.q,false)],[]⟩:=by
      unfold useUp
      rw [if_pos e3,e4]
    rw [e5,Option.bind_some]
    rfl
  | c =>
    rw [okB_drop use_p]
    exact ok_other nz rfl
theorem end_bad:okB ow (endBad o) o.s0=false:=by
  unfold endBad
  rw [okB_drop use_p,okB,pc]
  have:useUp o.q ⟨[(o.q,false)],[]⟩=none:=by
    unfold useUp
    rw [if_neg]
    rw [look_one,if_pos rfl]
    decide
  rw [this]
  rfl
theorem keep_use {x y:Str} {s s':Hs} (h:useUp y s=some s') (hd:(x≠y/\(x,true)∈s.ns)\/s.ts≠[]):(x,true)∈s'.ns\/s'.ts≠[]:=by
  unfold useUp at h
  split at h
  · cases h
    rcases hd with ⟨n,m⟩ | m
    · exact .inl (List.mem_filter.mpr ⟨m,decide_eq_true n⟩)
    · exact .inr m
  · cases h
theorem give_no {x y:Str} {s:Hs} (hd:(x≠y/\(x,true)∈s.ns)\/s.ts≠[]):okB ow (.give y) s=false:=by
  rw [okB,pc]
  cases c:useUp y s with
  | none=>rfl
  | some s' =>
    rw [Option.bind_some,if_neg]
    · rfl
    · rw [not_clean (keep_use c hd)]
      decide
theorem keep_bind {x y:Str} {s s':Hs} (h:bindN y s=some s') (hd:(x,true)∈s.ns\/s.ts≠[]):(x,true)∈s'.ns\/s'.ts≠[]:=by
  unfold bindN at h
  split at h
  · cases h
    exact hd.imp (List.mem_append_left _) id
  · cases h
theorem end_dy {e:Bd} (h:EndG o e) (hd:Dy o k s):okB ow e s=false:=by
  obtain ⟨x,h1,h2,hx⟩:∃ x,x≠o.p/\x≠o.zz/\((x,true)∈s.ns\/s.ts≠[]):=by
    have:=o.lp
    rcases hd.dy with ⟨x,a,b,c⟩ | c
    · exact ⟨x,a,b,.inl c⟩
    · exact ⟨nm o.z o.b 60,nm_ne (by decide) (by lia) (by lia),nm_ne (by decide) (by decide) (by decide),.inr c⟩
  have sp:∀ {y:Str} {s:Hs},x≠y->((x,true)∈s.ns\/s.ts≠[])->((x≠y/\(x,true)∈s.ns)\/s.ts≠[]):=fun n h=>h.imp (fun m=>⟨n,m⟩) id
  cases h with
  | a=>exact give_no (sp h1 hx)
  | b =>
    rw [okB]
    cases c:useUp o.p s with
    | none=>rfl
    | some s1 =>
      dsimp only
      rw [okB]
      cases c2:bindN o.zz s1 with
      | none=>exact Bool.and_false _
      | some s2 =>
        dsimp only
        rw [give_no (sp h2 (keep_bind c2 (keep_use c (sp h1 hx)))),Bool.and_false]
  | c =>
    rw [okB]
    cases c:useUp o.p s with
    | none=>rfl
    | some s1 =>
      dsimp only
      rw [okB]
      have e1:deedC ow (.num 6) s1=some s1:=rfl
      rw [e1,Option.bind_some]
      cases c2:bindN o.zz s1 with
      | none=>rfl
      | some s2 =>
        dsimp only
        exact give_no (sp h2 (keep_bind c2 (keep_use c (sp h1 hx))))
def Pcs (o:Wd) (ow:Ow) (k:Nat) (hadBad:Bool) (l:List Pz):Prop:=if hadBad=true then steps ow l o.s0=none\/∃ s,steps ow l o.s0=some s/\Dy o k s else steps ow l o.s0=some o.s0
theorem pcs_nil:Pcs o ow 0 false []:=rfl
theorem pcs_good {l:List Pz} {hb:Bool} (ho:OwO o ow) (hk:k < 5) (ht:tok≠"") (h:Pcs o ow k hb l):Pcs o ow (k + 1) hb (l ++ (blk (o.C k tok) o.p way).1):=by
  unfold Pcs at *
  cases hb with
  | false =>
    rw [if_neg (by decide)] at *
    rw [steps_app,h,Option.bind_some,good_s0 ho hk ht]
  | true =>
    rw [if_pos rfl] at *
    rw [steps_app]
    rcases h with e | ⟨s,e,hd⟩
    · rw [e]
      exact .inl rfl
    · rw [e,Option.bind_some]
      rcases good_dy (way:=way) ho hk ht hd with g | g
      · exact .inr ⟨s,g,hd.up⟩
      · exact .inl g
theorem pcs_bad {l:List Pz} (ho:OwO o ow) (hk:k < 5) (ht:tok≠"") (h:Pcs o ow k false l):Pcs o ow (k + 1) true (l ++ (blk (o.C k tok) o.p way).2):=by
  unfold Pcs at *
  rw [if_neg (by decide)] at h
  rw [if_pos rfl,steps_app,h,Option.bind_some]
  exact bad_s0 ho hk ht
theorem pcs_end {l:List Pz} {hb:Bool} {e:Bd} (h:Pcs o ow k hb l) (he:EndG o e):okB ow (jn l e) o.s0=!hb:=by
  unfold Pcs at h
  rw [okB_jn]
  cases hb with
  | false =>
    rw [if_neg (by decide)] at h
    rw [h]
    exact end_s0 he
  | true =>
    rw [if_pos rfl] at h
    rcases h with z | ⟨s,z,hd⟩
    · rw [z]
      rfl
    · rw [z]
      exact end_dy he hd
theorem pcs_endb {l:List Pz} (h:Pcs o ow k false l):okB ow (jn l (endBad o)) o.s0=false:=by
  unfold Pcs at h
  rw [if_neg (by decide)] at h
  rw [okB_jn,h]
  exact end_bad
end
end GN
namespace GN
open PySem L2 K11
theorem Tups.new {H:Hp} {p:Addr} {o:HO} (h:H p=none):Tups H (upd H p o):=.of (same_new h o)
section
variable {Γ:Gm} {t ti:TE} {S:SV} {Ss:List SV} {K:PySem.W.Frag} {k:Int}
theorem rd_ixl (h:Rd Γ t (sL Ss)) (hi:Rd Γ ti (sA (.int k))) (a:atI Ss k=some S):Rd Γ (tOp (rIxL K) t ti) S:=fun σ H e Q q =>
  h σ H e _ fun v H1 s1 ⟨p,vs,e1,h1,a1⟩=>hi σ H1 (e.same s1) _ fun v2 H2 s2 e2=>by
    subst e1
    have e2:v2=.int k:=e2
    subst e2
    unfold atI at a
    cases c:ixN Ss.length k with
    | none=>rw [c] at a; cases a
    | some j =>
      rw [c] at a
      obtain ⟨v,hv,hS⟩:=a1.get (show Ss[j]?=some S from a)
      refine ⟨p,vs,k,v,rfl,rfl,SqL.of (s2 _ _ h1),?_,q v H2 (s1.trans s2) (S.s _ _ _ s2 hS)⟩
      unfold atI
      rw [a1.len,c]
      exact hv
end
def spBlock:Sp:=fun vs H Q _=>∃ (C:Bk) (p:Str) (way:Nat),sAll [sA (.int (way:Nat)),sLs C.ns,sA (.str p),sA (.str C.q),sLs C.ts,sLs C.hs,sA (.str C.tok)] vs H/\way < 24/\∀ v H',Same H H'->(sT [sL ((blk C p way).1.map sP),sL ((blk C p way).2.map sP)]).P v H'->Q v H'
theorem sPs_eq (C:Bk) (l:List AP):sPs C l=sL ((l.map C.c).map sP):=by
  unfold sPs
  rw [List.map_map]
  rfl
theorem blkS_eq {C:Bk} {p:Str} {way:Nat} {g:List AP × List AP} (h:(plainA ++ keptA)[way]?=some g):blkS C g=sT [sL ((blk C p way).1.map sP),sL ((blk C p way).2.map sP)]:=by
  unfold blkS blk
  rw [h,sPs_eq,sPs_eq]
theorem at_map {α:Type} {f:α->SV} {l:List α} {i:Nat} {x:α} (h:l[i]?=some x):atI (l.map f) ((i:Nat):Int)=some (f x):=by
  have hi:=(List.getElem?_eq_some_iff.mp h).1
  unfold atI ixN
  rw [List.length_map,if_pos (by lia),if_pos (by lia)]
  show (l.map f)[((i:Nat):Int).toNat]?=_
  rw [Int.toNat_natCast,List.getElem?_map,h]
  rfl
theorem pl_len:plainA.length=14:=rfl
theorem kp_len:keptA.length=9:=rfl
section
variable {Γ:Gm} {tx ty tb td:TE}
theorem rd_giveB {x:Str} (h:Rd Γ tx (sA (.str x))):Rd Γ (tTup (tCons (tC (.str "give")) (tCons tx tNil))) (sB (.give x)) :=
  (rd_tup (rda_c rd_c (rda_c h rda_n))).mono fun v H hv=>by
    obtain ⟨p,vs,rfl,hp,h⟩:=hv
    match vs,h with
    | [a,b],⟨e1,e2,_⟩=>cases e1; cases e2; exact ⟨p,rfl,hp⟩
theorem rd_ltB {x:Str} {d:Dd} {b:Bd} (h1:Rd Γ tx (sA (.str x))) (h2:Rd Γ td (sD d)) (h3:Rd Γ tb (sB b)):Rd Γ (tTup (tCons (tC (.str "let")) (tCons tx (tCons td (tCons tb tNil))))) (sB (.lt x d b)) :=
  (rd_tup (rda_c rd_c (rda_c h1 (rda_c h2 (rda_c h3 rda_n))))).mono fun v H hv=>by
    obtain ⟨p,vs,rfl,hp,h⟩:=hv
    match vs,h with
    | [a,b,c,d],⟨e1,e2,⟨q,e3,g3⟩,⟨r,e4,g4⟩,_⟩=>cases e1; cases e2; cases e3; cases e4; exact ⟨p,rfl,q,r,hp,g3,g4⟩
theorem rd_dropB {x:Str} {b:Bd} (h1:Rd Γ tx (sA (.str x))) (h3:Rd Γ tb (sB b)):Rd Γ (tTup (tCons (tC (.str "drop")) (tCons tx (tCons tb tNil)))) (sB (.drop x b)) :=
  (rd_tup (rda_c rd_c (rda_c h1 (rda_c h3 rda_n)))).mono fun v H hv=>by
    obtain ⟨p,vs,rfl,hp,h⟩:=hv
    match vs,h with
    | [a,b,c],⟨e1,e2,⟨q,e3,g3⟩,_⟩=>cases e1; cases e2; cases e3; exact ⟨p,rfl,q,hp,g3⟩
end
def PzsAt (H:Hp) (l:List Pz) (ts:List Addr):Prop:=l.length=ts.length/\∀ (i:Nat) (c:Pz) (t:Addr),l[i]?=some c->ts[i]?=some t->IsPz H c t
theorem PzsAt.keep {H H':Hp} {l:List Pz} {ts:List Addr} (t:Tups H H') (h:PzsAt H l ts):PzsAt H' l ts:=⟨h.1,fun i c p a b=>(h.2 i c p a b).keep t⟩
theorem pzs_of {H:Hp}:∀ {l:List Pz} {vs:List V},sAll (l.map sP) vs H->∃ ts:List Addr,vs=ts.map V.ref/\PzsAt H l ts
  | [],[],_=>⟨[],rfl,rfl,fun i c t h=>by simp at h⟩
  | c :: l,v :: vs,⟨⟨p,e,hp⟩,h⟩=>by
    obtain ⟨ts,e',hl,g⟩:=pzs_of (l:=l) h
    refine ⟨p :: ts,by rw [e,e']; rfl,by rw [List.length_cons,List.length_cons,hl],fun i c' t g1 g2=>?_⟩
    cases i with
    | zero=>cases g1; cases g2; exact hp
    | succ i=>exact g i c' t (by simpa using g1) (by simpa using g2)
theorem PzsAt.app {H:Hp} {l m:List Pz} {ts us:List Addr} (h:PzsAt H l ts) (g:PzsAt H m us):PzsAt H (l ++ m) (ts ++ us):=by
  refine ⟨by rw [List.length_append,List.length_append,h.1,g.1],fun i c t a b=>?_⟩
  by_cases c':i < l.length
  · rw [List.getElem?_append_left c'] at a
    rw [List.getElem?_append_left (by rw [<- h.1]; exact c')] at b
    exact h.2 i c t a b
  · rw [List.getElem?_append_right (by lia)] at a
    rw [List.getElem?_append_right (by rw [<- h.1]; lia),<- h.1] at b
    exact g.2 _ c t a b
def spJoined:Sp:=fun vs H Q _=>∃ (pl pb:Addr) (l:List Pz) (ts:List Addr) (b:Bd),vs=[.ref pl,.ref pb]/\H pl=some (.lst (ts.map V.ref))/\PzsAt H l ts/\IsBd H b pb/\∀ H' r,Same H H'->IsBd H' (jn l b) r->Q (.ref r) H'
theorem jn_drop (l:List Pz) (b:Bd) {i:Nat} {c:Pz} (h:l[i]?=some c):jn (l.drop i) b=c.on (jn (l.drop (i + 1)) b):=by
  have hi:=(List.getElem?_eq_some_iff.mp h).1
  rw [List.drop_eq_getElem_cons hi,(List.getElem?_eq_some_iff.mp h).2]
  rfl
section
variable {P:Program} {w:World} {K:PySem.W.Frag} {mg:Str->Option Value} {base:Heap} {f R C cH uh:Addr} {fd:FuncData}
theorem scBlock:FnScope ["_law_way","_law_n","_law_p","_law_q","_law_tags","_law_heads","_law_token","_law_other"] ["_law_way","_law_n","_law_p","_law_q","_law_tags","_law_heads","_law_token"] (defScope sBlock):=⟨rfl,rfl,rfl,by decide +kernel,rfl,by decide +kernel,by decide +kernel⟩
theorem ok_block (F:Fun K "_law_block" "_law_block" sBlock f fd) (GP:Ca P w K mg base CX0 1 "_law_plain_blocks" ["_law_n","_law_q","_law_tags","_law_heads"] spPlain) (GK:Ca P w K mg base CX0 2 "_law_kept_blocks" ["_law_n","_law_q","_law_tags","_law_token"] spKept):FnOk P w K mg base CX0 3 f fd ["_law_way","_law_n","_law_p","_law_q","_law_tags","_law_heads","_law_token"] spBlock:=by
  refine F.by scBlock (fun vs H Q E h=>?_) (fun cdv A outer s H vs Q E hr h=>?_)
  · obtain ⟨C,p,way,h,_⟩:=h
    exact h.len
  obtain ⟨C,p,way,h,hw,q⟩:=h
  have hr1:Room 1 _:=hr.mono (by decide)
  refine ⟨_,
    (jss_cons (js_if (jt_cmpR jo_lt (jv 0) je_int (nomark _))
      (jss_one (js_ret (je_ix jx_list (je_ca GP hr1 rfl pass0 (ja_c (jv 1) (ja_c (jv 3) (ja_c (jv 4) (ja_c (jv 5) ja_nil))))) (jv 0) (fun _ _=>rfl)))) jss_nil)
    (jss_cons (js_if (jt_cmpR jo_lt (jv 0) je_int (nomark _))
      (jss_one (js_ret (je_ix jx_list (je_ca GK hr rfl pass0 (ja_c (jv 1) (ja_c (jv 3) (ja_c (jv 4) (ja_c (jv 6) ja_nil))))) (je_op jo_sub (jv 0) je_int) (fun _ _=>rfl)))) jss_nil)
    (jss_cons (js_set (i:=7) scBlock.nd rfl (Or.inl rfl) (je_tup (ja_c je_str (ja_c (je_ix jx_list (jv 1) je_int (fun _ _=>rfl)) (ja_c (je_tup (ja_c je_str (ja_c je_int ja_nil))) (ja_c (je_tup (ja_c je_str (ja_c (je_ix jx_list (jv 1) je_int (fun _ _=>rfl)) ja_nil))) ja_nil))))))
    (jss_one (js_ret (je_tup (ja_c (je_lst (ja_c (je_tup (ja_c je_str (ja_c (jv 3) (ja_c (je_tup (ja_c je_str (ja_c (jv 2) (ja_c (jv 7) ja_nil)))) ja_nil)))) ja_nil)) (ja_c (je_lst (ja_c (je_tup (ja_c je_str (ja_c (jv 3) (ja_c (jv 7) ja_nil)))) ja_nil)) ja_nil)))))))),?_⟩
  have env:Env (L2.start ["_law_way","_law_n","_law_p","_law_q","_law_tags","_law_heads","_law_token","_law_other"] vs) H [some (sA (.int (way:Nat))),some (sLs C.ns),some (sA (.str p)),some (sA (.str C.q)),some (sLs C.ts),some (sLs C.hs),some (sA (.str C.tok)),none]:=env_start (Ss:=[sA (.int (way:Nat)),sLs C.ns,sA (.str p),sA (.str C.q),sLs C.ts,sLs C.hs,sA (.str C.tok)]) h
  have pl:=pl_len
  have kl:=kp_len
  obtain ⟨v0,e0,hv0⟩:=env.2 0 _ rfl
  have hv0:v0=.int (way:Nat):=hv0
  subst hv0
  refine ⟨_,e0,_,_,rfl,rfl,_,rfl,ite2 (fun c=>?_) (fun c=>nxtC ?_)⟩
  · rw [decide_eq_true_eq] at c
    obtain ⟨g,hg⟩:∃ g,plainA[way]?=some g:=⟨_,List.getElem?_eq_getElem (by lia)⟩
    have hg2:(plainA ++ keptA)[way]?=some g:=by rw [List.getElem?_append_left (by lia)]; exact hg
    refine Run.go (S:=blkS C g) (run_ret (rd_ixl (rd_call (Ss:=[sLs C.ns,sA (.str C.q),sLs C.ts,sLs C.hs]) (S:=sL (plainA.map (blkS C))) (rda_c rd_v (rda_c rd_v (rda_c rd_v (rda_c rd_v rda_n)))) fun vs H Q h=>⟨C,h.1,h.2⟩) (k:=(way:Nat)) rd_v (at_map hg))) env fun v H' s' hv=>?_
    rw [blkS_eq (p:=p) hg2] at hv
    exact q v H' s' hv
  · rw [decide_eq_true_eq] at c
    dsimp only
    refine ⟨_,e0,_,_,rfl,rfl,_,rfl,ite2 (fun c2=>?_) (fun c2=>nxtC ?_)⟩
    · rw [decide_eq_true_eq] at c2
      obtain ⟨g,hg⟩:∃ g,keptA[way - 14]?=some g:=⟨_,List.getElem?_eq_getElem (by lia)⟩
      have hg2:(plainA ++ keptA)[way]?=some g:=by rw [List.getElem?_append_right (by lia),pl]; exact hg
      have ew:((way:Nat):Int) - 14=((way - 14:Nat):Int):=by lia
      refine Run.go (S:=blkS C g) (run_ret (rd_ixl (rd_call (Ss:=[sLs C.ns,sA (.str C.q),sLs C.ts,sA (.str C.tok)]) (S:=sL (keptA.map (blkS C))) (rda_c rd_v (rda_c rd_v (rda_c rd_v (rda_c rd_v rda_n)))) fun vs H Q h=>⟨C,h.1,h.2⟩) (k:=((way - 14:Nat):Int)) (fun σ H e Q q=>?_) (at_map hg))) env fun v H' s' hv=>?_
      · obtain ⟨v,a,b⟩:=e.2 0 _ rfl
        have b:v=.int (way:Nat):=b
        subst b
        exact ⟨_,a,_,_,rfl,rfl,q _ H (Same.refl _) (congrArg V.int ew)⟩
      · rw [blkS_eq (p:=p) hg2] at hv
        exact q v H' s' hv
    · rw [decide_eq_true_eq] at c2
      have hn:(plainA ++ keptA)[way]?=none:=List.getElem?_eq_none (by rw [List.length_append]; lia)
      dsimp only
      refine Run.go (S:=sT [sL [sP (.fork C.q (.drop p (otherB C)))],sL [sP (.fork C.q (otherB C))]]) ?run env fun v H' s' hv=>?_
      · refine run_set (S':=sB (otherB C)) ?_ ?_
        · exact rd_ltB (rd_ixs (ns:=C.ns)) rd_num (rd_giveB (rd_ixs (ns:=C.ns)))
        · exact run_ret (rd_tup (rda_c (rd_lst (rda_c (rd_fork rd_v (rd_dropB rd_v rd_v)) rda_n)) (rda_c (rd_lst (rda_c (rd_fork rd_v rd_v) rda_n)) rda_n)))
      · refine q v H' s' ?_
        unfold blk
        rw [hn]
        exact hv
theorem scJoined:FnScope ["_law_pieces","_law_body","_law_piece"] ["_law_pieces","_law_body"] (defScope sJoined):=⟨rfl,rfl,rfl,by decide +kernel,rfl,by decide +kernel,by decide +kernel⟩
theorem ok_joined (F:Fun K "_law_joined" "_law_joined" sJoined f fd) (m_reversed:mg "reversed"=none):FnOk P w K mg base CX0 1 f fd ["_law_pieces","_law_body"] spJoined:=by
  refine F.by scJoined (fun vs H Q E h=>?_) (fun cdv A outer s H vs Q E hr h=>?_)
  · obtain ⟨pl,pb,l,ts,b,rfl,_⟩:=h
    rfl
  obtain ⟨pl,pb,l,ts,b,rfl,hl,hP,hB,q⟩:=h
  refine ⟨_,
    (jss_cons (js_for PassesOwn.never rfl (ji_rev rfl m_reversed (ja_c (jv 0) ja_nil)) (jg_name (i:=2) scJoined.nd rfl (Or.inl rfl))
      (jss_one (js_if (jt_cmpR jo_eq (je_ix jx_tup (jv 2) je_int (fun _ _=>rfl)) je_str (nomark _))
        (jss_one (js_set (i:=1) scJoined.nd rfl (Or.inl rfl) (je_tup (ja_c je_str (ja_c (je_ix jx_tup (jv 2) je_int (fun _ _=>rfl)) (ja_c (je_tup (ja_c (je_op jo_catT (je_slice jl_tup (jv 2) (jo_some je_int) jo_none) (je_tup (ja_c (jv 1) ja_nil))) ja_nil)) ja_nil))))))
        (jss_one (js_if (jt_cmpR jo_eq (je_ix jx_tup (jv 2) je_int (fun _ _=>rfl)) je_str (nomark _))
          (jss_one (js_set (i:=1) scJoined.nd rfl (Or.inl rfl) (je_tup (ja_c je_str (ja_c (je_ix jx_tup (jv 2) je_int (fun _ _=>rfl)) (ja_c (jv 1) (ja_c (je_ix jx_tup (jv 2) je_int (fun _ _=>rfl)) ja_nil)))))))
          (jss_one (js_set (i:=1) scJoined.nd rfl (Or.inl rfl) (je_op jo_catT (jv 2) (je_tup (ja_c (jv 1) ja_nil))))))))))
    (jss_one (js_ret (jv 1)))),?_⟩
  have sl:=line0
  have tl:=hP.1
  refine ⟨_,rfl,_,_,rfl,SqL.of hl,for_rev (xs:=ts.map V.ref) (fun i σ H'=>∃ (r:Addr) (y:Option V),σ=[some (.ref pl),some (.ref r),y]/\Same H H'/\IsBd H' (jn (l.drop (l.length - i)) b) r) ⟨pb,none,rfl,Same.refl _,by rw [Nat.sub_zero,List.drop_of_length_le (Nat.le_refl _)]; exact hB⟩ (fun i σ H' _ h=>?_) ?_ ?_⟩
  · obtain ⟨_,_,_,s1,_⟩:=h
    exact SqL.of (s1 _ _ hl)
  · rintro i v σ H1 hv ⟨r,y,rfl,s1,hb⟩
    have hi:i < ts.length:=by
      have:=(List.getElem?_eq_some_iff.mp hv).1
      rwa [List.length_reverse,List.length_map] at this
    rw [List.getElem?_reverse (by rw [List.length_map]; exact hi),List.length_map,List.getElem?_map] at hv
    obtain ⟨t,ht,rfl⟩:=Option.map_eq_some_iff.mp hv
    obtain ⟨c,hc⟩:∃ c,l[ts.length - 1 - i]?=some c:=⟨_,List.getElem?_eq_getElem (by lia)⟩
    have hz:=(hP.2 _ c t hc ht).keep (.of s1)
    have ej:jn (l.drop (l.length - (i + 1))) b=c.on (jn (l.drop (l.length - i)) b):=by
      rw [show l.length - (i + 1)=ts.length - 1 - i by lia,jn_drop l b hc,show ts.length - 1 - i + 1=l.length - i by lia]
    generalize jn (l.drop (l.length - i)) b=bb at *
    have fin:∀ (H2:Hp) (r2:Addr),Same H1 H2->IsBd H2 (c.on bb) r2->∃ (r:Addr) (y:Option V),[some (V.ref pl),some (.ref r2),some (.ref t)]=[some (V.ref pl),some (.ref r),y]/\Same H H2/\IsBd H2 (jn (l.drop (l.length - (i + 1))) b) r:=fun H2 r2 s2 h=>⟨r2,_,rfl,s1.trans s2,by rw [ej]; exact h⟩
    have cls:(∃ (tg:Str) (xs:List V),H1 t=some (.tup (.str tg :: xs))/\tg≠"arm"/\tg≠"fork"/\xs.length<=10/\∀ (H2:Hp) (r2:Addr),Same H1 H2->H2 r2=some (.tup (.str tg :: (xs ++ [.ref r])))->IsBd H2 (c.on bb) r2)\/(∃ x tg ns m k,c=.arm x tg ns m k)\/∃ x o,c=.fork x o:=by
      cases c with
      | lt x d =>
        obtain ⟨q',h1,h2⟩:=hz
        exact .inl ⟨_,_,h1,by decide,by decide,by simp,fun H2 r2 s2 h=>⟨q',r,h,h2.keep (.of s2),hb.keep (.of s2)⟩⟩
      | hold x y=>exact .inl ⟨_,_,hz,by decide,by decide,by simp,fun H2 r2 s2 h=>⟨r,h,hb.keep (.of s2)⟩⟩
      | drop x=>exact .inl ⟨_,_,hz,by decide,by decide,by simp,fun H2 r2 s2 h=>⟨r,h,hb.keep (.of s2)⟩⟩
      | loose x=>exact .inl ⟨_,_,hz,by decide,by decide,by simp,fun H2 r2 s2 h=>⟨r,h,hb.keep (.of s2)⟩⟩
      | arm x tg ns m k=>exact .inr (.inl ⟨x,tg,ns,m,k,rfl⟩)
      | fork x o=>exact .inr (.inr ⟨x,o,rfl⟩)
    rcases cls with ⟨tg,xs,h1,n1,n2,hl2,g⟩ | ⟨x,tg,ns,m,k,rfl⟩ | ⟨x,o,rfl⟩
    · refine ⟨_,rfl,ixT h1 (atI_nat (j:=0) rfl) ⟨rfl,_,rfl,iteE (by rw [strd]; exact decide_eq_false n1) ?_⟩⟩
      refine ⟨_,rfl,ixT h1 (atI_nat (j:=0) rfl) ⟨rfl,_,rfl,iteE (by rw [strd]; exact decide_eq_false n2) ?_⟩⟩
      refine ⟨_,rfl,_,rfl,by show 1<=sizeLine; decide,fun p2 hp2=>⟨t,p2,_,[.ref r],rfl,rfl,SqT.of (old hp2 h1),SqT.of upd_same,by simp,by rw [List.length_cons]; show _ + 1<=_; lia,(fun z=>by cases z),fun _ p3 hp3=>?_⟩⟩
      exact fin _ p3 ((same_new hp2 _).new hp3) (g _ p3 ((same_new hp2 _).new hp3) upd_same)
    · obtain ⟨q',h1,h2⟩:=hz
      refine ⟨_,rfl,ixT h1 (atI_nat (j:=0) rfl) ⟨rfl,_,rfl,iteT ?_⟩⟩
      refine ⟨_,rfl,ixT h1 (atI_nat (j:=1) rfl) ⟨_,rfl,_,rfl,t,_,rfl,SqT.of h1,(fun z=>absurd z.1 (show ¬ (HT.sIx 6 0 (some 2)=0) by decide)),fun p1 hp1=>?_⟩⟩
      have e1:upd H1 p1 (.tup (cutV [.str "arm",.str x,.str tg,.ref q',.str m,.str k] (some 2) none))=upd H1 p1 (.tup [.str tg,.ref q',.str m,.str k]):=rfl
      rw [e1]
      refine ⟨_,rfl,by show 1<=sizeLine; decide,fun p2 hp2=>⟨p1,p2,[.str tg,.ref q',.str m,.str k],[.ref r],rfl,rfl,SqT.of (old hp2 upd_same),SqT.of upd_same,by simp,by show 4 + 1<=_; lia,(fun z=>by cases z),fun _ p3 hp3=>⟨by show 1<=sizeLine; decide,fun p4 hp4=>⟨by show 3<=sizeLine; decide,fun p5 hp5=>?_⟩⟩⟩⟩
      have s2:=((((same_new hp1 (.tup [.str tg,.ref q',.str m,.str k])).new (o:=.tup [.ref r]) hp2).new (o:=.tup ([.str tg,.ref q',.str m,.str k] ++ [.ref r])) hp3).new (o:=.tup [.ref p3]) hp4).new (o:=.tup [.str "case",.str x,.ref p4]) hp5
      exact fin _ p5 s2 ⟨p4,[p3],upd_same,old hp5 upd_same,p3,q',r,[],rfl,old hp5 (old hp4 upd_same),s2 _ _ h2,hb.keep (.of s2),rfl⟩
    · obtain ⟨ro,h1,h2⟩:=hz
      refine ⟨_,rfl,ixT h1 (atI_nat (j:=0) rfl) ⟨rfl,_,rfl,iteF ?_⟩⟩
      refine ⟨_,rfl,ixT h1 (atI_nat (j:=0) rfl) ⟨rfl,_,rfl,iteT ?_⟩⟩
      refine ⟨_,rfl,ixT h1 (atI_nat (j:=1) rfl) ⟨_,rfl,_,rfl,ixT h1 (atI_nat (j:=2) rfl) ⟨by show 4<=sizeLine; decide,fun p2 hp2=>?_⟩⟩⟩
      exact fin _ p2 (same_new hp2 _) ⟨r,ro,upd_same,hb.keep (.new hp2),h2.keep (.new hp2)⟩
  · rintro σ H1 ⟨r,y,rfl,s1,hb⟩
    rw [List.length_map,tl,Nat.sub_self,List.drop_zero] at hb
    exact ⟨_,rfl,q _ r s1 hb⟩
end
end GN
namespace L2
open PySem
end L2
namespace GN
open PySem L2 K11
def spEnd (K:PySem.W.Frag):Sp:=fun vs H Q _=>∃ (st:Addr) (o:Wd) (bad:Bool) (B:Nat),vs=[.ref st,.str o.p,.str o.q,.str o.zz,.bl bad]/\Sta K H st B/\B + 1 < LIM/\∀ (H':Hp) (r:Addr) (e:Bd),Kp st H H'->Sta K H' st (B + 1)->IsBd H' e r->(bad=true->e=endBad o)->(bad=false->EndG o e)->Q (.ref r) H'
structure PzG (o:Wd) (c:Pz):Prop where
  ok:∀ ow,OwO o ow->∀ b,OkBd ow b->OkBd ow (c.on b)
  sz:∀ b,(c.on b).sz<=b.sz + 10
  wt:∀ b,(c.on b).wt<=b.wt + 10
theorem jn_ok {o:Wd} {ow:Ow} (ho:OwO o ow) {b:Bd} (hb:OkBd ow b):∀ {l:List Pz},(∀ c∈l,PzG o c)->OkBd ow (jn l b)/\(jn l b).sz<=b.sz + 10 * l.length/\(jn l b).wt<=b.wt + 10 * l.length
  | [],_=>⟨hb,Nat.le_refl _,Nat.le_refl _⟩
  | c :: l,h=>by
    obtain ⟨a1,a2,a3⟩:=jn_ok ho hb (l:=l) fun x hx=>h x (List.mem_cons_of_mem _ hx)
    have g:=h c List.mem_cons_self
    have g2:=g.sz (jn l b)
    have g3:=g.wt (jn l b)
    rw [List.length_cons]
    exact ⟨g.ok ow ho _ a1,by show (c.on (jn l b)).sz<=_; lia,by show (c.on (jn l b)).wt<=_; lia⟩
def adSm:AD->Bool
  | .mk _ ns _=>decide (ns.length<=2)
  | .ask _ ns=>decide (ns.length<=2)
  | _=>true
def apSm:AP->Bool
  | .lt _ d=>adSm d
  | .arm _ _ ns _ _=>decide (ns.length<=2)
  | _=>true
theorem all_sm:∀ g∈plainA ++ keptA,(g.1.all apSm=true/\g.1.length<=12)/\g.2.all apSm=true/\g.2.length<=12:=by decide +kernel
section
variable {o:Wd} {k way:Nat} {tok:Str}
theorem sm_names {C:Bk} {d:AD} (h:adSm d=true):(namesD (C.d d)).length<=1000:=by
  cases d with
  | num i=>exact Nat.zero_le _
  | op a b=>show 2<=1000; decide
  | mk t ns k =>
    have h:ns.length<=2:=of_decide_eq_true h
    show (ns.map C.r).length<=1000
    rw [List.length_map]
    lia
  | call a b=>show 2<=1000; decide
  | fn hh=>cases hh <;> exact Nat.zero_le _
  | ask g ns =>
    have h:ns.length<=2:=of_decide_eq_true h
    show (C.r g :: ns.map C.r).length<=1000
    rw [List.length_cons,List.length_map]
    lia
theorem sm_okd {ow:Ow} (ho:OwO o ow) (d:AD):OkD ow ((o.C k tok).d d):=by
  cases d with
  | num i=>trivial
  | op a b=>trivial
  | mk t ns k=>trivial
  | call a b=>exact ⟨_,ho.h0⟩
  | fn h=>cases h with
    | true=>exact ⟨_,ho.h1⟩
    | false=>exact ⟨_,ho.h0⟩
  | ask g ns=>trivial
theorem pz_g {a:AP} (h:apSm a=true):PzG o ((o.C k tok).c a):=by
  cases a with
  | lt j d =>
    refine ⟨fun ow ho b hb=>?_,fun b=>?_,fun b=>?_⟩
    · show OkBd ow (.lt _ _ b)
      rw [OkBd]
      exact ⟨sm_names h,sm_okd ho d,hb⟩
    · show (Bd.lt _ _ b).sz<=_
      rw [Bd.sz]
      lia
    · show (Bd.lt _ _ b).wt<=_
      rw [Bd.wt]
      lia
  | hold x y =>
    refine ⟨fun ow ho b hb=>?_,fun b=>?_,fun b=>?_⟩
    · show OkBd ow (.hold _ _ b)
      rw [OkBd]
      exact hb
    · show (Bd.hold _ _ b).sz<=_
      rw [Bd.sz]
      lia
    · show (Bd.hold _ _ b).wt<=_
      rw [Bd.wt]
      lia
  | drop x =>
    refine ⟨fun ow ho b hb=>?_,fun b=>?_,fun b=>?_⟩
    · show OkBd ow (.drop _ b)
      rw [OkBd]
      exact hb
    · show (Bd.drop _ b).sz<=_
      rw [Bd.sz]
      lia
    · show (Bd.drop _ b).wt<=_
      rw [Bd.wt]
      lia
  | loose x =>
    refine ⟨fun ow ho b hb=>?_,fun b=>?_,fun b=>?_⟩
    · show OkBd ow (.loose _ b)
      rw [OkBd]
      exact hb
    · show (Bd.loose _ b).sz<=_
      rw [Bd.sz]
      lia
    · show (Bd.loose _ b).wt<=_
      rw [Bd.wt]
      lia
  | arm x t ns m k' =>
    have h:ns.length<=2:=of_decide_eq_true h
    refine ⟨fun ow ho b hb=>?_,fun b=>?_,fun b=>?_⟩
    · show OkBd ow (.cs _ (.cons _ _ _ _ b .nil))
      rw [OkBd,OkAs,OkAs]
      exact ⟨by show 1<=1000; decide,hb,trivial⟩
    · show (Bd.cs _ (.cons _ _ _ _ b .nil)).sz<=_
      rw [Bd.sz,Arms.sz,Arms.sz]
      lia
    · show (Bd.cs _ (.cons _ (ns.map _) _ _ b .nil)).wt<=_
      rw [Bd.wt,Arms.wt,Arms.wt,List.length_map]
      lia
theorem pz_fork {q:Str} {oo:Bd} (h1:∀ ow,OkBd ow oo) (h2:oo.sz<=5) (h3:oo.wt<=5):PzG o (.fork q oo):=by
  refine ⟨fun ow ho b hb=>?_,fun b=>?_,fun b=>?_⟩
  · show OkBd ow (.iff _ b oo)
    rw [OkBd]
    exact ⟨hb,h1 ow⟩
  · show (Bd.iff _ b oo).sz<=_
    rw [Bd.sz]
    lia
  · show (Bd.iff _ b oo).wt<=_
    rw [Bd.wt]
    lia
theorem other_ok {C:Bk} (ow:Ow):OkBd ow (otherB C):=by
  unfold otherB
  rw [OkBd,OkBd]
  exact ⟨Nat.zero_le _,trivial,trivial⟩
theorem other_sz {C:Bk}:(otherB C).sz=2/\(otherB C).wt=1:=by
  unfold otherB
  rw [Bd.sz,Bd.sz,Bd.wt,Bd.wt]
  exact ⟨rfl,rfl⟩
theorem blk_g:(∀ c∈(blk (o.C k tok) o.p way).1,PzG o c)/\(∀ c∈(blk (o.C k tok) o.p way).2,PzG o c)/\(blk (o.C k tok) o.p way).1.length<=12/\(blk (o.C k tok) o.p way).2.length<=12:=by
  unfold blk
  cases h:(plainA ++ keptA)[way]? with
  | some g =>
    obtain ⟨⟨a1,a2⟩,a3,a4⟩:=all_sm g (List.mem_of_getElem? h)
    dsimp only
    refine ⟨fun c hc=>?_,fun c hc=>?_,by rw [List.length_map]; exact a2,by rw [List.length_map]; exact a4⟩
    · obtain ⟨a,ha,rfl⟩:=List.mem_map.mp hc
      exact pz_g (List.all_eq_true.mp a1 a ha)
    · obtain ⟨a,ha,rfl⟩:=List.mem_map.mp hc
      exact pz_g (List.all_eq_true.mp a3 a ha)
  | none =>
    dsimp only
    have s:=other_sz (C:=o.C k tok)
    refine ⟨fun c hc=>?_,fun c hc=>?_,by show 1<=12; decide,by show 1<=12; decide⟩
    · rw [List.mem_singleton.mp hc]
      refine pz_fork (fun ow=>?_) ?_ ?_
      · rw [OkBd]
        exact other_ok ow
      · rw [Bd.sz]
        lia
      · rw [Bd.wt]
        lia
    · rw [List.mem_singleton.mp hc]
      exact pz_fork other_ok (by lia) (by lia)
theorem end_ok {e:Bd} (h:EndG o e\/e=endBad o):(∀ ow,OkBd ow e)/\e.sz<=10/\e.wt<=10:=by
  rcases h with h | rfl
  · cases h with
    | a=>exact ⟨fun ow=>by rw [OkBd]; trivial,by rw [Bd.sz]; decide,by rw [Bd.wt]; decide⟩
    | b=>exact ⟨fun ow=>by rw [OkBd,OkBd,OkBd]; trivial,by rw [Bd.sz,Bd.sz,Bd.sz]; decide,by rw [Bd.wt,Bd.wt,Bd.wt]; decide⟩
    | c=>exact ⟨fun ow=>by rw [OkBd,OkBd,OkBd]; exact ⟨Nat.zero_le _,trivial,trivial⟩,by rw [Bd.sz,Bd.sz,Bd.sz]; decide,by rw [Bd.wt,Bd.wt,Bd.wt]; decide⟩
  · unfold endBad
    exact ⟨fun ow=>by rw [OkBd,OkBd]; trivial,by rw [Bd.sz,Bd.sz]; decide,by rw [Bd.wt,Bd.wt]; decide⟩
end
section
variable {P:Program} {w:World} {K:PySem.W.Frag} {mg:Str->Option Value} {base:Heap} {f R C cH uh:Addr} {fd:FuncData}
theorem scEnd:FnScope ["_law_state","_law_p","_law_q","_law_z","_law_bad","_law_way"] ["_law_state","_law_p","_law_q","_law_z","_law_bad"] (defScope sEnd):=⟨rfl,rfl,rfl,by decide +kernel,rfl,by decide +kernel,by decide +kernel⟩
theorem ok_end (F:Fun K "_law_end" "_law_end" sEnd f fd) (GD:Ca P w K mg base CX0 1 "_law_draw" ["_law_state","_law_many"] (spDraw K)):FnOk P w K mg base CX0 2 f fd ["_law_state","_law_p","_law_q","_law_z","_law_bad"] (spEnd K):=by
  refine F.by scEnd (fun vs H Q E h=>?_) (fun cdv A outer s H vs Q E hr h=>?_)
  · obtain ⟨st,o,bad,B,rfl,_⟩:=h
    rfl
  obtain ⟨st,o,bad,B,rfl,hS,hB,q⟩:=h
  refine ⟨_,
    (jss_cons (js_if (jt_val (jv 4))
      (jss_one (js_ret (je_tup (ja_c je_str (ja_c (jv 1) (ja_c (je_tup (ja_c je_str (ja_c (jv 2) ja_nil))) ja_nil)))))) jss_nil)
    (jss_cons (js_set (i:=5) scEnd.nd rfl (Or.inl rfl) (je_ca GD hr rfl pass0 (ja_c (jv 0) (ja_c je_int ja_nil))))
    (jss_cons (js_if (jt_cmpR jo_eq (jv 5) je_int (nomark _))
      (jss_one (js_ret (je_tup (ja_c je_str (ja_c (jv 1) ja_nil))))) jss_nil)
    (jss_cons (js_if (jt_cmpR jo_eq (jv 5) je_int (nomark _))
      (jss_one (js_ret (je_tup (ja_c je_str (ja_c (jv 1) (ja_c (je_tup (ja_c je_str (ja_c (jv 3) (ja_c (jv 2) (ja_c (je_tup (ja_c je_str (ja_c (jv 3) ja_nil))) ja_nil))))) ja_nil)))))) jss_nil)
    (jss_one (js_ret (je_tup (ja_c je_str (ja_c (jv 1) (ja_c (je_tup (ja_c je_str (ja_c (jv 3) (ja_c (je_tup (ja_c je_str (ja_c je_int ja_nil))) (ja_c (je_tup (ja_c je_str (ja_c (jv 3) ja_nil))) ja_nil))))) ja_nil)))))))))),?_⟩
  refine ⟨_,rfl,_,rfl,?_⟩
  cases bad with
  | true =>
    refine iteT ⟨_,rfl,_,rfl,by show 2<=sizeLine; decide,fun p1 hp1=>⟨by show 3<=sizeLine; decide,fun p2 hp2=>?_⟩⟩
    have s2:=(same_new hp1 (.tup [.str "give",.str o.q])).new (o:=.tup [.str "drop",.str o.p,.ref p1]) hp2
    refine q _ p2 (endBad o) (.of s2) ((hS.same s2).mono (by lia)) ⟨p1,upd_same,old hp2 upd_same⟩ (fun _=>rfl) (fun z=>by cases z)
  | false =>
    refine iteF (nxtC ?_)
    refine ⟨_,rfl,st,3,B,rfl,hS,by lia,by decide,fun H1 r k1 hS1 r0 r1=>?_⟩
    dsimp only
    refine ⟨_,rfl,rfl,_,rfl,ite2 (fun _=>?_) (fun _=>nxtC ?_)⟩
    · refine ⟨_,rfl,by show 2<=sizeLine; decide,fun p1 hp1=>?_⟩
      exact q _ p1 (.give o.p) (k1.new hp1) (hS1.new hp1 _) upd_same (fun z=>by cases z) fun _=>.a
    dsimp only
    refine ⟨_,rfl,rfl,_,rfl,ite2 (fun _=>?_) (fun _=>nxtC ?_)⟩
    · refine ⟨_,rfl,_,rfl,_,rfl,_,rfl,by show 2<=sizeLine; decide,fun p1 hp1=>⟨by show 4<=sizeLine; decide,fun p2 hp2=>⟨by show 3<=sizeLine; decide,fun p3 hp3=>?_⟩⟩⟩
      exact q _ p3 (.drop o.p (.hold o.zz o.q (.give o.zz))) (((k1.new hp1).new hp2).new hp3) (((hS1.new hp1 _).new hp2 _).new hp3 _) ⟨p2,upd_same,p1,old hp3 upd_same,old hp3 (old hp2 upd_same)⟩ (fun z=>by cases z) fun _=>.b
    dsimp only
    refine ⟨_,rfl,_,rfl,by show 2<=sizeLine; decide,fun p1 hp1=>⟨_,rfl,by show 2<=sizeLine; decide,fun p2 hp2=>⟨by show 4<=sizeLine; decide,fun p3 hp3=>⟨by show 3<=sizeLine; decide,fun p4 hp4=>?_⟩⟩⟩⟩
    exact q _ p4 (.drop o.p (.lt o.zz (.num 6) (.give o.zz))) ((((k1.new hp1).new hp2).new hp3).new hp4) ((((hS1.new hp1 _).new hp2 _).new hp3 _).new hp4 _) ⟨p3,upd_same,p1,p2,old hp4 upd_same,old hp4 (old hp3 (old hp2 upd_same)),old hp4 (old hp3 upd_same)⟩ (fun z=>by cases z) fun _=>.c
end
end GN
namespace L2
open PySem PySem.Spec PyProof.Rows
section
variable {X:Cx}
end
end L2
namespace L2
open PySem PySem.Spec PyProof.Rows
section
variable {X:Cx}
theorem jc_int1:jCa X (.type "int") (fun xs H Q=>(∃ i,xs=[.int i]/\Q (.int i) H)\/∃ k,xs=[.bl k]/\Q (.int (if k then 1 else 0)) H):=⟨call_int1⟩
def rSameT (K:PySem.W.Frag):R2:=fun x y H Q=>∃ p p' xs,x=.ref p/\y=.ref p'/\p≠p'/\SqT K H p xs/\SqT K H p' xs/\xs.all flatV=true/\Q (.bl true) H
theorem op_eqT (hu:X.A.units + 64 < cLine):OpR X (compareOp .Eq) (rSameT X.K):=by
  intro pins s σ H x y v u Q I rx ry h
  obtain ⟨p,p',xs,rfl,rfl,hne,h1,h2,f,q⟩:=h
  cases rx
  cases ry
  obtain ⟨i1,v1,m1,_⟩:=I.tuple h1
  obtain ⟨i2,v2,m2,_⟩:=I.tuple h2
  have n1:=v1.length
  have n2:=v2.length
  have main:=SeqAt.RcAt.tuples (A:=X.A) (e:=fun _=>true) m1 m2 (by lia) (fun j a b=>eq_items v1 v2 f j a b)
  have eb:((List.range (min i1.toArray.size i2.toArray.size)).all (fun _=>true) && i1.toArray.size == i2.toArray.size)=true:=by
    rw [show (List.range (min i1.toArray.size i2.toArray.size)).all (fun _=>true)=true from List.all_eq_true.mpr fun _ _=>rfl]
    simp
    lia
  rw [eb] at main
  exact main _ _ _ _ ⟨.bl true,H,I,rfl,q⟩
theorem jo_eqT {k:Nat} (hr:Room k X.A):jOp X (compareOp .Eq) (rSameT X.K):=⟨op_eqT hr.units⟩
end
section
variable {X:Cx} {Ch:Addr} {x n z:Str} {i j k:Nat} {np hpos tpos pz spos:Pos} {b0:Stmt} {suite:List Stmt} {th:Addr->Obj->TS} {ps:List Str} {sp:Sp} {y:Str} {p cpos:Pos} {a:Expr} {as:List Expr} {t:TA}
end
end L2
namespace GN
open PySem L2 K11
structure DG (z:Str) (b:Bool) (name:Str) (bad:Bool) (d:Df):Prop where
  g:d.g=name
  os:d.os=[true,false]
  o:∃ o:Wd,o.z=z/\o.b=b/\d.ps=[o.p,o.q]/\(∀ ow,OwO o ow->okB ow d.b o.s0=!bad)/\(∀ ow,OwO o ow->OkBd ow d.b)
  sz:d.b.sz<=1000
  wt:d.b.wt<=1000
def nmL (z:Str) (b:Bool) (f:Nat->Nat) (n:Nat):List Str:=(List.range n).map fun k=>nm z b (f k)
def spDef (K:PySem.W.Frag):Sp:=fun vs H Q _=>∃ (st wl tl hl:Addr) (z name:Str) (b:Bool) (B:Nat),vs=[.ref st,.ref wl,.str name,.ref tl,.ref hl]/\Sta K H st B/\B + 30 < LIM/\H wl=some (.lst [.str z,.bl b])/\z.length<=6/\H tl=some (.lst ((nmL z b (1 + ·) 3).map V.str))/\H hl=some (.lst ((nmL z b (·) 7).map V.str))/\∀ (H':Hp) (r od:Addr) (bad:Bool) (d:Df),Kp st H H'->Sta K H' st (B + 30)->H' r=some (.tup [.ref od,.bl bad])->IsDf H' d od->DG z b name bad d->Q (.ref r) H'
theorem tok_ne (r:Int):("t":Str) ++ Str.ofString (toString r)≠("":Str):=fun e=>by
  have:=congrArg (fun z=>(cl z).length) e
  rw [cl_app,List.length_append] at this
  have h1:(cl ("t":Str)).length=1:=by decide
  rw [h1] at this
  have h0:(cl ("":Str)).length=0:=by decide
  rw [h0] at this
  lia
theorem num_len0:∀ n:Fin 99,(Str.ofString (toString ((n.val:Nat):Int))).length<=3/\((n.val:Nat):Int).natAbs.log2 < 1920:=by decide +kernel
theorem num_len {r:Int} (h0:0<=r) (h:r < 99):(Str.ofString (toString r)).length<=3/\r.natAbs.log2 < 1920:=by
  have g:=num_len0 ⟨r.toNat,by lia⟩
  have e:((r.toNat:Nat):Int)=r:=by lia
  rw [show ((⟨r.toNat,by lia⟩:Fin 99).val)=r.toNat from rfl,e] at g
  exact g
theorem jn_sz {o:Wd} {b:Bd}:∀ {l:List Pz},(∀ c∈l,PzG o c)->(jn l b).sz<=b.sz + 10 * l.length/\(jn l b).wt<=b.wt + 10 * l.length
  | [],_=>⟨Nat.le_refl _,Nat.le_refl _⟩
  | c :: l,h=>by
    obtain ⟨a2,a3⟩:=jn_sz (b:=b) (l:=l) fun x hx=>h x (List.mem_cons_of_mem _ hx)
    have g:=h c List.mem_cons_self
    have g2:=g.sz (jn l b)
    have g3:=g.wt (jn l b)
    rw [List.length_cons]
    exact ⟨by show (c.on (jn l b)).sz<=_; lia,by show (c.on (jn l b)).wt<=_; lia⟩
theorem two_of {S1 S2:SV} {vs:List V} {H:Hp} (h:sAll [S1,S2] vs H):∃ v1 v2,vs=[v1,v2]/\S1.P v1 H/\S2.P v2 H:=by
  match vs,h with
  | [v1,v2],⟨a,b,_⟩=>exact ⟨v1,v2,rfl,a,b⟩
theorem and_v {i j k:Nat} {σ:St} {H:Hp} {Q:VK} {c:Bool} {x y:V} (h1:σ[i]?=some (some (.bl c))) (h2:σ[j]?=some (some x)) (h3:σ[k]?=some (some y)) (hs:scal x y=true) (h:Q (.bl (c && decide (x=y))) H):tAndV (tVar i) (tOp rEq (tVar j) (tVar k)) σ H Q:=by
  refine ⟨_,h1,c,rfl,?_⟩
  cases c with
  | true=>exact ⟨_,h2,_,h3,hs,h⟩
  | false=>exact h
section
variable {P:Program} {w:World} {K:PySem.W.Frag} {mg:Str->Option Value} {base:Heap} {f R C cH uh:Addr} {fd:FuncData}
theorem scDef:FnScope ["_law_state","_law_world","_law_name_here","_law_tags","_law_heads","_law_p","_law_q","_law_many","_law_bad","_law_at","_law_pieces","_law_k","_law_n","_law_way","_law_token","_law_body"] ["_law_state","_law_world","_law_name_here","_law_tags","_law_heads"] (defScope sDef):=⟨rfl,rfl,rfl,by decide +kernel,rfl,by decide +kernel,by decide +kernel⟩
theorem ndDef:(["_law_state","_law_world","_law_name_here","_law_tags","_law_heads","_law_p","_law_q","_law_many","_law_bad","_law_at","_law_pieces","_law_k","_law_n","_law_way","_law_token","_law_body","_law_j"]:List Str).Nodup:=by decide +kernel
theorem ok_ldef (F:Fun K "_law_def" "_law_def" sDef f fd) (GN':Ca P w K mg base CX0 1 "_law_name" ["_law_world","_law_k"] spNm) (GD:Ca P w K mg base CX0 1 "_law_draw" ["_law_state","_law_many"] (spDraw K)) (GB:Ca P w K mg base CX0 3 "_law_block" ["_law_way","_law_n","_law_p","_law_q","_law_tags","_law_heads","_law_token"] spBlock) (GJ:Ca P w K mg base CX0 1 "_law_joined" ["_law_pieces","_law_body"] spJoined) (GE:Ca P w K mg base CX0 2 "_law_end" ["_law_state","_law_p","_law_q","_law_z","_law_bad"] (spEnd K))
    (m_range:mg "range"=none) (m_str:mg "str"=none) (m_int:mg "int"=none):FnOk P w K mg base CX0 4 f fd ["_law_state","_law_world","_law_name_here","_law_tags","_law_heads"] (spDef K):=by
  refine F.by scDef (fun vs H Q E h=>?_) (fun cdv A outer s H vs Q E hr h=>?_)
  · obtain ⟨st,wl,tl,hl,z,name,b,B,rfl,_⟩:=h
    rfl
  obtain ⟨st,wl,tl,hl,z,name,b,B,rfl,hS,hB,hw,hz,ht,hh,q⟩:=h
  have hr1:Room 1 _:=hr.mono (by decide)
  have hr2:Room 2 _:=hr.mono (by decide)
  refine ⟨_,
    (jss_cons (js_set (i:=5) scDef.nd rfl (Or.inl rfl) (je_ca GN' hr1 rfl pass0 (ja_c (jv 1) (ja_c (je_ca GD hr1 rfl pass0 (ja_c (jv 0) (ja_c je_int ja_nil))) ja_nil))))
    (jss_cons (js_set (i:=6) scDef.nd rfl (Or.inl rfl) (je_ca GN' hr1 rfl pass0 (ja_c (jv 1) (ja_c (je_op jo_add je_int (je_ca GD hr1 rfl pass0 (ja_c (jv 0) (ja_c je_int ja_nil)))) ja_nil))))
    (jss_cons (js_set (i:=7) scDef.nd rfl (Or.inl rfl) (je_op jo_add je_int (je_ca GD hr1 rfl pass0 (ja_c (jv 0) (ja_c je_int ja_nil)))))
    (jss_cons (js_set (i:=8) scDef.nd rfl (Or.inl rfl) (je_cmpR jo_eq (je_ca GD hr1 rfl pass0 (ja_c (jv 0) (ja_c je_int ja_nil))) je_int (nomark _)))
    (jss_cons (js_set (i:=9) scDef.nd rfl (Or.inl rfl) (je_ca GD hr1 rfl pass0 (ja_c (jv 0) (ja_c (je_op jo_add (jv 7) je_int) ja_nil))))
    (jss_cons (js_set (i:=10) scDef.nd rfl (Or.inl rfl) (je_lst ja_nil))
    (jss_cons (js_for PassesOwn.never rfl (ji_range1 rfl m_range (ja_c (jv 7) ja_nil)) (jg_name (i:=11) scDef.nd rfl (Or.inr rfl))
      (jss_cons (js_comp ["_law_j"] (i:=12) scDef.nd rfl (Or.inl rfl) rfl (ji_range1 rfl m_range (ja_c je_int ja_nil)) (fun _ _ _ _ _=>(jg_name (i:=16) ndDef rfl (Or.inl rfl))) (fun _ _ _ _ _=>jts_nil) (fun _ _ _ _ _=>(je_ca GN' hr1 rfl pass0 (ja_c (jv 1) (ja_c (je_op jo_add (je_op jo_add je_int (je_op jo_mul je_int (jv 11))) (jv 16)) ja_nil)))))
      (jss_cons (js_set (i:=13) scDef.nd rfl (Or.inl rfl) (je_ca GD hr1 rfl pass0 (ja_c (jv 0) (ja_c je_int ja_nil))))
      (jss_cons (js_set (i:=14) scDef.nd rfl (Or.inl rfl) (je_op jo_add_str je_str (je_fnTy jc_str_int rfl m_str PyProof.Rows.boot_str (ja_c (je_ca GD hr1 rfl pass0 (ja_c (jv 0) (ja_c je_int ja_nil))) ja_nil))))
      (jss_one (js_expr (je_bm PySem.F.plainAttrs_list PySem.F.slot_list_extend PySem.F.type_list_extend jm_extend (jv 10) (ja_c (je_ix jx_tup (je_ca GB hr rfl pass0 (ja_c (jv 13) (ja_c (jv 12) (ja_c (jv 5) (ja_c (jv 6) (ja_c (jv 3) (ja_c (jv 4) (ja_c (jv 14) ja_nil)))))))) (je_fnTy jc_int1 rfl m_int PyProof.Rows.boot_int (ja_c (je_and (jv 8) (je_one (je_cmpR jo_eq (jv 9) (jv 11) (nomark _)))) ja_nil)) (fun _ _=>rfl)) ja_nil))))))))
    (jss_cons (js_set (i:=15) scDef.nd rfl (Or.inl rfl) (je_ca GJ hr1 rfl pass0 (ja_c (jv 10) (ja_c (je_ca GE hr2 rfl pass0 (ja_c (jv 0) (ja_c (jv 5) (ja_c (jv 6) (ja_c (je_ca GN' hr1 rfl pass0 (ja_c (jv 1) (ja_c je_int ja_nil))) (ja_c (je_and (jv 8) (je_one (je_cmpR jo_eq (jv 9) (jv 7) (nomark _)))) ja_nil)))))) ja_nil))))
    (jss_one (js_ret (je_tup (ja_c (je_tup (ja_c (jv 2) (ja_c (je_tup (ja_c (jv 5) (ja_c (jv 6) ja_nil))) (ja_c (je_tup (ja_c je_bl (ja_c je_bl ja_nil))) (ja_c (jv 15) ja_nil))))) (ja_c (jv 8) ja_nil))))))))))))),?_⟩
  have sl:=line0
  have nw:=hS.neW (x:=z) hw
  have ntl:=hS.neS ht
  have nhl:=hS.neS hh
  refine ⟨_,rfl,_,rfl,st,2,B,rfl,hS,by lia,by decide,fun H1 r1 k1 S1 a0 a1=>?_⟩
  obtain ⟨ip,rfl⟩:∃ ip:Nat,r1=(ip:Nat):=⟨r1.toNat,by lia⟩
  refine ⟨wl,z,b,[],ip,rfl,k1.k _ _ nw hw,hz,?_⟩
  refine ⟨_,rfl,_,rfl,st,2,B + 1,rfl,S1,by lia,by decide,fun H2 r2 k2 S2 b0 b1=>?_⟩
  obtain ⟨iq,rfl⟩:∃ iq:Nat,r2=(iq:Nat):=⟨r2.toNat,by lia⟩
  have k02:=k1.trans k2
  refine ⟨_,_,rfl,rfl,wl,z,b,[],2 + iq,by show [V.ref wl,V.int (2 + (iq:Int))]=_; rw [Int.natCast_add]; rfl,k02.k _ _ nw hw,hz,?_⟩
  refine ⟨_,rfl,st,5,B + 2,rfl,S2,by lia,by decide,fun H3 r3 k3 S3 c0 c1=>⟨_,_,rfl,rfl,?_⟩⟩
  refine ⟨_,rfl,st,3,B + 3,rfl,S3,by lia,by decide,fun H4 r4 k4 S4 d0 d1=>⟨rfl,?_⟩⟩
  dsimp only
  generalize decide (V.int r4=V.int 1)=bad
  refine ⟨_,rfl,_,rfl,_,_,rfl,rfl,st,_,B + 4,rfl,S4,by lia,by lia,fun H5 r5 k5 S5 e0 e1=>?_⟩
  obtain ⟨many,hm⟩:∃ many:Nat,1 + r3=(many:Nat):=⟨(1 + r3).toNat,by lia⟩
  obtain ⟨at_,ha⟩:∃ at_:Nat,r5=(at_:Nat):=⟨r5.toNat,by lia⟩
  subst ha
  have m5:many<=5:=by lia
  have am:at_<=many:=by lia
  refine ⟨by show 0<=sizeLine; decide,fun pp hpp=>?_⟩
  obtain ⟨o,oz,ob,op,oq⟩:∃ o:Wd,o.z=z/\o.b=b/\o.ip=ip/\o.iq=2 + iq:=⟨⟨z,b,ip,2 + iq,by lia,by lia⟩,rfl,rfl,rfl,rfl⟩
  have ep:nm z b ip=o.p:=by unfold Wd.p; rw [oz,ob,op]
  have eq':nm z b (2 + iq)=o.q:=by unfold Wd.q; rw [oz,ob,oq]
  have k05:=((k02.trans k3).trans k4).trans k5
  have S6:=S5.new hpp (.lst [])
  have k06:=k05.new (o:=.lst []) hpp
  have p6:=upd_same (H:=H5) (a:=pp) (o:=.lst [])
  have npp:H pp=none:=k05.free (S5.ne hpp) hpp
  dsimp only
  rw [ep,eq',hm]
  subst oz ob
  generalize upd H5 pp (.lst [])=H6 at *
  clear k1 k2 k02 k3 k4 k5 k05 S1 S2 S3 S4 S5
  refine ⟨_,rfl,(many:Nat),rfl,by lia,by lia,for_range (n:=((many:Nat):Int).toNat) (fun i σ H'=>∃ (l:List Pz) (ts:List Addr) (x1 x2 x3 x4:Option V),σ=[some (.ref st),some (.ref wl),some (.str name),some (.ref tl),some (.ref hl),some (.str o.p),some (.str o.q),some (.int (many:Nat)),some (.bl bad),some (.int (at_:Nat)),some (.ref pp),x1,x2,x3,x4,none]/\Kp st H H'/\Sta K H' st (B + 5 + 2 * i)/\H' pp=some (.lst (ts.map V.ref))/\PzsAt H' l ts/\(∀ ow,OwO o ow->Pcs o ow i (bad && decide (at_ < i)) l)/\l.length<=12 * i/\∀ c∈l,PzG o c) ⟨[],[],none,none,none,none,rfl,k06,S6,p6,⟨rfl,fun i c t h=>by simp at h⟩,fun ow ho=>by rw [decide_eq_false (by lia),Bool.and_false]; exact pcs_nil,Nat.le_refl _,fun c h=>by cases h⟩ ?_ ?_⟩
  · rintro i σ H7 hi ⟨l,ts,x1,x2,x3,x4,rfl,k7,S7,hp7,hl7,pc7,ln7,pg7⟩
    have hi':i < many:=by lia
    refine ⟨_,rfl,by decide,by decide,lc_range (n:=8) (fun j τ ys H'=>H'=H7/\(∃ x,τ=[some (.ref st),some (.ref wl),some (.str name),some (.ref tl),some (.ref hl),some (.str o.p),some (.str o.q),some (.int (many:Nat)),some (.bl bad),some (.int (at_:Nat)),some (.ref pp),some (.int (0 + (i:Nat))),x2,x3,x4,none,x])/\ys=((List.range j).map fun j=>nm o.z o.b (5 + 8 * i + j)).map V.str) ⟨rfl,⟨none,rfl⟩,rfl⟩ ?_ ?_⟩
    · rintro j τ ys H' hj ⟨rfl,⟨x,rfl⟩,rfl⟩
      exact ⟨_,rfl,_,rfl,_,_,rfl,rfl,.inl ⟨by decide,by decide⟩,_,_,rfl,rfl,_,rfl,_,_,rfl,rfl,wl,o.z,o.b,[],5 + 8 * i + j,by show [V.ref wl,V.int (5 + 8 * (0 + (i:Int)) + (0 + (j:Int)))]=[V.ref wl,V.int ((5 + 8 * i + j:Nat):Int)]; congr 3; lia,k7.k _ _ nw hw,hz,by rw [List.length_map,List.length_map,List.length_range]; lia,rfl,⟨_,rfl⟩,by rw [List.range_succ,List.map_append,List.map_append]; rfl⟩
    rintro τ ys H' ⟨rfl,_,rfl⟩ pn hpn
    have S8:=S7.new hpn (.lst (((List.range 8).map fun j=>nm o.z o.b (5 + 8 * i + j)).map V.str))
    have k8:=k7.new (o:=.lst (((List.range 8).map fun j=>nm o.z o.b (5 + 8 * i + j)).map V.str)) hpn
    have n8:=upd_same (H:=H') (a:=pn) (o:=.lst (((List.range 8).map fun j=>nm o.z o.b (5 + 8 * i + j)).map V.str))
    have hp8:=old (o:=.lst (((List.range 8).map fun j=>nm o.z o.b (5 + 8 * i + j)).map V.str)) hpn hp7
    have hl8:=hl7.keep (Tups.new (o:=.lst (((List.range 8).map fun j=>nm o.z o.b (5 + 8 * i + j)).map V.str)) hpn)
    dsimp only
    generalize upd H' pn (.lst (((List.range 8).map fun j=>nm o.z o.b (5 + 8 * i + j)).map V.str))=H8 at *
    refine ⟨_,rfl,st,24,_,rfl,S8,by lia,by decide,fun H9 r9 k9 S9 a0 a1=>?_⟩
    obtain ⟨way,rfl⟩:∃ way:Nat,r9=(way:Nat):=⟨r9.toNat,by lia⟩
    refine ⟨_,rfl,st,99,_,rfl,S9,by lia,by decide,fun H10 r10 k10 S10 b0 b1=>?_⟩
    have nl:=num_len b0 b1
    refine ⟨_,rfl,nl.2,_,_,rfl,rfl,by show 1 + _<=_; lia,?_⟩
    have tn:=tok_ne r10
    dsimp only
    generalize ("t":Str) ++ Str.ofString (toString r10)=tok at *
    have k010:=(k8.trans k9).trans k10
    have S0':=hS
    have n10:=k10.k _ _ (S9.neS (k9.k _ _ (S8.neS n8) n8)) (k9.k _ _ (S8.neS n8) n8)
    have hp10:=k10.k _ _ (S9.neR (k9.k _ _ (S8.neR hp8) hp8)) (k9.k _ _ (S8.neR hp8) hp8)
    have hl10:=(hl8.keep (k9.tups S8)).keep (k10.tups S9)
    refine ⟨_,rfl,(.inl ⟨rfl,_,SqL.of hp10⟩),_,rfl,_,rfl,_,rfl,_,rfl,_,rfl,_,rfl,_,rfl,o.C i tok,o.p,way,⟨rfl,⟨pn,rfl,n10⟩,rfl,rfl,⟨tl,rfl,k010.k _ _ ntl ht⟩,⟨hl,rfl,k010.k _ _ nhl hh⟩,rfl,trivial⟩,by lia,fun v H11 s11 hv=>?_⟩
    obtain ⟨pt,vs,rfl,hpt,hv⟩:=hv
    obtain ⟨v1,v2,rfl,⟨pg,vg,rfl,hpg,hg⟩,⟨pb,vb,rfl,hpb,hb⟩⟩:=two_of hv
    obtain ⟨gs,rfl,hgs⟩:=pzs_of hg
    obtain ⟨bs,rfl,hbs⟩:=pzs_of hb
    obtain ⟨g1,g2,g3,g4⟩:=blk_g (o:=o) (k:=i) (tok:=tok) (way:=way)
    have k11:=k010.trans (.of s11)
    have S11:=S10.same s11
    have hp11:=s11 _ _ hp10
    have hl11:=hl10.keep (Tups.of s11)
    have kF:∀ x,Kp st H (upd H11 pp x):=fun x=>k11.put npp
    have SF:∀ x,Sta K (upd H11 pp x) st (B + 5 + 2 * (i + 1)):=fun x=>(hS.put npp k11 S11).mono (by lia)
    have tF:∀ x,Tups H11 (upd H11 pp x):=fun x p xs h=>by
      have:p≠pp:=fun e=>by rw [e,hp11] at h; cases h
      rw [upd_ne this]
      exact h
    have lt:ts.length<=60:=by have:=hl7.1; lia
    have i5:i < 5:=by lia
    have fin:∀ (m:List Pz) (us:List Addr),PzsAt H11 m us->(∀ ow,OwO o ow->Pcs o ow (i + 1) (bad && decide (at_ < i + 1)) (l ++ m))->m.length<=12->(∀ c∈m,PzG o c)->(ts.map V.ref).length + (us.map V.ref).length<=sizeLine/\∃ (l':List Pz) (ts':List Addr) (y1 y2 y3 y4:Option V),[some (V.ref st),some (.ref wl),some (.str name),some (.ref tl),some (.ref hl),some (.str o.p),some (.str o.q),some (.int (many:Nat)),some (.bl bad),some (.int (at_:Nat)),some (.ref pp),some (.int (0 + (i:Nat))),some (.ref pn),some (.int (way:Nat)),some (.str tok),none]=[some (.ref st),some (.ref wl),some (.str name),some (.ref tl),some (.ref hl),some (.str o.p),some (.str o.q),some (.int (many:Nat)),some (.bl bad),some (.int (at_:Nat)),some (.ref pp),y1,y2,y3,y4,none]/\Kp st H (upd H11 pp (.lst (ts.map V.ref ++ us.map V.ref)))/\Sta K (upd H11 pp (.lst (ts.map V.ref ++ us.map V.ref))) st (B + 5 + 2 * (i + 1))/\(upd H11 pp (.lst (ts.map V.ref ++ us.map V.ref))) pp=some (.lst (ts'.map V.ref))/\PzsAt (upd H11 pp (.lst (ts.map V.ref ++ us.map V.ref))) l' ts'/\(∀ ow,OwO o ow->Pcs o ow (i + 1) (bad && decide (at_ < i + 1)) l')/\l'.length<=12 * (i + 1)/\∀ c∈l',PzG o c:=fun m us hm pc ln pg=>by
      have:=hm.1
      refine ⟨by rw [List.length_map,List.length_map]; lia,l ++ m,ts ++ us,_,_,_,_,rfl,kF _,SF _,by rw [upd_same,List.map_append],(hl11.keep (tF _)).app (hm.keep (tF _)),pc,by rw [List.length_append]; lia,fun c hc=>?_⟩
      rcases List.mem_append.mp hc with hc | hc
      · exact pg7 c hc
      · exact pg c hc
    by_cases e:bad=true/\at_=i
    · obtain ⟨e1,e2⟩:=e
      subst e1 e2
      obtain ⟨f1,f2⟩:=fin _ bs hbs (fun ow ho=>by
        have h:=pc7 ow ho
        rw [decide_eq_false (by lia)] at h
        rw [decide_eq_true (by lia)]
        exact pcs_bad ho i5 tn h) g4 g2
      refine ⟨_,rfl,_,rfl,iteT ⟨_,rfl,_,rfl,rfl,.inr ⟨_,rfl,pt,_,_,_,rfl,rfl,SqT.of hpt,?_,pp,pb,_,_,rfl,rfl,hp11,hpb,f1,f2⟩⟩⟩
      rw [decide_eq_true (congrArg V.int (by lia))]
      exact atI_nat (j:=1) rfl
    · obtain ⟨f1,f2⟩:=fin _ gs hgs (fun ow ho=>by
        have h:=pc7 ow ho
        have:(bad && decide (at_ < i + 1))=(bad && decide (at_ < i)):=by
          cases bad with
          | false=>rfl
          | true =>
            have:at_≠i:=fun q=>e ⟨rfl,q⟩
            rw [decide_eq_decide.mpr (show at_ < i + 1↔at_ < i by lia)]
        rw [this]
        exact pcs_good ho i5 tn h) g3 g1
      have:i=i:=rfl
      cases bad with
      | false=>exact ⟨_,rfl,_,rfl,iteF (.inr ⟨_,rfl,pt,_,_,_,rfl,rfl,SqT.of hpt,atI_nat (j:=0) rfl,pp,pg,_,_,rfl,rfl,hp11,hpg,f1,f2⟩)⟩
      | true =>
        have ne:at_≠i:=fun q=>e ⟨rfl,q⟩
        refine ⟨_,rfl,_,rfl,iteT ⟨_,rfl,_,rfl,rfl,.inr ⟨_,rfl,pt,_,_,_,rfl,rfl,SqT.of hpt,?_,pp,pg,_,_,rfl,rfl,hp11,hpg,f1,f2⟩⟩⟩
        rw [decide_eq_false (fun q=>ne (by injection q with q; lia))]
        exact atI_nat (j:=0) rfl
  · rintro σ H7 ⟨l,ts,x1,x2,x3,x4,rfl,k7,S7,hp7,hl7,pc7,ln7,pg7⟩
    have em:((many:Nat):Int).toNat=many:=by lia
    rw [em] at S7 pc7 ln7
    dsimp only
    refine ⟨_,rfl,_,rfl,_,rfl,_,rfl,_,rfl,wl,o.z,o.b,[],4,rfl,k7.k _ _ nw hw,hz,and_v (c:=bad) (x:=.int (at_:Nat)) (y:=.int (many:Nat)) rfl rfl rfl rfl ?_⟩
    refine ⟨st,o,_,_,rfl,S7,by lia,fun H8 r e k8 S8 he hb hg=>?_⟩
    refine ⟨pp,r,l,ts,e,rfl,k8.k _ _ (S7.neR hp7) hp7,hl7.keep (k8.tups S7),he,fun H9 rj s9 hj=>?_⟩
    have eo:EndG o e\/e=endBad o:=by
      cases c:(bad && decide (V.int (at_:Nat)=V.int (many:Nat))) with
      | true=>exact .inr (hb c)
      | false=>exact .inl (hg c)
    have en:=end_ok eo
    have sz:=jn_sz (b:=e) pg7
    have ok:∀ ow,OwO o ow->okB ow (jn l e) o.s0=!bad:=fun ow ho=>by
      have h:=pc7 ow ho
      cases bad with
      | false=>exact pcs_end h (hg rfl)
      | true =>
        by_cases c:at_=many
        · rw [decide_eq_false (by lia)] at h
          rw [hb (by rw [decide_eq_true (congrArg V.int (by lia))]; rfl)]
          exact pcs_endb h
        · rw [decide_eq_true (by lia)] at h
          exact pcs_end h (hg (by rw [decide_eq_false (fun q=>c (by injection q with q; lia))]; rfl))
    refine ⟨_,rfl,_,rfl,_,rfl,by show 2<=sizeLine; decide,fun a1 h1=>⟨by show 2<=sizeLine; decide,fun a2 h2=>⟨_,rfl,by show 4<=sizeLine; decide,fun a3 h3=>⟨_,rfl,by show 2<=sizeLine; decide,fun a4 h4=>?_⟩⟩⟩⟩
    have s1:=same_new h1 (.tup [.str o.p,.str o.q])
    have s2:=same_new h2 (.tup [.bl true,.bl false])
    have s3:=same_new h3 (.tup [.str name,.ref a1,.ref a2,.ref rj])
    have s4:=same_new h4 (.tup [.ref a3,.bl bad])
    have s14:=((s1.trans s2).trans s3).trans s4
    have g3:=s4 _ _ upd_same
    have g2:=(s3.trans s4) _ _ upd_same
    have g1:=((s2.trans s3).trans s4) _ _ upd_same
    have hj':=hj.keep (Tups.of s14)
    refine q _ a4 a3 bad ⟨name,[o.p,o.q],[true,false],jn l e⟩ ((k7.trans k8).trans (.of (s9.trans s14))) ((S8.same (s9.trans s14)).mono (by lia)) upd_same ⟨a1,a2,rj,g3,g1,g2,hj'⟩ ⟨rfl,rfl,⟨o,rfl,rfl,rfl,ok,fun ow ho=>(jn_ok ho (en.1 ow) pg7).1⟩,by show (jn l e).sz<=_; lia,by show (jn l e).wt<=_; lia⟩
end
end GN
namespace L2
open PySem PySem.Spec PyProof.Rows
abbrev Cx.plusP (X:Cx) (pins:List (Addr × Obj)):Cx:={ X with pn:=X.pn ++ pins }
abbrev Cx.inTry (X:Cx) (pins:List (Addr × Obj)) (E:XK):Cx:={ X with pn:=X.pn ++ pins,xe:=fun u s'=>∃ pins' σ',Air (X.plusP pins) pins' σ' E u s' }
section
variable {X:Cx} {Ch:Addr} {x:Str} {np hpos tpos:Pos} {b0:Stmt} {suite body:List Stmt} {th:Addr->Obj->TS} {tb:XK->TS}
theorem Inv.toTry {pins:List (Addr × Obj)} {σ:St} {H:Hp} {s:Shared} {E:XK} (I:Inv X pins σ H s):Inv (X.inTry pins E) [] σ H s :=
  ⟨⟨I.ok.mod,I.ok.kind,I.ok.glob,I.ok.blt,I.ok.above,I.ok.inj,I.ok.has,I.ok.cab,I.ok.hd,I.ok.frames,I.ok.stk,I.ok.exf,I.ok.bs,I.ok.bsz,I.ok.noex,I.ok.exfs,I.ok.funs,I.ok.frf⟩,I.os,I.bare,I.base,I.loc,I.cell,I.free,I.freeC,fun q hq=>I.pin q (by simpa using hq),I.hok,I.len⟩
theorem Inv.ofTry {pins:List (Addr × Obj)} {σ:St} {H:Hp} {s:Shared} {E:XK} (ok:X.Ok) (I:Inv (X.inTry pins E) [] σ H s):Inv X pins σ H s :=
  ⟨ok,I.os,I.bare,I.base,I.loc,I.cell,I.free,I.freeC,fun q hq=>I.pin q (by simpa using hq),I.hok,I.len⟩
theorem Inv.ofPlus {pins pins':List (Addr × Obj)} {σ:St} {H:Hp} {s:Shared} (ok:X.Ok) (I:Inv (X.plusP pins) pins' σ H s):Inv X (pins ++ pins') σ H s :=
  ⟨ok,I.os,I.bare,I.base,I.loc,I.cell,I.free,I.freeC,fun q hq=>I.pin q (by simpa using hq),I.hok,I.len⟩
theorem Inv.few {pins pins':List (Addr × Obj)} {σ:St} {H:Hp} {s:Shared} (I:Inv X (pins ++ pins') σ H s):Inv X pins σ H s :=
  ⟨I.ok,I.os,I.bare,I.base,I.loc,I.cell,I.free,I.freeC,fun q hq=>I.pin q (by rw [<- List.append_assoc]; exact List.mem_append_left _ hq),I.hok,I.len⟩
theorem pass_try {pins:List (Addr × Obj)} {E:XK}:Passes (CXf X.prog X.w) (X.inTry pins E) E:=fun pins' σ H1 s1 u s2 I h =>
  ⟨pins',σ,air_of (X:=X.plusP pins) rfl rfl ⟨⟨I.ok.mod,I.ok.kind,I.ok.glob,I.ok.blt,I.ok.above,I.ok.inj,I.ok.has,I.ok.cab,I.ok.hd,I.ok.frames,I.ok.stk,I.ok.exf,I.ok.bs,I.ok.bsz,I.ok.noex,I.ok.exfs,I.ok.funs,I.ok.frf⟩,I.os,I.bare,I.base,I.loc,I.cell,I.free,I.freeC,I.pin,I.hok,I.len⟩ h⟩
end
end L2
namespace L2
open PySem PySem.Spec PyProof.Rows
def HB (X:Cx) (hs:List ExceptHandler) (Tk:Ends->XK):Prop:=∀ (pins:List (Addr × Obj)) (σ:St) (D:Ends) (e:Addr) (C:Value) (dx:Option Addr) (H':Hp) (T:Addr) (s:Shared),Tr s.heap e C dx T .none->Inv X pins σ H' s->H' e=none->H' T=none->X.s₀.heap.objs.size<=T->(∀ p∈X.pn ++ pins,p.1≠T)->Tk D C dx H' ->
  wpAny (model X.prog X.w) X.A (handleBy (.ref e) X.env hs) (SP X pins D) X.xe s
def xN (K:PySem.W.Frag) (Ch:Addr) (i n:Nat) (th:Addr->Obj->TS) (Tk:Ends->XK):Ends->XK:=fun D C dx H =>
  (PySem.W.exmOne K C (.ref Ch)=some true/\∀ (e:Addr) (oe:Obj) (vs:Array Value) (σ:St),σ.length=n->oe.cls=C->oe.dict=dx->oe.data=.fields vs->vs[2]?=some .none->H e=none->th e oe (D.behind i) (σ.set i (some (.ref e))) H)\/(PySem.W.exmOne K C (.ref Ch)=some false/\Tk D C dx H)
def xNil:Ends->XK:=fun _ _ _ _=>False
section
variable {X:Cx} {Ch:Addr} {x n:Str} {i:Nat} {np hpos tpos:Pos} {b0:Stmt} {suite body:List Stmt} {th:Addr->Obj->TS} {tb:XK->TS} {h0:ExceptHandler} {hs:List ExceptHandler} {Tk:Ends->XK}
theorem hb_nil:HB X [] xNil:=fun _ _ _ _ _ _ _ _ _ _ _ _ _ _ _ h=>False.elim h
theorem hb_as (R:HB X hs Tk) (hN:X.N.Nodup) (hi:X.N[i]?=some n) (hg:Gl X x) (hm:X.mg x=some (.ref Ch)) (hS:∀ e oe,jSs (X.inEx (.ref e) [(e,oe)]) (b0 :: suite) (th e oe)) (hl:X.env.scope.names.lookup n=some .local:=by rfl) (hdb:(x == ("__debug__":Str))=false:=by decide) :
    HB X (.ExceptHandler (some (.Name x np)) (some n) (b0 :: suite) hpos :: hs) (xN X.K Ch i X.N.length th Tk):=by
  intro pins σ D e C dx H' T s t J ne nT sT pT h
  obtain ⟨oe,vs,g1,g2,g3,g4,g5⟩:=t.ex
  have Jm:Inv (X.inEx (.ref e) []) pins σ H' s:=J.inEx (.ref e) fun q hq=>nomatch hq
  have LT:PySem.W.Looks (model X.prog X.w) s.heap (typeOf (.ref e)) C:=g2 ▸ (PySem.W.Looks.ld g1).andThen .now
  refine wpAny_handleBy_cons (codeAny_handlers_test (ld_glob Jm hg hm ?_ hdb)) (by intro q; cases q)
  rcases h with ⟨hex,hth⟩ | ⟨hex,hn⟩
  · refine PySem.W.Looks.here (PySem.W.exm_one (K:=X.K) J.kIn LT hex) ?_
    refine codeAny_handlers_suite_as (fly_set (v:=none) t fun h3 t3 m3=>?_)
    have J3:Inv X pins σ H' { s with heap:=h3 }:=Inv.moved J (m3.mono (fun b z=>nomatch z) fun _ z=>z) fun b hb=>by
      rw [List.mem_singleton.mp hb]
      obtain ⟨ot,ts,q1,q2,_⟩:=t.tb
      exact ⟨nT,.inr sT,(J.apart q1 q2).1,(J.apart q1 q2).2,pT⟩
    obtain ⟨oe3,vs3,a1,a2,a3,a4,a5⟩:=t3.ex
    have ap:=Inv.apart (s:={ s with heap:=h3 }) J3 a1 a4
    have J4:Inv (X.inEx (.ref e) [(e,oe3)]) pins σ H' { s with heap:=h3 }:=J3.inEx (.ref e) fun q hq=>by
      rw [List.mem_singleton.mp hq]
      exact ⟨a1,ne,ap.1,fun z=>by
        obtain ⟨_,o,ho,nf⟩:=J3.funs.mem z
        have ho':h3.get? e=some o:=ho
        rw [a1] at ho'
        cases ho'
        exact nf vs3 a4,fun v z=>by rw [a4] at z; cases z⟩
    refine store_ok (X:=X.inEx (.ref e) [(e,oe3)]) (v:=.ref e) J4 hN hi (.inl hl) rfl (fun s4 J5=>?_) (.inr hl)
    refine wpAny_mono ((hS e oe3).out pins s4 _ H' (D.behind i) J5 (hth e oe3 vs3 _ J3.len a2 a3 a4 a5.2 ne)) (fun f s5 q=>?_) fun _ _ z=>False.elim z
    cases f with
    | next =>
      obtain ⟨σ',H5,I5,q⟩:=q
      exact unbind_ok (I5.outEx J.ok) hN hi hl fun s6 I6=>⟨_,_,I6,q⟩
    | brk =>
      obtain ⟨σ',H5,I5,q⟩:=q
      exact unbind_ok (I5.outEx J.ok) hN hi hl fun s6 I6=>⟨_,_,I6,q⟩
    | cont =>
      obtain ⟨σ',H5,I5,q⟩:=q
      exact unbind_ok (I5.outEx J.ok) hN hi hl fun s6 I6=>⟨_,_,I6,q⟩
    | ret w =>
      obtain ⟨v,σ',H5,I5,r,q⟩:=q
      exact unbind_ok (I5.outEx J.ok) hN hi hl fun s6 I6=>⟨v,_,_,I6,r,q⟩
  · refine PySem.W.Looks.here (PySem.W.exm_one (K:=X.K) J.kIn LT hex) ?_
    exact R pins σ D e C dx H' T s t J ne nT sT pT hn
theorem catch_okL {pins:List (Addr × Obj)} {σ:St} {D:Ends} {u:Value} {s':Shared} (hst:X.stack=X.env :: X.outer) (hf:X.env.frame=some X.env.locals) (R:HB X hs Tk)
    (h:Air X pins σ (Tk D) u s') :
    wpAny (model X.prog X.w) X.A (noteFrame u X.env) (fun _ s2=>wpAny (model X.prog X.w) X.A (setFlight u none) (fun _ s3=>wpAny (model X.prog X.w) X.A (handleBy u X.env hs) (SP X pins D) X.xe s3) X.xe s2) X.xe s':=by
  obtain ⟨e,C,dx,H',k,rfl,I,ne,hk,he,hp,st,hth⟩:=h
  have fr:X.A.frames=some (X.env :: X.outer):=hst ▸ I.ok.frames
  have fs:s'.heap.FunFrames X.base (X.env :: X.outer):=hst ▸ I.stack
  have pk:∀ b,k<=b->∀ p∈X.pn ++ pins,p.1≠b:=fun b hb p q z=>absurd (Nat.lt_of_lt_of_le (hp p q) hb) (by rw [z]; exact Nat.lt_irrefl _)
  have two:∀ (h1:Heap) (T:Addr) (xs:List Addr),Tr h1 e C dx T (rawInt X.env.locals)->Mv ((X.env :: X.outer).filterMap (·.frame)) xs s'.heap h1->(∀ b∈xs,H' b=none/\X.s₀.heap.objs.size<=b/\(∀ p∈X.pn ++ pins,p.1≠b)/\∃ o vs,s'.heap.get? b=some o/\o.data=.fields vs)->s'.heap.objs.size<=T ->
      wpAny (model X.prog X.w) X.A (setFlight (.ref e) none) (fun _ s3=>wpAny (model X.prog X.w) X.A (handleBy (.ref e) X.env hs) (SP X pins D) X.xe s3) X.xe { s' with heap:=h1 }:=by
    intro h1 T xs t m hxs hT
    have J1:Inv X pins σ H' { s' with heap:=h1 }:=I.moved (hst ▸ m) fun b hb=>by
      obtain ⟨r1,r2,r3,o,vs,r4,r5⟩:=hxs b hb
      exact ⟨r1,.inr r2,(I.apart r4 r5).1,(I.apart r4 r5).2,r3⟩
    have nT:H' T=none:=I.hok.fresh hT
    have sT:X.s₀.heap.objs.size<=T:=Nat.le_trans I.sz hT
    have pT:∀ p∈X.pn ++ pins,p.1≠T:=fun p q z=>absurd (Nat.lt_of_lt_of_le (Heap.lt_size (I.pin p q).1) hT) (by rw [z]; exact Nat.lt_irrefl _)
    refine fly_set (s:={ s' with heap:=h1 }) (v:=none) t fun h2 t2 m2=>R pins σ D e C dx H' T { s' with heap:=h2 } t2 (Inv.moved (s:={ s' with heap:=h1 }) J1 (m2.mono (fun b z=>nomatch z) fun _ z=>z) fun b hb=>?_) ne nT sT pT hth
    rw [List.mem_singleton.mp hb]
    obtain ⟨ot,ts,q1,q2,_⟩:=t.tb
    exact ⟨nT,.inr sT,(J1.apart q1 q2).1,(J1.apart q1 q2).2,pT⟩
  rcases st with ⟨oe,vs,h1,rfl,rfl,h4,h5,h6⟩ | ⟨T0,t0,n0,s0⟩
  · refine fly_first fr fs hf h1 h4 h5 h6 fun h' T hs t m=>two h' T [e] t m (fun b hb=>?_) hs
    rw [List.mem_singleton.mp hb]
    exact ⟨ne,Nat.le_trans hk he,pk e he,oe,vs,h1,h4⟩
  · refine fly_next fr fs hf t0 fun h' T hs t m=>two h' T [e,T0] t m (fun b hb=>?_) hs
    rcases List.mem_cons.mp hb with r | hb
    · rw [r]
      obtain ⟨oe,vs,q1,_,_,q4,_⟩:=t0.ex
      exact ⟨ne,Nat.le_trans hk he,pk e he,oe,vs,q1,q4⟩
    · rw [List.mem_singleton.mp hb]
      obtain ⟨ot,ts,q1,q2,_⟩:=t0.tb
      exact ⟨n0,Nat.le_trans hk s0,pk T0 s0,ot,ts,q1,q2⟩
def tTryN (Tk:Ends->XK) (tb:XK->TS):TS:=fun D σ H=>tb (Tk D) D σ H
theorem js_tryN (hb:∀ pins E,jSs (X.inTry pins E) body (tb E)) (R:HB X (h0 :: hs) Tk) (hst:X.stack=X.env :: X.outer:=by rfl) (hf:X.env.frame=some X.env.locals:=by rfl) :
    jS X (.Try body (h0 :: hs) [] [] tpos) (tTryN Tk tb):=by
  constructor
  intro pins s σ H D I h
  refine wpAny_Try_except (wpAny_mono ((hb pins _).out [] s σ H D I.toTry h) (fun f s1 q=>?_) (fun u s1 q=>?_))
  · cases f with
    | next =>
      obtain ⟨σ',H5,I5,q⟩:=q
      exact wpAny_execs_nil ⟨_,_,I5.ofTry I.ok,q⟩
    | brk =>
      obtain ⟨σ',H5,I5,q⟩:=q
      exact ⟨_,_,I5.ofTry I.ok,q⟩
    | cont =>
      obtain ⟨σ',H5,I5,q⟩:=q
      exact ⟨_,_,I5.ofTry I.ok,q⟩
    | ret w =>
      obtain ⟨v,σ',H5,I5,r,q⟩:=q
      exact ⟨v,_,_,I5.ofTry I.ok,r,q⟩
  · obtain ⟨pins',σ',e,C,dx,H',k,rfl,I5,ne,hk,he,hp,st,hE⟩:=q
    have a:Air X (pins ++ pins') σ' (Tk D) (.ref e) s1:=⟨e,C,dx,H',k,rfl,I5.ofPlus I.ok,ne,hk,he,fun p q=>hp p (by simpa using q),st,hE⟩
    have g:=catch_okL hst hf R a
    have sp:∀ f s3,SP X (pins ++ pins') D f s3->SP X pins D f s3:=fun f s3 q=>by
      cases f with
      | next=>obtain ⟨σ',H5,I5,q⟩:=q; exact ⟨_,_,I5.few,q⟩
      | brk=>obtain ⟨σ',H5,I5,q⟩:=q; exact ⟨_,_,I5.few,q⟩
      | cont=>obtain ⟨σ',H5,I5,q⟩:=q; exact ⟨_,_,I5.few,q⟩
      | ret w=>obtain ⟨v,σ',H5,I5,r,q⟩:=q; exact ⟨v,_,_,I5.few,r,q⟩
    exact wpAny_mono g (fun _ s2 q=>wpAny_mono q (fun _ s3 q=>wpAny_mono q sp fun _ _ z=>z) fun _ _ z=>z) fun _ _ z=>z
end
end L2
namespace L2
open PySem PySem.Spec PyProof.Rows
theorem jc_isi0 {X:Cx} {e C:Addr} {oe:Obj} {D:V} {c:Value} (hh:∀ pins σ H s,Inv X pins σ H s->s.heap.get? e=some oe) (hx:PySem.W.XIs X.K C) (hD:RelV D c) (hu:∀ c',RelV D c'->c'=c) :
    jCa X (.builtin "isinstance") (fun xs H Q=>xs=[.ref e,D]/\oe.cls=.ref C/\oe.dict=none/\(∃ vs,oe.data=.fields vs)/\∃ b,PySem.W.kitOne X.K (.ref C) c=some b/\Q (.bl b) H):=by
  constructor
  intro pins s σ H xs us Q I r h
  obtain ⟨rfl,hc,hdx,⟨vs,hd⟩,b,hk,q⟩:=h
  obtain ⟨u,u',rfl,r1,r2⟩:=vals2 r
  cases r1
  obtain rfl:=hu _ r2
  have J:PySem.W.InstAt s.heap e oe C none:=⟨hh _ _ _ _ I,hc,by unfold PySem.W.notCls; rw [hd],by rw [hdx]; exact True.intro⟩
  exact PySem.W.kia_one (PySem.W.kitx_excO hx) I.kIn J hk (fun z=>nomatch z) fun tk=>⟨.bl b,H,I.tok tk,rfl,q⟩
end L2
namespace L2
open PySem PySem.Spec PyProof.Rows
def DxOk (H:Hp) (oe:Obj):Prop:=oe.dict=none\/∃ d fs,oe.dict=some d/\H d=some (XD d fs)
theorem DxOk.same {H H':Hp} {oe:Obj} (h:DxOk H oe) (s:Same H H'):DxOk H' oe:=h.imp id fun ⟨d,fs,a,b⟩=>⟨d,fs,a,s _ _ b⟩
theorem jc_isiE {X:Cx} {e C:Addr} {oe:Obj} {D:V} {c:Value} (hh:∀ pins σ H s,Inv X pins σ H s->s.heap.get? e=some oe) (hx:PySem.W.XIs X.K C) (hD:RelV D c) (hu:∀ c',RelV D c'->c'=c) :
    jCa X (.builtin "isinstance") (fun xs H Q=>xs=[.ref e,D]/\oe.cls=.ref C/\DxOk H oe/\(∃ vs,oe.data=.fields vs)/\∃ b,PySem.W.kitOne X.K (.ref C) c=some b/\Q (.bl b) H):=by
  constructor
  intro pins s σ H xs us Q I r h
  obtain ⟨h1,h2,hd | ⟨d,fs,hd,hf⟩,h3⟩:=h
  · exact (jc_isi0 hh hx hD hu).out pins s σ H xs us Q I r ⟨h1,h2,hd,h3⟩
  · exact (jc_isi (d:=d) hh hx hD hu).out pins s σ H xs us Q I r ⟨h1,h2,hd,h3.1,⟨fs,hf⟩,h3.2⟩
end L2
namespace GN
open PySem L2 K11
structure Xc where
  nt:Addr
  tw:Addr
  un:Addr
  mi:Addr
  uh:Addr
  la:Addr
  nv:Addr
  go:Addr
  fu:Addr
  fa:Addr
  R:Addr
abbrev Xc.all (c:Xc):List Addr:=[c.nt,c.tw,c.un,c.mi,c.uh,c.la,c.nv,c.go,c.fu,c.fa]
def kitRow (K:PySem.W.Frag) (C:Addr) (cs:List Addr) (k:Nat):Bool:=cs.zipIdx.all fun y=>PySem.W.kitOne K (.ref C) (.ref y.1) == some (decide (y.2=k))
theorem kitRow.at {K:PySem.W.Frag} {C:Addr} {cs:List Addr} {k:Nat} (h:kitRow K C cs k=true) (j:Nat) (D:Addr) (hj:cs[j]?=some D):PySem.W.kitOne K (.ref C) (.ref D)=some (decide (j=k)):=by
  unfold kitRow at h
  have m:(D,j)∈cs.zipIdx:=List.mem_of_getElem? (i:=j) (by rw [List.getElem?_zipIdx,hj]; simp)
  exact beq_iff_eq.mp (List.all_eq_true.mp h _ m)
structure Xr (K:PySem.W.Frag) (c:Xc) (C:Addr) (k:Nat):Prop where
  xi:PySem.W.XIs K C
  kit:kitRow K C c.all k=true
  kR:PySem.W.kitOne K (.ref C) (.ref c.R)=some true
  kV:PySem.W.kitOne K (.ref C) (.type "ValueError")=some true
structure X65 (K:PySem.W.Frag) (mg:Str->Option Value) (c:Xc):Prop where
  nt:mg "NoText"=some (.ref c.nt)
  tw:mg "Twice"=some (.ref c.tw)
  un:mg "Unknown"=some (.ref c.un)
  mi:mg "Misfit"=some (.ref c.mi)
  uh:mg "Unheld"=some (.ref c.uh)
  la:mg "Lacking"=some (.ref c.la)
  nv:mg "NoValue"=some (.ref c.nv)
  go:mg "Gone"=some (.ref c.go)
  fu:mg "Full"=some (.ref c.fu)
  fa:mg "Fault"=some (.ref c.fa)
  R:mg "ReuseError"=some (.ref c.R)
  V:mg "ValueError"=none
  xh:Xr K c c.uh 4
  eh:PySem.W.exmOne K (.ref c.uh) (.ref c.uh)=some true
  fh:PySem.W.findIn K (.ref c.uh) "name"=some none
  ch:∃ f,XCl K c.uh f
theorem boot_VE:bootBuiltins "ValueError"=some (.type "ValueError"):=by decide +kernel
theorem ifT {b:Bool} {A B:Prop} (e:b=true) (h:A):if b=true then A else B:=by rw [if_pos e]; exact h
theorem ifF {b:Bool} {A B:Prop} (e:b=false) (h:B):if b=true then A else B:=by rw [if_neg (by rw [e]; decide)]; exact h
def spOne (K:PySem.W.Frag) (c:Xc) (e:Addr) (oe:Obj):Sp:=fun vs H Q _=>∃ (k:Nat) (C:Addr),vs=[.ref e]/\k < 10/\Xr K c C k/\oe.cls=.ref C/\DxOk H oe/\(∃ ws,oe.data=.fields ws)/\∀ H',Same H H'->Q (.bl true) H'
theorem len1 {k:Nat} (h:k < 10):((List.range 10).filter fun j=>decide (j=k)).length=1:=by
  have a:k=0\/k=1\/k=2\/k=3\/k=4\/k=5\/k=6\/k=7\/k=8\/k=9:=by lia
  rcases a with rfl | rfl | rfl | rfl | rfl | rfl | rfl | rfl | rfl | rfl <;> rfl
section
variable {P:Program} {w:World} {K:PySem.W.Frag} {mg:Str->Option Value} {base:Heap} {f R C T:Addr} {fd:FuncData} {c:Xc}
theorem scOne:FnScope ["_law_e","_law_some"] ["_law_e"] (defScope sOne):=⟨rfl,rfl,rfl,by decide +kernel,rfl,by decide +kernel,by decide +kernel⟩
theorem ndOne:(["_law_e","_law_some","_law_one"]:List Str).Nodup:=by decide +kernel
theorem ok_one (F:Fun K "_law_one_class" "_law_one_class" sOne f fd) (T:X65 K mg c) (m_isinstance:mg "isinstance"=none) (m_len:mg "len"=none):FnOkH P w K mg base 1 f fd ["_law_e"] (spOne K c):=by
  refine F.byH scOne (fun e oe vs H Q E h=>?_) (fun cdv A outer s H vs Q e oe hr h hn=>?_)
  · obtain ⟨k,C,rfl,_⟩:=h
    rfl
  obtain ⟨k,C,rfl,k10,xr,hc,hdx,hda,q⟩:=h
  have xi:=xr.xi
  have hh:∀ pins σ H' s',Inv (cxOfH P w K mg base ["_law_e","_law_some"] "_law_one_class" (defScope sOne) f cdv A outer s H) pins σ H' s'->s'.heap.get? e=some oe:=fun pins σ H' s' I=>I.base.keep e oe hn.g hn.n hn.f (fun z=>nomatch z)
  refine ⟨_,
    (jss_cons (js_set (i:=1) scOne.nd rfl (Or.inl rfl) (je_lst (ja_c (je_fnB (jc_isiE (D:=.ref c.nt) (c:=.ref c.nt) (C:=C) hh xi rfl (fun _ z=>z)) rfl m_isinstance PyProof.Rows.boot_isinstance (ja_c (jv 0) (ja_c (je_glob (v:=.ref c.nt) rfl T.nt rfl) ja_nil))) (ja_c (je_fnB (jc_isiE (D:=.ref c.tw) (c:=.ref c.tw) (C:=C) hh xi rfl (fun _ z=>z)) rfl m_isinstance PyProof.Rows.boot_isinstance (ja_c (jv 0) (ja_c (je_glob (v:=.ref c.tw) rfl T.tw rfl) ja_nil))) (ja_c (je_fnB (jc_isiE (D:=.ref c.un) (c:=.ref c.un) (C:=C) hh xi rfl (fun _ z=>z)) rfl m_isinstance PyProof.Rows.boot_isinstance (ja_c (jv 0) (ja_c (je_glob (v:=.ref c.un) rfl T.un rfl) ja_nil))) (ja_c (je_fnB (jc_isiE (D:=.ref c.mi) (c:=.ref c.mi) (C:=C) hh xi rfl (fun _ z=>z)) rfl m_isinstance PyProof.Rows.boot_isinstance (ja_c (jv 0) (ja_c (je_glob (v:=.ref c.mi) rfl T.mi rfl) ja_nil))) ja_nil))))))
    (jss_cons (js_set (i:=1) scOne.nd rfl (Or.inl rfl) (je_op jo_cat (jv 1) (je_lst (ja_c (je_fnB (jc_isiE (D:=.ref c.uh) (c:=.ref c.uh) (C:=C) hh xi rfl (fun _ z=>z)) rfl m_isinstance PyProof.Rows.boot_isinstance (ja_c (jv 0) (ja_c (je_glob (v:=.ref c.uh) rfl T.uh rfl) ja_nil))) (ja_c (je_fnB (jc_isiE (D:=.ref c.la) (c:=.ref c.la) (C:=C) hh xi rfl (fun _ z=>z)) rfl m_isinstance PyProof.Rows.boot_isinstance (ja_c (jv 0) (ja_c (je_glob (v:=.ref c.la) rfl T.la rfl) ja_nil))) (ja_c (je_fnB (jc_isiE (D:=.ref c.nv) (c:=.ref c.nv) (C:=C) hh xi rfl (fun _ z=>z)) rfl m_isinstance PyProof.Rows.boot_isinstance (ja_c (jv 0) (ja_c (je_glob (v:=.ref c.nv) rfl T.nv rfl) ja_nil))) (ja_c (je_fnB (jc_isiE (D:=.ref c.go) (c:=.ref c.go) (C:=C) hh xi rfl (fun _ z=>z)) rfl m_isinstance PyProof.Rows.boot_isinstance (ja_c (jv 0) (ja_c (je_glob (v:=.ref c.go) rfl T.go rfl) ja_nil))) ja_nil)))))))
    (jss_cons (js_set (i:=1) scOne.nd rfl (Or.inl rfl) (je_op jo_cat (jv 1) (je_lst (ja_c (je_fnB (jc_isiE (D:=.ref c.fu) (c:=.ref c.fu) (C:=C) hh xi rfl (fun _ z=>z)) rfl m_isinstance PyProof.Rows.boot_isinstance (ja_c (jv 0) (ja_c (je_glob (v:=.ref c.fu) rfl T.fu rfl) ja_nil))) (ja_c (je_fnB (jc_isiE (D:=.ref c.fa) (c:=.ref c.fa) (C:=C) hh xi rfl (fun _ z=>z)) rfl m_isinstance PyProof.Rows.boot_isinstance (ja_c (jv 0) (ja_c (je_glob (v:=.ref c.fa) rfl T.fa rfl) ja_nil))) ja_nil)))))
    (jss_one (js_ret (je_and (je_cmpR jo_eq (je_fnB jc_len_seq rfl m_len PySem.boot_len (ja_c (je_compH ["_law_one"] hn.p (jv 1) (fun _ _ _ _ _=>(jg_name (i:=2) ndOne rfl (Or.inl rfl))) (fun _ _ _ _ _=>(jts_one (jt_val (jv 2)))) (fun _ _ _ _ _=>(jv 2))) ja_nil)) je_int (nomark _)) (je_and (je_fnB (jc_isiE (D:=.ty "ValueError") (c:=.type "ValueError") (C:=C) hh xi rfl (fun _ z=>z)) rfl m_isinstance PyProof.Rows.boot_isinstance (ja_c (jv 0) (ja_c (je_bltn (v:=.ty "ValueError") rfl T.V boot_VE rfl) ja_nil))) (je_one (je_fnB (jc_isiE (D:=.ref c.R) (c:=.ref c.R) (C:=C) hh xi rfl (fun _ z=>z)) rfl m_isinstance PyProof.Rows.boot_isinstance (ja_c (jv 0) (ja_c (je_glob (v:=.ref c.R) rfl T.R rfl) ja_nil))))))))))),?_⟩
  obtain ⟨bs,ebs⟩:∃ bs:Nat->Bool,bs=fun j=>decide (j=k):=⟨_,rfl⟩
  have kt:∀ (j:Nat) (D:Addr),c.all[j]?=some D->PySem.W.kitOne K (.ref C) (.ref D)=some (bs j):=fun j D h=>by rw [ebs]; exact kitRow.at xr.kit j D h
  refine ⟨_,rfl,rfl,hc,hdx,hda,_,kt 0 _ rfl,_,rfl,rfl,hc,hdx,hda,_,kt 1 _ rfl,_,rfl,rfl,hc,hdx,hda,_,kt 2 _ rfl,_,rfl,rfl,hc,hdx,hda,_,kt 3 _ rfl,by show 4<=sizeLine; decide,fun p1 h1=>?_⟩
  have s1:=same_new (o:=.lst [.bl (bs 0),.bl (bs 1),.bl (bs 2),.bl (bs 3)]) h1
  have t1:=upd_same (H:=H) (a:=p1) (o:=.lst [.bl (bs 0),.bl (bs 1),.bl (bs 2),.bl (bs 3)])
  show (tSeq _ _:TS) _ _ (upd H p1 (.lst [.bl (bs 0),.bl (bs 1),.bl (bs 2),.bl (bs 3)]))
  generalize upd H p1 (.lst [.bl (bs 0),.bl (bs 1),.bl (bs 2),.bl (bs 3)])=H1 at *
  have dx1:=hdx.same s1
  refine ⟨_,rfl,_,rfl,rfl,hc,dx1,hda,_,kt 4 _ rfl,_,rfl,rfl,hc,dx1,hda,_,kt 5 _ rfl,_,rfl,rfl,hc,dx1,hda,_,kt 6 _ rfl,_,rfl,rfl,hc,dx1,hda,_,kt 7 _ rfl,by show 4<=sizeLine; decide,fun p2 h2=>⟨p1,p2,_,_,rfl,rfl,old h2 t1,upd_same,by show 8<=sizeLine; decide,fun p3 h3=>?_⟩⟩
  have s3:=(s1.new (o:=.lst [.bl (bs 4),.bl (bs 5),.bl (bs 6),.bl (bs 7)]) h2).new (o:=.lst [.bl (bs 0),.bl (bs 1),.bl (bs 2),.bl (bs 3),.bl (bs 4),.bl (bs 5),.bl (bs 6),.bl (bs 7)]) h3
  have t3:=upd_same (H:=upd H1 p2 (.lst [.bl (bs 4),.bl (bs 5),.bl (bs 6),.bl (bs 7)])) (a:=p3) (o:=.lst [.bl (bs 0),.bl (bs 1),.bl (bs 2),.bl (bs 3),.bl (bs 4),.bl (bs 5),.bl (bs 6),.bl (bs 7)])
  show (tSeq _ _:TS) _ _ (upd (upd H1 p2 (.lst [.bl (bs 4),.bl (bs 5),.bl (bs 6),.bl (bs 7)])) p3 (.lst [.bl (bs 0),.bl (bs 1),.bl (bs 2),.bl (bs 3),.bl (bs 4),.bl (bs 5),.bl (bs 6),.bl (bs 7)]))
  generalize upd (upd H1 p2 (.lst [.bl (bs 4),.bl (bs 5),.bl (bs 6),.bl (bs 7)])) p3 (.lst [.bl (bs 0),.bl (bs 1),.bl (bs 2),.bl (bs 3),.bl (bs 4),.bl (bs 5),.bl (bs 6),.bl (bs 7)])=H3 at *
  have dx3:=hdx.same s3
  refine ⟨_,rfl,_,rfl,rfl,hc,dx3,hda,_,kt 8 _ rfl,_,rfl,rfl,hc,dx3,hda,_,kt 9 _ rfl,by show 2<=sizeLine; decide,fun p4 h4=>⟨p3,p4,_,_,rfl,rfl,old h4 t3,upd_same,by show 10<=sizeLine; decide,fun p5 h5=>?_⟩⟩
  have s5:=(s3.new (o:=.lst [.bl (bs 8),.bl (bs 9)]) h4).new (o:=.lst ((List.range 10).map fun j=>V.bl (bs j))) h5
  obtain ⟨H5,hH5⟩:∃ H5:Hp,H5=upd (upd H3 p4 (.lst [.bl (bs 8),.bl (bs 9)])) p5 (.lst ((List.range 10).map fun j=>V.bl (bs j))):=⟨_,rfl⟩
  have t5:H5 p5=some (.lst ((List.range 10).map fun j=>V.bl (bs j))):=by rw [hH5]; exact upd_same
  rw [<- hH5] at s5
  refine ⟨_,rfl,p5,rfl,⟨_,SqL.of upd_same⟩,lc_list (xs:=(List.range 10).map fun j=>V.bl (bs j)) (fun i τ ys H'=>H'=H5/\(∃ x,τ=[some (.ref e),some (.ref p5),x])/\ys=((List.range i).filter bs).map fun _=>V.bl true) ⟨hH5.symm,⟨none,rfl⟩,rfl⟩ (fun i τ ys H' _ h=>by rw [h.1]; exact SqL.of t5) ?_ ?_⟩
  clear hH5
  · rintro i x τ ys H' hx ⟨rfl,⟨y,rfl⟩,rfl⟩
    rw [List.getElem?_map] at hx
    obtain ⟨j,hj,rfl⟩:=Option.map_eq_some_iff.mp hx
    have hi:i < 10:=by
      have:=(List.getElem?_eq_some_iff.mp hj).1
      rwa [List.length_range] at this
    rw [List.getElem?_range hi] at hj
    cases hj
    cases c':bs i with
    | false =>
      refine ⟨_,rfl,_,rfl,iteF ⟨rfl,⟨_,rfl⟩,?_⟩⟩
      rw [List.range_succ,List.filter_append,List.filter_cons,c']
      simp
    | true =>
      refine ⟨_,rfl,_,rfl,iteT ⟨_,rfl,?_,rfl,⟨_,rfl⟩,?_⟩⟩
      · have:=List.length_filter_le bs (List.range i)
        rw [List.length_range] at this
        rw [List.length_map]
        have:sizeLine ≥ 100:=by decide
        lia
      · rw [List.range_succ,List.filter_append,List.filter_cons,c',List.map_append]
        rfl
  · rintro τ ys H' ⟨rfl,_,rfl⟩ p6 h6
    rw [List.length_map,List.length_range]
    have s6:=s5.new (o:=.lst (((List.range 10).filter bs).map fun _=>V.bl true)) h6
    have l1:(((List.range 10).filter bs).map fun _=>V.bl true).length=1:=by rw [List.length_map,ebs]; exact len1 k10
    have dx6:=hdx.same s6
    refine ⟨_,_,rfl,.inl (SqL.of upd_same),rfl,_,rfl,ifT (by rw [l1]; rfl) ?_⟩
    exact ⟨_,rfl,rfl,hc,dx6,hda,_,xr.kV,_,rfl,iteT ⟨_,rfl,rfl,hc,dx6,hda,_,xr.kR,q _ s6⟩⟩
end
end GN
namespace GN
open PySem L2 K11
theorem join_len:∀ {zs:List Str},(∀ z∈zs,z.length=1)->(Str.join "" zs).length=zs.length
  | [],_=>rfl
  | [x],h=>h x List.mem_cons_self
  | x :: y :: r,h=>by
    have ih:=join_len (zs:=y :: r) fun z hz=>h z (List.mem_cons_of_mem _ hz)
    rw [<- cl_len,cl_join_cons,List.length_append,List.length_append,cl_len,cl_len,cl_len,ih,h x List.mem_cons_self]
    show 1 + (0 + (y :: r).length)=(y :: r).length + 1
    lia
theorem wide_one {zs:List Str} (h:∀ z∈zs,z.length=1):wide "" zs=zs.length:=by
  unfold wide
  have e:∀ {l:List Str},(∀ z∈l,z.length=1)->(l.map (·.length)).sum=l.length:=by
    intro l
    induction l with
    | nil=>intro _; rfl
    | cons a l ih=>intro h; rw [List.map_cons,List.sum_cons,ih fun z hz=>h z (List.mem_cons_of_mem _ hz),h a List.mem_cons_self,List.length_cons]; lia
  rw [e h]
  rfl
def spStem (K:PySem.W.Frag):Sp:=fun vs H Q _=>∃ (st:Addr) (B:Nat),vs=[.ref st]/\Sta K H st B/\B + 10 < LIM/\∀ (H':Hp) (r:Addr) (z:Str) (b:Bool),Kp st H H'->Sta K H' st (B + 8)->z.length<=6->H' r=some (.lst [.str z,.bl b])->Q (.ref r) H'
def verd (ds:List Df):Str × Str:=match bad1 ds with
  | none=>("good","")
  | some d=>("unheld",d.g)
theorem none_of {H H':Hp} {r:Addr} (s:Same H H') (h:H' r=none):H r=none:=by
  cases c:H r with
  | none=>rfl
  | some o=>rw [s _ _ c] at h; cases h
def spGot:Sp:=fun vs H Q _=>∃ (p:Addr) (ds:List Df),vs=[.ref p]/\IsCode H ds p/\(ds.map (·.g)).Nodup/\ds.length<=1000/\(∀ d∈ds,DfOk (owOf ds) d)/\∀ H' r,H r=none->Same H H'->H' r=some (.tup [.str (verd ds).1,.str (verd ds).2])->Q (.ref r) H'
section
variable {P:Program} {w:World} {K:PySem.W.Frag} {mg:Str->Option Value} {base:Heap} {f R C T:Addr} {fd:FuncData} {c:Xc}
theorem scGot:FnScope ["_law_code","_law_said","_law_got_here","_law_e"] ["_law_code"] (defScope sGot):=⟨rfl,rfl,rfl,by decide +kernel,rfl,by decide +kernel,by decide +kernel⟩
theorem ok_got (F:Fun K "_law_got" "_law_got" sGot f fd) (X:X65 K mg c) (GR:Ca P w K mg base (CXf P w) 9 "checked" ["code"] (spChecked c.uh)) (GO:CaH P w K mg base 1 "_law_one_class" ["_law_e"] (spOne K c)):FnOk P w K mg base CX0 10 f fd ["_law_code"] spGot:=by
  refine F.by scGot (fun vs H Q E h=>?_) (fun cdv A outer s H vs Q E hr h=>?_)
  · obtain ⟨p,ds,rfl,_⟩:=h
    rfl
  obtain ⟨p,ds,rfl,hC,nd,ln,ok,q⟩:=h
  obtain ⟨f1,M1⟩:=X.ch
  have hr1:Room 1 _:=hr.mono (by decide)
  refine ⟨_,
    (jss_cons (js_set (i:=1) scGot.nd rfl (Or.inl rfl) (je_lst ja_nil))
    (jss_cons (js_set (i:=2) scGot.nd rfl (Or.inl rfl) je_non)
    (jss_cons (js_tryN (tb:=fun E=>_) (fun pins E=>jss_one (js_set (i:=2) scGot.nd rfl (Or.inl rfl) (je_ca GR hr rfl pass_try (ja_c (jv 0) ja_nil))))
      (hb_as (i:=3) (th:=fun e oe=>_) hb_nil
        scGot.nd rfl rfl X.uh (fun e oe=>jss_one (js_set (i:=1) scGot.nd rfl (Or.inl rfl) (je_lst (ja_c (je_xfld (e:=e) (oe:=oe) List.mem_cons_self M1 X.fh X.xh.xi.hd (jv 3)) (ja_c (je_caH (e:=e) (oe:=oe) GO (hr1.h _) rfl rfl List.mem_cons_self (ja_c (jv 3) ja_nil)) ja_nil)))))))
    (jss_cons (js_if (jW.pt (jw_and (jt_cmpR (jo_neE hr) (jv 1) (je_lst ja_nil) (nomark _)) (jw_and1 (jt_val (je_ix jx_list (jv 1) je_int (fun _ _=>rfl))))))
      (jss_one (js_ret (je_tup (ja_c je_str (ja_c (je_ix jx_list (jv 1) je_int (fun _ _=>rfl)) ja_nil))))) jss_nil)
    (jss_cons (js_if (jW.pt (jw_and (jt_cmpR (jo_eqE hr) (jv 1) (je_lst ja_nil) (nomark _)) (jw_and1 (jt_cmpR jo_isB (jv 2) je_bl (nomark _)))))
      (jss_one (js_ret (je_tup (ja_c je_str (ja_c je_str ja_nil))))) jss_nil)
    (jss_one (js_ret (je_tup (ja_c je_str (ja_c je_str ja_nil)))))))))),?_⟩
  have sl:=line0
  refine (show ∀ (u:TS) (D:Ends),(∀ (σ:St) (H3:Hp) (l:Addr) (d:Df),bad1 ds=some d->σ.length=4->σ[1]?=some (some (.ref l))->Same H H3->H3 l=some (.lst [.str d.g,.bl true])->u D σ H3) ->
      (∀ (H3:Hp) (l0:Addr),bad1 ds=none->Same H H3->H3 l0=some (.lst [])->u D [some (.ref p),some (.ref l0),some (.bl true),none] H3)->(tSeq _ (tSeq _ (tSeq _ u)):TS) D [some (.ref p),none,none,none] H from ?key) _ _ ?r1 ?r2
  case key =>
    intro u D q1 q2
    refine ⟨by show 0<=sizeLine; decide,fun l0 h0=>?_⟩
    have s0:=same_new (o:=.lst []) h0
    have e0:=upd_same (H:=H) (a:=l0) (o:=.lst [])
    refine ⟨_,rfl,p,ds,rfl,hC.keep (.of s0),nd,ln,ok,fun hb H2 s2=>?_,fun d hb d' H2 k2 hd=>?_⟩
    · exact q2 H2 l0 hb (s0.trans s2) (s2 _ _ e0)
    · have s2:Same _ H2:=fun b o h=>k2 b o (fun z=>z) h
      refine .inl ⟨X.eh,fun e oe ws σ hσ hc hdx hda hz he=>?_⟩
      have hσ:σ.length=4:=hσ
      refine ⟨_,by rw [List.getElem?_set_self (by lia)],rfl,hc,⟨ws,hda⟩,d',_,_,hdx,hd,rfl,?_⟩
      refine ⟨_,by rw [List.getElem?_set_self (by lia)],⟨ws,hda,hz⟩,4,c.uh,rfl,by decide,X.xh,hc,.inr ⟨d',_,hdx,hd⟩,⟨ws,hda⟩,fun H4 s4=>⟨by show 2<=sizeLine; decide,fun l hl=>?_⟩⟩
      refine q1 _ _ l d hb (by rw [List.length_set,List.length_set,List.length_set]; exact hσ) ?_ (((s0.trans s2).trans s4).new hl) upd_same
      rw [List.getElem?_set_ne (by decide),List.getElem?_set_self (by rw [List.length_set]; lia)]
  case r1 =>
    intro σ H3 l d hb hσ hl s3 e3
    have hv:verd ds=(("unheld":Str),d.g):=by unfold verd; rw [hb]
    rw [hv] at q
    refine ⟨_,hl,by show 0<=sizeLine; decide,fun pe he=>?_⟩
    have o1:=s3.new (o:=.lst []) he
    have e4:=old (o:=.lst []) he e3
    exact ⟨_,_,_,rfl,rfl,SqL.of e4,SqL.of upd_same,_,rfl,ifT rfl ⟨_,hl,l,_,_,_,rfl,rfl,SqL.of e4,atI_nat (j:=1) rfl,_,rfl,iteT ⟨_,hl,l,_,_,_,rfl,rfl,SqL.of e4,atI_nat (j:=0) rfl,by show 2<=sizeLine; decide,fun r hr=>q _ r (none_of o1 hr) (o1.new hr) upd_same⟩⟩⟩
  case r2 =>
    intro H3 l0 hb s3 e3
    have hv:verd ds=(("good":Str),("":Str)):=by unfold verd; rw [hb]
    rw [hv] at q
    refine ⟨_,rfl,by show 0<=sizeLine; decide,fun pe he=>?_⟩
    have o1:=s3.new (o:=.lst []) he
    have e4:=old (o:=.lst []) he e3
    refine ⟨_,_,_,rfl,rfl,SqL.of e4,SqL.of upd_same,_,rfl,ifF rfl (iteF (nxtC ?_))⟩
    refine ⟨_,rfl,by show 0<=sizeLine; decide,fun pe2 he2=>?_⟩
    exact ⟨_,_,_,rfl,rfl,SqL.of (old he2 e4),SqL.of upd_same,_,rfl,ifT rfl ⟨_,rfl,_,_,rfl,rfl,_,rfl,iteT ⟨by show 2<=sizeLine; decide,fun r hr=>q _ r (none_of (o1.new he2) hr) ((o1.new he2).new hr) upd_same⟩⟩⟩
theorem scStem:FnScope ["_law_state","_law_letters","_law_stem_here"] ["_law_state"] (defScope sStem):=⟨rfl,rfl,rfl,by decide +kernel,rfl,by decide +kernel,by decide +kernel⟩
theorem ndStem:(["_law_state","_law_letters","_law_stem_here","_law_k"]:List Str).Nodup:=by decide +kernel
theorem ok_stem (F:Fun K "_law_stem" "_law_stem" sStem f fd) (GD:Ca P w K mg base CX0 1 "_law_draw" ["_law_state","_law_many"] (spDraw K)) (m_range:mg "range"=none):FnOk P w K mg base CX0 2 f fd ["_law_state"] (spStem K):=by
  refine F.by scStem (fun vs H Q E h=>?_) (fun cdv A outer s H vs Q E hr h=>?_)
  · obtain ⟨st,B,rfl,_⟩:=h
    rfl
  obtain ⟨st,B,rfl,S0,hB,q⟩:=h
  refine ⟨_,
    (jss_cons (js_set (i:=1) scStem.nd rfl (Or.inr rfl) je_str)
    (jss_cons (js_set (i:=2) scStem.nd rfl (Or.inl rfl) (je_bm PySem.F.plainAttrs_str PySem.F.slot_str_join PySem.F.type_str_join jm_join je_str (ja_c (je_comp ["_law_k"] rfl (ji_range1 rfl m_range (ja_c (je_ca GD hr rfl pass0 (ja_c (jv 0) (ja_c je_int ja_nil))) ja_nil)) (fun _ _ _ _ _=>(jg_name (i:=3) ndStem rfl (Or.inl rfl))) (fun _ _ _ _ _=>jts_nil) (fun _ _ _ _ _=>(je_ix jx_str (jv 1) (je_ca GD hr rfl pass0 (ja_c (jv 0) (ja_c je_int ja_nil))) (fun _ _=>rfl)))) ja_nil)))
    (jss_one (js_ret (je_lst (ja_c (jv 2) (ja_c (je_cmpR jo_eq (je_ca GD hr rfl pass0 (ja_c (jv 0) (ja_c je_int ja_nil))) je_int (nomark _)) ja_nil))))))),?_⟩
  have sl:=line0
  unfold LIM at hB
  have LM:LIM=4611686018427387904:=rfl
  refine ⟨rfl,_,rfl,st,7,B,rfl,S0,by lia,by decide,fun H1 r k1 S1 r0 r1=>?_⟩
  refine ⟨_,rfl,by lia,by lia,lc_range (n:=r.toNat) (fun i τ ys H'=>Kp st H H'/\Sta K H' st (B + 1 + i)/\(∃ x,τ=[some (.ref st),some (.str LET),none,x])/\∃ zs:List Str,ys=zs.map V.str/\zs.length=i/\∀ z∈zs,z.length=1) ⟨k1,S1,⟨none,rfl⟩,[],rfl,rfl,fun z hz=>by cases hz⟩ ?_ ?_⟩
  · rintro i τ ys H2 hi ⟨k2,S2,⟨x,rfl⟩,zs,rfl,hl,h1⟩
    refine ⟨_,rfl,_,rfl,st,26,B + 1 + i,rfl,S2,by lia,by decide,fun H3 r3 k3 S3 q0 q1=>?_⟩
    refine ⟨LET,_,_,rfl,rfl,by rw [let_len]; decide,let_atI q0 q1,by rw [List.length_map]; lia,k2.trans k3,S3,⟨_,rfl⟩,zs ++ [⟨#[97 + r3.toNat]⟩],by simp,by simp [hl],?_⟩
    intro z hz
    rcases List.mem_append.mp hz with hz | hz
    · exact h1 z hz
    · rw [List.mem_singleton.mp hz]
      rfl
  rintro τ ys H2 ⟨k2,S2,_,zs,rfl,hl,h1⟩ pj hpj
  refine ⟨"",pj,zs,rfl,rfl,SqL.of upd_same,by rw [wide_one h1]; lia,?_⟩
  have zl:(Str.join "" zs).length<=6:=by rw [join_len h1]; lia
  replace k2:=k2.new (o:=.lst (zs.map V.str)) hpj
  replace S2:=(S2.mono (show _<=B + 7 by lia)).new hpj (.lst (zs.map V.str))
  generalize upd H2 pj (.lst (zs.map V.str))=H3 at *
  generalize Str.join "" zs=z at *
  refine ⟨_,rfl,_,rfl,st,2,B + 7,rfl,S2,by lia,by decide,fun H4 r4 k4 S4 _ _=>?_⟩
  exact ⟨rfl,by show 2<=sizeLine; decide,fun wl hw=>q _ wl z _ ((k2.trans k4).new hw) (S4.new hw _) zl upd_same⟩
end
end GN
namespace GN
open PySem L2 K11
def ins {α:Type} (xs:List α) (k:Nat) (y:α):List α:=xs.take k ++ y :: xs.drop k
theorem ins_perm {α:Type} {xs:List α} {k:Nat} {y:α}:(ins xs k y).Perm (y :: xs):=by
  have h:=List.perm_middle (a:=y) (l₁:=xs.take k) (l₂:=xs.drop k)
  rw [List.take_append_drop] at h
  exact h
theorem ins_map {α β:Type} (f:α->β) (xs:List α) (k:Nat) (y:α):(ins xs k y).map f=ins (xs.map f) k (f y):=by
  unfold ins
  rw [List.map_append,List.map_cons,List.map_take,List.map_drop]
theorem ins_len {α:Type} {xs:List α} {k:Nat} {y:α}:(ins xs k y).length=xs.length + 1:=by
  rw [ins_perm.length_eq,List.length_cons]
theorem ins_mem {α:Type} {xs:List α} {k:Nat} {x y:α}:x∈ins xs k y↔x=y\/x∈xs:=by
  rw [ins_perm.mem_iff,List.mem_cons]
theorem ins_nodup {α:Type} {xs:List α} {k:Nat} {y:α} (h:y ∉ xs) (n:xs.Nodup):(ins xs k y).Nodup:=ins_perm.nodup_iff.mpr (List.nodup_cons.mpr ⟨h,n⟩)
def d1 (z:Str) (b:Bool):Df:=⟨nm z b 0,[nm z b 1,nm z b 2],[true,false],.drop (nm z b 1) (.lt (nm z b 3) (.num 0) (.give (nm z b 3)))⟩
def d2 (z:Str) (b:Bool):Df:=⟨nm z b 1,[nm z b 3],[true],.give (nm z b 3)⟩
structure RB (z:Str) (b:Bool) (rows:List (Df × Bool)) (js:List Nat):Prop where
  nm:rows.map (fun r=>r.1.g)=js.map (nm z b)
  nd:js.Nodup
  lt:∀ j∈js,j < 7
  k:∀ r∈rows,r=(d1 z b,false)\/r=(d2 z b,false)\/∃ name,DG z b name r.2 r.1
theorem RB.ins {z:Str} {b:Bool} {rows:List (Df × Bool)} {js:List Nat} (h:RB z b rows js) {j k:Nat} {r:Df × Bool} (hg:r.1.g=GN.nm z b j) (hj:j ∉ js) (h7:j < 7) (hr:r=(d1 z b,false)\/r=(d2 z b,false)\/∃ name,DG z b name r.2 r.1):RB z b (ins rows k r) (ins js k j) where
  nm:=by rw [ins_map,ins_map,h.nm,hg]
  nd:=ins_nodup hj h.nd
  lt:=fun i hi=>by
    rcases ins_mem.mp hi with rfl | hi
    · exact h7
    · exact h.lt i hi
  k:=fun x hx=>by
    rcases ins_mem.mp hx with rfl | hx
    · exact hr
    · exact h.k x hx
theorem look_mem {α:Type}:∀ {l:List (Str × α)} {x:Str} {a:α},(l.map (·.1)).Nodup->(x,a)∈l->look l x=some a
  | [],x,a,_,h=>by cases h
  | (y,c) :: l,x,a,nd,h=>by
    rw [List.map_cons,List.nodup_cons] at nd
    rw [look_one]
    rcases List.mem_cons.mp h with e | h
    · cases e
      rw [if_pos rfl]
    · rw [if_neg (fun e=>nd.1 (List.mem_map.mpr ⟨_,h,e.symm⟩))]
      exact look_mem nd.2 h
theorem nodup_nm {z:Str} {b:Bool}:∀ {js:List Nat},js.Nodup->(∀ j∈js,j < 7)->(js.map (nm z b)).Nodup
  | [],_,_=>List.nodup_nil
  | j :: js,nd,lt=>by
    rw [List.nodup_cons] at nd
    rw [List.map_cons,List.nodup_cons]
    refine ⟨fun h=>?_,nodup_nm nd.2 fun i hi=>lt i (List.mem_cons_of_mem _ hi)⟩
    obtain ⟨i,hi,e⟩:=List.mem_map.mp h
    have a1:=lt i (List.mem_cons_of_mem _ hi)
    have a2:=lt j List.mem_cons_self
    have:i=j:=nm_injG (by lia) (by lia) e
    exact nd.1 (this ▸ hi)
def dueR:List (Df × Bool)->Str × Str
  | []=>("good","")
  | r :: rs=>if r.2=true then ("unheld",r.1.g) else dueR rs
theorem verd_due (p:Df->Bool):∀ {rows:List (Df × Bool)},(∀ r∈rows,p r.1=r.2)->(match (rows.map (·.1)).find? p with | none=>(("good":Str),("":Str)) | some d=>("unheld",d.g))=dueR rows
  | [],_=>rfl
  | r :: rs,h=>by
    rw [List.map_cons,List.find?_cons]
    have e:=h r List.mem_cons_self
    rw [dueR]
    cases c:r.2 with
    | true=>rw [e,c,if_pos rfl]
    | false =>
      rw [e,c,if_neg (by decide)]
      exact verd_due p fun x hx=>h x (List.mem_cons_of_mem _ hx)
theorem ok_d1 {z:Str} {b:Bool} {ow:Ow}:okB ow (d1 z b).b (d1 z b).s0=true:=by
  have h:=use_p (o:=⟨z,b,1,2,by decide,.inl rfl⟩)
  show okB ow (.drop (nm z b 1) _) _=true
  have h':useUp (nm z b 1) (d1 z b).s0=some ⟨[(nm z b 2,false)],[]⟩:=h
  rw [okB_drop h']
  refine ok_other ?_ rfl
  rw [look_one,if_neg (nm_ne (by decide) (by decide) (by decide))]
  rfl
theorem ok_d2 {z:Str} {b:Bool} {ow:Ow}:okB ow (d2 z b).b (d2 z b).s0=true:=by
  show okB ow (.give (nm z b 3)) ⟨[(nm z b 3,true)],[]⟩=true
  have e5:useUp (nm z b 3) ⟨[(nm z b 3,true)],[]⟩=some ⟨[],[]⟩:=by
    unfold useUp
    rw [if_pos (by rw [look_one,if_pos rfl])]
    unfold drpA
    simp
  rw [okB,pc,e5,Option.bind_some]
  rfl
theorem rb_all {z:Str} {b:Bool} {rows:List (Df × Bool)} {js:List Nat} (h:RB z b rows js) (m1:(d1 z b,false)∈rows) (m2:(d2 z b,false)∈rows):((rows.map (·.1)).map (·.g)).Nodup/\(∀ d∈rows.map (·.1),DfOk (owOf (rows.map (·.1))) d)/\verd (rows.map (·.1))=dueR rows:=by
  have nd:((rows.map (·.1)).map (·.g)).Nodup:=by
    rw [List.map_map]
    show (rows.map fun r=>r.1.g).Nodup
    rw [h.nm]
    exact nodup_nm h.nd h.lt
  have on:((owOf (rows.map (·.1))).map (·.1)).Nodup:=by
    unfold owOf
    rw [List.map_map]
    exact nd
  have l0:look (owOf (rows.map (·.1))) (nm z b 0)=some [true,false]:=look_mem on (List.mem_map.mpr ⟨_,List.mem_map.mpr ⟨_,m1,rfl⟩,rfl⟩)
  have l1:look (owOf (rows.map (·.1))) (nm z b 1)=some [true]:=look_mem on (List.mem_map.mpr ⟨_,List.mem_map.mpr ⟨_,m2,rfl⟩,rfl⟩)
  obtain ⟨ow,eow⟩:∃ ow,ow=owOf (rows.map (·.1)):=⟨_,rfl⟩
  rw [<- eow] at l0 l1 ⊢
  have each:∀ r∈rows,okB ow r.1.b r.1.s0=!r.2/\DfOk ow r.1:=fun r hr=>by
    rcases h.k r hr with rfl | rfl | ⟨name,g⟩
    · refine ⟨ok_d1,?_,rfl,?_,?_,?_⟩
      · show [nm z b 1,nm z b 2].Nodup
        simp [nm_ne (z:=z) (b:=b) (show 1 < 100 by decide) (show 2 < 100 by decide) (by decide)]
      · show OkBd ow (.drop _ (.lt _ (.num 0) (.give _)))
        rw [OkBd,OkBd,OkBd]
        exact ⟨Nat.zero_le _,trivial,trivial⟩
      · show 2 + (Bd.drop _ (.lt _ (.num 0) (.give _))).wt < _
        rw [Bd.wt,Bd.wt,Bd.wt]
        decide
      · show (Bd.drop _ (.lt _ (.num 0) (.give _))).sz < _
        rw [Bd.sz,Bd.sz,Bd.sz]
        decide
    · refine ⟨ok_d2,?_,rfl,?_,?_,?_⟩
      · show [nm z b 3].Nodup
        simp
      · show OkBd ow (.give _)
        rw [OkBd]
        trivial
      · show 1 + (Bd.give _).wt < _
        rw [Bd.wt]
        decide
      · show (Bd.give _).sz < _
        rw [Bd.sz]
        decide
    · obtain ⟨o,rfl,rfl,hp,ok,okb⟩:=g.o
      have ho:OwO o ow:=⟨l0,l1⟩
      have s0:r.1.s0=o.s0:=by
        unfold Df.s0 Wd.s0
        rw [hp,g.os]
        rfl
      refine ⟨by rw [s0]; exact ok ow ho,?_,by rw [hp,g.os]; rfl,okb ow ho,?_,?_⟩
      · rw [hp]
        simp [p_q (o:=o)]
      · have:=g.wt
        rw [hp]
        show 2 + _ < _
        lia
      · have:=g.sz
        lia
  refine ⟨nd,fun d hd=>?_,?_⟩
  · obtain ⟨r,hr,rfl⟩:=List.mem_map.mp hd
    exact (each r hr).2
  · unfold verd bad1
    rw [<- eow]
    exact verd_due _ fun r hr=>by rw [(each r hr).1,Bool.not_not]
end GN
namespace HT
open PySem PySem.Spec PyProof.Rows
section
variable {prog:Program} {w:World} {A:Around} {s:Shared} {E:Value->Shared->Prop}
theorem getItem_tuple_whole {t sl:Addr} {items:Array Value} {vl vu:Value} {lo hi:Option Int} {Q:Value->Shared->Prop} (ht:IsTup s.heap t items) (hs:s.heap.IsSliceOf sl vl vu .none) (pl:IsPart vl lo) (pu:IsPart vu hi)
    (hw:sIx items.size 0 lo=0/\sIx items.size items.size hi=items.size) (h:Q (.ref t) s):wpAny (model prog w) A (getItem (.ref t) (.ref sl)) Q E s:=by
  obtain ⟨os,hos,hcs,hds⟩:=id hs
  have hTs:s.TypeIs (.ref sl) "slice":=⟨os,hos,hcs⟩
  unfold getItem
  try with_reducible refine wpAny_holding ?_
  first | refine wpAny_bind (wpAny_pure ?_) | skip
  refine wpAny_bind (wpAny_sequenceKey ht.typeIs (by decide) ?_)
  refine wpAny_bind (wpAny_callSpecial?_slot (name:=Str.ofString "__getitem__") ht.typeIs PyProof.Rows.slot_tuple_getitem
    (wpAny_call_entry PyProof.Rows.slot_tuple_getitem ht.typeIs entry_tuple_getitem ?_ (args_tuple_getitem _ _)))
  show wpAny _ _ (Builtin.Tuple.tupleItemsOf (.ref t) >>= _) _ _ s
  refine wpAny_bind (tupleItemsOf_ ht ?_)
  refine wpAny_bind (wpAny_typeOf hTs ?_)
  rw [if_pos (by decide)]
  refine wpAny_bind (sliceApplied_gen hs pl pu ?_)
  have hyes:(((sIx items.size 0 lo:Nat):Int) == 0 && (1:Int) == 1 && (sIx items.size items.size hi - sIx items.size 0 lo) == items.size)=true:=by
    rw [hw.1,hw.2]
    simp
  show wpAny _ _ (if (((sIx items.size 0 lo:Nat):Int) == 0 && (1:Int) == 1 && (sIx items.size items.size hi - sIx items.size 0 lo) == items.size)=true then _ else _) _ _ s
  rw [if_pos hyes]
  have hx:wpAny (model prog w) A.in1 (Builtin.Tuple.tupleIsExact (.ref t)) (fun b s'=>b=true/\s'=s) (fun _ _=>False) s:=by
    unfold Builtin.Tuple.tupleIsExact
    exact wpAny_bind (wpAny_typeOf ht.typeIs (wpAny_pure ⟨by decide,rfl⟩))
  refine wpAny_bind (wpAny_mono hx (fun b s' q=>?_) fun _ _ z=>z.elim)
  obtain ⟨rfl,rfl⟩:=q
  rw [if_pos rfl]
  exact wpAny_bind (wpAny_rule (wpAny_pure ⟨_,rfl,wpAny_pure h⟩))
end
end HT
namespace L2
open PySem PySem.Spec PyProof.Rows
def rSlW (K:PySem.W.Frag):V->Option Int->Option Int->Hp->VK->Prop:=fun x lo hi H Q=>∃ a xs,x=.ref a/\SqT K H a xs /\
  (cutV xs lo hi=xs->Q (.ref a) H)/\∀ p,H p=none->Q (.ref p) (upd H p (.tup (cutV xs lo hi)))
section
variable {X:Cx}
theorem sl_tupW:SlR X (rSlW X.K):=by
  intro pins s σ H x v vl vu lo hi sl Q I rx hs pl pu h
  obtain ⟨a,xs,rfl,hx,q1,q⟩:=h
  by_cases hw:HT.sIx xs.length 0 lo=0/\HT.sIx xs.length xs.length hi=xs.length
  · cases rx
    obtain ⟨its,r,ht,hz⟩:=I.tuple hx
    have hlen:its.toArray.size=xs.length:=by rw [List.size_toArray]; exact r.length.symm
    refine ⟨"tuple",_,PyProof.Rows.slot_tuple_getitem.lookup,ht.typeIs,?_⟩
    refine HT.getItem_tuple_whole ht hs pl pu (by rw [hlen]; exact hw) ⟨.ref a,H,I,rfl,q1 ?_⟩
    unfold cutV
    rw [hw.1,hw.2]
    simp
  · exact sl_tup pins s σ H (.ref a) v vl vu lo hi sl Q I rx hs pl pu ⟨a,xs,rfl,hx,hw,q⟩
def rSlO:V->Option Int->Option Int->Hp->VK->Prop:=fun x lo hi H Q=>∃ a xs,x=.ref a/\H a=some (.tup xs)/\∀ p H',(∀ b o,H b=some o->H' b=some o)->H' p=some (.tup (cutV xs lo hi))->Q (.ref p) H'
theorem sl_tupO:SlR X rSlO:=by
  intro pins s σ H x v vl vu lo hi sl Q I rx hs pl pu h
  obtain ⟨a,xs,rfl,hx,q⟩:=h
  refine sl_tupW pins s σ H (.ref a) v vl vu lo hi sl Q I rx hs pl pu ⟨a,xs,rfl,SqT.of hx,fun e=>q a H (fun _ _ z=>z) (by rw [e]; exact hx),fun p hp=>q p _ (fun b o z=>?_) upd_same⟩
  rw [upd_ne (ne_of_none z hp)]
  exact z
theorem jl_tupO:jSl X rSlO:=⟨sl_tupO⟩
end
end L2
namespace GN
open PySem L2 K11
def spLaw (K:PySem.W.Frag):Sp:=fun vs H Q _=>∃ (a:Addr) (ns:List Int),vs=[.ref a]/\SqL K H a (ns.map V.int)/\ns.length<=63/\∀ H',Q (.bl true) H'
def RwAt (H:Hp):List (Df × Bool)->List Addr->Prop
  | [],[]=>True
  | r :: rows,a :: rs=>(∃ od,H a=some (.tup [.ref od,.bl r.2])/\IsDf H r.1 od)/\RwAt H rows rs
  | _,_=>False
theorem RwAt.keep {H H':Hp} (t:Tups H H'):∀ {rows:List (Df × Bool)} {rs:List Addr},RwAt H rows rs->RwAt H' rows rs
  | [],[],_=>trivial
  | r :: rows,a :: rs,⟨⟨od,h1,h2⟩,h⟩=>⟨⟨od,t _ _ h1,h2.keep t⟩,RwAt.keep t h⟩
theorem RwAt.len {H:Hp}:∀ {rows:List (Df × Bool)} {rs:List Addr},RwAt H rows rs->rows.length=rs.length
  | [],[],_=>rfl
  | r :: rows,a :: rs,⟨_,h⟩=>by rw [List.length_cons,List.length_cons,RwAt.len h]
theorem RwAt.app {H:Hp}:∀ {rows:List (Df × Bool)} {rs:List Addr} {rows':List (Df × Bool)} {rs':List Addr},RwAt H rows rs->RwAt H rows' rs'->RwAt H (rows ++ rows') (rs ++ rs')
  | [],[],_,_,_,h=>h
  | r :: rows,a :: rs,_,_,⟨h1,h2⟩,h=>⟨h1,RwAt.app h2 h⟩
theorem RwAt.take {H:Hp}:∀ {rows:List (Df × Bool)} {rs:List Addr} (k:Nat),RwAt H rows rs->RwAt H (rows.take k) (rs.take k)
  | [],[],k,_=>by rw [List.take_nil,List.take_nil]; trivial
  | r :: rows,a :: rs,0,_=>trivial
  | r :: rows,a :: rs,k + 1,⟨h1,h2⟩=>⟨h1,RwAt.take k h2⟩
theorem RwAt.drop {H:Hp}:∀ {rows:List (Df × Bool)} {rs:List Addr} (k:Nat),RwAt H rows rs->RwAt H (rows.drop k) (rs.drop k)
  | [],[],k,_=>by rw [List.drop_nil,List.drop_nil]; trivial
  | r :: rows,a :: rs,0,h=>h
  | r :: rows,a :: rs,k + 1,⟨h1,h2⟩=>RwAt.drop k h2
theorem RwAt.ins {H:Hp} {rows:List (Df × Bool)} {rs:List Addr} {r:Df × Bool} {a:Addr} (k:Nat) (h:RwAt H rows rs) (h1:∃ od,H a=some (.tup [.ref od,.bl r.2])/\IsDf H r.1 od):RwAt H (ins rows k r) (ins rs k a):=(h.take k).app ⟨h1,h.drop k⟩
theorem RwAt.at {H:Hp}:∀ {rows:List (Df × Bool)} {rs:List Addr} {i:Nat} {a:Addr},RwAt H rows rs->rs[i]?=some a->∃ r od,rows[i]?=some r/\H a=some (.tup [.ref od,.bl r.2])/\IsDf H r.1 od
  | [],[],i,a,_,h=>by simp at h
  | r :: rows,a :: rs,0,a',⟨⟨od,h1,h2⟩,_⟩,h=>by cases h; exact ⟨r,od,rfl,h1,h2⟩
  | r :: rows,a :: rs,i + 1,a',⟨_,h⟩,g=>by
    obtain ⟨r',od,e,h1,h2⟩:=RwAt.at h (i:=i) (by simpa using g)
    exact ⟨r',od,by simpa using e,h1,h2⟩
theorem RB.snoc {z:Str} {b:Bool} {rows:List (Df × Bool)} {js:List Nat} (h:RB z b rows js) {j:Nat} {r:Df × Bool} (hg:r.1.g=GN.nm z b j) (hj:j ∉ js) (h7:j < 7) (hr:r=(d1 z b,false)\/r=(d2 z b,false)\/∃ name,DG z b name r.2 r.1):RB z b (rows ++ [r]) (js ++ [j]):=by
  have e1:rows ++ [r]=GN.ins rows rows.length r:=by unfold GN.ins; rw [List.take_length,List.drop_length]
  have e2:js ++ [j]=GN.ins js rows.length j:=by
    have:rows.length=js.length:=by have:=congrArg List.length h.nm; rwa [List.length_map,List.length_map] at this
    unfold GN.ins; rw [this,List.take_length,List.drop_length]
  rw [e1,e2]
  exact h.ins hg hj h7 hr
def sF (d:Df):SV:=⟨fun v H=>∃ p,v=.ref p/\IsDf H d p,fun v H H' e ⟨p,a,b⟩=>⟨p,a,b.keep (Tups.of e)⟩⟩
def sBs (bs:List Bool):List SV:=bs.map fun b=>sA (.bl b)
theorem sBs_eq {H:Hp}:∀ {bs:List Bool} {vs:List V},sAll (sBs bs) vs H->vs=bs.map V.bl
  | [],[],_=>rfl
  | n :: ns,v :: vs,h=>by rw [List.map_cons,<- sBs_eq h.2,show v=.bl n from h.1]
theorem rd_df {Γ:Gm} {tg tb:TE} {tps tos:TA} {g:Str} {ps:List Str} {os:List Bool} {b:Bd} (h1:Rd Γ tg (sA (.str g))) (h2:RdA Γ tps (sNs ps)) (h3:RdA Γ tos (sBs os)) (h4:Rd Γ tb (sB b)) (l:(sNs ps).length<=100:=by exact Nat.le_of_ble_eq_true rfl) (l':(sBs os).length<=100:=by exact Nat.le_of_ble_eq_true rfl):Rd Γ (tTup (tCons tg (tCons (tTup tps) (tCons (tTup tos) (tCons tb tNil))))) (sF ⟨g,ps,os,b⟩) :=
  (rd_tup (rda_c h1 (rda_c (rd_tup h2 l) (rda_c (rd_tup h3 l') (rda_c h4 rda_n))))).mono fun v H hv=>by
    obtain ⟨p,vs,rfl,hp,h⟩:=hv
    match vs,h with
    | [a,b,c,d],⟨e1,⟨q,us,e2,g3,g4⟩,⟨q',us',e3,g5,g6⟩,⟨r,e4,g7⟩,_⟩ =>
      cases e1; cases e2; cases e3; cases e4
      rw [sNs_eq g4] at g3
      rw [sBs_eq g6] at g5
      exact ⟨p,rfl,q,q',r,hp,g3,g5,g7⟩
theorem env_nil {H:Hp}:Env [] H []:=⟨rfl,fun i S h=>by simp at h⟩
theorem env_n {H:Hp} {σ:St} {Γ:Gm} {x:Option V} (h:Env σ H Γ):Env (x :: σ) H (none :: Γ):=by
  refine ⟨by rw [List.length_cons,List.length_cons,h.1],fun i S e=>?_⟩
  cases i with
  | zero=>simp at e
  | succ i=>exact h.2 i S (by simpa using e)
theorem env_s {H:Hp} {σ:St} {Γ:Gm} {v:V} {S:SV} (hv:S.P v H) (h:Env σ H Γ):Env (some v :: σ) H (some S :: Γ):=by
  refine ⟨by rw [List.length_cons,List.length_cons,h.1],fun i T e=>?_⟩
  cases i with
  | zero=>simp at e; subst e; exact ⟨v,rfl,hv⟩
  | succ i=>exact h.2 i T (by simpa using e)
theorem RwAt.os {H:Hp}:∀ {rows:List (Df × Bool)} {rs:List Addr},RwAt H rows rs->∃ os:List Addr,IsDfs H (rows.map (·.1)) os/\∀ (i:Nat) (a:Addr),rs[i]?=some a->∃ o r,os[i]?=some o/\rows[i]?=some r/\H a=some (.tup [.ref o,.bl r.2])/\IsDf H r.1 o
  | [],[],_=>⟨[],⟨rfl,fun i d o h=>by simp at h⟩,fun i a h=>by simp at h⟩
  | r :: rows,a :: rs,⟨⟨od,h1,h2⟩,h⟩=>by
    obtain ⟨os,⟨g1,g2⟩,g3⟩:=RwAt.os h
    refine ⟨od :: os,⟨by rw [List.map_cons,List.length_cons,List.length_cons,g1],fun i d o e1 e2=>?_⟩,fun i a' e=>?_⟩
    · cases i with
      | zero=>cases e1; cases e2; exact h2
      | succ i=>exact g2 i d o (by simpa using e1) (by simpa using e2)
    · cases i with
      | zero=>cases e; exact ⟨od,r,rfl,rfl,h1,h2⟩
      | succ i =>
        obtain ⟨o,r',x1,x2,x3⟩:=g3 i a' (by simpa using e)
        exact ⟨o,r',by simpa using x1,by simpa using x2,x3⟩
theorem asg_rd {Γ:Gm} {t:TE} {S:SV} {u:TS} {D:Ends} {σ:St} {H:Hp} {i:Nat} (h:Rd Γ t S) (e:Env σ H Γ) (q:∀ v H',Same H H'->S.P v H'->u D (σ.set i (some v)) H'):tSeq (tAsg t (gName i)) u D σ H:=h σ H e _ q
section
variable {P:Program} {w:World} {K:PySem.W.Frag} {mg:Str->Option Value} {base:Heap} {f:Addr} {fd:FuncData}
theorem scLaw:FnScope ["_law_script","_law_state","_law_world","_law_heads","_law_tags","_law_rows","_law_p","_law_q","_law_z","_law_first","_law_code","_law_due","_law_one","_law_bad"] ["_law_script"] (defScope sLaw):=⟨rfl,rfl,rfl,by decide +kernel,rfl,by decide +kernel,by decide +kernel⟩
theorem ndLaw:(["_law_script","_law_state","_law_world","_law_heads","_law_tags","_law_rows","_law_p","_law_q","_law_z","_law_first","_law_code","_law_due","_law_one","_law_bad","_law_k"]:List Str).Nodup:=by decide +kernel
theorem ndLaw0:(["_law_script","_law_state","_law_world","_law_heads","_law_tags","_law_rows","_law_p","_law_q","_law_z","_law_first","_law_code","_law_due","_law_one","_law_bad"]:List Str).Nodup:=by decide +kernel
theorem ok_law (F:Fun K "law" "law" sLaw f fd) (GD:Ca P w K mg base CX0 1 "_law_draw" ["_law_state","_law_many"] (spDraw K)) (GM:Ca P w K mg base CX0 1 "_law_name" ["_law_world","_law_k"] spNm) (GS:Ca P w K mg base CX0 2 "_law_stem" ["_law_state"] (spStem K)) (GF:Ca P w K mg base CX0 4 "_law_def" ["_law_state","_law_world","_law_name_here","_law_tags","_law_heads"] (spDef K)) (GT:Ca P w K mg base CX0 10 "_law_got" ["_law_code"] spGot)
    (m_range:mg "range"=none) (m_len:mg "len"=none) (m_tuple:mg "tuple"=none) (m_reversed:mg "reversed"=none):FnOk P w K mg base CX0 11 f fd ["_law_script"] (spLaw K):=by
  refine F.by scLaw (fun vs H Q E h=>?_) (fun cdv A outer s H vs Q E hr h=>?_)
  · obtain ⟨a,ns,rfl,_⟩:=h
    rfl
  obtain ⟨a,ns,rfl,hS,h63,q⟩:=h
  have r1:Room 1 _:=hr.mono (by decide)
  have r2:Room 2 _:=hr.mono (by decide)
  have r4:Room 4 _:=hr.mono (by decide)
  refine ⟨_,
    (jss_cons (js_set (i:=1) scLaw.nd rfl (by first | exact Or.inl rfl | exact Or.inr rfl) (je_lst (ja_c (jv 0) (ja_c je_int ja_nil))))
    (jss_cons (js_set (i:=2) scLaw.nd rfl (by first | exact Or.inl rfl | exact Or.inr rfl) (je_ca GS r2 rfl pass0 (ja_c (jv 1) ja_nil)))
    (jss_cons (js_set (i:=3) scLaw.nd rfl (Or.inr rfl) (je_comp ["_law_k"] rfl (ji_range1 rfl m_range (ja_c je_int ja_nil)) (fun _ _ _ _ _=>(jg_name (i:=14) ndLaw rfl (Or.inl rfl))) (fun _ _ _ _ _=>jts_nil) (fun _ _ _ _ _=>(je_ca GM r1 rfl pass0 (ja_c (jv 2) (ja_c (jv 14) ja_nil))))))
    (jss_cons (js_set (i:=4) scLaw.nd rfl (Or.inr rfl) (je_comp ["_law_k"] rfl (ji_range1 rfl m_range (ja_c je_int ja_nil)) (fun _ _ _ _ _=>(jg_name (i:=14) ndLaw rfl (Or.inl rfl))) (fun _ _ _ _ _=>jts_nil) (fun _ _ _ _ _=>(je_ca GM r1 rfl pass0 (ja_c (jv 2) (ja_c (je_op jo_add je_int (jv 14)) ja_nil))))))
    (jss_cons (js_comp ["_law_k"] (i:=5) scLaw.nd rfl (by first | exact Or.inl rfl | exact Or.inr rfl) rfl (ji_range1 rfl m_range (ja_c (je_op jo_add je_int (je_ca GD r1 rfl pass0 (ja_c (jv 1) (ja_c je_int ja_nil)))) ja_nil)) (fun _ _ _ _ _=>(jg_name (i:=14) ndLaw rfl (Or.inl rfl))) (fun _ _ _ _ _=>jts_nil) (fun _ _ _ _ _=>(je_ca GF r4 rfl pass0 (ja_c (jv 1) (ja_c (jv 2) (ja_c (je_ix (jx_listK K) (jv 3) (je_op jo_add je_int (jv 14)) (fun _ _=>rfl)) (ja_c (jv 4) (ja_c (jv 3) ja_nil))))))))
    (jss_cons (js_asg (jv 4) (jg_lst rfl (jgs_cons (jg_name (i:=6) scLaw.nd rfl (by first | exact Or.inl rfl | exact Or.inr rfl)) (jgs_cons (jg_name (i:=7) scLaw.nd rfl (by first | exact Or.inl rfl | exact Or.inr rfl)) (jgs_cons (jg_name (i:=8) scLaw.nd rfl (by first | exact Or.inl rfl | exact Or.inr rfl)) jgs_nil)))))
    (jss_cons (js_set (i:=9) scLaw.nd rfl (by first | exact Or.inl rfl | exact Or.inr rfl) (je_tup (ja_c (je_ix jx_list (jv 3) je_int (fun _ _=>rfl)) (ja_c (je_tup (ja_c (jv 6) (ja_c (jv 7) ja_nil))) (ja_c (je_tup (ja_c je_bl (ja_c je_bl ja_nil))) (ja_c (je_tup (ja_c je_str (ja_c (jv 6) (ja_c (je_tup (ja_c je_str (ja_c (jv 8) (ja_c (je_tup (ja_c je_str (ja_c je_int ja_nil))) (ja_c (je_tup (ja_c je_str (ja_c (jv 8) ja_nil))) ja_nil))))) ja_nil)))) ja_nil))))))
    (jss_cons (js_expr (je_bm PySem.F.plainAttrs_list PySem.F.slot_list_insert PySem.F.type_list_insert jm_insert (jv 5) (ja_c (je_ca GD r1 rfl pass0 (ja_c (jv 1) (ja_c (je_op jo_add (je_fnB jc_len_seq rfl m_len PySem.boot_len (ja_c (jv 5) ja_nil)) je_int) ja_nil))) (ja_c (je_tup (ja_c (jv 9) (ja_c je_bl ja_nil))) ja_nil))))
    (jss_cons (js_expr (je_bm PySem.F.plainAttrs_list PySem.F.slot_list_insert PySem.F.type_list_insert jm_insert (jv 5) (ja_c (je_ca GD r1 rfl pass0 (ja_c (jv 1) (ja_c (je_op jo_add (je_fnB jc_len_seq rfl m_len PySem.boot_len (ja_c (jv 5) ja_nil)) je_int) ja_nil))) (ja_c (je_tup (ja_c (je_tup (ja_c (je_ix jx_list (jv 3) je_int (fun _ _=>rfl)) (ja_c (je_tup (ja_c (jv 8) ja_nil)) (ja_c (je_tup (ja_c je_bl ja_nil)) (ja_c (je_tup (ja_c je_str (ja_c (jv 8) ja_nil))) ja_nil))))) (ja_c je_bl ja_nil))) ja_nil))))
    (jss_cons (js_set (i:=10) scLaw.nd rfl (by first | exact Or.inl rfl | exact Or.inr rfl) (je_tup (ja_c (je_fnTy jc_tuple_of rfl m_tuple PyProof.Rows.boot_tuple (ja_c (je_comp ["_law_k"] rfl (ji_range1 rfl m_range (ja_c je_int ja_nil)) (fun _ _ _ _ _=>(jg_name (i:=14) ndLaw rfl (Or.inl rfl))) (fun _ _ _ _ _=>jts_nil) (fun _ _ _ _ _=>(je_tup (ja_c (je_tup (ja_c (je_ix (jx_listK K) (jv 4) (jv 14) (fun _ _=>rfl)) (ja_c (jv 14) ja_nil))) ja_nil)))) ja_nil)) (ja_c (je_fnTy jc_tuple_of rfl m_tuple PyProof.Rows.boot_tuple (ja_c (je_compS [12,13] [] rfl (ji_list (jv 5)) (fun _ _ _ _ _=>(jg_tupK K (n:=2) rfl (jgs_cons (jg_name (i:=12) ndLaw0 rfl (Or.inl rfl)) (jgs_cons (jg_name (i:=13) ndLaw0 rfl (Or.inl rfl)) jgs_nil)))) (fun _ _ _ _ _=>jts_nil) (fun _ _ _ _ _=>(jv 12))) ja_nil)) ja_nil))))
    (jss_cons (js_set (i:=11) scLaw.nd rfl (by first | exact Or.inl rfl | exact Or.inr rfl) (je_tup (ja_c je_str (ja_c je_str ja_nil))))
    (jss_cons (js_for PassesOwn.never rfl (ji_rev rfl m_reversed (ja_c (jv 5) ja_nil)) (jg_tup rfl (jgs_cons (jg_name (i:=12) scLaw.nd rfl (by first | exact Or.inl rfl | exact Or.inr rfl)) (jgs_cons (jg_name (i:=13) scLaw.nd rfl (by first | exact Or.inl rfl | exact Or.inr rfl)) jgs_nil)))
      (jss_one (js_if (jt_val (jv 13)) 
        (jss_one (js_set (i:=11) scLaw.nd rfl (by first | exact Or.inl rfl | exact Or.inr rfl) (je_tup (ja_c je_str (ja_c (je_ix jx_tup (jv 12) je_int (fun _ _=>rfl)) ja_nil)))))  jss_nil)))
    (jss_one (js_ret (je_and (je_cmpR (jo_eqT hr) (je_ca GT hr rfl pass0 (ja_c (jv 10) ja_nil)) (jv 11) (nomark _)) (je_and (je_cmpR (jo_eqT hr) (je_ca GT hr rfl pass0 (ja_c (je_tup (ja_c (je_ix jx_tup (jv 10) je_int (fun _ _=>rfl)) (ja_c (je_slice jl_tupO (je_ix jx_tup (jv 10) je_int (fun _ _=>rfl)) jo_none (jo_some je_int)) ja_nil))) ja_nil)) (je_tup (ja_c je_str (ja_c je_str ja_nil))) (nomark _)) (je_one (je_cmpR (jo_eqT hr) (je_ca GT hr rfl pass0 (ja_c (jv 10) ja_nil)) (jv 11) (nomark _))))))))))))))))))),?_⟩
  have sl:=line0
  have LM:LIM=4611686018427387904:=rfl
  refine ⟨_,rfl,by show 2<=sizeLine; decide,fun st h1=>?_⟩
  have S1:Sta K (upd H st (.lst [.ref a,.int ((0:Nat):Int)])) st 0:=by
    refine ⟨a,ns,0,upd_same,fun e=>?_,(same_new h1 _).seq hS,Nat.le_refl _⟩
    rcases hS with (h | ⟨o,h⟩) | h
    · exact absurd e (ne_of_none h h1)
    · exact absurd e (ne_of_none h h1)
    · exact fun _=>.inr h
  show (tSeq _ _:TS) _ _ (upd H st (.lst [.ref a,.int ((0:Nat):Int)]))
  generalize upd H st (.lst [.ref a,.int ((0:Nat):Int)])=H1 at *
  refine ⟨_,rfl,st,0,rfl,S1,by lia,fun H2 wp z b k2 S2 hz hw=>?_⟩
  have nws:=S2.neW hw
  dsimp only
  clear S1 k2
  refine ⟨_,rfl,by decide,by decide,lc_range (n:=7) (fun i τ ys H'=>H'=H2/\(∃ x,τ=[some (.ref a),some (.ref st),some (.ref wp),none,none,none,none,none,none,none,none,none,none,none,x])/\ys=(nmL z b (·) i).map V.str) ⟨rfl,⟨none,rfl⟩,rfl⟩ ?_ ?_⟩
  · rintro i τ ys H' hi ⟨rfl,⟨x,rfl⟩,rfl⟩
    exact ⟨_,rfl,_,rfl,wp,z,b,[],i,by show [V.ref wp,V.int (0 + (i:Int))]=[V.ref wp,V.int (i:Int)]; rw [Int.zero_add],hw,hz,by unfold nmL; rw [List.length_map,List.length_map,List.length_range]; lia,rfl,⟨_,rfl⟩,by unfold nmL; rw [List.range_succ,List.map_append,List.map_append]; rfl⟩
  rintro τ ys H' ⟨rfl,_,rfl⟩ hl hhl
  have S3:=S2.new hhl (.lst ((nmL z b (·) 7).map V.str))
  have w3:=old (o:=.lst ((nmL z b (·) 7).map V.str)) hhl hw
  have l3:=upd_same (H:=H') (a:=hl) (o:=.lst ((nmL z b (·) 7).map V.str))
  have nhl:=S2.ne hhl
  show (tSeq _ _:TS) _ _ (upd H' hl (.lst ((nmL z b (·) 7).map V.str)))
  generalize upd H' hl (.lst ((nmL z b (·) 7).map V.str))=H3 at *
  refine ⟨_,rfl,by decide,by decide,lc_range (n:=3) (fun i τ ys H'=>H'=H3/\(∃ x,τ=[some (.ref a),some (.ref st),some (.ref wp),some (.ref hl),none,none,none,none,none,none,none,none,none,none,x])/\ys=(nmL z b (1 + ·) i).map V.str) ⟨rfl,⟨none,rfl⟩,rfl⟩ ?_ ?_⟩
  · rintro i τ ys H' hi ⟨rfl,⟨x,rfl⟩,rfl⟩
    exact ⟨_,rfl,_,rfl,_,_,rfl,rfl,wp,z,b,[],1 + i,by show [V.ref wp,V.int (1 + (0 + (i:Int)))]=[V.ref wp,V.int ((1 + i:Nat):Int)]; congr 3; lia,w3,hz,by unfold nmL; rw [List.length_map,List.length_map,List.length_range]; lia,rfl,⟨_,rfl⟩,by unfold nmL; rw [List.range_succ,List.map_append,List.map_append]; rfl⟩
  rintro τ ys H'' ⟨rfl,_,rfl⟩ tl htl
  have S4:=S3.new htl (.lst ((nmL z b (1 + ·) 3).map V.str))
  have w4:=old (o:=.lst ((nmL z b (1 + ·) 3).map V.str)) htl w3
  have l4:=old (o:=.lst ((nmL z b (1 + ·) 3).map V.str)) htl l3
  have t4:=upd_same (H:=H'') (a:=tl) (o:=.lst ((nmL z b (1 + ·) 3).map V.str))
  have ntl:=S3.ne htl
  show (tSeq _ _:TS) _ _ (upd H'' tl (.lst ((nmL z b (1 + ·) 3).map V.str)))
  generalize upd H'' tl (.lst ((nmL z b (1 + ·) 3).map V.str))=H4 at *
  clear l3 w3 S3 S2 hw
  refine ⟨_,rfl,st,4,_,rfl,S4,by lia,by decide,fun H5 r5 k5 S5 a0 a1=>?_⟩
  have hdl:∀ i,i < 7->((nmL z b (·) 7).map V.str)[i]?=some (V.str (nm z b i)):=fun i hi=>by
    unfold nmL
    rw [List.getElem?_map,List.getElem?_map,List.getElem?_range hi]
    rfl
  refine ⟨_,_,rfl,rfl,_,rfl,by lia,by lia,lc_range (n:=(1 + r5).toNat) (fun i τ ys H'=>Kp st H4 H'/\Sta K H' st (9 + 30 * i)/\(∃ x,τ=[some (.ref a),some (.ref st),some (.ref wp),some (.ref hl),some (.ref tl),none,none,none,none,none,none,none,none,none,x])/\∃ (rows:List (Df × Bool)) (rs:List Addr),ys=rs.map V.ref/\RwAt H' rows rs/\rs.length=i/\RB z b rows ((List.range i).map (2 + ·))) ⟨k5,S5,⟨none,rfl⟩,[],[],rfl,trivial,rfl,⟨rfl,List.nodup_nil,(fun j h=>by cases h),(fun r h=>by cases h)⟩⟩ ?_ ?_⟩
  · rintro i τ ys H6 hi ⟨k6,S6,⟨x,rfl⟩,rows,rs,rfl,hR,hn,hB⟩
    refine ⟨_,rfl,_,rfl,_,rfl,_,rfl,_,_,rfl,rfl,hl,_,_,_,rfl,rfl,SqL.of (k6.k _ _ nhl l4),(show atI _ (2 + (0 + (i:Int)))=some (V.str (nm z b (2 + i))) from ?_),_,rfl,_,rfl,st,wp,tl,hl,z,nm z b (2 + i),b,_,rfl,S6,by lia,k6.k _ _ nws w4,hz,k6.k _ _ ntl t4,k6.k _ _ nhl l4,fun H7 r od bad d k7 S7 hr hd hg=>?_⟩
    · rw [show (2 + (0 + (i:Int)))=((2 + i:Nat):Int) by lia]
      exact atI_nat (hdl _ (by lia))
    · refine ⟨by rw [List.length_map]; lia,k6.trans k7,S7.mono (by lia),⟨_,rfl⟩,rows ++ [(d,bad)],rs ++ [r],by rw [List.map_append]; rfl,(hR.keep (k7.tups S6)).app ⟨⟨od,hr,hd⟩,trivial⟩,by rw [List.length_append,hn]; rfl,?_⟩
      rw [List.range_succ,List.map_append]
      refine hB.snoc hg.g ?_ (by show 2 + i < 7; lia) (.inr (.inr ⟨_,hg⟩))
      intro h
      obtain ⟨j,hj,e⟩:=List.mem_map.mp h
      rw [List.mem_range] at hj
      have e:2 + j=2 + i:=e
      lia
  rintro τ ys H6 ⟨k6,S6,_,rows,rs,rfl,hR,hn,hB⟩ rl hrl
  obtain ⟨m,hm⟩:∃ m,m=(1 + r5).toNat:=⟨_,rfl⟩
  rw [<- hm] at S6 hn hB
  have m4:m<=4:=by lia
  have l6:=k6.k _ _ nhl l4
  have t6:=k6.k _ _ ntl t4
  have S7:=S6.new hrl (.lst (rs.map V.ref))
  have k7:Kp st H6 (upd H6 rl (.lst (rs.map V.ref))):=Kp.refl.new hrl
  have L7:=upd_same (H:=H6) (a:=rl) (o:=.lst (rs.map V.ref))
  have R7:=hR.keep (Tups.new (o:=.lst (rs.map V.ref)) hrl)
  have nrl:=S6.ne hrl
  dsimp only
  generalize upd H6 rl (.lst (rs.map V.ref))=H7 at *
  clear k6 hR k5 S5 S4 w4 l4 t4
  have t7:H7 tl=some (.lst [.str (nm z b 1),.str (nm z b 2),.str (nm z b 3)]):=k7.k _ _ ntl t6
  refine ⟨_,rfl,tl,_,rfl,SqL.of t7,rfl,_,_,rfl,_,_,rfl,_,_,rfl,rfl,?_⟩
  dsimp only
  show (tSeq _ _:TS) _ [some (.ref a),some (.ref st),some (.ref wp),some (.ref hl),some (.ref tl),some (.ref rl),some (.str (nm z b 1)),some (.str (nm z b 2)),some (.str (nm z b 3)),none,none,none,none,none] H7
  refine asg_rd (S:=sF (d1 z b)) (rd_df (g:=nm z b 0) (ps:=[nm z b 1,nm z b 2]) (os:=[true,false]) (b:=(d1 z b).b) (rd_ixs (i:=3) (k:=0) (ns:=nmL z b (·) 7)) (rda_c (rd_v (i:=6)) (rda_c (rd_v (i:=7)) rda_n)) (rda_c rd_c (rda_c rd_c rda_n)) (rd_dropB (x:=nm z b 1) (rd_v (i:=6)) (rd_ltB (x:=nm z b 3) (d:=.num 0) (rd_v (i:=8)) rd_num (rd_giveB (x:=nm z b 3) (rd_v (i:=8)))))) (env_n (env_n (env_n (env_s (S:=sLs (nmL z b (·) 7)) ⟨hl,rfl,k7.k _ _ nhl l6⟩ (env_n (env_n (env_s (S:=sA (.str (nm z b 1))) rfl (env_s (S:=sA (.str (nm z b 2))) rfl (env_s (S:=sA (.str (nm z b 3))) rfl (env_n (env_n (env_n (env_n (env_n env_nil)))))))))))))) (fun v H8 s8 hv=>?_)
  obtain ⟨pf,rfl,hf⟩:=hv
  have k8:=k7.trans (.of s8)
  have S8:=S7.same s8
  have L8:=s8 _ _ L7
  have R8:=R7.keep (.of s8)
  have rm:rows.length=m:=by rw [R7.len,hn]
  refine ⟨_,rfl,.inl ⟨rfl,_,SqL.of L8⟩,_,rfl,_,rfl,rl,_,rfl,.inl (SqL.of L8),_,_,rfl,rfl,st,_,_,rfl,S8,by lia,by rw [List.length_map]; lia,fun H9 r9 k9 S9 c0 c1=>?_⟩
  refine ⟨_,rfl,by show 2<=sizeLine; decide,fun pr hpr=>?_⟩
  obtain ⟨i1,rfl⟩:∃ i1:Nat,r9=(i1:Nat):=⟨r9.toNat,by lia⟩
  have L9:=k9.k _ _ nrl L8
  have T9:=k9.tups S8
  have k10:=(k8.trans k9).new (o:=.tup [.ref pf,.bl false]) hpr
  have S10:=S9.new hpr (.tup [.ref pf,.bl false])
  have L10:=old (o:=.tup [.ref pf,.bl false]) hpr L9
  have T10:=Tups.new (o:=.tup [.ref pf,.bl false]) hpr
  have p10:=upd_same (H:=H9) (a:=pr) (o:=.tup [.ref pf,.bl false])
  dsimp only
  generalize upd H9 pr (.tup [.ref pf,.bl false])=H10 at *
  rw [List.length_map,hn] at c1
  refine ⟨rl,_,i1,_,_,rfl,rfl,rfl,L10,by rw [List.length_map]; lia,by rw [List.length_map]; lia,?_⟩
  have k11:Kp st H6 (upd H10 rl (.lst ((ins rs i1 pr).map V.ref))):=k10.put hrl
  have S11:Sta K (upd H10 rl (.lst ((ins rs i1 pr).map V.ref))) st _:=S6.put hrl k10 S10
  have L11:=upd_same (H:=H10) (a:=rl) (o:=.lst ((ins rs i1 pr).map V.ref))
  have T11:Tups H10 (upd H10 rl (.lst ((ins rs i1 pr).map V.ref))):=fun p xs h=>by
    rw [upd_ne (fun e=>by rw [e,L10] at h; cases h)]
    exact h
  have R11:RwAt (upd H10 rl (.lst ((ins rs i1 pr).map V.ref))) (ins rows i1 (d1 z b,false)) (ins rs i1 pr):=(((R8.keep T9).keep T10).keep T11).ins i1 ⟨pf,T11 _ _ p10,((hf.keep T9).keep T10).keep T11⟩
  have B11:RB z b (ins rows i1 (d1 z b,false)) (ins ((List.range m).map (2 + ·)) i1 0):=hB.ins rfl (fun h=>by
    obtain ⟨j,hj,e⟩:=List.mem_map.mp h
    have e:2 + j=0:=e
    lia) (by decide) (.inl rfl)
  have n11:(ins rs i1 pr).length=m + 1:=by rw [ins_len,hn]
  dsimp only
  rw [show (rs.map V.ref).take i1 ++ V.ref pr :: (rs.map V.ref).drop i1=(ins rs i1 pr).map V.ref from (ins_map V.ref rs i1 pr).symm]
  have N0:(1:Nat) ∉ ins ((List.range m).map (2 + ·)) i1 0:=fun h=>by
    rcases ins_mem.mp h with h | h
    · cases h
    · obtain ⟨j,hj,e⟩:=List.mem_map.mp h
      have e:2 + j=1:=e
      lia
  have M0:(d1 z b,false)∈ins rows i1 (d1 z b,false):=ins_mem.mpr (.inl rfl)
  generalize upd H10 rl (.lst ((ins rs i1 pr).map V.ref))=H11 at *
  generalize ins ((List.range m).map (2 + ·)) i1 0=js at *
  generalize ins rows i1 (d1 z b,false)=rows1 at *
  generalize ins rs i1 pr=rs1 at *
  clear R8 T9 T10 T11 L10 p10 k10 S10 hB hf L9 R7 L7 L8 k8 S8 k7 S7 t7 k9 S9 s8
  refine ⟨_,rfl,.inl ⟨rfl,_,SqL.of L11⟩,_,rfl,_,rfl,rl,_,rfl,.inl (SqL.of L11),_,_,rfl,rfl,st,_,_,rfl,S11,by lia,by rw [List.length_map]; lia,fun H12 r12 k12 S12 e0 e1=>?_⟩
  obtain ⟨i2,rfl⟩:∃ i2:Nat,r12=(i2:Nat):=⟨r12.toNat,by lia⟩
  rw [List.length_map,n11] at e1
  have L12:=k12.k _ _ nrl L11
  have R12:=R11.keep (k12.tups S11)
  have k012:=k11.trans k12
  refine (rd_tup (rda_c (rd_df (g:=nm z b 1) (ps:=[nm z b 3]) (os:=[true]) (b:=.give (nm z b 3)) (rd_ixs (i:=3) (k:=1) (ns:=nmL z b (·) 7)) (rda_c (rd_v (i:=8)) rda_n) (rda_c rd_c rda_n) (rd_giveB (x:=nm z b 3) (rd_v (i:=8)))) (rda_c (rd_c (x:=.bl false)) rda_n))) [some (.ref a),some (.ref st),some (.ref wp),some (.ref hl),some (.ref tl),some (.ref rl),some (.str (nm z b 1)),some (.str (nm z b 2)),some (.str (nm z b 3)),some (.ref pf),none,none,none,none] H12 (env_n (env_n (env_n (env_s (S:=sLs (nmL z b (·) 7)) ⟨hl,rfl,k012.k _ _ nhl l6⟩ (env_n (env_n (env_n (env_n (env_s (S:=sA (.str (nm z b 3))) rfl (env_n (env_n (env_n (env_n (env_n env_nil)))))))))))))) _ (fun v H13 s13 hv=>?_)
  obtain ⟨pr2,vs,rfl,hpr2,hv⟩:=hv
  obtain ⟨v1,v2,rfl,⟨pf2,rfl,hf2⟩,e2⟩:=two_of hv
  cases e2
  have L13:=s13 _ _ L12
  refine ⟨rl,_,i2,_,_,rfl,rfl,rfl,L13,by rw [List.length_map]; lia,by rw [List.length_map]; lia,?_⟩
  have T14:Tups H13 (upd H13 rl (.lst ((ins rs1 i2 pr2).map V.ref))):=fun p xs h=>by
    rw [upd_ne (fun e=>by rw [e,L13] at h; cases h)]
    exact h
  have L14:=upd_same (H:=H13) (a:=rl) (o:=.lst ((ins rs1 i2 pr2).map V.ref))
  have R14:RwAt (upd H13 rl (.lst ((ins rs1 i2 pr2).map V.ref))) (ins rows1 i2 (d2 z b,false)) (ins rs1 i2 pr2):=((R12.keep (.of s13)).keep T14).ins i2 ⟨pf2,T14 _ _ hpr2,hf2.keep T14⟩
  have B14:RB z b (ins rows1 i2 (d2 z b,false)) (ins js i2 1):=B11.ins rfl N0 (by decide) (.inr (.inl rfl))
  have all:=rb_all B14 (ins_mem.mpr (.inr M0)) (ins_mem.mpr (.inl rfl))
  have n14:(ins rs1 i2 pr2).length=m + 2:=by rw [ins_len,n11]
  have t14:(upd H13 rl (.lst ((ins rs1 i2 pr2).map V.ref))) tl=some (.lst [.str (nm z b 1),.str (nm z b 2),.str (nm z b 3)]):=((k012.trans (.of s13)).put hrl).k _ _ ntl t6
  dsimp only
  rw [show (rs1.map V.ref).take i2 ++ V.ref pr2 :: (rs1.map V.ref).drop i2=(ins rs1 i2 pr2).map V.ref from (ins_map V.ref rs1 i2 pr2).symm]
  generalize upd H13 rl (.lst ((ins rs1 i2 pr2).map V.ref))=H14 at *
  generalize ins js i2 1=js' at *
  generalize ins rows1 i2 (d2 z b,false)=rows2 at *
  generalize ins rs1 i2 pr2=rs2 at *
  clear R12 R11 k012 k12 S12 L12 L13 L11 S11 k11 B11 N0 M0 T14 s13 B14 hpr2 hf2 hv t6 l6
  obtain ⟨os,I14,O14⟩:=R14.os
  have ln:rows2.length=m + 2:=by rw [R14.len,n14]
  have lo:os.length=m + 2:=by have:=I14.1; rw [List.length_map] at this; lia
  refine ⟨_,rfl,by decide,by decide,lc_range (n:=3) (fun i τ ys H'=>Same H14 H'/\(∃ x,τ=[some (.ref a),some (.ref st),some (.ref wp),some (.ref hl),some (.ref tl),some (.ref rl),some (.str (nm z b 1)),some (.str (nm z b 2)),some (.str (nm z b 3)),some (.ref pf),none,none,none,none,x])/\ys.length=i) ⟨Same.refl _,⟨none,rfl⟩,rfl⟩ ?_ ?_⟩
  · rintro i τ ys H' hi ⟨s1,⟨x,rfl⟩,hy⟩
    refine ⟨_,rfl,_,rfl,tl,_,_,_,rfl,rfl,SqL.of (s1 _ _ t14),(show atI _ (0 + (i:Int))=some ([V.str (nm z b 1),.str (nm z b 2),.str (nm z b 3)][i]'hi) from ?_),_,rfl,by show 2<=sizeLine; decide,fun q1 h1=>⟨by show 1<=sizeLine; decide,fun q2 h2=>⟨by lia,(s1.new h1).new h2,⟨_,rfl⟩,by rw [List.length_append,hy]; rfl⟩⟩⟩
    rw [Int.zero_add]
    exact atI_nat (List.getElem?_eq_getElem hi)
  rintro τ ys H15 ⟨s15,_,hy⟩ q1 hq1
  refine ⟨q1,_,rfl,.inl ⟨SqL.of upd_same,fun q2 hq2=>?_⟩⟩
  have s16:=(s15.new (o:=.lst ys) hq1).new (o:=.tup ys) hq2
  dsimp only
  generalize upd (upd H15 q1 (.lst ys)) q2 (.tup ys)=H16 at *
  refine ⟨_,rfl,rl,rfl,⟨_,SqL.of (s16 _ _ L14)⟩,lc_list (xs:=rs2.map V.ref) (fun i τ ys H'=>H'=H16/\(∃ x y,τ=[some (.ref a),some (.ref st),some (.ref wp),some (.ref hl),some (.ref tl),some (.ref rl),some (.str (nm z b 1)),some (.str (nm z b 2)),some (.str (nm z b 3)),some (.ref pf),none,none,x,y])/\ys=(os.take i).map V.ref) ⟨rfl,⟨none,none,rfl⟩,rfl⟩ (fun i τ ys H' _ h=>by rw [h.1]; exact SqL.of (s16 _ _ L14)) ?_ ?_⟩
  · rintro i x τ ys H' hx ⟨rfl,⟨x1,x2,rfl⟩,rfl⟩
    rw [List.getElem?_map] at hx
    obtain ⟨ra,ha,rfl⟩:=Option.map_eq_some_iff.mp hx
    obtain ⟨o,r,ho,hr,hH,_⟩:=O14 i ra ha
    refine ⟨ra,_,rfl,SqT.of (s16 _ _ hH),rfl,_,_,rfl,_,_,rfl,rfl,_,rfl,by rw [List.length_map,List.length_take]; lia,rfl,⟨_,_,rfl⟩,?_⟩
    rw [List.take_add_one,ho,List.map_append]
    rfl
  rintro τ ys H' ⟨rfl,_,rfl⟩ q3 hq3
  rw [List.length_map,show os.take rs2.length=os from List.take_of_length_le (by lia)]
  refine ⟨q3,_,rfl,.inl ⟨SqL.of upd_same,fun q4 hq4=>⟨by show 2<=sizeLine; decide,fun pc hpc=>?_⟩⟩⟩
  have s19:=(((s16.new (o:=.lst (os.map V.ref)) hq3).new (o:=.tup (os.map V.ref)) hq4).new (o:=.tup [.ref q2,.ref q4]) hpc)
  have c19:=upd_same (H:=upd (upd H' q3 (.lst (os.map V.ref))) q4 (.tup (os.map V.ref))) (a:=pc) (o:=.tup [.ref q2,.ref q4])
  have d19:=old (o:=.tup [.ref q2,.ref q4]) hpc (upd_same (H:=upd H' q3 (.lst (os.map V.ref))) (a:=q4) (o:=.tup (os.map V.ref)))
  generalize upd (upd (upd H' q3 (.lst (os.map V.ref))) q4 (.tup (os.map V.ref))) pc (.tup [.ref q2,.ref q4])=H19 at *
  refine ⟨by show 2<=sizeLine; decide,fun pu hpu=>?_⟩
  have s20:=s19.new (o:=.tup [.str "good",.str ""]) hpu
  have c20:=old (o:=.tup [.str "good",.str ""]) hpu c19
  have d20:=old (o:=.tup [.str "good",.str ""]) hpu d19
  have u20:=upd_same (H:=H19) (a:=pu) (o:=.tup [.str "good",.str ""])
  generalize upd H19 pu (.tup [.str "good",.str ""])=H20 at *
  refine ⟨_,rfl,rl,_,rfl,SqL.of (s20 _ _ L14),for_rev (xs:=rs2.map V.ref) (fun i σ H'=>Same H20 H'/\∃ x y pu,σ=[some (.ref a),some (.ref st),some (.ref wp),some (.ref hl),some (.ref tl),some (.ref rl),some (.str (nm z b 1)),some (.str (nm z b 2)),some (.str (nm z b 3)),some (.ref pf),some (.ref pc),some (.ref pu),x,y]/\H' pu=some (.tup [.str (dueR (rows2.drop (m + 2 - i))).1,.str (dueR (rows2.drop (m + 2 - i))).2])) ⟨Same.refl _,none,none,pu,rfl,?_⟩ (fun i σ H' _ h=>SqL.of (h.1 _ _ (s20 _ _ L14))) ?_ ?_⟩
  · rw [Nat.sub_zero,List.drop_eq_nil_of_le (by lia)]
    exact u20
  · rintro i x σ H' hx ⟨s21,x1,x2,pu1,rfl,hu⟩
    have hi:i < m + 2:=by
      have:=(List.getElem?_eq_some_iff.mp hx).1
      rw [List.length_reverse,List.length_map] at this
      lia
    rw [List.getElem?_reverse (by rw [List.length_map]; lia),List.getElem?_map] at hx
    obtain ⟨ra,ha,rfl⟩:=Option.map_eq_some_iff.mp hx
    rw [List.length_map,n14] at ha
    obtain ⟨o,r,ho,hr,hH,hI⟩:=O14 _ ra ha
    have ed:rows2.drop (m + 2 - (i + 1))=r :: rows2.drop (m + 2 - i):=by
      have h1:m + 2 - (i + 1) < rows2.length:=by lia
      have h2:m + 2 - 1 - i=m + 2 - (i + 1):=by lia
      rw [h2] at hr
      rw [List.drop_eq_getElem_cons h1,(List.getElem?_eq_some_iff.mp hr).2,show m + 2 - (i + 1) + 1=m + 2 - i by lia]
    have s22:=s20.trans s21
    refine ⟨ra,_,rfl,SqT.of (s22 _ _ hH),rfl,_,_,rfl,_,_,rfl,rfl,_,rfl,_,rfl,?_⟩
    cases hb:r.2 with
    | false =>
      have e2:dueR (rows2.drop (m + 2 - (i + 1)))=dueR (rows2.drop (m + 2 - i)):=by rw [ed,dueR,hb,if_neg (by decide)]
      rw [e2]
      exact ifF rfl (nxtC ⟨s21,_,_,pu1,rfl,hu⟩)
    | true =>
      have e2:dueR (rows2.drop (m + 2 - (i + 1)))=(("unheld":Str),r.1.g):=by rw [ed,dueR,hb,if_pos rfl]
      rw [e2]
      obtain ⟨x3,x4,x5,hg,_⟩:=hI
      exact iteT ⟨_,rfl,o,_,_,_,rfl,rfl,SqT.of (s22 _ _ hg),atI_nat (j:=0) rfl,by show 2<=sizeLine; decide,fun pu2 h2=>⟨s21.new h2,_,_,pu2,rfl,upd_same⟩⟩
  rintro σ H21 ⟨s21,x1,x2,pu1,rfl,hu⟩
  rw [List.length_map,n14,Nat.sub_self,List.drop_zero] at hu
  obtain ⟨nd,dk,vd⟩:=all
  rw [<- vd] at hu
  have s22:=s20.trans s21
  have IC:∀ H',Same H21 H'->IsCode H' (rows2.map (·.1)) pc:=fun H' s'=>⟨_,q4,os,s' _ _ (s21 _ _ c20),s' _ _ (s21 _ _ d20),I14.keep (Tups.of (s22.trans s'))⟩
  have fl:[V.str (verd (rows2.map (·.1))).1,V.str (verd (rows2.map (·.1))).2].all flatV=true:=rfl
  refine ⟨_,rfl,pc,_,rfl,IC _ (Same.refl _),nd,by rw [List.length_map]; lia,dk,fun H22 r22 f22 s23 h22=>?_⟩
  refine ⟨_,rfl,r22,pu1,_,rfl,rfl,fun e=>?_,SqT.of h22,SqT.of (s23 _ _ hu),fl,_,rfl,iteT ?_⟩
  · rw [e,hu] at f22
    cases f22
  have c22:=s23 _ _ (s21 _ _ c20)
  have d22:=s23 _ _ (s21 _ _ d20)
  refine ⟨_,rfl,pc,_,_,_,rfl,rfl,SqT.of c22,atI_nat (j:=0) rfl,_,rfl,pc,_,_,_,rfl,rfl,SqT.of c22,atI_nat (j:=1) rfl,_,rfl,q4,_,rfl,d22,fun pe H23 s24' he=>⟨by show 2<=sizeLine; decide,fun p2 hp2=>?_⟩⟩
  have s24:Same H22 H23:=s24'
  have e0:cutV (os.map V.ref) none (some 0)=[]:=by
    unfold cutV
    have h:HT.sIx (os.map V.ref).length (os.map V.ref).length (some 0)=0:=by unfold HT.sIx; simp
    rw [h,Nat.zero_sub,List.take_zero]
  rw [e0] at he
  refine ⟨p2,[],rfl,⟨_,pe,[],upd_same,old hp2 he,rfl,fun i d o h=>by simp at h⟩,List.nodup_nil,by decide,(fun d h=>by cases h),fun H25 r25 f25 s25 h25=>?_⟩
  refine ⟨by show 2<=sizeLine; decide,fun p3 hp3=>⟨r25,p3,_,rfl,rfl,ne_of_none h25 hp3,SqT.of (old hp3 h25),SqT.of upd_same,rfl,_,rfl,iteT ?_⟩⟩
  have s26:Same H22 (upd H25 p3 (.tup [.str "good",.str ""])):=((s24.new hp2).trans s25).new hp3
  have s27:=s23.trans s26
  refine ⟨_,rfl,pc,_,rfl,IC _ s27,nd,by rw [List.length_map]; lia,dk,fun H28 r28 f28 s28 h28=>?_⟩
  refine ⟨_,rfl,r28,pu1,_,rfl,rfl,fun e=>?_,SqT.of h28,SqT.of (s28 _ _ (s27 _ _ hu)),fl,q _⟩
  rw [e,s27 _ _ hu] at f28
  cases f28
end
end GN
namespace GN
open PySem L2 K11
structure TopK (K:PySem.W.Frag) (cH R nt tw un mi uh la nv go fu fA:Addr):Prop where
  qX:OwnIn K "Hand" cH
  qe:PySem.W.findIn K (.ref cH) "def_name"=some none
  qm:PySem.W.findIn K (.ref cH) "names"=some none
  qh:PySem.W.findIn K (.ref cH) "tokens"=some none
  qn:PySem.W.nsIn K mainGlobals "ReuseError"=some (some (.ref R))
  qaf:PySem.W.specialIn K (.ref R) "__getattribute__"=some (some (.builtin "type.__getattribute__"))
  qag:PySem.W.readsIn K R (.type "type")=true
  qah:PySem.W.findCls K (.ref R) (.type "type") "__init__"=some (.val (.builtin "ValueError.__init__"))
  qai:PySem.W.specialIn K (.builtin "object.__class__") "__get__"=some (some (.builtin "getset_descriptor.__get__"))
  qaj:PySem.W.takesIn K (.builtin "object.__class__")=some true
  eh:PySem.W.exmOne K (.ref uh) (.ref uh)=some true
  qO:PySem.W.nsIn K mainGlobals "NoText"=some (some (.ref nt))
  qS:PySem.W.nsIn K mainGlobals "Twice"=some (some (.ref tw))
  qJ:PySem.W.nsIn K mainGlobals "Unknown"=some (some (.ref un))
  qP:PySem.W.nsIn K mainGlobals "Misfit"=some (some (.ref mi))
  qQ:PySem.W.nsIn K mainGlobals "Unheld"=some (some (.ref uh))
  qK:PySem.W.nsIn K mainGlobals "Lacking"=some (some (.ref la))
  qL:PySem.W.nsIn K mainGlobals "NoValue"=some (some (.ref nv))
  qY:PySem.W.nsIn K mainGlobals "Gone"=some (some (.ref go))
  qZ:PySem.W.nsIn K mainGlobals "Full"=some (some (.ref fu))
  qT:PySem.W.nsIn K mainGlobals "Fault"=some (some (.ref fA))
  q0:MeIn K uh "__init__" "Unheld.__init__" iUnheld
  q1:PySem.W.takerIn K uh "name"=some none
  q2:PySem.W.findIn K (.ref uh) "name"=some none
  q3:overIn K uh=true
  qak:PySem.W.findIn K (.ref uh) "__setattr__"=some (some (.builtin "object.__setattr__"))
  q6:(PySem.W.clsIn K uh).any (·.hasDict)=true
  qal:∃ f,PySem.W.findIn K (.ref uh) "__init__"=some (some (.ref f))/\xIn K uh f=true/\PySem.W.typeIn K (.ref f)=some (.type "function")
  qam:PySem.W.hasDictIn K uh=true
  qan:PySem.W.keepIn K (.ref uh)=true
  qao:PySem.W.findIn K (.ref uh) "__getattribute__"=some (some (.builtin "BaseException.__getattribute__"))
  qap:PySem.W.findIn K (.ref uh) "__getattr__"=some none
  qaq:PySem.W.subIn K (.ref uh) (.type "BaseException")=some true
  qU:PySem.W.findIn K (.ref uh) "__class__"=some (some (.builtin "object.__class__"))
  qar:PySem.W.mroIn K uh (.type "object")=some true
  q7:kitRow K uh [nt,tw,un,mi,uh,la,nv,go,fu,fA] 4=true
  qas:PySem.W.kitOne K (.ref uh) (.ref R)=some true
  qat:PySem.W.kitOne K (.ref uh) (.type "ValueError")=some true
  qC:DfIn K "names_of" sNamesOf
  qM:DfIn K "used_up" sUsedUp
  qf:MeIn K cH "__init__" "Hand.__init__" sHInit
  qi:MeIn K cH "insist" "Hand.insist" sInsist
  qg:MeIn K cH "look_at" "Hand.look_at" sLookAt
  qj:MeIn K cH "use_up" "Hand.use_up" sUseUp
  qu:MeIn K cH "bind" "Hand.bind" sBind
  qv:MeIn K cH "keep" "Hand.keep" sKeep
  qa:MeIn K cH "use_up_token" "Hand.use_up_token" sUseTok
  qR:DfIn K "copied" sCopied
  qo:DfIn K "check_give" sCkGive
  qw:DfIn K "check_arm" sCkArm
  qp:DfIn K "check_deed" sCkDeed
  qq:DfIn K "check_case" sCkCase
  qk:DfIn K "check_piece" sCkPiece
  qx:DfIn K "check_def" sCkDef
  qD:DfIn K "all_owns" sOwns
  qN:DfIn K "checked" sChecked
  qy:DfIn K "_law_draw" sDraw
  qz:DfIn K "_law_name" sNm
  qA:DfIn K "_law_stem" sStem
  qB:DfIn K "_law_pair" sPair
  qE:DfIn K "_law_arm" sArm
  qb:DfIn K "_law_plain_blocks" sPlainBl
  qc:DfIn K "_law_kept_blocks" sKeptBl
  qr:DfIn K "_law_block" sBlock
  ql:DfIn K "_law_joined" sJoined
  qF:DfIn K "_law_end" sEnd
  qG:DfIn K "_law_def" sDef
  qd:DfIn K "_law_one_class" sOne
  qH:DfIn K "_law_got" sGot
  q8:DfIn K "law" sLaw
  q9:PySem.W.nsIn K mainGlobals "len"=some none
  qV:PySem.W.nsIn K mainGlobals "range"=some none
  qs:PySem.W.nsIn K mainGlobals "isinstance"=some none
  qaa:PySem.W.nsIn K mainGlobals "int"=some none
  qab:PySem.W.nsIn K mainGlobals "any"=some none
  qac:PySem.W.nsIn K mainGlobals "all"=some none
  q4:PySem.W.nsIn K mainGlobals "list"=some none
  qI:PySem.W.nsIn K mainGlobals "reversed"=some none
  qad:PySem.W.nsIn K mainGlobals "str"=some none
  qW:PySem.W.nsIn K mainGlobals "tuple"=some none
  q5:PySem.W.nsIn K mainGlobals "dict"=some none
  qae:PySem.W.nsIn K mainGlobals "zip"=some none
  qt:PySem.W.nsIn K mainGlobals "ValueError"=some none
theorem top_ok {l:PySem.W.OpenLaw} {w:World} {K:PySem.W.Frag} {h:Heap} {mg:Str->Option Value} {fa cH R nt tw un mi uh la nv go fu fA:Addr} (T:TopK K cH R nt tw un mi uh la nv go fu fA) (X:K.In h) (G:h.Ns mainGlobals mg) (hfa:mg "law"=some (.ref fa)) :
    ∃ fd:FuncData,(∀ (s:Shared) (u:Value),BindsTo s fd ⟨[u],[]⟩ [("_law_script",u)])/\∀ base:Heap,K.In base->base.Ns mainGlobals mg->FnOk l.prog w K mg base CX0 11 fa fd ["_law_script"] (spTop K):=by
  refine law_in T.q8 X G hfa (fun _ _ _ _ _ _ s v=>.of_eq rfl) fun base fd FL=>?_
  have q9:mg "len"=none:=PySem.W.mg_none_of X G T.q9
  have qV:mg "range"=none:=PySem.W.mg_none_of X G T.qV
  have qs:mg "isinstance"=none:=PySem.W.mg_none_of X G T.qs
  have qaa:mg "int"=none:=PySem.W.mg_none_of X G T.qaa
  have qab:mg "any"=none:=PySem.W.mg_none_of X G T.qab
  have qac:mg "all"=none:=PySem.W.mg_none_of X G T.qac
  have q4:mg "list"=none:=PySem.W.mg_none_of X G T.q4
  have qI:mg "reversed"=none:=PySem.W.mg_none_of X G T.qI
  have qad:mg "str"=none:=PySem.W.mg_none_of X G T.qad
  have qW:mg "tuple"=none:=PySem.W.mg_none_of X G T.qW
  have q5:mg "dict"=none:=PySem.W.mg_none_of X G T.q5
  have qae:mg "zip"=none:=PySem.W.mg_none_of X G T.qae
  have qt:mg "ValueError"=none:=PySem.W.mg_none_of X G T.qt
  have n_Hand:mg "Hand"=some (.ref cH):=PySem.W.mg_of X G T.qX.n
  have qO:=PySem.W.mg_of X G T.qO
  have qS:=PySem.W.mg_of X G T.qS
  have qJ:=PySem.W.mg_of X G T.qJ
  have qP:=PySem.W.mg_of X G T.qP
  have qQ:=PySem.W.mg_of X G T.qQ
  have qK:=PySem.W.mg_of X G T.qK
  have qL:=PySem.W.mg_of X G T.qL
  have qY:=PySem.W.mg_of X G T.qY
  have qZ:=PySem.W.mg_of X G T.qZ
  have qT:=PySem.W.mg_of X G T.qT
  have qn:=PySem.W.mg_of X G T.qn
  have B:XBase K R:=⟨T.qaf,T.qag,T.qah⟩
  obtain ⟨fxu,axu,xinu,xtyu⟩:=T.qal
  have Mu:XCl K uh fxu:=⟨xinu,xtyu,T.qan,T.q3,T.qak,T.q6,T.qao,T.qap,T.qaq⟩
  have GXu:Xa l.prog w K mg base 1 "Unheld" uh ["self","name"] (spX uh "name"):=by
    obtain ⟨f,a,n,g⟩:=T.q0
    obtain ⟨fd,F,kp⟩:=g.fn
    have e:f=fxu:=by
      rw [axu] at a
      injection a with a
      injection a with a
      injection a with a
      exact a.symm
    subst e
    exact ⟨f,fd,Mu,ok_iUnheld F T.q1 Mu B qn,F.binds (ps:=["self","name"]) fun _ _ _ _ _ _=>us2 fun _ _=>rfl,qQ⟩
  have N:TH K cH:=⟨T.qX.cls,T.qe,T.qm,T.qh⟩
  have XX:X65 K mg ⟨nt,tw,un,mi,uh,la,nv,go,fu,fA,R⟩:=⟨qO,qS,qJ,qP,qQ,qK,qL,qY,qZ,qT,qn,qt,⟨⟨T.qao,T.qap,T.qaq,T.qam,T.qU,T.qai,T.qaj,T.qar⟩,T.q7,T.qas,T.qat⟩,T.eh,T.q2,⟨fxu,Mu⟩⟩
  have C1:=DfIn.ca (P:=l.prog) (w:=w) (base:=base) X G T.qC (ps:=["deed"]) (fun _ _ _ _ _ _=>us1 fun _=>rfl) fun f fd F=>ok_namesof F
  have C2:=DfIn.ca X G T.qM (ps:=["deed","owns"]) (fun _ _ _ _ _ _=>us2 fun _ _=>rfl) fun f fd F=>ok_usedup F C1 qW
  have M0:=T.qf.ma (P:=l.prog) (w:=w) (mg:=mg) (base:=base) (x:="Hand") (ps:=["self","def_name","names","tokens"]) (fun _ _ _ _ _ _=>us4 fun _ _ _ _=>rfl) T.qX.mks T.qX.kp n_Hand fun f fd F=>ok_hinit F N q5
  have M1:=T.qi.me (P:=l.prog) (w:=w) (mg:=mg) (base:=base) (ps:=["self","fits"]) (fun _ _ _ _ _ _=>us2 fun _ _=>rfl) fun f fd F=>ok_insist F N GXu
  have M2:=T.qg.me (P:=l.prog) (w:=w) (mg:=mg) (base:=base) (ps:=["self","name"]) (fun _ _ _ _ _ _=>us2 fun _ _=>rfl) fun f fd F=>ok_look F N M1
  have M3:=T.qj.me (P:=l.prog) (w:=w) (mg:=mg) (base:=base) (ps:=["self","name"]) (fun _ _ _ _ _ _=>us2 fun _ _=>rfl) fun f fd F=>ok_useup F N M1
  have M4:=T.qu.me (P:=l.prog) (w:=w) (mg:=mg) (base:=base) (ps:=["self","name"]) (fun _ _ _ _ _ _=>us2 fun _ _=>rfl) fun f fd F=>ok_bind F N M1
  have M5:=T.qv.me (P:=l.prog) (w:=w) (mg:=mg) (base:=base) (ps:=["self","token","many"]) (fun _ _ _ _ _ _=>us3 fun _ _ _=>rfl) fun f fd F=>ok_keep F N M1
  have M6:=T.qa.me (P:=l.prog) (w:=w) (mg:=mg) (base:=base) (ps:=["self","token"]) (fun _ _ _ _ _ _=>us2 fun _ _=>rfl) fun f fd F=>ok_usetok F N M1
  have C3:=DfIn.ca (P:=l.prog) (w:=w) (base:=base) X G T.qR (ps:=["hand"]) (fun _ _ _ _ _ _=>us1 fun _=>rfl) fun f fd F=>ok_copied F N M0
  have C4:=DfIn.ca (P:=l.prog) (w:=w) (base:=base) X G T.qo (ps:=["body","hand"]) (fun _ _ _ _ _ _=>us2 fun _ _=>rfl) fun f fd F=>ok_give F N M1 M3 q9 qab
  have C5:=DfIn.ca (P:=l.prog) (w:=w) (base:=base) X G T.qw (ps:=["name","arm","hand"]) (fun _ _ _ _ _ _=>us3 fun _ _ _=>rfl) fun f fd F=>ok_arm F N M1 M3 M4 M5 q9
  have C6:=DfIn.ca X G T.qp (ps:=["owns","deed","hand"]) (fun _ _ _ _ _ _=>us3 fun _ _ _=>rfl) fun f fd F=>ok_ckdeed F N C1 C2 M1 M3 M2 M6 q9 q4 qae qac
  have C7:=DfIn.ca X G T.qq (ps:=["body","hand"]) (fun _ _ _ _ _ _=>us2 fun _ _=>rfl) fun f fd F=>ok_ckcase F N M2 C3 C5
  have C8:=DfIn.ca X G T.qk (ps:=["owns","body","hand"]) (fun _ _ _ _ _ _=>us3 fun _ _ _=>rfl) fun f fd F=>ok_ckpiece F N C7 M2 C3 C4 C6 M4 M3 M6
  have C9:=DfIn.ca X G T.qx (ps:=["owns","one"]) (fun _ _ _ _ _ _=>us2 fun _ _=>rfl) fun f fd F=>ok_ckdef F N M0 C8 q9 q5 qae
  have CA:=DfIn.ca (P:=l.prog) (w:=w) (base:=base) X G T.qD (ps:=["code"]) (fun _ _ _ _ _ _=>us1 fun _=>rfl) fun f fd F=>ok_owns F
  have CB:=DfIn.ca X G T.qN (ps:=["code"]) (fun _ _ _ _ _ _=>us1 fun _=>rfl) fun f fd F=>ok_checked F CA C9
  have LD:=DfIn.ca (P:=l.prog) (w:=w) (base:=base) X G T.qy (ps:=["_law_state","_law_many"]) (fun _ _ _ _ _ _=>us2 fun _ _=>rfl) fun f fd F=>ok_draw F q9
  have LN:=DfIn.ca (P:=l.prog) (w:=w) (base:=base) X G T.qz (ps:=["_law_world","_law_k"]) (fun _ _ _ _ _ _=>us2 fun _ _=>rfl) fun f fd F=>ok_nm F
  have LS_:=DfIn.ca X G T.qA (ps:=["_law_state"]) (fun _ _ _ _ _ _=>us1 fun _=>rfl) fun f fd F=>ok_stem F LD qV
  have LP:=DfIn.ca (P:=l.prog) (w:=w) (base:=base) X G T.qB (ps:=["_law_n","_law_tags"]) (fun _ _ _ _ _ _=>us2 fun _ _=>rfl) fun f fd F=>ok_pair F
  have LA:=DfIn.ca (P:=l.prog) (w:=w) (base:=base) X G T.qE (ps:=["_law_n","_law_tags","_law_mode","_law_token"]) (fun _ _ _ _ _ _=>us4 fun _ _ _ _=>rfl) fun f fd F=>ok_larm F
  have LB:=DfIn.ca (P:=l.prog) (w:=w) (base:=base) X G T.qb (ps:=["_law_n","_law_q","_law_tags","_law_heads"]) (fun _ _ _ _ _ _=>us4 fun _ _ _ _=>rfl) fun f fd F=>ok_plain F
  have LK:=DfIn.ca X G T.qc (ps:=["_law_n","_law_q","_law_tags","_law_token"]) (fun _ _ _ _ _ _=>us4 fun _ _ _ _=>rfl) fun f fd F=>ok_kept F LP LA
  have LC:=DfIn.ca X G T.qr (ps:=["_law_way","_law_n","_law_p","_law_q","_law_tags","_law_heads","_law_token"]) (fun _ _ _ _ _ _=>us7 fun _ _ _ _ _ _ _=>rfl) fun f fd F=>ok_block F LB LK
  have LJ:=DfIn.ca (P:=l.prog) (w:=w) (base:=base) X G T.ql (ps:=["_law_pieces","_law_body"]) (fun _ _ _ _ _ _=>us2 fun _ _=>rfl) fun f fd F=>ok_joined F qI
  have LE:=DfIn.ca X G T.qF (ps:=["_law_state","_law_p","_law_q","_law_z","_law_bad"]) (fun _ _ _ _ _ _=>us5 fun _ _ _ _ _=>rfl) fun f fd F=>ok_end F LD
  have LF:=DfIn.ca X G T.qG (ps:=["_law_state","_law_world","_law_name_here","_law_tags","_law_heads"]) (fun _ _ _ _ _ _=>us5 fun _ _ _ _ _=>rfl) fun f fd F=>ok_ldef F LN LD LC LJ LE qV qad qaa
  have LO:=DfIn.caH (P:=l.prog) (w:=w) (base:=base) X G T.qd (ps:=["_law_e"]) (fun _ _ _ _ _ _=>us1 fun _=>rfl) fun f fd F=>ok_one F XX qs q9
  have LT:=DfIn.ca X G T.qH (ps:=["_law_code"]) (fun _ _ _ _ _ _=>us1 fun _=>rfl) fun f fd F=>ok_got F XX CB LO
  exact ok_law FL LD LN LS_ LF LT qV q9 qW qI
end GN
namespace PySem.W.Fast
def tw16717937760252920500:=()
def tw6421670117603722507:=()
def tw18123240159596936364:=()
def tw922001958247595974:=()
def tw5470069909375625105:=()
def tw5731576939866059981:=()
def tw11366845691295960198:=()
def tw3572967018008220089:=()
def tw13079789012010303246:=()
def tw16014822575769499382:=()
def tw16805991349029860366:=()
def tw9862729526260717410:=()
def tw14698155240594801831:=()
def tw5195519401005002036:=()
def tw6351037654355698786:=()
def tw7945092385058927047:=()
def tw7867446552170156981:=()
def tw3147487915681540017:=()
def tw6035752999070142745:=()
def tw7665984306715623989:=()
def tw13608211045666707700:=()
def tw17345091493796128571:=()
def tw8654304138708754525:=()
def tw4820735630344740086:=()
def tw359746721168198842:=()
def tw17831420836267529944:=()
def tw1508071770801812644:=()
def tw9075560690212959488:=()
def tw598236645907821564:=()
def tw9359670611820402545:=()
def tw14094539050425668241:=()
def tw816593127937606760:=()
def tw17273459762234516084:=()
def tw17654094038427200222:=()
def tw4237433237471161318:=()
def tw7425985671611358968:=()
def tw6775958861269611930:=()
def tw13333891431663427302:=()
def tw3345245256019278699:=()
def tw1379159693859991007:=()
def tw6492687735490421446:=()
def tw5208043063558869203:=()
def tw9280895071389141099:=()
def tw17975074405337051134:=()
def tw4846485937655146816:=()
def tw3863242038718961006:=()
def tw2521666899291340130:=()
def tw3944529403512676686:=()
def tw18374922660889179051:=()
def tw5951943530814335065:=()
def tw8771682154201279842:=()
def tw4208957269881157622:=()
def tw10902030895749890151:=()
def tw14822300937780524144:=()
def tw10082020586449203864:=()
def tw14456099542461921805:=()
def tw6620734170808353192:=()
def tw12657395178709891004:=()
def tw8891296101176718571:=()
def tw9393400896427723864:=()
def tw1720752798777373291:=()
def tw13192109553749965267:=()
def tw9413772257391953172:=()
def tw5862341746365588450:=()
def tw14711515582360308003:=()
def tw16499351163992177718:=()
def tw12485180849055973003:=()
def tw2863431634406384086:=()
def tw17062276262190936118:=()
def tw9168650467007411233:=()
def tw6167522321039585208:=()
def tw7215547203846365846:=()
def tw17519834797429862796:=()
def tw16791206803303471235:=()
def tw17672718486226156663:=()
def tw3592622377233607060:=()
def tw10095773419199975500:=()
def tw18138268987618456936:=()
def tw8176463381526801362:=()
def tw602937887785017349:=()
def tw17204651202002217068:=()
def tw14307044505668493327:=()
def tw16034533944159543527:=()
def tw6315950424261565365:=()
def tw10781824118227139467:=()
def tw6317113120405507751:=()
def tw15179802761261907327:=()
def tw7871651151524434607:=()
def tw11594691138723365435:=()
def tw16057606015471948968:=()
def tw2925649358031336071:=()
def tw10407550496193535771:=()
def tw272089197453011108:=()
def tw9706345685530240828:=()
def tw1752602895396009384:=()
def tw14105202390872680138:=()
def tw12804975984446052916:=()
def tw17815826296522517805:=()
def tw3496941920021871298:=()
def tw1825764752611967183:=()
def tw5721031782457410346:=()
def tw1567058994313695023:=()
def tw6499681343993910978:=()
def tw10660754566720260222:=()
def tw1079069141555498755:=()
def tw15398344012221916040:=()
def tw11802463537960082103:=()
def tw5738072370478220795:=()
def tw2679606069557200502:=()
def tw2752845089848064012:=()
def tw11811604687755986715:=()
def tw13298755037691016391:=()
def tw16592442587996854606:=()
def tw16117735057577788727:=()
def tw11276476692926178307:=()
def tw12515739824811271728:=()
def tw878379242520064331:=()
def tw7771867145624095115:=()
def tw9863145505493573854:=()
def tw13227567657124943894:=()
def tw4087218462385279618:=()
def tw4074820269622291590:=()
def tw8978544831389469748:=()
def tw4263945827954405570:=()
def tw4156352224133708757:=()
def tw2323866112597052599:=()
def tw9040615030414239098:=()
def tw9088802903582040923:=()
def tw3487848981139922287:=()
def tw12774177684396966863:=()
def tw11997604269129221284:=()
def tw8977058480462764459:=()
def tw10431692378215948686:=()
def tw12725743792166755383:=()
def tw4990260201480667624:=()
def tw14798985528524982654:=()
def tw14966824973921347977:=()
def tw15039336862239972248:=()
def tw9536770892616481101:=()
def tw17976119154163005593:=()
def tw11697129503820778633:=()
def tw8824451822271775423:=()
def tw8982969649025355681:=()
def tw7998503301301344365:=()
def tw11696502421019409188:=()
def tw5336126916697241748:=()
def tw11569123455511048238:=()
def tw2634093210684923309:=()
def tw12744765357681205714:=()
def tw12220713147252146500:=()
def tw5281409638847868928:=()
def tw2907076078549104658:=()
def tw11657439207694214521:=()
def tw1910646289355346619:=()
def tw12415571959437146367:=()
def tw4457723664359854006:=()
def tw11563057639229028795:=()
def tw9879809577172210214:=()
def tw11947708030781912752:=()
def tw4191021804245381264:=()
def tw8086460221923308088:=()
def tw16126770017945117597:=()
def tw13248134728488087672:=()
def tw13390590835652689166:=()
def tw8181193807086203859:=()
def tw14063222931366103757:=()
def tw3892050270352926248:=()
def tw11652919236678901393:=()
def tw13852070892231367158:=()
def tw10731452903469791794:=()
def tw14588899053030011151:=()
def tw13813129907452710434:=()
def tw3963379148493647848:=()
def tw6358299212664671448:=()
def tw5632407336574712208:=()
def tw13960561255452287729:=()
def tw9343964376547362011:=()
def tw1566761651659306187:=()
def tw6154711688318262821:=()
def tw10395954200702131496:=()
def tw1831526482192175896:=()
def tw8670350209287862882:=()
def tw15803869079166081288:=()
def tw6817083920633997686:=()
def tw18089962746093163874:=()
def tw599129676930384203:=()
def tw3731290978486278045:=()
def tw3740017757328414077:=()
def tw11831596828138923561:=()
def tw17098571913982103678:=()
def tw11442100938791847045:=()
def tw5165414454023281529:=()
def tw17049024453688006891:=()
def tw235539593908227392:=()
def tw3190342452433492562:=()
def tw7914265155322652591:=()
def tw11562879930124480603:=()
def tw13079466522144883056:=()
def tw9240196345009818897:=()
def tw8784558046098183714:=()
def tw13242427199060066291:=()
def tw4014764014971513873:=()
def tw422267899859969790:=()
def tw47412175637024525:=()
def tw18224037570482085412:=()
def tw17446366080906742004:=()
def tw8563799515899332495:=()
def tw4621668253113434852:=()
def tw1653620721465768685:=()
def tw5228860437689692534:=()
def tw2648740605495203566:=()
def tw10374233234336722065:=()
def tw9115711354847352702:=()
def tw11732992520516598769:=()
def tw10448733061583672431:=()
def tw13584558350133845876:=()
def tw12234184795540903574:=()
def tw10679631270419096436:=()
def tw7982501203037218740:=()
def tw5491718435343066116:=()
def tw29174161574026115:=()
def tw4588645630919837481:=()
def tw18397039229629645732:=()
def tw5682944881125230857:=()
def tw8382118385764541515:=()
def tw8106955573043471224:=()
def tw8773030320807907337:=()
def tw11371887795388346958:=()
def tw14369359290298641952:=()
def tw783542108605144550:=()
def tw7380778193914907377:=()
def tw14919928739638845893:=()
def tw9721617758709873959:=()
end PySem.W.Fast
open PySem PySem.W PyProof.Rows
set_option maxRecDepth 100000 in
set_option maxHeartbeats 0 in
theorem PySem.Challenge.cw_reusewise_k65_one_spoilt_row_holds : PySem.Challenge.rw_reusewise_k65_one_spoilt_row.Holds := by
  w_on; o_law; k_head; (case hw=>w_witness2)
  k_fill
  refine L2.walk1 (l:=PySem.Challenge.rw_reusewise_k65_one_spoilt_row) (k:=11) rfl ⟨rfl,by decide,by decide⟩ rfl rfl (fun w h Y=>PySem.W.kIn_of Y) ?F
  case F =>
    intro w mg fa h KX G hm
    refine' GN.top_ok (GN.TopK.mk ?qX ?qe ?qm ?qh ?qn ?qaf ?qag ?qah ?qai ?qaj ?eh ?qO ?qS ?qJ ?qP ?qQ ?qK ?qL ?qY ?qZ ?qT ?q0 ?q1 ?q2 ?q3 ?qak ?q6 ?qal ?qam ?qan ?qao ?qap ?qaq ?qU ?qar ?q7 ?qas ?qat ?qC ?qM ?qf ?qi ?qg ?qj ?qu ?qv ?qa ?qR ?qo ?qw ?qp ?qq ?qk ?qx ?qD ?qN ?qy ?qz ?qA ?qB ?qE ?qb ?qc ?qr ?ql ?qF ?qG ?qd ?qH ?q8 ?q9 ?qV ?qs ?qaa ?qab ?qac ?q4 ?qI ?qad ?qW ?q5 ?qae ?qt) KX G hm
    (case qX=>(refine' L2.OwnIn.mk ?n ?pg ?hd ?po ?sa ?mks ?kp; (case n=>k_is); (case pg=>k_is); (case hd=>k_is); (case po=>k_is); (case sa=>k_is); (case mks=>k_is); (case kp=>k_is)))
    (case qe | qm | qh | qn | qaf | qag | qah | qai | qaj | qO | qS | qJ | qP | qQ | qK | qL | qY | qZ | qT | q1 | q2 | qak | qam | qan | qao | qap | qaq | qU | qar | q9 | qV | qs | qaa | qab | qac | q4 | qI | qad | qW | q5 | qae | qt=>k_is)
    (case eh | q3 | q6 | q7 | qas | qat=>(first | kernel_rfl | rfl | decide +kernel))
    (case q0 | qf | qi | qg | qj | qu | qv | qa=>(refine' L2.MeIn.mk ?a ?l ?c ?k ?n; (case a=>k_is); (case l=>k_is); (case c=>k_is); (case k=>k_is); (case n=>k_is)))
    (case qal=>(refine' L2.XcIn.mk ?a ?b ?c; (case a=>k_is); (case b=>(first | kernel_rfl | rfl | decide +kernel)); (case c=>k_is)))
    (case qC | qM | qR | qo | qw | qp | qq | qk | qx | qD | qN | qy | qz | qA | qB | qE | qb | qc | qr | ql | qF | qG | qd | qH | q8=>(refine' L2.DfIn.mk ?a ?l ?c ?k; (case a=>k_is); (case l=>k_is); (case c=>k_is); (case k=>k_is)))
#print axioms PySem.Challenge.cw_reusewise_k65_one_spoilt_row_holds
