import PyProof.Rows.All
import Wide.All
import OpenK.AllK
import Wide.FinOn
import Lean
import PyProof.EqAt
import PyProof.EqKinds
import PyProof.TupleCall
import PyProof.PassesOwn
import PyProof.StationsW
import OpenK.KCls
import PyProof.ExcAttrAll.ValueError
import PyProof.ExcClass3
import PyProof.WalksEnum
import PyProof.EnumMake
import PyProof.EnumFor
import PyProof.EnumStmt
import PyProof.MeetsStr
import PyProof.StrLawsTight
import PyProof.NeKinds
import PyProof.Rows.SumAny
import PyProof.SeqI3
import PyProof.ZipIter
import PyProof.WalksMore
import PyProof.ListNew
import PyProof.StrBlockL
import PyProof.StrBlockI
import PyProof.StrBlock2
import PyProof.StrLawsIn
import PyProof.StrLawsChain
import PyProof.Rows.StrLast
import PyProof.Rows.StrItems
import KE.IntTextText
import KE.KIntText
import KE.KRevIter
import PyProof.Rows.Range3
import PyProof.AutoSeq1
import PyProof.FactsAll.list
import PyProof.IsRules
import KE.KItemsList
import PySem.Challenge.RW_reusewise_k15_refused_rows
set_option Elab.async false
set_option linter.all false
set_option maxRecDepth 100000
set_option maxHeartbeats 4000000
theorem L2.sN0:0<=PySem.sizeLine:=by decide
theorem L2.sN1:1<=PySem.sizeLine:=by decide
theorem L2.sN2:2<=PySem.sizeLine:=by decide
theorem L2.sN3:3<=PySem.sizeLine:=by decide
theorem L2.sN4:4<=PySem.sizeLine:=by decide
theorem L2.sN5:5<=PySem.sizeLine:=by decide
theorem L2.sN7:7<=PySem.sizeLine:=by decide
theorem L2.sN8:8<=PySem.sizeLine:=by decide
theorem L2.sN9:9<=PySem.sizeLine:=by decide
theorem L2.sN13:13<=PySem.sizeLine:=by decide
theorem L2.sN26:26<=PySem.sizeLine:=by decide
namespace L2
open PySem PySem.Spec PyProof.Rows
abbrev Key:=Sum Int Str
def zbo:Key->Value->Bool
  | .inl k,v=>Value.isInt k v
  | .inr x,v=>Value.isStrOf x v
def keyH (w:World):Key->Int
  | .inl k=>hashInt k
  | .inr x=>hashStr w x
theorem ya:∀ {k:Key} {v:Value},zbo k v=true->(∃ i t,k=Sum.inl i/\v=Value.int i t)\/(∃ x t,k=Sum.inr x/\v=Value.str x t)
  | .inl i,v,h=>by
    obtain ⟨t,e⟩:=Value.isInt_shape (k:=i) (v:=v) h
    exact .inl ⟨i,t,rfl,e⟩
  | .inr x,v,h=>by
    obtain ⟨t,e⟩:=Value.isStrOf_shape (x:=x) (v:=v) h
    exact .inr ⟨x,t,rfl,e⟩
theorem zbP (a b:Int):decide ((Sum.inl a:Key)=Sum.inl b)=(a == b):=by
  by_cases e:a=b
  · subst e; simp
  · have h:¬ (Sum.inl a:Key)=Sum.inl b:=fun q=>e (Sum.inl.inj q)
    rw [decide_eq_false h]
    exact (beq_eq_false_iff_ne.mpr e).symm
theorem zbQ (a b:Str):decide ((Sum.inr a:Key)=Sum.inr b)=decide (a=b):=by
  by_cases e:a=b
  · subst e; simp
  · have h:¬ (Sum.inr a:Key)=Sum.inr b:=fun q=>e (Sum.inr.inj q)
    rw [decide_eq_false h,decide_eq_false e]
theorem zbR (a:Int) (b:Str):decide ((Sum.inl a:Key)=Sum.inr b)=false:=decide_eq_false (fun q=>nomatch q)
theorem zbS (a:Str) (b:Int):decide ((Sum.inr a:Key)=Sum.inl b)=false:=decide_eq_false (fun q=>nomatch q)
def XL (prog:Program) (w:World):PySem.KeyKind prog w Key where
  is:=zbo
  hash:=keyH w
  inj:=fun v a b ha hb=>by
    rcases ya ha with ⟨i,t,rfl,rfl⟩ | ⟨x,t,rfl,rfl⟩
    · rcases ya hb with ⟨j,u,rfl,e⟩ | ⟨y,u,rfl,e⟩
      · injection e with e1 _; rw [e1]
      · exact nomatch e
    · rcases ya hb with ⟨j,u,rfl,e⟩ | ⟨y,u,rfl,e⟩
      · exact nomatch e
      · injection e with e1 _; rw [e1]
  byValue:=fun k v h=>by
    rcases ya h with ⟨i,t,rfl,rfl⟩ | ⟨x,t,rfl,rfl⟩ <;> rfl
  pyHash:=fun hv h=>by
    rcases ya hv with ⟨i,t,rfl,rfl⟩ | ⟨x,t,rfl,rfl⟩
    · exact wpAny_pyHash_int h
    · exact wpAny_pyHash_str h
  eqBool:=fun hu hv h=>by
    rcases ya hu with ⟨i,t,rfl,rfl⟩ | ⟨x,t,rfl,rfl⟩
    · rcases ya hv with ⟨j,u,rfl,rfl⟩ | ⟨y,u,rfl,rfl⟩
      · rw [zbP] at h; exact wpAny_eqBool_int h
      · rw [zbR] at h; exact SeqAt.EqAt.int_str i t y u _ _ _ _ h
    · rcases ya hv with ⟨j,u,rfl,rfl⟩ | ⟨y,u,rfl,rfl⟩
      · rw [zbS] at h; exact SeqAt.EqAt.str_int x t j u _ _ _ _ h
      · rw [zbQ] at h; exact wpAny_eqBool_str h
  «strs»:=fun k x t v h=>by
    rcases ya h with ⟨i,u,rfl,e⟩ | ⟨y,u,rfl,e⟩
    · exact nomatch e
    · injection e with e1 _
      subst e1
      cases v <;> rfl
inductive V where
  | non | bl (b:Bool) | int (i:Int) | str (x:Str) | byt (b:Array UInt8) | flt (b:UInt64) | ref (a:Addr) | ty (n:String)
  deriving DecidableEq
def RelV:V->Value->Prop
  | .non,u=>u=Value.none
  | .bl b,u=>u=Value.bool b
  | .int i,u=>∃ t,u=Value.int i t
  | .str x,u=>∃ t,u=Value.str x t
  | .byt b,u=>∃ t,u=Value.bytes b t
  | .flt b,u=>∃ t,u=Value.float b t
  | .ref a,u=>u=Value.ref a
  | .ty n,u=>u=Value.type n
abbrev Vals:List V->List Value->Prop:=Paired RelV
theorem Vals.length {xs:List V} {us:List Value} (r:Vals xs us):xs.length=us.length:=Paired.length r
theorem Vals.get:∀ {xs:List V} {us:List Value} {i:Nat} {x:V},Vals xs us->xs[i]?=some x->∃ u,us[i]?=some u/\RelV x u
  | _,_,_,_,.nil,e=>by simp at e
  | _,_,0,_,.cons r _,e=>by simp at e; subst e; exact ⟨_,rfl,r⟩
  | _,_,i + 1,x,.cons _ t,e=>by
    obtain ⟨u,h1,h2⟩:=Vals.get (i:=i) (x:=x) t (by simpa using e)
    exact ⟨u,by simpa using h1,h2⟩
theorem Vals.set {x:V} {u:Value} (r:RelV x u):∀ {xs:List V} {us:List Value} (i:Nat),Vals xs us->Vals (xs.set i x) (us.set i u)
  | _,_,_,.nil=>.nil
  | _,_,0,.cons _ t=>.cons r t
  | _,_,i + 1,.cons q t=>.cons q (Vals.set r i t)
theorem Vals.append:∀ {xs ys:List V} {us ws:List Value},Vals xs us->Vals ys ws->Vals (xs ++ ys) (us ++ ws)
  | _,_,_,_,.nil,s=>s
  | _,_,_,_,.cons r t,s=>.cons r (Vals.append t s)
theorem Vals.take:∀ {xs:List V} {us:List Value} (n:Nat),Vals xs us->Vals (xs.take n) (us.take n)
  | _,_,0,_=>.nil
  | _,_,_ + 1,.nil=>.nil
  | _,_,n + 1,.cons r t=>.cons r (Vals.take n t)
theorem Vals.drop:∀ {xs:List V} {us:List Value} (n:Nat),Vals xs us->Vals (xs.drop n) (us.drop n)
  | _,_,0,r=>r
  | _,_,_ + 1,.nil=>.nil
  | _,_,n + 1,.cons _ t=>Vals.drop n t
def RelO:Option V->Option Value->Prop
  | some v,some u=>RelV v u
  | none,none=>True
  | _,_=>False
def KV {κ:Type}:List (κ × V)->List (κ × Value)->Prop:=Paired fun (p:κ × V) (q:κ × Value)=>p.1=q.1/\RelV p.2 q.2
def kV:Key->V
  | .inl i=>.int i
  | .inr x=>.str x
inductive HO where
  | lst (xs:List V)
  | tup (xs:List V)
  | dK (kvs:List (Key × V)) | dT (kvs:List (List Key × V))
  | set (S:Int->Bool) (n:Nat)
  | ins (C dx:Addr) (fs:List (Str × V))
  | own (x:Addr)
  | xd (fs:List (Str × V))
  | met (f x:Addr)
  | rng (lo hi:Int)
  | frz (o:Obj) (u:HO)
  | tbl (ps:Array Value)
  | ext (φ:Heap->Prop)
abbrev Hp:=Addr->Option HO
def upd (H:Hp) (a:Addr) (o:HO):Hp:=fun b=>if b=a then some o else H b
theorem za {H:Hp} {a:Addr} {o:HO}:upd H a o a=some o:=by unfold upd; rw [if_pos rfl]
theorem zg {H:Hp} {a b:Addr} {o:HO} (h:b≠a):upd H a o b=H b:=by unfold upd; rw [if_neg h]
theorem zY {H:Hp} {a b:Addr} {o u:HO} (h:H a=some o) (h':H b=some u) (d:o≠u):a≠b:=by
  intro e; subst e; rw [h] at h'; exact d (Option.some.inj h')
theorem zi {H:Hp} {a b:Addr} {o:HO} (h:H a=some o) (h':H b=none):a≠b:=by
  intro e; subst e; rw [h] at h'; cases h'
def IsTupN (h:Heap) (a:Addr) (items:Array Value):Prop:=∃ o,h.get? a=some o/\o.cls=.type "tuple"/\o.dict=none/\∃ n,o.data=.seq items n
theorem IsTupN.is {h:Heap} {a:Addr} {items:Array Value} (x:IsTupN h a items):IsTup h a items:=let ⟨o,a,b,_,c⟩:=x; ⟨o,a,b,c⟩
theorem IsTupN.new (h:Heap) (items:Array Value):IsTupN (h.push { cls:=.type "tuple",data:=.seq items }) h.objs.size items:=⟨_,Heap.get?_push_size _ rfl,rfl,rfl,_,rfl⟩
section
variable (P:Program) (w:World)
def ObjOk (H:Hp) (h:Heap) (a:Addr):HO->Prop
  | .lst xs=>xs.length<=sizeLine/\∃ (its:List Value) (n:Nat),Vals xs its/\h.get? a=some { cls:=.type "list",data:=.seq its.toArray n }
  | .tup xs=>xs.length<=sizeLine/\∃ its:List Value,Vals xs its/\IsTupN h a its.toArray
  | .dK kvs=>kvs.length<=sizeLine/\(a == sysModules)=false/\∃ vs,KV kvs vs/\h.DictOf (XL P w) a vs
  | .dT kvs=>kvs.length<=sizeLine/\(a == sysModules)=false/\∃ xs:List (List Key × Addr × Value),
      Paired (fun (p:List Key × V) (q:List Key × Addr × Value)=>p.1=q.1/\H q.2.1=some (.tup (p.1.map kV))/\RelV p.2 q.2.2) kvs xs /\
      ∃ o es ep,h.get? a=some o/\o.ExactDict/\o.data=.dict es ep/\es.toList=xs.map (entryOfKey (tupleKind (XL P w)))/\(xs.map (·.1)).Nodup
  | .set S n=>h.SetOf (intKind P w) a S n
  | .ins C dx fs=>H dx=some (.own a)/\fs.length<=1000/\dx≠a/\h.get? a=some (PySem.W.instObj C dx) /\
      ∃ mA,h.Ns1 dx mA/\(∀ f,RelO (fs.lookup f) (mA f))/\PySem.Within mA (fs.map (·.1))
  | .own _=>∃ o,h.get? a=some o
  | .xd fs=>∃ mA,h.Ns1 a mA/\∀ f,RelO (fs.lookup f) (mA f)
  | .rng lo hi=>∃ t u v,h.get? a=some { cls:=.type "range",data:=.fields #[.int lo t,.int hi u,.int 1 v] }
  | .frz o u=>h.get? a=some o/\ObjOk H h a u
  | .tbl ps=>h.get? a=some { cls:=.none,data:=.fields ps }
  | .met f x=>h.get? a=some (PySem.W.methodObj (.ref f) (.ref x))
  | .ext φ=>φ h/\(∃ o,h.get? a=some o)/\∀ h1 h2:Heap,φ h1->(∀ o,h1.get? a=some o->h2.get? a=some o)->φ h2
def HOk (H:Hp) (h:Heap):Prop:=∀ a o,H a=some o->ObjOk P w H h a o
end
section
variable {P:Program} {w:World} {H H':Hp} {h h':Heap} {a:Addr} {o:HO}
theorem ObjOk.lt (x:ObjOk P w H h a o):a < h.objs.size:=by
  cases o with
  | lst xs=>obtain ⟨_,_,_,_,e⟩:=x; exact Heap.lt_size e
  | tup xs=>obtain ⟨_,_,_,p⟩:=x; exact p.is.lt
  | dK kvs=>obtain ⟨_,_,_,_,o,_,_,e,_⟩:=x; exact Heap.lt_size e
  | dT kvs=>obtain ⟨_,_,_,_,o,_,_,e,_⟩:=x; exact Heap.lt_size e
  | set S n=>obtain ⟨o,_,_,_,e,_⟩:=x; exact Heap.lt_size e
  | ins C dx fs=>obtain ⟨_,_,_,e,_⟩:=x; exact Heap.lt_size e
  | own y=>obtain ⟨_,e⟩:=x; exact Heap.lt_size e
  | xd fs=>obtain ⟨_,⟨_,_,_,e,_⟩,_⟩:=x; exact Heap.lt_size e
  | rng lo hi=>obtain ⟨_,_,_,e⟩:=x; exact Heap.lt_size e
  | frz ob u=>obtain ⟨e,_⟩:=x; exact Heap.lt_size e
  | tbl ps=>exact Heap.lt_size (show h.get? a=some _ from x)
  | met f y=>exact Heap.lt_size (show h.get? a=some _ from x)
  | ext φ=>obtain ⟨_,⟨_,e⟩,_⟩:=x; exact Heap.lt_size e
theorem Paired.mapP {α β:Type} {F G:α->β->Prop}:∀ {l₁:List α} {l₂:List β},Paired F l₁ l₂->(∀ a b,F a b->G a b)->Paired G l₁ l₂
  | _,_,.nil,_=>.nil
  | _,_,.cons r t,f=>.cons (f _ _ r) (Paired.mapP t f)
theorem ObjOk.stay (x:ObjOk P w H h a o) (k:∀ b u,(b=a\/H b=some (.own a))->h.get? b=some u->h'.get? b=some u)
    (ho:∀ b,H b=some (.own a)->H' b=some (.own a)) (ht:∀ b xs,H b=some (.tup xs)->H' b=some (.tup xs)):ObjOk P w H' h' a o:=by
  induction o with
  | lst xs=>obtain ⟨z,its,n,r,e⟩:=x; exact ⟨z,its,n,r,k _ _ (.inl rfl) e⟩
  | tup xs=>obtain ⟨z,its,r,ob,e,c⟩:=x; exact ⟨z,its,r,ob,k _ _ (.inl rfl) e,c⟩
  | dK kvs=>obtain ⟨z,y,vs,r,ob,es,ep,e,c⟩:=x; exact ⟨z,y,vs,r,ob,es,ep,k _ _ (.inl rfl) e,c⟩
  | dT kvs =>
    obtain ⟨z,y,xs,r,ob,es,ep,e,c⟩:=x
    exact ⟨z,y,xs,Paired.mapP r fun p q z=>⟨z.1,ht _ _ z.2.1,z.2.2⟩,ob,es,ep,k _ _ (.inl rfl) e,c⟩
  | set S n=>obtain ⟨ob,es,ep,t,e,c⟩:=x; exact ⟨ob,es,ep,t,k _ _ (.inl rfl) e,c⟩
  | ins C dx fs =>
    obtain ⟨d,z,ne,e,mA,⟨od,es,ep,e2,c⟩,r⟩:=x
    exact ⟨ho _ d,z,ne,k _ _ (.inl rfl) e,mA,⟨od,es,ep,k _ _ (.inr d) e2,c⟩,r⟩
  | own y=>obtain ⟨ob,e⟩:=x; exact ⟨ob,k _ _ (.inl rfl) e⟩
  | xd fs=>obtain ⟨mA,⟨od,es,ep,e,c⟩,r⟩:=x; exact ⟨mA,⟨od,es,ep,k _ _ (.inl rfl) e,c⟩,r⟩
  | rng lo hi=>obtain ⟨t,u,v,e⟩:=x; exact ⟨t,u,v,k _ _ (.inl rfl) e⟩
  | frz ob u ih=>obtain ⟨e,q⟩:=x; exact ⟨k _ _ (.inl rfl) e,ih q⟩
  | tbl ps =>
    have e:h.get? a=some { cls:=.none,data:=.fields ps }:=x
    show h'.get? a=some { cls:=.none,data:=.fields ps }
    exact k a _ (.inl rfl) e
  | met f y =>
    have e:h.get? a=some (PySem.W.methodObj (.ref f) (.ref y)):=x
    show h'.get? a=some (PySem.W.methodObj (.ref f) (.ref y))
    exact k a _ (.inl rfl) e
  | ext φ=>obtain ⟨p,⟨o,e⟩,st⟩:=x; exact ⟨st _ _ p fun o q=>k _ _ (.inl rfl) q,⟨o,k _ _ (.inl rfl) e⟩,st⟩
theorem HOk.lt (x:HOk P w H h) (e:H a=some o):a < h.objs.size:=(x a o e).lt
theorem HOk.fresh (x:HOk P w H h) (e:h.objs.size<=a):H a=none:=by
  cases q:H a with
  | none=>rfl
  | some u=>exact absurd (Nat.lt_of_lt_of_le (x.lt q) e) (Nat.lt_irrefl _)
theorem HOk.kept (x:HOk P w H h) (k:∀ b u,h.get? b=some u->h'.get? b=some u):HOk P w H h':=fun a o e =>
  (x a o e).stay (fun b u _ q=>k b u q) (fun _ q=>q) fun _ _ q=>q
theorem HOk.laid (x:HOk P w H h) (k:∀ b u,h.get? b=some u->h'.get? b=some u) (hp:h.objs.size<=a) (new:ObjOk P w (upd H a o) h' a o):HOk P w (upd H a o) h':=fun b u e=>by
  have hn:=x.fresh hp
  by_cases hb:b=a
  · subst hb; rw [za] at e; cases e; exact new
  · rw [zg hb] at e
    exact (x b u e).stay (fun c v _ q=>k c v q) (fun c q=>by rw [zg (zi q hn)]; exact q) fun c xs q=>by rw [zg (zi q hn)]; exact q
end
def Rd (H:Hp) (a:Addr) (u:HO):Prop:=H a=some u\/∃ o,H a=some (.frz o u)
theorem Rd.ok {P:Program} {w:World} {H:Hp} {h:Heap} {a:Addr} {u:HO} (r:Rd H a u) (x:HOk P w H h):ObjOk P w H h a u:=by
  rcases r with r | ⟨o,r⟩
  · exact x a u r
  · obtain ⟨_,q⟩:=x a _ r
    exact q
def Mut:Option HO->Prop
  | some (.lst _)=>True
  | some (.dK _)=>True
  | some (.dT _)=>True
  | some (.set _ _)=>True
  | some (.ins _ _ _)=>True
  | some (.ext _)=>True
  | _=>False
section
variable {P:Program} {w:World} {H:Hp} {h h':Heap} {x e:Addr} {o':HO}
theorem HOk.write (ok:HOk P w H h) (mu:Mut (H x)) (he:e=x\/H e=some (.own x)) (k:∀ b u,b≠e->h.get? b=some u->h'.get? b=some u) (heo:∃ u,h'.get? e=some u)
    (new:ObjOk P w (upd H x o') h' x o'):HOk P w (upd H x o') h':=fun b u q=>by
  have nown:∀ c y,H c=some (.own y)->c≠x:=fun c y r z=>by subst z; rw [r] at mu; exact mu
  have ntup:∀ c xs,H c=some (.tup xs)->c≠x:=fun c xs r z=>by subst z; rw [r] at mu; exact mu
  by_cases hb:b=x
  · subst hb; rw [za] at q; cases q; exact new
  · rw [zg hb] at q
    by_cases hbe:b=e
    · have q':H b=some (.own x):=by
        rcases he with z | z
        · exact absurd (hbe.trans z) hb
        · rw [hbe]; exact z
      rw [q] at q'; cases q'
      obtain ⟨v,hv⟩:=heo
      exact ⟨v,by rw [hbe]; exact hv⟩
    · refine (ok b u q).stay (fun c v hc r=>k c v ?_ r) (fun c r=>by rw [zg (nown c b r)]; exact r) fun c xs r=>by rw [zg (ntup c xs r)]; exact r
      rcases hc with rfl | hc
      · exact hbe
      · rintro rfl
        rcases he with z | z
        · exact nown c b hc z
        · rw [hc] at z; cases z; exact hb rfl
end
structure Un (fs ex:List Addr) (H H':Hp) (h h':Heap):Prop where
  keep:∀ b o,h.get? b=some o->H b=none->b ∉ fs->b ∉ ex->h'.get? b=some o
  slot:∀ b o,h.get? b=some o->H b=none->b∈fs->b ∉ ex->∃ sl,h'.get? b=some { o with slots:=sl }
  free:∀ b o,h.get? b=some o->H b=none->b ∉ ex->H' b=none
  there:∀ b o,h.get? b=some o->b ∉ ex->∃ o',h'.get? b=some o'
  tups:∀ b xs,H b=some (.tup xs)->H' b=some (.tup xs)
  frzs:∀ b o u,H b=some (.frz o u)->H' b=some (.frz o u)
  tbls:∀ b ps,H b=some (.tbl ps)->∃ more,H' b=some (.tbl (ps ++ more))
section
variable {fs fs' ex ex':List Addr} {H H1 H2:Hp} {h h1 h2 h':Heap} {a x e:Addr} {o:HO}
theorem Un.any (u:Un fs ex H H1 h h1) {b:Addr} {ob:Obj} (q:h.get? b=some ob) (n:H b=none) (hx:b ∉ ex):∃ sl,h1.get? b=some { ob with slots:=sl }:=by
  by_cases hb:b∈fs
  · exact u.slot b ob q n hb hx
  · exact ⟨ob.slots,u.keep b ob q n hb hx⟩
theorem Un.kept (k:∀ b u,h.get? b=some u->h'.get? b=some u):Un fs ex H H h h' :=
  ⟨fun b ob q _ _ _=>k b ob q,fun b ob q _ _ _=>⟨ob.slots,k b ob q⟩,fun _ _ _ n _=>n,fun b ob q _=>⟨ob,k b ob q⟩,fun _ _ q=>q,fun _ _ _ q=>q,fun _ ps q=>⟨#[],by rw [q]; simp⟩⟩
theorem Un.refl:Un fs ex H H h h:=Un.kept fun _ _ q=>q
theorem Un.laid (k:∀ b u,h.get? b=some u->h'.get? b=some u) (hp:h.objs.size<=a) (hn:H a=none):Un fs ex H (upd H a o) h h' where
  keep:=fun b u q _ _ _=>k b u q
  slot:=fun b u q _ _ _=>⟨u.slots,k b u q⟩
  free:=fun b u q n _=>by rw [zg (Nat.ne_of_lt (Nat.lt_of_lt_of_le (Heap.lt_size q) hp))]; exact n
  there:=fun b u q _=>⟨u,k b u q⟩
  tups:=fun b xs q=>by rw [zg (zi q hn)]; exact q
  frzs:=fun b u xs q=>by rw [zg (zi q hn)]; exact q
  tbls:=fun b ps q=>⟨#[],by rw [zg (zi q hn),q]; simp⟩
theorem Un.write (mu:Mut (H x)) (he:e=x\/H e=some (.own x)) (k:∀ b u,b≠e->h.get? b=some u->h'.get? b=some u) (heo:∃ u,h'.get? e=some u):Un fs ex H (upd H x o) h h':=by
  have hx:∀ b,H b=none->b≠x:=fun b n z=>by subst z; rw [n] at mu; exact mu
  have hb:∀ b,H b=none->b≠e:=fun b n z=>by
    subst z
    rcases he with r | r
    · exact hx b n r
    · rw [n] at r; cases r
  have hm:∀ b u,H b=some u->¬ Mut (some u)->b≠x:=fun b u q nm z=>by subst z; rw [q] at mu; exact nm mu
  refine ⟨fun b u q n _ _=>k b u (hb b n) q,fun b u q n _ _=>⟨u.slots,k b u (hb b n) q⟩,fun b u q n _=>by rw [zg (hx b n)]; exact n,fun b u q _=>?_,
    fun b xs q=>by rw [zg (hm b _ q fun z=>z)]; exact q,fun b u xs q=>by rw [zg (hm b _ q fun z=>z)]; exact q,fun b ps q=>⟨#[],by rw [zg (hm b _ q fun z=>z),q]; simp⟩⟩
  by_cases hbe:b=e
  · subst hbe; exact heo
  · exact ⟨u,k b u hbe q⟩
end
def trk (h:Heap) (H:Hp):List Addr:=(List.range h.objs.size).filter fun a=>(H a).isSome
def hidT (h:Heap) (H:Hp):Heap:=PySem.W.hideAll h (trk h H)
theorem WL (h:Heap) (H:Hp):(hidT h H).objs.size=h.objs.size:=PySem.W.hideAll_size _ _
theorem Vu {h:Heap} {H:Hp} {b:Addr} {o:Obj} (e:h.get? b=some o) (n:H b=none):(hidT h H).get? b=some o :=
  PySem.W.hideAll_get _ e fun hm=>by
    have q:(H b).isSome=true:=(List.mem_filter.mp hm).2
    rw [n] at q; simp at q
theorem QL {h:Heap} {H:Hp} {b:Addr} {o:Obj} (e:(hidT h H).get? b=some o):h.get? b=some o/\H b=none:=by
  have e':h.get? b=some o:=PySem.W.of_hideAll (trk h H) e
  refine ⟨e',?_⟩
  cases q:H b with
  | none=>rfl
  | some x =>
    have hm:b∈trk h H:=List.mem_filter.mpr ⟨List.mem_range.mpr (Heap.lt_size e'),by simp [q]⟩
    have z:(hidT h H).get? b=none:=PySem.W.hideAll_none (trk h H) hm
    rw [z] at e; cases e
def QM (g h:Heap) (L:Addr):List (Addr × Obj):=(List.range h.objs.size).filterMap fun a=>if a=L\/(g.get? a).isSome=true then none else (h.get? a).map fun o=>(a,o)
def rest (g h:Heap) (L d:Addr):List (Addr × Obj):=(QM g h L).filter fun p=>decide (p.1≠d)
structure Mod (K:PySem.W.Frag) (mg:Str->Option Value) (base:Heap):Prop where
  kin:K.In base
  glob:base.Ns mainGlobals mg
  blt:∃ mb,base.Ns builtinsNs mb/\∀ x:Str,x≠"__name__"->mb x=bootBuiltins x
  nolimit:base.NoLimit
structure Cx where
  prog:Program
  w:World
  K:PySem.W.Frag
  mg:Str->Option Value
  base:Heap
  A:Around
  N:List Str
  s₀:Shared
  H₀:Hp
  env:Env
  outer:List Env
  stack:List Env
  ex:List Addr
  fn:Str->Bool
  calm:Bool
  pn:List (Addr × Obj)
  xe:Value->Shared->Prop
def frs (l:List Env):List Addr:=l.filterMap (·.frame)
abbrev Cx.fs (X:Cx):List Addr:=frs X.outer
def Vis (sc:Scope) (x:Str):Prop:=sc.names.lookup x=some .local\/sc.names.lookup x=some .cell\/sc.names.lookup x=some .free
def Loc (sc:Scope) (x:Str):Prop:=sc.names.lookup x=some .local\/sc.names.lookup x=some .cell
def Look (env:Env) (h:Heap) (m:Str->Option Value) (x:Str) (u:Value):Prop :=
  (env.kindOf x=some .local/\m x=some u)\/((env.kindOf x=some .cell\/env.kindOf x=some .free)/\∃ c,env.cells.lookup x=some c/\h.IsCell c (some u))
structure Cx.Ok (X:Cx):Prop where
  mod:Mod X.K X.mg X.base
  kind:X.env.scope.kind=.function
  glob:X.env.globals=mainGlobals
  blt:X.env.builtins=builtinsNs
  above:X.s₀.heap.objs.size<=X.env.locals
  inj:∀ x y c,X.env.cells.lookup x=some c->X.env.cells.lookup y=some c->x=y
  has:∀ x,(X.env.kindOf x=some .cell\/X.env.kindOf x=some .free)->∃ c,X.env.cells.lookup x=some c
  cab:∀ x c,X.fn x=true->X.env.cells.lookup x=some c->X.s₀.heap.objs.size<=c
  hd:X.calm=true->X.A.handled=none
  frames:X.A.frames=some X.stack
  stk:X.stack=X.outer\/(X.stack=X.env :: X.outer/\X.env.frame=some X.env.locals)
  exf:∀ b∈X.ex,b≠X.env.locals/\∀ x c,X.env.cells.lookup x=some c->c≠b
  bs:∀ b o,X.base.get? b=some o->X.s₀.heap.get? b=some o/\X.H₀ b=none
  bsz:X.base.objs.size<=X.s₀.heap.objs.size
  noex:∀ b o,X.base.get? b=some o->b ∉ X.ex
  exfs:∀ b∈X.ex,b ∉ X.fs
  funs:X.s₀.heap.FunFrames X.base X.outer
  frf:∀ b∈X.fs,X.H₀ b=none
structure Inv (X:Cx) (pins:List (Addr × Obj)) (σ:List (Option V)) (H:Hp) (s:Shared):Prop where
  ok:X.Ok
  os:s.os=X.s₀.os
  bare:AllBare s.gens
  base:Un X.fs X.ex X.H₀ H X.s₀.heap s.heap
  loc:∃ m,s.heap.Ns X.env.locals m/\∀ (i:Nat) (x:Str) (v:V),X.N[i]?=some x->σ[i]?=some (some v)->Vis X.env.scope x->∃ u,RelV v u/\Look X.env s.heap m x u
  cell:∀ x c,X.env.cells.lookup x=some c->∃ v,s.heap.IsCell c v
  free:H X.env.locals=none
  freeC:∀ x c,X.env.cells.lookup x=some c->H c=none
  pin:∀ p∈X.pn ++ pins,s.heap.get? p.1=some p.2/\H p.1=none/\p.1≠X.env.locals/\p.1 ∉ X.fs/\∀ v,p.2.data≠.cell v
  hok:HOk X.prog X.w H s.heap
  len:σ.length=X.N.length
section
variable {X:Cx} {pins:List (Addr × Obj)} {σ:List (Option V)} {H H':Hp} {s:Shared} {h':Heap}
theorem Cx.Ok.nofr (ok:X.Ok) {b:Addr} {o:Obj} (e:X.base.get? b=some o):b ∉ X.fs:=fun hb=>by
  have:=(ok.funs.mem hb).1
  rw [e] at this; cases this
theorem Inv.bs (I:Inv X pins σ H s):∀ b o,X.base.get? b=some o->s.heap.get? b=some o/\H b=none:=fun b o e =>
  ⟨I.base.keep b o (I.ok.bs b o e).1 (I.ok.bs b o e).2 (I.ok.nofr e) (I.ok.noex b o e),I.base.free b o (I.ok.bs b o e).1 (I.ok.bs b o e).2 (I.ok.noex b o e)⟩
theorem Inv.bk (I:Inv X pins σ H s):∀ b o,X.base.get? b=some o->s.heap.get? b=some o:=fun b o e=>(I.bs b o e).1
theorem Inv.mod (I:Inv X pins σ H s):Mod X.K X.mg X.base:=I.ok.mod
theorem Inv.kIn (I:Inv X pins σ H s):X.K.In s.heap:=I.ok.mod.kin.keeps I.bk
theorem Inv.lt (I:Inv X pins σ H s):X.env.locals < s.heap.objs.size:=let ⟨_,hn,_⟩:=I.loc; hn.lt
theorem Inv.sz (I:Inv X pins σ H s):X.s₀.heap.objs.size<=s.heap.objs.size:=Nat.le_trans I.ok.above (Nat.le_of_lt I.lt)
theorem Inv.nofs (I:Inv X pins σ H s) {a:Addr} (h:s.heap.objs.size<=a):a ∉ X.fs:=fun hb=>by
  obtain ⟨_,o,ho,_⟩:=I.ok.funs.mem hb
  exact absurd (Nat.lt_of_lt_of_le (Heap.lt_size ho) (Nat.le_trans I.sz h)) (Nat.lt_irrefl _)
theorem Inv.cne (I:Inv X pins σ H s):∀ x c,X.env.cells.lookup x=some c->c≠X.env.locals:=fun x c e z=>by
  obtain ⟨v,o,ho,hd⟩:=I.cell x c e
  obtain ⟨m,⟨o',es,ep,ho',hd',_⟩,_⟩:=I.loc
  rw [z,ho'] at ho; cases ho; rw [hd'] at hd; cases hd
theorem Inv.funs (I:Inv X pins σ H s):s.heap.FunFrames X.base X.outer:=by
  have all:∀ (l:List Env),(∀ b∈frs l,b∈X.fs)->X.s₀.heap.FunFrames X.base l->s.heap.FunFrames X.base l:=by
    intro l
    induction l with
    | nil=>intro _ _; trivial
    | cons env r ih =>
      intro hs hl
      obtain ⟨hk,⟨L,o,hf,hn,ho,hd⟩,hr⟩:=hl
      have hL:L∈X.fs:=hs L (by unfold frs; rw [List.filterMap_cons,hf]; exact List.mem_cons_self)
      obtain ⟨sl,e⟩:=I.base.slot L o ho (I.ok.frf L hL) hL fun z=>I.ok.exfs L z hL
      exact ⟨hk,⟨L,_,hf,hn,e,hd⟩,ih (fun b hb=>hs b (by unfold frs; rw [List.filterMap_cons,hf]; exact List.mem_cons_of_mem _ hb)) hr⟩
  exact all X.outer (fun _ hb=>hb) I.ok.funs
theorem Inv.stack (I:Inv X pins σ H s):s.heap.FunFrames X.base X.stack:=by
  rcases I.ok.stk with e | ⟨e,hf⟩
  · rw [e]; exact I.funs
  · rw [e]
    obtain ⟨m,hn,_⟩:=I.loc
    refine .cons (by rw [I.ok.kind]; decide) hf hn ?_ I.funs
    exact Heap.get?_none_of_le (Nat.le_trans I.ok.bsz I.ok.above)
theorem Inv.stkSub (I:Inv X pins σ H s):∀ b∈frs X.stack,b∈X.env.locals :: X.fs:=fun b hb=>by
  rcases I.ok.stk with e | ⟨e,hf⟩
  · rw [e] at hb; exact List.mem_cons_of_mem _ hb
  · rw [e] at hb
    unfold frs at hb
    rw [List.filterMap_cons,hf] at hb
    exact hb
theorem Inv.stkFree (I:Inv X pins σ H s):∀ b∈frs X.stack,H b=none:=fun b hb=>by
  rcases List.mem_cons.mp (I.stkSub b hb) with e | hb
  · rw [e]; exact I.free
  · obtain ⟨_,o,ho,_⟩:=I.ok.funs.mem hb
    exact I.base.free b o ho (I.ok.frf b hb) fun z=>I.ok.exfs b z hb
theorem Inv.step {g':Array GenState} {t':Nat} {d':Drawn} {ch:List Addr} (I:Inv X pins σ H s)
    (hch:∀ b∈ch,(b∈X.ex\/X.s₀.heap.objs.size<=b)/\b≠X.env.locals/\(∀ x c,X.env.cells.lookup x=some c->c≠b)/\∀ p∈X.pn ++ pins,p.1≠b)
    (keep:∀ b o,b≠X.env.locals->b ∉ X.fs->b ∉ ch->s.heap.get? b=some o->H b=none->h'.get? b=some o)
    (slot:∀ b o,b≠X.env.locals->b∈X.fs->b ∉ ch->s.heap.get? b=some o->H b=none->∃ sl,h'.get? b=some { o with slots:=sl }) (free:∀ b o,b ∉ ch->s.heap.get? b=some o->H b=none->H' b=none)
    (there:∀ b o,b ∉ ch->s.heap.get? b=some o->∃ o',h'.get? b=some o')
    (tups:∀ b xs,H b=some (.tup xs)->H' b=some (.tup xs)) (frzs:∀ b o u,H b=some (.frz o u)->H' b=some (.frz o u)) (tbls:∀ b ps,H b=some (.tbl ps)->∃ more,H' b=some (.tbl (ps ++ more)))
    (ns:∀ m,s.heap.Ns X.env.locals m->h'.Ns X.env.locals m) (hok:HOk X.prog X.w H' h') (hg:AllBare g') :
    Inv X pins σ H' { s with heap:=h',gens:=g',drawn:=d',toks:=t' }:=by
  have neL:∀ b o,X.s₀.heap.get? b=some o->b≠X.env.locals:=fun b o e=>Nat.ne_of_lt (Nat.lt_of_lt_of_le (Heap.lt_size e) I.ok.above)
  have neC:∀ b o,X.s₀.heap.get? b=some o->b ∉ X.ex->b ∉ ch:=fun b o e hx hb=>by
    rcases (hch b hb).1 with z | z
    · exact hx z
    · exact absurd (Nat.lt_of_lt_of_le (Heap.lt_size e) z) (Nat.lt_irrefl _)
  have cellK:∀ x c,X.env.cells.lookup x=some c->∀ v,s.heap.IsCell c v->h'.IsCell c v:=fun x c e v ⟨o,ho,hd⟩=>by
    have nch:c ∉ ch:=fun z=>(hch c z).2.2.1 x c e rfl
    by_cases hc:c∈X.fs
    · obtain ⟨sl,q⟩:=slot c o (I.cne x c e) hc nch ho (I.freeC x c e)
      exact ⟨_,q,hd⟩
    · exact ⟨o,keep c o (I.cne x c e) hc nch ho (I.freeC x c e),hd⟩
  refine ⟨I.ok,I.os,hg,⟨fun b o e n hb hx=>?_,fun b o e n hb hx=>?_,fun b o e n hx=>?_,fun b o e hx=>?_,fun b xs e=>tups b xs (I.base.tups b xs e),fun b o xs e=>frzs b o xs (I.base.frzs b o xs e),fun b ps e=>?_⟩,?_,fun x c e=>?_,?_,fun x c e=>?_,fun p hp=>?_,hok,I.len⟩
  · exact keep b o (neL b o e) hb (neC b o e hx) (I.base.keep b o e n hb hx) (I.base.free b o e n hx)
  · obtain ⟨sl,e1⟩:=I.base.slot b o e n hb hx
    obtain ⟨sl',e2⟩:=slot b _ (neL b o e) hb (neC b o e hx) e1 (I.base.free b o e n hx)
    exact ⟨sl',e2⟩
  · obtain ⟨o',e1⟩:=I.base.there b o e hx
    exact free b o' (neC b o e hx) e1 (I.base.free b o e n hx)
  · obtain ⟨o',e1⟩:=I.base.there b o e hx
    exact there b o' (neC b o e hx) e1
  · obtain ⟨m1,e1⟩:=I.base.tbls b ps e
    obtain ⟨m2,e2⟩:=tbls b _ e1
    exact ⟨m1 ++ m2,by rw [e2,Array.append_assoc]⟩
  · obtain ⟨m,hn,hl⟩:=I.loc
    refine ⟨m,ns m hn,fun i x v e1 e2 e3=>?_⟩
    obtain ⟨u,r,l⟩:=hl i x v e1 e2 e3
    refine ⟨u,r,?_⟩
    rcases l with l | ⟨k,c,e,z⟩
    · exact .inl l
    · exact .inr ⟨k,c,e,cellK x c e _ z⟩
  · obtain ⟨v,z⟩:=I.cell x c e
    exact ⟨v,cellK x c e v z⟩
  · obtain ⟨m,⟨o,_,_,ho,_⟩,_⟩:=I.loc
    exact free _ o (fun z=>(hch _ z).2.1 rfl) ho I.free
  · obtain ⟨v,o,ho,hd⟩:=I.cell x c e
    exact free c o (fun z=>(hch c z).2.2.1 x c e rfl) ho (I.freeC x c e)
  · obtain ⟨e,n,ne,nf,d⟩:=I.pin p hp
    have nch:p.1 ∉ ch:=fun z=>(hch p.1 z).2.2.2 p hp rfl
    exact ⟨keep p.1 p.2 ne nf nch e n,free p.1 p.2 nch e n,ne,nf,d⟩
theorem Inv.un {t':Nat} (I:Inv X pins σ H s) (u:Un X.fs [] H H' s.heap h') (hok:HOk X.prog X.w H' h'):Inv X pins σ H' { s with heap:=h',toks:=t' }:=by
  obtain ⟨m,⟨o,es,ep,ho,r⟩,_⟩:=id I.loc
  obtain ⟨sl,hL⟩:=u.any ho I.free (by simp)
  exact I.step (g':=s.gens) (d':=s.drawn) (ch:=[]) (fun _ z=>nomatch z) (fun b o _ hb _ e n=>u.keep b o e n hb (by simp)) (fun b o _ hb _ e n=>u.slot b o e n hb (by simp)) (fun b o _ e n=>u.free b o e n (by simp)) (fun b o _ e=>u.there b o e (by simp)) u.tups u.frzs u.tbls (fun m' hm=>by
    obtain ⟨o',es',ep',ho',r'⟩:=hm
    rw [ho] at ho'; cases ho'
    exact ⟨_,es',ep',hL,r'⟩) hok I.bare
theorem Inv.call {g':Array GenState} {t':Nat} {d':Drawn} {ch:List Addr} (I:Inv X pins σ H s) (u:Un (frs X.stack) ch H H' s.heap h') (hok:HOk X.prog X.w H' h') (hg:AllBare g')
    (hch:∀ b∈ch,(b∈X.ex\/X.s₀.heap.objs.size<=b)/\b≠X.env.locals/\(∀ x c,X.env.cells.lookup x=some c->c≠b)/\∀ p∈X.pn ++ pins,p.1≠b) :
    Inv X pins σ H' { s with heap:=h',gens:=g',drawn:=d',toks:=t' }:=by
  obtain ⟨m,⟨o,es,ep,ho,r⟩,_⟩:=id I.loc
  obtain ⟨sl,hL⟩:=u.any ho I.free fun z=>(hch _ z).2.1 rfl
  exact I.step (ch:=ch) hch (fun b o hL hb hc e n=>u.keep b o e n (fun z=>(List.mem_cons.mp (I.stkSub b z)).elim hL hb) hc) (fun b o _ _ hc e n=>u.any e n hc) (fun b o hc e n=>u.free b o e n hc) (fun b o hc e=>u.there b o e hc) u.tups u.frzs u.tbls (fun m' hm=>by
    obtain ⟨o',es',ep',ho',r'⟩:=hm
    rw [ho] at ho'; cases ho'
    exact ⟨_,es',ep',hL,r'⟩) hok hg
theorem Inv.turned {t':Nat} {it:Addr} (I:Inv X pins σ H s) (k:∀ b o,b≠it->s.heap.get? b=some o->h'.get? b=some o) (hn:H it=none) (hL:it≠X.env.locals)
    (h1:it∈X.ex\/X.s₀.heap.objs.size<=it) (h2:∀ x c,X.env.cells.lookup x=some c->c≠it) (h3:∀ p∈X.pn ++ pins,p.1≠it):Inv X pins σ H { s with heap:=h',toks:=t' }:=by
  have nit:∀ b u,H b=some u->b≠it:=fun b u e z=>by rw [z,hn] at e; cases e
  refine I.step (g':=s.gens) (d':=s.drawn) (ch:=[it]) (fun b hb=>?_) (fun b o _ _ hc e _=>k b o (fun z=>hc (by simp [z])) e) (fun b o _ _ hc e _=>⟨o.slots,k b o (fun z=>hc (by simp [z])) e⟩) (fun _ _ _ _ n=>n)
    (fun b o hc e=>⟨o,k b o (fun z=>hc (by simp [z])) e⟩) (fun _ _ e=>e) (fun _ _ _ e=>e) (fun b ps e=>⟨#[],by rw [e]; simp⟩) (fun m hm=>?_) (fun b u e=>?_) I.bare
  · have e:b=it:=by simpa using hb
    subst e
    exact ⟨h1,hL,h2,h3⟩
  · obtain ⟨o,es,ep,ho,r⟩:=hm
    exact ⟨o,es,ep,k _ o (Ne.symm hL) ho,r⟩
  · refine (I.hok b u e).stay (fun c v hc q=>k c v ?_ q) (fun _ q=>q) fun _ _ q=>q
    rcases hc with z | z
    · rw [z]; exact nit b u e
    · exact nit c _ z
theorem Inv.tok (I:Inv X pins σ H s) (t:Nat):Inv X pins σ H { s with toks:=t }:=I.un (h':=s.heap) (t':=t) Un.refl I.hok
theorem Inv.kept {t':Nat} (I:Inv X pins σ H s) (k:∀ b u,s.heap.get? b=some u->h'.get? b=some u):Inv X pins σ H { s with heap:=h',toks:=t' }:=I.un (Un.kept k) (I.hok.kept k)
theorem Inv.laid {a:Addr} {o:HO} {t':Nat} (I:Inv X pins σ H s) (k:∀ b u,s.heap.get? b=some u->h'.get? b=some u) (hp:s.heap.objs.size<=a) (new:ObjOk X.prog X.w (upd H a o) h' a o) :
    Inv X pins σ (upd H a o) { s with heap:=h',toks:=t' }:=I.un (Un.laid k hp (I.hok.fresh hp)) (I.hok.laid k hp new)
theorem Inv.write {x e:Addr} {o:HO} {t':Nat} (I:Inv X pins σ H s) (mu:Mut (H x)) (he:e=x\/H e=some (.own x)) (k:∀ b u,b≠e->s.heap.get? b=some u->h'.get? b=some u) (heo:∃ u,h'.get? e=some u)
    (new:ObjOk X.prog X.w (upd H x o) h' x o):Inv X pins σ (upd H x o) { s with heap:=h',toks:=t' }:=I.un (Un.write mu he k heo) (I.hok.write mu he k heo new)
theorem Inv.pins_of {pins':List (Addr × Obj)} (I:Inv X pins σ H s) (h:∀ p∈pins',s.heap.get? p.1=some p.2/\H p.1=none/\p.1≠X.env.locals/\p.1 ∉ X.fs/\∀ v,p.2.data≠.cell v):Inv X pins' σ H s :=
  ⟨I.ok,I.os,I.bare,I.base,I.loc,I.cell,I.free,I.freeC,fun p hp=>(List.mem_append.mp hp).elim (fun z=>I.pin p (List.mem_append_left _ z)) (h p),I.hok,I.len⟩
theorem vB {N:List Str} (hN:N.Nodup) {i j:Nat} {x:Str} (a:N[i]?=some x) (b:N[j]?=some x):i=j:=by
  obtain ⟨h1,e1⟩:=List.getElem?_eq_some_iff.mp a
  obtain ⟨h2,e2⟩:=List.getElem?_eq_some_iff.mp b
  exact (List.getElem_inj hN).mp (e1.trans e2.symm)
theorem WM {M:Model} {A:Around} {E:Value->Shared->Prop} {i:Nat} {x:Str} {v:V} {u:Value} {Q:Unit->Shared->Prop} (I:Inv X pins σ H s) (hN:X.N.Nodup) (hi:X.N[i]?=some x) (hx:Loc X.env.scope x) (r:RelV v u)
    (h:∀ s',Inv X pins (σ.set i (some v)) H s'->(∃ a,Heap.SameBut a s.heap s'.heap/\(a=X.env.locals\/X.env.cells.lookup x=some a))->Q () s') (hf:X.fn x=true\/X.env.scope.names.lookup x=some .local:=by first | exact .inl rfl | exact .inr rfl | assumption):wpAny M A (storeName X.env x u) Q E s:=by
  obtain ⟨m,hn,hl⟩:=id I.loc
  have hcls:(X.env.scope.kind == .class || (X.env.scope.kind == .module && X.env.locals != X.env.globals))=false:=by rw [I.ok.kind]; rfl
  have hiσ:i < σ.length:=by rw [I.len]; exact (List.getElem?_eq_some_iff.mp hi).1
  have cne:=I.cne
  have tracked:∀ {a:Addr} {h':Heap},(∃ o,s.heap.get? a=some o/\H a=none)->Heap.SameBut a s.heap h'->HOk X.prog X.w H h':=fun {a h'} ha hs b ob e=>by
    obtain ⟨_,_,hfree⟩:=ha
    refine (I.hok b ob e).stay (fun c w' hc q=>(hs.2 c ?_).trans q) (fun _ q=>q) fun _ _ q=>q
    rintro rfl
    rcases hc with rfl | hc
    · rw [hfree] at e; cases e
    · rw [hfree] at hc; cases hc
  rcases hx with hk | hk
  · refine wpAny_storeName_local hk hn (fun h' hn' hs=>?_) hcls
    obtain ⟨oL,_,_,hoL,_⟩:=id hn
    refine h _ ⟨I.ok,I.os,I.bare,⟨fun b o e n hb hx=>?_,fun b o e n hb hx=>?_,I.base.free,fun b o e hx=>?_,I.base.tups,I.base.frzs,I.base.tbls⟩,⟨_,hn',fun j y v' e1 e2 e3=>?_⟩,fun y c e=>?_,I.free,I.freeC,fun p hp=>?_,tracked ⟨oL,hoL,I.free⟩ hs,by simpa using I.len⟩ ⟨_,hs,.inl rfl⟩
    · exact (hs.2 b (Nat.ne_of_lt (Nat.lt_of_lt_of_le (Heap.lt_size e) I.ok.above))).trans (I.base.keep b o e n hb hx)
    · obtain ⟨sl,e1⟩:=I.base.slot b o e n hb hx
      exact ⟨sl,(hs.2 b (Nat.ne_of_lt (Nat.lt_of_lt_of_le (Heap.lt_size e) I.ok.above))).trans e1⟩
    · obtain ⟨o',e1⟩:=I.base.there b o e hx
      exact ⟨o',(hs.2 b (Nat.ne_of_lt (Nat.lt_of_lt_of_le (Heap.lt_size e) I.ok.above))).trans e1⟩
    · by_cases hj:j=i
      · subst hj
        rw [hi] at e1; cases e1
        rw [List.getElem?_set_self hiσ] at e2
        cases e2
        exact ⟨u,r,.inl ⟨hk,by simp⟩⟩
      · rw [List.getElem?_set_ne (Ne.symm hj)] at e2
        obtain ⟨u',r',q⟩:=hl j y v' e1 e2 e3
        refine ⟨u',r',?_⟩
        rcases q with ⟨k,e⟩ | ⟨k,c,e,z⟩
        · refine .inl ⟨k,?_⟩
          have:y≠x:=fun e=>hj (vB hN e1 (e ▸ hi))
          simp [this,e]
        · exact .inr ⟨k,c,e,z.sameBut hs (cne y c e)⟩
    · obtain ⟨w',z⟩:=I.cell y c e
      exact ⟨w',z.sameBut hs (cne y c e)⟩
    · obtain ⟨e,n,ne,nf,d⟩:=I.pin p hp
      exact ⟨(hs.2 p.1 ne).trans e,n,ne,nf,d⟩
  · have hfn:X.fn x=true:=by
      rcases hf with z | z
      · exact z
      · rw [z] at hk; cases hk
    obtain ⟨c,hc⟩:=I.ok.has x (.inl hk)
    obtain ⟨w',z⟩:=I.cell x c hc
    refine wpAny_storeName_cell I.ok.kind hk hc z (fun h' hc' hs=>?_)
    obtain ⟨oc,hoc,hocd⟩:=id z
    refine h { s with heap:=h' } ⟨I.ok,I.os,I.bare,⟨fun b o e n hb hx=>?_,fun b o e n hb hx=>?_,I.base.free,fun b o e hx=>?_,I.base.tups,I.base.frzs,I.base.tbls⟩,⟨m,hn.sameBut hs (Ne.symm (cne x c hc)),fun j y v' e1 e2 e3=>?_⟩,fun y c' e=>?_,I.free,I.freeC,fun p hp=>?_,tracked ⟨oc,hoc,I.freeC x c hc⟩ hs,by simpa using I.len⟩ ⟨c,hs,.inr hc⟩
    · exact (hs.2 b (Nat.ne_of_lt (Nat.lt_of_lt_of_le (Heap.lt_size e) (I.ok.cab x c hfn hc)))).trans (I.base.keep b o e n hb hx)
    · obtain ⟨sl,e1⟩:=I.base.slot b o e n hb hx
      exact ⟨sl,(hs.2 b (Nat.ne_of_lt (Nat.lt_of_lt_of_le (Heap.lt_size e) (I.ok.cab x c hfn hc)))).trans e1⟩
    · obtain ⟨o',e1⟩:=I.base.there b o e hx
      exact ⟨o',(hs.2 b (Nat.ne_of_lt (Nat.lt_of_lt_of_le (Heap.lt_size e) (I.ok.cab x c hfn hc)))).trans e1⟩
    · by_cases hj:j=i
      · subst hj
        rw [hi] at e1; cases e1
        rw [List.getElem?_set_self hiσ] at e2
        cases e2
        exact ⟨u,r,.inr ⟨.inl hk,c,hc,hc'⟩⟩
      · rw [List.getElem?_set_ne (Ne.symm hj)] at e2
        obtain ⟨u',r',q⟩:=hl j y v' e1 e2 e3
        refine ⟨u',r',?_⟩
        rcases q with q | ⟨k,c',e,z'⟩
        · exact .inl q
        · refine .inr ⟨k,c',e,z'.sameBut hs ?_⟩
          rintro rfl
          exact hj (vB hN e1 (I.ok.inj _ _ _ e hc ▸ hi))
    · by_cases hcc:c'=c
      · subst hcc; exact ⟨_,hc'⟩
      · obtain ⟨w2,z2⟩:=I.cell y c' e
        exact ⟨w2,z2.sameBut hs hcc⟩
    · obtain ⟨e,n,ne,nf,d⟩:=I.pin p hp
      refine ⟨(hs.2 p.1 ?_).trans e,n,ne,nf,d⟩
      intro q
      rw [q,hoc] at e
      have q':oc=p.2:=Option.some.inj e
      exact d w' (by rw [<- q']; exact hocd)
theorem xk {M:Model} {A:Around} {E:Value->Shared->Prop} {i:Nat} {x:Str} {v:V} {u:Value} {Q:Unit->Shared->Prop} (I:Inv X pins σ H s) (hN:X.N.Nodup) (hi:X.N[i]?=some x) (hx:Loc X.env.scope x) (r:RelV v u)
    (h:∀ s',Inv X pins (σ.set i (some v)) H s'->Q () s') (hf:X.fn x=true\/X.env.scope.names.lookup x=some .local:=by first | exact .inl rfl | exact .inr rfl | assumption):wpAny M A (storeName X.env x u) Q E s :=
  WM I hN hi hx r (fun s' I' _=>h s' I') hf
theorem Inv.call' {s':Shared} {ch:List Addr} (I:Inv X pins σ H s) (ho:s'.os=s.os) (u:Un (frs X.stack) ch H H' s.heap s'.heap) (hok:HOk X.prog X.w H' s'.heap) (hg:AllBare s'.gens)
    (hch:∀ b∈ch,(b∈X.ex\/X.s₀.heap.objs.size<=b)/\b≠X.env.locals/\(∀ x c,X.env.cells.lookup x=some c->c≠b)/\∀ p∈X.pn ++ pins,p.1≠b):Inv X pins σ H' s':=by
  obtain ⟨h',g',d',t',o'⟩:=s'
  have e:o'=s.os:=ho
  subst e
  exact I.call (g':=g') (t':=t') (d':=d') u hok hg hch
end
abbrev XK:=Value->Option Addr->Hp->Prop
abbrev St:=List (Option V)
abbrev VK:=V->Hp->Prop
abbrev TE:=St->Hp->VK->Prop
abbrev TT:=St->Hp->(Bool->Hp->Prop)->Prop
abbrev TA:=St->Hp->(List V->Hp->Prop)->Prop
structure Ends where
  nx:St->Hp->Prop
  rt:VK
  bk:St->Hp->Prop:=fun _ _=>False
  ct:St->Hp->Prop:=fun _ _=>False
abbrev TS:=Ends->St->Hp->Prop
def EP (X:Cx) (pins:List (Addr × Obj)) (σ:St) (Q:VK) (u:Value) (s':Shared):Prop:=∃ v H',Inv X pins σ H' s'/\RelV v u/\Q v H'
def TP (X:Cx) (pins:List (Addr × Obj)) (σ:St) (Q:Bool->Hp->Prop) (b:Bool) (s':Shared):Prop:=∃ H',Inv X pins σ H' s'/\Q b H'
def AP (X:Cx) (pins:List (Addr × Obj)) (σ:St) (Q:List V->Hp->Prop) (us:List Value) (s':Shared):Prop:=∃ vs H',Inv X pins σ H' s'/\Vals vs us/\Q vs H'
def SP (X:Cx) (pins:List (Addr × Obj)) (D:Ends) (f:Flow) (s':Shared):Prop :=
  match f with
  | .next=>∃ σ' H',Inv X pins σ' H' s'/\D.nx σ' H'
  | .brk=>∃ σ' H',Inv X pins σ' H' s'/\D.bk σ' H'
  | .cont=>∃ σ' H',Inv X pins σ' H' s'/\D.ct σ' H'
  | .ret u=>∃ v σ' H',Inv X pins σ' H' s'/\RelV v u/\D.rt v H'
def PE (X:Cx) (e:Expr) (t:TE):Prop :=
  ∀ (pins:List (Addr × Obj)) (s:Shared) (σ:St) (H:Hp) (Q:VK),Inv X pins σ H s->t σ H Q->wpAny (model X.prog X.w) X.A (eval e X.env) (EP X pins σ Q) X.xe s
def PT (X:Cx) (e:Expr) (t:TT):Prop :=
  ∀ (pins:List (Addr × Obj)) (s:Shared) (σ:St) (H:Hp) (Q:Bool->Hp->Prop),Inv X pins σ H s->t σ H Q->wpAny (model X.prog X.w) X.A (isTrue e X.env (eval e X.env)) (TP X pins σ Q) X.xe s
def PW (X:Cx) (e:Expr) (t:TT):Prop :=
  ∀ (whole:Sem Value) (pins:List (Addr × Obj)) (s:Shared) (σ:St) (H:Hp) (Q:Bool->Hp->Prop),Inv X pins σ H s->t σ H Q->wpAny (model X.prog X.w) X.A (isTrue e X.env whole) (TP X pins σ Q) X.xe s
theorem PW.pt {X:Cx} {e:Expr} {t:TT} (h:PW X e t):PT X e t:=h _
def PA (X:Cx) (es:List Expr) (t:TA):Prop :=
  ∀ (pos:Pos) (pins:List (Addr × Obj)) (s:Shared) (σ:St) (H:Hp) (Q:List V->Hp->Prop),Inv X pins σ H s->t σ H Q->wpAny (model X.prog X.w) X.A (spliced (backTo pos (starEach es X.env))) (AP X pins σ Q) X.xe s
def PS (X:Cx) (st:Stmt) (t:TS):Prop :=
  ∀ (pins:List (Addr × Obj)) (s:Shared) (σ:St) (H:Hp) (D:Ends),Inv X pins σ H s->t D σ H->wpAny (model X.prog X.w) X.A (exec st X.env) (SP X pins D) X.xe s
def PSs (X:Cx) (st:List Stmt) (t:TS):Prop :=
  ∀ (pins:List (Addr × Obj)) (s:Shared) (σ:St) (H:Hp) (D:Ends),Inv X pins σ H s->t D σ H->wpAny (model X.prog X.w) X.A (execs st X.env) (SP X pins D) X.xe s
theorem thn {α:Type} {t:Sem α} {Q Q':α->Shared->Prop} {M:Model} {A:Around} {E:Value->Shared->Prop} {s:Shared} (h:wpAny M A t Q E s) (hQ:∀ a s,Q a s->Q' a s):wpAny M A t Q' E s:=wpAny_mono h hQ fun _ _ x=>x
section
variable {X:Cx}
def tVar (i:Nat):TE:=fun σ H Q=>∃ v,σ[i]?=some (some v)/\Q v H
def tC (v:V):TE:=fun _ H Q=>Q v H
theorem zbT {i:Nat} {x:Str} {pos:Pos} (hN:X.N[i]?=some x) (hv:Vis X.env.scope x) (hd:(x == ("__debug__":Str))=false:=by decide) (hcd:(x == ("__classdict__":Str))=false:=by decide):PE X (.Name x pos) (tVar i):=by
  intro pins s σ H Q I h
  obtain ⟨v,e,h⟩:=h
  obtain ⟨m,hn,hl⟩:=I.loc
  obtain ⟨u,r,l⟩:=hl i x v hN e hv
  have fin:EP X pins σ Q u s:=⟨v,H,I,r,h⟩
  rcases l with ⟨hk,hm⟩ | ⟨hk,c,hc,hcell⟩
  · exact wpAny_Name (wpAny_loadName_local I.ok.kind hk hn hm fin) hd
  · rcases hk with hk | hk
    · exact wpAny_Name (wpAny_loadName_cell I.ok.kind hk hc hcell fin) hd
    · exact wpAny_Name (wpAny_loadName_free I.ok.kind hk hc hcell fin hcd) hd
theorem zbU {i j pos}:PE X (.Constant (.int i) j pos) (tC (.int i)):=fun _ _ _ H _ I h=>wpAny_Constant_int ⟨.int i,H,I.tok _,⟨_,rfl⟩,h⟩
theorem zc9 {b j pos}:PE X (.Constant (.bool b) j pos) (tC (.bl b)):=fun _ _ _ H _ I h=>Constant_bool ⟨.bl b,H,I,rfl,h⟩
theorem zbV {j pos}:PE X (.Constant .none j pos) (tC .non):=fun _ _ _ H _ I h=>Constant_none ⟨.non,H,I,rfl,h⟩
theorem zbW {x j pos}:PE X (.Constant (.str x) j pos) (tC (.str x)):=fun _ _ _ H _ I h=>Calls.Constant_str ⟨.str x,H,I.tok _,⟨_,rfl⟩,h⟩
def Gl (X:Cx) (x:Str):Prop:=X.env.kindOf x=some .globalImplicit
theorem yZ {E:Value->Shared->Prop} {pins:List (Addr × Obj)} {s:Shared} {σ:St} {H:Hp} {x:Str} {u:Value} {pos:Pos} {Q:Value->Shared->Prop} (I:Inv X pins σ H s) (hg:Gl X x) (hm:X.mg x=some u) (h:Q u s)
    (hd:(x == ("__debug__":Str))=false:=by decide):wpAny (model X.prog X.w) X.A (eval (.Name x pos) X.env) Q E s :=
  Calls.Name_function_global I.ok.kind hg (Calls.loadGlobal_global (by rw [I.ok.glob]; exact I.mod.glob.keeps I.bk) hm h) hd
theorem xY {E:Value->Shared->Prop} {pins:List (Addr × Obj)} {s:Shared} {σ:St} {H:Hp} {x:Str} {u:Value} {pos:Pos} {Q:Value->Shared->Prop} (I:Inv X pins σ H s) (hg:Gl X x) (hm:X.mg x=none) (hv:bootBuiltins x=some u) (h:Q u s)
    (hn:x≠"__name__":=by decide) (hd:(x == ("__debug__":Str))=false:=by decide):wpAny (model X.prog X.w) X.A (eval (.Name x pos) X.env) Q E s:=by
  obtain ⟨mb,h1,h2⟩:=I.mod.blt
  exact Calls.Name_function_global I.ok.kind hg (Calls.loadGlobal_builtin (by rw [I.ok.glob]; exact I.mod.glob.keeps I.bk) hm (by rw [I.ok.blt]; exact h1.keeps I.bk) ((h2 x hn).trans hv) h) hd
theorem QN {x:Str} {v:V} {u:Value} {pos:Pos} (hg:Gl X x) (hm:X.mg x=some u) (r:RelV v u) (hd:(x == ("__debug__":Str))=false:=by decide):PE X (.Name x pos) (tC v) :=
  fun _ _ _ H _ I h=>yZ I hg hm ⟨v,H,I,r,h⟩ hd
theorem QO {x:Str} {v:V} {u:Value} {pos:Pos} (hg:Gl X x) (hm:X.mg x=none) (hv:bootBuiltins x=some u) (r:RelV v u) (hn:x≠"__name__":=by decide) (hd:(x == ("__debug__":Str))=false:=by decide):PE X (.Name x pos) (tC v) :=
  fun _ _ _ H _ I h=>xY I hg hm hv ⟨v,H,I,r,h⟩ hn hd
variable {a b:Expr} {ta tb:TE} {pos:Pos}
def PC (X:Cx) (op:CmpOp) (a b:Expr) (t:TE):Prop :=
  ∀ (pins:List (Addr × Obj)) (s:Shared) (σ:St) (H:Hp) (Q:VK),Inv X pins σ H s->t σ H Q ->
    wpAny (model X.prog X.w) X.A (eval a X.env) (fun v s₁=>wpAny (model X.prog X.w) X.A (eval b X.env) (fun u s₂=>wpAny (model X.prog X.w) X.A (compareOp op v u) (EP X pins σ Q) X.xe s₂) X.xe s₁) X.xe s
theorem Vv (b:Expr) {op:CmpOp} (h:op≠.In) (h2:op≠.NotIn):behindInMarks op b=false:=by
  have e1:(op == CmpOp.In)=false:=by cases op <;> first | rfl | exact absurd rfl h
  have e2:(op == CmpOp.NotIn)=false:=by cases op <;> first | rfl | exact absurd rfl h2
  cases b <;> simp [behindInMarks,e1,e2]
def tIsN (ta:TE):TE:=fun σ H Q=>ta σ H fun x H1=>Q (.bl (decide (x=.non))) H1
def zbp (ta:TE):TE:=fun σ H Q=>ta σ H fun x H1=>Q (.bl (!decide (x=.non))) H1
theorem RelV.none_iff {x:V} {v:Value} (r:RelV x v):(v == Value.none)=decide (x=.non):=by
  cases x with
  | non=>cases r; rfl
  | bl _=>cases r; rfl
  | int _=>obtain ⟨t,rfl⟩:=r; rfl
  | str _=>obtain ⟨t,rfl⟩:=r; rfl
  | byt _=>obtain ⟨t,rfl⟩:=r; rfl
  | flt _=>obtain ⟨t,rfl⟩:=r; rfl
  | ref _=>cases r; rfl
  | ty _=>cases r; rfl
theorem zbX {j pos'} (ha:PE X a ta):PC X .Is a (.Constant .none j pos') (tIsN ta):=by
  intro pins s σ H Q I h
  refine thn (ha pins s σ H _ I h) fun v s1 ⟨x,H1,I1,r1,q1⟩=>?_
  exact Constant_none (is_none_gen ⟨.bl _,H1,I1,by rw [r1.none_iff]; rfl,q1⟩)
theorem QP {j pos'} (ha:PE X a ta):PC X .IsNot a (.Constant .none j pos') (zbp ta):=by
  intro pins s σ H Q I h
  refine thn (ha pins s σ H _ I h) fun v s1 ⟨x,H1,I1,r1,q1⟩=>?_
  exact Constant_none (isnot_none_gen ⟨.bl _,H1,I1,by rw [r1.none_iff]; rfl,q1⟩)
def tB (t:TE):TT:=fun σ H Q=>t σ H fun x H1=>∃ c,x=.bl c/\Q c H1
theorem Vw {op:CmpOp} {t:TE} (h:PC X op a b t) (h1:behindInMarks op b=false:=by first | exact Vv _ (by decide) (by decide) | rfl):PT X (.Compare a [op] [b] pos) (tB t):=by
  intro pins s σ H Q I hw
  refine wpAny_isTrue_Compare1 (thn (h pins s σ H _ I hw) fun v s1 h1=>thn h1 fun u s2 h2=>thn h2 fun c s3 ⟨x,H1,I1,r1,q1⟩=>?_) h1
  obtain ⟨d,rfl,q⟩:=q1
  cases r1
  exact wpAny_truthy_bool ⟨H1,I1,q⟩
theorem zbY {e:Expr} {t:TE} (h:PE X e t) (he:∀ whole,isTrue e X.env whole=(do let v <- whole; standAt e.pos; holding [v] (truthy v)):=by intro _; rfl):PT X e (tB t):=by
  intro pins s σ H Q I hw
  refine isTrue_plain (thn (h pins s σ H _ I hw) fun v s1 ⟨x,H1,I1,r1,q1⟩=>?_) (he _)
  obtain ⟨d,rfl,q⟩:=q1
  cases r1
  exact wpAny_truthy_bool ⟨H1,I1,q⟩
variable {tA tB':TT} {rest:List Expr}
def tAnd (t u:TT):TT:=fun σ H Q=>t σ H fun c H1=>if c=true then u σ H1 Q else Q false H1
def tOr (t u:TT):TT:=fun σ H Q=>t σ H fun c H1=>if c=true then Q true H1 else u σ H1 Q
def tNot (t:TT):TT:=fun σ H Q=>t σ H fun c H1=>Q (!c) H1
theorem pw_and1 (ha:PT X a tA):PW X (.BoolOp .And [a] pos) tA:=by
  intro wh pins s σ H Q I h
  refine isTrue_and (thn (ha pins s σ H Q I h) fun c s1 e=>?_)
  cases c with
  | true=>exact isTrue_and_nil e
  | false=>exact e
theorem pw_or1 (ha:PT X a tA):PW X (.BoolOp .Or [a] pos) tA:=by
  intro wh pins s σ H Q I h
  refine isTrue_or (thn (ha pins s σ H Q I h) fun c s1 e=>?_)
  cases c with
  | false=>exact isTrue_or_nil e
  | true=>exact e
theorem pw_and (ha:PT X a tA) (hb:PW X (.BoolOp .And (b :: rest) pos) tB'):PW X (.BoolOp .And (a :: b :: rest) pos) (tAnd tA tB'):=by
  intro wh pins s σ H Q I h
  refine isTrue_and (thn (ha pins s σ H _ I h) fun c s1 ⟨H1,I1,q1⟩=>?_)
  cases c with
  | true=>exact hb wh pins s1 σ H1 Q I1 q1
  | false=>exact ⟨H1,I1,q1⟩
theorem pw_or (ha:PT X a tA) (hb:PW X (.BoolOp .Or (b :: rest) pos) tB'):PW X (.BoolOp .Or (a :: b :: rest) pos) (tOr tA tB'):=by
  intro wh pins s σ H Q I h
  refine isTrue_or (thn (ha pins s σ H _ I h) fun c s1 ⟨H1,I1,q1⟩=>?_)
  cases c with
  | true=>exact ⟨H1,I1,q1⟩
  | false=>exact hb wh pins s1 σ H1 Q I1 q1
theorem zbZ (ha:PT X a tA):PT X (.UnaryOp .Not a pos) (tNot tA):=by
  intro pins s σ H Q I h
  exact isTrue_not (ha pins s σ H (fun c H1=>Q (!c) H1) I h)
def zbq (ta tb:TE):TE:=fun σ H Q=>ta σ H fun x H1=>∃ c,x=.bl c/\if c=true then tb σ H1 Q else Q (.bl false) H1
def tOrV (ta tb:TE):TE:=fun σ H Q=>ta σ H fun x H1=>∃ c,x=.bl c/\if c=true then Q (.bl true) H1 else tb σ H1 Q
def zbr (ta:TE):TE:=fun σ H Q=>ta σ H fun x H1=>∃ c,x=.bl c/\Q (.bl (!c)) H1
theorem zb0 {op} {t:TE} (h:PE X a t):PE X (.BoolOp op [a] pos) t:=fun pins s σ H Q I hw=>BoolOp_one (h pins s σ H Q I hw)
theorem zb1 (ha:PE X a ta) (hb:PE X (.BoolOp .And (b :: rest) pos) tb):PE X (.BoolOp .And (a :: b :: rest) pos) (zbq ta tb):=by
  intro pins s σ H Q I h
  refine BoolOp_and (thn (ha pins s σ H _ I h) fun v s1 ⟨x,H1,I1,r1,q1⟩=>?_)
  obtain ⟨c,rfl,q1⟩:=q1
  cases r1
  refine wpAny_truthy_bool ?_
  cases c with
  | true=>exact hb pins s1 σ H1 Q I1 q1
  | false=>exact ⟨.bl false,H1,I1,rfl,q1⟩
theorem zda (ha:PE X a ta) (hb:PE X (.BoolOp .Or (b :: rest) pos) tb):PE X (.BoolOp .Or (a :: b :: rest) pos) (tOrV ta tb):=by
  intro pins s σ H Q I h
  refine BoolOp_or (thn (ha pins s σ H _ I h) fun v s1 ⟨x,H1,I1,r1,q1⟩=>?_)
  obtain ⟨c,rfl,q1⟩:=q1
  cases r1
  refine wpAny_truthy_bool ?_
  cases c with
  | false=>exact hb pins s1 σ H1 Q I1 q1
  | true=>exact ⟨.bl true,H1,I1,rfl,q1⟩
theorem zb2 (ha:PE X a ta):PE X (.UnaryOp .Not a pos) (zbr ta):=by
  intro pins s σ H Q I h
  refine UnaryOp_ (thn (ha pins s σ H _ I h) fun v s1 ⟨x,H1,I1,r1,q1⟩=>?_)
  obtain ⟨c,rfl,q1⟩:=q1
  cases r1
  exact not_of (wpAny_truthy_bool ⟨.bl (!c),H1,I1,rfl,q1⟩)
def tIf (t:TT) (ta tb:TE):TE:=fun σ H Q=>t σ H fun c H1=>if c=true then ta σ H1 Q else tb σ H1 Q
theorem Vx {c:Expr} (hc:PT X c tA) (ha:PE X a ta) (hb:PE X b tb):PE X (.IfExp c a b pos) (tIf tA ta tb):=by
  intro pins s σ H Q I h
  refine wpAny_IfExp (thn (hc pins s σ H _ I h) fun d s1 ⟨H1,I1,q1⟩=>?_)
  cases d with
  | true=>exact ha pins s1 σ H1 Q I1 q1
  | false=>exact hb pins s1 σ H1 Q I1 q1
end
def SqL (K:PySem.W.Frag) (H:Hp) (a:Addr) (xs:List V):Prop :=
  Rd H a (.lst xs) \/
    ∃ (o:Obj) (its:Array Value) (n:Nat),K.lookup a=some o/\o.cls=.type "list"/\o.dict=none/\o.data=.seq its n/\its.size<=sizeLine/\Vals xs its.toList
def SqT (K:PySem.W.Frag) (H:Hp) (a:Addr) (xs:List V):Prop :=
  Rd H a (.tup xs) \/
    ∃ (o:Obj) (its:Array Value) (n:Nat),K.lookup a=some o/\o.cls=.type "tuple"/\o.data=.seq its n/\its.size<=sizeLine/\Vals xs its.toList
def absV:Value->Option V
  | .none=>some .non
  | .bool b=>some (.bl b)
  | .int i _=>some (.int i)
  | .str x _=>some (.str x)
  | .bytes b _=>some (.byt b)
  | .float b _=>some (.flt b)
  | .ref a=>some (.ref a)
  | .type n=>some (.ty n)
  | _=>none
theorem RelV.abs {x:V} {u:Value} (r:RelV x u):absV u=some x:=by
  cases x with
  | non=>cases r; rfl
  | bl _=>cases r; rfl
  | int _=>obtain ⟨t,rfl⟩:=r; rfl
  | str _=>obtain ⟨t,rfl⟩:=r; rfl
  | byt _=>obtain ⟨t,rfl⟩:=r; rfl
  | flt _=>obtain ⟨t,rfl⟩:=r; rfl
  | ref _=>cases r; rfl
  | ty _=>cases r; rfl
theorem RelV.inj {x y:V} {u:Value} (r:RelV x u) (q:RelV y u):x=y:=Option.some.inj (r.abs.symm.trans q.abs)
theorem Vals.inj:∀ {xs ys:List V} {us:List Value},Vals xs us->Vals ys us->xs=ys
  | _,_,_,.nil,.nil=>rfl
  | _,_,_,.cons r t,.cons r' t'=>by rw [r.inj r',Vals.inj t t']
section
variable {X:Cx} {pins:List (Addr × Obj)} {σ:St} {H:Hp} {s:Shared} {a:Addr} {xs ys:List V}
theorem SqL.of {K:PySem.W.Frag} (h:H a=some (.lst xs)):SqL K H a xs:=.inl (.inl h)
theorem SqT.of {K:PySem.W.Frag} (h:H a=some (.tup xs)):SqT K H a xs:=.inl (.inl h)
theorem Inv.list (I:Inv X pins σ H s) (h:SqL X.K H a xs):∃ its:List Value,Vals xs its/\PlainL s.heap a its.toArray/\xs.length<=sizeLine:=by
  rcases h with h | ⟨o,its,n,hk,hc,hd,hs,hz,r⟩
  · obtain ⟨z,its,n,r,e⟩:=h.ok I.hok
    exact ⟨its,r,⟨_,n,e,rfl,rfl,rfl⟩,z⟩
  · refine ⟨its.toList,r,⟨o,n,I.kIn a o hk,hc,hd,by simpa using hs⟩,?_⟩
    have e:=r.length
    simp only [Array.length_toList] at e
    lia
theorem Inv.tuple (I:Inv X pins σ H s) (h:SqT X.K H a xs):∃ its:List Value,Vals xs its/\IsTup s.heap a its.toArray/\xs.length<=sizeLine:=by
  rcases h with h | ⟨o,its,n,hk,hc,hs,hz,r⟩
  · obtain ⟨z,its,r,p⟩:=h.ok I.hok
    exact ⟨its,r,p.is,z⟩
  · refine ⟨its.toList,r,⟨o,I.kIn a o hk,hc,n,by simpa using hs⟩,?_⟩
    have e:=r.length
    simp only [Array.length_toList] at e
    lia
theorem Inv.list_inj (I:Inv X pins σ H s) (h:SqL X.K H a xs) (h':SqL X.K H a ys):xs=ys:=by
  obtain ⟨its,r,⟨o,n,e,_,_,d⟩,_⟩:=I.list h
  obtain ⟨its',r',⟨o',n',e',_,_,d'⟩,_⟩:=I.list h'
  rw [e] at e'; cases e'
  rw [d] at d'
  injection d' with d1 _
  have:its=its':=by simpa using congrArg Array.toList d1
  subst this
  exact r.inj r'
theorem Inv.tuple_inj (I:Inv X pins σ H s) (h:SqT X.K H a xs) (h':SqT X.K H a ys):xs=ys:=by
  obtain ⟨its,r,⟨o,e,_,n,d⟩,_⟩:=I.tuple h
  obtain ⟨its',r',⟨o',e',_,n',d'⟩,_⟩:=I.tuple h'
  rw [e] at e'; cases e'
  rw [d] at d'
  injection d' with d1 _
  have:its=its':=by simpa using congrArg Array.toList d1
  subst this
  exact r.inj r'
end
abbrev Cx.wish (X:Cx) (E:Value->Shared->Prop):Cx:={ X with xe:=E }
abbrev Cx.nox (X:Cx):Cx:=X.wish fun _ _=>False
theorem Cx.Ok.wish {X:Cx} (ok:X.Ok) (E:Value->Shared->Prop):(X.wish E).Ok :=
  ⟨ok.mod,ok.kind,ok.glob,ok.blt,ok.above,ok.inj,ok.has,ok.cab,ok.hd,ok.frames,ok.stk,ok.exf,ok.bs,ok.bsz,ok.noex,ok.exfs,ok.funs,ok.frf⟩
theorem Cx.Ok.unwish {X:Cx} {E:Value->Shared->Prop} (ok:(X.wish E).Ok):X.Ok :=
  ⟨ok.mod,ok.kind,ok.glob,ok.blt,ok.above,ok.inj,ok.has,ok.cab,ok.hd,ok.frames,ok.stk,ok.exf,ok.bs,ok.bsz,ok.noex,ok.exfs,ok.funs,ok.frf⟩
section
variable {X:Cx} {pins:List (Addr × Obj)} {σ:St} {H:Hp} {s:Shared} {E:Value->Shared->Prop}
theorem Inv.wish (I:Inv X pins σ H s) (E:Value->Shared->Prop):Inv (X.wish E) pins σ H s:=⟨I.ok.wish E,I.os,I.bare,I.base,I.loc,I.cell,I.free,I.freeC,I.pin,I.hok,I.len⟩
theorem Inv.unwish (I:Inv (X.wish E) pins σ H s):Inv X pins σ H s:=⟨I.ok.unwish,I.os,I.bare,I.base,I.loc,I.cell,I.free,I.freeC,I.pin,I.hok,I.len⟩
theorem SP.unwish {D:Ends} {f:Flow} {s':Shared} (h:SP (X.wish E) pins D f s'):SP X pins D f s':=by
  cases f with
  | next=>obtain ⟨σ',H',I,q⟩:=h; exact ⟨σ',H',I.unwish,q⟩
  | brk=>obtain ⟨σ',H',I,q⟩:=h; exact ⟨σ',H',I.unwish,q⟩
  | cont=>obtain ⟨σ',H',I,q⟩:=h; exact ⟨σ',H',I.unwish,q⟩
  | ret u=>obtain ⟨v,σ',H',I,r,q⟩:=h; exact ⟨v,σ',H',I.unwish,r,q⟩
theorem PSs.nox {st:List Stmt} {t:TS} (h:PSs X.nox st t):PSs X st t:=fun pins s σ H D I hw =>
  wpAny_mono (h pins s σ H D (I.wish _) hw) (fun _ _ q=>q.unwish) fun _ _ z=>False.elim z
end
section
variable {X:Cx} {st:Stmt} {rest:List Stmt} {t u:TS} {e:Expr} {te:TE} {pos:Pos}
def Vy:TS:=fun D σ H=>D.nx σ H
def tSeq (t u:TS):TS:=fun D σ H=>t { D with nx:=u D } σ H
theorem QQ:PSs X [] Vy:=fun _ _ σ H _ I h=>wpAny_execs_nil ⟨σ,H,I,h⟩
theorem Vz (h1:PS X st t) (h2:PSs X rest u):PSs X (st :: rest) (tSeq t u):=by
  intro pins s σ H D I h
  refine wpAny_execs_cons (thn (h1 pins s σ H { D with nx:=u D } I h) fun f s1 q=>?_)
  cases f with
  | next =>
    obtain ⟨σ',H',I',q⟩:=q
    exact h2 pins s1 σ' H' D I' q
  | ret v=>exact q
  | brk=>exact q
  | cont=>exact q
theorem QR (h1:PS X st t):PSs X [st] t:=by
  intro pins s σ H D I h
  refine wpAny_execs_cons (thn (h1 pins s σ H D I h) fun f s1 q=>?_)
  cases f with
  | next=>exact wpAny_execs_nil q
  | ret v=>exact q
  | brk=>exact q
  | cont=>exact q
theorem Inv.quiet {pins:List (Addr × Obj)} {σ:St} {H:Hp} {s:Shared} (I:Inv X pins σ H s):interactive X.env=false:=by simp [interactive,I.ok.kind]
def zbs (te:TE):TS:=fun D σ H=>te σ H fun _ H1=>D.nx σ H1
theorem QS (he:PE X e te) (hs:swapsWith e none pos.line X.env=pure false:=by rfl):PS X (.Expr e pos) (zbs te):=by
  intro pins s σ H D I h
  exact wpAny_Expr_any (thn (he pins s σ H _ I h) fun v s1 ⟨x,H1,I1,r1,q1⟩=>⟨σ,H1,I1,q1⟩) I.quiet hs
def tRet (te:TE):TS:=fun D σ H=>te σ H D.rt
theorem zb3 (he:PE X e te):PS X (.Return (some e) pos) (tRet te):=by
  intro pins s σ H D I h
  exact wpAny_Return_some (thn (he pins s σ H _ I h) fun v s1 ⟨x,H1,I1,r1,q1⟩=>⟨x,σ,H1,I1,r1,q1⟩)
def zbt:TS:=fun D _ H=>D.rt .non H
theorem QT:PS X (.Return none pos) zbt:=fun _ _ σ H _ I h=>wpAny_Return_none ⟨.non,σ,H,I,rfl,h⟩
def tIfS (c:TT) (t u:TS):TS:=fun D σ H=>c σ H fun b H1=>if b=true then t D σ H1 else u D σ H1
theorem zdb {c:Expr} {a b:List Stmt} {tc:TT} (hc:PT X c tc) (ha:PSs X a t) (hb:PSs X b u):PS X (.If c a b pos) (tIfS tc t u):=by
  intro pins s σ H D I h
  refine wpAny_If (thn (hc pins s σ H _ I h) fun d s1 ⟨H1,I1,q1⟩=>?_)
  cases d with
  | true=>exact ha pins s1 σ H1 D I1 q1
  | false=>exact hb pins s1 σ H1 D I1 q1
end
abbrev TG:=V->St->Hp->(St->Hp->Prop)->Prop
abbrev TGs:=List V->St->Hp->(St->Hp->Prop)->Prop
def PG (X:Cx) (target:Expr) (t:TG):Prop :=
  ∀ (pins:List (Addr × Obj)) (s:Shared) (σ:St) (H:Hp) (v:V) (u:Value) (Q:St->Hp->Prop),Inv X pins σ H s->RelV v u->t v σ H Q ->
    wpAny (model X.prog X.w) X.A (assign target X.env u) (fun _ s'=>∃ σ' H',Inv X pins σ' H' s'/\Q σ' H') X.xe s
def PGs (X:Cx) (ts:List Expr) (t:TGs):Prop :=
  ∀ (pins:List (Addr × Obj)) (s:Shared) (σ:St) (H:Hp) (vs:List V) (us:List Value) (Q:St->Hp->Prop),Inv X pins σ H s->Vals vs us->t vs σ H Q ->
    wpAny (model X.prog X.w) X.A (assignInOrder ((assignEach ts X.env).map (·.2)) us) (fun _ s'=>∃ σ' H',Inv X pins σ' H' s'/\Q σ' H') X.xe s
abbrev TSet:=V->V->V->Hp->(Hp->Prop)->Prop
def PSet (X:Cx) (t:TSet):Prop :=
  ∀ (pins:List (Addr × Obj)) (s:Shared) (σ:St) (H:Hp) (o i v:V) (ov iv u:Value) (Q:Hp->Prop),Inv X pins σ H s->RelV o ov->RelV i iv->RelV v u->t o i v H Q ->
    wpAny (model X.prog X.w) X.A (setItem ov iv u) (fun _ s'=>∃ H',Inv X pins σ H' s'/\Q H') X.xe s
section
variable {X:Cx} {pos:Pos}
def we (i:Nat):TG:=fun v σ H Q=>Q (σ.set i (some v)) H
theorem QU {i:Nat} {x:Str} (hN:X.N.Nodup) (hi:X.N[i]?=some x) (hx:Loc X.env.scope x) (hf:X.fn x=true\/X.env.scope.names.lookup x=some .local:=by first | exact .inl rfl | exact .inr rfl | assumption):PG X (.Name x pos) (we i):=by
  intro pins s σ H v u Q I r h
  exact wpAny_assign_Name (xk I hN hi hx r (fun s' I'=>⟨_,H,I',h⟩) hf)
def gNil:TGs:=fun vs σ H Q=>vs=[]/\Q σ H
def zbu (t:TG) (u:TGs):TGs:=fun vs σ H Q=>∃ v r,vs=v :: r/\t v σ H fun σ' H'=>u r σ' H' Q
theorem QV:PGs X [] gNil:=by
  intro pins s σ H vs us Q I r h
  obtain ⟨e,h⟩:=h
  subst e
  cases r
  exact assignInOrder_nil ⟨σ,H,I,h⟩
theorem VA {e:Expr} {es:List Expr} {t:TG} {u:TGs} (h1:PG X e t) (h2:PGs X es u)
    (hs:(assignEach (e :: es) X.env).map (·.2)=assign e X.env :: (assignEach es X.env).map (·.2):=by rfl):PGs X (e :: es) (zbu t u):=by
  intro pins s σ H vs us Q I r h
  obtain ⟨v,vr,e1,h⟩:=h
  subst e1
  cases r with
  | cons r rr =>
    rw [hs]
    refine assignInOrder_cons (thn (h1 pins s σ H _ _ _ I r h) fun _ s1 ⟨σ1,H1,I1,q1⟩=>?_)
    exact h2 pins s1 σ1 H1 _ _ Q I1 rr q1
def gTup (K:PySem.W.Frag) (n:Nat) (t:TGs):TG:=fun v σ H Q=>∃ a xs,v=.ref a/\SqT K H a xs/\xs.length=n/\t xs σ H Q
theorem zb4 {es:List Expr} {k:Nat} {t:TGs} {n:Nat} (hc:X.calm=true) (h:PGs X es t)
    (hn:(assignEach es X.env).length=n:=by rfl) (hst:(assignEach es X.env).findIdx? (·.1)=none:=by rfl):PG X (.Tuple es k pos) (gTup X.K n t):=by
  intro pins s σ H v u Q I r hw
  obtain ⟨a,xs,e1,hq,hl,hw⟩:=hw
  subst e1
  cases r
  obtain ⟨its,rv,ht,hz⟩:=I.tuple hq
  refine assign_Tuple_tuple (I.ok.hd hc) ht (by simp [hn,<- hl,rv.length]) hst fun h' hx=>?_
  have I1:Inv X pins σ H { s with heap:=h' }:=I.kept (t':=s.toks) fun b o e=>hx b o (Nat.ne_of_lt (Heap.lt_size e)) e
  exact h pins _ σ H xs _ Q I1 (by simpa using rv) hw
def gSub (to ti:TE) (t:TSet):TG:=fun v σ H Q=>to σ H fun o H1=>ti σ H1 fun i H2=>t o i v H2 fun H3=>Q σ H3
theorem zb5 {o i:Expr} {to ti:TE} {t:TSet} (ho:PE X o to) (hi:PE X i ti) (hs:PSet X t)
    (ha:∀ v,assign (.Subscript o i pos) X.env v=(do
      let ov <- holding [v] (eval o X.env)
      let iv <- holding [v,ov] (eval i X.env)
      standAt pos
      holding [v,ov,iv] (setItem ov iv v)
      release [v,ov,iv] []):=by intro _; rfl):PG X (.Subscript o i pos) (gSub to ti t):=by
  intro pins s σ H v u Q I r h
  rw [ha]
  refine wpAny_bind (wpAny_holding (thn (ho pins s σ H _ I h) fun ov s1 ⟨x,H1,I1,r1,q1⟩=>?_))
  refine wpAny_bind (wpAny_holding (thn (hi pins s1 σ H1 _ I1 q1) fun iv s2 ⟨y,H2,I2,r2,q2⟩=>?_))
  refine wpAny_bind (wpAny_standAt (wpAny_bind (wpAny_holding (thn (hs pins s2 σ H2 x y v ov iv u _ I2 r1 r2 r q2) fun _ s3 ⟨H3,I3,q3⟩=>?_))))
  exact wpAny_release ⟨σ,H3,I3,q3⟩
def tAsg (te:TE) (g:TG):TS:=fun D σ H=>te σ H fun x H1=>g x σ H1 D.nx
theorem zb6 {tg e:Expr} {te:TE} {g:TG} (he:PE X e te) (hg:PG X tg g) (hs:swapsWithSole [tg] e pos.line X.env=pure false:=by rfl) (hw:swappedStores [tg] e X.env=pure none:=by rfl)
    (h1:(assignEach [tg] X.env).map (·.2)=[assign tg X.env]:=by rfl):PS X (.Assign [tg] e pos) (tAsg te g):=by
  intro pins s σ H D I h
  refine wpAny_Assign_stores (thn (he pins s σ H _ I h) fun v s1 ⟨x,H1,I1,r1,q1⟩=>?_) hs hw
  rw [h1]
  exact thn (hg pins s1 σ H1 x v _ I1 r1 q1) fun _ s2 q=>q
theorem zb7 {i:Nat} {x:Str} {e:Expr} {te:TE} {pos':Pos} (hN:X.N.Nodup) (hi:X.N[i]?=some x) (hx:Loc X.env.scope x) (he:PE X e te) (hs:swapsWith e (some (.Name x pos')) pos.line X.env=pure false:=by rfl) (hf:X.fn x=true\/X.env.scope.names.lookup x=some .local:=by first | exact .inl rfl | exact .inr rfl | assumption) :
    PS X (.Assign [.Name x pos'] e pos) (tAsg te (we i)):=by
  intro pins s σ H D I h
  refine wpAny_Assign_Name (thn (he pins s σ H _ I h) fun v s1 ⟨y,H1,I1,r1,q1⟩=>?_) hs
  exact xk I1 hN hi hx r1 (fun s2 I2=>⟨_,H1,I2,q1⟩) hf
def tPar (i j:Nat) (ta:TA):TS:=fun D σ H=>ta σ H fun vs H1=>∃ v w,vs=[v,w]/\D.nx ((σ.set i (some v)).set j (some w)) H1
theorem zb8 {i j:Nat} {x y:Str} {a b:Expr} {ta:TA} {px py pt:Pos} {kt k2 pt2} (hc:X.calm=true) (hN:X.N.Nodup) (hi:X.N[i]?=some x) (hj:X.N[j]?=some y) (hij:i≠j)
    (hx:X.env.scope.names.lookup x=some .local) (hy:X.env.scope.names.lookup y=some .local) (ha:PA X [a,b] ta)
    (hw:swappedStores [.Tuple [.Name x px,.Name y py] kt pt] (.Tuple [a,b] k2 pt2) X.env=pure (some [x,y]))
    (hs:swapsWithSole [.Tuple [.Name x px,.Name y py] kt pt] (.Tuple [a,b] k2 pt2) pos.line X.env=pure false:=by rfl) :
    PS X (.Assign [.Tuple [.Name x px,.Name y py] kt pt] (.Tuple [a,b] k2 pt2) pos) (tPar i j ta):=by
  intro pins s σ H D I h
  rw [exec_Assign_arm]
  refine wpAny_bind (wpAny_standAt ?_)
  rw [hs]
  refine wpAny_bind (wpAny_pure ?_)
  rw [if_neg (by decide)]
  refine wpAny_bind (Tuple_ (thn (ha _ pins s σ H _ I h) fun us s1 ⟨vs,H1,I1,r1,q1⟩=>?_))
  obtain ⟨v,w,e1,q1⟩:=q1
  subst e1
  obtain ⟨u1,u2,rfl,rv,rw'⟩:∃ u1 u2,us=[u1,u2]/\RelV v u1/\RelV w u2:=by
    cases r1 with
    | cons p q =>
      cases q with
      | cons p' q' =>
        cases q'
        exact ⟨_,_,rfl,p,p'⟩
  refine wpAny_newObj_type ?_ sN2
  have I2:Inv X pins σ H1 { s1 with heap:=s1.heap.push { cls:=.type "tuple",data:=.seq [u1,u2].toArray } }:=I1.kept (t':=s1.toks) fun b o e=>Heap.get?_push_of_some _ e
  rw [hw]
  refine wpAny_bind (wpAny_pure ?_)
  show wpAny (model X.prog X.w) X.A (do rule "assign.swapped-stores"; let items <- unpackItems (.ref s1.heap.objs.size) 2 none; assignInOrder [fun v=>bindName X.env y v,fun v=>bindName X.env x v] items.reverse; pure Flow.next) _ _ _
  refine wpAny_bind (wpAny_rule (wpAny_bind (unpackItems_tuple (items:=#[u1,u2]) (I.ok.hd hc) (IsTup.new s1.heap _) fun h' hx'=>?_)))
  have I3:=I2.kept (h':=h') (t':=s1.toks) fun b o e=>hx' b o (Nat.ne_of_lt (Heap.lt_size e)) e
  show wpAny _ _ (assignInOrder [fun v=>bindName X.env y v,fun v=>bindName X.env x v] [u2,u1] >>= fun _=>pure Flow.next) _ _ _
  refine wpAny_bind (assignInOrder_cons (wpAny_bindName (xk I3 hN hj (.inl hy) rw' (fun s2 I4=>?_) (.inr hy))))
  refine assignInOrder_cons (wpAny_bindName (xk I4 hN hi (.inl hx) rv (fun s3 I5=>assignInOrder_nil (wpAny_pure ?_)) (.inr hx)))
  rw [List.set_comm _ _ (Ne.symm hij)] at I5
  exact ⟨_,H1,I5,q1⟩
def VB (c:TT) (tb:TS):TS:=fun D σ H=>∃ W:Nat->St->Hp->Prop,(∃ m,W m σ H)/\∀ m σ H,W m σ H ->
  c σ H fun b H1=>if b=true then ∃ N:St->Hp->Prop,(∀ σ' H',N σ' H'->∃ m',m' < m/\W m' σ' H')/\tb { D with nx:=N,ct:=N,bk:=D.nx } σ H1 else D.nx σ H1
theorem VC {c:Expr} {body:List Stmt} {tc:TT} {tb:TS} (hp:PassesOwn (model X.prog X.w) X.A X.env X.xe) (hc:PT X c tc) (hb:PSs X body tb):PS X (.While c body [] pos) (VB tc tb):=by
  intro pins s σ H D I h
  obtain ⟨W,⟨m0,w0⟩,turn⟩:=h
  refine wpAny_While (codeAny_whileLoop (fun n s'=>∃ σ' H',Inv X pins σ' H' s'/\W n σ' H') ?_ m0 ⟨σ,H,I,w0⟩)
  rintro n s1 ⟨σ1,H1,I1,w1⟩
  refine wpAny_passesOwn hp (thn (hc pins s1 σ1 H1 _ I1 (turn n σ1 H1 w1)) fun b s2 ⟨H2,I2,q2⟩=>?_)
  cases b with
  | true =>
    obtain ⟨N,hN,q2⟩:=q2
    rw [if_pos rfl]
    refine wpAny_passesOwn hp (thn (hb pins s2 σ1 H2 _ I2 q2) fun f s3 q3=>?_)
    cases f with
    | next =>
      obtain ⟨σ3,H3,I3,n3⟩:=q3
      obtain ⟨m',hm,w3⟩:=hN σ3 H3 n3
      exact ⟨m',hm,σ3,H3,I3,w3⟩
    | cont =>
      obtain ⟨σ3,H3,I3,n3⟩:=q3
      obtain ⟨m',hm,w3⟩:=hN σ3 H3 n3
      exact ⟨m',hm,σ3,H3,I3,w3⟩
    | brk=>exact q3
    | ret v=>exact q3
  | false =>
    rw [if_neg Bool.false_ne_true]
    exact wpAny_execs_nil ⟨σ1,H2,I2,q2⟩
end
structure It where
  go:Nat->Hp->Prop
  yld:Nat->Hp->V->Hp->Prop
  stop:Nat->Hp->Prop
def FpOk (X:Cx) (pins:List (Addr × Obj)) (H:Hp) (b:Addr):Prop :=
  H b=none/\b≠X.env.locals/\b ∉ X.fs/\(b∈X.ex\/X.s₀.heap.objs.size<=b)/\(∀ x c,X.env.cells.lookup x=some c->c≠b)/\∀ p∈X.pn ++ pins,p.1≠b
theorem Inv.fpOk {X:Cx} {pins:List (Addr × Obj)} {σ:St} {H H':Hp} {s:Shared} {b:Addr} (I:Inv X pins σ H s) (hb:s.heap.objs.size<=b) (hn:H' b=none):FpOk X pins H' b:=by
  refine ⟨hn,Nat.ne_of_gt (Nat.lt_of_lt_of_le I.lt hb),I.nofs hb,.inr (Nat.le_trans I.sz hb),fun x c e z=>?_,fun p hp z=>?_⟩
  · obtain ⟨v,q⟩:=I.cell x c e
    exact absurd (Nat.lt_of_lt_of_le q.lt (by rw [z]; exact hb)) (Nat.lt_irrefl _)
  · exact absurd (Nat.lt_of_lt_of_le (Heap.lt_size (I.pin p hp).1) (by rw [z]; exact hb)) (Nat.lt_irrefl _)
structure Turn (P:Program) (w:World) (K:PySem.W.Frag) (tg:Expr) (J:It) (fp:List Addr) (it:Addr) (tn:Nat->Heap->Prop):Prop where
  mem:it∈fp
  obj:∀ i h,tn i h->∀ b∈fp,∃ o,h.get? b=some o/\∀ v,o.data≠.cell v
  keep:∀ i h h',tn i h->(∀ b∈fp,∀ o,h.get? b=some o->h'.get? b=some o)->tn i h'
  item:∀ (X:Cx),X.prog=P->X.w=w->X.K=K->X.calm=true->∀ (i:Nat) (pins:List (Addr × Obj)) (s:Shared) (σ:St) (H:Hp) (E:Value->Shared->Prop),Inv X pins σ H s->(∀ b∈fp,FpOk X pins H b)->tn i s.heap->J.go i H ->
    wpAny (model P w) X.A (pyNext (.ref it)) (fun r s1=>∃ u,r=some u /\
      wpAny (model P w) X.A (letOwnedTupleGo tg (.ref it) u) (fun _ s2=>∃ x H',Inv X pins σ H' s2/\RelV x u/\J.yld i H x H'/\tn (i + 1) s2.heap/\∀ b∈fp,H' b=none) E s1) E s
  done:∀ (X:Cx),X.prog=P->X.w=w->X.K=K->X.calm=true->∀ (i:Nat) (pins:List (Addr × Obj)) (s:Shared) (σ:St) (H:Hp) (E:Value->Shared->Prop),Inv X pins σ H s->(∀ b∈fp,FpOk X pins H b)->tn i s.heap->J.stop i H ->
    wpAny (model P w) X.A (pyNext (.ref it)) (fun r s1=>r=none/\Inv X pins σ H s1) E s
  self:∀ (A:Around) (i:Nat) (s:Shared) (Q:Value->Shared->Prop) (E:Value->Shared->Prop),tn i s.heap->Q (.ref it) s->wpAny (model P w) A (pyIter (.ref it)) Q E s
abbrev TI:=St->Hp->(It->Hp->Prop)->Prop
def PIE (X:Cx) (pins:List (Addr × Obj)) (σ:St) (tg:Expr) (R:It->Hp->Prop) (itv:Value) (s2:Shared):Prop :=
  ∃ (it:Addr) (fp:List Addr) (tn:Nat->Heap->Prop) (J:It) (H':Hp),itv=.ref it/\Inv X pins σ H' s2/\Turn X.prog X.w X.K tg J fp it tn/\tn 0 s2.heap/\(∀ b∈fp,FpOk X pins H' b)/\R J H'
def PI (X:Cx) (tg iter:Expr) (wi:TI):Prop :=
  ∀ (pins:List (Addr × Obj)) (s:Shared) (σ:St) (H:Hp) (R:It->Hp->Prop),Inv X pins σ H s->wi σ H R ->
    wpAny (model X.prog X.w) X.A (eval iter X.env) (fun v s1=>wpAny (model X.prog X.w) X.A (pyIter v) (PIE X pins σ tg R) X.xe s1) X.xe s
theorem jF {M:Model} {A:Around} {E:Value->Shared->Prop} {s:Shared} {tg:Expr} {it:Addr} {u:Value} {o:Obj} {n:String} {vs:Array Value} {Q:Unit->Shared->Prop} (ho:s.heap.get? it=some o) (hc:o.cls=.type n) (hd:o.data=.fields vs)
    (hn:["enumerate","zip","dict_itemiterator","dict_reverseitemiterator","odict_iterator","itertools.zip_longest","itertools.pairwise"].contains n=false) (hQ:Q () s):wpAny M A (letOwnedTupleGo tg (.ref it) u) Q E s:=by
  unfold letOwnedTupleGo
  cases tg <;> first
    | exact wpAny_pure hQ
    | (cases u <;> first
        | exact wpAny_pure hQ
        | (refine wpAny_bind (wpAny_load ho ?_)
           rw [hc,hd]
           show wpAny M A (if (["enumerate","zip","dict_itemiterator","dict_reverseitemiterator","odict_iterator","itertools.zip_longest","itertools.pairwise"].contains n && vs[0]? == some (rawInt _))=true then _ else _) Q E s
           rw [if_neg (by intro h; rw [hn,Bool.false_and] at h; cases h)]
           exact wpAny_pure hQ))
def Itl (K:PySem.W.Frag) (a:Addr):It :=
  ⟨fun i H=>∃ xs x,SqL K H a xs/\xs[i]?=some x,fun i H x H'=>H'=H/\∀ xs,SqL K H a xs->xs[i]?=some x,fun i H=>∃ xs,SqL K H a xs/\xs.length<=i⟩
def Itt (K:PySem.W.Frag) (a:Addr):It :=
  ⟨fun i H=>∃ xs x,SqT K H a xs/\xs[i]?=some x,fun i H x H'=>H'=H/\∀ xs,SqT K H a xs->xs[i]?=some x,fun i H=>∃ xs,SqT K H a xs/\xs.length<=i⟩
def Itr (lo:Int) (n:Nat):It:=⟨fun i _=>i < n,fun i H x H'=>H'=H/\x=.int (lo + i),fun i _=>n<=i⟩
theorem WN {P:Program} {w:World} {K:PySem.W.Frag} {tg:Expr} (a it:Addr):Turn P w K tg (Itl K a) [it] it (fun i h=>h.IsListIter it a i) where
  mem:=by simp
  obj:=fun i h st b hb=>by
    have e:b=it:=by simpa using hb
    subst e
    obtain ⟨o,e,c,d⟩:=st
    exact ⟨o,e,fun v z=>by rw [d] at z; cases z⟩
  keep:=fun i h h' st k=>st.at fun o e=>k it (by simp) o e
  item:=by
    intro X hP hw hK hc i pins s σ H E I hf st hg
    subst hP hw hK
    obtain ⟨xs,x,hq,hx⟩:=hg
    obtain ⟨its,rv,p,hz⟩:=I.list hq
    obtain ⟨u,hu,ru⟩:=rv.get hx
    obtain ⟨f0,f1,f2,f3,f4,f5⟩:=hf it (by simp)
    refine wpAny_pyNext_list_item st p.isList (x:=u) (by simpa using hu) fun h' st' sb=>?_
    have I1:Inv X pins σ H { s with heap:=h' }:=I.turned (t':=s.toks) (fun b o hb e=>(sb.2 b hb).trans e) f0 f1 f3 f4 f5
    obtain ⟨o,e,c,d⟩:=id st'
    exact ⟨u,rfl,jF (s:={ s with heap:=h' }) e c d (by decide) ⟨x,H,I1,ru,⟨rfl,fun ys hy=>by rw [I.list_inj hy hq]; exact hx⟩,st',fun b hb=>(hf b hb).1⟩⟩
  done:=by
    intro X hP hw hK hc i pins s σ H E I hf st hg
    subst hP hw hK
    obtain ⟨xs,hq,hx⟩:=hg
    obtain ⟨its,rv,p,hz⟩:=I.list hq
    obtain ⟨f0,f1,f2,f3,f4,f5⟩:=hf it (by simp)
    have hl:=rv.length
    exact wpAny_pyNext_list_end (I.ok.hd hc) st p.isList (by simp; lia) fun h' eb=>⟨rfl,I.turned (t':=s.toks) (fun b o hb e=>eb b o hb e) f0 f1 f3 f4 f5⟩
  self:=fun _ _ _ _ _ st h=>wpAny_pyIter_listiter st h
theorem YQ {P:Program} {w:World} {K:PySem.W.Frag} {tg:Expr} (a it:Addr):Turn P w K tg (Itt K a) [it] it (fun i h=>h.IsTupleIter it a i) where
  mem:=by simp
  obj:=fun i h st b hb=>by
    have e:b=it:=by simpa using hb
    subst e
    obtain ⟨o,e,c,d⟩:=st
    exact ⟨o,e,fun v z=>by rw [d] at z; cases z⟩
  keep:=fun i h h' st k=>st.at fun o e=>k it (by simp) o e
  item:=by
    intro X hP hw hK hc i pins s σ H E I hf st hg
    subst hP hw hK
    obtain ⟨xs,x,hq,hx⟩:=hg
    obtain ⟨its,rv,p,hz⟩:=I.tuple hq
    obtain ⟨u,hu,ru⟩:=rv.get hx
    obtain ⟨f0,f1,f2,f3,f4,f5⟩:=hf it (by simp)
    refine wpAny_pyNext_tuple_item st (show s.heap.IsTuple a its.toArray from p) (x:=u) (by simpa using hu) fun h' st' sb=>?_
    have I1:Inv X pins σ H { s with heap:=h' }:=I.turned (t':=s.toks) (fun b o hb e=>(sb.2 b hb).trans e) f0 f1 f3 f4 f5
    obtain ⟨o,e,c,d⟩:=id st'
    exact ⟨u,rfl,jF (s:={ s with heap:=h' }) e c d (by decide) ⟨x,H,I1,ru,⟨rfl,fun ys hy=>by rw [I.tuple_inj hy hq]; exact hx⟩,st',fun b hb=>(hf b hb).1⟩⟩
  done:=by
    intro X hP hw hK hc i pins s σ H E I hf st hg
    subst hP hw hK
    obtain ⟨xs,hq,hx⟩:=hg
    obtain ⟨its,rv,p,hz⟩:=I.tuple hq
    obtain ⟨f0,f1,f2,f3,f4,f5⟩:=hf it (by simp)
    have hl:=rv.length
    exact wpAny_pyNext_tuple_end (I.ok.hd hc) st (show s.heap.IsTuple a its.toArray from p) (by simp; lia) fun h' eb=>⟨rfl,I.turned (t':=s.toks) (fun b o hb e=>eb b o hb e) f0 f1 f3 f4 f5⟩
  self:=fun _ _ _ _ _ st h=>wpAny_pyIter_tupleiter st h
theorem YR {P:Program} {w:World} {K:PySem.W.Frag} {tg:Expr} (it:Addr) (lo:Int) (n:Nat):Turn P w K tg (Itr lo n) [it] it (fun i h=>IsRangeIter h it (lo + (i:Nat) * 1) ((n:Int) - (i:Nat)) 1) where
  mem:=by simp
  obj:=fun i h st b hb=>by
    have e:b=it:=by simpa using hb
    subst e
    exact ⟨_,st,fun v z=>by
      have z':Data.fields _=Data.cell v:=z
      cases z'⟩
  keep:=fun i h h' st k=>k it (by simp) _ st
  item:=by
    intro X hP hw hK hc i pins s σ H E I hf st hg
    subst hP hw hK
    obtain ⟨f0,f1,f2,f3,f4,f5⟩:=hf it (by simp)
    have W:=Walks.range (prog:=X.prog) (w:=X.w) (I.ok.hd hc) it lo 1 n
    refine W.item i s _ _ hg st fun v h' tk hv st' kk=>?_
    obtain ⟨t,rfl⟩:=hv
    have I1:Inv X pins σ H { s with heap:=h',toks:=tk }:=I.turned (fun b o hb e=>kk b o (by simpa using hb) e) f0 f1 f3 f4 f5
    refine ⟨_,rfl,jF (s:={ s with heap:=h',toks:=tk }) (n:="range_iterator") st' rfl rfl (by decide) ⟨.int (lo + i),H,I1,⟨t,?_⟩,⟨rfl,rfl⟩,st',fun b hb=>(hf b hb).1⟩⟩
    rw [Int.mul_one]
  done:=by
    intro X hP hw hK hc i pins s σ H E I hf st hg
    subst hP hw hK
    obtain ⟨f0,f1,f2,f3,f4,f5⟩:=hf it (by simp)
    exact wpAny_pyNext_range_end (I.ok.hd hc) st (by have:n<=i:=hg; lia) fun h' eb=>⟨rfl,I.turned (t':=s.toks) (fun b o hb e=>eb b o hb e) f0 f1 f3 f4 f5⟩
  self:=fun _ _ _ _ _ st h=>wpAny_pyIter_rangeiter st h
section
variable {X:Cx} {tg:Expr}
def zbv (K:PySem.W.Frag) (tl:TE):TI:=fun σ H R=>tl σ H fun x H1=>∃ a,x=.ref a/\(∃ xs,SqL K H1 a xs)/\R (Itl K a) H1
def iTup (K:PySem.W.Frag) (tl:TE):TI:=fun σ H R=>tl σ H fun x H1=>∃ a,x=.ref a/\(∃ xs,SqT K H1 a xs)/\R (Itt K a) H1
theorem QW {l:Expr} {tl:TE} (hl:PE X l tl):PI X tg l (zbv X.K tl):=by
  intro pins s σ H R I h
  refine thn (hl pins s σ H _ I h) fun v s1 ⟨x,H1,I1,r1,q1⟩=>?_
  obtain ⟨a,e,⟨xs,hq⟩,q⟩:=q1
  subst e
  cases r1
  obtain ⟨its,rv,p,hz⟩:=I1.list hq
  refine wpAny_pyIter_list p.isList ?_
  refine ⟨s1.heap.objs.size,[s1.heap.objs.size],_,_,H1,rfl,I1.kept (t':=s1.toks) fun b o e=>Heap.get?_push_of_some _ e,WN a _,⟨_,Heap.get?_push_size _ rfl,rfl,rfl⟩,fun b hb=>?_,q⟩
  have e:b=s1.heap.objs.size:=by simpa using hb
  subst e
  exact I1.fpOk (Nat.le_refl _) (I1.hok.fresh (Nat.le_refl _))
theorem zb9 {l:Expr} {tl:TE} (hl:PE X l tl):PI X tg l (iTup X.K tl):=by
  intro pins s σ H R I h
  refine thn (hl pins s σ H _ I h) fun v s1 ⟨x,H1,I1,r1,q1⟩=>?_
  obtain ⟨a,e,⟨xs,hq⟩,q⟩:=q1
  subst e
  cases r1
  obtain ⟨its,rv,p,hz⟩:=I1.tuple hq
  refine wpAny_pyIter_tuple (show s1.heap.IsTuple a its.toArray from p) ?_
  refine ⟨s1.heap.objs.size,[s1.heap.objs.size],_,_,H1,rfl,I1.kept (t':=s1.toks) fun b o e=>Heap.get?_push_of_some _ e,YQ a _,⟨_,Heap.get?_push_size _ rfl,rfl,rfl⟩,fun b hb=>?_,q⟩
  have e:b=s1.heap.objs.size:=by simpa using hb
  subst e
  exact I1.fpOk (Nat.le_refl _) (I1.hok.fresh (Nat.le_refl _))
theorem VD {pins:List (Addr × Obj)} {σ:St} {H:Hp} {s:Shared} {R:It->Hp->Prop} {E:Value->Shared->Prop} {lo hi:Int} {t u v:Tok} {tk:Nat} (I:Inv X pins σ H s) (h1:-(2 ^ 62)<=lo) (h2:lo < 2 ^ 62) (h3:-(2 ^ 62)<=hi) (h4:hi < 2 ^ 62)
    (q:R (Itr lo (hi - lo).toNat) H):wpAny (model X.prog X.w) X.A (pyIter (.ref s.heap.objs.size)) (PIE X pins σ tg R) E { s with heap:=s.heap.push { cls:=.type "range",data:=.fields #[.int lo t,.int hi u,.int 1 v] },toks:=tk }:=by
  refine wpAny_pyIter_range (IsRange.new ..) (small_one h1 h2 h3 h4) ?_
  have I1:Inv X pins σ H { s with heap:=s.heap.push { cls:=.type "range",data:=.fields #[.int lo t,.int hi u,.int 1 v] },toks:=tk }:=I.kept fun b o e=>Heap.get?_push_of_some _ e
  refine ⟨(s.heap.push { cls:=.type "range",data:=.fields #[.int lo t,.int hi u,.int 1 v] }).objs.size,[(s.heap.push { cls:=.type "range",data:=.fields #[.int lo t,.int hi u,.int 1 v] }).objs.size],_,_,H,rfl,
    I1.kept (t':=tk) fun b o e=>Heap.get?_push_of_some _ e,YR _ lo (hi - lo).toNat,?_,fun b hb=>?_,q⟩
  · have e1:lo + ((0:Nat):Int) * 1=lo:=by simp
    have e2:(((hi - lo).toNat:Nat):Int) - ((0:Nat):Int)=Builtin.Range.rangeSize lo hi 1:=by rw [rangeSize_one]; split <;> lia
    show IsRangeIter _ _ (lo + ((0:Nat):Int) * 1) ((((hi - lo).toNat:Nat):Int) - ((0:Nat):Int)) 1
    rw [e1,e2]
    exact Heap.get?_push_size _ rfl
  · have e:b=(s.heap.push { cls:=.type "range",data:=.fields #[.int lo t,.int hi u,.int 1 v] }).objs.size:=by simpa using hb
    subst e
    exact I1.fpOk (Nat.le_refl _) (I1.hok.fresh (Nat.le_refl _))
def zbw (ta:TA):TI:=fun σ H R=>ta σ H fun vs H1=>∃ j:Int,vs=[.int j]/\-(2 ^ 62)<=j/\j < 2 ^ 62/\R (Itr 0 j.toNat) H1
theorem WO {a:Expr} {ta:TA} {p pos:Pos} (hg:Gl X "range") (hm:X.mg "range"=none) (ha:PA X [a] ta) (hs:starEach [a] X.env=[(false,eval a X.env)]:=by rfl):PI X tg (.Call (.Name "range" p) [a] [] pos) (zbw ta):=by
  intro pins s σ H R I h
  refine Call_ (xY I hg hm boot_range (PyProof.Rows.callWith_type1 (thn (ha pos pins s σ H _ I h) fun us s1 ⟨vs,H1,I1,r1,q1⟩=>?_) hs rfl))
  obtain ⟨j,e,q1,q2,q⟩:=q1
  subst e
  cases r1 with
  | cons r rr =>
    cases rr
    obtain ⟨t,rfl⟩:=r
    exact call_range_1 (VD I1 (by lia) (by lia) q1 q2 (by simpa using q))
def tFor (wi:TI) (g:TG) (tb:TS):TS:=fun D σ H=>wi σ H fun J H1=>∃ W:Nat->Nat->St->Hp->Prop,(∃ m,W 0 m σ H1)/\∀ i m σ H,W i m σ H ->
  (J.stop i H/\D.nx σ H)\/(J.go i H/\∃ N:St->Hp->Prop,(∀ σ' H',N σ' H'->∃ m',m' < m/\W (i + 1) m' σ' H')/\∀ x H',J.yld i H x H'->g x σ H' fun σ2 H2=>tb { D with nx:=N,ct:=N,bk:=D.nx } σ2 H2)
def vC (fp:List Addr) (h:Heap):List (Addr × Obj):=fp.filterMap fun b=>(h.get? b).map fun o=>(b,o)
theorem xZ {fp:List Addr} {h:Heap} {b:Addr} {o:Obj} (hb:b∈fp) (e:h.get? b=some o):(b,o)∈vC fp h:=List.mem_filterMap.mpr ⟨b,hb,by rw [e]; rfl⟩
theorem WP {fp:List Addr} {h:Heap} {p:Addr × Obj} (hp:p∈vC fp h):p.1∈fp/\h.get? p.1=some p.2:=by
  obtain ⟨b,hb,e⟩:=List.mem_filterMap.mp hp
  cases q:h.get? b with
  | none=>rw [q] at e; cases e
  | some o =>
    rw [q] at e
    have e':(b,o)=p:=Option.some.inj e
    subst e'
    exact ⟨hb,q⟩
theorem Inv.pinned {pins:List (Addr × Obj)} {σ:St} {H:Hp} {s:Shared} {fp:List Addr} (I:Inv X pins σ H s) (hf:∀ b∈fp,FpOk X pins H b) (ho:∀ b∈fp,∃ o,s.heap.get? b=some o/\∀ v,o.data≠.cell v):Inv X (pins ++ vC fp s.heap) σ H s :=
  I.pins_of fun p hp=>(List.mem_append.mp hp).elim (fun z=>I.pin p (List.mem_append_right _ z)) fun z=>by
    obtain ⟨hb,e⟩:=WP z
    obtain ⟨f0,f1,f2,_⟩:=hf p.1 hb
    obtain ⟨o,e',d⟩:=ho p.1 hb
    rw [e] at e'; cases e'
    exact ⟨e,f0,f1,f2,d⟩
theorem Inv.unpinned {pins pl:List (Addr × Obj)} {σ:St} {H:Hp} {s:Shared} (I:Inv X (pins ++ pl) σ H s):Inv X pins σ H s:=I.pins_of fun p hp=>I.pin p (List.mem_append_right _ (List.mem_append_left _ hp))
theorem zca {iter:Expr} {body:List Stmt} {wi:TI} {g:TG} {tb:TS} {pos:Pos} (hp:PassesOwn (model X.prog X.w) X.A X.env X.xe) (hc:X.calm=true) (hi:PI X tg iter wi) (hg:PG X tg g) (hb:PSs X body tb)
    (hs:∀ x,foldedSetIterable iter X.env x=pure x:=by intro _; rfl):PS X (.For tg iter body [] pos) (tFor wi g tb):=by
  intro pins s σ H D I h
  refine wpAny_For (thn (hi pins s σ H _ I h) fun v s1 h1=>thn h1 fun itv s2 h2=>?_) hs
  obtain ⟨it,fp,tn,J,H2,e,I2,T,st2,f2,W,⟨m0,w0⟩,turn⟩:=h2
  subst e
  have stat:∀ {H':Hp},(∀ b∈fp,H' b=none)->∀ b∈fp,FpOk X pins H' b:=fun hn b hb=>⟨hn b hb,(f2 b hb).2⟩
  refine codeAny_forLoop_any (fun n s'=>∃ i σ' H',Inv X pins σ' H' s'/\tn i s'.heap/\(∀ b∈fp,H' b=none)/\W i n σ' H') ?_ m0 ⟨0,σ,H2,I2,st2,fun b hb=>(f2 b hb).1,w0⟩
  rintro n s3 ⟨i,σ3,H3,I3,st3,fr3,w3⟩
  rcases turn i n σ3 H3 w3 with ⟨stop,qn⟩ | ⟨go,N,hN,step⟩
  · refine wpAny_passesOwn hp (thn (T.done X rfl rfl rfl hc i pins s3 σ3 H3 X.xe I3 (stat fr3) st3 stop) fun r s4 ⟨hr,I4⟩=>?_)
    subst hr
    exact wpAny_execs_nil ⟨σ3,H3,I4,qn⟩
  · refine wpAny_passesOwn hp (thn (T.item X rfl rfl rfl hc i pins s3 σ3 H3 X.xe I3 (stat fr3) st3 go) fun r s4 ⟨u,hr,h4⟩=>?_)
    subst hr
    refine wpAny_passesOwn hp (thn h4 fun _ s5 ⟨x,H5,I5,r5,y5,st5,fr5⟩=>?_)
    have I5':=I5.pinned (stat fr5) (T.obj _ _ st5)
    refine wpAny_passesOwn hp (thn (hg _ s5 σ3 H5 x u _ I5' r5 (step x H5 y5)) fun _ s6 ⟨σ6,H6,I6,q6⟩=>?_)
    refine wpAny_passesOwn hp (thn (hb _ s6 σ6 H6 _ I6 q6) fun f s7 q7=>?_)
    have again:∀ {σ7:St} {H7:Hp},Inv X (pins ++ vC fp s5.heap) σ7 H7 s7->N σ7 H7->∃ m,m < n/\∃ i σ' H',Inv X pins σ' H' s7/\tn i s7.heap/\(∀ b∈fp,H' b=none)/\W i m σ' H':=fun {σ7 H7} I7 n7=>by
      obtain ⟨m',hm,w7⟩:=hN σ7 H7 n7
      refine ⟨m',hm,i + 1,σ7,H7,I7.unpinned,T.keep _ _ _ st5 fun b hb o e=>(I7.pin (b,o) (List.mem_append_right _ (List.mem_append_right _ (xZ hb e)))).1,fun b hb=>?_,w7⟩
      obtain ⟨o,e,d⟩:=T.obj _ _ st5 b hb
      exact (I7.pin (b,o) (List.mem_append_right _ (List.mem_append_right _ (xZ hb e)))).2.1
    cases f with
    | next=>obtain ⟨σ7,H7,I7,n7⟩:=q7; exact again I7 n7
    | cont=>obtain ⟨σ7,H7,I7,n7⟩:=q7; exact again I7 n7
    | brk=>obtain ⟨σ7,H7,I7,q7⟩:=q7; exact ⟨σ7,H7,I7.unpinned,q7⟩
    | ret v=>obtain ⟨x7,σ7,H7,I7,r7,q7⟩:=q7; exact ⟨x7,σ7,H7,I7.unpinned,r7,q7⟩
end
theorem vD {K:PySem.W.Frag} {a:Addr} {xs:List V} {g:TG} {tb:TS} {D:Ends} {σ:St} {H:Hp} (Pv:Nat->St->Hp->Prop) (h0:Pv 0 σ H) (hl:∀ i σ H,i<=xs.length->Pv i σ H->SqL K H a xs)
    (hs:∀ i x σ H,xs[i]?=some x->Pv i σ H->g x σ H fun σ2 H2=>tb { D with nx:=Pv (i + 1),ct:=Pv (i + 1),bk:=D.nx } σ2 H2) (hd:∀ σ H,Pv xs.length σ H->D.nx σ H) :
    ∃ W:Nat->Nat->St->Hp->Prop,(∃ m,W 0 m σ H)/\∀ i m σ H,W i m σ H ->
      ((Itl K a).stop i H/\D.nx σ H)\/((Itl K a).go i H/\∃ N:St->Hp->Prop,(∀ σ' H',N σ' H'->∃ m',m' < m/\W (i + 1) m' σ' H')/\∀ x H',(Itl K a).yld i H x H'->g x σ H' fun σ2 H2=>tb { D with nx:=N,ct:=N,bk:=D.nx } σ2 H2):=by
  refine ⟨fun i m σ H=>m=xs.length - i/\i<=xs.length/\Pv i σ H,⟨xs.length,by simp,Nat.zero_le _,h0⟩,?_⟩
  rintro i m σ H ⟨rfl,hi,p⟩
  have q:=hl i σ H hi p
  by_cases hlt:i < xs.length
  · refine .inr ⟨⟨xs,xs[i],q,by simp [hlt]⟩,Pv (i + 1),fun σ' H' p'=>⟨xs.length - (i + 1),by lia,rfl,hlt,p'⟩,fun x H' y=>?_⟩
    obtain ⟨e,y⟩:=y
    subst e
    exact hs i x σ _ (y xs q) p
  · have e:i=xs.length:=by lia
    subst e
    exact .inl ⟨⟨xs,q,Nat.le_refl _⟩,hd σ H p⟩
theorem XM {K:PySem.W.Frag} {a:Addr} {xs:List V} {g:TG} {tb:TS} {D:Ends} {σ:St} {H:Hp} (Pv:Nat->St->Hp->Prop) (h0:Pv 0 σ H) (hl:∀ i σ H,i<=xs.length->Pv i σ H->SqT K H a xs)
    (hs:∀ i x σ H,xs[i]?=some x->Pv i σ H->g x σ H fun σ2 H2=>tb { D with nx:=Pv (i + 1),ct:=Pv (i + 1),bk:=D.nx } σ2 H2) (hd:∀ σ H,Pv xs.length σ H->D.nx σ H) :
    ∃ W:Nat->Nat->St->Hp->Prop,(∃ m,W 0 m σ H)/\∀ i m σ H,W i m σ H ->
      ((Itt K a).stop i H/\D.nx σ H)\/((Itt K a).go i H/\∃ N:St->Hp->Prop,(∀ σ' H',N σ' H'->∃ m',m' < m/\W (i + 1) m' σ' H')/\∀ x H',(Itt K a).yld i H x H'->g x σ H' fun σ2 H2=>tb { D with nx:=N,ct:=N,bk:=D.nx } σ2 H2):=by
  refine ⟨fun i m σ H=>m=xs.length - i/\i<=xs.length/\Pv i σ H,⟨xs.length,by simp,Nat.zero_le _,h0⟩,?_⟩
  rintro i m σ H ⟨rfl,hi,p⟩
  have q:=hl i σ H hi p
  by_cases hlt:i < xs.length
  · refine .inr ⟨⟨xs,xs[i],q,by simp [hlt]⟩,Pv (i + 1),fun σ' H' p'=>⟨xs.length - (i + 1),by lia,rfl,hlt,p'⟩,fun x H' y=>?_⟩
    obtain ⟨e,y⟩:=y
    subst e
    exact hs i x σ _ (y xs q) p
  · have e:i=xs.length:=by lia
    subst e
    exact .inl ⟨⟨xs,q,Nat.le_refl _⟩,hd σ H p⟩
theorem wG {lo:Int} {n:Nat} {g:TG} {tb:TS} {D:Ends} {σ:St} {H:Hp} (Pv:Nat->St->Hp->Prop) (h0:Pv 0 σ H)
    (hs:∀ i σ H,i < n->Pv i σ H->g (.int (lo + i)) σ H fun σ2 H2=>tb { D with nx:=Pv (i + 1),ct:=Pv (i + 1),bk:=D.nx } σ2 H2) (hd:∀ σ H,Pv n σ H->D.nx σ H) :
    ∃ W:Nat->Nat->St->Hp->Prop,(∃ m,W 0 m σ H)/\∀ i m σ H,W i m σ H ->
      ((Itr lo n).stop i H/\D.nx σ H)\/((Itr lo n).go i H/\∃ N:St->Hp->Prop,(∀ σ' H',N σ' H'->∃ m',m' < m/\W (i + 1) m' σ' H')/\∀ x H',(Itr lo n).yld i H x H'->g x σ H' fun σ2 H2=>tb { D with nx:=N,ct:=N,bk:=D.nx } σ2 H2):=by
  refine ⟨fun i m σ H=>m=n - i/\i<=n/\Pv i σ H,⟨n,by simp,Nat.zero_le _,h0⟩,?_⟩
  rintro i m σ H ⟨rfl,hi,p⟩
  by_cases hlt:i < n
  · refine .inr ⟨hlt,Pv (i + 1),fun σ' H' p'=>⟨n - (i + 1),by lia,rfl,hlt,p'⟩,fun x H' y=>?_⟩
    obtain ⟨e,y⟩:=y
    subst e y
    exact hs i σ _ hlt p
  · have e:i=n:=by lia
    subst e
    exact .inl ⟨Nat.le_refl _,hd σ H p⟩
abbrev R2:=V->V->Hp->VK->Prop
def OpR (X:Cx) (f:Value->Value->Sem Value) (r:R2):Prop :=
  ∀ (pins:List (Addr × Obj)) (s:Shared) (σ:St) (H:Hp) (x y:V) (v u:Value) (Q:VK),Inv X pins σ H s->RelV x v->RelV y u->r x y H Q ->
    wpAny (model X.prog X.w) X.A (f v u) (EP X pins σ Q) X.xe s
def UnR (X:Cx) (f:Value->Sem Value) (r:V->Hp->VK->Prop):Prop :=
  ∀ (pins:List (Addr × Obj)) (s:Shared) (σ:St) (H:Hp) (x:V) (v:Value) (Q:VK),Inv X pins σ H s->RelV x v->r x H Q ->
    wpAny (model X.prog X.w) X.A (f v) (EP X pins σ Q) X.xe s
def yM (X:Cx) (f:Value) (r:List V->Hp->VK->Prop):Prop :=
  ∀ (pins:List (Addr × Obj)) (s:Shared) (σ:St) (H:Hp) (xs:List V) (us:List Value) (Q:VK),Inv X pins σ H s->Vals xs us->r xs H Q ->
    wpAny (model X.prog X.w) X.A (call f us) (EP X pins σ Q) X.xe s
def tOp (r:R2) (ta tb:TE):TE:=fun σ H Q=>ta σ H fun x H1=>tb σ H1 fun y H2=>r x y H2 Q
def tUn (r:V->Hp->VK->Prop) (ta:TE):TE:=fun σ H Q=>ta σ H fun x H1=>r x H1 Q
def rI (C:Int->Int->Prop) (g:Int->Int->V):R2:=fun x y H Q=>∃ i j,x=.int i/\y=.int j/\C i j/\Q (g i j) H
def rI0 (g:Int->Int->V):R2:=fun x y H Q=>∃ i j,x=.int i/\y=.int j/\Q (g i j) H
def rU (g:Int->V):V->Hp->VK->Prop:=fun x H Q=>∃ i,x=.int i/\Q (g i) H
section
variable {X:Cx} {a b c:Expr} {ta tb tc:TE} {pos:Pos}
theorem binT (ha:PE X a ta) (hb:PE X b tb) {pins:List (Addr × Obj)} {s:Shared} {σ:St} {H:Hp} {R:V->V->Hp->Prop} (I:Inv X pins σ H s)
    (h:ta σ H fun x H1=>tb σ H1 fun y H2=>R x y H2) {Q:Value->Shared->Prop} {f:Value->Value->Sem Value}
    (hf:∀ v u s2 x y H2,Inv X pins σ H2 s2->RelV x v->RelV y u->R x y H2->wpAny (model X.prog X.w) X.A (f v u) Q X.xe s2) :
    wpAny (model X.prog X.w) X.A (eval a X.env) (fun v s₁=>wpAny (model X.prog X.w) X.A (eval b X.env) (fun u s₂=>wpAny (model X.prog X.w) X.A (f v u) Q X.xe s₂) X.xe s₁) X.xe s:=by
  refine thn (ha pins s σ H _ I h) fun v s1 ⟨x,H1,I1,r1,q1⟩=>?_
  refine thn (hb pins s1 σ H1 _ I1 q1) fun u s2 ⟨y,H2,I2,r2,q2⟩=>?_
  exact hf v u s2 x y H2 I2 r1 r2 q2
theorem zdc {op:Operator} {r:R2} (ho:OpR X (binaryOp op) r) (ha:PE X a ta) (hb:PE X b tb):PE X (.BinOp a op b pos) (tOp r ta tb):=by
  intro pins s σ H Q I h
  exact wpAny_BinOp (binT ha hb I h fun v u s2 x y H2 I2 rx ry q=>ho pins s2 σ H2 x y v u Q I2 rx ry q)
theorem zdd {op:UnaryOp} {r:V->Hp->VK->Prop} (ho:UnR X (unaryOp op) r) (ha:PE X a ta):PE X (.UnaryOp op a pos) (tUn r ta):=by
  intro pins s σ H Q I h
  exact UnaryOp_ (thn (ha pins s σ H _ I h) fun v s1 ⟨x,H1,I1,r1,q1⟩=>ho pins s1 σ H1 x v Q I1 r1 q1)
theorem opI {f:Value->Value->Sem Value} {C:Int->Int->Prop} {g:Int->Int->Int}
    (rule:∀ (i j:Int) (t u:Tok) (s:Shared) (Q:Value->Shared->Prop) (E:Value->Shared->Prop),C i j->Q (.int (g i j) s.toks) { s with toks:=s.toks + 1 }->wpAny (model X.prog X.w) X.A (f (.int i t) (.int j u)) Q E s) :
    OpR X f (rI C fun i j=>.int (g i j)):=by
  intro pins s σ H x y v u Q I rx ry h
  obtain ⟨i,j,rfl,rfl,hc,q⟩:=h
  obtain ⟨t,rfl⟩:=rx
  obtain ⟨t',rfl⟩:=ry
  exact rule i j t t' s _ _ hc ⟨.int (g i j),H,I.tok _,⟨_,rfl⟩,q⟩
theorem opI0 {f:Value->Value->Sem Value} {g:Int->Int->Int}
    (rule:∀ (i j:Int) (t u:Tok) (s:Shared) (Q:Value->Shared->Prop) (E:Value->Shared->Prop),Q (.int (g i j) s.toks) { s with toks:=s.toks + 1 }->wpAny (model X.prog X.w) X.A (f (.int i t) (.int j u)) Q E s) :
    OpR X f (rI0 fun i j=>.int (g i j)):=by
  intro pins s σ H x y v u Q I rx ry h
  obtain ⟨i,j,rfl,rfl,q⟩:=h
  obtain ⟨t,rfl⟩:=rx
  obtain ⟨t',rfl⟩:=ry
  exact rule i j t t' s _ _ ⟨.int (g i j),H,I.tok _,⟨_,rfl⟩,q⟩
theorem opB0 {f:Value->Value->Sem Value} {g:Int->Int->Bool}
    (rule:∀ (i j:Int) (t u:Tok) (s:Shared) (Q:Value->Shared->Prop) (E:Value->Shared->Prop),Q (.bool (g i j)) s->wpAny (model X.prog X.w) X.A (f (.int i t) (.int j u)) Q E s) :
    OpR X f (rI0 fun i j=>.bl (g i j)):=by
  intro pins s σ H x y v u Q I rx ry h
  obtain ⟨i,j,rfl,rfl,q⟩:=h
  obtain ⟨t,rfl⟩:=rx
  obtain ⟨t',rfl⟩:=ry
  exact rule i j t t' s _ _ ⟨.bl (g i j),H,I,rfl,q⟩
def CDiv (i j:Int):Prop:=0 < j/\j < 1073741824
def CPow (i j:Int):Prop:=0<=j/\j<=1000000/\i.natAbs < 2 ^ 64
def CMul (i j:Int):Prop:=(-(2 ^ 64) < i/\i < 2 ^ 64)\/(-(2 ^ 64) < j/\j < 2 ^ 64)
theorem CMul.ok {i j:Int} (h:CMul i j):IntMulOk i j:=by
  rcases h with ⟨h1,h2⟩ | ⟨h1,h2⟩
  · exact .of_left (intBits_le_64 h1 h2)
  · exact .of_right (intBits_le_64 h1 h2)
theorem zcb:OpR X (binaryOp .Add) (rI0 fun i j=>.int (i + j)):=opI0 fun _ _ _ _ _ _ _ q=>add_int q
theorem zcc:OpR X (binaryOp .Sub) (rI0 fun i j=>.int (i - j)):=opI0 fun _ _ _ _ _ _ _ q=>sub_int q
theorem zcd:OpR X (binaryOp .Mult) (rI CMul fun i j=>.int (i * j)):=opI fun _ _ _ _ _ _ _ hc q=>mul_int q hc.ok
theorem QX:OpR X (binaryOp .FloorDiv) (rI CDiv fun i j=>.int (i / j)):=opI fun i j _ _ _ _ _ hc q=>by
  have h1:(0:Int) < j:=hc.1
  have h2:j < 1073741824:=hc.2
  exact floordiv_int (by lia) (by rw [Int.fdiv_eq_ediv_of_nonneg i (by lia)]; exact q) (.inl (PyProof.noPylong_small (by lia)))
theorem zce:OpR X (binaryOp .Mod) (rI (fun _ j=>0 < j) fun i j=>.int (i % j)):=opI fun i j _ _ _ _ _ hc q=>by
  have h1:(0:Int) < j:=hc
  exact mod_int' (by lia) (by rw [Int.fmod_eq_emod_of_nonneg i (by lia)]; exact q)
theorem zcf:OpR X (binaryOp .Pow) (rI CPow fun i j=>.int (i ^ j.toNat)):=opI fun _ _ _ _ _ _ _ hc q=>pow_int_small hc.1 hc.2.1 hc.2.2 q
theorem unI {f:Value->Sem Value} {g:Int->Int}
    (rule:∀ (i:Int) (t:Tok) (s:Shared) (Q:Value->Shared->Prop) (E:Value->Shared->Prop),Q (.int (g i) s.toks) { s with toks:=s.toks + 1 }->wpAny (model X.prog X.w) X.A (f (.int i t)) Q E s) :
    UnR X f (rU fun i=>.int (g i)):=by
  intro pins s σ H x v Q I rx h
  obtain ⟨i,rfl,q⟩:=h
  obtain ⟨t,rfl⟩:=rx
  exact rule i t s _ _ ⟨.int (g i),H,I.tok _,⟨_,rfl⟩,q⟩
theorem zcg:UnR X (unaryOp .USub) (rU fun i=>.int (-i)):=unI fun _ _ _ _ _ q=>neg_int q
def scal:V->V->Bool
  | .non,.non=>true | .non,.int _=>true | .int _,.non=>true | .non,.bl _=>true | .bl _,.non=>true | .non,.str _=>true | .str _,.non=>true
  | .int _,.int _=>true | .bl _,.bl _=>true | .str _,.str _=>true | .byt _,.byt _=>true
  | .int _,.str _=>true | .str _,.int _=>true | .bl _,.str _=>true | .str _,.bl _=>true
  | _,_=>false
def rEq:R2:=fun x y H Q=>scal x y=true/\Q (.bl (decide (x=y))) H
def rNe:R2:=fun x y H Q=>scal x y=true/\Q (.bl (!decide (x=y))) H
theorem XN {i j:Int}:decide (V.int i=V.int j)=(i == j):=by
  rw [Bool.eq_iff_iff]
  simp
theorem VE {i j:Bool}:decide (V.bl i=V.bl j)=(i == j):=by
  rw [Bool.eq_iff_iff]
  simp
theorem XQ {i j:Str}:decide (V.str i=V.str j)=(i == j):=by
  rw [Bool.eq_iff_iff]
  simp
theorem XR {i j:Array UInt8}:decide (V.byt i=V.byt j)=(i.toList == j.toList):=by
  rw [Bool.eq_iff_iff]
  cases i
  cases j
  simp
theorem zP {pins:List (Addr × Obj)} {σ:St} {H:Hp} {s:Shared} {Q:VK} {k k':Bool} (I:Inv X pins σ H s) (q:Q (.bl k) H) (e:k=k'):EP X pins σ Q (.bool k') s:=by
  subst e
  exact ⟨.bl k,H,I,rfl,q⟩
theorem zde:OpR X (compareOp .Eq) rEq:=by
  intro pins s σ H x y v u Q I rx ry h
  obtain ⟨hs,q⟩:=h
  cases x with
  | non =>
    cases rx
    cases y with
    | non=>cases ry; exact PySem.EqNone.eq_none_none (zP I q (by simp))
    | bl j=>cases ry; exact PySem.EqNone.eq_none_bool (zP I q (by simp))
    | int j=>obtain ⟨t',rfl⟩:=ry; exact PySem.EqNone.eq_none_int (zP I q (by simp))
    | str j=>obtain ⟨t',rfl⟩:=ry; exact PySem.EqNone.eq_none_str (zP I q (by simp))
    | _=>exact absurd (show false=true from hs) Bool.false_ne_true
  | bl i =>
    cases rx
    cases y with
    | non=>cases ry; exact PySem.EqNone.eq_bool_none (zP I q (by simp))
    | bl j=>cases ry; exact eq_bool (zP I q VE)
    | str j=>obtain ⟨t',rfl⟩:=ry; exact PySem.EqMixed.eq_bool_str (zP I q (by simp))
    | _=>exact absurd (show false=true from hs) Bool.false_ne_true
  | int i =>
    obtain ⟨t,rfl⟩:=rx
    cases y with
    | non=>cases ry; exact PySem.EqNone.eq_int_none (zP I q (by simp))
    | int j=>obtain ⟨t',rfl⟩:=ry; exact eq_int (zP I q XN)
    | str j=>obtain ⟨t',rfl⟩:=ry; exact PySem.EqMixed.eq_int_str (zP I q (by simp))
    | _=>exact absurd (show false=true from hs) Bool.false_ne_true
  | str i =>
    obtain ⟨t,rfl⟩:=rx
    cases y with
    | non=>cases ry; exact PySem.EqNone.eq_str_none (zP I q (by simp))
    | bl j=>cases ry; exact PySem.EqMixed.eq_str_bool (zP I q (by simp))
    | int j=>obtain ⟨t',rfl⟩:=ry; exact PySem.EqMixed.eq_str_int (zP I q (by simp))
    | str j=>obtain ⟨t',rfl⟩:=ry; exact eq_str (zP I q XQ)
    | _=>exact absurd (show false=true from hs) Bool.false_ne_true
  | byt i =>
    obtain ⟨t,rfl⟩:=rx
    cases y with
    | byt j=>obtain ⟨t',rfl⟩:=ry; exact PySem.W.eq_bytes (zP I q XR)
    | _=>exact absurd (show false=true from hs) Bool.false_ne_true
  | _=>cases y <;> exact absurd (show false=true from hs) Bool.false_ne_true
theorem zdf:OpR X (compareOp .NotEq) rNe:=by
  intro pins s σ H x y v u Q I rx ry h
  obtain ⟨hs,q⟩:=h
  cases x with
  | non =>
    cases rx
    cases y with
    | non=>cases ry; exact PySem.EqNone.ne_none_none (zP I q (by simp))
    | bl j=>cases ry; exact PySem.EqNone.ne_none_bool (zP I q (by simp))
    | int j=>obtain ⟨t',rfl⟩:=ry; exact PySem.EqNone.ne_none_int (zP I q (by simp))
    | str j=>obtain ⟨t',rfl⟩:=ry; exact PySem.EqNone.ne_none_str (zP I q (by simp))
    | _=>exact absurd (show false=true from hs) Bool.false_ne_true
  | bl i =>
    cases rx
    cases y with
    | non=>cases ry; exact PySem.EqNone.ne_bool_none (zP I q (by simp))
    | bl j=>cases ry; exact ne_bool (zP I q (congrArg not VE))
    | str j=>obtain ⟨t',rfl⟩:=ry; exact PySem.EqMixed.ne_bool_str (zP I q (by simp))
    | _=>exact absurd (show false=true from hs) Bool.false_ne_true
  | int i =>
    obtain ⟨t,rfl⟩:=rx
    cases y with
    | non=>cases ry; exact PySem.EqNone.ne_int_none (zP I q (by simp))
    | int j=>obtain ⟨t',rfl⟩:=ry; exact ne_int (zP I q (congrArg not XN))
    | str j=>obtain ⟨t',rfl⟩:=ry; exact PySem.EqMixed.ne_int_str (zP I q (by simp))
    | _=>exact absurd (show false=true from hs) Bool.false_ne_true
  | str i =>
    obtain ⟨t,rfl⟩:=rx
    cases y with
    | non=>cases ry; exact PySem.EqNone.ne_str_none (zP I q (by simp))
    | bl j=>cases ry; exact PySem.EqMixed.ne_str_bool (zP I q (by simp))
    | int j=>obtain ⟨t',rfl⟩:=ry; exact PySem.EqMixed.ne_str_int (zP I q (by simp))
    | str j=>obtain ⟨t',rfl⟩:=ry; exact ne_str (zP I q (congrArg not XQ))
    | _=>exact absurd (show false=true from hs) Bool.false_ne_true
  | byt i =>
    obtain ⟨t,rfl⟩:=rx
    cases y with
    | byt j=>obtain ⟨t',rfl⟩:=ry; exact PySem.W.ne_bytes (zP I q (congrArg not XR))
    | _=>exact absurd (show false=true from hs) Bool.false_ne_true
  | _=>cases y <;> exact absurd (show false=true from hs) Bool.false_ne_true
theorem zdg:OpR X (compareOp .Lt) (rI0 fun i j=>.bl (decide (i < j))):=opB0 fun _ _ _ _ _ _ _ q=>lt_int q
theorem zdh:OpR X (compareOp .LtE) (rI0 fun i j=>.bl (decide (i<=j))):=opB0 fun _ _ _ _ _ _ _ q=>le_int q
theorem zdi:OpR X (compareOp .Gt) (rI0 fun i j=>.bl (decide (j < i))):=opB0 fun _ _ _ _ _ _ _ q=>gt_int q
theorem WQ:OpR X (compareOp .In) (fun x y H Q=>∃ i j,x=.str i/\y=.str j/\Q (.bl (!(Builtin.Str.occurrences j i 0 j.length 1).isEmpty)) H):=by
  intro pins s σ H x y v u Q I rx ry h
  obtain ⟨i,j,rfl,rfl,q⟩:=h
  obtain ⟨t,rfl⟩:=rx
  obtain ⟨t',rfl⟩:=ry
  exact in_str (zP I q rfl)
theorem y0 (b:Expr) {op:CmpOp} (h:op≠.In:=by decide) (h2:op≠.NotIn:=by decide):behindInMarks op b=false:=by
  have e1:(op == CmpOp.In)=false:=by cases op <;> first | rfl | exact absurd rfl h
  have e2:(op == CmpOp.NotIn)=false:=by cases op <;> first | rfl | exact absurd rfl h2
  cases b <;> simp [behindInMarks,e1,e2]
theorem QY {op:CmpOp} {r:R2} (ho:OpR X (compareOp op) r) (ha:PE X a ta) (hb:PE X b tb) (hm:behindInMarks op b=false):PE X (.Compare a [op] [b] pos) (tOp r ta tb):=by
  intro pins s σ H Q I h
  exact wpAny_Compare1 (binT ha hb I h fun v u s2 x y H2 I2 rx ry q=>ho pins s2 σ H2 x y v u Q I2 rx ry q) hm
def Z7 (t:TE):TT:=fun σ H Q=>t σ H fun x H'=>∃ k,x=.bl k/\Q k H'
theorem QZ {op:CmpOp} {r:R2} (ho:OpR X (compareOp op) r) (ha:PE X a ta) (hb:PE X b tb) (hm:behindInMarks op b=false):PT X (.Compare a [op] [b] pos) (Z7 (tOp r ta tb)):=by
  intro pins s σ H Q I h
  refine wpAny_isTrue_Compare1 (thn (ha pins s σ H _ I h) fun v s1 ⟨x,H1,I1,r1,q1⟩=>thn (hb pins s1 σ H1 _ I1 q1) fun u s2 ⟨y,H2,I2,r2,q2⟩ =>
    thn (ho pins s2 σ H2 x y v u _ I2 r1 r2 q2) fun c s3 ⟨z,H3,I3,r3,k,e,q3⟩=>?_) hm
  subst e
  cases r3
  exact wpAny_truthy_bool ⟨H3,I3,q3⟩
def Zq (r r':R2) (ta tb tc:TE):TE:=fun σ H Q=>ta σ H fun x H1=>tb σ H1 fun y H2=>r x y H2 fun z H3=>∃ k,z=.bl k /\
  (if k=true then tc σ H3 fun w' H4=>r' y w' H4 Q else Q (.bl false) H3)
theorem VF {op op':CmpOp} {r r':R2} (ho:OpR X (compareOp op) r) (ho':OpR X (compareOp op') r') (ha:PE X a ta) (hb:PE X b tb) (hc:PE X c tc)
    (hm:lastMarks [op,op'] [b,c]=false:=by with_unfolding_all rfl):PE X (.Compare a [op,op'] [b,c] pos) (Zq r r' ta tb tc):=by
  intro pins s σ H Q I h
  refine Compare_chain (thn (ha pins s σ H _ I h) fun v s1 ⟨x,H1,I1,r1,q1⟩=>chain_link (thn (hb pins s1 σ H1 _ I1 q1) fun u s2 ⟨y,H2,I2,r2,q2⟩ =>
    thn (ho pins s2 σ H2 x y v u _ I2 r1 r2 q2) fun d s3 ⟨z,H3,I3,r3,k,e,q3⟩=>?_)) hm
  subst e
  cases r3
  refine wpAny_truthy_bool ?_
  cases k with
  | false=>exact ite_ff ⟨.bl false,H3,I3,rfl,q3⟩
  | true=>exact ite_tt (chain_last (thn (hc pins s3 σ H3 _ I3 q3) fun w' s4 ⟨z',H4,I4,r4,q4⟩=>ho' pins s4 σ H4 y z' u w' Q I4 r2 r4 q4))
theorem VG {op op':CmpOp} {r r':R2} (ho:OpR X (compareOp op) r) (ho':OpR X (compareOp op') r') (ha:PE X a ta) (hb:PE X b tb) (hc:PE X c tc)
    (hm:lastMarks [op,op'] [b,c]=false:=by with_unfolding_all rfl):PT X (.Compare a [op,op'] [b,c] pos) (Z7 (Zq r r' ta tb tc)):=by
  intro pins s σ H Q I h
  refine isTrue_chain (thn (ha pins s σ H _ I h) fun v s1 ⟨x,H1,I1,r1,q1⟩=>test_link (thn (hb pins s1 σ H1 _ I1 q1) fun u s2 ⟨y,H2,I2,r2,q2⟩ =>
    thn (ho pins s2 σ H2 x y v u _ I2 r1 r2 q2) fun d s3 ⟨z,H3,I3,r3,k,e,q3⟩=>?_)) hm
  subst e
  cases r3
  refine wpAny_truthy_bool ?_
  cases k with
  | false =>
    obtain ⟨k',e',q'⟩:=q3
    cases e'
    exact ite_ff ⟨H3,I3,q'⟩
  | true =>
    refine ite_tt (test_last (thn (hc pins s3 σ H3 _ I3 q3) fun w' s4 ⟨z',H4,I4,r4,q4⟩=>thn (ho' pins s4 σ H4 y z' u w' _ I4 r2 r4 q4) fun d' s5 ⟨z2,H5,I5,r5,k2,e2,q5⟩=>?_))
    subst e2
    cases r5
    exact wpAny_truthy_bool ⟨H5,I5,q5⟩
theorem vE:(sizeLine:Nat) < 2 ^ 63:=by rw [sizeLine_eq]; decide
theorem YS:OpR X (binaryOp .Add) (fun x y H Q=>∃ i j,x=.str i/\y=.str j/\i.length + j.length<=sizeLine/\Q (.str (i ++ j)) H):=by
  intro pins s σ H x y v u Q I rx ry h
  obtain ⟨i,j,rfl,rfl,hz,q⟩:=h
  obtain ⟨t,rfl⟩:=rx
  obtain ⟨t',rfl⟩:=ry
  exact add_str (fun t' tk=>⟨.str (i ++ j),H,I.tok _,⟨_,rfl⟩,q⟩) hz
theorem xR {x:V} {us:List Value} (r:Vals [x] us):∃ u,us=[u]/\RelV x u:=by
  cases r with
  | cons r1 r2=>cases r2; exact ⟨_,rfl,r1⟩
theorem VH {x y:V} {us:List Value} (r:Vals [x,y] us):∃ u w',us=[u,w']/\RelV x u/\RelV y w':=by
  cases r with
  | cons r1 r2 =>
    cases r2 with
    | cons r3 r4=>cases r4; exact ⟨_,_,rfl,r1,r3⟩
theorem WR (hc:X.calm=true):yM X (.builtin "min") (fun xs H Q=>∃ i j,xs=[.int i,.int j]/\Q (.int (if j < i then j else i)) H):=by
  intro pins s σ H xs us Q I r h
  obtain ⟨i,j,rfl,q⟩:=h
  obtain ⟨u,w',rfl,⟨t,rfl⟩,⟨t',rfl⟩⟩:=VH r
  refine min_two_ints (I.ok.hd hc) fun h' tk k=>⟨_,H,I.kept k,?_,q⟩
  by_cases hj:j < i
  · rw [if_pos hj,if_pos hj]; exact ⟨_,rfl⟩
  · rw [if_neg hj,if_neg hj]; exact ⟨_,rfl⟩
theorem Zr:yM X (.type "str") (fun xs H Q=>∃ i,xs=[.int i]/\i.natAbs.log2 < 1920/\Q (.str (toString i)) H):=by
  intro pins s σ H xs us Q I r h
  obtain ⟨i,rfl,hz,q⟩:=h
  obtain ⟨u,rfl,t,rfl⟩:=xR r
  exact PySem.P.str_of_int hz ⟨.str _,H,I.tok _,⟨_,rfl⟩,q⟩
end
structure ObjM (h:Heap) (x dx C:Addr) (mA:Str->Option Value):Prop where
  obj:h.get? x=some (PySem.W.instObj C dx)
  ns:h.Ns1 dx mA
  ne:dx≠x
theorem jH {h:Heap} {dx:Addr} {mA:Str->Option Value} (n:h.Ns1 dx mA):∃ od,h.get? dx=some od/\∀ name,PySem.W.lookIn name od=some (mA name):=by
  obtain ⟨o,es,ep,ho,hd,hk,_,hm⟩:=n
  refine ⟨o,ho,fun name=>?_⟩
  have e:=hm name
  unfold nsFind findBy at e
  rw [<- Array.find?_toList] at e
  unfold PySem.W.lookIn
  rw [hd]
  dsimp only
  split
  · rename_i y q
    rw [q] at e
    exact congrArg some e
  · rename_i q
    rw [q] at e
    have a:es.toList.any (·.refKey)=false:=by
      rw [List.any_eq_false]
      intro y hy
      obtain ⟨z,t,hkey⟩:=hk y (Array.mem_toList_iff.mp hy)
      simp [DictEntry.refKey,hkey]
    have a':¬ es.toList.any (·.refKey)=true:=by rw [a]; exact Bool.false_ne_true
    rw [if_neg a']
    exact congrArg some e
theorem ObjM.look {h:Heap} {x dx C:Addr} {mA:Str->Option Value} (I:ObjM h x dx C mA):∃ od,PySem.W.InstAt h x (PySem.W.instObj C dx) C (some od)/\∀ name,PySem.W.lookIn name od=some (mA name) :=
  let ⟨od,ho,hl⟩:=jH I.ns
  ⟨od,⟨I.obj,rfl,rfl,ho⟩,hl⟩
section
variable {prog:Program} {w:World} {A:Around} {E:Value->Shared->Prop} {s:Shared} {K:PySem.W.Frag} {x dx C f:Addr} {mA:Str->Option Value} {name:Str} {v:Value}
theorem Q0 {expr:Bool} {Q:Value->Shared->Prop} (X:K.In s.heap) (I:ObjM s.heap x dx C mA) (hg:PySem.W.plainGet K C name=true) (hh:PySem.W.hasDictIn K C=true)
    (ha:PySem.W.findIn K (.ref C) name=some none) (hv:mA name=some v) (hv':PySem.W.handedIn v=true) (h:Q v { s with toks:=s.toks + 1 }) :
    wpAny (model prog w) A (getAttr (.ref x) name expr) Q E s:=by
  obtain ⟨od,J,hl⟩:=I.look
  exact PySem.W.get_value X J (PySem.W.plainGet_of hg).1 (PySem.W.findObj_own hh ha rfl (by rw [hl,hv])) hv' h
theorem VI {pl:Sem Bool} {Q:Value × List Value->Shared->Prop} (X:K.In s.heap) (I:ObjM s.heap x dx C mA) (hg:PySem.W.plainGet K C name=true)
    (hf:PySem.W.findIn K (.ref C) name=some (some (.ref f))) (ht:PySem.W.isFn K (.ref f)=true) (hv:mA name=none) (h:Q (.ref f,[.ref x]) s) :
    wpAny (model prog w) A (getMethod (.ref x) name pl) Q E s:=by
  obtain ⟨od,J,hl⟩:=I.look
  exact PySem.W.method_fn X J (PySem.W.plainGet_of hg).1 (PySem.W.plainGet_of hg).2 hf (beq_iff_eq.mp ht) (by show (PySem.W.lookIn name od).map (·.isSome)=some false; rw [hl,hv]; rfl) h
theorem Q2 {ns:List Str} {Q:Unit->Shared->Prop} (X:K.In s.heap) (I:ObjM s.heap x dx C mA)
    (hs:PySem.W.findIn K (.ref C) "__setattr__"=some (some (.builtin "object.__setattr__"))) (hp:PySem.W.plainOver K C=true) (ht:PySem.W.takerIn K C name=some none) (hh:PySem.W.hasDictIn K C=true)
    (hw:PySem.Within mA ns) (hsz:ns.length<=sizeLine)
    (h:∀ h',ObjM h' x dx C (fun y=>if y=name then some v else mA y)->Heap.SameBut dx s.heap h'->Q () { s with heap:=h',toks:=s.toks + 2 }) :
    wpAny (model prog w) A (setAttr (.ref x) name v) Q E s:=by
  obtain ⟨od,J,hl⟩:=I.look
  refine PySem.W.set_plain X J hs (PySem.W.osa_open (s:={ s with toks:=s.toks + 1 }) (r:=none) X J hp ht fun b=>?_)
  obtain ⟨cd,hc,hd'⟩:=PySem.W.any_some hh
  have hx:s.heap.get? x=some ⟨.ref C,some dx,.plain,#[]⟩:=I.obj
  refine wpAny_bind (wpAny_pure (wpAny_bind (wpAny_bind (wpAny_loadPart hx (wpAny_bind (PySem.W.Looks.here (s:={ s with toks:=s.toks + 1 }) (PySem.W.looks_clsIn X hc) ?_))))))
  rw [hd']
  refine wpAny_pure (a:=some dx) (wpAny_bind (wpAny_pure (wpAny_bind ?_)))
  refine wpAny_nsSet1 (s:={ s with toks:=s.toks + 1 }) I.ns fun h' hn2 hs2=>?_
  obtain ⟨oD,esD,epD,hoD,hdD,hcD⟩:=hn2.count (PySem.Within.cons name v hw)
  refine wpAny_bind (wpAny_lookBehind hoD (by rw [hdD]; exact pastItsLine_dict (Nat.le_trans hcD (by rw [List.length_cons]; lia))) ?_)
  exact wpAny_pure (h _ ⟨(hs2.2 _ (Ne.symm I.ne)).trans I.obj,hn2,I.ne⟩ hs2)
theorem VJ {R:Result->Shared->Prop} {vs:List Value} {kw:List (Str × Value)} (X:K.In s.heap) (hm:PySem.W.makesIn K C=true)
    (hi:PySem.W.findIn K (.ref C) "__init__"=some (some (.ref f))) (hf:PySem.W.typeIn K (.ref f)=some (.type "function"))
    (h:codeAny (model prog w) (A.under (.builtin "type.__call__" ⟨.ref C :: vs,kw⟩)) (.call (.ref f) ⟨.ref (s.heap.objs.size + 1) :: vs,kw⟩) (PySem.W.InitBack (s.heap.objs.size + 1) R)
      { s with heap:=(s.heap.push PySem.W.emptyDict).push (PySem.W.instObj C s.heap.objs.size) }) :
    codeAny (model prog w) A (.call (.ref C) ⟨vs,kw⟩) R s:=by
  obtain ⟨hh,g,d,t,os⟩:=s
  exact PySem.W.make_core (PySem.W.makes_of X hm) (PySem.W.looks_findIn X hi) (fun self=>PySem.W.bind_fn X self hf) (.inl rfl) h
end
def putF (f:Str) (v:V):List (Str × V)->List (Str × V)
  | []=>[(f,v)]
  | (g,x) :: r=>if g=f then (g,v) :: r else (g,x) :: putF f v r
theorem w9 (f g:Str) (v:V):∀ fs:List (Str × V),(putF f v fs).lookup g=if g=f then some v else fs.lookup g
  | []=>by
    show List.lookup g [(f,v)]=_
    by_cases h:g=f
    · have hb:(g == f)=true:=beq_iff_eq.mpr h
      simp only [List.lookup,hb,if_pos h]
    · have hb:(g == f)=false:=beq_eq_false_iff_ne.mpr h
      simp only [List.lookup,hb,if_neg h]
  | (k,x) :: r=>by
    have ih:=w9 f g v r
    rw [show putF f v ((k,x) :: r)=(if k=f then (k,v) :: r else (k,x) :: putF f v r) from rfl]
    by_cases hk:k=f
    · rw [if_pos hk]
      by_cases h:g=k
      · have hb:(g == k)=true:=beq_iff_eq.mpr h
        simp only [List.lookup,hb,if_pos (h.trans hk)]
      · have hb:(g == k)=false:=beq_eq_false_iff_ne.mpr h
        simp only [List.lookup,hb,if_neg (fun e:g=f=>h (e.trans hk.symm))]
    · rw [if_neg hk]
      by_cases h:g=k
      · have hb:(g == k)=true:=beq_iff_eq.mpr h
        simp only [List.lookup,hb,if_neg (fun e:g=f=>hk (h.symm.trans e))]
      · have hb:(g == k)=false:=beq_eq_false_iff_ne.mpr h
        simp only [List.lookup,hb]
        exact ih
theorem wH (f:Str) (v:V):∀ fs:List (Str × V),f∈(putF f v fs).map (·.1)/\∀ g,g∈fs.map (·.1)->g∈(putF f v fs).map (·.1)
  | []=>⟨by simp [putF],fun g h=>by simp at h⟩
  | (k,x) :: r=>by
    obtain ⟨i1,i2⟩:=wH f v r
    rw [show putF f v ((k,x) :: r)=(if k=f then (k,v) :: r else (k,x) :: putF f v r) from rfl]
    by_cases hk:k=f
    · rw [if_pos hk]
      subst hk
      exact ⟨by simp,fun g h=>by simpa using h⟩
    · rw [if_neg hk]
      refine ⟨?_,fun g h=>?_⟩
      · rw [List.map_cons]
        exact List.mem_cons_of_mem _ i1
      · rw [List.map_cons] at h ⊢
        rcases List.mem_cons.mp h with e | e
        · exact List.mem_cons.mpr (.inl e)
        · exact List.mem_cons_of_mem _ (i2 g e)
theorem vc (f:Str) (v:V):∀ fs:List (Str × V),(putF f v fs).length<=fs.length + 1
  | []=>by simp [putF]
  | (k,x) :: r=>by
    have ih:=vc f v r
    rw [show putF f v ((k,x) :: r)=(if k=f then (k,v) :: r else (k,x) :: putF f v r) from rfl]
    by_cases hk:k=f
    · rw [if_pos hk,List.length_cons,List.length_cons]; lia
    · rw [if_neg hk,List.length_cons,List.length_cons]; lia
theorem RelO.some_of {v:V} {o:Option Value} (r:RelO (some v) o):∃ u,o=some u/\RelV v u:=by
  cases o with
  | none=>exact (show False from r).elim
  | some u=>exact ⟨u,rfl,r⟩
theorem RelO.none_of {o:Option Value} (r:RelO none o):o=none:=by
  cases o with
  | none=>rfl
  | some u=>exact (show False from r).elim
theorem jJ {v:V} {u:Value} (r:RelV v u):PySem.W.handedIn u=true:=by
  cases v with
  | non=>cases (show u=Value.none from r); rfl
  | bl b=>cases (show u=Value.bool b from r); rfl
  | int i=>obtain ⟨t,e⟩:=(show ∃ t,u=Value.int i t from r); cases e; rfl
  | str x=>obtain ⟨t,e⟩:=(show ∃ t,u=Value.str x t from r); cases e; rfl
  | byt b=>obtain ⟨t,e⟩:=(show ∃ t,u=Value.bytes b t from r); cases e; rfl
  | flt b=>obtain ⟨t,e⟩:=(show ∃ t,u=Value.float b t from r); cases e; rfl
  | ref a=>cases (show u=Value.ref a from r); rfl
  | ty n=>cases (show u=Value.type n from r); rfl
section
variable {P:Program} {w:World} {H H':Hp} {h h':Heap} {a C dx:Addr} {fs fs':List (Str × V)}
theorem vo (hok:HOk P w H h) (e:H a=some (.ins C dx fs)):∃ mA,ObjM h a dx C mA/\(∀ f,RelO (fs.lookup f) (mA f))/\PySem.Within mA (fs.map (·.1))/\fs.length<=1000/\H dx=some (.own a):=by
  obtain ⟨d,z,ne,ob,mA,n,r,q⟩:=(show ObjOk P w H h a (.ins C dx fs) from hok a _ e)
  exact ⟨mA,⟨ob,n,ne⟩,r,q,z,d⟩
end
structure Cls (K:PySem.W.Frag) (C:Addr):Prop where
  pg:PySem.W.plainGet K C Str.empty=true
  hd:PySem.W.hasDictIn K C=true
  po:PySem.W.plainOver K C=true
  sa:PySem.W.findIn K (.ref C) "__setattr__"=some (some (.builtin "object.__setattr__"))
theorem Cls.get {K:PySem.W.Frag} {C:Addr} (c:Cls K C) (f:Str):PySem.W.plainGet K C f=true:=c.pg
def NoAttr (K:PySem.W.Frag) (C:Addr) (f:Str):Prop:=PySem.W.findIn K (.ref C) f=some none
theorem NoAttr.taker {K:PySem.W.Frag} {C:Addr} {f:Str} (n:NoAttr K C f):PySem.W.takerIn K C f=some none:=by
  unfold PySem.W.takerIn
  rw [show PySem.W.findIn K (.ref C) f=some none from n]
  rfl
structure Meth (K:PySem.W.Frag) (C:Addr) (m:Str) (f:Addr):Prop where
  at_:PySem.W.findIn K (.ref C) m=some (some (.ref f))
  fn:PySem.W.isFn K (.ref f)=true
  kp:PySem.W.keepIn K (.ref f)=true
section
variable {X:Cx} {pins:List (Addr × Obj)} {σ:St} {H:Hp} {s:Shared} {a C dx:Addr} {fs:List (Str × V)} {f:Str} {v:V} {A:Around} {E:Value->Shared->Prop}
theorem YT {b:Bool} {Q:Value->Shared->Prop} (I:Inv X pins σ H s) (e:H a=some (.ins C dx fs)) (c:Cls X.K C) (n:NoAttr X.K C f) (l:fs.lookup f=some v)
    (h:∀ u s',Inv X pins σ H s'->RelV v u->Q u s'):wpAny (model X.prog X.w) A (getAttr (.ref a) f b) Q E s:=by
  obtain ⟨mA,O,r,_,_,_⟩:=vo I.hok e
  obtain ⟨u,hu,ru⟩:=RelO.some_of (v:=v) (o:=mA f) (by rw [<- l]; exact r f)
  exact Q0 I.kIn O (c.get f) c.hd n hu (jJ ru) (h u _ (I.tok _) ru)
theorem vF {m:Str} {g:Addr} {pl:Sem Bool} {Q:Value × List Value->Shared->Prop} (I:Inv X pins σ H s) (e:H a=some (.ins C dx fs)) (c:Cls X.K C) (k:Meth X.K C m g) (l:fs.lookup m=none)
    (h:Q (.ref g,[.ref a]) s):wpAny (model X.prog X.w) A (getMethod (.ref a) m pl) Q E s:=by
  obtain ⟨mA,O,r,_,_,_⟩:=vo I.hok e
  have hn:mA m=none:=RelO.none_of (by rw [<- l]; exact r m)
  exact VI I.kIn O (c.get m) k.at_ k.fn hn h
theorem YU {y:V} {u:Value} {Q:Unit->Shared->Prop} (I:Inv X pins σ H s) (e:H a=some (.ins C dx fs)) (c:Cls X.K C) (n:NoAttr X.K C f) (hl:fs.length < 1000) (ry:RelV y u)
    (h:∀ s',Inv X pins σ (upd H a (.ins C dx (putF f y fs))) s'->Q () s'):wpAny (model X.prog X.w) A (setAttr (.ref a) f u) Q E s:=by
  obtain ⟨mA,O,r,wi,_,ho⟩:=vo I.hok e
  have hz:(fs.map (·.1)).length<=sizeLine:=by rw [List.length_map,sizeLine_eq]; lia
  refine Q2 I.kIn O c.sa c.po n.taker c.hd wi hz fun h' O' sb=>h _ ?_
  have hd:∃ o,h'.get? dx=some o:=let ⟨o,_,_,e',_⟩:=O'.ns; ⟨o,e'⟩
  refine I.write (x:=a) (e:=dx) (by rw [e]; exact True.intro) (.inr ho) (fun b q hb z=>(sb.2 b hb).trans z) hd ?_
  refine ⟨by rw [zg O.ne]; exact ho,?_,O.ne,O'.obj,_,O'.ns,fun g=>?_,fun g hg=>?_⟩
  · have:=vc f y fs; lia
  · show RelO ((putF f y fs).lookup g) (if g=f then some u else mA g)
    rw [w9]
    by_cases q:g=f
    · rw [if_pos q,if_pos q]; exact ry
    · rw [if_neg q,if_neg q]; exact r g
  · by_cases q:g=f
    · rw [q]; exact (wH f y fs).1
    · refine (wH f y fs).2 g (wi g fun z=>hg ?_)
      show (if g=f then some u else mA g)=none
      rw [if_neg q]; exact z
theorem Inv.made (I:Inv X pins σ H s):Inv X pins σ (upd (upd H s.heap.objs.size (.own (s.heap.objs.size + 1))) (s.heap.objs.size + 1) (.ins C s.heap.objs.size []))
    { s with heap:=(s.heap.push PySem.W.emptyDict).push (PySem.W.instObj C s.heap.objs.size) }:=by
  have e1:(s.heap.push PySem.W.emptyDict).get? s.heap.objs.size=some PySem.W.emptyDict:=Heap.get?_push_size s.heap rfl
  have e2:((s.heap.push PySem.W.emptyDict).push (PySem.W.instObj C s.heap.objs.size)).get? (s.heap.objs.size + 1)=some (PySem.W.instObj C s.heap.objs.size):=by
    have:=Heap.get?_push_size (s.heap.push PySem.W.emptyDict) (o:=PySem.W.instObj C s.heap.objs.size) rfl
    rwa [Heap.size_push] at this
  have e3:(s.heap.push PySem.W.emptyDict).Ns s.heap.objs.size (fun _=>none):=⟨PySem.W.emptyDict,#[],_,e1,rfl,(fun e he=>absurd he (by simp)),fun _=>rfl⟩
  have I1:=I.laid (a:=s.heap.objs.size) (o:=.own (s.heap.objs.size + 1)) (h':=s.heap.push PySem.W.emptyDict) (t':=s.toks) (fun b u q=>Heap.get?_push_of_some _ q) (Nat.le_refl _) ⟨_,e1⟩
  refine I1.laid (a:=s.heap.objs.size + 1) (o:=.ins C s.heap.objs.size []) (t':=s.toks) (fun b u q=>Heap.get?_push_of_some _ q) (Nat.le_of_eq (Heap.size_push _ _)) ?_
  have ne:s.heap.objs.size≠s.heap.objs.size + 1:=Nat.ne_of_lt (Nat.lt_succ_self _)
  refine ⟨by rw [zg ne,za],Nat.zero_le _,ne,e2,fun _=>none,(Heap.Ns1.of_empty e3).at fun o q=>Heap.get?_push_of_some _ q,fun _=>True.intro,fun y hy=>absurd rfl hy⟩
theorem XS {prog:Program} {w:World} {env:Env} {e:Expr} {f:Str} {pos:Pos} {s:Shared} {Q:Value->Shared->Prop} (hb:attributeBase e f env (eval e env)=eval e env)
    (h:wpAny (model prog w) A (eval e env) (fun o s₁=>wpAny (model prog w) A (getAttr o f true) Q E s₁) E s):wpAny (model prog w) A (eval (.Attribute e f pos) env) Q E s :=
  Attribute_any_ h (by rw [arm_eval_Attribute,hb])
end
def tFld (K:PySem.W.Frag) (ta:TE) (f:Str):TE:=fun σ H Q=>ta σ H fun x H1=>∃ a C dx fs v,x=.ref a/\H1 a=some (.ins C dx fs)/\Cls K C/\NoAttr K C f/\fs.lookup f=some v/\Q v H1
def sFld (K:PySem.W.Frag) (ta tv:TE) (f:Str):TS:=fun D σ H=>tv σ H fun y H1=>ta σ H1 fun x H2=>∃ a C dx fs,x=.ref a/\H2 a=some (.ins C dx fs)/\Cls K C/\NoAttr K C f/\fs.length < 1000 /\
  D.nx σ (upd H2 a (.ins C dx (putF f y fs)))
section
variable {X:Cx} {o e value:Expr} {f:Str} {pos pos' tpos:Pos} {ta tv:TE}
theorem zch (he:PE X e ta) (hb:attributeBase e f X.env (eval e X.env)=eval e X.env):PE X (.Attribute e f pos) (tFld X.K ta f):=by
  intro pins s σ H Q I h
  refine XS hb (thn (he pins s σ H _ I h) fun u s1 ⟨x,H1,I1,rx,a,C,dx,fs,v,ex,ea,c,n,l,q⟩=>?_)
  subst ex
  obtain rfl:u=Value.ref a:=rx
  exact YT I1 ea c n l fun u' s2 I2 ru=>⟨v,H1,I2,ru,q⟩
theorem zci (ha:PE X o ta) (hv:PE X value tv) (hs:swapsWith value (some (.Attribute o f pos')) pos.line X.env=pure false):PS X (.Assign [.Attribute o f pos'] value pos) (sFld X.K ta tv f):=by
  intro pins s σ H D I h
  refine plainObj_wpAny_Assign_Attribute (thn (hv pins s σ H _ I h) fun u s1 ⟨y,H1,I1,ry,q⟩=>thn (ha pins s1 σ H1 _ I1 q) fun ov s2 ⟨x,H2,I2,rx,a,C,dx,fs,ex,ea,c,n,l,q2⟩=>?_) hs
  subst ex
  obtain rfl:ov=Value.ref a:=rx
  exact YU I2 ea c n l ry fun s3 I3=>⟨σ,_,I3,q2⟩
end
section
variable {X:Cx} {pins:List (Addr × Obj)} {σ:St} {H:Hp} {s:Shared} {A:Around} {E:Value->Shared->Prop} {Q:Value->Shared->Prop} {c:Value} {b:Bool}
inductive TyOf (K:PySem.W.Frag) (H:Hp):V->Value->Prop where
  | non:TyOf K H .non (.type "NoneType")
  | bl (x:Bool):TyOf K H (.bl x) (.type "bool")
  | int (i:Int):TyOf K H (.int i) (.type "int")
  | str (x:Str):TyOf K H (.str x) (.type "str")
  | flt (x:UInt64):TyOf K H (.flt x) (.type "float")
  | lst {a:Addr} {xs:List V} (e:H a=some (.lst xs)):TyOf K H (.ref a) (.type "list")
  | frz {a:Addr} {o:Obj} {xs:List V} (e:H a=some (.frz o (.lst xs))):TyOf K H (.ref a) (.type "list")
  | tup {a:Addr} {xs:List V} (e:H a=some (.tup xs)):TyOf K H (.ref a) (.type "tuple")
  | dK {a:Addr} {kvs:List (Key × V)} (e:H a=some (.dK kvs)):TyOf K H (.ref a) (.type "dict")
  | dT {a:Addr} {kvs:List (List Key × V)} (e:H a=some (.dT kvs)):TyOf K H (.ref a) (.type "dict")
  | ins {a C dx:Addr} {fs:List (Str × V)} (e:H a=some (.ins C dx fs)) (cl:Cls K C) (ha:PySem.W.findIn K (.ref C) "__class__"=some (some (.builtin "object.__class__")))
      (hn:PySem.W.specialIn K (.builtin "object.__class__") "__get__"=some (some (.builtin "getset_descriptor.__get__"))) (htk:PySem.W.takesIn K (.builtin "object.__class__")=some true)
      (hm:PySem.W.mroIn K C (.type "object")=some true):TyOf K H (.ref a) (.ref C)
theorem WS {x:V} {u t:Value} (I:Inv X pins σ H s) (rx:RelV x u) (ty:TyOf X.K H x t) (e:PySem.W.kitOne X.K t c=some b) (h:∀ tk,Q (.bool b) { s with toks:=tk }) :
    wpAny (model X.prog X.w) A (call (.builtin "isinstance") [u,c]) Q E s:=by
  cases ty with
  | non=>cases (show u=Value.none from rx); exact PySem.W.kia_one PySem.W.kitx_none I.kIn True.intro e (fun z=>nomatch z) h
  | bl y=>cases (show u=Value.bool y from rx); exact PySem.W.kia_one PySem.W.kitx_bool I.kIn True.intro e (fun z=>nomatch z) h
  | int i=>obtain ⟨t,q⟩:=(show ∃ t,u=Value.int i t from rx); cases q; exact PySem.W.kia_one PySem.W.kitx_int I.kIn True.intro e (fun z=>nomatch z) h
  | str y=>obtain ⟨t,q⟩:=(show ∃ t,u=Value.str y t from rx); cases q; exact PySem.W.kia_one PySem.W.kitx_str I.kIn True.intro e (fun z=>nomatch z) h
  | flt y=>obtain ⟨t,q⟩:=(show ∃ t,u=Value.float y t from rx); cases q; exact PySem.W.kia_one PySem.W.kitx_float I.kIn True.intro e (fun z=>nomatch z) h
  | @lst a xs ea =>
    cases (show u=Value.ref a from rx)
    obtain ⟨_,_,n,_,h1⟩:=(show ObjOk X.prog X.w H s.heap a (.lst xs) from I.hok a _ ea)
    exact PySem.W.kia_one PySem.W.kitx_list I.kIn ⟨_,h1,rfl⟩ e (fun z=>nomatch z) h
  | @frz a ob xs ea =>
    cases (show u=Value.ref a from rx)
    obtain ⟨_,_,_,n,_,h1⟩:=(show ObjOk X.prog X.w H s.heap a (.frz ob (.lst xs)) from I.hok a _ ea)
    exact PySem.W.kia_one PySem.W.kitx_list I.kIn ⟨_,h1,rfl⟩ e (fun z=>nomatch z) h
  | @tup a xs ea =>
    cases (show u=Value.ref a from rx)
    obtain ⟨_,_,_,p⟩:=(show ObjOk X.prog X.w H s.heap a (.tup xs) from I.hok a _ ea)
    obtain ⟨o,h1,h2,_⟩:=p
    exact PySem.W.kia_one PySem.W.kitx_tuple I.kIn ⟨o,h1,h2⟩ e (fun z=>nomatch z) h
  | @dK a kvs ea =>
    cases (show u=Value.ref a from rx)
    obtain ⟨_,_,vs,_,p⟩:=(show ObjOk X.prog X.w H s.heap a (.dK kvs) from I.hok a _ ea)
    obtain ⟨o,es,ep,h1,h2,_⟩:=p
    exact PySem.W.kia_one PySem.W.kitx_dict I.kIn ⟨o,h1,h2.1⟩ e (fun z=>nomatch z) h
  | @dT a kvs ea =>
    cases (show u=Value.ref a from rx)
    obtain ⟨_,_,xs,_,o,es,ep,h1,h2,_⟩:=(show ObjOk X.prog X.w H s.heap a (.dT kvs) from I.hok a _ ea)
    exact PySem.W.kia_one PySem.W.kitx_dict I.kIn ⟨o,h1,h2.1⟩ e (fun z=>nomatch z) h
  | @ins a C dx fs ea cl ha hn htk hm =>
    cases (show u=Value.ref a from rx)
    obtain ⟨mA,O,_⟩:=vo I.hok ea
    obtain ⟨od,J,_⟩:=O.look
    exact PySem.W.kia_one (PySem.W.kitx_own (cl.get _) cl.hd ha hn htk hm) I.kIn J e (fun z=>nomatch z) h
end
structure Room (k:Nat) (A:Around):Prop where
  hd:A.handled=none
  dp:A.depth + 3 * k + 5 < recursionLimit
  un:A.units + 16 * k + 200 < cLine
theorem Room.mono {j k:Nat} {A:Around} (r:Room k A) (h:j<=k):Room j A:=⟨r.hd,by have:=r.dp; lia,by have:=r.un; lia⟩
theorem Room.deeper {k:Nat} {A:Around} (r:Room (k + 1) A) (env:Env):Room k (A.deeper env) :=
  ⟨r.hd,by have:=r.dp; show A.depth + 1 + 3 * k + 5 < _; lia,by have:=r.un; show A.units + 3 + 16 * k + 200 < _; lia⟩
theorem YV {A:Around} {C:Addr} {us:List Value} {kw:List (Str × Value)}:(A.under (.builtin "type.__call__" ⟨.ref C :: us,kw⟩)).depth=A.depth + 1:=by
  first | rfl | simp [Around.under,Code.weight,Code.isCreation,Code.isGuard,Code.isCaller,Code.frames,Code.isFrame,guardIds]
theorem YW {A:Around} {C:Addr} {us:List Value} {kw:List (Str × Value)}:(A.under (.builtin "type.__call__" ⟨.ref C :: us,kw⟩)).units=A.units + 1:=by
  first | rfl | simp [Around.under,Code.cUnits,Code.frames,Code.isFrame]
theorem Room.make {k:Nat} {A:Around} (r:Room (k + 1) A) (C:Addr) (us:List Value) (kw:List (Str × Value)):Room k (A.under (.builtin "type.__call__" ⟨.ref C :: us,kw⟩)) :=
  ⟨r.hd,by have:=r.dp; rw [YV]; lia,by have:=r.un; rw [YW]; lia⟩
theorem Room.depth {k:Nat} {A:Around} (r:Room k A):A.depth < recursionLimit:=by have:=r.dp; lia
theorem Room.units0 {k:Nat} {A:Around} (r:Room k A):A.units < cLine:=by have:=r.un; lia
def tNil:TA:=fun _ H Q=>Q [] H
def zN (ta:TE) (tr:TA):TA:=fun σ H Q=>ta σ H fun x H1=>tr σ H1 fun xs H2=>Q (x :: xs) H2
section
variable {X:Cx} {e:Expr} {es:List Expr} {te:TE} {t:TA} {pos:Pos}
theorem zcj:PA X [] tNil:=fun _ _ _ _ H Q I h=>Calls.spliced_nil ⟨[],H,I,.nil,h⟩
theorem Q3 (ha:PE X e te) (hr:PA X es t) (hs:starEach (e :: es) X.env=(false,eval e X.env) :: starEach es X.env:=by rfl):PA X (e :: es) (zN te t):=by
  intro pos pins s σ H Q I h
  rw [hs]
  show wpAny _ _ (spliced ((false,eval e X.env) :: backTo pos (starEach es X.env))) _ _ s
  refine Calls.spliced_cons (thn (ha pins s σ H _ I h) fun u s1 ⟨x,H1,I1,r1,q1⟩=>?_)
  exact thn (hr pos pins s1 σ H1 _ I1 q1) fun us s2 ⟨xs,H2,I2,r2,q2⟩=>⟨x :: xs,H2,I2,.cons r1 r2,q2⟩
def tTup (t:TA):TE:=fun σ H Q=>t σ H fun xs H1=>xs.length<=sizeLine/\∀ p,H1 p=none->Q (.ref p) (upd H1 p (.tup xs))
def tLst (t:TA):TE:=fun σ H Q=>t σ H fun xs H1=>xs.length<=sizeLine/\∀ p,H1 p=none->Q (.ref p) (upd H1 p (.lst xs))
theorem zck {x1} (h:PA X es t):PE X (.Tuple es x1 pos) (tTup t):=by
  intro pins s σ H Q I hq
  refine wpAny_Tuple_spliced (thn (h pos pins s σ H _ I hq) fun us s1 ⟨xs,H1,I1,r,z,q⟩=>⟨by rw [<- r.length]; exact z,?_⟩)
  have hf:H1 s1.heap.objs.size=none:=I1.hok.fresh (Nat.le_refl _)
  refine ⟨.ref s1.heap.objs.size,upd H1 s1.heap.objs.size (.tup xs),I1.laid (t':=s1.toks) (fun b u e=>Heap.get?_push_of_some _ e) (Nat.le_refl _) ?_,rfl,q _ hf⟩
  exact ⟨z,us,r,⟨_,Heap.get?_push_size _ rfl,rfl,rfl,_,rfl⟩⟩
theorem zcl (h:PA X es t):PE X (.List es pos) (tLst t):=by
  intro pins s σ H Q I hq
  refine wpAny_List_spliced (thn (h pos pins s σ H _ I hq) fun us s1 ⟨xs,H1,I1,r,z,q⟩=>⟨by rw [<- r.length]; exact z,?_⟩)
  have hf:H1 s1.heap.objs.size=none:=I1.hok.fresh (Nat.le_refl _)
  refine ⟨.ref s1.heap.objs.size,upd H1 s1.heap.objs.size (.lst xs),I1.laid (t':=s1.toks) (fun b u e=>Heap.get?_push_of_some _ e) (Nat.le_refl _) ?_,rfl,q _ hf⟩
  exact ⟨z,us,0,r,Heap.get?_push_size _ rfl⟩
end
abbrev Sp:=List V->Hp->VK->XK->Prop
abbrev CXT:=List Env->Hp->Shared->XK->Value->Shared->Prop
structure Env0 (P:Program) (w:World) (K:PySem.W.Frag) (mg:Str->Option Value) (base:Heap) (A:Around) (outer:List Env) (s:Shared) (H:Hp):Prop where
  frames:A.frames=some outer
  mod:Mod K mg base
  bs:∀ b o,base.get? b=some o->s.heap.get? b=some o/\H b=none
  bsz:base.objs.size<=s.heap.objs.size
  funs:s.heap.FunFrames base outer
  frf:∀ b∈frs outer,H b=none
  hok:HOk P w H s.heap
  bare:AllBare s.gens
def CE (outer:List Env) (P:Program) (w:World) (H:Hp) (s:Shared) (Q:VK) (u:Value) (s':Shared):Prop :=
  ∃ v H',s'.os=s.os/\AllBare s'.gens/\Un (frs outer) [] H H' s.heap s'.heap/\HOk P w H' s'.heap/\RelV v u/\Q v H'
def CR (CX:CXT) (outer:List Env) (P:Program) (w:World) (H:Hp) (s:Shared) (Q:VK) (E:XK) (r:Result) (s':Shared):Prop :=
  match r with
  | .ok (.ret u)=>CE outer P w H s Q u s'
  | .ok _=>False
  | .error e=>CX outer H s E e s'
structure FnOk (P:Program) (w:World) (K:PySem.W.Frag) (mg:Str->Option Value) (base:Heap) (CX:CXT) (k:Nat) (f:Addr) (fd:FuncData) (ps:List Str) (sp:Sp):Prop where
  len:∀ vs H Q E,sp vs H Q E->vs.length=ps.length
  run:∀ (A:Around) (outer:List Env) (s:Shared) (H:Hp) (args:Args) (us:List Value) (vs:List V) (Q:VK) (E:XK),Room k A->Env0 P w K mg base A outer s H->BindsTo s fd args (ps.zip us)->Vals vs us->sp vs H Q E ->
    codeAny (model P w) A (.call (.ref f) args) (CR CX outer P w H s Q E) s
theorem FnOk.mono {P:Program} {w:World} {K:PySem.W.Frag} {mg:Str->Option Value} {base:Heap} {CX:CXT} {j k:Nat} {f:Addr} {fd:FuncData} {ps:List Str} {sp:Sp} (F:FnOk P w K mg base CX j f fd ps sp) (h:j<=k) :
    FnOk P w K mg base CX k f fd ps sp:=⟨F.len,fun A outer s H args us vs Q E hr=>F.run A outer s H args us vs Q E (hr.mono h)⟩
theorem Env0.make {P:Program} {w:World} {K:PySem.W.Frag} {mg:Str->Option Value} {base:Heap} {A:Around} {outer:List Env} {s:Shared} {H:Hp} (e:Env0 P w K mg base A outer s H) (C:Addr) (us:List Value) (kw:List (Str × Value)) :
    Env0 P w K mg base (A.under (.builtin "type.__call__" ⟨.ref C :: us,kw⟩)) outer s H:=⟨by first | exact e.frames | (simpa [Around.under,Code.envs,Code.isFrame,pushEnvs] using e.frames),e.mod,e.bs,e.bsz,e.funs,e.frf,e.hok,e.bare⟩
section
variable {X:Cx} {pins:List (Addr × Obj)} {σ:St} {H:Hp} {s s':Shared}
theorem Inv.env0 (I:Inv X pins σ H s):Env0 X.prog X.w X.K X.mg X.base X.A X.stack s H :=
  ⟨I.ok.frames,I.ok.mod,I.bs,Nat.le_trans I.ok.bsz I.sz,I.stack,I.stkFree,I.hok,I.bare⟩
theorem Inv.after {Q:VK} {u:Value} (I:Inv X pins σ H s) (h:CE X.stack X.prog X.w H s Q u s'):EP X pins σ Q u s':=by
  obtain ⟨v,H',os,bare,un,hok,r,q⟩:=h
  obtain ⟨hh,g,d,t,os'⟩:=s'
  obtain rfl:os'=s.os:=os
  exact ⟨v,H',I.call (h':=hh) (g':=g) (d':=d) (t':=t) (ch:=[]) un hok bare (fun b z=>absurd z (by simp)),r,q⟩
end
def Z8 (sp:Sp) (dvs:List V) (E:XK) (t:TA):TE:=fun σ H Q=>t σ H fun vs H1=>sp (vs ++ dvs) H1 Q E
def XT (C:Addr) (m:Str) (sp:Sp) (dvs:List V) (E:XK) (ta:TE) (t:TA):TE:=fun σ H Q=>ta σ H fun x H1=>∃ a dx fs,x=.ref a/\H1 a=some (.ins C dx fs)/\fs.lookup m=none /\
  t σ H1 fun vs H2=>sp (x :: (vs ++ dvs)) H2 Q E
def zbx (C:Addr) (sp:Sp) (dvs:List V) (E:XK) (t:TA):TE:=fun σ H Q=>t σ H fun vs H1=>∀ x dx,H1 x=none->H1 dx=none->dx≠x ->
  sp (.ref x :: (vs ++ dvs)) (upd (upd H1 dx (.own x)) x (.ins C dx [])) (fun v H2=>v=.non/\Q (.ref x) H2) E
def Binds (K:PySem.W.Frag) (fd:FuncData) (ps:List Str) (ds:List Value):Prop :=
  ∀ (s:Shared) (us:List Value),K.In s.heap->(us ++ ds).length=ps.length->BindsTo s fd ⟨us,[]⟩ (ps.zip (us ++ ds))
theorem Binds.all {K:PySem.W.Frag} {fd:FuncData} {ps:List Str} (h:∀ us:List Value,us.length=ps.length->bindArgs fd ⟨us,[]⟩=pure (ps.zip us)):Binds K fd ps []:=fun s us _ hl=>by
  rw [List.append_nil] at hl ⊢
  exact .of_eq (h us hl)
def yA (CX:CXT) (X:Cx) (E:XK):Prop:=∀ (pins:List (Addr × Obj)) (σ:St) (H:Hp) (s:Shared) (e:Value) (s':Shared),Inv X pins σ H s->CX X.stack H s E e s'->X.xe e s'
section
variable {X:Cx} {CX:CXT} {k:Nat} {f C:Addr} {fd:FuncData} {ps:List Str} {sp:Sp} {dvs:List V} {ds:List Value} {E:XK} {x m:Str} {p pos apos:Pos} {e o:Expr} {es:List Expr} {ta:TE} {t:TA}
theorem YX {pins:List (Addr × Obj)} {σ:St} {H:Hp} {s:Shared} {Q:VK} {us:List Value} {vs:List V} (F:FnOk X.prog X.w X.K X.mg X.base CX k f fd ps sp) (hr:Room k X.A) (hb:Binds X.K fd ps ds) (hd:Vals dvs ds) (hx:yA CX X E)
    (I:Inv X pins σ H s) (r:Vals vs us) (h:sp (vs ++ dvs) H Q E):wpAny (model X.prog X.w) X.A (call (.ref f) us) (EP X pins σ Q) X.xe s:=by
  have r2:Vals (vs ++ dvs) (us ++ ds):=r.append hd
  have hl:(us ++ ds).length=ps.length:=by rw [<- r2.length]; exact F.len _ _ _ _ h
  refine wpAny_call (codeAny_mono (F.run X.A X.stack s H ⟨us,[]⟩ (us ++ ds) (vs ++ dvs) Q E hr I.env0 (hb s us I.kIn hl) r2 h) fun r s' hq=>?_)
  cases r with
  | error e=>exact hx pins σ H s e s' I hq
  | ok fl =>
    cases fl with
    | ret u=>exact I.after hq
    | next=>exact False.elim hq
    | brk=>exact False.elim hq
    | cont=>exact False.elim hq
theorem Q4 (F:FnOk X.prog X.w X.K X.mg X.base CX k f fd ps sp) (hr:Room k X.A) (hg:Gl X x) (hm:X.mg x=some (.ref f)) (hk:PySem.W.keepIn X.K (.ref f)=true) (hb:Binds X.K fd ps ds) (hd:Vals dvs ds) (hx:yA CX X E)
    (ha:PA X (e :: es) t) (hdb:(x == ("__debug__":Str))=false:=by decide) (he:starEach (e :: es) X.env=(false,eval e X.env) :: starEach es X.env:=by rfl) (hpl:(backTo pos (starEach es X.env)).any (·.1)=false:=by rfl) :
    PE X (.Call (.Name x p) (e :: es) [] pos) (Z8 sp dvs E t):=by
  intro pins s σ H Q I h
  refine wpAny_Call_Name_kw (yZ I hg hm ?_ hdb)
  refine PySem.W.callWith_K (h₀:=X.base) I.ok.mod.kin hk (thn (ha pos pins s σ H _ I h) fun us s1 ⟨vs,H1,I1,r,q⟩=>⟨I1.kIn,?_⟩) he hpl
  exact YX F hr hb hd hx I1 r q
theorem Q5 {pl:Sem Bool} (he:PE X o ta) (c:Cls X.K C) (hm:Meth X.K C m f) (F:FnOk X.prog X.w X.K X.mg X.base CX k f fd ps sp) (hr:Room k X.A) (hb:Binds X.K fd ps ds) (hd:Vals dvs ds) (hx:yA CX X E) (ha:PA X (e :: es) t)
    (hst:starEach (e :: es) X.env=(false,eval e X.env) :: starEach es X.env:=by rfl) (hpl:(backTo pos (starEach es X.env)).any (·.1)=false:=by rfl)
    (ht:eval (.Call (.Attribute o m apos) (e :: es) [] pos) X.env=(do
      let ov <- eval o X.env
      standAt apos.atName
      let (f,first) <- holding [ov] (getMethod ov m pl)
      callWith pos f first (backTo pos (starEach (e :: es) X.env)) (backToKw pos (keywordEach [] X.env))):=by rfl) :
    PE X (.Call (.Attribute o m apos) (e :: es) [] pos) (XT C m sp dvs E ta t):=by
  intro pins s σ H Q I h
  refine PySem.W.methodCall_KW (pl:=pl) (thn (he pins s σ H _ I h) fun u s1 ⟨x,H1,I1,rx,a,dx,fs,ex,ea,l,q⟩=>?_) ht
  subst ex
  obtain rfl:u=Value.ref a:=rx
  refine vF I1 ea c hm l ?_
  refine PySem.W.callWith_K (first:=[.ref a]) (h₀:=X.base) I.ok.mod.kin hm.kp (thn (ha pos pins s1 σ H1 _ I1 q) fun us s2 ⟨vs,H2,I2,r,q2⟩=>⟨I2.kIn,?_⟩) hst hpl
  exact YX (us:=.ref a :: us) (vs:=.ref a :: vs) F hr hb hd hx I2 (.cons rfl r) q2
theorem VL {pl:Sem Bool} (he:PE X o ta) (c:Cls X.K C) (hm:Meth X.K C m f) (F:FnOk X.prog X.w X.K X.mg X.base CX k f fd ps sp) (hr:Room k X.A) (hb:Binds X.K fd ps ds) (hd:Vals dvs ds) (hx:yA CX X E)
    (ht:eval (.Call (.Attribute o m apos) [] [] pos) X.env=(do
      let ov <- eval o X.env
      standAt apos.atName
      let (f,first) <- holding [ov] (getMethod ov m pl)
      callWith pos f first (backTo pos (starEach [] X.env)) (backToKw pos (keywordEach [] X.env))):=by rfl) :
    PE X (.Call (.Attribute o m apos) [] [] pos) (XT C m sp dvs E ta tNil):=by
  intro pins s σ H Q I h
  refine PySem.W.methodCall_KW (pl:=pl) (thn (he pins s σ H _ I h) fun u s1 ⟨x,H1,I1,rx,a,dx,fs,ex,ea,l,q⟩=>?_) ht
  subst ex
  obtain rfl:u=Value.ref a:=rx
  refine vF I1 ea c hm l ?_
  exact PySem.W.callWith_K0 (first:=[.ref a]) I1.kIn hm.kp (YX (us:=[.ref a]) (vs:=[.ref a]) F hr hb hd hx I1 (.cons rfl .nil) q)
structure Mk (K:PySem.W.Frag) (C f:Addr):Prop where
  makes:PySem.W.makesIn K C=true
  init:PySem.W.findIn K (.ref C) "__init__"=some (some (.ref f))
  fn:PySem.W.isFn K (.ref f)=true
  kp:PySem.W.keepIn K (.ref C)=true
theorem VM {pins:List (Addr × Obj)} {σ:St} {H:Hp} {s:Shared} {Q:VK} {us:List Value} {vs:List V} (M:Mk X.K C f) (F:FnOk X.prog X.w X.K X.mg X.base CX k f fd ps sp) (hr:Room (k + 1) X.A) (hb:Binds X.K fd ps ds) (hd:Vals dvs ds)
    (hx:yA CX X E) (I:Inv X pins σ H s) (r:Vals vs us)
    (h:∀ x dx,H x=none->H dx=none->dx≠x->sp (.ref x :: (vs ++ dvs)) (upd (upd H dx (.own x)) x (.ins C dx [])) (fun v H2=>v=.non/\Q (.ref x) H2) E) :
    wpAny (model X.prog X.w) X.A (call (.ref C) us) (EP X pins σ Q) X.xe s:=by
  have hq:=h (s.heap.objs.size + 1) s.heap.objs.size (I.hok.fresh (Nat.le_succ _)) (I.hok.fresh (Nat.le_refl _)) (Nat.ne_of_lt (Nat.lt_succ_self _))
  have I2:=Inv.made (C:=C) I
  have r2:Vals (V.ref (s.heap.objs.size + 1) :: (vs ++ dvs)) (Value.ref (s.heap.objs.size + 1) :: (us ++ ds)):=.cons rfl (r.append hd)
  have hl:(Value.ref (s.heap.objs.size + 1) :: us ++ ds).length=ps.length:=by
    have e:=r2.length
    rw [F.len _ _ _ _ hq] at e
    exact e.symm
  refine wpAny_call (VJ (f:=f) I.kIn M.makes M.init (beq_iff_eq.mp M.fn) (codeAny_mono (F.run _ X.stack _ _ ⟨Value.ref (s.heap.objs.size + 1) :: us,[]⟩ (Value.ref (s.heap.objs.size + 1) :: (us ++ ds)) _ _ E (hr.make C us [])
    (I2.env0.make C us []) (hb _ (Value.ref (s.heap.objs.size + 1) :: us) I2.kIn hl) r2 hq) fun r s' hq'=>?_))
  cases r with
  | error e=>exact hx pins σ _ _ e s' I2 hq'
  | ok fl =>
    cases fl with
    | ret u =>
      obtain ⟨v,H',I3,rv,ev,q3⟩:=I2.after hq'
      subst ev
      exact ⟨rv,⟨V.ref (s.heap.objs.size + 1),H',I3,rfl,q3⟩⟩
    | next=>exact False.elim hq'
    | brk=>exact False.elim hq'
    | cont=>exact False.elim hq'
theorem Q6 (M:Mk X.K C f) (F:FnOk X.prog X.w X.K X.mg X.base CX k f fd ps sp) (hr:Room (k + 1) X.A) (hg:Gl X x) (hm:X.mg x=some (.ref C)) (hb:Binds X.K fd ps ds) (hd:Vals dvs ds) (hx:yA CX X E)
    (ha:PA X (e :: es) t) (hdb:(x == ("__debug__":Str))=false:=by decide) (he:starEach (e :: es) X.env=(false,eval e X.env) :: starEach es X.env:=by rfl) (hpl:(backTo pos (starEach es X.env)).any (·.1)=false:=by rfl) :
    PE X (.Call (.Name x p) (e :: es) [] pos) (zbx C sp dvs E t):=by
  intro pins s σ H Q I h
  refine wpAny_Call_Name_kw (yZ I hg hm ?_ hdb)
  refine PySem.W.callWith_K (h₀:=X.base) I.ok.mod.kin M.kp (thn (ha pos pins s σ H _ I h) fun us s1 ⟨vs,H1,I1,r,q⟩=>⟨I1.kIn,?_⟩) he hpl
  exact VM M F hr hb hd hx I1 r q
end
section
variable {X:Cx} {CX:CXT} {k:Nat} {f C:Addr} {fd:FuncData} {ps ks:List Str} {sp:Sp} {E:XK} {x m:Str} {p pos apos kpos:Pos} {e o:Expr} {es:List Expr} {kws:List Keyword} {te ta:TE} {t tk:TA} {nm:Option Str}
variable {g:List Value->List Value->List Value} {gV:List V->List V->List V}
end
structure FnScope (N P:List Str) (sc:Scope):Prop where
  kind:sc.kind=.function
  co:sc.isCoroutine=false
  gen:sc.isGenerator=false
  nd:N.Nodup
  pre:N.take P.length=P
  par:∀ x∈P,sc.names.lookup x=some .local\/sc.names.lookup x=some .cell
  nofree:∀ y∈sc.names,y.2≠.free
theorem FnScope.ok {N P:List Str} {sc:Scope} (a:N.Nodup:=by decide +kernel) (b:∀ x∈P,sc.names.lookup x=some .local\/sc.names.lookup x=some .cell:=by decide +kernel) (c:∀ y∈sc.names,y.2≠.free:=by decide +kernel) (d:sc.kind=.function:=by rfl) (e:sc.isCoroutine=false:=by rfl) (f:sc.isGenerator=false:=by rfl) (g:N.take P.length=P:=by rfl):FnScope N P sc:=⟨d,e,f,a,g,b,c⟩
theorem jK {kindOf:Str->Option NameKind} {x:Str}:∀ {binds:List (Str × Value)} {m:Str->Option Value},(∀ v,(x,v) ∉ binds)->bindL kindOf binds m x=m x
  | [],_,_=>rfl
  | (n,v) :: r,m,h=>by
    unfold bindL
    rw [jK fun w hw=>h w (List.mem_cons_of_mem _ hw)]
    split
    · have:x≠n:=by rintro rfl; exact h v List.mem_cons_self
      simp [this]
    · rfl
theorem jM {kindOf:Str->Option NameKind} {x:Str}:∀ {binds:List (Str × Value)} {m:Str->Option Value},(∀ v,(x,v) ∉ binds)->bindC kindOf binds m x=m x
  | [],_,_=>rfl
  | (n,v) :: r,m,h=>by
    unfold bindC
    rw [jM fun w hw=>h w (List.mem_cons_of_mem _ hw)]
    split
    · rfl
    · have:x≠n:=by rintro rfl; exact h v List.mem_cons_self
      simp [this]
theorem jN {kindOf:Str->Option NameKind} {x:Str} {v:Value}:∀ {P:List Str} {vs:List Value} {i:Nat} {m:Str->Option Value},P.Nodup->P[i]?=some x->vs[i]?=some v->kindOf x=some .local ->
    bindL kindOf (P.zip vs) m x=some v
  | [],_,_,_,_,h,_,_=>by simp at h
  | _ :: _,[],_,_,_,_,h,_=>by simp at h
  | p :: P,w :: vs,0,m,nd,h1,h2,hk=>by
    simp at h1 h2; subst h1; subst h2
    show bindL kindOf ((p,w) :: P.zip vs) m p=_
    unfold bindL
    rw [jK fun v hv=>(List.nodup_cons.mp nd).1 (List.of_mem_zip hv).1,if_pos hk]
    simp
  | p :: P,w :: vs,i + 1,m,nd,h1,h2,hk=>by
    show bindL kindOf ((p,w) :: P.zip vs) m x=_
    unfold bindL
    exact jN (i:=i) (List.nodup_cons.mp nd).2 (by simpa using h1) (by simpa using h2) hk
theorem jP {kindOf:Str->Option NameKind} {x:Str} {v:Value}:∀ {P:List Str} {vs:List Value} {i:Nat} {m:Str->Option Value},P.Nodup->P[i]?=some x->vs[i]?=some v->kindOf x≠some .local ->
    bindC kindOf (P.zip vs) m x=some v
  | [],_,_,_,_,h,_,_=>by simp at h
  | _ :: _,[],_,_,_,_,h,_=>by simp at h
  | p :: P,w :: vs,0,m,nd,h1,h2,hk=>by
    simp at h1 h2; subst h1; subst h2
    show bindC kindOf ((p,w) :: P.zip vs) m p=_
    unfold bindC
    rw [jM fun v hv=>(List.nodup_cons.mp nd).1 (List.of_mem_zip hv).1,if_neg hk]
    simp
  | p :: P,w :: vs,i + 1,m,nd,h1,h2,hk=>by
    show bindC kindOf ((p,w) :: P.zip vs) m x=_
    unfold bindC
    exact jP (i:=i) (List.nodup_cons.mp nd).2 (by simpa using h1) (by simpa using h2) hk
def start (N:List Str) (vs:List V):St:=vs.map some ++ List.replicate (N.length - vs.length) none
def cxOf (CX:CXT) (P:Program) (w:World) (K:PySem.W.Frag) (mg:Str->Option Value) (base:Heap) (N:List Str) (qual:Str) (scope:Scope) (f:Addr) (cd:Value) (A:Around) (outer:List Env) (s:Shared) (H:Hp) (E:XK):Cx where
  prog:=P
  w:=w
  K:=K
  mg:=mg
  base:=base
  A:=A.deeper (envOfC qual scope s.heap.objs.size f cd)
  N:=N
  s₀:=s
  H₀:=H
  env:=envOfC qual scope s.heap.objs.size f cd
  outer:=outer
  stack:=envOfC qual scope s.heap.objs.size f cd :: outer
  ex:=[]
  calm:=true
  fn:=fun _=>true
  pn:=[]
  xe:=fun e s'=>wpAny (model P w) (A.deeper (envOfC qual scope s.heap.objs.size f cd)) (leaving (envOfC qual scope s.heap.objs.size f cd) e) (fun _ s''=>CX outer H s E e s'') (fun e' s''=>CX outer H s E e' s'') s'
theorem Z9 {sc:Scope} {n:Nat} {x:Str} (h:sc.names.lookup x=some .cell):∃ c,(cellsFrom n sc.names []).lookup x=some c:=by
  have q:=PySem.W.cellsFrom_some sc.names n [] (.inl h)
  exact Option.isSome_iff_exists.mp q
theorem WT {CX:CXT} {P:Program} {w:World} {K:PySem.W.Frag} {mg:Str->Option Value} {base:Heap} {N ps:List Str} {qual:Str} {scope:Scope} {f:Addr} {cd:Value} {A:Around} {outer:List Env} {s s1:Shared} {H:Hp} {E:XK} {us:List Value} {vs:List V}
    (S:FnScope N ps scope) (hd:A.handled=none) (e0:Env0 P w K mg base A outer s H) (hl:vs.length=ps.length) (r:Vals vs us)
    (x:InCallC s s.heap.objs.size (bindL (envOfC qual scope s.heap.objs.size f cd).kindOf (ps.zip us) fun _=>none) (cellsFrom (s.heap.objs.size + 1) scope.names []) (bindC (envOfC qual scope s.heap.objs.size f cd).kindOf (ps.zip us) fun _=>none) s1) :
    Inv (cxOf CX P w K mg base N qual scope f cd A outer s H E) [] (start N vs) H s1:=by
  have hpl:ps.length<=N.length:=by have:=congrArg List.length S.pre; rw [List.length_take] at this; lia
  obtain ⟨h1,tk,rfl,hk⟩:=x.done
  have noA:∀ b:Addr,b ∉ (cxOf CX P w K mg base N qual scope f cd A outer s H E).ex:=fun b z=>absurd (show b∈([]:List Addr) from z) (by simp)
  refine ⟨⟨e0.mod,S.kind,rfl,rfl,Nat.le_refl _,fun y z c h1 h2=>?_,fun y hy=>?_,fun y c _ h=>?_,fun _=>hd,Around.frames_deeper e0.frames,.inr ⟨rfl,rfl⟩,fun b z=>absurd z (noA b),e0.bs,e0.bsz,fun b _ _=>noA b,fun b z=>absurd z (noA b),e0.funs,e0.frf⟩,
    rfl,e0.bare,Un.kept hk,⟨_,x.toInCall.ns,fun i y v h1 h2 h3=>?_⟩,fun y c h=>⟨_,x.cell y c h⟩,e0.hok.fresh (Nat.le_refl _),fun y c h=>?_,fun p hp=>absurd (show p∈([]:List (Addr × Obj)) from hp) (by simp),e0.hok.kept hk,?_⟩
  · exact name_of_addr x.apart (PySem.mem_of_lookup h1) (PySem.mem_of_lookup h2)
  · have hy:scope.names.lookup y=some .cell\/scope.names.lookup y=some .free:=hy
    rcases hy with hy | hy
    · exact Z9 hy
    · exact absurd rfl (S.nofree _ (PySem.mem_of_lookup hy))
  · exact Nat.le_of_lt (x.above y c (PySem.mem_of_lookup h))
  · have hi:i < vs.length:=by
      unfold start at h2
      by_cases hi:i < vs.length
      · exact hi
      · rw [List.getElem?_append_right (by simpa using hi)] at h2
        rw [List.getElem?_replicate] at h2
        split at h2 <;> cases h2
    have ha:vs[i]?=some v:=by
      unfold start at h2
      rw [List.getElem?_append_left (by simpa using hi),List.getElem?_map] at h2
      cases e:vs[i]? with
      | none=>rw [e] at h2; cases h2
      | some a=>rw [e] at h2; cases h2; rfl
    obtain ⟨u,hu,rv⟩:=r.get ha
    have hp:ps[i]?=some y:=by
      rw [<- S.pre,List.getElem?_take_of_lt (by lia)]; exact h1
    have ndP:ps.Nodup:=by rw [<- S.pre]; exact S.nd.sublist (List.take_sublist _ _)
    refine ⟨u,rv,?_⟩
    rcases S.par y (List.mem_of_getElem? hp) with k | k
    · exact .inl ⟨k,jN ndP hp hu k⟩
    · obtain ⟨c,e⟩:=Z9 (n:=s.heap.objs.size + 1) k
      refine .inr ⟨.inl k,c,e,?_⟩
      have q:=x.cell y c e
      rw [jP ndP hp hu (by show scope.names.lookup y≠_; rw [k]; decide)] at q
      exact q
  · exact e0.hok.fresh (Nat.le_of_lt (x.above y c (PySem.mem_of_lookup h)))
  · unfold start
    show _=N.length
    rw [List.length_append,List.length_map,List.length_replicate]
    lia
theorem zby {CX:CXT} {P:Program} {w:World} {K:PySem.W.Frag} {mg:Str->Option Value} {base:Heap} {k:Nat} {f:Addr} {name qual:Str} {params:Arguments} {body:List Stmt} {scope:Scope} {dV kV doc pm cdv ct oc:Value} {an od:Option Addr}
    {osl:Array (Option Value)} {N ps:List Str} {sp:Sp} (lk:K.lookup f=some ⟨oc,od,.func (PySem.W.fnOf name qual params body scope dV kV doc pm an cdv ct),osl⟩) (hcd:PySem.W.codeIn K cdv qual=true) (S:FnScope N ps scope)
    (len:∀ vs H Q E,sp vs H Q E->vs.length=ps.length)
    (hbody:∀ (A:Around) (outer:List Env) (s:Shared) (H:Hp) (vs:List V) (Q:VK) (E:XK),Room k (A.deeper (envOfC qual scope s.heap.objs.size f cdv))->sp vs H Q E ->
      ∃ t,PSs (cxOf CX P w K mg base N qual scope f cdv A outer s H E) body t/\t { nx:=fun _ H'=>Q .non H',rt:=Q } (start N vs) H) :
    FnOk P w K mg base CX (k + 1) f (PySem.W.fnOf name qual params body scope dV kV doc pm an cdv ct) ps sp:=by
  refine ⟨len,fun A outer s H args us vs Q E hr e0 hb r hsp=>?_⟩
  have hl:=len _ _ _ _ hsp
  have KX:K.In s.heap:=e0.mod.kin.keeps fun b o e=>(e0.bs b o e).1
  have lim:s.heap.NoLimit:=e0.mod.nolimit.keeps fun b o e=>(e0.bs b o e).1
  have hkind:∀ y∈ps.zip us,scope.names.lookup y.1=some .local\/(scope.names.lookup y.1=some .cell/\((cellsFrom (s.heap.objs.size + 1) scope.names []).lookup y.1).isSome=true):=fun ⟨n,v⟩ hy=>by
    rcases S.par n (List.of_mem_zip hy).1 with q | q
    · exact .inl q
    · exact .inr ⟨q,PySem.W.cellsFrom_some _ _ _ (.inl q)⟩
  refine codeAny_call_function hr.depth (KX _ _ lk) rfl S.co S.gen rfl (PySem.W.codeRec_of KX hcd) (hb _ _ _ _ ?_)
  refine wpAny_newFunctionEnv_cells S.kind hkind fun env he s1 x=>?_
  subst he
  refine ⟨lim.keeps x.toInCall.keep,codeAny_func ?_⟩
  obtain ⟨t,ht,hq⟩:=hbody A outer s H vs Q E (hr.deeper _) hsp
  have I:Inv (cxOf CX P w K mg base N qual scope f cdv A outer s H E) [] (start N vs) H s1:=WT S hr.hd e0 hl r x
  refine wpAny_mono (ht [] s1 (start N vs) H _ I hq) (fun fl s' hs=>?_) fun e s' hs=>hs
  have fin:∀ {σ':St} {H':Hp} {v:V} {u:Value},Inv (cxOf CX P w K mg base N qual scope f cdv A outer s H E) [] σ' H' s'->RelV v u->Q v H'->CE outer P w H s Q u s' :=
    fun {σ' H' v u} J rv q=>⟨v,H',J.os,J.bare,J.base,J.hok,rv,q⟩
  cases fl with
  | ret u =>
    obtain ⟨v,σ',H',J,rv,q⟩:=hs
    exact fin J rv q
  | next =>
    obtain ⟨σ',H',J,q⟩:=hs
    exact fin (v:=V.non) (u:=Value.none) J rfl q
  | brk =>
    obtain ⟨_,_,_,q⟩:=hs
    exact False.elim q
  | cont =>
    obtain ⟨_,_,_,q⟩:=hs
    exact False.elim q
section
variable {X:Cx} {x:Str} {p pos:Pos} {e:Expr} {es:List Expr} {t:TA} {id T:String} {r:List V->Hp->VK->Prop}
def tCB (r:List V->Hp->VK->Prop) (t:TA):TE:=fun σ H Q=>t σ H fun vs H1=>r vs H1 Q
theorem VN (hc:yM X (.builtin id) r) (hg:Gl X x) (hm:X.mg x=none) (hv:bootBuiltins x=some (.builtin id)) (ha:PA X (e :: es) t) (hn:x≠"__name__":=by decide) (hdb:(x == ("__debug__":Str))=false:=by decide)
    (he:starEach (e :: es) X.env=(false,eval e X.env) :: starEach es X.env:=by rfl) (hpl:(backTo pos (starEach es X.env)).any (·.1)=false:=by rfl):PE X (.Call (.Name x p) (e :: es) [] pos) (tCB r t):=by
  intro pins s σ H Q I h
  refine wpAny_Call_Name_kw (xY I hg hm hv ?_ hn hdb)
  exact PyProof.Rows.callWith_builtin1 (thn (ha pos pins s σ H _ I h) fun us s1 ⟨vs,H1,I1,r1,q1⟩=>hc pins s1 σ H1 vs us Q I1 r1 q1) he hpl
theorem WU (hc:yM X (.type T) r) (hg:Gl X x) (hm:X.mg x=none) (hv:bootBuiltins x=some (.type T)) (ha:PA X (e :: es) t) (hn:x≠"__name__":=by decide) (hdb:(x == ("__debug__":Str))=false:=by decide)
    (he:starEach (e :: es) X.env=(false,eval e X.env) :: starEach es X.env:=by rfl) (hpl:(backTo pos (starEach es X.env)).any (·.1)=false:=by rfl):PE X (.Call (.Name x p) (e :: es) [] pos) (tCB r t):=by
  intro pins s σ H Q I h
  refine wpAny_Call_Name_kw (xY I hg hm hv ?_ hn hdb)
  exact PyProof.Rows.callWith_type1 (thn (ha pos pins s σ H _ I h) fun us s1 ⟨vs,H1,I1,r1,q1⟩=>hc pins s1 σ H1 vs us Q I1 r1 q1) he hpl
end
end L2
namespace HT
open PySem PyProof.Rows
section
open PySem.SeqAt
open PySem.AutoSeq1 (wpAny_loadPart')
open PySem.MeetsSeq PySem.MeetsSeq2 PySem.MeetsSeq3
end
section
variable {prog:Program} {w:World} {A:Around} {E:Value->Shared->Prop} {s:Shared}
theorem cat_tup {t b:Addr} {vs ws:List Value} {Q:Value->Shared->Prop} (ht:IsTup s.heap t vs.toArray) (hb:IsTup s.heap b ws.toArray) (hv:vs≠[])
    (h1:ws=[]->Q (.ref t) s) (h2:ws≠[]->Q (.ref s.heap.objs.size) { s with heap:=s.heap.push { cls:=.type "tuple",data:=.seq (vs ++ ws).toArray } })
    (hsz:vs.length + ws.length<=sizeLine):wpAny (model prog w) A (binaryOp .Add (.ref t) (.ref b)) Q E s:=by
  obtain ⟨⟨cls,dd,data,sl⟩,ho,hc,n,hd⟩:=id ht
  obtain ⟨⟨cls2,dd2,data2,sl2⟩,ho2,hc2,n2,hd2⟩:=id hb
  simp only at hc hd hc2 hd2
  subst hc hd hc2 hd2
  have e:vs.toArray ++ ws.toArray=(vs ++ ws).toArray:=by simp
  by_cases hw:ws=[]
  · exact concat_meets ⟨_,ho,rfl⟩ ⟨_,ho2,rfl⟩ noFill_tuple_add seq_tuple_add PySem.F.slot_tuple_add PySem.F.entry_tuple_add (PySem.F.args_tuple_add_2 _ _)
      (tuple_addW1 t b vs.toArray ws.toArray n n2 dd dd2 sl sl2 (by simpa using hv) (by simp [hw])) ⟨ho,ho2,h1 hw⟩
  · refine concat_meets ⟨_,ho,rfl⟩ ⟨_,ho2,rfl⟩ noFill_tuple_add seq_tuple_add PySem.F.slot_tuple_add PySem.F.entry_tuple_add (PySem.F.args_tuple_add_2 _ _)
      (tuple_addW2 t b vs.toArray ws.toArray n n2 dd dd2 sl sl2 (by simpa using hv) (by simpa using hw) (by rw [List.size_toArray,List.size_toArray]; exact hsz)) ⟨ho,ho2,?_⟩
    rw [e]
    exact h2 hw
def sIx (n d:Nat):Option Int->Nat
  | none=>d
  | some v=>if v < 0 then (v + (n:Int)).toNat else min v.toNat n
theorem zcm (n d:Nat) (hd:d<=n) (o:Option Int):sIx n d o<=n:=by
  cases o with
  | none=>exact hd
  | some v =>
    show (if v < 0 then (v + (n:Int)).toNat else min v.toNat n)<=n
    by_cases hv:v < 0
    · rw [if_pos hv]; lia
    · rw [if_neg hv]; exact Nat.min_le_right _ _
theorem XU (v:Int) (n d:Nat):(if v < 0 then max (v + (n:Int)) 0 else min v (n:Int))=((sIx n d (some v):Nat):Int):=by
  show (if v < 0 then max (v + (n:Int)) 0 else min v (n:Int))=(((if v < 0 then (v + (n:Int)).toNat else min v.toNat n):Nat):Int)
  by_cases hv:v < 0
  · simp only [if_pos hv]; lia
  · simp only [if_neg hv]; lia
theorem YY (lo hi:Option Int) (n:Nat):Builtin.Slice.sliceAdjust lo hi 1 (n:Int)=(((sIx n 0 lo:Nat):Int),((sIx n n hi:Nat):Int)):=by
  have h1:¬ ((1:Int) < 0):=by lia
  unfold Builtin.Slice.sliceAdjust
  simp only [h1,if_false]
  refine Prod.ext ?_ ?_
  · cases lo with
    | none=>rfl
    | some v=>exact XU v n 0
  · cases hi with
    | none=>rfl
    | some v=>exact XU v n n
theorem YZ (i j:Nat):Builtin.Slice.slicePlaces (i:Int) (j:Int) 1=j - i:=by
  unfold Builtin.Slice.slicePlaces
  have h1:(1:Int) > 0:=by lia
  simp only [h1,if_true,Int.ediv_one]
  split <;> lia
theorem vG {v:Value} {o:Option Int} {Q:Option Int->Shared->Prop} (p:IsPart v o) (h:Q o s):wpAny (model prog w) A (Builtin.Slice.slicePartIndex v) Q E s:=by
  cases p with
  | none=>exact slicePart_none h
  | int i t=>exact slicePart_int h
theorem wI {sl:Addr} {vl vu:Value} {lo hi:Option Int} {n:Nat} {Q:Int × Int × Nat->Shared->Prop} (hs:s.heap.IsSliceOf sl vl vu .none) (pl:IsPart vl lo) (pu:IsPart vu hi)
    (h:Q (((sIx n 0 lo:Nat):Int),1,sIx n n hi - sIx n 0 lo) s):wpAny (model prog w) A (Builtin.Slice.sliceApplied (.ref sl) (pure (n:Int))) Q E s:=by
  obtain ⟨os,hos,hcs,hds⟩:=id hs
  unfold Builtin.Slice.sliceApplied Builtin.Slice.sliceFields
  refine wpAny_bind (wpAny_bind (wpAny_field hos hds (x:=vl) rfl (wpAny_bind (wpAny_field hos hds (x:=vu) rfl (wpAny_bind (wpAny_field hos hds (x:=.none) rfl (wpAny_pure ?_)))))))
  refine wpAny_bind (slicePart_none ?_)
  show wpAny _ _ (if ((1:Int) == 0)=true then _ else _) _ _ s
  rw [if_neg (by decide)]
  refine wpAny_bind (vG pl (wpAny_bind (vG pu (wpAny_bind (wpAny_pure ?_)))))
  show wpAny _ _ (match Builtin.Slice.sliceAdjust lo hi 1 (n:Int) with | (lo,hi)=>pure (lo,(1:Int),Builtin.Slice.slicePlaces lo hi 1)) _ _ s
  rw [YY lo hi n]
  show wpAny _ _ (pure (((sIx n 0 lo:Nat):Int),(1:Int),Builtin.Slice.slicePlaces ((sIx n 0 lo:Nat):Int) ((sIx n n hi:Nat):Int) 1)) _ _ s
  rw [YZ]
  exact wpAny_pure h
theorem VO (xs:Array Value) (i k:Nat):((List.range k).filterMap fun (m:Nat)=>xs[((i:Int) + (m:Int) * 1).toNat]?).toArray=((xs.toList.drop i).take k).toArray:=by
  have e:(fun (m:Nat)=>xs[((i:Int) + (m:Int) * 1).toNat]?)=fun m=>xs[i + m]?:=by
    funext m
    have:((i:Int) + (m:Int) * 1).toNat=i + m:=by lia
    rw [this]
  rw [e]
  have:=pick_run xs i k
  rw [List.filterMap_map] at this
  have e2:((fun x=>xs[x]?) ∘ fun x=>i + x)=fun m=>xs[i + m]?:=rfl
  rw [e2] at this
  rw [this]
theorem getItem_tuple_cut {t sl:Addr} {items:Array Value} {vl vu:Value} {lo hi:Option Int} {Q:Value->Shared->Prop} (ht:IsTup s.heap t items) (hs:s.heap.IsSliceOf sl vl vu .none) (pl:IsPart vl lo) (pu:IsPart vu hi)
    (hw:¬ (sIx items.size 0 lo=0/\sIx items.size items.size hi=items.size))
    (h:Q (.ref s.heap.objs.size) { s with heap:=s.heap.push { cls:=.type "tuple",data:=.seq ((items.toList.drop (sIx items.size 0 lo)).take (sIx items.size items.size hi - sIx items.size 0 lo)).toArray } })
    (hsz:items.size<=sizeLine):wpAny (model prog w) A (getItem (.ref t) (.ref sl)) Q E s:=by
  have htake:sizeOk (.seq ((items.toList.drop (sIx items.size 0 lo)).take (sIx items.size items.size hi - sIx items.size 0 lo)).toArray):=by
    show ((items.toList.drop (sIx items.size 0 lo)).take (sIx items.size items.size hi - sIx items.size 0 lo)).toArray.size<=sizeLine
    rw [List.size_toArray,List.length_take,List.length_drop,Array.length_toList]
    lia
  have hj:sIx items.size items.size hi<=items.size:=zcm _ _ (Nat.le_refl _) hi
  obtain ⟨os,hos,hcs,hds⟩:=id hs
  have hTs:s.TypeIs (.ref sl) "slice":=⟨os,hos,hcs⟩
  unfold getItem
  try with_reducible refine wpAny_holding ?_
  first | refine wpAny_bind (wpAny_pure ?_) | skip
  refine wpAny_bind (wpAny_sequenceKey ht.typeIs (by decide) ?_)
  refine wpAny_bind (wpAny_callSpecial?_slot (name:=Str.ofString "__getitem__") ht.typeIs PyProof.Rows.slot_tuple_getitem
    (wpAny_call_entry PyProof.Rows.slot_tuple_getitem ht.typeIs entry_tuple_getitem ?_ (args_tuple_getitem _ _)))
  show wpAny _ _ (Builtin.Tuple.tupleItemsOf (.ref t) >>= _) _ _ s
  refine wpAny_bind (tupleItemsOf_ ht ?_)
  refine wpAny_bind (wpAny_typeOf hTs ?_)
  rw [if_pos (by decide)]
  refine wpAny_bind (wI hs pl pu ?_)
  have hno:¬ ((((sIx items.size 0 lo:Nat):Int) == 0 && (1:Int) == 1 && (sIx items.size items.size hi - sIx items.size 0 lo) == items.size)=true):=by
    intro q
    rw [Bool.and_eq_true,Bool.and_eq_true] at q
    have q1:((sIx items.size 0 lo:Nat):Int)=0:=eq_of_beq q.1.1
    have q2:sIx items.size items.size hi - sIx items.size 0 lo=items.size:=eq_of_beq q.2
    exact hw ⟨by lia,by lia⟩
  show wpAny _ _ (if (((sIx items.size 0 lo:Nat):Int) == 0 && (1:Int) == 1 && (sIx items.size items.size hi - sIx items.size 0 lo) == items.size)=true then _ else _) _ _ s
  rw [if_neg hno,VO]
  first
    | exact wpAny_bind (m:=Builtin.Tuple.tupleExact _) (wpAny_newObj_type (wpAny_pure ⟨_,rfl,wpAny_pure h⟩) htake)
    | exact wpAny_bind (m:=Builtin.Tuple.tupleExact _) (wpAny_newObj_type (wpAny_bind (wpAny_pure (wpAny_pure ⟨_,rfl,wpAny_pure h⟩))) htake)
    | exact wpAny_bind (wpAny_bind (m:=Builtin.Tuple.tupleExact _) (wpAny_newObj_type (wpAny_pure (wpAny_pure ⟨_,rfl,wpAny_pure h⟩)) htake))
    | exact wpAny_bind (wpAny_bind (m:=Builtin.Tuple.tupleExact _) (wpAny_newObj_type (wpAny_pure ⟨_,rfl,wpAny_pure h⟩) htake))
end
end HT
namespace L2
open PySem PySem.Spec PyProof.Rows
abbrev TO:=St->Hp->(Option Int->Hp->Prop)->Prop
def PO (X:Cx) (e:Option Expr) (t:TO):Prop :=
  ∀ (pins:List (Addr × Obj)) (s:Shared) (σ:St) (H:Hp) (Q:Option Int->Hp->Prop),Inv X pins σ H s->t σ H Q ->
    wpAny (model X.prog X.w) X.A (evalPart e X.env) (fun u s'=>∃ o H',Inv X pins σ H' s'/\IsPart u o/\Q o H') X.xe s
def wf:TO:=fun _ H Q=>Q none H
def XV (t:TE):TO:=fun σ H Q=>t σ H fun x H1=>∃ i,x=.int i/\Q (some i) H1
section
variable {X:Cx} {e:Expr} {te:TE} {lo hi:Option Expr} {tl th:TO} {pos p2:Pos}
theorem Q7:PO X none wf:=by
  intro pins s σ H Q I h
  rw [evalPart_none]
  exact wpAny_pure ⟨none,H,I,.none,h⟩
theorem Q8 (h:PE X e te):PO X (some e) (XV te):=by
  intro pins s σ H Q I hw
  rw [evalPart_some]
  refine thn (h pins s σ H _ I hw) fun u s1 ⟨x,H1,I1,r1,q1⟩=>?_
  obtain ⟨i,rfl,q⟩:=q1
  obtain ⟨t,rfl⟩:=r1
  exact ⟨some i,H1,I1,.int i t,q⟩
def SlR (X:Cx) (r:V->Option Int->Option Int->Hp->VK->Prop):Prop :=
  ∀ (pins:List (Addr × Obj)) (s:Shared) (σ:St) (H:Hp) (x:V) (v vl vu:Value) (lo hi:Option Int) (sl:Addr) (Q:VK),Inv X pins σ H s->RelV x v->s.heap.IsSliceOf sl vl vu .none->IsPart vl lo->IsPart vu hi->r x lo hi H Q ->
    ∃ T id,typeLookup (.type T) "__getitem__"=pure (some (.builtin id))/\s.TypeIs v T/\wpAny (model X.prog X.w) X.A (getItem v (.ref sl)) (EP X pins σ Q) X.xe s
def tSl (r:V->Option Int->Option Int->Hp->VK->Prop) (te:TE) (tl th:TO):TE:=fun σ H Q=>te σ H fun x H1=>tl σ H1 fun l H2=>th σ H2 fun u H3=>r x l u H3 Q
theorem VP {r:V->Option Int->Option Int->Hp->VK->Prop} (hr:SlR X r) (he:PE X e te) (hl:PO X lo tl) (hu:PO X hi th):PE X (.Subscript e (.Slice lo hi none p2) pos) (tSl r te tl th):=by
  intro pins s σ H Q I h
  refine Subscript_ (thn (he pins s σ H _ I h) fun v s1 ⟨x,H1,I1,r1,q1⟩=>?_)
  refine wpAny_Slice (thn (hl pins s1 σ H1 _ I1 q1) fun vl s2 ⟨l,H2,I2,pl,q2⟩=>thn (hu pins s2 σ H2 _ I2 q2) fun vu s3 ⟨u,H3,I3,pu,q3⟩=>?_)
  rw [evalPart_none]
  refine wpAny_pure ?_
  have I4:Inv X pins σ H3 { s3 with heap:=s3.heap.push { cls:=.type "slice",data:=.fields #[vl,vu,.none] } }:=I3.kept (t':=s3.toks) fun b ob q=>Heap.get?_push_of_some _ q
  obtain ⟨T,id,hT,ht,hg⟩:=hr pins { s3 with heap:=s3.heap.push { cls:=.type "slice",data:=.fields #[vl,vu,.none] } } σ H3 x v vl vu l u s3.heap.objs.size Q I4 r1 (Heap.IsSliceOf.new ..) pl pu q3
  show wpAny (model X.prog X.w) X.A (subscriptTail e (.Slice lo hi none p2) v (.ref s3.heap.objs.size)) (EP X pins σ Q) X.xe { s3 with heap:=s3.heap.push { cls:=.type "slice",data:=.fields #[vl,vu,.none] } }
  exact tail_any (ops:=[.ref s3.heap.objs.size,v]) ht hT hg (by with_unfolding_all rfl)
def cutV (xs:List V) (lo hi:Option Int):List V:=(xs.drop (HT.sIx xs.length 0 lo)).take (HT.sIx xs.length xs.length hi - HT.sIx xs.length 0 lo)
theorem vf (xs:List V) (lo hi:Option Int):(cutV xs lo hi).length<=xs.length:=by
  unfold cutV
  rw [List.length_take,List.length_drop]
  lia
def rSlT (K:PySem.W.Frag):V->Option Int->Option Int->Hp->VK->Prop:=fun x lo hi H Q=>∃ a xs,x=.ref a/\SqT K H a xs /\
  ¬ (HT.sIx xs.length 0 lo=0/\HT.sIx xs.length xs.length hi=xs.length)/\∀ p,H p=none->Q (.ref p) (upd H p (.tup (cutV xs lo hi)))
theorem zcn:SlR X (rSlT X.K):=by
  intro pins s σ H x v vl vu lo hi sl Q I rx hs pl pu h
  obtain ⟨a,xs,rfl,hx,hw,q⟩:=h
  cases rx
  obtain ⟨its,r,ht,hz⟩:=I.tuple hx
  have hlen:its.toArray.size=xs.length:=by rw [List.size_toArray]; exact r.length.symm
  refine ⟨"tuple",_,PyProof.Rows.slot_tuple_getitem.lookup,ht.typeIs,?_⟩
  refine HT.getItem_tuple_cut ht hs pl pu (by rw [hlen]; exact hw) ?_ (by rw [hlen]; exact hz)
  rw [hlen]
  refine ⟨.ref s.heap.objs.size,_,I.laid (t':=s.toks) (o:=.tup (cutV xs lo hi)) (fun b ob q=>Heap.get?_push_of_some _ q) (Nat.le_refl _) ?_,rfl,q _ (I.hok.fresh (Nat.le_refl _))⟩
  exact ⟨Nat.le_trans (vf xs lo hi) hz,_,(r.drop (HT.sIx xs.length 0 lo)).take (HT.sIx xs.length xs.length hi - HT.sIx xs.length 0 lo),IsTupN.new _ _⟩
def zbz (K:PySem.W.Frag):R2:=fun x y H Q=>∃ a b xs ys,x=.ref a/\y=.ref b/\SqT K H a xs/\SqT K H b ys/\xs≠[]/\xs.length + ys.length<=sizeLine /\
  (ys=[]->Q (.ref a) H)/\(ys≠[]->∀ p,H p=none->Q (.ref p) (upd H p (.tup (xs ++ ys))))
theorem Vals.nil_iff {xs:List V} {us:List Value} (r:Vals xs us):us=[]↔xs=[]:=by
  cases r with
  | nil=>simp
  | cons _ _=>simp
theorem Q9:OpR X (binaryOp .Add) (zbz X.K):=by
  intro pins s σ H x y v u Q I rx ry h
  obtain ⟨a,b,xs,ys,rfl,rfl,ha,hb,hx,hz,q1,q2⟩:=h
  cases rx
  cases ry
  obtain ⟨its,r1,p1,_⟩:=I.tuple ha
  obtain ⟨its2,r2,p2,_⟩:=I.tuple hb
  refine HT.cat_tup p1 p2 (fun z=>hx (r1.nil_iff.mp z)) (fun z=>⟨.ref a,H,I,rfl,q1 (r2.nil_iff.mp z)⟩) (fun z=>?_) (by rw [<- r1.length,<- r2.length]; exact hz)
  refine ⟨.ref s.heap.objs.size,_,I.laid (t':=s.toks) (o:=.tup (xs ++ ys)) (fun b ob q=>Heap.get?_push_of_some _ q) (Nat.le_refl _) ?_,rfl,q2 (fun w=>z (r2.nil_iff.mpr w)) _ (I.hok.fresh (Nat.le_refl _))⟩
  exact ⟨by rw [List.length_append]; exact hz,_,r1.append r2,IsTupN.new _ _⟩
end
def ixN (n:Nat) (i:Int):Option Nat:=if 0<=i then (if i < n then some i.toNat else none) else if -(n:Int)<=i then some (i + n).toNat else none
def atI {α:Type} (xs:List α) (i:Int):Option α:=(ixN xs.length i).bind fun j=>xs[j]?
theorem XW {n:Nat} {i:Int} {j:Nat} (h:ixN n i=some j):seqIndex? i n=some j/\j < n/\-(n:Int)<=i/\i < n:=by
  unfold ixN at h
  by_cases h0:0<=i
  · rw [if_pos h0] at h
    by_cases h1:i < n
    · rw [if_pos h1] at h
      have e:i.toNat=j:=Option.some.inj h
      exact ⟨by rw [seqIndex_of h0 h1,e],by lia,by lia,h1⟩
    · rw [if_neg h1] at h; cases h
  · rw [if_neg h0] at h
    by_cases h1:-(n:Int)<=i
    · rw [if_pos h1] at h
      have e:(i + n).toNat=j:=Option.some.inj h
      exact ⟨by rw [seqIndex_neg (by lia) h1,e],by lia,h1,by lia⟩
    · rw [if_neg h1] at h; cases h
theorem XX {α:Type} {xs:List α} {i:Int} {v:α} (h:atI xs i=some v):∃ j,seqIndex? i xs.length=some j/\xs[j]?=some v/\j < xs.length/\-(xs.length:Int)<=i/\i < xs.length:=by
  unfold atI at h
  cases e:ixN xs.length i with
  | none=>rw [e] at h; cases h
  | some j =>
    rw [e] at h
    obtain ⟨h1,h2,h3,h4⟩:=XW e
    exact ⟨j,h1,h,h2,h3,h4⟩
theorem yT {α:Type} {xs:List α} {j:Nat} {v:α} (h:xs[j]?=some v):atI xs (j:Int)=some v:=by
  have hj:j < xs.length:=(List.getElem?_eq_some_iff.mp h).1
  have e:ixN xs.length (j:Int)=some j:=by
    unfold ixN
    rw [if_pos (by lia),if_pos (by lia)]; simp
  unfold atI; rw [e]; exact h
theorem aI0 {α:Type} {a:α} {r:List α}:atI (a :: r) 0=some a:=yT (j:=0) rfl
theorem VQ {α:Type} (xs:List α) (v:α):atI (xs ++ [v]) (-1)=some v:=by
  have hl:(xs ++ [v]).length=xs.length + 1:=by simp
  have e:ixN (xs ++ [v]).length (-1)=some xs.length:=by
    unfold ixN
    rw [hl,if_neg (by decide),if_pos (by lia)]
    congr 1
    lia
  unfold atI
  rw [e]
  show (xs ++ [v])[xs.length]?=some v
  simp
def Zs (b:Expr):Prop:=∀ o i,subscripted b false o i=operate [o,i] (getItem o i)
def IxR (X:Cx) (r:R2):Prop :=
  ∀ (value slice:Expr) (pins:List (Addr × Obj)) (s:Shared) (σ:St) (H:Hp) (x y:V) (v u:Value) (Q:VK),Inv X pins σ H s->RelV x v->RelV y u->r x y H Q ->
    subscripted slice false v u=operate [v,u] (getItem v u)->wpAny (model X.prog X.w) X.A (subscriptTail value slice v u) (EP X pins σ Q) X.xe s
def MtR (X:Cx) (id:String) (r:V->List V->Hp->VK->Prop):Prop :=
  ∀ (pins:List (Addr × Obj)) (s:Shared) (σ:St) (H:Hp) (x:V) (xs:List V) (v:Value) (us:List Value) (Q:VK),Inv X pins σ H s->RelV x v->Vals xs us->r x xs H Q ->
    wpAny (model X.prog X.w) X.A (call (.builtin id) (v :: us)) (EP X pins σ Q) X.xe s
section
variable {X:Cx} {a b:Expr} {ta tb:TE} {pos:Pos}
theorem zdj {r:R2} (hr:IxR X r) (ha:PE X a ta) (hb:PE X b tb) (hs:Zs b):PE X (.Subscript a b pos) (tOp r ta tb):=by
  intro pins s σ H Q I h
  exact Subscript_ (binT ha hb I h fun v u s2 x y H2 I2 rx ry q=>hr a b pins s2 σ H2 x y v u Q I2 rx ry q (hs _ _))
def rIxL (K:PySem.W.Frag):R2:=fun x y H Q=>∃ p xs i v,x=.ref p/\y=.int i/\SqL K H p xs/\atI xs i=some v/\Q v H
def rIxT (K:PySem.W.Frag):R2:=fun x y H Q=>∃ p xs i v,x=.ref p/\y=.int i/\SqT K H p xs/\atI xs i=some v/\Q v H
theorem zaa:IxR X (rIxL X.K):=by
  intro value slice pins s σ H x y v u Q I rx ry h hs
  obtain ⟨p,xs,i,z,rfl,rfl,hq,he,q⟩:=h
  cases rx
  obtain ⟨t,rfl⟩:=ry
  obtain ⟨its,r,pl,hz⟩:=I.list hq
  obtain ⟨j,h1,h2,h3,h4,h5⟩:=XX he
  obtain ⟨w,ew,rw'⟩:=r.get h2
  have hl:=r.length
  have hn:=vE
  have fin:EP X pins σ Q w s:=⟨z,H,I,rw',q⟩
  by_cases h0:0<=i
  · have hj:i.toNat=j:=by
      rw [seqIndex_of h0 h5] at h1
      exact Option.some.inj h1
    exact item_listR pl.isList h0 (by lia) (by rw [hj]; simpa using ew) fin hs
  · have hj:(i + (its.toArray.size:Int)).toNat=j:=by
      rw [seqIndex_neg (by lia) h4] at h1
      rw [List.size_toArray,<- hl]
      exact Option.some.inj h1
    exact subscriptTail_builtinR (x:=w) pl.isList.typeIs slot_list_getitem.lookup
      (wpAny_getItem_list_neg (Q:=fun r s'=>r=w/\EP X pins σ Q r s') pl.isList (by lia) (by rw [List.size_toArray] <;> lia) (by lia) (by rw [hj]; simpa using ew) ⟨rfl,fin⟩) hs
theorem zco:IxR X (rIxT X.K):=by
  intro value slice pins s σ H x y v u Q I rx ry h hs
  obtain ⟨p,xs,i,z,rfl,rfl,hq,he,q⟩:=h
  cases rx
  obtain ⟨t,rfl⟩:=ry
  obtain ⟨its,r,pl,hz⟩:=I.tuple hq
  obtain ⟨j,h1,h2,h3,h4,h5⟩:=XX he
  obtain ⟨w,ew,rw'⟩:=r.get h2
  have hl:=r.length
  have hn:=vE
  have fin:EP X pins σ Q w s:=⟨z,H,I,rw',q⟩
  exact subscriptTail_builtinR (x:=w) pl.typeIs slot_tuple_getitem.lookup
    (getItem_tuple (j:=j) (Q:=fun r s'=>r=w/\EP X pins σ Q r s') pl (by lia) (by lia) (by rw [List.size_toArray,<- hl]; exact h1) (by simpa using ew) ⟨rfl,fin⟩) hs
theorem Y0 (its:List Value) (n j:Nat) (u:Value):Obj.mapSeq (·.setIfInBounds j u) { cls:=.type "list",data:=.seq its.toArray n }={ cls:=.type "list",data:=.seq (its.set j u).toArray n }:=by
  simp [Obj.mapSeq]
theorem Inv.lst {pins:List (Addr × Obj)} {σ:St} {H:Hp} {s:Shared} {p:Addr} {xs:List V} (I:Inv X pins σ H s) (h:H p=some (.lst xs)) :
    ∃ (its:List Value) (n:Nat),Vals xs its/\s.heap.get? p=some { cls:=.type "list",data:=.seq its.toArray n }/\xs.length<=sizeLine:=by
  obtain ⟨z,its,n,r,e⟩:=I.hok p _ h
  exact ⟨its,n,r,e,z⟩
theorem Inv.lstUpd {pins:List (Addr × Obj)} {σ:St} {H:Hp} {s:Shared} {p:Addr} {xs ys:List V} {its its':List Value} {n n':Nat} {f:Obj->Obj} (I:Inv X pins σ H s) (h:H p=some (.lst xs))
    (ho:s.heap.get? p=some { cls:=.type "list",data:=.seq its.toArray n }) (hf:f { cls:=.type "list",data:=.seq its.toArray n }={ cls:=.type "list",data:=.seq its'.toArray n' }) (r:Vals ys its') (hz:ys.length<=sizeLine) (t:Nat) :
    Inv X pins σ (upd H p (.lst ys)) { s with heap:=s.heap.update p f,toks:=t }:=by
  have e:(s.heap.update p f).get? p=some { cls:=.type "list",data:=.seq its'.toArray n' }:=by
    rw [Heap.get?_update_self f ho (by rw [hf] <;> rfl),hf]
  refine I.write (x:=p) (e:=p) (by rw [h]; trivial) (.inl rfl) (fun b u hb q=>(Heap.get?_update_other _ _ (Ne.symm hb)).trans q) ⟨_,e⟩ ?_
  exact ⟨hz,its',n',r,e⟩
def zbA:V->V->V->Hp->(Hp->Prop)->Prop:=fun o i v H Q=>∃ p xs k j,o=.ref p/\i=.int k/\H p=some (.lst xs)/\ixN xs.length k=some j/\Q (upd H p (.lst (xs.set j v)))
theorem VR:PSet X zbA:=by
  intro pins s σ H o i v ov iv u Q I ro ri rv h
  obtain ⟨p,xs,k,j,rfl,rfl,hp,hj,q⟩:=h
  cases ro
  obtain ⟨t,rfl⟩:=ri
  obtain ⟨its,n,r,ho,hz⟩:=I.lst hp
  obtain ⟨h1,h2,h3,h4⟩:=XW hj
  have hl:=r.length
  have hn:=vE
  have I':Inv X pins σ (upd H p (.lst (xs.set j v))) { s with heap:=s.heap.update p (Obj.mapSeq (·.setIfInBounds j u)) } :=
    I.lstUpd hp ho (Y0 its n j u) (r.set rv j) (by rw [List.length_set]; exact hz) s.toks
  by_cases h0:0<=k
  · have hk:k.toNat=j:=by
      rw [seqIndex_of h0 h4] at h1
      exact Option.some.inj h1
    exact PySem.W.ki_setAt ho h0 (by lia) (by rw [List.size_toArray,<- hl]; exact h4) (by rw [hk]; exact ⟨_,I',q⟩)
  · have hk:(k + (its.toArray.size:Int)).toNat=j:=by
      rw [seqIndex_neg (by lia) h3] at h1
      rw [List.size_toArray,<- hl]
      exact Option.some.inj h1
    exact PySem.W.ki_setBack ho (by lia) (by rw [List.size_toArray,<- hl]; exact h3) (by lia) (by rw [hk]; exact ⟨_,I',q⟩)
theorem Zt (lo hi:Option Int) (n:Nat):(sliceBounds lo hi none n).1=((HT.sIx n 0 lo:Nat):Int)/\(sliceBounds lo hi none n).2.1=((HT.sIx n n hi:Nat):Int)/\(sliceBounds lo hi none n).2.2=1:=by
  refine ⟨?_,?_,rfl⟩
  · cases lo with
    | none=>simp [sliceBounds,HT.sIx]
    | some i =>
      simp only [sliceBounds,HT.sIx,Option.getD_none,show (1:Int) > 0 by decide,if_true]
      by_cases h:i < 0
      · simp only [h,if_true] <;> lia
      · simp only [h,if_false] <;> lia
  · cases hi with
    | none=>simp [sliceBounds,HT.sIx]
    | some i =>
      simp only [sliceBounds,HT.sIx,Option.getD_none,show (1:Int) > 0 by decide,if_true]
      by_cases h:i < 0
      · simp only [h,if_true] <;> lia
      · simp only [h,if_false] <;> lia
theorem ju (its:List Value) (lo hi:Option Int):slicePick its.toArray lo hi none=((its.drop (HT.sIx its.length 0 lo)).take (HT.sIx its.length its.length hi - HT.sIx its.length 0 lo)).toArray:=by
  obtain ⟨h1,h2,h3⟩:=Zt lo hi its.toArray.size
  unfold slicePick
  rw [h1,h2,h3]
  simp only [sliceRange_one,pick_run,List.size_toArray] <;> rfl
def rSlL (K:PySem.W.Frag):V->Option Int->Option Int->Hp->VK->Prop:=fun x lo hi H Q=>∃ a xs,x=.ref a/\SqL K H a xs/\∀ p,H p=none->Q (.ref p) (upd H p (.lst (cutV xs lo hi)))
theorem zab:SlR X (rSlL X.K):=by
  intro pins s σ H x v vl vu lo hi sl Q I rx hs pl pu h
  obtain ⟨a,xs,rfl,hx,q⟩:=h
  cases rx
  obtain ⟨its,r,ht,hz⟩:=I.list hx
  have hlen:=r.length
  refine ⟨"list",_,slot_list_getitem.lookup,ht.isList.typeIs,?_⟩
  refine wpAny_getItem_list_slice ht.isList hs pl pu .none (by simp) ?_ (by rw [List.size_toArray] <;> lia)
  rw [ju,<- hlen]
  refine ⟨.ref s.heap.objs.size,_,I.laid (t':=s.toks) (o:=.lst (cutV xs lo hi)) (fun b ob q=>Heap.get?_push_of_some _ q) (Nat.le_refl _) ?_,rfl,q _ (I.hok.fresh (Nat.le_refl _))⟩
  exact ⟨Nat.le_trans (vf xs lo hi) hz,_,0,(r.drop (HT.sIx xs.length 0 lo)).take (HT.sIx xs.length xs.length hi - HT.sIx xs.length 0 lo),Heap.get?_push_size _ rfl⟩
def wg:V->Bool
  | .non=>true
  | .bl _=>true
  | .int _=>true
  | .str _=>true
  | _=>false
def eqV:V->V->Bool
  | .non,.non=>true
  | .bl a,.bl b=>a == b
  | .bl a,.int b=>(if a then 1 else 0) == b
  | .int a,.bl b=>a == (if b then 1 else 0)
  | .int a,.int b=>a == b
  | .str a,.str b=>a == b
  | _,_=>false
theorem zcp {A:Around} {s:Shared} {y x:V} {u v:Value} (ry:RelV y u) (rx:RelV x v) (fy:wg y=true) (fx:wg x=true):SeqAt.EqAt A s u v (eqV y x):=by
  cases y with
  | non =>
    cases ry
    cases x with
    | non=>cases rx; exact SeqAt.EqAt.same _
    | bl b=>cases rx; exact SeqAt.EqAt.none_bool b
    | int b=>obtain ⟨t,rfl⟩:=rx; exact SeqAt.EqAt.none_int b t
    | str b=>obtain ⟨t,rfl⟩:=rx; exact SeqAt.EqAt.none_str b t
    | _=>exact absurd (show false=true from fx) Bool.false_ne_true
  | bl a =>
    cases ry
    cases x with
    | non=>cases rx; exact SeqAt.EqAt.bool_none a
    | bl b=>cases rx; exact SeqAt.EqAt.bool_bool a b
    | int b=>obtain ⟨t,rfl⟩:=rx; exact SeqAt.EqAt.bool_int a b t
    | str b=>obtain ⟨t,rfl⟩:=rx; exact SeqAt.EqAt.bool_str a b t
    | _=>exact absurd (show false=true from fx) Bool.false_ne_true
  | int a =>
    obtain ⟨t',rfl⟩:=ry
    cases x with
    | non=>cases rx; exact SeqAt.EqAt.int_none a t'
    | bl b=>cases rx; exact SeqAt.EqAt.int_bool a t' b
    | int b=>obtain ⟨t,rfl⟩:=rx; exact SeqAt.EqAt.int_int a t' b t
    | str b=>obtain ⟨t,rfl⟩:=rx; exact SeqAt.EqAt.int_str a t' b t
    | _=>exact absurd (show false=true from fx) Bool.false_ne_true
  | str a =>
    obtain ⟨t',rfl⟩:=ry
    cases x with
    | non=>cases rx; exact SeqAt.EqAt.str_none a t'
    | bl b=>cases rx; exact SeqAt.EqAt.str_bool a t' b
    | int b=>obtain ⟨t,rfl⟩:=rx; exact SeqAt.EqAt.str_int a t' b t
    | str b=>obtain ⟨t,rfl⟩:=rx; exact SeqAt.EqAt.str_str a t' b t
    | _=>exact absurd (show false=true from fx) Bool.false_ne_true
  | _=>exact absurd (show false=true from fy) Bool.false_ne_true
def eqU (x:V) (u:Value):Bool:=match u with
  | .none=>eqV .non x
  | .bool b=>eqV (.bl b) x
  | .int i _=>eqV (.int i) x
  | .str z _=>eqV (.str z) x
  | _=>false
theorem VS {x y:V} {u:Value} (r:RelV y u) (f:wg y=true):eqU x u=eqV y x:=by
  cases y with
  | non=>cases r; rfl
  | bl b=>cases r; rfl
  | int i=>obtain ⟨t,rfl⟩:=r; rfl
  | str z=>obtain ⟨t,rfl⟩:=r; rfl
  | _=>exact absurd (show false=true from f) Bool.false_ne_true
theorem wj {x:V}:∀ {xs:List V} {us:List Value},Vals xs us->xs.all wg=true->us.any (eqU x)=xs.any fun y=>eqV y x
  | _,_,.nil,_=>rfl
  | y :: xs,u :: us,.cons r t,f=>by
    rw [List.all_cons,Bool.and_eq_true] at f
    rw [List.any_cons,List.any_cons,VS r f.1,wj t f.2]
theorem xl {A:Around} {s:Shared} {x:V} {v:Value} (rx:RelV x v) (fx:wg x=true):∀ {xs:List V} {us:List Value},Vals xs us->xs.all wg=true->∀ u∈us,SeqAt.EqAt A s u v (eqU x u)
  | _,_,.nil,_=>fun u hu=>by cases hu
  | y :: xs,u :: us,.cons r t,f=>fun u' hu=>by
    rw [List.all_cons,Bool.and_eq_true] at f
    rcases List.mem_cons.mp hu with rfl | hu
    · rw [VS r f.1]; exact zcp r rx f.1 fx
    · exact xl rx fx t f.2 u' hu
def inV (x:V) (xs:List V):Bool:=xs.any fun y=>eqV y x
def rIn (K:PySem.W.Frag) (neg:Bool):R2:=fun x y H Q=>∃ p xs,y=.ref p/\(SqL K H p xs\/SqT K H p xs)/\wg x=true/\xs.all wg=true/\Q (.bl (if neg then !inV x xs else inV x xs)) H
theorem WV:OpR X (compareOp .In) (rIn X.K false):=by
  intro pins s σ H x y v u Q I rx ry h
  obtain ⟨p,xs,rfl,hq,fx,fs,q⟩:=h
  cases ry
  rcases hq with hq | hq
  · obtain ⟨its,r,pl,hz⟩:=I.list hq
    refine SeqAt.in_listAt (eqU x) pl.isList (fun w hw=>xl rx fx r fs w (by simpa using hw)) ⟨.bl _,H,I,rfl,?_⟩
    rw [show its.toArray.any (eqU x)=its.any (eqU x) by simp,wj r fs]
    exact q
  · obtain ⟨its,r,pl,hz⟩:=I.tuple hq
    refine SeqAt.in_tupleAt (eqU x) pl (fun w hw=>xl rx fx r fs w (by simpa using hw)) ⟨.bl _,H,I,rfl,?_⟩
    rw [show its.toArray.any (eqU x)=its.any (eqU x) by simp,wj r fs]
    exact q
theorem Zu:OpR X (compareOp .NotIn) (rIn X.K true):=by
  intro pins s σ H x y v u Q I rx ry h
  obtain ⟨p,xs,rfl,hq,fx,fs,q⟩:=h
  cases ry
  rcases hq with hq | hq
  · obtain ⟨its,r,pl,hz⟩:=I.list hq
    refine SeqAt.notIn_listAt (eqU x) pl.isList (fun w hw=>xl rx fx r fs w (by simpa using hw)) ⟨.bl _,H,I,rfl,?_⟩
    rw [show its.toArray.any (eqU x)=its.any (eqU x) by simp,wj r fs]
    exact q
  · obtain ⟨its,r,pl,hz⟩:=I.tuple hq
    refine SeqAt.notIn_tupleAt (eqU x) pl (fun w hw=>xl rx fx r fs w (by simpa using hw)) ⟨.bl _,H,I,rfl,?_⟩
    rw [show its.toArray.any (eqU x)=its.any (eqU x) by simp,wj r fs]
    exact q
theorem Zv:yM X (.builtin "len") (fun xs H Q=>∃ p ys,xs=[.ref p]/\(SqL X.K H p ys\/SqT X.K H p ys)/\Q (.int ys.length) H):=by
  intro pins s σ H xs us Q I r h
  obtain ⟨p,ys,rfl,hq,q⟩:=h
  obtain ⟨u,rfl,rx⟩:=xR r
  cases rx
  have hn:=vE
  rcases hq with hq | hq
  · obtain ⟨its,r',pl,hz⟩:=I.list hq
    have hlen:=r'.length
    exact Calls.call_len_list pl.isList (by simp only [List.size_toArray] <;> lia) ⟨.int ys.length,H,I.tok _,⟨s.toks + 1,by rw [List.size_toArray,hlen]⟩,q⟩
  · obtain ⟨its,r',pl,hz⟩:=I.tuple hq
    have hlen:=r'.length
    exact len_tuple pl (by simp only [List.size_toArray] <;> lia) ⟨.int ys.length,H,I.tok _,⟨s.toks + 1,by rw [List.size_toArray,hlen]⟩,q⟩
theorem Zw:yM X (.builtin "len") (fun xs H Q=>∃ z,xs=[.str z]/\z.length<=sizeLine/\Q (.int z.length) H):=by
  intro pins s σ H xs us Q I r h
  obtain ⟨z,rfl,hz,q⟩:=h
  obtain ⟨u,rfl,t,rfl⟩:=xR r
  have hn:=vE
  exact len_str (by lia) ⟨.int z.length,H,I.tok _,⟨_,rfl⟩,q⟩
theorem Zx:yM X (.type "list") (fun xs H Q=>∃ p ys,xs=[.ref p]/\(SqL X.K H p ys\/SqT X.K H p ys)/\∀ l,H l=none->Q (.ref l) (upd H l (.lst ys))):=by
  intro pins s σ H xs us Q I r h
  obtain ⟨p,ys,rfl,hq,q⟩:=h
  obtain ⟨u,rfl,rx⟩:=xR r
  cases rx
  have fin:∀ (its:List Value),Vals ys its->ys.length<=sizeLine->∀ (h':Heap) (c':Nat),(∀ b o',s.heap.get? b=some o'->h'.get? b=some o') ->
      h'.get? s.heap.objs.size=some { cls:=.type "list",dict:=none,data:=.seq its.toArray c',slots:=#[] }->EP X pins σ Q (.ref s.heap.objs.size) { s with heap:=h' }:=fun its r' hz h' c' kp e =>
    ⟨.ref s.heap.objs.size,_,I.laid (t':=s.toks) kp (Nat.le_refl _) (show ObjOk X.prog X.w _ h' _ (.lst ys) from ⟨hz,its,c',r',e⟩),rfl,q _ (I.hok.fresh (Nat.le_refl _))⟩
  rcases hq with hq | hq
  · obtain ⟨its,r',pl,hz⟩:=I.list hq
    have hlen:=r'.length
    obtain ⟨o,ho,hc,n,hd⟩:=pl.isList
    exact call_list_seq p (.inl rfl) ho hc hd (fun h' c' kp e=>fin its r' hz h' c' kp e) (by simp only [List.size_toArray] <;> lia)
  · obtain ⟨its,r',pl,hz⟩:=I.tuple hq
    have hlen:=r'.length
    obtain ⟨o,ho,hc,n,hd⟩:=pl
    exact call_list_seq p (.inr rfl) ho hc hd (fun h' c' kp e=>fin its r' hz h' c' kp e) (by simp only [List.size_toArray] <;> lia)
theorem jx:yM X (.type "tuple") (fun xs H Q=>∃ p ys,xs=[.ref p]/\((SqL X.K H p ys/\∀ l,H l=none->Q (.ref l) (upd H l (.tup ys)))\/(SqT X.K H p ys/\Q (.ref p) H))):=by
  intro pins s σ H xs us Q I r h
  obtain ⟨p,ys,rfl,h⟩:=h
  obtain ⟨u,rfl,rx⟩:=xR r
  cases rx
  rcases h with ⟨hq,q⟩ | ⟨hq,q⟩
  · obtain ⟨its,r',pl,hz⟩:=I.list hq
    have hlen:=r'.length
    refine call_tuple_list pl.isList (fun h' kp=>?_) (by simp only [List.size_toArray] <;> lia)
    have I1:Inv X pins σ H { s with heap:=h' }:=I.kept (t':=s.toks) kp
    have I2:Inv X pins σ (upd H h'.objs.size (.tup ys)) { s with heap:=h'.push { cls:=.type "tuple",data:=.seq its.toArray } } :=
      I1.laid (t':=s.toks) (fun b o e=>Heap.get?_push_of_some _ e) (Nat.le_refl _) (show ObjOk X.prog X.w _ _ _ (.tup ys) from ⟨hz,its,r',IsTupN.new _ _⟩)
    exact ⟨.ref h'.objs.size,_,I2,rfl,q _ (I1.hok.fresh (Nat.le_refl _))⟩
  · obtain ⟨its,r',pl,hz⟩:=I.tuple hq
    exact call_tuple_same pl ⟨.ref p,H,I,rfl,q⟩
def tyV (K:PySem.W.Frag) (T:String) (x:V) (H:Hp):Prop:=match x with
  | .str _=>T="str"
  | .int _=>T="int"
  | .ref p=>(T="list"/\∃ xs,SqL K H p xs)\/(T="tuple"/\((∃ o,K.lookup p=some o/\o.cls=.type "tuple"/\o.dict=none)\/∃ xs,H p=some (.tup xs))) \/
      (T="dict"/\((∃ kvs,H p=some (.dK kvs))\/∃ kvs,H p=some (.dT kvs)))\/(T="set"/\∃ S n,H p=some (.set S n))
  | _=>False
theorem VT {pins:List (Addr × Obj)} {σ:St} {H:Hp} {s:Shared} {T:String} {x:V} {v:Value} (I:Inv X pins σ H s) (r:RelV x v) (ty:tyV X.K T x H) :
    s.TypeIs v T/\∀ a,v=.ref a->∃ ob,s.heap.get? a=some ob/\ob.dict=none:=by
  cases x with
  | str z =>
    obtain ⟨t,rfl⟩:=r
    cases (show T="str" from ty)
    exact ⟨typeIs_str s z t,fun _ e=>nomatch e⟩
  | int i =>
    obtain ⟨t,rfl⟩:=r
    cases (show T="int" from ty)
    exact ⟨typeIs_int s i t,fun _ e=>nomatch e⟩
  | ref p =>
    cases r
    rcases ty with ⟨rfl,xs,hq⟩ | ⟨rfl,⟨o,hk,hc,hd⟩ | ⟨xs,hk⟩⟩ | ⟨rfl,hk⟩ | ⟨rfl,S,n,hk⟩
    · obtain ⟨its,_,pl,_⟩:=I.list hq
      refine ⟨pl.isList.typeIs,fun a e=>?_⟩
      cases e
      obtain ⟨o,n,e,c,hd,_⟩:=pl
      exact ⟨o,e,hd⟩
    · refine ⟨⟨o,I.kIn p o hk,hc⟩,fun a e=>?_⟩
      cases e
      exact ⟨o,I.kIn _ o hk,hd⟩
    · obtain ⟨_,_,_,o,ho,hc,hd,_⟩:=I.hok p _ hk
      refine ⟨⟨o,ho,hc⟩,fun a e=>?_⟩
      cases e
      exact ⟨o,ho,hd⟩
    · have z:∃ o,s.heap.get? p=some o/\o.ExactDict:=by
        rcases hk with ⟨kvs,hk⟩ | ⟨kvs,hk⟩
        · obtain ⟨_,_,_,_,o,_,_,e,ex,_⟩:=I.hok p _ hk
          exact ⟨o,e,ex⟩
        · obtain ⟨_,_,_,_,o,_,_,e,ex,_⟩:=I.hok p _ hk
          exact ⟨o,e,ex⟩
      obtain ⟨o,e,ex⟩:=z
      refine ⟨⟨o,e,ex.1⟩,fun a e2=>?_⟩
      cases e2
      exact ⟨o,e,ex.2.1⟩
    · obtain ⟨o,_,_,_,e,ex,_⟩:=I.hok p _ hk
      refine ⟨⟨o,e,ex.1⟩,fun a e2=>?_⟩
      cases e2
      exact ⟨o,e,ex.2.1⟩
  | _=>exact False.elim ty
def tBM0 (K:PySem.W.Frag) (T:String) (r:V->List V->Hp->VK->Prop) (to:TE):TE:=fun σ H Q=>to σ H fun x H1=>tyV K T x H1/\r x [] H1 Q
def tBM (K:PySem.W.Frag) (T:String) (r:V->List V->Hp->VK->Prop) (to:TE) (t:TA):TE:=fun σ H Q=>to σ H fun x H1=>tyV K T x H1/\t σ H1 fun xs H2=>r x xs H2 Q
variable {o e:Expr} {es:List Expr} {to:TE} {t:TA} {name:Str} {apos cpos:Pos} {T id:String} {r:V->List V->Hp->VK->Prop}
theorem zcq (pa:PlainAttrs T) (slot:Slot T name id) (hty:typeOf (.builtin id)=pure (.type "method_descriptor")) (hm:MtR X id r) (ho:PE X o to)
    (hbase:attributeBase o name X.env (eval o X.env)=eval o X.env:=by rfl) (hline:(apos.endLine == cpos.line)=true:=by rfl):PE X (.Call (.Attribute o name apos) [] [] cpos) (tBM0 X.K T r to):=by
  intro pins s σ H Q I h
  refine wpAny_Call_method0_late hbase hline (thn (ho pins s σ H _ I h) fun v s1 ⟨x,H1,I1,r1,ty,q1⟩=>?_)
  obtain ⟨h1,h2⟩:=VT I1 r1 ty
  exact ⟨T,id,pa,slot,hty,h1,h2,Calls.callWith_builtin rfl (PySem.evalArgs_none (hm pins s1 σ H1 x [] v [] Q I1 r1 .nil q1))⟩
theorem zdk (pa:PlainAttrs T) (slot:Slot T name id) (hty:typeOf (.builtin id)=pure (.type "method_descriptor")) (hm:MtR X id r) (ho:PE X o to) (ha:PA X (e :: es) t)
    (hbase:attributeBase o name X.env (eval o X.env)=eval o X.env:=by rfl)
    (hfew:((backTo cpos (starEach (e :: es) X.env)).all (fun x=>!x.1) && (backToKw cpos (keywordEach [] X.env)).all (fun x=>x.1.isSome)
      && decide ((e :: es).length + ([]:List Keyword).length + (if ([]:List Keyword).isEmpty then 0 else 1) < 30))=true:=by rfl)
    (hline:(apos.endLine == cpos.line)=true:=by rfl) (hs:starEach (e :: es) X.env=(false,eval e X.env) :: starEach es X.env:=by rfl) (hplain:(backTo cpos (starEach es X.env)).any (·.1)=false:=by rfl) :
    PE X (.Call (.Attribute o name apos) (e :: es) [] cpos) (tBM X.K T r to t):=by
  intro pins s σ H Q I h
  refine wpAny_Call_method_late hbase hfew hline rfl (thn (ho pins s σ H _ I h) fun v s1 ⟨x,H1,I1,r1,ty,q1⟩=>?_)
  obtain ⟨h1,h2⟩:=VT I1 r1 ty
  refine ⟨T,id,pa,slot,hty,h1,h2,?_⟩
  have hA:=ha cpos pins s1 σ H1 _ I1 q1
  rw [hs] at hA ⊢
  refine Calls.callWith_builtin (by show (false || (backTo cpos (starEach es X.env)).any (·.1))=false; rw [hplain] <;> rfl) (Calls.evalArgs_plain ?_)
  exact thn hA fun us s2 ⟨vs,H2,I2,r2,q2⟩=>hm pins s2 σ H2 x vs v us Q I2 r1 r2 q2
end
def MtM (X:Cx) (id:String) (r:V->List V->Hp->VK->Prop):Prop :=
  ∀ (pins:List (Addr × Obj)) (s:Shared) (σ:St) (H:Hp) (x:V) (xs:List V) (v:Value) (us:List Value) (Q:VK),Inv X pins σ H s->RelV x v->Vals xs us->r x xs H Q ->
    wpAny (model X.prog X.w) X.A (call (.builtin id) (v :: us)) (EP X pins σ Q) X.xe s
theorem Vals.one:∀ {x:V} {us:List Value},Vals [x] us->∃ u,us=[u]/\RelV x u
  | _,_,.cons r .nil=>⟨_,rfl,r⟩
theorem Vals.two:∀ {x y:V} {us:List Value},Vals [x,y] us->∃ u v,us=[u,v]/\RelV x u/\RelV y v
  | _,_,_,.cons r (.cons q .nil)=>⟨_,_,rfl,r,q⟩
theorem Vals.zero:∀ {us:List Value},Vals [] us->us=[]
  | _,.nil=>rfl
theorem Vals.dropLast {xs:List V} {us:List Value} (h:Vals xs us):Vals xs.dropLast us.dropLast:=by
  induction h with
  | nil=>exact .nil
  | cons r t ih =>
    cases t with
    | nil=>exact .nil
    | cons q t'=>exact .cons r ih
theorem Vals.rep {xs:List V} {us:List Value} (h:Vals xs us):∀ k:Nat,Vals (List.replicate k xs).flatten (List.replicate k us).flatten
  | 0=>.nil
  | k + 1=>by
    rw [List.replicate_succ,List.replicate_succ,List.flatten_cons,List.flatten_cons]
    exact Vals.append h (Vals.rep h k)
theorem Y1 {α:Type} (l:List α):l.eraseIdx (l.length - 1)=l.dropLast:=by
  induction l with
  | nil=>rfl
  | cons a r ih =>
    cases r with
    | nil=>rfl
    | cons b r =>
      have e:(a :: b :: r).length - 1=((b :: r).length - 1) + 1:=by
        have h1:(a :: b :: r).length=r.length + 2:=rfl
        have h2:(b :: r).length=r.length + 1:=rfl
        lia
      rw [e,List.eraseIdx_cons_succ,ih]
      all_goals rfl
theorem jQ (its:List Value):∀ (k:Nat) (acc:List Value),
    List.foldl (fun x1 x2=>x1 ++ x2) acc.toArray (List.replicate k its.toArray)=(acc ++ (List.replicate k its).flatten).toArray
  | 0,acc=>by simp
  | k + 1,acc=>by
    have e:acc.toArray ++ its.toArray=(acc ++ its).toArray:=by simp
    have e2:(acc ++ its) ++ (List.replicate k its).flatten=acc ++ (List.replicate (k + 1) its).flatten:=by
      rw [List.replicate_succ,List.flatten_cons,List.append_assoc]
    rw [<- e2,<- jQ its k (acc ++ its),<- e,List.replicate_succ,List.foldl_cons]
section
variable {X:Cx} {pins:List (Addr × Obj)} {σ:St} {H:Hp} {s:Shared} {l b:Addr} {xs ys zs:List V}
theorem Inv.lset {its its':List Value} {n:Nat} {f:Array Value->Array Value} {t':Nat} (I:Inv X pins σ H s) (hH:H l=some (.lst xs))
    (e:s.heap.get? l=some { cls:=.type "list",data:=.seq its.toArray n }) (hf:f its.toArray=its'.toArray) (hv:Vals ys its') (hz:ys.length<=sizeLine) :
    Inv X pins σ (upd H l (.lst ys)) { s with heap:=s.heap.update l (Obj.mapSeq f),toks:=t' }:=by
  have q:=PySem.IsL.update e f
  rw [hf] at q
  refine I.write (x:=l) (e:=l) (by rw [hH]; exact trivial) (.inl rfl) (fun b' u hb hu=>(Heap.get?_update_other s.heap (Obj.mapSeq f) (Ne.symm hb)).trans hu) ⟨_,q⟩ ?_
  exact ⟨hz,its',_,hv,q⟩
theorem Inv.lnew {its:List Value} {t':Nat} (I:Inv X pins σ H s) (hv:Vals ys its) (hz:ys.length<=sizeLine) :
    Inv X pins σ (upd H s.heap.objs.size (.lst ys)) { s with heap:=s.heap.push { cls:=.type "list",data:=.seq its.toArray },toks:=t' } :=
  I.laid (fun _ _ q=>Heap.get?_push_of_some _ q) (Nat.le_refl _) ⟨hz,its,0,hv,Heap.get?_push_size _ rfl⟩
theorem Inv.fresh (I:Inv X pins σ H s):H s.heap.objs.size=none:=I.hok.fresh (Nat.le_refl _)
theorem Inv.lstM (I:Inv X pins σ H s) (hH:H l=some (.lst xs)):xs.length<=sizeLine/\∃ (its:List Value) (n:Nat),Vals xs its/\xs.length=its.length/\s.heap.get? l=some { cls:=.type "list",data:=.seq its.toArray n }:=by
  obtain ⟨z,its,n,r,e⟩:=I.hok l _ hH
  exact ⟨z,its,n,r,r.length,e⟩
theorem Ya {n:Nat} (h:n<=sizeLine):Builtin.List.listTooLong n=false:=by
  unfold Builtin.List.listTooLong
  exact decide_eq_false (by lia)
end
section
variable {X:Cx}
def XY:V->List V->Hp->VK->Prop:=fun x vs H Q=>∃ l xs y,x=.ref l/\vs=[y]/\H l=some (.lst xs)/\xs.length < sizeLine/\Q .non (upd H l (.lst (xs ++ [y])))
theorem WW:MtM X "list.append" XY:=by
  intro pins s σ H x vs v us Q I rx rv h
  obtain ⟨l,xs,y,rfl,rfl,hH,hz,q⟩:=h
  cases rx
  obtain ⟨u,rfl,ru⟩:=rv.one
  obtain ⟨z,its,n,r,hl,e⟩:=I.lstM hH
  refine call_meets F.slot_list_append ⟨_,e,rfl⟩ F.entry_list_append (F.args_list_append_2 _ _) (PySem.list_append l its.toArray n u (by rw [List.size_toArray]; lia)) ⟨e,?_⟩
  refine ⟨.non,_,I.lset (its':=its ++ [u]) hH e (by simp) (r.append (.cons ru .nil)) ?_,rfl,q⟩
  rw [List.length_append,List.length_singleton]
  lia
def XZ:V->List V->Hp->VK->Prop:=fun x vs H Q=>∃ l b xs zs,x=.ref l/\vs=[.ref b]/\H l=some (.lst xs)/\H b=some (.lst zs)/\xs.length + zs.length<=sizeLine/\Q .non (upd H l (.lst (xs ++ zs)))
theorem WX:MtM X "list.extend" XZ:=by
  intro pins s σ H x vs v us Q I rx rv h
  obtain ⟨l,b,xs,zs,rfl,rfl,hH,hB,hz,q⟩:=h
  cases rx
  obtain ⟨u,rfl,ru⟩:=rv.one
  cases ru
  obtain ⟨z,its,n,r,hl,e⟩:=I.lstM hH
  obtain ⟨z2,its2,n2,r2,hl2,e2⟩:=I.lstM hB
  have hsz:its.toArray.size + its2.toArray.size<=sizeLine:=by rw [List.size_toArray,List.size_toArray]; lia
  have hlong:¬ (!its.toArray.isEmpty && Builtin.List.listTooLong (its.toArray.size + its2.toArray.size))=true:=by
    rw [Ya hsz,Bool.and_false]
    exact Bool.false_ne_true
  refine call_meets F.slot_list_extend ⟨_,e,rfl⟩ F.entry_list_extend (F.args_list_extend_2 _ _)
    (AutoSeq1.list_extend_list_list_0 l its.toArray n b its2.toArray n2 hlong (by rw [List.size_toArray]; lia) (by lia)) ⟨e,e2,?_⟩
  refine ⟨.non,_,I.lset (its':=its ++ its2) hH e (by simp) (r.append r2) ?_,rfl,q⟩
  rw [List.length_append]
  lia
def rPop:V->List V->Hp->VK->Prop:=fun x vs H Q=>∃ l xs y,x=.ref l/\vs=[]/\H l=some (.lst xs)/\xs[xs.length - 1]?=some y/\Q y (upd H l (.lst xs.dropLast))
theorem zcr:MtM X "list.pop" rPop:=by
  intro pins s σ H x vs v us Q I rx rv h
  obtain ⟨l,xs,y,rfl,rfl,hH,hy,q⟩:=h
  cases rx
  have hus:=rv.zero
  subst hus
  obtain ⟨z,its,n,r,hl,e⟩:=I.lstM hH
  obtain ⟨u,hu,ru⟩:=r.get hy
  have hy':its.toArray[its.toArray.size - 1]?=some u:=by
    show its.toArray[its.length - 1]?=some u
    rw [<- Array.getElem?_toList,<- hl]
    exact hu
  refine call_meets F.slot_list_pop ⟨_,e,rfl⟩ F.entry_list_pop (F.args_list_pop_1 _) (MeetsSeq.list_pop_last l its.toArray n u hy' (by rw [List.size_toArray]; lia)) ⟨e,?_⟩
  refine ⟨y,_,I.lset (its':=its.dropLast) hH e ?_ r.dropLast ?_,ru,q⟩
  · show its.toArray.eraseIdxIfInBounds (its.toArray.size - 1)=its.dropLast.toArray
    rw [List.size_toArray,List.eraseIdxIfInBounds_toArray,Y1]
  · rw [List.length_dropLast]
    lia
def rCat:R2:=fun x y H Q=>∃ l b xs zs,x=.ref l/\y=.ref b/\H l=some (.lst xs)/\H b=some (.lst zs)/\xs.length + zs.length<=sizeLine/\∀ p,H p=none->Q (.ref p) (upd H p (.lst (xs ++ zs)))
theorem zcs:OpR X (binaryOp .Add) rCat:=by
  intro pins s σ H x y v u Q I rx ry h
  obtain ⟨l,b,xs,zs,rfl,rfl,hH,hB,hz,q⟩:=h
  cases rx
  cases ry
  obtain ⟨z,its,n,r,hl,e⟩:=I.lstM hH
  obtain ⟨z2,its2,n2,r2,hl2,e2⟩:=I.lstM hB
  refine PySem.P.add_list e e2 ?_ (by rw [List.size_toArray,List.size_toArray]; lia)
  have ea:its.toArray ++ its2.toArray=(its ++ its2).toArray:=by simp
  rw [ea]
  exact ⟨.ref _,_,I.lnew (t':=s.toks) (r.append r2) (by rw [List.length_append]; lia),rfl,q _ I.fresh⟩
def rRep:R2:=fun x y H Q=>∃ l k xs,x=.ref l/\y=.int k/\H l=some (.lst xs)/\-(2 ^ 63)<=k/\k < 2 ^ 63/\xs.length * k.toNat<=sizeLine /\
  ∀ p,H p=none->Q (.ref p) (upd H p (.lst (List.replicate k.toNat xs).flatten))
theorem zac {α:Type} (xs:List α) (k:Nat):(List.replicate k xs).flatten.length=k * xs.length:=by
  induction k with
  | zero=>simp
  | succ k ih=>rw [List.replicate_succ,List.flatten_cons,List.length_append,ih,Nat.succ_mul,Nat.add_comm]
theorem zct:OpR X (binaryOp .Mult) rRep:=by
  intro pins s σ H x y v u Q I rx ry h
  obtain ⟨l,k,xs,rfl,rfl,hH,h1,h2,hz,q⟩:=h
  cases rx
  obtain ⟨t,rfl⟩:=ry
  obtain ⟨z,its,n,r,hl,e⟩:=I.lstM hH
  have hlen:its.toArray.size * k.toNat<=sizeLine:=by rw [List.size_toArray,<- hl]; exact hz
  have hcap:¬ its.toArray.size * k.toNat > (2 ^ 63 - 1) / 8:=by
    have:(sizeLine:Nat)<=(2 ^ 63 - 1) / 8:=by decide
    lia
  have hfit:¬ (!Builtin.List.listFitsIndex k)=true:=by
    rw [fitsIndex_both h1 h2]
    exact Bool.false_ne_true
  have hlong:¬ Builtin.List.listTooLong (its.toArray.size * k.toNat)=true:=by
    rw [Ya hlen]
    exact Bool.false_ne_true
  have hnew:List.foldl (fun x1 x2=>x1 ++ x2) #[] (List.replicate (if its.toArray.isEmpty=true then 0 else k.toNat) its.toArray)=(List.replicate k.toNat its).flatten.toArray:=by
    have f0:∀ m:Nat,List.foldl (fun x1 x2=>x1 ++ x2) #[] (List.replicate m its.toArray)=(List.replicate m its).flatten.toArray:=fun m=>by
      have:=jQ its m []
      rw [List.nil_append] at this
      exact this
    rw [f0]
    cases its with
    | nil=>simp
    | cons a r'=>rw [if_neg (by simp)]
  refine wpAny_binaryOp_repeat_ref (T:="list") (U:="int") (by decide) ⟨_,e,rfl⟩ (fun s'=>typeIs_int s' k t) noFill_list_mul F.fills_int_mul F.slot_int_rmul repeat_list F.slot_int_index.lookup
    (call_meets F.slot_int_rmul (typeIs_int s k t) F.entry_int_rmul (F.args_int_rmul_2 _ _) (int___rmul___int_list k t l its.toArray n)
      ⟨e,rfl,⟨_,e,rfl⟩,call_meets F.slot_list_mul ⟨_,e,rfl⟩ F.entry_list_mul (F.args_list_mul_2 _ _) (AutoListH.list___mul___list_int_3 l its.toArray n k t hfit hcap hlong) ⟨e,?_⟩⟩)
  rw [hnew]
  exact ⟨.ref _,_,I.lnew (t':=s.toks) (r.rep k.toNat) (by rw [zac,Nat.mul_comm]; exact hz),rfl,q _ I.fresh⟩
end
section
variable {prog:Program} {w:World} {A:Around} {E:Value->Shared->Prop} {s:Shared}
end
section
variable {X:Cx}
end
end L2
namespace Att
open PySem PySem.W PySem.Calls PyProof.Rows
theorem vn {P:Params} {h:Heap}:∀ (ns:List Int) (vs:List Value),WellAll P h vs (ns.map WData.int)->IntsAre vs ns:=by
  intro ns
  induction ns with
  | nil =>
    intro vs w
    rw [List.map_nil] at w
    cases w
    exact .nil
  | cons n ns ih =>
    intro vs w
    rw [List.map_cons] at w
    cases w with
    | cons a b =>
      cases a
      exact .cons _ _ (ih _ b)
theorem WY {l:OpenLaw} {n:Nat} (hn:l.most=some n) {P:Params} {h:Heap} {args:List WData} {vals:List Value}
    (hpre:l.row.toRowW.claim.pre args=true) (hwl:WellAll P h vals args) :
    ∃ a vs ns,vals=[Value.ref a]/\args=[WData.list (ns.map WData.int)]/\h.get? a=some { cls:=.type "list",data:=.seq vs.toArray }/\IntsAre vs ns/\ns.length<=n:=by
  have hsh:WShape.hasAll [] args [.list .int]=true:=(pre_splitW hpre).1
  have hc:l.pre.holds [] { args:=args }=true:=(pre_splitW hpre).2
  obtain ⟨d,r,rfl,h1,h2⟩:=hasAllW_cons hsh
  obtain rfl:=hasAllW_nil h2
  obtain ⟨xs,rfl,h3⟩:=hasW_list h1
  obtain ⟨ns,rfl⟩:=items_int h3
  have hlen:ns.length<=n:=by
    unfold OpenLaw.pre at hc
    have h4:(WTm.not (.lt (.lit (.int (n:Int))) (.len (.arg 0)))).holds [] { args:=[.list (ns.map .int)] }=true:=by
      have h4:=(holds_andW hc).1
      rw [hn] at h4
      exact h4
    have h5:=condW_of h4 (w_not (w_lt w_lit (w_len_list (w_arg rfl))))
    rw [List.length_map] at h5
    refine Nat.le_of_not_lt fun q=>?_
    have q':(n:Int) < ((ns.length:Nat):Int):=by lia
    first
      | (rw [decide_eq_true q'] at h5; exact absurd h5 (by decide))
      | (simp at h5; lia)
  cases hwl with
  | cons w1 w2 =>
    cases w2
    cases w1 with
    | list ho hall=>exact ⟨_,_,ns,rfl,rfl,ho,vn ns _ hall,hlen⟩
theorem WZ (l:OpenLaw) (args:List WData):l.row.toRowW.claim.post args (.bool true) args=true :=
  postW_of (r:=l.row.toRowW) (X:=(true == true))
    (show WShape.has [] (.bool true) .bool=true by first | rfl | decide | simp [WShape.has,WShape.arms,WShape.armsAll])
    (show (WTm.eq .res (.lit (.bool true))).value [] { args:=args,res:=some (.bool true),after:=args }=some (.bool (true == true)) from w_eq_bool (w_res rfl) w_lit) rfl
theorem attach_call {l:OpenLaw} {n:Nat} {q:Program} {loose:List Str} {XP:(Str->Option Value)->Heap->Prop} {YP:World->Heap->Prop} {d:DefRec}
    (hn:l.most=some n) (hdf:d.params.defaults=[])
    (call:∀ (w:World) (s₀ s₁:Shared) (mg mb:Str->Option Value) (fa:Addr) (o:Obj) (pm cd doc:Value) (a:Addr) (vs:List Value) (ns:List Int),
      Ground q loose [] XP w s₀ mg mb s₁.heap->YP w s₁.heap ->
      s₁.heap.get? fa=some o->o.data=.func (docDef d.name d.params d.body d.scope pm cd doc)->s₁.heap.CodeRec cd d.name->mg d.name=some (.ref fa) ->
      s₁.heap.get? a=some { cls:=.type "list",data:=.seq vs.toArray }->IntsAre vs ns->ns.length<=n->s₁.gens=#[] ->
      codeAny (model l.prog w) callerA (.call (.ref fa) ⟨[.ref a],[]⟩) (fun r s'=>r=.ok (.ret (.bool true))/\OldK s₁.heap s'.heap/\s'.os=s₁.os/\AllBare s'.gens) s₁) :
    WalkO q loose XP YP l.row.toRowW d [] (fun f vs=>PySem.call f vs):=by
  intro w s₀ s₁ mg mb G Y fa o pm cd doc dV kV ho hd hcd hD hmg hg args vals as hpre hlay hrd hwl hlo
  obtain rfl:dV=.none:=Dflts.none hD hdf
  obtain rfl:kV=.none:=Dflts.noKw hD
  obtain ⟨a,vs,ns,rfl,rfl,hobj,hints,hlen⟩:=WY hn hpre hwl
  refine enter_call (codeAny_mono (call w s₀ s₁ mg mb fa o pm cd doc a vs ns G Y ho (fd_plain hd) hcd hmg hobj hints hlen hg) fun r s' hq=>?_)
  obtain ⟨rfl,h2,h3,h4⟩:=hq
  exact ⟨.inl ⟨.bool true,.bool true,[],rfl,fun _=>rfl,.bool true,WZ l _,fun _=>⟨List.Pairwise.nil,fun _ hm=>(nomatch hm)⟩⟩,h2,h3,h4⟩
section
variable {prog:Program} {w:World} {A:Around} {E:Value->Shared->Prop} {s:Shared} {K:Frag}
def zdK (h:Heap) (L d:Addr):List (Addr × Obj):=(List.range h.objs.size).filterMap fun a=>if a=L\/a=d then none else (h.get? a).map fun o=>(a,o)
end
end Att
namespace L2
open PySem PySem.Spec PyProof.Rows
theorem jR:∀ {vs:List Value} {ns:List Int},IntsAre vs ns->Vals (ns.map V.int) vs
  | _,_,.nil=>.nil
  | _,_,.cons n t h=>.cons ⟨t,rfl⟩ (jR h)
def Only (H:Hp):Prop:=∀ b,H b=none\/∃ o xs,H b=some (.frz o (.lst xs))
theorem VU {P:Program} {w:World} {K:PySem.W.Frag} {mg mb:Str->Option Value} {CX:CXT} {k:Nat} {fa a:Addr} {fd:FuncData} {x:Str} {sp:Sp} {s₁:Shared} {vs:List Value} {ns:List Int}
    (KX:K.In s₁.heap) (hns:s₁.heap.Ns mainGlobals mg) (hb:s₁.heap.Ns builtinsNs mb) (hbb:∀ x:Str,x≠"__name__"->mb x=bootBuiltins x) (hlim:s₁.heap.NoLimit) (hg:s₁.gens=#[])
    (ha:s₁.heap.get? a=some { cls:=.type "list",data:=.seq vs.toArray }) (hi:IntsAre vs ns) (hl:ns.length<=sizeLine) (hr:Room k callerA)
    (F:∀ base:Heap,K.In base->base.Ns mainGlobals mg->FnOk P w K mg base CX k fa fd [x] sp) (hbind:∀ (s:Shared) (u:Value),BindsTo s fd ⟨[u],[]⟩ [(x,u)])
    (hsp:∀ H:Hp,Only H->SqL K H a (ns.map V.int)->sp [.ref a] H (fun v _=>v=.bl true) fun _ _ _=>False)
    (hCX:∀ H e s',CX [] H s₁ (fun _ _ _=>False) e s'->False) :
    codeAny (model P w) callerA (.call (.ref fa) ⟨[.ref a],[]⟩) (fun r s'=>r=.ok (.ret (.bool true))/\OldK s₁.heap s'.heap/\s'.os=s₁.os/\AllBare s'.gens) s₁:=by
  have rv:=jR hi
  have lenV:=hi.length
  have core:∀ H:Hp,Only H->SqL K H a (ns.map V.int)->HOk P w H s₁.heap->(∀ b,H b≠none->b=a)->(H a≠none->K.lookup a=none) ->
      codeAny (model P w) callerA (.call (.ref fa) ⟨[.ref a],[]⟩) (fun r s'=>r=.ok (.ret (.bool true))/\OldK s₁.heap s'.heap/\s'.os=s₁.os/\AllBare s'.gens) s₁:=by
    intro H hO hS hok hA hK
    have base_of:∀ {b:Addr} {o:Obj},s₁.heap.get? b=some o->H b=none->(hidT s₁.heap H).get? b=some o:=fun e n=>Vu e n
    have noA:∀ {b:Addr} {o:Obj} {es:Array DictEntry} {ep:Nat},s₁.heap.get? b=some o->o.data=.dict es ep->H b=none:=fun {b o es ep} e d=>by
      cases q:H b with
      | none=>rfl
      | some u =>
        have e':b=a:=hA b (by rw [q]; simp)
        subst e'
        rw [ha] at e; cases e
        have d':Data.seq vs.toArray _=Data.dict es ep:=d
        cases d'
    have nsK:∀ {b:Addr} {m:Str->Option Value},s₁.heap.Ns b m->(hidT s₁.heap H).Ns b m:=fun {b m} ⟨o,es,ep,e,d,r⟩=>⟨o,es,ep,base_of e (noA e d),d,r⟩
    have hKb:K.In (hidT s₁.heap H):=fun b o e=>base_of (KX b o e) (by
      cases q:H b with
      | none=>rfl
      | some u =>
        have e':b=a:=hA b (by rw [q]; simp)
        subst e'
        rw [hK (by rw [q]; simp)] at e; cases e)
    have hM:Mod K mg (hidT s₁.heap H):=⟨hKb,nsK hns,⟨mb,nsK hb,hbb⟩,let ⟨mc,h1,h2⟩:=hlim; ⟨mc,nsK h1,h2⟩⟩
    have e0:Env0 P w K mg (hidT s₁.heap H) callerA [] s₁ H:=⟨rfl,hM,fun b o e=>QL e,Nat.le_of_eq (WL _ _),trivial,fun b hb=>absurd (show b∈([]:List Addr) from hb) (by simp),hok,.of_eq hg⟩
    refine codeAny_mono ((F _ hKb (nsK hns)).run callerA [] s₁ H ⟨[.ref a],[]⟩ [.ref a] [.ref a] _ _ hr e0 (hbind s₁ (.ref a)) (.cons rfl .nil) (hsp H hO hS)) fun r s' h=>?_
    cases r with
    | error e=>exact (hCX H e s' h).elim
    | ok fl =>
      cases fl with
      | next=>exact False.elim h
      | brk=>exact False.elim h
      | cont=>exact False.elim h
      | ret u =>
        obtain ⟨v,H',os,bare,un,hok',r',q⟩:=h
        have q':v=.bl true:=q
        subst q'
        obtain rfl:u=Value.bool true:=r'
        refine ⟨rfl,OldK.of_keep fun b o e=>?_,os,bare⟩
        cases q:H b with
        | none=>exact un.keep b o e q (by intro z; exact absurd (show b∈([]:List Addr) from z) (by simp)) (by simp)
        | some u =>
          rcases hO b with z | ⟨ob,xs,z⟩
          · rw [q] at z; cases z
          · have z2:=un.frzs b ob _ z
            obtain ⟨e1,_⟩:=hok b _ z
            obtain ⟨e2,_⟩:=hok' b _ z2
            rw [e] at e1; cases e1
            exact e2
  cases hk:K.lookup a with
  | some o =>
    have e:=KX a o hk
    rw [ha] at e
    cases e
    refine core (fun _=>none) (fun _=>.inl rfl) (.inr ⟨_,vs.toArray,_,hk,rfl,rfl,rfl,by rw [List.size_toArray,lenV]; exact hl,by simpa using rv⟩) (fun b u z=>by have z':(none:Option HO)=some u:=z; cases z') (fun b z=>absurd rfl z) fun z=>absurd rfl z
  | none =>
    refine core (fun b=>if b=a then some (.frz { cls:=.type "list",data:=.seq vs.toArray } (.lst (ns.map V.int))) else none) (fun b=>?_) (.inl (.inr ⟨{ cls:=.type "list",data:=.seq vs.toArray },if_pos rfl⟩)) (fun b u z=>?_) (fun b z=>?_) fun _=>hk
    · by_cases hb:b=a
      · exact .inr ⟨_,_,if_pos hb⟩
      · exact .inl (if_neg hb)
    · by_cases hb:b=a
      · have z':=(if_pos hb).symm.trans z
        cases z'
        subst hb
        exact ⟨ha,by rw [List.length_map]; exact hl,vs,_,rv,ha⟩
      · have z':=(if_neg hb).symm.trans z
        cases z'
    · by_cases hb:b=a
      · exact hb
      · exact absurd (if_neg hb) z
theorem walk_of {l:PySem.W.OpenLaw} {n k:Nat} {q:Program} {loose:List Str} {XP:(Str->Option Value)->Heap->Prop} {YP:World->Heap->Prop} {d:DefRec} {K:Params->PySem.W.Frag} {CX:World->CXT} {sp:World->Sp} {x:Str}
    (hn:l.most=some n) (hn2:n<=sizeLine) (hdf:d.params.defaults=[]) (hr:Room k callerA)
    (hY:∀ (w:World) (h:Heap),YP w h->(K w.params).In h)
    (F:∀ (w:World) (mg:Str->Option Value) (fa:Addr) (h:Heap),(K w.params).In h->h.Ns mainGlobals mg->mg d.name=some (.ref fa) ->
      ∃ fd:FuncData,(∀ (s:Shared) (u:Value),BindsTo s fd ⟨[u],[]⟩ [(x,u)]) /\
        ∀ base:Heap,(K w.params).In base->base.Ns mainGlobals mg->FnOk l.prog w (K w.params) mg base (CX w) k fa fd [x] (sp w))
    (hsp:∀ (w:World) (H:Hp) (a:Addr) (ns:List Int),ns.length<=n->Only H->SqL (K w.params) H a (ns.map V.int)->sp w [.ref a] H (fun v _=>v=.bl true) fun _ _ _=>False)
    (hCX:∀ (w:World) (H:Hp) (s:Shared) (e:Value) (s':Shared),CX w [] H s (fun _ _ _=>False) e s'->False) :
    PySem.W.WalkO q loose XP YP l.row.toRowW d [] (fun f vs=>PySem.call f vs):=by
  refine Att.attach_call hn hdf fun w s₀ s₁ mg mb fa o pm cd doc a vs ns G Y ho hd hcd hmg hobj hints hlen hg=>?_
  have KX:=hY w _ Y
  obtain ⟨fd,hb,hF⟩:=F w mg fa _ KX G.T.g hmg
  exact VU KX G.T.g G.T.b G.T.builtins G.T.nolimit hg hobj hints (Nat.le_trans hlen hn2) hr hF hb (fun H hO hS=>hsp w H a ns hlen hO hS) fun H e s'=>hCX w H s₁ e s'
end L2
/- THE LAST THEOREM (shape; LID, My.* are yours):
   My.Adr: a structure of the addresses that your layer names (classes,functions); My.Txt K t: a structure (Prop) of the equations over K;
   My.txt_mk:{K} {implicit addresses ..} (e1:nsIn K mainGlobals "law"=some (some (.ref f))) (e2:K.lookup f=some ⟨oc,od,.func (fnOf "law" "law" params body scope dV kV doc pm an cdv ct),sl⟩) (e3:codeIn K cdv "law"=true) ..:∃ t,My.Txt K t
set_option maxRecDepth 100000 in
set_option maxHeartbeats 0 in
theorem PySem.Challenge.cw_LID_holds : PySem.Challenge.rw_LID.Holds := by
  w_on; o_law; k_head; (case hw=>w_witness2)
  k_fill
  refine L2.walk_of (l:=PySem.Challenge.rw_LID) (n:=63) (k:=40) (x:="script") (CX:=fun w=>..) (sp:=fun _=>My.sp_law) rfl (by decide) rfl ⟨rfl,by decide,by decide⟩ (fun w h Y=>PySem.W.kIn_of Y) ?F ?S ?C
  case F =>
    intro w mg fa h KX G hmg
    have T:∃ t,My.Txt (L2.KOf KX) t:=by
      dsimp only [L2.KOf]                          -- K must stand as «<heap const> w.params» for k_is
      refine' My.txt_mk ?e1 ?e2 ?e3 ..
      (case e1 => PySem.W.k_is)                    -- in the order: a name -> its address -> its object -> its parts
      (case e2=>PySem.W.k_is)
      ..
    obtain ⟨t,T⟩:=T
    have e0:=hmg.symm.trans (PySem.W.mg_of KX G T.law)
    cases e0                                       -- fa is the law's own address
    exact ⟨_, fun s u => .of_eq rfl, fun base kb nb => My.law_fn T kb nb⟩     -- if «.of_eq rfl» comes too early: refine' ⟨_, ?b, fun base kb nb => My.law_fn T kb nb⟩; exact fun s u => .of_eq rfl
  case S=>exact fun w H a ns hl hO hS=>..
  case C=>exact ..
(the tactic k_is has no namespace: write k_is) -/
namespace L2
open PySem PySem.Spec PyProof.Rows
def yh (s:Stmt) (j:Nat):Stmt:=match s with
  | .ClassDef _ _ _ body _ _ _ _ _ _ _=>body.getD j (.Pass ⟨0,0,0,0⟩)
  | _=>.Pass ⟨0,0,0,0⟩
def yD (s:Stmt):Arguments:=match s with
  | .FunctionDef _ a _ _ _ _ _ _ _ _=>a
  | _=>{ posonlyargs:=[],args:=[],vararg:=none,kwonlyargs:=[],kw_defaults:=[],kwarg:=none,defaults:=[] }
def yp (s:Stmt):List Stmt:=match s with
  | .FunctionDef _ _ b _ _ _ _ _ _ _=>b
  | _=>[]
def zj (s:Stmt):Scope:=match s with
  | .FunctionDef _ _ _ _ _ _ sc _ _ _=>sc
  | _=>{ kind:=.function,names:=[],isGenerator:=false,isCoroutine:=false }
abbrev CX0:CXT:=fun _ _ _ _ _ _=>False
abbrev E0:XK:=fun _ _ _=>False
theorem yv {X:Cx}:yA CX0 X E0:=fun _ _ _ _ _ _ _ h=>h.elim
structure Fun (K:PySem.W.Frag) (x qual:Str) (st:Stmt) (f:Addr) (fd:FuncData):Prop where
  ex:∃ (oc:Value) (od:Option Addr) (kV doc pm:Value) (an:Option Addr) (cdv ct:Value) (osl:Array (Option Value)),
    fd=PySem.W.fnOf x qual (yD st) (yp st) (zj st) .none kV doc pm an cdv ct/\K.lookup f=some ⟨oc,od,.func fd,osl⟩/\PySem.W.codeIn K cdv qual=true
  kp:PySem.W.keepIn K (.ref f)=true
section
variable {P:Program} {w:World} {K:PySem.W.Frag} {mg:Str->Option Value} {base:Heap}
theorem Fun.ok {x qual:Str} {st:Stmt} {f:Addr} {fd:FuncData} {N ps:List Str} {k:Nat} {sp:Sp} (F:Fun K x qual st f fd) (S:FnScope N ps (zj st)) (len:∀ vs H Q E,sp vs H Q E->vs.length=ps.length)
    (hbody:∀ (cdv:Value) (A:Around) (outer:List Env) (s:Shared) (H:Hp) (vs:List V) (Q:VK) (E:XK),Room k (A.deeper (envOfC qual (zj st) s.heap.objs.size f cdv))->sp vs H Q E ->
      ∃ t,PSs (cxOf CX0 P w K mg base N qual (zj st) f cdv A outer s H E).nox (yp st) t/\t { nx:=fun _ H'=>Q .non H',rt:=Q } (start N vs) H):FnOk P w K mg base CX0 (k + 1) f fd ps sp:=by
  obtain ⟨oc,od,kV,doc,pm,an,cdv,ct,osl,rfl,lk,hcd⟩:=F.ex
  refine zby lk hcd S len fun A outer s H vs Q E hr hsp=>?_
  obtain ⟨t,h,q⟩:=hbody cdv A outer s H vs Q E hr hsp
  exact ⟨t,h.nox,q⟩
theorem Fun.binds {x qual:Str} {st:Stmt} {f:Addr} {fd:FuncData} {ps:List Str} (F:Fun K x qual st f fd)
    (h:∀ (kV doc pm:Value) (an:Option Addr) (cdv ct:Value) (us:List Value),us.length=ps.length->bindArgs (PySem.W.fnOf x qual (yD st) (yp st) (zj st) .none kV doc pm an cdv ct) ⟨us,[]⟩=pure (ps.zip us)):Binds K fd ps []:=by
  obtain ⟨oc,od,kV,doc,pm,an,cdv,ct,osl,rfl,lk,hcd⟩:=F.ex
  exact .all (h kV doc pm an cdv ct)
theorem VV {x qual:Str} {st:Stmt} {f:Addr} {oc:Value} {od an:Option Addr} {osl:Array (Option Value)} {kV doc pm cdv ct:Value} (l:K.lookup f=some ⟨oc,od,.func (PySem.W.fnOf x qual (yD st) (yp st) (zj st) .none kV doc pm an cdv ct),osl⟩)
    (c:PySem.W.codeIn K cdv qual=true) (k:PySem.W.keepIn K (.ref f)=true):Fun K x qual st f (PySem.W.fnOf x qual (yD st) (yp st) (zj st) .none kV doc pm an cdv ct):=⟨⟨oc,od,kV,doc,pm,an,cdv,ct,osl,rfl,l,c⟩,k⟩
end
section
variable {X:Cx}
theorem pv (i:Nat) {x:Str} {pos:Pos} (hN:X.N[i]?=some x:=by rfl) (hv:Vis X.env.scope x:=by first | exact Or.inl rfl | exact Or.inr (Or.inl rfl) | exact Or.inr (Or.inr rfl)) (hd:(x == ("__debug__":Str))=false:=by decide)
    (hcd:(x == ("__classdict__":Str))=false:=by decide):PE X (.Name x pos) (tVar i):=zbT hN hv hd hcd
end
theorem iteF {A B:Prop} (h:B):if false=true then A else B:=by
  rw [if_neg Bool.false_ne_true]
  exact h
theorem iteT {A B:Prop} (h:A):if true=true then A else B:=by
  rw [if_pos rfl]
  exact h
theorem ite2 {c A B:Prop} [Decidable c] (h1:c->A) (h2:¬ c->B):if c then A else B:=by
  by_cases h:c
  · rw [if_pos h]
    exact h1 h
  · rw [if_neg h]
    exact h2 h
theorem zdl {c A B:Prop} [Decidable c] (hc:c) (h:B):if (!decide c)=true then A else B:=by
  rw [decide_eq_true hc]
  exact iteF h
def Same (H H':Hp):Prop:=∀ b o,H b=some o->H' b=some o
theorem Same.refl (H:Hp):Same H H:=fun _ _ h=>h
theorem Same.trans {H H1 H2:Hp} (a:Same H H1) (b:Same H1 H2):Same H H2:=fun c o h=>b c o (a c o h)
theorem Same.free {H H':Hp} (e:Same H H') {l:Addr} (h:H' l=Option.none):H l=Option.none:=by
  cases q:H l with
  | none=>rfl
  | some o =>
    rw [e l o q] at h
    cases h
theorem Same.seq {K:PySem.W.Frag} {H H':Hp} {a:Addr} {xs:List V} (e:Same H H') (h:SqL K H a xs):SqL K H' a xs:=by
  rcases h with (h | ⟨o,h⟩) | h
  · exact .inl (.inl (e _ _ h))
  · exact .inl (.inr ⟨o,e _ _ h⟩)
  · exact .inr h
def AllIn (env:Env):List (Str × Addr)->Prop
  | []=>True
  | p :: r=>env.cells.lookup p.1=some p.2/\AllIn env r
theorem AllIn.get {env:Env}:∀ {cl:List (Str × Addr)} {y:Str} {c:Addr},AllIn env cl->cl.lookup y=some c->env.cells.lookup y=some c
  | [],_,_,_,h=>by simp at h
  | (n,a) :: r,y,c,⟨e,t⟩,h=>by
    rw [List.lookup_cons] at h
    by_cases q:y=n
    · subst q
      rw [beq_self_eq_true] at h
      cases h
      exact e
    · have q':(y == n)=false:=beq_eq_false_iff_ne.mpr q
      rw [q'] at h
      exact AllIn.get t h
def wk:List Nat->St->St
  | [],σ=>σ
  | i :: S,σ=>wk S (σ.set i none)
theorem xE:∀ (S:List Nat) (σ:St),(wk S σ).length=σ.length
  | [],_=>rfl
  | i :: S,σ=>by rw [wk,xE S,List.length_set]
theorem jU:∀ (S:List Nat) (σ:St) {j:Nat} {v:V},(wk S σ)[j]?=some (some v)->σ[j]?=some (some v)/\j ∉ S
  | [],_,_,_,h=>⟨h,by simp⟩
  | i :: S,σ,j,v,h=>by
    obtain ⟨h1,h2⟩:=jU S (σ.set i none) h
    rw [List.getElem?_set] at h1
    by_cases e:i=j
    · rw [if_pos e] at h1
      split at h1 <;> cases h1
    · rw [if_neg e] at h1
      exact ⟨h1,fun z=>(List.mem_cons.mp z).elim (fun z=>e z.symm) h2⟩
structure LcOk (X:Cx) (scope:Scope) (cl:List (Str × Addr)) (S:List Nat):Prop where
  clos:closureFor scope X.env=pure cl
  kind:scope.kind=.function
  noC:scope.names.all (fun y=>y.2 != .cell)=true
  loc:scope.names.all (fun y=>y.2 != .local || scope.names.lookup y.1 == some .local)=true
  own:X.N.zipIdx.all (fun y=>S.contains y.2 || scope.names.lookup y.1 != some .local)=true
  sub:AllIn X.env cl
  has:scope.names.all (fun p=>p.2 != .free || ((cl.lookup p.1).isSome && (X.env.kindOf p.1 == some .cell || X.env.kindOf p.1 == some .free)))=true
section
variable {X:Cx} {scope:Scope} {cl:List (Str × Addr)} {S:List Nat}
theorem LcOk.nocell (L:LcOk X scope cl S):∀ y∈scope.names,y.2≠.cell:=fun y hy=>by
  have h:=List.all_eq_true.mp L.noC y hy
  exact bne_iff_ne.mp h
theorem LcOk.locs (L:LcOk X scope cl S):∀ y∈scope.names,y.2=.local->scope.names.lookup y.1=some .local:=fun y hy e=>by
  have h:=List.all_eq_true.mp L.loc y hy
  rw [e] at h
  simpa using h
theorem LcOk.apart (L:LcOk X scope cl S):∀ (i:Nat) (y:Str),X.N[i]?=some y->i ∉ S->scope.names.lookup y≠some .local:=fun i y hy hi=>by
  have h:=List.all_eq_true.mp L.own (y,i) (List.mem_zipIdx_iff_getElem?.mpr hy)
  have hc:S.contains i=false:=by simpa using hi
  rw [hc,Bool.false_or] at h
  exact bne_iff_ne.mp h
theorem LcOk.free (L:LcOk X scope cl S) {y:Str} (h:scope.names.lookup y=some .free):(∃ c,cl.lookup y=some c)/\(X.env.kindOf y=some .cell\/X.env.kindOf y=some .free):=by
  have h1:=List.all_eq_true.mp L.has _ (PySem.mem_of_lookup h)
  simp only [bne_self_eq_false,Bool.false_or,Bool.and_eq_true,Bool.or_eq_true,beq_iff_eq] at h1
  exact ⟨Option.isSome_iff_exists.mp h1.1,h1.2⟩
theorem yN (names:List (Str × NameKind)) (env:Env) (y:Str) :
    (names.map fun (n,k)=>if (k == NameKind.free && env.scope.kind == .function && env.kindOf n == some .cell) then (n,NameKind.cell) else (n,k)).lookup y =
      (names.lookup y).map fun k=>if (k == NameKind.free && env.scope.kind == .function && env.kindOf y == some .cell) then NameKind.cell else k:=by
  induction names with
  | nil=>rfl
  | cons p r ih =>
    obtain ⟨n,k⟩:=p
    rw [List.map_cons]
    by_cases q:y=n
    · subst q
      by_cases hc:(k == NameKind.free && env.scope.kind == .function && env.kindOf y == some .cell)=true
      · show List.lookup y ((if (k == NameKind.free && env.scope.kind == .function && env.kindOf y == some .cell)=true then (y,NameKind.cell) else (y,k)) :: _)=_
        rw [if_pos hc,List.lookup_cons,List.lookup_cons,beq_self_eq_true]
        show some NameKind.cell=some (if _ then _ else _)
        rw [if_pos hc]
      · show List.lookup y ((if (k == NameKind.free && env.scope.kind == .function && env.kindOf y == some .cell)=true then (y,NameKind.cell) else (y,k)) :: _)=_
        rw [if_neg hc,List.lookup_cons,List.lookup_cons,beq_self_eq_true]
        show some k=some (if _ then _ else _)
        rw [if_neg hc]
    · have q':(y == n)=false:=beq_eq_false_iff_ne.mpr q
      by_cases hc:(k == NameKind.free && env.scope.kind == .function && env.kindOf n == some .cell)=true
      · show List.lookup y ((if (k == NameKind.free && env.scope.kind == .function && env.kindOf n == some .cell)=true then (n,NameKind.cell) else (n,k)) :: _)=_
        rw [if_pos hc,List.lookup_cons,List.lookup_cons,q']
        exact ih
      · show List.lookup y ((if (k == NameKind.free && env.scope.kind == .function && env.kindOf n == some .cell)=true then (n,NameKind.cell) else (n,k)) :: _)=_
        rw [if_neg hc,List.lookup_cons,List.lookup_cons,q']
        exact ih
theorem LcOk.kinds (L:LcOk X scope cl S) {y:Str} (h:(relabel scope X.env).names.lookup y=some .cell\/(relabel scope X.env).names.lookup y=some .free):scope.names.lookup y=some .free:=by
  have e:(relabel scope X.env).names.lookup y=(scope.names.lookup y).map fun k=>if (k == NameKind.free && X.env.scope.kind == .function && X.env.kindOf y == some .cell) then NameKind.cell else k:=yN scope.names X.env y
  rw [e] at h
  cases q:scope.names.lookup y with
  | none=>rw [q] at h; rcases h with h | h <;> cases h
  | some k =>
    have hk:k≠.cell:=L.nocell _ (PySem.mem_of_lookup q)
    rw [q] at h
    by_cases hf:k=.free
    · rw [hf]
    · have z:(k == NameKind.free)=false:=beq_eq_false_iff_ne.mpr hf
      rw [Option.map_some,z,Bool.false_and,Bool.false_and,if_neg Bool.false_ne_true] at h
      rcases h with h | h
      · exact absurd (Option.some.inj h) hk
      · exact absurd (Option.some.inj h) hf
def cxLC (X:Cx) (scope:Scope) (cl:List (Str × Addr)) (M:List Str) (C:Addr) (s₀:Shared) (H₀:Hp) (ex:List Addr) (E:Value->Shared->Prop):Cx where
  prog:=X.prog
  w:=X.w
  K:=X.K
  mg:=X.mg
  base:=X.base
  A:=X.A
  N:=X.N ++ M
  s₀:=s₀
  H₀:=H₀
  env:=compEnvC scope cl C X.env
  outer:=X.stack
  stack:=X.stack
  ex:=ex
  fn:=fun _=>false
  calm:=X.calm
  pn:=[]
  xe:=E
variable {pins:List (Addr × Obj)} {σ:St} {H:Hp} {s:Shared} {ex:List Addr} {M:List Str} {C:Addr}
theorem VW {E:Value->Shared->Prop} {h1:Heap} {tk:Nat} {m:Str->Option Value} (I:Inv X pins σ H s) (L:LcOk X scope cl S) (hf:∀ b∈ex,FpOk X pins H b) (hlt:∀ b∈ex,b < s.heap.objs.size)
    (hk:∀ b o,s.heap.get? b=some o->h1.get? b=some o) (hC:s.heap.objs.size<=C) (hns:h1.Ns C m) :
    Inv (cxLC X scope cl M C s H ex E) [] (wk S σ ++ List.replicate M.length none) H { s with heap:=h1,toks:=tk }:=by
  refine ⟨⟨I.ok.mod,L.kind,I.ok.glob,I.ok.blt,hC,fun x y c a b=>I.ok.inj x y c (L.sub.get a) (L.sub.get b),fun y hy=>(L.free (L.kinds hy)).1,(fun x c z=>nomatch z),I.ok.hd,I.ok.frames,.inl rfl,fun b hb=>⟨?_,fun x c e=>?_⟩,
      I.bs,Nat.le_trans I.ok.bsz I.sz,fun b o e hb=>?_,fun b hb z=>?_,I.stack,I.stkFree⟩,
    rfl,I.bare,Un.kept hk,⟨m,hns,fun i y v e1 e2 e3=>?_⟩,fun y c e=>?_,I.hok.fresh hC,fun y c e=>I.freeC y c (L.sub.get e),fun p hp=>absurd (show p∈([]:List (Addr × Obj)) from hp) (by simp),I.hok.kept hk,?_⟩
  · exact Nat.ne_of_lt (Nat.lt_of_lt_of_le (hlt b hb) hC)
  · exact (hf b hb).2.2.2.2.1 x c (L.sub.get e)
  · rcases (hf b hb).2.2.2.1 with z | z
    · exact I.ok.noex b o e z
    · exact absurd (Nat.lt_of_lt_of_le (Heap.lt_size e) (Nat.le_trans I.ok.bsz z)) (Nat.lt_irrefl _)
  · rcases List.mem_cons.mp (I.stkSub b z) with q | q
    · exact (hf b hb).2.1 q
    · exact (hf b hb).2.2.1 q
  · have e1':(X.N ++ M)[i]?=some y:=e1
    by_cases hi:i < σ.length
    · rw [List.getElem?_append_left (by rw [xE]; exact hi)] at e2
      obtain ⟨e2,hiS⟩:=jU S σ e2
      rw [List.getElem?_append_left (by rw [<- I.len]; exact hi)] at e1'
      obtain ⟨m0,hn0,hl⟩:=I.loc
      have hy:scope.names.lookup y=some .free:=by
        rcases e3 with e3 | e3
        · have q:=yN scope.names X.env y
          have e3':(relabel scope X.env).names.lookup y=some .local:=e3
          cases z:scope.names.lookup y with
          | none =>
            rw [z] at q
            have q':(relabel scope X.env).names.lookup y=none:=q
            rw [e3'] at q'; cases q'
          | some k =>
            have hk1:k≠.local:=fun w=>L.apart i y e1' hiS (w ▸ z)
            rw [z,Option.map_some] at q
            have q':some NameKind.local=some (if (k == NameKind.free && X.env.scope.kind == .function && X.env.kindOf y == some .cell)=true then NameKind.cell else k):=e3'.symm.trans q
            have q2:=Option.some.inj q'
            by_cases hc:(k == NameKind.free && X.env.scope.kind == .function && X.env.kindOf y == some .cell)=true
            · rw [if_pos hc] at q2; cases q2
            · rw [if_neg hc] at q2; exact absurd q2.symm hk1
        · exact L.kinds e3
      obtain ⟨⟨c,hc⟩,hk2⟩:=L.free hy
      obtain ⟨u,r,l⟩:=hl i y v e1' e2 (.inr hk2)
      refine ⟨u,r,.inr ⟨?_,c,hc,?_⟩⟩
      · have q:=yN scope.names X.env y
        rw [hy,Option.map_some] at q
        have q':(relabel scope X.env).names.lookup y=some (if (NameKind.free == NameKind.free && X.env.scope.kind == .function && X.env.kindOf y == some .cell)=true then NameKind.cell else NameKind.free):=q
        by_cases hc:(NameKind.free == NameKind.free && X.env.scope.kind == .function && X.env.kindOf y == some .cell)=true
        · rw [if_pos hc] at q'; exact .inl q'
        · rw [if_neg hc] at q'; exact .inr q'
      · rcases l with ⟨l1,_⟩ | ⟨_,c',e',z⟩
        · rcases hk2 with w | w <;> (rw [l1] at w; cases w)
        · have ec:c'=c:=by
            have w:=L.sub.get hc
            rw [e'] at w
            exact Option.some.inj w
          subst ec
          obtain ⟨o,ho,hd⟩:=z
          exact ⟨o,hk _ _ ho,hd⟩
    · rw [List.getElem?_append_right (by rw [xE]; exact Nat.not_lt.mp hi),List.getElem?_replicate] at e2
      split at e2 <;> cases e2
  · obtain ⟨v,o,ho,hd⟩:=I.cell y c (L.sub.get e)
    exact ⟨v,o,hk _ _ ho,hd⟩
  · show (wk S σ ++ List.replicate M.length none).length=(X.N ++ M).length
    rw [List.length_append,List.length_append,List.length_replicate,xE,I.len]
def PTs (X:Cx) (ifs:List Expr) (t:TT):Prop :=
  ∀ (pins:List (Addr × Obj)) (s:Shared) (σ:St) (H:Hp) (Q:Bool->Hp->Prop),Inv X pins σ H s->t σ H Q ->
    wpAny (model X.prog X.w) X.A (forIn ifs true fun c r=>if r=true then do let ok <- isTrue c X.env (eval c X.env); pure (ForInStep.yield ok) else pure (ForInStep.yield r)) (TP X pins σ Q) X.xe s
def tYes:TT:=fun _ H Q=>Q true H
theorem zad {X:Cx}:PTs X [] tYes:=fun _ _ _ H _ I h=>wpAny_tests_nil ⟨H,I,h⟩
def lcBy (J:It) (g:TG) (tt:TT) (te:TE) (Q:VK) (W:Nat->Nat->St->List V->Hp->Prop):Prop:=∀ i m τ ys H,W i m τ ys H ->
  (J.stop i H/\∀ p,H p=none->Q (.ref p) (upd H p (.lst ys))) \/
  (J.go i H/\∃ N:St->List V->Hp->Prop,(∀ τ' ys' H',N τ' ys' H'->∃ m',m' < m/\W (i + 1) m' τ' ys' H')/\∀ x H',J.yld i H x H'->g x τ H' fun τ2 H2=>tt τ2 H2 fun b H3 =>
    if b=true then te τ2 H3 fun y H4=>ys.length < sizeLine/\N τ2 (ys ++ [y]) H4 else N τ2 ys H3)
def tLC (wi:TI) (g:TG) (tt:TT) (te:TE) (n:Nat):TE:=fun σ H Q=>wi σ H fun J H1=>∃ W,(∃ m,W 0 m (σ ++ List.replicate n none) [] H1)/\lcBy J g tt te Q W
def tLCS (S:List Nat) (wi:TI) (g:TG) (tt:TT) (te:TE) (n:Nat):TE:=fun σ H Q=>wi σ H fun J H1=>∃ W,(∃ m,W 0 m (wk S σ ++ List.replicate n none) [] H1)/\lcBy J g tt te Q W
theorem zae {tg elt iter:Expr} {ifs:List Expr} {pos:Pos} {g:TG} {tt:TT} {te:TE} {J:It} {fp:List Addr} {it:Addr} {tn:Nat->Heap->Prop} {Q:VK} {E:Value->Shared->Prop} {R:Value->Addr->Result->Shared->Prop} {Al:Addr->(Value->Shared->Prop)->Prop}
    {W:Nat->Nat->St->List V->Hp->Prop} {m0:Nat} (L:LcOk X scope cl S) (hc:X.calm=true) (I:Inv X pins σ H s) (T:Turn X.prog X.w X.K tg J fp it tn) (st:tn 0 s.heap) (hf:∀ b∈fp,FpOk X pins H b)
    (hg:∀ C s H ex E,PG (cxLC X scope cl M C s H ex E) tg g) (ht:∀ C s H ex E,PTs (cxLC X scope cl M C s H ex E) ifs tt) (he:∀ C E,Al C E->PE (cxLC X scope cl M C s H fp E) elt te)
    (hal:∀ C,s.heap.objs.size < C->Al C (notedBy (model X.prog X.w) X.A (compEnvC scope cl C X.env) (fun e s'=>R (.ref s.heap.objs.size) C (.error e) s')))
    (w0:W 0 m0 (wk S σ ++ List.replicate M.length none) [] H) (turn:lcBy J g tt te Q W)
    (hR:∀ D C s' H' ys m,Inv X pins σ (upd H' D (.lst ys)) s'->FpOk X pins (upd H' D (.lst ys)) C->s'.heap.Ns C m->Q (.ref D) (upd H' D (.lst ys))->R (.ref D) C (.ok .next) s') :
    wpAny (model X.prog X.w) X.A (newList []) (fun acc s₃=>wpAny (model X.prog X.w) X.A (newFunctionEnv scope X.env.globals cl [] X.env.qual none .none (some X.env)) (fun cenv s₄ =>
      codeAny (model X.prog X.w) X.A (.compStart (.ListComp elt [⟨tg,iter,ifs,0⟩] scope pos) 0 (.ref it) acc { cenv with scope:=relabel scope X.env }) (R acc cenv.locals) s₄) E s₃) E s:=by
  refine wpAny_newObj_type (wpAny_newFunctionEnv L.nocell (by intro y hy; simp at hy) (fun h₁ hns₁ hsb₁=>?_) L.kind)
  dsimp only at hns₁ hsb₁ ⊢
  generalize hG:s.heap.push { cls:=.type "list",dict:=none,data:=.seq ([]:List Value).toArray }=G at hns₁ hsb₁ ⊢
  have hC:G.objs.size=s.heap.objs.size + 1:=by rw [<- hG,Heap.size_push]
  have hDC:s.heap.objs.size≠G.objs.size:=by rw [hC]; exact Nat.ne_of_lt (Nat.lt_succ_self _)
  have hCle:s.heap.objs.size<=G.objs.size:=by rw [hC]; exact Nat.le_succ _
  have old:∀ b o,s.heap.get? b=some o->h₁.get? b=some o:=fun b o e =>
    hsb₁.extBut b o (by rw [hC]; exact Nat.ne_of_lt (Nat.lt_succ_of_lt (Heap.lt_size e))) (Heap.get?_push_of_some _ (hG ▸ Heap.get?_push_of_some _ e))
  have hacc:h₁.get? s.heap.objs.size=some { cls:=.type "list",data:=.seq ([]:List Value).toArray }:=hsb₁.extBut _ _ hDC (Heap.get?_push_of_some _ (hG ▸ Heap.get?_push_size _ rfl))
  have fpo:∀ b∈fp,b < s.heap.objs.size:=fun b hb=>let ⟨o,e,_⟩:=T.obj 0 _ st b hb; Heap.lt_size e
  have st1:tn 0 h₁:=T.keep 0 _ _ st fun b _ o e=>old b o e
  have nofs:s.heap.objs.size ∉ frs X.stack:=fun z=>by
    rcases List.mem_cons.mp (I.stkSub _ z) with q | q
    · exact absurd (q ▸ I.lt) (Nat.lt_irrefl _)
    · exact I.nofs (Nat.le_refl _) q
  have nocl:∀ y c,cl.lookup y=some c->c≠s.heap.objs.size:=fun y c e z=>by
    obtain ⟨v,o,ho,_⟩:=I.cell y c (L.sub.get e)
    exact absurd (z ▸ Heap.lt_size ho) (Nat.lt_irrefl _)
  have loop:∀ s₃:Shared,s₃={ s with heap:=h₁,toks:=s.toks + ([]:List (Str × Value)).length } ->
      codeAny (model X.prog X.w) X.A (.compLoop (.ListComp elt [⟨tg,iter,ifs,0⟩] scope pos) 0 (.ref it) (.ref s.heap.objs.size) (compEnvC scope cl G.objs.size X.env)) (R (.ref s.heap.objs.size) G.objs.size) s₃:=by
    rintro s₃ rfl
    have hAl:=hal G.objs.size (by rw [hC]; exact Nat.lt_succ_self _)
    generalize hE:notedBy (model X.prog X.w) X.A (compEnvC scope cl G.objs.size X.env) (fun e s'=>R (.ref s.heap.objs.size) G.objs.size (.error e) s')=E' at hAl ⊢
    have IY:Inv (cxLC X scope cl M G.objs.size s H fp E') [] (wk S σ ++ List.replicate M.length none) H { s with heap:=h₁,toks:=s.toks + ([]:List (Str × Value)).length }:=VW I L hf fpo old hCle hns₁
    refine codeAny_loop rfl (fun n s'=>∃ (i:Nat) (τ:St) (H':Hp) (ys:List V) (its:List Value) (k:Nat),Inv (cxLC X scope cl M G.objs.size s H fp E') [] τ H' s'/\tn i s'.heap/\(∀ b∈fp,H' b=none) /\
      s'.heap.get? s.heap.objs.size=some { cls:=.type "list",data:=.seq its.toArray k }/\H' s.heap.objs.size=none/\Vals ys its/\ys.length<=sizeLine/\W i n τ ys H') (fun n s' hI=>?_) m0
      ⟨0,_,H,[],[],_,IY,st1,fun b hb=>(hf b hb).1,hacc,I.hok.fresh (Nat.le_refl _),.nil,Nat.zero_le _,w0⟩
    obtain ⟨i,τ,H1,ys,its,k,I1,st1,fr1,eD,fD,rv,hz,w1⟩:=hI
    show wpAny _ X.A ((compTurn (.ListComp elt [⟨tg,iter,ifs,0⟩] scope pos) 0 (.ref it) (.ref s.heap.objs.size) (compEnvC scope cl G.objs.size X.env)).onRaise (fun x=>do noteFrame x (compEnvC scope cl G.objs.size X.env); theTreesLotGoes x)) _ _ s'
    refine wpAny_noted ?_
    rw [hE,compTurn_list]
    have I1':Inv (cxLC X scope cl M G.objs.size s H fp E') [(s.heap.objs.size,{ cls:=.type "list",data:=.seq its.toArray k })] τ H1 s':=I1.pins_of fun p hp=>by
      have e:p=(s.heap.objs.size,{ cls:=.type "list",data:=.seq its.toArray k }):=by simpa using hp
      subst e
      exact ⟨eD,fD,hDC,nofs,(fun v z=>nomatch z)⟩
    have stat:∀ {H':Hp},(∀ b∈fp,H' b=none)->∀ b∈fp,FpOk (cxLC X scope cl M G.objs.size s H fp E') [(s.heap.objs.size,{ cls:=.type "list",data:=.seq its.toArray k })] H' b:=fun hn b hb=>by
      refine ⟨hn b hb,?_,?_,.inl hb,fun x c e=>(hf b hb).2.2.2.2.1 x c (L.sub.get e),fun p hp z=>?_⟩
      · exact Nat.ne_of_lt (Nat.lt_of_lt_of_le (fpo b hb) hCle)
      · intro z
        rcases List.mem_cons.mp (I.stkSub b z) with q | q
        · exact (hf b hb).2.1 q
        · exact (hf b hb).2.2.1 q
      · have e:p=(s.heap.objs.size,{ cls:=.type "list",data:=.seq its.toArray k }):=by
          have hp':p∈[(s.heap.objs.size,({ cls:=.type "list",data:=.seq its.toArray k }:Obj))]:=hp
          simpa using hp'
        subst e
        exact absurd (z ▸ fpo b hb) (Nat.lt_irrefl _)
    refine wpAny_bind (wpAny_standAt (wpAny_bind ?_))
    rcases turn i n τ ys H1 w1 with ⟨stop,q⟩ | ⟨go,N,hN,step⟩
    · refine thn (T.done (cxLC X scope cl M G.objs.size s H fp E') rfl rfl rfl hc i _ s' τ H1 E' I1' (stat fr1) st1 stop) fun r s4 ⟨hr,I4⟩=>?_
      subst hr
      refine wpAny_pure ?_
      obtain ⟨eD4,_,_⟩:=I4.pin (s.heap.objs.size,{ cls:=.type "list",data:=.seq its.toArray k }) (List.mem_append_right _ List.mem_cons_self)
      have base4:Un (frs X.stack) fp H H1 s.heap s4.heap:=I4.base
      have un:Un (frs X.stack) fp H (upd H1 s.heap.objs.size (.lst ys)) s.heap s4.heap:=⟨base4.keep,base4.slot,fun b o e n hx=>by rw [zg (Nat.ne_of_lt (Heap.lt_size e))]; exact base4.free b o e n hx,base4.there,
        fun b xs e=>by rw [zg (zi (base4.tups b xs e) fD)]; exact base4.tups b xs e,fun b o u e=>by rw [zg (zi (base4.frzs b o u e) fD)]; exact base4.frzs b o u e,
        fun b ps e=>by
          obtain ⟨more,w⟩:=base4.tbls b ps e
          exact ⟨more,by rw [zg (zi w fD)]; exact w⟩⟩
      have hok:HOk X.prog X.w (upd H1 s.heap.objs.size (.lst ys)) s4.heap:=fun b u e=>by
        by_cases hb:b=s.heap.objs.size
        · subst hb
          rw [za] at e
          cases e
          exact ⟨hz,its,k,rv,eD4⟩
        · rw [zg hb] at e
          exact (I4.hok b u e).stay (fun c v _ q=>q) (fun c q=>by rw [zg (zi q fD)]; exact q) fun c xs q=>by rw [zg (zi q fD)]; exact q
      have IX:Inv X pins σ (upd H1 s.heap.objs.size (.lst ys)) s4:=I.call' I4.os un hok I4.bare fun b hb=>⟨(hf b hb).2.2.2.1,(hf b hb).2.1,(hf b hb).2.2.2.2.1,(hf b hb).2.2.2.2.2⟩
      have fC:H1 G.objs.size=none:=I4.free
      obtain ⟨m4,n4,_⟩:=I4.loc
      exact hR _ _ s4 H1 ys m4 IX (I.fpOk hCle (by rw [zg (Ne.symm hDC)]; exact fC)) n4 (q _ fD)
    · refine thn (T.item (cxLC X scope cl M G.objs.size s H fp E') rfl rfl rfl hc i _ s' τ H1 E' I1' (stat fr1) st1 go) fun r s4 ⟨u,hr,h4⟩=>?_
      subst hr
      refine wpAny_bind (thn h4 fun _ s5 ⟨x,H5,I5,r5,y5,st5,fr5⟩=>?_)
      have I5':=I5.pinned (stat fr5) (T.obj _ _ st5)
      have kept:∀ {τ6:St} {H6:Hp} {s6:Shared},Inv (cxLC X scope cl M G.objs.size s H fp E') ([(s.heap.objs.size,{ cls:=.type "list",data:=.seq its.toArray k })] ++ vC fp s5.heap) τ6 H6 s6 ->
          Inv (cxLC X scope cl M G.objs.size s H fp E') [] τ6 H6 s6/\tn (i + 1) s6.heap/\(∀ b∈fp,H6 b=none)/\s6.heap.get? s.heap.objs.size=some { cls:=.type "list",data:=.seq its.toArray k }/\H6 s.heap.objs.size=none:=fun {τ6 H6 s6} I6=>by
        have pin:∀ b∈fp,∀ o,s5.heap.get? b=some o->s6.heap.get? b=some o/\H6 b=none:=fun b hb o e =>
          let w:=I6.pin (b,o) (List.mem_append_right _ (List.mem_append_right _ (xZ hb e)))
          ⟨w.1,w.2.1⟩
        have pD:=I6.pin (s.heap.objs.size,{ cls:=.type "list",data:=.seq its.toArray k }) (List.mem_append_right _ (List.mem_append_left _ List.mem_cons_self))
        refine ⟨I6.pins_of (fun p hp=>nomatch hp),T.keep _ _ _ st5 fun b hb o e=>(pin b hb o e).1,fun b hb=>?_,pD.1,pD.2.1⟩
        obtain ⟨o,e,_⟩:=T.obj _ _ st5 b hb
        exact (pin b hb o e).2
      refine wpAny_bind (thn (hg _ _ _ _ _ _ s5 τ H5 x u _ I5' r5 (step x H5 y5)) fun _ s6 ⟨σ6,H6,I6,q6⟩=>?_)
      refine wpAny_bind (thn (ht _ _ _ _ _ _ s6 σ6 H6 _ I6 q6) fun ok s7 ⟨H7,I7,q7⟩=>?_)
      cases ok with
      | false =>
        have q7':N σ6 ys H7:=by simpa using q7
        obtain ⟨m',hm,w7⟩:=hN _ _ _ q7'
        obtain ⟨K1,K2,K3,K4,K5⟩:=kept I7
        exact wpAny_pure ⟨rfl,m',hm,i + 1,σ6,H7,ys,its,k,K1,K2,K3,K4,K5,rv,hz,w7⟩
      | true =>
        have q7':te σ6 H7 fun y H4=>ys.length < sizeLine/\N σ6 (ys ++ [y]) H4:=by simpa using q7
        refine wpAny_bind (wpAny_bind (thn (he _ _ hAl _ s7 σ6 H7 _ I7 q7') fun y s8 ⟨v8,H8,I8,r8,hz8,n8⟩=>?_))
        obtain ⟨m',hm,w8⟩:=hN _ _ _ n8
        obtain ⟨K1,K2,K3,K4,K5⟩:=kept I8
        have hl:=rv.length
        refine wpAny_bind (wpAny_list_append_plain (hsz:=by rw [List.size_toArray]; lia) ⟨k,K4⟩ fun h9 hl9 hs9=>wpAny_pure (wpAny_pure ⟨rfl,m',hm,?_⟩))
        obtain ⟨k9,e9⟩:=hl9
        have I9:Inv (cxLC X scope cl M G.objs.size s H fp E') [] σ6 H8 { s8 with heap:=h9 }:=K1.turned (t':=s8.toks) (it:=s.heap.objs.size) (fun b o hb e=>(hs9.2 b hb).trans e) K5 hDC (.inr (Nat.le_refl _))
          (fun y c e=>nocl y c e) fun p hp=>nomatch hp
        refine ⟨i + 1,σ6,H8,ys ++ [v8],its ++ [y],k9,I9,T.keep _ _ _ K2 fun b hb o e=>(hs9.2 b (Nat.ne_of_lt (fpo b hb))).trans e,K3,?_,K5,rv.append (.cons r8 .nil),?_,w8⟩
        · rw [e9]
          simp
        · rw [List.length_append,List.length_singleton]
          lia
  exact codeAny_compStart_list (loop _ rfl) (T.self X.A 0 _ _ _ st1 (loop _ rfl))
variable {tg elt iter:Expr} {ifs:List Expr} {pos:Pos} {wi:TI} {g:TG} {tt:TT} {te:TE}
theorem zdm (L:LcOk X scope cl S) (hc:X.calm=true) (hi:PI X tg iter wi) (hg:∀ C s H ex E,PG (cxLC X scope cl M C s H ex E) tg g) (ht:∀ C s H ex E,PTs (cxLC X scope cl M C s H ex E) ifs tt) (he:∀ C s H ex E,PE (cxLC X scope cl M C s H ex E) elt te)
    (hs:∀ x,foldedSetIterable iter X.env x=pure x:=by intro _; rfl):PE X (.ListComp elt [⟨tg,iter,ifs,0⟩] scope pos) (tLCS S wi g tt te M.length):=by
  intro pins s σ H Q I h
  rw [eval_ListComp]
  refine wpAny_comprehension_free (use:=none) rfl hs L.clos L.kind L.locs (thn (hi pins s σ H _ I h) fun v s1 h1=>thn h1 fun itv s2 h2=>?_)
  obtain ⟨it,fp,tn,J,H2,rfl,I2,T,st2,f2,W,⟨m0,w0⟩,turn⟩:=h2
  refine zae (R:=fun acc C=>compPost (model X.prog X.w) X.A X.xe none (EP X pins σ Q) acc C) (Al:=fun _ _=>True) L hc I2 T st2 f2 hg ht (fun C E _=>he C _ _ _ E) (fun _ _=>trivial) w0 turn ?_
  intro D C s' H' ys m IX fC ns q
  exact ⟨m,ns,fun h' sb=>⟨.ref D,_,IX.turned (t':=s'.toks) (fun b o hb e=>(sb.2 b hb).trans e) fC.1 fC.2.1 fC.2.2.2.1 fC.2.2.2.2.1 fC.2.2.2.2.2,rfl,q⟩⟩
end
def clOf (scope:Scope) (env:Env):List (Str × Addr):=scope.names.foldl (fun cs p=>if p.2 == .free then (match env.cells.lookup p.1 with | some a=>(p.1,a) :: cs | none=>cs) else cs) []
theorem X0 (env:Env):∀ (names:List (Str × NameKind)) (acc:List (Str × Addr)),AllIn env acc->AllIn env (names.foldl (fun cs p=>if p.2 == .free then (match env.cells.lookup p.1 with | some a=>(p.1,a) :: cs | none=>cs) else cs) acc)
  | [],_,h=>h
  | (n,k) :: r,acc,h=>by
    rw [List.foldl_cons]
    refine X0 env r _ ?_
    by_cases hk:(k == NameKind.free)=true
    · rw [if_pos hk]
      cases e:env.cells.lookup n with
      | none=>exact h
      | some a=>exact ⟨e,h⟩
    · rw [if_neg hk]
      exact h
section
variable {X:Cx} {scope:Scope} {M:List Str} {tg elt iter:Expr} {ifs:List Expr} {pos:Pos} {wi:TI} {g:TG} {tt:TT} {te:TE}
theorem zdn {S:List Nat} (h1:closureFor scope X.env=pure (clOf scope X.env)) (h2:scope.kind=.function) (h3:scope.names.all (fun y=>y.2 != .cell)=true) (h4:scope.names.all (fun y=>y.2 != .local || scope.names.lookup y.1 == some .local)=true)
    (h5:X.N.zipIdx.all (fun y=>S.contains y.2 || scope.names.lookup y.1 != some .local)=true) (h6:scope.names.all (fun p=>p.2 != .free || (((clOf scope X.env).lookup p.1).isSome && (X.env.kindOf p.1 == some .cell || X.env.kindOf p.1 == some .free)))=true) :
    LcOk X scope (clOf scope X.env) S:=⟨h1,h2,h3,h4,h5,X0 X.env scope.names [] trivial,h6⟩
theorem lcOk (h1:closureFor scope X.env=pure (clOf scope X.env)) (h2:scope.kind=.function) (h3:scope.names.all (fun y=>y.2 != .cell)=true) (h4:scope.names.all (fun y=>y.2 != .local || scope.names.lookup y.1 == some .local)=true)
    (h5:X.N.all (fun y=>scope.names.lookup y != some .local)=true) (h6:scope.names.all (fun p=>p.2 != .free || (((clOf scope X.env).lookup p.1).isSome && (X.env.kindOf p.1 == some .cell || X.env.kindOf p.1 == some .free)))=true) :
    LcOk X scope (clOf scope X.env) []:=zdn h1 h2 h3 h4 (List.all_eq_true.mpr fun y hy=>by
      have hm:y.1∈X.N:=List.mem_of_getElem? (List.mem_zipIdx_iff_getElem?.mp hy)
      rw [List.all_eq_true.mp h5 y.1 hm,Bool.or_true]) h6
theorem zaf (M:List Str) (hc:X.calm=true) (hi:PI X tg iter wi) (hg:∀ C s H ex E,PG (cxLC X scope (clOf scope X.env) M C s H ex E) tg g) (ht:∀ C s H ex E,PTs (cxLC X scope (clOf scope X.env) M C s H ex E) ifs tt)
    (he:∀ C s H ex E,PE (cxLC X scope (clOf scope X.env) M C s H ex E) elt te) (hs:∀ x,foldedSetIterable iter X.env x=pure x:=by intro _; rfl)
    (h1:closureFor scope X.env=pure (clOf scope X.env):=by with_unfolding_all rfl) (h2:scope.kind=.function:=by rfl) (h3:scope.names.all (fun y=>y.2 != .cell)=true:=by rfl) (h4:scope.names.all (fun y=>y.2 != .local || scope.names.lookup y.1 == some .local)=true:=by rfl)
    (h5:X.N.all (fun y=>scope.names.lookup y != some .local)=true:=by rfl) (h6:scope.names.all (fun p=>p.2 != .free || (((clOf scope X.env).lookup p.1).isSome && (X.env.kindOf p.1 == some .cell || X.env.kindOf p.1 == some .free)))=true:=by rfl) :
    PE X (.ListComp elt [⟨tg,iter,ifs,0⟩] scope pos) (tLC wi g tt te M.length):=zdm (lcOk h1 h2 h3 h4 h5 h6) hc hi hg ht he hs
end
section
variable {g:TG} {tt:TT} {te:TE} {Q:VK} {σ:St} {H:Hp}
theorem zag {K:PySem.W.Frag} {a:Addr} {xs:List V} (Pv:Nat->St->List V->Hp->Prop) (h0:Pv 0 σ [] H) (hl:∀ i τ ys H,i<=xs.length->Pv i τ ys H->SqL K H a xs)
    (hs:∀ i x τ ys H,xs[i]?=some x->Pv i τ ys H->g x τ H fun τ2 H2=>tt τ2 H2 fun b H3=>if b=true then te τ2 H3 fun y H4=>ys.length < sizeLine/\Pv (i + 1) τ2 (ys ++ [y]) H4 else Pv (i + 1) τ2 ys H3)
    (hd:∀ τ ys H,Pv xs.length τ ys H->∀ p,H p=none->Q (.ref p) (upd H p (.lst ys))):∃ W,(∃ m,W 0 m σ [] H)/\lcBy (Itl K a) g tt te Q W:=by
  refine ⟨fun i m τ ys H=>m=xs.length - i/\i<=xs.length/\Pv i τ ys H,⟨xs.length,by simp,Nat.zero_le _,h0⟩,?_⟩
  rintro i m τ ys H ⟨rfl,hi,p⟩
  have q:=hl i τ ys H hi p
  by_cases hlt:i < xs.length
  · refine .inr ⟨⟨xs,xs[i],q,by simp [hlt]⟩,Pv (i + 1),fun τ' ys' H' p'=>⟨xs.length - (i + 1),by lia,rfl,hlt,p'⟩,fun x H' y=>?_⟩
    obtain ⟨e,y⟩:=y
    subst e
    exact hs i x τ ys _ (y xs q) p
  · have e:i=xs.length:=by lia
    subst e
    exact .inl ⟨⟨xs,q,Nat.le_refl _⟩,hd τ ys H p⟩
theorem VX {lo:Int} {n:Nat} (Pv:Nat->St->List V->Hp->Prop) (h0:Pv 0 σ [] H)
    (hs:∀ i τ ys H,i < n->Pv i τ ys H->g (.int (lo + i)) τ H fun τ2 H2=>tt τ2 H2 fun b H3=>if b=true then te τ2 H3 fun y H4=>ys.length < sizeLine/\Pv (i + 1) τ2 (ys ++ [y]) H4 else Pv (i + 1) τ2 ys H3)
    (hd:∀ τ ys H,Pv n τ ys H->∀ p,H p=none->Q (.ref p) (upd H p (.lst ys))):∃ W,(∃ m,W 0 m σ [] H)/\lcBy (Itr lo n) g tt te Q W:=by
  refine ⟨fun i m τ ys H=>m=n - i/\i<=n/\Pv i τ ys H,⟨n,by simp,Nat.zero_le _,h0⟩,?_⟩
  rintro i m τ ys H ⟨rfl,hi,p⟩
  by_cases hlt:i < n
  · refine .inr ⟨hlt,Pv (i + 1),fun τ' ys' H' p'=>⟨n - (i + 1),by lia,rfl,hlt,p'⟩,fun x H' y=>?_⟩
    obtain ⟨e,y⟩:=y
    subst e y
    exact hs i τ ys _ hlt p
  · have e:i=n:=by lia
    subst e
    exact .inl ⟨Nat.le_refl _,hd τ ys H p⟩
end
end L2
namespace L2
open PySem PySem.Spec PyProof.Rows Builtin Builtin.Str
def Its (z:Str):It:=⟨fun i _=>i < z.cps.size,fun i H x H'=>H'=H/\∃ c,z.cps[i]?=some c/\x=.str ⟨#[c]⟩,fun i _=>i=z.cps.size⟩
theorem Yb {P:Program} {w:World} {K:PySem.W.Frag} {tg:Expr} {z:Str} {t:Tok} {it:Addr} {nm:String} (W:∀ A:Around,A.handled=none->Walks P w A it [it] [it] z.cps.size (SignAt z) (fun i h=>h.IsStrIter it nm z t i))
    (self:∀ (A:Around) (i:Nat) (s:Shared) (Q:Value->Shared->Prop) (E:Value->Shared->Prop),s.heap.IsStrIter it nm z t i->Q (.ref it) s->wpAny (model P w) A (pyIter (.ref it)) Q E s)
    (hn:["enumerate","zip","dict_itemiterator","dict_reverseitemiterator","odict_iterator","itertools.zip_longest","itertools.pairwise"].contains nm=false) :
    Turn P w K tg (Its z) [it] it (fun i h=>h.IsStrIter it nm z t i) where
  mem:=by simp
  obj:=fun i h st b hb=>by
    have e:b=it:=by simpa using hb
    subst e
    obtain ⟨o,e,c,d⟩:=st
    exact ⟨o,e,fun v z=>by rw [d] at z; cases z⟩
  keep:=fun i h h' st k=>by
    obtain ⟨o,e,r⟩:=st
    exact ⟨o,k it (by simp) o e,r⟩
  item:=by
    intro X hP hw hK hc i pins s σ H E I hf st hg
    subst hP hw hK
    obtain ⟨f0,f1,f2,f3,f4,f5⟩:=hf it (by simp)
    refine (W X.A (I.ok.hd hc)).item i s _ _ hg st fun v h' tk hv st' kk=>?_
    obtain ⟨c,u,hcu,rfl⟩:=hv
    have I1:Inv X pins σ H { s with heap:=h',toks:=tk }:=I.turned (fun b o hb e=>kk b o (by simpa using hb) e) f0 f1 f3 f4 f5
    obtain ⟨o,e,c',d⟩:=id st'
    exact ⟨_,rfl,jF (s:={ s with heap:=h',toks:=tk }) e c' d hn ⟨.str ⟨#[c]⟩,H,I1,⟨u,rfl⟩,⟨rfl,c,hcu,rfl⟩,st',fun b hb=>(hf b hb).1⟩⟩
  done:=by
    intro X hP hw hK hc i pins s σ H E I hf st hg
    subst hP hw hK
    obtain ⟨f0,f1,f2,f3,f4,f5⟩:=hf it (by simp)
    have hg':i=z.cps.size:=hg
    subst hg'
    exact (W X.A (I.ok.hd hc)).done s _ _ st fun h' tk kk=>⟨rfl,I.turned (fun b o hb e=>kk b o (by simpa using hb) e) f0 f1 f3 f4 f5⟩
  self:=self
section
variable {X:Cx} {tg:Expr}
def iStr (tl:TE):TI:=fun σ H R=>tl σ H fun x H1=>∃ z,x=.str z/\R (Its z) H1
theorem zcu (hc:X.calm=true) {l:Expr} {tl:TE} (hl:PE X l tl):PI X tg l (iStr tl):=by
  intro pins s σ H R I h
  refine thn (hl pins s σ H _ I h) fun v s1 ⟨x,H1,I1,r1,q1⟩=>?_
  obtain ⟨z,e,q⟩:=q1
  subst e
  obtain ⟨t,rfl⟩:=r1
  have fp:∀ b∈[s1.heap.objs.size],FpOk X pins H1 b:=fun b hb=>by
    have e:b=s1.heap.objs.size:=by simpa using hb
    subst e
    exact I1.fpOk (Nat.le_refl _) (I1.hok.fresh (Nat.le_refl _))
  cases ha:z.cps.all (· < 128)
  · refine wpAny_pyIter_wide ha ?_
    exact ⟨s1.heap.objs.size,[s1.heap.objs.size],_,_,H1,rfl,I1.kept (t':=s1.toks) fun b o e=>Heap.get?_push_of_some _ e,
      Yb (nm:="str_iterator") (fun A hA=>Walks.strWide hA _ z t) (fun _ _ _ _ _ st q=>wpAny_pyIter_striter_wide st q) (by decide),⟨_,Heap.get?_push_size _ rfl,rfl,rfl⟩,fp,q⟩
  · refine wpAny_pyIter_ascii ha ?_
    exact ⟨s1.heap.objs.size,[s1.heap.objs.size],_,_,H1,rfl,I1.kept (t':=s1.toks) fun b o e=>Heap.get?_push_of_some _ e,
      Yb (nm:="str_ascii_iterator") (fun A hA=>Walks.strAscii hA _ z t) (fun _ _ _ _ _ st q=>wpAny_pyIter_striter_ascii st q) (by decide),⟨_,Heap.get?_push_size _ rfl,rfl,rfl⟩,fp,q⟩
theorem zcv {g:TG} {tt:TT} {te:TE} {Q:VK} {σ:St} {H:Hp} {z:Str} (Pv:Nat->St->List V->Hp->Prop) (h0:Pv 0 σ [] H)
    (hs:∀ i c τ ys H,z.cps[i]?=some c->Pv i τ ys H->g (.str ⟨#[c]⟩) τ H fun τ2 H2=>tt τ2 H2 fun b H3=>if b=true then te τ2 H3 fun y H4=>ys.length < sizeLine/\Pv (i + 1) τ2 (ys ++ [y]) H4 else Pv (i + 1) τ2 ys H3)
    (hd:∀ τ ys H,Pv z.cps.size τ ys H->∀ p,H p=none->Q (.ref p) (upd H p (.lst ys))):∃ W,(∃ m,W 0 m σ [] H)/\lcBy (Its z) g tt te Q W:=by
  refine ⟨fun i m τ ys H=>m=z.cps.size - i/\i<=z.cps.size/\Pv i τ ys H,⟨z.cps.size,by simp,Nat.zero_le _,h0⟩,?_⟩
  rintro i m τ ys H ⟨rfl,hi,p⟩
  by_cases hlt:i < z.cps.size
  · refine .inr ⟨hlt,Pv (i + 1),fun τ' ys' H' p'=>⟨z.cps.size - (i + 1),by lia,rfl,hlt,p'⟩,fun x H' y=>?_⟩
    obtain ⟨e,c,hc,rfl⟩:=y
    subst e
    exact hs i c τ ys _ hc p
  · have e:i=z.cps.size:=by lia
    subst e
    exact .inl ⟨rfl,hd τ ys H p⟩
def rSlS:V->Option Int->Option Int->Hp->VK->Prop:=fun x lo hi H Q=>∃ z,x=.str z/\z.length<=sizeLine/\Q (.str (Txt.slice z lo hi)) H
theorem zcw:SlR X rSlS:=by
  intro pins s σ H x v vl vu lo hi sl Q I rx hs pl pu h
  obtain ⟨z,rfl,hz,q⟩:=h
  obtain ⟨t,rfl⟩:=rx
  have fin:∀ (l u:Option (Int × Tok)),s.heap.IsSlice sl l u none->Txt.slice z (l.map (·.1)) (u.map (·.1))=Txt.slice z lo hi->wpAny (model X.prog X.w) X.A (getItem (.str z t) (.ref sl)) (EP X pins σ Q) X.xe s:=fun l u hS e =>
    wpAny_getItem_str_slice (l:=l) (u:=u) (st:=none) hS rfl (post_val_or_str ⟨Nat.le_trans (Txt.slice_le z _ _) hz,fun t' k=>⟨.str (Txt.slice z lo hi),H,I.tok k,⟨t',by rw [<- e]; rfl⟩,q⟩⟩)
  refine ⟨"str",_,F.slot_str_getitem.lookup,typeIs_str _ _ _,?_⟩
  cases pl with
  | none =>
    cases pu with
    | none=>exact fin none none hs rfl
    | int j uj=>exact fin none (some (j,uj)) hs rfl
  | int i ui =>
    cases pu with
    | none=>exact fin (some (i,ui)) none hs rfl
    | int j uj=>exact fin (some (i,ui)) (some (j,uj)) hs rfl
def X1:V->List V->Hp->VK->Prop:=fun x vs H Q=>∃ z y,x=.str z/\vs=[.str y]/\Q (.bl (Txt.startswith z y)) H
theorem jy:MtR X "str.startswith" X1:=by
  intro pins s σ H x vs v us Q I rx rv h
  obtain ⟨z,y,rfl,rfl,q⟩:=h
  obtain ⟨t,rfl⟩:=rx
  obtain ⟨u,rfl,t',rfl⟩:=rv.one
  exact call_gives F.slot_str_startswith (typeIs_str s z t) F.entry_str_startswith (F.args_str_startswith_2 _ _) (gives_str_startswith z y t t') ⟨.bl _,H,I,rfl,q⟩
theorem xm:∀ l:List (Str × Tok),Vals ((l.map (·.1)).map V.str) (strValues l)
  | []=>.nil
  | (x,t) :: r=>.cons ⟨t,rfl⟩ (xm r)
theorem wJ (x y:Str):(Txt.split x y).length<=x.length + 2:=by
  unfold Txt.split
  split
  · simp
  · split
    · simp
    · have e1:=StrLaws.occ_length_le x y 0 x.length (x.length + 1)
      rw [length_partsBetween]
      lia
def VY:V->List V->Hp->VK->Prop:=fun x vs H Q=>∃ z y,x=.str z/\vs=[.str y]/\(y.length == 0)=false/\z.length + 2<=sizeLine/\∀ p,H p=none->Q (.ref p) (upd H p (.lst ((Txt.split z y).map V.str)))
theorem VZ:MtR X "str.split" VY:=by
  intro pins s σ H x vs v us Q I rx rv h
  obtain ⟨z,y,rfl,rfl,hy,hz,q⟩:=h
  obtain ⟨t,rfl⟩:=rx
  obtain ⟨u,rfl,t',rfl⟩:=rv.one
  have hn:(partsBetween z (occurrences z y 0 z.length (z.length + 1)) y.length).length<=sizeLine:=by
    have e1:=StrLaws.occ_length_le z y 0 z.length (z.length + 1)
    rw [length_partsBetween]; lia
  have hl:((Txt.split z y).map V.str).length<=sizeLine:=by
    have:=wJ z y
    rw [List.length_map]; lia
  have fin:∀ (l:List (Str × Tok)) (k:Nat),l.map (·.1)=Txt.split z y->EP X pins σ Q (.ref s.heap.objs.size) { s with heap:=s.heap.push { cls:=.type "list",data:=.seq (strValues l).toArray },toks:=k }:=fun l k e =>
    ⟨.ref s.heap.objs.size,_,I.lnew (t':=k) (by rw [<- e]; exact xm l) hl,rfl,q _ I.fresh⟩
  cases h1:(decide (z.length < y.length) || decide (strKind z < strKind y))
  · cases hf:(occurrences z y 0 z.length (z.length + 1)).isEmpty
    · refine call_meets F.slot_str_split (typeIs_str _ _ _) F.entry_str_split (F.args_str_split_2 _ _) (meets_str_split_sep z y t t' h1 hy hf (by lia) hn) ?_
      show wants (EP X pins σ Q) X.xe _ { s with toks:=_,heap:=s.heap.push { cls:=.type "list",data:=.seq (strsFrom s.toks (partsBetween z (occurrences z y 0 z.length (z.length + 1)) y.length)).toArray } }
      rw [strsFrom_eq]
      exact fin (numbered s.toks _) _ ((numbered_texts _ _).trans ((if_neg (ne_true_of_eq_false h1)).trans (if_neg (ne_true_of_eq_false hf))).symm)
    · exact call_meets F.slot_str_split (typeIs_str _ _ _) F.entry_str_split (F.args_str_split_2 _ _) (meets_str_split_not_found z y t t' h1 hy hf)
        (fin [(z,t)] s.toks ((if_neg (ne_true_of_eq_false h1)).trans (if_pos hf)).symm)
  · exact call_meets F.slot_str_split (typeIs_str _ _ _) F.entry_str_split (F.args_str_split_2 _ _) (meets_str_split_cannot_occur z y t t' h1)
      (fin [(z,t)] s.toks (if_pos h1).symm)
theorem Y2:OpR X (binaryOp .Mult) (fun x y H Q=>∃ z n,x=.str z/\y=.int n/\MulOk z n/\Q (.str (Txt.mul z n)) H):=by
  intro pins s σ H x y v u Q I rx ry h
  obtain ⟨z,n,rfl,rfl,ok,q⟩:=h
  obtain ⟨t,rfl⟩:=rx
  obtain ⟨t',rfl⟩:=ry
  exact SB.mul ok fun t'' k=>⟨.str (Txt.mul z n),H,I.tok k,⟨t'',rfl⟩,q⟩
theorem Yc:yM X (.builtin "isinstance") (fun xs H Q=>∃ x t T b,xs=[x,.ty T]/\TyOf X.K H x t/\PySem.W.kitOne X.K t (.type T)=some b/\Q (.bl b) H):=by
  intro pins s σ H xs us Q I r h
  obtain ⟨x,t,T,b,rfl,ty,e,q⟩:=h
  obtain ⟨u,u',rfl,rx,ru⟩:=VH r
  cases ru
  exact WS I rx ty e fun tk=>⟨.bl b,H,I.tok tk,rfl,q⟩
theorem W0 (bs:List Bool):(List.range bs.length).all (fun i=>bs.getD i false)=bs.all id:=by
  induction bs with
  | nil=>rfl
  | cons b r ih =>
    rw [List.length_cons,List.range_succ_eq_map,List.all_cons,List.all_map,List.all_cons]
    have e:(List.range r.length).all ((fun i=>(b :: r).getD i false) ∘ Nat.succ)=(List.range r.length).all fun i=>r.getD i false:=by
      congr 1
    rw [e,ih]
    rfl
theorem vH (hc:X.calm=true):yM X (.builtin "all") (fun xs H Q=>∃ (p:Addr) (bs:List Bool),xs=[.ref p]/\SqL X.K H p (bs.map V.bl)/\Q (.bl (bs.all id)) H):=by
  intro pins s σ H xs us Q I r h
  obtain ⟨p,bs,rfl,hq,q⟩:=h
  obtain ⟨u,rfl,rx⟩:=xR r
  cases rx
  obtain ⟨its,rv,pl,hz⟩:=I.list hq
  have hh:X.A.handled=none:=I.ok.hd hc
  have hlen:its.toArray.size=bs.length:=by rw [List.size_toArray,<- rv.length,List.length_map]
  have hne:p≠s.heap.objs.size:=by
    obtain ⟨o,n,e,_⟩:=pl
    exact Nat.ne_of_lt (Heap.lt_size e)
  refine call_all_walk (wpAny_pyIter_list pl.isList ?_)
  refine ⟨s.heap.objs.size,_,_,_,_,_,fun i=>bs.getD i false,rfl,Walks.list (A:=X.A.in1) hh _ p hne its.toArray,⟨⟨_,Heap.get?_push_size _ rfl,rfl,rfl⟩,pl.isList.at fun o e=>Heap.get?_push_of_some _ e⟩,fun i v s1 Q1 E1 hv hQ=>?_,fun h' tk kk=>?_⟩
  · have hi:i < bs.length:=by
      obtain ⟨hi,_⟩:=Array.getElem?_eq_some_iff.mp hv
      rw [hlen] at hi
      exact hi
    have hb:(bs.map V.bl)[i]?=some (V.bl (bs.getD i false)):=by
      rw [List.getElem?_map,List.getElem?_eq_getElem hi]
      simp [List.getD,List.getElem?_eq_getElem hi]
    obtain ⟨u',hu,ru⟩:=rv.get hb
    have e:its.toArray[i]?=some u':=by simpa using hu
    have hv':its.toArray[i]?=some v:=hv
    rw [hv'] at e
    cases e
    cases ru
    exact wpAny_truthy_bool hQ
  · rw [hlen,W0]
    have I1:Inv X pins σ H { s with heap:=s.heap.push { cls:=.type "list_iterator",data:=.fields #[.ref p,.int 0 0] } }:=I.kept (t':=s.toks) fun b o e=>Heap.get?_push_of_some _ e
    have f:=I.fpOk (H':=H) (Nat.le_refl _) I.fresh
    exact ⟨.bl (bs.all id),H,I1.turned (it:=s.heap.objs.size) (fun b o hb e=>kk b o (by simpa using hb) e) f.1 f.2.1 f.2.2.2.1 f.2.2.2.2.1 f.2.2.2.2.2,rfl,q⟩
end
end L2
namespace L2
open PySem PySem.Spec PyProof.Rows
def zm:Expr->Bool
  | .Starred ..=>true
  | _=>false
theorem zI {e:Expr} {es:List Expr} {env:Env} (h:zm e=false):starEach (e :: es) env=(false,eval e env) :: starEach es env:=by
  cases e <;> first
    | rfl
    | exact absurd (show true=false from h) (by decide)
theorem yw {env:Env} {pos:Pos}:∀ {es:List Expr},es.all (fun e=>!zm e)=true->(backTo pos (starEach es env)).any (·.1)=false
  | [],_=>rfl
  | e :: es,h=>by
    rw [List.all_cons,Bool.and_eq_true] at h
    have h1:zm e=false:=by simpa using h.1
    rw [zI h1]
    show (false || (backTo pos (starEach es env)).any (·.1))=false
    rw [yw h.2]
    rfl
section
variable {X:Cx} {CX:CXT} {k:Nat} {f C:Addr} {fd:FuncData} {ps:List Str} {sp:Sp} {dvs:List V} {ds:List Value} {E:XK} {x m:Str} {p pos apos:Pos} {e o:Expr} {es:List Expr} {te ta:TE} {t:TA} {id T:String} {r:List V->Hp->VK->Prop}
theorem pa_c (ha:PE X e te) (hr:PA X es t) (h:zm e=false:=by rfl):PA X (e :: es) (zN te t):=Q3 ha hr (zI h)
theorem zdo (F:FnOk X.prog X.w X.K X.mg X.base CX k f fd ps sp) (hr:Room k X.A) (hg:Gl X x) (hm:X.mg x=some (.ref f)) (hk:PySem.W.keepIn X.K (.ref f)=true) (hb:Binds X.K fd ps ds) (hd:Vals dvs ds) (hx:yA CX X E)
    (ha:PA X (e :: es) t) (hdb:(x == ("__debug__":Str))=false:=by decide) (h1:zm e=false:=by rfl) (h2:es.all (fun e=>!zm e)=true:=by rfl) :
    PE X (.Call (.Name x p) (e :: es) [] pos) (Z8 sp dvs E t):=Q4 F hr hg hm hk hb hd hx ha hdb (zI h1) (yw h2)
theorem zcx (hc:yM X (.builtin id) r) (hg:Gl X x) (hm:X.mg x=none) (hv:bootBuiltins x=some (.builtin id)) (ha:PA X (e :: es) t) (hn:x≠"__name__":=by decide) (hdb:(x == ("__debug__":Str))=false:=by decide)
    (h1:zm e=false:=by rfl) (h2:es.all (fun e=>!zm e)=true:=by rfl):PE X (.Call (.Name x p) (e :: es) [] pos) (tCB r t):=VN hc hg hm hv ha hn hdb (zI h1) (yw h2)
theorem zah (hc:yM X (.type T) r) (hg:Gl X x) (hm:X.mg x=none) (hv:bootBuiltins x=some (.type T)) (ha:PA X (e :: es) t) (hn:x≠"__name__":=by decide) (hdb:(x == ("__debug__":Str))=false:=by decide)
    (h1:zm e=false:=by rfl) (h2:es.all (fun e=>!zm e)=true:=by rfl):PE X (.Call (.Name x p) (e :: es) [] pos) (tCB r t):=WU hc hg hm hv ha hn hdb (zI h1) (yw h2)
end
structure jE (X:Cx) (e:Expr) (t:TE):Prop where
  out:PE X e t
structure jT (X:Cx) (e:Expr) (t:TT):Prop where
  out:PT X e t
structure jW (X:Cx) (e:Expr) (t:TT):Prop where
  out:PW X e t
structure jA (X:Cx) (es:List Expr) (t:TA):Prop where
  out:PA X es t
structure jS (X:Cx) (st:Stmt) (t:TS):Prop where
  out:PS X st t
structure jSs (X:Cx) (sts:List Stmt) (t:TS):Prop where
  out:PSs X sts t
structure jG (X:Cx) (tg:Expr) (t:TG):Prop where
  out:PG X tg t
structure jGs (X:Cx) (tg:List Expr) (t:TGs):Prop where
  out:PGs X tg t
structure jI (X:Cx) (tg iter:Expr) (t:TI):Prop where
  out:PI X tg iter t
structure jO (X:Cx) (e:Option Expr) (t:TO):Prop where
  out:PO X e t
structure jTs (X:Cx) (ifs:List Expr) (t:TT):Prop where
  out:PTs X ifs t
structure jOp (X:Cx) (f:Value->Value->Sem Value) (r:R2):Prop where
  out:OpR X f r
structure jIx (X:Cx) (r:R2):Prop where
  out:IxR X r
structure jSl (X:Cx) (r:V->Option Int->Option Int->Hp->VK->Prop):Prop where
  out:SlR X r
structure jMt (X:Cx) (id:String) (r:V->List V->Hp->VK->Prop):Prop where
  out:MtR X id r
structure jCa (X:Cx) (f:Value) (r:List V->Hp->VK->Prop):Prop where
  out:yM X f r
section
variable {X:Cx} {a b c e o:Expr} {es rest:List Expr} {ta tb tc te to:TE} {t u:TA} {tA tB':TT} {pos p p2 apos cpos px:Pos} {x y m:Str} {op op':CmpOp} {bop:Operator} {r r':R2}
theorem jv (i:Nat) (hN:X.N[i]?=some x:=by rfl) (hv:Vis X.env.scope x:=by first | exact Or.inl rfl | exact Or.inr (Or.inl rfl) | exact Or.inr (Or.inr rfl)) (hd:(x == ("__debug__":Str))=false:=by decide)
    (hcd:(x == ("__classdict__":Str))=false:=by decide):jE X (.Name x pos) (tVar i):=⟨pv i hN hv hd hcd⟩
theorem zc {i j}:jE X (.Constant (.int i) j pos) (tC (.int i)):=⟨zbU⟩
theorem xn {b j}:jE X (.Constant (.bool b) j pos) (tC (.bl b)):=⟨zc9⟩
theorem vI {j}:jE X (.Constant .none j pos) (tC .non):=⟨zbV⟩
theorem zd {x j}:jE X (.Constant (.str x) j pos) (tC (.str x)):=⟨zbW⟩
theorem z3 {v:V} {w:Value} (hg:Gl X x) (hm:X.mg x=some w) (r:RelV v w) (hd:(x == ("__debug__":Str))=false:=by decide):jE X (.Name x pos) (tC v):=⟨QN hg hm r hd⟩
theorem xF {v:V} {w:Value} (hg:Gl X x) (hm:X.mg x=none) (hv:bootBuiltins x=some w) (r:RelV v w) (hn:x≠"__name__":=by decide) (hd:(x == ("__debug__":Str))=false:=by decide):jE X (.Name x pos) (tC v):=⟨QO hg hm hv r hn hd⟩
theorem zh (ho:jOp X (binaryOp bop) r) (ha:jE X a ta) (hb:jE X b tb):jE X (.BinOp a bop b pos) (tOp r ta tb):=⟨zdc ho.out ha.out hb.out⟩
theorem x4 (ha:jE X a ta):jE X (.UnaryOp .USub a pos) (tUn (rU fun i=>.int (-i)) ta):=⟨zdd zcg ha.out⟩
theorem yz (ho:jOp X (compareOp op) r) (ha:jE X a ta) (hb:jE X b tb) (hm:behindInMarks op b=false):jE X (.Compare a [op] [b] pos) (tOp r ta tb):=⟨QY ho.out ha.out hb.out hm⟩
theorem Zy (ho:jOp X (compareOp op) r) (ha:jE X a ta) (hb:jE X b tb) (hm:behindInMarks op b=false):jT X (.Compare a [op] [b] pos) (Z7 (tOp r ta tb)):=⟨QZ ho.out ha.out hb.out hm⟩
theorem V0 (ho:jOp X (compareOp op) r) (ho':jOp X (compareOp op') r') (ha:jE X a ta) (hb:jE X b tb) (hc:jE X c tc) (hm:lastMarks [op,op'] [b,c]=false:=by with_unfolding_all rfl):jE X (.Compare a [op,op'] [b,c] pos) (Zq r r' ta tb tc):=⟨VF ho.out ho'.out ha.out hb.out hc.out hm⟩
theorem V1 (ho:jOp X (compareOp op) r) (ho':jOp X (compareOp op') r') (ha:jE X a ta) (hb:jE X b tb) (hc:jE X c tc) (hm:lastMarks [op,op'] [b,c]=false:=by with_unfolding_all rfl):jT X (.Compare a [op,op'] [b,c] pos) (Z7 (Zq r r' ta tb tc)):=⟨VG ho.out ho'.out ha.out hb.out hc.out hm⟩
theorem ym (h:jE X e te) (he:∀ whole,isTrue e X.env whole=(do let v <- whole; standAt e.pos; holding [v] (truthy v)):=by intro _; rfl):jT X e (tB te):=⟨zbY h.out he⟩
theorem Zz (ha:jT X a tA):jW X (.BoolOp .And [a] pos) tA:=⟨pw_and1 ha.out⟩
theorem ZA (ha:jT X a tA):jW X (.BoolOp .Or [a] pos) tA:=⟨pw_or1 ha.out⟩
theorem Y3 (ha:jT X a tA) (hb:jW X (.BoolOp .And (b :: rest) pos) tB'):jW X (.BoolOp .And (a :: b :: rest) pos) (tAnd tA tB'):=⟨pw_and ha.out hb.out⟩
theorem X2 (ha:jT X a tA) (hb:jW X (.BoolOp .Or (b :: rest) pos) tB'):jW X (.BoolOp .Or (a :: b :: rest) pos) (tOr tA tB'):=⟨pw_or ha.out hb.out⟩
theorem jW.pt (h:jW X e tA):jT X e tA:=⟨PW.pt h.out⟩
theorem yI (ha:jT X a tA):jT X (.UnaryOp .Not a pos) (tNot tA):=⟨zbZ ha.out⟩
theorem wK {op} (h:jE X a te):jE X (.BoolOp op [a] pos) te:=⟨zb0 h.out⟩
theorem y6 (ha:jE X a ta) (hb:jE X (.BoolOp .And (b :: rest) pos) tb):jE X (.BoolOp .And (a :: b :: rest) pos) (zbq ta tb):=⟨zb1 ha.out hb.out⟩
theorem zdp (ha:jE X a ta) (hb:jE X (.BoolOp .Or (b :: rest) pos) tb):jE X (.BoolOp .Or (a :: b :: rest) pos) (tOrV ta tb):=⟨zda ha.out hb.out⟩
theorem ZB (ha:jE X a ta):jE X (.UnaryOp .Not a pos) (zbr ta):=⟨zb2 ha.out⟩
theorem Yd (hc:jT X c tA) (ha:jE X a ta) (hb:jE X b tb):jE X (.IfExp c a b pos) (tIf tA ta tb):=⟨Vx hc.out ha.out hb.out⟩
theorem zS:jA X [] tNil:=⟨zcj⟩
theorem ja_c (ha:jE X e te) (hr:jA X es t) (h:zm e=false:=by rfl):jA X (e :: es) (zN te t):=⟨pa_c ha.out hr.out h⟩
theorem zp (h:jA X es t):jE X (.List es pos) (tLst t):=⟨zcl h.out⟩
theorem zz {x1} (h:jA X es t):jE X (.Tuple es x1 pos) (tTup t):=⟨zck h.out⟩
theorem X3 (hr:jIx X r) (ha:jE X a ta) (hb:jE X b tb) (hs:Zs b):jE X (.Subscript a b pos) (tOp r ta tb):=⟨zdj hr.out ha.out hb.out hs⟩
theorem zT:jO X none wf:=⟨Q7⟩
theorem zD (h:jE X e te):jO X (some e) (XV te):=⟨Q8 h.out⟩
theorem zB {r:V->Option Int->Option Int->Hp->VK->Prop} {lo hi:Option Expr} {tl th:TO} (hr:jSl X r) (he:jE X e te) (hl:jO X lo tl) (hu:jO X hi th):jE X (.Subscript e (.Slice lo hi none p2) pos) (tSl r te tl th):=⟨VP hr.out he.out hl.out hu.out⟩
variable {CX:CXT} {k:Nat} {f C:Addr} {fd:FuncData} {ps:List Str} {sp:Sp} {dvs:List V} {ds:List Value} {E:XK} {id T:String} {rc:List V->Hp->VK->Prop} {rm:V->List V->Hp->VK->Prop}
theorem V2 (F:FnOk X.prog X.w X.K X.mg X.base CX k f fd ps sp) (hr:Room k X.A) (hg:Gl X x) (hm:X.mg x=some (.ref f)) (hk:PySem.W.keepIn X.K (.ref f)=true) (hb:Binds X.K fd ps ds) (hd:Vals dvs ds) (hx:yA CX X E)
    (ha:jA X (e :: es) t) (hdb:(x == ("__debug__":Str))=false:=by decide) (h1:zm e=false:=by rfl) (h2:es.all (fun e=>!zm e)=true:=by rfl) :
    jE X (.Call (.Name x p) (e :: es) [] pos) (Z8 sp dvs E t):=⟨zdo F hr hg hm hk hb hd hx ha.out hdb h1 h2⟩
theorem z4 (hc:jCa X (.builtin id) rc) (hg:Gl X x) (hm:X.mg x=none) (hv:bootBuiltins x=some (.builtin id)) (ha:jA X (e :: es) t) (hn:x≠"__name__":=by decide) (hdb:(x == ("__debug__":Str))=false:=by decide)
    (h1:zm e=false:=by rfl) (h2:es.all (fun e=>!zm e)=true:=by rfl):jE X (.Call (.Name x p) (e :: es) [] pos) (tCB rc t):=⟨zcx hc.out hg hm hv ha.out hn hdb h1 h2⟩
theorem zU (hc:jCa X (.type T) rc) (hg:Gl X x) (hm:X.mg x=none) (hv:bootBuiltins x=some (.type T)) (ha:jA X (e :: es) t) (hn:x≠"__name__":=by decide) (hdb:(x == ("__debug__":Str))=false:=by decide)
    (h1:zm e=false:=by rfl) (h2:es.all (fun e=>!zm e)=true:=by rfl):jE X (.Call (.Name x p) (e :: es) [] pos) (tCB rc t):=⟨zah hc.out hg hm hv ha.out hn hdb h1 h2⟩
theorem x5 {name:Str} (pa:PlainAttrs T) (slot:Slot T name id) (hty:typeOf (.builtin id)=pure (.type "method_descriptor")) (hm:jMt X id rm) (ho:jE X o to)
    (hbase:attributeBase o name X.env (eval o X.env)=eval o X.env:=by rfl) (hline:(apos.endLine == cpos.line)=true:=by rfl):jE X (.Call (.Attribute o name apos) [] [] cpos) (tBM0 X.K T rm to):=⟨zcq pa slot hty hm.out ho.out hbase hline⟩
theorem zy {name:Str} (pa:PlainAttrs T) (slot:Slot T name id) (hty:typeOf (.builtin id)=pure (.type "method_descriptor")) (hm:jMt X id rm) (ho:jE X o to) (ha:jA X (e :: es) t)
    (hbase:attributeBase o name X.env (eval o X.env)=eval o X.env:=by rfl)
    (hfew:((backTo cpos (starEach (e :: es) X.env)).all (fun x=>!x.1) && (backToKw cpos (keywordEach [] X.env)).all (fun x=>x.1.isSome)
      && decide ((e :: es).length + ([]:List Keyword).length + (if ([]:List Keyword).isEmpty then 0 else 1) < 30))=true:=by rfl)
    (hline:(apos.endLine == cpos.line)=true:=by rfl) (h1:zm e=false:=by rfl) (h2:es.all (fun e=>!zm e)=true:=by rfl) :
    jE X (.Call (.Attribute o name apos) (e :: es) [] cpos) (tBM X.K T rm to t):=⟨zdk pa slot hty hm.out ho.out ha.out hbase hfew hline (zI h1) (yw h2)⟩
variable {st:Stmt} {sts:List Stmt} {s1 s2:TS} {tg iter elt:Expr} {g:TG} {wi:TI} {tb1:TS} {ifs:List Expr} {tt:TT}
theorem zq:jSs X [] Vy:=⟨QQ⟩
theorem zb (h1:jS X st s1) (h2:jSs X sts s2):jSs X (st :: sts) (tSeq s1 s2):=⟨Vz h1.out h2.out⟩
theorem ze (h1:jS X st s1):jSs X [st] s1:=⟨QR h1.out⟩
theorem zv (he:jE X e te) (hs:swapsWith e none pos.line X.env=pure false:=by rfl):jS X (.Expr e pos) (zbs te):=⟨QS he.out hs⟩
theorem zo (he:jE X e te):jS X (.Return (some e) pos) (tRet te):=⟨zb3 he.out⟩
theorem ZC:jS X (.Return none pos) zbt:=⟨QT⟩
theorem zx {A B:List Stmt} (hc:jT X c tA) (ha:jSs X A s1) (hb:jSs X B s2):jS X (.If c A B pos) (tIfS tA s1 s2):=⟨zdb hc.out ha.out hb.out⟩
theorem V3 {i:Nat} {pos':Pos} (hN:X.N.Nodup) (hi:X.N[i]?=some x) (hx:Loc X.env.scope x) (he:jE X e te) (hs:swapsWith e (some (.Name x pos')) pos.line X.env=pure false:=by rfl)
    (hf:X.fn x=true\/X.env.scope.names.lookup x=some .local:=by first | exact .inl rfl | exact .inr rfl | assumption):jS X (.Assign [.Name x pos'] e pos) (tAsg te (we i)):=⟨zb7 hN hi hx he.out hs hf⟩
theorem yu (he:jE X e te) (hg:jG X tg g) (hs:swapsWithSole [tg] e pos.line X.env=pure false:=by rfl) (hw:swappedStores [tg] e X.env=pure none:=by rfl) (h1:(assignEach [tg] X.env).map (·.2)=[assign tg X.env]:=by rfl):jS X (.Assign [tg] e pos) (tAsg te g):=⟨zb6 he.out hg.out hs hw h1⟩
theorem zai {i:Nat} (hN:X.N.Nodup) (hi:X.N[i]?=some x) (hx:Loc X.env.scope x) (hf:X.fn x=true\/X.env.scope.names.lookup x=some .local:=by first | exact .inl rfl | exact .inr rfl | assumption):jG X (.Name x pos) (we i):=⟨QU hN hi hx hf⟩
theorem yi:jGs X [] gNil:=⟨QV⟩
theorem zw {g:TG} {gs:TGs} (h1:jG X e g) (h2:jGs X es gs) (hs:(assignEach (e :: es) X.env).map (·.2)=assign e X.env :: (assignEach es X.env).map (·.2):=by rfl):jGs X (e :: es) (zbu g gs):=⟨VA h1.out h2.out hs⟩
theorem yB {k:Nat} {gs:TGs} {n:Nat} (hc:X.calm=true) (h:jGs X es gs) (hn:(assignEach es X.env).length=n:=by rfl) (hst:(assignEach es X.env).findIdx? (·.1)=none:=by rfl):jG X (.Tuple es k pos) (gTup X.K n gs):=⟨zb4 hc h.out hn hst⟩
theorem vp {l:Expr} {tl:TE} (hl:jE X l tl):jI X tg l (zbv X.K tl):=⟨QW hl.out⟩
theorem ZD {l:Expr} {tl:TE} (hl:jE X l tl):jI X tg l (iTup X.K tl):=⟨zb9 hl.out⟩
theorem zcy (hc:X.calm=true) {l:Expr} {tl:TE} (hl:jE X l tl):jI X tg l (iStr tl):=⟨zcu hc hl.out⟩
theorem xG (hg:Gl X "range") (hm:X.mg "range"=none) (ha:jA X [a] t) (h:zm a=false:=by rfl):jI X tg (.Call (.Name "range" p) [a] [] pos) (zbw t):=⟨WO hg hm ha.out (zI h)⟩
theorem yO (hp:PassesOwn (model X.prog X.w) X.A X.env X.xe) (hc:X.calm=true) (hi:jI X tg iter wi) (hg:jG X tg g) (hb:jSs X sts tb1) (hs:∀ x,foldedSetIterable iter X.env x=pure x:=by intro _; rfl):jS X (.For tg iter sts [] pos) (tFor wi g tb1):=⟨zca hp hc hi.out hg.out hb.out hs⟩
theorem xo (hp:PassesOwn (model X.prog X.w) X.A X.env X.xe) (hc:jT X c tA) (hb:jSs X sts tb1):jS X (.While c sts [] pos) (VB tA tb1):=⟨VC hp hc.out hb.out⟩
theorem wm:jTs X [] tYes:=⟨zad⟩
theorem wn {scope:Scope} (M:List Str) (hc:X.calm=true) (hi:jI X tg iter wi) (hg:∀ C s H ex E,jG (cxLC X scope (clOf scope X.env) M C s H ex E) tg g) (ht:∀ C s H ex E,jTs (cxLC X scope (clOf scope X.env) M C s H ex E) ifs tt)
    (he:∀ C s H ex E,jE (cxLC X scope (clOf scope X.env) M C s H ex E) elt te) (hs:∀ x,foldedSetIterable iter X.env x=pure x:=by intro _; rfl)
    (h1:closureFor scope X.env=pure (clOf scope X.env):=by with_unfolding_all rfl) (h2:scope.kind=.function:=by rfl) (h3:scope.names.all (fun y=>y.2 != .cell)=true:=by rfl) (h4:scope.names.all (fun y=>y.2 != .local || scope.names.lookup y.1 == some .local)=true:=by rfl)
    (h5:X.N.all (fun y=>scope.names.lookup y != some .local)=true:=by rfl) (h6:scope.names.all (fun p=>p.2 != .free || (((clOf scope X.env).lookup p.1).isSome && (X.env.kindOf p.1 == some .cell || X.env.kindOf p.1 == some .free)))=true:=by rfl) :
    jE X (.ListComp elt [⟨tg,iter,ifs,0⟩] scope pos) (tLC wi g tt te M.length):=⟨zaf M hc hi.out (fun C s H ex E=>(hg C s H ex E).out) (fun C s H ex E=>(ht C s H ex E).out) (fun C s H ex E=>(he C s H ex E).out) hs h1 h2 h3 h4 h5 h6⟩
theorem zJ:jOp X (binaryOp .Add) (rI0 fun i j=>.int (i + j)):=⟨zcb⟩
theorem xp:jOp X (binaryOp .Sub) (rI0 fun i j=>.int (i - j)):=⟨zcc⟩
theorem yG:jOp X (binaryOp .Mult) (rI CMul fun i j=>.int (i * j)):=⟨zcd⟩
theorem zC:jOp X (binaryOp .FloorDiv) (rI CDiv fun i j=>.int (i / j)):=⟨QX⟩
theorem zu:jOp X (binaryOp .Mod) (rI (fun _ j=>0 < j) fun i j=>.int (i % j)):=⟨zce⟩
theorem zcz:jOp X (binaryOp .Pow) (rI CPow fun i j=>.int (i ^ j.toNat)):=⟨zcf⟩
theorem zV:jOp X (compareOp .Eq) rEq:=⟨zde⟩
theorem zbB:jOp X (compareOp .NotEq) rNe:=⟨zdf⟩
theorem vg:jOp X (compareOp .Lt) (rI0 fun i j=>.bl (decide (i < j))):=⟨zdg⟩
theorem jV:jOp X (compareOp .LtE) (rI0 fun i j=>.bl (decide (i<=j))):=⟨zdh⟩
theorem X4:jOp X (compareOp .Gt) (rI0 fun i j=>.bl (decide (j < i))):=⟨zdi⟩
theorem jX:jOp X (compareOp .In) (fun x y H Q=>∃ i j,x=.str i/\y=.str j/\Q (.bl (!(Builtin.Str.occurrences j i 0 j.length 1).isEmpty)) H):=⟨WQ⟩
theorem wL:jOp X (compareOp .In) (rIn X.K false):=⟨WV⟩
theorem ZE:jOp X (compareOp .NotIn) (rIn X.K true):=⟨Zu⟩
theorem z6:jOp X (binaryOp .Add) (fun x y H Q=>∃ i j,x=.str i/\y=.str j/\i.length + j.length<=sizeLine/\Q (.str (i ++ j)) H):=⟨YS⟩
theorem vJ:jOp X (binaryOp .Mult) (fun x y H Q=>∃ z n,x=.str z/\y=.int n/\MulOk z n/\Q (.str (Txt.mul z n)) H):=⟨Y2⟩
theorem zX:jOp X (binaryOp .Add) rCat:=⟨zcs⟩
theorem zaj:jOp X (binaryOp .Add) (zbz X.K):=⟨Q9⟩
theorem z5:jIx X (rIxL X.K):=⟨zaa⟩
theorem zcA:jIx X (rIxT X.K):=⟨zco⟩
theorem x6:jSl X rSlS:=⟨zcw⟩
theorem z8:jSl X (rSlL X.K):=⟨zab⟩
theorem zcB:jSl X (rSlT X.K):=⟨zcn⟩
theorem xS:jMt X "str.startswith" X1:=⟨jy⟩
theorem yP:jMt X "str.split" VY:=⟨VZ⟩
theorem zA:jMt X "list.append" XY:=⟨WW⟩
theorem x8:jMt X "list.pop" rPop:=⟨zcr⟩
theorem wM:jMt X "list.extend" XZ:=⟨WX⟩
theorem x9:jCa X (.builtin "len") (fun xs H Q=>∃ z,xs=[.str z]/\z.length<=sizeLine/\Q (.int z.length) H):=⟨Zw⟩
theorem yq:jCa X (.builtin "len") (fun xs H Q=>∃ p ys,xs=[.ref p]/\(SqL X.K H p ys\/SqT X.K H p ys)/\Q (.int ys.length) H):=⟨Zv⟩
theorem ZF (hc:X.calm=true):jCa X (.builtin "all") (fun xs H Q=>∃ (p:Addr) (bs:List Bool),xs=[.ref p]/\SqL X.K H p (bs.map V.bl)/\Q (.bl (bs.all _root_.id)) H):=⟨vH hc⟩
theorem yW:jCa X (.builtin "isinstance") (fun xs H Q=>∃ x t T b,xs=[x,.ty T]/\TyOf X.K H x t/\PySem.W.kitOne X.K t (.type T)=some b/\Q (.bl b) H):=⟨Yc⟩
theorem y7:jCa X (.type "str") (fun xs H Q=>∃ i,xs=[.int i]/\i.natAbs.log2 < 1920/\Q (.str (toString i)) H):=⟨Zr⟩
theorem zW:jCa X (.type "tuple") (fun xs H Q=>∃ p ys,xs=[.ref p]/\((SqL X.K H p ys/\∀ l,H l=none->Q (.ref l) (upd H l (.tup ys)))\/(SqT X.K H p ys/\Q (.ref p) H))):=⟨jx⟩
theorem yQ:jCa X (.type "list") (fun xs H Q=>∃ p ys,xs=[.ref p]/\(SqL X.K H p ys\/SqT X.K H p ys)/\∀ l,H l=none->Q (.ref l) (upd H l (.lst ys))):=⟨Zx⟩
end
section
variable {P:Program} {w:World} {K:PySem.W.Frag} {mg:Str->Option Value} {base:Heap}
theorem Fun.by {x qual:Str} {st:Stmt} {f:Addr} {fd:FuncData} {N ps:List Str} {k:Nat} {sp:Sp} (F:Fun K x qual st f fd) (S:FnScope N ps (zj st)) (len:∀ vs H Q E,sp vs H Q E->vs.length=ps.length)
    (hbody:∀ (cdv:Value) (A:Around) (outer:List Env) (s:Shared) (H:Hp) (vs:List V) (Q:VK) (E:XK),Room k (A.deeper (envOfC qual (zj st) s.heap.objs.size f cdv))->sp vs H Q E ->
      ∃ t,jSs (cxOf CX0 P w K mg base N qual (zj st) f cdv A outer s H E).nox (yp st) t/\t { nx:=fun _ H'=>Q .non H',rt:=Q } (start N vs) H):FnOk P w K mg base CX0 (k + 1) f fd ps sp :=
  F.ok S len fun cdv A outer s H vs Q E hr h=>let ⟨t,b,q⟩:=hbody cdv A outer s H vs Q E hr h; ⟨t,b.out,q⟩
end
end L2
namespace L2
open PySem
structure Mv (fs xs:List Addr) (h h':Heap):Prop where
  keep:∀ b o,h.get? b=some o->b ∉ fs->b ∉ xs->h'.get? b=some o
  slot:∀ b o,h.get? b=some o->b ∉ xs->∃ sl,h'.get? b=some { o with slots:=sl }
  there:∀ b o,h.get? b=some o->∃ o',h'.get? b=some o'
theorem Mv.trans {fs xs:List Addr} {h h1 h2:Heap} (a:Mv fs xs h h1) (b:Mv fs xs h1 h2):Mv fs xs h h2 :=
  ⟨fun c o e f x=>b.keep c o (a.keep c o e f x) f x,fun c o e x=>let ⟨_,e1⟩:=a.slot c o e x; let ⟨sl,e2⟩:=b.slot c _ e1 x; ⟨sl,e2⟩,fun c o e=>let ⟨o1,e1⟩:=a.there c o e; b.there c o1 e1⟩
theorem Mv.mono {fs fs' xs xs':List Addr} {h h1:Heap} (a:Mv fs xs h h1) (hf:∀ b∈fs,b∈fs') (hx:∀ b∈xs,b∈xs'):Mv fs' xs' h h1 :=
  ⟨fun c o e f x=>a.keep c o e (fun z=>f (hf c z)) fun z=>x (hx c z),fun c o e x=>a.slot c o e fun z=>x (hx c z),a.there⟩
structure Tr (h:Heap) (e:Addr) (C:Value) (dx:Option Addr) (T:Addr) (fl:Value):Prop where
  ex:∃ oe vs,h.get? e=some oe/\oe.cls=C/\oe.dict=dx/\oe.data=.fields vs/\vs[1]?=some (.ref T)/\vs[2]?=some .none
  tb:∃ ot ts,h.get? T=some ot/\ot.data=.fields ts/\ts[3]?=some fl
  ne:T≠e
theorem xq (f:Array Value->Array Value) (o:Obj):(Obj.mapFields f o).dict=o.dict:=by
  unfold Obj.mapFields
  split <;> rfl
theorem Y4 {h base:Heap} {l:List Env} (hl:h.FunFrames base l) {e:Addr} {oe:Obj} {vs:Array Value} (he:h.get? e=some oe) (hd:oe.data=.fields vs):e ∉ l.filterMap (·.frame):=fun z=>by
  obtain ⟨_,o,ho,nf⟩:=hl.mem z
  rw [he] at ho
  cases ho
  exact nf vs hd
section
variable {M:Model} {A:Around} {E:Value->Shared->Prop} {s:Shared} {base:Heap} {env:Env} {outer:List Env} {L e T:Addr} {C:Value} {dx:Option Addr} {Q:Unit->Shared->Prop}
theorem jY {oe:Obj} {vs:Array Value} {head:Value} {had:Bool} (hfr:A.frames=some (env :: outer)) (hl:s.heap.FunFrames base (env :: outer)) (hf:env.frame=some L)
    (he:s.heap.get? e=some oe) (hd:oe.data=.fields vs) (hsz:1 < vs.size) (hz2:vs[2]?=some .none)
    (hq:∀ h' T,s.heap.objs.size<=T->Tr h' e oe.cls oe.dict T (rawInt L)->Mv ((env :: outer).filterMap (·.frame)) [e] s.heap h'->Q () { s with heap:=h' }) :
    wpAny M A (do let a <- frameOf env; let pl <- entryPlaceOf L had; let b <- EntryCells.newEntry head a .none (rawInt L) .none pl; setField (.ref e) 1 b) Q E s:=by
  have nf:=Y4 hl he hd
  refine wpAny_bind (wpAny_frameOf_fun hfr hl hf fun h1 s1=>wpAny_bind (wpAny_entryPlaceOf fun pl hp=>?_))
  unfold EntryCells.newEntry newFields
  refine wpAny_bind (wpAny_newObj_type ?_ (by exact hp.sizeOk5 _ _ _ _ _))
  have e1:h1.get? e=some oe:=(s1.2.1 e nf).trans he
  have ne:h1.objs.size≠e:=Nat.ne_of_gt (Heap.lt_size e1)
  generalize ho:({ cls:=.type "traceback",dict:=none,data:=.fields ([head,.ref L,.none,rawInt L,.none] ++ (if pl.isEmpty then List.replicate 6 Value.none else pl)).toArray }:Obj)=ob
  have t3:∃ ts,ob.data=.fields ts/\ts[3]?=some (rawInt L):=by
    subst ho
    refine ⟨_,rfl,?_⟩
    simp
  have fr:ob.isFreed=false:=by
    obtain ⟨ts,q,_⟩:=t3
    exact Obj.isFreed_of_fields q
  have e2:=Heap.get?_push_of_some (h:=h1) ob e1
  refine wpAny_setField e2 hd hsz (hq _ h1.objs.size (Nat.le_of_eq s1.1.symm) ⟨?_,?_,ne⟩ ⟨fun b o q f x=>?_,fun b o q x=>?_,fun b o q=>?_⟩)
  · exact ⟨_,_,Heap.get?_update_self _ e2 (Obj.isFreed_of_fields (Obj.data_mapFields hd _)),Obj.cls_mapFields _ _,xq _ _,Obj.data_mapFields hd _,by simp [hsz],by simp [hz2]⟩
  · obtain ⟨ts,q1,q2⟩:=t3
    exact ⟨ob,ts,(Heap.get?_update_other _ _ (Ne.symm ne)).trans (Heap.get?_push_size _ fr),q1,q2⟩
  · rw [Heap.get?_update_other _ _ (fun z=>x (by simp [z]))]
    exact Heap.get?_push_of_some _ ((s1.2.1 b f).trans q)
  · obtain ⟨sl,q1⟩:=s1.2.2 b o q
    exact ⟨sl,by rw [Heap.get?_update_other _ _ (fun z=>x (by simp [z]))]; exact Heap.get?_push_of_some _ q1⟩
  · obtain ⟨sl,q1⟩:=s1.2.2 b o q
    by_cases z:b=e
    · subst z
      exact ⟨_,Heap.get?_update_self _ e2 (Obj.isFreed_of_fields (Obj.data_mapFields hd _))⟩
    · exact ⟨_,by rw [Heap.get?_update_other _ _ (Ne.symm z)]; exact Heap.get?_push_of_some _ q1⟩
theorem jZ {oe:Obj} {vs:Array Value} (hfr:A.frames=some (env :: outer)) (hl:s.heap.FunFrames base (env :: outer)) (hf:env.frame=some L)
    (he:s.heap.get? e=some oe) (hd:oe.data=.fields vs) (h1:vs[1]?=some .none) (hz2:vs[2]?=some .none)
    (hq:∀ h' T,s.heap.objs.size<=T->Tr h' e oe.cls oe.dict T (rawInt L)->Mv ((env :: outer).filterMap (·.frame)) [e] s.heap h'->Q () { s with heap:=h' }) :
    wpAny M A (noteFrame (.ref e) env) Q E s:=by
  unfold noteFrame
  simp only [hf]
  refine wpAny_bind (wpAny_field he hd h1 ?_)
  rw [if_neg (by decide:¬ ((Value.none != Value.none)=true))]
  exact jY hfr hl hf he hd (Array.getElem?_eq_some_iff.mp h1).1 hz2 hq
theorem vq {fl:Value} {v:Option Addr} (t:Tr s.heap e C dx T fl) (hq:∀ h',Tr h' e C dx T (v.elim .none fun f=>rawInt f)->Mv [] [T] s.heap h'->Q () { s with heap:=h' }) :
    wpAny M A (setFlight (.ref e) v) Q E s:=by
  obtain ⟨⟨oe,vs,he,hc,hx,hd,h1,hz2⟩,⟨ot,ts,ht,hdt,h3⟩,ne⟩:=t
  unfold setFlight
  refine wpAny_bind (wpAny_field he hd h1 ?_)
  rw [if_pos (by simp:(Value.ref T != Value.none)=true)]
  have up:=Heap.get?_update_self (Obj.mapFields (·.setIfInBounds 3 (v.elim .none fun f=>rawInt f))) ht (Obj.isFreed_of_fields (Obj.data_mapFields hdt _))
  refine wpAny_setField ht hdt (Array.getElem?_eq_some_iff.mp h3).1 (hq _ ⟨⟨oe,vs,(Heap.get?_update_other _ _ ne).trans he,hc,hx,hd,h1,hz2⟩,⟨_,_,up,Obj.data_mapFields hdt _,?_⟩,ne⟩ ⟨fun b o q _ x=>?_,fun b o q x=>⟨o.slots,?_⟩,fun b o q=>?_⟩)
  · simp [(Array.getElem?_eq_some_iff.mp h3).1]
  · exact (Heap.get?_update_other _ _ (fun z=>x (by simp [z]))).trans q
  · exact (Heap.get?_update_other _ _ (fun z=>x (by simp [z]))).trans q
  · by_cases z:b=T
    · subst z
      exact ⟨_,up⟩
    · exact ⟨o,(Heap.get?_update_other _ _ (Ne.symm z)).trans q⟩
theorem Ye (hfr:A.frames=some (env :: outer)) (hl:s.heap.FunFrames base (env :: outer)) (hf:env.frame=some L) (t:Tr s.heap e C dx T .none)
    (hq:∀ h' T',s.heap.objs.size<=T'->Tr h' e C dx T' (rawInt L)->Mv ((env :: outer).filterMap (·.frame)) [e,T] s.heap h'->Q () { s with heap:=h' }) :
    wpAny M A (noteFrame (.ref e) env) Q E s:=by
  obtain ⟨⟨oe,vs,he,hc,hx,hd,h1,hz2⟩,⟨ot,ts,ht,hdt,h3⟩,ne⟩:=t
  subst hc
  subst hx
  unfold noteFrame
  simp only [hf]
  refine wpAny_bind (wpAny_field he hd h1 ?_)
  rw [if_pos (by simp:(Value.ref T != Value.none)=true)]
  refine wpAny_bind (wpAny_field ht hdt h3 ?_)
  rw [if_neg (by simp [rawInt]:¬ ((Value.none == rawInt L)=true))]
  have up:=Heap.get?_update_self (Obj.mapFields (·.setIfInBounds 3 .none)) ht (Obj.isFreed_of_fields (Obj.data_mapFields hdt _))
  have k:∀ b o,b≠T->s.heap.get? b=some o->(s.heap.update T (Obj.mapFields (·.setIfInBounds 3 .none))).get? b=some o:=fun b o z q=>(Heap.get?_update_other _ _ (Ne.symm z)).trans q
  refine wpAny_bind (wpAny_setField ht hdt (Array.getElem?_eq_some_iff.mp h3).1 ?_)
  refine jY (base:=base) hfr (hl.of_keeps fun b o q nf=>⟨o,k b o (fun z=>?_) q,rfl⟩) hf (k e oe (Ne.symm ne) he) hd (Array.getElem?_eq_some_iff.mp h1).1 hz2 fun h' T' hs t m=>hq h' T' ?_ t ⟨fun b o q f x=>?_,fun b o q x=>?_,fun b o q=>?_⟩
  · rw [z,ht] at q
    cases q
    exact nf ts hdt
  · rw [Heap.size_after_update] at hs
    exact hs
  · exact m.keep b o (k b o (fun z=>x (by simp [z])) q) f fun z=>x (by simp at z; simp [z])
  · exact m.slot b o (k b o (fun z=>x (by simp [z])) q) fun z=>x (by simp at z; simp [z])
  · by_cases z:b=T
    · subst z
      exact m.there b _ up
    · exact m.there b o (k b o z q)
end
end L2
namespace L2
open PySem PySem.Spec PyProof.Rows
theorem HOk.moved {P:Program} {w:World} {H:Hp} {h h':Heap} {fs xs:List Addr} (x:HOk P w H h) (m:Mv fs xs h h') (hf:∀ b∈fs,H b=none) (hx:∀ b∈xs,H b=none):HOk P w H h':=fun a o e =>
  (x a o e).stay (fun b u hb q=>m.keep b u q (fun z=>by
      have n:=hf b z
      rcases hb with r | r
      · rw [r,e] at n
        cases n
      · rw [r] at n
        cases n) fun z=>by
      have n:=hx b z
      rcases hb with r | r
      · rw [r,e] at n
        cases n
      · rw [r] at n
        cases n) (fun _ q=>q) fun _ _ q=>q
def CXf (P:Program) (w:World):CXT:=fun outer H s E u s'=>∃ (e T:Addr) (C:Value) (dx:Option Addr) (H':Hp),u=.ref e/\s'.os=s.os/\AllBare s'.gens/\Un (frs outer) [] H H' s.heap s'.heap/\HOk P w H' s'.heap /\
  Tr s'.heap e C dx T .none/\(s.heap.objs.size<=e/\s.heap.objs.size<=T)/\(H' e=none/\H' T=none)/\E C dx H'
def Fl (h:Heap) (H:Hp) (n:Nat) (e:Addr) (C:Value) (dx:Option Addr):Prop :=
  (∃ oe vs,h.get? e=some oe/\oe.cls=C/\oe.dict=dx/\oe.data=.fields vs/\vs[1]?=some .none/\vs[2]?=some .none)\/∃ T,Tr h e C dx T .none/\H T=none/\n<=T
def Air (X:Cx) (pins:List (Addr × Obj)) (σ:St) (E:XK) (u:Value) (s':Shared):Prop:=∃ (e:Addr) (C:Value) (dx:Option Addr) (H':Hp) (n:Nat),u=.ref e/\Inv X pins σ H' s'/\H' e=none/\X.s₀.heap.objs.size<=n/\n<=e/\(∀ p∈X.pn ++ pins,p.1 < n)/\Fl s'.heap H' n e C dx/\E C dx H'
section
variable {P:Program} {w:World} {K:PySem.W.Frag} {mg:Str->Option Value} {base:Heap} {N:List Str} {qual:Str} {scope:Scope} {f:Addr} {cd:Value} {A:Around} {outer:List Env} {s:Shared} {H:Hp} {E:XK}
theorem j0 {pins:List (Addr × Obj)} {σ:St} {u:Value} {s':Shared} (h:Air (cxOf (CXf P w) P w K mg base N qual scope f cd A outer s H E) pins σ E u s'):(cxOf (CXf P w) P w K mg base N qual scope f cd A outer s H E).xe u s':=by
  obtain ⟨e,C,dx,H',n,rfl,I,ne,hn,he,hp,st,hE⟩:=h
  have fin:∀ (h2:Heap) (T:Addr) (xs:List Addr),Tr h2 e C dx T .none->Mv (frs (cxOf (CXf P w) P w K mg base N qual scope f cd A outer s H E).stack) xs s'.heap h2->(∀ b∈xs,H' b=none/\s.heap.objs.size<=b)->H' T=none->s.heap.objs.size<=T ->
      CXf P w outer H s E (.ref e) { s' with heap:=h2 }:=by
    intro h2 T xs t m hx nT sT
    have nst:∀ (b:Addr) (o:Obj),s.heap.get? b=some o->b ∉ frs outer->b ∉ frs (cxOf (CXf P w) P w K mg base N qual scope f cd A outer s H E).stack:=fun b o q nb z=>by
      rcases List.mem_cons.mp (I.stkSub b z) with r | r
      · exact absurd (show b=(cxOf (CXf P w) P w K mg base N qual scope f cd A outer s H E).env.locals from r) (Nat.ne_of_lt (Nat.lt_of_lt_of_le (Heap.lt_size q) I.ok.above))
      · exact nb r
    have nx:∀ (b:Addr) (o:Obj),s.heap.get? b=some o->b ∉ xs:=fun b o q z=>absurd (Nat.lt_of_lt_of_le (Heap.lt_size q) (hx b z).2) (Nat.lt_irrefl _)
    have B:Un (frs outer) [] H H' s.heap s'.heap:=I.base
    refine ⟨e,T,C,dx,H',rfl,I.os,I.bare,⟨fun b o q n hb hx=>?_,fun b o q n hb hx=>?_,B.free,fun b o q hx=>?_,B.tups,B.frzs,B.tbls⟩,I.hok.moved m I.stkFree fun b hb=>(hx b hb).1,t,⟨Nat.le_trans hn he,sT⟩,⟨ne,nT⟩,hE⟩
    · exact m.keep b o (B.keep b o q n hb hx) (nst b o q hb) (nx b o q)
    · obtain ⟨sl,q1⟩:=B.slot b o q n hb hx
      obtain ⟨sl2,q2⟩:=m.slot b _ q1 (nx b o q)
      exact ⟨sl2,q2⟩
    · obtain ⟨o1,q1⟩:=B.there b o q hx
      exact m.there b o1 q1
  show wpAny (model P w) _ (leaving _ (.ref e)) _ _ s'
  unfold leaving
  rcases st with ⟨oe,vs,h1,rfl,rfl,h4,h5,h6⟩ | ⟨T0,t0,n0,s0⟩
  · refine wpAny_bind (jZ I.ok.frames I.stack rfl h1 h4 h5 h6 fun h' T hs t m=>vq t fun h2 t2 m2=>?_)
    refine fin h2 T [e,T] t2 ((m.mono (fun _ z=>z) fun b z=>?_).trans (m2.mono (fun b z=>nomatch z) fun b z=>?_)) (fun b hb=>?_) (I.hok.fresh hs) (Nat.le_trans I.sz hs)
    · simp at z
      simp [z]
    · simp at z
      simp [z]
    · rcases List.mem_cons.mp hb with r | hb
      · rw [r]
        exact ⟨ne,Nat.le_trans hn he⟩
      · rw [List.mem_singleton.mp hb]
        exact ⟨I.hok.fresh hs,Nat.le_trans I.sz hs⟩
  · refine wpAny_bind (Ye I.ok.frames I.stack rfl t0 fun h' T hs t m=>vq t fun h2 t2 m2=>?_)
    refine fin h2 T [e,T0,T] t2 ((m.mono (fun _ z=>z) fun b z=>?_).trans (m2.mono (fun b z=>nomatch z) fun b z=>?_)) (fun b hb=>?_) (I.hok.fresh hs) (Nat.le_trans I.sz hs)
    · simp at z
      rcases z with z | z <;> simp [z]
    · simp at z
      simp [z]
    · rcases List.mem_cons.mp hb with r | hb
      · rw [r]
        exact ⟨ne,Nat.le_trans hn he⟩
      · rcases List.mem_cons.mp hb with r | hb
        · rw [r]
          exact ⟨n0,Nat.le_trans hn s0⟩
        · rw [List.mem_singleton.mp hb]
          exact ⟨I.hok.fresh hs,Nat.le_trans I.sz hs⟩
theorem V4 {X:Cx} {pins:List (Addr × Obj)} {σ:St} {H1:Hp} {s1 s2:Shared} {u:Value} {E':XK} (hP:X.prog=P) (hw:X.w=w) (I:Inv X pins σ H1 s1) (h:CXf P w X.stack H1 s1 E' u s2):Air X pins σ E' u s2:=by
  obtain ⟨e,T,C,dx,H',rfl,os,bare,un,hok,t,⟨se,sT⟩,⟨ne,nT⟩,hE⟩:=h
  have I2:Inv X pins σ H' s2:=I.call' (ch:=[]) os un (by rw [hP,hw]; exact hok) bare (fun b z=>absurd z (by simp))
  exact ⟨e,C,dx,H',s1.heap.objs.size,rfl,I2,ne,I.sz,se,fun p hp=>Heap.lt_size (I.pin p hp).1,.inr ⟨T,t,nT,sT⟩,hE⟩
theorem zG:yA (CXf P w) (cxOf (CXf P w) P w K mg base N qual scope f cd A outer s H E) E:=fun pins σ H1 s1 u s2 I h=>j0 (V4 rfl rfl I h)
theorem ownx:PassesOwn (model P w) (cxOf (CXf P w) P w K mg base N qual scope f cd A outer s H E).A (cxOf (CXf P w) P w K mg base N qual scope f cd A outer s H E).env (cxOf (CXf P w) P w K mg base N qual scope f cd A outer s H E).xe:=PassesOwn.leaving
theorem Fun.byx {x:Str} {st:Stmt} {fd:FuncData} {ps:List Str} {k:Nat} {sp:Sp} (F:Fun K x qual st f fd) (S:FnScope N ps (zj st)) (len:∀ vs H Q E,sp vs H Q E->vs.length=ps.length)
    (hbody:∀ (cdv:Value) (A:Around) (outer:List Env) (s:Shared) (H:Hp) (vs:List V) (Q:VK) (E:XK),Room k (A.deeper (envOfC qual (zj st) s.heap.objs.size f cdv))->sp vs H Q E ->
      ∃ t,jSs (cxOf (CXf P w) P w K mg base N qual (zj st) f cdv A outer s H E) (yp st) t/\t { nx:=fun _ H'=>Q .non H',rt:=Q } (start N vs) H):FnOk P w K mg base (CXf P w) (k + 1) f fd ps sp:=by
  obtain ⟨oc,od,kV,doc,pm,an,cdv,ct,osl,rfl,lk,hcd⟩:=F.ex
  refine zby lk hcd S len fun A outer s H vs Q E hr hsp=>?_
  obtain ⟨t,h,q⟩:=hbody cdv A outer s H vs Q E hr hsp
  exact ⟨t,h.out,q⟩
end
end L2
namespace L2
open PySem
section
variable {M:Model} {A:Around} {E:Value->Shared->Prop} {env:Env} {nm q:Str} {C N:Addr} {bs bm:List Value} {hdct:Bool} {sn:List Str} {sub:List Value} {ab:Bool} {col:Option Bool} {dd:Option Addr} {k0 k1 k2 k3 k5:Option Value} {newId:String}
theorem zak {s:Shared} {x:Sem Value} {Q:Flow->Shared->Prop} (hb:bm.contains (.type "BaseException")=true) (hh:A.handled=none)
    (h:wpAny M A x (fun v s1=>∃ e oe vs,v=.ref e/\s1.heap.get? C=some (excClassObj nm q C N bs bm hdct sn sub ab col dd k0 k1 k2 k3 k5 newId)/\s1.heap.get? e=some oe/\oe.cls=.ref C/\oe.data=.fields vs/\vs[1]?=some .none/\E (.ref e) s1) E s) :
    wpAny M A (raiseStmt env (some x) none) Q E s:=by
  have cB:(Value.ref C :: bm).contains (.type "BaseException")=true:=by rw [List.contains_cons,hb,Bool.or_true]
  unfold raiseStmt
  refine wpAny_bind (wpAny_mono h (fun v s1 h1=>?_) fun _ _ x=>x)
  obtain ⟨e,⟨c,d0,dt,sl⟩,vs,rfl,hC,he,hc,hd,hv,hE⟩:=h1
  dsimp only at hc hd
  subst hc hd
  obtain ⟨hp,g,d,tk,os⟩:=s1
  repeat (first | (with_reducible refine wpAny_field he rfl hv ?_) | with_reducible refine wpAny_loadPart_at he ?_ | with_reducible refine wpAny_loadPart_at hC ?_ | (with_reducible refine wpAny_isSubtype_exc hC ?_; rw [cB]) | wp_step)
  exact wpAny_raiseNew_none hh hE
end
theorem zal {M:Model} {A:Around} {E:Value->Shared->Prop} {s:Shared} {f:Addr} {ob:Obj} {self:Value} {Q:Value × List Value->Shared->Prop} (h1:s.heap.get? f=some ob) (h2:ob.cls=.type "function") (q:Q (.ref f,[self]) s):wpAny M A (bindSpecial (.ref f) self) Q E s:=by
  unfold bindSpecial
  refine wpAny_bind (wpAny_typeOf (T:="function") ⟨ob,h1,h2⟩ ?_)
  exact wpAny_pure q
abbrev xr (rest:List Value):Obj:={ cls:=.type "tuple",data:=.seq rest.toArray }
abbrev xU (C t:Addr):Obj:={ cls:=.ref C,data:=.fields #[.ref t,.none,.none,.none,.bool false,.none] }
section
variable {prog:Program} {w:World} {A:Around} {E:Value->Shared->Prop} {h:Heap} {g:Array GenState} {d:Drawn} {t:Nat} {os:OsState}
variable {nm q:Str} {C N f:Addr} {bs bm bmB:List Value} {hdct:Bool} {sn:List Str} {sub:List Value} {ab:Bool} {col:Option Bool} {dd:Option Addr} {k0 k1 k2 k3 k5:Option Value} {B Bn newId nid initId inN:String} {bmN:List Value}
theorem Yf (Fn:ExcBaseFacts Bn newId inN bmN) (hBn:bmB.contains (.type Bn)=true) (F:ExcBaseFacts B nid initId bmB) (T:OwnTail h bmB bm) {mN:Str->Option Value} {rest:List Value} {Q:Fin->Shared->Prop} {ob:Obj}
    (hC:h.get? C=some (excClassObj nm q C N bs bm hdct sn sub ab col dd k0 k1 k2 k3 k5 newId)) (hn:h.Ns N mN) (hi:mN "__init__"=some (.ref f)) (hf:h.get? f=some ob) (hfc:ob.cls=.type "function") (hrest:rest.length<=sizeLine)
    (hq:wpAny (model prog w) A (call (.ref f) (.ref (h.objs.size + 1) :: rest)) (fun v s'=>v=.none/\Q (.done (.ret (.ref (h.objs.size + 1)))) s') E ⟨(h.push (xr rest)).push (xU C h.objs.size),g,d,t,os⟩) :
    wpAny (model prog w) A (Builtin.«type.__call__» ⟨.ref C :: rest,[]⟩) Q E ⟨h,g,d,t,os⟩:=by
  repeat (first | with_reducible refine wpAny_madeBy_exc hC ?_ | with_reducible refine wpAny_loadPart_at hC ?_ | wp_step)
  refine codeAny_call_builtin_code (Code.quiet_builtin _ Fn.quiet) (wpAny_check_new_subU Fn hBn T hC (codeAny_exc_new_subU Fn hBn F T hC ?_ hrest))
  show wpAny _ _ _ _ _ _
  have k:∀ b o,h.get? b=some o->((h.push (xr rest)).push (xU C h.objs.size)).get? b=some o:=fun b o e=>Heap.get?_push_of_some _ (Heap.get?_push_of_some _ e)
  have C1:=k _ _ hC
  have e1:((h.push (xr rest)).push (xU C h.objs.size)).get? (h.objs.size + 1)=some (xU C h.objs.size):=Heap.get?_push_at (by simp only [Heap.size_push]) rfl
  have cC:(Value.ref C :: bm).contains (.ref C)=true:=by simp
  unfold isInstance
  repeat (first | with_reducible refine wpAny_loadPart_at e1 ?_ | (with_reducible refine wpAny_isSubtype_exc C1 ?_; rw [cC]) | wp_step)
  show wpAny _ _ (typeLookup (.ref C) _) _ _ _
  refine wpAny_typeLookup_tail C1 (hn.keeps k) (T.keeps k) F.mroIs F.init.lookup ?_
  rw [hi]
  refine wpAny_holding (wpAny_bind (zal (k _ _ hf) hfc ?_))
  refine wpAny_bind (wpAny_mono hq (fun v s' hv=>?_) fun _ _ x=>x)
  obtain ⟨rfl,hv⟩:=hv
  exact wpAny_pure (wpAny_pure hv)
theorem zam (Fn:ExcBaseFacts Bn newId inN bmN) (hBn:bmB.contains (.type Bn)=true) (F:ExcBaseFacts B nid initId bmB) (T:OwnTail h bmB bm) {mN:Str->Option Value} {rest:List Value} {Q:Value->Shared->Prop} {ob:Obj}
    (hC:h.get? C=some (excClassObj nm q C N bs bm hdct sn sub ab col dd k0 k1 k2 k3 k5 newId)) (hn:h.Ns N mN) (hi:mN "__init__"=some (.ref f)) (hf:h.get? f=some ob) (hfc:ob.cls=.type "function") (hrest:rest.length<=sizeLine)
    (hq:wpAny (model prog w) (A.under (.builtin "type.__call__" ⟨.ref C :: rest,[]⟩)) (call (.ref f) (.ref (h.objs.size + 1) :: rest)) (fun v s'=>v=.none/\Q (.ref (h.objs.size + 1)) s') E ⟨(h.push (xr rest)).push (xU C h.objs.size),g,d,t,os⟩) :
    wpAny (model prog w) A (call (.ref C) rest) Q E ⟨h,g,d,t,os⟩:=by
  have f1:=tc_lookup
  have f2:=tc_bind (.ref C)
  have hT:(⟨h,g,d,t,os⟩:Shared).TypeIs (.ref C) "type":=⟨_,hC,rfl⟩
  refine wpAny_call (codeAny_of_tree ?_)
  show wpAny _ _ (callAny (.ref C) ⟨rest,[]⟩) _ _ _
  repeat (any_goals (first | assumption | (with_reducible refine wpAny_loadPart_at hC ?_) | wp_step))
  refine ⟨rfl,codeAny_call_builtin_at (Code.quiet_builtin _ (by decide +kernel)) entry_typeCall (wpAny_check_type_call_sub hC ?_)⟩
  exact Yf Fn hBn F T hC hn hi hf hfc hrest hq
theorem zan (F:ExcBaseFacts B nid initId bmB) (T:OwnTail h bmB bm) {e t0:Addr} {oe:Obj} {vs:Array Value} {rest:List Value} {Q:Value->Shared->Prop}
    (hC:h.get? C=some (excClassObj nm q C N bs bm hdct sn sub ab col dd k0 k1 k2 k3 k5 newId)) (he:h.get? e=some oe) (hc:oe.cls=.ref C) (hd:oe.data=.fields vs) (h0:vs[0]?=some (.ref t0)) (hrest:rest.length<=sizeLine)
    (hq:Q .none ⟨(h.push (xr rest)).update e (Obj.mapFields (·.setIfInBounds 0 (.ref h.objs.size))),g,d,t,os⟩) :
    wpAny (model prog w) A (call (.builtin initId) (.ref e :: rest)) Q E ⟨h,g,d,t,os⟩:=by
  refine wpAny_call (codeAny_call_builtin F.init.plain F.initEntry (wpAny_check_init_subU F T hC he hc ?_))
  unfold Builtin.«BaseException.__init__»
  dsimp only
  rw [if_neg (by simp:¬ ((!List.isEmpty ([]:List (Str × Value)))=true))]
  unfold newTuple Builtin.BaseException.bexcPut
  have e1:=Heap.get?_push_of_some (h:=h) (xr rest) he
  refine wpAny_bind (wpAny_newObj_type ?_ (by show rest.toArray.size<=sizeLine; rw [List.size_toArray]; exact hrest))
  refine wpAny_bind (wpAny_bind (wpAny_field e1 hd h0 (wpAny_bind (wpAny_setField e1 hd (Array.getElem?_eq_some_iff.mp h0).1 ?_))))
  exact wpAny_letGo (wpAny_pure hq)
end
end L2
namespace L2
open PySem PySem.W PySem.Calls PyProof.Rows Builtin Builtin.ObjectAttr
def bmV:List Value:=[.type "ValueError",.type "Exception",.type "BaseException",.type "object"]
theorem V5 (self:Value):refuseLoop self "__setattr__" bmV=pure ():=by kernel_rfl
def j3:List Value->Bool
  | []=>false
  | v :: r=>(v :: r) == bmV || (match v with
    | .ref _=>j3 r
    | _=>false)
theorem vh (self:Value):∀ {l:List Value},j3 l=true->refuseLoop self "__setattr__" l=pure ()
  | [],e=>by cases e
  | v :: r,e=>by
    unfold j3 at e
    rcases Bool.or_eq_true_iff.mp e with q | q
    · rw [beq_iff_eq.mp q]
      exact V5 self
    · split at q
      · rw [refuseLoop_ref]
        exact vh self q
      · cases q
theorem vK:∀ {l:List Value},j3 l=true->l.contains (.type "object")=true/\l.isEmpty=false
  | [],e=>by cases e
  | v :: r,e=>by
    unfold j3 at e
    rcases Bool.or_eq_true_iff.mp e with q | q
    · rw [beq_iff_eq.mp q]
      exact ⟨by decide,rfl⟩
    · split at q
      · exact ⟨by rw [List.contains_cons,(vK q).1,Bool.or_true],rfl⟩
      · cases q
def ZG (K:Frag) (C:Addr):Bool:=(clsIn K C).any fun cd=>j3 cd.mro
section
variable {prog:Program} {w:World} {A:Around} {E:Value->Shared->Prop} {K:Frag} {C e:Addr} {s:Shared} {ox:Obj} {od:Option Obj} {name:Str} {R:Result->Shared->Prop}
theorem zao {tk:Tok} {v:Value} (X:K.In s.heap) (I:InstAt s.heap e ox C od) (hp:ZG K C=true) (ht:takerIn K C name=some none)
    (h:∀ b,wpAny (model prog w) A.in1 (storeInOwnDict (.ref e) (.ref C) (.str name tk) name v b) (fun fin s'=>match fin with | .done f=>R (.ok f) s' | .again c'=>c'.quiet=true/\codeAny (model prog w) A c' R s') (fun u s'=>R (.error u) s') s) :
    codeAny (model prog w) A (.call (.builtin "object.__setattr__") ⟨[.ref e,.str name tk,v],[]⟩) R s:=by
  have SF:=PySem.F.store_object
  obtain ⟨cd,hc,ho⟩:=any_some hp
  have hm:Looks (model prog w) s.heap (mroOf (.ref C)) cd.mro:=(looks_clsIn X hc).andThen .now
  have sub:Looks (model prog w) s.heap (isInstance (.ref e) (.type "object")) true:=I.type.andThen (looks_mroIn X (by unfold mroIn; rw [hc,Option.bind_some,if_neg (by rw [(vK ho).2]; decide),(vK ho).1]))
  obtain ⟨attr,ha,hr⟩:=Option.bind_eq_some_iff.mp ht
  have tk3:Looks (model prog w) s.heap (storeTaker? attr) none:=by
    cases attr with
    | none=>exact .now
    | some a =>
      obtain ⟨b,hb,hn⟩:=Option.map_eq_some_iff.mp hr
      refine (looks_takesIn X hb).andThen ?_
      cases b
      · exact .now
      · cases hn
  refine codeAny_call_builtin SF.slot.plain SF.entry (@check_slot (model prog w) _ _ s "object.__setattr__" "object" "__setattr__" (.ref e) [.str name tk,v] [] _ SF.kind SF.split sub (SF.args (.ref e) (.str name tk) v) ?_)
  rw [osa_eq,refuse_eq]
  refine wpAny_bind (wpAny_bind (I.type.here (wpAny_bind (hm.here ?_))))
  rw [vh _ ho]
  exact wpAny_pure (wpAny_bind (I.type.here (wpAny_bind ((looks_findIn X ha).here (wpAny_bind (tk3.here (h _)))))))
theorem zcC {oe:Obj} {vs:Array Value} {v:Value} {Q:Unit->Shared->Prop} (X:K.In s.heap) (he:s.heap.get? e=some oe) (hc:oe.cls=.ref C) (hx:oe.dict=none) (hd:oe.data=.fields vs)
    (hs:findIn K (.ref C) "__setattr__"=some (some (.builtin "object.__setattr__"))) (hp:ZG K C=true) (ht:takerIn K C name=some none) (hh:(clsIn K C).any (·.hasDict)=true)
    (h:∀ h',h'.Ns1 s.heap.objs.size (fun y=>if y=name then some v else none)->h'.get? e=some { oe with dict:=some s.heap.objs.size }->(∀ b o,b≠e->s.heap.get? b=some o->h'.get? b=some o)->Q () { s with heap:=h',toks:=s.toks + 2 }) :
    wpAny (model prog w) A (setAttr (.ref e) name v) Q E s:=by
  have J:InstAt s.heap e oe C none:=⟨he,hc,by unfold notCls; rw [hd],by rw [hx]; trivial⟩
  refine set_plain X J hs (zao (s:={ s with toks:=s.toks + 1 }) X J hp ht fun b=>?_)
  obtain ⟨cd,hcd,hdd⟩:=any_some hh
  obtain ⟨oc,odi,oda,osl⟩:=oe
  dsimp only at hc hx hd
  subst hc hx hd
  refine wpAny_bind (wpAny_pure (wpAny_bind (wpAny_bind (wpAny_loadPart he (wpAny_bind (Looks.here (s:={ s with toks:=s.toks + 1 }) (looks_clsIn X hcd) ?_))))))
  rw [hdd]
  have e1:=Heap.get?_push_of_some (h:=s.heap) PySem.W.emptyDict he
  have ne:s.heap.objs.size≠e:=Nat.ne_of_gt (Heap.lt_size he)
  have d1:(s.heap.push PySem.W.emptyDict).get? s.heap.objs.size=some PySem.W.emptyDict:=Heap.get?_push_size _ rfl
  have d2:((s.heap.push PySem.W.emptyDict).update e fun o=>{ o with dict:=some s.heap.objs.size }).get? s.heap.objs.size=some PySem.W.emptyDict:=(Heap.get?_update_other _ _ (Ne.symm ne)).trans d1
  have e2:=Heap.get?_update_self (fun o=>{ o with dict:=some s.heap.objs.size }) e1 rfl
  have n2:((s.heap.push PySem.W.emptyDict).update e fun o=>{ o with dict:=some s.heap.objs.size }).Ns s.heap.objs.size (fun _=>none):=⟨PySem.W.emptyDict,#[],_,d2,rfl,(fun z hz=>absurd hz (by simp)),fun _=>rfl⟩
  show wpAny _ _ (alloc PySem.W.emptyDict >>= _) _ _ _
  refine wpAny_bind (wpAny_alloc (wpAny_bind (wpAny_update e1 ?_)))
  refine wpAny_pure (a:=some s.heap.objs.size) (wpAny_bind (wpAny_pure (wpAny_bind ?_)))
  refine wpAny_nsSet1 (Heap.Ns1.of_empty n2) fun h' hn hsb=>?_
  obtain ⟨oD,esD,epD,hoD,hdD,hcD⟩:=hn.count (PySem.Within.cons name v PySem.Within.nil)
  refine wpAny_bind (wpAny_lookBehind hoD (by rw [hdD]; exact pastItsLine_dict (Nat.le_trans hcD (by show 1<=sizeLine + 1; lia))) (wpAny_pure ?_))
  refine h h' hn ((hsb.2 _ (Ne.symm ne)).trans e2) fun b o nb q=>?_
  rw [hsb.2 b (Nat.ne_of_lt (Heap.lt_size q)),Heap.get?_update_other _ _ (Ne.symm nb)]
  exact Heap.get?_push_of_some _ q
theorem xg_slot:Slot "ValueError" "__getattribute__" "BaseException.__getattribute__":=PySem.F.attr_ValueError.ga
theorem zcD {v:Value} {expr:Bool} {Q:Value->Shared->Prop} (X:K.In s.heap) (I:InstAt s.heap e ox C od) (hga:findIn K (.ref C) "__getattribute__"=some (some (.builtin "BaseException.__getattribute__"))) (hk:findIn K (.ref C) "__getattr__"=some none)
    (hb:subIn K (.ref C) (.type "BaseException")=some true) (hf:findObj K C od name=some (.value v)) (hh:handedIn v=true) (h:Q v { s with toks:=s.toks + 1 }):wpAny (model prog w) A (getAttr (.ref e) name expr) Q E s:=by
  have ty:=I.type (M:=model prog w)
  have fd:=looks_find (M:=model prog w) X I hf
  refine wpAny_bind (wpAny_mkText (wpAny_holding (wpAny_bind (ty _ _ _ _ (fun _ _ q=>q) (wpAny_bind (looks_findIn X hga _ _ _ _ (fun _ _ q=>q) ?_))))))
  dsimp only
  rw [show (onTheHeap (Value.ref C) && Value.builtin "BaseException.__getattribute__" == Value.builtin "object.__getattribute__")=false from by rw [show (Value.builtin "BaseException.__getattribute__" == Value.builtin "object.__getattribute__")=false from by decide +kernel,Bool.and_false],if_neg (by decide:¬ (false=true))]
  refine wpAny_bind ((looks_hook (mc:=.ref C) X (by rw [if_pos (show onTheHeap (.ref C)=true from rfl)]; exact hk)) _ _ _ _ (fun _ _ q=>q) (wpAny_bind (wpAny_attempt (wpAny_holding ?_))))
  unfold callGetattribute
  rw [show (expr && onTheHeap (Value.builtin "BaseException.__getattribute__"))=false from Bool.and_false _,if_neg (by decide:¬ (false=true))]
  unfold boundAndCalled
  rw [xg_slot.bind]
  refine wpAny_bind (wpAny_pure (wpAny_call (codeAny_call_builtin xg_slot.plain PySem.F.entry_bexc_ga ?_)))
  refine @check_slot (model prog w) _ _ { s with toks:=s.toks + 1 } "BaseException.__getattribute__" "BaseException" "__getattribute__" (.ref e) [.str name s.toks] [] _ (by decide +kernel) (by decide +kernel) (ty.andThen (looks_subIn X hb)) (PySem.F.args_bexc_ga (.ref e) (.str name s.toks)) ?_
  refine wpAny_bind (wpAny_pure (wpAny_bind (wpAny_pure (wpAny_bind (ty _ _ _ _ (fun _ _ q=>q) (wpAny_bind (fd _ _ _ _ (fun _ _ q=>q) ?_)))))))
  refine wpAny_pure ?_
  show wpAny _ _ (handedOut v) _ _ _
  rw [handedOut_of hh]
  exact wpAny_pure h
end
end L2
namespace L2
open PySem PySem.Spec PyProof.Rows
def XO (e C:Addr) (dx:Option Addr):HO:=.ext fun h=>∃ oe vs t0,h.get? e=some oe/\oe.cls=.ref C/\oe.dict=dx/\oe.data=.fields vs/\vs[0]?=some (.ref t0)/\vs[1]?=some .none/\vs[2]?=some .none
theorem XO.ok {P:Program} {w:World} {H:Hp} {h:Heap} {e C:Addr} {dx:Option Addr} (p:∃ oe vs t0,h.get? e=some oe/\oe.cls=.ref C/\oe.dict=dx/\oe.data=.fields vs/\vs[0]?=some (.ref t0)/\vs[1]?=some .none/\vs[2]?=some .none):ObjOk P w H h e (XO e C dx) :=
  ⟨p,let ⟨oe,_,_,q,_⟩:=p; ⟨oe,q⟩,fun _ _ ⟨oe,vs,t0,a,r⟩ k=>⟨oe,vs,t0,k oe a,r⟩⟩
theorem XO.get {P:Program} {w:World} {H:Hp} {h:Heap} {e C:Addr} {dx:Option Addr} (x:HOk P w H h) (q:H e=some (XO e C dx)):∃ oe vs t0,h.get? e=some oe/\oe.cls=.ref C/\oe.dict=dx/\oe.data=.fields vs/\vs[0]?=some (.ref t0)/\vs[1]?=some .none/\vs[2]?=some .none :=
  (show ObjOk P w H h e (.ext _) from x e _ q).1
def XD (d:Addr) (fs:List (Str × V)):HO:=.ext fun h=>∃ mA,h.Ns1 d mA/\(∀ f,RelO (fs.lookup f) (mA f))/\PySem.Within mA (fs.map (·.1))/\fs.length<=1000
theorem XD.ok {P:Program} {w:World} {H:Hp} {h:Heap} {d:Addr} {fs:List (Str × V)} (p:∃ mA,h.Ns1 d mA/\(∀ f,RelO (fs.lookup f) (mA f))/\PySem.Within mA (fs.map (·.1))/\fs.length<=1000):ObjOk P w H h d (XD d fs) :=
  ⟨p,let ⟨_,⟨o,_,_,q,_⟩,_⟩:=p; ⟨o,q⟩,fun _ _ ⟨mA,n,r⟩ k=>⟨mA,n.at k,r⟩⟩
theorem XD.get {P:Program} {w:World} {H:Hp} {h:Heap} {d:Addr} {fs:List (Str × V)} (x:HOk P w H h) (q:H d=some (XD d fs)):∃ mA,h.Ns1 d mA/\(∀ f,RelO (fs.lookup f) (mA f))/\PySem.Within mA (fs.map (·.1))/\fs.length<=1000 :=
  (show ObjOk P w H h d (.ext _) from x d _ q).1
def xIn (K:PySem.W.Frag) (C f:Addr):Bool:=match K.lookup C with
  | some ⟨.type "type",_,.cls cd,sl⟩=>(match cd.mro,sl.toList with
    | .ref C' :: bm,[_,_,_,_,some (.builtin n),_]=>C' == C && n == "ValueError.__new__" && !cd.hasDel && PySem.W.tailIn K bmV bm && PySem.W.nsOkIn K cd.ns && PySem.W.nsIn K cd.ns "__init__" == some (some (.ref f)) && bm.contains (.type "BaseException")
    | _,_=>false)
  | _=>false
structure XCl (K:PySem.W.Frag) (C f:Addr):Prop where
  cls:xIn K C f=true
  fn:PySem.W.typeIn K (.ref f)=some (.type "function")
  kp:PySem.W.keepIn K (.ref C)=true
  over:ZG K C=true
  sa:PySem.W.findIn K (.ref C) "__setattr__"=some (some (.builtin "object.__setattr__"))
  hd:(PySem.W.clsIn K C).any (·.hasDict)=true
  ga:PySem.W.findIn K (.ref C) "__getattribute__"=some (some (.builtin "BaseException.__getattribute__"))
  ha:PySem.W.findIn K (.ref C) "__getattr__"=some none
  sb:PySem.W.subIn K (.ref C) (.type "BaseException")=some true
theorem zap {K:PySem.W.Frag} {h:Heap} {N:Addr} {mg:Str->Option Value} {n:Str} {v:Value} (X:K.In h) (G:h.Ns N mg) (e:PySem.W.nsIn K N n=some (some v)):mg n=some v:=by
  obtain ⟨o,es,ep,ho,hd,_,hf⟩:=G
  unfold PySem.W.nsIn at e
  split at e
  · rename_i c d es' n' sl q
    have:=X _ _ q
    rw [ho] at this
    cases this
    cases hd
    split at e
    · rename_i en he
      cases e
      rw [<- hf]
      unfold nsFind findBy
      rw [<- Array.find?_toList,he]
      rfl
    · split at e <;> cases e
  · cases e
theorem XCl.at {K:PySem.W.Frag} {C f:Addr} (c:XCl K C f) {h:Heap} (X:K.In h):∃ nm q N bs bm hdct sn sub ab col dd k0 k1 k2 k3 k5 mN,h.get? C=some (excClassObj nm q C N bs bm hdct sn sub ab col dd k0 k1 k2 k3 k5 "ValueError.__new__") /\
    OwnTail h bmV bm/\h.Ns N mN/\mN "__init__"=some (.ref f)/\bm.contains (.type "BaseException")=true:=by
  have q:=c.cls
  unfold xIn at q
  split at q
  · rename_i dd cd sl ho
    split at q
    · rename_i C' bm k0 k1 k2 k3 n k5 hm hs
      simp only [Bool.and_eq_true,beq_iff_eq,Bool.not_eq_true'] at q
      obtain ⟨⟨⟨⟨⟨⟨rfl,rfl⟩,hdel⟩,ht⟩,hok⟩,hi⟩,hb⟩:=q
      obtain ⟨nm,bs,mro,ns,qn,hd,sn,sub,ab,col,del⟩:=cd
      dsimp only at hm hdel hok hi
      subst hm hdel
      have es:sl=#[k0,k1,k2,k3,some (.builtin "ValueError.__new__"),k5]:=by
        obtain ⟨l⟩:=sl
        simp only at hs
        rw [hs]
      subst es
      have nN:=PySem.Heap.Ns.of_isNs (PySem.W.isNs_of_in X hok)
      exact ⟨nm,qn,ns,bs,bm,hd,sn,sub,ab,col,dd,k0,k1,k2,k3,k5,_,X _ _ ho,PySem.W.tail_of_in X ht,nN,zap X nN hi,hb⟩
    · cases q
  · cases q
def drp (H:Hp) (e:Addr):Hp:=fun b=>if b=e then none else H b
theorem vL {H:Hp} {e:Addr}:drp H e e=none:=if_pos rfl
theorem wa {H:Hp} {e b:Addr} (h:b≠e):drp H e b=H b:=if_neg h
theorem Inv.drop {X:Cx} {pins:List (Addr × Obj)} {σ:St} {H:Hp} {s:Shared} {e:Addr} {φ:Heap->Prop} (I:Inv X pins σ H s) (he:H e=some (.ext φ)):Inv X pins σ (drp H e) s:=by
  have no:∀ b,H b=none->drp H e b=none:=fun b h=>by
    by_cases q:b=e
    · rw [q]
      exact vL
    · rw [wa q]
      exact h
  have nx:∀ (b:Addr) (o:HO),H b=some o->(∀ ψ,o≠.ext ψ)->drp H e b=some o:=fun b o h n=>by
    have q:b≠e:=fun z=>by
      rw [z,he] at h
      cases h
      exact n _ rfl
    rw [wa q]
    exact h
  refine ⟨I.ok,I.os,I.bare,⟨I.base.keep,I.base.slot,fun b o q n x=>no b (I.base.free b o q n x),I.base.there,fun b xs q=>nx _ _ (I.base.tups b xs q) (by intro ψ z; cases z),fun b o u q=>nx _ _ (I.base.frzs b o u q) (by intro ψ z; cases z),fun b ps q=>?_⟩,I.loc,I.cell,no _ I.free,fun x c q=>no _ (I.freeC x c q),fun p hp=>?_,fun a o q=>?_,I.len⟩
  · obtain ⟨m,r⟩:=I.base.tbls b ps q
    exact ⟨m,nx _ _ r (by intro ψ z; cases z)⟩
  · obtain ⟨a,b,c⟩:=I.pin p hp
    exact ⟨a,no _ b,c⟩
  · have na:a≠e:=fun z=>by
      rw [z,vL] at q
      cases q
    rw [wa na] at q
    exact (I.hok a o q).stay (fun _ _ _ z=>z) (fun b z=>nx b _ z (by intro ψ y; cases y)) fun b xs z=>nx b _ z (by intro ψ y; cases y)
def Y5 (X:Cx) (E:XK):Prop:=∀ (pins:List (Addr × Obj)) (σ:St) (u:Value) (s':Shared),Air X pins σ E u s'->X.xe u s'
theorem Y6 {P:Program} {w:World} {K:PySem.W.Frag} {mg:Str->Option Value} {base:Heap} {N:List Str} {qual:Str} {scope:Scope} {f:Addr} {cd:Value} {A:Around} {outer:List Env} {s:Shared} {H:Hp} {E:XK} :
    Y5 (cxOf (CXf P w) P w K mg base N qual scope f cd A outer s H E) E:=fun _ _ _ _ h=>j0 h
def V6 (C:Addr) (sp:Sp) (E:XK) (t:TA):TS:=fun _ σ H=>t σ H fun vs H1=>vs.length<=sizeLine/\∀ e,H1 e=none->sp (.ref e :: vs) (upd H1 e (XO e C none)) (fun v H2=>v=.non/\∃ dx,H2 e=some (XO e C dx)/\E (.ref C) dx (drp H2 e)) E0
section
variable {X:Cx} {k:Nat} {f C:Addr} {fd:FuncData} {ps:List Str} {sp:Sp} {E:XK} {x:Str} {np cpos pos:Pos} {a:Expr} {as:List Expr} {t:TA}
theorem V7 (M:XCl X.K C f) (F:FnOk X.prog X.w X.K X.mg X.base CX0 k f fd ps sp) (hr:Room (k + 1) X.A) (hg:Gl X x) (hm:X.mg x=some (.ref C)) (hb:Binds X.K fd ps []) (hx:Y5 X E)
    (ha:PA X (a :: as) t) (hdb:(x == ("__debug__":Str))=false:=by decide) (h1:zm a=false:=by rfl) (h2:as.all (fun e=>!zm e)=true:=by rfl) :
    PS X (.Raise (some (.Call (.Name x np) (a :: as) [] cpos)) none pos) (V6 C sp E t):=by
  intro pins s σ H D I h
  obtain ⟨nm,q,N,bs,bm,hdct,sn,sub,ab,col,dd,k0,k1,k2,k3,k5,mN,hC0,T0,n0,i0,hB⟩:=M.at I.mod.kin
  rw [arm_exec_Raise]
  simp only [evalOpt,Option.map]
  refine wpAny_bind (wpAny_standAt (zak (C:=C) (nm:=nm) (q:=q) (N:=N) (bs:=bs) (hdct:=hdct) (sn:=sn) (sub:=sub) (ab:=ab) (col:=col) (dd:=dd) (k0:=k0) (k1:=k1) (k2:=k2) (k3:=k3) (k5:=k5) (newId:="ValueError.__new__") hB hr.hd (wpAny_bind ?_)))
  refine wpAny_Call_Name_kw (yZ I hg hm ?_ hdb)
  refine PySem.W.callWith_K (h₀:=X.base) I.ok.mod.kin M.kp (thn (ha cpos pins s σ H _ I h) fun us s1 ⟨vs,H1,I1,r,hl,q1⟩=>⟨I1.kIn,?_⟩) (zI h1) (yw h2)
  obtain ⟨hh,g,d,tk,os⟩:=s1
  have kb:∀ b o,X.base.get? b=some o->hh.get? b=some o:=I1.bk
  have e0:H1 (hh.objs.size + 1)=none:=I1.hok.fresh (Nat.le_succ _)
  obtain ⟨of,hof,hofc⟩:=Option.map_eq_some_iff.mp M.fn
  have hof':hh.get? f=some of:=I1.kIn _ _ hof
  refine zam PySem.F.excBase_ValueError (by decide +kernel) PySem.F.excBase_ValueError (T0.keeps kb) (kb _ _ hC0) (n0.keeps kb) i0 hof' hofc (show us.length<=sizeLine by rw [<- r.length]; exact hl) ?_
  have ex:((hh.push (xr us)).push (xU C hh.objs.size)).get? (hh.objs.size + 1)=some (xU C hh.objs.size):=Heap.get?_push_at (by simp only [Heap.size_push]) rfl
  have I2:Inv X pins σ (upd H1 (hh.objs.size + 1) (XO (hh.objs.size + 1) C none)) ⟨(hh.push (xr us)).push (xU C hh.objs.size),g,d,tk,os⟩ :=
    I1.laid (a:=hh.objs.size + 1) (o:=XO (hh.objs.size + 1) C none) (t':=tk) (fun b u q=>Heap.get?_push_of_some _ (Heap.get?_push_of_some _ q)) (Nat.le_succ _) (XO.ok ⟨xU C hh.objs.size,_,hh.objs.size,ex,rfl,rfl,rfl,rfl,rfl,rfl⟩)
  have hq:=q1 _ e0
  have r2:Vals (V.ref (hh.objs.size + 1) :: vs) (Value.ref (hh.objs.size + 1) :: us):=.cons rfl r
  have hlen:(Value.ref (hh.objs.size + 1) :: us).length=ps.length:=by rw [<- r2.length]; exact F.len _ _ _ _ hq
  have bd:=hb ⟨(hh.push (xr us)).push (xU C hh.objs.size),g,d,tk,os⟩ (Value.ref (hh.objs.size + 1) :: us) I2.kIn (by rw [List.append_nil]; exact hlen)
  rw [List.append_nil] at bd
  refine wpAny_call (codeAny_mono (F.run _ X.stack _ _ ⟨Value.ref (hh.objs.size + 1) :: us,[]⟩ (Value.ref (hh.objs.size + 1) :: us) _ _ E0 (hr.make C us []) (I2.env0.make C us []) bd r2 hq) fun r s' hq'=>?_)
  cases r with
  | error u=>exact False.elim hq'
  | ok fl =>
    cases fl with
    | ret u =>
      obtain ⟨v,H',I3,rv,ev,dx,hH,hE⟩:=I2.after hq'
      subst ev
      obtain ⟨oe,ws,t0,g1,g2,g3,g4,g5,g6⟩:=XO.get I3.hok hH
      exact ⟨rv,wpAny_bind (wpAny_standAt (wpAny_pure ⟨_,oe,ws,rfl,I3.bk _ _ hC0,g1,g2,g4,g6.1,hx pins σ _ s' ⟨_,.ref C,dx,drp H' (hh.objs.size + 1),hh.objs.size,rfl,I3.drop hH,vL,I1.sz,Nat.le_succ _,fun p hp=>Heap.lt_size (I1.pin p hp).1,.inl ⟨oe,ws,g1,g2,g3,g4,g6⟩,hE⟩⟩))⟩
    | next=>exact False.elim hq'
    | brk=>exact False.elim hq'
    | cont=>exact False.elim hq'
end
structure XBase (K:PySem.W.Frag) (R:Addr):Prop where
  sp:PySem.W.specialIn K (.ref R) "__getattribute__"=some (some (.builtin "type.__getattribute__"))
  rd:PySem.W.readsIn K R (.type "type")=true
  fi:PySem.W.findCls K (.ref R) (.type "type") "__init__"=some (.val (.builtin "ValueError.__init__"))
def zcE (C:Addr) (t:TA):TE:=fun σ H Q=>t σ H fun vs H1=>∃ e rest dx,vs=.ref e :: rest/\rest.length<=sizeLine/\H1 e=some (XO e C dx)/\Q .non H1
theorem zcF {H:Hp} {e:Addr} {o:HO} (h:H e=some o):upd H e o=H:=by
  funext b
  unfold upd
  split
  · rename_i q
    rw [q,h]
  · rfl
section
variable {X:Cx} {f C R:Addr} {x m:Str} {np apos pos pos':Pos} {a o e value:Expr} {as:List Expr} {t:TA} {ta tv te:TE}
theorem V8 {pl:Sem Bool} (M:XCl X.K C f) (B:XBase X.K R) (hg:Gl X x) (hm:X.mg x=some (.ref R)) (ha:PA X (a :: as) t) (hdb:(x == ("__debug__":Str))=false:=by decide) (h1:zm a=false:=by rfl) (h2:as.all (fun e=>!zm e)=true:=by rfl)
    (ht:eval (.Call (.Attribute (.Name x np) "__init__" apos) (a :: as) [] pos) X.env=(do
      let ov <- eval (.Name x np) X.env
      standAt apos.atName
      let (f,first) <- holding [ov] (getMethod ov "__init__" pl)
      callWith pos f first (backTo pos (starEach (a :: as) X.env)) (backToKw pos (keywordEach [] X.env))):=by rfl) :
    PE X (.Call (.Attribute (.Name x np) "__init__" apos) (a :: as) [] pos) (zcE C t):=by
  intro pins s σ H Q I h
  refine PySem.W.methodCall_KW (pl:=pl) (yZ I hg hm ?_ hdb) ht
  refine PySem.W.method_cls I.kIn B.sp (PySem.W.cls_value I.kIn B.rd B.fi (by decide +kernel) ?_)
  have I0:Inv X pins σ H { s with toks:=s.toks + 1 }:=I.tok _
  refine PyProof.Rows.callWith_builtin1 (thn (ha pos pins _ σ H _ I0 h) fun us s1 ⟨vs,H1,I1,r,e,rest,dx,ev,hl,hH,q⟩=>?_) (zI h1) (yw h2)
  subst ev
  obtain ⟨ue,ur,rfl,re,rr⟩:∃ ue ur,us=ue :: ur/\RelV (.ref e) ue/\Vals rest ur:=by
    cases r with
    | cons p q=>exact ⟨_,_,rfl,p,q⟩
  obtain rfl:ue=Value.ref e:=re
  obtain ⟨oe,ws,t0,g1,g2,g3,g4,g5,g6⟩:=XO.get I1.hok hH
  obtain ⟨nm,q',N,bs,bm,hdct,sn,sub,ab,col,dd,k0,k1,k2,k3,k5,mN,hC,T,_,_,_⟩:=M.at I1.kIn
  obtain ⟨hh,g,d,tk,os⟩:=s1
  refine zan PySem.F.excBase_ValueError T hC g1 g2 g4 g5 (by rw [<- rr.length]; exact hl) ?_
  have e1:=Heap.get?_push_of_some (h:=hh) (xr ur) g1
  have up:=Heap.get?_update_self (Obj.mapFields (·.setIfInBounds 0 (.ref hh.objs.size))) e1 (Obj.isFreed_of_fields (Obj.data_mapFields g4 _))
  have sz:0 < ws.size:=(Array.getElem?_eq_some_iff.mp g5).1
  have I2:=I1.write (x:=e) (e:=e) (o:=XO e C dx) (h':=(hh.push (xr ur)).update e (Obj.mapFields (·.setIfInBounds 0 (.ref hh.objs.size)))) (t':=tk) (by rw [hH]; exact True.intro) (.inl rfl)
    (fun b u nb q=>(Heap.get?_update_other _ _ (Ne.symm nb)).trans (Heap.get?_push_of_some _ q)) ⟨_,up⟩
    (XO.ok ⟨_,_,hh.objs.size,up,(Obj.cls_mapFields _ _).trans g2,(xq _ _).trans g3,Obj.data_mapFields g4 _,by simp [sz],by rw [Array.getElem?_setIfInBounds_ne (by decide)]; exact g6.1,by rw [Array.getElem?_setIfInBounds_ne (by decide)]; exact g6.2⟩)
  rw [zcF hH] at I2
  exact ⟨.non,H1,I2,rfl,q⟩
def zdq (K:PySem.W.Frag) (C:Addr) (ta tv:TE) (m:Str):TS:=fun D σ H=>tv σ H fun y H1=>ta σ H1 fun x H2=>∃ e,x=.ref e/\H2 e=some (XO e C none)/\PySem.W.takerIn K C m=some none/\∀ d,H2 d=none->d≠e->D.nx σ (upd (upd H2 d (XD d [(m,y)])) e (XO e C (some d)))
theorem zaq (M:XCl X.K C f) (ha:PE X o ta) (hv:PE X value tv) (hs:swapsWith value (some (.Attribute o m pos')) pos.line X.env=pure false:=by rfl):PS X (.Assign [.Attribute o m pos'] value pos) (zdq X.K C ta tv m):=by
  intro pins s σ H D I h
  refine plainObj_wpAny_Assign_Attribute (thn (hv pins s σ H _ I h) fun u s1 ⟨y,H1,I1,ry,q⟩=>thn (ha pins s1 σ H1 _ I1 q) fun ov s2 ⟨x,H2,I2,rx,e,ex,hH,hk,q2⟩=>?_) hs
  subst ex
  obtain rfl:ov=Value.ref e:=rx
  obtain ⟨oe,ws,t0,g1,g2,g3,g4,g5,g6⟩:=XO.get I2.hok hH
  refine zcC I2.kIn g1 g2 g3 g4 M.sa M.over hk M.hd fun h' hn he kp=>?_
  have nd:s2.heap.objs.size≠e:=Nat.ne_of_gt (Heap.lt_size g1)
  have fd:H2 s2.heap.objs.size=none:=I2.hok.fresh (Nat.le_refl _)
  have ns:∀ (b:Addr) (u:HO),H2 b=some u->(∀ ψ,u≠.ext ψ)->upd (upd H2 s2.heap.objs.size (XD s2.heap.objs.size [(m,y)])) e (XO e C (some s2.heap.objs.size)) b=some u:=fun b u q nx=>by
    have n1:b≠e:=fun z=>by
      rw [z,hH] at q
      cases q
      exact nx _ rfl
    rw [zg n1,zg (zi q fd)]
    exact q
  have ne':∀ b,H2 b=none->b≠e:=fun b q z=>by
    rw [z,hH] at q
    cases q
  refine ⟨σ,_,I2.un (H':=upd (upd H2 s2.heap.objs.size (XD s2.heap.objs.size [(m,y)])) e (XO e C (some s2.heap.objs.size))) (h':=h') (t':=s2.toks + 2) ⟨fun b o q n _ _=>kp b o (ne' b n) q,fun b o q n _ _=>⟨o.slots,kp b o (ne' b n) q⟩,fun b o q n _=>?_,fun b o q _=>?_,fun b xs q=>ns b _ q (by intro ψ z; cases z),fun b o u q=>ns b _ q (by intro ψ z; cases z),fun b ps q=>⟨#[],by rw [ns b _ q (by intro ψ z; cases z)]; simp⟩⟩ fun b u q=>?_,q2 _ fd nd⟩
  · rw [zg (ne' b n),zg (Nat.ne_of_lt (Heap.lt_size q))]
    exact n
  · by_cases z:b=e
    · rw [z]
      exact ⟨_,he⟩
    · exact ⟨o,kp b o z q⟩
  · by_cases z:b=e
    · subst z
      rw [za] at q
      cases q
      exact XO.ok ⟨_,ws,t0,he,g2,rfl,g4,g5,g6⟩
    · rw [zg z] at q
      by_cases z2:b=s2.heap.objs.size
      · subst z2
        rw [za] at q
        cases q
        refine XD.ok ⟨_,hn,fun f=>?_,fun f hf=>?_,show 1<=1000 by decide⟩
        · rw [List.lookup_cons]
          by_cases w:f=m
          · rw [if_pos w,w,beq_self_eq_true]
            exact ry
          · rw [if_neg w,beq_eq_false_iff_ne.mpr w]
            exact True.intro
        · by_cases w:f=m
          · rw [w]
            exact List.mem_cons_self
          · exact absurd (if_neg w) hf
      · rw [zg z2] at q
        refine (I2.hok b u q).stay (fun c v hc r=>kp c v (fun w=>?_) r) (fun c r=>ns c _ r (by intro ψ z; cases z)) fun c xs r=>ns c _ r (by intro ψ z; cases z)
        rcases hc with hc | hc
        · exact z (hc.symm.trans w)
        · rw [w,hH] at hc
          cases hc
end
section
variable {X:Cx} {pins:List (Addr × Obj)} {σ:St} {H:Hp} {s:Shared} {h':Heap} {xs:List Addr}
theorem Inv.moved (I:Inv X pins σ H s) (m:Mv (frs X.stack) xs s.heap h')
    (hx:∀ b∈xs,H b=none/\(b∈X.ex\/X.s₀.heap.objs.size<=b)/\b≠X.env.locals/\(∀ x c,X.env.cells.lookup x=some c->c≠b)/\∀ p∈X.pn ++ pins,p.1≠b):Inv X pins σ H { s with heap:=h' } :=
  I.call (g':=s.gens) (d':=s.drawn) (t':=s.toks) (ch:=xs) ⟨fun b o q _ f x=>m.keep b o q f x,fun b o q _ _ x=>m.slot b o q x,fun _ _ _ n _=>n,fun b o q _=>m.there b o q,fun _ _ q=>q,fun _ _ _ q=>q,fun _ ps q=>⟨#[],by rw [q]; simp⟩⟩
    (I.hok.moved m I.stkFree fun b hb=>(hx b hb).1) I.bare fun b hb=>(hx b hb).2
theorem Inv.apart (I:Inv X pins σ H s) {b:Addr} {o:Obj} {vs:Array Value} (q:s.heap.get? b=some o) (d:o.data=.fields vs):b≠X.env.locals/\∀ x c,X.env.cells.lookup x=some c->c≠b:=by
  refine ⟨fun z=>?_,fun x c e z=>?_⟩
  · obtain ⟨m,⟨o',es,ep,ho,hd,_⟩,_⟩:=I.loc
    rw [z,ho] at q
    cases q
    rw [hd] at d
    cases d
  · obtain ⟨v,o',ho,hd⟩:=I.cell x c e
    rw [z,q] at ho
    cases ho
    rw [d] at hd
    cases hd
abbrev Cx.inEx (X:Cx) (u:Value) (p:List (Addr × Obj)):Cx:={ X with A:=X.A.mark (some u),calm:=false,pn:=p ++ X.pn,xe:=fun _ _=>False }
theorem Inv.inEx (I:Inv X pins σ H s) (u:Value) {p:List (Addr × Obj)} (hp:∀ q∈p,s.heap.get? q.1=some q.2/\H q.1=none/\q.1≠X.env.locals/\q.1 ∉ X.fs/\∀ v,q.2.data≠.cell v):Inv (X.inEx u p) pins σ H s :=
  ⟨⟨I.ok.mod,I.ok.kind,I.ok.glob,I.ok.blt,I.ok.above,I.ok.inj,I.ok.has,I.ok.cab,(fun z=>nomatch z),I.ok.frames,I.ok.stk,I.ok.exf,I.ok.bs,I.ok.bsz,I.ok.noex,I.ok.exfs,I.ok.funs,I.ok.frf⟩,I.os,I.bare,I.base,I.loc,I.cell,I.free,I.freeC,fun q hq=>by
    have hq':q∈(p ++ X.pn) ++ pins:=hq
    rw [List.append_assoc] at hq'
    rcases List.mem_append.mp hq' with z | z
    · exact hp q z
    · exact I.pin q z,I.hok,I.len⟩
theorem Inv.outEx {u:Value} {p:List (Addr × Obj)} (ok:X.Ok) (I:Inv (X.inEx u p) pins σ H s):Inv X pins σ H s :=
  ⟨ok,I.os,I.bare,I.base,I.loc,I.cell,I.free,I.freeC,fun q hq=>I.pin q (by
    show q∈(p ++ X.pn) ++ pins
    rw [List.append_assoc]
    exact List.mem_append_right _ hq),I.hok,I.len⟩
theorem xH {A:Around} {E:Value->Shared->Prop} {i:Nat} {n:Str} {pos:Pos} {Q:Unit->Shared->Prop} (I:Inv X pins σ H s) (hN:X.N.Nodup) (hi:X.N[i]?=some n) (hl:X.env.scope.names.lookup n=some .local)
    (h:∀ s',Inv X pins (σ.set i none) H s'->Q () s'):wpAny (model X.prog X.w) A (do bindName X.env n .none; unbindBehindTheSuite X.env n pos) Q E s:=by
  obtain ⟨m,hn,hlk⟩:=id I.loc
  have iσ:i < σ.length:=by rw [I.len]; exact (List.getElem?_eq_some_iff.mp hi).1
  refine wpAny_nameGoes_keeps (env:=X.env) hl hn (by rw [I.ok.kind]; rfl) fun h' v hn' hs=>h _ ?_
  have nl:∀ (b:Addr) (o:Obj),X.s₀.heap.get? b=some o->b≠X.env.locals:=fun b o q=>Nat.ne_of_lt (Nat.lt_of_lt_of_le (Heap.lt_size q) I.ok.above)
  refine ⟨I.ok,I.os,I.bare,⟨fun b o q n hb hx=>(hs.2 b (nl b o q)).trans (I.base.keep b o q n hb hx),fun b o q n hb hx=>?_,I.base.free,fun b o q hx=>?_,I.base.tups,I.base.frzs,I.base.tbls⟩,⟨_,hn',fun j y v' e1 e2 e3=>?_⟩,fun y c q=>?_,I.free,I.freeC,fun p hp=>?_,fun b u q=>?_,by rw [List.length_set]; exact I.len⟩
  · obtain ⟨sl,q1⟩:=I.base.slot b o q n hb hx
    exact ⟨sl,(hs.2 b (nl b o q)).trans q1⟩
  · obtain ⟨o1,q1⟩:=I.base.there b o q hx
    exact ⟨o1,(hs.2 b (nl b o q)).trans q1⟩
  · have hj:j≠i:=fun z=>by
      rw [z,List.getElem?_set_self iσ] at e2
      cases e2
    rw [List.getElem?_set_ne (Ne.symm hj)] at e2
    obtain ⟨u,r,q⟩:=hlk j y v' e1 e2 e3
    refine ⟨u,r,?_⟩
    rcases q with ⟨k,e⟩ | ⟨k,c,e,z⟩
    · have ny:y≠n:=fun z=>hj (vB hN e1 (z ▸ hi))
      exact .inl ⟨k,by simp [ny,e]⟩
    · exact .inr ⟨k,c,e,z.sameBut hs (I.cne y c e)⟩
  · obtain ⟨w,z⟩:=I.cell y c q
    exact ⟨w,z.sameBut hs (I.cne y c q)⟩
  · obtain ⟨a,b,c,d⟩:=I.pin p hp
    exact ⟨(hs.2 p.1 c).trans a,b,c,d⟩
  · refine (I.hok b u q).stay (fun c v hc r=>(hs.2 c fun z=>?_).trans r) (fun _ r=>r) fun _ _ r=>r
    rcases hc with hc | hc
    · rw [<- hc,z,I.free] at q
      cases q
    · rw [z,I.free] at hc
      cases hc
end
abbrev Ends.behind (D:Ends) (i:Nat):Ends:={ nx:=fun σ H=>D.nx (σ.set i none) H,rt:=D.rt,bk:=fun σ H=>D.bk (σ.set i none) H,ct:=fun σ H=>D.ct (σ.set i none) H }
def zcG (K:PySem.W.Frag) (Ch:Addr) (i:Nat) (th:Addr->Obj->TS) (D:Ends) (σ:St):XK:=fun C dx H=>PySem.W.exmOne K C (.ref Ch)=some true/\∀ (e:Addr) (oe:Obj) (vs:Array Value),oe.cls=C->oe.dict=dx->oe.data=.fields vs->vs[2]?=some .none->H e=none->th e oe (D.behind i) (σ.set i (some (.ref e))) H
def zbC (K:PySem.W.Frag) (Ch:Addr) (i:Nat) (th:Addr->Obj->TS) (D:Ends) (σ:St):XK:=fun C dx H=>PySem.W.exmOne K C (.ref Ch)=some true/\∀ (e:Addr) (oe:Obj),oe.cls=C->oe.dict=dx->(∃ vs,oe.data=.fields vs)->H e=none->th e oe (D.behind i) (σ.set i (some (.ref e))) H
section
variable {X:Cx} {Ch:Addr} {x n:Str} {i:Nat} {np hpos tpos:Pos} {b0:Stmt} {suite:List Stmt} {th:Addr->Obj->TS}
theorem W1 {pins:List (Addr × Obj)} {σ:St} {D:Ends} {u:Value} {s':Shared} (hN:X.N.Nodup) (hi:X.N[i]?=some n) (hl:X.env.scope.names.lookup n=some .local) (hst:X.stack=X.env :: X.outer) (hf:X.env.frame=some X.env.locals) (hg:Gl X x) (hm:X.mg x=some (.ref Ch))
    (hS:∀ e oe,PSs (X.inEx (.ref e) [(e,oe)]) (b0 :: suite) (th e oe)) (hdb:(x == ("__debug__":Str))=false)
    (h:Air X pins σ (zcG X.K Ch i th D σ) u s') :
    wpAny (model X.prog X.w) X.A (noteFrame u X.env) (fun _ s2=>wpAny (model X.prog X.w) X.A (setFlight u none) (fun _ s3=>wpAny (model X.prog X.w) X.A (handleBy u X.env [.ExceptHandler (some (.Name x np)) (some n) (b0 :: suite) hpos]) (SP X pins D) X.xe s3) X.xe s2) X.xe s':=by
  obtain ⟨e,C,dx,H',k,rfl,I,ne,hk,he,hp,st,hex,hth⟩:=h
  have fr:X.A.frames=some (X.env :: X.outer):=hst ▸ I.ok.frames
  have fs:s'.heap.FunFrames X.base (X.env :: X.outer):=hst ▸ I.stack
  have pk:∀ b,k<=b->∀ p∈X.pn ++ pins,p.1≠b:=fun b hb p q z=>absurd (Nat.lt_of_lt_of_le (hp p q) hb) (by rw [z]; exact Nat.lt_irrefl _)
  have fin:∀ (h2:Heap) (T:Addr),Tr h2 e C dx T .none->Inv X pins σ H' { s' with heap:=h2 }->H' T=none->X.s₀.heap.objs.size<=T->(∀ p∈X.pn ++ pins,p.1≠T) ->
      wpAny (model X.prog X.w) X.A (handleBy (.ref e) X.env [.ExceptHandler (some (.Name x np)) (some n) (b0 :: suite) hpos]) (SP X pins D) X.xe { s' with heap:=h2 }:=by
    intro h2 T t J nT sT pT
    obtain ⟨oe,vs,g1,g2,g3,g4,g5⟩:=t.ex
    have Jm:Inv (X.inEx (.ref e) []) pins σ H' { s' with heap:=h2 }:=J.inEx (.ref e) fun q hq=>nomatch hq
    have LT:PySem.W.Looks (model X.prog X.w) h2 (typeOf (.ref e)) C:=g2 ▸ (PySem.W.Looks.ld g1).andThen .now
    refine wpAny_handleBy_cons (codeAny_handlers_test (yZ Jm hg hm ?_ hdb)) (by intro q; cases q)
    refine PySem.W.Looks.here (s:={ s' with heap:=h2 }) (PySem.W.exm_one (K:=X.K) J.kIn LT hex) ?_
    refine codeAny_handlers_suite_as (vq (v:=none) t fun h3 t3 m3=>?_)
    have J3:Inv X pins σ H' { s' with heap:=h3 }:=Inv.moved (s:={ s' with heap:=h2 }) J (m3.mono (fun b z=>nomatch z) fun _ z=>z) fun b hb=>by
      rw [List.mem_singleton.mp hb]
      obtain ⟨ot,ts,q1,q2,_⟩:=t.tb
      exact ⟨nT,.inr sT,(J.apart q1 q2).1,(J.apart q1 q2).2,pT⟩
    obtain ⟨oe3,vs3,a1,a2,a3,a4,a5⟩:=t3.ex
    have ap:=Inv.apart (s:={ s' with heap:=h3 }) J3 a1 a4
    have J4:Inv (X.inEx (.ref e) [(e,oe3)]) pins σ H' { s' with heap:=h3 }:=J3.inEx (.ref e) fun q hq=>by
      rw [List.mem_singleton.mp hq]
      exact ⟨a1,ne,ap.1,fun z=>by
        obtain ⟨_,o,ho,nf⟩:=J3.funs.mem z
        have ho':h3.get? e=some o:=ho
        rw [a1] at ho'
        cases ho'
        exact nf vs3 a4,fun v z=>by rw [a4] at z; cases z⟩
    refine xk (X:=X.inEx (.ref e) [(e,oe3)]) (v:=.ref e) J4 hN hi (.inl hl) rfl (fun s4 J5=>?_) (.inr hl)
    refine wpAny_mono (hS e oe3 pins s4 _ H' (D.behind i) J5 (hth e oe3 vs3 a2 a3 a4 a5.2 ne)) (fun f s5 q=>?_) fun _ _ z=>False.elim z
    cases f with
    | next =>
      obtain ⟨σ',H5,I5,q⟩:=q
      exact xH (I5.outEx I.ok) hN hi hl fun s6 I6=>⟨_,_,I6,q⟩
    | brk =>
      obtain ⟨σ',H5,I5,q⟩:=q
      exact xH (I5.outEx I.ok) hN hi hl fun s6 I6=>⟨_,_,I6,q⟩
    | cont =>
      obtain ⟨σ',H5,I5,q⟩:=q
      exact xH (I5.outEx I.ok) hN hi hl fun s6 I6=>⟨_,_,I6,q⟩
    | ret w =>
      obtain ⟨v,σ',H5,I5,r,q⟩:=q
      exact xH (I5.outEx I.ok) hN hi hl fun s6 I6=>⟨v,_,_,I6,r,q⟩
  have two:∀ (h1:Heap) (T:Addr) (xs:List Addr),Tr h1 e C dx T (rawInt X.env.locals)->Mv ((X.env :: X.outer).filterMap (·.frame)) xs s'.heap h1->(∀ b∈xs,H' b=none/\X.s₀.heap.objs.size<=b/\(∀ p∈X.pn ++ pins,p.1≠b)/\∃ o vs,s'.heap.get? b=some o/\o.data=.fields vs)->s'.heap.objs.size<=T ->
      wpAny (model X.prog X.w) X.A (setFlight (.ref e) none) (fun _ s3=>wpAny (model X.prog X.w) X.A (handleBy (.ref e) X.env [.ExceptHandler (some (.Name x np)) (some n) (b0 :: suite) hpos]) (SP X pins D) X.xe s3) X.xe { s' with heap:=h1 }:=by
    intro h1 T xs t m hxs hT
    have J1:Inv X pins σ H' { s' with heap:=h1 }:=I.moved (hst ▸ m) fun b hb=>by
      obtain ⟨r1,r2,r3,o,vs,r4,r5⟩:=hxs b hb
      exact ⟨r1,.inr r2,(I.apart r4 r5).1,(I.apart r4 r5).2,r3⟩
    have nT:H' T=none:=I.hok.fresh hT
    have sT:X.s₀.heap.objs.size<=T:=Nat.le_trans I.sz hT
    have pT:∀ p∈X.pn ++ pins,p.1≠T:=fun p q z=>absurd (Nat.lt_of_lt_of_le (Heap.lt_size (I.pin p q).1) hT) (by rw [z]; exact Nat.lt_irrefl _)
    refine vq (s:={ s' with heap:=h1 }) (v:=none) t fun h2 t2 m2=>fin h2 T t2 (Inv.moved (s:={ s' with heap:=h1 }) J1 (m2.mono (fun b z=>nomatch z) fun _ z=>z) fun b hb=>?_) nT sT pT
    rw [List.mem_singleton.mp hb]
    obtain ⟨ot,ts,q1,q2,_⟩:=t.tb
    exact ⟨nT,.inr sT,(J1.apart q1 q2).1,(J1.apart q1 q2).2,pT⟩
  rcases st with ⟨oe,vs,h1,rfl,rfl,h4,h5,h6⟩ | ⟨T0,t0,n0,s0⟩
  · refine jZ fr fs hf h1 h4 h5 h6 fun h' T hs t m=>two h' T [e] t m (fun b hb=>?_) hs
    rw [List.mem_singleton.mp hb]
    exact ⟨ne,Nat.le_trans hk he,pk e he,oe,vs,h1,h4⟩
  · refine Ye fr fs hf t0 fun h' T hs t m=>two h' T [e,T0] t m (fun b hb=>?_) hs
    rcases List.mem_cons.mp hb with r | hb
    · rw [r]
      obtain ⟨oe,vs,q1,_,_,q4,_⟩:=t0.ex
      exact ⟨ne,Nat.le_trans hk he,pk e he,oe,vs,q1,q4⟩
    · rw [List.mem_singleton.mp hb]
      obtain ⟨ot,ts,q1,q2,_⟩:=t0.tb
      exact ⟨n0,Nat.le_trans hk s0,pk T0 s0,ot,ts,q1,q2⟩
theorem V9 {pins:List (Addr × Obj)} {σ:St} {D:Ends} {u:Value} {s':Shared} (hN:X.N.Nodup) (hi:X.N[i]?=some n) (hl:X.env.scope.names.lookup n=some .local) (hst:X.stack=X.env :: X.outer) (hf:X.env.frame=some X.env.locals) (hg:Gl X x) (hm:X.mg x=some (.ref Ch))
    (hS:∀ e oe,PSs (X.inEx (.ref e) [(e,oe)]) (b0 :: suite) (th e oe)) (hdb:(x == ("__debug__":Str))=false)
    (h:Air X pins σ (zbC X.K Ch i th D σ) u s') :
    wpAny (model X.prog X.w) X.A (noteFrame u X.env) (fun _ s2=>wpAny (model X.prog X.w) X.A (setFlight u none) (fun _ s3=>wpAny (model X.prog X.w) X.A (handleBy u X.env [.ExceptHandler (some (.Name x np)) (some n) (b0 :: suite) hpos]) (SP X pins D) X.xe s3) X.xe s2) X.xe s' :=
  W1 hN hi hl hst hf hg hm hS hdb (let ⟨e,C,dx,H',k,a1,a2,a3,a4,a5,a6,a7,a8,a9⟩:=h; ⟨e,C,dx,H',k,a1,a2,a3,a4,a5,a6,a7,a8,fun e oe vs b1 b2 b3 _ b5=>a9 e oe b1 b2 ⟨vs,b3⟩ b5⟩)
def tTry (K:PySem.W.Frag) (Ch:Addr) (i:Nat) (sp:Sp) (t:TA) (th:Addr->Obj->TS):TS:=fun D σ H=>t σ H fun vs H1=>sp vs H1 (fun _ H2=>D.nx σ H2) (zbC K Ch i th D σ)
variable {k:Nat} {f:Addr} {fd:FuncData} {ps:List Str} {sp:Sp} {y:Str} {p cpos epos:Pos} {a:Expr} {as:List Expr} {t:TA}
theorem zcH (F:FnOk X.prog X.w X.K X.mg X.base (CXf X.prog X.w) k f fd ps sp) (hr:Room k X.A) (hgf:Gl X y) (hmf:X.mg y=some (.ref f)) (hkf:PySem.W.keepIn X.K (.ref f)=true) (hb:Binds X.K fd ps []) (ha:PA X (a :: as) t)
    (hN:X.N.Nodup) (hi:X.N[i]?=some n) (hl:X.env.scope.names.lookup n=some .local) (hst:X.stack=X.env :: X.outer) (hf:X.env.frame=some X.env.locals) (hg:Gl X x) (hm:X.mg x=some (.ref Ch)) (hnx:X.xe=fun _ _=>False)
    (hS:∀ e oe,PSs (X.inEx (.ref e) [(e,oe)]) (b0 :: suite) (th e oe)) (hdf:(y == ("__debug__":Str))=false:=by decide) (hdb:(x == ("__debug__":Str))=false:=by decide) (h1:zm a=false:=by rfl) (h2:as.all (fun e=>!zm e)=true:=by rfl)
    (hs:swapsWith (.Call (.Name y p) (a :: as) [] cpos) none epos.line X.env=pure false:=by rfl) :
    PS X (.Try [.Expr (.Call (.Name y p) (a :: as) [] cpos) epos] [.ExceptHandler (some (.Name x np)) (some n) (b0 :: suite) hpos] [] [] tpos) (tTry X.K Ch i sp t th):=by
  intro pins s σ H D I h
  refine wpAny_Try_except (wpAny_execs_cons (wpAny_Expr_any (wpAny_Call_Name_kw (yZ I hgf hmf ?_ hdf)) I.quiet hs))
  refine PySem.W.callWith_K (h₀:=X.base) I.ok.mod.kin hkf (wpAny_mono (ha cpos pins s σ H _ I h) (fun us s1 ⟨vs,H1,I1,r,q⟩=>⟨I1.kIn,?_⟩) fun u s' z=>by rw [hnx] at z; exact False.elim z) (zI h1) (yw h2)
  have hlen:us.length=ps.length:=by rw [<- r.length]; exact F.len _ _ _ _ q
  have bd:=hb s1 us I1.kIn (by rw [List.append_nil]; exact hlen)
  rw [List.append_nil] at bd
  refine wpAny_call (codeAny_mono (F.run X.A X.stack s1 H1 ⟨us,[]⟩ us vs _ _ hr I1.env0 bd r q) fun r s' hq=>?_)
  cases r with
  | error u=>exact V9 hN hi hl hst hf hg hm hS hdb (V4 rfl rfl I1 hq)
  | ok fl =>
    cases fl with
    | ret u =>
      obtain ⟨v,H',I2,rv,q2⟩:=I1.after hq
      exact wpAny_execs_nil (wpAny_execs_nil ⟨σ,H',I2,q2⟩)
    | next=>exact False.elim hq
    | brk=>exact False.elim hq
    | cont=>exact False.elim hq
end
section
variable {X:Cx} {pins:List (Addr × Obj)} {σ:St} {H:Hp} {s:Shared} {h':Heap}
theorem Inv.turns {t':Nat} {ch:List Addr} (I:Inv X pins σ H s) (k:∀ b o,b ∉ ch->s.heap.get? b=some o->h'.get? b=some o) (hf:∀ b∈ch,FpOk X pins H b):Inv X pins σ H { s with heap:=h',toks:=t' }:=by
  have nit:∀ b u,H b=some u->b ∉ ch:=fun b u e z=>by rw [(hf b z).1] at e; cases e
  refine I.call (g':=s.gens) (d':=s.drawn) (t':=t') (ch:=ch) ⟨fun b o q _ _ x=>k b o x q,fun b o q _ _ x=>⟨o.slots,k b o x q⟩,fun _ _ _ n _=>n,fun b o q x=>⟨o,k b o x q⟩,fun _ _ q=>q,fun _ _ _ q=>q,fun _ ps q=>⟨#[],by rw [q]; simp⟩⟩
    (fun b u e=>(I.hok b u e).stay (fun c v hc q=>k c v ?_ q) (fun _ q=>q) fun _ _ q=>q) I.bare fun b hb=>?_
  · rcases hc with z | z
    · rw [z]; exact nit b u e
    · exact nit c _ z
  · obtain ⟨f0,f1,f2,f3,f4,f5⟩:=hf b hb
    exact ⟨f3,f1,f4,f5⟩
theorem Inv.turnsLaid {t':Nat} {ch:List Addr} {a:Addr} {o:HO} (I:Inv X pins σ H s) (k:∀ b o,b ∉ ch->s.heap.get? b=some o->h'.get? b=some o) (hf:∀ b∈ch,FpOk X pins H b) (hp:s.heap.objs.size<=a) (new:ObjOk X.prog X.w (upd H a o) h' a o) :
    Inv X pins σ (upd H a o) { s with heap:=h',toks:=t' }:=by
  have hn:=I.hok.fresh hp
  have nit:∀ b u,H b=some u->b ∉ ch:=fun b u e z=>by rw [(hf b z).1] at e; cases e
  refine I.call (g':=s.gens) (d':=s.drawn) (t':=t') (ch:=ch) ⟨fun b o q _ _ x=>k b o x q,fun b o q _ _ x=>⟨o.slots,k b o x q⟩,fun b u q n _=>by rw [zg (Nat.ne_of_lt (Nat.lt_of_lt_of_le (Heap.lt_size q) hp))]; exact n,fun b o q x=>⟨o,k b o x q⟩,
      fun b xs q=>by rw [zg (zi q hn)]; exact q,fun b u xs q=>by rw [zg (zi q hn)]; exact q,fun b ps q=>⟨#[],by rw [zg (zi q hn),q]; simp⟩⟩
    (fun b u e=>?_) I.bare fun b hb=>?_
  · by_cases hb:b=a
    · subst hb
      rw [za] at e
      cases e
      exact new
    · rw [zg hb] at e
      refine (I.hok b u e).stay (fun c v hc q=>k c v ?_ q) (fun c q=>by rw [zg (zi q hn)]; exact q) fun c xs q=>by rw [zg (zi q hn)]; exact q
      rcases hc with z | z
      · rw [z]; exact nit b u e
      · exact nit c _ z
  · obtain ⟨f0,f1,f2,f3,f4,f5⟩:=hf b hb
    exact ⟨f3,f1,f4,f5⟩
end
def Ite (K:PySem.W.Frag) (a:Addr):It :=
  ⟨fun i H=>∃ xs x,SqL K H a xs/\xs[i]?=some x,fun i H x H'=>∃ T v,x=.ref T/\H T=none/\H'=upd H T (.tup [.int i,v])/\∀ xs,SqL K H a xs->xs[i]?=some v,fun i H=>∃ xs,SqL K H a xs/\xs.length<=i⟩
theorem W2 {P:Program} {w:World} {K:PySem.W.Frag} {elts:List Expr} {k:Nat} {pos:Pos} {a e it:Addr} (hne:e≠it):Turn P w K (.Tuple elts k pos) (Ite K a) [e,it] e (fun i h=>(∃ old,IsEnum h e it (i:Int) old)/\h.IsListIter it a i) where
  mem:=by simp
  obj:=fun i h st b hb=>by
    obtain ⟨⟨old,he⟩,hit⟩:=st
    have e':b=e\/b=it:=by simpa using hb
    rcases e' with z | z
    · subst z
      exact ⟨_,he,fun v z=>by cases z⟩
    · subst z
      obtain ⟨o,e,c,d⟩:=hit
      exact ⟨o,e,fun v z=>by rw [d] at z; cases z⟩
  keep:=fun i h h' st k=>⟨st.1.imp fun old he=>k e (by simp) _ he,st.2.at fun o x=>k it (by simp) o x⟩
  item:=by
    intro X hP hw hK hc i pins s σ H E I hf st hg
    subst hP hw hK
    obtain ⟨xs,x,hq,hx⟩:=hg
    obtain ⟨its,rv,p,hz⟩:=I.list hq
    obtain ⟨u,hu,ru⟩:=rv.get hx
    obtain ⟨⟨old,he⟩,hit⟩:=st
    refine wpAny_pyNext_enum_item he hit p.isList (x:=u) (by simpa using hu) hne fun h' ho hit' hT hsz hk=>?_
    have new:ObjOk X.prog X.w (upd H s.heap.objs.size (.tup [.int i,x])) h' s.heap.objs.size (.tup [.int i,x]):=⟨sN2,[.int i s.toks,u],.cons ⟨_,rfl⟩ (.cons ru .nil),⟨_,hT,rfl,rfl,_,rfl⟩⟩
    have I1:Inv X pins σ (upd H s.heap.objs.size (.tup [.int i,x])) { s with heap:=h',toks:=s.toks + 1 }:=I.turnsLaid (ch:=[e,it]) (fun b o hb q=>hk b o (fun z=>hb (by simp [z])) (fun z=>hb (by simp [z])) q) hf (Nat.le_refl _) new
    have hlt:∀ b∈[e,it],b≠s.heap.objs.size:=fun b hb=>by
      have e':b=e\/b=it:=by simpa using hb
      rcases e' with z | z
      · rw [z]; exact Nat.ne_of_lt (Heap.lt_size he)
      · rw [z]; obtain ⟨o,q,_⟩:=hit; exact Nat.ne_of_lt (Heap.lt_size q)
    have hn:∀ b∈[e,it],upd H s.heap.objs.size (.tup [.int i,x]) b=none:=fun b hb=>by rw [zg (hlt b hb)]; exact (hf b hb).1
    have hf1:∀ b∈[e,it],FpOk X pins (upd H s.heap.objs.size (.tup [.int i,x])) b:=fun b hb=>⟨hn b hb,(hf b hb).2⟩
    refine ⟨_,rfl,wpAny_letOwnedTupleGo_enum (s:={ s with heap:=h',toks:=s.toks + 1 }) ho fun h'' he' hs'=>?_⟩
    have I2:Inv X pins σ (upd H s.heap.objs.size (.tup [.int i,x])) { s with heap:=h'',toks:=s.toks + 1 }:=Inv.turns (s:={ s with heap:=h',toks:=s.toks + 1 }) (t':=s.toks + 1) (ch:=[e,it]) I1 (fun b o hb q=>(hs'.2 b fun z=>hb (by simp [z])).trans q) hf1
    refine ⟨.ref s.heap.objs.size,_,I2,rfl,⟨_,x,rfl,I.fresh,rfl,fun ys hy=>by rw [I.list_inj hy hq]; exact hx⟩,⟨⟨u,?_⟩,hit'.at fun o q=>(hs'.2 it hne.symm).trans q⟩,hn⟩
    have e1:(((i + 1:Nat)):Int)=(i:Int) + 1:=by lia
    rw [e1]
    exact he'
  done:=by
    intro X hP hw hK hc i pins s σ H E I hf st hg
    subst hP hw hK
    obtain ⟨xs,hq,hx⟩:=hg
    obtain ⟨its,rv,p,hz⟩:=I.list hq
    have hl:=rv.length
    obtain ⟨⟨old,he⟩,hit⟩:=st
    exact wpAny_pyNext_enum_end (I.ok.hd hc) he hit p.isList (by simp; lia) fun h' eb=>⟨rfl,I.turns (t':=s.toks) (ch:=[e,it]) (fun b o hb q=>eb b o (fun z=>hb (by simp [z])) q) hf⟩
  self:=fun _ _ _ _ _ st h=>by
    obtain ⟨⟨old,he⟩,_⟩:=st
    exact wpAny_pyIter_enum he h
section
variable {X:Cx} {elts:List Expr} {k:Nat} {tpos:Pos}
def zbD (K:PySem.W.Frag) (ta:TA):TI:=fun σ H R=>ta σ H fun vs H1=>∃ a,vs=[.ref a]/\(∃ xs,SqL K H1 a xs)/\R (Ite K a) H1
theorem zar {a:Expr} {ta:TA} {p pos:Pos} (hg:Gl X "enumerate") (hm:X.mg "enumerate"=none) (ha:PA X [a] ta) (hs:starEach [a] X.env=[(false,eval a X.env)]:=by rfl):PI X (.Tuple elts k tpos) (.Call (.Name "enumerate" p) [a] [] pos) (zbD X.K ta):=by
  intro pins s σ H R I h
  refine Call_ (xY I hg hm boot_enumerate (PyProof.Rows.callWith_type1 (thn (ha pos pins s σ H _ I h) fun us s1 ⟨vs,H1,I1,r1,q1⟩=>?_) hs rfl))
  obtain ⟨l,e,⟨xs,hq⟩,q⟩:=q1
  subst e
  obtain ⟨u,rfl,rx⟩:=xR r1
  cases rx
  obtain ⟨its,rv,pl,hz⟩:=I1.list hq
  refine call_enumerate_list pl.isList fun h' hE hI hsz hk=>?_
  refine wpAny_pyIter_enum hE ?_
  refine ⟨s1.heap.objs.size + 1,[s1.heap.objs.size + 1,s1.heap.objs.size],_,_,H1,rfl,I1.kept (t':=s1.toks) hk,W2 (a:=l) (Nat.succ_ne_self _),⟨⟨_,hE⟩,hI⟩,fun b hb=>?_,q⟩
  have e:b=s1.heap.objs.size + 1\/b=s1.heap.objs.size:=by simpa using hb
  rcases e with e | e
  · subst e
    exact I1.fpOk (Nat.le_succ _) (I1.hok.fresh (Nat.le_succ _))
  · subst e
    exact I1.fpOk (Nat.le_refl _) (I1.hok.fresh (Nat.le_refl _))
theorem zas {a:Expr} {t:TA} {p pos:Pos} (hg:Gl X "enumerate") (hm:X.mg "enumerate"=none) (ha:jA X [a] t) (h:zm a=false:=by rfl):jI X (.Tuple elts k tpos) (.Call (.Name "enumerate" p) [a] [] pos) (zbD X.K t):=⟨zar hg hm ha.out (zI h)⟩
end
end L2
namespace L2
open PySem PySem.Spec PyProof.Rows Builtin Builtin.Str
section
variable {X:Cx}
theorem wo:∀ {zs:List Str} {us:List Value},Vals (zs.map V.str) us->∃ l:List (Str × Tok),us=strValues l/\l.map (·.1)=zs
  | [],_,.nil=>⟨[],rfl,rfl⟩
  | z :: zs,_,.cons ⟨t,e⟩ r=>by
    obtain ⟨l,rfl,h⟩:=wo r
    exact ⟨(z,t) :: l,by rw [e]; rfl,by rw [List.map_cons,h]⟩
theorem Yg (sep:Str):∀ (zs:List Str) (a:Nat),zs.foldl (· + ·.length + sep.length) a=a + ((zs.map (·.length)).sum + zs.length * sep.length)
  | [],a=>by simp
  | z :: zs,a=>by
    rw [List.foldl_cons,Yg sep zs]
    simp only [List.map_cons,List.sum_cons,List.length_cons,Nat.add_mul,Nat.one_mul]
    lia
def wide (sep:Str) (zs:List Str):Nat:=(zs.map (·.length)).sum + zs.length * sep.length
def Ja (K:PySem.W.Frag):V->List V->Hp->VK->Prop:=fun x vs H Q=>∃ sep p zs,x=.str sep/\vs=[.ref p]/\SqL K H p (zs.map V.str)/\wide sep zs<=sizeLine/\Q (.str (Str.join sep zs)) H
theorem zat:MtR X "str.join" (Ja X.K):=by
  intro pins s σ H x vs v us Q I rx rv h
  obtain ⟨sep,p,zs,rfl,rfl,hq,hw,q⟩:=h
  obtain ⟨t,rfl⟩:=rx
  obtain ⟨u,rfl,ru⟩:=rv.one
  cases ru
  obtain ⟨its,r,pl,hz⟩:=I.list hq
  obtain ⟨l,rfl,hl⟩:=wo r
  have big:tooLong ((l.map (·.1)).toArray.foldl (· + ·.length + sep.length) 0)=false:=by
    rw [hl,List.foldl_toArray,Yg]
    unfold tooLong
    rw [decide_eq_false_iff_not]
    unfold wide at hw
    lia
  have hg:=size_glued sep zs
  have hle:(glued sep zs).length<=sizeLine:=by
    rw [hg]
    unfold wide at hw
    have:(zs.length - 1) * sep.length<=zs.length * sep.length:=Nat.mul_le_mul_right _ (Nat.sub_le _ _)
    lia
  refine call_meets F.slot_str_join (typeIs_str _ _ _) F.entry_str_join (F.args_str_join_2 _ _) (meets_str_join_list sep t p l big) ⟨pl.isList,?_⟩
  rw [<- StrLaws.glued_eq_join] at q
  match l,hl with
  | [],hl=>exact ⟨by rw [hl]; exact hle,.str _,H,I.tok _,⟨_,rfl⟩,by rw [hl]; exact q⟩
  | [(z,tz)],hl =>
    have e:glued sep zs=z:=by
      rw [<- hl]
      rfl
    rw [e] at q
    exact ⟨.str z,H,I,⟨tz,rfl⟩,q⟩
  | a :: b :: r,hl=>exact ⟨by rw [hl]; exact hle,.str _,H,I.tok _,⟨_,rfl⟩,by rw [hl]; exact q⟩
theorem zO:jMt X "str.join" (Ja X.K):=⟨zat⟩
def rEqE (K:PySem.W.Frag) (neg:Bool):R2:=fun x y H Q=>∃ p p' xs,x=.ref p/\y=.ref p'/\SqL K H p xs/\SqL K H p' []/\Q (.bl (if neg then !xs.isEmpty else xs.isEmpty)) H
theorem zcI (hu:X.A.units < cLine):OpR X (compareOp .Eq) (rEqE X.K false):=by
  intro pins s σ H x y v u Q I rx ry h
  obtain ⟨p,p',xs,rfl,rfl,h1,h2,q⟩:=h
  cases rx
  cases ry
  obtain ⟨its,r,pl,_⟩:=I.list h1
  obtain ⟨its',r',pl',_⟩:=I.list h2
  cases r'
  cases r with
  | nil=>exact SeqAt.eq_listAt (e:=fun _=>true) pl.isList pl'.isList rfl hu (fun j h=>absurd h (Nat.not_lt_zero _)) ⟨.bl true,H,I,rfl,q⟩
  | cons a b=>exact SeqAt.eq_list_lengthsAt pl.isList pl'.isList rfl hu ⟨.bl false,H,I,rfl,q⟩
theorem zcJ (hu:X.A.units < cLine):OpR X (compareOp .NotEq) (rEqE X.K true):=by
  intro pins s σ H x y v u Q I rx ry h
  obtain ⟨p,p',xs,rfl,rfl,h1,h2,q⟩:=h
  cases rx
  cases ry
  obtain ⟨its,r,pl,_⟩:=I.list h1
  obtain ⟨its',r',pl',_⟩:=I.list h2
  cases r'
  cases r with
  | nil=>exact SeqAt.RcNeAt.lists (e:=fun _=>true) pl.isList pl'.isList rfl hu (fun j h=>absurd h (Nat.not_lt_zero _)) _ _ _ _ ⟨.bl false,H,I,rfl,q⟩
  | cons a b=>exact SeqAt.RcNeAt.lists_lengths pl.isList pl'.isList rfl hu _ _ _ _ ⟨.bl true,H,I,rfl,q⟩
theorem vM {k:Nat} (hr:Room k X.A):jOp X (compareOp .Eq) (rEqE X.K false):=⟨zcI hr.units0⟩
theorem zcK {k:Nat} (hr:Room k X.A):jOp X (compareOp .NotEq) (rEqE X.K true):=⟨zcJ hr.units0⟩
theorem wp:∀ {ns:List Int} {us:List Value},Vals (ns.map V.int) us->∃ l:List (Int × Tok),us=(intItems l.toArray).toList/\l.map (·.1)=ns
  | [],_,.nil=>⟨[],by simp [intItems],rfl⟩
  | z :: zs,_,.cons ⟨t,e⟩ r=>by
    obtain ⟨l,rfl,h⟩:=wp r
    exact ⟨(z,t) :: l,by rw [e]; simp [intItems],by rw [List.map_cons,h]⟩
theorem jz (hc:X.calm=true):yM X (.builtin "sum") (fun xs H Q=>∃ (p:Addr) (ns:List Int),xs=[.ref p]/\SqL X.K H p (ns.map V.int)/\Q (.int ns.sum) H):=by
  intro pins s σ H xs us Q I r h
  obtain ⟨p,ns,rfl,hq,q⟩:=h
  obtain ⟨u,rfl,rx⟩:=xR r
  cases rx
  obtain ⟨its,rv,pl,hz⟩:=I.list hq
  obtain ⟨l,rfl,hl⟩:=wp rv
  have pl2:s.heap.IsList p (intItems l.toArray):=by
    have:=pl.isList
    simpa using this
  refine sum_intListG (I.ok.hd hc) pl2 fun h' tk t' hk=>⟨.int ns.sum,H,I.kept hk,⟨t',?_⟩,q⟩
  rw [preSum_eq,List.take_of_length_le (by simp)]
  simp [hl]
theorem Jb (hc:X.calm=true):jCa X (.builtin "sum") (fun xs H Q=>∃ (p:Addr) (ns:List Int),xs=[.ref p]/\SqL X.K H p (ns.map V.int)/\Q (.int ns.sum) H):=⟨jz hc⟩
end
end L2
namespace L2
open PySem PySem.Spec PyProof.Rows
section
variable {P:Program} {w:World} {A:Around} {E:Value->Shared->Prop} {s:Shared}
end
section
variable {P:Program} {w:World} {A:Around} {E:Value->Shared->Prop} {s:Shared} {k m:Bool} {B l r:Nat} {n:Nat} {xs ys:Array Value} {x y f g:Value}
end
section
variable {P:Program} {w:World} {A:Around} {R:Result->Shared->Prop} {h0:Heap} {k m:Bool} {B l r N:Nat} {xs ys:Array Value} {res:Value}
end
section
variable {P:Program} {w:World} {A:Around} {E:Value->Shared->Prop} {s:Shared} {k m:Bool} {B l r N:Nat} {xs ys:Array Value}
end
section
variable {X:Cx} {a b:Expr} {ta:TA} {p1 p2 pos1 pos2:Pos}
end
section
variable {X:Cx} {elts:List Expr} {n:Nat} {tpos:Pos}
end
structure Ca (P:Program) (w:World) (K:PySem.W.Frag) (mg:Str->Option Value) (base:Heap) (CX:CXT) (k:Nat) (x:Str) (ps:List Str) (sp:Sp):Prop where
  ex:∃ f fd,FnOk P w K mg base CX k f fd ps sp/\Binds K fd ps []/\PySem.W.keepIn K (.ref f)=true/\mg x=some (.ref f)
structure Me (P:Program) (w:World) (K:PySem.W.Frag) (mg:Str->Option Value) (base:Heap) (CX:CXT) (k:Nat) (C:Addr) (m:Str) (ps:List Str) (sp:Sp):Prop where
  ex:∃ f fd,FnOk P w K mg base CX k f fd ps sp/\Binds K fd ps []/\Meth K C m f
structure Ma (P:Program) (w:World) (K:PySem.W.Frag) (mg:Str->Option Value) (base:Heap) (CX:CXT) (k:Nat) (x:Str) (C:Addr) (ps:List Str) (sp:Sp):Prop where
  ex:∃ f fd,Mk K C f/\FnOk P w K mg base CX k f fd ps sp/\Binds K fd ps []/\mg x=some (.ref C)
structure Xa (P:Program) (w:World) (K:PySem.W.Frag) (mg:Str->Option Value) (base:Heap) (k:Nat) (x:Str) (C:Addr) (ps:List Str) (sp:Sp):Prop where
  ex:∃ f fd,XCl K C f/\FnOk P w K mg base CX0 k f fd ps sp/\Binds K fd ps []/\mg x=some (.ref C)
section
variable {P:Program} {w:World} {K:PySem.W.Frag} {mg:Str->Option Value} {base:Heap} {CX:CXT} {k j:Nat} {x m:Str} {C:Addr} {ps:List Str} {sp sp':Sp}
theorem Ca.mono (h:Ca P w K mg base CX j x ps sp) (l:j<=k):Ca P w K mg base CX k x ps sp:=let ⟨f,fd,a,r⟩:=h.ex; ⟨f,fd,a.mono l,r⟩
end
section
variable {X:Cx} {CX:CXT} {k i:Nat} {C:Addr} {ps:List Str} {sp:Sp} {E:XK} {x m n f:Str} {p pos apos cpos np pos' epos hpos tpos:Pos} {e o a value:Expr} {es as:List Expr} {ta te tv to t1 t2:TE} {t:TA}
theorem yJ (F:Ca X.prog X.w X.K X.mg X.base CX k x ps sp) (hr:Room k X.A) (hg:Gl X x) (hx:yA CX X E) (ha:jA X (e :: es) t) (hdb:(x == ("__debug__":Str))=false:=by decide) (h1:zm e=false:=by rfl) (h2:es.all (fun e=>!zm e)=true:=by rfl) :
    jE X (.Call (.Name x p) (e :: es) [] pos) (Z8 sp [] E t):=let ⟨_,_,G,b,kp,mg⟩:=F.ex; V2 G hr hg mg kp b .nil hx ha hdb h1 h2
theorem yl {pl:Sem Bool} (he:jE X o ta) (c:Cls X.K C) (F:Me X.prog X.w X.K X.mg X.base CX k C m ps sp) (hr:Room k X.A) (hx:yA CX X E) (ha:jA X (e :: es) t) (h1:zm e=false:=by rfl) (h2:es.all (fun e=>!zm e)=true:=by rfl)
    (ht:eval (.Call (.Attribute o m apos) (e :: es) [] pos) X.env=(do
      let ov <- eval o X.env
      standAt apos.atName
      let (f,first) <- holding [ov] (getMethod ov m pl)
      callWith pos f first (backTo pos (starEach (e :: es) X.env)) (backToKw pos (keywordEach [] X.env))):=by rfl) :
    jE X (.Call (.Attribute o m apos) (e :: es) [] pos) (XT C m sp [] E ta t):=let ⟨_,_,G,b,mt⟩:=F.ex; ⟨Q5 he.out c mt G hr b .nil hx ha.out (zI h1) (yw h2) ht⟩
theorem yd {pl:Sem Bool} (he:jE X o ta) (c:Cls X.K C) (F:Me X.prog X.w X.K X.mg X.base CX k C m ps sp) (hr:Room k X.A) (hx:yA CX X E)
    (ht:eval (.Call (.Attribute o m apos) [] [] pos) X.env=(do
      let ov <- eval o X.env
      standAt apos.atName
      let (f,first) <- holding [ov] (getMethod ov m pl)
      callWith pos f first (backTo pos (starEach [] X.env)) (backToKw pos (keywordEach [] X.env))):=by rfl) :
    jE X (.Call (.Attribute o m apos) [] [] pos) (XT C m sp [] E ta tNil):=let ⟨_,_,G,b,mt⟩:=F.ex; ⟨VL he.out c mt G hr b .nil hx ht⟩
theorem X5 (F:Ma X.prog X.w X.K X.mg X.base CX k x C ps sp) (hr:Room (k + 1) X.A) (hg:Gl X x) (hx:yA CX X E) (ha:jA X (e :: es) t) (hdb:(x == ("__debug__":Str))=false:=by decide) (h1:zm e=false:=by rfl) (h2:es.all (fun e=>!zm e)=true:=by rfl) :
    jE X (.Call (.Name x p) (e :: es) [] pos) (zbx C sp [] E t):=let ⟨_,_,M,G,b,mg⟩:=F.ex; ⟨Q6 M G hr hg mg b .nil hx ha.out hdb (zI h1) (yw h2)⟩
theorem yn (he:jE X e ta) (hb:attributeBase e f X.env (eval e X.env)=eval e X.env:=by rfl):jE X (.Attribute e f pos) (tFld X.K ta f):=⟨zch he.out hb⟩
theorem yE (ha:jE X o ta) (hv:jE X value tv) (hs:swapsWith value (some (.Attribute o f pos')) pos.line X.env=pure false:=by rfl):jS X (.Assign [.Attribute o f pos'] value pos) (sFld X.K ta tv f):=⟨zci ha.out hv.out hs⟩
theorem vN (F:Xa X.prog X.w X.K X.mg X.base k x C ps sp) (hr:Room (k + 1) X.A) (hg:Gl X x) (hx:Y5 X E) (ha:jA X (a :: as) t) (hdb:(x == ("__debug__":Str))=false:=by decide) (h1:zm a=false:=by rfl) (h2:as.all (fun e=>!zm e)=true:=by rfl) :
    jS X (.Raise (some (.Call (.Name x np) (a :: as) [] cpos)) none pos) (V6 C sp E t):=let ⟨_,_,M,G,b,mg⟩:=F.ex; ⟨V7 M G hr hg mg b hx ha.out hdb h1 h2⟩
theorem Jc (h1:jE X e t1) (h2:jE X e t2):jE X e (fun σ H Q=>t1 σ H Q\/t2 σ H Q):=⟨fun pins s σ H Q I h=>h.elim (h1.out pins s σ H Q I) (h2.out pins s σ H Q I)⟩
theorem Jd {j pos'} (ha:jE X a ta):jT X (.Compare a [.Is] [.Constant .none j pos'] pos) (tB (tIsN ta)):=⟨Vw (zbX ha.out)⟩
theorem zau {j pos'} (ha:jE X a ta):jT X (.Compare a [.IsNot] [.Constant .none j pos'] pos) (tB (zbp ta)):=⟨Vw (QP ha.out)⟩
end
end L2
namespace L2
open PySem
section
variable {X:Cx} {x:Str} {pos p q p2:Pos}
theorem jA1 {e1:Expr} {t1:TE} (h1:jE X e1 t1) (s1:zm e1=false:=by rfl):jA X [e1] (zN t1 tNil):=(ja_c h1 zS s1)
theorem jA2 {e1:Expr} {t1:TE} {e2:Expr} {t2:TE} (h1:jE X e1 t1) (h2:jE X e2 t2) (s1:zm e1=false:=by rfl) (s2:zm e2=false:=by rfl):jA X [e1,e2] (zN t1 (zN t2 tNil)):=(ja_c h1 (ja_c h2 zS s2) s1)
theorem jA3 {e1:Expr} {t1:TE} {e2:Expr} {t2:TE} {e3:Expr} {t3:TE} (h1:jE X e1 t1) (h2:jE X e2 t2) (h3:jE X e3 t3) (s1:zm e1=false:=by rfl) (s2:zm e2=false:=by rfl) (s3:zm e3=false:=by rfl):jA X [e1,e2,e3] (zN t1 (zN t2 (zN t3 tNil))):=(ja_c h1 (ja_c h2 (ja_c h3 zS s3) s2) s1)
theorem jA4 {e1:Expr} {t1:TE} {e2:Expr} {t2:TE} {e3:Expr} {t3:TE} {e4:Expr} {t4:TE} (h1:jE X e1 t1) (h2:jE X e2 t2) (h3:jE X e3 t3) (h4:jE X e4 t4) (s1:zm e1=false:=by rfl) (s2:zm e2=false:=by rfl) (s3:zm e3=false:=by rfl) (s4:zm e4=false:=by rfl):jA X [e1,e2,e3,e4] (zN t1 (zN t2 (zN t3 (zN t4 tNil)))):=(ja_c h1 (ja_c h2 (ja_c h3 (ja_c h4 zS s4) s3) s2) s1)
theorem jA5 {e1:Expr} {t1:TE} {e2:Expr} {t2:TE} {e3:Expr} {t3:TE} {e4:Expr} {t4:TE} {e5:Expr} {t5:TE} (h1:jE X e1 t1) (h2:jE X e2 t2) (h3:jE X e3 t3) (h4:jE X e4 t4) (h5:jE X e5 t5) (s1:zm e1=false:=by rfl) (s2:zm e2=false:=by rfl) (s3:zm e3=false:=by rfl) (s4:zm e4=false:=by rfl) (s5:zm e5=false:=by rfl):jA X [e1,e2,e3,e4,e5] (zN t1 (zN t2 (zN t3 (zN t4 (zN t5 tNil))))):=(ja_c h1 (ja_c h2 (ja_c h3 (ja_c h4 (ja_c h5 zS s5) s4) s3) s2) s1)
theorem jA7 {e1:Expr} {t1:TE} {e2:Expr} {t2:TE} {e3:Expr} {t3:TE} {e4:Expr} {t4:TE} {e5:Expr} {t5:TE} {e6:Expr} {t6:TE} {e7:Expr} {t7:TE} (h1:jE X e1 t1) (h2:jE X e2 t2) (h3:jE X e3 t3) (h4:jE X e4 t4) (h5:jE X e5 t5) (h6:jE X e6 t6) (h7:jE X e7 t7) (s1:zm e1=false:=by rfl) (s2:zm e2=false:=by rfl) (s3:zm e3=false:=by rfl) (s4:zm e4=false:=by rfl) (s5:zm e5=false:=by rfl) (s6:zm e6=false:=by rfl) (s7:zm e7=false:=by rfl):jA X [e1,e2,e3,e4,e5,e6,e7] (zN t1 (zN t2 (zN t3 (zN t4 (zN t5 (zN t6 (zN t7 tNil))))))):=(ja_c h1 (ja_c h2 (ja_c h3 (ja_c h4 (ja_c h5 (ja_c h6 (ja_c h7 zS s7) s6) s5) s4) s3) s2) s1)
theorem jA8 {e1:Expr} {t1:TE} {e2:Expr} {t2:TE} {e3:Expr} {t3:TE} {e4:Expr} {t4:TE} {e5:Expr} {t5:TE} {e6:Expr} {t6:TE} {e7:Expr} {t7:TE} {e8:Expr} {t8:TE} (h1:jE X e1 t1) (h2:jE X e2 t2) (h3:jE X e3 t3) (h4:jE X e4 t4) (h5:jE X e5 t5) (h6:jE X e6 t6) (h7:jE X e7 t7) (h8:jE X e8 t8) (s1:zm e1=false:=by rfl) (s2:zm e2=false:=by rfl) (s3:zm e3=false:=by rfl) (s4:zm e4=false:=by rfl) (s5:zm e5=false:=by rfl) (s6:zm e6=false:=by rfl) (s7:zm e7=false:=by rfl) (s8:zm e8=false:=by rfl):jA X [e1,e2,e3,e4,e5,e6,e7,e8] (zN t1 (zN t2 (zN t3 (zN t4 (zN t5 (zN t6 (zN t7 (zN t8 tNil)))))))):=(ja_c h1 (ja_c h2 (ja_c h3 (ja_c h4 (ja_c h5 (ja_c h6 (ja_c h7 (ja_c h8 zS s8) s7) s6) s5) s4) s3) s2) s1)
theorem jA9 {e1:Expr} {t1:TE} {e2:Expr} {t2:TE} {e3:Expr} {t3:TE} {e4:Expr} {t4:TE} {e5:Expr} {t5:TE} {e6:Expr} {t6:TE} {e7:Expr} {t7:TE} {e8:Expr} {t8:TE} {e9:Expr} {t9:TE} (h1:jE X e1 t1) (h2:jE X e2 t2) (h3:jE X e3 t3) (h4:jE X e4 t4) (h5:jE X e5 t5) (h6:jE X e6 t6) (h7:jE X e7 t7) (h8:jE X e8 t8) (h9:jE X e9 t9) (s1:zm e1=false:=by rfl) (s2:zm e2=false:=by rfl) (s3:zm e3=false:=by rfl) (s4:zm e4=false:=by rfl) (s5:zm e5=false:=by rfl) (s6:zm e6=false:=by rfl) (s7:zm e7=false:=by rfl) (s8:zm e8=false:=by rfl) (s9:zm e9=false:=by rfl):jA X [e1,e2,e3,e4,e5,e6,e7,e8,e9] (zN t1 (zN t2 (zN t3 (zN t4 (zN t5 (zN t6 (zN t7 (zN t8 (zN t9 tNil))))))))):=(ja_c h1 (ja_c h2 (ja_c h3 (ja_c h4 (ja_c h5 (ja_c h6 (ja_c h7 (ja_c h8 (ja_c h9 zS s9) s8) s7) s6) s5) s4) s3) s2) s1)
theorem cA {k:Nat} {ps:List Str} {sp:Sp} {e:Expr} {es:List Expr} {t:TA} (F:Ca X.prog X.w X.K X.mg X.base CX0 k x ps sp) (hr:Room k X.A) (ha:jA X (e :: es) t) (hg:Gl X x:=by rfl) (hdb:(x == ("__debug__":Str))=false:=by decide) (h1:zm e=false:=by rfl) (h2:es.all (fun e=>!zm e)=true:=by rfl):jE X (.Call (.Name x p) (e :: es) [] pos) (Z8 sp [] E0 t):=yJ F hr hg yv ha hdb h1 h2
theorem xX {r:R2} {a b:Expr} {ta tb:TE} (hr:jIx X r) (ha:jE X a ta) (hb:jE X b tb) (hs:Zs b:=by exact fun _ _=>rfl):jE X (.Subscript a b pos) (tOp r ta tb):=X3 hr ha hb hs
theorem xT (i:Nat) {n j} (hN:X.N[i]?=some x:=by rfl) (hv:Vis X.env.scope x:=by first | exact Or.inl rfl | exact Or.inr (Or.inl rfl) | exact Or.inr (Or.inr rfl)) (hd:(x == ("__debug__":Str))=false:=by decide) (hcd:(x == ("__classdict__":Str))=false:=by decide):jE X (.Subscript (.Name x p) (.Constant (.int n) j q) pos) (tOp (rIxT X.K) (tVar i) (tC (.int n))):=X3 zcA (jv i hN hv hd hcd) zc (fun _ _=>rfl)
theorem xL (i:Nat) {n j} (hN:X.N[i]?=some x:=by rfl) (hv:Vis X.env.scope x:=by first | exact Or.inl rfl | exact Or.inr (Or.inl rfl) | exact Or.inr (Or.inr rfl)) (hd:(x == ("__debug__":Str))=false:=by decide) (hcd:(x == ("__classdict__":Str))=false:=by decide):jE X (.Subscript (.Name x p) (.Constant (.int n) j q) pos) (tOp (rIxL X.K) (tVar i) (tC (.int n))):=X3 z5 (jv i hN hv hd hcd) zc (fun _ _=>rfl)
theorem sE {e:Expr} {te:TE} (i:Nat) (hN:X.N.Nodup) (he:jE X e te) (hi:X.N[i]?=some x:=by rfl) (hx:Loc X.env.scope x:=by first | exact Or.inl rfl | exact Or.inr rfl) (hs:swapsWith e (some (.Name x q)) pos.line X.env=pure false:=by rfl) (hf:X.fn x=true\/X.env.scope.names.lookup x=some .local:=by first | exact .inl rfl | exact .inr rfl | assumption):jS X (.Assign [.Name x q] e pos) (tAsg te (we i)):=V3 hN hi hx he hs hf
theorem gN (i:Nat) (hN:X.N.Nodup) (hi:X.N[i]?=some x:=by rfl) (hx:Loc X.env.scope x:=by first | exact Or.inl rfl | exact Or.inr rfl) (hf:X.fn x=true\/X.env.scope.names.lookup x=some .local:=by first | exact .inl rfl | exact .inr rfl | assumption):jG X (.Name x pos) (we i):=zai hN hi hx hf
theorem tN {op:CmpOp} {r:R2} {a c:Expr} {ta tb:TE} (ho:jOp X (compareOp op) r) (ha:jE X a ta) (hb:jE X c tb) (hm:behindInMarks op c=false:=by exact y0 _):jT X (.Compare a [op] [c] pos) (Z7 (tOp r ta tb)):=Zy ho ha hb hm
theorem jL {e:Expr} {te:TE} (hm:X.mg "len"=none) (h:jE X e te) (hg:Gl X "len":=by rfl) (h1:zm e=false:=by rfl):jE X (.Call (.Name "len" p) [e] [] pos) (tCB (fun xs H Q=>∃ p ys,xs=[.ref p]/\(SqL X.K H p ys\/SqT X.K H p ys)/\Q (.int ys.length) H) (zN te tNil)):=z4 yq hg hm PySem.boot_len (ja_c h zS h1) (by decide) (by decide) h1 rfl
theorem aB {p q:Prop} [Decidable p] (h:¬ p:=by decide):p->q:=fun c=>absurd c h
end
end L2
namespace L2
open PySem PySem.Spec PySem.Calls PyProof.Rows
section
variable {P:Program} {w:World} {A:Around} {E:Value->Shared->Prop} {s:Shared} {K:PySem.W.Frag}
end
section
variable {X:Cx} {e C:Addr} {oe:Obj} {ex:Expr} {te:TE} {name:Str} {pos:Pos} {f:Addr}
def zbE (C e:Addr) (oe:Obj) (te:TE) (name:Str):TE:=fun σ H Q=>te σ H fun x H1=>x=.ref e/\oe.cls=.ref C/\(∃ vs,oe.data=.fields vs)/\∃ d fs v,oe.dict=some d/\H1 d=some (XD d fs)/\fs.lookup name=some v/\Q v H1
theorem zav (hp:(e,oe)∈X.pn) (M:XCl X.K C f) (hn:PySem.W.findIn X.K (.ref C) name=some none) (hh:PySem.W.hasDictIn X.K C=true) (he:PE X ex te) (hb:attributeBase ex name X.env (eval ex X.env)=eval ex X.env) :
    PE X (.Attribute ex name pos) (zbE C e oe te name):=by
  intro pins s σ H Q I h
  refine XS hb (thn (he pins s σ H _ I h) fun u s1 g=>?_)
  obtain ⟨x,H1,I1,rx,rfl,hc,⟨vs,hd⟩,d,fs,v,h1,h2,h3,q⟩:=g
  obtain rfl:u=Value.ref e:=rx
  obtain ⟨mA,ns,r,_⟩:=XD.get I1.hok h2
  obtain ⟨u',hu,ru⟩:=RelO.some_of (v:=v) (o:=mA name) (by rw [<- h3]; exact r name)
  obtain ⟨od,ho,hl⟩:=jH ns
  have J:PySem.W.InstAt s1.heap e oe C (some od):=⟨(I1.pin (e,oe) (List.mem_append_left _ hp)).1,hc,by unfold PySem.W.notCls; rw [hd],by rw [h1]; exact ho⟩
  exact zcD I1.kIn J M.ga M.ha M.sb (PySem.W.findObj_own hh hn rfl (by rw [hl,hu])) (jJ ru) ⟨v,H1,I1.tok _,ru,q⟩
theorem zaw (hp:(e,oe)∈X.pn) (M:XCl X.K C f) (hn:PySem.W.findIn X.K (.ref C) name=some none) (hh:PySem.W.hasDictIn X.K C=true) (he:jE X ex te) (hb:attributeBase ex name X.env (eval ex X.env)=eval ex X.env:=by rfl) :
    jE X (.Attribute ex name pos) (zbE C e oe te name):=⟨zav hp M hn hh he.out hb⟩
end
section
variable {X:Cx} {Ch:Addr} {x n:Str} {i k:Nat} {np hpos tpos:Pos} {b0:Stmt} {suite:List Stmt} {th:Addr->Obj->TS} {ps:List Str} {sp:Sp} {y:Str} {p cpos epos:Pos} {a:Expr} {as:List Expr} {t:TA}
theorem Je (F:Ca X.prog X.w X.K X.mg X.base (CXf X.prog X.w) k y ps sp) (hr:Room k X.A) (hgf:Gl X y) (ha:jA X (a :: as) t)
    (hN:X.N.Nodup) (hi:X.N[i]?=some n) (hg:Gl X x) (hm:X.mg x=some (.ref Ch)) (hS:∀ e oe,jSs (X.inEx (.ref e) [(e,oe)]) (b0 :: suite) (th e oe)) (hl:X.env.scope.names.lookup n=some .local:=by rfl) (hst:X.stack=X.env :: X.outer:=by rfl) (hf:X.env.frame=some X.env.locals:=by rfl) (hnx:X.xe=fun _ _=>False:=by rfl)
    (hdf:(y == ("__debug__":Str))=false:=by decide) (hdb:(x == ("__debug__":Str))=false:=by decide) (h1:zm a=false:=by rfl) (h2:as.all (fun e=>!zm e)=true:=by rfl)
    (hs:swapsWith (.Call (.Name y p) (a :: as) [] cpos) none epos.line X.env=pure false:=by rfl) :
    jS X (.Try [.Expr (.Call (.Name y p) (a :: as) [] cpos) epos] [.ExceptHandler (some (.Name x np)) (some n) (b0 :: suite) hpos] [] [] tpos) (tTry X.K Ch i sp t th) :=
  let ⟨_,_,G,b,kp,mg⟩:=F.ex
  ⟨zcH G hr hgf mg kp b ha.out hN hi hl hst hf hg hm hnx (fun e oe=>(hS e oe).out) hdf hdb h1 h2 hs⟩
end
end L2
namespace L2
open PySem PySem.Spec PyProof.Rows
section
variable {P:Program} {w:World} {A:Around} {E:Value->Shared->Prop}
theorem zbF {j l:Addr} {xs:Array Value} (ne:l≠j):∀ (k i:Nat) (s:Shared) (Q:List Value->Shared->Prop),s.heap.IsListIter j l i->s.heap.IsList l xs->i + k<=xs.size ->
    (∀ h',h'.IsListIter j l (i + k)->Heap.SameBut j s.heap h'->Q ((xs.toList.drop i).take k) { s with heap:=h' })->wpAny (model P w) A (draw (.ref j) k) Q E s
  | 0,i,s,Q,hj,_,_,q=>wpAny_pure (by simpa using q s.heap hj (Heap.SameBut.refl ..))
  | k + 1,i,s,Q,hj,hl,le,q=>by
    have lt:i < xs.size:=by lia
    refine wpAny_bind (m:=pyNext (.ref j)) (wpAny_pyNext_list_item hj hl (Array.getElem?_eq_getElem lt) fun h1 j1 u1=>?_)
    refine wpAny_bind (wpAny_holding (zbF ne k (i + 1) _ _ j1 (hl.extBut u1.extBut ne) (by lia) fun h2 j2 u2=>wpAny_pure ?_))
    have e:xs.toList.drop i=xs[i] :: xs.toList.drop (i + 1):=by simp [List.drop_eq_getElem_cons,lt]
    have r:=q h2 (by rw [show i + (k + 1)=i + 1 + k by lia]; exact j2) (u1.trans u2)
    rw [e,List.take_succ_cons] at r
    exact r
theorem zax {s:Shared} {l:Addr} {xs:Array Value} {ts:List (Bool × (Value->Sem Unit))} {Q:Unit->Shared->Prop} (hA:A.handled=none) (hl:s.heap.IsList l xs) (hn:ts.length=xs.size) (hs:ts.findIdx? (·.1)=none)
    (q:∀ h',Heap.ExtBut s.heap.objs.size s.heap h'->wpAny (model P w) A (assignInOrder (ts.map (·.2)) xs.toList) Q E { s with heap:=h' }):wpAny (model P w) A (unpack (.ref l) ts) Q E s:=by
  have ne:l≠s.heap.objs.size:=by
    obtain ⟨o,ho,_⟩:=hl
    exact Nat.ne_of_lt (Heap.lt_size ho)
  unfold unpack
  rw [hn,hs]
  refine wpAny_bind (wpAny_holding ?_)
  unfold unpackItems
  refine wpAny_bind ?_
  unfold notIterableAtAll
  refine wpAny_bind (wpAny_specialOf hl.typeIs slot_list_iter.lookup (wpAny_pure ?_))
  simp only [Bool.false_eq_true,if_false]
  refine wpAny_bind (wpAny_holding (wpAny_pyIter_list hl ?_))
  refine wpAny_bind (wpAny_holding (zbF ne xs.size 0 _ _ ⟨_,Heap.get?_push_size _ rfl,rfl,rfl⟩ (hl.push _) (by lia) fun h1 j1 u1=>?_))
  have all:List.take xs.size (List.drop 0 xs.toList)=xs.toList:=by rw [List.drop_zero]; exact List.take_of_length_le (by simp)
  rw [all,if_neg (by simp)]
  refine wpAny_bind (wpAny_holding (wpAny_pyNext_list_end hA j1 ((hl.push _).extBut u1.extBut ne) (by simp) fun h2 e2=>?_))
  simp only [Option.isSome_none,Bool.false_eq_true,if_false]
  exact wpAny_pure (q h2 fun b o hb e=>e2 b o hb (u1.extBut b o hb (Heap.get?_push_of_some _ e)))
end
section
variable {X:Cx} {pos:Pos}
def gLst (K:PySem.W.Frag) (n:Nat) (t:TGs):TG:=fun v σ H Q=>∃ a xs,v=.ref a/\SqL K H a xs/\xs.length=n/\t xs σ H Q
theorem zcL {es:List Expr} {k:Nat} {t:TGs} {n:Nat} (hc:X.calm=true) (h:PGs X es t)
    (hn:(assignEach es X.env).length=n:=by rfl) (hst:(assignEach es X.env).findIdx? (·.1)=none:=by rfl):PG X (.Tuple es k pos) (gLst X.K n t):=by
  intro pins s σ H v u Q I r g
  obtain ⟨a,xs,rfl,hq,hl,g⟩:=g
  cases r
  obtain ⟨its,rv,p,hz⟩:=I.list hq
  rw [assign_Tuple]
  refine wpAny_bind (wpAny_standAt (zax (I.ok.hd hc) p.isList (by simp [hn,<- hl,rv.length]) hst fun h' hx=>?_))
  have I1:Inv X pins σ H { s with heap:=h' }:=I.kept (t':=s.toks) fun b o e=>hx b o (Nat.ne_of_lt (Heap.lt_size e)) e
  exact h pins _ σ H xs _ Q I1 (by simpa using rv) g
theorem zcM {es:List Expr} {k:Nat} {gs:TGs} {n:Nat} (hc:X.calm=true) (h:jGs X es gs) (hn:(assignEach es X.env).length=n:=by rfl) (hst:(assignEach es X.env).findIdx? (·.1)=none:=by rfl):jG X (.Tuple es k pos) (gLst X.K n gs):=⟨zcL hc h.out hn hst⟩
end
end L2
namespace L2
open PySem
theorem zdr:sizeLine=16777216:=by decide
theorem Y7 {u:Value} {x:V} (h:absV u=some x):RelV x u:=by
  cases u <;> first
    | (cases h; rfl)
    | (cases h; exact ⟨_,rfl⟩)
    | (cases h)
theorem vi:∀ {us:List Value} {xs:List V},us.map absV=xs.map some->Vals xs us
  | [],[],_=>.nil
  | [],_ :: _,h=>by cases h
  | _ :: _,[],h=>by cases h
  | u :: us,x :: xs,h=>by
    rw [List.map_cons,List.map_cons] at h
    injection h with h1 h2
    exact .cons (Y7 h1) (vi h2)
def FnIn (K:PySem.W.Frag) (x qual:Str) (st:Stmt) (f:Addr):Prop:=∃ (oc:Value) (od:Option Addr) (kV doc pm:Value) (an:Option Addr) (cdv ct:Value) (osl:Array (Option Value)),K.lookup f=some ⟨oc,od,.func (PySem.W.fnOf x qual (yD st) (yp st) (zj st) .none kV doc pm an cdv ct),osl⟩/\PySem.W.codeIn K cdv qual=true/\PySem.W.keepIn K (.ref f)=true
theorem FnIn.fn {K:PySem.W.Frag} {x qual:Str} {st:Stmt} {f:Addr} (h:FnIn K x qual st f):∃ fd,Fun K x qual st f fd/\PySem.W.keepIn K (.ref f)=true:=by
  obtain ⟨_,_,_,_,_,_,_,_,_,l,c,k⟩:=h
  exact ⟨_,VV l c k,k⟩
def DfIn (K:PySem.W.Frag) (x:Str) (st:Stmt):Prop:=∃ f,PySem.W.nsIn K mainGlobals x=some (some (.ref f))/\FnIn K x x st f
def MeIn (K:PySem.W.Frag) (C:Addr) (x qual:Str) (st:Stmt):Prop:=∃ f,PySem.W.findIn K (.ref C) x=some (some (.ref f))/\PySem.W.isFn K (.ref f)=true/\FnIn K x qual st f
def TpIn (K:PySem.W.Frag) (x:Str) (l:List Str):Prop:=∃ (a:Addr) (d:Option Addr) (it:Array Value) (n:Nat) (sl:Array (Option Value)),PySem.W.nsIn K mainGlobals x=some (some (.ref a))/\K.lookup a=some ⟨.type "tuple",d,.seq it n,sl⟩/\it.toList.map absV=l.map fun x=>some (.str x)
theorem TpIn.sq {K:PySem.W.Frag} {x:Str} {l:List Str} (h:TpIn K x l) (hl:l.length<=100):∃ a,PySem.W.nsIn K mainGlobals x=some (some (.ref a))/\∀ H:Hp,SqT K H a (l.map V.str):=by
  obtain ⟨a,d,it,n,sl,h1,h2,h3⟩:=h
  refine ⟨a,h1,fun H=>.inr ⟨_,it,n,h2,rfl,rfl,?_,vi (by rw [h3,List.map_map]; rfl)⟩⟩
  have e:=congrArg List.length h3
  rw [List.length_map,List.length_map,Array.length_toList] at e
  have sl:=zdr
  lia
theorem MeIn.me {P:Program} {w:World} {K:PySem.W.Frag} {mg:Str->Option Value} {base:Heap} {CX:CXT} {k:Nat} {C:Addr} {x qual:Str} {st:Stmt} {ps:List Str} {sp:Sp} (h:MeIn K C x qual st) (hb:∀ (kV doc pm:Value) (an:Option Addr) (cdv ct:Value) (us:List Value),us.length=ps.length->bindArgs (PySem.W.fnOf x qual (yD st) (yp st) (zj st) .none kV doc pm an cdv ct) ⟨us,[]⟩=pure (ps.zip us))
    (ok:∀ f fd,Fun K x qual st f fd->FnOk P w K mg base CX k f fd ps sp):Me P w K mg base CX k C x ps sp:=by
  obtain ⟨f,a,n,g⟩:=h
  obtain ⟨fd,F,kp⟩:=g.fn
  exact ⟨f,fd,ok f fd F,F.binds hb,a,n,kp⟩
theorem MeIn.ma {P:Program} {w:World} {K:PySem.W.Frag} {mg:Str->Option Value} {base:Heap} {CX:CXT} {k:Nat} {C:Addr} {x qual:Str} {st:Stmt} {ps:List Str} {sp:Sp} (h:MeIn K C "__init__" qual st) (hb:∀ (kV doc pm:Value) (an:Option Addr) (cdv ct:Value) (us:List Value),us.length=ps.length->bindArgs (PySem.W.fnOf "__init__" qual (yD st) (yp st) (zj st) .none kV doc pm an cdv ct) ⟨us,[]⟩=pure (ps.zip us))
    (mk:PySem.W.makesIn K C=true) (kp:PySem.W.keepIn K (.ref C)=true) (hm:mg x=some (.ref C)) (ok:∀ f fd,Fun K "__init__" qual st f fd->FnOk P w K mg base CX k f fd ps sp):Ma P w K mg base CX k x C ps sp:=by
  obtain ⟨f,a,n,g⟩:=h
  obtain ⟨fd,F,_⟩:=g.fn
  exact ⟨f,fd,⟨mk,a,n,kp⟩,ok f fd F,F.binds hb,hm⟩
theorem DfIn.ca {P:Program} {w:World} {K:PySem.W.Frag} {mg:Str->Option Value} {base h:Heap} {CX:CXT} {k:Nat} {x:Str} {st:Stmt} {ps:List Str} {sp:Sp} (X:K.In h) (G:h.Ns mainGlobals mg) (d:DfIn K x st) (hb:∀ (kV doc pm:Value) (an:Option Addr) (cdv ct:Value) (us:List Value),us.length=ps.length->bindArgs (PySem.W.fnOf x x (yD st) (yp st) (zj st) .none kV doc pm an cdv ct) ⟨us,[]⟩=pure (ps.zip us))
    (ok:∀ f fd,Fun K x x st f fd->FnOk P w K mg base CX k f fd ps sp):Ca P w K mg base CX k x ps sp:=by
  obtain ⟨f,a,g⟩:=d
  obtain ⟨fd,F,kp⟩:=g.fn
  exact ⟨f,fd,ok f fd F,F.binds hb,kp,PySem.W.mg_of X G a⟩
theorem DfIn.mk {K:PySem.W.Frag} {x:Str} {st:Stmt} {f:Addr} {oc:Value} {od:Option Addr} {kV doc pm:Value} {an:Option Addr} {cdv ct:Value} {osl:Array (Option Value)} (a:PySem.W.nsIn K mainGlobals x=some (some (.ref f))) (l:K.lookup f=some ⟨oc,od,.func (PySem.W.fnOf x x (yD st) (yp st) (zj st) .none kV doc pm an cdv ct),osl⟩) (c:PySem.W.codeIn K cdv x=true) (k:PySem.W.keepIn K (.ref f)=true):DfIn K x st:=⟨f,a,oc,od,kV,doc,pm,an,cdv,ct,osl,l,c,k⟩
theorem MeIn.mk {K:PySem.W.Frag} {C:Addr} {x qual:Str} {st:Stmt} {f:Addr} {oc:Value} {od:Option Addr} {kV doc pm:Value} {an:Option Addr} {cdv ct:Value} {osl:Array (Option Value)} (a:PySem.W.findIn K (.ref C) x=some (some (.ref f))) (l:K.lookup f=some ⟨oc,od,.func (PySem.W.fnOf x qual (yD st) (yp st) (zj st) .none kV doc pm an cdv ct),osl⟩) (c:PySem.W.codeIn K cdv qual=true) (k:PySem.W.keepIn K (.ref f)=true) (n:PySem.W.isFn K (.ref f)=true):MeIn K C x qual st:=⟨f,a,n,oc,od,kV,doc,pm,an,cdv,ct,osl,l,c,k⟩
theorem TpIn.mk {K:PySem.W.Frag} {x:Str} {l:List Str} {b:Addr} {d:Option Addr} {it:Array Value} {n:Nat} {sl:Array (Option Value)} (a:PySem.W.nsIn K mainGlobals x=some (some (.ref b))) (k:K.lookup b=some ⟨.type "tuple",d,.seq it n,sl⟩) (v:it.toList.map absV=l.map fun x=>some (.str x)):TpIn K x l:=⟨b,d,it,n,sl,a,k,v⟩
theorem GlIn.mk {K:PySem.W.Frag} {x:Str} {z:Str} {v:Value} {t:Tok} (a:PySem.W.nsIn K mainGlobals x=some (some v)) (e:v=.str z t):∃ t,PySem.W.nsIn K mainGlobals x=some (some (.str z t)):=⟨t,by rw [a,e]⟩
theorem GiIn.mk {K:PySem.W.Frag} {x:Str} {i:Int} {v:Value} {t:Tok} (a:PySem.W.nsIn K mainGlobals x=some (some v)) (e:v=.int i t):∃ t,PySem.W.nsIn K mainGlobals x=some (some (.int i t)):=⟨t,by rw [a,e]⟩
theorem XcIn.mk {K:PySem.W.Frag} {C f:Addr} (a:PySem.W.findIn K (.ref C) "__init__"=some (some (.ref f))) (b:xIn K C f=true) (c:PySem.W.typeIn K (.ref f)=some (.type "function")):∃ f,PySem.W.findIn K (.ref C) "__init__"=some (some (.ref f))/\xIn K C f=true/\PySem.W.typeIn K (.ref f)=some (.type "function"):=⟨f,a,b,c⟩
structure OwnIn (K:PySem.W.Frag) (x:Str) (C:Addr):Prop where
  n:PySem.W.nsIn K mainGlobals x=some (some (.ref C))
  pg:PySem.W.plainGet K C Str.empty=true
  hd:PySem.W.hasDictIn K C=true
  po:PySem.W.plainOver K C=true
  sa:PySem.W.findIn K (.ref C) "__setattr__"=some (some (.builtin "object.__setattr__"))
  mks:PySem.W.makesIn K C=true
  kp:PySem.W.keepIn K (.ref C)=true
theorem OwnIn.cls {K:PySem.W.Frag} {x:Str} {C:Addr} (o:OwnIn K x C):Cls K C:=⟨o.pg,o.hd,o.po,o.sa⟩
def j4 (K:PySem.W.Frag):Sp:=fun vs H Q _=>∃ (a:Addr) (ns:List Int),vs=[.ref a]/\SqL K H a (ns.map V.int)/\ns.length<=63/\∀ H',Q (.bl true) H'
theorem zcN {l:PySem.W.OpenLaw} {w:World} {K:PySem.W.Frag} {h:Heap} {mg:Str->Option Value} {fa:Addr} {st:Stmt} {k:Nat} (d:DfIn K "law" st) (X:K.In h) (G:h.Ns mainGlobals mg) (hfa:mg "law"=some (.ref fa))
    (hb:∀ (kV doc pm:Value) (an:Option Addr) (cdv ct:Value) (s:Shared) (u:Value),BindsTo s (PySem.W.fnOf "law" "law" (yD st) (yp st) (zj st) .none kV doc pm an cdv ct) ⟨[u],[]⟩ [("_law_script",u)])
    (ok:∀ (base:Heap) (fd:FuncData),Fun K "law" "law" st fa fd->FnOk l.prog w K mg base CX0 k fa fd ["_law_script"] (j4 K)) :
    ∃ fd:FuncData,(∀ (s:Shared) (u:Value),BindsTo s fd ⟨[u],[]⟩ [("_law_script",u)])/\∀ base:Heap,K.In base->base.Ns mainGlobals mg->FnOk l.prog w K mg base CX0 k fa fd ["_law_script"] (j4 K):=by
  obtain ⟨fl,al,oc,od,kV,doc,pm,an,cdv,ct,osl,lk,cc,kk⟩:=d
  have e:fl=fa:=by
    have:=PySem.W.mg_of X G al
    rw [hfa] at this
    injection this with this
    injection this with this
    exact this.symm
  subst e
  exact ⟨_,fun s v=>hb _ _ _ _ _ _ s v,fun base _ _=>ok base _ (VV (st:=st) lk cc kk)⟩
theorem walk1 {l:PySem.W.OpenLaw} {q:Program} {loose:List Str} {XP:(Str->Option Value)->Heap->Prop} {YP:World->Heap->Prop} {d:DefRec} {K:Params->PySem.W.Frag} {k:Nat} (hn:l.most=some 63) (hr:Room k callerA) (hdf:d.params.defaults=[]) (hnm:d.name="law")
    (hY:∀ (w:World) (h:Heap),YP w h->(K w.params).In h)
    (F:∀ (w:World) (mg:Str->Option Value) (fa:Addr) (h:Heap),(K w.params).In h->h.Ns mainGlobals mg->mg "law"=some (.ref fa)->∃ fd:FuncData,(∀ (s:Shared) (u:Value),BindsTo s fd ⟨[u],[]⟩ [("_law_script",u)])/\∀ base:Heap,(K w.params).In base->base.Ns mainGlobals mg->FnOk l.prog w (K w.params) mg base CX0 k fa fd ["_law_script"] (j4 (K w.params))) :
    PySem.W.WalkO q loose XP YP l.row.toRowW d [] (fun f vs=>PySem.call f vs) :=
  L2.walk_of (n:=63) (k:=k) (x:="_law_script") (CX:=fun _=>CX0) (sp:=fun w=>j4 (K w.params)) hn (by decide) hdf hr hY (fun w mg fa h X G hm=>F w mg fa h X G (by rw [hnm] at hm; exact hm)) (fun _ _ a ns hl _ hS=>⟨a,ns,rfl,hS,hl,fun _=>rfl⟩) fun _ _ _ _ _ z=>z
theorem usS {n:Nat} {p:List Value->Prop} (h:∀ a us,us.length=n->p (a :: us)):∀ us:List Value,us.length=n + 1->p us:=fun us=>by
  cases us with
  | nil=>exact fun e=>by cases e
  | cons a r=>exact fun e=>h a r (Nat.succ.inj e)
theorem us1 {p:List Value->Prop} (h:∀ a,p [a]):∀ us:List Value,us.length=1->p us:=usS fun a us e=>by rw [List.length_eq_zero_iff.mp e]; exact h a
theorem us2 {p:List Value->Prop} (h:∀ a b,p [a,b]):∀ us:List Value,us.length=2->p us:=usS fun a=>us1 (p:=fun l=>p (a :: l)) (h a)
theorem us3 {p:List Value->Prop} (h:∀ a b c,p [a,b,c]):∀ us:List Value,us.length=3->p us:=usS fun a=>us2 (p:=fun l=>p (a :: l)) (h a)
end L2
namespace K11
open PySem
def sg (c:Nat):Str:=⟨#[c]⟩
def inS (c j:Str):Bool:=!(Builtin.Str.occurrences j c 0 j.length 1).isEmpty
def signs (z:Str):List Str:=z.cps.toList.map sg
def y8 (z j:Str):Bool:=(signs z).all (inS · j)
theorem W3 (z:Str):(signs z).length=z.length:=by simp [signs,Str.length]
theorem vO (x:Str) (d:Nat):Txt.startswith x (sg d)=(x.cps[0]? == some d):=by
  obtain ⟨⟨l⟩⟩:=x
  cases l with
  | nil=>simp [Txt.startswith,Str.length,sg]
  | cons c r=>simp [Txt.startswith,Builtin.Str.subAt,sg,Str.length]
theorem vP (a:Array Nat):∀ (k:Nat) (acc:Array Nat),((List.replicate k a).foldl (· ++ ·) acc).size=acc.size + k * a.size
  | 0,acc=>by simp
  | k + 1,acc=>by
    rw [List.replicate_succ,List.foldl_cons,vP a k,Array.size_append,Nat.add_mul]
    lia
theorem zay {z:Str} {n:Int} (hz:z.length=1):(Txt.mul z n).length<=n.toNat:=by
  unfold Txt.mul
  split
  · simp [Str.empty,Str.length]
  · rename_i h
    split
    · rw [hz]; lia
    · show ((List.replicate n.toNat z.cps).foldl (· ++ ·) #[]).size<=n.toNat
      have e:z.cps.size=1:=hz
      rw [vP,e]
      simp
theorem Jf {z:Str} {n:Int} (hz:z.length=1) (h0:0<=n) (h1:n<=1000):MulOk z n:=by
  have hs:sizeLine=16777216:=by decide
  refine ⟨?_,fun a b=>?_,fun a b=>?_⟩
  · have e1:decide (n < -(2 ^ 63:Int))=false:=decide_eq_false (by lia)
    have e2:decide (n ≥ 2 ^ 63)=false:=decide_eq_false (by lia)
    rw [e1,e2]; rfl
  · rw [hz]
    have:(1:Int)<=(2 ^ 63 - 1) / n:=Int.le_ediv_of_mul_le (by lia) (by lia)
    intro c
    have c':(1:Int) > (2 ^ 63 - 1) / n:=c
    lia
  · rw [hz]
    unfold Builtin.Str.tooLong
    exact decide_eq_false (by rw [hs]; lia)
end K11
namespace K11
open PySem PySem.Spec PyProof.Rows Builtin Builtin.Str
abbrev cl (z:Str):List Nat:=z.cps.toList
theorem yF {x y:Str} (h:cl x=cl y):x=y:=by
  obtain ⟨⟨a⟩⟩:=x
  obtain ⟨⟨b⟩⟩:=y
  have e:a=b:=h
  rw [e]
theorem zZ (z:Str):(cl z).length=z.length:=by simp [Str.length]
theorem xt (x y:Str):cl (x ++ y)=cl x ++ cl y:=by
  show (x.cps ++ y.cps).toList=_
  simp
theorem inS_iff {c:Nat} {j:Str}:inS (sg c) j=true↔c∈cl j:=by
  unfold inS sg
  rw [StrLaws.found_iff]
  constructor
  · rintro ⟨i,h⟩
    exact List.mem_of_getElem? ((StrLaws.subAt_one j c i).mp h)
  · intro h
    obtain ⟨i,hi⟩:=List.getElem?_of_mem h
    exact ⟨i,(StrLaws.subAt_one j c i).mpr hi⟩
theorem madeOf_iff {z j:Str}:y8 z j=true↔∀ c∈cl z,c∈cl j:=by
  unfold y8 signs
  rw [List.all_eq_true]
  constructor
  · intro h c hc
    exact inS_iff.mp (h _ (List.mem_map.mpr ⟨c,hc,rfl⟩))
  · intro h x hx
    obtain ⟨c,hc,rfl⟩:=List.mem_map.mp hx
    exact inS_iff.mpr (h c hc)
def cutAt (n:Nat):Option Int->Nat->Nat
  | none,d=>d
  | some i,_=>if i < 0 then (i + n).toNat else min i.toNat n
theorem wq {n:Nat} {o:Option Int} {d:Nat} (hd:d<=n):cutAt n o d<=n:=by
  cases o with
  | none=>exact hd
  | some i =>
    show (if i < 0 then (i + n).toNat else min i.toNat n)<=n
    by_cases c:i < 0
    · rw [if_pos c]; lia
    · rw [if_neg c]; lia
theorem X6 {n:Nat} {i:Int}:max 0 (min (if i < 0 then i + n else i) (n:Int))=((cutAt n (some i) 0:Nat):Int):=by
  show _=(((if i < 0 then (i + n).toNat else min i.toNat n):Nat):Int)
  by_cases c:i < 0
  · rw [if_pos c,if_pos c]; lia
  · rw [if_neg c,if_neg c]; lia
theorem vt {n a:Nat} (h:a<=n):max 0 (min (if (a:Int) < 0 then (a:Int) + n else (a:Int)) (n:Int))=(a:Int):=by
  rw [if_neg (by lia)]; lia
theorem zaz (n:Nat) (lo hi:Option Int):strSliceIndices lo hi 1 n=strSliceIndices (some (cutAt n lo 0:Nat)) (some (cutAt n hi n:Nat)) 1 n:=by
  have h1:cutAt n lo 0<=n:=wq (Nat.zero_le _)
  have h2:cutAt n hi n<=n:=wq (Nat.le_refl _)
  unfold strSliceIndices
  dsimp only
  simp only [show ((1:Int) > 0)=True from eq_true (by decide),if_true]
  rw [vt h1,vt h2]
  congr 1
  · cases lo with
    | none=>rfl
    | some i=>exact X6
  · cases hi with
    | none=>rfl
    | some i=>exact X6
theorem Jg {a b n:Nat} (h:b < a) (ha:a<=n):strSliceIndices (some (a:Int)) (some (b:Int)) 1 n=[]:=by
  unfold strSliceIndices
  dsimp only
  simp only [show ((1:Int) > 0)=True from eq_true (by decide),if_true]
  rw [vt ha,vt (by lia)]
  unfold sliceRange
  have c:¬ ((a:Int) < b):=by lia
  simp [c]
theorem vQ (z:Str) (lo hi:Option Int):cl (Txt.slice z lo hi)=((cl z).drop (cutAt z.length lo 0)).take (cutAt z.length hi z.length - cutAt z.length lo 0):=by
  have h1:cutAt z.length lo 0<=z.length:=wq (Nat.zero_le _)
  have h2:cutAt z.length hi z.length<=z.length:=wq (Nat.le_refl _)
  unfold Txt.slice
  rw [zaz z.length lo hi]
  have zl:=zZ z
  by_cases c:cutAt z.length lo 0<=cutAt z.length hi z.length
  · have e:=StrLaws.sliced_plain z c h2
    have el:(strSliceIndices (some (cutAt z.length lo 0:Nat)) (some (cutAt z.length hi z.length:Nat)) 1 z.length).length=cutAt z.length hi z.length - cutAt z.length lo 0:=by rw [StrLaws.strSliceIndices_plain c h2]; simp
    rw [el]
    by_cases q:cutAt z.length hi z.length - cutAt z.length lo 0=z.length
    · rw [if_pos (by simp [q])]
      have a0:cutAt z.length lo 0=0:=by lia
      rw [a0,List.drop_zero,List.take_of_length_le (by lia)]
    · rw [if_neg (by simp [q])]
      simpa using e
  · have n0:cutAt z.length hi z.length - cutAt z.length lo 0=0:=by lia
    rw [Jg (by lia) h1,n0,List.take_zero]
    rw [if_neg (by simp; lia)]
    rfl
theorem zt {sep x y:Str} {r:List Str}:cl (Str.join sep (x :: y :: r))=cl x ++ (cl sep ++ cl (Str.join sep (y :: r))):=by
  show cl (x ++ sep ++ Str.join sep (y :: r))=_
  rw [xt,xt,List.append_assoc]
theorem vR {c:Nat}:∀ {a b r t:List Nat},c ∉ a->c ∉ b->a ++ c :: r=b ++ c :: t->a=b/\r=t
  | [],[],_,_,_,_,h=>by simpa using h
  | [],y :: b,_,_,_,hb,h=>by
    injection h with h1 _
    exact absurd h1 (fun e=>hb (by rw [e]; exact List.mem_cons_self))
  | x :: a,[],_,_,ha,_,h=>by
    injection h with h1 _
    exact absurd h1.symm (fun e=>ha (by rw [e]; exact List.mem_cons_self))
  | x :: a,y :: b,r,t,ha,hb,h=>by
    injection h with h1 h2
    obtain ⟨e1,e2⟩:=vR (fun z=>ha (List.mem_cons_of_mem _ z)) (fun z=>hb (List.mem_cons_of_mem _ z)) h2
    exact ⟨by rw [h1,e1],e2⟩
theorem Yh {c:Nat}:∀ {ps qs:List Str},ps≠[]->qs≠[]->(∀ p∈ps,c ∉ cl p)->(∀ q∈qs,c ∉ cl q)->Str.join (sg c) ps=Str.join (sg c) qs->ps=qs
  | [],_,h,_,_,_,_=>absurd rfl h
  | _,[],_,h,_,_,_=>absurd rfl h
  | [p],[q],_,_,_,_,h=>by
    have h':p=q:=h
    rw [h']
  | [p],q :: q2 :: qs,_,_,hp,_,h=>by
    have e:=congrArg cl h
    rw [zt] at e
    have e':cl p=cl q ++ ([c] ++ cl (Str.join (sg c) (q2 :: qs))):=e
    exact absurd (show c∈cl p by rw [e']; simp) (hp p List.mem_cons_self)
  | p :: p2 :: ps,[q],_,_,_,hq,h=>by
    have e:=congrArg cl h
    rw [zt] at e
    have e':cl p ++ ([c] ++ cl (Str.join (sg c) (p2 :: ps)))=cl q:=e
    exact absurd (show c∈cl q by rw [<- e']; simp) (hq q List.mem_cons_self)
  | p :: p2 :: ps,q :: q2 :: qs,_,_,hp,hq,h=>by
    have e:=congrArg cl h
    rw [zt,zt] at e
    obtain ⟨e1,e2⟩:=vR (c:=c) (hp p List.mem_cons_self) (hq q List.mem_cons_self) e
    have ih:=Yh (c:=c) (ps:=p2 :: ps) (qs:=q2 :: qs) (by simp) (by simp) (fun x hx=>hp x (List.mem_cons_of_mem _ hx)) (fun x hx=>hq x (List.mem_cons_of_mem _ hx)) (yF e2)
    rw [yF e1,ih]
theorem wb {c:Nat} {ws:List Str} (h0:ws≠[]) (hw:∀ x∈ws,c ∉ cl x):Txt.split (Str.join (sg c) ws) (sg c)=ws:=by
  refine Yh (c:=c) (fun e=>?_) h0 (StrLaws.split_free _ c) hw (StrLaws.join_split _ _)
  have:=split_pos (Str.join (sg c) ws) (sg c)
  rw [e] at this
  simp at this
theorem vS {c d:Nat}:∀ {ws:List Str},d∈cl (Str.join (sg c) ws)->d=c\/∃ x∈ws,d∈cl x
  | [],h=>by
    have h':d∈([]:List Nat):=h
    cases h'
  | [x],h=>.inr ⟨x,List.mem_cons_self,h⟩
  | x :: y :: r,h=>by
    rw [zt] at h
    rcases List.mem_append.mp h with h | h
    · exact .inr ⟨x,List.mem_cons_self,h⟩
    · rcases List.mem_append.mp h with h | h
      · exact .inl (List.mem_singleton.mp h)
      · rcases vS h with h | ⟨z,hz,hd⟩
        · exact .inl h
        · exact .inr ⟨z,List.mem_cons_of_mem _ hz,hd⟩
theorem Yi {c:Nat}:∀ {ws:List Str} {vs:List Str},ws≠[]->vs≠[]->cl (Str.join (sg c) (ws ++ vs))=cl (Str.join (sg c) ws) ++ c :: cl (Str.join (sg c) vs)
  | [],_,h,_=>absurd rfl h
  | [x],v :: vs,_,_=>by
    show cl (Str.join (sg c) (x :: v :: vs))=_
    rw [zt]
    rfl
  | x :: y :: r,vs,_,hv=>by
    have ih:=Yi (c:=c) (ws:=y :: r) (vs:=vs) (by simp) hv
    show cl (Str.join (sg c) (x :: y :: (r ++ vs)))=_
    rw [zt,zt]
    have e:cl (Str.join (sg c) (y :: (r ++ vs)))=_:=ih
    rw [e]
    simp
theorem Yj {c:Nat}:∀ {ws:List Str} {k:Nat},(∀ x∈ws,x.length<=k)->(Str.join (sg c) ws).length<=ws.length * (k + 1)
  | [],_,_=>by simp [Str.join,Str.length]; rfl
  | [x],k,h=>by
    have:=h x List.mem_cons_self
    show x.length<=_
    simp; lia
  | x :: y :: r,k,h=>by
    have h1:=h x List.mem_cons_self
    have ih:=Yj (c:=c) (ws:=y :: r) (k:=k) fun z hz=>h z (List.mem_cons_of_mem _ hz)
    rw [<- zZ,zt,List.length_append,List.length_append,zZ,zZ,zZ]
    have:(sg c).length=1:=rfl
    simp only [List.length_cons,Nat.add_mul,Nat.one_mul] at ih ⊢
    lia
end K11
namespace K11
open PySem PySem.Spec PyProof.Rows Builtin Builtin.Str NumText
theorem Yk (m:Nat):AllDigits ((Nat.toDigits 10 m).map Char.toNat):=by
  induction m using Nat.strongRecOn with
  | _ m ih =>
    by_cases h:m < 10
    · rw [Nat.toDigits_of_lt_base h]
      intro c hc
      rw [List.map_singleton,List.mem_singleton] at hc
      have:∀ d:Nat,d < 10->48<=(Nat.digitChar d).toNat/\(Nat.digitChar d).toNat<=57:=by decide
      rw [hc]
      exact this m h
    · rw [Nat.toDigits_of_base_le (by decide) (by lia),List.map_append]
      intro c hc
      rcases List.mem_append.mp hc with hc | hc
      · exact ih (m / 10) (by lia) c hc
      · rw [List.map_singleton,List.mem_singleton] at hc
        have:∀ d:Nat,d < 10->48<=(Nat.digitChar d).toNat/\(Nat.digitChar d).toNat<=57:=by decide
        rw [hc]
        exact this (m % 10) (Nat.mod_lt _ (by decide))
theorem j5 (m:Nat) (h0:m≠0):∃ c r,(Nat.toDigits 10 m).map Char.toNat=c :: r/\49<=c:=by
  induction m using Nat.strongRecOn with
  | _ m ih =>
    by_cases h:m < 10
    · rw [Nat.toDigits_of_lt_base h]
      have:∀ d:Nat,d < 10->d≠0->49<=(Nat.digitChar d).toNat:=by decide
      exact ⟨_,[],rfl,this m h h0⟩
    · obtain ⟨c,r,e,hc⟩:=ih (m / 10) (by lia) (by lia)
      rw [Nat.toDigits_of_base_le (by decide) (by lia),List.map_append,e]
      exact ⟨c,_,rfl,hc⟩
theorem Jh (m:Nat):cl (Str.ofString (toString ((m:Nat):Int)))=(Nat.toDigits 10 m).map Char.toNat:=PySem.W.KIN.signs_num m
theorem Ji (m:Nat):cl (Str.ofString (toString (Int.negSucc m)))=45 :: (Nat.toDigits 10 (m + 1)).map Char.toNat:=by
  show (Str.ofString ("-" ++ Nat.repr (m + 1))).cps.toList=_
  rw [Str.ofString_eq_toList]
  show ("-" ++ Nat.repr (m + 1)).toList.map Char.toNat=_
  rw [String.toList_append,List.map_append]
  show [45] ++ (String.ofList (Nat.toDigits 10 (m + 1))).toList.map Char.toNat=_
  rw [String.toList_ofList]
  rfl
end K11
namespace L2
open PySem PySem.Spec PyProof.Rows
section
variable {X:Cx}
theorem jB:yM X (.type "int") (fun xs H Q=>∃ z n,xs=[.str z]/\PySem.intText? z=some n/\z.length<=640/\Q (.int n) H):=by
  intro pins s σ H xs us Q I r h
  obtain ⟨z,n,rfl,hn,hl,q⟩:=h
  obtain ⟨u,rfl,t,rfl⟩:=xR r
  exact PySem.W.KIN.call_text hn hl ⟨.int n,H,I.tok _,⟨_,rfl⟩,q⟩
theorem vj:jCa X (.type "int") (fun xs H Q=>∃ z n,xs=[.str z]/\PySem.intText? z=some n/\z.length<=640/\Q (.int n) H):=⟨jB⟩
end
end L2
namespace Rdr
open PySem L2
def top (i:Nat):Stmt:=PySem.Challenge.pw_reusewise_k15_refused_rows.main.body.getD i (.Pass ⟨0,0,0,0⟩)
abbrev ZH:Stmt:=yh (top 2) 0
abbrev Jj:Stmt:=top 20
abbrev Jk:Stmt:=top 21
abbrev ZI:Stmt:=top 22
abbrev Y8:Stmt:=yh (top 26) 0
abbrev ZJ:Stmt:=yh (top 26) 1
abbrev vT:Stmt:=yh (top 26) 2
abbrev wN:Stmt:=yh (top 26) 3
abbrev wO:Stmt:=yh (top 26) 4
abbrev xu:Stmt:=yh (top 26) 5
abbrev wP:Stmt:=yh (top 26) 6
abbrev Y9:Stmt:=yh (top 26) 7
abbrev ZK:Stmt:=yh (top 26) 8
abbrev Xb:Stmt:=yh (top 27) 0
abbrev Xc:Stmt:=yh (top 27) 1
abbrev Xd:Stmt:=yh (top 28) 0
abbrev Xe:Stmt:=yh (top 28) 1
abbrev Xf:Stmt:=yh (top 29) 0
abbrev Xg:Stmt:=yh (top 29) 1
abbrev X7:Stmt:=top 30
abbrev wQ:Stmt:=top 31
abbrev wR:Stmt:=top 32
abbrev vU:Stmt:=top 33
abbrev wS:Stmt:=top 34
abbrev Xh:Stmt:=top 35
abbrev wT:Stmt:=top 36
abbrev wU:Stmt:=top 37
abbrev ZL:Stmt:=top 47
abbrev Xi:Stmt:=top 48
abbrev ZM:Stmt:=top 49
abbrev vV:Stmt:=top 50
abbrev Xj:Stmt:=top 51
abbrev Xk:Stmt:=top 52
abbrev Jl:Stmt:=top 53
abbrev Xl:Stmt:=top 54
abbrev Xm:Stmt:=top 55
abbrev Xn:Stmt:=top 39
abbrev vW:Stmt:=top 40
abbrev ZN:Stmt:=top 41
abbrev vX:Stmt:=top 42
abbrev Xo:Stmt:=top 43
abbrev Xp:Stmt:=top 44
abbrev Xq:Stmt:=top 56
abbrev Jn:Stmt:=top 57
abbrev Xr:Stmt:=top 58
end Rdr
namespace Rd
open PySem
inductive D where
  | int (i:Int)
  | str (x:Str)
  | tup (ds:List D)
structure Lex where
  nm:Str->Bool
  nu:Str->Bool
  iv:Str->Int
  dg:Str->Option Nat
def OPS:List Str:=["plus","minus","times","over","rest","less","same"]
def DEEDS:List Str:=["make","call","func","ask"]
def «strs» (l:List Str):D:=.tup (l.map D.str)
section
variable (L:Lex)
def zn:List Str->Option (Str × List Str)
  | []=>none
  | w :: r=>if L.nm w=true then some (w,r) else none
def z7:List Str->Option (Int × List Str)
  | []=>none
  | w :: r=>if L.nu w=true then some (L.iv w,r) else none
def zK (stop:Str):List Str->List Str->Option (List Str × List Str)
  | _,[]=>none
  | acc,w :: r=>if w=stop then some (acc,r) else if acc.length < 9/\L.nm w=true then zK stop (acc ++ [w]) r else none
def deed:List Str->Option (D × List Str)
  | []=>none
  | w :: r =>
    if w="num" then (z7 L r).map fun p=>(.tup [.str "num",.int p.1],p.2)
    else if w∈OPS then (zn L r).bind fun p=>(zn L p.2).map fun q=>(.tup [.str "op",.str w,.str p.1,.str q.1],q.2)
    else if w∈DEEDS then (zn L r).bind fun p=>(zK L ";" [] p.2).map fun q=>(.tup [.str w,.str p.1,«strs» q.1],q.2)
    else none
def head (ws:List Str):Option ((Str × List Str) × List Str):=(zn L ws).bind fun p=>(zK L ":" [] p.2).map fun q=>((p.1,q.1),q.2)
inductive Fr where
  | lt (x:Str) (d:D)
  | if0 (x:Str)
  | if1 (x:Str) (b:D)
  | cs (x:Str) (arms:List D) (tag:Str) (names:List Str)
structure S where
  begun:List Fr
  body:Option D
  ws:List Str
def zE (st:List Fr):List Str->Option S
  | []=>none
  | w :: r =>
    if w="give" then (zn L r).map fun p=>⟨st,some (.tup [.str "give",.str p.1]),p.2⟩
    else if w="let" then (zn L r).bind fun p=>(deed L p.2).map fun q=>⟨.lt p.1 q.1 :: st,none,q.2⟩
    else if w="if" then (zn L r).map fun p=>⟨.if0 p.1 :: st,none,p.2⟩
    else if w="case" then (zn L r).bind fun p=>(head L p.2).map fun q=>⟨.cs p.1 [] q.1.1 q.1.2 :: st,none,q.2⟩
    else none
def fill (b:D) (st:List Fr):Fr->List Str->Option S
  | .lt x d,ws=>some ⟨st,some (.tup [.str "let",.str x,d,b]),ws⟩
  | .if0 x,ws=>match ws with
    | []=>none
    | w :: r=>if w="else" then some ⟨.if1 x b :: st,none,r⟩ else none
  | .if1 x a,ws=>some ⟨st,some (.tup [.str "if",.str x,a,b]),ws⟩
  | .cs x arms tag names,ws =>
    let arms':=arms ++ [.tup [.str tag,«strs» names,b]]
    match ws with
    | []=>none
    | w :: r=>if w="end" then some ⟨st,some (.tup [.str "case",.str x,.tup arms']),r⟩
      else if arms'.length < 20 then (head L (w :: r)).map fun q=>⟨.cs x arms' q.1.1 q.1.2 :: st,none,q.2⟩ else none
def step (s:S):Option S:=match s.body,s.begun with
  | none,st=>zE L st s.ws
  | some b,f :: st=>fill L b st f s.ws
  | some _,[]=>none
inductive Runs:Nat->S->Option (D × List Str)->Prop
  | done {b:D} {ws:List Str}:Runs 0 ⟨[],some b,ws⟩ (some (b,ws))
  | turn {n:Nat} {s s':S} {r:Option (D × List Str)}:(s.body=none\/s.begun≠[])->step L s=some s'->Runs n s' r->Runs (n + 1) s r
  | fail {s:S}:(s.body=none\/s.begun≠[])->step L s=none->Runs 0 s none
theorem Runs.det {L:Lex}:∀ {n m:Nat} {s:S} {r r':Option (D × List Str)},Runs L n s r->Runs L m s r'->n=m/\r=r':=by
  intro n m s r r' h
  induction h generalizing m r' with
  | done =>
    intro h'
    cases h' with
    | done=>exact ⟨rfl,rfl⟩
    | turn h _ _=>rcases h with h | h <;> simp at h
    | fail h _=>rcases h with h | h <;> simp at h
  | turn hh hs hr ih =>
    intro h'
    cases h' with
    | done=>rcases hh with h | h <;> simp at h
    | turn _ hs' hr' =>
      rw [hs] at hs'
      cases hs'
      obtain ⟨e1,e2⟩:=ih hr'
      exact ⟨by rw [e1],e2⟩
    | fail _ hs'=>rw [hs] at hs'; cases hs'
  | fail hh hs =>
    intro h'
    cases h' with
    | done=>rcases hh with h | h <;> simp at h
    | turn _ hs' _=>rw [hs] at hs'; cases hs'
    | fail _ _=>exact ⟨rfl,rfl⟩
theorem yb {ws r more:List Str} {x:Str} (h:zn L ws=some (x,r)):zn L (ws ++ more)=some (x,r ++ more):=by
  cases ws with
  | nil=>cases h
  | cons w t =>
    unfold zn at h ⊢
    dsimp only at h ⊢
    split at h
    · rename_i q; cases h; simp [q]
    · cases h
theorem vY {ws r more:List Str} {x:Int} (h:z7 L ws=some (x,r)):z7 L (ws ++ more)=some (x,r ++ more):=by
  cases ws with
  | nil=>cases h
  | cons w t =>
    unfold z7 at h ⊢
    dsimp only at h ⊢
    split at h
    · rename_i q; cases h; simp [q]
    · cases h
theorem wV {stop:Str} {more:List Str}:∀ {ws acc ns r:List Str},zK L stop acc ws=some (ns,r)->zK L stop acc (ws ++ more)=some (ns,r ++ more)
  | [],acc,ns,r,h=>by cases h
  | w :: t,acc,ns,r,h=>by
    rw [List.cons_append]
    unfold zK at h ⊢
    split at h
    · rename_i q; cases h; simp [q]
    · rename_i q
      rw [if_neg q]
      split at h
      · rename_i q2; rw [if_pos q2]; exact wV h
      · cases h
theorem Yl {ws r more:List Str} {d:D} (h:deed L ws=some (d,r)):deed L (ws ++ more)=some (d,r ++ more):=by
  cases ws with
  | nil=>cases h
  | cons w t =>
    rw [List.cons_append]
    unfold deed at h ⊢
    dsimp only at h ⊢
    split at h
    · rename_i q
      rw [if_pos q]
      obtain ⟨⟨n,r'⟩,h1,h2⟩:=Option.map_eq_some_iff.mp h
      cases h2
      rw [vY L h1]; rfl
    · rename_i q
      rw [if_neg q]
      split at h
      · rename_i q
        rw [if_pos q]
        obtain ⟨⟨a,r1⟩,h1,h⟩:=Option.bind_eq_some_iff.mp h
        obtain ⟨⟨b,r2⟩,h2,h3⟩:=Option.map_eq_some_iff.mp h
        cases h3
        rw [yb L h1]
        simp only [Option.bind_some]
        rw [yb L h2]; rfl
      · rename_i q
        rw [if_neg q]
        split at h
        · rename_i q
          rw [if_pos q]
          obtain ⟨⟨a,r1⟩,h1,h⟩:=Option.bind_eq_some_iff.mp h
          obtain ⟨⟨b,r2⟩,h2,h3⟩:=Option.map_eq_some_iff.mp h
          cases h3
          rw [yb L h1]
          simp only [Option.bind_some]
          rw [wV L h2]; rfl
        · cases h
theorem Ym {ws r more:List Str} {p:Str × List Str} (h:head L ws=some (p,r)):head L (ws ++ more)=some (p,r ++ more):=by
  unfold head at h ⊢
  obtain ⟨⟨a,r1⟩,h1,h⟩:=Option.bind_eq_some_iff.mp h
  obtain ⟨⟨b,r2⟩,h2,h3⟩:=Option.map_eq_some_iff.mp h
  cases h3
  rw [yb L h1]
  simp only [Option.bind_some]
  rw [wV L h2]; rfl
theorem Jo {s s':S} {more:List Str} (h:step L s=some s'):step L ⟨s.begun,s.body,s.ws ++ more⟩=some ⟨s'.begun,s'.body,s'.ws ++ more⟩:=by
  obtain ⟨st,b,ws⟩:=s
  unfold step at h ⊢
  cases b with
  | none =>
    dsimp only at h ⊢
    cases ws with
    | nil=>cases h
    | cons w t =>
      rw [List.cons_append]
      unfold zE at h ⊢
      dsimp only at h ⊢
      split at h
      · rename_i q
        rw [if_pos q]
        obtain ⟨⟨a,r1⟩,h1,h2⟩:=Option.map_eq_some_iff.mp h
        cases h2
        rw [yb L h1]; rfl
      · rename_i q
        rw [if_neg q]
        split at h
        · rename_i q
          rw [if_pos q]
          obtain ⟨⟨a,r1⟩,h1,h⟩:=Option.bind_eq_some_iff.mp h
          obtain ⟨⟨d,r2⟩,h2,h3⟩:=Option.map_eq_some_iff.mp h
          cases h3
          rw [yb L h1]
          simp only [Option.bind_some]
          rw [Yl L h2]; rfl
        · rename_i q
          rw [if_neg q]
          split at h
          · rename_i q
            rw [if_pos q]
            obtain ⟨⟨a,r1⟩,h1,h2⟩:=Option.map_eq_some_iff.mp h
            cases h2
            rw [yb L h1]; rfl
          · rename_i q
            rw [if_neg q]
            split at h
            · rename_i q
              rw [if_pos q]
              obtain ⟨⟨a,r1⟩,h1,h⟩:=Option.bind_eq_some_iff.mp h
              obtain ⟨⟨d,r2⟩,h2,h3⟩:=Option.map_eq_some_iff.mp h
              cases h3
              rw [yb L h1]
              simp only [Option.bind_some]
              rw [Ym L h2]; rfl
            · cases h
  | some b =>
    cases st with
    | nil=>cases h
    | cons f st =>
      dsimp only at h ⊢
      cases f with
      | lt x d=>cases h; rfl
      | if1 x a=>cases h; rfl
      | if0 x =>
        cases ws with
        | nil=>cases h
        | cons w t =>
          rw [List.cons_append]
          unfold fill at h ⊢
          dsimp only at h ⊢
          split at h
          · rename_i q; cases h; rw [if_pos q]
          · cases h
      | cs x arms tag names =>
        cases ws with
        | nil=>cases h
        | cons w t =>
          rw [List.cons_append]
          unfold fill at h ⊢
          dsimp only at h ⊢
          split at h
          · rename_i q; cases h; rw [if_pos q]
          · rename_i q
            rw [if_neg q]
            split at h
            · rename_i q2
              rw [if_pos q2]
              obtain ⟨⟨p,r1⟩,h1,h2⟩:=Option.map_eq_some_iff.mp h
              cases h2
              have e:=Ym L (more:=more) h1
              rw [List.cons_append] at e
              rw [e]; rfl
            · cases h
theorem Runs.app {n:Nat} {s:S} {d:D} {r more:List Str} (h:Runs L n s (some (d,r))):Runs L n ⟨s.begun,s.body,s.ws ++ more⟩ (some (d,r ++ more)):=by
  generalize hr:some (d,r)=x at h
  induction h with
  | done=>cases hr; exact .done
  | turn hh hs _ ih=>exact .turn hh (Jo L hs) (ih hr)
  | fail=>cases hr
theorem zL {ws r:List Str} {x:Str} (h:zn L ws=some (x,r)):ws.length=r.length + 1:=by
  cases ws with
  | nil=>cases h
  | cons w t =>
    unfold zn at h
    dsimp only at h
    split at h
    · cases h; rfl
    · cases h
theorem vZ {ws r:List Str} {x:Int} (h:z7 L ws=some (x,r)):ws.length=r.length + 1:=by
  cases ws with
  | nil=>cases h
  | cons w t =>
    unfold z7 at h
    dsimp only at h
    split at h
    · cases h; rfl
    · cases h
theorem wX {stop:Str}:∀ {ws acc ns r:List Str},zK L stop acc ws=some (ns,r)->r.length < ws.length
  | [],acc,ns,r,h=>by cases h
  | w :: t,acc,ns,r,h=>by
    unfold zK at h
    split at h
    · cases h; exact Nat.lt_succ_self _
    · split at h
      · exact Nat.lt_succ_of_lt (wX h)
      · cases h
theorem deed_len {ws r:List Str} {d:D} (h:deed L ws=some (d,r)):r.length < ws.length:=by
  cases ws with
  | nil=>cases h
  | cons w t =>
    unfold deed at h
    dsimp only at h
    split at h
    · obtain ⟨⟨n,r'⟩,h1,h2⟩:=Option.map_eq_some_iff.mp h
      cases h2
      have:=vZ L h1
      dsimp only at *
      rw [List.length_cons]; lia
    · split at h
      · obtain ⟨⟨a,r1⟩,h1,h⟩:=Option.bind_eq_some_iff.mp h
        obtain ⟨⟨b,r2⟩,h2,h3⟩:=Option.map_eq_some_iff.mp h
        cases h3
        have:=zL L h1
        have:=zL L h2
        dsimp only at *
        rw [List.length_cons]; lia
      · split at h
        · obtain ⟨⟨a,r1⟩,h1,h⟩:=Option.bind_eq_some_iff.mp h
          obtain ⟨⟨b,r2⟩,h2,h3⟩:=Option.map_eq_some_iff.mp h
          cases h3
          have:=zL L h1
          have:=wX L h2
          dsimp only at *
          rw [List.length_cons]; lia
        · cases h
theorem head_len {ws r:List Str} {p:Str × List Str} (h:head L ws=some (p,r)):r.length < ws.length:=by
  unfold head at h
  obtain ⟨⟨a,r1⟩,h1,h⟩:=Option.bind_eq_some_iff.mp h
  obtain ⟨⟨b,r2⟩,h2,h3⟩:=Option.map_eq_some_iff.mp h
  cases h3
  have:=zL L h1
  have:=wX L h2
  dsimp only at *
  lia
def meas (s:S):Nat:=3 * s.ws.length + s.begun.length + (if s.body.isSome then 0 else 1)
theorem W4 {s s':S} (h:step L s=some s'):meas s' < meas s:=by
  obtain ⟨st,b,ws⟩:=s
  unfold step at h
  unfold meas
  cases b with
  | none =>
    dsimp only at h ⊢
    cases ws with
    | nil=>cases h
    | cons w t =>
      unfold zE at h
      dsimp only at h
      split at h
      · obtain ⟨⟨a,r1⟩,h1,h2⟩:=Option.map_eq_some_iff.mp h
        cases h2
        have:=zL L h1
        simp; lia
      · split at h
        · obtain ⟨⟨a,r1⟩,h1,h⟩:=Option.bind_eq_some_iff.mp h
          obtain ⟨⟨d,r2⟩,h2,h3⟩:=Option.map_eq_some_iff.mp h
          cases h3
          have:=zL L h1
          have:=deed_len L h2
          dsimp only at *
          simp; lia
        · split at h
          · obtain ⟨⟨a,r1⟩,h1,h2⟩:=Option.map_eq_some_iff.mp h
            cases h2
            have:=zL L h1
            simp; lia
          · split at h
            · obtain ⟨⟨a,r1⟩,h1,h⟩:=Option.bind_eq_some_iff.mp h
              obtain ⟨⟨d,r2⟩,h2,h3⟩:=Option.map_eq_some_iff.mp h
              cases h3
              have:=zL L h1
              have:=head_len L h2
              dsimp only at *
              simp; lia
            · cases h
  | some b =>
    cases st with
    | nil=>cases h
    | cons f st =>
      dsimp only at h
      cases f with
      | lt x d=>cases h; simp
      | if1 x a=>cases h; simp
      | if0 x =>
        cases ws with
        | nil=>cases h
        | cons w t =>
          unfold fill at h
          dsimp only at h
          split at h
          · cases h; simp; lia
          · cases h
      | cs x arms tag names =>
        cases ws with
        | nil=>cases h
        | cons w t =>
          unfold fill at h
          dsimp only at h
          split at h
          · cases h; simp; lia
          · split at h
            · obtain ⟨⟨p,r1⟩,h1,h2⟩:=Option.map_eq_some_iff.mp h
              cases h2
              have:=head_len L h1
              simp at this ⊢
              lia
            · cases h
theorem j6:∀ (k:Nat) (s:S),meas s < k->∃ n r,Runs L n s r
  | 0,s,h=>by lia
  | k + 1,s,h=>by
    by_cases hh:s.body=none\/s.begun≠[]
    · cases e:step L s with
      | none=>exact ⟨0,none,.fail hh e⟩
      | some s' =>
        obtain ⟨n,r,q⟩:=j6 k s' (by have:=W4 L e; lia)
        exact ⟨n + 1,r,.turn hh e q⟩
    · obtain ⟨st,b,ws⟩:=s
      have h1:b≠none:=fun z=>hh (.inl z)
      have h2:st=[]:=Classical.byContradiction fun z=>hh (.inr z)
      subst h2
      cases b with
      | none=>exact absurd rfl h1
      | some b=>exact ⟨0,_,.done⟩
theorem Jp (s:S):∃ n r,Runs L n s r:=j6 L _ s (Nat.lt_succ_self _)
structure LexOk (L:Lex):Prop where
  kept:∀ w∈(["def","kind","give","let","if","else","case","end","num","=",":",";"]:List Str) ++ OPS ++ DEEDS,L.nm w=false
variable {L} (ok:LexOk L)
theorem wu {stop:Str} (hs:L.nm stop=false):∀ {ns acc r:List Str},(∀ x∈ns,L.nm x=true)->acc.length + ns.length<=9->zK L stop acc (ns ++ stop :: r)=some (acc ++ ns,r)
  | [],acc,r,_,_=>by simp [zK]
  | x :: ns,acc,r,h,hl=>by
    have hx:=h x List.mem_cons_self
    have ne:x≠stop:=fun z=>by rw [z,hs] at hx; cases hx
    have ln:acc.length < 9:=by rw [List.length_cons] at hl; lia
    rw [List.cons_append]
    unfold zK
    rw [if_neg ne,if_pos ⟨ln,hx⟩,wu hs (fun y hy=>h y (List.mem_cons_of_mem _ hy)) (by rw [List.length_append,List.length_cons,List.length_nil]; rw [List.length_cons] at hl; lia)]
    simp
theorem z9 {x:Str} {r:List Str} (h:L.nm x=true):zn L (x :: r)=some (x,r):=by simp [zn,h]
include ok
theorem ZO {t:Str} {ns r:List Str} (ht:L.nm t=true) (hn:∀ x∈ns,L.nm x=true) (hl:ns.length<=9):head L (t :: (ns ++ (":":Str) :: r))=some ((t,ns),r):=by
  unfold head
  rw [z9 ht]
  simp only [Option.bind_some]
  rw [wu (ok.kept _ (by decide)) hn (by simpa using hl)]
  rfl
theorem zcO {x:Str} {r:List Str} (h:L.nu x=true):deed L ("num" :: x :: r)=some (.tup [.str "num",.int (L.iv x)],r):=by
  unfold deed
  dsimp only
  rw [if_pos rfl]
  simp [z7,h]
theorem zds {w a b:Str} {r:List Str} (hw:w∈OPS) (ha:L.nm a=true) (hb:L.nm b=true):deed L (w :: a :: b :: r)=some (.tup [.str "op",.str w,.str a,.str b],r):=by
  unfold deed
  dsimp only
  rw [if_neg (fun z=>by rw [z] at hw; revert hw; decide),if_pos hw,z9 ha]
  simp only [Option.bind_some]
  rw [z9 hb]
  rfl
theorem Jq {w g:Str} {ns r:List Str} (hw:w∈DEEDS) (hg:L.nm g=true) (hn:∀ x∈ns,L.nm x=true) (hl:ns.length<=9):deed L (w :: g :: (ns ++ (";":Str) :: r))=some (.tup [.str w,.str g,«strs» ns],r):=by
  unfold deed
  dsimp only
  rw [if_neg (fun z=>by rw [z] at hw; revert hw; decide),if_neg (fun z=>by revert hw z; simp only [OPS,DEEDS,List.mem_cons,List.not_mem_nil,or_false]; rintro (rfl | rfl | rfl | rfl) <;> decide),if_pos hw,z9 hg]
  simp only [Option.bind_some]
  rw [wu (ok.kept _ (by decide)) hn (by simpa using hl)]
  rfl
omit ok
inductive Goes (L:Lex):Nat->S->S->Prop
  | here {s:S}:Goes L 0 s s
  | turn {n:Nat} {s s1 s2:S}:(s.body=none\/s.begun≠[])->step L s=some s1->Goes L n s1 s2->Goes L (n + 1) s s2
theorem Goes.trans {n m:Nat} {a b c:S} (h:Goes L n a b) (g:Goes L m b c):∃ k,Goes L k a c:=by
  induction h with
  | here=>exact ⟨m,g⟩
  | turn h1 h2 _ ih =>
    obtain ⟨k,q⟩:=ih g
    exact ⟨k + 1,.turn h1 h2 q⟩
theorem Goes.runs {n m:Nat} {a b:S} {r:Option (D × List Str)} (h:Goes L n a b) (g:Runs L m b r):∃ k,Runs L k a r:=by
  induction h with
  | here=>exact ⟨m,g⟩
  | turn h1 h2 _ ih =>
    obtain ⟨k,q⟩:=ih g
    exact ⟨k + 1,.turn h1 h2 q⟩
def BodyOk (L:Lex) (ws:List Str) (b:D):Prop:=∀ (st:List Fr) (rest:List Str),∃ n,Goes L n ⟨st,none,ws ++ rest⟩ ⟨st,some b,rest⟩
theorem BodyOk.runs {ws:List Str} {b:D} (h:BodyOk L ws b) (rest:List Str):∃ n,Runs L n ⟨[],none,ws ++ rest⟩ (some (b,rest)):=by
  obtain ⟨n,g⟩:=h [] rest
  exact g.runs .done
theorem W5 {x:Str} (hx:L.nm x=true):BodyOk L ["give",x] (.tup [.str "give",.str x]):=fun st rest=>by
  refine ⟨1,.turn (.inl rfl) (s1:=⟨st,some (.tup [.str "give",.str x]),rest⟩) ?_ .here⟩
  show zE L st ("give" :: x :: rest)=_
  unfold zE
  dsimp only
  rw [if_pos rfl,z9 hx]
  rfl
theorem Jr {x:Str} {dw bw:List Str} {d b:D} (hx:L.nm x=true) (hd:deed L dw=some (d,[])) (hb:BodyOk L bw b):BodyOk L ("let" :: x :: (dw ++ bw)) (.tup [.str "let",.str x,d,b]):=fun st rest=>by
  obtain ⟨n,g⟩:=hb (.lt x d :: st) rest
  have s1:step L ⟨st,none,("let":Str) :: x :: (dw ++ bw) ++ rest⟩=some ⟨.lt x d :: st,none,bw ++ rest⟩:=by
    show zE L st ("let" :: x :: ((dw ++ bw) ++ rest))=_
    unfold zE
    dsimp only
    rw [if_neg (by decide),if_pos rfl,z9 hx]
    simp only [Option.bind_some]
    rw [List.append_assoc,Yl L hd]
    rfl
  exact (Goes.turn (.inl rfl) s1 .here).trans ((g.trans (.turn (.inr (by simp)) rfl .here)).choose_spec) |> fun ⟨k,q⟩=>⟨k,q⟩
theorem zaA {x:Str} {aw bw:List Str} {a b:D} (hx:L.nm x=true) (ha:BodyOk L aw a) (hb:BodyOk L bw b):BodyOk L ("if" :: x :: (aw ++ ("else":Str) :: bw)) (.tup [.str "if",.str x,a,b]):=fun st rest=>by
  obtain ⟨n,g⟩:=ha (.if0 x :: st) (("else":Str) :: bw ++ rest)
  obtain ⟨m,g2⟩:=hb (.if1 x a :: st) rest
  have s1:step L ⟨st,none,("if":Str) :: x :: (aw ++ ("else":Str) :: bw) ++ rest⟩=some ⟨.if0 x :: st,none,aw ++ (("else":Str) :: bw ++ rest)⟩:=by
    show zE L st ("if" :: x :: ((aw ++ ("else":Str) :: bw) ++ rest))=_
    unfold zE
    dsimp only
    rw [if_neg (by decide),if_neg (by decide),if_pos rfl,z9 hx]
    simp
  have s2:step L ⟨.if0 x :: st,some a,("else":Str) :: bw ++ rest⟩=some ⟨.if1 x a :: st,none,bw ++ rest⟩:=by
    show fill L a st (.if0 x) ("else" :: (bw ++ rest))=_
    unfold fill
    dsimp only
    rw [if_pos rfl]
  have e1:=(g2.trans (.turn (.inr (by simp)) rfl .here)).choose_spec
  have e2:=((Goes.turn (.inr (by simp)) s2 .here).trans e1).choose_spec
  have e3:=(g.trans e2).choose_spec
  exact ⟨_,((Goes.turn (.inl rfl) s1 .here).trans e3).choose_spec⟩
structure Arm where
  tag:Str
  names:List Str
  bw:List Str
  b:D
def Arm.words (a:Arm):List Str:=a.tag :: (a.names ++ (":":Str) :: a.bw)
def Arm.dat (a:Arm):D:=.tup [.str a.tag,«strs» a.names,a.b]
structure Arm.Ok (L:Lex) (a:Arm):Prop where
  tag:L.nm a.tag=true
  names:∀ x∈a.names,L.nm x=true
  few:a.names.length<=9
  body:BodyOk L a.bw a.b
include ok
theorem X8 {x:Str} {st:List Fr} {rest:List Str}:∀ (more:List Arm) (a:Arm) (done:List D),a.Ok L->(∀ c∈more,c.Ok L)->done.length + 1 + more.length<=20 ->
    ∃ n,Goes L n ⟨.cs x done a.tag a.names :: st,none,a.bw ++ (more.flatMap Arm.words ++ ("end":Str) :: rest)⟩ ⟨st,some (.tup [.str "case",.str x,.tup (done ++ a.dat :: more.map Arm.dat)]),rest⟩
  | [],a,done,ha,_,_=>by
    obtain ⟨n,g⟩:=ha.body (.cs x done a.tag a.names :: st) ("end" :: rest)
    have s1:step L ⟨.cs x done a.tag a.names :: st,some a.b,("end":Str) :: rest⟩=some ⟨st,some (.tup [.str "case",.str x,.tup (done ++ [a.dat])]),rest⟩:=by
      show fill L a.b st (.cs x done a.tag a.names) ("end" :: rest)=_
      unfold fill
      dsimp only
      rw [if_pos rfl]
      rfl
    exact ⟨_,(g.trans (.turn (.inr (by simp)) s1 .here)).choose_spec⟩
  | c :: more,a,done,ha,hm,hl=>by
    obtain ⟨n,g⟩:=ha.body (.cs x done a.tag a.names :: st) (c.tag :: (c.names ++ (":":Str) :: (c.bw ++ (more.flatMap Arm.words ++ ("end":Str) :: rest))))
    have hc:=hm c List.mem_cons_self
    obtain ⟨m,g2⟩:=X8 more c (done ++ [a.dat]) hc (fun y hy=>hm y (List.mem_cons_of_mem _ hy)) (by rw [List.length_append,List.length_cons,List.length_nil]; rw [List.length_cons] at hl; lia)
    have ne:c.tag≠"end":=fun z=>by
      have:=hc.tag
      rw [z,ok.kept "end" (by decide)] at this
      cases this
    have s1:step L ⟨.cs x done a.tag a.names :: st,some a.b,c.tag :: (c.names ++ (":":Str) :: (c.bw ++ (more.flatMap Arm.words ++ ("end":Str) :: rest)))⟩=some ⟨.cs x (done ++ [a.dat]) c.tag c.names :: st,none,c.bw ++ (more.flatMap Arm.words ++ ("end":Str) :: rest)⟩:=by
      unfold step
      dsimp only
      unfold fill
      dsimp only
      rw [if_neg ne,if_pos (by rw [List.length_append,List.length_cons,List.length_nil]; rw [List.length_cons] at hl; lia),ZO ok hc.tag hc.names hc.few]
      rfl
    have e1:=((Goes.turn (.inr (by simp)) s1 .here).trans g2).choose_spec
    have e2:=(g.trans e1).choose_spec
    have w1:(c :: more).flatMap Arm.words ++ ("end":Str) :: rest=c.tag :: (c.names ++ (":":Str) :: (c.bw ++ (more.flatMap Arm.words ++ ("end":Str) :: rest))):=by
        simp [Arm.words,List.flatMap_cons]
    rw [w1]
    have w2:done ++ a.dat :: (c :: more).map Arm.dat=(done ++ [a.dat]) ++ c.dat :: more.map Arm.dat:=by simp
    rw [w2]
    exact ⟨_,e2⟩
theorem W6 {x:Str} {a:Arm} {more:List Arm} (hx:L.nm x=true) (ha:a.Ok L) (hm:∀ c∈more,c.Ok L) (hl:1 + more.length<=20) :
    BodyOk L ("case" :: x :: ((a :: more).flatMap Arm.words ++ [("end":Str)])) (.tup [.str "case",.str x,.tup ((a :: more).map Arm.dat)]):=fun st rest=>by
  obtain ⟨n,g⟩:=X8 ok (x:=x) (st:=st) (rest:=rest) more a [] ha hm (by simpa using hl)
  have s1:step L ⟨st,none,("case":Str) :: x :: ((a :: more).flatMap Arm.words ++ [("end":Str)]) ++ rest⟩=some ⟨.cs x [] a.tag a.names :: st,none,a.bw ++ (more.flatMap Arm.words ++ ("end":Str) :: rest)⟩:=by
    have w1:("case":Str) :: x :: ((a :: more).flatMap Arm.words ++ [("end":Str)]) ++ rest=("case":Str) :: x :: a.tag :: (a.names ++ (":":Str) :: (a.bw ++ (more.flatMap Arm.words ++ ("end":Str) :: rest))):=by
      simp [Arm.words,List.flatMap_cons]
    rw [w1]
    unfold step
    dsimp only
    unfold zE
    dsimp only
    rw [if_neg (by decide),if_neg (by decide),if_neg (by decide),if_pos rfl,z9 hx]
    simp only [Option.bind_some]
    rw [ZO ok ha.tag ha.names ha.few]
    rfl
  exact ⟨_,((Goes.turn (.inl rfl) s1 .here).trans g).choose_spec⟩
end
end Rd
namespace Rdr
open PySem L2 K11
theorem zf {H:Hp} {p:Addr} (h:H p=none) (o:HO):Same H (upd H p o):=fun b u q=>by rw [zg (zi q h)]; exact q
theorem line:sizeLine=16777216:=by decide
theorem v5 {α β:Type} {l:List α} {i:Nat} {x:α} (f:α->β) (h:l[i]?=some x):(l.take i).map f ++ [f x]=(l.take (i + 1)).map f:=by
  rw [List.take_add_one,h,List.map_append]
  rfl
theorem zaB {z:Str} {i c:Nat} (h:z.cps[i]?=some c):(signs z)[i]?=some (sg c):=by
  unfold signs
  rw [List.getElem?_map,Array.getElem?_toList,h]
  rfl
section
variable {P:Program} {w:World} {K:PySem.W.Frag} {mg:Str->Option Value} {base:Heap} {f:Addr} {fd:FuncData}
def Xs:Sp:=fun vs H Q _=>∃ z j:Str,vs=[.str z,.str j]/\z.length<=1000/\∀ H',Same H H'->Q (.bl (y8 z j)) H'
theorem zcP:FnScope ["word","signs"] ["word","signs"] (zj Jj):=.ok
theorem zcQ:(["word","signs","sign"]:List Str).Nodup:=by decide +kernel
theorem zaC (F:Fun K "made_of" "made_of" Jj f fd) (mA:mg "all"=none):FnOk P w K mg base CX0 1 f fd ["word","signs"] Xs:=by
  refine F.by zcP (fun vs H Q E h=>?_) (fun cdv A outer s H vs Q E hr h=>?_)
  · obtain ⟨z,j,rfl,_⟩:=h
    rfl
  obtain ⟨z,j,rfl,hz,q⟩:=h
  refine ⟨_,ze (zo (z4 (ZF rfl) rfl mA PyProof.Rows.boot_all (jA1 (wn ["sign"] rfl (zcy rfl (jv 0))
    (fun _ _ _ _ _=>gN 2 zcQ) (fun _ _ _ _ _=>wm) (fun _ _ _ _ _=>yz jX (jv 2) (jv 1) (by with_unfolding_all rfl)))))),?_⟩
  have hl:=W3 z
  have hs:=line
  refine ⟨_,rfl,z,rfl,zcv (fun i τ ys H'=>H'=H/\(∃ v,τ=[some (.str z),some (.str j),v])/\ys=((signs z).take i).map fun c=>V.bl (inS c j)) ⟨rfl,⟨none,rfl⟩,rfl⟩ ?_ ?_⟩
  · rintro i c τ ys H' hc ⟨rfl,⟨v,rfl⟩,rfl⟩
    refine ⟨_,rfl,_,rfl,_,_,rfl,rfl,?_,rfl,⟨_,rfl⟩,?_⟩
    · rw [List.length_map,List.length_take]
      lia
    · exact v5 (fun c=>V.bl (inS c j)) (zaB hc)
  · rintro τ ys H' ⟨rfl,_,rfl⟩ p hp
    refine ⟨p,(signs z).map (inS · j),rfl,SqL.of ?_,?_⟩
    · rw [za,List.take_of_length_le (by rw [hl]; exact Nat.le_refl _),List.map_map]
      rfl
    · have e:((signs z).map (inS · j)).all id=y8 z j:=by
        unfold y8
        rw [List.all_map]
        rfl
      have r:=q _ (zf hp (.lst (((signs z).take z.cps.size).map fun c=>V.bl (inS c j))))
      rw [<- e] at r
      exact r
end
def KEPT:List Str:=["def","kind","give","let","if","else","case","end","num","plus","minus","times","over","rest","less","same","make","call","func","ask"]
def LETS:Str:="abcdefghijklmnopqrstuvwxyz"
def FIGS:Str:="0123456789"
def xv (z:Str) (n:Int):Bool:=decide ((1:Int)<=(z.length:Nat)) && decide (((z.length:Nat):Int)<=n)
def zk (z:Str):Bool:=xv z 12 && (y8 z LETS && !inV (.str z) (KEPT.map V.str))
def zM (z:Str):Str:=if Txt.startswith z "-"=true then Txt.slice z (some 1) none else z
def zH (z:Str):Bool:=if (!xv (zM z) 30 || !y8 (zM z) FIGS)=true then false else decide (V.str z=V.str "0") || !Txt.startswith (zM z) "0"
theorem Js (z:Str):(zM z).length<=z.length:=by
  unfold zM
  split
  · exact Txt.slice_le _ _ _
  · exact Nat.le_refl _
theorem j7:(KEPT.map V.str).all wg=true:=by decide +kernel
def Jt:Sp:=fun vs H Q _=>∃ z:Str,vs=[.str z]/\z.length<=1000/\∀ H',Same H H'->Q (.bl (zk z)) H'
def Yn:Sp:=fun vs H Q _=>∃ z:Str,vs=[.str z]/\z.length<=1000/\∀ H',Same H H'->Q (.bl (zH z)) H'
section
variable {P:Program} {w:World} {K:PySem.W.Frag} {mg:Str->Option Value} {base:Heap} {f g g2 a:Addr} {fd gd gd2:FuncData} {t1 t2 t3 t4:Tok}
theorem zcR:FnScope ["word"] ["word"] (zj Jk):=.ok
theorem zaD (F:Fun K "is_name" "is_name" Jk f fd) (G:FnOk P w K mg base CX0 1 g gd ["word","signs"] Xs) (bG:Binds K gd ["word","signs"] []) (kG:PySem.W.keepIn K (.ref g)=true) (mG:mg "made_of"=some (.ref g)) (ml:mg "len"=none)
    (mL:mg "LETTERS"=some (.str LETS t1)) (mM:mg "MOST_LETTERS"=some (.int 12 t2)) (mK:mg "KEPT_WORDS"=some (.ref a)) (hK:∀ H:Hp,SqT K H a (KEPT.map V.str)):FnOk P w K mg base CX0 2 f fd ["word"] Jt:=by
  refine F.by zcR (fun vs H Q E h=>?_) (fun cdv A outer s H vs Q E hr h=>?_)
  · obtain ⟨z,rfl,_⟩:=h
    rfl
  obtain ⟨z,rfl,hz,q⟩:=h
  refine ⟨_,ze (zo (y6 (V0 jV jV zc (z4 x9 rfl ml PySem.boot_len (jA1 (jv 0))) (z3 (v:=.int 12) rfl mM ⟨_,rfl⟩))
    (y6 (V2 G hr rfl mG kG bG .nil yv (jA2 (jv 0) (z3 (v:=.str LETS) rfl mL ⟨_,rfl⟩))) (wK (yz ZE (jv 0) (z3 (v:=.ref a) rfl mK rfl) (by with_unfolding_all rfl)))))),?_⟩
  have hs:=line
  have no:∀ {H':Hp},Same H H'->zk z=false->Q (.bl false) H':=fun sm e=>by
    have r:=q _ sm
    rw [e] at r
    exact r
  refine ⟨_,rfl,z,rfl,by lia,_,_,rfl,rfl,_,rfl,?_⟩
  refine ite2 (fun c1=>?_) (fun c1=>?_)
  · refine ⟨_,_,rfl,rfl,_,rfl,?_⟩
    refine ite2 (fun c2=>?_) (fun c2=>?_)
    · refine ⟨_,rfl,z,LETS,rfl,hz,fun H1 s1=>⟨_,rfl,?_⟩⟩
      refine ite2 (fun c3=>?_) (fun c3=>?_)
      · refine ⟨_,rfl,a,_,rfl,.inr (hK _),rfl,j7,?_⟩
        have r:=q _ s1
        unfold zk xv at r
        rw [c1,c2,c3] at r
        exact r
      · refine no s1 ?_
        unfold zk
        rw [Bool.eq_false_iff.mpr c3,Bool.false_and,Bool.and_false]
    · refine no (Same.refl _) ?_
      unfold zk xv
      rw [Bool.eq_false_iff.mpr c2,Bool.and_false,Bool.false_and]
  · refine ⟨_,rfl,iteF ?_⟩
    refine no (Same.refl _) ?_
    unfold zk xv
    rw [Bool.eq_false_iff.mpr c1,Bool.false_and,Bool.false_and]
theorem scNumber:FnScope ["word","figures"] ["word"] (zj ZI):=.ok
theorem W7 (F:Fun K "is_number" "is_number" ZI f fd) (G:FnOk P w K mg base CX0 1 g gd ["word","signs"] Xs) (bG:Binds K gd ["word","signs"] []) (kG:PySem.W.keepIn K (.ref g)=true) (mG:mg "made_of"=some (.ref g)) (ml:mg "len"=none)
    (mF:mg "FIGURES"=some (.str FIGS t1)) (mM:mg "MOST_FIGURES"=some (.int 30 t2)):FnOk P w K mg base CX0 2 f fd ["word"] Yn:=by
  refine F.by scNumber (fun vs H Q E h=>?_) (fun cdv A outer s H vs Q E hr h=>?_)
  · obtain ⟨z,rfl,_⟩:=h
    rfl
  obtain ⟨z,rfl,hz,q⟩:=h
  refine ⟨_,zb (sE 1 scNumber.nd (Yd (ym (zy PySem.F.plainAttrs_str PySem.F.slot_str_startswith PySem.F.type_str_startswith xS (jv 0) (jA1 zd))) (zB x6 (jv 0) (zD zc) zT) (jv 0)))
    (zb (zx (jW.pt (X2 (yI (V1 jV jV zc (z4 x9 rfl ml PySem.boot_len (jA1 (jv 1))) (z3 (v:=.int 30) rfl mM ⟨_,rfl⟩)))
      (ZA (yI (ym (V2 G hr rfl mG kG bG .nil yv (jA2 (jv 1) (z3 (v:=.str FIGS) rfl mF ⟨_,rfl⟩)))))))) (ze (zo xn)) zq)
    (ze (zo (zdp (yz zV (jv 0) zd (y0 _)) (wK (ZB (zy PySem.F.plainAttrs_str PySem.F.slot_str_startswith PySem.F.type_str_startswith xS (jv 1) (jA1 zd)))))))),?_⟩
  have hs:=line
  have hfl:=Js z
  have no:∀ {H':Hp},Same H H'->zH z=false->Q (.bl false) H':=fun sm e=>by
    have r:=q _ sm
    rw [e] at r
    exact r
  suffices rest:∀ (y:Str),y=zM z->(tSeq _ _:TS) { nx:=fun _ H'=>Q .non H',rt:=Q } [some (.str z),some (.str y)] H by
    refine ⟨_,rfl,rfl,_,_,rfl,rfl,_,rfl,?_⟩
    refine ite2 (fun c=>?_) (fun c=>?_)
    · refine ⟨_,rfl,_,rfl,z,rfl,by lia,?_⟩
      exact rest _ (by unfold zM; rw [if_pos (show Txt.startswith z "-"=true from c)])
    · refine ⟨_,rfl,?_⟩
      exact rest _ (by unfold zM; rw [if_neg (show ¬ Txt.startswith z "-"=true from c)])
  rintro y rfl
  refine ⟨_,rfl,zM z,rfl,by lia,_,_,rfl,rfl,_,rfl,?_⟩
  refine ite2 (fun c1=>?_) (fun c1=>?_)
  · have c1':decide ((1:Int)<=((zM z).length:Nat))=true:=c1
    refine ⟨_,_,rfl,rfl,_,rfl,?_⟩
    cases c2:decide ((((zM z).length:Nat):Int)<=30) with
    | false =>
      refine iteT (iteT ?_)
      refine no (Same.refl _) ?_
      unfold zH xv
      rw [c2,Bool.and_false]
      rfl
    | true =>
      refine iteF ?_
      refine ⟨_,rfl,zM z,FIGS,rfl,by lia,fun H1 s1=>⟨_,rfl,?_⟩⟩
      cases c3:y8 (zM z) FIGS with
      | false =>
        refine iteT ?_
        refine no s1 ?_
        unfold zH
        rw [c3]
        simp
      | true =>
        refine iteF ?_
        have fin:∀ v,(decide (V.str z=V.str "0") || !Txt.startswith (zM z) "0")=v->Q (.bl v) H1:=fun v e=>by
          have r:=q _ s1
          have e2:zH z=v:=by
            unfold zH xv
            rw [c1',c2,c3]
            exact e
          rw [e2] at r
          exact r
        refine ⟨_,rfl,rfl,_,rfl,?_⟩
        refine ite2 (fun c4=>?_) (fun c4=>?_)
        · exact fin true (by rw [show decide (V.str z=V.str "0")=true from c4,Bool.true_or])
        · refine ⟨_,rfl,rfl,_,_,rfl,rfl,_,rfl,?_⟩
          exact fin _ (by rw [Bool.eq_false_iff.mpr c4,Bool.false_or])
  · refine ⟨_,rfl,iteT (iteT ?_)⟩
    refine no (Same.refl _) ?_
    unfold zH xv
    rw [Bool.eq_false_iff.mpr c1,Bool.false_and]
    rfl
end
end Rdr
namespace Rdr
open PySem L2 K11 Rd
def yt (z:Str):Int:=(PySem.intText? z).getD 0
def LX:Lex:=⟨zk,zH,yt,fun _=>none⟩
structure Adr where
  cN:Addr
  cW:Addr
  cL:Addr
  cI:Addr
  cC:Addr
structure Txt (K:PySem.W.Frag) (mg:Str->Option Value) (A:Adr):Prop where
  clW:Cls K A.cW
  clL:Cls K A.cL
  clI:Cls K A.cI
  clC:Cls K A.cC
  nRow:NoAttr K A.cW "row"
  nWords:NoAttr K A.cW "words"
  nAt:NoAttr K A.cW "at"
  nBinds:NoAttr K A.cL "binds"
  nDeed:NoAttr K A.cL "deed"
  nLooked:NoAttr K A.cI "looked"
  nFirst:NoAttr K A.cI "first"
  nCLooked:NoAttr K A.cC "looked"
  nArms:NoAttr K A.cC "arms"
  nHead:NoAttr K A.cC "head"
  xRow:PySem.W.takerIn K A.cN "row"=some none
  len:mg "len"=none
  tuple:mg "tuple"=none
  int:mg "int"=none
  mostN:∃ t,mg "MOST_NAMES"=some (.int 9 t)
  mostA:∃ t,mg "MOST_ARMS"=some (.int 20 t)
def KpS (S:Addr->Prop) (H H':Hp):Prop:=∀ b o,¬ S b->H b=some o->H' b=some o
theorem KpS.refl {S:Addr->Prop} {H:Hp}:KpS S H H:=fun _ _ _ h=>h
theorem KpS.trans {S:Addr->Prop} {H H1 H2:Hp} (a:KpS S H H1) (b:KpS S H1 H2):KpS S H H2:=fun c o n h=>b c o n (a c o n h)
theorem KpS.mono {S S':Addr->Prop} {H H1:Hp} (a:KpS S H H1) (h:∀ b,S b->S' b):KpS S' H H1:=fun c o n q=>a c o (fun z=>n (h c z)) q
theorem KpS.of {S:Addr->Prop} {H H':Hp} (h:Same H H'):KpS S H H':=fun b o _ q=>h b o q
theorem KpS.put {S:Addr->Prop} {H:Hp} {a:Addr} {o:HO} (h:S a):KpS S H (upd H a o):=fun b u n q=>by
  have e:b≠a:=fun z=>n (by rw [z]; exact h)
  rw [zg e]
  exact q
theorem KpS.new {S:Addr->Prop} {H:Hp} {a:Addr} {o:HO} (h:H a=none):KpS S H (upd H a o):=.of (zf h o)
abbrev WI (A:Adr) (dw lw:Addr) (row:Int) (i:Nat):HO:=.ins A.cW dw [("row",.int row),("words",.ref lw),("at",.int i)]
structure AtR (A:Adr) (H:Hp) (w lw:Addr) (row:Int) (r:List Str):Prop where
  ex:∃ (dw:Addr) (ws:List Str) (i:Nat),H w=some (WI A dw lw row i)/\H lw=some (.lst (ws.map V.str))/\r=ws.drop i/\i<=ws.length/\ws.length<=1000000/\∀ x∈ws,x.length<=1000
theorem AtR.kept {A:Adr} {H H':Hp} {w lw:Addr} {row:Int} {r:List Str} {S:Addr->Prop} (h:AtR A H w lw row r) (k:KpS S H H') (n1:¬ S w) (n2:¬ S lw):AtR A H' w lw row r :=
  let ⟨dw,ws,i,a,b,c⟩:=h.ex; ⟨dw,ws,i,k _ _ n1 a,k _ _ n2 b,c⟩
theorem AtR.same {A:Adr} {H H':Hp} {w lw:Addr} {row:Int} {r:List Str} (h:AtR A H w lw row r) (k:Same H H'):AtR A H' w lw row r:=h.kept (S:=fun _=>False) (.of k) (fun z=>z) fun z=>z
theorem AtR.ne {A:Adr} {H:Hp} {w lw:Addr} {row:Int} {r:List Str} (h:AtR A H w lw row r):w≠lw:=by
  obtain ⟨dw,ws,i,a,b,_⟩:=h.ex
  exact zY a b (by intro z; cases z)
def Err (A:Adr) (E:XK) (S:Addr->Prop) (H:Hp) (row:Int):Prop:=∀ d H',KpS S H H'->H' d=some (XD d [("row",.int row)])->E (.ref A.cN) (some d) H'
theorem Err.at {A:Adr} {E:XK} {S S':Addr->Prop} {H H1:Hp} {row:Int} (h:Err A E S H row) (k:KpS S H H1) (m:∀ b,S' b->S b):Err A E S' H1 row:=fun d H' k' q=>h d H' (k.trans (k'.mono m)) q
def xx (A:Adr):Sp:=fun vs H Q _=>∃ e v,vs=[.ref e,v]/\H e=some (XO e A.cN none)/\∀ d,H d=none->d≠e->Q .non (upd (upd H d (XD d [("row",v)])) e (XO e A.cN (some d)))
def yo (A:Adr):Sp:=fun vs H Q E=>∃ (w lw:Addr) (row:Int) (r:List Str) (b:Bool),vs=[.ref w,.bl b]/\AtR A H w lw row r/\(b=true->Q .non H)/\(b=false->Err A E (fun _=>False) H row)
def Yo (A:Adr):Sp:=fun vs H Q _=>∃ (w lw:Addr) (row:Int) (r:List Str),vs=[.ref w]/\AtR A H w lw row r/\Q (.bl r.isEmpty) H
def yX (A:Adr):Sp:=fun vs H Q _=>∃ (w lw:Addr) (row:Int) (r:List Str) (x:Str),vs=[.ref w,.str x]/\AtR A H w lw row r/\(match r with
  | []=>Q (.bl false) H
  | y :: r'=>if y=x then ∀ H',KpS (·=w) H H'->AtR A H' w lw row r'->Q (.bl true) H' else Q (.bl false) H)
def v6 (A:Adr):Sp:=fun vs H Q E=>∃ (w lw:Addr) (row:Int) (r:List Str),vs=[.ref w]/\AtR A H w lw row r/\(match r with
  | []=>Err A E (·=w) H row
  | y :: r'=>y.length<=1000->∀ H',KpS (·=w) H H'->AtR A H' w lw row r'->Q (.str y) H')
def ye (A:Adr):Sp:=fun vs H Q E=>∃ (w lw:Addr) (row:Int) (r:List Str),vs=[.ref w]/\AtR A H w lw row r/\(match zn LX r with
  | none=>Err A E (·=w) H row
  | some (x,r')=>∀ H',KpS (·=w) H H'->AtR A H' w lw row r'->Q (.str x) H')
def wv (A:Adr):Sp:=fun vs H Q E=>∃ (w lw:Addr) (row:Int) (r:List Str),vs=[.ref w]/\AtR A H w lw row r/\(match z7 LX r with
  | none=>Err A E (·=w) H row
  | some (x,r')=>∀ H',KpS (·=w) H H'->AtR A H' w lw row r'->Q (.int x) H')
def vv (A:Adr):Sp:=fun vs H Q E=>∃ (w lw:Addr) (row:Int) (r:List Str) (stop:Str),vs=[.ref w,.str stop]/\AtR A H w lw row r/\(match zK LX stop [] r with
  | none=>Err A E (·=w) H row
  | some (ns,r')=>∀ H' p,KpS (·=w) H H'->AtR A H' w lw row r'->H' p=some (.tup (ns.map V.str))->Q (.ref p) H')
section
variable {P:Program} {w:World} {K:PySem.W.Frag} {mg:Str->Option Value} {base:Heap} {f R:Addr} {fd:FuncData} {A:Adr}
theorem Ju:FnScope ["self","row"] ["self","row"] (zj ZH):=.ok
theorem W8 {fi:Addr} (F:Fun K "__init__" "NoText.__init__" ZH f fd) (T:Txt K mg A) (M:XCl K A.cN fi) (B:XBase K R) (mR:mg "ReuseError"=some (.ref R)):FnOk P w K mg base CX0 1 f fd ["self","row"] (xx A):=by
  refine F.by Ju (fun vs H Q E h=>?_) (fun cdv A' outer s H vs Q E hr h=>?_)
  · obtain ⟨e,v,rfl,_⟩:=h
    rfl
  obtain ⟨e,v,rfl,hX,q⟩:=h
  refine ⟨_,zb (zv ⟨V8 M B rfl mR (jA2 (jv 0) (jv 1)).out⟩) (ze ⟨zaq M (jv 0).out (jv 1).out⟩),?_⟩
  refine ⟨_,rfl,_,rfl,e,[v],none,rfl,sN1,hX,?_⟩
  exact ⟨_,rfl,_,rfl,e,rfl,hX,T.xRow,fun d hd ne=>q d hd ne⟩
theorem Jv:FnScope ["self","fits"] ["self","fits"] (zj ZJ):=.ok
theorem W9 (F:Fun K "insist" "Words.insist" ZJ f fd) (T:Txt K mg A) (G:Xa P w K mg base 1 "NoText" A.cN ["self","row"] (xx A)):FnOk P w K mg base (CXf P w) 3 f fd ["self","fits"] (yo A):=by
  refine F.byx Jv (fun vs H Q E h=>?_) (fun cdv A' outer s H vs Q E hr h=>?_)
  · obtain ⟨w,lw,row,r,b,rfl,_⟩:=h
    rfl
  obtain ⟨w,lw,row,r,b,rfl,hA,hT,hF⟩:=h
  refine ⟨_,ze (zx (yI (ym (jv 1))) (ze (vN G hr rfl Y6 (jA1 (yn (jv 0))))) zq),?_⟩
  refine ⟨_,rfl,b,rfl,?_⟩
  obtain ⟨dw,ws,i,a1,a2,a3⟩:=hA.ex
  cases b with
  | true =>
    refine iteF ?_
    exact hT rfl
  | false =>
    refine iteT ?_
    refine ⟨_,rfl,w,A.cW,dw,_,_,rfl,a1,T.clW,T.nRow,rfl,sN1,fun e he=>?_⟩
    refine ⟨e,.int row,rfl,za,fun d hd ne=>⟨rfl,some d,za,?_⟩⟩
    have hd':H d=none:=by
      rw [zg ne] at hd
      exact hd
    refine hF rfl d _ (fun b o _ q=>?_) ?_
    · have n1:b≠e:=zi q he
      have n2:b≠d:=zi q hd'
      rw [wa n1,zg n1,zg n2,zg n1]
      exact q
    · rw [wa ne,zg ne,za]
theorem zdt:FnScope ["self"] ["self"] (zj vT):=.ok
theorem zcS (F:Fun K "all_read" "Words.all_read" vT f fd) (T:Txt K mg A):FnOk P w K mg base CX0 1 f fd ["self"] (Yo A):=by
  refine F.by zdt (fun vs H Q E h=>?_) (fun cdv A' outer s H vs Q E hr h=>?_)
  · obtain ⟨w,lw,row,r,rfl,_⟩:=h
    rfl
  obtain ⟨w,lw,row,r,rfl,hA,q⟩:=h
  refine ⟨_,ze (zo (yz zV (yn (jv 0)) (z4 yq rfl T.len PySem.boot_len (jA1 (yn (jv 0)))) (y0 _))),?_⟩
  obtain ⟨dw,ws,i,a1,a2,rfl,a4,a5⟩:=hA.ex
  refine ⟨_,rfl,w,A.cW,dw,_,_,rfl,a1,T.clW,T.nAt,rfl,_,rfl,w,A.cW,dw,_,_,rfl,a1,T.clW,T.nWords,rfl,lw,_,rfl,.inl (SqL.of a2),rfl,?_⟩
  have e:decide (V.int (i:Int)=V.int (((ws.map V.str).length:Nat):Int))=(ws.drop i).isEmpty:=by
    rw [List.length_map,Bool.eq_iff_iff,decide_eq_true_iff,List.isEmpty_iff,List.drop_eq_nil_iff]
    constructor
    · intro h
      injection h with h
      lia
    · intro h
      have:i=ws.length:=by lia
      rw [this]
  have r:=q
  rw [<- e] at r
  exact r
theorem Jw:FnScope ["self","word"] ["self","word"] (zj ZK):=.ok
theorem j8 {α:Type} {l:List α} {i:Nat} {y:α} {r:List α} (h:y :: r=l.drop i):l[i]?=some y/\r=l.drop (i + 1)/\i + 1<=l.length:=by
  have hi:i < l.length:=by
    by_cases z:i < l.length
    · exact z
    · rw [List.drop_eq_nil_iff.mpr (by lia)] at h
      cases h
  rw [List.drop_eq_getElem_cons hi] at h
  injection h with h1 h2
  exact ⟨by rw [List.getElem?_eq_getElem hi,h1],h2,hi⟩
theorem Va (F:Fun K "passed" "Words.passed" ZK f fd) (T:Txt K mg A) (G:Me P w K mg base CX0 1 A.cW "all_read" ["self"] (Yo A)):FnOk P w K mg base CX0 2 f fd ["self","word"] (yX A):=by
  refine F.by Jw (fun vs H Q E h=>?_) (fun cdv A' outer s H vs Q E hr h=>?_)
  · obtain ⟨w,lw,row,r,x,rfl,_⟩:=h
    rfl
  obtain ⟨w,lw,row,r,x,rfl,hA,q⟩:=h
  refine ⟨_,zb (zx (jW.pt (X2 (ym (yd (jv 0) T.clW G hr yv)) (ZA (tN zbB (xX z5 (yn (jv 0)) (yn (jv 0))) (jv 1))))) (ze (zo xn)) zq)
    (zb (yE (jv 0) (zh zJ (yn (jv 0)) zc)) (ze (zo xn))),?_⟩
  obtain ⟨dw,ws,i,a1,a2,a3,a4,a5,a6⟩:=hA.ex
  refine ⟨_,rfl,w,dw,_,rfl,a1,rfl,w,lw,row,r,rfl,hA,_,rfl,?_⟩
  cases r with
  | nil =>
    refine iteT (iteT ?_)
    exact q
  | cons y r' =>
    refine iteF ?_
    obtain ⟨b1,b2,b3⟩:=j8 a3
    have ix:atI (ws.map V.str) (i:Int)=some (.str y):=yT (by rw [List.getElem?_map,b1]; rfl)
    refine ⟨_,rfl,w,A.cW,dw,_,_,rfl,a1,T.clW,T.nWords,rfl,_,rfl,w,A.cW,dw,_,_,rfl,a1,T.clW,T.nAt,rfl,lw,_,_,_,rfl,rfl,SqL.of a2,ix,_,rfl,rfl,_,rfl,?_⟩
    dsimp only at q
    by_cases c:y=x
    · rw [if_pos c] at q
      refine zdl (by rw [c]) ?_
      refine ⟨_,rfl,w,A.cW,dw,_,_,rfl,a1,T.clW,T.nAt,rfl,_,_,rfl,rfl,_,rfl,w,A.cW,dw,_,rfl,a1,T.clW,T.nAt,by show 3 < 1000; decide,?_⟩
      refine q _ (KpS.put rfl) ⟨dw,ws,i + 1,?_,by rw [zg hA.ne.symm]; exact a2,b2,b3,a5,a6⟩
      exact za
    · rw [if_neg c] at q
      have e:(!decide (V.str y=V.str x))=true:=by
        rw [decide_eq_false (fun z=>c (by injection z))]
        rfl
      rw [e]
      exact iteT q
theorem zcT:FnScope ["self"] ["self"] (zj wN):=.ok
theorem zaE (F:Fun K "next_word" "Words.next_word" wN f fd) (T:Txt K mg A) (GA:Me P w K mg base CX0 1 A.cW "all_read" ["self"] (Yo A)) (GI:Me P w K mg base (CXf P w) 3 A.cW "insist" ["self","fits"] (yo A)):FnOk P w K mg base (CXf P w) 4 f fd ["self"] (v6 A):=by
  refine F.byx zcT (fun vs H Q E h=>?_) (fun cdv A' outer s H vs Q E hr h=>?_)
  · obtain ⟨w,lw,row,r,rfl,_⟩:=h
    rfl
  obtain ⟨w,lw,row,r,rfl,hA,q⟩:=h
  refine ⟨_,zb (zv (yl (jv 0) T.clW GI hr zG (jA1 (ZB (yd (jv 0) T.clW GA (hr.mono (by decide)) yv)))))
    (zb (yE (jv 0) (zh zJ (yn (jv 0)) zc)) (ze (zo (xX z5 (yn (jv 0)) (zh xp (yn (jv 0)) zc))))),?_⟩
  obtain ⟨dw,ws,i,a1,a2,a3,a4,a5,a6⟩:=hA.ex
  refine ⟨_,rfl,w,dw,_,rfl,a1,rfl,_,rfl,w,dw,_,rfl,a1,rfl,w,lw,row,r,rfl,hA,_,rfl,w,lw,row,r,_,rfl,hA,fun hb=>?_,fun hb=>?_⟩
  · cases r with
    | nil=>cases hb
    | cons y r' =>
      obtain ⟨b1,b2,b3⟩:=j8 a3
      dsimp only at q
      have hy:=a6 y (List.mem_of_getElem? b1)
      refine ⟨_,rfl,w,A.cW,dw,_,_,rfl,a1,T.clW,T.nAt,rfl,_,_,rfl,rfl,_,rfl,w,A.cW,dw,_,rfl,a1,T.clW,T.nAt,by show 3 < 1000; decide,?_⟩
      have u1:upd H w (HO.ins A.cW dw (putF "at" (V.int ((i:Int) + 1)) [("row",.int row),("words",.ref lw),("at",.int i)])) w=some (WI A dw lw row (i + 1)):=za
      have u2:upd H w (HO.ins A.cW dw (putF "at" (V.int ((i:Int) + 1)) [("row",.int row),("words",.ref lw),("at",.int i)])) lw=some (.lst (ws.map V.str)):=by rw [zg hA.ne.symm]; exact a2
      have ix:atI (ws.map V.str) (((i + 1:Nat):Int) - 1)=some (.str y):=by
        have e:(((i + 1:Nat):Int) - 1)=(i:Int):=by lia
        rw [e]
        exact yT (by rw [List.getElem?_map,b1]; rfl)
      refine ⟨_,rfl,w,A.cW,dw,_,_,rfl,u1,T.clW,T.nWords,rfl,_,rfl,w,A.cW,dw,_,_,rfl,u1,T.clW,T.nAt,rfl,_,_,rfl,rfl,lw,_,_,_,rfl,rfl,SqL.of u2,ix,?_⟩
      exact q hy _ (KpS.put rfl) ⟨dw,ws,i + 1,u1,u2,b2,b3,a5,a6⟩
  · cases r with
    | nil=>exact q.at KpS.refl (fun b z=>z.elim)
    | cons y r'=>cases hb
theorem scNextName:FnScope ["self","word"] ["self"] (zj wO):=.ok
theorem Yp (F:Fun K "next_name" "Words.next_name" wO f fd) (T:Txt K mg A) (GW:Me P w K mg base (CXf P w) 4 A.cW "next_word" ["self"] (v6 A)) (GI:Me P w K mg base (CXf P w) 3 A.cW "insist" ["self","fits"] (yo A))
    (GN:Ca P w K mg base CX0 2 "is_name" ["word"] Jt):FnOk P w K mg base (CXf P w) 5 f fd ["self"] (ye A):=by
  refine F.byx scNextName (fun vs H Q E h=>?_) (fun cdv A' outer s H vs Q E hr h=>?_)
  · obtain ⟨w,lw,row,r,rfl,_⟩:=h
    rfl
  obtain ⟨w,lw,row,r,rfl,hA,q⟩:=h
  refine ⟨_,zb (sE 1 scNextName.nd (yd (jv 0) T.clW GW hr zG))
    (zb (zv (yl (jv 0) T.clW GI (hr.mono (by decide)) zG (jA1 (yJ GN (hr.mono (by decide)) rfl yv (jA1 (jv 1)))))) (ze (zo (jv 1)))),?_⟩
  obtain ⟨dw,ws,i,a1,_⟩:=hA.ex
  refine ⟨_,rfl,w,dw,_,rfl,a1,rfl,w,lw,row,r,rfl,hA,?_⟩
  cases r with
  | nil=>exact q
  | cons y r' =>
    dsimp only
    intro hy H1 k1 hA1
    obtain ⟨dw1,ws1,i1,c1,_⟩:=hA1.ex
    refine ⟨_,rfl,w,dw1,_,rfl,c1,rfl,_,rfl,y,rfl,hy,fun H2 s2=>?_⟩
    have hA2:=hA1.same s2
    have k2:KpS (·=w) H H2:=k1.trans (.of s2)
    refine ⟨w,lw,row,r',_,rfl,hA2,fun hb=>⟨_,rfl,?_⟩,fun hb=>?_⟩
    · have e:zn LX (y :: r')=some (y,r'):=z9 (L:=LX) hb
      rw [e] at q
      exact q H2 k2 hA2
    · have e:zn LX (y :: r')=none:=by
        show (if zk y=true then some (y,r') else none)=none
        rw [hb]
        rfl
      rw [e] at q
      exact q.at k2 (fun b z=>z.elim)
theorem scUntil:FnScope ["self","stop","names"] ["self","stop"] (zj Y9):=.ok
theorem Jx (F:Fun K "names_until" "Words.names_until" Y9 f fd) (T:Txt K mg A) (GP:Me P w K mg base CX0 2 A.cW "passed" ["self","word"] (yX A)) (GI:Me P w K mg base (CXf P w) 3 A.cW "insist" ["self","fits"] (yo A))
    (GN:Me P w K mg base (CXf P w) 5 A.cW "next_name" ["self"] (ye A)):FnOk P w K mg base (CXf P w) 6 f fd ["self","stop"] (vv A):=by
  refine F.byx scUntil (fun vs H Q E h=>?_) (fun cdv A' outer s H vs Q E hr h=>?_)
  · obtain ⟨w,lw,row,r,x,rfl,_⟩:=h
    rfl
  obtain ⟨w,lw,row,r0,stop,rfl,hA0,q⟩:=h
  obtain ⟨t9,m9⟩:=T.mostN
  refine ⟨_,zb (sE 2 scUntil.nd (zp zS))
    (zb (xo ownx (yI (ym (yl (jv 0) T.clW GP (hr.mono (by decide)) yv (jA1 (jv 1)))))
      (zb (zv (yl (jv 0) T.clW GI (hr.mono (by decide)) zG (jA1 (yz vg (z4 yq rfl T.len PySem.boot_len (jA1 (jv 2))) (z3 (v:=.int 9) rfl m9 ⟨_,rfl⟩) (y0 _)))))
      (ze (zv (zy PySem.F.plainAttrs_list PySem.F.slot_list_append PySem.F.type_list_append zA (jv 2) (jA1 (yd (jv 0) T.clW GN hr zG)))))))
    (ze (zo (zU zW rfl T.tuple PyProof.Rows.boot_tuple (jA1 (jv 2)))))),?_⟩
  refine ⟨sN0,fun p hp=>?_⟩
  have nw:∀ {b o},H b=some o->b≠p:=fun h=>zi h hp
  obtain ⟨dw0,ws0,i0,z1,z2,_⟩:=hA0.ex
  have npw:p≠w:=(nw z1).symm
  have npl:p≠lw:=(nw z2).symm
  refine ⟨fun m σ H2=>∃ r acc,m=r.length/\σ=[some (.ref w),some (.str stop),some (.ref p)]/\AtR A H2 w lw row r/\H2 p=some (.lst (acc.map V.str))/\KpS (·=w) H H2/\zK LX stop acc r=zK LX stop [] r0/\acc.length<=9,
    ⟨_,r0,[],rfl,rfl,hA0.same (zf hp _),za,KpS.new hp,rfl,by decide⟩,?_⟩
  rintro m σ H2 ⟨r,acc,rfl,rfl,hA,hl,k2,hu,h9⟩
  obtain ⟨dw,ws,i,a1,_⟩:=hA.ex
  refine ⟨_,rfl,w,dw,_,rfl,a1,rfl,_,rfl,w,lw,row,r,stop,rfl,hA,?_⟩
  have sl:=line
  have ln:(acc.map V.str).length=acc.length:=List.length_map _
  cases r with
  | nil =>
    dsimp only
    refine ⟨_,rfl,iteT ⟨_,fun _ _ h=>h,?_⟩⟩
    have e0:zK LX stop acc []=none:=rfl
    rw [<- hu,e0] at q
    refine ⟨_,rfl,w,dw,_,rfl,a1,rfl,_,rfl,p,_,rfl,.inl (SqL.of hl),_,_,rfl,rfl,w,lw,row,[],_,rfl,hA,fun hb=>?_,fun hb=>q.at k2 (fun b z=>z.elim)⟩
    exact ⟨_,rfl,.inl ⟨rfl,_,SqL.of hl⟩,_,rfl,w,dw,_,rfl,a1,rfl,w,lw,row,[],rfl,hA,q.at k2 (fun b z=>z)⟩
  | cons y r' =>
    dsimp only
    by_cases c:y=stop
    · rw [if_pos c]
      intro H3 k3 hA3
      refine ⟨_,rfl,iteF ?_⟩
      have e0:zK LX stop acc (y :: r')=some (acc,r'):=by
        unfold zK
        rw [if_pos c]
      rw [<- hu,e0] at q
      refine ⟨_,rfl,p,_,rfl,.inl ⟨SqL.of (k3 _ _ npw hl),fun p2 hp2=>?_⟩⟩
      exact q _ p2 ((k2.trans k3).trans (KpS.new hp2)) (hA3.same (zf hp2 _)) za
    · rw [if_neg c]
      refine ⟨_,rfl,iteT ⟨_,fun _ _ h=>h,?_⟩⟩
      refine ⟨_,rfl,w,dw,_,rfl,a1,rfl,_,rfl,p,_,rfl,.inl (SqL.of hl),_,_,rfl,rfl,w,lw,row,y :: r',_,rfl,hA,fun hb=>?_,fun hb=>?_⟩
      · have h9':acc.length < 9:=by
          have:=of_decide_eq_true hb
          rw [ln] at this
          lia
        refine ⟨_,rfl,.inl ⟨rfl,_,SqL.of hl⟩,_,rfl,w,dw,_,rfl,a1,rfl,w,lw,row,y :: r',rfl,hA,?_⟩
        by_cases cn:zk y=true
        · have e1:zn LX (y :: r')=some (y,r'):=z9 (L:=LX) cn
          rw [e1]
          dsimp only
          intro H3 k3 hA3
          refine ⟨p,_,_,rfl,rfl,k3 _ _ npw hl,by rw [ln]; lia,?_⟩
          have e2:zK LX stop acc (y :: r')=zK LX stop (acc ++ [y]) r':=by
            rw [zK]
            rw [if_neg c,if_pos ⟨h9',cn⟩]
          refine ⟨_,Nat.lt_succ_self _,r',acc ++ [y],rfl,rfl,hA3.kept (S:=(·=p)) (KpS.put rfl) npw.symm npl.symm,?_,fun b o nb hb2=>by rw [zg (nw hb2)]; exact (k2.trans k3) b o nb hb2,by rw [<- e2]; exact hu,by rw [List.length_append,List.length_singleton]; lia⟩
          · rw [za,List.map_append]
            rfl
        · have e1:zn LX (y :: r')=none:=by
            show (if zk y=true then some (y,r') else none)=none
            rw [if_neg cn]
          rw [e1]
          have e0:zK LX stop acc (y :: r')=none:=by
            rw [zK]
            rw [if_neg c,if_neg (fun z=>cn z.2)]
          rw [<- hu,e0] at q
          exact q.at k2 (fun b z=>z)
      · have h9':¬ acc.length < 9:=by
          have:=of_decide_eq_false hb
          rw [ln] at this
          lia
        have e0:zK LX stop acc (y :: r')=none:=by
          rw [zK]
          rw [if_neg c,if_neg (fun z=>h9' z.1)]
        rw [<- hu,e0] at q
        exact q.at k2 (fun b z=>z.elim)
end
theorem Jy:("-":Str)=sg 45:=by decide
theorem X9:("0":Str)=sg 48:=by decide
theorem Yq:∀ c∈cl FIGS,48<=c/\c<=57:=by decide
theorem Jz {c:Nat} (h:48<=c/\c<=57):c∈cl FIGS:=by
  have e:cl FIGS=[48,49,50,51,52,53,54,55,56,57]:=by decide
  rw [e]
  simp only [List.mem_cons,List.not_mem_nil,or_false]
  lia
theorem starts_minus {z:Str}:Txt.startswith z "-"=true↔∃ cs,cl z=45 :: cs:=by
  rw [Jy,vO]
  obtain ⟨⟨l⟩⟩:=z
  cases l with
  | nil=>simp
  | cons c r =>
    show (some c == some 45)=true↔∃ cs,c :: r=45 :: cs
    constructor
    · intro h
      have h':c=45:=by simpa using h
      exact ⟨r,by rw [h']⟩
    · rintro ⟨cs,h⟩
      injection h with h1 _
      rw [h1]
      rfl
theorem y9 {z:Str} {cs:List Nat} (h:cl z=45 :: cs):cl (zM z)=cs:=by
  unfold zM
  rw [if_pos (starts_minus.mpr ⟨cs,h⟩),vQ]
  have hl:z.length=cs.length + 1:=by rw [<- zZ,h,List.length_cons]
  have c1:cutAt z.length (some 1) 0=1:=by
    unfold cutAt
    dsimp only
    rw [if_neg (by lia)]
    lia
  rw [c1,h]
  show cs.take _=cs
  exact List.take_of_length_le (by show cs.length<=z.length - 1; lia)
theorem xa {z:Str} (h:¬ ∃ cs,cl z=45 :: cs):zM z=z:=by
  unfold zM
  rw [if_neg (fun e=>h (starts_minus.mp e))]
theorem isNumber_iff {z:Str}:zH z=true↔(1<=(cl (zM z)).length/\(cl (zM z)).length<=30)/\NumText.AllDigits (cl (zM z))/\(z=sg 48\/(cl (zM z))[0]?≠some 48):=by
  unfold zH xv
  rw [<- X9,X9,vO,zZ]
  have e0:(zM z).cps[0]?=(cl (zM z))[0]?:=by simp
  rw [e0]
  cases hm:y8 (zM z) FIGS with
  | false =>
    simp only [Bool.not_false,Bool.or_true,if_true]
    constructor
    · intro h
      cases h
    · rintro ⟨_,h,_⟩
      have:=madeOf_iff.mpr fun c hc=>Jz (h c hc)
      rw [hm] at this
      cases this
  | true =>
    have all:NumText.AllDigits (cl (zM z)):=fun c hc=>Yq c (madeOf_iff.mp hm c hc)
    simp only [Bool.not_true,Bool.or_false,Bool.not_eq_true']
    by_cases hl:1<=(zM z).length/\(zM z).length<=30
    · have d1:(decide ((1:Int)<=((zM z).length:Nat)) && decide ((((zM z).length:Nat):Int)<=30))=true:=by
        rw [decide_eq_true (by lia),decide_eq_true (by lia)]
        rfl
      rw [d1,if_neg (by decide)]
      simp only [Bool.or_eq_true,decide_eq_true_eq,Bool.not_eq_true',beq_eq_false_iff_ne]
      constructor
      · rintro (h | h)
        · exact ⟨hl,all,.inl (by injection h)⟩
        · exact ⟨hl,all,.inr h⟩
      · rintro ⟨_,_,h | h⟩
        · exact .inl (by rw [h])
        · exact .inr h
    · have d1:(decide ((1:Int)<=((zM z).length:Nat)) && decide ((((zM z).length:Nat):Int)<=30))=false:=by
        rw [Bool.eq_false_iff]
        intro h
        simp only [Bool.and_eq_true,decide_eq_true_eq] at h
        exact hl (by lia)
      rw [d1,if_pos rfl]
      constructor
      · intro h
        cases h
      · rintro ⟨h,_⟩
        exact absurd h hl
theorem Xt {z:Str} (h:zH z=true):PySem.intText? z=some (yt z)/\z.length<=640:=by
  obtain ⟨⟨h1,h2⟩,h3,_⟩:=isNumber_iff.mp h
  have key:∃ n,PySem.intText? z=some n/\z.length<=640:=by
    by_cases c:∃ cs,cl z=45 :: cs
    · obtain ⟨cs,hc⟩:=c
      rw [y9 hc] at h1 h2 h3
      have hl:z.length=cs.length + 1:=by rw [<- zZ,hc,List.length_cons]
      exact ⟨_,PySem.intText_neg hc h3 (fun e=>by rw [e] at h1; simp at h1) (by lia),by lia⟩
    · rw [xa c] at h1 h2 h3
      have hl:=zZ z
      exact ⟨_,PySem.intText_digits h3 (fun e=>by rw [show cl z=[] from e] at h1; simp at h1) (by lia),by lia⟩
  obtain ⟨n,e,hl⟩:=key
  exact ⟨by unfold yt; rw [e]; rfl,hl⟩
theorem yU {n:Int} (h:n.natAbs < 10 ^ 30):zH (Str.ofString (toString n))=true/\yt (Str.ofString (toString n))=n:=by
  have len:∀ m:Nat,m < 10 ^ 30->1<=((Nat.toDigits 10 m).map Char.toNat).length/\((Nat.toDigits 10 m).map Char.toNat).length<=30:=fun m hm=>by
    rw [List.length_map]
    exact ⟨Nat.length_toDigits_pos,(Nat.length_toDigits_le_iff (by decide) (by decide)).mpr hm⟩
  cases n with
  | ofNat m =>
    have hm:m < 10 ^ 30:=h
    have e:cl (Str.ofString (toString (Int.ofNat m)))=(Nat.toDigits 10 m).map Char.toNat:=Jh m
    have all:=Yk m
    have np:¬ ∃ cs,cl (Str.ofString (toString (Int.ofNat m)))=45 :: cs:=by
      rintro ⟨cs,hc⟩
      rw [e] at hc
      have:=all 45 (by rw [hc]; exact List.mem_cons_self)
      lia
    have l:=len m hm
    refine ⟨isNumber_iff.mpr ?_,?_⟩
    · rw [xa np,e]
      refine ⟨l,all,?_⟩
      by_cases m0:m=0
      · left
        rw [m0]
        decide
      · right
        obtain ⟨c,r,hc,h49⟩:=j5 m m0
        rw [hc]
        simp
        lia
    · unfold yt
      rw [PySem.intText_digits (x:=Str.ofString (toString (Int.ofNat m))) (by rw [show (Str.ofString (toString (Int.ofNat m))).cps.toList=_ from e]; exact all) (fun z=>by rw [show (Str.ofString (toString (Int.ofNat m))).cps.toList=_ from e] at z; rw [z] at l; simp at l) (by rw [<- zZ,e]; lia)]
      rw [show (Str.ofString (toString (Int.ofNat m))).cps.toList=_ from e,PySem.W.KIN.val_back]
      rfl
  | negSucc m =>
    have hm:m + 1 < 10 ^ 30:=h
    have e:=Ji m
    have all:=Yk (m + 1)
    have l:=len (m + 1) hm
    refine ⟨isNumber_iff.mpr ?_,?_⟩
    · rw [y9 e]
      refine ⟨l,all,.inr ?_⟩
      obtain ⟨c,r,hc,h49⟩:=j5 (m + 1) (by lia)
      rw [hc]
      simp
      lia
    · unfold yt
      rw [PySem.intText_neg e all (fun z=>by rw [z] at l; simp at l) (by rw [<- zZ,e,List.length_cons]; lia),PySem.W.KIN.val_back]
      rfl
mutual
inductive Is (H:Hp):D->V->Prop
  | int (i:Int):Is H (.int i) (.int i)
  | str (x:Str):Is H (.str x) (.str x)
  | tup {ds:List D} {vs:List V} {p:Addr}:H p=some (.tup vs)->IsL H ds vs->Is H (.tup ds) (.ref p)
inductive IsL (H:Hp):List D->List V->Prop
  | nil:IsL H [] []
  | cons {d:D} {v:V} {ds:List D} {vs:List V}:Is H d v->IsL H ds vs->IsL H (d :: ds) (v :: vs)
end
def Tups (H H':Hp):Prop:=∀ p xs,H p=some (.tup xs)->H' p=some (.tup xs)
theorem Tups.trans {H H1 H2:Hp} (a:Tups H H1) (b:Tups H1 H2):Tups H H2:=fun p xs h=>b p xs (a p xs h)
mutual
theorem Is.keep {H H':Hp} (k:Tups H H'):∀ {d:D} {v:V},Is H d v->Is H' d v
  | _,_,.int i=>.int i
  | _,_,.str x=>.str x
  | _,_,.tup h l=>.tup (k _ _ h) (IsL.keep k l)
theorem IsL.keep {H H':Hp} (k:Tups H H'):∀ {ds:List D} {vs:List V},IsL H ds vs->IsL H' ds vs
  | _,_,.nil=>.nil
  | _,_,.cons a b=>.cons (Is.keep k a) (IsL.keep k b)
end
theorem IsL.strs {H:Hp}:∀ (l:List Str),IsL H (l.map D.str) (l.map V.str)
  | []=>.nil
  | x :: l=>.cons (.str x) (IsL.strs l)
theorem IsL.app {H:Hp}:∀ {ds es:List D} {vs us:List V},IsL H ds vs->IsL H es us->IsL H (ds ++ es) (vs ++ us)
  | _,_,_,_,.nil,b=>b
  | _,_,_,_,.cons a l,b=>.cons a (IsL.app l b)
theorem IsL.len {H:Hp}:∀ {ds:List D} {vs:List V},IsL H ds vs->ds.length=vs.length
  | _,_,.nil=>rfl
  | _,_,.cons _ l=>by rw [List.length_cons,List.length_cons,IsL.len l]
theorem KpS.tups {S:Addr->Prop} {H H':Hp} (k:KpS S H H') (n:∀ b,S b->∀ xs,H b≠some (.tup xs)):Tups H H':=fun p xs h=>k p _ (fun z=>n p z xs h) h
theorem Tups.new {H:Hp} {a:Addr} {o:HO} (h:H a=none):Tups H (upd H a o):=fun p xs q=>by rw [zg (zi q h)]; exact q
theorem AtR.notup {A:Adr} {H:Hp} {w lw:Addr} {row:Int} {r:List Str} (h:AtR A H w lw row r):∀ b,b=w->∀ xs,H b≠some (.tup xs):=fun b e xs z=>by
  obtain ⟨dw,ws,i,a1,_⟩:=h.ex
  rw [e,a1] at z
  cases z
theorem AtR.tups {A:Adr} {H H':Hp} {w lw:Addr} {row:Int} {r:List Str} (h:AtR A H w lw row r) (k:KpS (·=w) H H'):Tups H H':=k.tups h.notup
def JA (A:Adr):Sp:=fun vs H Q E=>∃ (w lw:Addr) (row:Int) (r:List Str),vs=[.ref w]/\AtR A H w lw row r/\(match deed LX r with
  | none=>Err A E (·=w) H row
  | some (d,r')=>∀ H' v,KpS (·=w) H H'->AtR A H' w lw row r'->Is H' d v->Q v H')
def Xu (A:Adr):Sp:=fun vs H Q E=>∃ (w lw:Addr) (row:Int) (r:List Str),vs=[.ref w]/\AtR A H w lw row r/\(match head LX r with
  | none=>Err A E (·=w) H row
  | some ((t,ns),r')=>∀ H' p pn,KpS (·=w) H H'->AtR A H' w lw row r'->H' p=some (.tup [.str t,.ref pn])->H' pn=some (.tup (ns.map V.str))->Q (.ref p) H')
section
variable {P:Program} {w:World} {K:PySem.W.Frag} {mg:Str->Option Value} {base:Heap} {f R ao ad:Addr} {fd:FuncData} {A:Adr}
theorem scNextNumber:FnScope ["self","word"] ["self"] (zj xu):=.ok
theorem jC (F:Fun K "next_number" "Words.next_number" xu f fd) (T:Txt K mg A) (GW:Me P w K mg base (CXf P w) 4 A.cW "next_word" ["self"] (v6 A)) (GI:Me P w K mg base (CXf P w) 3 A.cW "insist" ["self","fits"] (yo A))
    (GN:Ca P w K mg base CX0 2 "is_number" ["word"] Yn):FnOk P w K mg base (CXf P w) 5 f fd ["self"] (wv A):=by
  refine F.byx scNextNumber (fun vs H Q E h=>?_) (fun cdv A' outer s H vs Q E hr h=>?_)
  · obtain ⟨w,lw,row,r,rfl,_⟩:=h
    rfl
  obtain ⟨w,lw,row,r,rfl,hA,q⟩:=h
  refine ⟨_,zb (sE 1 scNextNumber.nd (yd (jv 0) T.clW GW hr zG))
    (zb (zv (yl (jv 0) T.clW GI (hr.mono (by decide)) zG (jA1 (yJ GN (hr.mono (by decide)) rfl yv (jA1 (jv 1)))))) (ze (zo (zU vj rfl T.int PyProof.Rows.boot_int (jA1 (jv 1)))))),?_⟩
  obtain ⟨dw,ws,i,a1,_⟩:=hA.ex
  refine ⟨_,rfl,w,dw,_,rfl,a1,rfl,w,lw,row,r,rfl,hA,?_⟩
  cases r with
  | nil=>exact q
  | cons y r' =>
    dsimp only
    intro hy H1 k1 hA1
    obtain ⟨dw1,ws1,i1,c1,_⟩:=hA1.ex
    refine ⟨_,rfl,w,dw1,_,rfl,c1,rfl,_,rfl,y,rfl,hy,fun H2 s2=>?_⟩
    have hA2:=hA1.same s2
    have k2:KpS (·=w) H H2:=k1.trans (.of s2)
    refine ⟨w,lw,row,r',_,rfl,hA2,fun hb=>⟨_,rfl,?_⟩,fun hb=>?_⟩
    · have e:z7 LX (y :: r')=some (yt y,r'):=by
        show (if zH y=true then some (yt y,r') else none)=_
        rw [if_pos hb]
      rw [e] at q
      obtain ⟨n1,n2⟩:=Xt hb
      exact ⟨y,_,rfl,n1,n2,q H2 k2 hA2⟩
    · have e:z7 LX (y :: r')=none:=by
        show (if zH y=true then some (yt y,r') else none)=none
        rw [hb]
        rfl
      rw [e] at q
      exact q.at k2 (fun b z=>z.elim)
theorem scReadHead:FnScope ["words","tag"] ["words"] (zj wT):=.ok
theorem zaF (F:Fun K "read_head" "read_head" wT f fd) (T:Txt K mg A) (GN:Me P w K mg base (CXf P w) 5 A.cW "next_name" ["self"] (ye A)) (GU:Me P w K mg base (CXf P w) 6 A.cW "names_until" ["self","stop"] (vv A)):FnOk P w K mg base (CXf P w) 7 f fd ["words"] (Xu A):=by
  refine F.byx scReadHead (fun vs H Q E h=>?_) (fun cdv A' outer s H vs Q E hr h=>?_)
  · obtain ⟨w,lw,row,r,rfl,_⟩:=h
    rfl
  obtain ⟨w,lw,row,r,rfl,hA,q⟩:=h
  refine ⟨_,zb (sE 1 scReadHead.nd (yd (jv 0) T.clW GN (hr.mono (by decide)) zG))
    (ze (zo (zz (jA2 (jv 1) (yl (jv 0) T.clW GU hr zG (jA1 zd)))))),?_⟩
  obtain ⟨dw,ws,i,a1,_⟩:=hA.ex
  refine ⟨_,rfl,w,dw,_,rfl,a1,rfl,w,lw,row,r,rfl,hA,?_⟩
  unfold head at q
  cases e:zn LX r with
  | none =>
    rw [e] at q
    exact q
  | some pr =>
    obtain ⟨t,r1⟩:=pr
    rw [e] at q
    dsimp only [Option.bind_some] at q ⊢
    intro H1 k1 hA1
    obtain ⟨dw1,ws1,i1,c1,_⟩:=hA1.ex
    refine ⟨_,rfl,_,rfl,w,dw1,_,rfl,c1,rfl,w,lw,row,r1,_,rfl,hA1,?_⟩
    cases e2:zK LX ":" [] r1 with
    | none =>
      rw [e2] at q
      exact q.at k1 (fun b z=>z)
    | some pr2 =>
      obtain ⟨ns,r2⟩:=pr2
      rw [e2] at q
      dsimp only [Option.map_some] at q ⊢
      intro H2 pn k2 hA2 hpn
      refine ⟨sN2,fun p hp=>?_⟩
      exact q _ p pn ((k1.trans k2).trans (KpS.new hp)) (hA2.same (zf hp _)) za (by rw [zg (zi hpn hp)]; exact hpn)
theorem scDeed:FnScope ["words","word","a","name"] ["words"] (zj wU):=.ok
theorem wy {x:Str}:∀ {l:List Str},inV (.str x) (l.map V.str)=decide (x∈l)
  | []=>rfl
  | y :: l=>by
    have ih:=wy (x:=x) (l:=l)
    unfold inV at ih ⊢
    rw [List.map_cons,List.any_cons,ih]
    show ((y == x) || decide (x∈l))=decide (x∈y :: l)
    rw [Bool.eq_iff_iff]
    simp only [Bool.or_eq_true,beq_iff_eq,decide_eq_true_iff,List.mem_cons]
    constructor
    · rintro (h | h)
      · exact .inl h.symm
      · exact .inr h
    · rintro (h | h)
      · exact .inl h.symm
      · exact .inr h
theorem iteS {x y:Str} {A B:Prop} (e:x=y) (h:A):if decide (V.str x=V.str y)=true then A else B:=by
  rw [decide_eq_true (congrArg V.str e)]
  exact iteT h
theorem xV {x y:Str} {A B:Prop} (e:x≠y) (h:B):if decide (V.str x=V.str y)=true then A else B:=by
  rw [decide_eq_false (fun z=>e (by injection z))]
  exact iteF h
theorem iteD {c A B:Prop} [Decidable c] (e:c) (h:A):if decide c=true then A else B:=by
  rw [decide_eq_true e]
  exact iteT h
theorem xW {c A B:Prop} [Decidable c] (e:¬ c) (h:B):if decide c=true then A else B:=by
  rw [decide_eq_false e]
  exact iteF h
theorem zaG (F:Fun K "read_deed" "read_deed" wU f fd) (T:Txt K mg A) (GW:Me P w K mg base (CXf P w) 4 A.cW "next_word" ["self"] (v6 A)) (GI:Me P w K mg base (CXf P w) 3 A.cW "insist" ["self","fits"] (yo A))
    (GN:Me P w K mg base (CXf P w) 5 A.cW "next_name" ["self"] (ye A)) (GM:Me P w K mg base (CXf P w) 5 A.cW "next_number" ["self"] (wv A)) (GU:Me P w K mg base (CXf P w) 6 A.cW "names_until" ["self","stop"] (vv A))
    (mO:mg "OPS"=some (.ref ao)) (hO:∀ H:Hp,SqT K H ao (OPS.map V.str)) (mD:mg "NAMING_DEEDS"=some (.ref ad)) (hD:∀ H:Hp,SqT K H ad (DEEDS.map V.str)):FnOk P w K mg base (CXf P w) 7 f fd ["words"] (JA A):=by
  refine F.byx scDeed (fun vs H Q E h=>?_) (fun cdv A' outer s H vs Q E hr h=>?_)
  · obtain ⟨w,lw,row,r,rfl,_⟩:=h
    rfl
  obtain ⟨w,lw,row,r,rfl,hA,q⟩:=h
  refine ⟨_,zb (sE 1 scDeed.nd (yd (jv 0) T.clW GW (hr.mono (by decide)) zG))
    (zb (zx (tN zV (jv 1) zd) (ze (zo (zz (jA2 zd (yd (jv 0) T.clW GM (hr.mono (by decide)) zG))))) zq)
    (zb (zx (Zy wL (jv 1) (z3 (v:=.ref ao) rfl mO rfl) (by with_unfolding_all rfl)) (zb (sE 2 scDeed.nd (yd (jv 0) T.clW GN (hr.mono (by decide)) zG)) (ze (zo (zz (jA4 zd (jv 1) (jv 2) (yd (jv 0) T.clW GN (hr.mono (by decide)) zG)))))) zq)
    (zb (zv (yl (jv 0) T.clW GI (hr.mono (by decide)) zG (jA1 (yz wL (jv 1) (z3 (v:=.ref ad) rfl mD rfl) (by with_unfolding_all rfl)))))
    (zb (sE 3 scDeed.nd (yd (jv 0) T.clW GN (hr.mono (by decide)) zG))
    (ze (zo (zz (jA3 (jv 1) (jv 3) (yl (jv 0) T.clW GU hr zG (jA1 zd)))))))))),?_⟩
  obtain ⟨dw,ws,i,a1,_⟩:=hA.ex
  refine ⟨_,rfl,w,dw,_,rfl,a1,rfl,w,lw,row,r,rfl,hA,?_⟩
  cases r with
  | nil=>exact q
  | cons y r' =>
    dsimp only
    intro hy H1 k1 hA1
    obtain ⟨dw1,ws1,i1,c1,_⟩:=hA1.ex
    refine ⟨_,rfl,rfl,_,rfl,?_⟩
    unfold deed at q
    dsimp only at q
    by_cases y1:y="num"
    · rw [if_pos y1] at q
      refine iteS y1 ?_
      refine ⟨_,rfl,w,dw1,_,rfl,c1,rfl,w,lw,row,r',rfl,hA1,?_⟩
      cases e:z7 LX r' with
      | none =>
        rw [e] at q
        exact q.at k1 (fun b z=>z)
      | some pr =>
        obtain ⟨n,r2⟩:=pr
        rw [e] at q
        dsimp only [Option.map_some] at q ⊢
        intro H2 k2 hA2
        refine ⟨sN2,fun p hp=>?_⟩
        exact q _ _ ((k1.trans k2).trans (KpS.new hp)) (hA2.same (zf hp _)) (.tup za (.cons (.str _) (.cons (.int _) .nil)))
    rw [if_neg y1] at q
    refine xV y1 ?_
    refine ⟨_,rfl,ao,_,rfl,.inr (hO _),rfl,by decide +kernel,_,rfl,?_⟩
    rw [wy]
    by_cases y2:y∈OPS
    · rw [if_pos y2] at q
      refine iteD y2 ?_
      refine ⟨_,rfl,w,dw1,_,rfl,c1,rfl,w,lw,row,r',rfl,hA1,?_⟩
      cases e:zn LX r' with
      | none =>
        rw [e] at q
        exact q.at k1 (fun b z=>z)
      | some pr =>
        obtain ⟨a,r2⟩:=pr
        rw [e] at q
        dsimp only [Option.bind_some] at q ⊢
        intro H2 k2 hA2
        obtain ⟨dw2,ws2,i2,c2,_⟩:=hA2.ex
        refine ⟨_,rfl,_,rfl,_,rfl,w,dw2,_,rfl,c2,rfl,w,lw,row,r2,rfl,hA2,?_⟩
        cases e2:zn LX r2 with
        | none =>
          rw [e2] at q
          exact q.at (k1.trans k2) (fun b z=>z)
        | some pr2 =>
          obtain ⟨b,r3⟩:=pr2
          rw [e2] at q
          dsimp only [Option.map_some] at q ⊢
          intro H3 k3 hA3
          refine ⟨sN4,fun p hp=>?_⟩
          exact q _ _ (((k1.trans k2).trans k3).trans (KpS.new hp)) (hA3.same (zf hp _)) (.tup za (.cons (.str _) (.cons (.str _) (.cons (.str _) (.cons (.str _) .nil)))))
    rw [if_neg y2] at q
    refine xW y2 ?_
    refine ⟨_,rfl,w,dw1,_,rfl,c1,rfl,_,rfl,ad,_,rfl,.inr (hD _),rfl,by decide +kernel,?_⟩
    rw [if_neg Bool.false_ne_true,wy]
    refine ⟨w,lw,row,r',_,rfl,hA1,fun hb=>?_,fun hb=>?_⟩
    · rw [if_pos (of_decide_eq_true hb)] at q
      refine ⟨_,rfl,w,dw1,_,rfl,c1,rfl,w,lw,row,r',rfl,hA1,?_⟩
      cases e:zn LX r' with
      | none =>
        rw [e] at q
        exact q.at k1 (fun b z=>z)
      | some pr =>
        obtain ⟨a,r2⟩:=pr
        rw [e] at q
        dsimp only [Option.bind_some] at q ⊢
        intro H2 k2 hA2
        obtain ⟨dw2,ws2,i2,c2,_⟩:=hA2.ex
        refine ⟨_,rfl,_,rfl,_,rfl,w,dw2,_,rfl,c2,rfl,w,lw,row,r2,_,rfl,hA2,?_⟩
        cases e2:zK LX ";" [] r2 with
        | none =>
          rw [e2] at q
          exact q.at (k1.trans k2) (fun b z=>z)
        | some pr2 =>
          obtain ⟨ns,r3⟩:=pr2
          rw [e2] at q
          dsimp only [Option.map_some] at q ⊢
          intro H3 pn k3 hA3 hpn
          refine ⟨sN3,fun p hp=>?_⟩
          have hpn':upd H3 p (.tup [.str y,.str a,.ref pn]) pn=some (.tup (ns.map V.str)):=by rw [zg (zi hpn hp)]; exact hpn
          exact q _ _ (((k1.trans k2).trans k3).trans (KpS.new hp)) (hA3.same (zf hp _)) (.tup za (.cons (.str _) (.cons (.str _) (.cons (.tup hpn' (IsL.strs ns)) .nil))))
    · rw [if_neg (of_decide_eq_false hb)] at q
      exact q.at k1 (fun b z=>z.elim)
end
theorem Is.nn {H:Hp} {d:D} {v:V} (h:Is H d v):v≠.non:=by
  cases h <;> intro z <;> cases z
def FrIs (A:Adr) (H:Hp):Fr->Addr->List Addr->Prop
  | .lt x d,b,fp=>fp=[b]/\∃ dx v,H b=some (.ins A.cL dx [("binds",.str x),("deed",v)])/\Is H d v
  | .if0 x,b,fp=>fp=[b]/\∃ dx,H b=some (.ins A.cI dx [("looked",.str x),("first",.non)])
  | .if1 x d,b,fp=>fp=[b]/\∃ dx v,H b=some (.ins A.cI dx [("looked",.str x),("first",v)])/\Is H d v
  | .cs x arms tag ns,b,fp=>∃ la,fp=[b,la]/\∃ dx ph pn va,H b=some (.ins A.cC dx [("looked",.str x),("arms",.ref la),("head",.ref ph)])/\H la=some (.lst va)/\IsL H arms va/\arms.length<=20/\H ph=some (.tup [.str tag,.ref pn])/\H pn=some (.tup (ns.map V.str))
theorem FrIs.keep {A:Adr} {H H':Hp} {fr:Fr} {b:Addr} {fp:List Addr} (h:FrIs A H fr b fp) (k:∀ x∈fp,∀ o,H x=some o->H' x=some o) (t:Tups H H'):FrIs A H' fr b fp:=by
  cases fr with
  | lt x d =>
    obtain ⟨rfl,dx,v,h1,h2⟩:=h
    exact ⟨rfl,dx,v,k _ (List.mem_singleton.mpr rfl) _ h1,h2.keep t⟩
  | if0 x =>
    obtain ⟨rfl,dx,h1⟩:=h
    exact ⟨rfl,dx,k _ (List.mem_singleton.mpr rfl) _ h1⟩
  | if1 x d =>
    obtain ⟨rfl,dx,v,h1,h2⟩:=h
    exact ⟨rfl,dx,v,k _ (List.mem_singleton.mpr rfl) _ h1,h2.keep t⟩
  | cs x arms tag ns =>
    obtain ⟨la,rfl,dx,ph,pn,va,h1,h2,h3,h4,h5,h6⟩:=h
    exact ⟨la,rfl,dx,ph,pn,va,k _ List.mem_cons_self _ h1,k _ (List.mem_cons_of_mem _ List.mem_cons_self) _ h2,h3.keep t,h4,t _ _ h5,t _ _ h6⟩
theorem FrIs.mem {A:Adr} {H:Hp} {fr:Fr} {b:Addr} {fp:List Addr} (h:FrIs A H fr b fp):b∈fp/\∀ x∈fp,∃ o,H x=some o/\∀ xs,o≠.tup xs:=by
  cases fr with
  | lt x d =>
    obtain ⟨rfl,dx,v,h1,h2⟩:=h
    exact ⟨List.mem_singleton.mpr rfl,fun y hy=>by rw [List.mem_singleton.mp hy]; exact ⟨_,h1,by intro xs z; cases z⟩⟩
  | if0 x =>
    obtain ⟨rfl,dx,h1⟩:=h
    exact ⟨List.mem_singleton.mpr rfl,fun y hy=>by rw [List.mem_singleton.mp hy]; exact ⟨_,h1,by intro xs z; cases z⟩⟩
  | if1 x d =>
    obtain ⟨rfl,dx,v,h1,h2⟩:=h
    exact ⟨List.mem_singleton.mpr rfl,fun y hy=>by rw [List.mem_singleton.mp hy]; exact ⟨_,h1,by intro xs z; cases z⟩⟩
  | cs x arms tag ns =>
    obtain ⟨la,rfl,dx,ph,pn,va,h1,h2,_⟩:=h
    refine ⟨List.mem_cons_self,fun y hy=>?_⟩
    rcases List.mem_cons.mp hy with e | hy
    · rw [e]; exact ⟨_,h1,by intro xs z; cases z⟩
    · rw [List.mem_singleton.mp hy]; exact ⟨_,h2,by intro xs z; cases z⟩
def Wa (A:Adr):Sp:=fun vs H Q E=>∃ (b w lw dx:Addr) (row:Int) (r:List Str),vs=[.ref b,.ref w]/\AtR A H w lw row r/\H b=some (.ins A.cL dx [])/\b≠w/\(match (zn LX r).bind fun p=>(deed LX p.2).map fun q=>(p.1,q) with
  | none=>Err A E (fun y=>y=w\/y=b) H row
  | some (x,d,r')=>∀ H',KpS (fun y=>y=w\/y=b) H H'->AtR A H' w lw row r'->FrIs A H' (.lt x d) b [b]->Q .non H')
def Wb (A:Adr):Sp:=fun vs H Q E=>∃ (b w lw dx:Addr) (row:Int) (r:List Str),vs=[.ref b,.ref w]/\AtR A H w lw row r/\H b=some (.ins A.cI dx [])/\b≠w/\(match zn LX r with
  | none=>Err A E (fun y=>y=w\/y=b) H row
  | some (x,r')=>∀ H',KpS (fun y=>y=w\/y=b) H H'->AtR A H' w lw row r'->FrIs A H' (.if0 x) b [b]->Q .non H')
def Wc (A:Adr):Sp:=fun vs H Q E=>∃ (b w lw dx:Addr) (row:Int) (r:List Str),vs=[.ref b,.ref w]/\AtR A H w lw row r/\H b=some (.ins A.cC dx [])/\b≠w/\(match (zn LX r).bind fun p=>(head LX p.2).map fun q=>(p.1,q) with
  | none=>Err A E (fun y=>y=w\/y=b) H row
  | some (x,(t,ns),r')=>∀ H' la,KpS (fun y=>y=w\/y=b) H H'->AtR A H' w lw row r'->H la=none->FrIs A H' (.cs x [] t ns) b [b,la]->Q .non H')
def kL:Fr->Bool
  | .lt _ _=>true
  | _=>false
def kI:Fr->Bool
  | .if0 _=>true
  | .if1 _ _=>true
  | _=>false
def kC:Fr->Bool
  | .cs _ _ _ _=>true
  | _=>false
def xb (A:Adr) (c:Fr->Bool):Sp:=fun vs H Q E=>∃ (b w lw:Addr) (row:Int) (r:List Str) (fr:Fr) (fp:List Addr) (d:D) (v:V),vs=[.ref b,.ref w,v]/\AtR A H w lw row r/\FrIs A H fr b fp/\c fr=true/\(w :: lw :: fp).Nodup/\Is H d v/\(match fill LX d [] fr r with
  | none=>Err A E (fun y=>y=w\/y∈fp) H row
  | some ⟨_,some d',r'⟩=>∀ H' v',KpS (fun y=>y=w\/y∈fp) H H'->AtR A H' w lw row r'->Is H' d' v'->Q v' H'
  | some ⟨f' :: _,none,r'⟩=>∀ H',KpS (fun y=>y=w\/y∈fp) H H'->AtR A H' w lw row r'->FrIs A H' f' b fp->Q .non H'
  | some ⟨[],none,r'⟩=>True)
section
variable {P:Program} {w:World} {K:PySem.W.Frag} {mg:Str->Option Value} {base:Heap} {f:Addr} {fd:FuncData} {A:Adr}
theorem zaH:FnScope ["self","words"] ["self","words"] (zj Xb):=.ok
theorem JB (F:Fun K "__init__" "BegunLet.__init__" Xb f fd) (T:Txt K mg A) (GN:Me P w K mg base (CXf P w) 5 A.cW "next_name" ["self"] (ye A)) (GD:Ca P w K mg base (CXf P w) 7 "read_deed" ["words"] (JA A)):FnOk P w K mg base (CXf P w) 8 f fd ["self","words"] (Wa A):=by
  refine F.byx zaH (fun vs H Q E h=>?_) (fun cdv A' outer s H vs Q E hr h=>?_)
  · obtain ⟨b,w,lw,dx,row,r,rfl,_⟩:=h
    rfl
  obtain ⟨b,w,lw,dx,row,r,rfl,hA,hb,nbw,q⟩:=h
  refine ⟨_,zb (yE (jv 0) (yd (jv 1) T.clW GN (hr.mono (by decide)) zG)) (ze (yE (jv 0) (yJ GD hr rfl zG (jA1 (jv 1))))),?_⟩
  obtain ⟨dw,ws,i,a1,a2,_⟩:=hA.ex
  have nbl:b≠lw:=zY hb a2 (by intro z; cases z)
  refine ⟨_,rfl,w,dw,_,rfl,a1,rfl,w,lw,row,r,rfl,hA,?_⟩
  cases e:zn LX r with
  | none =>
    rw [e] at q
    exact q.at KpS.refl (fun y z=>.inl z)
  | some pr =>
    obtain ⟨x,r1⟩:=pr
    rw [e] at q
    dsimp only [Option.bind_some] at q ⊢
    intro H1 k1 hA1
    refine ⟨_,rfl,b,A.cL,dx,_,rfl,k1 _ _ nbw hb,T.clL,T.nBinds,by show 0 < 1000; decide,?_⟩
    have k1':KpS (fun y=>y=w\/y=b) H (upd H1 b (.ins A.cL dx (putF "binds" (.str x) []))):=(k1.mono fun y z=>.inl z).trans (KpS.put (.inr rfl))
    have hA1':AtR A (upd H1 b (.ins A.cL dx (putF "binds" (.str x) []))) w lw row r1:=hA1.kept (S:=(·=b)) (KpS.put rfl) nbw.symm nbl.symm
    refine ⟨_,rfl,w,lw,row,r1,rfl,hA1',?_⟩
    cases e2:deed LX r1 with
    | none =>
      rw [e2] at q
      exact q.at k1' (fun y z=>.inl z)
    | some pr2 =>
      obtain ⟨d,r2⟩:=pr2
      rw [e2] at q
      dsimp only [Option.map_some] at q ⊢
      intro H2 v k2 hA2 hv
      have hb2:H2 b=some (.ins A.cL dx [("binds",.str x)]):=k2 _ _ nbw za
      refine ⟨_,rfl,b,A.cL,dx,_,rfl,hb2,T.clL,T.nDeed,by show 1 < 1000; decide,?_⟩
      have tp:Tups H2 (upd H2 b (.ins A.cL dx (putF "deed" v [("binds",.str x)]))):=fun p xs z=>by rw [zg (zY z hb2 (by intro z; cases z))]; exact z
      refine q _ ((k1'.trans (k2.mono fun y z=>.inl z)).trans (KpS.put (.inr rfl))) (hA2.kept (S:=(·=b)) (KpS.put rfl) nbw.symm nbl.symm) ⟨rfl,dx,v,za,hv.keep tp⟩
theorem zaI:FnScope ["self","words"] ["self","words"] (zj Xd):=.ok
theorem JC (F:Fun K "__init__" "BegunIf.__init__" Xd f fd) (T:Txt K mg A) (GN:Me P w K mg base (CXf P w) 5 A.cW "next_name" ["self"] (ye A)):FnOk P w K mg base (CXf P w) 6 f fd ["self","words"] (Wb A):=by
  refine F.byx zaI (fun vs H Q E h=>?_) (fun cdv A' outer s H vs Q E hr h=>?_)
  · obtain ⟨b,w,lw,dx,row,r,rfl,_⟩:=h
    rfl
  obtain ⟨b,w,lw,dx,row,r,rfl,hA,hb,nbw,q⟩:=h
  refine ⟨_,zb (yE (jv 0) (yd (jv 1) T.clW GN hr zG)) (ze (yE (jv 0) vI)),?_⟩
  obtain ⟨dw,ws,i,a1,a2,_⟩:=hA.ex
  have nbl:b≠lw:=zY hb a2 (by intro z; cases z)
  refine ⟨_,rfl,w,dw,_,rfl,a1,rfl,w,lw,row,r,rfl,hA,?_⟩
  cases e:zn LX r with
  | none =>
    rw [e] at q
    exact q.at KpS.refl (fun y z=>.inl z)
  | some pr =>
    obtain ⟨x,r1⟩:=pr
    rw [e] at q
    dsimp only at q ⊢
    intro H1 k1 hA1
    refine ⟨_,rfl,b,A.cI,dx,_,rfl,k1 _ _ nbw hb,T.clI,T.nLooked,by show 0 < 1000; decide,?_⟩
    refine ⟨_,rfl,b,A.cI,dx,_,rfl,za,T.clI,T.nFirst,by show 1 < 1000; decide,?_⟩
    refine q _ (((k1.mono fun y z=>.inl z).trans (KpS.put (.inr rfl))).trans (KpS.put (.inr rfl))) ((hA1.kept (S:=(·=b)) (KpS.put rfl) nbw.symm nbl.symm).kept (S:=(·=b)) (KpS.put rfl) nbw.symm nbl.symm) ⟨rfl,dx,za⟩
theorem zaJ:FnScope ["self","words"] ["self","words"] (zj Xf):=.ok
theorem JD (F:Fun K "__init__" "BegunCase.__init__" Xf f fd) (T:Txt K mg A) (GN:Me P w K mg base (CXf P w) 5 A.cW "next_name" ["self"] (ye A)) (GH:Ca P w K mg base (CXf P w) 7 "read_head" ["words"] (Xu A)):FnOk P w K mg base (CXf P w) 8 f fd ["self","words"] (Wc A):=by
  refine F.byx zaJ (fun vs H Q E h=>?_) (fun cdv A' outer s H vs Q E hr h=>?_)
  · obtain ⟨b,w,lw,dx,row,r,rfl,_⟩:=h
    rfl
  obtain ⟨b,w,lw,dx,row,r,rfl,hA,hb,nbw,q⟩:=h
  refine ⟨_,zb (yE (jv 0) (yd (jv 1) T.clW GN (hr.mono (by decide)) zG)) (zb (yE (jv 0) (zp zS)) (ze (yE (jv 0) (yJ GH hr rfl zG (jA1 (jv 1)))))),?_⟩
  obtain ⟨dw,ws,i,a1,a2,_⟩:=hA.ex
  have nbl:b≠lw:=zY hb a2 (by intro z; cases z)
  refine ⟨_,rfl,w,dw,_,rfl,a1,rfl,w,lw,row,r,rfl,hA,?_⟩
  cases e:zn LX r with
  | none =>
    rw [e] at q
    exact q.at KpS.refl (fun y z=>.inl z)
  | some pr =>
    obtain ⟨x,r1⟩:=pr
    rw [e] at q
    dsimp only [Option.bind_some] at q ⊢
    intro H1 k1 hA1
    refine ⟨_,rfl,b,A.cC,dx,_,rfl,k1 _ _ nbw hb,T.clC,T.nCLooked,by show 0 < 1000; decide,?_⟩
    have u1:upd H1 b (.ins A.cC dx (putF "looked" (.str x) [])) b=some (.ins A.cC dx [("looked",.str x)]):=za
    have hA1':AtR A (upd H1 b (.ins A.cC dx (putF "looked" (.str x) []))) w lw row r1:=hA1.kept (S:=(·=b)) (KpS.put rfl) nbw.symm nbl.symm
    have k1':KpS (fun y=>y=w\/y=b) H (upd H1 b (.ins A.cC dx (putF "looked" (.str x) []))):=(k1.mono fun y z=>.inl z).trans (KpS.put (.inr rfl))
    generalize upd H1 b (.ins A.cC dx (putF "looked" (.str x) []))=H2 at *
    refine ⟨sN0,fun la hla=>?_⟩
    have nla:∀ {y o},H2 y=some o->y≠la:=fun z=>zi z hla
    have k2:KpS (fun y=>y=w\/y=b) H (upd H2 la (.lst [])):=k1'.trans (KpS.new hla)
    refine ⟨_,rfl,b,A.cC,dx,_,rfl,by rw [zg (nla u1)]; exact u1,T.clC,T.nArms,by show 1 < 1000; decide,?_⟩
    have u3:upd (upd H2 la (.lst [])) b (.ins A.cC dx (putF "arms" (.ref la) [("looked",.str x)])) b=some (.ins A.cC dx [("looked",.str x),("arms",.ref la)]):=za
    have l3:upd (upd H2 la (.lst [])) b (.ins A.cC dx (putF "arms" (.ref la) [("looked",.str x)])) la=some (.lst []):=by rw [zg (nla u1).symm,za]
    have k3:=k2.trans (KpS.put (S:=fun y=>y=w\/y=b) (H:=upd H2 la (.lst [])) (a:=b) (o:=.ins A.cC dx (putF "arms" (.ref la) [("looked",.str x)])) (.inr rfl))
    have hA3:AtR A (upd (upd H2 la (.lst [])) b (.ins A.cC dx (putF "arms" (.ref la) [("looked",.str x)]))) w lw row r1:=(hA1'.same (zf hla _)).kept (S:=(·=b)) (KpS.put rfl) nbw.symm nbl.symm
    have laH:H la=none:=by
      cases z:H la with
      | none=>rfl
      | some o =>
        by_cases c:la=w\/la=b
        · rcases c with c | c
          · obtain ⟨_,_,_,c1,_⟩:=hA1'.ex
            rw [c,c1] at hla
            cases hla
          · rw [c,u1] at hla
            cases hla
        · rw [k1' la o c z] at hla
          cases hla
    generalize upd (upd H2 la (.lst [])) b (.ins A.cC dx (putF "arms" (.ref la) [("looked",.str x)]))=H3 at *
    refine ⟨_,rfl,w,lw,row,r1,rfl,hA3,?_⟩
    cases e2:head LX r1 with
    | none =>
      rw [e2] at q
      exact q.at k3 (fun y z=>.inl z)
    | some pr2 =>
      obtain ⟨⟨t,ns⟩,r2⟩:=pr2
      rw [e2] at q
      dsimp only [Option.map_some] at q ⊢
      intro H4 ph pn k4 hA4 hph hpn
      have nlw:la≠w:=fun z=>by
        obtain ⟨_,_,_,c1,_⟩:=hA3.ex
        rw [z,c1] at l3
        cases l3
      have b4:=k4 _ _ nbw u3
      have l4:=k4 _ _ nlw l3
      refine ⟨_,rfl,b,A.cC,dx,_,rfl,b4,T.clC,T.nHead,by show 2 < 1000; decide,?_⟩
      refine q _ la ((k3.trans (k4.mono fun y z=>.inl z)).trans (KpS.put (.inr rfl))) (hA4.kept (S:=(·=b)) (KpS.put rfl) nbw.symm nbl.symm) laH ⟨la,rfl,dx,ph,pn,[],za,?_,.nil,by decide,?_,?_⟩
      · rw [zg (zY l4 b4 (by intro z; cases z))]
        exact l4
      · rw [zg (zY hph b4 (by intro z; cases z))]
        exact hph
      · rw [zg (zY hpn b4 (by intro z; cases z))]
        exact hpn
theorem zaK:FnScope ["self","words","body"] ["self","words","body"] (zj Xc):=.ok
theorem JE (F:Fun K "filled" "BegunLet.filled" Xc f fd) (T:Txt K mg A):FnOk P w K mg base (CXf P w) 8 f fd ["self","words","body"] (xb A kL):=by
  refine F.byx zaK (fun vs H Q E h=>?_) (fun cdv A' outer s H vs Q E hr h=>?_)
  · obtain ⟨b,w,lw,row,r,fr,fp,d,v,rfl,_⟩:=h
    rfl
  obtain ⟨b,w,lw,row,r,fr,fp,d,v,rfl,hA,hF,hc,nd,hv,q⟩:=h
  cases fr with
  | lt x dd =>
    obtain ⟨rfl,dx,vd,hb,hd⟩:=hF
    refine ⟨_,ze (zo (zz (jA4 zd (yn (jv 0)) (yn (jv 0)) (jv 2)))),?_⟩
    refine ⟨_,rfl,b,A.cL,dx,_,_,rfl,hb,T.clL,T.nBinds,rfl,_,rfl,b,A.cL,dx,_,_,rfl,hb,T.clL,T.nDeed,rfl,_,rfl,sN4,fun p hp=>?_⟩
    have tp:=Tups.new (o:=.tup [.str "let",.str x,vd,v]) hp
    exact q _ _ (KpS.new hp) (hA.same (zf hp _)) (.tup za (.cons (.str _) (.cons (.str _) (.cons (hd.keep tp) (.cons (hv.keep tp) .nil)))))
  | if0 x=>cases hc
  | if1 x e=>cases hc
  | cs x a t n=>cases hc
theorem zaL:FnScope ["self","words","body"] ["self","words","body"] (zj Xe):=.ok
theorem JF (F:Fun K "filled" "BegunIf.filled" Xe f fd) (T:Txt K mg A) (GP:Me P w K mg base CX0 2 A.cW "passed" ["self","word"] (yX A)) (GI:Me P w K mg base (CXf P w) 3 A.cW "insist" ["self","fits"] (yo A)):FnOk P w K mg base (CXf P w) 8 f fd ["self","words","body"] (xb A kI):=by
  refine F.byx zaL (fun vs H Q E h=>?_) (fun cdv A' outer s H vs Q E hr h=>?_)
  · obtain ⟨b,w,lw,row,r,fr,fp,d,v,rfl,_⟩:=h
    rfl
  obtain ⟨b,w,lw,row,r,fr,fp,d,v,rfl,hA,hF,hc,nd,hv,q⟩:=h
  refine ⟨_,zb (zx (Jd (yn (jv 0))) (zb (zv (yl (jv 1) T.clW GI (hr.mono (by decide)) zG (jA1 (yl (jv 1) T.clW GP (hr.mono (by decide)) yv (jA1 zd))))) (zb (yE (jv 0) (jv 2)) (ze (zo vI)))) zq)
    (ze (zo (zz (jA4 zd (yn (jv 0)) (yn (jv 0)) (jv 2))))),?_⟩
  obtain ⟨dw,ws,i,a1,a2,_⟩:=hA.ex
  cases fr with
  | lt x e=>cases hc
  | cs x a t n=>cases hc
  | if1 x e =>
    obtain ⟨rfl,dx,ve,hb,he⟩:=hF
    refine ⟨_,rfl,b,A.cI,dx,_,_,rfl,hb,T.clI,T.nFirst,rfl,_,rfl,?_⟩
    refine xW he.nn ?_
    refine ⟨_,rfl,b,A.cI,dx,_,_,rfl,hb,T.clI,T.nLooked,rfl,_,rfl,b,A.cI,dx,_,_,rfl,hb,T.clI,T.nFirst,rfl,_,rfl,sN4,fun p hp=>?_⟩
    have tp:=Tups.new (o:=.tup [.str "if",.str x,ve,v]) hp
    exact q _ _ (KpS.new hp) (hA.same (zf hp _)) (.tup za (.cons (.str _) (.cons (.str _) (.cons (he.keep tp) (.cons (hv.keep tp) .nil)))))
  | if0 x =>
    obtain ⟨rfl,dx,hb⟩:=hF
    have nbw:b≠w:=fun z=>by rw [z] at nd; simp at nd
    have nbl:b≠lw:=fun z=>by rw [z] at nd; simp at nd
    refine ⟨_,rfl,b,A.cI,dx,_,_,rfl,hb,T.clI,T.nFirst,rfl,_,rfl,?_⟩
    refine iteD rfl ?_
    refine ⟨_,rfl,w,dw,_,rfl,a1,rfl,_,rfl,w,dw,_,rfl,a1,rfl,w,lw,row,r,_,rfl,hA,?_⟩
    cases r with
    | nil=>exact ⟨w,lw,row,[],false,rfl,hA,(fun z=>by cases z),fun _=>q.at KpS.refl (fun b z=>z.elim)⟩
    | cons y r' =>
      dsimp only
      unfold fill at q
      dsimp only at q
      by_cases c:y="else"
      · rw [if_pos c] at q ⊢
        intro H1 k1 hA1
        refine ⟨w,lw,row,r',true,rfl,hA1,(fun _=>?_),fun z=>by cases z⟩
        have hb1:=k1 _ _ nbw hb
        refine ⟨_,rfl,_,rfl,b,A.cI,dx,_,rfl,hb1,T.clI,T.nFirst,by show 2 < 1000; decide,?_⟩
        have tp:Tups H (upd H1 b (.ins A.cI dx (putF "first" v [("looked",.str x),("first",.non)]))):=(hA.tups k1).trans fun p xs z=>by rw [zg (zY z hb1 (by intro z; cases z))]; exact z
        exact q _ ((k1.mono fun y z=>.inl z).trans (KpS.put (.inr (List.mem_singleton.mpr rfl)))) (hA1.kept (S:=(·=b)) (KpS.put rfl) nbw.symm nbl.symm) ⟨rfl,dx,v,za,hv.keep tp⟩
      · rw [if_neg c] at q ⊢
        exact ⟨w,lw,row,y :: r',false,rfl,hA,(fun z=>by cases z),fun _=>q.at KpS.refl (fun b z=>z.elim)⟩
theorem zaM:FnScope ["self","words","body"] ["self","words","body"] (zj Xg):=.ok
theorem JG (F:Fun K "filled" "BegunCase.filled" Xg f fd) (T:Txt K mg A) (GP:Me P w K mg base CX0 2 A.cW "passed" ["self","word"] (yX A)) (GI:Me P w K mg base (CXf P w) 3 A.cW "insist" ["self","fits"] (yo A)) (GH:Ca P w K mg base (CXf P w) 7 "read_head" ["words"] (Xu A)):FnOk P w K mg base (CXf P w) 8 f fd ["self","words","body"] (xb A kC):=by
  refine F.byx zaM (fun vs H Q E h=>?_) (fun cdv A' outer s H vs Q E hr h=>?_)
  · obtain ⟨b,w,lw,row,r,fr,fp,d,v,rfl,_⟩:=h
    rfl
  obtain ⟨b,w,lw,row,r,fr,fp,d,v,rfl,hA,hF,hc,nd,hv,q⟩:=h
  obtain ⟨t20,m20⟩:=T.mostA
  refine ⟨_,zb (zv (zy PySem.F.plainAttrs_list PySem.F.slot_list_append PySem.F.type_list_append zA (yn (jv 0)) (jA1 (zh zaj (yn (jv 0)) (zz (jA1 (jv 2)))))))
    (zb (zx (ym (yl (jv 1) T.clW GP (hr.mono (by decide)) yv (jA1 zd))) (ze (zo (zz (jA3 zd (yn (jv 0)) (zU zW rfl T.tuple PyProof.Rows.boot_tuple (jA1 (yn (jv 0)))))))) zq)
    (zb (zv (yl (jv 1) T.clW GI (hr.mono (by decide)) zG (jA1 (yz vg (z4 yq rfl T.len PySem.boot_len (jA1 (yn (jv 0)))) (z3 (v:=.int 20) rfl m20 ⟨_,rfl⟩) (y0 _)))))
    (zb (yE (jv 0) (yJ GH hr rfl zG (jA1 (jv 1)))) (ze (zo vI))))),?_⟩
  obtain ⟨dw,ws,i,a1,a2,_⟩:=hA.ex
  cases fr with
  | lt x e=>cases hc
  | if0 x=>cases hc
  | if1 x e=>cases hc
  | cs x arms tag ns =>
    obtain ⟨la,rfl,dx,ph,pn,va,hb,hla,har,h20,hph,hpn⟩:=hF
    have nbw:b≠w:=fun z=>by rw [z] at nd; simp at nd
    have nbl:b≠lw:=fun z=>by rw [z] at nd; simp at nd
    have naw:la≠w:=fun z=>by rw [z] at nd; simp at nd
    have nal:la≠lw:=fun z=>by rw [z] at nd; simp at nd
    have nba:b≠la:=zY hb hla (by intro z; cases z)
    have sl:=line
    have lva:=har.len
    refine ⟨_,rfl,b,A.cC,dx,_,_,rfl,hb,T.clC,T.nArms,rfl,.inl ⟨rfl,_,SqL.of hla⟩,_,rfl,b,A.cC,dx,_,_,rfl,hb,T.clC,T.nHead,rfl,_,rfl,sN1,fun p1 hp1=>?_⟩
    have n1:∀ {y o},H y=some o->y≠p1:=fun z=>zi z hp1
    refine ⟨ph,p1,_,_,rfl,rfl,SqT.of (by rw [zg (n1 hph)]; exact hph),SqT.of za,by simp,(by show 3<=sizeLine; decide),(fun z=>by cases z),fun _ p2 hp2=>?_⟩
    have hla2:upd (upd H p1 (.tup [v])) p2 (.tup ([.str tag,.ref pn] ++ [v])) la=some (.lst va):=by
      have e1:upd H p1 (.tup [v]) la=some (.lst va):=by rw [zg (n1 hla)]; exact hla
      rw [zg (zi e1 hp2)]
      exact e1
    refine ⟨la,va,_,rfl,rfl,hla2,by lia,?_⟩
    have sm:Same H (upd (upd H p1 (.tup [v])) p2 (.tup ([.str tag,.ref pn] ++ [v]))):=(zf hp1 _).trans (zf hp2 _)
    have hp2':upd (upd H p1 (.tup [v])) p2 (.tup ([.str tag,.ref pn] ++ [v])) p2=some (.tup [.str tag,.ref pn,v]):=za
    generalize upd (upd H p1 (.tup [v])) p2 (.tup ([.str tag,.ref pn] ++ [v]))=H2 at *
    have tl:Tups H2 (upd H2 la (.lst (va ++ [.ref p2]))):=fun p xs z=>by rw [zg (zY z hla2 (by intro z; cases z))]; exact z
    have tp0:Tups H (upd H2 la (.lst (va ++ [.ref p2]))):=fun p xs z=>tl _ _ (sm _ _ z)
    have kp:KpS (fun y=>y=w\/y∈[b,la]) H (upd H2 la (.lst (va ++ [.ref p2]))):=(KpS.of sm).trans (KpS.put (.inr (by simp)))
    have hA2:AtR A (upd H2 la (.lst (va ++ [.ref p2]))) w lw row r:=(hA.same sm).kept (S:=(·=la)) (KpS.put rfl) naw.symm nal.symm
    have hb2:upd H2 la (.lst (va ++ [.ref p2])) b=some (.ins A.cC dx [("looked",.str x),("arms",.ref la),("head",.ref ph)]):=by rw [zg nba]; exact sm _ _ hb
    have hl2:upd H2 la (.lst (va ++ [.ref p2])) la=some (.lst (va ++ [.ref p2])):=za
    have arm:Is (upd H2 la (.lst (va ++ [.ref p2]))) (.tup [.str tag,Rd.«strs» ns,d]) (.ref p2):=.tup (tl _ _ hp2') (.cons (.str _) (.cons (.tup (tp0 _ _ hpn) (IsL.strs ns)) (.cons (hv.keep tp0) .nil)))
    have arms':IsL (upd H2 la (.lst (va ++ [.ref p2]))) (arms ++ [.tup [.str tag,Rd.«strs» ns,d]]) (va ++ [.ref p2]):=(har.keep tp0).app (.cons arm .nil)
    generalize upd H2 la (.lst (va ++ [.ref p2]))=H3 at *
    have ⟨dw3,_,_,c3,_⟩:=hA2.ex
    have ln3:(va ++ [V.ref p2]).length=arms.length + 1:=by rw [List.length_append,List.length_singleton,lva]
    refine ⟨_,rfl,w,dw3,_,rfl,c3,rfl,w,lw,row,r,_,rfl,hA2,?_⟩
    unfold fill at q
    dsimp only at q
    have la':(arms ++ [D.tup [.str tag,Rd.«strs» ns,d]]).length=(va ++ [V.ref p2]).length:=arms'.len
    by_cases ce:∃ r',r=("end":Str) :: r'
    · obtain ⟨r',rfl⟩:=ce
      dsimp only at q ⊢
      rw [if_pos rfl] at q ⊢
      intro H4 k4 hA4
      have hb4:=k4 _ _ nbw hb2
      have hl4:=k4 _ _ naw hl2
      have tp4:Tups H3 H4:=hA2.tups k4
      refine ⟨_,rfl,iteT ?_⟩
      refine ⟨_,rfl,b,A.cC,dx,_,_,rfl,hb4,T.clC,T.nCLooked,rfl,_,rfl,b,A.cC,dx,_,_,rfl,hb4,T.clC,T.nArms,rfl,la,_,rfl,.inl ⟨SqL.of hl4,fun p3 hp3=>⟨sN3,fun p4 hp4=>?_⟩⟩⟩
      have k5:KpS (fun y=>y=w\/y∈[b,la]) H _:=((kp.trans (k4.mono fun y z=>.inl z)).trans (KpS.new (o:=.tup (va ++ [.ref p2])) hp3)).trans (KpS.new (o:=.tup [.str "case",.str x,.ref p3]) hp4)
      have tp5:Tups H3 _:=(tp4.trans (Tups.new (o:=.tup (va ++ [.ref p2])) hp3)).trans (Tups.new (o:=.tup [.str "case",.str x,.ref p3]) hp4)
      have hp3':upd (upd H4 p3 (.tup (va ++ [.ref p2]))) p4 (.tup [.str "case",.str x,.ref p3]) p3=some (.tup (va ++ [.ref p2])):=by rw [zg (zi za hp4)]; exact za
      exact q _ _ k5 ((hA4.same (zf hp3 _)).same (zf hp4 _)) (.tup za (.cons (.str _) (.cons (.str _) (.cons (.tup hp3' (arms'.keep tp5)) .nil))))
    have q1:(va ++ [V.ref p2]).length < 20->(match head LX r with
        | none=>Err A E (fun y=>y=w\/y∈[b,la]) H row
        | some ((t,ns'),r')=>∀ H',KpS (fun y=>y=w\/y∈[b,la]) H H'->AtR A H' w lw row r'->FrIs A H' (.cs x (arms ++ [D.tup [.str tag,Rd.«strs» ns,d]]) t ns') b [b,la]->Q .non H'):=by
      intro c
      cases r with
      | nil=>exact q
      | cons y r' =>
        dsimp only at q
        rw [if_neg (fun z=>ce ⟨r',by rw [z]⟩),if_pos (by rw [la']; exact c)] at q
        cases e:head LX (y :: r') with
        | none=>rw [e] at q; exact q
        | some pr =>
          obtain ⟨⟨t,ns'⟩,r2⟩:=pr
          rw [e] at q
          exact q
    have q2:¬ (va ++ [V.ref p2]).length < 20->Err A E (fun y=>y=w\/y∈[b,la]) H row:=by
      intro c
      cases r with
      | nil=>exact q
      | cons y r' =>
        dsimp only at q
        rw [if_neg (fun z=>ce ⟨r',by rw [z]⟩),if_neg (by rw [la']; exact c)] at q
        exact q
    clear q
    cases r
    case' cons y r' =>
      dsimp only
      rw [if_neg (fun z=>ce ⟨_,by rw [z]⟩)]
    all_goals
      refine ⟨_,rfl,iteF ?_⟩
      refine ⟨_,rfl,w,dw3,_,rfl,c3,rfl,_,rfl,b,A.cC,dx,_,_,rfl,hb2,T.clC,T.nArms,rfl,la,_,rfl,.inl (SqL.of hl2),_,_,rfl,rfl,w,lw,row,_,_,rfl,hA2,fun hb=>?_,fun hb=>(q2 (fun z=>of_decide_eq_false hb (by lia))).at kp (fun b z=>z.elim)⟩
      have lt20:=of_decide_eq_true hb
      have q1':=q1 (by lia)
      clear q1 q2
      refine ⟨_,rfl,w,lw,row,_,rfl,hA2,?_⟩
      revert q1'
      generalize head LX _=hd
      intro q1'
      cases hd with
      | none=>exact q1'.at kp (fun b z=>.inl z)
      | some pr =>
        obtain ⟨⟨t,ns'⟩,r2⟩:=pr
        dsimp only at q1' ⊢
        intro H4 p4 pn4 k4 hA4 hp4 hpn4
        have hb4:=k4 _ _ nbw hb2
        have hl4:=k4 _ _ naw hl2
        have tp4:Tups H3 H4:=hA2.tups k4
        refine ⟨_,rfl,b,A.cC,dx,_,rfl,hb4,T.clC,T.nHead,by show 3 < 1000; decide,?_⟩
        have tp5:Tups H4 (upd H4 b (.ins A.cC dx (putF "head" (.ref p4) [("looked",.str x),("arms",.ref la),("head",.ref ph)]))):=fun p xs z=>by rw [zg (zY z hb4 (by intro z; cases z))]; exact z
        exact q1' _ ((kp.trans (k4.mono fun y z=>.inl z)).trans (KpS.put (.inr List.mem_cons_self))) (hA4.kept (S:=(·=b)) (KpS.put rfl) nbw.symm nbl.symm) ⟨la,rfl,dx,p4,pn4,_,za,by rw [zg nba.symm]; exact hl4,arms'.keep (tp4.trans tp5),by rw [la']; lia,tp5 _ _ hp4,tp5 _ _ hpn4⟩
def wz (A:Adr):Sp:=fun vs H Q E=>∃ (w lw lb:Addr) (row:Int) (r:List Str) (bs:List V),vs=[.ref w,.ref lb]/\AtR A H w lw row r/\H lb=some (.lst bs)/\lb≠lw/\bs.length<=1000000/\(match zE LX [] r with
  | none=>Err A E (·=w) H row
  | some ⟨_,some d,r'⟩=>∀ H' v,KpS (·=w) H H'->AtR A H' w lw row r'->Is H' d v->Q v H'
  | some ⟨fr :: _,none,r'⟩=>∀ H' b fp,KpS (fun y=>y=w\/y=lb) H H'->AtR A H' w lw row r'->H' lb=some (.lst (bs ++ [.ref b]))->FrIs A H' fr b fp->(∀ y∈fp,H y=none)->fp.Nodup->Q .non H'
  | some ⟨[],none,r'⟩=>True)
theorem Err.fresh {A:Adr} {E:XK} {H H1 H2:Hp} {row:Int} {w b:Addr} (h:Err A E (·=w) H row) (k1:KpS (·=w) H H1) (s:Same H1 H2) (hb:H1 b=none):Err A E (fun y=>y=w\/y=b) H2 row :=
  fun d H' k' q=>h d H' (fun y o n z=>k' y o (fun m=>m.elim n (fun e=>by have:=k1 y o n z; rw [e,hb] at this; cases this)) (s _ _ (k1 y o n z))) q
theorem xI {H:Hp} {x dx:Addr} {o o':HO} (hx:H x=none) (hd:H dx=none) (n:dx≠x):Same H (upd (upd H dx o) x o'):=(zf hd o).trans (zf (by rw [zg n.symm]; exact hx) o')
theorem v7 {A:Adr} {H H1 H2 H3:Hp} {w lw lb b:Addr} {row:Int} {r1 r3:List Str} {fr:Fr} {fp:List Addr} {bs:List V} {Q:VK} (k1:KpS (·=w) H H1) (hA1:AtR A H1 w lw row r1) (s:Same H1 H2) (hb:H1 b=none) (hl1:H1 lb=some (.lst bs)) (nll:lb≠lw)
    (hA3:AtR A H3 w lw row r3) (k3:KpS (fun y=>y=w\/y=b) H2 H3) (hF:FrIs A H3 fr b fp) (hf:∀ y∈fp,H1 y=none) (nd:fp.Nodup)
    (q:∀ H' b fp,KpS (fun y=>y=w\/y=lb) H H'->AtR A H' w lw row r3->H' lb=some (.lst (bs ++ [.ref b]))->FrIs A H' fr b fp->(∀ y∈fp,H y=none)->fp.Nodup->Q .non H') :
    H3 lb=some (.lst bs)/\Q .non (upd H3 lb (.lst (bs ++ [.ref b]))):=by
  have ⟨dw,_,_,a1,a2,_⟩:=hA1.ex
  have nlw:lb≠w:=zY hl1 a1 (by intro z; cases z)
  have nlb:lb≠b:=zi hl1 hb
  have hl3:H3 lb=some (.lst bs):=k3 _ _ (fun m=>m.elim nlw nlb) (s _ _ hl1)
  refine ⟨hl3,q _ b fp (fun y o n z=>?_) (hA3.kept (S:=(·=lb)) (KpS.put rfl) nlw.symm nll.symm) za (hF.keep (fun x hx o z=>?_) fun p xs z=>?_) (fun y hy=>?_) nd⟩
  · have z1:=k1 y o (fun e=>n (.inl e)) z
    rw [zg (fun e=>n (.inr e))]
    exact k3 _ _ (fun m=>m.elim (fun e=>n (.inl e)) (zi z1 hb)) (s _ _ z1)
  · rw [zg (fun e=>by have:=hf x hx; rw [e,hl1] at this; cases this)]
    exact z
  · rw [zg (zY z hl3 (by intro z; cases z))]
    exact z
  · cases e:H y with
    | none=>rfl
    | some o =>
      by_cases c:y=w
      · have:=hf y hy
        rw [c,a1] at this
        cases this
      · have:=k1 y o c e
        rw [hf y hy] at this
        cases this
theorem zaN:FnScope ["words","begun"] ["words","begun"] (zj Xh):=.ok
theorem JH (F:Fun K "begin_body" "begin_body" Xh f fd) (T:Txt K mg A) (GP:Me P w K mg base CX0 2 A.cW "passed" ["self","word"] (yX A)) (GI:Me P w K mg base (CXf P w) 3 A.cW "insist" ["self","fits"] (yo A))
    (GN:Me P w K mg base (CXf P w) 5 A.cW "next_name" ["self"] (ye A))
    (ML:Ma P w K mg base (CXf P w) 8 "BegunLet" A.cL ["self","words"] (Wa A)) (MI:Ma P w K mg base (CXf P w) 8 "BegunIf" A.cI ["self","words"] (Wb A)) (MC:Ma P w K mg base (CXf P w) 8 "BegunCase" A.cC ["self","words"] (Wc A)) :
    FnOk P w K mg base (CXf P w) 10 f fd ["words","begun"] (wz A):=by
  refine F.byx zaN (fun vs H Q E h=>?_) (fun cdv A' outer s H vs Q E hr h=>?_)
  · obtain ⟨w,lw,lb,row,r,bs,rfl,_⟩:=h
    rfl
  obtain ⟨w,lw,lb,row,r,bs,rfl,hA,hl,nll,hm,q⟩:=h
  refine ⟨_,zb (zx (ym (yl (jv 0) T.clW GP (hr.mono (by decide)) yv (jA1 zd))) (ze (zo (zz (jA2 zd (yd (jv 0) T.clW GN (hr.mono (by decide)) zG))))) zq)
    (zb (zx (ym (yl (jv 0) T.clW GP (hr.mono (by decide)) yv (jA1 zd))) (ze (zv (zy PySem.F.plainAttrs_list PySem.F.slot_list_append PySem.F.type_list_append zA (jv 1) (jA1 (X5 ML hr rfl zG (jA1 (jv 0)))))))
      (ze (zx (ym (yl (jv 0) T.clW GP (hr.mono (by decide)) yv (jA1 zd))) (ze (zv (zy PySem.F.plainAttrs_list PySem.F.slot_list_append PySem.F.type_list_append zA (jv 1) (jA1 (X5 MI hr rfl zG (jA1 (jv 0)))))))
        (zb (zv (yl (jv 0) T.clW GI (hr.mono (by decide)) zG (jA1 (yl (jv 0) T.clW GP (hr.mono (by decide)) yv (jA1 zd)))))
        (ze (zv (zy PySem.F.plainAttrs_list PySem.F.slot_list_append PySem.F.type_list_append zA (jv 1) (jA1 (X5 MC hr rfl zG (jA1 (jv 0)))))))))))
    (ze (zo vI))),?_⟩
  have ⟨dw,_,_,a1,a2,_⟩:=hA.ex
  have nlw:lb≠w:=zY hl a1 (by intro z; cases z)
  refine ⟨_,rfl,w,dw,_,rfl,a1,rfl,w,lw,row,r,_,rfl,hA,?_⟩
  cases r with
  | nil =>
    refine ⟨_,rfl,iteF ?_⟩
    refine ⟨_,rfl,w,dw,_,rfl,a1,rfl,w,lw,row,[],_,rfl,hA,⟨_,rfl,iteF ?_⟩⟩
    refine ⟨_,rfl,w,dw,_,rfl,a1,rfl,w,lw,row,[],_,rfl,hA,⟨_,rfl,iteF ?_⟩⟩
    refine ⟨_,rfl,w,dw,_,rfl,a1,rfl,_,rfl,w,dw,_,rfl,a1,rfl,w,lw,row,[],_,rfl,hA,?_⟩
    exact ⟨w,lw,row,[],false,rfl,hA,(fun z=>by cases z),fun _=>q.at KpS.refl (fun b z=>z.elim)⟩
  | cons y r' =>
    unfold zE at q
    dsimp only at q ⊢
    by_cases y1:y="give"
    · rw [if_pos y1] at q ⊢
      intro H1 k1 hA1
      have ⟨dw1,_,_,c1,_⟩:=hA1.ex
      refine ⟨_,rfl,iteT ?_⟩
      refine ⟨_,rfl,w,dw1,_,rfl,c1,rfl,w,lw,row,r',rfl,hA1,?_⟩
      cases e:zn LX r' with
      | none=>rw [e] at q; exact q.at k1 (fun b z=>z)
      | some pr =>
        obtain ⟨x,r2⟩:=pr
        rw [e] at q
        dsimp only [Option.map_some] at q ⊢
        intro H2 k2 hA2
        refine ⟨sN2,fun p hp=>?_⟩
        exact q _ _ ((k1.trans k2).trans (KpS.new hp)) (hA2.same (zf hp _)) (.tup za (.cons (.str _) (.cons (.str _) .nil)))
    rw [if_neg y1] at q ⊢
    refine ⟨_,rfl,iteF ?_⟩
    refine ⟨_,rfl,w,dw,_,rfl,a1,rfl,w,lw,row,y :: r',_,rfl,hA,?_⟩
    dsimp only
    have sl:=line
    by_cases y2:y="let"
    · rw [if_pos y2] at q ⊢
      intro H1 k1 hA1
      refine ⟨_,rfl,iteT ?_⟩
      have hl1:=k1 _ _ nlw hl
      refine ⟨_,rfl,.inl ⟨rfl,_,SqL.of hl1⟩,_,rfl,fun b dx hb hdx ndx=>?_⟩
      have sm:=xI (o:=.own b) (o':=.ins A.cL dx []) hb hdx ndx
      have hA2:=hA1.same sm
      have ⟨_,_,_,c1,_⟩:=hA1.ex
      refine ⟨b,w,lw,dx,row,r',rfl,hA2,za,(zi c1 hb).symm,?_⟩
      cases e:zn LX r' with
      | none=>rw [e] at q; exact q.fresh k1 sm hb
      | some pr =>
        obtain ⟨x,r2⟩:=pr
        rw [e] at q
        dsimp only [Option.bind_some] at q ⊢
        cases e2:deed LX r2 with
        | none=>rw [e2] at q; exact q.fresh k1 sm hb
        | some pr2 =>
          obtain ⟨d,r3⟩:=pr2
          rw [e2] at q
          dsimp only [Option.map_some] at q ⊢
          intro H3 k3 hA3 hF
          have ⟨hl3,g⟩:=v7 k1 hA1 sm hb hl1 nll hA3 k3 hF (fun y hy=>by rw [List.mem_singleton.mp hy]; exact hb) (by simp) q
          exact ⟨rfl,lb,bs,_,rfl,rfl,hl3,by lia,g⟩
    rw [if_neg y2] at q ⊢
    refine ⟨_,rfl,iteF ?_⟩
    refine ⟨_,rfl,w,dw,_,rfl,a1,rfl,w,lw,row,y :: r',_,rfl,hA,?_⟩
    dsimp only
    by_cases y3:y="if"
    · rw [if_pos y3] at q ⊢
      intro H1 k1 hA1
      refine ⟨_,rfl,iteT ?_⟩
      have hl1:=k1 _ _ nlw hl
      refine ⟨_,rfl,.inl ⟨rfl,_,SqL.of hl1⟩,_,rfl,fun b dx hb hdx ndx=>?_⟩
      have sm:=xI (o:=.own b) (o':=.ins A.cI dx []) hb hdx ndx
      have hA2:=hA1.same sm
      have ⟨_,_,_,c1,_⟩:=hA1.ex
      refine ⟨b,w,lw,dx,row,r',rfl,hA2,za,(zi c1 hb).symm,?_⟩
      cases e:zn LX r' with
      | none=>rw [e] at q; exact q.fresh k1 sm hb
      | some pr =>
        obtain ⟨x,r2⟩:=pr
        rw [e] at q
        dsimp only [Option.map_some] at q ⊢
        intro H3 k3 hA3 hF
        have ⟨hl3,g⟩:=v7 k1 hA1 sm hb hl1 nll hA3 k3 hF (fun y hy=>by rw [List.mem_singleton.mp hy]; exact hb) (by simp) q
        exact ⟨rfl,lb,bs,_,rfl,rfl,hl3,by lia,g⟩
    rw [if_neg y3] at q ⊢
    refine ⟨_,rfl,iteF ?_⟩
    refine ⟨_,rfl,w,dw,_,rfl,a1,rfl,_,rfl,w,dw,_,rfl,a1,rfl,w,lw,row,y :: r',_,rfl,hA,?_⟩
    dsimp only
    by_cases y4:y="case"
    · rw [if_pos y4] at q ⊢
      intro H1 k1 hA1
      refine ⟨w,lw,row,r',true,rfl,hA1,(fun _=>?_),fun z=>by cases z⟩
      have hl1:=k1 _ _ nlw hl
      refine ⟨_,rfl,.inl ⟨rfl,_,SqL.of hl1⟩,_,rfl,fun b dx hb hdx ndx=>?_⟩
      have sm:=xI (o:=.own b) (o':=.ins A.cC dx []) hb hdx ndx
      have hA2:=hA1.same sm
      have ⟨_,_,_,c1,_⟩:=hA1.ex
      refine ⟨b,w,lw,dx,row,r',rfl,hA2,za,(zi c1 hb).symm,?_⟩
      cases e:zn LX r' with
      | none=>rw [e] at q; exact q.fresh k1 sm hb
      | some pr =>
        obtain ⟨x,r2⟩:=pr
        rw [e] at q
        dsimp only [Option.bind_some] at q ⊢
        cases e2:head LX r2 with
        | none=>rw [e2] at q; exact q.fresh k1 sm hb
        | some pr2 =>
          obtain ⟨⟨t,ns⟩,r3⟩:=pr2
          rw [e2] at q
          dsimp only [Option.map_some] at q ⊢
          intro H3 la k3 hA3 hla hF
          have hla1:H1 la=none:=by
            cases z:H1 la with
            | none=>rfl
            | some o=>rw [sm _ _ z] at hla; cases hla
          have nbl:b≠la:=zi za hla
          have fr2:∀ y∈[b,la],H1 y=none:=by
            intro y hy
            rcases List.mem_cons.mp hy with z | z
            · rw [z]; exact hb
            · rw [List.mem_singleton.mp z]; exact hla1
          have ⟨hl3,g⟩:=v7 k1 hA1 sm hb hl1 nll hA3 k3 hF fr2 (by simp [nbl]) q
          exact ⟨rfl,lb,bs,_,rfl,rfl,hl3,by lia,g⟩
    rw [if_neg y4] at q ⊢
    exact ⟨w,lw,row,y :: r',false,rfl,hA,(fun z=>by cases z),fun _=>q.at KpS.refl (fun b z=>z.elim)⟩
end
end Rdr
namespace Rd
open PySem
variable (L:Lex)
theorem vm (st:List Fr) (r:List Str):(zE L [] r=none/\zE L st r=none)\/(∃ d r',zE L [] r=some ⟨[],some d,r'⟩/\zE L st r=some ⟨st,some d,r'⟩/\r'.length < r.length)\/(∃ fr r',zE L [] r=some ⟨[fr],none,r'⟩/\zE L st r=some ⟨fr :: st,none,r'⟩/\r'.length < r.length):=by
  cases r with
  | nil=>exact .inl ⟨rfl,rfl⟩
  | cons w t =>
    unfold zE
    dsimp only
    by_cases c1:w="give"
    · rw [if_pos c1,if_pos c1]
      cases e:zn L t with
      | none=>exact .inl ⟨rfl,rfl⟩
      | some p =>
        have:=zL L e
        exact .inr (.inl ⟨_,_,rfl,rfl,by rw [List.length_cons]; lia⟩)
    rw [if_neg c1,if_neg c1]
    by_cases c2:w="let"
    · rw [if_pos c2,if_pos c2]
      cases e:zn L t with
      | none=>exact .inl ⟨rfl,rfl⟩
      | some p =>
        have:=zL L e
        simp only [Option.bind_some]
        cases e2:deed L p.2 with
        | none=>exact .inl ⟨rfl,rfl⟩
        | some p2 =>
          have:=deed_len L e2
          exact .inr (.inr ⟨_,_,rfl,rfl,by rw [List.length_cons]; lia⟩)
    rw [if_neg c2,if_neg c2]
    by_cases c3:w="if"
    · rw [if_pos c3,if_pos c3]
      cases e:zn L t with
      | none=>exact .inl ⟨rfl,rfl⟩
      | some p =>
        have:=zL L e
        exact .inr (.inr ⟨_,_,rfl,rfl,by rw [List.length_cons]; lia⟩)
    rw [if_neg c3,if_neg c3]
    by_cases c4:w="case"
    · rw [if_pos c4,if_pos c4]
      cases e:zn L t with
      | none=>exact .inl ⟨rfl,rfl⟩
      | some p =>
        have:=zL L e
        simp only [Option.bind_some]
        cases e2:head L p.2 with
        | none=>exact .inl ⟨rfl,rfl⟩
        | some p2 =>
          have:=head_len L e2
          exact .inr (.inr ⟨_,_,rfl,rfl,by rw [List.length_cons]; lia⟩)
    rw [if_neg c4,if_neg c4]
    exact .inl ⟨rfl,rfl⟩
theorem v9 (b:D) (st:List Fr) (fr:Fr) (r:List Str):(fill L b [] fr r=none/\fill L b st fr r=none)\/(∃ d r',fill L b [] fr r=some ⟨[],some d,r'⟩/\fill L b st fr r=some ⟨st,some d,r'⟩/\r'.length<=r.length)\/(∃ fr' r',fill L b [] fr r=some ⟨[fr'],none,r'⟩/\fill L b st fr r=some ⟨fr' :: st,none,r'⟩/\r'.length<=r.length):=by
  cases fr with
  | lt x d=>exact .inr (.inl ⟨_,_,rfl,rfl,Nat.le_refl _⟩)
  | if1 x d=>exact .inr (.inl ⟨_,_,rfl,rfl,Nat.le_refl _⟩)
  | if0 x =>
    cases r with
    | nil=>exact .inl ⟨rfl,rfl⟩
    | cons w t =>
      unfold fill
      dsimp only
      by_cases c:w="else"
      · rw [if_pos c,if_pos c]
        exact .inr (.inr ⟨_,_,rfl,rfl,by rw [List.length_cons]; lia⟩)
      · rw [if_neg c,if_neg c]
        exact .inl ⟨rfl,rfl⟩
  | cs x arms tag names =>
    cases r with
    | nil=>exact .inl ⟨rfl,rfl⟩
    | cons w t =>
      unfold fill
      dsimp only
      by_cases c:w="end"
      · rw [if_pos c,if_pos c]
        exact .inr (.inl ⟨_,_,rfl,rfl,by rw [List.length_cons]; lia⟩)
      rw [if_neg c,if_neg c]
      by_cases c2:(arms ++ [D.tup [.str tag,Rd.«strs» names,b]]).length < 20
      · rw [if_pos c2,if_pos c2]
        cases e:head L (w :: t) with
        | none=>exact .inl ⟨rfl,rfl⟩
        | some p =>
          have:=head_len L e
          exact .inr (.inr ⟨_,_,rfl,rfl,by lia⟩)
      · rw [if_neg c2,if_neg c2]
        exact .inl ⟨rfl,rfl⟩
theorem Runs.inv {n:Nat} {s:S} {o:Option (D × List Str)} (h:Runs L n s o) (g:s.body=none\/s.begun≠[]):(step L s=none/\o=none)\/∃ m s',n=m + 1/\step L s=some s'/\Runs L m s' o:=by
  cases h with
  | done=>rcases g with g | g <;> simp at g
  | turn _ h1 h2=>exact .inr ⟨_,_,rfl,h1,h2⟩
  | fail _ h1=>exact .inl ⟨h1,rfl⟩
end Rd
namespace Rdr
open PySem L2 K11 Rd
inductive StIs (A:Adr) (H:Hp):List Fr->List Addr->List Addr->Prop
  | nil:StIs A H [] [] []
  | cons {fr:Fr} {b:Addr} {fp:List Addr} {st:List Fr} {bs fps:List Addr}:FrIs A H fr b fp->StIs A H st bs fps->StIs A H (fr :: st) (b :: bs) (fp ++ fps)
theorem StIs.len {A:Adr} {H:Hp} {st:List Fr} {bs fps:List Addr} (h:StIs A H st bs fps):st.length=bs.length:=by
  induction h with
  | nil=>rfl
  | cons _ _ ih=>rw [List.length_cons,List.length_cons,ih]
theorem StIs.keep {A:Adr} {H H':Hp} {st:List Fr} {bs fps:List Addr} (h:StIs A H st bs fps) (k:∀ x∈fps,∀ o,H x=some o->H' x=some o) (t:Tups H H'):StIs A H' st bs fps:=by
  induction h with
  | nil=>exact .nil
  | cons h1 _ ih=>exact .cons (h1.keep (fun x hx=>k x (List.mem_append_left _ hx)) t) (ih fun x hx=>k x (List.mem_append_right _ hx))
theorem StIs.mem {A:Adr} {H:Hp} {st:List Fr} {bs fps:List Addr} (h:StIs A H st bs fps):∀ x∈fps,∃ o,H x=some o/\∀ xs,o≠.tup xs:=by
  induction h with
  | nil=>intro x hx; cases hx
  | cons h1 _ ih =>
    intro x hx
    rcases List.mem_append.mp hx with z | z
    · exact h1.mem.2 x z
    · exact ih x z
def JI (A:Adr):Sp:=fun vs H Q E=>∃ (w lw:Addr) (row:Int) (r:List Str) (n:Nat) (o:Option (D × List Str)),vs=[.ref w]/\AtR A H w lw row r/\Runs LX n ⟨[],none,r⟩ o/\(match o with
  | none=>Err A E (·=w) H row
  | some (d,r')=>∀ H' v,KpS (·=w) H H'->AtR A H' w lw row r'->Is H' d v->Q v H')
theorem KpS.fresh {S:Addr->Prop} {H H2 H3:Hp} {w:Addr} (k:KpS (·=w) H H2) (k':KpS S H2 H3) (hs:∀ y,S y->y=w\/H y=none):KpS (·=w) H H3:=fun y o n z=>k' y o (fun m=>(hs y m).elim n (fun e=>by rw [z] at e; cases e)) (k y o n z)
theorem Err.new {A:Adr} {E:XK} {S:Addr->Prop} {H H2:Hp} {w:Addr} {row:Int} (h:Err A E (·=w) H row) (k:KpS (·=w) H H2) (hs:∀ y,S y->y=w\/H y=none):Err A E S H2 row:=fun d H' k' q=>h d H' (k.fresh k' hs) q
theorem nod {w lw lb:Addr} {fp fps:List Addr} (h:(w :: lw :: lb :: fps).Nodup) (g:fp.Nodup) (f:∀ y∈fp,y≠w/\y≠lw/\y≠lb/\y ∉ fps):(w :: lw :: lb :: (fp ++ fps)).Nodup:=by
  simp only [List.nodup_cons,List.mem_cons,List.mem_append,List.nodup_append,not_or] at h ⊢
  obtain ⟨⟨h1,h2,h3⟩,⟨h4,h5⟩,h6,h7⟩:=h
  refine ⟨⟨h1,h2,fun z=>(f _ z).1 rfl,h3⟩,⟨h4,fun z=>(f _ z).2.1 rfl,h5⟩,⟨fun z=>(f _ z).2.2.1 rfl,h6⟩,g,h7,fun a ha b hb e=>(f _ ha).2.2.2 (by rw [e]; exact hb)⟩
theorem JJ {w lw lb:Addr} {fp fps:List Addr} (h:(w :: lw :: lb :: (fp ++ fps)).Nodup):(w :: lw :: lb :: fps).Nodup/\(w :: lw :: fp).Nodup/\(∀ y∈fp,y≠w/\y≠lw/\y≠lb/\y ∉ fps)/\∀ y∈fps,y≠w/\y≠lw/\y≠lb/\y ∉ fp:=by
  simp only [List.nodup_cons,List.mem_cons,List.mem_append,List.nodup_append,not_or] at h ⊢
  obtain ⟨⟨h1,h2,h3,h3'⟩,⟨h4,h5,h5'⟩,⟨h6,h6'⟩,g,h7,h8⟩:=h
  refine ⟨⟨⟨h1,h2,h3'⟩,⟨h4,h5'⟩,h6',h7⟩,⟨⟨h1,h3⟩,h5,g⟩,fun y hy=>⟨fun e=>h3 (by rw [<- e]; exact hy),fun e=>h5 (by rw [<- e]; exact hy),fun e=>h6 (by rw [<- e]; exact hy),fun z=>h8 _ hy _ z rfl⟩,fun y hy=>⟨fun e=>h3' (by rw [<- e]; exact hy),fun e=>h5' (by rw [<- e]; exact hy),fun e=>h6' (by rw [<- e]; exact hy),fun z=>h8 _ z _ hy rfl⟩⟩
theorem iteN {c A B:Prop} [Decidable c] (e:c) (h:B):if (!decide c)=true then A else B:=by
  rw [decide_eq_true e]
  exact iteF h
theorem Yr {c A B:Prop} [Decidable c] (e:¬ c) (h:A):if (!decide c)=true then A else B:=by
  rw [decide_eq_false e]
  exact iteT h
section
variable {P:Program} {w:World} {K:PySem.W.Frag} {mg:Str->Option Value} {base:Heap} {f:Addr} {fd:FuncData} {A:Adr}
theorem scBody:FnScope ["words","begun","body"] ["words"] (zj wS):=.ok
structure BW (A:Adr) (H:Hp) (w lw lb:Addr) (row:Int) (k:Nat) (o:Option (D × List Str)) (n:Nat) (σ:St) (H2:Hp) (st:List Fr) (body:Option D) (r:List Str) (bs fps:List Addr) (vb:V):Prop where
  runs:Runs LX n ⟨st,body,r⟩ o
  loc:σ=[some (.ref w),some (.ref lb),some vb]
  at_:AtR A H2 w lw row r
  lst:H2 lb=some (.lst (bs.reverse.map V.ref))
  sts:StIs A H2 st bs fps
  nod:(w :: lw :: lb :: fps).Nodup
  new:∀ y∈fps,H y=none
  newl:H lb=none
  kps:KpS (·=w) H H2
  len:st.length + r.length<=k
  big:k<=1000000
  bod:match body with | none=>vb=.non/\st≠[] | some d=>Is H2 d vb
def BWx (A:Adr) (H:Hp) (w lw lb:Addr) (row:Int) (k:Nat) (o:Option (D × List Str)) (n:Nat) (σ:St) (H2:Hp):Prop:=∃ st body r bs fps vb,BW A H w lw lb row k o n σ H2 st body r bs fps vb
theorem ja {vs:List V} {H:Hp} {Q Q':VK} {E:XK} (h:wz A vs H Q' E) (g:∀ v H',Q' v H'->Q v H'):wz A vs H Q E:=by
  obtain ⟨w,lw,lb,row,r,bs,e,hA,hl,n,m,q⟩:=h
  refine ⟨w,lw,lb,row,r,bs,e,hA,hl,n,m,?_⟩
  rcases vm LX [] r with ⟨e,_⟩ | ⟨d,r1,e,_⟩ | ⟨fr,r1,e,_⟩ <;> rw [e] at q ⊢
  · exact q
  · exact fun H' v a b c=>g _ _ (q H' v a b c)
  · exact fun H' b fp a1 a2 a3 a4 a5 a6=>g _ _ (q H' b fp a1 a2 a3 a4 a5 a6)
theorem xJ {c:Fr->Bool} {vs:List V} {H:Hp} {Q Q':VK} {E:XK} (h:xb A c vs H Q' E) (g:∀ v H',Q' v H'->Q v H'):xb A c vs H Q E:=by
  obtain ⟨b,w,lw,row,r,fr,fp,d,v,e,hA,hF,hc,nd,hv,q⟩:=h
  refine ⟨b,w,lw,row,r,fr,fp,d,v,e,hA,hF,hc,nd,hv,?_⟩
  rcases v9 LX d [] fr r with ⟨e,_⟩ | ⟨d,r1,e,_⟩ | ⟨fr',r1,e,_⟩ <;> rw [e] at q ⊢
  · exact q
  · exact fun H' v a b c=>g _ _ (q H' v a b c)
  · exact fun H' a b c=>g _ _ (q H' a b c)
theorem jb {H H2:Hp} {E:XK} {w lw lb:Addr} {row:Int} {k n:Nat} {o:Option (D × List Str)} {st:List Fr} {r:List Str} {bs fps:List Addr} (hR:Runs LX n ⟨st,none,r⟩ o) (hA:AtR A H2 w lw row r) (hl:H2 lb=some (.lst (bs.reverse.map V.ref))) (hs:StIs A H2 st bs fps)
    (nd:(w :: lw :: lb :: fps).Nodup) (new:∀ y∈fps,H y=none) (newl:H lb=none) (k2:KpS (·=w) H H2) (len:st.length + r.length<=k) (big:k<=1000000) (q:o=none->Err A E (·=w) H row) :
    wz A [.ref w,.ref lb] H2 (fun v H'=>∃ m,m < n/\BWx A H w lw lb row k o m [some (.ref w),some (.ref lb),some v] H') E:=by
  have ⟨dw,_,_,a1,a2,_⟩:=hA.ex
  have nlw:lb≠w:=zY hl a1 (by intro z; cases z)
  have nll:lb≠lw:=fun e=>by rw [e] at nd; simp at nd
  have hsl:=hs.len
  refine ⟨w,lw,lb,row,r,_,rfl,hA,hl,nll,by rw [List.length_map,List.length_reverse]; lia,?_⟩
  rcases vm LX st r with ⟨e,e'⟩ | ⟨d,r1,e,e',hlt⟩ | ⟨fr,r1,e,e',hlt⟩ <;> rw [e]
  · rcases hR.inv LX (.inl rfl) with ⟨_,h2⟩ | ⟨m,s',_,h2,_⟩
    · exact (q h2).at k2 (fun b z=>z)
    · have h3:zE LX st r=some s':=h2
      rw [e'] at h3
      cases h3
  · rcases hR.inv LX (.inl rfl) with ⟨h2,_⟩ | ⟨m,s',rfl,h2,hR'⟩
    · have h3:zE LX st r=none:=h2
      rw [e'] at h3
      cases h3
    · have h3:zE LX st r=some s':=h2
      rw [e'] at h3
      cases h3
      intro H3 v k3 hA3 hv
      have nw:∀ y∈fps,y≠w:=fun y hy e=>by rw [e] at hy; simp [hy] at nd
      exact ⟨m,Nat.lt_succ_self _,st,some d,r1,bs,fps,v,hR',rfl,hA3,k3 _ _ nlw hl,hs.keep (fun x hx o z=>k3 _ _ (nw x hx) z) (hA.tups k3),nd,new,newl,k2.trans k3,by lia,big,hv⟩
  · rcases hR.inv LX (.inl rfl) with ⟨h2,_⟩ | ⟨m,s',rfl,h2,hR'⟩
    · have h3:zE LX st r=none:=h2
      rw [e'] at h3
      cases h3
    · have h3:zE LX st r=some s':=h2
      rw [e'] at h3
      cases h3
      intro H3 b fp k3 hA3 hl3 hF hn hnd
      have nw:∀ y∈fps,¬ (y=w\/y=lb):=fun y hy e=>by rcases e with e | e <;> · rw [e] at hy; simp [hy] at nd
      have tp:Tups H2 H3:=k3.tups fun b z xs y=>by
        rcases z with z | z
        · rw [z,a1] at y; cases y
        · rw [z,hl] at y; cases y
      have hs3:StIs A H3 (fr :: st) (b :: bs) (fp ++ fps):=.cons hF (hs.keep (fun x hx o z=>k3 _ _ (nw x hx) z) tp)
      refine ⟨m,Nat.lt_succ_self _,fr :: st,none,r1,b :: bs,fp ++ fps,.non,hR',rfl,hA3,by rw [hl3]; simp,hs3,nod nd hnd (fun y hy=>?_),(fun y hy=>?_),newl,k2.fresh k3 (fun y z=>z.elim .inl fun e=>.inr (by rw [e]; exact newl)),by rw [List.length_cons]; lia,big,rfl,by simp⟩
      · have z:=hn y hy
        exact ⟨(fun e=>by rw [e,a1] at z; cases z),(fun e=>by rw [e,a2] at z; cases z),(fun e=>by rw [e,hl] at z; cases z),fun h=>by obtain ⟨o,h1,_⟩:=hs.mem y h; rw [h1] at z; cases z⟩
      · rcases List.mem_append.mp hy with z | z
        · have z':=hn y z
          cases h:H y with
          | none=>rfl
          | some o =>
            by_cases c:y=w
            · rw [c,a1] at z'; cases z'
            · rw [k2 _ _ c h] at z'; cases z'
        · exact new y z
theorem xK {c:Fr->Bool} {H H2:Hp} {E:XK} {w lw lb b:Addr} {row:Int} {k n:Nat} {o:Option (D × List Str)} {fr:Fr} {d:D} {vb:V} {st:List Fr} {r:List Str} {bs fps fp:List Addr} (hc:c fr=true) (hR:Runs LX n ⟨fr :: st,some d,r⟩ o) (hA:AtR A H2 w lw row r) (hl:H2 lb=some (.lst ((b :: bs).reverse.map V.ref))) (hF:FrIs A H2 fr b fp) (hs:StIs A H2 st bs fps)
    (nd:(w :: lw :: lb :: (fp ++ fps)).Nodup) (new:∀ y∈fp ++ fps,H y=none) (newl:H lb=none) (k2:KpS (·=w) H H2) (len:(fr :: st).length + r.length<=k) (big:k<=1000000) (hv:Is H2 d vb) (q:o=none->Err A E (·=w) H row) :
    xb A c [.ref b,.ref w,vb] H2 (fun v H'=>(v=.non/\∃ m,m < n/\BWx A H w lw lb row k o m [some (.ref w),some (.ref lb),some .non] H')\/(v≠.non/\H' lb=some (.lst ((b :: bs).reverse.map V.ref))/\∃ m,m < n/\BWx A H w lw lb row k o m [some (.ref w),some (.ref lb),some v] (upd H' lb (.lst (bs.reverse.map V.ref))))) E:=by
  have ⟨dw,_,_,a1,a2,_⟩:=hA.ex
  have nlw:lb≠w:=zY hl a1 (by intro z; cases z)
  have nll:lb≠lw:=fun e=>by rw [e] at nd; simp at nd
  obtain ⟨nd1,nd2,n3,n4⟩:=JJ nd
  have hlen:=len
  rw [List.length_cons] at hlen
  refine ⟨b,w,lw,row,r,fr,fp,d,vb,rfl,hA,hF,hc,nd2,hv,?_⟩
  have fs:∀ y,(y=w\/y∈fp)->y=w\/H y=none:=fun y z=>z.imp_right fun z=>new y (List.mem_append_left _ z)
  have tp:∀ {H3},KpS (fun y=>y=w\/y∈fp) H2 H3->Tups H2 H3:=fun k3=>k3.tups fun b z xs y=>by
    rcases z with z | z
    · rw [z,a1] at y; cases y
    · obtain ⟨o,h1,h2⟩:=hF.mem.2 b z
      rw [h1] at y
      injection y with y
      exact h2 _ y
  rcases v9 LX d st fr r with ⟨e,e'⟩ | ⟨d',r1,e,e',hlt⟩ | ⟨fr',r1,e,e',hlt⟩ <;> rw [e]
  · rcases hR.inv LX (.inr (by simp)) with ⟨_,h2⟩ | ⟨m,s',_,h2,_⟩
    · exact (q h2).new k2 fs
    · have h3:fill LX d st fr r=some s':=h2
      rw [e'] at h3
      cases h3
  · rcases hR.inv LX (.inr (by simp)) with ⟨h2,_⟩ | ⟨m,s',rfl,h2,hR'⟩
    · have h3:fill LX d st fr r=none:=h2
      rw [e'] at h3
      cases h3
    · have h3:fill LX d st fr r=some s':=h2
      rw [e'] at h3
      cases h3
      intro H3 v k3 hA3 hv3
      have hl3:H3 lb=some (.lst ((b :: bs).reverse.map V.ref)):=k3 _ _ (fun z=>z.elim nlw fun z=>(n3 _ z).2.2.1 rfl) hl
      have tl:Tups H3 (upd H3 lb (.lst (bs.reverse.map V.ref))):=fun p xs z=>by rw [zg (zY z hl3 (by intro z; cases z))]; exact z
      have hs3:StIs A (upd H3 lb (.lst (bs.reverse.map V.ref))) st bs fps:=hs.keep (fun x hx o z=>by rw [zg (n4 x hx).2.2.1]; exact k3 _ _ (fun m=>m.elim (n4 x hx).1 (n4 x hx).2.2.2) z) ((tp k3).trans tl)
      refine .inr ⟨hv3.nn,hl3,m,Nat.lt_succ_self _,st,some d',r1,bs,fps,v,hR',rfl,hA3.kept (S:=(·=lb)) (KpS.put rfl) nlw.symm nll.symm,za,hs3,nd1,fun y hy=>new y (List.mem_append_right _ hy),newl,?_,by lia,big,hv3.keep tl⟩
      exact (k2.fresh k3 fs).fresh (S:=(·=lb)) (KpS.put rfl) fun y e=>.inr (by rw [e]; exact newl)
  · rcases hR.inv LX (.inr (by simp)) with ⟨h2,_⟩ | ⟨m,s',rfl,h2,hR'⟩
    · have h3:fill LX d st fr r=none:=h2
      rw [e'] at h3
      cases h3
    · have h3:fill LX d st fr r=some s':=h2
      rw [e'] at h3
      cases h3
      intro H3 k3 hA3 hF3
      have hl3:H3 lb=some (.lst ((b :: bs).reverse.map V.ref)):=k3 _ _ (fun z=>z.elim nlw fun z=>(n3 _ z).2.2.1 rfl) hl
      have hs3:StIs A H3 st bs fps:=hs.keep (fun x hx o z=>k3 _ _ (fun m=>m.elim (n4 x hx).1 (n4 x hx).2.2.2) z) (tp k3)
      exact .inl ⟨rfl,m,Nat.lt_succ_self _,fr' :: st,none,r1,b :: bs,fp ++ fps,.non,hR',rfl,hA3,hl3,.cons hF3 hs3,nd,new,newl,k2.fresh k3 fs,by rw [List.length_cons]; lia,big,rfl,by simp⟩
theorem zaO (F:Fun K "read_body" "read_body" wS f fd) (T:Txt K mg A) (GB:Ca P w K mg base (CXf P w) 10 "begin_body" ["words","begun"] (wz A)) (FL:Me P w K mg base (CXf P w) 8 A.cL "filled" ["self","words","body"] (xb A kL)) (FI:Me P w K mg base (CXf P w) 8 A.cI "filled" ["self","words","body"] (xb A kI)) (FC:Me P w K mg base (CXf P w) 8 A.cC "filled" ["self","words","body"] (xb A kC)) :
    FnOk P w K mg base (CXf P w) 11 f fd ["words"] (JI A):=by
  refine F.byx scBody (fun vs H Q E h=>?_) (fun cdv A' outer s H vs Q E hr h=>?_)
  · obtain ⟨w,lw,row,r,n,o,rfl,_⟩:=h
    rfl
  obtain ⟨w,lw,row,r0,n0,o,rfl,hA,hR,q⟩:=h
  refine ⟨_,zb (sE 1 scBody.nd (zp zS))
    (zb (sE 2 scBody.nd (yJ GB hr rfl zG (jA2 (jv 0) (jv 1))))
    (zb (xo ownx (tN X4 (z4 yq rfl T.len PySem.boot_len (jA1 (jv 1))) zc)
      (ze (zx (Jd (jv 2)) (ze (sE 2 scBody.nd (yJ GB hr rfl zG (jA2 (jv 0) (jv 1)))))
        (zb (V3 (i:=2) scBody.nd rfl (Or.inl rfl)
          (Jc (Jc (yl (xX z5 (jv 1) (x4 zc)) T.clL FL (hr.mono (by decide)) zG (jA2 (jv 0) (jv 2)))
            (yl (xX z5 (jv 1) (x4 zc)) T.clI FI (hr.mono (by decide)) zG (jA2 (jv 0) (jv 2))))
            (yl (xX z5 (jv 1) (x4 zc)) T.clC FC (hr.mono (by decide)) zG (jA2 (jv 0) (jv 2)))))
        (ze (zx (zau (jv 2)) (ze (zv (x5 PySem.F.plainAttrs_list PySem.F.slot_list_pop PySem.F.type_list_pop x8 (jv 1)))) zq))))))
    (ze (zo (jv 2))))),?_⟩
  have ⟨dw,ws,i,a1,a2,a3,a4,a5,_⟩:=hA.ex
  have hk:r0.length<=1000000:=by rw [a3,List.length_drop]; lia
  refine ⟨sN0,fun lb hlb=>?_⟩
  have nlw:lb≠w:=(zi a1 hlb).symm
  have nll:lb≠lw:=(zi a2 hlb).symm
  have hE:o=none->Err A E (·=w) H row:=fun e=>by rw [e] at q; exact q
  refine ⟨_,rfl,_,rfl,ja (jb (bs:=[]) (fps:=[]) hR (hA.same (zf hlb _)) za .nil (by simp [nlw.symm,nll.symm,hA.ne]) (fun y hy=>by cases hy) hlb (KpS.new hlb) (by show 0 + r0.length<=r0.length; lia) hk hE) ?_⟩
  rintro v1 H1 ⟨m1,_,w1⟩
  refine ⟨BWx A H w lw lb row r0.length o,⟨m1,w1⟩,?_⟩
  rintro m σ H2 ⟨st,body,r,bs,fps,vb,B⟩
  have hlen:=B.len
  have hsl:=B.sts.len
  rw [B.loc]
  refine ⟨_,rfl,lb,_,rfl,.inl (SqL.of B.lst),_,_,rfl,rfl,_,rfl,?_⟩
  cases st with
  | nil =>
    cases body with
    | none=>exact absurd rfl B.bod.2
    | some d =>
      have e0:bs=[]:=by cases B.sts; rfl
      have hr:=B.runs
      refine xW (by rw [e0]; decide) ?_
      refine ⟨_,rfl,?_⟩
      cases hr with
      | done=>exact q H2 vb B.kps B.at_ B.bod
      | turn h _ _=>rcases h with h | h <;> simp at h
      | fail h _=>rcases h with h | h <;> simp at h
  | cons fr st =>
    refine iteD (by rw [List.length_map,List.length_reverse]; rw [List.length_cons] at hsl; lia) ⟨_,fun _ _ h=>h,?_⟩
    cases body with
    | none =>
      rw [B.bod.1]
      refine ⟨_,rfl,_,rfl,iteD rfl ?_⟩
      refine ⟨_,rfl,_,rfl,ja (jb B.runs B.at_ B.lst B.sts B.nod B.new B.newl B.kps B.len B.big hE) ?_⟩
      rintro v H3 ⟨m',h1,h2⟩
      exact ⟨m',h1,h2⟩
    | some d =>
      have hv:Is H2 d vb:=B.bod
      refine ⟨_,rfl,_,rfl,xW hv.nn ?_⟩
      have hst:=B.sts
      have hl:=B.lst
      have nd:=B.nod
      have nw:=B.new
      have hsz:=B.len
      cases hst with
      | cons hF hs =>
        rename_i b fp bs fps
        have e1:(b :: bs).reverse.map V.ref=bs.reverse.map V.ref ++ [.ref b]:=by simp
        have ix:atI ((b :: bs).reverse.map V.ref) (-1)=some (.ref b):=by rw [e1]; exact VQ _ _
        have e2:((b :: bs).reverse.map V.ref)[((b :: bs).reverse.map V.ref).length - 1]?=some (.ref b):=by rw [e1]; simp
        have e3:((b :: bs).reverse.map V.ref).dropLast=bs.reverse.map V.ref:=by rw [e1]; simp
        cases fr with
        | lt x dd =>
          obtain ⟨rfl,dx,vd,hb,hd⟩:=hF
          refine .inl (.inl ⟨_,rfl,_,rfl,lb,_,_,_,rfl,rfl,SqL.of hl,ix,b,dx,_,rfl,hb,rfl,_,rfl,_,rfl,xJ (xK (c:=kL) rfl B.runs B.at_ hl ⟨rfl,dx,vd,hb,hd⟩ hs nd nw B.newl B.kps hsz B.big hv hE) ?_⟩)
          rintro v H3 (⟨rfl,m',h1,h2⟩ | ⟨nn,hl3,m',h1,h2⟩)
          · exact ⟨_,rfl,_,rfl,iteN rfl ⟨m',h1,h2⟩⟩
          · exact ⟨_,rfl,_,rfl,Yr nn ⟨_,rfl,.inl ⟨rfl,_,SqL.of hl3⟩,lb,_,_,rfl,rfl,hl3,e2,m',h1,by rw [e3]; exact h2⟩⟩
        | if0 x =>
          obtain ⟨rfl,dx,hb⟩:=hF
          refine .inl (.inr ⟨_,rfl,_,rfl,lb,_,_,_,rfl,rfl,SqL.of hl,ix,b,dx,_,rfl,hb,rfl,_,rfl,_,rfl,xJ (xK (c:=kI) rfl B.runs B.at_ hl ⟨rfl,dx,hb⟩ hs nd nw B.newl B.kps hsz B.big hv hE) ?_⟩)
          rintro v H3 (⟨rfl,m',h1,h2⟩ | ⟨nn,hl3,m',h1,h2⟩)
          · exact ⟨_,rfl,_,rfl,iteN rfl ⟨m',h1,h2⟩⟩
          · exact ⟨_,rfl,_,rfl,Yr nn ⟨_,rfl,.inl ⟨rfl,_,SqL.of hl3⟩,lb,_,_,rfl,rfl,hl3,e2,m',h1,by rw [e3]; exact h2⟩⟩
        | if1 x dd =>
          obtain ⟨rfl,dx,vd,hb,hd⟩:=hF
          refine .inl (.inr ⟨_,rfl,_,rfl,lb,_,_,_,rfl,rfl,SqL.of hl,ix,b,dx,_,rfl,hb,rfl,_,rfl,_,rfl,xJ (xK (c:=kI) rfl B.runs B.at_ hl ⟨rfl,dx,vd,hb,hd⟩ hs nd nw B.newl B.kps hsz B.big hv hE) ?_⟩)
          rintro v H3 (⟨rfl,m',h1,h2⟩ | ⟨nn,hl3,m',h1,h2⟩)
          · exact ⟨_,rfl,_,rfl,iteN rfl ⟨m',h1,h2⟩⟩
          · exact ⟨_,rfl,_,rfl,Yr nn ⟨_,rfl,.inl ⟨rfl,_,SqL.of hl3⟩,lb,_,_,rfl,rfl,hl3,e2,m',h1,by rw [e3]; exact h2⟩⟩
        | cs x arms tag ns =>
          have hF':=hF
          obtain ⟨la,rfl,dx,ph,pn,va,hb,_⟩:=hF
          refine .inr ⟨_,rfl,_,rfl,lb,_,_,_,rfl,rfl,SqL.of hl,ix,b,dx,_,rfl,hb,rfl,_,rfl,_,rfl,xJ (xK (c:=kC) rfl B.runs B.at_ hl hF' hs nd nw B.newl B.kps hsz B.big hv hE) ?_⟩
          rintro v H3 (⟨rfl,m',h1,h2⟩ | ⟨nn,hl3,m',h1,h2⟩)
          · exact ⟨_,rfl,_,rfl,iteN rfl ⟨m',h1,h2⟩⟩
          · exact ⟨_,rfl,_,rfl,Yr nn ⟨_,rfl,.inl ⟨rfl,_,SqL.of hl3⟩,lb,_,_,rfl,rfl,hl3,e2,m',h1,by rw [e3]; exact h2⟩⟩
end
def yf (z:Str):Bool:=decide (V.int ((z.length:Nat):Int)=V.int 1) && inS z FIGS
theorem Ys {z:Str} (h:yf z=true):PySem.intText? z=some (yt z)/\z.length<=640:=by
  unfold yf at h
  rw [Bool.and_eq_true,decide_eq_true_eq] at h
  obtain ⟨h1,h2⟩:=h
  have h1':z.length=1:=by
    injection h1 with h1
    lia
  have e:∃ c,cl z=[c]:=by
    have:=zZ z
    rw [h1'] at this
    exact List.length_eq_one_iff.mp this
  obtain ⟨c,hc⟩:=e
  have ez:z=sg c:=yF hc
  rw [ez] at h2
  have dg:NumText.AllDigits z.cps.toList:=fun d hd=>by
    rw [show z.cps.toList=[c] from hc,List.mem_singleton] at hd
    rw [hd]
    exact Yq c (inS_iff.mp h2)
  have t:=PySem.intText_digits dg (fun z0=>by rw [show z.cps.toList=[c] from hc] at z0; cases z0) (by lia)
  exact ⟨by unfold yt; rw [t]; rfl,by lia⟩
def xc:List Str->Option (Int × List Str)
  | []=>none
  | y :: r=>if yf y=true then some (yt y,r) else none
def yC (r:List Str):Option (D × List Str):=(zn LX r).bind fun p=>(xc p.2).map fun q=>(.tup [.str p.1,.int q.1],q.2)
def yK:Nat->List D->List Str->Option (List D)
  | 0,acc,r=>if r.isEmpty=true then some acc else none
  | n + 1,acc,r=>if r.isEmpty=true then some acc else (yC r).bind fun p=>yK n (acc ++ [p.1]) p.2
def yV (r:List Str):Option (List D):=(yC r).bind fun p=>yK p.2.length [p.1] p.2
theorem Yt {r r':List Str} {d:D} (h:yC r=some (d,r')):r'.length < r.length:=by
  unfold yC at h
  obtain ⟨⟨x,r1⟩,h1,h⟩:=Option.bind_eq_some_iff.mp h
  obtain ⟨⟨n,r2⟩,h2,h3⟩:=Option.map_eq_some_iff.mp h
  cases h3
  dsimp only at h2
  have:=zL LX h1
  cases r1 with
  | nil=>cases h2
  | cons y r1 =>
    unfold xc at h2
    dsimp only at h2
    split at h2
    · cases h2
      rw [List.length_cons] at this
      show r2.length < r.length
      lia
    · cases h2
def xj (r:List Str) (o:Option D):Prop:=match (zn LX r).bind fun p=>(zK LX "=" [] p.2).map fun q=>(p.1,q) with
  | none=>o=none
  | some (x,ns,r2)=>∃ n o2,Runs LX n ⟨[],none,r2⟩ o2/\o=match o2 with
    | some (d,[])=>some (.tup [.str x,Rd.«strs» ns,d])
    | _=>none
def JK (A:Adr):Sp:=fun vs H Q E=>∃ (w lw:Addr) (row:Int) (r:List Str),vs=[.ref w]/\AtR A H w lw row r/\(match xc r with
  | none=>Err A E (·=w) H row
  | some (x,r')=>∀ H',KpS (·=w) H H'->AtR A H' w lw row r'->Q (.int x) H')
def JL (A:Adr):Sp:=fun vs H Q E=>∃ (w lw:Addr) (row:Int) (r:List Str),vs=[.ref w]/\AtR A H w lw row r/\(match yC r with
  | none=>Err A E (·=w) H row
  | some (d,r')=>∀ H' v,KpS (·=w) H H'->AtR A H' w lw row r'->Is H' d v->Q v H')
def JM (A:Adr):Sp:=fun vs H Q E=>∃ (w lw:Addr) (row:Int) (r:List Str),vs=[.ref w]/\AtR A H w lw row r/\(match yV r with
  | none=>Err A E (·=w) H row
  | some ds=>∀ H' v,KpS (·=w) H H'->Is H' (.tup ds) v->Q v H')
def zbG (A:Adr):Sp:=fun vs H Q E=>∃ (w lw:Addr) (row:Int) (r:List Str) (o:Option D),vs=[.ref w]/\AtR A H w lw row r/\xj r o/\(match o with
  | none=>Err A E (·=w) H row
  | some d=>∀ H' v,KpS (·=w) H H'->Is H' d v->Q v H')
section
variable {P:Program} {w:World} {K:PySem.W.Frag} {mg:Str->Option Value} {base:Heap} {f:Addr} {fd:FuncData} {A:Adr} {t1:Tok}
theorem scSize:FnScope ["self","word"] ["self"] (zj wP):=.ok
theorem Yu (F:Fun K "next_size" "Words.next_size" wP f fd) (T:Txt K mg A) (mF:mg "FIGURES"=some (.str FIGS t1)) (GW:Me P w K mg base (CXf P w) 4 A.cW "next_word" ["self"] (v6 A)) (GI:Me P w K mg base (CXf P w) 3 A.cW "insist" ["self","fits"] (yo A)) :
    FnOk P w K mg base (CXf P w) 5 f fd ["self"] (JK A):=by
  refine F.byx scSize (fun vs H Q E h=>?_) (fun cdv A' outer s H vs Q E hr h=>?_)
  · obtain ⟨w,lw,row,r,rfl,_⟩:=h
    rfl
  obtain ⟨w,lw,row,r,rfl,hA,q⟩:=h
  refine ⟨_,zb (sE 1 scSize.nd (yd (jv 0) T.clW GW hr zG))
    (zb (zv (yl (jv 0) T.clW GI (hr.mono (by decide)) zG (jA1 (y6 (yz zV (z4 x9 rfl T.len PySem.boot_len (jA1 (jv 1))) zc (y0 _)) (wK (yz jX (jv 1) (z3 (v:=.str FIGS) rfl mF ⟨_,rfl⟩) (by with_unfolding_all rfl)))))))
    (ze (zo (zU vj rfl T.int PyProof.Rows.boot_int (jA1 (jv 1)))))),?_⟩
  have ⟨dw,_,_,a1,_⟩:=hA.ex
  refine ⟨_,rfl,w,dw,_,rfl,a1,rfl,w,lw,row,r,rfl,hA,?_⟩
  cases r with
  | nil=>exact q
  | cons y r' =>
    dsimp only
    intro hy H1 k1 hA1
    have ⟨dw1,_,_,c1,_⟩:=hA1.ex
    have sl:=line
    refine ⟨_,rfl,w,dw1,_,rfl,c1,rfl,_,rfl,y,rfl,by lia,rfl,_,rfl,?_⟩
    have ok:yf y=true->∀ H2,Same H1 H2->Q (.int (yt y)) H2:=fun hb H2 s2=>by
      have e:xc (y :: r')=some (yt y,r'):=by
        show (if yf y=true then some (yt y,r') else none)=_
        rw [if_pos hb]
      rw [e] at q
      exact q _ (k1.trans (.of s2)) (hA1.same s2)
    have no:yf y=false->Err A E (fun _=>False) H1 row:=fun hb=>by
      have e:xc (y :: r')=none:=by
        show (if yf y=true then some (yt y,r') else none)=none
        rw [hb]
        rfl
      rw [e] at q
      exact q.at k1 (fun b z=>z.elim)
    refine ite2 (fun c1=>?_) (fun c1=>?_)
    · refine ⟨_,rfl,y,FIGS,rfl,rfl,w,lw,row,r',_,rfl,hA1,fun hb=>?_,fun hb=>no ?_⟩
      · have hs:yf y=true:=by
          unfold yf
          rw [c1]
          exact hb
        exact ⟨_,rfl,y,_,rfl,(Ys hs).1,(Ys hs).2,ok hs _ (Same.refl _)⟩
      · unfold yf
        rw [c1]
        exact hb
    · refine ⟨w,lw,row,r',false,rfl,hA1,(fun z=>by cases z),fun _=>no ?_⟩
      unfold yf
      rw [Bool.eq_false_iff.mpr c1,Bool.false_and]
theorem scPair:FnScope ["words","tag"] ["words"] (zj wR):=.ok
theorem zaP (F:Fun K "read_pair" "read_pair" wR f fd) (T:Txt K mg A) (GN:Me P w K mg base (CXf P w) 5 A.cW "next_name" ["self"] (ye A)) (GS:Me P w K mg base (CXf P w) 5 A.cW "next_size" ["self"] (JK A)):FnOk P w K mg base (CXf P w) 6 f fd ["words"] (JL A):=by
  refine F.byx scPair (fun vs H Q E h=>?_) (fun cdv A' outer s H vs Q E hr h=>?_)
  · obtain ⟨w,lw,row,r,rfl,_⟩:=h
    rfl
  obtain ⟨w,lw,row,r,rfl,hA,q⟩:=h
  refine ⟨_,zb (sE 1 scPair.nd (yd (jv 0) T.clW GN hr zG)) (ze (zo (zz (jA2 (jv 1) (yd (jv 0) T.clW GS hr zG))))),?_⟩
  have ⟨dw,_,_,a1,_⟩:=hA.ex
  refine ⟨_,rfl,w,dw,_,rfl,a1,rfl,w,lw,row,r,rfl,hA,?_⟩
  unfold yC at q
  cases e:zn LX r with
  | none=>rw [e] at q; exact q
  | some pr =>
    obtain ⟨x,r1⟩:=pr
    rw [e] at q
    dsimp only [Option.bind_some] at q ⊢
    intro H1 k1 hA1
    have ⟨dw1,_,_,c1,_⟩:=hA1.ex
    refine ⟨_,rfl,_,rfl,w,dw1,_,rfl,c1,rfl,w,lw,row,r1,rfl,hA1,?_⟩
    cases e2:xc r1 with
    | none=>rw [e2] at q; exact q.at k1 (fun b z=>z)
    | some pr2 =>
      obtain ⟨n,r2⟩:=pr2
      rw [e2] at q
      dsimp only [Option.map_some] at q ⊢
      intro H2 k2 hA2
      refine ⟨sN2,fun p hp=>?_⟩
      exact q _ _ ((k1.trans k2).trans (KpS.new hp)) (hA2.same (zf hp _)) (.tup za (.cons (.str _) (.cons (.int _) .nil)))
theorem scKind:FnScope ["words","pairs"] ["words"] (zj wQ):=.ok
theorem zaQ (F:Fun K "read_kind" "read_kind" wQ f fd) (T:Txt K mg A) (GA:Me P w K mg base CX0 1 A.cW "all_read" ["self"] (Yo A)) (GP:Ca P w K mg base (CXf P w) 6 "read_pair" ["words"] (JL A)):FnOk P w K mg base (CXf P w) 7 f fd ["words"] (JM A):=by
  refine F.byx scKind (fun vs H Q E h=>?_) (fun cdv A' outer s H vs Q E hr h=>?_)
  · obtain ⟨w,lw,row,r,rfl,_⟩:=h
    rfl
  obtain ⟨w,lw,row,r0,rfl,hA,q⟩:=h
  refine ⟨_,zb (sE 1 scKind.nd (zp (jA1 (yJ GP hr rfl zG (jA1 (jv 0))))))
    (zb (xo ownx (yI (ym (yd (jv 0) T.clW GA (hr.mono (by decide)) yv)))
      (ze (zv (zy PySem.F.plainAttrs_list PySem.F.slot_list_append PySem.F.type_list_append zA (jv 1) (jA1 (yJ GP hr rfl zG (jA1 (jv 0))))))))
    (ze (zo (zU zW rfl T.tuple PyProof.Rows.boot_tuple (jA1 (jv 1)))))),?_⟩
  have ⟨dw,ws,i,a1,a2,a3,a4,a5,_⟩:=hA.ex
  have hk:r0.length<=1000000:=by rw [a3,List.length_drop]; lia
  have sl:=line
  unfold yV at q
  refine ⟨_,rfl,w,lw,row,r0,rfl,hA,?_⟩
  cases e:yC r0 with
  | none=>rw [e] at q; exact q
  | some pr =>
    obtain ⟨d,r1⟩:=pr
    have l0:=Yt e
    rw [e] at q
    dsimp only [Option.bind_some] at q ⊢
    intro H1 v k1 hA1 hv
    refine ⟨sN1,fun p hp=>?_⟩
    have ⟨dw1,_,_,c1,c2,_⟩:=hA1.ex
    have npw:p≠w:=(zi c1 hp).symm
    have npl:p≠lw:=(zi c2 hp).symm
    have hn:H p=none:=by
      cases z:H p with
      | none=>rfl
      | some o=>rw [k1 _ _ npw z] at hp; cases hp
    refine ⟨fun m σ H2=>∃ r acc vs n,m=r.length/\r.length<=n/\σ=[some (.ref w),some (.ref p)]/\AtR A H2 w lw row r/\H2 p=some (.lst vs)/\IsL H2 acc vs/\KpS (·=w) H H2/\yK n acc r=yK r1.length [d] r1/\acc.length + r.length<=r0.length,
      ⟨_,r1,[d],[v],r1.length,rfl,Nat.le_refl _,rfl,hA1.same (zf hp _),za,.cons (hv.keep (Tups.new hp)) .nil,k1.trans (KpS.new hp),rfl,by rw [List.length_singleton]; lia⟩,?_⟩
    rintro m σ H2 ⟨r,acc,vs,n,rfl,hn2,rfl,hA2,hl,hi,k2,hu,hz⟩
    have ⟨dw2,_,_,c3,_⟩:=hA2.ex
    refine ⟨_,rfl,w,dw2,_,rfl,c3,rfl,w,lw,row,r,rfl,hA2,?_⟩
    have hvl:=hi.len
    cases r with
    | nil =>
      refine ⟨_,rfl,iteF ?_⟩
      have e0:yK n acc []=some acc:=by cases n <;> rfl
      rw [<- hu,e0] at q
      refine ⟨_,rfl,p,_,rfl,.inl ⟨SqL.of hl,fun p2 hp2=>?_⟩⟩
      exact q _ _ (k2.trans (KpS.new hp2)) (.tup za (hi.keep (Tups.new hp2)))
    | cons y r' =>
      refine ⟨_,rfl,iteT ⟨_,fun _ _ h=>h,?_⟩⟩
      refine ⟨_,rfl,.inl ⟨rfl,_,SqL.of hl⟩,_,rfl,w,lw,row,y :: r',rfl,hA2,?_⟩
      cases n with
      | zero=>simp at hn2
      | succ n =>
        have e1:yK (n + 1) acc (y :: r')=(yC (y :: r')).bind fun p=>yK n (acc ++ [p.1]) p.2:=rfl
        cases e2:yC (y :: r') with
        | none =>
          rw [e1,e2] at hu
          rw [<- hu] at q
          exact q.at k2 (fun b z=>z)
        | some pr =>
          obtain ⟨d2,r2⟩:=pr
          have l2:=Yt e2
          rw [e1,e2] at hu
          dsimp only [Option.bind_some] at hu ⊢
          intro H3 v3 k3 hA3 hv3
          have hl3:=k3 _ _ npw hl
          refine ⟨p,vs,v3,rfl,rfl,hl3,by lia,?_⟩
          have tp:Tups H3 (upd H3 p (.lst (vs ++ [v3]))):=fun b xs z=>by rw [zg (zY z hl3 (by intro z; cases z))]; exact z
          refine ⟨r2.length,l2,r2,acc ++ [d2],vs ++ [v3],n,rfl,by lia,rfl,hA3.kept (S:=(·=p)) (KpS.put rfl) npw.symm npl.symm,za,(hi.keep ((hA2.tups k3).trans tp)).app (.cons (hv3.keep tp) .nil),fun b o nb hb=>?_,hu,by rw [List.length_append,List.length_singleton]; lia⟩
          rw [zg (fun z=>by rw [z,hn] at hb; cases hb)]
          exact k3 _ _ nb (k2 _ _ nb hb)
theorem scDef:FnScope ["words","name","params","body"] ["words"] (zj vU):=.ok
theorem zcU (F:Fun K "read_def" "read_def" vU f fd) (T:Txt K mg A) (GN:Me P w K mg base (CXf P w) 5 A.cW "next_name" ["self"] (ye A)) (GU:Me P w K mg base (CXf P w) 6 A.cW "names_until" ["self","stop"] (vv A)) (GB:Ca P w K mg base (CXf P w) 11 "read_body" ["words"] (JI A))
    (GA:Me P w K mg base CX0 1 A.cW "all_read" ["self"] (Yo A)) (GI:Me P w K mg base (CXf P w) 3 A.cW "insist" ["self","fits"] (yo A)):FnOk P w K mg base (CXf P w) 12 f fd ["words"] (zbG A):=by
  refine F.byx scDef (fun vs H Q E h=>?_) (fun cdv A' outer s H vs Q E hr h=>?_)
  · obtain ⟨w,lw,row,r,o,rfl,_⟩:=h
    rfl
  obtain ⟨w,lw,row,r,o,rfl,hA,hD,q⟩:=h
  refine ⟨_,zb (sE 1 scDef.nd (yd (jv 0) T.clW GN (hr.mono (by decide)) zG))
    (zb (sE 2 scDef.nd (yl (jv 0) T.clW GU (hr.mono (by decide)) zG (jA1 zd)))
    (zb (sE 3 scDef.nd (yJ GB hr rfl zG (jA1 (jv 0))))
    (zb (zv (yl (jv 0) T.clW GI (hr.mono (by decide)) zG (jA1 (yd (jv 0) T.clW GA (hr.mono (by decide)) yv))))
    (ze (zo (zz (jA3 (jv 1) (jv 2) (jv 3)))))))),?_⟩
  have ⟨dw,_,_,a1,_⟩:=hA.ex
  refine ⟨_,rfl,w,dw,_,rfl,a1,rfl,w,lw,row,r,rfl,hA,?_⟩
  unfold xj at hD
  cases e:zn LX r with
  | none =>
    rw [e] at hD
    have hD':o=none:=hD
    rw [hD'] at q
    exact q
  | some pr =>
    obtain ⟨x,r1⟩:=pr
    rw [e] at hD
    dsimp only [Option.bind_some] at hD ⊢
    intro H1 k1 hA1
    have ⟨dw1,_,_,c1,_⟩:=hA1.ex
    refine ⟨_,rfl,w,dw1,_,rfl,c1,rfl,w,lw,row,r1,_,rfl,hA1,?_⟩
    cases e2:zK LX "=" [] r1 with
    | none =>
      rw [e2] at hD
      have hD':o=none:=hD
      rw [hD'] at q
      exact q.at k1 (fun b z=>z)
    | some pr2 =>
      obtain ⟨ns,r2⟩:=pr2
      rw [e2] at hD
      obtain ⟨n,o2,hR,ho⟩:=hD
      dsimp only
      intro H2 pn k2 hA2 hpn
      refine ⟨_,rfl,w,lw,row,r2,n,o2,rfl,hA2,hR,?_⟩
      cases o2 with
      | none =>
        rw [show o=none from ho] at q
        exact q.at (k1.trans k2) (fun b z=>z)
      | some pr3 =>
        obtain ⟨d,r3⟩:=pr3
        dsimp only
        intro H3 v k3 hA3 hv
        have ⟨dw3,_,_,c3,_⟩:=hA3.ex
        refine ⟨_,rfl,w,dw3,_,rfl,c3,rfl,_,rfl,w,dw3,_,rfl,c3,rfl,w,lw,row,r3,rfl,hA3,w,lw,row,r3,_,rfl,hA3,fun hb=>?_,fun hb=>?_⟩
        · cases r3 with
          | cons y r4=>cases hb
          | nil =>
            rw [show o=some (.tup [.str x,Rd.«strs» ns,d]) from ho] at q
            refine ⟨_,rfl,_,rfl,_,rfl,sN3,fun p hp=>?_⟩
            have tp:=Tups.new (o:=.tup [.str x,.ref pn,v]) hp
            have hpn':=tp _ _ (hA2.tups k3 _ _ hpn)
            exact q _ _ (((k1.trans k2).trans k3).trans (KpS.new hp)) (.tup za (.cons (.str _) (.cons (.tup hpn' (IsL.strs ns)) (.cons (hv.keep tp) .nil))))
        · cases r3 with
          | nil=>cases hb
          | cons y r4 =>
            rw [show o=none from ho] at q
            exact q.at ((k1.trans k2).trans k3) (fun b z=>z.elim)
end
def NL:Str:="\n"
def SP:Str:=" "
def zR (z:Str):List Str:=if z="" then [] else Txt.split z NL
def yc (z:Str):List Str:=Txt.split z SP
def rowR (ks ds:List D) (ws:List Str) (o:Option (List D × List D)):Prop:=match ws with
  | []=>o=none
  | y :: r=>if y="def" then ∃ o2,xj r o2/\o=o2.map fun d=>(ks,ds ++ [d]) else if y="kind"/\ds=[] then o=(yV r).map fun l=>(ks ++ [.tup l],ds) else o=none
inductive RowsR:Nat->List D->List D->List (List Str)->Except Nat (List D × List D)->Prop
  | nil {i:Nat} {ks ds:List D}:RowsR i ks ds [] (.ok (ks,ds))
  | row {i:Nat} {ks ds ks' ds':List D} {ws:List Str} {rest:List (List Str)} {o:Except Nat (List D × List D)}:rowR ks ds ws (some (ks',ds'))->RowsR (i + 1) ks' ds' rest o->RowsR i ks ds (ws :: rest) o
  | bad {i:Nat} {ks ds:List D} {ws:List Str} {rest:List (List Str)}:rowR ks ds ws none->RowsR i ks ds (ws :: rest) (.error i)
def We (A:Adr):Sp:=fun vs H Q _=>∃ (b dx lw:Addr) (row:Int) (ws:List Str),vs=[.ref b,.int row,.ref lw]/\H b=some (.ins A.cW dx [])/\H lw=some (.lst (ws.map V.str))/\ws.length<=1000000/\(∀ x∈ws,x.length<=1000)/\∀ H',KpS (·=b) H H'->AtR A H' b lw row ws->Q .non H'
structure Fit (z:Str):Prop where
  len:z.length + 2<=1000000
  row:∀ l∈zR z,l.length + 2<=1000000
  word:∀ l∈zR z,∀ x∈yc l,x.length<=1000
def JN (A:Adr):Sp:=fun vs H Q E=>∃ (z:Str) (o:Except Nat (List D × List D)),vs=[.str z]/\Fit z/\RowsR 0 [] [] ((zR z).map yc) o/\(match o with
  | .error i=>Err A E (fun _=>False) H i
  | .ok (ks,ds)=>∀ H' v,Same H H'->Is H' (.tup [.tup ks,.tup ds]) v->Q v H')
section
variable {P:Program} {w:World} {K:PySem.W.Frag} {mg:Str->Option Value} {base:Heap} {f:Addr} {fd:FuncData} {A:Adr}
theorem zaR:FnScope ["self","row","words"] ["self","row","words"] (zj Y8):=.ok
theorem JO (F:Fun K "__init__" "Words.__init__" Y8 f fd) (T:Txt K mg A):FnOk P w K mg base CX0 1 f fd ["self","row","words"] (We A):=by
  refine F.by zaR (fun vs H Q E h=>?_) (fun cdv A' outer s H vs Q E hr h=>?_)
  · obtain ⟨b,dx,lw,row,ws,rfl,_⟩:=h
    rfl
  obtain ⟨b,dx,lw,row,ws,rfl,hb,hl,h1,h2,q⟩:=h
  refine ⟨_,zb (yE (jv 0) (jv 1)) (zb (yE (jv 0) (jv 2)) (ze (yE (jv 0) zc))),?_⟩
  have nbl:lw≠b:=zY hl hb (by intro z; cases z)
  refine ⟨_,rfl,_,rfl,b,A.cW,dx,_,rfl,hb,T.clW,T.nRow,by show 0 < 1000; decide,?_⟩
  refine ⟨_,rfl,_,rfl,b,A.cW,dx,_,rfl,za,T.clW,T.nWords,by show 1 < 1000; decide,?_⟩
  refine ⟨_,rfl,b,A.cW,dx,_,rfl,za,T.clW,T.nAt,by show 2 < 1000; decide,?_⟩
  refine q _ (((KpS.put (S:=(·=b)) rfl).trans (KpS.put rfl)).trans (KpS.put rfl)) ⟨dx,ws,0,za,?_,rfl,Nat.zero_le _,h1,h2⟩
  rw [zg nbl,zg nbl,zg nbl]
  exact hl
theorem scRead:FnScope ["text","kinds","defs","rows","row","line","words"] ["text"] (zj X7):=.ok
theorem zaS (F:Fun K "read" "read" X7 f fd) (T:Txt K mg A) (GX:Xa P w K mg base 1 "NoText" A.cN ["self","row"] (xx A)) (GW:Ma P w K mg base CX0 1 "Words" A.cW ["self","row","words"] (We A)) (GP:Me P w K mg base CX0 2 A.cW "passed" ["self","word"] (yX A)) (GI:Me P w K mg base (CXf P w) 3 A.cW "insist" ["self","fits"] (yo A))
    (GD:Ca P w K mg base (CXf P w) 12 "read_def" ["words"] (zbG A)) (GK:Ca P w K mg base (CXf P w) 7 "read_kind" ["words"] (JM A)) (mI:mg "isinstance"=none) (mS:mg "str"=none) (mE:mg "enumerate"=none):FnOk P w K mg base (CXf P w) 13 f fd ["text"] (JN A):=by
  refine F.byx scRead (fun vs H Q E h=>?_) (fun cdv A' outer s H vs Q E hr h=>?_)
  · obtain ⟨z,o,rfl,_⟩:=h
    rfl
  obtain ⟨z,o,rfl,fit,hR,q⟩:=h
  refine ⟨_,zb (zx (yI (ym (z4 yW rfl mI PyProof.Rows.boot_isinstance (jA2 (jv 0) (xF (v:=.ty "str") rfl mS PyProof.Rows.boot_str rfl))))) (ze (vN GX (hr.mono (by decide)) rfl Y6 (jA1 zc))) zq)
    (zb (sE 1 scRead.nd (zp zS))
    (zb (sE 2 scRead.nd (zp zS))
    (zb (sE 3 scRead.nd (Yd (tN zbB (jv 0) zd) (zy PySem.F.plainAttrs_str PySem.F.slot_str_split PySem.F.type_str_split yP (jv 0) (jA1 zd)) (zp zS)))
    (zb (yO ownx rfl (zas rfl mE (jA1 (jv 3))) (yB rfl (zw (gN 4 scRead.nd) (zw (gN 5 scRead.nd) yi)))
      (zb (sE 6 scRead.nd (X5 GW (hr.mono (by decide)) rfl yv (jA2 (jv 4) (zy PySem.F.plainAttrs_str PySem.F.slot_str_split PySem.F.type_str_split yP (jv 5) (jA1 zd)))))
      (ze (zx (ym (yl (jv 6) T.clW GP (hr.mono (by decide)) yv (jA1 zd)))
        (ze (zv (zy PySem.F.plainAttrs_list PySem.F.slot_list_append PySem.F.type_list_append zA (jv 2) (jA1 (yJ GD hr rfl zG (jA1 (jv 6)))))))
        (zb (zv (yl (jv 6) T.clW GI (hr.mono (by decide)) zG (jA1 (y6 (yl (jv 6) T.clW GP (hr.mono (by decide)) yv (jA1 zd)) (wK (yz zV (z4 yq rfl T.len PySem.boot_len (jA1 (jv 2))) zc (y0 _)))))))
        (ze (zv (zy PySem.F.plainAttrs_list PySem.F.slot_list_append PySem.F.type_list_append zA (jv 1) (jA1 (yJ GK (hr.mono (by decide)) rfl zG (jA1 (jv 6))))))))))))
    (ze (zo (zz (jA2 (zU zW rfl T.tuple PyProof.Rows.boot_tuple (jA1 (jv 1))) (zU zW rfl T.tuple PyProof.Rows.boot_tuple (jA1 (jv 2))))))))))),?_⟩
  have sl:=line
  refine ⟨_,rfl,_,_,_,true,rfl,.str _,rfl,_,rfl,iteF ?_⟩
  refine ⟨sN0,fun lk hlk=>?_⟩
  refine ⟨sN0,fun ld hld=>?_⟩
  suffices rest:∀ (lr:Addr) (H3:Hp),upd (upd H lk (.lst [])) ld (.lst []) lr=none->H3=upd (upd (upd H lk (.lst [])) ld (.lst [])) lr (.lst ((zR z).map V.str))->(tSeq _ _:TS) { nx:=fun _ H'=>Q .non H',rt:=Q } [some (.str z),some (.ref lk),some (.ref ld),some (.ref lr),none,none,none] H3 by
    refine ⟨_,rfl,rfl,_,rfl,?_⟩
    by_cases c:z=""
    · refine iteN (congrArg V.str c) ?_
      refine ⟨sN0,fun lr hlr=>rest lr _ hlr ?_⟩
      rw [show zR z=[] from if_pos c]
      rfl
    · refine Yr (fun e=>c (by injection e)) ?_
      refine ⟨_,rfl,rfl,z,NL,rfl,rfl,by decide,by have:=fit.len; lia,fun lr hlr=>rest lr _ hlr ?_⟩
      rw [show zR z=Txt.split z NL from if_neg c]
  intro lr H3 hlr e3
  have hlk0:H lk=none:=hlk
  have nd:ld≠lk:=(zi za hld).symm
  have hld0:H ld=none:=by rw [zg nd] at hld; exact hld
  have n1:lr≠ld:=(zi za hlr).symm
  have n2:lr≠lk:=fun e=>by rw [e,zg nd.symm,za] at hlr; cases hlr
  have hlr0:H lr=none:=by rw [zg n1,zg n2] at hlr; exact hlr
  have sm3:Same H H3:=by rw [e3]; exact ((zf hlk _).trans (zf hld _)).trans (zf hlr _)
  have k3:H3 lk=some (.lst []):=by rw [e3,zg n2.symm,zg nd.symm,za]
  have d3:H3 ld=some (.lst []):=by rw [e3,zg n1.symm,za]
  have r3:H3 lr=some (.lst ((zR z).map V.str)):=by rw [e3,za]
  clear e3 hlk hld hlr
  refine ⟨_,rfl,lr,rfl,⟨_,SqL.of r3⟩,fun i m σ H4=>∃ ks ds vk vd a b c,m + i=(zR z).length/\σ=[some (.str z),some (.ref lk),some (.ref ld),some (.ref lr),a,b,c]/\Same H H4/\H4 lk=some (.lst vk)/\H4 ld=some (.lst vd)/\H4 lr=some (.lst ((zR z).map V.str))/\IsL H4 ks vk/\IsL H4 ds vd/\ks.length<=i/\ds.length<=i/\RowsR i ks ds (((zR z).drop i).map yc) o,
    ⟨(zR z).length,[],[],[],[],none,none,none,rfl,rfl,sm3,k3,d3,r3,.nil,.nil,Nat.le_refl _,Nat.le_refl _,hR⟩,?_⟩
  rintro i m σ H4 ⟨ks,ds,vk,vd,a,b,c,hm,rfl,sm,hk,hd,hrw,ik,id',lk',ld',hR'⟩
  have nrows:(zR z).length<=1000002:=by
    unfold zR
    by_cases c:z=""
    · rw [if_pos c]; decide
    · rw [if_neg c]
      have:=wJ z NL
      have:=fit.len
      lia
  have lvk:=ik.len
  have lvd:=id'.len
  by_cases hi:(zR z).length<=i
  · left
    refine ⟨⟨_,SqL.of hrw,by rw [List.length_map]; exact hi⟩,?_⟩
    rw [List.drop_eq_nil_of_le hi] at hR'
    cases hR' with
    | nil =>
      refine ⟨_,rfl,lk,_,rfl,.inl ⟨SqL.of hk,fun p hp=>?_⟩⟩
      have hd5:upd H4 p (.tup vk) ld=some (.lst vd):=by rw [zg (zi hd hp)]; exact hd
      refine ⟨_,rfl,ld,_,rfl,.inl ⟨SqL.of hd5,fun p2 hp2=>⟨sN2,fun p3 hp3=>?_⟩⟩⟩
      have t1:=Tups.new (o:=.tup vk) hp
      have t2:=Tups.new (o:=.tup vd) hp2
      have t3:=Tups.new (o:=.tup [.ref p,.ref p2]) hp3
      refine q _ _ (((sm.trans (zf hp _)).trans (zf hp2 _)).trans (zf hp3 _)) (.tup za (.cons (.tup (t3 _ _ (t2 _ _ za)) (((ik.keep t1).keep t2).keep t3)) (.cons (.tup (t3 _ _ za) (((id'.keep t1).keep t2).keep t3)) .nil)))
  · right
    have hi':i < (zR z).length:=by lia
    have hix:((zR z).map V.str)[i]?=some (.str (zR z)[i]):=by rw [List.getElem?_map,List.getElem?_eq_getElem hi']; rfl
    refine ⟨⟨_,_,SqL.of hrw,hix⟩,_,fun _ _ h=>h,?_⟩
    rintro x H5 ⟨T,v,rfl,hT,rfl,hy⟩
    have ev:v=.str (zR z)[i]:=by
      have:=hy _ (SqL.of hrw)
      rw [hix] at this
      cases this
      rfl
    subst ev
    generalize hline:(zR z)[i]=line at *
    have hmem:line∈zR z:=by rw [<- hline]; exact List.getElem_mem hi'
    rw [List.drop_eq_getElem_cons hi',hline,List.map_cons] at hR'
    have turn:∃ ro,rowR ks ds (yc line) ro/\(ro=none->o=.error i)/\∀ ks' ds',ro=some (ks',ds')->RowsR (i + 1) ks' ds' (((zR z).drop (i + 1)).map yc) o:=by
      cases hR' with
      | row h1 h2=>exact ⟨_,h1,(fun z=>by cases z),fun ks' ds' e=>by cases e; exact h2⟩
      | bad h1=>exact ⟨_,h1,fun _=>rfl,fun _ _ e=>by cases e⟩
    obtain ⟨ro,hro,hbad,hgo⟩:=turn
    have hE:ro=none->Err A E (fun _=>False) H (i:Int):=fun e=>by
      rw [hbad e] at q
      exact q
    clear hR' q
    refine ⟨T,_,rfl,SqT.of za,rfl,_,_,rfl,_,_,rfl,rfl,?_⟩
    have fl:=fit.row line hmem
    refine ⟨_,rfl,_,rfl,rfl,line,SP,rfl,rfl,by decide,by lia,fun lw hlw w dx hw hdx ndx=>?_⟩
    have wl:(yc line).length<=1000000:=by
      have:=wJ line SP
      unfold yc
      lia
    have sm7:=xI (o:=.own w) (o':=.ins A.cW dx []) hw hdx ndx
    refine ⟨w,dx,lw,i,yc line,rfl,za,sm7 _ _ za,wl,fit.word line hmem,fun H8 k8 hA8=>⟨rfl,?_⟩⟩
    have s5:Same H4 (upd H4 T (.tup [.int i,.str line])):=zf hT _
    have s6:=zf (o:=.lst ((Txt.split line SP).map V.str)) hlw
    have sw:∀ {y o},H4 y=some o->y≠w:=fun e=>zi (s6 _ _ (s5 _ _ e)) hw
    have s8:Same H4 H8:=fun y o e=>k8 _ _ (sw e) (sm7 _ _ (s6 _ _ (s5 _ _ e)))
    have t8:Tups H4 H8:=fun p xs e=>s8 _ _ e
    have hw0:H w=none:=by
      cases z0:H w with
      | none=>rfl
      | some o=>exact absurd rfl (sw (sm _ _ z0))
    have er:∀ {H9:Hp},ro=none->Same H H9->Err A E (·=w) H9 i:=fun e s9 d H' k' g=>hE e d H' (fun y o _ z0=>k' _ _ (fun e=>by rw [e,hw0] at z0; cases z0) (s9 _ _ z0)) g
    have er0:∀ {H9:Hp},ro=none->Same H H9->Err A E (fun _=>False) H9 i:=fun e s9 d H' k' g=>hE e d H' (fun y o _ z0=>k' _ _ (fun e=>e) (s9 _ _ z0)) g
    clear hE
    have ⟨dw8,_,_,a8,_⟩:=hA8.ex
    refine ⟨_,rfl,w,dw8,_,rfl,a8,rfl,w,lw,i,yc line,_,rfl,hA8,?_⟩
    generalize yc line=ws at *
    have key:∀ (H9:Hp) (r:List Str),KpS (·=w) H8 H9->AtR A H9 w lw i r->Same H H9/\Tups H4 H9/\H9 lk=some (.lst vk)/\H9 ld=some (.lst vd)/\H9 lr=some (.lst ((zR z).map V.str)):=fun H9 r k9 hA9 =>
      ⟨fun y o e=>k9 _ _ (sw (sm _ _ e)) (s8 _ _ (sm _ _ e)),t8.trans (hA8.tups k9),k9 _ _ (sw hk) (s8 _ _ hk),k9 _ _ (sw hd) (s8 _ _ hd),k9 _ _ (sw hrw) (s8 _ _ hrw)⟩
    cases ws with
    | nil =>
      have hn:ro=none:=hro
      refine ⟨_,rfl,iteF ?_⟩
      refine ⟨_,rfl,w,dw8,_,rfl,a8,rfl,_,rfl,w,dw8,_,rfl,a8,rfl,w,lw,i,[],_,rfl,hA8,?_⟩
      refine ⟨_,rfl,iteF ?_⟩
      exact ⟨w,lw,i,[],false,rfl,hA8,(fun z=>by cases z),fun _=>er0 hn (key H8 [] KpS.refl hA8).1⟩
    | cons y r =>
      unfold rowR at hro
      dsimp only at hro ⊢
      by_cases y1:y="def"
      · rw [if_pos y1] at hro ⊢
        obtain ⟨o2,hD,ho⟩:=hro
        intro H9 k9 hA9
        obtain ⟨s9,t9,lk9,ld9,lr9⟩:=key H9 r k9 hA9
        refine ⟨_,rfl,iteT ?_⟩
        refine ⟨_,rfl,.inl ⟨rfl,_,SqL.of ld9⟩,_,rfl,w,lw,i,r,o2,rfl,hA9,hD,?_⟩
        cases o2 with
        | none=>exact er ho s9
        | some d =>
          dsimp only
          intro H10 v k10 hv
          have go:=hgo ks (ds ++ [d]) ho
          have lk10:=k10 _ _ (sw hk) lk9
          have ld10:=k10 _ _ (sw hd) ld9
          have lr10:=k10 _ _ (sw hrw) lr9
          have t10:Tups H4 H10:=t9.trans (hA9.tups k10)
          refine ⟨ld,vd,v,rfl,rfl,ld10,by lia,?_⟩
          have tp:Tups H10 (upd H10 ld (.lst (vd ++ [v]))):=fun p xs z0=>by rw [zg (zY z0 ld10 (by intro z; cases z))]; exact z0
          refine ⟨m - 1,by lia,ks,ds ++ [d],vk,vd ++ [v],_,_,_,by lia,rfl,fun y o e=>?_,by rw [zg nd.symm]; exact lk10,za,by rw [zg n1]; exact lr10,ik.keep (t10.trans tp),(id'.keep (t10.trans tp)).app (.cons (hv.keep tp) .nil),by lia,by rw [List.length_append,List.length_singleton]; lia,go⟩
          rw [zg (fun z0=>by rw [z0,hld0] at e; cases e)]
          exact k10 _ _ (sw (sm _ _ e)) (s9 _ _ e)
      rw [if_neg y1] at hro ⊢
      refine ⟨_,rfl,iteF ?_⟩
      refine ⟨_,rfl,w,dw8,_,rfl,a8,rfl,_,rfl,w,dw8,_,rfl,a8,rfl,w,lw,i,y :: r,_,rfl,hA8,?_⟩
      dsimp only
      by_cases y2:y="kind"
      · rw [if_pos y2]
        intro H9 k9 hA9
        obtain ⟨s9,t9,lk9,ld9,lr9⟩:=key H9 r k9 hA9
        have ⟨dw9,_,_,a9,_⟩:=hA9.ex
        refine ⟨_,rfl,iteT ?_⟩
        refine ⟨_,rfl,ld,_,rfl,.inl (SqL.of ld9),rfl,w,lw,i,r,_,rfl,hA9,fun hb=>?_,fun hb=>?_⟩
        · have d0:ds=[]:=by
            have:=of_decide_eq_true hb
            injection this with this
            have:vd.length=0:=by lia
            exact List.length_eq_zero_iff.mp (by lia)
          rw [if_pos ⟨y2,d0⟩] at hro
          refine ⟨_,rfl,.inl ⟨rfl,_,SqL.of lk9⟩,_,rfl,w,lw,i,r,rfl,hA9,?_⟩
          cases e:yV r with
          | none =>
            rw [e] at hro
            exact er hro s9
          | some l =>
            rw [e] at hro
            dsimp only
            intro H10 v k10 hv
            have go:=hgo (ks ++ [D.tup l]) ds hro
            have lk10:=k10 _ _ (sw hk) lk9
            have ld10:=k10 _ _ (sw hd) ld9
            have lr10:=k10 _ _ (sw hrw) lr9
            have t10:Tups H4 H10:=t9.trans (hA9.tups k10)
            refine ⟨lk,vk,v,rfl,rfl,lk10,by lia,?_⟩
            have tp:Tups H10 (upd H10 lk (.lst (vk ++ [v]))):=fun p xs z0=>by rw [zg (zY z0 lk10 (by intro z; cases z))]; exact z0
            refine ⟨m - 1,by lia,ks ++ [.tup l],ds,vk ++ [v],vd,_,_,_,by lia,rfl,fun y o e=>?_,za,by rw [zg nd]; exact ld10,by rw [zg n2]; exact lr10,(ik.keep (t10.trans tp)).app (.cons (hv.keep tp) .nil),id'.keep (t10.trans tp),by rw [List.length_append,List.length_singleton]; lia,by lia,go⟩
            rw [zg (fun z0=>by rw [z0,hlk0] at e; cases e)]
            exact k10 _ _ (sw (sm _ _ e)) (s9 _ _ e)
        · have d0:¬ (y="kind"/\ds=[]):=fun c=>of_decide_eq_false hb (by
            have:vd.length=0:=by rw [<- lvd,c.2]; rfl
            rw [this]
            rfl)
          rw [if_neg d0] at hro
          exact er0 hro s9
      · rw [if_neg y2]
        rw [if_neg (fun c=>y2 c.1)] at hro
        refine ⟨_,rfl,iteF ?_⟩
        exact ⟨w,lw,i,y :: r,false,rfl,hA8,(fun z=>by cases z),fun _=>er0 hro (key H8 _ KpS.refl hA8).1⟩
end
mutual
def szD:D->Nat
  | .int _=>1
  | .str _=>1
  | .tup ds=>1 + szL ds
def szL:List D->Nat
  | []=>0
  | d :: ds=>szD d + szL ds
end
inductive Prs (H:Hp):List D->List Addr->Prop
  | nil:Prs H [] []
  | cons {d:D} {p:Addr} {x y:V} {ds:List D} {ps:List Addr}:H p=some (.tup [x,y])->Is H d x->Is H d y->Prs H ds ps->Prs H (d :: ds) (p :: ps)
section
variable {P:Program} {w:World} {K:PySem.W.Frag} {mg:Str->Option Value} {base:Heap} {f:Addr} {fd:FuncData}
def jc:Sp:=fun vs H Q _=>∃ c n:Int,vs=[.int c,.int n]/\0<=n/\n<=100/\∀ (H':Hp) (p:Addr) (l:List Int),Same H H'->(l.length:Int)=n->(∀ x∈l,0<=x/\x < 2147483647)->H' p=some (.lst (l.map V.int))->Q (.ref p) H'
def vw:Sp:=fun vs H Q _=>∃ n:Int,vs=[.int n]/\0<=n/\∀ (z:Str) (H':Hp),zk z=true->Same H H'->Q (.str z) H'
def xy:Sp:=fun vs H Q _=>∃ c n:Int,vs=[.int c,.int n]/\0<=n/\n<=100/\∀ (H':Hp) (p:Addr) (l:List Str),Same H H'->H p=none->(l.length:Int)=n->(∀ x∈l,zk x=true)->H' p=some (.lst (l.map V.str))->Q (.ref p) H'
def j9:Sp:=fun vs H Q _=>∃ c:Int,vs=[.int c]/\∀ (i:Int) (H':Hp),i.natAbs < 10 ^ 30->Same H H'->Q (.int i) H'
def S52:Str:="abcdefghijklmnopqrstuvwxyzabcdefghijklmnopqrstuvwxyz"
def OTHERS:List Str:=["hold","drop","loose","look","take","text","kinds","lets","iff","ended","nums","name"]
theorem ZP:Txt.split "hold drop loose look take text kinds lets iff ended nums name" " "=OTHERS:=by decide +kernel
theorem Xv:Txt.split "def kind give let if else case end num plus minus times over rest less same make call func ask" " "=KEPT:=by decide +kernel
def Wf (z:Str):Prop:=1<=z.length/\z.length<=12/\∀ c∈cl z,c∈cl LETS
theorem zaT {z:Str} (h:Wf z) (hk:z ∉ KEPT):zk z=true:=by
  obtain ⟨h1,h2,h3⟩:=h
  unfold zk xv
  rw [decide_eq_true (show (1:Int)<=(z.length:Nat) by lia),decide_eq_true (show ((z.length:Nat):Int)<=12 by lia),madeOf_iff.mpr h3,wy,decide_eq_false hk]
  rfl
theorem Yv:∀ z∈OTHERS,Wf z:=by
  have:∀ z∈OTHERS,1<=z.length/\z.length<=12/\(cl z).all (fun c=>(cl LETS).contains c)=true:=by decide +kernel
  intro z hz
  obtain ⟨h1,h2,h3⟩:=this z hz
  exact ⟨h1,h2,fun c hc=>by simpa using List.all_eq_true.mp h3 c hc⟩
theorem zcV:∀ z∈KEPT,zk (z ++ ("a":Str))=true:=by decide +kernel
theorem seg {a b:Int} (ha:0<=a) (ha2:a<=25) (hb:0<=b) (hb2:b<=6):((Txt.slice (Txt.slice S52 (some a) none) none (some b)).length:Int)=b/\∀ c∈cl (Txt.slice (Txt.slice S52 (some a) none) none (some b)),c∈cl LETS:=by
  have hl:S52.length=52:=by decide +kernel
  have all:(cl S52).all (fun c=>(cl LETS).contains c)=true:=by decide +kernel
  have e1:cl (Txt.slice S52 (some a) none)=(cl S52).drop a.toNat:=by
    rw [vQ,hl]
    have c1:cutAt 52 (some a) 0=a.toNat:=by
      unfold cutAt
      dsimp only
      rw [if_neg (by lia)]
      lia
    rw [c1]
    show ((cl S52).drop a.toNat).take (52 - a.toNat)=_
    exact List.take_of_length_le (by rw [List.length_drop,zZ,hl]; exact Nat.le_refl _)
  have l1:(Txt.slice S52 (some a) none).length=52 - a.toNat:=by rw [<- zZ,e1,List.length_drop,zZ,hl]
  have e2:cl (Txt.slice (Txt.slice S52 (some a) none) none (some b))=((cl S52).drop a.toNat).take b.toNat:=by
    rw [vQ,e1,l1]
    have c1:cutAt (52 - a.toNat) (some b) (52 - a.toNat)=b.toNat:=by
      unfold cutAt
      dsimp only
      rw [if_neg (by lia)]
      lia
    rw [c1]
    rfl
  constructor
  · rw [<- zZ,e2,List.length_take,List.length_drop,zZ,hl]
    lia
  · intro c hc
    rw [e2] at hc
    simpa using List.all_eq_true.mp all c (List.mem_of_mem_drop (List.mem_of_mem_take hc))
theorem Wg {α:Type} {l:List α} {k:Int} (hk:(l.length:Int)=k) (h0:0 < k) (n:Int):∃ x,x∈l/\atI l (n % k)=some x:=by
  have h1:0<=n % k:=Int.emod_nonneg _ (by lia)
  have h2:n % k < k:=Int.emod_lt_of_pos _ h0
  have hj:(n % k).toNat < l.length:=by lia
  have e:n % k=(((n % k).toNat:Nat):Int):=by lia
  refine ⟨l[(n % k).toNat],List.getElem_mem hj,?_⟩
  have r:=yT (xs:=l) (j:=(n % k).toNat) (List.getElem?_eq_getElem hj)
  rw [<- e] at r
  exact r
theorem scStream:FnScope ["_law_cell","_law_many_here","_law_found","_law_number_here","_law_k"] ["_law_cell","_law_many_here"] (zj ZL):=.ok
theorem Vb (F:Fun K "_law_stream" "_law_stream" ZL f fd) (mr:mg "range"=none):FnOk P w K mg base CX0 1 f fd ["_law_cell","_law_many_here"] jc:=by
  refine F.by scStream (fun vs H Q E h=>?_) (fun cdv A outer s H vs Q E hr h=>?_)
  · obtain ⟨c,n,rfl,_⟩:=h
    rfl
  obtain ⟨c,n,rfl,h0,h1,q⟩:=h
  refine ⟨_,zb (sE 2 scStream.nd (zp zS))
    (zb (sE 3 scStream.nd (zh zJ (zh zu (jv 0) zc) zc))
    (zb (yO PassesOwn.never rfl (xG rfl mr (jA1 (zh zJ (jv 1) zc))) (gN 4 scStream.nd)
      (zb (sE 3 scStream.nd (zh zu (zh zJ (zh zJ (zh yG (jv 3) (jv 3)) (zh yG zc (jv 3))) (jv 4)) zc))
      (ze (zv (zy PySem.F.plainAttrs_list PySem.F.slot_list_append PySem.F.type_list_append zA (jv 2) (jA1 (jv 3)))))))
    (ze (zo (zB z8 (jv 2) (zD zc) zT))))),?_⟩
  have sl:=line
  refine ⟨sN0,fun lp hlp=>?_⟩
  refine ⟨_,rfl,_,_,rfl,rfl,(by show (0:Int) < _; decide),_,_,rfl,rfl,?_⟩
  refine ⟨_,rfl,_,_,rfl,rfl,_,rfl,by lia,by lia,wG (n:=(n + 1).toNat) (fun i σ H'=>∃ (x:Int) (l:List Int) (v:Option V),σ=[some (.int c),some (.int n),some (.ref lp),some (.int x),v]/\0<=x/\x < 2147531918/\l.length=i/\(∀ y∈l,0<=y/\y < 2147483647)/\Same H H'/\H' lp=some (.lst (l.map V.int)))
    ⟨_,[],none,rfl,by have:=Int.emod_nonneg c (show (2147483647:Int)≠0 by decide); lia,by have:=Int.emod_lt_of_pos c (show (0:Int) < 2147483647 by decide); lia,rfl,(fun y hy=>by cases hy),zf hlp _,za⟩ ?_ ?_⟩
  · rintro i σ H' hi ⟨x,l,v,rfl,hx0,hx1,hl,hall,sm,hl'⟩
    refine ⟨_,rfl,_,rfl,_,_,rfl,rfl,.inl ⟨by lia,by lia⟩,_,rfl,_,_,rfl,rfl,.inr ⟨by lia,by lia⟩,_,_,rfl,rfl,_,rfl,_,_,rfl,rfl,_,_,rfl,rfl,(by show (0:Int) < _; decide),?_⟩
    refine ⟨_,rfl,.inl ⟨rfl,_,SqL.of hl'⟩,_,rfl,lp,_,_,rfl,rfl,hl',by rw [List.length_map]; lia,?_⟩
    refine ⟨(x * x + 48271 * x + (0 + (i:Int))) % 2147483647,l ++ [(x * x + 48271 * x + (0 + (i:Int))) % 2147483647],_,rfl,Int.emod_nonneg _ (by decide),by have:=Int.emod_lt_of_pos (x * x + 48271 * x + (0 + (i:Int))) (show (0:Int) < 2147483647 by decide); lia,by rw [List.length_append,List.length_singleton,hl],fun y hy=>?_,fun b o z=>?_,by rw [za,List.map_append]; rfl⟩
    · rcases List.mem_append.mp hy with hy | hy
      · exact hall y hy
      · rw [List.mem_singleton.mp hy]
        exact ⟨Int.emod_nonneg _ (by decide),Int.emod_lt_of_pos _ (by decide)⟩
    · rw [zg (zi z hlp)]
      exact sm _ _ z
  · rintro σ H' ⟨x,l,v,rfl,hx0,hx1,hl,hall,sm,hl'⟩
    refine ⟨_,rfl,_,rfl,lp,_,rfl,SqL.of hl',fun p hp=>?_⟩
    have e:cutV (l.map V.int) (some 1) none=l.tail.map V.int:=by
      cases l with
      | nil=>rfl
      | cons y l =>
        unfold cutV
        rw [List.length_map,List.length_cons]
        have c1:HT.sIx (l.length + 1) 0 (some 1)=1:=by
          unfold HT.sIx
          simp
        have c2:HT.sIx (l.length + 1) (l.length + 1) none=l.length + 1:=rfl
        rw [c1,c2]
        show (l.map V.int).take _=_
        exact List.take_of_length_le (by rw [List.length_map]; lia)
    rw [e]
    exact q _ p l.tail (sm.trans (zf hp _)) (by rw [List.length_tail]; lia) (fun y hy=>hall y (List.mem_of_mem_tail hy)) za
theorem scLName:FnScope ["_law_number_here","_law_some","_law_taken","_law_word","_law_other"] ["_law_number_here"] (zj Xi):=.ok
theorem JP (F:Fun K "_law_name" "_law_name" Xi f fd):FnOk P w K mg base CX0 1 f fd ["_law_number_here"] vw:=by
  refine F.by scLName (fun vs H Q E h=>?_) (fun cdv A outer s H vs Q E hr h=>?_)
  · obtain ⟨n,rfl,_⟩:=h
    rfl
  obtain ⟨n,rfl,h0,q⟩:=h
  refine ⟨_,zb (sE 1 scLName.nd zd) (zb (sE 2 scLName.nd zd)
    (zb (sE 3 scLName.nd (zB x6 (zB x6 (jv 1) (zD (zh zu (jv 0) zc)) zT) zT (zD (zh zJ zc (zh zu (zh zC (jv 0) zc) zc)))))
    (zb (sE 3 scLName.nd (zh z6 (jv 3) (zB x6 (zB x6 (jv 1) (zD (zh zu (zh zC (jv 0) zc) zc)) zT) zT (zD (zh zu (zh zC (jv 0) zc) zc)))))
    (zb (zx (tN zV (zh zu (zh zC (jv 0) zc) zc) zc)
      (zb (sE 4 scLName.nd zd) (ze (sE 3 scLName.nd (xX z5 (zy PySem.F.plainAttrs_str PySem.F.slot_str_split PySem.F.type_str_split yP (jv 4) (jA1 zd)) (zh zu (jv 0) zc))))) zq)
    (zb (zx (Zy wL (jv 3) (zy PySem.F.plainAttrs_str PySem.F.slot_str_split PySem.F.type_str_split yP (jv 2) (jA1 zd)) (by with_unfolding_all rfl)) (ze (sE 3 scLName.nd (zh z6 (jv 3) zd))) zq)
    (ze (zo (jv 3)))))))),?_⟩
  have sl:=line
  have b1:0<=n % 26/\n % 26 < 26:=⟨Int.emod_nonneg _ (by decide),Int.emod_lt_of_pos _ (by decide)⟩
  have b2:0<=n / 26 % 6/\n / 26 % 6 < 6:=⟨Int.emod_nonneg _ (by decide),Int.emod_lt_of_pos _ (by decide)⟩
  have b3:0<=n / 156 % 26/\n / 156 % 26 < 26:=⟨Int.emod_nonneg _ (by decide),Int.emod_lt_of_pos _ (by decide)⟩
  have b4:0<=n / 4056 % 7/\n / 4056 % 7 < 7:=⟨Int.emod_nonneg _ (by decide),Int.emod_lt_of_pos _ (by decide)⟩
  obtain ⟨l1,a1⟩:=seg (a:=n % 26) (b:=1 + n / 26 % 6) (by lia) (by lia) (by lia) (by lia)
  obtain ⟨l2,a2⟩:=seg (a:=n / 156 % 26) (b:=n / 4056 % 7) (by lia) (by lia) (by lia) (by lia)
  have cD:∀ {i j:Int},0 < j->j < 1073741824->CDiv i j:=fun h1 h2=>⟨h1,h2⟩
  have s52:S52.length=52:=by decide +kernel
  have sl1:=Txt.slice_le S52 (some (n % 26)) none
  have sl2:=Txt.slice_le S52 (some (n / 156 % 26)) none
  refine ⟨_,rfl,_,rfl,_,_,rfl,rfl,(by show (0:Int) < _; decide),_,rfl,S52,rfl,by lia,_,rfl,_,_,rfl,rfl,cD (by decide) (by decide),_,_,rfl,rfl,(by show (0:Int) < _; decide),_,_,rfl,rfl,_,rfl,_,rfl,by lia,?_⟩
  refine ⟨_,rfl,_,rfl,_,rfl,_,_,rfl,rfl,cD (by decide) (by decide),_,_,rfl,rfl,(by show (0:Int) < _; decide),_,rfl,S52,rfl,by lia,_,rfl,_,_,rfl,rfl,cD (by decide) (by decide),_,_,rfl,rfl,(by show (0:Int) < _; decide),_,rfl,_,rfl,by lia,_,_,rfl,rfl,by lia,?_⟩
  have gw:Wf (Txt.slice (Txt.slice S52 (some (n % 26)) none) none (some (1 + n / 26 % 6)) ++ Txt.slice (Txt.slice S52 (some (n / 156 % 26)) none) none (some (n / 4056 % 7))):=by
    refine ⟨by rw [PySem.Str.length_append]; lia,by rw [PySem.Str.length_append]; lia,fun c hc=>?_⟩
    rw [xt] at hc
    rcases List.mem_append.mp hc with hc | hc
    · exact a1 c hc
    · exact a2 c hc
  generalize Txt.slice (Txt.slice S52 (some (n % 26)) none) none (some (1 + n / 26 % 6)) ++ Txt.slice (Txt.slice S52 (some (n / 156 % 26)) none) none (some (n / 4056 % 7))=z0 at gw
  suffices rest:∀ (z:Str) (H1:Hp) (v:Option V),Wf z->Same H H1->(tSeq _ _:TS) { nx:=fun _ H'=>Q .non H',rt:=Q } [some (.int n),some (.str S52),some (.str "def kind give let if else case end num plus minus times over rest less same make call func ask"),some (.str z),v] H1 by
    refine ⟨_,rfl,_,_,rfl,rfl,cD (by decide) (by decide),_,_,rfl,rfl,(by show (0:Int) < _; decide),rfl,_,rfl,?_⟩
    refine ite2 (fun _=>?_) (fun _=>rest z0 H none gw (Same.refl _))
    refine ⟨_,rfl,rfl,_,_,rfl,rfl,by decide,by decide +kernel,fun p hp=>?_⟩
    rw [ZP]
    obtain ⟨v,hm,hv⟩:=Wg (l:=OTHERS.map V.str) (k:=12) (by decide +kernel) (by decide) n
    obtain ⟨z,hz,rfl⟩:=List.mem_map.mp hm
    exact ⟨_,rfl,_,_,rfl,rfl,(by show (0:Int) < _; decide),p,_,_,_,rfl,rfl,SqL.of za,hv,rest z _ _ (Yv z hz) (zf hp _)⟩
  intro z H1 v hz s1
  refine ⟨_,rfl,_,rfl,rfl,_,_,rfl,rfl,by decide,by decide +kernel,fun p hp=>?_⟩
  rw [Xv]
  refine ⟨p,_,rfl,.inl (SqL.of za),rfl,j7,_,rfl,?_⟩
  rw [if_neg Bool.false_ne_true,wy]
  by_cases c:z∈KEPT
  · refine iteD c ?_
    refine ⟨_,rfl,_,_,rfl,rfl,?_,_,rfl,q _ _ (zcV z c) (s1.trans (zf hp _))⟩
    have:=hz.2.1
    show z.length + 1<=sizeLine
    lia
  · exact xW c ⟨_,rfl,q _ _ (zaT hz c) (s1.trans (zf hp _))⟩
theorem JQ:FnScope ["_law_cell","_law_many_here"] ["_law_cell","_law_many_here"] (zj ZM):=.ok
theorem JR:(["_law_cell","_law_many_here","_law_number_here"]:List Str).Nodup:=by decide +kernel
theorem Vc (F:Fun K "_law_names" "_law_names" ZM f fd) (GS:Ca P w K mg base CX0 1 "_law_stream" ["_law_cell","_law_many_here"] jc) (GN:Ca P w K mg base CX0 1 "_law_name" ["_law_number_here"] vw):FnOk P w K mg base CX0 2 f fd ["_law_cell","_law_many_here"] xy:=by
  refine F.by JQ (fun vs H Q E h=>?_) (fun cdv A outer s H vs Q E hr h=>?_)
  · obtain ⟨c,n,rfl,_⟩:=h
    rfl
  obtain ⟨c,n,rfl,h0,h1,q⟩:=h
  refine ⟨_,ze (zo (wn ["_law_number_here"] rfl (vp (cA GS hr (jA2 (jv 0) (jv 1))))
    (fun _ _ _ _ _=>gN 2 JR) (fun _ _ _ _ _=>wm) (fun _ _ _ _ _=>cA GN hr (jA1 (jv 2))))),?_⟩
  have sl:=line
  refine ⟨_,rfl,_,rfl,c,n,rfl,h0,h1,fun H1 p1 l s1 hl hall hp1=>⟨p1,rfl,⟨_,SqL.of hp1⟩,zag (xs:=l.map V.int) (fun i τ ys H'=>Same H1 H'/\(∃ v,τ=[some (.int c),some (.int n),v])/\∃ ws:List Str,ys=ws.map V.str/\ws.length=i/\∀ x∈ws,zk x=true) ⟨Same.refl _,⟨none,rfl⟩,[],rfl,rfl,fun x hx=>by cases hx⟩ (fun i τ ys H' _ pv=>SqL.of (pv.1 _ _ hp1)) ?_ ?_⟩⟩
  · rintro i x τ ys H' hx ⟨sm,⟨v,rfl⟩,ws,rfl,hw,hn⟩
    obtain ⟨y,hy,rfl⟩:∃ y,l[i]?=some y/\V.int y=x:=by
      rw [List.getElem?_map] at hx
      cases e:l[i]? with
      | none=>rw [e] at hx; cases hx
      | some y=>rw [e] at hx; exact ⟨y,rfl,Option.some.inj hx⟩
    have hi:=(List.getElem?_eq_some_iff.mp hy).1
    refine ⟨_,rfl,y,rfl,(hall y (List.mem_of_getElem? hy)).1,fun z H2 hz s2=>⟨by rw [List.length_map]; lia,sm.trans s2,⟨_,rfl⟩,ws ++ [z],by rw [List.map_append]; rfl,by rw [List.length_append,List.length_singleton,hw],fun x hx=>?_⟩⟩
    rcases List.mem_append.mp hx with hx | hx
    · exact hn x hx
    · rw [List.mem_singleton.mp hx]
      exact hz
  · rintro τ ys H' ⟨sm,_,ws,rfl,hw,hn⟩ p hp
    rw [List.length_map] at hw
    have fr:H p=none:=by
      cases z:H p with
      | none=>rfl
      | some o=>rw [sm _ _ (s1 _ _ z)] at hp; cases hp
    exact q _ p ws ((s1.trans sm).trans (zf hp _)) fr (by lia) hn za
theorem scLNumber:FnScope ["_law_cell","_law_xs","_law_most"] ["_law_cell"] (zj vV):=.ok
theorem Xw (F:Fun K "_law_number" "_law_number" vV f fd) (GS:Ca P w K mg base CX0 1 "_law_stream" ["_law_cell","_law_many_here"] jc):FnOk P w K mg base CX0 2 f fd ["_law_cell"] j9:=by
  refine F.by scLNumber (fun vs H Q E h=>?_) (fun cdv A outer s H vs Q E hr h=>?_)
  · obtain ⟨c,rfl,_⟩:=h
    rfl
  obtain ⟨c,rfl,q⟩:=h
  refine ⟨_,zb (sE 1 scLNumber.nd (cA GS hr (jA2 (jv 0) zc)))
    (zb (sE 2 scLNumber.nd (zh xp (zh zcz zc zc) zc))
    (zb (zx (tN zV (zh zu (jv 0) zc) zc) (ze (zo (zh xp (zh zu (zh zC (jv 0) zc) zc) zc))) zq)
    (zb (zx (tN zV (zh zu (jv 0) zc) zc) (ze (zo (zh xp (zh zu (zh zC (jv 0) zc) (zh zJ (zh yG zc (jv 2)) zc)) (jv 2)))) zq)
    (ze (zo (zh xp (zh zu (zh yG (zh yG (zh yG (xL 1) (xL 1)) (xL 1)) (xL 1)) (zh zJ (zh yG zc (jv 2)) zc)) (jv 2))))))),?_⟩
  have cD:∀ {i j:Int},0 < j->j < 1073741824->CDiv i j:=fun h1 h2=>⟨h1,h2⟩
  refine ⟨_,rfl,c,4,rfl,by decide,by decide,fun H1 p l s1 hl hall hp=>?_⟩
  refine ⟨_,_,rfl,rfl,⟨by decide,by decide,by decide⟩,_,_,rfl,rfl,?_⟩
  have big:∀ x:Int,(x % (2 * ((10:Int) ^ (30:Int).toNat - 1) + 1) - ((10:Int) ^ (30:Int).toNat - 1)).natAbs < 10 ^ 30:=fun x=>by
    have e:(10:Int) ^ (30:Int).toNat=1000000000000000000000000000000:=by decide
    have e2:(10:Nat) ^ 30=1000000000000000000000000000000:=by decide
    rw [e,e2]
    have:=Int.emod_nonneg x (show (2 * ((1000000000000000000000000000000:Int) - 1) + 1)≠0 by decide)
    have:=Int.emod_lt_of_pos x (show (0:Int) < (2 * ((1000000000000000000000000000000:Int) - 1) + 1) by decide)
    lia
  have pos:(0:Int) < 2 * ((10:Int) ^ (30:Int).toNat - 1) + 1:=by decide
  refine ⟨_,rfl,_,_,rfl,rfl,(by show (0:Int) < _; decide),rfl,_,rfl,?_⟩
  refine ite2 (fun _=>?_) (fun _=>?_)
  · refine ⟨_,rfl,_,_,rfl,rfl,cD (by decide) (by decide),_,_,rfl,rfl,(by show (0:Int) < _; decide),_,_,rfl,rfl,q _ _ ?_ s1⟩
    have:=Int.emod_nonneg (c / 3) (show (41:Int)≠0 by decide)
    have:=Int.emod_lt_of_pos (c / 3) (show (0:Int) < 41 by decide)
    have e2:(10:Nat) ^ 30=1000000000000000000000000000000:=by decide
    rw [e2]
    lia
  refine ⟨_,rfl,_,_,rfl,rfl,(by show (0:Int) < _; decide),rfl,_,rfl,?_⟩
  refine ite2 (fun _=>?_) (fun _=>?_)
  · exact ⟨_,rfl,_,_,rfl,rfl,cD (by decide) (by decide),_,rfl,_,_,rfl,rfl,.inl ⟨by decide,by decide⟩,_,_,rfl,rfl,_,_,rfl,rfl,pos,_,rfl,_,_,rfl,rfl,q _ _ (big _) s1⟩
  · match l,hl,hall,hp with
    | [x0,x1,x2,x3],_,hall,hp =>
      have h1:=hall x1 (by simp)
      have h2:=hall x2 (by simp)
      have h3:=hall x3 (by simp)
      have at_:∀ (k:Nat) (x:Int),[x0,x1,x2,x3][k]?=some x->atI ([x0,x1,x2,x3].map V.int) (k:Int)=some (.int x):=fun k x e=>yT (by rw [List.getElem?_map,e]; rfl)
      exact ⟨_,rfl,p,_,_,_,rfl,rfl,SqL.of hp,at_ 0 x0 rfl,_,rfl,p,_,_,_,rfl,rfl,SqL.of hp,at_ 1 x1 rfl,_,_,rfl,rfl,.inr ⟨by lia,by lia⟩,_,rfl,p,_,_,_,rfl,rfl,SqL.of hp,at_ 2 x2 rfl,_,_,rfl,rfl,.inr ⟨by lia,by lia⟩,_,rfl,p,_,_,_,rfl,rfl,SqL.of hp,at_ 3 x3 rfl,_,_,rfl,rfl,.inr ⟨by lia,by lia⟩,
        _,rfl,_,_,rfl,rfl,.inl ⟨by decide,by decide⟩,_,_,rfl,rfl,_,_,rfl,rfl,pos,_,rfl,_,_,rfl,rfl,q _ _ (big _) s1⟩
theorem Yw:SP=sg 32:=by decide
theorem zbH:NL=sg 10:=by decide
structure Wd (x:Str):Prop where
  sp:32 ∉ cl x
  nl:10 ∉ cl x
  len:x.length<=32
theorem lets_no:32 ∉ cl LETS/\10 ∉ cl LETS:=by decide +kernel
theorem zF {x:Str} (h:zk x=true):Wd x/\x≠("":Str):=by
  unfold zk xv at h
  simp only [Bool.and_eq_true,decide_eq_true_eq] at h
  obtain ⟨⟨h1,h2⟩,h3,_⟩:=h
  refine ⟨⟨fun c=>lets_no.1 (madeOf_iff.mp h3 _ c),fun c=>lets_no.2 (madeOf_iff.mp h3 _ c),by lia⟩,fun e=>?_⟩
  rw [e] at h1
  exact absurd h1 (by decide)
theorem Za {x:Str} (h:zH x=true):Wd x:=by
  obtain ⟨⟨h1,h2⟩,h3,_⟩:=isNumber_iff.mp h
  by_cases c:∃ cs,cl x=45 :: cs
  · obtain ⟨cs,hc⟩:=c
    rw [y9 hc] at h1 h2 h3
    have hl:x.length=cs.length + 1:=by rw [<- zZ,hc,List.length_cons]
    refine ⟨fun m=>?_,fun m=>?_,by lia⟩ <;>
    · rw [hc] at m
      rcases List.mem_cons.mp m with m | m
      · lia
      · have:=h3 _ m
        lia
  · rw [xa c] at h1 h2 h3
    have hl:=zZ x
    exact ⟨fun m=>by have:=h3 _ m; lia,fun m=>by have:=h3 _ m; lia,by lia⟩
def wdB (x:Str):Bool:=!(cl x).contains 32 && !(cl x).contains 10 && decide (x.length<=32)
theorem yg {x:Str} (h:wdB x=true):Wd x:=by
  unfold wdB at h
  simp only [Bool.and_eq_true,Bool.not_eq_true',decide_eq_true_eq] at h
  exact ⟨fun m=>by simp [m] at h,fun m=>by simp [m] at h,h.2⟩
abbrev tx (ws:List Str):Str:=Str.join SP ws
theorem Zb {c:Nat}:∀ (xss:List (List Str)),(∀ ws∈xss,ws≠[])->Str.join (sg c) (xss.map (Str.join (sg c)))=Str.join (sg c) xss.flatten
  | [],_=>rfl
  | [ws],h=>by
    rw [List.map_singleton,List.flatten_cons,List.flatten_nil,List.append_nil]
    rfl
  | ws :: vs :: r,h=>by
    have ih:=Zb (c:=c) (vs :: r) fun x hx=>h x (List.mem_cons_of_mem _ hx)
    have nf:(vs :: r).flatten≠[]:=by
      rw [List.flatten_cons]
      intro e
      exact h vs (List.mem_cons_of_mem _ List.mem_cons_self) (List.append_eq_nil_iff.mp e).1
    apply yF
    rw [List.flatten_cons,Yi (h ws List.mem_cons_self) nf,<- ih,List.map_cons,List.map_cons,zt]
    rfl
theorem vx (xss:List (List Str)) (h:∀ ws∈xss,ws≠[]):Str.join SP (xss.map tx)=tx xss.flatten:=by
  show Str.join SP (xss.map (Str.join SP))=Str.join SP _
  rw [Yw]
  exact Zb xss h
theorem xf {ws:List Str} (h:∀ x∈ws,Wd x):(tx ws).length<=33 * ws.length:=by
  have:=Yj (c:=32) (ws:=ws) (k:=32) fun x hx=>(h x hx).len
  show (Str.join SP ws).length<=_
  rw [Yw]
  lia
theorem wA:∀ (xss:List (List Str)),(∀ ws∈xss,ws≠[]/\∀ x∈ws,Wd x)->wide SP (xss.map tx)<=34 * xss.flatten.length
  | [],_=>by decide
  | ws :: r,h=>by
    have ih:=wA r fun x hx=>h x (List.mem_cons_of_mem _ hx)
    obtain ⟨h1,h2⟩:=h ws List.mem_cons_self
    have l:=xf h2
    have p:1<=ws.length:=by
      cases ws with
      | nil=>exact absurd rfl h1
      | cons _ _=>simp
    have s1:SP.length=1:=by decide
    unfold wide at ih ⊢
    rw [List.map_cons,List.map_cons,List.sum_cons,List.flatten_cons,List.length_append,List.length_cons,s1]
    rw [s1] at ih
    lia
inductive DWr:D->List Str->Prop
  | num {n:Int}:n.natAbs < 10 ^ 30->DWr (.tup [.str "num",.int n]) ["num",Str.ofString (toString n)]
  | op {o a b:Str}:DWr (.tup [.str "op",.str o,.str a,.str b]) [o,a,b]
  | names {o g:Str} {ns:List Str}:o∈DEEDS->ns.length<=9->DWr (.tup [.str o,.str g,Rd.«strs» ns]) (o :: g :: (ns ++ [(";":Str)]))
inductive Wr:D->List Str->Prop
  | give {x:Str}:Wr (.tup [.str "give",.str x]) ["give",x]
  | lt {x:Str} {d b:D} {dw bw:List Str}:DWr d dw->Wr b bw->Wr (.tup [.str "let",.str x,d,b]) ("let" :: x :: (dw ++ bw))
  | if_ {x:Str} {a b:D} {aw bw:List Str}:Wr a aw->Wr b bw->Wr (.tup [.str "if",.str x,a,b]) ("if" :: x :: (aw ++ ("else":Str) :: bw))
  | case {x:Str} {arms:List Arm}:arms.length<=20->(∀ a∈arms,a.names.length<=9)->(∀ a∈arms,Wr a.b a.bw)->Wr (.tup [.str "case",.str x,.tup (arms.map Arm.dat)]) ("case" :: x :: (arms.flatMap Arm.words ++ [("end":Str)]))
structure GoodD (d:D) (ws:List Str):Prop where
  deed:deed LX ws=some (d,[])
  word:∀ x∈ws,Wd x
  ne:ws≠[]
  sz:szD d<=2 * ws.length
  wr:DWr d ws
structure Good (b:D) (ws:List Str):Prop where
  body:BodyOk LX ws b
  word:∀ x∈ws,Wd x
  ne:ws≠[]
  sz:szD b<=3 * ws.length
  wr:Wr b ws
theorem lex_ok:LexOk LX:=⟨by decide +kernel⟩
theorem xM {n:Int} (h:n.natAbs < 10 ^ 30):GoodD (.tup [.str "num",.int n]) ["num",Str.ofString (toString n)]:=by
  obtain ⟨h1,h2⟩:=yU h
  have e:=zcO lex_ok (L:=LX) (x:=Str.ofString (toString n)) (r:=[]) h1
  refine ⟨?_,fun x hx=>?_,by simp,by simp [szD,szL],.num h⟩
  · rw [show LX.iv (Str.ofString (toString n))=n from h2] at e
    exact e
  · rcases List.mem_cons.mp hx with e | hx
    · rw [e]; exact yg (by decide)
    · rw [List.mem_singleton.mp hx]; exact Za h1
theorem zcW:∀ x∈OPS,wdB x=true:=by decide +kernel
theorem JS:∀ x∈DEEDS,wdB x=true:=by decide +kernel
theorem Yx {o a b:Str} (ho:o∈OPS) (ha:zk a=true) (hb:zk b=true):GoodD (.tup [.str "op",.str o,.str a,.str b]) [o,a,b]:=by
  refine ⟨zds lex_ok (L:=LX) (r:=[]) ho ha hb,fun x hx=>?_,by simp,by simp [szD,szL],.op⟩
  simp only [List.mem_cons,List.not_mem_nil,or_false] at hx
  rcases hx with e | e | e <;> rw [e]
  · exact yg (zcW o ho)
  · exact (zF ha).1
  · exact (zF hb).1
theorem jd:∀ l:List Str,szL (l.map D.str)=l.length
  | []=>rfl
  | x :: l=>by rw [List.map_cons,szL,jd l,szD,List.length_cons]; lia
theorem xz {o g:Str} {ns:List Str} (ho:o∈DEEDS) (hg:zk g=true) (hn:∀ x∈ns,zk x=true) (hl:ns.length<=9):GoodD (.tup [.str o,.str g,Rd.«strs» ns]) (o :: g :: (ns ++ [(";":Str)])):=by
  refine ⟨Jq lex_ok (L:=LX) (r:=[]) ho hg hn hl,fun x hx=>?_,by simp,?_,.names ho hl⟩
  · simp only [List.mem_cons,List.mem_append,List.not_mem_nil,or_false] at hx
    rcases hx with e | e | e | e
    · rw [e]; exact yg (JS o ho)
    · rw [e]; exact (zF hg).1
    · exact (zF (hn x e)).1
    · rw [e]; exact yg (by decide)
  · unfold Rd.«strs»
    rw [szD,szL,szL,szL,szL,szD,szD,szD,jd]
    simp only [List.length_cons,List.length_append,List.length_nil]
    lia
theorem yj {x:Str} (hx:zk x=true):Good (.tup [.str "give",.str x]) ["give",x]:=by
  refine ⟨W5 hx,fun y hy=>?_,by simp,by simp [szD,szL],.give⟩
  rcases List.mem_cons.mp hy with e | hy
  · rw [e]; exact yg (by decide)
  · rw [List.mem_singleton.mp hy]; exact (zF hx).1
theorem wB {x:Str} {d b:D} {dw bw:List Str} (hx:zk x=true) (hd:GoodD d dw) (hb:Good b bw):Good (.tup [.str "let",.str x,d,b]) ("let" :: x :: (dw ++ bw)):=by
  refine ⟨Jr hx hd.deed hb.body,fun y hy=>?_,by simp,?_,.lt hd.wr hb.wr⟩
  · simp only [List.mem_cons,List.mem_append] at hy
    rcases hy with e | e | e | e
    · rw [e]; exact yg (by decide)
    · rw [e]; exact (zF hx).1
    · exact hd.word y e
    · exact hb.word y e
  · have:=hd.sz
    have:=hb.sz
    rw [szD,szL,szL,szL,szL,szL,szD,szD]
    simp only [List.length_cons,List.length_append]
    lia
theorem ZQ {x:Str} {a b:D} {aw bw:List Str} (hx:zk x=true) (ha:Good a aw) (hb:Good b bw):Good (.tup [.str "if",.str x,a,b]) ("if" :: x :: (aw ++ ("else":Str) :: bw)):=by
  refine ⟨zaA hx ha.body hb.body,fun y hy=>?_,by simp,?_,.if_ ha.wr hb.wr⟩
  · simp only [List.mem_cons,List.mem_append] at hy
    rcases hy with e | e | e | e | e
    · rw [e]; exact yg (by decide)
    · rw [e]; exact (zF hx).1
    · exact ha.word y e
    · rw [e]; exact yg (by decide)
    · exact hb.word y e
  · have:=ha.sz
    have:=hb.sz
    rw [szD,szL,szL,szL,szL,szL,szD,szD]
    simp only [List.length_cons,List.length_append]
    lia
structure GoodA (a:Arm):Prop where
  ok:a.Ok LX
  word:∀ x∈a.words,Wd x
  sz:szD a.dat<=3 * a.words.length
  wr:Wr a.b a.bw
theorem wC {t:Str} {ns bw:List Str} {b:D} (ht:zk t=true) (hn:∀ x∈ns,zk x=true) (hl:ns.length<=9) (hb:Good b bw):GoodA ⟨t,ns,bw,b⟩:=by
  refine ⟨⟨ht,hn,hl,hb.body⟩,fun y hy=>?_,?_,hb.wr⟩
  · unfold Arm.words at hy
    simp only [List.mem_cons,List.mem_append] at hy
    rcases hy with e | e | e | e
    · rw [e]; exact (zF ht).1
    · exact (zF (hn y e)).1
    · rw [e]; exact yg (by decide)
    · exact hb.word y e
  · have:=hb.sz
    unfold Arm.dat Arm.words Rd.«strs»
    dsimp only
    rw [szD,szL,szL,szL,szL,szD,szD,jd]
    simp only [List.length_cons,List.length_append]
    lia
theorem Yy:∀ l:List Arm,(∀ a∈l,GoodA a)->szL (l.map Arm.dat)<=3 * (l.flatMap Arm.words).length
  | [],_=>by decide
  | a :: l,h=>by
    have h1:=(h a List.mem_cons_self).sz
    have h2:=Yy l fun x hx=>h x (List.mem_cons_of_mem _ hx)
    rw [List.map_cons,szL,List.flatMap_cons,List.length_append]
    lia
theorem xN {x:Str} {arms:List Arm} (hx:zk x=true) (h0:arms≠[]) (ha:∀ a∈arms,GoodA a) (hl:arms.length<=20):Good (.tup [.str "case",.str x,.tup (arms.map Arm.dat)]) ("case" :: x :: (arms.flatMap Arm.words ++ [("end":Str)])):=by
  cases arms with
  | nil=>exact absurd rfl h0
  | cons a more =>
    have b:=W6 lex_ok (L:=LX) (x:=x) (a:=a) (more:=more) hx (ha a List.mem_cons_self).ok (fun c hc=>(ha c (List.mem_cons_of_mem _ hc)).ok) (by rw [List.length_cons] at hl; lia)
    refine ⟨?_,fun y hy=>?_,by simp,?_,.case hl (fun c hc=>(ha c hc).ok.few) fun c hc=>(ha c hc).wr⟩
    · exact b
    · simp only [List.mem_cons,List.mem_append,List.not_mem_nil,or_false,List.mem_flatMap] at hy
      rcases hy with e | e | ⟨c,hc,e⟩ | e
      · rw [e]; exact yg (by decide)
      · rw [e]; exact (zF hx).1
      · exact (ha c (by simpa using hc)).word y e
      · rw [e]; exact yg (by decide)
    · have:=Yy (a :: more) ha
      rw [szD,szL,szL,szL,szL,szD,szD,szD]
      simp only [List.length_cons,List.length_append,List.length_nil] at this ⊢
      lia
theorem zcX (z:Str):("num ":Str) ++ z=tx ["num",z]:=by
  show ("num ":Str) ++ z=("num":Str) ++ SP ++ z
  rw [show (("num":Str) ++ SP)="num " from by decide]
theorem Wh (z:Str):("give ":Str) ++ z=tx ["give",z]:=by
  show ("give ":Str) ++ z=("give":Str) ++ SP ++ z
  rw [show (("give":Str) ++ SP)="give " from by decide]
theorem yH {ws:List Str} (h:∀ x∈ws,Wd x):wide SP ws<=33 * ws.length:=by
  have s1:SP.length=1:=by decide
  unfold wide
  rw [s1]
  have:(ws.map (·.length)).sum<=32 * ws.length:=by
    induction ws with
    | nil=>decide
    | cons x r ih =>
      have h1:=(h x List.mem_cons_self).len
      have h2:=ih fun y hy=>h y (List.mem_cons_of_mem _ hy)
      rw [List.map_cons,List.sum_cons,List.length_cons]
      lia
  lia
def Wi:Sp:=fun vs H Q _=>∃ c:Int,vs=[.int c]/\∀ (H':Hp) (p:Addr) (v:V) (d:D) (ws:List Str),Same H H'->H' p=some (.tup [v,.str (tx ws)])->Is H' d v->GoodD d ws->ws.length<=13->Q (.ref p) H'
theorem ZR {i:Int} (h:i.natAbs < 10 ^ 30):i.natAbs.log2 < 1920:=by
  by_cases e:i.natAbs=0
  · rw [e]
    decide
  · exact (Nat.log2_lt e).mpr (Nat.lt_trans h (by decide +kernel))
theorem Yz {α:Type} (f:α->V) (x:α) (l:List α):cutV ((x :: l).map f) (some 1) none=l.map f:=by
  unfold cutV
  rw [List.length_map,List.length_cons]
  have c1:HT.sIx (l.length + 1) 0 (some 1)=1:=by
    unfold HT.sIx
    simp
  have c2:HT.sIx (l.length + 1) (l.length + 1) none=l.length + 1:=rfl
  rw [c1,c2]
  show (l.map f).take _=_
  exact List.take_of_length_le (by rw [List.length_map]; lia)
theorem scLDeed:FnScope ["_law_cell","_law_way","_law_number_here","_law_word","_law_one","_law_other","_law_names_here"] ["_law_cell"] (zj Xj):=.ok
theorem JT (F:Fun K "_law_deed" "_law_deed" Xj f fd) (GN:Ca P w K mg base CX0 2 "_law_names" ["_law_cell","_law_many_here"] xy) (GM:Ca P w K mg base CX0 2 "_law_number" ["_law_cell"] j9) (mS:mg "str"=none) (mT:mg "tuple"=none):FnOk P w K mg base CX0 3 f fd ["_law_cell"] Wi:=by
  refine F.by scLDeed (fun vs H Q E h=>?_) (fun cdv A outer s H vs Q E hr h=>?_)
  · obtain ⟨c,rfl,_⟩:=h
    rfl
  obtain ⟨c,rfl,q⟩:=h
  refine ⟨_,zb (sE 1 scLDeed.nd (zh zu (jv 0) zc)) (zb (sE 2 scLDeed.nd (zh zC (jv 0) zc))
    (zb (zx (tN zV (jv 1) zc)
      (zb (sE 2 scLDeed.nd (cA GM hr (jA1 (jv 2))))
      (ze (zo (zz (jA2 (zz (jA2 zd (jv 2))) (zh z6 zd (zU y7 rfl mS PyProof.Rows.boot_str (jA1 (jv 2))))))))) zq)
    (zb (zx (tN zV (jv 1) zc)
      (zb (sE 3 scLDeed.nd (xX z5 (zp (jA7 zd zd zd zd zd zd zd)) (zh zu (jv 2) zc)))
      (zb (yu (cA GN hr (jA2 (zh zC (jv 2) zc) zc)) (zcM rfl (zw (gN 4 scLDeed.nd) (zw (gN 5 scLDeed.nd) yi))))
      (ze (zo (zz (jA2 (zz (jA4 zd (jv 3) (jv 4) (jv 5))) (zy PySem.F.plainAttrs_str PySem.F.slot_str_join PySem.F.type_str_join zO zd (jA1 (zp (jA3 (jv 3) (jv 4) (jv 5))))))))))) zq)
    (zb (sE 3 scLDeed.nd (xX z5 (zp (jA4 zd zd zd zd)) (zh xp (jv 1) zc)))
    (zb (sE 6 scLDeed.nd (cA GN hr (jA2 (zh zC (jv 2) zc) (zh zJ zc (zh zu (jv 2) zc)))))
    (ze (zo (zz (ja_c (zz (jA3 (jv 3) (xL 6) (zU zW rfl mT PyProof.Rows.boot_tuple (jA1 (zB z8 (jv 6) (zD zc) zT)))))
      (jA1 (zy PySem.F.plainAttrs_str PySem.F.slot_str_join PySem.F.type_str_join zO zd (jA1 (zh zX (zh zX (zp (jA1 (jv 3))) (jv 6)) (zp (jA1 zd))))))))))))))),?_⟩
  have sl:=line
  have cD:∀ {i j:Int},0 < j->j < 1073741824->CDiv i j:=fun h1 h2=>⟨h1,h2⟩
  have w6:0<=c % 6/\c % 6 < 6:=⟨Int.emod_nonneg _ (by decide),Int.emod_lt_of_pos _ (by decide)⟩
  refine ⟨_,rfl,_,_,rfl,rfl,(by show (0:Int) < _; decide),_,rfl,_,_,rfl,rfl,cD (by decide) (by decide),_,rfl,rfl,_,rfl,?_⟩
  by_cases c0:c % 6=0
  · refine iteD (congrArg V.int c0) ?_
    refine ⟨_,rfl,c / 6,rfl,fun i H1 hi s1=>?_⟩
    refine ⟨_,rfl,sN2,fun p1 hp1=>⟨_,rfl,i,rfl,ZR hi,_,_,rfl,rfl,?_,sN2,fun p2 hp2=>?_⟩⟩
    · have:=(xM hi).word (Str.ofString (toString i)) (by simp)
      have:=this.len
      show 4 + (Str.ofString (toString i)).length<=sizeLine
      lia
    · rw [zcX] at *
      have t2:=Tups.new (o:=.tup [.ref p1,.str (tx ["num",Str.ofString (toString i)])]) hp2
      exact q _ p2 (.ref p1) _ _ ((s1.trans (zf hp1 _)).trans (zf hp2 _)) za (.tup (t2 _ _ za) (.cons (.str _) (.cons (.int i) .nil))) (xM hi) (by show 2<=13; decide)
  refine xW (fun e=>c0 (by injection e)) ?_
  refine ⟨_,rfl,rfl,_,rfl,?_⟩
  by_cases c1:c % 6=1
  · refine iteD (congrArg V.int c1) ?_
    refine ⟨sN7,fun p1 hp1=>?_⟩
    obtain ⟨v,hm,hv⟩:=Wg (l:=OPS.map V.str) (k:=7) (by decide) (by decide) (c / 6)
    obtain ⟨o,ho,rfl⟩:=List.mem_map.mp hm
    refine ⟨_,rfl,_,_,rfl,rfl,(by show (0:Int) < _; decide),p1,_,_,_,rfl,rfl,SqL.of za,hv,?_⟩
    refine ⟨_,rfl,_,_,rfl,rfl,cD (by decide) (by decide),c / 6 / 7,2,rfl,by decide,by decide,fun H2 p2 l s2 _ hl hall hp2=>?_⟩
    match l,hl,hall,hp2 with
    | [a,b],_,hall,hp2 =>
      have ha:=hall a (by simp)
      have hb:=hall b (by simp)
      refine ⟨p2,_,rfl,SqL.of hp2,rfl,_,_,rfl,_,_,rfl,rfl,?_⟩
      have G:=Yx ho ha hb
      refine ⟨_,rfl,_,rfl,_,rfl,sN4,fun p3 hp3=>?_⟩
      refine ⟨rfl,_,rfl,_,rfl,_,rfl,sN3,fun p4 hp4=>⟨SP,p4,[o,a,b],rfl,rfl,SqL.of za,?_,sN2,fun p5 hp5=>?_⟩⟩
      · have:=yH G.word
        have:([o,a,b]:List Str).length=3:=rfl
        lia
      · have t4:=Tups.new (o:=.lst [.str o,.str a,.str b]) hp4
        have t5:=Tups.new (o:=.tup [.ref p3,.str (tx [o,a,b])]) hp5
        exact q _ p5 (.ref p3) _ _ (((((zf hp1 _).trans s2).trans (zf hp3 _)).trans (zf hp4 _)).trans (zf hp5 _)) za (.tup (t5 _ _ (t4 _ _ za)) (.cons (.str _) (.cons (.str _) (.cons (.str _) (.cons (.str _) .nil))))) G (by show 3<=13; decide)
  refine xW (fun e=>c1 (by injection e)) ?_
  refine ⟨sN4,fun p1 hp1=>?_⟩
  obtain ⟨o,ho,hv⟩:∃ o,o∈DEEDS/\atI (DEEDS.map V.str) (c % 6 - 2)=some (.str o):=by
    have hj:c % 6 - 2=0\/c % 6 - 2=1\/c % 6 - 2=2\/c % 6 - 2=3:=by lia
    rcases hj with e | e | e | e <;> rw [e]
    · exact ⟨"make",by decide,by rfl⟩
    · exact ⟨"call",by decide,by rfl⟩
    · exact ⟨"func",by decide,by rfl⟩
    · exact ⟨"ask",by decide,by rfl⟩
  refine ⟨_,rfl,_,_,rfl,rfl,p1,_,_,_,rfl,rfl,SqL.of za,hv,?_⟩
  have m10:0<=c / 6 % 10/\c / 6 % 10 < 10:=⟨Int.emod_nonneg _ (by decide),Int.emod_lt_of_pos _ (by decide)⟩
  refine ⟨_,rfl,_,_,rfl,rfl,cD (by decide) (by decide),_,rfl,_,_,rfl,rfl,(by show (0:Int) < _; decide),_,_,rfl,rfl,c / 6 / 10,1 + c / 6 % 10,rfl,by lia,by lia,fun H2 p2 l s2 _ hl hall hp2=>?_⟩
  cases l with
  | nil=>simp at hl; lia
  | cons g ns =>
    have hg:=hall g (by simp)
    have hns:∀ x∈ns,zk x=true:=fun x hx=>hall x (List.mem_cons_of_mem _ hx)
    rw [List.length_cons] at hl
    have G:=xz ho hg hns (by lia)
    refine ⟨_,rfl,_,rfl,p2,_,_,_,rfl,rfl,SqL.of hp2,aI0,_,rfl,_,rfl,p2,_,rfl,SqL.of hp2,fun p3 hp3=>?_⟩
    rw [Yz]
    refine ⟨p3,_,rfl,.inl ⟨SqL.of za,fun p4 hp4=>⟨sN3,fun p5 hp5=>?_⟩⟩⟩
    have t3:=Tups.new (o:=.lst (ns.map V.str)) hp3
    have t4:=Tups.new (o:=.tup (ns.map V.str)) hp4
    have t5:=Tups.new (o:=.tup [.str o,.str g,.ref p4]) hp5
    have s5:Same H2 _:=((zf (o:=.lst (ns.map V.str)) hp3).trans (zf (o:=.tup (ns.map V.str)) hp4)).trans (zf (o:=.tup [.str o,.str g,.ref p4]) hp5)
    have i5:upd (upd (upd H2 p3 (.lst (ns.map V.str))) p4 (.tup (ns.map V.str))) p5 (.tup [.str o,.str g,.ref p4]) p5=some (.tup [.str o,.str g,.ref p4]):=za
    have i4:=t5 _ _ (za (H:=upd H2 p3 (.lst (ns.map V.str))) (a:=p4) (o:=.tup (ns.map V.str)))
    have hp2':=s5 _ _ hp2
    generalize upd (upd (upd H2 p3 (.lst (ns.map V.str))) p4 (.tup (ns.map V.str))) p5 (.tup [.str o,.str g,.ref p4])=H5 at *
    refine ⟨rfl,_,rfl,sN1,fun p6 hp6=>?_⟩
    refine ⟨_,rfl,p6,p2,_,_,rfl,rfl,za,by rw [zg (zi hp2' hp6)]; exact hp2',?_,fun p7 hp7=>?_⟩
    · rw [List.length_singleton,List.length_map,List.length_cons]
      lia
    refine ⟨sN1,fun p8 hp8=>?_⟩
    have n78:p7≠p8:=zi za hp8
    refine ⟨p7,p8,_,_,rfl,rfl,by rw [zg n78]; exact za,za,?_,fun p9 hp9=>?_⟩
    · rw [List.length_append,List.length_singleton,List.length_map,List.length_cons,List.length_singleton]
      lia
    refine ⟨SP,p9,o :: g :: (ns ++ [(";":Str)]),rfl,rfl,SqL.of (by rw [za]; simp),?_,sN2,fun p10 hp10=>?_⟩
    · have:=yH G.word
      have:(o :: g :: (ns ++ [(";":Str)])).length<=13:=by simp only [List.length_cons,List.length_append,List.length_nil]; lia
      lia
    have s10:=(((zf (o:=.lst [.str o]) hp6).trans (zf (o:=.lst ([.str o] ++ (g :: ns).map V.str)) hp7)).trans (zf (o:=.lst [.str ";"]) hp8)).trans (zf (o:=.lst ([.str o] ++ (g :: ns).map V.str ++ [.str ";"])) hp9)
    have sA:=s10.trans (zf (o:=.tup [.ref p5,.str (tx (o :: g :: (ns ++ [(";":Str)])))]) hp10)
    refine q _ p10 (.ref p5) _ _ (((zf hp1 _).trans s2).trans (s5.trans sA)) za (.tup (sA _ _ i5) (.cons (.str _) (.cons (.str _) (.cons (.tup (sA _ _ i4) (IsL.strs ns)) .nil)))) G ?_
    simp only [List.length_cons,List.length_append,List.length_nil]
    lia
end
end Rdr
namespace L2
open PySem
section
variable {X:Cx}
theorem zcY {i j:Nat} {x y:Str} {a b:Expr} {ta:TA} {px py pt pos:Pos} {kt k2 pt2} (hc:X.calm=true) (hN:X.N.Nodup) (hi:X.N[i]?=some x) (hj:X.N[j]?=some y) (hij:i≠j) (ha:jA X [a,b] ta)
    (hx:X.env.scope.names.lookup x=some .local:=by rfl) (hy:X.env.scope.names.lookup y=some .local:=by rfl) (hw:swappedStores [.Tuple [.Name x px,.Name y py] kt pt] (.Tuple [a,b] k2 pt2) X.env=pure (some [x,y]):=by rfl)
    (hs:swapsWithSole [.Tuple [.Name x px,.Name y py] kt pt] (.Tuple [a,b] k2 pt2) pos.line X.env=pure false:=by rfl):jS X (.Assign [.Tuple [.Name x px,.Name y py] kt pt] (.Tuple [a,b] k2 pt2) pos) (tPar i j ta):=⟨zb8 hc hN hi hj hij hx hy ha.out hw hs⟩
end
end L2
namespace Rdr
open PySem L2 K11 Rd
inductive Itms (H:Hp):List (D × List Str)->List Addr->Prop
  | nil:Itms H [] []
  | cons {p:Addr} {v:V} {b:D} {ws:List Str} {its:List (D × List Str)} {ps:List Addr}:H p=some (.tup [v,.str (tx ws)])->Is H b v->Good b ws->Itms H its ps->Itms H ((b,ws) :: its) (p :: ps)
theorem Itms.keep {H H':Hp} (t:Tups H H') {its:List (D × List Str)} {ps:List Addr} (h:Itms H its ps):Itms H' its ps:=by
  induction h with
  | nil=>exact .nil
  | cons a b c _ ih=>exact .cons (t _ _ a) (b.keep t) c ih
theorem Itms.len {H:Hp} {its:List (D × List Str)} {ps:List Addr} (h:Itms H its ps):its.length=ps.length:=by
  induction h with
  | nil=>rfl
  | cons _ _ _ _ ih=>rw [List.length_cons,List.length_cons,ih]
def tw:List (D × List Str)->Nat
  | []=>0
  | x :: r=>x.2.length + 3 + tw r
theorem wY:∀ l,l.length<=tw l
  | []=>Nat.zero_le _
  | x :: r=>by have:=wY r; rw [tw,List.length_cons]; lia
theorem zaU {α:Type} (f:α->V) (x y:α) (l:List α):cutV ((x :: (l ++ [y])).map f) (some 1) (some (-1))=l.map f:=by
  unfold cutV
  have n:((x :: (l ++ [y])).map f).length=l.length + 2:=by simp
  rw [n]
  have c1:HT.sIx (l.length + 2) 0 (some 1)=1:=by
    unfold HT.sIx
    simp
  have c2:HT.sIx (l.length + 2) (l.length + 2) (some (-1))=l.length + 1:=by
    unfold HT.sIx
    simp
    lia
  rw [c1,c2]
  show ((l ++ [y]).map f).take (l.length + 1 - 1)=_
  rw [List.map_append,Nat.add_sub_cancel,List.take_append_of_le_length (by simp),List.take_of_length_le (by simp)]
theorem YA {α:Type} (f:α->V) (y:α) (l:List α):cutV ((l ++ [y]).map f) none (some (-1))=l.map f:=by
  unfold cutV
  have n:((l ++ [y]).map f).length=l.length + 1:=by simp
  rw [n]
  have c2:HT.sIx (l.length + 1) (l.length + 1) (some (-1))=l.length:=by
    unfold HT.sIx
    simp
    lia
  rw [c2]
  show ((l ++ [y]).map f).take (l.length - 0)=_
  rw [List.map_append,Nat.sub_zero,List.take_append_of_le_length (by simp),List.take_of_length_le (by simp)]
theorem xg:∀ us:List Str,(us.map (fun x=>[x])).flatten=us
  | []=>rfl
  | x :: r=>by rw [List.map_cons,List.flatten_cons,xg r]; rfl
theorem Wj {us bw:List Str} (h0:bw≠[]):Str.join SP (us ++ [tx bw])=tx (us ++ bw):=by
  have e:=vx (us.map (fun x=>[x]) ++ [bw]) (fun ws h=>by
    rcases List.mem_append.mp h with h | h
    · obtain ⟨x,_,rfl⟩:=List.mem_map.mp h
      simp
    · rw [List.mem_singleton.mp h]
      exact h0)
  have e1:(us.map (fun x=>[x]) ++ [bw]).map tx=us ++ [tx bw]:=by
    rw [List.map_append,List.map_map]
    congr 1
    exact List.map_id' us
  have e2:(us.map (fun x=>[x]) ++ [bw]).flatten=us ++ bw:=by
    rw [List.flatten_append]
    congr 1
    · exact xg us
    · simp
  rw [e1,e2] at e
  exact e
theorem Zc {us bw:List Str} (h0:bw≠[]) (h:∀ x∈us ++ bw,Wd x):wide SP (us ++ [tx bw])<=34 * (us ++ bw).length:=by
  have e:=wA (us.map (fun x=>[x]) ++ [bw]) (fun ws hw=>by
    rcases List.mem_append.mp hw with hw | hw
    · obtain ⟨x,hx,rfl⟩:=List.mem_map.mp hw
      exact ⟨by simp,fun y hy=>by rw [List.mem_singleton.mp hy]; exact h x (List.mem_append_left _ hx)⟩
    · rw [List.mem_singleton.mp hw]
      exact ⟨h0,fun y hy=>h y (List.mem_append_right _ hy)⟩)
  have e1:(us.map (fun x=>[x]) ++ [bw]).map tx=us ++ [tx bw]:=by
    rw [List.map_append,List.map_map]
    congr 1
    exact List.map_id' us
  have e2:(us.map (fun x=>[x]) ++ [bw]).flatten=us ++ bw:=by
    rw [List.flatten_append]
    congr 1
    · exact xg us
    · simp
  rw [e1,e2] at e
  exact e
def Wk:Sp:=fun vs H Q _=>∃ (ls:Addr) (n:Int) (its:List (D × List Str)) (ps:List Addr),vs=[.ref ls,.int n]/\H ls=some (.lst (ps.reverse.map V.ref))/\Itms H its ps/\tw its<=1000 /\
  ∀ (H':Hp) (p:Addr) (va:V) (arms:List Arm) (its':List (D × List Str)) (ps':List Addr),KpS (·=ls) H H'->H' ls=some (.lst (ps'.reverse.map V.ref))->Itms H' its' ps'->H' p=some (.tup [va,.str (tx (arms.flatMap Arm.words))])->Is H' (.tup (arms.map Arm.dat)) va ->
    arms≠[]->arms.length<=20->(∀ a∈arms,GoodA a)->(arms.flatMap Arm.words).length + tw its'<=tw its + 260->Q (.ref p) H'
section
variable {P:Program} {w:World} {K:PySem.W.Frag} {mg:Str->Option Value} {base:Heap} {f:Addr} {fd:FuncData}
theorem scLArms:FnScope ["_law_stack","_law_number_here","_law_many_here","_law_most","_law_arms_here","_law_texts","_law_k","_law_names_here","_law_body","_law_text"] ["_law_stack","_law_number_here"] (zj Xk):=.ok
theorem JU (F:Fun K "_law_arms" "_law_arms" Xk f fd) (GN:Ca P w K mg base CX0 2 "_law_names" ["_law_cell","_law_many_here"] xy) (mR:mg "range"=none) (mT:mg "tuple"=none):FnOk P w K mg base CX0 3 f fd ["_law_stack","_law_number_here"] Wk:=by
  refine F.by scLArms (fun vs H Q E h=>?_) (fun cdv A outer s H vs Q E hr h=>?_)
  · obtain ⟨ls,n,its,ps,rfl,_⟩:=h
    rfl
  obtain ⟨ls,n,its,ps,rfl,hls,hI,htw,q⟩:=h
  refine ⟨_,zb (sE 2 scLArms.nd (zh zJ zc (zh zu (jv 1) zc))) (zb (sE 3 scLArms.nd zc)
    (zb (zx (tN zV (zh zu (zh zC (jv 1) zc) zc) zc) (zb (sE 2 scLArms.nd (zh zJ zc (zh zu (zh zC (jv 1) zc) zc))) (ze (sE 3 scLArms.nd zc))) zq)
    (zb (sE 4 scLArms.nd (zp zS)) (zb (sE 5 scLArms.nd (zp zS))
    (zb (yO PassesOwn.never rfl (xG rfl mR (jA1 (jv 2))) (gN 6 scLArms.nd)
      (zb (sE 7 scLArms.nd (cA GN hr (jA2 (zh zJ (jv 1) (zh yG zc (jv 6))) (zh zJ zc (zh zu (zh zC (jv 1) (zh zJ (zh yG zc (jv 6)) zc)) (jv 3))))))
      (zb (zcY (i:=8) (j:=9) rfl scLArms.nd rfl rfl (by decide) (jA2 (zz (jA2 zd (xL 7))) (zh z6 zd (xL 7))))
      (zb (zx (tN (zcK hr) (jv 0) (zp zS)) (ze (yu (x5 PySem.F.plainAttrs_list PySem.F.slot_list_pop PySem.F.type_list_pop x8 (jv 0)) (yB rfl (zw (gN 8 scLArms.nd) (zw (gN 9 scLArms.nd) yi))))) zq)
      (zb (zv (zy PySem.F.plainAttrs_list PySem.F.slot_list_append PySem.F.type_list_append zA (jv 4) (jA1 (zz (jA3 (xL 7) (zU zW rfl mT PyProof.Rows.boot_tuple (jA1 (zB z8 (jv 7) (zD zc) (zD (x4 zc))))) (jv 8))))))
      (ze (zv (zy PySem.F.plainAttrs_list PySem.F.slot_list_append PySem.F.type_list_append zA (jv 5) (jA1 (zy PySem.F.plainAttrs_str PySem.F.slot_str_join PySem.F.type_str_join zO zd (jA1 (zh zX (zB z8 (jv 7) zT (zD (x4 zc))) (zp (jA2 zd (jv 9)))))))))))))))
    (ze (zo (zz (jA2 (zU zW rfl mT PyProof.Rows.boot_tuple (jA1 (jv 4))) (zy PySem.F.plainAttrs_str PySem.F.slot_str_join PySem.F.type_str_join zO zd (jA1 (jv 5)))))))))))),?_⟩
  have sl:=line
  have cD:∀ {i j:Int},0 < j->j < 1073741824->CDiv i j:=fun h1 h2=>⟨h1,h2⟩
  suffices rest:∀ (m t:Int),1<=m->m<=20->(t=10\/t=2)->(tSeq _ _:TS) { nx:=fun _ H'=>Q .non H',rt:=Q } [some (.ref ls),some (.int n),some (.int m),some (.int t),none,none,none,none,none,none] H by
    have b1:=Int.emod_nonneg n (show (3:Int)≠0 by decide)
    have b2:=Int.emod_lt_of_pos n (show (0:Int) < 3 by decide)
    have b3:=Int.emod_nonneg (n / 12) (show (20:Int)≠0 by decide)
    have b4:=Int.emod_lt_of_pos (n / 12) (show (0:Int) < 20 by decide)
    refine ⟨_,rfl,_,_,rfl,rfl,(by show (0:Int) < _; decide),_,_,rfl,rfl,?_⟩
    refine ⟨_,rfl,_,_,rfl,rfl,cD (by decide) (by decide),_,_,rfl,rfl,(by show (0:Int) < _; decide),rfl,_,rfl,?_⟩
    refine ite2 (fun _=>?_) (fun _=>rest _ _ (by lia) (by lia) (.inl rfl))
    exact ⟨_,rfl,_,_,rfl,rfl,cD (by decide) (by decide),_,_,rfl,rfl,(by show (0:Int) < _; decide),_,_,rfl,rfl,rest _ _ (by lia) (by lia) (.inr rfl)⟩
  intro m t hm1 hm20 ht
  refine ⟨sN0,fun la hla=>⟨sN0,fun lt hlt=>?_⟩⟩
  have nla:ls≠la:=zi hls hla
  have nat:la≠lt:=zi za hlt
  have hlt0:H lt=none:=by rw [zg nat.symm] at hlt; exact hlt
  have nlt:ls≠lt:=zi hls hlt0
  have s0:Same H (upd (upd H la (.lst [])) lt (.lst [])):=(zf hla _).trans (zf hlt _)
  have t0:Tups H (upd (upd H la (.lst [])) lt (.lst [])):=fun b xs z=>s0 _ _ z
  refine ⟨_,rfl,m,rfl,by lia,by lia,wG (n:=m.toNat) (fun i σ H'=>∃ (its':List (D × List Str)) (ps':List Addr) (arms:List Arm) (va:List V) (a b c d:Option V),σ=[some (.ref ls),some (.int n),some (.int m),some (.int t),some (.ref la),some (.ref lt),a,b,c,d]/\KpS (·=ls) H H'/\H' ls=some (.lst (ps'.reverse.map V.ref))/\Itms H' its' ps'/\H' la=some (.lst va)/\IsL H' (arms.map Arm.dat) va/\H' lt=some (.lst (arms.map fun a=>V.str (tx a.words)))/\arms.length=i/\(∀ a∈arms,GoodA a)/\(arms.flatMap Arm.words).length + tw its'<=tw its + 13 * i)
    ⟨its,ps,[],[],none,none,none,none,rfl,KpS.of s0,s0 _ _ hls,hI.keep t0,by rw [zg nat]; exact za,.nil,za,rfl,(fun a ha=>by cases ha),by show 0 + tw its<=_; lia⟩ ?_ ?_⟩
  · rintro i σ H1 hi ⟨its',ps',arms,va,a,b,c,d,rfl,k1,hls1,hI1,hla1,ia,hlt1,hn,hg,hb⟩
    have hi':(i:Int) < m:=by lia
    have dpos:(0:Int) < 7 * (0 + (i:Int)) + 5:=by lia
    have tpos:(0:Int) < t:=by lia
    have e1:=Int.emod_nonneg (n / (7 * (0 + (i:Int)) + 5)) (show t≠0 by lia)
    have e2:=Int.emod_lt_of_pos (n / (7 * (0 + (i:Int)) + 5)) tpos
    refine ⟨_,rfl,_,rfl,_,_,rfl,rfl,.inl ⟨by decide,by decide⟩,_,_,rfl,rfl,_,rfl,_,rfl,_,_,rfl,rfl,.inl ⟨by decide,by decide⟩,_,_,rfl,rfl,_,_,rfl,rfl,cD dpos (by lia),_,rfl,_,_,rfl,rfl,tpos,_,_,rfl,rfl,_,_,rfl,by lia,by lia,fun H2 p2 l s2 fr2 hl hall hp2=>?_⟩
    obtain ⟨t0,ns,z,rfl⟩:∃ t0 ns z,l=t0 :: (ns ++ [z]):=by
      cases l with
      | nil =>
        rw [List.length_nil] at hl
        lia
      | cons t0 r =>
        have hr:r≠[]:=fun e=>by
          rw [e,List.length_cons,List.length_nil] at hl
          lia
        exact ⟨t0,r.dropLast,r.getLast hr,by rw [List.dropLast_concat_getLast hr]⟩
    have hl':ns.length<=9:=by
      rw [List.length_cons,List.length_append,List.length_singleton] at hl
      lia
    have ht0:=hall t0 (by simp)
    have hns:∀ x∈ns,zk x=true:=fun x hx=>hall x (by simp [hx])
    have at0:atI ((t0 :: (ns ++ [z])).map V.str) (0:Int)=some (.str t0):=aI0
    have wt0:=(zF ht0).1
    refine ⟨_,rfl,p2,_,_,_,rfl,rfl,SqL.of hp2,at0,sN2,fun p3 hp3=>?_⟩
    have hp2':upd H2 p3 (.tup [.str "give",.str t0]) p2=some (.lst ((t0 :: (ns ++ [z])).map V.str)):=by rw [zg (zi hp2 hp3)]; exact hp2
    refine ⟨_,rfl,p2,_,_,_,rfl,rfl,SqL.of hp2',at0,_,_,rfl,rfl,?_,_,_,rfl,?_⟩
    · have:=wt0.len
      show 5 + t0.length<=sizeLine
      lia
    rw [Wh]
    have s3:Same H1 (upd H2 p3 (.tup [.str "give",.str t0])):=s2.trans (zf hp3 _)
    have t3:Tups H1 (upd H2 p3 (.tup [.str "give",.str t0])):=fun b xs e=>s3 _ _ e
    have g3:Is (upd H2 p3 (.tup [.str "give",.str t0])) (.tup [.str "give",.str t0]) (.ref p3):=.tup za (.cons (.str _) (.cons (.str _) .nil))
    have hls3:=s3 _ _ hls1
    have hla3:=s3 _ _ hla1
    have hlt3:=s3 _ _ hlt1
    have hI3:=hI1.keep t3
    have ia3:=ia.keep t3
    have k3:KpS (·=ls) H (upd H2 p3 (.tup [.str "give",.str t0])):=k1.trans (.of s3)
    generalize upd H2 p3 (.tup [.str "give",.str t0])=H3 at *
    refine ⟨_,rfl,sN0,fun pe hpe=>?_⟩
    have s4:Same H3 (upd H3 pe (.lst [])):=zf hpe _
    have t4:Tups H3 (upd H3 pe (.lst [])):=fun b xs e=>s4 _ _ e
    have hls4:=s4 _ _ hls3
    have hla4:=s4 _ _ hla3
    have hlt4:=s4 _ _ hlt3
    have hp4:=s4 _ _ hp2'
    have hI4:=hI3.keep t4
    have ia4:=ia3.keep t4
    have g4:=g3.keep t4
    have k4:KpS (·=ls) H (upd H3 pe (.lst [])):=k3.trans (.of s4)
    have he4:upd H3 pe (.lst []) pe=some (.lst []):=za
    generalize upd H3 pe (.lst [])=H4 at *
    refine ⟨ls,pe,_,rfl,rfl,SqL.of hls4,SqL.of he4,_,rfl,?_⟩
    have nal:la≠ls:=nla.symm
    have ntl:lt≠ls:=nlt.symm
    suffices rest2:∀ (H5:Hp) (its'':List (D × List Str)) (ps'':List Addr) (b:D) (bw:List Str) (vb:V),KpS (·=ls) H H5->H5 ls=some (.lst (ps''.reverse.map V.ref))->Itms H5 its'' ps''->H5 la=some (.lst va)->IsL H5 (arms.map Arm.dat) va->H5 lt=some (.lst (arms.map fun a=>V.str (tx a.words)))->H5 p2=some (.lst ((t0 :: (ns ++ [z])).map V.str))->Is H5 b vb->Good b bw->bw.length + tw its''<=tw its' + 2 ->
        (tSeq _ _:TS) _ [some (.ref ls),some (.int n),some (.int m),some (.int t),some (.ref la),some (.ref lt),some (.int (0 + (i:Int))),some (.ref p2),some vb,some (.str (tx bw))] H5 by
      cases hI4 with
      | nil=>exact iteF (rest2 H4 [] [] _ _ _ k4 hls4 .nil hla4 ia4 hlt4 hp4 g4 (yj ht0) (by show 2 + 0<=0 + 2; decide))
      | @cons p v b ws its'' ps'' h1 h2 h3 h4 =>
        have hne:(!((p :: ps'').reverse.map V.ref).isEmpty)=true:=by simp
        rw [hne]
        refine iteT ?_
        have e1:(p :: ps'').reverse.map V.ref=ps''.reverse.map V.ref ++ [.ref p]:=by simp
        have e2:((p :: ps'').reverse.map V.ref)[((p :: ps'').reverse.map V.ref).length - 1]?=some (.ref p):=by rw [e1]; simp
        have e3:((p :: ps'').reverse.map V.ref).dropLast=ps''.reverse.map V.ref:=by rw [e1]; simp
        refine ⟨_,rfl,.inl ⟨rfl,_,SqL.of hls4⟩,ls,_,_,rfl,rfl,hls4,e2,?_⟩
        rw [e3]
        have t5:Tups H4 (upd H4 ls (.lst (ps''.reverse.map V.ref))):=fun b xs e=>by rw [zg (zY e hls4 (by intro z; cases z))]; exact e
        have npl:p2≠ls:=fun e=>by rw [e,hls1] at fr2; cases fr2
        exact ⟨p,_,rfl,SqT.of (t5 _ _ h1),rfl,_,_,rfl,_,_,rfl,rfl,rest2 _ its'' ps'' b ws v (k4.trans (KpS.put rfl)) za (h4.keep t5) (by rw [zg nal]; exact hla4) (ia4.keep t5) (by rw [zg ntl]; exact hlt4) (by rw [zg npl]; exact hp4) (h2.keep t5) h3 (by show ws.length + tw its''<=(ws.length + 3 + tw its'') + 2; lia)⟩
    intro H5 its'' ps'' b bw vb k5 hls5 hI5 hla5 ia5 hlt5 hp5 hb5 hG htw5
    have GA:=wC ht0 hns hl' hG
    have lws:(Arm.words ⟨t0,ns,bw,b⟩).length=ns.length + bw.length + 2:=by unfold Arm.words; simp only [List.length_cons,List.length_append]; lia
    have lva:=ia5.len
    rw [List.length_map] at lva
    refine ⟨_,rfl,.inl ⟨rfl,_,SqL.of hla5⟩,_,rfl,p2,_,_,_,rfl,rfl,SqL.of hp5,at0,_,rfl,_,rfl,_,rfl,_,rfl,p2,_,rfl,SqL.of hp5,fun p6 hp6=>?_⟩
    have hm6:cutV ((t0 :: (ns ++ [z])).map V.str) (some 1) (some (-1))=ns.map V.str:=zaU V.str t0 z ns
    refine ⟨p6,_,rfl,.inl ⟨SqL.of za,fun p7 hp7=>⟨_,rfl,sN3,fun p8 hp8=>?_⟩⟩⟩
    have o6:cutV ((t0 :: (ns ++ [z])).map V.str) (some 1) (some (-(1:Int)))=ns.map V.str:=hm6
    rw [o6] at hp7 hp8 ⊢
    have s8:Same H5 _:=((zf (o:=.lst (ns.map V.str)) hp6).trans (zf (o:=.tup (ns.map V.str)) hp7)).trans (zf (o:=.tup [.str t0,.ref p7,vb]) hp8)
    have t8:Tups H5 _:=fun b xs e=>s8 _ _ e
    have i8:upd (upd (upd H5 p6 (.lst (ns.map V.str))) p7 (.tup (ns.map V.str))) p8 (.tup [.str t0,.ref p7,vb]) p8=some (.tup [.str t0,.ref p7,vb]):=za
    have i7:=(zf (o:=.tup [.str t0,.ref p7,vb]) hp8) _ _ (za (H:=upd H5 p6 (.lst (ns.map V.str))) (a:=p7) (o:=.tup (ns.map V.str)))
    have dat:Is _ (Arm.dat ⟨t0,ns,bw,b⟩) (.ref p8):=.tup i8 (.cons (.str _) (.cons (.tup i7 (IsL.strs ns)) (.cons (hb5.keep t8) .nil)))
    have hls8:=s8 _ _ hls5
    have hla8:=s8 _ _ hla5
    have hlt8:=s8 _ _ hlt5
    have hp28:=s8 _ _ hp5
    have hI8:=hI5.keep t8
    have ia8:=ia5.keep t8
    have k8:KpS (·=ls) H _:=k5.trans (.of s8)
    clear i8 i7 t8
    generalize upd (upd (upd H5 p6 (.lst (ns.map V.str))) p7 (.tup (ns.map V.str))) p8 (.tup [.str t0,.ref p7,vb])=H8 at *
    have len20:arms.length + 1<=20:=by lia
    refine ⟨la,va,_,rfl,rfl,hla8,by lia,?_⟩
    have t9:Tups H8 (upd H8 la (.lst (va ++ [.ref p8]))):=fun b xs e=>by rw [zg (zY e hla8 (by intro z; cases z))]; exact e
    have hlp2:p2≠la:=fun e=>by rw [e,hla1] at fr2; cases fr2
    have hltp2:p2≠lt:=fun e=>by rw [e,hlt1] at fr2; cases fr2
    have hls9:upd H8 la (.lst (va ++ [.ref p8])) ls=some (.lst (ps''.reverse.map V.ref)):=by rw [zg nla]; exact hls8
    have hlt9:upd H8 la (.lst (va ++ [.ref p8])) lt=some (.lst (arms.map fun a=>V.str (tx a.words))):=by rw [zg nat.symm]; exact hlt8
    have hp29:upd H8 la (.lst (va ++ [.ref p8])) p2=some (.lst ((t0 :: (ns ++ [z])).map V.str)):=by rw [zg hlp2]; exact hp28
    have hla9:upd H8 la (.lst (va ++ [.ref p8])) la=some (.lst (va ++ [.ref p8])):=za
    have ia9:IsL (upd H8 la (.lst (va ++ [.ref p8]))) ((arms ++ [(⟨t0,ns,bw,b⟩:Arm)]).map Arm.dat) (va ++ [.ref p8]):=by rw [List.map_append]; exact (ia8.keep t9).app (.cons (dat.keep t9) .nil)
    have hI9:=hI8.keep t9
    have hla0:H la=none:=hla
    have k9:KpS (·=ls) H (upd H8 la (.lst (va ++ [.ref p8]))):=fun y o n e=>by rw [zg (fun z0=>by rw [z0,hla0] at e; cases e)]; exact k8 _ _ n e
    generalize upd H8 la (.lst (va ++ [.ref p8]))=H9 at *
    refine ⟨_,rfl,.inl ⟨rfl,_,SqL.of hlt9⟩,rfl,_,rfl,_,rfl,_,rfl,p2,_,rfl,SqL.of hp29,fun p10 hp10=>?_⟩
    have hm10:cutV ((t0 :: (ns ++ [z])).map V.str) none (some (-(1:Int)))=(t0 :: ns).map V.str:=YA V.str z (t0 :: ns)
    rw [hm10] at *
    refine ⟨_,rfl,sN2,fun p11 hp11=>?_⟩
    have n1011:p10≠p11:=zi za hp11
    refine ⟨p10,p11,_,_,rfl,rfl,by rw [zg n1011]; exact za,za,?_,fun p12 hp12=>?_⟩
    · rw [List.length_map,List.length_cons]
      show _ + 2<=_
      lia
    have eW:(t0 :: (ns ++ [(":":Str)])) ++ bw=Arm.words ⟨t0,ns,bw,b⟩:=by unfold Arm.words; simp
    have jt:=Wj (us:=t0 :: (ns ++ [(":":Str)])) hG.ne
    have jw:=Zc (us:=t0 :: (ns ++ [(":":Str)])) hG.ne (by rw [eW]; exact GA.word)
    rw [eW] at jt jw
    have twl:bw.length<=1002 + 260:=by lia
    refine ⟨SP,p12,(t0 :: (ns ++ [(":":Str)])) ++ [tx bw],rfl,rfl,SqL.of (by rw [za]; simp),by lia,?_⟩
    rw [jt]
    have s12:Same H9 _:=((zf (o:=.lst ((t0 :: ns).map V.str)) hp10).trans (zf (o:=.lst [.str ":",.str (tx bw)]) hp11)).trans (zf (o:=.lst ((t0 :: ns).map V.str ++ [.str ":",.str (tx bw)])) hp12)
    have hlt12:=s12 _ _ hlt9
    refine ⟨lt,_,_,rfl,rfl,hlt12,by rw [List.length_map]; lia,?_⟩
    have hls12:=s12 _ _ hls9
    have hla12:=s12 _ _ hla9
    have t12:Tups H9 _:=fun b xs e=>s12 _ _ e
    have hI12:=hI9.keep t12
    have ia12:=ia9.keep t12
    have k12:KpS (·=ls) H _:=k9.trans (.of s12)
    clear t12
    generalize upd (upd (upd H9 p10 (.lst ((t0 :: ns).map V.str))) p11 (.lst [.str ":",.str (tx bw)])) p12 (.lst ((t0 :: ns).map V.str ++ [.str ":",.str (tx bw)]))=H12 at *
    have t13:Tups H12 (upd H12 lt (.lst ((arms.map fun a=>V.str (tx a.words)) ++ [.str (tx (Arm.words ⟨t0,ns,bw,b⟩))]))):=fun b xs e=>by rw [zg (zY e hlt12 (by intro z; cases z))]; exact e
    refine ⟨its'',ps'',arms ++ [⟨t0,ns,bw,b⟩],va ++ [.ref p8],_,_,_,_,rfl,fun y o n e=>?_,by rw [zg nlt]; exact hls12,hI12.keep t13,by rw [zg nat]; exact hla12,ia12.keep t13,by rw [za,List.map_append]; rfl,by rw [List.length_append,List.length_singleton,hn],fun a ha=>?_,?_⟩
    · rw [zg (fun z0=>by rw [z0,hlt0] at e; cases e)]
      exact k12 _ _ n e
    · rcases List.mem_append.mp ha with ha | ha
      · exact hg a ha
      · rw [List.mem_singleton.mp ha]
        exact GA
    · rw [List.flatMap_append,List.length_append,List.flatMap_singleton,lws]
      lia
  · rintro σ H1 ⟨its',ps',arms,va,a,b,c,d,rfl,k1,hls1,hI1,hla1,ia,hlt1,hn,hg,hb⟩
    refine ⟨_,rfl,la,_,rfl,.inl ⟨SqL.of hla1,fun p1 hp1=>?_⟩⟩
    have hlt2:upd H1 p1 (.tup va) lt=some (.lst (arms.map fun a=>V.str (tx a.words))):=by rw [zg (zi hlt1 hp1)]; exact hlt1
    have wd:∀ ws∈arms.map Arm.words,ws≠[]/\∀ x∈ws,Wd x:=fun ws h=>by
      obtain ⟨a,ha,rfl⟩:=List.mem_map.mp h
      exact ⟨by unfold Arm.words; simp,(hg a ha).word⟩
    have fm:(arms.map Arm.words).flatten=arms.flatMap Arm.words:=by rw [List.flatMap_def]
    have wl:=wA (arms.map Arm.words) wd
    rw [fm] at wl
    have je:=vx (arms.map Arm.words) fun ws h=>(wd ws h).1
    rw [fm] at je
    refine ⟨rfl,_,rfl,SP,lt,(arms.map Arm.words).map tx,rfl,rfl,SqL.of (by rw [hlt2,List.map_map,List.map_map]; rfl),by lia,sN2,fun p2 hp2=>?_⟩
    rw [je] at *
    have t1:=Tups.new (o:=.tup va) hp1
    have t2:=Tups.new (o:=.tup [.ref p1,.str (tx (arms.flatMap Arm.words))]) hp2
    have s2:Same H1 _:=(zf (o:=.tup va) hp1).trans (zf (o:=.tup [.ref p1,.str (tx (arms.flatMap Arm.words))]) hp2)
    refine q _ p2 (.ref p1) arms its' ps' (k1.trans (.of s2)) (s2 _ _ hls1) (hI1.keep (t1.trans t2)) za (.tup (t2 _ _ za) (ia.keep (t1.trans t2))) (fun e=>?_) (by lia) hg (by lia)
    rw [e] at hn
    simp at hn
    lia
theorem Wl {H H6:Hp} {ls p:Addr} {its:List (D × List Str)} {ps:List Addr} {v:V} {b:D} {ws:List Str} (k:KpS (·=ls) H H6) (hls:H6 ls=some (.lst (ps.reverse.map V.ref))) (hI:Itms H6 its ps) (hp:H6 p=some (.tup [v,.str (tx ws)])) (hb:Is H6 b v) (hG:Good b ws) :
    KpS (·=ls) H (upd H6 ls (.lst (ps.reverse.map V.ref ++ [.ref p])))/\upd H6 ls (.lst (ps.reverse.map V.ref ++ [.ref p])) ls=some (.lst ((p :: ps).reverse.map V.ref))/\Itms (upd H6 ls (.lst (ps.reverse.map V.ref ++ [.ref p]))) ((b,ws) :: its) (p :: ps):=by
  have t:Tups H6 (upd H6 ls (.lst (ps.reverse.map V.ref ++ [.ref p]))):=fun b xs e=>by rw [zg (zY e hls (by intro z; cases z))]; exact e
  exact ⟨k.trans (KpS.put rfl),by rw [za]; simp,.cons (t _ _ hp) (hb.keep t) hG (hI.keep t)⟩
theorem ZS {H H4:Hp} {ls p:Addr} {its:List (D × List Str)} {ps:List Addr} (k:KpS (·=ls) H H4) (hls:H4 ls=some (.lst ((p :: ps).reverse.map V.ref))) :
    ((p :: ps).reverse.map V.ref)[((p :: ps).reverse.map V.ref).length - 1]?=some (.ref p)/\((p :: ps).reverse.map V.ref).dropLast=ps.reverse.map V.ref/\Tups H4 (upd H4 ls (.lst (ps.reverse.map V.ref)))/\KpS (·=ls) H (upd H4 ls (.lst (ps.reverse.map V.ref))):=by
  have e1:(p :: ps).reverse.map V.ref=ps.reverse.map V.ref ++ [.ref p]:=by simp
  exact ⟨by rw [e1]; simp,by rw [e1]; simp,fun b xs e=>by rw [zg (zY e hls (by intro z; cases z))]; exact e,k.trans (KpS.put rfl)⟩
theorem ZT {xss:List (List Str)} {ws:List Str} (hf:xss.flatten=ws) (h0:xss.all (fun l=>!l.isEmpty)=true) (hw:∀ y∈ws,Wd y):Str.join SP (xss.map tx)=tx ws/\wide SP (xss.map tx)<=34 * ws.length:=by
  have h1:∀ l∈xss,l≠[]:=fun l hl e=>by
    have:=List.all_eq_true.mp h0 l hl
    rw [e] at this
    cases this
  have e:=vx xss h1
  have b:=wA xss fun l hl=>⟨h1 l hl,fun y hy=>hw y (by rw [<- hf]; exact List.mem_flatten.mpr ⟨l,hl,hy⟩)⟩
  rw [hf] at e b
  exact ⟨e,b⟩
theorem vy {H H3:Hp} {ls p4 p5 p6:Addr} {T L:List V} {its:List (D × List Str)} {ps:List Addr} {b:D} {ws:List Str} (k:KpS (·=ls) H H3) (hls:H3 ls=some (.lst (ps.reverse.map V.ref))) (hI:Itms H3 its ps) (h4:H3 p4=none) (h5:upd H3 p4 (.tup T) p5=none) (h6:upd (upd H3 p4 (.tup T)) p5 (.lst L) p6=none)
    (hb:Is (upd H3 p4 (.tup T)) b (.ref p4)) (hG:Good b ws):upd (upd (upd H3 p4 (.tup T)) p5 (.lst L)) p6 (.tup [.ref p4,.str (tx ws)]) ls=some (.lst (ps.reverse.map V.ref)) /\
    (KpS (·=ls) H (upd (upd (upd (upd H3 p4 (.tup T)) p5 (.lst L)) p6 (.tup [.ref p4,.str (tx ws)])) ls (.lst (ps.reverse.map V.ref ++ [.ref p6])))/\upd (upd (upd (upd H3 p4 (.tup T)) p5 (.lst L)) p6 (.tup [.ref p4,.str (tx ws)])) ls (.lst (ps.reverse.map V.ref ++ [.ref p6])) ls=some (.lst ((p6 :: ps).reverse.map V.ref)) /\
      Itms (upd (upd (upd (upd H3 p4 (.tup T)) p5 (.lst L)) p6 (.tup [.ref p4,.str (tx ws)])) ls (.lst (ps.reverse.map V.ref ++ [.ref p6]))) ((b,ws) :: its) (p6 :: ps)):=by
  have s4:=zf (o:=.tup T) h4
  have s5:=zf (o:=.lst L) h5
  have s6:=zf (o:=.tup [.ref p4,.str (tx ws)]) h6
  have sm:=(s4.trans s5).trans s6
  have t:Tups H3 _:=fun b xs e=>sm _ _ e
  have t56:Tups (upd H3 p4 (.tup T)) _:=fun b xs e=>(s5.trans s6) _ _ e
  exact ⟨sm _ _ hls,Wl (p:=p6) (v:=.ref p4) (k.trans (.of sm)) (sm _ _ hls) (hI.keep t) za (hb.keep t56) hG⟩
def JV:Sp:=fun vs H Q _=>∃ (ls:Addr) (c:Int) (its:List (D × List Str)) (ps:List Addr),vs=[.ref ls,.int c]/\H ls=some (.lst (ps.reverse.map V.ref))/\Itms H its ps/\tw its<=1000 /\
  ∀ (H':Hp) (its':List (D × List Str)) (ps':List Addr),KpS (·=ls) H H'->H' ls=some (.lst (ps'.reverse.map V.ref))->Itms H' its' ps'->its'≠[]->tw its'<=tw its + 270->Q .non H'
theorem scLPut:FnScope ["_law_stack","_law_cell","_law_way","_law_number_here","_law_x","_law_arms_here","_law_text","_law_body","_law_deed_here","_law_words","_law_other","_law_more"] ["_law_stack","_law_cell"] (zj Jl):=.ok
theorem zaV (F:Fun K "_law_put" "_law_put" Jl f fd) (GN:Ca P w K mg base CX0 2 "_law_names" ["_law_cell","_law_many_here"] xy) (GA:Ca P w K mg base CX0 3 "_law_arms" ["_law_stack","_law_number_here"] Wk) (GD:Ca P w K mg base CX0 3 "_law_deed" ["_law_cell"] Wi):FnOk P w K mg base CX0 4 f fd ["_law_stack","_law_cell"] JV:=by
  refine F.by scLPut (fun vs H Q E h=>?_) (fun cdv A outer s H vs Q E hr h=>?_)
  · obtain ⟨ls,c,its,ps,rfl,_⟩:=h
    rfl
  obtain ⟨ls,c,its,ps,rfl,hls,hI,htw,q⟩:=h
  refine ⟨_,zb (sE 2 scLPut.nd (zh zu (jv 1) zc)) (zb (sE 3 scLPut.nd (zh zC (jv 1) zc))
    (zb (sE 4 scLPut.nd (X3 z5 (yJ GN (hr.mono (by decide)) rfl yv (jA2 (jv 1) zc)) zc (fun _ _=>rfl)))
    (zb (zx (jW.pt (X2 (tN (vM hr) (jv 0) (zp zS)) (ZA (tN vg (jv 2) zc))))
      (zb (zv (zy PySem.F.plainAttrs_list PySem.F.slot_list_append PySem.F.type_list_append zA (jv 0) (jA1 (zz (jA2 (zz (jA2 zd (jv 4))) (zh z6 zd (jv 4))))))) (ze ZC)) zq)
    (zb (zx (tN zV (jv 2) zc)
      (zb (yu (cA GA hr (jA2 (jv 0) (jv 3))) (yB rfl (zw (gN 5 scLPut.nd) (zw (gN 6 scLPut.nd) yi))))
      (zb (zv (zy PySem.F.plainAttrs_list PySem.F.slot_list_append PySem.F.type_list_append zA (jv 0) (jA1 (zz (jA2 (zz (jA3 zd (jv 4) (jv 5))) (zy PySem.F.plainAttrs_str PySem.F.slot_str_join PySem.F.type_str_join zO zd (jA1 (zp (jA4 zd (jv 4) (jv 6) zd))))))))) (ze ZC))) zq)
    (zb (yu (x5 PySem.F.plainAttrs_list PySem.F.slot_list_pop PySem.F.type_list_pop x8 (jv 0)) (yB rfl (zw (gN 7 scLPut.nd) (zw (gN 6 scLPut.nd) yi))))
    (zb (zx (jW.pt (X2 (tN vg (jv 2) zc) (ZA (tN (vM hr) (jv 0) (zp zS)))))
      (zb (yu (cA GD hr (jA1 (jv 3))) (yB rfl (zw (gN 8 scLPut.nd) (zw (gN 9 scLPut.nd) yi))))
      (zb (zv (zy PySem.F.plainAttrs_list PySem.F.slot_list_append PySem.F.type_list_append zA (jv 0) (jA1 (zz (jA2 (zz (jA4 zd (jv 4) (jv 8) (jv 7))) (zy PySem.F.plainAttrs_str PySem.F.slot_str_join PySem.F.type_str_join zO zd (jA1 (zp (jA4 zd (jv 4) (jv 9) (jv 6)))))))))) (ze ZC))) zq)
    (zb (yu (x5 PySem.F.plainAttrs_list PySem.F.slot_list_pop PySem.F.type_list_pop x8 (jv 0)) (yB rfl (zw (gN 10 scLPut.nd) (zw (gN 11 scLPut.nd) yi))))
    (ze (zv (zy PySem.F.plainAttrs_list PySem.F.slot_list_append PySem.F.type_list_append zA (jv 0) (jA1 (zz (jA2 (zz (jA4 zd (jv 4) (jv 7) (jv 10))) (zy PySem.F.plainAttrs_str PySem.F.slot_str_join PySem.F.type_str_join zO zd (jA1 (zp (jA5 zd (jv 4) (jv 6) zd (jv 11)))))))))))))))))),?_⟩
  have sl:=line
  have cD:∀ {i j:Int},0 < j->j < 1073741824->CDiv i j:=fun h1 h2=>⟨h1,h2⟩
  have nps:=hI.len
  have ntw:=wY its
  refine ⟨_,rfl,_,_,rfl,rfl,(by show (0:Int) < _; decide),_,rfl,_,_,rfl,rfl,cD (by decide) (by decide),_,rfl,c,1,rfl,by decide,by decide,fun H1 p1 l s1 fr1 hl hall hp1=>?_⟩
  match l,hl,hall,hp1 with
  | [x],_,hall,hp1 =>
    have hx:=hall x (by simp)
    have wx:=(zF hx).1
    refine ⟨p1,_,_,_,rfl,rfl,SqL.of hp1,aI0,?_⟩
    have t1:Tups H H1:=fun b xs e=>s1 _ _ e
    have hls1:=s1 _ _ hls
    have hI1:=hI.keep t1
    refine ⟨_,rfl,sN0,fun pe hpe=>?_⟩
    have s2:Same H (upd H1 pe (.lst [])):=s1.trans (zf hpe _)
    have hls2:=(zf (o:=.lst []) hpe) _ _ hls1
    have hI2:=hI1.keep (Tups.new (o:=.lst []) hpe)
    have he2:upd H1 pe (.lst []) pe=some (.lst []):=za
    generalize upd H1 pe (.lst [])=H2 at *
    refine ⟨ls,pe,_,rfl,rfl,SqL.of hls2,SqL.of he2,_,rfl,?_⟩
    have k2:KpS (·=ls) H H2:=.of s2
    suffices both:((tSeq _ _:TS) _ [some (.ref ls),some (.int c),some (.int (c % 7)),some (.int (c / 7)),some (.str x),none,none,none,none,none,none,none] H2)/\(its≠[]->(tSeq _ _:TS) _ [some (.ref ls),some (.int c),some (.int (c % 7)),some (.int (c / 7)),some (.str x),none,none,none,none,none,none,none] H2) by
      obtain ⟨gv,rs⟩:=both
      by_cases hi:its=[]
      · have e0:(ps.reverse.map V.ref).isEmpty=true:=by
          have:ps=[]:=List.length_eq_zero_iff.mp (by rw [<- nps,hi]; rfl)
          rw [this]
          rfl
        rw [e0]
        exact iteT (iteT gv)
      · have e0:(ps.reverse.map V.ref).isEmpty=false:=by
          cases ps with
          | nil=>exact absurd (List.length_eq_zero_iff.mp nps) hi
          | cons p ps=>simp
        rw [e0]
        refine iteF ⟨_,rfl,_,_,rfl,rfl,_,rfl,?_⟩
        exact ite2 (fun _=>gv) (fun _=>rs hi)
    constructor
    · have G:=yj hx
      refine ⟨_,rfl,.inl ⟨rfl,_,SqL.of hls2⟩,_,rfl,sN2,fun p3 hp3=>⟨_,rfl,_,_,rfl,rfl,?_,sN2,fun p4 hp4=>?_⟩⟩
      · have:=wx.len
        show 5 + x.length<=sizeLine
        lia
      rw [Wh] at *
      have s4:Same H2 _:=(zf (o:=.tup [.str "give",.str x]) hp3).trans (zf (o:=.tup [.ref p3,.str (tx ["give",x])]) hp4)
      have t4:Tups H2 _:=fun b xs e=>s4 _ _ e
      have i3:=(zf (o:=.tup [.ref p3,.str (tx ["give",x])]) hp4) _ _ (za (H:=H2) (a:=p3) (o:=.tup [.str "give",.str x]))
      have P:=Wl (p:=p4) (v:=.ref p3) (b:=.tup [.str "give",.str x]) (ws:=["give",x]) (k2.trans (.of s4)) (s4 _ _ hls2) (hI2.keep t4) za (.tup i3 (.cons (.str _) (.cons (.str _) .nil))) G
      refine ⟨ls,_,_,rfl,rfl,s4 _ _ hls2,by rw [List.length_map,List.length_reverse]; lia,?_⟩
      exact q _ _ _ P.1 P.2.1 P.2.2 (by simp) (by show 2 + 3 + tw its<=_; lia)
    · intro hne
      refine ⟨_,rfl,rfl,_,rfl,?_⟩
      refine ite2 (fun _=>?_) (fun _=>?_)
      · refine ⟨_,rfl,_,rfl,ls,c / 7,its,ps,rfl,hls2,hI2,htw,fun H3 p3 va arms its' ps' k3 hls3 hI3 hp3 iv hn hl20 hg hb=>?_⟩
        refine ⟨p3,_,rfl,SqT.of hp3,rfl,_,_,rfl,_,_,rfl,rfl,?_⟩
        have G:=xN hx hn hg hl20
        have nps':=hI3.len
        have ntw':=wY its'
        have ne:(arms.flatMap Arm.words).isEmpty=false:=by
          cases arms with
          | nil=>exact absurd rfl hn
          | cons a r=>rw [List.flatMap_cons]; unfold Arm.words; simp
        obtain ⟨je,wl⟩:=ZT (xss:=[[("case":Str)],[x],arms.flatMap Arm.words,[("end":Str)]]) (ws:=("case":Str) :: x :: (arms.flatMap Arm.words ++ [("end":Str)])) (by simp) (by simp [ne]) G.word
        have fl:(("case":Str) :: x :: (arms.flatMap Arm.words ++ [("end":Str)])).length=(arms.flatMap Arm.words).length + 3:=by simp only [List.length_cons,List.length_append,List.length_nil]
        refine ⟨_,rfl,.inl ⟨rfl,_,SqL.of hls3⟩,_,rfl,_,rfl,sN3,fun p4 hp4=>⟨rfl,_,rfl,_,rfl,sN4,fun p5 hp5=>⟨SP,p5,[[("case":Str)],[x],arms.flatMap Arm.words,[("end":Str)]].map tx,rfl,rfl,SqL.of za,by lia,sN2,fun p6 hp6=>?_⟩⟩⟩
        rw [je]
        have t4:=Tups.new (o:=.tup [.str "case",.str x,va]) hp4
        obtain ⟨e1,P1,P2,P3⟩:=vy (k2.trans k3) hls3 hI3 hp4 hp5 hp6 (.tup za (.cons (.str _) (.cons (.str _) (.cons (iv.keep t4) .nil)))) G
        exact ⟨ls,_,_,rfl,rfl,e1,by rw [List.length_map,List.length_reverse]; lia,q _ _ _ P1 P2 P3 (by simp) (by rw [tw,fl]; lia)⟩
      · cases hI2 with
        | nil=>exact absurd rfl hne
        | @cons p v b ws its' ps' h1 h2 h3 h4 =>
          obtain ⟨e2,e3,t3,k3⟩:=ZS (its:=its') k2 hls2
          refine ⟨_,rfl,.inl ⟨rfl,_,SqL.of hls2⟩,ls,_,_,rfl,rfl,hls2,e2,?_⟩
          rw [e3]
          have hls3:upd H2 ls (.lst (ps'.reverse.map V.ref)) ls=some (.lst (ps'.reverse.map V.ref)):=za
          replace h1:=t3 _ _ h1
          replace h2:=h2.keep t3
          replace h4:=h4.keep t3
          generalize upd H2 ls (.lst (ps'.reverse.map V.ref))=H3 at *
          refine ⟨p,_,rfl,SqT.of h1,rfl,_,_,rfl,_,_,rfl,rfl,?_⟩
          have twe:tw ((b,ws) :: its')=ws.length + 3 + tw its':=rfl
          have nps':=h4.len
          have ntw':=wY its'
          have wne:ws.isEmpty=false:=by
            cases ws with
            | nil=>exact absurd rfl h3.ne
            | cons _ _=>rfl
          suffices both2:(∀ H4,KpS (·=ls) H H4->H4 ls=some (.lst (ps'.reverse.map V.ref))->Itms H4 its' ps'->Is H4 b v->(tSeq _ _:TS) _ [some (.ref ls),some (.int c),some (.int (c % 7)),some (.int (c / 7)),some (.str x),none,some (.str (tx ws)),some v,none,none,none,none] H4) /\
              (∀ H4,KpS (·=ls) H H4->H4 ls=some (.lst (ps'.reverse.map V.ref))->Itms H4 its' ps'->Is H4 b v->its'≠[]->(tSeq _ _:TS) _ [some (.ref ls),some (.int c),some (.int (c % 7)),some (.int (c / 7)),some (.str x),none,some (.str (tx ws)),some v,none,none,none,none] H4) by
            obtain ⟨dv,iv⟩:=both2
            refine ⟨_,rfl,_,_,rfl,rfl,_,rfl,?_⟩
            refine ite2 (fun _=>iteT (dv H3 k3 hls3 h4 h2)) (fun _=>?_)
            refine ⟨_,rfl,sN0,fun pe2 hpe2=>?_⟩
            have s4:Same H3 (upd H3 pe2 (.lst [])):=zf hpe2 _
            have t4:Tups H3 (upd H3 pe2 (.lst [])):=fun b xs e=>s4 _ _ e
            refine ⟨ls,pe2,_,rfl,rfl,SqL.of (s4 _ _ hls3),SqL.of za,_,rfl,?_⟩
            by_cases hi:its'=[]
            · have e0:(ps'.reverse.map V.ref).isEmpty=true:=by
                have:ps'=[]:=List.length_eq_zero_iff.mp (by rw [<- nps',hi]; rfl)
                rw [this]
                rfl
              rw [e0]
              exact iteT (dv _ (k3.trans (.of s4)) (s4 _ _ hls3) (h4.keep t4) (h2.keep t4))
            · have e0:(ps'.reverse.map V.ref).isEmpty=false:=by
                cases ps' with
                | nil=>exact absurd (List.length_eq_zero_iff.mp nps') hi
                | cons p ps=>simp
              rw [e0]
              exact iteF (iv _ (k3.trans (.of s4)) (s4 _ _ hls3) (h4.keep t4) (h2.keep t4) hi)
          constructor
          · intro H4 k4 hls4 hI4 hb4
            refine ⟨_,rfl,c / 7,rfl,fun H5 p5 vd dd dw s5 hp5 id' GD' ld=>?_⟩
            have t5:Tups H4 H5:=fun b xs e=>s5 _ _ e
            have hls5:=s5 _ _ hls4
            refine ⟨p5,_,rfl,SqT.of hp5,rfl,_,_,rfl,_,_,rfl,rfl,?_⟩
            have G:=wB hx GD' h3
            have dne:dw.isEmpty=false:=by
              cases dw with
              | nil=>exact absurd rfl GD'.ne
              | cons _ _=>rfl
            obtain ⟨je,wl⟩:=ZT (xss:=[[("let":Str)],[x],dw,ws]) (ws:=("let":Str) :: x :: (dw ++ ws)) (by simp) (by simp [dne,wne]) G.word
            have fl:(("let":Str) :: x :: (dw ++ ws)).length=dw.length + ws.length + 2:=by simp only [List.length_cons,List.length_append]
            refine ⟨_,rfl,.inl ⟨rfl,_,SqL.of hls5⟩,_,rfl,_,rfl,_,rfl,sN4,fun p6 hp6=>⟨rfl,_,rfl,_,rfl,_,rfl,sN4,fun p7 hp7=>⟨SP,p7,[[("let":Str)],[x],dw,ws].map tx,rfl,rfl,SqL.of za,by lia,sN2,fun p8 hp8=>?_⟩⟩⟩
            rw [je]
            have t6:=Tups.new (o:=.tup [.str "let",.str x,vd,v]) hp6
            obtain ⟨e1,P1,P2,P3⟩:=vy (k4.trans (.of s5)) hls5 (hI4.keep t5) hp6 hp7 hp8 (.tup za (.cons (.str _) (.cons (.str _) (.cons (id'.keep t6) (.cons ((hb4.keep t5).keep t6) .nil))))) G
            exact ⟨ls,_,_,rfl,rfl,e1,by rw [List.length_map,List.length_reverse]; lia,q _ _ _ P1 P2 P3 (by simp) (by rw [tw,fl]; lia)⟩
          · intro H4 k4 hls4 hI4 hb4 hne4
            cases hI4 with
            | nil=>exact absurd rfl hne4
            | @cons p' v' b' ws' its'' ps'' g1 g2 g3 g4 =>
              obtain ⟨e5,e6,t5,k5⟩:=ZS (its:=its'') k4 hls4
              refine ⟨_,rfl,.inl ⟨rfl,_,SqL.of hls4⟩,ls,_,_,rfl,rfl,hls4,e5,?_⟩
              rw [e6]
              have hls5:upd H4 ls (.lst (ps''.reverse.map V.ref)) ls=some (.lst (ps''.reverse.map V.ref)):=za
              replace g1:=t5 _ _ g1
              replace g2:=g2.keep t5
              replace g4:=g4.keep t5
              replace hb4:=hb4.keep t5
              generalize upd H4 ls (.lst (ps''.reverse.map V.ref))=H5 at *
              refine ⟨p',_,rfl,SqT.of g1,rfl,_,_,rfl,_,_,rfl,rfl,?_⟩
              have twe2:tw ((b',ws') :: its'')=ws'.length + 3 + tw its'':=rfl
              have nps'':=g4.len
              have ntw'':=wY its''
              have wne':ws'.isEmpty=false:=by
                cases ws' with
                | nil=>exact absurd rfl g3.ne
                | cons _ _=>rfl
              have G:=ZQ hx h3 g3
              obtain ⟨je,wl⟩:=ZT (xss:=[[("if":Str)],[x],ws,[("else":Str)],ws']) (ws:=("if":Str) :: x :: (ws ++ ("else":Str) :: ws')) (by simp) (by simp [wne,wne']) G.word
              have fl:(("if":Str) :: x :: (ws ++ ("else":Str) :: ws')).length=ws.length + ws'.length + 3:=by simp only [List.length_cons,List.length_append]; lia
              refine ⟨_,rfl,.inl ⟨rfl,_,SqL.of hls5⟩,_,rfl,_,rfl,_,rfl,sN4,fun p6 hp6=>⟨rfl,_,rfl,_,rfl,_,rfl,sN5,fun p7 hp7=>⟨SP,p7,[[("if":Str)],[x],ws,[("else":Str)],ws'].map tx,rfl,rfl,SqL.of za,by lia,sN2,fun p8 hp8=>?_⟩⟩⟩
              rw [je]
              have t6:=Tups.new (o:=.tup [.str "if",.str x,v,v']) hp6
              obtain ⟨e1,P1,P2,P3⟩:=vy k5 hls5 g4 hp6 hp7 hp8 (.tup za (.cons (.str _) (.cons (.str _) (.cons (hb4.keep t6) (.cons (g2.keep t6) .nil))))) G
              exact ⟨ls,_,_,rfl,rfl,e1,by rw [List.length_map,List.length_reverse]; lia,q _ _ _ P1 P2 P3 (by simp) (by rw [tw,fl]; lia)⟩
theorem Itms.app {H:Hp} {a b:List (D × List Str)} {p q:List Addr} (h:Itms H a p) (g:Itms H b q):Itms H (a ++ b) (p ++ q):=by
  induction h with
  | nil=>exact g
  | cons x y z _ ih=>exact .cons x y z ih
theorem Itms.rev {H:Hp} {a:List (D × List Str)} {p:List Addr} (h:Itms H a p):Itms H a.reverse p.reverse:=by
  induction h with
  | nil=>exact .nil
  | cons x y z _ ih=>rw [List.reverse_cons,List.reverse_cons]; exact ih.app (.cons x y z .nil)
theorem Itms.get {H:Hp} {a:List (D × List Str)} {p:List Addr} (h:Itms H a p):∀ {i:Nat} {x:Addr},p[i]?=some x->∃ b ws v,a[i]?=some (b,ws)/\H x=some (.tup [v,.str (tx ws)])/\Is H b v/\Good b ws:=by
  induction h with
  | nil=>intro i x e; simp at e
  | @cons p v b ws its ps h1 h2 h3 _ ih =>
    intro i x e
    cases i with
    | zero =>
      have e':p=x:=by simpa using e
      subst e'
      exact ⟨b,ws,v,rfl,h1,h2,h3⟩
    | succ i=>exact ih (by simpa using e)
theorem Xx:∀ a b:List (D × List Str),tw (a ++ b)=tw a + tw b
  | [],b=>by rw [List.nil_append,tw]; lia
  | x :: a,b=>by rw [List.cons_append,tw,tw,Xx a b]; lia
theorem Xy:∀ a:List (D × List Str),tw a.reverse=tw a
  | []=>rfl
  | x :: a=>by rw [List.reverse_cons,Xx,Xy a,tw,tw,tw]; lia
theorem yR {ws:List Str} (h0:ws≠[]) (h:∀ x∈ws,Wd x):Txt.split (tx ws) SP=ws:=by
  show Txt.split (Str.join SP ws) SP=ws
  rw [Yw]
  exact wb h0 fun x hx=>(h x hx).sp
def Wm:Sp:=fun vs H Q _=>∃ (ls:Addr) (its:List (D × List Str)) (ps:List Addr),vs=[.ref ls]/\H ls=some (.lst (ps.reverse.map V.ref))/\Itms H its ps/\tw its<=2000/\∀ H',Same H H'->Q (.int (tw its)) H'
def Wn (K:PySem.W.Frag):Sp:=fun vs H Q _=>∃ (a:Addr) (ns:List Int),vs=[.ref a]/\SqL K H a (ns.map V.int)/\ns.length<=63/\∀ (H':Hp) (p:Addr) (v:V) (b:D) (ws:List Str),Same H H'->H' p=some (.tup [v,.str (tx ws)])->Is H' b v->Good b ws->ws.length<=400->Q (.ref p) H'
theorem scLMany:FnScope ["_law_stack","_law_many_here","_law_body","_law_text"] ["_law_stack"] (zj Xl):=.ok
theorem JW (F:Fun K "_law_many" "_law_many" Xl f fd) (mN:mg "len"=none):FnOk P w K mg base CX0 1 f fd ["_law_stack"] Wm:=by
  refine F.by scLMany (fun vs H Q E h=>?_) (fun cdv A outer s H vs Q E hr h=>?_)
  · obtain ⟨ls,its,ps,rfl,_⟩:=h
    rfl
  obtain ⟨ls,its,ps,rfl,hls,hI,htw,q⟩:=h
  refine ⟨_,zb (sE 1 scLMany.nd zc)
    (zb (yO PassesOwn.never rfl (vp (jv 0)) (yB rfl (zw (gN 2 scLMany.nd) (zw (gN 3 scLMany.nd) yi)))
      (ze (sE 1 scLMany.nd (zh zJ (zh zJ (jv 1) zc) (z4 yq rfl mN PySem.boot_len (jA1 (zy PySem.F.plainAttrs_str PySem.F.slot_str_split PySem.F.type_str_split yP (jv 3) (jA1 zd))))))))
    (ze (zo (jv 1)))),?_⟩
  have sl:=line
  have hR:=hI.rev
  refine ⟨_,rfl,ls,rfl,⟨_,SqL.of hls⟩,vD (xs:=ps.reverse.map V.ref) (fun i σ H'=>∃ a b,σ=[some (.ref ls),some (.int (tw (its.reverse.take i))),a,b]/\Same H H') ⟨none,none,rfl,Same.refl _⟩ (fun i σ H' _ pv=>by obtain ⟨a,b,_,sm⟩:=pv; exact SqL.of (sm _ _ hls)) ?_ ?_⟩
  · rintro i x σ H' hx ⟨a,b,rfl,sm⟩
    rw [List.getElem?_map] at hx
    obtain ⟨p,hp,rfl⟩:=Option.map_eq_some_iff.mp hx
    obtain ⟨bd,ws,v,e1,e2,e3,G⟩:=hR.get hp
    have tl:=xf G.word
    have wl:ws.length<=tw its:=by
      have m:=List.mem_of_getElem? e1
      have:∀ l:List (D × List Str),(bd,ws)∈l->ws.length<=tw l:=by
        intro l
        induction l with
        | nil=>intro h; cases h
        | cons y l ih =>
          intro h
          rw [tw]
          rcases List.mem_cons.mp h with e | h
          · subst e
            show ws.length<=ws.length + 3 + tw l
            lia
          · have:=ih h; lia
      have:=this _ m
      rw [Xy] at this
      exact this
    refine ⟨p,_,rfl,SqT.of (sm _ _ e2),rfl,_,_,rfl,_,_,rfl,rfl,?_⟩
    refine ⟨_,rfl,_,_,rfl,rfl,_,rfl,rfl,tx ws,SP,rfl,rfl,by decide,by lia,fun p2 hp2=>⟨p2,_,rfl,.inl (SqL.of za),_,_,rfl,rfl,some v,some (.str (tx ws)),?_,sm.trans (zf hp2 _)⟩⟩
    rw [yR G.ne G.word]
    have hi:=(List.getElem?_eq_some_iff.mp e1).1
    have et:its.reverse.take (i + 1)=its.reverse.take i ++ [(bd,ws)]:=by rw [List.take_succ,e1]; rfl
    rw [et,Xx,List.length_map]
    show [some (V.ref ls),some (V.int (((tw (its.reverse.take i):Nat):Int) + 3 + ((ws.length:Nat):Int))),some v,some (V.str (tx ws))]=[some (V.ref ls),some (V.int ((tw (its.reverse.take i) + (ws.length + 3 + 0):Nat):Int)),some v,some (V.str (tx ws))]
    have:(((tw (its.reverse.take i):Nat):Int) + 3 + ((ws.length:Nat):Int))=((tw (its.reverse.take i) + (ws.length + 3 + 0):Nat):Int):=by lia
    rw [this]
  · rintro σ H' ⟨a,b,rfl,sm⟩
    have e:its.reverse.take (ps.reverse.map V.ref).length=its.reverse:=List.take_of_length_le (by rw [List.length_map,List.length_reverse,List.length_reverse,hI.len]; exact Nat.le_refl _)
    have r:=q _ sm
    rw [<- Xy,<- e] at r
    exact ⟨_,rfl,r⟩
theorem scLTree:FnScope ["_law_cells","_law_stack","_law_many_here","_law_cell","_law_body","_law_text","_law_other","_law_more"] ["_law_cells"] (zj Xm):=.ok
theorem JX:zk "x"=true:=by decide +kernel
theorem JY (F:Fun K "_law_tree" "_law_tree" Xm f fd) (GP:Ca P w K mg base CX0 4 "_law_put" ["_law_stack","_law_cell"] JV) (GM:Ca P w K mg base CX0 1 "_law_many" ["_law_stack"] Wm) (mN:mg "len"=none):FnOk P w K mg base CX0 5 f fd ["_law_cells"] (Wn K):=by
  refine F.by scLTree (fun vs H Q E h=>?_) (fun cdv A outer s H vs Q E hr h=>?_)
  · obtain ⟨a,ns,rfl,_⟩:=h
    rfl
  obtain ⟨a,ns,rfl,hS,h63,q⟩:=h
  refine ⟨_,zb (sE 1 scLTree.nd (zp zS)) (zb (sE 2 scLTree.nd zc)
    (zb (yO PassesOwn.never rfl (vp (jv 0)) (gN 3 scLTree.nd)
      (ze (zx (tN jV (jv 2) zc) (zb (zv (cA GP hr (jA2 (jv 1) (jv 3)))) (ze (sE 2 scLTree.nd (yJ GM (hr.mono (by decide)) rfl yv (jA1 (jv 1)))))) zq)))
    (zb (xo PassesOwn.never (tN X4 (z4 yq rfl mN PySem.boot_len (jA1 (jv 1))) zc)
      (zb (yu (x5 PySem.F.plainAttrs_list PySem.F.slot_list_pop PySem.F.type_list_pop x8 (jv 1)) (yB rfl (zw (gN 4 scLTree.nd) (zw (gN 5 scLTree.nd) yi))))
      (zb (yu (x5 PySem.F.plainAttrs_list PySem.F.slot_list_pop PySem.F.type_list_pop x8 (jv 1)) (yB rfl (zw (gN 6 scLTree.nd) (zw (gN 7 scLTree.nd) yi))))
      (ze (zv (zy PySem.F.plainAttrs_list PySem.F.slot_list_append PySem.F.type_list_append zA (jv 1) (jA1 (zz (jA2 (zz (jA4 zd zd (jv 4) (jv 6))) (zy PySem.F.plainAttrs_str PySem.F.slot_str_join PySem.F.type_str_join zO zd (jA1 (zp (jA5 zd zd (jv 5) zd (jv 7))))))))))))))
    (zb (zx (tN (vM hr) (jv 1) (zp zS)) (ze (zo (zz (jA2 (zz (jA2 zd zd)) zd)))) zq)
    (ze (zo (xL 1))))))),?_⟩
  have sl:=line
  refine ⟨sN0,fun ls hls=>?_⟩
  have fin:∀ {H':Hp},KpS (·=ls) H H'->Same H H':=fun k y o e=>k _ _ (zi e hls) e
  refine ⟨_,rfl,a,rfl,⟨_,(zf hls _).seq hS⟩,vD (xs:=ns.map V.int) (fun i σ H'=>∃ its ps v,σ=[some (.ref a),some (.ref ls),some (.int (tw its)),v,none,none,none,none]/\KpS (·=ls) H H'/\H' ls=some (.lst (ps.reverse.map V.ref))/\Itms H' its ps/\tw its<=380) ⟨[],[],none,rfl,KpS.new hls,za,.nil,by decide⟩ (fun i σ H' _ pv=>by obtain ⟨its,ps,v,_,k,_⟩:=pv; exact (fin k).seq hS) ?_ ?_⟩
  · rintro i x σ H' hx ⟨its,ps,v,rfl,k,hl,hI,ht⟩
    obtain ⟨n,_,rfl⟩:∃ n,ns[i]?=some n/\V.int n=x:=by
      rw [List.getElem?_map] at hx
      cases e:ns[i]? with
      | none=>rw [e] at hx; cases hx
      | some n=>rw [e] at hx; exact ⟨n,rfl,Option.some.inj hx⟩
    refine ⟨_,rfl,_,_,rfl,rfl,_,rfl,?_⟩
    by_cases c:((tw its:Nat):Int)<=110
    · refine iteD c ?_
      refine ⟨_,rfl,_,rfl,ls,n,its,ps,rfl,hl,hI,by lia,fun H1 its' ps' k1 hl1 hI1 hne ht1=>?_⟩
      refine ⟨_,rfl,ls,its',ps',rfl,hl1,hI1,by lia,fun H2 s2=>⟨its',ps',_,rfl,(k.trans k1).trans (.of s2),s2 _ _ hl1,hI1.keep (fun b xs e=>s2 _ _ e),by lia⟩⟩
    · exact xW c ⟨its,ps,_,rfl,k,hl,hI,ht⟩
  · rintro σ H1 ⟨its,ps,v,rfl,k,hl,hI,ht⟩
    refine ⟨fun m σ H'=>∃ its ps nn v a1 a2 a3 a4,m=its.length/\σ=[some (.ref a),some (.ref ls),nn,v,a1,a2,a3,a4]/\KpS (·=ls) H H'/\H' ls=some (.lst (ps.reverse.map V.ref))/\Itms H' its ps/\tw its<=380,⟨_,its,ps,_,_,none,none,none,none,rfl,rfl,k,hl,hI,ht⟩,?_⟩
    clear k hl hI ht
    rintro m σ H2 ⟨its,ps,nn,v,a1,a2,a3,a4,rfl,rfl,k,hl,hI,ht⟩
    have nps:=hI.len
    refine ⟨_,rfl,ls,_,rfl,.inl (SqL.of hl),_,_,rfl,rfl,_,rfl,?_⟩
    by_cases c:1 < its.length
    · refine iteD (by rw [List.length_map,List.length_reverse]; lia) ⟨_,fun _ _ h=>h,?_⟩
      cases hI with
      | nil=>simp at c
      | @cons p v1 b1 w1 its ps h1 h2 h3 h4 =>
        cases h4 with
        | nil=>simp at c
        | @cons p' v2 b2 w2 its ps g1 g2 g3 g4 =>
          obtain ⟨e2,e3,t3,k3⟩:=ZS (its:=(b2,w2) :: its) k hl
          refine ⟨_,rfl,.inl ⟨rfl,_,SqL.of hl⟩,ls,_,_,rfl,rfl,hl,e2,?_⟩
          rw [e3]
          have hl3:upd H2 ls (.lst ((p' :: ps).reverse.map V.ref)) ls=some (.lst ((p' :: ps).reverse.map V.ref)):=za
          replace h1:=t3 _ _ h1
          replace h2:=h2.keep t3
          replace g1:=t3 _ _ g1
          replace g2:=g2.keep t3
          replace g4:=g4.keep t3
          generalize upd H2 ls (.lst ((p' :: ps).reverse.map V.ref))=H3 at *
          refine ⟨p,_,rfl,SqT.of h1,rfl,_,_,rfl,_,_,rfl,rfl,?_⟩
          obtain ⟨e5,e6,t5,k5⟩:=ZS (its:=its) k3 hl3
          refine ⟨_,rfl,.inl ⟨rfl,_,SqL.of hl3⟩,ls,_,_,rfl,rfl,hl3,e5,?_⟩
          rw [e6]
          have hl5:upd H3 ls (.lst (ps.reverse.map V.ref)) ls=some (.lst (ps.reverse.map V.ref)):=za
          replace h2:=h2.keep t5
          replace g1:=t5 _ _ g1
          replace g2:=g2.keep t5
          replace g4:=g4.keep t5
          generalize upd H3 ls (.lst (ps.reverse.map V.ref))=H5 at *
          refine ⟨p',_,rfl,SqT.of g1,rfl,_,_,rfl,_,_,rfl,rfl,?_⟩
          have twe:tw ((b1,w1) :: (b2,w2) :: its)=w1.length + 3 + (w2.length + 3 + tw its):=rfl
          have ntw:=wY its
          have n4:=g4.len
          have e1:w1.isEmpty=false:=by
            cases w1 with
            | nil=>exact absurd rfl h3.ne
            | cons _ _=>rfl
          have e1':w2.isEmpty=false:=by
            cases w2 with
            | nil=>exact absurd rfl g3.ne
            | cons _ _=>rfl
          have G:=ZQ JX h3 g3
          obtain ⟨je,wl⟩:=ZT (xss:=[[("if":Str)],[("x":Str)],w1,[("else":Str)],w2]) (ws:=("if":Str) :: "x" :: (w1 ++ ("else":Str) :: w2)) (by simp) (by simp [e1,e1']) G.word
          have fl:(("if":Str) :: "x" :: (w1 ++ ("else":Str) :: w2)).length=w1.length + w2.length + 3:=by simp only [List.length_cons,List.length_append]; lia
          refine ⟨_,rfl,.inl ⟨rfl,_,SqL.of hl5⟩,_,rfl,_,rfl,sN4,fun p6 hp6=>⟨rfl,_,rfl,_,rfl,sN5,fun p7 hp7=>⟨SP,p7,[[("if":Str)],[("x":Str)],w1,[("else":Str)],w2].map tx,rfl,rfl,SqL.of za,by lia,sN2,fun p8 hp8=>?_⟩⟩⟩
          rw [je]
          have t6:=Tups.new (o:=.tup [.str "if",.str "x",v1,v2]) hp6
          obtain ⟨f1,P1,P2,P3⟩:=vy k5 hl5 g4 hp6 hp7 hp8 (.tup za (.cons (.str _) (.cons (.str _) (.cons (h2.keep t6) (.cons (g2.keep t6) .nil))))) G
          exact ⟨ls,_,_,rfl,rfl,f1,by rw [List.length_map,List.length_reverse]; lia,its.length + 1,by simp only [List.length_cons]; lia,_,_,_,_,_,_,_,_,rfl,rfl,P1,P2,P3,by rw [tw,fl]; lia⟩
    · refine xW (by rw [List.length_map,List.length_reverse]; lia) ?_
      refine ⟨_,rfl,sN0,fun pe hpe=>?_⟩
      have s3:Same H2 (upd H2 pe (.lst [])):=zf hpe _
      have hl3:=s3 _ _ hl
      have hI3:=hI.keep (fun b xs e=>s3 _ _ e)
      have k3:KpS (·=ls) H (upd H2 pe (.lst [])):=k.trans (.of s3)
      have he3:upd H2 pe (.lst []) pe=some (.lst []):=za
      generalize upd H2 pe (.lst [])=H3 at *
      refine ⟨ls,pe,_,rfl,rfl,SqL.of hl3,SqL.of he3,_,rfl,?_⟩
      cases hI3 with
      | nil =>
        refine iteT ?_
        refine ⟨sN2,fun p4 hp4=>⟨sN2,fun p5 hp5=>?_⟩⟩
        have e:("give x":Str)=tx ["give","x"]:=by decide
        have t5:=Tups.new (o:=.tup [.ref p4,.str "give x"]) hp5
        exact q _ p5 (.ref p4) _ ["give","x"] (((fin k3).trans (zf hp4 _)).trans (zf hp5 _)) (by rw [za,e]) (.tup (t5 _ _ za) (.cons (.str _) (.cons (.str _) .nil))) (yj JX) (by show 2<=400; decide)
      | @cons p v1 b1 w1 its ps h1 h2 h3 h4 =>
        cases h4 with
        | cons _ _ _ _=>simp only [List.length_cons] at c; lia
        | nil =>
          refine iteF ?_
          have twe:tw [(b1,w1)]=w1.length + 3 + 0:=rfl
          exact ⟨_,rfl,ls,_,_,_,rfl,rfl,SqL.of hl3,aI0,q _ p v1 b1 w1 (fin k3) h1 h2 h3 (by lia)⟩
theorem zaW:bootBuiltins "ValueError"=some (.type "ValueError"):=by decide +kernel
theorem ZU {g:Str} {ns r2:List Str} {n:Nat} {o2:Option (D × List Str)} {o:Option D} (ho:o=match o2 with
    | some (d,[])=>some (.tup [.str g,Rd.«strs» ns,d])
    | _=>none) (hg:zk g=true) (hn:∀ x∈ns,zk x=true) (hl:ns.length<=9) (hR:Runs LX n ⟨[],none,r2⟩ o2):xj (g :: (ns ++ ("=":Str) :: r2)) o:=by
  unfold xj
  rw [z9 (L:=LX) hg]
  dsimp only [Option.bind_some]
  rw [wu (L:=LX) (stop:="=") (lex_ok.kept "=" (by decide)) (acc:=[]) hn (by simpa using hl),List.nil_append]
  exact ⟨n,o2,hR,ho⟩
theorem JZ {g:Str} {ns ws:List Str} {b:D} (hg:zk g=true) (hn:∀ x∈ns,zk x=true) (hl:ns.length<=9) (hG:Good b ws):xj (g :: (ns ++ ("=":Str) :: ws)) (some (.tup [.str g,Rd.«strs» ns,b])):=by
  obtain ⟨n,hR⟩:=hG.body.runs []
  rw [List.append_nil] at hR
  exact ZU rfl hg hn hl hR
theorem J0 {g:Str} {ns ws:List Str} {b:D} {x:Str} (hg:zk g=true) (hn:∀ x∈ns,zk x=true) (hl:ns.length<=9) (hG:Good b (ws ++ [x])):xj (g :: (ns ++ ("=":Str) :: ws)) none:=by
  obtain ⟨n,hR⟩:=hG.body.runs []
  rw [List.append_nil] at hR
  obtain ⟨m,o,hR'⟩:=Jp LX ⟨[],none,ws⟩
  cases o with
  | none=>exact ZU rfl hg hn hl hR'
  | some p =>
    obtain ⟨d,r⟩:=p
    have h2:=hR'.app (more:=[x])
    have:=(Runs.det hR h2).2
    injection this with this
    injection this with _ this
    simp at this
theorem Xz {x:Str} {r:List Str} (h:x≠("":Str)):tx (x :: r)≠("":Str):=fun e=>by
  have e':=congrArg cl e
  have c0:cl ("":Str)=[]:=by decide
  rw [c0] at e'
  apply h
  apply yF
  rw [c0]
  cases r with
  | nil=>exact e'
  | cons y r =>
    have e2:cl (Str.join SP (x :: y :: r))=[]:=e'
    rw [zt] at e2
    exact (List.append_eq_nil_iff.mp e2).1
end
end Rdr
namespace L2
open PySem PySem.Spec PyProof.Rows
def Itv (K:PySem.W.Frag) (a:Addr) (n:Nat):It :=
  ⟨fun i H=>i < n/\∃ xs x,SqL K H a xs/\xs[n - 1 - i]?=some x,fun i H x H'=>H'=H/\∀ xs,SqL K H a xs->xs[n - 1 - i]?=some x,fun i _=>n<=i⟩
theorem J2 {P:Program} {w:World} {K:PySem.W.Frag} {tg:Expr} (a it:Addr) (n:Nat):Turn P w K tg (Itv K a n) [it] it (fun i h=>i<=n/\h.IsRevIter it a ((n:Int) - 1 - (i:Nat))) where
  mem:=by simp
  obj:=fun i h st b hb=>by
    have e:b=it:=by simpa using hb
    subst e
    obtain ⟨_,o,e,c,d⟩:=st
    exact ⟨o,e,fun v z=>by rw [d] at z; cases z⟩
  keep:=fun i h h' st k=>⟨st.1,st.2.at fun o e=>k it (by simp) o e⟩
  item:=by
    intro X hP hw hK hc i pins s σ H E I hf st hg
    subst hP hw hK
    obtain ⟨hi,xs,x,hq,hx⟩:=hg
    obtain ⟨its,rv,p,hz⟩:=I.list hq
    obtain ⟨u,hu,ru⟩:=rv.get hx
    obtain ⟨f0,f1,f2,f3,f4,f5⟩:=hf it (by simp)
    obtain ⟨_,st2⟩:=st
    have e1:(n:Int) - 1 - (i:Nat)=((n - 1 - i:Nat):Int):=by lia
    rw [e1] at st2
    refine wpAny_pyNext_rev_item st2 p.isList (x:=u) (by simpa using hu) fun h' st' sb=>?_
    have I1:Inv X pins σ H { s with heap:=h' }:=I.turned (t':=s.toks) (fun b o hb e=>(sb.2 b hb).trans e) f0 f1 f3 f4 f5
    obtain ⟨o,e,c,d⟩:=id st'
    refine ⟨u,rfl,jF (s:={ s with heap:=h' }) e c d (by decide) ⟨x,H,I1,ru,⟨rfl,fun ys hy=>by rw [I.list_inj hy hq]; exact hx⟩,⟨hi,?_⟩,fun b hb=>(hf b hb).1⟩⟩
    have e2:(n:Int) - 1 - ((i + 1:Nat):Int)=((n - 1 - i:Nat):Int) - 1:=by lia
    rw [e2]
    exact st'
  done:=by
    intro X hP hw hK hc i pins s σ H E I hf st hg
    subst hP hw hK
    obtain ⟨f0,f1,f2,f3,f4,f5⟩:=hf it (by simp)
    obtain ⟨h1,st2⟩:=st
    have h2:n<=i:=hg
    have e1:(n:Int) - 1 - (i:Nat)=-1:=by lia
    rw [e1] at st2
    exact wpAny_pyNext_rev_end (I.ok.hd hc) st2 fun h' eb=>⟨rfl,I.turned (t':=s.toks) (fun b o hb e=>eb b o hb e) f0 f1 f3 f4 f5⟩
  self:=fun _ _ _ _ _ st h=>wpAny_pyIter_revIter st.2 h
section
variable {X:Cx} {tg:Expr}
def iRev (K:PySem.W.Frag) (ta:TA):TI:=fun σ H R=>ta σ H fun vs H1=>∃ a xs,vs=[.ref a]/\SqL K H1 a xs/\R (Itv K a xs.length) H1
theorem zcZ {a:Expr} {ta:TA} {p pos:Pos} (hg:Gl X "reversed") (hm:X.mg "reversed"=none) (ha:PA X [a] ta) (hs:starEach [a] X.env=[(false,eval a X.env)]:=by rfl):PI X tg (.Call (.Name "reversed" p) [a] [] pos) (iRev X.K ta):=by
  intro pins s σ H R I h
  refine Call_ (xY I hg hm boot_reversed (PyProof.Rows.callWith_type1 (thn (ha pos pins s σ H _ I h) fun us s1 ⟨vs,H1,I1,r1,q1⟩=>?_) hs rfl))
  obtain ⟨l,xs,e,hq,q⟩:=q1
  subst e
  obtain ⟨u,rfl,rx⟩:=xR r1
  cases rx
  obtain ⟨its,rv,pl,hz⟩:=I1.list hq
  have hl:=rv.length
  refine call_reversed_list pl.isList ?_
  have hr:(s1.heap.push (revObj l ((its.toArray.size:Int) - 1))).IsRevIter s1.heap.objs.size l ((its.toArray.size:Int) - 1):=⟨_,Heap.get?_push_size _ rfl,rfl,rfl⟩
  refine wpAny_pyIter_revIter (s:={ s1 with heap:=s1.heap.push (revObj l ((its.toArray.size:Int) - 1)) }) hr ?_
  refine ⟨s1.heap.objs.size,[s1.heap.objs.size],_,_,H1,rfl,I1.kept (t':=s1.toks) fun b o e=>Heap.get?_push_of_some _ e,J2 l _ xs.length,⟨Nat.zero_le _,?_⟩,fun b hb=>?_,q⟩
  · have e:(xs.length:Int) - 1 - ((0:Nat):Int)=(its.toArray.size:Int) - 1:=by simp [hl]
    rw [e]
    exact hr
  have e:b=s1.heap.objs.size:=by simpa using hb
  subst e
  exact I1.fpOk (Nat.le_refl _) (I1.hok.fresh (Nat.le_refl _))
theorem zc0 {a:Expr} {t:TA} {p pos:Pos} (hg:Gl X "reversed") (hm:X.mg "reversed"=none) (ha:jA X [a] t) (h:zm a=false:=by rfl):jI X tg (.Call (.Name "reversed" p) [a] [] pos) (iRev X.K t):=⟨zcZ hg hm ha.out (zI h)⟩
end
theorem zaX {K:PySem.W.Frag} {a:Addr} {xs:List V} {g:TG} {tb:TS} {D:Ends} {σ:St} {H:Hp} (Pv:Nat->St->Hp->Prop) (h0:Pv 0 σ H) (hl:∀ i σ H,i<=xs.length->Pv i σ H->SqL K H a xs)
    (hs:∀ i x σ H,xs.reverse[i]?=some x->Pv i σ H->g x σ H fun σ2 H2=>tb { D with nx:=Pv (i + 1),ct:=Pv (i + 1),bk:=D.nx } σ2 H2) (hd:∀ σ H,Pv xs.length σ H->D.nx σ H) :
    ∃ W:Nat->Nat->St->Hp->Prop,(∃ m,W 0 m σ H)/\∀ i m σ H,W i m σ H ->
      ((Itv K a xs.length).stop i H/\D.nx σ H)\/((Itv K a xs.length).go i H/\∃ N:St->Hp->Prop,(∀ σ' H',N σ' H'->∃ m',m' < m/\W (i + 1) m' σ' H')/\∀ x H',(Itv K a xs.length).yld i H x H'->g x σ H' fun σ2 H2=>tb { D with nx:=N,ct:=N,bk:=D.nx } σ2 H2):=by
  refine ⟨fun i m σ H=>m=xs.length - i/\i<=xs.length/\Pv i σ H,⟨xs.length,by simp,Nat.zero_le _,h0⟩,?_⟩
  rintro i m σ H ⟨rfl,hi,p⟩
  have q:=hl i σ H hi p
  by_cases hlt:i < xs.length
  · refine .inr ⟨⟨hlt,xs,xs[xs.length - 1 - i],q,by rw [List.getElem?_eq_getElem]⟩,Pv (i + 1),fun σ' H' p'=>⟨xs.length - (i + 1),by lia,rfl,hlt,p'⟩,fun x H' y=>?_⟩
    obtain ⟨e,y⟩:=y
    subst e
    refine hs i x σ _ ?_ p
    rw [List.getElem?_reverse hlt]
    exact y xs q
  · have e:i=xs.length:=by lia
    subst e
    exact .inl ⟨Nat.le_refl _,hd σ H p⟩
section
variable {g:TG} {tt:TT} {te:TE} {Q:VK} {σ:St} {H:Hp}
theorem J6 {K:PySem.W.Frag} {a:Addr} {xs:List V} (Pv:Nat->St->List V->Hp->Prop) (h0:Pv 0 σ [] H) (hl:∀ i τ ys H,i<=xs.length->Pv i τ ys H->SqT K H a xs)
    (hs:∀ i x τ ys H,xs[i]?=some x->Pv i τ ys H->g x τ H fun τ2 H2=>tt τ2 H2 fun b H3=>if b=true then te τ2 H3 fun y H4=>ys.length < sizeLine/\Pv (i + 1) τ2 (ys ++ [y]) H4 else Pv (i + 1) τ2 ys H3)
    (hd:∀ τ ys H,Pv xs.length τ ys H->∀ p,H p=none->Q (.ref p) (upd H p (.lst ys))):∃ W,(∃ m,W 0 m σ [] H)/\lcBy (Itt K a) g tt te Q W:=by
  refine ⟨fun i m τ ys H=>m=xs.length - i/\i<=xs.length/\Pv i τ ys H,⟨xs.length,by simp,Nat.zero_le _,h0⟩,?_⟩
  rintro i m τ ys H ⟨rfl,hi,p⟩
  have q:=hl i τ ys H hi p
  by_cases hlt:i < xs.length
  · refine .inr ⟨⟨xs,xs[i],q,by simp [hlt]⟩,Pv (i + 1),fun τ' ys' H' p'=>⟨xs.length - (i + 1),by lia,rfl,hlt,p'⟩,fun x H' y=>?_⟩
    obtain ⟨e,y⟩:=y
    subst e
    exact hs i x τ ys _ (y xs q) p
  · have e:i=xs.length:=by lia
    subst e
    exact .inl ⟨⟨xs,q,Nat.le_refl _⟩,hd τ ys H p⟩
end
theorem old {H:Hp} {p q:Addr} {o u:HO} (hp:H p=none) (h:H q=some u):upd H p o q=some u:=by rw [zg (zi h hp)]; exact h
theorem Same.new {H H1:Hp} {p:Addr} {o:HO} (s:Same H H1) (hp:H1 p=none):Same H (upd H1 p o):=fun b u q=>old hp (s b u q)
theorem Same.put {H H1:Hp} {p:Addr} {o:HO} (s:Same H H1) (hp:H p=none):Same H (upd H1 p o):=fun b u q=>by rw [zg (zi q hp)]; exact s b u q
end L2
namespace Rdr
open PySem L2 K11 Rd
theorem IsL.strsE {H:Hp}:∀ {l:List Str} {vs:List V},IsL H (l.map D.str) vs->vs=l.map V.str
  | [],_,h=>by cases h; rfl
  | x :: l,_,h=>by
    rw [List.map_cons] at h
    cases h with
    | cons a b =>
      cases a
      rw [IsL.strsE b]
      rfl
theorem IsL.get {H:Hp}:∀ {ds:List D} {vs:List V} {i:Nat} {v:V},IsL H ds vs->vs[i]?=some v->∃ d,ds[i]?=some d/\Is H d v
  | _,_,_,_,.nil,e=>by simp at e
  | _,_,0,_,.cons a _,e=>by
    simp at e
    subst e
    exact ⟨_,rfl,a⟩
  | _,_,i + 1,_,.cons _ b,e=>by
    obtain ⟨d,h1,h2⟩:=IsL.get (i:=i) b (by simpa using e)
    exact ⟨d,by simpa using h1,h2⟩
inductive Pd where
  | w (x:Str)
  | b (d:D) (ws:List Str)
def Pd.ws:Pd->List Str
  | .w x=>[x]
  | .b _ ws=>ws
def Pd.wt:Pd->Nat
  | .w _=>1
  | .b _ ws=>2 * ws.length
def wts (l:List Pd):Nat:=(l.map Pd.wt).sum
def wss (l:List Pd):List Str:=l.flatMap Pd.ws
inductive IsP (H:Hp):Pd->V->Prop
  | w (x:Str):IsP H (.w x) (.str x)
  | b {d:D} {ws:List Str} {v:V}:Is H d v->Wr d ws->IsP H (.b d ws) v
inductive IsPs (H:Hp):List Pd->List V->Prop
  | nil:IsPs H [] []
  | cons {p:Pd} {v:V} {ps:List Pd} {vs:List V}:IsP H p v->IsPs H ps vs->IsPs H (p :: ps) (v :: vs)
theorem IsP.keep {H H':Hp} (t:Tups H H') {p:Pd} {v:V} (h:IsP H p v):IsP H' p v:=by
  cases h with
  | w x=>exact .w x
  | b i w=>exact .b (i.keep t) w
theorem IsPs.keep {H H':Hp} (t:Tups H H') {ps:List Pd} {vs:List V} (h:IsPs H ps vs):IsPs H' ps vs:=by
  induction h with
  | nil=>exact .nil
  | cons a _ ih=>exact .cons (a.keep t) ih
theorem IsPs.app {H:Hp} {a b:List Pd} {u v:List V} (h:IsPs H a u) (g:IsPs H b v):IsPs H (a ++ b) (u ++ v):=by
  induction h with
  | nil=>exact g
  | cons x _ ih=>exact .cons x ih
theorem IsPs.len {H:Hp} {a:List Pd} {u:List V} (h:IsPs H a u):a.length=u.length:=by
  induction h with
  | nil=>rfl
  | cons _ _ ih=>rw [List.length_cons,List.length_cons,ih]
theorem IsPs.strs {H:Hp}:∀ l:List Str,IsPs H (l.map Pd.w) (l.map V.str)
  | []=>.nil
  | x :: l=>.cons (.w x) (IsPs.strs l)
theorem jf:∀ l:List Str,wss (l.map Pd.w)=l
  | []=>rfl
  | x :: l=>by
    have e:=jf l
    unfold wss at e ⊢
    rw [List.map_cons,List.flatMap_cons,e]
    rfl
theorem YB:∀ l:List Str,wts (l.map Pd.w)=l.length
  | []=>rfl
  | x :: l=>by
    have e:=YB l
    unfold wts at e ⊢
    rw [List.map_cons,List.map_cons,List.sum_cons,e,List.length_cons]
    show 1 + _=_
    lia
theorem wD (a b:List Pd):wss (a ++ b)=wss a ++ wss b:=List.flatMap_append
theorem ZV (a b:List Pd):wts (a ++ b)=wts a + wts b:=by unfold wts; rw [List.map_append,List.sum_append]
theorem yx (a:Pd) (b:List Pd):wss (a :: b)=a.ws ++ wss b:=List.flatMap_cons
theorem yy (a:Pd) (b:List Pd):wts (a :: b)=a.wt + wts b:=by unfold wts; rw [List.map_cons,List.sum_cons]
theorem XA:∀ l:List Pd,l.length<=2 * (wss l).length + l.length/\wts l<=2 * (wss l).length
  | []=>⟨Nat.zero_le _,Nat.le_refl _⟩
  | p :: l=>by
    obtain ⟨_,h⟩:=XA l
    rw [yx,yy,List.length_append]
    refine ⟨Nat.le_add_left _ _,?_⟩
    cases p with
    | w x =>
      show 1 + _<=2 * (1 + _)
      lia
    | b d ws =>
      show 2 * ws.length + _<=2 * (ws.length + _)
      lia
theorem Tups.put {H H':Hp} (t:Tups H H') {p:Addr} {xs:List V} (h:H' p=some (.lst xs)) (o:HO):Tups H (upd H' p o):=fun z ys hz=>by rw [zg (zY (t _ _ hz) h (by intro z; cases z))]; exact t _ _ hz
theorem Tups.of {H H':Hp} (s:Same H H'):Tups H H':=fun p xs h=>s p _ h
def armP (a:Arm):List Pd:=.w a.tag :: (a.names.map Pd.w ++ [.w ":",.b a.b a.bw])
theorem zaY (a:Arm):wss (armP a)=a.words:=by
  unfold armP Arm.words
  rw [yx,wD,jf,yx,yx]
  show a.tag :: (a.names ++ ((":":Str) :: (a.bw ++ [])))=_
  rw [List.append_nil]
theorem YC (l:List Arm):wss (l.flatMap armP)=l.flatMap Arm.words:=by
  induction l with
  | nil=>rfl
  | cons a l ih=>rw [List.flatMap_cons,List.flatMap_cons,wD,ih,zaY]
theorem wZ:∀ l:List Arm,(∀ a∈l,a.names.length<=9)->(l.flatMap armP).length<=12 * l.length
  | [],_=>Nat.le_refl _
  | a :: l,h=>by
    have h1:=h a List.mem_cons_self
    have h2:=wZ l fun x hx=>h x (List.mem_cons_of_mem _ hx)
    rw [List.flatMap_cons,List.length_append,List.length_cons]
    have h3:(armP a).length=a.names.length + 3:=by
      unfold armP
      simp only [List.length_cons,List.length_append,List.length_map,List.length_nil]
    lia
def Wo:Sp:=fun vs H Q _=>∃ (d:D) (v:V) (ws:List Str),vs=[v]/\Is H d v/\DWr d ws/\∀ (H':Hp) (p:Addr),Same H H'->H' p=some (.lst (ws.map V.str))->Q (.ref p) H'
def Wp:Sp:=fun vs H Q _=>∃ (x:Str) (arms:List Arm) (v:V),vs=[v]/\Is H (.tup [.str "case",.str x,.tup (arms.map Arm.dat)]) v/\arms.length<=20/\(∀ a∈arms,a.names.length<=9)/\(∀ a∈arms,Wr a.b a.bw) /\
  ∀ (H':Hp) (p:Addr) (us:List V),Same H H'->H p=none->H' p=some (.lst us)->IsPs H' (.w "case" :: .w x :: (arms.flatMap armP ++ [.w "end"])) us->Q (.ref p) H'
def Zd:Sp:=fun vs H Q _=>∃ (d:D) (v:V) (ws:List Str),vs=[v]/\Is H d v/\Wr d ws/\∀ (H':Hp) (p:Addr) (its:List Pd) (us:List V),Same H H'->H p=none->H' p=some (.lst us)->IsPs H' its us->wss its=ws->wts its < 2 * ws.length->Q (.ref p) H'
section
variable {P:Program} {w:World} {K:PySem.W.Frag} {mg:Str->Option Value} {base:Heap} {f:Addr} {fd:FuncData}
theorem zaZ:FnScope ["deed"] ["deed"] (zj Xp):=.ok
theorem J7 (F:Fun K "deed_words" "deed_words" Xp f fd) (m_str:mg "str"=none) (m_list:mg "list"=none):FnOk P w K mg base CX0 1 f fd ["deed"] Wo:=by
  refine F.by zaZ (fun vs H Q E h=>?_) (fun cdv A outer s H vs Q E hr h=>?_)
  · obtain ⟨d,v,ws,rfl,_⟩:=h
    rfl
  obtain ⟨d,v,ws,rfl,hI,hW,q⟩:=h
  refine ⟨_,
    (zb (zx (tN zV (xT 0) zd)
      (ze (zo (zp (jA2 zd (zU y7 rfl m_str PyProof.Rows.boot_str (jA1 (xT 0))))))) zq)
    (zb (zx (tN zV (xT 0) zd)
      (ze (zo (zU yQ rfl m_list PyProof.Rows.boot_list (jA1 (zB zcB (jv 0) (zD zc) zT))))) zq)
    (ze (zo (zh zX (zh zX (zp (jA2 (xT 0) (xT 0))) (zU yQ rfl m_list PyProof.Rows.boot_list (jA1 (xT 0)))) (zp (jA1 zd))))))),?_⟩
  have sl:=line
  cases hW with
  | @num n hn =>
    cases hI with
    | tup hp hl =>
      cases hl with
      | cons a1 hl =>
        cases hl with
        | cons a2 hl =>
          cases hl; cases a1; cases a2
          refine ⟨_,rfl,_,_,_,_,rfl,rfl,SqT.of hp,rfl,rfl,_,rfl,iteS rfl ?_⟩
          exact ⟨_,rfl,_,_,_,_,rfl,rfl,SqT.of hp,rfl,_,rfl,ZR hn,sN2,fun p hp=>q _ _ (zf hp _) za⟩
  | @op o a b =>
    cases hI with
    | tup hp hl =>
      cases hl with
      | cons a1 hl =>
        cases hl with
        | cons a2 hl =>
          cases hl with
          | cons a3 hl =>
            cases hl with
            | cons a4 hl =>
              cases hl; cases a1; cases a2; cases a3; cases a4
              refine ⟨_,rfl,_,_,_,_,rfl,rfl,SqT.of hp,rfl,rfl,_,rfl,xV (by decide) ?_⟩
              refine ⟨_,rfl,_,_,_,_,rfl,rfl,SqT.of hp,rfl,rfl,_,rfl,iteS rfl ?_⟩
              refine ⟨_,rfl,_,rfl,_,_,rfl,SqT.of hp,(by rintro ⟨z,_⟩; exact absurd z (by show ¬ (min 1 4=0); decide)),fun p1 h1=>?_⟩
              exact ⟨_,_,rfl,.inr (SqT.of za),fun p2 h2=>q _ _ ((zf h1 _).new h2) za⟩
  | @names o g ns ho hl9 =>
    cases hI with
    | tup hp hl =>
      cases hl with
      | cons a1 hl =>
        cases hl with
        | cons a2 hl =>
          cases hl with
          | cons a3 hl =>
            cases hl; cases a1; cases a2
            unfold Rd.«strs» at a3
            cases a3 with
            | tup hn hs =>
              have e:=IsL.strsE hs
              subst e
              have n1:o≠"num":=by rintro rfl; revert ho; decide
              have n2:o≠"op":=by rintro rfl; revert ho; decide
              refine ⟨_,rfl,_,_,_,_,rfl,rfl,SqT.of hp,rfl,rfl,_,rfl,xV n1 ?_⟩
              refine ⟨_,rfl,_,_,_,_,rfl,rfl,SqT.of hp,rfl,rfl,_,rfl,xV n2 ?_⟩
              refine ⟨_,rfl,_,_,_,_,rfl,rfl,SqT.of hp,rfl,_,rfl,_,_,_,_,rfl,rfl,SqT.of hp,rfl,sN2,fun p1 h1=>?_⟩
              refine ⟨_,rfl,_,_,_,_,rfl,rfl,SqT.of (old h1 hp),rfl,_,_,rfl,.inr (SqT.of (old h1 hn)),fun p2 h2=>?_⟩
              refine ⟨_,_,_,_,rfl,rfl,old h2 za,za,by simp; lia,fun p3 h3=>?_⟩
              refine ⟨sN1,fun p4 h4=>?_⟩
              refine ⟨_,_,_,_,rfl,rfl,old h4 za,za,by simp; lia,fun p5 h5=>?_⟩
              refine q _ _ (((((zf h1 _).new h2).new h3).new h4).new h5) ?_
              rw [za]
              simp
theorem scCaseW:FnScope ["body","words","tag","names","within"] ["body"] (zj Xo):=.ok
theorem J8 (F:Fun K "case_words" "case_words" Xo f fd) (m_list:mg "list"=none):FnOk P w K mg base CX0 1 f fd ["body"] Wp:=by
  refine F.by scCaseW (fun vs H Q E h=>?_) (fun cdv A outer s H vs Q E hr h=>?_)
  · obtain ⟨x,arms,v,rfl,_⟩:=h
    rfl
  obtain ⟨x,arms,v,rfl,hI,h20,h9,hW,q⟩:=h
  refine ⟨_,
    (zb (sE 1 scCaseW.nd (zp (jA2 zd (xT 0))))
    (zb (yO PassesOwn.never rfl (ZD (xT 0)) (yB rfl (zw (gN 2 scCaseW.nd) (zw (gN 3 scCaseW.nd) (zw (gN 4 scCaseW.nd) yi))))
      (ze (zv (zy PySem.F.plainAttrs_list PySem.F.slot_list_extend PySem.F.type_list_extend wM (jv 1) (jA1 (zh zX (zh zX (zp (jA1 (jv 2))) (zU yQ rfl m_list PyProof.Rows.boot_list (jA1 (jv 3)))) (zp (jA2 zd (jv 4)))))))))
    (ze (zo (zh zX (jv 1) (zp (jA1 zd))))))),?_⟩
  have sl:=line
  cases hI with
  | tup hp hl =>
    cases hl with
    | cons a1 hl =>
      cases hl with
      | cons a2 hl =>
        cases hl with
        | cons a3 hl =>
          cases hl; cases a1; cases a2
          cases a3 with
          | @tup _ avs pa ha hs =>
            have hlen:=hs.len
            rw [List.length_map] at hlen
            refine ⟨_,rfl,_,_,_,_,rfl,rfl,SqT.of hp,rfl,sN2,fun pw hw=>?_⟩
            refine ⟨_,rfl,_,_,_,_,rfl,rfl,SqT.of (old hw hp),rfl,_,rfl,⟨_,SqT.of (old hw ha)⟩,XM (xs:=avs) (fun i σ H'=>∃ (us:List V) (a b c:Option V),σ=[some (.ref _),some (.ref pw),a,b,c]/\Same H H'/\H' pw=some (.lst us)/\IsPs H' (.w "case" :: .w x :: (arms.take i).flatMap armP) us)
              ⟨_,none,none,none,rfl,zf hw _,za,.cons (.w _) (.cons (.w _) .nil)⟩ (fun i σ H' _ h=>?_) ?_ ?_⟩
            · obtain ⟨_,_,_,_,_,s1,_⟩:=h
              exact SqT.of (s1 _ _ ha)
            · rintro i y σ H1 hy ⟨us,a,b,c,rfl,s1,hu,hP⟩
              obtain ⟨d,hd,hId⟩:=hs.get hy
              rw [List.getElem?_map] at hd
              obtain ⟨arm,harm,e⟩:=Option.map_eq_some_iff.mp hd
              subst e
              have hmem:arm∈arms:=List.mem_of_getElem? harm
              have hi:i < arms.length:=(List.getElem?_eq_some_iff.mp harm).1
              have hId1:=hId.keep (Tups.of s1)
              unfold Arm.dat at hId1
              cases hId1 with
              | tup hp1 hl1 =>
                cases hl1 with
                | cons b1 hl1 =>
                  cases hl1 with
                  | cons b2 hl1 =>
                    cases hl1 with
                    | @cons _ vb _ _ b3 hl1 =>
                      cases hl1; cases b1
                      unfold Rd.«strs» at b2
                      cases b2 with
                      | tup hn hns =>
                        have e:=IsL.strsE hns
                        subst e
                        have hn9:=h9 arm hmem
                        have hul:=hP.len
                        have hal:=wZ (arms.take i) fun z hz=>h9 z (List.mem_of_mem_take hz)
                        rw [List.length_take] at hal
                        rw [List.length_cons,List.length_cons] at hul
                        refine ⟨_,_,rfl,SqT.of hp1,rfl,_,_,rfl,_,_,rfl,_,_,rfl,rfl,?_⟩
                        refine ⟨_,rfl,.inl ⟨rfl,_,SqL.of hu⟩,_,rfl,sN1,fun p1 h1=>?_⟩
                        refine ⟨_,rfl,_,_,rfl,.inr (SqT.of (old h1 hn)),fun p2 h2=>?_⟩
                        refine ⟨_,_,_,_,rfl,rfl,old h2 za,za,by simp; lia,fun p3 h3=>?_⟩
                        refine ⟨_,rfl,sN2,fun p4 h4=>?_⟩
                        refine ⟨_,_,_,_,rfl,rfl,old h4 za,za,by simp; lia,fun p5 h5=>?_⟩
                        have s5:=((((zf h1 (.lst [.str arm.tag])).new (o:=.lst (arm.names.map V.str)) h2).new (o:=.lst ([.str arm.tag] ++ arm.names.map V.str)) h3).new (o:=.lst [.str ":",vb]) h4).new (o:=.lst ([.str arm.tag] ++ arm.names.map V.str ++ [.str ":",vb])) h5
                        refine ⟨_,_,_,_,rfl,rfl,s5 _ _ hu,za,by simp; lia,?_⟩
                        refine ⟨_,_,_,_,rfl,(s1.trans s5).put (by first | exact hw | (cases hq:H pw with | none=>rfl | some o=>exact absurd hw (by rw [hq]; simp))),za,?_⟩
                        have t5:=(Tups.of s5).put (s5 _ _ hu) (.lst (us ++ ([.str arm.tag] ++ arm.names.map V.str ++ [.str ":",vb])))
                        rw [List.take_add_one,harm,List.flatMap_append]
                        have e2:(Option.some arm).toList.flatMap armP=armP arm:=by simp
                        rw [e2]
                        have k:=(hP.keep t5).app (IsPs.cons (.w arm.tag) ((IsPs.strs (H:=_) arm.names).app (.cons (.w ":") (.cons (.b (b3.keep t5) (hW arm hmem)) .nil))))
                        simpa [armP] using k
            · rintro σ H1 ⟨us,a,b,c,rfl,s1,hu,hP⟩
              rw [<- hlen,List.take_of_length_le (Nat.le_refl _)] at hP
              have hul:=hP.len
              have hal:=wZ arms h9
              rw [List.length_cons,List.length_cons] at hul
              refine ⟨_,rfl,sN1,fun p1 h1=>?_⟩
              refine ⟨_,_,_,_,rfl,rfl,old h1 hu,za,by simp; lia,fun p2 h2=>?_⟩
              refine q _ _ _ ((s1.new h1).new h2) ((s1.new h1).free h2) za ?_
              have k:=(hP.keep (Tups.of ((zf h1 (.lst [.str "end"])).new (o:=.lst (us ++ [.str "end"])) h2))).app (IsPs.cons (.w "end") .nil)
              simpa using k
theorem Vd:FnScope ["body"] ["body"] (zj vX):=.ok
theorem XB (F:Fun K "written" "written" vX f fd) (G_deed_words:Ca P w K mg base CX0 1 "deed_words" ["deed"] Wo) (G_case_words:Ca P w K mg base CX0 1 "case_words" ["body"] Wp):FnOk P w K mg base CX0 2 f fd ["body"] Zd:=by
  refine F.by Vd (fun vs H Q E h=>?_) (fun cdv A outer s H vs Q E hr h=>?_)
  · obtain ⟨d,v,ws,rfl,_⟩:=h
    rfl
  obtain ⟨d,v,ws,rfl,hI,hW,q⟩:=h
  refine ⟨_,
    (zb (zx (tN zV (xT 0) zd)
      (ze (zo (zh zX (zh zX (zp (jA2 zd (xT 0))) (cA G_deed_words hr (jA1 (xT 0)))) (zp (jA1 (xT 0)))))) zq)
    (zb (zx (tN zV (xT 0) zd)
      (ze (zo (zp (jA5 zd (xT 0) (xT 0) zd (xT 0))))) zq)
    (zb (zx (tN zV (xT 0) zd)
      (ze (zo (cA G_case_words hr (jA1 (jv 0))))) zq)
    (ze (zo (zp (jA2 zd (xT 0)))))))),?_⟩
  have sl:=line
  cases hW with
  | @give x =>
    cases hI with
    | tup hp hl =>
      cases hl with
      | cons a1 hl =>
        cases hl with
        | cons a2 hl =>
          cases hl; cases a1; cases a2
          refine ⟨_,rfl,_,_,_,_,rfl,rfl,SqT.of hp,rfl,rfl,_,rfl,xV (by decide) ?_⟩
          refine ⟨_,rfl,_,_,_,_,rfl,rfl,SqT.of hp,rfl,rfl,_,rfl,xV (by decide) ?_⟩
          refine ⟨_,rfl,_,_,_,_,rfl,rfl,SqT.of hp,rfl,rfl,_,rfl,xV (by decide) ?_⟩
          exact ⟨_,rfl,_,_,_,_,rfl,rfl,SqT.of hp,rfl,sN2,fun p h1=>q _ _ [.w "give",.w x] _ (zf h1 _) h1 za (.cons (.w _) (.cons (.w _) .nil)) rfl (by show 2 < 2 * 2; decide)⟩
  | @lt x d b dw bw hd hb =>
    cases hI with
    | tup hp hl =>
      cases hl with
      | cons a1 hl =>
        cases hl with
        | cons a2 hl =>
          cases hl with
          | cons a3 hl =>
            cases hl with
            | @cons _ vb _ _ a4 hl =>
              cases hl; cases a1; cases a2
              refine ⟨_,rfl,_,_,_,_,rfl,rfl,SqT.of hp,rfl,rfl,_,rfl,iteS rfl ?_⟩
              refine ⟨_,rfl,_,_,_,_,rfl,rfl,SqT.of hp,rfl,sN2,fun p1 h1=>?_⟩
              refine ⟨_,rfl,_,_,_,_,rfl,rfl,SqT.of (old h1 hp),rfl,d,_,dw,rfl,a3.keep (.new h1),hd,fun H2 p2 s2 hp2=>?_⟩
              have few:dw.length<=12:=by cases hd <;> simp <;> lia
              refine ⟨_,_,_,_,rfl,rfl,s2 _ _ za,hp2,by simp; lia,fun p3 h3=>?_⟩
              have s3:=((zf h1 (.lst [.str "let",.str x])).trans s2).new (o:=.lst ([.str "let",.str x] ++ dw.map V.str)) h3
              refine ⟨_,rfl,_,_,_,_,rfl,rfl,SqT.of (s3 _ _ hp),rfl,sN1,fun p4 h4=>?_⟩
              refine ⟨_,_,_,_,rfl,rfl,old h4 za,za,by simp; lia,fun p5 h5=>?_⟩
              have sB:=(s3.new (o:=.lst [vb]) h4).new (o:=.lst ([.str "let",.str x] ++ dw.map V.str ++ [vb])) h5
              refine q _ _ (.w "let" :: .w x :: (dw.map Pd.w ++ [.b b bw])) _ sB ((s3.new (o:=.lst [vb]) h4).free h5) za ?_ ?_ ?_
              · have k:=IsPs.cons (.w "let") (.cons (.w x) ((IsPs.strs dw).app (.cons (.b (a4.keep (Tups.of sB)) hb) .nil)))
                simpa using k
              · rw [yx,yx,wD,jf,yx]
                simp [Pd.ws,wss]
              · rw [yy,yy,ZV,YB,yy]
                simp [Pd.wt,wts]
                lia
  | @if_ x a b aw bw ha hb =>
    cases hI with
    | tup hp hl =>
      cases hl with
      | cons a1 hl =>
        cases hl with
        | cons a2 hl =>
          cases hl with
          | cons a3 hl =>
            cases hl with
            | cons a4 hl =>
              cases hl; cases a1; cases a2
              refine ⟨_,rfl,_,_,_,_,rfl,rfl,SqT.of hp,rfl,rfl,_,rfl,xV (by decide) ?_⟩
              refine ⟨_,rfl,_,_,_,_,rfl,rfl,SqT.of hp,rfl,rfl,_,rfl,iteS rfl ?_⟩
              refine ⟨_,rfl,_,_,_,_,rfl,rfl,SqT.of hp,rfl,_,rfl,_,_,_,_,rfl,rfl,SqT.of hp,rfl,_,rfl,_,_,_,_,rfl,rfl,SqT.of hp,rfl,sN5,fun p1 h1=>?_⟩
              refine q _ _ [.w "if",.w x,.b a aw,.w "else",.b b bw] _ (zf h1 _) h1 za (.cons (.w _) (.cons (.w _) (.cons (.b (a3.keep (.new h1)) ha) (.cons (.w _) (.cons (.b (a4.keep (.new h1)) hb) .nil))))) ?_ ?_
              · simp [wss,Pd.ws]
              · simp [wts,Pd.wt]
                lia
  | @case x arms h20 h9 hW =>
    have hI0:=hI
    cases hI with
    | tup hp hl =>
      cases hl with
      | cons a1 hl =>
        cases hl with
        | cons a2 hl =>
        cases hl with
        | cons a3 hl =>
        cases hl; cases a1; cases a2
        refine ⟨_,rfl,_,_,_,_,rfl,rfl,SqT.of hp,rfl,rfl,_,rfl,xV (by decide) ?_⟩
        refine ⟨_,rfl,_,_,_,_,rfl,rfl,SqT.of hp,rfl,rfl,_,rfl,xV (by decide) ?_⟩
        refine ⟨_,rfl,_,_,_,_,rfl,rfl,SqT.of hp,rfl,rfl,_,rfl,iteS rfl ?_⟩
        refine ⟨_,rfl,x,arms,_,rfl,hI0,h20,h9,hW,fun H1 p1 us s1 f1 hp1 hP=>?_⟩
        refine q _ _ _ us s1 f1 hp1 hP ?_ ?_
        · rw [yx,yx,wD,YC]
          simp [wss,Pd.ws]
        · rw [yy,yy,ZV]
          have:=(XA (arms.flatMap armP)).2
          rw [YC] at this
          simp only [Pd.wt,wts,List.map_cons,List.map_nil,List.sum_cons,List.sum_nil,List.length_cons,List.length_append,List.length_nil] at this ⊢
          lia
theorem J9 {d:D} {ws:List Str} (h:Wr d ws):(∃ ds,d=.tup ds)/\1<=ws.length:=by
  cases h <;> exact ⟨⟨_,rfl⟩,by simp⟩
theorem IsPs.few {H:Hp} {a:List Pd} {u:List V} (h:IsPs H a u):a.length<=wts a:=by
  induction h with
  | nil=>exact Nat.zero_le _
  | cons x _ ih =>
    rw [yy,List.length_cons]
    cases x with
    | w z =>
      show _<=1 + _
      lia
    | b _ hw =>
      have:=(J9 hw).2
      show _<=2 * _ + _
      lia
theorem Qa:Wd "def":=yg (by decide)
theorem zbI:Wd "=":=yg (by decide)
def YD:Sp:=fun vs H Q _=>∃ (g:Str) (ns:List Str) (b:D) (ws:List Str) (v:V),vs=[v]/\Is H (.tup [.str g,Rd.«strs» ns,b]) v/\Wr b ws/\ns.length<=9/\ws.length<=2000/\Wd g/\(∀ x∈ns,Wd x)/\(∀ x∈ws,Wd x) /\
  ∀ H',Same H H'->Q (.str (tx (("def":Str) :: g :: (ns ++ ("=":Str) :: ws)))) H'
theorem scDefRow:FnScope ["one","words","left","piece","part"] ["one"] (zj ZN):=.ok
theorem Ve (F:Fun K "def_row" "def_row" ZN f fd) (G_written:Ca P w K mg base CX0 2 "written" ["body"] Zd) (m_list:mg "list"=none) (m_len:mg "len"=none) (m_isinstance:mg "isinstance"=none) (m_str:mg "str"=none) (m_reversed:mg "reversed"=none):FnOk P w K mg base CX0 3 f fd ["one"] YD:=by
  refine F.by scDefRow (fun vs H Q E h=>?_) (fun cdv A outer s H vs Q E hr h=>?_)
  · obtain ⟨g,ns,b,ws,v,rfl,_⟩:=h
    rfl
  obtain ⟨g,ns,b,ws,v,rfl,hI,hW,h9,h2k,hg,hns,hws,q⟩:=h
  refine ⟨_,
    (zb (sE 1 scDefRow.nd (zh zX (zh zX (zp (jA2 zd (xT 0))) (zU yQ rfl m_list PyProof.Rows.boot_list (jA1 (xT 0)))) (zp (jA1 zd))))
    (zb (sE 2 scDefRow.nd (zp (jA1 (xT 0))))
    (zb (xo PassesOwn.never (tN X4 (jL m_len (jv 2)) zc)
      (zb (sE 3 scDefRow.nd (x5 PySem.F.plainAttrs_list PySem.F.slot_list_pop PySem.F.type_list_pop x8 (jv 2)))
      (ze (zx (ym (z4 yW rfl m_isinstance PyProof.Rows.boot_isinstance (jA2 (jv 3) (xF (v:=.ty "str") rfl m_str PyProof.Rows.boot_str rfl))))
        (ze (zv (zy PySem.F.plainAttrs_list PySem.F.slot_list_append PySem.F.type_list_append zA (jv 1) (jA1 (jv 3)))))
        (ze (yO PassesOwn.never rfl (zc0 rfl m_reversed (jA1 (cA G_written hr (jA1 (jv 3))))) (gN 4 scDefRow.nd)
          (ze (zv (zy PySem.F.plainAttrs_list PySem.F.slot_list_append PySem.F.type_list_append zA (jv 2) (jA1 (jv 4)))))))))))
    (ze (zo (zy PySem.F.plainAttrs_str PySem.F.slot_str_join PySem.F.type_str_join zO zd (jA1 (jv 1)))))))),?_⟩
  have sl:=line
  cases hI with
  | tup hp hl =>
    cases hl with
    | cons a1 hl =>
      cases hl with
      | cons a2 hl =>
        cases hl with
        | @cons _ vb _ _ a3 hl =>
          cases hl; cases a1
          unfold Rd.«strs» at a2
          cases a2 with
          | tup hn hs =>
            have e:=IsL.strsE hs
            subst e
            refine ⟨_,rfl,_,_,_,_,rfl,rfl,SqT.of hp,rfl,sN2,fun p1 h1=>?_⟩
            refine ⟨_,rfl,_,_,_,_,rfl,rfl,SqT.of (old h1 hp),rfl,_,_,rfl,.inr (SqT.of (old h1 hn)),fun p2 h2=>?_⟩
            refine ⟨_,_,_,_,rfl,rfl,old h2 za,za,by simp; lia,fun p3 h3=>?_⟩
            refine ⟨sN1,fun p4 h4=>?_⟩
            refine ⟨_,_,_,_,rfl,rfl,old h4 za,za,by simp; lia,fun pw h5=>?_⟩
            have s4:=(((zf h1 (.lst [.str "def",.str g])).new (o:=.lst (ns.map V.str)) h2).new (o:=.lst ([.str "def",.str g] ++ ns.map V.str)) h3).new (o:=.lst [.str "="]) h4
            have s5:=s4.new (o:=.lst ([.str "def",.str g] ++ ns.map V.str ++ [.str "="])) h5
            have npw:H pw=none:=s4.free h5
            have hpw:upd (upd (upd (upd (upd H p1 (.lst [.str "def",.str g])) p2 (.lst (ns.map V.str))) p3 (.lst ([.str "def",.str g] ++ ns.map V.str))) p4 (.lst [.str "="])) pw (.lst ([.str "def",.str g] ++ ns.map V.str ++ [.str "="])) pw=some (.lst ((("def":Str) :: g :: (ns ++ [("=":Str)])).map V.str)):=by rw [za]; simp
            generalize upd (upd (upd (upd (upd H p1 (.lst [.str "def",.str g])) p2 (.lst (ns.map V.str))) p3 (.lst ([.str "def",.str g] ++ ns.map V.str))) p4 (.lst [.str "="])) pw (.lst ([.str "def",.str g] ++ ns.map V.str ++ [.str "="]))=H5 at s5 hpw ⊢
            refine ⟨_,rfl,_,_,_,_,rfl,rfl,SqT.of (s5 _ _ hp),rfl,sN1,fun pl h6=>?_⟩
            have npl:H pl=none:=s5.free h6
            have nwl:pw≠pl:=zi hpw h6
            have hpw6:=old (o:=.lst [vb]) h6 hpw
            refine ⟨fun m σ H'=>∃ (its:List Pd) (us:List V) (ds:List Str) (a c:Option V),m=wts its/\σ=[some (.ref _),some (.ref pw),some (.ref pl),a,c]/\Same H H'/\H' pw=some (.lst (ds.map V.str))/\H' pl=some (.lst us.reverse)/\IsPs H' its us/\ds ++ wss its=("def":Str) :: g :: (ns ++ ("=":Str) :: ws),
              ⟨_,[.b b ws],_,_,none,none,rfl,rfl,s5.new h6,hpw6,za,.cons (.b ((a3.keep (Tups.of s5)).keep (.new h6)) hW) .nil,by simp [wss,Pd.ws]⟩,?_⟩
            rintro m σ H7 ⟨its,us,ds,a,c,rfl,rfl,s7,hw7,hl7,hP,he⟩
            have hlen:=congrArg List.length he
            simp only [List.length_append,List.length_cons] at hlen
            have hwt:=(XA its).2
            have hfew:=hP.few
            have hul:=hP.len
            refine ⟨_,rfl,_,_,rfl,.inl (SqL.of hl7),_,_,rfl,rfl,_,rfl,?_⟩
            cases hP with
            | nil =>
              refine xW (by simp) ?_
              refine ⟨rfl,_,rfl,_,_,ds,rfl,rfl,SqL.of hw7,?_,?_⟩
              · have e:ds=("def":Str) :: g :: (ns ++ ("=":Str) :: ws):=by simpa [wss] using he
                have hwd:∀ x∈ds,Wd x:=fun x hx=>by
                  rw [e] at hx
                  simp only [List.mem_cons,List.mem_append] at hx
                  rcases hx with z | z | z | z | z
                  · rw [z]; exact Qa
                  · rw [z]; exact hg
                  · exact hns x z
                  · rw [z]; exact zbI
                  · exact hws x z
                have:=yH hwd
                show wide SP ds<=sizeLine
                lia
              · have e:ds=("def":Str) :: g :: (ns ++ ("=":Str) :: ws):=by simpa [wss] using he
                have r:=q _ s7
                rw [<- e] at r
                exact r
            | @cons pd v0 its us hp0 hP =>
              rw [List.reverse_cons] at hl7 ⊢
              refine iteD (by simp) ⟨_,fun _ _ h=>h,?_⟩
              rw [yy] at hfew hwt
              rw [yx] at he hlen hwt
              rw [List.length_cons] at hul hfew
              have hub:us.length<=5000:=by
                rw [List.length_cons] at hul
                lia
              refine ⟨_,rfl,.inl ⟨rfl,_,SqL.of hl7⟩,_,_,_,rfl,rfl,hl7,by simp; rfl,?_⟩
              rw [show (us.reverse ++ [v0]).dropLast=us.reverse by simp]
              have s8:Same H (upd H7 pl (.lst us.reverse)):=s7.put npl
              have t8:Tups H7 (upd H7 pl (.lst us.reverse)):=fun z xs hz=>by rw [zg (zY hz hl7 (by intro z; cases z))]; exact hz
              have hw8:upd H7 pl (.lst us.reverse) pw=some (.lst (ds.map V.str)):=by rw [zg nwl]; exact hw7
              have hl8:upd H7 pl (.lst us.reverse) pl=some (.lst us.reverse):=za
              have hp8:=hp0.keep t8
              have hP8:=hP.keep t8
              generalize upd H7 pl (.lst us.reverse)=H8 at *
              cases hp8 with
              | w x =>
                refine ⟨_,rfl,_,_,_,_,rfl,.str _,rfl,_,rfl,iteT ?_⟩
                refine ⟨_,rfl,.inl ⟨rfl,_,SqL.of hw8⟩,_,rfl,_,_,_,rfl,rfl,hw8,by rw [List.length_map]; lia,?_⟩
                refine ⟨_,?_,its,us,ds ++ [x],_,_,rfl,rfl,s8.put npw,?_,?_,?_,?_⟩
                · rw [yy]
                  show _ < 1 + _
                  lia
                · rw [za]
                  simp
                · rw [zg nwl.symm]
                  exact hl8
                · exact hP8.keep fun z xs hz=>by rw [zg (zY hz hw8 (by intro z; cases z))]; exact hz
                · rw [<- he]
                  show ds ++ [x] ++ wss its=ds ++ ([x] ++ wss its)
                  rw [List.append_assoc]
              | @b d bw v0 hd hw =>
                obtain ⟨⟨dd,rfl⟩,_⟩:=J9 hw
                have hd0:=hd
                cases hd with
                | @tup _ vs0 p0 hpp0 hl0 =>
                  refine ⟨_,rfl,_,_,_,_,rfl,.tup hpp0,rfl,_,rfl,iteF ?_⟩
                  refine ⟨_,rfl,_,_,bw,rfl,hd0,hw,fun H9 p9 its9 us9 s9 f9 hp9 hP9 e9 lt9=>?_⟩
                  have hl9:=s9 _ _ hl8
                  have hw9:=s9 _ _ hw8
                  have n9:p9≠pl:=fun z=>by rw [z] at f9; rw [f9] at hl8; cases hl8
                  have hu9:=hP9.len
                  have hf9:=hP9.few
                  have hb2:bw.length<=2100:=by
                    have h:=hlen
                    simp only [Pd.ws,List.length_append] at h
                    lia
                  refine ⟨_,_,rfl,SqL.of hp9,zaX (xs:=us9) (fun i σ H'=>∃ (c:Option V),σ=[some (.ref _),some (.ref pw),some (.ref pl),some (.ref p0),c]/\KpS (·=pl) H9 H'/\H' pl=some (.lst (us.reverse ++ us9.reverse.take i)))
                    ⟨_,rfl,.refl,by rw [hl9]; simp⟩ (fun i σ H' _ h=>?_) ?_ ?_⟩
                  · obtain ⟨c,_,k,_⟩:=h
                    exact SqL.of (k _ _ n9 hp9)
                  · rintro i x σ H' hx ⟨c,rfl,k,hl'⟩
                    have hi:i < us9.length:=by
                      have:=(List.getElem?_eq_some_iff.mp hx).1
                      rwa [List.length_reverse] at this
                    refine ⟨_,rfl,.inl ⟨rfl,_,SqL.of hl'⟩,_,rfl,_,_,_,rfl,rfl,hl',?_,?_⟩
                    · rw [List.length_append,List.length_reverse,List.length_take,List.length_reverse]
                      lia
                    · refine ⟨_,rfl,k.trans (.put rfl),?_⟩
                      rw [za,List.take_add_one,hx,List.append_assoc]
                      rfl
                  · rintro σ H' ⟨c,rfl,k,hl'⟩
                    rw [List.take_of_length_le (by rw [List.length_reverse]; exact Nat.le_refl _),<- List.reverse_append] at hl'
                    have tk:Tups H9 H':=k.tups fun z ez xs=>by rw [ez,hl9]; intro z; cases z
                    refine ⟨_,?_,its9 ++ its,us9 ++ us,ds,_,_,rfl,rfl,?_,k _ _ nwl hw9,hl',?_,?_⟩
                    · rw [ZV,yy]
                      show _ < 2 * bw.length + _
                      lia
                    · intro z o hz
                      refine k _ _ (fun ez=>?_) (s9 _ _ (s8 _ _ hz))
                      rw [ez,npl] at hz
                      cases hz
                    · exact (hP9.keep tk).app ((hP8.keep (Tups.of s9)).keep tk)
                    · rw [wD,e9,<- he]
                      rfl
def xA (l:List (Str × Int)):List Str:="kind" :: l.flatMap fun p=>[p.1,Str.ofString (toString p.2)]
def KRow (k:D) (ws:List Str):Prop:=∃ l:List (Str × Int),k=.tup (l.map fun p=>.tup [.str p.1,.int p.2])/\ws=xA l/\l.length<=200/\∀ p∈l,Wd p.1/\0<=p.2/\p.2<=9
def DRow (d:D) (ws:List Str):Prop:=∃ (g:Str) (ns:List Str) (b:D) (bw:List Str),d=.tup [.str g,Rd.«strs» ns,b]/\ws=("def":Str) :: g :: (ns ++ ("=":Str) :: bw)/\Wr b bw/\ns.length<=9/\bw.length<=2000/\Wd g/\(∀ x∈ns,Wd x)/\∀ x∈bw,Wd x
theorem Qb {n:Int} (h0:0<=n) (h9:n<=9):Wd (Str.ofString (toString n)):=Za (yU (n:=n) (by lia)).1
theorem KRow.wds {k:D} {ws:List Str} (h:KRow k ws):(∀ x∈ws,Wd x)/\ws.length<=2100:=by
  obtain ⟨l,_,rfl,hl,hw⟩:=h
  unfold xA
  refine ⟨fun x hx=>?_,?_⟩
  · simp only [List.mem_cons,List.mem_flatMap,List.not_mem_nil,or_false] at hx
    rcases hx with e | ⟨p,hp,e | e⟩
    · rw [e]; exact yg (by decide)
    · rw [e]; exact (hw p hp).1
    · rw [e]; exact Qb (hw p hp).2.1 (hw p hp).2.2
  · have:∀ m:List (Str × Int),(m.flatMap fun p=>[p.1,Str.ofString (toString p.2)]).length=2 * m.length:=fun m=>by
      induction m with
      | nil=>rfl
      | cons a m ih=>rw [List.flatMap_cons,List.length_append,ih,List.length_cons]; simp; lia
    rw [List.length_cons,this]
    lia
theorem DRow.wds {k:D} {ws:List Str} (h:DRow k ws):(∀ x∈ws,Wd x)/\ws.length<=2100:=by
  obtain ⟨g,ns,b,bw,_,rfl,_,h9,h2,hg,hn,hb⟩:=h
  refine ⟨fun x hx=>?_,by simp only [List.length_cons,List.length_append]; lia⟩
  simp only [List.mem_cons,List.mem_append] at hx
  rcases hx with z | z | z | z | z
  · rw [z]; exact Qa
  · rw [z]; exact hg
  · exact hn x z
  · rw [z]; exact zbI
  · exact hb x z
theorem xO:∀ rows:List (List Str),(∀ ws∈rows,(∀ x∈ws,Wd x)/\ws.length<=2100)->wide NL (rows.map tx)<=69301 * rows.length
  | [],_=>by decide
  | ws :: r,h=>by
    have ih:=xO r fun x hx=>h x (List.mem_cons_of_mem _ hx)
    obtain ⟨h1,h2⟩:=h ws List.mem_cons_self
    have tl:=xf h1
    have s1:NL.length=1:=by decide
    unfold wide at ih ⊢
    rw [List.map_cons,List.map_cons,List.sum_cons,List.length_cons,List.length_cons,s1]
    rw [s1] at ih
    lia
def Each (R:D->List Str->Prop):List D->List (List Str)->Prop
  | [],[]=>True
  | d :: ds,w :: ws=>R d w/\Each R ds ws
  | _,_=>False
theorem Each.len {R:D->List Str->Prop}:∀ {ds:List D} {ws:List (List Str)},Each R ds ws->ds.length=ws.length
  | [],[],_=>rfl
  | d :: ds,w :: ws,h=>by rw [List.length_cons,List.length_cons,Each.len h.2]
  | [],_ :: _,h=>h.elim
  | _ :: _,[],h=>h.elim
theorem Each.get {R:D->List Str->Prop}:∀ {ds:List D} {ws:List (List Str)} {i:Nat} {d:D},Each R ds ws->ds[i]?=some d->∃ w,ws[i]?=some w/\R d w
  | [],_,_,_,_,e=>by simp at e
  | d :: ds,w :: ws,0,_,h,e=>by
    simp at e
    subst e
    exact ⟨w,rfl,h.1⟩
  | d :: ds,w :: ws,i + 1,d',h,e=>by
    obtain ⟨w',h1,h2⟩:=Each.get (i:=i) h.2 (by simpa using e)
    exact ⟨w',by simpa using h1,h2⟩
  | _ :: _,[],_,_,h,_=>h.elim
theorem Each.all {R:D->List Str->Prop}:∀ {ds:List D} {ws:List (List Str)},Each R ds ws->∀ w∈ws,∃ d∈ds,R d w
  | [],[],_,w,hw=>by cases hw
  | d :: ds,w :: ws,h,x,hx=>by
    rcases List.mem_cons.mp hx with e | hx
    · rw [e]; exact ⟨d,List.mem_cons_self,h.1⟩
    · obtain ⟨d',h1,h2⟩:=Each.all h.2 x hx
      exact ⟨d',List.mem_cons_of_mem _ h1,h2⟩
  | [],_ :: _,h,_,_=>h.elim
  | _ :: _,[],h,_,_=>h.elim
def Ze:Sp:=fun vs H Q _=>∃ (k:D) (ws:List Str) (v:V),vs=[v]/\Is H k v/\KRow k ws/\∀ H',Same H H'->Q (.str (tx ws)) H'
def Wq:Sp:=fun vs H Q _=>∃ (ks ds:List D) (kws dws:List (List Str)) (v:V),vs=[v]/\Is H (.tup [.tup ks,.tup ds]) v/\Each KRow ks kws/\Each DRow ds dws/\ks.length + ds.length<=200/\∀ H',Same H H'->Q (.str (Str.join NL ((kws ++ dws).map tx))) H'
theorem scKindRow:FnScope ["kind","words","tag","size"] ["kind"] (zj vW):=.ok
theorem XC (F:Fun K "kind_row" "kind_row" vW f fd) (m_str:mg "str"=none):FnOk P w K mg base CX0 1 f fd ["kind"] Ze:=by
  refine F.by scKindRow (fun vs H Q E h=>?_) (fun cdv A outer s H vs Q E hr h=>?_)
  · obtain ⟨k,ws,v,rfl,_⟩:=h
    rfl
  obtain ⟨k,ws,v,rfl,hI,hK,q⟩:=h
  refine ⟨_,
    (zb (sE 1 scKindRow.nd (zp (jA1 zd)))
    (zb (yO PassesOwn.never rfl (ZD (jv 0)) (yB rfl (zw (gN 2 scKindRow.nd) (zw (gN 3 scKindRow.nd) yi)))
      (ze (zv (zy PySem.F.plainAttrs_list PySem.F.slot_list_extend PySem.F.type_list_extend wM (jv 1) (jA1 (zp (jA2 (jv 2) (zU y7 rfl m_str PyProof.Rows.boot_str (jA1 (jv 3))))))))))
    (ze (zo (zy PySem.F.plainAttrs_str PySem.F.slot_str_join PySem.F.type_str_join zO zd (jA1 (jv 1))))))),?_⟩
  have sl:=line
  have hwd:=hK.wds
  obtain ⟨l,rfl,rfl,hl,hw⟩:=hK
  cases hI with
  | @tup _ vs0 p0 hp hs =>
    have hlen:=hs.len
    rw [List.length_map] at hlen
    refine ⟨sN1,fun pw h1=>?_⟩
    refine ⟨_,rfl,_,rfl,⟨_,SqT.of (old h1 hp)⟩,XM (xs:=vs0) (fun i σ H'=>∃ (a b:Option V),σ=[some (.ref p0),some (.ref pw),a,b]/\Same H H'/\H' pw=some (.lst ((xA (l.take i)).map V.str)))
      ⟨none,none,rfl,zf h1 _,za⟩ (fun i σ H' _ h=>?_) ?_ ?_⟩
    · obtain ⟨_,_,_,s1,_⟩:=h
      exact SqT.of (s1 _ _ hp)
    · rintro i y σ H1 hy ⟨a,b,rfl,s1,hu⟩
      obtain ⟨d,hd,hId⟩:=hs.get hy
      rw [List.getElem?_map] at hd
      obtain ⟨pr,hpr,e⟩:=Option.map_eq_some_iff.mp hd
      subst e
      have hmem:pr∈l:=List.mem_of_getElem? hpr
      have hi:i < l.length:=(List.getElem?_eq_some_iff.mp hpr).1
      have hId1:=hId.keep (Tups.of s1)
      have k1:(xA (l.take i)).length<=401:=by
        have:∀ m:List (Str × Int),(m.flatMap fun p=>[p.1,Str.ofString (toString p.2)]).length=2 * m.length:=fun m=>by
          induction m with
          | nil=>rfl
          | cons a m ih=>rw [List.flatMap_cons,List.length_append,ih,List.length_cons]; simp; lia
        unfold xA
        rw [List.length_cons,this,List.length_take]
        lia
      cases hId1 with
      | tup hp1 hl1 =>
        cases hl1 with
        | cons b1 hl1 =>
          cases hl1 with
          | cons b2 hl1 =>
            cases hl1; cases b1; cases b2
            have hb:=hw pr hmem
            refine ⟨_,_,rfl,SqT.of hp1,rfl,_,_,rfl,_,_,rfl,rfl,?_⟩
            refine ⟨_,rfl,.inl ⟨rfl,_,SqL.of hu⟩,_,rfl,_,rfl,_,rfl,ZR (by lia),sN2,fun p1 h2=>?_⟩
            refine ⟨_,_,_,_,rfl,rfl,old h2 hu,za,by simp; lia,?_⟩
            refine ⟨_,_,rfl,(s1.new h2).put h1,?_⟩
            rw [za,List.take_add_one,hpr]
            simp [xA]
    · rintro σ H1 ⟨a,b,rfl,s1,hu⟩
      rw [<- hlen,List.take_of_length_le (Nat.le_refl _)] at hu
      refine ⟨rfl,_,rfl,_,_,xA l,rfl,rfl,SqL.of hu,?_,q _ s1⟩
      have:=yH hwd.1
      show wide SP (xA l)<=sizeLine
      lia
theorem scShown:FnScope ["program","rows"] ["program"] (zj Xn):=.ok
theorem zdu:(["program","rows","kind"]:List Str).Nodup:=by decide +kernel
theorem zdv:(["program","rows","one"]:List Str).Nodup:=by decide +kernel
theorem Qc (F:Fun K "shown" "shown" Xn f fd) (G_kind_row:Ca P w K mg base CX0 3 "kind_row" ["kind"] Ze) (G_def_row:Ca P w K mg base CX0 3 "def_row" ["one"] YD):FnOk P w K mg base CX0 4 f fd ["program"] Wq:=by
  refine F.by scShown (fun vs H Q E h=>?_) (fun cdv A outer s H vs Q E hr h=>?_)
  · obtain ⟨ks,ds,kws,dws,v,rfl,_⟩:=h
    rfl
  obtain ⟨ks,ds,kws,dws,v,rfl,hI,hK,hD,hn,q⟩:=h
  refine ⟨_,
    (zb (sE 1 scShown.nd (zh zX (wn ["kind"] rfl (ZD (xT 0)) (fun _ _ _ _ _=>(gN 2 zdu)) (fun _ _ _ _ _=>wm) (fun _ _ _ _ _=>(cA G_kind_row hr (jA1 (jv 2))))) (wn ["one"] rfl (ZD (xT 0)) (fun _ _ _ _ _=>(gN 2 zdv)) (fun _ _ _ _ _=>wm) (fun _ _ _ _ _=>(cA G_def_row hr (jA1 (jv 2)))))))
    (ze (zo (zy PySem.F.plainAttrs_str PySem.F.slot_str_join PySem.F.type_str_join zO zd (jA1 (jv 1)))))),?_⟩
  have sl:=line
  cases hI with
  | @tup _ vs0 p0 hp hs =>
    cases hs with
    | cons a1 hs =>
      cases hs with
      | cons a2 hs =>
        cases hs
        cases a1 with
        | @tup _ kv pk hpk hks =>
          cases a2 with
          | @tup _ dv pd hpd hds =>
            have kl:=hks.len
            have dl:=hds.len
            have kl2:=hK.len
            have dl2:=hD.len
            refine ⟨_,rfl,_,_,_,_,rfl,rfl,SqT.of hp,rfl,_,rfl,⟨_,SqT.of hpk⟩,J6 (xs:=kv) (fun i τ ys H'=>Same H H'/\(∃ x,τ=[some (.ref p0),none,x])/\ys=(kws.take i).map fun ws=>V.str (tx ws)) ⟨Same.refl _,⟨none,rfl⟩,rfl⟩ (fun i τ ys H' _ h=>SqT.of (h.1 _ _ hpk)) ?_ ?_⟩
            · rintro i x τ ys H1 hx ⟨s1,⟨y,rfl⟩,rfl⟩
              obtain ⟨d,hd,hId⟩:=hks.get hx
              obtain ⟨ws,hws,hR⟩:=hK.get hd
              have hi:i < kws.length:=(List.getElem?_eq_some_iff.mp hws).1
              refine ⟨_,rfl,d,ws,x,rfl,hId.keep (Tups.of s1),hR,fun H2 s2=>⟨?_,s1.trans s2,⟨_,rfl⟩,?_⟩⟩
              · rw [List.length_map,List.length_take]
                lia
              · exact (v5 (fun ws=>V.str (tx ws)) hws)
            · rintro τ ys H1 ⟨s1,_,rfl⟩ p1 h1
              rw [<- kl,kl2,List.take_of_length_le (Nat.le_refl _)]
              have s1':=s1.new (o:=.lst (kws.map fun ws=>V.str (tx ws))) h1
              have hp1:upd H1 p1 (.lst (kws.map fun ws=>V.str (tx ws))) p1=_:=za
              generalize upd H1 p1 (.lst (kws.map fun ws=>V.str (tx ws)))=H2 at *
              refine ⟨_,rfl,_,_,_,_,rfl,rfl,SqT.of (s1' _ _ hp),rfl,_,rfl,⟨_,SqT.of (s1' _ _ hpd)⟩,J6 (xs:=dv) (fun i τ ys H'=>Same H2 H'/\(∃ x,τ=[some (.ref p0),none,x])/\ys=(dws.take i).map fun ws=>V.str (tx ws)) ⟨Same.refl _,⟨none,rfl⟩,rfl⟩ (fun i τ ys H' _ h=>SqT.of (h.1 _ _ (s1' _ _ hpd))) ?_ ?_⟩
              · rintro i x τ ys H3 hx ⟨s3,⟨y,rfl⟩,rfl⟩
                obtain ⟨d,hd,hId⟩:=hds.get hx
                obtain ⟨ws,hws,hR⟩:=hD.get hd
                have hi:i < dws.length:=(List.getElem?_eq_some_iff.mp hws).1
                obtain ⟨g,ns,b,bw,rfl,rfl,hW,h9,h2,hg,hns,hbw⟩:=hR
                refine ⟨_,rfl,g,ns,b,bw,x,rfl,hId.keep (Tups.of (s1'.trans s3)),hW,h9,h2,hg,hns,hbw,fun H4 s4=>⟨?_,s3.trans s4,⟨_,rfl⟩,?_⟩⟩
                · rw [List.length_map,List.length_take]
                  lia
                · exact (v5 (fun ws=>V.str (tx ws)) hws)
              · rintro τ ys H3 ⟨s3,_,rfl⟩ p2 h2
                rw [<- dl,dl2,List.take_of_length_le (Nat.le_refl _)]
                refine ⟨_,_,_,_,rfl,rfl,old h2 (s3 _ _ hp1),za,by simp; lia,fun p3 h3=>?_⟩
                refine ⟨rfl,_,rfl,_,_,(kws ++ dws).map tx,rfl,rfl,SqL.of ?_,?_,q _ (((s1'.trans s3).new h2).new h3)⟩
                · rw [za,List.map_map,List.map_append]
                  rfl
                · have:=xO (kws ++ dws) fun ws hws=>by
                    rcases List.mem_append.mp hws with z | z
                    · obtain ⟨d,_,h⟩:=hK.all ws z
                      exact h.wds
                    · obtain ⟨d,_,h⟩:=hD.all ws z
                      exact h.wds
                  rw [List.length_append] at this
                  show wide NL _<=sizeLine
                  lia
end
theorem za0 {n:Int} (h0:0<=n) (h9:n<=9):yf (Str.ofString (toString n))=true/\yt (Str.ofString (toString n))=n:=by
  refine ⟨?_,(yU (n:=n) (by lia)).2⟩
  have:n=0\/n=1\/n=2\/n=3\/n=4\/n=5\/n=6\/n=7\/n=8\/n=9:=by lia
  rcases this with e | e | e | e | e | e | e | e | e | e <;> rw [e] <;> decide +kernel
def xB (p:Str × Int):D:=.tup [.str p.1,.int p.2]
def yk (p:Str × Int):List Str:=[p.1,Str.ofString (toString p.2)]
structure PairG (p:Str × Int):Prop where
  nm:zk p.1=true
  lo:0<=p.2
  hi:p.2<=9
theorem Ws {p:Str × Int} (h:PairG p) (r:List Str):yC (yk p ++ r)=some (xB p,r):=by
  obtain ⟨h1,h2⟩:=za0 h.lo h.hi
  unfold yC yk
  show (zn LX (p.1 :: Str.ofString (toString p.2) :: r)).bind _=_
  rw [z9 (L:=LX) h.nm]
  show (xc (Str.ofString (toString p.2) :: r)).map _=_
  unfold xc
  dsimp only
  rw [if_pos h1,h2]
  rfl
theorem YE:∀ (l:List (Str × Int)) (acc:List D) (n:Nat),(∀ p∈l,PairG p)->l.length<=n->yK n acc (l.flatMap yk)=some (acc ++ l.map xB)
  | [],acc,n,_,_=>by
    cases n with
    | zero =>
      unfold yK
      simp
    | succ n =>
      unfold yK
      simp
  | p :: l,acc,0,_,h=>by simp at h
  | p :: l,acc,n + 1,hg,h=>by
    have ih:=YE l (acc ++ [xB p]) n (fun q hq=>hg q (List.mem_cons_of_mem _ hq)) (by simpa using h)
    unfold yK
    rw [List.flatMap_cons,Ws (hg p List.mem_cons_self)]
    rw [if_neg (by simp [yk])]
    show yK n (acc ++ [xB p]) (l.flatMap yk)=_
    rw [ih,List.map_cons,List.append_assoc]
    rfl
theorem za1 {p:Str × Int} {l:List (Str × Int)} (hg:∀ q∈p :: l,PairG q):yV ((p :: l).flatMap yk)=some ((p :: l).map xB):=by
  unfold yV
  rw [List.flatMap_cons,Ws (hg p List.mem_cons_self)]
  show yK (l.flatMap yk).length [xB p] (l.flatMap yk)=_
  rw [YE l [xB p] _ (fun q hq=>hg q (List.mem_cons_of_mem _ hq))]
  · rfl
  · have:∀ m:List (Str × Int),m.length<=(m.flatMap yk).length:=fun m=>by
      induction m with
      | nil=>exact Nat.le_refl _
      | cons a m ih =>
        rw [List.flatMap_cons,List.length_append,List.length_cons]
        have:(yk a).length=2:=rfl
        lia
    exact this l
def KGood (k:D) (ws:List Str):Prop:=∃ (p:Str × Int) (l:List (Str × Int)),k=.tup ((p :: l).map xB)/\ws=("kind":Str) :: (p :: l).flatMap yk/\(∀ q∈p :: l,PairG q)/\l.length<=99
def DGood (d:D) (ws:List Str):Prop:=∃ (g:Str) (ns:List Str) (b:D) (bw:List Str),d=.tup [.str g,Rd.«strs» ns,b]/\ws=("def":Str) :: g :: (ns ++ ("=":Str) :: bw)/\zk g=true/\(∀ x∈ns,zk x=true)/\ns.length<=9/\Good b bw/\bw.length<=400
theorem KGood.row {k:D} {ws:List Str} (h:KGood k ws):KRow k ws:=by
  obtain ⟨p,l,rfl,rfl,hg,hl⟩:=h
  exact ⟨p :: l,rfl,rfl,by rw [List.length_cons]; lia,fun q hq=>⟨(zF (hg q hq).nm).1,(hg q hq).lo,(hg q hq).hi⟩⟩
theorem DGood.row {k:D} {ws:List Str} (h:DGood k ws):DRow k ws:=by
  obtain ⟨g,ns,b,bw,rfl,rfl,hg,hn,h9,hG,hb⟩:=h
  exact ⟨g,ns,b,bw,rfl,rfl,hG.wr,h9,by lia,(zF hg).1,fun x hx=>(zF (hn x hx)).1,hG.word⟩
theorem Each.imp {R S:D->List Str->Prop} (h:∀ d w,R d w->S d w):∀ {ds:List D} {ws:List (List Str)},Each R ds ws->Each S ds ws
  | [],[],_=>True.intro
  | d :: ds,w :: ws,e=>⟨h d w e.1,Each.imp h e.2⟩
  | [],_ :: _,e=>e.elim
  | _ :: _,[],e=>e.elim
theorem Each.snoc {R:D->List Str->Prop} {d:D} {w:List Str} (h:R d w):∀ {ds:List D} {ws:List (List Str)},Each R ds ws->Each R (ds ++ [d]) (ws ++ [w])
  | [],[],_=>⟨h,True.intro⟩
  | d :: ds,w :: ws,e=>⟨e.1,Each.snoc h e.2⟩
  | [],_ :: _,e=>e.elim
  | _ :: _,[],e=>e.elim
theorem Zf:∀ {ds:List D} {dws:List (List Str)} (i:Nat) (ks ds0:List D),Each DGood ds dws->RowsR i ks ds0 dws (.ok (ks,ds0 ++ ds))
  | [],[],i,ks,ds0,_=>by
    rw [List.append_nil]
    exact .nil
  | d :: ds,w :: ws,i,ks,ds0,e=>by
    have r:=Zf (i + 1) ks (ds0 ++ [d]) e.2
    rw [List.append_assoc] at r
    refine .row (ks':=ks) (ds':=ds0 ++ [d]) ?_ r
    obtain ⟨g,ns,b,bw,rfl,rfl,hg,hn,h9,hG,hb⟩:=e.1
    unfold rowR
    dsimp only
    rw [if_pos rfl]
    exact ⟨_,JZ hg hn h9 hG,rfl⟩
  | [],_ :: _,_,_,_,e=>e.elim
  | _ :: _,[],_,_,_,e=>e.elim
theorem wc:∀ {ks:List D} {kws:List (List Str)} (i:Nat) (ks0:List D) (rest:List (List Str)) (o:Except Nat (List D × List D)),Each KGood ks kws->RowsR (i + kws.length) (ks0 ++ ks) [] rest o->RowsR i ks0 [] (kws ++ rest) o
  | [],[],i,ks0,rest,o,_,r=>by
    rw [List.append_nil] at r
    exact r
  | k :: ks,w :: ws,i,ks0,rest,o,e,r=>by
    have r1:=wc (i + 1) (ks0 ++ [k]) rest o e.2 (by
      rw [List.append_assoc,show i + 1 + ws.length=i + (w :: ws).length by rw [List.length_cons]; lia]
      exact r)
    refine .row (ks':=ks0 ++ [k]) (ds':=[]) ?_ r1
    obtain ⟨p,l,rfl,rfl,hg,hl⟩:=e.1
    unfold rowR
    dsimp only
    rw [if_neg (by decide),if_pos ⟨rfl,rfl⟩,za1 hg]
    rfl
  | [],_ :: _,_,_,_,_,e,_=>e.elim
  | _ :: _,[],_,_,_,_,e,_=>e.elim
theorem Qd {ks ds:List D} {kws dws:List (List Str)} (hk:Each KGood ks kws) (hd:Each DGood ds dws):RowsR 0 [] [] (kws ++ dws) (.ok (ks,ds)):=by
  refine wc 0 [] dws _ hk ?_
  exact Zf _ _ [] hd
theorem KGood.ne {k:D} {ws:List Str} (h:KGood k ws):∃ x r,ws=x :: r/\x≠("":Str):=by
  obtain ⟨p,l,rfl,rfl,hg,hl⟩:=h
  exact ⟨_,_,rfl,by decide⟩
theorem DGood.ne {k:D} {ws:List Str} (h:DGood k ws):∃ x r,ws=x :: r/\x≠("":Str):=by
  obtain ⟨g,ns,b,bw,rfl,rfl,_⟩:=h
  exact ⟨_,_,rfl,by decide⟩
structure RowW (ws:List Str):Prop where
  wd:∀ x∈ws,Wd x
  ne:∃ x r,ws=x :: r/\x≠("":Str)
  few:ws.length<=2000
theorem KGood.rw {k:D} {ws:List Str} (h:KGood k ws):RowW ws:=by
  refine ⟨h.row.wds.1,h.ne,?_⟩
  obtain ⟨p,l,rfl,rfl,hg,hl⟩:=h
  have:∀ m:List (Str × Int),(m.flatMap yk).length=2 * m.length:=fun m=>by
    induction m with
    | nil=>rfl
    | cons a m ih =>
      rw [List.flatMap_cons,List.length_append,ih,List.length_cons]
      have:(yk a).length=2:=rfl
      lia
  rw [List.length_cons,this,List.length_cons]
  lia
theorem DGood.rw {k:D} {ws:List Str} (h:DGood k ws):RowW ws:=by
  refine ⟨h.row.wds.1,h.ne,?_⟩
  obtain ⟨g,ns,b,bw,rfl,rfl,_,_,h9,_,hb⟩:=h
  simp only [List.length_cons,List.length_append]
  lia
theorem zc1 {ws:List Str} (h:RowW ws):10 ∉ cl (tx ws):=fun m=>by
  have m':10∈cl (Str.join (sg 32) ws):=by rw [<- Yw]; exact m
  rcases vS m' with e | ⟨x,hx,hd⟩
  · exact absurd e (by decide)
  · exact (h.wd x hx).nl hd
theorem ZW:∀ zs:List Str,(Str.join NL zs).length<=(zs.map (·.length)).sum + zs.length
  | []=>by decide
  | [z]=>by
    show z.length<=_
    simp
  | z :: y :: r=>by
    have ih:=ZW (y :: r)
    have e:=congrArg List.length (zt (sep:=NL) (x:=z) (y:=y) (r:=r))
    rw [List.length_append,List.length_append,zZ,zZ,zZ,zZ] at e
    have s1:NL.length=1:=by decide
    rw [s1] at e
    rw [e]
    rw [List.map_cons,List.sum_cons,List.length_cons]
    lia
theorem YF:∀ rows:List (List Str),(∀ ws∈rows,RowW ws)->((rows.map tx).map (·.length)).sum<=33 * rows.flatten.length
  | [],_=>by decide
  | ws :: r,h=>by
    have ih:=YF r fun x hx=>h x (List.mem_cons_of_mem _ hx)
    have tl:=xf (h ws List.mem_cons_self).wd
    rw [List.map_cons,List.map_cons,List.sum_cons,List.flatten_cons,List.length_append]
    lia
theorem za2 {rows:List (List Str)} (h:∀ ws∈rows,RowW ws) (hl:rows.flatten.length<=3000) (h100:rows.length<=100):(zR (Str.join NL (rows.map tx))).map yc=rows/\Fit (Str.join NL (rows.map tx)):=by
  have e1:zR (Str.join NL (rows.map tx))=rows.map tx:=by
    cases rows with
    | nil =>
      unfold zR
      rw [if_pos (by decide)]
      rfl
    | cons ws r =>
      unfold zR
      have ne:Str.join NL ((ws :: r).map tx)≠"":=fun e=>by
        obtain ⟨x,q,e2,hx⟩:=(h ws List.mem_cons_self).ne
        have hn:tx ws≠"":=by
          rw [e2]
          exact Xz hx
        cases r with
        | nil=>exact hn e
        | cons v r =>
          have e3:=congrArg cl e
          rw [List.map_cons,List.map_cons,zt] at e3
          have e4:cl (tx ws)=[]:=(List.append_eq_nil_iff.mp e3).1
          exact hn (yF e4)
      rw [if_neg ne,zbH]
      refine wb (by simp) fun x hx=>?_
      obtain ⟨vs,hv,rfl⟩:=List.mem_map.mp hx
      exact zc1 (h vs hv)
  have e2:(rows.map tx).map yc=rows:=by
    rw [List.map_map]
    refine (List.map_congr_left fun ws hws=>?_).trans (List.map_id _)
    obtain ⟨x,q,e2,hx⟩:=(h ws hws).ne
    exact yR (by rw [e2]; simp) (h ws hws).wd
  have jl:=ZW (rows.map tx)
  have tl:=YF rows h
  rw [List.length_map] at jl
  refine ⟨by rw [e1,e2],by lia,fun l hl=>?_,fun l hl x hx=>?_⟩
  · rw [e1] at hl
    obtain ⟨vs,hv,rfl⟩:=List.mem_map.mp hl
    have:=xf (h vs hv).wd
    have:=(h vs hv).few
    lia
  · rw [e1] at hl
    obtain ⟨vs,hv,rfl⟩:=List.mem_map.mp hl
    obtain ⟨y,q,e2,_⟩:=(h vs hv).ne
    rw [show yc (tx vs)=vs from yR (by rw [e2]; simp) (h vs hv).wd] at hx
    have:=((h vs hv).wd x hx).len
    lia
mutual
def pB:Nat->List Str->Option (D × List Str)
  | 0,_=>none
  | _ + 1,[]=>none
  | n + 1,w :: r =>
    if w="give" then (zn LX r).map fun p=>(.tup [.str "give",.str p.1],p.2)
    else if w="let" then (zn LX r).bind fun p=>(deed LX p.2).bind fun q=>(pB n q.2).map fun b=>(.tup [.str "let",.str p.1,q.1,b.1],b.2)
    else if w="if" then (zn LX r).bind fun p=>(pB n p.2).bind fun a=>match a.2 with
      | []=>none
      | e :: r'=>if e="else" then (pB n r').map fun b=>(.tup [.str "if",.str p.1,a.1,b.1],b.2) else none
    else if w="case" then (zn LX r).bind fun p=>(pA n [] p.2).map fun q=>(.tup [.str "case",.str p.1,.tup q.1],q.2)
    else none
def pA:Nat->List D->List Str->Option (List D × List Str)
  | 0,_,_=>none
  | n + 1,done,r=>(head LX r).bind fun h=>(pB n h.2).bind fun b=>match b.2 with
    | []=>none
    | e :: r'=>if e="end" then some (done ++ [.tup [.str h.1.1,Rd.«strs» h.1.2,b.1]],r')
      else if done.length + 1 < 20 then pA n (done ++ [.tup [.str h.1.1,Rd.«strs» h.1.2,b.1]]) (e :: r') else none
end
def zdw (r:List Str):Prop:=∀ st:List Fr,∃ n,Runs LX n ⟨st,none,r⟩ none
theorem yr {st:List Fr} {r:List Str} (h:zE LX st r=none):∃ n,Runs LX n ⟨st,none,r⟩ none:=⟨0,.fail (.inl rfl) h⟩
theorem jg {st:List Fr} {r:List Str} {s:S} (h:zE LX st r=some s) (g:∃ n,Runs LX n s none):∃ n,Runs LX n ⟨st,none,r⟩ none:=let ⟨n,g⟩:=g; ⟨n + 1,.turn (.inl rfl) h g⟩
theorem Wt {b:D} {f:Fr} {st:List Fr} {r:List Str} {s:S} (h:fill LX b st f r=some s) (g:∃ n,Runs LX n s none):∃ n,Runs LX n ⟨f :: st,some b,r⟩ none:=let ⟨n,g⟩:=g; ⟨n + 1,.turn (.inr (by simp)) h g⟩
theorem yY {b:D} {f:Fr} {st:List Fr} {r:List Str} (h:fill LX b st f r=none):∃ n,Runs LX n ⟨f :: st,some b,r⟩ none:=⟨0,.fail (.inr (by simp)) h⟩
theorem zQ {r r':List Str} {x:Str} (h:zn LX r=some (x,r')):r=x :: r'/\zk x=true:=by
  cases r with
  | nil=>cases h
  | cons w t =>
    have h:(if zk w=true then some (w,t) else none)=some (x,r'):=h
    by_cases c:zk w=true
    · rw [if_pos c] at h
      cases h
      exact ⟨rfl,c⟩
    · rw [if_neg c] at h
      cases h
theorem yS {stop:Str}:∀ {r acc ns r':List Str},zK LX stop acc r=some (ns,r')->acc.length<=9->∃ ms,ns=acc ++ ms/\r=ms ++ stop :: r'/\(∀ x∈ms,zk x=true)/\ns.length<=9
  | [],acc,ns,r',h,_=>by cases h
  | w :: r,acc,ns,r',h,hl=>by
    unfold zK at h
    split at h
    · rename_i e
      cases h
      exact ⟨[],(List.append_nil _).symm,by rw [e]; rfl,(fun x hx=>by cases hx),hl⟩
    · split at h
      · rename_i c
        obtain ⟨ms,h1,h2,h3,h4⟩:=yS h (by rw [List.length_append,List.length_singleton]; lia)
        exact ⟨w :: ms,by rw [h1,List.append_assoc]; rfl,by rw [h2]; rfl,fun x hx=>(List.mem_cons.mp hx).elim (fun e=>by rw [e]; exact c.2) (h3 x),h4⟩
      · cases h
theorem w5 {r r':List Str} {t:Str} {ns:List Str} (h:head LX r=some ((t,ns),r')):r=t :: (ns ++ (":":Str) :: r')/\zk t=true/\(∀ x∈ns,zk x=true)/\ns.length<=9:=by
  unfold head at h
  obtain ⟨⟨x,r1⟩,h1,h2⟩:=Option.bind_eq_some_iff.mp h
  obtain ⟨⟨ms,r2⟩,h3,h4⟩:=Option.map_eq_some_iff.mp h2
  cases h4
  obtain ⟨e1,e2⟩:=zQ h1
  obtain ⟨ks,f1,f2,f3,f4⟩:=yS h3 (Nat.zero_le _)
  rw [List.nil_append] at f1
  subst f1
  dsimp only at f2
  exact ⟨by rw [e1,f2],e2,f3,f4⟩
theorem Qe {α:Type} {p:List α->Prop} (h0:p []) (h1:∀ l a,p l->p (l ++ [a])) (l:List α):p l:=by
  have:∀ k:List α,p k.reverse:=by
    intro k
    induction k with
    | nil=>exact h0
    | cons a k ih=>rw [List.reverse_cons]; exact h1 _ _ ih
  have:=this l.reverse
  rwa [List.reverse_reverse] at this
theorem za3:∀ d:Nat,d < 10->(Nat.digitChar d).toNat=48 + d:=by decide
theorem Vf (l:List Nat):l≠[]->NumText.AllDigits l->l.head?≠some 48->∃ m:Nat,m≠0/\(Nat.toDigits 10 m).map Char.toNat=l:=by
  refine Qe (p:=fun l=>l≠[]->NumText.AllDigits l->l.head?≠some 48->∃ m:Nat,m≠0/\(Nat.toDigits 10 m).map Char.toNat=l) (fun h=>absurd rfl h) (fun l a ih _ ha hz=>?_) l
  have hd:=ha a (by simp)
  have da:=za3 (a - 48) (by lia)
  by_cases hl:l=[]
  · subst hl
    have:a≠48:=fun e=>hz (by rw [e]; rfl)
    refine ⟨a - 48,by lia,?_⟩
    rw [Nat.toDigits_of_lt_base (by lia),List.map_singleton,da,show 48 + (a - 48)=a by lia]
    rfl
  · obtain ⟨m,m0,e⟩:=ih hl (fun c hc=>ha c (by simp [hc])) (fun e=>hz (by
      cases l with
      | nil=>exact absurd rfl hl
      | cons b l=>exact e))
    refine ⟨10 * m + (a - 48),by lia,?_⟩
    rw [Nat.toDigits_of_base_le (by decide) (by lia),List.map_append,show (10 * m + (a - 48)) / 10=m by lia,show (10 * m + (a - 48)) % 10=a - 48 by lia,e,List.map_singleton,da,show 48 + (a - 48)=a by lia]
theorem jh {m:Nat} (h:((Nat.toDigits 10 m).map Char.toNat).length<=30):m < 10 ^ 30:=by
  rw [List.length_map] at h
  exact (Nat.length_toDigits_le_iff (by decide) (by decide)).mp h
theorem Qf {z:Str} (h:zH z=true):∃ n:Int,n.natAbs < 10 ^ 30/\z=Str.ofString (toString n)/\yt z=n:=by
  obtain ⟨⟨h1,h2⟩,h3,h4⟩:=isNumber_iff.mp h
  have key:∃ n:Int,n.natAbs < 10 ^ 30/\z=Str.ofString (toString n):=by
    rcases h4 with h4 | h4
    · exact ⟨0,by decide,h4⟩
    · have hne:cl (zM z)≠[]:=fun e=>by rw [e] at h1; simp at h1
      obtain ⟨m,m0,e⟩:=Vf _ hne h3 (by rw [List.head?_eq_getElem?]; exact h4)
      by_cases c:∃ cs,cl z=45 :: cs
      · obtain ⟨cs,hc⟩:=c
        rw [y9 hc] at e h1 h2
        obtain ⟨k,rfl⟩:∃ k,m=k + 1:=⟨m - 1,by lia⟩
        exact ⟨Int.negSucc k,jh (m:=k + 1) (by rw [e]; exact h2),yF (by rw [hc,Ji,e])⟩
      · rw [xa c] at e h1 h2
        exact ⟨Int.ofNat m,jh (m:=m) (by rw [e]; exact h2),yF (by rw [show cl (Str.ofString (toString (Int.ofNat m)))=_ from Jh m,e])⟩
  obtain ⟨n,n1,n2⟩:=key
  exact ⟨n,n1,n2,n2 ▸ (yU n1).2⟩
theorem Zg {r r':List Str} {d:D} (h:deed LX r=some (d,r')):∃ dw,r=dw ++ r'/\GoodD d dw:=by
  cases r with
  | nil=>cases h
  | cons w t =>
    unfold deed at h
    dsimp only at h
    split at h
    · rename_i e
      obtain ⟨⟨i,r1⟩,h1,h2⟩:=Option.map_eq_some_iff.mp h
      cases h2
      cases t with
      | nil=>cases h1
      | cons x t =>
        have h1:(if zH x=true then some (yt x,t) else none)=some (i,r1):=h1
        by_cases c:zH x=true
        · rw [if_pos c] at h1
          cases h1
          obtain ⟨n,n1,n2,n3⟩:=Qf (show zH x=true from c)
          refine ⟨["num",x],by rw [e]; rfl,?_⟩
          show GoodD (.tup [.str "num",.int (yt x)]) ["num",x]
          rw [n3]
          conv=>rhs; rw [n2]
          exact xM n1
        · rw [if_neg c] at h1
          cases h1
    · split at h
      · rename_i ho
        obtain ⟨⟨a,r1⟩,h1,h2⟩:=Option.bind_eq_some_iff.mp h
        obtain ⟨⟨b,r2⟩,h3,h4⟩:=Option.map_eq_some_iff.mp h2
        cases h4
        obtain ⟨e1,e2⟩:=zQ h1
        obtain ⟨e3,e4⟩:=zQ h3
        dsimp only at e3
        exact ⟨[w,a,b],by rw [e1,e3]; rfl,Yx ho e2 e4⟩
      · split at h
        · rename_i ho
          obtain ⟨⟨g,r1⟩,h1,h2⟩:=Option.bind_eq_some_iff.mp h
          obtain ⟨⟨ns,r2⟩,h3,h4⟩:=Option.map_eq_some_iff.mp h2
          cases h4
          obtain ⟨e1,e2⟩:=zQ h1
          obtain ⟨ms,f1,f2,f3,f4⟩:=yS h3 (Nat.zero_le _)
          rw [List.nil_append] at f1
          subst f1
          dsimp only at f2
          exact ⟨w :: g :: (ns ++ [(";":Str)]),by rw [e1,f2]; simp,xz ho e2 f3 f4⟩
        · cases h
mutual
theorem xP:∀ (n:Nat) (r:List Str) (b:D) (r':List Str),pB n r=some (b,r')->∃ ws,r=ws ++ r'/\Good b ws
  | 0,_,_,_,h=>by unfold pB at h; cases h
  | n + 1,[],_,_,h=>by unfold pB at h; cases h
  | n + 1,w :: r,b,r',h=>by
    unfold pB at h
    split at h
    · rename_i e
      obtain ⟨⟨x,r1⟩,h1,h2⟩:=Option.map_eq_some_iff.mp h
      cases h2
      obtain ⟨e1,e2⟩:=zQ h1
      exact ⟨["give",x],by rw [e,e1]; rfl,yj e2⟩
    · split at h
      · rename_i e
        obtain ⟨⟨x,r1⟩,h1,h2⟩:=Option.bind_eq_some_iff.mp h
        obtain ⟨⟨d,r2⟩,h3,h4⟩:=Option.bind_eq_some_iff.mp h2
        obtain ⟨⟨b1,r3⟩,h5,h6⟩:=Option.map_eq_some_iff.mp h4
        cases h6
        obtain ⟨e1,e2⟩:=zQ h1
        obtain ⟨dw,f1,f2⟩:=Zg h3
        obtain ⟨bw,g1,g2⟩:=xP n _ _ _ h5
        dsimp only at f1 g1
        exact ⟨"let" :: x :: (dw ++ bw),by rw [e,e1,f1,g1]; simp,wB e2 f2 g2⟩
      · split at h
        · rename_i e
          obtain ⟨⟨x,r1⟩,h1,h2⟩:=Option.bind_eq_some_iff.mp h
          obtain ⟨⟨a,r2⟩,h3,h4⟩:=Option.bind_eq_some_iff.mp h2
          obtain ⟨e1,e2⟩:=zQ h1
          obtain ⟨aw,f1,f2⟩:=xP n _ _ _ h3
          dsimp only at f1 h4
          cases r2 with
          | nil=>cases h4
          | cons y r2 =>
            dsimp only at h4
            split at h4
            · rename_i ey
              obtain ⟨⟨b1,r3⟩,h5,h6⟩:=Option.map_eq_some_iff.mp h4
              cases h6
              obtain ⟨bw,g1,g2⟩:=xP n _ _ _ h5
              exact ⟨"if" :: x :: (aw ++ ("else":Str) :: bw),by rw [e,e1,f1,ey,g1]; simp,ZQ e2 f2 g2⟩
            · cases h4
        · split at h
          · rename_i e
            obtain ⟨⟨x,r1⟩,h1,h2⟩:=Option.bind_eq_some_iff.mp h
            obtain ⟨⟨ds,r2⟩,h3,h4⟩:=Option.map_eq_some_iff.mp h2
            cases h4
            obtain ⟨e1,e2⟩:=zQ h1
            obtain ⟨arms,a0,a1,a2,a3,a4⟩:=Wu n [] _ _ _ (by decide) h3
            rw [List.nil_append] at a1
            dsimp only at a2
            rw [List.length_nil,Nat.zero_add] at a4
            exact ⟨("case":Str) :: x :: (arms.flatMap Arm.words ++ [("end":Str)]),by rw [e,e1,a2]; simp,a1 ▸ xN e2 a0 a3 a4⟩
          · cases h
theorem Wu:∀ (n:Nat) (done:List D) (r:List Str) (ds:List D) (r':List Str),done.length + 1<=20->pA n done r=some (ds,r')->∃ arms:List Arm,arms≠[]/\ds=done ++ arms.map Arm.dat/\r=arms.flatMap Arm.words ++ ("end":Str) :: r'/\(∀ a∈arms,GoodA a)/\done.length + arms.length<=20
  | 0,_,_,_,_,_,h=>by unfold pA at h; cases h
  | n + 1,done,r,ds,r',hd,h=>by
    unfold pA at h
    obtain ⟨⟨⟨t,ns⟩,r1⟩,h1,h2⟩:=Option.bind_eq_some_iff.mp h
    obtain ⟨⟨b,r2⟩,h3,h4⟩:=Option.bind_eq_some_iff.mp h2
    obtain ⟨e1,e2,e3,e4⟩:=w5 h1
    obtain ⟨bw,f1,f2⟩:=xP n _ _ _ h3
    dsimp only at f1 h4
    have ga:=wC e2 e3 e4 f2
    cases r2 with
    | nil=>cases h4
    | cons y r2 =>
      dsimp only at h4
      split at h4
      · rename_i ey
        cases h4
        refine ⟨[⟨t,ns,bw,b⟩],by simp,by simp [Arm.dat],?_,fun a ha=>by rw [List.mem_singleton.mp ha]; exact ga,hd⟩
        rw [e1,f1,ey]
        simp [Arm.words]
      · split at h4
        · rename_i hl
          obtain ⟨arms,a0,a1,a2,a3,a4⟩:=Wu n _ _ _ _ (by rw [List.length_append,List.length_singleton]; lia) h4
          refine ⟨⟨t,ns,bw,b⟩ :: arms,by simp,by rw [a1]; simp [Arm.dat],?_,fun a ha=>(List.mem_cons.mp ha).elim (fun e=>e ▸ ga) (a3 a),?_⟩
          · rw [e1,f1,a2]
            simp [Arm.words]
          · rw [List.length_append,List.length_singleton] at a4
            rw [List.length_cons]
            lia
        · cases h4
end
theorem ji {r r':List Str} {x:Str} (h:zn LX r=some (x,r')):r.length=r'.length + 1:=by
  rw [(zQ h).1]
  rfl
theorem deed_len {r r':List Str} {d:D} (h:deed LX r=some (d,r')):r'.length<=r.length:=by
  obtain ⟨dw,e,_⟩:=Zg h
  rw [e,List.length_append]
  lia
theorem Qg {n:Nat} {r r':List Str} {b:D} (h:pB n r=some (b,r')):r'.length < r.length:=by
  obtain ⟨ws,e,g⟩:=xP _ _ _ _ h
  have:=List.length_pos_iff.mpr g.ne
  rw [e,List.length_append]
  lia
theorem head_len {r r':List Str} {p:Str × List Str} (h:head LX r=some (p,r')):r'.length < r.length:=by
  have:=(w5 h).1
  rw [this,List.length_cons,List.length_append,List.length_cons]
  lia
theorem ZX {n:Nat} {r r':List Str} {b:D} (h:pB n r=some (b,r')) (st:List Fr):∃ k,Goes LX k ⟨st,none,r⟩ ⟨st,some b,r'⟩:=by
  obtain ⟨ws,e,g⟩:=xP _ _ _ _ h
  rw [e]
  exact g.body st r'
theorem Zh {s s':S} (g:∃ k,Goes LX k s s') (h:∃ n,Runs LX n s' none):∃ n,Runs LX n s none :=
  let ⟨_,g⟩:=g
  let ⟨_,h⟩:=h
  g.runs h
mutual
theorem xQ:∀ (n:Nat) (r:List Str),r.length < n->pB n r=none->zdw r
  | 0,_,hl,_=>by lia
  | n + 1,[],_,_=>fun st=>yr rfl
  | n + 1,w :: r,hl,h=>fun st=>by
    rw [List.length_cons] at hl
    unfold pB at h
    by_cases c1:w="give"
    · rw [if_pos c1] at h
      refine yr ?_
      unfold zE
      dsimp only
      rw [if_pos c1,Option.map_eq_none_iff.mp h]
      rfl
    rw [if_neg c1] at h
    by_cases c2:w="let"
    · rw [if_pos c2] at h
      cases hn:zn LX r with
      | none =>
        refine yr ?_
        unfold zE
        dsimp only
        rw [if_neg c1,if_pos c2,hn]
        rfl
      | some p =>
        have l1:=ji hn
        rw [hn,Option.bind_some] at h
        cases hd:deed LX p.2 with
        | none =>
          refine yr ?_
          unfold zE
          dsimp only
          rw [if_neg c1,if_pos c2,hn,Option.bind_some,hd]
          rfl
        | some q =>
          have l2:=deed_len hd
          rw [hd,Option.bind_some] at h
          refine jg (s:=⟨.lt p.1 q.1 :: st,none,q.2⟩) ?_ (xQ n q.2 (by lia) (Option.map_eq_none_iff.mp h) _)
          unfold zE
          dsimp only
          rw [if_neg c1,if_pos c2,hn,Option.bind_some,hd]
          rfl
    rw [if_neg c2] at h
    by_cases c3:w="if"
    · rw [if_pos c3] at h
      cases hn:zn LX r with
      | none =>
        refine yr ?_
        unfold zE
        dsimp only
        rw [if_neg c1,if_neg c2,if_pos c3,hn]
        rfl
      | some p =>
        have l1:=ji hn
        rw [hn,Option.bind_some] at h
        refine jg (s:=⟨.if0 p.1 :: st,none,p.2⟩) (by
          unfold zE
          dsimp only
          rw [if_neg c1,if_neg c2,if_pos c3,hn]
          rfl) ?_
        cases ha:pB n p.2 with
        | none=>exact xQ n p.2 (by lia) ha _
        | some a =>
          have l2:=Qg ha
          rw [ha,Option.bind_some] at h
          refine Zh (ZX ha _) ?_
          obtain ⟨a,ar⟩:=a
          cases ar with
          | nil=>exact yY rfl
          | cons y r2 =>
            dsimp only at h l2
            rw [List.length_cons] at l2
            by_cases ce:y="else"
            · rw [if_pos ce] at h
              refine Wt (s:=⟨.if1 p.1 a :: st,none,r2⟩) ?_ (xQ n r2 (by lia) (Option.map_eq_none_iff.mp h) _)
              unfold fill
              dsimp only
              rw [if_pos ce]
            · refine yY ?_
              unfold fill
              dsimp only
              rw [if_neg ce]
    rw [if_neg c3] at h
    by_cases c4:w="case"
    · rw [if_pos c4] at h
      cases hn:zn LX r with
      | none =>
        refine yr ?_
        unfold zE
        dsimp only
        rw [if_neg c1,if_neg c2,if_neg c3,if_pos c4,hn]
        rfl
      | some p =>
        have l1:=ji hn
        rw [hn,Option.bind_some] at h
        rcases Wv n [] p.2 p.1 st (by lia) (by decide) (Option.map_eq_none_iff.mp h) with e | ⟨q,e,g⟩
        · refine yr ?_
          unfold zE
          dsimp only
          rw [if_neg c1,if_neg c2,if_neg c3,if_pos c4,hn,Option.bind_some,e]
          rfl
        · refine jg (s:=⟨.cs p.1 [] q.1.1 q.1.2 :: st,none,q.2⟩) ?_ g
          unfold zE
          dsimp only
          rw [if_neg c1,if_neg c2,if_neg c3,if_pos c4,hn,Option.bind_some,e]
          rfl
    · refine yr ?_
      unfold zE
      dsimp only
      rw [if_neg c1,if_neg c2,if_neg c3,if_neg c4]
theorem Wv:∀ (n:Nat) (done:List D) (r:List Str) (x:Str) (st:List Fr),r.length < n->done.length + 1<=20->pA n done r=none->head LX r=none\/∃ q,head LX r=some q/\∃ k,Runs LX k ⟨.cs x done q.1.1 q.1.2 :: st,none,q.2⟩ none
  | 0,_,_,_,_,hl,_,_=>by lia
  | n + 1,done,r,x,st,hl,hd,h=>by
    unfold pA at h
    cases hh:head LX r with
    | none=>exact .inl rfl
    | some q =>
      refine .inr ⟨q,rfl,?_⟩
      have l1:=head_len hh
      rw [hh,Option.bind_some] at h
      cases hb:pB n q.2 with
      | none=>exact xQ n q.2 (by lia) hb _
      | some a =>
        have l2:=Qg hb
        rw [hb,Option.bind_some] at h
        refine Zh (ZX hb _) ?_
        obtain ⟨a,ar⟩:=a
        cases ar with
        | nil=>exact yY rfl
        | cons y r2 =>
          dsimp only at h l2
          by_cases ce:y="end"
          · rw [if_pos ce] at h
            cases h
          · rw [if_neg ce] at h
            by_cases cl:done.length + 1 < 20
            · rw [if_pos cl] at h
              rcases Wv n _ _ x st (by lia) (by rw [List.length_append,List.length_singleton]; lia) h with e | ⟨q2,e,g⟩
              · refine yY ?_
                unfold fill
                dsimp only
                rw [if_neg ce,e]
                simp
              · refine Wt (s:=⟨.cs x (done ++ [.tup [.str q.1.1,Rd.«strs» q.1.2,a]]) q2.1.1 q2.1.2 :: st,none,q2.2⟩) ?_ g
                unfold fill
                dsimp only
                rw [if_neg ce,e,List.length_append,List.length_singleton,if_pos cl]
                rfl
            · refine yY ?_
              unfold fill
              dsimp only
              rw [if_neg ce,List.length_append,List.length_singleton,if_neg cl]
end
def pDef (r:List Str):Option D:=(zn LX r).bind fun p=>(zK LX "=" [] p.2).bind fun q=>match pB (q.2.length + 1) q.2 with
  | some (b,[])=>some (.tup [.str p.1,Rd.«strs» q.1,b])
  | _=>none
theorem za4 (r:List Str):xj r (pDef r):=by
  unfold xj pDef
  cases hn:zn LX r with
  | none=>rfl
  | some p =>
    rw [Option.bind_some,Option.bind_some]
    cases hu:zK LX "=" [] p.2 with
    | none=>rfl
    | some q =>
      rw [Option.bind_some]
      dsimp only [Option.map_some]
      cases hb:pB (q.2.length + 1) q.2 with
      | none =>
        obtain ⟨n,g⟩:=xQ _ q.2 (Nat.lt_succ_self _) hb []
        exact ⟨n,none,g,rfl⟩
      | some a =>
        obtain ⟨k,g⟩:=ZX hb []
        obtain ⟨n,g⟩:=g.runs (r:=some (a.1,a.2)) .done
        exact ⟨n,_,g,rfl⟩
def prs:List Str->Bool
  | []=>true
  | [_]=>false
  | a :: b :: t=>zk a && (yf b && prs t)
theorem Ww:∀ r:List Str,r.length % 2=1->prs r=false
  | [],h=>by simp at h
  | [_],_=>rfl
  | a :: b :: t,h=>by
    unfold prs
    rw [Ww t (by simp at h; lia),Bool.and_false,Bool.and_false]
theorem Wx (a b:Str) (t:List Str):yC (a :: b :: t)=if zk a=true/\yf b=true then some (.tup [.str a,.int (yt b)],t) else none:=by
  unfold yC
  show Option.bind (if zk a=true then some (a,b :: t) else none) _=_
  by_cases c1:zk a=true
  · rw [if_pos c1,Option.bind_some]
    unfold xc
    dsimp only
    by_cases c2:yf b=true
    · rw [if_pos c2,if_pos ⟨c1,c2⟩]
      rfl
    · rw [if_neg c2,if_neg (fun z=>c2 z.2)]
      rfl
  · rw [if_neg c1,if_neg (fun z=>c1 z.1)]
    rfl
theorem YG (a:Str):yC [a]=none:=by
  unfold yC
  show Option.bind (if zk a=true then some (a,[]) else none) _=_
  split <;> rfl
theorem Zi:∀ (n:Nat) (acc:List D) (r:List Str),r.length<=n->(yK n acc r).isSome=prs r
  | 0,acc,r,h=>by
    cases r with
    | nil=>rfl
    | cons a t=>simp at h
  | n + 1,acc,[],_=>rfl
  | n + 1,acc,[a],_=>by
    unfold yK
    rw [if_neg (by simp),YG]
    rfl
  | n + 1,acc,a :: b :: t,h=>by
    unfold yK
    rw [if_neg (by simp),Wx]
    unfold prs
    by_cases c:zk a=true/\yf b=true
    · rw [if_pos c,Option.bind_some,Zi n _ t (by simp at h; lia),c.1,c.2]
      rfl
    · rw [if_neg c]
      show false=_
      cases c1:zk a with
      | false=>rfl
      | true =>
        cases c2:yf b with
        | false=>rfl
        | true=>exact absurd ⟨c1,c2⟩ c
theorem jj {r:List Str}:(yV r).isSome=(!r.isEmpty && prs r):=by
  unfold yV
  cases r with
  | nil=>rfl
  | cons a t =>
    cases t with
    | nil=>rw [YG]; rfl
    | cons b t =>
      rw [Wx]
      unfold prs
      by_cases c:zk a=true/\yf b=true
      · rw [if_pos c,Option.bind_some,Zi _ _ _ (Nat.le_refl _),c.1,c.2]
        rfl
      · rw [if_neg c]
        show false=_
        cases c1:zk a with
        | false=>rfl
        | true =>
          cases c2:yf b with
          | false=>rfl
          | true=>exact absurd ⟨c1,c2⟩ c
def dueB:List Str->Bool
  | []=>false
  | y :: r=>if y="kind" then (yV r).isSome else if y="def" then (pDef r).isSome else false
def KWS:List Str:=(["def","kind","=",";",":","give","let","if","else","case","end","num"]:List Str) ++ OPS ++ DEEDS
def okW (x:Str):Bool:=zk x || (zH x || (yf x || decide (x∈KWS)))
theorem xC {x:Str} (h:zk x=true):okW x=true:=by
  unfold okW
  rw [h]
  rfl
theorem zdx {x:Str} (h:zH x=true):okW x=true:=by
  unfold okW
  rw [h,Bool.true_or,Bool.or_true]
theorem zdy {x:Str} (h:yf x=true):okW x=true:=by
  unfold okW
  rw [h,Bool.true_or,Bool.or_true,Bool.or_true]
theorem kw {x:Str} (h:x∈KWS):okW x=true:=by
  unfold okW
  rw [decide_eq_true h,Bool.or_true,Bool.or_true,Bool.or_true]
def AllW (ws:List Str):Prop:=∀ x∈ws,okW x=true
theorem AllW.app {a b:List Str} (h:AllW a) (g:AllW b):AllW (a ++ b):=fun x hx=>(List.mem_append.mp hx).elim (h x) (g x)
theorem AllW.cons {a:Str} {b:List Str} (h:okW a=true) (g:AllW b):AllW (a :: b):=fun x hx=>(List.mem_cons.mp hx).elim (fun e=>e ▸ h) (g x)
theorem AllW.nil:AllW []:=fun x hx=>by cases hx
theorem AllW.names {ns:List Str} (h:∀ x∈ns,zk x=true):AllW ns:=fun x hx=>xC (h x hx)
theorem zdz:∀ x∈OPS,okW x=true:=fun x h=>kw (List.mem_append_left _ (List.mem_append_right _ h))
theorem za5:∀ x∈DEEDS,okW x=true:=fun x h=>kw (List.mem_append_right _ h)
theorem za6 {r r':List Str} {d:D} (h:deed LX r=some (d,r')):∃ dw,r=dw ++ r'/\AllW dw:=by
  cases r with
  | nil=>cases h
  | cons w t =>
    unfold deed at h
    dsimp only at h
    split at h
    · rename_i e
      obtain ⟨⟨i,r1⟩,h1,h2⟩:=Option.map_eq_some_iff.mp h
      cases h2
      cases t with
      | nil=>cases h1
      | cons x t =>
        have h1:(if zH x=true then some (yt x,t) else none)=some (i,r1):=h1
        by_cases c:zH x=true
        · rw [if_pos c] at h1
          cases h1
          exact ⟨[w,x],rfl,.cons (by rw [e]; exact kw (by decide)) (.cons (zdx c) .nil)⟩
        · rw [if_neg c] at h1
          cases h1
    · split at h
      · rename_i ho
        obtain ⟨⟨a,r1⟩,h1,h2⟩:=Option.bind_eq_some_iff.mp h
        obtain ⟨⟨b,r2⟩,h3,h4⟩:=Option.map_eq_some_iff.mp h2
        cases h4
        obtain ⟨e1,e2⟩:=zQ h1
        obtain ⟨e3,e4⟩:=zQ h3
        dsimp only at e3
        exact ⟨[w,a,b],by rw [e1,e3]; rfl,.cons (zdz w ho) (.cons (xC e2) (.cons (xC e4) .nil))⟩
      · split at h
        · rename_i ho
          obtain ⟨⟨g,r1⟩,h1,h2⟩:=Option.bind_eq_some_iff.mp h
          obtain ⟨⟨ns,r2⟩,h3,h4⟩:=Option.map_eq_some_iff.mp h2
          cases h4
          obtain ⟨e1,e2⟩:=zQ h1
          obtain ⟨ms,f1,f2,f3,f4⟩:=yS h3 (Nat.zero_le _)
          dsimp only at f2
          exact ⟨w :: g :: (ms ++ [(";":Str)]),by rw [e1,f2]; simp,.cons (za5 w ho) (.cons (xC e2) (.app (.names f3) (.cons (kw (by decide)) .nil)))⟩
        · cases h
theorem za7 {r r':List Str} {p:Str × List Str} (h:head LX r=some (p,r')):∃ hw,r=hw ++ r'/\AllW hw:=by
  obtain ⟨t,ns⟩:=p
  obtain ⟨e1,e2,e3,e4⟩:=w5 h
  exact ⟨t :: (ns ++ [(":":Str)]),by rw [e1]; simp,.cons (xC e2) (.app (.names e3) (.cons (kw (by decide)) .nil))⟩
mutual
theorem YH:∀ (n:Nat) (r:List Str) (b:D) (r':List Str),pB n r=some (b,r')->∃ ws,r=ws ++ r'/\AllW ws
  | 0,_,_,_,h=>by unfold pB at h; cases h
  | n + 1,[],_,_,h=>by unfold pB at h; cases h
  | n + 1,w :: r,b,r',h=>by
    unfold pB at h
    split at h
    · rename_i e
      obtain ⟨⟨x,r1⟩,h1,h2⟩:=Option.map_eq_some_iff.mp h
      cases h2
      obtain ⟨e1,e2⟩:=zQ h1
      exact ⟨[w,x],by rw [e1]; rfl,.cons (by rw [e]; exact kw (by decide)) (.cons (xC e2) .nil)⟩
    · split at h
      · rename_i e
        obtain ⟨⟨x,r1⟩,h1,h2⟩:=Option.bind_eq_some_iff.mp h
        obtain ⟨⟨d,r2⟩,h3,h4⟩:=Option.bind_eq_some_iff.mp h2
        obtain ⟨⟨b1,r3⟩,h5,h6⟩:=Option.map_eq_some_iff.mp h4
        cases h6
        obtain ⟨e1,e2⟩:=zQ h1
        obtain ⟨dw,f1,f2⟩:=za6 h3
        obtain ⟨bw,g1,g2⟩:=YH n _ _ _ h5
        dsimp only at f1 g1
        exact ⟨w :: x :: (dw ++ bw),by rw [e1,f1,g1]; simp,.cons (by rw [e]; exact kw (by decide)) (.cons (xC e2) (f2.app g2))⟩
      · split at h
        · rename_i e
          obtain ⟨⟨x,r1⟩,h1,h2⟩:=Option.bind_eq_some_iff.mp h
          obtain ⟨⟨a,r2⟩,h3,h4⟩:=Option.bind_eq_some_iff.mp h2
          obtain ⟨e1,e2⟩:=zQ h1
          obtain ⟨aw,f1,f2⟩:=YH n _ _ _ h3
          dsimp only at f1 h4
          cases r2 with
          | nil=>cases h4
          | cons y r2 =>
            dsimp only at h4
            split at h4
            · rename_i ey
              obtain ⟨⟨b1,r3⟩,h5,h6⟩:=Option.map_eq_some_iff.mp h4
              cases h6
              obtain ⟨bw,g1,g2⟩:=YH n _ _ _ h5
              exact ⟨w :: x :: (aw ++ y :: bw),by rw [e1,f1,g1]; simp,.cons (by rw [e]; exact kw (by decide)) (.cons (xC e2) (f2.app (.cons (by rw [ey]; exact kw (by decide)) g2)))⟩
            · cases h4
        · split at h
          · rename_i e
            obtain ⟨⟨x,r1⟩,h1,h2⟩:=Option.bind_eq_some_iff.mp h
            obtain ⟨⟨ds,r2⟩,h3,h4⟩:=Option.map_eq_some_iff.mp h2
            cases h4
            obtain ⟨e1,e2⟩:=zQ h1
            obtain ⟨aw,a1,a2⟩:=zbJ n [] _ _ _ h3
            dsimp only at a1
            exact ⟨w :: x :: aw,by rw [e1,a1]; rfl,.cons (by rw [e]; exact kw (by decide)) (.cons (xC e2) a2)⟩
          · cases h
theorem zbJ:∀ (n:Nat) (done:List D) (r:List Str) (ds:List D) (r':List Str),pA n done r=some (ds,r')->∃ ws,r=ws ++ r'/\AllW ws
  | 0,_,_,_,_,h=>by unfold pA at h; cases h
  | n + 1,done,r,ds,r',h=>by
    unfold pA at h
    obtain ⟨⟨p,r1⟩,h1,h2⟩:=Option.bind_eq_some_iff.mp h
    obtain ⟨⟨b,r2⟩,h3,h4⟩:=Option.bind_eq_some_iff.mp h2
    obtain ⟨hw,e1,e2⟩:=za7 h1
    obtain ⟨bw,f1,f2⟩:=YH n _ _ _ h3
    dsimp only at f1 h4
    cases r2 with
    | nil=>cases h4
    | cons y r2 =>
      dsimp only at h4
      split at h4
      · rename_i ey
        cases h4
        exact ⟨hw ++ (bw ++ [y]),by rw [e1,f1]; simp,e2.app (f2.app (.cons (by rw [ey]; exact kw (by decide)) .nil))⟩
      · split at h4
        · obtain ⟨aw,a1,a2⟩:=zbJ n _ _ _ _ h4
          exact ⟨hw ++ (bw ++ aw),by rw [e1,f1,a1]; simp,e2.app (f2.app a2)⟩
        · cases h4
end
theorem zbK:∀ r:List Str,prs r=true->AllW r
  | [],_=>.nil
  | [_],h=>by cases h
  | a :: b :: t,h=>by
    unfold prs at h
    rw [Bool.and_eq_true,Bool.and_eq_true] at h
    exact .cons (xC h.1) (.cons (zdy h.2.1) (zbK t h.2.2))
theorem zc2 {r:List Str} (h:(pDef r).isSome=true):AllW r:=by
  obtain ⟨d,h⟩:=Option.isSome_iff_exists.mp h
  unfold pDef at h
  obtain ⟨⟨x,r1⟩,h1,h2⟩:=Option.bind_eq_some_iff.mp h
  obtain ⟨⟨ns,r2⟩,h3,h4⟩:=Option.bind_eq_some_iff.mp h2
  obtain ⟨e1,e2⟩:=zQ h1
  obtain ⟨ms,f1,f2,f3,f4⟩:=yS h3 (Nat.zero_le _)
  dsimp only at f2 h4
  split at h4
  · rename_i b hb
    obtain ⟨bw,g1,g2⟩:=YH _ _ _ _ hb
    rw [List.append_nil] at g1
    rw [e1,f2,g1]
    exact .cons (xC e2) (.app (.names f3) (.cons (kw (by decide)) g2))
  · cases h4
theorem zdA {ws:List Str} (h:dueB ws=true):AllW ws:=by
  cases ws with
  | nil=>exact .nil
  | cons y r =>
    unfold dueB at h
    dsimp only at h
    split at h
    · rename_i e
      rw [jj,Bool.and_eq_true] at h
      exact .cons (by rw [e]; exact kw (by decide)) (zbK r h.2)
    · split at h
      · rename_i e
        exact .cons (by rw [e]; exact kw (by decide)) (zc2 h)
      · cases h
def BadR (ws:List Str):Prop:=∀ ks ds:List D,rowR ks ds ws none
theorem ZY {ws:List Str} (h:dueB ws=false):BadR ws:=fun ks ds=>by
  cases ws with
  | nil=>rfl
  | cons y r =>
    unfold dueB at h
    dsimp only at h
    unfold rowR
    dsimp only
    by_cases c1:y="kind"
    · rw [if_pos c1] at h
      rw [if_neg (by rw [c1]; decide)]
      split
      · cases hk:yV r with
        | none=>rfl
        | some l=>rw [hk] at h; cases h
      · rfl
    · rw [if_neg c1] at h
      by_cases c2:y="def"
      · rw [if_pos c2] at h
        rw [if_pos c2]
        refine ⟨_,za4 r,?_⟩
        cases hk:pDef r with
        | none=>rfl
        | some l=>rw [hk] at h; cases h
      · rw [if_neg c2,if_neg (fun z=>c1 z.1)]
theorem wE {ws:List Str} {x:Str} (hx:x∈ws) (h:okW x=false):BadR ws:=ZY (by
  cases e:dueB ws with
  | false=>rfl
  | true =>
    rw [zdA e x hx] at h
    cases h)
theorem wF {y:Str} {r:List Str} (h1:y≠"def") (h2:y≠"kind"):BadR (y :: r):=ZY (by
  unfold dueB
  dsimp only
  rw [if_neg h2,if_neg h1])
theorem zc3 {r:List Str}:BadR (("kind":Str) :: ("def":Str) :: r):=ZY (by
  unfold dueB
  dsimp only
  rw [if_pos rfl,jj]
  cases r with
  | nil=>rfl
  | cons a t =>
    unfold prs
    rw [show zk "def"=false by decide +kernel]
    rfl)
theorem Wy (m:List (Str × Int)):(m.flatMap yk).length=2 * m.length:=by
  induction m with
  | nil=>rfl
  | cons a m ih =>
    rw [List.flatMap_cons,List.length_append,ih,List.length_cons]
    have:(yk a).length=2:=rfl
    lia
theorem Wz {r:List Str} (h:r.length % 2=1):BadR (("kind":Str) :: r):=ZY (by
  unfold dueB
  dsimp only
  rw [if_pos rfl,jj,Ww r h,Bool.and_false])
theorem vz {r:List Str} (h:xj r none):BadR (("def":Str) :: r):=fun ks ds=>by
  unfold rowR
  dsimp only
  rw [if_pos rfl]
  exact ⟨_,h,rfl⟩
theorem Vg {g:Str} {ns ws:List Str} {b:D} {x:Str} (hg:zk g=true) (hn:∀ x∈ns,zk x=true) (hl:ns.length<=9) (hG:Good b ws):xj (g :: (ns ++ ("=":Str) :: (ws ++ [x]))) none:=by
  obtain ⟨n,hR⟩:=hG.body.runs [x]
  exact ZU rfl hg hn hl hR
def RowG (ws:List Str):Prop:=(∃ k,KGood k ws)\/∃ d,DGood d ws
theorem RowG.rw {ws:List Str} (h:RowG ws):RowW ws:=h.elim (fun ⟨_,e⟩=>e.rw) (fun ⟨_,e⟩=>e.rw)
theorem RowG.three {ws:List Str} (h:RowG ws):3<=ws.length/\ws.length<=412:=by
  rcases h with ⟨_,p,l,rfl,rfl,_,hl⟩ | ⟨_,g,ns,b,bw,rfl,rfl,_,_,h9,hG,hb⟩
  · rw [List.length_cons,Wy,List.length_cons]
    lia
  · simp only [List.length_cons,List.length_append]
    lia
theorem Qh {ws:List Str} {x:Str} (h:RowG (ws ++ [x])):BadR ws:=by
  rcases h with ⟨_,p,l,rfl,e,_,hl⟩ | ⟨_,g,ns,b,bw,rfl,e,hg,hn,h9,hG,hb⟩
  · cases ws with
    | nil =>
      have:=congrArg List.length e
      rw [List.length_cons,Wy,List.length_cons] at this
      simp at this
    | cons y r =>
      rw [List.cons_append] at e
      injection e with e1 e2
      subst e1
      refine Wz ?_
      have:=congrArg List.length e2
      rw [List.length_append,List.length_singleton,Wy,List.length_cons] at this
      lia
  · obtain ⟨bw',z,rfl⟩:∃ bw' z,bw=bw' ++ [z]:=⟨bw.dropLast,bw.getLast hG.ne,(List.dropLast_concat_getLast hG.ne).symm⟩
    have e':ws ++ [x]=(("def":Str) :: g :: (ns ++ ("=":Str) :: bw')) ++ [z]:=by rw [e]; simp
    have e3:=List.append_inj_left' e' rfl
    subst e3
    exact vz (J0 hg hn h9 hG)
theorem Qi {ws:List Str} {x:Str} (h:RowG ws):BadR (ws ++ [x]):=by
  rcases h with ⟨_,p,l,rfl,rfl,_,hl⟩ | ⟨_,g,ns,b,bw,rfl,rfl,hg,hn,h9,hG,hb⟩
  · refine Wz (r:=(p :: l).flatMap yk ++ [x]) ?_
    rw [List.length_append,List.length_singleton,Wy,List.length_cons]
    lia
  · have:=vz (Vg (x:=x) hg hn h9 hG)
    simpa using this
end Rdr
namespace L2
open PySem PySem.Spec PyProof.Rows
def Itr3 (lo st:Int) (n:Nat):It:=⟨fun i _=>i < n,fun i H x H'=>H'=H/\x=.int (lo + i * st),fun i _=>n<=i⟩
theorem YI {P:Program} {w:World} {K:PySem.W.Frag} {tg:Expr} (it:Addr) (lo st:Int) (n:Nat):Turn P w K tg (Itr3 lo st n) [it] it (fun i h=>IsRangeIter h it (lo + (i:Nat) * st) ((n:Int) - (i:Nat)) st) where
  mem:=by simp
  obj:=fun i h st b hb=>by
    have e:b=it:=by simpa using hb
    subst e
    exact ⟨_,st,fun v z=>by
      have z':Data.fields _=Data.cell v:=z
      cases z'⟩
  keep:=fun i h h' st k=>k it (by simp) _ st
  item:=by
    intro X hP hw hK hc i pins s σ H E I hf sti hg
    subst hP hw hK
    obtain ⟨f0,f1,f2,f3,f4,f5⟩:=hf it (by simp)
    have W:=Walks.range (prog:=X.prog) (w:=X.w) (I.ok.hd hc) it lo st n
    refine W.item i s _ _ hg sti fun v h' tk hv st' kk=>?_
    obtain ⟨t,rfl⟩:=hv
    have I1:Inv X pins σ H { s with heap:=h',toks:=tk }:=I.turned (fun b o hb e=>kk b o (by simpa using hb) e) f0 f1 f3 f4 f5
    exact ⟨_,rfl,jF (s:={ s with heap:=h',toks:=tk }) (n:="range_iterator") st' rfl rfl (by decide) ⟨.int (lo + i * st),H,I1,⟨t,rfl⟩,⟨rfl,rfl⟩,st',fun b hb=>(hf b hb).1⟩⟩
  done:=by
    intro X hP hw hK hc i pins s σ H E I hf sti hg
    subst hP hw hK
    obtain ⟨f0,f1,f2,f3,f4,f5⟩:=hf it (by simp)
    exact wpAny_pyNext_range_end (I.ok.hd hc) sti (by have:n<=i:=hg; lia) fun h' eb=>⟨rfl,I.turned (t':=s.toks) (fun b o hb e=>eb b o hb e) f0 f1 f3 f4 f5⟩
  self:=fun _ _ _ _ _ st h=>wpAny_pyIter_rangeiter st h
theorem YJ {a b c:Int} (ha:0<=a) (ha':a < 2 ^ 40) (hb:0<=b) (hb':b < 2 ^ 40) (hc:0 < c) (hc':c < 2 ^ 30):Builtin.Range.small a b c=true:=by
  unfold Builtin.Range.small Builtin.Range.rangeSize
  have q1:(b - a - 1) / c<=2 ^ 40:=by
    by_cases h:0<=b - a - 1
    · have:=Int.ediv_le_self c h
      lia
    · have:=Int.ediv_nonpos_of_nonpos_of_neg (show b - a - 1<=0 by lia) hc
      lia
  have q2:a < b->0<=(b - a - 1) / c:=fun h=>Int.ediv_nonneg (by lia) (by lia)
  simp only [Builtin.Range.rangeFitsLong,Bool.and_eq_true,Bool.or_eq_true,decide_eq_true_eq,beq_iff_eq,show c > 0 from hc,if_true]
  split
  · have:=q2 (by assumption)
    lia
  · lia
section
variable {X:Cx} {tg:Expr}
def zbL (ta:TA):TI:=fun σ H R=>ta σ H fun vs H1=>∃ a b c:Int,vs=[.int a,.int b,.int c]/\(0<=a/\a < 2 ^ 40/\0<=b/\b < 2 ^ 40/\0 < c/\c < 2 ^ 30)/\R (Itr3 a c (Builtin.Range.rangeSize a b c).toNat) H1
theorem Vh {a b c:Expr} {ta:TA} {p pos:Pos} (hg:Gl X "range") (hm:X.mg "range"=none) (ha:PA X [a,b,c] ta) (hs:starEach [a,b,c] X.env=[(false,eval a X.env),(false,eval b X.env),(false,eval c X.env)]:=by rfl) (hs2:starEach [b,c] X.env=[(false,eval b X.env),(false,eval c X.env)]:=by rfl) :
    PI X tg (.Call (.Name "range" p) [a,b,c] [] pos) (zbL ta):=by
  intro pins s σ H R I h
  refine Call_ (xY I hg hm boot_range (PyProof.Rows.callWith_type1 (thn (ha pos pins s σ H _ I h) fun us s1 ⟨vs,H1,I1,r1,q1⟩=>?_) (by rw [hs,hs2]) (by rw [hs2]; rfl)))
  obtain ⟨i,j,k,e,⟨q1,q2,q3,q4,q5,q6⟩,q⟩:=q1
  subst e
  cases r1 with
  | cons r rr =>
    cases rr with
    | cons r' rr =>
      cases rr with
      | cons r'' rr =>
        cases rr
        obtain ⟨t,rfl⟩:=r
        obtain ⟨t',rfl⟩:=r'
        obtain ⟨t'',rfl⟩:=r''
        refine call_range_3 (by lia) ?_ (.inl (PyProof.noPylong_small (by lia)))
        refine wpAny_pyIter_range (IsRange.new ..) (YJ q1 q2 q3 q4 q5 q6) ?_
        have I2:Inv X pins σ H1 { s1 with heap:=s1.heap.push { cls:=.type "range",data:=.fields #[.int i t,.int j t',.int k t''] },toks:=s1.toks }:=I1.kept fun b o e=>Heap.get?_push_of_some _ e
        refine ⟨(s1.heap.push { cls:=.type "range",data:=.fields #[.int i t,.int j t',.int k t''] }).objs.size,[(s1.heap.push { cls:=.type "range",data:=.fields #[.int i t,.int j t',.int k t''] }).objs.size],_,_,H1,rfl,I2.kept (t':=s1.toks) fun b o e=>Heap.get?_push_of_some _ e,
          YI _ i k (Builtin.Range.rangeSize i j k).toNat,?_,fun b hb=>?_,q⟩
        · have e1:i + ((0:Nat):Int) * k=i:=by simp
          have p0:0<=Builtin.Range.rangeSize i j k:=by
            unfold Builtin.Range.rangeSize
            rw [if_pos q5]
            split
            · have:=Int.ediv_nonneg (show 0<=j - i - 1 by lia) (show 0<=k by lia)
              lia
            · exact Int.le_refl _
          have e2:(((Builtin.Range.rangeSize i j k).toNat:Nat):Int) - ((0:Nat):Int)=Builtin.Range.rangeSize i j k:=by lia
          show IsRangeIter _ _ (i + ((0:Nat):Int) * k) ((((Builtin.Range.rangeSize i j k).toNat:Nat):Int) - ((0:Nat):Int)) k
          rw [e1,e2]
          exact Heap.get?_push_size _ rfl
        · have e:b=(s1.heap.push { cls:=.type "range",data:=.fields #[.int i t,.int j t',.int k t''] }).objs.size:=by simpa using hb
          subst e
          exact I2.fpOk (Nat.le_refl _) (I2.hok.fresh (Nat.le_refl _))
theorem Vi {a b c:Expr} {t:TA} {p pos:Pos} (hg:Gl X "range") (hm:X.mg "range"=none) (ha:jA X [a,b,c] t) (h1:zm a=false:=by rfl) (h2:zm b=false:=by rfl) (h3:zm c=false:=by rfl):jI X tg (.Call (.Name "range" p) [a,b,c] [] pos) (zbL t) :=
  ⟨Vh hg hm ha.out (by rw [zI h1,zI h2,zI h3]; rfl) (by rw [zI h2,zI h3]; rfl)⟩
end
theorem XE {lo st:Int} {n:Nat} {g:TG} {tb:TS} {D:Ends} {σ:St} {H:Hp} (Pv:Nat->St->Hp->Prop) (h0:Pv 0 σ H)
    (hs:∀ i σ H,i < n->Pv i σ H->g (.int (lo + i * st)) σ H fun σ2 H2=>tb { D with nx:=Pv (i + 1),ct:=Pv (i + 1),bk:=D.nx } σ2 H2) (hd:∀ σ H,Pv n σ H->D.nx σ H) :
    ∃ W:Nat->Nat->St->Hp->Prop,(∃ m,W 0 m σ H)/\∀ i m σ H,W i m σ H ->
      ((Itr3 lo st n).stop i H/\D.nx σ H)\/((Itr3 lo st n).go i H/\∃ N:St->Hp->Prop,(∀ σ' H',N σ' H'->∃ m',m' < m/\W (i + 1) m' σ' H')/\∀ x H',(Itr3 lo st n).yld i H x H'->g x σ H' fun σ2 H2=>tb { D with nx:=N,ct:=N,bk:=D.nx } σ2 H2):=by
  refine ⟨fun i m σ H=>m=n - i/\i<=n/\Pv i σ H,⟨n,by simp,Nat.zero_le _,h0⟩,?_⟩
  rintro i m σ H ⟨rfl,hi,p⟩
  by_cases hlt:i < n
  · refine .inr ⟨hlt,Pv (i + 1),fun σ' H' p'=>⟨n - (i + 1),by lia,rfl,hlt,p'⟩,fun x H' y=>?_⟩
    obtain ⟨e,y⟩:=y
    subst e y
    exact hs i σ _ hlt p
  · have e:i=n:=by lia
    subst e
    exact .inl ⟨Nat.le_refl _,hd σ H p⟩
end L2
namespace L2
open PySem
theorem ZZ {X:Cx} (hc:X.calm=true):jCa X (.builtin "min") (fun xs H Q=>∃ i j,xs=[.int i,.int j]/\Q (.int (if j < i then j else i)) H):=⟨WR hc⟩
end L2
namespace Rdr
open PySem L2 K11 Rd
def WA (K:PySem.W.Frag):Sp:=fun vs H Q _=>∃ (a:Addr) (ns:List Int),vs=[.ref a]/\SqL K H a (ns.map V.int)/\ns.length<=3/\∀ (H':Hp) (p:Addr) (v:V) (k:D) (ws:List Str),Same H H'->H' p=some (.tup [v,.str (tx ws)])->Is H' k v->KGood k ws->Q (.ref p) H'
def Qj (K:PySem.W.Frag):Sp:=fun vs H Q _=>∃ (a:Addr) (ns:List Int),vs=[.ref a]/\SqL K H a (ns.map V.int)/\ns.length<=63/\∀ (H':Hp) (p:Addr) (v:V) (k:D) (ws:List Str),Same H H'->H' p=some (.tup [v,.str (tx ws)])->Is H' k v->DGood k ws->Q (.ref p) H'
section
variable {P:Program} {w:World} {K:PySem.W.Frag} {mg:Str->Option Value} {base:Heap} {f:Addr} {fd:FuncData}
theorem scLKind:FnScope ["_law_cells","_law_pairs","_law_words","_law_cell","_law_many_here","_law_k","_law_tag"] ["_law_cells"] (zj Xq):=.ok
theorem Qk:tx ["kind","a","0"]="kind a 0":=by decide +kernel
theorem Ql (F:Fun K "_law_kind" "_law_kind" Xq f fd) (G__law_name:Ca P w K mg base CX0 1 "_law_name" ["_law_number_here"] vw) (m_range:mg "range"=none) (m_str:mg "str"=none) (m_tuple:mg "tuple"=none):FnOk P w K mg base CX0 2 f fd ["_law_cells"] (WA K):=by
  refine F.by scLKind (fun vs H Q E h=>?_) (fun cdv A outer s H vs Q E hr h=>?_)
  · obtain ⟨a,ns,rfl,_⟩:=h
    rfl
  obtain ⟨a,ns,rfl,hS,h3,q⟩:=h
  refine ⟨_,
    (zb (sE 1 scLKind.nd (zp zS))
    (zb (sE 2 scLKind.nd (zp (jA1 zd)))
    (zb (yO PassesOwn.never rfl (vp (jv 0)) (gN 3 scLKind.nd)
      (zb (sE 4 scLKind.nd zc)
      (zb (zx (tN zV (zh zu (jv 3) zc) zc)
        (ze (sE 4 scLKind.nd (zh zu (zh zC (jv 3) zc) zc))) zq)
      (ze (yO PassesOwn.never rfl (xG rfl m_range (jA1 (jv 4))) (gN 5 scLKind.nd)
        (zb (sE 6 scLKind.nd (cA G__law_name hr (jA1 (zh zJ (zh zu (zh zC (jv 3) zc) zc) (zh yG zc (jv 5))))))
        (zb (zv (zy PySem.F.plainAttrs_list PySem.F.slot_list_append PySem.F.type_list_append zA (jv 1) (jA1 (zz (jA2 (jv 6) (zh zu (zh zJ (jv 3) (zh yG zc (jv 5))) zc))))))
        (ze (zv (zy PySem.F.plainAttrs_list PySem.F.slot_list_extend PySem.F.type_list_extend wM (jv 2) (jA1 (zp (jA2 (jv 6) (zU y7 rfl m_str PyProof.Rows.boot_str (jA1 (zh zu (zh zJ (jv 3) (zh yG zc (jv 5))) zc))))))))))))))))
    (zb (zx (tN (vM hr) (jv 1) (zp zS))
      (ze (zo (zz (jA2 (zz (jA1 (zz (jA2 zd zc)))) zd)))) zq)
    (ze (zo (zz (jA2 (zU zW rfl m_tuple PyProof.Rows.boot_tuple (jA1 (jv 1))) (zy PySem.F.plainAttrs_str PySem.F.slot_str_join PySem.F.type_str_join zO zd (jA1 (jv 2))))))))))),?_⟩
  have sl:=line
  have cD:∀ {i j:Int},0 < j->j < 1073741824->CDiv i j:=fun h1 h2=>⟨h1,h2⟩
  have plen:∀ m:List (Str × Int),(m.flatMap yk).length=2 * m.length:=fun m=>by
    induction m with
    | nil=>rfl
    | cons a m ih =>
      rw [List.flatMap_cons,List.length_append,ih,List.length_cons]
      have:(yk a).length=2:=rfl
      lia
  refine ⟨sN0,fun pp h1=>⟨sN1,fun pw h2=>?_⟩⟩
  have npp:H pp=none:=h1
  have npw:H pw=none:=(zf h1 (.lst [])).free h2
  have nwp:pp≠pw:=zi za h2
  have s2:Same H (upd (upd H pp (.lst [])) pw (.lst [.str "kind"])):=(zf h1 _).new h2
  refine ⟨_,rfl,_,rfl,⟨_,s2.seq hS⟩,vD (xs:=ns.map V.int) (fun i σ H'=>∃ (l:List (Str × Int)) (pv:List V) (x y z u:Option V),σ=[some (.ref a),some (.ref pp),some (.ref pw),x,y,z,u]/\Same H H'/\H' pp=some (.lst pv)/\IsL H' (l.map xB) pv/\H' pw=some (.lst ((("kind":Str) :: l.flatMap yk).map V.str))/\l.length<=30 * i/\∀ p∈l,PairG p)
    ⟨[],[],none,none,none,none,rfl,s2,old h2 za,.nil,za,Nat.le_refl _,(fun p hp=>by cases hp)⟩ (fun i σ H' _ h=>?_) ?_ ?_⟩
  · obtain ⟨_,_,_,_,_,_,_,s3,_⟩:=h
    exact s3.seq hS
  · rintro i v σ H3 hv ⟨l,pv,x,y,z,u,rfl,s3,hpp,hIs,hpw,hll,hg⟩
    rw [List.getElem?_map] at hv
    obtain ⟨c,hc,rfl⟩:=Option.map_eq_some_iff.mp hv
    have hi:i < ns.length:=(List.getElem?_eq_some_iff.mp hc).1
    refine (show ∀ (v:TS) (D:Ends),(∀ m:Int,0<=m->m<=30->v D [some (.ref a),some (.ref pp),some (.ref pw),some (.int c),some (.int m),z,u] H3)->(tSeq _ (tSeq _ v):TS) D [some (.ref a),some (.ref pp),some (.ref pw),some (.int c),y,z,u] H3 from ?key) _ _ ?rest
    case key =>
      intro v D rest
      refine ⟨_,rfl,_,_,rfl,rfl,(by show (0:Int) < _; decide),rfl,_,rfl,?_⟩
      refine ite2 (fun _=>?_) (fun _=>rest 1 (by decide) (by decide))
      have b1:=Int.emod_nonneg (c / 11) (show (30:Int)≠0 by decide)
      have b2:=Int.emod_lt_of_pos (c / 11) (show (0:Int) < 30 by decide)
      exact ⟨_,rfl,_,_,rfl,rfl,cD (by decide) (by decide),_,_,rfl,rfl,(by show (0:Int) < _; decide),rest _ b1 (by lia)⟩
    case rest =>
    intro m m0 m30
    refine ⟨_,rfl,m,rfl,by lia,by lia,wG (n:=m.toNat) (fun j σ H'=>∃ (l':List (Str × Int)) (pv:List V) (z u:Option V),σ=[some (.ref a),some (.ref pp),some (.ref pw),some (.int c),some (.int m),z,u]/\Same H H'/\H' pp=some (.lst pv)/\IsL H' (l'.map xB) pv/\H' pw=some (.lst ((("kind":Str) :: l'.flatMap yk).map V.str))/\l'.length<=30 * i + j/\∀ p∈l',PairG p)
      ⟨l,pv,z,u,rfl,s3,hpp,hIs,hpw,hll,hg⟩ ?_ ?_⟩
    · rintro j σ H4 hj ⟨l',pv',z',u',rfl,s4,hpp4,hIs4,hpw4,hll4,hg4⟩
      have b1:=Int.emod_nonneg (c / 10) (show (1000003:Int)≠0 by decide)
      have b3:=Int.emod_nonneg (c + 3 * (0 + (j:Nat))) (show (10:Int)≠0 by decide)
      have b4:=Int.emod_lt_of_pos (c + 3 * (0 + (j:Nat))) (show (0:Int) < 10 by decide)
      have hpl:=hIs4.len
      rw [List.length_map] at hpl
      refine ⟨_,rfl,_,_,rfl,rfl,cD (by decide) (by decide),_,_,rfl,rfl,(by show (0:Int) < _; decide),_,rfl,_,_,rfl,rfl,.inl ⟨by decide,by decide⟩,_,_,rfl,rfl,_,rfl,by lia,fun t H5 ht s5=>?_⟩
      refine ⟨_,rfl,.inl ⟨rfl,_,SqL.of (s5 _ _ hpp4)⟩,_,rfl,_,rfl,_,rfl,_,_,rfl,rfl,.inl ⟨by decide,by decide⟩,_,_,rfl,rfl,_,_,rfl,rfl,(by show (0:Int) < _; decide),sN2,fun p6 h6=>?_⟩
      refine ⟨_,_,_,rfl,rfl,old h6 (s5 _ _ hpp4),by lia,?_⟩
      have np6:pp≠p6:=zi (s5 _ _ hpp4) h6
      have hpw6:upd (upd H5 p6 (.tup [.str t,.int ((c + 3 * (0 + (j:Nat))) % 10)])) pp (.lst (pv' ++ [.ref p6])) pw=some (.lst ((("kind":Str) :: l'.flatMap yk).map V.str)):=by rw [zg nwp.symm]; exact old h6 (s5 _ _ hpw4)
      have hpp6:upd (upd H5 p6 (.tup [.str t,.int ((c + 3 * (0 + (j:Nat))) % 10)])) pp (.lst (pv' ++ [.ref p6])) pp=some (.lst (pv' ++ [.ref p6])):=za
      have t6:Tups H4 (upd (upd H5 p6 (.tup [.str t,.int ((c + 3 * (0 + (j:Nat))) % 10)])) pp (.lst (pv' ++ [.ref p6]))):=fun b xs hb=>by
        rw [zg (zY hb hpp4 (by intro z; cases z))]
        exact old h6 (s5 _ _ hb)
      have hq6:upd (upd H5 p6 (.tup [.str t,.int ((c + 3 * (0 + (j:Nat))) % 10)])) pp (.lst (pv' ++ [.ref p6])) p6=some (.tup [.str t,.int ((c + 3 * (0 + (j:Nat))) % 10)]):=by rw [zg np6.symm]; exact za
      have s6:Same H (upd (upd H5 p6 (.tup [.str t,.int ((c + 3 * (0 + (j:Nat))) % 10)])) pp (.lst (pv' ++ [.ref p6]))):=((s4.trans s5).new h6).put npp
      generalize upd (upd H5 p6 (.tup [.str t,.int ((c + 3 * (0 + (j:Nat))) % 10)])) pp (.lst (pv' ++ [.ref p6]))=H6 at *
      refine ⟨_,rfl,.inl ⟨rfl,_,SqL.of hpw6⟩,_,rfl,_,rfl,_,rfl,_,_,rfl,rfl,.inl ⟨by decide,by decide⟩,_,_,rfl,rfl,_,_,rfl,rfl,(by show (0:Int) < _; decide),_,rfl,ZR (by lia),sN2,fun p7 h7=>?_⟩
      refine ⟨_,_,_,_,rfl,rfl,old h7 hpw6,za,by rw [List.length_map,List.length_cons,plen]; show _ + 2<=_; lia,?_⟩
      refine ⟨l' ++ [(t,(c + 3 * (0 + (j:Nat))) % 10)],pv' ++ [.ref p6],_,_,rfl,(s6.new h7).put npw,?_,?_,?_,?_,?_⟩
      · rw [zg nwp]
        exact old h7 hpp6
      · have t7:Tups H6 (upd (upd H6 p7 (.lst [.str t,.str (toString ((c + 3 * (0 + (j:Nat))) % 10))])) pw (.lst ((("kind":Str) :: l'.flatMap yk).map V.str ++ [.str t,.str (toString ((c + 3 * (0 + (j:Nat))) % 10))]))):=fun b xs hb=>by
          rw [zg (zY hb hpw6 (by intro z; cases z))]
          exact old h7 hb
        rw [List.map_append]
        exact (hIs4.keep (t6.trans t7)).app (.cons (.tup (t7 _ _ hq6) (.cons (.str _) (.cons (.int _) .nil))) .nil)
      · rw [za,List.flatMap_append]
        simp [yk]
      · rw [List.length_append,List.length_singleton]
        lia
      · intro p hp
        rcases List.mem_append.mp hp with e | e
        · exact hg4 p e
        · rw [List.mem_singleton.mp e]
          exact ⟨ht,b3,by show (c + 3 * (0 + (j:Nat))) % 10<=9; lia⟩
    · rintro σ H4 ⟨l',pv',z',u',rfl,s4,hpp4,hIs4,hpw4,hll4,hg4⟩
      exact ⟨l',pv',_,_,_,_,rfl,s4,hpp4,hIs4,hpw4,by lia,hg4⟩
  · rintro σ H3 ⟨l,pv,x,y,z,u,rfl,s3,hpp,hIs,hpw,hll,hg⟩
    rw [List.length_map] at hll
    refine ⟨_,rfl,sN0,fun pe h4=>?_⟩
    refine ⟨_,_,_,rfl,rfl,SqL.of (old h4 hpp),SqL.of za,_,rfl,?_⟩
    have s4:=s3.new (o:=.lst []) h4
    have t4:=Tups.new (o:=.lst []) h4
    have hpp4:=old (o:=.lst []) h4 hpp
    have hpw4:=old (o:=.lst []) h4 hpw
    have hIs4:=hIs.keep t4
    generalize upd H3 pe (.lst [])=H4 at *
    cases l with
    | nil =>
      cases hIs4
      refine iteT ?_
      refine ⟨sN2,fun p5 h5=>⟨sN1,fun p6 h6=>⟨sN2,fun p7 h7=>?_⟩⟩⟩
      refine q _ p7 (.ref p6) (.tup [.tup [.str "a",.int 0]]) ["kind","a","0"] (((s4.new h5).new h6).new h7) ?_ (.tup (old h7 za) (.cons (.tup (old h7 (old h6 za)) (.cons (.str _) (.cons (.int _) .nil))) .nil)) ⟨("a",0),[],rfl,rfl,fun q hq=>?_,by decide⟩
      · rw [za,Qk]
      · rw [List.mem_singleton.mp hq]
        exact ⟨by decide +kernel,by decide,by decide⟩
    | cons p0 l =>
      cases hIs4 with
      | @cons _ v0 _ pv a0 b0 =>
      refine iteF ?_
      refine ⟨_,rfl,_,_,rfl,.inl ⟨SqL.of hpp4,fun p5 h5=>?_⟩⟩
      refine ⟨rfl,_,rfl,_,_,("kind":Str) :: (p0 :: l).flatMap yk,rfl,rfl,SqL.of (old h5 hpw4),?_,?_⟩
      · have kg:KGood (.tup ((p0 :: l).map xB)) (("kind":Str) :: (p0 :: l).flatMap yk):=⟨p0,l,rfl,rfl,hg,by rw [List.length_cons] at hll; lia⟩
        have:=yH kg.rw.wd
        have:=kg.rw.few
        show wide SP _<=sizeLine
        lia
      · refine ⟨sN2,fun p6 h6=>?_⟩
        exact q _ p6 (.ref p5) _ _ ((s4.new h5).new h6) za (.tup (old h6 za) ((IsL.cons a0 b0).keep (Tups.of ((zf h5 _).new h6)))) ⟨p0,l,rfl,rfl,hg,by rw [List.length_cons] at hll; lia⟩
theorem scLDef:FnScope ["_law_cells","_law_first","_law_names_here","_law_body","_law_text"] ["_law_cells"] (zj Jn):=.ok
theorem za8 (F:Fun K "_law_def" "_law_def" Jn f fd) (GN:Ca P w K mg base CX0 2 "_law_names" ["_law_cell","_law_many_here"] xy) (GT:Ca P w K mg base CX0 5 "_law_tree" ["_law_cells"] (Wn K)) (m_sum:mg "sum"=none) (m_tuple:mg "tuple"=none):FnOk P w K mg base CX0 6 f fd ["_law_cells"] (Qj K):=by
  refine F.by scLDef (fun vs H Q E h=>?_) (fun cdv A outer s H vs Q E hr h=>?_)
  · obtain ⟨a,ns,rfl,_⟩:=h
    rfl
  obtain ⟨a,sc,rfl,hS,h63,q⟩:=h
  have hr2:Room 2 _:=hr.mono (by decide)
  refine ⟨_,
    (zb (sE 1 scLDef.nd (z4 (Jb rfl) rfl m_sum PyProof.Rows.boot_sum (jA1 (jv 0))))
    (zb (sE 2 scLDef.nd (cA GN hr2 (jA2 (jv 1) (zh zJ zc (zh zu (jv 1) zc)))))
    (zb (yu (cA GT hr (jA1 (jv 0))) (yB rfl (zw (gN 3 scLDef.nd) (zw (gN 4 scLDef.nd) yi))))
    (ze (zo (zz (jA2 (zz (jA3 (xL 2) (zU zW rfl m_tuple PyProof.Rows.boot_tuple (jA1 (zB z8 (jv 2) (zD zc) zT))) (jv 3))) (zy PySem.F.plainAttrs_str PySem.F.slot_str_join PySem.F.type_str_join zO zd (jA1 (zh zX (zh zX (zp (jA1 zd)) (jv 2)) (zp (jA2 zd (jv 4))))))))))))),?_⟩
  have sl:=line
  refine ⟨_,rfl,a,sc,rfl,hS,?_⟩
  have m0:=Int.emod_nonneg sc.sum (show (10:Int)≠0 by decide)
  have m1:=Int.emod_lt_of_pos sc.sum (show (0:Int) < 10 by decide)
  refine ⟨_,rfl,_,rfl,_,_,rfl,rfl,(by show (0:Int) < _; decide),_,_,rfl,rfl,_,_,rfl,by lia,by lia,fun H1 p1 l s1 _ hl hall hp1=>?_⟩
  cases l with
  | nil=>rw [List.length_nil] at hl; lia
  | cons g ns =>
  rw [List.length_cons] at hl
  have hg:=hall g (by simp)
  have hns:∀ x∈ns,zk x=true:=fun x hx=>hall x (List.mem_cons_of_mem _ hx)
  have hl9:ns.length<=9:=by lia
  refine ⟨_,rfl,a,sc,rfl,s1.seq hS,h63,fun H2 p2 v b ws s2 hp2 hb hG hw=>⟨_,_,rfl,SqT.of hp2,rfl,_,_,rfl,_,_,rfl,rfl,?_⟩⟩
  have s12:=s1.trans s2
  have hp12:=s2 _ _ hp1
  have g0:atI ((g :: ns).map V.str) (0:Int)=some (.str g):=aI0
  have dg:DGood (.tup [.str g,Rd.«strs» ns,b]) (("def":Str) :: g :: (ns ++ ("=":Str) :: ws)):=⟨g,ns,b,ws,rfl,rfl,hg,hns,hl9,hG,hw⟩
  have wW:=dg.rw.wd
  have lW:=dg.rw.few
  have eU:(("def":Str) :: g :: (ns ++ [("=":Str)])) ++ ws=("def":Str) :: g :: (ns ++ ("=":Str) :: ws):=by simp
  have jt:=Wj (us:=("def":Str) :: g :: (ns ++ [("=":Str)])) hG.ne
  have jw:=Zc (us:=("def":Str) :: g :: (ns ++ [("=":Str)])) hG.ne (by rw [eU]; exact wW)
  rw [eU] at jt jw
  refine ⟨_,rfl,p1,_,_,_,rfl,rfl,SqL.of hp12,g0,_,rfl,_,rfl,p1,_,rfl,SqL.of hp12,fun p3 h3=>?_⟩
  rw [Yz]
  refine ⟨p3,_,rfl,.inl ⟨SqL.of za,fun p4 h4=>?_⟩⟩
  refine ⟨_,rfl,sN3,fun p5 h5=>?_⟩
  refine ⟨rfl,sN1,fun p6 h6=>?_⟩
  refine ⟨_,rfl,p6,p1,_,_,rfl,rfl,za,old h6 (old h5 (old h4 (old h3 hp12))),?_,fun p7 h7=>?_⟩
  · rw [List.length_singleton,List.length_map,List.length_cons]
    lia
  refine ⟨_,rfl,sN2,fun p8 h8=>?_⟩
  refine ⟨p7,p8,_,_,rfl,rfl,old h8 za,za,?_,fun p9 h9=>?_⟩
  · rw [List.length_append,List.length_singleton,List.length_map,List.length_cons]
    show _ + 2<=_
    lia
  refine ⟨SP,p9,(("def":Str) :: g :: (ns ++ [("=":Str)])) ++ [tx ws],rfl,rfl,SqL.of (by rw [za]; simp),by lia,?_⟩
  rw [jt]
  refine ⟨sN2,fun p10 h10=>?_⟩
  have sA:=(((((((zf h3 (.lst (ns.map V.str))).new (o:=.tup (ns.map V.str)) h4).new (o:=.tup [.str g,.ref p4,v]) h5).new (o:=.lst [.str "def"]) h6).new (o:=.lst ([.str "def"] ++ (g :: ns).map V.str)) h7).new (o:=.lst [.str "=",.str (tx ws)]) h8).new (o:=.lst ([.str "def"] ++ (g :: ns).map V.str ++ [.str "=",.str (tx ws)])) h9).new (o:=.tup [.ref p5,.str (tx (("def":Str) :: g :: (ns ++ ("=":Str) :: ws)))]) h10
  exact q _ p10 (.ref p5) _ _ (s12.trans sA) za (.tup (old h10 (old h9 (old h8 (old h7 (old h6 za))))) (.cons (.str _) (.cons (.tup (old h10 (old h9 (old h8 (old h7 (old h6 (old h5 za)))))) (IsL.strs ns)) (.cons (hb.keep (Tups.of sA)) .nil)))) dg
theorem Each.nilR {R:D->List Str->Prop}:∀ {ws:List (List Str)},Each R [] ws->ws=[]
  | [],_=>rfl
  | _ :: _,h=>h.elim
structure Rows (ks ds:List D) (kws dws:List (List Str)):Prop where
  k:Each KGood ks kws
  d:Each DGood ds dws
  few:(kws ++ dws).length<=60
  sz:(kws ++ dws).flatten.length<=2000
theorem Rows.rw {ks ds:List D} {kws dws:List (List Str)} (h:Rows ks ds kws dws):∀ ws∈kws ++ dws,RowW ws:=fun ws hw=>by
  rcases List.mem_append.mp hw with z | z
  · obtain ⟨d,_,e⟩:=h.k.all ws z
    exact e.rw
  · obtain ⟨d,_,e⟩:=h.d.all ws z
    exact e.rw
def WB (K:PySem.W.Frag):Sp:=fun vs H Q _=>∃ (a:Addr) (ns:List Int),vs=[.ref a]/\SqL K H a (ns.map V.int)/\ns.length<=63/\∀ (H':Hp) (p pr:Addr) (v:V) (ks ds:List D) (kws dws:List (List Str)),Same H H'->H' p=some (.tup [v,.ref pr])->Is H' (.tup [.tup ks,.tup ds]) v->H' pr=some (.lst (((kws ++ dws).map tx).map V.str))->Rows ks ds kws dws->Q (.ref p) H'
theorem KGood.few {k:D} {ws:List Str} (h:KGood k ws):ws.length<=412:=by
  obtain ⟨p,l,rfl,rfl,hg,hl⟩:=h
  have:∀ m:List (Str × Int),(m.flatMap yk).length=2 * m.length:=fun m=>by
    induction m with
    | nil=>rfl
    | cons a m ih =>
      rw [List.flatMap_cons,List.length_append,ih,List.length_cons]
      have:(yk a).length=2:=rfl
      lia
  rw [List.length_cons,this,List.length_cons]
  lia
theorem DGood.few {k:D} {ws:List Str} (h:DGood k ws):ws.length<=412:=by
  obtain ⟨g,ns,b,bw,rfl,rfl,_,_,h9,_,hb⟩:=h
  simp only [List.length_cons,List.length_append]
  lia
theorem YK (ns:List Int) (lo hi:Option Int):∃ ms:List Int,cutV (ns.map V.int) lo hi=ms.map V.int/\ms.length<=ns.length:=by
  refine ⟨(ns.drop (HT.sIx ns.length 0 lo)).take (HT.sIx ns.length ns.length hi - HT.sIx ns.length 0 lo),?_,?_⟩
  · unfold cutV
    rw [List.length_map,List.map_take,List.map_drop]
  · rw [List.length_take,List.length_drop]
    lia
theorem Vj (ns:List Int) {at_ m:Int} (h0:0<=at_) (hm:0<=m):∃ ms:List Int,cutV (ns.map V.int) (some at_) (some (at_ + m))=ms.map V.int/\(ms.length:Int)<=m:=by
  refine ⟨(ns.drop (HT.sIx ns.length 0 (some at_))).take (HT.sIx ns.length ns.length (some (at_ + m)) - HT.sIx ns.length 0 (some at_)),?_,?_⟩
  · unfold cutV
    rw [List.length_map,List.map_take,List.map_drop]
  · rw [List.length_take,List.length_drop]
    have e1:HT.sIx ns.length 0 (some at_)=min at_.toNat ns.length:=by
      show (if at_ < 0 then _ else _)=_
      rw [if_neg (by lia)]
    have e2:HT.sIx ns.length ns.length (some (at_ + m))=min (at_ + m).toNat ns.length:=by
      show (if at_ + m < 0 then _ else _)=_
      rw [if_neg (by lia)]
    rw [e1,e2]
    lia
theorem scLRows:FnScope ["_law_script","_law_first","_law_size","_law_many_here","_law_kinds","_law_defs","_law_rows_here","_law_words","_law_at","_law_one","_law_text"] ["_law_script"] (zj Xr):=.ok
theorem Qm (F:Fun K "_law_rows" "_law_rows" Xr f fd) (GK:Ca P w K mg base CX0 2 "_law_kind" ["_law_cells"] (WA K)) (GF:Ca P w K mg base CX0 6 "_law_def" ["_law_cells"] (Qj K)) (m_sum:mg "sum"=none) (m_range:mg "range"=none) (m_len:mg "len"=none) (m_min:mg "min"=none) (m_tuple:mg "tuple"=none):FnOk P w K mg base CX0 7 f fd ["_law_script"] (WB K):=by
  refine F.by scLRows (fun vs H Q E h=>?_) (fun cdv A outer s H vs Q E hr h=>?_)
  · obtain ⟨a,ns,rfl,_⟩:=h
    rfl
  obtain ⟨a,sc,rfl,hS,h63,q⟩:=h
  have hr2:Room 2 _:=hr.mono (by decide)
  refine ⟨_,
    (zb (sE 1 scLRows.nd (zh zu (z4 (Jb rfl) rfl m_sum PyProof.Rows.boot_sum (jA1 (jv 0))) zc))
    (zb (sE 2 scLRows.nd (zh zJ zc (zh zu (jv 1) zc)))
    (zb (sE 3 scLRows.nd (zh zu (zh zC (jv 1) zc) zc))
    (zb (zx (tN zV (zh zu (zh zC (jv 1) zc) zc) zc)
      (ze (sE 3 scLRows.nd (zh zu (zh zC (jv 1) zc) zc))) zq)
    (zb (sE 4 scLRows.nd (zp zS))
    (zb (sE 5 scLRows.nd (zp zS))
    (zb (sE 6 scLRows.nd (zp zS))
    (zb (sE 7 scLRows.nd zc)
    (zb (yO PassesOwn.never rfl (Vi rfl m_range (jA3 zc (jL m_len (jv 0)) (jv 2))) (gN 8 scLRows.nd)
      (ze (zx (jW.pt (Y3 (tN vg (jL m_len (jv 6)) zc) (Zz (tN jV (jv 7) zc))))
        (zb (zx (tN vg (jL m_len (jv 6)) (jv 3))
          (zb (yu (cA GK hr2 (jA1 (zB z8 (jv 0) (zD (jv 8)) (zD (zh zJ (jv 8) (z4 (ZZ rfl) rfl m_min PyProof.Rows.boot_min (jA2 (jv 2) zc))))))) (yB rfl (zw (gN 9 scLRows.nd) (zw (gN 10 scLRows.nd) yi))))
          (ze (zv (zy PySem.F.plainAttrs_list PySem.F.slot_list_append PySem.F.type_list_append zA (jv 4) (jA1 (jv 9))))))
          (zb (yu (cA GF hr (jA1 (zB z8 (jv 0) (zD (jv 8)) (zD (zh zJ (jv 8) (jv 2)))))) (yB rfl (zw (gN 9 scLRows.nd) (zw (gN 10 scLRows.nd) yi))))
          (ze (zv (zy PySem.F.plainAttrs_list PySem.F.slot_list_append PySem.F.type_list_append zA (jv 5) (jA1 (jv 9)))))))
        (zb (zv (zy PySem.F.plainAttrs_list PySem.F.slot_list_append PySem.F.type_list_append zA (jv 6) (jA1 (jv 10))))
        (ze (sE 7 scLRows.nd (zh zJ (jv 7) (jL m_len (zy PySem.F.plainAttrs_str PySem.F.slot_str_split PySem.F.type_str_split yP (jv 10) (jA1 zd)))))))) zq)))
    (ze (zo (zz (jA2 (zz (jA2 (zU zW rfl m_tuple PyProof.Rows.boot_tuple (jA1 (jv 4))) (zU zW rfl m_tuple PyProof.Rows.boot_tuple (jA1 (jv 5))))) (jv 6)))))))))))))),?_⟩
  have sl:=line
  have cD:∀ {i j:Int},0 < j->j < 1073741824->CDiv i j:=fun h1 h2=>⟨h1,h2⟩
  refine ⟨_,rfl,a,sc,rfl,hS,_,_,rfl,rfl,(by show (0:Int) < _; decide),?_⟩
  have f0:0<=sc.sum % 1000003:=Int.emod_nonneg _ (by decide)
  refine (show ∀ (u:TS) (D:Ends),(∀ many:Int,u D [some (.ref a),some (.int (sc.sum % 1000003)),some (.int (1 + sc.sum % 1000003 % 8)),some (.int many),none,none,none,none,none,none,none] H)->(tSeq _ (tSeq _ (tSeq _ (tSeq _ u))):TS) D _ H from ?key) _ _ ?rest
  case key =>
    intro u D rest
    refine ⟨_,rfl,_,_,rfl,rfl,(by show (0:Int) < _; decide),_,_,rfl,rfl,?_⟩
    refine ⟨_,rfl,_,_,rfl,rfl,cD (by decide) (by decide),_,_,rfl,rfl,(by show (0:Int) < _; decide),?_⟩
    refine ⟨_,rfl,_,_,rfl,rfl,cD (by decide) (by decide),_,_,rfl,rfl,(by show (0:Int) < _; decide),rfl,_,rfl,?_⟩
    refine ite2 (fun _=>?_) (fun _=>rest _)
    exact ⟨_,rfl,_,_,rfl,rfl,cD (by decide) (by decide),_,_,rfl,rfl,(by show (0:Int) < _; decide),rest _⟩
  case rest =>
  intro many
  generalize sc.sum % 1000003=fst at *
  have m0:=Int.emod_nonneg fst (show (8:Int)≠0 by decide)
  have m1:=Int.emod_lt_of_pos fst (show (0:Int) < 8 by decide)
  generalize hsz:1 + fst % 8=sz at *
  refine ⟨sN0,fun pk h1=>⟨sN0,fun pd h2=>⟨sN0,fun pr h3=>?_⟩⟩⟩
  have s3:Same H (upd (upd (upd H pk (.lst [])) pd (.lst [])) pr (.lst [])):=((zf h1 _).new h2).new h3
  have npk:H pk=none:=h1
  have npd:H pd=none:=(zf h1 (.lst [])).free h2
  have npr:H pr=none:=((zf h1 (.lst [])).new (o:=.lst []) h2).free h3
  have nkd:pk≠pd:=zi za h2
  have nkr:pk≠pr:=zi (old h2 za) h3
  have ndr:pd≠pr:=zi za h3
  have hk3:upd (upd (upd H pk (.lst [])) pd (.lst [])) pr (.lst []) pk=some (.lst []):=old h3 (old h2 za)
  have hd3:upd (upd (upd H pk (.lst [])) pd (.lst [])) pr (.lst []) pd=some (.lst []):=old h3 za
  have hr3:upd (upd (upd H pk (.lst [])) pd (.lst [])) pr (.lst []) pr=some (.lst []):=za
  generalize upd (upd (upd H pk (.lst [])) pd (.lst [])) pr (.lst [])=H3 at *
  refine ⟨_,rfl,_,_,rfl,.inl (s3.seq hS),_,rfl,_,_,_,rfl,⟨by decide,by decide,by lia,by rw [List.length_map]; lia,by lia,by lia⟩,
    XE (fun i σ H'=>∃ (ks ds:List D) (kws dws:List (List Str)) (kv dv:List V) (x y z:Option V),σ=[some (.ref a),some (.int fst),some (.int sz),some (.int many),some (.ref pk),some (.ref pd),some (.ref pr),some (.int ((kws ++ dws).flatten.length:Nat)),x,y,z]/\Same H H'/\H' pk=some (.lst kv)/\H' pd=some (.lst dv)/\H' pr=some (.lst (((kws ++ dws).map tx).map V.str))/\IsL H' ks kv/\IsL H' ds dv/\Rows ks ds kws dws/\(ds=[]\/many<=((kws ++ dws).length:Nat)))
      ⟨[],[],[],[],[],[],none,none,none,rfl,s3,hk3,hd3,hr3,.nil,.nil,⟨True.intro,True.intro,by decide,by decide⟩,.inl rfl⟩ ?_ ?_⟩
  · rintro i σ H4 hi ⟨ks,ds,kws,dws,kv,dv,x,y,z,rfl,s4,hk4,hd4,hr4,ik4,id4,hR,hM⟩
    have rl:(((kws ++ dws).map tx).map V.str).length=(kws ++ dws).length:=by simp
    have hlk:=ik4.len
    have hld:=id4.len
    have hk1:=hR.k.len
    have hd1:=hR.d.len
    have hfew:=hR.few
    rw [List.length_append] at hfew
    have hat:(0:Int)<=0 + (i:Nat) * sz:=by
      have:(0:Int)<=(i:Nat) * sz:=Int.mul_nonneg (by lia) (by lia)
      lia
    refine ⟨_,rfl,_,_,rfl,.inl (SqL.of hr4),_,_,rfl,rfl,_,rfl,?_⟩
    rw [rl]
    refine ite2 (fun c60=>?_) (fun _=>?_)
    · rw [decide_eq_true_eq] at c60
      refine ⟨_,rfl,_,_,rfl,rfl,_,rfl,?_⟩
      refine ite2 (fun c400=>?_) (fun _=>?_)
      · rw [decide_eq_true_eq] at c400
        refine (show ∀ (u:TS) (Dn:Ends),(∀ (H6:Hp) (ks ds:List D) (kws dws:List (List Str)) (kv dv:List V) (rows:List (List Str)) (ws:List Str) (v:V),Same H H6->H6 pk=some (.lst kv)->H6 pd=some (.lst dv)->H6 pr=some (.lst ((rows.map tx).map V.str))->kws ++ dws=rows ++ [ws]->rows.length < 60->rows.flatten.length<=400->RowW ws->ws.length<=412->IsL H6 ks kv->IsL H6 ds dv->Each KGood ks kws->Each DGood ds dws->(ds=[]\/many<=((kws ++ dws).length:Nat))->u Dn [some (.ref a),some (.int fst),some (.int sz),some (.int many),some (.ref pk),some (.ref pd),some (.ref pr),some (.int (rows.flatten.length:Nat)),some (.int (0 + (i:Nat) * sz)),some v,some (.str (tx ws))] H6)->(tSeq _ u:TS) Dn _ H4 from ?key2) _ _ ?fin
        case key2 =>
          intro u Dn fin
          refine ⟨_,rfl,_,_,rfl,.inl (SqL.of hr4),_,rfl,_,_,rfl,rfl,_,rfl,?_⟩
          rw [rl]
          refine ite2 (fun cm=>?_) (fun cm=>?_)
          · rw [decide_eq_true_eq] at cm
            have hd0:ds=[]:=by
              rcases hM with e | e
              · exact e
              · lia
            subst hd0
            have dw0:=Each.nilR hR.d
            subst dw0
            cases id4
            have e3:(if (3:Int) < sz then 3 else sz)<=3:=by split <;> lia
            have e0:0<=(if (3:Int) < sz then 3 else sz):=by split <;> lia
            obtain ⟨ms,em,hm3⟩:=Vj sc hat e0
            refine ⟨_,rfl,_,rfl,_,rfl,_,rfl,_,rfl,_,_,rfl,_,_,rfl,rfl,_,rfl,_,_,rfl,s4.seq hS,fun p5 h5=>?_⟩
            rw [em]
            have s5:=zf (o:=.lst (ms.map V.int)) h5
            refine ⟨p5,ms,rfl,SqL.of za,by lia,fun H6 p6 v k ws s6 hp6 hIk hG=>?_⟩
            refine ⟨_,_,rfl,SqT.of hp6,rfl,_,_,rfl,_,_,rfl,rfl,?_⟩
            have hk6:=s6 _ _ (s5 _ _ hk4)
            have hd6:=s6 _ _ (s5 _ _ hd4)
            have hr6:=s6 _ _ (s5 _ _ hr4)
            refine ⟨_,rfl,.inl ⟨rfl,_,SqL.of hk6⟩,_,rfl,_,_,_,rfl,rfl,hk6,by lia,?_⟩
            have tt:Tups H6 (upd H6 pk (.lst (kv ++ [v]))):=fun b xs hb=>by rw [zg (zY hb hk6 (by intro z; cases z))]; exact hb
            refine fin _ (ks ++ [k]) [] (kws ++ [ws]) [] (kv ++ [v]) [] (kws ++ []) ws v (((s4.trans s5).trans s6).put npk) za (by rw [zg nkd.symm]; exact hd6) (by rw [zg nkr.symm]; exact hr6) (by simp) (by lia) (by lia) hG.rw hG.few (((ik4.keep (Tups.of (s5.trans s6))).keep tt).app (.cons (hIk.keep tt) .nil)) .nil (hR.k.snoc hG) True.intro (.inl rfl)
          · rw [decide_eq_true_eq] at cm
            obtain ⟨ms,em,hm3⟩:=YK sc (some (0 + (i:Nat) * sz)) (some (0 + (i:Nat) * sz + sz))
            refine ⟨_,rfl,_,rfl,_,rfl,_,rfl,_,rfl,_,_,rfl,rfl,_,rfl,_,_,rfl,s4.seq hS,fun p5 h5=>?_⟩
            rw [em]
            have s5:=zf (o:=.lst (ms.map V.int)) h5
            refine ⟨p5,ms,rfl,SqL.of za,by lia,fun H6 p6 v k ws s6 hp6 hIk hG=>?_⟩
            refine ⟨_,_,rfl,SqT.of hp6,rfl,_,_,rfl,_,_,rfl,rfl,?_⟩
            have hk6:=s6 _ _ (s5 _ _ hk4)
            have hd6:=s6 _ _ (s5 _ _ hd4)
            have hr6:=s6 _ _ (s5 _ _ hr4)
            refine ⟨_,rfl,.inl ⟨rfl,_,SqL.of hd6⟩,_,rfl,_,_,_,rfl,rfl,hd6,by lia,?_⟩
            have tt:Tups H6 (upd H6 pd (.lst (dv ++ [v]))):=fun b xs hb=>by rw [zg (zY hb hd6 (by intro z; cases z))]; exact hb
            refine fin _ ks (ds ++ [k]) kws (dws ++ [ws]) kv (dv ++ [v]) (kws ++ dws) ws v (((s4.trans s5).trans s6).put npd) (by rw [zg nkd]; exact hk6) za (by rw [zg ndr.symm]; exact hr6) (by simp) (by lia) (by lia) hG.rw hG.few ((ik4.keep (Tups.of (s5.trans s6))).keep tt) (((id4.keep (Tups.of (s5.trans s6))).keep tt).app (.cons (hIk.keep tt) .nil)) hR.k (hR.d.snoc hG) (.inr ?_)
            rw [<- List.append_assoc,List.length_append]
            lia
        case fin =>
        intro H6 ks ds kws dws kv dv rows ws v s6 hk6 hd6 hr6 er r60 r400 hrw h412 ik6 id6 ek ed hM
        refine ⟨_,rfl,.inl ⟨rfl,_,SqL.of hr6⟩,_,rfl,_,_,_,rfl,rfl,hr6,by simp; lia,?_⟩
        have tt:Tups H6 (upd H6 pr (.lst ((rows.map tx).map V.str ++ [.str (tx ws)]))):=fun b xs hb=>by rw [zg (zY hb hr6 (by intro z; cases z))]; exact hb
        have tl:=xf hrw.wd
        refine ⟨_,rfl,_,rfl,rfl,tx ws,SP,rfl,rfl,by decide,by lia,fun p7 h7=>⟨p7,_,rfl,.inl (SqL.of za),_,_,rfl,rfl,?_⟩⟩
        have esp:Txt.split (tx ws) SP=ws:=by
          obtain ⟨y,r,e,_⟩:=hrw.ne
          exact yR (by rw [e]; simp) hrw.wd
        rw [esp]
        have efl:(kws ++ dws).flatten.length=rows.flatten.length + ws.length:=by rw [er,List.flatten_append,List.length_append]; simp
        have e7:V.int ((rows.flatten.length:Nat) + (((ws.map V.str).length:Nat):Int))=V.int (((kws ++ dws).flatten.length:Nat):Int):=congrArg V.int (by rw [efl,List.length_map]; lia)
        refine ⟨ks,ds,kws,dws,kv,dv,some (.int (0 + (i:Nat) * sz)),some v,some (.str (tx ws)),?_,(s6.put npr).new h7,old h7 (by rw [zg nkr]; exact hk6),old h7 (by rw [zg ndr]; exact hd6),old h7 (by rw [za,er]; simp),(ik6.keep tt).keep (.new h7),(id6.keep tt).keep (.new h7),⟨ek,ed,?_,?_⟩,hM⟩
        · show [some (.ref a),some (.int fst),some (.int sz),some (.int many),some (.ref pk),some (.ref pd),some (.ref pr),some (V.int ((rows.flatten.length:Nat) + (((ws.map V.str).length:Nat):Int))),some (.int (0 + (i:Nat) * sz)),some v,some (.str (tx ws))]=_
          rw [e7]
        · rw [er,List.length_append]
          show _ + 1<=60
          lia
        · lia
      · exact ⟨ks,ds,kws,dws,kv,dv,_,_,_,rfl,s4,hk4,hd4,hr4,ik4,id4,hR,hM⟩
    · exact iteF ⟨ks,ds,kws,dws,kv,dv,_,_,_,rfl,s4,hk4,hd4,hr4,ik4,id4,hR,hM⟩
  · rintro σ H4 ⟨ks,ds,kws,dws,kv,dv,x,y,z,rfl,s4,hk4,hd4,hr4,ik4,id4,hR,hM⟩
    refine ⟨_,rfl,_,_,rfl,.inl ⟨SqL.of hk4,fun p5 h5=>?_⟩⟩
    refine ⟨_,rfl,_,_,rfl,.inl ⟨SqL.of (old h5 hd4),fun p6 h6=>?_⟩⟩
    refine ⟨sN2,fun p7 h7=>⟨_,rfl,sN2,fun p8 h8=>?_⟩⟩
    have sA:=(((zf h5 (.tup kv)).new (o:=.tup dv) h6).new (o:=.tup [.ref p5,.ref p6]) h7).new (o:=.tup [.ref p7,.ref pr]) h8
    exact q _ p8 pr (.ref p7) ks ds kws dws (s4.trans sA) za (.tup (old h8 za) (.cons (.tup (old h8 (old h7 (old h6 za))) (ik4.keep (Tups.of sA))) (.cons (.tup (old h8 (old h7 za)) (id4.keep (Tups.of sA))) .nil))) (sA _ _ hr4) hR
end
structure RowV (ws:List Str):Prop where
  wd:∀ x∈ws,Wd x
  ne:ws≠[]
  few:ws.length<=2000
theorem RowW.v {ws:List Str} (h:RowW ws):RowV ws:=⟨h.wd,(by obtain ⟨x,r,e,_⟩:=h.ne; rw [e]; simp),h.few⟩
theorem za9 {ws:List Str} (h:RowV ws):10 ∉ cl (tx ws):=fun m=>by
  have m':10∈cl (Str.join (sg 32) ws):=by rw [<- Yw]; exact m
  rcases vS m' with e | ⟨x,hx,hd⟩
  · exact absurd e (by decide)
  · exact (h.wd x hx).nl hd
theorem Zj:∀ rows:List (List Str),(∀ ws∈rows,RowV ws)->((rows.map tx).map (·.length)).sum<=33 * rows.flatten.length
  | [],_=>by decide
  | ws :: r,h=>by
    have ih:=Zj r fun x hx=>h x (List.mem_cons_of_mem _ hx)
    have tl:=xf (h ws List.mem_cons_self).wd
    rw [List.map_cons,List.map_cons,List.sum_cons,List.flatten_cons,List.length_append]
    lia
theorem zc4 {a b:Str} {r:List Str}:tx (a :: b :: r)≠("":Str):=fun e=>by
  have e2:=congrArg cl e
  rw [show tx (a :: b :: r)=Str.join SP (a :: b :: r) from rfl,zt] at e2
  have e3:=(List.append_eq_nil_iff.mp e2).2
  have e4:=(List.append_eq_nil_iff.mp e3).1
  exact absurd e4 (by decide)
theorem Qn {rows:List (List Str)} (h:∀ ws∈rows,RowV ws) (h2:∃ ws∈rows,2<=ws.length) (hl:rows.flatten.length<=3000) (h100:rows.length<=100):(zR (Str.join NL (rows.map tx))).map yc=rows/\Fit (Str.join NL (rows.map tx)):=by
  have e1:zR (Str.join NL (rows.map tx))=rows.map tx:=by
    unfold zR
    have ne:Str.join NL (rows.map tx)≠"":=fun e=>by
      obtain ⟨ws,hw,hl2⟩:=h2
      cases rows with
      | nil=>cases hw
      | cons u r =>
        cases r with
        | nil =>
          rw [List.mem_singleton] at hw
          subst hw
          cases ws with
          | nil=>simp at hl2
          | cons a t =>
            cases t with
            | nil=>simp at hl2
            | cons b t=>exact zc4 (a:=a) (b:=b) (r:=t) e
        | cons v r =>
          have e3:=congrArg cl e
          rw [List.map_cons,List.map_cons,zt] at e3
          have e4:=(List.append_eq_nil_iff.mp (List.append_eq_nil_iff.mp e3).2).1
          exact absurd e4 (by decide)
    rw [if_neg ne,zbH]
    refine wb (fun z=>?_) fun x hx=>?_
    · obtain ⟨ws,hw,_⟩:=h2
      rw [List.map_eq_nil_iff] at z
      rw [z] at hw
      cases hw
    · obtain ⟨vs,hv,rfl⟩:=List.mem_map.mp hx
      exact za9 (h vs hv)
  have e2:(rows.map tx).map yc=rows:=by
    rw [List.map_map]
    exact (List.map_congr_left fun ws hws=>yR (h ws hws).ne (h ws hws).wd).trans (List.map_id _)
  have jl:=ZW (rows.map tx)
  have tl:=Zj rows h
  rw [List.length_map] at jl
  refine ⟨by rw [e1,e2],by lia,fun l hl=>?_,fun l hl x hx=>?_⟩
  · rw [e1] at hl
    obtain ⟨vs,hv,rfl⟩:=List.mem_map.mp hl
    have:=xf (h vs hv).wd
    have:=(h vs hv).few
    lia
  · rw [e1] at hl
    obtain ⟨vs,hv,rfl⟩:=List.mem_map.mp hl
    rw [show yc (tx vs)=vs from yR (h vs hv).ne (h vs hv).wd] at hx
    have:=((h vs hv).wd x hx).len
    lia
theorem Each.take {R:D->List Str->Prop}:∀ {ds:List D} {ws:List (List Str)} (j:Nat),Each R ds ws->Each R (ds.take j) (ws.take j)
  | [],[],j,_=>by rw [List.take_nil,List.take_nil]; exact True.intro
  | d :: ds,w :: ws,0,e=>True.intro
  | d :: ds,w :: ws,j + 1,e=>⟨e.1,Each.take j e.2⟩
  | [],_ :: _,_,e=>e.elim
  | _ :: _,[],_,e=>e.elim
theorem Each.drop {R:D->List Str->Prop}:∀ {ds:List D} {ws:List (List Str)} (j:Nat),Each R ds ws->Each R (ds.drop j) (ws.drop j)
  | [],[],j,_=>by rw [List.drop_nil,List.drop_nil]; exact True.intro
  | d :: ds,w :: ws,0,e=>e
  | d :: ds,w :: ws,j + 1,e=>Each.drop j e.2
  | [],_ :: _,_,e=>e.elim
  | _ :: _,[],_,e=>e.elim
theorem Each.app {R:D->List Str->Prop}:∀ {ds:List D} {ws:List (List Str)} {ds':List D} {ws':List (List Str)},Each R ds ws->Each R ds' ws'->Each R (ds ++ ds') (ws ++ ws')
  | [],[],_,_,_,g=>g
  | d :: ds,w :: ws,_,_,e,g=>⟨e.1,Each.app e.2 g⟩
  | [],_ :: _,_,_,e,_=>e.elim
  | _ :: _,[],_,_,e,_=>e.elim
theorem jm:∀ {ds:List D} {dws:List (List Str)} (i:Nat) (ks ds0:List D) (rest:List (List Str)) (o:Except Nat (List D × List D)),Each DGood ds dws->RowsR (i + dws.length) ks (ds0 ++ ds) rest o->RowsR i ks ds0 (dws ++ rest) o
  | [],[],i,ks,ds0,rest,o,_,r=>by
    rw [List.append_nil] at r
    exact r
  | d :: ds,w :: ws,i,ks,ds0,rest,o,e,r=>by
    have r1:=jm (i + 1) ks (ds0 ++ [d]) rest o e.2 (by
      rw [List.append_assoc,show i + 1 + ws.length=i + (w :: ws).length by rw [List.length_cons]; lia]
      exact r)
    refine .row (ks':=ks) (ds':=ds0 ++ [d]) ?_ r1
    obtain ⟨g,ns,b,bw,rfl,rfl,hg,hn,h9,hG,hb⟩:=e.1
    unfold rowR
    dsimp only
    rw [if_pos rfl]
    exact ⟨_,JZ hg hn h9 hG,rfl⟩
  | [],_ :: _,_,_,_,_,_,e,_=>e.elim
  | _ :: _,[],_,_,_,_,_,e,_=>e.elim
theorem WC {ks ds:List D} {kws dws:List (List Str)} {j:Nat} {b:List Str} {rest:List (List Str)} (hk:Each KGood ks kws) (hd:Each DGood ds dws) (hj:j<=(kws ++ dws).length) (hb:∀ ks' ds':List D,(kws.length < j->ds'≠[])->rowR ks' ds' b none):RowsR 0 [] [] ((kws ++ dws).take j ++ b :: rest) (.error j):=by
  rw [List.length_append] at hj
  rw [List.take_append,List.append_assoc]
  refine wc 0 [] _ _ (hk.take j) ?_
  refine jm _ _ [] _ _ (hd.take (j - kws.length)) ?_
  have e:0 + (kws.take j).length + (dws.take (j - kws.length)).length=j:=by
    rw [List.length_take,List.length_take]
    lia
  rw [e]
  refine .bad (hb _ _ fun h z=>?_)
  have l:=congrArg List.length z
  have:=hd.len
  rw [List.nil_append,List.length_take,List.length_nil] at l
  lia
theorem Qo {ks ds:List D} {kws dws L:List (List Str)} {j:Nat} {b:List Str} (hk:Each KGood ks kws) (hd:Each DGood ds dws) (hj:j<=(kws ++ dws).length) (ht:L.take j=(kws ++ dws).take j) (hb:L[j]?=some b) (hB:BadR b):RowsR 0 [] [] L (.error j):=by
  have hlt:=(List.getElem?_eq_some_iff.mp hb).1
  have e:L=(kws ++ dws).take j ++ b :: L.drop (j + 1):=by
    rw [<- ht]
    have:=List.getElem_cons_drop (as:=L) (i:=j) hlt
    rw [(List.getElem?_eq_some_iff.mp hb).2] at this
    rw [this,List.take_append_drop]
  rw [e]
  exact WC hk hd hj fun ks' ds' _=>hB ks' ds'
theorem xh {stop:Str} (hs:zk stop=false):∀ (ns acc r:List Str),(∀ x∈ns,zk x=true)->10<=acc.length + ns.length->acc.length<=9->zK LX stop acc (ns ++ r)=none
  | [],acc,r,_,h,h9=>by
    rw [List.length_nil] at h
    lia
  | x :: ns,acc,r,hn,h,h9=>by
    have hx:=hn x List.mem_cons_self
    rw [List.cons_append]
    unfold zK
    rw [if_neg (fun e=>by rw [e,hs] at hx; cases hx)]
    split
    · refine xh hs ns (acc ++ [x]) r (fun y hy=>hn y (List.mem_cons_of_mem _ hy)) ?_ ?_
      · rw [List.length_append,List.length_singleton]
        rw [List.length_cons] at h
        lia
      · rename_i c
        rw [List.length_append,List.length_singleton]
        lia
    · rfl
theorem YL {g:Str} {ns r:List Str} (hg:zk g=true) (hn:∀ x∈ns,zk x=true) (hl:ns.length<=9) (h:pB (r.length + 1) r=none):BadR (("def":Str) :: g :: (ns ++ ("=":Str) :: r)):=by
  obtain ⟨n,hR⟩:=xQ _ r (Nat.lt_succ_self _) h []
  exact vz (ZU rfl hg hn hl hR)
theorem XF {x:Str} {ns r:List Str} (hx:zk x=true) (hn:∀ x∈ns,zk x=true) (hl:ns.length=10):BadR (("def":Str) :: x :: (ns ++ r)):=by
  refine vz ?_
  unfold xj
  rw [z9 (L:=LX) hx]
  dsimp only [Option.bind_some]
  rw [xh (by decide +kernel) ns [] r hn (by rw [hl]; decide) (by decide)]
  rfl
theorem zba {g x:Str} {r:List Str} (hg:zk g=true) (hx:zk x=true) (hd:deed LX r=none):BadR (("def":Str) :: g :: ("=":Str) :: ("let":Str) :: x :: r):=by
  refine YL (ns:=[]) hg (fun _ h=>by cases h) (by decide) ?_
  unfold pB
  rw [if_neg (by decide),if_pos rfl,z9 (L:=LX) hx,Option.bind_some]
  dsimp only
  rw [hd]
  rfl
theorem jn {g x:Str} {r:List Str} (hg:zk g=true) (hx:zk x=true) (hd:∀ n,pA n [] r=none):BadR (("def":Str) :: g :: ("=":Str) :: ("case":Str) :: x :: r):=by
  refine YL (ns:=[]) hg (fun _ h=>by cases h) (by decide) ?_
  unfold pB
  rw [if_neg (by decide),if_neg (by decide),if_neg (by decide),if_pos rfl,z9 (L:=LX) hx,Option.bind_some]
  dsimp only
  rw [hd]
  rfl
theorem WD {r:List Str} (h:head LX r=none) (n:Nat):pA n [] r=none:=by
  cases n with
  | zero=>unfold pA; rfl
  | succ n =>
    unfold pA
    rw [h]
    rfl
theorem Vk {x:Str} {ns r:List Str} (hx:zk x=true) (hn:∀ x∈ns,zk x=true) (hl:ns.length=10):head LX (x :: (ns ++ r))=none:=by
  unfold head
  rw [z9 (L:=LX) hx,Option.bind_some]
  dsimp only
  rw [xh (by decide +kernel) ns [] r hn (by rw [hl]; decide) (by decide)]
  rfl
theorem Vl {o x:Str} {ns r:List Str} (ho:o∈DEEDS) (hx:zk x=true) (hn:∀ x∈ns,zk x=true) (hl:ns.length=10):deed LX (o :: x :: (ns ++ r))=none:=by
  unfold deed
  dsimp only
  have h1:∀ y∈DEEDS,y≠("num":Str)/\y ∉ OPS:=by decide
  rw [if_neg (h1 o ho).1,if_neg (h1 o ho).2,if_pos ho,z9 (L:=LX) hx,Option.bind_some]
  dsimp only
  rw [xh (by decide +kernel) ns [] r hn (by rw [hl]; decide) (by decide)]
  rfl
def armW (x:Str):List Str:=[x,":","give","a"]
theorem Zk {x:Str} (hx:zk x=true):∀ (m n:Nat) (done:List D),done.length + m=21->2<=m->pA n done ((List.replicate m (armW x)).flatten ++ [("end":Str)])=none
  | 0,_,_,_,h=>by lia
  | m + 1,0,done,_,_=>by unfold pA; rfl
  | m + 1,n + 1,done,h,h2=>by
    unfold pA
    rw [List.replicate_succ,List.flatten_cons,List.append_assoc]
    have hh:head LX (armW x ++ ((List.replicate m (armW x)).flatten ++ [("end":Str)]))=some ((x,[]),("give":Str) :: ("a":Str) :: ((List.replicate m (armW x)).flatten ++ [("end":Str)])):=ZO lex_ok (L:=LX) (ns:=[]) hx (fun _ h=>by cases h) (by decide)
    rw [hh,Option.bind_some]
    dsimp only
    cases n with
    | zero=>unfold pB; rfl
    | succ n =>
      unfold pB
      rw [if_pos rfl,z9 (L:=LX) (x:="a") (by decide +kernel)]
      dsimp only [Option.map_some,Option.bind_some]
      obtain ⟨m',rfl⟩:∃ m',m=m' + 1:=⟨m - 1,by lia⟩
      have nx:x≠"end":=fun e=>by rw [e] at hx; exact absurd hx (by decide +kernel)
      have es:(List.replicate (m' + 1) (armW x)).flatten ++ [("end":Str)]=x :: (([":","give","a"]:List Str) ++ ((List.replicate m' (armW x)).flatten ++ [("end":Str)])):=by
        rw [List.replicate_succ,List.flatten_cons,List.append_assoc]
        rfl
      rw [es]
      dsimp only
      rw [if_neg nx]
      split
      · rename_i c
        rw [<- es]
        refine Zk hx (m' + 1) (n + 1) _ ?_ (by lia)
        rw [List.length_append,List.length_singleton]
        lia
      · rfl
theorem Z0:zk "a"=true:=by decide +kernel
theorem Qp {x:Str} (hx:zk x=true):GoodA ⟨x,[],["give","a"],.tup [.str "give",.str "a"]⟩:=wC hx (fun _ h=>by cases h) (by decide) (yj Z0)
theorem Vm (x:Str) (m:Nat):(List.replicate m (⟨x,[],["give","a"],.tup [.str "give",.str "a"]⟩:Arm)).flatMap Arm.words=(List.replicate m (armW x)).flatten:=by
  rw [List.flatMap_def,List.map_replicate]
  rfl
theorem YM (x:Str) (m:Nat):(List.replicate m (armW x)).flatten.length=4 * m:=by
  induction m with
  | zero=>rfl
  | succ m ih =>
    rw [List.replicate_succ,List.flatten_cons,List.length_append,ih]
    show 4 + 4 * m=_
    lia
theorem Zl {x:Str} {m:Nat} (hx:zk x=true) (h0:0 < m) (h20:m<=20):∃ b,Good b ("case" :: x :: ((List.replicate m (armW x)).flatten ++ [("end":Str)])):=by
  rw [<- Vm]
  exact ⟨_,xN hx (fun z=>by have:=congrArg List.length z; rw [List.length_replicate] at this; simp at this; lia) (fun a ha=>by rw [(List.mem_replicate.mp ha).2]; exact Qp hx) (by rw [List.length_replicate]; exact h20)⟩
end Rdr
namespace L2
open PySem PySem.Spec PyProof.Rows
section
variable {X:Cx}
def WE:V->List V->Hp->VK->Prop:=fun x vs H Q=>∃ l xs k kk y,x=.ref l/\vs=[.int kk,y]/\kk=((k:Nat):Int)/\H l=some (.lst xs)/\xs.length < sizeLine/\k<=xs.length/\Q .non (upd H l (.lst (xs.take k ++ y :: xs.drop k)))
theorem Vn:MtM X "list.insert" WE:=by
  intro pins s σ H x vs v us Q I rx rv h
  obtain ⟨l,xs,k,kk,y,rfl,rfl,hkk,hH,hz,hk,q⟩:=h
  cases rx
  obtain ⟨u,u',rfl,ru,ru'⟩:=rv.two
  obtain ⟨t,rfl⟩:=ru
  obtain ⟨z,its,n,r,hl,e⟩:=I.lstM hH
  have sl:sizeLine=16777216:=by unfold sizeLine; rfl
  have hz2:its.toArray.size<=sizeLine:=by rw [List.size_toArray]; lia
  have hf:Builtin.List.listFitsIndex kk=true:=by
    unfold Builtin.List.listFitsIndex
    simp
    lia
  have h0:¬(!Builtin.List.listFitsIndex kk)=true:=by rw [hf]; decide
  have g:=PySem.AutoSeq1.list_insert_list_int_val_1 l its.toArray n kk t u' h0 hz2
  refine call_meets F.slot_list_insert ⟨_,e,rfl⟩ F.entry_list_insert (F.args_list_insert_3 _ _ _) g ⟨e,?_⟩
  refine ⟨.non,_,I.lset (its':=its.take k ++ u' :: its.drop k) hH e ?_ ((r.take k).append (.cons ru' (r.drop k))) ?_,rfl,q⟩
  · have e1:(if kk < 0 then (kk + ((its.toArray.size:Nat):Int)).toNat else min kk.toNat its.toArray.size)=k:=by
      rw [if_neg (by lia),List.size_toArray]
      lia
    show (its.toArray.extract 0 (if kk < 0 then (kk + ((its.toArray.size:Nat):Int)).toNat else min kk.toNat its.toArray.size)).push u' ++ its.toArray.extract (if kk < 0 then (kk + ((its.toArray.size:Nat):Int)).toNat else min kk.toNat its.toArray.size)=_
    rw [e1]
    apply Array.toList_inj.mp
    simp [Array.toList_extract,List.extract,List.take_of_length_le]
  · rw [List.length_append,List.length_cons,List.length_take,List.length_drop]
    lia
theorem Zm:jMt X "list.insert" WE:=⟨Vn⟩
end
end L2
namespace L2
open PySem
section
variable {a b c d e u:TS} {D:Ends} {σ:List (Option V)} {H:Hp}
theorem ixT {K:PySem.W.Frag} {Q:VK} {p:Addr} {xs:List V} {i:Int} {v:V} (h:H p=some (.tup xs)) (a:atI xs i=some v) (q:Q v H):tC (.int i) σ H fun y H2=>rIxT K (.ref p) y H2 Q:=⟨p,xs,i,v,rfl,rfl,SqT.of h,a,q⟩
theorem nxtC {E:Ends} (h:E.nx σ H):Vy E σ H:=h
end
section
variable {X:Cx} {o i:Expr} {to ti:TE} {pos:Pos}
theorem vA (ho:jE X o to) (hi:jE X i ti) (ha:∀ v,assign (.Subscript o i pos) X.env v=(do
      let ov <- holding [v] (eval o X.env)
      let iv <- holding [v,ov] (eval i X.env)
      standAt pos
      holding [v,ov,iv] (setItem ov iv v)
      release [v,ov,iv] []):=by intro _; rfl):jG X (.Subscript o i pos) (gSub to ti zbA):=⟨zb5 ho.out hi.out VR ha⟩
theorem Qq:jOp X (binaryOp .Mult) rRep:=⟨zct⟩
end
end L2
namespace Rdr
open PySem L2 K11 Rd
abbrev sBad:Stmt:=top 59
abbrev jo:Stmt:=top 60
abbrev Qr:Stmt:=top 61
abbrev Qs:Stmt:=top 62
abbrev Qt:Stmt:=top 63
abbrev Qu:Stmt:=top 64
abbrev XG:Stmt:=top 65
theorem jp {l:List Str} {n m:Int} (hm:m=((l.length:Nat):Int)) (h0:0 < m):∃ x∈l,atI (l.map V.str) (n % m)=some (.str x):=by
  have a:=Int.emod_nonneg n (show m≠0 by lia)
  have b:=Int.emod_lt_of_pos n h0
  have hk:(n % m).toNat < l.length:=by lia
  refine ⟨l[(n % m).toNat],List.getElem_mem hk,?_⟩
  have:=yT (xs:=l.map V.str) (j:=(n % m).toNat) (v:=.str l[(n % m).toNat]) (by rw [List.getElem?_map,List.getElem?_eq_getElem hk]; rfl)
  rwa [show (((n % m).toNat:Nat):Int)=n % m by lia] at this
def BADS:List Str:=["Ab","a1","abcdefghijklm","-0","007",Txt.mul "1" 31,"+1","x-y","_","","a;","Give","1_0"]
theorem WF:∀ x∈BADS,okW x=false/\wdB x=true:=by decide +kernel
def zbM:Sp:=fun vs H Q _=>∃ n:Int,vs=[.int n]/\∀ H' x,Same H H'->okW x=false->Wd x->Q (.str x) H'
def Zn:Sp:=fun vs H Q _=>∃ (ws:List Str) (c:Int),vs=[.str (tx ws),.int c]/\RowG ws/\∀ (H':Hp) (us:List Str),Same H H'->BadR us->RowV us->2<=us.length->us.length<=414->Q (.str (tx us)) H'
section
variable {P:Program} {w:World} {K:PySem.W.Frag} {mg:Str->Option Value} {base:Heap} {f:Addr} {fd:FuncData}
theorem scBad:FnScope ["_law_number_here","_law_some"] ["_law_number_here"] (zj sBad):=.ok
theorem zc5 (F:Fun K "_law_bad" "_law_bad" sBad f fd):FnOk P w K mg base CX0 1 f fd ["_law_number_here"] zbM:=by
  refine F.by scBad (fun vs H Q E h=>?_) (fun cdv A outer s H vs Q E hr h=>?_)
  · obtain ⟨n,rfl,_⟩:=h
    rfl
  obtain ⟨n,rfl,q⟩:=h
  refine ⟨_,
    (zb (sE 1 scBad.nd (zp (ja_c zd (ja_c zd (ja_c zd (ja_c zd (jA9 zd (zh vJ zd zc) zd zd zd zd zd zd zd)))))))
    (ze (zo (xX z5 (jv 1) (zh zu (jv 0) zc))))),?_⟩
  refine ⟨_,_,rfl,rfl,Jf rfl (by decide) (by decide),sN13,fun p hp=>?_⟩
  obtain ⟨x,hx,hat⟩:=jp (l:=BADS) (n:=n) (m:=13) rfl (by decide)
  exact ⟨_,rfl,_,rfl,_,_,rfl,rfl,(by show (0:Int) < _; decide),p,BADS.map V.str,_,_,rfl,rfl,SqL.of za,hat,q _ x (zf hp _) (WF x hx).1 (yg (WF x hx).2)⟩
theorem zbb {r:List Str} (h:r≠[]):Str.join SP (("kind def":Str) :: r)=tx (("kind":Str) :: ("def":Str) :: r):=by
  cases r with
  | nil=>exact absurd rfl h
  | cons a t =>
    apply yF
    rw [show tx (("kind":Str) :: ("def":Str) :: a :: t)=Str.join SP (("kind":Str) :: ("def":Str) :: a :: t) from rfl,zt,zt,zt,show cl ("kind def":Str)=cl ("kind":Str) ++ (cl SP ++ cl ("def":Str)) by decide +kernel]
    simp only [List.append_assoc]
theorem Qv:∀ {zs:List Str},(∀ x∈zs,x.length<=32)->wide SP zs<=33 * zs.length
  | [],_=>by decide
  | z :: r,h=>by
    have ih:=Qv (zs:=r) fun x hx=>h x (List.mem_cons_of_mem _ hx)
    have:=h z List.mem_cons_self
    have s1:SP.length=1:=by decide
    unfold wide at ih ⊢
    rw [List.map_cons,List.sum_cons,List.length_cons,s1]
    rw [s1] at ih
    lia
theorem zbc:∀ x∈(["a","end","0",";",""]:List Str),wdB x=true:=by decide +kernel
theorem Qw:∀ x∈(["Kind","give","a","","kind def"]:List Str),x="kind def"\/(wdB x=true/\x≠"def"/\x≠"kind"):=by decide +kernel
theorem RowV.of {ws:List Str} (h:∀ x∈ws,Wd x) (h2:2<=ws.length) (h4:ws.length<=414):RowV ws:=⟨h,fun e=>by rw [e] at h2; simp at h2,by lia⟩
theorem zdB {a b c d e f g u:TS} {D:Ends} {σ:St} {H:Hp} (R:St->Hp->Prop) (fin:∀ σ' H',R σ' H'->u D σ' H') (key:∀ (v:TS) (D':Ends),(∀ σ' H',R σ' H'->v D' σ' H')->(tSeq a (tSeq b (tSeq c (tSeq d (tSeq e (tSeq f (tSeq g v)))))):TS) D' σ H):(tSeq a (tSeq b (tSeq c (tSeq d (tSeq e (tSeq f (tSeq g u)))))):TS) D σ H:=key u D fin
theorem scSpoiled:FnScope ["_law_row","_law_cell","_law_words","_law_way","_law_number_here","_law_at"] ["_law_row","_law_cell"] (zj jo):=.ok
theorem XH (F:Fun K "_law_spoiled" "_law_spoiled" jo f fd) (GB:Ca P w K mg base CX0 1 "_law_bad" ["_law_number_here"] zbM) (m_len:mg "len"=none):FnOk P w K mg base CX0 2 f fd ["_law_row","_law_cell"] Zn:=by
  refine F.by scSpoiled (fun vs H Q E h=>?_) (fun cdv A outer s H vs Q E hr h=>?_)
  · obtain ⟨ws,c,rfl,_⟩:=h
    rfl
  obtain ⟨ws,c,rfl,hG,q⟩:=h
  refine ⟨_,
    (zb (sE 2 scSpoiled.nd (zy PySem.F.plainAttrs_str PySem.F.slot_str_split PySem.F.type_str_split yP (jv 0) (jA1 zd)))
    (zb (sE 3 scSpoiled.nd (zh zu (jv 1) zc))
    (zb (sE 4 scSpoiled.nd (zh zC (jv 1) zc))
    (zb (sE 5 scSpoiled.nd (zh zu (zh zC (jv 4) zc) (jL m_len (jv 2))))
    (zb (zx (tN zV (jv 3) zc)
      (ze (yu (cA GB hr (jA1 (jv 4))) (vA (jv 2) (jv 5)))) zq)
    (zb (zx (tN zV (jv 3) zc)
      (ze (sE 2 scSpoiled.nd (zB z8 (jv 2) zT (zD (x4 zc))))) zq)
    (zb (zx (tN zV (jv 3) zc)
      (ze (zv (zy PySem.F.plainAttrs_list PySem.F.slot_list_append PySem.F.type_list_append zA (jv 2) (jA1 (xX z5 (zp (jA5 zd zd zd zd zd)) (zh zu (jv 4) zc)))))) zq)
    (zb (zx (tN zV (jv 3) zc)
      (ze (zv (zy PySem.F.plainAttrs_list PySem.F.slot_list_insert PySem.F.type_list_insert Zm (jv 2) (jA2 zc zd)))) zq)
    (zb (zx (tN zV (jv 3) zc)
      (ze (zv (zy PySem.F.plainAttrs_list PySem.F.slot_list_insert PySem.F.type_list_insert Zm (jv 2) (jA2 (jv 5) zd)))) zq)
    (zb (zx (tN zV (jv 3) zc)
      (ze (sE 2 scSpoiled.nd (zp (jA2 zd zd)))) zq)
    (zb (zx (tN zV (jv 3) zc)
      (ze (yu (xX z5 (zp (jA5 zd zd zd zd zd)) (zh zu (jv 4) zc)) (vA (jv 2) zc))) zq)
    (ze (zo (zy PySem.F.plainAttrs_str PySem.F.slot_str_join PySem.F.type_str_join zO zd (jA1 (jv 2)))))))))))))))),?_⟩
  have sl:=line
  have cD:∀ {i j:Int},0 < j->j < 1073741824->CDiv i j:=fun h1 h2=>⟨h1,h2⟩
  obtain ⟨w3,w4⟩:=hG.three
  have hW:=hG.rw
  have tl:=xf hW.wd
  have w32:∀ x∈ws,x.length<=32:=fun x hx=>(hW.wd x hx).len
  have esp:Txt.split (tx ws) SP=ws:=yR (by obtain ⟨x,r,e,_⟩:=hW.ne; rw [e]; simp) hW.wd
  refine ⟨_,rfl,rfl,tx ws,SP,rfl,rfl,by decide,by lia,fun lw hlw=>?_⟩
  rw [esp]
  have s1:=zf hlw (.lst (ws.map V.str))
  have h1:=za (H:=H) (a:=lw) (o:=.lst (ws.map V.str))
  dsimp only [List.set,L2.start]
  generalize upd H lw (.lst (ws.map V.str))=H1 at *
  have b1:=Int.emod_nonneg c (show (7:Int)≠0 by decide)
  have b2:=Int.emod_lt_of_pos c (show (0:Int) < 7 by decide)
  have b3:=Int.emod_nonneg (c / 7 / 13) (show ((ws.length:Nat):Int)≠0 by lia)
  have b4:=Int.emod_lt_of_pos (c / 7 / 13) (show (0:Int) < ((ws.length:Nat):Int) by lia)
  refine ⟨_,rfl,_,_,rfl,rfl,(by show (0:Int) < _; decide),?_⟩
  refine ⟨_,rfl,_,_,rfl,rfl,cD (by decide) (by decide),?_⟩
  refine ⟨_,rfl,_,_,rfl,rfl,cD (by decide) (by decide),_,rfl,_,_,rfl,.inl (SqL.of h1),_,_,rfl,rfl,(by show (0:Int) < _; rw [List.length_map]; lia),?_⟩
  rw [List.length_map]
  unfold we
  dsimp only
  show (tSeq _ _:TS) _ [some (.str (tx ws)),some (.int c),some (.ref lw),some (.int (c % 7)),some (.int (c / 7)),some (.int (c / 7 / 13 % ((ws.length:Nat):Int)))] H1
  generalize c % 7=way at *
  obtain ⟨j,hj⟩:∃ j:Nat,c / 7 / 13 % ((ws.length:Nat):Int)=(j:Nat):=⟨(c / 7 / 13 % ((ws.length:Nat):Int)).toNat,by lia⟩
  rw [hj] at b4 ⊢
  have jl:j < ws.length:=by lia
  generalize c / 7=num at *
  have hix:ixN (ws.map V.str).length ((j:Nat):Int)=some j:=by
    unfold ixN
    rw [List.length_map,if_pos (by lia),if_pos (by lia)]
    rfl
  refine zdB (fun σ' H'=>∃ (lw':Addr) (zs us:List Str),σ'=[some (.str (tx ws)),some (.int c),some (.ref lw'),some (.int way),some (.int num),some (.int ((j:Nat):Int))]/\Same H H'/\H' lw'=some (.lst (zs.map V.str))/\Str.join SP zs=tx us/\(∀ x∈zs,x.length<=32)/\zs.length<=414/\BadR us/\(∀ x∈us,Wd x)/\2<=us.length/\us.length<=414) ?fin ?key
  case fin =>
    rintro σ' H' ⟨lw',zs,us,rfl,s',h',ej,h32,hl,hB,hw,u2,u4⟩
    have wl:=Qv h32
    refine ⟨rfl,_,rfl,_,lw',zs,rfl,rfl,SqL.of h',by show wide SP zs<=sizeLine; lia,?_⟩
    rw [show Str.join (" ":Str) zs=tx us from ej]
    exact q _ us s' hB (.of hw u2 u4) u2 u4
  case key =>
  intro u Dn fin'
  have fin:∀ (H':Hp) (lw':Addr) (zs us:List Str),Same H H'->H' lw'=some (.lst (zs.map V.str))->Str.join SP zs=tx us->(∀ x∈zs,x.length<=32)->zs.length<=414->BadR us->(∀ x∈us,Wd x)->2<=us.length->us.length<=414->u Dn [some (.str (tx ws)),some (.int c),some (.ref lw'),some (.int way),some (.int num),some (.int ((j:Nat):Int))] H':=fun H' lw' zs us a1 a2 a3 a4 a5 a6 a7 a8 a9=>fin' _ _ ⟨lw',zs,us,rfl,a1,a2,a3,a4,a5,a6,a7,a8,a9⟩
  have:way=0\/way=1\/way=2\/way=3\/way=4\/way=5\/way=6:=by lia
  rcases this with e | e | e | e | e | e | e <;> subst e
  · refine ⟨_,rfl,rfl,_,rfl,iteT ⟨_,rfl,_,rfl,fun H2 x s2 hx hw=>⟨_,rfl,_,rfl,lw,_,_,j,rfl,rfl,s2 _ _ h1,hix,?_⟩⟩⟩
    dsimp only
    refine ⟨_,rfl,rfl,_,rfl,iteF (nxtC ?_)⟩
    dsimp only
    refine ⟨_,rfl,rfl,_,rfl,iteF (nxtC ?_)⟩
    dsimp only
    refine ⟨_,rfl,rfl,_,rfl,iteF (nxtC ?_)⟩
    dsimp only
    refine ⟨_,rfl,rfl,_,rfl,iteF (nxtC ?_)⟩
    dsimp only
    refine ⟨_,rfl,rfl,_,rfl,iteF (nxtC ?_)⟩
    dsimp only
    refine ⟨_,rfl,rfl,_,rfl,iteF (nxtC ?_)⟩
    dsimp only
    rw [<- List.map_set]
    refine fin _ lw (ws.set j x) (ws.set j x) ((s1.trans s2).put hlw) za rfl (fun y hy=>?_) (by rw [List.length_set]; lia) (wE (List.mem_set jl x) hx) (fun y hy=>?_) (by rw [List.length_set]; lia) (by rw [List.length_set]; lia)
    · rcases List.mem_or_eq_of_mem_set hy with e | e
      · exact w32 y e
      · rw [e]; exact hw.len
    · rcases List.mem_or_eq_of_mem_set hy with e | e
      · exact hW.wd y e
      · rw [e]; exact hw
  · refine ⟨_,rfl,rfl,_,rfl,iteF (nxtC ?_)⟩
    dsimp only
    obtain ⟨l,y,el⟩:∃ l y,ws=l ++ [y]:=⟨ws.dropLast,ws.getLast (fun z=>by rw [z] at w3; simp at w3),(List.dropLast_concat_getLast _).symm⟩
    refine ⟨_,rfl,rfl,_,rfl,iteT ⟨_,rfl,_,rfl,_,rfl,lw,_,rfl,SqL.of h1,fun p2 hp2=>?_⟩⟩
    rw [show cutV (ws.map V.str) none (some (-1))=l.map V.str by rw [el]; exact YA V.str y l]
    dsimp only [List.set]
    refine ⟨_,rfl,rfl,_,rfl,iteF (nxtC ?_)⟩
    dsimp only
    refine ⟨_,rfl,rfl,_,rfl,iteF (nxtC ?_)⟩
    dsimp only
    refine ⟨_,rfl,rfl,_,rfl,iteF (nxtC ?_)⟩
    dsimp only
    refine ⟨_,rfl,rfl,_,rfl,iteF (nxtC ?_)⟩
    dsimp only
    refine ⟨_,rfl,rfl,_,rfl,iteF (nxtC ?_)⟩
    dsimp only
    have ll:ws.length=l.length + 1:=by rw [el,List.length_append,List.length_singleton]
    exact fin _ p2 l l (s1.new hp2) za rfl (fun y hy=>w32 y (by rw [el]; exact List.mem_append_left _ hy)) (by lia) (Qh (x:=y) (by rw [<- el]; exact hG)) (fun y hy=>hW.wd y (by rw [el]; exact List.mem_append_left _ hy)) (by lia) (by lia)
  · refine ⟨_,rfl,rfl,_,rfl,iteF (nxtC ?_)⟩
    dsimp only
    refine ⟨_,rfl,rfl,_,rfl,iteF (nxtC ?_)⟩
    dsimp only
    obtain ⟨y,hy,hat⟩:=jp (l:=["a","end","0",";",""]) (n:=num) (m:=5) rfl (by decide)
    have hyw:=yg (zbc y hy)
    refine ⟨_,rfl,rfl,_,rfl,iteT ⟨_,rfl,.inl ⟨rfl,_,SqL.of h1⟩,sN5,fun p2 hp2=>⟨_,rfl,_,_,rfl,rfl,(by show (0:Int) < _; decide),p2,(["a","end","0",";",""]:List Str).map V.str,_,_,rfl,rfl,SqL.of za,hat,lw,_,_,rfl,rfl,old hp2 h1,by rw [List.length_map]; lia,?_⟩⟩⟩
    dsimp only
    refine ⟨_,rfl,rfl,_,rfl,iteF (nxtC ?_)⟩
    dsimp only
    refine ⟨_,rfl,rfl,_,rfl,iteF (nxtC ?_)⟩
    dsimp only
    refine ⟨_,rfl,rfl,_,rfl,iteF (nxtC ?_)⟩
    dsimp only
    refine ⟨_,rfl,rfl,_,rfl,iteF (nxtC ?_)⟩
    dsimp only
    refine fin _ lw (ws ++ [y]) (ws ++ [y]) ((s1.new hp2).put hlw) (by rw [za,List.map_append]; rfl) rfl (fun z hz=>?_) (by rw [List.length_append,List.length_singleton]; lia) (Qi hG) (fun z hz=>?_) (by rw [List.length_append,List.length_singleton]; lia) (by rw [List.length_append,List.length_singleton]; lia)
    · rcases List.mem_append.mp hz with e | e
      · exact w32 z e
      · rw [List.mem_singleton.mp e]; exact hyw.len
    · rcases List.mem_append.mp hz with e | e
      · exact hW.wd z e
      · rw [List.mem_singleton.mp e]; exact hyw
  · refine ⟨_,rfl,rfl,_,rfl,iteF (nxtC ?_)⟩
    dsimp only
    refine ⟨_,rfl,rfl,_,rfl,iteF (nxtC ?_)⟩
    dsimp only
    refine ⟨_,rfl,rfl,_,rfl,iteF (nxtC ?_)⟩
    dsimp only
    have hyw:Wd ("":Str):=yg (by decide +kernel)
    refine ⟨_,rfl,rfl,_,rfl,iteT ⟨_,rfl,.inl ⟨rfl,_,SqL.of h1⟩,lw,_,0,_,_,rfl,rfl,rfl,h1,by rw [List.length_map]; lia,Nat.zero_le _,?_⟩⟩
    dsimp only
    refine ⟨_,rfl,rfl,_,rfl,iteF (nxtC ?_)⟩
    dsimp only
    refine ⟨_,rfl,rfl,_,rfl,iteF (nxtC ?_)⟩
    dsimp only
    refine ⟨_,rfl,rfl,_,rfl,iteF (nxtC ?_)⟩
    dsimp only
    refine fin _ lw ("" :: ws) ("" :: ws) (s1.put hlw) za rfl (fun z hz=>?_) (by rw [List.length_cons]; lia) (wF (by decide) (by decide)) (fun z hz=>?_) (by rw [List.length_cons]; lia) (by rw [List.length_cons]; lia)
    · rcases List.mem_cons.mp hz with e | e
      · rw [e]; exact hyw.len
      · exact w32 z e
    · rcases List.mem_cons.mp hz with e | e
      · rw [e]; exact hyw
      · exact hW.wd z e
  · refine ⟨_,rfl,rfl,_,rfl,iteF (nxtC ?_)⟩
    dsimp only
    refine ⟨_,rfl,rfl,_,rfl,iteF (nxtC ?_)⟩
    dsimp only
    refine ⟨_,rfl,rfl,_,rfl,iteF (nxtC ?_)⟩
    dsimp only
    refine ⟨_,rfl,rfl,_,rfl,iteF (nxtC ?_)⟩
    dsimp only
    have hyw:Wd ("":Str):=yg (by decide +kernel)
    refine ⟨_,rfl,rfl,_,rfl,iteT ⟨_,rfl,.inl ⟨rfl,_,SqL.of h1⟩,_,rfl,lw,_,j,_,_,rfl,rfl,rfl,h1,by rw [List.length_map]; lia,by rw [List.length_map]; lia,?_⟩⟩
    dsimp only
    refine ⟨_,rfl,rfl,_,rfl,iteF (nxtC ?_)⟩
    dsimp only
    refine ⟨_,rfl,rfl,_,rfl,iteF (nxtC ?_)⟩
    dsimp only
    have hz2:∀ z∈ws.take j ++ ("":Str) :: ws.drop j,z=""\/z∈ws:=fun z hz=>by
      rcases List.mem_append.mp hz with e | e
      · exact .inr (List.mem_of_mem_take e)
      · rcases List.mem_cons.mp e with e | e
        · exact .inl e
        · exact .inr (List.mem_of_mem_drop e)
    have ll:(ws.take j ++ ("":Str) :: ws.drop j).length=ws.length + 1:=by rw [List.length_append,List.length_cons,List.length_take,List.length_drop]; lia
    refine fin _ lw (ws.take j ++ ("":Str) :: ws.drop j) (ws.take j ++ ("":Str) :: ws.drop j) (s1.put hlw) (by rw [za,List.map_append,List.map_cons,List.map_take,List.map_drop]) rfl (fun z hz=>?_) (by lia) (wE (List.mem_append_right _ List.mem_cons_self) (by decide +kernel)) (fun z hz=>?_) (by lia) (by lia)
    · rcases hz2 z hz with e | e
      · rw [e]; exact hyw.len
      · exact w32 z e
    · rcases hz2 z hz with e | e
      · rw [e]; exact hyw
      · exact hW.wd z e
  · refine ⟨_,rfl,rfl,_,rfl,iteF (nxtC ?_)⟩
    dsimp only
    refine ⟨_,rfl,rfl,_,rfl,iteF (nxtC ?_)⟩
    dsimp only
    refine ⟨_,rfl,rfl,_,rfl,iteF (nxtC ?_)⟩
    dsimp only
    refine ⟨_,rfl,rfl,_,rfl,iteF (nxtC ?_)⟩
    dsimp only
    refine ⟨_,rfl,rfl,_,rfl,iteF (nxtC ?_)⟩
    dsimp only
    have hyw:Wd ("":Str):=yg (by decide +kernel)
    refine ⟨_,rfl,rfl,_,rfl,iteT ⟨sN2,fun p2 hp2=>?_⟩⟩
    dsimp only [List.set]
    refine ⟨_,rfl,rfl,_,rfl,iteF (nxtC ?_)⟩
    dsimp only
    have hz2:∀ z∈(["",""]:List Str),z="":=by decide
    exact fin _ p2 ["",""] ["",""] (s1.new hp2) za rfl (fun z hz=>by rw [hz2 z hz]; exact hyw.len) (by decide) (wF (by decide) (by decide)) (fun z hz=>by rw [hz2 z hz]; exact hyw) (by decide) (by decide)
  · refine ⟨_,rfl,rfl,_,rfl,iteF (nxtC ?_)⟩
    dsimp only
    refine ⟨_,rfl,rfl,_,rfl,iteF (nxtC ?_)⟩
    dsimp only
    refine ⟨_,rfl,rfl,_,rfl,iteF (nxtC ?_)⟩
    dsimp only
    refine ⟨_,rfl,rfl,_,rfl,iteF (nxtC ?_)⟩
    dsimp only
    refine ⟨_,rfl,rfl,_,rfl,iteF (nxtC ?_)⟩
    dsimp only
    refine ⟨_,rfl,rfl,_,rfl,iteF (nxtC ?_)⟩
    dsimp only
    obtain ⟨y,hy,hat⟩:=jp (l:=["Kind","give","a","","kind def"]) (n:=num) (m:=5) rfl (by decide)
    have hi0:ixN (ws.map V.str).length (0:Int)=some 0:=by
      unfold ixN
      rw [List.length_map,if_pos (by decide),if_pos (by lia)]
      rfl
    refine ⟨_,rfl,rfl,_,rfl,iteT ⟨sN5,fun p2 hp2=>⟨_,rfl,_,_,rfl,rfl,(by show (0:Int) < _; decide),p2,(["Kind","give","a","","kind def"]:List Str).map V.str,_,_,rfl,rfl,SqL.of za,hat,_,rfl,lw,_,_,0,rfl,rfl,old hp2 h1,hi0,?_⟩⟩⟩
    dsimp only
    obtain ⟨a,r,ew⟩:∃ a r,ws=a :: r:=by obtain ⟨x,r,e,_⟩:=hW.ne; exact ⟨x,r,e⟩
    have lr:ws.length=r.length + 1:=by rw [ew]; rfl
    have em:(ws.map V.str).set 0 (V.str y)=(y :: r).map V.str:=by rw [ew]; rfl
    have rw':∀ z∈r,z∈ws:=fun z hz=>by rw [ew]; exact List.mem_cons_of_mem _ hz
    rw [em]
    rcases Qw y hy with e | ⟨e1,e2,e3⟩
    · subst e
      refine fin _ lw ("kind def" :: r) ("kind" :: "def" :: r) ((s1.new hp2).put hlw) za (zbb (fun z=>by rw [z] at lr; simp at lr; lia)) (fun z hz=>?_) (by rw [List.length_cons]; lia) zc3 (fun z hz=>?_) (by simp) (by simp only [List.length_cons]; lia)
      · rcases List.mem_cons.mp hz with e | e
        · rw [e]; decide
        · exact w32 z (rw' z e)
      · rcases List.mem_cons.mp hz with e | e
        · rw [e]; exact yg (by decide +kernel)
        · rcases List.mem_cons.mp e with e | e
          · rw [e]; exact yg (by decide +kernel)
          · exact hW.wd z (rw' z e)
    · have hyw:=yg e1
      refine fin _ lw (y :: r) (y :: r) ((s1.new hp2).put hlw) za rfl (fun z hz=>?_) (by rw [List.length_cons]; lia) (wF e2 e3) (fun z hz=>?_) (by rw [List.length_cons]; lia) (by rw [List.length_cons]; lia)
      · rcases List.mem_cons.mp hz with e | e
        · rw [e]; exact hyw.len
        · exact w32 z (rw' z e)
      · rcases List.mem_cons.mp hz with e | e
        · rw [e]; exact hyw
        · exact hW.wd z (rw' z e)
end
structure EdgeOk (m:Int) (ws:List Str):Prop where
  wd:∀ x∈ws,Wd x
  lo:2<=ws.length
  hi:ws.length<=100
  good:m=0->∃ d,DGood d ws
  bad:m=1->BadR ws
theorem kwd:∀ x∈KWS,wdB x=true:=by decide +kernel
theorem AllWd.names {ns:List Str} (h:∀ x∈ns,zk x=true):∀ x∈ns,Wd x:=fun x hx=>(zF (h x hx)).1
theorem zr {a:Str} {r:List Str} (h:Wd a) (g:∀ x∈r,Wd x):∀ x∈a :: r,Wd x:=fun x hx=>(List.mem_cons.mp hx).elim (fun e=>e ▸ h) (g x)
theorem jq {a r:List Str} (h:∀ x∈a,Wd x) (g:∀ x∈r,Wd x):∀ x∈a ++ r,Wd x:=fun x hx=>(List.mem_append.mp hx).elim (h x) (g x)
theorem xD:∀ x∈([]:List Str),Wd x:=fun x hx=>by cases hx
theorem wd_k {x:Str} (h:x∈KWS):Wd x:=yg (kwd x h)
section
variable {m:Int} {x:Str} {ns:List Str}
theorem zdC (hx:zk x=true) (hn:∀ y∈ns,zk y=true) (hl:(ns.length:Int)=9 + m) (h1:m=0\/m=1):EdgeOk m (("def":Str) :: x :: (ns ++ [("=":Str),"give",x])):=by
  have xw:=(zF hx).1
  refine ⟨zr (wd_k (by decide)) (zr xw (jq (AllWd.names hn) (zr (wd_k (by decide)) (zr (wd_k (by decide)) (zr xw xD))))),by simp,?_,fun e=>⟨_,x,ns,_,_,rfl,rfl,hx,hn,by lia,yj hx,by simp⟩,fun e=>XF hx hn (by lia)⟩
  simp only [List.length_cons,List.length_append,List.length_nil]
  lia
theorem zdD {o:Str} (ho:o∈DEEDS) (hx:zk x=true) (hn:∀ y∈ns,zk y=true) (hl:(ns.length:Int)=9 + m) (h1:m=0\/m=1):EdgeOk m (("def":Str) :: x :: ("=":Str) :: ("let":Str) :: x :: o :: x :: (ns ++ [(";":Str),"give",x])):=by
  have xw:=(zF hx).1
  refine ⟨zr (wd_k (by decide)) (zr xw (zr (wd_k (by decide)) (zr (wd_k (by decide)) (zr xw (zr (wd_k (List.mem_append_right _ ho)) (zr xw (jq (AllWd.names hn) (zr (wd_k (by decide)) (zr (wd_k (by decide)) (zr xw xD)))))))))),by simp,?_,fun e=>?_,fun e=>zba hx hx (Vl ho hx hn (by lia))⟩
  · simp only [List.length_cons,List.length_append,List.length_nil]
    lia
  · have g:=wB hx (xz ho hx hn (by lia)) (yj hx)
    refine ⟨_,x,[],_,_,rfl,?_,hx,(fun _ h=>by cases h),by decide,g,?_⟩
    · simp
    · simp only [List.length_cons,List.length_append,List.length_nil]
      lia
theorem zdE (hx:zk x=true) (hn:∀ y∈ns,zk y=true) (hl:(ns.length:Int)=9 + m) (h1:m=0\/m=1):EdgeOk m (("def":Str) :: x :: ("=":Str) :: ("case":Str) :: x :: x :: (ns ++ [(":":Str),"give",x,"end"])):=by
  have xw:=(zF hx).1
  refine ⟨zr (wd_k (by decide)) (zr xw (zr (wd_k (by decide)) (zr (wd_k (by decide)) (zr xw (zr xw (jq (AllWd.names hn) (zr (wd_k (by decide)) (zr (wd_k (by decide)) (zr xw (zr (wd_k (by decide)) xD)))))))))),by simp,?_,fun e=>?_,fun e=>jn hx hx (WD (Vk hx hn (by lia)))⟩
  · simp only [List.length_cons,List.length_append,List.length_nil]
    lia
  · have g:=xN (x:=x) (arms:=[⟨x,ns,["give",x],.tup [.str "give",.str x]⟩]) hx (by simp) (fun a ha=>by rw [List.mem_singleton.mp ha]; exact wC hx hn (by lia) (yj hx)) (by simp)
    refine ⟨_,x,[],_,_,rfl,?_,hx,(fun _ h=>by cases h),by decide,g,?_⟩
    · simp [Arm.words]
    · simp [Arm.words]
      lia
theorem WG (hx:zk x=true) (k:Nat):∀ y∈(List.replicate k (armW x)).flatten,Wd y:=fun y hy=>by
  obtain ⟨l,hl,hyl⟩:=List.mem_flatten.mp hy
  rw [(List.mem_replicate.mp hl).2] at hyl
  exact zr (zF hx).1 (zr (wd_k (by decide)) (zr (wd_k (by decide)) (zr (zF Z0).1 xD))) y hyl
theorem zdF {k:Nat} (hx:zk x=true) (hk:(k:Int)=20 + m) (h1:m=0\/m=1):EdgeOk m (("def":Str) :: x :: ("=":Str) :: ("case":Str) :: x :: ((List.replicate k (armW x)).flatten ++ [("end":Str)])):=by
  have xw:=(zF hx).1
  have al:=YM x k
  refine ⟨zr (wd_k (by decide)) (zr xw (zr (wd_k (by decide)) (zr (wd_k (by decide)) (zr xw (jq (WG hx k) (zr (wd_k (by decide)) xD)))))),by simp,?_,fun e=>?_,fun e=>jn hx hx fun n=>Zk hx k n [] (by rw [List.length_nil]; lia) (by lia)⟩
  · simp only [List.length_cons,List.length_append,List.length_nil,al]
    lia
  · obtain ⟨b,g⟩:=Zl (m:=k) hx (by lia) (by lia)
    refine ⟨_,x,[],b,_,rfl,rfl,hx,(fun _ h=>by cases h),by decide,g,?_⟩
    simp only [List.length_cons,List.length_append,List.length_nil,al]
    lia
theorem zdG {k:Nat} (hx:zk x=true) (hk:(k:Int)=1 - m) (h1:m=0\/m=1):EdgeOk m (("def":Str) :: x :: ("=":Str) :: ("case":Str) :: x :: ((List.replicate k (armW x)).flatten ++ [("end":Str)])):=by
  have xw:=(zF hx).1
  have al:=YM x k
  refine ⟨zr (wd_k (by decide)) (zr xw (zr (wd_k (by decide)) (zr (wd_k (by decide)) (zr xw (jq (WG hx k) (zr (wd_k (by decide)) xD)))))),by simp,?_,fun e=>?_,fun e=>?_⟩
  · simp only [List.length_cons,List.length_append,List.length_nil,al]
    lia
  · obtain ⟨b,g⟩:=Zl (m:=k) hx (by lia) (by lia)
    refine ⟨_,x,[],b,_,rfl,rfl,hx,(fun _ h=>by cases h),by decide,g,?_⟩
    simp only [List.length_cons,List.length_append,List.length_nil,al]
    lia
  · have k0:k=0:=by lia
    subst k0
    exact jn hx hx (WD (show head LX [("end":Str)]=none by decide +kernel))
theorem Vo:∀ z∈(["","-"]:List Str),wdB (z ++ Txt.mul "9" 30)=true/\wdB (z ++ Txt.mul "9" 31)=true/\okW (z ++ Txt.mul "9" 31)=false/\(z ++ Txt.mul "9" 30=Str.ofString (toString (999999999999999999999999999999:Int))\/z ++ Txt.mul "9" 30=Str.ofString (toString (-999999999999999999999999999999:Int))):=by decide +kernel
theorem zdH {z:Str} (hz:z∈(["","-"]:List Str)) (hx:zk x=true) (h1:m=0\/m=1):EdgeOk m [("def":Str),x,"=","let",x,"num",z ++ Txt.mul "9" (30 + m),"give",x]:=by
  have xw:=(zF hx).1
  obtain ⟨f1,f2,f3,f4⟩:=Vo z hz
  have fw:Wd (z ++ Txt.mul "9" (30 + m)):=by
    rcases h1 with e | e <;> rw [e]
    · exact yg f1
    · exact yg f2
  refine ⟨zr (wd_k (by decide)) (zr xw (zr (wd_k (by decide)) (zr (wd_k (by decide)) (zr xw (zr (wd_k (by decide)) (zr fw (zr (wd_k (by decide)) (zr xw xD)))))))),by simp,by simp,fun e=>?_,fun e=>?_⟩
  · rw [e]
    have key:∀ i:Int,i.natAbs < 10 ^ 30->z ++ Txt.mul "9" (30 + 0)=Str.ofString (toString i)->∃ d,DGood d [("def":Str),x,"=","let",x,"num",z ++ Txt.mul "9" (30 + 0),"give",x]:=fun i hi e=>by
      rw [e]
      have g:=wB hx (xM hi) (yj hx)
      exact ⟨_,x,[],_,_,rfl,rfl,hx,(fun _ h=>by cases h),by decide,g,by simp⟩
    rcases f4 with e | e
    · exact key _ (by decide) e
    · exact key _ (by decide) e
  · rw [e]
    exact wE (x:=z ++ Txt.mul "9" 31) (by simp) f3
def ABC:Str:="abcdefghijklmnopqrstuvwxyz"
def abcN (k:Int) (m:Int):Str:=Txt.slice (Txt.slice ABC (some k) none) none (some (12 + m))
theorem Qx:∀ k:Nat,k < 14->zk (abcN k 0)=true/\okW (abcN k 1)=false/\wdB (abcN k 1)=true:=by decide +kernel
theorem zbN {k:Int} (h0:0<=k) (h14:k < 14) (hx:zk x=true) (h1:m=0\/m=1):EdgeOk m [("def":Str),abcN k m,"=","give",x]:=by
  have xw:=(zF hx).1
  obtain ⟨j,rfl⟩:∃ j:Nat,k=(j:Nat):=⟨k.toNat,by lia⟩
  obtain ⟨f1,f2,f3⟩:=Qx j (by lia)
  have fw:Wd (abcN (j:Nat) m):=by
    rcases h1 with e | e <;> rw [e]
    · exact (zF f1).1
    · exact yg f3
  refine ⟨zr (wd_k (by decide)) (zr fw (zr (wd_k (by decide)) (zr (wd_k (by decide)) (zr xw xD)))),by simp,by simp,fun e=>?_,fun e=>?_⟩
  · rw [e]
    exact ⟨_,_,[],_,_,rfl,rfl,f1,(fun _ h=>by cases h),by decide,yj hx,by simp⟩
  · rw [e]
    exact wE (x:=abcN (j:Nat) 1) (by simp) f2
end
theorem Qy (x:Str):x ++ (" : give a":Str)=tx (armW x):=by
  apply yF
  rw [xt,show tx (armW x)=Str.join SP [x,":","give","a"] from rfl,zt,show cl (" : give a":Str)=cl SP ++ cl (Str.join SP [(":":Str),"give","a"]) by decide +kernel]
theorem zc6 (a x:Str):("def ":Str) ++ a ++ (" = give ":Str) ++ x=tx [("def":Str),a,"=","give",x]:=by
  apply yF
  rw [xt,xt,xt,show tx [("def":Str),a,"=","give",x]=Str.join SP [("def":Str),a,"=","give",x] from rfl,zt,zt,zt,zt,show cl ("def ":Str)=cl ("def":Str) ++ cl SP by decide +kernel,show cl (" = give ":Str)=cl SP ++ (cl ("=":Str) ++ (cl SP ++ (cl ("give":Str) ++ cl SP))) by decide +kernel]
  simp only [List.append_assoc]
  rfl
def Qz:Sp:=fun vs H Q _=>∃ n m:Int,vs=[.int n,.int m]/\(m=0\/m=1)/\∀ (H':Hp) (ws:List Str),Same H H'->EdgeOk m ws->Q (.str (tx ws)) H'
theorem jr (x y:Str):(x ++ y).length=x.length + y.length:=by rw [<- zZ,xt,List.length_append,zZ,zZ]
theorem zbd:tx [("=":Str),"give"]="= give":=by decide +kernel
theorem QA:tx [("=":Str),"let"]="= let":=by decide +kernel
theorem Z1:tx [("=":Str),"case"]="= case":=by decide +kernel
theorem zbe:tx [(";":Str),"give"]="; give":=by decide +kernel
theorem zbf:tx [(":":Str),"give"]=": give":=by decide +kernel
section
variable {P:Program} {w:World} {K:PySem.W.Frag} {mg:Str->Option Value} {base:Heap} {f:Addr} {fd:FuncData}
theorem scEdge:FnScope ["_law_number_here","_law_more","_law_way","_law_x","_law_some","_law_word","_law_figures"] ["_law_number_here","_law_more"] (zj Qr):=.ok
theorem zc7:(["_law_number_here","_law_more","_law_way","_law_x","_law_some","_law_word","_law_figures","_law_k"]:List Str).Nodup:=by decide +kernel
theorem yL {m:Int} {H H':Hp} {Q:VK} {zs:List Str} {xss:List (List Str)} {p:Addr} (q:∀ (H':Hp) (ws:List Str),Same H H'->EdgeOk m ws->Q (.str (tx ws)) H') (s:Same H H') (h:H' p=some (.lst (zs.map V.str))) (e:zs=xss.map tx) (hn:∀ ws∈xss,ws≠[]) (hE:EdgeOk m xss.flatten):Ja K (.str " ") [.ref p] H' Q:=by
  have sl:=line
  have hw:∀ ws∈xss,ws≠[]/\∀ x∈ws,Wd x:=fun ws hws=>⟨hn ws hws,fun x hx=>hE.wd x (List.mem_flatten.mpr ⟨ws,hws,hx⟩)⟩
  have wl:=wA xss hw
  have:=hE.hi
  refine ⟨_,p,zs,rfl,rfl,SqL.of h,by rw [e]; show wide SP _<=_; lia,?_⟩
  rw [show Str.join (" ":Str) zs=tx xss.flatten by rw [e]; exact vx xss hn]
  exact q _ _ s hE
theorem zbg (F:Fun K "_law_edge" "_law_edge" Qr f fd) (GN:Ca P w K mg base CX0 1 "_law_name" ["_law_number_here"] vw) (m_range:mg "range"=none):FnOk P w K mg base CX0 2 f fd ["_law_number_here","_law_more"] Qz:=by
  refine F.by scEdge (fun vs H Q E h=>?_) (fun cdv A outer s H vs Q E hr h=>?_)
  · obtain ⟨n,m,rfl,_⟩:=h
    rfl
  obtain ⟨n,m,rfl,hm,q⟩:=h
  refine ⟨_,
    (zb (sE 2 scEdge.nd (zh zu (jv 0) zc))
    (zb (sE 3 scEdge.nd (cA GN hr (jA1 (zh zu (zh zC (jv 0) zc) zc))))
    (zb (sE 4 scEdge.nd (zy PySem.F.plainAttrs_str PySem.F.slot_str_join PySem.F.type_str_join zO zd (jA1 (wn ["_law_k"] rfl (xG rfl m_range (jA1 (zh zJ zc (jv 1)))) (fun _ _ _ _ _=>(gN 7 zc7)) (fun _ _ _ _ _=>wm) (fun _ _ _ _ _=>(cA GN hr (jA1 (zh zJ (zh zu (zh zC (jv 0) zc) zc) (zh yG zc (jv 7))))))))))
    (zb (zx (tN zV (jv 2) zc)
      (ze (zo (zy PySem.F.plainAttrs_str PySem.F.slot_str_join PySem.F.type_str_join zO zd (jA1 (zp (jA5 zd (jv 3) (jv 4) zd (jv 3))))))) zq)
    (zb (zx (tN zV (jv 2) zc)
      (zb (sE 5 scEdge.nd (xX z5 (zp (jA4 zd zd zd zd)) (zh zu (zh zC (jv 0) zc) zc)))
      (ze (zo (zy PySem.F.plainAttrs_str PySem.F.slot_str_join PySem.F.type_str_join zO zd (jA1 (zp (jA9 zd (jv 3) zd (jv 3) (jv 5) (jv 3) (jv 4) zd (jv 3)))))))) zq)
    (zb (zx (tN zV (jv 2) zc)
      (ze (zo (zy PySem.F.plainAttrs_str PySem.F.slot_str_join PySem.F.type_str_join zO zd (jA1 (zp (jA9 zd (jv 3) zd (jv 3) (jv 3) (jv 4) zd (jv 3) zd)))))) zq)
    (zb (zx (tN zV (jv 2) zc)
      (ze (zo (zy PySem.F.plainAttrs_str PySem.F.slot_str_join PySem.F.type_str_join zO zd (jA1 (zh zX (zh zX (zp (jA4 zd (jv 3) zd (jv 3))) (zh Qq (zp (jA1 (zh z6 (jv 3) zd))) (zh zJ zc (jv 1)))) (zp (jA1 zd))))))) zq)
    (zb (zx (tN zV (jv 2) zc)
      (zb (sE 6 scEdge.nd (zh z6 (xX z5 (zp (jA2 zd zd)) (zh zu (zh zC (jv 0) zc) zc)) (zh vJ zd (zh zJ zc (jv 1)))))
      (ze (zo (zy PySem.F.plainAttrs_str PySem.F.slot_str_join PySem.F.type_str_join zO zd (jA1 (zp (jA8 zd (jv 3) zd (jv 3) zd (jv 6) zd (jv 3)))))))) zq)
    (zb (zx (tN zV (jv 2) zc)
      (ze (zo (zh z6 (zh z6 (zh z6 zd (zB x6 (zB x6 zd (zD (zh zu (zh zC (jv 0) zc) zc)) zT) zT (zD (zh zJ zc (jv 1))))) zd) (jv 3)))) zq)
    (ze (zo (zy PySem.F.plainAttrs_str PySem.F.slot_str_join PySem.F.type_str_join zO zd (jA1 (zh zX (zh zX (zp (jA4 zd (jv 3) zd (jv 3))) (zh Qq (zp (jA1 (zh z6 (jv 3) zd))) (zh xp zc (jv 1)))) (zp (jA1 zd)))))))))))))))),?_⟩
  have sl:=line
  have cD:∀ {i j:Int},0 < j->j < 1073741824->CDiv i j:=fun h1 h2=>⟨h1,h2⟩
  have b0:=Int.emod_nonneg n (show (7:Int)≠0 by decide)
  have b1:=Int.emod_lt_of_pos n (show (0:Int) < 7 by decide)
  have b2:=Int.emod_nonneg (n / 7) (show (100000:Int)≠0 by decide)
  have b3:=Int.emod_nonneg (n / 7) (show (1009:Int)≠0 by decide)
  have b4:=Int.emod_nonneg (n / 7) (show (14:Int)≠0 by decide)
  have b5:=Int.emod_lt_of_pos (n / 7) (show (0:Int) < 14 by decide)
  refine ⟨_,rfl,_,_,rfl,rfl,(by show (0:Int) < _; decide),?_⟩
  refine ⟨_,rfl,_,_,rfl,rfl,cD (by decide) (by decide),_,_,rfl,rfl,(by show (0:Int) < _; decide),_,rfl,b2,fun x H1 hx s1=>?_⟩
  refine ⟨rfl,_,rfl,_,_,rfl,rfl,_,rfl,by lia,by lia,VX (n:=(9 + m).toNat) (fun i τ ys H'=>Same H1 H'/\(∃ v,τ=[some (.int n),some (.int m),some (.int (n % 7)),some (.str x),none,none,none,v])/\∃ ws:List Str,ys=ws.map V.str/\ws.length=i/\∀ x∈ws,zk x=true) ⟨Same.refl _,⟨none,rfl⟩,[],rfl,rfl,fun x hx=>by cases hx⟩ ?_ ?_⟩
  · rintro i τ ys H2 hi ⟨s2,⟨v,rfl⟩,ws,rfl,hw,hn⟩
    refine ⟨_,rfl,_,_,rfl,rfl,cD (by decide) (by decide),_,_,rfl,rfl,(by show (0:Int) < _; decide),_,rfl,_,_,rfl,rfl,.inl ⟨by decide,by decide⟩,_,_,rfl,rfl,_,rfl,by lia,fun z H3 hz s3=>⟨by rw [List.length_map]; lia,s2.trans s3,⟨_,rfl⟩,ws ++ [z],by rw [List.map_append]; rfl,by rw [List.length_append,List.length_singleton,hw],fun y hy=>?_⟩⟩
    rcases List.mem_append.mp hy with hy | hy
    · exact hn y hy
    · rw [List.mem_singleton.mp hy]
      exact hz
  rintro τ ys H2 ⟨s2,_,ns,rfl,hl,hn⟩ p hp
  have hl9:(ns.length:Int)=9 + m:=by lia
  have ww:=yH (fun x hx=>(zF (hn x hx)).1)
  refine ⟨_,p,ns,rfl,rfl,SqL.of za,by show wide SP ns<=sizeLine; lia,?_⟩
  have s3:=(s1.trans s2).new (o:=.lst (ns.map V.str)) hp
  rw [show Str.join (" ":Str) ns=tx ns from rfl]
  generalize upd H2 p (.lst (ns.map V.str))=H3 at *
  unfold we
  dsimp only
  show (tSeq _ _:TS) _ [some (.int n),some (.int m),some (.int (n % 7)),some (.str x),some (.str (tx ns)),none,none] H3
  generalize n % 7=way at *
  have xw:=(zF hx).1.len
  have hns:ns≠[]:=fun z=>by rw [z] at hl; simp at hl; lia
  have sg:∀ (a:Str),([a]:List Str)≠[]:=fun a=>by simp
  have tw:∀ (a b:Str),([a,b]:List Str)≠[]:=fun a b=>by simp
  have:way=0\/way=1\/way=2\/way=3\/way=4\/way=5\/way=6:=by lia
  rcases this with e | e | e | e | e | e | e <;> subst e
  · refine ⟨_,rfl,rfl,_,rfl,iteT ⟨rfl,_,rfl,_,rfl,_,rfl,sN5,fun p hp=>?_⟩⟩
    exact yL (zs:=["def",x,tx ns,"= give",x]) (xss:=[["def"],[x],ns,["=","give"],[x]]) q (s3.new hp) za (by rw [<- zbd]; rfl) (by simp; exact hns) (by simpa using zdC hx hn hl9 hm)
  · refine ⟨_,rfl,rfl,_,rfl,iteF (nxtC ?_)⟩
    dsimp only
    obtain ⟨o,ho,hat⟩:=jp (l:=["make","call","func","ask"]) (n:=n / 7) (m:=4) rfl (by decide)
    refine ⟨_,rfl,rfl,_,rfl,iteT ⟨sN4,fun p hp=>⟨_,rfl,_,_,rfl,rfl,cD (by decide) (by decide),_,_,rfl,rfl,(by show (0:Int) < _; decide),p,(["make","call","func","ask"]:List Str).map V.str,_,_,rfl,rfl,SqL.of za,hat,?_⟩⟩⟩
    have s4:=s3.new (o:=.lst ((["make","call","func","ask"]:List Str).map V.str)) hp
    refine ⟨rfl,_,rfl,_,rfl,_,rfl,_,rfl,_,rfl,_,rfl,sN9,fun p2 hp2=>?_⟩
    exact yL (zs:=["def",x,"= let",x,o,x,tx ns,"; give",x]) (xss:=[["def"],[x],["=","let"],[x],[o],[x],ns,[";","give"],[x]]) q (s4.new hp2) za (by rw [<- QA,<- zbe]; rfl) (by simp; exact hns) (by simpa using zdD ho hx hn hl9 hm)
  · refine ⟨_,rfl,rfl,_,rfl,iteF (nxtC ?_)⟩
    dsimp only
    refine ⟨_,rfl,rfl,_,rfl,iteF (nxtC ?_)⟩
    dsimp only
    refine ⟨_,rfl,rfl,_,rfl,iteT ⟨rfl,_,rfl,_,rfl,_,rfl,_,rfl,_,rfl,sN9,fun p hp=>?_⟩⟩
    exact yL (zs:=["def",x,"= case",x,x,tx ns,": give",x,"end"]) (xss:=[["def"],[x],["=","case"],[x],[x],ns,[":","give"],[x],["end"]]) q (s3.new hp) za (by rw [<- Z1,<- zbf]; rfl) (by simp; exact hns) (by simpa using zdE hx hn hl9 hm)
  · refine ⟨_,rfl,rfl,_,rfl,iteF (nxtC ?_)⟩
    dsimp only
    refine ⟨_,rfl,rfl,_,rfl,iteF (nxtC ?_)⟩
    dsimp only
    refine ⟨_,rfl,rfl,_,rfl,iteF (nxtC ?_)⟩
    dsimp only
    refine ⟨_,rfl,rfl,_,rfl,iteT ⟨rfl,_,rfl,_,rfl,sN4,fun p1 h1=>⟨_,rfl,_,_,rfl,rfl,by show x.length + 9<=sizeLine; lia,sN1,fun p2 h2=>⟨_,rfl,_,_,rfl,rfl,p2,_,_,rfl,rfl,za,by lia,by lia,?_,fun p3 h3=>⟨p1,p3,_,_,rfl,rfl,old h3 (old h2 za),za,?_,fun p4 h4=>⟨sN1,fun p5 h5=>⟨p4,p5,_,_,rfl,rfl,old h5 za,za,?_,fun p6 h6=>?_⟩⟩⟩⟩⟩⟩⟩
    · show 1 * _<=_
      lia
    · rw [List.flatten_replicate_singleton,List.length_replicate]
      show 4 + _<=_
      lia
    · rw [List.flatten_replicate_singleton,List.length_append,List.length_replicate]
      show 4 + _ + 1<=_
      lia
    · refine yL (zs:=([("def":Str),x,"= case",x]:List Str) ++ List.replicate (20 + m).toNat (tx (armW x)) ++ ([("end":Str)]:List Str)) (xss:=([[("def":Str)],[x],["=","case"],[x]]:List (List Str)) ++ List.replicate (20 + m).toNat (armW x) ++ [[("end":Str)]]) q ((((((s3.new h1).new h2).new h3).new h4).new h5).new h6) ?_ ?_ ?_ ?_
      · rw [za,List.flatten_replicate_singleton,<- Qy]
        simp
      · rw [<- Z1]
        simp
        exact ⟨rfl,rfl,rfl⟩
      · intro ws hws
        simp at hws
        rcases hws with e | e | e | e | ⟨_,e⟩ | e <;> rw [e] <;> simp [armW]
      · have:=zdF (k:=(20 + m).toNat) hx (by lia) hm
        simpa using this
  · refine ⟨_,rfl,rfl,_,rfl,iteF (nxtC ?_)⟩
    dsimp only
    refine ⟨_,rfl,rfl,_,rfl,iteF (nxtC ?_)⟩
    dsimp only
    refine ⟨_,rfl,rfl,_,rfl,iteF (nxtC ?_)⟩
    dsimp only
    refine ⟨_,rfl,rfl,_,rfl,iteF (nxtC ?_)⟩
    dsimp only
    obtain ⟨z,hz,hat⟩:=jp (l:=["","-"]) (n:=n / 7) (m:=2) rfl (by decide)
    have zl:z.length<=1:=(by decide:∀ z∈(["","-"]:List Str),z.length<=1) z hz
    have ml:=zay (z:="9") (n:=30 + m) rfl
    refine ⟨_,rfl,rfl,_,rfl,iteT ⟨sN2,fun p hp=>⟨_,rfl,_,_,rfl,rfl,cD (by decide) (by decide),_,_,rfl,rfl,(by show (0:Int) < _; decide),p,(["","-"]:List Str).map V.str,_,_,rfl,rfl,SqL.of za,hat,_,rfl,_,_,rfl,rfl,_,_,rfl,rfl,Jf rfl (by lia) (by lia),_,_,rfl,rfl,by show z.length + (Txt.mul "9" (30 + m)).length<=_; lia,?_⟩⟩⟩
    have s4:=s3.new (o:=.lst ((["","-"]:List Str).map V.str)) hp
    refine ⟨rfl,_,rfl,_,rfl,_,rfl,_,rfl,sN8,fun p2 hp2=>?_⟩
    exact yL (zs:=["def",x,"= let",x,"num",z ++ Txt.mul "9" (30 + m),"give",x]) (xss:=[["def"],[x],["=","let"],[x],["num"],[z ++ Txt.mul "9" (30 + m)],["give"],[x]]) q (s4.new hp2) za (by rw [<- QA]; rfl) (by simp) (by simpa using zdH hz hx hm)
  · refine ⟨_,rfl,rfl,_,rfl,iteF (nxtC ?_)⟩
    dsimp only
    refine ⟨_,rfl,rfl,_,rfl,iteF (nxtC ?_)⟩
    dsimp only
    refine ⟨_,rfl,rfl,_,rfl,iteF (nxtC ?_)⟩
    dsimp only
    refine ⟨_,rfl,rfl,_,rfl,iteF (nxtC ?_)⟩
    dsimp only
    refine ⟨_,rfl,rfl,_,rfl,iteF (nxtC ?_)⟩
    dsimp only
    have al:(abcN (n / 7 % 14) m).length<=32:=((zbN (m:=m) b4 b5 hx hm).wd _ (List.mem_cons_of_mem _ List.mem_cons_self)).len
    refine ⟨_,rfl,rfl,_,rfl,iteT ⟨_,rfl,_,_,rfl,rfl,cD (by decide) (by decide),_,_,rfl,rfl,(by show (0:Int) < _; decide),_,rfl,_,rfl,sN26,_,rfl,_,_,rfl,rfl,_,rfl,_,rfl,?_,_,_,rfl,rfl,?_,_,_,rfl,rfl,?_,_,rfl,_,_,rfl,rfl,?_,?_⟩⟩
    · show (Txt.slice ABC (some (n / 7 % 14)) none).length<=_
      have:=(by decide +kernel:∀ k:Nat,k < 14->(Txt.slice ABC (some ((k:Nat):Int)) none).length<=26) (n / 7 % 14).toNat (by lia)
      rw [show (((n / 7 % 14).toNat:Nat):Int)=n / 7 % 14 by lia] at this
      lia
    · show 4 + (abcN (n / 7 % 14) m).length<=_
      lia
    · show (("def ":Str) ++ abcN (n / 7 % 14) m).length + 8<=_
      rw [jr]
      show 4 + _ + 8<=_
      lia
    · show (("def ":Str) ++ abcN (n / 7 % 14) m ++ (" = give ":Str)).length + x.length<=_
      rw [jr,jr]
      show 4 + _ + 8 + _<=_
      lia
    · have e:=zc6 (abcN (n / 7 % 14) m) x
      show Q (.str (("def ":Str) ++ abcN (n / 7 % 14) m ++ (" = give ":Str) ++ x)) H3
      rw [e]
      exact q _ _ s3 (zbN b4 b5 hx hm)
  · refine ⟨_,rfl,rfl,_,rfl,iteF (nxtC ?_)⟩
    dsimp only
    refine ⟨_,rfl,rfl,_,rfl,iteF (nxtC ?_)⟩
    dsimp only
    refine ⟨_,rfl,rfl,_,rfl,iteF (nxtC ?_)⟩
    dsimp only
    refine ⟨_,rfl,rfl,_,rfl,iteF (nxtC ?_)⟩
    dsimp only
    refine ⟨_,rfl,rfl,_,rfl,iteF (nxtC ?_)⟩
    dsimp only
    refine ⟨_,rfl,rfl,_,rfl,iteF (nxtC ?_)⟩
    dsimp only
    refine ⟨rfl,_,rfl,_,rfl,sN4,fun p1 h1=>⟨_,rfl,_,_,rfl,rfl,by show x.length + 9<=sizeLine; lia,sN1,fun p2 h2=>⟨_,rfl,_,_,rfl,rfl,p2,_,_,rfl,rfl,za,by lia,by lia,?_,fun p3 h3=>⟨p1,p3,_,_,rfl,rfl,old h3 (old h2 za),za,?_,fun p4 h4=>⟨sN1,fun p5 h5=>⟨p4,p5,_,_,rfl,rfl,old h5 za,za,?_,fun p6 h6=>?_⟩⟩⟩⟩⟩⟩
    · show 1 * _<=_
      lia
    · rw [List.flatten_replicate_singleton,List.length_replicate]
      show 4 + _<=_
      lia
    · rw [List.flatten_replicate_singleton,List.length_append,List.length_replicate]
      show 4 + _ + 1<=_
      lia
    · refine yL (zs:=([("def":Str),x,"= case",x]:List Str) ++ List.replicate (1 - m).toNat (tx (armW x)) ++ ([("end":Str)]:List Str)) (xss:=([[("def":Str)],[x],["=","case"],[x]]:List (List Str)) ++ List.replicate (1 - m).toNat (armW x) ++ [[("end":Str)]]) q ((((((s3.new h1).new h2).new h3).new h4).new h5).new h6) ?_ ?_ ?_ ?_
      · rw [za,List.flatten_replicate_singleton,<- Qy]
        simp
      · rw [<- Z1]
        simp
        exact ⟨rfl,rfl,rfl⟩
      · intro ws hws
        simp at hws
        rcases hws with e | e | e | e | ⟨_,e⟩ | e <;> rw [e] <;> simp [armW]
      · have:=zdG (k:=(1 - m).toNat) hx (by lia) hm
        simpa using this
end
end Rdr
namespace L2
open PySem PySem.Spec PyProof.Rows
section
variable {prog:Program} {w:World} {A:Around} {s:Shared} {E:Value->Shared->Prop}
end
section
variable {X:Cx} {scope:Scope} {cl:List (Str × Addr)} {S:List Nat} {pins:List (Addr × Obj)} {σ:St} {H:Hp} {s:Shared} {ex:List Addr} {M:List Str} {C:Addr}
variable {tg elt iter:Expr} {ifs:List Expr} {pos:Pos} {wi:TI} {g:TG} {tt:TT} {te:TE}
end
section
variable {X:Cx} {scope:Scope} {M:List Str} {tg elt l:Expr} {ifs:List Expr} {pos:Pos} {tl:TE} {g:TG} {tt:TT} {te:TE}
end
end L2
namespace PySem.W
open PySem PySem.Spec PySem.Calls PyProof.Rows
section
variable {prog:Program} {w:World} {A:Around} {E:Value->Shared->Prop} {s:Shared} {K:Frag} {e C:Addr} {ox od:Obj}
end
structure XIs (K:Frag) (C:Addr):Prop where
  ga:findIn K (.ref C) "__getattribute__"=some (some (.builtin "BaseException.__getattribute__"))
  ha:findIn K (.ref C) "__getattr__"=some none
  sb:subIn K (.ref C) (.type "BaseException")=some true
  hd:hasDictIn K C=true
  cl:findIn K (.ref C) "__class__"=some (some (.builtin "object.__class__"))
  gs:specialIn K (.builtin "object.__class__") "__get__"=some (some (.builtin "getset_descriptor.__get__"))
  tk:takesIn K (.builtin "object.__class__")=some true
  mo:mroIn K C (.type "object")=some true
end PySem.W
namespace L2
open PySem PySem.Spec PyProof.Rows
section
variable (P:Program) (w:World)
end
section
variable {P:Program} {w:World} {H H':Hp} {h h':Heap} {a:Addr} {o:HO}
end
section
variable {P:Program} {w:World} {H:Hp} {h h':Heap} {x e:Addr} {o':HO}
end
section
variable {fs fs' ex ex':List Addr} {H H1 H2:Hp} {h h1 h2 h':Heap} {a x e:Addr} {o:HO}
end
section
variable {X:Cx} {pins:List (Addr × Obj)} {σ:List (Option V)} {H H':Hp} {s:Shared} {h':Heap}
end
section
variable {X:Cx}
variable {a b:Expr} {ta tb:TE} {pos:Pos}
variable {tA tB':TT} {rest:List Expr}
end
section
variable {X:Cx} {pins:List (Addr × Obj)} {σ:St} {H:Hp} {s:Shared} {a:Addr} {xs ys:List V}
end
section
variable {X:Cx} {pins:List (Addr × Obj)} {σ:St} {H:Hp} {s:Shared} {E:Value->Shared->Prop}
end
section
variable {X:Cx} {st:Stmt} {rest:List Stmt} {t u:TS} {e:Expr} {te:TE} {pos:Pos}
end
section
variable {X:Cx} {pos:Pos}
end
section
variable {X:Cx} {tg:Expr}
end
section
variable {X:Cx} {a b c:Expr} {ta tb tc:TE} {pos:Pos}
end
section
variable {prog:Program} {w:World} {A:Around} {E:Value->Shared->Prop} {s:Shared} {K:PySem.W.Frag} {x dx C f:Addr} {mA:Str->Option Value} {name:Str} {v:Value}
end
section
variable {P:Program} {w:World} {H H':Hp} {h h':Heap} {a C dx:Addr} {fs fs':List (Str × V)}
end
section
variable {X:Cx} {pins:List (Addr × Obj)} {σ:St} {H:Hp} {s:Shared} {a C dx:Addr} {fs:List (Str × V)} {f:Str} {v:V} {A:Around} {E:Value->Shared->Prop}
end
section
variable {X:Cx} {o e value:Expr} {f:Str} {pos pos' tpos:Pos} {ta tv:TE}
end
section
variable {X:Cx} {pins:List (Addr × Obj)} {σ:St} {H:Hp} {s:Shared} {A:Around} {E:Value->Shared->Prop} {Q:Value->Shared->Prop} {c:Value} {b:Bool}
end
section
variable {X:Cx} {e:Expr} {es:List Expr} {te:TE} {t:TA} {pos:Pos}
end
section
variable {X:Cx} {pins:List (Addr × Obj)} {σ:St} {H:Hp} {s s':Shared}
end
section
variable {X:Cx} {CX:CXT} {k:Nat} {f C:Addr} {fd:FuncData} {ps:List Str} {sp:Sp} {dvs:List V} {ds:List Value} {E:XK} {x m:Str} {p pos apos:Pos} {e o:Expr} {es:List Expr} {ta:TE} {t:TA}
end
section
variable {X:Cx} {CX:CXT} {k:Nat} {f C:Addr} {fd:FuncData} {ps ks:List Str} {sp:Sp} {E:XK} {x m:Str} {p pos apos kpos:Pos} {e o:Expr} {es:List Expr} {kws:List Keyword} {te ta:TE} {t tk:TA} {nm:Option Str}
variable {g:List Value->List Value->List Value} {gV:List V->List V->List V}
end
section
variable {X:Cx} {x:Str} {p pos:Pos} {e:Expr} {es:List Expr} {t:TA} {id T:String} {r:List V->Hp->VK->Prop}
end
section
variable {κ:Type} [DecidableEq κ]
end
section
variable {P:Program} {w:World} {H:Hp} {h:Heap} {a:Addr}
end
section
variable {X:Cx} {pins:List (Addr × Obj)} {σ:St} {H:Hp} {s:Shared} {a:Addr} {y v:V} {u r:Value} {o:Option V} {A:Around} {E:Value->Shared->Prop}
theorem Inv.big (I:Inv X pins σ H s):sysModules < s.heap.objs.size:=by
  have h:mainGlobals < s.heap.objs.size:=(I.mod.glob.keeps I.bk).lt
  exact Nat.lt_trans (by decide) h
end
section
variable {X:Cx} {pins:List (Addr × Obj)} {σ:St} {H:Hp} {s:Shared} {a:Addr} {kvs:List (Key × V)} {k:Key} {u:Value} {A:Around} {E:Value->Shared->Prop}
end
section
variable {X:Cx} {o i e value:Expr} {pos pos' tpos:Pos} {td ty tv:TE}
end
theorem QB {P:Program} {w:World} {H:Hp} (h:Heap) (hb:sysModules < h.objs.size):ObjOk P w H (h.push { cls:=.type "dict",data:=.dict #[] }) h.objs.size (.dK []) :=
  ⟨Nat.zero_le _,beq_eq_false_iff_ne.mpr (Ne.symm (Nat.ne_of_lt hb)),[],.nil,Heap.DictOf.new h⟩
def QC:TE:=fun _ H Q=>∀ p,H p=none->Q (.ref p) (upd H p (.dK []))
section
variable {X:Cx} {pos:Pos}
theorem QD:PE X (.Dict [] [] pos) QC:=fun pins s σ H Q I h =>
  wpAny_Dict_empty ⟨.ref s.heap.objs.size,_,I.laid (a:=s.heap.objs.size) (o:=.dK []) (t':=s.toks) (fun _ _ q=>Heap.get?_push_of_some _ q) (Nat.le_refl _) (QB s.heap I.big),rfl,h _ (I.hok.fresh (Nat.le_refl _))⟩
end
section
variable {X:Cx} {pins:List (Addr × Obj)} {σ:St} {H:Hp} {s:Shared} {a:Addr} {y d:V} {u r:Value} {o:Option V} {A:Around} {E:Value->Shared->Prop}
end
section
variable {X:Cx} {o e f:Expr} {apos cpos:Pos} {td ty tx:TE}
end
section
variable {X:Cx} {pins:List (Addr × Obj)} {σ:St} {H:Hp} {s:Shared} {a:Addr} {kvs:List (Key × V)} {A:Around} {E:Value->Shared->Prop}
end
section
variable {X:Cx} {pins:List (Addr × Obj)} {σ:St} {H:Hp} {s:Shared} {a:Addr} {y:V} {u:Value} {A:Around} {E:Value->Shared->Prop}
end
end L2
namespace Att
open PySem PySem.W PySem.Calls PyProof.Rows
section
variable {prog:Program} {w:World} {A:Around} {E:Value->Shared->Prop} {s:Shared} {K:Frag}
end
end Att
namespace L2
open PySem PySem.Spec PyProof.Rows
section
variable {P:Program} {w:World} {K:PySem.W.Frag} {mg:Str->Option Value} {base:Heap}
end
section
variable {X:Cx}
end
section
variable {κ:Type} [DecidableEq κ]
end
section
variable {X:Cx} {pos:Pos}
theorem QE:jE X (.Dict [] [] pos) QC:=⟨QD⟩
end
section
variable {X:Cx} {pins:List (Addr × Obj)} {σ:St} {H:Hp} {s:Shared} {h':Heap}
end
section
variable {X:Cx}
abbrev Prs (H:Hp):List (Key × V)->List Addr->Prop:=Paired fun kv t=>H t=some (.tup [kV kv.1,kv.2])
end
section
variable {X:Cx} {Ch:Addr} {x n z:Str} {i j k:Nat} {np hpos tpos pz spos:Pos} {b0:Stmt} {suite:List Stmt} {th:Addr->Obj->TS} {ps:List Str} {sp:Sp} {y:Str} {p cpos:Pos} {a:Expr} {as:List Expr} {t:TA}
end
section
variable {prog:Program} {w:World} {A:Around} {E:Value->Shared->Prop} {h:Heap} {g:Array GenState} {d:Drawn} {t:Nat} {os:OsState}
variable {nm q:Str} {C N:Addr} {bs bm bmB:List Value} {hdct:Bool} {sn:List Str} {sub:List Value} {ab:Bool} {col:Option Bool} {dd:Option Addr} {k0 k1 k2 k3 k5:Option Value} {B Bn newId nid initId inN:String} {bmN:List Value}
end
section
variable {X:Cx} {k:Nat} {C:Addr} {E:XK} {x:Str} {np cpos pos:Pos}
end
end L2
namespace PySem.W
open PySem PySem.Spec PySem.Calls PyProof.Rows
theorem jD {K:Frag} {C:Addr} {od:Option Obj} {name:Str} {a g:Value} (hc:(clsIn K C).isSome=true) (ha:findIn K (.ref C) name=some (some a)) (hg:specialIn K a "__get__"=some (some g)) (ht:takesIn K a=some true):findObj K C od name=some (.bind g a):=by
  obtain ⟨cd,hc⟩:=Option.isSome_iff_exists.mp hc
  unfold findObj
  rw [hc,Option.bind_some,ha,Option.bind_some]
  simp [hg,ht]
section
variable {prog:Program} {w:World} {A:Around} {E:Value->Shared->Prop} {s:Shared} {K:Frag} {e C:Addr} {ox:Obj} {od:Option Obj}
theorem Vp {Q:Option Value->Shared->Prop} (X:K.In s.heap) (I:InstAt s.heap e ox C od) (hga:findIn K (.ref C) "__getattribute__"=some (some (.builtin "BaseException.__getattribute__"))) (hk:findIn K (.ref C) "__getattr__"=some none)
    (hb:subIn K (.ref C) (.type "BaseException")=some true) (hf:findObj K C od "__class__"=some (.bind (.builtin "getset_descriptor.__get__") (.builtin "object.__class__"))) (hm:mroIn K C (.type "object")=some true)
    (h:Q (some (.ref C)) { s with toks:=s.toks + 1 }):wpAny (model prog w) A (getAttr? (.ref e) "__class__") Q E s:=by
  have ty:=I.type (M:=model prog w)
  have fd:=looks_find (M:=model prog w) X I hf
  unfold getAttr? getAttrBy?
  refine wpAny_bind (wpAny_mkText (wpAny_bind (wpAny_attempt ?_)))
  refine wpAny_holding (wpAny_bind (ty _ _ _ _ (fun _ _ q=>q) (wpAny_bind (looks_findIn X hga _ _ _ _ (fun _ _ q=>q) ?_))))
  dsimp only
  rw [show (onTheHeap (Value.ref C) && Value.builtin "BaseException.__getattribute__" == Value.builtin "object.__getattribute__")=false from by rw [show (Value.builtin "BaseException.__getattribute__" == Value.builtin "object.__getattribute__")=false from by decide +kernel,Bool.and_false],if_neg (by decide:¬ (false=true))]
  refine wpAny_bind ((looks_hook (mc:=.ref C) X (by rw [if_pos (show onTheHeap (.ref C)=true from rfl)]; exact hk)) _ _ _ _ (fun _ _ q=>q) (wpAny_bind (wpAny_attempt (wpAny_holding ?_))))
  unfold callGetattribute
  rw [show (false && onTheHeap (Value.builtin "BaseException.__getattribute__"))=false from rfl,if_neg (by decide:¬ (false=true))]
  unfold boundAndCalled
  rw [L2.xg_slot.bind]
  refine wpAny_bind (wpAny_pure (wpAny_call (codeAny_call_builtin L2.xg_slot.plain PySem.F.entry_bexc_ga ?_)))
  refine @check_slot (model prog w) _ _ { s with toks:=s.toks + 1 } "BaseException.__getattribute__" "BaseException" "__getattribute__" (.ref e) [.str "__class__" s.toks] [] _ (by decide +kernel) (by decide +kernel) (ty.andThen (looks_subIn X hb)) (PySem.F.args_bexc_ga (.ref e) (.str "__class__" s.toks)) ?_
  refine wpAny_bind (wpAny_pure (wpAny_bind (wpAny_pure (wpAny_bind (ty _ _ _ _ (fun _ _ q=>q) (wpAny_bind (fd _ _ _ _ (fun _ _ q=>q) ?_)))))))
  show wpAny _ _ (holding [Value.builtin "object.__class__"] (call (.builtin "getset_descriptor.__get__") [.builtin "object.__class__",.ref e,.ref C]) >>= ret) _ _ _
  refine wpAny_bind (wpAny_holding (wpAny_call (class_get (s:={ s with toks:=s.toks + 1 }) X I hm ?_)))
  refine wpAny_pure ?_
  show wpAny _ _ (handedOut (.ref C)) _ _ _
  rw [handedOut_of rfl]
  exact wpAny_pure (wpAny_pure h)
end
theorem kitx_excO {K:Frag} {x D:Addr} {ox:Obj} {od:Option Obj} (c:XIs K D):KitX K (.ref x) (.ref D) (fun h=>InstAt h x ox D od) where
  ty:=fun _ _ _ I=>I.type
  it:=fun _ _ X _=>by
    obtain ⟨cdD,hcD,_⟩:=any_some c.hd
    unfold clsIn at hcD
    split at hcD
    · rename_i c' d' cd' sl' ho
      intro A' Q' E' s' k q
      unfold isType loadHead
      exact wpAny_bind (wpAny_loadPart (k _ _ (X _ _ ho)) (wpAny_pure q))
    · cases hcD
  ne:=fun h tp dd its n sl X htp=>by
    obtain ⟨cdD,hcD,_⟩:=any_some c.hd
    refine Bool.eq_false_iff.mpr fun q=>?_
    have e:D=tp:=Value.ref.inj (beq_iff_eq.mp q)
    subst e
    unfold clsIn at hcD
    split at hcD
    · rename_i c' d' cd' sl' ho
      have z:=(X _ _ ho).symm.trans htp
      cases z
    · cases hcD
  ca:=fun X I k=>Vp X I c.ga c.ha c.sb (jD (by obtain ⟨cd,hc,_⟩:=any_some c.hd; rw [hc]; rfl) c.cl c.gs c.tk) c.mo k
end PySem.W
namespace L2
open PySem PySem.Spec PyProof.Rows
inductive ClsV:V->Value->Prop where
  | ref (C:Addr):ClsV (.ref C) (.ref C)
  | ty (T:String):ClsV (.ty T) (.type T)
theorem ClsV.un {D:V} {c c':Value} (h:ClsV D c) (r:RelV D c'):c'=c:=by
  cases h with
  | ref C=>cases r; rfl
  | ty T=>cases r; rfl
inductive ClsVs:List V->List Value->Prop where
  | nil:ClsVs [] []
  | cons {D:V} {c:Value} {Ds:List V} {cs:List Value} (h:ClsV D c) (t:ClsVs Ds cs):ClsVs (D :: Ds) (c :: cs)
theorem ClsVs.un {Ds:List V} {cs:List Value} (h:ClsVs Ds cs):∀ {us:List Value},Vals Ds us->us=cs:=by
  induction h with
  | nil=>intro us r; cases r; rfl
  | cons a _ ih=>intro us r; cases r with
    | cons p q=>rw [a.un p,ih q]
inductive Asked (K:PySem.W.Frag) (t:Value) (H:Hp):V->Bool->Prop where
  | one {D:V} {c:Value} {b:Bool} (h:ClsV D c) (e:PySem.W.kitOne K t c=some b):Asked K t H D b
  | tup {tp:Addr} {Ds:List V} {cs:List Value} {b:Bool} (ht:H tp=some (.tup Ds)) (h:ClsVs Ds cs) (e:PySem.W.kitAny K t cs=some b):Asked K t H (.ref tp) b
section
variable {X:Cx} {e C d:Addr} {oe:Obj} {pins:List (Addr × Obj)} {s:Shared} {σ:St} {H:Hp} {od:Option Obj} {D:V} {b:Bool} {u:Value} {Q:VK}
theorem Zo (hx:PySem.W.XIs X.K C) (I:Inv X pins σ H s) (J:PySem.W.InstAt s.heap e oe C od) (ha:Asked X.K (.ref C) H D b) (ru:RelV D u) (q:Q (.bl b) H) :
    wpAny (model X.prog X.w) X.A (call (.builtin "isinstance") [.ref e,u]) (EP X pins σ Q) X.xe s:=by
  cases ha with
  | one h k =>
    obtain rfl:=h.un ru
    exact PySem.W.kia_one (PySem.W.kitx_excO hx) I.kIn J k (fun z=>nomatch z) fun tk=>⟨.bl b,H,I.tok tk,rfl,q⟩
  | tup ht h k =>
    cases ru
    obtain ⟨z,its,rt,pt⟩:=I.hok _ _ ht
    obtain rfl:=h.un rt
    obtain ⟨⟨oc,odd,odt,osl⟩,ho,hc,_,n,hd⟩:=pt
    dsimp only at hc hd
    subst hc hd
    replace pt:=ho
    exact PySem.W.kia_tup (PySem.W.kitx_excO hx) I.kIn J pt k (fun z=>nomatch z) fun tk=>⟨.bl b,H,I.tok tk,rfl,q⟩
theorem Z2 (hp:(e,oe)∈X.pn) (hx:PySem.W.XIs X.K C) :
    jCa X (.builtin "isinstance") (fun xs H Q=>∃ D b,xs=[.ref e,D]/\oe.cls=.ref C/\(∃ vs,oe.data=.fields vs)/\(oe.dict=none\/∃ d fs,oe.dict=some d/\H d=some (XD d fs))/\Asked X.K (.ref C) H D b/\Q (.bl b) H):=by
  constructor
  intro pins s σ H xs us Q I r h
  obtain ⟨D,b,rfl,hc,⟨vs,hd⟩,hdx,ha,q⟩:=h
  obtain ⟨u,u',rfl,r1,r2⟩:=VH r
  cases r1
  have g:=(I.pin (e,oe) (List.mem_append_left _ hp)).1
  rcases hdx with hn | ⟨d,fs,h1,h2⟩
  · exact Zo (od:=none) hx I ⟨g,hc,by unfold PySem.W.notCls; rw [hd],by rw [hn]; exact True.intro⟩ ha r2 q
  · obtain ⟨mA,⟨od,es,ep,ho,_⟩,_⟩:=XD.get I.hok h2
    exact Zo (od:=some od) hx I ⟨g,hc,by unfold PySem.W.notCls; rw [hd],by rw [h1]; exact ho⟩ ha r2 q
end
section
variable {X:Cx} {k:Nat} {C f:Addr} {ps:List Str} {sp:Sp} {x name:Str} {np cpos pos:Pos} {a ex:Expr} {as:List Expr} {t:TA} {te:TE}
end
end L2
namespace L2
open PySem
theorem Vq {X:Cx} {sts:List Stmt}:jSs X sts (fun _ _ _=>False):=⟨fun _ _ _ _ _ _ h=>h.elim⟩
theorem FnOk.or {P:Program} {w:World} {K:PySem.W.Frag} {mg:Str->Option Value} {base:Heap} {CX:CXT} {k:Nat} {f:Addr} {fd:FuncData} {ps:List Str} {s1 s2:Sp} (h1:FnOk P w K mg base CX k f fd ps s1) (h2:FnOk P w K mg base CX k f fd ps s2):FnOk P w K mg base CX k f fd ps (fun vs H Q E=>s1 vs H Q E\/s2 vs H Q E) :=
  ⟨fun vs H Q E h=>h.elim (h1.len vs H Q E) (h2.len vs H Q E),fun A outer s H args us vs Q E hr he hb hv h=>h.elim (h1.run A outer s H args us vs Q E hr he hb hv) (h2.run A outer s H args us vs Q E hr he hb hv)⟩
theorem TyOf.keep {K:PySem.W.Frag} {H H':Hp} {v:V} {t:Value} (h:TyOf K H v t) (s:Same H H'):TyOf K H' v t:=by
  cases h with
  | non=>exact .non
  | bl x=>exact .bl x
  | int i=>exact .int i
  | str x=>exact .str x
  | flt x=>exact .flt x
  | lst e=>exact .lst (s _ _ e)
  | frz e=>exact .frz (s _ _ e)
  | tup e=>exact .tup (s _ _ e)
  | dK e=>exact .dK (s _ _ e)
  | dT e=>exact .dT (s _ _ e)
  | ins e cl ha hn htk hm=>exact .ins (s _ _ e) cl ha hn htk hm
end L2
namespace Rdr
open PySem L2 K11 Rd
theorem zdI {P:Program} {w:World} {X:Cx}:yA (CXf P w) X (fun _ _ _=>False):=fun _ _ _ _ _ _ _ h=>by
  obtain ⟨_,_,_,_,_,_,_,_,_,_,_,_,_,h⟩:=h
  exact h.elim
def NoTx (K:PySem.W.Frag) (H:Hp) (v:V):Prop:=∃ t,TyOf K H v t/\PySem.W.kitOne K t (.type "str")=some false
def WH (K:PySem.W.Frag) (A:Adr):Sp:=fun vs H Q E=>∃ v,vs=[v]/\NoTx K H v/\Err A E (fun _=>False) H 0
def Z3 (K:PySem.W.Frag) (A:Adr):Sp:=fun vs H Q E=>JN A vs H Q E\/WH K A vs H Q E
def RdBad (K:PySem.W.Frag) (H:Hp) (v:V) (i:Nat):Prop:=(∃ z,v=.str z/\Fit z/\RowsR 0 [] [] ((zR z).map yc) (.error i))\/(i=0/\NoTx K H v)
theorem RdBad.keep {K:PySem.W.Frag} {H H':Hp} {v:V} {i:Nat} (h:RdBad K H v i) (s:Same H H'):RdBad K H' v i:=h.elim .inl fun ⟨e,t,a,b⟩=>.inr ⟨e,t,a.keep s,b⟩
theorem RdBad.call {K:PySem.W.Frag} {A:Adr} {H:Hp} {v:V} {i:Nat} {Q:VK} {E:XK} (h:RdBad K H v i) (g:Err A E (fun _=>False) H i):Z3 K A [v] H Q E:=by
  rcases h with ⟨z,rfl,fit,hR⟩ | ⟨rfl,hN⟩
  · exact .inl ⟨z,.error i,rfl,fit,hR,g⟩
  · exact .inr ⟨v,rfl,hN,g⟩
structure X15 (K:PySem.W.Frag) (mg:Str->Option Value) (cN R la mi nv tw un uh go fu fa:Addr):Prop where
  nN:mg "NoText"=some (.ref cN)
  nR:mg "ReuseError"=some (.ref R)
  nla:mg "Lacking"=some (.ref la)
  nmi:mg "Misfit"=some (.ref mi)
  nnv:mg "NoValue"=some (.ref nv)
  ntw:mg "Twice"=some (.ref tw)
  nun:mg "Unknown"=some (.ref un)
  nuh:mg "Unheld"=some (.ref uh)
  ngo:mg "Gone"=some (.ref go)
  nfu:mg "Full"=some (.ref fu)
  nfa:mg "Fault"=some (.ref fa)
  nV:mg "ValueError"=none
  xi:PySem.W.XIs K cN
  x1:PySem.W.exmOne K (.ref cN) (.ref cN)=some true
  x2:PySem.W.exmOne K (.ref cN) (.ref R)=some true
  k1:PySem.W.kitOne K (.ref cN) (.ref cN)=some true
  kV:PySem.W.kitOne K (.ref cN) (.type "ValueError")=some true
  any:PySem.W.kitAny K (.ref cN) [.ref la,.ref mi,.ref nv,.ref tw,.ref un,.ref uh,.ref go,.ref fu,.ref fa]=some false
def XI (K:PySem.W.Frag):Sp:=fun vs H Q _=>∃ (v:V) (i:Nat),vs=[v,.int (i:Nat)]/\RdBad K H v i/\∀ H',Same H H'->Q (.bl true) H'
def XJ:Sp:=fun vs H Q _=>∃ (l:Addr) (ks ds:List D) (kws dws:List (List Str)),vs=[.ref l]/\H l=some (.lst (((kws ++ dws).map tx).map V.str))/\Each KGood ks kws/\Each DGood ds dws/\(kws ++ dws).length<=60/\(kws ++ dws).flatten.length<=3000/\∀ H',Same H H'->Q (.bl true) H'
section
variable {P:Program} {w:World} {K:PySem.W.Frag} {mg:Str->Option Value} {base:Heap} {f:Addr} {fd:FuncData} {A:Adr}
theorem QF (F:Fun K "read" "read" X7 f fd) (GX:Xa P w K mg base 1 "NoText" A.cN ["self","row"] (xx A)) (mI:mg "isinstance"=none) (mS:mg "str"=none):FnOk P w K mg base (CXf P w) 13 f fd ["text"] (WH K A):=by
  refine F.byx scRead (fun vs H Q E h=>?_) (fun cdv A' outer s H vs Q E hr h=>?_)
  · obtain ⟨v,rfl,_⟩:=h
    rfl
  obtain ⟨v,rfl,⟨t,hT,hk⟩,hE⟩:=h
  refine ⟨_,zb (zx (yI (ym (z4 yW rfl mI PyProof.Rows.boot_isinstance (jA2 (jv 0) (xF (v:=.ty "str") rfl mS PyProof.Rows.boot_str rfl))))) (ze (vN GX (hr.mono (by decide)) rfl Y6 (jA1 zc))) zq) Vq,?_⟩
  refine ⟨_,rfl,_,_,_,_,rfl,hT,hk,_,rfl,iteT ?_⟩
  refine ⟨sN1,fun e he=>⟨e,.int 0,rfl,za,fun d hd ne=>⟨rfl,some d,za,?_⟩⟩⟩
  have hd':H d=none:=by
    rw [zg ne] at hd
    exact hd
  refine hE d _ (fun b o _ q=>?_) ?_
  · have n1:b≠e:=zi q he
    have n2:b≠d:=zi q hd'
    rw [wa n1,zg n1,zg n2,zg n1]
    exact q
  · rw [wa ne,zg ne,za]
theorem scRefd:FnScope ["_law_text","_law_due","_law_row","e","_law_base","_law_other"] ["_law_text","_law_due"] (zj Qs):=.ok
theorem zbh {R la mi nv tw un uh go fu fa fi:Addr} (F:Fun K "_law_refused" "_law_refused" Qs f fd) (GR:Ca P w K mg base (CXf P w) 13 "read" ["text"] (Z3 K A)) (T:X15 K mg A.cN R la mi nv tw un uh go fu fa) (M:XCl K A.cN fi) (hn:PySem.W.findIn K (.ref A.cN) "row"=some none) (hh:PySem.W.hasDictIn K A.cN=true) (m_isinstance:mg "isinstance"=none) (m_int:mg "int"=none) (m_bool:mg "bool"=none) :
    FnOk P w K mg base CX0 14 f fd ["_law_text","_law_due"] (XI K):=by
  refine F.by scRefd (fun vs H Q E h=>?_) (fun cdv A' outer s H vs Q E hr h=>?_)
  · obtain ⟨v,i,rfl,_⟩:=h
    rfl
  obtain ⟨v,i,rfl,hB,q⟩:=h
  refine ⟨_,
    (zb (sE 2 scRefd.nd (x4 zc))
    (zb (Je (i:=3) GR hr rfl (jA1 (jv 0)) scRefd.nd rfl rfl T.nN (fun e oe=>ze (sE 2 scRefd.nd (zaw (e:=e) (oe:=oe) List.mem_cons_self M hn hh (jv 3)))))
    (zb (sE 4 scRefd.nd xn)
    (zb (sE 5 scRefd.nd xn)
    (zb (Je (i:=3) GR hr rfl (jA1 (jv 0)) scRefd.nd rfl rfl T.nR (fun e oe=>zb (sE 4 scRefd.nd (y6 (z4 (Z2 (e:=e) (oe:=oe) (C:=A.cN) List.mem_cons_self T.xi) rfl m_isinstance PyProof.Rows.boot_isinstance (jA2 (jv 3) (z3 (v:=.ref A.cN) rfl T.nN rfl))) (wK (z4 (Z2 (e:=e) (oe:=oe) (C:=A.cN) List.mem_cons_self T.xi) rfl m_isinstance PyProof.Rows.boot_isinstance (jA2 (jv 3) (xF (v:=.ty "ValueError") rfl T.nV zaW rfl))))))
      (ze (sE 5 scRefd.nd (z4 (Z2 (e:=e) (oe:=oe) (C:=A.cN) List.mem_cons_self T.xi) rfl m_isinstance PyProof.Rows.boot_isinstance (jA2 (jv 3) (zz (jA9 (z3 (v:=.ref la) rfl T.nla rfl) (z3 (v:=.ref mi) rfl T.nmi rfl) (z3 (v:=.ref nv) rfl T.nnv rfl) (z3 (v:=.ref tw) rfl T.ntw rfl) (z3 (v:=.ref un) rfl T.nun rfl) (z3 (v:=.ref uh) rfl T.nuh rfl) (z3 (v:=.ref go) rfl T.ngo rfl) (z3 (v:=.ref fu) rfl T.nfu rfl) (z3 (v:=.ref fa) rfl T.nfa rfl)))))))))
    (ze (zo (y6 (jv 4) (y6 (ZB (jv 5)) (y6 (z4 yW rfl m_isinstance PyProof.Rows.boot_isinstance (jA2 (jv 2) (xF (v:=.ty "int") rfl m_int PyProof.Rows.boot_int rfl))) (y6 (ZB (z4 yW rfl m_isinstance PyProof.Rows.boot_isinstance (jA2 (jv 2) (xF (v:=.ty "bool") rfl m_bool PyProof.Rows.boot_bool rfl)))) (wK (yz zV (jv 2) (jv 1) (y0 _)))))))))))))),?_⟩
  refine ⟨_,rfl,_,rfl,hB.call (fun d H1 k1 hd=>⟨T.x1,fun e oe hc hdx hf he=>?_⟩)⟩
  have s1:Same H H1:=fun b o z=>k1 _ _ (fun z=>z) z
  refine ⟨_,rfl,rfl,hc,hf,d,_,_,hdx,hd,rfl,?_⟩
  refine ⟨_,rfl,(hB.keep s1).call (fun d2 H2 k2 hd2=>⟨T.x2,fun e2 oe2 hc2 hdx2 hf2 he2=>?_⟩)⟩
  have s2:Same H1 H2:=fun b o z=>k2 _ _ (fun z=>z) z
  have cd:∀ {H':Hp},Same H2 H'->(oe2.dict=none\/∃ d fs,oe2.dict=some d/\H' d=some (XD d fs)):=fun s'=>.inr ⟨d2,_,hdx2,s' _ _ hd2⟩
  refine ⟨_,rfl,.ref A.cN,true,rfl,hc2,hf2,cd (Same.refl _),.one (.ref _) T.k1,_,rfl,iteT ⟨_,rfl,.ty "ValueError",true,rfl,hc2,hf2,cd (Same.refl _),.one (.ty _) T.kV,?_⟩⟩
  refine ⟨_,rfl,sN9,fun tp htp=>⟨.ref tp,false,rfl,hc2,hf2,cd (zf htp _),.tup za (.cons (.ref _) (.cons (.ref _) (.cons (.ref _) (.cons (.ref _) (.cons (.ref _) (.cons (.ref _) (.cons (.ref _) (.cons (.ref _) (.cons (.ref _) .nil))))))))) T.any,?_⟩⟩
  have s3:=(s1.trans s2).new (o:=.tup [.ref la,.ref mi,.ref nv,.ref tw,.ref un,.ref uh,.ref go,.ref fu,.ref fa]) htp
  refine ⟨_,rfl,_,rfl,iteT ⟨_,rfl,_,rfl,_,rfl,iteT ⟨_,rfl,_,_,_,_,rfl,.int _,rfl,_,rfl,iteT ⟨_,rfl,_,_,_,_,rfl,.int _,rfl,_,rfl,_,rfl,iteT ⟨_,rfl,_,rfl,rfl,?_⟩⟩⟩⟩⟩
  rw [decide_eq_true rfl]
  exact q _ s3
theorem scGood:FnScope ["_law_rows_here","_law_text"] ["_law_rows_here"] (zj Qt):=.ok
theorem zbi (F:Fun K "_law_good" "_law_good" Qt f fd) (GR:Ca P w K mg base (CXf P w) 13 "read" ["text"] (Z3 K A)) (GS:Ca P w K mg base CX0 4 "shown" ["program"] Wq):FnOk P w K mg base CX0 14 f fd ["_law_rows_here"] XJ:=by
  refine F.by scGood (fun vs H Q E h=>?_) (fun cdv A' outer s H vs Q E hr h=>?_)
  · obtain ⟨l,ks,ds,kws,dws,rfl,_⟩:=h
    rfl
  obtain ⟨l,ks,ds,kws,dws,rfl,hl,hk,hd,h60,h3k,q⟩:=h
  have hr4:Room 4 _:=hr.mono (by decide)
  refine ⟨_,
    (zb (sE 1 scGood.nd (zy PySem.F.plainAttrs_str PySem.F.slot_str_join PySem.F.type_str_join zO zd (jA1 (jv 0))))
    (ze (zo (yz zV (cA GS hr4 (jA1 (yJ GR hr rfl zdI (jA1 (jv 1))))) (jv 1) (y0 _))))),?_⟩
  have sl:=line
  have hRw:∀ ws∈kws ++ dws,RowW ws:=fun ws hw=>by
    rcases List.mem_append.mp hw with z | z
    · obtain ⟨d,_,e⟩:=hk.all ws z
      exact e.rw
    · obtain ⟨d,_,e⟩:=hd.all ws z
      exact e.rw
  obtain ⟨e,fit⟩:=za2 hRw h3k (by lia)
  have hkl:=hk.len
  have hdl:=hd.len
  rw [List.length_append] at h60
  refine ⟨rfl,_,rfl,_,_,(kws ++ dws).map tx,rfl,rfl,SqL.of hl,?_,?_⟩
  · have:=xO (kws ++ dws) fun ws hws=>⟨(hRw ws hws).wd,by have:=(hRw ws hws).few; lia⟩
    rw [List.length_append] at this
    show wide NL _<=sizeLine
    lia
  rw [show Str.join ("\n":Str) ((kws ++ dws).map tx)=Str.join NL ((kws ++ dws).map tx) from rfl]
  refine ⟨_,rfl,.inl ⟨_,.ok (ks,ds),rfl,fit,by rw [e]; exact Qd hk hd,fun H3 v3 s3 hI3=>?_⟩⟩
  refine ⟨ks,ds,kws,dws,_,rfl,hI3,hk.imp fun _ _ e=>e.row,hd.imp fun _ _ e=>e.row,by lia,fun H4 s4=>⟨_,rfl,rfl,?_⟩⟩
  rw [decide_eq_true rfl]
  exact q _ (s3.trans s4)
theorem Zp {α:Type} {f:α->V} {s:List α} {m:Int} (h:0<=m):cutV (s.map f) none (some m)=(s.take m.toNat).map f:=by
  unfold cutV
  have c1:HT.sIx (s.map f).length 0 none=0:=rfl
  have c2:HT.sIx (s.map f).length (s.map f).length (some m)=min m.toNat (s.map f).length:=by
    show (if m < 0 then (m + ((s.map f).length:Nat)).toNat else min m.toNat (s.map f).length)=_
    rw [if_neg (by lia)]
  rw [c1,c2,List.drop_zero,Nat.sub_zero,List.map_take,List.length_map]
  rcases Nat.le_total m.toNat s.length with c | c
  · rw [Nat.min_eq_left c]
  · rw [Nat.min_eq_right c,List.take_of_length_le (by simp),List.take_of_length_le (by simpa using c)]
theorem Vr {α:Type} {f:α->V} {s:List α} {m:Int} (h:0<=m):cutV (s.map f) (some m) none=(s.drop m.toNat).map f:=by
  unfold cutV
  have c2:HT.sIx (s.map f).length (s.map f).length none=(s.map f).length:=rfl
  have c1:HT.sIx (s.map f).length 0 (some m)=min m.toNat (s.map f).length:=by
    show (if m < 0 then (m + ((s.map f).length:Nat)).toNat else min m.toNat (s.map f).length)=_
    rw [if_neg (by lia)]
  rw [c1,c2,List.map_drop]
  rcases Nat.le_total m.toNat (s.map f).length with c | c
  · rw [Nat.min_eq_left c]
    exact List.take_of_length_le (by simp)
  · rw [Nat.min_eq_right c,List.drop_of_length_le (Nat.le_refl _),List.drop_of_length_le c]
    exact List.take_nil
theorem slW {K:PySem.W.Frag} {H:Hp} {Q:VK} {l:Addr} {ws us:List Str} {lo hi:Option Int} (h:H l=some (.lst (ws.map V.str))) (e:cutV (ws.map V.str) lo hi=us.map V.str) (q:∀ p,H p=none->Q (.ref p) (upd H p (.lst (us.map V.str)))):rSlL K (.ref l) lo hi H Q :=
  ⟨l,_,rfl,SqL.of h,fun p hp=>by rw [e]; exact q p hp⟩
theorem slWn {K:PySem.W.Frag} {σ:St} {H:Hp} {Q:VK} {l:Addr} {ws us:List Str} {lo:Option Int} (h:H l=some (.lst (ws.map V.str))) (e:cutV (ws.map V.str) lo none=us.map V.str) (q:∀ p,H p=none->Q (.ref p) (upd H p (.lst (us.map V.str)))):wf σ H fun u H3=>rSlL K (.ref l) lo u H3 Q:=slW h e q
theorem catW {H:Hp} {Q:VK} {a b:Addr} {us vs:List Str} (h:H a=some (.lst (us.map V.str))) (g:H b=some (.lst (vs.map V.str))) (hl:us.length + vs.length<=10000) (q:∀ p,H p=none->Q (.ref p) (upd H p (.lst ((us ++ vs).map V.str)))):rCat (.ref a) (.ref b) H Q :=
  ⟨a,b,_,_,rfl,rfl,h,g,by rw [List.length_map,List.length_map,line]; lia,fun p hp=>by rw [<- List.map_append]; exact q p hp⟩
def inR (rows:List (List Str)) (j:Nat) (ws:List Str):List (List Str):=rows.take j ++ ws :: rows.drop j
theorem Z4 {K:PySem.W.Frag} {te:TE} {σ:St} {H:Hp} {Q:VK} {l:Addr} {rows:List (List Str)} {j:Nat} {R:List Str->Prop} (h0:σ[0]?=some (some (.ref l))) (h4:σ[4]?=some (some (.int ((j:Nat):Int)))) (hl:H l=some (.lst ((rows.map tx).map V.str))) (h60:rows.length<=60)
    (hte:∀ (H1:Hp) (Q1:VK),Same H H1->(∀ (H2:Hp) (ws:List Str),Same H1 H2->R ws->Q1 (.str (tx ws)) H2)->te σ H1 Q1) (q:∀ (H':Hp) (p:Addr) (ws:List Str),Same H H'->R ws->H' p=some (.lst (((inR rows j ws).map tx).map V.str))->Q (.ref p) H') :
    tOp rCat (tOp rCat (tSl (rSlL K) (tVar 0) wf (XV (tVar 4))) (tLst (zN te tNil))) (tSl (rSlL K) (tVar 0) (XV (tVar 4)) wf) σ H Q:=by
  refine ⟨_,h0,_,h4,_,rfl,slW hl (Zp (Int.natCast_nonneg j)) fun p1 hp1=>?_⟩
  rw [Int.toNat_natCast]
  have s1:=zf hp1 (.lst (((rows.map tx).take j).map V.str))
  have t1:=za (H:=H) (a:=p1) (o:=.lst (((rows.map tx).take j).map V.str))
  generalize upd H p1 (.lst (((rows.map tx).take j).map V.str))=H1 at *
  refine hte H1 _ s1 fun H2 ws s2 hR=>⟨sN1,fun p2 hp2=>?_⟩
  have s3:=(s1.trans s2).new (o:=.lst [.str (tx ws)]) hp2
  have t3:=old (o:=.lst [.str (tx ws)]) hp2 (s2 _ _ t1)
  have u3:=za (H:=H2) (a:=p2) (o:=.lst ([tx ws].map V.str))
  rw [show [tx ws].map V.str=[V.str (tx ws)] from rfl] at u3
  generalize upd H2 p2 (.lst [.str (tx ws)])=H3 at *
  have l1:((rows.map tx).take j).length<=60:=by rw [List.length_take,List.length_map]; lia
  have l2:((rows.map tx).drop j).length<=60:=by rw [List.length_drop,List.length_map]; lia
  refine catW t3 (vs:=[tx ws]) u3 (by rw [List.length_singleton]; lia) fun p4 hp4=>?_
  have s5:=s3.new (o:=.lst (((rows.map tx).take j ++ [tx ws]).map V.str)) hp4
  have t5:=za (H:=H3) (a:=p4) (o:=.lst (((rows.map tx).take j ++ [tx ws]).map V.str))
  generalize upd H3 p4 (.lst (((rows.map tx).take j ++ [tx ws]).map V.str))=H5 at *
  refine ⟨_,h0,_,h4,_,rfl,slWn (s5 _ _ hl) (Vr (Int.natCast_nonneg j)) fun p6 hp6=>?_⟩
  rw [Int.toNat_natCast]
  have s7:=s5.new (o:=.lst (((rows.map tx).drop j).map V.str)) hp6
  have t7:=old (o:=.lst (((rows.map tx).drop j).map V.str)) hp6 t5
  have u7:=za (H:=H5) (a:=p6) (o:=.lst (((rows.map tx).drop j).map V.str))
  generalize upd H5 p6 (.lst (((rows.map tx).drop j).map V.str))=H7 at *
  refine catW t7 u7 (by rw [List.length_append,List.length_singleton]; lia) fun p8 hp8=>?_
  refine q _ p8 ws (s7.new hp8) hR ?_
  rw [za]
  unfold inR
  simp [List.map_take,List.map_drop]
theorem zbO {c:Bool} {A B:Prop} (k:B) (h:c=true->B->A):if c=true then A else B:=by
  split
  · rename_i e; exact h e k
  · exact k
theorem Rows.g {ks ds:List D} {kws dws:List (List Str)} (h:Rows ks ds kws dws):∀ ws∈kws ++ dws,RowG ws:=fun ws hw=>by
  rcases List.mem_append.mp hw with z | z
  · obtain ⟨d,_,e⟩:=h.k.all ws z
    exact .inl ⟨d,e⟩
  · obtain ⟨d,_,e⟩:=h.d.all ws z
    exact .inr ⟨d,e⟩
theorem zbj {rows:List (List Str)} {j:Nat} {ws us:List Str} (h:us∈inR rows j ws):us=ws\/us∈rows:=by
  rcases List.mem_append.mp h with e | e
  · exact .inr (List.mem_of_mem_take e)
  · rcases List.mem_cons.mp e with e | e
    · exact .inl e
    · exact .inr (List.mem_of_mem_drop e)
theorem WJ (rows:List (List Str)) (j:Nat) (ws:List Str):(inR rows j ws).length=rows.length + 1/\(inR rows j ws).flatten.length=rows.flatten.length + ws.length:=by
  unfold inR
  refine ⟨by rw [List.length_append,List.length_cons,List.length_take,List.length_drop]; lia,?_⟩
  rw [List.flatten_append,List.flatten_cons,List.length_append,List.length_append]
  have:=congrArg (fun l=>l.flatten.length) (List.take_append_drop j rows)
  simp only [List.flatten_append,List.length_append] at this
  lia
theorem YN {K:PySem.W.Frag} {H:Hp} {L:List (List Str)} {i:Nat} (hV:∀ ws∈L,RowV ws) (h2:∃ ws∈L,2<=ws.length) (hl:L.flatten.length<=3000) (h60:L.length<=60) (hR:RowsR 0 [] [] L (.error i)):RdBad K H (.str (Str.join NL (L.map tx))) i/\wide NL (L.map tx)<=sizeLine:=by
  obtain ⟨e,fit⟩:=Qn hV h2 hl (by lia)
  refine ⟨.inl ⟨_,rfl,fit,by rw [e]; exact hR⟩,?_⟩
  have:=xO L fun ws hws=>⟨(hV ws hws).wd,by have:=(hV ws hws).few; lia⟩
  have sl:=line
  lia
theorem Z5 {K:PySem.W.Frag} {H:Hp} {ks ds:List D} {kws dws:List (List Str)} {j:Nat} {ws:List Str} (h:Rows ks ds kws dws) (h0:1<=(kws ++ dws).length) (h59:(kws ++ dws).length<=59) (hj:j<=(kws ++ dws).length) (hw:RowV ws) (hl:ws.length<=100) (hb:∀ ks' ds':List D,(kws.length < j->ds'≠[])->rowR ks' ds' ws none) :
    RdBad K H (.str (Str.join NL ((inR (kws ++ dws) j ws).map tx))) j/\wide NL ((inR (kws ++ dws) j ws).map tx)<=sizeLine:=by
  obtain ⟨l1,l2⟩:=WJ (kws ++ dws) j ws
  have:=h.sz
  refine YN (fun us hu=>?_) ?_ (by lia) (by lia) (WC h.k h.d hj hb)
  · rcases zbj hu with e | e
    · rw [e]; exact hw
    · exact (h.rw us e).v
  · obtain ⟨r,t,e⟩:∃ r t,kws ++ dws=r :: t:=List.exists_cons_of_ne_nil (fun z=>by rw [z] at h0; simp at h0)
    have m:r∈kws ++ dws:=by rw [e]; exact List.mem_cons_self
    refine ⟨r,?_,by have:=(h.g r m).three; lia⟩
    unfold inR
    rw [<- List.take_append_drop j (kws ++ dws)] at m
    rcases List.mem_append.mp m with z | z
    · exact List.mem_append_left _ z
    · exact List.mem_append_right _ (List.mem_cons_of_mem _ z)
theorem zbk {kws dws:List (List Str)} {j:Nat} {ws:List Str} (h:kws.length<=j):inR (kws ++ dws) j ws=kws ++ inR dws (j - kws.length) ws:=by
  unfold inR
  rw [List.take_append,List.drop_append,List.take_of_length_le h,List.drop_of_length_le h,List.nil_append,List.append_assoc]
def QG:Sp:=fun vs H Q _=>∃ (l:Addr) (ks ds:List D) (kws dws:List (List Str)) (c:Int),vs=[.ref l,.int ((kws.length:Nat):Int),.int c]/\H l=some (.lst (((kws ++ dws).map tx).map V.str))/\Rows ks ds kws dws/\1<=(kws ++ dws).length/\(kws ++ dws).length<=59/\∀ H',Same H H'->Q (.bl true) H'
theorem scMore:FnScope ["_law_rows_here","_law_kinds","_law_cell","_law_number_here","_law_at"] ["_law_rows_here","_law_kinds","_law_cell"] (zj Qu):=.ok
theorem zbl (F:Fun K "_law_one_more" "_law_one_more" Qu f fd) (GR:Ca P w K mg base CX0 14 "_law_refused" ["_law_text","_law_due"] (XI K)) (GG:Ca P w K mg base CX0 14 "_law_good" ["_law_rows_here"] XJ) (GE:Ca P w K mg base CX0 2 "_law_edge" ["_law_number_here","_law_more"] Qz) (m_len:mg "len"=none):FnOk P w K mg base CX0 15 f fd ["_law_rows_here","_law_kinds","_law_cell"] QG:=by
  refine F.by scMore (fun vs H Q E h=>?_) (fun cdv A' outer s H vs Q E hr h=>?_)
  · obtain ⟨l,ks,ds,kws,dws,c,rfl,_⟩:=h
    rfl
  obtain ⟨l,ks,ds,kws,dws,c,rfl,hl,hR,h1,h59,q⟩:=h
  have hr2:Room 2 _:=hr.mono (by decide)
  refine ⟨_,
    (zb (sE 3 scMore.nd (zh zC (jv 2) zc))
    (zb (sE 4 scMore.nd (zh zJ (jv 1) (zh zu (zh zC (jv 3) zc) (zh zJ (zh xp (jL m_len (jv 0)) (jv 1)) zc))))
    (zb (zx (tN zV (zh zu (jv 2) zc) zc)
      (zb (sE 4 scMore.nd (zh zu (jv 3) (zh zJ (jL m_len (jv 0)) zc)))
      (ze (zo (cA GR hr (jA2 (zy PySem.F.plainAttrs_str PySem.F.slot_str_join PySem.F.type_str_join zO zd (jA1 (zh zX (zh zX (zB z8 (jv 0) zT (zD (jv 4))) (zp (jA1 zd))) (zB z8 (jv 0) (zD (jv 4)) zT)))) (jv 4)))))) zq)
    (zb (zx (jW.pt (Y3 (tN zV (zh zu (jv 2) zc) zc) (Zz (tN X4 (jv 4) (jv 1)))))
      (ze (zo (cA GR hr (jA2 (zy PySem.F.plainAttrs_str PySem.F.slot_str_join PySem.F.type_str_join zO zd (jA1 (zh zX (zh zX (zB z8 (jv 0) zT (zD (jv 4))) (zp (jA1 zd))) (zB z8 (jv 0) (zD (jv 4)) zT)))) (jv 4))))) zq)
    (zb (zx (yI (ym (cA GG hr (jA1 (zh zX (zh zX (zB z8 (jv 0) zT (zD (jv 4))) (zp (jA1 (cA GE hr2 (jA2 (jv 3) zc))))) (zB z8 (jv 0) (zD (jv 4)) zT))))))
      (ze (zo xn)) zq)
    (ze (zo (cA GR hr (jA2 (zy PySem.F.plainAttrs_str PySem.F.slot_str_join PySem.F.type_str_join zO zd (jA1 (zh zX (zh zX (zB z8 (jv 0) zT (zD (jv 4))) (zp (jA1 (cA GE hr2 (jA2 (jv 3) zc))))) (zB z8 (jv 0) (zD (jv 4)) zT)))) (jv 4)))))))))),?_⟩
  have sl:=line
  have cD:∀ {i j:Int},0 < j->j < 1073741824->CDiv i j:=fun h1 h2=>⟨h1,h2⟩
  have kd:=List.length_append (as:=kws) (bs:=dws)
  have ll:(((kws ++ dws).map tx).map V.str).length=(kws ++ dws).length:=by rw [List.length_map,List.length_map]
  have d1:(0:Int) < (((kws ++ dws).length:Nat):Int) - ((kws.length:Nat):Int) + 1:=by lia
  have b1:=Int.emod_nonneg (c / 3 / 700) (show (((kws ++ dws).length:Nat):Int) - ((kws.length:Nat):Int) + 1≠0 by lia)
  have b2:=Int.emod_lt_of_pos (c / 3 / 700) d1
  have d2:(0:Int) < (((kws ++ dws).length:Nat):Int) + 1:=by lia
  have b3:=Int.emod_nonneg (c / 3) (show (((kws ++ dws).length:Nat):Int) + 1≠0 by lia)
  have b4:=Int.emod_lt_of_pos (c / 3) d2
  refine ⟨_,rfl,_,_,rfl,rfl,cD (by decide) (by decide),?_⟩
  refine ⟨_,rfl,_,rfl,_,_,rfl,rfl,cD (by decide) (by decide),_,rfl,_,_,rfl,.inl (SqL.of hl),_,rfl,_,_,rfl,rfl,_,_,rfl,rfl,_,_,rfl,rfl,(by rw [ll]; exact d1),_,_,rfl,rfl,?_⟩
  rw [ll]
  unfold we
  dsimp only
  show (tSeq _ _:TS) _ [some (.ref l),some (.int ((kws.length:Nat):Int)),some (.int c),some (.int (c / 3)),some (.int (((kws.length:Nat):Int) + c / 3 / 700 % ((((kws ++ dws).length:Nat):Int) - ((kws.length:Nat):Int) + 1)))] H
  obtain ⟨j,hj⟩:∃ j:Nat,((kws.length:Nat):Int) + c / 3 / 700 % ((((kws ++ dws).length:Nat):Int) - ((kws.length:Nat):Int) + 1)=(j:Nat):=⟨(((kws.length:Nat):Int) + c / 3 / 700 % ((((kws ++ dws).length:Nat):Int) - ((kws.length:Nat):Int) + 1)).toNat,by lia⟩
  rw [hj]
  have jk:kws.length<=j:=by lia
  have jl:j<=(kws ++ dws).length:=by lia
  clear hj b1 b2 d1
  have nil1:RowV [("":Str)]:=⟨fun x hx=>by rw [List.mem_singleton.mp hx]; exact yg (by decide +kernel),by simp,by simp⟩
  have kin1:RowV ["kind","a","0"]:=⟨fun x hx=>yg ((by decide +kernel:∀ x∈(["kind","a","0"]:List Str),wdB x=true) x hx),by simp,by simp⟩
  refine ⟨_,rfl,_,_,rfl,rfl,(by show (0:Int) < _; decide),rfl,_,rfl,ite2 (fun _=>?_) (fun _=>nxtC ?_)⟩
  · refine ⟨_,rfl,_,rfl,_,_,rfl,.inl (SqL.of hl),_,_,rfl,rfl,_,_,rfl,rfl,(by rw [ll]; exact d2),?_⟩
    rw [ll]
    dsimp only
    obtain ⟨i,hi⟩:∃ i:Nat,c / 3 % ((((kws ++ dws).length:Nat):Int) + 1)=(i:Nat):=⟨(c / 3 % ((((kws ++ dws).length:Nat):Int) + 1)).toNat,by lia⟩
    rw [hi] at b4 ⊢
    refine ⟨rfl,Z4 (rows:=kws ++ dws) (j:=i) (R:=fun ws=>ws=[("":Str)]) rfl rfl hl (by lia) (fun H1 Q1 _ g=>g H1 [""] (Same.refl _) rfl) fun H2 p ws s2 e hp=>?_⟩
    subst e
    obtain ⟨z1,z2⟩:=Z5 (K:=K) (H:=H2) (j:=i) (ws:=[""]) hR h1 h59 (by lia) nil1 (by decide) (fun ks' ds' _=>wF (by decide) (by decide) ks' ds')
    exact ⟨_,p,_,rfl,rfl,SqL.of hp,z2,_,rfl,_,i,rfl,z1,fun H3 s3=>q _ (s2.trans s3)⟩
  dsimp only
  refine ⟨_,rfl,_,_,rfl,rfl,(by show (0:Int) < _; decide),rfl,_,rfl,zbO (iteF (nxtC ?_)) fun _ cont=>?_⟩
  · dsimp only
    refine Z4 (rows:=kws ++ dws) (j:=j) (R:=EdgeOk 0) rfl rfl hl (by lia) (fun H1 Q1 _ g=>⟨_,rfl,_,0,rfl,.inl rfl,g⟩) fun H2 p ws s2 hE hp=>?_
    obtain ⟨d,hD⟩:=hE.good rfl
    obtain ⟨l1,l2⟩:=WJ (kws ++ dws) j ws
    have hsz:=hR.sz
    have hhi:=hE.hi
    rw [zbk jk] at hp l1 l2
    refine ⟨p,ks,ds.take (j - kws.length) ++ d :: ds.drop (j - kws.length),kws,inR dws (j - kws.length) ws,rfl,hp,hR.k,(hR.d.take _).app ⟨hD,hR.d.drop _⟩,by lia,by lia,fun H3 s3=>⟨_,rfl,iteF (nxtC ?_)⟩⟩
    dsimp only
    have s03:=s2.trans s3
    refine ⟨rfl,Z4 (rows:=kws ++ dws) (j:=j) (R:=EdgeOk 1) rfl rfl (s03 _ _ hl) (by lia) (fun H1 Q1 _ g=>⟨_,rfl,_,1,rfl,.inr rfl,g⟩) fun H4 p4 us s4 hE4 hp4=>?_⟩
    obtain ⟨z1,z2⟩:=Z5 (K:=K) (H:=H4) (ws:=us) hR h1 h59 jl ⟨hE4.wd,fun z=>(by have:=hE4.lo; rw [z] at this; simp at this),by have:=hE4.hi; lia⟩ hE4.hi (fun ks' ds' _=>hE4.bad rfl ks' ds')
    exact ⟨_,p4,_,rfl,rfl,SqL.of hp4,z2,_,rfl,_,j,rfl,z1,fun H5 s5=>q _ ((s03.trans s4).trans s5)⟩
  · refine ⟨_,rfl,_,rfl,_,_,rfl,rfl,_,rfl,ite2 (fun c1=>?_) (fun _=>cont)⟩
    rw [decide_eq_true_eq] at c1
    refine ⟨rfl,Z4 (rows:=kws ++ dws) (j:=j) (R:=fun ws=>ws=[("kind":Str),"a","0"]) rfl rfl hl (by lia) (fun H1 Q1 _ g=>by have:=g H1 _ (Same.refl _) rfl; rw [Qk] at this; exact this) fun H2 p ws s2 e hp=>?_⟩
    subst e
    obtain ⟨z1,z2⟩:=Z5 (K:=K) (H:=H2) (ws:=["kind","a","0"]) hR h1 h59 jl kin1 (by decide) (fun ks' ds' hd=>by
      unfold rowR
      dsimp only
      rw [if_neg (by decide),if_neg (fun z=>hd (by lia) z.2)])
    exact ⟨_,p,_,rfl,rfl,SqL.of hp,z2,_,rfl,_,j,rfl,z1,fun H3 s3=>q _ (s2.trans s3)⟩
end
theorem Vs (rows:List (List Str)) (j:Nat):(rows.take j).flatten.length<=rows.flatten.length:=by
  have:=congrArg (fun l=>l.flatten.length) (List.take_append_drop j rows)
  simp only [List.flatten_append,List.length_append] at this
  lia
theorem Rows.take {ks ds:List D} {kws dws:List (List Str)} (h:Rows ks ds kws dws) (n:Nat):Rows (ks.take n) (ds.take (n - kws.length)) (kws.take n) (dws.take (n - kws.length))/\kws.take n ++ dws.take (n - kws.length)=(kws ++ dws).take n:=by
  have e:kws.take n ++ dws.take (n - kws.length)=(kws ++ dws).take n:=List.take_append.symm
  have f:=Vs (kws ++ dws) n
  have:=h.few
  have:=h.sz
  refine ⟨⟨h.k.take n,h.d.take _,?_,?_⟩,e⟩
  · rw [e,List.length_take]
    lia
  · rw [e]
    lia
theorem zc8:tx [("def":Str),"a","=","give","a"]="def a = give a":=by decide +kernel
theorem QH:Rows [] [.tup [.str "a",Rd.«strs» [],.tup [.str "give",.str "a"]]] [] [[("def":Str),"a","=","give","a"]]:=⟨True.intro,⟨⟨"a",[],_,_,rfl,rfl,Z0,(fun _ h=>by cases h),by decide,yj Z0,by decide⟩,True.intro⟩,by decide,by decide⟩
theorem js:∀ (rows:List (List Str)) (j:Nat) (u:List Str),(rows.set j u).flatten.length<=rows.flatten.length + u.length
  | [],j,u=>by simp
  | r :: t,0,u=>by
    rw [List.set_cons_zero,List.flatten_cons,List.flatten_cons,List.length_append,List.length_append]
    lia
  | r :: t,j + 1,u=>by
    have:=js t j u
    rw [List.set_cons_succ,List.flatten_cons,List.flatten_cons,List.length_append,List.length_append]
    lia
structure SetOk (rows L:List (List Str)) (j:Nat) (n:Nat):Prop where
  len:L.length=rows.length
  all:∀ ws∈L,RowV ws/\2<=ws.length
  sz:L.flatten.length<=rows.flatten.length + 414 * n
  tk:L.take j=rows.take j
  bad:∃ b,L[j]?=some b/\BadR b
structure SpOk (u:List Str):Prop where
  bad:BadR u
  v:RowV u
  lo:2<=u.length
  hi:u.length<=414
theorem WK {rows:List (List Str)} {j:Nat} {u:List Str} (hG:∀ ws∈rows,RowG ws) (hj:j < rows.length) (hu:SpOk u):SetOk rows (rows.set j u) j 1:=by
  have:=js rows j u
  have:=hu.hi
  refine ⟨List.length_set,fun ws hw=>?_,by lia,List.take_set_of_le (Nat.le_refl _),u,by rw [List.getElem?_set_self hj],hu.bad⟩
  rcases List.mem_or_eq_of_mem_set hw with e | e
  · exact ⟨(hG ws e).rw.v,by have:=(hG ws e).three; lia⟩
  · rw [e]
    exact ⟨hu.v,hu.lo⟩
theorem zbm {rows:List (List Str)} {i j:Nat} {u v:List Str} (hG:∀ ws∈rows,RowG ws) (hi:i < rows.length) (hj:j < rows.length) (hu:SpOk u) (hv:SpOk v):SetOk rows ((rows.set i u).set j v) (if j < i then j else i) 2:=by
  have a:=WK hG hi hu
  have:=js (rows.set i u) j v
  have:=hv.hi
  have:=a.sz
  refine ⟨by rw [List.length_set,List.length_set],fun ws hw=>?_,by lia,?_,?_⟩
  · rcases List.mem_or_eq_of_mem_set hw with e | e
    · exact a.all ws e
    · rw [e]
      exact ⟨hv.v,hv.lo⟩
  · split
    · rw [List.take_set_of_le (Nat.le_refl _),List.take_set_of_le (by lia)]
    · rw [List.take_set_of_le (by lia),a.tk]
  · split
    · exact ⟨v,by rw [List.getElem?_set_self (by rw [List.length_set]; exact hj)],hv.bad⟩
    · by_cases e:j=i
      · subst e
        exact ⟨v,by rw [List.getElem?_set_self (by rw [List.length_set]; exact hj)],hv.bad⟩
      · exact ⟨u,by rw [List.getElem?_set_ne e,List.getElem?_set_self hi],hu.bad⟩
theorem zbn {K:PySem.W.Frag} {H:Hp} {ks ds:List D} {kws dws L:List (List Str)} {j n:Nat} (h:Rows ks ds kws dws) (h1:1<=(kws ++ dws).length) (h59:(kws ++ dws).length<=59) (hn:n<=2) (hj:j < (kws ++ dws).length) (s:SetOk (kws ++ dws) L j n):RdBad K H (.str (Str.join NL (L.map tx))) j/\wide NL (L.map tx)<=sizeLine:=by
  obtain ⟨b,hb,hB⟩:=s.bad
  have:=h.sz
  have:=s.sz
  have:=s.len
  refine YN (fun ws hw=>(s.all ws hw).1) ⟨b,List.mem_of_getElem? hb,(s.all b (List.mem_of_getElem? hb)).2⟩ (by lia) (by lia) (Qo h.k h.d (by lia) s.tk hb hB)
theorem QI {a u:TS} {D:Ends} {σ:St} {H:Hp} (R:St->Hp->Prop) (fin:∀ σ' H',R σ' H'->u D σ' H') (key:∀ (v:TS) (D':Ends),(∀ σ' H',R σ' H'->v D' σ' H')->(tSeq a v:TS) D' σ H):(tSeq a u:TS) D σ H:=key u D fin
theorem zdJ {a b u:TS} {D:Ends} {σ:St} {H:Hp} (R:St->Hp->Prop) (fin:∀ σ' H',R σ' H'->u D σ' H') (key:∀ (v:TS) (D':Ends),(∀ σ' H',R σ' H'->v D' σ' H')->(tSeq a (tSeq b v):TS) D' σ H):(tSeq a (tSeq b u):TS) D σ H:=key u D fin
abbrev Z6:Stmt:=top 46
def YO (K:PySem.W.Frag):Sp:=fun vs H Q _=>∃ (a:Addr) (ns:List Int) (k:Nat),vs=[.ref a,.int (k:Int)]/\SqL K H a (ns.map V.int)/\∀ c:Int,Q (.int c) H
section
variable {P:Program} {w:World} {K:PySem.W.Frag} {mg:Str->Option Value} {base:Heap} {f:Addr} {fd:FuncData}
theorem QJ:FnScope ["_law_script","_law_k"] ["_law_script","_law_k"] (zj Z6):=.ok
theorem Vt (F:Fun K "_law_cell_at" "_law_cell_at" Z6 f fd) (m_len:mg "len"=none):FnOk P w K mg base CX0 1 f fd ["_law_script","_law_k"] (YO K):=by
  refine F.by QJ (fun vs H Q E h=>?_) (fun cdv A outer s H vs Q E hr h=>?_)
  · obtain ⟨a,ns,k,rfl,_⟩:=h
    rfl
  obtain ⟨a,ns,k,rfl,hS,q⟩:=h
  refine ⟨_,
    (zb (zx (tN vg (jv 1) (jL m_len (jv 0)))
      (ze (zo (xX z5 (jv 0) (jv 1))))  zq)
    (ze (zo zc))),?_⟩
  refine ⟨_,rfl,_,rfl,a,_,rfl,.inl hS,_,_,rfl,rfl,_,rfl,?_⟩
  rw [List.length_map]
  by_cases c:k < ns.length
  · rw [decide_eq_true (by lia)]
    exact iteT ⟨_,rfl,_,rfl,a,_,_,_,rfl,rfl,hS,yT (by rw [List.getElem?_map,List.getElem?_eq_getElem c]; rfl),q _⟩
  · rw [decide_eq_false (by lia)]
    exact iteF (q _)
theorem iteE {b:Bool} {A B:Prop} (e:b=false) (h:B):if b=true then A else B:=by rw [if_neg (by rw [e]; decide)]; exact h
theorem scLaw15:FnScope ["_law_script","_law_program","_law_rows_here","_law_kinds","_law_number_here","_law_others","_law_at","_law_other","_law_spoiled_here"] ["_law_script"] (zj XG):=.ok
theorem QK (F:Fun K "law" "law" XG f fd) (GO:Ca P w K mg base CX0 7 "_law_rows" ["_law_script"] (WB K)) (GC:Ca P w K mg base CX0 1 "_law_cell_at" ["_law_script","_law_k"] (YO K)) (GR:Ca P w K mg base CX0 14 "_law_refused" ["_law_text","_law_due"] (XI K)) (GG:Ca P w K mg base CX0 14 "_law_good" ["_law_rows_here"] XJ) (GM:Ca P w K mg base CX0 15 "_law_one_more" ["_law_rows_here","_law_kinds","_law_cell"] QG) (GS:Ca P w K mg base CX0 2 "_law_spoiled" ["_law_row","_law_cell"] Zn)
    (kt:∀ T:String,T∈["NoneType","int","list","tuple","bool","dict"]->PySem.W.kitOne K (.type T) (.type "str")=some false) (m_len:mg "len"=none) (m_min:mg "min"=none) (m_list:mg "list"=none):FnOk P w K mg base CX0 16 f fd ["_law_script"] (j4 K):=by
  refine F.by scLaw15 (fun vs H Q E h=>?_) (fun cdv A' outer s H vs Q E hr h=>?_)
  · obtain ⟨a,ns,rfl,_⟩:=h
    rfl
  obtain ⟨a,sc,rfl,hS,h63,q⟩:=h
  have hr1:Room 1 _:=hr.mono (by decide)
  have hr2:Room 2 _:=hr.mono (by decide)
  have hr7:Room 7 _:=hr.mono (by decide)
  have hr14:Room 14 _:=hr.mono (by decide)
  refine ⟨_,
    (zb (yu (cA GO hr7 (jA1 (zB z8 (jv 0) (zD zc) zT))) (yB rfl (zw (gN 1 scLaw15.nd) (zw (gN 2 scLaw15.nd) yi))))
    (zb (zx (tN (vM hr) (jv 2) (zp zS))
      (ze (sE 2 scLaw15.nd (zp (jA1 zd)))) zq)
    (zb (zx (tN zV (jL m_len (jv 2)) zc)
      (ze (sE 2 scLaw15.nd (zB z8 (jv 2) zT (zD zc)))) zq)
    (zb (sE 3 scLaw15.nd (z4 (ZZ rfl) rfl m_min PyProof.Rows.boot_min (jA2 (jL m_len (xT 1)) (jL m_len (jv 2)))))
    (zb (zx (yI (ym (cA GG hr14 (jA1 (jv 2)))))
      (ze (zo xn)) zq)
    (zb (sE 4 scLaw15.nd (cA GC hr1 (jA2 (jv 0) zc)))
    (zb (sE 5 scLaw15.nd (zp (jA7 vI zc (zp (jA1 zd)) (zz (jA1 zd)) (zh zJ zc (zh zu (jv 4) zc)) xn QE)))
    (zb (zx (jW.pt (Y3 (tN zV (zh zu (jv 4) zc) zc) (Zz (yI (ym (cA GR hr14 (jA2 (xX z5 (jv 5) (zh zu (zh zC (jv 4) zc) zc)) zc)))))))
      (ze (zo xn)) zq)
    (zb (zx (tN vg (zh zu (jv 4) zc) zc)
      (ze (zx (yI (ym (cA GM hr (jA3 (jv 2) (jv 3) (cA GC hr1 (jA2 (jv 0) zc))))))
        (ze (zo xn)) zq))
      (zb (sE 6 scLaw15.nd (zh zu (zh zC (jv 4) zc) (jL m_len (jv 2))))
      (zb (sE 7 scLaw15.nd (zh zu (cA GC hr1 (jA2 (jv 0) zc)) (jL m_len (jv 2))))
      (zb (sE 8 scLaw15.nd (zU yQ rfl m_list PyProof.Rows.boot_list (jA1 (jv 2))))
      (zb (yu (cA GS hr2 (jA2 (xX z5 (jv 2) (jv 6)) (cA GC hr1 (jA2 (jv 0) zc)))) (vA (jv 8) (jv 6)))
      (zb (zx (tN zV (zh zu (zh zC (cA GC hr1 (jA2 (jv 0) zc)) zc) zc) zc)
        (zb (yu (cA GS hr2 (jA2 (xX z5 (jv 2) (jv 7)) (cA GC hr1 (jA2 (jv 0) zc)))) (vA (jv 8) (jv 7)))
        (ze (sE 6 scLaw15.nd (z4 (ZZ rfl) rfl m_min PyProof.Rows.boot_min (jA2 (jv 6) (jv 7)))))) zq)
      (ze (zx (yI (ym (cA GR hr14 (jA2 (zy PySem.F.plainAttrs_str PySem.F.slot_str_join PySem.F.type_str_join zO zd (jA1 (jv 8))) (jv 6)))))
        (ze (zo xn)) zq))))))))
    (ze (zo (cA GG hr14 (jA1 (jv 2)))))))))))))),?_⟩
  have sl:=line
  have cD:∀ {i j:Int},0 < j->j < 1073741824->CDiv i j:=fun h1 h2=>⟨h1,h2⟩
  obtain ⟨m1,e1,n1⟩:=YK sc (some 4) none
  refine ⟨_,rfl,_,rfl,a,_,rfl,hS,fun p0 hp0=>?_⟩
  rw [e1]
  have s0:=zf hp0 (.lst (m1.map V.int))
  have t0:=za (H:=H) (a:=p0) (o:=.lst (m1.map V.int))
  generalize upd H p0 (.lst (m1.map V.int))=H0 at *
  refine ⟨p0,m1,rfl,SqL.of t0,by lia,fun H1 p1 pr v ks ds kws dws s1' hp1 hI hpr hR=>⟨_,_,rfl,SqT.of hp1,rfl,_,_,rfl,_,_,rfl,rfl,?_⟩⟩
  have s1:=s0.trans s1'
  have hkl:=hR.k.len
  have hdl:=hR.d.len
  have hfew:=hR.few
  have hal:=List.length_append (as:=kws) (bs:=dws)
  clear s0 s1' t0 hp0 hp1 e1
  dsimp only
  show (tSeq _ _:TS) _ [some (.ref a),some v,some (.ref pr),none,none,none,none,none,none] H1
  refine zdJ (fun σ' H'=>∃ (l':Addr) (ks' ds':List D) (kws' dws':List (List Str)),σ'=[some (.ref a),some v,some (.ref l'),none,none,none,none,none,none]/\Same H1 H'/\H' l'=some (.lst (((kws' ++ dws').map tx).map V.str))/\Rows ks' ds' kws' dws'/\1<=(kws' ++ dws').length/\(kws' ++ dws').length<=59/\(if (((kws' ++ dws').length:Nat):Int) < ((ks.length:Nat):Int) then (((kws' ++ dws').length:Nat):Int) else ((ks.length:Nat):Int))=((kws'.length:Nat):Int)) ?fin ?key
  case key =>
    intro u Dn fin
    refine ⟨_,rfl,sN0,fun pe he=>⟨_,_,_,rfl,rfl,SqL.of (old he hpr),SqL.of za,_,rfl,?_⟩⟩
    have s2:=zf he (.lst [])
    have hpr2:=old (o:=.lst []) he hpr
    generalize upd H1 pe (.lst [])=H2 at *
    have ll:(((kws ++ dws).map tx).map V.str).length=(kws ++ dws).length:=by rw [List.length_map,List.length_map]
    cases e:kws ++ dws with
    | nil =>
      rw [e] at hpr2 hal
      refine iteT ⟨sN1,fun p3 hp3=>?_⟩
      dsimp only
      refine ⟨_,rfl,_,_,rfl,.inl (SqL.of za),rfl,_,rfl,iteF (nxtC ?_)⟩
      refine fin _ _ ⟨p3,_,_,_,_,rfl,s2.new hp3,by rw [za,List.nil_append,List.map_singleton,List.map_singleton,zc8],QH,by decide,by decide,?_⟩
      rw [List.length_nil] at hal
      rw [if_neg (by show ¬ ((1:Int) < _); lia)]
      show _=(0:Int)
      lia
    | cons r t =>
      rw [<- e]
      have ne1:1<=(kws ++ dws).length:=by rw [e,List.length_cons]; lia
      refine iteE ?_ (nxtC ?_)
      · rw [e]; rfl
      dsimp only
      refine ⟨_,rfl,_,_,rfl,.inl (SqL.of hpr2),rfl,_,rfl,?_⟩
      rw [ll]
      refine ite2 (fun c=>?_) (fun c=>nxtC ?_)
      · have c60:(kws ++ dws).length=60:=by
          have:=V.int.inj (of_decide_eq_true c)
          lia
        obtain ⟨hR2,e2⟩:=hR.take 59
        refine ⟨_,rfl,_,rfl,pr,_,rfl,SqL.of hpr2,fun p3 hp3=>?_⟩
        rw [show cutV (((kws ++ dws).map tx).map V.str) none (some 59)=(((kws ++ dws).map tx).take 59).map V.str from Zp (by decide)]
        dsimp only
        have l59:(kws.take 59 ++ dws.take (59 - kws.length)).length=59:=by rw [e2,List.length_take]; lia
        refine fin _ _ ⟨p3,_,_,_,_,rfl,s2.new hp3,by rw [za,e2]; simp [List.map_take],hR2,by lia,by lia,?_⟩
        rw [l59,List.length_take]
        split <;> lia
      · have c60:(kws ++ dws).length≠60:=fun z=>c (decide_eq_true (congrArg V.int (by lia)))
        refine fin _ _ ⟨pr,ks,ds,kws,dws,rfl,s2,hpr2,hR,ne1,by lia,?_⟩
        rw [if_neg (by lia)]
        lia
  case fin =>
  rintro σ' H2 ⟨l,ks',ds',kws',dws',rfl,s2',hl2,hR',n1',n59,hmin⟩
  have hI2:=hI.keep (Tups.of s2')
  have s2:=s1.trans s2'
  clear hpr hkl hdl hfew hal s1 s2' hI hR
  generalize hrows:kws' ++ dws'=rows at *
  have ll:((rows.map tx).map V.str).length=rows.length:=by rw [List.length_map,List.length_map]
  have hG:∀ ws∈rows,RowG ws:=fun ws hw=>hR'.g ws (by rw [hrows]; exact hw)
  cases hI2 with
  | @tup _ t tp ht hL =>
  cases hL with
  | cons a1 hL =>
  cases hL with
  | cons a2 hL =>
  cases hL
  cases a1 with
  | @tup _ kv pk hpk lk =>
  have lkl:=lk.len
  refine ⟨_,rfl,ixT ht aI0 ⟨_,_,rfl,.inr (SqT.of hpk),_,rfl,_,_,rfl,.inl (SqL.of hl2),_,_,rfl,?_⟩⟩
  rw [ll,<- lkl,hmin]
  dsimp only
  refine ⟨_,rfl,l,ks',ds',kws',dws',rfl,by rw [hrows]; exact hl2,hR'.k,hR'.d,by rw [hrows]; lia,by rw [hrows]; have:=hR'.sz; rw [hrows] at this; lia,fun H3 s3=>⟨_,rfl,iteF (nxtC ?_)⟩⟩
  dsimp only
  have s03:=s2.trans s3
  have hl3:=s3 _ _ hl2
  clear s2 s3 hl2 lk hpk ht hmin lkl a2
  refine ⟨_,rfl,a,sc,0,rfl,s03.seq hS,fun n=>?_⟩
  refine ⟨sN1,fun p1 h1=>⟨sN1,fun p2 h2=>⟨_,rfl,_,_,rfl,rfl,(by show (0:Int) < _; decide),_,_,rfl,rfl,fun pd hd=>⟨sN7,fun po ho=>?_⟩⟩⟩⟩
  have s4:=(((s03.new (o:=.lst [.str "def a = give a"]) h1).new (o:=.tup [.str "kind a 0"]) h2).new (o:=.dK []) hd).new (o:=.lst [.non,.int 0,.ref p1,.ref p2,.int (7 + n % 1000),.bl true,.ref pd]) ho
  have t1:=old (o:=.lst [.non,.int 0,.ref p1,.ref p2,.int (7 + n % 1000),.bl true,.ref pd]) ho (old (o:=.dK []) hd (old (o:=.tup [.str "kind a 0"]) h2 (za (H:=H3) (a:=p1) (o:=.lst [.str "def a = give a"]))))
  have t2:=old (o:=.lst [.non,.int 0,.ref p1,.ref p2,.int (7 + n % 1000),.bl true,.ref pd]) ho (old (o:=.dK []) hd (za (H:=upd H3 p1 (.lst [.str "def a = give a"])) (a:=p2) (o:=.tup [.str "kind a 0"])))
  have t3:=old (o:=.lst [.non,.int 0,.ref p1,.ref p2,.int (7 + n % 1000),.bl true,.ref pd]) ho (za (H:=upd (upd H3 p1 (.lst [.str "def a = give a"])) p2 (.tup [.str "kind a 0"])) (a:=pd) (o:=.dK []))
  have t4:=za (H:=upd (upd (upd H3 p1 (.lst [.str "def a = give a"])) p2 (.tup [.str "kind a 0"])) pd (.dK [])) (a:=po) (o:=.lst [.non,.int 0,.ref p1,.ref p2,.int (7 + n % 1000),.bl true,.ref pd])
  have hl4:=old (o:=.lst [.non,.int 0,.ref p1,.ref p2,.int (7 + n % 1000),.bl true,.ref pd]) ho (old (o:=.dK []) hd (old (o:=.tup [.str "kind a 0"]) h2 (old (o:=.lst [.str "def a = give a"]) h1 hl3)))
  dsimp only
  generalize upd (upd (upd (upd H3 p1 (.lst [.str "def a = give a"])) p2 (.tup [.str "kind a 0"])) pd (.dK [])) po (.lst [.non,.int 0,.ref p1,.ref p2,.int (7 + n % 1000),.bl true,.ref pd])=H4 at *
  clear h1 h2 hd ho hl3 s03
  refine QI (fun σ' H'=>σ'=[some (.ref a),some (.ref tp),some (.ref l),some (.int ((kws'.length:Nat):Int)),some (.int n),some (.ref po),none,none,none]/\Same H4 H') ?fin ?key
  case key =>
    intro u Dn fin
    refine ⟨_,rfl,_,_,rfl,rfl,(by show (0:Int) < _; decide),rfl,_,rfl,zbO (iteF (nxtC (fin _ _ ⟨rfl,Same.refl _⟩))) fun _ _=>?_⟩
    obtain ⟨v,hat,hN⟩:∃ v,atI [V.non,.int 0,.ref p1,.ref p2,.int (7 + n % 1000),.bl true,.ref pd] (n / 9 % 7)=some v/\NoTx K H4 v:=by
      have b0:=Int.emod_nonneg (n / 9) (show (7:Int)≠0 by decide)
      have b1:=Int.emod_lt_of_pos (n / 9) (show (0:Int) < 7 by decide)
      have:n / 9 % 7=0\/n / 9 % 7=1\/n / 9 % 7=2\/n / 9 % 7=3\/n / 9 % 7=4\/n / 9 % 7=5\/n / 9 % 7=6:=by lia
      rcases this with e | e | e | e | e | e | e <;> rw [e]
      · exact ⟨_,rfl,_,.non,kt _ (by decide)⟩
      · exact ⟨_,rfl,_,.int _,kt _ (by decide)⟩
      · exact ⟨_,rfl,_,.lst t1,kt _ (by decide)⟩
      · exact ⟨_,rfl,_,.tup t2,kt _ (by decide)⟩
      · exact ⟨_,rfl,_,.int _,kt _ (by decide)⟩
      · exact ⟨_,rfl,_,.bl _,kt _ (by decide)⟩
      · exact ⟨_,rfl,_,.dK t3,kt _ (by decide)⟩
    exact ⟨_,rfl,_,rfl,_,_,rfl,rfl,cD (by decide) (by decide),_,_,rfl,rfl,(by show (0:Int) < _; decide),po,_,_,_,rfl,rfl,SqL.of t4,hat,v,0,rfl,.inr ⟨rfl,hN⟩,fun H5 s5=>⟨_,rfl,iteF (nxtC (fin _ _ ⟨rfl,s5⟩))⟩⟩
  case fin =>
  rintro σ' H5 ⟨rfl,s5⟩
  have s05:=s4.trans s5
  have hl5:=s5 _ _ hl4
  clear s4 s5 hl4 t1 t2 t3 t4
  refine QI (fun σ' H'=>∃ x y z,σ'=[some (.ref a),some (.ref tp),some (.ref l),some (.int ((kws'.length:Nat):Int)),some (.int n),some (.ref po),x,y,z]/\Same H5 H') ?fin2 ?key2
  case fin2 =>
    rintro σ' H6 ⟨x,y,z,rfl,s6⟩
    exact ⟨_,rfl,l,ks',ds',kws',dws',rfl,by rw [hrows]; exact s6 _ _ hl5,hR'.k,hR'.d,by rw [hrows]; lia,by have:=hR'.sz; lia,fun H7 s7=>q _⟩
  case key2 =>
  intro u Dn fin
  refine ⟨_,rfl,_,_,rfl,rfl,(by show (0:Int) < _; decide),_,_,rfl,rfl,_,rfl,ite2 (fun _=>?_) (fun _=>?_)⟩
  · exact ⟨_,rfl,_,rfl,_,rfl,a,sc,1,rfl,s05.seq hS,fun c=>⟨l,ks',ds',kws',dws',c,rfl,by rw [hrows]; exact hl5,hR',by rw [hrows]; exact n1',by rw [hrows]; exact n59,fun H6 s6=>⟨_,rfl,iteF (nxtC (fin _ _ ⟨_,_,_,rfl,s6⟩))⟩⟩⟩
  have pos:(0:Int) < ((rows.length:Nat):Int):=by lia
  have b1:=Int.emod_nonneg (n / 9) (show ((rows.length:Nat):Int)≠0 by lia)
  have b2:=Int.emod_lt_of_pos (n / 9) pos
  refine ⟨_,rfl,_,_,rfl,rfl,cD (by decide) (by decide),_,rfl,_,_,rfl,.inl (SqL.of hl5),_,_,rfl,rfl,(by rw [ll]; exact pos),?_⟩
  rw [ll]
  obtain ⟨i,hi⟩:∃ i:Nat,n / 9 % ((rows.length:Nat):Int)=(i:Nat):=⟨(n / 9 % ((rows.length:Nat):Int)).toNat,by lia⟩
  dsimp only
  rw [hi] at b2 ⊢
  refine ⟨_,rfl,a,sc,2,rfl,s05.seq hS,fun c2=>⟨_,rfl,_,_,rfl,.inl (SqL.of hl5),_,_,rfl,rfl,(by rw [ll]; exact pos),?_⟩⟩
  have b3:=Int.emod_nonneg c2 (show ((rows.length:Nat):Int)≠0 by lia)
  have b4:=Int.emod_lt_of_pos c2 pos
  rw [ll]
  obtain ⟨j,hj⟩:∃ j:Nat,c2 % ((rows.length:Nat):Int)=(j:Nat):=⟨(c2 % ((rows.length:Nat):Int)).toNat,by lia⟩
  dsimp only
  rw [hj] at b4 ⊢
  have il:i < rows.length:=by lia
  have jl:j < rows.length:=by lia
  refine ⟨_,rfl,_,_,rfl,.inl (SqL.of hl5),fun ps hps=>?_⟩
  have s6:=zf hps (.lst ((rows.map tx).map V.str))
  have t6:=za (H:=H5) (a:=ps) (o:=.lst ((rows.map tx).map V.str))
  have hl6:=s6 _ _ hl5
  dsimp only
  generalize upd H5 ps (.lst ((rows.map tx).map V.str))=H6 at *
  have hat:∀ {k:Nat} (h:k < rows.length),atI ((rows.map tx).map V.str) ((k:Nat):Int)=some (.str (tx rows[k])):=fun {k} h=>yT (by rw [List.getElem?_map,List.getElem?_map,List.getElem?_eq_getElem h]; rfl)
  have hix:∀ {k m:Nat},k < m->ixN m ((k:Nat):Int)=some k:=fun {k m} h=>by
    unfold ixN
    rw [if_pos (by lia),if_pos (by lia)]
    rfl
  refine ⟨_,rfl,_,rfl,l,_,_,_,rfl,rfl,SqL.of hl6,hat il,_,rfl,a,sc,1,rfl,(s05.trans s6).seq hS,fun c1=>⟨rows[i],c1,rfl,hG _ (List.getElem_mem il),fun H7 us s7 hB hV u2 u4=>⟨_,rfl,_,rfl,ps,_,_,i,rfl,rfl,s7 _ _ t6,hix (by rw [ll]; exact il),?_⟩⟩⟩
  have hu:SpOk us:=⟨hB,hV,u2,u4⟩
  have em:∀ (L:List (List Str)) (k:Nat) (u:List Str),((L.map tx).map V.str).set k (.str (tx u))=((L.set k u).map tx).map V.str:=fun L k u=>by rw [List.map_set,List.map_set]
  rw [em]
  have s8:=(s6.trans s7).put (o:=.lst (((rows.set i us).map tx).map V.str)) hps
  have t8:=za (H:=H7) (a:=ps) (o:=.lst (((rows.set i us).map tx).map V.str))
  dsimp only
  generalize upd H7 ps (.lst (((rows.set i us).map tx).map V.str))=H8 at *
  clear s6 t6 hl6 s7
  refine QI (fun σ' H'=>∃ (L:List (List Str)) (k m:Nat) (y:Option V),σ'=[some (.ref a),some (.ref tp),some (.ref l),some (.int ((kws'.length:Nat):Int)),some (.int n),some (.ref po),some (.int ((k:Nat):Int)),y,some (.ref ps)]/\Same H5 H'/\H' ps=some (.lst ((L.map tx).map V.str))/\m<=2/\k < rows.length/\SetOk rows L k m) ?fin3 ?key3
  case fin3 =>
    rintro σ' H9 ⟨L,k,m,y,rfl,s9,t9,hm,hk,hO⟩
    obtain ⟨z1,z2⟩:=zbn (K:=K) (H:=H9) (kws:=kws') (dws:=dws') (L:=L) (j:=k) hR' (by rw [hrows]; exact n1') (by rw [hrows]; exact n59) hm (by rw [hrows]; exact hk) (by rw [hrows]; exact hO)
    exact ⟨rfl,_,rfl,_,ps,_,rfl,rfl,SqL.of t9,z2,_,rfl,_,k,rfl,z1,fun Ha sa=>⟨_,rfl,iteF (nxtC (fin _ _ ⟨_,_,_,rfl,s9.trans sa⟩))⟩⟩
  case key3 =>
  intro u3 Dn3 fin3
  refine ⟨_,rfl,a,sc,2,rfl,(s05.trans s8).seq hS,fun c3=>⟨_,_,rfl,rfl,cD (by decide) (by decide),_,_,rfl,rfl,(by show (0:Int) < _; decide),rfl,_,rfl,ite2 (fun _=>?_) (fun _=>nxtC (fin3 _ _ ⟨rows.set i us,i,1,_,rfl,s8,t8,by decide,il,WK hG il hu⟩))⟩⟩
  refine ⟨_,rfl,_,rfl,l,_,_,_,rfl,rfl,SqL.of (s8 _ _ hl5),hat jl,_,rfl,a,sc,3,rfl,(s05.trans s8).seq hS,fun c4=>⟨rows[j],c4,rfl,hG _ (List.getElem_mem jl),fun H9 vs s9 hB2 hV2 v2 v4=>⟨_,rfl,_,rfl,ps,_,_,j,rfl,rfl,s9 _ _ t8,hix (by rw [List.length_map,List.length_map,List.length_set]; exact jl),?_⟩⟩⟩
  rw [em]
  dsimp only
  refine ⟨_,rfl,_,rfl,_,_,rfl,?_⟩
  have eI:(if ((j:Nat):Int) < ((i:Nat):Int) then ((j:Nat):Int) else ((i:Nat):Int))=(((if j < i then j else i):Nat):Int):=by
    by_cases c:j < i
    · rw [if_pos c,if_pos (by lia)]
    · rw [if_neg c,if_neg (by lia)]
  rw [eI]
  exact fin3 _ _ ⟨(rows.set i us).set j vs,if j < i then j else i,2,_,rfl,(s8.trans s9).put hps,za,by decide,by split <;> lia,zbm hG il jl hu ⟨hB2,hV2,v2,v4⟩⟩
end
structure TopK (K:PySem.W.Frag) (cW cL cI cC cN R la mi nv tw un uh go fu ft:Addr):Prop where
  qap:OwnIn K "Words" cW
  qQ:PySem.W.findIn K (.ref cW) "row"=some none
  qE:PySem.W.findIn K (.ref cW) "words"=some none
  q9:PySem.W.findIn K (.ref cW) "at"=some none
  qaa:OwnIn K "BegunLet" cL
  qm:PySem.W.findIn K (.ref cL) "binds"=some none
  qt:PySem.W.findIn K (.ref cL) "deed"=some none
  qah:OwnIn K "BegunIf" cI
  qn:PySem.W.findIn K (.ref cI) "looked"=some none
  qu:PySem.W.findIn K (.ref cI) "first"=some none
  qR:OwnIn K "BegunCase" cC
  qe:PySem.W.findIn K (.ref cC) "looked"=some none
  qo:PySem.W.findIn K (.ref cC) "arms"=some none
  qp:PySem.W.findIn K (.ref cC) "head"=some none
  qao:PySem.W.nsIn K mainGlobals "NoText"=some (some (.ref cN))
  qH:PySem.W.nsIn K mainGlobals "ReuseError"=some (some (.ref R))
  qh:MeIn K cN "__init__" "NoText.__init__" ZH
  qay:PySem.W.takerIn K cN "row"=some none
  qat:PySem.W.findIn K (.ref cN) "row"=some none
  qaJ:PySem.W.hasDictIn K cN=true
  qau:ZG K cN=true
  qaK:PySem.W.findIn K (.ref cN) "__setattr__"=some (some (.builtin "object.__setattr__"))
  qaz:(PySem.W.clsIn K cN).any (·.hasDict)=true
  qaL:PySem.W.findIn K (.ref cN) "__getattribute__"=some (some (.builtin "BaseException.__getattribute__"))
  qaM:PySem.W.findIn K (.ref cN) "__getattr__"=some none
  qaN:PySem.W.subIn K (.ref cN) (.type "BaseException")=some true
  qaO:PySem.W.keepIn K (.ref cN)=true
  qaP:∃ f,PySem.W.findIn K (.ref cN) "__init__"=some (some (.ref f))/\xIn K cN f=true/\PySem.W.typeIn K (.ref f)=some (.type "function")
  qaQ:PySem.W.specialIn K (.ref R) "__getattribute__"=some (some (.builtin "type.__getattribute__"))
  qaR:PySem.W.readsIn K R (.type "type")=true
  qaS:PySem.W.findCls K (.ref R) (.type "type") "__init__"=some (.val (.builtin "ValueError.__init__"))
  qai:∃ t,PySem.W.nsIn K mainGlobals "LETTERS"=some (some (.str LETS t))
  qaj:∃ t,PySem.W.nsIn K mainGlobals "FIGURES"=some (some (.str FIGS t))
  qaT:PySem.W.nsIn K mainGlobals "Lacking"=some (some (.ref la))
  qaU:PySem.W.nsIn K mainGlobals "Misfit"=some (some (.ref mi))
  qaV:PySem.W.nsIn K mainGlobals "NoValue"=some (some (.ref nv))
  qaW:PySem.W.nsIn K mainGlobals "Twice"=some (some (.ref tw))
  qaX:PySem.W.nsIn K mainGlobals "Unknown"=some (some (.ref un))
  qaY:PySem.W.nsIn K mainGlobals "Unheld"=some (some (.ref uh))
  qaZ:PySem.W.nsIn K mainGlobals "Gone"=some (some (.ref go))
  qa0:PySem.W.nsIn K mainGlobals "Full"=some (some (.ref fu))
  qa1:PySem.W.nsIn K mainGlobals "Fault"=some (some (.ref ft))
  qa2:PySem.W.findIn K (.ref cN) "__class__"=some (some (.builtin "object.__class__"))
  qa3:PySem.W.mroIn K cN (.type "object")=some true
  qa4:PySem.W.specialIn K (.builtin "object.__class__") "__get__"=some (some (.builtin "getset_descriptor.__get__"))
  qa5:PySem.W.takesIn K (.builtin "object.__class__")=some true
  x_1:PySem.W.exmOne K (.ref cN) (.ref cN)=some true
  x_2:PySem.W.exmOne K (.ref cN) (.ref R)=some true
  k_1:PySem.W.kitOne K (.ref cN) (.ref cN)=some true
  k_V:PySem.W.kitOne K (.ref cN) (.type "ValueError")=some true
  qaA:PySem.W.kitAny K (.ref cN) [.ref la,.ref mi,.ref nv,.ref tw,.ref un,.ref uh,.ref go,.ref fu,.ref ft]=some false
  qw:MeIn K cW "insist" "Words.insist" ZJ
  qq:MeIn K cW "all_read" "Words.all_read" vT
  qx:MeIn K cW "passed" "Words.passed" ZK
  qi:MeIn K cW "next_word" "Words.next_word" wN
  qak:DfIn K "made_of" Jj
  qal:DfIn K "is_name" Jk
  qS:DfIn K "is_number" ZI
  qj:MeIn K cW "next_name" "Words.next_name" wO
  qb:MeIn K cW "next_number" "Words.next_number" xu
  qk:MeIn K cW "next_size" "Words.next_size" wP
  qc:MeIn K cW "names_until" "Words.names_until" Y9
  qT:DfIn K "read_head" wT
  qU:DfIn K "read_deed" wU
  qd:MeIn K cL "__init__" "BegunLet.__init__" Xb
  qf:MeIn K cI "__init__" "BegunIf.__init__" Xd
  qa:MeIn K cC "__init__" "BegunCase.__init__" Xf
  qr:MeIn K cW "__init__" "Words.__init__" Y8
  ql:MeIn K cL "filled" "BegunLet.filled" Xc
  qs:MeIn K cI "filled" "BegunIf.filled" Xe
  qg:MeIn K cC "filled" "BegunCase.filled" Xg
  qI:DfIn K "begin_body" Xh
  qV:DfIn K "read_body" wS
  qW:DfIn K "read_pair" wR
  qX:DfIn K "read_kind" wQ
  qab:DfIn K "read_def" vU
  qav:DfIn K "read" X7
  qJ:DfIn K "deed_words" Xp
  qK:DfIn K "case_words" Xo
  qam:DfIn K "written" vX
  qan:DfIn K "def_row" ZN
  qac:DfIn K "kind_row" vW
  qaq:DfIn K "shown" Xn
  qF:DfIn K "_law_stream" ZL
  qY:DfIn K "_law_name" Xi
  qL:DfIn K "_law_names" ZM
  qG:DfIn K "_law_number" vV
  qZ:DfIn K "_law_deed" Xj
  q0:DfIn K "_law_arms" Xk
  qad:DfIn K "_law_put" Jl
  q1:DfIn K "_law_many" Xl
  q2:DfIn K "_law_tree" Xm
  q3:DfIn K "_law_kind" Xq
  qae:DfIn K "_law_def" Jn
  q4:DfIn K "_law_rows" Xr
  qy:DfIn K "_law_cell_at" Z6
  qaf:DfIn K "_law_bad" sBad
  qz:DfIn K "_law_spoiled" jo
  q5:DfIn K "_law_edge" Qr
  qA:DfIn K "_law_refused" Qs
  q6:DfIn K "_law_good" Qt
  qv:DfIn K "_law_one_more" Qu
  qaB:DfIn K "law" XG
  qaC:PySem.W.nsIn K mainGlobals "len"=some none
  qar:PySem.W.nsIn K mainGlobals "tuple"=some none
  qaD:PySem.W.nsIn K mainGlobals "int"=some none
  qaE:PySem.W.nsIn K mainGlobals "str"=some none
  qM:PySem.W.nsIn K mainGlobals "isinstance"=some none
  qaw:PySem.W.nsIn K mainGlobals "bool"=some none
  qax:PySem.W.nsIn K mainGlobals "list"=some none
  q7:PySem.W.nsIn K mainGlobals "enumerate"=some none
  qas:PySem.W.nsIn K mainGlobals "range"=some none
  qaF:PySem.W.nsIn K mainGlobals "all"=some none
  qaG:PySem.W.nsIn K mainGlobals "sum"=some none
  qag:PySem.W.nsIn K mainGlobals "reversed"=some none
  qaH:PySem.W.nsIn K mainGlobals "min"=some none
  qN:PySem.W.nsIn K mainGlobals "ValueError"=some none
  qB:∃ t,PySem.W.nsIn K mainGlobals "MOST_LETTERS"=some (some (.int 12 t))
  qC:∃ t,PySem.W.nsIn K mainGlobals "MOST_FIGURES"=some (some (.int 30 t))
  qO:∃ t,PySem.W.nsIn K mainGlobals "MOST_NAMES"=some (some (.int 9 t))
  q8:∃ t,PySem.W.nsIn K mainGlobals "MOST_ARMS"=some (some (.int 20 t))
  qaI:TpIn K "OPS" OPS
  qD:TpIn K "NAMING_DEEDS" DEEDS
  qP:TpIn K "KEPT_WORDS" KEPT
theorem top_ok {l:PySem.W.OpenLaw} {w:World} {K:PySem.W.Frag} {h:Heap} {mg:Str->Option Value} {fa cW cL cI cC cN R la mi nv tw un uh go fu ft:Addr} (T:TopK K cW cL cI cC cN R la mi nv tw un uh go fu ft) (X:K.In h) (G:h.Ns mainGlobals mg) (hfa:mg "law"=some (.ref fa)) :
    ∃ fd:FuncData,(∀ (s:Shared) (u:Value),BindsTo s fd ⟨[u],[]⟩ [("_law_script",u)])/\∀ base:Heap,K.In base->base.Ns mainGlobals mg->FnOk l.prog w K mg base CX0 16 fa fd ["_law_script"] (j4 K):=by
  refine zcN T.qaB X G hfa (fun _ _ _ _ _ _ s v=>.of_eq rfl) fun base fd FL=>?_
  have qaC:mg "len"=none:=PySem.W.mg_none_of X G T.qaC
  have qar:mg "tuple"=none:=PySem.W.mg_none_of X G T.qar
  have qaD:mg "int"=none:=PySem.W.mg_none_of X G T.qaD
  have qaE:mg "str"=none:=PySem.W.mg_none_of X G T.qaE
  have qM:mg "isinstance"=none:=PySem.W.mg_none_of X G T.qM
  have qaw:mg "bool"=none:=PySem.W.mg_none_of X G T.qaw
  have qax:mg "list"=none:=PySem.W.mg_none_of X G T.qax
  have q7:mg "enumerate"=none:=PySem.W.mg_none_of X G T.q7
  have qas:mg "range"=none:=PySem.W.mg_none_of X G T.qas
  have qaF:mg "all"=none:=PySem.W.mg_none_of X G T.qaF
  have qaG:mg "sum"=none:=PySem.W.mg_none_of X G T.qaG
  have qag:mg "reversed"=none:=PySem.W.mg_none_of X G T.qag
  have qaH:mg "min"=none:=PySem.W.mg_none_of X G T.qaH
  have qN:mg "ValueError"=none:=PySem.W.mg_none_of X G T.qN
  have n_Words:mg "Words"=some (.ref cW):=PySem.W.mg_of X G T.qap.n
  have n_BegunLet:mg "BegunLet"=some (.ref cL):=PySem.W.mg_of X G T.qaa.n
  have n_BegunIf:mg "BegunIf"=some (.ref cI):=PySem.W.mg_of X G T.qah.n
  have n_BegunCase:mg "BegunCase"=some (.ref cC):=PySem.W.mg_of X G T.qR.n
  obtain ⟨t_MOST_LETTERS,h_MOST_LETTERS⟩:=T.qB
  have m_MOST_LETTERS:=PySem.W.mg_of X G h_MOST_LETTERS
  obtain ⟨t_MOST_FIGURES,h_MOST_FIGURES⟩:=T.qC
  have m_MOST_FIGURES:=PySem.W.mg_of X G h_MOST_FIGURES
  obtain ⟨t_MOST_NAMES,h_MOST_NAMES⟩:=T.qO
  have m_MOST_NAMES:=PySem.W.mg_of X G h_MOST_NAMES
  obtain ⟨t_MOST_ARMS,h_MOST_ARMS⟩:=T.q8
  have m_MOST_ARMS:=PySem.W.mg_of X G h_MOST_ARMS
  obtain ⟨a_OPS,h_OPS,q_OPS⟩:=T.qaI.sq (by decide)
  have m_OPS:=PySem.W.mg_of X G h_OPS
  obtain ⟨a_NAMING_DEEDS,h_NAMING_DEEDS,q_NAMING_DEEDS⟩:=T.qD.sq (by decide)
  have m_NAMING_DEEDS:=PySem.W.mg_of X G h_NAMING_DEEDS
  obtain ⟨a_KEPT_WORDS,h_KEPT_WORDS,q_KEPT_WORDS⟩:=T.qP.sq (by decide)
  have m_KEPT_WORDS:=PySem.W.mg_of X G h_KEPT_WORDS
  obtain ⟨t_LETTERS,h_LETTERS⟩:=T.qai
  have m_LETTERS:=PySem.W.mg_of X G h_LETTERS
  obtain ⟨t_FIGURES,h_FIGURES⟩:=T.qaj
  have m_FIGURES:=PySem.W.mg_of X G h_FIGURES
  have qao:=PySem.W.mg_of X G T.qao
  have qH:=PySem.W.mg_of X G T.qH
  obtain ⟨A,rfl,rfl,rfl,rfl,rfl⟩:∃ A:Adr,A.cN=cN/\A.cW=cW/\A.cL=cL/\A.cI=cI/\A.cC=cC:=⟨⟨cN,cW,cL,cI,cC⟩,rfl,rfl,rfl,rfl,rfl⟩
  have tx:Txt K mg A:=⟨T.qap.cls,T.qaa.cls,T.qah.cls,T.qR.cls,T.qQ,T.qE,T.q9,T.qm,T.qt,T.qn,T.qu,T.qe,T.qo,T.qp,T.qay,qaC,qar,qaD,⟨t_MOST_NAMES,m_MOST_NAMES⟩,⟨t_MOST_ARMS,m_MOST_ARMS⟩⟩
  obtain ⟨fx,ax,xin,xty⟩:=T.qaP
  have M:XCl K A.cN fx:=⟨xin,xty,T.qaO,T.qau,T.qaK,T.qaz,T.qaL,T.qaM,T.qaN⟩
  have B:XBase K R:=⟨T.qaQ,T.qaR,T.qaS⟩
  have GX:Xa l.prog w K mg base 1 "NoText" A.cN ["self","row"] (xx A):=by
    obtain ⟨f,a,n,g⟩:=T.qh
    obtain ⟨fd,F,kp⟩:=g.fn
    have e:f=fx:=by
      rw [ax] at a
      injection a with a
      injection a with a
      injection a with a
      exact a.symm
    subst e
    exact ⟨f,fd,M,W8 F tx M B qH,F.binds (ps:=["self","row"]) fun _ _ _ _ _ _=>us2 fun _ _=>rfl,qao⟩
  have qaT:=PySem.W.mg_of X G T.qaT
  have qaU:=PySem.W.mg_of X G T.qaU
  have qaV:=PySem.W.mg_of X G T.qaV
  have qaW:=PySem.W.mg_of X G T.qaW
  have qaX:=PySem.W.mg_of X G T.qaX
  have qaY:=PySem.W.mg_of X G T.qaY
  have qaZ:=PySem.W.mg_of X G T.qaZ
  have qa0:=PySem.W.mg_of X G T.qa0
  have qa1:=PySem.W.mg_of X G T.qa1
  have x15:X15 K mg A.cN R la mi nv tw un uh go fu ft:=⟨qao,qH,qaT,qaU,qaV,qaW,qaX,qaY,qaZ,qa0,qa1,qN,⟨T.qaL,T.qaM,T.qaN,T.qaJ,T.qa2,T.qa4,T.qa5,T.qa3⟩,T.x_1,T.x_2,T.k_1,T.k_V,T.qaA⟩
  have GI:=T.qw.me (P:=l.prog) (w:=w) (mg:=mg) (base:=base) (ps:=["self","fits"]) (fun _ _ _ _ _ _=>us2 fun _ _=>rfl) fun f fd F=>W9 F tx GX
  have GA:=T.qq.me (P:=l.prog) (w:=w) (mg:=mg) (base:=base) (ps:=["self"]) (fun _ _ _ _ _ _=>us1 fun _=>rfl) fun f fd F=>zcS F tx
  have GP:=T.qx.me (P:=l.prog) (w:=w) (mg:=mg) (base:=base) (ps:=["self","word"]) (fun _ _ _ _ _ _=>us2 fun _ _=>rfl) fun f fd F=>Va F tx GA
  have GW:=T.qi.me (P:=l.prog) (w:=w) (mg:=mg) (base:=base) (ps:=["self"]) (fun _ _ _ _ _ _=>us1 fun _=>rfl) fun f fd F=>zaE F tx GA GI
  have Gmade:=DfIn.ca (P:=l.prog) (w:=w) (base:=base) X G T.qak (ps:=["word","signs"]) (fun _ _ _ _ _ _=>us2 fun _ _=>rfl) fun f fd F=>zaC F qaF
  have Gis:=DfIn.ca X G T.qal (ps:=["word"]) (fun _ _ _ _ _ _=>us1 fun _=>rfl) fun f fd F=>let ⟨_,_,g,b,k,mm⟩:=Gmade.ex; zaD F g b k mm qaC m_LETTERS m_MOST_LETTERS m_KEPT_WORDS q_KEPT_WORDS
  have Gnu:=DfIn.ca X G T.qS (ps:=["word"]) (fun _ _ _ _ _ _=>us1 fun _=>rfl) fun f fd F=>let ⟨_,_,g,b,k,mm⟩:=Gmade.ex; W7 F g b k mm qaC m_FIGURES m_MOST_FIGURES
  have GN:=T.qj.me (P:=l.prog) (w:=w) (mg:=mg) (base:=base) (ps:=["self"]) (fun _ _ _ _ _ _=>us1 fun _=>rfl) fun f fd F=>Yp F tx GW GI Gis
  have GM:=T.qb.me (P:=l.prog) (w:=w) (mg:=mg) (base:=base) (ps:=["self"]) (fun _ _ _ _ _ _=>us1 fun _=>rfl) fun f fd F=>jC F tx GW GI Gnu
  have GS:=T.qk.me (P:=l.prog) (w:=w) (mg:=mg) (base:=base) (ps:=["self"]) (fun _ _ _ _ _ _=>us1 fun _=>rfl) fun f fd F=>Yu F tx m_FIGURES GW GI
  have GU:=T.qc.me (P:=l.prog) (w:=w) (mg:=mg) (base:=base) (ps:=["self","stop"]) (fun _ _ _ _ _ _=>us2 fun _ _=>rfl) fun f fd F=>Jx F tx GP GI GN
  have Ghead:=DfIn.ca (P:=l.prog) (w:=w) (base:=base) X G T.qT (ps:=["words"]) (fun _ _ _ _ _ _=>us1 fun _=>rfl) fun f fd F=>zaF F tx GN GU
  have Gdeed:=DfIn.ca (P:=l.prog) (w:=w) (base:=base) X G T.qU (ps:=["words"]) (fun _ _ _ _ _ _=>us1 fun _=>rfl) fun f fd F=>zaG F tx GW GI GN GM GU m_OPS q_OPS m_NAMING_DEEDS q_NAMING_DEEDS
  have ML:=T.qd.ma (P:=l.prog) (w:=w) (mg:=mg) (base:=base) (x:="BegunLet") (ps:=["self","words"]) (fun _ _ _ _ _ _=>us2 fun _ _=>rfl) T.qaa.mks T.qaa.kp n_BegunLet fun f fd F=>JB F tx GN Gdeed
  have MI:=T.qf.ma (P:=l.prog) (w:=w) (mg:=mg) (base:=base) (x:="BegunIf") (ps:=["self","words"]) (fun _ _ _ _ _ _=>us2 fun _ _=>rfl) T.qah.mks T.qah.kp n_BegunIf fun f fd F=>(JC F tx GN).mono (k:=8) (by decide)
  have MC:=T.qa.ma (P:=l.prog) (w:=w) (mg:=mg) (base:=base) (x:="BegunCase") (ps:=["self","words"]) (fun _ _ _ _ _ _=>us2 fun _ _=>rfl) T.qR.mks T.qR.kp n_BegunCase fun f fd F=>JD F tx GN Ghead
  have MW:=T.qr.ma (P:=l.prog) (w:=w) (mg:=mg) (base:=base) (x:="Words") (ps:=["self","row","words"]) (fun _ _ _ _ _ _=>us3 fun _ _ _=>rfl) T.qap.mks T.qap.kp n_Words fun f fd F=>JO F tx
  have fL:=T.ql.me (P:=l.prog) (w:=w) (mg:=mg) (base:=base) (ps:=["self","words","body"]) (fun _ _ _ _ _ _=>us3 fun _ _ _=>rfl) fun f fd F=>JE F tx
  have fI:=T.qs.me (P:=l.prog) (w:=w) (mg:=mg) (base:=base) (ps:=["self","words","body"]) (fun _ _ _ _ _ _=>us3 fun _ _ _=>rfl) fun f fd F=>JF F tx GP GI
  have fC:=T.qg.me (P:=l.prog) (w:=w) (mg:=mg) (base:=base) (ps:=["self","words","body"]) (fun _ _ _ _ _ _=>us3 fun _ _ _=>rfl) fun f fd F=>JG F tx GP GI Ghead
  have Gbegin:=DfIn.ca (P:=l.prog) (w:=w) (base:=base) X G T.qI (ps:=["words","begun"]) (fun _ _ _ _ _ _=>us2 fun _ _=>rfl) fun f fd F=>JH F tx GP GI GN ML MI MC
  have Gbody:=DfIn.ca X G T.qV (ps:=["words"]) (fun _ _ _ _ _ _=>us1 fun _=>rfl) fun f fd F=>zaO F tx Gbegin fL fI fC
  have Gpair:=DfIn.ca (P:=l.prog) (w:=w) (base:=base) X G T.qW (ps:=["words"]) (fun _ _ _ _ _ _=>us1 fun _=>rfl) fun f fd F=>zaP F tx GN GS
  have Gkind:=DfIn.ca X G T.qX (ps:=["words"]) (fun _ _ _ _ _ _=>us1 fun _=>rfl) fun f fd F=>zaQ F tx GA Gpair
  have Gdef:=DfIn.ca X G T.qab (ps:=["words"]) (fun _ _ _ _ _ _=>us1 fun _=>rfl) fun f fd F=>zcU F tx GN GU Gbody GA GI
  have Gread:=DfIn.ca X G T.qav (ps:=["text"]) (fun _ _ _ _ _ _=>us1 fun _=>rfl) fun f fd F=>FnOk.or (zaS F tx GX MW GP GI Gdef Gkind qM qaE q7) (QF F GX qM qaE)
  have Gdw:=DfIn.ca (P:=l.prog) (w:=w) (base:=base) X G T.qJ (ps:=["deed"]) (fun _ _ _ _ _ _=>us1 fun _=>rfl) fun f fd F=>J7 F qaE qax
  have Gcw:=DfIn.ca (P:=l.prog) (w:=w) (base:=base) X G T.qK (ps:=["body"]) (fun _ _ _ _ _ _=>us1 fun _=>rfl) fun f fd F=>J8 F qax
  have Gwr:=DfIn.ca X G T.qam (ps:=["body"]) (fun _ _ _ _ _ _=>us1 fun _=>rfl) fun f fd F=>XB F Gdw Gcw
  have Gdr:=DfIn.ca X G T.qan (ps:=["one"]) (fun _ _ _ _ _ _=>us1 fun _=>rfl) fun f fd F=>Ve F Gwr qax qaC qM qaE qag
  have Gkr:=DfIn.ca (P:=l.prog) (w:=w) (base:=base) X G T.qac (ps:=["kind"]) (fun _ _ _ _ _ _=>us1 fun _=>rfl) fun f fd F=>XC F qaE
  have Gsh:=DfIn.ca X G T.qaq (ps:=["program"]) (fun _ _ _ _ _ _=>us1 fun _=>rfl) fun f fd F=>Qc F (Gkr.mono (by decide)) Gdr
  have L3:=DfIn.ca (P:=l.prog) (w:=w) (base:=base) X G T.qF (ps:=["_law_cell","_law_many_here"]) (fun _ _ _ _ _ _=>us2 fun _ _=>rfl) fun f fd F=>Vb F qas
  have L4:=DfIn.ca (P:=l.prog) (w:=w) (base:=base) X G T.qY (ps:=["_law_number_here"]) (fun _ _ _ _ _ _=>us1 fun _=>rfl) fun f fd F=>JP F
  have L5:=DfIn.ca X G T.qL (ps:=["_law_cell","_law_many_here"]) (fun _ _ _ _ _ _=>us2 fun _ _=>rfl) fun f fd F=>Vc F L3 L4
  have L6:=DfIn.ca X G T.qG (ps:=["_law_cell"]) (fun _ _ _ _ _ _=>us1 fun _=>rfl) fun f fd F=>Xw F L3
  have L7:=DfIn.ca X G T.qZ (ps:=["_law_cell"]) (fun _ _ _ _ _ _=>us1 fun _=>rfl) fun f fd F=>JT F L5 L6 qaE qar
  have L8:=DfIn.ca X G T.q0 (ps:=["_law_stack","_law_number_here"]) (fun _ _ _ _ _ _=>us2 fun _ _=>rfl) fun f fd F=>JU F L5 qas qar
  have L9:=DfIn.ca X G T.qad (ps:=["_law_stack","_law_cell"]) (fun _ _ _ _ _ _=>us2 fun _ _=>rfl) fun f fd F=>zaV F L5 L8 L7
  have L10:=DfIn.ca (P:=l.prog) (w:=w) (base:=base) X G T.q1 (ps:=["_law_stack"]) (fun _ _ _ _ _ _=>us1 fun _=>rfl) fun f fd F=>JW F qaC
  have L11:=DfIn.ca X G T.q2 (ps:=["_law_cells"]) (fun _ _ _ _ _ _=>us1 fun _=>rfl) fun f fd F=>JY F L9 L10 qaC
  have L12:=DfIn.ca X G T.q3 (ps:=["_law_cells"]) (fun _ _ _ _ _ _=>us1 fun _=>rfl) fun f fd F=>Ql F L4 qas qaE qar
  have L13:=DfIn.ca X G T.qae (ps:=["_law_cells"]) (fun _ _ _ _ _ _=>us1 fun _=>rfl) fun f fd F=>za8 F L5 L11 qaG qar
  have L14:=DfIn.ca X G T.q4 (ps:=["_law_script"]) (fun _ _ _ _ _ _=>us1 fun _=>rfl) fun f fd F=>Qm F L12 L13 qaG qas qaC qaH qar
  have C1:=DfIn.ca (P:=l.prog) (w:=w) (base:=base) X G T.qy (ps:=["_law_script","_law_k"]) (fun _ _ _ _ _ _=>us2 fun _ _=>rfl) fun f fd F=>Vt F qaC
  have C2:=DfIn.ca (P:=l.prog) (w:=w) (base:=base) X G T.qaf (ps:=["_law_number_here"]) (fun _ _ _ _ _ _=>us1 fun _=>rfl) fun f fd F=>zc5 F
  have C3:=DfIn.ca X G T.qz (ps:=["_law_row","_law_cell"]) (fun _ _ _ _ _ _=>us2 fun _ _=>rfl) fun f fd F=>XH F C2 qaC
  have C4:=DfIn.ca X G T.q5 (ps:=["_law_number_here","_law_more"]) (fun _ _ _ _ _ _=>us2 fun _ _=>rfl) fun f fd F=>zbg F L4 qas
  have C5:=DfIn.ca X G T.qA (ps:=["_law_text","_law_due"]) (fun _ _ _ _ _ _=>us2 fun _ _=>rfl) fun f fd F=>zbh F Gread x15 M T.qat T.qaJ qM qaD qaw
  have C6:=DfIn.ca X G T.q6 (ps:=["_law_rows_here"]) (fun _ _ _ _ _ _=>us1 fun _=>rfl) fun f fd F=>zbi F Gread Gsh
  have C7:=DfIn.ca X G T.qv (ps:=["_law_rows_here","_law_kinds","_law_cell"]) (fun _ _ _ _ _ _=>us3 fun _ _ _=>rfl) fun f fd F=>zbl F C5 C6 C4 qaC
  exact QK FL L14 C1 C5 C6 C7 C3 (fun T h=>by simp only [List.mem_cons,List.not_mem_nil,or_false] at h; rcases h with rfl | rfl | rfl | rfl | rfl | rfl <;> rfl) qaC qaH qax
end Rdr
namespace PySem.W.Fast
def tw5089904059141420313:=()
def tw14763828522764044381:=()
def tw8441248011916002404:=()
def tw6625618763562817704:=()
def tw13882850779134713457:=()
def tw7876370810940624504:=()
def tw17715292531819138089:=()
def tw16749237016492977023:=()
def tw14260972761675657851:=()
def tw4484693932974135017:=()
def tw17466954702000218186:=()
def tw8713763804934842260:=()
def tw2606678686192386954:=()
def tw7960983904974637964:=()
def tw9392660087385696945:=()
def tw1007819203455509320:=()
def tw11796255468319477084:=()
def tw17931981694194369100:=()
def tw9525083931325777729:=()
def tw12073887505217172026:=()
def tw11961619524099891822:=()
def tw17949643395521082460:=()
def tw10194634545836193520:=()
def tw307533416104710222:=()
def tw12937949691147061242:=()
def tw18052920406152393847:=()
def tw13224596820707307074:=()
def tw9401404167893536895:=()
def tw5213706676286111491:=()
def tw14428834138132621514:=()
def tw3657464212006176992:=()
def tw1899771046058346659:=()
def tw12074968679585320422:=()
def tw6637942584378459396:=()
def tw8266874380582152008:=()
def tw12607404718220338754:=()
def tw235012618359560103:=()
def tw11094933928170459651:=()
def tw4138290907904451223:=()
def tw12180943092569580954:=()
def tw814271800042312574:=()
def tw8237512489724173419:=()
def tw6559448448681360454:=()
def tw17101373025826548428:=()
def tw5158239072067675164:=()
def tw8656377637747746018:=()
def tw11868369242727839877:=()
def tw2656163063782495037:=()
def tw14640673961993945559:=()
def tw5344754652882480648:=()
def tw11210309156482108244:=()
def tw11661528988315430583:=()
def tw7645586516316785984:=()
def tw9596784974562415108:=()
def tw13105469069032048185:=()
def tw451586660269902245:=()
def tw10544801203261549866:=()
def tw4591037743112016506:=()
def tw11865351263722241910:=()
def tw9406237715866317701:=()
def tw13020906908300608438:=()
def tw5781551719625598787:=()
def tw14923149652682622150:=()
def tw7540346520574975921:=()
def tw14917200149557861503:=()
def tw12173555307095236252:=()
def tw13606502370110092765:=()
def tw16894271511474137325:=()
def tw16609977397263704262:=()
def tw3695900574596102689:=()
def tw6786000223234626411:=()
def tw16377064011350810441:=()
def tw12890758138558437073:=()
def tw5104204336356514652:=()
def tw8832923929088021897:=()
def tw17399457973368723917:=()
def tw4854018698362730941:=()
def tw9869840617750219612:=()
def tw598304453875521986:=()
def tw5209772068215438246:=()
def tw14358271471851973206:=()
def tw14528969012973782650:=()
def tw2667710595731651658:=()
def tw3260899598366173798:=()
def tw14389212304893906178:=()
def tw802782256016725936:=()
def tw13590782328153786401:=()
def tw15752213573121145537:=()
def tw5476531517369344765:=()
def tw16650807163918424261:=()
def tw358714103773323098:=()
def tw13308874151555403691:=()
def tw92581738925330701:=()
def tw9895856044821041859:=()
def tw7749678453520966721:=()
def tw6498015061826961490:=()
def tw10882912736448818248:=()
def tw11241506274880578280:=()
def tw9539478073829474561:=()
def tw3419296785245048474:=()
def tw11626741863649808070:=()
def tw6841843340801635464:=()
def tw2196046162515247818:=()
def tw16470559349758732670:=()
def tw1804515197325650856:=()
def tw10573437043770368643:=()
def tw13829595489670221369:=()
def tw3188906855746912961:=()
def tw4933176327924797572:=()
def tw16383550405280642598:=()
def tw1083737406195434646:=()
def tw7046979363064852337:=()
def tw4355876517605249331:=()
def tw10023710731348968554:=()
def tw14077689844030991761:=()
def tw7513020026117534543:=()
def tw9436946808997972466:=()
def tw15322896984245327098:=()
def tw7501535382661787478:=()
def tw13366513479858590253:=()
def tw13066894021239731510:=()
def tw3961388085180966330:=()
def tw13576812692559119937:=()
def tw4920057974553974696:=()
def tw2430201445993616954:=()
def tw10488475054175853092:=()
def tw3144696181277434769:=()
def tw10299822377291697281:=()
def tw4440546837671006436:=()
def tw17048568435162503267:=()
def tw3025671087503801057:=()
def tw7612348475763036978:=()
def tw11490260247791336262:=()
def tw15435764798781893704:=()
def tw8341204943491544425:=()
def tw5441698220303417470:=()
def tw16702153149909969192:=()
def tw14495020506241749485:=()
def tw13455589278608620664:=()
def tw905217200175338583:=()
def tw8649624678451860315:=()
def tw887566718045724587:=()
def tw13264245546136782172:=()
def tw15044698273287649885:=()
def tw8174591703564196913:=()
def tw9728876653135091917:=()
def tw10906521630620118745:=()
def tw16400389031766272652:=()
def tw17592637634621168620:=()
def tw15685752795882964936:=()
def tw12824012675069001576:=()
def tw2725678749772333569:=()
def tw15359685848436986313:=()
def tw934103521265237444:=()
def tw10328997281922000105:=()
def tw13613611158106721392:=()
def tw6868931079820285820:=()
def tw15061848546219828501:=()
def tw13956054074887592178:=()
def tw13619110766221067582:=()
def tw4820803501031868112:=()
def tw3909313482021316744:=()
def tw16873568498763071574:=()
def tw18323756544126289880:=()
def tw11828990217159729269:=()
def tw11295176892076006391:=()
def tw12049467873509117707:=()
def tw18088881787530549127:=()
def tw13430045085506653362:=()
def tw8143737939406241849:=()
def tw6091288845770817710:=()
def tw15909157493006123741:=()
def tw8395394573814545358:=()
def tw15329724869178353565:=()
def tw14800852857705566413:=()
def tw1015136215971914529:=()
def tw16418334028215371680:=()
def tw5291036371451695125:=()
def tw611058251079555741:=()
def tw9531907050696161245:=()
def tw5995841515081643560:=()
def tw1760788022289344060:=()
def tw11579834540570061456:=()
def tw12386272247784355896:=()
def tw17642314386609279802:=()
def tw5473642487339330424:=()
def tw10866118746520265576:=()
def tw3196815100485364697:=()
def tw10649699224669464956:=()
def tw14964805836854354627:=()
def tw6674976756728353969:=()
def tw5663987141690628980:=()
def tw7025012868134661027:=()
def tw12864564660640842025:=()
def tw5026114091894196749:=()
def tw8698219671530753737:=()
def tw10967070563135397344:=()
def tw11300786385093535025:=()
def tw4671585805225238159:=()
def tw10349761135482709503:=()
def tw8693236770556433062:=()
def tw2572325452206351062:=()
def tw1261870302777594523:=()
def tw13439501609165305712:=()
def tw2328133086256675727:=()
def tw441846703833056601:=()
def tw18280574328040607063:=()
def tw15420902728598684477:=()
def tw16672533468683557959:=()
def tw14955974416018915195:=()
def tw10588725213115672010:=()
def tw13621166354937336538:=()
def tw16007152189919711040:=()
def tw5580060886760075195:=()
def tw8083019080607911020:=()
def tw14322455655201493930:=()
def tw17863811105640637581:=()
def tw13726542412416995566:=()
def tw11217696180426076519:=()
def tw9274139556953253336:=()
def tw14474012280899985580:=()
def tw2302202475706879263:=()
def tw9555014347721518765:=()
def tw15357788624569203097:=()
def tw791923415248316680:=()
def tw12179050227895492487:=()
def tw4084566143034722328:=()
def tw8956026765920095966:=()
def tw3370287917806028990:=()
def tw8615431415749011078:=()
def tw17622877518908041291:=()
def tw15920555872593643974:=()
def tw16938502148395863648:=()
def tw15484994505406966469:=()
def tw16595076219496431899:=()
def tw2591011220776224790:=()
def tw548970830604116695:=()
def tw5755334489305104456:=()
def tw1031952638253623403:=()
def tw8320399040226576095:=()
def tw1005862751370667875:=()
def tw8120889314311809950:=()
def tw14345577326718209898:=()
def tw15145559816203557078:=()
def tw9672080061249994091:=()
def tw8973087485067802371:=()
def tw4960248743436512129:=()
def tw10466042169971704852:=()
def tw2836581227920507223:=()
def tw8437214796221606940:=()
def tw1226724009802973092:=()
def tw3528509254365292758:=()
def tw12466244114315581953:=()
def tw3058649152088018642:=()
def tw4045150574856531396:=()
def tw1879522657146776550:=()
def tw9569136360879097310:=()
def tw13187134553539189156:=()
def tw9876287834604088816:=()
def tw10829529831761029261:=()
def tw6942061448649152994:=()
def tw13542253404310216265:=()
def tw5875940190029534323:=()
def tw13050775190521750624:=()
def tw4527329021985575198:=()
def tw6345801041458133361:=()
def tw9438646581894727462:=()
def tw4147594070902063030:=()
def tw875532948026715839:=()
def tw16287230257135191831:=()
def tw18137576717109685589:=()
def tw10822532856724476723:=()
def tw16158178672814313496:=()
def tw3865519312570592143:=()
def tw3656546367009420046:=()
def tw4940352620228723533:=()
def tw301236901795104084:=()
def tw15375491345194749618:=()
def tw11165636792773311092:=()
def tw16169983366553132598:=()
def tw426533776532082557:=()
def tw12982371045607250256:=()
def tw10401488953656791382:=()
def tw16607111205522672248:=()
def tw8550353380604348460:=()
def tw14222518641108315863:=()
def tw3055109744237568300:=()
def tw16766866520137398141:=()
def tw6172314313908849598:=()
def tw10342101246638613316:=()
def tw10512437486803686510:=()
def tw863844046945057209:=()
def tw13771583720379893581:=()
def tw5634387621026741983:=()
def tw4079603536886300356:=()
def tw3778292035129353009:=()
def tw5917670099107950482:=()
def tw8376241430189460742:=()
def tw13803916366861098322:=()
def tw9875750802906740218:=()
def tw1806960232816633076:=()
def tw5760149775527379225:=()
def tw14802704620046191790:=()
def tw5328147405650105788:=()
def tw10451432480016551275:=()
def tw14820829389895339275:=()
def tw9167263570752602490:=()
def tw12232672222841619231:=()
def tw2811847987120872783:=()
def tw453332713016784890:=()
def tw9346807039862570362:=()
def tw17561320221822610368:=()
def tw4190801237905233850:=()
def tw1099441866358913047:=()
def tw17426677346126625642:=()
def tw14854916680861371541:=()
def tw2490092078185040751:=()
def tw18275463422504697162:=()
def tw493296436629256040:=()
def tw6055898207543015121:=()
def tw7134213645378325887:=()
def tw10087564996096710671:=()
def tw15445258182260353734:=()
def tw5545876012880948896:=()
def tw16366321012891978469:=()
def tw15389822240435009096:=()
def tw4388124365103066359:=()
def tw10893340958569885907:=()
def tw17809243097964658668:=()
def tw11879291349714502165:=()
end PySem.W.Fast
open PySem PySem.W PyProof.Rows
set_option maxRecDepth 100000 in
set_option maxHeartbeats 0 in
theorem PySem.Challenge.cw_reusewise_k15_refused_rows_holds : PySem.Challenge.rw_reusewise_k15_refused_rows.Holds := by
  w_on; o_law; k_head; (case hw=>w_witness2)
  k_fill
  refine L2.walk1 (l:=PySem.Challenge.rw_reusewise_k15_refused_rows) (k:=16) rfl ⟨rfl,by decide,by decide⟩ rfl rfl (fun w h Y=>PySem.W.kIn_of Y) ?F
  case F =>
    intro w mg fa h KX G hm
    refine' Rdr.top_ok (Rdr.TopK.mk ?qap ?qQ ?qE ?q9 ?qaa ?qm ?qt ?qah ?qn ?qu ?qR ?qe ?qo ?qp ?qao ?qH ?qh ?qay ?qat ?qaJ ?qau ?qaK ?qaz ?qaL ?qaM ?qaN ?qaO ?qaP ?qaQ ?qaR ?qaS ?qai ?qaj ?qaT ?qaU ?qaV ?qaW ?qaX ?qaY ?qaZ ?qa0 ?qa1 ?qa2 ?qa3 ?qa4 ?qa5 ?x_1 ?x_2 ?k_1 ?k_V ?qaA ?qw ?qq ?qx ?qi ?qak ?qal ?qS ?qj ?qb ?qk ?qc ?qT ?qU ?qd ?qf ?qa ?qr ?ql ?qs ?qg ?qI ?qV ?qW ?qX ?qab ?qav ?qJ ?qK ?qam ?qan ?qac ?qaq ?qF ?qY ?qL ?qG ?qZ ?q0 ?qad ?q1 ?q2 ?q3 ?qae ?q4 ?qy ?qaf ?qz ?q5 ?qA ?q6 ?qv ?qaB ?qaC ?qar ?qaD ?qaE ?qM ?qaw ?qax ?q7 ?qas ?qaF ?qaG ?qag ?qaH ?qN ?qB ?qC ?qO ?q8 ?qaI ?qD ?qP) KX G hm
    (case qap | qaa | qah | qR=>(refine' L2.OwnIn.mk ?n ?pg ?hd ?po ?sa ?mks ?kp; (case n=>k_is); (case pg=>k_is); (case hd=>k_is); (case po=>k_is); (case sa=>k_is); (case mks=>k_is); (case kp=>k_is)))
    (case qQ | qE | q9 | qm | qt | qn | qu | qe | qo | qp | qao | qH | qay | qat | qaJ | qaK | qaL | qaM | qaN | qaO | qaQ | qaR | qaS | qaT | qaU | qaV | qaW | qaX | qaY | qaZ | qa0 | qa1 | qa2 | qa3 | qa4 | qa5 | qaC | qar | qaD | qaE | qM | qaw | qax | q7 | qas | qaF | qaG | qag | qaH | qN=>k_is)
    (case qh | qw | qq | qx | qi | qj | qb | qk | qc | qd | qf | qa | qr | ql | qs | qg=>(refine' L2.MeIn.mk ?a ?l ?c ?k ?n; (case a=>k_is); (case l=>k_is); (case c=>k_is); (case k=>k_is); (case n=>k_is)))
    (case qau | qaz | x_1 | x_2 | k_1 | k_V | qaA=>(first | kernel_rfl | rfl | decide +kernel))
    (case qaP=>(refine' L2.XcIn.mk ?a ?b ?c; (case a=>k_is); (case b=>(first | kernel_rfl | rfl | decide +kernel)); (case c=>k_is)))
    (case qai | qaj=>(refine' L2.GlIn.mk ?a ?e; (case a=>k_is); (case e=>rfl)))
    (case qak | qal | qS | qT | qU | qI | qV | qW | qX | qab | qav | qJ | qK | qam | qan | qac | qaq | qF | qY | qL | qG | qZ | q0 | qad | q1 | q2 | q3 | qae | q4 | qy | qaf | qz | q5 | qA | q6 | qv | qaB=>(refine' L2.DfIn.mk ?a ?l ?c ?k; (case a=>k_is); (case l=>k_is); (case c=>k_is); (case k=>k_is)))
    (case qB | qC | qO | q8=>(refine' L2.GiIn.mk ?a ?e; (case a=>k_is); (case e=>rfl)))
    (case qaI | qD | qP=>(refine' L2.TpIn.mk ?a ?k ?v; (case a=>k_is); (case k=>k_is); (case v=>rfl)))
#print axioms PySem.Challenge.cw_reusewise_k15_refused_rows_holds
