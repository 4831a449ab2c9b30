import PyProof.Rows.All
import Wide.All
import OpenK.AllK
import Wide.FinOn
import Lean
import PyProof.EqAt
import PyProof.EqKinds
import PyProof.TupleCall
import PyProof.PassesOwn
import PyProof.StationsW
import OpenK.KCls
import PyProof.ExcAttrAll.ValueError
import PyProof.ExcClass3
import PyProof.WalksEnum
import PyProof.EnumMake
import PyProof.EnumFor
import PyProof.EnumStmt
import PyProof.MeetsStr
import PyProof.StrLawsTight
import PyProof.NeKinds
import PyProof.Rows.SumAny
import PyProof.SeqI3
import PyProof.ZipIter
import PyProof.WalksMore
import PyProof.ListNew
import PyProof.StrBlockL
import PyProof.StrBlockI
import PyProof.StrBlock2
import PyProof.StrLawsIn
import PyProof.StrLawsChain
import PyProof.Rows.StrLast
import PyProof.Rows.StrItems
import KE.IntTextText
import KE.KIntText
import KE.KRevIter
import PyProof.AutoSeq1
import PyProof.FactsAll.list
import PyProof.IsRules
import KE.KItemsList
import PyProof.Rows.Range3
import PySem.Challenge.RW_reusewise_k16_just_the_rows
set_option Elab.async false
set_option linter.all false
set_option maxRecDepth 100000
set_option maxHeartbeats 4000000
namespace L2
open PySem PySem.Spec PyProof.Rows
abbrev Key:=Sum Int Str
def zaB:Key->Value->Bool
  | .inl k,v=>Value.isInt k v
  | .inr x,v=>Value.isStrOf x v
def keyH (w:World):Key->Int
  | .inl k=>hashInt k
  | .inr x=>hashStr w x
theorem yj:∀ {k:Key} {v:Value},zaB k v=true->(∃ i t,k=Sum.inl i/\v=Value.int i t)\/(∃ x t,k=Sum.inr x/\v=Value.str x t)
  | .inl i,v,h=>by
    obtain ⟨t,e⟩:=Value.isInt_shape (k:=i) (v:=v) h
    exact .inl ⟨i,t,rfl,e⟩
  | .inr x,v,h=>by
    obtain ⟨t,e⟩:=Value.isStrOf_shape (x:=x) (v:=v) h
    exact .inr ⟨x,t,rfl,e⟩
theorem za0 (a b:Int):decide ((Sum.inl a:Key)=Sum.inl b)=(a == b):=by
  by_cases e:a=b
  · subst e; simp
  · have h:¬ (Sum.inl a:Key)=Sum.inl b:=fun q=>e (Sum.inl.inj q)
    rw [decide_eq_false h]
    exact (beq_eq_false_iff_ne.mpr e).symm
theorem za1 (a b:Str):decide ((Sum.inr a:Key)=Sum.inr b)=decide (a=b):=by
  by_cases e:a=b
  · subst e; simp
  · have h:¬ (Sum.inr a:Key)=Sum.inr b:=fun q=>e (Sum.inr.inj q)
    rw [decide_eq_false h,decide_eq_false e]
theorem za2 (a:Int) (b:Str):decide ((Sum.inl a:Key)=Sum.inr b)=false:=decide_eq_false (fun q=>nomatch q)
theorem za3 (a:Str) (b:Int):decide ((Sum.inr a:Key)=Sum.inl b)=false:=decide_eq_false (fun q=>nomatch q)
def Xu (prog:Program) (w:World):PySem.KeyKind prog w Key where
  is:=zaB
  hash:=keyH w
  inj:=fun v a b ha hb=>by
    rcases yj ha with ⟨i,t,rfl,rfl⟩ | ⟨x,t,rfl,rfl⟩
    · rcases yj hb with ⟨j,u,rfl,e⟩ | ⟨y,u,rfl,e⟩
      · injection e with e1 _; rw [e1]
      · exact nomatch e
    · rcases yj hb with ⟨j,u,rfl,e⟩ | ⟨y,u,rfl,e⟩
      · exact nomatch e
      · injection e with e1 _; rw [e1]
  byValue:=fun k v h=>by
    rcases yj h with ⟨i,t,rfl,rfl⟩ | ⟨x,t,rfl,rfl⟩ <;> rfl
  pyHash:=fun hv h=>by
    rcases yj hv with ⟨i,t,rfl,rfl⟩ | ⟨x,t,rfl,rfl⟩
    · exact wpAny_pyHash_int h
    · exact wpAny_pyHash_str h
  eqBool:=fun hu hv h=>by
    rcases yj hu with ⟨i,t,rfl,rfl⟩ | ⟨x,t,rfl,rfl⟩
    · rcases yj hv with ⟨j,u,rfl,rfl⟩ | ⟨y,u,rfl,rfl⟩
      · rw [za0] at h; exact wpAny_eqBool_int h
      · rw [za2] at h; exact SeqAt.EqAt.int_str i t y u _ _ _ _ h
    · rcases yj hv with ⟨j,u,rfl,rfl⟩ | ⟨y,u,rfl,rfl⟩
      · rw [za3] at h; exact SeqAt.EqAt.str_int x t j u _ _ _ _ h
      · rw [za1] at h; exact wpAny_eqBool_str h
  «strs»:=fun k x t v h=>by
    rcases yj h with ⟨i,u,rfl,e⟩ | ⟨y,u,rfl,e⟩
    · exact nomatch e
    · injection e with e1 _
      subst e1
      cases v <;> rfl
end L2
namespace L2
open PySem PySem.Spec PyProof.Rows
inductive V where
  | non | bl (b:Bool) | int (i:Int) | str (x:Str) | byt (b:Array UInt8) | flt (b:UInt64) | ref (a:Addr) | ty (n:String)
  deriving DecidableEq
def RelV:V->Value->Prop
  | .non,u=>u=Value.none
  | .bl b,u=>u=Value.bool b
  | .int i,u=>∃ t,u=Value.int i t
  | .str x,u=>∃ t,u=Value.str x t
  | .byt b,u=>∃ t,u=Value.bytes b t
  | .flt b,u=>∃ t,u=Value.float b t
  | .ref a,u=>u=Value.ref a
  | .ty n,u=>u=Value.type n
abbrev Vals:List V->List Value->Prop:=Paired RelV
theorem Vals.length {xs:List V} {us:List Value} (r:Vals xs us):xs.length=us.length:=Paired.length r
theorem Vals.get:∀ {xs:List V} {us:List Value} {i:Nat} {x:V},Vals xs us->xs[i]?=some x->∃ u,us[i]?=some u/\RelV x u
  | _,_,_,_,.nil,e=>by simp at e
  | _,_,0,_,.cons r _,e=>by simp at e; subst e; exact ⟨_,rfl,r⟩
  | _,_,i + 1,x,.cons _ t,e=>by
    obtain ⟨u,h1,h2⟩:=Vals.get (i:=i) (x:=x) t (by simpa using e)
    exact ⟨u,by simpa using h1,h2⟩
theorem Vals.set {x:V} {u:Value} (r:RelV x u):∀ {xs:List V} {us:List Value} (i:Nat),Vals xs us->Vals (xs.set i x) (us.set i u)
  | _,_,_,.nil=>.nil
  | _,_,0,.cons _ t=>.cons r t
  | _,_,i + 1,.cons q t=>.cons q (Vals.set r i t)
theorem Vals.append:∀ {xs ys:List V} {us ws:List Value},Vals xs us->Vals ys ws->Vals (xs ++ ys) (us ++ ws)
  | _,_,_,_,.nil,s=>s
  | _,_,_,_,.cons r t,s=>.cons r (Vals.append t s)
theorem Vals.take:∀ {xs:List V} {us:List Value} (n:Nat),Vals xs us->Vals (xs.take n) (us.take n)
  | _,_,0,_=>.nil
  | _,_,_ + 1,.nil=>.nil
  | _,_,n + 1,.cons r t=>.cons r (Vals.take n t)
theorem Vals.drop:∀ {xs:List V} {us:List Value} (n:Nat),Vals xs us->Vals (xs.drop n) (us.drop n)
  | _,_,0,r=>r
  | _,_,_ + 1,.nil=>.nil
  | _,_,n + 1,.cons _ t=>Vals.drop n t
theorem Vals.none_of:∀ {xs:List V} {us:List Value} {i:Nat},Vals xs us->xs[i]?=none->us[i]?=none:=fun {xs us i} r e=>by
  have h1:=r.length
  have h2:xs.length<=i:=List.getElem?_eq_none_iff.mp e
  exact List.getElem?_eq_none_iff.mpr (by lia)
def RelO:Option V->Option Value->Prop
  | some v,some u=>RelV v u
  | none,none=>True
  | _,_=>False
def KV {κ:Type}:List (κ × V)->List (κ × Value)->Prop:=Paired fun (p:κ × V) (q:κ × Value)=>p.1=q.1/\RelV p.2 q.2
def kV:Key->V
  | .inl i=>.int i
  | .inr x=>.str x
inductive HO where
  | lst (xs:List V)
  | tup (xs:List V)
  | dK (kvs:List (Key × V)) | dT (kvs:List (List Key × V))
  | set (S:Int->Bool) (n:Nat)
  | ins (C dx:Addr) (fs:List (Str × V))
  | own (x:Addr)
  | xd (fs:List (Str × V))
  | met (f x:Addr)
  | rng (lo hi:Int)
  | frz (o:Obj) (u:HO)
  | tbl (ps:Array Value)
  | ext (φ:Heap->Prop)
abbrev Hp:=Addr->Option HO
def upd (H:Hp) (a:Addr) (o:HO):Hp:=fun b=>if b=a then some o else H b
theorem zc {H:Hp} {a:Addr} {o:HO}:upd H a o a=some o:=by unfold upd; rw [if_pos rfl]
theorem zk {H:Hp} {a b:Addr} {o:HO} (h:b≠a):upd H a o b=H b:=by unfold upd; rw [if_neg h]
theorem yi {H:Hp} {a b:Addr} {o u:HO} (h:H a=some o) (h':H b=some u) (d:o≠u):a≠b:=by
  intro e; subst e; rw [h] at h'; exact d (Option.some.inj h')
theorem zo {H:Hp} {a b:Addr} {o:HO} (h:H a=some o) (h':H b=none):a≠b:=by
  intro e; subst e; rw [h] at h'; cases h'
def IsTupN (h:Heap) (a:Addr) (items:Array Value):Prop:=∃ o,h.get? a=some o/\o.cls=.type "tuple"/\o.dict=none/\∃ n,o.data=.seq items n
theorem IsTupN.is {h:Heap} {a:Addr} {items:Array Value} (x:IsTupN h a items):IsTup h a items:=let ⟨o,a,b,_,c⟩:=x; ⟨o,a,b,c⟩
theorem IsTupN.new (h:Heap) (items:Array Value):IsTupN (h.push { cls:=.type "tuple",data:=.seq items }) h.objs.size items:=⟨_,Heap.get?_push_size _ rfl,rfl,rfl,_,rfl⟩
section
variable (P:Program) (w:World)
def ObjOk (H:Hp) (h:Heap) (a:Addr):HO->Prop
  | .lst xs=>xs.length<=sizeLine/\∃ (its:List Value) (n:Nat),Vals xs its/\h.get? a=some { cls:=.type "list",data:=.seq its.toArray n }
  | .tup xs=>xs.length<=sizeLine/\∃ its:List Value,Vals xs its/\IsTupN h a its.toArray
  | .dK kvs=>kvs.length<=sizeLine/\(a == sysModules)=false/\∃ vs,KV kvs vs/\h.DictOf (Xu P w) a vs
  | .dT kvs=>kvs.length<=sizeLine/\(a == sysModules)=false/\∃ xs:List (List Key × Addr × Value),
      Paired (fun (p:List Key × V) (q:List Key × Addr × Value)=>p.1=q.1/\H q.2.1=some (.tup (p.1.map kV))/\RelV p.2 q.2.2) kvs xs /\
      ∃ o es ep,h.get? a=some o/\o.ExactDict/\o.data=.dict es ep/\es.toList=xs.map (entryOfKey (tupleKind (Xu P w)))/\(xs.map (·.1)).Nodup
  | .set S n=>h.SetOf (intKind P w) a S n
  | .ins C dx fs=>H dx=some (.own a)/\fs.length<=1000/\dx≠a/\h.get? a=some (PySem.W.instObj C dx) /\
      ∃ mA,h.Ns1 dx mA/\(∀ f,RelO (fs.lookup f) (mA f))/\PySem.Within mA (fs.map (·.1))
  | .own _=>∃ o,h.get? a=some o
  | .xd fs=>∃ mA,h.Ns1 a mA/\∀ f,RelO (fs.lookup f) (mA f)
  | .rng lo hi=>∃ t u v,h.get? a=some { cls:=.type "range",data:=.fields #[.int lo t,.int hi u,.int 1 v] }
  | .frz o u=>h.get? a=some o/\ObjOk H h a u
  | .tbl ps=>h.get? a=some { cls:=.none,data:=.fields ps }
  | .met f x=>h.get? a=some (PySem.W.methodObj (.ref f) (.ref x))
  | .ext φ=>φ h/\(∃ o,h.get? a=some o)/\∀ h1 h2:Heap,φ h1->(∀ o,h1.get? a=some o->h2.get? a=some o)->φ h2
def HOk (H:Hp) (h:Heap):Prop:=∀ a o,H a=some o->ObjOk P w H h a o
end
section
variable {P:Program} {w:World} {H H':Hp} {h h':Heap} {a:Addr} {o:HO}
theorem ObjOk.lt (x:ObjOk P w H h a o):a < h.objs.size:=by
  cases o with
  | lst xs=>obtain ⟨_,_,_,_,e⟩:=x; exact Heap.lt_size e
  | tup xs=>obtain ⟨_,_,_,p⟩:=x; exact p.is.lt
  | dK kvs=>obtain ⟨_,_,_,_,o,_,_,e,_⟩:=x; exact Heap.lt_size e
  | dT kvs=>obtain ⟨_,_,_,_,o,_,_,e,_⟩:=x; exact Heap.lt_size e
  | set S n=>obtain ⟨o,_,_,_,e,_⟩:=x; exact Heap.lt_size e
  | ins C dx fs=>obtain ⟨_,_,_,e,_⟩:=x; exact Heap.lt_size e
  | own y=>obtain ⟨_,e⟩:=x; exact Heap.lt_size e
  | xd fs=>obtain ⟨_,⟨_,_,_,e,_⟩,_⟩:=x; exact Heap.lt_size e
  | rng lo hi=>obtain ⟨_,_,_,e⟩:=x; exact Heap.lt_size e
  | frz ob u=>obtain ⟨e,_⟩:=x; exact Heap.lt_size e
  | tbl ps=>exact Heap.lt_size (show h.get? a=some _ from x)
  | met f y=>exact Heap.lt_size (show h.get? a=some _ from x)
  | ext φ=>obtain ⟨_,⟨_,e⟩,_⟩:=x; exact Heap.lt_size e
theorem Paired.mapP {α β:Type} {F G:α->β->Prop}:∀ {l₁:List α} {l₂:List β},Paired F l₁ l₂->(∀ a b,F a b->G a b)->Paired G l₁ l₂
  | _,_,.nil,_=>.nil
  | _,_,.cons r t,f=>.cons (f _ _ r) (Paired.mapP t f)
theorem ObjOk.stay (x:ObjOk P w H h a o) (k:∀ b u,(b=a\/H b=some (.own a))->h.get? b=some u->h'.get? b=some u)
    (ho:∀ b,H b=some (.own a)->H' b=some (.own a)) (ht:∀ b xs,H b=some (.tup xs)->H' b=some (.tup xs)):ObjOk P w H' h' a o:=by
  induction o with
  | lst xs=>obtain ⟨z,its,n,r,e⟩:=x; exact ⟨z,its,n,r,k _ _ (.inl rfl) e⟩
  | tup xs=>obtain ⟨z,its,r,ob,e,c⟩:=x; exact ⟨z,its,r,ob,k _ _ (.inl rfl) e,c⟩
  | dK kvs=>obtain ⟨z,y,vs,r,ob,es,ep,e,c⟩:=x; exact ⟨z,y,vs,r,ob,es,ep,k _ _ (.inl rfl) e,c⟩
  | dT kvs =>
    obtain ⟨z,y,xs,r,ob,es,ep,e,c⟩:=x
    exact ⟨z,y,xs,Paired.mapP r fun p q z=>⟨z.1,ht _ _ z.2.1,z.2.2⟩,ob,es,ep,k _ _ (.inl rfl) e,c⟩
  | set S n=>obtain ⟨ob,es,ep,t,e,c⟩:=x; exact ⟨ob,es,ep,t,k _ _ (.inl rfl) e,c⟩
  | ins C dx fs =>
    obtain ⟨d,z,ne,e,mA,⟨od,es,ep,e2,c⟩,r⟩:=x
    exact ⟨ho _ d,z,ne,k _ _ (.inl rfl) e,mA,⟨od,es,ep,k _ _ (.inr d) e2,c⟩,r⟩
  | own y=>obtain ⟨ob,e⟩:=x; exact ⟨ob,k _ _ (.inl rfl) e⟩
  | xd fs=>obtain ⟨mA,⟨od,es,ep,e,c⟩,r⟩:=x; exact ⟨mA,⟨od,es,ep,k _ _ (.inl rfl) e,c⟩,r⟩
  | rng lo hi=>obtain ⟨t,u,v,e⟩:=x; exact ⟨t,u,v,k _ _ (.inl rfl) e⟩
  | frz ob u ih=>obtain ⟨e,q⟩:=x; exact ⟨k _ _ (.inl rfl) e,ih q⟩
  | tbl ps =>
    have e:h.get? a=some { cls:=.none,data:=.fields ps }:=x
    show h'.get? a=some { cls:=.none,data:=.fields ps }
    exact k a _ (.inl rfl) e
  | met f y =>
    have e:h.get? a=some (PySem.W.methodObj (.ref f) (.ref y)):=x
    show h'.get? a=some (PySem.W.methodObj (.ref f) (.ref y))
    exact k a _ (.inl rfl) e
  | ext φ=>obtain ⟨p,⟨o,e⟩,st⟩:=x; exact ⟨st _ _ p fun o q=>k _ _ (.inl rfl) q,⟨o,k _ _ (.inl rfl) e⟩,st⟩
theorem HOk.lt (x:HOk P w H h) (e:H a=some o):a < h.objs.size:=(x a o e).lt
theorem HOk.fresh (x:HOk P w H h) (e:h.objs.size<=a):H a=none:=by
  cases q:H a with
  | none=>rfl
  | some u=>exact absurd (Nat.lt_of_lt_of_le (x.lt q) e) (Nat.lt_irrefl _)
theorem HOk.kept (x:HOk P w H h) (k:∀ b u,h.get? b=some u->h'.get? b=some u):HOk P w H h':=fun a o e =>
  (x a o e).stay (fun b u _ q=>k b u q) (fun _ q=>q) fun _ _ q=>q
theorem HOk.laid (x:HOk P w H h) (k:∀ b u,h.get? b=some u->h'.get? b=some u) (hp:h.objs.size<=a) (new:ObjOk P w (upd H a o) h' a o):HOk P w (upd H a o) h':=fun b u e=>by
  have hn:=x.fresh hp
  by_cases hb:b=a
  · subst hb; rw [zc] at e; cases e; exact new
  · rw [zk hb] at e
    exact (x b u e).stay (fun c v _ q=>k c v q) (fun c q=>by rw [zk (zo q hn)]; exact q) fun c xs q=>by rw [zk (zo q hn)]; exact q
end
def Rd (H:Hp) (a:Addr) (u:HO):Prop:=H a=some u\/∃ o,H a=some (.frz o u)
theorem Rd.of {H:Hp} {a:Addr} {u:HO} (h:H a=some u):Rd H a u:=.inl h
theorem Rd.ok {P:Program} {w:World} {H:Hp} {h:Heap} {a:Addr} {u:HO} (r:Rd H a u) (x:HOk P w H h):ObjOk P w H h a u:=by
  rcases r with r | ⟨o,r⟩
  · exact x a u r
  · obtain ⟨_,q⟩:=x a _ r
    exact q
def Mut:Option HO->Prop
  | some (.lst _)=>True
  | some (.dK _)=>True
  | some (.dT _)=>True
  | some (.set _ _)=>True
  | some (.ins _ _ _)=>True
  | some (.ext _)=>True
  | _=>False
section
variable {P:Program} {w:World} {H:Hp} {h h':Heap} {x e:Addr} {o':HO}
theorem HOk.write (ok:HOk P w H h) (mu:Mut (H x)) (he:e=x\/H e=some (.own x)) (k:∀ b u,b≠e->h.get? b=some u->h'.get? b=some u) (heo:∃ u,h'.get? e=some u)
    (new:ObjOk P w (upd H x o') h' x o'):HOk P w (upd H x o') h':=fun b u q=>by
  have nown:∀ c y,H c=some (.own y)->c≠x:=fun c y r z=>by subst z; rw [r] at mu; exact mu
  have ntup:∀ c xs,H c=some (.tup xs)->c≠x:=fun c xs r z=>by subst z; rw [r] at mu; exact mu
  by_cases hb:b=x
  · subst hb; rw [zc] at q; cases q; exact new
  · rw [zk hb] at q
    by_cases hbe:b=e
    · have q':H b=some (.own x):=by
        rcases he with z | z
        · exact absurd (hbe.trans z) hb
        · rw [hbe]; exact z
      rw [q] at q'; cases q'
      obtain ⟨v,hv⟩:=heo
      exact ⟨v,by rw [hbe]; exact hv⟩
    · refine (ok b u q).stay (fun c v hc r=>k c v ?_ r) (fun c r=>by rw [zk (nown c b r)]; exact r) fun c xs r=>by rw [zk (ntup c xs r)]; exact r
      rcases hc with rfl | hc
      · exact hbe
      · rintro rfl
        rcases he with z | z
        · exact nown c b hc z
        · rw [hc] at z; cases z; exact hb rfl
end
structure Un (fs ex:List Addr) (H H':Hp) (h h':Heap):Prop where
  keep:∀ b o,h.get? b=some o->H b=none->b ∉ fs->b ∉ ex->h'.get? b=some o
  slot:∀ b o,h.get? b=some o->H b=none->b∈fs->b ∉ ex->∃ sl,h'.get? b=some { o with slots:=sl }
  free:∀ b o,h.get? b=some o->H b=none->b ∉ ex->H' b=none
  there:∀ b o,h.get? b=some o->b ∉ ex->∃ o',h'.get? b=some o'
  tups:∀ b xs,H b=some (.tup xs)->H' b=some (.tup xs)
  frzs:∀ b o u,H b=some (.frz o u)->H' b=some (.frz o u)
  tbls:∀ b ps,H b=some (.tbl ps)->∃ more,H' b=some (.tbl (ps ++ more))
section
variable {fs fs' ex ex':List Addr} {H H1 H2:Hp} {h h1 h2 h':Heap} {a x e:Addr} {o:HO}
theorem Un.any (u:Un fs ex H H1 h h1) {b:Addr} {ob:Obj} (q:h.get? b=some ob) (n:H b=none) (hx:b ∉ ex):∃ sl,h1.get? b=some { ob with slots:=sl }:=by
  by_cases hb:b∈fs
  · exact u.slot b ob q n hb hx
  · exact ⟨ob.slots,u.keep b ob q n hb hx⟩
theorem Un.trans (a:Un fs ex H H1 h h1) (b:Un fs ex H1 H2 h1 h2):Un fs ex H H2 h h2 where
  keep:=fun c ob q n hc hx=>b.keep c ob (a.keep c ob q n hc hx) (a.free c ob q n hx) hc hx
  slot:=fun c ob q n hc hx=>by
    obtain ⟨sl,e1⟩:=a.slot c ob q n hc hx
    obtain ⟨sl',e2⟩:=b.slot c _ e1 (a.free c ob q n hx) hc hx
    exact ⟨sl',e2⟩
  free:=fun c ob q n hx=>by
    obtain ⟨o',e1⟩:=a.there c ob q hx
    exact b.free c o' e1 (a.free c ob q n hx) hx
  there:=fun c ob q hx=>by
    obtain ⟨o',e1⟩:=a.there c ob q hx
    exact b.there c o' e1 hx
  tups:=fun c xs q=>b.tups c xs (a.tups c xs q)
  frzs:=fun c ob xs q=>b.frzs c ob xs (a.frzs c ob xs q)
  tbls:=fun c ps q=>by
    obtain ⟨m1,e1⟩:=a.tbls c ps q
    obtain ⟨m2,e2⟩:=b.tbls c _ e1
    exact ⟨m1 ++ m2,by rw [e2,Array.append_assoc]⟩
theorem Un.kept (k:∀ b u,h.get? b=some u->h'.get? b=some u):Un fs ex H H h h' :=
  ⟨fun b ob q _ _ _=>k b ob q,fun b ob q _ _ _=>⟨ob.slots,k b ob q⟩,fun _ _ _ n _=>n,fun b ob q _=>⟨ob,k b ob q⟩,fun _ _ q=>q,fun _ _ _ q=>q,fun _ ps q=>⟨#[],by rw [q]; simp⟩⟩
theorem Un.refl:Un fs ex H H h h:=Un.kept fun _ _ q=>q
theorem Un.laid (k:∀ b u,h.get? b=some u->h'.get? b=some u) (hp:h.objs.size<=a) (hn:H a=none):Un fs ex H (upd H a o) h h' where
  keep:=fun b u q _ _ _=>k b u q
  slot:=fun b u q _ _ _=>⟨u.slots,k b u q⟩
  free:=fun b u q n _=>by rw [zk (Nat.ne_of_lt (Nat.lt_of_lt_of_le (Heap.lt_size q) hp))]; exact n
  there:=fun b u q _=>⟨u,k b u q⟩
  tups:=fun b xs q=>by rw [zk (zo q hn)]; exact q
  frzs:=fun b u xs q=>by rw [zk (zo q hn)]; exact q
  tbls:=fun b ps q=>⟨#[],by rw [zk (zo q hn),q]; simp⟩
theorem Un.write (mu:Mut (H x)) (he:e=x\/H e=some (.own x)) (k:∀ b u,b≠e->h.get? b=some u->h'.get? b=some u) (heo:∃ u,h'.get? e=some u):Un fs ex H (upd H x o) h h':=by
  have hx:∀ b,H b=none->b≠x:=fun b n z=>by subst z; rw [n] at mu; exact mu
  have hb:∀ b,H b=none->b≠e:=fun b n z=>by
    subst z
    rcases he with r | r
    · exact hx b n r
    · rw [n] at r; cases r
  have hm:∀ b u,H b=some u->¬ Mut (some u)->b≠x:=fun b u q nm z=>by subst z; rw [q] at mu; exact nm mu
  refine ⟨fun b u q n _ _=>k b u (hb b n) q,fun b u q n _ _=>⟨u.slots,k b u (hb b n) q⟩,fun b u q n _=>by rw [zk (hx b n)]; exact n,fun b u q _=>?_,
    fun b xs q=>by rw [zk (hm b _ q fun z=>z)]; exact q,fun b u xs q=>by rw [zk (hm b _ q fun z=>z)]; exact q,fun b ps q=>⟨#[],by rw [zk (hm b _ q fun z=>z),q]; simp⟩⟩
  by_cases hbe:b=e
  · subst hbe; exact heo
  · exact ⟨u,k b u hbe q⟩
theorem Un.mono (u:Un fs ex H H1 h h1) (hs:∀ b∈fs,b∈fs') (hx:∀ b∈ex,b∈ex'):Un fs' ex' H H1 h h1 :=
  ⟨fun b ob q n hb he=>u.keep b ob q n (fun z=>hb (hs b z)) fun z=>he (hx b z),fun _ _ q n _ he=>u.any q n fun z=>he (hx _ z),fun b ob q n he=>u.free b ob q n fun z=>he (hx b z),fun b ob q he=>u.there b ob q fun z=>he (hx b z),u.tups,u.frzs,u.tbls⟩
end
def trk (h:Heap) (H:Hp):List Addr:=(List.range h.objs.size).filter fun a=>(H a).isSome
def hidT (h:Heap) (H:Hp):Heap:=PySem.W.hideAll h (trk h H)
theorem Wo (h:Heap) (H:Hp):(hidT h H).objs.size=h.objs.size:=PySem.W.hideAll_size _ _
theorem W5 {h:Heap} {H:Hp} {b:Addr} {o:Obj} (e:h.get? b=some o) (n:H b=none):(hidT h H).get? b=some o :=
  PySem.W.hideAll_get _ e fun hm=>by
    have q:(H b).isSome=true:=(List.mem_filter.mp hm).2
    rw [n] at q; simp at q
theorem JX {h:Heap} {H:Hp} {b:Addr} {o:Obj} (e:(hidT h H).get? b=some o):h.get? b=some o/\H b=none:=by
  have e':h.get? b=some o:=PySem.W.of_hideAll (trk h H) e
  refine ⟨e',?_⟩
  cases q:H b with
  | none=>rfl
  | some x =>
    have hm:b∈trk h H:=List.mem_filter.mpr ⟨List.mem_range.mpr (Heap.lt_size e'),by simp [q]⟩
    have z:(hidT h H).get? b=none:=PySem.W.hideAll_none (trk h H) hm
    rw [z] at e; cases e
def JY (g h:Heap) (L:Addr):List (Addr × Obj):=(List.range h.objs.size).filterMap fun a=>if a=L\/(g.get? a).isSome=true then none else (h.get? a).map fun o=>(a,o)
def rest (g h:Heap) (L d:Addr):List (Addr × Obj):=(JY g h L).filter fun p=>decide (p.1≠d)
end L2
namespace L2
open PySem PySem.Spec PyProof.Rows
structure Mod (K:PySem.W.Frag) (mg:Str->Option Value) (base:Heap):Prop where
  kin:K.In base
  glob:base.Ns mainGlobals mg
  blt:∃ mb,base.Ns builtinsNs mb/\∀ x:Str,x≠"__name__"->mb x=bootBuiltins x
  nolimit:base.NoLimit
structure Cx where
  prog:Program
  w:World
  K:PySem.W.Frag
  mg:Str->Option Value
  base:Heap
  A:Around
  N:List Str
  s₀:Shared
  H₀:Hp
  env:Env
  outer:List Env
  stack:List Env
  ex:List Addr
  fn:Str->Bool
  calm:Bool
  pn:List (Addr × Obj)
  xe:Value->Shared->Prop
def frs (l:List Env):List Addr:=l.filterMap (·.frame)
abbrev Cx.fs (X:Cx):List Addr:=frs X.outer
def Vis (sc:Scope) (x:Str):Prop:=sc.names.lookup x=some .local\/sc.names.lookup x=some .cell\/sc.names.lookup x=some .free
def Loc (sc:Scope) (x:Str):Prop:=sc.names.lookup x=some .local\/sc.names.lookup x=some .cell
def Look (env:Env) (h:Heap) (m:Str->Option Value) (x:Str) (u:Value):Prop :=
  (env.kindOf x=some .local/\m x=some u)\/((env.kindOf x=some .cell\/env.kindOf x=some .free)/\∃ c,env.cells.lookup x=some c/\h.IsCell c (some u))
structure Cx.Ok (X:Cx):Prop where
  mod:Mod X.K X.mg X.base
  kind:X.env.scope.kind=.function
  glob:X.env.globals=mainGlobals
  blt:X.env.builtins=builtinsNs
  above:X.s₀.heap.objs.size<=X.env.locals
  inj:∀ x y c,X.env.cells.lookup x=some c->X.env.cells.lookup y=some c->x=y
  has:∀ x,(X.env.kindOf x=some .cell\/X.env.kindOf x=some .free)->∃ c,X.env.cells.lookup x=some c
  cab:∀ x c,X.fn x=true->X.env.cells.lookup x=some c->X.s₀.heap.objs.size<=c
  hd:X.calm=true->X.A.handled=none
  frames:X.A.frames=some X.stack
  stk:X.stack=X.outer\/(X.stack=X.env :: X.outer/\X.env.frame=some X.env.locals)
  exf:∀ b∈X.ex,b≠X.env.locals/\∀ x c,X.env.cells.lookup x=some c->c≠b
  bs:∀ b o,X.base.get? b=some o->X.s₀.heap.get? b=some o/\X.H₀ b=none
  bsz:X.base.objs.size<=X.s₀.heap.objs.size
  noex:∀ b o,X.base.get? b=some o->b ∉ X.ex
  exfs:∀ b∈X.ex,b ∉ X.fs
  funs:X.s₀.heap.FunFrames X.base X.outer
  frf:∀ b∈X.fs,X.H₀ b=none
structure Inv (X:Cx) (pins:List (Addr × Obj)) (σ:List (Option V)) (H:Hp) (s:Shared):Prop where
  ok:X.Ok
  os:s.os=X.s₀.os
  bare:AllBare s.gens
  base:Un X.fs X.ex X.H₀ H X.s₀.heap s.heap
  loc:∃ m,s.heap.Ns X.env.locals m/\∀ (i:Nat) (x:Str) (v:V),X.N[i]?=some x->σ[i]?=some (some v)->Vis X.env.scope x->∃ u,RelV v u/\Look X.env s.heap m x u
  cell:∀ x c,X.env.cells.lookup x=some c->∃ v,s.heap.IsCell c v
  free:H X.env.locals=none
  freeC:∀ x c,X.env.cells.lookup x=some c->H c=none
  pin:∀ p∈X.pn ++ pins,s.heap.get? p.1=some p.2/\H p.1=none/\p.1≠X.env.locals/\p.1 ∉ X.fs/\∀ v,p.2.data≠.cell v
  hok:HOk X.prog X.w H s.heap
  len:σ.length=X.N.length
section
variable {X:Cx} {pins:List (Addr × Obj)} {σ:List (Option V)} {H H':Hp} {s:Shared} {h':Heap}
theorem Cx.Ok.nofr (ok:X.Ok) {b:Addr} {o:Obj} (e:X.base.get? b=some o):b ∉ X.fs:=fun hb=>by
  have:=(ok.funs.mem hb).1
  rw [e] at this; cases this
theorem Inv.bs (I:Inv X pins σ H s):∀ b o,X.base.get? b=some o->s.heap.get? b=some o/\H b=none:=fun b o e =>
  ⟨I.base.keep b o (I.ok.bs b o e).1 (I.ok.bs b o e).2 (I.ok.nofr e) (I.ok.noex b o e),I.base.free b o (I.ok.bs b o e).1 (I.ok.bs b o e).2 (I.ok.noex b o e)⟩
theorem Inv.bk (I:Inv X pins σ H s):∀ b o,X.base.get? b=some o->s.heap.get? b=some o:=fun b o e=>(I.bs b o e).1
theorem Inv.mod (I:Inv X pins σ H s):Mod X.K X.mg X.base:=I.ok.mod
theorem Inv.kIn (I:Inv X pins σ H s):X.K.In s.heap:=I.ok.mod.kin.keeps I.bk
theorem Inv.nolimit (I:Inv X pins σ H s):s.heap.NoLimit:=I.ok.mod.nolimit.keeps I.bk
theorem Inv.fr (I:Inv X pins σ H s):∃ m,Fr X.base X.env.locals s.heap m :=
  let ⟨m,hn,_⟩:=I.loc
  ⟨m,hn,I.bk,Nat.le_trans I.ok.bsz I.ok.above⟩
theorem Inv.lt (I:Inv X pins σ H s):X.env.locals < s.heap.objs.size:=let ⟨_,hn,_⟩:=I.loc; hn.lt
theorem Inv.sz (I:Inv X pins σ H s):X.s₀.heap.objs.size<=s.heap.objs.size:=Nat.le_trans I.ok.above (Nat.le_of_lt I.lt)
theorem Inv.nofs (I:Inv X pins σ H s) {a:Addr} (h:s.heap.objs.size<=a):a ∉ X.fs:=fun hb=>by
  obtain ⟨_,o,ho,_⟩:=I.ok.funs.mem hb
  exact absurd (Nat.lt_of_lt_of_le (Heap.lt_size ho) (Nat.le_trans I.sz h)) (Nat.lt_irrefl _)
theorem Inv.cne (I:Inv X pins σ H s):∀ x c,X.env.cells.lookup x=some c->c≠X.env.locals:=fun x c e z=>by
  obtain ⟨v,o,ho,hd⟩:=I.cell x c e
  obtain ⟨m,⟨o',es,ep,ho',hd',_⟩,_⟩:=I.loc
  rw [z,ho'] at ho; cases ho; rw [hd'] at hd; cases hd
theorem Inv.funs (I:Inv X pins σ H s):s.heap.FunFrames X.base X.outer:=by
  have all:∀ (l:List Env),(∀ b∈frs l,b∈X.fs)->X.s₀.heap.FunFrames X.base l->s.heap.FunFrames X.base l:=by
    intro l
    induction l with
    | nil=>intro _ _; trivial
    | cons env r ih =>
      intro hs hl
      obtain ⟨hk,⟨L,o,hf,hn,ho,hd⟩,hr⟩:=hl
      have hL:L∈X.fs:=hs L (by unfold frs; rw [List.filterMap_cons,hf]; exact List.mem_cons_self)
      obtain ⟨sl,e⟩:=I.base.slot L o ho (I.ok.frf L hL) hL fun z=>I.ok.exfs L z hL
      exact ⟨hk,⟨L,_,hf,hn,e,hd⟩,ih (fun b hb=>hs b (by unfold frs; rw [List.filterMap_cons,hf]; exact List.mem_cons_of_mem _ hb)) hr⟩
  exact all X.outer (fun _ hb=>hb) I.ok.funs
theorem Inv.stack (I:Inv X pins σ H s):s.heap.FunFrames X.base X.stack:=by
  rcases I.ok.stk with e | ⟨e,hf⟩
  · rw [e]; exact I.funs
  · rw [e]
    obtain ⟨m,hn,_⟩:=I.loc
    refine .cons (by rw [I.ok.kind]; decide) hf hn ?_ I.funs
    exact Heap.get?_none_of_le (Nat.le_trans I.ok.bsz I.ok.above)
theorem Inv.stkSub (I:Inv X pins σ H s):∀ b∈frs X.stack,b∈X.env.locals :: X.fs:=fun b hb=>by
  rcases I.ok.stk with e | ⟨e,hf⟩
  · rw [e] at hb; exact List.mem_cons_of_mem _ hb
  · rw [e] at hb
    unfold frs at hb
    rw [List.filterMap_cons,hf] at hb
    exact hb
theorem Inv.stkFree (I:Inv X pins σ H s):∀ b∈frs X.stack,H b=none:=fun b hb=>by
  rcases List.mem_cons.mp (I.stkSub b hb) with e | hb
  · rw [e]; exact I.free
  · obtain ⟨_,o,ho,_⟩:=I.ok.funs.mem hb
    exact I.base.free b o ho (I.ok.frf b hb) fun z=>I.ok.exfs b z hb
theorem Inv.step {g':Array GenState} {t':Nat} {d':Drawn} {ch:List Addr} (I:Inv X pins σ H s)
    (hch:∀ b∈ch,(b∈X.ex\/X.s₀.heap.objs.size<=b)/\b≠X.env.locals/\(∀ x c,X.env.cells.lookup x=some c->c≠b)/\∀ p∈X.pn ++ pins,p.1≠b)
    (keep:∀ b o,b≠X.env.locals->b ∉ X.fs->b ∉ ch->s.heap.get? b=some o->H b=none->h'.get? b=some o)
    (slot:∀ b o,b≠X.env.locals->b∈X.fs->b ∉ ch->s.heap.get? b=some o->H b=none->∃ sl,h'.get? b=some { o with slots:=sl }) (free:∀ b o,b ∉ ch->s.heap.get? b=some o->H b=none->H' b=none)
    (there:∀ b o,b ∉ ch->s.heap.get? b=some o->∃ o',h'.get? b=some o')
    (tups:∀ b xs,H b=some (.tup xs)->H' b=some (.tup xs)) (frzs:∀ b o u,H b=some (.frz o u)->H' b=some (.frz o u)) (tbls:∀ b ps,H b=some (.tbl ps)->∃ more,H' b=some (.tbl (ps ++ more)))
    (ns:∀ m,s.heap.Ns X.env.locals m->h'.Ns X.env.locals m) (hok:HOk X.prog X.w H' h') (hg:AllBare g') :
    Inv X pins σ H' { s with heap:=h',gens:=g',drawn:=d',toks:=t' }:=by
  have neL:∀ b o,X.s₀.heap.get? b=some o->b≠X.env.locals:=fun b o e=>Nat.ne_of_lt (Nat.lt_of_lt_of_le (Heap.lt_size e) I.ok.above)
  have neC:∀ b o,X.s₀.heap.get? b=some o->b ∉ X.ex->b ∉ ch:=fun b o e hx hb=>by
    rcases (hch b hb).1 with z | z
    · exact hx z
    · exact absurd (Nat.lt_of_lt_of_le (Heap.lt_size e) z) (Nat.lt_irrefl _)
  have cellK:∀ x c,X.env.cells.lookup x=some c->∀ v,s.heap.IsCell c v->h'.IsCell c v:=fun x c e v ⟨o,ho,hd⟩=>by
    have nch:c ∉ ch:=fun z=>(hch c z).2.2.1 x c e rfl
    by_cases hc:c∈X.fs
    · obtain ⟨sl,q⟩:=slot c o (I.cne x c e) hc nch ho (I.freeC x c e)
      exact ⟨_,q,hd⟩
    · exact ⟨o,keep c o (I.cne x c e) hc nch ho (I.freeC x c e),hd⟩
  refine ⟨I.ok,I.os,hg,⟨fun b o e n hb hx=>?_,fun b o e n hb hx=>?_,fun b o e n hx=>?_,fun b o e hx=>?_,fun b xs e=>tups b xs (I.base.tups b xs e),fun b o xs e=>frzs b o xs (I.base.frzs b o xs e),fun b ps e=>?_⟩,?_,fun x c e=>?_,?_,fun x c e=>?_,fun p hp=>?_,hok,I.len⟩
  · exact keep b o (neL b o e) hb (neC b o e hx) (I.base.keep b o e n hb hx) (I.base.free b o e n hx)
  · obtain ⟨sl,e1⟩:=I.base.slot b o e n hb hx
    obtain ⟨sl',e2⟩:=slot b _ (neL b o e) hb (neC b o e hx) e1 (I.base.free b o e n hx)
    exact ⟨sl',e2⟩
  · obtain ⟨o',e1⟩:=I.base.there b o e hx
    exact free b o' (neC b o e hx) e1 (I.base.free b o e n hx)
  · obtain ⟨o',e1⟩:=I.base.there b o e hx
    exact there b o' (neC b o e hx) e1
  · obtain ⟨m1,e1⟩:=I.base.tbls b ps e
    obtain ⟨m2,e2⟩:=tbls b _ e1
    exact ⟨m1 ++ m2,by rw [e2,Array.append_assoc]⟩
  · obtain ⟨m,hn,hl⟩:=I.loc
    refine ⟨m,ns m hn,fun i x v e1 e2 e3=>?_⟩
    obtain ⟨u,r,l⟩:=hl i x v e1 e2 e3
    refine ⟨u,r,?_⟩
    rcases l with l | ⟨k,c,e,z⟩
    · exact .inl l
    · exact .inr ⟨k,c,e,cellK x c e _ z⟩
  · obtain ⟨v,z⟩:=I.cell x c e
    exact ⟨v,cellK x c e v z⟩
  · obtain ⟨m,⟨o,_,_,ho,_⟩,_⟩:=I.loc
    exact free _ o (fun z=>(hch _ z).2.1 rfl) ho I.free
  · obtain ⟨v,o,ho,hd⟩:=I.cell x c e
    exact free c o (fun z=>(hch c z).2.2.1 x c e rfl) ho (I.freeC x c e)
  · obtain ⟨e,n,ne,nf,d⟩:=I.pin p hp
    have nch:p.1 ∉ ch:=fun z=>(hch p.1 z).2.2.2 p hp rfl
    exact ⟨keep p.1 p.2 ne nf nch e n,free p.1 p.2 nch e n,ne,nf,d⟩
theorem Inv.un {t':Nat} (I:Inv X pins σ H s) (u:Un X.fs [] H H' s.heap h') (hok:HOk X.prog X.w H' h'):Inv X pins σ H' { s with heap:=h',toks:=t' }:=by
  obtain ⟨m,⟨o,es,ep,ho,r⟩,_⟩:=id I.loc
  obtain ⟨sl,hL⟩:=u.any ho I.free (by simp)
  exact I.step (g':=s.gens) (d':=s.drawn) (ch:=[]) (fun _ z=>nomatch z) (fun b o _ hb _ e n=>u.keep b o e n hb (by simp)) (fun b o _ hb _ e n=>u.slot b o e n hb (by simp)) (fun b o _ e n=>u.free b o e n (by simp)) (fun b o _ e=>u.there b o e (by simp)) u.tups u.frzs u.tbls (fun m' hm=>by
    obtain ⟨o',es',ep',ho',r'⟩:=hm
    rw [ho] at ho'; cases ho'
    exact ⟨_,es',ep',hL,r'⟩) hok I.bare
theorem Inv.call {g':Array GenState} {t':Nat} {d':Drawn} {ch:List Addr} (I:Inv X pins σ H s) (u:Un (frs X.stack) ch H H' s.heap h') (hok:HOk X.prog X.w H' h') (hg:AllBare g')
    (hch:∀ b∈ch,(b∈X.ex\/X.s₀.heap.objs.size<=b)/\b≠X.env.locals/\(∀ x c,X.env.cells.lookup x=some c->c≠b)/\∀ p∈X.pn ++ pins,p.1≠b) :
    Inv X pins σ H' { s with heap:=h',gens:=g',drawn:=d',toks:=t' }:=by
  obtain ⟨m,⟨o,es,ep,ho,r⟩,_⟩:=id I.loc
  obtain ⟨sl,hL⟩:=u.any ho I.free fun z=>(hch _ z).2.1 rfl
  exact I.step (ch:=ch) hch (fun b o hL hb hc e n=>u.keep b o e n (fun z=>(List.mem_cons.mp (I.stkSub b z)).elim hL hb) hc) (fun b o _ _ hc e n=>u.any e n hc) (fun b o hc e n=>u.free b o e n hc) (fun b o hc e=>u.there b o e hc) u.tups u.frzs u.tbls (fun m' hm=>by
    obtain ⟨o',es',ep',ho',r'⟩:=hm
    rw [ho] at ho'; cases ho'
    exact ⟨_,es',ep',hL,r'⟩) hok hg
theorem Inv.turned {t':Nat} {it:Addr} (I:Inv X pins σ H s) (k:∀ b o,b≠it->s.heap.get? b=some o->h'.get? b=some o) (hn:H it=none) (hL:it≠X.env.locals)
    (h1:it∈X.ex\/X.s₀.heap.objs.size<=it) (h2:∀ x c,X.env.cells.lookup x=some c->c≠it) (h3:∀ p∈X.pn ++ pins,p.1≠it):Inv X pins σ H { s with heap:=h',toks:=t' }:=by
  have nit:∀ b u,H b=some u->b≠it:=fun b u e z=>by rw [z,hn] at e; cases e
  refine I.step (g':=s.gens) (d':=s.drawn) (ch:=[it]) (fun b hb=>?_) (fun b o _ _ hc e _=>k b o (fun z=>hc (by simp [z])) e) (fun b o _ _ hc e _=>⟨o.slots,k b o (fun z=>hc (by simp [z])) e⟩) (fun _ _ _ _ n=>n)
    (fun b o hc e=>⟨o,k b o (fun z=>hc (by simp [z])) e⟩) (fun _ _ e=>e) (fun _ _ _ e=>e) (fun b ps e=>⟨#[],by rw [e]; simp⟩) (fun m hm=>?_) (fun b u e=>?_) I.bare
  · have e:b=it:=by simpa using hb
    subst e
    exact ⟨h1,hL,h2,h3⟩
  · obtain ⟨o,es,ep,ho,r⟩:=hm
    exact ⟨o,es,ep,k _ o (Ne.symm hL) ho,r⟩
  · refine (I.hok b u e).stay (fun c v hc q=>k c v ?_ q) (fun _ q=>q) fun _ _ q=>q
    rcases hc with z | z
    · rw [z]; exact nit b u e
    · exact nit c _ z
theorem Inv.tok (I:Inv X pins σ H s) (t:Nat):Inv X pins σ H { s with toks:=t }:=I.un (h':=s.heap) (t':=t) Un.refl I.hok
theorem Inv.kept {t':Nat} (I:Inv X pins σ H s) (k:∀ b u,s.heap.get? b=some u->h'.get? b=some u):Inv X pins σ H { s with heap:=h',toks:=t' }:=I.un (Un.kept k) (I.hok.kept k)
theorem Inv.laid {a:Addr} {o:HO} {t':Nat} (I:Inv X pins σ H s) (k:∀ b u,s.heap.get? b=some u->h'.get? b=some u) (hp:s.heap.objs.size<=a) (new:ObjOk X.prog X.w (upd H a o) h' a o) :
    Inv X pins σ (upd H a o) { s with heap:=h',toks:=t' }:=I.un (Un.laid k hp (I.hok.fresh hp)) (I.hok.laid k hp new)
theorem Inv.write {x e:Addr} {o:HO} {t':Nat} (I:Inv X pins σ H s) (mu:Mut (H x)) (he:e=x\/H e=some (.own x)) (k:∀ b u,b≠e->s.heap.get? b=some u->h'.get? b=some u) (heo:∃ u,h'.get? e=some u)
    (new:ObjOk X.prog X.w (upd H x o) h' x o):Inv X pins σ (upd H x o) { s with heap:=h',toks:=t' }:=I.un (Un.write mu he k heo) (I.hok.write mu he k heo new)
theorem Inv.pins_of {pins':List (Addr × Obj)} (I:Inv X pins σ H s) (h:∀ p∈pins',s.heap.get? p.1=some p.2/\H p.1=none/\p.1≠X.env.locals/\p.1 ∉ X.fs/\∀ v,p.2.data≠.cell v):Inv X pins' σ H s :=
  ⟨I.ok,I.os,I.bare,I.base,I.loc,I.cell,I.free,I.freeC,fun p hp=>(List.mem_append.mp hp).elim (fun z=>I.pin p (List.mem_append_left _ z)) (h p),I.hok,I.len⟩
theorem vG {N:List Str} (hN:N.Nodup) {i j:Nat} {x:Str} (a:N[i]?=some x) (b:N[j]?=some x):i=j:=by
  obtain ⟨h1,e1⟩:=List.getElem?_eq_some_iff.mp a
  obtain ⟨h2,e2⟩:=List.getElem?_eq_some_iff.mp b
  exact (List.getElem_inj hN).mp (e1.trans e2.symm)
theorem jD {M:Model} {A:Around} {E:Value->Shared->Prop} {i:Nat} {x:Str} {v:V} {u:Value} {Q:Unit->Shared->Prop} (I:Inv X pins σ H s) (hN:X.N.Nodup) (hi:X.N[i]?=some x) (hx:Loc X.env.scope x) (r:RelV v u)
    (h:∀ s',Inv X pins (σ.set i (some v)) H s'->(∃ a,Heap.SameBut a s.heap s'.heap/\(a=X.env.locals\/X.env.cells.lookup x=some a))->Q () s') (hf:X.fn x=true\/X.env.scope.names.lookup x=some .local:=by first | exact .inl rfl | exact .inr rfl | assumption):wpAny M A (storeName X.env x u) Q E s:=by
  obtain ⟨m,hn,hl⟩:=id I.loc
  have hcls:(X.env.scope.kind == .class || (X.env.scope.kind == .module && X.env.locals != X.env.globals))=false:=by rw [I.ok.kind]; rfl
  have hiσ:i < σ.length:=by rw [I.len]; exact (List.getElem?_eq_some_iff.mp hi).1
  have cne:=I.cne
  have tracked:∀ {a:Addr} {h':Heap},(∃ o,s.heap.get? a=some o/\H a=none)->Heap.SameBut a s.heap h'->HOk X.prog X.w H h':=fun {a h'} ha hs b ob e=>by
    obtain ⟨_,_,hfree⟩:=ha
    refine (I.hok b ob e).stay (fun c w' hc q=>(hs.2 c ?_).trans q) (fun _ q=>q) fun _ _ q=>q
    rintro rfl
    rcases hc with rfl | hc
    · rw [hfree] at e; cases e
    · rw [hfree] at hc; cases hc
  rcases hx with hk | hk
  · refine wpAny_storeName_local hk hn (fun h' hn' hs=>?_) hcls
    obtain ⟨oL,_,_,hoL,_⟩:=id hn
    refine h _ ⟨I.ok,I.os,I.bare,⟨fun b o e n hb hx=>?_,fun b o e n hb hx=>?_,I.base.free,fun b o e hx=>?_,I.base.tups,I.base.frzs,I.base.tbls⟩,⟨_,hn',fun j y v' e1 e2 e3=>?_⟩,fun y c e=>?_,I.free,I.freeC,fun p hp=>?_,tracked ⟨oL,hoL,I.free⟩ hs,by simpa using I.len⟩ ⟨_,hs,.inl rfl⟩
    · exact (hs.2 b (Nat.ne_of_lt (Nat.lt_of_lt_of_le (Heap.lt_size e) I.ok.above))).trans (I.base.keep b o e n hb hx)
    · obtain ⟨sl,e1⟩:=I.base.slot b o e n hb hx
      exact ⟨sl,(hs.2 b (Nat.ne_of_lt (Nat.lt_of_lt_of_le (Heap.lt_size e) I.ok.above))).trans e1⟩
    · obtain ⟨o',e1⟩:=I.base.there b o e hx
      exact ⟨o',(hs.2 b (Nat.ne_of_lt (Nat.lt_of_lt_of_le (Heap.lt_size e) I.ok.above))).trans e1⟩
    · by_cases hj:j=i
      · subst hj
        rw [hi] at e1; cases e1
        rw [List.getElem?_set_self hiσ] at e2
        cases e2
        exact ⟨u,r,.inl ⟨hk,by simp⟩⟩
      · rw [List.getElem?_set_ne (Ne.symm hj)] at e2
        obtain ⟨u',r',q⟩:=hl j y v' e1 e2 e3
        refine ⟨u',r',?_⟩
        rcases q with ⟨k,e⟩ | ⟨k,c,e,z⟩
        · refine .inl ⟨k,?_⟩
          have:y≠x:=fun e=>hj (vG hN e1 (e ▸ hi))
          simp [this,e]
        · exact .inr ⟨k,c,e,z.sameBut hs (cne y c e)⟩
    · obtain ⟨w',z⟩:=I.cell y c e
      exact ⟨w',z.sameBut hs (cne y c e)⟩
    · obtain ⟨e,n,ne,nf,d⟩:=I.pin p hp
      exact ⟨(hs.2 p.1 ne).trans e,n,ne,nf,d⟩
  · have hfn:X.fn x=true:=by
      rcases hf with z | z
      · exact z
      · rw [z] at hk; cases hk
    obtain ⟨c,hc⟩:=I.ok.has x (.inl hk)
    obtain ⟨w',z⟩:=I.cell x c hc
    refine wpAny_storeName_cell I.ok.kind hk hc z (fun h' hc' hs=>?_)
    obtain ⟨oc,hoc,hocd⟩:=id z
    refine h { s with heap:=h' } ⟨I.ok,I.os,I.bare,⟨fun b o e n hb hx=>?_,fun b o e n hb hx=>?_,I.base.free,fun b o e hx=>?_,I.base.tups,I.base.frzs,I.base.tbls⟩,⟨m,hn.sameBut hs (Ne.symm (cne x c hc)),fun j y v' e1 e2 e3=>?_⟩,fun y c' e=>?_,I.free,I.freeC,fun p hp=>?_,tracked ⟨oc,hoc,I.freeC x c hc⟩ hs,by simpa using I.len⟩ ⟨c,hs,.inr hc⟩
    · exact (hs.2 b (Nat.ne_of_lt (Nat.lt_of_lt_of_le (Heap.lt_size e) (I.ok.cab x c hfn hc)))).trans (I.base.keep b o e n hb hx)
    · obtain ⟨sl,e1⟩:=I.base.slot b o e n hb hx
      exact ⟨sl,(hs.2 b (Nat.ne_of_lt (Nat.lt_of_lt_of_le (Heap.lt_size e) (I.ok.cab x c hfn hc)))).trans e1⟩
    · obtain ⟨o',e1⟩:=I.base.there b o e hx
      exact ⟨o',(hs.2 b (Nat.ne_of_lt (Nat.lt_of_lt_of_le (Heap.lt_size e) (I.ok.cab x c hfn hc)))).trans e1⟩
    · by_cases hj:j=i
      · subst hj
        rw [hi] at e1; cases e1
        rw [List.getElem?_set_self hiσ] at e2
        cases e2
        exact ⟨u,r,.inr ⟨.inl hk,c,hc,hc'⟩⟩
      · rw [List.getElem?_set_ne (Ne.symm hj)] at e2
        obtain ⟨u',r',q⟩:=hl j y v' e1 e2 e3
        refine ⟨u',r',?_⟩
        rcases q with q | ⟨k,c',e,z'⟩
        · exact .inl q
        · refine .inr ⟨k,c',e,z'.sameBut hs ?_⟩
          rintro rfl
          exact hj (vG hN e1 (I.ok.inj _ _ _ e hc ▸ hi))
    · by_cases hcc:c'=c
      · subst hcc; exact ⟨_,hc'⟩
      · obtain ⟨w2,z2⟩:=I.cell y c' e
        exact ⟨w2,z2.sameBut hs hcc⟩
    · obtain ⟨e,n,ne,nf,d⟩:=I.pin p hp
      refine ⟨(hs.2 p.1 ?_).trans e,n,ne,nf,d⟩
      intro q
      rw [q,hoc] at e
      have q':oc=p.2:=Option.some.inj e
      exact d w' (by rw [<- q']; exact hocd)
theorem xk {M:Model} {A:Around} {E:Value->Shared->Prop} {i:Nat} {x:Str} {v:V} {u:Value} {Q:Unit->Shared->Prop} (I:Inv X pins σ H s) (hN:X.N.Nodup) (hi:X.N[i]?=some x) (hx:Loc X.env.scope x) (r:RelV v u)
    (h:∀ s',Inv X pins (σ.set i (some v)) H s'->Q () s') (hf:X.fn x=true\/X.env.scope.names.lookup x=some .local:=by first | exact .inl rfl | exact .inr rfl | assumption):wpAny M A (storeName X.env x u) Q E s :=
  jD I hN hi hx r (fun s' I' _=>h s' I') hf
theorem Inv.call' {s':Shared} {ch:List Addr} (I:Inv X pins σ H s) (ho:s'.os=s.os) (u:Un (frs X.stack) ch H H' s.heap s'.heap) (hok:HOk X.prog X.w H' s'.heap) (hg:AllBare s'.gens)
    (hch:∀ b∈ch,(b∈X.ex\/X.s₀.heap.objs.size<=b)/\b≠X.env.locals/\(∀ x c,X.env.cells.lookup x=some c->c≠b)/\∀ p∈X.pn ++ pins,p.1≠b):Inv X pins σ H' s':=by
  obtain ⟨h',g',d',t',o'⟩:=s'
  have e:o'=s.os:=ho
  subst e
  exact I.call (g':=g') (t':=t') (d':=d') u hok hg hch
end
abbrev XK:=Value->Option Addr->Hp->Prop
abbrev St:=List (Option V)
abbrev VK:=V->Hp->Prop
abbrev TE:=St->Hp->VK->Prop
abbrev TT:=St->Hp->(Bool->Hp->Prop)->Prop
abbrev TA:=St->Hp->(List V->Hp->Prop)->Prop
structure Ends where
  nx:St->Hp->Prop
  rt:VK
  bk:St->Hp->Prop:=fun _ _=>False
  ct:St->Hp->Prop:=fun _ _=>False
abbrev TS:=Ends->St->Hp->Prop
def EP (X:Cx) (pins:List (Addr × Obj)) (σ:St) (Q:VK) (u:Value) (s':Shared):Prop:=∃ v H',Inv X pins σ H' s'/\RelV v u/\Q v H'
def TP (X:Cx) (pins:List (Addr × Obj)) (σ:St) (Q:Bool->Hp->Prop) (b:Bool) (s':Shared):Prop:=∃ H',Inv X pins σ H' s'/\Q b H'
def AP (X:Cx) (pins:List (Addr × Obj)) (σ:St) (Q:List V->Hp->Prop) (us:List Value) (s':Shared):Prop:=∃ vs H',Inv X pins σ H' s'/\Vals vs us/\Q vs H'
def SP (X:Cx) (pins:List (Addr × Obj)) (D:Ends) (f:Flow) (s':Shared):Prop :=
  match f with
  | .next=>∃ σ' H',Inv X pins σ' H' s'/\D.nx σ' H'
  | .brk=>∃ σ' H',Inv X pins σ' H' s'/\D.bk σ' H'
  | .cont=>∃ σ' H',Inv X pins σ' H' s'/\D.ct σ' H'
  | .ret u=>∃ v σ' H',Inv X pins σ' H' s'/\RelV v u/\D.rt v H'
def PE (X:Cx) (e:Expr) (t:TE):Prop :=
  ∀ (pins:List (Addr × Obj)) (s:Shared) (σ:St) (H:Hp) (Q:VK),Inv X pins σ H s->t σ H Q->wpAny (model X.prog X.w) X.A (eval e X.env) (EP X pins σ Q) X.xe s
def PT (X:Cx) (e:Expr) (t:TT):Prop :=
  ∀ (pins:List (Addr × Obj)) (s:Shared) (σ:St) (H:Hp) (Q:Bool->Hp->Prop),Inv X pins σ H s->t σ H Q->wpAny (model X.prog X.w) X.A (isTrue e X.env (eval e X.env)) (TP X pins σ Q) X.xe s
def PW (X:Cx) (e:Expr) (t:TT):Prop :=
  ∀ (whole:Sem Value) (pins:List (Addr × Obj)) (s:Shared) (σ:St) (H:Hp) (Q:Bool->Hp->Prop),Inv X pins σ H s->t σ H Q->wpAny (model X.prog X.w) X.A (isTrue e X.env whole) (TP X pins σ Q) X.xe s
theorem PW.pt {X:Cx} {e:Expr} {t:TT} (h:PW X e t):PT X e t:=h _
def PA (X:Cx) (es:List Expr) (t:TA):Prop :=
  ∀ (pos:Pos) (pins:List (Addr × Obj)) (s:Shared) (σ:St) (H:Hp) (Q:List V->Hp->Prop),Inv X pins σ H s->t σ H Q->wpAny (model X.prog X.w) X.A (spliced (backTo pos (starEach es X.env))) (AP X pins σ Q) X.xe s
def PS (X:Cx) (st:Stmt) (t:TS):Prop :=
  ∀ (pins:List (Addr × Obj)) (s:Shared) (σ:St) (H:Hp) (D:Ends),Inv X pins σ H s->t D σ H->wpAny (model X.prog X.w) X.A (exec st X.env) (SP X pins D) X.xe s
def PSs (X:Cx) (st:List Stmt) (t:TS):Prop :=
  ∀ (pins:List (Addr × Obj)) (s:Shared) (σ:St) (H:Hp) (D:Ends),Inv X pins σ H s->t D σ H->wpAny (model X.prog X.w) X.A (execs st X.env) (SP X pins D) X.xe s
theorem thn {α:Type} {t:Sem α} {Q Q':α->Shared->Prop} {M:Model} {A:Around} {E:Value->Shared->Prop} {s:Shared} (h:wpAny M A t Q E s) (hQ:∀ a s,Q a s->Q' a s):wpAny M A t Q' E s:=wpAny_mono h hQ fun _ _ x=>x
end L2
namespace L2
open PySem PySem.Spec PyProof.Rows
section
variable {X:Cx}
def tVar (i:Nat):TE:=fun σ H Q=>∃ v,σ[i]?=some (some v)/\Q v H
def tC (v:V):TE:=fun _ H Q=>Q v H
theorem za4 {i:Nat} {x:Str} {pos:Pos} (hN:X.N[i]?=some x) (hv:Vis X.env.scope x) (hd:(x == ("__debug__":Str))=false:=by decide) (hcd:(x == ("__classdict__":Str))=false:=by decide):PE X (.Name x pos) (tVar i):=by
  intro pins s σ H Q I h
  obtain ⟨v,e,h⟩:=h
  obtain ⟨m,hn,hl⟩:=I.loc
  obtain ⟨u,r,l⟩:=hl i x v hN e hv
  have fin:EP X pins σ Q u s:=⟨v,H,I,r,h⟩
  rcases l with ⟨hk,hm⟩ | ⟨hk,c,hc,hcell⟩
  · exact wpAny_Name (wpAny_loadName_local I.ok.kind hk hn hm fin) hd
  · rcases hk with hk | hk
    · exact wpAny_Name (wpAny_loadName_cell I.ok.kind hk hc hcell fin) hd
    · exact wpAny_Name (wpAny_loadName_free I.ok.kind hk hc hcell fin hcd) hd
theorem za5 {i j pos}:PE X (.Constant (.int i) j pos) (tC (.int i)):=fun _ _ _ H _ I h=>wpAny_Constant_int ⟨.int i,H,I.tok _,⟨_,rfl⟩,h⟩
theorem zcj {b j pos}:PE X (.Constant (.bool b) j pos) (tC (.bl b)):=fun _ _ _ H _ I h=>Constant_bool ⟨.bl b,H,I,rfl,h⟩
theorem za6 {j pos}:PE X (.Constant .none j pos) (tC .non):=fun _ _ _ H _ I h=>Constant_none ⟨.non,H,I,rfl,h⟩
theorem za7 {x j pos}:PE X (.Constant (.str x) j pos) (tC (.str x)):=fun _ _ _ H _ I h=>Calls.Constant_str ⟨.str x,H,I.tok _,⟨_,rfl⟩,h⟩
def Gl (X:Cx) (x:Str):Prop:=X.env.kindOf x=some .globalImplicit
theorem xv {E:Value->Shared->Prop} {pins:List (Addr × Obj)} {s:Shared} {σ:St} {H:Hp} {x:Str} {u:Value} {pos:Pos} {Q:Value->Shared->Prop} (I:Inv X pins σ H s) (hg:Gl X x) (hm:X.mg x=some u) (h:Q u s)
    (hd:(x == ("__debug__":Str))=false:=by decide):wpAny (model X.prog X.w) X.A (eval (.Name x pos) X.env) Q E s :=
  Calls.Name_function_global I.ok.kind hg (Calls.loadGlobal_global (by rw [I.ok.glob]; exact I.mod.glob.keeps I.bk) hm h) hd
theorem wm {E:Value->Shared->Prop} {pins:List (Addr × Obj)} {s:Shared} {σ:St} {H:Hp} {x:Str} {u:Value} {pos:Pos} {Q:Value->Shared->Prop} (I:Inv X pins σ H s) (hg:Gl X x) (hm:X.mg x=none) (hv:bootBuiltins x=some u) (h:Q u s)
    (hn:x≠"__name__":=by decide) (hd:(x == ("__debug__":Str))=false:=by decide):wpAny (model X.prog X.w) X.A (eval (.Name x pos) X.env) Q E s:=by
  obtain ⟨mb,h1,h2⟩:=I.mod.blt
  exact Calls.Name_function_global I.ok.kind hg (Calls.loadGlobal_builtin (by rw [I.ok.glob]; exact I.mod.glob.keeps I.bk) hm (by rw [I.ok.blt]; exact h1.keeps I.bk) ((h2 x hn).trans hv) h) hd
theorem JZ {x:Str} {v:V} {u:Value} {pos:Pos} (hg:Gl X x) (hm:X.mg x=some u) (r:RelV v u) (hd:(x == ("__debug__":Str))=false:=by decide):PE X (.Name x pos) (tC v) :=
  fun _ _ _ H _ I h=>xv I hg hm ⟨v,H,I,r,h⟩ hd
theorem J0 {x:Str} {v:V} {u:Value} {pos:Pos} (hg:Gl X x) (hm:X.mg x=none) (hv:bootBuiltins x=some u) (r:RelV v u) (hn:x≠"__name__":=by decide) (hd:(x == ("__debug__":Str))=false:=by decide):PE X (.Name x pos) (tC v) :=
  fun _ _ _ H _ I h=>wm I hg hm hv ⟨v,H,I,r,h⟩ hn hd
variable {a b:Expr} {ta tb:TE} {pos:Pos}
def PC (X:Cx) (op:CmpOp) (a b:Expr) (t:TE):Prop :=
  ∀ (pins:List (Addr × Obj)) (s:Shared) (σ:St) (H:Hp) (Q:VK),Inv X pins σ H s->t σ H Q ->
    wpAny (model X.prog X.w) X.A (eval a X.env) (fun v s₁=>wpAny (model X.prog X.w) X.A (eval b X.env) (fun u s₂=>wpAny (model X.prog X.w) X.A (compareOp op v u) (EP X pins σ Q) X.xe s₂) X.xe s₁) X.xe s
theorem ZT (b:Expr) {op:CmpOp} (h:op≠.In) (h2:op≠.NotIn):behindInMarks op b=false:=by
  have e1:(op == CmpOp.In)=false:=by cases op <;> first | rfl | exact absurd rfl h
  have e2:(op == CmpOp.NotIn)=false:=by cases op <;> first | rfl | exact absurd rfl h2
  cases b <;> simp [behindInMarks,e1,e2]
def tIsN (ta:TE):TE:=fun σ H Q=>ta σ H fun x H1=>Q (.bl (decide (x=.non))) H1
def zaC (ta:TE):TE:=fun σ H Q=>ta σ H fun x H1=>Q (.bl (!decide (x=.non))) H1
theorem RelV.none_iff {x:V} {v:Value} (r:RelV x v):(v == Value.none)=decide (x=.non):=by
  cases x with
  | non=>cases r; rfl
  | bl _=>cases r; rfl
  | int _=>obtain ⟨t,rfl⟩:=r; rfl
  | str _=>obtain ⟨t,rfl⟩:=r; rfl
  | byt _=>obtain ⟨t,rfl⟩:=r; rfl
  | flt _=>obtain ⟨t,rfl⟩:=r; rfl
  | ref _=>cases r; rfl
  | ty _=>cases r; rfl
theorem W6 {j pos'} (ha:PE X a ta):PC X .Is a (.Constant .none j pos') (tIsN ta):=by
  intro pins s σ H Q I h
  refine thn (ha pins s σ H _ I h) fun v s1 ⟨x,H1,I1,r1,q1⟩=>?_
  exact Constant_none (is_none_gen ⟨.bl _,H1,I1,by rw [r1.none_iff]; rfl,q1⟩)
theorem J2 {j pos'} (ha:PE X a ta):PC X .IsNot a (.Constant .none j pos') (zaC ta):=by
  intro pins s σ H Q I h
  refine thn (ha pins s σ H _ I h) fun v s1 ⟨x,H1,I1,r1,q1⟩=>?_
  exact Constant_none (isnot_none_gen ⟨.bl _,H1,I1,by rw [r1.none_iff]; rfl,q1⟩)
def tB (t:TE):TT:=fun σ H Q=>t σ H fun x H1=>∃ c,x=.bl c/\Q c H1
theorem za8 {op:CmpOp} {t:TE} (h:PC X op a b t) (h1:behindInMarks op b=false:=by first | exact ZT _ (by decide) (by decide) | rfl):PE X (.Compare a [op] [b] pos) t:=fun pins s σ H Q I hw=>wpAny_Compare1 (h pins s σ H Q I hw) h1
theorem W7 {op:CmpOp} {t:TE} (h:PC X op a b t) (h1:behindInMarks op b=false:=by first | exact ZT _ (by decide) (by decide) | rfl):PT X (.Compare a [op] [b] pos) (tB t):=by
  intro pins s σ H Q I hw
  refine wpAny_isTrue_Compare1 (thn (h pins s σ H _ I hw) fun v s1 h1=>thn h1 fun u s2 h2=>thn h2 fun c s3 ⟨x,H1,I1,r1,q1⟩=>?_) h1
  obtain ⟨d,rfl,q⟩:=q1
  cases r1
  exact wpAny_truthy_bool ⟨H1,I1,q⟩
theorem za9 {e:Expr} {t:TE} (h:PE X e t) (he:∀ whole,isTrue e X.env whole=(do let v <- whole; standAt e.pos; holding [v] (truthy v)):=by intro _; rfl):PT X e (tB t):=by
  intro pins s σ H Q I hw
  refine isTrue_plain (thn (h pins s σ H _ I hw) fun v s1 ⟨x,H1,I1,r1,q1⟩=>?_) (he _)
  obtain ⟨d,rfl,q⟩:=q1
  cases r1
  exact wpAny_truthy_bool ⟨H1,I1,q⟩
variable {tA tB':TT} {rest:List Expr}
def tAnd (t u:TT):TT:=fun σ H Q=>t σ H fun c H1=>if c=true then u σ H1 Q else Q false H1
def tOr (t u:TT):TT:=fun σ H Q=>t σ H fun c H1=>if c=true then Q true H1 else u σ H1 Q
def tNot (t:TT):TT:=fun σ H Q=>t σ H fun c H1=>Q (!c) H1
theorem pw_and1 (ha:PT X a tA):PW X (.BoolOp .And [a] pos) tA:=by
  intro wh pins s σ H Q I h
  refine isTrue_and (thn (ha pins s σ H Q I h) fun c s1 e=>?_)
  cases c with
  | true=>exact isTrue_and_nil e
  | false=>exact e
theorem pw_or1 (ha:PT X a tA):PW X (.BoolOp .Or [a] pos) tA:=by
  intro wh pins s σ H Q I h
  refine isTrue_or (thn (ha pins s σ H Q I h) fun c s1 e=>?_)
  cases c with
  | false=>exact isTrue_or_nil e
  | true=>exact e
theorem pw_and (ha:PT X a tA) (hb:PW X (.BoolOp .And (b :: rest) pos) tB'):PW X (.BoolOp .And (a :: b :: rest) pos) (tAnd tA tB'):=by
  intro wh pins s σ H Q I h
  refine isTrue_and (thn (ha pins s σ H _ I h) fun c s1 ⟨H1,I1,q1⟩=>?_)
  cases c with
  | true=>exact hb wh pins s1 σ H1 Q I1 q1
  | false=>exact ⟨H1,I1,q1⟩
theorem pw_or (ha:PT X a tA) (hb:PW X (.BoolOp .Or (b :: rest) pos) tB'):PW X (.BoolOp .Or (a :: b :: rest) pos) (tOr tA tB'):=by
  intro wh pins s σ H Q I h
  refine isTrue_or (thn (ha pins s σ H _ I h) fun c s1 ⟨H1,I1,q1⟩=>?_)
  cases c with
  | true=>exact ⟨H1,I1,q1⟩
  | false=>exact hb wh pins s1 σ H1 Q I1 q1
theorem zba (ha:PT X a tA):PT X (.UnaryOp .Not a pos) (tNot tA):=by
  intro pins s σ H Q I h
  exact isTrue_not (ha pins s σ H (fun c H1=>Q (!c) H1) I h)
def zaD (ta tb:TE):TE:=fun σ H Q=>ta σ H fun x H1=>∃ c,x=.bl c/\if c=true then tb σ H1 Q else Q (.bl false) H1
def tOrV (ta tb:TE):TE:=fun σ H Q=>ta σ H fun x H1=>∃ c,x=.bl c/\if c=true then Q (.bl true) H1 else tb σ H1 Q
def zaE (ta:TE):TE:=fun σ H Q=>ta σ H fun x H1=>∃ c,x=.bl c/\Q (.bl (!c)) H1
theorem zbb {op} {t:TE} (h:PE X a t):PE X (.BoolOp op [a] pos) t:=fun pins s σ H Q I hw=>BoolOp_one (h pins s σ H Q I hw)
theorem zbc (ha:PE X a ta) (hb:PE X (.BoolOp .And (b :: rest) pos) tb):PE X (.BoolOp .And (a :: b :: rest) pos) (zaD ta tb):=by
  intro pins s σ H Q I h
  refine BoolOp_and (thn (ha pins s σ H _ I h) fun v s1 ⟨x,H1,I1,r1,q1⟩=>?_)
  obtain ⟨c,rfl,q1⟩:=q1
  cases r1
  refine wpAny_truthy_bool ?_
  cases c with
  | true=>exact hb pins s1 σ H1 Q I1 q1
  | false=>exact ⟨.bl false,H1,I1,rfl,q1⟩
theorem zck (ha:PE X a ta) (hb:PE X (.BoolOp .Or (b :: rest) pos) tb):PE X (.BoolOp .Or (a :: b :: rest) pos) (tOrV ta tb):=by
  intro pins s σ H Q I h
  refine BoolOp_or (thn (ha pins s σ H _ I h) fun v s1 ⟨x,H1,I1,r1,q1⟩=>?_)
  obtain ⟨c,rfl,q1⟩:=q1
  cases r1
  refine wpAny_truthy_bool ?_
  cases c with
  | false=>exact hb pins s1 σ H1 Q I1 q1
  | true=>exact ⟨.bl true,H1,I1,rfl,q1⟩
theorem zbd (ha:PE X a ta):PE X (.UnaryOp .Not a pos) (zaE ta):=by
  intro pins s σ H Q I h
  refine UnaryOp_ (thn (ha pins s σ H _ I h) fun v s1 ⟨x,H1,I1,r1,q1⟩=>?_)
  obtain ⟨c,rfl,q1⟩:=q1
  cases r1
  exact not_of (wpAny_truthy_bool ⟨.bl (!c),H1,I1,rfl,q1⟩)
def tIf (t:TT) (ta tb:TE):TE:=fun σ H Q=>t σ H fun c H1=>if c=true then ta σ H1 Q else tb σ H1 Q
theorem W8 {c:Expr} (hc:PT X c tA) (ha:PE X a ta) (hb:PE X b tb):PE X (.IfExp c a b pos) (tIf tA ta tb):=by
  intro pins s σ H Q I h
  refine wpAny_IfExp (thn (hc pins s σ H _ I h) fun d s1 ⟨H1,I1,q1⟩=>?_)
  cases d with
  | true=>exact ha pins s1 σ H1 Q I1 q1
  | false=>exact hb pins s1 σ H1 Q I1 q1
end
end L2
namespace L2
open PySem PySem.Spec PyProof.Rows
def SqL (K:PySem.W.Frag) (H:Hp) (a:Addr) (xs:List V):Prop :=
  Rd H a (.lst xs) \/
    ∃ (o:Obj) (its:Array Value) (n:Nat),K.lookup a=some o/\o.cls=.type "list"/\o.dict=none/\o.data=.seq its n/\its.size<=sizeLine/\Vals xs its.toList
def SqT (K:PySem.W.Frag) (H:Hp) (a:Addr) (xs:List V):Prop :=
  Rd H a (.tup xs) \/
    ∃ (o:Obj) (its:Array Value) (n:Nat),K.lookup a=some o/\o.cls=.type "tuple"/\o.data=.seq its n/\its.size<=sizeLine/\Vals xs its.toList
def absV:Value->Option V
  | .none=>some .non
  | .bool b=>some (.bl b)
  | .int i _=>some (.int i)
  | .str x _=>some (.str x)
  | .bytes b _=>some (.byt b)
  | .float b _=>some (.flt b)
  | .ref a=>some (.ref a)
  | .type n=>some (.ty n)
  | _=>none
theorem RelV.abs {x:V} {u:Value} (r:RelV x u):absV u=some x:=by
  cases x with
  | non=>cases r; rfl
  | bl _=>cases r; rfl
  | int _=>obtain ⟨t,rfl⟩:=r; rfl
  | str _=>obtain ⟨t,rfl⟩:=r; rfl
  | byt _=>obtain ⟨t,rfl⟩:=r; rfl
  | flt _=>obtain ⟨t,rfl⟩:=r; rfl
  | ref _=>cases r; rfl
  | ty _=>cases r; rfl
theorem RelV.inj {x y:V} {u:Value} (r:RelV x u) (q:RelV y u):x=y:=Option.some.inj (r.abs.symm.trans q.abs)
theorem Vals.inj:∀ {xs ys:List V} {us:List Value},Vals xs us->Vals ys us->xs=ys
  | _,_,_,.nil,.nil=>rfl
  | _,_,_,.cons r t,.cons r' t'=>by rw [r.inj r',Vals.inj t t']
section
variable {X:Cx} {pins:List (Addr × Obj)} {σ:St} {H:Hp} {s:Shared} {a:Addr} {xs ys:List V}
theorem SqL.of {K:PySem.W.Frag} (h:H a=some (.lst xs)):SqL K H a xs:=.inl (.inl h)
theorem SqT.of {K:PySem.W.Frag} (h:H a=some (.tup xs)):SqT K H a xs:=.inl (.inl h)
theorem Inv.list (I:Inv X pins σ H s) (h:SqL X.K H a xs):∃ its:List Value,Vals xs its/\PlainL s.heap a its.toArray/\xs.length<=sizeLine:=by
  rcases h with h | ⟨o,its,n,hk,hc,hd,hs,hz,r⟩
  · obtain ⟨z,its,n,r,e⟩:=h.ok I.hok
    exact ⟨its,r,⟨_,n,e,rfl,rfl,rfl⟩,z⟩
  · refine ⟨its.toList,r,⟨o,n,I.kIn a o hk,hc,hd,by simpa using hs⟩,?_⟩
    have e:=r.length
    simp only [Array.length_toList] at e
    lia
theorem Inv.tuple (I:Inv X pins σ H s) (h:SqT X.K H a xs):∃ its:List Value,Vals xs its/\IsTup s.heap a its.toArray/\xs.length<=sizeLine:=by
  rcases h with h | ⟨o,its,n,hk,hc,hs,hz,r⟩
  · obtain ⟨z,its,r,p⟩:=h.ok I.hok
    exact ⟨its,r,p.is,z⟩
  · refine ⟨its.toList,r,⟨o,I.kIn a o hk,hc,n,by simpa using hs⟩,?_⟩
    have e:=r.length
    simp only [Array.length_toList] at e
    lia
theorem Inv.list_inj (I:Inv X pins σ H s) (h:SqL X.K H a xs) (h':SqL X.K H a ys):xs=ys:=by
  obtain ⟨its,r,⟨o,n,e,_,_,d⟩,_⟩:=I.list h
  obtain ⟨its',r',⟨o',n',e',_,_,d'⟩,_⟩:=I.list h'
  rw [e] at e'; cases e'
  rw [d] at d'
  injection d' with d1 _
  have:its=its':=by simpa using congrArg Array.toList d1
  subst this
  exact r.inj r'
theorem Inv.tuple_inj (I:Inv X pins σ H s) (h:SqT X.K H a xs) (h':SqT X.K H a ys):xs=ys:=by
  obtain ⟨its,r,⟨o,e,_,n,d⟩,_⟩:=I.tuple h
  obtain ⟨its',r',⟨o',e',_,n',d'⟩,_⟩:=I.tuple h'
  rw [e] at e'; cases e'
  rw [d] at d'
  injection d' with d1 _
  have:its=its':=by simpa using congrArg Array.toList d1
  subst this
  exact r.inj r'
end
abbrev Cx.wish (X:Cx) (E:Value->Shared->Prop):Cx:={ X with xe:=E }
abbrev Cx.nox (X:Cx):Cx:=X.wish fun _ _=>False
theorem Cx.Ok.wish {X:Cx} (ok:X.Ok) (E:Value->Shared->Prop):(X.wish E).Ok :=
  ⟨ok.mod,ok.kind,ok.glob,ok.blt,ok.above,ok.inj,ok.has,ok.cab,ok.hd,ok.frames,ok.stk,ok.exf,ok.bs,ok.bsz,ok.noex,ok.exfs,ok.funs,ok.frf⟩
theorem Cx.Ok.unwish {X:Cx} {E:Value->Shared->Prop} (ok:(X.wish E).Ok):X.Ok :=
  ⟨ok.mod,ok.kind,ok.glob,ok.blt,ok.above,ok.inj,ok.has,ok.cab,ok.hd,ok.frames,ok.stk,ok.exf,ok.bs,ok.bsz,ok.noex,ok.exfs,ok.funs,ok.frf⟩
section
variable {X:Cx} {pins:List (Addr × Obj)} {σ:St} {H:Hp} {s:Shared} {E:Value->Shared->Prop}
theorem Inv.wish (I:Inv X pins σ H s) (E:Value->Shared->Prop):Inv (X.wish E) pins σ H s:=⟨I.ok.wish E,I.os,I.bare,I.base,I.loc,I.cell,I.free,I.freeC,I.pin,I.hok,I.len⟩
theorem Inv.unwish (I:Inv (X.wish E) pins σ H s):Inv X pins σ H s:=⟨I.ok.unwish,I.os,I.bare,I.base,I.loc,I.cell,I.free,I.freeC,I.pin,I.hok,I.len⟩
theorem SP.unwish {D:Ends} {f:Flow} {s':Shared} (h:SP (X.wish E) pins D f s'):SP X pins D f s':=by
  cases f with
  | next=>obtain ⟨σ',H',I,q⟩:=h; exact ⟨σ',H',I.unwish,q⟩
  | brk=>obtain ⟨σ',H',I,q⟩:=h; exact ⟨σ',H',I.unwish,q⟩
  | cont=>obtain ⟨σ',H',I,q⟩:=h; exact ⟨σ',H',I.unwish,q⟩
  | ret u=>obtain ⟨v,σ',H',I,r,q⟩:=h; exact ⟨v,σ',H',I.unwish,r,q⟩
theorem PE.nox {e:Expr} {t:TE} (h:PE X.nox e t):PE X e t:=fun pins s σ H Q I hw =>
  wpAny_mono (h pins s σ H Q (I.wish _) hw) (fun _ _ ⟨v,H',I',r,q⟩=>⟨v,H',I'.unwish,r,q⟩) fun _ _ z=>False.elim z
theorem PT.nox {e:Expr} {t:TT} (h:PT X.nox e t):PT X e t:=fun pins s σ H Q I hw =>
  wpAny_mono (h pins s σ H Q (I.wish _) hw) (fun _ _ ⟨H',I',q⟩=>⟨H',I'.unwish,q⟩) fun _ _ z=>False.elim z
theorem PSs.nox {st:List Stmt} {t:TS} (h:PSs X.nox st t):PSs X st t:=fun pins s σ H D I hw =>
  wpAny_mono (h pins s σ H D (I.wish _) hw) (fun _ _ q=>q.unwish) fun _ _ z=>False.elim z
end
section
variable {X:Cx} {st:Stmt} {rest:List Stmt} {t u:TS} {e:Expr} {te:TE} {pos:Pos}
def W9:TS:=fun D σ H=>D.nx σ H
def tSeq (t u:TS):TS:=fun D σ H=>t { D with nx:=u D } σ H
theorem J6:PSs X [] W9:=fun _ _ σ H _ I h=>wpAny_execs_nil ⟨σ,H,I,h⟩
theorem Va (h1:PS X st t) (h2:PSs X rest u):PSs X (st :: rest) (tSeq t u):=by
  intro pins s σ H D I h
  refine wpAny_execs_cons (thn (h1 pins s σ H { D with nx:=u D } I h) fun f s1 q=>?_)
  cases f with
  | next =>
    obtain ⟨σ',H',I',q⟩:=q
    exact h2 pins s1 σ' H' D I' q
  | ret v=>exact q
  | brk=>exact q
  | cont=>exact q
theorem J7 (h1:PS X st t):PSs X [st] t:=by
  intro pins s σ H D I h
  refine wpAny_execs_cons (thn (h1 pins s σ H D I h) fun f s1 q=>?_)
  cases f with
  | next=>exact wpAny_execs_nil q
  | ret v=>exact q
  | brk=>exact q
  | cont=>exact q
theorem Inv.quiet {pins:List (Addr × Obj)} {σ:St} {H:Hp} {s:Shared} (I:Inv X pins σ H s):interactive X.env=false:=by simp [interactive,I.ok.kind]
def zaF (te:TE):TS:=fun D σ H=>te σ H fun _ H1=>D.nx σ H1
theorem J8 (he:PE X e te) (hs:swapsWith e none pos.line X.env=pure false:=by rfl):PS X (.Expr e pos) (zaF te):=by
  intro pins s σ H D I h
  exact wpAny_Expr_any (thn (he pins s σ H _ I h) fun v s1 ⟨x,H1,I1,r1,q1⟩=>⟨σ,H1,I1,q1⟩) I.quiet hs
def tRet (te:TE):TS:=fun D σ H=>te σ H D.rt
theorem zbe (he:PE X e te):PS X (.Return (some e) pos) (tRet te):=by
  intro pins s σ H D I h
  exact wpAny_Return_some (thn (he pins s σ H _ I h) fun v s1 ⟨x,H1,I1,r1,q1⟩=>⟨x,σ,H1,I1,r1,q1⟩)
def zaG:TS:=fun D _ H=>D.rt .non H
theorem J9:PS X (.Return none pos) zaG:=fun _ _ σ H _ I h=>wpAny_Return_none ⟨.non,σ,H,I,rfl,h⟩
def tIfS (c:TT) (t u:TS):TS:=fun D σ H=>c σ H fun b H1=>if b=true then t D σ H1 else u D σ H1
theorem zcl {c:Expr} {a b:List Stmt} {tc:TT} (hc:PT X c tc) (ha:PSs X a t) (hb:PSs X b u):PS X (.If c a b pos) (tIfS tc t u):=by
  intro pins s σ H D I h
  refine wpAny_If (thn (hc pins s σ H _ I h) fun d s1 ⟨H1,I1,q1⟩=>?_)
  cases d with
  | true=>exact ha pins s1 σ H1 D I1 q1
  | false=>exact hb pins s1 σ H1 D I1 q1
end
abbrev TG:=V->St->Hp->(St->Hp->Prop)->Prop
abbrev TGs:=List V->St->Hp->(St->Hp->Prop)->Prop
def PG (X:Cx) (target:Expr) (t:TG):Prop :=
  ∀ (pins:List (Addr × Obj)) (s:Shared) (σ:St) (H:Hp) (v:V) (u:Value) (Q:St->Hp->Prop),Inv X pins σ H s->RelV v u->t v σ H Q ->
    wpAny (model X.prog X.w) X.A (assign target X.env u) (fun _ s'=>∃ σ' H',Inv X pins σ' H' s'/\Q σ' H') X.xe s
def PGs (X:Cx) (ts:List Expr) (t:TGs):Prop :=
  ∀ (pins:List (Addr × Obj)) (s:Shared) (σ:St) (H:Hp) (vs:List V) (us:List Value) (Q:St->Hp->Prop),Inv X pins σ H s->Vals vs us->t vs σ H Q ->
    wpAny (model X.prog X.w) X.A (assignInOrder ((assignEach ts X.env).map (·.2)) us) (fun _ s'=>∃ σ' H',Inv X pins σ' H' s'/\Q σ' H') X.xe s
section
variable {X:Cx} {pos:Pos}
def Xv (i:Nat):TG:=fun v σ H Q=>Q (σ.set i (some v)) H
theorem Qa {i:Nat} {x:Str} (hN:X.N.Nodup) (hi:X.N[i]?=some x) (hx:Loc X.env.scope x) (hf:X.fn x=true\/X.env.scope.names.lookup x=some .local:=by first | exact .inl rfl | exact .inr rfl | assumption):PG X (.Name x pos) (Xv i):=by
  intro pins s σ H v u Q I r h
  exact wpAny_assign_Name (xk I hN hi hx r (fun s' I'=>⟨_,H,I',h⟩) hf)
def gNil:TGs:=fun vs σ H Q=>vs=[]/\Q σ H
def zaH (t:TG) (u:TGs):TGs:=fun vs σ H Q=>∃ v r,vs=v :: r/\t v σ H fun σ' H'=>u r σ' H' Q
theorem Qb:PGs X [] gNil:=by
  intro pins s σ H vs us Q I r h
  obtain ⟨e,h⟩:=h
  subst e
  cases r
  exact assignInOrder_nil ⟨σ,H,I,h⟩
theorem Vb {e:Expr} {es:List Expr} {t:TG} {u:TGs} (h1:PG X e t) (h2:PGs X es u)
    (hs:(assignEach (e :: es) X.env).map (·.2)=assign e X.env :: (assignEach es X.env).map (·.2):=by rfl):PGs X (e :: es) (zaH t u):=by
  intro pins s σ H vs us Q I r h
  obtain ⟨v,vr,e1,h⟩:=h
  subst e1
  cases r with
  | cons r rr =>
    rw [hs]
    refine assignInOrder_cons (thn (h1 pins s σ H _ _ _ I r h) fun _ s1 ⟨σ1,H1,I1,q1⟩=>?_)
    exact h2 pins s1 σ1 H1 _ _ Q I1 rr q1
def gTup (K:PySem.W.Frag) (n:Nat) (t:TGs):TG:=fun v σ H Q=>∃ a xs,v=.ref a/\SqT K H a xs/\xs.length=n/\t xs σ H Q
theorem zbf {es:List Expr} {k:Nat} {t:TGs} {n:Nat} (hc:X.calm=true) (h:PGs X es t)
    (hn:(assignEach es X.env).length=n:=by rfl) (hst:(assignEach es X.env).findIdx? (·.1)=none:=by rfl):PG X (.Tuple es k pos) (gTup X.K n t):=by
  intro pins s σ H v u Q I r hw
  obtain ⟨a,xs,e1,hq,hl,hw⟩:=hw
  subst e1
  cases r
  obtain ⟨its,rv,ht,hz⟩:=I.tuple hq
  refine assign_Tuple_tuple (I.ok.hd hc) ht (by simp [hn,<- hl,rv.length]) hst fun h' hx=>?_
  have I1:Inv X pins σ H { s with heap:=h' }:=I.kept (t':=s.toks) fun b o e=>hx b o (Nat.ne_of_lt (Heap.lt_size e)) e
  exact h pins _ σ H xs _ Q I1 (by simpa using rv) hw
def tAsg (te:TE) (g:TG):TS:=fun D σ H=>te σ H fun x H1=>g x σ H1 D.nx
theorem zbg {tg e:Expr} {te:TE} {g:TG} (he:PE X e te) (hg:PG X tg g) (hs:swapsWithSole [tg] e pos.line X.env=pure false:=by rfl) (hw:swappedStores [tg] e X.env=pure none:=by rfl)
    (h1:(assignEach [tg] X.env).map (·.2)=[assign tg X.env]:=by rfl):PS X (.Assign [tg] e pos) (tAsg te g):=by
  intro pins s σ H D I h
  refine wpAny_Assign_stores (thn (he pins s σ H _ I h) fun v s1 ⟨x,H1,I1,r1,q1⟩=>?_) hs hw
  rw [h1]
  exact thn (hg pins s1 σ H1 x v _ I1 r1 q1) fun _ s2 q=>q
theorem zbh {i:Nat} {x:Str} {e:Expr} {te:TE} {pos':Pos} (hN:X.N.Nodup) (hi:X.N[i]?=some x) (hx:Loc X.env.scope x) (he:PE X e te) (hs:swapsWith e (some (.Name x pos')) pos.line X.env=pure false:=by rfl) (hf:X.fn x=true\/X.env.scope.names.lookup x=some .local:=by first | exact .inl rfl | exact .inr rfl | assumption) :
    PS X (.Assign [.Name x pos'] e pos) (tAsg te (Xv i)):=by
  intro pins s σ H D I h
  refine wpAny_Assign_Name (thn (he pins s σ H _ I h) fun v s1 ⟨y,H1,I1,r1,q1⟩=>?_) hs
  exact xk I1 hN hi hx r1 (fun s2 I2=>⟨_,H1,I2,q1⟩) hf
def tPar (i j:Nat) (ta:TA):TS:=fun D σ H=>ta σ H fun vs H1=>∃ v w,vs=[v,w]/\D.nx ((σ.set i (some v)).set j (some w)) H1
theorem zbi {i j:Nat} {x y:Str} {a b:Expr} {ta:TA} {px py pt:Pos} {kt k2 pt2} (hc:X.calm=true) (hN:X.N.Nodup) (hi:X.N[i]?=some x) (hj:X.N[j]?=some y) (hij:i≠j)
    (hx:X.env.scope.names.lookup x=some .local) (hy:X.env.scope.names.lookup y=some .local) (ha:PA X [a,b] ta)
    (hw:swappedStores [.Tuple [.Name x px,.Name y py] kt pt] (.Tuple [a,b] k2 pt2) X.env=pure (some [x,y]))
    (hs:swapsWithSole [.Tuple [.Name x px,.Name y py] kt pt] (.Tuple [a,b] k2 pt2) pos.line X.env=pure false:=by rfl) :
    PS X (.Assign [.Tuple [.Name x px,.Name y py] kt pt] (.Tuple [a,b] k2 pt2) pos) (tPar i j ta):=by
  intro pins s σ H D I h
  rw [exec_Assign_arm]
  refine wpAny_bind (wpAny_standAt ?_)
  rw [hs]
  refine wpAny_bind (wpAny_pure ?_)
  rw [if_neg (by decide)]
  refine wpAny_bind (Tuple_ (thn (ha _ pins s σ H _ I h) fun us s1 ⟨vs,H1,I1,r1,q1⟩=>?_))
  obtain ⟨v,w,e1,q1⟩:=q1
  subst e1
  obtain ⟨u1,u2,rfl,rv,rw'⟩:∃ u1 u2,us=[u1,u2]/\RelV v u1/\RelV w u2:=by
    cases r1 with
    | cons p q =>
      cases q with
      | cons p' q' =>
        cases q'
        exact ⟨_,_,rfl,p,p'⟩
  refine wpAny_newObj_type ?_ (by show 2<=sizeLine; decide)
  have I2:Inv X pins σ H1 { s1 with heap:=s1.heap.push { cls:=.type "tuple",data:=.seq [u1,u2].toArray } }:=I1.kept (t':=s1.toks) fun b o e=>Heap.get?_push_of_some _ e
  rw [hw]
  refine wpAny_bind (wpAny_pure ?_)
  show wpAny (model X.prog X.w) X.A (do rule "assign.swapped-stores"; let items <- unpackItems (.ref s1.heap.objs.size) 2 none; assignInOrder [fun v=>bindName X.env y v,fun v=>bindName X.env x v] items.reverse; pure Flow.next) _ _ _
  refine wpAny_bind (wpAny_rule (wpAny_bind (unpackItems_tuple (items:=#[u1,u2]) (I.ok.hd hc) (IsTup.new s1.heap _) fun h' hx'=>?_)))
  have I3:=I2.kept (h':=h') (t':=s1.toks) fun b o e=>hx' b o (Nat.ne_of_lt (Heap.lt_size e)) e
  show wpAny _ _ (assignInOrder [fun v=>bindName X.env y v,fun v=>bindName X.env x v] [u2,u1] >>= fun _=>pure Flow.next) _ _ _
  refine wpAny_bind (assignInOrder_cons (wpAny_bindName (xk I3 hN hj (.inl hy) rw' (fun s2 I4=>?_) (.inr hy))))
  refine assignInOrder_cons (wpAny_bindName (xk I4 hN hi (.inl hx) rv (fun s3 I5=>assignInOrder_nil (wpAny_pure ?_)) (.inr hx)))
  rw [List.set_comm _ _ (Ne.symm hij)] at I5
  exact ⟨_,H1,I5,q1⟩
end
section
variable {X:Cx} {pos:Pos}
def Vc (c:TT) (tb:TS):TS:=fun D σ H=>∃ W:Nat->St->Hp->Prop,(∃ m,W m σ H)/\∀ m σ H,W m σ H ->
  c σ H fun b H1=>if b=true then ∃ N:St->Hp->Prop,(∀ σ' H',N σ' H'->∃ m',m' < m/\W m' σ' H')/\tb { D with nx:=N,ct:=N,bk:=D.nx } σ H1 else D.nx σ H1
theorem Vd {c:Expr} {body:List Stmt} {tc:TT} {tb:TS} (hp:PassesOwn (model X.prog X.w) X.A X.env X.xe) (hc:PT X c tc) (hb:PSs X body tb):PS X (.While c body [] pos) (Vc tc tb):=by
  intro pins s σ H D I h
  obtain ⟨W,⟨m0,w0⟩,turn⟩:=h
  refine wpAny_While (codeAny_whileLoop (fun n s'=>∃ σ' H',Inv X pins σ' H' s'/\W n σ' H') ?_ m0 ⟨σ,H,I,w0⟩)
  rintro n s1 ⟨σ1,H1,I1,w1⟩
  refine wpAny_passesOwn hp (thn (hc pins s1 σ1 H1 _ I1 (turn n σ1 H1 w1)) fun b s2 ⟨H2,I2,q2⟩=>?_)
  cases b with
  | true =>
    obtain ⟨N,hN,q2⟩:=q2
    rw [if_pos rfl]
    refine wpAny_passesOwn hp (thn (hb pins s2 σ1 H2 _ I2 q2) fun f s3 q3=>?_)
    cases f with
    | next =>
      obtain ⟨σ3,H3,I3,n3⟩:=q3
      obtain ⟨m',hm,w3⟩:=hN σ3 H3 n3
      exact ⟨m',hm,σ3,H3,I3,w3⟩
    | cont =>
      obtain ⟨σ3,H3,I3,n3⟩:=q3
      obtain ⟨m',hm,w3⟩:=hN σ3 H3 n3
      exact ⟨m',hm,σ3,H3,I3,w3⟩
    | brk=>exact q3
    | ret v=>exact q3
  | false =>
    rw [if_neg Bool.false_ne_true]
    exact wpAny_execs_nil ⟨σ1,H2,I2,q2⟩
end
structure It where
  go:Nat->Hp->Prop
  yld:Nat->Hp->V->Hp->Prop
  stop:Nat->Hp->Prop
def FpOk (X:Cx) (pins:List (Addr × Obj)) (H:Hp) (b:Addr):Prop :=
  H b=none/\b≠X.env.locals/\b ∉ X.fs/\(b∈X.ex\/X.s₀.heap.objs.size<=b)/\(∀ x c,X.env.cells.lookup x=some c->c≠b)/\∀ p∈X.pn ++ pins,p.1≠b
theorem Inv.fpOk {X:Cx} {pins:List (Addr × Obj)} {σ:St} {H H':Hp} {s:Shared} {b:Addr} (I:Inv X pins σ H s) (hb:s.heap.objs.size<=b) (hn:H' b=none):FpOk X pins H' b:=by
  refine ⟨hn,Nat.ne_of_gt (Nat.lt_of_lt_of_le I.lt hb),I.nofs hb,.inr (Nat.le_trans I.sz hb),fun x c e z=>?_,fun p hp z=>?_⟩
  · obtain ⟨v,q⟩:=I.cell x c e
    exact absurd (Nat.lt_of_lt_of_le q.lt (by rw [z]; exact hb)) (Nat.lt_irrefl _)
  · exact absurd (Nat.lt_of_lt_of_le (Heap.lt_size (I.pin p hp).1) (by rw [z]; exact hb)) (Nat.lt_irrefl _)
structure Turn (P:Program) (w:World) (K:PySem.W.Frag) (tg:Expr) (J:It) (fp:List Addr) (it:Addr) (tn:Nat->Heap->Prop):Prop where
  mem:it∈fp
  obj:∀ i h,tn i h->∀ b∈fp,∃ o,h.get? b=some o/\∀ v,o.data≠.cell v
  keep:∀ i h h',tn i h->(∀ b∈fp,∀ o,h.get? b=some o->h'.get? b=some o)->tn i h'
  item:∀ (X:Cx),X.prog=P->X.w=w->X.K=K->X.calm=true->∀ (i:Nat) (pins:List (Addr × Obj)) (s:Shared) (σ:St) (H:Hp) (E:Value->Shared->Prop),Inv X pins σ H s->(∀ b∈fp,FpOk X pins H b)->tn i s.heap->J.go i H ->
    wpAny (model P w) X.A (pyNext (.ref it)) (fun r s1=>∃ u,r=some u /\
      wpAny (model P w) X.A (letOwnedTupleGo tg (.ref it) u) (fun _ s2=>∃ x H',Inv X pins σ H' s2/\RelV x u/\J.yld i H x H'/\tn (i + 1) s2.heap/\∀ b∈fp,H' b=none) E s1) E s
  done:∀ (X:Cx),X.prog=P->X.w=w->X.K=K->X.calm=true->∀ (i:Nat) (pins:List (Addr × Obj)) (s:Shared) (σ:St) (H:Hp) (E:Value->Shared->Prop),Inv X pins σ H s->(∀ b∈fp,FpOk X pins H b)->tn i s.heap->J.stop i H ->
    wpAny (model P w) X.A (pyNext (.ref it)) (fun r s1=>r=none/\Inv X pins σ H s1) E s
  self:∀ (A:Around) (i:Nat) (s:Shared) (Q:Value->Shared->Prop) (E:Value->Shared->Prop),tn i s.heap->Q (.ref it) s->wpAny (model P w) A (pyIter (.ref it)) Q E s
abbrev TI:=St->Hp->(It->Hp->Prop)->Prop
def PIE (X:Cx) (pins:List (Addr × Obj)) (σ:St) (tg:Expr) (R:It->Hp->Prop) (itv:Value) (s2:Shared):Prop :=
  ∃ (it:Addr) (fp:List Addr) (tn:Nat->Heap->Prop) (J:It) (H':Hp),itv=.ref it/\Inv X pins σ H' s2/\Turn X.prog X.w X.K tg J fp it tn/\tn 0 s2.heap/\(∀ b∈fp,FpOk X pins H' b)/\R J H'
def PI (X:Cx) (tg iter:Expr) (wi:TI):Prop :=
  ∀ (pins:List (Addr × Obj)) (s:Shared) (σ:St) (H:Hp) (R:It->Hp->Prop),Inv X pins σ H s->wi σ H R ->
    wpAny (model X.prog X.w) X.A (eval iter X.env) (fun v s1=>wpAny (model X.prog X.w) X.A (pyIter v) (PIE X pins σ tg R) X.xe s1) X.xe s
theorem jF {M:Model} {A:Around} {E:Value->Shared->Prop} {s:Shared} {tg:Expr} {it:Addr} {u:Value} {o:Obj} {n:String} {vs:Array Value} {Q:Unit->Shared->Prop} (ho:s.heap.get? it=some o) (hc:o.cls=.type n) (hd:o.data=.fields vs)
    (hn:["enumerate","zip","dict_itemiterator","dict_reverseitemiterator","odict_iterator","itertools.zip_longest","itertools.pairwise"].contains n=false) (hQ:Q () s):wpAny M A (letOwnedTupleGo tg (.ref it) u) Q E s:=by
  unfold letOwnedTupleGo
  cases tg <;> first
    | exact wpAny_pure hQ
    | (cases u <;> first
        | exact wpAny_pure hQ
        | (refine wpAny_bind (wpAny_load ho ?_)
           rw [hc,hd]
           show wpAny M A (if (["enumerate","zip","dict_itemiterator","dict_reverseitemiterator","odict_iterator","itertools.zip_longest","itertools.pairwise"].contains n && vs[0]? == some (rawInt _))=true then _ else _) Q E s
           rw [if_neg (by intro h; rw [hn,Bool.false_and] at h; cases h)]
           exact wpAny_pure hQ))
def Itl (K:PySem.W.Frag) (a:Addr):It :=
  ⟨fun i H=>∃ xs x,SqL K H a xs/\xs[i]?=some x,fun i H x H'=>H'=H/\∀ xs,SqL K H a xs->xs[i]?=some x,fun i H=>∃ xs,SqL K H a xs/\xs.length<=i⟩
def Itt (K:PySem.W.Frag) (a:Addr):It :=
  ⟨fun i H=>∃ xs x,SqT K H a xs/\xs[i]?=some x,fun i H x H'=>H'=H/\∀ xs,SqT K H a xs->xs[i]?=some x,fun i H=>∃ xs,SqT K H a xs/\xs.length<=i⟩
def Itr (lo:Int) (n:Nat):It:=⟨fun i _=>i < n,fun i H x H'=>H'=H/\x=.int (lo + i),fun i _=>n<=i⟩
theorem Wp {P:Program} {w:World} {K:PySem.W.Frag} {tg:Expr} (a it:Addr):Turn P w K tg (Itl K a) [it] it (fun i h=>h.IsListIter it a i) where
  mem:=by simp
  obj:=fun i h st b hb=>by
    have e:b=it:=by simpa using hb
    subst e
    obtain ⟨o,e,c,d⟩:=st
    exact ⟨o,e,fun v z=>by rw [d] at z; cases z⟩
  keep:=fun i h h' st k=>st.at fun o e=>k it (by simp) o e
  item:=by
    intro X hP hw hK hc i pins s σ H E I hf st hg
    subst hP hw hK
    obtain ⟨xs,x,hq,hx⟩:=hg
    obtain ⟨its,rv,p,hz⟩:=I.list hq
    obtain ⟨u,hu,ru⟩:=rv.get hx
    obtain ⟨f0,f1,f2,f3,f4,f5⟩:=hf it (by simp)
    refine wpAny_pyNext_list_item st p.isList (x:=u) (by simpa using hu) fun h' st' sb=>?_
    have I1:Inv X pins σ H { s with heap:=h' }:=I.turned (t':=s.toks) (fun b o hb e=>(sb.2 b hb).trans e) f0 f1 f3 f4 f5
    obtain ⟨o,e,c,d⟩:=id st'
    exact ⟨u,rfl,jF (s:={ s with heap:=h' }) e c d (by decide) ⟨x,H,I1,ru,⟨rfl,fun ys hy=>by rw [I.list_inj hy hq]; exact hx⟩,st',fun b hb=>(hf b hb).1⟩⟩
  done:=by
    intro X hP hw hK hc i pins s σ H E I hf st hg
    subst hP hw hK
    obtain ⟨xs,hq,hx⟩:=hg
    obtain ⟨its,rv,p,hz⟩:=I.list hq
    obtain ⟨f0,f1,f2,f3,f4,f5⟩:=hf it (by simp)
    have hl:=rv.length
    exact wpAny_pyNext_list_end (I.ok.hd hc) st p.isList (by simp; lia) fun h' eb=>⟨rfl,I.turned (t':=s.toks) (fun b o hb e=>eb b o hb e) f0 f1 f3 f4 f5⟩
  self:=fun _ _ _ _ _ st h=>wpAny_pyIter_listiter st h
theorem YA {P:Program} {w:World} {K:PySem.W.Frag} {tg:Expr} (a it:Addr):Turn P w K tg (Itt K a) [it] it (fun i h=>h.IsTupleIter it a i) where
  mem:=by simp
  obj:=fun i h st b hb=>by
    have e:b=it:=by simpa using hb
    subst e
    obtain ⟨o,e,c,d⟩:=st
    exact ⟨o,e,fun v z=>by rw [d] at z; cases z⟩
  keep:=fun i h h' st k=>st.at fun o e=>k it (by simp) o e
  item:=by
    intro X hP hw hK hc i pins s σ H E I hf st hg
    subst hP hw hK
    obtain ⟨xs,x,hq,hx⟩:=hg
    obtain ⟨its,rv,p,hz⟩:=I.tuple hq
    obtain ⟨u,hu,ru⟩:=rv.get hx
    obtain ⟨f0,f1,f2,f3,f4,f5⟩:=hf it (by simp)
    refine wpAny_pyNext_tuple_item st (show s.heap.IsTuple a its.toArray from p) (x:=u) (by simpa using hu) fun h' st' sb=>?_
    have I1:Inv X pins σ H { s with heap:=h' }:=I.turned (t':=s.toks) (fun b o hb e=>(sb.2 b hb).trans e) f0 f1 f3 f4 f5
    obtain ⟨o,e,c,d⟩:=id st'
    exact ⟨u,rfl,jF (s:={ s with heap:=h' }) e c d (by decide) ⟨x,H,I1,ru,⟨rfl,fun ys hy=>by rw [I.tuple_inj hy hq]; exact hx⟩,st',fun b hb=>(hf b hb).1⟩⟩
  done:=by
    intro X hP hw hK hc i pins s σ H E I hf st hg
    subst hP hw hK
    obtain ⟨xs,hq,hx⟩:=hg
    obtain ⟨its,rv,p,hz⟩:=I.tuple hq
    obtain ⟨f0,f1,f2,f3,f4,f5⟩:=hf it (by simp)
    have hl:=rv.length
    exact wpAny_pyNext_tuple_end (I.ok.hd hc) st (show s.heap.IsTuple a its.toArray from p) (by simp; lia) fun h' eb=>⟨rfl,I.turned (t':=s.toks) (fun b o hb e=>eb b o hb e) f0 f1 f3 f4 f5⟩
  self:=fun _ _ _ _ _ st h=>wpAny_pyIter_tupleiter st h
theorem YB {P:Program} {w:World} {K:PySem.W.Frag} {tg:Expr} (it:Addr) (lo:Int) (n:Nat):Turn P w K tg (Itr lo n) [it] it (fun i h=>IsRangeIter h it (lo + (i:Nat) * 1) ((n:Int) - (i:Nat)) 1) where
  mem:=by simp
  obj:=fun i h st b hb=>by
    have e:b=it:=by simpa using hb
    subst e
    exact ⟨_,st,fun v z=>by
      have z':Data.fields _=Data.cell v:=z
      cases z'⟩
  keep:=fun i h h' st k=>k it (by simp) _ st
  item:=by
    intro X hP hw hK hc i pins s σ H E I hf st hg
    subst hP hw hK
    obtain ⟨f0,f1,f2,f3,f4,f5⟩:=hf it (by simp)
    have W:=Walks.range (prog:=X.prog) (w:=X.w) (I.ok.hd hc) it lo 1 n
    refine W.item i s _ _ hg st fun v h' tk hv st' kk=>?_
    obtain ⟨t,rfl⟩:=hv
    have I1:Inv X pins σ H { s with heap:=h',toks:=tk }:=I.turned (fun b o hb e=>kk b o (by simpa using hb) e) f0 f1 f3 f4 f5
    refine ⟨_,rfl,jF (s:={ s with heap:=h',toks:=tk }) (n:="range_iterator") st' rfl rfl (by decide) ⟨.int (lo + i),H,I1,⟨t,?_⟩,⟨rfl,rfl⟩,st',fun b hb=>(hf b hb).1⟩⟩
    rw [Int.mul_one]
  done:=by
    intro X hP hw hK hc i pins s σ H E I hf st hg
    subst hP hw hK
    obtain ⟨f0,f1,f2,f3,f4,f5⟩:=hf it (by simp)
    exact wpAny_pyNext_range_end (I.ok.hd hc) st (by have:n<=i:=hg; lia) fun h' eb=>⟨rfl,I.turned (t':=s.toks) (fun b o hb e=>eb b o hb e) f0 f1 f3 f4 f5⟩
  self:=fun _ _ _ _ _ st h=>wpAny_pyIter_rangeiter st h
end L2
namespace L2
open PySem PySem.Spec PyProof.Rows
section
variable {X:Cx} {tg:Expr}
def zaI (K:PySem.W.Frag) (tl:TE):TI:=fun σ H R=>tl σ H fun x H1=>∃ a,x=.ref a/\(∃ xs,SqL K H1 a xs)/\R (Itl K a) H1
def iTup (K:PySem.W.Frag) (tl:TE):TI:=fun σ H R=>tl σ H fun x H1=>∃ a,x=.ref a/\(∃ xs,SqT K H1 a xs)/\R (Itt K a) H1
theorem Qc {l:Expr} {tl:TE} (hl:PE X l tl):PI X tg l (zaI X.K tl):=by
  intro pins s σ H R I h
  refine thn (hl pins s σ H _ I h) fun v s1 ⟨x,H1,I1,r1,q1⟩=>?_
  obtain ⟨a,e,⟨xs,hq⟩,q⟩:=q1
  subst e
  cases r1
  obtain ⟨its,rv,p,hz⟩:=I1.list hq
  refine wpAny_pyIter_list p.isList ?_
  refine ⟨s1.heap.objs.size,[s1.heap.objs.size],_,_,H1,rfl,I1.kept (t':=s1.toks) fun b o e=>Heap.get?_push_of_some _ e,Wp a _,⟨_,Heap.get?_push_size _ rfl,rfl,rfl⟩,fun b hb=>?_,q⟩
  have e:b=s1.heap.objs.size:=by simpa using hb
  subst e
  exact I1.fpOk (Nat.le_refl _) (I1.hok.fresh (Nat.le_refl _))
theorem zbj {l:Expr} {tl:TE} (hl:PE X l tl):PI X tg l (iTup X.K tl):=by
  intro pins s σ H R I h
  refine thn (hl pins s σ H _ I h) fun v s1 ⟨x,H1,I1,r1,q1⟩=>?_
  obtain ⟨a,e,⟨xs,hq⟩,q⟩:=q1
  subst e
  cases r1
  obtain ⟨its,rv,p,hz⟩:=I1.tuple hq
  refine wpAny_pyIter_tuple (show s1.heap.IsTuple a its.toArray from p) ?_
  refine ⟨s1.heap.objs.size,[s1.heap.objs.size],_,_,H1,rfl,I1.kept (t':=s1.toks) fun b o e=>Heap.get?_push_of_some _ e,YA a _,⟨_,Heap.get?_push_size _ rfl,rfl,rfl⟩,fun b hb=>?_,q⟩
  have e:b=s1.heap.objs.size:=by simpa using hb
  subst e
  exact I1.fpOk (Nat.le_refl _) (I1.hok.fresh (Nat.le_refl _))
theorem Ve {pins:List (Addr × Obj)} {σ:St} {H:Hp} {s:Shared} {R:It->Hp->Prop} {E:Value->Shared->Prop} {lo hi:Int} {t u v:Tok} {tk:Nat} (I:Inv X pins σ H s) (h1:-(2 ^ 62)<=lo) (h2:lo < 2 ^ 62) (h3:-(2 ^ 62)<=hi) (h4:hi < 2 ^ 62)
    (q:R (Itr lo (hi - lo).toNat) H):wpAny (model X.prog X.w) X.A (pyIter (.ref s.heap.objs.size)) (PIE X pins σ tg R) E { s with heap:=s.heap.push { cls:=.type "range",data:=.fields #[.int lo t,.int hi u,.int 1 v] },toks:=tk }:=by
  refine wpAny_pyIter_range (IsRange.new ..) (small_one h1 h2 h3 h4) ?_
  have I1:Inv X pins σ H { s with heap:=s.heap.push { cls:=.type "range",data:=.fields #[.int lo t,.int hi u,.int 1 v] },toks:=tk }:=I.kept fun b o e=>Heap.get?_push_of_some _ e
  refine ⟨(s.heap.push { cls:=.type "range",data:=.fields #[.int lo t,.int hi u,.int 1 v] }).objs.size,[(s.heap.push { cls:=.type "range",data:=.fields #[.int lo t,.int hi u,.int 1 v] }).objs.size],_,_,H,rfl,
    I1.kept (t':=tk) fun b o e=>Heap.get?_push_of_some _ e,YB _ lo (hi - lo).toNat,?_,fun b hb=>?_,q⟩
  · have e1:lo + ((0:Nat):Int) * 1=lo:=by simp
    have e2:(((hi - lo).toNat:Nat):Int) - ((0:Nat):Int)=Builtin.Range.rangeSize lo hi 1:=by rw [rangeSize_one]; split <;> lia
    show IsRangeIter _ _ (lo + ((0:Nat):Int) * 1) ((((hi - lo).toNat:Nat):Int) - ((0:Nat):Int)) 1
    rw [e1,e2]
    exact Heap.get?_push_size _ rfl
  · have e:b=(s.heap.push { cls:=.type "range",data:=.fields #[.int lo t,.int hi u,.int 1 v] }).objs.size:=by simpa using hb
    subst e
    exact I1.fpOk (Nat.le_refl _) (I1.hok.fresh (Nat.le_refl _))
def zaJ (ta:TA):TI:=fun σ H R=>ta σ H fun vs H1=>∃ j:Int,vs=[.int j]/\-(2 ^ 62)<=j/\j < 2 ^ 62/\R (Itr 0 j.toNat) H1
theorem Wq {a:Expr} {ta:TA} {p pos:Pos} (hg:Gl X "range") (hm:X.mg "range"=none) (ha:PA X [a] ta) (hs:starEach [a] X.env=[(false,eval a X.env)]:=by rfl):PI X tg (.Call (.Name "range" p) [a] [] pos) (zaJ ta):=by
  intro pins s σ H R I h
  refine Call_ (wm I hg hm boot_range (PyProof.Rows.callWith_type1 (thn (ha pos pins s σ H _ I h) fun us s1 ⟨vs,H1,I1,r1,q1⟩=>?_) hs rfl))
  obtain ⟨j,e,q1,q2,q⟩:=q1
  subst e
  cases r1 with
  | cons r rr =>
    cases rr
    obtain ⟨t,rfl⟩:=r
    exact call_range_1 (Ve I1 (by lia) (by lia) q1 q2 (by simpa using q))
def tFor (wi:TI) (g:TG) (tb:TS):TS:=fun D σ H=>wi σ H fun J H1=>∃ W:Nat->Nat->St->Hp->Prop,(∃ m,W 0 m σ H1)/\∀ i m σ H,W i m σ H ->
  (J.stop i H/\D.nx σ H)\/(J.go i H/\∃ N:St->Hp->Prop,(∀ σ' H',N σ' H'->∃ m',m' < m/\W (i + 1) m' σ' H')/\∀ x H',J.yld i H x H'->g x σ H' fun σ2 H2=>tb { D with nx:=N,ct:=N,bk:=D.nx } σ2 H2)
def vH (fp:List Addr) (h:Heap):List (Addr × Obj):=fp.filterMap fun b=>(h.get? b).map fun o=>(b,o)
theorem wn {fp:List Addr} {h:Heap} {b:Addr} {o:Obj} (hb:b∈fp) (e:h.get? b=some o):(b,o)∈vH fp h:=List.mem_filterMap.mpr ⟨b,hb,by rw [e]; rfl⟩
theorem Ws {fp:List Addr} {h:Heap} {p:Addr × Obj} (hp:p∈vH fp h):p.1∈fp/\h.get? p.1=some p.2:=by
  obtain ⟨b,hb,e⟩:=List.mem_filterMap.mp hp
  cases q:h.get? b with
  | none=>rw [q] at e; cases e
  | some o =>
    rw [q] at e
    have e':(b,o)=p:=Option.some.inj e
    subst e'
    exact ⟨hb,q⟩
theorem Inv.pinned {pins:List (Addr × Obj)} {σ:St} {H:Hp} {s:Shared} {fp:List Addr} (I:Inv X pins σ H s) (hf:∀ b∈fp,FpOk X pins H b) (ho:∀ b∈fp,∃ o,s.heap.get? b=some o/\∀ v,o.data≠.cell v):Inv X (pins ++ vH fp s.heap) σ H s :=
  I.pins_of fun p hp=>(List.mem_append.mp hp).elim (fun z=>I.pin p (List.mem_append_right _ z)) fun z=>by
    obtain ⟨hb,e⟩:=Ws z
    obtain ⟨f0,f1,f2,_⟩:=hf p.1 hb
    obtain ⟨o,e',d⟩:=ho p.1 hb
    rw [e] at e'; cases e'
    exact ⟨e,f0,f1,f2,d⟩
theorem Inv.unpinned {pins pl:List (Addr × Obj)} {σ:St} {H:Hp} {s:Shared} (I:Inv X (pins ++ pl) σ H s):Inv X pins σ H s:=I.pins_of fun p hp=>I.pin p (List.mem_append_right _ (List.mem_append_left _ hp))
theorem zbk {iter:Expr} {body:List Stmt} {wi:TI} {g:TG} {tb:TS} {pos:Pos} (hp:PassesOwn (model X.prog X.w) X.A X.env X.xe) (hc:X.calm=true) (hi:PI X tg iter wi) (hg:PG X tg g) (hb:PSs X body tb)
    (hs:∀ x,foldedSetIterable iter X.env x=pure x:=by intro _; rfl):PS X (.For tg iter body [] pos) (tFor wi g tb):=by
  intro pins s σ H D I h
  refine wpAny_For (thn (hi pins s σ H _ I h) fun v s1 h1=>thn h1 fun itv s2 h2=>?_) hs
  obtain ⟨it,fp,tn,J,H2,e,I2,T,st2,f2,W,⟨m0,w0⟩,turn⟩:=h2
  subst e
  have stat:∀ {H':Hp},(∀ b∈fp,H' b=none)->∀ b∈fp,FpOk X pins H' b:=fun hn b hb=>⟨hn b hb,(f2 b hb).2⟩
  refine codeAny_forLoop_any (fun n s'=>∃ i σ' H',Inv X pins σ' H' s'/\tn i s'.heap/\(∀ b∈fp,H' b=none)/\W i n σ' H') ?_ m0 ⟨0,σ,H2,I2,st2,fun b hb=>(f2 b hb).1,w0⟩
  rintro n s3 ⟨i,σ3,H3,I3,st3,fr3,w3⟩
  rcases turn i n σ3 H3 w3 with ⟨stop,qn⟩ | ⟨go,N,hN,step⟩
  · refine wpAny_passesOwn hp (thn (T.done X rfl rfl rfl hc i pins s3 σ3 H3 X.xe I3 (stat fr3) st3 stop) fun r s4 ⟨hr,I4⟩=>?_)
    subst hr
    exact wpAny_execs_nil ⟨σ3,H3,I4,qn⟩
  · refine wpAny_passesOwn hp (thn (T.item X rfl rfl rfl hc i pins s3 σ3 H3 X.xe I3 (stat fr3) st3 go) fun r s4 ⟨u,hr,h4⟩=>?_)
    subst hr
    refine wpAny_passesOwn hp (thn h4 fun _ s5 ⟨x,H5,I5,r5,y5,st5,fr5⟩=>?_)
    have I5':=I5.pinned (stat fr5) (T.obj _ _ st5)
    refine wpAny_passesOwn hp (thn (hg _ s5 σ3 H5 x u _ I5' r5 (step x H5 y5)) fun _ s6 ⟨σ6,H6,I6,q6⟩=>?_)
    refine wpAny_passesOwn hp (thn (hb _ s6 σ6 H6 _ I6 q6) fun f s7 q7=>?_)
    have again:∀ {σ7:St} {H7:Hp},Inv X (pins ++ vH fp s5.heap) σ7 H7 s7->N σ7 H7->∃ m,m < n/\∃ i σ' H',Inv X pins σ' H' s7/\tn i s7.heap/\(∀ b∈fp,H' b=none)/\W i m σ' H':=fun {σ7 H7} I7 n7=>by
      obtain ⟨m',hm,w7⟩:=hN σ7 H7 n7
      refine ⟨m',hm,i + 1,σ7,H7,I7.unpinned,T.keep _ _ _ st5 fun b hb o e=>(I7.pin (b,o) (List.mem_append_right _ (List.mem_append_right _ (wn hb e)))).1,fun b hb=>?_,w7⟩
      obtain ⟨o,e,d⟩:=T.obj _ _ st5 b hb
      exact (I7.pin (b,o) (List.mem_append_right _ (List.mem_append_right _ (wn hb e)))).2.1
    cases f with
    | next=>obtain ⟨σ7,H7,I7,n7⟩:=q7; exact again I7 n7
    | cont=>obtain ⟨σ7,H7,I7,n7⟩:=q7; exact again I7 n7
    | brk=>obtain ⟨σ7,H7,I7,q7⟩:=q7; exact ⟨σ7,H7,I7.unpinned,q7⟩
    | ret v=>obtain ⟨x7,σ7,H7,I7,r7,q7⟩:=q7; exact ⟨x7,σ7,H7,I7.unpinned,r7,q7⟩
end
theorem xJ {K:PySem.W.Frag} {a:Addr} {xs:List V} {g:TG} {tb:TS} {D:Ends} {σ:St} {H:Hp} (Pv:Nat->St->Hp->Prop) (h0:Pv 0 σ H) (hl:∀ i σ H,i<=xs.length->Pv i σ H->SqL K H a xs)
    (hs:∀ i x σ H,xs[i]?=some x->Pv i σ H->g x σ H fun σ2 H2=>tb { D with nx:=Pv (i + 1),ct:=Pv (i + 1),bk:=D.nx } σ2 H2) (hd:∀ σ H,Pv xs.length σ H->D.nx σ H) :
    ∃ W:Nat->Nat->St->Hp->Prop,(∃ m,W 0 m σ H)/\∀ i m σ H,W i m σ H ->
      ((Itl K a).stop i H/\D.nx σ H)\/((Itl K a).go i H/\∃ N:St->Hp->Prop,(∀ σ' H',N σ' H'->∃ m',m' < m/\W (i + 1) m' σ' H')/\∀ x H',(Itl K a).yld i H x H'->g x σ H' fun σ2 H2=>tb { D with nx:=N,ct:=N,bk:=D.nx } σ2 H2):=by
  refine ⟨fun i m σ H=>m=xs.length - i/\i<=xs.length/\Pv i σ H,⟨xs.length,by simp,Nat.zero_le _,h0⟩,?_⟩
  rintro i m σ H ⟨rfl,hi,p⟩
  have q:=hl i σ H hi p
  by_cases hlt:i < xs.length
  · refine .inr ⟨⟨xs,xs[i],q,by simp [hlt]⟩,Pv (i + 1),fun σ' H' p'=>⟨xs.length - (i + 1),by lia,rfl,hlt,p'⟩,fun x H' y=>?_⟩
    obtain ⟨e,y⟩:=y
    subst e
    exact hs i x σ _ (y xs q) p
  · have e:i=xs.length:=by lia
    subst e
    exact .inl ⟨⟨xs,q,Nat.le_refl _⟩,hd σ H p⟩
theorem Xw {K:PySem.W.Frag} {a:Addr} {xs:List V} {g:TG} {tb:TS} {D:Ends} {σ:St} {H:Hp} (Pv:Nat->St->Hp->Prop) (h0:Pv 0 σ H) (hl:∀ i σ H,i<=xs.length->Pv i σ H->SqT K H a xs)
    (hs:∀ i x σ H,xs[i]?=some x->Pv i σ H->g x σ H fun σ2 H2=>tb { D with nx:=Pv (i + 1),ct:=Pv (i + 1),bk:=D.nx } σ2 H2) (hd:∀ σ H,Pv xs.length σ H->D.nx σ H) :
    ∃ W:Nat->Nat->St->Hp->Prop,(∃ m,W 0 m σ H)/\∀ i m σ H,W i m σ H ->
      ((Itt K a).stop i H/\D.nx σ H)\/((Itt K a).go i H/\∃ N:St->Hp->Prop,(∀ σ' H',N σ' H'->∃ m',m' < m/\W (i + 1) m' σ' H')/\∀ x H',(Itt K a).yld i H x H'->g x σ H' fun σ2 H2=>tb { D with nx:=N,ct:=N,bk:=D.nx } σ2 H2):=by
  refine ⟨fun i m σ H=>m=xs.length - i/\i<=xs.length/\Pv i σ H,⟨xs.length,by simp,Nat.zero_le _,h0⟩,?_⟩
  rintro i m σ H ⟨rfl,hi,p⟩
  have q:=hl i σ H hi p
  by_cases hlt:i < xs.length
  · refine .inr ⟨⟨xs,xs[i],q,by simp [hlt]⟩,Pv (i + 1),fun σ' H' p'=>⟨xs.length - (i + 1),by lia,rfl,hlt,p'⟩,fun x H' y=>?_⟩
    obtain ⟨e,y⟩:=y
    subst e
    exact hs i x σ _ (y xs q) p
  · have e:i=xs.length:=by lia
    subst e
    exact .inl ⟨⟨xs,q,Nat.le_refl _⟩,hd σ H p⟩
theorem jH {lo:Int} {n:Nat} {g:TG} {tb:TS} {D:Ends} {σ:St} {H:Hp} (Pv:Nat->St->Hp->Prop) (h0:Pv 0 σ H)
    (hs:∀ i σ H,i < n->Pv i σ H->g (.int (lo + i)) σ H fun σ2 H2=>tb { D with nx:=Pv (i + 1),ct:=Pv (i + 1),bk:=D.nx } σ2 H2) (hd:∀ σ H,Pv n σ H->D.nx σ H) :
    ∃ W:Nat->Nat->St->Hp->Prop,(∃ m,W 0 m σ H)/\∀ i m σ H,W i m σ H ->
      ((Itr lo n).stop i H/\D.nx σ H)\/((Itr lo n).go i H/\∃ N:St->Hp->Prop,(∀ σ' H',N σ' H'->∃ m',m' < m/\W (i + 1) m' σ' H')/\∀ x H',(Itr lo n).yld i H x H'->g x σ H' fun σ2 H2=>tb { D with nx:=N,ct:=N,bk:=D.nx } σ2 H2):=by
  refine ⟨fun i m σ H=>m=n - i/\i<=n/\Pv i σ H,⟨n,by simp,Nat.zero_le _,h0⟩,?_⟩
  rintro i m σ H ⟨rfl,hi,p⟩
  by_cases hlt:i < n
  · refine .inr ⟨hlt,Pv (i + 1),fun σ' H' p'=>⟨n - (i + 1),by lia,rfl,hlt,p'⟩,fun x H' y=>?_⟩
    obtain ⟨e,y⟩:=y
    subst e y
    exact hs i σ _ hlt p
  · have e:i=n:=by lia
    subst e
    exact .inl ⟨Nat.le_refl _,hd σ H p⟩
end L2
namespace L2
open PySem PySem.Spec PyProof.Rows
abbrev R2:=V->V->Hp->VK->Prop
def OpR (X:Cx) (f:Value->Value->Sem Value) (r:R2):Prop :=
  ∀ (pins:List (Addr × Obj)) (s:Shared) (σ:St) (H:Hp) (x y:V) (v u:Value) (Q:VK),Inv X pins σ H s->RelV x v->RelV y u->r x y H Q ->
    wpAny (model X.prog X.w) X.A (f v u) (EP X pins σ Q) X.xe s
def UnR (X:Cx) (f:Value->Sem Value) (r:V->Hp->VK->Prop):Prop :=
  ∀ (pins:List (Addr × Obj)) (s:Shared) (σ:St) (H:Hp) (x:V) (v:Value) (Q:VK),Inv X pins σ H s->RelV x v->r x H Q ->
    wpAny (model X.prog X.w) X.A (f v) (EP X pins σ Q) X.xe s
def CallR (X:Cx) (f:Value) (r:List V->Hp->VK->Prop):Prop :=
  ∀ (pins:List (Addr × Obj)) (s:Shared) (σ:St) (H:Hp) (xs:List V) (us:List Value) (Q:VK),Inv X pins σ H s->Vals xs us->r xs H Q ->
    wpAny (model X.prog X.w) X.A (call f us) (EP X pins σ Q) X.xe s
def tOp (r:R2) (ta tb:TE):TE:=fun σ H Q=>ta σ H fun x H1=>tb σ H1 fun y H2=>r x y H2 Q
def tUn (r:V->Hp->VK->Prop) (ta:TE):TE:=fun σ H Q=>ta σ H fun x H1=>r x H1 Q
def rI (C:Int->Int->Prop) (g:Int->Int->V):R2:=fun x y H Q=>∃ i j,x=.int i/\y=.int j/\C i j/\Q (g i j) H
def rI0 (g:Int->Int->V):R2:=fun x y H Q=>∃ i j,x=.int i/\y=.int j/\Q (g i j) H
def rU (g:Int->V):V->Hp->VK->Prop:=fun x H Q=>∃ i,x=.int i/\Q (g i) H
section
variable {X:Cx} {a b c:Expr} {ta tb tc:TE} {pos:Pos}
theorem binT (ha:PE X a ta) (hb:PE X b tb) {pins:List (Addr × Obj)} {s:Shared} {σ:St} {H:Hp} {R:V->V->Hp->Prop} (I:Inv X pins σ H s)
    (h:ta σ H fun x H1=>tb σ H1 fun y H2=>R x y H2) {Q:Value->Shared->Prop} {f:Value->Value->Sem Value}
    (hf:∀ v u s2 x y H2,Inv X pins σ H2 s2->RelV x v->RelV y u->R x y H2->wpAny (model X.prog X.w) X.A (f v u) Q X.xe s2) :
    wpAny (model X.prog X.w) X.A (eval a X.env) (fun v s₁=>wpAny (model X.prog X.w) X.A (eval b X.env) (fun u s₂=>wpAny (model X.prog X.w) X.A (f v u) Q X.xe s₂) X.xe s₁) X.xe s:=by
  refine thn (ha pins s σ H _ I h) fun v s1 ⟨x,H1,I1,r1,q1⟩=>?_
  refine thn (hb pins s1 σ H1 _ I1 q1) fun u s2 ⟨y,H2,I2,r2,q2⟩=>?_
  exact hf v u s2 x y H2 I2 r1 r2 q2
theorem zcm {op:Operator} {r:R2} (ho:OpR X (binaryOp op) r) (ha:PE X a ta) (hb:PE X b tb):PE X (.BinOp a op b pos) (tOp r ta tb):=by
  intro pins s σ H Q I h
  exact wpAny_BinOp (binT ha hb I h fun v u s2 x y H2 I2 rx ry q=>ho pins s2 σ H2 x y v u Q I2 rx ry q)
theorem zcn {op:UnaryOp} {r:V->Hp->VK->Prop} (ho:UnR X (unaryOp op) r) (ha:PE X a ta):PE X (.UnaryOp op a pos) (tUn r ta):=by
  intro pins s σ H Q I h
  exact UnaryOp_ (thn (ha pins s σ H _ I h) fun v s1 ⟨x,H1,I1,r1,q1⟩=>ho pins s1 σ H1 x v Q I1 r1 q1)
theorem opI {f:Value->Value->Sem Value} {C:Int->Int->Prop} {g:Int->Int->Int}
    (rule:∀ (i j:Int) (t u:Tok) (s:Shared) (Q:Value->Shared->Prop) (E:Value->Shared->Prop),C i j->Q (.int (g i j) s.toks) { s with toks:=s.toks + 1 }->wpAny (model X.prog X.w) X.A (f (.int i t) (.int j u)) Q E s) :
    OpR X f (rI C fun i j=>.int (g i j)):=by
  intro pins s σ H x y v u Q I rx ry h
  obtain ⟨i,j,rfl,rfl,hc,q⟩:=h
  obtain ⟨t,rfl⟩:=rx
  obtain ⟨t',rfl⟩:=ry
  exact rule i j t t' s _ _ hc ⟨.int (g i j),H,I.tok _,⟨_,rfl⟩,q⟩
theorem opI0 {f:Value->Value->Sem Value} {g:Int->Int->Int}
    (rule:∀ (i j:Int) (t u:Tok) (s:Shared) (Q:Value->Shared->Prop) (E:Value->Shared->Prop),Q (.int (g i j) s.toks) { s with toks:=s.toks + 1 }->wpAny (model X.prog X.w) X.A (f (.int i t) (.int j u)) Q E s) :
    OpR X f (rI0 fun i j=>.int (g i j)):=by
  intro pins s σ H x y v u Q I rx ry h
  obtain ⟨i,j,rfl,rfl,q⟩:=h
  obtain ⟨t,rfl⟩:=rx
  obtain ⟨t',rfl⟩:=ry
  exact rule i j t t' s _ _ ⟨.int (g i j),H,I.tok _,⟨_,rfl⟩,q⟩
theorem opB0 {f:Value->Value->Sem Value} {g:Int->Int->Bool}
    (rule:∀ (i j:Int) (t u:Tok) (s:Shared) (Q:Value->Shared->Prop) (E:Value->Shared->Prop),Q (.bool (g i j)) s->wpAny (model X.prog X.w) X.A (f (.int i t) (.int j u)) Q E s) :
    OpR X f (rI0 fun i j=>.bl (g i j)):=by
  intro pins s σ H x y v u Q I rx ry h
  obtain ⟨i,j,rfl,rfl,q⟩:=h
  obtain ⟨t,rfl⟩:=rx
  obtain ⟨t',rfl⟩:=ry
  exact rule i j t t' s _ _ ⟨.bl (g i j),H,I,rfl,q⟩
def CDiv (i j:Int):Prop:=0 < j/\j < 1073741824
def CPow (i j:Int):Prop:=0<=j/\j<=1000000/\i.natAbs < 2 ^ 64
def CMul (i j:Int):Prop:=(-(2 ^ 64) < i/\i < 2 ^ 64)\/(-(2 ^ 64) < j/\j < 2 ^ 64)
theorem CMul.ok {i j:Int} (h:CMul i j):IntMulOk i j:=by
  rcases h with ⟨h1,h2⟩ | ⟨h1,h2⟩
  · exact .of_left (intBits_le_64 h1 h2)
  · exact .of_right (intBits_le_64 h1 h2)
theorem zbl:OpR X (binaryOp .Add) (rI0 fun i j=>.int (i + j)):=opI0 fun _ _ _ _ _ _ _ q=>add_int q
theorem zbm:OpR X (binaryOp .Sub) (rI0 fun i j=>.int (i - j)):=opI0 fun _ _ _ _ _ _ _ q=>sub_int q
theorem zbn:OpR X (binaryOp .Mult) (rI CMul fun i j=>.int (i * j)):=opI fun _ _ _ _ _ _ _ hc q=>mul_int q hc.ok
theorem Qd:OpR X (binaryOp .FloorDiv) (rI CDiv fun i j=>.int (i / j)):=opI fun i j _ _ _ _ _ hc q=>by
  have h1:(0:Int) < j:=hc.1
  have h2:j < 1073741824:=hc.2
  exact floordiv_int (by lia) (by rw [Int.fdiv_eq_ediv_of_nonneg i (by lia)]; exact q) (.inl (PyProof.noPylong_small (by lia)))
theorem zbo:OpR X (binaryOp .Mod) (rI (fun _ j=>0 < j) fun i j=>.int (i % j)):=opI fun i j _ _ _ _ _ hc q=>by
  have h1:(0:Int) < j:=hc
  exact mod_int' (by lia) (by rw [Int.fmod_eq_emod_of_nonneg i (by lia)]; exact q)
theorem zbp:OpR X (binaryOp .Pow) (rI CPow fun i j=>.int (i ^ j.toNat)):=opI fun _ _ _ _ _ _ _ hc q=>pow_int_small hc.1 hc.2.1 hc.2.2 q
theorem unI {f:Value->Sem Value} {g:Int->Int}
    (rule:∀ (i:Int) (t:Tok) (s:Shared) (Q:Value->Shared->Prop) (E:Value->Shared->Prop),Q (.int (g i) s.toks) { s with toks:=s.toks + 1 }->wpAny (model X.prog X.w) X.A (f (.int i t)) Q E s) :
    UnR X f (rU fun i=>.int (g i)):=by
  intro pins s σ H x v Q I rx h
  obtain ⟨i,rfl,q⟩:=h
  obtain ⟨t,rfl⟩:=rx
  exact rule i t s _ _ ⟨.int (g i),H,I.tok _,⟨_,rfl⟩,q⟩
theorem zbq:UnR X (unaryOp .USub) (rU fun i=>.int (-i)):=unI fun _ _ _ _ _ q=>neg_int q
end
def scal:V->V->Bool
  | .non,.non=>true | .non,.int _=>true | .int _,.non=>true | .non,.bl _=>true | .bl _,.non=>true | .non,.str _=>true | .str _,.non=>true
  | .int _,.int _=>true | .bl _,.bl _=>true | .str _,.str _=>true | .byt _,.byt _=>true
  | .int _,.str _=>true | .str _,.int _=>true | .bl _,.str _=>true | .str _,.bl _=>true
  | _,_=>false
def rEq:R2:=fun x y H Q=>scal x y=true/\Q (.bl (decide (x=y))) H
def rNe:R2:=fun x y H Q=>scal x y=true/\Q (.bl (!decide (x=y))) H
theorem Xx {i j:Int}:decide (V.int i=V.int j)=(i == j):=by
  rw [Bool.eq_iff_iff]
  simp
theorem Vf {i j:Bool}:decide (V.bl i=V.bl j)=(i == j):=by
  rw [Bool.eq_iff_iff]
  simp
theorem Xy {i j:Str}:decide (V.str i=V.str j)=(i == j):=by
  rw [Bool.eq_iff_iff]
  simp
theorem Xz {i j:Array UInt8}:decide (V.byt i=V.byt j)=(i.toList == j.toList):=by
  rw [Bool.eq_iff_iff]
  cases i
  cases j
  simp
section
variable {X:Cx} {a b c:Expr} {ta tb tc:TE} {pos:Pos}
theorem z4 {pins:List (Addr × Obj)} {σ:St} {H:Hp} {s:Shared} {Q:VK} {k k':Bool} (I:Inv X pins σ H s) (q:Q (.bl k) H) (e:k=k'):EP X pins σ Q (.bool k') s:=by
  subst e
  exact ⟨.bl k,H,I,rfl,q⟩
theorem zco:OpR X (compareOp .Eq) rEq:=by
  intro pins s σ H x y v u Q I rx ry h
  obtain ⟨hs,q⟩:=h
  cases x with
  | non =>
    cases rx
    cases y with
    | non=>cases ry; exact PySem.EqNone.eq_none_none (z4 I q (by simp))
    | bl j=>cases ry; exact PySem.EqNone.eq_none_bool (z4 I q (by simp))
    | int j=>obtain ⟨t',rfl⟩:=ry; exact PySem.EqNone.eq_none_int (z4 I q (by simp))
    | str j=>obtain ⟨t',rfl⟩:=ry; exact PySem.EqNone.eq_none_str (z4 I q (by simp))
    | _=>exact absurd (show false=true from hs) Bool.false_ne_true
  | bl i =>
    cases rx
    cases y with
    | non=>cases ry; exact PySem.EqNone.eq_bool_none (z4 I q (by simp))
    | bl j=>cases ry; exact eq_bool (z4 I q Vf)
    | str j=>obtain ⟨t',rfl⟩:=ry; exact PySem.EqMixed.eq_bool_str (z4 I q (by simp))
    | _=>exact absurd (show false=true from hs) Bool.false_ne_true
  | int i =>
    obtain ⟨t,rfl⟩:=rx
    cases y with
    | non=>cases ry; exact PySem.EqNone.eq_int_none (z4 I q (by simp))
    | int j=>obtain ⟨t',rfl⟩:=ry; exact eq_int (z4 I q Xx)
    | str j=>obtain ⟨t',rfl⟩:=ry; exact PySem.EqMixed.eq_int_str (z4 I q (by simp))
    | _=>exact absurd (show false=true from hs) Bool.false_ne_true
  | str i =>
    obtain ⟨t,rfl⟩:=rx
    cases y with
    | non=>cases ry; exact PySem.EqNone.eq_str_none (z4 I q (by simp))
    | bl j=>cases ry; exact PySem.EqMixed.eq_str_bool (z4 I q (by simp))
    | int j=>obtain ⟨t',rfl⟩:=ry; exact PySem.EqMixed.eq_str_int (z4 I q (by simp))
    | str j=>obtain ⟨t',rfl⟩:=ry; exact eq_str (z4 I q Xy)
    | _=>exact absurd (show false=true from hs) Bool.false_ne_true
  | byt i =>
    obtain ⟨t,rfl⟩:=rx
    cases y with
    | byt j=>obtain ⟨t',rfl⟩:=ry; exact PySem.W.eq_bytes (z4 I q Xz)
    | _=>exact absurd (show false=true from hs) Bool.false_ne_true
  | _=>cases y <;> exact absurd (show false=true from hs) Bool.false_ne_true
theorem zcp:OpR X (compareOp .NotEq) rNe:=by
  intro pins s σ H x y v u Q I rx ry h
  obtain ⟨hs,q⟩:=h
  cases x with
  | non =>
    cases rx
    cases y with
    | non=>cases ry; exact PySem.EqNone.ne_none_none (z4 I q (by simp))
    | bl j=>cases ry; exact PySem.EqNone.ne_none_bool (z4 I q (by simp))
    | int j=>obtain ⟨t',rfl⟩:=ry; exact PySem.EqNone.ne_none_int (z4 I q (by simp))
    | str j=>obtain ⟨t',rfl⟩:=ry; exact PySem.EqNone.ne_none_str (z4 I q (by simp))
    | _=>exact absurd (show false=true from hs) Bool.false_ne_true
  | bl i =>
    cases rx
    cases y with
    | non=>cases ry; exact PySem.EqNone.ne_bool_none (z4 I q (by simp))
    | bl j=>cases ry; exact ne_bool (z4 I q (congrArg not Vf))
    | str j=>obtain ⟨t',rfl⟩:=ry; exact PySem.EqMixed.ne_bool_str (z4 I q (by simp))
    | _=>exact absurd (show false=true from hs) Bool.false_ne_true
  | int i =>
    obtain ⟨t,rfl⟩:=rx
    cases y with
    | non=>cases ry; exact PySem.EqNone.ne_int_none (z4 I q (by simp))
    | int j=>obtain ⟨t',rfl⟩:=ry; exact ne_int (z4 I q (congrArg not Xx))
    | str j=>obtain ⟨t',rfl⟩:=ry; exact PySem.EqMixed.ne_int_str (z4 I q (by simp))
    | _=>exact absurd (show false=true from hs) Bool.false_ne_true
  | str i =>
    obtain ⟨t,rfl⟩:=rx
    cases y with
    | non=>cases ry; exact PySem.EqNone.ne_str_none (z4 I q (by simp))
    | bl j=>cases ry; exact PySem.EqMixed.ne_str_bool (z4 I q (by simp))
    | int j=>obtain ⟨t',rfl⟩:=ry; exact PySem.EqMixed.ne_str_int (z4 I q (by simp))
    | str j=>obtain ⟨t',rfl⟩:=ry; exact ne_str (z4 I q (congrArg not Xy))
    | _=>exact absurd (show false=true from hs) Bool.false_ne_true
  | byt i =>
    obtain ⟨t,rfl⟩:=rx
    cases y with
    | byt j=>obtain ⟨t',rfl⟩:=ry; exact PySem.W.ne_bytes (z4 I q (congrArg not Xz))
    | _=>exact absurd (show false=true from hs) Bool.false_ne_true
  | _=>cases y <;> exact absurd (show false=true from hs) Bool.false_ne_true
theorem zcq:OpR X (compareOp .Lt) (rI0 fun i j=>.bl (decide (i < j))):=opB0 fun _ _ _ _ _ _ _ q=>lt_int q
theorem zcr:OpR X (compareOp .LtE) (rI0 fun i j=>.bl (decide (i<=j))):=opB0 fun _ _ _ _ _ _ _ q=>le_int q
theorem zcs:OpR X (compareOp .Gt) (rI0 fun i j=>.bl (decide (j < i))):=opB0 fun _ _ _ _ _ _ _ q=>gt_int q
theorem zct:OpR X (compareOp .GtE) (rI0 fun i j=>.bl (decide (j<=i))):=opB0 fun _ _ _ _ _ _ _ q=>ge_int q
theorem Wt:OpR X (compareOp .In) (fun x y H Q=>∃ i j,x=.str i/\y=.str j/\Q (.bl (!(Builtin.Str.occurrences j i 0 j.length 1).isEmpty)) H):=by
  intro pins s σ H x y v u Q I rx ry h
  obtain ⟨i,j,rfl,rfl,q⟩:=h
  obtain ⟨t,rfl⟩:=rx
  obtain ⟨t',rfl⟩:=ry
  exact in_str (z4 I q rfl)
theorem OpR.or {f:Value->Value->Sem Value} {r r':R2} (h:OpR X f r) (h':OpR X f r'):OpR X f (fun x y H Q=>r x y H Q\/r' x y H Q):=by
  intro pins s σ H x y v u Q I rx ry q
  rcases q with q | q
  · exact h pins s σ H x y v u Q I rx ry q
  · exact h' pins s σ H x y v u Q I rx ry q
theorem zw (b:Expr) {op:CmpOp} (h:op≠.In:=by decide) (h2:op≠.NotIn:=by decide):behindInMarks op b=false:=by
  have e1:(op == CmpOp.In)=false:=by cases op <;> first | rfl | exact absurd rfl h
  have e2:(op == CmpOp.NotIn)=false:=by cases op <;> first | rfl | exact absurd rfl h2
  cases b <;> simp [behindInMarks,e1,e2]
theorem Qe {op:CmpOp} {r:R2} (ho:OpR X (compareOp op) r) (ha:PE X a ta) (hb:PE X b tb) (hm:behindInMarks op b=false):PE X (.Compare a [op] [b] pos) (tOp r ta tb):=by
  intro pins s σ H Q I h
  exact wpAny_Compare1 (binT ha hb I h fun v u s2 x y H2 I2 rx ry q=>ho pins s2 σ H2 x y v u Q I2 rx ry q) hm
def XA (t:TE):TT:=fun σ H Q=>t σ H fun x H'=>∃ k,x=.bl k/\Q k H'
theorem Qf {op:CmpOp} {r:R2} (ho:OpR X (compareOp op) r) (ha:PE X a ta) (hb:PE X b tb) (hm:behindInMarks op b=false):PT X (.Compare a [op] [b] pos) (XA (tOp r ta tb)):=by
  intro pins s σ H Q I h
  refine wpAny_isTrue_Compare1 (thn (ha pins s σ H _ I h) fun v s1 ⟨x,H1,I1,r1,q1⟩=>thn (hb pins s1 σ H1 _ I1 q1) fun u s2 ⟨y,H2,I2,r2,q2⟩ =>
    thn (ho pins s2 σ H2 x y v u _ I2 r1 r2 q2) fun c s3 ⟨z,H3,I3,r3,k,e,q3⟩=>?_) hm
  subst e
  cases r3
  exact wpAny_truthy_bool ⟨H3,I3,q3⟩
def Zh (r r':R2) (ta tb tc:TE):TE:=fun σ H Q=>ta σ H fun x H1=>tb σ H1 fun y H2=>r x y H2 fun z H3=>∃ k,z=.bl k /\
  (if k=true then tc σ H3 fun w' H4=>r' y w' H4 Q else Q (.bl false) H3)
theorem Vg {op op':CmpOp} {r r':R2} (ho:OpR X (compareOp op) r) (ho':OpR X (compareOp op') r') (ha:PE X a ta) (hb:PE X b tb) (hc:PE X c tc)
    (hm:lastMarks [op,op'] [b,c]=false:=by with_unfolding_all rfl):PE X (.Compare a [op,op'] [b,c] pos) (Zh r r' ta tb tc):=by
  intro pins s σ H Q I h
  refine Compare_chain (thn (ha pins s σ H _ I h) fun v s1 ⟨x,H1,I1,r1,q1⟩=>chain_link (thn (hb pins s1 σ H1 _ I1 q1) fun u s2 ⟨y,H2,I2,r2,q2⟩ =>
    thn (ho pins s2 σ H2 x y v u _ I2 r1 r2 q2) fun d s3 ⟨z,H3,I3,r3,k,e,q3⟩=>?_)) hm
  subst e
  cases r3
  refine wpAny_truthy_bool ?_
  cases k with
  | false=>exact ite_ff ⟨.bl false,H3,I3,rfl,q3⟩
  | true=>exact ite_tt (chain_last (thn (hc pins s3 σ H3 _ I3 q3) fun w' s4 ⟨z',H4,I4,r4,q4⟩=>ho' pins s4 σ H4 y z' u w' Q I4 r2 r4 q4))
theorem Vh {op op':CmpOp} {r r':R2} (ho:OpR X (compareOp op) r) (ho':OpR X (compareOp op') r') (ha:PE X a ta) (hb:PE X b tb) (hc:PE X c tc)
    (hm:lastMarks [op,op'] [b,c]=false:=by with_unfolding_all rfl):PT X (.Compare a [op,op'] [b,c] pos) (XA (Zh r r' ta tb tc)):=by
  intro pins s σ H Q I h
  refine isTrue_chain (thn (ha pins s σ H _ I h) fun v s1 ⟨x,H1,I1,r1,q1⟩=>test_link (thn (hb pins s1 σ H1 _ I1 q1) fun u s2 ⟨y,H2,I2,r2,q2⟩ =>
    thn (ho pins s2 σ H2 x y v u _ I2 r1 r2 q2) fun d s3 ⟨z,H3,I3,r3,k,e,q3⟩=>?_)) hm
  subst e
  cases r3
  refine wpAny_truthy_bool ?_
  cases k with
  | false =>
    obtain ⟨k',e',q'⟩:=q3
    cases e'
    exact ite_ff ⟨H3,I3,q'⟩
  | true =>
    refine ite_tt (test_last (thn (hc pins s3 σ H3 _ I3 q3) fun w' s4 ⟨z',H4,I4,r4,q4⟩=>thn (ho' pins s4 σ H4 y z' u w' _ I4 r2 r4 q4) fun d' s5 ⟨z2,H5,I5,r5,k2,e2,q5⟩=>?_))
    subst e2
    cases r5
    exact wpAny_truthy_bool ⟨H5,I5,q5⟩
theorem vI:(sizeLine:Nat) < 2 ^ 63:=by rw [sizeLine_eq]; decide
theorem YC:OpR X (binaryOp .Add) (fun x y H Q=>∃ i j,x=.str i/\y=.str j/\i.length + j.length<=sizeLine/\Q (.str (i ++ j)) H):=by
  intro pins s σ H x y v u Q I rx ry h
  obtain ⟨i,j,rfl,rfl,hz,q⟩:=h
  obtain ⟨t,rfl⟩:=rx
  obtain ⟨t',rfl⟩:=ry
  exact add_str (fun t' tk=>⟨.str (i ++ j),H,I.tok _,⟨_,rfl⟩,q⟩) hz
theorem xK {x:V} {us:List Value} (r:Vals [x] us):∃ u,us=[u]/\RelV x u:=by
  cases r with
  | cons r1 r2=>cases r2; exact ⟨_,rfl,r1⟩
theorem zcu {x y:V} {us:List Value} (r:Vals [x,y] us):∃ u w',us=[u,w']/\RelV x u/\RelV y w':=by
  cases r with
  | cons r1 r2 =>
    cases r2 with
    | cons r3 r4=>cases r4; exact ⟨_,_,rfl,r1,r3⟩
theorem Wu:CallR X (.type "int") (fun xs H Q=>(∃ i,xs=[.int i]/\Q (.int i) H)\/∃ k,xs=[.bl k]/\Q (.int (if k then 1 else 0)) H):=by
  intro pins s σ H xs us Q I r h
  rcases h with ⟨i,rfl,q⟩ | ⟨k,rfl,q⟩
  · obtain ⟨u,rfl,t,rfl⟩:=xK r
    exact call_int_int ⟨.int i,H,I,⟨_,rfl⟩,q⟩
  · obtain ⟨u,rfl,r1⟩:=xK r
    cases r1
    exact call_int_bool ⟨.int (if k then 1 else 0),H,I.tok _,⟨_,rfl⟩,q⟩
theorem Zi:CallR X (.type "str") (fun xs H Q=>∃ i,xs=[.int i]/\i.natAbs.log2 < 1920/\Q (.str (toString i)) H):=by
  intro pins s σ H xs us Q I r h
  obtain ⟨i,rfl,hz,q⟩:=h
  obtain ⟨u,rfl,t,rfl⟩:=xK r
  exact PySem.P.str_of_int hz ⟨.str _,H,I.tok _,⟨_,rfl⟩,q⟩
end
end L2
namespace L2
open PySem PySem.Spec PyProof.Rows
structure ObjM (h:Heap) (x dx C:Addr) (mA:Str->Option Value):Prop where
  obj:h.get? x=some (PySem.W.instObj C dx)
  ns:h.Ns1 dx mA
  ne:dx≠x
theorem jJ {h:Heap} {dx:Addr} {mA:Str->Option Value} (n:h.Ns1 dx mA):∃ od,h.get? dx=some od/\∀ name,PySem.W.lookIn name od=some (mA name):=by
  obtain ⟨o,es,ep,ho,hd,hk,_,hm⟩:=n
  refine ⟨o,ho,fun name=>?_⟩
  have e:=hm name
  unfold nsFind findBy at e
  rw [<- Array.find?_toList] at e
  unfold PySem.W.lookIn
  rw [hd]
  dsimp only
  split
  · rename_i y q
    rw [q] at e
    exact congrArg some e
  · rename_i q
    rw [q] at e
    have a:es.toList.any (·.refKey)=false:=by
      rw [List.any_eq_false]
      intro y hy
      obtain ⟨z,t,hkey⟩:=hk y (Array.mem_toList_iff.mp hy)
      simp [DictEntry.refKey,hkey]
    have a':¬ es.toList.any (·.refKey)=true:=by rw [a]; exact Bool.false_ne_true
    rw [if_neg a']
    exact congrArg some e
theorem ObjM.look {h:Heap} {x dx C:Addr} {mA:Str->Option Value} (I:ObjM h x dx C mA):∃ od,PySem.W.InstAt h x (PySem.W.instObj C dx) C (some od)/\∀ name,PySem.W.lookIn name od=some (mA name) :=
  let ⟨od,ho,hl⟩:=jJ I.ns
  ⟨od,⟨I.obj,rfl,rfl,ho⟩,hl⟩
section
variable {prog:Program} {w:World} {A:Around} {E:Value->Shared->Prop} {s:Shared} {K:PySem.W.Frag} {x dx C f:Addr} {mA:Str->Option Value} {name:Str} {v:Value}
theorem Qg {expr:Bool} {Q:Value->Shared->Prop} (X:K.In s.heap) (I:ObjM s.heap x dx C mA) (hg:PySem.W.plainGet K C name=true) (hh:PySem.W.hasDictIn K C=true)
    (ha:PySem.W.findIn K (.ref C) name=some none) (hv:mA name=some v) (hv':PySem.W.handedIn v=true) (h:Q v { s with toks:=s.toks + 1 }) :
    wpAny (model prog w) A (getAttr (.ref x) name expr) Q E s:=by
  obtain ⟨od,J,hl⟩:=I.look
  exact PySem.W.get_value X J (PySem.W.plainGet_of hg).1 (PySem.W.findObj_own hh ha rfl (by rw [hl,hv])) hv' h
theorem Vi {pl:Sem Bool} {Q:Value × List Value->Shared->Prop} (X:K.In s.heap) (I:ObjM s.heap x dx C mA) (hg:PySem.W.plainGet K C name=true)
    (hf:PySem.W.findIn K (.ref C) name=some (some (.ref f))) (ht:PySem.W.isFn K (.ref f)=true) (hv:mA name=none) (h:Q (.ref f,[.ref x]) s) :
    wpAny (model prog w) A (getMethod (.ref x) name pl) Q E s:=by
  obtain ⟨od,J,hl⟩:=I.look
  exact PySem.W.method_fn X J (PySem.W.plainGet_of hg).1 (PySem.W.plainGet_of hg).2 hf (beq_iff_eq.mp ht) (by show (PySem.W.lookIn name od).map (·.isSome)=some false; rw [hl,hv]; rfl) h
theorem Qh {ns:List Str} {Q:Unit->Shared->Prop} (X:K.In s.heap) (I:ObjM s.heap x dx C mA)
    (hs:PySem.W.findIn K (.ref C) "__setattr__"=some (some (.builtin "object.__setattr__"))) (hp:PySem.W.plainOver K C=true) (ht:PySem.W.takerIn K C name=some none) (hh:PySem.W.hasDictIn K C=true)
    (hw:PySem.Within mA ns) (hsz:ns.length<=sizeLine)
    (h:∀ h',ObjM h' x dx C (fun y=>if y=name then some v else mA y)->Heap.SameBut dx s.heap h'->Q () { s with heap:=h',toks:=s.toks + 2 }) :
    wpAny (model prog w) A (setAttr (.ref x) name v) Q E s:=by
  obtain ⟨od,J,hl⟩:=I.look
  refine PySem.W.set_plain X J hs (PySem.W.osa_open (s:={ s with toks:=s.toks + 1 }) (r:=none) X J hp ht fun b=>?_)
  obtain ⟨cd,hc,hd'⟩:=PySem.W.any_some hh
  have hx:s.heap.get? x=some ⟨.ref C,some dx,.plain,#[]⟩:=I.obj
  refine wpAny_bind (wpAny_pure (wpAny_bind (wpAny_bind (wpAny_loadPart hx (wpAny_bind (PySem.W.Looks.here (s:={ s with toks:=s.toks + 1 }) (PySem.W.looks_clsIn X hc) ?_))))))
  rw [hd']
  refine wpAny_pure (a:=some dx) (wpAny_bind (wpAny_pure (wpAny_bind ?_)))
  refine wpAny_nsSet1 (s:={ s with toks:=s.toks + 1 }) I.ns fun h' hn2 hs2=>?_
  obtain ⟨oD,esD,epD,hoD,hdD,hcD⟩:=hn2.count (PySem.Within.cons name v hw)
  refine wpAny_bind (wpAny_lookBehind hoD (by rw [hdD]; exact pastItsLine_dict (Nat.le_trans hcD (by rw [List.length_cons]; lia))) ?_)
  exact wpAny_pure (h _ ⟨(hs2.2 _ (Ne.symm I.ne)).trans I.obj,hn2,I.ne⟩ hs2)
theorem Vj {R:Result->Shared->Prop} {vs:List Value} {kw:List (Str × Value)} (X:K.In s.heap) (hm:PySem.W.makesIn K C=true)
    (hi:PySem.W.findIn K (.ref C) "__init__"=some (some (.ref f))) (hf:PySem.W.typeIn K (.ref f)=some (.type "function"))
    (h:codeAny (model prog w) (A.under (.builtin "type.__call__" ⟨.ref C :: vs,kw⟩)) (.call (.ref f) ⟨.ref (s.heap.objs.size + 1) :: vs,kw⟩) (PySem.W.InitBack (s.heap.objs.size + 1) R)
      { s with heap:=(s.heap.push PySem.W.emptyDict).push (PySem.W.instObj C s.heap.objs.size) }) :
    codeAny (model prog w) A (.call (.ref C) ⟨vs,kw⟩) R s:=by
  obtain ⟨hh,g,d,t,os⟩:=s
  exact PySem.W.make_core (PySem.W.makes_of X hm) (PySem.W.looks_findIn X hi) (fun self=>PySem.W.bind_fn X self hf) (.inl rfl) h
end
def putF (f:Str) (v:V):List (Str × V)->List (Str × V)
  | []=>[(f,v)]
  | (g,x) :: r=>if g=f then (g,v) :: r else (g,x) :: putF f v r
theorem vg (f g:Str) (v:V):∀ fs:List (Str × V),(putF f v fs).lookup g=if g=f then some v else fs.lookup g
  | []=>by
    show List.lookup g [(f,v)]=_
    by_cases h:g=f
    · have hb:(g == f)=true:=beq_iff_eq.mpr h
      simp only [List.lookup,hb,if_pos h]
    · have hb:(g == f)=false:=beq_eq_false_iff_ne.mpr h
      simp only [List.lookup,hb,if_neg h]
  | (k,x) :: r=>by
    have ih:=vg f g v r
    rw [show putF f v ((k,x) :: r)=(if k=f then (k,v) :: r else (k,x) :: putF f v r) from rfl]
    by_cases hk:k=f
    · rw [if_pos hk]
      by_cases h:g=k
      · have hb:(g == k)=true:=beq_iff_eq.mpr h
        simp only [List.lookup,hb,if_pos (h.trans hk)]
      · have hb:(g == k)=false:=beq_eq_false_iff_ne.mpr h
        simp only [List.lookup,hb,if_neg (fun e:g=f=>h (e.trans hk.symm))]
    · rw [if_neg hk]
      by_cases h:g=k
      · have hb:(g == k)=true:=beq_iff_eq.mpr h
        simp only [List.lookup,hb,if_neg (fun e:g=f=>hk (h.symm.trans e))]
      · have hb:(g == k)=false:=beq_eq_false_iff_ne.mpr h
        simp only [List.lookup,hb]
        exact ih
theorem wL (f:Str) (v:V):∀ fs:List (Str × V),f∈(putF f v fs).map (·.1)/\∀ g,g∈fs.map (·.1)->g∈(putF f v fs).map (·.1)
  | []=>⟨by simp [putF],fun g h=>by simp at h⟩
  | (k,x) :: r=>by
    obtain ⟨i1,i2⟩:=wL f v r
    rw [show putF f v ((k,x) :: r)=(if k=f then (k,v) :: r else (k,x) :: putF f v r) from rfl]
    by_cases hk:k=f
    · rw [if_pos hk]
      subst hk
      exact ⟨by simp,fun g h=>by simpa using h⟩
    · rw [if_neg hk]
      refine ⟨?_,fun g h=>?_⟩
      · rw [List.map_cons]
        exact List.mem_cons_of_mem _ i1
      · rw [List.map_cons] at h ⊢
        rcases List.mem_cons.mp h with e | e
        · exact List.mem_cons.mpr (.inl e)
        · exact List.mem_cons_of_mem _ (i2 g e)
theorem vh (f:Str) (v:V):∀ fs:List (Str × V),(putF f v fs).length<=fs.length + 1
  | []=>by simp [putF]
  | (k,x) :: r=>by
    have ih:=vh f v r
    rw [show putF f v ((k,x) :: r)=(if k=f then (k,v) :: r else (k,x) :: putF f v r) from rfl]
    by_cases hk:k=f
    · rw [if_pos hk,List.length_cons,List.length_cons]; lia
    · rw [if_neg hk,List.length_cons,List.length_cons]; lia
theorem RelO.some_of {v:V} {o:Option Value} (r:RelO (some v) o):∃ u,o=some u/\RelV v u:=by
  cases o with
  | none=>exact (show False from r).elim
  | some u=>exact ⟨u,rfl,r⟩
theorem RelO.none_of {o:Option Value} (r:RelO none o):o=none:=by
  cases o with
  | none=>rfl
  | some u=>exact (show False from r).elim
theorem jK {v:V} {u:Value} (r:RelV v u):PySem.W.handedIn u=true:=by
  cases v with
  | non=>cases (show u=Value.none from r); rfl
  | bl b=>cases (show u=Value.bool b from r); rfl
  | int i=>obtain ⟨t,e⟩:=(show ∃ t,u=Value.int i t from r); cases e; rfl
  | str x=>obtain ⟨t,e⟩:=(show ∃ t,u=Value.str x t from r); cases e; rfl
  | byt b=>obtain ⟨t,e⟩:=(show ∃ t,u=Value.bytes b t from r); cases e; rfl
  | flt b=>obtain ⟨t,e⟩:=(show ∃ t,u=Value.float b t from r); cases e; rfl
  | ref a=>cases (show u=Value.ref a from r); rfl
  | ty n=>cases (show u=Value.type n from r); rfl
section
variable {P:Program} {w:World} {H H':Hp} {h h':Heap} {a C dx:Addr} {fs fs':List (Str × V)}
theorem vv (hok:HOk P w H h) (e:H a=some (.ins C dx fs)):∃ mA,ObjM h a dx C mA/\(∀ f,RelO (fs.lookup f) (mA f))/\PySem.Within mA (fs.map (·.1))/\fs.length<=1000/\H dx=some (.own a):=by
  obtain ⟨d,z,ne,ob,mA,n,r,q⟩:=(show ObjOk P w H h a (.ins C dx fs) from hok a _ e)
  exact ⟨mA,⟨ob,n,ne⟩,r,q,z,d⟩
end
structure Cls (K:PySem.W.Frag) (C:Addr):Prop where
  pg:PySem.W.plainGet K C Str.empty=true
  hd:PySem.W.hasDictIn K C=true
  po:PySem.W.plainOver K C=true
  sa:PySem.W.findIn K (.ref C) "__setattr__"=some (some (.builtin "object.__setattr__"))
theorem Cls.get {K:PySem.W.Frag} {C:Addr} (c:Cls K C) (f:Str):PySem.W.plainGet K C f=true:=c.pg
def NoAttr (K:PySem.W.Frag) (C:Addr) (f:Str):Prop:=PySem.W.findIn K (.ref C) f=some none
theorem NoAttr.taker {K:PySem.W.Frag} {C:Addr} {f:Str} (n:NoAttr K C f):PySem.W.takerIn K C f=some none:=by
  unfold PySem.W.takerIn
  rw [show PySem.W.findIn K (.ref C) f=some none from n]
  rfl
structure Con (K:PySem.W.Frag) (C:Addr) (f:Str) (v:V) (u:Value):Prop where
  at_:PySem.W.findIn K (.ref C) f=some (some u)
  rel:RelV v u
  get:PySem.W.specialIn K u "__get__"=some none
  cp:PySem.W.copiedNames.contains f=false
structure Meth (K:PySem.W.Frag) (C:Addr) (m:Str) (f:Addr):Prop where
  at_:PySem.W.findIn K (.ref C) m=some (some (.ref f))
  fn:PySem.W.isFn K (.ref f)=true
  kp:PySem.W.keepIn K (.ref f)=true
section
variable {X:Cx} {pins:List (Addr × Obj)} {σ:St} {H:Hp} {s:Shared} {a C dx:Addr} {fs:List (Str × V)} {f:Str} {v:V} {A:Around} {E:Value->Shared->Prop}
theorem YD {b:Bool} {Q:Value->Shared->Prop} (I:Inv X pins σ H s) (e:H a=some (.ins C dx fs)) (c:Cls X.K C) (n:NoAttr X.K C f) (l:fs.lookup f=some v)
    (h:∀ u s',Inv X pins σ H s'->RelV v u->Q u s'):wpAny (model X.prog X.w) A (getAttr (.ref a) f b) Q E s:=by
  obtain ⟨mA,O,r,_,_,_⟩:=vv I.hok e
  obtain ⟨u,hu,ru⟩:=RelO.some_of (v:=v) (o:=mA f) (by rw [<- l]; exact r f)
  exact Qg I.kIn O (c.get f) c.hd n hu (jK ru) (h u _ (I.tok _) ru)
theorem vJ {m:Str} {g:Addr} {pl:Sem Bool} {Q:Value × List Value->Shared->Prop} (I:Inv X pins σ H s) (e:H a=some (.ins C dx fs)) (c:Cls X.K C) (k:Meth X.K C m g) (l:fs.lookup m=none)
    (h:Q (.ref g,[.ref a]) s):wpAny (model X.prog X.w) A (getMethod (.ref a) m pl) Q E s:=by
  obtain ⟨mA,O,r,_,_,_⟩:=vv I.hok e
  have hn:mA m=none:=RelO.none_of (by rw [<- l]; exact r m)
  exact Vi I.kIn O (c.get m) k.at_ k.fn hn h
theorem YE {y:V} {u:Value} {Q:Unit->Shared->Prop} (I:Inv X pins σ H s) (e:H a=some (.ins C dx fs)) (c:Cls X.K C) (n:NoAttr X.K C f) (hl:fs.length < 1000) (ry:RelV y u)
    (h:∀ s',Inv X pins σ (upd H a (.ins C dx (putF f y fs))) s'->Q () s'):wpAny (model X.prog X.w) A (setAttr (.ref a) f u) Q E s:=by
  obtain ⟨mA,O,r,wi,_,ho⟩:=vv I.hok e
  have hz:(fs.map (·.1)).length<=sizeLine:=by rw [List.length_map,sizeLine_eq]; lia
  refine Qh I.kIn O c.sa c.po n.taker c.hd wi hz fun h' O' sb=>h _ ?_
  have hd:∃ o,h'.get? dx=some o:=let ⟨o,_,_,e',_⟩:=O'.ns; ⟨o,e'⟩
  refine I.write (x:=a) (e:=dx) (by rw [e]; exact True.intro) (.inr ho) (fun b q hb z=>(sb.2 b hb).trans z) hd ?_
  refine ⟨by rw [zk O.ne]; exact ho,?_,O.ne,O'.obj,_,O'.ns,fun g=>?_,fun g hg=>?_⟩
  · have:=vh f y fs; lia
  · show RelO ((putF f y fs).lookup g) (if g=f then some u else mA g)
    rw [vg]
    by_cases q:g=f
    · rw [if_pos q,if_pos q]; exact ry
    · rw [if_neg q,if_neg q]; exact r g
  · by_cases q:g=f
    · rw [q]; exact (wL f y fs).1
    · refine (wL f y fs).2 g (wi g fun z=>hg ?_)
      show (if g=f then some u else mA g)=none
      rw [if_neg q]; exact z
theorem Inv.made (I:Inv X pins σ H s):Inv X pins σ (upd (upd H s.heap.objs.size (.own (s.heap.objs.size + 1))) (s.heap.objs.size + 1) (.ins C s.heap.objs.size []))
    { s with heap:=(s.heap.push PySem.W.emptyDict).push (PySem.W.instObj C s.heap.objs.size) }:=by
  have e1:(s.heap.push PySem.W.emptyDict).get? s.heap.objs.size=some PySem.W.emptyDict:=Heap.get?_push_size s.heap rfl
  have e2:((s.heap.push PySem.W.emptyDict).push (PySem.W.instObj C s.heap.objs.size)).get? (s.heap.objs.size + 1)=some (PySem.W.instObj C s.heap.objs.size):=by
    have:=Heap.get?_push_size (s.heap.push PySem.W.emptyDict) (o:=PySem.W.instObj C s.heap.objs.size) rfl
    rwa [Heap.size_push] at this
  have e3:(s.heap.push PySem.W.emptyDict).Ns s.heap.objs.size (fun _=>none):=⟨PySem.W.emptyDict,#[],_,e1,rfl,(fun e he=>absurd he (by simp)),fun _=>rfl⟩
  have I1:=I.laid (a:=s.heap.objs.size) (o:=.own (s.heap.objs.size + 1)) (h':=s.heap.push PySem.W.emptyDict) (t':=s.toks) (fun b u q=>Heap.get?_push_of_some _ q) (Nat.le_refl _) ⟨_,e1⟩
  refine I1.laid (a:=s.heap.objs.size + 1) (o:=.ins C s.heap.objs.size []) (t':=s.toks) (fun b u q=>Heap.get?_push_of_some _ q) (Nat.le_of_eq (Heap.size_push _ _)) ?_
  have ne:s.heap.objs.size≠s.heap.objs.size + 1:=Nat.ne_of_lt (Nat.lt_succ_self _)
  refine ⟨by rw [zk ne,zc],Nat.zero_le _,ne,e2,fun _=>none,(Heap.Ns1.of_empty e3).at fun o q=>Heap.get?_push_of_some _ q,fun _=>True.intro,fun y hy=>absurd rfl hy⟩
theorem XB {prog:Program} {w:World} {env:Env} {e:Expr} {f:Str} {pos:Pos} {s:Shared} {Q:Value->Shared->Prop} (hb:attributeBase e f env (eval e env)=eval e env)
    (h:wpAny (model prog w) A (eval e env) (fun o s₁=>wpAny (model prog w) A (getAttr o f true) Q E s₁) E s):wpAny (model prog w) A (eval (.Attribute e f pos) env) Q E s :=
  Attribute_any_ h (by rw [arm_eval_Attribute,hb])
end
def tFld (K:PySem.W.Frag) (ta:TE) (f:Str):TE:=fun σ H Q=>ta σ H fun x H1=>∃ a C dx fs v,x=.ref a/\H1 a=some (.ins C dx fs)/\Cls K C/\NoAttr K C f/\fs.lookup f=some v/\Q v H1
def sFld (K:PySem.W.Frag) (ta tv:TE) (f:Str):TS:=fun D σ H=>tv σ H fun y H1=>ta σ H1 fun x H2=>∃ a C dx fs,x=.ref a/\H2 a=some (.ins C dx fs)/\Cls K C/\NoAttr K C f/\fs.length < 1000 /\
  D.nx σ (upd H2 a (.ins C dx (putF f y fs)))
section
variable {X:Cx} {o e value:Expr} {f:Str} {pos pos' tpos:Pos} {ta tv:TE}
theorem zbr (he:PE X e ta) (hb:attributeBase e f X.env (eval e X.env)=eval e X.env):PE X (.Attribute e f pos) (tFld X.K ta f):=by
  intro pins s σ H Q I h
  refine XB hb (thn (he pins s σ H _ I h) fun u s1 ⟨x,H1,I1,rx,a,C,dx,fs,v,ex,ea,c,n,l,q⟩=>?_)
  subst ex
  obtain rfl:u=Value.ref a:=rx
  exact YD I1 ea c n l fun u' s2 I2 ru=>⟨v,H1,I2,ru,q⟩
theorem zbs (ha:PE X o ta) (hv:PE X value tv) (hs:swapsWith value (some (.Attribute o f pos')) pos.line X.env=pure false):PS X (.Assign [.Attribute o f pos'] value pos) (sFld X.K ta tv f):=by
  intro pins s σ H D I h
  refine plainObj_wpAny_Assign_Attribute (thn (hv pins s σ H _ I h) fun u s1 ⟨y,H1,I1,ry,q⟩=>thn (ha pins s1 σ H1 _ I1 q) fun ov s2 ⟨x,H2,I2,rx,a,C,dx,fs,ex,ea,c,n,l,q2⟩=>?_) hs
  subst ex
  obtain rfl:ov=Value.ref a:=rx
  exact YE I2 ea c n l ry fun s3 I3=>⟨σ,_,I3,q2⟩
end
section
variable {X:Cx} {pins:List (Addr × Obj)} {σ:St} {H:Hp} {s:Shared} {A:Around} {E:Value->Shared->Prop} {Q:Value->Shared->Prop} {c:Value} {b:Bool}
inductive TyOf (K:PySem.W.Frag) (H:Hp):V->Value->Prop where
  | non:TyOf K H .non (.type "NoneType")
  | bl (x:Bool):TyOf K H (.bl x) (.type "bool")
  | int (i:Int):TyOf K H (.int i) (.type "int")
  | str (x:Str):TyOf K H (.str x) (.type "str")
  | flt (x:UInt64):TyOf K H (.flt x) (.type "float")
  | lst {a:Addr} {xs:List V} (e:H a=some (.lst xs)):TyOf K H (.ref a) (.type "list")
  | frz {a:Addr} {o:Obj} {xs:List V} (e:H a=some (.frz o (.lst xs))):TyOf K H (.ref a) (.type "list")
  | tup {a:Addr} {xs:List V} (e:H a=some (.tup xs)):TyOf K H (.ref a) (.type "tuple")
  | dK {a:Addr} {kvs:List (Key × V)} (e:H a=some (.dK kvs)):TyOf K H (.ref a) (.type "dict")
  | dT {a:Addr} {kvs:List (List Key × V)} (e:H a=some (.dT kvs)):TyOf K H (.ref a) (.type "dict")
  | ins {a C dx:Addr} {fs:List (Str × V)} (e:H a=some (.ins C dx fs)) (cl:Cls K C) (ha:PySem.W.findIn K (.ref C) "__class__"=some (some (.builtin "object.__class__")))
      (hn:PySem.W.specialIn K (.builtin "object.__class__") "__get__"=some (some (.builtin "getset_descriptor.__get__"))) (htk:PySem.W.takesIn K (.builtin "object.__class__")=some true)
      (hm:PySem.W.mroIn K C (.type "object")=some true):TyOf K H (.ref a) (.ref C)
theorem Wv {x:V} {u t:Value} (I:Inv X pins σ H s) (rx:RelV x u) (ty:TyOf X.K H x t) (e:PySem.W.kitOne X.K t c=some b) (h:∀ tk,Q (.bool b) { s with toks:=tk }) :
    wpAny (model X.prog X.w) A (call (.builtin "isinstance") [u,c]) Q E s:=by
  cases ty with
  | non=>cases (show u=Value.none from rx); exact PySem.W.kia_one PySem.W.kitx_none I.kIn True.intro e (fun z=>nomatch z) h
  | bl y=>cases (show u=Value.bool y from rx); exact PySem.W.kia_one PySem.W.kitx_bool I.kIn True.intro e (fun z=>nomatch z) h
  | int i=>obtain ⟨t,q⟩:=(show ∃ t,u=Value.int i t from rx); cases q; exact PySem.W.kia_one PySem.W.kitx_int I.kIn True.intro e (fun z=>nomatch z) h
  | str y=>obtain ⟨t,q⟩:=(show ∃ t,u=Value.str y t from rx); cases q; exact PySem.W.kia_one PySem.W.kitx_str I.kIn True.intro e (fun z=>nomatch z) h
  | flt y=>obtain ⟨t,q⟩:=(show ∃ t,u=Value.float y t from rx); cases q; exact PySem.W.kia_one PySem.W.kitx_float I.kIn True.intro e (fun z=>nomatch z) h
  | @lst a xs ea =>
    cases (show u=Value.ref a from rx)
    obtain ⟨_,_,n,_,h1⟩:=(show ObjOk X.prog X.w H s.heap a (.lst xs) from I.hok a _ ea)
    exact PySem.W.kia_one PySem.W.kitx_list I.kIn ⟨_,h1,rfl⟩ e (fun z=>nomatch z) h
  | @frz a ob xs ea =>
    cases (show u=Value.ref a from rx)
    obtain ⟨_,_,_,n,_,h1⟩:=(show ObjOk X.prog X.w H s.heap a (.frz ob (.lst xs)) from I.hok a _ ea)
    exact PySem.W.kia_one PySem.W.kitx_list I.kIn ⟨_,h1,rfl⟩ e (fun z=>nomatch z) h
  | @tup a xs ea =>
    cases (show u=Value.ref a from rx)
    obtain ⟨_,_,_,p⟩:=(show ObjOk X.prog X.w H s.heap a (.tup xs) from I.hok a _ ea)
    obtain ⟨o,h1,h2,_⟩:=p
    exact PySem.W.kia_one PySem.W.kitx_tuple I.kIn ⟨o,h1,h2⟩ e (fun z=>nomatch z) h
  | @dK a kvs ea =>
    cases (show u=Value.ref a from rx)
    obtain ⟨_,_,vs,_,p⟩:=(show ObjOk X.prog X.w H s.heap a (.dK kvs) from I.hok a _ ea)
    obtain ⟨o,es,ep,h1,h2,_⟩:=p
    exact PySem.W.kia_one PySem.W.kitx_dict I.kIn ⟨o,h1,h2.1⟩ e (fun z=>nomatch z) h
  | @dT a kvs ea =>
    cases (show u=Value.ref a from rx)
    obtain ⟨_,_,xs,_,o,es,ep,h1,h2,_⟩:=(show ObjOk X.prog X.w H s.heap a (.dT kvs) from I.hok a _ ea)
    exact PySem.W.kia_one PySem.W.kitx_dict I.kIn ⟨o,h1,h2.1⟩ e (fun z=>nomatch z) h
  | @ins a C dx fs ea cl ha hn htk hm =>
    cases (show u=Value.ref a from rx)
    obtain ⟨mA,O,_⟩:=vv I.hok ea
    obtain ⟨od,J,_⟩:=O.look
    exact PySem.W.kia_one (PySem.W.kitx_own (cl.get _) cl.hd ha hn htk hm) I.kIn J e (fun z=>nomatch z) h
end
end L2
namespace L2
open PySem PySem.Spec PyProof.Rows
structure Room (k:Nat) (A:Around):Prop where
  hd:A.handled=none
  dp:A.depth + 3 * k + 5 < recursionLimit
  un:A.units + 16 * k + 200 < cLine
theorem Room.mono {j k:Nat} {A:Around} (r:Room k A) (h:j<=k):Room j A:=⟨r.hd,by have:=r.dp; lia,by have:=r.un; lia⟩
theorem Room.deeper {k:Nat} {A:Around} (r:Room (k + 1) A) (env:Env):Room k (A.deeper env) :=
  ⟨r.hd,by have:=r.dp; show A.depth + 1 + 3 * k + 5 < _; lia,by have:=r.un; show A.units + 3 + 16 * k + 200 < _; lia⟩
theorem Room.in1 {k:Nat} {A:Around} (r:Room (k + 1) A):Room k A.in1 :=
  ⟨r.hd,by have:=r.dp; show A.depth + 3 * k + 5 < _; lia,by have:=r.un; show A.units + 1 + 16 * k + 200 < _; lia⟩
theorem YF {A:Around} {C:Addr} {us:List Value} {kw:List (Str × Value)}:(A.under (.builtin "type.__call__" ⟨.ref C :: us,kw⟩)).depth=A.depth + 1:=by
  first | rfl | simp [Around.under,Code.weight,Code.isCreation,Code.isGuard,Code.isCaller,Code.frames,Code.isFrame,guardIds]
theorem YG {A:Around} {C:Addr} {us:List Value} {kw:List (Str × Value)}:(A.under (.builtin "type.__call__" ⟨.ref C :: us,kw⟩)).units=A.units + 1:=by
  first | rfl | simp [Around.under,Code.cUnits,Code.frames,Code.isFrame]
theorem Room.make {k:Nat} {A:Around} (r:Room (k + 1) A) (C:Addr) (us:List Value) (kw:List (Str × Value)):Room k (A.under (.builtin "type.__call__" ⟨.ref C :: us,kw⟩)) :=
  ⟨r.hd,by have:=r.dp; rw [YF]; lia,by have:=r.un; rw [YG]; lia⟩
theorem Room.depth {k:Nat} {A:Around} (r:Room k A):A.depth < recursionLimit:=by have:=r.dp; lia
theorem Room.units {k:Nat} {A:Around} (r:Room k A):A.units + 64 < cLine:=by have:=r.un; lia
theorem Room.units0 {k:Nat} {A:Around} (r:Room k A):A.units < cLine:=by have:=r.un; lia
def tNil:TA:=fun _ H Q=>Q [] H
def Vk (ta:TE) (tr:TA):TA:=fun σ H Q=>ta σ H fun x H1=>tr σ H1 fun xs H2=>Q (x :: xs) H2
section
variable {X:Cx} {e:Expr} {es:List Expr} {te:TE} {t:TA} {pos:Pos}
theorem zbt:PA X [] tNil:=fun _ _ _ _ H Q I h=>Calls.spliced_nil ⟨[],H,I,.nil,h⟩
theorem Qi (ha:PE X e te) (hr:PA X es t) (hs:starEach (e :: es) X.env=(false,eval e X.env) :: starEach es X.env:=by rfl):PA X (e :: es) (Vk te t):=by
  intro pos pins s σ H Q I h
  rw [hs]
  show wpAny _ _ (spliced ((false,eval e X.env) :: backTo pos (starEach es X.env))) _ _ s
  refine Calls.spliced_cons (thn (ha pins s σ H _ I h) fun u s1 ⟨x,H1,I1,r1,q1⟩=>?_)
  exact thn (hr pos pins s1 σ H1 _ I1 q1) fun us s2 ⟨xs,H2,I2,r2,q2⟩=>⟨x :: xs,H2,I2,.cons r1 r2,q2⟩
def tTup (t:TA):TE:=fun σ H Q=>t σ H fun xs H1=>xs.length<=sizeLine/\∀ p,H1 p=none->Q (.ref p) (upd H1 p (.tup xs))
def tLst (t:TA):TE:=fun σ H Q=>t σ H fun xs H1=>xs.length<=sizeLine/\∀ p,H1 p=none->Q (.ref p) (upd H1 p (.lst xs))
theorem zbu {x1} (h:PA X es t):PE X (.Tuple es x1 pos) (tTup t):=by
  intro pins s σ H Q I hq
  refine wpAny_Tuple_spliced (thn (h pos pins s σ H _ I hq) fun us s1 ⟨xs,H1,I1,r,z,q⟩=>⟨by rw [<- r.length]; exact z,?_⟩)
  have hf:H1 s1.heap.objs.size=none:=I1.hok.fresh (Nat.le_refl _)
  refine ⟨.ref s1.heap.objs.size,upd H1 s1.heap.objs.size (.tup xs),I1.laid (t':=s1.toks) (fun b u e=>Heap.get?_push_of_some _ e) (Nat.le_refl _) ?_,rfl,q _ hf⟩
  exact ⟨z,us,r,⟨_,Heap.get?_push_size _ rfl,rfl,rfl,_,rfl⟩⟩
theorem zbv (h:PA X es t):PE X (.List es pos) (tLst t):=by
  intro pins s σ H Q I hq
  refine wpAny_List_spliced (thn (h pos pins s σ H _ I hq) fun us s1 ⟨xs,H1,I1,r,z,q⟩=>⟨by rw [<- r.length]; exact z,?_⟩)
  have hf:H1 s1.heap.objs.size=none:=I1.hok.fresh (Nat.le_refl _)
  refine ⟨.ref s1.heap.objs.size,upd H1 s1.heap.objs.size (.lst xs),I1.laid (t':=s1.toks) (fun b u e=>Heap.get?_push_of_some _ e) (Nat.le_refl _) ?_,rfl,q _ hf⟩
  exact ⟨z,us,0,r,Heap.get?_push_size _ rfl⟩
end
abbrev Sp:=List V->Hp->VK->XK->Prop
abbrev CXT:=List Env->Hp->Shared->XK->Value->Shared->Prop
structure Env0 (P:Program) (w:World) (K:PySem.W.Frag) (mg:Str->Option Value) (base:Heap) (A:Around) (outer:List Env) (s:Shared) (H:Hp):Prop where
  frames:A.frames=some outer
  mod:Mod K mg base
  bs:∀ b o,base.get? b=some o->s.heap.get? b=some o/\H b=none
  bsz:base.objs.size<=s.heap.objs.size
  funs:s.heap.FunFrames base outer
  frf:∀ b∈frs outer,H b=none
  hok:HOk P w H s.heap
  bare:AllBare s.gens
def CE (outer:List Env) (P:Program) (w:World) (H:Hp) (s:Shared) (Q:VK) (u:Value) (s':Shared):Prop :=
  ∃ v H',s'.os=s.os/\AllBare s'.gens/\Un (frs outer) [] H H' s.heap s'.heap/\HOk P w H' s'.heap/\RelV v u/\Q v H'
def CR (CX:CXT) (outer:List Env) (P:Program) (w:World) (H:Hp) (s:Shared) (Q:VK) (E:XK) (r:Result) (s':Shared):Prop :=
  match r with
  | .ok (.ret u)=>CE outer P w H s Q u s'
  | .ok _=>False
  | .error e=>CX outer H s E e s'
structure FnOk (P:Program) (w:World) (K:PySem.W.Frag) (mg:Str->Option Value) (base:Heap) (CX:CXT) (k:Nat) (f:Addr) (fd:FuncData) (ps:List Str) (sp:Sp):Prop where
  len:∀ vs H Q E,sp vs H Q E->vs.length=ps.length
  run:∀ (A:Around) (outer:List Env) (s:Shared) (H:Hp) (args:Args) (us:List Value) (vs:List V) (Q:VK) (E:XK),Room k A->Env0 P w K mg base A outer s H->BindsTo s fd args (ps.zip us)->Vals vs us->sp vs H Q E ->
    codeAny (model P w) A (.call (.ref f) args) (CR CX outer P w H s Q E) s
theorem FnOk.mono {P:Program} {w:World} {K:PySem.W.Frag} {mg:Str->Option Value} {base:Heap} {CX:CXT} {j k:Nat} {f:Addr} {fd:FuncData} {ps:List Str} {sp:Sp} (F:FnOk P w K mg base CX j f fd ps sp) (h:j<=k) :
    FnOk P w K mg base CX k f fd ps sp:=⟨F.len,fun A outer s H args us vs Q E hr=>F.run A outer s H args us vs Q E (hr.mono h)⟩
theorem FnOk.imp {P:Program} {w:World} {K:PySem.W.Frag} {mg:Str->Option Value} {base:Heap} {CX:CXT} {k:Nat} {f:Addr} {fd:FuncData} {ps:List Str} {sp sp':Sp} (F:FnOk P w K mg base CX k f fd ps sp)
    (h:∀ vs H Q E,sp' vs H Q E->sp vs H Q E):FnOk P w K mg base CX k f fd ps sp' :=
  ⟨fun vs H Q E q=>F.len vs H Q E (h _ _ _ _ q),fun A outer s H args us vs Q E hr he hb hv hs=>F.run A outer s H args us vs Q E hr he hb hv (h _ _ _ _ hs)⟩
theorem Env0.make {P:Program} {w:World} {K:PySem.W.Frag} {mg:Str->Option Value} {base:Heap} {A:Around} {outer:List Env} {s:Shared} {H:Hp} (e:Env0 P w K mg base A outer s H) (C:Addr) (us:List Value) (kw:List (Str × Value)) :
    Env0 P w K mg base (A.under (.builtin "type.__call__" ⟨.ref C :: us,kw⟩)) outer s H:=⟨by first | exact e.frames | (simpa [Around.under,Code.envs,Code.isFrame,pushEnvs] using e.frames),e.mod,e.bs,e.bsz,e.funs,e.frf,e.hok,e.bare⟩
theorem Env0.in1 {P:Program} {w:World} {K:PySem.W.Frag} {mg:Str->Option Value} {base:Heap} {A:Around} {outer:List Env} {s:Shared} {H:Hp} (e:Env0 P w K mg base A outer s H) :
    Env0 P w K mg base A.in1 outer s H:=⟨e.frames,e.mod,e.bs,e.bsz,e.funs,e.frf,e.hok,e.bare⟩
section
variable {X:Cx} {pins:List (Addr × Obj)} {σ:St} {H:Hp} {s s':Shared}
theorem Inv.env0 (I:Inv X pins σ H s):Env0 X.prog X.w X.K X.mg X.base X.A X.stack s H :=
  ⟨I.ok.frames,I.ok.mod,I.bs,Nat.le_trans I.ok.bsz I.sz,I.stack,I.stkFree,I.hok,I.bare⟩
theorem Inv.after {Q:VK} {u:Value} (I:Inv X pins σ H s) (h:CE X.stack X.prog X.w H s Q u s'):EP X pins σ Q u s':=by
  obtain ⟨v,H',os,bare,un,hok,r,q⟩:=h
  obtain ⟨hh,g,d,t,os'⟩:=s'
  obtain rfl:os'=s.os:=os
  exact ⟨v,H',I.call (h':=hh) (g':=g) (d':=d) (t':=t) (ch:=[]) un hok bare (fun b z=>absurd z (by simp)),r,q⟩
end
def XC (sp:Sp) (dvs:List V) (E:XK) (t:TA):TE:=fun σ H Q=>t σ H fun vs H1=>sp (vs ++ dvs) H1 Q E
def XE (C:Addr) (m:Str) (sp:Sp) (dvs:List V) (E:XK) (ta:TE) (t:TA):TE:=fun σ H Q=>ta σ H fun x H1=>∃ a dx fs,x=.ref a/\H1 a=some (.ins C dx fs)/\fs.lookup m=none /\
  t σ H1 fun vs H2=>sp (x :: (vs ++ dvs)) H2 Q E
def zaK (C:Addr) (sp:Sp) (dvs:List V) (E:XK) (t:TA):TE:=fun σ H Q=>t σ H fun vs H1=>∀ x dx,H1 x=none->H1 dx=none->dx≠x ->
  sp (.ref x :: (vs ++ dvs)) (upd (upd H1 dx (.own x)) x (.ins C dx [])) (fun v H2=>v=.non/\Q (.ref x) H2) E
def Binds (K:PySem.W.Frag) (fd:FuncData) (ps:List Str) (ds:List Value):Prop :=
  ∀ (s:Shared) (us:List Value),K.In s.heap->(us ++ ds).length=ps.length->BindsTo s fd ⟨us,[]⟩ (ps.zip (us ++ ds))
theorem Binds.all {K:PySem.W.Frag} {fd:FuncData} {ps:List Str} (h:∀ us:List Value,us.length=ps.length->bindArgs fd ⟨us,[]⟩=pure (ps.zip us)):Binds K fd ps []:=fun s us _ hl=>by
  rw [List.append_nil] at hl ⊢
  exact .of_eq (h us hl)
def yL (CX:CXT) (X:Cx) (E:XK):Prop:=∀ (pins:List (Addr × Obj)) (σ:St) (H:Hp) (s:Shared) (e:Value) (s':Shared),Inv X pins σ H s->CX X.stack H s E e s'->X.xe e s'
section
variable {X:Cx} {CX:CXT} {k:Nat} {f C:Addr} {fd:FuncData} {ps:List Str} {sp:Sp} {dvs:List V} {ds:List Value} {E:XK} {x m:Str} {p pos apos:Pos} {e o:Expr} {es:List Expr} {ta:TE} {t:TA}
theorem YH {pins:List (Addr × Obj)} {σ:St} {H:Hp} {s:Shared} {Q:VK} {us:List Value} {vs:List V} (F:FnOk X.prog X.w X.K X.mg X.base CX k f fd ps sp) (hr:Room k X.A) (hb:Binds X.K fd ps ds) (hd:Vals dvs ds) (hx:yL CX X E)
    (I:Inv X pins σ H s) (r:Vals vs us) (h:sp (vs ++ dvs) H Q E):wpAny (model X.prog X.w) X.A (call (.ref f) us) (EP X pins σ Q) X.xe s:=by
  have r2:Vals (vs ++ dvs) (us ++ ds):=r.append hd
  have hl:(us ++ ds).length=ps.length:=by rw [<- r2.length]; exact F.len _ _ _ _ h
  refine wpAny_call (codeAny_mono (F.run X.A X.stack s H ⟨us,[]⟩ (us ++ ds) (vs ++ dvs) Q E hr I.env0 (hb s us I.kIn hl) r2 h) fun r s' hq=>?_)
  cases r with
  | error e=>exact hx pins σ H s e s' I hq
  | ok fl =>
    cases fl with
    | ret u=>exact I.after hq
    | next=>exact False.elim hq
    | brk=>exact False.elim hq
    | cont=>exact False.elim hq
theorem Qj (F:FnOk X.prog X.w X.K X.mg X.base CX k f fd ps sp) (hr:Room k X.A) (hg:Gl X x) (hm:X.mg x=some (.ref f)) (hk:PySem.W.keepIn X.K (.ref f)=true) (hb:Binds X.K fd ps ds) (hd:Vals dvs ds) (hx:yL CX X E)
    (ha:PA X (e :: es) t) (hdb:(x == ("__debug__":Str))=false:=by decide) (he:starEach (e :: es) X.env=(false,eval e X.env) :: starEach es X.env:=by rfl) (hpl:(backTo pos (starEach es X.env)).any (·.1)=false:=by rfl) :
    PE X (.Call (.Name x p) (e :: es) [] pos) (XC sp dvs E t):=by
  intro pins s σ H Q I h
  refine wpAny_Call_Name_kw (xv I hg hm ?_ hdb)
  refine PySem.W.callWith_K (h₀:=X.base) I.ok.mod.kin hk (thn (ha pos pins s σ H _ I h) fun us s1 ⟨vs,H1,I1,r,q⟩=>⟨I1.kIn,?_⟩) he hpl
  exact YH F hr hb hd hx I1 r q
theorem Qk {pl:Sem Bool} (he:PE X o ta) (c:Cls X.K C) (hm:Meth X.K C m f) (F:FnOk X.prog X.w X.K X.mg X.base CX k f fd ps sp) (hr:Room k X.A) (hb:Binds X.K fd ps ds) (hd:Vals dvs ds) (hx:yL CX X E) (ha:PA X (e :: es) t)
    (hst:starEach (e :: es) X.env=(false,eval e X.env) :: starEach es X.env:=by rfl) (hpl:(backTo pos (starEach es X.env)).any (·.1)=false:=by rfl)
    (ht:eval (.Call (.Attribute o m apos) (e :: es) [] pos) X.env=(do
      let ov <- eval o X.env
      standAt apos.atName
      let (f,first) <- holding [ov] (getMethod ov m pl)
      callWith pos f first (backTo pos (starEach (e :: es) X.env)) (backToKw pos (keywordEach [] X.env))):=by rfl) :
    PE X (.Call (.Attribute o m apos) (e :: es) [] pos) (XE C m sp dvs E ta t):=by
  intro pins s σ H Q I h
  refine PySem.W.methodCall_KW (pl:=pl) (thn (he pins s σ H _ I h) fun u s1 ⟨x,H1,I1,rx,a,dx,fs,ex,ea,l,q⟩=>?_) ht
  subst ex
  obtain rfl:u=Value.ref a:=rx
  refine vJ I1 ea c hm l ?_
  refine PySem.W.callWith_K (first:=[.ref a]) (h₀:=X.base) I.ok.mod.kin hm.kp (thn (ha pos pins s1 σ H1 _ I1 q) fun us s2 ⟨vs,H2,I2,r,q2⟩=>⟨I2.kIn,?_⟩) hst hpl
  exact YH (us:=.ref a :: us) (vs:=.ref a :: vs) F hr hb hd hx I2 (.cons rfl r) q2
theorem Vl {pl:Sem Bool} (he:PE X o ta) (c:Cls X.K C) (hm:Meth X.K C m f) (F:FnOk X.prog X.w X.K X.mg X.base CX k f fd ps sp) (hr:Room k X.A) (hb:Binds X.K fd ps ds) (hd:Vals dvs ds) (hx:yL CX X E)
    (ht:eval (.Call (.Attribute o m apos) [] [] pos) X.env=(do
      let ov <- eval o X.env
      standAt apos.atName
      let (f,first) <- holding [ov] (getMethod ov m pl)
      callWith pos f first (backTo pos (starEach [] X.env)) (backToKw pos (keywordEach [] X.env))):=by rfl) :
    PE X (.Call (.Attribute o m apos) [] [] pos) (XE C m sp dvs E ta tNil):=by
  intro pins s σ H Q I h
  refine PySem.W.methodCall_KW (pl:=pl) (thn (he pins s σ H _ I h) fun u s1 ⟨x,H1,I1,rx,a,dx,fs,ex,ea,l,q⟩=>?_) ht
  subst ex
  obtain rfl:u=Value.ref a:=rx
  refine vJ I1 ea c hm l ?_
  exact PySem.W.callWith_K0 (first:=[.ref a]) I1.kIn hm.kp (YH (us:=[.ref a]) (vs:=[.ref a]) F hr hb hd hx I1 (.cons rfl .nil) q)
structure Mk (K:PySem.W.Frag) (C f:Addr):Prop where
  makes:PySem.W.makesIn K C=true
  init:PySem.W.findIn K (.ref C) "__init__"=some (some (.ref f))
  fn:PySem.W.isFn K (.ref f)=true
  kp:PySem.W.keepIn K (.ref C)=true
theorem Vm {pins:List (Addr × Obj)} {σ:St} {H:Hp} {s:Shared} {Q:VK} {us:List Value} {vs:List V} (M:Mk X.K C f) (F:FnOk X.prog X.w X.K X.mg X.base CX k f fd ps sp) (hr:Room (k + 1) X.A) (hb:Binds X.K fd ps ds) (hd:Vals dvs ds)
    (hx:yL CX X E) (I:Inv X pins σ H s) (r:Vals vs us)
    (h:∀ x dx,H x=none->H dx=none->dx≠x->sp (.ref x :: (vs ++ dvs)) (upd (upd H dx (.own x)) x (.ins C dx [])) (fun v H2=>v=.non/\Q (.ref x) H2) E) :
    wpAny (model X.prog X.w) X.A (call (.ref C) us) (EP X pins σ Q) X.xe s:=by
  have hq:=h (s.heap.objs.size + 1) s.heap.objs.size (I.hok.fresh (Nat.le_succ _)) (I.hok.fresh (Nat.le_refl _)) (Nat.ne_of_lt (Nat.lt_succ_self _))
  have I2:=Inv.made (C:=C) I
  have r2:Vals (V.ref (s.heap.objs.size + 1) :: (vs ++ dvs)) (Value.ref (s.heap.objs.size + 1) :: (us ++ ds)):=.cons rfl (r.append hd)
  have hl:(Value.ref (s.heap.objs.size + 1) :: us ++ ds).length=ps.length:=by
    have e:=r2.length
    rw [F.len _ _ _ _ hq] at e
    exact e.symm
  refine wpAny_call (Vj (f:=f) I.kIn M.makes M.init (beq_iff_eq.mp M.fn) (codeAny_mono (F.run _ X.stack _ _ ⟨Value.ref (s.heap.objs.size + 1) :: us,[]⟩ (Value.ref (s.heap.objs.size + 1) :: (us ++ ds)) _ _ E (hr.make C us [])
    (I2.env0.make C us []) (hb _ (Value.ref (s.heap.objs.size + 1) :: us) I2.kIn hl) r2 hq) fun r s' hq'=>?_))
  cases r with
  | error e=>exact hx pins σ _ _ e s' I2 hq'
  | ok fl =>
    cases fl with
    | ret u =>
      obtain ⟨v,H',I3,rv,ev,q3⟩:=I2.after hq'
      subst ev
      exact ⟨rv,⟨V.ref (s.heap.objs.size + 1),H',I3,rfl,q3⟩⟩
    | next=>exact False.elim hq'
    | brk=>exact False.elim hq'
    | cont=>exact False.elim hq'
theorem Ql (M:Mk X.K C f) (F:FnOk X.prog X.w X.K X.mg X.base CX k f fd ps sp) (hr:Room (k + 1) X.A) (hg:Gl X x) (hm:X.mg x=some (.ref C)) (hb:Binds X.K fd ps ds) (hd:Vals dvs ds) (hx:yL CX X E)
    (ha:PA X (e :: es) t) (hdb:(x == ("__debug__":Str))=false:=by decide) (he:starEach (e :: es) X.env=(false,eval e X.env) :: starEach es X.env:=by rfl) (hpl:(backTo pos (starEach es X.env)).any (·.1)=false:=by rfl) :
    PE X (.Call (.Name x p) (e :: es) [] pos) (zaK C sp dvs E t):=by
  intro pins s σ H Q I h
  refine wpAny_Call_Name_kw (xv I hg hm ?_ hdb)
  refine PySem.W.callWith_K (h₀:=X.base) I.ok.mod.kin M.kp (thn (ha pos pins s σ H _ I h) fun us s1 ⟨vs,H1,I1,r,q⟩=>⟨I1.kIn,?_⟩) he hpl
  exact Vm M F hr hb hd hx I1 r q
end
section
variable {X:Cx} {CX:CXT} {k:Nat} {f C:Addr} {fd:FuncData} {ps ks:List Str} {sp:Sp} {E:XK} {x m:Str} {p pos apos kpos:Pos} {e o:Expr} {es:List Expr} {kws:List Keyword} {te ta:TE} {t tk:TA} {nm:Option Str}
structure KBinds (K:PySem.W.Frag) (fd:FuncData) (ps ks:List Str) (g:List Value->List Value->List Value) (gV:List V->List V->List V):Prop where
  to:∀ (s:Shared) (us ws:List Value),K.In s.heap->(g us ws).length=ps.length->BindsTo s fd ⟨us,ks.zip ws⟩ (ps.zip (g us ws))
  rel:∀ {vs:List V} {us:List Value} {zs:List V} {ws:List Value},Vals vs us->Vals zs ws->Vals (gV vs zs) (g us ws)
variable {g:List Value->List Value->List Value} {gV:List V->List V->List V}
end
structure FnScope (N P:List Str) (sc:Scope):Prop where
  kind:sc.kind=.function
  co:sc.isCoroutine=false
  gen:sc.isGenerator=false
  nd:N.Nodup
  pre:N.take P.length=P
  par:∀ x∈P,sc.names.lookup x=some .local\/sc.names.lookup x=some .cell
  nofree:∀ y∈sc.names,y.2≠.free
theorem jL {kindOf:Str->Option NameKind} {x:Str}:∀ {binds:List (Str × Value)} {m:Str->Option Value},(∀ v,(x,v) ∉ binds)->bindL kindOf binds m x=m x
  | [],_,_=>rfl
  | (n,v) :: r,m,h=>by
    unfold bindL
    rw [jL fun w hw=>h w (List.mem_cons_of_mem _ hw)]
    split
    · have:x≠n:=by rintro rfl; exact h v List.mem_cons_self
      simp [this]
    · rfl
theorem jM {kindOf:Str->Option NameKind} {x:Str}:∀ {binds:List (Str × Value)} {m:Str->Option Value},(∀ v,(x,v) ∉ binds)->bindC kindOf binds m x=m x
  | [],_,_=>rfl
  | (n,v) :: r,m,h=>by
    unfold bindC
    rw [jM fun w hw=>h w (List.mem_cons_of_mem _ hw)]
    split
    · rfl
    · have:x≠n:=by rintro rfl; exact h v List.mem_cons_self
      simp [this]
theorem jN {kindOf:Str->Option NameKind} {x:Str} {v:Value}:∀ {P:List Str} {vs:List Value} {i:Nat} {m:Str->Option Value},P.Nodup->P[i]?=some x->vs[i]?=some v->kindOf x=some .local ->
    bindL kindOf (P.zip vs) m x=some v
  | [],_,_,_,_,h,_,_=>by simp at h
  | _ :: _,[],_,_,_,_,h,_=>by simp at h
  | p :: P,w :: vs,0,m,nd,h1,h2,hk=>by
    simp at h1 h2; subst h1; subst h2
    show bindL kindOf ((p,w) :: P.zip vs) m p=_
    unfold bindL
    rw [jL fun v hv=>(List.nodup_cons.mp nd).1 (List.of_mem_zip hv).1,if_pos hk]
    simp
  | p :: P,w :: vs,i + 1,m,nd,h1,h2,hk=>by
    show bindL kindOf ((p,w) :: P.zip vs) m x=_
    unfold bindL
    exact jN (i:=i) (List.nodup_cons.mp nd).2 (by simpa using h1) (by simpa using h2) hk
theorem jP {kindOf:Str->Option NameKind} {x:Str} {v:Value}:∀ {P:List Str} {vs:List Value} {i:Nat} {m:Str->Option Value},P.Nodup->P[i]?=some x->vs[i]?=some v->kindOf x≠some .local ->
    bindC kindOf (P.zip vs) m x=some v
  | [],_,_,_,_,h,_,_=>by simp at h
  | _ :: _,[],_,_,_,_,h,_=>by simp at h
  | p :: P,w :: vs,0,m,nd,h1,h2,hk=>by
    simp at h1 h2; subst h1; subst h2
    show bindC kindOf ((p,w) :: P.zip vs) m p=_
    unfold bindC
    rw [jM fun v hv=>(List.nodup_cons.mp nd).1 (List.of_mem_zip hv).1,if_neg hk]
    simp
  | p :: P,w :: vs,i + 1,m,nd,h1,h2,hk=>by
    show bindC kindOf ((p,w) :: P.zip vs) m x=_
    unfold bindC
    exact jP (i:=i) (List.nodup_cons.mp nd).2 (by simpa using h1) (by simpa using h2) hk
def we (N:List Str) (vs:List V):St:=vs.map some ++ List.replicate (N.length - vs.length) none
def cxOf (CX:CXT) (P:Program) (w:World) (K:PySem.W.Frag) (mg:Str->Option Value) (base:Heap) (N:List Str) (qual:Str) (scope:Scope) (f:Addr) (cd:Value) (A:Around) (outer:List Env) (s:Shared) (H:Hp) (E:XK):Cx where
  prog:=P
  w:=w
  K:=K
  mg:=mg
  base:=base
  A:=A.deeper (envOfC qual scope s.heap.objs.size f cd)
  N:=N
  s₀:=s
  H₀:=H
  env:=envOfC qual scope s.heap.objs.size f cd
  outer:=outer
  stack:=envOfC qual scope s.heap.objs.size f cd :: outer
  ex:=[]
  calm:=true
  fn:=fun _=>true
  pn:=[]
  xe:=fun e s'=>wpAny (model P w) (A.deeper (envOfC qual scope s.heap.objs.size f cd)) (leaving (envOfC qual scope s.heap.objs.size f cd) e) (fun _ s''=>CX outer H s E e s'') (fun e' s''=>CX outer H s E e' s'') s'
theorem ZU {sc:Scope} {n:Nat} {x:Str} (h:sc.names.lookup x=some .cell):∃ c,(cellsFrom n sc.names []).lookup x=some c:=by
  have q:=PySem.W.cellsFrom_some sc.names n [] (.inl h)
  exact Option.isSome_iff_exists.mp q
theorem Ww {CX:CXT} {P:Program} {w:World} {K:PySem.W.Frag} {mg:Str->Option Value} {base:Heap} {N ps:List Str} {qual:Str} {scope:Scope} {f:Addr} {cd:Value} {A:Around} {outer:List Env} {s s1:Shared} {H:Hp} {E:XK} {us:List Value} {vs:List V}
    (S:FnScope N ps scope) (hd:A.handled=none) (e0:Env0 P w K mg base A outer s H) (hl:vs.length=ps.length) (r:Vals vs us)
    (x:InCallC s s.heap.objs.size (bindL (envOfC qual scope s.heap.objs.size f cd).kindOf (ps.zip us) fun _=>none) (cellsFrom (s.heap.objs.size + 1) scope.names []) (bindC (envOfC qual scope s.heap.objs.size f cd).kindOf (ps.zip us) fun _=>none) s1) :
    Inv (cxOf CX P w K mg base N qual scope f cd A outer s H E) [] (we N vs) H s1:=by
  have hpl:ps.length<=N.length:=by have:=congrArg List.length S.pre; rw [List.length_take] at this; lia
  obtain ⟨h1,tk,rfl,hk⟩:=x.done
  have noA:∀ b:Addr,b ∉ (cxOf CX P w K mg base N qual scope f cd A outer s H E).ex:=fun b z=>absurd (show b∈([]:List Addr) from z) (by simp)
  refine ⟨⟨e0.mod,S.kind,rfl,rfl,Nat.le_refl _,fun y z c h1 h2=>?_,fun y hy=>?_,fun y c _ h=>?_,fun _=>hd,Around.frames_deeper e0.frames,.inr ⟨rfl,rfl⟩,fun b z=>absurd z (noA b),e0.bs,e0.bsz,fun b _ _=>noA b,fun b z=>absurd z (noA b),e0.funs,e0.frf⟩,
    rfl,e0.bare,Un.kept hk,⟨_,x.toInCall.ns,fun i y v h1 h2 h3=>?_⟩,fun y c h=>⟨_,x.cell y c h⟩,e0.hok.fresh (Nat.le_refl _),fun y c h=>?_,fun p hp=>absurd (show p∈([]:List (Addr × Obj)) from hp) (by simp),e0.hok.kept hk,?_⟩
  · exact name_of_addr x.apart (PySem.mem_of_lookup h1) (PySem.mem_of_lookup h2)
  · have hy:scope.names.lookup y=some .cell\/scope.names.lookup y=some .free:=hy
    rcases hy with hy | hy
    · exact ZU hy
    · exact absurd rfl (S.nofree _ (PySem.mem_of_lookup hy))
  · exact Nat.le_of_lt (x.above y c (PySem.mem_of_lookup h))
  · have hi:i < vs.length:=by
      unfold we at h2
      by_cases hi:i < vs.length
      · exact hi
      · rw [List.getElem?_append_right (by simpa using hi)] at h2
        rw [List.getElem?_replicate] at h2
        split at h2 <;> cases h2
    have ha:vs[i]?=some v:=by
      unfold we at h2
      rw [List.getElem?_append_left (by simpa using hi),List.getElem?_map] at h2
      cases e:vs[i]? with
      | none=>rw [e] at h2; cases h2
      | some a=>rw [e] at h2; cases h2; rfl
    obtain ⟨u,hu,rv⟩:=r.get ha
    have hp:ps[i]?=some y:=by
      rw [<- S.pre,List.getElem?_take_of_lt (by lia)]; exact h1
    have ndP:ps.Nodup:=by rw [<- S.pre]; exact S.nd.sublist (List.take_sublist _ _)
    refine ⟨u,rv,?_⟩
    rcases S.par y (List.mem_of_getElem? hp) with k | k
    · exact .inl ⟨k,jN ndP hp hu k⟩
    · obtain ⟨c,e⟩:=ZU (n:=s.heap.objs.size + 1) k
      refine .inr ⟨.inl k,c,e,?_⟩
      have q:=x.cell y c e
      rw [jP ndP hp hu (by show scope.names.lookup y≠_; rw [k]; decide)] at q
      exact q
  · exact e0.hok.fresh (Nat.le_of_lt (x.above y c (PySem.mem_of_lookup h)))
  · unfold we
    show _=N.length
    rw [List.length_append,List.length_map,List.length_replicate]
    lia
theorem zaL {CX:CXT} {P:Program} {w:World} {K:PySem.W.Frag} {mg:Str->Option Value} {base:Heap} {k:Nat} {f:Addr} {name qual:Str} {params:Arguments} {body:List Stmt} {scope:Scope} {dV kV doc pm cdv ct oc:Value} {an od:Option Addr}
    {osl:Array (Option Value)} {N ps:List Str} {sp:Sp} (lk:K.lookup f=some ⟨oc,od,.func (PySem.W.fnOf name qual params body scope dV kV doc pm an cdv ct),osl⟩) (hcd:PySem.W.codeIn K cdv qual=true) (S:FnScope N ps scope)
    (len:∀ vs H Q E,sp vs H Q E->vs.length=ps.length)
    (hbody:∀ (A:Around) (outer:List Env) (s:Shared) (H:Hp) (vs:List V) (Q:VK) (E:XK),Room k (A.deeper (envOfC qual scope s.heap.objs.size f cdv))->sp vs H Q E ->
      ∃ t,PSs (cxOf CX P w K mg base N qual scope f cdv A outer s H E) body t/\t { nx:=fun _ H'=>Q .non H',rt:=Q } (we N vs) H) :
    FnOk P w K mg base CX (k + 1) f (PySem.W.fnOf name qual params body scope dV kV doc pm an cdv ct) ps sp:=by
  refine ⟨len,fun A outer s H args us vs Q E hr e0 hb r hsp=>?_⟩
  have hl:=len _ _ _ _ hsp
  have KX:K.In s.heap:=e0.mod.kin.keeps fun b o e=>(e0.bs b o e).1
  have lim:s.heap.NoLimit:=e0.mod.nolimit.keeps fun b o e=>(e0.bs b o e).1
  have hkind:∀ y∈ps.zip us,scope.names.lookup y.1=some .local\/(scope.names.lookup y.1=some .cell/\((cellsFrom (s.heap.objs.size + 1) scope.names []).lookup y.1).isSome=true):=fun ⟨n,v⟩ hy=>by
    rcases S.par n (List.of_mem_zip hy).1 with q | q
    · exact .inl q
    · exact .inr ⟨q,PySem.W.cellsFrom_some _ _ _ (.inl q)⟩
  refine codeAny_call_function hr.depth (KX _ _ lk) rfl S.co S.gen rfl (PySem.W.codeRec_of KX hcd) (hb _ _ _ _ ?_)
  refine wpAny_newFunctionEnv_cells S.kind hkind fun env he s1 x=>?_
  subst he
  refine ⟨lim.keeps x.toInCall.keep,codeAny_func ?_⟩
  obtain ⟨t,ht,hq⟩:=hbody A outer s H vs Q E (hr.deeper _) hsp
  have I:Inv (cxOf CX P w K mg base N qual scope f cdv A outer s H E) [] (we N vs) H s1:=Ww S hr.hd e0 hl r x
  refine wpAny_mono (ht [] s1 (we N vs) H _ I hq) (fun fl s' hs=>?_) fun e s' hs=>hs
  have fin:∀ {σ':St} {H':Hp} {v:V} {u:Value},Inv (cxOf CX P w K mg base N qual scope f cdv A outer s H E) [] σ' H' s'->RelV v u->Q v H'->CE outer P w H s Q u s' :=
    fun {σ' H' v u} J rv q=>⟨v,H',J.os,J.bare,J.base,J.hok,rv,q⟩
  cases fl with
  | ret u =>
    obtain ⟨v,σ',H',J,rv,q⟩:=hs
    exact fin J rv q
  | next =>
    obtain ⟨σ',H',J,q⟩:=hs
    exact fin (v:=V.non) (u:=Value.none) J rfl q
  | brk =>
    obtain ⟨_,_,_,q⟩:=hs
    exact False.elim q
  | cont =>
    obtain ⟨_,_,_,q⟩:=hs
    exact False.elim q
end L2
namespace L2
open PySem PySem.Spec PyProof.Rows
section
variable {X:Cx} {x:Str} {p pos:Pos} {e:Expr} {es:List Expr} {t:TA} {id T:String} {r:List V->Hp->VK->Prop}
def tCB (r:List V->Hp->VK->Prop) (t:TA):TE:=fun σ H Q=>t σ H fun vs H1=>r vs H1 Q
theorem Vn (hc:CallR X (.builtin id) r) (hg:Gl X x) (hm:X.mg x=none) (hv:bootBuiltins x=some (.builtin id)) (ha:PA X (e :: es) t) (hn:x≠"__name__":=by decide) (hdb:(x == ("__debug__":Str))=false:=by decide)
    (he:starEach (e :: es) X.env=(false,eval e X.env) :: starEach es X.env:=by rfl) (hpl:(backTo pos (starEach es X.env)).any (·.1)=false:=by rfl):PE X (.Call (.Name x p) (e :: es) [] pos) (tCB r t):=by
  intro pins s σ H Q I h
  refine wpAny_Call_Name_kw (wm I hg hm hv ?_ hn hdb)
  exact PyProof.Rows.callWith_builtin1 (thn (ha pos pins s σ H _ I h) fun us s1 ⟨vs,H1,I1,r1,q1⟩=>hc pins s1 σ H1 vs us Q I1 r1 q1) he hpl
theorem Wx (hc:CallR X (.type T) r) (hg:Gl X x) (hm:X.mg x=none) (hv:bootBuiltins x=some (.type T)) (ha:PA X (e :: es) t) (hn:x≠"__name__":=by decide) (hdb:(x == ("__debug__":Str))=false:=by decide)
    (he:starEach (e :: es) X.env=(false,eval e X.env) :: starEach es X.env:=by rfl) (hpl:(backTo pos (starEach es X.env)).any (·.1)=false:=by rfl):PE X (.Call (.Name x p) (e :: es) [] pos) (tCB r t):=by
  intro pins s σ H Q I h
  refine wpAny_Call_Name_kw (wm I hg hm hv ?_ hn hdb)
  exact PyProof.Rows.callWith_type1 (thn (ha pos pins s σ H _ I h) fun us s1 ⟨vs,H1,I1,r1,q1⟩=>hc pins s1 σ H1 vs us Q I1 r1 q1) he hpl
end
end L2
namespace HT
open PySem PyProof.Rows
section
open PySem.SeqAt
open PySem.AutoSeq1 (wpAny_loadPart')
open PySem.MeetsSeq PySem.MeetsSeq2 PySem.MeetsSeq3
end
section
variable {prog:Program} {w:World} {A:Around} {E:Value->Shared->Prop} {s:Shared}
theorem cat_tup {t b:Addr} {vs ws:List Value} {Q:Value->Shared->Prop} (ht:IsTup s.heap t vs.toArray) (hb:IsTup s.heap b ws.toArray) (hv:vs≠[])
    (h1:ws=[]->Q (.ref t) s) (h2:ws≠[]->Q (.ref s.heap.objs.size) { s with heap:=s.heap.push { cls:=.type "tuple",data:=.seq (vs ++ ws).toArray } })
    (hsz:vs.length + ws.length<=sizeLine):wpAny (model prog w) A (binaryOp .Add (.ref t) (.ref b)) Q E s:=by
  obtain ⟨⟨cls,dd,data,sl⟩,ho,hc,n,hd⟩:=id ht
  obtain ⟨⟨cls2,dd2,data2,sl2⟩,ho2,hc2,n2,hd2⟩:=id hb
  simp only at hc hd hc2 hd2
  subst hc hd hc2 hd2
  have e:vs.toArray ++ ws.toArray=(vs ++ ws).toArray:=by simp
  by_cases hw:ws=[]
  · exact concat_meets ⟨_,ho,rfl⟩ ⟨_,ho2,rfl⟩ noFill_tuple_add seq_tuple_add PySem.F.slot_tuple_add PySem.F.entry_tuple_add (PySem.F.args_tuple_add_2 _ _)
      (tuple_addW1 t b vs.toArray ws.toArray n n2 dd dd2 sl sl2 (by simpa using hv) (by simp [hw])) ⟨ho,ho2,h1 hw⟩
  · refine concat_meets ⟨_,ho,rfl⟩ ⟨_,ho2,rfl⟩ noFill_tuple_add seq_tuple_add PySem.F.slot_tuple_add PySem.F.entry_tuple_add (PySem.F.args_tuple_add_2 _ _)
      (tuple_addW2 t b vs.toArray ws.toArray n n2 dd dd2 sl sl2 (by simpa using hv) (by simpa using hw) (by rw [List.size_toArray,List.size_toArray]; exact hsz)) ⟨ho,ho2,?_⟩
    rw [e]
    exact h2 hw
def sIx (n d:Nat):Option Int->Nat
  | none=>d
  | some v=>if v < 0 then (v + (n:Int)).toNat else min v.toNat n
theorem zbw (n d:Nat) (hd:d<=n) (o:Option Int):sIx n d o<=n:=by
  cases o with
  | none=>exact hd
  | some v =>
    show (if v < 0 then (v + (n:Int)).toNat else min v.toNat n)<=n
    by_cases hv:v < 0
    · rw [if_pos hv]; lia
    · rw [if_neg hv]; exact Nat.min_le_right _ _
theorem XF (v:Int) (n d:Nat):(if v < 0 then max (v + (n:Int)) 0 else min v (n:Int))=((sIx n d (some v):Nat):Int):=by
  show (if v < 0 then max (v + (n:Int)) 0 else min v (n:Int))=(((if v < 0 then (v + (n:Int)).toNat else min v.toNat n):Nat):Int)
  by_cases hv:v < 0
  · simp only [if_pos hv]; lia
  · simp only [if_neg hv]; lia
theorem YI (lo hi:Option Int) (n:Nat):Builtin.Slice.sliceAdjust lo hi 1 (n:Int)=(((sIx n 0 lo:Nat):Int),((sIx n n hi:Nat):Int)):=by
  have h1:¬ ((1:Int) < 0):=by lia
  unfold Builtin.Slice.sliceAdjust
  simp only [h1,if_false]
  refine Prod.ext ?_ ?_
  · cases lo with
    | none=>rfl
    | some v=>exact XF v n 0
  · cases hi with
    | none=>rfl
    | some v=>exact XF v n n
theorem YJ (i j:Nat):Builtin.Slice.slicePlaces (i:Int) (j:Int) 1=j - i:=by
  unfold Builtin.Slice.slicePlaces
  have h1:(1:Int) > 0:=by lia
  simp only [h1,if_true,Int.ediv_one]
  split <;> lia
theorem vK {v:Value} {o:Option Int} {Q:Option Int->Shared->Prop} (p:IsPart v o) (h:Q o s):wpAny (model prog w) A (Builtin.Slice.slicePartIndex v) Q E s:=by
  cases p with
  | none=>exact slicePart_none h
  | int i t=>exact slicePart_int h
theorem wM {sl:Addr} {vl vu:Value} {lo hi:Option Int} {n:Nat} {Q:Int × Int × Nat->Shared->Prop} (hs:s.heap.IsSliceOf sl vl vu .none) (pl:IsPart vl lo) (pu:IsPart vu hi)
    (h:Q (((sIx n 0 lo:Nat):Int),1,sIx n n hi - sIx n 0 lo) s):wpAny (model prog w) A (Builtin.Slice.sliceApplied (.ref sl) (pure (n:Int))) Q E s:=by
  obtain ⟨os,hos,hcs,hds⟩:=id hs
  unfold Builtin.Slice.sliceApplied Builtin.Slice.sliceFields
  refine wpAny_bind (wpAny_bind (wpAny_field hos hds (x:=vl) rfl (wpAny_bind (wpAny_field hos hds (x:=vu) rfl (wpAny_bind (wpAny_field hos hds (x:=.none) rfl (wpAny_pure ?_)))))))
  refine wpAny_bind (slicePart_none ?_)
  show wpAny _ _ (if ((1:Int) == 0)=true then _ else _) _ _ s
  rw [if_neg (by decide)]
  refine wpAny_bind (vK pl (wpAny_bind (vK pu (wpAny_bind (wpAny_pure ?_)))))
  show wpAny _ _ (match Builtin.Slice.sliceAdjust lo hi 1 (n:Int) with | (lo,hi)=>pure (lo,(1:Int),Builtin.Slice.slicePlaces lo hi 1)) _ _ s
  rw [YI lo hi n]
  show wpAny _ _ (pure (((sIx n 0 lo:Nat):Int),(1:Int),Builtin.Slice.slicePlaces ((sIx n 0 lo:Nat):Int) ((sIx n n hi:Nat):Int) 1)) _ _ s
  rw [YJ]
  exact wpAny_pure h
theorem Vo (xs:Array Value) (i k:Nat):((List.range k).filterMap fun (m:Nat)=>xs[((i:Int) + (m:Int) * 1).toNat]?).toArray=((xs.toList.drop i).take k).toArray:=by
  have e:(fun (m:Nat)=>xs[((i:Int) + (m:Int) * 1).toNat]?)=fun m=>xs[i + m]?:=by
    funext m
    have:((i:Int) + (m:Int) * 1).toNat=i + m:=by lia
    rw [this]
  rw [e]
  have:=pick_run xs i k
  rw [List.filterMap_map] at this
  have e2:((fun x=>xs[x]?) ∘ fun x=>i + x)=fun m=>xs[i + m]?:=rfl
  rw [e2] at this
  rw [this]
theorem getItem_tuple_cut {t sl:Addr} {items:Array Value} {vl vu:Value} {lo hi:Option Int} {Q:Value->Shared->Prop} (ht:IsTup s.heap t items) (hs:s.heap.IsSliceOf sl vl vu .none) (pl:IsPart vl lo) (pu:IsPart vu hi)
    (hw:¬ (sIx items.size 0 lo=0/\sIx items.size items.size hi=items.size))
    (h:Q (.ref s.heap.objs.size) { s with heap:=s.heap.push { cls:=.type "tuple",data:=.seq ((items.toList.drop (sIx items.size 0 lo)).take (sIx items.size items.size hi - sIx items.size 0 lo)).toArray } })
    (hsz:items.size<=sizeLine):wpAny (model prog w) A (getItem (.ref t) (.ref sl)) Q E s:=by
  have htake:sizeOk (.seq ((items.toList.drop (sIx items.size 0 lo)).take (sIx items.size items.size hi - sIx items.size 0 lo)).toArray):=by
    show ((items.toList.drop (sIx items.size 0 lo)).take (sIx items.size items.size hi - sIx items.size 0 lo)).toArray.size<=sizeLine
    rw [List.size_toArray,List.length_take,List.length_drop,Array.length_toList]
    lia
  have hj:sIx items.size items.size hi<=items.size:=zbw _ _ (Nat.le_refl _) hi
  obtain ⟨os,hos,hcs,hds⟩:=id hs
  have hTs:s.TypeIs (.ref sl) "slice":=⟨os,hos,hcs⟩
  unfold getItem
  try with_reducible refine wpAny_holding ?_
  first | refine wpAny_bind (wpAny_pure ?_) | skip
  refine wpAny_bind (wpAny_sequenceKey ht.typeIs (by decide) ?_)
  refine wpAny_bind (wpAny_callSpecial?_slot (name:=Str.ofString "__getitem__") ht.typeIs PyProof.Rows.slot_tuple_getitem
    (wpAny_call_entry PyProof.Rows.slot_tuple_getitem ht.typeIs entry_tuple_getitem ?_ (args_tuple_getitem _ _)))
  show wpAny _ _ (Builtin.Tuple.tupleItemsOf (.ref t) >>= _) _ _ s
  refine wpAny_bind (tupleItemsOf_ ht ?_)
  refine wpAny_bind (wpAny_typeOf hTs ?_)
  rw [if_pos (by decide)]
  refine wpAny_bind (wM hs pl pu ?_)
  have hno:¬ ((((sIx items.size 0 lo:Nat):Int) == 0 && (1:Int) == 1 && (sIx items.size items.size hi - sIx items.size 0 lo) == items.size)=true):=by
    intro q
    rw [Bool.and_eq_true,Bool.and_eq_true] at q
    have q1:((sIx items.size 0 lo:Nat):Int)=0:=eq_of_beq q.1.1
    have q2:sIx items.size items.size hi - sIx items.size 0 lo=items.size:=eq_of_beq q.2
    exact hw ⟨by lia,by lia⟩
  show wpAny _ _ (if (((sIx items.size 0 lo:Nat):Int) == 0 && (1:Int) == 1 && (sIx items.size items.size hi - sIx items.size 0 lo) == items.size)=true then _ else _) _ _ s
  rw [if_neg hno,Vo]
  first
    | exact wpAny_bind (m:=Builtin.Tuple.tupleExact _) (wpAny_newObj_type (wpAny_pure ⟨_,rfl,wpAny_pure h⟩) htake)
    | exact wpAny_bind (m:=Builtin.Tuple.tupleExact _) (wpAny_newObj_type (wpAny_bind (wpAny_pure (wpAny_pure ⟨_,rfl,wpAny_pure h⟩))) htake)
    | exact wpAny_bind (wpAny_bind (m:=Builtin.Tuple.tupleExact _) (wpAny_newObj_type (wpAny_pure (wpAny_pure ⟨_,rfl,wpAny_pure h⟩)) htake))
    | exact wpAny_bind (wpAny_bind (m:=Builtin.Tuple.tupleExact _) (wpAny_newObj_type (wpAny_pure ⟨_,rfl,wpAny_pure h⟩) htake))
end
end HT
namespace L2
open PySem PySem.Spec PyProof.Rows
abbrev TO:=St->Hp->(Option Int->Hp->Prop)->Prop
def PO (X:Cx) (e:Option Expr) (t:TO):Prop :=
  ∀ (pins:List (Addr × Obj)) (s:Shared) (σ:St) (H:Hp) (Q:Option Int->Hp->Prop),Inv X pins σ H s->t σ H Q ->
    wpAny (model X.prog X.w) X.A (evalPart e X.env) (fun u s'=>∃ o H',Inv X pins σ H' s'/\IsPart u o/\Q o H') X.xe s
def Zj:TO:=fun _ H Q=>Q none H
def zaM (t:TE):TO:=fun σ H Q=>t σ H fun x H1=>∃ i,x=.int i/\Q (some i) H1
section
variable {X:Cx} {e:Expr} {te:TE} {lo hi:Option Expr} {tl th:TO} {pos p2:Pos}
theorem Qm:PO X none Zj:=by
  intro pins s σ H Q I h
  rw [evalPart_none]
  exact wpAny_pure ⟨none,H,I,.none,h⟩
theorem Qn (h:PE X e te):PO X (some e) (zaM te):=by
  intro pins s σ H Q I hw
  rw [evalPart_some]
  refine thn (h pins s σ H _ I hw) fun u s1 ⟨x,H1,I1,r1,q1⟩=>?_
  obtain ⟨i,rfl,q⟩:=q1
  obtain ⟨t,rfl⟩:=r1
  exact ⟨some i,H1,I1,.int i t,q⟩
def SlR (X:Cx) (r:V->Option Int->Option Int->Hp->VK->Prop):Prop :=
  ∀ (pins:List (Addr × Obj)) (s:Shared) (σ:St) (H:Hp) (x:V) (v vl vu:Value) (lo hi:Option Int) (sl:Addr) (Q:VK),Inv X pins σ H s->RelV x v->s.heap.IsSliceOf sl vl vu .none->IsPart vl lo->IsPart vu hi->r x lo hi H Q ->
    ∃ T id,typeLookup (.type T) "__getitem__"=pure (some (.builtin id))/\s.TypeIs v T/\wpAny (model X.prog X.w) X.A (getItem v (.ref sl)) (EP X pins σ Q) X.xe s
theorem SlR.or {r r':V->Option Int->Option Int->Hp->VK->Prop} (h:SlR X r) (h':SlR X r'):SlR X (fun x lo hi H Q=>r x lo hi H Q\/r' x lo hi H Q):=by
  intro pins s σ H x v vl vu lo hi sl Q I rx hs pl pu q
  rcases q with q | q
  · exact h pins s σ H x v vl vu lo hi sl Q I rx hs pl pu q
  · exact h' pins s σ H x v vl vu lo hi sl Q I rx hs pl pu q
def tSl (r:V->Option Int->Option Int->Hp->VK->Prop) (te:TE) (tl th:TO):TE:=fun σ H Q=>te σ H fun x H1=>tl σ H1 fun l H2=>th σ H2 fun u H3=>r x l u H3 Q
theorem Vp {r:V->Option Int->Option Int->Hp->VK->Prop} (hr:SlR X r) (he:PE X e te) (hl:PO X lo tl) (hu:PO X hi th):PE X (.Subscript e (.Slice lo hi none p2) pos) (tSl r te tl th):=by
  intro pins s σ H Q I h
  refine Subscript_ (thn (he pins s σ H _ I h) fun v s1 ⟨x,H1,I1,r1,q1⟩=>?_)
  refine wpAny_Slice (thn (hl pins s1 σ H1 _ I1 q1) fun vl s2 ⟨l,H2,I2,pl,q2⟩=>thn (hu pins s2 σ H2 _ I2 q2) fun vu s3 ⟨u,H3,I3,pu,q3⟩=>?_)
  rw [evalPart_none]
  refine wpAny_pure ?_
  have I4:Inv X pins σ H3 { s3 with heap:=s3.heap.push { cls:=.type "slice",data:=.fields #[vl,vu,.none] } }:=I3.kept (t':=s3.toks) fun b ob q=>Heap.get?_push_of_some _ q
  obtain ⟨T,id,hT,ht,hg⟩:=hr pins { s3 with heap:=s3.heap.push { cls:=.type "slice",data:=.fields #[vl,vu,.none] } } σ H3 x v vl vu l u s3.heap.objs.size Q I4 r1 (Heap.IsSliceOf.new ..) pl pu q3
  show wpAny (model X.prog X.w) X.A (subscriptTail e (.Slice lo hi none p2) v (.ref s3.heap.objs.size)) (EP X pins σ Q) X.xe { s3 with heap:=s3.heap.push { cls:=.type "slice",data:=.fields #[vl,vu,.none] } }
  exact tail_any (ops:=[.ref s3.heap.objs.size,v]) ht hT hg (by with_unfolding_all rfl)
def cutV (xs:List V) (lo hi:Option Int):List V:=(xs.drop (HT.sIx xs.length 0 lo)).take (HT.sIx xs.length xs.length hi - HT.sIx xs.length 0 lo)
theorem vi (xs:List V) (lo hi:Option Int):(cutV xs lo hi).length<=xs.length:=by
  unfold cutV
  rw [List.length_take,List.length_drop]
  lia
def rSlT (K:PySem.W.Frag):V->Option Int->Option Int->Hp->VK->Prop:=fun x lo hi H Q=>∃ a xs,x=.ref a/\SqT K H a xs /\
  ¬ (HT.sIx xs.length 0 lo=0/\HT.sIx xs.length xs.length hi=xs.length)/\∀ p,H p=none->Q (.ref p) (upd H p (.tup (cutV xs lo hi)))
theorem zbx:SlR X (rSlT X.K):=by
  intro pins s σ H x v vl vu lo hi sl Q I rx hs pl pu h
  obtain ⟨a,xs,rfl,hx,hw,q⟩:=h
  cases rx
  obtain ⟨its,r,ht,hz⟩:=I.tuple hx
  have hlen:its.toArray.size=xs.length:=by rw [List.size_toArray]; exact r.length.symm
  refine ⟨"tuple",_,PyProof.Rows.slot_tuple_getitem.lookup,ht.typeIs,?_⟩
  refine HT.getItem_tuple_cut ht hs pl pu (by rw [hlen]; exact hw) ?_ (by rw [hlen]; exact hz)
  rw [hlen]
  refine ⟨.ref s.heap.objs.size,_,I.laid (t':=s.toks) (o:=.tup (cutV xs lo hi)) (fun b ob q=>Heap.get?_push_of_some _ q) (Nat.le_refl _) ?_,rfl,q _ (I.hok.fresh (Nat.le_refl _))⟩
  exact ⟨Nat.le_trans (vi xs lo hi) hz,_,(r.drop (HT.sIx xs.length 0 lo)).take (HT.sIx xs.length xs.length hi - HT.sIx xs.length 0 lo),IsTupN.new _ _⟩
def zaN (K:PySem.W.Frag):R2:=fun x y H Q=>∃ a b xs ys,x=.ref a/\y=.ref b/\SqT K H a xs/\SqT K H b ys/\xs≠[]/\xs.length + ys.length<=sizeLine /\
  (ys=[]->Q (.ref a) H)/\(ys≠[]->∀ p,H p=none->Q (.ref p) (upd H p (.tup (xs ++ ys))))
theorem Vals.nil_iff {xs:List V} {us:List Value} (r:Vals xs us):us=[]↔xs=[]:=by
  cases r with
  | nil=>simp
  | cons _ _=>simp
theorem Qo:OpR X (binaryOp .Add) (zaN X.K):=by
  intro pins s σ H x y v u Q I rx ry h
  obtain ⟨a,b,xs,ys,rfl,rfl,ha,hb,hx,hz,q1,q2⟩:=h
  cases rx
  cases ry
  obtain ⟨its,r1,p1,_⟩:=I.tuple ha
  obtain ⟨its2,r2,p2,_⟩:=I.tuple hb
  refine HT.cat_tup p1 p2 (fun z=>hx (r1.nil_iff.mp z)) (fun z=>⟨.ref a,H,I,rfl,q1 (r2.nil_iff.mp z)⟩) (fun z=>?_) (by rw [<- r1.length,<- r2.length]; exact hz)
  refine ⟨.ref s.heap.objs.size,_,I.laid (t':=s.toks) (o:=.tup (xs ++ ys)) (fun b ob q=>Heap.get?_push_of_some _ q) (Nat.le_refl _) ?_,rfl,q2 (fun w=>z (r2.nil_iff.mpr w)) _ (I.hok.fresh (Nat.le_refl _))⟩
  exact ⟨by rw [List.length_append]; exact hz,_,r1.append r2,IsTupN.new _ _⟩
end
end L2
namespace L2
open PySem PySem.Spec PyProof.Rows
def ixN (n:Nat) (i:Int):Option Nat:=if 0<=i then (if i < n then some i.toNat else none) else if -(n:Int)<=i then some (i + n).toNat else none
def atI {α:Type} (xs:List α) (i:Int):Option α:=(ixN xs.length i).bind fun j=>xs[j]?
theorem Qp {n:Nat} {i:Int} {j:Nat} (h:ixN n i=some j):seqIndex? i n=some j/\j < n/\-(n:Int)<=i/\i < n:=by
  unfold ixN at h
  by_cases h0:0<=i
  · rw [if_pos h0] at h
    by_cases h1:i < n
    · rw [if_pos h1] at h
      have e:i.toNat=j:=Option.some.inj h
      exact ⟨by rw [seqIndex_of h0 h1,e],by lia,by lia,h1⟩
    · rw [if_neg h1] at h; cases h
  · rw [if_neg h0] at h
    by_cases h1:-(n:Int)<=i
    · rw [if_pos h1] at h
      have e:(i + n).toNat=j:=Option.some.inj h
      exact ⟨by rw [seqIndex_neg (by lia) h1,e],by lia,h1,by lia⟩
    · rw [if_neg h1] at h; cases h
theorem Zk {α:Type} {xs:List α} {i:Int} {v:α} (h:atI xs i=some v):∃ j,seqIndex? i xs.length=some j/\xs[j]?=some v/\j < xs.length/\-(xs.length:Int)<=i/\i < xs.length:=by
  unfold atI at h
  cases e:ixN xs.length i with
  | none=>rw [e] at h; cases h
  | some j =>
    rw [e] at h
    obtain ⟨h1,h2,h3,h4⟩:=Qp e
    exact ⟨j,h1,h,h2,h3,h4⟩
theorem yo {α:Type} {xs:List α} {j:Nat} {v:α} (h:xs[j]?=some v):atI xs (j:Int)=some v:=by
  have hj:j < xs.length:=(List.getElem?_eq_some_iff.mp h).1
  have e:ixN xs.length (j:Int)=some j:=by
    unfold ixN
    rw [if_pos (by lia),if_pos (by lia)]; simp
  unfold atI; rw [e]; exact h
theorem Vq {α:Type} (xs:List α) (v:α):atI (xs ++ [v]) (-1)=some v:=by
  have hl:(xs ++ [v]).length=xs.length + 1:=by simp
  have e:ixN (xs ++ [v]).length (-1)=some xs.length:=by
    unfold ixN
    rw [hl,if_neg (by decide),if_pos (by lia)]
    congr 1
    lia
  unfold atI
  rw [e]
  show (xs ++ [v])[xs.length]?=some v
  simp
def XG (b:Expr):Prop:=∀ o i,subscripted b false o i=operate [o,i] (getItem o i)
def IxR (X:Cx) (r:R2):Prop :=
  ∀ (value slice:Expr) (pins:List (Addr × Obj)) (s:Shared) (σ:St) (H:Hp) (x y:V) (v u:Value) (Q:VK),Inv X pins σ H s->RelV x v->RelV y u->r x y H Q ->
    subscripted slice false v u=operate [v,u] (getItem v u)->wpAny (model X.prog X.w) X.A (subscriptTail value slice v u) (EP X pins σ Q) X.xe s
def MtR (X:Cx) (id:String) (r:V->List V->Hp->VK->Prop):Prop :=
  ∀ (pins:List (Addr × Obj)) (s:Shared) (σ:St) (H:Hp) (x:V) (xs:List V) (v:Value) (us:List Value) (Q:VK),Inv X pins σ H s->RelV x v->Vals xs us->r x xs H Q ->
    wpAny (model X.prog X.w) X.A (call (.builtin id) (v :: us)) (EP X pins σ Q) X.xe s
section
variable {X:Cx} {a b:Expr} {ta tb:TE} {pos:Pos}
theorem IxR.or {r r':R2} (h:IxR X r) (h':IxR X r'):IxR X (fun x y H Q=>r x y H Q\/r' x y H Q):=by
  intro value slice pins s σ H x y v u Q I rx ry q hs
  rcases q with q | q
  · exact h value slice pins s σ H x y v u Q I rx ry q hs
  · exact h' value slice pins s σ H x y v u Q I rx ry q hs
theorem MtR.or {id:String} {r r':V->List V->Hp->VK->Prop} (h:MtR X id r) (h':MtR X id r'):MtR X id (fun x xs H Q=>r x xs H Q\/r' x xs H Q):=by
  intro pins s σ H x xs v us Q I rx rs q
  rcases q with q | q
  · exact h pins s σ H x xs v us Q I rx rs q
  · exact h' pins s σ H x xs v us Q I rx rs q
theorem zcv {r:R2} (hr:IxR X r) (ha:PE X a ta) (hb:PE X b tb) (hs:XG b):PE X (.Subscript a b pos) (tOp r ta tb):=by
  intro pins s σ H Q I h
  exact Subscript_ (binT ha hb I h fun v u s2 x y H2 I2 rx ry q=>hr a b pins s2 σ H2 x y v u Q I2 rx ry q (hs _ _))
def rIxL (K:PySem.W.Frag):R2:=fun x y H Q=>∃ p xs i v,x=.ref p/\y=.int i/\SqL K H p xs/\atI xs i=some v/\Q v H
def rIxT (K:PySem.W.Frag):R2:=fun x y H Q=>∃ p xs i v,x=.ref p/\y=.int i/\SqT K H p xs/\atI xs i=some v/\Q v H
def rIxS:R2:=fun x y H Q=>∃ z i c,x=.str z/\y=.int i/\z.length<=sizeLine/\atI z.cps.toList i=some c/\Q (.str ⟨#[c]⟩) H
theorem Qq:IxR X (rIxL X.K):=by
  intro value slice pins s σ H x y v u Q I rx ry h hs
  obtain ⟨p,xs,i,z,rfl,rfl,hq,he,q⟩:=h
  cases rx
  obtain ⟨t,rfl⟩:=ry
  obtain ⟨its,r,pl,hz⟩:=I.list hq
  obtain ⟨j,h1,h2,h3,h4,h5⟩:=Zk he
  obtain ⟨w,ew,rw'⟩:=r.get h2
  have hl:=r.length
  have hn:=vI
  have fin:EP X pins σ Q w s:=⟨z,H,I,rw',q⟩
  by_cases h0:0<=i
  · have hj:i.toNat=j:=by
      rw [seqIndex_of h0 h5] at h1
      exact Option.some.inj h1
    exact item_listR pl.isList h0 (by lia) (by rw [hj]; simpa using ew) fin hs
  · have hj:(i + (its.toArray.size:Int)).toNat=j:=by
      rw [seqIndex_neg (by lia) h4] at h1
      rw [List.size_toArray,<- hl]
      exact Option.some.inj h1
    exact subscriptTail_builtinR (x:=w) pl.isList.typeIs slot_list_getitem.lookup
      (wpAny_getItem_list_neg (Q:=fun r s'=>r=w/\EP X pins σ Q r s') pl.isList (by lia) (by rw [List.size_toArray] <;> lia) (by lia) (by rw [hj]; simpa using ew) ⟨rfl,fin⟩) hs
theorem zby:IxR X (rIxT X.K):=by
  intro value slice pins s σ H x y v u Q I rx ry h hs
  obtain ⟨p,xs,i,z,rfl,rfl,hq,he,q⟩:=h
  cases rx
  obtain ⟨t,rfl⟩:=ry
  obtain ⟨its,r,pl,hz⟩:=I.tuple hq
  obtain ⟨j,h1,h2,h3,h4,h5⟩:=Zk he
  obtain ⟨w,ew,rw'⟩:=r.get h2
  have hl:=r.length
  have hn:=vI
  have fin:EP X pins σ Q w s:=⟨z,H,I,rw',q⟩
  exact subscriptTail_builtinR (x:=w) pl.typeIs slot_tuple_getitem.lookup
    (getItem_tuple (j:=j) (Q:=fun r s'=>r=w/\EP X pins σ Q r s') pl (by lia) (by lia) (by rw [List.size_toArray,<- hl]; exact h1) (by simpa using ew) ⟨rfl,fin⟩) hs
theorem zbz:IxR X rIxS:=by
  intro value slice pins s σ H x y v u Q I rx ry h hs
  obtain ⟨z,i,c,rfl,rfl,hz,he,q⟩:=h
  obtain ⟨t,rfl⟩:=rx
  obtain ⟨t',rfl⟩:=ry
  obtain ⟨j,h1,h2,h3,h4,h5⟩:=Zk he
  have hl:z.cps.toList.length=z.length:=by simp [Str.length]
  rw [hl] at h1 h4 h5
  have hn:=vI
  exact tail_any (typeIs_str s z t) slot_str_getitem.lookup (getItem_str (c:=c) (by
    have e1:decide (i < -(2 ^ 63:Int))=false:=decide_eq_false (by lia)
    have e2:decide (i ≥ 2 ^ 63)=false:=decide_eq_false (by lia)
    rw [e1,e2,Bool.or_false]) (by rw [h1]; simpa using h2) ⟨.str ⟨#[c]⟩,H,I.tok _,⟨_,rfl⟩,q⟩) hs
theorem Inv.lst {pins:List (Addr × Obj)} {σ:St} {H:Hp} {s:Shared} {p:Addr} {xs:List V} (I:Inv X pins σ H s) (h:H p=some (.lst xs)) :
    ∃ (its:List Value) (n:Nat),Vals xs its/\s.heap.get? p=some { cls:=.type "list",data:=.seq its.toArray n }/\xs.length<=sizeLine:=by
  obtain ⟨z,its,n,r,e⟩:=I.hok p _ h
  exact ⟨its,n,r,e,z⟩
theorem Zl (lo hi:Option Int) (n:Nat):(sliceBounds lo hi none n).1=((HT.sIx n 0 lo:Nat):Int)/\(sliceBounds lo hi none n).2.1=((HT.sIx n n hi:Nat):Int)/\(sliceBounds lo hi none n).2.2=1:=by
  refine ⟨?_,?_,rfl⟩
  · cases lo with
    | none=>simp [sliceBounds,HT.sIx]
    | some i =>
      simp only [sliceBounds,HT.sIx,Option.getD_none,show (1:Int) > 0 by decide,if_true]
      by_cases h:i < 0
      · simp only [h,if_true] <;> lia
      · simp only [h,if_false] <;> lia
  · cases hi with
    | none=>simp [sliceBounds,HT.sIx]
    | some i =>
      simp only [sliceBounds,HT.sIx,Option.getD_none,show (1:Int) > 0 by decide,if_true]
      by_cases h:i < 0
      · simp only [h,if_true] <;> lia
      · simp only [h,if_false] <;> lia
theorem jx (its:List Value) (lo hi:Option Int):slicePick its.toArray lo hi none=((its.drop (HT.sIx its.length 0 lo)).take (HT.sIx its.length its.length hi - HT.sIx its.length 0 lo)).toArray:=by
  obtain ⟨h1,h2,h3⟩:=Zl lo hi its.toArray.size
  unfold slicePick
  rw [h1,h2,h3]
  simp only [sliceRange_one,pick_run,List.size_toArray] <;> rfl
def rSlL (K:PySem.W.Frag):V->Option Int->Option Int->Hp->VK->Prop:=fun x lo hi H Q=>∃ a xs,x=.ref a/\SqL K H a xs/\∀ p,H p=none->Q (.ref p) (upd H p (.lst (cutV xs lo hi)))
theorem Qr:SlR X (rSlL X.K):=by
  intro pins s σ H x v vl vu lo hi sl Q I rx hs pl pu h
  obtain ⟨a,xs,rfl,hx,q⟩:=h
  cases rx
  obtain ⟨its,r,ht,hz⟩:=I.list hx
  have hlen:=r.length
  refine ⟨"list",_,slot_list_getitem.lookup,ht.isList.typeIs,?_⟩
  refine wpAny_getItem_list_slice ht.isList hs pl pu .none (by simp) ?_ (by rw [List.size_toArray] <;> lia)
  rw [jx,<- hlen]
  refine ⟨.ref s.heap.objs.size,_,I.laid (t':=s.toks) (o:=.lst (cutV xs lo hi)) (fun b ob q=>Heap.get?_push_of_some _ q) (Nat.le_refl _) ?_,rfl,q _ (I.hok.fresh (Nat.le_refl _))⟩
  exact ⟨Nat.le_trans (vi xs lo hi) hz,_,0,(r.drop (HT.sIx xs.length 0 lo)).take (HT.sIx xs.length xs.length hi - HT.sIx xs.length 0 lo),Heap.get?_push_size _ rfl⟩
def wz:V->Bool
  | .non=>true
  | .bl _=>true
  | .int _=>true
  | .str _=>true
  | _=>false
def eqV:V->V->Bool
  | .non,.non=>true
  | .bl a,.bl b=>a == b
  | .bl a,.int b=>(if a then 1 else 0) == b
  | .int a,.bl b=>a == (if b then 1 else 0)
  | .int a,.int b=>a == b
  | .str a,.str b=>a == b
  | _,_=>false
theorem zbA {A:Around} {s:Shared} {y x:V} {u v:Value} (ry:RelV y u) (rx:RelV x v) (fy:wz y=true) (fx:wz x=true):SeqAt.EqAt A s u v (eqV y x):=by
  cases y with
  | non =>
    cases ry
    cases x with
    | non=>cases rx; exact SeqAt.EqAt.same _
    | bl b=>cases rx; exact SeqAt.EqAt.none_bool b
    | int b=>obtain ⟨t,rfl⟩:=rx; exact SeqAt.EqAt.none_int b t
    | str b=>obtain ⟨t,rfl⟩:=rx; exact SeqAt.EqAt.none_str b t
    | _=>exact absurd (show false=true from fx) Bool.false_ne_true
  | bl a =>
    cases ry
    cases x with
    | non=>cases rx; exact SeqAt.EqAt.bool_none a
    | bl b=>cases rx; exact SeqAt.EqAt.bool_bool a b
    | int b=>obtain ⟨t,rfl⟩:=rx; exact SeqAt.EqAt.bool_int a b t
    | str b=>obtain ⟨t,rfl⟩:=rx; exact SeqAt.EqAt.bool_str a b t
    | _=>exact absurd (show false=true from fx) Bool.false_ne_true
  | int a =>
    obtain ⟨t',rfl⟩:=ry
    cases x with
    | non=>cases rx; exact SeqAt.EqAt.int_none a t'
    | bl b=>cases rx; exact SeqAt.EqAt.int_bool a t' b
    | int b=>obtain ⟨t,rfl⟩:=rx; exact SeqAt.EqAt.int_int a t' b t
    | str b=>obtain ⟨t,rfl⟩:=rx; exact SeqAt.EqAt.int_str a t' b t
    | _=>exact absurd (show false=true from fx) Bool.false_ne_true
  | str a =>
    obtain ⟨t',rfl⟩:=ry
    cases x with
    | non=>cases rx; exact SeqAt.EqAt.str_none a t'
    | bl b=>cases rx; exact SeqAt.EqAt.str_bool a t' b
    | int b=>obtain ⟨t,rfl⟩:=rx; exact SeqAt.EqAt.str_int a t' b t
    | str b=>obtain ⟨t,rfl⟩:=rx; exact SeqAt.EqAt.str_str a t' b t
    | _=>exact absurd (show false=true from fx) Bool.false_ne_true
  | _=>exact absurd (show false=true from fy) Bool.false_ne_true
def eqU (x:V) (u:Value):Bool:=match u with
  | .none=>eqV .non x
  | .bool b=>eqV (.bl b) x
  | .int i _=>eqV (.int i) x
  | .str z _=>eqV (.str z) x
  | _=>false
theorem Vr {x y:V} {u:Value} (r:RelV y u) (f:wz y=true):eqU x u=eqV y x:=by
  cases y with
  | non=>cases r; rfl
  | bl b=>cases r; rfl
  | int i=>obtain ⟨t,rfl⟩:=r; rfl
  | str z=>obtain ⟨t,rfl⟩:=r; rfl
  | _=>exact absurd (show false=true from f) Bool.false_ne_true
theorem wA {x:V}:∀ {xs:List V} {us:List Value},Vals xs us->xs.all wz=true->us.any (eqU x)=xs.any fun y=>eqV y x
  | _,_,.nil,_=>rfl
  | y :: xs,u :: us,.cons r t,f=>by
    rw [List.all_cons,Bool.and_eq_true] at f
    rw [List.any_cons,List.any_cons,Vr r f.1,wA t f.2]
theorem xL {A:Around} {s:Shared} {x:V} {v:Value} (rx:RelV x v) (fx:wz x=true):∀ {xs:List V} {us:List Value},Vals xs us->xs.all wz=true->∀ u∈us,SeqAt.EqAt A s u v (eqU x u)
  | _,_,.nil,_=>fun u hu=>by cases hu
  | y :: xs,u :: us,.cons r t,f=>fun u' hu=>by
    rw [List.all_cons,Bool.and_eq_true] at f
    rcases List.mem_cons.mp hu with rfl | hu
    · rw [Vr r f.1]; exact zbA r rx f.1 fx
    · exact xL rx fx t f.2 u' hu
def inV (x:V) (xs:List V):Bool:=xs.any fun y=>eqV y x
def rIn (K:PySem.W.Frag) (neg:Bool):R2:=fun x y H Q=>∃ p xs,y=.ref p/\(SqL K H p xs\/SqT K H p xs)/\wz x=true/\xs.all wz=true/\Q (.bl (if neg then !inV x xs else inV x xs)) H
theorem Wy:OpR X (compareOp .In) (rIn X.K false):=by
  intro pins s σ H x y v u Q I rx ry h
  obtain ⟨p,xs,rfl,hq,fx,fs,q⟩:=h
  cases ry
  rcases hq with hq | hq
  · obtain ⟨its,r,pl,hz⟩:=I.list hq
    refine SeqAt.in_listAt (eqU x) pl.isList (fun w hw=>xL rx fx r fs w (by simpa using hw)) ⟨.bl _,H,I,rfl,?_⟩
    rw [show its.toArray.any (eqU x)=its.any (eqU x) by simp,wA r fs]
    exact q
  · obtain ⟨its,r,pl,hz⟩:=I.tuple hq
    refine SeqAt.in_tupleAt (eqU x) pl (fun w hw=>xL rx fx r fs w (by simpa using hw)) ⟨.bl _,H,I,rfl,?_⟩
    rw [show its.toArray.any (eqU x)=its.any (eqU x) by simp,wA r fs]
    exact q
theorem Zm:OpR X (compareOp .NotIn) (rIn X.K true):=by
  intro pins s σ H x y v u Q I rx ry h
  obtain ⟨p,xs,rfl,hq,fx,fs,q⟩:=h
  cases ry
  rcases hq with hq | hq
  · obtain ⟨its,r,pl,hz⟩:=I.list hq
    refine SeqAt.notIn_listAt (eqU x) pl.isList (fun w hw=>xL rx fx r fs w (by simpa using hw)) ⟨.bl _,H,I,rfl,?_⟩
    rw [show its.toArray.any (eqU x)=its.any (eqU x) by simp,wA r fs]
    exact q
  · obtain ⟨its,r,pl,hz⟩:=I.tuple hq
    refine SeqAt.notIn_tupleAt (eqU x) pl (fun w hw=>xL rx fx r fs w (by simpa using hw)) ⟨.bl _,H,I,rfl,?_⟩
    rw [show its.toArray.any (eqU x)=its.any (eqU x) by simp,wA r fs]
    exact q
theorem Zn:OpR X (compareOp .NotIn) (fun x y H Q=>∃ i j,x=.str i/\y=.str j/\Q (.bl (!(!(Builtin.Str.occurrences j i 0 j.length 1).isEmpty))) H):=by
  intro pins s σ H x y v u Q I rx ry h
  obtain ⟨i,j,rfl,rfl,q⟩:=h
  obtain ⟨t,rfl⟩:=rx
  obtain ⟨t',rfl⟩:=ry
  exact notIn_str ⟨.bl _,H,I,rfl,q⟩
theorem Zo:CallR X (.builtin "len") (fun xs H Q=>∃ p ys,xs=[.ref p]/\(SqL X.K H p ys\/SqT X.K H p ys)/\Q (.int ys.length) H):=by
  intro pins s σ H xs us Q I r h
  obtain ⟨p,ys,rfl,hq,q⟩:=h
  obtain ⟨u,rfl,rx⟩:=xK r
  cases rx
  have hn:=vI
  rcases hq with hq | hq
  · obtain ⟨its,r',pl,hz⟩:=I.list hq
    have hlen:=r'.length
    exact Calls.call_len_list pl.isList (by simp only [List.size_toArray] <;> lia) ⟨.int ys.length,H,I.tok _,⟨s.toks + 1,by rw [List.size_toArray,hlen]⟩,q⟩
  · obtain ⟨its,r',pl,hz⟩:=I.tuple hq
    have hlen:=r'.length
    exact len_tuple pl (by simp only [List.size_toArray] <;> lia) ⟨.int ys.length,H,I.tok _,⟨s.toks + 1,by rw [List.size_toArray,hlen]⟩,q⟩
theorem Zp:CallR X (.builtin "len") (fun xs H Q=>∃ z,xs=[.str z]/\z.length<=sizeLine/\Q (.int z.length) H):=by
  intro pins s σ H xs us Q I r h
  obtain ⟨z,rfl,hz,q⟩:=h
  obtain ⟨u,rfl,t,rfl⟩:=xK r
  have hn:=vI
  exact len_str (by lia) ⟨.int z.length,H,I.tok _,⟨_,rfl⟩,q⟩
theorem CallR.or {f:Value} {r r':List V->Hp->VK->Prop} (h:CallR X f r) (h':CallR X f r'):CallR X f (fun xs H Q=>r xs H Q\/r' xs H Q):=by
  intro pins s σ H xs us Q I rs q
  rcases q with q | q
  · exact h pins s σ H xs us Q I rs q
  · exact h' pins s σ H xs us Q I rs q
theorem Zq:CallR X (.type "list") (fun xs H Q=>∃ p ys,xs=[.ref p]/\(SqL X.K H p ys\/SqT X.K H p ys)/\∀ l,H l=none->Q (.ref l) (upd H l (.lst ys))):=by
  intro pins s σ H xs us Q I r h
  obtain ⟨p,ys,rfl,hq,q⟩:=h
  obtain ⟨u,rfl,rx⟩:=xK r
  cases rx
  have fin:∀ (its:List Value),Vals ys its->ys.length<=sizeLine->∀ (h':Heap) (c':Nat),(∀ b o',s.heap.get? b=some o'->h'.get? b=some o') ->
      h'.get? s.heap.objs.size=some { cls:=.type "list",dict:=none,data:=.seq its.toArray c',slots:=#[] }->EP X pins σ Q (.ref s.heap.objs.size) { s with heap:=h' }:=fun its r' hz h' c' kp e =>
    ⟨.ref s.heap.objs.size,_,I.laid (t':=s.toks) kp (Nat.le_refl _) (show ObjOk X.prog X.w _ h' _ (.lst ys) from ⟨hz,its,c',r',e⟩),rfl,q _ (I.hok.fresh (Nat.le_refl _))⟩
  rcases hq with hq | hq
  · obtain ⟨its,r',pl,hz⟩:=I.list hq
    have hlen:=r'.length
    obtain ⟨o,ho,hc,n,hd⟩:=pl.isList
    exact call_list_seq p (.inl rfl) ho hc hd (fun h' c' kp e=>fin its r' hz h' c' kp e) (by simp only [List.size_toArray] <;> lia)
  · obtain ⟨its,r',pl,hz⟩:=I.tuple hq
    have hlen:=r'.length
    obtain ⟨o,ho,hc,n,hd⟩:=pl
    exact call_list_seq p (.inr rfl) ho hc hd (fun h' c' kp e=>fin its r' hz h' c' kp e) (by simp only [List.size_toArray] <;> lia)
theorem jy:CallR X (.type "tuple") (fun xs H Q=>∃ p ys,xs=[.ref p]/\((SqL X.K H p ys/\∀ l,H l=none->Q (.ref l) (upd H l (.tup ys)))\/(SqT X.K H p ys/\Q (.ref p) H))):=by
  intro pins s σ H xs us Q I r h
  obtain ⟨p,ys,rfl,h⟩:=h
  obtain ⟨u,rfl,rx⟩:=xK r
  cases rx
  rcases h with ⟨hq,q⟩ | ⟨hq,q⟩
  · obtain ⟨its,r',pl,hz⟩:=I.list hq
    have hlen:=r'.length
    refine call_tuple_list pl.isList (fun h' kp=>?_) (by simp only [List.size_toArray] <;> lia)
    have I1:Inv X pins σ H { s with heap:=h' }:=I.kept (t':=s.toks) kp
    have I2:Inv X pins σ (upd H h'.objs.size (.tup ys)) { s with heap:=h'.push { cls:=.type "tuple",data:=.seq its.toArray } } :=
      I1.laid (t':=s.toks) (fun b o e=>Heap.get?_push_of_some _ e) (Nat.le_refl _) (show ObjOk X.prog X.w _ _ _ (.tup ys) from ⟨hz,its,r',IsTupN.new _ _⟩)
    exact ⟨.ref h'.objs.size,_,I2,rfl,q _ (I1.hok.fresh (Nat.le_refl _))⟩
  · obtain ⟨its,r',pl,hz⟩:=I.tuple hq
    exact call_tuple_same pl ⟨.ref p,H,I,rfl,q⟩
def tyV (K:PySem.W.Frag) (T:String) (x:V) (H:Hp):Prop:=match x with
  | .str _=>T="str"
  | .int _=>T="int"
  | .ref p=>(T="list"/\∃ xs,SqL K H p xs)\/(T="tuple"/\((∃ o,K.lookup p=some o/\o.cls=.type "tuple"/\o.dict=none)\/∃ xs,H p=some (.tup xs))) \/
      (T="dict"/\((∃ kvs,H p=some (.dK kvs))\/∃ kvs,H p=some (.dT kvs)))\/(T="set"/\∃ S n,H p=some (.set S n))
  | _=>False
theorem Vs {pins:List (Addr × Obj)} {σ:St} {H:Hp} {s:Shared} {T:String} {x:V} {v:Value} (I:Inv X pins σ H s) (r:RelV x v) (ty:tyV X.K T x H) :
    s.TypeIs v T/\∀ a,v=.ref a->∃ ob,s.heap.get? a=some ob/\ob.dict=none:=by
  cases x with
  | str z =>
    obtain ⟨t,rfl⟩:=r
    cases (show T="str" from ty)
    exact ⟨typeIs_str s z t,fun _ e=>nomatch e⟩
  | int i =>
    obtain ⟨t,rfl⟩:=r
    cases (show T="int" from ty)
    exact ⟨typeIs_int s i t,fun _ e=>nomatch e⟩
  | ref p =>
    cases r
    rcases ty with ⟨rfl,xs,hq⟩ | ⟨rfl,⟨o,hk,hc,hd⟩ | ⟨xs,hk⟩⟩ | ⟨rfl,hk⟩ | ⟨rfl,S,n,hk⟩
    · obtain ⟨its,_,pl,_⟩:=I.list hq
      refine ⟨pl.isList.typeIs,fun a e=>?_⟩
      cases e
      obtain ⟨o,n,e,c,hd,_⟩:=pl
      exact ⟨o,e,hd⟩
    · refine ⟨⟨o,I.kIn p o hk,hc⟩,fun a e=>?_⟩
      cases e
      exact ⟨o,I.kIn _ o hk,hd⟩
    · obtain ⟨_,_,_,o,ho,hc,hd,_⟩:=I.hok p _ hk
      refine ⟨⟨o,ho,hc⟩,fun a e=>?_⟩
      cases e
      exact ⟨o,ho,hd⟩
    · have z:∃ o,s.heap.get? p=some o/\o.ExactDict:=by
        rcases hk with ⟨kvs,hk⟩ | ⟨kvs,hk⟩
        · obtain ⟨_,_,_,_,o,_,_,e,ex,_⟩:=I.hok p _ hk
          exact ⟨o,e,ex⟩
        · obtain ⟨_,_,_,_,o,_,_,e,ex,_⟩:=I.hok p _ hk
          exact ⟨o,e,ex⟩
      obtain ⟨o,e,ex⟩:=z
      refine ⟨⟨o,e,ex.1⟩,fun a e2=>?_⟩
      cases e2
      exact ⟨o,e,ex.2.1⟩
    · obtain ⟨o,_,_,_,e,ex,_⟩:=I.hok p _ hk
      refine ⟨⟨o,e,ex.1⟩,fun a e2=>?_⟩
      cases e2
      exact ⟨o,e,ex.2.1⟩
  | _=>exact False.elim ty
def tBM0 (K:PySem.W.Frag) (T:String) (r:V->List V->Hp->VK->Prop) (to:TE):TE:=fun σ H Q=>to σ H fun x H1=>tyV K T x H1/\r x [] H1 Q
def tBM (K:PySem.W.Frag) (T:String) (r:V->List V->Hp->VK->Prop) (to:TE) (t:TA):TE:=fun σ H Q=>to σ H fun x H1=>tyV K T x H1/\t σ H1 fun xs H2=>r x xs H2 Q
variable {o e:Expr} {es:List Expr} {to:TE} {t:TA} {name:Str} {apos cpos:Pos} {T id:String} {r:V->List V->Hp->VK->Prop}
theorem zbB (pa:PlainAttrs T) (slot:Slot T name id) (hty:typeOf (.builtin id)=pure (.type "method_descriptor")) (hm:MtR X id r) (ho:PE X o to)
    (hbase:attributeBase o name X.env (eval o X.env)=eval o X.env:=by rfl) (hline:(apos.endLine == cpos.line)=true:=by rfl):PE X (.Call (.Attribute o name apos) [] [] cpos) (tBM0 X.K T r to):=by
  intro pins s σ H Q I h
  refine wpAny_Call_method0_late hbase hline (thn (ho pins s σ H _ I h) fun v s1 ⟨x,H1,I1,r1,ty,q1⟩=>?_)
  obtain ⟨h1,h2⟩:=Vs I1 r1 ty
  exact ⟨T,id,pa,slot,hty,h1,h2,Calls.callWith_builtin rfl (PySem.evalArgs_none (hm pins s1 σ H1 x [] v [] Q I1 r1 .nil q1))⟩
theorem zcw (pa:PlainAttrs T) (slot:Slot T name id) (hty:typeOf (.builtin id)=pure (.type "method_descriptor")) (hm:MtR X id r) (ho:PE X o to) (ha:PA X (e :: es) t)
    (hbase:attributeBase o name X.env (eval o X.env)=eval o X.env:=by rfl)
    (hfew:((backTo cpos (starEach (e :: es) X.env)).all (fun x=>!x.1) && (backToKw cpos (keywordEach [] X.env)).all (fun x=>x.1.isSome)
      && decide ((e :: es).length + ([]:List Keyword).length + (if ([]:List Keyword).isEmpty then 0 else 1) < 30))=true:=by rfl)
    (hline:(apos.endLine == cpos.line)=true:=by rfl) (hs:starEach (e :: es) X.env=(false,eval e X.env) :: starEach es X.env:=by rfl) (hplain:(backTo cpos (starEach es X.env)).any (·.1)=false:=by rfl) :
    PE X (.Call (.Attribute o name apos) (e :: es) [] cpos) (tBM X.K T r to t):=by
  intro pins s σ H Q I h
  refine wpAny_Call_method_late hbase hfew hline rfl (thn (ho pins s σ H _ I h) fun v s1 ⟨x,H1,I1,r1,ty,q1⟩=>?_)
  obtain ⟨h1,h2⟩:=Vs I1 r1 ty
  refine ⟨T,id,pa,slot,hty,h1,h2,?_⟩
  have hA:=ha cpos pins s1 σ H1 _ I1 q1
  rw [hs] at hA ⊢
  refine Calls.callWith_builtin (by show (false || (backTo cpos (starEach es X.env)).any (·.1))=false; rw [hplain] <;> rfl) (Calls.evalArgs_plain ?_)
  exact thn hA fun us s2 ⟨vs,H2,I2,r2,q2⟩=>hm pins s2 σ H2 x vs v us Q I2 r1 r2 q2
end
end L2
namespace L2
open PySem PySem.Spec PyProof.Rows
def MtM (X:Cx) (id:String) (r:V->List V->Hp->VK->Prop):Prop :=
  ∀ (pins:List (Addr × Obj)) (s:Shared) (σ:St) (H:Hp) (x:V) (xs:List V) (v:Value) (us:List Value) (Q:VK),Inv X pins σ H s->RelV x v->Vals xs us->r x xs H Q ->
    wpAny (model X.prog X.w) X.A (call (.builtin id) (v :: us)) (EP X pins σ Q) X.xe s
theorem Vals.one:∀ {x:V} {us:List Value},Vals [x] us->∃ u,us=[u]/\RelV x u
  | _,_,.cons r .nil=>⟨_,rfl,r⟩
theorem Vals.two:∀ {x y:V} {us:List Value},Vals [x,y] us->∃ u v,us=[u,v]/\RelV x u/\RelV y v
  | _,_,_,.cons r (.cons q .nil)=>⟨_,_,rfl,r,q⟩
theorem Vals.zero:∀ {us:List Value},Vals [] us->us=[]
  | _,.nil=>rfl
theorem Vals.dropLast {xs:List V} {us:List Value} (h:Vals xs us):Vals xs.dropLast us.dropLast:=by
  induction h with
  | nil=>exact .nil
  | cons r t ih =>
    cases t with
    | nil=>exact .nil
    | cons q t'=>exact .cons r ih
theorem Vals.eraseIdx:∀ {xs:List V} {us:List Value} (i:Nat),Vals xs us->Vals (xs.eraseIdx i) (us.eraseIdx i)
  | _,_,_,.nil=>.nil
  | _,_,0,.cons _ t=>t
  | _,_,i + 1,.cons r t=>.cons r (Vals.eraseIdx i t)
theorem Vals.reverse {xs:List V} {us:List Value} (h:Vals xs us):Vals xs.reverse us.reverse:=by
  induction h with
  | nil=>exact .nil
  | cons r t ih=>rw [List.reverse_cons,List.reverse_cons]; exact Vals.append ih (.cons r .nil)
theorem YK {α:Type} (l:List α):l.eraseIdx (l.length - 1)=l.dropLast:=by
  induction l with
  | nil=>rfl
  | cons a r ih =>
    cases r with
    | nil=>rfl
    | cons b r =>
      have e:(a :: b :: r).length - 1=((b :: r).length - 1) + 1:=by
        have h1:(a :: b :: r).length=r.length + 2:=rfl
        have h2:(b :: r).length=r.length + 1:=rfl
        lia
      rw [e,List.eraseIdx_cons_succ,ih]
      all_goals rfl
section
variable {X:Cx} {pins:List (Addr × Obj)} {σ:St} {H:Hp} {s:Shared} {l b:Addr} {xs ys zs:List V}
theorem Inv.lset {its its':List Value} {n:Nat} {f:Array Value->Array Value} {t':Nat} (I:Inv X pins σ H s) (hH:H l=some (.lst xs))
    (e:s.heap.get? l=some { cls:=.type "list",data:=.seq its.toArray n }) (hf:f its.toArray=its'.toArray) (hv:Vals ys its') (hz:ys.length<=sizeLine) :
    Inv X pins σ (upd H l (.lst ys)) { s with heap:=s.heap.update l (Obj.mapSeq f),toks:=t' }:=by
  have q:=PySem.IsL.update e f
  rw [hf] at q
  refine I.write (x:=l) (e:=l) (by rw [hH]; exact trivial) (.inl rfl) (fun b' u hb hu=>(Heap.get?_update_other s.heap (Obj.mapSeq f) (Ne.symm hb)).trans hu) ⟨_,q⟩ ?_
  exact ⟨hz,its',_,hv,q⟩
theorem Inv.lnew {its:List Value} {t':Nat} (I:Inv X pins σ H s) (hv:Vals ys its) (hz:ys.length<=sizeLine) :
    Inv X pins σ (upd H s.heap.objs.size (.lst ys)) { s with heap:=s.heap.push { cls:=.type "list",data:=.seq its.toArray },toks:=t' } :=
  I.laid (fun _ _ q=>Heap.get?_push_of_some _ q) (Nat.le_refl _) ⟨hz,its,0,hv,Heap.get?_push_size _ rfl⟩
theorem Inv.fresh (I:Inv X pins σ H s):H s.heap.objs.size=none:=I.hok.fresh (Nat.le_refl _)
theorem Inv.lstM (I:Inv X pins σ H s) (hH:H l=some (.lst xs)):xs.length<=sizeLine/\∃ (its:List Value) (n:Nat),Vals xs its/\xs.length=its.length/\s.heap.get? l=some { cls:=.type "list",data:=.seq its.toArray n }:=by
  obtain ⟨z,its,n,r,e⟩:=I.hok l _ hH
  exact ⟨z,its,n,r,r.length,e⟩
theorem Vt {n:Nat} (h:n<=sizeLine):Builtin.List.listTooLong n=false:=by
  unfold Builtin.List.listTooLong
  exact decide_eq_false (by lia)
end
section
variable {X:Cx}
def XH:V->List V->Hp->VK->Prop:=fun x vs H Q=>∃ l xs y,x=.ref l/\vs=[y]/\H l=some (.lst xs)/\xs.length < sizeLine/\Q .non (upd H l (.lst (xs ++ [y])))
theorem Wz:MtM X "list.append" XH:=by
  intro pins s σ H x vs v us Q I rx rv h
  obtain ⟨l,xs,y,rfl,rfl,hH,hz,q⟩:=h
  cases rx
  obtain ⟨u,rfl,ru⟩:=rv.one
  obtain ⟨z,its,n,r,hl,e⟩:=I.lstM hH
  refine call_meets F.slot_list_append ⟨_,e,rfl⟩ F.entry_list_append (F.args_list_append_2 _ _) (PySem.list_append l its.toArray n u (by rw [List.size_toArray]; lia)) ⟨e,?_⟩
  refine ⟨.non,_,I.lset (its':=its ++ [u]) hH e (by simp) (r.append (.cons ru .nil)) ?_,rfl,q⟩
  rw [List.length_append,List.length_singleton]
  lia
def XI:V->List V->Hp->VK->Prop:=fun x vs H Q=>∃ l b xs zs,x=.ref l/\vs=[.ref b]/\H l=some (.lst xs)/\H b=some (.lst zs)/\xs.length + zs.length<=sizeLine/\Q .non (upd H l (.lst (xs ++ zs)))
theorem WA:MtM X "list.extend" XI:=by
  intro pins s σ H x vs v us Q I rx rv h
  obtain ⟨l,b,xs,zs,rfl,rfl,hH,hB,hz,q⟩:=h
  cases rx
  obtain ⟨u,rfl,ru⟩:=rv.one
  cases ru
  obtain ⟨z,its,n,r,hl,e⟩:=I.lstM hH
  obtain ⟨z2,its2,n2,r2,hl2,e2⟩:=I.lstM hB
  have hsz:its.toArray.size + its2.toArray.size<=sizeLine:=by rw [List.size_toArray,List.size_toArray]; lia
  have hlong:¬ (!its.toArray.isEmpty && Builtin.List.listTooLong (its.toArray.size + its2.toArray.size))=true:=by
    rw [Vt hsz,Bool.and_false]
    exact Bool.false_ne_true
  refine call_meets F.slot_list_extend ⟨_,e,rfl⟩ F.entry_list_extend (F.args_list_extend_2 _ _)
    (AutoSeq1.list_extend_list_list_0 l its.toArray n b its2.toArray n2 hlong (by rw [List.size_toArray]; lia) (by lia)) ⟨e,e2,?_⟩
  refine ⟨.non,_,I.lset (its':=its ++ its2) hH e (by simp) (r.append r2) ?_,rfl,q⟩
  rw [List.length_append]
  lia
def rPop:V->List V->Hp->VK->Prop:=fun x vs H Q=>∃ l xs y,x=.ref l/\vs=[]/\H l=some (.lst xs)/\xs[xs.length - 1]?=some y/\Q y (upd H l (.lst xs.dropLast))
theorem zbC:MtM X "list.pop" rPop:=by
  intro pins s σ H x vs v us Q I rx rv h
  obtain ⟨l,xs,y,rfl,rfl,hH,hy,q⟩:=h
  cases rx
  have hus:=rv.zero
  subst hus
  obtain ⟨z,its,n,r,hl,e⟩:=I.lstM hH
  obtain ⟨u,hu,ru⟩:=r.get hy
  have hy':its.toArray[its.toArray.size - 1]?=some u:=by
    show its.toArray[its.length - 1]?=some u
    rw [<- Array.getElem?_toList,<- hl]
    exact hu
  refine call_meets F.slot_list_pop ⟨_,e,rfl⟩ F.entry_list_pop (F.args_list_pop_1 _) (MeetsSeq.list_pop_last l its.toArray n u hy' (by rw [List.size_toArray]; lia)) ⟨e,?_⟩
  refine ⟨y,_,I.lset (its':=its.dropLast) hH e ?_ r.dropLast ?_,ru,q⟩
  · show its.toArray.eraseIdxIfInBounds (its.toArray.size - 1)=its.dropLast.toArray
    rw [List.size_toArray,List.eraseIdxIfInBounds_toArray,YK]
  · rw [List.length_dropLast]
    lia
def rCat:R2:=fun x y H Q=>∃ l b xs zs,x=.ref l/\y=.ref b/\H l=some (.lst xs)/\H b=some (.lst zs)/\xs.length + zs.length<=sizeLine/\∀ p,H p=none->Q (.ref p) (upd H p (.lst (xs ++ zs)))
theorem zbD:OpR X (binaryOp .Add) rCat:=by
  intro pins s σ H x y v u Q I rx ry h
  obtain ⟨l,b,xs,zs,rfl,rfl,hH,hB,hz,q⟩:=h
  cases rx
  cases ry
  obtain ⟨z,its,n,r,hl,e⟩:=I.lstM hH
  obtain ⟨z2,its2,n2,r2,hl2,e2⟩:=I.lstM hB
  refine PySem.P.add_list e e2 ?_ (by rw [List.size_toArray,List.size_toArray]; lia)
  have ea:its.toArray ++ its2.toArray=(its ++ its2).toArray:=by simp
  rw [ea]
  exact ⟨.ref _,_,I.lnew (t':=s.toks) (r.append r2) (by rw [List.length_append]; lia),rfl,q _ I.fresh⟩
end
section
variable {prog:Program} {w:World} {A:Around} {E:Value->Shared->Prop} {s:Shared}
end
section
variable {X:Cx}
end
end L2
namespace Att
open PySem PySem.W PySem.Calls PyProof.Rows
theorem vt {P:Params} {h:Heap}:∀ (ns:List Int) (vs:List Value),WellAll P h vs (ns.map WData.int)->IntsAre vs ns:=by
  intro ns
  induction ns with
  | nil =>
    intro vs w
    rw [List.map_nil] at w
    cases w
    exact .nil
  | cons n ns ih =>
    intro vs w
    rw [List.map_cons] at w
    cases w with
    | cons a b =>
      cases a
      exact .cons _ _ (ih _ b)
theorem WB {l:OpenLaw} {n:Nat} (hn:l.most=some n) {P:Params} {h:Heap} {args:List WData} {vals:List Value}
    (hpre:l.row.toRowW.claim.pre args=true) (hwl:WellAll P h vals args) :
    ∃ a vs ns,vals=[Value.ref a]/\args=[WData.list (ns.map WData.int)]/\h.get? a=some { cls:=.type "list",data:=.seq vs.toArray }/\IntsAre vs ns/\ns.length<=n:=by
  have hsh:WShape.hasAll [] args [.list .int]=true:=(pre_splitW hpre).1
  have hc:l.pre.holds [] { args:=args }=true:=(pre_splitW hpre).2
  obtain ⟨d,r,rfl,h1,h2⟩:=hasAllW_cons hsh
  obtain rfl:=hasAllW_nil h2
  obtain ⟨xs,rfl,h3⟩:=hasW_list h1
  obtain ⟨ns,rfl⟩:=items_int h3
  have hlen:ns.length<=n:=by
    unfold OpenLaw.pre at hc
    have h4:(WTm.not (.lt (.lit (.int (n:Int))) (.len (.arg 0)))).holds [] { args:=[.list (ns.map .int)] }=true:=by
      have h4:=(holds_andW hc).1
      rw [hn] at h4
      exact h4
    have h5:=condW_of h4 (w_not (w_lt w_lit (w_len_list (w_arg rfl))))
    rw [List.length_map] at h5
    refine Nat.le_of_not_lt fun q=>?_
    have q':(n:Int) < ((ns.length:Nat):Int):=by lia
    first
      | (rw [decide_eq_true q'] at h5; exact absurd h5 (by decide))
      | (simp at h5; lia)
  cases hwl with
  | cons w1 w2 =>
    cases w2
    cases w1 with
    | list ho hall=>exact ⟨_,_,ns,rfl,rfl,ho,vt ns _ hall,hlen⟩
theorem WC (l:OpenLaw) (args:List WData):l.row.toRowW.claim.post args (.bool true) args=true :=
  postW_of (r:=l.row.toRowW) (X:=(true == true))
    (show WShape.has [] (.bool true) .bool=true by first | rfl | decide | simp [WShape.has,WShape.arms,WShape.armsAll])
    (show (WTm.eq .res (.lit (.bool true))).value [] { args:=args,res:=some (.bool true),after:=args }=some (.bool (true == true)) from w_eq_bool (w_res rfl) w_lit) rfl
theorem attach_call {l:OpenLaw} {n:Nat} {q:Program} {loose:List Str} {XP:(Str->Option Value)->Heap->Prop} {YP:World->Heap->Prop} {d:DefRec}
    (hn:l.most=some n) (hdf:d.params.defaults=[])
    (call:∀ (w:World) (s₀ s₁:Shared) (mg mb:Str->Option Value) (fa:Addr) (o:Obj) (pm cd doc:Value) (a:Addr) (vs:List Value) (ns:List Int),
      Ground q loose [] XP w s₀ mg mb s₁.heap->YP w s₁.heap ->
      s₁.heap.get? fa=some o->o.data=.func (docDef d.name d.params d.body d.scope pm cd doc)->s₁.heap.CodeRec cd d.name->mg d.name=some (.ref fa) ->
      s₁.heap.get? a=some { cls:=.type "list",data:=.seq vs.toArray }->IntsAre vs ns->ns.length<=n->s₁.gens=#[] ->
      codeAny (model l.prog w) callerA (.call (.ref fa) ⟨[.ref a],[]⟩) (fun r s'=>r=.ok (.ret (.bool true))/\OldK s₁.heap s'.heap/\s'.os=s₁.os/\AllBare s'.gens) s₁) :
    WalkO q loose XP YP l.row.toRowW d [] (fun f vs=>PySem.call f vs):=by
  intro w s₀ s₁ mg mb G Y fa o pm cd doc dV kV ho hd hcd hD hmg hg args vals as hpre hlay hrd hwl hlo
  obtain rfl:dV=.none:=Dflts.none hD hdf
  obtain rfl:kV=.none:=Dflts.noKw hD
  obtain ⟨a,vs,ns,rfl,rfl,hobj,hints,hlen⟩:=WB hn hpre hwl
  refine enter_call (codeAny_mono (call w s₀ s₁ mg mb fa o pm cd doc a vs ns G Y ho (fd_plain hd) hcd hmg hobj hints hlen hg) fun r s' hq=>?_)
  obtain ⟨rfl,h2,h3,h4⟩:=hq
  exact ⟨.inl ⟨.bool true,.bool true,[],rfl,fun _=>rfl,.bool true,WC l _,fun _=>⟨List.Pairwise.nil,fun _ hm=>(nomatch hm)⟩⟩,h2,h3,h4⟩
section
variable {prog:Program} {w:World} {A:Around} {E:Value->Shared->Prop} {s:Shared} {K:Frag}
def zcO (h:Heap) (L d:Addr):List (Addr × Obj):=(List.range h.objs.size).filterMap fun a=>if a=L\/a=d then none else (h.get? a).map fun o=>(a,o)
end
end Att
namespace L2
open PySem PySem.Spec PyProof.Rows
theorem jQ:∀ {vs:List Value} {ns:List Int},IntsAre vs ns->Vals (ns.map V.int) vs
  | _,_,.nil=>.nil
  | _,_,.cons n t h=>.cons ⟨t,rfl⟩ (jQ h)
def Only (H:Hp):Prop:=∀ b,H b=none\/∃ o xs,H b=some (.frz o (.lst xs))
theorem Vu {P:Program} {w:World} {K:PySem.W.Frag} {mg mb:Str->Option Value} {CX:CXT} {k:Nat} {fa a:Addr} {fd:FuncData} {x:Str} {sp:Sp} {s₁:Shared} {vs:List Value} {ns:List Int}
    (KX:K.In s₁.heap) (hns:s₁.heap.Ns mainGlobals mg) (hb:s₁.heap.Ns builtinsNs mb) (hbb:∀ x:Str,x≠"__name__"->mb x=bootBuiltins x) (hlim:s₁.heap.NoLimit) (hg:s₁.gens=#[])
    (ha:s₁.heap.get? a=some { cls:=.type "list",data:=.seq vs.toArray }) (hi:IntsAre vs ns) (hl:ns.length<=sizeLine) (hr:Room k callerA)
    (F:∀ base:Heap,K.In base->base.Ns mainGlobals mg->FnOk P w K mg base CX k fa fd [x] sp) (hbind:∀ (s:Shared) (u:Value),BindsTo s fd ⟨[u],[]⟩ [(x,u)])
    (hsp:∀ H:Hp,Only H->SqL K H a (ns.map V.int)->sp [.ref a] H (fun v _=>v=.bl true) fun _ _ _=>False)
    (hCX:∀ H e s',CX [] H s₁ (fun _ _ _=>False) e s'->False) :
    codeAny (model P w) callerA (.call (.ref fa) ⟨[.ref a],[]⟩) (fun r s'=>r=.ok (.ret (.bool true))/\OldK s₁.heap s'.heap/\s'.os=s₁.os/\AllBare s'.gens) s₁:=by
  have rv:=jQ hi
  have lenV:=hi.length
  have core:∀ H:Hp,Only H->SqL K H a (ns.map V.int)->HOk P w H s₁.heap->(∀ b,H b≠none->b=a)->(H a≠none->K.lookup a=none) ->
      codeAny (model P w) callerA (.call (.ref fa) ⟨[.ref a],[]⟩) (fun r s'=>r=.ok (.ret (.bool true))/\OldK s₁.heap s'.heap/\s'.os=s₁.os/\AllBare s'.gens) s₁:=by
    intro H hO hS hok hA hK
    have base_of:∀ {b:Addr} {o:Obj},s₁.heap.get? b=some o->H b=none->(hidT s₁.heap H).get? b=some o:=fun e n=>W5 e n
    have noA:∀ {b:Addr} {o:Obj} {es:Array DictEntry} {ep:Nat},s₁.heap.get? b=some o->o.data=.dict es ep->H b=none:=fun {b o es ep} e d=>by
      cases q:H b with
      | none=>rfl
      | some u =>
        have e':b=a:=hA b (by rw [q]; simp)
        subst e'
        rw [ha] at e; cases e
        have d':Data.seq vs.toArray _=Data.dict es ep:=d
        cases d'
    have nsK:∀ {b:Addr} {m:Str->Option Value},s₁.heap.Ns b m->(hidT s₁.heap H).Ns b m:=fun {b m} ⟨o,es,ep,e,d,r⟩=>⟨o,es,ep,base_of e (noA e d),d,r⟩
    have hKb:K.In (hidT s₁.heap H):=fun b o e=>base_of (KX b o e) (by
      cases q:H b with
      | none=>rfl
      | some u =>
        have e':b=a:=hA b (by rw [q]; simp)
        subst e'
        rw [hK (by rw [q]; simp)] at e; cases e)
    have hM:Mod K mg (hidT s₁.heap H):=⟨hKb,nsK hns,⟨mb,nsK hb,hbb⟩,let ⟨mc,h1,h2⟩:=hlim; ⟨mc,nsK h1,h2⟩⟩
    have e0:Env0 P w K mg (hidT s₁.heap H) callerA [] s₁ H:=⟨rfl,hM,fun b o e=>JX e,Nat.le_of_eq (Wo _ _),trivial,fun b hb=>absurd (show b∈([]:List Addr) from hb) (by simp),hok,.of_eq hg⟩
    refine codeAny_mono ((F _ hKb (nsK hns)).run callerA [] s₁ H ⟨[.ref a],[]⟩ [.ref a] [.ref a] _ _ hr e0 (hbind s₁ (.ref a)) (.cons rfl .nil) (hsp H hO hS)) fun r s' h=>?_
    cases r with
    | error e=>exact (hCX H e s' h).elim
    | ok fl =>
      cases fl with
      | next=>exact False.elim h
      | brk=>exact False.elim h
      | cont=>exact False.elim h
      | ret u =>
        obtain ⟨v,H',os,bare,un,hok',r',q⟩:=h
        have q':v=.bl true:=q
        subst q'
        obtain rfl:u=Value.bool true:=r'
        refine ⟨rfl,OldK.of_keep fun b o e=>?_,os,bare⟩
        cases q:H b with
        | none=>exact un.keep b o e q (by intro z; exact absurd (show b∈([]:List Addr) from z) (by simp)) (by simp)
        | some u =>
          rcases hO b with z | ⟨ob,xs,z⟩
          · rw [q] at z; cases z
          · have z2:=un.frzs b ob _ z
            obtain ⟨e1,_⟩:=hok b _ z
            obtain ⟨e2,_⟩:=hok' b _ z2
            rw [e] at e1; cases e1
            exact e2
  cases hk:K.lookup a with
  | some o =>
    have e:=KX a o hk
    rw [ha] at e
    cases e
    refine core (fun _=>none) (fun _=>.inl rfl) (.inr ⟨_,vs.toArray,_,hk,rfl,rfl,rfl,by rw [List.size_toArray,lenV]; exact hl,by simpa using rv⟩) (fun b u z=>by have z':(none:Option HO)=some u:=z; cases z') (fun b z=>absurd rfl z) fun z=>absurd rfl z
  | none =>
    refine core (fun b=>if b=a then some (.frz { cls:=.type "list",data:=.seq vs.toArray } (.lst (ns.map V.int))) else none) (fun b=>?_) (.inl (.inr ⟨{ cls:=.type "list",data:=.seq vs.toArray },if_pos rfl⟩)) (fun b u z=>?_) (fun b z=>?_) fun _=>hk
    · by_cases hb:b=a
      · exact .inr ⟨_,_,if_pos hb⟩
      · exact .inl (if_neg hb)
    · by_cases hb:b=a
      · have z':=(if_pos hb).symm.trans z
        cases z'
        subst hb
        exact ⟨ha,by rw [List.length_map]; exact hl,vs,_,rv,ha⟩
      · have z':=(if_neg hb).symm.trans z
        cases z'
    · by_cases hb:b=a
      · exact hb
      · exact absurd (if_neg hb) z
end L2
namespace L2
open PySem PySem.Spec PyProof.Rows
theorem walk_of {l:PySem.W.OpenLaw} {n k:Nat} {q:Program} {loose:List Str} {XP:(Str->Option Value)->Heap->Prop} {YP:World->Heap->Prop} {d:DefRec} {K:Params->PySem.W.Frag} {CX:World->CXT} {sp:World->Sp} {x:Str}
    (hn:l.most=some n) (hn2:n<=sizeLine) (hdf:d.params.defaults=[]) (hr:Room k callerA)
    (hY:∀ (w:World) (h:Heap),YP w h->(K w.params).In h)
    (F:∀ (w:World) (mg:Str->Option Value) (fa:Addr) (h:Heap),(K w.params).In h->h.Ns mainGlobals mg->mg d.name=some (.ref fa) ->
      ∃ fd:FuncData,(∀ (s:Shared) (u:Value),BindsTo s fd ⟨[u],[]⟩ [(x,u)]) /\
        ∀ base:Heap,(K w.params).In base->base.Ns mainGlobals mg->FnOk l.prog w (K w.params) mg base (CX w) k fa fd [x] (sp w))
    (hsp:∀ (w:World) (H:Hp) (a:Addr) (ns:List Int),ns.length<=n->Only H->SqL (K w.params) H a (ns.map V.int)->sp w [.ref a] H (fun v _=>v=.bl true) fun _ _ _=>False)
    (hCX:∀ (w:World) (H:Hp) (s:Shared) (e:Value) (s':Shared),CX w [] H s (fun _ _ _=>False) e s'->False) :
    PySem.W.WalkO q loose XP YP l.row.toRowW d [] (fun f vs=>PySem.call f vs):=by
  refine Att.attach_call hn hdf fun w s₀ s₁ mg mb fa o pm cd doc a vs ns G Y ho hd hcd hmg hobj hints hlen hg=>?_
  have KX:=hY w _ Y
  obtain ⟨fd,hb,hF⟩:=F w mg fa _ KX G.T.g hmg
  exact Vu KX G.T.g G.T.b G.T.builtins G.T.nolimit hg hobj hints (Nat.le_trans hlen hn2) hr hF hb (fun H hO hS=>hsp w H a ns hlen hO hS) fun H e s'=>hCX w H s₁ e s'
end L2
/- THE LAST THEOREM (shape; LID, My.* are yours):
   My.Adr: a structure of the addresses that your layer names (classes,functions); My.Txt K t: a structure (Prop) of the equations over K;
   My.txt_mk:{K} {implicit addresses ..} (e1:nsIn K mainGlobals "law"=some (some (.ref f))) (e2:K.lookup f=some ⟨oc,od,.func (fnOf "law" "law" params body scope dV kV doc pm an cdv ct),sl⟩) (e3:codeIn K cdv "law"=true) ..:∃ t,My.Txt K t
set_option maxRecDepth 100000 in
set_option maxHeartbeats 0 in
theorem PySem.Challenge.cw_LID_holds : PySem.Challenge.rw_LID.Holds := by
  w_on; o_law; k_head; (case hw=>w_witness2)
  k_fill
  refine L2.walk_of (l:=PySem.Challenge.rw_LID) (n:=63) (k:=40) (x:="script") (CX:=fun w=>..) (sp:=fun _=>My.sp_law) rfl (by decide) rfl ⟨rfl,by decide,by decide⟩ (fun w h Y=>PySem.W.kIn_of Y) ?F ?S ?C
  case F =>
    intro w mg fa h KX G hmg
    have T:∃ t,My.Txt (L2.KOf KX) t:=by
      dsimp only [L2.KOf]                          -- K must stand as «<heap const> w.params» for k_is
      refine' My.txt_mk ?e1 ?e2 ?e3 ..
      (case e1 => PySem.W.k_is)                    -- in the order: a name -> its address -> its object -> its parts
      (case e2=>PySem.W.k_is)
      ..
    obtain ⟨t,T⟩:=T
    have e0:=hmg.symm.trans (PySem.W.mg_of KX G T.law)
    cases e0                                       -- fa is the law's own address
    exact ⟨_, fun s u => .of_eq rfl, fun base kb nb => My.law_fn T kb nb⟩     -- if «.of_eq rfl» comes too early: refine' ⟨_, ?b, fun base kb nb => My.law_fn T kb nb⟩; exact fun s u => .of_eq rfl
  case S=>exact fun w H a ns hl hO hS=>..
  case C=>exact ..
(the tactic k_is has no namespace: write k_is) -/
namespace L2
open PySem PySem.Spec PyProof.Rows
def yp (s:Stmt) (j:Nat):Stmt:=match s with
  | .ClassDef _ _ _ body _ _ _ _ _ _ _=>body.getD j (.Pass ⟨0,0,0,0⟩)
  | _=>.Pass ⟨0,0,0,0⟩
def yM (s:Stmt):Arguments:=match s with
  | .FunctionDef _ a _ _ _ _ _ _ _ _=>a
  | _=>{ posonlyargs:=[],args:=[],vararg:=none,kwonlyargs:=[],kw_defaults:=[],kwarg:=none,defaults:=[] }
def yx (s:Stmt):List Stmt:=match s with
  | .FunctionDef _ _ b _ _ _ _ _ _ _=>b
  | _=>[]
def zn (s:Stmt):Scope:=match s with
  | .FunctionDef _ _ _ _ _ _ sc _ _ _=>sc
  | _=>{ kind:=.function,names:=[],isGenerator:=false,isCoroutine:=false }
abbrev CX0:CXT:=fun _ _ _ _ _ _=>False
abbrev E0:XK:=fun _ _ _=>False
theorem zJ {X:Cx}:yL CX0 X E0:=fun _ _ _ _ _ _ _ h=>h.elim
structure Fun (K:PySem.W.Frag) (x qual:Str) (st:Stmt) (f:Addr) (fd:FuncData):Prop where
  ex:∃ (oc:Value) (od:Option Addr) (kV doc pm:Value) (an:Option Addr) (cdv ct:Value) (osl:Array (Option Value)),
    fd=PySem.W.fnOf x qual (yM st) (yx st) (zn st) .none kV doc pm an cdv ct/\K.lookup f=some ⟨oc,od,.func fd,osl⟩/\PySem.W.codeIn K cdv qual=true
  kp:PySem.W.keepIn K (.ref f)=true
section
variable {P:Program} {w:World} {K:PySem.W.Frag} {mg:Str->Option Value} {base:Heap}
theorem Fun.ok {x qual:Str} {st:Stmt} {f:Addr} {fd:FuncData} {N ps:List Str} {k:Nat} {sp:Sp} (F:Fun K x qual st f fd) (S:FnScope N ps (zn st)) (len:∀ vs H Q E,sp vs H Q E->vs.length=ps.length)
    (hbody:∀ (cdv:Value) (A:Around) (outer:List Env) (s:Shared) (H:Hp) (vs:List V) (Q:VK) (E:XK),Room k (A.deeper (envOfC qual (zn st) s.heap.objs.size f cdv))->sp vs H Q E ->
      ∃ t,PSs (cxOf CX0 P w K mg base N qual (zn st) f cdv A outer s H E).nox (yx st) t/\t { nx:=fun _ H'=>Q .non H',rt:=Q } (we N vs) H):FnOk P w K mg base CX0 (k + 1) f fd ps sp:=by
  obtain ⟨oc,od,kV,doc,pm,an,cdv,ct,osl,rfl,lk,hcd⟩:=F.ex
  refine zaL lk hcd S len fun A outer s H vs Q E hr hsp=>?_
  obtain ⟨t,h,q⟩:=hbody cdv A outer s H vs Q E hr hsp
  exact ⟨t,h.nox,q⟩
theorem Fun.binds {x qual:Str} {st:Stmt} {f:Addr} {fd:FuncData} {ps:List Str} (F:Fun K x qual st f fd)
    (h:∀ (kV doc pm:Value) (an:Option Addr) (cdv ct:Value) (us:List Value),us.length=ps.length->bindArgs (PySem.W.fnOf x qual (yM st) (yx st) (zn st) .none kV doc pm an cdv ct) ⟨us,[]⟩=pure (ps.zip us)):Binds K fd ps []:=by
  obtain ⟨oc,od,kV,doc,pm,an,cdv,ct,osl,rfl,lk,hcd⟩:=F.ex
  exact .all (h kV doc pm an cdv ct)
theorem Vv {x qual:Str} {st:Stmt} {f:Addr} {oc:Value} {od an:Option Addr} {osl:Array (Option Value)} {kV doc pm cdv ct:Value} (l:K.lookup f=some ⟨oc,od,.func (PySem.W.fnOf x qual (yM st) (yx st) (zn st) .none kV doc pm an cdv ct),osl⟩)
    (c:PySem.W.codeIn K cdv qual=true) (k:PySem.W.keepIn K (.ref f)=true):Fun K x qual st f (PySem.W.fnOf x qual (yM st) (yx st) (zn st) .none kV doc pm an cdv ct):=⟨⟨oc,od,kV,doc,pm,an,cdv,ct,osl,rfl,l,c⟩,k⟩
end
section
variable {X:Cx}
theorem pv (i:Nat) {x:Str} {pos:Pos} (hN:X.N[i]?=some x:=by rfl) (hv:Vis X.env.scope x:=by first | exact Or.inl rfl | exact Or.inr (Or.inl rfl) | exact Or.inr (Or.inr rfl)) (hd:(x == ("__debug__":Str))=false:=by decide)
    (hcd:(x == ("__classdict__":Str))=false:=by decide):PE X (.Name x pos) (tVar i):=za4 hN hv hd hcd
end
theorem iteF {A B:Prop} (h:B):if false=true then A else B:=by
  rw [if_neg Bool.false_ne_true]
  exact h
theorem iteT {A B:Prop} (h:A):if true=true then A else B:=by
  rw [if_pos rfl]
  exact h
theorem ite2 {c A B:Prop} [Decidable c] (h1:c->A) (h2:¬ c->B):if c then A else B:=by
  by_cases h:c
  · rw [if_pos h]
    exact h1 h
  · rw [if_neg h]
    exact h2 h
theorem zcx {c A B:Prop} [Decidable c] (hc:c) (h:B):if (!decide c)=true then A else B:=by
  rw [decide_eq_true hc]
  exact iteF h
def Same (H H':Hp):Prop:=∀ b o,H b=some o->H' b=some o
theorem Same.refl (H:Hp):Same H H:=fun _ _ h=>h
theorem Same.trans {H H1 H2:Hp} (a:Same H H1) (b:Same H1 H2):Same H H2:=fun c o h=>b c o (a c o h)
theorem Same.free {H H':Hp} (e:Same H H') {l:Addr} (h:H' l=Option.none):H l=Option.none:=by
  cases q:H l with
  | none=>rfl
  | some o =>
    rw [e l o q] at h
    cases h
theorem Same.seq {K:PySem.W.Frag} {H H':Hp} {a:Addr} {xs:List V} (e:Same H H') (h:SqL K H a xs):SqL K H' a xs:=by
  rcases h with (h | ⟨o,h⟩) | h
  · exact .inl (.inl (e _ _ h))
  · exact .inl (.inr ⟨o,e _ _ h⟩)
  · exact .inr h
end L2
namespace L2
open PySem PySem.Spec PyProof.Rows
def AllIn (env:Env):List (Str × Addr)->Prop
  | []=>True
  | p :: r=>env.cells.lookup p.1=some p.2/\AllIn env r
theorem AllIn.get {env:Env}:∀ {cl:List (Str × Addr)} {y:Str} {c:Addr},AllIn env cl->cl.lookup y=some c->env.cells.lookup y=some c
  | [],_,_,_,h=>by simp at h
  | (n,a) :: r,y,c,⟨e,t⟩,h=>by
    rw [List.lookup_cons] at h
    by_cases q:y=n
    · subst q
      rw [beq_self_eq_true] at h
      cases h
      exact e
    · have q':(y == n)=false:=beq_eq_false_iff_ne.mpr q
      rw [q'] at h
      exact AllIn.get t h
def wB:List Nat->St->St
  | [],σ=>σ
  | i :: S,σ=>wB S (σ.set i none)
theorem xW:∀ (S:List Nat) (σ:St),(wB S σ).length=σ.length
  | [],_=>rfl
  | i :: S,σ=>by rw [wB,xW S,List.length_set]
theorem jR:∀ (S:List Nat) (σ:St) {j:Nat} {v:V},(wB S σ)[j]?=some (some v)->σ[j]?=some (some v)/\j ∉ S
  | [],_,_,_,h=>⟨h,by simp⟩
  | i :: S,σ,j,v,h=>by
    obtain ⟨h1,h2⟩:=jR S (σ.set i none) h
    rw [List.getElem?_set] at h1
    by_cases e:i=j
    · rw [if_pos e] at h1
      split at h1 <;> cases h1
    · rw [if_neg e] at h1
      exact ⟨h1,fun z=>(List.mem_cons.mp z).elim (fun z=>e z.symm) h2⟩
structure LcOk (X:Cx) (scope:Scope) (cl:List (Str × Addr)) (S:List Nat):Prop where
  clos:closureFor scope X.env=pure cl
  kind:scope.kind=.function
  noC:scope.names.all (fun y=>y.2 != .cell)=true
  loc:scope.names.all (fun y=>y.2 != .local || scope.names.lookup y.1 == some .local)=true
  own:X.N.zipIdx.all (fun y=>S.contains y.2 || scope.names.lookup y.1 != some .local)=true
  sub:AllIn X.env cl
  has:scope.names.all (fun p=>p.2 != .free || ((cl.lookup p.1).isSome && (X.env.kindOf p.1 == some .cell || X.env.kindOf p.1 == some .free)))=true
section
variable {X:Cx} {scope:Scope} {cl:List (Str × Addr)} {S:List Nat}
theorem LcOk.nocell (L:LcOk X scope cl S):∀ y∈scope.names,y.2≠.cell:=fun y hy=>by
  have h:=List.all_eq_true.mp L.noC y hy
  exact bne_iff_ne.mp h
theorem LcOk.locs (L:LcOk X scope cl S):∀ y∈scope.names,y.2=.local->scope.names.lookup y.1=some .local:=fun y hy e=>by
  have h:=List.all_eq_true.mp L.loc y hy
  rw [e] at h
  simpa using h
theorem LcOk.apart (L:LcOk X scope cl S):∀ (i:Nat) (y:Str),X.N[i]?=some y->i ∉ S->scope.names.lookup y≠some .local:=fun i y hy hi=>by
  have h:=List.all_eq_true.mp L.own (y,i) (List.mem_zipIdx_iff_getElem?.mpr hy)
  have hc:S.contains i=false:=by simpa using hi
  rw [hc,Bool.false_or] at h
  exact bne_iff_ne.mp h
theorem LcOk.free (L:LcOk X scope cl S) {y:Str} (h:scope.names.lookup y=some .free):(∃ c,cl.lookup y=some c)/\(X.env.kindOf y=some .cell\/X.env.kindOf y=some .free):=by
  have h1:=List.all_eq_true.mp L.has _ (PySem.mem_of_lookup h)
  simp only [bne_self_eq_false,Bool.false_or,Bool.and_eq_true,Bool.or_eq_true,beq_iff_eq] at h1
  exact ⟨Option.isSome_iff_exists.mp h1.1,h1.2⟩
theorem y8 (names:List (Str × NameKind)) (env:Env) (y:Str) :
    (names.map fun (n,k)=>if (k == NameKind.free && env.scope.kind == .function && env.kindOf n == some .cell) then (n,NameKind.cell) else (n,k)).lookup y =
      (names.lookup y).map fun k=>if (k == NameKind.free && env.scope.kind == .function && env.kindOf y == some .cell) then NameKind.cell else k:=by
  induction names with
  | nil=>rfl
  | cons p r ih =>
    obtain ⟨n,k⟩:=p
    rw [List.map_cons]
    by_cases q:y=n
    · subst q
      by_cases hc:(k == NameKind.free && env.scope.kind == .function && env.kindOf y == some .cell)=true
      · show List.lookup y ((if (k == NameKind.free && env.scope.kind == .function && env.kindOf y == some .cell)=true then (y,NameKind.cell) else (y,k)) :: _)=_
        rw [if_pos hc,List.lookup_cons,List.lookup_cons,beq_self_eq_true]
        show some NameKind.cell=some (if _ then _ else _)
        rw [if_pos hc]
      · show List.lookup y ((if (k == NameKind.free && env.scope.kind == .function && env.kindOf y == some .cell)=true then (y,NameKind.cell) else (y,k)) :: _)=_
        rw [if_neg hc,List.lookup_cons,List.lookup_cons,beq_self_eq_true]
        show some k=some (if _ then _ else _)
        rw [if_neg hc]
    · have q':(y == n)=false:=beq_eq_false_iff_ne.mpr q
      by_cases hc:(k == NameKind.free && env.scope.kind == .function && env.kindOf n == some .cell)=true
      · show List.lookup y ((if (k == NameKind.free && env.scope.kind == .function && env.kindOf n == some .cell)=true then (n,NameKind.cell) else (n,k)) :: _)=_
        rw [if_pos hc,List.lookup_cons,List.lookup_cons,q']
        exact ih
      · show List.lookup y ((if (k == NameKind.free && env.scope.kind == .function && env.kindOf n == some .cell)=true then (n,NameKind.cell) else (n,k)) :: _)=_
        rw [if_neg hc,List.lookup_cons,List.lookup_cons,q']
        exact ih
theorem LcOk.kinds (L:LcOk X scope cl S) {y:Str} (h:(relabel scope X.env).names.lookup y=some .cell\/(relabel scope X.env).names.lookup y=some .free):scope.names.lookup y=some .free:=by
  have e:(relabel scope X.env).names.lookup y=(scope.names.lookup y).map fun k=>if (k == NameKind.free && X.env.scope.kind == .function && X.env.kindOf y == some .cell) then NameKind.cell else k:=y8 scope.names X.env y
  rw [e] at h
  cases q:scope.names.lookup y with
  | none=>rw [q] at h; rcases h with h | h <;> cases h
  | some k =>
    have hk:k≠.cell:=L.nocell _ (PySem.mem_of_lookup q)
    rw [q] at h
    by_cases hf:k=.free
    · rw [hf]
    · have z:(k == NameKind.free)=false:=beq_eq_false_iff_ne.mpr hf
      rw [Option.map_some,z,Bool.false_and,Bool.false_and,if_neg Bool.false_ne_true] at h
      rcases h with h | h
      · exact absurd (Option.some.inj h) hk
      · exact absurd (Option.some.inj h) hf
def cxLC (X:Cx) (scope:Scope) (cl:List (Str × Addr)) (M:List Str) (C:Addr) (s₀:Shared) (H₀:Hp) (ex:List Addr) (E:Value->Shared->Prop):Cx where
  prog:=X.prog
  w:=X.w
  K:=X.K
  mg:=X.mg
  base:=X.base
  A:=X.A
  N:=X.N ++ M
  s₀:=s₀
  H₀:=H₀
  env:=compEnvC scope cl C X.env
  outer:=X.stack
  stack:=X.stack
  ex:=ex
  fn:=fun _=>false
  calm:=X.calm
  pn:=[]
  xe:=E
variable {pins:List (Addr × Obj)} {σ:St} {H:Hp} {s:Shared} {ex:List Addr} {M:List Str} {C:Addr}
theorem Vw {E:Value->Shared->Prop} {h1:Heap} {tk:Nat} {m:Str->Option Value} (I:Inv X pins σ H s) (L:LcOk X scope cl S) (hf:∀ b∈ex,FpOk X pins H b) (hlt:∀ b∈ex,b < s.heap.objs.size)
    (hk:∀ b o,s.heap.get? b=some o->h1.get? b=some o) (hC:s.heap.objs.size<=C) (hns:h1.Ns C m) :
    Inv (cxLC X scope cl M C s H ex E) [] (wB S σ ++ List.replicate M.length none) H { s with heap:=h1,toks:=tk }:=by
  refine ⟨⟨I.ok.mod,L.kind,I.ok.glob,I.ok.blt,hC,fun x y c a b=>I.ok.inj x y c (L.sub.get a) (L.sub.get b),fun y hy=>(L.free (L.kinds hy)).1,(fun x c z=>nomatch z),I.ok.hd,I.ok.frames,.inl rfl,fun b hb=>⟨?_,fun x c e=>?_⟩,
      I.bs,Nat.le_trans I.ok.bsz I.sz,fun b o e hb=>?_,fun b hb z=>?_,I.stack,I.stkFree⟩,
    rfl,I.bare,Un.kept hk,⟨m,hns,fun i y v e1 e2 e3=>?_⟩,fun y c e=>?_,I.hok.fresh hC,fun y c e=>I.freeC y c (L.sub.get e),fun p hp=>absurd (show p∈([]:List (Addr × Obj)) from hp) (by simp),I.hok.kept hk,?_⟩
  · exact Nat.ne_of_lt (Nat.lt_of_lt_of_le (hlt b hb) hC)
  · exact (hf b hb).2.2.2.2.1 x c (L.sub.get e)
  · rcases (hf b hb).2.2.2.1 with z | z
    · exact I.ok.noex b o e z
    · exact absurd (Nat.lt_of_lt_of_le (Heap.lt_size e) (Nat.le_trans I.ok.bsz z)) (Nat.lt_irrefl _)
  · rcases List.mem_cons.mp (I.stkSub b z) with q | q
    · exact (hf b hb).2.1 q
    · exact (hf b hb).2.2.1 q
  · have e1':(X.N ++ M)[i]?=some y:=e1
    by_cases hi:i < σ.length
    · rw [List.getElem?_append_left (by rw [xW]; exact hi)] at e2
      obtain ⟨e2,hiS⟩:=jR S σ e2
      rw [List.getElem?_append_left (by rw [<- I.len]; exact hi)] at e1'
      obtain ⟨m0,hn0,hl⟩:=I.loc
      have hy:scope.names.lookup y=some .free:=by
        rcases e3 with e3 | e3
        · have q:=y8 scope.names X.env y
          have e3':(relabel scope X.env).names.lookup y=some .local:=e3
          cases z:scope.names.lookup y with
          | none =>
            rw [z] at q
            have q':(relabel scope X.env).names.lookup y=none:=q
            rw [e3'] at q'; cases q'
          | some k =>
            have hk1:k≠.local:=fun w=>L.apart i y e1' hiS (w ▸ z)
            rw [z,Option.map_some] at q
            have q':some NameKind.local=some (if (k == NameKind.free && X.env.scope.kind == .function && X.env.kindOf y == some .cell)=true then NameKind.cell else k):=e3'.symm.trans q
            have q2:=Option.some.inj q'
            by_cases hc:(k == NameKind.free && X.env.scope.kind == .function && X.env.kindOf y == some .cell)=true
            · rw [if_pos hc] at q2; cases q2
            · rw [if_neg hc] at q2; exact absurd q2.symm hk1
        · exact L.kinds e3
      obtain ⟨⟨c,hc⟩,hk2⟩:=L.free hy
      obtain ⟨u,r,l⟩:=hl i y v e1' e2 (.inr hk2)
      refine ⟨u,r,.inr ⟨?_,c,hc,?_⟩⟩
      · have q:=y8 scope.names X.env y
        rw [hy,Option.map_some] at q
        have q':(relabel scope X.env).names.lookup y=some (if (NameKind.free == NameKind.free && X.env.scope.kind == .function && X.env.kindOf y == some .cell)=true then NameKind.cell else NameKind.free):=q
        by_cases hc:(NameKind.free == NameKind.free && X.env.scope.kind == .function && X.env.kindOf y == some .cell)=true
        · rw [if_pos hc] at q'; exact .inl q'
        · rw [if_neg hc] at q'; exact .inr q'
      · rcases l with ⟨l1,_⟩ | ⟨_,c',e',z⟩
        · rcases hk2 with w | w <;> (rw [l1] at w; cases w)
        · have ec:c'=c:=by
            have w:=L.sub.get hc
            rw [e'] at w
            exact Option.some.inj w
          subst ec
          obtain ⟨o,ho,hd⟩:=z
          exact ⟨o,hk _ _ ho,hd⟩
    · rw [List.getElem?_append_right (by rw [xW]; exact Nat.not_lt.mp hi),List.getElem?_replicate] at e2
      split at e2 <;> cases e2
  · obtain ⟨v,o,ho,hd⟩:=I.cell y c (L.sub.get e)
    exact ⟨v,o,hk _ _ ho,hd⟩
  · show (wB S σ ++ List.replicate M.length none).length=(X.N ++ M).length
    rw [List.length_append,List.length_append,List.length_replicate,xW,I.len]
def PTs (X:Cx) (ifs:List Expr) (t:TT):Prop :=
  ∀ (pins:List (Addr × Obj)) (s:Shared) (σ:St) (H:Hp) (Q:Bool->Hp->Prop),Inv X pins σ H s->t σ H Q ->
    wpAny (model X.prog X.w) X.A (forIn ifs true fun c r=>if r=true then do let ok <- isTrue c X.env (eval c X.env); pure (ForInStep.yield ok) else pure (ForInStep.yield r)) (TP X pins σ Q) X.xe s
def tYes:TT:=fun _ H Q=>Q true H
theorem Qs {X:Cx}:PTs X [] tYes:=fun _ _ _ H _ I h=>wpAny_tests_nil ⟨H,I,h⟩
theorem Qt {X:Cx} {c:Expr} {t:TT} (h:PT X c t):PTs X [c] t:=fun pins s σ H Q I q=>wpAny_tests_one (h pins s σ H Q I q)
def lcBy (J:It) (g:TG) (tt:TT) (te:TE) (Q:VK) (W:Nat->Nat->St->List V->Hp->Prop):Prop:=∀ i m τ ys H,W i m τ ys H ->
  (J.stop i H/\∀ p,H p=none->Q (.ref p) (upd H p (.lst ys))) \/
  (J.go i H/\∃ N:St->List V->Hp->Prop,(∀ τ' ys' H',N τ' ys' H'->∃ m',m' < m/\W (i + 1) m' τ' ys' H')/\∀ x H',J.yld i H x H'->g x τ H' fun τ2 H2=>tt τ2 H2 fun b H3 =>
    if b=true then te τ2 H3 fun y H4=>ys.length < sizeLine/\N τ2 (ys ++ [y]) H4 else N τ2 ys H3)
def tLC (wi:TI) (g:TG) (tt:TT) (te:TE) (n:Nat):TE:=fun σ H Q=>wi σ H fun J H1=>∃ W,(∃ m,W 0 m (σ ++ List.replicate n none) [] H1)/\lcBy J g tt te Q W
def tLCS (S:List Nat) (wi:TI) (g:TG) (tt:TT) (te:TE) (n:Nat):TE:=fun σ H Q=>wi σ H fun J H1=>∃ W,(∃ m,W 0 m (wB S σ ++ List.replicate n none) [] H1)/\lcBy J g tt te Q W
theorem XJ {tg elt iter:Expr} {ifs:List Expr} {pos:Pos} {g:TG} {tt:TT} {te:TE} {J:It} {fp:List Addr} {it:Addr} {tn:Nat->Heap->Prop} {Q:VK} {E:Value->Shared->Prop} {R:Value->Addr->Result->Shared->Prop} {Al:Addr->(Value->Shared->Prop)->Prop}
    {W:Nat->Nat->St->List V->Hp->Prop} {m0:Nat} (L:LcOk X scope cl S) (hc:X.calm=true) (I:Inv X pins σ H s) (T:Turn X.prog X.w X.K tg J fp it tn) (st:tn 0 s.heap) (hf:∀ b∈fp,FpOk X pins H b)
    (hg:∀ C s H ex E,PG (cxLC X scope cl M C s H ex E) tg g) (ht:∀ C s H ex E,PTs (cxLC X scope cl M C s H ex E) ifs tt) (he:∀ C E,Al C E->PE (cxLC X scope cl M C s H fp E) elt te)
    (hal:∀ C,s.heap.objs.size < C->Al C (notedBy (model X.prog X.w) X.A (compEnvC scope cl C X.env) (fun e s'=>R (.ref s.heap.objs.size) C (.error e) s')))
    (w0:W 0 m0 (wB S σ ++ List.replicate M.length none) [] H) (turn:lcBy J g tt te Q W)
    (hR:∀ D C s' H' ys m,Inv X pins σ (upd H' D (.lst ys)) s'->FpOk X pins (upd H' D (.lst ys)) C->s'.heap.Ns C m->Q (.ref D) (upd H' D (.lst ys))->R (.ref D) C (.ok .next) s') :
    wpAny (model X.prog X.w) X.A (newList []) (fun acc s₃=>wpAny (model X.prog X.w) X.A (newFunctionEnv scope X.env.globals cl [] X.env.qual none .none (some X.env)) (fun cenv s₄ =>
      codeAny (model X.prog X.w) X.A (.compStart (.ListComp elt [⟨tg,iter,ifs,0⟩] scope pos) 0 (.ref it) acc { cenv with scope:=relabel scope X.env }) (R acc cenv.locals) s₄) E s₃) E s:=by
  refine wpAny_newObj_type (wpAny_newFunctionEnv L.nocell (by intro y hy; simp at hy) (fun h₁ hns₁ hsb₁=>?_) L.kind)
  dsimp only at hns₁ hsb₁ ⊢
  generalize hG:s.heap.push { cls:=.type "list",dict:=none,data:=.seq ([]:List Value).toArray }=G at hns₁ hsb₁ ⊢
  have hC:G.objs.size=s.heap.objs.size + 1:=by rw [<- hG,Heap.size_push]
  have hDC:s.heap.objs.size≠G.objs.size:=by rw [hC]; exact Nat.ne_of_lt (Nat.lt_succ_self _)
  have hCle:s.heap.objs.size<=G.objs.size:=by rw [hC]; exact Nat.le_succ _
  have old:∀ b o,s.heap.get? b=some o->h₁.get? b=some o:=fun b o e =>
    hsb₁.extBut b o (by rw [hC]; exact Nat.ne_of_lt (Nat.lt_succ_of_lt (Heap.lt_size e))) (Heap.get?_push_of_some _ (hG ▸ Heap.get?_push_of_some _ e))
  have hacc:h₁.get? s.heap.objs.size=some { cls:=.type "list",data:=.seq ([]:List Value).toArray }:=hsb₁.extBut _ _ hDC (Heap.get?_push_of_some _ (hG ▸ Heap.get?_push_size _ rfl))
  have fpo:∀ b∈fp,b < s.heap.objs.size:=fun b hb=>let ⟨o,e,_⟩:=T.obj 0 _ st b hb; Heap.lt_size e
  have st1:tn 0 h₁:=T.keep 0 _ _ st fun b _ o e=>old b o e
  have nofs:s.heap.objs.size ∉ frs X.stack:=fun z=>by
    rcases List.mem_cons.mp (I.stkSub _ z) with q | q
    · exact absurd (q ▸ I.lt) (Nat.lt_irrefl _)
    · exact I.nofs (Nat.le_refl _) q
  have nocl:∀ y c,cl.lookup y=some c->c≠s.heap.objs.size:=fun y c e z=>by
    obtain ⟨v,o,ho,_⟩:=I.cell y c (L.sub.get e)
    exact absurd (z ▸ Heap.lt_size ho) (Nat.lt_irrefl _)
  have loop:∀ s₃:Shared,s₃={ s with heap:=h₁,toks:=s.toks + ([]:List (Str × Value)).length } ->
      codeAny (model X.prog X.w) X.A (.compLoop (.ListComp elt [⟨tg,iter,ifs,0⟩] scope pos) 0 (.ref it) (.ref s.heap.objs.size) (compEnvC scope cl G.objs.size X.env)) (R (.ref s.heap.objs.size) G.objs.size) s₃:=by
    rintro s₃ rfl
    have hAl:=hal G.objs.size (by rw [hC]; exact Nat.lt_succ_self _)
    generalize hE:notedBy (model X.prog X.w) X.A (compEnvC scope cl G.objs.size X.env) (fun e s'=>R (.ref s.heap.objs.size) G.objs.size (.error e) s')=E' at hAl ⊢
    have IY:Inv (cxLC X scope cl M G.objs.size s H fp E') [] (wB S σ ++ List.replicate M.length none) H { s with heap:=h₁,toks:=s.toks + ([]:List (Str × Value)).length }:=Vw I L hf fpo old hCle hns₁
    refine codeAny_loop rfl (fun n s'=>∃ (i:Nat) (τ:St) (H':Hp) (ys:List V) (its:List Value) (k:Nat),Inv (cxLC X scope cl M G.objs.size s H fp E') [] τ H' s'/\tn i s'.heap/\(∀ b∈fp,H' b=none) /\
      s'.heap.get? s.heap.objs.size=some { cls:=.type "list",data:=.seq its.toArray k }/\H' s.heap.objs.size=none/\Vals ys its/\ys.length<=sizeLine/\W i n τ ys H') (fun n s' hI=>?_) m0
      ⟨0,_,H,[],[],_,IY,st1,fun b hb=>(hf b hb).1,hacc,I.hok.fresh (Nat.le_refl _),.nil,Nat.zero_le _,w0⟩
    obtain ⟨i,τ,H1,ys,its,k,I1,st1,fr1,eD,fD,rv,hz,w1⟩:=hI
    show wpAny _ X.A ((compTurn (.ListComp elt [⟨tg,iter,ifs,0⟩] scope pos) 0 (.ref it) (.ref s.heap.objs.size) (compEnvC scope cl G.objs.size X.env)).onRaise (fun x=>do noteFrame x (compEnvC scope cl G.objs.size X.env); theTreesLotGoes x)) _ _ s'
    refine wpAny_noted ?_
    rw [hE,compTurn_list]
    have I1':Inv (cxLC X scope cl M G.objs.size s H fp E') [(s.heap.objs.size,{ cls:=.type "list",data:=.seq its.toArray k })] τ H1 s':=I1.pins_of fun p hp=>by
      have e:p=(s.heap.objs.size,{ cls:=.type "list",data:=.seq its.toArray k }):=by simpa using hp
      subst e
      exact ⟨eD,fD,hDC,nofs,(fun v z=>nomatch z)⟩
    have stat:∀ {H':Hp},(∀ b∈fp,H' b=none)->∀ b∈fp,FpOk (cxLC X scope cl M G.objs.size s H fp E') [(s.heap.objs.size,{ cls:=.type "list",data:=.seq its.toArray k })] H' b:=fun hn b hb=>by
      refine ⟨hn b hb,?_,?_,.inl hb,fun x c e=>(hf b hb).2.2.2.2.1 x c (L.sub.get e),fun p hp z=>?_⟩
      · exact Nat.ne_of_lt (Nat.lt_of_lt_of_le (fpo b hb) hCle)
      · intro z
        rcases List.mem_cons.mp (I.stkSub b z) with q | q
        · exact (hf b hb).2.1 q
        · exact (hf b hb).2.2.1 q
      · have e:p=(s.heap.objs.size,{ cls:=.type "list",data:=.seq its.toArray k }):=by
          have hp':p∈[(s.heap.objs.size,({ cls:=.type "list",data:=.seq its.toArray k }:Obj))]:=hp
          simpa using hp'
        subst e
        exact absurd (z ▸ fpo b hb) (Nat.lt_irrefl _)
    refine wpAny_bind (wpAny_standAt (wpAny_bind ?_))
    rcases turn i n τ ys H1 w1 with ⟨stop,q⟩ | ⟨go,N,hN,step⟩
    · refine thn (T.done (cxLC X scope cl M G.objs.size s H fp E') rfl rfl rfl hc i _ s' τ H1 E' I1' (stat fr1) st1 stop) fun r s4 ⟨hr,I4⟩=>?_
      subst hr
      refine wpAny_pure ?_
      obtain ⟨eD4,_,_⟩:=I4.pin (s.heap.objs.size,{ cls:=.type "list",data:=.seq its.toArray k }) (List.mem_append_right _ List.mem_cons_self)
      have base4:Un (frs X.stack) fp H H1 s.heap s4.heap:=I4.base
      have un:Un (frs X.stack) fp H (upd H1 s.heap.objs.size (.lst ys)) s.heap s4.heap:=⟨base4.keep,base4.slot,fun b o e n hx=>by rw [zk (Nat.ne_of_lt (Heap.lt_size e))]; exact base4.free b o e n hx,base4.there,
        fun b xs e=>by rw [zk (zo (base4.tups b xs e) fD)]; exact base4.tups b xs e,fun b o u e=>by rw [zk (zo (base4.frzs b o u e) fD)]; exact base4.frzs b o u e,
        fun b ps e=>by
          obtain ⟨more,w⟩:=base4.tbls b ps e
          exact ⟨more,by rw [zk (zo w fD)]; exact w⟩⟩
      have hok:HOk X.prog X.w (upd H1 s.heap.objs.size (.lst ys)) s4.heap:=fun b u e=>by
        by_cases hb:b=s.heap.objs.size
        · subst hb
          rw [zc] at e
          cases e
          exact ⟨hz,its,k,rv,eD4⟩
        · rw [zk hb] at e
          exact (I4.hok b u e).stay (fun c v _ q=>q) (fun c q=>by rw [zk (zo q fD)]; exact q) fun c xs q=>by rw [zk (zo q fD)]; exact q
      have IX:Inv X pins σ (upd H1 s.heap.objs.size (.lst ys)) s4:=I.call' I4.os un hok I4.bare fun b hb=>⟨(hf b hb).2.2.2.1,(hf b hb).2.1,(hf b hb).2.2.2.2.1,(hf b hb).2.2.2.2.2⟩
      have fC:H1 G.objs.size=none:=I4.free
      obtain ⟨m4,n4,_⟩:=I4.loc
      exact hR _ _ s4 H1 ys m4 IX (I.fpOk hCle (by rw [zk (Ne.symm hDC)]; exact fC)) n4 (q _ fD)
    · refine thn (T.item (cxLC X scope cl M G.objs.size s H fp E') rfl rfl rfl hc i _ s' τ H1 E' I1' (stat fr1) st1 go) fun r s4 ⟨u,hr,h4⟩=>?_
      subst hr
      refine wpAny_bind (thn h4 fun _ s5 ⟨x,H5,I5,r5,y5,st5,fr5⟩=>?_)
      have I5':=I5.pinned (stat fr5) (T.obj _ _ st5)
      have kept:∀ {τ6:St} {H6:Hp} {s6:Shared},Inv (cxLC X scope cl M G.objs.size s H fp E') ([(s.heap.objs.size,{ cls:=.type "list",data:=.seq its.toArray k })] ++ vH fp s5.heap) τ6 H6 s6 ->
          Inv (cxLC X scope cl M G.objs.size s H fp E') [] τ6 H6 s6/\tn (i + 1) s6.heap/\(∀ b∈fp,H6 b=none)/\s6.heap.get? s.heap.objs.size=some { cls:=.type "list",data:=.seq its.toArray k }/\H6 s.heap.objs.size=none:=fun {τ6 H6 s6} I6=>by
        have pin:∀ b∈fp,∀ o,s5.heap.get? b=some o->s6.heap.get? b=some o/\H6 b=none:=fun b hb o e =>
          let w:=I6.pin (b,o) (List.mem_append_right _ (List.mem_append_right _ (wn hb e)))
          ⟨w.1,w.2.1⟩
        have pD:=I6.pin (s.heap.objs.size,{ cls:=.type "list",data:=.seq its.toArray k }) (List.mem_append_right _ (List.mem_append_left _ List.mem_cons_self))
        refine ⟨I6.pins_of (fun p hp=>nomatch hp),T.keep _ _ _ st5 fun b hb o e=>(pin b hb o e).1,fun b hb=>?_,pD.1,pD.2.1⟩
        obtain ⟨o,e,_⟩:=T.obj _ _ st5 b hb
        exact (pin b hb o e).2
      refine wpAny_bind (thn (hg _ _ _ _ _ _ s5 τ H5 x u _ I5' r5 (step x H5 y5)) fun _ s6 ⟨σ6,H6,I6,q6⟩=>?_)
      refine wpAny_bind (thn (ht _ _ _ _ _ _ s6 σ6 H6 _ I6 q6) fun ok s7 ⟨H7,I7,q7⟩=>?_)
      cases ok with
      | false =>
        have q7':N σ6 ys H7:=by simpa using q7
        obtain ⟨m',hm,w7⟩:=hN _ _ _ q7'
        obtain ⟨K1,K2,K3,K4,K5⟩:=kept I7
        exact wpAny_pure ⟨rfl,m',hm,i + 1,σ6,H7,ys,its,k,K1,K2,K3,K4,K5,rv,hz,w7⟩
      | true =>
        have q7':te σ6 H7 fun y H4=>ys.length < sizeLine/\N σ6 (ys ++ [y]) H4:=by simpa using q7
        refine wpAny_bind (wpAny_bind (thn (he _ _ hAl _ s7 σ6 H7 _ I7 q7') fun y s8 ⟨v8,H8,I8,r8,hz8,n8⟩=>?_))
        obtain ⟨m',hm,w8⟩:=hN _ _ _ n8
        obtain ⟨K1,K2,K3,K4,K5⟩:=kept I8
        have hl:=rv.length
        refine wpAny_bind (wpAny_list_append_plain (hsz:=by rw [List.size_toArray]; lia) ⟨k,K4⟩ fun h9 hl9 hs9=>wpAny_pure (wpAny_pure ⟨rfl,m',hm,?_⟩))
        obtain ⟨k9,e9⟩:=hl9
        have I9:Inv (cxLC X scope cl M G.objs.size s H fp E') [] σ6 H8 { s8 with heap:=h9 }:=K1.turned (t':=s8.toks) (it:=s.heap.objs.size) (fun b o hb e=>(hs9.2 b hb).trans e) K5 hDC (.inr (Nat.le_refl _))
          (fun y c e=>nocl y c e) fun p hp=>nomatch hp
        refine ⟨i + 1,σ6,H8,ys ++ [v8],its ++ [y],k9,I9,T.keep _ _ _ K2 fun b hb o e=>(hs9.2 b (Nat.ne_of_lt (fpo b hb))).trans e,K3,?_,K5,rv.append (.cons r8 .nil),?_,w8⟩
        · rw [e9]
          simp
        · rw [List.length_append,List.length_singleton]
          lia
  exact codeAny_compStart_list (loop _ rfl) (T.self X.A 0 _ _ _ st1 (loop _ rfl))
variable {tg elt iter:Expr} {ifs:List Expr} {pos:Pos} {wi:TI} {g:TG} {tt:TT} {te:TE}
theorem zcy (L:LcOk X scope cl S) (hc:X.calm=true) (hi:PI X tg iter wi) (hg:∀ C s H ex E,PG (cxLC X scope cl M C s H ex E) tg g) (ht:∀ C s H ex E,PTs (cxLC X scope cl M C s H ex E) ifs tt) (he:∀ C s H ex E,PE (cxLC X scope cl M C s H ex E) elt te)
    (hs:∀ x,foldedSetIterable iter X.env x=pure x:=by intro _; rfl):PE X (.ListComp elt [⟨tg,iter,ifs,0⟩] scope pos) (tLCS S wi g tt te M.length):=by
  intro pins s σ H Q I h
  rw [eval_ListComp]
  refine wpAny_comprehension_free (use:=none) rfl hs L.clos L.kind L.locs (thn (hi pins s σ H _ I h) fun v s1 h1=>thn h1 fun itv s2 h2=>?_)
  obtain ⟨it,fp,tn,J,H2,rfl,I2,T,st2,f2,W,⟨m0,w0⟩,turn⟩:=h2
  refine XJ (R:=fun acc C=>compPost (model X.prog X.w) X.A X.xe none (EP X pins σ Q) acc C) (Al:=fun _ _=>True) L hc I2 T st2 f2 hg ht (fun C E _=>he C _ _ _ E) (fun _ _=>trivial) w0 turn ?_
  intro D C s' H' ys m IX fC ns q
  exact ⟨m,ns,fun h' sb=>⟨.ref D,_,IX.turned (t':=s'.toks) (fun b o hb e=>(sb.2 b hb).trans e) fC.1 fC.2.1 fC.2.2.2.1 fC.2.2.2.2.1 fC.2.2.2.2.2,rfl,q⟩⟩
theorem WD {i:Nat} {y:Str} {py spos:Pos} (hN:X.N.Nodup) (hi':X.N[i]?=some y) (hy:Loc X.env.scope y) (L:LcOk X scope cl S) (hc:X.calm=true) (hi:PI X tg iter wi) (hg:∀ C s H ex E,PG (cxLC X scope cl M C s H ex E) tg g)
    (ht:∀ C s H ex E,PTs (cxLC X scope cl M C s H ex E) ifs tt) (he:∀ C s H ex E,PE (cxLC X scope cl M C s H ex E) elt te) (hs:∀ x,foldedSetIterable iter X.env x=pure x:=by intro _; rfl)
    (hsw:swapsWith (.ListComp elt [⟨tg,iter,ifs,0⟩] scope pos) (some (.Name y py)) spos.line X.env=pure true:=by rfl)
    (hf:X.fn y=true\/X.env.scope.names.lookup y=some .local:=by first | exact .inl rfl | exact .inr rfl | assumption) :
    PS X (.Assign [.Name y py] (.ListComp elt [⟨tg,iter,ifs,0⟩] scope pos) spos) (fun D σ H=>tLCS S wi g tt te M.length σ H fun v H1=>D.nx (σ.set i (some v)) H1):=by
  intro pins s σ H D I h
  rw [exec_Assign_Name_used _ _ _ _ hsw]
  refine wpAny_bind (wpAny_standAt (wpAny_bind ?_))
  show wpAny _ X.A (do let _ <- comprehension (.ListComp elt [⟨tg,iter,ifs,0⟩] scope pos) scope X.env _ (newList []) false (eval iter X.env) (some (assign (.Name y py) X.env))) _ _ s
  refine wpAny_bind (wpAny_mono (wpAny_comprehension_free (use:=some (assign (.Name y py) X.env)) (Q:=fun _ s'=>SP X pins D .next s') rfl hs L.clos L.kind L.locs
    (thn (hi pins s σ H _ I h) fun v s1 h1=>thn h1 fun itv s2 h2=>?_)) (fun _ s' hq=>wpAny_pure (wpAny_pure hq)) fun _ _ e=>e)
  obtain ⟨it,fp,tn,J,H2,rfl,I2,T,st2,f2,W,⟨m0,w0⟩,turn⟩:=h2
  refine XJ (R:=fun acc C=>compPost (model X.prog X.w) X.A X.xe (some (assign (.Name y py) X.env)) (fun _ s'=>SP X pins D .next s') acc C) (Al:=fun _ _=>True) L hc I2 T st2 f2 hg ht (fun C E _=>he C _ _ _ E) (fun _ _=>trivial) w0 turn ?_
  intro D' C s' H' ys m IX fC ns q
  show wpAny _ X.A (assign (.Name y py) X.env (.ref D')) _ _ s'
  refine wpAny_assign_Name (jD IX hN hi' hy (v:=.ref D') rfl (fun s'' I'' ⟨a,sb,ha⟩=>?_) hf)
  refine ⟨m,ns.sameBut sb ?_,fun h' sb'=>⟨_,_,I''.turned (t':=s''.toks) (fun b o hb e=>(sb'.2 b hb).trans e) fC.1 fC.2.1 fC.2.2.2.1 fC.2.2.2.2.1 fC.2.2.2.2.2,q⟩⟩
  rcases ha with ha | ha
  · rw [ha]; exact fC.2.1
  · exact Ne.symm (fC.2.2.2.2.1 y a ha)
end
def clOf (scope:Scope) (env:Env):List (Str × Addr):=scope.names.foldl (fun cs p=>if p.2 == .free then (match env.cells.lookup p.1 with | some a=>(p.1,a) :: cs | none=>cs) else cs) []
theorem XL (env:Env):∀ (names:List (Str × NameKind)) (acc:List (Str × Addr)),AllIn env acc->AllIn env (names.foldl (fun cs p=>if p.2 == .free then (match env.cells.lookup p.1 with | some a=>(p.1,a) :: cs | none=>cs) else cs) acc)
  | [],_,h=>h
  | (n,k) :: r,acc,h=>by
    rw [List.foldl_cons]
    refine XL env r _ ?_
    by_cases hk:(k == NameKind.free)=true
    · rw [if_pos hk]
      cases e:env.cells.lookup n with
      | none=>exact h
      | some a=>exact ⟨e,h⟩
    · rw [if_neg hk]
      exact h
section
variable {X:Cx} {scope:Scope} {M:List Str} {tg elt iter:Expr} {ifs:List Expr} {pos:Pos} {wi:TI} {g:TG} {tt:TT} {te:TE}
theorem zcz {S:List Nat} (h1:closureFor scope X.env=pure (clOf scope X.env)) (h2:scope.kind=.function) (h3:scope.names.all (fun y=>y.2 != .cell)=true) (h4:scope.names.all (fun y=>y.2 != .local || scope.names.lookup y.1 == some .local)=true)
    (h5:X.N.zipIdx.all (fun y=>S.contains y.2 || scope.names.lookup y.1 != some .local)=true) (h6:scope.names.all (fun p=>p.2 != .free || (((clOf scope X.env).lookup p.1).isSome && (X.env.kindOf p.1 == some .cell || X.env.kindOf p.1 == some .free)))=true) :
    LcOk X scope (clOf scope X.env) S:=⟨h1,h2,h3,h4,h5,XL X.env scope.names [] trivial,h6⟩
theorem lcOk (h1:closureFor scope X.env=pure (clOf scope X.env)) (h2:scope.kind=.function) (h3:scope.names.all (fun y=>y.2 != .cell)=true) (h4:scope.names.all (fun y=>y.2 != .local || scope.names.lookup y.1 == some .local)=true)
    (h5:X.N.all (fun y=>scope.names.lookup y != some .local)=true) (h6:scope.names.all (fun p=>p.2 != .free || (((clOf scope X.env).lookup p.1).isSome && (X.env.kindOf p.1 == some .cell || X.env.kindOf p.1 == some .free)))=true) :
    LcOk X scope (clOf scope X.env) []:=zcz h1 h2 h3 h4 (List.all_eq_true.mpr fun y hy=>by
      have hm:y.1∈X.N:=List.mem_of_getElem? (List.mem_zipIdx_iff_getElem?.mp hy)
      rw [List.all_eq_true.mp h5 y.1 hm,Bool.or_true]) h6
theorem Qu (M:List Str) (hc:X.calm=true) (hi:PI X tg iter wi) (hg:∀ C s H ex E,PG (cxLC X scope (clOf scope X.env) M C s H ex E) tg g) (ht:∀ C s H ex E,PTs (cxLC X scope (clOf scope X.env) M C s H ex E) ifs tt)
    (he:∀ C s H ex E,PE (cxLC X scope (clOf scope X.env) M C s H ex E) elt te) (hs:∀ x,foldedSetIterable iter X.env x=pure x:=by intro _; rfl)
    (h1:closureFor scope X.env=pure (clOf scope X.env):=by with_unfolding_all rfl) (h2:scope.kind=.function:=by rfl) (h3:scope.names.all (fun y=>y.2 != .cell)=true:=by rfl) (h4:scope.names.all (fun y=>y.2 != .local || scope.names.lookup y.1 == some .local)=true:=by rfl)
    (h5:X.N.all (fun y=>scope.names.lookup y != some .local)=true:=by rfl) (h6:scope.names.all (fun p=>p.2 != .free || (((clOf scope X.env).lookup p.1).isSome && (X.env.kindOf p.1 == some .cell || X.env.kindOf p.1 == some .free)))=true:=by rfl) :
    PE X (.ListComp elt [⟨tg,iter,ifs,0⟩] scope pos) (tLC wi g tt te M.length):=zcy (lcOk h1 h2 h3 h4 h5 h6) hc hi hg ht he hs
theorem Qv (M:List Str) {i:Nat} {y:Str} {py spos:Pos} (hN:X.N.Nodup) (hi':X.N[i]?=some y) (hy:Loc X.env.scope y) (hc:X.calm=true) (hi:PI X tg iter wi) (hg:∀ C s H ex E,PG (cxLC X scope (clOf scope X.env) M C s H ex E) tg g)
    (ht:∀ C s H ex E,PTs (cxLC X scope (clOf scope X.env) M C s H ex E) ifs tt) (he:∀ C s H ex E,PE (cxLC X scope (clOf scope X.env) M C s H ex E) elt te) (hs:∀ x,foldedSetIterable iter X.env x=pure x:=by intro _; rfl)
    (hsw:swapsWith (.ListComp elt [⟨tg,iter,ifs,0⟩] scope pos) (some (.Name y py)) spos.line X.env=pure true:=by rfl)
    (hf:X.fn y=true\/X.env.scope.names.lookup y=some .local:=by first | exact .inl rfl | exact .inr rfl | assumption)
    (h1:closureFor scope X.env=pure (clOf scope X.env):=by with_unfolding_all rfl) (h2:scope.kind=.function:=by rfl) (h3:scope.names.all (fun y=>y.2 != .cell)=true:=by rfl) (h4:scope.names.all (fun y=>y.2 != .local || scope.names.lookup y.1 == some .local)=true:=by rfl)
    (h5:X.N.all (fun y=>scope.names.lookup y != some .local)=true:=by rfl) (h6:scope.names.all (fun p=>p.2 != .free || (((clOf scope X.env).lookup p.1).isSome && (X.env.kindOf p.1 == some .cell || X.env.kindOf p.1 == some .free)))=true:=by rfl) :
    PS X (.Assign [.Name y py] (.ListComp elt [⟨tg,iter,ifs,0⟩] scope pos) spos) (fun D σ H=>tLC wi g tt te M.length σ H fun v H1=>D.nx (σ.set i (some v)) H1):=WD hN hi' hy (lcOk h1 h2 h3 h4 h5 h6) hc hi hg ht he hs hsw hf
end
section
variable {g:TG} {tt:TT} {te:TE} {Q:VK} {σ:St} {H:Hp}
theorem Qw {K:PySem.W.Frag} {a:Addr} {xs:List V} (Pv:Nat->St->List V->Hp->Prop) (h0:Pv 0 σ [] H) (hl:∀ i τ ys H,i<=xs.length->Pv i τ ys H->SqL K H a xs)
    (hs:∀ i x τ ys H,xs[i]?=some x->Pv i τ ys H->g x τ H fun τ2 H2=>tt τ2 H2 fun b H3=>if b=true then te τ2 H3 fun y H4=>ys.length < sizeLine/\Pv (i + 1) τ2 (ys ++ [y]) H4 else Pv (i + 1) τ2 ys H3)
    (hd:∀ τ ys H,Pv xs.length τ ys H->∀ p,H p=none->Q (.ref p) (upd H p (.lst ys))):∃ W,(∃ m,W 0 m σ [] H)/\lcBy (Itl K a) g tt te Q W:=by
  refine ⟨fun i m τ ys H=>m=xs.length - i/\i<=xs.length/\Pv i τ ys H,⟨xs.length,by simp,Nat.zero_le _,h0⟩,?_⟩
  rintro i m τ ys H ⟨rfl,hi,p⟩
  have q:=hl i τ ys H hi p
  by_cases hlt:i < xs.length
  · refine .inr ⟨⟨xs,xs[i],q,by simp [hlt]⟩,Pv (i + 1),fun τ' ys' H' p'=>⟨xs.length - (i + 1),by lia,rfl,hlt,p'⟩,fun x H' y=>?_⟩
    obtain ⟨e,y⟩:=y
    subst e
    exact hs i x τ ys _ (y xs q) p
  · have e:i=xs.length:=by lia
    subst e
    exact .inl ⟨⟨xs,q,Nat.le_refl _⟩,hd τ ys H p⟩
end
end L2
namespace L2
open PySem PySem.Spec PyProof.Rows Builtin Builtin.Str
def Its (z:Str):It:=⟨fun i _=>i < z.cps.size,fun i H x H'=>H'=H/\∃ c,z.cps[i]?=some c/\x=.str ⟨#[c]⟩,fun i _=>i=z.cps.size⟩
theorem ZV {P:Program} {w:World} {K:PySem.W.Frag} {tg:Expr} {z:Str} {t:Tok} {it:Addr} {nm:String} (W:∀ A:Around,A.handled=none->Walks P w A it [it] [it] z.cps.size (SignAt z) (fun i h=>h.IsStrIter it nm z t i))
    (self:∀ (A:Around) (i:Nat) (s:Shared) (Q:Value->Shared->Prop) (E:Value->Shared->Prop),s.heap.IsStrIter it nm z t i->Q (.ref it) s->wpAny (model P w) A (pyIter (.ref it)) Q E s)
    (hn:["enumerate","zip","dict_itemiterator","dict_reverseitemiterator","odict_iterator","itertools.zip_longest","itertools.pairwise"].contains nm=false) :
    Turn P w K tg (Its z) [it] it (fun i h=>h.IsStrIter it nm z t i) where
  mem:=by simp
  obj:=fun i h st b hb=>by
    have e:b=it:=by simpa using hb
    subst e
    obtain ⟨o,e,c,d⟩:=st
    exact ⟨o,e,fun v z=>by rw [d] at z; cases z⟩
  keep:=fun i h h' st k=>by
    obtain ⟨o,e,r⟩:=st
    exact ⟨o,k it (by simp) o e,r⟩
  item:=by
    intro X hP hw hK hc i pins s σ H E I hf st hg
    subst hP hw hK
    obtain ⟨f0,f1,f2,f3,f4,f5⟩:=hf it (by simp)
    refine (W X.A (I.ok.hd hc)).item i s _ _ hg st fun v h' tk hv st' kk=>?_
    obtain ⟨c,u,hcu,rfl⟩:=hv
    have I1:Inv X pins σ H { s with heap:=h',toks:=tk }:=I.turned (fun b o hb e=>kk b o (by simpa using hb) e) f0 f1 f3 f4 f5
    obtain ⟨o,e,c',d⟩:=id st'
    exact ⟨_,rfl,jF (s:={ s with heap:=h',toks:=tk }) e c' d hn ⟨.str ⟨#[c]⟩,H,I1,⟨u,rfl⟩,⟨rfl,c,hcu,rfl⟩,st',fun b hb=>(hf b hb).1⟩⟩
  done:=by
    intro X hP hw hK hc i pins s σ H E I hf st hg
    subst hP hw hK
    obtain ⟨f0,f1,f2,f3,f4,f5⟩:=hf it (by simp)
    have hg':i=z.cps.size:=hg
    subst hg'
    exact (W X.A (I.ok.hd hc)).done s _ _ st fun h' tk kk=>⟨rfl,I.turned (fun b o hb e=>kk b o (by simpa using hb) e) f0 f1 f3 f4 f5⟩
  self:=self
section
variable {X:Cx} {tg:Expr}
def iStr (tl:TE):TI:=fun σ H R=>tl σ H fun x H1=>∃ z,x=.str z/\R (Its z) H1
theorem zbE (hc:X.calm=true) {l:Expr} {tl:TE} (hl:PE X l tl):PI X tg l (iStr tl):=by
  intro pins s σ H R I h
  refine thn (hl pins s σ H _ I h) fun v s1 ⟨x,H1,I1,r1,q1⟩=>?_
  obtain ⟨z,e,q⟩:=q1
  subst e
  obtain ⟨t,rfl⟩:=r1
  have fp:∀ b∈[s1.heap.objs.size],FpOk X pins H1 b:=fun b hb=>by
    have e:b=s1.heap.objs.size:=by simpa using hb
    subst e
    exact I1.fpOk (Nat.le_refl _) (I1.hok.fresh (Nat.le_refl _))
  cases ha:z.cps.all (· < 128)
  · refine wpAny_pyIter_wide ha ?_
    exact ⟨s1.heap.objs.size,[s1.heap.objs.size],_,_,H1,rfl,I1.kept (t':=s1.toks) fun b o e=>Heap.get?_push_of_some _ e,
      ZV (nm:="str_iterator") (fun A hA=>Walks.strWide hA _ z t) (fun _ _ _ _ _ st q=>wpAny_pyIter_striter_wide st q) (by decide),⟨_,Heap.get?_push_size _ rfl,rfl,rfl⟩,fp,q⟩
  · refine wpAny_pyIter_ascii ha ?_
    exact ⟨s1.heap.objs.size,[s1.heap.objs.size],_,_,H1,rfl,I1.kept (t':=s1.toks) fun b o e=>Heap.get?_push_of_some _ e,
      ZV (nm:="str_ascii_iterator") (fun A hA=>Walks.strAscii hA _ z t) (fun _ _ _ _ _ st q=>wpAny_pyIter_striter_ascii st q) (by decide),⟨_,Heap.get?_push_size _ rfl,rfl,rfl⟩,fp,q⟩
theorem YL {g:TG} {tt:TT} {te:TE} {Q:VK} {σ:St} {H:Hp} {z:Str} (Pv:Nat->St->List V->Hp->Prop) (h0:Pv 0 σ [] H)
    (hs:∀ i c τ ys H,z.cps[i]?=some c->Pv i τ ys H->g (.str ⟨#[c]⟩) τ H fun τ2 H2=>tt τ2 H2 fun b H3=>if b=true then te τ2 H3 fun y H4=>ys.length < sizeLine/\Pv (i + 1) τ2 (ys ++ [y]) H4 else Pv (i + 1) τ2 ys H3)
    (hd:∀ τ ys H,Pv z.cps.size τ ys H->∀ p,H p=none->Q (.ref p) (upd H p (.lst ys))):∃ W,(∃ m,W 0 m σ [] H)/\lcBy (Its z) g tt te Q W:=by
  refine ⟨fun i m τ ys H=>m=z.cps.size - i/\i<=z.cps.size/\Pv i τ ys H,⟨z.cps.size,by simp,Nat.zero_le _,h0⟩,?_⟩
  rintro i m τ ys H ⟨rfl,hi,p⟩
  by_cases hlt:i < z.cps.size
  · refine .inr ⟨hlt,Pv (i + 1),fun τ' ys' H' p'=>⟨z.cps.size - (i + 1),by lia,rfl,hlt,p'⟩,fun x H' y=>?_⟩
    obtain ⟨e,c,hc,rfl⟩:=y
    subst e
    exact hs i c τ ys _ hc p
  · have e:i=z.cps.size:=by lia
    subst e
    exact .inl ⟨rfl,hd τ ys H p⟩
def rSlS:V->Option Int->Option Int->Hp->VK->Prop:=fun x lo hi H Q=>∃ z,x=.str z/\z.length<=sizeLine/\Q (.str (Txt.slice z lo hi)) H
theorem zbF:SlR X rSlS:=by
  intro pins s σ H x v vl vu lo hi sl Q I rx hs pl pu h
  obtain ⟨z,rfl,hz,q⟩:=h
  obtain ⟨t,rfl⟩:=rx
  have fin:∀ (l u:Option (Int × Tok)),s.heap.IsSlice sl l u none->Txt.slice z (l.map (·.1)) (u.map (·.1))=Txt.slice z lo hi->wpAny (model X.prog X.w) X.A (getItem (.str z t) (.ref sl)) (EP X pins σ Q) X.xe s:=fun l u hS e =>
    wpAny_getItem_str_slice (l:=l) (u:=u) (st:=none) hS rfl (post_val_or_str ⟨Nat.le_trans (Txt.slice_le z _ _) hz,fun t' k=>⟨.str (Txt.slice z lo hi),H,I.tok k,⟨t',by rw [<- e]; rfl⟩,q⟩⟩)
  refine ⟨"str",_,F.slot_str_getitem.lookup,typeIs_str _ _ _,?_⟩
  cases pl with
  | none =>
    cases pu with
    | none=>exact fin none none hs rfl
    | int j uj=>exact fin none (some (j,uj)) hs rfl
  | int i ui =>
    cases pu with
    | none=>exact fin (some (i,ui)) none hs rfl
    | int j uj=>exact fin (some (i,ui)) (some (j,uj)) hs rfl
def XM:V->List V->Hp->VK->Prop:=fun x vs H Q=>∃ z y,x=.str z/\vs=[.str y]/\Q (.bl (Txt.startswith z y)) H
theorem jz:MtR X "str.startswith" XM:=by
  intro pins s σ H x vs v us Q I rx rv h
  obtain ⟨z,y,rfl,rfl,q⟩:=h
  obtain ⟨t,rfl⟩:=rx
  obtain ⟨u,rfl,t',rfl⟩:=rv.one
  exact call_gives F.slot_str_startswith (typeIs_str s z t) F.entry_str_startswith (F.args_str_startswith_2 _ _) (gives_str_startswith z y t t') ⟨.bl _,H,I,rfl,q⟩
theorem xM:∀ l:List (Str × Tok),Vals ((l.map (·.1)).map V.str) (strValues l)
  | []=>.nil
  | (x,t) :: r=>.cons ⟨t,rfl⟩ (xM r)
theorem wN (x y:Str):(Txt.split x y).length<=x.length + 2:=by
  unfold Txt.split
  split
  · simp
  · split
    · simp
    · have e1:=StrLaws.occ_length_le x y 0 x.length (x.length + 1)
      rw [length_partsBetween]
      lia
def Vx:V->List V->Hp->VK->Prop:=fun x vs H Q=>∃ z y,x=.str z/\vs=[.str y]/\(y.length == 0)=false/\z.length + 2<=sizeLine/\∀ p,H p=none->Q (.ref p) (upd H p (.lst ((Txt.split z y).map V.str)))
theorem Vy:MtR X "str.split" Vx:=by
  intro pins s σ H x vs v us Q I rx rv h
  obtain ⟨z,y,rfl,rfl,hy,hz,q⟩:=h
  obtain ⟨t,rfl⟩:=rx
  obtain ⟨u,rfl,t',rfl⟩:=rv.one
  have hn:(partsBetween z (occurrences z y 0 z.length (z.length + 1)) y.length).length<=sizeLine:=by
    have e1:=StrLaws.occ_length_le z y 0 z.length (z.length + 1)
    rw [length_partsBetween]; lia
  have hl:((Txt.split z y).map V.str).length<=sizeLine:=by
    have:=wN z y
    rw [List.length_map]; lia
  have fin:∀ (l:List (Str × Tok)) (k:Nat),l.map (·.1)=Txt.split z y->EP X pins σ Q (.ref s.heap.objs.size) { s with heap:=s.heap.push { cls:=.type "list",data:=.seq (strValues l).toArray },toks:=k }:=fun l k e =>
    ⟨.ref s.heap.objs.size,_,I.lnew (t':=k) (by rw [<- e]; exact xM l) hl,rfl,q _ I.fresh⟩
  cases h1:(decide (z.length < y.length) || decide (strKind z < strKind y))
  · cases hf:(occurrences z y 0 z.length (z.length + 1)).isEmpty
    · refine call_meets F.slot_str_split (typeIs_str _ _ _) F.entry_str_split (F.args_str_split_2 _ _) (meets_str_split_sep z y t t' h1 hy hf (by lia) hn) ?_
      show wants (EP X pins σ Q) X.xe _ { s with toks:=_,heap:=s.heap.push { cls:=.type "list",data:=.seq (strsFrom s.toks (partsBetween z (occurrences z y 0 z.length (z.length + 1)) y.length)).toArray } }
      rw [strsFrom_eq]
      exact fin (numbered s.toks _) _ ((numbered_texts _ _).trans ((if_neg (ne_true_of_eq_false h1)).trans (if_neg (ne_true_of_eq_false hf))).symm)
    · exact call_meets F.slot_str_split (typeIs_str _ _ _) F.entry_str_split (F.args_str_split_2 _ _) (meets_str_split_not_found z y t t' h1 hy hf)
        (fin [(z,t)] s.toks ((if_neg (ne_true_of_eq_false h1)).trans (if_pos hf)).symm)
  · exact call_meets F.slot_str_split (typeIs_str _ _ _) F.entry_str_split (F.args_str_split_2 _ _) (meets_str_split_cannot_occur z y t t' h1)
      (fin [(z,t)] s.toks (if_pos h1).symm)
theorem ZW:CallR X (.builtin "isinstance") (fun xs H Q=>∃ x t T b,xs=[x,.ty T]/\TyOf X.K H x t/\PySem.W.kitOne X.K t (.type T)=some b/\Q (.bl b) H):=by
  intro pins s σ H xs us Q I r h
  obtain ⟨x,t,T,b,rfl,ty,e,q⟩:=h
  obtain ⟨u,u',rfl,rx,ru⟩:=zcu r
  cases ru
  exact Wv I rx ty e fun tk=>⟨.bl b,H,I.tok tk,rfl,q⟩
theorem WE (bs:List Bool):(List.range bs.length).all (fun i=>bs.getD i false)=bs.all id:=by
  induction bs with
  | nil=>rfl
  | cons b r ih =>
    rw [List.length_cons,List.range_succ_eq_map,List.all_cons,List.all_map,List.all_cons]
    have e:(List.range r.length).all ((fun i=>(b :: r).getD i false) ∘ Nat.succ)=(List.range r.length).all fun i=>r.getD i false:=by
      congr 1
    rw [e,ih]
    rfl
theorem vL (hc:X.calm=true):CallR X (.builtin "all") (fun xs H Q=>∃ (p:Addr) (bs:List Bool),xs=[.ref p]/\SqL X.K H p (bs.map V.bl)/\Q (.bl (bs.all id)) H):=by
  intro pins s σ H xs us Q I r h
  obtain ⟨p,bs,rfl,hq,q⟩:=h
  obtain ⟨u,rfl,rx⟩:=xK r
  cases rx
  obtain ⟨its,rv,pl,hz⟩:=I.list hq
  have hh:X.A.handled=none:=I.ok.hd hc
  have hlen:its.toArray.size=bs.length:=by rw [List.size_toArray,<- rv.length,List.length_map]
  have hne:p≠s.heap.objs.size:=by
    obtain ⟨o,n,e,_⟩:=pl
    exact Nat.ne_of_lt (Heap.lt_size e)
  refine call_all_walk (wpAny_pyIter_list pl.isList ?_)
  refine ⟨s.heap.objs.size,_,_,_,_,_,fun i=>bs.getD i false,rfl,Walks.list (A:=X.A.in1) hh _ p hne its.toArray,⟨⟨_,Heap.get?_push_size _ rfl,rfl,rfl⟩,pl.isList.at fun o e=>Heap.get?_push_of_some _ e⟩,fun i v s1 Q1 E1 hv hQ=>?_,fun h' tk kk=>?_⟩
  · have hi:i < bs.length:=by
      obtain ⟨hi,_⟩:=Array.getElem?_eq_some_iff.mp hv
      rw [hlen] at hi
      exact hi
    have hb:(bs.map V.bl)[i]?=some (V.bl (bs.getD i false)):=by
      rw [List.getElem?_map,List.getElem?_eq_getElem hi]
      simp [List.getD,List.getElem?_eq_getElem hi]
    obtain ⟨u',hu,ru⟩:=rv.get hb
    have e:its.toArray[i]?=some u':=by simpa using hu
    have hv':its.toArray[i]?=some v:=hv
    rw [hv'] at e
    cases e
    cases ru
    exact wpAny_truthy_bool hQ
  · rw [hlen,WE]
    have I1:Inv X pins σ H { s with heap:=s.heap.push { cls:=.type "list_iterator",data:=.fields #[.ref p,.int 0 0] } }:=I.kept (t':=s.toks) fun b o e=>Heap.get?_push_of_some _ e
    have f:=I.fpOk (H':=H) (Nat.le_refl _) I.fresh
    exact ⟨.bl (bs.all id),H,I1.turned (it:=s.heap.objs.size) (fun b o hb e=>kk b o (by simpa using hb) e) f.1 f.2.1 f.2.2.2.1 f.2.2.2.2.1 f.2.2.2.2.2,rfl,q⟩
end
end L2
namespace L2
open PySem PySem.Spec PyProof.Rows
def zP:Expr->Bool
  | .Starred ..=>true
  | _=>false
theorem zV {e:Expr} {es:List Expr} {env:Env} (h:zP e=false):starEach (e :: es) env=(false,eval e env) :: starEach es env:=by
  cases e <;> first
    | rfl
    | exact absurd (show true=false from h) (by decide)
theorem yE {env:Env} {pos:Pos}:∀ {es:List Expr},es.all (fun e=>!zP e)=true->(backTo pos (starEach es env)).any (·.1)=false
  | [],_=>rfl
  | e :: es,h=>by
    rw [List.all_cons,Bool.and_eq_true] at h
    have h1:zP e=false:=by simpa using h.1
    rw [zV h1]
    show (false || (backTo pos (starEach es env)).any (·.1))=false
    rw [yE h.2]
    rfl
section
variable {X:Cx} {CX:CXT} {k:Nat} {f C:Addr} {fd:FuncData} {ps:List Str} {sp:Sp} {dvs:List V} {ds:List Value} {E:XK} {x m:Str} {p pos apos:Pos} {e o:Expr} {es:List Expr} {te ta:TE} {t:TA} {id T:String} {r:List V->Hp->VK->Prop}
theorem pa_c (ha:PE X e te) (hr:PA X es t) (h:zP e=false:=by rfl):PA X (e :: es) (Vk te t):=Qi ha hr (zV h)
theorem zcA (F:FnOk X.prog X.w X.K X.mg X.base CX k f fd ps sp) (hr:Room k X.A) (hg:Gl X x) (hm:X.mg x=some (.ref f)) (hk:PySem.W.keepIn X.K (.ref f)=true) (hb:Binds X.K fd ps ds) (hd:Vals dvs ds) (hx:yL CX X E)
    (ha:PA X (e :: es) t) (hdb:(x == ("__debug__":Str))=false:=by decide) (h1:zP e=false:=by rfl) (h2:es.all (fun e=>!zP e)=true:=by rfl) :
    PE X (.Call (.Name x p) (e :: es) [] pos) (XC sp dvs E t):=Qj F hr hg hm hk hb hd hx ha hdb (zV h1) (yE h2)
theorem zbG (hc:CallR X (.builtin id) r) (hg:Gl X x) (hm:X.mg x=none) (hv:bootBuiltins x=some (.builtin id)) (ha:PA X (e :: es) t) (hn:x≠"__name__":=by decide) (hdb:(x == ("__debug__":Str))=false:=by decide)
    (h1:zP e=false:=by rfl) (h2:es.all (fun e=>!zP e)=true:=by rfl):PE X (.Call (.Name x p) (e :: es) [] pos) (tCB r t):=Vn hc hg hm hv ha hn hdb (zV h1) (yE h2)
theorem Qx (hc:CallR X (.type T) r) (hg:Gl X x) (hm:X.mg x=none) (hv:bootBuiltins x=some (.type T)) (ha:PA X (e :: es) t) (hn:x≠"__name__":=by decide) (hdb:(x == ("__debug__":Str))=false:=by decide)
    (h1:zP e=false:=by rfl) (h2:es.all (fun e=>!zP e)=true:=by rfl):PE X (.Call (.Name x p) (e :: es) [] pos) (tCB r t):=Wx hc hg hm hv ha hn hdb (zV h1) (yE h2)
end
end L2
namespace L2
open PySem PySem.Spec PyProof.Rows
structure jE (X:Cx) (e:Expr) (t:TE):Prop where
  out:PE X e t
structure jT (X:Cx) (e:Expr) (t:TT):Prop where
  out:PT X e t
structure jW (X:Cx) (e:Expr) (t:TT):Prop where
  out:PW X e t
structure jA (X:Cx) (es:List Expr) (t:TA):Prop where
  out:PA X es t
structure jS (X:Cx) (st:Stmt) (t:TS):Prop where
  out:PS X st t
structure jSs (X:Cx) (sts:List Stmt) (t:TS):Prop where
  out:PSs X sts t
structure jG (X:Cx) (tg:Expr) (t:TG):Prop where
  out:PG X tg t
structure jGs (X:Cx) (tg:List Expr) (t:TGs):Prop where
  out:PGs X tg t
structure jI (X:Cx) (tg iter:Expr) (t:TI):Prop where
  out:PI X tg iter t
structure jO (X:Cx) (e:Option Expr) (t:TO):Prop where
  out:PO X e t
structure jTs (X:Cx) (ifs:List Expr) (t:TT):Prop where
  out:PTs X ifs t
structure jOp (X:Cx) (f:Value->Value->Sem Value) (r:R2):Prop where
  out:OpR X f r
structure jIx (X:Cx) (r:R2):Prop where
  out:IxR X r
structure jSl (X:Cx) (r:V->Option Int->Option Int->Hp->VK->Prop):Prop where
  out:SlR X r
structure jMt (X:Cx) (id:String) (r:V->List V->Hp->VK->Prop):Prop where
  out:MtR X id r
structure jCa (X:Cx) (f:Value) (r:List V->Hp->VK->Prop):Prop where
  out:CallR X f r
section
variable {X:Cx} {a b c e o:Expr} {es rest:List Expr} {ta tb tc te to:TE} {t u:TA} {tA tB':TT} {pos p p2 apos cpos px:Pos} {x y m:Str} {op op':CmpOp} {bop:Operator} {r r':R2}
theorem jv (i:Nat) (hN:X.N[i]?=some x:=by rfl) (hv:Vis X.env.scope x:=by first | exact Or.inl rfl | exact Or.inr (Or.inl rfl) | exact Or.inr (Or.inr rfl)) (hd:(x == ("__debug__":Str))=false:=by decide)
    (hcd:(x == ("__classdict__":Str))=false:=by decide):jE X (.Name x pos) (tVar i):=⟨pv i hN hv hd hcd⟩
theorem zg {i j}:jE X (.Constant (.int i) j pos) (tC (.int i)):=⟨za5⟩
theorem xN {b j}:jE X (.Constant (.bool b) j pos) (tC (.bl b)):=⟨zcj⟩
theorem vM {j}:jE X (.Constant .none j pos) (tC .non):=⟨za6⟩
theorem zj {x j}:jE X (.Constant (.str x) j pos) (tC (.str x)):=⟨za7⟩
theorem yV {v:V} {w:Value} (hg:Gl X x) (hm:X.mg x=some w) (r:RelV v w) (hd:(x == ("__debug__":Str))=false:=by decide):jE X (.Name x pos) (tC v):=⟨JZ hg hm r hd⟩
theorem wC {v:V} {w:Value} (hg:Gl X x) (hm:X.mg x=none) (hv:bootBuiltins x=some w) (r:RelV v w) (hn:x≠"__name__":=by decide) (hd:(x == ("__debug__":Str))=false:=by decide):jE X (.Name x pos) (tC v):=⟨J0 hg hm hv r hn hd⟩
theorem zp (ho:jOp X (binaryOp bop) r) (ha:jE X a ta) (hb:jE X b tb):jE X (.BinOp a bop b pos) (tOp r ta tb):=⟨zcm ho.out ha.out hb.out⟩
theorem yt (ha:jE X a ta):jE X (.UnaryOp .USub a pos) (tUn (rU fun i=>.int (-i)) ta):=⟨zcn zbq ha.out⟩
theorem yg (ho:jOp X (compareOp op) r) (ha:jE X a ta) (hb:jE X b tb) (hm:behindInMarks op b=false):jE X (.Compare a [op] [b] pos) (tOp r ta tb):=⟨Qe ho.out ha.out hb.out hm⟩
theorem zt (ho:jOp X (compareOp op) r) (ha:jE X a ta) (hb:jE X b tb) (hm:behindInMarks op b=false):jT X (.Compare a [op] [b] pos) (XA (tOp r ta tb)):=⟨Qf ho.out ha.out hb.out hm⟩
theorem ZX (ho:jOp X (compareOp op) r) (ho':jOp X (compareOp op') r') (ha:jE X a ta) (hb:jE X b tb) (hc:jE X c tc) (hm:lastMarks [op,op'] [b,c]=false:=by with_unfolding_all rfl):jE X (.Compare a [op,op'] [b,c] pos) (Zh r r' ta tb tc):=⟨Vg ho.out ho'.out ha.out hb.out hc.out hm⟩
theorem yN (ho:jOp X (compareOp op) r) (ho':jOp X (compareOp op') r') (ha:jE X a ta) (hb:jE X b tb) (hc:jE X c tc) (hm:lastMarks [op,op'] [b,c]=false:=by with_unfolding_all rfl):jT X (.Compare a [op,op'] [b,c] pos) (XA (Zh r r' ta tb tc)):=⟨Vh ho.out ho'.out ha.out hb.out hc.out hm⟩
theorem yw (h:jE X e te) (he:∀ whole,isTrue e X.env whole=(do let v <- whole; standAt e.pos; holding [v] (truthy v)):=by intro _; rfl):jT X e (tB te):=⟨za9 h.out he⟩
theorem vw (ha:jT X a tA):jW X (.BoolOp .And [a] pos) tA:=⟨pw_and1 ha.out⟩
theorem yD (ha:jT X a tA):jW X (.BoolOp .Or [a] pos) tA:=⟨pw_or1 ha.out⟩
theorem vN (ha:jT X a tA) (hb:jW X (.BoolOp .And (b :: rest) pos) tB'):jW X (.BoolOp .And (a :: b :: rest) pos) (tAnd tA tB'):=⟨pw_and ha.out hb.out⟩
theorem yQ (ha:jT X a tA) (hb:jW X (.BoolOp .Or (b :: rest) pos) tB'):jW X (.BoolOp .Or (a :: b :: rest) pos) (tOr tA tB'):=⟨pw_or ha.out hb.out⟩
theorem jW.pt (h:jW X e tA):jT X e tA:=⟨PW.pt h.out⟩
theorem yz (ha:jT X a tA):jT X (.UnaryOp .Not a pos) (tNot tA):=⟨zba ha.out⟩
theorem wo {op} (h:jE X a te):jE X (.BoolOp op [a] pos) te:=⟨zbb h.out⟩
theorem xx (ha:jE X a ta) (hb:jE X (.BoolOp .And (b :: rest) pos) tb):jE X (.BoolOp .And (a :: b :: rest) pos) (zaD ta tb):=⟨zbc ha.out hb.out⟩
theorem zaO (ha:jE X a ta) (hb:jE X (.BoolOp .Or (b :: rest) pos) tb):jE X (.BoolOp .Or (a :: b :: rest) pos) (tOrV ta tb):=⟨zck ha.out hb.out⟩
theorem YM (ha:jE X a ta):jE X (.UnaryOp .Not a pos) (zaE ta):=⟨zbd ha.out⟩
theorem ZY (hc:jT X c tA) (ha:jE X a ta) (hb:jE X b tb):jE X (.IfExp c a b pos) (tIf tA ta tb):=⟨W8 hc.out ha.out hb.out⟩
theorem ze:jA X [] tNil:=⟨zbt⟩
theorem ja_c (ha:jE X e te) (hr:jA X es t) (h:zP e=false:=by rfl):jA X (e :: es) (Vk te t):=⟨pa_c ha.out hr.out h⟩
theorem zB (h:jA X es t):jE X (.List es pos) (tLst t):=⟨zbv h.out⟩
theorem zX {x1} (h:jA X es t):jE X (.Tuple es x1 pos) (tTup t):=⟨zbu h.out⟩
theorem zE (hr:jIx X r) (ha:jE X a ta) (hb:jE X b tb) (hs:XG b):jE X (.Subscript a b pos) (tOp r ta tb):=⟨zcv hr.out ha.out hb.out hs⟩
theorem zR:jO X none Zj:=⟨Qm⟩
theorem zI (h:jE X e te):jO X (some e) (zaM te):=⟨Qn h.out⟩
theorem zD {r:V->Option Int->Option Int->Hp->VK->Prop} {lo hi:Option Expr} {tl th:TO} (hr:jSl X r) (he:jE X e te) (hl:jO X lo tl) (hu:jO X hi th):jE X (.Subscript e (.Slice lo hi none p2) pos) (tSl r te tl th):=⟨Vp hr.out he.out hl.out hu.out⟩
variable {CX:CXT} {k:Nat} {f C:Addr} {fd:FuncData} {ps:List Str} {sp:Sp} {dvs:List V} {ds:List Value} {E:XK} {id T:String} {rc:List V->Hp->VK->Prop} {rm:V->List V->Hp->VK->Prop}
theorem Vz (F:FnOk X.prog X.w X.K X.mg X.base CX k f fd ps sp) (hr:Room k X.A) (hg:Gl X x) (hm:X.mg x=some (.ref f)) (hk:PySem.W.keepIn X.K (.ref f)=true) (hb:Binds X.K fd ps ds) (hd:Vals dvs ds) (hx:yL CX X E)
    (ha:jA X (e :: es) t) (hdb:(x == ("__debug__":Str))=false:=by decide) (h1:zP e=false:=by rfl) (h2:es.all (fun e=>!zP e)=true:=by rfl) :
    jE X (.Call (.Name x p) (e :: es) [] pos) (XC sp dvs E t):=⟨zcA F hr hg hm hk hb hd hx ha.out hdb h1 h2⟩
theorem zK (hc:jCa X (.builtin id) rc) (hg:Gl X x) (hm:X.mg x=none) (hv:bootBuiltins x=some (.builtin id)) (ha:jA X (e :: es) t) (hn:x≠"__name__":=by decide) (hdb:(x == ("__debug__":Str))=false:=by decide)
    (h1:zP e=false:=by rfl) (h2:es.all (fun e=>!zP e)=true:=by rfl):jE X (.Call (.Name x p) (e :: es) [] pos) (tCB rc t):=⟨zbG hc.out hg hm hv ha.out hn hdb h1 h2⟩
theorem yd (hc:jCa X (.type T) rc) (hg:Gl X x) (hm:X.mg x=none) (hv:bootBuiltins x=some (.type T)) (ha:jA X (e :: es) t) (hn:x≠"__name__":=by decide) (hdb:(x == ("__debug__":Str))=false:=by decide)
    (h1:zP e=false:=by rfl) (h2:es.all (fun e=>!zP e)=true:=by rfl):jE X (.Call (.Name x p) (e :: es) [] pos) (tCB rc t):=⟨Qx hc.out hg hm hv ha.out hn hdb h1 h2⟩
theorem wp {name:Str} (pa:PlainAttrs T) (slot:Slot T name id) (hty:typeOf (.builtin id)=pure (.type "method_descriptor")) (hm:jMt X id rm) (ho:jE X o to)
    (hbase:attributeBase o name X.env (eval o X.env)=eval o X.env:=by rfl) (hline:(apos.endLine == cpos.line)=true:=by rfl):jE X (.Call (.Attribute o name apos) [] [] cpos) (tBM0 X.K T rm to):=⟨zbB pa slot hty hm.out ho.out hbase hline⟩
theorem zZ {name:Str} (pa:PlainAttrs T) (slot:Slot T name id) (hty:typeOf (.builtin id)=pure (.type "method_descriptor")) (hm:jMt X id rm) (ho:jE X o to) (ha:jA X (e :: es) t)
    (hbase:attributeBase o name X.env (eval o X.env)=eval o X.env:=by rfl)
    (hfew:((backTo cpos (starEach (e :: es) X.env)).all (fun x=>!x.1) && (backToKw cpos (keywordEach [] X.env)).all (fun x=>x.1.isSome)
      && decide ((e :: es).length + ([]:List Keyword).length + (if ([]:List Keyword).isEmpty then 0 else 1) < 30))=true:=by rfl)
    (hline:(apos.endLine == cpos.line)=true:=by rfl) (h1:zP e=false:=by rfl) (h2:es.all (fun e=>!zP e)=true:=by rfl) :
    jE X (.Call (.Attribute o name apos) (e :: es) [] cpos) (tBM X.K T rm to t):=⟨zcw pa slot hty hm.out ho.out ha.out hbase hfew hline (zV h1) (yE h2)⟩
variable {st:Stmt} {sts:List Stmt} {s1 s2:TS} {tg iter elt:Expr} {g:TG} {wi:TI} {tb1:TS} {ifs:List Expr} {tt:TT}
theorem zv:jSs X [] W9:=⟨J6⟩
theorem zd (h1:jS X st s1) (h2:jSs X sts s2):jSs X (st :: sts) (tSeq s1 s2):=⟨Va h1.out h2.out⟩
theorem zh (h1:jS X st s1):jSs X [st] s1:=⟨J7 h1.out⟩
theorem zM (he:jE X e te) (hs:swapsWith e none pos.line X.env=pure false:=by rfl):jS X (.Expr e pos) (zaF te):=⟨J8 he.out hs⟩
theorem zq (he:jE X e te):jS X (.Return (some e) pos) (tRet te):=⟨zbe he.out⟩
theorem Zr:jS X (.Return none pos) zaG:=⟨J9⟩
theorem zC {A B:List Stmt} (hc:jT X c tA) (ha:jSs X A s1) (hb:jSs X B s2):jS X (.If c A B pos) (tIfS tA s1 s2):=⟨zcl hc.out ha.out hb.out⟩
theorem zu {i:Nat} {pos':Pos} (hN:X.N.Nodup) (hi:X.N[i]?=some x) (hx:Loc X.env.scope x) (he:jE X e te) (hs:swapsWith e (some (.Name x pos')) pos.line X.env=pure false:=by rfl)
    (hf:X.fn x=true\/X.env.scope.names.lookup x=some .local:=by first | exact .inl rfl | exact .inr rfl | assumption):jS X (.Assign [.Name x pos'] e pos) (tAsg te (Xv i)):=⟨zbh hN hi hx he.out hs hf⟩
theorem xO (he:jE X e te) (hg:jG X tg g) (hs:swapsWithSole [tg] e pos.line X.env=pure false:=by rfl) (hw:swappedStores [tg] e X.env=pure none:=by rfl) (h1:(assignEach [tg] X.env).map (·.2)=[assign tg X.env]:=by rfl):jS X (.Assign [tg] e pos) (tAsg te g):=⟨zbg he.out hg.out hs hw h1⟩
theorem zF {i:Nat} (hN:X.N.Nodup) (hi:X.N[i]?=some x) (hx:Loc X.env.scope x) (hf:X.fn x=true\/X.env.scope.names.lookup x=some .local:=by first | exact .inl rfl | exact .inr rfl | assumption):jG X (.Name x pos) (Xv i):=⟨Qa hN hi hx hf⟩
theorem yH:jGs X [] gNil:=⟨Qb⟩
theorem zQ {g:TG} {gs:TGs} (h1:jG X e g) (h2:jGs X es gs) (hs:(assignEach (e :: es) X.env).map (·.2)=assign e X.env :: (assignEach es X.env).map (·.2):=by rfl):jGs X (e :: es) (zaH g gs):=⟨Vb h1.out h2.out hs⟩
theorem y9 {k:Nat} {gs:TGs} {n:Nat} (hc:X.calm=true) (h:jGs X es gs) (hn:(assignEach es X.env).length=n:=by rfl) (hst:(assignEach es X.env).findIdx? (·.1)=none:=by rfl):jG X (.Tuple es k pos) (gTup X.K n gs):=⟨zbf hc h.out hn hst⟩
theorem xX {l:Expr} {tl:TE} (hl:jE X l tl):jI X tg l (zaI X.K tl):=⟨Qc hl.out⟩
theorem Zs {l:Expr} {tl:TE} (hl:jE X l tl):jI X tg l (iTup X.K tl):=⟨zbj hl.out⟩
theorem YN (hc:X.calm=true) {l:Expr} {tl:TE} (hl:jE X l tl):jI X tg l (iStr tl):=⟨zbE hc hl.out⟩
theorem jU (hg:Gl X "range") (hm:X.mg "range"=none) (ha:jA X [a] t) (h:zP a=false:=by rfl):jI X tg (.Call (.Name "range" p) [a] [] pos) (zaJ t):=⟨Wq hg hm ha.out (zV h)⟩
theorem y0 (hp:PassesOwn (model X.prog X.w) X.A X.env X.xe) (hc:X.calm=true) (hi:jI X tg iter wi) (hg:jG X tg g) (hb:jSs X sts tb1) (hs:∀ x,foldedSetIterable iter X.env x=pure x:=by intro _; rfl):jS X (.For tg iter sts [] pos) (tFor wi g tb1):=⟨zbk hp hc hi.out hg.out hb.out hs⟩
theorem xa (hp:PassesOwn (model X.prog X.w) X.A X.env X.xe) (hc:jT X c tA) (hb:jSs X sts tb1):jS X (.While c sts [] pos) (Vc tA tb1):=⟨Vd hp hc.out hb.out⟩
theorem vx:jTs X [] tYes:=⟨Qs⟩
theorem XN (h:jT X c tA):jTs X [c] tA:=⟨Qt h.out⟩
theorem vy {scope:Scope} (M:List Str) (hc:X.calm=true) (hi:jI X tg iter wi) (hg:∀ C s H ex E,jG (cxLC X scope (clOf scope X.env) M C s H ex E) tg g) (ht:∀ C s H ex E,jTs (cxLC X scope (clOf scope X.env) M C s H ex E) ifs tt)
    (he:∀ C s H ex E,jE (cxLC X scope (clOf scope X.env) M C s H ex E) elt te) (hs:∀ x,foldedSetIterable iter X.env x=pure x:=by intro _; rfl)
    (h1:closureFor scope X.env=pure (clOf scope X.env):=by with_unfolding_all rfl) (h2:scope.kind=.function:=by rfl) (h3:scope.names.all (fun y=>y.2 != .cell)=true:=by rfl) (h4:scope.names.all (fun y=>y.2 != .local || scope.names.lookup y.1 == some .local)=true:=by rfl)
    (h5:X.N.all (fun y=>scope.names.lookup y != some .local)=true:=by rfl) (h6:scope.names.all (fun p=>p.2 != .free || (((clOf scope X.env).lookup p.1).isSome && (X.env.kindOf p.1 == some .cell || X.env.kindOf p.1 == some .free)))=true:=by rfl) :
    jE X (.ListComp elt [⟨tg,iter,ifs,0⟩] scope pos) (tLC wi g tt te M.length):=⟨Qu M hc hi.out (fun C s H ex E=>(hg C s H ex E).out) (fun C s H ex E=>(ht C s H ex E).out) (fun C s H ex E=>(he C s H ex E).out) hs h1 h2 h3 h4 h5 h6⟩
theorem XQ {scope:Scope} (M:List Str) {i:Nat} {py spos:Pos} (hN:X.N.Nodup) (hi':X.N[i]?=some y) (hy:Loc X.env.scope y) (hc:X.calm=true) (hi:jI X tg iter wi) (hg:∀ C s H ex E,jG (cxLC X scope (clOf scope X.env) M C s H ex E) tg g)
    (ht:∀ C s H ex E,jTs (cxLC X scope (clOf scope X.env) M C s H ex E) ifs tt) (he:∀ C s H ex E,jE (cxLC X scope (clOf scope X.env) M C s H ex E) elt te) (hs:∀ x,foldedSetIterable iter X.env x=pure x:=by intro _; rfl)
    (hsw:swapsWith (.ListComp elt [⟨tg,iter,ifs,0⟩] scope pos) (some (.Name y py)) spos.line X.env=pure true:=by rfl)
    (hf:X.fn y=true\/X.env.scope.names.lookup y=some .local:=by first | exact .inl rfl | exact .inr rfl | assumption)
    (h1:closureFor scope X.env=pure (clOf scope X.env):=by with_unfolding_all rfl) (h2:scope.kind=.function:=by rfl) (h3:scope.names.all (fun y=>y.2 != .cell)=true:=by rfl) (h4:scope.names.all (fun y=>y.2 != .local || scope.names.lookup y.1 == some .local)=true:=by rfl)
    (h5:X.N.all (fun y=>scope.names.lookup y != some .local)=true:=by rfl) (h6:scope.names.all (fun p=>p.2 != .free || (((clOf scope X.env).lookup p.1).isSome && (X.env.kindOf p.1 == some .cell || X.env.kindOf p.1 == some .free)))=true:=by rfl) :
    jS X (.Assign [.Name y py] (.ListComp elt [⟨tg,iter,ifs,0⟩] scope pos) spos) (fun D σ H=>tLC wi g tt te M.length σ H fun v H1=>D.nx (σ.set i (some v)) H1) :=
  ⟨Qv M hN hi' hy hc hi.out (fun C s H ex E=>(hg C s H ex E).out) (fun C s H ex E=>(ht C s H ex E).out) (fun C s H ex E=>(he C s H ex E).out) hs hsw hf h1 h2 h3 h4 h5 h6⟩
theorem zL:jOp X (binaryOp .Add) (rI0 fun i j=>.int (i + j)):=⟨zbl⟩
theorem xy:jOp X (binaryOp .Sub) (rI0 fun i j=>.int (i - j)):=⟨zbm⟩
theorem xz:jOp X (binaryOp .Mult) (rI CMul fun i j=>.int (i * j)):=⟨zbn⟩
theorem yh:jOp X (binaryOp .FloorDiv) (rI CDiv fun i j=>.int (i / j)):=⟨Qd⟩
theorem z5:jOp X (binaryOp .Mod) (rI (fun _ j=>0 < j) fun i j=>.int (i % j)):=⟨zbo⟩
theorem zbH:jOp X (binaryOp .Pow) (rI CPow fun i j=>.int (i ^ j.toNat)):=⟨zbp⟩
theorem z7:jOp X (compareOp .Eq) rEq:=⟨zco⟩
theorem xl:jOp X (compareOp .NotEq) rNe:=⟨zcp⟩
theorem yR:jOp X (compareOp .Lt) (rI0 fun i j=>.bl (decide (i < j))):=⟨zcq⟩
theorem yX:jOp X (compareOp .LtE) (rI0 fun i j=>.bl (decide (i<=j))):=⟨zcr⟩
theorem ZZ:jOp X (compareOp .Gt) (rI0 fun i j=>.bl (decide (j < i))):=⟨zcs⟩
theorem zcB:jOp X (compareOp .GtE) (rI0 fun i j=>.bl (decide (j<=i))):=⟨zct⟩
theorem xY:jOp X (compareOp .In) (fun x y H Q=>∃ i j,x=.str i/\y=.str j/\Q (.bl (!(Builtin.Str.occurrences j i 0 j.length 1).isEmpty)) H):=⟨Wt⟩
theorem xm:jOp X (compareOp .In) (rIn X.K false):=⟨Wy⟩
theorem y6:jOp X (compareOp .NotIn) (rIn X.K true):=⟨Zm⟩
theorem yT:jOp X (binaryOp .Add) (fun x y H Q=>∃ i j,x=.str i/\y=.str j/\i.length + j.length<=sizeLine/\Q (.str (i ++ j)) H):=⟨YC⟩
theorem z8:jOp X (binaryOp .Add) rCat:=⟨zbD⟩
theorem Qy:jOp X (binaryOp .Add) (zaN X.K):=⟨Qo⟩
theorem zG:jIx X (rIxL X.K):=⟨Qq⟩
theorem z9:jIx X (rIxT X.K):=⟨zby⟩
theorem zbI:jIx X rIxS:=⟨zbz⟩
theorem wq:jSl X rSlS:=⟨zbF⟩
theorem z3:jSl X (rSlL X.K):=⟨Qr⟩
theorem zbJ:jSl X (rSlT X.K):=⟨zbx⟩
theorem wf:jMt X "str.startswith" XM:=⟨jz⟩
theorem yY:jMt X "str.split" Vx:=⟨Vy⟩
theorem zY:jMt X "list.append" XH:=⟨Wz⟩
theorem wu:jMt X "list.pop" rPop:=⟨zbC⟩
theorem wO:jMt X "list.extend" XI:=⟨WA⟩
theorem yA:jCa X (.builtin "len") (fun xs H Q=>∃ z,xs=[.str z]/\z.length<=sizeLine/\Q (.int z.length) H):=⟨Zp⟩
theorem zy:jCa X (.builtin "len") (fun xs H Q=>∃ p ys,xs=[.ref p]/\(SqL X.K H p ys\/SqT X.K H p ys)/\Q (.int ys.length) H):=⟨Zo⟩
theorem Zt (hc:X.calm=true):jCa X (.builtin "all") (fun xs H Q=>∃ (p:Addr) (bs:List Bool),xs=[.ref p]/\SqL X.K H p (bs.map V.bl)/\Q (.bl (bs.all _root_.id)) H):=⟨vL hc⟩
theorem xo:jCa X (.builtin "isinstance") (fun xs H Q=>∃ x t T b,xs=[x,.ty T]/\TyOf X.K H x t/\PySem.W.kitOne X.K t (.type T)=some b/\Q (.bl b) H):=⟨ZW⟩
theorem xA:jCa X (.type "str") (fun xs H Q=>∃ i,xs=[.int i]/\i.natAbs.log2 < 1920/\Q (.str (toString i)) H):=⟨Zi⟩
theorem yq:jCa X (.type "tuple") (fun xs H Q=>∃ p ys,xs=[.ref p]/\((SqL X.K H p ys/\∀ l,H l=none->Q (.ref l) (upd H l (.tup ys)))\/(SqT X.K H p ys/\Q (.ref p) H))):=⟨jy⟩
theorem xB:jCa X (.type "list") (fun xs H Q=>∃ p ys,xs=[.ref p]/\(SqL X.K H p ys\/SqT X.K H p ys)/\∀ l,H l=none->Q (.ref l) (upd H l (.lst ys))):=⟨Zq⟩
end
section
variable {P:Program} {w:World} {K:PySem.W.Frag} {mg:Str->Option Value} {base:Heap}
theorem Fun.by {x qual:Str} {st:Stmt} {f:Addr} {fd:FuncData} {N ps:List Str} {k:Nat} {sp:Sp} (F:Fun K x qual st f fd) (S:FnScope N ps (zn st)) (len:∀ vs H Q E,sp vs H Q E->vs.length=ps.length)
    (hbody:∀ (cdv:Value) (A:Around) (outer:List Env) (s:Shared) (H:Hp) (vs:List V) (Q:VK) (E:XK),Room k (A.deeper (envOfC qual (zn st) s.heap.objs.size f cdv))->sp vs H Q E ->
      ∃ t,jSs (cxOf CX0 P w K mg base N qual (zn st) f cdv A outer s H E).nox (yx st) t/\t { nx:=fun _ H'=>Q .non H',rt:=Q } (we N vs) H):FnOk P w K mg base CX0 (k + 1) f fd ps sp :=
  F.ok S len fun cdv A outer s H vs Q E hr h=>let ⟨t,b,q⟩:=hbody cdv A outer s H vs Q E hr h; ⟨t,b.out,q⟩
end
end L2
namespace L2
open PySem
structure Mv (fs xs:List Addr) (h h':Heap):Prop where
  keep:∀ b o,h.get? b=some o->b ∉ fs->b ∉ xs->h'.get? b=some o
  slot:∀ b o,h.get? b=some o->b ∉ xs->∃ sl,h'.get? b=some { o with slots:=sl }
  there:∀ b o,h.get? b=some o->∃ o',h'.get? b=some o'
theorem Mv.refl {fs xs:List Addr} {h:Heap}:Mv fs xs h h:=⟨fun _ _ e _ _=>e,fun _ o e _=>⟨o.slots,e⟩,fun _ o e=>⟨o,e⟩⟩
theorem Mv.trans {fs xs:List Addr} {h h1 h2:Heap} (a:Mv fs xs h h1) (b:Mv fs xs h1 h2):Mv fs xs h h2 :=
  ⟨fun c o e f x=>b.keep c o (a.keep c o e f x) f x,fun c o e x=>let ⟨_,e1⟩:=a.slot c o e x; let ⟨sl,e2⟩:=b.slot c _ e1 x; ⟨sl,e2⟩,fun c o e=>let ⟨o1,e1⟩:=a.there c o e; b.there c o1 e1⟩
theorem Mv.mono {fs fs' xs xs':List Addr} {h h1:Heap} (a:Mv fs xs h h1) (hf:∀ b∈fs,b∈fs') (hx:∀ b∈xs,b∈xs'):Mv fs' xs' h h1 :=
  ⟨fun c o e f x=>a.keep c o e (fun z=>f (hf c z)) fun z=>x (hx c z),fun c o e x=>a.slot c o e fun z=>x (hx c z),a.there⟩
theorem Mv.of_keeps {fs xs:List Addr} {h h':Heap} (k:∀ b o,h.get? b=some o->h'.get? b=some o):Mv fs xs h h':=⟨fun b o e _ _=>k b o e,fun b o e _=>⟨o.slots,k b o e⟩,fun b o e=>⟨o,k b o e⟩⟩
structure Tr (h:Heap) (e:Addr) (C:Value) (dx:Option Addr) (T:Addr) (fl:Value):Prop where
  ex:∃ oe vs,h.get? e=some oe/\oe.cls=C/\oe.dict=dx/\oe.data=.fields vs/\vs[1]?=some (.ref T)/\vs[2]?=some .none
  tb:∃ ot ts,h.get? T=some ot/\ot.data=.fields ts/\ts[3]?=some fl
  ne:T≠e
theorem xP (f:Array Value->Array Value) (o:Obj):(Obj.mapFields f o).dict=o.dict:=by
  unfold Obj.mapFields
  split <;> rfl
theorem YO {h base:Heap} {l:List Env} (hl:h.FunFrames base l) {e:Addr} {oe:Obj} {vs:Array Value} (he:h.get? e=some oe) (hd:oe.data=.fields vs):e ∉ l.filterMap (·.frame):=fun z=>by
  obtain ⟨_,o,ho,nf⟩:=hl.mem z
  rw [he] at ho
  cases ho
  exact nf vs hd
section
variable {M:Model} {A:Around} {E:Value->Shared->Prop} {s:Shared} {base:Heap} {env:Env} {outer:List Env} {L e T:Addr} {C:Value} {dx:Option Addr} {Q:Unit->Shared->Prop}
theorem jV {oe:Obj} {vs:Array Value} {head:Value} {had:Bool} (hfr:A.frames=some (env :: outer)) (hl:s.heap.FunFrames base (env :: outer)) (hf:env.frame=some L)
    (he:s.heap.get? e=some oe) (hd:oe.data=.fields vs) (hsz:1 < vs.size) (hz2:vs[2]?=some .none)
    (hq:∀ h' T,s.heap.objs.size<=T->Tr h' e oe.cls oe.dict T (rawInt L)->Mv ((env :: outer).filterMap (·.frame)) [e] s.heap h'->Q () { s with heap:=h' }) :
    wpAny M A (do let a <- frameOf env; let pl <- entryPlaceOf L had; let b <- EntryCells.newEntry head a .none (rawInt L) .none pl; setField (.ref e) 1 b) Q E s:=by
  have nf:=YO hl he hd
  refine wpAny_bind (wpAny_frameOf_fun hfr hl hf fun h1 s1=>wpAny_bind (wpAny_entryPlaceOf fun pl hp=>?_))
  unfold EntryCells.newEntry newFields
  refine wpAny_bind (wpAny_newObj_type ?_ (by exact hp.sizeOk5 _ _ _ _ _))
  have e1:h1.get? e=some oe:=(s1.2.1 e nf).trans he
  have ne:h1.objs.size≠e:=Nat.ne_of_gt (Heap.lt_size e1)
  generalize ho:({ cls:=.type "traceback",dict:=none,data:=.fields ([head,.ref L,.none,rawInt L,.none] ++ (if pl.isEmpty then List.replicate 6 Value.none else pl)).toArray }:Obj)=ob
  have t3:∃ ts,ob.data=.fields ts/\ts[3]?=some (rawInt L):=by
    subst ho
    refine ⟨_,rfl,?_⟩
    simp
  have fr:ob.isFreed=false:=by
    obtain ⟨ts,q,_⟩:=t3
    exact Obj.isFreed_of_fields q
  have e2:=Heap.get?_push_of_some (h:=h1) ob e1
  refine wpAny_setField e2 hd hsz (hq _ h1.objs.size (Nat.le_of_eq s1.1.symm) ⟨?_,?_,ne⟩ ⟨fun b o q f x=>?_,fun b o q x=>?_,fun b o q=>?_⟩)
  · exact ⟨_,_,Heap.get?_update_self _ e2 (Obj.isFreed_of_fields (Obj.data_mapFields hd _)),Obj.cls_mapFields _ _,xP _ _,Obj.data_mapFields hd _,by simp [hsz],by simp [hz2]⟩
  · obtain ⟨ts,q1,q2⟩:=t3
    exact ⟨ob,ts,(Heap.get?_update_other _ _ (Ne.symm ne)).trans (Heap.get?_push_size _ fr),q1,q2⟩
  · rw [Heap.get?_update_other _ _ (fun z=>x (by simp [z]))]
    exact Heap.get?_push_of_some _ ((s1.2.1 b f).trans q)
  · obtain ⟨sl,q1⟩:=s1.2.2 b o q
    exact ⟨sl,by rw [Heap.get?_update_other _ _ (fun z=>x (by simp [z]))]; exact Heap.get?_push_of_some _ q1⟩
  · obtain ⟨sl,q1⟩:=s1.2.2 b o q
    by_cases z:b=e
    · subst z
      exact ⟨_,Heap.get?_update_self _ e2 (Obj.isFreed_of_fields (Obj.data_mapFields hd _))⟩
    · exact ⟨_,by rw [Heap.get?_update_other _ _ (Ne.symm z)]; exact Heap.get?_push_of_some _ q1⟩
theorem jX {oe:Obj} {vs:Array Value} (hfr:A.frames=some (env :: outer)) (hl:s.heap.FunFrames base (env :: outer)) (hf:env.frame=some L)
    (he:s.heap.get? e=some oe) (hd:oe.data=.fields vs) (h1:vs[1]?=some .none) (hz2:vs[2]?=some .none)
    (hq:∀ h' T,s.heap.objs.size<=T->Tr h' e oe.cls oe.dict T (rawInt L)->Mv ((env :: outer).filterMap (·.frame)) [e] s.heap h'->Q () { s with heap:=h' }) :
    wpAny M A (noteFrame (.ref e) env) Q E s:=by
  unfold noteFrame
  simp only [hf]
  refine wpAny_bind (wpAny_field he hd h1 ?_)
  rw [if_neg (by decide:¬ ((Value.none != Value.none)=true))]
  exact jV hfr hl hf he hd (Array.getElem?_eq_some_iff.mp h1).1 hz2 hq
theorem vz {fl:Value} {v:Option Addr} (t:Tr s.heap e C dx T fl) (hq:∀ h',Tr h' e C dx T (v.elim .none fun f=>rawInt f)->Mv [] [T] s.heap h'->Q () { s with heap:=h' }) :
    wpAny M A (setFlight (.ref e) v) Q E s:=by
  obtain ⟨⟨oe,vs,he,hc,hx,hd,h1,hz2⟩,⟨ot,ts,ht,hdt,h3⟩,ne⟩:=t
  unfold setFlight
  refine wpAny_bind (wpAny_field he hd h1 ?_)
  rw [if_pos (by simp:(Value.ref T != Value.none)=true)]
  have up:=Heap.get?_update_self (Obj.mapFields (·.setIfInBounds 3 (v.elim .none fun f=>rawInt f))) ht (Obj.isFreed_of_fields (Obj.data_mapFields hdt _))
  refine wpAny_setField ht hdt (Array.getElem?_eq_some_iff.mp h3).1 (hq _ ⟨⟨oe,vs,(Heap.get?_update_other _ _ ne).trans he,hc,hx,hd,h1,hz2⟩,⟨_,_,up,Obj.data_mapFields hdt _,?_⟩,ne⟩ ⟨fun b o q _ x=>?_,fun b o q x=>⟨o.slots,?_⟩,fun b o q=>?_⟩)
  · simp [(Array.getElem?_eq_some_iff.mp h3).1]
  · exact (Heap.get?_update_other _ _ (fun z=>x (by simp [z]))).trans q
  · exact (Heap.get?_update_other _ _ (fun z=>x (by simp [z]))).trans q
  · by_cases z:b=T
    · subst z
      exact ⟨_,up⟩
    · exact ⟨o,(Heap.get?_update_other _ _ (Ne.symm z)).trans q⟩
theorem Z0 (hfr:A.frames=some (env :: outer)) (hl:s.heap.FunFrames base (env :: outer)) (hf:env.frame=some L) (t:Tr s.heap e C dx T .none)
    (hq:∀ h' T',s.heap.objs.size<=T'->Tr h' e C dx T' (rawInt L)->Mv ((env :: outer).filterMap (·.frame)) [e,T] s.heap h'->Q () { s with heap:=h' }) :
    wpAny M A (noteFrame (.ref e) env) Q E s:=by
  obtain ⟨⟨oe,vs,he,hc,hx,hd,h1,hz2⟩,⟨ot,ts,ht,hdt,h3⟩,ne⟩:=t
  subst hc
  subst hx
  unfold noteFrame
  simp only [hf]
  refine wpAny_bind (wpAny_field he hd h1 ?_)
  rw [if_pos (by simp:(Value.ref T != Value.none)=true)]
  refine wpAny_bind (wpAny_field ht hdt h3 ?_)
  rw [if_neg (by simp [rawInt]:¬ ((Value.none == rawInt L)=true))]
  have up:=Heap.get?_update_self (Obj.mapFields (·.setIfInBounds 3 .none)) ht (Obj.isFreed_of_fields (Obj.data_mapFields hdt _))
  have k:∀ b o,b≠T->s.heap.get? b=some o->(s.heap.update T (Obj.mapFields (·.setIfInBounds 3 .none))).get? b=some o:=fun b o z q=>(Heap.get?_update_other _ _ (Ne.symm z)).trans q
  refine wpAny_bind (wpAny_setField ht hdt (Array.getElem?_eq_some_iff.mp h3).1 ?_)
  refine jV (base:=base) hfr (hl.of_keeps fun b o q nf=>⟨o,k b o (fun z=>?_) q,rfl⟩) hf (k e oe (Ne.symm ne) he) hd (Array.getElem?_eq_some_iff.mp h1).1 hz2 fun h' T' hs t m=>hq h' T' ?_ t ⟨fun b o q f x=>?_,fun b o q x=>?_,fun b o q=>?_⟩
  · rw [z,ht] at q
    cases q
    exact nf ts hdt
  · rw [Heap.size_after_update] at hs
    exact hs
  · exact m.keep b o (k b o (fun z=>x (by simp [z])) q) f fun z=>x (by simp at z; simp [z])
  · exact m.slot b o (k b o (fun z=>x (by simp [z])) q) fun z=>x (by simp at z; simp [z])
  · by_cases z:b=T
    · subst z
      exact m.there b _ up
    · exact m.there b o (k b o z q)
end
end L2
namespace L2
open PySem PySem.Spec PyProof.Rows
theorem HOk.moved {P:Program} {w:World} {H:Hp} {h h':Heap} {fs xs:List Addr} (x:HOk P w H h) (m:Mv fs xs h h') (hf:∀ b∈fs,H b=none) (hx:∀ b∈xs,H b=none):HOk P w H h':=fun a o e =>
  (x a o e).stay (fun b u hb q=>m.keep b u q (fun z=>by
      have n:=hf b z
      rcases hb with r | r
      · rw [r,e] at n
        cases n
      · rw [r] at n
        cases n) fun z=>by
      have n:=hx b z
      rcases hb with r | r
      · rw [r,e] at n
        cases n
      · rw [r] at n
        cases n) (fun _ q=>q) fun _ _ q=>q
def CXf (P:Program) (w:World):CXT:=fun outer H s E u s'=>∃ (e T:Addr) (C:Value) (dx:Option Addr) (H':Hp),u=.ref e/\s'.os=s.os/\AllBare s'.gens/\Un (frs outer) [] H H' s.heap s'.heap/\HOk P w H' s'.heap /\
  Tr s'.heap e C dx T .none/\(s.heap.objs.size<=e/\s.heap.objs.size<=T)/\(H' e=none/\H' T=none)/\E C dx H'
def Fl (h:Heap) (H:Hp) (n:Nat) (e:Addr) (C:Value) (dx:Option Addr):Prop :=
  (∃ oe vs,h.get? e=some oe/\oe.cls=C/\oe.dict=dx/\oe.data=.fields vs/\vs[1]?=some .none/\vs[2]?=some .none)\/∃ T,Tr h e C dx T .none/\H T=none/\n<=T
def Air (X:Cx) (pins:List (Addr × Obj)) (σ:St) (E:XK) (u:Value) (s':Shared):Prop:=∃ (e:Addr) (C:Value) (dx:Option Addr) (H':Hp) (n:Nat),u=.ref e/\Inv X pins σ H' s'/\H' e=none/\X.s₀.heap.objs.size<=n/\n<=e/\(∀ p∈X.pn ++ pins,p.1 < n)/\Fl s'.heap H' n e C dx/\E C dx H'
section
variable {P:Program} {w:World} {K:PySem.W.Frag} {mg:Str->Option Value} {base:Heap} {N:List Str} {qual:Str} {scope:Scope} {f:Addr} {cd:Value} {A:Around} {outer:List Env} {s:Shared} {H:Hp} {E:XK}
theorem jY {pins:List (Addr × Obj)} {σ:St} {u:Value} {s':Shared} (h:Air (cxOf (CXf P w) P w K mg base N qual scope f cd A outer s H E) pins σ E u s'):(cxOf (CXf P w) P w K mg base N qual scope f cd A outer s H E).xe u s':=by
  obtain ⟨e,C,dx,H',n,rfl,I,ne,hn,he,hp,st,hE⟩:=h
  have fin:∀ (h2:Heap) (T:Addr) (xs:List Addr),Tr h2 e C dx T .none->Mv (frs (cxOf (CXf P w) P w K mg base N qual scope f cd A outer s H E).stack) xs s'.heap h2->(∀ b∈xs,H' b=none/\s.heap.objs.size<=b)->H' T=none->s.heap.objs.size<=T ->
      CXf P w outer H s E (.ref e) { s' with heap:=h2 }:=by
    intro h2 T xs t m hx nT sT
    have nst:∀ (b:Addr) (o:Obj),s.heap.get? b=some o->b ∉ frs outer->b ∉ frs (cxOf (CXf P w) P w K mg base N qual scope f cd A outer s H E).stack:=fun b o q nb z=>by
      rcases List.mem_cons.mp (I.stkSub b z) with r | r
      · exact absurd (show b=(cxOf (CXf P w) P w K mg base N qual scope f cd A outer s H E).env.locals from r) (Nat.ne_of_lt (Nat.lt_of_lt_of_le (Heap.lt_size q) I.ok.above))
      · exact nb r
    have nx:∀ (b:Addr) (o:Obj),s.heap.get? b=some o->b ∉ xs:=fun b o q z=>absurd (Nat.lt_of_lt_of_le (Heap.lt_size q) (hx b z).2) (Nat.lt_irrefl _)
    have B:Un (frs outer) [] H H' s.heap s'.heap:=I.base
    refine ⟨e,T,C,dx,H',rfl,I.os,I.bare,⟨fun b o q n hb hx=>?_,fun b o q n hb hx=>?_,B.free,fun b o q hx=>?_,B.tups,B.frzs,B.tbls⟩,I.hok.moved m I.stkFree fun b hb=>(hx b hb).1,t,⟨Nat.le_trans hn he,sT⟩,⟨ne,nT⟩,hE⟩
    · exact m.keep b o (B.keep b o q n hb hx) (nst b o q hb) (nx b o q)
    · obtain ⟨sl,q1⟩:=B.slot b o q n hb hx
      obtain ⟨sl2,q2⟩:=m.slot b _ q1 (nx b o q)
      exact ⟨sl2,q2⟩
    · obtain ⟨o1,q1⟩:=B.there b o q hx
      exact m.there b o1 q1
  show wpAny (model P w) _ (leaving _ (.ref e)) _ _ s'
  unfold leaving
  rcases st with ⟨oe,vs,h1,rfl,rfl,h4,h5,h6⟩ | ⟨T0,t0,n0,s0⟩
  · refine wpAny_bind (jX I.ok.frames I.stack rfl h1 h4 h5 h6 fun h' T hs t m=>vz t fun h2 t2 m2=>?_)
    refine fin h2 T [e,T] t2 ((m.mono (fun _ z=>z) fun b z=>?_).trans (m2.mono (fun b z=>nomatch z) fun b z=>?_)) (fun b hb=>?_) (I.hok.fresh hs) (Nat.le_trans I.sz hs)
    · simp at z
      simp [z]
    · simp at z
      simp [z]
    · rcases List.mem_cons.mp hb with r | hb
      · rw [r]
        exact ⟨ne,Nat.le_trans hn he⟩
      · rw [List.mem_singleton.mp hb]
        exact ⟨I.hok.fresh hs,Nat.le_trans I.sz hs⟩
  · refine wpAny_bind (Z0 I.ok.frames I.stack rfl t0 fun h' T hs t m=>vz t fun h2 t2 m2=>?_)
    refine fin h2 T [e,T0,T] t2 ((m.mono (fun _ z=>z) fun b z=>?_).trans (m2.mono (fun b z=>nomatch z) fun b z=>?_)) (fun b hb=>?_) (I.hok.fresh hs) (Nat.le_trans I.sz hs)
    · simp at z
      rcases z with z | z <;> simp [z]
    · simp at z
      simp [z]
    · rcases List.mem_cons.mp hb with r | hb
      · rw [r]
        exact ⟨ne,Nat.le_trans hn he⟩
      · rcases List.mem_cons.mp hb with r | hb
        · rw [r]
          exact ⟨n0,Nat.le_trans hn s0⟩
        · rw [List.mem_singleton.mp hb]
          exact ⟨I.hok.fresh hs,Nat.le_trans I.sz hs⟩
theorem VA {X:Cx} {pins:List (Addr × Obj)} {σ:St} {H1:Hp} {s1 s2:Shared} {u:Value} {E':XK} (hP:X.prog=P) (hw:X.w=w) (I:Inv X pins σ H1 s1) (h:CXf P w X.stack H1 s1 E' u s2):Air X pins σ E' u s2:=by
  obtain ⟨e,T,C,dx,H',rfl,os,bare,un,hok,t,⟨se,sT⟩,⟨ne,nT⟩,hE⟩:=h
  have I2:Inv X pins σ H' s2:=I.call' (ch:=[]) os un (by rw [hP,hw]; exact hok) bare (fun b z=>absurd z (by simp))
  exact ⟨e,C,dx,H',s1.heap.objs.size,rfl,I2,ne,I.sz,se,fun p hp=>Heap.lt_size (I.pin p hp).1,.inr ⟨T,t,nT,sT⟩,hE⟩
theorem zT:yL (CXf P w) (cxOf (CXf P w) P w K mg base N qual scope f cd A outer s H E) E:=fun pins σ H1 s1 u s2 I h=>jY (VA rfl rfl I h)
theorem ownx:PassesOwn (model P w) (cxOf (CXf P w) P w K mg base N qual scope f cd A outer s H E).A (cxOf (CXf P w) P w K mg base N qual scope f cd A outer s H E).env (cxOf (CXf P w) P w K mg base N qual scope f cd A outer s H E).xe:=PassesOwn.leaving
theorem Fun.byx {x:Str} {st:Stmt} {fd:FuncData} {ps:List Str} {k:Nat} {sp:Sp} (F:Fun K x qual st f fd) (S:FnScope N ps (zn st)) (len:∀ vs H Q E,sp vs H Q E->vs.length=ps.length)
    (hbody:∀ (cdv:Value) (A:Around) (outer:List Env) (s:Shared) (H:Hp) (vs:List V) (Q:VK) (E:XK),Room k (A.deeper (envOfC qual (zn st) s.heap.objs.size f cdv))->sp vs H Q E ->
      ∃ t,jSs (cxOf (CXf P w) P w K mg base N qual (zn st) f cdv A outer s H E) (yx st) t/\t { nx:=fun _ H'=>Q .non H',rt:=Q } (we N vs) H):FnOk P w K mg base (CXf P w) (k + 1) f fd ps sp:=by
  obtain ⟨oc,od,kV,doc,pm,an,cdv,ct,osl,rfl,lk,hcd⟩:=F.ex
  refine zaL lk hcd S len fun A outer s H vs Q E hr hsp=>?_
  obtain ⟨t,h,q⟩:=hbody cdv A outer s H vs Q E hr hsp
  exact ⟨t,h.out,q⟩
end
end L2
namespace L2
open PySem
section
variable {M:Model} {A:Around} {E:Value->Shared->Prop} {env:Env} {nm q:Str} {C N:Addr} {bs bm:List Value} {hdct:Bool} {sn:List Str} {sub:List Value} {ab:Bool} {col:Option Bool} {dd:Option Addr} {k0 k1 k2 k3 k5:Option Value} {newId:String}
theorem Qz {s:Shared} {x:Sem Value} {Q:Flow->Shared->Prop} (hb:bm.contains (.type "BaseException")=true) (hh:A.handled=none)
    (h:wpAny M A x (fun v s1=>∃ e oe vs,v=.ref e/\s1.heap.get? C=some (excClassObj nm q C N bs bm hdct sn sub ab col dd k0 k1 k2 k3 k5 newId)/\s1.heap.get? e=some oe/\oe.cls=.ref C/\oe.data=.fields vs/\vs[1]?=some .none/\E (.ref e) s1) E s) :
    wpAny M A (raiseStmt env (some x) none) Q E s:=by
  have cB:(Value.ref C :: bm).contains (.type "BaseException")=true:=by rw [List.contains_cons,hb,Bool.or_true]
  unfold raiseStmt
  refine wpAny_bind (wpAny_mono h (fun v s1 h1=>?_) fun _ _ x=>x)
  obtain ⟨e,⟨c,d0,dt,sl⟩,vs,rfl,hC,he,hc,hd,hv,hE⟩:=h1
  dsimp only at hc hd
  subst hc hd
  obtain ⟨hp,g,d,tk,os⟩:=s1
  repeat (first | (with_reducible refine wpAny_field he rfl hv ?_) | with_reducible refine wpAny_loadPart_at he ?_ | with_reducible refine wpAny_loadPart_at hC ?_ | (with_reducible refine wpAny_isSubtype_exc hC ?_; rw [cB]) | wp_step)
  exact wpAny_raiseNew_none hh hE
end
theorem QA {M:Model} {A:Around} {E:Value->Shared->Prop} {s:Shared} {f:Addr} {ob:Obj} {self:Value} {Q:Value × List Value->Shared->Prop} (h1:s.heap.get? f=some ob) (h2:ob.cls=.type "function") (q:Q (.ref f,[self]) s):wpAny M A (bindSpecial (.ref f) self) Q E s:=by
  unfold bindSpecial
  refine wpAny_bind (wpAny_typeOf (T:="function") ⟨ob,h1,h2⟩ ?_)
  exact wpAny_pure q
abbrev xQ (rest:List Value):Obj:={ cls:=.type "tuple",data:=.seq rest.toArray }
abbrev wg (C t:Addr):Obj:={ cls:=.ref C,data:=.fields #[.ref t,.none,.none,.none,.bool false,.none] }
section
variable {prog:Program} {w:World} {A:Around} {E:Value->Shared->Prop} {h:Heap} {g:Array GenState} {d:Drawn} {t:Nat} {os:OsState}
variable {nm q:Str} {C N f:Addr} {bs bm bmB:List Value} {hdct:Bool} {sn:List Str} {sub:List Value} {ab:Bool} {col:Option Bool} {dd:Option Addr} {k0 k1 k2 k3 k5:Option Value} {B Bn newId nid initId inN:String} {bmN:List Value}
theorem Z1 (Fn:ExcBaseFacts Bn newId inN bmN) (hBn:bmB.contains (.type Bn)=true) (F:ExcBaseFacts B nid initId bmB) (T:OwnTail h bmB bm) {mN:Str->Option Value} {rest:List Value} {Q:Fin->Shared->Prop} {ob:Obj}
    (hC:h.get? C=some (excClassObj nm q C N bs bm hdct sn sub ab col dd k0 k1 k2 k3 k5 newId)) (hn:h.Ns N mN) (hi:mN "__init__"=some (.ref f)) (hf:h.get? f=some ob) (hfc:ob.cls=.type "function") (hrest:rest.length<=sizeLine)
    (hq:wpAny (model prog w) A (call (.ref f) (.ref (h.objs.size + 1) :: rest)) (fun v s'=>v=.none/\Q (.done (.ret (.ref (h.objs.size + 1)))) s') E ⟨(h.push (xQ rest)).push (wg C h.objs.size),g,d,t,os⟩) :
    wpAny (model prog w) A (Builtin.«type.__call__» ⟨.ref C :: rest,[]⟩) Q E ⟨h,g,d,t,os⟩:=by
  repeat (first | with_reducible refine wpAny_madeBy_exc hC ?_ | with_reducible refine wpAny_loadPart_at hC ?_ | wp_step)
  refine codeAny_call_builtin_code (Code.quiet_builtin _ Fn.quiet) (wpAny_check_new_subU Fn hBn T hC (codeAny_exc_new_subU Fn hBn F T hC ?_ hrest))
  show wpAny _ _ _ _ _ _
  have k:∀ b o,h.get? b=some o->((h.push (xQ rest)).push (wg C h.objs.size)).get? b=some o:=fun b o e=>Heap.get?_push_of_some _ (Heap.get?_push_of_some _ e)
  have C1:=k _ _ hC
  have e1:((h.push (xQ rest)).push (wg C h.objs.size)).get? (h.objs.size + 1)=some (wg C h.objs.size):=Heap.get?_push_at (by simp only [Heap.size_push]) rfl
  have cC:(Value.ref C :: bm).contains (.ref C)=true:=by simp
  unfold isInstance
  repeat (first | with_reducible refine wpAny_loadPart_at e1 ?_ | (with_reducible refine wpAny_isSubtype_exc C1 ?_; rw [cC]) | wp_step)
  show wpAny _ _ (typeLookup (.ref C) _) _ _ _
  refine wpAny_typeLookup_tail C1 (hn.keeps k) (T.keeps k) F.mroIs F.init.lookup ?_
  rw [hi]
  refine wpAny_holding (wpAny_bind (QA (k _ _ hf) hfc ?_))
  refine wpAny_bind (wpAny_mono hq (fun v s' hv=>?_) fun _ _ x=>x)
  obtain ⟨rfl,hv⟩:=hv
  exact wpAny_pure (wpAny_pure hv)
theorem QB (Fn:ExcBaseFacts Bn newId inN bmN) (hBn:bmB.contains (.type Bn)=true) (F:ExcBaseFacts B nid initId bmB) (T:OwnTail h bmB bm) {mN:Str->Option Value} {rest:List Value} {Q:Value->Shared->Prop} {ob:Obj}
    (hC:h.get? C=some (excClassObj nm q C N bs bm hdct sn sub ab col dd k0 k1 k2 k3 k5 newId)) (hn:h.Ns N mN) (hi:mN "__init__"=some (.ref f)) (hf:h.get? f=some ob) (hfc:ob.cls=.type "function") (hrest:rest.length<=sizeLine)
    (hq:wpAny (model prog w) (A.under (.builtin "type.__call__" ⟨.ref C :: rest,[]⟩)) (call (.ref f) (.ref (h.objs.size + 1) :: rest)) (fun v s'=>v=.none/\Q (.ref (h.objs.size + 1)) s') E ⟨(h.push (xQ rest)).push (wg C h.objs.size),g,d,t,os⟩) :
    wpAny (model prog w) A (call (.ref C) rest) Q E ⟨h,g,d,t,os⟩:=by
  have f1:=tc_lookup
  have f2:=tc_bind (.ref C)
  have hT:(⟨h,g,d,t,os⟩:Shared).TypeIs (.ref C) "type":=⟨_,hC,rfl⟩
  refine wpAny_call (codeAny_of_tree ?_)
  show wpAny _ _ (callAny (.ref C) ⟨rest,[]⟩) _ _ _
  repeat (any_goals (first | assumption | (with_reducible refine wpAny_loadPart_at hC ?_) | wp_step))
  refine ⟨rfl,codeAny_call_builtin_at (Code.quiet_builtin _ (by decide +kernel)) entry_typeCall (wpAny_check_type_call_sub hC ?_)⟩
  exact Z1 Fn hBn F T hC hn hi hf hfc hrest hq
theorem QC (F:ExcBaseFacts B nid initId bmB) (T:OwnTail h bmB bm) {e t0:Addr} {oe:Obj} {vs:Array Value} {rest:List Value} {Q:Value->Shared->Prop}
    (hC:h.get? C=some (excClassObj nm q C N bs bm hdct sn sub ab col dd k0 k1 k2 k3 k5 newId)) (he:h.get? e=some oe) (hc:oe.cls=.ref C) (hd:oe.data=.fields vs) (h0:vs[0]?=some (.ref t0)) (hrest:rest.length<=sizeLine)
    (hq:Q .none ⟨(h.push (xQ rest)).update e (Obj.mapFields (·.setIfInBounds 0 (.ref h.objs.size))),g,d,t,os⟩) :
    wpAny (model prog w) A (call (.builtin initId) (.ref e :: rest)) Q E ⟨h,g,d,t,os⟩:=by
  refine wpAny_call (codeAny_call_builtin F.init.plain F.initEntry (wpAny_check_init_subU F T hC he hc ?_))
  unfold Builtin.«BaseException.__init__»
  dsimp only
  rw [if_neg (by simp:¬ ((!List.isEmpty ([]:List (Str × Value)))=true))]
  unfold newTuple Builtin.BaseException.bexcPut
  have e1:=Heap.get?_push_of_some (h:=h) (xQ rest) he
  refine wpAny_bind (wpAny_newObj_type ?_ (by show rest.toArray.size<=sizeLine; rw [List.size_toArray]; exact hrest))
  refine wpAny_bind (wpAny_bind (wpAny_field e1 hd h0 (wpAny_bind (wpAny_setField e1 hd (Array.getElem?_eq_some_iff.mp h0).1 ?_))))
  exact wpAny_letGo (wpAny_pure hq)
end
end L2
namespace L2
open PySem PySem.W PySem.Calls PyProof.Rows Builtin Builtin.ObjectAttr
def bmV:List Value:=[.type "ValueError",.type "Exception",.type "BaseException",.type "object"]
theorem VB (self:Value):refuseLoop self "__setattr__" bmV=pure ():=by kernel_rfl
def jZ:List Value->Bool
  | []=>false
  | v :: r=>(v :: r) == bmV || (match v with
    | .ref _=>jZ r
    | _=>false)
theorem vj (self:Value):∀ {l:List Value},jZ l=true->refuseLoop self "__setattr__" l=pure ()
  | [],e=>by cases e
  | v :: r,e=>by
    unfold jZ at e
    rcases Bool.or_eq_true_iff.mp e with q | q
    · rw [beq_iff_eq.mp q]
      exact VB self
    · split at q
      · rw [refuseLoop_ref]
        exact vj self q
      · cases q
theorem vO:∀ {l:List Value},jZ l=true->l.contains (.type "object")=true/\l.isEmpty=false
  | [],e=>by cases e
  | v :: r,e=>by
    unfold jZ at e
    rcases Bool.or_eq_true_iff.mp e with q | q
    · rw [beq_iff_eq.mp q]
      exact ⟨by decide,rfl⟩
    · split at q
      · exact ⟨by rw [List.contains_cons,(vO q).1,Bool.or_true],rfl⟩
      · cases q
def Zu (K:Frag) (C:Addr):Bool:=(clsIn K C).any fun cd=>jZ cd.mro
section
variable {prog:Program} {w:World} {A:Around} {E:Value->Shared->Prop} {K:Frag} {C e:Addr} {s:Shared} {ox:Obj} {od:Option Obj} {name:Str} {R:Result->Shared->Prop}
theorem QD {tk:Tok} {v:Value} (X:K.In s.heap) (I:InstAt s.heap e ox C od) (hp:Zu K C=true) (ht:takerIn K C name=some none)
    (h:∀ b,wpAny (model prog w) A.in1 (storeInOwnDict (.ref e) (.ref C) (.str name tk) name v b) (fun fin s'=>match fin with | .done f=>R (.ok f) s' | .again c'=>c'.quiet=true/\codeAny (model prog w) A c' R s') (fun u s'=>R (.error u) s') s) :
    codeAny (model prog w) A (.call (.builtin "object.__setattr__") ⟨[.ref e,.str name tk,v],[]⟩) R s:=by
  have SF:=PySem.F.store_object
  obtain ⟨cd,hc,ho⟩:=any_some hp
  have hm:Looks (model prog w) s.heap (mroOf (.ref C)) cd.mro:=(looks_clsIn X hc).andThen .now
  have sub:Looks (model prog w) s.heap (isInstance (.ref e) (.type "object")) true:=I.type.andThen (looks_mroIn X (by unfold mroIn; rw [hc,Option.bind_some,if_neg (by rw [(vO ho).2]; decide),(vO ho).1]))
  obtain ⟨attr,ha,hr⟩:=Option.bind_eq_some_iff.mp ht
  have tk3:Looks (model prog w) s.heap (storeTaker? attr) none:=by
    cases attr with
    | none=>exact .now
    | some a =>
      obtain ⟨b,hb,hn⟩:=Option.map_eq_some_iff.mp hr
      refine (looks_takesIn X hb).andThen ?_
      cases b
      · exact .now
      · cases hn
  refine codeAny_call_builtin SF.slot.plain SF.entry (@check_slot (model prog w) _ _ s "object.__setattr__" "object" "__setattr__" (.ref e) [.str name tk,v] [] _ SF.kind SF.split sub (SF.args (.ref e) (.str name tk) v) ?_)
  rw [osa_eq,refuse_eq]
  refine wpAny_bind (wpAny_bind (I.type.here (wpAny_bind (hm.here ?_))))
  rw [vj _ ho]
  exact wpAny_pure (wpAny_bind (I.type.here (wpAny_bind ((looks_findIn X ha).here (wpAny_bind (tk3.here (h _)))))))
theorem zbK {oe:Obj} {vs:Array Value} {v:Value} {Q:Unit->Shared->Prop} (X:K.In s.heap) (he:s.heap.get? e=some oe) (hc:oe.cls=.ref C) (hx:oe.dict=none) (hd:oe.data=.fields vs)
    (hs:findIn K (.ref C) "__setattr__"=some (some (.builtin "object.__setattr__"))) (hp:Zu K C=true) (ht:takerIn K C name=some none) (hh:(clsIn K C).any (·.hasDict)=true)
    (h:∀ h',h'.Ns1 s.heap.objs.size (fun y=>if y=name then some v else none)->h'.get? e=some { oe with dict:=some s.heap.objs.size }->(∀ b o,b≠e->s.heap.get? b=some o->h'.get? b=some o)->Q () { s with heap:=h',toks:=s.toks + 2 }) :
    wpAny (model prog w) A (setAttr (.ref e) name v) Q E s:=by
  have J:InstAt s.heap e oe C none:=⟨he,hc,by unfold notCls; rw [hd],by rw [hx]; trivial⟩
  refine set_plain X J hs (QD (s:={ s with toks:=s.toks + 1 }) X J hp ht fun b=>?_)
  obtain ⟨cd,hcd,hdd⟩:=any_some hh
  obtain ⟨oc,odi,oda,osl⟩:=oe
  dsimp only at hc hx hd
  subst hc hx hd
  refine wpAny_bind (wpAny_pure (wpAny_bind (wpAny_bind (wpAny_loadPart he (wpAny_bind (Looks.here (s:={ s with toks:=s.toks + 1 }) (looks_clsIn X hcd) ?_))))))
  rw [hdd]
  have e1:=Heap.get?_push_of_some (h:=s.heap) PySem.W.emptyDict he
  have ne:s.heap.objs.size≠e:=Nat.ne_of_gt (Heap.lt_size he)
  have d1:(s.heap.push PySem.W.emptyDict).get? s.heap.objs.size=some PySem.W.emptyDict:=Heap.get?_push_size _ rfl
  have d2:((s.heap.push PySem.W.emptyDict).update e fun o=>{ o with dict:=some s.heap.objs.size }).get? s.heap.objs.size=some PySem.W.emptyDict:=(Heap.get?_update_other _ _ (Ne.symm ne)).trans d1
  have e2:=Heap.get?_update_self (fun o=>{ o with dict:=some s.heap.objs.size }) e1 rfl
  have n2:((s.heap.push PySem.W.emptyDict).update e fun o=>{ o with dict:=some s.heap.objs.size }).Ns s.heap.objs.size (fun _=>none):=⟨PySem.W.emptyDict,#[],_,d2,rfl,(fun z hz=>absurd hz (by simp)),fun _=>rfl⟩
  show wpAny _ _ (alloc PySem.W.emptyDict >>= _) _ _ _
  refine wpAny_bind (wpAny_alloc (wpAny_bind (wpAny_update e1 ?_)))
  refine wpAny_pure (a:=some s.heap.objs.size) (wpAny_bind (wpAny_pure (wpAny_bind ?_)))
  refine wpAny_nsSet1 (Heap.Ns1.of_empty n2) fun h' hn hsb=>?_
  obtain ⟨oD,esD,epD,hoD,hdD,hcD⟩:=hn.count (PySem.Within.cons name v PySem.Within.nil)
  refine wpAny_bind (wpAny_lookBehind hoD (by rw [hdD]; exact pastItsLine_dict (Nat.le_trans hcD (by show 1<=sizeLine + 1; lia))) (wpAny_pure ?_))
  refine h h' hn ((hsb.2 _ (Ne.symm ne)).trans e2) fun b o nb q=>?_
  rw [hsb.2 b (Nat.ne_of_lt (Heap.lt_size q)),Heap.get?_update_other _ _ (Ne.symm nb)]
  exact Heap.get?_push_of_some _ q
theorem xg_slot:Slot "ValueError" "__getattribute__" "BaseException.__getattribute__":=PySem.F.attr_ValueError.ga
theorem zbL {v:Value} {expr:Bool} {Q:Value->Shared->Prop} (X:K.In s.heap) (I:InstAt s.heap e ox C od) (hga:findIn K (.ref C) "__getattribute__"=some (some (.builtin "BaseException.__getattribute__"))) (hk:findIn K (.ref C) "__getattr__"=some none)
    (hb:subIn K (.ref C) (.type "BaseException")=some true) (hf:findObj K C od name=some (.value v)) (hh:handedIn v=true) (h:Q v { s with toks:=s.toks + 1 }):wpAny (model prog w) A (getAttr (.ref e) name expr) Q E s:=by
  have ty:=I.type (M:=model prog w)
  have fd:=looks_find (M:=model prog w) X I hf
  refine wpAny_bind (wpAny_mkText (wpAny_holding (wpAny_bind (ty _ _ _ _ (fun _ _ q=>q) (wpAny_bind (looks_findIn X hga _ _ _ _ (fun _ _ q=>q) ?_))))))
  dsimp only
  rw [show (onTheHeap (Value.ref C) && Value.builtin "BaseException.__getattribute__" == Value.builtin "object.__getattribute__")=false from by rw [show (Value.builtin "BaseException.__getattribute__" == Value.builtin "object.__getattribute__")=false from by decide +kernel,Bool.and_false],if_neg (by decide:¬ (false=true))]
  refine wpAny_bind ((looks_hook (mc:=.ref C) X (by rw [if_pos (show onTheHeap (.ref C)=true from rfl)]; exact hk)) _ _ _ _ (fun _ _ q=>q) (wpAny_bind (wpAny_attempt (wpAny_holding ?_))))
  unfold callGetattribute
  rw [show (expr && onTheHeap (Value.builtin "BaseException.__getattribute__"))=false from Bool.and_false _,if_neg (by decide:¬ (false=true))]
  unfold boundAndCalled
  rw [xg_slot.bind]
  refine wpAny_bind (wpAny_pure (wpAny_call (codeAny_call_builtin xg_slot.plain PySem.F.entry_bexc_ga ?_)))
  refine @check_slot (model prog w) _ _ { s with toks:=s.toks + 1 } "BaseException.__getattribute__" "BaseException" "__getattribute__" (.ref e) [.str name s.toks] [] _ (by decide +kernel) (by decide +kernel) (ty.andThen (looks_subIn X hb)) (PySem.F.args_bexc_ga (.ref e) (.str name s.toks)) ?_
  refine wpAny_bind (wpAny_pure (wpAny_bind (wpAny_pure (wpAny_bind (ty _ _ _ _ (fun _ _ q=>q) (wpAny_bind (fd _ _ _ _ (fun _ _ q=>q) ?_)))))))
  refine wpAny_pure ?_
  show wpAny _ _ (handedOut v) _ _ _
  rw [handedOut_of hh]
  exact wpAny_pure h
end
end L2
namespace L2
open PySem PySem.Spec PyProof.Rows
def XO (e C:Addr) (dx:Option Addr):HO:=.ext fun h=>∃ oe vs t0,h.get? e=some oe/\oe.cls=.ref C/\oe.dict=dx/\oe.data=.fields vs/\vs[0]?=some (.ref t0)/\vs[1]?=some .none/\vs[2]?=some .none
theorem XO.ok {P:Program} {w:World} {H:Hp} {h:Heap} {e C:Addr} {dx:Option Addr} (p:∃ oe vs t0,h.get? e=some oe/\oe.cls=.ref C/\oe.dict=dx/\oe.data=.fields vs/\vs[0]?=some (.ref t0)/\vs[1]?=some .none/\vs[2]?=some .none):ObjOk P w H h e (XO e C dx) :=
  ⟨p,let ⟨oe,_,_,q,_⟩:=p; ⟨oe,q⟩,fun _ _ ⟨oe,vs,t0,a,r⟩ k=>⟨oe,vs,t0,k oe a,r⟩⟩
theorem XO.get {P:Program} {w:World} {H:Hp} {h:Heap} {e C:Addr} {dx:Option Addr} (x:HOk P w H h) (q:H e=some (XO e C dx)):∃ oe vs t0,h.get? e=some oe/\oe.cls=.ref C/\oe.dict=dx/\oe.data=.fields vs/\vs[0]?=some (.ref t0)/\vs[1]?=some .none/\vs[2]?=some .none :=
  (show ObjOk P w H h e (.ext _) from x e _ q).1
def XD (d:Addr) (fs:List (Str × V)):HO:=.ext fun h=>∃ mA,h.Ns1 d mA/\(∀ f,RelO (fs.lookup f) (mA f))/\PySem.Within mA (fs.map (·.1))/\fs.length<=1000
theorem XD.ok {P:Program} {w:World} {H:Hp} {h:Heap} {d:Addr} {fs:List (Str × V)} (p:∃ mA,h.Ns1 d mA/\(∀ f,RelO (fs.lookup f) (mA f))/\PySem.Within mA (fs.map (·.1))/\fs.length<=1000):ObjOk P w H h d (XD d fs) :=
  ⟨p,let ⟨_,⟨o,_,_,q,_⟩,_⟩:=p; ⟨o,q⟩,fun _ _ ⟨mA,n,r⟩ k=>⟨mA,n.at k,r⟩⟩
theorem XD.get {P:Program} {w:World} {H:Hp} {h:Heap} {d:Addr} {fs:List (Str × V)} (x:HOk P w H h) (q:H d=some (XD d fs)):∃ mA,h.Ns1 d mA/\(∀ f,RelO (fs.lookup f) (mA f))/\PySem.Within mA (fs.map (·.1))/\fs.length<=1000 :=
  (show ObjOk P w H h d (.ext _) from x d _ q).1
def xIn (K:PySem.W.Frag) (C f:Addr):Bool:=match K.lookup C with
  | some ⟨.type "type",_,.cls cd,sl⟩=>(match cd.mro,sl.toList with
    | .ref C' :: bm,[_,_,_,_,some (.builtin n),_]=>C' == C && n == "ValueError.__new__" && !cd.hasDel && PySem.W.tailIn K bmV bm && PySem.W.nsOkIn K cd.ns && PySem.W.nsIn K cd.ns "__init__" == some (some (.ref f)) && bm.contains (.type "BaseException")
    | _,_=>false)
  | _=>false
structure XCl (K:PySem.W.Frag) (C f:Addr):Prop where
  cls:xIn K C f=true
  fn:PySem.W.typeIn K (.ref f)=some (.type "function")
  kp:PySem.W.keepIn K (.ref C)=true
  over:Zu K C=true
  sa:PySem.W.findIn K (.ref C) "__setattr__"=some (some (.builtin "object.__setattr__"))
  hd:(PySem.W.clsIn K C).any (·.hasDict)=true
  ga:PySem.W.findIn K (.ref C) "__getattribute__"=some (some (.builtin "BaseException.__getattribute__"))
  ha:PySem.W.findIn K (.ref C) "__getattr__"=some none
  sb:PySem.W.subIn K (.ref C) (.type "BaseException")=some true
theorem QE {K:PySem.W.Frag} {h:Heap} {N:Addr} {mg:Str->Option Value} {n:Str} {v:Value} (X:K.In h) (G:h.Ns N mg) (e:PySem.W.nsIn K N n=some (some v)):mg n=some v:=by
  obtain ⟨o,es,ep,ho,hd,_,hf⟩:=G
  unfold PySem.W.nsIn at e
  split at e
  · rename_i c d es' n' sl q
    have:=X _ _ q
    rw [ho] at this
    cases this
    cases hd
    split at e
    · rename_i en he
      cases e
      rw [<- hf]
      unfold nsFind findBy
      rw [<- Array.find?_toList,he]
      rfl
    · split at e <;> cases e
  · cases e
theorem XCl.at {K:PySem.W.Frag} {C f:Addr} (c:XCl K C f) {h:Heap} (X:K.In h):∃ nm q N bs bm hdct sn sub ab col dd k0 k1 k2 k3 k5 mN,h.get? C=some (excClassObj nm q C N bs bm hdct sn sub ab col dd k0 k1 k2 k3 k5 "ValueError.__new__") /\
    OwnTail h bmV bm/\h.Ns N mN/\mN "__init__"=some (.ref f)/\bm.contains (.type "BaseException")=true:=by
  have q:=c.cls
  unfold xIn at q
  split at q
  · rename_i dd cd sl ho
    split at q
    · rename_i C' bm k0 k1 k2 k3 n k5 hm hs
      simp only [Bool.and_eq_true,beq_iff_eq,Bool.not_eq_true'] at q
      obtain ⟨⟨⟨⟨⟨⟨rfl,rfl⟩,hdel⟩,ht⟩,hok⟩,hi⟩,hb⟩:=q
      obtain ⟨nm,bs,mro,ns,qn,hd,sn,sub,ab,col,del⟩:=cd
      dsimp only at hm hdel hok hi
      subst hm hdel
      have es:sl=#[k0,k1,k2,k3,some (.builtin "ValueError.__new__"),k5]:=by
        obtain ⟨l⟩:=sl
        simp only at hs
        rw [hs]
      subst es
      have nN:=PySem.Heap.Ns.of_isNs (PySem.W.isNs_of_in X hok)
      exact ⟨nm,qn,ns,bs,bm,hd,sn,sub,ab,col,dd,k0,k1,k2,k3,k5,_,X _ _ ho,PySem.W.tail_of_in X ht,nN,QE X nN hi,hb⟩
    · cases q
  · cases q
def drp (H:Hp) (e:Addr):Hp:=fun b=>if b=e then none else H b
theorem vP {H:Hp} {e:Addr}:drp H e e=none:=if_pos rfl
theorem vQ {H:Hp} {e b:Addr} (h:b≠e):drp H e b=H b:=if_neg h
theorem Inv.drop {X:Cx} {pins:List (Addr × Obj)} {σ:St} {H:Hp} {s:Shared} {e:Addr} {φ:Heap->Prop} (I:Inv X pins σ H s) (he:H e=some (.ext φ)):Inv X pins σ (drp H e) s:=by
  have no:∀ b,H b=none->drp H e b=none:=fun b h=>by
    by_cases q:b=e
    · rw [q]
      exact vP
    · rw [vQ q]
      exact h
  have nx:∀ (b:Addr) (o:HO),H b=some o->(∀ ψ,o≠.ext ψ)->drp H e b=some o:=fun b o h n=>by
    have q:b≠e:=fun z=>by
      rw [z,he] at h
      cases h
      exact n _ rfl
    rw [vQ q]
    exact h
  refine ⟨I.ok,I.os,I.bare,⟨I.base.keep,I.base.slot,fun b o q n x=>no b (I.base.free b o q n x),I.base.there,fun b xs q=>nx _ _ (I.base.tups b xs q) (by intro ψ z; cases z),fun b o u q=>nx _ _ (I.base.frzs b o u q) (by intro ψ z; cases z),fun b ps q=>?_⟩,I.loc,I.cell,no _ I.free,fun x c q=>no _ (I.freeC x c q),fun p hp=>?_,fun a o q=>?_,I.len⟩
  · obtain ⟨m,r⟩:=I.base.tbls b ps q
    exact ⟨m,nx _ _ r (by intro ψ z; cases z)⟩
  · obtain ⟨a,b,c⟩:=I.pin p hp
    exact ⟨a,no _ b,c⟩
  · have na:a≠e:=fun z=>by
      rw [z,vP] at q
      cases q
    rw [vQ na] at q
    exact (I.hok a o q).stay (fun _ _ _ z=>z) (fun b z=>nx b _ z (by intro ψ y; cases y)) fun b xs z=>nx b _ z (by intro ψ y; cases y)
def YQ (X:Cx) (E:XK):Prop:=∀ (pins:List (Addr × Obj)) (σ:St) (u:Value) (s':Shared),Air X pins σ E u s'->X.xe u s'
theorem VC {P:Program} {w:World} {K:PySem.W.Frag} {mg:Str->Option Value} {base:Heap} {N:List Str} {qual:Str} {scope:Scope} {f:Addr} {cd:Value} {A:Around} {outer:List Env} {s:Shared} {H:Hp} {E:XK} :
    YQ (cxOf (CXf P w) P w K mg base N qual scope f cd A outer s H E) E:=fun _ _ _ _ h=>jY h
def VD (C:Addr) (sp:Sp) (E:XK) (t:TA):TS:=fun _ σ H=>t σ H fun vs H1=>vs.length<=sizeLine/\∀ e,H1 e=none->sp (.ref e :: vs) (upd H1 e (XO e C none)) (fun v H2=>v=.non/\∃ dx,H2 e=some (XO e C dx)/\E (.ref C) dx (drp H2 e)) E0
section
variable {X:Cx} {k:Nat} {f C:Addr} {fd:FuncData} {ps:List Str} {sp:Sp} {E:XK} {x:Str} {np cpos pos:Pos} {a:Expr} {as:List Expr} {t:TA}
theorem VE (M:XCl X.K C f) (F:FnOk X.prog X.w X.K X.mg X.base CX0 k f fd ps sp) (hr:Room (k + 1) X.A) (hg:Gl X x) (hm:X.mg x=some (.ref C)) (hb:Binds X.K fd ps []) (hx:YQ X E)
    (ha:PA X (a :: as) t) (hdb:(x == ("__debug__":Str))=false:=by decide) (h1:zP a=false:=by rfl) (h2:as.all (fun e=>!zP e)=true:=by rfl) :
    PS X (.Raise (some (.Call (.Name x np) (a :: as) [] cpos)) none pos) (VD C sp E t):=by
  intro pins s σ H D I h
  obtain ⟨nm,q,N,bs,bm,hdct,sn,sub,ab,col,dd,k0,k1,k2,k3,k5,mN,hC0,T0,n0,i0,hB⟩:=M.at I.mod.kin
  rw [arm_exec_Raise]
  simp only [evalOpt,Option.map]
  refine wpAny_bind (wpAny_standAt (Qz (C:=C) (nm:=nm) (q:=q) (N:=N) (bs:=bs) (hdct:=hdct) (sn:=sn) (sub:=sub) (ab:=ab) (col:=col) (dd:=dd) (k0:=k0) (k1:=k1) (k2:=k2) (k3:=k3) (k5:=k5) (newId:="ValueError.__new__") hB hr.hd (wpAny_bind ?_)))
  refine wpAny_Call_Name_kw (xv I hg hm ?_ hdb)
  refine PySem.W.callWith_K (h₀:=X.base) I.ok.mod.kin M.kp (thn (ha cpos pins s σ H _ I h) fun us s1 ⟨vs,H1,I1,r,hl,q1⟩=>⟨I1.kIn,?_⟩) (zV h1) (yE h2)
  obtain ⟨hh,g,d,tk,os⟩:=s1
  have kb:∀ b o,X.base.get? b=some o->hh.get? b=some o:=I1.bk
  have e0:H1 (hh.objs.size + 1)=none:=I1.hok.fresh (Nat.le_succ _)
  obtain ⟨of,hof,hofc⟩:=Option.map_eq_some_iff.mp M.fn
  have hof':hh.get? f=some of:=I1.kIn _ _ hof
  refine QB PySem.F.excBase_ValueError (by decide +kernel) PySem.F.excBase_ValueError (T0.keeps kb) (kb _ _ hC0) (n0.keeps kb) i0 hof' hofc (show us.length<=sizeLine by rw [<- r.length]; exact hl) ?_
  have ex:((hh.push (xQ us)).push (wg C hh.objs.size)).get? (hh.objs.size + 1)=some (wg C hh.objs.size):=Heap.get?_push_at (by simp only [Heap.size_push]) rfl
  have I2:Inv X pins σ (upd H1 (hh.objs.size + 1) (XO (hh.objs.size + 1) C none)) ⟨(hh.push (xQ us)).push (wg C hh.objs.size),g,d,tk,os⟩ :=
    I1.laid (a:=hh.objs.size + 1) (o:=XO (hh.objs.size + 1) C none) (t':=tk) (fun b u q=>Heap.get?_push_of_some _ (Heap.get?_push_of_some _ q)) (Nat.le_succ _) (XO.ok ⟨wg C hh.objs.size,_,hh.objs.size,ex,rfl,rfl,rfl,rfl,rfl,rfl⟩)
  have hq:=q1 _ e0
  have r2:Vals (V.ref (hh.objs.size + 1) :: vs) (Value.ref (hh.objs.size + 1) :: us):=.cons rfl r
  have hlen:(Value.ref (hh.objs.size + 1) :: us).length=ps.length:=by rw [<- r2.length]; exact F.len _ _ _ _ hq
  have bd:=hb ⟨(hh.push (xQ us)).push (wg C hh.objs.size),g,d,tk,os⟩ (Value.ref (hh.objs.size + 1) :: us) I2.kIn (by rw [List.append_nil]; exact hlen)
  rw [List.append_nil] at bd
  refine wpAny_call (codeAny_mono (F.run _ X.stack _ _ ⟨Value.ref (hh.objs.size + 1) :: us,[]⟩ (Value.ref (hh.objs.size + 1) :: us) _ _ E0 (hr.make C us []) (I2.env0.make C us []) bd r2 hq) fun r s' hq'=>?_)
  cases r with
  | error u=>exact False.elim hq'
  | ok fl =>
    cases fl with
    | ret u =>
      obtain ⟨v,H',I3,rv,ev,dx,hH,hE⟩:=I2.after hq'
      subst ev
      obtain ⟨oe,ws,t0,g1,g2,g3,g4,g5,g6⟩:=XO.get I3.hok hH
      exact ⟨rv,wpAny_bind (wpAny_standAt (wpAny_pure ⟨_,oe,ws,rfl,I3.bk _ _ hC0,g1,g2,g4,g6.1,hx pins σ _ s' ⟨_,.ref C,dx,drp H' (hh.objs.size + 1),hh.objs.size,rfl,I3.drop hH,vP,I1.sz,Nat.le_succ _,fun p hp=>Heap.lt_size (I1.pin p hp).1,.inl ⟨oe,ws,g1,g2,g3,g4,g6⟩,hE⟩⟩))⟩
    | next=>exact False.elim hq'
    | brk=>exact False.elim hq'
    | cont=>exact False.elim hq'
end
structure XBase (K:PySem.W.Frag) (R:Addr):Prop where
  sp:PySem.W.specialIn K (.ref R) "__getattribute__"=some (some (.builtin "type.__getattribute__"))
  rd:PySem.W.readsIn K R (.type "type")=true
  fi:PySem.W.findCls K (.ref R) (.type "type") "__init__"=some (.val (.builtin "ValueError.__init__"))
def zbM (C:Addr) (t:TA):TE:=fun σ H Q=>t σ H fun vs H1=>∃ e rest dx,vs=.ref e :: rest/\rest.length<=sizeLine/\H1 e=some (XO e C dx)/\Q .non H1
theorem zbN {H:Hp} {e:Addr} {o:HO} (h:H e=some o):upd H e o=H:=by
  funext b
  unfold upd
  split
  · rename_i q
    rw [q,h]
  · rfl
section
variable {X:Cx} {f C R:Addr} {x m:Str} {np apos pos pos':Pos} {a o e value:Expr} {as:List Expr} {t:TA} {ta tv te:TE}
theorem VF {pl:Sem Bool} (M:XCl X.K C f) (B:XBase X.K R) (hg:Gl X x) (hm:X.mg x=some (.ref R)) (ha:PA X (a :: as) t) (hdb:(x == ("__debug__":Str))=false:=by decide) (h1:zP a=false:=by rfl) (h2:as.all (fun e=>!zP e)=true:=by rfl)
    (ht:eval (.Call (.Attribute (.Name x np) "__init__" apos) (a :: as) [] pos) X.env=(do
      let ov <- eval (.Name x np) X.env
      standAt apos.atName
      let (f,first) <- holding [ov] (getMethod ov "__init__" pl)
      callWith pos f first (backTo pos (starEach (a :: as) X.env)) (backToKw pos (keywordEach [] X.env))):=by rfl) :
    PE X (.Call (.Attribute (.Name x np) "__init__" apos) (a :: as) [] pos) (zbM C t):=by
  intro pins s σ H Q I h
  refine PySem.W.methodCall_KW (pl:=pl) (xv I hg hm ?_ hdb) ht
  refine PySem.W.method_cls I.kIn B.sp (PySem.W.cls_value I.kIn B.rd B.fi (by decide +kernel) ?_)
  have I0:Inv X pins σ H { s with toks:=s.toks + 1 }:=I.tok _
  refine PyProof.Rows.callWith_builtin1 (thn (ha pos pins _ σ H _ I0 h) fun us s1 ⟨vs,H1,I1,r,e,rest,dx,ev,hl,hH,q⟩=>?_) (zV h1) (yE h2)
  subst ev
  obtain ⟨ue,ur,rfl,re,rr⟩:∃ ue ur,us=ue :: ur/\RelV (.ref e) ue/\Vals rest ur:=by
    cases r with
    | cons p q=>exact ⟨_,_,rfl,p,q⟩
  obtain rfl:ue=Value.ref e:=re
  obtain ⟨oe,ws,t0,g1,g2,g3,g4,g5,g6⟩:=XO.get I1.hok hH
  obtain ⟨nm,q',N,bs,bm,hdct,sn,sub,ab,col,dd,k0,k1,k2,k3,k5,mN,hC,T,_,_,_⟩:=M.at I1.kIn
  obtain ⟨hh,g,d,tk,os⟩:=s1
  refine QC PySem.F.excBase_ValueError T hC g1 g2 g4 g5 (by rw [<- rr.length]; exact hl) ?_
  have e1:=Heap.get?_push_of_some (h:=hh) (xQ ur) g1
  have up:=Heap.get?_update_self (Obj.mapFields (·.setIfInBounds 0 (.ref hh.objs.size))) e1 (Obj.isFreed_of_fields (Obj.data_mapFields g4 _))
  have sz:0 < ws.size:=(Array.getElem?_eq_some_iff.mp g5).1
  have I2:=I1.write (x:=e) (e:=e) (o:=XO e C dx) (h':=(hh.push (xQ ur)).update e (Obj.mapFields (·.setIfInBounds 0 (.ref hh.objs.size)))) (t':=tk) (by rw [hH]; exact True.intro) (.inl rfl)
    (fun b u nb q=>(Heap.get?_update_other _ _ (Ne.symm nb)).trans (Heap.get?_push_of_some _ q)) ⟨_,up⟩
    (XO.ok ⟨_,_,hh.objs.size,up,(Obj.cls_mapFields _ _).trans g2,(xP _ _).trans g3,Obj.data_mapFields g4 _,by simp [sz],by rw [Array.getElem?_setIfInBounds_ne (by decide)]; exact g6.1,by rw [Array.getElem?_setIfInBounds_ne (by decide)]; exact g6.2⟩)
  rw [zbN hH] at I2
  exact ⟨.non,H1,I2,rfl,q⟩
def zcC (K:PySem.W.Frag) (C:Addr) (ta tv:TE) (m:Str):TS:=fun D σ H=>tv σ H fun y H1=>ta σ H1 fun x H2=>∃ e,x=.ref e/\H2 e=some (XO e C none)/\PySem.W.takerIn K C m=some none/\∀ d,H2 d=none->d≠e->D.nx σ (upd (upd H2 d (XD d [(m,y)])) e (XO e C (some d)))
theorem QF (M:XCl X.K C f) (ha:PE X o ta) (hv:PE X value tv) (hs:swapsWith value (some (.Attribute o m pos')) pos.line X.env=pure false:=by rfl):PS X (.Assign [.Attribute o m pos'] value pos) (zcC X.K C ta tv m):=by
  intro pins s σ H D I h
  refine plainObj_wpAny_Assign_Attribute (thn (hv pins s σ H _ I h) fun u s1 ⟨y,H1,I1,ry,q⟩=>thn (ha pins s1 σ H1 _ I1 q) fun ov s2 ⟨x,H2,I2,rx,e,ex,hH,hk,q2⟩=>?_) hs
  subst ex
  obtain rfl:ov=Value.ref e:=rx
  obtain ⟨oe,ws,t0,g1,g2,g3,g4,g5,g6⟩:=XO.get I2.hok hH
  refine zbK I2.kIn g1 g2 g3 g4 M.sa M.over hk M.hd fun h' hn he kp=>?_
  have nd:s2.heap.objs.size≠e:=Nat.ne_of_gt (Heap.lt_size g1)
  have fd:H2 s2.heap.objs.size=none:=I2.hok.fresh (Nat.le_refl _)
  have ns:∀ (b:Addr) (u:HO),H2 b=some u->(∀ ψ,u≠.ext ψ)->upd (upd H2 s2.heap.objs.size (XD s2.heap.objs.size [(m,y)])) e (XO e C (some s2.heap.objs.size)) b=some u:=fun b u q nx=>by
    have n1:b≠e:=fun z=>by
      rw [z,hH] at q
      cases q
      exact nx _ rfl
    rw [zk n1,zk (zo q fd)]
    exact q
  have ne':∀ b,H2 b=none->b≠e:=fun b q z=>by
    rw [z,hH] at q
    cases q
  refine ⟨σ,_,I2.un (H':=upd (upd H2 s2.heap.objs.size (XD s2.heap.objs.size [(m,y)])) e (XO e C (some s2.heap.objs.size))) (h':=h') (t':=s2.toks + 2) ⟨fun b o q n _ _=>kp b o (ne' b n) q,fun b o q n _ _=>⟨o.slots,kp b o (ne' b n) q⟩,fun b o q n _=>?_,fun b o q _=>?_,fun b xs q=>ns b _ q (by intro ψ z; cases z),fun b o u q=>ns b _ q (by intro ψ z; cases z),fun b ps q=>⟨#[],by rw [ns b _ q (by intro ψ z; cases z)]; simp⟩⟩ fun b u q=>?_,q2 _ fd nd⟩
  · rw [zk (ne' b n),zk (Nat.ne_of_lt (Heap.lt_size q))]
    exact n
  · by_cases z:b=e
    · rw [z]
      exact ⟨_,he⟩
    · exact ⟨o,kp b o z q⟩
  · by_cases z:b=e
    · subst z
      rw [zc] at q
      cases q
      exact XO.ok ⟨_,ws,t0,he,g2,rfl,g4,g5,g6⟩
    · rw [zk z] at q
      by_cases z2:b=s2.heap.objs.size
      · subst z2
        rw [zc] at q
        cases q
        refine XD.ok ⟨_,hn,fun f=>?_,fun f hf=>?_,show 1<=1000 by decide⟩
        · rw [List.lookup_cons]
          by_cases w:f=m
          · rw [if_pos w,w,beq_self_eq_true]
            exact ry
          · rw [if_neg w,beq_eq_false_iff_ne.mpr w]
            exact True.intro
        · by_cases w:f=m
          · rw [w]
            exact List.mem_cons_self
          · exact absurd (if_neg w) hf
      · rw [zk z2] at q
        refine (I2.hok b u q).stay (fun c v hc r=>kp c v (fun w=>?_) r) (fun c r=>ns c _ r (by intro ψ z; cases z)) fun c xs r=>ns c _ r (by intro ψ z; cases z)
        rcases hc with hc | hc
        · exact z (hc.symm.trans w)
        · rw [w,hH] at hc
          cases hc
end
end L2
namespace L2
open PySem PySem.Spec PyProof.Rows
section
variable {X:Cx} {pins:List (Addr × Obj)} {σ:St} {H:Hp} {s:Shared} {h':Heap} {xs:List Addr}
theorem Inv.moved (I:Inv X pins σ H s) (m:Mv (frs X.stack) xs s.heap h')
    (hx:∀ b∈xs,H b=none/\(b∈X.ex\/X.s₀.heap.objs.size<=b)/\b≠X.env.locals/\(∀ x c,X.env.cells.lookup x=some c->c≠b)/\∀ p∈X.pn ++ pins,p.1≠b):Inv X pins σ H { s with heap:=h' } :=
  I.call (g':=s.gens) (d':=s.drawn) (t':=s.toks) (ch:=xs) ⟨fun b o q _ f x=>m.keep b o q f x,fun b o q _ _ x=>m.slot b o q x,fun _ _ _ n _=>n,fun b o q _=>m.there b o q,fun _ _ q=>q,fun _ _ _ q=>q,fun _ ps q=>⟨#[],by rw [q]; simp⟩⟩
    (I.hok.moved m I.stkFree fun b hb=>(hx b hb).1) I.bare fun b hb=>(hx b hb).2
theorem Inv.apart (I:Inv X pins σ H s) {b:Addr} {o:Obj} {vs:Array Value} (q:s.heap.get? b=some o) (d:o.data=.fields vs):b≠X.env.locals/\∀ x c,X.env.cells.lookup x=some c->c≠b:=by
  refine ⟨fun z=>?_,fun x c e z=>?_⟩
  · obtain ⟨m,⟨o',es,ep,ho,hd,_⟩,_⟩:=I.loc
    rw [z,ho] at q
    cases q
    rw [hd] at d
    cases d
  · obtain ⟨v,o',ho,hd⟩:=I.cell x c e
    rw [z,q] at ho
    cases ho
    rw [d] at hd
    cases hd
abbrev Cx.inEx (X:Cx) (u:Value) (p:List (Addr × Obj)):Cx:={ X with A:=X.A.mark (some u),calm:=false,pn:=p ++ X.pn,xe:=fun _ _=>False }
theorem Inv.inEx (I:Inv X pins σ H s) (u:Value) {p:List (Addr × Obj)} (hp:∀ q∈p,s.heap.get? q.1=some q.2/\H q.1=none/\q.1≠X.env.locals/\q.1 ∉ X.fs/\∀ v,q.2.data≠.cell v):Inv (X.inEx u p) pins σ H s :=
  ⟨⟨I.ok.mod,I.ok.kind,I.ok.glob,I.ok.blt,I.ok.above,I.ok.inj,I.ok.has,I.ok.cab,(fun z=>nomatch z),I.ok.frames,I.ok.stk,I.ok.exf,I.ok.bs,I.ok.bsz,I.ok.noex,I.ok.exfs,I.ok.funs,I.ok.frf⟩,I.os,I.bare,I.base,I.loc,I.cell,I.free,I.freeC,fun q hq=>by
    have hq':q∈(p ++ X.pn) ++ pins:=hq
    rw [List.append_assoc] at hq'
    rcases List.mem_append.mp hq' with z | z
    · exact hp q z
    · exact I.pin q z,I.hok,I.len⟩
theorem Inv.outEx {u:Value} {p:List (Addr × Obj)} (ok:X.Ok) (I:Inv (X.inEx u p) pins σ H s):Inv X pins σ H s :=
  ⟨ok,I.os,I.bare,I.base,I.loc,I.cell,I.free,I.freeC,fun q hq=>I.pin q (by
    show q∈(p ++ X.pn) ++ pins
    rw [List.append_assoc]
    exact List.mem_append_right _ hq),I.hok,I.len⟩
theorem xZ {A:Around} {E:Value->Shared->Prop} {i:Nat} {n:Str} {pos:Pos} {Q:Unit->Shared->Prop} (I:Inv X pins σ H s) (hN:X.N.Nodup) (hi:X.N[i]?=some n) (hl:X.env.scope.names.lookup n=some .local)
    (h:∀ s',Inv X pins (σ.set i none) H s'->Q () s'):wpAny (model X.prog X.w) A (do bindName X.env n .none; unbindBehindTheSuite X.env n pos) Q E s:=by
  obtain ⟨m,hn,hlk⟩:=id I.loc
  have iσ:i < σ.length:=by rw [I.len]; exact (List.getElem?_eq_some_iff.mp hi).1
  refine wpAny_nameGoes_keeps (env:=X.env) hl hn (by rw [I.ok.kind]; rfl) fun h' v hn' hs=>h _ ?_
  have nl:∀ (b:Addr) (o:Obj),X.s₀.heap.get? b=some o->b≠X.env.locals:=fun b o q=>Nat.ne_of_lt (Nat.lt_of_lt_of_le (Heap.lt_size q) I.ok.above)
  refine ⟨I.ok,I.os,I.bare,⟨fun b o q n hb hx=>(hs.2 b (nl b o q)).trans (I.base.keep b o q n hb hx),fun b o q n hb hx=>?_,I.base.free,fun b o q hx=>?_,I.base.tups,I.base.frzs,I.base.tbls⟩,⟨_,hn',fun j y v' e1 e2 e3=>?_⟩,fun y c q=>?_,I.free,I.freeC,fun p hp=>?_,fun b u q=>?_,by rw [List.length_set]; exact I.len⟩
  · obtain ⟨sl,q1⟩:=I.base.slot b o q n hb hx
    exact ⟨sl,(hs.2 b (nl b o q)).trans q1⟩
  · obtain ⟨o1,q1⟩:=I.base.there b o q hx
    exact ⟨o1,(hs.2 b (nl b o q)).trans q1⟩
  · have hj:j≠i:=fun z=>by
      rw [z,List.getElem?_set_self iσ] at e2
      cases e2
    rw [List.getElem?_set_ne (Ne.symm hj)] at e2
    obtain ⟨u,r,q⟩:=hlk j y v' e1 e2 e3
    refine ⟨u,r,?_⟩
    rcases q with ⟨k,e⟩ | ⟨k,c,e,z⟩
    · have ny:y≠n:=fun z=>hj (vG hN e1 (z ▸ hi))
      exact .inl ⟨k,by simp [ny,e]⟩
    · exact .inr ⟨k,c,e,z.sameBut hs (I.cne y c e)⟩
  · obtain ⟨w,z⟩:=I.cell y c q
    exact ⟨w,z.sameBut hs (I.cne y c q)⟩
  · obtain ⟨a,b,c,d⟩:=I.pin p hp
    exact ⟨(hs.2 p.1 c).trans a,b,c,d⟩
  · refine (I.hok b u q).stay (fun c v hc r=>(hs.2 c fun z=>?_).trans r) (fun _ r=>r) fun _ _ r=>r
    rcases hc with hc | hc
    · rw [<- hc,z,I.free] at q
      cases q
    · rw [z,I.free] at hc
      cases hc
end
abbrev Ends.behind (D:Ends) (i:Nat):Ends:={ nx:=fun σ H=>D.nx (σ.set i none) H,rt:=D.rt,bk:=fun σ H=>D.bk (σ.set i none) H,ct:=fun σ H=>D.ct (σ.set i none) H }
def VG (K:PySem.W.Frag) (Ch:Addr) (i:Nat) (th:Addr->Obj->TS) (D:Ends) (σ:St):XK:=fun C dx H=>PySem.W.exmOne K C (.ref Ch)=some true/\∀ (e:Addr) (oe:Obj) (vs:Array Value),oe.cls=C->oe.dict=dx->oe.data=.fields vs->vs[2]?=some .none->H e=none->th e oe (D.behind i) (σ.set i (some (.ref e))) H
section
variable {X:Cx} {Ch:Addr} {x n:Str} {i:Nat} {np hpos tpos:Pos} {b0:Stmt} {suite:List Stmt} {th:Addr->Obj->TS}
theorem WF {pins:List (Addr × Obj)} {σ:St} {D:Ends} {u:Value} {s':Shared} (hN:X.N.Nodup) (hi:X.N[i]?=some n) (hl:X.env.scope.names.lookup n=some .local) (hst:X.stack=X.env :: X.outer) (hf:X.env.frame=some X.env.locals) (hg:Gl X x) (hm:X.mg x=some (.ref Ch))
    (hS:∀ e oe,PSs (X.inEx (.ref e) [(e,oe)]) (b0 :: suite) (th e oe)) (hdb:(x == ("__debug__":Str))=false)
    (h:Air X pins σ (VG X.K Ch i th D σ) u s') :
    wpAny (model X.prog X.w) X.A (noteFrame u X.env) (fun _ s2=>wpAny (model X.prog X.w) X.A (setFlight u none) (fun _ s3=>wpAny (model X.prog X.w) X.A (handleBy u X.env [.ExceptHandler (some (.Name x np)) (some n) (b0 :: suite) hpos]) (SP X pins D) X.xe s3) X.xe s2) X.xe s':=by
  obtain ⟨e,C,dx,H',k,rfl,I,ne,hk,he,hp,st,hex,hth⟩:=h
  have fr:X.A.frames=some (X.env :: X.outer):=hst ▸ I.ok.frames
  have fs:s'.heap.FunFrames X.base (X.env :: X.outer):=hst ▸ I.stack
  have pk:∀ b,k<=b->∀ p∈X.pn ++ pins,p.1≠b:=fun b hb p q z=>absurd (Nat.lt_of_lt_of_le (hp p q) hb) (by rw [z]; exact Nat.lt_irrefl _)
  have fin:∀ (h2:Heap) (T:Addr),Tr h2 e C dx T .none->Inv X pins σ H' { s' with heap:=h2 }->H' T=none->X.s₀.heap.objs.size<=T->(∀ p∈X.pn ++ pins,p.1≠T) ->
      wpAny (model X.prog X.w) X.A (handleBy (.ref e) X.env [.ExceptHandler (some (.Name x np)) (some n) (b0 :: suite) hpos]) (SP X pins D) X.xe { s' with heap:=h2 }:=by
    intro h2 T t J nT sT pT
    obtain ⟨oe,vs,g1,g2,g3,g4,g5⟩:=t.ex
    have Jm:Inv (X.inEx (.ref e) []) pins σ H' { s' with heap:=h2 }:=J.inEx (.ref e) fun q hq=>nomatch hq
    have LT:PySem.W.Looks (model X.prog X.w) h2 (typeOf (.ref e)) C:=g2 ▸ (PySem.W.Looks.ld g1).andThen .now
    refine wpAny_handleBy_cons (codeAny_handlers_test (xv Jm hg hm ?_ hdb)) (by intro q; cases q)
    refine PySem.W.Looks.here (s:={ s' with heap:=h2 }) (PySem.W.exm_one (K:=X.K) J.kIn LT hex) ?_
    refine codeAny_handlers_suite_as (vz (v:=none) t fun h3 t3 m3=>?_)
    have J3:Inv X pins σ H' { s' with heap:=h3 }:=Inv.moved (s:={ s' with heap:=h2 }) J (m3.mono (fun b z=>nomatch z) fun _ z=>z) fun b hb=>by
      rw [List.mem_singleton.mp hb]
      obtain ⟨ot,ts,q1,q2,_⟩:=t.tb
      exact ⟨nT,.inr sT,(J.apart q1 q2).1,(J.apart q1 q2).2,pT⟩
    obtain ⟨oe3,vs3,a1,a2,a3,a4,a5⟩:=t3.ex
    have ap:=Inv.apart (s:={ s' with heap:=h3 }) J3 a1 a4
    have J4:Inv (X.inEx (.ref e) [(e,oe3)]) pins σ H' { s' with heap:=h3 }:=J3.inEx (.ref e) fun q hq=>by
      rw [List.mem_singleton.mp hq]
      exact ⟨a1,ne,ap.1,fun z=>by
        obtain ⟨_,o,ho,nf⟩:=J3.funs.mem z
        have ho':h3.get? e=some o:=ho
        rw [a1] at ho'
        cases ho'
        exact nf vs3 a4,fun v z=>by rw [a4] at z; cases z⟩
    refine xk (X:=X.inEx (.ref e) [(e,oe3)]) (v:=.ref e) J4 hN hi (.inl hl) rfl (fun s4 J5=>?_) (.inr hl)
    refine wpAny_mono (hS e oe3 pins s4 _ H' (D.behind i) J5 (hth e oe3 vs3 a2 a3 a4 a5.2 ne)) (fun f s5 q=>?_) fun _ _ z=>False.elim z
    cases f with
    | next =>
      obtain ⟨σ',H5,I5,q⟩:=q
      exact xZ (I5.outEx I.ok) hN hi hl fun s6 I6=>⟨_,_,I6,q⟩
    | brk =>
      obtain ⟨σ',H5,I5,q⟩:=q
      exact xZ (I5.outEx I.ok) hN hi hl fun s6 I6=>⟨_,_,I6,q⟩
    | cont =>
      obtain ⟨σ',H5,I5,q⟩:=q
      exact xZ (I5.outEx I.ok) hN hi hl fun s6 I6=>⟨_,_,I6,q⟩
    | ret w =>
      obtain ⟨v,σ',H5,I5,r,q⟩:=q
      exact xZ (I5.outEx I.ok) hN hi hl fun s6 I6=>⟨v,_,_,I6,r,q⟩
  have two:∀ (h1:Heap) (T:Addr) (xs:List Addr),Tr h1 e C dx T (rawInt X.env.locals)->Mv ((X.env :: X.outer).filterMap (·.frame)) xs s'.heap h1->(∀ b∈xs,H' b=none/\X.s₀.heap.objs.size<=b/\(∀ p∈X.pn ++ pins,p.1≠b)/\∃ o vs,s'.heap.get? b=some o/\o.data=.fields vs)->s'.heap.objs.size<=T ->
      wpAny (model X.prog X.w) X.A (setFlight (.ref e) none) (fun _ s3=>wpAny (model X.prog X.w) X.A (handleBy (.ref e) X.env [.ExceptHandler (some (.Name x np)) (some n) (b0 :: suite) hpos]) (SP X pins D) X.xe s3) X.xe { s' with heap:=h1 }:=by
    intro h1 T xs t m hxs hT
    have J1:Inv X pins σ H' { s' with heap:=h1 }:=I.moved (hst ▸ m) fun b hb=>by
      obtain ⟨r1,r2,r3,o,vs,r4,r5⟩:=hxs b hb
      exact ⟨r1,.inr r2,(I.apart r4 r5).1,(I.apart r4 r5).2,r3⟩
    have nT:H' T=none:=I.hok.fresh hT
    have sT:X.s₀.heap.objs.size<=T:=Nat.le_trans I.sz hT
    have pT:∀ p∈X.pn ++ pins,p.1≠T:=fun p q z=>absurd (Nat.lt_of_lt_of_le (Heap.lt_size (I.pin p q).1) hT) (by rw [z]; exact Nat.lt_irrefl _)
    refine vz (s:={ s' with heap:=h1 }) (v:=none) t fun h2 t2 m2=>fin h2 T t2 (Inv.moved (s:={ s' with heap:=h1 }) J1 (m2.mono (fun b z=>nomatch z) fun _ z=>z) fun b hb=>?_) nT sT pT
    rw [List.mem_singleton.mp hb]
    obtain ⟨ot,ts,q1,q2,_⟩:=t.tb
    exact ⟨nT,.inr sT,(J1.apart q1 q2).1,(J1.apart q1 q2).2,pT⟩
  rcases st with ⟨oe,vs,h1,rfl,rfl,h4,h5,h6⟩ | ⟨T0,t0,n0,s0⟩
  · refine jX fr fs hf h1 h4 h5 h6 fun h' T hs t m=>two h' T [e] t m (fun b hb=>?_) hs
    rw [List.mem_singleton.mp hb]
    exact ⟨ne,Nat.le_trans hk he,pk e he,oe,vs,h1,h4⟩
  · refine Z0 fr fs hf t0 fun h' T hs t m=>two h' T [e,T0] t m (fun b hb=>?_) hs
    rcases List.mem_cons.mp hb with r | hb
    · rw [r]
      obtain ⟨oe,vs,q1,_,_,q4,_⟩:=t0.ex
      exact ⟨ne,Nat.le_trans hk he,pk e he,oe,vs,q1,q4⟩
    · rw [List.mem_singleton.mp hb]
      obtain ⟨ot,ts,q1,q2,_⟩:=t0.tb
      exact ⟨n0,Nat.le_trans hk s0,pk T0 s0,ot,ts,q1,q2⟩
variable {k:Nat} {f:Addr} {fd:FuncData} {ps:List Str} {sp:Sp} {y:Str} {p cpos epos:Pos} {a:Expr} {as:List Expr} {t:TA}
end
end L2
namespace L2
open PySem PySem.Spec PyProof.Rows
section
variable {X:Cx} {pins:List (Addr × Obj)} {σ:St} {H:Hp} {s:Shared} {h':Heap}
theorem Inv.turns {t':Nat} {ch:List Addr} (I:Inv X pins σ H s) (k:∀ b o,b ∉ ch->s.heap.get? b=some o->h'.get? b=some o) (hf:∀ b∈ch,FpOk X pins H b):Inv X pins σ H { s with heap:=h',toks:=t' }:=by
  have nit:∀ b u,H b=some u->b ∉ ch:=fun b u e z=>by rw [(hf b z).1] at e; cases e
  refine I.call (g':=s.gens) (d':=s.drawn) (t':=t') (ch:=ch) ⟨fun b o q _ _ x=>k b o x q,fun b o q _ _ x=>⟨o.slots,k b o x q⟩,fun _ _ _ n _=>n,fun b o q x=>⟨o,k b o x q⟩,fun _ _ q=>q,fun _ _ _ q=>q,fun _ ps q=>⟨#[],by rw [q]; simp⟩⟩
    (fun b u e=>(I.hok b u e).stay (fun c v hc q=>k c v ?_ q) (fun _ q=>q) fun _ _ q=>q) I.bare fun b hb=>?_
  · rcases hc with z | z
    · rw [z]; exact nit b u e
    · exact nit c _ z
  · obtain ⟨f0,f1,f2,f3,f4,f5⟩:=hf b hb
    exact ⟨f3,f1,f4,f5⟩
theorem Inv.turnsLaid {t':Nat} {ch:List Addr} {a:Addr} {o:HO} (I:Inv X pins σ H s) (k:∀ b o,b ∉ ch->s.heap.get? b=some o->h'.get? b=some o) (hf:∀ b∈ch,FpOk X pins H b) (hp:s.heap.objs.size<=a) (new:ObjOk X.prog X.w (upd H a o) h' a o) :
    Inv X pins σ (upd H a o) { s with heap:=h',toks:=t' }:=by
  have hn:=I.hok.fresh hp
  have nit:∀ b u,H b=some u->b ∉ ch:=fun b u e z=>by rw [(hf b z).1] at e; cases e
  refine I.call (g':=s.gens) (d':=s.drawn) (t':=t') (ch:=ch) ⟨fun b o q _ _ x=>k b o x q,fun b o q _ _ x=>⟨o.slots,k b o x q⟩,fun b u q n _=>by rw [zk (Nat.ne_of_lt (Nat.lt_of_lt_of_le (Heap.lt_size q) hp))]; exact n,fun b o q x=>⟨o,k b o x q⟩,
      fun b xs q=>by rw [zk (zo q hn)]; exact q,fun b u xs q=>by rw [zk (zo q hn)]; exact q,fun b ps q=>⟨#[],by rw [zk (zo q hn),q]; simp⟩⟩
    (fun b u e=>?_) I.bare fun b hb=>?_
  · by_cases hb:b=a
    · subst hb
      rw [zc] at e
      cases e
      exact new
    · rw [zk hb] at e
      refine (I.hok b u e).stay (fun c v hc q=>k c v ?_ q) (fun c q=>by rw [zk (zo q hn)]; exact q) fun c xs q=>by rw [zk (zo q hn)]; exact q
      rcases hc with z | z
      · rw [z]; exact nit b u e
      · exact nit c _ z
  · obtain ⟨f0,f1,f2,f3,f4,f5⟩:=hf b hb
    exact ⟨f3,f1,f4,f5⟩
end
def Ite (K:PySem.W.Frag) (a:Addr):It :=
  ⟨fun i H=>∃ xs x,SqL K H a xs/\xs[i]?=some x,fun i H x H'=>∃ T v,x=.ref T/\H T=none/\H'=upd H T (.tup [.int i,v])/\∀ xs,SqL K H a xs->xs[i]?=some v,fun i H=>∃ xs,SqL K H a xs/\xs.length<=i⟩
theorem WG {P:Program} {w:World} {K:PySem.W.Frag} {elts:List Expr} {k:Nat} {pos:Pos} {a e it:Addr} (hne:e≠it):Turn P w K (.Tuple elts k pos) (Ite K a) [e,it] e (fun i h=>(∃ old,IsEnum h e it (i:Int) old)/\h.IsListIter it a i) where
  mem:=by simp
  obj:=fun i h st b hb=>by
    obtain ⟨⟨old,he⟩,hit⟩:=st
    have e':b=e\/b=it:=by simpa using hb
    rcases e' with z | z
    · subst z
      exact ⟨_,he,fun v z=>by cases z⟩
    · subst z
      obtain ⟨o,e,c,d⟩:=hit
      exact ⟨o,e,fun v z=>by rw [d] at z; cases z⟩
  keep:=fun i h h' st k=>⟨st.1.imp fun old he=>k e (by simp) _ he,st.2.at fun o x=>k it (by simp) o x⟩
  item:=by
    intro X hP hw hK hc i pins s σ H E I hf st hg
    subst hP hw hK
    obtain ⟨xs,x,hq,hx⟩:=hg
    obtain ⟨its,rv,p,hz⟩:=I.list hq
    obtain ⟨u,hu,ru⟩:=rv.get hx
    obtain ⟨⟨old,he⟩,hit⟩:=st
    refine wpAny_pyNext_enum_item he hit p.isList (x:=u) (by simpa using hu) hne fun h' ho hit' hT hsz hk=>?_
    have new:ObjOk X.prog X.w (upd H s.heap.objs.size (.tup [.int i,x])) h' s.heap.objs.size (.tup [.int i,x]):=⟨by show 2<=sizeLine; decide,[.int i s.toks,u],.cons ⟨_,rfl⟩ (.cons ru .nil),⟨_,hT,rfl,rfl,_,rfl⟩⟩
    have I1:Inv X pins σ (upd H s.heap.objs.size (.tup [.int i,x])) { s with heap:=h',toks:=s.toks + 1 }:=I.turnsLaid (ch:=[e,it]) (fun b o hb q=>hk b o (fun z=>hb (by simp [z])) (fun z=>hb (by simp [z])) q) hf (Nat.le_refl _) new
    have hlt:∀ b∈[e,it],b≠s.heap.objs.size:=fun b hb=>by
      have e':b=e\/b=it:=by simpa using hb
      rcases e' with z | z
      · rw [z]; exact Nat.ne_of_lt (Heap.lt_size he)
      · rw [z]; obtain ⟨o,q,_⟩:=hit; exact Nat.ne_of_lt (Heap.lt_size q)
    have hn:∀ b∈[e,it],upd H s.heap.objs.size (.tup [.int i,x]) b=none:=fun b hb=>by rw [zk (hlt b hb)]; exact (hf b hb).1
    have hf1:∀ b∈[e,it],FpOk X pins (upd H s.heap.objs.size (.tup [.int i,x])) b:=fun b hb=>⟨hn b hb,(hf b hb).2⟩
    refine ⟨_,rfl,wpAny_letOwnedTupleGo_enum (s:={ s with heap:=h',toks:=s.toks + 1 }) ho fun h'' he' hs'=>?_⟩
    have I2:Inv X pins σ (upd H s.heap.objs.size (.tup [.int i,x])) { s with heap:=h'',toks:=s.toks + 1 }:=Inv.turns (s:={ s with heap:=h',toks:=s.toks + 1 }) (t':=s.toks + 1) (ch:=[e,it]) I1 (fun b o hb q=>(hs'.2 b fun z=>hb (by simp [z])).trans q) hf1
    refine ⟨.ref s.heap.objs.size,_,I2,rfl,⟨_,x,rfl,I.fresh,rfl,fun ys hy=>by rw [I.list_inj hy hq]; exact hx⟩,⟨⟨u,?_⟩,hit'.at fun o q=>(hs'.2 it hne.symm).trans q⟩,hn⟩
    have e1:(((i + 1:Nat)):Int)=(i:Int) + 1:=by lia
    rw [e1]
    exact he'
  done:=by
    intro X hP hw hK hc i pins s σ H E I hf st hg
    subst hP hw hK
    obtain ⟨xs,hq,hx⟩:=hg
    obtain ⟨its,rv,p,hz⟩:=I.list hq
    have hl:=rv.length
    obtain ⟨⟨old,he⟩,hit⟩:=st
    exact wpAny_pyNext_enum_end (I.ok.hd hc) he hit p.isList (by simp; lia) fun h' eb=>⟨rfl,I.turns (t':=s.toks) (ch:=[e,it]) (fun b o hb q=>eb b o (fun z=>hb (by simp [z])) q) hf⟩
  self:=fun _ _ _ _ _ st h=>by
    obtain ⟨⟨old,he⟩,_⟩:=st
    exact wpAny_pyIter_enum he h
section
variable {X:Cx} {elts:List Expr} {k:Nat} {tpos:Pos}
def zaP (K:PySem.W.Frag) (ta:TA):TI:=fun σ H R=>ta σ H fun vs H1=>∃ a,vs=[.ref a]/\(∃ xs,SqL K H1 a xs)/\R (Ite K a) H1
theorem QG {a:Expr} {ta:TA} {p pos:Pos} (hg:Gl X "enumerate") (hm:X.mg "enumerate"=none) (ha:PA X [a] ta) (hs:starEach [a] X.env=[(false,eval a X.env)]:=by rfl):PI X (.Tuple elts k tpos) (.Call (.Name "enumerate" p) [a] [] pos) (zaP X.K ta):=by
  intro pins s σ H R I h
  refine Call_ (wm I hg hm boot_enumerate (PyProof.Rows.callWith_type1 (thn (ha pos pins s σ H _ I h) fun us s1 ⟨vs,H1,I1,r1,q1⟩=>?_) hs rfl))
  obtain ⟨l,e,⟨xs,hq⟩,q⟩:=q1
  subst e
  obtain ⟨u,rfl,rx⟩:=xK r1
  cases rx
  obtain ⟨its,rv,pl,hz⟩:=I1.list hq
  refine call_enumerate_list pl.isList fun h' hE hI hsz hk=>?_
  refine wpAny_pyIter_enum hE ?_
  refine ⟨s1.heap.objs.size + 1,[s1.heap.objs.size + 1,s1.heap.objs.size],_,_,H1,rfl,I1.kept (t':=s1.toks) hk,WG (a:=l) (Nat.succ_ne_self _),⟨⟨_,hE⟩,hI⟩,fun b hb=>?_,q⟩
  have e:b=s1.heap.objs.size + 1\/b=s1.heap.objs.size:=by simpa using hb
  rcases e with e | e
  · subst e
    exact I1.fpOk (Nat.le_succ _) (I1.hok.fresh (Nat.le_succ _))
  · subst e
    exact I1.fpOk (Nat.le_refl _) (I1.hok.fresh (Nat.le_refl _))
theorem QH {a:Expr} {t:TA} {p pos:Pos} (hg:Gl X "enumerate") (hm:X.mg "enumerate"=none) (ha:jA X [a] t) (h:zP a=false:=by rfl):jI X (.Tuple elts k tpos) (.Call (.Name "enumerate" p) [a] [] pos) (zaP X.K t):=⟨QG hg hm ha.out (zV h)⟩
end
end L2
namespace L2
open PySem PySem.Spec PyProof.Rows Builtin Builtin.Str
section
variable {X:Cx}
theorem wD:∀ {zs:List Str} {us:List Value},Vals (zs.map V.str) us->∃ l:List (Str × Tok),us=strValues l/\l.map (·.1)=zs
  | [],_,.nil=>⟨[],rfl,rfl⟩
  | z :: zs,_,.cons ⟨t,e⟩ r=>by
    obtain ⟨l,rfl,h⟩:=wD r
    exact ⟨(z,t) :: l,by rw [e]; rfl,by rw [List.map_cons,h]⟩
theorem Z2 (sep:Str):∀ (zs:List Str) (a:Nat),zs.foldl (· + ·.length + sep.length) a=a + ((zs.map (·.length)).sum + zs.length * sep.length)
  | [],a=>by simp
  | z :: zs,a=>by
    rw [List.foldl_cons,Z2 sep zs]
    simp only [List.map_cons,List.sum_cons,List.length_cons,Nat.add_mul,Nat.one_mul]
    lia
def wide (sep:Str) (zs:List Str):Nat:=(zs.map (·.length)).sum + zs.length * sep.length
def zaQ (K:PySem.W.Frag):V->List V->Hp->VK->Prop:=fun x vs H Q=>∃ sep p zs,x=.str sep/\vs=[.ref p]/\SqL K H p (zs.map V.str)/\wide sep zs<=sizeLine/\Q (.str (Str.join sep zs)) H
theorem QI:MtR X "str.join" (zaQ X.K):=by
  intro pins s σ H x vs v us Q I rx rv h
  obtain ⟨sep,p,zs,rfl,rfl,hq,hw,q⟩:=h
  obtain ⟨t,rfl⟩:=rx
  obtain ⟨u,rfl,ru⟩:=rv.one
  cases ru
  obtain ⟨its,r,pl,hz⟩:=I.list hq
  obtain ⟨l,rfl,hl⟩:=wD r
  have big:tooLong ((l.map (·.1)).toArray.foldl (· + ·.length + sep.length) 0)=false:=by
    rw [hl,List.foldl_toArray,Z2]
    unfold tooLong
    rw [decide_eq_false_iff_not]
    unfold wide at hw
    lia
  have hg:=size_glued sep zs
  have hle:(glued sep zs).length<=sizeLine:=by
    rw [hg]
    unfold wide at hw
    have:(zs.length - 1) * sep.length<=zs.length * sep.length:=Nat.mul_le_mul_right _ (Nat.sub_le _ _)
    lia
  refine call_meets F.slot_str_join (typeIs_str _ _ _) F.entry_str_join (F.args_str_join_2 _ _) (meets_str_join_list sep t p l big) ⟨pl.isList,?_⟩
  rw [<- StrLaws.glued_eq_join] at q
  match l,hl with
  | [],hl=>exact ⟨by rw [hl]; exact hle,.str _,H,I.tok _,⟨_,rfl⟩,by rw [hl]; exact q⟩
  | [(z,tz)],hl =>
    have e:glued sep zs=z:=by
      rw [<- hl]
      rfl
    rw [e] at q
    exact ⟨.str z,H,I,⟨tz,rfl⟩,q⟩
  | a :: b :: r,hl=>exact ⟨by rw [hl]; exact hle,.str _,H,I.tok _,⟨_,rfl⟩,by rw [hl]; exact q⟩
theorem yI:jMt X "str.join" (zaQ X.K):=⟨QI⟩
def rEqE (K:PySem.W.Frag) (neg:Bool):R2:=fun x y H Q=>∃ p p' xs,x=.ref p/\y=.ref p'/\SqL K H p xs/\SqL K H p' []/\Q (.bl (if neg then !xs.isEmpty else xs.isEmpty)) H
theorem zbO (hu:X.A.units < cLine):OpR X (compareOp .Eq) (rEqE X.K false):=by
  intro pins s σ H x y v u Q I rx ry h
  obtain ⟨p,p',xs,rfl,rfl,h1,h2,q⟩:=h
  cases rx
  cases ry
  obtain ⟨its,r,pl,_⟩:=I.list h1
  obtain ⟨its',r',pl',_⟩:=I.list h2
  cases r'
  cases r with
  | nil=>exact SeqAt.eq_listAt (e:=fun _=>true) pl.isList pl'.isList rfl hu (fun j h=>absurd h (Nat.not_lt_zero _)) ⟨.bl true,H,I,rfl,q⟩
  | cons a b=>exact SeqAt.eq_list_lengthsAt pl.isList pl'.isList rfl hu ⟨.bl false,H,I,rfl,q⟩
theorem zbP (hu:X.A.units < cLine):OpR X (compareOp .NotEq) (rEqE X.K true):=by
  intro pins s σ H x y v u Q I rx ry h
  obtain ⟨p,p',xs,rfl,rfl,h1,h2,q⟩:=h
  cases rx
  cases ry
  obtain ⟨its,r,pl,_⟩:=I.list h1
  obtain ⟨its',r',pl',_⟩:=I.list h2
  cases r'
  cases r with
  | nil=>exact SeqAt.RcNeAt.lists (e:=fun _=>true) pl.isList pl'.isList rfl hu (fun j h=>absurd h (Nat.not_lt_zero _)) _ _ _ _ ⟨.bl false,H,I,rfl,q⟩
  | cons a b=>exact SeqAt.RcNeAt.lists_lengths pl.isList pl'.isList rfl hu _ _ _ _ ⟨.bl true,H,I,rfl,q⟩
theorem YR {k:Nat} (hr:Room k X.A):jOp X (compareOp .Eq) (rEqE X.K false):=⟨zbO hr.units0⟩
theorem zbQ {k:Nat} (hr:Room k X.A):jOp X (compareOp .NotEq) (rEqE X.K true):=⟨zbP hr.units0⟩
end
end L2
namespace L2
open PySem PySem.Spec PyProof.Rows
def Sq (k:Bool) (h:Heap) (l:Addr) (xs:Array Value):Prop:=match k with
  | true=>h.IsList l xs
  | false=>h.IsTuple l xs
def SqI (k:Bool) (h:Heap) (j l:Addr) (n:Nat):Prop:=match k with
  | true=>h.IsListIter j l n
  | false=>h.IsTupleIter j l n
def SqN (k:Bool):String:=if k then "list_iterator" else "tuple_iterator"
theorem Sq.at {k:Bool} {h h':Heap} {l:Addr} {xs:Array Value} (x:Sq k h l xs) (e:∀ o,h.get? l=some o->h'.get? l=some o):Sq k h' l xs:=by
  cases k <;> obtain ⟨o,ho,r⟩:=x <;> exact ⟨o,e _ ho,r⟩
theorem SqI.at {k:Bool} {h h':Heap} {j l:Addr} {n:Nat} (x:SqI k h j l n) (e:∀ o,h.get? j=some o->h'.get? j=some o):SqI k h' j l n:=by
  cases k <;> obtain ⟨o,ho,r⟩:=x <;> exact ⟨o,e _ ho,r⟩
theorem SqI.ex {k:Bool} {h:Heap} {j l:Addr} {n:Nat} (x:SqI k h j l n):∃ o,h.get? j=some o/\o.cls=.type (SqN k)/\o.data=.fields #[.ref l,.int n 0]:=by
  cases k <;> exact x
theorem SqI.of {k:Bool} {h:Heap} {j l:Addr} {n:Nat} (x:∃ o,h.get? j=some o/\o.cls=.type (SqN k)/\o.data=.fields #[.ref l,.int n 0]):SqI k h j l n:=by
  cases k <;> exact x
section
variable {P:Program} {w:World} {A:Around} {E:Value->Shared->Prop} {s:Shared}
end
abbrev za (k:Bool) (h:Heap) (l:Addr):Heap:=h.push { cls:=.type (SqN k),data:=.fields #[.ref l,.int 0 0] }
abbrev zb (k m:Bool) (h:Heap) (l r:Addr):Heap:=za m (za k h l) r
structure ZS (k m:Bool) (h:Heap) (B l r:Nat) (n:Nat) (f g:Value):Prop where
  z:h.get? (B + 4)=some { cls:=.type "zip",data:=.fields #[f,g,.bool false,.ref (B + 2),.ref (B + 3)] }
  ti:IsPair h (B + 2) (.ref B) (.ref (B + 1))
  to:∃ a b,IsPair h (B + 3) a b
  i:SqI k h B l n
  j:SqI m h (B + 1) r n
theorem ZS.at {k m:Bool} {h h':Heap} {B l r:Nat} {n:Nat} {f g:Value} (x:ZS k m h B l r n f g) (e:∀ (b:Nat) o,B<=b->b<=B + 4->h.get? b=some o->h'.get? b=some o):ZS k m h' B l r n f g where
  z:=e _ _ (by lia) (by lia) x.z
  ti:=e _ _ (by lia) (by lia) x.ti
  to:=let ⟨a,b,y⟩:=x.to; ⟨a,b,e _ _ (by lia) (by lia) y⟩
  i:=x.i.at fun o=>e _ o (by lia) (by lia)
  j:=x.j.at fun o=>e _ o (by lia) (by lia)
def KeptZ (B:Nat) (h h':Heap):Prop:=∀ (c:Nat) o,(c < B\/B + 4 < c)->h.get? c=some o->h'.get? c=some o
section
variable {P:Program} {w:World} {A:Around} {E:Value->Shared->Prop} {s:Shared} {k m:Bool} {B l r:Nat} {n:Nat} {xs ys:Array Value} {x y f g:Value}
end
end L2
namespace L2
open PySem PySem.Spec PyProof.Rows
def ZF (B:Nat) (h:Heap) (f g:Value):Prop:=f=.none\/∃ (T:Nat) (c:Bool) (o:Obj),f=rawInt T/\g=.bool c/\h.get? T=some o/\B + 5 < T
section
variable {P:Program} {w:World} {A:Around} {E:Value->Shared->Prop} {s:Shared} {k m:Bool} {B l r:Nat} {n:Nat} {xs ys:Array Value} {x y f g:Value}
end
structure ZL (k m:Bool) (h0 h:Heap) (B l r n:Nat) (xs ys acc:Array Value) (c:Nat) (f g:Value):Prop where
  zs:ZS k m h B l r n f g
  zf:ZF B h f g
  hl:Sq k h l xs
  hr:Sq m h r ys
  sz:h.objs.size=B + 6 + n
  lst:h.get? (B + 5)=some { cls:=.type "list",data:=.seq acc c }
  asz:acc.size=n
  par:∀ i x y,i < n->xs[i]?=some x->ys[i]?=some y->acc[i]?=some (.ref (B + 6 + i))/\IsPair h (B + 6 + i) x y
  old:∀ (b:Nat) o,b < B->h0.get? b=some o->h.get? b=some o
section
variable {P:Program} {w:World} {A:Around} {R:Result->Shared->Prop} {h0:Heap} {k m:Bool} {B l r N:Nat} {xs ys:Array Value} {res:Value}
end
end L2
namespace L2
open PySem PySem.Spec PyProof.Rows
section
variable {P:Program} {w:World} {A:Around} {E:Value->Shared->Prop} {s:Shared} {k m:Bool} {B l r N:Nat} {xs ys:Array Value}
end
theorem Inv.sq {X:Cx} {pins:List (Addr × Obj)} {σ:St} {H:Hp} {s:Shared} {a:Addr} {xs:List V} (I:Inv X pins σ H s) (h:SqL X.K H a xs\/SqT X.K H a xs):∃ (k:Bool) (its:List Value),Vals xs its/\Sq k s.heap a its.toArray/\xs.length<=sizeLine/\(a:Nat) < s.heap.objs.size:=by
  rcases h with h | h
  · obtain ⟨its,r,p,z⟩:=I.list h
    have ⟨o,n,e,_⟩:=p
    exact ⟨true,its,r,p.isList,z,Heap.lt_size e⟩
  · obtain ⟨its,r,p,z⟩:=I.tuple h
    have ⟨o,e,_⟩:=p
    exact ⟨false,its,r,p,z,Heap.lt_size e⟩
section
variable {X:Cx} {a b:Expr} {ta:TA} {p1 p2 pos1 pos2:Pos}
end
end L2
namespace L2
open PySem PySem.Spec PyProof.Rows
def SqK (k:Bool) (K:PySem.W.Frag) (H:Hp) (a:Addr) (xs:List V):Prop:=match k with
  | true=>SqL K H a xs
  | false=>SqT K H a xs
theorem KeptZ.of {B:Nat} {h h':Heap} (z:KeptZ B h h'):∀ (b:Nat) o,b ∉ [B,B + 1,B + 2,B + 3,B + 4]->h.get? b=some o->h'.get? b=some o:=fun b o n e=>z b o (by simp only [List.mem_cons,List.not_mem_nil,or_false,not_or] at n; lia) e
section
variable {X:Cx} {elts:List Expr} {n:Nat} {tpos:Pos}
end
end L2
namespace L2
open PySem PySem.Spec PyProof.Rows
structure Ca (P:Program) (w:World) (K:PySem.W.Frag) (mg:Str->Option Value) (base:Heap) (CX:CXT) (k:Nat) (x:Str) (ps:List Str) (sp:Sp):Prop where
  ex:∃ f fd,FnOk P w K mg base CX k f fd ps sp/\Binds K fd ps []/\PySem.W.keepIn K (.ref f)=true/\mg x=some (.ref f)
structure Me (P:Program) (w:World) (K:PySem.W.Frag) (mg:Str->Option Value) (base:Heap) (CX:CXT) (k:Nat) (C:Addr) (m:Str) (ps:List Str) (sp:Sp):Prop where
  ex:∃ f fd,FnOk P w K mg base CX k f fd ps sp/\Binds K fd ps []/\Meth K C m f
structure Ma (P:Program) (w:World) (K:PySem.W.Frag) (mg:Str->Option Value) (base:Heap) (CX:CXT) (k:Nat) (x:Str) (C:Addr) (ps:List Str) (sp:Sp):Prop where
  ex:∃ f fd,Mk K C f/\FnOk P w K mg base CX k f fd ps sp/\Binds K fd ps []/\mg x=some (.ref C)
structure Xa (P:Program) (w:World) (K:PySem.W.Frag) (mg:Str->Option Value) (base:Heap) (k:Nat) (x:Str) (C:Addr) (ps:List Str) (sp:Sp):Prop where
  ex:∃ f fd,XCl K C f/\FnOk P w K mg base CX0 k f fd ps sp/\Binds K fd ps []/\mg x=some (.ref C)
section
variable {P:Program} {w:World} {K:PySem.W.Frag} {mg:Str->Option Value} {base:Heap} {CX:CXT} {k j:Nat} {x m:Str} {C:Addr} {ps:List Str} {sp sp':Sp}
theorem Ca.mono (h:Ca P w K mg base CX j x ps sp) (l:j<=k):Ca P w K mg base CX k x ps sp:=let ⟨f,fd,a,r⟩:=h.ex; ⟨f,fd,a.mono l,r⟩
theorem Me.mono (h:Me P w K mg base CX j C m ps sp) (l:j<=k):Me P w K mg base CX k C m ps sp:=let ⟨f,fd,a,r⟩:=h.ex; ⟨f,fd,a.mono l,r⟩
end
section
variable {X:Cx} {CX:CXT} {k i:Nat} {C:Addr} {ps:List Str} {sp:Sp} {E:XK} {x m n f:Str} {p pos apos cpos np pos' epos hpos tpos:Pos} {e o a value:Expr} {es as:List Expr} {ta te tv to t1 t2:TE} {t:TA}
theorem zN (F:Ca X.prog X.w X.K X.mg X.base CX k x ps sp) (hr:Room k X.A) (hg:Gl X x) (hx:yL CX X E) (ha:jA X (e :: es) t) (hdb:(x == ("__debug__":Str))=false:=by decide) (h1:zP e=false:=by rfl) (h2:es.all (fun e=>!zP e)=true:=by rfl) :
    jE X (.Call (.Name x p) (e :: es) [] pos) (XC sp [] E t):=let ⟨_,_,G,b,kp,mg⟩:=F.ex; Vz G hr hg mg kp b .nil hx ha hdb h1 h2
theorem yr {pl:Sem Bool} (he:jE X o ta) (c:Cls X.K C) (F:Me X.prog X.w X.K X.mg X.base CX k C m ps sp) (hr:Room k X.A) (hx:yL CX X E) (ha:jA X (e :: es) t) (h1:zP e=false:=by rfl) (h2:es.all (fun e=>!zP e)=true:=by rfl)
    (ht:eval (.Call (.Attribute o m apos) (e :: es) [] pos) X.env=(do
      let ov <- eval o X.env
      standAt apos.atName
      let (f,first) <- holding [ov] (getMethod ov m pl)
      callWith pos f first (backTo pos (starEach (e :: es) X.env)) (backToKw pos (keywordEach [] X.env))):=by rfl) :
    jE X (.Call (.Attribute o m apos) (e :: es) [] pos) (XE C m sp [] E ta t):=let ⟨_,_,G,b,mt⟩:=F.ex; ⟨Qk he.out c mt G hr b .nil hx ha.out (zV h1) (yE h2) ht⟩
theorem yl {pl:Sem Bool} (he:jE X o ta) (c:Cls X.K C) (F:Me X.prog X.w X.K X.mg X.base CX k C m ps sp) (hr:Room k X.A) (hx:yL CX X E)
    (ht:eval (.Call (.Attribute o m apos) [] [] pos) X.env=(do
      let ov <- eval o X.env
      standAt apos.atName
      let (f,first) <- holding [ov] (getMethod ov m pl)
      callWith pos f first (backTo pos (starEach [] X.env)) (backToKw pos (keywordEach [] X.env))):=by rfl) :
    jE X (.Call (.Attribute o m apos) [] [] pos) (XE C m sp [] E ta tNil):=let ⟨_,_,G,b,mt⟩:=F.ex; ⟨Vl he.out c mt G hr b .nil hx ht⟩
theorem XR (F:Ma X.prog X.w X.K X.mg X.base CX k x C ps sp) (hr:Room (k + 1) X.A) (hg:Gl X x) (hx:yL CX X E) (ha:jA X (e :: es) t) (hdb:(x == ("__debug__":Str))=false:=by decide) (h1:zP e=false:=by rfl) (h2:es.all (fun e=>!zP e)=true:=by rfl) :
    jE X (.Call (.Name x p) (e :: es) [] pos) (zaK C sp [] E t):=let ⟨_,_,M,G,b,mg⟩:=F.ex; ⟨Ql M G hr hg mg b .nil hx ha.out hdb (zV h1) (yE h2)⟩
theorem yu (he:jE X e ta) (hb:attributeBase e f X.env (eval e X.env)=eval e X.env:=by rfl):jE X (.Attribute e f pos) (tFld X.K ta f):=⟨zbr he.out hb⟩
theorem yO (ha:jE X o ta) (hv:jE X value tv) (hs:swapsWith value (some (.Attribute o f pos')) pos.line X.env=pure false:=by rfl):jS X (.Assign [.Attribute o f pos'] value pos) (sFld X.K ta tv f):=⟨zbs ha.out hv.out hs⟩
theorem Z3 (F:Xa X.prog X.w X.K X.mg X.base k x C ps sp) (hr:Room (k + 1) X.A) (hg:Gl X x) (hx:YQ X E) (ha:jA X (a :: as) t) (hdb:(x == ("__debug__":Str))=false:=by decide) (h1:zP a=false:=by rfl) (h2:as.all (fun e=>!zP e)=true:=by rfl) :
    jS X (.Raise (some (.Call (.Name x np) (a :: as) [] cpos)) none pos) (VD C sp E t):=let ⟨_,_,M,G,b,mg⟩:=F.ex; ⟨VE M G hr hg mg b hx ha.out hdb h1 h2⟩
theorem VH (h1:jE X e t1) (h2:jE X e t2):jE X e (fun σ H Q=>t1 σ H Q\/t2 σ H Q):=⟨fun pins s σ H Q I h=>h.elim (h1.out pins s σ H Q I) (h2.out pins s σ H Q I)⟩
theorem zbR {j pos'} (ha:jE X a ta):jE X (.Compare a [.Is] [.Constant .none j pos'] pos) (tIsN ta):=⟨za8 (W6 ha.out)⟩
theorem VI {j pos'} (ha:jE X a ta):jT X (.Compare a [.Is] [.Constant .none j pos'] pos) (tB (tIsN ta)):=⟨W7 (W6 ha.out)⟩
theorem QJ {j pos'} (ha:jE X a ta):jT X (.Compare a [.IsNot] [.Constant .none j pos'] pos) (tB (zaC ta)):=⟨W7 (J2 ha.out)⟩
end
theorem FnOk.no {P:Program} {w:World} {K:PySem.W.Frag} {mg:Str->Option Value} {base:Heap} {CX:CXT} {k:Nat} {f:Addr} {fd:FuncData} {ps:List Str}:FnOk P w K mg base CX k f fd ps (fun _ _ _ _=>False) :=
  ⟨fun _ _ _ _ h=>h.elim,fun _ _ _ _ _ _ _ _ _ _ _ _ _ h=>h.elim⟩
end L2
namespace L2
open PySem PySem.Spec PySem.Calls PyProof.Rows
section
variable {P:Program} {w:World} {A:Around} {E:Value->Shared->Prop} {s:Shared} {K:PySem.W.Frag}
end
section
variable {X:Cx} {e C:Addr} {oe:Obj} {ex:Expr} {te:TE} {name:Str} {pos:Pos} {f:Addr}
def zaR (C e:Addr) (oe:Obj) (te:TE) (name:Str):TE:=fun σ H Q=>te σ H fun x H1=>x=.ref e/\oe.cls=.ref C/\(∃ vs,oe.data=.fields vs)/\∃ d fs v,oe.dict=some d/\H1 d=some (XD d fs)/\fs.lookup name=some v/\Q v H1
theorem QK (hp:(e,oe)∈X.pn) (M:XCl X.K C f) (hn:PySem.W.findIn X.K (.ref C) name=some none) (hh:PySem.W.hasDictIn X.K C=true) (he:PE X ex te) (hb:attributeBase ex name X.env (eval ex X.env)=eval ex X.env) :
    PE X (.Attribute ex name pos) (zaR C e oe te name):=by
  intro pins s σ H Q I h
  refine XB hb (thn (he pins s σ H _ I h) fun u s1 g=>?_)
  obtain ⟨x,H1,I1,rx,rfl,hc,⟨vs,hd⟩,d,fs,v,h1,h2,h3,q⟩:=g
  obtain rfl:u=Value.ref e:=rx
  obtain ⟨mA,ns,r,_⟩:=XD.get I1.hok h2
  obtain ⟨u',hu,ru⟩:=RelO.some_of (v:=v) (o:=mA name) (by rw [<- h3]; exact r name)
  obtain ⟨od,ho,hl⟩:=jJ ns
  have J:PySem.W.InstAt s1.heap e oe C (some od):=⟨(I1.pin (e,oe) (List.mem_append_left _ hp)).1,hc,by unfold PySem.W.notCls; rw [hd],by rw [h1]; exact ho⟩
  exact zbL I1.kIn J M.ga M.ha M.sb (PySem.W.findObj_own hh hn rfl (by rw [hl,hu])) (jK ru) ⟨v,H1,I1.tok _,ru,q⟩
theorem QL (hp:(e,oe)∈X.pn) (M:XCl X.K C f) (hn:PySem.W.findIn X.K (.ref C) name=some none) (hh:PySem.W.hasDictIn X.K C=true) (he:jE X ex te) (hb:attributeBase ex name X.env (eval ex X.env)=eval ex X.env:=by rfl) :
    jE X (.Attribute ex name pos) (zaR C e oe te name):=⟨QK hp M hn hh he.out hb⟩
end
section
variable {X:Cx} {Ch:Addr} {x n:Str} {i k:Nat} {np hpos tpos:Pos} {b0:Stmt} {suite:List Stmt} {th:Addr->Obj->TS} {ps:List Str} {sp:Sp} {y:Str} {p cpos epos:Pos} {a:Expr} {as:List Expr} {t:TA}
end
end L2
namespace L2
open PySem PySem.Spec PyProof.Rows
section
variable {P:Program} {w:World} {A:Around} {E:Value->Shared->Prop}
theorem zaS {j l:Addr} {xs:Array Value} (ne:l≠j):∀ (k i:Nat) (s:Shared) (Q:List Value->Shared->Prop),s.heap.IsListIter j l i->s.heap.IsList l xs->i + k<=xs.size ->
    (∀ h',h'.IsListIter j l (i + k)->Heap.SameBut j s.heap h'->Q ((xs.toList.drop i).take k) { s with heap:=h' })->wpAny (model P w) A (draw (.ref j) k) Q E s
  | 0,i,s,Q,hj,_,_,q=>wpAny_pure (by simpa using q s.heap hj (Heap.SameBut.refl ..))
  | k + 1,i,s,Q,hj,hl,le,q=>by
    have lt:i < xs.size:=by lia
    refine wpAny_bind (m:=pyNext (.ref j)) (wpAny_pyNext_list_item hj hl (Array.getElem?_eq_getElem lt) fun h1 j1 u1=>?_)
    refine wpAny_bind (wpAny_holding (zaS ne k (i + 1) _ _ j1 (hl.extBut u1.extBut ne) (by lia) fun h2 j2 u2=>wpAny_pure ?_))
    have e:xs.toList.drop i=xs[i] :: xs.toList.drop (i + 1):=by simp [List.drop_eq_getElem_cons,lt]
    have r:=q h2 (by rw [show i + (k + 1)=i + 1 + k by lia]; exact j2) (u1.trans u2)
    rw [e,List.take_succ_cons] at r
    exact r
theorem QM {s:Shared} {l:Addr} {xs:Array Value} {ts:List (Bool × (Value->Sem Unit))} {Q:Unit->Shared->Prop} (hA:A.handled=none) (hl:s.heap.IsList l xs) (hn:ts.length=xs.size) (hs:ts.findIdx? (·.1)=none)
    (q:∀ h',Heap.ExtBut s.heap.objs.size s.heap h'->wpAny (model P w) A (assignInOrder (ts.map (·.2)) xs.toList) Q E { s with heap:=h' }):wpAny (model P w) A (unpack (.ref l) ts) Q E s:=by
  have ne:l≠s.heap.objs.size:=by
    obtain ⟨o,ho,_⟩:=hl
    exact Nat.ne_of_lt (Heap.lt_size ho)
  unfold unpack
  rw [hn,hs]
  refine wpAny_bind (wpAny_holding ?_)
  unfold unpackItems
  refine wpAny_bind ?_
  unfold notIterableAtAll
  refine wpAny_bind (wpAny_specialOf hl.typeIs slot_list_iter.lookup (wpAny_pure ?_))
  simp only [Bool.false_eq_true,if_false]
  refine wpAny_bind (wpAny_holding (wpAny_pyIter_list hl ?_))
  refine wpAny_bind (wpAny_holding (zaS ne xs.size 0 _ _ ⟨_,Heap.get?_push_size _ rfl,rfl,rfl⟩ (hl.push _) (by lia) fun h1 j1 u1=>?_))
  have all:List.take xs.size (List.drop 0 xs.toList)=xs.toList:=by rw [List.drop_zero]; exact List.take_of_length_le (by simp)
  rw [all,if_neg (by simp)]
  refine wpAny_bind (wpAny_holding (wpAny_pyNext_list_end hA j1 ((hl.push _).extBut u1.extBut ne) (by simp) fun h2 e2=>?_))
  simp only [Option.isSome_none,Bool.false_eq_true,if_false]
  exact wpAny_pure (q h2 fun b o hb e=>e2 b o hb (u1.extBut b o hb (Heap.get?_push_of_some _ e)))
end
section
variable {X:Cx} {pos:Pos}
def gLst (K:PySem.W.Frag) (n:Nat) (t:TGs):TG:=fun v σ H Q=>∃ a xs,v=.ref a/\SqL K H a xs/\xs.length=n/\t xs σ H Q
theorem zbS {es:List Expr} {k:Nat} {t:TGs} {n:Nat} (hc:X.calm=true) (h:PGs X es t)
    (hn:(assignEach es X.env).length=n:=by rfl) (hst:(assignEach es X.env).findIdx? (·.1)=none:=by rfl):PG X (.Tuple es k pos) (gLst X.K n t):=by
  intro pins s σ H v u Q I r g
  obtain ⟨a,xs,rfl,hq,hl,g⟩:=g
  cases r
  obtain ⟨its,rv,p,hz⟩:=I.list hq
  rw [assign_Tuple]
  refine wpAny_bind (wpAny_standAt (QM (I.ok.hd hc) p.isList (by simp [hn,<- hl,rv.length]) hst fun h' hx=>?_))
  have I1:Inv X pins σ H { s with heap:=h' }:=I.kept (t':=s.toks) fun b o e=>hx b o (Nat.ne_of_lt (Heap.lt_size e)) e
  exact h pins _ σ H xs _ Q I1 (by simpa using rv) g
theorem zbT {es:List Expr} {k:Nat} {gs:TGs} {n:Nat} (hc:X.calm=true) (h:jGs X es gs) (hn:(assignEach es X.env).length=n:=by rfl) (hst:(assignEach es X.env).findIdx? (·.1)=none:=by rfl):jG X (.Tuple es k pos) (gLst X.K n gs):=⟨zbS hc h.out hn hst⟩
end
end L2
namespace L2
open PySem
theorem zcD:sizeLine=16777216:=by decide
theorem YS {u:Value} {x:V} (h:absV u=some x):RelV x u:=by
  cases u <;> first
    | (cases h; rfl)
    | (cases h; exact ⟨_,rfl⟩)
    | (cases h)
theorem vm:∀ {us:List Value} {xs:List V},us.map absV=xs.map some->Vals xs us
  | [],[],_=>.nil
  | [],_ :: _,h=>by cases h
  | _ :: _,[],h=>by cases h
  | u :: us,x :: xs,h=>by
    rw [List.map_cons,List.map_cons] at h
    injection h with h1 h2
    exact .cons (YS h1) (vm h2)
def FnIn (K:PySem.W.Frag) (x qual:Str) (st:Stmt) (f:Addr):Prop:=∃ (oc:Value) (od:Option Addr) (kV doc pm:Value) (an:Option Addr) (cdv ct:Value) (osl:Array (Option Value)),K.lookup f=some ⟨oc,od,.func (PySem.W.fnOf x qual (yM st) (yx st) (zn st) .none kV doc pm an cdv ct),osl⟩/\PySem.W.codeIn K cdv qual=true/\PySem.W.keepIn K (.ref f)=true
theorem FnIn.fn {K:PySem.W.Frag} {x qual:Str} {st:Stmt} {f:Addr} (h:FnIn K x qual st f):∃ fd,Fun K x qual st f fd/\PySem.W.keepIn K (.ref f)=true:=by
  obtain ⟨_,_,_,_,_,_,_,_,_,l,c,k⟩:=h
  exact ⟨_,Vv l c k,k⟩
def DfIn (K:PySem.W.Frag) (x:Str) (st:Stmt):Prop:=∃ f,PySem.W.nsIn K mainGlobals x=some (some (.ref f))/\FnIn K x x st f
def MeIn (K:PySem.W.Frag) (C:Addr) (x qual:Str) (st:Stmt):Prop:=∃ f,PySem.W.findIn K (.ref C) x=some (some (.ref f))/\PySem.W.isFn K (.ref f)=true/\FnIn K x qual st f
def TpIn (K:PySem.W.Frag) (x:Str) (l:List Str):Prop:=∃ (a:Addr) (d:Option Addr) (it:Array Value) (n:Nat) (sl:Array (Option Value)),PySem.W.nsIn K mainGlobals x=some (some (.ref a))/\K.lookup a=some ⟨.type "tuple",d,.seq it n,sl⟩/\it.toList.map absV=l.map fun x=>some (.str x)
theorem TpIn.sq {K:PySem.W.Frag} {x:Str} {l:List Str} (h:TpIn K x l) (hl:l.length<=100):∃ a,PySem.W.nsIn K mainGlobals x=some (some (.ref a))/\∀ H:Hp,SqT K H a (l.map V.str):=by
  obtain ⟨a,d,it,n,sl,h1,h2,h3⟩:=h
  refine ⟨a,h1,fun H=>.inr ⟨_,it,n,h2,rfl,rfl,?_,vm (by rw [h3,List.map_map]; rfl)⟩⟩
  have e:=congrArg List.length h3
  rw [List.length_map,List.length_map,Array.length_toList] at e
  have sl:=zcD
  lia
theorem MeIn.me {P:Program} {w:World} {K:PySem.W.Frag} {mg:Str->Option Value} {base:Heap} {CX:CXT} {k:Nat} {C:Addr} {x qual:Str} {st:Stmt} {ps:List Str} {sp:Sp} (h:MeIn K C x qual st) (hb:∀ (kV doc pm:Value) (an:Option Addr) (cdv ct:Value) (us:List Value),us.length=ps.length->bindArgs (PySem.W.fnOf x qual (yM st) (yx st) (zn st) .none kV doc pm an cdv ct) ⟨us,[]⟩=pure (ps.zip us))
    (ok:∀ f fd,Fun K x qual st f fd->FnOk P w K mg base CX k f fd ps sp):Me P w K mg base CX k C x ps sp:=by
  obtain ⟨f,a,n,g⟩:=h
  obtain ⟨fd,F,kp⟩:=g.fn
  exact ⟨f,fd,ok f fd F,F.binds hb,a,n,kp⟩
theorem MeIn.ma {P:Program} {w:World} {K:PySem.W.Frag} {mg:Str->Option Value} {base:Heap} {CX:CXT} {k:Nat} {C:Addr} {x qual:Str} {st:Stmt} {ps:List Str} {sp:Sp} (h:MeIn K C "__init__" qual st) (hb:∀ (kV doc pm:Value) (an:Option Addr) (cdv ct:Value) (us:List Value),us.length=ps.length->bindArgs (PySem.W.fnOf "__init__" qual (yM st) (yx st) (zn st) .none kV doc pm an cdv ct) ⟨us,[]⟩=pure (ps.zip us))
    (mk:PySem.W.makesIn K C=true) (kp:PySem.W.keepIn K (.ref C)=true) (hm:mg x=some (.ref C)) (ok:∀ f fd,Fun K "__init__" qual st f fd->FnOk P w K mg base CX k f fd ps sp):Ma P w K mg base CX k x C ps sp:=by
  obtain ⟨f,a,n,g⟩:=h
  obtain ⟨fd,F,_⟩:=g.fn
  exact ⟨f,fd,⟨mk,a,n,kp⟩,ok f fd F,F.binds hb,hm⟩
theorem DfIn.ca {P:Program} {w:World} {K:PySem.W.Frag} {mg:Str->Option Value} {base h:Heap} {CX:CXT} {k:Nat} {x:Str} {st:Stmt} {ps:List Str} {sp:Sp} (X:K.In h) (G:h.Ns mainGlobals mg) (d:DfIn K x st) (hb:∀ (kV doc pm:Value) (an:Option Addr) (cdv ct:Value) (us:List Value),us.length=ps.length->bindArgs (PySem.W.fnOf x x (yM st) (yx st) (zn st) .none kV doc pm an cdv ct) ⟨us,[]⟩=pure (ps.zip us))
    (ok:∀ f fd,Fun K x x st f fd->FnOk P w K mg base CX k f fd ps sp):Ca P w K mg base CX k x ps sp:=by
  obtain ⟨f,a,g⟩:=d
  obtain ⟨fd,F,kp⟩:=g.fn
  exact ⟨f,fd,ok f fd F,F.binds hb,kp,PySem.W.mg_of X G a⟩
theorem DfIn.mk {K:PySem.W.Frag} {x:Str} {st:Stmt} {f:Addr} {oc:Value} {od:Option Addr} {kV doc pm:Value} {an:Option Addr} {cdv ct:Value} {osl:Array (Option Value)} (a:PySem.W.nsIn K mainGlobals x=some (some (.ref f))) (l:K.lookup f=some ⟨oc,od,.func (PySem.W.fnOf x x (yM st) (yx st) (zn st) .none kV doc pm an cdv ct),osl⟩) (c:PySem.W.codeIn K cdv x=true) (k:PySem.W.keepIn K (.ref f)=true):DfIn K x st:=⟨f,a,oc,od,kV,doc,pm,an,cdv,ct,osl,l,c,k⟩
theorem MeIn.mk {K:PySem.W.Frag} {C:Addr} {x qual:Str} {st:Stmt} {f:Addr} {oc:Value} {od:Option Addr} {kV doc pm:Value} {an:Option Addr} {cdv ct:Value} {osl:Array (Option Value)} (a:PySem.W.findIn K (.ref C) x=some (some (.ref f))) (l:K.lookup f=some ⟨oc,od,.func (PySem.W.fnOf x qual (yM st) (yx st) (zn st) .none kV doc pm an cdv ct),osl⟩) (c:PySem.W.codeIn K cdv qual=true) (k:PySem.W.keepIn K (.ref f)=true) (n:PySem.W.isFn K (.ref f)=true):MeIn K C x qual st:=⟨f,a,n,oc,od,kV,doc,pm,an,cdv,ct,osl,l,c,k⟩
theorem TpIn.mk {K:PySem.W.Frag} {x:Str} {l:List Str} {b:Addr} {d:Option Addr} {it:Array Value} {n:Nat} {sl:Array (Option Value)} (a:PySem.W.nsIn K mainGlobals x=some (some (.ref b))) (k:K.lookup b=some ⟨.type "tuple",d,.seq it n,sl⟩) (v:it.toList.map absV=l.map fun x=>some (.str x)):TpIn K x l:=⟨b,d,it,n,sl,a,k,v⟩
theorem GlIn.mk {K:PySem.W.Frag} {x:Str} {z:Str} {v:Value} {t:Tok} (a:PySem.W.nsIn K mainGlobals x=some (some v)) (e:v=.str z t):∃ t,PySem.W.nsIn K mainGlobals x=some (some (.str z t)):=⟨t,by rw [a,e]⟩
theorem GiIn.mk {K:PySem.W.Frag} {x:Str} {i:Int} {v:Value} {t:Tok} (a:PySem.W.nsIn K mainGlobals x=some (some v)) (e:v=.int i t):∃ t,PySem.W.nsIn K mainGlobals x=some (some (.int i t)):=⟨t,by rw [a,e]⟩
theorem XcIn.mk {K:PySem.W.Frag} {C f:Addr} (a:PySem.W.findIn K (.ref C) "__init__"=some (some (.ref f))) (b:xIn K C f=true) (c:PySem.W.typeIn K (.ref f)=some (.type "function")):∃ f,PySem.W.findIn K (.ref C) "__init__"=some (some (.ref f))/\xIn K C f=true/\PySem.W.typeIn K (.ref f)=some (.type "function"):=⟨f,a,b,c⟩
structure OwnIn (K:PySem.W.Frag) (x:Str) (C:Addr):Prop where
  n:PySem.W.nsIn K mainGlobals x=some (some (.ref C))
  pg:PySem.W.plainGet K C Str.empty=true
  hd:PySem.W.hasDictIn K C=true
  po:PySem.W.plainOver K C=true
  sa:PySem.W.findIn K (.ref C) "__setattr__"=some (some (.builtin "object.__setattr__"))
  mks:PySem.W.makesIn K C=true
  kp:PySem.W.keepIn K (.ref C)=true
theorem OwnIn.cls {K:PySem.W.Frag} {x:Str} {C:Addr} (o:OwnIn K x C):Cls K C:=⟨o.pg,o.hd,o.po,o.sa⟩
def j0 (K:PySem.W.Frag):Sp:=fun vs H Q _=>∃ (a:Addr) (ns:List Int),vs=[.ref a]/\SqL K H a (ns.map V.int)/\ns.length<=63/\∀ H',Q (.bl true) H'
theorem zbU {l:PySem.W.OpenLaw} {w:World} {K:PySem.W.Frag} {h:Heap} {mg:Str->Option Value} {fa:Addr} {st:Stmt} {k:Nat} (d:DfIn K "law" st) (X:K.In h) (G:h.Ns mainGlobals mg) (hfa:mg "law"=some (.ref fa))
    (hb:∀ (kV doc pm:Value) (an:Option Addr) (cdv ct:Value) (s:Shared) (u:Value),BindsTo s (PySem.W.fnOf "law" "law" (yM st) (yx st) (zn st) .none kV doc pm an cdv ct) ⟨[u],[]⟩ [("_law_script",u)])
    (ok:∀ (base:Heap) (fd:FuncData),Fun K "law" "law" st fa fd->FnOk l.prog w K mg base CX0 k fa fd ["_law_script"] (j0 K)) :
    ∃ fd:FuncData,(∀ (s:Shared) (u:Value),BindsTo s fd ⟨[u],[]⟩ [("_law_script",u)])/\∀ base:Heap,K.In base->base.Ns mainGlobals mg->FnOk l.prog w K mg base CX0 k fa fd ["_law_script"] (j0 K):=by
  obtain ⟨fl,al,oc,od,kV,doc,pm,an,cdv,ct,osl,lk,cc,kk⟩:=d
  have e:fl=fa:=by
    have:=PySem.W.mg_of X G al
    rw [hfa] at this
    injection this with this
    injection this with this
    exact this.symm
  subst e
  exact ⟨_,fun s v=>hb _ _ _ _ _ _ s v,fun base _ _=>ok base _ (Vv (st:=st) lk cc kk)⟩
theorem walk1 {l:PySem.W.OpenLaw} {q:Program} {loose:List Str} {XP:(Str->Option Value)->Heap->Prop} {YP:World->Heap->Prop} {d:DefRec} {K:Params->PySem.W.Frag} {k:Nat} (hn:l.most=some 63) (hr:Room k callerA) (hdf:d.params.defaults=[]) (hnm:d.name="law")
    (hY:∀ (w:World) (h:Heap),YP w h->(K w.params).In h)
    (F:∀ (w:World) (mg:Str->Option Value) (fa:Addr) (h:Heap),(K w.params).In h->h.Ns mainGlobals mg->mg "law"=some (.ref fa)->∃ fd:FuncData,(∀ (s:Shared) (u:Value),BindsTo s fd ⟨[u],[]⟩ [("_law_script",u)])/\∀ base:Heap,(K w.params).In base->base.Ns mainGlobals mg->FnOk l.prog w (K w.params) mg base CX0 k fa fd ["_law_script"] (j0 (K w.params))) :
    PySem.W.WalkO q loose XP YP l.row.toRowW d [] (fun f vs=>PySem.call f vs) :=
  L2.walk_of (n:=63) (k:=k) (x:="_law_script") (CX:=fun _=>CX0) (sp:=fun w=>j0 (K w.params)) hn (by decide) hdf hr hY (fun w mg fa h X G hm=>F w mg fa h X G (by rw [hnm] at hm; exact hm)) (fun _ _ a ns hl _ hS=>⟨a,ns,rfl,hS,hl,fun _=>rfl⟩) fun _ _ _ _ _ z=>z
end L2
namespace L2
open PySem
theorem usS {n:Nat} {p:List Value->Prop} (h:∀ a us,us.length=n->p (a :: us)):∀ us:List Value,us.length=n + 1->p us:=fun us=>by
  cases us with
  | nil=>exact fun e=>by cases e
  | cons a r=>exact fun e=>h a r (Nat.succ.inj e)
theorem us1 {p:List Value->Prop} (h:∀ a,p [a]):∀ us:List Value,us.length=1->p us:=usS fun a us e=>by rw [List.length_eq_zero_iff.mp e]; exact h a
theorem us2 {p:List Value->Prop} (h:∀ a b,p [a,b]):∀ us:List Value,us.length=2->p us:=usS fun a=>us1 (p:=fun l=>p (a :: l)) (h a)
theorem us3 {p:List Value->Prop} (h:∀ a b c,p [a,b,c]):∀ us:List Value,us.length=3->p us:=usS fun a=>us2 (p:=fun l=>p (a :: l)) (h a)
end L2
namespace K11
open PySem
def sg (c:Nat):Str:=⟨#[c]⟩
def inS (c j:Str):Bool:=!(Builtin.Str.occurrences j c 0 j.length 1).isEmpty
def signs (z:Str):List Str:=z.cps.toList.map sg
def yU (z j:Str):Bool:=(signs z).all (inS · j)
theorem x4 (z:Str):(signs z).length=z.length:=by simp [signs,Str.length]
theorem YT {α:Type} (p:α->Bool) (l:List α):decide ((l.filter p).length=l.length)=l.all p:=by
  rw [Bool.eq_iff_iff,decide_eq_true_iff,List.length_filter_eq_length_iff,List.all_eq_true]
theorem xC (x:Str) (d:Nat):Txt.startswith x (sg d)=(x.cps[0]? == some d):=by
  obtain ⟨⟨l⟩⟩:=x
  cases l with
  | nil=>simp [Txt.startswith,Str.length,sg]
  | cons c r=>simp [Txt.startswith,Builtin.Str.subAt,sg,Str.length]
theorem QN (n:Nat):Builtin.Str.strSliceIndices none (some 1) 1 n=List.range (min 1 n):=by
  cases n with
  | zero=>decide
  | succ n =>
    have e1:min ((1:Nat)) (n + 1)=1:=by lia
    rw [e1]
    unfold Builtin.Str.strSliceIndices sliceRange
    have e2:(if (0:Int) < max 0 (min 1 ((n:Int) + 1)) then max 0 (min 1 ((n:Int) + 1)) else 0).toNat=1:=by
      have e3:max (0:Int) (min 1 ((n:Int) + 1))=1:=by lia
      rw [e3]; rfl
    simp
    rw [e2]
    rfl
theorem WH (z:Str) (d:Nat):decide (Txt.slice z none (some 1)=sg d)=(z.cps[0]? == some d):=by
  obtain ⟨⟨l⟩⟩:=z
  unfold Txt.slice
  rw [QN]
  cases l with
  | nil=>simp [Str.length,sg]
  | cons c r =>
    have e1:min 1 (Str.length ⟨⟨c :: r⟩⟩)=1:=by
      simp [Str.length]
      try lia
    rw [e1]
    cases r with
    | nil=>simp [Str.length,sg,Bool.beq_eq_decide_eq]
    | cons c' r=>simp [Str.length,sg,List.range_succ,Bool.beq_eq_decide_eq]
end K11
namespace K11
open PySem PySem.Spec PyProof.Rows Builtin Builtin.Str
abbrev cl (z:Str):List Nat:=z.cps.toList
theorem y7 {x y:Str} (h:cl x=cl y):x=y:=by
  obtain ⟨⟨a⟩⟩:=x
  obtain ⟨⟨b⟩⟩:=y
  have e:a=b:=h
  rw [e]
theorem ye (z:Str):(cl z).length=z.length:=by simp [Str.length]
theorem YU (x y:Str):cl (x ++ y)=cl x ++ cl y:=by
  show (x.cps ++ y.cps).toList=_
  simp
theorem inS_iff {c:Nat} {j:Str}:inS (sg c) j=true↔c∈cl j:=by
  unfold inS sg
  rw [StrLaws.found_iff]
  constructor
  · rintro ⟨i,h⟩
    exact List.mem_of_getElem? ((StrLaws.subAt_one j c i).mp h)
  · intro h
    obtain ⟨i,hi⟩:=List.getElem?_of_mem h
    exact ⟨i,(StrLaws.subAt_one j c i).mpr hi⟩
theorem madeOf_iff {z j:Str}:yU z j=true↔∀ c∈cl z,c∈cl j:=by
  unfold yU signs
  rw [List.all_eq_true]
  constructor
  · intro h c hc
    exact inS_iff.mp (h _ (List.mem_map.mpr ⟨c,hc,rfl⟩))
  · intro h x hx
    obtain ⟨c,hc,rfl⟩:=List.mem_map.mp hx
    exact inS_iff.mpr (h c hc)
def yn (n:Nat):Option Int->Nat->Nat
  | none,d=>d
  | some i,_=>if i < 0 then (i + n).toNat else min i.toNat n
theorem wE {n:Nat} {o:Option Int} {d:Nat} (hd:d<=n):yn n o d<=n:=by
  cases o with
  | none=>exact hd
  | some i =>
    show (if i < 0 then (i + n).toNat else min i.toNat n)<=n
    by_cases c:i < 0
    · rw [if_pos c]; lia
    · rw [if_neg c]; lia
theorem XS {n:Nat} {i:Int}:max 0 (min (if i < 0 then i + n else i) (n:Int))=((yn n (some i) 0:Nat):Int):=by
  show _=(((if i < 0 then (i + n).toNat else min i.toNat n):Nat):Int)
  by_cases c:i < 0
  · rw [if_pos c,if_pos c]; lia
  · rw [if_neg c,if_neg c]; lia
theorem vA {n a:Nat} (h:a<=n):max 0 (min (if (a:Int) < 0 then (a:Int) + n else (a:Int)) (n:Int))=(a:Int):=by
  rw [if_neg (by lia)]; lia
theorem QO (n:Nat) (lo hi:Option Int):strSliceIndices lo hi 1 n=strSliceIndices (some (yn n lo 0:Nat)) (some (yn n hi n:Nat)) 1 n:=by
  have h1:yn n lo 0<=n:=wE (Nat.zero_le _)
  have h2:yn n hi n<=n:=wE (Nat.le_refl _)
  unfold strSliceIndices
  dsimp only
  simp only [show ((1:Int) > 0)=True from eq_true (by decide),if_true]
  rw [vA h1,vA h2]
  congr 1
  · cases lo with
    | none=>rfl
    | some i=>exact XS
  · cases hi with
    | none=>rfl
    | some i=>exact XS
theorem VJ {a b n:Nat} (h:b < a) (ha:a<=n):strSliceIndices (some (a:Int)) (some (b:Int)) 1 n=[]:=by
  unfold strSliceIndices
  dsimp only
  simp only [show ((1:Int) > 0)=True from eq_true (by decide),if_true]
  rw [vA ha,vA (by lia)]
  unfold sliceRange
  have c:¬ ((a:Int) < b):=by lia
  simp [c]
theorem vR (z:Str) (lo hi:Option Int):cl (Txt.slice z lo hi)=((cl z).drop (yn z.length lo 0)).take (yn z.length hi z.length - yn z.length lo 0):=by
  have h1:yn z.length lo 0<=z.length:=wE (Nat.zero_le _)
  have h2:yn z.length hi z.length<=z.length:=wE (Nat.le_refl _)
  unfold Txt.slice
  rw [QO z.length lo hi]
  have zl:=ye z
  by_cases c:yn z.length lo 0<=yn z.length hi z.length
  · have e:=StrLaws.sliced_plain z c h2
    have el:(strSliceIndices (some (yn z.length lo 0:Nat)) (some (yn z.length hi z.length:Nat)) 1 z.length).length=yn z.length hi z.length - yn z.length lo 0:=by rw [StrLaws.strSliceIndices_plain c h2]; simp
    rw [el]
    by_cases q:yn z.length hi z.length - yn z.length lo 0=z.length
    · rw [if_pos (by simp [q])]
      have a0:yn z.length lo 0=0:=by lia
      rw [a0,List.drop_zero,List.take_of_length_le (by lia)]
    · rw [if_neg (by simp [q])]
      simpa using e
  · have n0:yn z.length hi z.length - yn z.length lo 0=0:=by lia
    rw [VJ (by lia) h1,n0,List.take_zero]
    rw [if_neg (by simp; lia)]
    rfl
theorem zW {sep x y:Str} {r:List Str}:cl (Str.join sep (x :: y :: r))=cl x ++ (cl sep ++ cl (Str.join sep (y :: r))):=by
  show cl (x ++ sep ++ Str.join sep (y :: r))=_
  rw [YU,YU,List.append_assoc]
theorem vS {c:Nat}:∀ {a b r t:List Nat},c ∉ a->c ∉ b->a ++ c :: r=b ++ c :: t->a=b/\r=t
  | [],[],_,_,_,_,h=>by simpa using h
  | [],y :: b,_,_,_,hb,h=>by
    injection h with h1 _
    exact absurd h1 (fun e=>hb (by rw [e]; exact List.mem_cons_self))
  | x :: a,[],_,_,ha,_,h=>by
    injection h with h1 _
    exact absurd h1.symm (fun e=>ha (by rw [e]; exact List.mem_cons_self))
  | x :: a,y :: b,r,t,ha,hb,h=>by
    injection h with h1 h2
    obtain ⟨e1,e2⟩:=vS (fun z=>ha (List.mem_cons_of_mem _ z)) (fun z=>hb (List.mem_cons_of_mem _ z)) h2
    exact ⟨by rw [h1,e1],e2⟩
theorem Z4 {c:Nat}:∀ {ps qs:List Str},ps≠[]->qs≠[]->(∀ p∈ps,c ∉ cl p)->(∀ q∈qs,c ∉ cl q)->Str.join (sg c) ps=Str.join (sg c) qs->ps=qs
  | [],_,h,_,_,_,_=>absurd rfl h
  | _,[],_,h,_,_,_=>absurd rfl h
  | [p],[q],_,_,_,_,h=>by
    have h':p=q:=h
    rw [h']
  | [p],q :: q2 :: qs,_,_,hp,_,h=>by
    have e:=congrArg cl h
    rw [zW] at e
    have e':cl p=cl q ++ ([c] ++ cl (Str.join (sg c) (q2 :: qs))):=e
    exact absurd (show c∈cl p by rw [e']; simp) (hp p List.mem_cons_self)
  | p :: p2 :: ps,[q],_,_,_,hq,h=>by
    have e:=congrArg cl h
    rw [zW] at e
    have e':cl p ++ ([c] ++ cl (Str.join (sg c) (p2 :: ps)))=cl q:=e
    exact absurd (show c∈cl q by rw [<- e']; simp) (hq q List.mem_cons_self)
  | p :: p2 :: ps,q :: q2 :: qs,_,_,hp,hq,h=>by
    have e:=congrArg cl h
    rw [zW,zW] at e
    obtain ⟨e1,e2⟩:=vS (c:=c) (hp p List.mem_cons_self) (hq q List.mem_cons_self) e
    have ih:=Z4 (c:=c) (ps:=p2 :: ps) (qs:=q2 :: qs) (by simp) (by simp) (fun x hx=>hp x (List.mem_cons_of_mem _ hx)) (fun x hx=>hq x (List.mem_cons_of_mem _ hx)) (y7 e2)
    rw [y7 e1,ih]
theorem vT {c:Nat} {ws:List Str} (h0:ws≠[]) (hw:∀ x∈ws,c ∉ cl x):Txt.split (Str.join (sg c) ws) (sg c)=ws:=by
  refine Z4 (c:=c) (fun e=>?_) h0 (StrLaws.split_free _ c) hw (StrLaws.join_split _ _)
  have:=split_pos (Str.join (sg c) ws) (sg c)
  rw [e] at this
  simp at this
theorem Z5 {c d:Nat}:∀ {ws:List Str},d∈cl (Str.join (sg c) ws)->d=c\/∃ x∈ws,d∈cl x
  | [],h=>by
    have h':d∈([]:List Nat):=h
    cases h'
  | [x],h=>.inr ⟨x,List.mem_cons_self,h⟩
  | x :: y :: r,h=>by
    rw [zW] at h
    rcases List.mem_append.mp h with h | h
    · exact .inr ⟨x,List.mem_cons_self,h⟩
    · rcases List.mem_append.mp h with h | h
      · exact .inl (List.mem_singleton.mp h)
      · rcases Z5 h with h | ⟨z,hz,hd⟩
        · exact .inl h
        · exact .inr ⟨z,List.mem_cons_of_mem _ hz,hd⟩
theorem Z6 {c:Nat}:∀ {ws:List Str} {vs:List Str},ws≠[]->vs≠[]->cl (Str.join (sg c) (ws ++ vs))=cl (Str.join (sg c) ws) ++ c :: cl (Str.join (sg c) vs)
  | [],_,h,_=>absurd rfl h
  | [x],v :: vs,_,_=>by
    show cl (Str.join (sg c) (x :: v :: vs))=_
    rw [zW]
    rfl
  | x :: y :: r,vs,_,hv=>by
    have ih:=Z6 (c:=c) (ws:=y :: r) (vs:=vs) (by simp) hv
    show cl (Str.join (sg c) (x :: y :: (r ++ vs)))=_
    rw [zW,zW]
    have e:cl (Str.join (sg c) (y :: (r ++ vs)))=_:=ih
    rw [e]
    simp
theorem Z7 {c:Nat}:∀ {ws:List Str} {k:Nat},(∀ x∈ws,x.length<=k)->(Str.join (sg c) ws).length<=ws.length * (k + 1)
  | [],_,_=>by simp [Str.join,Str.length]; rfl
  | [x],k,h=>by
    have:=h x List.mem_cons_self
    show x.length<=_
    simp; lia
  | x :: y :: r,k,h=>by
    have h1:=h x List.mem_cons_self
    have ih:=Z7 (c:=c) (ws:=y :: r) (k:=k) fun z hz=>h z (List.mem_cons_of_mem _ hz)
    rw [<- ye,zW,List.length_append,List.length_append,ye,ye,ye]
    have:(sg c).length=1:=rfl
    simp only [List.length_cons,Nat.add_mul,Nat.one_mul] at ih ⊢
    lia
end K11
namespace K11
open PySem PySem.Spec PyProof.Rows Builtin Builtin.Str NumText
theorem Z8 (m:Nat):AllDigits ((Nat.toDigits 10 m).map Char.toNat):=by
  induction m using Nat.strongRecOn with
  | _ m ih =>
    by_cases h:m < 10
    · rw [Nat.toDigits_of_lt_base h]
      intro c hc
      rw [List.map_singleton,List.mem_singleton] at hc
      have:∀ d:Nat,d < 10->48<=(Nat.digitChar d).toNat/\(Nat.digitChar d).toNat<=57:=by decide
      rw [hc]
      exact this m h
    · rw [Nat.toDigits_of_base_le (by decide) (by lia),List.map_append]
      intro c hc
      rcases List.mem_append.mp hc with hc | hc
      · exact ih (m / 10) (by lia) c hc
      · rw [List.map_singleton,List.mem_singleton] at hc
        have:∀ d:Nat,d < 10->48<=(Nat.digitChar d).toNat/\(Nat.digitChar d).toNat<=57:=by decide
        rw [hc]
        exact this (m % 10) (Nat.mod_lt _ (by decide))
theorem j3 (m:Nat) (h0:m≠0):∃ c r,(Nat.toDigits 10 m).map Char.toNat=c :: r/\49<=c:=by
  induction m using Nat.strongRecOn with
  | _ m ih =>
    by_cases h:m < 10
    · rw [Nat.toDigits_of_lt_base h]
      have:∀ d:Nat,d < 10->d≠0->49<=(Nat.digitChar d).toNat:=by decide
      exact ⟨_,[],rfl,this m h h0⟩
    · obtain ⟨c,r,e,hc⟩:=ih (m / 10) (by lia) (by lia)
      rw [Nat.toDigits_of_base_le (by decide) (by lia),List.map_append,e]
      exact ⟨c,_,rfl,hc⟩
theorem VL (m:Nat):cl (Str.ofString (toString ((m:Nat):Int)))=(Nat.toDigits 10 m).map Char.toNat:=PySem.W.KIN.signs_num m
theorem VM (m:Nat):cl (Str.ofString (toString (Int.negSucc m)))=45 :: (Nat.toDigits 10 (m + 1)).map Char.toNat:=by
  show (Str.ofString ("-" ++ Nat.repr (m + 1))).cps.toList=_
  rw [Str.ofString_eq_toList]
  show ("-" ++ Nat.repr (m + 1)).toList.map Char.toNat=_
  rw [String.toList_append,List.map_append]
  show [45] ++ (String.ofList (Nat.toDigits 10 (m + 1))).toList.map Char.toNat=_
  rw [String.toList_ofList]
  rfl
end K11
namespace L2
open PySem PySem.Spec PyProof.Rows
section
variable {X:Cx}
theorem jB:CallR X (.type "int") (fun xs H Q=>∃ z n,xs=[.str z]/\PySem.intText? z=some n/\z.length<=640/\Q (.int n) H):=by
  intro pins s σ H xs us Q I r h
  obtain ⟨z,n,rfl,hn,hl,q⟩:=h
  obtain ⟨u,rfl,t,rfl⟩:=xK r
  exact PySem.W.KIN.call_text hn hl ⟨.int n,H,I.tok _,⟨_,rfl⟩,q⟩
theorem vn:jCa X (.type "int") (fun xs H Q=>∃ z n,xs=[.str z]/\PySem.intText? z=some n/\z.length<=640/\Q (.int n) H):=⟨jB⟩
end
end L2
namespace Rdr
open PySem L2
def top (i:Nat):Stmt:=PySem.Challenge.pw_reusewise_k16_just_the_rows.main.body.getD i (.Pass ⟨0,0,0,0⟩)
abbrev Zv:Stmt:=yp (top 2) 0
abbrev VN:Stmt:=top 11
abbrev VO:Stmt:=top 12
abbrev Zw:Stmt:=top 13
abbrev YV:Stmt:=yp (top 17) 0
abbrev Zx:Stmt:=yp (top 17) 1
abbrev vU:Stmt:=yp (top 17) 2
abbrev wP:Stmt:=yp (top 17) 3
abbrev wQ:Stmt:=yp (top 17) 4
abbrev xR:Stmt:=yp (top 17) 5
abbrev wR:Stmt:=yp (top 17) 6
abbrev YW:Stmt:=yp (top 17) 7
abbrev Zy:Stmt:=yp (top 17) 8
abbrev YX:Stmt:=yp (top 18) 0
abbrev YY:Stmt:=yp (top 18) 1
abbrev YZ:Stmt:=yp (top 19) 0
abbrev Y0:Stmt:=yp (top 19) 1
abbrev Y1:Stmt:=yp (top 20) 0
abbrev Y2:Stmt:=yp (top 20) 1
abbrev VP:Stmt:=top 21
abbrev wS:Stmt:=top 22
abbrev wT:Stmt:=top 23
abbrev vV:Stmt:=top 24
abbrev wU:Stmt:=top 25
abbrev Y3:Stmt:=top 26
abbrev wV:Stmt:=top 27
abbrev wW:Stmt:=top 28
abbrev Zz:Stmt:=top 38
abbrev Y4:Stmt:=top 39
abbrev ZA:Stmt:=top 40
abbrev vW:Stmt:=top 41
abbrev Y5:Stmt:=top 42
abbrev Y6:Stmt:=top 43
abbrev VQ:Stmt:=top 44
abbrev Y7:Stmt:=top 45
abbrev Y8:Stmt:=top 46
abbrev Y9:Stmt:=top 30
abbrev vX:Stmt:=top 31
abbrev ZB:Stmt:=top 32
abbrev vY:Stmt:=top 33
abbrev Xb:Stmt:=top 34
abbrev Xc:Stmt:=top 35
end Rdr
namespace Rd
open PySem
inductive D where
  | int (i:Int)
  | str (x:Str)
  | tup (ds:List D)
structure Lex where
  nm:Str->Bool
  nu:Str->Bool
  iv:Str->Int
  dg:Str->Option Nat
def OPS:List Str:=["plus","minus","times","over","rest","less","same"]
def DEEDS:List Str:=["make","call","func","ask"]
def «strs» (l:List Str):D:=.tup (l.map D.str)
section
variable (L:Lex)
def zr:List Str->Option (Str × List Str)
  | []=>none
  | w :: r=>if L.nm w=true then some (w,r) else none
def yc:List Str->Option (Int × List Str)
  | []=>none
  | w :: r=>if L.nu w=true then some (L.iv w,r) else none
def zO (stop:Str):List Str->List Str->Option (List Str × List Str)
  | _,[]=>none
  | acc,w :: r=>if w=stop then some (acc,r) else if acc.length < 9/\L.nm w=true then zO stop (acc ++ [w]) r else none
def deed:List Str->Option (D × List Str)
  | []=>none
  | w :: r =>
    if w="num" then (yc L r).map fun p=>(.tup [.str "num",.int p.1],p.2)
    else if w∈OPS then (zr L r).bind fun p=>(zr L p.2).map fun q=>(.tup [.str "op",.str w,.str p.1,.str q.1],q.2)
    else if w∈DEEDS then (zr L r).bind fun p=>(zO L ";" [] p.2).map fun q=>(.tup [.str w,.str p.1,«strs» q.1],q.2)
    else none
def head (ws:List Str):Option ((Str × List Str) × List Str):=(zr L ws).bind fun p=>(zO L ":" [] p.2).map fun q=>((p.1,q.1),q.2)
inductive Fr where
  | lt (x:Str) (d:D)
  | if0 (x:Str)
  | if1 (x:Str) (b:D)
  | cs (x:Str) (arms:List D) (tag:Str) (names:List Str)
structure S where
  begun:List Fr
  body:Option D
  ws:List Str
def zU (st:List Fr):List Str->Option S
  | []=>none
  | w :: r =>
    if w="give" then (zr L r).map fun p=>⟨st,some (.tup [.str "give",.str p.1]),p.2⟩
    else if w="let" then (zr L r).bind fun p=>(deed L p.2).map fun q=>⟨.lt p.1 q.1 :: st,none,q.2⟩
    else if w="if" then (zr L r).map fun p=>⟨.if0 p.1 :: st,none,p.2⟩
    else if w="case" then (zr L r).bind fun p=>(head L p.2).map fun q=>⟨.cs p.1 [] q.1.1 q.1.2 :: st,none,q.2⟩
    else none
def fill (b:D) (st:List Fr):Fr->List Str->Option S
  | .lt x d,ws=>some ⟨st,some (.tup [.str "let",.str x,d,b]),ws⟩
  | .if0 x,ws=>match ws with
    | []=>none
    | w :: r=>if w="else" then some ⟨.if1 x b :: st,none,r⟩ else none
  | .if1 x a,ws=>some ⟨st,some (.tup [.str "if",.str x,a,b]),ws⟩
  | .cs x arms tag names,ws =>
    let arms':=arms ++ [.tup [.str tag,«strs» names,b]]
    match ws with
    | []=>none
    | w :: r=>if w="end" then some ⟨st,some (.tup [.str "case",.str x,.tup arms']),r⟩
      else if arms'.length < 20 then (head L (w :: r)).map fun q=>⟨.cs x arms' q.1.1 q.1.2 :: st,none,q.2⟩ else none
def step (s:S):Option S:=match s.body,s.begun with
  | none,st=>zU L st s.ws
  | some b,f :: st=>fill L b st f s.ws
  | some _,[]=>none
inductive Runs:Nat->S->Option (D × List Str)->Prop
  | done {b:D} {ws:List Str}:Runs 0 ⟨[],some b,ws⟩ (some (b,ws))
  | turn {n:Nat} {s s':S} {r:Option (D × List Str)}:(s.body=none\/s.begun≠[])->step L s=some s'->Runs n s' r->Runs (n + 1) s r
  | fail {s:S}:(s.body=none\/s.begun≠[])->step L s=none->Runs 0 s none
theorem yk {ws r more:List Str} {x:Str} (h:zr L ws=some (x,r)):zr L (ws ++ more)=some (x,r ++ more):=by
  cases ws with
  | nil=>cases h
  | cons w t =>
    unfold zr at h ⊢
    dsimp only at h ⊢
    split at h
    · rename_i q; cases h; simp [q]
    · cases h
theorem vZ {ws r more:List Str} {x:Int} (h:yc L ws=some (x,r)):yc L (ws ++ more)=some (x,r ++ more):=by
  cases ws with
  | nil=>cases h
  | cons w t =>
    unfold yc at h ⊢
    dsimp only at h ⊢
    split at h
    · rename_i q; cases h; simp [q]
    · cases h
theorem wX {stop:Str} {more:List Str}:∀ {ws acc ns r:List Str},zO L stop acc ws=some (ns,r)->zO L stop acc (ws ++ more)=some (ns,r ++ more)
  | [],acc,ns,r,h=>by cases h
  | w :: t,acc,ns,r,h=>by
    rw [List.cons_append]
    unfold zO at h ⊢
    split at h
    · rename_i q; cases h; simp [q]
    · rename_i q
      rw [if_neg q]
      split at h
      · rename_i q2; rw [if_pos q2]; exact wX h
      · cases h
theorem Z9 {ws r more:List Str} {d:D} (h:deed L ws=some (d,r)):deed L (ws ++ more)=some (d,r ++ more):=by
  cases ws with
  | nil=>cases h
  | cons w t =>
    rw [List.cons_append]
    unfold deed at h ⊢
    dsimp only at h ⊢
    split at h
    · rename_i q
      rw [if_pos q]
      obtain ⟨⟨n,r'⟩,h1,h2⟩:=Option.map_eq_some_iff.mp h
      cases h2
      rw [vZ L h1]; rfl
    · rename_i q
      rw [if_neg q]
      split at h
      · rename_i q
        rw [if_pos q]
        obtain ⟨⟨a,r1⟩,h1,h⟩:=Option.bind_eq_some_iff.mp h
        obtain ⟨⟨b,r2⟩,h2,h3⟩:=Option.map_eq_some_iff.mp h
        cases h3
        rw [yk L h1]
        simp only [Option.bind_some]
        rw [yk L h2]; rfl
      · rename_i q
        rw [if_neg q]
        split at h
        · rename_i q
          rw [if_pos q]
          obtain ⟨⟨a,r1⟩,h1,h⟩:=Option.bind_eq_some_iff.mp h
          obtain ⟨⟨b,r2⟩,h2,h3⟩:=Option.map_eq_some_iff.mp h
          cases h3
          rw [yk L h1]
          simp only [Option.bind_some]
          rw [wX L h2]; rfl
        · cases h
theorem Ya {ws r more:List Str} {p:Str × List Str} (h:head L ws=some (p,r)):head L (ws ++ more)=some (p,r ++ more):=by
  unfold head at h ⊢
  obtain ⟨⟨a,r1⟩,h1,h⟩:=Option.bind_eq_some_iff.mp h
  obtain ⟨⟨b,r2⟩,h2,h3⟩:=Option.map_eq_some_iff.mp h
  cases h3
  rw [yk L h1]
  simp only [Option.bind_some]
  rw [wX L h2]; rfl
theorem VR {s s':S} {more:List Str} (h:step L s=some s'):step L ⟨s.begun,s.body,s.ws ++ more⟩=some ⟨s'.begun,s'.body,s'.ws ++ more⟩:=by
  obtain ⟨st,b,ws⟩:=s
  unfold step at h ⊢
  cases b with
  | none =>
    dsimp only at h ⊢
    cases ws with
    | nil=>cases h
    | cons w t =>
      rw [List.cons_append]
      unfold zU at h ⊢
      dsimp only at h ⊢
      split at h
      · rename_i q
        rw [if_pos q]
        obtain ⟨⟨a,r1⟩,h1,h2⟩:=Option.map_eq_some_iff.mp h
        cases h2
        rw [yk L h1]; rfl
      · rename_i q
        rw [if_neg q]
        split at h
        · rename_i q
          rw [if_pos q]
          obtain ⟨⟨a,r1⟩,h1,h⟩:=Option.bind_eq_some_iff.mp h
          obtain ⟨⟨d,r2⟩,h2,h3⟩:=Option.map_eq_some_iff.mp h
          cases h3
          rw [yk L h1]
          simp only [Option.bind_some]
          rw [Z9 L h2]; rfl
        · rename_i q
          rw [if_neg q]
          split at h
          · rename_i q
            rw [if_pos q]
            obtain ⟨⟨a,r1⟩,h1,h2⟩:=Option.map_eq_some_iff.mp h
            cases h2
            rw [yk L h1]; rfl
          · rename_i q
            rw [if_neg q]
            split at h
            · rename_i q
              rw [if_pos q]
              obtain ⟨⟨a,r1⟩,h1,h⟩:=Option.bind_eq_some_iff.mp h
              obtain ⟨⟨d,r2⟩,h2,h3⟩:=Option.map_eq_some_iff.mp h
              cases h3
              rw [yk L h1]
              simp only [Option.bind_some]
              rw [Ya L h2]; rfl
            · cases h
  | some b =>
    cases st with
    | nil=>cases h
    | cons f st =>
      dsimp only at h ⊢
      cases f with
      | lt x d=>cases h; rfl
      | if1 x a=>cases h; rfl
      | if0 x =>
        cases ws with
        | nil=>cases h
        | cons w t =>
          rw [List.cons_append]
          unfold fill at h ⊢
          dsimp only at h ⊢
          split at h
          · rename_i q; cases h; rw [if_pos q]
          · cases h
      | cs x arms tag names =>
        cases ws with
        | nil=>cases h
        | cons w t =>
          rw [List.cons_append]
          unfold fill at h ⊢
          dsimp only at h ⊢
          split at h
          · rename_i q; cases h; rw [if_pos q]
          · rename_i q
            rw [if_neg q]
            split at h
            · rename_i q2
              rw [if_pos q2]
              obtain ⟨⟨p,r1⟩,h1,h2⟩:=Option.map_eq_some_iff.mp h
              cases h2
              have e:=Ya L (more:=more) h1
              rw [List.cons_append] at e
              rw [e]; rfl
            · cases h
theorem Runs.app {n:Nat} {s:S} {d:D} {r more:List Str} (h:Runs L n s (some (d,r))):Runs L n ⟨s.begun,s.body,s.ws ++ more⟩ (some (d,r ++ more)):=by
  generalize hr:some (d,r)=x at h
  induction h with
  | done=>cases hr; exact .done
  | turn hh hs _ ih=>exact .turn hh (VR L hs) (ih hr)
  | fail=>cases hr
theorem yf {ws r:List Str} {x:Str} (h:zr L ws=some (x,r)):ws.length=r.length + 1:=by
  cases ws with
  | nil=>cases h
  | cons w t =>
    unfold zr at h
    dsimp only at h
    split at h
    · cases h; rfl
    · cases h
theorem v5 {ws r:List Str} {x:Int} (h:yc L ws=some (x,r)):ws.length=r.length + 1:=by
  cases ws with
  | nil=>cases h
  | cons w t =>
    unfold yc at h
    dsimp only at h
    split at h
    · cases h; rfl
    · cases h
theorem wY {stop:Str}:∀ {ws acc ns r:List Str},zO L stop acc ws=some (ns,r)->r.length < ws.length
  | [],acc,ns,r,h=>by cases h
  | w :: t,acc,ns,r,h=>by
    unfold zO at h
    split at h
    · cases h; exact Nat.lt_succ_self _
    · split at h
      · exact Nat.lt_succ_of_lt (wY h)
      · cases h
theorem deed_len {ws r:List Str} {d:D} (h:deed L ws=some (d,r)):r.length < ws.length:=by
  cases ws with
  | nil=>cases h
  | cons w t =>
    unfold deed at h
    dsimp only at h
    split at h
    · obtain ⟨⟨n,r'⟩,h1,h2⟩:=Option.map_eq_some_iff.mp h
      cases h2
      have:=v5 L h1
      dsimp only at *
      rw [List.length_cons]; lia
    · split at h
      · obtain ⟨⟨a,r1⟩,h1,h⟩:=Option.bind_eq_some_iff.mp h
        obtain ⟨⟨b,r2⟩,h2,h3⟩:=Option.map_eq_some_iff.mp h
        cases h3
        have:=yf L h1
        have:=yf L h2
        dsimp only at *
        rw [List.length_cons]; lia
      · split at h
        · obtain ⟨⟨a,r1⟩,h1,h⟩:=Option.bind_eq_some_iff.mp h
          obtain ⟨⟨b,r2⟩,h2,h3⟩:=Option.map_eq_some_iff.mp h
          cases h3
          have:=yf L h1
          have:=wY L h2
          dsimp only at *
          rw [List.length_cons]; lia
        · cases h
theorem head_len {ws r:List Str} {p:Str × List Str} (h:head L ws=some (p,r)):r.length < ws.length:=by
  unfold head at h
  obtain ⟨⟨a,r1⟩,h1,h⟩:=Option.bind_eq_some_iff.mp h
  obtain ⟨⟨b,r2⟩,h2,h3⟩:=Option.map_eq_some_iff.mp h
  cases h3
  have:=yf L h1
  have:=wY L h2
  dsimp only at *
  lia
structure LexOk (L:Lex):Prop where
  kept:∀ w∈(["def","kind","give","let","if","else","case","end","num","=",":",";"]:List Str) ++ OPS ++ DEEDS,L.nm w=false
variable {L} (ok:LexOk L)
theorem v6 {stop:Str} (hs:L.nm stop=false):∀ {ns acc r:List Str},(∀ x∈ns,L.nm x=true)->acc.length + ns.length<=9->zO L stop acc (ns ++ stop :: r)=some (acc ++ ns,r)
  | [],acc,r,_,_=>by simp [zO]
  | x :: ns,acc,r,h,hl=>by
    have hx:=h x List.mem_cons_self
    have ne:x≠stop:=fun z=>by rw [z,hs] at hx; cases hx
    have ln:acc.length < 9:=by rw [List.length_cons] at hl; lia
    rw [List.cons_append]
    unfold zO
    rw [if_neg ne,if_pos ⟨ln,hx⟩,v6 hs (fun y hy=>h y (List.mem_cons_of_mem _ hy)) (by rw [List.length_append,List.length_cons,List.length_nil]; rw [List.length_cons] at hl; lia)]
    simp
theorem yW {x:Str} {r:List Str} (h:L.nm x=true):zr L (x :: r)=some (x,r):=by simp [zr,h]
include ok
theorem XT {t:Str} {ns r:List Str} (ht:L.nm t=true) (hn:∀ x∈ns,L.nm x=true) (hl:ns.length<=9):head L (t :: (ns ++ (":":Str) :: r))=some ((t,ns),r):=by
  unfold head
  rw [yW ht]
  simp only [Option.bind_some]
  rw [v6 (ok.kept _ (by decide)) hn (by simpa using hl)]
  rfl
theorem zbV {x:Str} {r:List Str} (h:L.nu x=true):deed L ("num" :: x :: r)=some (.tup [.str "num",.int (L.iv x)],r):=by
  unfold deed
  dsimp only
  rw [if_pos rfl]
  simp [yc,h]
theorem zcE {w a b:Str} {r:List Str} (hw:w∈OPS) (ha:L.nm a=true) (hb:L.nm b=true):deed L (w :: a :: b :: r)=some (.tup [.str "op",.str w,.str a,.str b],r):=by
  unfold deed
  dsimp only
  rw [if_neg (fun z=>by rw [z] at hw; revert hw; decide),if_pos hw,yW ha]
  simp only [Option.bind_some]
  rw [yW hb]
  rfl
theorem VS {w g:Str} {ns r:List Str} (hw:w∈DEEDS) (hg:L.nm g=true) (hn:∀ x∈ns,L.nm x=true) (hl:ns.length<=9):deed L (w :: g :: (ns ++ (";":Str) :: r))=some (.tup [.str w,.str g,«strs» ns],r):=by
  unfold deed
  dsimp only
  rw [if_neg (fun z=>by rw [z] at hw; revert hw; decide),if_neg (fun z=>by revert hw z; simp only [OPS,DEEDS,List.mem_cons,List.not_mem_nil,or_false]; rintro (rfl | rfl | rfl | rfl) <;> decide),if_pos hw,yW hg]
  simp only [Option.bind_some]
  rw [v6 (ok.kept _ (by decide)) hn (by simpa using hl)]
  rfl
omit ok
inductive Goes (L:Lex):Nat->S->S->Prop
  | here {s:S}:Goes L 0 s s
  | turn {n:Nat} {s s1 s2:S}:(s.body=none\/s.begun≠[])->step L s=some s1->Goes L n s1 s2->Goes L (n + 1) s s2
theorem Goes.trans {n m:Nat} {a b c:S} (h:Goes L n a b) (g:Goes L m b c):∃ k,Goes L k a c:=by
  induction h with
  | here=>exact ⟨m,g⟩
  | turn h1 h2 _ ih =>
    obtain ⟨k,q⟩:=ih g
    exact ⟨k + 1,.turn h1 h2 q⟩
theorem Goes.runs {n m:Nat} {a b:S} {r:Option (D × List Str)} (h:Goes L n a b) (g:Runs L m b r):∃ k,Runs L k a r:=by
  induction h with
  | here=>exact ⟨m,g⟩
  | turn h1 h2 _ ih =>
    obtain ⟨k,q⟩:=ih g
    exact ⟨k + 1,.turn h1 h2 q⟩
def BodyOk (L:Lex) (ws:List Str) (b:D):Prop:=∀ (st:List Fr) (rest:List Str),∃ n,Goes L n ⟨st,none,ws ++ rest⟩ ⟨st,some b,rest⟩
theorem BodyOk.runs {ws:List Str} {b:D} (h:BodyOk L ws b) (rest:List Str):∃ n,Runs L n ⟨[],none,ws ++ rest⟩ (some (b,rest)):=by
  obtain ⟨n,g⟩:=h [] rest
  exact g.runs .done
theorem WJ {x:Str} (hx:L.nm x=true):BodyOk L ["give",x] (.tup [.str "give",.str x]):=fun st rest=>by
  refine ⟨1,.turn (.inl rfl) (s1:=⟨st,some (.tup [.str "give",.str x]),rest⟩) ?_ .here⟩
  show zU L st ("give" :: x :: rest)=_
  unfold zU
  dsimp only
  rw [if_pos rfl,yW hx]
  rfl
theorem VT {x:Str} {dw bw:List Str} {d b:D} (hx:L.nm x=true) (hd:deed L dw=some (d,[])) (hb:BodyOk L bw b):BodyOk L ("let" :: x :: (dw ++ bw)) (.tup [.str "let",.str x,d,b]):=fun st rest=>by
  obtain ⟨n,g⟩:=hb (.lt x d :: st) rest
  have s1:step L ⟨st,none,("let":Str) :: x :: (dw ++ bw) ++ rest⟩=some ⟨.lt x d :: st,none,bw ++ rest⟩:=by
    show zU L st ("let" :: x :: ((dw ++ bw) ++ rest))=_
    unfold zU
    dsimp only
    rw [if_neg (by decide),if_pos rfl,yW hx]
    simp only [Option.bind_some]
    rw [List.append_assoc,Z9 L hd]
    rfl
  exact (Goes.turn (.inl rfl) s1 .here).trans ((g.trans (.turn (.inr (by simp)) rfl .here)).choose_spec) |> fun ⟨k,q⟩=>⟨k,q⟩
theorem QP {x:Str} {aw bw:List Str} {a b:D} (hx:L.nm x=true) (ha:BodyOk L aw a) (hb:BodyOk L bw b):BodyOk L ("if" :: x :: (aw ++ ("else":Str) :: bw)) (.tup [.str "if",.str x,a,b]):=fun st rest=>by
  obtain ⟨n,g⟩:=ha (.if0 x :: st) (("else":Str) :: bw ++ rest)
  obtain ⟨m,g2⟩:=hb (.if1 x a :: st) rest
  have s1:step L ⟨st,none,("if":Str) :: x :: (aw ++ ("else":Str) :: bw) ++ rest⟩=some ⟨.if0 x :: st,none,aw ++ (("else":Str) :: bw ++ rest)⟩:=by
    show zU L st ("if" :: x :: ((aw ++ ("else":Str) :: bw) ++ rest))=_
    unfold zU
    dsimp only
    rw [if_neg (by decide),if_neg (by decide),if_pos rfl,yW hx]
    simp
  have s2:step L ⟨.if0 x :: st,some a,("else":Str) :: bw ++ rest⟩=some ⟨.if1 x a :: st,none,bw ++ rest⟩:=by
    show fill L a st (.if0 x) ("else" :: (bw ++ rest))=_
    unfold fill
    dsimp only
    rw [if_pos rfl]
  have e1:=(g2.trans (.turn (.inr (by simp)) rfl .here)).choose_spec
  have e2:=((Goes.turn (.inr (by simp)) s2 .here).trans e1).choose_spec
  have e3:=(g.trans e2).choose_spec
  exact ⟨_,((Goes.turn (.inl rfl) s1 .here).trans e3).choose_spec⟩
structure Arm where
  tag:Str
  names:List Str
  bw:List Str
  b:D
def Arm.words (a:Arm):List Str:=a.tag :: (a.names ++ (":":Str) :: a.bw)
def Arm.dat (a:Arm):D:=.tup [.str a.tag,«strs» a.names,a.b]
structure Arm.Ok (L:Lex) (a:Arm):Prop where
  tag:L.nm a.tag=true
  names:∀ x∈a.names,L.nm x=true
  few:a.names.length<=9
  body:BodyOk L a.bw a.b
include ok
theorem XU {x:Str} {st:List Fr} {rest:List Str}:∀ (more:List Arm) (a:Arm) (done:List D),a.Ok L->(∀ c∈more,c.Ok L)->done.length + 1 + more.length<=20 ->
    ∃ n,Goes L n ⟨.cs x done a.tag a.names :: st,none,a.bw ++ (more.flatMap Arm.words ++ ("end":Str) :: rest)⟩ ⟨st,some (.tup [.str "case",.str x,.tup (done ++ a.dat :: more.map Arm.dat)]),rest⟩
  | [],a,done,ha,_,_=>by
    obtain ⟨n,g⟩:=ha.body (.cs x done a.tag a.names :: st) ("end" :: rest)
    have s1:step L ⟨.cs x done a.tag a.names :: st,some a.b,("end":Str) :: rest⟩=some ⟨st,some (.tup [.str "case",.str x,.tup (done ++ [a.dat])]),rest⟩:=by
      show fill L a.b st (.cs x done a.tag a.names) ("end" :: rest)=_
      unfold fill
      dsimp only
      rw [if_pos rfl]
      rfl
    exact ⟨_,(g.trans (.turn (.inr (by simp)) s1 .here)).choose_spec⟩
  | c :: more,a,done,ha,hm,hl=>by
    obtain ⟨n,g⟩:=ha.body (.cs x done a.tag a.names :: st) (c.tag :: (c.names ++ (":":Str) :: (c.bw ++ (more.flatMap Arm.words ++ ("end":Str) :: rest))))
    have hc:=hm c List.mem_cons_self
    obtain ⟨m,g2⟩:=XU more c (done ++ [a.dat]) hc (fun y hy=>hm y (List.mem_cons_of_mem _ hy)) (by rw [List.length_append,List.length_cons,List.length_nil]; rw [List.length_cons] at hl; lia)
    have ne:c.tag≠"end":=fun z=>by
      have:=hc.tag
      rw [z,ok.kept "end" (by decide)] at this
      cases this
    have s1:step L ⟨.cs x done a.tag a.names :: st,some a.b,c.tag :: (c.names ++ (":":Str) :: (c.bw ++ (more.flatMap Arm.words ++ ("end":Str) :: rest)))⟩=some ⟨.cs x (done ++ [a.dat]) c.tag c.names :: st,none,c.bw ++ (more.flatMap Arm.words ++ ("end":Str) :: rest)⟩:=by
      unfold step
      dsimp only
      unfold fill
      dsimp only
      rw [if_neg ne,if_pos (by rw [List.length_append,List.length_cons,List.length_nil]; rw [List.length_cons] at hl; lia),XT ok hc.tag hc.names hc.few]
      rfl
    have e1:=((Goes.turn (.inr (by simp)) s1 .here).trans g2).choose_spec
    have e2:=(g.trans e1).choose_spec
    have w1:(c :: more).flatMap Arm.words ++ ("end":Str) :: rest=c.tag :: (c.names ++ (":":Str) :: (c.bw ++ (more.flatMap Arm.words ++ ("end":Str) :: rest))):=by
        simp [Arm.words,List.flatMap_cons]
    rw [w1]
    have w2:done ++ a.dat :: (c :: more).map Arm.dat=(done ++ [a.dat]) ++ c.dat :: more.map Arm.dat:=by simp
    rw [w2]
    exact ⟨_,e2⟩
theorem WK {x:Str} {a:Arm} {more:List Arm} (hx:L.nm x=true) (ha:a.Ok L) (hm:∀ c∈more,c.Ok L) (hl:1 + more.length<=20) :
    BodyOk L ("case" :: x :: ((a :: more).flatMap Arm.words ++ [("end":Str)])) (.tup [.str "case",.str x,.tup ((a :: more).map Arm.dat)]):=fun st rest=>by
  obtain ⟨n,g⟩:=XU ok (x:=x) (st:=st) (rest:=rest) more a [] ha hm (by simpa using hl)
  have s1:step L ⟨st,none,("case":Str) :: x :: ((a :: more).flatMap Arm.words ++ [("end":Str)]) ++ rest⟩=some ⟨.cs x [] a.tag a.names :: st,none,a.bw ++ (more.flatMap Arm.words ++ ("end":Str) :: rest)⟩:=by
    have w1:("case":Str) :: x :: ((a :: more).flatMap Arm.words ++ [("end":Str)]) ++ rest=("case":Str) :: x :: a.tag :: (a.names ++ (":":Str) :: (a.bw ++ (more.flatMap Arm.words ++ ("end":Str) :: rest))):=by
      simp [Arm.words,List.flatMap_cons]
    rw [w1]
    unfold step
    dsimp only
    unfold zU
    dsimp only
    rw [if_neg (by decide),if_neg (by decide),if_neg (by decide),if_pos rfl,yW hx]
    simp only [Option.bind_some]
    rw [XT ok ha.tag ha.names ha.few]
    rfl
  exact ⟨_,((Goes.turn (.inl rfl) s1 .here).trans g).choose_spec⟩
end
end Rd
namespace Rdr
open PySem L2 K11
theorem zi {H:Hp} {p:Addr} (h:H p=none) (o:HO):Same H (upd H p o):=fun b u q=>by rw [zk (zo q h)]; exact q
theorem line:sizeLine=16777216:=by decide
theorem v7 {α β:Type} {l:List α} {i:Nat} {x:α} (f:α->β) (h:l[i]?=some x):(l.take i).map f ++ [f x]=(l.take (i + 1)).map f:=by
  rw [List.take_add_one,h,List.map_append]
  rfl
theorem ZC {z:Str} {i c:Nat} (h:z.cps[i]?=some c):(signs z)[i]?=some (sg c):=by
  unfold signs
  rw [List.getElem?_map,Array.getElem?_toList,h]
  rfl
section
variable {P:Program} {w:World} {K:PySem.W.Frag} {mg:Str->Option Value} {base:Heap} {f:Addr} {fd:FuncData}
def Xd:Sp:=fun vs H Q _=>∃ z j:Str,vs=[.str z,.str j]/\z.length<=1000/\∀ H',Same H H'->Q (.bl (yU z j)) H'
theorem zbW:FnScope ["word","signs"] ["word","signs"] (zn VN):=⟨rfl,rfl,rfl,by decide +kernel,rfl,by decide +kernel,by decide +kernel⟩
theorem zbX:(["word","signs","sign"]:List Str).Nodup:=by decide +kernel
theorem QQ (F:Fun K "made_of" "made_of" VN f fd) (mA:mg "all"=none):FnOk P w K mg base CX0 1 f fd ["word","signs"] Xd:=by
  refine F.by zbW (fun vs H Q E h=>?_) (fun cdv A outer s H vs Q E hr h=>?_)
  · obtain ⟨z,j,rfl,_⟩:=h
    rfl
  obtain ⟨z,j,rfl,hz,q⟩:=h
  refine ⟨_,zh (zq (zK (Zt rfl) rfl mA PyProof.Rows.boot_all (ja_c (vy ["sign"] rfl (YN rfl (jv 0))
    (fun _ _ _ _ _=>zF (i:=2) zbX rfl (Or.inl rfl)) (fun _ _ _ _ _=>vx) (fun _ _ _ _ _=>yg xY (jv 2) (jv 1) (by with_unfolding_all rfl))) ze))),?_⟩
  have hl:=x4 z
  have hs:=line
  refine ⟨_,rfl,z,rfl,YL (fun i τ ys H'=>H'=H/\(∃ v,τ=[some (.str z),some (.str j),v])/\ys=((signs z).take i).map fun c=>V.bl (inS c j)) ⟨rfl,⟨none,rfl⟩,rfl⟩ ?_ ?_⟩
  · rintro i c τ ys H' hc ⟨rfl,⟨v,rfl⟩,rfl⟩
    refine ⟨_,rfl,_,rfl,_,_,rfl,rfl,?_,rfl,⟨_,rfl⟩,?_⟩
    · rw [List.length_map,List.length_take]
      lia
    · exact v7 (fun c=>V.bl (inS c j)) (ZC hc)
  · rintro τ ys H' ⟨rfl,_,rfl⟩ p hp
    refine ⟨p,(signs z).map (inS · j),rfl,SqL.of ?_,?_⟩
    · rw [zc,List.take_of_length_le (by rw [hl]; exact Nat.le_refl _),List.map_map]
      rfl
    · have e:((signs z).map (inS · j)).all id=yU z j:=by
        unfold yU
        rw [List.all_map]
        rfl
      have r:=q _ (zi hp (.lst (((signs z).take z.cps.size).map fun c=>V.bl (inS c j))))
      rw [<- e] at r
      exact r
end
def KEPT:List Str:=["def","kind","give","let","if","else","case","end","num","plus","minus","times","over","rest","less","same","make","call","func","ask"]
def LETS:Str:="abcdefghijklmnopqrstuvwxyz"
def FIGS:Str:="0123456789"
def yZ (z:Str) (n:Int):Bool:=decide ((1:Int)<=(z.length:Nat)) && decide (((z.length:Nat):Int)<=n)
def zx (z:Str):Bool:=yZ z 12 && (yU z LETS && !inV (.str z) (KEPT.map V.str))
def zA (z:Str):Str:=if Txt.startswith z "-"=true then Txt.slice z (some 1) none else z
def zH (z:Str):Bool:=if (!yZ (zA z) 30 || !yU (zA z) FIGS)=true then false else decide (V.str z=V.str "0") || !Txt.startswith (zA z) "0"
theorem Yb (z:Str):(zA z).length<=z.length:=by
  unfold zA
  split
  · exact Txt.slice_le _ _ _
  · exact Nat.le_refl _
theorem wZ:(KEPT.map V.str).all wz=true:=by decide +kernel
def v9:Sp:=fun vs H Q _=>∃ z:Str,vs=[.str z]/\z.length<=1000/\∀ H',Same H H'->Q (.bl (zx z)) H'
def wF:Sp:=fun vs H Q _=>∃ z:Str,vs=[.str z]/\z.length<=1000/\∀ H',Same H H'->Q (.bl (zH z)) H'
section
variable {P:Program} {w:World} {K:PySem.W.Frag} {mg:Str->Option Value} {base:Heap} {f g g2 a:Addr} {fd gd gd2:FuncData} {t1 t2 t3 t4:Tok}
theorem zbY:FnScope ["word"] ["word"] (zn VO):=⟨rfl,rfl,rfl,by decide +kernel,rfl,by decide +kernel,by decide +kernel⟩
theorem QR (F:Fun K "is_name" "is_name" VO f fd) (G:FnOk P w K mg base CX0 1 g gd ["word","signs"] Xd) (bG:Binds K gd ["word","signs"] []) (kG:PySem.W.keepIn K (.ref g)=true) (mG:mg "made_of"=some (.ref g)) (ml:mg "len"=none)
    (mL:mg "LETTERS"=some (.str LETS t1)) (mM:mg "MOST_LETTERS"=some (.int 12 t2)) (mK:mg "KEPT_WORDS"=some (.ref a)) (hK:∀ H:Hp,SqT K H a (KEPT.map V.str)):FnOk P w K mg base CX0 2 f fd ["word"] v9:=by
  refine F.by zbY (fun vs H Q E h=>?_) (fun cdv A outer s H vs Q E hr h=>?_)
  · obtain ⟨z,rfl,_⟩:=h
    rfl
  obtain ⟨z,rfl,hz,q⟩:=h
  refine ⟨_,zh (zq (xx (ZX yX yX zg (zK yA rfl ml PySem.boot_len (ja_c (jv 0) ze)) (yV (v:=.int 12) rfl mM ⟨_,rfl⟩))
    (xx (Vz G hr rfl mG kG bG .nil zJ (ja_c (jv 0) (ja_c (yV (v:=.str LETS) rfl mL ⟨_,rfl⟩) ze))) (wo (yg y6 (jv 0) (yV (v:=.ref a) rfl mK rfl) (by with_unfolding_all rfl)))))),?_⟩
  have hs:=line
  have no:∀ {H':Hp},Same H H'->zx z=false->Q (.bl false) H':=fun sm e=>by
    have r:=q _ sm
    rw [e] at r
    exact r
  refine ⟨_,rfl,z,rfl,by lia,_,_,rfl,rfl,_,rfl,?_⟩
  refine ite2 (fun c1=>?_) (fun c1=>?_)
  · refine ⟨_,_,rfl,rfl,_,rfl,?_⟩
    refine ite2 (fun c2=>?_) (fun c2=>?_)
    · refine ⟨_,rfl,z,LETS,rfl,hz,fun H1 s1=>⟨_,rfl,?_⟩⟩
      refine ite2 (fun c3=>?_) (fun c3=>?_)
      · refine ⟨_,rfl,a,_,rfl,.inr (hK _),rfl,wZ,?_⟩
        have r:=q _ s1
        unfold zx yZ at r
        rw [c1,c2,c3] at r
        exact r
      · refine no s1 ?_
        unfold zx
        rw [Bool.eq_false_iff.mpr c3,Bool.false_and,Bool.and_false]
    · refine no (Same.refl _) ?_
      unfold zx yZ
      rw [Bool.eq_false_iff.mpr c2,Bool.and_false,Bool.false_and]
  · refine ⟨_,rfl,iteF ?_⟩
    refine no (Same.refl _) ?_
    unfold zx yZ
    rw [Bool.eq_false_iff.mpr c1,Bool.false_and,Bool.false_and]
theorem scNumber:FnScope ["word","figures"] ["word"] (zn Zw):=⟨rfl,rfl,rfl,by decide +kernel,rfl,by decide +kernel,by decide +kernel⟩
theorem WL (F:Fun K "is_number" "is_number" Zw f fd) (G:FnOk P w K mg base CX0 1 g gd ["word","signs"] Xd) (bG:Binds K gd ["word","signs"] []) (kG:PySem.W.keepIn K (.ref g)=true) (mG:mg "made_of"=some (.ref g)) (ml:mg "len"=none)
    (mF:mg "FIGURES"=some (.str FIGS t1)) (mM:mg "MOST_FIGURES"=some (.int 30 t2)):FnOk P w K mg base CX0 2 f fd ["word"] wF:=by
  refine F.by scNumber (fun vs H Q E h=>?_) (fun cdv A outer s H vs Q E hr h=>?_)
  · obtain ⟨z,rfl,_⟩:=h
    rfl
  obtain ⟨z,rfl,hz,q⟩:=h
  refine ⟨_,zd (zu (i:=1) scNumber.nd rfl (Or.inl rfl) (ZY (yw (zZ PySem.F.plainAttrs_str PySem.F.slot_str_startswith PySem.F.type_str_startswith wf (jv 0) (ja_c zj ze))) (zD wq (jv 0) (zI zg) zR) (jv 0)))
    (zd (zC (jW.pt (yQ (yz (yN yX yX zg (zK yA rfl ml PySem.boot_len (ja_c (jv 1) ze)) (yV (v:=.int 30) rfl mM ⟨_,rfl⟩)))
      (yD (yz (yw (Vz G hr rfl mG kG bG .nil zJ (ja_c (jv 1) (ja_c (yV (v:=.str FIGS) rfl mF ⟨_,rfl⟩) ze)))))))) (zh (zq xN)) zv)
    (zh (zq (zaO (yg z7 (jv 0) zj (zw _)) (wo (YM (zZ PySem.F.plainAttrs_str PySem.F.slot_str_startswith PySem.F.type_str_startswith wf (jv 1) (ja_c zj ze)))))))),?_⟩
  have hs:=line
  have hfl:=Yb z
  have no:∀ {H':Hp},Same H H'->zH z=false->Q (.bl false) H':=fun sm e=>by
    have r:=q _ sm
    rw [e] at r
    exact r
  suffices rest:∀ (y:Str),y=zA z->(tSeq _ _:TS) { nx:=fun _ H'=>Q .non H',rt:=Q } [some (.str z),some (.str y)] H by
    refine ⟨_,rfl,rfl,_,_,rfl,rfl,_,rfl,?_⟩
    refine ite2 (fun c=>?_) (fun c=>?_)
    · refine ⟨_,rfl,_,rfl,z,rfl,by lia,?_⟩
      exact rest _ (by unfold zA; rw [if_pos (show Txt.startswith z "-"=true from c)])
    · refine ⟨_,rfl,?_⟩
      exact rest _ (by unfold zA; rw [if_neg (show ¬ Txt.startswith z "-"=true from c)])
  rintro y rfl
  refine ⟨_,rfl,zA z,rfl,by lia,_,_,rfl,rfl,_,rfl,?_⟩
  refine ite2 (fun c1=>?_) (fun c1=>?_)
  · have c1':decide ((1:Int)<=((zA z).length:Nat))=true:=c1
    refine ⟨_,_,rfl,rfl,_,rfl,?_⟩
    cases c2:decide ((((zA z).length:Nat):Int)<=30) with
    | false =>
      refine iteT (iteT ?_)
      refine no (Same.refl _) ?_
      unfold zH yZ
      rw [c2,Bool.and_false]
      rfl
    | true =>
      refine iteF ?_
      refine ⟨_,rfl,zA z,FIGS,rfl,by lia,fun H1 s1=>⟨_,rfl,?_⟩⟩
      cases c3:yU (zA z) FIGS with
      | false =>
        refine iteT ?_
        refine no s1 ?_
        unfold zH
        rw [c3]
        simp
      | true =>
        refine iteF ?_
        have fin:∀ v,(decide (V.str z=V.str "0") || !Txt.startswith (zA z) "0")=v->Q (.bl v) H1:=fun v e=>by
          have r:=q _ s1
          have e2:zH z=v:=by
            unfold zH yZ
            rw [c1',c2,c3]
            exact e
          rw [e2] at r
          exact r
        refine ⟨_,rfl,rfl,_,rfl,?_⟩
        refine ite2 (fun c4=>?_) (fun c4=>?_)
        · exact fin true (by rw [show decide (V.str z=V.str "0")=true from c4,Bool.true_or])
        · refine ⟨_,rfl,rfl,_,_,rfl,rfl,_,rfl,?_⟩
          exact fin _ (by rw [Bool.eq_false_iff.mpr c4,Bool.false_or])
  · refine ⟨_,rfl,iteT (iteT ?_)⟩
    refine no (Same.refl _) ?_
    unfold zH yZ
    rw [Bool.eq_false_iff.mpr c1,Bool.false_and]
    rfl
end
end Rdr
namespace Rdr
open PySem L2 K11 Rd
def yB (z:Str):Int:=(PySem.intText? z).getD 0
def LX:Lex:=⟨zx,zH,yB,fun _=>none⟩
structure Adr where
  cN:Addr
  cW:Addr
  cL:Addr
  cI:Addr
  cC:Addr
structure Txt (K:PySem.W.Frag) (mg:Str->Option Value) (A:Adr):Prop where
  clW:Cls K A.cW
  clL:Cls K A.cL
  clI:Cls K A.cI
  clC:Cls K A.cC
  nRow:NoAttr K A.cW "row"
  nWords:NoAttr K A.cW "words"
  nAt:NoAttr K A.cW "at"
  nBinds:NoAttr K A.cL "binds"
  nDeed:NoAttr K A.cL "deed"
  nLooked:NoAttr K A.cI "looked"
  nFirst:NoAttr K A.cI "first"
  nCLooked:NoAttr K A.cC "looked"
  nArms:NoAttr K A.cC "arms"
  nHead:NoAttr K A.cC "head"
  xRow:PySem.W.takerIn K A.cN "row"=some none
  len:mg "len"=none
  tuple:mg "tuple"=none
  int:mg "int"=none
  mostN:∃ t,mg "MOST_NAMES"=some (.int 9 t)
  mostA:∃ t,mg "MOST_ARMS"=some (.int 20 t)
def KpS (S:Addr->Prop) (H H':Hp):Prop:=∀ b o,¬ S b->H b=some o->H' b=some o
theorem KpS.refl {S:Addr->Prop} {H:Hp}:KpS S H H:=fun _ _ _ h=>h
theorem KpS.trans {S:Addr->Prop} {H H1 H2:Hp} (a:KpS S H H1) (b:KpS S H1 H2):KpS S H H2:=fun c o n h=>b c o n (a c o n h)
theorem KpS.mono {S S':Addr->Prop} {H H1:Hp} (a:KpS S H H1) (h:∀ b,S b->S' b):KpS S' H H1:=fun c o n q=>a c o (fun z=>n (h c z)) q
theorem KpS.of {S:Addr->Prop} {H H':Hp} (h:Same H H'):KpS S H H':=fun b o _ q=>h b o q
theorem KpS.put {S:Addr->Prop} {H:Hp} {a:Addr} {o:HO} (h:S a):KpS S H (upd H a o):=fun b u n q=>by
  have e:b≠a:=fun z=>n (by rw [z]; exact h)
  rw [zk e]
  exact q
theorem KpS.new {S:Addr->Prop} {H:Hp} {a:Addr} {o:HO} (h:H a=none):KpS S H (upd H a o):=.of (zi h o)
abbrev WI (A:Adr) (dw lw:Addr) (row:Int) (i:Nat):HO:=.ins A.cW dw [("row",.int row),("words",.ref lw),("at",.int i)]
structure AtR (A:Adr) (H:Hp) (w lw:Addr) (row:Int) (r:List Str):Prop where
  ex:∃ (dw:Addr) (ws:List Str) (i:Nat),H w=some (WI A dw lw row i)/\H lw=some (.lst (ws.map V.str))/\r=ws.drop i/\i<=ws.length/\ws.length<=1000000/\∀ x∈ws,x.length<=1000
theorem AtR.kept {A:Adr} {H H':Hp} {w lw:Addr} {row:Int} {r:List Str} {S:Addr->Prop} (h:AtR A H w lw row r) (k:KpS S H H') (n1:¬ S w) (n2:¬ S lw):AtR A H' w lw row r :=
  let ⟨dw,ws,i,a,b,c⟩:=h.ex; ⟨dw,ws,i,k _ _ n1 a,k _ _ n2 b,c⟩
theorem AtR.same {A:Adr} {H H':Hp} {w lw:Addr} {row:Int} {r:List Str} (h:AtR A H w lw row r) (k:Same H H'):AtR A H' w lw row r:=h.kept (S:=fun _=>False) (.of k) (fun z=>z) fun z=>z
theorem AtR.ne {A:Adr} {H:Hp} {w lw:Addr} {row:Int} {r:List Str} (h:AtR A H w lw row r):w≠lw:=by
  obtain ⟨dw,ws,i,a,b,_⟩:=h.ex
  exact yi a b (by intro z; cases z)
def Err (A:Adr) (E:XK) (S:Addr->Prop) (H:Hp) (row:Int):Prop:=∀ d H',KpS S H H'->H' d=some (XD d [("row",.int row)])->E (.ref A.cN) (some d) H'
theorem Err.at {A:Adr} {E:XK} {S S':Addr->Prop} {H H1:Hp} {row:Int} (h:Err A E S H row) (k:KpS S H H1) (m:∀ b,S' b->S b):Err A E S' H1 row:=fun d H' k' q=>h d H' (k.trans (k'.mono m)) q
def wG (A:Adr):Sp:=fun vs H Q _=>∃ e v,vs=[.ref e,v]/\H e=some (XO e A.cN none)/\∀ d,H d=none->d≠e->Q .non (upd (upd H d (XD d [("row",v)])) e (XO e A.cN (some d)))
def yv (A:Adr):Sp:=fun vs H Q E=>∃ (w lw:Addr) (row:Int) (r:List Str) (b:Bool),vs=[.ref w,.bl b]/\AtR A H w lw row r/\(b=true->Q .non H)/\(b=false->Err A E (fun _=>False) H row)
def Yc (A:Adr):Sp:=fun vs H Q _=>∃ (w lw:Addr) (row:Int) (r:List Str),vs=[.ref w]/\AtR A H w lw row r/\Q (.bl r.isEmpty) H
def xp (A:Adr):Sp:=fun vs H Q _=>∃ (w lw:Addr) (row:Int) (r:List Str) (x:Str),vs=[.ref w,.str x]/\AtR A H w lw row r/\(match r with
  | []=>Q (.bl false) H
  | y :: r'=>if y=x then ∀ H',KpS (·=w) H H'->AtR A H' w lw row r'->Q (.bl true) H' else Q (.bl false) H)
def ja (A:Adr):Sp:=fun vs H Q E=>∃ (w lw:Addr) (row:Int) (r:List Str),vs=[.ref w]/\AtR A H w lw row r/\(match r with
  | []=>Err A E (·=w) H row
  | y :: r'=>y.length<=1000->∀ H',KpS (·=w) H H'->AtR A H' w lw row r'->Q (.str y) H')
def ym (A:Adr):Sp:=fun vs H Q E=>∃ (w lw:Addr) (row:Int) (r:List Str),vs=[.ref w]/\AtR A H w lw row r/\(match zr LX r with
  | none=>Err A E (·=w) H row
  | some (x,r')=>∀ H',KpS (·=w) H H'->AtR A H' w lw row r'->Q (.str x) H')
def wH (A:Adr):Sp:=fun vs H Q E=>∃ (w lw:Addr) (row:Int) (r:List Str),vs=[.ref w]/\AtR A H w lw row r/\(match yc LX r with
  | none=>Err A E (·=w) H row
  | some (x,r')=>∀ H',KpS (·=w) H H'->AtR A H' w lw row r'->Q (.int x) H')
def vB (A:Adr):Sp:=fun vs H Q E=>∃ (w lw:Addr) (row:Int) (r:List Str) (stop:Str),vs=[.ref w,.str stop]/\AtR A H w lw row r/\(match zO LX stop [] r with
  | none=>Err A E (·=w) H row
  | some (ns,r')=>∀ H' p,KpS (·=w) H H'->AtR A H' w lw row r'->H' p=some (.tup (ns.map V.str))->Q (.ref p) H')
section
variable {P:Program} {w:World} {K:PySem.W.Frag} {mg:Str->Option Value} {base:Heap} {f R:Addr} {fd:FuncData} {A:Adr}
theorem VU:FnScope ["self","row"] ["self","row"] (zn Zv):=⟨rfl,rfl,rfl,by decide +kernel,rfl,by decide +kernel,by decide +kernel⟩
theorem WM {fi:Addr} (F:Fun K "__init__" "NoText.__init__" Zv f fd) (T:Txt K mg A) (M:XCl K A.cN fi) (B:XBase K R) (mR:mg "ReuseError"=some (.ref R)):FnOk P w K mg base CX0 1 f fd ["self","row"] (wG A):=by
  refine F.by VU (fun vs H Q E h=>?_) (fun cdv A' outer s H vs Q E hr h=>?_)
  · obtain ⟨e,v,rfl,_⟩:=h
    rfl
  obtain ⟨e,v,rfl,hX,q⟩:=h
  refine ⟨_,zd (zM ⟨VF M B rfl mR (ja_c (jv 0) (ja_c (jv 1) ze)).out⟩) (zh ⟨QF M (jv 0).out (jv 1).out⟩),?_⟩
  refine ⟨_,rfl,_,rfl,e,[v],none,rfl,by show 1<=sizeLine; decide,hX,?_⟩
  exact ⟨_,rfl,_,rfl,e,rfl,hX,T.xRow,fun d hd ne=>q d hd ne⟩
theorem VV:FnScope ["self","fits"] ["self","fits"] (zn Zx):=⟨rfl,rfl,rfl,by decide +kernel,rfl,by decide +kernel,by decide +kernel⟩
theorem WN (F:Fun K "insist" "Words.insist" Zx f fd) (T:Txt K mg A) (G:Xa P w K mg base 1 "NoText" A.cN ["self","row"] (wG A)):FnOk P w K mg base (CXf P w) 3 f fd ["self","fits"] (yv A):=by
  refine F.byx VV (fun vs H Q E h=>?_) (fun cdv A' outer s H vs Q E hr h=>?_)
  · obtain ⟨w,lw,row,r,b,rfl,_⟩:=h
    rfl
  obtain ⟨w,lw,row,r,b,rfl,hA,hT,hF⟩:=h
  refine ⟨_,zh (zC (yz (yw (jv 1))) (zh (Z3 G hr rfl VC (ja_c (yu (jv 0)) ze))) zv),?_⟩
  refine ⟨_,rfl,b,rfl,?_⟩
  obtain ⟨dw,ws,i,a1,a2,a3⟩:=hA.ex
  cases b with
  | true =>
    refine iteF ?_
    exact hT rfl
  | false =>
    refine iteT ?_
    refine ⟨_,rfl,w,A.cW,dw,_,_,rfl,a1,T.clW,T.nRow,rfl,by show 1<=sizeLine; decide,fun e he=>?_⟩
    refine ⟨e,.int row,rfl,zc,fun d hd ne=>⟨rfl,some d,zc,?_⟩⟩
    have hd':H d=none:=by
      rw [zk ne] at hd
      exact hd
    refine hF rfl d _ (fun b o _ q=>?_) ?_
    · have n1:b≠e:=zo q he
      have n2:b≠d:=zo q hd'
      rw [vQ n1,zk n1,zk n2,zk n1]
      exact q
    · rw [vQ ne,zk ne,zc]
theorem zcF:FnScope ["self"] ["self"] (zn vU):=⟨rfl,rfl,rfl,by decide +kernel,rfl,by decide +kernel,by decide +kernel⟩
theorem zbZ (F:Fun K "all_read" "Words.all_read" vU f fd) (T:Txt K mg A):FnOk P w K mg base CX0 1 f fd ["self"] (Yc A):=by
  refine F.by zcF (fun vs H Q E h=>?_) (fun cdv A' outer s H vs Q E hr h=>?_)
  · obtain ⟨w,lw,row,r,rfl,_⟩:=h
    rfl
  obtain ⟨w,lw,row,r,rfl,hA,q⟩:=h
  refine ⟨_,zh (zq (yg z7 (yu (jv 0)) (zK zy rfl T.len PySem.boot_len (ja_c (yu (jv 0)) ze)) (zw _))),?_⟩
  obtain ⟨dw,ws,i,a1,a2,rfl,a4,a5⟩:=hA.ex
  refine ⟨_,rfl,w,A.cW,dw,_,_,rfl,a1,T.clW,T.nAt,rfl,_,rfl,w,A.cW,dw,_,_,rfl,a1,T.clW,T.nWords,rfl,lw,_,rfl,.inl (SqL.of a2),rfl,?_⟩
  have e:decide (V.int (i:Int)=V.int (((ws.map V.str).length:Nat):Int))=(ws.drop i).isEmpty:=by
    rw [List.length_map,Bool.eq_iff_iff,decide_eq_true_iff,List.isEmpty_iff,List.drop_eq_nil_iff]
    constructor
    · intro h
      injection h with h
      lia
    · intro h
      have:i=ws.length:=by lia
      rw [this]
  have r:=q
  rw [<- e] at r
  exact r
theorem VW:FnScope ["self","word"] ["self","word"] (zn Zy):=⟨rfl,rfl,rfl,by decide +kernel,rfl,by decide +kernel,by decide +kernel⟩
theorem j4 {α:Type} {l:List α} {i:Nat} {y:α} {r:List α} (h:y :: r=l.drop i):l[i]?=some y/\r=l.drop (i + 1)/\i + 1<=l.length:=by
  have hi:i < l.length:=by
    by_cases z:i < l.length
    · exact z
    · rw [List.drop_eq_nil_iff.mpr (by lia)] at h
      cases h
  rw [List.drop_eq_getElem_cons hi] at h
  injection h with h1 h2
  exact ⟨by rw [List.getElem?_eq_getElem hi,h1],h2,hi⟩
theorem WO (F:Fun K "passed" "Words.passed" Zy f fd) (T:Txt K mg A) (G:Me P w K mg base CX0 1 A.cW "all_read" ["self"] (Yc A)):FnOk P w K mg base CX0 2 f fd ["self","word"] (xp A):=by
  refine F.by VW (fun vs H Q E h=>?_) (fun cdv A' outer s H vs Q E hr h=>?_)
  · obtain ⟨w,lw,row,r,x,rfl,_⟩:=h
    rfl
  obtain ⟨w,lw,row,r,x,rfl,hA,q⟩:=h
  refine ⟨_,zd (zC (jW.pt (yQ (yw (yl (jv 0) T.clW G hr zJ)) (yD (zt xl (zE zG (yu (jv 0)) (yu (jv 0)) (fun _ _=>rfl)) (jv 1) (zw _))))) (zh (zq xN)) zv)
    (zd (yO (jv 0) (zp zL (yu (jv 0)) zg)) (zh (zq xN))),?_⟩
  obtain ⟨dw,ws,i,a1,a2,a3,a4,a5,a6⟩:=hA.ex
  refine ⟨_,rfl,w,dw,_,rfl,a1,rfl,w,lw,row,r,rfl,hA,_,rfl,?_⟩
  cases r with
  | nil =>
    refine iteT (iteT ?_)
    exact q
  | cons y r' =>
    refine iteF ?_
    obtain ⟨b1,b2,b3⟩:=j4 a3
    have ix:atI (ws.map V.str) (i:Int)=some (.str y):=yo (by rw [List.getElem?_map,b1]; rfl)
    refine ⟨_,rfl,w,A.cW,dw,_,_,rfl,a1,T.clW,T.nWords,rfl,_,rfl,w,A.cW,dw,_,_,rfl,a1,T.clW,T.nAt,rfl,lw,_,_,_,rfl,rfl,SqL.of a2,ix,_,rfl,rfl,_,rfl,?_⟩
    dsimp only at q
    by_cases c:y=x
    · rw [if_pos c] at q
      refine zcx (by rw [c]) ?_
      refine ⟨_,rfl,w,A.cW,dw,_,_,rfl,a1,T.clW,T.nAt,rfl,_,_,rfl,rfl,_,rfl,w,A.cW,dw,_,rfl,a1,T.clW,T.nAt,by show 3 < 1000; decide,?_⟩
      refine q _ (KpS.put rfl) ⟨dw,ws,i + 1,?_,by rw [zk hA.ne.symm]; exact a2,b2,b3,a5,a6⟩
      exact zc
    · rw [if_neg c] at q
      have e:(!decide (V.str y=V.str x))=true:=by
        rw [decide_eq_false (fun z=>c (by injection z))]
        rfl
      rw [e]
      exact iteT q
end
end Rdr
namespace Rdr
open PySem L2 K11 Rd
section
variable {P:Program} {w:World} {K:PySem.W.Frag} {mg:Str->Option Value} {base:Heap} {f R:Addr} {fd:FuncData} {A:Adr}
theorem zb0:FnScope ["self"] ["self"] (zn wP):=⟨rfl,rfl,rfl,by decide +kernel,rfl,by decide +kernel,by decide +kernel⟩
theorem QS (F:Fun K "next_word" "Words.next_word" wP f fd) (T:Txt K mg A) (GA:Me P w K mg base CX0 1 A.cW "all_read" ["self"] (Yc A)) (GI:Me P w K mg base (CXf P w) 3 A.cW "insist" ["self","fits"] (yv A)):FnOk P w K mg base (CXf P w) 4 f fd ["self"] (ja A):=by
  refine F.byx zb0 (fun vs H Q E h=>?_) (fun cdv A' outer s H vs Q E hr h=>?_)
  · obtain ⟨w,lw,row,r,rfl,_⟩:=h
    rfl
  obtain ⟨w,lw,row,r,rfl,hA,q⟩:=h
  refine ⟨_,zd (zM (yr (jv 0) T.clW GI hr zT (ja_c (YM (yl (jv 0) T.clW GA (hr.mono (by decide)) zJ)) ze)))
    (zd (yO (jv 0) (zp zL (yu (jv 0)) zg)) (zh (zq (zE zG (yu (jv 0)) (zp xy (yu (jv 0)) zg) (fun _ _=>rfl))))),?_⟩
  obtain ⟨dw,ws,i,a1,a2,a3,a4,a5,a6⟩:=hA.ex
  refine ⟨_,rfl,w,dw,_,rfl,a1,rfl,_,rfl,w,dw,_,rfl,a1,rfl,w,lw,row,r,rfl,hA,_,rfl,w,lw,row,r,_,rfl,hA,fun hb=>?_,fun hb=>?_⟩
  · cases r with
    | nil=>cases hb
    | cons y r' =>
      obtain ⟨b1,b2,b3⟩:=j4 a3
      dsimp only at q
      have hy:=a6 y (List.mem_of_getElem? b1)
      refine ⟨_,rfl,w,A.cW,dw,_,_,rfl,a1,T.clW,T.nAt,rfl,_,_,rfl,rfl,_,rfl,w,A.cW,dw,_,rfl,a1,T.clW,T.nAt,by show 3 < 1000; decide,?_⟩
      have u1:upd H w (HO.ins A.cW dw (putF "at" (V.int ((i:Int) + 1)) [("row",.int row),("words",.ref lw),("at",.int i)])) w=some (WI A dw lw row (i + 1)):=zc
      have u2:upd H w (HO.ins A.cW dw (putF "at" (V.int ((i:Int) + 1)) [("row",.int row),("words",.ref lw),("at",.int i)])) lw=some (.lst (ws.map V.str)):=by rw [zk hA.ne.symm]; exact a2
      have ix:atI (ws.map V.str) (((i + 1:Nat):Int) - 1)=some (.str y):=by
        have e:(((i + 1:Nat):Int) - 1)=(i:Int):=by lia
        rw [e]
        exact yo (by rw [List.getElem?_map,b1]; rfl)
      refine ⟨_,rfl,w,A.cW,dw,_,_,rfl,u1,T.clW,T.nWords,rfl,_,rfl,w,A.cW,dw,_,_,rfl,u1,T.clW,T.nAt,rfl,_,_,rfl,rfl,lw,_,_,_,rfl,rfl,SqL.of u2,ix,?_⟩
      exact q hy _ (KpS.put rfl) ⟨dw,ws,i + 1,u1,u2,b2,b3,a5,a6⟩
  · cases r with
    | nil=>exact q.at KpS.refl (fun b z=>z.elim)
    | cons y r'=>cases hb
theorem scNextName:FnScope ["self","word"] ["self"] (zn wQ):=⟨rfl,rfl,rfl,by decide +kernel,rfl,by decide +kernel,by decide +kernel⟩
theorem Yd (F:Fun K "next_name" "Words.next_name" wQ f fd) (T:Txt K mg A) (GW:Me P w K mg base (CXf P w) 4 A.cW "next_word" ["self"] (ja A)) (GI:Me P w K mg base (CXf P w) 3 A.cW "insist" ["self","fits"] (yv A))
    (GN:Ca P w K mg base CX0 2 "is_name" ["word"] v9):FnOk P w K mg base (CXf P w) 5 f fd ["self"] (ym A):=by
  refine F.byx scNextName (fun vs H Q E h=>?_) (fun cdv A' outer s H vs Q E hr h=>?_)
  · obtain ⟨w,lw,row,r,rfl,_⟩:=h
    rfl
  obtain ⟨w,lw,row,r,rfl,hA,q⟩:=h
  refine ⟨_,zd (zu (i:=1) scNextName.nd rfl (Or.inl rfl) (yl (jv 0) T.clW GW hr zT))
    (zd (zM (yr (jv 0) T.clW GI (hr.mono (by decide)) zT (ja_c (zN GN (hr.mono (by decide)) rfl zJ (ja_c (jv 1) ze)) ze))) (zh (zq (jv 1)))),?_⟩
  obtain ⟨dw,ws,i,a1,_⟩:=hA.ex
  refine ⟨_,rfl,w,dw,_,rfl,a1,rfl,w,lw,row,r,rfl,hA,?_⟩
  cases r with
  | nil=>exact q
  | cons y r' =>
    dsimp only
    intro hy H1 k1 hA1
    obtain ⟨dw1,ws1,i1,c1,_⟩:=hA1.ex
    refine ⟨_,rfl,w,dw1,_,rfl,c1,rfl,_,rfl,y,rfl,hy,fun H2 s2=>?_⟩
    have hA2:=hA1.same s2
    have k2:KpS (·=w) H H2:=k1.trans (.of s2)
    refine ⟨w,lw,row,r',_,rfl,hA2,fun hb=>⟨_,rfl,?_⟩,fun hb=>?_⟩
    · have e:zr LX (y :: r')=some (y,r'):=yW (L:=LX) hb
      rw [e] at q
      exact q H2 k2 hA2
    · have e:zr LX (y :: r')=none:=by
        show (if zx y=true then some (y,r') else none)=none
        rw [hb]
        rfl
      rw [e] at q
      exact q.at k2 (fun b z=>z.elim)
theorem scUntil:FnScope ["self","stop","names"] ["self","stop"] (zn YW):=⟨rfl,rfl,rfl,by decide +kernel,rfl,by decide +kernel,by decide +kernel⟩
theorem VX (F:Fun K "names_until" "Words.names_until" YW f fd) (T:Txt K mg A) (GP:Me P w K mg base CX0 2 A.cW "passed" ["self","word"] (xp A)) (GI:Me P w K mg base (CXf P w) 3 A.cW "insist" ["self","fits"] (yv A))
    (GN:Me P w K mg base (CXf P w) 5 A.cW "next_name" ["self"] (ym A)):FnOk P w K mg base (CXf P w) 6 f fd ["self","stop"] (vB A):=by
  refine F.byx scUntil (fun vs H Q E h=>?_) (fun cdv A' outer s H vs Q E hr h=>?_)
  · obtain ⟨w,lw,row,r,x,rfl,_⟩:=h
    rfl
  obtain ⟨w,lw,row,r0,stop,rfl,hA0,q⟩:=h
  obtain ⟨t9,m9⟩:=T.mostN
  refine ⟨_,zd (zu (i:=2) scUntil.nd rfl (Or.inl rfl) (zB ze))
    (zd (xa ownx (yz (yw (yr (jv 0) T.clW GP (hr.mono (by decide)) zJ (ja_c (jv 1) ze))))
      (zd (zM (yr (jv 0) T.clW GI (hr.mono (by decide)) zT (ja_c (yg yR (zK zy rfl T.len PySem.boot_len (ja_c (jv 2) ze)) (yV (v:=.int 9) rfl m9 ⟨_,rfl⟩) (zw _)) ze)))
      (zh (zM (zZ PySem.F.plainAttrs_list PySem.F.slot_list_append PySem.F.type_list_append zY (jv 2) (ja_c (yl (jv 0) T.clW GN hr zT) ze))))))
    (zh (zq (yd yq rfl T.tuple PyProof.Rows.boot_tuple (ja_c (jv 2) ze))))),?_⟩
  refine ⟨by show 0<=sizeLine; decide,fun p hp=>?_⟩
  have nw:∀ {b o},H b=some o->b≠p:=fun h=>zo h hp
  obtain ⟨dw0,ws0,i0,z1,z2,_⟩:=hA0.ex
  have npw:p≠w:=(nw z1).symm
  have npl:p≠lw:=(nw z2).symm
  refine ⟨fun m σ H2=>∃ r acc,m=r.length/\σ=[some (.ref w),some (.str stop),some (.ref p)]/\AtR A H2 w lw row r/\H2 p=some (.lst (acc.map V.str))/\KpS (·=w) H H2/\zO LX stop acc r=zO LX stop [] r0/\acc.length<=9,
    ⟨_,r0,[],rfl,rfl,hA0.same (zi hp _),zc,KpS.new hp,rfl,by decide⟩,?_⟩
  rintro m σ H2 ⟨r,acc,rfl,rfl,hA,hl,k2,hu,h9⟩
  obtain ⟨dw,ws,i,a1,_⟩:=hA.ex
  refine ⟨_,rfl,w,dw,_,rfl,a1,rfl,_,rfl,w,lw,row,r,stop,rfl,hA,?_⟩
  have sl:=line
  have ln:(acc.map V.str).length=acc.length:=List.length_map _
  cases r with
  | nil =>
    dsimp only
    refine ⟨_,rfl,iteT ⟨_,fun _ _ h=>h,?_⟩⟩
    have e0:zO LX stop acc []=none:=rfl
    rw [<- hu,e0] at q
    refine ⟨_,rfl,w,dw,_,rfl,a1,rfl,_,rfl,p,_,rfl,.inl (SqL.of hl),_,_,rfl,rfl,w,lw,row,[],_,rfl,hA,fun hb=>?_,fun hb=>q.at k2 (fun b z=>z.elim)⟩
    exact ⟨_,rfl,.inl ⟨rfl,_,SqL.of hl⟩,_,rfl,w,dw,_,rfl,a1,rfl,w,lw,row,[],rfl,hA,q.at k2 (fun b z=>z)⟩
  | cons y r' =>
    dsimp only
    by_cases c:y=stop
    · rw [if_pos c]
      intro H3 k3 hA3
      refine ⟨_,rfl,iteF ?_⟩
      have e0:zO LX stop acc (y :: r')=some (acc,r'):=by
        unfold zO
        rw [if_pos c]
      rw [<- hu,e0] at q
      refine ⟨_,rfl,p,_,rfl,.inl ⟨SqL.of (k3 _ _ npw hl),fun p2 hp2=>?_⟩⟩
      exact q _ p2 ((k2.trans k3).trans (KpS.new hp2)) (hA3.same (zi hp2 _)) zc
    · rw [if_neg c]
      refine ⟨_,rfl,iteT ⟨_,fun _ _ h=>h,?_⟩⟩
      refine ⟨_,rfl,w,dw,_,rfl,a1,rfl,_,rfl,p,_,rfl,.inl (SqL.of hl),_,_,rfl,rfl,w,lw,row,y :: r',_,rfl,hA,fun hb=>?_,fun hb=>?_⟩
      · have h9':acc.length < 9:=by
          have:=of_decide_eq_true hb
          rw [ln] at this
          lia
        refine ⟨_,rfl,.inl ⟨rfl,_,SqL.of hl⟩,_,rfl,w,dw,_,rfl,a1,rfl,w,lw,row,y :: r',rfl,hA,?_⟩
        by_cases cn:zx y=true
        · have e1:zr LX (y :: r')=some (y,r'):=yW (L:=LX) cn
          rw [e1]
          dsimp only
          intro H3 k3 hA3
          refine ⟨p,_,_,rfl,rfl,k3 _ _ npw hl,by rw [ln]; lia,?_⟩
          have e2:zO LX stop acc (y :: r')=zO LX stop (acc ++ [y]) r':=by
            rw [zO]
            rw [if_neg c,if_pos ⟨h9',cn⟩]
          refine ⟨_,Nat.lt_succ_self _,r',acc ++ [y],rfl,rfl,hA3.kept (S:=(·=p)) (KpS.put rfl) npw.symm npl.symm,?_,fun b o nb hb2=>by rw [zk (nw hb2)]; exact (k2.trans k3) b o nb hb2,by rw [<- e2]; exact hu,by rw [List.length_append,List.length_singleton]; lia⟩
          · rw [zc,List.map_append]
            rfl
        · have e1:zr LX (y :: r')=none:=by
            show (if zx y=true then some (y,r') else none)=none
            rw [if_neg cn]
          rw [e1]
          have e0:zO LX stop acc (y :: r')=none:=by
            rw [zO]
            rw [if_neg c,if_neg (fun z=>cn z.2)]
          rw [<- hu,e0] at q
          exact q.at k2 (fun b z=>z)
      · have h9':¬ acc.length < 9:=by
          have:=of_decide_eq_false hb
          rw [ln] at this
          lia
        have e0:zO LX stop acc (y :: r')=none:=by
          rw [zO]
          rw [if_neg c,if_neg (fun z=>h9' z.1)]
        rw [<- hu,e0] at q
        exact q.at k2 (fun b z=>z.elim)
end
end Rdr
namespace Rdr
open PySem L2 K11 Rd
theorem VY:("-":Str)=sg 45:=by decide
theorem XV:("0":Str)=sg 48:=by decide
theorem jb:∀ c∈cl FIGS,48<=c/\c<=57:=by decide
theorem VZ {c:Nat} (h:48<=c/\c<=57):c∈cl FIGS:=by
  have e:cl FIGS=[48,49,50,51,52,53,54,55,56,57]:=by decide
  rw [e]
  simp only [List.mem_cons,List.not_mem_nil,or_false]
  lia
theorem starts_minus {z:Str}:Txt.startswith z "-"=true↔∃ cs,cl z=45 :: cs:=by
  rw [VY,xC]
  obtain ⟨⟨l⟩⟩:=z
  cases l with
  | nil=>simp
  | cons c r =>
    show (some c == some 45)=true↔∃ cs,c :: r=45 :: cs
    constructor
    · intro h
      have h':c=45:=by simpa using h
      exact ⟨r,by rw [h']⟩
    · rintro ⟨cs,h⟩
      injection h with h1 _
      rw [h1]
      rfl
theorem xD {z:Str} {cs:List Nat} (h:cl z=45 :: cs):cl (zA z)=cs:=by
  unfold zA
  rw [if_pos (starts_minus.mpr ⟨cs,h⟩),vR]
  have hl:z.length=cs.length + 1:=by rw [<- ye,h,List.length_cons]
  have c1:yn z.length (some 1) 0=1:=by
    unfold yn
    dsimp only
    rw [if_neg (by lia)]
    lia
  rw [c1,h]
  show cs.take _=cs
  exact List.take_of_length_le (by show cs.length<=z.length - 1; lia)
theorem xE {z:Str} (h:¬ ∃ cs,cl z=45 :: cs):zA z=z:=by
  unfold zA
  rw [if_neg (fun e=>h (starts_minus.mp e))]
theorem isNumber_iff {z:Str}:zH z=true↔(1<=(cl (zA z)).length/\(cl (zA z)).length<=30)/\NumText.AllDigits (cl (zA z))/\(z=sg 48\/(cl (zA z))[0]?≠some 48):=by
  unfold zH yZ
  rw [<- XV,XV,xC,ye]
  have e0:(zA z).cps[0]?=(cl (zA z))[0]?:=by simp
  rw [e0]
  cases hm:yU (zA z) FIGS with
  | false =>
    simp only [Bool.not_false,Bool.or_true,if_true]
    constructor
    · intro h
      cases h
    · rintro ⟨_,h,_⟩
      have:=madeOf_iff.mpr fun c hc=>VZ (h c hc)
      rw [hm] at this
      cases this
  | true =>
    have all:NumText.AllDigits (cl (zA z)):=fun c hc=>jb c (madeOf_iff.mp hm c hc)
    simp only [Bool.not_true,Bool.or_false,Bool.not_eq_true']
    by_cases hl:1<=(zA z).length/\(zA z).length<=30
    · have d1:(decide ((1:Int)<=((zA z).length:Nat)) && decide ((((zA z).length:Nat):Int)<=30))=true:=by
        rw [decide_eq_true (by lia),decide_eq_true (by lia)]
        rfl
      rw [d1,if_neg (by decide)]
      simp only [Bool.or_eq_true,decide_eq_true_eq,Bool.not_eq_true',beq_eq_false_iff_ne]
      constructor
      · rintro (h | h)
        · exact ⟨hl,all,.inl (by injection h)⟩
        · exact ⟨hl,all,.inr h⟩
      · rintro ⟨_,_,h | h⟩
        · exact .inl (by rw [h])
        · exact .inr h
    · have d1:(decide ((1:Int)<=((zA z).length:Nat)) && decide ((((zA z).length:Nat):Int)<=30))=false:=by
        rw [Bool.eq_false_iff]
        intro h
        simp only [Bool.and_eq_true,decide_eq_true_eq] at h
        exact hl (by lia)
      rw [d1,if_pos rfl]
      constructor
      · intro h
        cases h
      · rintro ⟨h,_⟩
        exact absurd h hl
theorem Xe {z:Str} (h:zH z=true):PySem.intText? z=some (yB z)/\z.length<=640:=by
  obtain ⟨⟨h1,h2⟩,h3,_⟩:=isNumber_iff.mp h
  have key:∃ n,PySem.intText? z=some n/\z.length<=640:=by
    by_cases c:∃ cs,cl z=45 :: cs
    · obtain ⟨cs,hc⟩:=c
      rw [xD hc] at h1 h2 h3
      have hl:z.length=cs.length + 1:=by rw [<- ye,hc,List.length_cons]
      exact ⟨_,PySem.intText_neg hc h3 (fun e=>by rw [e] at h1; simp at h1) (by lia),by lia⟩
    · rw [xE c] at h1 h2 h3
      have hl:=ye z
      exact ⟨_,PySem.intText_digits h3 (fun e=>by rw [show cl z=[] from e] at h1; simp at h1) (by lia),by lia⟩
  obtain ⟨n,e,hl⟩:=key
  exact ⟨by unfold yB; rw [e]; rfl,hl⟩
theorem yK {n:Int} (h:n.natAbs < 10 ^ 30):zH (Str.ofString (toString n))=true/\yB (Str.ofString (toString n))=n:=by
  have len:∀ m:Nat,m < 10 ^ 30->1<=((Nat.toDigits 10 m).map Char.toNat).length/\((Nat.toDigits 10 m).map Char.toNat).length<=30:=fun m hm=>by
    rw [List.length_map]
    exact ⟨Nat.length_toDigits_pos,(Nat.length_toDigits_le_iff (by decide) (by decide)).mpr hm⟩
  cases n with
  | ofNat m =>
    have hm:m < 10 ^ 30:=h
    have e:cl (Str.ofString (toString (Int.ofNat m)))=(Nat.toDigits 10 m).map Char.toNat:=VL m
    have all:=Z8 m
    have np:¬ ∃ cs,cl (Str.ofString (toString (Int.ofNat m)))=45 :: cs:=by
      rintro ⟨cs,hc⟩
      rw [e] at hc
      have:=all 45 (by rw [hc]; exact List.mem_cons_self)
      lia
    have l:=len m hm
    refine ⟨isNumber_iff.mpr ?_,?_⟩
    · rw [xE np,e]
      refine ⟨l,all,?_⟩
      by_cases m0:m=0
      · left
        rw [m0]
        decide
      · right
        obtain ⟨c,r,hc,h49⟩:=j3 m m0
        rw [hc]
        simp
        lia
    · unfold yB
      rw [PySem.intText_digits (x:=Str.ofString (toString (Int.ofNat m))) (by rw [show (Str.ofString (toString (Int.ofNat m))).cps.toList=_ from e]; exact all) (fun z=>by rw [show (Str.ofString (toString (Int.ofNat m))).cps.toList=_ from e] at z; rw [z] at l; simp at l) (by rw [<- ye,e]; lia)]
      rw [show (Str.ofString (toString (Int.ofNat m))).cps.toList=_ from e,PySem.W.KIN.val_back]
      rfl
  | negSucc m =>
    have hm:m + 1 < 10 ^ 30:=h
    have e:=VM m
    have all:=Z8 (m + 1)
    have l:=len (m + 1) hm
    refine ⟨isNumber_iff.mpr ?_,?_⟩
    · rw [xD e]
      refine ⟨l,all,.inr ?_⟩
      obtain ⟨c,r,hc,h49⟩:=j3 (m + 1) (by lia)
      rw [hc]
      simp
      lia
    · unfold yB
      rw [PySem.intText_neg e all (fun z=>by rw [z] at l; simp at l) (by rw [<- ye,e,List.length_cons]; lia),PySem.W.KIN.val_back]
      rfl
mutual
inductive Is (H:Hp):D->V->Prop
  | int (i:Int):Is H (.int i) (.int i)
  | str (x:Str):Is H (.str x) (.str x)
  | tup {ds:List D} {vs:List V} {p:Addr}:H p=some (.tup vs)->IsL H ds vs->Is H (.tup ds) (.ref p)
inductive IsL (H:Hp):List D->List V->Prop
  | nil:IsL H [] []
  | cons {d:D} {v:V} {ds:List D} {vs:List V}:Is H d v->IsL H ds vs->IsL H (d :: ds) (v :: vs)
end
def Tups (H H':Hp):Prop:=∀ p xs,H p=some (.tup xs)->H' p=some (.tup xs)
theorem Tups.trans {H H1 H2:Hp} (a:Tups H H1) (b:Tups H1 H2):Tups H H2:=fun p xs h=>b p xs (a p xs h)
mutual
theorem Is.keep {H H':Hp} (k:Tups H H'):∀ {d:D} {v:V},Is H d v->Is H' d v
  | _,_,.int i=>.int i
  | _,_,.str x=>.str x
  | _,_,.tup h l=>.tup (k _ _ h) (IsL.keep k l)
theorem IsL.keep {H H':Hp} (k:Tups H H'):∀ {ds:List D} {vs:List V},IsL H ds vs->IsL H' ds vs
  | _,_,.nil=>.nil
  | _,_,.cons a b=>.cons (Is.keep k a) (IsL.keep k b)
end
theorem IsL.strs {H:Hp}:∀ (l:List Str),IsL H (l.map D.str) (l.map V.str)
  | []=>.nil
  | x :: l=>.cons (.str x) (IsL.strs l)
theorem IsL.app {H:Hp}:∀ {ds es:List D} {vs us:List V},IsL H ds vs->IsL H es us->IsL H (ds ++ es) (vs ++ us)
  | _,_,_,_,.nil,b=>b
  | _,_,_,_,.cons a l,b=>.cons a (IsL.app l b)
theorem IsL.len {H:Hp}:∀ {ds:List D} {vs:List V},IsL H ds vs->ds.length=vs.length
  | _,_,.nil=>rfl
  | _,_,.cons _ l=>by rw [List.length_cons,List.length_cons,IsL.len l]
theorem KpS.tups {S:Addr->Prop} {H H':Hp} (k:KpS S H H') (n:∀ b,S b->∀ xs,H b≠some (.tup xs)):Tups H H':=fun p xs h=>k p _ (fun z=>n p z xs h) h
theorem Tups.new {H:Hp} {a:Addr} {o:HO} (h:H a=none):Tups H (upd H a o):=fun p xs q=>by rw [zk (zo q h)]; exact q
theorem AtR.notup {A:Adr} {H:Hp} {w lw:Addr} {row:Int} {r:List Str} (h:AtR A H w lw row r):∀ b,b=w->∀ xs,H b≠some (.tup xs):=fun b e xs z=>by
  obtain ⟨dw,ws,i,a1,_⟩:=h.ex
  rw [e,a1] at z
  cases z
theorem AtR.tups {A:Adr} {H H':Hp} {w lw:Addr} {row:Int} {r:List Str} (h:AtR A H w lw row r) (k:KpS (·=w) H H'):Tups H H':=k.tups h.notup
def V0 (A:Adr):Sp:=fun vs H Q E=>∃ (w lw:Addr) (row:Int) (r:List Str),vs=[.ref w]/\AtR A H w lw row r/\(match deed LX r with
  | none=>Err A E (·=w) H row
  | some (d,r')=>∀ H' v,KpS (·=w) H H'->AtR A H' w lw row r'->Is H' d v->Q v H')
def Xf (A:Adr):Sp:=fun vs H Q E=>∃ (w lw:Addr) (row:Int) (r:List Str),vs=[.ref w]/\AtR A H w lw row r/\(match head LX r with
  | none=>Err A E (·=w) H row
  | some ((t,ns),r')=>∀ H' p pn,KpS (·=w) H H'->AtR A H' w lw row r'->H' p=some (.tup [.str t,.ref pn])->H' pn=some (.tup (ns.map V.str))->Q (.ref p) H')
section
variable {P:Program} {w:World} {K:PySem.W.Frag} {mg:Str->Option Value} {base:Heap} {f R ao ad:Addr} {fd:FuncData} {A:Adr}
theorem scNextNumber:FnScope ["self","word"] ["self"] (zn xR):=⟨rfl,rfl,rfl,by decide +kernel,rfl,by decide +kernel,by decide +kernel⟩
theorem jC (F:Fun K "next_number" "Words.next_number" xR f fd) (T:Txt K mg A) (GW:Me P w K mg base (CXf P w) 4 A.cW "next_word" ["self"] (ja A)) (GI:Me P w K mg base (CXf P w) 3 A.cW "insist" ["self","fits"] (yv A))
    (GN:Ca P w K mg base CX0 2 "is_number" ["word"] wF):FnOk P w K mg base (CXf P w) 5 f fd ["self"] (wH A):=by
  refine F.byx scNextNumber (fun vs H Q E h=>?_) (fun cdv A' outer s H vs Q E hr h=>?_)
  · obtain ⟨w,lw,row,r,rfl,_⟩:=h
    rfl
  obtain ⟨w,lw,row,r,rfl,hA,q⟩:=h
  refine ⟨_,zd (zu (i:=1) scNextNumber.nd rfl (Or.inl rfl) (yl (jv 0) T.clW GW hr zT))
    (zd (zM (yr (jv 0) T.clW GI (hr.mono (by decide)) zT (ja_c (zN GN (hr.mono (by decide)) rfl zJ (ja_c (jv 1) ze)) ze))) (zh (zq (yd vn rfl T.int PyProof.Rows.boot_int (ja_c (jv 1) ze))))),?_⟩
  obtain ⟨dw,ws,i,a1,_⟩:=hA.ex
  refine ⟨_,rfl,w,dw,_,rfl,a1,rfl,w,lw,row,r,rfl,hA,?_⟩
  cases r with
  | nil=>exact q
  | cons y r' =>
    dsimp only
    intro hy H1 k1 hA1
    obtain ⟨dw1,ws1,i1,c1,_⟩:=hA1.ex
    refine ⟨_,rfl,w,dw1,_,rfl,c1,rfl,_,rfl,y,rfl,hy,fun H2 s2=>?_⟩
    have hA2:=hA1.same s2
    have k2:KpS (·=w) H H2:=k1.trans (.of s2)
    refine ⟨w,lw,row,r',_,rfl,hA2,fun hb=>⟨_,rfl,?_⟩,fun hb=>?_⟩
    · have e:yc LX (y :: r')=some (yB y,r'):=by
        show (if zH y=true then some (yB y,r') else none)=_
        rw [if_pos hb]
      rw [e] at q
      obtain ⟨n1,n2⟩:=Xe hb
      exact ⟨y,_,rfl,n1,n2,q H2 k2 hA2⟩
    · have e:yc LX (y :: r')=none:=by
        show (if zH y=true then some (yB y,r') else none)=none
        rw [hb]
        rfl
      rw [e] at q
      exact q.at k2 (fun b z=>z.elim)
theorem scReadHead:FnScope ["words","tag"] ["words"] (zn wV):=⟨rfl,rfl,rfl,by decide +kernel,rfl,by decide +kernel,by decide +kernel⟩
theorem QT (F:Fun K "read_head" "read_head" wV f fd) (T:Txt K mg A) (GN:Me P w K mg base (CXf P w) 5 A.cW "next_name" ["self"] (ym A)) (GU:Me P w K mg base (CXf P w) 6 A.cW "names_until" ["self","stop"] (vB A)):FnOk P w K mg base (CXf P w) 7 f fd ["words"] (Xf A):=by
  refine F.byx scReadHead (fun vs H Q E h=>?_) (fun cdv A' outer s H vs Q E hr h=>?_)
  · obtain ⟨w,lw,row,r,rfl,_⟩:=h
    rfl
  obtain ⟨w,lw,row,r,rfl,hA,q⟩:=h
  refine ⟨_,zd (zu (i:=1) scReadHead.nd rfl (Or.inl rfl) (yl (jv 0) T.clW GN (hr.mono (by decide)) zT))
    (zh (zq (zX (ja_c (jv 1) (ja_c (yr (jv 0) T.clW GU hr zT (ja_c zj ze)) ze))))),?_⟩
  obtain ⟨dw,ws,i,a1,_⟩:=hA.ex
  refine ⟨_,rfl,w,dw,_,rfl,a1,rfl,w,lw,row,r,rfl,hA,?_⟩
  unfold head at q
  cases e:zr LX r with
  | none =>
    rw [e] at q
    exact q
  | some pr =>
    obtain ⟨t,r1⟩:=pr
    rw [e] at q
    dsimp only [Option.bind_some] at q ⊢
    intro H1 k1 hA1
    obtain ⟨dw1,ws1,i1,c1,_⟩:=hA1.ex
    refine ⟨_,rfl,_,rfl,w,dw1,_,rfl,c1,rfl,w,lw,row,r1,_,rfl,hA1,?_⟩
    cases e2:zO LX ":" [] r1 with
    | none =>
      rw [e2] at q
      exact q.at k1 (fun b z=>z)
    | some pr2 =>
      obtain ⟨ns,r2⟩:=pr2
      rw [e2] at q
      dsimp only [Option.map_some] at q ⊢
      intro H2 pn k2 hA2 hpn
      refine ⟨by show 2<=sizeLine; decide,fun p hp=>?_⟩
      exact q _ p pn ((k1.trans k2).trans (KpS.new hp)) (hA2.same (zi hp _)) zc (by rw [zk (zo hpn hp)]; exact hpn)
theorem scDeed:FnScope ["words","word","a","name"] ["words"] (zn wW):=⟨rfl,rfl,rfl,by decide +kernel,rfl,by decide +kernel,by decide +kernel⟩
theorem xg {x:Str}:∀ {l:List Str},inV (.str x) (l.map V.str)=decide (x∈l)
  | []=>rfl
  | y :: l=>by
    have ih:=xg (x:=x) (l:=l)
    unfold inV at ih ⊢
    rw [List.map_cons,List.any_cons,ih]
    show ((y == x) || decide (x∈l))=decide (x∈y :: l)
    rw [Bool.eq_iff_iff]
    simp only [Bool.or_eq_true,beq_iff_eq,decide_eq_true_iff,List.mem_cons]
    constructor
    · rintro (h | h)
      · exact .inl h.symm
      · exact .inr h
    · rintro (h | h)
      · exact .inl h.symm
      · exact .inr h
theorem iteS {x y:Str} {A B:Prop} (e:x=y) (h:A):if decide (V.str x=V.str y)=true then A else B:=by
  rw [decide_eq_true (congrArg V.str e)]
  exact iteT h
theorem wj {x y:Str} {A B:Prop} (e:x≠y) (h:B):if decide (V.str x=V.str y)=true then A else B:=by
  rw [decide_eq_false (fun z=>e (by injection z))]
  exact iteF h
theorem iteD {c A B:Prop} [Decidable c] (e:c) (h:A):if decide c=true then A else B:=by
  rw [decide_eq_true e]
  exact iteT h
theorem wk {c A B:Prop} [Decidable c] (e:¬ c) (h:B):if decide c=true then A else B:=by
  rw [decide_eq_false e]
  exact iteF h
theorem QU (F:Fun K "read_deed" "read_deed" wW f fd) (T:Txt K mg A) (GW:Me P w K mg base (CXf P w) 4 A.cW "next_word" ["self"] (ja A)) (GI:Me P w K mg base (CXf P w) 3 A.cW "insist" ["self","fits"] (yv A))
    (GN:Me P w K mg base (CXf P w) 5 A.cW "next_name" ["self"] (ym A)) (GM:Me P w K mg base (CXf P w) 5 A.cW "next_number" ["self"] (wH A)) (GU:Me P w K mg base (CXf P w) 6 A.cW "names_until" ["self","stop"] (vB A))
    (mO:mg "OPS"=some (.ref ao)) (hO:∀ H:Hp,SqT K H ao (OPS.map V.str)) (mD:mg "NAMING_DEEDS"=some (.ref ad)) (hD:∀ H:Hp,SqT K H ad (DEEDS.map V.str)):FnOk P w K mg base (CXf P w) 7 f fd ["words"] (V0 A):=by
  refine F.byx scDeed (fun vs H Q E h=>?_) (fun cdv A' outer s H vs Q E hr h=>?_)
  · obtain ⟨w,lw,row,r,rfl,_⟩:=h
    rfl
  obtain ⟨w,lw,row,r,rfl,hA,q⟩:=h
  refine ⟨_,zd (zu (i:=1) scDeed.nd rfl (Or.inl rfl) (yl (jv 0) T.clW GW (hr.mono (by decide)) zT))
    (zd (zC (zt z7 (jv 1) zj (zw _)) (zh (zq (zX (ja_c zj (ja_c (yl (jv 0) T.clW GM (hr.mono (by decide)) zT) ze))))) zv)
    (zd (zC (zt xm (jv 1) (yV (v:=.ref ao) rfl mO rfl) (by with_unfolding_all rfl)) (zd (zu (i:=2) scDeed.nd rfl (Or.inl rfl) (yl (jv 0) T.clW GN (hr.mono (by decide)) zT)) (zh (zq (zX (ja_c zj (ja_c (jv 1) (ja_c (jv 2) (ja_c (yl (jv 0) T.clW GN (hr.mono (by decide)) zT) ze)))))))) zv)
    (zd (zM (yr (jv 0) T.clW GI (hr.mono (by decide)) zT (ja_c (yg xm (jv 1) (yV (v:=.ref ad) rfl mD rfl) (by with_unfolding_all rfl)) ze)))
    (zd (zu (i:=3) scDeed.nd rfl (Or.inl rfl) (yl (jv 0) T.clW GN (hr.mono (by decide)) zT))
    (zh (zq (zX (ja_c (jv 1) (ja_c (jv 3) (ja_c (yr (jv 0) T.clW GU hr zT (ja_c zj ze)) ze)))))))))),?_⟩
  obtain ⟨dw,ws,i,a1,_⟩:=hA.ex
  refine ⟨_,rfl,w,dw,_,rfl,a1,rfl,w,lw,row,r,rfl,hA,?_⟩
  cases r with
  | nil=>exact q
  | cons y r' =>
    dsimp only
    intro hy H1 k1 hA1
    obtain ⟨dw1,ws1,i1,c1,_⟩:=hA1.ex
    refine ⟨_,rfl,rfl,_,rfl,?_⟩
    unfold deed at q
    dsimp only at q
    by_cases y1:y="num"
    · rw [if_pos y1] at q
      refine iteS y1 ?_
      refine ⟨_,rfl,w,dw1,_,rfl,c1,rfl,w,lw,row,r',rfl,hA1,?_⟩
      cases e:yc LX r' with
      | none =>
        rw [e] at q
        exact q.at k1 (fun b z=>z)
      | some pr =>
        obtain ⟨n,r2⟩:=pr
        rw [e] at q
        dsimp only [Option.map_some] at q ⊢
        intro H2 k2 hA2
        refine ⟨by show 2<=sizeLine; decide,fun p hp=>?_⟩
        exact q _ _ ((k1.trans k2).trans (KpS.new hp)) (hA2.same (zi hp _)) (.tup zc (.cons (.str _) (.cons (.int _) .nil)))
    rw [if_neg y1] at q
    refine wj y1 ?_
    refine ⟨_,rfl,ao,_,rfl,.inr (hO _),rfl,by decide +kernel,_,rfl,?_⟩
    rw [xg]
    by_cases y2:y∈OPS
    · rw [if_pos y2] at q
      refine iteD y2 ?_
      refine ⟨_,rfl,w,dw1,_,rfl,c1,rfl,w,lw,row,r',rfl,hA1,?_⟩
      cases e:zr LX r' with
      | none =>
        rw [e] at q
        exact q.at k1 (fun b z=>z)
      | some pr =>
        obtain ⟨a,r2⟩:=pr
        rw [e] at q
        dsimp only [Option.bind_some] at q ⊢
        intro H2 k2 hA2
        obtain ⟨dw2,ws2,i2,c2,_⟩:=hA2.ex
        refine ⟨_,rfl,_,rfl,_,rfl,w,dw2,_,rfl,c2,rfl,w,lw,row,r2,rfl,hA2,?_⟩
        cases e2:zr LX r2 with
        | none =>
          rw [e2] at q
          exact q.at (k1.trans k2) (fun b z=>z)
        | some pr2 =>
          obtain ⟨b,r3⟩:=pr2
          rw [e2] at q
          dsimp only [Option.map_some] at q ⊢
          intro H3 k3 hA3
          refine ⟨by show 4<=sizeLine; decide,fun p hp=>?_⟩
          exact q _ _ (((k1.trans k2).trans k3).trans (KpS.new hp)) (hA3.same (zi hp _)) (.tup zc (.cons (.str _) (.cons (.str _) (.cons (.str _) (.cons (.str _) .nil)))))
    rw [if_neg y2] at q
    refine wk y2 ?_
    refine ⟨_,rfl,w,dw1,_,rfl,c1,rfl,_,rfl,ad,_,rfl,.inr (hD _),rfl,by decide +kernel,?_⟩
    rw [if_neg Bool.false_ne_true,xg]
    refine ⟨w,lw,row,r',_,rfl,hA1,fun hb=>?_,fun hb=>?_⟩
    · rw [if_pos (of_decide_eq_true hb)] at q
      refine ⟨_,rfl,w,dw1,_,rfl,c1,rfl,w,lw,row,r',rfl,hA1,?_⟩
      cases e:zr LX r' with
      | none =>
        rw [e] at q
        exact q.at k1 (fun b z=>z)
      | some pr =>
        obtain ⟨a,r2⟩:=pr
        rw [e] at q
        dsimp only [Option.bind_some] at q ⊢
        intro H2 k2 hA2
        obtain ⟨dw2,ws2,i2,c2,_⟩:=hA2.ex
        refine ⟨_,rfl,_,rfl,_,rfl,w,dw2,_,rfl,c2,rfl,w,lw,row,r2,_,rfl,hA2,?_⟩
        cases e2:zO LX ";" [] r2 with
        | none =>
          rw [e2] at q
          exact q.at (k1.trans k2) (fun b z=>z)
        | some pr2 =>
          obtain ⟨ns,r3⟩:=pr2
          rw [e2] at q
          dsimp only [Option.map_some] at q ⊢
          intro H3 pn k3 hA3 hpn
          refine ⟨by show 3<=sizeLine; decide,fun p hp=>?_⟩
          have hpn':upd H3 p (.tup [.str y,.str a,.ref pn]) pn=some (.tup (ns.map V.str)):=by rw [zk (zo hpn hp)]; exact hpn
          exact q _ _ (((k1.trans k2).trans k3).trans (KpS.new hp)) (hA3.same (zi hp _)) (.tup zc (.cons (.str _) (.cons (.str _) (.cons (.tup hpn' (IsL.strs ns)) .nil))))
    · rw [if_neg (of_decide_eq_false hb)] at q
      exact q.at k1 (fun b z=>z.elim)
end
end Rdr
namespace Rdr
open PySem L2 K11 Rd
theorem Is.nn {H:Hp} {d:D} {v:V} (h:Is H d v):v≠.non:=by
  cases h <;> intro z <;> cases z
def FrIs (A:Adr) (H:Hp):Fr->Addr->List Addr->Prop
  | .lt x d,b,fp=>fp=[b]/\∃ dx v,H b=some (.ins A.cL dx [("binds",.str x),("deed",v)])/\Is H d v
  | .if0 x,b,fp=>fp=[b]/\∃ dx,H b=some (.ins A.cI dx [("looked",.str x),("first",.non)])
  | .if1 x d,b,fp=>fp=[b]/\∃ dx v,H b=some (.ins A.cI dx [("looked",.str x),("first",v)])/\Is H d v
  | .cs x arms tag ns,b,fp=>∃ la,fp=[b,la]/\∃ dx ph pn va,H b=some (.ins A.cC dx [("looked",.str x),("arms",.ref la),("head",.ref ph)])/\H la=some (.lst va)/\IsL H arms va/\arms.length<=20/\H ph=some (.tup [.str tag,.ref pn])/\H pn=some (.tup (ns.map V.str))
theorem FrIs.keep {A:Adr} {H H':Hp} {fr:Fr} {b:Addr} {fp:List Addr} (h:FrIs A H fr b fp) (k:∀ x∈fp,∀ o,H x=some o->H' x=some o) (t:Tups H H'):FrIs A H' fr b fp:=by
  cases fr with
  | lt x d =>
    obtain ⟨rfl,dx,v,h1,h2⟩:=h
    exact ⟨rfl,dx,v,k _ (List.mem_singleton.mpr rfl) _ h1,h2.keep t⟩
  | if0 x =>
    obtain ⟨rfl,dx,h1⟩:=h
    exact ⟨rfl,dx,k _ (List.mem_singleton.mpr rfl) _ h1⟩
  | if1 x d =>
    obtain ⟨rfl,dx,v,h1,h2⟩:=h
    exact ⟨rfl,dx,v,k _ (List.mem_singleton.mpr rfl) _ h1,h2.keep t⟩
  | cs x arms tag ns =>
    obtain ⟨la,rfl,dx,ph,pn,va,h1,h2,h3,h4,h5,h6⟩:=h
    exact ⟨la,rfl,dx,ph,pn,va,k _ List.mem_cons_self _ h1,k _ (List.mem_cons_of_mem _ List.mem_cons_self) _ h2,h3.keep t,h4,t _ _ h5,t _ _ h6⟩
theorem FrIs.mem {A:Adr} {H:Hp} {fr:Fr} {b:Addr} {fp:List Addr} (h:FrIs A H fr b fp):b∈fp/\∀ x∈fp,∃ o,H x=some o/\∀ xs,o≠.tup xs:=by
  cases fr with
  | lt x d =>
    obtain ⟨rfl,dx,v,h1,h2⟩:=h
    exact ⟨List.mem_singleton.mpr rfl,fun y hy=>by rw [List.mem_singleton.mp hy]; exact ⟨_,h1,by intro xs z; cases z⟩⟩
  | if0 x =>
    obtain ⟨rfl,dx,h1⟩:=h
    exact ⟨List.mem_singleton.mpr rfl,fun y hy=>by rw [List.mem_singleton.mp hy]; exact ⟨_,h1,by intro xs z; cases z⟩⟩
  | if1 x d =>
    obtain ⟨rfl,dx,v,h1,h2⟩:=h
    exact ⟨List.mem_singleton.mpr rfl,fun y hy=>by rw [List.mem_singleton.mp hy]; exact ⟨_,h1,by intro xs z; cases z⟩⟩
  | cs x arms tag ns =>
    obtain ⟨la,rfl,dx,ph,pn,va,h1,h2,_⟩:=h
    refine ⟨List.mem_cons_self,fun y hy=>?_⟩
    rcases List.mem_cons.mp hy with e | hy
    · rw [e]; exact ⟨_,h1,by intro xs z; cases z⟩
    · rw [List.mem_singleton.mp hy]; exact ⟨_,h2,by intro xs z; cases z⟩
def XW (A:Adr):Sp:=fun vs H Q E=>∃ (b w lw dx:Addr) (row:Int) (r:List Str),vs=[.ref b,.ref w]/\AtR A H w lw row r/\H b=some (.ins A.cL dx [])/\b≠w/\(match (zr LX r).bind fun p=>(deed LX p.2).map fun q=>(p.1,q) with
  | none=>Err A E (fun y=>y=w\/y=b) H row
  | some (x,d,r')=>∀ H',KpS (fun y=>y=w\/y=b) H H'->AtR A H' w lw row r'->FrIs A H' (.lt x d) b [b]->Q .non H')
def XX (A:Adr):Sp:=fun vs H Q E=>∃ (b w lw dx:Addr) (row:Int) (r:List Str),vs=[.ref b,.ref w]/\AtR A H w lw row r/\H b=some (.ins A.cI dx [])/\b≠w/\(match zr LX r with
  | none=>Err A E (fun y=>y=w\/y=b) H row
  | some (x,r')=>∀ H',KpS (fun y=>y=w\/y=b) H H'->AtR A H' w lw row r'->FrIs A H' (.if0 x) b [b]->Q .non H')
def XY (A:Adr):Sp:=fun vs H Q E=>∃ (b w lw dx:Addr) (row:Int) (r:List Str),vs=[.ref b,.ref w]/\AtR A H w lw row r/\H b=some (.ins A.cC dx [])/\b≠w/\(match (zr LX r).bind fun p=>(head LX p.2).map fun q=>(p.1,q) with
  | none=>Err A E (fun y=>y=w\/y=b) H row
  | some (x,(t,ns),r')=>∀ H' la,KpS (fun y=>y=w\/y=b) H H'->AtR A H' w lw row r'->H la=none->FrIs A H' (.cs x [] t ns) b [b,la]->Q .non H')
def kL:Fr->Bool
  | .lt _ _=>true
  | _=>false
def kI:Fr->Bool
  | .if0 _=>true
  | .if1 _ _=>true
  | _=>false
def kC:Fr->Bool
  | .cs _ _ _ _=>true
  | _=>false
def xF (A:Adr) (c:Fr->Bool):Sp:=fun vs H Q E=>∃ (b w lw:Addr) (row:Int) (r:List Str) (fr:Fr) (fp:List Addr) (d:D) (v:V),vs=[.ref b,.ref w,v]/\AtR A H w lw row r/\FrIs A H fr b fp/\c fr=true/\(w :: lw :: fp).Nodup/\Is H d v/\(match fill LX d [] fr r with
  | none=>Err A E (fun y=>y=w\/y∈fp) H row
  | some ⟨_,some d',r'⟩=>∀ H' v',KpS (fun y=>y=w\/y∈fp) H H'->AtR A H' w lw row r'->Is H' d' v'->Q v' H'
  | some ⟨f' :: _,none,r'⟩=>∀ H',KpS (fun y=>y=w\/y∈fp) H H'->AtR A H' w lw row r'->FrIs A H' f' b fp->Q .non H'
  | some ⟨[],none,r'⟩=>True)
section
variable {P:Program} {w:World} {K:PySem.W.Frag} {mg:Str->Option Value} {base:Heap} {f:Addr} {fd:FuncData} {A:Adr}
theorem QV:FnScope ["self","words"] ["self","words"] (zn YX):=⟨rfl,rfl,rfl,by decide +kernel,rfl,by decide +kernel,by decide +kernel⟩
theorem V1 (F:Fun K "__init__" "BegunLet.__init__" YX f fd) (T:Txt K mg A) (GN:Me P w K mg base (CXf P w) 5 A.cW "next_name" ["self"] (ym A)) (GD:Ca P w K mg base (CXf P w) 7 "read_deed" ["words"] (V0 A)):FnOk P w K mg base (CXf P w) 8 f fd ["self","words"] (XW A):=by
  refine F.byx QV (fun vs H Q E h=>?_) (fun cdv A' outer s H vs Q E hr h=>?_)
  · obtain ⟨b,w,lw,dx,row,r,rfl,_⟩:=h
    rfl
  obtain ⟨b,w,lw,dx,row,r,rfl,hA,hb,nbw,q⟩:=h
  refine ⟨_,zd (yO (jv 0) (yl (jv 1) T.clW GN (hr.mono (by decide)) zT)) (zh (yO (jv 0) (zN GD hr rfl zT (ja_c (jv 1) ze)))),?_⟩
  obtain ⟨dw,ws,i,a1,a2,_⟩:=hA.ex
  have nbl:b≠lw:=yi hb a2 (by intro z; cases z)
  refine ⟨_,rfl,w,dw,_,rfl,a1,rfl,w,lw,row,r,rfl,hA,?_⟩
  cases e:zr LX r with
  | none =>
    rw [e] at q
    exact q.at KpS.refl (fun y z=>.inl z)
  | some pr =>
    obtain ⟨x,r1⟩:=pr
    rw [e] at q
    dsimp only [Option.bind_some] at q ⊢
    intro H1 k1 hA1
    refine ⟨_,rfl,b,A.cL,dx,_,rfl,k1 _ _ nbw hb,T.clL,T.nBinds,by show 0 < 1000; decide,?_⟩
    have k1':KpS (fun y=>y=w\/y=b) H (upd H1 b (.ins A.cL dx (putF "binds" (.str x) []))):=(k1.mono fun y z=>.inl z).trans (KpS.put (.inr rfl))
    have hA1':AtR A (upd H1 b (.ins A.cL dx (putF "binds" (.str x) []))) w lw row r1:=hA1.kept (S:=(·=b)) (KpS.put rfl) nbw.symm nbl.symm
    refine ⟨_,rfl,w,lw,row,r1,rfl,hA1',?_⟩
    cases e2:deed LX r1 with
    | none =>
      rw [e2] at q
      exact q.at k1' (fun y z=>.inl z)
    | some pr2 =>
      obtain ⟨d,r2⟩:=pr2
      rw [e2] at q
      dsimp only [Option.map_some] at q ⊢
      intro H2 v k2 hA2 hv
      have hb2:H2 b=some (.ins A.cL dx [("binds",.str x)]):=k2 _ _ nbw zc
      refine ⟨_,rfl,b,A.cL,dx,_,rfl,hb2,T.clL,T.nDeed,by show 1 < 1000; decide,?_⟩
      have tp:Tups H2 (upd H2 b (.ins A.cL dx (putF "deed" v [("binds",.str x)]))):=fun p xs z=>by rw [zk (yi z hb2 (by intro z; cases z))]; exact z
      refine q _ ((k1'.trans (k2.mono fun y z=>.inl z)).trans (KpS.put (.inr rfl))) (hA2.kept (S:=(·=b)) (KpS.put rfl) nbw.symm nbl.symm) ⟨rfl,dx,v,zc,hv.keep tp⟩
theorem QW:FnScope ["self","words"] ["self","words"] (zn YZ):=⟨rfl,rfl,rfl,by decide +kernel,rfl,by decide +kernel,by decide +kernel⟩
theorem V2 (F:Fun K "__init__" "BegunIf.__init__" YZ f fd) (T:Txt K mg A) (GN:Me P w K mg base (CXf P w) 5 A.cW "next_name" ["self"] (ym A)):FnOk P w K mg base (CXf P w) 6 f fd ["self","words"] (XX A):=by
  refine F.byx QW (fun vs H Q E h=>?_) (fun cdv A' outer s H vs Q E hr h=>?_)
  · obtain ⟨b,w,lw,dx,row,r,rfl,_⟩:=h
    rfl
  obtain ⟨b,w,lw,dx,row,r,rfl,hA,hb,nbw,q⟩:=h
  refine ⟨_,zd (yO (jv 0) (yl (jv 1) T.clW GN hr zT)) (zh (yO (jv 0) vM)),?_⟩
  obtain ⟨dw,ws,i,a1,a2,_⟩:=hA.ex
  have nbl:b≠lw:=yi hb a2 (by intro z; cases z)
  refine ⟨_,rfl,w,dw,_,rfl,a1,rfl,w,lw,row,r,rfl,hA,?_⟩
  cases e:zr LX r with
  | none =>
    rw [e] at q
    exact q.at KpS.refl (fun y z=>.inl z)
  | some pr =>
    obtain ⟨x,r1⟩:=pr
    rw [e] at q
    dsimp only at q ⊢
    intro H1 k1 hA1
    refine ⟨_,rfl,b,A.cI,dx,_,rfl,k1 _ _ nbw hb,T.clI,T.nLooked,by show 0 < 1000; decide,?_⟩
    refine ⟨_,rfl,b,A.cI,dx,_,rfl,zc,T.clI,T.nFirst,by show 1 < 1000; decide,?_⟩
    refine q _ (((k1.mono fun y z=>.inl z).trans (KpS.put (.inr rfl))).trans (KpS.put (.inr rfl))) ((hA1.kept (S:=(·=b)) (KpS.put rfl) nbw.symm nbl.symm).kept (S:=(·=b)) (KpS.put rfl) nbw.symm nbl.symm) ⟨rfl,dx,zc⟩
theorem QX:FnScope ["self","words"] ["self","words"] (zn Y1):=⟨rfl,rfl,rfl,by decide +kernel,rfl,by decide +kernel,by decide +kernel⟩
theorem V3 (F:Fun K "__init__" "BegunCase.__init__" Y1 f fd) (T:Txt K mg A) (GN:Me P w K mg base (CXf P w) 5 A.cW "next_name" ["self"] (ym A)) (GH:Ca P w K mg base (CXf P w) 7 "read_head" ["words"] (Xf A)):FnOk P w K mg base (CXf P w) 8 f fd ["self","words"] (XY A):=by
  refine F.byx QX (fun vs H Q E h=>?_) (fun cdv A' outer s H vs Q E hr h=>?_)
  · obtain ⟨b,w,lw,dx,row,r,rfl,_⟩:=h
    rfl
  obtain ⟨b,w,lw,dx,row,r,rfl,hA,hb,nbw,q⟩:=h
  refine ⟨_,zd (yO (jv 0) (yl (jv 1) T.clW GN (hr.mono (by decide)) zT)) (zd (yO (jv 0) (zB ze)) (zh (yO (jv 0) (zN GH hr rfl zT (ja_c (jv 1) ze))))),?_⟩
  obtain ⟨dw,ws,i,a1,a2,_⟩:=hA.ex
  have nbl:b≠lw:=yi hb a2 (by intro z; cases z)
  refine ⟨_,rfl,w,dw,_,rfl,a1,rfl,w,lw,row,r,rfl,hA,?_⟩
  cases e:zr LX r with
  | none =>
    rw [e] at q
    exact q.at KpS.refl (fun y z=>.inl z)
  | some pr =>
    obtain ⟨x,r1⟩:=pr
    rw [e] at q
    dsimp only [Option.bind_some] at q ⊢
    intro H1 k1 hA1
    refine ⟨_,rfl,b,A.cC,dx,_,rfl,k1 _ _ nbw hb,T.clC,T.nCLooked,by show 0 < 1000; decide,?_⟩
    have u1:upd H1 b (.ins A.cC dx (putF "looked" (.str x) [])) b=some (.ins A.cC dx [("looked",.str x)]):=zc
    have hA1':AtR A (upd H1 b (.ins A.cC dx (putF "looked" (.str x) []))) w lw row r1:=hA1.kept (S:=(·=b)) (KpS.put rfl) nbw.symm nbl.symm
    have k1':KpS (fun y=>y=w\/y=b) H (upd H1 b (.ins A.cC dx (putF "looked" (.str x) []))):=(k1.mono fun y z=>.inl z).trans (KpS.put (.inr rfl))
    generalize upd H1 b (.ins A.cC dx (putF "looked" (.str x) []))=H2 at *
    refine ⟨by show 0<=sizeLine; decide,fun la hla=>?_⟩
    have nla:∀ {y o},H2 y=some o->y≠la:=fun z=>zo z hla
    have k2:KpS (fun y=>y=w\/y=b) H (upd H2 la (.lst [])):=k1'.trans (KpS.new hla)
    refine ⟨_,rfl,b,A.cC,dx,_,rfl,by rw [zk (nla u1)]; exact u1,T.clC,T.nArms,by show 1 < 1000; decide,?_⟩
    have u3:upd (upd H2 la (.lst [])) b (.ins A.cC dx (putF "arms" (.ref la) [("looked",.str x)])) b=some (.ins A.cC dx [("looked",.str x),("arms",.ref la)]):=zc
    have l3:upd (upd H2 la (.lst [])) b (.ins A.cC dx (putF "arms" (.ref la) [("looked",.str x)])) la=some (.lst []):=by rw [zk (nla u1).symm,zc]
    have k3:=k2.trans (KpS.put (S:=fun y=>y=w\/y=b) (H:=upd H2 la (.lst [])) (a:=b) (o:=.ins A.cC dx (putF "arms" (.ref la) [("looked",.str x)])) (.inr rfl))
    have hA3:AtR A (upd (upd H2 la (.lst [])) b (.ins A.cC dx (putF "arms" (.ref la) [("looked",.str x)]))) w lw row r1:=(hA1'.same (zi hla _)).kept (S:=(·=b)) (KpS.put rfl) nbw.symm nbl.symm
    have laH:H la=none:=by
      cases z:H la with
      | none=>rfl
      | some o =>
        by_cases c:la=w\/la=b
        · rcases c with c | c
          · obtain ⟨_,_,_,c1,_⟩:=hA1'.ex
            rw [c,c1] at hla
            cases hla
          · rw [c,u1] at hla
            cases hla
        · rw [k1' la o c z] at hla
          cases hla
    generalize upd (upd H2 la (.lst [])) b (.ins A.cC dx (putF "arms" (.ref la) [("looked",.str x)]))=H3 at *
    refine ⟨_,rfl,w,lw,row,r1,rfl,hA3,?_⟩
    cases e2:head LX r1 with
    | none =>
      rw [e2] at q
      exact q.at k3 (fun y z=>.inl z)
    | some pr2 =>
      obtain ⟨⟨t,ns⟩,r2⟩:=pr2
      rw [e2] at q
      dsimp only [Option.map_some] at q ⊢
      intro H4 ph pn k4 hA4 hph hpn
      have nlw:la≠w:=fun z=>by
        obtain ⟨_,_,_,c1,_⟩:=hA3.ex
        rw [z,c1] at l3
        cases l3
      have b4:=k4 _ _ nbw u3
      have l4:=k4 _ _ nlw l3
      refine ⟨_,rfl,b,A.cC,dx,_,rfl,b4,T.clC,T.nHead,by show 2 < 1000; decide,?_⟩
      refine q _ la ((k3.trans (k4.mono fun y z=>.inl z)).trans (KpS.put (.inr rfl))) (hA4.kept (S:=(·=b)) (KpS.put rfl) nbw.symm nbl.symm) laH ⟨la,rfl,dx,ph,pn,[],zc,?_,.nil,by decide,?_,?_⟩
      · rw [zk (yi l4 b4 (by intro z; cases z))]
        exact l4
      · rw [zk (yi hph b4 (by intro z; cases z))]
        exact hph
      · rw [zk (yi hpn b4 (by intro z; cases z))]
        exact hpn
end
end Rdr
namespace Rdr
open PySem L2 K11 Rd
section
variable {P:Program} {w:World} {K:PySem.W.Frag} {mg:Str->Option Value} {base:Heap} {f:Addr} {fd:FuncData} {A:Adr}
theorem QY:FnScope ["self","words","body"] ["self","words","body"] (zn YY):=⟨rfl,rfl,rfl,by decide +kernel,rfl,by decide +kernel,by decide +kernel⟩
theorem V4 (F:Fun K "filled" "BegunLet.filled" YY f fd) (T:Txt K mg A):FnOk P w K mg base (CXf P w) 8 f fd ["self","words","body"] (xF A kL):=by
  refine F.byx QY (fun vs H Q E h=>?_) (fun cdv A' outer s H vs Q E hr h=>?_)
  · obtain ⟨b,w,lw,row,r,fr,fp,d,v,rfl,_⟩:=h
    rfl
  obtain ⟨b,w,lw,row,r,fr,fp,d,v,rfl,hA,hF,hc,nd,hv,q⟩:=h
  cases fr with
  | lt x dd =>
    obtain ⟨rfl,dx,vd,hb,hd⟩:=hF
    refine ⟨_,zh (zq (zX (ja_c zj (ja_c (yu (jv 0)) (ja_c (yu (jv 0)) (ja_c (jv 2) ze)))))),?_⟩
    refine ⟨_,rfl,b,A.cL,dx,_,_,rfl,hb,T.clL,T.nBinds,rfl,_,rfl,b,A.cL,dx,_,_,rfl,hb,T.clL,T.nDeed,rfl,_,rfl,by show 4<=sizeLine; decide,fun p hp=>?_⟩
    have tp:=Tups.new (o:=.tup [.str "let",.str x,vd,v]) hp
    exact q _ _ (KpS.new hp) (hA.same (zi hp _)) (.tup zc (.cons (.str _) (.cons (.str _) (.cons (hd.keep tp) (.cons (hv.keep tp) .nil)))))
  | if0 x=>cases hc
  | if1 x e=>cases hc
  | cs x a t n=>cases hc
theorem QZ:FnScope ["self","words","body"] ["self","words","body"] (zn Y0):=⟨rfl,rfl,rfl,by decide +kernel,rfl,by decide +kernel,by decide +kernel⟩
theorem V5 (F:Fun K "filled" "BegunIf.filled" Y0 f fd) (T:Txt K mg A) (GP:Me P w K mg base CX0 2 A.cW "passed" ["self","word"] (xp A)) (GI:Me P w K mg base (CXf P w) 3 A.cW "insist" ["self","fits"] (yv A)):FnOk P w K mg base (CXf P w) 8 f fd ["self","words","body"] (xF A kI):=by
  refine F.byx QZ (fun vs H Q E h=>?_) (fun cdv A' outer s H vs Q E hr h=>?_)
  · obtain ⟨b,w,lw,row,r,fr,fp,d,v,rfl,_⟩:=h
    rfl
  obtain ⟨b,w,lw,row,r,fr,fp,d,v,rfl,hA,hF,hc,nd,hv,q⟩:=h
  refine ⟨_,zd (zC (VI (yu (jv 0))) (zd (zM (yr (jv 1) T.clW GI (hr.mono (by decide)) zT (ja_c (yr (jv 1) T.clW GP (hr.mono (by decide)) zJ (ja_c zj ze)) ze))) (zd (yO (jv 0) (jv 2)) (zh (zq vM)))) zv)
    (zh (zq (zX (ja_c zj (ja_c (yu (jv 0)) (ja_c (yu (jv 0)) (ja_c (jv 2) ze))))))),?_⟩
  obtain ⟨dw,ws,i,a1,a2,_⟩:=hA.ex
  cases fr with
  | lt x e=>cases hc
  | cs x a t n=>cases hc
  | if1 x e =>
    obtain ⟨rfl,dx,ve,hb,he⟩:=hF
    refine ⟨_,rfl,b,A.cI,dx,_,_,rfl,hb,T.clI,T.nFirst,rfl,_,rfl,?_⟩
    refine wk he.nn ?_
    refine ⟨_,rfl,b,A.cI,dx,_,_,rfl,hb,T.clI,T.nLooked,rfl,_,rfl,b,A.cI,dx,_,_,rfl,hb,T.clI,T.nFirst,rfl,_,rfl,by show 4<=sizeLine; decide,fun p hp=>?_⟩
    have tp:=Tups.new (o:=.tup [.str "if",.str x,ve,v]) hp
    exact q _ _ (KpS.new hp) (hA.same (zi hp _)) (.tup zc (.cons (.str _) (.cons (.str _) (.cons (he.keep tp) (.cons (hv.keep tp) .nil)))))
  | if0 x =>
    obtain ⟨rfl,dx,hb⟩:=hF
    have nbw:b≠w:=fun z=>by rw [z] at nd; simp at nd
    have nbl:b≠lw:=fun z=>by rw [z] at nd; simp at nd
    refine ⟨_,rfl,b,A.cI,dx,_,_,rfl,hb,T.clI,T.nFirst,rfl,_,rfl,?_⟩
    refine iteD rfl ?_
    refine ⟨_,rfl,w,dw,_,rfl,a1,rfl,_,rfl,w,dw,_,rfl,a1,rfl,w,lw,row,r,_,rfl,hA,?_⟩
    cases r with
    | nil=>exact ⟨w,lw,row,[],false,rfl,hA,(fun z=>by cases z),fun _=>q.at KpS.refl (fun b z=>z.elim)⟩
    | cons y r' =>
      dsimp only
      unfold fill at q
      dsimp only at q
      by_cases c:y="else"
      · rw [if_pos c] at q ⊢
        intro H1 k1 hA1
        refine ⟨w,lw,row,r',true,rfl,hA1,(fun _=>?_),fun z=>by cases z⟩
        have hb1:=k1 _ _ nbw hb
        refine ⟨_,rfl,_,rfl,b,A.cI,dx,_,rfl,hb1,T.clI,T.nFirst,by show 2 < 1000; decide,?_⟩
        have tp:Tups H (upd H1 b (.ins A.cI dx (putF "first" v [("looked",.str x),("first",.non)]))):=(hA.tups k1).trans fun p xs z=>by rw [zk (yi z hb1 (by intro z; cases z))]; exact z
        exact q _ ((k1.mono fun y z=>.inl z).trans (KpS.put (.inr (List.mem_singleton.mpr rfl)))) (hA1.kept (S:=(·=b)) (KpS.put rfl) nbw.symm nbl.symm) ⟨rfl,dx,v,zc,hv.keep tp⟩
      · rw [if_neg c] at q ⊢
        exact ⟨w,lw,row,y :: r',false,rfl,hA,(fun z=>by cases z),fun _=>q.at KpS.refl (fun b z=>z.elim)⟩
theorem Q0:FnScope ["self","words","body"] ["self","words","body"] (zn Y2):=⟨rfl,rfl,rfl,by decide +kernel,rfl,by decide +kernel,by decide +kernel⟩
theorem V6 (F:Fun K "filled" "BegunCase.filled" Y2 f fd) (T:Txt K mg A) (GP:Me P w K mg base CX0 2 A.cW "passed" ["self","word"] (xp A)) (GI:Me P w K mg base (CXf P w) 3 A.cW "insist" ["self","fits"] (yv A)) (GH:Ca P w K mg base (CXf P w) 7 "read_head" ["words"] (Xf A)):FnOk P w K mg base (CXf P w) 8 f fd ["self","words","body"] (xF A kC):=by
  refine F.byx Q0 (fun vs H Q E h=>?_) (fun cdv A' outer s H vs Q E hr h=>?_)
  · obtain ⟨b,w,lw,row,r,fr,fp,d,v,rfl,_⟩:=h
    rfl
  obtain ⟨b,w,lw,row,r,fr,fp,d,v,rfl,hA,hF,hc,nd,hv,q⟩:=h
  obtain ⟨t20,m20⟩:=T.mostA
  refine ⟨_,zd (zM (zZ PySem.F.plainAttrs_list PySem.F.slot_list_append PySem.F.type_list_append zY (yu (jv 0)) (ja_c (zp Qy (yu (jv 0)) (zX (ja_c (jv 2) ze))) ze)))
    (zd (zC (yw (yr (jv 1) T.clW GP (hr.mono (by decide)) zJ (ja_c zj ze))) (zh (zq (zX (ja_c zj (ja_c (yu (jv 0)) (ja_c (yd yq rfl T.tuple PyProof.Rows.boot_tuple (ja_c (yu (jv 0)) ze)) ze)))))) zv)
    (zd (zM (yr (jv 1) T.clW GI (hr.mono (by decide)) zT (ja_c (yg yR (zK zy rfl T.len PySem.boot_len (ja_c (yu (jv 0)) ze)) (yV (v:=.int 20) rfl m20 ⟨_,rfl⟩) (zw _)) ze)))
    (zd (yO (jv 0) (zN GH hr rfl zT (ja_c (jv 1) ze))) (zh (zq vM))))),?_⟩
  obtain ⟨dw,ws,i,a1,a2,_⟩:=hA.ex
  cases fr with
  | lt x e=>cases hc
  | if0 x=>cases hc
  | if1 x e=>cases hc
  | cs x arms tag ns =>
    obtain ⟨la,rfl,dx,ph,pn,va,hb,hla,har,h20,hph,hpn⟩:=hF
    have nbw:b≠w:=fun z=>by rw [z] at nd; simp at nd
    have nbl:b≠lw:=fun z=>by rw [z] at nd; simp at nd
    have naw:la≠w:=fun z=>by rw [z] at nd; simp at nd
    have nal:la≠lw:=fun z=>by rw [z] at nd; simp at nd
    have nba:b≠la:=yi hb hla (by intro z; cases z)
    have sl:=line
    have lva:=har.len
    refine ⟨_,rfl,b,A.cC,dx,_,_,rfl,hb,T.clC,T.nArms,rfl,.inl ⟨rfl,_,SqL.of hla⟩,_,rfl,b,A.cC,dx,_,_,rfl,hb,T.clC,T.nHead,rfl,_,rfl,by show 1<=sizeLine; decide,fun p1 hp1=>?_⟩
    have n1:∀ {y o},H y=some o->y≠p1:=fun z=>zo z hp1
    refine ⟨ph,p1,_,_,rfl,rfl,SqT.of (by rw [zk (n1 hph)]; exact hph),SqT.of zc,by simp,by show 3<=sizeLine; decide,(fun z=>by cases z),fun _ p2 hp2=>?_⟩
    have hla2:upd (upd H p1 (.tup [v])) p2 (.tup ([.str tag,.ref pn] ++ [v])) la=some (.lst va):=by
      have e1:upd H p1 (.tup [v]) la=some (.lst va):=by rw [zk (n1 hla)]; exact hla
      rw [zk (zo e1 hp2)]
      exact e1
    refine ⟨la,va,_,rfl,rfl,hla2,by lia,?_⟩
    have sm:Same H (upd (upd H p1 (.tup [v])) p2 (.tup ([.str tag,.ref pn] ++ [v]))):=(zi hp1 _).trans (zi hp2 _)
    have hp2':upd (upd H p1 (.tup [v])) p2 (.tup ([.str tag,.ref pn] ++ [v])) p2=some (.tup [.str tag,.ref pn,v]):=zc
    generalize upd (upd H p1 (.tup [v])) p2 (.tup ([.str tag,.ref pn] ++ [v]))=H2 at *
    have tl:Tups H2 (upd H2 la (.lst (va ++ [.ref p2]))):=fun p xs z=>by rw [zk (yi z hla2 (by intro z; cases z))]; exact z
    have tp0:Tups H (upd H2 la (.lst (va ++ [.ref p2]))):=fun p xs z=>tl _ _ (sm _ _ z)
    have kp:KpS (fun y=>y=w\/y∈[b,la]) H (upd H2 la (.lst (va ++ [.ref p2]))):=(KpS.of sm).trans (KpS.put (.inr (by simp)))
    have hA2:AtR A (upd H2 la (.lst (va ++ [.ref p2]))) w lw row r:=(hA.same sm).kept (S:=(·=la)) (KpS.put rfl) naw.symm nal.symm
    have hb2:upd H2 la (.lst (va ++ [.ref p2])) b=some (.ins A.cC dx [("looked",.str x),("arms",.ref la),("head",.ref ph)]):=by rw [zk nba]; exact sm _ _ hb
    have hl2:upd H2 la (.lst (va ++ [.ref p2])) la=some (.lst (va ++ [.ref p2])):=zc
    have arm:Is (upd H2 la (.lst (va ++ [.ref p2]))) (.tup [.str tag,Rd.«strs» ns,d]) (.ref p2):=.tup (tl _ _ hp2') (.cons (.str _) (.cons (.tup (tp0 _ _ hpn) (IsL.strs ns)) (.cons (hv.keep tp0) .nil)))
    have arms':IsL (upd H2 la (.lst (va ++ [.ref p2]))) (arms ++ [.tup [.str tag,Rd.«strs» ns,d]]) (va ++ [.ref p2]):=(har.keep tp0).app (.cons arm .nil)
    generalize upd H2 la (.lst (va ++ [.ref p2]))=H3 at *
    have ⟨dw3,_,_,c3,_⟩:=hA2.ex
    have ln3:(va ++ [V.ref p2]).length=arms.length + 1:=by rw [List.length_append,List.length_singleton,lva]
    refine ⟨_,rfl,w,dw3,_,rfl,c3,rfl,w,lw,row,r,_,rfl,hA2,?_⟩
    unfold fill at q
    dsimp only at q
    have la':(arms ++ [D.tup [.str tag,Rd.«strs» ns,d]]).length=(va ++ [V.ref p2]).length:=arms'.len
    by_cases ce:∃ r',r=("end":Str) :: r'
    · obtain ⟨r',rfl⟩:=ce
      dsimp only at q ⊢
      rw [if_pos rfl] at q ⊢
      intro H4 k4 hA4
      have hb4:=k4 _ _ nbw hb2
      have hl4:=k4 _ _ naw hl2
      have tp4:Tups H3 H4:=hA2.tups k4
      refine ⟨_,rfl,iteT ?_⟩
      refine ⟨_,rfl,b,A.cC,dx,_,_,rfl,hb4,T.clC,T.nCLooked,rfl,_,rfl,b,A.cC,dx,_,_,rfl,hb4,T.clC,T.nArms,rfl,la,_,rfl,.inl ⟨SqL.of hl4,fun p3 hp3=>⟨by show 3<=sizeLine; decide,fun p4 hp4=>?_⟩⟩⟩
      have k5:KpS (fun y=>y=w\/y∈[b,la]) H _:=((kp.trans (k4.mono fun y z=>.inl z)).trans (KpS.new (o:=.tup (va ++ [.ref p2])) hp3)).trans (KpS.new (o:=.tup [.str "case",.str x,.ref p3]) hp4)
      have tp5:Tups H3 _:=(tp4.trans (Tups.new (o:=.tup (va ++ [.ref p2])) hp3)).trans (Tups.new (o:=.tup [.str "case",.str x,.ref p3]) hp4)
      have hp3':upd (upd H4 p3 (.tup (va ++ [.ref p2]))) p4 (.tup [.str "case",.str x,.ref p3]) p3=some (.tup (va ++ [.ref p2])):=by rw [zk (zo zc hp4)]; exact zc
      exact q _ _ k5 ((hA4.same (zi hp3 _)).same (zi hp4 _)) (.tup zc (.cons (.str _) (.cons (.str _) (.cons (.tup hp3' (arms'.keep tp5)) .nil))))
    have q1:(va ++ [V.ref p2]).length < 20->(match head LX r with
        | none=>Err A E (fun y=>y=w\/y∈[b,la]) H row
        | some ((t,ns'),r')=>∀ H',KpS (fun y=>y=w\/y∈[b,la]) H H'->AtR A H' w lw row r'->FrIs A H' (.cs x (arms ++ [D.tup [.str tag,Rd.«strs» ns,d]]) t ns') b [b,la]->Q .non H'):=by
      intro c
      cases r with
      | nil=>exact q
      | cons y r' =>
        dsimp only at q
        rw [if_neg (fun z=>ce ⟨r',by rw [z]⟩),if_pos (by rw [la']; exact c)] at q
        cases e:head LX (y :: r') with
        | none=>rw [e] at q; exact q
        | some pr =>
          obtain ⟨⟨t,ns'⟩,r2⟩:=pr
          rw [e] at q
          exact q
    have q2:¬ (va ++ [V.ref p2]).length < 20->Err A E (fun y=>y=w\/y∈[b,la]) H row:=by
      intro c
      cases r with
      | nil=>exact q
      | cons y r' =>
        dsimp only at q
        rw [if_neg (fun z=>ce ⟨r',by rw [z]⟩),if_neg (by rw [la']; exact c)] at q
        exact q
    clear q
    cases r
    case' cons y r' =>
      dsimp only
      rw [if_neg (fun z=>ce ⟨_,by rw [z]⟩)]
    all_goals
      refine ⟨_,rfl,iteF ?_⟩
      refine ⟨_,rfl,w,dw3,_,rfl,c3,rfl,_,rfl,b,A.cC,dx,_,_,rfl,hb2,T.clC,T.nArms,rfl,la,_,rfl,.inl (SqL.of hl2),_,_,rfl,rfl,w,lw,row,_,_,rfl,hA2,fun hb=>?_,fun hb=>(q2 (fun z=>of_decide_eq_false hb (by lia))).at kp (fun b z=>z.elim)⟩
      have lt20:=of_decide_eq_true hb
      have q1':=q1 (by lia)
      clear q1 q2
      refine ⟨_,rfl,w,lw,row,_,rfl,hA2,?_⟩
      revert q1'
      generalize head LX _=hd
      intro q1'
      cases hd with
      | none=>exact q1'.at kp (fun b z=>.inl z)
      | some pr =>
        obtain ⟨⟨t,ns'⟩,r2⟩:=pr
        dsimp only at q1' ⊢
        intro H4 p4 pn4 k4 hA4 hp4 hpn4
        have hb4:=k4 _ _ nbw hb2
        have hl4:=k4 _ _ naw hl2
        have tp4:Tups H3 H4:=hA2.tups k4
        refine ⟨_,rfl,b,A.cC,dx,_,rfl,hb4,T.clC,T.nHead,by show 3 < 1000; decide,?_⟩
        have tp5:Tups H4 (upd H4 b (.ins A.cC dx (putF "head" (.ref p4) [("looked",.str x),("arms",.ref la),("head",.ref ph)]))):=fun p xs z=>by rw [zk (yi z hb4 (by intro z; cases z))]; exact z
        exact q1' _ ((kp.trans (k4.mono fun y z=>.inl z)).trans (KpS.put (.inr List.mem_cons_self))) (hA4.kept (S:=(·=b)) (KpS.put rfl) nbw.symm nbl.symm) ⟨la,rfl,dx,p4,pn4,_,zc,by rw [zk nba.symm]; exact hl4,arms'.keep (tp4.trans tp5),by rw [la']; lia,tp5 _ _ hp4,tp5 _ _ hpn4⟩
end
end Rdr
namespace Rdr
open PySem L2 K11 Rd
def wI (A:Adr):Sp:=fun vs H Q E=>∃ (w lw lb:Addr) (row:Int) (r:List Str) (bs:List V),vs=[.ref w,.ref lb]/\AtR A H w lw row r/\H lb=some (.lst bs)/\lb≠lw/\bs.length<=1000000/\(match zU LX [] r with
  | none=>Err A E (·=w) H row
  | some ⟨_,some d,r'⟩=>∀ H' v,KpS (·=w) H H'->AtR A H' w lw row r'->Is H' d v->Q v H'
  | some ⟨fr :: _,none,r'⟩=>∀ H' b fp,KpS (fun y=>y=w\/y=lb) H H'->AtR A H' w lw row r'->H' lb=some (.lst (bs ++ [.ref b]))->FrIs A H' fr b fp->(∀ y∈fp,H y=none)->fp.Nodup->Q .non H'
  | some ⟨[],none,r'⟩=>True)
theorem Err.fresh {A:Adr} {E:XK} {H H1 H2:Hp} {row:Int} {w b:Addr} (h:Err A E (·=w) H row) (k1:KpS (·=w) H H1) (s:Same H1 H2) (hb:H1 b=none):Err A E (fun y=>y=w\/y=b) H2 row :=
  fun d H' k' q=>h d H' (fun y o n z=>k' y o (fun m=>m.elim n (fun e=>by have:=k1 y o n z; rw [e,hb] at this; cases this)) (s _ _ (k1 y o n z))) q
theorem x5 {H:Hp} {x dx:Addr} {o o':HO} (hx:H x=none) (hd:H dx=none) (n:dx≠x):Same H (upd (upd H dx o) x o'):=(zi hd o).trans (zi (by rw [zk n.symm]; exact hx) o')
theorem jc {A:Adr} {H H1 H2 H3:Hp} {w lw lb b:Addr} {row:Int} {r1 r3:List Str} {fr:Fr} {fp:List Addr} {bs:List V} {Q:VK} (k1:KpS (·=w) H H1) (hA1:AtR A H1 w lw row r1) (s:Same H1 H2) (hb:H1 b=none) (hl1:H1 lb=some (.lst bs)) (nll:lb≠lw)
    (hA3:AtR A H3 w lw row r3) (k3:KpS (fun y=>y=w\/y=b) H2 H3) (hF:FrIs A H3 fr b fp) (hf:∀ y∈fp,H1 y=none) (nd:fp.Nodup)
    (q:∀ H' b fp,KpS (fun y=>y=w\/y=lb) H H'->AtR A H' w lw row r3->H' lb=some (.lst (bs ++ [.ref b]))->FrIs A H' fr b fp->(∀ y∈fp,H y=none)->fp.Nodup->Q .non H') :
    H3 lb=some (.lst bs)/\Q .non (upd H3 lb (.lst (bs ++ [.ref b]))):=by
  have ⟨dw,_,_,a1,a2,_⟩:=hA1.ex
  have nlw:lb≠w:=yi hl1 a1 (by intro z; cases z)
  have nlb:lb≠b:=zo hl1 hb
  have hl3:H3 lb=some (.lst bs):=k3 _ _ (fun m=>m.elim nlw nlb) (s _ _ hl1)
  refine ⟨hl3,q _ b fp (fun y o n z=>?_) (hA3.kept (S:=(·=lb)) (KpS.put rfl) nlw.symm nll.symm) zc (hF.keep (fun x hx o z=>?_) fun p xs z=>?_) (fun y hy=>?_) nd⟩
  · have z1:=k1 y o (fun e=>n (.inl e)) z
    rw [zk (fun e=>n (.inr e))]
    exact k3 _ _ (fun m=>m.elim (fun e=>n (.inl e)) (zo z1 hb)) (s _ _ z1)
  · rw [zk (fun e=>by have:=hf x hx; rw [e,hl1] at this; cases this)]
    exact z
  · rw [zk (yi z hl3 (by intro z; cases z))]
    exact z
  · cases e:H y with
    | none=>rfl
    | some o =>
      by_cases c:y=w
      · have:=hf y hy
        rw [c,a1] at this
        cases this
      · have:=k1 y o c e
        rw [hf y hy] at this
        cases this
section
variable {P:Program} {w:World} {K:PySem.W.Frag} {mg:Str->Option Value} {base:Heap} {f:Addr} {fd:FuncData} {A:Adr}
theorem Q2:FnScope ["words","begun"] ["words","begun"] (zn Y3):=⟨rfl,rfl,rfl,by decide +kernel,rfl,by decide +kernel,by decide +kernel⟩
theorem V7 (F:Fun K "begin_body" "begin_body" Y3 f fd) (T:Txt K mg A) (GP:Me P w K mg base CX0 2 A.cW "passed" ["self","word"] (xp A)) (GI:Me P w K mg base (CXf P w) 3 A.cW "insist" ["self","fits"] (yv A))
    (GN:Me P w K mg base (CXf P w) 5 A.cW "next_name" ["self"] (ym A))
    (ML:Ma P w K mg base (CXf P w) 8 "BegunLet" A.cL ["self","words"] (XW A)) (MI:Ma P w K mg base (CXf P w) 8 "BegunIf" A.cI ["self","words"] (XX A)) (MC:Ma P w K mg base (CXf P w) 8 "BegunCase" A.cC ["self","words"] (XY A)) :
    FnOk P w K mg base (CXf P w) 10 f fd ["words","begun"] (wI A):=by
  refine F.byx Q2 (fun vs H Q E h=>?_) (fun cdv A' outer s H vs Q E hr h=>?_)
  · obtain ⟨w,lw,lb,row,r,bs,rfl,_⟩:=h
    rfl
  obtain ⟨w,lw,lb,row,r,bs,rfl,hA,hl,nll,hm,q⟩:=h
  refine ⟨_,zd (zC (yw (yr (jv 0) T.clW GP (hr.mono (by decide)) zJ (ja_c zj ze))) (zh (zq (zX (ja_c zj (ja_c (yl (jv 0) T.clW GN (hr.mono (by decide)) zT) ze))))) zv)
    (zd (zC (yw (yr (jv 0) T.clW GP (hr.mono (by decide)) zJ (ja_c zj ze))) (zh (zM (zZ PySem.F.plainAttrs_list PySem.F.slot_list_append PySem.F.type_list_append zY (jv 1) (ja_c (XR ML hr rfl zT (ja_c (jv 0) ze)) ze))))
      (zh (zC (yw (yr (jv 0) T.clW GP (hr.mono (by decide)) zJ (ja_c zj ze))) (zh (zM (zZ PySem.F.plainAttrs_list PySem.F.slot_list_append PySem.F.type_list_append zY (jv 1) (ja_c (XR MI hr rfl zT (ja_c (jv 0) ze)) ze))))
        (zd (zM (yr (jv 0) T.clW GI (hr.mono (by decide)) zT (ja_c (yr (jv 0) T.clW GP (hr.mono (by decide)) zJ (ja_c zj ze)) ze)))
        (zh (zM (zZ PySem.F.plainAttrs_list PySem.F.slot_list_append PySem.F.type_list_append zY (jv 1) (ja_c (XR MC hr rfl zT (ja_c (jv 0) ze)) ze))))))))
    (zh (zq vM))),?_⟩
  have ⟨dw,_,_,a1,a2,_⟩:=hA.ex
  have nlw:lb≠w:=yi hl a1 (by intro z; cases z)
  refine ⟨_,rfl,w,dw,_,rfl,a1,rfl,w,lw,row,r,_,rfl,hA,?_⟩
  cases r with
  | nil =>
    refine ⟨_,rfl,iteF ?_⟩
    refine ⟨_,rfl,w,dw,_,rfl,a1,rfl,w,lw,row,[],_,rfl,hA,⟨_,rfl,iteF ?_⟩⟩
    refine ⟨_,rfl,w,dw,_,rfl,a1,rfl,w,lw,row,[],_,rfl,hA,⟨_,rfl,iteF ?_⟩⟩
    refine ⟨_,rfl,w,dw,_,rfl,a1,rfl,_,rfl,w,dw,_,rfl,a1,rfl,w,lw,row,[],_,rfl,hA,?_⟩
    exact ⟨w,lw,row,[],false,rfl,hA,(fun z=>by cases z),fun _=>q.at KpS.refl (fun b z=>z.elim)⟩
  | cons y r' =>
    unfold zU at q
    dsimp only at q ⊢
    by_cases y1:y="give"
    · rw [if_pos y1] at q ⊢
      intro H1 k1 hA1
      have ⟨dw1,_,_,c1,_⟩:=hA1.ex
      refine ⟨_,rfl,iteT ?_⟩
      refine ⟨_,rfl,w,dw1,_,rfl,c1,rfl,w,lw,row,r',rfl,hA1,?_⟩
      cases e:zr LX r' with
      | none=>rw [e] at q; exact q.at k1 (fun b z=>z)
      | some pr =>
        obtain ⟨x,r2⟩:=pr
        rw [e] at q
        dsimp only [Option.map_some] at q ⊢
        intro H2 k2 hA2
        refine ⟨by show 2<=sizeLine; decide,fun p hp=>?_⟩
        exact q _ _ ((k1.trans k2).trans (KpS.new hp)) (hA2.same (zi hp _)) (.tup zc (.cons (.str _) (.cons (.str _) .nil)))
    rw [if_neg y1] at q ⊢
    refine ⟨_,rfl,iteF ?_⟩
    refine ⟨_,rfl,w,dw,_,rfl,a1,rfl,w,lw,row,y :: r',_,rfl,hA,?_⟩
    dsimp only
    have sl:=line
    by_cases y2:y="let"
    · rw [if_pos y2] at q ⊢
      intro H1 k1 hA1
      refine ⟨_,rfl,iteT ?_⟩
      have hl1:=k1 _ _ nlw hl
      refine ⟨_,rfl,.inl ⟨rfl,_,SqL.of hl1⟩,_,rfl,fun b dx hb hdx ndx=>?_⟩
      have sm:=x5 (o:=.own b) (o':=.ins A.cL dx []) hb hdx ndx
      have hA2:=hA1.same sm
      have ⟨_,_,_,c1,_⟩:=hA1.ex
      refine ⟨b,w,lw,dx,row,r',rfl,hA2,zc,(zo c1 hb).symm,?_⟩
      cases e:zr LX r' with
      | none=>rw [e] at q; exact q.fresh k1 sm hb
      | some pr =>
        obtain ⟨x,r2⟩:=pr
        rw [e] at q
        dsimp only [Option.bind_some] at q ⊢
        cases e2:deed LX r2 with
        | none=>rw [e2] at q; exact q.fresh k1 sm hb
        | some pr2 =>
          obtain ⟨d,r3⟩:=pr2
          rw [e2] at q
          dsimp only [Option.map_some] at q ⊢
          intro H3 k3 hA3 hF
          have ⟨hl3,g⟩:=jc k1 hA1 sm hb hl1 nll hA3 k3 hF (fun y hy=>by rw [List.mem_singleton.mp hy]; exact hb) (by simp) q
          exact ⟨rfl,lb,bs,_,rfl,rfl,hl3,by lia,g⟩
    rw [if_neg y2] at q ⊢
    refine ⟨_,rfl,iteF ?_⟩
    refine ⟨_,rfl,w,dw,_,rfl,a1,rfl,w,lw,row,y :: r',_,rfl,hA,?_⟩
    dsimp only
    by_cases y3:y="if"
    · rw [if_pos y3] at q ⊢
      intro H1 k1 hA1
      refine ⟨_,rfl,iteT ?_⟩
      have hl1:=k1 _ _ nlw hl
      refine ⟨_,rfl,.inl ⟨rfl,_,SqL.of hl1⟩,_,rfl,fun b dx hb hdx ndx=>?_⟩
      have sm:=x5 (o:=.own b) (o':=.ins A.cI dx []) hb hdx ndx
      have hA2:=hA1.same sm
      have ⟨_,_,_,c1,_⟩:=hA1.ex
      refine ⟨b,w,lw,dx,row,r',rfl,hA2,zc,(zo c1 hb).symm,?_⟩
      cases e:zr LX r' with
      | none=>rw [e] at q; exact q.fresh k1 sm hb
      | some pr =>
        obtain ⟨x,r2⟩:=pr
        rw [e] at q
        dsimp only [Option.map_some] at q ⊢
        intro H3 k3 hA3 hF
        have ⟨hl3,g⟩:=jc k1 hA1 sm hb hl1 nll hA3 k3 hF (fun y hy=>by rw [List.mem_singleton.mp hy]; exact hb) (by simp) q
        exact ⟨rfl,lb,bs,_,rfl,rfl,hl3,by lia,g⟩
    rw [if_neg y3] at q ⊢
    refine ⟨_,rfl,iteF ?_⟩
    refine ⟨_,rfl,w,dw,_,rfl,a1,rfl,_,rfl,w,dw,_,rfl,a1,rfl,w,lw,row,y :: r',_,rfl,hA,?_⟩
    dsimp only
    by_cases y4:y="case"
    · rw [if_pos y4] at q ⊢
      intro H1 k1 hA1
      refine ⟨w,lw,row,r',true,rfl,hA1,(fun _=>?_),fun z=>by cases z⟩
      have hl1:=k1 _ _ nlw hl
      refine ⟨_,rfl,.inl ⟨rfl,_,SqL.of hl1⟩,_,rfl,fun b dx hb hdx ndx=>?_⟩
      have sm:=x5 (o:=.own b) (o':=.ins A.cC dx []) hb hdx ndx
      have hA2:=hA1.same sm
      have ⟨_,_,_,c1,_⟩:=hA1.ex
      refine ⟨b,w,lw,dx,row,r',rfl,hA2,zc,(zo c1 hb).symm,?_⟩
      cases e:zr LX r' with
      | none=>rw [e] at q; exact q.fresh k1 sm hb
      | some pr =>
        obtain ⟨x,r2⟩:=pr
        rw [e] at q
        dsimp only [Option.bind_some] at q ⊢
        cases e2:head LX r2 with
        | none=>rw [e2] at q; exact q.fresh k1 sm hb
        | some pr2 =>
          obtain ⟨⟨t,ns⟩,r3⟩:=pr2
          rw [e2] at q
          dsimp only [Option.map_some] at q ⊢
          intro H3 la k3 hA3 hla hF
          have hla1:H1 la=none:=by
            cases z:H1 la with
            | none=>rfl
            | some o=>rw [sm _ _ z] at hla; cases hla
          have nbl:b≠la:=zo zc hla
          have fr2:∀ y∈[b,la],H1 y=none:=by
            intro y hy
            rcases List.mem_cons.mp hy with z | z
            · rw [z]; exact hb
            · rw [List.mem_singleton.mp z]; exact hla1
          have ⟨hl3,g⟩:=jc k1 hA1 sm hb hl1 nll hA3 k3 hF fr2 (by simp [nbl]) q
          exact ⟨rfl,lb,bs,_,rfl,rfl,hl3,by lia,g⟩
    rw [if_neg y4] at q ⊢
    exact ⟨w,lw,row,y :: r',false,rfl,hA,(fun z=>by cases z),fun _=>q.at KpS.refl (fun b z=>z.elim)⟩
end
end Rdr
namespace Rd
open PySem
variable (L:Lex)
theorem vo (st:List Fr) (r:List Str):(zU L [] r=none/\zU L st r=none)\/(∃ d r',zU L [] r=some ⟨[],some d,r'⟩/\zU L st r=some ⟨st,some d,r'⟩/\r'.length < r.length)\/(∃ fr r',zU L [] r=some ⟨[fr],none,r'⟩/\zU L st r=some ⟨fr :: st,none,r'⟩/\r'.length < r.length):=by
  cases r with
  | nil=>exact .inl ⟨rfl,rfl⟩
  | cons w t =>
    unfold zU
    dsimp only
    by_cases c1:w="give"
    · rw [if_pos c1,if_pos c1]
      cases e:zr L t with
      | none=>exact .inl ⟨rfl,rfl⟩
      | some p =>
        have:=yf L e
        exact .inr (.inl ⟨_,_,rfl,rfl,by rw [List.length_cons]; lia⟩)
    rw [if_neg c1,if_neg c1]
    by_cases c2:w="let"
    · rw [if_pos c2,if_pos c2]
      cases e:zr L t with
      | none=>exact .inl ⟨rfl,rfl⟩
      | some p =>
        have:=yf L e
        simp only [Option.bind_some]
        cases e2:deed L p.2 with
        | none=>exact .inl ⟨rfl,rfl⟩
        | some p2 =>
          have:=deed_len L e2
          exact .inr (.inr ⟨_,_,rfl,rfl,by rw [List.length_cons]; lia⟩)
    rw [if_neg c2,if_neg c2]
    by_cases c3:w="if"
    · rw [if_pos c3,if_pos c3]
      cases e:zr L t with
      | none=>exact .inl ⟨rfl,rfl⟩
      | some p =>
        have:=yf L e
        exact .inr (.inr ⟨_,_,rfl,rfl,by rw [List.length_cons]; lia⟩)
    rw [if_neg c3,if_neg c3]
    by_cases c4:w="case"
    · rw [if_pos c4,if_pos c4]
      cases e:zr L t with
      | none=>exact .inl ⟨rfl,rfl⟩
      | some p =>
        have:=yf L e
        simp only [Option.bind_some]
        cases e2:head L p.2 with
        | none=>exact .inl ⟨rfl,rfl⟩
        | some p2 =>
          have:=head_len L e2
          exact .inr (.inr ⟨_,_,rfl,rfl,by rw [List.length_cons]; lia⟩)
    rw [if_neg c4,if_neg c4]
    exact .inl ⟨rfl,rfl⟩
theorem jd (b:D) (st:List Fr) (fr:Fr) (r:List Str):(fill L b [] fr r=none/\fill L b st fr r=none)\/(∃ d r',fill L b [] fr r=some ⟨[],some d,r'⟩/\fill L b st fr r=some ⟨st,some d,r'⟩/\r'.length<=r.length)\/(∃ fr' r',fill L b [] fr r=some ⟨[fr'],none,r'⟩/\fill L b st fr r=some ⟨fr' :: st,none,r'⟩/\r'.length<=r.length):=by
  cases fr with
  | lt x d=>exact .inr (.inl ⟨_,_,rfl,rfl,Nat.le_refl _⟩)
  | if1 x d=>exact .inr (.inl ⟨_,_,rfl,rfl,Nat.le_refl _⟩)
  | if0 x =>
    cases r with
    | nil=>exact .inl ⟨rfl,rfl⟩
    | cons w t =>
      unfold fill
      dsimp only
      by_cases c:w="else"
      · rw [if_pos c,if_pos c]
        exact .inr (.inr ⟨_,_,rfl,rfl,by rw [List.length_cons]; lia⟩)
      · rw [if_neg c,if_neg c]
        exact .inl ⟨rfl,rfl⟩
  | cs x arms tag names =>
    cases r with
    | nil=>exact .inl ⟨rfl,rfl⟩
    | cons w t =>
      unfold fill
      dsimp only
      by_cases c:w="end"
      · rw [if_pos c,if_pos c]
        exact .inr (.inl ⟨_,_,rfl,rfl,by rw [List.length_cons]; lia⟩)
      rw [if_neg c,if_neg c]
      by_cases c2:(arms ++ [D.tup [.str tag,Rd.«strs» names,b]]).length < 20
      · rw [if_pos c2,if_pos c2]
        cases e:head L (w :: t) with
        | none=>exact .inl ⟨rfl,rfl⟩
        | some p =>
          have:=head_len L e
          exact .inr (.inr ⟨_,_,rfl,rfl,by lia⟩)
      · rw [if_neg c2,if_neg c2]
        exact .inl ⟨rfl,rfl⟩
theorem Runs.inv {n:Nat} {s:S} {o:Option (D × List Str)} (h:Runs L n s o) (g:s.body=none\/s.begun≠[]):(step L s=none/\o=none)\/∃ m s',n=m + 1/\step L s=some s'/\Runs L m s' o:=by
  cases h with
  | done=>rcases g with g | g <;> simp at g
  | turn _ h1 h2=>exact .inr ⟨_,_,rfl,h1,h2⟩
  | fail _ h1=>exact .inl ⟨h1,rfl⟩
end Rd
namespace Rdr
open PySem L2 K11 Rd
inductive StIs (A:Adr) (H:Hp):List Fr->List Addr->List Addr->Prop
  | nil:StIs A H [] [] []
  | cons {fr:Fr} {b:Addr} {fp:List Addr} {st:List Fr} {bs fps:List Addr}:FrIs A H fr b fp->StIs A H st bs fps->StIs A H (fr :: st) (b :: bs) (fp ++ fps)
theorem StIs.len {A:Adr} {H:Hp} {st:List Fr} {bs fps:List Addr} (h:StIs A H st bs fps):st.length=bs.length:=by
  induction h with
  | nil=>rfl
  | cons _ _ ih=>rw [List.length_cons,List.length_cons,ih]
theorem StIs.keep {A:Adr} {H H':Hp} {st:List Fr} {bs fps:List Addr} (h:StIs A H st bs fps) (k:∀ x∈fps,∀ o,H x=some o->H' x=some o) (t:Tups H H'):StIs A H' st bs fps:=by
  induction h with
  | nil=>exact .nil
  | cons h1 _ ih=>exact .cons (h1.keep (fun x hx=>k x (List.mem_append_left _ hx)) t) (ih fun x hx=>k x (List.mem_append_right _ hx))
theorem StIs.mem {A:Adr} {H:Hp} {st:List Fr} {bs fps:List Addr} (h:StIs A H st bs fps):∀ x∈fps,∃ o,H x=some o/\∀ xs,o≠.tup xs:=by
  induction h with
  | nil=>intro x hx; cases hx
  | cons h1 _ ih =>
    intro x hx
    rcases List.mem_append.mp hx with z | z
    · exact h1.mem.2 x z
    · exact ih x z
def V8 (A:Adr):Sp:=fun vs H Q E=>∃ (w lw:Addr) (row:Int) (r:List Str) (n:Nat) (o:Option (D × List Str)),vs=[.ref w]/\AtR A H w lw row r/\Runs LX n ⟨[],none,r⟩ o/\(match o with
  | none=>Err A E (·=w) H row
  | some (d,r')=>∀ H' v,KpS (·=w) H H'->AtR A H' w lw row r'->Is H' d v->Q v H')
end Rdr
namespace Rdr
open PySem L2 K11 Rd
theorem KpS.fresh {S:Addr->Prop} {H H2 H3:Hp} {w:Addr} (k:KpS (·=w) H H2) (k':KpS S H2 H3) (hs:∀ y,S y->y=w\/H y=none):KpS (·=w) H H3:=fun y o n z=>k' y o (fun m=>(hs y m).elim n (fun e=>by rw [z] at e; cases e)) (k y o n z)
theorem Err.new {A:Adr} {E:XK} {S:Addr->Prop} {H H2:Hp} {w:Addr} {row:Int} (h:Err A E (·=w) H row) (k:KpS (·=w) H H2) (hs:∀ y,S y->y=w\/H y=none):Err A E S H2 row:=fun d H' k' q=>h d H' (k.fresh k' hs) q
theorem nod {w lw lb:Addr} {fp fps:List Addr} (h:(w :: lw :: lb :: fps).Nodup) (g:fp.Nodup) (f:∀ y∈fp,y≠w/\y≠lw/\y≠lb/\y ∉ fps):(w :: lw :: lb :: (fp ++ fps)).Nodup:=by
  simp only [List.nodup_cons,List.mem_cons,List.mem_append,List.nodup_append,not_or] at h ⊢
  obtain ⟨⟨h1,h2,h3⟩,⟨h4,h5⟩,h6,h7⟩:=h
  refine ⟨⟨h1,h2,fun z=>(f _ z).1 rfl,h3⟩,⟨h4,fun z=>(f _ z).2.1 rfl,h5⟩,⟨fun z=>(f _ z).2.2.1 rfl,h6⟩,g,h7,fun a ha b hb e=>(f _ ha).2.2.2 (by rw [e]; exact hb)⟩
theorem V9 {w lw lb:Addr} {fp fps:List Addr} (h:(w :: lw :: lb :: (fp ++ fps)).Nodup):(w :: lw :: lb :: fps).Nodup/\(w :: lw :: fp).Nodup/\(∀ y∈fp,y≠w/\y≠lw/\y≠lb/\y ∉ fps)/\∀ y∈fps,y≠w/\y≠lw/\y≠lb/\y ∉ fp:=by
  simp only [List.nodup_cons,List.mem_cons,List.mem_append,List.nodup_append,not_or] at h ⊢
  obtain ⟨⟨h1,h2,h3,h3'⟩,⟨h4,h5,h5'⟩,⟨h6,h6'⟩,g,h7,h8⟩:=h
  refine ⟨⟨⟨h1,h2,h3'⟩,⟨h4,h5'⟩,h6',h7⟩,⟨⟨h1,h3⟩,h5,g⟩,fun y hy=>⟨fun e=>h3 (by rw [<- e]; exact hy),fun e=>h5 (by rw [<- e]; exact hy),fun e=>h6 (by rw [<- e]; exact hy),fun z=>h8 _ hy _ z rfl⟩,fun y hy=>⟨fun e=>h3' (by rw [<- e]; exact hy),fun e=>h5' (by rw [<- e]; exact hy),fun e=>h6' (by rw [<- e]; exact hy),fun z=>h8 _ z _ hy rfl⟩⟩
theorem iteN {c A B:Prop} [Decidable c] (e:c) (h:B):if (!decide c)=true then A else B:=by
  rw [decide_eq_true e]
  exact iteF h
theorem Ye {c A B:Prop} [Decidable c] (e:¬ c) (h:A):if (!decide c)=true then A else B:=by
  rw [decide_eq_false e]
  exact iteT h
section
variable {P:Program} {w:World} {K:PySem.W.Frag} {mg:Str->Option Value} {base:Heap} {f:Addr} {fd:FuncData} {A:Adr}
theorem scBody:FnScope ["words","begun","body"] ["words"] (zn wU):=⟨rfl,rfl,rfl,by decide +kernel,rfl,by decide +kernel,by decide +kernel⟩
structure BW (A:Adr) (H:Hp) (w lw lb:Addr) (row:Int) (k:Nat) (o:Option (D × List Str)) (n:Nat) (σ:St) (H2:Hp) (st:List Fr) (body:Option D) (r:List Str) (bs fps:List Addr) (vb:V):Prop where
  runs:Runs LX n ⟨st,body,r⟩ o
  loc:σ=[some (.ref w),some (.ref lb),some vb]
  at_:AtR A H2 w lw row r
  lst:H2 lb=some (.lst (bs.reverse.map V.ref))
  sts:StIs A H2 st bs fps
  nod:(w :: lw :: lb :: fps).Nodup
  new:∀ y∈fps,H y=none
  newl:H lb=none
  kps:KpS (·=w) H H2
  len:st.length + r.length<=k
  big:k<=1000000
  bod:match body with | none=>vb=.non/\st≠[] | some d=>Is H2 d vb
def BWx (A:Adr) (H:Hp) (w lw lb:Addr) (row:Int) (k:Nat) (o:Option (D × List Str)) (n:Nat) (σ:St) (H2:Hp):Prop:=∃ st body r bs fps vb,BW A H w lw lb row k o n σ H2 st body r bs fps vb
theorem jf {vs:List V} {H:Hp} {Q Q':VK} {E:XK} (h:wI A vs H Q' E) (g:∀ v H',Q' v H'->Q v H'):wI A vs H Q E:=by
  obtain ⟨w,lw,lb,row,r,bs,e,hA,hl,n,m,q⟩:=h
  refine ⟨w,lw,lb,row,r,bs,e,hA,hl,n,m,?_⟩
  rcases vo LX [] r with ⟨e,_⟩ | ⟨d,r1,e,_⟩ | ⟨fr,r1,e,_⟩ <;> rw [e] at q ⊢
  · exact q
  · exact fun H' v a b c=>g _ _ (q H' v a b c)
  · exact fun H' b fp a1 a2 a3 a4 a5 a6=>g _ _ (q H' b fp a1 a2 a3 a4 a5 a6)
theorem x6 {c:Fr->Bool} {vs:List V} {H:Hp} {Q Q':VK} {E:XK} (h:xF A c vs H Q' E) (g:∀ v H',Q' v H'->Q v H'):xF A c vs H Q E:=by
  obtain ⟨b,w,lw,row,r,fr,fp,d,v,e,hA,hF,hc,nd,hv,q⟩:=h
  refine ⟨b,w,lw,row,r,fr,fp,d,v,e,hA,hF,hc,nd,hv,?_⟩
  rcases jd LX d [] fr r with ⟨e,_⟩ | ⟨d,r1,e,_⟩ | ⟨fr',r1,e,_⟩ <;> rw [e] at q ⊢
  · exact q
  · exact fun H' v a b c=>g _ _ (q H' v a b c)
  · exact fun H' a b c=>g _ _ (q H' a b c)
theorem jg {H H2:Hp} {E:XK} {w lw lb:Addr} {row:Int} {k n:Nat} {o:Option (D × List Str)} {st:List Fr} {r:List Str} {bs fps:List Addr} (hR:Runs LX n ⟨st,none,r⟩ o) (hA:AtR A H2 w lw row r) (hl:H2 lb=some (.lst (bs.reverse.map V.ref))) (hs:StIs A H2 st bs fps)
    (nd:(w :: lw :: lb :: fps).Nodup) (new:∀ y∈fps,H y=none) (newl:H lb=none) (k2:KpS (·=w) H H2) (len:st.length + r.length<=k) (big:k<=1000000) (q:o=none->Err A E (·=w) H row) :
    wI A [.ref w,.ref lb] H2 (fun v H'=>∃ m,m < n/\BWx A H w lw lb row k o m [some (.ref w),some (.ref lb),some v] H') E:=by
  have ⟨dw,_,_,a1,a2,_⟩:=hA.ex
  have nlw:lb≠w:=yi hl a1 (by intro z; cases z)
  have nll:lb≠lw:=fun e=>by rw [e] at nd; simp at nd
  have hsl:=hs.len
  refine ⟨w,lw,lb,row,r,_,rfl,hA,hl,nll,by rw [List.length_map,List.length_reverse]; lia,?_⟩
  rcases vo LX st r with ⟨e,e'⟩ | ⟨d,r1,e,e',hlt⟩ | ⟨fr,r1,e,e',hlt⟩ <;> rw [e]
  · rcases hR.inv LX (.inl rfl) with ⟨_,h2⟩ | ⟨m,s',_,h2,_⟩
    · exact (q h2).at k2 (fun b z=>z)
    · have h3:zU LX st r=some s':=h2
      rw [e'] at h3
      cases h3
  · rcases hR.inv LX (.inl rfl) with ⟨h2,_⟩ | ⟨m,s',rfl,h2,hR'⟩
    · have h3:zU LX st r=none:=h2
      rw [e'] at h3
      cases h3
    · have h3:zU LX st r=some s':=h2
      rw [e'] at h3
      cases h3
      intro H3 v k3 hA3 hv
      have nw:∀ y∈fps,y≠w:=fun y hy e=>by rw [e] at hy; simp [hy] at nd
      exact ⟨m,Nat.lt_succ_self _,st,some d,r1,bs,fps,v,hR',rfl,hA3,k3 _ _ nlw hl,hs.keep (fun x hx o z=>k3 _ _ (nw x hx) z) (hA.tups k3),nd,new,newl,k2.trans k3,by lia,big,hv⟩
  · rcases hR.inv LX (.inl rfl) with ⟨h2,_⟩ | ⟨m,s',rfl,h2,hR'⟩
    · have h3:zU LX st r=none:=h2
      rw [e'] at h3
      cases h3
    · have h3:zU LX st r=some s':=h2
      rw [e'] at h3
      cases h3
      intro H3 b fp k3 hA3 hl3 hF hn hnd
      have nw:∀ y∈fps,¬ (y=w\/y=lb):=fun y hy e=>by rcases e with e | e <;> · rw [e] at hy; simp [hy] at nd
      have tp:Tups H2 H3:=k3.tups fun b z xs y=>by
        rcases z with z | z
        · rw [z,a1] at y; cases y
        · rw [z,hl] at y; cases y
      have hs3:StIs A H3 (fr :: st) (b :: bs) (fp ++ fps):=.cons hF (hs.keep (fun x hx o z=>k3 _ _ (nw x hx) z) tp)
      refine ⟨m,Nat.lt_succ_self _,fr :: st,none,r1,b :: bs,fp ++ fps,.non,hR',rfl,hA3,by rw [hl3]; simp,hs3,nod nd hnd (fun y hy=>?_),(fun y hy=>?_),newl,k2.fresh k3 (fun y z=>z.elim .inl fun e=>.inr (by rw [e]; exact newl)),by rw [List.length_cons]; lia,big,rfl,by simp⟩
      · have z:=hn y hy
        exact ⟨(fun e=>by rw [e,a1] at z; cases z),(fun e=>by rw [e,a2] at z; cases z),(fun e=>by rw [e,hl] at z; cases z),fun h=>by obtain ⟨o,h1,_⟩:=hs.mem y h; rw [h1] at z; cases z⟩
      · rcases List.mem_append.mp hy with z | z
        · have z':=hn y z
          cases h:H y with
          | none=>rfl
          | some o =>
            by_cases c:y=w
            · rw [c,a1] at z'; cases z'
            · rw [k2 _ _ c h] at z'; cases z'
        · exact new y z
theorem x8 {c:Fr->Bool} {H H2:Hp} {E:XK} {w lw lb b:Addr} {row:Int} {k n:Nat} {o:Option (D × List Str)} {fr:Fr} {d:D} {vb:V} {st:List Fr} {r:List Str} {bs fps fp:List Addr} (hc:c fr=true) (hR:Runs LX n ⟨fr :: st,some d,r⟩ o) (hA:AtR A H2 w lw row r) (hl:H2 lb=some (.lst ((b :: bs).reverse.map V.ref))) (hF:FrIs A H2 fr b fp) (hs:StIs A H2 st bs fps)
    (nd:(w :: lw :: lb :: (fp ++ fps)).Nodup) (new:∀ y∈fp ++ fps,H y=none) (newl:H lb=none) (k2:KpS (·=w) H H2) (len:(fr :: st).length + r.length<=k) (big:k<=1000000) (hv:Is H2 d vb) (q:o=none->Err A E (·=w) H row) :
    xF A c [.ref b,.ref w,vb] H2 (fun v H'=>(v=.non/\∃ m,m < n/\BWx A H w lw lb row k o m [some (.ref w),some (.ref lb),some .non] H')\/(v≠.non/\H' lb=some (.lst ((b :: bs).reverse.map V.ref))/\∃ m,m < n/\BWx A H w lw lb row k o m [some (.ref w),some (.ref lb),some v] (upd H' lb (.lst (bs.reverse.map V.ref))))) E:=by
  have ⟨dw,_,_,a1,a2,_⟩:=hA.ex
  have nlw:lb≠w:=yi hl a1 (by intro z; cases z)
  have nll:lb≠lw:=fun e=>by rw [e] at nd; simp at nd
  obtain ⟨nd1,nd2,n3,n4⟩:=V9 nd
  have hlen:=len
  rw [List.length_cons] at hlen
  refine ⟨b,w,lw,row,r,fr,fp,d,vb,rfl,hA,hF,hc,nd2,hv,?_⟩
  have fs:∀ y,(y=w\/y∈fp)->y=w\/H y=none:=fun y z=>z.imp_right fun z=>new y (List.mem_append_left _ z)
  have tp:∀ {H3},KpS (fun y=>y=w\/y∈fp) H2 H3->Tups H2 H3:=fun k3=>k3.tups fun b z xs y=>by
    rcases z with z | z
    · rw [z,a1] at y; cases y
    · obtain ⟨o,h1,h2⟩:=hF.mem.2 b z
      rw [h1] at y
      injection y with y
      exact h2 _ y
  rcases jd LX d st fr r with ⟨e,e'⟩ | ⟨d',r1,e,e',hlt⟩ | ⟨fr',r1,e,e',hlt⟩ <;> rw [e]
  · rcases hR.inv LX (.inr (by simp)) with ⟨_,h2⟩ | ⟨m,s',_,h2,_⟩
    · exact (q h2).new k2 fs
    · have h3:fill LX d st fr r=some s':=h2
      rw [e'] at h3
      cases h3
  · rcases hR.inv LX (.inr (by simp)) with ⟨h2,_⟩ | ⟨m,s',rfl,h2,hR'⟩
    · have h3:fill LX d st fr r=none:=h2
      rw [e'] at h3
      cases h3
    · have h3:fill LX d st fr r=some s':=h2
      rw [e'] at h3
      cases h3
      intro H3 v k3 hA3 hv3
      have hl3:H3 lb=some (.lst ((b :: bs).reverse.map V.ref)):=k3 _ _ (fun z=>z.elim nlw fun z=>(n3 _ z).2.2.1 rfl) hl
      have tl:Tups H3 (upd H3 lb (.lst (bs.reverse.map V.ref))):=fun p xs z=>by rw [zk (yi z hl3 (by intro z; cases z))]; exact z
      have hs3:StIs A (upd H3 lb (.lst (bs.reverse.map V.ref))) st bs fps:=hs.keep (fun x hx o z=>by rw [zk (n4 x hx).2.2.1]; exact k3 _ _ (fun m=>m.elim (n4 x hx).1 (n4 x hx).2.2.2) z) ((tp k3).trans tl)
      refine .inr ⟨hv3.nn,hl3,m,Nat.lt_succ_self _,st,some d',r1,bs,fps,v,hR',rfl,hA3.kept (S:=(·=lb)) (KpS.put rfl) nlw.symm nll.symm,zc,hs3,nd1,fun y hy=>new y (List.mem_append_right _ hy),newl,?_,by lia,big,hv3.keep tl⟩
      exact (k2.fresh k3 fs).fresh (S:=(·=lb)) (KpS.put rfl) fun y e=>.inr (by rw [e]; exact newl)
  · rcases hR.inv LX (.inr (by simp)) with ⟨h2,_⟩ | ⟨m,s',rfl,h2,hR'⟩
    · have h3:fill LX d st fr r=none:=h2
      rw [e'] at h3
      cases h3
    · have h3:fill LX d st fr r=some s':=h2
      rw [e'] at h3
      cases h3
      intro H3 k3 hA3 hF3
      have hl3:H3 lb=some (.lst ((b :: bs).reverse.map V.ref)):=k3 _ _ (fun z=>z.elim nlw fun z=>(n3 _ z).2.2.1 rfl) hl
      have hs3:StIs A H3 st bs fps:=hs.keep (fun x hx o z=>k3 _ _ (fun m=>m.elim (n4 x hx).1 (n4 x hx).2.2.2) z) (tp k3)
      exact .inl ⟨rfl,m,Nat.lt_succ_self _,fr' :: st,none,r1,b :: bs,fp ++ fps,.non,hR',rfl,hA3,hl3,.cons hF3 hs3,nd,new,newl,k2.fresh k3 fs,by rw [List.length_cons]; lia,big,rfl,by simp⟩
theorem Q3 (F:Fun K "read_body" "read_body" wU f fd) (T:Txt K mg A) (GB:Ca P w K mg base (CXf P w) 10 "begin_body" ["words","begun"] (wI A)) (FL:Me P w K mg base (CXf P w) 8 A.cL "filled" ["self","words","body"] (xF A kL)) (FI:Me P w K mg base (CXf P w) 8 A.cI "filled" ["self","words","body"] (xF A kI)) (FC:Me P w K mg base (CXf P w) 8 A.cC "filled" ["self","words","body"] (xF A kC)) :
    FnOk P w K mg base (CXf P w) 11 f fd ["words"] (V8 A):=by
  refine F.byx scBody (fun vs H Q E h=>?_) (fun cdv A' outer s H vs Q E hr h=>?_)
  · obtain ⟨w,lw,row,r,n,o,rfl,_⟩:=h
    rfl
  obtain ⟨w,lw,row,r0,n0,o,rfl,hA,hR,q⟩:=h
  refine ⟨_,zd (zu (i:=1) scBody.nd rfl (Or.inl rfl) (zB ze))
    (zd (zu (i:=2) scBody.nd rfl (Or.inl rfl) (zN GB hr rfl zT (ja_c (jv 0) (ja_c (jv 1) ze))))
    (zd (xa ownx (zt ZZ (zK zy rfl T.len PySem.boot_len (ja_c (jv 1) ze)) zg (zw _))
      (zh (zC (VI (jv 2)) (zh (zu (i:=2) scBody.nd rfl (Or.inl rfl) (zN GB hr rfl zT (ja_c (jv 0) (ja_c (jv 1) ze)))))
        (zd (zu (i:=2) scBody.nd rfl (Or.inl rfl)
          (VH (VH (yr (zE zG (jv 1) (yt zg) (fun _ _=>rfl)) T.clL FL (hr.mono (by decide)) zT (ja_c (jv 0) (ja_c (jv 2) ze)))
            (yr (zE zG (jv 1) (yt zg) (fun _ _=>rfl)) T.clI FI (hr.mono (by decide)) zT (ja_c (jv 0) (ja_c (jv 2) ze))))
            (yr (zE zG (jv 1) (yt zg) (fun _ _=>rfl)) T.clC FC (hr.mono (by decide)) zT (ja_c (jv 0) (ja_c (jv 2) ze)))))
        (zh (zC (QJ (jv 2)) (zh (zM (wp PySem.F.plainAttrs_list PySem.F.slot_list_pop PySem.F.type_list_pop wu (jv 1)))) zv))))))
    (zh (zq (jv 2))))),?_⟩
  have ⟨dw,ws,i,a1,a2,a3,a4,a5,_⟩:=hA.ex
  have hk:r0.length<=1000000:=by rw [a3,List.length_drop]; lia
  refine ⟨by show 0<=sizeLine; decide,fun lb hlb=>?_⟩
  have nlw:lb≠w:=(zo a1 hlb).symm
  have nll:lb≠lw:=(zo a2 hlb).symm
  have hE:o=none->Err A E (·=w) H row:=fun e=>by rw [e] at q; exact q
  refine ⟨_,rfl,_,rfl,jf (jg (bs:=[]) (fps:=[]) hR (hA.same (zi hlb _)) zc .nil (by simp [nlw.symm,nll.symm,hA.ne]) (fun y hy=>by cases hy) hlb (KpS.new hlb) (by show 0 + r0.length<=r0.length; lia) hk hE) ?_⟩
  rintro v1 H1 ⟨m1,_,w1⟩
  refine ⟨BWx A H w lw lb row r0.length o,⟨m1,w1⟩,?_⟩
  rintro m σ H2 ⟨st,body,r,bs,fps,vb,B⟩
  have hlen:=B.len
  have hsl:=B.sts.len
  rw [B.loc]
  refine ⟨_,rfl,lb,_,rfl,.inl (SqL.of B.lst),_,_,rfl,rfl,_,rfl,?_⟩
  cases st with
  | nil =>
    cases body with
    | none=>exact absurd rfl B.bod.2
    | some d =>
      have e0:bs=[]:=by cases B.sts; rfl
      have hr:=B.runs
      refine wk (by rw [e0]; decide) ?_
      refine ⟨_,rfl,?_⟩
      cases hr with
      | done=>exact q H2 vb B.kps B.at_ B.bod
      | turn h _ _=>rcases h with h | h <;> simp at h
      | fail h _=>rcases h with h | h <;> simp at h
  | cons fr st =>
    refine iteD (by rw [List.length_map,List.length_reverse]; rw [List.length_cons] at hsl; lia) ⟨_,fun _ _ h=>h,?_⟩
    cases body with
    | none =>
      rw [B.bod.1]
      refine ⟨_,rfl,_,rfl,iteD rfl ?_⟩
      refine ⟨_,rfl,_,rfl,jf (jg B.runs B.at_ B.lst B.sts B.nod B.new B.newl B.kps B.len B.big hE) ?_⟩
      rintro v H3 ⟨m',h1,h2⟩
      exact ⟨m',h1,h2⟩
    | some d =>
      have hv:Is H2 d vb:=B.bod
      refine ⟨_,rfl,_,rfl,wk hv.nn ?_⟩
      have hst:=B.sts
      have hl:=B.lst
      have nd:=B.nod
      have nw:=B.new
      have hsz:=B.len
      cases hst with
      | cons hF hs =>
        rename_i b fp bs fps
        have e1:(b :: bs).reverse.map V.ref=bs.reverse.map V.ref ++ [.ref b]:=by simp
        have ix:atI ((b :: bs).reverse.map V.ref) (-1)=some (.ref b):=by rw [e1]; exact Vq _ _
        have e2:((b :: bs).reverse.map V.ref)[((b :: bs).reverse.map V.ref).length - 1]?=some (.ref b):=by rw [e1]; simp
        have e3:((b :: bs).reverse.map V.ref).dropLast=bs.reverse.map V.ref:=by rw [e1]; simp
        cases fr with
        | lt x dd =>
          obtain ⟨rfl,dx,vd,hb,hd⟩:=hF
          refine .inl (.inl ⟨_,rfl,_,rfl,lb,_,_,_,rfl,rfl,SqL.of hl,ix,b,dx,_,rfl,hb,rfl,_,rfl,_,rfl,x6 (x8 (c:=kL) rfl B.runs B.at_ hl ⟨rfl,dx,vd,hb,hd⟩ hs nd nw B.newl B.kps hsz B.big hv hE) ?_⟩)
          rintro v H3 (⟨rfl,m',h1,h2⟩ | ⟨nn,hl3,m',h1,h2⟩)
          · exact ⟨_,rfl,_,rfl,iteN rfl ⟨m',h1,h2⟩⟩
          · exact ⟨_,rfl,_,rfl,Ye nn ⟨_,rfl,.inl ⟨rfl,_,SqL.of hl3⟩,lb,_,_,rfl,rfl,hl3,e2,m',h1,by rw [e3]; exact h2⟩⟩
        | if0 x =>
          obtain ⟨rfl,dx,hb⟩:=hF
          refine .inl (.inr ⟨_,rfl,_,rfl,lb,_,_,_,rfl,rfl,SqL.of hl,ix,b,dx,_,rfl,hb,rfl,_,rfl,_,rfl,x6 (x8 (c:=kI) rfl B.runs B.at_ hl ⟨rfl,dx,hb⟩ hs nd nw B.newl B.kps hsz B.big hv hE) ?_⟩)
          rintro v H3 (⟨rfl,m',h1,h2⟩ | ⟨nn,hl3,m',h1,h2⟩)
          · exact ⟨_,rfl,_,rfl,iteN rfl ⟨m',h1,h2⟩⟩
          · exact ⟨_,rfl,_,rfl,Ye nn ⟨_,rfl,.inl ⟨rfl,_,SqL.of hl3⟩,lb,_,_,rfl,rfl,hl3,e2,m',h1,by rw [e3]; exact h2⟩⟩
        | if1 x dd =>
          obtain ⟨rfl,dx,vd,hb,hd⟩:=hF
          refine .inl (.inr ⟨_,rfl,_,rfl,lb,_,_,_,rfl,rfl,SqL.of hl,ix,b,dx,_,rfl,hb,rfl,_,rfl,_,rfl,x6 (x8 (c:=kI) rfl B.runs B.at_ hl ⟨rfl,dx,vd,hb,hd⟩ hs nd nw B.newl B.kps hsz B.big hv hE) ?_⟩)
          rintro v H3 (⟨rfl,m',h1,h2⟩ | ⟨nn,hl3,m',h1,h2⟩)
          · exact ⟨_,rfl,_,rfl,iteN rfl ⟨m',h1,h2⟩⟩
          · exact ⟨_,rfl,_,rfl,Ye nn ⟨_,rfl,.inl ⟨rfl,_,SqL.of hl3⟩,lb,_,_,rfl,rfl,hl3,e2,m',h1,by rw [e3]; exact h2⟩⟩
        | cs x arms tag ns =>
          have hF':=hF
          obtain ⟨la,rfl,dx,ph,pn,va,hb,_⟩:=hF
          refine .inr ⟨_,rfl,_,rfl,lb,_,_,_,rfl,rfl,SqL.of hl,ix,b,dx,_,rfl,hb,rfl,_,rfl,_,rfl,x6 (x8 (c:=kC) rfl B.runs B.at_ hl hF' hs nd nw B.newl B.kps hsz B.big hv hE) ?_⟩
          rintro v H3 (⟨rfl,m',h1,h2⟩ | ⟨nn,hl3,m',h1,h2⟩)
          · exact ⟨_,rfl,_,rfl,iteN rfl ⟨m',h1,h2⟩⟩
          · exact ⟨_,rfl,_,rfl,Ye nn ⟨_,rfl,.inl ⟨rfl,_,SqL.of hl3⟩,lb,_,_,rfl,rfl,hl3,e2,m',h1,by rw [e3]; exact h2⟩⟩
end
end Rdr
namespace Rdr
open PySem L2 K11 Rd
def yb (z:Str):Bool:=decide (V.int ((z.length:Nat):Int)=V.int 1) && inS z FIGS
theorem Yf {z:Str} (h:yb z=true):PySem.intText? z=some (yB z)/\z.length<=640:=by
  unfold yb at h
  rw [Bool.and_eq_true,decide_eq_true_eq] at h
  obtain ⟨h1,h2⟩:=h
  have h1':z.length=1:=by
    injection h1 with h1
    lia
  have e:∃ c,cl z=[c]:=by
    have:=ye z
    rw [h1'] at this
    exact List.length_eq_one_iff.mp this
  obtain ⟨c,hc⟩:=e
  have ez:z=sg c:=y7 hc
  rw [ez] at h2
  have dg:NumText.AllDigits z.cps.toList:=fun d hd=>by
    rw [show z.cps.toList=[c] from hc,List.mem_singleton] at hd
    rw [hd]
    exact jb c (inS_iff.mp h2)
  have t:=PySem.intText_digits dg (fun z0=>by rw [show z.cps.toList=[c] from hc] at z0; cases z0) (by lia)
  exact ⟨by unfold yB; rw [t]; rfl,by lia⟩
def wv:List Str->Option (Int × List Str)
  | []=>none
  | y :: r=>if yb y=true then some (yB y,r) else none
def yP (r:List Str):Option (D × List Str):=(zr LX r).bind fun p=>(wv p.2).map fun q=>(.tup [.str p.1,.int q.1],q.2)
def xq:Nat->List D->List Str->Option (List D)
  | 0,acc,r=>if r.isEmpty=true then some acc else none
  | n + 1,acc,r=>if r.isEmpty=true then some acc else (yP r).bind fun p=>xq n (acc ++ [p.1]) p.2
def xi (r:List Str):Option (List D):=(yP r).bind fun p=>xq p.2.length [p.1] p.2
theorem Yg {r r':List Str} {d:D} (h:yP r=some (d,r')):r'.length < r.length:=by
  unfold yP at h
  obtain ⟨⟨x,r1⟩,h1,h⟩:=Option.bind_eq_some_iff.mp h
  obtain ⟨⟨n,r2⟩,h2,h3⟩:=Option.map_eq_some_iff.mp h
  cases h3
  dsimp only at h2
  have:=yf LX h1
  cases r1 with
  | nil=>cases h2
  | cons y r1 =>
    unfold wv at h2
    dsimp only at h2
    split at h2
    · cases h2
      rw [List.length_cons] at this
      show r2.length < r.length
      lia
    · cases h2
def Yh (r:List Str) (o:Option D):Prop:=match (zr LX r).bind fun p=>(zO LX "=" [] p.2).map fun q=>(p.1,q) with
  | none=>o=none
  | some (x,ns,r2)=>∃ n o2,Runs LX n ⟨[],none,r2⟩ o2/\o=match o2 with
    | some (d,[])=>some (.tup [.str x,Rd.«strs» ns,d])
    | _=>none
def Ja (A:Adr):Sp:=fun vs H Q E=>∃ (w lw:Addr) (row:Int) (r:List Str),vs=[.ref w]/\AtR A H w lw row r/\(match wv r with
  | none=>Err A E (·=w) H row
  | some (x,r')=>∀ H',KpS (·=w) H H'->AtR A H' w lw row r'->Q (.int x) H')
def Jb (A:Adr):Sp:=fun vs H Q E=>∃ (w lw:Addr) (row:Int) (r:List Str),vs=[.ref w]/\AtR A H w lw row r/\(match yP r with
  | none=>Err A E (·=w) H row
  | some (d,r')=>∀ H' v,KpS (·=w) H H'->AtR A H' w lw row r'->Is H' d v->Q v H')
def Jc (A:Adr):Sp:=fun vs H Q E=>∃ (w lw:Addr) (row:Int) (r:List Str),vs=[.ref w]/\AtR A H w lw row r/\(match xi r with
  | none=>Err A E (·=w) H row
  | some ds=>∀ H' v,KpS (·=w) H H'->Is H' (.tup ds) v->Q v H')
def zaT (A:Adr):Sp:=fun vs H Q E=>∃ (w lw:Addr) (row:Int) (r:List Str) (o:Option D),vs=[.ref w]/\AtR A H w lw row r/\Yh r o/\(match o with
  | none=>Err A E (·=w) H row
  | some d=>∀ H' v,KpS (·=w) H H'->Is H' d v->Q v H')
section
variable {P:Program} {w:World} {K:PySem.W.Frag} {mg:Str->Option Value} {base:Heap} {f:Addr} {fd:FuncData} {A:Adr} {t1:Tok}
theorem scSize:FnScope ["self","word"] ["self"] (zn wR):=⟨rfl,rfl,rfl,by decide +kernel,rfl,by decide +kernel,by decide +kernel⟩
theorem Yi (F:Fun K "next_size" "Words.next_size" wR f fd) (T:Txt K mg A) (mF:mg "FIGURES"=some (.str FIGS t1)) (GW:Me P w K mg base (CXf P w) 4 A.cW "next_word" ["self"] (ja A)) (GI:Me P w K mg base (CXf P w) 3 A.cW "insist" ["self","fits"] (yv A)) :
    FnOk P w K mg base (CXf P w) 5 f fd ["self"] (Ja A):=by
  refine F.byx scSize (fun vs H Q E h=>?_) (fun cdv A' outer s H vs Q E hr h=>?_)
  · obtain ⟨w,lw,row,r,rfl,_⟩:=h
    rfl
  obtain ⟨w,lw,row,r,rfl,hA,q⟩:=h
  refine ⟨_,zd (zu (i:=1) scSize.nd rfl (Or.inl rfl) (yl (jv 0) T.clW GW hr zT))
    (zd (zM (yr (jv 0) T.clW GI (hr.mono (by decide)) zT (ja_c (xx (yg z7 (zK yA rfl T.len PySem.boot_len (ja_c (jv 1) ze)) zg (zw _)) (wo (yg xY (jv 1) (yV (v:=.str FIGS) rfl mF ⟨_,rfl⟩) (by with_unfolding_all rfl)))) ze)))
    (zh (zq (yd vn rfl T.int PyProof.Rows.boot_int (ja_c (jv 1) ze))))),?_⟩
  have ⟨dw,_,_,a1,_⟩:=hA.ex
  refine ⟨_,rfl,w,dw,_,rfl,a1,rfl,w,lw,row,r,rfl,hA,?_⟩
  cases r with
  | nil=>exact q
  | cons y r' =>
    dsimp only
    intro hy H1 k1 hA1
    have ⟨dw1,_,_,c1,_⟩:=hA1.ex
    have sl:=line
    refine ⟨_,rfl,w,dw1,_,rfl,c1,rfl,_,rfl,y,rfl,by lia,rfl,_,rfl,?_⟩
    have ok:yb y=true->∀ H2,Same H1 H2->Q (.int (yB y)) H2:=fun hb H2 s2=>by
      have e:wv (y :: r')=some (yB y,r'):=by
        show (if yb y=true then some (yB y,r') else none)=_
        rw [if_pos hb]
      rw [e] at q
      exact q _ (k1.trans (.of s2)) (hA1.same s2)
    have no:yb y=false->Err A E (fun _=>False) H1 row:=fun hb=>by
      have e:wv (y :: r')=none:=by
        show (if yb y=true then some (yB y,r') else none)=none
        rw [hb]
        rfl
      rw [e] at q
      exact q.at k1 (fun b z=>z.elim)
    refine ite2 (fun c1=>?_) (fun c1=>?_)
    · refine ⟨_,rfl,y,FIGS,rfl,rfl,w,lw,row,r',_,rfl,hA1,fun hb=>?_,fun hb=>no ?_⟩
      · have hs:yb y=true:=by
          unfold yb
          rw [c1]
          exact hb
        exact ⟨_,rfl,y,_,rfl,(Yf hs).1,(Yf hs).2,ok hs _ (Same.refl _)⟩
      · unfold yb
        rw [c1]
        exact hb
    · refine ⟨w,lw,row,r',false,rfl,hA1,(fun z=>by cases z),fun _=>no ?_⟩
      unfold yb
      rw [Bool.eq_false_iff.mpr c1,Bool.false_and]
theorem scPair:FnScope ["words","tag"] ["words"] (zn wT):=⟨rfl,rfl,rfl,by decide +kernel,rfl,by decide +kernel,by decide +kernel⟩
theorem Q4 (F:Fun K "read_pair" "read_pair" wT f fd) (T:Txt K mg A) (GN:Me P w K mg base (CXf P w) 5 A.cW "next_name" ["self"] (ym A)) (GS:Me P w K mg base (CXf P w) 5 A.cW "next_size" ["self"] (Ja A)):FnOk P w K mg base (CXf P w) 6 f fd ["words"] (Jb A):=by
  refine F.byx scPair (fun vs H Q E h=>?_) (fun cdv A' outer s H vs Q E hr h=>?_)
  · obtain ⟨w,lw,row,r,rfl,_⟩:=h
    rfl
  obtain ⟨w,lw,row,r,rfl,hA,q⟩:=h
  refine ⟨_,zd (zu (i:=1) scPair.nd rfl (Or.inl rfl) (yl (jv 0) T.clW GN hr zT)) (zh (zq (zX (ja_c (jv 1) (ja_c (yl (jv 0) T.clW GS hr zT) ze))))),?_⟩
  have ⟨dw,_,_,a1,_⟩:=hA.ex
  refine ⟨_,rfl,w,dw,_,rfl,a1,rfl,w,lw,row,r,rfl,hA,?_⟩
  unfold yP at q
  cases e:zr LX r with
  | none=>rw [e] at q; exact q
  | some pr =>
    obtain ⟨x,r1⟩:=pr
    rw [e] at q
    dsimp only [Option.bind_some] at q ⊢
    intro H1 k1 hA1
    have ⟨dw1,_,_,c1,_⟩:=hA1.ex
    refine ⟨_,rfl,_,rfl,w,dw1,_,rfl,c1,rfl,w,lw,row,r1,rfl,hA1,?_⟩
    cases e2:wv r1 with
    | none=>rw [e2] at q; exact q.at k1 (fun b z=>z)
    | some pr2 =>
      obtain ⟨n,r2⟩:=pr2
      rw [e2] at q
      dsimp only [Option.map_some] at q ⊢
      intro H2 k2 hA2
      refine ⟨by show 2<=sizeLine; decide,fun p hp=>?_⟩
      exact q _ _ ((k1.trans k2).trans (KpS.new hp)) (hA2.same (zi hp _)) (.tup zc (.cons (.str _) (.cons (.int _) .nil)))
theorem scKind:FnScope ["words","pairs"] ["words"] (zn wS):=⟨rfl,rfl,rfl,by decide +kernel,rfl,by decide +kernel,by decide +kernel⟩
theorem Q5 (F:Fun K "read_kind" "read_kind" wS f fd) (T:Txt K mg A) (GA:Me P w K mg base CX0 1 A.cW "all_read" ["self"] (Yc A)) (GP:Ca P w K mg base (CXf P w) 6 "read_pair" ["words"] (Jb A)):FnOk P w K mg base (CXf P w) 7 f fd ["words"] (Jc A):=by
  refine F.byx scKind (fun vs H Q E h=>?_) (fun cdv A' outer s H vs Q E hr h=>?_)
  · obtain ⟨w,lw,row,r,rfl,_⟩:=h
    rfl
  obtain ⟨w,lw,row,r0,rfl,hA,q⟩:=h
  refine ⟨_,zd (zu (i:=1) scKind.nd rfl (Or.inl rfl) (zB (ja_c (zN GP hr rfl zT (ja_c (jv 0) ze)) ze)))
    (zd (xa ownx (yz (yw (yl (jv 0) T.clW GA (hr.mono (by decide)) zJ)))
      (zh (zM (zZ PySem.F.plainAttrs_list PySem.F.slot_list_append PySem.F.type_list_append zY (jv 1) (ja_c (zN GP hr rfl zT (ja_c (jv 0) ze)) ze)))))
    (zh (zq (yd yq rfl T.tuple PyProof.Rows.boot_tuple (ja_c (jv 1) ze))))),?_⟩
  have ⟨dw,ws,i,a1,a2,a3,a4,a5,_⟩:=hA.ex
  have hk:r0.length<=1000000:=by rw [a3,List.length_drop]; lia
  have sl:=line
  unfold xi at q
  refine ⟨_,rfl,w,lw,row,r0,rfl,hA,?_⟩
  cases e:yP r0 with
  | none=>rw [e] at q; exact q
  | some pr =>
    obtain ⟨d,r1⟩:=pr
    have l0:=Yg e
    rw [e] at q
    dsimp only [Option.bind_some] at q ⊢
    intro H1 v k1 hA1 hv
    refine ⟨by show 1<=sizeLine; decide,fun p hp=>?_⟩
    have ⟨dw1,_,_,c1,c2,_⟩:=hA1.ex
    have npw:p≠w:=(zo c1 hp).symm
    have npl:p≠lw:=(zo c2 hp).symm
    have hn:H p=none:=by
      cases z:H p with
      | none=>rfl
      | some o=>rw [k1 _ _ npw z] at hp; cases hp
    refine ⟨fun m σ H2=>∃ r acc vs n,m=r.length/\r.length<=n/\σ=[some (.ref w),some (.ref p)]/\AtR A H2 w lw row r/\H2 p=some (.lst vs)/\IsL H2 acc vs/\KpS (·=w) H H2/\xq n acc r=xq r1.length [d] r1/\acc.length + r.length<=r0.length,
      ⟨_,r1,[d],[v],r1.length,rfl,Nat.le_refl _,rfl,hA1.same (zi hp _),zc,.cons (hv.keep (Tups.new hp)) .nil,k1.trans (KpS.new hp),rfl,by rw [List.length_singleton]; lia⟩,?_⟩
    rintro m σ H2 ⟨r,acc,vs,n,rfl,hn2,rfl,hA2,hl,hi,k2,hu,hz⟩
    have ⟨dw2,_,_,c3,_⟩:=hA2.ex
    refine ⟨_,rfl,w,dw2,_,rfl,c3,rfl,w,lw,row,r,rfl,hA2,?_⟩
    have hvl:=hi.len
    cases r with
    | nil =>
      refine ⟨_,rfl,iteF ?_⟩
      have e0:xq n acc []=some acc:=by cases n <;> rfl
      rw [<- hu,e0] at q
      refine ⟨_,rfl,p,_,rfl,.inl ⟨SqL.of hl,fun p2 hp2=>?_⟩⟩
      exact q _ _ (k2.trans (KpS.new hp2)) (.tup zc (hi.keep (Tups.new hp2)))
    | cons y r' =>
      refine ⟨_,rfl,iteT ⟨_,fun _ _ h=>h,?_⟩⟩
      refine ⟨_,rfl,.inl ⟨rfl,_,SqL.of hl⟩,_,rfl,w,lw,row,y :: r',rfl,hA2,?_⟩
      cases n with
      | zero=>simp at hn2
      | succ n =>
        have e1:xq (n + 1) acc (y :: r')=(yP (y :: r')).bind fun p=>xq n (acc ++ [p.1]) p.2:=rfl
        cases e2:yP (y :: r') with
        | none =>
          rw [e1,e2] at hu
          rw [<- hu] at q
          exact q.at k2 (fun b z=>z)
        | some pr =>
          obtain ⟨d2,r2⟩:=pr
          have l2:=Yg e2
          rw [e1,e2] at hu
          dsimp only [Option.bind_some] at hu ⊢
          intro H3 v3 k3 hA3 hv3
          have hl3:=k3 _ _ npw hl
          refine ⟨p,vs,v3,rfl,rfl,hl3,by lia,?_⟩
          have tp:Tups H3 (upd H3 p (.lst (vs ++ [v3]))):=fun b xs z=>by rw [zk (yi z hl3 (by intro z; cases z))]; exact z
          refine ⟨r2.length,l2,r2,acc ++ [d2],vs ++ [v3],n,rfl,by lia,rfl,hA3.kept (S:=(·=p)) (KpS.put rfl) npw.symm npl.symm,zc,(hi.keep ((hA2.tups k3).trans tp)).app (.cons (hv3.keep tp) .nil),fun b o nb hb=>?_,hu,by rw [List.length_append,List.length_singleton]; lia⟩
          rw [zk (fun z=>by rw [z,hn] at hb; cases hb)]
          exact k3 _ _ nb (k2 _ _ nb hb)
theorem scDef:FnScope ["words","name","params","body"] ["words"] (zn vV):=⟨rfl,rfl,rfl,by decide +kernel,rfl,by decide +kernel,by decide +kernel⟩
theorem zb1 (F:Fun K "read_def" "read_def" vV f fd) (T:Txt K mg A) (GN:Me P w K mg base (CXf P w) 5 A.cW "next_name" ["self"] (ym A)) (GU:Me P w K mg base (CXf P w) 6 A.cW "names_until" ["self","stop"] (vB A)) (GB:Ca P w K mg base (CXf P w) 11 "read_body" ["words"] (V8 A))
    (GA:Me P w K mg base CX0 1 A.cW "all_read" ["self"] (Yc A)) (GI:Me P w K mg base (CXf P w) 3 A.cW "insist" ["self","fits"] (yv A)):FnOk P w K mg base (CXf P w) 12 f fd ["words"] (zaT A):=by
  refine F.byx scDef (fun vs H Q E h=>?_) (fun cdv A' outer s H vs Q E hr h=>?_)
  · obtain ⟨w,lw,row,r,o,rfl,_⟩:=h
    rfl
  obtain ⟨w,lw,row,r,o,rfl,hA,hD,q⟩:=h
  refine ⟨_,zd (zu (i:=1) scDef.nd rfl (Or.inl rfl) (yl (jv 0) T.clW GN (hr.mono (by decide)) zT))
    (zd (zu (i:=2) scDef.nd rfl (Or.inl rfl) (yr (jv 0) T.clW GU (hr.mono (by decide)) zT (ja_c zj ze)))
    (zd (zu (i:=3) scDef.nd rfl (Or.inl rfl) (zN GB hr rfl zT (ja_c (jv 0) ze)))
    (zd (zM (yr (jv 0) T.clW GI (hr.mono (by decide)) zT (ja_c (yl (jv 0) T.clW GA (hr.mono (by decide)) zJ) ze)))
    (zh (zq (zX (ja_c (jv 1) (ja_c (jv 2) (ja_c (jv 3) ze))))))))),?_⟩
  have ⟨dw,_,_,a1,_⟩:=hA.ex
  refine ⟨_,rfl,w,dw,_,rfl,a1,rfl,w,lw,row,r,rfl,hA,?_⟩
  unfold Yh at hD
  cases e:zr LX r with
  | none =>
    rw [e] at hD
    have hD':o=none:=hD
    rw [hD'] at q
    exact q
  | some pr =>
    obtain ⟨x,r1⟩:=pr
    rw [e] at hD
    dsimp only [Option.bind_some] at hD ⊢
    intro H1 k1 hA1
    have ⟨dw1,_,_,c1,_⟩:=hA1.ex
    refine ⟨_,rfl,w,dw1,_,rfl,c1,rfl,w,lw,row,r1,_,rfl,hA1,?_⟩
    cases e2:zO LX "=" [] r1 with
    | none =>
      rw [e2] at hD
      have hD':o=none:=hD
      rw [hD'] at q
      exact q.at k1 (fun b z=>z)
    | some pr2 =>
      obtain ⟨ns,r2⟩:=pr2
      rw [e2] at hD
      obtain ⟨n,o2,hR,ho⟩:=hD
      dsimp only
      intro H2 pn k2 hA2 hpn
      refine ⟨_,rfl,w,lw,row,r2,n,o2,rfl,hA2,hR,?_⟩
      cases o2 with
      | none =>
        rw [show o=none from ho] at q
        exact q.at (k1.trans k2) (fun b z=>z)
      | some pr3 =>
        obtain ⟨d,r3⟩:=pr3
        dsimp only
        intro H3 v k3 hA3 hv
        have ⟨dw3,_,_,c3,_⟩:=hA3.ex
        refine ⟨_,rfl,w,dw3,_,rfl,c3,rfl,_,rfl,w,dw3,_,rfl,c3,rfl,w,lw,row,r3,rfl,hA3,w,lw,row,r3,_,rfl,hA3,fun hb=>?_,fun hb=>?_⟩
        · cases r3 with
          | cons y r4=>cases hb
          | nil =>
            rw [show o=some (.tup [.str x,Rd.«strs» ns,d]) from ho] at q
            refine ⟨_,rfl,_,rfl,_,rfl,by show 3<=sizeLine; decide,fun p hp=>?_⟩
            have tp:=Tups.new (o:=.tup [.str x,.ref pn,v]) hp
            have hpn':=tp _ _ (hA2.tups k3 _ _ hpn)
            exact q _ _ (((k1.trans k2).trans k3).trans (KpS.new hp)) (.tup zc (.cons (.str _) (.cons (.tup hpn' (IsL.strs ns)) (.cons (hv.keep tp) .nil))))
        · cases r3 with
          | nil=>cases hb
          | cons y r4 =>
            rw [show o=none from ho] at q
            exact q.at ((k1.trans k2).trans k3) (fun b z=>z.elim)
end
end Rdr
namespace Rdr
open PySem L2 K11 Rd
def NL:Str:="\n"
def SP:Str:=" "
def ya (z:Str):List Str:=if z="" then [] else Txt.split z NL
def yy (z:Str):List Str:=Txt.split z SP
def rowR (ks ds:List D) (ws:List Str) (o:Option (List D × List D)):Prop:=match ws with
  | []=>o=none
  | y :: r=>if y="def" then ∃ o2,Yh r o2/\o=o2.map fun d=>(ks,ds ++ [d]) else if y="kind"/\ds=[] then o=(xi r).map fun l=>(ks ++ [.tup l],ds) else o=none
inductive RowsR:Nat->List D->List D->List (List Str)->Except Nat (List D × List D)->Prop
  | nil {i:Nat} {ks ds:List D}:RowsR i ks ds [] (.ok (ks,ds))
  | row {i:Nat} {ks ds ks' ds':List D} {ws:List Str} {rest:List (List Str)} {o:Except Nat (List D × List D)}:rowR ks ds ws (some (ks',ds'))->RowsR (i + 1) ks' ds' rest o->RowsR i ks ds (ws :: rest) o
  | bad {i:Nat} {ks ds:List D} {ws:List Str} {rest:List (List Str)}:rowR ks ds ws none->RowsR i ks ds (ws :: rest) (.error i)
def XZ (A:Adr):Sp:=fun vs H Q _=>∃ (b dx lw:Addr) (row:Int) (ws:List Str),vs=[.ref b,.int row,.ref lw]/\H b=some (.ins A.cW dx [])/\H lw=some (.lst (ws.map V.str))/\ws.length<=1000000/\(∀ x∈ws,x.length<=1000)/\∀ H',KpS (·=b) H H'->AtR A H' b lw row ws->Q .non H'
structure Fit (z:Str):Prop where
  len:z.length + 2<=1000000
  row:∀ l∈ya z,l.length + 2<=1000000
  word:∀ l∈ya z,∀ x∈yy l,x.length<=1000
def Jd (A:Adr):Sp:=fun vs H Q E=>∃ (z:Str) (o:Except Nat (List D × List D)),vs=[.str z]/\Fit z/\RowsR 0 [] [] ((ya z).map yy) o/\(match o with
  | .error i=>Err A E (fun _=>False) H i
  | .ok (ks,ds)=>∀ H' v,Same H H'->Is H' (.tup [.tup ks,.tup ds]) v->Q v H')
section
variable {P:Program} {w:World} {K:PySem.W.Frag} {mg:Str->Option Value} {base:Heap} {f:Addr} {fd:FuncData} {A:Adr}
theorem Q6:FnScope ["self","row","words"] ["self","row","words"] (zn YV):=⟨rfl,rfl,rfl,by decide +kernel,rfl,by decide +kernel,by decide +kernel⟩
theorem Je (F:Fun K "__init__" "Words.__init__" YV f fd) (T:Txt K mg A):FnOk P w K mg base CX0 1 f fd ["self","row","words"] (XZ A):=by
  refine F.by Q6 (fun vs H Q E h=>?_) (fun cdv A' outer s H vs Q E hr h=>?_)
  · obtain ⟨b,dx,lw,row,ws,rfl,_⟩:=h
    rfl
  obtain ⟨b,dx,lw,row,ws,rfl,hb,hl,h1,h2,q⟩:=h
  refine ⟨_,zd (yO (jv 0) (jv 1)) (zd (yO (jv 0) (jv 2)) (zh (yO (jv 0) zg))),?_⟩
  have nbl:lw≠b:=yi hl hb (by intro z; cases z)
  refine ⟨_,rfl,_,rfl,b,A.cW,dx,_,rfl,hb,T.clW,T.nRow,by show 0 < 1000; decide,?_⟩
  refine ⟨_,rfl,_,rfl,b,A.cW,dx,_,rfl,zc,T.clW,T.nWords,by show 1 < 1000; decide,?_⟩
  refine ⟨_,rfl,b,A.cW,dx,_,rfl,zc,T.clW,T.nAt,by show 2 < 1000; decide,?_⟩
  refine q _ (((KpS.put (S:=(·=b)) rfl).trans (KpS.put rfl)).trans (KpS.put rfl)) ⟨dx,ws,0,zc,?_,rfl,Nat.zero_le _,h1,h2⟩
  rw [zk nbl,zk nbl,zk nbl]
  exact hl
theorem scRead:FnScope ["text","kinds","defs","rows","row","line","words"] ["text"] (zn VP):=⟨rfl,rfl,rfl,by decide +kernel,rfl,by decide +kernel,by decide +kernel⟩
theorem Q7 (F:Fun K "read" "read" VP f fd) (T:Txt K mg A) (GX:Xa P w K mg base 1 "NoText" A.cN ["self","row"] (wG A)) (GW:Ma P w K mg base CX0 1 "Words" A.cW ["self","row","words"] (XZ A)) (GP:Me P w K mg base CX0 2 A.cW "passed" ["self","word"] (xp A)) (GI:Me P w K mg base (CXf P w) 3 A.cW "insist" ["self","fits"] (yv A))
    (GD:Ca P w K mg base (CXf P w) 12 "read_def" ["words"] (zaT A)) (GK:Ca P w K mg base (CXf P w) 7 "read_kind" ["words"] (Jc A)) (mI:mg "isinstance"=none) (mS:mg "str"=none) (mE:mg "enumerate"=none):FnOk P w K mg base (CXf P w) 13 f fd ["text"] (Jd A):=by
  refine F.byx scRead (fun vs H Q E h=>?_) (fun cdv A' outer s H vs Q E hr h=>?_)
  · obtain ⟨z,o,rfl,_⟩:=h
    rfl
  obtain ⟨z,o,rfl,fit,hR,q⟩:=h
  refine ⟨_,zd (zC (yz (yw (zK xo rfl mI PyProof.Rows.boot_isinstance (ja_c (jv 0) (ja_c (wC (v:=.ty "str") rfl mS PyProof.Rows.boot_str rfl) ze))))) (zh (Z3 GX (hr.mono (by decide)) rfl VC (ja_c zg ze))) zv)
    (zd (zu (i:=1) scRead.nd rfl (Or.inl rfl) (zB ze))
    (zd (zu (i:=2) scRead.nd rfl (Or.inl rfl) (zB ze))
    (zd (zu (i:=3) scRead.nd rfl (Or.inl rfl) (ZY (zt xl (jv 0) zj (zw _)) (zZ PySem.F.plainAttrs_str PySem.F.slot_str_split PySem.F.type_str_split yY (jv 0) (ja_c zj ze)) (zB ze)))
    (zd (y0 ownx rfl (QH rfl mE (ja_c (jv 3) ze)) (y9 rfl (zQ (zF (i:=4) scRead.nd rfl (Or.inl rfl)) (zQ (zF (i:=5) scRead.nd rfl (Or.inl rfl)) yH)))
      (zd (zu (i:=6) scRead.nd rfl (Or.inl rfl) (XR GW (hr.mono (by decide)) rfl zJ (ja_c (jv 4) (ja_c (zZ PySem.F.plainAttrs_str PySem.F.slot_str_split PySem.F.type_str_split yY (jv 5) (ja_c zj ze)) ze))))
      (zh (zC (yw (yr (jv 6) T.clW GP (hr.mono (by decide)) zJ (ja_c zj ze)))
        (zh (zM (zZ PySem.F.plainAttrs_list PySem.F.slot_list_append PySem.F.type_list_append zY (jv 2) (ja_c (zN GD hr rfl zT (ja_c (jv 6) ze)) ze))))
        (zd (zM (yr (jv 6) T.clW GI (hr.mono (by decide)) zT (ja_c (xx (yr (jv 6) T.clW GP (hr.mono (by decide)) zJ (ja_c zj ze)) (wo (yg z7 (zK zy rfl T.len PySem.boot_len (ja_c (jv 2) ze)) zg (zw _)))) ze)))
        (zh (zM (zZ PySem.F.plainAttrs_list PySem.F.slot_list_append PySem.F.type_list_append zY (jv 1) (ja_c (zN GK (hr.mono (by decide)) rfl zT (ja_c (jv 6) ze)) ze)))))))))
    (zh (zq (zX (ja_c (yd yq rfl T.tuple PyProof.Rows.boot_tuple (ja_c (jv 1) ze)) (ja_c (yd yq rfl T.tuple PyProof.Rows.boot_tuple (ja_c (jv 2) ze)) ze))))))))),?_⟩
  have sl:=line
  refine ⟨_,rfl,_,_,_,true,rfl,.str _,rfl,_,rfl,iteF ?_⟩
  refine ⟨by show 0<=sizeLine; decide,fun lk hlk=>?_⟩
  refine ⟨by show 0<=sizeLine; decide,fun ld hld=>?_⟩
  suffices rest:∀ (lr:Addr) (H3:Hp),upd (upd H lk (.lst [])) ld (.lst []) lr=none->H3=upd (upd (upd H lk (.lst [])) ld (.lst [])) lr (.lst ((ya z).map V.str))->(tSeq _ _:TS) { nx:=fun _ H'=>Q .non H',rt:=Q } [some (.str z),some (.ref lk),some (.ref ld),some (.ref lr),none,none,none] H3 by
    refine ⟨_,rfl,rfl,_,rfl,?_⟩
    by_cases c:z=""
    · refine iteN (congrArg V.str c) ?_
      refine ⟨by show 0<=sizeLine; decide,fun lr hlr=>rest lr _ hlr ?_⟩
      rw [show ya z=[] from if_pos c]
      rfl
    · refine Ye (fun e=>c (by injection e)) ?_
      refine ⟨_,rfl,rfl,z,NL,rfl,rfl,by decide,by have:=fit.len; lia,fun lr hlr=>rest lr _ hlr ?_⟩
      rw [show ya z=Txt.split z NL from if_neg c]
  intro lr H3 hlr e3
  have hlk0:H lk=none:=hlk
  have nd:ld≠lk:=(zo zc hld).symm
  have hld0:H ld=none:=by rw [zk nd] at hld; exact hld
  have n1:lr≠ld:=(zo zc hlr).symm
  have n2:lr≠lk:=fun e=>by rw [e,zk nd.symm,zc] at hlr; cases hlr
  have hlr0:H lr=none:=by rw [zk n1,zk n2] at hlr; exact hlr
  have sm3:Same H H3:=by rw [e3]; exact ((zi hlk _).trans (zi hld _)).trans (zi hlr _)
  have k3:H3 lk=some (.lst []):=by rw [e3,zk n2.symm,zk nd.symm,zc]
  have d3:H3 ld=some (.lst []):=by rw [e3,zk n1.symm,zc]
  have r3:H3 lr=some (.lst ((ya z).map V.str)):=by rw [e3,zc]
  clear e3 hlk hld hlr
  refine ⟨_,rfl,lr,rfl,⟨_,SqL.of r3⟩,fun i m σ H4=>∃ ks ds vk vd a b c,m + i=(ya z).length/\σ=[some (.str z),some (.ref lk),some (.ref ld),some (.ref lr),a,b,c]/\Same H H4/\H4 lk=some (.lst vk)/\H4 ld=some (.lst vd)/\H4 lr=some (.lst ((ya z).map V.str))/\IsL H4 ks vk/\IsL H4 ds vd/\ks.length<=i/\ds.length<=i/\RowsR i ks ds (((ya z).drop i).map yy) o,
    ⟨(ya z).length,[],[],[],[],none,none,none,rfl,rfl,sm3,k3,d3,r3,.nil,.nil,Nat.le_refl _,Nat.le_refl _,hR⟩,?_⟩
  rintro i m σ H4 ⟨ks,ds,vk,vd,a,b,c,hm,rfl,sm,hk,hd,hrw,ik,id',lk',ld',hR'⟩
  have nrows:(ya z).length<=1000002:=by
    unfold ya
    by_cases c:z=""
    · rw [if_pos c]; decide
    · rw [if_neg c]
      have:=wN z NL
      have:=fit.len
      lia
  have lvk:=ik.len
  have lvd:=id'.len
  by_cases hi:(ya z).length<=i
  · left
    refine ⟨⟨_,SqL.of hrw,by rw [List.length_map]; exact hi⟩,?_⟩
    rw [List.drop_eq_nil_of_le hi] at hR'
    cases hR' with
    | nil =>
      refine ⟨_,rfl,lk,_,rfl,.inl ⟨SqL.of hk,fun p hp=>?_⟩⟩
      have hd5:upd H4 p (.tup vk) ld=some (.lst vd):=by rw [zk (zo hd hp)]; exact hd
      refine ⟨_,rfl,ld,_,rfl,.inl ⟨SqL.of hd5,fun p2 hp2=>⟨by show 2<=sizeLine; decide,fun p3 hp3=>?_⟩⟩⟩
      have t1:=Tups.new (o:=.tup vk) hp
      have t2:=Tups.new (o:=.tup vd) hp2
      have t3:=Tups.new (o:=.tup [.ref p,.ref p2]) hp3
      refine q _ _ (((sm.trans (zi hp _)).trans (zi hp2 _)).trans (zi hp3 _)) (.tup zc (.cons (.tup (t3 _ _ (t2 _ _ zc)) (((ik.keep t1).keep t2).keep t3)) (.cons (.tup (t3 _ _ zc) (((id'.keep t1).keep t2).keep t3)) .nil)))
  · right
    have hi':i < (ya z).length:=by lia
    have hix:((ya z).map V.str)[i]?=some (.str (ya z)[i]):=by rw [List.getElem?_map,List.getElem?_eq_getElem hi']; rfl
    refine ⟨⟨_,_,SqL.of hrw,hix⟩,_,fun _ _ h=>h,?_⟩
    rintro x H5 ⟨T,v,rfl,hT,rfl,hy⟩
    have ev:v=.str (ya z)[i]:=by
      have:=hy _ (SqL.of hrw)
      rw [hix] at this
      cases this
      rfl
    subst ev
    generalize hline:(ya z)[i]=line at *
    have hmem:line∈ya z:=by rw [<- hline]; exact List.getElem_mem hi'
    rw [List.drop_eq_getElem_cons hi',hline,List.map_cons] at hR'
    have turn:∃ ro,rowR ks ds (yy line) ro/\(ro=none->o=.error i)/\∀ ks' ds',ro=some (ks',ds')->RowsR (i + 1) ks' ds' (((ya z).drop (i + 1)).map yy) o:=by
      cases hR' with
      | row h1 h2=>exact ⟨_,h1,(fun z=>by cases z),fun ks' ds' e=>by cases e; exact h2⟩
      | bad h1=>exact ⟨_,h1,fun _=>rfl,fun _ _ e=>by cases e⟩
    obtain ⟨ro,hro,hbad,hgo⟩:=turn
    have hE:ro=none->Err A E (fun _=>False) H (i:Int):=fun e=>by
      rw [hbad e] at q
      exact q
    clear hR' q
    refine ⟨T,_,rfl,SqT.of zc,rfl,_,_,rfl,_,_,rfl,rfl,?_⟩
    have fl:=fit.row line hmem
    refine ⟨_,rfl,_,rfl,rfl,line,SP,rfl,rfl,by decide,by lia,fun lw hlw w dx hw hdx ndx=>?_⟩
    have wl:(yy line).length<=1000000:=by
      have:=wN line SP
      unfold yy
      lia
    have sm7:=x5 (o:=.own w) (o':=.ins A.cW dx []) hw hdx ndx
    refine ⟨w,dx,lw,i,yy line,rfl,zc,sm7 _ _ zc,wl,fit.word line hmem,fun H8 k8 hA8=>⟨rfl,?_⟩⟩
    have s5:Same H4 (upd H4 T (.tup [.int i,.str line])):=zi hT _
    have s6:=zi (o:=.lst ((Txt.split line SP).map V.str)) hlw
    have sw:∀ {y o},H4 y=some o->y≠w:=fun e=>zo (s6 _ _ (s5 _ _ e)) hw
    have s8:Same H4 H8:=fun y o e=>k8 _ _ (sw e) (sm7 _ _ (s6 _ _ (s5 _ _ e)))
    have t8:Tups H4 H8:=fun p xs e=>s8 _ _ e
    have hw0:H w=none:=by
      cases z0:H w with
      | none=>rfl
      | some o=>exact absurd rfl (sw (sm _ _ z0))
    have er:∀ {H9:Hp},ro=none->Same H H9->Err A E (·=w) H9 i:=fun e s9 d H' k' g=>hE e d H' (fun y o _ z0=>k' _ _ (fun e=>by rw [e,hw0] at z0; cases z0) (s9 _ _ z0)) g
    have er0:∀ {H9:Hp},ro=none->Same H H9->Err A E (fun _=>False) H9 i:=fun e s9 d H' k' g=>hE e d H' (fun y o _ z0=>k' _ _ (fun e=>e) (s9 _ _ z0)) g
    clear hE
    have ⟨dw8,_,_,a8,_⟩:=hA8.ex
    refine ⟨_,rfl,w,dw8,_,rfl,a8,rfl,w,lw,i,yy line,_,rfl,hA8,?_⟩
    generalize yy line=ws at *
    have key:∀ (H9:Hp) (r:List Str),KpS (·=w) H8 H9->AtR A H9 w lw i r->Same H H9/\Tups H4 H9/\H9 lk=some (.lst vk)/\H9 ld=some (.lst vd)/\H9 lr=some (.lst ((ya z).map V.str)):=fun H9 r k9 hA9 =>
      ⟨fun y o e=>k9 _ _ (sw (sm _ _ e)) (s8 _ _ (sm _ _ e)),t8.trans (hA8.tups k9),k9 _ _ (sw hk) (s8 _ _ hk),k9 _ _ (sw hd) (s8 _ _ hd),k9 _ _ (sw hrw) (s8 _ _ hrw)⟩
    cases ws with
    | nil =>
      have hn:ro=none:=hro
      refine ⟨_,rfl,iteF ?_⟩
      refine ⟨_,rfl,w,dw8,_,rfl,a8,rfl,_,rfl,w,dw8,_,rfl,a8,rfl,w,lw,i,[],_,rfl,hA8,?_⟩
      refine ⟨_,rfl,iteF ?_⟩
      exact ⟨w,lw,i,[],false,rfl,hA8,(fun z=>by cases z),fun _=>er0 hn (key H8 [] KpS.refl hA8).1⟩
    | cons y r =>
      unfold rowR at hro
      dsimp only at hro ⊢
      by_cases y1:y="def"
      · rw [if_pos y1] at hro ⊢
        obtain ⟨o2,hD,ho⟩:=hro
        intro H9 k9 hA9
        obtain ⟨s9,t9,lk9,ld9,lr9⟩:=key H9 r k9 hA9
        refine ⟨_,rfl,iteT ?_⟩
        refine ⟨_,rfl,.inl ⟨rfl,_,SqL.of ld9⟩,_,rfl,w,lw,i,r,o2,rfl,hA9,hD,?_⟩
        cases o2 with
        | none=>exact er ho s9
        | some d =>
          dsimp only
          intro H10 v k10 hv
          have go:=hgo ks (ds ++ [d]) ho
          have lk10:=k10 _ _ (sw hk) lk9
          have ld10:=k10 _ _ (sw hd) ld9
          have lr10:=k10 _ _ (sw hrw) lr9
          have t10:Tups H4 H10:=t9.trans (hA9.tups k10)
          refine ⟨ld,vd,v,rfl,rfl,ld10,by lia,?_⟩
          have tp:Tups H10 (upd H10 ld (.lst (vd ++ [v]))):=fun p xs z0=>by rw [zk (yi z0 ld10 (by intro z; cases z))]; exact z0
          refine ⟨m - 1,by lia,ks,ds ++ [d],vk,vd ++ [v],_,_,_,by lia,rfl,fun y o e=>?_,by rw [zk nd.symm]; exact lk10,zc,by rw [zk n1]; exact lr10,ik.keep (t10.trans tp),(id'.keep (t10.trans tp)).app (.cons (hv.keep tp) .nil),by lia,by rw [List.length_append,List.length_singleton]; lia,go⟩
          rw [zk (fun z0=>by rw [z0,hld0] at e; cases e)]
          exact k10 _ _ (sw (sm _ _ e)) (s9 _ _ e)
      rw [if_neg y1] at hro ⊢
      refine ⟨_,rfl,iteF ?_⟩
      refine ⟨_,rfl,w,dw8,_,rfl,a8,rfl,_,rfl,w,dw8,_,rfl,a8,rfl,w,lw,i,y :: r,_,rfl,hA8,?_⟩
      dsimp only
      by_cases y2:y="kind"
      · rw [if_pos y2]
        intro H9 k9 hA9
        obtain ⟨s9,t9,lk9,ld9,lr9⟩:=key H9 r k9 hA9
        have ⟨dw9,_,_,a9,_⟩:=hA9.ex
        refine ⟨_,rfl,iteT ?_⟩
        refine ⟨_,rfl,ld,_,rfl,.inl (SqL.of ld9),rfl,w,lw,i,r,_,rfl,hA9,fun hb=>?_,fun hb=>?_⟩
        · have d0:ds=[]:=by
            have:=of_decide_eq_true hb
            injection this with this
            have:vd.length=0:=by lia
            exact List.length_eq_zero_iff.mp (by lia)
          rw [if_pos ⟨y2,d0⟩] at hro
          refine ⟨_,rfl,.inl ⟨rfl,_,SqL.of lk9⟩,_,rfl,w,lw,i,r,rfl,hA9,?_⟩
          cases e:xi r with
          | none =>
            rw [e] at hro
            exact er hro s9
          | some l =>
            rw [e] at hro
            dsimp only
            intro H10 v k10 hv
            have go:=hgo (ks ++ [D.tup l]) ds hro
            have lk10:=k10 _ _ (sw hk) lk9
            have ld10:=k10 _ _ (sw hd) ld9
            have lr10:=k10 _ _ (sw hrw) lr9
            have t10:Tups H4 H10:=t9.trans (hA9.tups k10)
            refine ⟨lk,vk,v,rfl,rfl,lk10,by lia,?_⟩
            have tp:Tups H10 (upd H10 lk (.lst (vk ++ [v]))):=fun p xs z0=>by rw [zk (yi z0 lk10 (by intro z; cases z))]; exact z0
            refine ⟨m - 1,by lia,ks ++ [.tup l],ds,vk ++ [v],vd,_,_,_,by lia,rfl,fun y o e=>?_,zc,by rw [zk nd]; exact ld10,by rw [zk n2]; exact lr10,(ik.keep (t10.trans tp)).app (.cons (hv.keep tp) .nil),id'.keep (t10.trans tp),by rw [List.length_append,List.length_singleton]; lia,by lia,go⟩
            rw [zk (fun z0=>by rw [z0,hlk0] at e; cases e)]
            exact k10 _ _ (sw (sm _ _ e)) (s9 _ _ e)
        · have d0:¬ (y="kind"/\ds=[]):=fun c=>of_decide_eq_false hb (by
            have:vd.length=0:=by rw [<- lvd,c.2]; rfl
            rw [this]
            rfl)
          rw [if_neg d0] at hro
          exact er0 hro s9
      · rw [if_neg y2]
        rw [if_neg (fun c=>y2 c.1)] at hro
        refine ⟨_,rfl,iteF ?_⟩
        exact ⟨w,lw,i,y :: r,false,rfl,hA8,(fun z=>by cases z),fun _=>er0 hro (key H8 _ KpS.refl hA8).1⟩
end
end Rdr
namespace Rdr
open PySem L2 K11 Rd
mutual
def szD:D->Nat
  | .int _=>1
  | .str _=>1
  | .tup ds=>1 + szL ds
def szL:List D->Nat
  | []=>0
  | d :: ds=>szD d + szL ds
end
inductive Prs (H:Hp):List D->List Addr->Prop
  | nil:Prs H [] []
  | cons {d:D} {p:Addr} {x y:V} {ds:List D} {ps:List Addr}:H p=some (.tup [x,y])->Is H d x->Is H d y->Prs H ds ps->Prs H (d :: ds) (p :: ps)
theorem Prs.keep {H H':Hp} (t:Tups H H') {ds:List D} {ps:List Addr} (h:Prs H ds ps):Prs H' ds ps:=by
  induction h with
  | nil=>exact .nil
  | cons a b c _ ih=>exact .cons (t _ _ a) (b.keep t) (c.keep t) ih
theorem Prs.app {H:Hp} {ds es:List D} {ps qs:List Addr} (h:Prs H ds ps) (g:Prs H es qs):Prs H (ds ++ es) (ps ++ qs):=by
  induction h with
  | nil=>exact g
  | cons a b c _ ih=>exact .cons a b c ih
theorem Prs.rev {H:Hp} {ds:List D} {ps:List Addr} (h:Prs H ds ps):Prs H ds.reverse ps.reverse:=by
  induction h with
  | nil=>exact .nil
  | cons a b c _ ih=>rw [List.reverse_cons,List.reverse_cons]; exact ih.app (.cons a b c .nil)
theorem Prs.len {H:Hp} {ds:List D} {ps:List Addr} (h:Prs H ds ps):ds.length=ps.length:=by
  induction h with
  | nil=>rfl
  | cons _ _ _ _ ih=>rw [List.length_cons,List.length_cons,ih]
section
variable {P:Program} {w:World} {K:PySem.W.Frag} {mg:Str->Option Value} {base:Heap} {f:Addr} {fd:FuncData}
end
end Rdr
namespace Rdr
open PySem L2 K11 Rd
def jh:Sp:=fun vs H Q _=>∃ c n:Int,vs=[.int c,.int n]/\0<=n/\n<=100/\∀ (H':Hp) (p:Addr) (l:List Int),Same H H'->(l.length:Int)=n->(∀ x∈l,0<=x/\x < 2147483647)->H' p=some (.lst (l.map V.int))->Q (.ref p) H'
def ZD:Sp:=fun vs H Q _=>∃ n:Int,vs=[.int n]/\0<=n/\∀ (z:Str) (H':Hp),zx z=true->Same H H'->Q (.str z) H'
def xS:Sp:=fun vs H Q _=>∃ c n:Int,vs=[.int c,.int n]/\0<=n/\n<=100/\∀ (H':Hp) (p:Addr) (l:List Str),Same H H'->H p=none->(l.length:Int)=n->(∀ x∈l,zx x=true)->H' p=some (.lst (l.map V.str))->Q (.ref p) H'
def j5:Sp:=fun vs H Q _=>∃ c:Int,vs=[.int c]/\∀ (i:Int) (H':Hp),i.natAbs < 10 ^ 30->Same H H'->Q (.int i) H'
def S52:Str:="abcdefghijklmnopqrstuvwxyzabcdefghijklmnopqrstuvwxyz"
def OTHERS:List Str:=["hold","drop","loose","look","take","text","kinds","lets","iff","ended","nums","name"]
theorem ZE:Txt.split "hold drop loose look take text kinds lets iff ended nums name" " "=OTHERS:=by decide +kernel
theorem Xg:Txt.split "def kind give let if else case end num plus minus times over rest less same make call func ask" " "=KEPT:=by decide +kernel
def X0 (z:Str):Prop:=1<=z.length/\z.length<=12/\∀ c∈cl z,c∈cl LETS
theorem Q8 {z:Str} (h:X0 z) (hk:z ∉ KEPT):zx z=true:=by
  obtain ⟨h1,h2,h3⟩:=h
  unfold zx yZ
  rw [decide_eq_true (show (1:Int)<=(z.length:Nat) by lia),decide_eq_true (show ((z.length:Nat):Int)<=12 by lia),madeOf_iff.mpr h3,xg,decide_eq_false hk]
  rfl
theorem Yj:∀ z∈OTHERS,X0 z:=by
  have:∀ z∈OTHERS,1<=z.length/\z.length<=12/\(cl z).all (fun c=>(cl LETS).contains c)=true:=by decide +kernel
  intro z hz
  obtain ⟨h1,h2,h3⟩:=this z hz
  exact ⟨h1,h2,fun c hc=>by simpa using List.all_eq_true.mp h3 c hc⟩
theorem zb2:∀ z∈KEPT,zx (z ++ ("a":Str))=true:=by decide +kernel
theorem seg {a b:Int} (ha:0<=a) (ha2:a<=25) (hb:0<=b) (hb2:b<=6):((Txt.slice (Txt.slice S52 (some a) none) none (some b)).length:Int)=b/\∀ c∈cl (Txt.slice (Txt.slice S52 (some a) none) none (some b)),c∈cl LETS:=by
  have hl:S52.length=52:=by decide +kernel
  have all:(cl S52).all (fun c=>(cl LETS).contains c)=true:=by decide +kernel
  have e1:cl (Txt.slice S52 (some a) none)=(cl S52).drop a.toNat:=by
    rw [vR,hl]
    have c1:yn 52 (some a) 0=a.toNat:=by
      unfold yn
      dsimp only
      rw [if_neg (by lia)]
      lia
    rw [c1]
    show ((cl S52).drop a.toNat).take (52 - a.toNat)=_
    exact List.take_of_length_le (by rw [List.length_drop,ye,hl]; exact Nat.le_refl _)
  have l1:(Txt.slice S52 (some a) none).length=52 - a.toNat:=by rw [<- ye,e1,List.length_drop,ye,hl]
  have e2:cl (Txt.slice (Txt.slice S52 (some a) none) none (some b))=((cl S52).drop a.toNat).take b.toNat:=by
    rw [vR,e1,l1]
    have c1:yn (52 - a.toNat) (some b) (52 - a.toNat)=b.toNat:=by
      unfold yn
      dsimp only
      rw [if_neg (by lia)]
      lia
    rw [c1]
    rfl
  constructor
  · rw [<- ye,e2,List.length_take,List.length_drop,ye,hl]
    lia
  · intro c hc
    rw [e2] at hc
    simpa using List.all_eq_true.mp all c (List.mem_of_mem_drop (List.mem_of_mem_take hc))
theorem X1 {α:Type} {l:List α} {k:Int} (hk:(l.length:Int)=k) (h0:0 < k) (n:Int):∃ x,x∈l/\atI l (n % k)=some x:=by
  have h1:0<=n % k:=Int.emod_nonneg _ (by lia)
  have h2:n % k < k:=Int.emod_lt_of_pos _ h0
  have hj:(n % k).toNat < l.length:=by lia
  have e:n % k=(((n % k).toNat:Nat):Int):=by lia
  refine ⟨l[(n % k).toNat],List.getElem_mem hj,?_⟩
  have r:=yo (xs:=l) (j:=(n % k).toNat) (List.getElem?_eq_getElem hj)
  rw [<- e] at r
  exact r
section
variable {P:Program} {w:World} {K:PySem.W.Frag} {mg:Str->Option Value} {base:Heap} {f:Addr} {fd:FuncData}
theorem scStream:FnScope ["_law_cell","_law_many_here","_law_found","_law_number_here","_law_k"] ["_law_cell","_law_many_here"] (zn Zz):=⟨rfl,rfl,rfl,by decide +kernel,rfl,by decide +kernel,by decide +kernel⟩
theorem WP (F:Fun K "_law_stream" "_law_stream" Zz f fd) (mr:mg "range"=none):FnOk P w K mg base CX0 1 f fd ["_law_cell","_law_many_here"] jh:=by
  refine F.by scStream (fun vs H Q E h=>?_) (fun cdv A outer s H vs Q E hr h=>?_)
  · obtain ⟨c,n,rfl,_⟩:=h
    rfl
  obtain ⟨c,n,rfl,h0,h1,q⟩:=h
  refine ⟨_,zd (zu (i:=2) scStream.nd rfl (Or.inl rfl) (zB ze))
    (zd (zu (i:=3) scStream.nd rfl (Or.inl rfl) (zp zL (zp z5 (jv 0) zg) zg))
    (zd (y0 PassesOwn.never rfl (jU rfl mr (ja_c (zp zL (jv 1) zg) ze)) (zF (i:=4) scStream.nd rfl (Or.inl rfl))
      (zd (zu (i:=3) scStream.nd rfl (Or.inl rfl) (zp z5 (zp zL (zp zL (zp xz (jv 3) (jv 3)) (zp xz zg (jv 3))) (jv 4)) zg))
      (zh (zM (zZ PySem.F.plainAttrs_list PySem.F.slot_list_append PySem.F.type_list_append zY (jv 2) (ja_c (jv 3) ze))))))
    (zh (zq (zD z3 (jv 2) (zI zg) zR))))),?_⟩
  have sl:=line
  refine ⟨by show 0<=sizeLine; decide,fun lp hlp=>?_⟩
  refine ⟨_,rfl,_,_,rfl,rfl,(by show (0:Int) < _; decide),_,_,rfl,rfl,?_⟩
  refine ⟨_,rfl,_,_,rfl,rfl,_,rfl,by lia,by lia,jH (n:=(n + 1).toNat) (fun i σ H'=>∃ (x:Int) (l:List Int) (v:Option V),σ=[some (.int c),some (.int n),some (.ref lp),some (.int x),v]/\0<=x/\x < 2147531918/\l.length=i/\(∀ y∈l,0<=y/\y < 2147483647)/\Same H H'/\H' lp=some (.lst (l.map V.int)))
    ⟨_,[],none,rfl,by have:=Int.emod_nonneg c (show (2147483647:Int)≠0 by decide); lia,by have:=Int.emod_lt_of_pos c (show (0:Int) < 2147483647 by decide); lia,rfl,(fun y hy=>by cases hy),zi hlp _,zc⟩ ?_ ?_⟩
  · rintro i σ H' hi ⟨x,l,v,rfl,hx0,hx1,hl,hall,sm,hl'⟩
    refine ⟨_,rfl,_,rfl,_,_,rfl,rfl,.inl ⟨by lia,by lia⟩,_,rfl,_,_,rfl,rfl,.inr ⟨by lia,by lia⟩,_,_,rfl,rfl,_,rfl,_,_,rfl,rfl,_,_,rfl,rfl,(by show (0:Int) < _; decide),?_⟩
    refine ⟨_,rfl,.inl ⟨rfl,_,SqL.of hl'⟩,_,rfl,lp,_,_,rfl,rfl,hl',by rw [List.length_map]; lia,?_⟩
    refine ⟨(x * x + 48271 * x + (0 + (i:Int))) % 2147483647,l ++ [(x * x + 48271 * x + (0 + (i:Int))) % 2147483647],_,rfl,Int.emod_nonneg _ (by decide),by have:=Int.emod_lt_of_pos (x * x + 48271 * x + (0 + (i:Int))) (show (0:Int) < 2147483647 by decide); lia,by rw [List.length_append,List.length_singleton,hl],fun y hy=>?_,fun b o z=>?_,by rw [zc,List.map_append]; rfl⟩
    · rcases List.mem_append.mp hy with hy | hy
      · exact hall y hy
      · rw [List.mem_singleton.mp hy]
        exact ⟨Int.emod_nonneg _ (by decide),Int.emod_lt_of_pos _ (by decide)⟩
    · rw [zk (zo z hlp)]
      exact sm _ _ z
  · rintro σ H' ⟨x,l,v,rfl,hx0,hx1,hl,hall,sm,hl'⟩
    refine ⟨_,rfl,_,rfl,lp,_,rfl,SqL.of hl',fun p hp=>?_⟩
    have e:cutV (l.map V.int) (some 1) none=l.tail.map V.int:=by
      cases l with
      | nil=>rfl
      | cons y l =>
        unfold cutV
        rw [List.length_map,List.length_cons]
        have c1:HT.sIx (l.length + 1) 0 (some 1)=1:=by
          unfold HT.sIx
          simp
        have c2:HT.sIx (l.length + 1) (l.length + 1) none=l.length + 1:=rfl
        rw [c1,c2]
        show (l.map V.int).take _=_
        exact List.take_of_length_le (by rw [List.length_map]; lia)
    rw [e]
    exact q _ p l.tail (sm.trans (zi hp _)) (by rw [List.length_tail]; lia) (fun y hy=>hall y (List.mem_of_mem_tail hy)) zc
theorem scLName:FnScope ["_law_number_here","_law_some","_law_taken","_law_word","_law_other"] ["_law_number_here"] (zn Y4):=⟨rfl,rfl,rfl,by decide +kernel,rfl,by decide +kernel,by decide +kernel⟩
theorem Jf (F:Fun K "_law_name" "_law_name" Y4 f fd):FnOk P w K mg base CX0 1 f fd ["_law_number_here"] ZD:=by
  refine F.by scLName (fun vs H Q E h=>?_) (fun cdv A outer s H vs Q E hr h=>?_)
  · obtain ⟨n,rfl,_⟩:=h
    rfl
  obtain ⟨n,rfl,h0,q⟩:=h
  refine ⟨_,zd (zu (i:=1) scLName.nd rfl (Or.inl rfl) zj) (zd (zu (i:=2) scLName.nd rfl (Or.inl rfl) zj)
    (zd (zu (i:=3) scLName.nd rfl (Or.inl rfl) (zD wq (zD wq (jv 1) (zI (zp z5 (jv 0) zg)) zR) zR (zI (zp zL zg (zp z5 (zp yh (jv 0) zg) zg)))))
    (zd (zu (i:=3) scLName.nd rfl (Or.inl rfl) (zp yT (jv 3) (zD wq (zD wq (jv 1) (zI (zp z5 (zp yh (jv 0) zg) zg)) zR) zR (zI (zp z5 (zp yh (jv 0) zg) zg)))))
    (zd (zC (zt z7 (zp z5 (zp yh (jv 0) zg) zg) zg (zw _))
      (zd (zu (i:=4) scLName.nd rfl (Or.inl rfl) zj) (zh (zu (i:=3) scLName.nd rfl (Or.inl rfl) (zE zG (zZ PySem.F.plainAttrs_str PySem.F.slot_str_split PySem.F.type_str_split yY (jv 4) (ja_c zj ze)) (zp z5 (jv 0) zg) (fun _ _=>rfl))))) zv)
    (zd (zC (zt xm (jv 3) (zZ PySem.F.plainAttrs_str PySem.F.slot_str_split PySem.F.type_str_split yY (jv 2) (ja_c zj ze)) (by with_unfolding_all rfl)) (zh (zu (i:=3) scLName.nd rfl (Or.inl rfl) (zp yT (jv 3) zj))) zv)
    (zh (zq (jv 3)))))))),?_⟩
  have sl:=line
  have b1:0<=n % 26/\n % 26 < 26:=⟨Int.emod_nonneg _ (by decide),Int.emod_lt_of_pos _ (by decide)⟩
  have b2:0<=n / 26 % 6/\n / 26 % 6 < 6:=⟨Int.emod_nonneg _ (by decide),Int.emod_lt_of_pos _ (by decide)⟩
  have b3:0<=n / 156 % 26/\n / 156 % 26 < 26:=⟨Int.emod_nonneg _ (by decide),Int.emod_lt_of_pos _ (by decide)⟩
  have b4:0<=n / 4056 % 7/\n / 4056 % 7 < 7:=⟨Int.emod_nonneg _ (by decide),Int.emod_lt_of_pos _ (by decide)⟩
  obtain ⟨l1,a1⟩:=seg (a:=n % 26) (b:=1 + n / 26 % 6) (by lia) (by lia) (by lia) (by lia)
  obtain ⟨l2,a2⟩:=seg (a:=n / 156 % 26) (b:=n / 4056 % 7) (by lia) (by lia) (by lia) (by lia)
  have cD:∀ {i j:Int},0 < j->j < 1073741824->CDiv i j:=fun h1 h2=>⟨h1,h2⟩
  have s52:S52.length=52:=by decide +kernel
  have sl1:=Txt.slice_le S52 (some (n % 26)) none
  have sl2:=Txt.slice_le S52 (some (n / 156 % 26)) none
  refine ⟨_,rfl,_,rfl,_,_,rfl,rfl,(by show (0:Int) < _; decide),_,rfl,S52,rfl,by lia,_,rfl,_,_,rfl,rfl,cD (by decide) (by decide),_,_,rfl,rfl,(by show (0:Int) < _; decide),_,_,rfl,rfl,_,rfl,_,rfl,by lia,?_⟩
  refine ⟨_,rfl,_,rfl,_,rfl,_,_,rfl,rfl,cD (by decide) (by decide),_,_,rfl,rfl,(by show (0:Int) < _; decide),_,rfl,S52,rfl,by lia,_,rfl,_,_,rfl,rfl,cD (by decide) (by decide),_,_,rfl,rfl,(by show (0:Int) < _; decide),_,rfl,_,rfl,by lia,_,_,rfl,rfl,by lia,?_⟩
  have gw:X0 (Txt.slice (Txt.slice S52 (some (n % 26)) none) none (some (1 + n / 26 % 6)) ++ Txt.slice (Txt.slice S52 (some (n / 156 % 26)) none) none (some (n / 4056 % 7))):=by
    refine ⟨by rw [PySem.Str.length_append]; lia,by rw [PySem.Str.length_append]; lia,fun c hc=>?_⟩
    rw [YU] at hc
    rcases List.mem_append.mp hc with hc | hc
    · exact a1 c hc
    · exact a2 c hc
  generalize Txt.slice (Txt.slice S52 (some (n % 26)) none) none (some (1 + n / 26 % 6)) ++ Txt.slice (Txt.slice S52 (some (n / 156 % 26)) none) none (some (n / 4056 % 7))=z0 at gw
  suffices rest:∀ (z:Str) (H1:Hp) (v:Option V),X0 z->Same H H1->(tSeq _ _:TS) { nx:=fun _ H'=>Q .non H',rt:=Q } [some (.int n),some (.str S52),some (.str "def kind give let if else case end num plus minus times over rest less same make call func ask"),some (.str z),v] H1 by
    refine ⟨_,rfl,_,_,rfl,rfl,cD (by decide) (by decide),_,_,rfl,rfl,(by show (0:Int) < _; decide),rfl,_,rfl,?_⟩
    refine ite2 (fun _=>?_) (fun _=>rest z0 H none gw (Same.refl _))
    refine ⟨_,rfl,rfl,_,_,rfl,rfl,by decide,by decide +kernel,fun p hp=>?_⟩
    rw [ZE]
    obtain ⟨v,hm,hv⟩:=X1 (l:=OTHERS.map V.str) (k:=12) (by decide +kernel) (by decide) n
    obtain ⟨z,hz,rfl⟩:=List.mem_map.mp hm
    exact ⟨_,rfl,_,_,rfl,rfl,(by show (0:Int) < _; decide),p,_,_,_,rfl,rfl,SqL.of zc,hv,rest z _ _ (Yj z hz) (zi hp _)⟩
  intro z H1 v hz s1
  refine ⟨_,rfl,_,rfl,rfl,_,_,rfl,rfl,by decide,by decide +kernel,fun p hp=>?_⟩
  rw [Xg]
  refine ⟨p,_,rfl,.inl (SqL.of zc),rfl,wZ,_,rfl,?_⟩
  rw [if_neg Bool.false_ne_true,xg]
  by_cases c:z∈KEPT
  · refine iteD c ?_
    refine ⟨_,rfl,_,_,rfl,rfl,?_,_,rfl,q _ _ (zb2 z c) (s1.trans (zi hp _))⟩
    have:=hz.2.1
    show z.length + 1<=sizeLine
    lia
  · exact wk c ⟨_,rfl,q _ _ (Q8 hz c) (s1.trans (zi hp _))⟩
theorem Jg:FnScope ["_law_cell","_law_many_here"] ["_law_cell","_law_many_here"] (zn ZA):=⟨rfl,rfl,rfl,by decide +kernel,rfl,by decide +kernel,by decide +kernel⟩
theorem Jh:(["_law_cell","_law_many_here","_law_number_here"]:List Str).Nodup:=by decide +kernel
theorem WQ (F:Fun K "_law_names" "_law_names" ZA f fd) (GS:Ca P w K mg base CX0 1 "_law_stream" ["_law_cell","_law_many_here"] jh) (GN:Ca P w K mg base CX0 1 "_law_name" ["_law_number_here"] ZD):FnOk P w K mg base CX0 2 f fd ["_law_cell","_law_many_here"] xS:=by
  refine F.by Jg (fun vs H Q E h=>?_) (fun cdv A outer s H vs Q E hr h=>?_)
  · obtain ⟨c,n,rfl,_⟩:=h
    rfl
  obtain ⟨c,n,rfl,h0,h1,q⟩:=h
  refine ⟨_,zh (zq (vy ["_law_number_here"] rfl (xX (zN GS hr rfl zJ (ja_c (jv 0) (ja_c (jv 1) ze))))
    (fun _ _ _ _ _=>zF (i:=2) Jh rfl (Or.inl rfl)) (fun _ _ _ _ _=>vx) (fun _ _ _ _ _=>zN GN hr rfl zJ (ja_c (jv 2) ze)))),?_⟩
  have sl:=line
  refine ⟨_,rfl,_,rfl,c,n,rfl,h0,h1,fun H1 p1 l s1 hl hall hp1=>⟨p1,rfl,⟨_,SqL.of hp1⟩,Qw (xs:=l.map V.int) (fun i τ ys H'=>Same H1 H'/\(∃ v,τ=[some (.int c),some (.int n),v])/\∃ ws:List Str,ys=ws.map V.str/\ws.length=i/\∀ x∈ws,zx x=true) ⟨Same.refl _,⟨none,rfl⟩,[],rfl,rfl,fun x hx=>by cases hx⟩ (fun i τ ys H' _ pv=>SqL.of (pv.1 _ _ hp1)) ?_ ?_⟩⟩
  · rintro i x τ ys H' hx ⟨sm,⟨v,rfl⟩,ws,rfl,hw,hn⟩
    obtain ⟨y,hy,rfl⟩:∃ y,l[i]?=some y/\V.int y=x:=by
      rw [List.getElem?_map] at hx
      cases e:l[i]? with
      | none=>rw [e] at hx; cases hx
      | some y=>rw [e] at hx; exact ⟨y,rfl,Option.some.inj hx⟩
    have hi:=(List.getElem?_eq_some_iff.mp hy).1
    refine ⟨_,rfl,y,rfl,(hall y (List.mem_of_getElem? hy)).1,fun z H2 hz s2=>⟨by rw [List.length_map]; lia,sm.trans s2,⟨_,rfl⟩,ws ++ [z],by rw [List.map_append]; rfl,by rw [List.length_append,List.length_singleton,hw],fun x hx=>?_⟩⟩
    rcases List.mem_append.mp hx with hx | hx
    · exact hn x hx
    · rw [List.mem_singleton.mp hx]
      exact hz
  · rintro τ ys H' ⟨sm,_,ws,rfl,hw,hn⟩ p hp
    rw [List.length_map] at hw
    have fr:H p=none:=by
      cases z:H p with
      | none=>rfl
      | some o=>rw [sm _ _ (s1 _ _ z)] at hp; cases hp
    exact q _ p ws ((s1.trans sm).trans (zi hp _)) fr (by lia) hn zc
theorem scLNumber:FnScope ["_law_cell","_law_xs","_law_most"] ["_law_cell"] (zn vW):=⟨rfl,rfl,rfl,by decide +kernel,rfl,by decide +kernel,by decide +kernel⟩
theorem Xh (F:Fun K "_law_number" "_law_number" vW f fd) (GS:Ca P w K mg base CX0 1 "_law_stream" ["_law_cell","_law_many_here"] jh):FnOk P w K mg base CX0 2 f fd ["_law_cell"] j5:=by
  refine F.by scLNumber (fun vs H Q E h=>?_) (fun cdv A outer s H vs Q E hr h=>?_)
  · obtain ⟨c,rfl,_⟩:=h
    rfl
  obtain ⟨c,rfl,q⟩:=h
  refine ⟨_,zd (zu (i:=1) scLNumber.nd rfl (Or.inl rfl) (zN GS hr rfl zJ (ja_c (jv 0) (ja_c zg ze))))
    (zd (zu (i:=2) scLNumber.nd rfl (Or.inl rfl) (zp xy (zp zbH zg zg) zg))
    (zd (zC (zt z7 (zp z5 (jv 0) zg) zg (zw _)) (zh (zq (zp xy (zp z5 (zp yh (jv 0) zg) zg) zg))) zv)
    (zd (zC (zt z7 (zp z5 (jv 0) zg) zg (zw _)) (zh (zq (zp xy (zp z5 (zp yh (jv 0) zg) (zp zL (zp xz zg (jv 2)) zg)) (jv 2)))) zv)
    (zh (zq (zp xy (zp z5 (zp xz (zp xz (zp xz (zE zG (jv 1) zg (fun _ _=>rfl)) (zE zG (jv 1) zg (fun _ _=>rfl))) (zE zG (jv 1) zg (fun _ _=>rfl))) (zE zG (jv 1) zg (fun _ _=>rfl))) (zp zL (zp xz zg (jv 2)) zg)) (jv 2))))))),?_⟩
  have cD:∀ {i j:Int},0 < j->j < 1073741824->CDiv i j:=fun h1 h2=>⟨h1,h2⟩
  refine ⟨_,rfl,c,4,rfl,by decide,by decide,fun H1 p l s1 hl hall hp=>?_⟩
  refine ⟨_,_,rfl,rfl,⟨by decide,by decide,by decide⟩,_,_,rfl,rfl,?_⟩
  have big:∀ x:Int,(x % (2 * ((10:Int) ^ (30:Int).toNat - 1) + 1) - ((10:Int) ^ (30:Int).toNat - 1)).natAbs < 10 ^ 30:=fun x=>by
    have e:(10:Int) ^ (30:Int).toNat=1000000000000000000000000000000:=by decide
    have e2:(10:Nat) ^ 30=1000000000000000000000000000000:=by decide
    rw [e,e2]
    have:=Int.emod_nonneg x (show (2 * ((1000000000000000000000000000000:Int) - 1) + 1)≠0 by decide)
    have:=Int.emod_lt_of_pos x (show (0:Int) < (2 * ((1000000000000000000000000000000:Int) - 1) + 1) by decide)
    lia
  have pos:(0:Int) < 2 * ((10:Int) ^ (30:Int).toNat - 1) + 1:=by decide
  refine ⟨_,rfl,_,_,rfl,rfl,(by show (0:Int) < _; decide),rfl,_,rfl,?_⟩
  refine ite2 (fun _=>?_) (fun _=>?_)
  · refine ⟨_,rfl,_,_,rfl,rfl,cD (by decide) (by decide),_,_,rfl,rfl,(by show (0:Int) < _; decide),_,_,rfl,rfl,q _ _ ?_ s1⟩
    have:=Int.emod_nonneg (c / 3) (show (41:Int)≠0 by decide)
    have:=Int.emod_lt_of_pos (c / 3) (show (0:Int) < 41 by decide)
    have e2:(10:Nat) ^ 30=1000000000000000000000000000000:=by decide
    rw [e2]
    lia
  refine ⟨_,rfl,_,_,rfl,rfl,(by show (0:Int) < _; decide),rfl,_,rfl,?_⟩
  refine ite2 (fun _=>?_) (fun _=>?_)
  · exact ⟨_,rfl,_,_,rfl,rfl,cD (by decide) (by decide),_,rfl,_,_,rfl,rfl,.inl ⟨by decide,by decide⟩,_,_,rfl,rfl,_,_,rfl,rfl,pos,_,rfl,_,_,rfl,rfl,q _ _ (big _) s1⟩
  · match l,hl,hall,hp with
    | [x0,x1,x2,x3],_,hall,hp =>
      have h1:=hall x1 (by simp)
      have h2:=hall x2 (by simp)
      have h3:=hall x3 (by simp)
      have at_:∀ (k:Nat) (x:Int),[x0,x1,x2,x3][k]?=some x->atI ([x0,x1,x2,x3].map V.int) (k:Int)=some (.int x):=fun k x e=>yo (by rw [List.getElem?_map,e]; rfl)
      exact ⟨_,rfl,p,_,_,_,rfl,rfl,SqL.of hp,at_ 0 x0 rfl,_,rfl,p,_,_,_,rfl,rfl,SqL.of hp,at_ 1 x1 rfl,_,_,rfl,rfl,.inr ⟨by lia,by lia⟩,_,rfl,p,_,_,_,rfl,rfl,SqL.of hp,at_ 2 x2 rfl,_,_,rfl,rfl,.inr ⟨by lia,by lia⟩,_,rfl,p,_,_,_,rfl,rfl,SqL.of hp,at_ 3 x3 rfl,_,_,rfl,rfl,.inr ⟨by lia,by lia⟩,
        _,rfl,_,_,rfl,rfl,.inl ⟨by decide,by decide⟩,_,_,rfl,rfl,_,_,rfl,rfl,pos,_,rfl,_,_,rfl,rfl,q _ _ (big _) s1⟩
end
end Rdr
namespace Rdr
open PySem L2 K11 Rd
theorem X2:SP=sg 32:=by decide
theorem zcG:NL=sg 10:=by decide
structure Wd (x:Str):Prop where
  sp:32 ∉ cl x
  nl:10 ∉ cl x
  len:x.length<=32
theorem lets_no:32 ∉ cl LETS/\10 ∉ cl LETS:=by decide +kernel
theorem zS {x:Str} (h:zx x=true):Wd x/\x≠("":Str):=by
  unfold zx yZ at h
  simp only [Bool.and_eq_true,decide_eq_true_eq] at h
  obtain ⟨⟨h1,h2⟩,h3,_⟩:=h
  refine ⟨⟨fun c=>lets_no.1 (madeOf_iff.mp h3 _ c),fun c=>lets_no.2 (madeOf_iff.mp h3 _ c),by lia⟩,fun e=>?_⟩
  rw [e] at h1
  exact absurd h1 (by decide)
theorem w4 {x:Str} (h:zH x=true):Wd x:=by
  obtain ⟨⟨h1,h2⟩,h3,_⟩:=isNumber_iff.mp h
  by_cases c:∃ cs,cl x=45 :: cs
  · obtain ⟨cs,hc⟩:=c
    rw [xD hc] at h1 h2 h3
    have hl:x.length=cs.length + 1:=by rw [<- ye,hc,List.length_cons]
    refine ⟨fun m=>?_,fun m=>?_,by lia⟩ <;>
    · rw [hc] at m
      rcases List.mem_cons.mp m with m | m
      · lia
      · have:=h3 _ m
        lia
  · rw [xE c] at h1 h2 h3
    have hl:=ye x
    exact ⟨fun m=>by have:=h3 _ m; lia,fun m=>by have:=h3 _ m; lia,by lia⟩
def wdB (x:Str):Bool:=!(cl x).contains 32 && !(cl x).contains 10 && decide (x.length<=32)
theorem yS {x:Str} (h:wdB x=true):Wd x:=by
  unfold wdB at h
  simp only [Bool.and_eq_true,Bool.not_eq_true',decide_eq_true_eq] at h
  exact ⟨fun m=>by simp [m] at h,fun m=>by simp [m] at h,h.2⟩
abbrev tx (ws:List Str):Str:=Str.join SP ws
theorem j7 {c:Nat}:∀ (xss:List (List Str)),(∀ ws∈xss,ws≠[])->Str.join (sg c) (xss.map (Str.join (sg c)))=Str.join (sg c) xss.flatten
  | [],_=>rfl
  | [ws],h=>by
    rw [List.map_singleton,List.flatten_cons,List.flatten_nil,List.append_nil]
    rfl
  | ws :: vs :: r,h=>by
    have ih:=j7 (c:=c) (vs :: r) fun x hx=>h x (List.mem_cons_of_mem _ hx)
    have nf:(vs :: r).flatten≠[]:=by
      rw [List.flatten_cons]
      intro e
      exact h vs (List.mem_cons_of_mem _ List.mem_cons_self) (List.append_eq_nil_iff.mp e).1
    apply y7
    rw [List.flatten_cons,Z6 (h ws List.mem_cons_self) nf,<- ih,List.map_cons,List.map_cons,zW]
    rfl
theorem ZG (xss:List (List Str)) (h:∀ ws∈xss,ws≠[]):Str.join SP (xss.map tx)=tx xss.flatten:=by
  show Str.join SP (xss.map (Str.join SP))=Str.join SP _
  rw [X2]
  exact j7 xss h
theorem wy {ws:List Str} (h:∀ x∈ws,Wd x):(tx ws).length<=33 * ws.length:=by
  have:=Z7 (c:=32) (ws:=ws) (k:=32) fun x hx=>(h x hx).len
  show (Str.join SP ws).length<=_
  rw [X2]
  lia
theorem vC:∀ (xss:List (List Str)),(∀ ws∈xss,ws≠[]/\∀ x∈ws,Wd x)->wide SP (xss.map tx)<=34 * xss.flatten.length
  | [],_=>by decide
  | ws :: r,h=>by
    have ih:=vC r fun x hx=>h x (List.mem_cons_of_mem _ hx)
    obtain ⟨h1,h2⟩:=h ws List.mem_cons_self
    have l:=wy h2
    have p:1<=ws.length:=by
      cases ws with
      | nil=>exact absurd rfl h1
      | cons _ _=>simp
    have s1:SP.length=1:=by decide
    unfold wide at ih ⊢
    rw [List.map_cons,List.map_cons,List.sum_cons,List.flatten_cons,List.length_append,List.length_cons,s1]
    rw [s1] at ih
    lia
inductive DWr:D->List Str->Prop
  | num {n:Int}:n.natAbs < 10 ^ 30->DWr (.tup [.str "num",.int n]) ["num",Str.ofString (toString n)]
  | op {o a b:Str}:DWr (.tup [.str "op",.str o,.str a,.str b]) [o,a,b]
  | names {o g:Str} {ns:List Str}:o∈DEEDS->ns.length<=9->DWr (.tup [.str o,.str g,Rd.«strs» ns]) (o :: g :: (ns ++ [(";":Str)]))
inductive Wr:D->List Str->Prop
  | give {x:Str}:Wr (.tup [.str "give",.str x]) ["give",x]
  | lt {x:Str} {d b:D} {dw bw:List Str}:DWr d dw->Wr b bw->Wr (.tup [.str "let",.str x,d,b]) ("let" :: x :: (dw ++ bw))
  | if_ {x:Str} {a b:D} {aw bw:List Str}:Wr a aw->Wr b bw->Wr (.tup [.str "if",.str x,a,b]) ("if" :: x :: (aw ++ ("else":Str) :: bw))
  | case {x:Str} {arms:List Arm}:arms.length<=20->(∀ a∈arms,a.names.length<=9)->(∀ a∈arms,Wr a.b a.bw)->Wr (.tup [.str "case",.str x,.tup (arms.map Arm.dat)]) ("case" :: x :: (arms.flatMap Arm.words ++ [("end":Str)]))
structure GoodD (d:D) (ws:List Str):Prop where
  deed:deed LX ws=some (d,[])
  word:∀ x∈ws,Wd x
  ne:ws≠[]
  sz:szD d<=2 * ws.length
  wr:DWr d ws
structure Good (b:D) (ws:List Str):Prop where
  body:BodyOk LX ws b
  word:∀ x∈ws,Wd x
  ne:ws≠[]
  sz:szD b<=3 * ws.length
  wr:Wr b ws
theorem lex_ok:LexOk LX:=⟨by decide +kernel⟩
theorem w5 {n:Int} (h:n.natAbs < 10 ^ 30):GoodD (.tup [.str "num",.int n]) ["num",Str.ofString (toString n)]:=by
  obtain ⟨h1,h2⟩:=yK h
  have e:=zbV lex_ok (L:=LX) (x:=Str.ofString (toString n)) (r:=[]) h1
  refine ⟨?_,fun x hx=>?_,by simp,by simp [szD,szL],.num h⟩
  · rw [show LX.iv (Str.ofString (toString n))=n from h2] at e
    exact e
  · rcases List.mem_cons.mp hx with e | hx
    · rw [e]; exact yS (by decide)
    · rw [List.mem_singleton.mp hx]; exact w4 h1
theorem zb3:∀ x∈OPS,wdB x=true:=by decide +kernel
theorem Ji:∀ x∈DEEDS,wdB x=true:=by decide +kernel
theorem Yk {o a b:Str} (ho:o∈OPS) (ha:zx a=true) (hb:zx b=true):GoodD (.tup [.str "op",.str o,.str a,.str b]) [o,a,b]:=by
  refine ⟨zcE lex_ok (L:=LX) (r:=[]) ho ha hb,fun x hx=>?_,by simp,by simp [szD,szL],.op⟩
  simp only [List.mem_cons,List.not_mem_nil,or_false] at hx
  rcases hx with e | e | e <;> rw [e]
  · exact yS (zb3 o ho)
  · exact (zS ha).1
  · exact (zS hb).1
theorem ji:∀ l:List Str,szL (l.map D.str)=l.length
  | []=>rfl
  | x :: l=>by rw [List.map_cons,szL,ji l,szD,List.length_cons]; lia
theorem vp {o g:Str} {ns:List Str} (ho:o∈DEEDS) (hg:zx g=true) (hn:∀ x∈ns,zx x=true) (hl:ns.length<=9):GoodD (.tup [.str o,.str g,Rd.«strs» ns]) (o :: g :: (ns ++ [(";":Str)])):=by
  refine ⟨VS lex_ok (L:=LX) (r:=[]) ho hg hn hl,fun x hx=>?_,by simp,?_,.names ho hl⟩
  · simp only [List.mem_cons,List.mem_append,List.not_mem_nil,or_false] at hx
    rcases hx with e | e | e | e
    · rw [e]; exact yS (Ji o ho)
    · rw [e]; exact (zS hg).1
    · exact (zS (hn x e)).1
    · rw [e]; exact yS (by decide)
  · unfold Rd.«strs»
    rw [szD,szL,szL,szL,szL,szD,szD,szD,ji]
    simp only [List.length_cons,List.length_append,List.length_nil]
    lia
theorem x9 {x:Str} (hx:zx x=true):Good (.tup [.str "give",.str x]) ["give",x]:=by
  refine ⟨WJ hx,fun y hy=>?_,by simp,by simp [szD,szL],.give⟩
  rcases List.mem_cons.mp hy with e | hy
  · rw [e]; exact yS (by decide)
  · rw [List.mem_singleton.mp hy]; exact (zS hx).1
theorem Yl {x:Str} {d b:D} {dw bw:List Str} (hx:zx x=true) (hd:GoodD d dw) (hb:Good b bw):Good (.tup [.str "let",.str x,d,b]) ("let" :: x :: (dw ++ bw)):=by
  refine ⟨VT hx hd.deed hb.body,fun y hy=>?_,by simp,?_,.lt hd.wr hb.wr⟩
  · simp only [List.mem_cons,List.mem_append] at hy
    rcases hy with e | e | e | e
    · rw [e]; exact yS (by decide)
    · rw [e]; exact (zS hx).1
    · exact hd.word y e
    · exact hb.word y e
  · have:=hd.sz
    have:=hb.sz
    rw [szD,szL,szL,szL,szL,szL,szD,szD]
    simp only [List.length_cons,List.length_append]
    lia
theorem ZH {x:Str} {a b:D} {aw bw:List Str} (hx:zx x=true) (ha:Good a aw) (hb:Good b bw):Good (.tup [.str "if",.str x,a,b]) ("if" :: x :: (aw ++ ("else":Str) :: bw)):=by
  refine ⟨QP hx ha.body hb.body,fun y hy=>?_,by simp,?_,.if_ ha.wr hb.wr⟩
  · simp only [List.mem_cons,List.mem_append] at hy
    rcases hy with e | e | e | e | e
    · rw [e]; exact yS (by decide)
    · rw [e]; exact (zS hx).1
    · exact ha.word y e
    · rw [e]; exact yS (by decide)
    · exact hb.word y e
  · have:=ha.sz
    have:=hb.sz
    rw [szD,szL,szL,szL,szL,szL,szD,szD]
    simp only [List.length_cons,List.length_append]
    lia
structure GoodA (a:Arm):Prop where
  ok:a.Ok LX
  word:∀ x∈a.words,Wd x
  sz:szD a.dat<=3 * a.words.length
  wr:Wr a.b a.bw
theorem Ym {t:Str} {ns bw:List Str} {b:D} (ht:zx t=true) (hn:∀ x∈ns,zx x=true) (hl:ns.length<=9) (hb:Good b bw):GoodA ⟨t,ns,bw,b⟩:=by
  refine ⟨⟨ht,hn,hl,hb.body⟩,fun y hy=>?_,?_,hb.wr⟩
  · unfold Arm.words at hy
    simp only [List.mem_cons,List.mem_append] at hy
    rcases hy with e | e | e | e
    · rw [e]; exact (zS ht).1
    · exact (zS (hn y e)).1
    · rw [e]; exact yS (by decide)
    · exact hb.word y e
  · have:=hb.sz
    unfold Arm.dat Arm.words Rd.«strs»
    dsimp only
    rw [szD,szL,szL,szL,szL,szD,szD,ji]
    simp only [List.length_cons,List.length_append]
    lia
theorem Yn:∀ l:List Arm,(∀ a∈l,GoodA a)->szL (l.map Arm.dat)<=3 * (l.flatMap Arm.words).length
  | [],_=>by decide
  | a :: l,h=>by
    have h1:=(h a List.mem_cons_self).sz
    have h2:=Yn l fun x hx=>h x (List.mem_cons_of_mem _ hx)
    rw [List.map_cons,szL,List.flatMap_cons,List.length_append]
    lia
theorem j8 {x:Str} {arms:List Arm} (hx:zx x=true) (h0:arms≠[]) (ha:∀ a∈arms,GoodA a) (hl:arms.length<=20):Good (.tup [.str "case",.str x,.tup (arms.map Arm.dat)]) ("case" :: x :: (arms.flatMap Arm.words ++ [("end":Str)])):=by
  cases arms with
  | nil=>exact absurd rfl h0
  | cons a more =>
    have b:=WK lex_ok (L:=LX) (x:=x) (a:=a) (more:=more) hx (ha a List.mem_cons_self).ok (fun c hc=>(ha c (List.mem_cons_of_mem _ hc)).ok) (by rw [List.length_cons] at hl; lia)
    refine ⟨?_,fun y hy=>?_,by simp,?_,.case hl (fun c hc=>(ha c hc).ok.few) fun c hc=>(ha c hc).wr⟩
    · exact b
    · simp only [List.mem_cons,List.mem_append,List.not_mem_nil,or_false,List.mem_flatMap] at hy
      rcases hy with e | e | ⟨c,hc,e⟩ | e
      · rw [e]; exact yS (by decide)
      · rw [e]; exact (zS hx).1
      · exact (ha c (by simpa using hc)).word y e
      · rw [e]; exact yS (by decide)
    · have:=Yn (a :: more) ha
      rw [szD,szL,szL,szL,szL,szD,szD,szD]
      simp only [List.length_cons,List.length_append,List.length_nil] at this ⊢
      lia
end Rdr
namespace Rdr
open PySem L2 K11 Rd
theorem zb4 (z:Str):("num ":Str) ++ z=tx ["num",z]:=by
  show ("num ":Str) ++ z=("num":Str) ++ SP ++ z
  rw [show (("num":Str) ++ SP)="num " from by decide]
theorem X3 (z:Str):("give ":Str) ++ z=tx ["give",z]:=by
  show ("give ":Str) ++ z=("give":Str) ++ SP ++ z
  rw [show (("give":Str) ++ SP)="give " from by decide]
theorem xb {ws:List Str} (h:∀ x∈ws,Wd x):wide SP ws<=33 * ws.length:=by
  have s1:SP.length=1:=by decide
  unfold wide
  rw [s1]
  have:(ws.map (·.length)).sum<=32 * ws.length:=by
    induction ws with
    | nil=>decide
    | cons x r ih =>
      have h1:=(h x List.mem_cons_self).len
      have h2:=ih fun y hy=>h y (List.mem_cons_of_mem _ hy)
      rw [List.map_cons,List.sum_cons,List.length_cons]
      lia
  lia
def X4:Sp:=fun vs H Q _=>∃ c:Int,vs=[.int c]/\∀ (H':Hp) (p:Addr) (v:V) (d:D) (ws:List Str),Same H H'->H' p=some (.tup [v,.str (tx ws)])->Is H' d v->GoodD d ws->ws.length<=13->Q (.ref p) H'
theorem ZI {i:Int} (h:i.natAbs < 10 ^ 30):i.natAbs.log2 < 1920:=by
  by_cases e:i.natAbs=0
  · rw [e]
    decide
  · exact (Nat.log2_lt e).mpr (Nat.lt_trans h (by decide +kernel))
theorem Jj {α:Type} (f:α->V) (x:α) (l:List α):cutV ((x :: l).map f) (some 1) none=l.map f:=by
  unfold cutV
  rw [List.length_map,List.length_cons]
  have c1:HT.sIx (l.length + 1) 0 (some 1)=1:=by
    unfold HT.sIx
    simp
  have c2:HT.sIx (l.length + 1) (l.length + 1) none=l.length + 1:=rfl
  rw [c1,c2]
  show (l.map f).take _=_
  exact List.take_of_length_le (by rw [List.length_map]; lia)
section
variable {P:Program} {w:World} {K:PySem.W.Frag} {mg:Str->Option Value} {base:Heap} {f:Addr} {fd:FuncData}
theorem scLDeed:FnScope ["_law_cell","_law_way","_law_number_here","_law_word","_law_one","_law_other","_law_names_here"] ["_law_cell"] (zn Y5):=⟨rfl,rfl,rfl,by decide +kernel,rfl,by decide +kernel,by decide +kernel⟩
theorem Jk (F:Fun K "_law_deed" "_law_deed" Y5 f fd) (GN:Ca P w K mg base CX0 2 "_law_names" ["_law_cell","_law_many_here"] xS) (GM:Ca P w K mg base CX0 2 "_law_number" ["_law_cell"] j5) (mS:mg "str"=none) (mT:mg "tuple"=none):FnOk P w K mg base CX0 3 f fd ["_law_cell"] X4:=by
  refine F.by scLDeed (fun vs H Q E h=>?_) (fun cdv A outer s H vs Q E hr h=>?_)
  · obtain ⟨c,rfl,_⟩:=h
    rfl
  obtain ⟨c,rfl,q⟩:=h
  refine ⟨_,zd (zu (i:=1) scLDeed.nd rfl (Or.inl rfl) (zp z5 (jv 0) zg)) (zd (zu (i:=2) scLDeed.nd rfl (Or.inl rfl) (zp yh (jv 0) zg))
    (zd (zC (zt z7 (jv 1) zg (zw _))
      (zd (zu (i:=2) scLDeed.nd rfl (Or.inl rfl) (zN GM hr rfl zJ (ja_c (jv 2) ze)))
      (zh (zq (zX (ja_c (zX (ja_c zj (ja_c (jv 2) ze))) (ja_c (zp yT zj (yd xA rfl mS PyProof.Rows.boot_str (ja_c (jv 2) ze))) ze)))))) zv)
    (zd (zC (zt z7 (jv 1) zg (zw _))
      (zd (zu (i:=3) scLDeed.nd rfl (Or.inl rfl) (zE zG (zB (ja_c zj (ja_c zj (ja_c zj (ja_c zj (ja_c zj (ja_c zj (ja_c zj ze)))))))) (zp z5 (jv 2) zg) (fun _ _=>rfl)))
      (zd (xO (zN GN hr rfl zJ (ja_c (zp yh (jv 2) zg) (ja_c zg ze))) (zbT rfl (zQ (zF (i:=4) scLDeed.nd rfl (Or.inl rfl)) (zQ (zF (i:=5) scLDeed.nd rfl (Or.inl rfl)) yH))))
      (zh (zq (zX (ja_c (zX (ja_c zj (ja_c (jv 3) (ja_c (jv 4) (ja_c (jv 5) ze))))) (ja_c (zZ PySem.F.plainAttrs_str PySem.F.slot_str_join PySem.F.type_str_join yI zj (ja_c (zB (ja_c (jv 3) (ja_c (jv 4) (ja_c (jv 5) ze)))) ze)) ze))))))) zv)
    (zd (zu (i:=3) scLDeed.nd rfl (Or.inl rfl) (zE zG (zB (ja_c zj (ja_c zj (ja_c zj (ja_c zj ze))))) (zp xy (jv 1) zg) (fun _ _=>rfl)))
    (zd (zu (i:=6) scLDeed.nd rfl (Or.inl rfl) (zN GN hr rfl zJ (ja_c (zp yh (jv 2) zg) (ja_c (zp zL zg (zp z5 (jv 2) zg)) ze))))
    (zh (zq (zX (ja_c (zX (ja_c (jv 3) (ja_c (zE zG (jv 6) zg (fun _ _=>rfl)) (ja_c (yd yq rfl mT PyProof.Rows.boot_tuple (ja_c (zD z3 (jv 6) (zI zg) zR) ze)) ze))))
      (ja_c (zZ PySem.F.plainAttrs_str PySem.F.slot_str_join PySem.F.type_str_join yI zj (ja_c (zp z8 (zp z8 (zB (ja_c (jv 3) ze)) (jv 6)) (zB (ja_c zj ze))) ze)) ze)))))))))),?_⟩
  have sl:=line
  have cD:∀ {i j:Int},0 < j->j < 1073741824->CDiv i j:=fun h1 h2=>⟨h1,h2⟩
  have w6:0<=c % 6/\c % 6 < 6:=⟨Int.emod_nonneg _ (by decide),Int.emod_lt_of_pos _ (by decide)⟩
  refine ⟨_,rfl,_,_,rfl,rfl,(by show (0:Int) < _; decide),_,rfl,_,_,rfl,rfl,cD (by decide) (by decide),_,rfl,rfl,_,rfl,?_⟩
  by_cases c0:c % 6=0
  · refine iteD (congrArg V.int c0) ?_
    refine ⟨_,rfl,c / 6,rfl,fun i H1 hi s1=>?_⟩
    refine ⟨_,rfl,by show 2<=sizeLine; decide,fun p1 hp1=>⟨_,rfl,i,rfl,ZI hi,_,_,rfl,rfl,?_,by show 2<=sizeLine; decide,fun p2 hp2=>?_⟩⟩
    · have:=(w5 hi).word (Str.ofString (toString i)) (by simp)
      have:=this.len
      show 4 + (Str.ofString (toString i)).length<=sizeLine
      lia
    · rw [zb4] at *
      have t2:=Tups.new (o:=.tup [.ref p1,.str (tx ["num",Str.ofString (toString i)])]) hp2
      exact q _ p2 (.ref p1) _ _ ((s1.trans (zi hp1 _)).trans (zi hp2 _)) zc (.tup (t2 _ _ zc) (.cons (.str _) (.cons (.int i) .nil))) (w5 hi) (by show 2<=13; decide)
  refine wk (fun e=>c0 (by injection e)) ?_
  refine ⟨_,rfl,rfl,_,rfl,?_⟩
  by_cases c1:c % 6=1
  · refine iteD (congrArg V.int c1) ?_
    refine ⟨by show 7<=sizeLine; decide,fun p1 hp1=>?_⟩
    obtain ⟨v,hm,hv⟩:=X1 (l:=OPS.map V.str) (k:=7) (by decide) (by decide) (c / 6)
    obtain ⟨o,ho,rfl⟩:=List.mem_map.mp hm
    refine ⟨_,rfl,_,_,rfl,rfl,(by show (0:Int) < _; decide),p1,_,_,_,rfl,rfl,SqL.of zc,hv,?_⟩
    refine ⟨_,rfl,_,_,rfl,rfl,cD (by decide) (by decide),c / 6 / 7,2,rfl,by decide,by decide,fun H2 p2 l s2 _ hl hall hp2=>?_⟩
    match l,hl,hall,hp2 with
    | [a,b],_,hall,hp2 =>
      have ha:=hall a (by simp)
      have hb:=hall b (by simp)
      refine ⟨p2,_,rfl,SqL.of hp2,rfl,_,_,rfl,_,_,rfl,rfl,?_⟩
      have G:=Yk ho ha hb
      refine ⟨_,rfl,_,rfl,_,rfl,by show 4<=sizeLine; decide,fun p3 hp3=>?_⟩
      refine ⟨rfl,_,rfl,_,rfl,_,rfl,by show 3<=sizeLine; decide,fun p4 hp4=>⟨SP,p4,[o,a,b],rfl,rfl,SqL.of zc,?_,by show 2<=sizeLine; decide,fun p5 hp5=>?_⟩⟩
      · have:=xb G.word
        have:([o,a,b]:List Str).length=3:=rfl
        lia
      · have t4:=Tups.new (o:=.lst [.str o,.str a,.str b]) hp4
        have t5:=Tups.new (o:=.tup [.ref p3,.str (tx [o,a,b])]) hp5
        exact q _ p5 (.ref p3) _ _ (((((zi hp1 _).trans s2).trans (zi hp3 _)).trans (zi hp4 _)).trans (zi hp5 _)) zc (.tup (t5 _ _ (t4 _ _ zc)) (.cons (.str _) (.cons (.str _) (.cons (.str _) (.cons (.str _) .nil))))) G (by show 3<=13; decide)
  refine wk (fun e=>c1 (by injection e)) ?_
  refine ⟨by show 4<=sizeLine; decide,fun p1 hp1=>?_⟩
  obtain ⟨o,ho,hv⟩:∃ o,o∈DEEDS/\atI (DEEDS.map V.str) (c % 6 - 2)=some (.str o):=by
    have hj:c % 6 - 2=0\/c % 6 - 2=1\/c % 6 - 2=2\/c % 6 - 2=3:=by lia
    rcases hj with e | e | e | e <;> rw [e]
    · exact ⟨"make",by decide,by rfl⟩
    · exact ⟨"call",by decide,by rfl⟩
    · exact ⟨"func",by decide,by rfl⟩
    · exact ⟨"ask",by decide,by rfl⟩
  refine ⟨_,rfl,_,_,rfl,rfl,p1,_,_,_,rfl,rfl,SqL.of zc,hv,?_⟩
  have m10:0<=c / 6 % 10/\c / 6 % 10 < 10:=⟨Int.emod_nonneg _ (by decide),Int.emod_lt_of_pos _ (by decide)⟩
  refine ⟨_,rfl,_,_,rfl,rfl,cD (by decide) (by decide),_,rfl,_,_,rfl,rfl,(by show (0:Int) < _; decide),_,_,rfl,rfl,c / 6 / 10,1 + c / 6 % 10,rfl,by lia,by lia,fun H2 p2 l s2 _ hl hall hp2=>?_⟩
  cases l with
  | nil=>simp at hl; lia
  | cons g ns =>
    have hg:=hall g (by simp)
    have hns:∀ x∈ns,zx x=true:=fun x hx=>hall x (List.mem_cons_of_mem _ hx)
    rw [List.length_cons] at hl
    have G:=vp ho hg hns (by lia)
    refine ⟨_,rfl,_,rfl,p2,_,_,_,rfl,rfl,SqL.of hp2,yo (j:=0) rfl,_,rfl,_,rfl,p2,_,rfl,SqL.of hp2,fun p3 hp3=>?_⟩
    rw [Jj]
    refine ⟨p3,_,rfl,.inl ⟨SqL.of zc,fun p4 hp4=>⟨by show 3<=sizeLine; decide,fun p5 hp5=>?_⟩⟩⟩
    have t3:=Tups.new (o:=.lst (ns.map V.str)) hp3
    have t4:=Tups.new (o:=.tup (ns.map V.str)) hp4
    have t5:=Tups.new (o:=.tup [.str o,.str g,.ref p4]) hp5
    have s5:Same H2 _:=((zi (o:=.lst (ns.map V.str)) hp3).trans (zi (o:=.tup (ns.map V.str)) hp4)).trans (zi (o:=.tup [.str o,.str g,.ref p4]) hp5)
    have i5:upd (upd (upd H2 p3 (.lst (ns.map V.str))) p4 (.tup (ns.map V.str))) p5 (.tup [.str o,.str g,.ref p4]) p5=some (.tup [.str o,.str g,.ref p4]):=zc
    have i4:=t5 _ _ (zc (H:=upd H2 p3 (.lst (ns.map V.str))) (a:=p4) (o:=.tup (ns.map V.str)))
    have hp2':=s5 _ _ hp2
    generalize upd (upd (upd H2 p3 (.lst (ns.map V.str))) p4 (.tup (ns.map V.str))) p5 (.tup [.str o,.str g,.ref p4])=H5 at *
    refine ⟨rfl,_,rfl,by show 1<=sizeLine; decide,fun p6 hp6=>?_⟩
    refine ⟨_,rfl,p6,p2,_,_,rfl,rfl,zc,by rw [zk (zo hp2' hp6)]; exact hp2',?_,fun p7 hp7=>?_⟩
    · rw [List.length_singleton,List.length_map,List.length_cons]
      lia
    refine ⟨by show 1<=sizeLine; decide,fun p8 hp8=>?_⟩
    have n78:p7≠p8:=zo zc hp8
    refine ⟨p7,p8,_,_,rfl,rfl,by rw [zk n78]; exact zc,zc,?_,fun p9 hp9=>?_⟩
    · rw [List.length_append,List.length_singleton,List.length_map,List.length_cons,List.length_singleton]
      lia
    refine ⟨SP,p9,o :: g :: (ns ++ [(";":Str)]),rfl,rfl,SqL.of (by rw [zc]; simp),?_,by show 2<=sizeLine; decide,fun p10 hp10=>?_⟩
    · have:=xb G.word
      have:(o :: g :: (ns ++ [(";":Str)])).length<=13:=by simp only [List.length_cons,List.length_append,List.length_nil]; lia
      lia
    have s10:=(((zi (o:=.lst [.str o]) hp6).trans (zi (o:=.lst ([.str o] ++ (g :: ns).map V.str)) hp7)).trans (zi (o:=.lst [.str ";"]) hp8)).trans (zi (o:=.lst ([.str o] ++ (g :: ns).map V.str ++ [.str ";"])) hp9)
    have sA:=s10.trans (zi (o:=.tup [.ref p5,.str (tx (o :: g :: (ns ++ [(";":Str)])))]) hp10)
    refine q _ p10 (.ref p5) _ _ (((zi hp1 _).trans s2).trans (s5.trans sA)) zc (.tup (sA _ _ i5) (.cons (.str _) (.cons (.str _) (.cons (.tup (sA _ _ i4) (IsL.strs ns)) .nil)))) G ?_
    simp only [List.length_cons,List.length_append,List.length_nil]
    lia
end
end Rdr
namespace L2
open PySem
section
variable {X:Cx}
theorem zb5 {i j:Nat} {x y:Str} {a b:Expr} {ta:TA} {px py pt pos:Pos} {kt k2 pt2} (hc:X.calm=true) (hN:X.N.Nodup) (hi:X.N[i]?=some x) (hj:X.N[j]?=some y) (hij:i≠j) (ha:jA X [a,b] ta)
    (hx:X.env.scope.names.lookup x=some .local:=by rfl) (hy:X.env.scope.names.lookup y=some .local:=by rfl) (hw:swappedStores [.Tuple [.Name x px,.Name y py] kt pt] (.Tuple [a,b] k2 pt2) X.env=pure (some [x,y]):=by rfl)
    (hs:swapsWithSole [.Tuple [.Name x px,.Name y py] kt pt] (.Tuple [a,b] k2 pt2) pos.line X.env=pure false:=by rfl):jS X (.Assign [.Tuple [.Name x px,.Name y py] kt pt] (.Tuple [a,b] k2 pt2) pos) (tPar i j ta):=⟨zbi hc hN hi hj hij hx hy ha.out hw hs⟩
end
end L2
namespace Rdr
open PySem L2 K11 Rd
inductive Itms (H:Hp):List (D × List Str)->List Addr->Prop
  | nil:Itms H [] []
  | cons {p:Addr} {v:V} {b:D} {ws:List Str} {its:List (D × List Str)} {ps:List Addr}:H p=some (.tup [v,.str (tx ws)])->Is H b v->Good b ws->Itms H its ps->Itms H ((b,ws) :: its) (p :: ps)
theorem Itms.keep {H H':Hp} (t:Tups H H') {its:List (D × List Str)} {ps:List Addr} (h:Itms H its ps):Itms H' its ps:=by
  induction h with
  | nil=>exact .nil
  | cons a b c _ ih=>exact .cons (t _ _ a) (b.keep t) c ih
theorem Itms.len {H:Hp} {its:List (D × List Str)} {ps:List Addr} (h:Itms H its ps):its.length=ps.length:=by
  induction h with
  | nil=>rfl
  | cons _ _ _ _ ih=>rw [List.length_cons,List.length_cons,ih]
def tw:List (D × List Str)->Nat
  | []=>0
  | x :: r=>x.2.length + 3 + tw r
theorem w9:∀ l,l.length<=tw l
  | []=>Nat.zero_le _
  | x :: r=>by have:=w9 r; rw [tw,List.length_cons]; lia
theorem Q9 {α:Type} (f:α->V) (x y:α) (l:List α):cutV ((x :: (l ++ [y])).map f) (some 1) (some (-1))=l.map f:=by
  unfold cutV
  have n:((x :: (l ++ [y])).map f).length=l.length + 2:=by simp
  rw [n]
  have c1:HT.sIx (l.length + 2) 0 (some 1)=1:=by
    unfold HT.sIx
    simp
  have c2:HT.sIx (l.length + 2) (l.length + 2) (some (-1))=l.length + 1:=by
    unfold HT.sIx
    simp
    lia
  rw [c1,c2]
  show ((l ++ [y]).map f).take (l.length + 1 - 1)=_
  rw [List.map_append,Nat.add_sub_cancel,List.take_append_of_le_length (by simp),List.take_of_length_le (by simp)]
theorem Jl {α:Type} (f:α->V) (y:α) (l:List α):cutV ((l ++ [y]).map f) none (some (-1))=l.map f:=by
  unfold cutV
  have n:((l ++ [y]).map f).length=l.length + 1:=by simp
  rw [n]
  have c2:HT.sIx (l.length + 1) (l.length + 1) (some (-1))=l.length:=by
    unfold HT.sIx
    simp
    lia
  rw [c2]
  show ((l ++ [y]).map f).take (l.length - 0)=_
  rw [List.map_append,Nat.sub_zero,List.take_append_of_le_length (by simp),List.take_of_length_le (by simp)]
theorem xG:∀ us:List Str,(us.map (fun x=>[x])).flatten=us
  | []=>rfl
  | x :: r=>by rw [List.map_cons,List.flatten_cons,xG r]; rfl
theorem zaa {us bw:List Str} (h0:bw≠[]):Str.join SP (us ++ [tx bw])=tx (us ++ bw):=by
  have e:=ZG (us.map (fun x=>[x]) ++ [bw]) (fun ws h=>by
    rcases List.mem_append.mp h with h | h
    · obtain ⟨x,_,rfl⟩:=List.mem_map.mp h
      simp
    · rw [List.mem_singleton.mp h]
      exact h0)
  have e1:(us.map (fun x=>[x]) ++ [bw]).map tx=us ++ [tx bw]:=by
    rw [List.map_append,List.map_map]
    congr 1
    exact List.map_id' us
  have e2:(us.map (fun x=>[x]) ++ [bw]).flatten=us ++ bw:=by
    rw [List.flatten_append]
    congr 1
    · exact xG us
    · simp
  rw [e1,e2] at e
  exact e
theorem WR {us bw:List Str} (h0:bw≠[]) (h:∀ x∈us ++ bw,Wd x):wide SP (us ++ [tx bw])<=34 * (us ++ bw).length:=by
  have e:=vC (us.map (fun x=>[x]) ++ [bw]) (fun ws hw=>by
    rcases List.mem_append.mp hw with hw | hw
    · obtain ⟨x,hx,rfl⟩:=List.mem_map.mp hw
      exact ⟨by simp,fun y hy=>by rw [List.mem_singleton.mp hy]; exact h x (List.mem_append_left _ hx)⟩
    · rw [List.mem_singleton.mp hw]
      exact ⟨h0,fun y hy=>h y (List.mem_append_right _ hy)⟩)
  have e1:(us.map (fun x=>[x]) ++ [bw]).map tx=us ++ [tx bw]:=by
    rw [List.map_append,List.map_map]
    congr 1
    exact List.map_id' us
  have e2:(us.map (fun x=>[x]) ++ [bw]).flatten=us ++ bw:=by
    rw [List.flatten_append]
    congr 1
    · exact xG us
    · simp
  rw [e1,e2] at e
  exact e
def X5:Sp:=fun vs H Q _=>∃ (ls:Addr) (n:Int) (its:List (D × List Str)) (ps:List Addr),vs=[.ref ls,.int n]/\H ls=some (.lst (ps.reverse.map V.ref))/\Itms H its ps/\tw its<=1000 /\
  ∀ (H':Hp) (p:Addr) (va:V) (arms:List Arm) (its':List (D × List Str)) (ps':List Addr),KpS (·=ls) H H'->H' ls=some (.lst (ps'.reverse.map V.ref))->Itms H' its' ps'->H' p=some (.tup [va,.str (tx (arms.flatMap Arm.words))])->Is H' (.tup (arms.map Arm.dat)) va ->
    arms≠[]->arms.length<=20->(∀ a∈arms,GoodA a)->(arms.flatMap Arm.words).length + tw its'<=tw its + 260->Q (.ref p) H'
section
variable {P:Program} {w:World} {K:PySem.W.Frag} {mg:Str->Option Value} {base:Heap} {f:Addr} {fd:FuncData}
theorem scLArms:FnScope ["_law_stack","_law_number_here","_law_many_here","_law_most","_law_arms_here","_law_texts","_law_k","_law_names_here","_law_body","_law_text"] ["_law_stack","_law_number_here"] (zn Y6):=⟨rfl,rfl,rfl,by decide +kernel,rfl,by decide +kernel,by decide +kernel⟩
theorem Jn (F:Fun K "_law_arms" "_law_arms" Y6 f fd) (GN:Ca P w K mg base CX0 2 "_law_names" ["_law_cell","_law_many_here"] xS) (mR:mg "range"=none) (mT:mg "tuple"=none):FnOk P w K mg base CX0 3 f fd ["_law_stack","_law_number_here"] X5:=by
  refine F.by scLArms (fun vs H Q E h=>?_) (fun cdv A outer s H vs Q E hr h=>?_)
  · obtain ⟨ls,n,its,ps,rfl,_⟩:=h
    rfl
  obtain ⟨ls,n,its,ps,rfl,hls,hI,htw,q⟩:=h
  refine ⟨_,zd (zu (i:=2) scLArms.nd rfl (Or.inl rfl) (zp zL zg (zp z5 (jv 1) zg))) (zd (zu (i:=3) scLArms.nd rfl (Or.inl rfl) zg)
    (zd (zC (zt z7 (zp z5 (zp yh (jv 1) zg) zg) zg (zw _)) (zd (zu (i:=2) scLArms.nd rfl (Or.inl rfl) (zp zL zg (zp z5 (zp yh (jv 1) zg) zg))) (zh (zu (i:=3) scLArms.nd rfl (Or.inl rfl) zg))) zv)
    (zd (zu (i:=4) scLArms.nd rfl (Or.inl rfl) (zB ze)) (zd (zu (i:=5) scLArms.nd rfl (Or.inl rfl) (zB ze))
    (zd (y0 PassesOwn.never rfl (jU rfl mR (ja_c (jv 2) ze)) (zF (i:=6) scLArms.nd rfl (Or.inl rfl))
      (zd (zu (i:=7) scLArms.nd rfl (Or.inl rfl) (zN GN hr rfl zJ (ja_c (zp zL (jv 1) (zp xz zg (jv 6))) (ja_c (zp zL zg (zp z5 (zp yh (jv 1) (zp zL (zp xz zg (jv 6)) zg)) (jv 3))) ze))))
      (zd (zb5 (i:=8) (j:=9) rfl scLArms.nd rfl rfl (by decide) (ja_c (zX (ja_c zj (ja_c (zE zG (jv 7) zg (fun _ _=>rfl)) ze))) (ja_c (zp yT zj (zE zG (jv 7) zg (fun _ _=>rfl))) ze)))
      (zd (zC (zt (zbQ hr) (jv 0) (zB ze) (zw _)) (zh (xO (wp PySem.F.plainAttrs_list PySem.F.slot_list_pop PySem.F.type_list_pop wu (jv 0)) (y9 rfl (zQ (zF (i:=8) scLArms.nd rfl (Or.inl rfl)) (zQ (zF (i:=9) scLArms.nd rfl (Or.inl rfl)) yH))))) zv)
      (zd (zM (zZ PySem.F.plainAttrs_list PySem.F.slot_list_append PySem.F.type_list_append zY (jv 4) (ja_c (zX (ja_c (zE zG (jv 7) zg (fun _ _=>rfl)) (ja_c (yd yq rfl mT PyProof.Rows.boot_tuple (ja_c (zD z3 (jv 7) (zI zg) (zI (yt zg))) ze)) (ja_c (jv 8) ze)))) ze)))
      (zh (zM (zZ PySem.F.plainAttrs_list PySem.F.slot_list_append PySem.F.type_list_append zY (jv 5) (ja_c (zZ PySem.F.plainAttrs_str PySem.F.slot_str_join PySem.F.type_str_join yI zj (ja_c (zp z8 (zD z3 (jv 7) zR (zI (yt zg))) (zB (ja_c zj (ja_c (jv 9) ze)))) ze)) ze)))))))))
    (zh (zq (zX (ja_c (yd yq rfl mT PyProof.Rows.boot_tuple (ja_c (jv 4) ze)) (ja_c (zZ PySem.F.plainAttrs_str PySem.F.slot_str_join PySem.F.type_str_join yI zj (ja_c (jv 5) ze)) ze)))))))))),?_⟩
  have sl:=line
  have cD:∀ {i j:Int},0 < j->j < 1073741824->CDiv i j:=fun h1 h2=>⟨h1,h2⟩
  suffices rest:∀ (m t:Int),1<=m->m<=20->(t=10\/t=2)->(tSeq _ _:TS) { nx:=fun _ H'=>Q .non H',rt:=Q } [some (.ref ls),some (.int n),some (.int m),some (.int t),none,none,none,none,none,none] H by
    have b1:=Int.emod_nonneg n (show (3:Int)≠0 by decide)
    have b2:=Int.emod_lt_of_pos n (show (0:Int) < 3 by decide)
    have b3:=Int.emod_nonneg (n / 12) (show (20:Int)≠0 by decide)
    have b4:=Int.emod_lt_of_pos (n / 12) (show (0:Int) < 20 by decide)
    refine ⟨_,rfl,_,_,rfl,rfl,(by show (0:Int) < _; decide),_,_,rfl,rfl,?_⟩
    refine ⟨_,rfl,_,_,rfl,rfl,cD (by decide) (by decide),_,_,rfl,rfl,(by show (0:Int) < _; decide),rfl,_,rfl,?_⟩
    refine ite2 (fun _=>?_) (fun _=>rest _ _ (by lia) (by lia) (.inl rfl))
    exact ⟨_,rfl,_,_,rfl,rfl,cD (by decide) (by decide),_,_,rfl,rfl,(by show (0:Int) < _; decide),_,_,rfl,rfl,rest _ _ (by lia) (by lia) (.inr rfl)⟩
  intro m t hm1 hm20 ht
  refine ⟨by show 0<=sizeLine; decide,fun la hla=>⟨by show 0<=sizeLine; decide,fun lt hlt=>?_⟩⟩
  have nla:ls≠la:=zo hls hla
  have nat:la≠lt:=zo zc hlt
  have hlt0:H lt=none:=by rw [zk nat.symm] at hlt; exact hlt
  have nlt:ls≠lt:=zo hls hlt0
  have s0:Same H (upd (upd H la (.lst [])) lt (.lst [])):=(zi hla _).trans (zi hlt _)
  have t0:Tups H (upd (upd H la (.lst [])) lt (.lst [])):=fun b xs z=>s0 _ _ z
  refine ⟨_,rfl,m,rfl,by lia,by lia,jH (n:=m.toNat) (fun i σ H'=>∃ (its':List (D × List Str)) (ps':List Addr) (arms:List Arm) (va:List V) (a b c d:Option V),σ=[some (.ref ls),some (.int n),some (.int m),some (.int t),some (.ref la),some (.ref lt),a,b,c,d]/\KpS (·=ls) H H'/\H' ls=some (.lst (ps'.reverse.map V.ref))/\Itms H' its' ps'/\H' la=some (.lst va)/\IsL H' (arms.map Arm.dat) va/\H' lt=some (.lst (arms.map fun a=>V.str (tx a.words)))/\arms.length=i/\(∀ a∈arms,GoodA a)/\(arms.flatMap Arm.words).length + tw its'<=tw its + 13 * i)
    ⟨its,ps,[],[],none,none,none,none,rfl,KpS.of s0,s0 _ _ hls,hI.keep t0,by rw [zk nat]; exact zc,.nil,zc,rfl,(fun a ha=>by cases ha),by show 0 + tw its<=_; lia⟩ ?_ ?_⟩
  · rintro i σ H1 hi ⟨its',ps',arms,va,a,b,c,d,rfl,k1,hls1,hI1,hla1,ia,hlt1,hn,hg,hb⟩
    have hi':(i:Int) < m:=by lia
    have dpos:(0:Int) < 7 * (0 + (i:Int)) + 5:=by lia
    have tpos:(0:Int) < t:=by lia
    have e1:=Int.emod_nonneg (n / (7 * (0 + (i:Int)) + 5)) (show t≠0 by lia)
    have e2:=Int.emod_lt_of_pos (n / (7 * (0 + (i:Int)) + 5)) tpos
    refine ⟨_,rfl,_,rfl,_,_,rfl,rfl,.inl ⟨by decide,by decide⟩,_,_,rfl,rfl,_,rfl,_,rfl,_,_,rfl,rfl,.inl ⟨by decide,by decide⟩,_,_,rfl,rfl,_,_,rfl,rfl,cD dpos (by lia),_,rfl,_,_,rfl,rfl,tpos,_,_,rfl,rfl,_,_,rfl,by lia,by lia,fun H2 p2 l s2 fr2 hl hall hp2=>?_⟩
    obtain ⟨t0,ns,z,rfl⟩:∃ t0 ns z,l=t0 :: (ns ++ [z]):=by
      cases l with
      | nil =>
        rw [List.length_nil] at hl
        lia
      | cons t0 r =>
        have hr:r≠[]:=fun e=>by
          rw [e,List.length_cons,List.length_nil] at hl
          lia
        exact ⟨t0,r.dropLast,r.getLast hr,by rw [List.dropLast_concat_getLast hr]⟩
    have hl':ns.length<=9:=by
      rw [List.length_cons,List.length_append,List.length_singleton] at hl
      lia
    have ht0:=hall t0 (by simp)
    have hns:∀ x∈ns,zx x=true:=fun x hx=>hall x (by simp [hx])
    have at0:atI ((t0 :: (ns ++ [z])).map V.str) (0:Int)=some (.str t0):=yo (j:=0) rfl
    have wt0:=(zS ht0).1
    refine ⟨_,rfl,p2,_,_,_,rfl,rfl,SqL.of hp2,at0,by show 2<=sizeLine; decide,fun p3 hp3=>?_⟩
    have hp2':upd H2 p3 (.tup [.str "give",.str t0]) p2=some (.lst ((t0 :: (ns ++ [z])).map V.str)):=by rw [zk (zo hp2 hp3)]; exact hp2
    refine ⟨_,rfl,p2,_,_,_,rfl,rfl,SqL.of hp2',at0,_,_,rfl,rfl,?_,_,_,rfl,?_⟩
    · have:=wt0.len
      show 5 + t0.length<=sizeLine
      lia
    rw [X3]
    have s3:Same H1 (upd H2 p3 (.tup [.str "give",.str t0])):=s2.trans (zi hp3 _)
    have t3:Tups H1 (upd H2 p3 (.tup [.str "give",.str t0])):=fun b xs e=>s3 _ _ e
    have g3:Is (upd H2 p3 (.tup [.str "give",.str t0])) (.tup [.str "give",.str t0]) (.ref p3):=.tup zc (.cons (.str _) (.cons (.str _) .nil))
    have hls3:=s3 _ _ hls1
    have hla3:=s3 _ _ hla1
    have hlt3:=s3 _ _ hlt1
    have hI3:=hI1.keep t3
    have ia3:=ia.keep t3
    have k3:KpS (·=ls) H (upd H2 p3 (.tup [.str "give",.str t0])):=k1.trans (.of s3)
    generalize upd H2 p3 (.tup [.str "give",.str t0])=H3 at *
    refine ⟨_,rfl,by show 0<=sizeLine; decide,fun pe hpe=>?_⟩
    have s4:Same H3 (upd H3 pe (.lst [])):=zi hpe _
    have t4:Tups H3 (upd H3 pe (.lst [])):=fun b xs e=>s4 _ _ e
    have hls4:=s4 _ _ hls3
    have hla4:=s4 _ _ hla3
    have hlt4:=s4 _ _ hlt3
    have hp4:=s4 _ _ hp2'
    have hI4:=hI3.keep t4
    have ia4:=ia3.keep t4
    have g4:=g3.keep t4
    have k4:KpS (·=ls) H (upd H3 pe (.lst [])):=k3.trans (.of s4)
    have he4:upd H3 pe (.lst []) pe=some (.lst []):=zc
    generalize upd H3 pe (.lst [])=H4 at *
    refine ⟨ls,pe,_,rfl,rfl,SqL.of hls4,SqL.of he4,_,rfl,?_⟩
    have nal:la≠ls:=nla.symm
    have ntl:lt≠ls:=nlt.symm
    suffices rest2:∀ (H5:Hp) (its'':List (D × List Str)) (ps'':List Addr) (b:D) (bw:List Str) (vb:V),KpS (·=ls) H H5->H5 ls=some (.lst (ps''.reverse.map V.ref))->Itms H5 its'' ps''->H5 la=some (.lst va)->IsL H5 (arms.map Arm.dat) va->H5 lt=some (.lst (arms.map fun a=>V.str (tx a.words)))->H5 p2=some (.lst ((t0 :: (ns ++ [z])).map V.str))->Is H5 b vb->Good b bw->bw.length + tw its''<=tw its' + 2 ->
        (tSeq _ _:TS) _ [some (.ref ls),some (.int n),some (.int m),some (.int t),some (.ref la),some (.ref lt),some (.int (0 + (i:Int))),some (.ref p2),some vb,some (.str (tx bw))] H5 by
      cases hI4 with
      | nil=>exact iteF (rest2 H4 [] [] _ _ _ k4 hls4 .nil hla4 ia4 hlt4 hp4 g4 (x9 ht0) (by show 2 + 0<=0 + 2; decide))
      | @cons p v b ws its'' ps'' h1 h2 h3 h4 =>
        have hne:(!((p :: ps'').reverse.map V.ref).isEmpty)=true:=by simp
        rw [hne]
        refine iteT ?_
        have e1:(p :: ps'').reverse.map V.ref=ps''.reverse.map V.ref ++ [.ref p]:=by simp
        have e2:((p :: ps'').reverse.map V.ref)[((p :: ps'').reverse.map V.ref).length - 1]?=some (.ref p):=by rw [e1]; simp
        have e3:((p :: ps'').reverse.map V.ref).dropLast=ps''.reverse.map V.ref:=by rw [e1]; simp
        refine ⟨_,rfl,.inl ⟨rfl,_,SqL.of hls4⟩,ls,_,_,rfl,rfl,hls4,e2,?_⟩
        rw [e3]
        have t5:Tups H4 (upd H4 ls (.lst (ps''.reverse.map V.ref))):=fun b xs e=>by rw [zk (yi e hls4 (by intro z; cases z))]; exact e
        have npl:p2≠ls:=fun e=>by rw [e,hls1] at fr2; cases fr2
        exact ⟨p,_,rfl,SqT.of (t5 _ _ h1),rfl,_,_,rfl,_,_,rfl,rfl,rest2 _ its'' ps'' b ws v (k4.trans (KpS.put rfl)) zc (h4.keep t5) (by rw [zk nal]; exact hla4) (ia4.keep t5) (by rw [zk ntl]; exact hlt4) (by rw [zk npl]; exact hp4) (h2.keep t5) h3 (by show ws.length + tw its''<=(ws.length + 3 + tw its'') + 2; lia)⟩
    intro H5 its'' ps'' b bw vb k5 hls5 hI5 hla5 ia5 hlt5 hp5 hb5 hG htw5
    have GA:=Ym ht0 hns hl' hG
    have lws:(Arm.words ⟨t0,ns,bw,b⟩).length=ns.length + bw.length + 2:=by unfold Arm.words; simp only [List.length_cons,List.length_append]; lia
    have lva:=ia5.len
    rw [List.length_map] at lva
    refine ⟨_,rfl,.inl ⟨rfl,_,SqL.of hla5⟩,_,rfl,p2,_,_,_,rfl,rfl,SqL.of hp5,at0,_,rfl,_,rfl,_,rfl,_,rfl,p2,_,rfl,SqL.of hp5,fun p6 hp6=>?_⟩
    have hm6:cutV ((t0 :: (ns ++ [z])).map V.str) (some 1) (some (-1))=ns.map V.str:=Q9 V.str t0 z ns
    refine ⟨p6,_,rfl,.inl ⟨SqL.of zc,fun p7 hp7=>⟨_,rfl,by show 3<=sizeLine; decide,fun p8 hp8=>?_⟩⟩⟩
    have o6:cutV ((t0 :: (ns ++ [z])).map V.str) (some 1) (some (-(1:Int)))=ns.map V.str:=hm6
    rw [o6] at hp7 hp8 ⊢
    have s8:Same H5 _:=((zi (o:=.lst (ns.map V.str)) hp6).trans (zi (o:=.tup (ns.map V.str)) hp7)).trans (zi (o:=.tup [.str t0,.ref p7,vb]) hp8)
    have t8:Tups H5 _:=fun b xs e=>s8 _ _ e
    have i8:upd (upd (upd H5 p6 (.lst (ns.map V.str))) p7 (.tup (ns.map V.str))) p8 (.tup [.str t0,.ref p7,vb]) p8=some (.tup [.str t0,.ref p7,vb]):=zc
    have i7:=(zi (o:=.tup [.str t0,.ref p7,vb]) hp8) _ _ (zc (H:=upd H5 p6 (.lst (ns.map V.str))) (a:=p7) (o:=.tup (ns.map V.str)))
    have dat:Is _ (Arm.dat ⟨t0,ns,bw,b⟩) (.ref p8):=.tup i8 (.cons (.str _) (.cons (.tup i7 (IsL.strs ns)) (.cons (hb5.keep t8) .nil)))
    have hls8:=s8 _ _ hls5
    have hla8:=s8 _ _ hla5
    have hlt8:=s8 _ _ hlt5
    have hp28:=s8 _ _ hp5
    have hI8:=hI5.keep t8
    have ia8:=ia5.keep t8
    have k8:KpS (·=ls) H _:=k5.trans (.of s8)
    clear i8 i7 t8
    generalize upd (upd (upd H5 p6 (.lst (ns.map V.str))) p7 (.tup (ns.map V.str))) p8 (.tup [.str t0,.ref p7,vb])=H8 at *
    have len20:arms.length + 1<=20:=by lia
    refine ⟨la,va,_,rfl,rfl,hla8,by lia,?_⟩
    have t9:Tups H8 (upd H8 la (.lst (va ++ [.ref p8]))):=fun b xs e=>by rw [zk (yi e hla8 (by intro z; cases z))]; exact e
    have hlp2:p2≠la:=fun e=>by rw [e,hla1] at fr2; cases fr2
    have hltp2:p2≠lt:=fun e=>by rw [e,hlt1] at fr2; cases fr2
    have hls9:upd H8 la (.lst (va ++ [.ref p8])) ls=some (.lst (ps''.reverse.map V.ref)):=by rw [zk nla]; exact hls8
    have hlt9:upd H8 la (.lst (va ++ [.ref p8])) lt=some (.lst (arms.map fun a=>V.str (tx a.words))):=by rw [zk nat.symm]; exact hlt8
    have hp29:upd H8 la (.lst (va ++ [.ref p8])) p2=some (.lst ((t0 :: (ns ++ [z])).map V.str)):=by rw [zk hlp2]; exact hp28
    have hla9:upd H8 la (.lst (va ++ [.ref p8])) la=some (.lst (va ++ [.ref p8])):=zc
    have ia9:IsL (upd H8 la (.lst (va ++ [.ref p8]))) ((arms ++ [(⟨t0,ns,bw,b⟩:Arm)]).map Arm.dat) (va ++ [.ref p8]):=by rw [List.map_append]; exact (ia8.keep t9).app (.cons (dat.keep t9) .nil)
    have hI9:=hI8.keep t9
    have hla0:H la=none:=hla
    have k9:KpS (·=ls) H (upd H8 la (.lst (va ++ [.ref p8]))):=fun y o n e=>by rw [zk (fun z0=>by rw [z0,hla0] at e; cases e)]; exact k8 _ _ n e
    generalize upd H8 la (.lst (va ++ [.ref p8]))=H9 at *
    refine ⟨_,rfl,.inl ⟨rfl,_,SqL.of hlt9⟩,rfl,_,rfl,_,rfl,_,rfl,p2,_,rfl,SqL.of hp29,fun p10 hp10=>?_⟩
    have hm10:cutV ((t0 :: (ns ++ [z])).map V.str) none (some (-(1:Int)))=(t0 :: ns).map V.str:=Jl V.str z (t0 :: ns)
    rw [hm10] at *
    refine ⟨_,rfl,by show 2<=sizeLine; decide,fun p11 hp11=>?_⟩
    have n1011:p10≠p11:=zo zc hp11
    refine ⟨p10,p11,_,_,rfl,rfl,by rw [zk n1011]; exact zc,zc,?_,fun p12 hp12=>?_⟩
    · rw [List.length_map,List.length_cons]
      show _ + 2<=_
      lia
    have eW:(t0 :: (ns ++ [(":":Str)])) ++ bw=Arm.words ⟨t0,ns,bw,b⟩:=by unfold Arm.words; simp
    have jt:=zaa (us:=t0 :: (ns ++ [(":":Str)])) hG.ne
    have jw:=WR (us:=t0 :: (ns ++ [(":":Str)])) hG.ne (by rw [eW]; exact GA.word)
    rw [eW] at jt jw
    have twl:bw.length<=1002 + 260:=by lia
    refine ⟨SP,p12,(t0 :: (ns ++ [(":":Str)])) ++ [tx bw],rfl,rfl,SqL.of (by rw [zc]; simp),by lia,?_⟩
    rw [jt]
    have s12:Same H9 _:=((zi (o:=.lst ((t0 :: ns).map V.str)) hp10).trans (zi (o:=.lst [.str ":",.str (tx bw)]) hp11)).trans (zi (o:=.lst ((t0 :: ns).map V.str ++ [.str ":",.str (tx bw)])) hp12)
    have hlt12:=s12 _ _ hlt9
    refine ⟨lt,_,_,rfl,rfl,hlt12,by rw [List.length_map]; lia,?_⟩
    have hls12:=s12 _ _ hls9
    have hla12:=s12 _ _ hla9
    have t12:Tups H9 _:=fun b xs e=>s12 _ _ e
    have hI12:=hI9.keep t12
    have ia12:=ia9.keep t12
    have k12:KpS (·=ls) H _:=k9.trans (.of s12)
    clear t12
    generalize upd (upd (upd H9 p10 (.lst ((t0 :: ns).map V.str))) p11 (.lst [.str ":",.str (tx bw)])) p12 (.lst ((t0 :: ns).map V.str ++ [.str ":",.str (tx bw)]))=H12 at *
    have t13:Tups H12 (upd H12 lt (.lst ((arms.map fun a=>V.str (tx a.words)) ++ [.str (tx (Arm.words ⟨t0,ns,bw,b⟩))]))):=fun b xs e=>by rw [zk (yi e hlt12 (by intro z; cases z))]; exact e
    refine ⟨its'',ps'',arms ++ [⟨t0,ns,bw,b⟩],va ++ [.ref p8],_,_,_,_,rfl,fun y o n e=>?_,by rw [zk nlt]; exact hls12,hI12.keep t13,by rw [zk nat]; exact hla12,ia12.keep t13,by rw [zc,List.map_append]; rfl,by rw [List.length_append,List.length_singleton,hn],fun a ha=>?_,?_⟩
    · rw [zk (fun z0=>by rw [z0,hlt0] at e; cases e)]
      exact k12 _ _ n e
    · rcases List.mem_append.mp ha with ha | ha
      · exact hg a ha
      · rw [List.mem_singleton.mp ha]
        exact GA
    · rw [List.flatMap_append,List.length_append,List.flatMap_singleton,lws]
      lia
  · rintro σ H1 ⟨its',ps',arms,va,a,b,c,d,rfl,k1,hls1,hI1,hla1,ia,hlt1,hn,hg,hb⟩
    refine ⟨_,rfl,la,_,rfl,.inl ⟨SqL.of hla1,fun p1 hp1=>?_⟩⟩
    have hlt2:upd H1 p1 (.tup va) lt=some (.lst (arms.map fun a=>V.str (tx a.words))):=by rw [zk (zo hlt1 hp1)]; exact hlt1
    have wd:∀ ws∈arms.map Arm.words,ws≠[]/\∀ x∈ws,Wd x:=fun ws h=>by
      obtain ⟨a,ha,rfl⟩:=List.mem_map.mp h
      exact ⟨by unfold Arm.words; simp,(hg a ha).word⟩
    have fm:(arms.map Arm.words).flatten=arms.flatMap Arm.words:=by rw [List.flatMap_def]
    have wl:=vC (arms.map Arm.words) wd
    rw [fm] at wl
    have je:=ZG (arms.map Arm.words) fun ws h=>(wd ws h).1
    rw [fm] at je
    refine ⟨rfl,_,rfl,SP,lt,(arms.map Arm.words).map tx,rfl,rfl,SqL.of (by rw [hlt2,List.map_map,List.map_map]; rfl),by lia,by show 2<=sizeLine; decide,fun p2 hp2=>?_⟩
    rw [je] at *
    have t1:=Tups.new (o:=.tup va) hp1
    have t2:=Tups.new (o:=.tup [.ref p1,.str (tx (arms.flatMap Arm.words))]) hp2
    have s2:Same H1 _:=(zi (o:=.tup va) hp1).trans (zi (o:=.tup [.ref p1,.str (tx (arms.flatMap Arm.words))]) hp2)
    refine q _ p2 (.ref p1) arms its' ps' (k1.trans (.of s2)) (s2 _ _ hls1) (hI1.keep (t1.trans t2)) zc (.tup (t2 _ _ zc) (ia.keep (t1.trans t2))) (fun e=>?_) (by lia) hg (by lia)
    rw [e] at hn
    simp at hn
    lia
end
end Rdr
namespace Rdr
open PySem L2 K11 Rd
theorem X6 {H H6:Hp} {ls p:Addr} {its:List (D × List Str)} {ps:List Addr} {v:V} {b:D} {ws:List Str} (k:KpS (·=ls) H H6) (hls:H6 ls=some (.lst (ps.reverse.map V.ref))) (hI:Itms H6 its ps) (hp:H6 p=some (.tup [v,.str (tx ws)])) (hb:Is H6 b v) (hG:Good b ws) :
    KpS (·=ls) H (upd H6 ls (.lst (ps.reverse.map V.ref ++ [.ref p])))/\upd H6 ls (.lst (ps.reverse.map V.ref ++ [.ref p])) ls=some (.lst ((p :: ps).reverse.map V.ref))/\Itms (upd H6 ls (.lst (ps.reverse.map V.ref ++ [.ref p]))) ((b,ws) :: its) (p :: ps):=by
  have t:Tups H6 (upd H6 ls (.lst (ps.reverse.map V.ref ++ [.ref p]))):=fun b xs e=>by rw [zk (yi e hls (by intro z; cases z))]; exact e
  exact ⟨k.trans (KpS.put rfl),by rw [zc]; simp,.cons (t _ _ hp) (hb.keep t) hG (hI.keep t)⟩
theorem ZJ {H H4:Hp} {ls p:Addr} {its:List (D × List Str)} {ps:List Addr} (k:KpS (·=ls) H H4) (hls:H4 ls=some (.lst ((p :: ps).reverse.map V.ref))) :
    ((p :: ps).reverse.map V.ref)[((p :: ps).reverse.map V.ref).length - 1]?=some (.ref p)/\((p :: ps).reverse.map V.ref).dropLast=ps.reverse.map V.ref/\Tups H4 (upd H4 ls (.lst (ps.reverse.map V.ref)))/\KpS (·=ls) H (upd H4 ls (.lst (ps.reverse.map V.ref))):=by
  have e1:(p :: ps).reverse.map V.ref=ps.reverse.map V.ref ++ [.ref p]:=by simp
  exact ⟨by rw [e1]; simp,by rw [e1]; simp,fun b xs e=>by rw [zk (yi e hls (by intro z; cases z))]; exact e,k.trans (KpS.put rfl)⟩
theorem ZK {xss:List (List Str)} {ws:List Str} (hf:xss.flatten=ws) (h0:xss.all (fun l=>!l.isEmpty)=true) (hw:∀ y∈ws,Wd y):Str.join SP (xss.map tx)=tx ws/\wide SP (xss.map tx)<=34 * ws.length:=by
  have h1:∀ l∈xss,l≠[]:=fun l hl e=>by
    have:=List.all_eq_true.mp h0 l hl
    rw [e] at this
    cases this
  have e:=ZG xss h1
  have b:=vC xss fun l hl=>⟨h1 l hl,fun y hy=>hw y (by rw [<- hf]; exact List.mem_flatten.mpr ⟨l,hl,hy⟩)⟩
  rw [hf] at e b
  exact ⟨e,b⟩
theorem vD {H H3:Hp} {ls p4 p5 p6:Addr} {T L:List V} {its:List (D × List Str)} {ps:List Addr} {b:D} {ws:List Str} (k:KpS (·=ls) H H3) (hls:H3 ls=some (.lst (ps.reverse.map V.ref))) (hI:Itms H3 its ps) (h4:H3 p4=none) (h5:upd H3 p4 (.tup T) p5=none) (h6:upd (upd H3 p4 (.tup T)) p5 (.lst L) p6=none)
    (hb:Is (upd H3 p4 (.tup T)) b (.ref p4)) (hG:Good b ws):upd (upd (upd H3 p4 (.tup T)) p5 (.lst L)) p6 (.tup [.ref p4,.str (tx ws)]) ls=some (.lst (ps.reverse.map V.ref)) /\
    (KpS (·=ls) H (upd (upd (upd (upd H3 p4 (.tup T)) p5 (.lst L)) p6 (.tup [.ref p4,.str (tx ws)])) ls (.lst (ps.reverse.map V.ref ++ [.ref p6])))/\upd (upd (upd (upd H3 p4 (.tup T)) p5 (.lst L)) p6 (.tup [.ref p4,.str (tx ws)])) ls (.lst (ps.reverse.map V.ref ++ [.ref p6])) ls=some (.lst ((p6 :: ps).reverse.map V.ref)) /\
      Itms (upd (upd (upd (upd H3 p4 (.tup T)) p5 (.lst L)) p6 (.tup [.ref p4,.str (tx ws)])) ls (.lst (ps.reverse.map V.ref ++ [.ref p6]))) ((b,ws) :: its) (p6 :: ps)):=by
  have s4:=zi (o:=.tup T) h4
  have s5:=zi (o:=.lst L) h5
  have s6:=zi (o:=.tup [.ref p4,.str (tx ws)]) h6
  have sm:=(s4.trans s5).trans s6
  have t:Tups H3 _:=fun b xs e=>sm _ _ e
  have t56:Tups (upd H3 p4 (.tup T)) _:=fun b xs e=>(s5.trans s6) _ _ e
  exact ⟨sm _ _ hls,X6 (p:=p6) (v:=.ref p4) (k.trans (.of sm)) (sm _ _ hls) (hI.keep t) zc (hb.keep t56) hG⟩
def Jo:Sp:=fun vs H Q _=>∃ (ls:Addr) (c:Int) (its:List (D × List Str)) (ps:List Addr),vs=[.ref ls,.int c]/\H ls=some (.lst (ps.reverse.map V.ref))/\Itms H its ps/\tw its<=1000 /\
  ∀ (H':Hp) (its':List (D × List Str)) (ps':List Addr),KpS (·=ls) H H'->H' ls=some (.lst (ps'.reverse.map V.ref))->Itms H' its' ps'->its'≠[]->tw its'<=tw its + 270->Q .non H'
section
variable {P:Program} {w:World} {K:PySem.W.Frag} {mg:Str->Option Value} {base:Heap} {f:Addr} {fd:FuncData}
theorem scLPut:FnScope ["_law_stack","_law_cell","_law_way","_law_number_here","_law_x","_law_arms_here","_law_text","_law_body","_law_deed_here","_law_words_here","_law_other","_law_more"] ["_law_stack","_law_cell"] (zn VQ):=⟨rfl,rfl,rfl,by decide +kernel,rfl,by decide +kernel,by decide +kernel⟩
theorem zab (F:Fun K "_law_put" "_law_put" VQ f fd) (GN:Ca P w K mg base CX0 2 "_law_names" ["_law_cell","_law_many_here"] xS) (GA:Ca P w K mg base CX0 3 "_law_arms" ["_law_stack","_law_number_here"] X5) (GD:Ca P w K mg base CX0 3 "_law_deed" ["_law_cell"] X4):FnOk P w K mg base CX0 4 f fd ["_law_stack","_law_cell"] Jo:=by
  refine F.by scLPut (fun vs H Q E h=>?_) (fun cdv A outer s H vs Q E hr h=>?_)
  · obtain ⟨ls,c,its,ps,rfl,_⟩:=h
    rfl
  obtain ⟨ls,c,its,ps,rfl,hls,hI,htw,q⟩:=h
  refine ⟨_,zd (zu (i:=2) scLPut.nd rfl (Or.inl rfl) (zp z5 (jv 1) zg)) (zd (zu (i:=3) scLPut.nd rfl (Or.inl rfl) (zp yh (jv 1) zg))
    (zd (zu (i:=4) scLPut.nd rfl (Or.inl rfl) (zE zG (zN GN (hr.mono (by decide)) rfl zJ (ja_c (jv 1) (ja_c zg ze))) zg (fun _ _=>rfl)))
    (zd (zC (jW.pt (yQ (zt (YR hr) (jv 0) (zB ze) (zw _)) (yD (zt yR (jv 2) zg (zw _)))))
      (zd (zM (zZ PySem.F.plainAttrs_list PySem.F.slot_list_append PySem.F.type_list_append zY (jv 0) (ja_c (zX (ja_c (zX (ja_c zj (ja_c (jv 4) ze))) (ja_c (zp yT zj (jv 4)) ze))) ze))) (zh Zr)) zv)
    (zd (zC (zt z7 (jv 2) zg (zw _))
      (zd (xO (zN GA hr rfl zJ (ja_c (jv 0) (ja_c (jv 3) ze))) (y9 rfl (zQ (zF (i:=5) scLPut.nd rfl (Or.inl rfl)) (zQ (zF (i:=6) scLPut.nd rfl (Or.inl rfl)) yH))))
      (zd (zM (zZ PySem.F.plainAttrs_list PySem.F.slot_list_append PySem.F.type_list_append zY (jv 0) (ja_c (zX (ja_c (zX (ja_c zj (ja_c (jv 4) (ja_c (jv 5) ze)))) (ja_c (zZ PySem.F.plainAttrs_str PySem.F.slot_str_join PySem.F.type_str_join yI zj (ja_c (zB (ja_c zj (ja_c (jv 4) (ja_c (jv 6) (ja_c zj ze))))) ze)) ze))) ze))) (zh Zr))) zv)
    (zd (xO (wp PySem.F.plainAttrs_list PySem.F.slot_list_pop PySem.F.type_list_pop wu (jv 0)) (y9 rfl (zQ (zF (i:=7) scLPut.nd rfl (Or.inl rfl)) (zQ (zF (i:=6) scLPut.nd rfl (Or.inl rfl)) yH))))
    (zd (zC (jW.pt (yQ (zt yR (jv 2) zg (zw _)) (yD (zt (YR hr) (jv 0) (zB ze) (zw _)))))
      (zd (xO (zN GD hr rfl zJ (ja_c (jv 3) ze)) (y9 rfl (zQ (zF (i:=8) scLPut.nd rfl (Or.inl rfl)) (zQ (zF (i:=9) scLPut.nd rfl (Or.inl rfl)) yH))))
      (zd (zM (zZ PySem.F.plainAttrs_list PySem.F.slot_list_append PySem.F.type_list_append zY (jv 0) (ja_c (zX (ja_c (zX (ja_c zj (ja_c (jv 4) (ja_c (jv 8) (ja_c (jv 7) ze))))) (ja_c (zZ PySem.F.plainAttrs_str PySem.F.slot_str_join PySem.F.type_str_join yI zj (ja_c (zB (ja_c zj (ja_c (jv 4) (ja_c (jv 9) (ja_c (jv 6) ze))))) ze)) ze))) ze))) (zh Zr))) zv)
    (zd (xO (wp PySem.F.plainAttrs_list PySem.F.slot_list_pop PySem.F.type_list_pop wu (jv 0)) (y9 rfl (zQ (zF (i:=10) scLPut.nd rfl (Or.inl rfl)) (zQ (zF (i:=11) scLPut.nd rfl (Or.inl rfl)) yH))))
    (zh (zM (zZ PySem.F.plainAttrs_list PySem.F.slot_list_append PySem.F.type_list_append zY (jv 0) (ja_c (zX (ja_c (zX (ja_c zj (ja_c (jv 4) (ja_c (jv 7) (ja_c (jv 10) ze))))) (ja_c (zZ PySem.F.plainAttrs_str PySem.F.slot_str_join PySem.F.type_str_join yI zj (ja_c (zB (ja_c zj (ja_c (jv 4) (ja_c (jv 6) (ja_c zj (ja_c (jv 11) ze)))))) ze)) ze))) ze))))))))))),?_⟩
  have sl:=line
  have cD:∀ {i j:Int},0 < j->j < 1073741824->CDiv i j:=fun h1 h2=>⟨h1,h2⟩
  have nps:=hI.len
  have ntw:=w9 its
  refine ⟨_,rfl,_,_,rfl,rfl,(by show (0:Int) < _; decide),_,rfl,_,_,rfl,rfl,cD (by decide) (by decide),_,rfl,c,1,rfl,by decide,by decide,fun H1 p1 l s1 fr1 hl hall hp1=>?_⟩
  match l,hl,hall,hp1 with
  | [x],_,hall,hp1 =>
    have hx:=hall x (by simp)
    have wx:=(zS hx).1
    refine ⟨p1,_,_,_,rfl,rfl,SqL.of hp1,yo (j:=0) rfl,?_⟩
    have t1:Tups H H1:=fun b xs e=>s1 _ _ e
    have hls1:=s1 _ _ hls
    have hI1:=hI.keep t1
    refine ⟨_,rfl,by show 0<=sizeLine; decide,fun pe hpe=>?_⟩
    have s2:Same H (upd H1 pe (.lst [])):=s1.trans (zi hpe _)
    have hls2:=(zi (o:=.lst []) hpe) _ _ hls1
    have hI2:=hI1.keep (Tups.new (o:=.lst []) hpe)
    have he2:upd H1 pe (.lst []) pe=some (.lst []):=zc
    generalize upd H1 pe (.lst [])=H2 at *
    refine ⟨ls,pe,_,rfl,rfl,SqL.of hls2,SqL.of he2,_,rfl,?_⟩
    have k2:KpS (·=ls) H H2:=.of s2
    suffices both:((tSeq _ _:TS) _ [some (.ref ls),some (.int c),some (.int (c % 7)),some (.int (c / 7)),some (.str x),none,none,none,none,none,none,none] H2)/\(its≠[]->(tSeq _ _:TS) _ [some (.ref ls),some (.int c),some (.int (c % 7)),some (.int (c / 7)),some (.str x),none,none,none,none,none,none,none] H2) by
      obtain ⟨gv,rs⟩:=both
      by_cases hi:its=[]
      · have e0:(ps.reverse.map V.ref).isEmpty=true:=by
          have:ps=[]:=List.length_eq_zero_iff.mp (by rw [<- nps,hi]; rfl)
          rw [this]
          rfl
        rw [e0]
        exact iteT (iteT gv)
      · have e0:(ps.reverse.map V.ref).isEmpty=false:=by
          cases ps with
          | nil=>exact absurd (List.length_eq_zero_iff.mp nps) hi
          | cons p ps=>simp
        rw [e0]
        refine iteF ⟨_,rfl,_,_,rfl,rfl,_,rfl,?_⟩
        exact ite2 (fun _=>gv) (fun _=>rs hi)
    constructor
    · have G:=x9 hx
      refine ⟨_,rfl,.inl ⟨rfl,_,SqL.of hls2⟩,_,rfl,by show 2<=sizeLine; decide,fun p3 hp3=>⟨_,rfl,_,_,rfl,rfl,?_,by show 2<=sizeLine; decide,fun p4 hp4=>?_⟩⟩
      · have:=wx.len
        show 5 + x.length<=sizeLine
        lia
      rw [X3] at *
      have s4:Same H2 _:=(zi (o:=.tup [.str "give",.str x]) hp3).trans (zi (o:=.tup [.ref p3,.str (tx ["give",x])]) hp4)
      have t4:Tups H2 _:=fun b xs e=>s4 _ _ e
      have i3:=(zi (o:=.tup [.ref p3,.str (tx ["give",x])]) hp4) _ _ (zc (H:=H2) (a:=p3) (o:=.tup [.str "give",.str x]))
      have P:=X6 (p:=p4) (v:=.ref p3) (b:=.tup [.str "give",.str x]) (ws:=["give",x]) (k2.trans (.of s4)) (s4 _ _ hls2) (hI2.keep t4) zc (.tup i3 (.cons (.str _) (.cons (.str _) .nil))) G
      refine ⟨ls,_,_,rfl,rfl,s4 _ _ hls2,by rw [List.length_map,List.length_reverse]; lia,?_⟩
      exact q _ _ _ P.1 P.2.1 P.2.2 (by simp) (by show 2 + 3 + tw its<=_; lia)
    · intro hne
      refine ⟨_,rfl,rfl,_,rfl,?_⟩
      refine ite2 (fun _=>?_) (fun _=>?_)
      · refine ⟨_,rfl,_,rfl,ls,c / 7,its,ps,rfl,hls2,hI2,htw,fun H3 p3 va arms its' ps' k3 hls3 hI3 hp3 iv hn hl20 hg hb=>?_⟩
        refine ⟨p3,_,rfl,SqT.of hp3,rfl,_,_,rfl,_,_,rfl,rfl,?_⟩
        have G:=j8 hx hn hg hl20
        have nps':=hI3.len
        have ntw':=w9 its'
        have ne:(arms.flatMap Arm.words).isEmpty=false:=by
          cases arms with
          | nil=>exact absurd rfl hn
          | cons a r=>rw [List.flatMap_cons]; unfold Arm.words; simp
        obtain ⟨je,wl⟩:=ZK (xss:=[[("case":Str)],[x],arms.flatMap Arm.words,[("end":Str)]]) (ws:=("case":Str) :: x :: (arms.flatMap Arm.words ++ [("end":Str)])) (by simp) (by simp [ne]) G.word
        have fl:(("case":Str) :: x :: (arms.flatMap Arm.words ++ [("end":Str)])).length=(arms.flatMap Arm.words).length + 3:=by simp only [List.length_cons,List.length_append,List.length_nil]
        refine ⟨_,rfl,.inl ⟨rfl,_,SqL.of hls3⟩,_,rfl,_,rfl,by show 3<=sizeLine; decide,fun p4 hp4=>⟨rfl,_,rfl,_,rfl,by show 4<=sizeLine; decide,fun p5 hp5=>⟨SP,p5,[[("case":Str)],[x],arms.flatMap Arm.words,[("end":Str)]].map tx,rfl,rfl,SqL.of zc,by lia,by show 2<=sizeLine; decide,fun p6 hp6=>?_⟩⟩⟩
        rw [je]
        have t4:=Tups.new (o:=.tup [.str "case",.str x,va]) hp4
        obtain ⟨e1,P1,P2,P3⟩:=vD (k2.trans k3) hls3 hI3 hp4 hp5 hp6 (.tup zc (.cons (.str _) (.cons (.str _) (.cons (iv.keep t4) .nil)))) G
        exact ⟨ls,_,_,rfl,rfl,e1,by rw [List.length_map,List.length_reverse]; lia,q _ _ _ P1 P2 P3 (by simp) (by rw [tw,fl]; lia)⟩
      · cases hI2 with
        | nil=>exact absurd rfl hne
        | @cons p v b ws its' ps' h1 h2 h3 h4 =>
          obtain ⟨e2,e3,t3,k3⟩:=ZJ (its:=its') k2 hls2
          refine ⟨_,rfl,.inl ⟨rfl,_,SqL.of hls2⟩,ls,_,_,rfl,rfl,hls2,e2,?_⟩
          rw [e3]
          have hls3:upd H2 ls (.lst (ps'.reverse.map V.ref)) ls=some (.lst (ps'.reverse.map V.ref)):=zc
          replace h1:=t3 _ _ h1
          replace h2:=h2.keep t3
          replace h4:=h4.keep t3
          generalize upd H2 ls (.lst (ps'.reverse.map V.ref))=H3 at *
          refine ⟨p,_,rfl,SqT.of h1,rfl,_,_,rfl,_,_,rfl,rfl,?_⟩
          have twe:tw ((b,ws) :: its')=ws.length + 3 + tw its':=rfl
          have nps':=h4.len
          have ntw':=w9 its'
          have wne:ws.isEmpty=false:=by
            cases ws with
            | nil=>exact absurd rfl h3.ne
            | cons _ _=>rfl
          suffices both2:(∀ H4,KpS (·=ls) H H4->H4 ls=some (.lst (ps'.reverse.map V.ref))->Itms H4 its' ps'->Is H4 b v->(tSeq _ _:TS) _ [some (.ref ls),some (.int c),some (.int (c % 7)),some (.int (c / 7)),some (.str x),none,some (.str (tx ws)),some v,none,none,none,none] H4) /\
              (∀ H4,KpS (·=ls) H H4->H4 ls=some (.lst (ps'.reverse.map V.ref))->Itms H4 its' ps'->Is H4 b v->its'≠[]->(tSeq _ _:TS) _ [some (.ref ls),some (.int c),some (.int (c % 7)),some (.int (c / 7)),some (.str x),none,some (.str (tx ws)),some v,none,none,none,none] H4) by
            obtain ⟨dv,iv⟩:=both2
            refine ⟨_,rfl,_,_,rfl,rfl,_,rfl,?_⟩
            refine ite2 (fun _=>iteT (dv H3 k3 hls3 h4 h2)) (fun _=>?_)
            refine ⟨_,rfl,by show 0<=sizeLine; decide,fun pe2 hpe2=>?_⟩
            have s4:Same H3 (upd H3 pe2 (.lst [])):=zi hpe2 _
            have t4:Tups H3 (upd H3 pe2 (.lst [])):=fun b xs e=>s4 _ _ e
            refine ⟨ls,pe2,_,rfl,rfl,SqL.of (s4 _ _ hls3),SqL.of zc,_,rfl,?_⟩
            by_cases hi:its'=[]
            · have e0:(ps'.reverse.map V.ref).isEmpty=true:=by
                have:ps'=[]:=List.length_eq_zero_iff.mp (by rw [<- nps',hi]; rfl)
                rw [this]
                rfl
              rw [e0]
              exact iteT (dv _ (k3.trans (.of s4)) (s4 _ _ hls3) (h4.keep t4) (h2.keep t4))
            · have e0:(ps'.reverse.map V.ref).isEmpty=false:=by
                cases ps' with
                | nil=>exact absurd (List.length_eq_zero_iff.mp nps') hi
                | cons p ps=>simp
              rw [e0]
              exact iteF (iv _ (k3.trans (.of s4)) (s4 _ _ hls3) (h4.keep t4) (h2.keep t4) hi)
          constructor
          · intro H4 k4 hls4 hI4 hb4
            refine ⟨_,rfl,c / 7,rfl,fun H5 p5 vd dd dw s5 hp5 id' GD' ld=>?_⟩
            have t5:Tups H4 H5:=fun b xs e=>s5 _ _ e
            have hls5:=s5 _ _ hls4
            refine ⟨p5,_,rfl,SqT.of hp5,rfl,_,_,rfl,_,_,rfl,rfl,?_⟩
            have G:=Yl hx GD' h3
            have dne:dw.isEmpty=false:=by
              cases dw with
              | nil=>exact absurd rfl GD'.ne
              | cons _ _=>rfl
            obtain ⟨je,wl⟩:=ZK (xss:=[[("let":Str)],[x],dw,ws]) (ws:=("let":Str) :: x :: (dw ++ ws)) (by simp) (by simp [dne,wne]) G.word
            have fl:(("let":Str) :: x :: (dw ++ ws)).length=dw.length + ws.length + 2:=by simp only [List.length_cons,List.length_append]
            refine ⟨_,rfl,.inl ⟨rfl,_,SqL.of hls5⟩,_,rfl,_,rfl,_,rfl,by show 4<=sizeLine; decide,fun p6 hp6=>⟨rfl,_,rfl,_,rfl,_,rfl,by show 4<=sizeLine; decide,fun p7 hp7=>⟨SP,p7,[[("let":Str)],[x],dw,ws].map tx,rfl,rfl,SqL.of zc,by lia,by show 2<=sizeLine; decide,fun p8 hp8=>?_⟩⟩⟩
            rw [je]
            have t6:=Tups.new (o:=.tup [.str "let",.str x,vd,v]) hp6
            obtain ⟨e1,P1,P2,P3⟩:=vD (k4.trans (.of s5)) hls5 (hI4.keep t5) hp6 hp7 hp8 (.tup zc (.cons (.str _) (.cons (.str _) (.cons (id'.keep t6) (.cons ((hb4.keep t5).keep t6) .nil))))) G
            exact ⟨ls,_,_,rfl,rfl,e1,by rw [List.length_map,List.length_reverse]; lia,q _ _ _ P1 P2 P3 (by simp) (by rw [tw,fl]; lia)⟩
          · intro H4 k4 hls4 hI4 hb4 hne4
            cases hI4 with
            | nil=>exact absurd rfl hne4
            | @cons p' v' b' ws' its'' ps'' g1 g2 g3 g4 =>
              obtain ⟨e5,e6,t5,k5⟩:=ZJ (its:=its'') k4 hls4
              refine ⟨_,rfl,.inl ⟨rfl,_,SqL.of hls4⟩,ls,_,_,rfl,rfl,hls4,e5,?_⟩
              rw [e6]
              have hls5:upd H4 ls (.lst (ps''.reverse.map V.ref)) ls=some (.lst (ps''.reverse.map V.ref)):=zc
              replace g1:=t5 _ _ g1
              replace g2:=g2.keep t5
              replace g4:=g4.keep t5
              replace hb4:=hb4.keep t5
              generalize upd H4 ls (.lst (ps''.reverse.map V.ref))=H5 at *
              refine ⟨p',_,rfl,SqT.of g1,rfl,_,_,rfl,_,_,rfl,rfl,?_⟩
              have twe2:tw ((b',ws') :: its'')=ws'.length + 3 + tw its'':=rfl
              have nps'':=g4.len
              have ntw'':=w9 its''
              have wne':ws'.isEmpty=false:=by
                cases ws' with
                | nil=>exact absurd rfl g3.ne
                | cons _ _=>rfl
              have G:=ZH hx h3 g3
              obtain ⟨je,wl⟩:=ZK (xss:=[[("if":Str)],[x],ws,[("else":Str)],ws']) (ws:=("if":Str) :: x :: (ws ++ ("else":Str) :: ws')) (by simp) (by simp [wne,wne']) G.word
              have fl:(("if":Str) :: x :: (ws ++ ("else":Str) :: ws')).length=ws.length + ws'.length + 3:=by simp only [List.length_cons,List.length_append]; lia
              refine ⟨_,rfl,.inl ⟨rfl,_,SqL.of hls5⟩,_,rfl,_,rfl,_,rfl,by show 4<=sizeLine; decide,fun p6 hp6=>⟨rfl,_,rfl,_,rfl,_,rfl,by show 5<=sizeLine; decide,fun p7 hp7=>⟨SP,p7,[[("if":Str)],[x],ws,[("else":Str)],ws'].map tx,rfl,rfl,SqL.of zc,by lia,by show 2<=sizeLine; decide,fun p8 hp8=>?_⟩⟩⟩
              rw [je]
              have t6:=Tups.new (o:=.tup [.str "if",.str x,v,v']) hp6
              obtain ⟨e1,P1,P2,P3⟩:=vD k5 hls5 g4 hp6 hp7 hp8 (.tup zc (.cons (.str _) (.cons (.str _) (.cons (hb4.keep t6) (.cons (g2.keep t6) .nil))))) G
              exact ⟨ls,_,_,rfl,rfl,e1,by rw [List.length_map,List.length_reverse]; lia,q _ _ _ P1 P2 P3 (by simp) (by rw [tw,fl]; lia)⟩
end
end Rdr
namespace Rdr
open PySem L2 K11 Rd
theorem Itms.app {H:Hp} {a b:List (D × List Str)} {p q:List Addr} (h:Itms H a p) (g:Itms H b q):Itms H (a ++ b) (p ++ q):=by
  induction h with
  | nil=>exact g
  | cons x y z _ ih=>exact .cons x y z ih
theorem Itms.rev {H:Hp} {a:List (D × List Str)} {p:List Addr} (h:Itms H a p):Itms H a.reverse p.reverse:=by
  induction h with
  | nil=>exact .nil
  | cons x y z _ ih=>rw [List.reverse_cons,List.reverse_cons]; exact ih.app (.cons x y z .nil)
theorem Itms.get {H:Hp} {a:List (D × List Str)} {p:List Addr} (h:Itms H a p):∀ {i:Nat} {x:Addr},p[i]?=some x->∃ b ws v,a[i]?=some (b,ws)/\H x=some (.tup [v,.str (tx ws)])/\Is H b v/\Good b ws:=by
  induction h with
  | nil=>intro i x e; simp at e
  | @cons p v b ws its ps h1 h2 h3 _ ih =>
    intro i x e
    cases i with
    | zero =>
      have e':p=x:=by simpa using e
      subst e'
      exact ⟨b,ws,v,rfl,h1,h2,h3⟩
    | succ i=>exact ih (by simpa using e)
theorem Xi:∀ a b:List (D × List Str),tw (a ++ b)=tw a + tw b
  | [],b=>by rw [List.nil_append,tw]; lia
  | x :: a,b=>by rw [List.cons_append,tw,tw,Xi a b]; lia
theorem Xj:∀ a:List (D × List Str),tw a.reverse=tw a
  | []=>rfl
  | x :: a=>by rw [List.reverse_cons,Xi,Xj a,tw,tw,tw]; lia
theorem wJ {ws:List Str} (h0:ws≠[]) (h:∀ x∈ws,Wd x):Txt.split (tx ws) SP=ws:=by
  show Txt.split (Str.join SP ws) SP=ws
  rw [X2]
  exact vT h0 fun x hx=>(h x hx).sp
def X7:Sp:=fun vs H Q _=>∃ (ls:Addr) (its:List (D × List Str)) (ps:List Addr),vs=[.ref ls]/\H ls=some (.lst (ps.reverse.map V.ref))/\Itms H its ps/\tw its<=2000/\∀ H',Same H H'->Q (.int (tw its)) H'
def X8 (K:PySem.W.Frag):Sp:=fun vs H Q _=>∃ (a:Addr) (ns:List Int),vs=[.ref a]/\SqL K H a (ns.map V.int)/\ns.length<=63/\∀ (H':Hp) (p:Addr) (v:V) (b:D) (ws:List Str),Same H H'->H' p=some (.tup [v,.str (tx ws)])->Is H' b v->Good b ws->ws.length<=400->Q (.ref p) H'
section
variable {P:Program} {w:World} {K:PySem.W.Frag} {mg:Str->Option Value} {base:Heap} {f:Addr} {fd:FuncData}
theorem scLMany:FnScope ["_law_stack","_law_many_here","_law_body","_law_text"] ["_law_stack"] (zn Y7):=⟨rfl,rfl,rfl,by decide +kernel,rfl,by decide +kernel,by decide +kernel⟩
theorem Jp (F:Fun K "_law_many" "_law_many" Y7 f fd) (mN:mg "len"=none):FnOk P w K mg base CX0 1 f fd ["_law_stack"] X7:=by
  refine F.by scLMany (fun vs H Q E h=>?_) (fun cdv A outer s H vs Q E hr h=>?_)
  · obtain ⟨ls,its,ps,rfl,_⟩:=h
    rfl
  obtain ⟨ls,its,ps,rfl,hls,hI,htw,q⟩:=h
  refine ⟨_,zd (zu (i:=1) scLMany.nd rfl (Or.inl rfl) zg)
    (zd (y0 PassesOwn.never rfl (xX (jv 0)) (y9 rfl (zQ (zF (i:=2) scLMany.nd rfl (Or.inl rfl)) (zQ (zF (i:=3) scLMany.nd rfl (Or.inl rfl)) yH)))
      (zh (zu (i:=1) scLMany.nd rfl (Or.inl rfl) (zp zL (zp zL (jv 1) zg) (zK zy rfl mN PySem.boot_len (ja_c (zZ PySem.F.plainAttrs_str PySem.F.slot_str_split PySem.F.type_str_split yY (jv 3) (ja_c zj ze)) ze))))))
    (zh (zq (jv 1)))),?_⟩
  have sl:=line
  have hR:=hI.rev
  refine ⟨_,rfl,ls,rfl,⟨_,SqL.of hls⟩,xJ (xs:=ps.reverse.map V.ref) (fun i σ H'=>∃ a b,σ=[some (.ref ls),some (.int (tw (its.reverse.take i))),a,b]/\Same H H') ⟨none,none,rfl,Same.refl _⟩ (fun i σ H' _ pv=>by obtain ⟨a,b,_,sm⟩:=pv; exact SqL.of (sm _ _ hls)) ?_ ?_⟩
  · rintro i x σ H' hx ⟨a,b,rfl,sm⟩
    rw [List.getElem?_map] at hx
    obtain ⟨p,hp,rfl⟩:=Option.map_eq_some_iff.mp hx
    obtain ⟨bd,ws,v,e1,e2,e3,G⟩:=hR.get hp
    have tl:=wy G.word
    have wl:ws.length<=tw its:=by
      have m:=List.mem_of_getElem? e1
      have:∀ l:List (D × List Str),(bd,ws)∈l->ws.length<=tw l:=by
        intro l
        induction l with
        | nil=>intro h; cases h
        | cons y l ih =>
          intro h
          rw [tw]
          rcases List.mem_cons.mp h with e | h
          · subst e
            show ws.length<=ws.length + 3 + tw l
            lia
          · have:=ih h; lia
      have:=this _ m
      rw [Xj] at this
      exact this
    refine ⟨p,_,rfl,SqT.of (sm _ _ e2),rfl,_,_,rfl,_,_,rfl,rfl,?_⟩
    refine ⟨_,rfl,_,_,rfl,rfl,_,rfl,rfl,tx ws,SP,rfl,rfl,by decide,by lia,fun p2 hp2=>⟨p2,_,rfl,.inl (SqL.of zc),_,_,rfl,rfl,some v,some (.str (tx ws)),?_,sm.trans (zi hp2 _)⟩⟩
    rw [wJ G.ne G.word]
    have hi:=(List.getElem?_eq_some_iff.mp e1).1
    have et:its.reverse.take (i + 1)=its.reverse.take i ++ [(bd,ws)]:=by rw [List.take_succ,e1]; rfl
    rw [et,Xi,List.length_map]
    show [some (V.ref ls),some (V.int (((tw (its.reverse.take i):Nat):Int) + 3 + ((ws.length:Nat):Int))),some v,some (V.str (tx ws))]=[some (V.ref ls),some (V.int ((tw (its.reverse.take i) + (ws.length + 3 + 0):Nat):Int)),some v,some (V.str (tx ws))]
    have:(((tw (its.reverse.take i):Nat):Int) + 3 + ((ws.length:Nat):Int))=((tw (its.reverse.take i) + (ws.length + 3 + 0):Nat):Int):=by lia
    rw [this]
  · rintro σ H' ⟨a,b,rfl,sm⟩
    have e:its.reverse.take (ps.reverse.map V.ref).length=its.reverse:=List.take_of_length_le (by rw [List.length_map,List.length_reverse,List.length_reverse,hI.len]; exact Nat.le_refl _)
    have r:=q _ sm
    rw [<- Xj,<- e] at r
    exact ⟨_,rfl,r⟩
theorem scLTree:FnScope ["_law_cells","_law_stack","_law_many_here","_law_cell","_law_body","_law_text","_law_other","_law_more"] ["_law_cells"] (zn Y8):=⟨rfl,rfl,rfl,by decide +kernel,rfl,by decide +kernel,by decide +kernel⟩
theorem Jq:zx "x"=true:=by decide +kernel
theorem Jr (F:Fun K "_law_tree" "_law_tree" Y8 f fd) (GP:Ca P w K mg base CX0 4 "_law_put" ["_law_stack","_law_cell"] Jo) (GM:Ca P w K mg base CX0 1 "_law_many" ["_law_stack"] X7) (mN:mg "len"=none):FnOk P w K mg base CX0 5 f fd ["_law_cells"] (X8 K):=by
  refine F.by scLTree (fun vs H Q E h=>?_) (fun cdv A outer s H vs Q E hr h=>?_)
  · obtain ⟨a,ns,rfl,_⟩:=h
    rfl
  obtain ⟨a,ns,rfl,hS,h63,q⟩:=h
  refine ⟨_,zd (zu (i:=1) scLTree.nd rfl (Or.inl rfl) (zB ze)) (zd (zu (i:=2) scLTree.nd rfl (Or.inl rfl) zg)
    (zd (y0 PassesOwn.never rfl (xX (jv 0)) (zF (i:=3) scLTree.nd rfl (Or.inl rfl))
      (zh (zC (zt yX (jv 2) zg (zw _)) (zd (zM (zN GP hr rfl zJ (ja_c (jv 1) (ja_c (jv 3) ze)))) (zh (zu (i:=2) scLTree.nd rfl (Or.inl rfl) (zN GM (hr.mono (by decide)) rfl zJ (ja_c (jv 1) ze))))) zv)))
    (zd (xa PassesOwn.never (zt ZZ (zK zy rfl mN PySem.boot_len (ja_c (jv 1) ze)) zg (zw _))
      (zd (xO (wp PySem.F.plainAttrs_list PySem.F.slot_list_pop PySem.F.type_list_pop wu (jv 1)) (y9 rfl (zQ (zF (i:=4) scLTree.nd rfl (Or.inl rfl)) (zQ (zF (i:=5) scLTree.nd rfl (Or.inl rfl)) yH))))
      (zd (xO (wp PySem.F.plainAttrs_list PySem.F.slot_list_pop PySem.F.type_list_pop wu (jv 1)) (y9 rfl (zQ (zF (i:=6) scLTree.nd rfl (Or.inl rfl)) (zQ (zF (i:=7) scLTree.nd rfl (Or.inl rfl)) yH))))
      (zh (zM (zZ PySem.F.plainAttrs_list PySem.F.slot_list_append PySem.F.type_list_append zY (jv 1) (ja_c (zX (ja_c (zX (ja_c zj (ja_c zj (ja_c (jv 4) (ja_c (jv 6) ze))))) (ja_c (zZ PySem.F.plainAttrs_str PySem.F.slot_str_join PySem.F.type_str_join yI zj (ja_c (zB (ja_c zj (ja_c zj (ja_c (jv 5) (ja_c zj (ja_c (jv 7) ze)))))) ze)) ze))) ze)))))))
    (zd (zC (zt (YR hr) (jv 1) (zB ze) (zw _)) (zh (zq (zX (ja_c (zX (ja_c zj (ja_c zj ze))) (ja_c zj ze))))) zv)
    (zh (zq (zE zG (jv 1) zg (fun _ _=>rfl)))))))),?_⟩
  have sl:=line
  refine ⟨by show 0<=sizeLine; decide,fun ls hls=>?_⟩
  have fin:∀ {H':Hp},KpS (·=ls) H H'->Same H H':=fun k y o e=>k _ _ (zo e hls) e
  refine ⟨_,rfl,a,rfl,⟨_,(zi hls _).seq hS⟩,xJ (xs:=ns.map V.int) (fun i σ H'=>∃ its ps v,σ=[some (.ref a),some (.ref ls),some (.int (tw its)),v,none,none,none,none]/\KpS (·=ls) H H'/\H' ls=some (.lst (ps.reverse.map V.ref))/\Itms H' its ps/\tw its<=380) ⟨[],[],none,rfl,KpS.new hls,zc,.nil,by decide⟩ (fun i σ H' _ pv=>by obtain ⟨its,ps,v,_,k,_⟩:=pv; exact (fin k).seq hS) ?_ ?_⟩
  · rintro i x σ H' hx ⟨its,ps,v,rfl,k,hl,hI,ht⟩
    obtain ⟨n,_,rfl⟩:∃ n,ns[i]?=some n/\V.int n=x:=by
      rw [List.getElem?_map] at hx
      cases e:ns[i]? with
      | none=>rw [e] at hx; cases hx
      | some n=>rw [e] at hx; exact ⟨n,rfl,Option.some.inj hx⟩
    refine ⟨_,rfl,_,_,rfl,rfl,_,rfl,?_⟩
    by_cases c:((tw its:Nat):Int)<=110
    · refine iteD c ?_
      refine ⟨_,rfl,_,rfl,ls,n,its,ps,rfl,hl,hI,by lia,fun H1 its' ps' k1 hl1 hI1 hne ht1=>?_⟩
      refine ⟨_,rfl,ls,its',ps',rfl,hl1,hI1,by lia,fun H2 s2=>⟨its',ps',_,rfl,(k.trans k1).trans (.of s2),s2 _ _ hl1,hI1.keep (fun b xs e=>s2 _ _ e),by lia⟩⟩
    · exact wk c ⟨its,ps,_,rfl,k,hl,hI,ht⟩
  · rintro σ H1 ⟨its,ps,v,rfl,k,hl,hI,ht⟩
    refine ⟨fun m σ H'=>∃ its ps nn v a1 a2 a3 a4,m=its.length/\σ=[some (.ref a),some (.ref ls),nn,v,a1,a2,a3,a4]/\KpS (·=ls) H H'/\H' ls=some (.lst (ps.reverse.map V.ref))/\Itms H' its ps/\tw its<=380,⟨_,its,ps,_,_,none,none,none,none,rfl,rfl,k,hl,hI,ht⟩,?_⟩
    clear k hl hI ht
    rintro m σ H2 ⟨its,ps,nn,v,a1,a2,a3,a4,rfl,rfl,k,hl,hI,ht⟩
    have nps:=hI.len
    refine ⟨_,rfl,ls,_,rfl,.inl (SqL.of hl),_,_,rfl,rfl,_,rfl,?_⟩
    by_cases c:1 < its.length
    · refine iteD (by rw [List.length_map,List.length_reverse]; lia) ⟨_,fun _ _ h=>h,?_⟩
      cases hI with
      | nil=>simp at c
      | @cons p v1 b1 w1 its ps h1 h2 h3 h4 =>
        cases h4 with
        | nil=>simp at c
        | @cons p' v2 b2 w2 its ps g1 g2 g3 g4 =>
          obtain ⟨e2,e3,t3,k3⟩:=ZJ (its:=(b2,w2) :: its) k hl
          refine ⟨_,rfl,.inl ⟨rfl,_,SqL.of hl⟩,ls,_,_,rfl,rfl,hl,e2,?_⟩
          rw [e3]
          have hl3:upd H2 ls (.lst ((p' :: ps).reverse.map V.ref)) ls=some (.lst ((p' :: ps).reverse.map V.ref)):=zc
          replace h1:=t3 _ _ h1
          replace h2:=h2.keep t3
          replace g1:=t3 _ _ g1
          replace g2:=g2.keep t3
          replace g4:=g4.keep t3
          generalize upd H2 ls (.lst ((p' :: ps).reverse.map V.ref))=H3 at *
          refine ⟨p,_,rfl,SqT.of h1,rfl,_,_,rfl,_,_,rfl,rfl,?_⟩
          obtain ⟨e5,e6,t5,k5⟩:=ZJ (its:=its) k3 hl3
          refine ⟨_,rfl,.inl ⟨rfl,_,SqL.of hl3⟩,ls,_,_,rfl,rfl,hl3,e5,?_⟩
          rw [e6]
          have hl5:upd H3 ls (.lst (ps.reverse.map V.ref)) ls=some (.lst (ps.reverse.map V.ref)):=zc
          replace h2:=h2.keep t5
          replace g1:=t5 _ _ g1
          replace g2:=g2.keep t5
          replace g4:=g4.keep t5
          generalize upd H3 ls (.lst (ps.reverse.map V.ref))=H5 at *
          refine ⟨p',_,rfl,SqT.of g1,rfl,_,_,rfl,_,_,rfl,rfl,?_⟩
          have twe:tw ((b1,w1) :: (b2,w2) :: its)=w1.length + 3 + (w2.length + 3 + tw its):=rfl
          have ntw:=w9 its
          have n4:=g4.len
          have e1:w1.isEmpty=false:=by
            cases w1 with
            | nil=>exact absurd rfl h3.ne
            | cons _ _=>rfl
          have e1':w2.isEmpty=false:=by
            cases w2 with
            | nil=>exact absurd rfl g3.ne
            | cons _ _=>rfl
          have G:=ZH Jq h3 g3
          obtain ⟨je,wl⟩:=ZK (xss:=[[("if":Str)],[("x":Str)],w1,[("else":Str)],w2]) (ws:=("if":Str) :: "x" :: (w1 ++ ("else":Str) :: w2)) (by simp) (by simp [e1,e1']) G.word
          have fl:(("if":Str) :: "x" :: (w1 ++ ("else":Str) :: w2)).length=w1.length + w2.length + 3:=by simp only [List.length_cons,List.length_append]; lia
          refine ⟨_,rfl,.inl ⟨rfl,_,SqL.of hl5⟩,_,rfl,_,rfl,by show 4<=sizeLine; decide,fun p6 hp6=>⟨rfl,_,rfl,_,rfl,by show 5<=sizeLine; decide,fun p7 hp7=>⟨SP,p7,[[("if":Str)],[("x":Str)],w1,[("else":Str)],w2].map tx,rfl,rfl,SqL.of zc,by lia,by show 2<=sizeLine; decide,fun p8 hp8=>?_⟩⟩⟩
          rw [je]
          have t6:=Tups.new (o:=.tup [.str "if",.str "x",v1,v2]) hp6
          obtain ⟨f1,P1,P2,P3⟩:=vD k5 hl5 g4 hp6 hp7 hp8 (.tup zc (.cons (.str _) (.cons (.str _) (.cons (h2.keep t6) (.cons (g2.keep t6) .nil))))) G
          exact ⟨ls,_,_,rfl,rfl,f1,by rw [List.length_map,List.length_reverse]; lia,its.length + 1,by simp only [List.length_cons]; lia,_,_,_,_,_,_,_,_,rfl,rfl,P1,P2,P3,by rw [tw,fl]; lia⟩
    · refine wk (by rw [List.length_map,List.length_reverse]; lia) ?_
      refine ⟨_,rfl,by show 0<=sizeLine; decide,fun pe hpe=>?_⟩
      have s3:Same H2 (upd H2 pe (.lst [])):=zi hpe _
      have hl3:=s3 _ _ hl
      have hI3:=hI.keep (fun b xs e=>s3 _ _ e)
      have k3:KpS (·=ls) H (upd H2 pe (.lst [])):=k.trans (.of s3)
      have he3:upd H2 pe (.lst []) pe=some (.lst []):=zc
      generalize upd H2 pe (.lst [])=H3 at *
      refine ⟨ls,pe,_,rfl,rfl,SqL.of hl3,SqL.of he3,_,rfl,?_⟩
      cases hI3 with
      | nil =>
        refine iteT ?_
        refine ⟨by show 2<=sizeLine; decide,fun p4 hp4=>⟨by show 2<=sizeLine; decide,fun p5 hp5=>?_⟩⟩
        have e:("give x":Str)=tx ["give","x"]:=by decide
        have t5:=Tups.new (o:=.tup [.ref p4,.str "give x"]) hp5
        exact q _ p5 (.ref p4) _ ["give","x"] (((fin k3).trans (zi hp4 _)).trans (zi hp5 _)) (by rw [zc,e]) (.tup (t5 _ _ zc) (.cons (.str _) (.cons (.str _) .nil))) (x9 Jq) (by show 2<=400; decide)
      | @cons p v1 b1 w1 its ps h1 h2 h3 h4 =>
        cases h4 with
        | cons _ _ _ _=>simp only [List.length_cons] at c; lia
        | nil =>
          refine iteF ?_
          have twe:tw [(b1,w1)]=w1.length + 3 + 0:=rfl
          exact ⟨_,rfl,ls,_,_,_,rfl,rfl,SqL.of hl3,yo (j:=0) rfl,q _ p v1 b1 w1 (fin k3) h1 h2 h3 (by lia)⟩
end
end Rdr
namespace Rdr
open PySem L2 K11 Rd
section
variable {P:Program} {w:World} {K:PySem.W.Frag} {mg:Str->Option Value} {base:Heap} {f:Addr} {fd:FuncData}
end
end Rdr
namespace Rdr
open PySem L2 K11 Rd
theorem Xk {x:Str} {r:List Str} (h:x≠("":Str)):tx (x :: r)≠("":Str):=fun e=>by
  have e':=congrArg cl e
  have c0:cl ("":Str)=[]:=by decide
  rw [c0] at e'
  apply h
  apply y7
  rw [c0]
  cases r with
  | nil=>exact e'
  | cons y r =>
    have e2:cl (Str.join SP (x :: y :: r))=[]:=e'
    rw [zW] at e2
    exact (List.append_eq_nil_iff.mp e2).1
section
variable {P:Program} {w:World} {K:PySem.W.Frag} {mg:Str->Option Value} {base:Heap} {f:Addr} {fd:FuncData}
end
end Rdr
namespace L2
open PySem PySem.Spec PyProof.Rows
def Itv (K:PySem.W.Frag) (a:Addr) (n:Nat):It :=
  ⟨fun i H=>i < n/\∃ xs x,SqL K H a xs/\xs[n - 1 - i]?=some x,fun i H x H'=>H'=H/\∀ xs,SqL K H a xs->xs[n - 1 - i]?=some x,fun i _=>n<=i⟩
theorem Js {P:Program} {w:World} {K:PySem.W.Frag} {tg:Expr} (a it:Addr) (n:Nat):Turn P w K tg (Itv K a n) [it] it (fun i h=>i<=n/\h.IsRevIter it a ((n:Int) - 1 - (i:Nat))) where
  mem:=by simp
  obj:=fun i h st b hb=>by
    have e:b=it:=by simpa using hb
    subst e
    obtain ⟨_,o,e,c,d⟩:=st
    exact ⟨o,e,fun v z=>by rw [d] at z; cases z⟩
  keep:=fun i h h' st k=>⟨st.1,st.2.at fun o e=>k it (by simp) o e⟩
  item:=by
    intro X hP hw hK hc i pins s σ H E I hf st hg
    subst hP hw hK
    obtain ⟨hi,xs,x,hq,hx⟩:=hg
    obtain ⟨its,rv,p,hz⟩:=I.list hq
    obtain ⟨u,hu,ru⟩:=rv.get hx
    obtain ⟨f0,f1,f2,f3,f4,f5⟩:=hf it (by simp)
    obtain ⟨_,st2⟩:=st
    have e1:(n:Int) - 1 - (i:Nat)=((n - 1 - i:Nat):Int):=by lia
    rw [e1] at st2
    refine wpAny_pyNext_rev_item st2 p.isList (x:=u) (by simpa using hu) fun h' st' sb=>?_
    have I1:Inv X pins σ H { s with heap:=h' }:=I.turned (t':=s.toks) (fun b o hb e=>(sb.2 b hb).trans e) f0 f1 f3 f4 f5
    obtain ⟨o,e,c,d⟩:=id st'
    refine ⟨u,rfl,jF (s:={ s with heap:=h' }) e c d (by decide) ⟨x,H,I1,ru,⟨rfl,fun ys hy=>by rw [I.list_inj hy hq]; exact hx⟩,⟨hi,?_⟩,fun b hb=>(hf b hb).1⟩⟩
    have e2:(n:Int) - 1 - ((i + 1:Nat):Int)=((n - 1 - i:Nat):Int) - 1:=by lia
    rw [e2]
    exact st'
  done:=by
    intro X hP hw hK hc i pins s σ H E I hf st hg
    subst hP hw hK
    obtain ⟨f0,f1,f2,f3,f4,f5⟩:=hf it (by simp)
    obtain ⟨h1,st2⟩:=st
    have h2:n<=i:=hg
    have e1:(n:Int) - 1 - (i:Nat)=-1:=by lia
    rw [e1] at st2
    exact wpAny_pyNext_rev_end (I.ok.hd hc) st2 fun h' eb=>⟨rfl,I.turned (t':=s.toks) (fun b o hb e=>eb b o hb e) f0 f1 f3 f4 f5⟩
  self:=fun _ _ _ _ _ st h=>wpAny_pyIter_revIter st.2 h
section
variable {X:Cx} {tg:Expr}
def iRev (K:PySem.W.Frag) (ta:TA):TI:=fun σ H R=>ta σ H fun vs H1=>∃ a xs,vs=[.ref a]/\SqL K H1 a xs/\R (Itv K a xs.length) H1
theorem zb6 {a:Expr} {ta:TA} {p pos:Pos} (hg:Gl X "reversed") (hm:X.mg "reversed"=none) (ha:PA X [a] ta) (hs:starEach [a] X.env=[(false,eval a X.env)]:=by rfl):PI X tg (.Call (.Name "reversed" p) [a] [] pos) (iRev X.K ta):=by
  intro pins s σ H R I h
  refine Call_ (wm I hg hm boot_reversed (PyProof.Rows.callWith_type1 (thn (ha pos pins s σ H _ I h) fun us s1 ⟨vs,H1,I1,r1,q1⟩=>?_) hs rfl))
  obtain ⟨l,xs,e,hq,q⟩:=q1
  subst e
  obtain ⟨u,rfl,rx⟩:=xK r1
  cases rx
  obtain ⟨its,rv,pl,hz⟩:=I1.list hq
  have hl:=rv.length
  refine call_reversed_list pl.isList ?_
  have hr:(s1.heap.push (revObj l ((its.toArray.size:Int) - 1))).IsRevIter s1.heap.objs.size l ((its.toArray.size:Int) - 1):=⟨_,Heap.get?_push_size _ rfl,rfl,rfl⟩
  refine wpAny_pyIter_revIter (s:={ s1 with heap:=s1.heap.push (revObj l ((its.toArray.size:Int) - 1)) }) hr ?_
  refine ⟨s1.heap.objs.size,[s1.heap.objs.size],_,_,H1,rfl,I1.kept (t':=s1.toks) fun b o e=>Heap.get?_push_of_some _ e,Js l _ xs.length,⟨Nat.zero_le _,?_⟩,fun b hb=>?_,q⟩
  · have e:(xs.length:Int) - 1 - ((0:Nat):Int)=(its.toArray.size:Int) - 1:=by simp [hl]
    rw [e]
    exact hr
  have e:b=s1.heap.objs.size:=by simpa using hb
  subst e
  exact I1.fpOk (Nat.le_refl _) (I1.hok.fresh (Nat.le_refl _))
theorem zb7 {a:Expr} {t:TA} {p pos:Pos} (hg:Gl X "reversed") (hm:X.mg "reversed"=none) (ha:jA X [a] t) (h:zP a=false:=by rfl):jI X tg (.Call (.Name "reversed" p) [a] [] pos) (iRev X.K t):=⟨zb6 hg hm ha.out (zV h)⟩
end
theorem zac {K:PySem.W.Frag} {a:Addr} {xs:List V} {g:TG} {tb:TS} {D:Ends} {σ:St} {H:Hp} (Pv:Nat->St->Hp->Prop) (h0:Pv 0 σ H) (hl:∀ i σ H,i<=xs.length->Pv i σ H->SqL K H a xs)
    (hs:∀ i x σ H,xs.reverse[i]?=some x->Pv i σ H->g x σ H fun σ2 H2=>tb { D with nx:=Pv (i + 1),ct:=Pv (i + 1),bk:=D.nx } σ2 H2) (hd:∀ σ H,Pv xs.length σ H->D.nx σ H) :
    ∃ W:Nat->Nat->St->Hp->Prop,(∃ m,W 0 m σ H)/\∀ i m σ H,W i m σ H ->
      ((Itv K a xs.length).stop i H/\D.nx σ H)\/((Itv K a xs.length).go i H/\∃ N:St->Hp->Prop,(∀ σ' H',N σ' H'->∃ m',m' < m/\W (i + 1) m' σ' H')/\∀ x H',(Itv K a xs.length).yld i H x H'->g x σ H' fun σ2 H2=>tb { D with nx:=N,ct:=N,bk:=D.nx } σ2 H2):=by
  refine ⟨fun i m σ H=>m=xs.length - i/\i<=xs.length/\Pv i σ H,⟨xs.length,by simp,Nat.zero_le _,h0⟩,?_⟩
  rintro i m σ H ⟨rfl,hi,p⟩
  have q:=hl i σ H hi p
  by_cases hlt:i < xs.length
  · refine .inr ⟨⟨hlt,xs,xs[xs.length - 1 - i],q,by rw [List.getElem?_eq_getElem]⟩,Pv (i + 1),fun σ' H' p'=>⟨xs.length - (i + 1),by lia,rfl,hlt,p'⟩,fun x H' y=>?_⟩
    obtain ⟨e,y⟩:=y
    subst e
    refine hs i x σ _ ?_ p
    rw [List.getElem?_reverse hlt]
    exact y xs q
  · have e:i=xs.length:=by lia
    subst e
    exact .inl ⟨Nat.le_refl _,hd σ H p⟩
section
variable {g:TG} {tt:TT} {te:TE} {Q:VK} {σ:St} {H:Hp}
theorem Jt {K:PySem.W.Frag} {a:Addr} {xs:List V} (Pv:Nat->St->List V->Hp->Prop) (h0:Pv 0 σ [] H) (hl:∀ i τ ys H,i<=xs.length->Pv i τ ys H->SqT K H a xs)
    (hs:∀ i x τ ys H,xs[i]?=some x->Pv i τ ys H->g x τ H fun τ2 H2=>tt τ2 H2 fun b H3=>if b=true then te τ2 H3 fun y H4=>ys.length < sizeLine/\Pv (i + 1) τ2 (ys ++ [y]) H4 else Pv (i + 1) τ2 ys H3)
    (hd:∀ τ ys H,Pv xs.length τ ys H->∀ p,H p=none->Q (.ref p) (upd H p (.lst ys))):∃ W,(∃ m,W 0 m σ [] H)/\lcBy (Itt K a) g tt te Q W:=by
  refine ⟨fun i m τ ys H=>m=xs.length - i/\i<=xs.length/\Pv i τ ys H,⟨xs.length,by simp,Nat.zero_le _,h0⟩,?_⟩
  rintro i m τ ys H ⟨rfl,hi,p⟩
  have q:=hl i τ ys H hi p
  by_cases hlt:i < xs.length
  · refine .inr ⟨⟨xs,xs[i],q,by simp [hlt]⟩,Pv (i + 1),fun τ' ys' H' p'=>⟨xs.length - (i + 1),by lia,rfl,hlt,p'⟩,fun x H' y=>?_⟩
    obtain ⟨e,y⟩:=y
    subst e
    exact hs i x τ ys _ (y xs q) p
  · have e:i=xs.length:=by lia
    subst e
    exact .inl ⟨⟨xs,q,Nat.le_refl _⟩,hd τ ys H p⟩
end
theorem old {H:Hp} {p q:Addr} {o u:HO} (hp:H p=none) (h:H q=some u):upd H p o q=some u:=by rw [zk (zo h hp)]; exact h
theorem Same.new {H H1:Hp} {p:Addr} {o:HO} (s:Same H H1) (hp:H1 p=none):Same H (upd H1 p o):=fun b u q=>old hp (s b u q)
theorem Same.put {H H1:Hp} {p:Addr} {o:HO} (s:Same H H1) (hp:H p=none):Same H (upd H1 p o):=fun b u q=>by rw [zk (zo q hp)]; exact s b u q
end L2
namespace Rdr
open PySem L2 K11 Rd
theorem IsL.strsE {H:Hp}:∀ {l:List Str} {vs:List V},IsL H (l.map D.str) vs->vs=l.map V.str
  | [],_,h=>by cases h; rfl
  | x :: l,_,h=>by
    rw [List.map_cons] at h
    cases h with
    | cons a b =>
      cases a
      rw [IsL.strsE b]
      rfl
theorem IsL.get {H:Hp}:∀ {ds:List D} {vs:List V} {i:Nat} {v:V},IsL H ds vs->vs[i]?=some v->∃ d,ds[i]?=some d/\Is H d v
  | _,_,_,_,.nil,e=>by simp at e
  | _,_,0,_,.cons a _,e=>by
    simp at e
    subst e
    exact ⟨_,rfl,a⟩
  | _,_,i + 1,_,.cons _ b,e=>by
    obtain ⟨d,h1,h2⟩:=IsL.get (i:=i) b (by simpa using e)
    exact ⟨d,by simpa using h1,h2⟩
inductive Pd where
  | w (x:Str)
  | b (d:D) (ws:List Str)
def Pd.ws:Pd->List Str
  | .w x=>[x]
  | .b _ ws=>ws
def Pd.wt:Pd->Nat
  | .w _=>1
  | .b _ ws=>2 * ws.length
def wts (l:List Pd):Nat:=(l.map Pd.wt).sum
def wss (l:List Pd):List Str:=l.flatMap Pd.ws
inductive IsP (H:Hp):Pd->V->Prop
  | w (x:Str):IsP H (.w x) (.str x)
  | b {d:D} {ws:List Str} {v:V}:Is H d v->Wr d ws->IsP H (.b d ws) v
inductive IsPs (H:Hp):List Pd->List V->Prop
  | nil:IsPs H [] []
  | cons {p:Pd} {v:V} {ps:List Pd} {vs:List V}:IsP H p v->IsPs H ps vs->IsPs H (p :: ps) (v :: vs)
theorem IsP.keep {H H':Hp} (t:Tups H H') {p:Pd} {v:V} (h:IsP H p v):IsP H' p v:=by
  cases h with
  | w x=>exact .w x
  | b i w=>exact .b (i.keep t) w
theorem IsPs.keep {H H':Hp} (t:Tups H H') {ps:List Pd} {vs:List V} (h:IsPs H ps vs):IsPs H' ps vs:=by
  induction h with
  | nil=>exact .nil
  | cons a _ ih=>exact .cons (a.keep t) ih
theorem IsPs.app {H:Hp} {a b:List Pd} {u v:List V} (h:IsPs H a u) (g:IsPs H b v):IsPs H (a ++ b) (u ++ v):=by
  induction h with
  | nil=>exact g
  | cons x _ ih=>exact .cons x ih
theorem IsPs.rev {H:Hp} {a:List Pd} {u:List V} (h:IsPs H a u):IsPs H a.reverse u.reverse:=by
  induction h with
  | nil=>exact .nil
  | cons x _ ih=>rw [List.reverse_cons,List.reverse_cons]; exact ih.app (.cons x .nil)
theorem IsPs.len {H:Hp} {a:List Pd} {u:List V} (h:IsPs H a u):a.length=u.length:=by
  induction h with
  | nil=>rfl
  | cons _ _ ih=>rw [List.length_cons,List.length_cons,ih]
theorem IsPs.strs {H:Hp}:∀ l:List Str,IsPs H (l.map Pd.w) (l.map V.str)
  | []=>.nil
  | x :: l=>.cons (.w x) (IsPs.strs l)
theorem jj:∀ l:List Str,wss (l.map Pd.w)=l
  | []=>rfl
  | x :: l=>by
    have e:=jj l
    unfold wss at e ⊢
    rw [List.map_cons,List.flatMap_cons,e]
    rfl
theorem Yo:∀ l:List Str,wts (l.map Pd.w)=l.length
  | []=>rfl
  | x :: l=>by
    have e:=Yo l
    unfold wts at e ⊢
    rw [List.map_cons,List.map_cons,List.sum_cons,e,List.length_cons]
    show 1 + _=_
    lia
theorem wK (a b:List Pd):wss (a ++ b)=wss a ++ wss b:=List.flatMap_append
theorem ZM (a b:List Pd):wts (a ++ b)=wts a + wts b:=by unfold wts; rw [List.map_append,List.sum_append]
theorem yF (a:Pd) (b:List Pd):wss (a :: b)=a.ws ++ wss b:=List.flatMap_cons
theorem yG (a:Pd) (b:List Pd):wts (a :: b)=a.wt + wts b:=by unfold wts; rw [List.map_cons,List.sum_cons]
theorem Xl:∀ l:List Pd,l.length<=2 * (wss l).length + l.length/\wts l<=2 * (wss l).length
  | []=>⟨Nat.zero_le _,Nat.le_refl _⟩
  | p :: l=>by
    obtain ⟨_,h⟩:=Xl l
    rw [yF,yG,List.length_append]
    refine ⟨Nat.le_add_left _ _,?_⟩
    cases p with
    | w x =>
      show 1 + _<=2 * (1 + _)
      lia
    | b d ws =>
      show 2 * ws.length + _<=2 * (ws.length + _)
      lia
theorem Tups.put {H H':Hp} (t:Tups H H') {p:Addr} {xs:List V} (h:H' p=some (.lst xs)) (o:HO):Tups H (upd H' p o):=fun z ys hz=>by rw [zk (yi (t _ _ hz) h (by intro z; cases z))]; exact t _ _ hz
theorem Tups.of {H H':Hp} (s:Same H H'):Tups H H':=fun p xs h=>s p _ h
def armP (a:Arm):List Pd:=.w a.tag :: (a.names.map Pd.w ++ [.w ":",.b a.b a.bw])
theorem zad (a:Arm):wss (armP a)=a.words:=by
  unfold armP Arm.words
  rw [yF,wK,jj,yF,yF]
  show a.tag :: (a.names ++ ((":":Str) :: (a.bw ++ [])))=_
  rw [List.append_nil]
theorem Yp (l:List Arm):wss (l.flatMap armP)=l.flatMap Arm.words:=by
  induction l with
  | nil=>rfl
  | cons a l ih=>rw [List.flatMap_cons,List.flatMap_cons,wK,ih,zad]
theorem vc:∀ l:List Arm,(∀ a∈l,a.names.length<=9)->(l.flatMap armP).length<=12 * l.length
  | [],_=>Nat.le_refl _
  | a :: l,h=>by
    have h1:=h a List.mem_cons_self
    have h2:=vc l fun x hx=>h x (List.mem_cons_of_mem _ hx)
    rw [List.flatMap_cons,List.length_append,List.length_cons]
    have h3:(armP a).length=a.names.length + 3:=by
      unfold armP
      simp only [List.length_cons,List.length_append,List.length_map,List.length_nil]
    lia
def X9:Sp:=fun vs H Q _=>∃ (d:D) (v:V) (ws:List Str),vs=[v]/\Is H d v/\DWr d ws/\∀ (H':Hp) (p:Addr),Same H H'->H' p=some (.lst (ws.map V.str))->Q (.ref p) H'
def Wa:Sp:=fun vs H Q _=>∃ (x:Str) (arms:List Arm) (v:V),vs=[v]/\Is H (.tup [.str "case",.str x,.tup (arms.map Arm.dat)]) v/\arms.length<=20/\(∀ a∈arms,a.names.length<=9)/\(∀ a∈arms,Wr a.b a.bw) /\
  ∀ (H':Hp) (p:Addr) (us:List V),Same H H'->H p=none->H' p=some (.lst us)->IsPs H' (.w "case" :: .w x :: (arms.flatMap armP ++ [.w "end"])) us->Q (.ref p) H'
def j9:Sp:=fun vs H Q _=>∃ (d:D) (v:V) (ws:List Str),vs=[v]/\Is H d v/\Wr d ws/\∀ (H':Hp) (p:Addr) (its:List Pd) (us:List V),Same H H'->H p=none->H' p=some (.lst us)->IsPs H' its us->wss its=ws->wts its < 2 * ws.length->Q (.ref p) H'
section
variable {P:Program} {w:World} {K:PySem.W.Frag} {mg:Str->Option Value} {base:Heap} {f:Addr} {fd:FuncData}
theorem zae:FnScope ["deed"] ["deed"] (zn Xc):=⟨rfl,rfl,rfl,by decide +kernel,rfl,by decide +kernel,by decide +kernel⟩
theorem Ju (F:Fun K "deed_words" "deed_words" Xc f fd) (m_str:mg "str"=none) (m_list:mg "list"=none):FnOk P w K mg base CX0 1 f fd ["deed"] X9:=by
  refine F.by zae (fun vs H Q E h=>?_) (fun cdv A outer s H vs Q E hr h=>?_)
  · obtain ⟨d,v,ws,rfl,_⟩:=h
    rfl
  obtain ⟨d,v,ws,rfl,hI,hW,q⟩:=h
  refine ⟨_,
    (zd (zC (zt z7 (zE z9 (jv 0) zg (fun _ _=>rfl)) zj (zw _))
      (zh (zq (zB (ja_c zj (ja_c (yd xA rfl m_str PyProof.Rows.boot_str (ja_c (zE z9 (jv 0) zg (fun _ _=>rfl)) ze)) ze))))) zv)
    (zd (zC (zt z7 (zE z9 (jv 0) zg (fun _ _=>rfl)) zj (zw _))
      (zh (zq (yd xB rfl m_list PyProof.Rows.boot_list (ja_c (zD zbJ (jv 0) (zI zg) zR) ze)))) zv)
    (zh (zq (zp z8 (zp z8 (zB (ja_c (zE z9 (jv 0) zg (fun _ _=>rfl)) (ja_c (zE z9 (jv 0) zg (fun _ _=>rfl)) ze))) (yd xB rfl m_list PyProof.Rows.boot_list (ja_c (zE z9 (jv 0) zg (fun _ _=>rfl)) ze))) (zB (ja_c zj ze))))))),?_⟩
  have sl:=line
  cases hW with
  | @num n hn =>
    cases hI with
    | tup hp hl =>
      cases hl with
      | cons a1 hl =>
        cases hl with
        | cons a2 hl =>
          cases hl; cases a1; cases a2
          refine ⟨_,rfl,_,_,_,_,rfl,rfl,SqT.of hp,rfl,rfl,_,rfl,iteS rfl ?_⟩
          exact ⟨_,rfl,_,_,_,_,rfl,rfl,SqT.of hp,rfl,_,rfl,ZI hn,by show 2<=sizeLine; decide,fun p hp=>q _ _ (zi hp _) zc⟩
  | @op o a b =>
    cases hI with
    | tup hp hl =>
      cases hl with
      | cons a1 hl =>
        cases hl with
        | cons a2 hl =>
          cases hl with
          | cons a3 hl =>
            cases hl with
            | cons a4 hl =>
              cases hl; cases a1; cases a2; cases a3; cases a4
              refine ⟨_,rfl,_,_,_,_,rfl,rfl,SqT.of hp,rfl,rfl,_,rfl,wj (by decide) ?_⟩
              refine ⟨_,rfl,_,_,_,_,rfl,rfl,SqT.of hp,rfl,rfl,_,rfl,iteS rfl ?_⟩
              refine ⟨_,rfl,_,rfl,_,_,rfl,SqT.of hp,(by rintro ⟨z,_⟩; exact absurd z (by show ¬ (min 1 4=0); decide)),fun p1 h1=>?_⟩
              exact ⟨_,_,rfl,.inr (SqT.of zc),fun p2 h2=>q _ _ ((zi h1 _).new h2) zc⟩
  | @names o g ns ho hl9 =>
    cases hI with
    | tup hp hl =>
      cases hl with
      | cons a1 hl =>
        cases hl with
        | cons a2 hl =>
          cases hl with
          | cons a3 hl =>
            cases hl; cases a1; cases a2
            unfold Rd.«strs» at a3
            cases a3 with
            | tup hn hs =>
              have e:=IsL.strsE hs
              subst e
              have n1:o≠"num":=by rintro rfl; revert ho; decide
              have n2:o≠"op":=by rintro rfl; revert ho; decide
              refine ⟨_,rfl,_,_,_,_,rfl,rfl,SqT.of hp,rfl,rfl,_,rfl,wj n1 ?_⟩
              refine ⟨_,rfl,_,_,_,_,rfl,rfl,SqT.of hp,rfl,rfl,_,rfl,wj n2 ?_⟩
              refine ⟨_,rfl,_,_,_,_,rfl,rfl,SqT.of hp,rfl,_,rfl,_,_,_,_,rfl,rfl,SqT.of hp,rfl,by show 2<=sizeLine; decide,fun p1 h1=>?_⟩
              refine ⟨_,rfl,_,_,_,_,rfl,rfl,SqT.of (old h1 hp),rfl,_,_,rfl,.inr (SqT.of (old h1 hn)),fun p2 h2=>?_⟩
              refine ⟨_,_,_,_,rfl,rfl,old h2 zc,zc,by simp; lia,fun p3 h3=>?_⟩
              refine ⟨by show 1<=sizeLine; decide,fun p4 h4=>?_⟩
              refine ⟨_,_,_,_,rfl,rfl,old h4 zc,zc,by simp; lia,fun p5 h5=>?_⟩
              refine q _ _ (((((zi h1 _).new h2).new h3).new h4).new h5) ?_
              rw [zc]
              simp
theorem scCaseW:FnScope ["body","words","tag","names","within"] ["body"] (zn Xb):=⟨rfl,rfl,rfl,by decide +kernel,rfl,by decide +kernel,by decide +kernel⟩
theorem Jv (F:Fun K "case_words" "case_words" Xb f fd) (m_list:mg "list"=none):FnOk P w K mg base CX0 1 f fd ["body"] Wa:=by
  refine F.by scCaseW (fun vs H Q E h=>?_) (fun cdv A outer s H vs Q E hr h=>?_)
  · obtain ⟨x,arms,v,rfl,_⟩:=h
    rfl
  obtain ⟨x,arms,v,rfl,hI,h20,h9,hW,q⟩:=h
  refine ⟨_,
    (zd (zu (i:=1) scCaseW.nd rfl (Or.inl rfl) (zB (ja_c zj (ja_c (zE z9 (jv 0) zg (fun _ _=>rfl)) ze))))
    (zd (y0 PassesOwn.never rfl (Zs (zE z9 (jv 0) zg (fun _ _=>rfl))) (y9 rfl (zQ (zF (i:=2) scCaseW.nd rfl (Or.inl rfl)) (zQ (zF (i:=3) scCaseW.nd rfl (Or.inl rfl)) (zQ (zF (i:=4) scCaseW.nd rfl (Or.inl rfl)) yH))))
      (zh (zM (zZ PySem.F.plainAttrs_list PySem.F.slot_list_extend PySem.F.type_list_extend wO (jv 1) (ja_c (zp z8 (zp z8 (zB (ja_c (jv 2) ze)) (yd xB rfl m_list PyProof.Rows.boot_list (ja_c (jv 3) ze))) (zB (ja_c zj (ja_c (jv 4) ze)))) ze)))))
    (zh (zq (zp z8 (jv 1) (zB (ja_c zj ze))))))),?_⟩
  have sl:=line
  cases hI with
  | tup hp hl =>
    cases hl with
    | cons a1 hl =>
      cases hl with
      | cons a2 hl =>
        cases hl with
        | cons a3 hl =>
          cases hl; cases a1; cases a2
          cases a3 with
          | @tup _ avs pa ha hs =>
            have hlen:=hs.len
            rw [List.length_map] at hlen
            refine ⟨_,rfl,_,_,_,_,rfl,rfl,SqT.of hp,rfl,by show 2<=sizeLine; decide,fun pw hw=>?_⟩
            refine ⟨_,rfl,_,_,_,_,rfl,rfl,SqT.of (old hw hp),rfl,_,rfl,⟨_,SqT.of (old hw ha)⟩,Xw (xs:=avs) (fun i σ H'=>∃ (us:List V) (a b c:Option V),σ=[some (.ref _),some (.ref pw),a,b,c]/\Same H H'/\H' pw=some (.lst us)/\IsPs H' (.w "case" :: .w x :: (arms.take i).flatMap armP) us)
              ⟨_,none,none,none,rfl,zi hw _,zc,.cons (.w _) (.cons (.w _) .nil)⟩ (fun i σ H' _ h=>?_) ?_ ?_⟩
            · obtain ⟨_,_,_,_,_,s1,_⟩:=h
              exact SqT.of (s1 _ _ ha)
            · rintro i y σ H1 hy ⟨us,a,b,c,rfl,s1,hu,hP⟩
              obtain ⟨d,hd,hId⟩:=hs.get hy
              rw [List.getElem?_map] at hd
              obtain ⟨arm,harm,e⟩:=Option.map_eq_some_iff.mp hd
              subst e
              have hmem:arm∈arms:=List.mem_of_getElem? harm
              have hi:i < arms.length:=(List.getElem?_eq_some_iff.mp harm).1
              have hId1:=hId.keep (Tups.of s1)
              unfold Arm.dat at hId1
              cases hId1 with
              | tup hp1 hl1 =>
                cases hl1 with
                | cons b1 hl1 =>
                  cases hl1 with
                  | cons b2 hl1 =>
                    cases hl1 with
                    | @cons _ vb _ _ b3 hl1 =>
                      cases hl1; cases b1
                      unfold Rd.«strs» at b2
                      cases b2 with
                      | tup hn hns =>
                        have e:=IsL.strsE hns
                        subst e
                        have hn9:=h9 arm hmem
                        have hul:=hP.len
                        have hal:=vc (arms.take i) fun z hz=>h9 z (List.mem_of_mem_take hz)
                        rw [List.length_take] at hal
                        rw [List.length_cons,List.length_cons] at hul
                        refine ⟨_,_,rfl,SqT.of hp1,rfl,_,_,rfl,_,_,rfl,_,_,rfl,rfl,?_⟩
                        refine ⟨_,rfl,.inl ⟨rfl,_,SqL.of hu⟩,_,rfl,by show 1<=sizeLine; decide,fun p1 h1=>?_⟩
                        refine ⟨_,rfl,_,_,rfl,.inr (SqT.of (old h1 hn)),fun p2 h2=>?_⟩
                        refine ⟨_,_,_,_,rfl,rfl,old h2 zc,zc,by simp; lia,fun p3 h3=>?_⟩
                        refine ⟨_,rfl,by show 2<=sizeLine; decide,fun p4 h4=>?_⟩
                        refine ⟨_,_,_,_,rfl,rfl,old h4 zc,zc,by simp; lia,fun p5 h5=>?_⟩
                        have s5:=((((zi h1 (.lst [.str arm.tag])).new (o:=.lst (arm.names.map V.str)) h2).new (o:=.lst ([.str arm.tag] ++ arm.names.map V.str)) h3).new (o:=.lst [.str ":",vb]) h4).new (o:=.lst ([.str arm.tag] ++ arm.names.map V.str ++ [.str ":",vb])) h5
                        refine ⟨_,_,_,_,rfl,rfl,s5 _ _ hu,zc,by simp; lia,?_⟩
                        refine ⟨_,_,_,_,rfl,(s1.trans s5).put (by first | exact hw | (cases hq:H pw with | none=>rfl | some o=>exact absurd hw (by rw [hq]; simp))),zc,?_⟩
                        have t5:=(Tups.of s5).put (s5 _ _ hu) (.lst (us ++ ([.str arm.tag] ++ arm.names.map V.str ++ [.str ":",vb])))
                        rw [List.take_add_one,harm,List.flatMap_append]
                        have e2:(Option.some arm).toList.flatMap armP=armP arm:=by simp
                        rw [e2]
                        have k:=(hP.keep t5).app (IsPs.cons (.w arm.tag) ((IsPs.strs (H:=_) arm.names).app (.cons (.w ":") (.cons (.b (b3.keep t5) (hW arm hmem)) .nil))))
                        simpa [armP] using k
            · rintro σ H1 ⟨us,a,b,c,rfl,s1,hu,hP⟩
              rw [<- hlen,List.take_of_length_le (Nat.le_refl _)] at hP
              have hul:=hP.len
              have hal:=vc arms h9
              rw [List.length_cons,List.length_cons] at hul
              refine ⟨_,rfl,by show 1<=sizeLine; decide,fun p1 h1=>?_⟩
              refine ⟨_,_,_,_,rfl,rfl,old h1 hu,zc,by simp; lia,fun p2 h2=>?_⟩
              refine q _ _ _ ((s1.new h1).new h2) ((s1.new h1).free h2) zc ?_
              have k:=(hP.keep (Tups.of ((zi h1 (.lst [.str "end"])).new (o:=.lst (us ++ [.str "end"])) h2))).app (IsPs.cons (.w "end") .nil)
              simpa using k
theorem WS:FnScope ["body"] ["body"] (zn vY):=⟨rfl,rfl,rfl,by decide +kernel,rfl,by decide +kernel,by decide +kernel⟩
theorem Xm (F:Fun K "written" "written" vY f fd) (G_deed_words:Ca P w K mg base CX0 1 "deed_words" ["deed"] X9) (G_case_words:Ca P w K mg base CX0 1 "case_words" ["body"] Wa):FnOk P w K mg base CX0 2 f fd ["body"] j9:=by
  refine F.by WS (fun vs H Q E h=>?_) (fun cdv A outer s H vs Q E hr h=>?_)
  · obtain ⟨d,v,ws,rfl,_⟩:=h
    rfl
  obtain ⟨d,v,ws,rfl,hI,hW,q⟩:=h
  refine ⟨_,
    (zd (zC (zt z7 (zE z9 (jv 0) zg (fun _ _=>rfl)) zj (zw _))
      (zh (zq (zp z8 (zp z8 (zB (ja_c zj (ja_c (zE z9 (jv 0) zg (fun _ _=>rfl)) ze))) (zN G_deed_words hr rfl zJ (ja_c (zE z9 (jv 0) zg (fun _ _=>rfl)) ze))) (zB (ja_c (zE z9 (jv 0) zg (fun _ _=>rfl)) ze))))) zv)
    (zd (zC (zt z7 (zE z9 (jv 0) zg (fun _ _=>rfl)) zj (zw _))
      (zh (zq (zB (ja_c zj (ja_c (zE z9 (jv 0) zg (fun _ _=>rfl)) (ja_c (zE z9 (jv 0) zg (fun _ _=>rfl)) (ja_c zj (ja_c (zE z9 (jv 0) zg (fun _ _=>rfl)) ze)))))))) zv)
    (zd (zC (zt z7 (zE z9 (jv 0) zg (fun _ _=>rfl)) zj (zw _))
      (zh (zq (zN G_case_words hr rfl zJ (ja_c (jv 0) ze)))) zv)
    (zh (zq (zB (ja_c zj (ja_c (zE z9 (jv 0) zg (fun _ _=>rfl)) ze)))))))),?_⟩
  have sl:=line
  cases hW with
  | @give x =>
    cases hI with
    | tup hp hl =>
      cases hl with
      | cons a1 hl =>
        cases hl with
        | cons a2 hl =>
          cases hl; cases a1; cases a2
          refine ⟨_,rfl,_,_,_,_,rfl,rfl,SqT.of hp,rfl,rfl,_,rfl,wj (by decide) ?_⟩
          refine ⟨_,rfl,_,_,_,_,rfl,rfl,SqT.of hp,rfl,rfl,_,rfl,wj (by decide) ?_⟩
          refine ⟨_,rfl,_,_,_,_,rfl,rfl,SqT.of hp,rfl,rfl,_,rfl,wj (by decide) ?_⟩
          exact ⟨_,rfl,_,_,_,_,rfl,rfl,SqT.of hp,rfl,by show 2<=sizeLine; decide,fun p h1=>q _ _ [.w "give",.w x] _ (zi h1 _) h1 zc (.cons (.w _) (.cons (.w _) .nil)) rfl (by show 2 < 2 * 2; decide)⟩
  | @lt x d b dw bw hd hb =>
    cases hI with
    | tup hp hl =>
      cases hl with
      | cons a1 hl =>
        cases hl with
        | cons a2 hl =>
          cases hl with
          | cons a3 hl =>
            cases hl with
            | @cons _ vb _ _ a4 hl =>
              cases hl; cases a1; cases a2
              refine ⟨_,rfl,_,_,_,_,rfl,rfl,SqT.of hp,rfl,rfl,_,rfl,iteS rfl ?_⟩
              refine ⟨_,rfl,_,_,_,_,rfl,rfl,SqT.of hp,rfl,by show 2<=sizeLine; decide,fun p1 h1=>?_⟩
              refine ⟨_,rfl,_,_,_,_,rfl,rfl,SqT.of (old h1 hp),rfl,d,_,dw,rfl,a3.keep (.new h1),hd,fun H2 p2 s2 hp2=>?_⟩
              have few:dw.length<=12:=by cases hd <;> simp <;> lia
              refine ⟨_,_,_,_,rfl,rfl,s2 _ _ zc,hp2,by simp; lia,fun p3 h3=>?_⟩
              have s3:=((zi h1 (.lst [.str "let",.str x])).trans s2).new (o:=.lst ([.str "let",.str x] ++ dw.map V.str)) h3
              refine ⟨_,rfl,_,_,_,_,rfl,rfl,SqT.of (s3 _ _ hp),rfl,by show 1<=sizeLine; decide,fun p4 h4=>?_⟩
              refine ⟨_,_,_,_,rfl,rfl,old h4 zc,zc,by simp; lia,fun p5 h5=>?_⟩
              have sB:=(s3.new (o:=.lst [vb]) h4).new (o:=.lst ([.str "let",.str x] ++ dw.map V.str ++ [vb])) h5
              refine q _ _ (.w "let" :: .w x :: (dw.map Pd.w ++ [.b b bw])) _ sB ((s3.new (o:=.lst [vb]) h4).free h5) zc ?_ ?_ ?_
              · have k:=IsPs.cons (.w "let") (.cons (.w x) ((IsPs.strs dw).app (.cons (.b (a4.keep (Tups.of sB)) hb) .nil)))
                simpa using k
              · rw [yF,yF,wK,jj,yF]
                simp [Pd.ws,wss]
              · rw [yG,yG,ZM,Yo,yG]
                simp [Pd.wt,wts]
                lia
  | @if_ x a b aw bw ha hb =>
    cases hI with
    | tup hp hl =>
      cases hl with
      | cons a1 hl =>
        cases hl with
        | cons a2 hl =>
          cases hl with
          | cons a3 hl =>
            cases hl with
            | cons a4 hl =>
              cases hl; cases a1; cases a2
              refine ⟨_,rfl,_,_,_,_,rfl,rfl,SqT.of hp,rfl,rfl,_,rfl,wj (by decide) ?_⟩
              refine ⟨_,rfl,_,_,_,_,rfl,rfl,SqT.of hp,rfl,rfl,_,rfl,iteS rfl ?_⟩
              refine ⟨_,rfl,_,_,_,_,rfl,rfl,SqT.of hp,rfl,_,rfl,_,_,_,_,rfl,rfl,SqT.of hp,rfl,_,rfl,_,_,_,_,rfl,rfl,SqT.of hp,rfl,by show 5<=sizeLine; decide,fun p1 h1=>?_⟩
              refine q _ _ [.w "if",.w x,.b a aw,.w "else",.b b bw] _ (zi h1 _) h1 zc (.cons (.w _) (.cons (.w _) (.cons (.b (a3.keep (.new h1)) ha) (.cons (.w _) (.cons (.b (a4.keep (.new h1)) hb) .nil))))) ?_ ?_
              · simp [wss,Pd.ws]
              · simp [wts,Pd.wt]
                lia
  | @case x arms h20 h9 hW =>
    have hI0:=hI
    cases hI with
    | tup hp hl =>
      cases hl with
      | cons a1 hl =>
        cases hl with
        | cons a2 hl =>
        cases hl with
        | cons a3 hl =>
        cases hl; cases a1; cases a2
        refine ⟨_,rfl,_,_,_,_,rfl,rfl,SqT.of hp,rfl,rfl,_,rfl,wj (by decide) ?_⟩
        refine ⟨_,rfl,_,_,_,_,rfl,rfl,SqT.of hp,rfl,rfl,_,rfl,wj (by decide) ?_⟩
        refine ⟨_,rfl,_,_,_,_,rfl,rfl,SqT.of hp,rfl,rfl,_,rfl,iteS rfl ?_⟩
        refine ⟨_,rfl,x,arms,_,rfl,hI0,h20,h9,hW,fun H1 p1 us s1 f1 hp1 hP=>?_⟩
        refine q _ _ _ us s1 f1 hp1 hP ?_ ?_
        · rw [yF,yF,wK,Yp]
          simp [wss,Pd.ws]
        · rw [yG,yG,ZM]
          have:=(Xl (arms.flatMap armP)).2
          rw [Yp] at this
          simp only [Pd.wt,wts,List.map_cons,List.map_nil,List.sum_cons,List.sum_nil,List.length_cons,List.length_append,List.length_nil] at this ⊢
          lia
end
end Rdr
namespace Rdr
open PySem L2 K11 Rd
theorem Jw {d:D} {ws:List Str} (h:Wr d ws):(∃ ds,d=.tup ds)/\1<=ws.length:=by
  cases h <;> exact ⟨⟨_,rfl⟩,by simp⟩
theorem IsPs.few {H:Hp} {a:List Pd} {u:List V} (h:IsPs H a u):a.length<=wts a:=by
  induction h with
  | nil=>exact Nat.zero_le _
  | cons x _ ih =>
    rw [yG,List.length_cons]
    cases x with
    | w z =>
      show _<=1 + _
      lia
    | b _ hw =>
      have:=(Jw hw).2
      show _<=2 * _ + _
      lia
theorem Jx:Wd "def":=yS (by decide)
theorem zaU:Wd "=":=yS (by decide)
def Yq:Sp:=fun vs H Q _=>∃ (g:Str) (ns:List Str) (b:D) (ws:List Str) (v:V),vs=[v]/\Is H (.tup [.str g,Rd.«strs» ns,b]) v/\Wr b ws/\ns.length<=9/\ws.length<=2000/\Wd g/\(∀ x∈ns,Wd x)/\(∀ x∈ws,Wd x) /\
  ∀ H',Same H H'->Q (.str (tx (("def":Str) :: g :: (ns ++ ("=":Str) :: ws)))) H'
section
variable {P:Program} {w:World} {K:PySem.W.Frag} {mg:Str->Option Value} {base:Heap} {f:Addr} {fd:FuncData}
theorem scDefRow:FnScope ["one","words","left","piece","part"] ["one"] (zn ZB):=⟨rfl,rfl,rfl,by decide +kernel,rfl,by decide +kernel,by decide +kernel⟩
theorem WT (F:Fun K "def_row" "def_row" ZB f fd) (G_written:Ca P w K mg base CX0 2 "written" ["body"] j9) (m_list:mg "list"=none) (m_len:mg "len"=none) (m_isinstance:mg "isinstance"=none) (m_str:mg "str"=none) (m_reversed:mg "reversed"=none):FnOk P w K mg base CX0 3 f fd ["one"] Yq:=by
  refine F.by scDefRow (fun vs H Q E h=>?_) (fun cdv A outer s H vs Q E hr h=>?_)
  · obtain ⟨g,ns,b,ws,v,rfl,_⟩:=h
    rfl
  obtain ⟨g,ns,b,ws,v,rfl,hI,hW,h9,h2k,hg,hns,hws,q⟩:=h
  refine ⟨_,
    (zd (zu (i:=1) scDefRow.nd rfl (Or.inl rfl) (zp z8 (zp z8 (zB (ja_c zj (ja_c (zE z9 (jv 0) zg (fun _ _=>rfl)) ze))) (yd xB rfl m_list PyProof.Rows.boot_list (ja_c (zE z9 (jv 0) zg (fun _ _=>rfl)) ze))) (zB (ja_c zj ze))))
    (zd (zu (i:=2) scDefRow.nd rfl (Or.inl rfl) (zB (ja_c (zE z9 (jv 0) zg (fun _ _=>rfl)) ze)))
    (zd (xa PassesOwn.never (zt ZZ (zK zy rfl m_len PySem.boot_len (ja_c (jv 2) ze)) zg (zw _))
      (zd (zu (i:=3) scDefRow.nd rfl (Or.inl rfl) (wp PySem.F.plainAttrs_list PySem.F.slot_list_pop PySem.F.type_list_pop wu (jv 2)))
      (zh (zC (yw (zK xo rfl m_isinstance PyProof.Rows.boot_isinstance (ja_c (jv 3) (ja_c (wC (v:=.ty "str") rfl m_str PyProof.Rows.boot_str rfl) ze))))
        (zh (zM (zZ PySem.F.plainAttrs_list PySem.F.slot_list_append PySem.F.type_list_append zY (jv 1) (ja_c (jv 3) ze))))
        (zh (y0 PassesOwn.never rfl (zb7 rfl m_reversed (ja_c (zN G_written hr rfl zJ (ja_c (jv 3) ze)) ze)) (zF (i:=4) scDefRow.nd rfl (Or.inl rfl))
          (zh (zM (zZ PySem.F.plainAttrs_list PySem.F.slot_list_append PySem.F.type_list_append zY (jv 2) (ja_c (jv 4) ze))))))))))
    (zh (zq (zZ PySem.F.plainAttrs_str PySem.F.slot_str_join PySem.F.type_str_join yI zj (ja_c (jv 1) ze))))))),?_⟩
  have sl:=line
  cases hI with
  | tup hp hl =>
    cases hl with
    | cons a1 hl =>
      cases hl with
      | cons a2 hl =>
        cases hl with
        | @cons _ vb _ _ a3 hl =>
          cases hl; cases a1
          unfold Rd.«strs» at a2
          cases a2 with
          | tup hn hs =>
            have e:=IsL.strsE hs
            subst e
            refine ⟨_,rfl,_,_,_,_,rfl,rfl,SqT.of hp,rfl,by show 2<=sizeLine; decide,fun p1 h1=>?_⟩
            refine ⟨_,rfl,_,_,_,_,rfl,rfl,SqT.of (old h1 hp),rfl,_,_,rfl,.inr (SqT.of (old h1 hn)),fun p2 h2=>?_⟩
            refine ⟨_,_,_,_,rfl,rfl,old h2 zc,zc,by simp; lia,fun p3 h3=>?_⟩
            refine ⟨by show 1<=sizeLine; decide,fun p4 h4=>?_⟩
            refine ⟨_,_,_,_,rfl,rfl,old h4 zc,zc,by simp; lia,fun pw h5=>?_⟩
            have s4:=(((zi h1 (.lst [.str "def",.str g])).new (o:=.lst (ns.map V.str)) h2).new (o:=.lst ([.str "def",.str g] ++ ns.map V.str)) h3).new (o:=.lst [.str "="]) h4
            have s5:=s4.new (o:=.lst ([.str "def",.str g] ++ ns.map V.str ++ [.str "="])) h5
            have npw:H pw=none:=s4.free h5
            have hpw:upd (upd (upd (upd (upd H p1 (.lst [.str "def",.str g])) p2 (.lst (ns.map V.str))) p3 (.lst ([.str "def",.str g] ++ ns.map V.str))) p4 (.lst [.str "="])) pw (.lst ([.str "def",.str g] ++ ns.map V.str ++ [.str "="])) pw=some (.lst ((("def":Str) :: g :: (ns ++ [("=":Str)])).map V.str)):=by rw [zc]; simp
            generalize upd (upd (upd (upd (upd H p1 (.lst [.str "def",.str g])) p2 (.lst (ns.map V.str))) p3 (.lst ([.str "def",.str g] ++ ns.map V.str))) p4 (.lst [.str "="])) pw (.lst ([.str "def",.str g] ++ ns.map V.str ++ [.str "="]))=H5 at s5 hpw ⊢
            refine ⟨_,rfl,_,_,_,_,rfl,rfl,SqT.of (s5 _ _ hp),rfl,by show 1<=sizeLine; decide,fun pl h6=>?_⟩
            have npl:H pl=none:=s5.free h6
            have nwl:pw≠pl:=zo hpw h6
            have hpw6:=old (o:=.lst [vb]) h6 hpw
            refine ⟨fun m σ H'=>∃ (its:List Pd) (us:List V) (ds:List Str) (a c:Option V),m=wts its/\σ=[some (.ref _),some (.ref pw),some (.ref pl),a,c]/\Same H H'/\H' pw=some (.lst (ds.map V.str))/\H' pl=some (.lst us.reverse)/\IsPs H' its us/\ds ++ wss its=("def":Str) :: g :: (ns ++ ("=":Str) :: ws),
              ⟨_,[.b b ws],_,_,none,none,rfl,rfl,s5.new h6,hpw6,zc,.cons (.b ((a3.keep (Tups.of s5)).keep (.new h6)) hW) .nil,by simp [wss,Pd.ws]⟩,?_⟩
            rintro m σ H7 ⟨its,us,ds,a,c,rfl,rfl,s7,hw7,hl7,hP,he⟩
            have hlen:=congrArg List.length he
            simp only [List.length_append,List.length_cons] at hlen
            have hwt:=(Xl its).2
            have hfew:=hP.few
            have hul:=hP.len
            refine ⟨_,rfl,_,_,rfl,.inl (SqL.of hl7),_,_,rfl,rfl,_,rfl,?_⟩
            cases hP with
            | nil =>
              refine wk (by simp) ?_
              refine ⟨rfl,_,rfl,_,_,ds,rfl,rfl,SqL.of hw7,?_,?_⟩
              · have e:ds=("def":Str) :: g :: (ns ++ ("=":Str) :: ws):=by simpa [wss] using he
                have hwd:∀ x∈ds,Wd x:=fun x hx=>by
                  rw [e] at hx
                  simp only [List.mem_cons,List.mem_append] at hx
                  rcases hx with z | z | z | z | z
                  · rw [z]; exact Jx
                  · rw [z]; exact hg
                  · exact hns x z
                  · rw [z]; exact zaU
                  · exact hws x z
                have:=xb hwd
                show wide SP ds<=sizeLine
                lia
              · have e:ds=("def":Str) :: g :: (ns ++ ("=":Str) :: ws):=by simpa [wss] using he
                have r:=q _ s7
                rw [<- e] at r
                exact r
            | @cons pd v0 its us hp0 hP =>
              rw [List.reverse_cons] at hl7 ⊢
              refine iteD (by simp) ⟨_,fun _ _ h=>h,?_⟩
              rw [yG] at hfew hwt
              rw [yF] at he hlen hwt
              rw [List.length_cons] at hul hfew
              have hub:us.length<=5000:=by
                rw [List.length_cons] at hul
                lia
              refine ⟨_,rfl,.inl ⟨rfl,_,SqL.of hl7⟩,_,_,_,rfl,rfl,hl7,by simp; rfl,?_⟩
              rw [show (us.reverse ++ [v0]).dropLast=us.reverse by simp]
              have s8:Same H (upd H7 pl (.lst us.reverse)):=s7.put npl
              have t8:Tups H7 (upd H7 pl (.lst us.reverse)):=fun z xs hz=>by rw [zk (yi hz hl7 (by intro z; cases z))]; exact hz
              have hw8:upd H7 pl (.lst us.reverse) pw=some (.lst (ds.map V.str)):=by rw [zk nwl]; exact hw7
              have hl8:upd H7 pl (.lst us.reverse) pl=some (.lst us.reverse):=zc
              have hp8:=hp0.keep t8
              have hP8:=hP.keep t8
              generalize upd H7 pl (.lst us.reverse)=H8 at *
              cases hp8 with
              | w x =>
                refine ⟨_,rfl,_,_,_,_,rfl,.str _,rfl,_,rfl,iteT ?_⟩
                refine ⟨_,rfl,.inl ⟨rfl,_,SqL.of hw8⟩,_,rfl,_,_,_,rfl,rfl,hw8,by rw [List.length_map]; lia,?_⟩
                refine ⟨_,?_,its,us,ds ++ [x],_,_,rfl,rfl,s8.put npw,?_,?_,?_,?_⟩
                · rw [yG]
                  show _ < 1 + _
                  lia
                · rw [zc]
                  simp
                · rw [zk nwl.symm]
                  exact hl8
                · exact hP8.keep fun z xs hz=>by rw [zk (yi hz hw8 (by intro z; cases z))]; exact hz
                · rw [<- he]
                  show ds ++ [x] ++ wss its=ds ++ ([x] ++ wss its)
                  rw [List.append_assoc]
              | @b d bw v0 hd hw =>
                obtain ⟨⟨dd,rfl⟩,_⟩:=Jw hw
                have hd0:=hd
                cases hd with
                | @tup _ vs0 p0 hpp0 hl0 =>
                  refine ⟨_,rfl,_,_,_,_,rfl,.tup hpp0,rfl,_,rfl,iteF ?_⟩
                  refine ⟨_,rfl,_,_,bw,rfl,hd0,hw,fun H9 p9 its9 us9 s9 f9 hp9 hP9 e9 lt9=>?_⟩
                  have hl9:=s9 _ _ hl8
                  have hw9:=s9 _ _ hw8
                  have n9:p9≠pl:=fun z=>by rw [z] at f9; rw [f9] at hl8; cases hl8
                  have hu9:=hP9.len
                  have hf9:=hP9.few
                  have hb2:bw.length<=2100:=by
                    have h:=hlen
                    simp only [Pd.ws,List.length_append] at h
                    lia
                  refine ⟨_,_,rfl,SqL.of hp9,zac (xs:=us9) (fun i σ H'=>∃ (c:Option V),σ=[some (.ref _),some (.ref pw),some (.ref pl),some (.ref p0),c]/\KpS (·=pl) H9 H'/\H' pl=some (.lst (us.reverse ++ us9.reverse.take i)))
                    ⟨_,rfl,.refl,by rw [hl9]; simp⟩ (fun i σ H' _ h=>?_) ?_ ?_⟩
                  · obtain ⟨c,_,k,_⟩:=h
                    exact SqL.of (k _ _ n9 hp9)
                  · rintro i x σ H' hx ⟨c,rfl,k,hl'⟩
                    have hi:i < us9.length:=by
                      have:=(List.getElem?_eq_some_iff.mp hx).1
                      rwa [List.length_reverse] at this
                    refine ⟨_,rfl,.inl ⟨rfl,_,SqL.of hl'⟩,_,rfl,_,_,_,rfl,rfl,hl',?_,?_⟩
                    · rw [List.length_append,List.length_reverse,List.length_take,List.length_reverse]
                      lia
                    · refine ⟨_,rfl,k.trans (.put rfl),?_⟩
                      rw [zc,List.take_add_one,hx,List.append_assoc]
                      rfl
                  · rintro σ H' ⟨c,rfl,k,hl'⟩
                    rw [List.take_of_length_le (by rw [List.length_reverse]; exact Nat.le_refl _),<- List.reverse_append] at hl'
                    have tk:Tups H9 H':=k.tups fun z ez xs=>by rw [ez,hl9]; intro z; cases z
                    refine ⟨_,?_,its9 ++ its,us9 ++ us,ds,_,_,rfl,rfl,?_,k _ _ nwl hw9,hl',?_,?_⟩
                    · rw [ZM,yG]
                      show _ < 2 * bw.length + _
                      lia
                    · intro z o hz
                      refine k _ _ (fun ez=>?_) (s9 _ _ (s8 _ _ hz))
                      rw [ez,npl] at hz
                      cases hz
                    · exact (hP9.keep tk).app ((hP8.keep (Tups.of s9)).keep tk)
                    · rw [wK,e9,<- he]
                      rfl
end
end Rdr
namespace Rdr
open PySem L2 K11 Rd
def xT (l:List (Str × Int)):List Str:="kind" :: l.flatMap fun p=>[p.1,Str.ofString (toString p.2)]
def KRow (k:D) (ws:List Str):Prop:=∃ l:List (Str × Int),k=.tup (l.map fun p=>.tup [.str p.1,.int p.2])/\ws=xT l/\l.length<=200/\∀ p∈l,Wd p.1/\0<=p.2/\p.2<=9
def DRow (d:D) (ws:List Str):Prop:=∃ (g:Str) (ns:List Str) (b:D) (bw:List Str),d=.tup [.str g,Rd.«strs» ns,b]/\ws=("def":Str) :: g :: (ns ++ ("=":Str) :: bw)/\Wr b bw/\ns.length<=9/\bw.length<=2000/\Wd g/\(∀ x∈ns,Wd x)/\∀ x∈bw,Wd x
theorem Jy {n:Int} (h0:0<=n) (h9:n<=9):Wd (Str.ofString (toString n)):=w4 (yK (n:=n) (by lia)).1
theorem KRow.wds {k:D} {ws:List Str} (h:KRow k ws):(∀ x∈ws,Wd x)/\ws.length<=2100:=by
  obtain ⟨l,_,rfl,hl,hw⟩:=h
  unfold xT
  refine ⟨fun x hx=>?_,?_⟩
  · simp only [List.mem_cons,List.mem_flatMap,List.not_mem_nil,or_false] at hx
    rcases hx with e | ⟨p,hp,e | e⟩
    · rw [e]; exact yS (by decide)
    · rw [e]; exact (hw p hp).1
    · rw [e]; exact Jy (hw p hp).2.1 (hw p hp).2.2
  · have:∀ m:List (Str × Int),(m.flatMap fun p=>[p.1,Str.ofString (toString p.2)]).length=2 * m.length:=fun m=>by
      induction m with
      | nil=>rfl
      | cons a m ih=>rw [List.flatMap_cons,List.length_append,ih,List.length_cons]; simp; lia
    rw [List.length_cons,this]
    lia
theorem DRow.wds {k:D} {ws:List Str} (h:DRow k ws):(∀ x∈ws,Wd x)/\ws.length<=2100:=by
  obtain ⟨g,ns,b,bw,_,rfl,_,h9,h2,hg,hn,hb⟩:=h
  refine ⟨fun x hx=>?_,by simp only [List.length_cons,List.length_append]; lia⟩
  simp only [List.mem_cons,List.mem_append] at hx
  rcases hx with z | z | z | z | z
  · rw [z]; exact Jx
  · rw [z]; exact hg
  · exact hn x z
  · rw [z]; exact zaU
  · exact hb x z
theorem Za:∀ rows:List (List Str),(∀ ws∈rows,(∀ x∈ws,Wd x)/\ws.length<=2100)->wide NL (rows.map tx)<=69301 * rows.length
  | [],_=>by decide
  | ws :: r,h=>by
    have ih:=Za r fun x hx=>h x (List.mem_cons_of_mem _ hx)
    obtain ⟨h1,h2⟩:=h ws List.mem_cons_self
    have tl:=wy h1
    have s1:NL.length=1:=by decide
    unfold wide at ih ⊢
    rw [List.map_cons,List.map_cons,List.sum_cons,List.length_cons,List.length_cons,s1]
    rw [s1] at ih
    lia
def Each (R:D->List Str->Prop):List D->List (List Str)->Prop
  | [],[]=>True
  | d :: ds,w :: ws=>R d w/\Each R ds ws
  | _,_=>False
theorem Each.len {R:D->List Str->Prop}:∀ {ds:List D} {ws:List (List Str)},Each R ds ws->ds.length=ws.length
  | [],[],_=>rfl
  | d :: ds,w :: ws,h=>by rw [List.length_cons,List.length_cons,Each.len h.2]
  | [],_ :: _,h=>h.elim
  | _ :: _,[],h=>h.elim
theorem Each.get {R:D->List Str->Prop}:∀ {ds:List D} {ws:List (List Str)} {i:Nat} {d:D},Each R ds ws->ds[i]?=some d->∃ w,ws[i]?=some w/\R d w
  | [],_,_,_,_,e=>by simp at e
  | d :: ds,w :: ws,0,_,h,e=>by
    simp at e
    subst e
    exact ⟨w,rfl,h.1⟩
  | d :: ds,w :: ws,i + 1,d',h,e=>by
    obtain ⟨w',h1,h2⟩:=Each.get (i:=i) h.2 (by simpa using e)
    exact ⟨w',by simpa using h1,h2⟩
  | _ :: _,[],_,_,h,_=>h.elim
theorem Each.all {R:D->List Str->Prop}:∀ {ds:List D} {ws:List (List Str)},Each R ds ws->∀ w∈ws,∃ d∈ds,R d w
  | [],[],_,w,hw=>by cases hw
  | d :: ds,w :: ws,h,x,hx=>by
    rcases List.mem_cons.mp hx with e | hx
    · rw [e]; exact ⟨d,List.mem_cons_self,h.1⟩
    · obtain ⟨d',h1,h2⟩:=Each.all h.2 x hx
      exact ⟨d',List.mem_cons_of_mem _ h1,h2⟩
  | [],_ :: _,h,_,_=>h.elim
  | _ :: _,[],h,_,_=>h.elim
def Zb:Sp:=fun vs H Q _=>∃ (k:D) (ws:List Str) (v:V),vs=[v]/\Is H k v/\KRow k ws/\∀ H',Same H H'->Q (.str (tx ws)) H'
def Wb:Sp:=fun vs H Q _=>∃ (ks ds:List D) (kws dws:List (List Str)) (v:V),vs=[v]/\Is H (.tup [.tup ks,.tup ds]) v/\Each KRow ks kws/\Each DRow ds dws/\ks.length + ds.length<=200/\∀ H',Same H H'->Q (.str (Str.join NL ((kws ++ dws).map tx))) H'
section
variable {P:Program} {w:World} {K:PySem.W.Frag} {mg:Str->Option Value} {base:Heap} {f:Addr} {fd:FuncData}
theorem scKindRow:FnScope ["kind","words","tag","size"] ["kind"] (zn vX):=⟨rfl,rfl,rfl,by decide +kernel,rfl,by decide +kernel,by decide +kernel⟩
theorem Xn (F:Fun K "kind_row" "kind_row" vX f fd) (m_str:mg "str"=none):FnOk P w K mg base CX0 1 f fd ["kind"] Zb:=by
  refine F.by scKindRow (fun vs H Q E h=>?_) (fun cdv A outer s H vs Q E hr h=>?_)
  · obtain ⟨k,ws,v,rfl,_⟩:=h
    rfl
  obtain ⟨k,ws,v,rfl,hI,hK,q⟩:=h
  refine ⟨_,
    (zd (zu (i:=1) scKindRow.nd rfl (Or.inl rfl) (zB (ja_c zj ze)))
    (zd (y0 PassesOwn.never rfl (Zs (jv 0)) (y9 rfl (zQ (zF (i:=2) scKindRow.nd rfl (Or.inl rfl)) (zQ (zF (i:=3) scKindRow.nd rfl (Or.inl rfl)) yH)))
      (zh (zM (zZ PySem.F.plainAttrs_list PySem.F.slot_list_extend PySem.F.type_list_extend wO (jv 1) (ja_c (zB (ja_c (jv 2) (ja_c (yd xA rfl m_str PyProof.Rows.boot_str (ja_c (jv 3) ze)) ze))) ze)))))
    (zh (zq (zZ PySem.F.plainAttrs_str PySem.F.slot_str_join PySem.F.type_str_join yI zj (ja_c (jv 1) ze)))))),?_⟩
  have sl:=line
  have hwd:=hK.wds
  obtain ⟨l,rfl,rfl,hl,hw⟩:=hK
  cases hI with
  | @tup _ vs0 p0 hp hs =>
    have hlen:=hs.len
    rw [List.length_map] at hlen
    refine ⟨by show 1<=sizeLine; decide,fun pw h1=>?_⟩
    refine ⟨_,rfl,_,rfl,⟨_,SqT.of (old h1 hp)⟩,Xw (xs:=vs0) (fun i σ H'=>∃ (a b:Option V),σ=[some (.ref p0),some (.ref pw),a,b]/\Same H H'/\H' pw=some (.lst ((xT (l.take i)).map V.str)))
      ⟨none,none,rfl,zi h1 _,zc⟩ (fun i σ H' _ h=>?_) ?_ ?_⟩
    · obtain ⟨_,_,_,s1,_⟩:=h
      exact SqT.of (s1 _ _ hp)
    · rintro i y σ H1 hy ⟨a,b,rfl,s1,hu⟩
      obtain ⟨d,hd,hId⟩:=hs.get hy
      rw [List.getElem?_map] at hd
      obtain ⟨pr,hpr,e⟩:=Option.map_eq_some_iff.mp hd
      subst e
      have hmem:pr∈l:=List.mem_of_getElem? hpr
      have hi:i < l.length:=(List.getElem?_eq_some_iff.mp hpr).1
      have hId1:=hId.keep (Tups.of s1)
      have k1:(xT (l.take i)).length<=401:=by
        have:∀ m:List (Str × Int),(m.flatMap fun p=>[p.1,Str.ofString (toString p.2)]).length=2 * m.length:=fun m=>by
          induction m with
          | nil=>rfl
          | cons a m ih=>rw [List.flatMap_cons,List.length_append,ih,List.length_cons]; simp; lia
        unfold xT
        rw [List.length_cons,this,List.length_take]
        lia
      cases hId1 with
      | tup hp1 hl1 =>
        cases hl1 with
        | cons b1 hl1 =>
          cases hl1 with
          | cons b2 hl1 =>
            cases hl1; cases b1; cases b2
            have hb:=hw pr hmem
            refine ⟨_,_,rfl,SqT.of hp1,rfl,_,_,rfl,_,_,rfl,rfl,?_⟩
            refine ⟨_,rfl,.inl ⟨rfl,_,SqL.of hu⟩,_,rfl,_,rfl,_,rfl,ZI (by lia),by show 2<=sizeLine; decide,fun p1 h2=>?_⟩
            refine ⟨_,_,_,_,rfl,rfl,old h2 hu,zc,by simp; lia,?_⟩
            refine ⟨_,_,rfl,(s1.new h2).put h1,?_⟩
            rw [zc,List.take_add_one,hpr]
            simp [xT]
    · rintro σ H1 ⟨a,b,rfl,s1,hu⟩
      rw [<- hlen,List.take_of_length_le (Nat.le_refl _)] at hu
      refine ⟨rfl,_,rfl,_,_,xT l,rfl,rfl,SqL.of hu,?_,q _ s1⟩
      have:=xb hwd.1
      show wide SP (xT l)<=sizeLine
      lia
theorem scShown:FnScope ["program","rows"] ["program"] (zn Y9):=⟨rfl,rfl,rfl,by decide +kernel,rfl,by decide +kernel,by decide +kernel⟩
theorem zcH:(["program","rows","kind"]:List Str).Nodup:=by decide +kernel
theorem zcI:(["program","rows","one"]:List Str).Nodup:=by decide +kernel
theorem Jz (F:Fun K "shown" "shown" Y9 f fd) (G_kind_row:Ca P w K mg base CX0 3 "kind_row" ["kind"] Zb) (G_def_row:Ca P w K mg base CX0 3 "def_row" ["one"] Yq):FnOk P w K mg base CX0 4 f fd ["program"] Wb:=by
  refine F.by scShown (fun vs H Q E h=>?_) (fun cdv A outer s H vs Q E hr h=>?_)
  · obtain ⟨ks,ds,kws,dws,v,rfl,_⟩:=h
    rfl
  obtain ⟨ks,ds,kws,dws,v,rfl,hI,hK,hD,hn,q⟩:=h
  refine ⟨_,
    (zd (zu (i:=1) scShown.nd rfl (Or.inl rfl) (zp z8 (vy ["kind"] rfl (Zs (zE z9 (jv 0) zg (fun _ _=>rfl))) (fun _ _ _ _ _=>(zF (i:=2) zcH rfl (Or.inl rfl))) (fun _ _ _ _ _=>vx) (fun _ _ _ _ _=>(zN G_kind_row hr rfl zJ (ja_c (jv 2) ze)))) (vy ["one"] rfl (Zs (zE z9 (jv 0) zg (fun _ _=>rfl))) (fun _ _ _ _ _=>(zF (i:=2) zcI rfl (Or.inl rfl))) (fun _ _ _ _ _=>vx) (fun _ _ _ _ _=>(zN G_def_row hr rfl zJ (ja_c (jv 2) ze))))))
    (zh (zq (zZ PySem.F.plainAttrs_str PySem.F.slot_str_join PySem.F.type_str_join yI zj (ja_c (jv 1) ze))))),?_⟩
  have sl:=line
  cases hI with
  | @tup _ vs0 p0 hp hs =>
    cases hs with
    | cons a1 hs =>
      cases hs with
      | cons a2 hs =>
        cases hs
        cases a1 with
        | @tup _ kv pk hpk hks =>
          cases a2 with
          | @tup _ dv pd hpd hds =>
            have kl:=hks.len
            have dl:=hds.len
            have kl2:=hK.len
            have dl2:=hD.len
            refine ⟨_,rfl,_,_,_,_,rfl,rfl,SqT.of hp,rfl,_,rfl,⟨_,SqT.of hpk⟩,Jt (xs:=kv) (fun i τ ys H'=>Same H H'/\(∃ x,τ=[some (.ref p0),none,x])/\ys=(kws.take i).map fun ws=>V.str (tx ws)) ⟨Same.refl _,⟨none,rfl⟩,rfl⟩ (fun i τ ys H' _ h=>SqT.of (h.1 _ _ hpk)) ?_ ?_⟩
            · rintro i x τ ys H1 hx ⟨s1,⟨y,rfl⟩,rfl⟩
              obtain ⟨d,hd,hId⟩:=hks.get hx
              obtain ⟨ws,hws,hR⟩:=hK.get hd
              have hi:i < kws.length:=(List.getElem?_eq_some_iff.mp hws).1
              refine ⟨_,rfl,d,ws,x,rfl,hId.keep (Tups.of s1),hR,fun H2 s2=>⟨?_,s1.trans s2,⟨_,rfl⟩,?_⟩⟩
              · rw [List.length_map,List.length_take]
                lia
              · exact (v7 (fun ws=>V.str (tx ws)) hws)
            · rintro τ ys H1 ⟨s1,_,rfl⟩ p1 h1
              rw [<- kl,kl2,List.take_of_length_le (Nat.le_refl _)]
              have s1':=s1.new (o:=.lst (kws.map fun ws=>V.str (tx ws))) h1
              have hp1:upd H1 p1 (.lst (kws.map fun ws=>V.str (tx ws))) p1=_:=zc
              generalize upd H1 p1 (.lst (kws.map fun ws=>V.str (tx ws)))=H2 at *
              refine ⟨_,rfl,_,_,_,_,rfl,rfl,SqT.of (s1' _ _ hp),rfl,_,rfl,⟨_,SqT.of (s1' _ _ hpd)⟩,Jt (xs:=dv) (fun i τ ys H'=>Same H2 H'/\(∃ x,τ=[some (.ref p0),none,x])/\ys=(dws.take i).map fun ws=>V.str (tx ws)) ⟨Same.refl _,⟨none,rfl⟩,rfl⟩ (fun i τ ys H' _ h=>SqT.of (h.1 _ _ (s1' _ _ hpd))) ?_ ?_⟩
              · rintro i x τ ys H3 hx ⟨s3,⟨y,rfl⟩,rfl⟩
                obtain ⟨d,hd,hId⟩:=hds.get hx
                obtain ⟨ws,hws,hR⟩:=hD.get hd
                have hi:i < dws.length:=(List.getElem?_eq_some_iff.mp hws).1
                obtain ⟨g,ns,b,bw,rfl,rfl,hW,h9,h2,hg,hns,hbw⟩:=hR
                refine ⟨_,rfl,g,ns,b,bw,x,rfl,hId.keep (Tups.of (s1'.trans s3)),hW,h9,h2,hg,hns,hbw,fun H4 s4=>⟨?_,s3.trans s4,⟨_,rfl⟩,?_⟩⟩
                · rw [List.length_map,List.length_take]
                  lia
                · exact (v7 (fun ws=>V.str (tx ws)) hws)
              · rintro τ ys H3 ⟨s3,_,rfl⟩ p2 h2
                rw [<- dl,dl2,List.take_of_length_le (Nat.le_refl _)]
                refine ⟨_,_,_,_,rfl,rfl,old h2 (s3 _ _ hp1),zc,by simp; lia,fun p3 h3=>?_⟩
                refine ⟨rfl,_,rfl,_,_,(kws ++ dws).map tx,rfl,rfl,SqL.of ?_,?_,q _ (((s1'.trans s3).new h2).new h3)⟩
                · rw [zc,List.map_map,List.map_append]
                  rfl
                · have:=Za (kws ++ dws) fun ws hws=>by
                    rcases List.mem_append.mp hws with z | z
                    · obtain ⟨d,_,h⟩:=hK.all ws z
                      exact h.wds
                    · obtain ⟨d,_,h⟩:=hD.all ws z
                      exact h.wds
                  rw [List.length_append] at this
                  show wide NL _<=sizeLine
                  lia
end
end Rdr
namespace Rdr
open PySem L2 K11 Rd
def JA (p:Str × Int):D:=.tup [.str p.1,.int p.2]
def vq (p:Str × Int):List Str:=[p.1,Str.ofString (toString p.2)]
structure PairG (p:Str × Int):Prop where
  nm:zx p.1=true
  lo:0<=p.2
  hi:p.2<=9
def KGood (k:D) (ws:List Str):Prop:=∃ (p:Str × Int) (l:List (Str × Int)),k=.tup ((p :: l).map JA)/\ws=("kind":Str) :: (p :: l).flatMap vq/\(∀ q∈p :: l,PairG q)/\l.length<=99
def DGood (d:D) (ws:List Str):Prop:=∃ (g:Str) (ns:List Str) (b:D) (bw:List Str),d=.tup [.str g,Rd.«strs» ns,b]/\ws=("def":Str) :: g :: (ns ++ ("=":Str) :: bw)/\zx g=true/\(∀ x∈ns,zx x=true)/\ns.length<=9/\Good b bw/\bw.length<=400
theorem KGood.row {k:D} {ws:List Str} (h:KGood k ws):KRow k ws:=by
  obtain ⟨p,l,rfl,rfl,hg,hl⟩:=h
  exact ⟨p :: l,rfl,rfl,by rw [List.length_cons]; lia,fun q hq=>⟨(zS (hg q hq).nm).1,(hg q hq).lo,(hg q hq).hi⟩⟩
theorem DGood.row {k:D} {ws:List Str} (h:DGood k ws):DRow k ws:=by
  obtain ⟨g,ns,b,bw,rfl,rfl,hg,hn,h9,hG,hb⟩:=h
  exact ⟨g,ns,b,bw,rfl,rfl,hG.wr,h9,by lia,(zS hg).1,fun x hx=>(zS (hn x hx)).1,hG.word⟩
theorem Each.imp {R S:D->List Str->Prop} (h:∀ d w,R d w->S d w):∀ {ds:List D} {ws:List (List Str)},Each R ds ws->Each S ds ws
  | [],[],_=>True.intro
  | d :: ds,w :: ws,e=>⟨h d w e.1,Each.imp h e.2⟩
  | [],_ :: _,e=>e.elim
  | _ :: _,[],e=>e.elim
theorem Each.snoc {R:D->List Str->Prop} {d:D} {w:List Str} (h:R d w):∀ {ds:List D} {ws:List (List Str)},Each R ds ws->Each R (ds ++ [d]) (ws ++ [w])
  | [],[],_=>⟨h,True.intro⟩
  | d :: ds,w :: ws,e=>⟨e.1,Each.snoc h e.2⟩
  | [],_ :: _,e=>e.elim
  | _ :: _,[],e=>e.elim
theorem KGood.ne {k:D} {ws:List Str} (h:KGood k ws):∃ x r,ws=x :: r/\x≠("":Str):=by
  obtain ⟨p,l,rfl,rfl,hg,hl⟩:=h
  exact ⟨_,_,rfl,by decide⟩
theorem DGood.ne {k:D} {ws:List Str} (h:DGood k ws):∃ x r,ws=x :: r/\x≠("":Str):=by
  obtain ⟨g,ns,b,bw,rfl,rfl,_⟩:=h
  exact ⟨_,_,rfl,by decide⟩
structure RowW (ws:List Str):Prop where
  wd:∀ x∈ws,Wd x
  ne:∃ x r,ws=x :: r/\x≠("":Str)
  few:ws.length<=2000
theorem KGood.rw {k:D} {ws:List Str} (h:KGood k ws):RowW ws:=by
  refine ⟨h.row.wds.1,h.ne,?_⟩
  obtain ⟨p,l,rfl,rfl,hg,hl⟩:=h
  have:∀ m:List (Str × Int),(m.flatMap vq).length=2 * m.length:=fun m=>by
    induction m with
    | nil=>rfl
    | cons a m ih =>
      rw [List.flatMap_cons,List.length_append,ih,List.length_cons]
      have:(vq a).length=2:=rfl
      lia
  rw [List.length_cons,this,List.length_cons]
  lia
theorem DGood.rw {k:D} {ws:List Str} (h:DGood k ws):RowW ws:=by
  refine ⟨h.row.wds.1,h.ne,?_⟩
  obtain ⟨g,ns,b,bw,rfl,rfl,_,_,h9,_,hb⟩:=h
  simp only [List.length_cons,List.length_append]
  lia
theorem zb8 {ws:List Str} (h:RowW ws):10 ∉ cl (tx ws):=fun m=>by
  have m':10∈cl (Str.join (sg 32) ws):=by rw [<- X2]; exact m
  rcases Z5 m' with e | ⟨x,hx,hd⟩
  · exact absurd e (by decide)
  · exact (h.wd x hx).nl hd
theorem Wc:∀ zs:List Str,(Str.join NL zs).length<=(zs.map (·.length)).sum + zs.length
  | []=>by decide
  | [z]=>by
    show z.length<=_
    simp
  | z :: y :: r=>by
    have ih:=Wc (y :: r)
    have e:=congrArg List.length (zW (sep:=NL) (x:=z) (y:=y) (r:=r))
    rw [List.length_append,List.length_append,ye,ye,ye,ye] at e
    have s1:NL.length=1:=by decide
    rw [s1] at e
    rw [e]
    rw [List.map_cons,List.sum_cons,List.length_cons]
    lia
theorem Yr:∀ rows:List (List Str),(∀ ws∈rows,RowW ws)->((rows.map tx).map (·.length)).sum<=33 * rows.flatten.length
  | [],_=>by decide
  | ws :: r,h=>by
    have ih:=Yr r fun x hx=>h x (List.mem_cons_of_mem _ hx)
    have tl:=wy (h ws List.mem_cons_self).wd
    rw [List.map_cons,List.map_cons,List.sum_cons,List.flatten_cons,List.length_append]
    lia
theorem zaf {rows:List (List Str)} (h:∀ ws∈rows,RowW ws) (hl:rows.flatten.length<=3000) (h100:rows.length<=100):(ya (Str.join NL (rows.map tx))).map yy=rows/\Fit (Str.join NL (rows.map tx)):=by
  have e1:ya (Str.join NL (rows.map tx))=rows.map tx:=by
    cases rows with
    | nil =>
      unfold ya
      rw [if_pos (by decide)]
      rfl
    | cons ws r =>
      unfold ya
      have ne:Str.join NL ((ws :: r).map tx)≠"":=fun e=>by
        obtain ⟨x,q,e2,hx⟩:=(h ws List.mem_cons_self).ne
        have hn:tx ws≠"":=by
          rw [e2]
          exact Xk hx
        cases r with
        | nil=>exact hn e
        | cons v r =>
          have e3:=congrArg cl e
          rw [List.map_cons,List.map_cons,zW] at e3
          have e4:cl (tx ws)=[]:=(List.append_eq_nil_iff.mp e3).1
          exact hn (y7 e4)
      rw [if_neg ne,zcG]
      refine vT (by simp) fun x hx=>?_
      obtain ⟨vs,hv,rfl⟩:=List.mem_map.mp hx
      exact zb8 (h vs hv)
  have e2:(rows.map tx).map yy=rows:=by
    rw [List.map_map]
    refine (List.map_congr_left fun ws hws=>?_).trans (List.map_id _)
    obtain ⟨x,q,e2,hx⟩:=(h ws hws).ne
    exact wJ (by rw [e2]; simp) (h ws hws).wd
  have jl:=Wc (rows.map tx)
  have tl:=Yr rows h
  rw [List.length_map] at jl
  refine ⟨by rw [e1,e2],by lia,fun l hl=>?_,fun l hl x hx=>?_⟩
  · rw [e1] at hl
    obtain ⟨vs,hv,rfl⟩:=List.mem_map.mp hl
    have:=wy (h vs hv).wd
    have:=(h vs hv).few
    lia
  · rw [e1] at hl
    obtain ⟨vs,hv,rfl⟩:=List.mem_map.mp hl
    obtain ⟨y,q,e2,_⟩:=(h vs hv).ne
    rw [show yy (tx vs)=vs from wJ (by rw [e2]; simp) (h vs hv).wd] at hx
    have:=((h vs hv).wd x hx).len
    lia
end Rdr
namespace Rdr
open PySem L2 K11 Rd
mutual
def pB:Nat->List Str->Option (D × List Str)
  | 0,_=>none
  | _ + 1,[]=>none
  | n + 1,w :: r =>
    if w="give" then (zr LX r).map fun p=>(.tup [.str "give",.str p.1],p.2)
    else if w="let" then (zr LX r).bind fun p=>(deed LX p.2).bind fun q=>(pB n q.2).map fun b=>(.tup [.str "let",.str p.1,q.1,b.1],b.2)
    else if w="if" then (zr LX r).bind fun p=>(pB n p.2).bind fun a=>match a.2 with
      | []=>none
      | e :: r'=>if e="else" then (pB n r').map fun b=>(.tup [.str "if",.str p.1,a.1,b.1],b.2) else none
    else if w="case" then (zr LX r).bind fun p=>(pA n [] p.2).map fun q=>(.tup [.str "case",.str p.1,.tup q.1],q.2)
    else none
def pA:Nat->List D->List Str->Option (List D × List Str)
  | 0,_,_=>none
  | n + 1,done,r=>(head LX r).bind fun h=>(pB n h.2).bind fun b=>match b.2 with
    | []=>none
    | e :: r'=>if e="end" then some (done ++ [.tup [.str h.1.1,Rd.«strs» h.1.2,b.1]],r')
      else if done.length + 1 < 20 then pA n (done ++ [.tup [.str h.1.1,Rd.«strs» h.1.2,b.1]]) (e :: r') else none
end
def zcJ (r:List Str):Prop:=∀ st:List Fr,∃ n,Runs LX n ⟨st,none,r⟩ none
theorem Goes.fails {n:Nat} {s s':S} {m:Nat} (g:Goes LX n s s') (h:Runs LX m s' none):∃ k,Runs LX k s none:=g.runs h
theorem yC {st:List Fr} {r:List Str} (h:zU LX st r=none):∃ n,Runs LX n ⟨st,none,r⟩ none:=⟨0,.fail (.inl rfl) h⟩
theorem jk {st:List Fr} {r:List Str} {s:S} (h:zU LX st r=some s) (g:∃ n,Runs LX n s none):∃ n,Runs LX n ⟨st,none,r⟩ none:=let ⟨n,g⟩:=g; ⟨n + 1,.turn (.inl rfl) h g⟩
theorem We {b:D} {f:Fr} {st:List Fr} {r:List Str} {s:S} (h:fill LX b st f r=some s) (g:∃ n,Runs LX n s none):∃ n,Runs LX n ⟨f :: st,some b,r⟩ none:=let ⟨n,g⟩:=g; ⟨n + 1,.turn (.inr (by simp)) h g⟩
theorem xr {b:D} {f:Fr} {st:List Fr} {r:List Str} (h:fill LX b st f r=none):∃ n,Runs LX n ⟨f :: st,some b,r⟩ none:=⟨0,.fail (.inr (by simp)) h⟩
theorem z6 {r r':List Str} {x:Str} (h:zr LX r=some (x,r')):r=x :: r'/\zx x=true:=by
  cases r with
  | nil=>cases h
  | cons w t =>
    have h:(if zx w=true then some (w,t) else none)=some (x,r'):=h
    by_cases c:zx w=true
    · rw [if_pos c] at h
      cases h
      exact ⟨rfl,c⟩
    · rw [if_neg c] at h
      cases h
theorem yJ {stop:Str}:∀ {r acc ns r':List Str},zO LX stop acc r=some (ns,r')->acc.length<=9->∃ ms,ns=acc ++ ms/\r=ms ++ stop :: r'/\(∀ x∈ms,zx x=true)/\ns.length<=9
  | [],acc,ns,r',h,_=>by cases h
  | w :: r,acc,ns,r',h,hl=>by
    unfold zO at h
    split at h
    · rename_i e
      cases h
      exact ⟨[],(List.append_nil _).symm,by rw [e]; rfl,(fun x hx=>by cases hx),hl⟩
    · split at h
      · rename_i c
        obtain ⟨ms,h1,h2,h3,h4⟩:=yJ h (by rw [List.length_append,List.length_singleton]; lia)
        exact ⟨w :: ms,by rw [h1,List.append_assoc]; rfl,by rw [h2]; rfl,fun x hx=>(List.mem_cons.mp hx).elim (fun e=>by rw [e]; exact c.2) (h3 x),h4⟩
      · cases h
theorem vf {r r':List Str} {t:Str} {ns:List Str} (h:head LX r=some ((t,ns),r')):r=t :: (ns ++ (":":Str) :: r')/\zx t=true/\(∀ x∈ns,zx x=true)/\ns.length<=9:=by
  unfold head at h
  obtain ⟨⟨x,r1⟩,h1,h2⟩:=Option.bind_eq_some_iff.mp h
  obtain ⟨⟨ms,r2⟩,h3,h4⟩:=Option.map_eq_some_iff.mp h2
  cases h4
  obtain ⟨e1,e2⟩:=z6 h1
  obtain ⟨ks,f1,f2,f3,f4⟩:=yJ h3 (Nat.zero_le _)
  rw [List.nil_append] at f1
  subst f1
  dsimp only at f2
  exact ⟨by rw [e1,f2],e2,f3,f4⟩
end Rdr
namespace Rdr
open PySem L2 K11 Rd
theorem JB {α:Type} {p:List α->Prop} (h0:p []) (h1:∀ l a,p l->p (l ++ [a])) (l:List α):p l:=by
  have:∀ k:List α,p k.reverse:=by
    intro k
    induction k with
    | nil=>exact h0
    | cons a k ih=>rw [List.reverse_cons]; exact h1 _ _ ih
  have:=this l.reverse
  rwa [List.reverse_reverse] at this
theorem zag:∀ d:Nat,d < 10->(Nat.digitChar d).toNat=48 + d:=by decide
theorem WU (l:List Nat):l≠[]->NumText.AllDigits l->l.head?≠some 48->∃ m:Nat,m≠0/\(Nat.toDigits 10 m).map Char.toNat=l:=by
  refine JB (p:=fun l=>l≠[]->NumText.AllDigits l->l.head?≠some 48->∃ m:Nat,m≠0/\(Nat.toDigits 10 m).map Char.toNat=l) (fun h=>absurd rfl h) (fun l a ih _ ha hz=>?_) l
  have hd:=ha a (by simp)
  have da:=zag (a - 48) (by lia)
  by_cases hl:l=[]
  · subst hl
    have:a≠48:=fun e=>hz (by rw [e]; rfl)
    refine ⟨a - 48,by lia,?_⟩
    rw [Nat.toDigits_of_lt_base (by lia),List.map_singleton,da,show 48 + (a - 48)=a by lia]
    rfl
  · obtain ⟨m,m0,e⟩:=ih hl (fun c hc=>ha c (by simp [hc])) (fun e=>hz (by
      cases l with
      | nil=>exact absurd rfl hl
      | cons b l=>exact e))
    refine ⟨10 * m + (a - 48),by lia,?_⟩
    rw [Nat.toDigits_of_base_le (by decide) (by lia),List.map_append,show (10 * m + (a - 48)) / 10=m by lia,show (10 * m + (a - 48)) % 10=a - 48 by lia,e,List.map_singleton,da,show 48 + (a - 48)=a by lia]
theorem jm {m:Nat} (h:((Nat.toDigits 10 m).map Char.toNat).length<=30):m < 10 ^ 30:=by
  rw [List.length_map] at h
  exact (Nat.length_toDigits_le_iff (by decide) (by decide)).mp h
theorem JC {z:Str} (h:zH z=true):∃ n:Int,n.natAbs < 10 ^ 30/\z=Str.ofString (toString n)/\yB z=n:=by
  obtain ⟨⟨h1,h2⟩,h3,h4⟩:=isNumber_iff.mp h
  have key:∃ n:Int,n.natAbs < 10 ^ 30/\z=Str.ofString (toString n):=by
    rcases h4 with h4 | h4
    · exact ⟨0,by decide,h4⟩
    · have hne:cl (zA z)≠[]:=fun e=>by rw [e] at h1; simp at h1
      obtain ⟨m,m0,e⟩:=WU _ hne h3 (by rw [List.head?_eq_getElem?]; exact h4)
      by_cases c:∃ cs,cl z=45 :: cs
      · obtain ⟨cs,hc⟩:=c
        rw [xD hc] at e h1 h2
        obtain ⟨k,rfl⟩:∃ k,m=k + 1:=⟨m - 1,by lia⟩
        exact ⟨Int.negSucc k,jm (m:=k + 1) (by rw [e]; exact h2),y7 (by rw [hc,VM,e])⟩
      · rw [xE c] at e h1 h2
        exact ⟨Int.ofNat m,jm (m:=m) (by rw [e]; exact h2),y7 (by rw [show cl (Str.ofString (toString (Int.ofNat m)))=_ from VL m,e])⟩
  obtain ⟨n,n1,n2⟩:=key
  exact ⟨n,n1,n2,n2 ▸ (yK n1).2⟩
end Rdr
namespace Rdr
open PySem L2 K11 Rd
theorem Zc {r r':List Str} {d:D} (h:deed LX r=some (d,r')):∃ dw,r=dw ++ r'/\GoodD d dw:=by
  cases r with
  | nil=>cases h
  | cons w t =>
    unfold deed at h
    dsimp only at h
    split at h
    · rename_i e
      obtain ⟨⟨i,r1⟩,h1,h2⟩:=Option.map_eq_some_iff.mp h
      cases h2
      cases t with
      | nil=>cases h1
      | cons x t =>
        have h1:(if zH x=true then some (yB x,t) else none)=some (i,r1):=h1
        by_cases c:zH x=true
        · rw [if_pos c] at h1
          cases h1
          obtain ⟨n,n1,n2,n3⟩:=JC (show zH x=true from c)
          refine ⟨["num",x],by rw [e]; rfl,?_⟩
          show GoodD (.tup [.str "num",.int (yB x)]) ["num",x]
          rw [n3]
          conv=>rhs; rw [n2]
          exact w5 n1
        · rw [if_neg c] at h1
          cases h1
    · split at h
      · rename_i ho
        obtain ⟨⟨a,r1⟩,h1,h2⟩:=Option.bind_eq_some_iff.mp h
        obtain ⟨⟨b,r2⟩,h3,h4⟩:=Option.map_eq_some_iff.mp h2
        cases h4
        obtain ⟨e1,e2⟩:=z6 h1
        obtain ⟨e3,e4⟩:=z6 h3
        dsimp only at e3
        exact ⟨[w,a,b],by rw [e1,e3]; rfl,Yk ho e2 e4⟩
      · split at h
        · rename_i ho
          obtain ⟨⟨g,r1⟩,h1,h2⟩:=Option.bind_eq_some_iff.mp h
          obtain ⟨⟨ns,r2⟩,h3,h4⟩:=Option.map_eq_some_iff.mp h2
          cases h4
          obtain ⟨e1,e2⟩:=z6 h1
          obtain ⟨ms,f1,f2,f3,f4⟩:=yJ h3 (Nat.zero_le _)
          rw [List.nil_append] at f1
          subst f1
          dsimp only at f2
          exact ⟨w :: g :: (ns ++ [(";":Str)]),by rw [e1,f2]; simp,vp ho e2 f3 f4⟩
        · cases h
mutual
theorem xH:∀ (n:Nat) (r:List Str) (b:D) (r':List Str),pB n r=some (b,r')->∃ ws,r=ws ++ r'/\Good b ws
  | 0,_,_,_,h=>by unfold pB at h; cases h
  | n + 1,[],_,_,h=>by unfold pB at h; cases h
  | n + 1,w :: r,b,r',h=>by
    unfold pB at h
    split at h
    · rename_i e
      obtain ⟨⟨x,r1⟩,h1,h2⟩:=Option.map_eq_some_iff.mp h
      cases h2
      obtain ⟨e1,e2⟩:=z6 h1
      exact ⟨["give",x],by rw [e,e1]; rfl,x9 e2⟩
    · split at h
      · rename_i e
        obtain ⟨⟨x,r1⟩,h1,h2⟩:=Option.bind_eq_some_iff.mp h
        obtain ⟨⟨d,r2⟩,h3,h4⟩:=Option.bind_eq_some_iff.mp h2
        obtain ⟨⟨b1,r3⟩,h5,h6⟩:=Option.map_eq_some_iff.mp h4
        cases h6
        obtain ⟨e1,e2⟩:=z6 h1
        obtain ⟨dw,f1,f2⟩:=Zc h3
        obtain ⟨bw,g1,g2⟩:=xH n _ _ _ h5
        dsimp only at f1 g1
        exact ⟨"let" :: x :: (dw ++ bw),by rw [e,e1,f1,g1]; simp,Yl e2 f2 g2⟩
      · split at h
        · rename_i e
          obtain ⟨⟨x,r1⟩,h1,h2⟩:=Option.bind_eq_some_iff.mp h
          obtain ⟨⟨a,r2⟩,h3,h4⟩:=Option.bind_eq_some_iff.mp h2
          obtain ⟨e1,e2⟩:=z6 h1
          obtain ⟨aw,f1,f2⟩:=xH n _ _ _ h3
          dsimp only at f1 h4
          cases r2 with
          | nil=>cases h4
          | cons y r2 =>
            dsimp only at h4
            split at h4
            · rename_i ey
              obtain ⟨⟨b1,r3⟩,h5,h6⟩:=Option.map_eq_some_iff.mp h4
              cases h6
              obtain ⟨bw,g1,g2⟩:=xH n _ _ _ h5
              exact ⟨"if" :: x :: (aw ++ ("else":Str) :: bw),by rw [e,e1,f1,ey,g1]; simp,ZH e2 f2 g2⟩
            · cases h4
        · split at h
          · rename_i e
            obtain ⟨⟨x,r1⟩,h1,h2⟩:=Option.bind_eq_some_iff.mp h
            obtain ⟨⟨ds,r2⟩,h3,h4⟩:=Option.map_eq_some_iff.mp h2
            cases h4
            obtain ⟨e1,e2⟩:=z6 h1
            obtain ⟨arms,a0,a1,a2,a3,a4⟩:=Wf n [] _ _ _ (by decide) h3
            rw [List.nil_append] at a1
            dsimp only at a2
            rw [List.length_nil,Nat.zero_add] at a4
            exact ⟨("case":Str) :: x :: (arms.flatMap Arm.words ++ [("end":Str)]),by rw [e,e1,a2]; simp,a1 ▸ j8 e2 a0 a3 a4⟩
          · cases h
theorem Wf:∀ (n:Nat) (done:List D) (r:List Str) (ds:List D) (r':List Str),done.length + 1<=20->pA n done r=some (ds,r')->∃ arms:List Arm,arms≠[]/\ds=done ++ arms.map Arm.dat/\r=arms.flatMap Arm.words ++ ("end":Str) :: r'/\(∀ a∈arms,GoodA a)/\done.length + arms.length<=20
  | 0,_,_,_,_,_,h=>by unfold pA at h; cases h
  | n + 1,done,r,ds,r',hd,h=>by
    unfold pA at h
    obtain ⟨⟨⟨t,ns⟩,r1⟩,h1,h2⟩:=Option.bind_eq_some_iff.mp h
    obtain ⟨⟨b,r2⟩,h3,h4⟩:=Option.bind_eq_some_iff.mp h2
    obtain ⟨e1,e2,e3,e4⟩:=vf h1
    obtain ⟨bw,f1,f2⟩:=xH n _ _ _ h3
    dsimp only at f1 h4
    have ga:=Ym e2 e3 e4 f2
    cases r2 with
    | nil=>cases h4
    | cons y r2 =>
      dsimp only at h4
      split at h4
      · rename_i ey
        cases h4
        refine ⟨[⟨t,ns,bw,b⟩],by simp,by simp [Arm.dat],?_,fun a ha=>by rw [List.mem_singleton.mp ha]; exact ga,hd⟩
        rw [e1,f1,ey]
        simp [Arm.words]
      · split at h4
        · rename_i hl
          obtain ⟨arms,a0,a1,a2,a3,a4⟩:=Wf n _ _ _ _ (by rw [List.length_append,List.length_singleton]; lia) h4
          refine ⟨⟨t,ns,bw,b⟩ :: arms,by simp,by rw [a1]; simp [Arm.dat],?_,fun a ha=>(List.mem_cons.mp ha).elim (fun e=>e ▸ ga) (a3 a),?_⟩
          · rw [e1,f1,a2]
            simp [Arm.words]
          · rw [List.length_append,List.length_singleton] at a4
            rw [List.length_cons]
            lia
        · cases h4
end
end Rdr
namespace Rdr
open PySem L2 K11 Rd
theorem xc {r r':List Str} {x:Str} (h:zr LX r=some (x,r')):r.length=r'.length + 1:=by
  rw [(z6 h).1]
  rfl
theorem deed_len {r r':List Str} {d:D} (h:deed LX r=some (d,r')):r'.length<=r.length:=by
  obtain ⟨dw,e,_⟩:=Zc h
  rw [e,List.length_append]
  lia
theorem jn {n:Nat} {r r':List Str} {b:D} (h:pB n r=some (b,r')):r'.length < r.length:=by
  obtain ⟨ws,e,g⟩:=xH _ _ _ _ h
  have:=List.length_pos_iff.mpr g.ne
  rw [e,List.length_append]
  lia
theorem head_len {r r':List Str} {p:Str × List Str} (h:head LX r=some (p,r')):r'.length < r.length:=by
  have:=(vf h).1
  rw [this,List.length_cons,List.length_append,List.length_cons]
  lia
theorem xI {n:Nat} {r r':List Str} {b:D} (h:pB n r=some (b,r')) (st:List Fr):∃ k,Goes LX k ⟨st,none,r⟩ ⟨st,some b,r'⟩:=by
  obtain ⟨ws,e,g⟩:=xH _ _ _ _ h
  rw [e]
  exact g.body st r'
theorem Zd {s s':S} (g:∃ k,Goes LX k s s') (h:∃ n,Runs LX n s' none):∃ n,Runs LX n s none :=
  let ⟨_,g⟩:=g
  let ⟨_,h⟩:=h
  g.runs h
mutual
theorem xh:∀ (n:Nat) (r:List Str),r.length < n->pB n r=none->zcJ r
  | 0,_,hl,_=>by lia
  | n + 1,[],_,_=>fun st=>yC rfl
  | n + 1,w :: r,hl,h=>fun st=>by
    rw [List.length_cons] at hl
    unfold pB at h
    by_cases c1:w="give"
    · rw [if_pos c1] at h
      refine yC ?_
      unfold zU
      dsimp only
      rw [if_pos c1,Option.map_eq_none_iff.mp h]
      rfl
    rw [if_neg c1] at h
    by_cases c2:w="let"
    · rw [if_pos c2] at h
      cases hn:zr LX r with
      | none =>
        refine yC ?_
        unfold zU
        dsimp only
        rw [if_neg c1,if_pos c2,hn]
        rfl
      | some p =>
        have l1:=xc hn
        rw [hn,Option.bind_some] at h
        cases hd:deed LX p.2 with
        | none =>
          refine yC ?_
          unfold zU
          dsimp only
          rw [if_neg c1,if_pos c2,hn,Option.bind_some,hd]
          rfl
        | some q =>
          have l2:=deed_len hd
          rw [hd,Option.bind_some] at h
          refine jk (s:=⟨.lt p.1 q.1 :: st,none,q.2⟩) ?_ (xh n q.2 (by lia) (Option.map_eq_none_iff.mp h) _)
          unfold zU
          dsimp only
          rw [if_neg c1,if_pos c2,hn,Option.bind_some,hd]
          rfl
    rw [if_neg c2] at h
    by_cases c3:w="if"
    · rw [if_pos c3] at h
      cases hn:zr LX r with
      | none =>
        refine yC ?_
        unfold zU
        dsimp only
        rw [if_neg c1,if_neg c2,if_pos c3,hn]
        rfl
      | some p =>
        have l1:=xc hn
        rw [hn,Option.bind_some] at h
        refine jk (s:=⟨.if0 p.1 :: st,none,p.2⟩) (by
          unfold zU
          dsimp only
          rw [if_neg c1,if_neg c2,if_pos c3,hn]
          rfl) ?_
        cases ha:pB n p.2 with
        | none=>exact xh n p.2 (by lia) ha _
        | some a =>
          have l2:=jn ha
          rw [ha,Option.bind_some] at h
          refine Zd (xI ha _) ?_
          obtain ⟨a,ar⟩:=a
          cases ar with
          | nil=>exact xr rfl
          | cons y r2 =>
            dsimp only at h l2
            rw [List.length_cons] at l2
            by_cases ce:y="else"
            · rw [if_pos ce] at h
              refine We (s:=⟨.if1 p.1 a :: st,none,r2⟩) ?_ (xh n r2 (by lia) (Option.map_eq_none_iff.mp h) _)
              unfold fill
              dsimp only
              rw [if_pos ce]
            · refine xr ?_
              unfold fill
              dsimp only
              rw [if_neg ce]
    rw [if_neg c3] at h
    by_cases c4:w="case"
    · rw [if_pos c4] at h
      cases hn:zr LX r with
      | none =>
        refine yC ?_
        unfold zU
        dsimp only
        rw [if_neg c1,if_neg c2,if_neg c3,if_pos c4,hn]
        rfl
      | some p =>
        have l1:=xc hn
        rw [hn,Option.bind_some] at h
        rcases Wg n [] p.2 p.1 st (by lia) (by decide) (Option.map_eq_none_iff.mp h) with e | ⟨q,e,g⟩
        · refine yC ?_
          unfold zU
          dsimp only
          rw [if_neg c1,if_neg c2,if_neg c3,if_pos c4,hn,Option.bind_some,e]
          rfl
        · refine jk (s:=⟨.cs p.1 [] q.1.1 q.1.2 :: st,none,q.2⟩) ?_ g
          unfold zU
          dsimp only
          rw [if_neg c1,if_neg c2,if_neg c3,if_pos c4,hn,Option.bind_some,e]
          rfl
    · refine yC ?_
      unfold zU
      dsimp only
      rw [if_neg c1,if_neg c2,if_neg c3,if_neg c4]
theorem Wg:∀ (n:Nat) (done:List D) (r:List Str) (x:Str) (st:List Fr),r.length < n->done.length + 1<=20->pA n done r=none->head LX r=none\/∃ q,head LX r=some q/\∃ k,Runs LX k ⟨.cs x done q.1.1 q.1.2 :: st,none,q.2⟩ none
  | 0,_,_,_,_,hl,_,_=>by lia
  | n + 1,done,r,x,st,hl,hd,h=>by
    unfold pA at h
    cases hh:head LX r with
    | none=>exact .inl rfl
    | some q =>
      refine .inr ⟨q,rfl,?_⟩
      have l1:=head_len hh
      rw [hh,Option.bind_some] at h
      cases hb:pB n q.2 with
      | none=>exact xh n q.2 (by lia) hb _
      | some a =>
        have l2:=jn hb
        rw [hb,Option.bind_some] at h
        refine Zd (xI hb _) ?_
        obtain ⟨a,ar⟩:=a
        cases ar with
        | nil=>exact xr rfl
        | cons y r2 =>
          dsimp only at h l2
          by_cases ce:y="end"
          · rw [if_pos ce] at h
            cases h
          · rw [if_neg ce] at h
            by_cases cl:done.length + 1 < 20
            · rw [if_pos cl] at h
              rcases Wg n _ _ x st (by lia) (by rw [List.length_append,List.length_singleton]; lia) h with e | ⟨q2,e,g⟩
              · refine xr ?_
                unfold fill
                dsimp only
                rw [if_neg ce,e]
                simp
              · refine We (s:=⟨.cs x (done ++ [.tup [.str q.1.1,Rd.«strs» q.1.2,a]]) q2.1.1 q2.1.2 :: st,none,q2.2⟩) ?_ g
                unfold fill
                dsimp only
                rw [if_neg ce,e,List.length_append,List.length_singleton,if_pos cl]
                rfl
            · refine xr ?_
              unfold fill
              dsimp only
              rw [if_neg ce,List.length_append,List.length_singleton,if_neg cl]
end
def pDef (r:List Str):Option D:=(zr LX r).bind fun p=>(zO LX "=" [] p.2).bind fun q=>match pB (q.2.length + 1) q.2 with
  | some (b,[])=>some (.tup [.str p.1,Rd.«strs» q.1,b])
  | _=>none
theorem Wh (r:List Str):Yh r (pDef r):=by
  unfold Yh pDef
  cases hn:zr LX r with
  | none=>rfl
  | some p =>
    rw [Option.bind_some,Option.bind_some]
    cases hu:zO LX "=" [] p.2 with
    | none=>rfl
    | some q =>
      rw [Option.bind_some]
      dsimp only [Option.map_some]
      cases hb:pB (q.2.length + 1) q.2 with
      | none =>
        obtain ⟨n,g⟩:=xh _ q.2 (Nat.lt_succ_self _) hb []
        exact ⟨n,none,g,rfl⟩
      | some a =>
        obtain ⟨k,g⟩:=xI hb []
        obtain ⟨n,g⟩:=g.runs (r:=some (a.1,a.2)) .done
        exact ⟨n,_,g,rfl⟩
end Rdr
namespace Rdr
open PySem L2 K11 Rd
theorem xU {L:Lex}:∀ {n m:Nat} {s:S} {r r':Option (D × List Str)},Runs L n s r->Runs L m s r'->n=m/\r=r':=by
  intro n m s r r' h
  induction h generalizing m r' with
  | done =>
    intro h'
    cases h' with
    | done=>exact ⟨rfl,rfl⟩
    | turn h _ _=>rcases h with h | h <;> simp at h
    | fail h _=>rcases h with h | h <;> simp at h
  | turn hh hs hr ih =>
    intro h'
    cases h' with
    | done=>rcases hh with h | h <;> simp at h
    | turn _ hs' hr' =>
      rw [hs] at hs'
      cases hs'
      obtain ⟨e1,e2⟩:=ih hr'
      exact ⟨by rw [e1],e2⟩
    | fail _ hs'=>rw [hs] at hs'; cases hs'
  | fail hh hs =>
    intro h'
    cases h' with
    | done=>rcases hh with h | h <;> simp at h
    | turn _ hs' _=>rw [hs] at hs'; cases hs'
    | fail _ _=>exact ⟨rfl,rfl⟩
theorem zb9 {n m:Nat} {r:List Str} (h:r.length < n) (g:r.length < m):pB n r=pB m r:=by
  cases e1:pB n r with
  | none =>
    obtain ⟨k,f⟩:=xh n r h e1 []
    cases e2:pB m r with
    | none=>rfl
    | some b =>
      obtain ⟨j,q⟩:=xI e2 []
      obtain ⟨j,q⟩:=q.runs (r:=some (b.1,b.2)) .done
      cases (xU f q).2
  | some a =>
    obtain ⟨j,q⟩:=xI e1 []
    obtain ⟨j,q⟩:=q.runs (r:=some (a.1,a.2)) .done
    cases e2:pB m r with
    | none =>
      obtain ⟨k,f⟩:=xh m r g e2 []
      cases (xU f q).2
    | some b =>
      obtain ⟨i,p⟩:=xI e2 []
      obtain ⟨i,p⟩:=p.runs (r:=some (b.1,b.2)) .done
      exact (xU q p).2
def sB (r:List Str):Option (List Str):=(pB (r.length + 1) r).map (·.2)
theorem Wi {n:Nat} {r:List Str} (h:r.length < n):(pB n r).map (·.2)=sB r:=by
  unfold sB
  rw [zb9 h (Nat.lt_succ_self _)]
def nmR (r:List Str):Option (List Str):=(zr LX r).map (·.2)
def ddR (r:List Str):Option (List Str):=(deed LX r).map (·.2)
def utR (stop:Str) (r:List Str):Option (List Str):=(zO LX stop [] r).map (·.2)
def hdR (r:List Str):Option (List Str):=(nmR r).bind (utR ":")
theorem Wj (r:List Str):(head LX r).map (·.2)=hdR r:=by
  unfold head hdR nmR utR
  cases zr LX r with
  | none=>rfl
  | some p =>
    dsimp only [Option.bind_some,Option.map_some]
    cases zO LX ":" [] p.2 <;> rfl
def aR:Nat->Nat->List Str->Option (List Str)
  | 0,_,_=>none
  | _ + 1,_,[]=>none
  | n + 1,many,e :: t=>if many≠0/\e="end" then (if many<=20 then some t else none) else (hdR (e :: t)).bind fun r1=>(sB r1).bind fun r2=>aR n (many + 1) r2
theorem Wk:∀ (n many:Nat) (r:List Str),20 < many->aR n many r=none
  | 0,_,_,_=>rfl
  | n + 1,_,[],_=>rfl
  | n + 1,many,e :: t,h=>by
    unfold aR
    split
    · rw [if_neg (by lia)]
    · cases hdR (e :: t) with
      | none=>rfl
      | some r1 =>
        rw [Option.bind_some]
        cases sB r1 with
        | none=>rfl
        | some r2=>exact Wk n (many + 1) r2 (by lia)
theorem JD {r r':List Str} (h:sB r=some r'):r'.length < r.length:=by
  unfold sB at h
  obtain ⟨p,h1,h2⟩:=Option.map_eq_some_iff.mp h
  rw [<- h2]
  exact jn (b:=p.1) h1
theorem zah {r r':List Str} (h:hdR r=some r'):r'.length < r.length:=by
  rw [<- Wj] at h
  obtain ⟨p,h1,h2⟩:=Option.map_eq_some_iff.mp h
  rw [<- h2]
  exact head_len (p:=p.1) h1
theorem zaV:∀ (n k:Nat) (done:List D) (r:List Str),r.length < n->r.length<=k->done.length + 1<=20->(pA n done r).map (·.2)=(hdR r).bind fun r1=>(sB r1).bind fun r2=>aR k (done.length + 1) r2
  | 0,_,_,_,h,_,_=>by lia
  | n + 1,k,done,r,h,hk,hd=>by
    unfold pA
    rw [<- Wj]
    cases hh:head LX r with
    | none=>rfl
    | some q =>
      have l1:=head_len hh
      rw [Option.bind_some,Option.map_some,Option.bind_some,<- Wi (n:=n) (by lia)]
      cases hb:pB n q.2 with
      | none=>rfl
      | some a =>
        have l2:=jn hb
        rw [Option.bind_some,Option.map_some,Option.bind_some]
        obtain ⟨a,ar⟩:=a
        obtain ⟨k,rfl⟩:∃ j,k=j + 1:=⟨k - 1,by lia⟩
        cases ar with
        | nil=>rfl
        | cons y r2 =>
          unfold aR
          dsimp only at l2 ⊢
          by_cases ce:y="end"
          · rw [if_pos ce,if_pos ⟨by lia,ce⟩,if_pos (by lia)]
            rfl
          · have c5:¬ (done.length + 1≠0/\y="end"):=fun z=>ce z.2
            rw [if_neg ce,if_neg c5]
            by_cases cl:done.length + 1 < 20
            · rw [if_pos cl,zaV n k _ _ (by lia) (by lia) (by rw [List.length_append,List.length_singleton]; lia),List.length_append,List.length_singleton]
            · rw [if_neg cl]
              cases hdR (y :: r2) with
              | none=>rfl
              | some r1 =>
                rw [Option.bind_some]
                cases sB r1 with
                | none=>rfl
                | some r3=>exact (Wk _ _ _ (by lia)).symm
theorem ZN {r r':List Str} (h:nmR r=some r'):r.length=r'.length + 1:=by
  unfold nmR at h
  obtain ⟨p,h1,h2⟩:=Option.map_eq_some_iff.mp h
  rw [<- h2]
  exact xc (x:=p.1) h1
theorem zai {r r':List Str} (h:ddR r=some r'):r'.length<=r.length:=by
  unfold ddR at h
  obtain ⟨p,h1,h2⟩:=Option.map_eq_some_iff.mp h
  rw [<- h2]
  exact deed_len (d:=p.1) h1
theorem JE {k:Nat} {r:List Str}:aR (k + 1) 0 r=(hdR r).bind fun r1=>(sB r1).bind fun r2=>aR k 1 r2:=by
  cases r with
  | nil=>rfl
  | cons e t =>
    conv=>lhs; unfold aR
    rw [if_neg (fun z=>z.1 rfl)]
theorem zaj (w:Str) (r:List Str):sB (w :: r)=if w="give" then nmR r
    else if w="let" then (nmR r).bind fun r1=>(ddR r1).bind sB
    else if w="if" then (nmR r).bind fun r1=>(sB r1).bind fun r2=>match r2 with
      | []=>none
      | e :: t=>if e="else" then sB t else none
    else if w="case" then (nmR r).bind fun r1=>aR (r1.length + 1) 0 r1
    else none:=by
  conv=>lhs; unfold sB pB
  by_cases c1:w="give"
  · rw [if_pos c1,if_pos c1]
    unfold nmR
    rw [Option.map_map]
    rfl
  rw [if_neg c1,if_neg c1]
  by_cases c2:w="let"
  · rw [if_pos c2,if_pos c2]
    unfold nmR
    cases hn:zr LX r with
    | none=>rfl
    | some p =>
      have l1:=xc hn
      rw [Option.bind_some,Option.map_some,Option.bind_some]
      unfold ddR
      cases hd:deed LX p.2 with
      | none=>rfl
      | some q =>
        have l2:=deed_len hd
        rw [Option.bind_some,Option.map_some,Option.bind_some,Option.map_map,<- Wi (n:=(w :: r).length) (by rw [List.length_cons]; lia)]
        rfl
  rw [if_neg c2,if_neg c2]
  by_cases c3:w="if"
  · rw [if_pos c3,if_pos c3]
    unfold nmR
    cases hn:zr LX r with
    | none=>rfl
    | some p =>
      have l1:=xc hn
      rw [Option.bind_some,Option.map_some,Option.bind_some,<- Wi (n:=(w :: r).length) (by rw [List.length_cons]; lia)]
      cases ha:pB (w :: r).length p.2 with
      | none=>rfl
      | some a =>
        have l2:=jn ha
        obtain ⟨a,ar⟩:=a
        rw [Option.bind_some,Option.map_some,Option.bind_some]
        cases ar with
        | nil=>rfl
        | cons y t =>
          dsimp only at l2 ⊢
          rw [List.length_cons] at l2
          by_cases ce:y="else"
          · rw [if_pos ce,if_pos ce,Option.map_map,<- Wi (n:=(w :: r).length) (by rw [List.length_cons]; lia)]
            rfl
          · rw [if_neg ce,if_neg ce]
            rfl
  rw [if_neg c3,if_neg c3]
  by_cases c4:w="case"
  · rw [if_pos c4,if_pos c4]
    unfold nmR
    cases hn:zr LX r with
    | none=>rfl
    | some p =>
      have l1:=xc hn
      rw [Option.bind_some,Option.map_some,Option.bind_some,Option.map_map,JE]
      exact zaV (w :: r).length p.2.length [] p.2 (by rw [List.length_cons]; lia) (Nat.le_refl _) (by decide)
  · rw [if_neg c4,if_neg c4]
    rfl
end Rdr
namespace L2
open PySem
section
variable {a b c d e u:TS} {D:Ends} {σ:List (Option V)} {H:Hp}
theorem cut1 (h:∀ v:TS,u=v->(tSeq a v:TS) D σ H):(tSeq a u:TS) D σ H:=h u rfl
theorem cut2 (h:∀ v:TS,u=v->(tSeq a (tSeq b v):TS) D σ H):(tSeq a (tSeq b u):TS) D σ H:=h u rfl
theorem cut5 (h:∀ v:TS,u=v->(tSeq a (tSeq b (tSeq c (tSeq d (tSeq e v)))):TS) D σ H):(tSeq a (tSeq b (tSeq c (tSeq d (tSeq e u)))):TS) D σ H:=h u rfl
theorem ixT {K:PySem.W.Frag} {Q:VK} {p:Addr} {xs:List V} {i:Int} {v:V} (h:H p=some (.tup xs)) (a:atI xs i=some v) (q:Q v H):tC (.int i) σ H fun y H2=>rIxT K (.ref p) y H2 Q:=⟨p,xs,i,v,rfl,rfl,SqT.of h,a,q⟩
theorem nxtC {E:Ends} (h:E.nx σ H):W9 E σ H:=h
end
end L2
namespace Rdr
open PySem L2 K11 Rd
abbrev ZO:Stmt:=top 37
abbrev JF:Stmt:=top 47
abbrev jo:Stmt:=top 48
abbrev JG:Stmt:=top 49
abbrev JH:Stmt:=top 50
abbrev ZP:Stmt:=top 51
abbrev JI:Stmt:=top 52
abbrev Xo:Stmt:=top 53
abbrev jp:Stmt:=top 54
abbrev vE:Stmt:=top 55
abbrev sDue:Stmt:=top 56
abbrev Xp:Stmt:=top 57
theorem Ys {α:Type} {l:List α} {i:Nat} {x:α} (p:α->Bool) (h:l[i]?=some x):(l.take (i + 1)).filter p=(l.take i).filter p ++ (if p x=true then [x] else []):=by
  rw [List.take_add_one,h,List.filter_append]
  congr 1
  cases e:p x <;> simp [e]
theorem Yt:Txt.split "def kind give let if else case end num plus minus times over rest less same make call func ask" " "=KEPT:=by decide +kernel
theorem dash {z:Str}:Txt.startswith z "-"=decide (V.str (Txt.slice z none (some 1))=V.str "-"):=by
  have e:(("-":Str))=sg 45:=by decide
  rw [e,xC,<- WH]
  simp only [V.str.injEq]
theorem zca {y:Str} {c:Nat} (h:y.cps[0]?=some c):(!decide (V.str ⟨#[c]⟩=V.str "0"))=!Txt.startswith y "0":=by
  have e:(("0":Str))=sg 48:=by decide
  rw [e,xC,h]
  simp [sg,Bool.beq_eq_decide_eq]
theorem Wl {z j:Str}:decide (V.int (((((signs z).take z.cps.size).filter (inS · j)).map V.str).length:Nat)=V.int (z.length:Nat))=yU z j:=by
  have hl:=x4 z
  unfold yU
  rw [<- YT (inS · j) (signs z),List.take_of_length_le (by rw [hl]; exact Nat.le_refl _),List.length_map,hl]
  have e2:(V.int ((((signs z).filter (inS · j)).length:Nat):Int)=V.int ((z.length:Nat):Int))↔((signs z).filter (inS · j)).length=z.length:=by
    constructor
    · intro h
      injection h with h
      exact Int.ofNat.inj h
    · intro h
      rw [h]
  rw [decide_eq_decide.mpr e2]
section
variable {P:Program} {w:World} {K:PySem.W.Frag} {mg:Str->Option Value} {base:Heap} {f:Addr} {fd:FuncData}
theorem scIsNm:FnScope ["_law_word","_law_taken","_law_some"] ["_law_word"] (zn JG):=⟨rfl,rfl,rfl,by decide +kernel,rfl,by decide +kernel,by decide +kernel⟩
theorem zcb:(["_law_word","_law_taken","_law_some","_law_sign"]:List Str).Nodup:=by decide +kernel
theorem zak (F:Fun K "_law_is_name" "_law_is_name" JG f fd) (m_len:mg "len"=none):FnOk P w K mg base CX0 1 f fd ["_law_word"] v9:=by
  refine F.by scIsNm (fun vs H Q E h=>?_) (fun cdv A outer s H vs Q E hr h=>?_)
  · obtain ⟨z,rfl,_⟩:=h
    rfl
  obtain ⟨z,rfl,hz,q⟩:=h
  refine ⟨_,
    (zd (zu (i:=1) scIsNm.nd rfl (Or.inl rfl) zj)
    (zd (XQ ["_law_sign"] (i:=2) scIsNm.nd rfl (Or.inl rfl) rfl (YN rfl (jv 0)) (fun _ _ _ _ _=>(zF (i:=3) zcb rfl (Or.inl rfl))) (fun _ _ _ _ _=>(XN (zt xY (jv 3) zj (by with_unfolding_all rfl)))) (fun _ _ _ _ _=>(jv 3)))
    (zh (zq (xx (ZX yX yX zg (zK yA rfl m_len PySem.boot_len (ja_c (jv 0) ze)) zg) (xx (yg z7 (zK zy rfl m_len PySem.boot_len (ja_c (jv 2) ze)) (zK yA rfl m_len PySem.boot_len (ja_c (jv 0) ze)) (zw _)) (wo (yg y6 (jv 0) (zZ PySem.F.plainAttrs_str PySem.F.slot_str_split PySem.F.type_str_split yY (jv 1) (ja_c zj ze)) (by with_unfolding_all rfl))))))))),?_⟩
  have hl:=x4 z
  have hs:=line
  have no:∀ {H':Hp},Same H H'->zx z=false->Q (.bl false) H':=fun sm e=>by
    have r:=q _ sm
    rw [e] at r
    exact r
  refine ⟨_,rfl,z,rfl,YL (fun i τ ys H'=>H'=H/\(∃ u v,τ=[some (.str z),some u,none,v])/\ys=(((signs z).take i).filter (inS · LETS)).map V.str) ⟨rfl,⟨_,none,rfl⟩,rfl⟩ ?_ ?_⟩
  · rintro i c τ ys H' hc ⟨rfl,⟨u,v,rfl⟩,rfl⟩
    refine ⟨_,rfl,_,_,rfl,rfl,_,rfl,?_⟩
    have tf:=Ys (inS · LETS) (ZC hc)
    refine ite2 (fun b=>?_) (fun b=>?_)
    · refine ⟨_,rfl,?_,rfl,⟨_,_,rfl⟩,?_⟩
      · rw [List.length_map]
        have:=List.length_filter_le (inS · LETS) ((signs z).take i)
        rw [List.length_take] at this
        lia
      · rw [tf,if_pos (show inS (sg c) LETS=true from b),List.map_append]
        rfl
    · refine ⟨rfl,⟨_,_,rfl⟩,?_⟩
      rw [tf,if_neg (show ¬ inS (sg c) LETS=true from b),List.append_nil]
  · rintro τ ys H' ⟨rfl,_,rfl⟩ p hp
    have s1:=zi hp (.lst ((((signs z).take z.cps.size).filter (inS · LETS)).map V.str))
    have hp1:=zc (H:=H') (a:=p) (o:=.lst ((((signs z).take z.cps.size).filter (inS · LETS)).map V.str))
    generalize upd H' p (.lst ((((signs z).take z.cps.size).filter (inS · LETS)).map V.str))=H1 at *
    refine ⟨_,rfl,z,rfl,by lia,_,_,rfl,rfl,_,rfl,?_⟩
    refine ite2 (fun c1=>?_) (fun c1=>?_)
    · have c1':decide ((1:Int)<=(z.length:Nat))=true:=c1
      refine ⟨_,_,rfl,rfl,_,rfl,?_⟩
      cases c2:decide (((z.length:Nat):Int)<=12) with
      | false =>
        refine iteF (no s1 ?_)
        unfold zx yZ
        rw [c2,Bool.and_false,Bool.false_and]
      | true =>
        refine iteT ?_
        refine ⟨_,rfl,p,_,rfl,.inl (SqL.of hp1),_,rfl,z,rfl,by lia,rfl,_,rfl,?_⟩
        rw [Wl]
        cases c3:yU z LETS with
        | false =>
          refine iteF (no s1 ?_)
          unfold zx
          rw [c3,Bool.false_and,Bool.and_false]
        | true =>
          refine iteT ?_
          refine ⟨_,rfl,_,rfl,rfl,_,_,rfl,rfl,by decide +kernel,by decide +kernel,fun p2 hp2=>?_⟩
          rw [Yt]
          refine ⟨p2,_,rfl,.inl (SqL.of zc),rfl,wZ,?_⟩
          have r:=q _ (s1.trans (zi hp2 (.lst (KEPT.map V.str))))
          unfold zx yZ at r
          rw [c1',c2,c3] at r
          exact r
    · refine ⟨_,rfl,iteF (no s1 ?_)⟩
      unfold zx yZ
      rw [Bool.eq_false_iff.mpr c1,Bool.false_and,Bool.false_and]
theorem scIsNu:FnScope ["_law_word","_law_figures","_law_some"] ["_law_word"] (zn JH):=⟨rfl,rfl,rfl,by decide +kernel,rfl,by decide +kernel,by decide +kernel⟩
theorem zcc:(["_law_word","_law_figures","_law_some","_law_sign"]:List Str).Nodup:=by decide +kernel
theorem zal (F:Fun K "_law_is_number" "_law_is_number" JH f fd) (m_len:mg "len"=none):FnOk P w K mg base CX0 1 f fd ["_law_word"] wF:=by
  refine F.by scIsNu (fun vs H Q E h=>?_) (fun cdv A outer s H vs Q E hr h=>?_)
  · obtain ⟨z,rfl,_⟩:=h
    rfl
  obtain ⟨z,rfl,hz,q⟩:=h
  refine ⟨_,
    (zd (zu (i:=1) scIsNu.nd rfl (Or.inl rfl) (jv 0))
    (zd (zC (zt z7 (zD wq (jv 0) zR (zI zg)) zj (zw _))
      (zh (zu (i:=1) scIsNu.nd rfl (Or.inl rfl) (zD wq (jv 0) (zI zg) zR)))  zv)
    (zd (XQ ["_law_sign"] (i:=2) scIsNu.nd rfl (Or.inl rfl) rfl (YN rfl (jv 1)) (fun _ _ _ _ _=>(zF (i:=3) zcc rfl (Or.inl rfl))) (fun _ _ _ _ _=>(XN (zt xY (jv 3) zj (by with_unfolding_all rfl)))) (fun _ _ _ _ _=>(jv 3)))
    (zd (zC (jW.pt (yQ (zt xl (zK zy rfl m_len PySem.boot_len (ja_c (jv 2) ze)) (zK yA rfl m_len PySem.boot_len (ja_c (jv 1) ze)) (zw _)) (yD (yz (yN yX yX zg (zK yA rfl m_len PySem.boot_len (ja_c (jv 1) ze)) zg)))))
      (zh (zq xN))  zv)
    (zh (zq (zaO (yg z7 (jv 0) zj (zw _)) (wo (yg xl (zE zbI (jv 1) zg (fun _ _=>rfl)) zj (zw _)))))))))),?_⟩
  have hs:=line
  have hfl:=Yb z
  have no:∀ {H':Hp},Same H H'->zH z=false->Q (.bl false) H':=fun sm e=>by
    have r:=q _ sm
    rw [e] at r
    exact r
  suffices rest:∀ (y:Str),y=zA z->(tSeq _ _:TS) { nx:=fun _ H'=>Q .non H',rt:=Q } [some (.str z),some (.str y),none] H by
    refine ⟨_,rfl,_,rfl,_,rfl,z,rfl,by lia,rfl,_,rfl,?_⟩
    refine ite2 (fun c=>?_) (fun c=>?_)
    · refine ⟨_,rfl,_,rfl,z,rfl,by lia,?_⟩
      exact rest _ (by unfold zA; rw [dash,if_pos c])
    · exact rest _ (by unfold zA; rw [dash,if_neg c])
  rintro y rfl
  have hl:=x4 (zA z)
  refine ⟨_,rfl,zA z,rfl,YL (fun i τ ys H'=>H'=H/\(∃ v,τ=[some (.str z),some (.str (zA z)),none,v])/\ys=(((signs (zA z)).take i).filter (inS · FIGS)).map V.str) ⟨rfl,⟨none,rfl⟩,rfl⟩ ?_ ?_⟩
  · rintro i c τ ys H' hc ⟨rfl,⟨v,rfl⟩,rfl⟩
    refine ⟨_,rfl,_,_,rfl,rfl,_,rfl,?_⟩
    have tf:=Ys (inS · FIGS) (ZC hc)
    refine ite2 (fun b=>?_) (fun b=>?_)
    · refine ⟨_,rfl,?_,rfl,⟨_,rfl⟩,?_⟩
      · rw [List.length_map]
        have:=List.length_filter_le (inS · FIGS) ((signs (zA z)).take i)
        rw [List.length_take] at this
        lia
      · rw [tf,if_pos (show inS (sg c) FIGS=true from b),List.map_append]
        rfl
    · refine ⟨rfl,⟨_,rfl⟩,?_⟩
      rw [tf,if_neg (show ¬ inS (sg c) FIGS=true from b),List.append_nil]
  · rintro τ ys H' ⟨rfl,_,rfl⟩ p hp
    have s1:=zi hp (.lst ((((signs (zA z)).take (zA z).cps.size).filter (inS · FIGS)).map V.str))
    have hp1:=zc (H:=H') (a:=p) (o:=.lst ((((signs (zA z)).take (zA z).cps.size).filter (inS · FIGS)).map V.str))
    generalize upd H' p (.lst ((((signs (zA z)).take (zA z).cps.size).filter (inS · FIGS)).map V.str))=H1 at *
    refine ⟨_,rfl,p,_,rfl,.inl (SqL.of hp1),_,rfl,zA z,rfl,by lia,rfl,_,rfl,?_⟩
    rw [Wl]
    cases c3:yU (zA z) FIGS with
    | false =>
      refine iteT (iteT (no s1 ?_))
      unfold zH
      rw [c3]
      simp
    | true =>
      refine iteF ?_
      refine ⟨_,rfl,zA z,rfl,by lia,_,_,rfl,rfl,_,rfl,?_⟩
      refine ite2 (fun c1=>?_) (fun c1=>?_)
      · have c1':decide ((1:Int)<=((zA z).length:Nat))=true:=c1
        refine ⟨_,_,rfl,rfl,_,rfl,?_⟩
        cases c2:decide ((((zA z).length:Nat):Int)<=30) with
        | false =>
          refine iteT ?_
          refine no s1 ?_
          unfold zH yZ
          rw [c2,Bool.and_false]
          rfl
        | true =>
          refine iteF ?_
          have fin:∀ v,(decide (V.str z=V.str "0") || !Txt.startswith (zA z) "0")=v->Q (.bl v) H1:=fun v e=>by
            have r:=q _ s1
            have e2:zH z=v:=by
              unfold zH yZ
              rw [c1',c2,c3]
              exact e
            rw [e2] at r
            exact r
          refine ⟨_,rfl,rfl,_,rfl,?_⟩
          refine ite2 (fun c4=>?_) (fun c4=>?_)
          · exact fin true (by rw [show decide (V.str z=V.str "0")=true from c4,Bool.true_or])
          · have h1:(1:Int)<=((zA z).length:Nat):=of_decide_eq_true c1
            have h2:0 < (zA z).cps.size:=by
              have:(zA z).cps.size=(zA z).length:=rfl
              lia
            have h3:(zA z).cps[0]?=some (zA z).cps[0]:=by simp [h2]
            have h4:atI (zA z).cps.toList 0=some (zA z).cps[0]:=yo (j:=0) (by rw [Array.getElem?_toList]; exact h3)
            refine ⟨_,rfl,zA z,0,_,rfl,rfl,by lia,h4,rfl,?_⟩
            refine fin _ ?_
            rw [Bool.eq_false_iff.mpr c4,Bool.false_or,<- zca h3]
      · refine ⟨_,rfl,iteT ?_⟩
        refine no s1 ?_
        unfold zH yZ
        rw [Bool.eq_false_iff.mpr c1,Bool.false_and]
        rfl
end
end Rdr
namespace Rdr
open PySem L2 K11 Rd
def AtW (ws:List Str) (v:Int) (o:Option (List Str)):Prop:=(v=-1/\o=none)\/∃ i:Nat,i<=ws.length/\v=(i:Int)/\o=some (ws.drop i)
def nmN (k:Nat) (r:List Str):Option (List Str):=if k<=r.length/\(r.take k).all zx=true then some (r.drop k) else none
structure WsAt (H:Hp) (l:Addr) (ws:List Str):Prop where
  at_:H l=some (.lst (ws.map V.str))
  len:ws.length<=1000
  word:∀ x∈ws,x.length<=1000
theorem WsAt.same {H H':Hp} {l:Addr} {ws:List Str} (h:WsAt H l ws) (s:Same H H'):WsAt H' l ws:=⟨s _ _ h.at_,h.len,h.word⟩
theorem JJ {α:Type} {f:α->V} {s:List α} {i k:Nat} (h:i + k<=s.length):cutV (s.map f) (some (i:Int)) (some ((i:Int) + (k:Int)))=((s.drop i).take k).map f:=by
  have e1:HT.sIx s.length 0 (some (i:Int))=i:=by
    show (if (i:Int) < 0 then ((i:Int) + (s.length:Nat)).toNat else min (i:Int).toNat s.length)=_
    rw [if_neg (by lia)]
    lia
  have e2:HT.sIx s.length s.length (some ((i:Int) + (k:Int)))=i + k:=by
    show (if (i:Int) + (k:Int) < 0 then ((i:Int) + (k:Int) + (s.length:Nat)).toNat else min ((i:Int) + (k:Int)).toNat s.length)=_
    rw [if_neg (by lia)]
    lia
  unfold cutV
  rw [List.length_map,e1,e2,<- List.map_drop,<- List.map_take,show i + k - i=k by lia]
def xt:Sp:=fun vs H Q _=>∃ (l:Addr) (ws:List Str) (v:Int) (o:Option (List Str)) (k:Nat),vs=[.ref l,.int v,.int (k:Int)]/\WsAt H l ws/\AtW ws v o/\k<=1000/\∀ H' v',Same H H'->AtW ws v' (o.bind (nmN k))->Q (.int v') H'
theorem nm1 (r:List Str):nmN 1 r=nmR r:=by
  unfold nmN nmR
  cases r with
  | nil=>rfl
  | cons w t =>
    show _=Option.map _ (if zx w=true then some (w,t) else none)
    by_cases c:zx w=true
    · rw [if_pos c,if_pos ⟨by simp,by simp [c]⟩]
      rfl
    · rw [if_neg c,if_neg (fun z=>c (by simpa using z.2))]
      rfl
section
variable {P:Program} {w:World} {K:PySem.W.Frag} {mg:Str->Option Value} {base:Heap} {f:Addr} {fd:FuncData}
theorem scLWords:FnScope ["_law_words_here","_law_at","_law_many_here","_law_word"] ["_law_words_here","_law_at","_law_many_here"] (zn ZP):=⟨rfl,rfl,rfl,by decide +kernel,rfl,by decide +kernel,by decide +kernel⟩
theorem WV (F:Fun K "_law_words" "_law_words" ZP f fd) (GN:Ca P w K mg base CX0 1 "_law_is_name" ["_law_word"] v9) (m_len:mg "len"=none):FnOk P w K mg base CX0 2 f fd ["_law_words_here","_law_at","_law_many_here"] xt:=by
  refine F.by scLWords (fun vs H Q E h=>?_) (fun cdv A outer s H vs Q E hr h=>?_)
  · obtain ⟨l,ws,v,o,k,rfl,_⟩:=h
    rfl
  obtain ⟨l,ws,v,o,k,rfl,hw,ho,hk,q⟩:=h
  refine ⟨_,
    (zd (zC (yz (yN yX yX zg (jv 1) (zp xy (zK zy rfl m_len PySem.boot_len (ja_c (jv 0) ze)) (jv 2))))
      (zh (zq (yt zg)))  zv)
    (zd (y0 PassesOwn.never rfl (xX (zD z3 (jv 0) (zI (jv 1)) (zI (zp zL (jv 1) (jv 2))))) (zF (i:=3) scLWords.nd rfl (Or.inl rfl))
      (zh (zC (yz (yw (zN GN hr rfl zJ (ja_c (jv 3) ze))))
        (zh (zq (yt zg)))  zv)))
    (zh (zq (zp zL (jv 1) (jv 2)))))),?_⟩
  have hs:=line
  rcases ho with ⟨rfl,rfl⟩ | ⟨i,hi,rfl,rfl⟩
  · exact ⟨_,rfl,_,_,rfl,rfl,_,rfl,iteF ⟨_,rfl,iteT ⟨_,rfl,q _ (-1) (Same.refl _) (.inl ⟨rfl,rfl⟩)⟩⟩⟩
  refine ⟨_,rfl,_,_,rfl,rfl,_,rfl,ite2 (fun _=>?_) (fun c=>absurd (decide_eq_true (Int.natCast_nonneg i)) c)⟩
  refine ⟨_,rfl,l,_,rfl,.inl (SqL.of hw.at_),_,rfl,_,_,rfl,rfl,_,_,rfl,rfl,_,rfl,?_⟩
  rw [List.length_map]
  by_cases c1:i + k<=ws.length
  · rw [decide_eq_true (by lia)]
    refine iteF ?_
    refine nxtC ?_
    dsimp only
    have nv:∀ v',AtW ws v' ((nmN k) (ws.drop i))->∀ H',Same H H'->Q (.int v') H':=fun v' h H' s'=>q H' v' s' h
    refine ⟨_,rfl,_,rfl,_,rfl,_,rfl,_,rfl,_,_,rfl,rfl,_,rfl,l,_,rfl,SqL.of hw.at_,fun p hp=>?_⟩
    rw [JJ c1]
    have s1:=zi hp (.lst (((ws.drop i).take k).map V.str))
    have hp1:=zc (H:=H) (a:=p) (o:=.lst (((ws.drop i).take k).map V.str))
    generalize upd H p (.lst (((ws.drop i).take k).map V.str))=H1 at *
    have tl:((ws.drop i).take k).length=k:=by rw [List.length_take,List.length_drop]; lia
    have hkl:k<=(ws.drop i).length:=by rw [List.length_drop]; lia
    refine ⟨p,rfl,⟨_,SqL.of hp1⟩,xJ (xs:=((ws.drop i).take k).map V.str) (fun j σ H'=>Same H1 H'/\(((ws.drop i).take k).take j).all zx=true/\∃ v3,σ=[some (.ref l),some (.int (i:Int)),some (.int (k:Int)),v3]) ⟨Same.refl _,rfl,_,rfl⟩ (fun j σ H' _ h=>SqL.of (h.1 _ _ hp1)) ?_ ?_⟩
    · rintro j v σ H2 hv ⟨s2,ha,v3,rfl⟩
      rw [List.getElem?_map] at hv
      obtain ⟨z,hz,rfl⟩:=Option.map_eq_some_iff.mp hv
      have zm:z∈ws:=List.mem_of_mem_drop (List.mem_of_mem_take (List.mem_of_getElem? hz))
      refine ⟨_,rfl,z,rfl,hw.word z zm,fun H3 s3=>⟨_,rfl,?_⟩⟩
      cases c2:zx z with
      | false =>
        refine iteT ⟨_,rfl,nv _ (.inl ⟨rfl,?_⟩) _ (s1.trans (s2.trans s3))⟩
        unfold nmN
        rw [if_neg (fun y=>?_)]
        have:=List.all_eq_true.mp y.2 z (List.mem_of_getElem? hz)
        rw [c2] at this
        cases this
      | true =>
        refine iteF ⟨s2.trans s3,?_,_,rfl⟩
        rw [List.take_add_one,hz,List.all_append,ha]
        simp [c2]
    · rintro σ H2 ⟨s2,ha,v3,rfl⟩
      rw [List.length_map,tl,List.take_of_length_le (by rw [tl]; exact Nat.le_refl _)] at ha
      refine ⟨_,rfl,_,rfl,_,_,rfl,rfl,nv _ (.inr ⟨i + k,c1,by push_cast; rfl,?_⟩) _ (s1.trans s2)⟩
      unfold nmN
      rw [if_pos ⟨hkl,ha⟩,List.drop_drop]
  · rw [decide_eq_false (by lia)]
    refine iteT ⟨_,rfl,q _ (-1) (Same.refl _) (.inl ⟨rfl,?_⟩)⟩
    show nmN k (ws.drop i)=none
    unfold nmN
    rw [if_neg (fun z=>c1 (by have:=z.1; rw [List.length_drop] at this; lia))]
end
end Rdr
namespace Rdr
open PySem L2 K11 Rd
theorem wa {stop:Str} {suf:List Str}:∀ (pre acc:List Str),acc.length<=9->(∀ x∈pre,x≠stop)->zO LX stop acc (pre ++ suf)=if acc.length + pre.length<=9/\pre.all zx=true then zO LX stop (acc ++ pre) suf else none
  | [],acc,ha,_=>by
    rw [if_pos ⟨ha,rfl⟩,List.append_nil]
    rfl
  | x :: pre,acc,ha,hp=>by
    have hx:=hp x List.mem_cons_self
    rw [List.cons_append]
    conv=>lhs; unfold zO
    rw [if_neg hx]
    by_cases c:acc.length < 9/\zx x=true
    · have c':acc.length < 9/\LX.nm x=true:=c
      rw [if_pos c',wa pre (acc ++ [x]) (by rw [List.length_append,List.length_singleton]; lia) (fun y hy=>hp y (List.mem_cons_of_mem _ hy)),List.length_append,List.length_singleton,List.length_cons,List.append_assoc,List.all_cons,c.2,Bool.true_and,show acc.length + 1 + pre.length=acc.length + (pre.length + 1) by lia]
      rfl
    · have c':¬ (acc.length < 9/\LX.nm x=true):=c
      rw [if_neg c',if_neg (fun z=>c ⟨by have:=z.1; rw [List.length_cons] at this; lia,by have:=z.2; rw [List.all_cons,Bool.and_eq_true] at this; exact this.1⟩)]
theorem zam {stop:Str} {r:List Str} {m:Nat} (h:∀ x∈r.take m,x≠stop) (h9:m<=9) (hm:r[m]?=some stop):utR stop r=if (r.take m).all zx=true then some (r.drop (m + 1)) else none:=by
  have ml:=(List.getElem?_eq_some_iff.mp hm).1
  have e:r=r.take m ++ stop :: r.drop (m + 1):=by
    conv=>lhs; rw [<- List.take_append_drop m r]
    rw [List.drop_eq_getElem_cons ml,(List.getElem?_eq_some_iff.mp hm).2]
  have u:=wa (stop:=stop) (suf:=stop :: r.drop (m + 1)) (r.take m) [] (Nat.zero_le _) h
  rw [<- e] at u
  unfold utR
  rw [u,List.length_take,Nat.min_eq_left (Nat.le_of_lt ml),List.length_nil,Nat.zero_add]
  by_cases c:(r.take m).all zx=true
  · rw [if_pos ⟨h9,c⟩,if_pos c]
    unfold zO
    rw [if_pos rfl]
    rfl
  · rw [if_neg (fun z=>c z.2),if_neg c]
    rfl
theorem zcd {stop:Str} {r:List Str} (h:∀ x∈r,x≠stop):utR stop r=none:=by
  have u:=wa (stop:=stop) (suf:=[]) r [] (Nat.zero_le _) h
  rw [List.append_nil] at u
  unfold utR
  rw [u]
  split
  · unfold zO
    rfl
  · rfl
theorem zan {stop:Str} {r:List Str} (h:∀ x∈r.take 10,x≠stop) (hl:10<=r.length):utR stop r=none:=by
  have u:=wa (stop:=stop) (suf:=r.drop 10) (r.take 10) [] (Nat.zero_le _) h
  rw [List.take_append_drop] at u
  unfold utR
  rw [u,if_neg (fun z=>by have:=z.1; rw [List.length_take] at this; simp at this; lia)]
  rfl
def ZQ:Sp:=fun vs H Q _=>∃ (l:Addr) (ws:List Str) (v:Int) (o:Option (List Str)) (stop:Str),vs=[.ref l,.int v,.str stop]/\WsAt H l ws/\AtW ws v o/\∀ H' v',Same H H'->AtW ws v' (o.bind (utR stop))->Q (.int v') H'
section
variable {P:Program} {w:World} {K:PySem.W.Frag} {mg:Str->Option Value} {base:Heap} {f:Addr} {fd:FuncData}
theorem scTill:FnScope ["_law_words_here","_law_at","_law_stop","_law_many_here"] ["_law_words_here","_law_at","_law_stop"] (zn JI):=⟨rfl,rfl,rfl,by decide +kernel,rfl,by decide +kernel,by decide +kernel⟩
theorem zao (F:Fun K "_law_till" "_law_till" JI f fd) (GW:Ca P w K mg base CX0 2 "_law_words" ["_law_words_here","_law_at","_law_many_here"] xt) (m_len:mg "len"=none):FnOk P w K mg base CX0 3 f fd ["_law_words_here","_law_at","_law_stop"] ZQ:=by
  refine F.by scTill (fun vs H Q E h=>?_) (fun cdv A outer s H vs Q E hr h=>?_)
  · obtain ⟨l,ws,v,o,stop,rfl,_⟩:=h
    rfl
  obtain ⟨l,ws,v,o,stop,rfl,hw,ho,q⟩:=h
  refine ⟨_,
    (zd (zu (i:=3) scTill.nd rfl (Or.inl rfl) zg)
    (zd (zC (zt yR (jv 1) zg (zw _))
      (zh (zq (yt zg)))  zv)
    (zd (xa PassesOwn.never (jW.pt (vN (zt yR (jv 3) zg (zw _)) (vN (zt yR (zp zL (jv 1) (jv 3)) (zK zy rfl m_len PySem.boot_len (ja_c (jv 0) ze)) (zw _)) (vw (zt xl (zE zG (jv 0) (zp zL (jv 1) (jv 3)) (fun _ _=>rfl)) (jv 2) (zw _))))))
      (zh (zu (i:=3) scTill.nd rfl (Or.inl rfl) (zp zL (jv 3) zg))))
    (zd (zC (jW.pt (yQ (zt z7 (jv 3) zg (zw _)) (yQ (zt zcB (zp zL (jv 1) (jv 3)) (zK zy rfl m_len PySem.boot_len (ja_c (jv 0) ze)) (zw _)) (yD (zt yR (zN GW hr rfl zJ (ja_c (jv 0) (ja_c (jv 1) (ja_c (jv 3) ze)))) zg (zw _))))))
      (zh (zq (yt zg)))  zv)
    (zh (zq (zp zL (zp zL (jv 1) (jv 3)) zg))))))),?_⟩
  have hs:=line
  rcases ho with ⟨rfl,rfl⟩ | ⟨i,hi,rfl,rfl⟩
  · exact ⟨_,rfl,_,_,rfl,rfl,_,rfl,iteT ⟨_,rfl,q _ (-1) (Same.refl _) (.inl ⟨rfl,rfl⟩)⟩⟩
  have nv:∀ v',AtW ws v' (utR stop (ws.drop i))->∀ H',Same H H'->Q (.int v') H':=fun v' h H' s'=>q H' v' s' h
  refine ⟨_,rfl,_,_,rfl,rfl,_,rfl,ite2 (fun c=>absurd (of_decide_eq_true c) (by lia)) (fun _=>?_)⟩
  refine nxtC ?_
  dsimp only
  refine cut1 fun r1_ hr1_=>?_
  refine ⟨fun n σ H'=>∃ m:Nat,n + m=10/\i + m<=ws.length/\H=H'/\(∀ x∈(ws.drop i).take m,x≠stop)/\σ=[some (.ref l),some (.int (i:Int)),some (.str stop),some (.int (m:Int))],⟨10,0,rfl,hi,rfl,(by simp),rfl⟩,?_⟩
  rintro n σ H1 ⟨m,hn,him,rfl,hm,rfl⟩
  have fin:(10<=m\/ws.length<=i + m\/ws[i + m]?=some stop)->r1_ { nx:=fun _ H'=>Q .non H',rt:=Q } [some (.ref l),some (.int (i:Int)),some (.str stop),some (.int (m:Int))] H:=fun hc=>by
    subst hr1_
    show (tSeq _ _:TS) _ _ _
    have gt:∀ j x,(ws.drop i)[j]?=some x->ws[i + j]?=some x:=fun j x h=>by rw [List.getElem?_drop] at h; exact h
    have nope:utR stop (ws.drop i)=none->AtW ws (-1) (utR stop (ws.drop i)):=fun e=>.inl ⟨rfl,e⟩
    refine ⟨_,rfl,rfl,_,rfl,ite2 (fun c=>?_) (fun c=>?_)⟩
    · have m10:m=10:=by have:=V.int.inj (of_decide_eq_true c); lia
      subst m10
      exact iteT ⟨_,rfl,nv _ (nope (zan hm (by rw [List.length_drop]; lia))) _ (Same.refl _)⟩
    have m9:m<=9:=by
      have:m≠10:=fun e=>c (decide_eq_true (by rw [e]; rfl))
      lia
    refine ⟨_,rfl,_,rfl,_,_,rfl,rfl,_,rfl,l,_,rfl,.inl (SqL.of hw.at_),_,_,rfl,rfl,_,rfl,?_⟩
    rw [List.length_map]
    by_cases c2:ws.length<=i + m
    · rw [decide_eq_true (by lia)]
      refine iteT (iteT ⟨_,rfl,nv _ (nope (zcd fun x hx=>hm x ?_)) _ (Same.refl _)⟩)
      rw [List.take_of_length_le (by rw [List.length_drop]; lia)]
      exact hx
    · rw [decide_eq_false (by lia)]
      refine iteF ?_
      have hstop:ws[i + m]?=some stop:=by
        rcases hc with h | h | h
        · lia
        · exact absurd h c2
        · exact h
      have ut:=zam (stop:=stop) hm m9 (by rw [List.getElem?_drop]; exact hstop)
      refine ⟨_,rfl,_,rfl,_,rfl,l,ws,_,_,m,rfl,hw,.inr ⟨i,hi,rfl,rfl⟩,by lia,fun H2 v2 s2 hv2=>?_⟩
      have hv2:AtW ws v2 (nmN m (ws.drop i)):=hv2
      unfold nmN at hv2
      refine ⟨_,_,rfl,rfl,_,rfl,?_⟩
      by_cases c3:((ws.drop i).take m).all zx=true
      · rw [if_pos ⟨by rw [List.length_drop]; lia,c3⟩] at hv2
        rw [if_pos c3] at ut
        rcases hv2 with ⟨_,e⟩ | ⟨j,_,rfl,_⟩
        · cases e
        rw [decide_eq_false (by lia)]
        refine iteF (nxtC ?_)
        dsimp only
        refine ⟨_,rfl,_,rfl,_,_,rfl,rfl,_,_,rfl,rfl,nv _ (.inr ⟨i + (m + 1),by lia,by push_cast; lia,?_⟩) _ s2⟩
        rw [ut,List.drop_drop]
      · rw [if_neg (fun z=>c3 z.2)] at hv2
        rw [if_neg c3] at ut
        rcases hv2 with ⟨rfl,_⟩ | ⟨j,_,_,e⟩
        · exact iteT ⟨_,rfl,nv _ (nope ut) _ s2⟩
        · cases e
  refine ⟨_,rfl,_,_,rfl,rfl,_,rfl,ite2 (fun c=>?_) (fun c=>?_)⟩
  · have c:m < 10:=by have:=of_decide_eq_true c; lia
    refine ⟨_,rfl,_,rfl,_,_,rfl,rfl,_,rfl,l,_,rfl,.inl (SqL.of hw.at_),_,_,rfl,rfl,_,rfl,?_⟩
    rw [List.length_map]
    by_cases c2:i + m < ws.length
    · rw [decide_eq_true (by lia)]
      refine iteT ?_
      obtain ⟨x,hx⟩:∃ x,ws[i + m]?=some x:=⟨_,List.getElem?_eq_getElem c2⟩
      have hat:atI (ws.map V.str) ((i:Int) + (m:Int))=some (.str x):=by
        show atI (ws.map V.str) ((i + m:Nat):Int)=_
        exact yo (by rw [List.getElem?_map,hx]; rfl)
      refine ⟨_,rfl,_,rfl,_,rfl,_,_,rfl,rfl,l,_,_,.str x,rfl,rfl,SqL.of hw.at_,hat,_,rfl,rfl,_,rfl,?_⟩
      by_cases c3:x=stop
      · rw [decide_eq_true (congrArg V.str c3)]
        exact iteF (fin (.inr (.inr (by rw [hx,c3]))))
      · rw [decide_eq_false (fun z=>c3 (V.str.inj z))]
        refine iteT ⟨fun σ' H'=>H=H'/\σ'=[some (.ref l),some (.int (i:Int)),some (.str stop),some (.int ((m + 1:Nat):Int))],?_,?_⟩
        · rintro σ' H' ⟨rfl,rfl⟩
          refine ⟨n - 1,by lia,m + 1,by lia,by lia,rfl,fun y hy=>?_,rfl⟩
          rw [List.take_add_one,List.getElem?_drop,hx] at hy
          rcases List.mem_append.mp hy with hy | hy
          · exact hm y hy
          · rw [show y=x by simpa using hy]
            exact c3
        · exact ⟨_,rfl,_,_,rfl,rfl,rfl,rfl⟩
    · rw [decide_eq_false (by lia)]
      exact iteF (iteF (fin (.inr (.inl (by lia)))))
  · exact iteF (fin (.inl (by have:¬ ((m:Int) < 10):=fun z=>c (decide_eq_true z); lia)))
end
end Rdr
namespace Rdr
open PySem L2 K11 Rd
theorem JK {r:List Str} (h:r.length<=1):ddR r=none:=by
  cases r with
  | nil=>rfl
  | cons w t =>
    cases t with
    | cons y t=>simp at h
    | nil =>
      unfold ddR deed
      dsimp only
      split
      · rfl
      · split
        · rfl
        · split
          · rfl
          · rfl
theorem zce {w y:Str} {t:List Str} (h:w="num"):ddR (w :: y :: t)=if zH y=true then some t else none:=by
  unfold ddR deed
  dsimp only
  rw [if_pos h]
  unfold yc
  dsimp only
  show Option.map _ (Option.map _ (if zH y=true then some (yB y,t) else none))=_
  split <;> rfl
theorem zcK {w:Str} {r:List Str} (h1:w≠"num") (h:w∈OPS):ddR (w :: r)=nmN 2 r:=by
  unfold ddR deed
  dsimp only
  rw [if_neg h1,if_pos h]
  unfold nmN
  cases r with
  | nil=>rfl
  | cons x t =>
    unfold zr
    dsimp only
    show Option.map _ (Option.bind (if zx x=true then some (x,t) else none) _)=_
    by_cases c1:zx x=true
    · rw [if_pos c1,Option.bind_some]
      cases t with
      | nil=>rfl
      | cons y t =>
        dsimp only
        show Option.map _ (Option.map _ (if zx y=true then some (y,t) else none))=_
        by_cases c2:zx y=true
        · rw [if_pos c2,if_pos ⟨by simp,by simp [c1,c2]⟩]
          rfl
        · rw [if_neg c2,if_neg (fun z=>c2 (by have:=z.2; simp [c1] at this; exact this))]
          rfl
    · rw [if_neg c1,if_neg (fun z=>c1 (by
        have:=z.2
        rw [List.all_eq_true] at this
        exact this x (by simp)))]
      rfl
theorem zap {w:Str} {r:List Str} (h1:w≠"num") (h2:w ∉ OPS) (h:w∈DEEDS):ddR (w :: r)=(nmR r).bind (utR ";"):=by
  unfold ddR deed
  dsimp only
  rw [if_neg h1,if_neg h2,if_pos h]
  unfold nmR utR
  cases zr LX r with
  | none=>rfl
  | some p =>
    rw [Option.bind_some,Option.map_some,Option.bind_some,Option.map_map]
    rfl
theorem zaq {w:Str} {r:List Str} (h1:w≠"num") (h2:w ∉ OPS) (h:w ∉ DEEDS):ddR (w :: r)=none:=by
  unfold ddR deed
  dsimp only
  rw [if_neg h1,if_neg h2,if_neg h]
  rfl
def Wm:Sp:=fun vs H Q _=>∃ (l:Addr) (ws:List Str) (v:Int) (o:Option (List Str)),vs=[.ref l,.int v]/\WsAt H l ws/\AtW ws v o/\∀ H' v',Same H H'->AtW ws v' (o.bind ddR)->Q (.int v') H'
theorem xj {ws:List Str} {i:Nat} {x:Str} (h:ws[i]?=some x):atI (ws.map V.str) ((i:Nat):Int)=some (.str x):=yo (by rw [List.getElem?_map,h]; rfl)
theorem zar {ws:List Str} {i:Nat} {x:Str} (h:ws[i + 1]?=some x):atI (ws.map V.str) ((i:Int) + 1)=some (.str x):=by
  show atI (ws.map V.str) ((i + 1:Nat):Int)=_
  exact xj h
section
variable {P:Program} {w:World} {K:PySem.W.Frag} {mg:Str->Option Value} {base:Heap} {f:Addr} {fd:FuncData}
theorem zas:FnScope ["_law_words_here","_law_at"] ["_law_words_here","_law_at"] (zn Xo):=⟨rfl,rfl,rfl,by decide +kernel,rfl,by decide +kernel,by decide +kernel⟩
theorem JL (F:Fun K "_law_behind_deed" "_law_behind_deed" Xo f fd) (GW:Ca P w K mg base CX0 2 "_law_words" ["_law_words_here","_law_at","_law_many_here"] xt) (GT:Ca P w K mg base CX0 3 "_law_till" ["_law_words_here","_law_at","_law_stop"] ZQ) (GU:Ca P w K mg base CX0 1 "_law_is_number" ["_law_word"] wF) (m_len:mg "len"=none):FnOk P w K mg base CX0 4 f fd ["_law_words_here","_law_at"] Wm:=by
  refine F.by zas (fun vs H Q E h=>?_) (fun cdv A outer s H vs Q E hr h=>?_)
  · obtain ⟨l,ws,v,o,rfl,_⟩:=h
    rfl
  obtain ⟨l,ws,v,o,rfl,hw,ho,q⟩:=h
  have hr1:Room 1 _:=hr.mono (by decide)
  have hr2:Room 2 _:=hr.mono (by decide)
  refine ⟨_,
    (zd (zC (yz (yN yX yR zg (jv 1) (zp xy (zK zy rfl m_len PySem.boot_len (ja_c (jv 0) ze)) zg)))
      (zh (zq (yt zg)))  zv)
    (zd (zC (zt z7 (zE zG (jv 0) (jv 1) (fun _ _=>rfl)) zj (zw _))
      (zd (zC (yw (zN GU hr1 rfl zJ (ja_c (zE zG (jv 0) (zp zL (jv 1) zg) (fun _ _=>rfl)) ze)))
        (zh (zq (zp zL (jv 1) zg)))  zv)
      (zh (zq (yt zg))))  zv)
    (zd (zC (zt xm (zE zG (jv 0) (jv 1) (fun _ _=>rfl)) (zB (ja_c zj (ja_c zj (ja_c zj (ja_c zj (ja_c zj (ja_c zj (ja_c zj ze)))))))) (by with_unfolding_all rfl))
      (zh (zq (zN GW hr2 rfl zJ (ja_c (jv 0) (ja_c (zp zL (jv 1) zg) (ja_c zg ze))))))  zv)
    (zd (zC (zt xm (zE zG (jv 0) (jv 1) (fun _ _=>rfl)) (zB (ja_c zj (ja_c zj (ja_c zj (ja_c zj ze))))) (by with_unfolding_all rfl))
      (zh (zq (zN GT hr rfl zJ (ja_c (jv 0) (ja_c (zN GW hr2 rfl zJ (ja_c (jv 0) (ja_c (zp zL (jv 1) zg) (ja_c zg ze)))) (ja_c zj ze))))))  zv)
    (zh (zq (yt zg))))))),?_⟩
  have hs:=line
  rcases ho with ⟨rfl,rfl⟩ | ⟨i,hi,rfl,rfl⟩
  · exact ⟨_,rfl,_,_,rfl,rfl,_,rfl,iteF ⟨_,rfl,iteT ⟨_,rfl,q _ (-1) (Same.refl _) (.inl ⟨rfl,rfl⟩)⟩⟩⟩
  have nv:∀ v',AtW ws v' (ddR (ws.drop i))->∀ H',Same H H'->Q (.int v') H':=fun v' h H' s'=>q H' v' s' h
  have nope:ddR (ws.drop i)=none->∀ H',Same H H'->Q (.int (-1)) H':=fun e=>nv _ (.inl ⟨rfl,e⟩)
  refine cut1 fun r1_ hr1_=>?_
  refine ⟨_,rfl,_,_,rfl,rfl,_,rfl,ite2 (fun _=>?_) (fun c=>absurd (decide_eq_true (Int.natCast_nonneg i)) c)⟩
  refine ⟨_,rfl,l,_,rfl,.inl (SqL.of hw.at_),_,_,rfl,rfl,_,_,rfl,rfl,_,rfl,?_⟩
  rw [List.length_map]
  by_cases c1:i + 1 < ws.length
  · rw [decide_eq_true (by lia)]
    refine iteF (nxtC ?_)
    dsimp only
    subst hr1_
    refine cut1 fun r2_ hr2_=>?_
    obtain ⟨x,hx⟩:∃ x,ws[i]?=some x:=⟨_,List.getElem?_eq_getElem (by lia)⟩
    obtain ⟨y,hy⟩:∃ y,ws[i + 1]?=some y:=⟨_,List.getElem?_eq_getElem c1⟩
    have e1:ws.drop i=x :: ws.drop (i + 1):=by
      rw [List.drop_eq_getElem_cons (by lia),(List.getElem?_eq_some_iff.mp hx).2]
    have e2:ws.drop (i + 1)=y :: ws.drop (i + 2):=by
      rw [List.drop_eq_getElem_cons c1,(List.getElem?_eq_some_iff.mp hy).2]
    have hx':=xj hx
    have a1:AtW ws ((i:Int) + 1) (some (ws.drop (i + 1))):=.inr ⟨i + 1,by lia,rfl,rfl⟩
    refine ⟨_,rfl,_,rfl,l,_,_,_,rfl,rfl,SqL.of hw.at_,hx',rfl,_,rfl,?_⟩
    by_cases c2:x="num"
    · rw [decide_eq_true (congrArg V.str c2)]
      refine iteT ?_
      rw [e1,e2] at nv nope
      rw [zce c2] at nv nope
      refine ⟨_,rfl,_,rfl,_,_,rfl,rfl,l,_,_,_,rfl,rfl,SqL.of hw.at_,zar hy,y,rfl,hw.word y (List.mem_of_getElem? hy),fun H1 s1=>⟨_,rfl,?_⟩⟩
      cases c3:zH y with
      | true =>
        rw [c3,if_pos rfl] at nv
        exact iteT ⟨_,rfl,_,_,rfl,rfl,nv _ (.inr ⟨i + 2,by lia,rfl,rfl⟩) _ s1⟩
      | false =>
        rw [c3] at nope
        exact iteF ⟨_,rfl,nope rfl _ s1⟩
    rw [decide_eq_false (fun z=>c2 (V.str.inj z))]
    refine iteF (nxtC ?_)
    dsimp only
    subst hr2_
    refine cut1 fun r3_ hr3_=>?_
    refine ⟨_,rfl,_,rfl,l,_,_,_,rfl,rfl,SqL.of hw.at_,hx',by show 7<=sizeLine; decide,fun p hp=>?_⟩
    have s1:=zi hp (.lst (OPS.map V.str))
    have hp1:=zc (H:=H) (a:=p) (o:=.lst (OPS.map V.str))
    show rIn _ false _ _ (upd H p (.lst (OPS.map V.str))) _
    generalize upd H p (.lst (OPS.map V.str))=H1 at *
    refine ⟨p,_,rfl,.inl (SqL.of hp1),rfl,(by decide),_,rfl,?_⟩
    rw [xg]
    by_cases c3:x∈OPS
    · rw [decide_eq_true c3]
      refine iteT ⟨_,rfl,_,rfl,_,_,rfl,rfl,l,ws,_,_,2,rfl,hw.same s1,a1,by decide,fun H2 v2 s2 hv2=>nv _ ?_ _ (s1.trans s2)⟩
      rw [e1,zcK c2 c3]
      exact hv2
    rw [decide_eq_false c3]
    refine iteF (nxtC ?_)
    dsimp only
    subst hr3_
    refine ⟨_,rfl,_,rfl,l,_,_,_,rfl,rfl,SqL.of (s1 _ _ hw.at_),hx',by show 4<=sizeLine; decide,fun p2 hp2=>?_⟩
    have s2:=s1.trans (zi hp2 (.lst (DEEDS.map V.str)))
    have hp3:=zc (H:=H1) (a:=p2) (o:=.lst (DEEDS.map V.str))
    show rIn _ false _ _ (upd H1 p2 (.lst (DEEDS.map V.str))) _
    generalize upd H1 p2 (.lst (DEEDS.map V.str))=H2 at *
    refine ⟨p2,_,rfl,.inl (SqL.of hp3),rfl,(by decide),_,rfl,?_⟩
    rw [xg]
    by_cases c4:x∈DEEDS
    · rw [decide_eq_true c4]
      refine iteT ⟨_,rfl,_,rfl,_,rfl,_,_,rfl,rfl,l,ws,_,_,1,rfl,hw.same s2,a1,by decide,fun H3 v3 s3 hv3=>?_⟩
      refine ⟨l,ws,v3,_,_,rfl,hw.same (s2.trans s3),hv3,fun H4 v4 s4 hv4=>nv _ ?_ _ ((s2.trans s3).trans s4)⟩
      rw [e1,zap c2 c3 c4,<- nm1]
      exact hv4
    · rw [decide_eq_false c4]
      refine iteF (nxtC ?_)
      exact ⟨_,rfl,nope (by rw [e1]; exact zaq c2 c3 c4) _ s2⟩
  · rw [decide_eq_false (by lia)]
    exact iteT ⟨_,rfl,nope (JK (by rw [List.length_drop]; lia)) _ (Same.refl _)⟩
end
end Rdr
namespace Rdr
open PySem L2 K11 Rd
def xu (n:Nat):Sp:=fun vs H Q _=>∃ (l:Addr) (ws:List Str) (v:Int) (o:Option (List Str)),vs=[.ref l,.int v]/\WsAt H l ws/\AtW ws v o/\(∀ r,o=some r->r.length < 2 * n)/\∀ H' v',Same H H'->AtW ws v' (o.bind sB)->Q (.int v') H'
def vF (n:Nat):Sp:=fun vs H Q _=>∃ (l:Addr) (ws:List Str) (v:Int) (r:List Str),vs=[.ref l,.int v]/\WsAt H l ws/\AtW ws v (some r)/\r.length < 2 * n/\∀ H' v',Same H H'->AtW ws v' (aR (r.length + 1) 0 r)->Q (.int v') H'
theorem JM {r r':List Str} (h:hdR r=some r'):r'.length + 2<=r.length:=by
  unfold hdR at h
  obtain ⟨r1,a1,a2⟩:=Option.bind_eq_some_iff.mp h
  have:=ZN a1
  unfold utR at a2
  obtain ⟨p,h1,h2⟩:=Option.map_eq_some_iff.mp a2
  obtain ⟨ms,b1,b2,_⟩:=yJ (ns:=p.1) (r':=p.2) h1 (Nat.zero_le _)
  rw [b2,List.length_append,List.length_cons,h2] at this
  lia
theorem zcL {c:Bool} {A B:Prop} (k:A) (h:¬ c=true->A->B):if c=true then A else B:=by
  by_cases e:c=true
  · rw [if_pos e]; exact k
  · rw [if_neg e]; exact h e k
def mO:Option (List Str)->Nat
  | none=>0
  | some r=>r.length + 1
theorem Yu {ws:List Str} {i:Nat} {x:Str} (h:ws[i]?=some x):ws.drop i=x :: ws.drop (i + 1):=by
  obtain ⟨a,b⟩:=List.getElem?_eq_some_iff.mp h
  rw [List.drop_eq_getElem_cons a,b]
section
variable {P:Program} {w:World} {K:PySem.W.Frag} {mg:Str->Option Value} {base:Heap} {f:Addr} {fd:FuncData}
theorem WW (F:Fun K "_law_behind_arms" "_law_behind_arms" jp f fd) (sc:FnScope ["_law_words_here","_law_at","_law_many_here"] ["_law_words_here","_law_at"] (zn jp)):FnOk P w K mg base CX0 (5 + 0) f fd ["_law_words_here","_law_at"] (vF 0):=by
  refine F.by sc (fun vs H Q E h=>?_) (fun cdv A outer s H vs Q E hr h=>?_)
  · obtain ⟨l,ws,v,r,rfl,_⟩:=h
    rfl
  obtain ⟨l,ws,v,r,_,_,_,h0,_⟩:=h
  exact absurd h0 (by lia)
theorem scBArms:FnScope ["_law_words_here","_law_at","_law_many_here"] ["_law_words_here","_law_at"] (zn jp):=⟨rfl,rfl,rfl,by decide +kernel,rfl,by decide +kernel,by decide +kernel⟩
theorem JN {n:Nat} (F:Fun K "_law_behind_arms" "_law_behind_arms" jp f fd) (GW:Ca P w K mg base CX0 2 "_law_words" ["_law_words_here","_law_at","_law_many_here"] xt) (GT:Ca P w K mg base CX0 3 "_law_till" ["_law_words_here","_law_at","_law_stop"] ZQ) (GB:Ca P w K mg base CX0 (5 + n) "_law_behind" ["_law_words_here","_law_at"] (xu n)) (m_len:mg "len"=none):FnOk P w K mg base CX0 (5 + (n + 1)) f fd ["_law_words_here","_law_at"] (vF (n + 1)):=by
  rw [show 5 + (n + 1)=(5 + n) + 1 by lia]
  refine F.by scBArms (fun vs H Q E h=>?_) (fun cdv A outer s H vs Q E hr h=>?_)
  · obtain ⟨l,ws,v,r,rfl,_⟩:=h
    rfl
  obtain ⟨l,ws,v,r,rfl,hw,ho,hl,q⟩:=h
  have hr2:Room 2 _:=hr.mono (by lia)
  have hr3:Room 3 _:=hr.mono (by lia)
  refine ⟨_,
    (zd (zu (i:=2) scBArms.nd rfl (Or.inl rfl) zg)
    (zd (xa PassesOwn.never (jW.pt (vN (yN yX yR zg (jv 1) (zK zy rfl m_len PySem.boot_len (ja_c (jv 0) ze))) (vw (jW.pt (yQ (zt z7 (jv 2) zg (zw _)) (yD (zt xl (zE zG (jv 0) (jv 1) (fun _ _=>rfl)) zj (zw _))))))))
      (zd (zu (i:=1) scBArms.nd rfl (Or.inl rfl) (zN GB hr rfl zJ (ja_c (jv 0) (ja_c (zN GT hr3 rfl zJ (ja_c (jv 0) (ja_c (zN GW hr2 rfl zJ (ja_c (jv 0) (ja_c (jv 1) (ja_c zg ze)))) (ja_c zj ze)))) ze))))
      (zh (zu (i:=2) scBArms.nd rfl (Or.inl rfl) (zp zL (jv 2) zg)))))
    (zd (zC (jW.pt (yQ (yz (yN yX yR zg (jv 1) (zK zy rfl m_len PySem.boot_len (ja_c (jv 0) ze)))) (yD (zt ZZ (jv 2) zg (zw _)))))
      (zh (zq (yt zg)))  zv)
    (zh (zq (zp zL (jv 1) zg)))))),?_⟩
  have hs:=line
  generalize hT:aR (r.length + 1) 0 r=T at q
  refine cut2 fun r1_ hr1_=>?_
  refine ⟨fun m σ H'=>∃ (v:Int) (o:Option (List Str)) (many k:Nat),AtW ws v o/\(∀ r,o=some r->r.length < k/\r.length < 2 * (n + 1))/\m=mO o/\Same H H'/\o.bind (aR k many)=T/\σ=[some (.ref l),some (.int v),some (.int (many:Int))],⟨_,v,some r,0,r.length + 1,ho,(fun r' e=>by cases e; exact ⟨Nat.lt_succ_self _,hl⟩),rfl,Same.refl _,hT,rfl⟩,?_⟩
  rintro m σ H1 ⟨v,o,many,k,hv,hk,rfl,s1,hT1,rfl⟩
  have hw1:=hw.same s1
  have fin:∀ v',AtW ws v' T->∀ H',Same H1 H'->Q (.int v') H':=fun v' h H' s'=>q H' v' (s1.trans s') h
  rcases hv with ⟨rfl,rfl⟩ | ⟨i,hi,rfl,rfl⟩
  · refine ⟨_,rfl,_,_,rfl,rfl,_,rfl,iteF ⟨_,rfl,iteF (iteF ?_)⟩⟩
    subst hr1_
    show (tSeq _ _:TS) _ _ _
    exact ⟨_,rfl,_,_,rfl,rfl,_,rfl,iteF ⟨_,rfl,iteT (iteT ⟨_,rfl,fin _ (.inl ⟨rfl,hT1.symm⟩) _ (Same.refl _)⟩)⟩⟩
  have hT1:aR k many (ws.drop i)=T:=hT1
  obtain ⟨kl,nl⟩:=hk _ rfl
  refine ⟨_,rfl,_,_,rfl,rfl,_,rfl,ite2 (fun _=>?_) (fun c=>absurd (decide_eq_true (Int.natCast_nonneg i)) c)⟩
  refine ⟨_,rfl,l,_,rfl,.inl (SqL.of hw1.at_),_,_,rfl,rfl,_,rfl,?_⟩
  rw [List.length_map]
  obtain ⟨k,rfl⟩:∃ j,k=j + 1:=⟨k - 1,by lia⟩
  by_cases c1:i < ws.length
  · rw [decide_eq_true (by lia)]
    refine iteT ?_
    obtain ⟨x,hx⟩:∃ x,ws[i]?=some x:=⟨_,List.getElem?_eq_getElem c1⟩
    have e1:=Yu hx
    have hx':=xj hx
    unfold aR at hT1
    rw [e1] at hT1
    dsimp only at hT1
    refine ⟨_,rfl,rfl,_,rfl,?_⟩
    by_cases c0:many≠0/\x="end"
    · rw [decide_eq_false (fun z=>c0.1 (by have:=V.int.inj z; lia))]
      refine iteF ⟨_,rfl,_,rfl,l,_,_,_,rfl,rfl,SqL.of hw1.at_,hx',rfl,_,rfl,?_⟩
      rw [decide_eq_true (congrArg V.str c0.2)]
      refine iteF ?_
      subst hr1_
      show (tSeq _ _:TS) _ _ _
      rw [if_pos c0] at hT1
      refine ⟨_,rfl,_,_,rfl,rfl,_,rfl,ite2 (fun _=>?_) (fun c=>absurd (decide_eq_true (Int.natCast_nonneg i)) c)⟩
      refine ⟨_,rfl,l,_,rfl,.inl (SqL.of hw1.at_),_,_,rfl,rfl,_,rfl,?_⟩
      rw [List.length_map,decide_eq_true (by lia)]
      refine iteF ⟨_,rfl,_,_,rfl,rfl,_,rfl,?_⟩
      by_cases c20:many<=20
      · rw [decide_eq_false (by lia)]
        rw [if_pos c20] at hT1
        refine iteF (nxtC ?_)
        exact ⟨_,rfl,_,_,rfl,rfl,fin _ (.inr ⟨i + 1,by lia,rfl,hT1.symm⟩) _ (Same.refl _)⟩
      · rw [decide_eq_true (by lia)]
        rw [if_neg c20] at hT1
        exact iteT ⟨_,rfl,fin _ (.inl ⟨rfl,hT1.symm⟩) _ (Same.refl _)⟩
    · rw [if_neg c0,<- e1] at hT1
      refine zcL ?_ (fun c2 hK=>⟨_,rfl,_,rfl,l,_,_,_,rfl,rfl,SqL.of hw1.at_,hx',rfl,_,rfl,?_⟩)
      · refine iteT ⟨fun σ' H'=>∃ v3,AtW ws v3 ((hdR (ws.drop i)).bind sB)/\Same H1 H'/\σ'=[some (.ref l),some (.int v3),some (.int ((many + 1:Nat):Int))],?_,?_⟩
        · rintro σ' H' ⟨v3,h3,s3,rfl⟩
          have bnd:∀ r',(hdR (ws.drop i)).bind sB=some r'->r'.length < (ws.drop i).length:=fun r' e=>by
            obtain ⟨r1,a1,a2⟩:=Option.bind_eq_some_iff.mp e
            have:=zah a1
            have:=JD a2
            lia
          refine ⟨_,?_,v3,_,many + 1,k,h3,fun r' e=>?_,rfl,s1.trans s3,?_,rfl⟩
          · cases e:(hdR (ws.drop i)).bind sB with
            | none=>exact Nat.succ_pos _
            | some r'=>exact Nat.succ_lt_succ (bnd _ e)
          · have:=bnd r' e
            lia
          · rw [<- hT1,Option.bind_assoc]
        · refine ⟨_,rfl,_,rfl,_,rfl,_,rfl,l,ws,_,_,1,rfl,hw1,.inr ⟨i,hi,rfl,rfl⟩,by decide,fun H2 v2 s2 hv2=>?_⟩
          refine ⟨l,ws,v2,_,_,rfl,hw1.same s2,hv2,fun H3 v3 s3 hv3=>?_⟩
          have ehd:(((some (ws.drop i)).bind (nmN 1)).bind (utR ":"))=hdR (ws.drop i):=by
            show (nmN 1 (ws.drop i)).bind (utR ":")=_
            rw [nm1]
            rfl
          rw [ehd] at hv3
          refine ⟨l,ws,v3,_,rfl,hw1.same (s2.trans s3),hv3,fun r' e=>?_,fun H4 v4 s4 hv4=>?_⟩
          · have:=JM e
            lia
          · exact ⟨_,rfl,_,_,rfl,rfl,v4,hv4,(s2.trans s3).trans s4,rfl⟩
      · rw [decide_eq_false (fun z=>c0 ⟨fun e=>c2 (decide_eq_true (by rw [e]; rfl)),V.str.inj z⟩)]
        exact hK
  · rw [decide_eq_false (by lia)]
    refine iteF (iteF ?_)
    subst hr1_
    show (tSeq _ _:TS) _ _ _
    have e0:ws.drop i=[]:=List.drop_eq_nil_of_le (by lia)
    rw [e0] at hT1
    refine ⟨_,rfl,_,_,rfl,rfl,_,rfl,ite2 (fun _=>?_) (fun c=>absurd (decide_eq_true (Int.natCast_nonneg i)) c)⟩
    refine ⟨_,rfl,l,_,rfl,.inl (SqL.of hw1.at_),_,_,rfl,rfl,_,rfl,?_⟩
    rw [List.length_map,decide_eq_false (by lia)]
    exact iteT (iteT ⟨_,rfl,fin _ (.inl ⟨rfl,hT1.symm⟩) _ (Same.refl _)⟩)
end
end Rdr
namespace L2
open PySem PySem.Spec PyProof.Rows
section
variable {prog:Program} {w:World} {A:Around} {s:Shared} {E:Value->Shared->Prop}
end
def HandP (X:Cx):Prop:=∃ (eh:Addr) (oe:Obj) (ve:Array Value),X.A.handled=some (.ref eh)/\X.s₀.heap.get? eh=some oe/\X.H₀ eh=none/\eh ∉ X.fs/\eh ∉ X.ex/\oe.data=.fields ve/\ve[2]?=some .none
theorem HandP.now {X:Cx} {pins:List (Addr × Obj)} {σ:St} {H:Hp} {s:Shared} (h:HandP X) (I:Inv X pins σ H s):∃ (eh:Addr) (oe:Obj) (ve:Array Value),X.A.handled=some (.ref eh)/\s.heap.get? eh=some oe/\H eh=none/\eh ∉ X.fs/\eh < X.s₀.heap.objs.size/\eh ∉ X.ex/\oe.data=.fields ve/\ve[2]?=some .none:=by
  obtain ⟨eh,oe,ve,a1,a2,a3,a4,a5,a6,a7⟩:=h
  exact ⟨eh,oe,ve,a1,I.base.keep eh oe a2 a3 a4 a5,I.base.free eh oe a2 a3 a5,a4,Heap.lt_size a2,a5,a6,a7⟩
structure TurnC (Cn:Cx->Prop) (P:Program) (w:World) (K:PySem.W.Frag) (tg:Expr) (J:It) (fp:List Addr) (it:Addr) (tn:Nat->Heap->Prop):Prop where
  mem:it∈fp
  obj:∀ i h,tn i h->∀ b∈fp,∃ o,h.get? b=some o/\∀ v,o.data≠.cell v
  keep:∀ i h h',tn i h->(∀ b∈fp,∀ o,h.get? b=some o->h'.get? b=some o)->tn i h'
  item:∀ (X:Cx),X.prog=P->X.w=w->X.K=K->Cn X->∀ (i:Nat) (pins:List (Addr × Obj)) (s:Shared) (σ:St) (H:Hp) (E:Value->Shared->Prop),Inv X pins σ H s->(∀ b∈fp,FpOk X pins H b)->tn i s.heap->J.go i H ->
    wpAny (model P w) X.A (pyNext (.ref it)) (fun r s1=>∃ u,r=some u /\
      wpAny (model P w) X.A (letOwnedTupleGo tg (.ref it) u) (fun _ s2=>∃ x H',Inv X pins σ H' s2/\RelV x u/\J.yld i H x H'/\tn (i + 1) s2.heap/\∀ b∈fp,H' b=none) E s1) E s
  done:∀ (X:Cx),X.prog=P->X.w=w->X.K=K->Cn X->∀ (i:Nat) (pins:List (Addr × Obj)) (s:Shared) (σ:St) (H:Hp) (E:Value->Shared->Prop),Inv X pins σ H s->(∀ b∈fp,FpOk X pins H b)->tn i s.heap->J.stop i H ->
    wpAny (model P w) X.A (pyNext (.ref it)) (fun r s1=>r=none/\Inv X pins σ H s1) E s
  self:∀ (A:Around) (i:Nat) (s:Shared) (Q:Value->Shared->Prop) (E:Value->Shared->Prop),tn i s.heap->Q (.ref it) s->wpAny (model P w) A (pyIter (.ref it)) Q E s
end L2
namespace L2
open PySem PySem.Spec PyProof.Rows
section
variable {X:Cx} {scope:Scope} {cl:List (Str × Addr)} {S:List Nat} {pins:List (Addr × Obj)} {σ:St} {H:Hp} {s:Shared} {ex:List Addr} {M:List Str} {C:Addr}
variable {tg elt iter:Expr} {ifs:List Expr} {pos:Pos} {wi:TI} {g:TG} {tt:TT} {te:TE}
end
section
variable {X:Cx} {scope:Scope} {M:List Str} {tg elt l:Expr} {ifs:List Expr} {pos:Pos} {tl:TE} {g:TG} {tt:TT} {te:TE}
end
structure RoomH (k:Nat) (A:Around):Prop where
  dp:A.depth + 3 * k + 5 < recursionLimit
  un:A.units + 16 * k + 200 < cLine
theorem RoomH.deeper {k:Nat} {A:Around} (r:RoomH (k + 1) A) (env:Env):RoomH k (A.deeper env) :=
  ⟨by have:=r.dp; show A.depth + 1 + 3 * k + 5 < _; lia,by have:=r.un; show A.units + 3 + 16 * k + 200 < _; lia⟩
theorem Room.h {k:Nat} {A:Around} (r:Room k A) (u:Option Value):RoomH k (A.mark u):=⟨r.dp,r.un⟩
structure Hnd (A:Around) (outer:List Env) (s:Shared) (H:Hp) (e:Addr) (oe:Obj):Prop where
  h:A.handled=some (.ref e)
  g:s.heap.get? e=some oe
  n:H e=none
  f:e ∉ frs outer
  d:∃ ve:Array Value,oe.data=.fields ve/\ve[2]?=some .none
structure FnOkH (P:Program) (w:World) (K:PySem.W.Frag) (mg:Str->Option Value) (base:Heap) (k:Nat) (f:Addr) (fd:FuncData) (ps:List Str) (sp:Addr->Obj->Sp):Prop where
  len:∀ e oe vs H Q E,sp e oe vs H Q E->vs.length=ps.length
  run:∀ (A:Around) (outer:List Env) (s:Shared) (H:Hp) (args:Args) (us:List Value) (vs:List V) (Q:VK) (e:Addr) (oe:Obj),RoomH k A->Env0 P w K mg base A outer s H->Hnd A outer s H e oe->BindsTo s fd args (ps.zip us)->Vals vs us->sp e oe vs H Q E0 ->
    codeAny (model P w) A (.call (.ref f) args) (CR CX0 outer P w H s Q E0) s
abbrev zcM (P:Program) (w:World) (K:PySem.W.Frag) (mg:Str->Option Value) (base:Heap) (N:List Str) (qual:Str) (scope:Scope) (f:Addr) (cd:Value) (A:Around) (outer:List Env) (s:Shared) (H:Hp):Cx :=
  { cxOf CX0 P w K mg base N qual scope f cd A outer s H E0 with calm:=false,xe:=fun _ _=>False }
theorem Hnd.p {P:Program} {w:World} {K:PySem.W.Frag} {mg:Str->Option Value} {base:Heap} {N:List Str} {qual:Str} {scope:Scope} {f:Addr} {cd:Value} {A:Around} {outer:List Env} {s:Shared} {H:Hp} {e:Addr} {oe:Obj} (h:Hnd A outer s H e oe):HandP (zcM P w K mg base N qual scope f cd A outer s H) :=
  let ⟨ve,d1,d2⟩:=h.d; ⟨e,oe,ve,h.h,h.g,h.n,h.f,(fun z=>absurd (show e∈([]:List Addr) from z) (by simp)),d1,d2⟩
structure CaH (P:Program) (w:World) (K:PySem.W.Frag) (mg:Str->Option Value) (base:Heap) (k:Nat) (x:Str) (ps:List Str) (sp:Addr->Obj->Sp):Prop where
  ex:∃ f fd,FnOkH P w K mg base k f fd ps sp/\Binds K fd ps []/\PySem.W.keepIn K (.ref f)=true/\mg x=some (.ref f)
end L2
namespace PySem.W
open PySem PySem.Spec PySem.Calls PyProof.Rows
section
variable {prog:Program} {w:World} {A:Around} {E:Value->Shared->Prop} {s:Shared} {K:Frag} {e C:Addr} {ox od:Obj}
end
structure XIs (K:Frag) (C:Addr):Prop where
  ga:findIn K (.ref C) "__getattribute__"=some (some (.builtin "BaseException.__getattribute__"))
  ha:findIn K (.ref C) "__getattr__"=some none
  sb:subIn K (.ref C) (.type "BaseException")=some true
  hd:hasDictIn K C=true
  cl:findIn K (.ref C) "__class__"=some (some (.builtin "object.__class__"))
  gs:specialIn K (.builtin "object.__class__") "__get__"=some (some (.builtin "getset_descriptor.__get__"))
  tk:takesIn K (.builtin "object.__class__")=some true
  mo:mroIn K C (.type "object")=some true
end PySem.W
namespace L2
open PySem PySem.Spec PyProof.Rows
end L2
namespace L2
open PySem PySem.Spec PyProof.Rows
section
variable {X:Cx}
end
section
variable {X:Cx}
end
end L2
namespace L2
open PySem PySem.Spec PyProof.Rows
end L2
namespace L2
open PySem PySem.Spec PyProof.Rows
section
variable (P:Program) (w:World)
end
section
variable {P:Program} {w:World} {H H':Hp} {h h':Heap} {a:Addr} {o:HO}
end
section
variable {P:Program} {w:World} {H:Hp} {h h':Heap} {x e:Addr} {o':HO}
end
section
variable {fs fs' ex ex':List Addr} {H H1 H2:Hp} {h h1 h2 h':Heap} {a x e:Addr} {o:HO}
end
end L2
namespace L2
open PySem PySem.Spec PyProof.Rows
section
variable {X:Cx} {pins:List (Addr × Obj)} {σ:List (Option V)} {H H':Hp} {s:Shared} {h':Heap}
end
end L2
namespace L2
open PySem PySem.Spec PyProof.Rows
section
variable {X:Cx}
variable {a b:Expr} {ta tb:TE} {pos:Pos}
variable {tA tB':TT} {rest:List Expr}
end
end L2
namespace L2
open PySem PySem.Spec PyProof.Rows
section
variable {X:Cx} {pins:List (Addr × Obj)} {σ:St} {H:Hp} {s:Shared} {a:Addr} {xs ys:List V}
end
section
variable {X:Cx} {pins:List (Addr × Obj)} {σ:St} {H:Hp} {s:Shared} {E:Value->Shared->Prop}
end
section
variable {X:Cx} {st:Stmt} {rest:List Stmt} {t u:TS} {e:Expr} {te:TE} {pos:Pos}
end
section
variable {X:Cx} {pos:Pos}
end
section
variable {X:Cx} {pos:Pos}
end
end L2
namespace L2
open PySem PySem.Spec PyProof.Rows
section
variable {X:Cx} {tg:Expr}
end
end L2
namespace L2
open PySem PySem.Spec PyProof.Rows
section
variable {X:Cx} {a b c:Expr} {ta tb tc:TE} {pos:Pos}
end
section
variable {X:Cx} {a b c:Expr} {ta tb tc:TE} {pos:Pos}
end
end L2
namespace L2
open PySem PySem.Spec PyProof.Rows
section
variable {prog:Program} {w:World} {A:Around} {E:Value->Shared->Prop} {s:Shared} {K:PySem.W.Frag} {x dx C f:Addr} {mA:Str->Option Value} {name:Str} {v:Value}
end
section
variable {P:Program} {w:World} {H H':Hp} {h h':Heap} {a C dx:Addr} {fs fs':List (Str × V)}
end
section
variable {X:Cx} {pins:List (Addr × Obj)} {σ:St} {H:Hp} {s:Shared} {a C dx:Addr} {fs:List (Str × V)} {f:Str} {v:V} {A:Around} {E:Value->Shared->Prop}
end
section
variable {X:Cx} {o e value:Expr} {f:Str} {pos pos' tpos:Pos} {ta tv:TE}
end
section
variable {X:Cx} {pins:List (Addr × Obj)} {σ:St} {H:Hp} {s:Shared} {A:Around} {E:Value->Shared->Prop} {Q:Value->Shared->Prop} {c:Value} {b:Bool}
end
end L2
namespace L2
open PySem PySem.Spec PyProof.Rows
section
variable {X:Cx} {e:Expr} {es:List Expr} {te:TE} {t:TA} {pos:Pos}
end
section
variable {X:Cx} {pins:List (Addr × Obj)} {σ:St} {H:Hp} {s s':Shared}
end
section
variable {X:Cx} {CX:CXT} {k:Nat} {f C:Addr} {fd:FuncData} {ps:List Str} {sp:Sp} {dvs:List V} {ds:List Value} {E:XK} {x m:Str} {p pos apos:Pos} {e o:Expr} {es:List Expr} {ta:TE} {t:TA}
end
section
variable {X:Cx} {CX:CXT} {k:Nat} {f C:Addr} {fd:FuncData} {ps ks:List Str} {sp:Sp} {E:XK} {x m:Str} {p pos apos kpos:Pos} {e o:Expr} {es:List Expr} {kws:List Keyword} {te ta:TE} {t tk:TA} {nm:Option Str}
variable {g:List Value->List Value->List Value} {gV:List V->List V->List V}
end
end L2
namespace L2
open PySem PySem.Spec PyProof.Rows
section
variable {X:Cx} {x:Str} {p pos:Pos} {e:Expr} {es:List Expr} {t:TA} {id T:String} {r:List V->Hp->VK->Prop}
end
end L2
namespace L2
open PySem PySem.Spec PyProof.Rows
section
variable {κ:Type} [DecidableEq κ]
def valV (kvs:List (κ × V)) (k:κ):Option V:=(kvs.find? fun kv=>decide (kv.1=k)).map (·.2)
def putK (kvs:List (κ × V)) (k:κ) (v:V):List (κ × V) :=
  if (kvs.any fun kv=>decide (kv.1=k))=true then kvs.map (fun kv=>if kv.1=k then (kv.1,v) else kv) else kvs ++ [(k,v)]
def zaW (kvs:List (κ × V)) (k:κ):List (κ × V):=kvs.filter fun kv=>decide (kv.1≠k)
theorem jq {p:κ × V} {r:List (κ × V)} {k:κ} (e:p.1=k):valV (p :: r) k=some p.2:=by simp [valV,List.find?_cons,e]
theorem jr {p:κ × V} {r:List (κ × V)} {k:κ} (e:¬ p.1=k):valV (p :: r) k=valV r k:=by simp [valV,List.find?_cons,e]
theorem Yv (k:κ):∀ kvs:List (κ × V),(kvs.any fun kv=>decide (kv.1=k))=(valV kvs k).isSome
  | []=>rfl
  | p :: r=>by
    rw [List.any_cons]
    by_cases e:p.1=k
    · simp only [jq e,decide_eq_true e,Bool.true_or,Option.isSome_some]
    · rw [jr e,decide_eq_false e,Bool.false_or]; exact Yv k r
theorem RelO.isSome_eq {o:Option V} {u:Option Value} (r:RelO o u):o.isSome=u.isSome:=by
  cases o with
  | none=>cases u with
    | none=>rfl
    | some _=>exact (show False from r).elim
  | some _=>cases u with
    | none=>exact (show False from r).elim
    | some _=>rfl
theorem RelO.getD {o:Option V} {u:Option Value} {d:V} {d':Value} (r:RelO o u) (rd:RelV d d'):RelV (o.getD d) (u.getD d'):=by
  cases o with
  | none=>cases u with
    | none=>exact rd
    | some _=>exact (show False from r).elim
  | some _=>cases u with
    | none=>exact (show False from r).elim
    | some _=>exact r
theorem KV.val {kvs:List (κ × V)} {vs:List (κ × Value)} (r:KV kvs vs) (k:κ):RelO (valV kvs k) (valueAt vs k):=by
  unfold KV at r
  induction r with
  | nil=>exact True.intro
  | @cons p q ps qs h t ih =>
    obtain ⟨h1,h2⟩:=h
    by_cases e:p.1=k
    · have e':q.1=k:=h1.symm.trans e
      have b:valueAt (q :: qs) k=some q.2:=by simp [valueAt,List.find?_cons,e']
      rw [jq e,b]; exact h2
    · have e':¬ q.1=k:=fun z=>e (h1.trans z)
      have b:valueAt (q :: qs) k=valueAt qs k:=by simp [valueAt,List.find?_cons,e']
      rw [jr e,b]; exact ih
theorem KV.any {kvs:List (κ × V)} {vs:List (κ × Value)} (r:KV kvs vs) (k:κ):(kvs.any fun kv=>decide (kv.1=k))=vs.any fun kv=>decide (kv.1=k):=by
  unfold KV at r
  induction r with
  | nil=>rfl
  | cons h t ih=>rw [List.any_cons,List.any_cons,ih,h.1]
theorem KV.repl {kvs:List (κ × V)} {vs:List (κ × Value)} (r:KV kvs vs) (k:κ) {y:V} {u:Value} (ry:RelV y u) :
    KV (kvs.map fun kv=>if kv.1=k then (kv.1,y) else kv) (vs.map fun kv=>if kv.1=k then (kv.1,u) else kv):=by
  unfold KV at r ⊢
  induction r with
  | nil=>exact .nil
  | @cons p q ps qs h t ih =>
    rw [List.map_cons,List.map_cons]
    refine .cons ?_ ih
    obtain ⟨h1,h2⟩:=h
    by_cases e:p.1=k
    · rw [if_pos e,if_pos (h1.symm.trans e)]; exact ⟨h1,ry⟩
    · rw [if_neg e,if_neg (fun z=>e (h1.trans z))]; exact ⟨h1,h2⟩
theorem KV.put {kvs:List (κ × V)} {vs:List (κ × Value)} (r:KV kvs vs) (k:κ) {y:V} {u:Value} (ry:RelV y u):KV (putK kvs k y) (stored vs k u):=by
  unfold putK stored
  rw [r.any k]
  by_cases e:(vs.any fun kv=>decide (kv.1=k))=true
  · rw [if_pos e,if_pos e]; exact r.repl k ry
  · rw [if_neg e,if_neg e]; exact Paired.snoc r ⟨rfl,ry⟩
theorem KV.drop {kvs:List (κ × V)} {vs:List (κ × Value)} (r:KV kvs vs) (k:κ):KV (zaW kvs k) (without vs k):=by
  unfold KV at r ⊢
  unfold zaW without
  induction r with
  | nil=>exact .nil
  | @cons p q ps qs h t ih =>
    obtain ⟨h1,h2⟩:=h
    rw [List.filter_cons,List.filter_cons]
    by_cases e:p.1=k
    · have a:¬ decide (p.1≠k)=true:=by simp [e]
      have b:¬ decide (q.1≠k)=true:=by simp [h1.symm.trans e]
      rw [if_neg a,if_neg b]; exact ih
    · have e':¬ q.1=k:=fun z=>e (h1.trans z)
      have a:decide (p.1≠k)=true:=by simp [e]
      have b:decide (q.1≠k)=true:=by simp [e']
      rw [if_pos a,if_pos b]; exact .cons ⟨h1,h2⟩ ih
theorem KV.keys {kvs:List (κ × V)} {vs:List (κ × Value)} (r:KV kvs vs):kvs.map (·.1)=vs.map (·.1):=by
  unfold KV at r
  induction r with
  | nil=>rfl
  | cons h t ih=>rw [List.map_cons,List.map_cons,ih,h.1]
theorem KV.length {kvs:List (κ × V)} {vs:List (κ × Value)} (r:KV kvs vs):kvs.length=vs.length:=Paired.length r
end
abbrev KT (H:Hp):List (List Key × V)->List (List Key × Addr × Value)->Prop:=Paired fun p q=>p.1=q.1/\H q.2.1=some (.tup (p.1.map kV))/\RelV p.2 q.2.2
theorem KT.val {H:Hp} {kvs:List (List Key × V)} {xs:List (List Key × Addr × Value)} (r:KT H kvs xs) (k:List Key):RelO (valV kvs k) ((atKey xs k).map (·.2)):=by
  induction r with
  | nil=>exact True.intro
  | @cons p q ps qs h t ih =>
    obtain ⟨h1,_,h2⟩:=h
    by_cases e:p.1=k
    · have e':q.1=k:=h1.symm.trans e
      have b:atKey (q :: qs) k=some q.2:=by simp [atKey,List.find?_cons,e']
      rw [jq e,b]; exact h2
    · have e':¬ q.1=k:=fun z=>e (h1.trans z)
      have b:atKey (q :: qs) k=atKey qs k:=by simp [atKey,List.find?_cons,e']
      rw [jr e,b]; exact ih
theorem KT.repl {H:Hp} {kvs:List (List Key × V)} {xs:List (List Key × Addr × Value)} (r:KT H kvs xs) (k:List Key) {y:V} {u:Value} (ry:RelV y u) :
    KT H (kvs.map fun kv=>if kv.1=k then (kv.1,y) else kv) (xs.map (putAt k u)):=by
  induction r with
  | nil=>exact .nil
  | @cons p q ps qs h t ih =>
    rw [List.map_cons,List.map_cons]
    refine .cons ?_ ih
    obtain ⟨h1,h2,h3⟩:=h
    unfold putAt
    by_cases e:p.1=k
    · rw [if_pos e,if_pos (h1.symm.trans e)]; exact ⟨h1,h2,ry⟩
    · rw [if_neg e,if_neg (fun z=>e (h1.trans z))]; exact ⟨h1,h2,h3⟩
theorem KT.put {H:Hp} {kvs:List (List Key × V)} {xs:List (List Key × Addr × Value)} (r:KT H kvs xs) (k:List Key) {b:Addr} {y:V} {u:Value} (hb:H b=some (.tup (k.map kV))) (ry:RelV y u) :
    KT H (putK kvs k y) (storedH xs k b u):=by
  have e:(kvs.any fun kv=>decide (kv.1=k))=(atKey xs k).isSome:=by
    rw [Yv,(r.val k).isSome_eq,Option.isSome_map]
  unfold putK storedH
  rw [e]
  by_cases q:(atKey xs k).isSome=true
  · rw [if_pos q,if_pos q]; exact r.repl k ry
  · rw [if_neg q,if_neg q]; exact Paired.snoc r ⟨rfl,hb,ry⟩
theorem KT.keeps {H H':Hp} {kvs:List (List Key × V)} {xs:List (List Key × Addr × Value)} (r:KT H kvs xs) (ht:∀ b ys,H b=some (.tup ys)->H' b=some (.tup ys)):KT H' kvs xs :=
  Paired.mapP r fun _ _ z=>⟨z.1,ht _ _ z.2.1,z.2.2⟩
section
variable {P:Program} {w:World} {H:Hp} {h:Heap} {a:Addr}
end
def DGet (H:Hp) (a:Addr) (y:V) (r:Option V):Prop :=
  (∃ kvs k,Rd H a (.dK kvs)/\y=kV k/\r=valV kvs k)\/∃ kvs k b,Rd H a (.dT kvs)/\y=.ref b/\H b=some (.tup (k.map kV))/\r=valV kvs k
def DPut (H:Hp) (a:Addr) (y v:V) (H':Hp):Prop :=
  (∃ kvs k,H a=some (.dK kvs)/\y=kV k/\kvs.length < sizeLine/\H'=upd H a (.dK (putK kvs k v))) \/
  ∃ kvs k b,H a=some (.dT kvs)/\y=.ref b/\H b=some (.tup (k.map kV))/\kvs.length < sizeLine/\H'=upd H a (.dT (putK kvs k v))
theorem DGet.k {H:Hp} {a:Addr} {kvs:List (Key × V)} {k:Key} (e:H a=some (.dK kvs)):DGet H a (kV k) (valV kvs k):=.inl ⟨kvs,k,.inl e,rfl,rfl⟩
theorem DGet.t {H:Hp} {a b:Addr} {kvs:List (List Key × V)} {k:List Key} (e:H a=some (.dT kvs)) (eb:H b=some (.tup (k.map kV))):DGet H a (.ref b) (valV kvs k):=.inr ⟨kvs,k,b,.inl e,rfl,eb,rfl⟩
theorem DPut.k {H:Hp} {a:Addr} {kvs:List (Key × V)} {k:Key} {v:V} (e:H a=some (.dK kvs)) (hl:kvs.length < sizeLine):DPut H a (kV k) v (upd H a (.dK (putK kvs k v))):=.inl ⟨kvs,k,e,rfl,hl,rfl⟩
theorem DPut.t {H:Hp} {a b:Addr} {kvs:List (List Key × V)} {k:List Key} {v:V} (e:H a=some (.dT kvs)) (eb:H b=some (.tup (k.map kV))) (hl:kvs.length < sizeLine) :
    DPut H a (.ref b) v (upd H a (.dT (putK kvs k v))):=.inr ⟨kvs,k,b,e,rfl,eb,hl,rfl⟩
section
variable {X:Cx} {pins:List (Addr × Obj)} {σ:St} {H:Hp} {s:Shared} {a:Addr} {y v:V} {u r:Value} {o:Option V} {A:Around} {E:Value->Shared->Prop}
theorem Inv.big (I:Inv X pins σ H s):sysModules < s.heap.objs.size:=by
  have h:mainGlobals < s.heap.objs.size:=(I.mod.glob.keeps I.bk).lt
  exact Nat.lt_trans (by decide) h
end
section
variable {X:Cx} {pins:List (Addr × Obj)} {σ:St} {H:Hp} {s:Shared} {a:Addr} {kvs:List (Key × V)} {k:Key} {u:Value} {A:Around} {E:Value->Shared->Prop}
end
section
variable {X:Cx} {o i e value:Expr} {pos pos' tpos:Pos} {td ty tv:TE}
end
section
variable {X:Cx} {pos:Pos}
end
structure M1 (X:Cx) (o:Expr) (m:Str) (apos:Pos) (e:Expr) (cpos:Pos):Prop where
  base:attributeBase o m X.env (eval o X.env)=eval o X.env
  few:((backTo cpos (starEach [e] X.env)).all (fun x=>!x.1) && (backToKw cpos (keywordEach [] X.env)).all (fun x=>x.1.isSome)
    && decide (([e]:List Expr).length + ([]:List Keyword).length + (if ([]:List Keyword).isEmpty then 0 else 1) < 30))=true
  line:(apos.endLine == cpos.line)=true
  trees:backTo cpos (starEach [e] X.env)=[(false,eval e X.env)]
structure M2 (X:Cx) (o:Expr) (m:Str) (apos:Pos) (e f:Expr) (cpos:Pos):Prop where
  base:attributeBase o m X.env (eval o X.env)=eval o X.env
  few:((backTo cpos (starEach [e,f] X.env)).all (fun x=>!x.1) && (backToKw cpos (keywordEach [] X.env)).all (fun x=>x.1.isSome)
    && decide (([e,f]:List Expr).length + ([]:List Keyword).length + (if ([]:List Keyword).isEmpty then 0 else 1) < 30))=true
  line:(apos.endLine == cpos.line)=true
  trees:backTo cpos (starEach [e,f] X.env)=[(false,eval e X.env),(false,eval f X.env)]
section
variable {X:Cx} {pins:List (Addr × Obj)} {σ:St} {H:Hp} {s:Shared} {a:Addr} {y d:V} {u r:Value} {o:Option V} {A:Around} {E:Value->Shared->Prop}
end
section
variable {X:Cx} {o e f:Expr} {apos cpos:Pos} {td ty tx:TE}
end
section
variable {X:Cx} {pins:List (Addr × Obj)} {σ:St} {H:Hp} {s:Shared} {a:Addr} {kvs:List (Key × V)} {A:Around} {E:Value->Shared->Prop}
end
section
variable {X:Cx} {pins:List (Addr × Obj)} {σ:St} {H:Hp} {s:Shared} {a:Addr} {y:V} {u:Value} {A:Around} {E:Value->Shared->Prop}
end
end L2
namespace Att
open PySem PySem.W PySem.Calls PyProof.Rows
section
variable {prog:Program} {w:World} {A:Around} {E:Value->Shared->Prop} {s:Shared} {K:Frag}
end
end Att
namespace L2
open PySem PySem.Spec PyProof.Rows
end L2
namespace L2
open PySem PySem.Spec PyProof.Rows
end L2
namespace L2
open PySem PySem.Spec PyProof.Rows
section
variable {P:Program} {w:World} {K:PySem.W.Frag} {mg:Str->Option Value} {base:Heap}
end
section
variable {X:Cx}
end
section
variable {κ:Type} [DecidableEq κ]
end
end L2
namespace L2
open PySem PySem.Spec PyProof.Rows
section
variable {X:Cx} {pos:Pos}
end
theorem SqK.l {K:PySem.W.Frag} {H:Hp} {a:Addr} {xs:List V} (h:H a=some (.lst xs)):SqK true K H a xs:=SqL.of h
theorem SqK.t {K:PySem.W.Frag} {H:Hp} {a:Addr} {xs:List V} (h:H a=some (.tup xs)):SqK false K H a xs:=SqT.of h
end L2
namespace L2
open PySem PySem.Spec PyProof.Rows
section
variable {X:Cx} {pins:List (Addr × Obj)} {σ:St} {H:Hp} {s:Shared} {h':Heap}
end
section
variable {X:Cx}
abbrev Prs (H:Hp):List (Key × V)->List Addr->Prop:=Paired fun kv t=>H t=some (.tup [kV kv.1,kv.2])
theorem KV.get {kvs:List (Key × V)} {ws:List (Key × Value)} (r:KV kvs ws) {j:Nat} {k:Key} {x:Value} (h:ws[j]?=some (k,x)):∃ y,kvs[j]?=some (k,y)/\RelV y x:=by
  unfold KV at r
  induction r generalizing j with
  | nil=>simp at h
  | @cons p q ps qs hh t ih =>
    cases j with
    | zero =>
      simp at h
      subst h
      obtain ⟨p1,p2⟩:=p
      have e:p1=k:=hh.1
      subst e
      exact ⟨p2,rfl,hh.2⟩
    | succ j =>
      obtain ⟨y,h1,h2⟩:=ih (j:=j) (by simpa using h)
      exact ⟨y,by simpa using h1,h2⟩
end
end L2
namespace L2
open PySem PySem.Spec PyProof.Rows
section
variable {X:Cx}
theorem zat:jCa X (.type "int") (fun xs H Q=>(∃ i,xs=[.int i]/\Q (.int i) H)\/∃ k,xs=[.bl k]/\Q (.int (if k then 1 else 0)) H):=⟨Wu⟩
theorem xf {st:Stmt}:jS X st (fun _ _ _=>False):=⟨fun _ _ _ _ _ _ h=>h.elim⟩
end
section
variable {X:Cx} {Ch:Addr} {x n z:Str} {i j k:Nat} {np hpos tpos pz spos:Pos} {b0:Stmt} {suite:List Stmt} {th:Addr->Obj->TS} {ps:List Str} {sp:Sp} {y:Str} {p cpos:Pos} {a:Expr} {as:List Expr} {t:TA}
def zcN (K:PySem.W.Frag) (Ch:Addr) (i j:Nat) (sp:Sp) (t:TA) (th:Addr->Obj->TS):TS:=fun D σ H=>t σ H fun vs H1=>sp vs H1 (fun v H2=>D.nx (σ.set j (some v)) H2) (VG K Ch i th D σ)
theorem zau (F:Ca X.prog X.w X.K X.mg X.base (CXf X.prog X.w) k y ps sp) (hr:Room k X.A) (hgf:Gl X y) (ha:jA X (a :: as) t)
    (hN:X.N.Nodup) (hi:X.N[i]?=some n) (hj:X.N[j]?=some z) (hg:Gl X x) (hm:X.mg x=some (.ref Ch)) (hS:∀ e oe,jSs (X.inEx (.ref e) [(e,oe)]) (b0 :: suite) (th e oe)) (hz:X.env.scope.names.lookup z=some .local:=by rfl) (hl:X.env.scope.names.lookup n=some .local:=by rfl) (hst:X.stack=X.env :: X.outer:=by rfl) (hf:X.env.frame=some X.env.locals:=by rfl) (hnx:X.xe=fun _ _=>False:=by rfl)
    (hdf:(y == ("__debug__":Str))=false:=by decide) (hdb:(x == ("__debug__":Str))=false:=by decide) (h1:zP a=false:=by rfl) (h2:as.all (fun e=>!zP e)=true:=by rfl)
    (hs:swapsWith (.Call (.Name y p) (a :: as) [] cpos) (some (.Name z pz)) spos.line X.env=pure false:=by rfl) :
    jS X (.Try [.Assign [.Name z pz] (.Call (.Name y p) (a :: as) [] cpos) spos] [.ExceptHandler (some (.Name x np)) (some n) (b0 :: suite) hpos] [] [] tpos) (zcN X.K Ch i j sp t th):=by
  constructor
  intro pins s σ H D I h
  obtain ⟨f,fd,G,hb,hkf,hmf⟩:=F.ex
  refine wpAny_Try_except (wpAny_execs_cons (wpAny_Assign_Name (wpAny_Call_Name_kw (xv I hgf hmf ?_ hdf)) hs))
  refine PySem.W.callWith_K (h₀:=X.base) I.ok.mod.kin hkf (wpAny_mono (ha.out cpos pins s σ H _ I h) (fun us s1 ⟨vs,H1,I1,r,q⟩=>⟨I1.kIn,?_⟩) fun u s' z=>by rw [hnx] at z; exact False.elim z) (zV h1) (yE h2)
  have hlen:us.length=ps.length:=by rw [<- r.length]; exact G.len _ _ _ _ q
  have bd:=hb s1 us I1.kIn (by rw [List.append_nil]; exact hlen)
  rw [List.append_nil] at bd
  refine wpAny_call (codeAny_mono (G.run X.A X.stack s1 H1 ⟨us,[]⟩ us vs _ _ hr I1.env0 bd r q) fun r s' hq=>?_)
  cases r with
  | error u=>exact WF hN hi hl hst hf hg hm (fun e oe=>(hS e oe).out) hdb (VA rfl rfl I1 hq)
  | ok fl =>
    cases fl with
    | ret u =>
      obtain ⟨v,H',I2,rv,q2⟩:=I1.after hq
      exact xk I2 hN hj (.inl hz) rv (fun s3 I3=>wpAny_execs_nil (wpAny_execs_nil ⟨_,H',I3,q2⟩)) (.inr hz)
    | next=>exact False.elim hq
    | brk=>exact False.elim hq
    | cont=>exact False.elim hq
end
end L2
namespace Rdr
open PySem L2 K11 Rd
def FOUR:List Str:=["give","let","if","case"]
section
variable {P:Program} {w:World} {K:PySem.W.Frag} {mg:Str->Option Value} {base:Heap} {f:Addr} {fd:FuncData}
theorem scBehind:FnScope ["_law_words_here","_law_at","_law_inner"] ["_law_words_here","_law_at"] (zn vE):=⟨rfl,rfl,rfl,by decide +kernel,rfl,by decide +kernel,by decide +kernel⟩
theorem WX {n:Nat} (F:Fun K "_law_behind" "_law_behind" vE f fd) (GW:Ca P w K mg base CX0 2 "_law_words" ["_law_words_here","_law_at","_law_many_here"] xt) (GD:Ca P w K mg base CX0 4 "_law_behind_deed" ["_law_words_here","_law_at"] Wm) (GA:Ca P w K mg base CX0 (5 + n) "_law_behind_arms" ["_law_words_here","_law_at"] (vF n)) (GB:Ca P w K mg base CX0 (5 + n) "_law_behind" ["_law_words_here","_law_at"] (xu n)) (m_len:mg "len"=none):FnOk P w K mg base CX0 (5 + (n + 1)) f fd ["_law_words_here","_law_at"] (xu (n + 1)):=by
  rw [show 5 + (n + 1)=(5 + n) + 1 by lia]
  refine F.by scBehind (fun vs H Q E h=>?_) (fun cdv A outer s H vs Q E hr h=>?_)
  · obtain ⟨l,ws,v,o,rfl,_⟩:=h
    rfl
  obtain ⟨l,ws,v,o,rfl,hw,ho,hl,q⟩:=h
  have hr2:Room 2 _:=hr.mono (by lia)
  have hr4:Room 4 _:=hr.mono (by lia)
  have hrB:Room (5 + n) _:=hr
  refine ⟨_,
    (zd (zC (jW.pt (yQ (yz (yN yX yR zg (jv 1) (zK zy rfl m_len PySem.boot_len (ja_c (jv 0) ze)))) (yD (zt y6 (zE zG (jv 0) (jv 1) (fun _ _=>rfl)) (zB (ja_c zj (ja_c zj (ja_c zj (ja_c zj ze))))) (by with_unfolding_all rfl)))))
      (zh (zq (yt zg)))  zv)
    (zd (zu (i:=2) scBehind.nd rfl (Or.inl rfl) (zN GW hr2 rfl zJ (ja_c (jv 0) (ja_c (zp zL (jv 1) zg) (ja_c zg ze)))))
    (zd (zC (jW.pt (yQ (zt yR (jv 2) zg (zw _)) (yD (zt z7 (zE zG (jv 0) (jv 1) (fun _ _=>rfl)) zj (zw _)))))
      (zh (zq (jv 2)))  zv)
    (zd (zC (zt z7 (zE zG (jv 0) (jv 1) (fun _ _=>rfl)) zj (zw _))
      (zh (zq (zN GB hrB rfl zJ (ja_c (jv 0) (ja_c (zN GD hr4 rfl zJ (ja_c (jv 0) (ja_c (jv 2) ze))) ze)))))  zv)
    (zd (zC (zt z7 (zE zG (jv 0) (jv 1) (fun _ _=>rfl)) zj (zw _))
      (zh (zq (zN GA hr rfl zJ (ja_c (jv 0) (ja_c (jv 2) ze)))))  zv)
    (zd (zu (i:=2) scBehind.nd rfl (Or.inl rfl) (zN GB hrB rfl zJ (ja_c (jv 0) (ja_c (jv 2) ze))))
    (zd (zC (jW.pt (yQ (yz (yN yX yR zg (jv 2) (zK zy rfl m_len PySem.boot_len (ja_c (jv 0) ze)))) (yD (zt xl (zE zG (jv 0) (jv 2) (fun _ _=>rfl)) zj (zw _)))))
      (zh (zq (yt zg)))  zv)
    (zh (zq (zN GB hrB rfl zJ (ja_c (jv 0) (ja_c (zp zL (jv 2) zg) ze)))))))))))),?_⟩
  have hs:=line
  refine cut1 fun r1_ hr1_=>?_
  rcases ho with ⟨rfl,rfl⟩ | ⟨i,hi,rfl,rfl⟩
  · exact ⟨_,rfl,_,_,rfl,rfl,_,rfl,iteF ⟨_,rfl,iteT (iteT ⟨_,rfl,q _ (-1) (Same.refl _) (.inl ⟨rfl,rfl⟩)⟩)⟩⟩
  have nv:∀ v',AtW ws v' (sB (ws.drop i))->∀ H',Same H H'->Q (.int v') H':=fun v' h H' s'=>q H' v' s' h
  have nope:sB (ws.drop i)=none->∀ H',Same H H'->Q (.int (-1)) H':=fun e=>nv _ (.inl ⟨rfl,e⟩)
  have hl:=hl _ rfl
  refine ⟨_,rfl,_,_,rfl,rfl,_,rfl,ite2 (fun _=>?_) (fun c=>absurd (decide_eq_true (Int.natCast_nonneg i)) c)⟩
  refine ⟨_,rfl,l,_,rfl,.inl (SqL.of hw.at_),_,_,rfl,rfl,_,rfl,?_⟩
  rw [List.length_map]
  by_cases c1:¬ (i < ws.length)
  · rw [decide_eq_false (by lia)]
    exact iteT (iteT ⟨_,rfl,nope (by rw [List.drop_eq_nil_of_le (by lia)]; rfl) _ (Same.refl _)⟩)
  have c1:=Classical.not_not.mp c1
  rw [decide_eq_true (by lia)]
  refine iteF ?_
  obtain ⟨x,hx⟩:∃ x,ws[i]?=some x:=⟨_,List.getElem?_eq_getElem c1⟩
  have e1:=Yu hx
  have hx':=xj hx
  have a1:AtW ws ((i:Int) + 1) (some (ws.drop (i + 1))):=.inr ⟨i + 1,by lia,rfl,rfl⟩
  rw [e1,List.length_cons] at hl
  rw [e1,zaj] at nv nope
  refine ⟨_,rfl,_,rfl,l,_,_,_,rfl,rfl,SqL.of hw.at_,hx',by show 4<=sizeLine; decide,fun p hp=>?_⟩
  have s1:=zi hp (.lst (FOUR.map V.str))
  have hp1:=zc (H:=H) (a:=p) (o:=.lst (FOUR.map V.str))
  show rIn _ true _ _ (upd H p (.lst (FOUR.map V.str))) _
  generalize upd H p (.lst (FOUR.map V.str))=H1 at *
  refine ⟨p,_,rfl,.inl (SqL.of hp1),rfl,(by decide),_,rfl,?_⟩
  rw [xg]
  by_cases c2:¬ (x∈FOUR)
  · rw [decide_eq_false c2]
    refine iteT ⟨_,rfl,nope ?_ _ s1⟩
    have d:∀ y,y∈FOUR->x≠y:=fun y hy e=>c2 (e ▸ hy)
    rw [if_neg (d _ (by decide)),if_neg (d _ (by decide)),if_neg (d _ (by decide)),if_neg (d _ (by decide))]
  have c2:=Classical.not_not.mp c2
  rw [decide_eq_true c2]
  refine iteF (nxtC ?_)
  dsimp only
  subst hr1_
  refine cut2 fun r2_ hr2_=>?_
  refine ⟨_,rfl,_,rfl,_,_,rfl,rfl,l,ws,_,_,1,rfl,hw.same s1,a1,by decide,fun H2 v2 s2 hv2=>?_⟩
  have hv2:AtW ws v2 (nmN 1 (ws.drop (i + 1))):=hv2
  rw [nm1] at hv2
  have s02:=s1.trans s2
  have hw2:=hw.same s02
  refine ⟨_,rfl,_,_,rfl,rfl,_,rfl,?_⟩
  rcases hv2 with ⟨rfl,en⟩ | ⟨j,hj,rfl,en⟩
  · refine iteT (iteT ⟨_,rfl,nope ?_ _ s02⟩)
    rw [en]
    split
    · rfl
    · split
      · rfl
      · split
        · rfl
        · split <;> rfl
  rw [en] at nv nope
  have jl:=ZN en
  rw [decide_eq_false (by lia)]
  refine iteF ⟨_,rfl,_,rfl,l,_,_,_,rfl,rfl,SqL.of hw2.at_,hx',rfl,_,rfl,?_⟩
  have aj:AtW ws (j:Int) (some (ws.drop j)):=.inr ⟨j,hj,rfl,rfl⟩
  by_cases cg:x="give"
  · rw [decide_eq_true (congrArg V.str cg)]
    rw [if_pos cg] at nv
    exact iteT ⟨_,rfl,nv _ aj _ s02⟩
  rw [decide_eq_false (fun z=>cg (V.str.inj z))]
  rw [if_neg cg] at nv nope
  refine iteF (nxtC ?_)
  dsimp only
  subst hr2_
  refine cut1 fun r3_ hr3_=>?_
  refine ⟨_,rfl,_,rfl,l,_,_,_,rfl,rfl,SqL.of hw2.at_,hx',rfl,_,rfl,?_⟩
  by_cases cl:x="let"
  · rw [decide_eq_true (congrArg V.str cl)]
    rw [if_pos cl,Option.bind_some] at nv
    refine iteT ⟨_,rfl,_,rfl,_,rfl,l,ws,_,_,rfl,hw2,aj,fun H3 v3 s3 hv3=>?_⟩
    have hv3:AtW ws v3 (ddR (ws.drop j)):=hv3
    refine ⟨l,ws,v3,_,rfl,hw2.same s3,hv3,fun r' e=>?_,fun H4 v4 s4 hv4=>nv _ hv4 _ ((s02.trans s3).trans s4)⟩
    have:=zai e
    lia
  rw [decide_eq_false (fun z=>cl (V.str.inj z))]
  rw [if_neg cl] at nv nope
  refine iteF (nxtC ?_)
  dsimp only
  subst hr3_
  refine cut1 fun r4_ hr4_=>?_
  refine ⟨_,rfl,_,rfl,l,_,_,_,rfl,rfl,SqL.of hw2.at_,hx',rfl,_,rfl,?_⟩
  by_cases cc:x="case"
  · rw [decide_eq_true (congrArg V.str cc)]
    have ni:x≠"if":=fun e=>by rw [cc] at e; exact absurd e (by decide)
    rw [if_neg ni,if_pos cc,Option.bind_some] at nv
    exact iteT ⟨_,rfl,_,rfl,l,ws,_,_,rfl,hw2,aj,by lia,fun H3 v3 s3 hv3=>nv _ hv3 _ (s02.trans s3)⟩
  rw [decide_eq_false (fun z=>cc (V.str.inj z))]
  have ci:x="if":=by
    unfold FOUR at c2
    simp only [List.mem_cons,List.not_mem_nil,or_false] at c2
    rcases c2 with e | e | e | e
    · exact absurd e cg
    · exact absurd e cl
    · exact e
    · exact absurd e cc
  rw [if_pos ci,Option.bind_some] at nv nope
  refine iteF (nxtC ?_)
  dsimp only
  subst hr4_
  refine cut1 fun r5_ hr5_=>?_
  refine ⟨_,rfl,_,rfl,l,ws,_,_,rfl,hw2,aj,fun r' e=>by cases e; lia,fun H3 v3 s3 hv3=>?_⟩
  have hv3:AtW ws v3 (sB (ws.drop j)):=hv3
  have s03:=s02.trans s3
  have hw3:=hw.same s03
  subst hr5_
  dsimp only
  rcases hv3 with ⟨rfl,es⟩ | ⟨k,hk,rfl,es⟩
  · rw [es] at nope
    exact ⟨_,rfl,_,_,rfl,rfl,_,rfl,iteF ⟨_,rfl,iteT (iteT ⟨_,rfl,nope rfl _ s03⟩)⟩⟩
  rw [es,Option.bind_some] at nv nope
  have kl:=JD es
  refine ⟨_,rfl,_,_,rfl,rfl,_,rfl,ite2 (fun _=>?_) (fun c=>absurd (decide_eq_true (Int.natCast_nonneg k)) c)⟩
  refine ⟨_,rfl,l,_,rfl,.inl (SqL.of hw3.at_),_,_,rfl,rfl,_,rfl,?_⟩
  rw [List.length_map]
  by_cases ck:¬ (k < ws.length)
  · rw [decide_eq_false (by lia)]
    exact iteT (iteT ⟨_,rfl,nope (by rw [List.drop_eq_nil_of_le (by lia)]) _ s03⟩)
  have ck:=Classical.not_not.mp ck
  rw [decide_eq_true (by lia)]
  obtain ⟨y,hy⟩:∃ y,ws[k]?=some y:=⟨_,List.getElem?_eq_getElem ck⟩
  have e2:=Yu hy
  rw [e2] at nv nope
  dsimp only at nv nope
  refine iteF ⟨_,rfl,_,rfl,l,_,_,_,rfl,rfl,SqL.of hw3.at_,xj hy,rfl,_,rfl,?_⟩
  by_cases ce:y="else"
  · rw [decide_eq_true (congrArg V.str ce)]
    rw [if_pos ce] at nv
    rw [e2,List.length_cons] at kl
    refine iteF (nxtC ?_)
    exact ⟨_,rfl,_,rfl,_,_,rfl,rfl,l,ws,_,_,rfl,hw3,(.inr ⟨k + 1,by lia,rfl,rfl⟩),(fun r' e=>by cases e; lia),fun H4 v4 s4 hv4=>nv _ hv4 _ (s03.trans s4)⟩
  · rw [decide_eq_false (fun z=>ce (V.str.inj z))]
    rw [if_neg ce] at nope
    exact iteT ⟨_,rfl,nope rfl _ s03⟩
theorem Xq (F:Fun K "_law_behind" "_law_behind" vE f fd) (m_len:mg "len"=none):FnOk P w K mg base CX0 (5 + 0) f fd ["_law_words_here","_law_at"] (xu 0):=by
  refine F.by scBehind (fun vs H Q E h=>?_) (fun cdv A outer s H vs Q E hr h=>?_)
  · obtain ⟨l,ws,v,o,rfl,_⟩:=h
    rfl
  obtain ⟨l,ws,v,o,rfl,hw,ho,hl,q⟩:=h
  refine ⟨_,
    (zd (zC (jW.pt (yQ (yz (yN yX yR zg (jv 1) (zK zy rfl m_len PySem.boot_len (ja_c (jv 0) ze)))) (yD (zt y6 (zE zG (jv 0) (jv 1) (fun _ _=>rfl)) (zB (ja_c zj (ja_c zj (ja_c zj (ja_c zj ze))))) (by with_unfolding_all rfl)))))
      (zh (zq (yt zg)))  zv)
    (zd xf (zd xf (zd xf (zd xf (zd xf (zd xf (zh xf)))))))),?_⟩
  rcases ho with ⟨rfl,rfl⟩ | ⟨i,hi,rfl,rfl⟩
  · exact ⟨_,rfl,_,_,rfl,rfl,_,rfl,iteF ⟨_,rfl,iteT (iteT ⟨_,rfl,q _ (-1) (Same.refl _) (.inl ⟨rfl,rfl⟩)⟩)⟩⟩
  · exact absurd (hl _ rfl) (by lia)
end
end Rdr
namespace L2
open PySem PySem.Spec PyProof.Rows
def Itr3 (lo st:Int) (n:Nat):It:=⟨fun i _=>i < n,fun i H x H'=>H'=H/\x=.int (lo + i * st),fun i _=>n<=i⟩
theorem Yw {P:Program} {w:World} {K:PySem.W.Frag} {tg:Expr} (it:Addr) (lo st:Int) (n:Nat):Turn P w K tg (Itr3 lo st n) [it] it (fun i h=>IsRangeIter h it (lo + (i:Nat) * st) ((n:Int) - (i:Nat)) st) where
  mem:=by simp
  obj:=fun i h st b hb=>by
    have e:b=it:=by simpa using hb
    subst e
    exact ⟨_,st,fun v z=>by
      have z':Data.fields _=Data.cell v:=z
      cases z'⟩
  keep:=fun i h h' st k=>k it (by simp) _ st
  item:=by
    intro X hP hw hK hc i pins s σ H E I hf sti hg
    subst hP hw hK
    obtain ⟨f0,f1,f2,f3,f4,f5⟩:=hf it (by simp)
    have W:=Walks.range (prog:=X.prog) (w:=X.w) (I.ok.hd hc) it lo st n
    refine W.item i s _ _ hg sti fun v h' tk hv st' kk=>?_
    obtain ⟨t,rfl⟩:=hv
    have I1:Inv X pins σ H { s with heap:=h',toks:=tk }:=I.turned (fun b o hb e=>kk b o (by simpa using hb) e) f0 f1 f3 f4 f5
    exact ⟨_,rfl,jF (s:={ s with heap:=h',toks:=tk }) (n:="range_iterator") st' rfl rfl (by decide) ⟨.int (lo + i * st),H,I1,⟨t,rfl⟩,⟨rfl,rfl⟩,st',fun b hb=>(hf b hb).1⟩⟩
  done:=by
    intro X hP hw hK hc i pins s σ H E I hf sti hg
    subst hP hw hK
    obtain ⟨f0,f1,f2,f3,f4,f5⟩:=hf it (by simp)
    exact wpAny_pyNext_range_end (I.ok.hd hc) sti (by have:n<=i:=hg; lia) fun h' eb=>⟨rfl,I.turned (t':=s.toks) (fun b o hb e=>eb b o hb e) f0 f1 f3 f4 f5⟩
  self:=fun _ _ _ _ _ st h=>wpAny_pyIter_rangeiter st h
theorem Yx {a b c:Int} (ha:0<=a) (ha':a < 2 ^ 40) (hb:0<=b) (hb':b < 2 ^ 40) (hc:0 < c) (hc':c < 2 ^ 30):Builtin.Range.small a b c=true:=by
  unfold Builtin.Range.small Builtin.Range.rangeSize
  have q1:(b - a - 1) / c<=2 ^ 40:=by
    by_cases h:0<=b - a - 1
    · have:=Int.ediv_le_self c h
      lia
    · have:=Int.ediv_nonpos_of_nonpos_of_neg (show b - a - 1<=0 by lia) hc
      lia
  have q2:a < b->0<=(b - a - 1) / c:=fun h=>Int.ediv_nonneg (by lia) (by lia)
  simp only [Builtin.Range.rangeFitsLong,Bool.and_eq_true,Bool.or_eq_true,decide_eq_true_eq,beq_iff_eq,show c > 0 from hc,if_true]
  split
  · have:=q2 (by assumption)
    lia
  · lia
section
variable {X:Cx} {tg:Expr}
def zaX (ta:TA):TI:=fun σ H R=>ta σ H fun vs H1=>∃ a b c:Int,vs=[.int a,.int b,.int c]/\(0<=a/\a < 2 ^ 40/\0<=b/\b < 2 ^ 40/\0 < c/\c < 2 ^ 30)/\R (Itr3 a c (Builtin.Range.rangeSize a b c).toNat) H1
theorem WY {a b c:Expr} {ta:TA} {p pos:Pos} (hg:Gl X "range") (hm:X.mg "range"=none) (ha:PA X [a,b,c] ta) (hs:starEach [a,b,c] X.env=[(false,eval a X.env),(false,eval b X.env),(false,eval c X.env)]:=by rfl) (hs2:starEach [b,c] X.env=[(false,eval b X.env),(false,eval c X.env)]:=by rfl) :
    PI X tg (.Call (.Name "range" p) [a,b,c] [] pos) (zaX ta):=by
  intro pins s σ H R I h
  refine Call_ (wm I hg hm boot_range (PyProof.Rows.callWith_type1 (thn (ha pos pins s σ H _ I h) fun us s1 ⟨vs,H1,I1,r1,q1⟩=>?_) (by rw [hs,hs2]) (by rw [hs2]; rfl)))
  obtain ⟨i,j,k,e,⟨q1,q2,q3,q4,q5,q6⟩,q⟩:=q1
  subst e
  cases r1 with
  | cons r rr =>
    cases rr with
    | cons r' rr =>
      cases rr with
      | cons r'' rr =>
        cases rr
        obtain ⟨t,rfl⟩:=r
        obtain ⟨t',rfl⟩:=r'
        obtain ⟨t'',rfl⟩:=r''
        refine call_range_3 (by lia) ?_ (.inl (PyProof.noPylong_small (by lia)))
        refine wpAny_pyIter_range (IsRange.new ..) (Yx q1 q2 q3 q4 q5 q6) ?_
        have I2:Inv X pins σ H1 { s1 with heap:=s1.heap.push { cls:=.type "range",data:=.fields #[.int i t,.int j t',.int k t''] },toks:=s1.toks }:=I1.kept fun b o e=>Heap.get?_push_of_some _ e
        refine ⟨(s1.heap.push { cls:=.type "range",data:=.fields #[.int i t,.int j t',.int k t''] }).objs.size,[(s1.heap.push { cls:=.type "range",data:=.fields #[.int i t,.int j t',.int k t''] }).objs.size],_,_,H1,rfl,I2.kept (t':=s1.toks) fun b o e=>Heap.get?_push_of_some _ e,
          Yw _ i k (Builtin.Range.rangeSize i j k).toNat,?_,fun b hb=>?_,q⟩
        · have e1:i + ((0:Nat):Int) * k=i:=by simp
          have p0:0<=Builtin.Range.rangeSize i j k:=by
            unfold Builtin.Range.rangeSize
            rw [if_pos q5]
            split
            · have:=Int.ediv_nonneg (show 0<=j - i - 1 by lia) (show 0<=k by lia)
              lia
            · exact Int.le_refl _
          have e2:(((Builtin.Range.rangeSize i j k).toNat:Nat):Int) - ((0:Nat):Int)=Builtin.Range.rangeSize i j k:=by lia
          show IsRangeIter _ _ (i + ((0:Nat):Int) * k) ((((Builtin.Range.rangeSize i j k).toNat:Nat):Int) - ((0:Nat):Int)) k
          rw [e1,e2]
          exact Heap.get?_push_size _ rfl
        · have e:b=(s1.heap.push { cls:=.type "range",data:=.fields #[.int i t,.int j t',.int k t''] }).objs.size:=by simpa using hb
          subst e
          exact I2.fpOk (Nat.le_refl _) (I2.hok.fresh (Nat.le_refl _))
theorem WZ {a b c:Expr} {t:TA} {p pos:Pos} (hg:Gl X "range") (hm:X.mg "range"=none) (ha:jA X [a,b,c] t) (h1:zP a=false:=by rfl) (h2:zP b=false:=by rfl) (h3:zP c=false:=by rfl):jI X tg (.Call (.Name "range" p) [a,b,c] [] pos) (zaX t) :=
  ⟨WY hg hm ha.out (by rw [zV h1,zV h2,zV h3]; rfl) (by rw [zV h2,zV h3]; rfl)⟩
end
theorem Xr {lo st:Int} {n:Nat} {g:TG} {tb:TS} {D:Ends} {σ:St} {H:Hp} (Pv:Nat->St->Hp->Prop) (h0:Pv 0 σ H)
    (hs:∀ i σ H,i < n->Pv i σ H->g (.int (lo + i * st)) σ H fun σ2 H2=>tb { D with nx:=Pv (i + 1),ct:=Pv (i + 1),bk:=D.nx } σ2 H2) (hd:∀ σ H,Pv n σ H->D.nx σ H) :
    ∃ W:Nat->Nat->St->Hp->Prop,(∃ m,W 0 m σ H)/\∀ i m σ H,W i m σ H ->
      ((Itr3 lo st n).stop i H/\D.nx σ H)\/((Itr3 lo st n).go i H/\∃ N:St->Hp->Prop,(∀ σ' H',N σ' H'->∃ m',m' < m/\W (i + 1) m' σ' H')/\∀ x H',(Itr3 lo st n).yld i H x H'->g x σ H' fun σ2 H2=>tb { D with nx:=N,ct:=N,bk:=D.nx } σ2 H2):=by
  refine ⟨fun i m σ H=>m=n - i/\i<=n/\Pv i σ H,⟨n,by simp,Nat.zero_le _,h0⟩,?_⟩
  rintro i m σ H ⟨rfl,hi,p⟩
  by_cases hlt:i < n
  · refine .inr ⟨hlt,Pv (i + 1),fun σ' H' p'=>⟨n - (i + 1),by lia,rfl,hlt,p'⟩,fun x H' y=>?_⟩
    obtain ⟨e,y⟩:=y
    subst e y
    exact hs i σ _ hlt p
  · have e:i=n:=by lia
    subst e
    exact .inl ⟨Nat.le_refl _,hd σ H p⟩
end L2
namespace Rdr
open PySem L2 K11 Rd
def prs:List Str->Bool
  | []=>true
  | [_]=>false
  | a :: b :: t=>zx a && (yb b && prs t)
theorem Wn:∀ r:List Str,r.length % 2=1->prs r=false
  | [],h=>by simp at h
  | [_],_=>rfl
  | a :: b :: t,h=>by
    unfold prs
    rw [Wn t (by simp at h; lia),Bool.and_false,Bool.and_false]
theorem ZR (a b:Str) (t:List Str):yP (a :: b :: t)=if zx a=true/\yb b=true then some (.tup [.str a,.int (yB b)],t) else none:=by
  unfold yP
  show Option.bind (if zx a=true then some (a,b :: t) else none) _=_
  by_cases c1:zx a=true
  · rw [if_pos c1,Option.bind_some]
    unfold wv
    dsimp only
    by_cases c2:yb b=true
    · rw [if_pos c2,if_pos ⟨c1,c2⟩]
      rfl
    · rw [if_neg c2,if_neg (fun z=>c2 z.2)]
      rfl
  · rw [if_neg c1,if_neg (fun z=>c1 z.1)]
    rfl
theorem js (a:Str):yP [a]=none:=by
  unfold yP
  show Option.bind (if zx a=true then some (a,[]) else none) _=_
  split <;> rfl
theorem Ze:∀ (n:Nat) (acc:List D) (r:List Str),r.length<=n->(xq n acc r).isSome=prs r
  | 0,acc,r,h=>by
    cases r with
    | nil=>rfl
    | cons a t=>simp at h
  | n + 1,acc,[],_=>rfl
  | n + 1,acc,[a],_=>by
    unfold xq
    rw [if_neg (by simp),js]
    rfl
  | n + 1,acc,a :: b :: t,h=>by
    unfold xq
    rw [if_neg (by simp),ZR]
    unfold prs
    by_cases c:zx a=true/\yb b=true
    · rw [if_pos c,Option.bind_some,Ze n _ t (by simp at h; lia),c.1,c.2]
      rfl
    · rw [if_neg c]
      show false=_
      cases c1:zx a with
      | false=>rfl
      | true =>
        cases c2:yb b with
        | false=>rfl
        | true=>exact absurd ⟨c1,c2⟩ c
theorem JO {r:List Str}:(xi r).isSome=(!r.isEmpty && prs r):=by
  unfold xi
  cases r with
  | nil=>rfl
  | cons a t =>
    cases t with
    | nil=>rw [js]; rfl
    | cons b t =>
      rw [ZR]
      unfold prs
      by_cases c:zx a=true/\yb b=true
      · rw [if_pos c,Option.bind_some,Ze _ _ _ (Nat.le_refl _),c.1,c.2]
        rfl
      · rw [if_neg c]
        show false=_
        cases c1:zx a with
        | false=>rfl
        | true =>
          cases c2:yb b with
          | false=>rfl
          | true=>exact absurd ⟨c1,c2⟩ c
theorem zcf (r:List Str):(pDef r).isSome=true↔(((nmR r).bind (utR "=")).bind sB)=some []:=by
  unfold pDef nmR utR
  cases zr LX r with
  | none=>simp
  | some p =>
    dsimp only [Option.bind_some,Option.map_some]
    cases zO LX "=" [] p.2 with
    | none=>simp
    | some q =>
      dsimp only [Option.bind_some,Option.map_some]
      unfold sB
      cases hb:pB (q.2.length + 1) q.2 with
      | none=>simp
      | some a =>
        obtain ⟨a,ar⟩:=a
        cases ar <;> simp
def dueB:List Str->Bool
  | []=>false
  | y :: r=>if y="kind" then (xi r).isSome else if y="def" then (pDef r).isSome else false
end Rdr
namespace Rdr
open PySem L2 K11 Rd
theorem W0 {X:Cx}:jOp X (compareOp .NotIn) (fun x y H Q=>∃ i j,x=.str i/\y=.str j/\Q (.bl (!(!(Builtin.Str.occurrences j i 0 j.length 1).isEmpty))) H):=⟨Zn⟩
def zaY (n:Nat):Sp:=fun vs H Q _=>∃ (l:Addr) (ws:List Str),vs=[.ref l]/\WsAt H l ws/\ws≠[]/\ws.length<=2 * n/\0 < n/\∀ H',Same H H'->Q (.bl (dueB ws)) H'
theorem AtW.end_ {ws:List Str} {v:Int} {o:Option (List Str)} (h:AtW ws v o):decide (V.int v=V.int ((ws.length:Nat):Int))=decide (o=some []):=by
  rcases h with ⟨rfl,rfl⟩ | ⟨i,hi,rfl,rfl⟩
  · rw [decide_eq_false (fun z=>by have:=V.int.inj z; lia),decide_eq_false (by intro z; cases z)]
  · by_cases c:i=ws.length
    · rw [decide_eq_true (by rw [c]),decide_eq_true (by rw [c,List.drop_length])]
    · rw [decide_eq_false (fun z=>c (by have:=V.int.inj z; lia)),decide_eq_false (fun z=>c (by
        have:=congrArg (Option.map List.length) z
        simp [List.length_drop] at this
        lia))]
theorem zav {stop:Str} {r r':List Str} (h:utR stop r=some r'):r'.length < r.length:=by
  unfold utR at h
  obtain ⟨p,h1,h2⟩:=Option.map_eq_some_iff.mp h
  obtain ⟨ms,a1,a2,_⟩:=yJ (ns:=p.1) (r':=p.2) h1 (Nat.zero_le _)
  rw [<- h2,a2,List.length_append,List.length_cons]
  lia
section
variable {P:Program} {w:World} {K:PySem.W.Frag} {mg:Str->Option Value} {base:Heap} {f:Addr} {fd:FuncData}
theorem scDue:FnScope ["_law_words_here","_law_at"] ["_law_words_here"] (zn sDue):=⟨rfl,rfl,rfl,by decide +kernel,rfl,by decide +kernel,by decide +kernel⟩
theorem zcg {n:Nat} (F:Fun K "_law_due" "_law_due" sDue f fd) (GN:Ca P w K mg base CX0 1 "_law_is_name" ["_law_word"] v9) (GW:Ca P w K mg base CX0 2 "_law_words" ["_law_words_here","_law_at","_law_many_here"] xt) (GT:Ca P w K mg base CX0 3 "_law_till" ["_law_words_here","_law_at","_law_stop"] ZQ) (GB:Ca P w K mg base CX0 (5 + n) "_law_behind" ["_law_words_here","_law_at"] (xu n)) (m_len:mg "len"=none) (m_range:mg "range"=none):FnOk P w K mg base CX0 (5 + n + 1) f fd ["_law_words_here"] (zaY n):=by
  refine F.by scDue (fun vs H Q E h=>?_) (fun cdv A outer s H vs Q E hr h=>?_)
  · obtain ⟨l,ws,rfl,_⟩:=h
    rfl
  obtain ⟨l,ws,rfl,hw,hne,hl,h0,q⟩:=h
  have hr1:Room 1 _:=hr.mono (by lia)
  have hr2:Room 2 _:=hr.mono (by lia)
  have hr3:Room 3 _:=hr.mono (by lia)
  refine ⟨_,
    (zd (zC (zt z7 (zE zG (jv 0) zg (fun _ _=>rfl)) zj (zw _))
      (zd (zC (jW.pt (yQ (zt yR (zK zy rfl m_len PySem.boot_len (ja_c (jv 0) ze)) zg (zw _)) (yD (zt z7 (zp z5 (zK zy rfl m_len PySem.boot_len (ja_c (jv 0) ze)) zg) zg (zw _)))))
        (zh (zq xN))  zv)
      (zd (y0 PassesOwn.never rfl (WZ rfl m_range (ja_c zg (ja_c (zK zy rfl m_len PySem.boot_len (ja_c (jv 0) ze)) (ja_c zg ze)))) (zF (i:=1) scDue.nd rfl (Or.inl rfl))
        (zd (zC (yz (yw (zN GN hr1 rfl zJ (ja_c (zE zG (jv 0) (jv 1) (fun _ _=>rfl)) ze))))
          (zh (zq xN))  zv)
        (zh (zC (jW.pt (yQ (zt xl (zK yA rfl m_len PySem.boot_len (ja_c (zE zG (jv 0) (zp zL (jv 1) zg) (fun _ _=>rfl)) ze)) zg (zw _)) (yD (zt W0 (zE zG (jv 0) (zp zL (jv 1) zg) (fun _ _=>rfl)) zj (by with_unfolding_all rfl)))))
          (zh (zq xN))  zv))))
      (zh (zq xN))))  zv)
    (zd (zC (zt xl (zE zG (jv 0) zg (fun _ _=>rfl)) zj (zw _))
      (zh (zq xN))  zv)
    (zh (zq (yg z7 (zN GB hr rfl zJ (ja_c (jv 0) (ja_c (zN GT hr3 rfl zJ (ja_c (jv 0) (ja_c (zN GW hr2 rfl zJ (ja_c (jv 0) (ja_c zg (ja_c zg ze)))) (ja_c zj ze)))) ze))) (zK zy rfl m_len PySem.boot_len (ja_c (jv 0) ze)) (zw _)))))),?_⟩
  have hs:=line
  obtain ⟨x,r,rfl⟩:=List.exists_cons_of_ne_nil hne
  have hx':atI ((x :: r).map V.str) (0:Int)=some (.str x):=xj (ws:=x :: r) (i:=0) rfl
  rw [List.length_cons] at hl
  have hwl:=hw.len
  rw [List.length_cons] at hwl
  have ga:∀ b,dueB (x :: r)=b->∀ H',Same H H'->Q (.bl b) H':=fun b e H' s'=>by rw [<- e]; exact q H' s'
  unfold dueB at ga
  dsimp only at ga
  refine cut1 fun r1_ hr1_=>?_
  refine ⟨_,rfl,l,_,_,_,rfl,rfl,SqL.of hw.at_,hx',rfl,_,rfl,?_⟩
  by_cases c1:x="kind"
  · rw [decide_eq_true (congrArg V.str c1)]
    rw [if_pos c1,JO] at ga
    refine iteT ?_
    refine cut1 fun r2_ hr2_=>?_
    refine ⟨_,rfl,l,_,rfl,.inl (SqL.of hw.at_),_,_,rfl,rfl,_,rfl,?_⟩
    rw [List.length_map,List.length_cons]
    by_cases c2:r.length < 2
    · rw [decide_eq_true (by lia)]
      refine iteT (iteT (ga _ ?_ _ (Same.refl _)))
      match r,c2 with
      | [],_=>rfl
      | [_],_=>rfl
      | _ :: _ :: _,h=>simp at h; lia
    rw [decide_eq_false (by lia)]
    refine iteF ?_
    refine ⟨_,rfl,l,_,rfl,.inl (SqL.of hw.at_),_,_,rfl,rfl,by show (0:Int) < 2; decide,rfl,_,rfl,?_⟩
    rw [List.length_map,List.length_cons]
    by_cases c3:r.length % 2=1
    · rw [decide_eq_true (congrArg V.int (show ((r.length + 1:Nat):Int) % 2=0 by lia))]
      exact iteT (ga _ (by rw [Wn r c3,Bool.and_false]) _ (Same.refl _))
    rw [decide_eq_false (fun z=>by have:=V.int.inj z; lia)]
    refine iteF (nxtC ?_)
    dsimp only
    subst hr2_
    have ne:r.isEmpty=false:=by
      cases r with
      | nil=>simp at c2
      | cons a t=>rfl
    rw [ne] at ga
    have rs:(Builtin.Range.rangeSize 1 ((r.length + 1:Nat):Int) 2).toNat=r.length / 2:=by
      unfold Builtin.Range.rangeSize
      rw [if_pos (by decide),if_pos (by lia)]
      lia
    refine ⟨_,rfl,l,_,rfl,.inl (SqL.of hw.at_),_,_,_,rfl,⟨by decide,by decide,by lia,?_,by decide,by decide⟩,?_⟩
    · rw [List.length_map,List.length_cons]
      lia
    rw [List.length_map,List.length_cons,rs]
    refine Xr (fun j σ H'=>Same H H'/\prs r=prs (r.drop (2 * j))/\∃ v1,σ=[some (.ref l),v1]) ⟨Same.refl _,rfl,_,rfl⟩ ?_ ?_
    · rintro j σ H1 hj ⟨s1,hp,v1,rfl⟩
      obtain ⟨a,ha⟩:∃ a,r[2 * j]?=some a:=⟨_,List.getElem?_eq_getElem (by lia)⟩
      obtain ⟨b,hb⟩:∃ b,r[2 * j + 1]?=some b:=⟨_,List.getElem?_eq_getElem (by lia)⟩
      have e1:atI ((x :: r).map V.str) (1 + (j:Int) * 2)=some (.str a):=by
        rw [show 1 + (j:Int) * 2=((2 * j + 1:Nat):Int) by lia]
        exact xj (by simpa using ha)
      have e2:atI ((x :: r).map V.str) (1 + (j:Int) * 2 + 1)=some (.str b):=by
        rw [show 1 + (j:Int) * 2 + 1=((2 * j + 1 + 1:Nat):Int) by lia]
        exact xj (by simpa using hb)
      have hd:prs (r.drop (2 * j))=(zx a && (yb b && prs (r.drop (2 * (j + 1))))):=by
        rw [Yu ha,Yu hb]
        rfl
      have am:a∈x :: r:=List.mem_cons_of_mem _ (List.mem_of_getElem? ha)
      have bm:b∈x :: r:=List.mem_cons_of_mem _ (List.mem_of_getElem? hb)
      rw [hd] at hp
      have hw1:=hw.same s1
      refine ⟨_,rfl,_,rfl,l,_,_,_,rfl,rfl,SqL.of hw1.at_,e1,a,rfl,hw.word a am,fun H2 s2=>⟨_,rfl,?_⟩⟩
      have s02:=s1.trans s2
      have hw2:=hw.same s02
      cases c4:zx a with
      | false=>exact iteT (ga _ (by rw [hp,c4]; rfl) _ s02)
      | true =>
        refine iteF (nxtC ?_)
        dsimp only
        refine ⟨_,rfl,_,rfl,_,_,rfl,rfl,l,_,_,_,rfl,rfl,SqL.of hw2.at_,e2,b,rfl,by have:=hw.word b bm; lia,rfl,_,rfl,?_⟩
        by_cases c5:b.length=1
        · rw [decide_eq_true (by rw [c5]; rfl)]
          refine iteF ⟨_,rfl,_,rfl,_,_,rfl,rfl,l,_,_,_,rfl,rfl,SqL.of hw2.at_,e2,_,_,rfl,rfl,_,rfl,?_⟩
          have zb:yb b=inS b FIGS:=by unfold yb; rw [decide_eq_true (by rw [c5]; rfl),Bool.true_and]
          show if (!inS b FIGS)=true then _ else _
          cases c6:inS b FIGS with
          | true=>exact iteF ⟨s02,by rw [hp,c4,zb,c6]; rfl,_,rfl⟩
          | false=>exact iteT (ga _ (by rw [hp,c4,zb,c6]; rfl) _ s02)
        · rw [decide_eq_false (fun z=>c5 (by have:=V.int.inj z; lia))]
          refine iteT (iteT (ga _ ?_ _ s02))
          rw [hp,show yb b=false by unfold yb; rw [decide_eq_false (fun z=>c5 (by have:=V.int.inj z; lia))]; rfl,Bool.false_and,Bool.and_false]
          rfl
    · rintro σ H1 ⟨s1,hp,v1,rfl⟩
      refine ga _ ?_ _ s1
      rw [hp,List.drop_eq_nil_of_le (by lia)]
      rfl
  · rw [decide_eq_false (fun z=>c1 (V.str.inj z))]
    rw [if_neg c1] at ga
    refine iteF (nxtC ?_)
    dsimp only
    subst hr1_
    refine ⟨_,rfl,l,_,_,_,rfl,rfl,SqL.of hw.at_,hx',rfl,_,rfl,?_⟩
    by_cases c2:x="def"
    · rw [decide_eq_true (congrArg V.str c2)]
      rw [if_pos c2] at ga
      refine iteF (nxtC ?_)
      refine ⟨_,rfl,_,rfl,_,rfl,l,_,1,some r,1,rfl,hw,.inr ⟨1,by simp,rfl,rfl⟩,by decide,fun H1 v1 s1 hv1=>?_⟩
      refine ⟨l,_,v1,_,_,rfl,hw.same s1,hv1,fun H2 v2 s2 hv2=>?_⟩
      have ehd:(((some r).bind (nmN 1)).bind (utR "="))=(nmR r).bind (utR "="):=by
        show (nmN 1 r).bind (utR "=")=_
        rw [nm1]
      rw [ehd] at hv2
      have s02:=s1.trans s2
      refine ⟨l,_,v2,_,rfl,hw.same s02,hv2,fun r' e=>?_,fun H3 v3 s3 hv3=>?_⟩
      · obtain ⟨r1,a1,a2⟩:=Option.bind_eq_some_iff.mp e
        have:=ZN a1
        have:=zav a2
        lia
      · refine ⟨_,rfl,l,_,rfl,.inl (SqL.of ((hw.same (s02.trans s3)).at_)),rfl,?_⟩
        rw [List.length_map,hv3.end_]
        exact ga _ (by rw [Bool.eq_iff_iff,zcf,decide_eq_true_eq]) _ (s02.trans s3)
    · rw [decide_eq_false (fun z=>c2 (V.str.inj z))]
      rw [if_neg c2] at ga
      exact iteT (ga _ rfl _ (Same.refl _))
end
end Rdr
namespace Rdr
open PySem L2 K11 Rd
def NoE (ws:List Str):Prop:=∀ x∈ws,x≠("":Str)
theorem NoE.app {a b:List Str} (h:NoE a) (g:NoE b):NoE (a ++ b):=fun x hx=>(List.mem_append.mp hx).elim (h x) (g x)
theorem NoE.cons {a:Str} {b:List Str} (h:a≠("":Str)) (g:NoE b):NoE (a :: b):=fun x hx=>(List.mem_cons.mp hx).elim (fun e=>e ▸ h) (g x)
theorem NoE.nil:NoE []:=fun x hx=>by cases hx
theorem NoE.names {ns:List Str} (h:∀ x∈ns,zx x=true):NoE ns:=fun x hx=>(zS (h x hx)).2
theorem JP {x:Str} (h:zH x=true):x≠("":Str):=fun e=>by
  rw [e] at h
  exact absurd h (by decide)
theorem zch:∀ x∈OPS,x≠("":Str):=by decide
theorem JQ:∀ x∈DEEDS,x≠("":Str):=by decide
theorem zaw {r r':List Str} {d:D} (h:deed LX r=some (d,r')):∃ dw,r=dw ++ r'/\NoE dw:=by
  cases r with
  | nil=>cases h
  | cons w t =>
    unfold deed at h
    dsimp only at h
    split at h
    · rename_i e
      obtain ⟨⟨i,r1⟩,h1,h2⟩:=Option.map_eq_some_iff.mp h
      cases h2
      cases t with
      | nil=>cases h1
      | cons x t =>
        have h1:(if zH x=true then some (yB x,t) else none)=some (i,r1):=h1
        by_cases c:zH x=true
        · rw [if_pos c] at h1
          cases h1
          exact ⟨[w,x],rfl,.cons (by rw [e]; decide) (.cons (JP c) .nil)⟩
        · rw [if_neg c] at h1
          cases h1
    · split at h
      · rename_i ho
        obtain ⟨⟨a,r1⟩,h1,h2⟩:=Option.bind_eq_some_iff.mp h
        obtain ⟨⟨b,r2⟩,h3,h4⟩:=Option.map_eq_some_iff.mp h2
        cases h4
        obtain ⟨e1,e2⟩:=z6 h1
        obtain ⟨e3,e4⟩:=z6 h3
        dsimp only at e3
        exact ⟨[w,a,b],by rw [e1,e3]; rfl,.cons (zch w ho) (.cons (zS e2).2 (.cons (zS e4).2 .nil))⟩
      · split at h
        · rename_i ho
          obtain ⟨⟨g,r1⟩,h1,h2⟩:=Option.bind_eq_some_iff.mp h
          obtain ⟨⟨ns,r2⟩,h3,h4⟩:=Option.map_eq_some_iff.mp h2
          cases h4
          obtain ⟨e1,e2⟩:=z6 h1
          obtain ⟨ms,f1,f2,f3,f4⟩:=yJ h3 (Nat.zero_le _)
          dsimp only at f2
          exact ⟨w :: g :: (ms ++ [(";":Str)]),by rw [e1,f2]; simp,.cons (JQ w ho) (.cons (zS e2).2 (.app (.names f3) (.cons (by decide) .nil)))⟩
        · cases h
theorem zax {r r':List Str} {p:Str × List Str} (h:head LX r=some (p,r')):∃ hw,r=hw ++ r'/\NoE hw:=by
  obtain ⟨t,ns⟩:=p
  obtain ⟨e1,e2,e3,e4⟩:=vf h
  exact ⟨t :: (ns ++ [(":":Str)]),by rw [e1]; simp,.cons (zS e2).2 (.app (.names e3) (.cons (by decide) .nil))⟩
mutual
theorem Yy:∀ (n:Nat) (r:List Str) (b:D) (r':List Str),pB n r=some (b,r')->∃ ws,r=ws ++ r'/\NoE ws
  | 0,_,_,_,h=>by unfold pB at h; cases h
  | n + 1,[],_,_,h=>by unfold pB at h; cases h
  | n + 1,w :: r,b,r',h=>by
    unfold pB at h
    split at h
    · rename_i e
      obtain ⟨⟨x,r1⟩,h1,h2⟩:=Option.map_eq_some_iff.mp h
      cases h2
      obtain ⟨e1,e2⟩:=z6 h1
      exact ⟨[w,x],by rw [e1]; rfl,.cons (by rw [e]; decide) (.cons (zS e2).2 .nil)⟩
    · split at h
      · rename_i e
        obtain ⟨⟨x,r1⟩,h1,h2⟩:=Option.bind_eq_some_iff.mp h
        obtain ⟨⟨d,r2⟩,h3,h4⟩:=Option.bind_eq_some_iff.mp h2
        obtain ⟨⟨b1,r3⟩,h5,h6⟩:=Option.map_eq_some_iff.mp h4
        cases h6
        obtain ⟨e1,e2⟩:=z6 h1
        obtain ⟨dw,f1,f2⟩:=zaw h3
        obtain ⟨bw,g1,g2⟩:=Yy n _ _ _ h5
        dsimp only at f1 g1
        exact ⟨w :: x :: (dw ++ bw),by rw [e1,f1,g1]; simp,.cons (by rw [e]; decide) (.cons (zS e2).2 (f2.app g2))⟩
      · split at h
        · rename_i e
          obtain ⟨⟨x,r1⟩,h1,h2⟩:=Option.bind_eq_some_iff.mp h
          obtain ⟨⟨a,r2⟩,h3,h4⟩:=Option.bind_eq_some_iff.mp h2
          obtain ⟨e1,e2⟩:=z6 h1
          obtain ⟨aw,f1,f2⟩:=Yy n _ _ _ h3
          dsimp only at f1 h4
          cases r2 with
          | nil=>cases h4
          | cons y r2 =>
            dsimp only at h4
            split at h4
            · rename_i ey
              obtain ⟨⟨b1,r3⟩,h5,h6⟩:=Option.map_eq_some_iff.mp h4
              cases h6
              obtain ⟨bw,g1,g2⟩:=Yy n _ _ _ h5
              exact ⟨w :: x :: (aw ++ y :: bw),by rw [e1,f1,g1]; simp,.cons (by rw [e]; decide) (.cons (zS e2).2 (f2.app (.cons (by rw [ey]; decide) g2)))⟩
            · cases h4
        · split at h
          · rename_i e
            obtain ⟨⟨x,r1⟩,h1,h2⟩:=Option.bind_eq_some_iff.mp h
            obtain ⟨⟨ds,r2⟩,h3,h4⟩:=Option.map_eq_some_iff.mp h2
            cases h4
            obtain ⟨e1,e2⟩:=z6 h1
            obtain ⟨aw,a1,a2⟩:=zaZ n [] _ _ _ h3
            dsimp only at a1
            exact ⟨w :: x :: aw,by rw [e1,a1]; rfl,.cons (by rw [e]; decide) (.cons (zS e2).2 a2)⟩
          · cases h
theorem zaZ:∀ (n:Nat) (done:List D) (r:List Str) (ds:List D) (r':List Str),pA n done r=some (ds,r')->∃ ws,r=ws ++ r'/\NoE ws
  | 0,_,_,_,_,h=>by unfold pA at h; cases h
  | n + 1,done,r,ds,r',h=>by
    unfold pA at h
    obtain ⟨⟨p,r1⟩,h1,h2⟩:=Option.bind_eq_some_iff.mp h
    obtain ⟨⟨b,r2⟩,h3,h4⟩:=Option.bind_eq_some_iff.mp h2
    obtain ⟨hw,e1,e2⟩:=zax h1
    obtain ⟨bw,f1,f2⟩:=Yy n _ _ _ h3
    dsimp only at f1 h4
    cases r2 with
    | nil=>cases h4
    | cons y r2 =>
      dsimp only at h4
      split at h4
      · rename_i ey
        cases h4
        exact ⟨hw ++ (bw ++ [y]),by rw [e1,f1]; simp,e2.app (f2.app (.cons (by rw [ey]; decide) .nil))⟩
      · split at h4
        · obtain ⟨aw,a1,a2⟩:=zaZ n _ _ _ _ h4
          exact ⟨hw ++ (bw ++ aw),by rw [e1,f1,a1]; simp,e2.app (f2.app a2)⟩
        · cases h4
end
theorem Good.noE {b:D} {ws:List Str} (h:Good b ws):NoE ws:=by
  obtain ⟨n,g⟩:=h.body.runs []
  rw [List.append_nil] at g
  cases e:pB (ws.length + 1) ws with
  | none =>
    obtain ⟨k,f⟩:=xh _ ws (Nat.lt_succ_self _) e []
    cases (xU f g).2
  | some a =>
    obtain ⟨j,q⟩:=xI e []
    obtain ⟨j,q⟩:=q.runs (r:=some (a.1,a.2)) .done
    have:=(xU q g).2
    injection this with this
    have ea:a.2=[]:=congrArg Prod.snd this
    obtain ⟨us,e1,e2⟩:=Yy _ _ a.1 a.2 e
    rw [e1,ea,List.append_nil]
    exact e2
end Rdr
namespace Rdr
open PySem L2 K11 Rd
structure WOk (ws:List Str):Prop where
  ne:ws≠[]
  wd:∀ x∈ws,Wd x
  no:NoE ws
theorem WOk.sub {ws us:List Str} (h:WOk ws) (n:us≠[]) (s:∀ x∈us,x∈ws):WOk us:=⟨n,fun x hx=>h.wd x (s x hx),fun x hx=>h.no x (s x hx)⟩
def Yz (K:PySem.W.Frag):Sp:=fun vs H Q _=>∃ (a:Addr) (ns:List Int) (k:Nat),vs=[.ref a,.int (k:Int)]/\SqL K H a (ns.map V.int)/\∀ c:Int,Q (.int c) H
def JR (K:PySem.W.Frag):Sp:=fun vs H Q _=>∃ (a:Addr) (ns:List Int),vs=[.ref a]/\SqL K H a (ns.map V.int)/\ns.length<=63/\∀ (H':Hp) (l:Addr) (ws:List Str),Same H H'->H' l=some (.lst (ws.map V.str))->H l=none->WOk ws->ws.length<=430->Q (.ref l) H'
theorem xV (ns:List Int) (lo hi:Option Int):∃ ms:List Int,cutV (ns.map V.int) lo hi=ms.map V.int/\ms.length<=ns.length:=by
  refine ⟨(ns.drop (HT.sIx ns.length 0 lo)).take (HT.sIx ns.length ns.length hi - HT.sIx ns.length 0 lo),?_,?_⟩
  · unfold cutV
    rw [List.length_map,List.map_take,List.map_drop]
  · rw [List.length_take,List.length_drop]
    lia
theorem JS {n:Int} (h0:0<=n) (h9:n < 10):Wd (Str.ofString (toString n))/\Str.ofString (toString n)≠("":Str) :=
  ⟨w4 (yK (n:=n) (by lia)).1,JP (yK (n:=n) (by lia)).1⟩
section
variable {P:Program} {w:World} {K:PySem.W.Frag} {mg:Str->Option Value} {base:Heap} {f:Addr} {fd:FuncData}
theorem JT:FnScope ["_law_script","_law_k"] ["_law_script","_law_k"] (zn ZO):=⟨rfl,rfl,rfl,by decide +kernel,rfl,by decide +kernel,by decide +kernel⟩
theorem W1 (F:Fun K "_law_cell_at" "_law_cell_at" ZO f fd) (m_len:mg "len"=none):FnOk P w K mg base CX0 1 f fd ["_law_script","_law_k"] (Yz K):=by
  refine F.by JT (fun vs H Q E h=>?_) (fun cdv A outer s H vs Q E hr h=>?_)
  · obtain ⟨a,ns,k,rfl,_⟩:=h
    rfl
  obtain ⟨a,ns,k,rfl,hS,q⟩:=h
  refine ⟨_,
    (zd (zC (zt yR (jv 1) (zK zy rfl m_len PySem.boot_len (ja_c (jv 0) ze)) (zw _))
      (zh (zq (zE zG (jv 0) (jv 1) (fun _ _=>rfl))))  zv)
    (zh (zq zg))),?_⟩
  refine ⟨_,rfl,_,rfl,a,_,rfl,.inl hS,_,_,rfl,rfl,_,rfl,?_⟩
  rw [List.length_map]
  by_cases c:k < ns.length
  · rw [decide_eq_true (by lia)]
    exact iteT ⟨_,rfl,_,rfl,a,_,_,_,rfl,rfl,hS,yo (by rw [List.getElem?_map,List.getElem?_eq_getElem c]; rfl),q _⟩
  · rw [decide_eq_false (by lia)]
    exact iteF (q _)
theorem scBase:FnScope ["_law_script","_law_first","_law_words_here","_law_cell","_law_names_here"] ["_law_script"] (zn JF):=⟨rfl,rfl,rfl,by decide +kernel,rfl,by decide +kernel,by decide +kernel⟩
theorem zay (F:Fun K "_law_base" "_law_base" JF f fd) (GC:Ca P w K mg base CX0 1 "_law_cell_at" ["_law_script","_law_k"] (Yz K)) (GN:Ca P w K mg base CX0 1 "_law_name" ["_law_number_here"] ZD) (GNs:Ca P w K mg base CX0 2 "_law_names" ["_law_cell","_law_many_here"] xS) (GT:Ca P w K mg base CX0 5 "_law_tree" ["_law_cells"] (X8 K)) (m_str:mg "str"=none):FnOk P w K mg base CX0 6 f fd ["_law_script"] (JR K):=by
  refine F.by scBase (fun vs H Q E h=>?_) (fun cdv A outer s H vs Q E hr h=>?_)
  · obtain ⟨a,ns,rfl,_⟩:=h
    rfl
  obtain ⟨a,ns,rfl,hS,h63,q⟩:=h
  have hr1:Room 1 _:=hr.mono (by decide)
  have hr2:Room 2 _:=hr.mono (by decide)
  refine ⟨_,
    (zd (zu (i:=1) scBase.nd rfl (Or.inl rfl) (zN GC hr1 rfl zJ (ja_c (jv 0) (ja_c zg ze))))
    (zd (zC (zt z7 (zp z5 (jv 1) zg) zg (zw _))
      (zd (zu (i:=2) scBase.nd rfl (Or.inl rfl) (zB (ja_c zj ze)))
      (zd (y0 PassesOwn.never rfl (xX (zp z8 (zD z3 (jv 0) zR (zI zg)) (zB (ja_c (jv 1) ze)))) (zF (i:=3) scBase.nd rfl (Or.inl rfl))
        (zh (zM (zZ PySem.F.plainAttrs_list PySem.F.slot_list_extend PySem.F.type_list_extend wO (jv 2) (ja_c (zB (ja_c (zN GN hr1 rfl zJ (ja_c (zp z5 (jv 3) zg) ze)) (ja_c (yd xA rfl m_str PyProof.Rows.boot_str (ja_c (zp z5 (jv 3) zg) ze)) ze))) ze)))))
      (zh (zq (jv 2)))))  zv)
    (zd (zu (i:=4) scBase.nd rfl (Or.inl rfl) (zN GNs hr2 rfl zJ (ja_c (jv 1) (ja_c (zp zL zg (zp z5 (zp yh (jv 1) zg) zg)) ze))))
    (zh (zq (zp z8 (zp z8 (zp z8 (zB (ja_c zj ze)) (jv 4)) (zB (ja_c zj ze))) (zZ PySem.F.plainAttrs_str PySem.F.slot_str_split PySem.F.type_str_split yY (zE z9 (zN GT hr rfl zJ (ja_c (zD z3 (jv 0) (zI zg) zR) ze)) zg (fun _ _=>rfl)) (ja_c zj ze)))))))),?_⟩
  have sl:=line
  have cD:∀ {i j:Int},0 < j->j < 1073741824->CDiv i j:=fun h1 h2=>⟨h1,h2⟩
  refine cut2 fun r1_ hr1_=>?_
  refine ⟨_,rfl,a,ns,0,rfl,hS,fun c=>?_⟩
  refine ⟨_,rfl,_,_,rfl,rfl,(by show (0:Int) < _; decide),rfl,_,rfl,ite2 (fun _=>?_) (fun _=>?_)⟩
  · refine ⟨by show 1<=sizeLine; decide,fun lw hlw=>?_⟩
    have s1:=zi hlw (.lst [.str "kind"])
    have hlw1:=zc (H:=H) (a:=lw) (o:=.lst [.str "kind"])
    show (tSeq _ _:TS) _ _ (upd H lw (.lst [.str "kind"]))
    generalize upd H lw (.lst [.str "kind"])=H1 at *
    refine ⟨_,rfl,_,rfl,a,_,rfl,s1.seq hS,fun p1 hp1=>?_⟩
    obtain ⟨ms,e1,ml⟩:=xV ns none (some 40)
    rw [e1]
    have s2:=s1.new (o:=.lst (ms.map V.int)) hp1
    have hlw2:=old (o:=.lst (ms.map V.int)) hp1 hlw1
    have hm2:=zc (H:=H1) (a:=p1) (o:=.lst (ms.map V.int))
    generalize upd H1 p1 (.lst (ms.map V.int))=H2 at *
    refine ⟨_,rfl,by show 1<=sizeLine; decide,fun p2 hp2=>?_⟩
    have s3:=s2.new (o:=.lst [.int c]) hp2
    have hlw3:=old (o:=.lst [.int c]) hp2 hlw2
    have hm3:=old (o:=.lst [.int c]) hp2 hm2
    have hc3:=zc (H:=H2) (a:=p2) (o:=.lst [.int c])
    generalize upd H2 p2 (.lst [.int c])=H3 at *
    refine ⟨p1,p2,_,_,rfl,rfl,hm3,hc3,by rw [List.length_map]; show _ + 1<=_; lia,fun p3 hp3=>?_⟩
    rw [show ms.map V.int ++ [V.int c]=(ms ++ [c]).map V.int by simp]
    have s4:=s3.new (o:=.lst ((ms ++ [c]).map V.int)) hp3
    have hlw4:=old (o:=.lst ((ms ++ [c]).map V.int)) hp3 hlw3
    have hm4:=zc (H:=H3) (a:=p3) (o:=.lst ((ms ++ [c]).map V.int))
    have n3:p3≠lw:=(zo hlw3 hp3).symm
    generalize upd H3 p3 (.lst ((ms ++ [c]).map V.int))=H4 at *
    refine ⟨p3,rfl,⟨_,SqL.of hm4⟩,xJ (xs:=(ms ++ [c]).map V.int) (fun i σ H'=>∃ (ws:List Str) (x:Option V),σ=[some (.ref a),some (.int c),some (.ref lw),x,none]/\Same H H'/\H' lw=some (.lst (ws.map V.str))/\H' p3=some (.lst ((ms ++ [c]).map V.int))/\WOk ws/\ws.length=1 + 2 * i) ⟨["kind"],none,rfl,s4,hlw4,hm4,⟨by simp,fun x hx=>yS (by rw [List.mem_singleton.mp hx]; decide +kernel),.cons (by decide) .nil⟩,rfl⟩ (fun i σ H' _ h=>?_) ?_ ?_⟩
    · obtain ⟨_,_,_,_,_,h,_⟩:=h
      exact SqL.of h
    · rintro i v σ H5 hv ⟨ws,x,rfl,s5,hlw5,hm5,hW,hl5⟩
      have hi:=(List.getElem?_eq_some_iff.mp hv).1
      rw [List.length_map,List.length_append,List.length_singleton] at hi
      rw [List.getElem?_map] at hv
      obtain ⟨d,hd,rfl⟩:=Option.map_eq_some_iff.mp hv
      have b1:=Int.emod_nonneg d (show (1000003:Int)≠0 by decide)
      have b3:=Int.emod_nonneg d (show (10:Int)≠0 by decide)
      have b4:=Int.emod_lt_of_pos d (show (0:Int) < 10 by decide)
      refine ⟨_,rfl,.inl ⟨rfl,_,SqL.of hlw5⟩,_,rfl,_,_,rfl,rfl,(by show (0:Int) < _; decide),_,rfl,b1,fun t H6 ht s6=>?_⟩
      have hlw6:=s6 _ _ hlw5
      refine ⟨_,rfl,_,_,rfl,rfl,(by show (0:Int) < _; decide),_,rfl,ZI (by lia),by show 2<=sizeLine; decide,fun p7 h7=>?_⟩
      refine ⟨lw,p7,_,_,rfl,rfl,old h7 hlw6,zc,by rw [List.length_map]; show _ + 2<=_; lia,?_⟩
      refine ⟨ws ++ [t,Str.ofString (toString (d % 10))],_,rfl,((s5.trans s6).new h7).put hlw,?_,?_,?_,?_⟩
      · rw [zc,List.map_append]
        rfl
      · rw [zk n3]
        exact old h7 (s6 _ _ hm5)
      · obtain ⟨g1,g2⟩:=JS b3 b4
        refine ⟨by simp,fun x hx=>?_,hW.no.app (.cons (zS ht).2 (.cons g2 .nil))⟩
        rcases List.mem_append.mp hx with hx | hx
        · exact hW.wd x hx
        · rcases List.mem_cons.mp hx with hx | hx
          · rw [hx]; exact (zS ht).1
          · rw [List.mem_singleton.mp hx]; exact g1
      · rw [List.length_append,hl5]
        show 1 + 2 * i + 2=_
        lia
    · rintro σ H5 ⟨ws,x,rfl,s5,hlw5,_,hW,hl5⟩
      rw [List.length_map,List.length_append,List.length_singleton] at hl5
      exact ⟨_,rfl,q _ lw ws s5 hlw5 hlw hW (by lia)⟩
  · subst hr1_
    refine nxtC ?_
    dsimp only
    have b1:=Int.emod_nonneg (c / 5) (show (10:Int)≠0 by decide)
    have b2:=Int.emod_lt_of_pos (c / 5) (show (0:Int) < 10 by decide)
    refine ⟨_,rfl,_,rfl,_,_,rfl,rfl,cD (by decide) (by decide),_,_,rfl,rfl,(by show (0:Int) < _; decide),_,_,rfl,rfl,_,_,rfl,by lia,by lia,fun H2 p2 l s2 _ hll hnm hp2=>?_⟩
    refine ⟨by show 1<=sizeLine; decide,fun pa ha=>?_⟩
    have s3:=s2.new (o:=.lst [.str "def"]) ha
    have hp3:=old (o:=.lst [.str "def"]) ha hp2
    have ha3:=zc (H:=H2) (a:=pa) (o:=.lst [.str "def"])
    generalize upd H2 pa (.lst [.str "def"])=H3 at *
    refine ⟨_,rfl,pa,p2,_,_,rfl,rfl,ha3,hp3,by rw [List.length_map]; show 1 + _<=_; lia,fun pb hb=>?_⟩
    have s4:=s3.new (o:=.lst ([V.str "def"] ++ l.map V.str)) hb
    have hb4:=zc (H:=H3) (a:=pb) (o:=.lst ([V.str "def"] ++ l.map V.str))
    generalize upd H3 pb (.lst ([V.str "def"] ++ l.map V.str))=H4 at *
    refine ⟨by show 1<=sizeLine; decide,fun pc hc=>?_⟩
    have s5:=s4.new (o:=.lst [.str "="]) hc
    have hb5:=old (o:=.lst [.str "="]) hc hb4
    have hc5:=zc (H:=H4) (a:=pc) (o:=.lst [.str "="])
    generalize upd H4 pc (.lst [.str "="])=H5 at *
    refine ⟨pb,pc,_,_,rfl,rfl,hb5,hc5,by rw [List.length_append,List.length_map]; show 1 + _ + 1<=_; lia,fun pd hd=>?_⟩
    have s6:=s5.new (o:=.lst ([V.str "def"] ++ l.map V.str ++ [.str "="])) hd
    have hd6:=zc (H:=H5) (a:=pd) (o:=.lst ([V.str "def"] ++ l.map V.str ++ [.str "="]))
    generalize upd H5 pd (.lst ([V.str "def"] ++ l.map V.str ++ [.str "="]))=H6 at *
    refine ⟨_,rfl,_,rfl,a,_,rfl,s6.seq hS,fun pe he=>?_⟩
    obtain ⟨ms,e1,ml⟩:=xV ns (some 2) none
    rw [e1]
    have s7:=s6.new (o:=.lst (ms.map V.int)) he
    have hd7:=old (o:=.lst (ms.map V.int)) he hd6
    have he7:=zc (H:=H6) (a:=pe) (o:=.lst (ms.map V.int))
    generalize upd H6 pe (.lst (ms.map V.int))=H7 at *
    refine ⟨pe,ms,rfl,SqL.of he7,by lia,fun H8 p8 v b bw s8 hp8 _ hG hbl=>?_⟩
    have s08:=s7.trans s8
    have txl:=wy hG.word
    have hd8:=s8 _ _ hd7
    refine ixT hp8 (yo (j:=1) rfl) ⟨rfl,_,_,rfl,rfl,by decide,by lia,fun pf hf=>?_⟩
    rw [show Txt.split (tx bw) " "=bw from wJ hG.ne hG.word]
    refine ⟨pd,pf,_,_,rfl,rfl,old hf hd8,zc,by simp only [List.length_append,List.length_map]; show 1 + _ + 1 + _<=_; lia,fun pg hg=>?_⟩
    have sg_:=(s08.new (o:=.lst (bw.map V.str)) hf).new (o:=.lst ([V.str "def"] ++ l.map V.str ++ [.str "="] ++ bw.map V.str)) hg
    refine q _ pg ("def" :: (l ++ ("=":Str) :: bw)) sg_ ?_ ((s08.new (o:=.lst (bw.map V.str)) hf).free hg) ⟨by simp,fun x hx=>?_,?_⟩ ?_
    · rw [zc]
      simp
    · simp only [List.mem_cons,List.mem_append] at hx
      rcases hx with e | e | e | e
      · rw [e]; exact yS (by decide +kernel)
      · exact (zS (hnm x e)).1
      · rw [e]; exact yS (by decide +kernel)
      · exact hG.word x e
    · exact .cons (by decide) ((NoE.names hnm).app (.cons (by decide) hG.noE))
    · simp only [List.length_cons,List.length_append]
      lia
end
end Rdr
namespace Rdr
open PySem L2 K11 Rd
theorem wb {α:Type} {f:α->V} {s:List α} {m:Int} (h:0<=m):cutV (s.map f) none (some m)=(s.take m.toNat).map f:=by
  unfold cutV
  have c1:HT.sIx (s.map f).length 0 none=0:=rfl
  have c2:HT.sIx (s.map f).length (s.map f).length (some m)=min m.toNat (s.map f).length:=by
    show (if m < 0 then (m + ((s.map f).length:Nat)).toNat else min m.toNat (s.map f).length)=_
    rw [if_neg (by lia)]
  rw [c1,c2,List.drop_zero,Nat.sub_zero,List.map_take,List.length_map]
  rcases Nat.le_total m.toNat s.length with c | c
  · rw [Nat.min_eq_left c]
  · rw [Nat.min_eq_right c,List.take_of_length_le (by simp),List.take_of_length_le (by simpa using c)]
theorem wc {α:Type} {f:α->V} {s:List α} {m:Int} (h:0<=m):cutV (s.map f) (some m) none=(s.drop m.toNat).map f:=by
  unfold cutV
  have c2:HT.sIx (s.map f).length (s.map f).length none=(s.map f).length:=rfl
  have c1:HT.sIx (s.map f).length 0 (some m)=min m.toNat (s.map f).length:=by
    show (if m < 0 then (m + ((s.map f).length:Nat)).toNat else min m.toNat (s.map f).length)=_
    rw [if_neg (by lia)]
  rw [c1,c2,List.map_drop]
  rcases Nat.le_total m.toNat (s.map f).length with c | c
  · rw [Nat.min_eq_left c]
    exact List.take_of_length_le (by simp)
  · rw [Nat.min_eq_right c,List.drop_of_length_le (Nat.le_refl _),List.drop_of_length_le c]
    exact List.take_nil
theorem zaz (ws:List Str) (lo hi:Option Int):∃ us:List Str,cutV (ws.map V.str) lo hi=us.map V.str/\(∀ x∈us,x∈ws)/\us.length<=ws.length:=by
  refine ⟨(ws.drop (HT.sIx ws.length 0 lo)).take (HT.sIx ws.length ws.length hi - HT.sIx ws.length 0 lo),?_,fun x hx=>List.mem_of_mem_drop (List.mem_of_mem_take hx),?_⟩
  · unfold cutV
    rw [List.length_map,List.map_take,List.map_drop]
  · rw [List.length_take,List.length_drop]
    lia
theorem zci (xs:List V) {a b:Int} (h0:0<=a) (h1:0<=b):((cutV xs (some a) (some b)).length:Int)<=max 0 (b - a):=by
  unfold cutV
  rw [List.length_take,List.length_drop]
  have e1:HT.sIx xs.length 0 (some a)=min a.toNat xs.length:=by
    show (if a < 0 then _ else _)=_
    rw [if_neg (by lia)]
  have e2:HT.sIx xs.length xs.length (some b)=min b.toNat xs.length:=by
    show (if b < 0 then _ else _)=_
    rw [if_neg (by lia)]
  rw [e1,e2]
  lia
theorem slW {K:PySem.W.Frag} {H:Hp} {Q:VK} {l:Addr} {ws us:List Str} {lo hi:Option Int} (h:H l=some (.lst (ws.map V.str))) (e:cutV (ws.map V.str) lo hi=us.map V.str) (q:∀ p,H p=none->Q (.ref p) (upd H p (.lst (us.map V.str)))):rSlL K (.ref l) lo hi H Q :=
  ⟨l,_,rfl,SqL.of h,fun p hp=>by rw [e]; exact q p hp⟩
theorem slWn {K:PySem.W.Frag} {σ:St} {H:Hp} {Q:VK} {l:Addr} {ws us:List Str} {lo:Option Int} (h:H l=some (.lst (ws.map V.str))) (e:cutV (ws.map V.str) lo none=us.map V.str) (q:∀ p,H p=none->Q (.ref p) (upd H p (.lst (us.map V.str)))):Zj σ H fun u H3=>rSlL K (.ref l) lo u H3 Q:=slW h e q
theorem catW {H:Hp} {Q:VK} {a b:Addr} {us vs:List Str} (h:H a=some (.lst (us.map V.str))) (g:H b=some (.lst (vs.map V.str))) (hl:us.length + vs.length<=10000) (q:∀ p,H p=none->Q (.ref p) (upd H p (.lst ((us ++ vs).map V.str)))):rCat (.ref a) (.ref b) H Q :=
  ⟨a,b,_,_,rfl,rfl,h,g,by rw [List.length_map,List.length_map,line]; lia,fun p hp=>by rw [<- List.map_append]; exact q p hp⟩
def SOME:List Str:=["give","let","if","else","case","end","num","plus","rest","make","call","func","ask",";",":","=","kind","def","a","bc","0","7","-5","-0","00","12","1_0","same","hold","told"]
theorem Xs:Txt.split (("give let if else case end num plus rest make call func ask ; : =":Str) ++ " kind def a bc 0 7 -5 -0 00 12 1_0 same hold told") " "=SOME:=by decide +kernel
theorem zaA:∀ x∈SOME,wdB x=true/\x≠("":Str):=by decide +kernel
def Zf:Sp:=fun vs H Q _=>∃ (l:Addr) (c:Int) (ws:List Str),vs=[.ref l,.int c]/\H l=some (.lst (ws.map V.str))/\WOk ws/\ws.length<=900/\∀ (H':Hp) (p:Addr) (us:List Str),Same H H'->H' p=some (.lst (us.map V.str))->WOk us->us.length<=ws.length + 7->Q (.ref p) H'
section
variable {P:Program} {w:World} {K:PySem.W.Frag} {mg:Str->Option Value} {base:Heap} {f:Addr} {fd:FuncData}
theorem scChanged:FnScope ["_law_words_here","_law_cell","_law_some","_law_word","_law_at","_law_way","_law_turned","_law_to"] ["_law_words_here","_law_cell"] (zn jo):=⟨rfl,rfl,rfl,by decide +kernel,rfl,by decide +kernel,by decide +kernel⟩
theorem Xt (F:Fun K "_law_changed" "_law_changed" jo f fd) (m_len:mg "len"=none):FnOk P w K mg base CX0 1 f fd ["_law_words_here","_law_cell"] Zf:=by
  refine F.by scChanged (fun vs H Q E h=>?_) (fun cdv A outer s H vs Q E hr h=>?_)
  · obtain ⟨l,c,ws,rfl,_⟩:=h
    rfl
  obtain ⟨l,c,ws,rfl,hl,hW,h9,q⟩:=h
  refine ⟨_,
    (zd (zu (i:=2) scChanged.nd rfl (Or.inl rfl) zj)
    (zd (zu (i:=2) scChanged.nd rfl (Or.inl rfl) (zp yT (jv 2) zj))
    (zd (zu (i:=3) scChanged.nd rfl (Or.inl rfl) (zE zG (zZ PySem.F.plainAttrs_str PySem.F.slot_str_split PySem.F.type_str_split yY (jv 2) (ja_c zj ze)) (zp z5 (zp yh (jv 1) zg) zg) (fun _ _=>rfl)))
    (zd (zu (i:=4) scChanged.nd rfl (Or.inl rfl) (zp z5 (zp yh (jv 1) zg) (zK zy rfl m_len PySem.boot_len (ja_c (jv 0) ze))))
    (zd (zu (i:=5) scChanged.nd rfl (Or.inl rfl) (zp z5 (jv 1) zg))
    (zd (zC (zt z7 (jv 5) zg (zw _))
      (zh (zq (zp z8 (zp z8 (zD z3 (jv 0) zR (zI (jv 4))) (zB (ja_c (jv 3) ze))) (zD z3 (jv 0) (zI (zp zL (jv 4) zg)) zR))))  zv)
    (zd (zC (zt z7 (jv 5) zg (zw _))
      (zh (zq (zp z8 (zp z8 (zD z3 (jv 0) zR (zI (jv 4))) (zB (ja_c (jv 3) ze))) (zD z3 (jv 0) (zI (jv 4)) zR))))  zv)
    (zd (zC (jW.pt (vN (zt z7 (jv 5) zg (zw _)) (vw (zt ZZ (zK zy rfl m_len PySem.boot_len (ja_c (jv 0) ze)) zg (zw _)))))
      (zh (zq (zp z8 (zD z3 (jv 0) zR (zI (jv 4))) (zD z3 (jv 0) (zI (zp zL (jv 4) zg)) zR))))  zv)
    (zd (zC (zt z7 (jv 5) zg (zw _))
      (zd (zu (i:=6) scChanged.nd rfl (Or.inl rfl) (zp z8 (zD z3 (jv 0) (zI (zp zL (jv 4) zg)) (zI (zp zL (jv 4) zg))) (zD z3 (jv 0) (zI (jv 4)) (zI (zp zL (jv 4) zg)))))
      (zh (zq (zp z8 (zp z8 (zD z3 (jv 0) zR (zI (jv 4))) (jv 6)) (zD z3 (jv 0) (zI (zp zL (jv 4) zg)) zR)))))  zv)
    (zd (zu (i:=7) scChanged.nd rfl (Or.inl rfl) (zp zL (zp zL (jv 4) zg) (zp z5 (zp yh (jv 1) zg) zg)))
    (zd (zC (jW.pt (vN (zt z7 (jv 5) zg (zw _)) (vw (zt yR (zp xy (jv 7) (jv 4)) (zK zy rfl m_len PySem.boot_len (ja_c (jv 0) ze)) (zw _)))))
      (zh (zq (zp z8 (zD z3 (jv 0) zR (zI (jv 4))) (zD z3 (jv 0) (zI (jv 7)) zR))))  zv)
    (zd (zC (zt z7 (jv 5) zg (zw _))
      (zh (zq (zp z8 (zD z3 (jv 0) zR (zI (jv 7))) (zD z3 (jv 0) (zI (jv 4)) zR))))  zv)
    (zh (zq (jv 0))))))))))))))),?_⟩
  have sl:=line
  have cD:∀ {i j:Int},0 < j->j < 1073741824->CDiv i j:=fun h1 h2=>⟨h1,h2⟩
  have wl:0 < ws.length:=List.length_pos_iff.mpr hW.ne
  refine cut5 fun r1_ hr1_=>?_
  refine ⟨_,rfl,_,_,rfl,rfl,by decide,?_⟩
  refine ⟨_,rfl,rfl,_,_,rfl,rfl,by decide,by decide +kernel,fun p0 hp0=>?_⟩
  rw [Xs]
  have s1:=zi hp0 (.lst (SOME.map V.str))
  have hp1:=zc (H:=H) (a:=p0) (o:=.lst (SOME.map V.str))
  generalize upd H p0 (.lst (SOME.map V.str))=H1 at *
  obtain ⟨k,hk,k30⟩:∃ k:Nat,c / 7 % 30=(k:Int)/\k < 30:=⟨(c / 7 % 30).toNat,by lia,by lia⟩
  obtain ⟨x,hx⟩:∃ x,SOME[k]?=some x:=⟨_,List.getElem?_eq_getElem (by show k < 30; exact k30)⟩
  obtain ⟨xw,xn⟩:=zaA x (List.mem_of_getElem? hx)
  obtain ⟨i,hi,il⟩:∃ i:Nat,c / 210 % ((ws.length:Nat):Int)=(i:Int)/\i < ws.length:=by
    have a1:=Int.emod_nonneg (c / 210) (show ((ws.length:Nat):Int)≠0 by lia)
    have a2:=Int.emod_lt_of_pos (c / 210) (show (0:Int) < ((ws.length:Nat):Int) by lia)
    exact ⟨(c / 210 % ((ws.length:Nat):Int)).toNat,by lia,by lia⟩
  have hl1:=s1 _ _ hl
  refine ⟨_,rfl,_,_,rfl,rfl,cD (by decide) (by decide),_,_,rfl,rfl,(by show (0:Int) < _; decide),p0,_,_,.str x,rfl,rfl,SqL.of hp1,by rw [hk]; exact xj hx,?_⟩
  refine ⟨_,rfl,_,_,rfl,rfl,cD (by decide) (by decide),_,rfl,l,_,rfl,.inl (SqL.of hl1),_,_,rfl,rfl,by show (0:Int) < _; rw [List.length_map]; lia,?_⟩
  rw [List.length_map]
  dsimp only
  rw [hi]
  refine ⟨_,rfl,_,_,rfl,rfl,(by show (0:Int) < _; decide),?_⟩
  obtain ⟨j,hj,j6⟩:∃ j:Nat,c / 7 % 6=(j:Int)/\j < 6:=⟨(c / 7 % 6).toNat,by lia,by lia⟩
  show r1_ _ [some (.ref l),some (.int c),some (.str (_ ++ _)),some (.str x),some (.int (i:Int)),some (.int (c % 7)),none,none] H1
  generalize c % 7=way at *
  generalize (("give let if else case end num plus rest make call func ask ; : =":Str) ++ " kind def a bc 0 7 -5 -0 00 12 1_0 same hold told")=zz
  have fin:∀ (H':Hp) (p:Addr) (us:List Str),Same H1 H'->H' p=some (.lst (us.map V.str))->us≠[]->(∀ y∈us,y∈ws\/y=x)->us.length<=ws.length + 7->Q (.ref p) H':=fun H' p us s' hp ne hy hn =>
    q H' p us (s1.trans s') hp ⟨ne,fun y h=>(hy y h).elim (hW.wd y) (fun e=>e ▸ yS xw),fun y h=>(hy y h).elim (hW.no y) (fun e=>e ▸ xn)⟩ hn
  have tk:cutV (ws.map V.str) none (some (i:Int))=(ws.take i).map V.str:=wb (by lia)
  have dr:cutV (ws.map V.str) (some (i:Int)) none=(ws.drop i).map V.str:=wc (by lia)
  have dr1:cutV (ws.map V.str) (some ((i:Int) + 1)) none=(ws.drop (i + 1)).map V.str:=wc (by lia)
  have dr2:cutV (ws.map V.str) (some ((i:Int) + 2)) none=(ws.drop (i + 2)).map V.str:=wc (by lia)
  subst hr1_
  show (tSeq _ _:TS) _ _ _
  refine cut1 fun r2_ hr2_=>?_
  refine ⟨_,rfl,rfl,_,rfl,ite2 (fun _=>?_) (fun _=>nxtC ?_)⟩
  · refine ⟨_,rfl,_,rfl,_,rfl,slW hl1 tk fun pa h_pa=>?_⟩
    have t2:=zi h_pa (.lst ((ws.take i:List Str).map V.str))
    have kl2:=old (o:=(.lst ((ws.take i:List Str).map V.str))) h_pa hl1
    have kpa2:=zc (H:=H1) (a:=pa) (o:=(.lst ((ws.take i:List Str).map V.str)))
    generalize upd H1 pa (.lst ((ws.take i:List Str).map V.str))=H2 at *
    refine ⟨_,rfl,by show 1<=sizeLine; decide,fun pb h_pb=>?_⟩
    have t3:=t2.new (o:=(.lst (([x]:List Str).map V.str))) h_pb
    have kl3:=old (o:=(.lst (([x]:List Str).map V.str))) h_pb kl2
    have kpa3:=old (o:=(.lst (([x]:List Str).map V.str))) h_pb kpa2
    have kpb3:=zc (H:=H2) (a:=pb) (o:=(.lst (([x]:List Str).map V.str)))
    show rCat _ _ (upd H2 pb (.lst (([x]:List Str).map V.str))) _
    generalize upd H2 pb (.lst (([x]:List Str).map V.str))=H3 at *
    refine catW kpa3 kpb3 (by simp only [List.length_append,List.length_take,List.length_drop,List.length_singleton] ; lia) fun pc h_pc=>?_
    have t4:=t3.new (o:=(.lst (((ws.take i ++ [x]):List Str).map V.str))) h_pc
    have kl4:=old (o:=(.lst (((ws.take i ++ [x]):List Str).map V.str))) h_pc kl3
    have kpa4:=old (o:=(.lst (((ws.take i ++ [x]):List Str).map V.str))) h_pc kpa3
    have kpb4:=old (o:=(.lst (((ws.take i ++ [x]):List Str).map V.str))) h_pc kpb3
    have kpc4:=zc (H:=H3) (a:=pc) (o:=(.lst (((ws.take i ++ [x]):List Str).map V.str)))
    generalize upd H3 pc (.lst (((ws.take i ++ [x]):List Str).map V.str))=H4 at *
    refine ⟨_,rfl,_,rfl,_,_,rfl,rfl,_,rfl,slWn kl4 dr1 fun pd h_pd=>?_⟩
    have t5:=t4.new (o:=(.lst ((ws.drop (i + 1):List Str).map V.str))) h_pd
    have kl5:=old (o:=(.lst ((ws.drop (i + 1):List Str).map V.str))) h_pd kl4
    have kpa5:=old (o:=(.lst ((ws.drop (i + 1):List Str).map V.str))) h_pd kpa4
    have kpb5:=old (o:=(.lst ((ws.drop (i + 1):List Str).map V.str))) h_pd kpb4
    have kpc5:=old (o:=(.lst ((ws.drop (i + 1):List Str).map V.str))) h_pd kpc4
    have kpd5:=zc (H:=H4) (a:=pd) (o:=(.lst ((ws.drop (i + 1):List Str).map V.str)))
    generalize upd H4 pd (.lst ((ws.drop (i + 1):List Str).map V.str))=H5 at *
    refine catW kpc5 kpd5 (by simp only [List.length_append,List.length_take,List.length_drop,List.length_singleton] ; lia) fun pz hz=>fin _ pz _ (t5.new hz) zc (by simp) (fun y hy=>by simp only [List.mem_append,List.mem_singleton] at hy; rcases hy with (h | h) | h <;> first | exact .inr h | exact .inl (List.mem_of_mem_take h) | exact .inl (List.mem_of_mem_drop h)) (by simp only [List.length_append,List.length_take,List.length_drop,List.length_singleton]; lia)
  dsimp only
  subst hr2_
  refine cut1 fun r3_ hr3_=>?_
  refine ⟨_,rfl,rfl,_,rfl,ite2 (fun _=>?_) (fun _=>nxtC ?_)⟩
  · refine ⟨_,rfl,_,rfl,_,rfl,slW hl1 tk fun pa h_pa=>?_⟩
    have t2:=zi h_pa (.lst ((ws.take i:List Str).map V.str))
    have kl2:=old (o:=(.lst ((ws.take i:List Str).map V.str))) h_pa hl1
    have kpa2:=zc (H:=H1) (a:=pa) (o:=(.lst ((ws.take i:List Str).map V.str)))
    generalize upd H1 pa (.lst ((ws.take i:List Str).map V.str))=H2 at *
    refine ⟨_,rfl,by show 1<=sizeLine; decide,fun pb h_pb=>?_⟩
    have t3:=t2.new (o:=(.lst (([x]:List Str).map V.str))) h_pb
    have kl3:=old (o:=(.lst (([x]:List Str).map V.str))) h_pb kl2
    have kpa3:=old (o:=(.lst (([x]:List Str).map V.str))) h_pb kpa2
    have kpb3:=zc (H:=H2) (a:=pb) (o:=(.lst (([x]:List Str).map V.str)))
    show rCat _ _ (upd H2 pb (.lst (([x]:List Str).map V.str))) _
    generalize upd H2 pb (.lst (([x]:List Str).map V.str))=H3 at *
    refine catW kpa3 kpb3 (by simp only [List.length_append,List.length_take,List.length_drop,List.length_singleton] ; lia) fun pc h_pc=>?_
    have t4:=t3.new (o:=(.lst (((ws.take i ++ [x]):List Str).map V.str))) h_pc
    have kl4:=old (o:=(.lst (((ws.take i ++ [x]):List Str).map V.str))) h_pc kl3
    have kpa4:=old (o:=(.lst (((ws.take i ++ [x]):List Str).map V.str))) h_pc kpa3
    have kpb4:=old (o:=(.lst (((ws.take i ++ [x]):List Str).map V.str))) h_pc kpb3
    have kpc4:=zc (H:=H3) (a:=pc) (o:=(.lst (((ws.take i ++ [x]):List Str).map V.str)))
    generalize upd H3 pc (.lst (((ws.take i ++ [x]):List Str).map V.str))=H4 at *
    refine ⟨_,rfl,_,rfl,_,rfl,slWn kl4 dr fun pd h_pd=>?_⟩
    have t5:=t4.new (o:=(.lst ((ws.drop i:List Str).map V.str))) h_pd
    have kl5:=old (o:=(.lst ((ws.drop i:List Str).map V.str))) h_pd kl4
    have kpa5:=old (o:=(.lst ((ws.drop i:List Str).map V.str))) h_pd kpa4
    have kpb5:=old (o:=(.lst ((ws.drop i:List Str).map V.str))) h_pd kpb4
    have kpc5:=old (o:=(.lst ((ws.drop i:List Str).map V.str))) h_pd kpc4
    have kpd5:=zc (H:=H4) (a:=pd) (o:=(.lst ((ws.drop i:List Str).map V.str)))
    generalize upd H4 pd (.lst ((ws.drop i:List Str).map V.str))=H5 at *
    refine catW kpc5 kpd5 (by simp only [List.length_append,List.length_take,List.length_drop,List.length_singleton] ; lia) fun pz hz=>fin _ pz _ (t5.new hz) zc (by simp) (fun y hy=>by simp only [List.mem_append,List.mem_singleton] at hy; rcases hy with (h | h) | h <;> first | exact .inr h | exact .inl (List.mem_of_mem_take h) | exact .inl (List.mem_of_mem_drop h)) (by simp only [List.length_append,List.length_take,List.length_drop,List.length_singleton]; lia)
  dsimp only
  subst hr3_
  refine cut1 fun r4_ hr4_=>?_
  have nx4:r4_ { nx:=fun _ H'=>Q .non H',rt:=Q } [some (.ref l),some (.int c),some (.str zz),some (.str x),some (.int (i:Int)),some (.int way),none,none] H1:=by
    subst hr4_
    show (tSeq _ _:TS) _ _ _
    refine cut1 fun r5_ hr5_=>?_
    refine ⟨_,rfl,rfl,_,rfl,ite2 (fun _=>?_) (fun _=>nxtC ?_)⟩
    · obtain ⟨u1,e1,m1,n1⟩:=zaz ws (some ((i:Int) + 1)) (some ((i:Int) + 2))
      have one:cutV (ws.map V.str) (some (i:Int)) (some ((i:Int) + 1))=((ws.drop i).take 1).map V.str:=JJ (k:=1) (by lia)
      have u1l:u1.length<=1:=by
        have:=congrArg List.length e1
        rw [List.length_map] at this
        have h:=zci (ws.map V.str) (a:=(i:Int) + 1) (b:=(i:Int) + 2) (by lia) (by lia)
        lia
      refine ⟨_,rfl,_,rfl,_,_,rfl,rfl,_,rfl,_,rfl,_,_,rfl,rfl,_,rfl,slW hl1 e1 fun pa h_pa=>?_⟩
      have t2:=zi h_pa (.lst ((u1:List Str).map V.str))
      have kl2:=old (o:=(.lst ((u1:List Str).map V.str))) h_pa hl1
      have kpa2:=zc (H:=H1) (a:=pa) (o:=(.lst ((u1:List Str).map V.str)))
      generalize upd H1 pa (.lst ((u1:List Str).map V.str))=H2 at *
      refine ⟨_,rfl,_,rfl,_,rfl,_,rfl,_,_,rfl,rfl,_,rfl,slW kl2 one fun pb h_pb=>?_⟩
      have t3:=t2.new (o:=(.lst (((ws.drop i).take 1:List Str).map V.str))) h_pb
      have kl3:=old (o:=(.lst (((ws.drop i).take 1:List Str).map V.str))) h_pb kl2
      have kpa3:=old (o:=(.lst (((ws.drop i).take 1:List Str).map V.str))) h_pb kpa2
      have kpb3:=zc (H:=H2) (a:=pb) (o:=(.lst (((ws.drop i).take 1:List Str).map V.str)))
      generalize upd H2 pb (.lst (((ws.drop i).take 1:List Str).map V.str))=H3 at *
      refine catW kpa3 kpb3 (by simp only [List.length_take,List.length_drop]; lia) fun pc h_pc=>?_
      have t4:=t3.new (o:=(.lst (((u1 ++ (ws.drop i).take 1):List Str).map V.str))) h_pc
      have kl4:=old (o:=(.lst (((u1 ++ (ws.drop i).take 1):List Str).map V.str))) h_pc kl3
      have kpa4:=old (o:=(.lst (((u1 ++ (ws.drop i).take 1):List Str).map V.str))) h_pc kpa3
      have kpb4:=old (o:=(.lst (((u1 ++ (ws.drop i).take 1):List Str).map V.str))) h_pc kpb3
      have kpc4:=zc (H:=H3) (a:=pc) (o:=(.lst (((u1 ++ (ws.drop i).take 1):List Str).map V.str)))
      generalize upd H3 pc (.lst (((u1 ++ (ws.drop i).take 1):List Str).map V.str))=H4 at *
      refine ⟨_,rfl,_,rfl,_,rfl,slW kl4 tk fun pd h_pd=>?_⟩
      have t5:=t4.new (o:=(.lst ((ws.take i:List Str).map V.str))) h_pd
      have kl5:=old (o:=(.lst ((ws.take i:List Str).map V.str))) h_pd kl4
      have kpa5:=old (o:=(.lst ((ws.take i:List Str).map V.str))) h_pd kpa4
      have kpb5:=old (o:=(.lst ((ws.take i:List Str).map V.str))) h_pd kpb4
      have kpc5:=old (o:=(.lst ((ws.take i:List Str).map V.str))) h_pd kpc4
      have kpd5:=zc (H:=H4) (a:=pd) (o:=(.lst ((ws.take i:List Str).map V.str)))
      generalize upd H4 pd (.lst ((ws.take i:List Str).map V.str))=H5 at *
      refine ⟨_,rfl,?_⟩
      refine catW kpd5 kpc5 (by simp only [List.length_append,List.length_take,List.length_drop,List.length_singleton] ; lia) fun pe h_pe=>?_
      have t6:=t5.new (o:=(.lst (((ws.take i ++ (u1 ++ (ws.drop i).take 1)):List Str).map V.str))) h_pe
      have kl6:=old (o:=(.lst (((ws.take i ++ (u1 ++ (ws.drop i).take 1)):List Str).map V.str))) h_pe kl5
      have kpa6:=old (o:=(.lst (((ws.take i ++ (u1 ++ (ws.drop i).take 1)):List Str).map V.str))) h_pe kpa5
      have kpb6:=old (o:=(.lst (((ws.take i ++ (u1 ++ (ws.drop i).take 1)):List Str).map V.str))) h_pe kpb5
      have kpc6:=old (o:=(.lst (((ws.take i ++ (u1 ++ (ws.drop i).take 1)):List Str).map V.str))) h_pe kpc5
      have kpd6:=old (o:=(.lst (((ws.take i ++ (u1 ++ (ws.drop i).take 1)):List Str).map V.str))) h_pe kpd5
      have kpe6:=zc (H:=H5) (a:=pe) (o:=(.lst (((ws.take i ++ (u1 ++ (ws.drop i).take 1)):List Str).map V.str)))
      generalize upd H5 pe (.lst (((ws.take i ++ (u1 ++ (ws.drop i).take 1)):List Str).map V.str))=H6 at *
      refine ⟨_,rfl,_,rfl,_,_,rfl,rfl,_,rfl,slWn kl6 dr2 fun pf h_pf=>?_⟩
      have t7:=t6.new (o:=(.lst ((ws.drop (i + 2):List Str).map V.str))) h_pf
      have kl7:=old (o:=(.lst ((ws.drop (i + 2):List Str).map V.str))) h_pf kl6
      have kpa7:=old (o:=(.lst ((ws.drop (i + 2):List Str).map V.str))) h_pf kpa6
      have kpb7:=old (o:=(.lst ((ws.drop (i + 2):List Str).map V.str))) h_pf kpb6
      have kpc7:=old (o:=(.lst ((ws.drop (i + 2):List Str).map V.str))) h_pf kpc6
      have kpd7:=old (o:=(.lst ((ws.drop (i + 2):List Str).map V.str))) h_pf kpd6
      have kpe7:=old (o:=(.lst ((ws.drop (i + 2):List Str).map V.str))) h_pf kpe6
      have kpf7:=zc (H:=H6) (a:=pf) (o:=(.lst ((ws.drop (i + 2):List Str).map V.str)))
      generalize upd H6 pf (.lst ((ws.drop (i + 2):List Str).map V.str))=H7 at *
      refine catW kpe7 kpf7 (by simp only [List.length_append,List.length_take,List.length_drop,List.length_singleton] ; lia) fun pz hz=>fin _ pz _ (t7.new hz) zc (fun z=>by have:=congrArg List.length z; simp only [List.length_append,List.length_take,List.length_drop,List.length_nil] at this; lia) (fun y hy=>by simp only [List.mem_append] at hy; rcases hy with (h | h | h) | h <;> first | exact .inl (m1 y h) | exact .inl (List.mem_of_mem_drop (List.mem_of_mem_take h)) | exact .inl (List.mem_of_mem_take h) | exact .inl (List.mem_of_mem_drop h)) (by simp only [List.length_append,List.length_take,List.length_drop,List.length_singleton]; lia)
    dsimp only
    subst hr5_
    refine cut1 fun r6_ hr6_=>?_
    refine ⟨_,rfl,_,_,rfl,rfl,_,rfl,_,_,rfl,rfl,cD (by decide) (by decide),_,_,rfl,rfl,(by show (0:Int) < _; decide),_,_,rfl,rfl,?_⟩
    dsimp only
    rw [hj]
    show r6_ _ [some (.ref l),some (.int c),some (.str zz),some (.str x),some (.int (i:Int)),some (.int way),none,some (.int ((i + 1 + j:Nat):Int))] H1
    subst hr6_
    show (tSeq _ _:TS) _ _ _
    refine cut1 fun r7_ hr7_=>?_
    have drt:cutV (ws.map V.str) (some ((i + 1 + j:Nat):Int)) none=(ws.drop (i + 1 + j)).map V.str:=wc (by lia)
    have tkt:cutV (ws.map V.str) none (some ((i + 1 + j:Nat):Int))=(ws.take (i + 1 + j)).map V.str:=wb (by lia)
    have nx7:r7_ { nx:=fun _ H'=>Q .non H',rt:=Q } [some (.ref l),some (.int c),some (.str zz),some (.str x),some (.int (i:Int)),some (.int way),none,some (.int ((i + 1 + j:Nat):Int))] H1:=by
      subst hr7_
      show (tSeq _ _:TS) _ _ _
      refine ⟨_,rfl,rfl,_,rfl,ite2 (fun _=>?_) (fun _=>nxtC ?_)⟩
      · refine ⟨_,rfl,_,rfl,_,rfl,slW hl1 tkt fun pa h_pa=>?_⟩
        have t2:=zi h_pa (.lst ((ws.take (i + 1 + j):List Str).map V.str))
        have kl2:=old (o:=(.lst ((ws.take (i + 1 + j):List Str).map V.str))) h_pa hl1
        have kpa2:=zc (H:=H1) (a:=pa) (o:=(.lst ((ws.take (i + 1 + j):List Str).map V.str)))
        generalize upd H1 pa (.lst ((ws.take (i + 1 + j):List Str).map V.str))=H2 at *
        refine ⟨_,rfl,_,rfl,_,rfl,slWn kl2 dr fun pb h_pb=>?_⟩
        have t3:=t2.new (o:=(.lst ((ws.drop i:List Str).map V.str))) h_pb
        have kl3:=old (o:=(.lst ((ws.drop i:List Str).map V.str))) h_pb kl2
        have kpa3:=old (o:=(.lst ((ws.drop i:List Str).map V.str))) h_pb kpa2
        have kpb3:=zc (H:=H2) (a:=pb) (o:=(.lst ((ws.drop i:List Str).map V.str)))
        generalize upd H2 pb (.lst ((ws.drop i:List Str).map V.str))=H3 at *
        refine catW kpa3 kpb3 (by simp only [List.length_append,List.length_take,List.length_drop,List.length_singleton] ; lia) fun pz hz=>fin _ pz _ (t3.new hz) zc (fun z=>by have:=congrArg List.length z; simp only [List.length_append,List.length_take,List.length_drop,List.length_nil] at this; lia) (fun y hy=>.inl ((List.mem_append.mp hy).elim List.mem_of_mem_take List.mem_of_mem_drop)) (by simp only [List.length_append,List.length_take,List.length_drop,List.length_singleton]; lia)
      exact ⟨_,rfl,fin _ l ws (Same.refl _) hl1 hW.ne (fun y hy=>.inl hy) (by lia)⟩
    refine ⟨_,rfl,rfl,_,rfl,ite2 (fun _=>?_) (fun _=>iteF nx7)⟩
    refine ⟨_,rfl,_,rfl,_,_,rfl,rfl,_,rfl,l,_,rfl,.inl (SqL.of hl1),_,_,rfl,rfl,_,rfl,?_⟩
    rw [List.length_map]
    by_cases c4:j + 1 < ws.length
    · rw [decide_eq_true (by lia)]
      refine iteT ?_
      refine ⟨_,rfl,_,rfl,_,rfl,slW hl1 tk fun pa h_pa=>?_⟩
      have t2:=zi h_pa (.lst ((ws.take i:List Str).map V.str))
      have kl2:=old (o:=(.lst ((ws.take i:List Str).map V.str))) h_pa hl1
      have kpa2:=zc (H:=H1) (a:=pa) (o:=(.lst ((ws.take i:List Str).map V.str)))
      generalize upd H1 pa (.lst ((ws.take i:List Str).map V.str))=H2 at *
      refine ⟨_,rfl,_,rfl,_,rfl,slWn kl2 drt fun pb h_pb=>?_⟩
      have t3:=t2.new (o:=(.lst ((ws.drop (i + 1 + j):List Str).map V.str))) h_pb
      have kl3:=old (o:=(.lst ((ws.drop (i + 1 + j):List Str).map V.str))) h_pb kl2
      have kpa3:=old (o:=(.lst ((ws.drop (i + 1 + j):List Str).map V.str))) h_pb kpa2
      have kpb3:=zc (H:=H2) (a:=pb) (o:=(.lst ((ws.drop (i + 1 + j):List Str).map V.str)))
      generalize upd H2 pb (.lst ((ws.drop (i + 1 + j):List Str).map V.str))=H3 at *
      refine catW kpa3 kpb3 (by simp only [List.length_append,List.length_take,List.length_drop,List.length_singleton] ; lia) fun pz hz=>fin _ pz _ (t3.new hz) zc (fun z=>by have:=congrArg List.length z; simp only [List.length_append,List.length_take,List.length_drop,List.length_nil] at this; lia) (fun y hy=>.inl ((List.mem_append.mp hy).elim List.mem_of_mem_take List.mem_of_mem_drop)) (by simp only [List.length_append,List.length_take,List.length_drop,List.length_singleton]; lia)
    · rw [decide_eq_false (by lia)]
      exact iteF nx7
  refine ⟨_,rfl,rfl,_,rfl,ite2 (fun _=>?_) (fun _=>iteF nx4)⟩
  refine ⟨_,rfl,l,_,rfl,.inl (SqL.of hl1),_,_,rfl,rfl,_,rfl,?_⟩
  rw [List.length_map]
  by_cases c2:1 < ws.length
  · rw [decide_eq_true (by lia)]
    refine iteT ?_
    refine ⟨_,rfl,_,rfl,_,rfl,slW hl1 tk fun pa h_pa=>?_⟩
    have t2:=zi h_pa (.lst ((ws.take i:List Str).map V.str))
    have kl2:=old (o:=(.lst ((ws.take i:List Str).map V.str))) h_pa hl1
    have kpa2:=zc (H:=H1) (a:=pa) (o:=(.lst ((ws.take i:List Str).map V.str)))
    generalize upd H1 pa (.lst ((ws.take i:List Str).map V.str))=H2 at *
    refine ⟨_,rfl,_,rfl,_,_,rfl,rfl,_,rfl,slWn kl2 dr1 fun pb h_pb=>?_⟩
    have t3:=t2.new (o:=(.lst ((ws.drop (i + 1):List Str).map V.str))) h_pb
    have kl3:=old (o:=(.lst ((ws.drop (i + 1):List Str).map V.str))) h_pb kl2
    have kpa3:=old (o:=(.lst ((ws.drop (i + 1):List Str).map V.str))) h_pb kpa2
    have kpb3:=zc (H:=H2) (a:=pb) (o:=(.lst ((ws.drop (i + 1):List Str).map V.str)))
    generalize upd H2 pb (.lst ((ws.drop (i + 1):List Str).map V.str))=H3 at *
    refine catW kpa3 kpb3 (by simp only [List.length_append,List.length_take,List.length_drop,List.length_singleton] ; lia) fun pz hz=>fin _ pz _ (t3.new hz) zc (fun z=>by have:=congrArg List.length z; simp only [List.length_append,List.length_take,List.length_drop,List.length_nil] at this; lia) (fun y hy=>.inl ((List.mem_append.mp hy).elim List.mem_of_mem_take List.mem_of_mem_drop)) (by simp only [List.length_append,List.length_take,List.length_drop,List.length_singleton]; lia)
  · rw [decide_eq_false (by lia)]
    exact iteF nx4
end
end Rdr
namespace Rdr
open PySem L2 K11 Rd
theorem W2 {b:Str} (h:yb b=true):∃ n:Int,0<=n/\n<=9/\b=Str.ofString (toString n)/\yB b=n:=by
  have h2:=h
  unfold yb at h
  rw [Bool.and_eq_true,decide_eq_true_eq] at h
  obtain ⟨h1,hS⟩:=h
  have hl:(cl b).length=1:=by rw [ye]; have:=V.int.inj h1; lia
  obtain ⟨c,hc⟩:=List.length_eq_one_iff.mp hl
  have ez:b=sg c:=y7 hc
  rw [ez] at hS
  have dg:=jb c (inS_iff.mp hS)
  obtain ⟨m,hm,m9⟩:∃ m:Nat,c=48 + m/\m<=9:=⟨c - 48,by lia,by lia⟩
  have key:∀ m:Nat,m<=9->sg (48 + m)=Str.ofString (toString ((m:Nat):Int)):=by decide +kernel
  have e:b=Str.ofString (toString ((m:Nat):Int)):=by rw [ez,hm,key m m9]
  exact ⟨m,by lia,by lia,e,by rw [e]; exact (yK (n:=((m:Nat):Int)) (by lia)).2⟩
theorem Zg {r r':List Str} {d:D} (h:yP r=some (d,r')):∃ p:Str × Int,d=JA p/\r=vq p ++ r'/\PairG p:=by
  cases r with
  | nil=>cases h
  | cons a t =>
    cases t with
    | nil=>rw [js] at h; cases h
    | cons b t =>
      rw [ZR] at h
      by_cases c:zx a=true/\yb b=true
      · rw [if_pos c] at h
        cases h
        obtain ⟨n,n0,n9,e,ei⟩:=W2 c.2
        refine ⟨(a,n),by rw [ei]; rfl,?_,⟨c.1,n0,n9⟩⟩
        show a :: b :: r'=a :: Str.ofString (toString n) :: r'
        rw [<- e]
      · rw [if_neg c] at h
        cases h
theorem ju:∀ (n:Nat) (acc:List D) (r:List Str) (l:List D),xq n acc r=some l->∃ m:List (Str × Int),l=acc ++ m.map JA/\r=m.flatMap vq/\∀ p∈m,PairG p
  | 0,acc,r,l,h=>by
    unfold xq at h
    split at h
    · rename_i e
      cases h
      exact ⟨[],(List.append_nil _).symm,List.isEmpty_iff.mp e,fun p hp=>by cases hp⟩
    · cases h
  | n + 1,acc,r,l,h=>by
    unfold xq at h
    split at h
    · rename_i e
      cases h
      exact ⟨[],(List.append_nil _).symm,List.isEmpty_iff.mp e,fun p hp=>by cases hp⟩
    · obtain ⟨⟨d,r1⟩,h1,h2⟩:=Option.bind_eq_some_iff.mp h
      obtain ⟨p,e1,e2,e3⟩:=Zg h1
      obtain ⟨m,f1,f2,f3⟩:=ju n _ _ _ h2
      dsimp only at f1 f2
      refine ⟨p :: m,by rw [f1,e1]; simp,by rw [e2,f2]; rfl,fun q hq=>(List.mem_cons.mp hq).elim (fun e=>e ▸ e3) (f3 q)⟩
theorem W3 {r:List Str} {l:List D} (h:xi r=some l) (hl:r.length<=300):KRow (.tup l) (("kind":Str) :: r):=by
  unfold xi at h
  obtain ⟨⟨d,r1⟩,h1,h2⟩:=Option.bind_eq_some_iff.mp h
  obtain ⟨p,e1,e2,e3⟩:=Zg h1
  obtain ⟨m,f1,f2,f3⟩:=ju _ _ _ _ h2
  dsimp only at f1 f2
  have plen:∀ m:List (Str × Int),(m.flatMap vq).length=2 * m.length:=fun m=>by
    induction m with
    | nil=>rfl
    | cons a m ih =>
      rw [List.flatMap_cons,List.length_append,ih,List.length_cons]
      have:(vq a).length=2:=rfl
      lia
  have:=plen m
  have p2:(vq p).length=2:=rfl
  rw [e2,f2,List.length_append,this] at hl
  have hg:∀ q∈p :: m,PairG q:=fun q hq=>(List.mem_cons.mp hq).elim (fun e=>e ▸ e3) (f3 q)
  exact ⟨p :: m,by rw [f1,e1]; rfl,by rw [e2,f2]; rfl,by rw [List.length_cons]; lia,fun q hq=>⟨(zS (hg q hq).nm).1,(hg q hq).lo,(hg q hq).hi⟩⟩
theorem JU {r:List Str} {d:D} (h:pDef r=some d) (hl:r.length<=300):DRow d (("def":Str) :: r):=by
  unfold pDef at h
  obtain ⟨⟨g,r1⟩,h1,h2⟩:=Option.bind_eq_some_iff.mp h
  obtain ⟨⟨ns,r2⟩,h3,h4⟩:=Option.bind_eq_some_iff.mp h2
  obtain ⟨e1,e2⟩:=z6 h1
  obtain ⟨ms,f1,f2,f3,f4⟩:=yJ h3 (Nat.zero_le _)
  rw [List.nil_append] at f1
  subst f1
  dsimp only at f2 h4
  split at h4
  · rename_i b hb
    cases h4
    obtain ⟨ws,g1,g2⟩:=xH _ _ _ _ hb
    rw [List.append_nil] at g1
    refine DGood.row ⟨g,ns,b,ws,rfl,by rw [e1,f2,g1],e2,f3,f4,g2,?_⟩
    rw [e1,f2,g1,List.length_cons,List.length_append,List.length_cons] at hl
    lia
  · cases h4
theorem WOk.row {ws:List Str} (h:WOk ws) (hl:ws.length<=2000):RowW ws:=by
  obtain ⟨x,r,e⟩:=List.exists_cons_of_ne_nil h.ne
  exact ⟨h.wd,⟨x,r,e,h.no x (by rw [e]; exact List.mem_cons_self)⟩,hl⟩
theorem WOk.text {ws:List Str} (h:WOk ws) (hl:ws.length<=2000):(ya (tx ws)).map yy=[ws]/\Fit (tx ws):=by
  have:=zaf (rows:=[ws]) (fun u hu=>by rw [List.mem_singleton.mp hu]; exact h.row hl) (by simp; lia) (by simp)
  have e:Str.join NL ([ws].map tx)=tx ws:=rfl
  rw [e] at this
  exact this
theorem JV {ws:List Str} (h:dueB ws=false):RowsR 0 [] [] [ws] (.error 0):=by
  refine .bad ?_
  cases ws with
  | nil=>rfl
  | cons y r =>
    unfold dueB at h
    dsimp only at h
    unfold rowR
    dsimp only
    by_cases c1:y="kind"
    · rw [if_pos c1] at h
      rw [if_neg (by rw [c1]; decide),if_pos ⟨c1,rfl⟩]
      cases hk:xi r with
      | none=>rfl
      | some l=>rw [hk] at h; cases h
    · rw [if_neg c1] at h
      by_cases c2:y="def"
      · rw [if_pos c2] at h
        rw [if_pos c2]
        refine ⟨_,Wh r,?_⟩
        cases hk:pDef r with
        | none=>rfl
        | some l=>rw [hk] at h; cases h
      · rw [if_neg c2,if_neg (fun z=>c1 z.1)]
theorem W4 {ws:List Str} (h:dueB ws=true) (hl:ws.length<=300):(∃ k r,ws=("kind":Str) :: r/\KRow k ws/\RowsR 0 [] [] [ws] (.ok ([k],[])))\/∃ d r,ws=("def":Str) :: r/\DRow d ws/\RowsR 0 [] [] [ws] (.ok ([],[d])):=by
  cases ws with
  | nil=>cases h
  | cons y r =>
    rw [List.length_cons] at hl
    unfold dueB at h
    dsimp only at h
    by_cases c1:y="kind"
    · rw [if_pos c1] at h
      obtain ⟨l,hk⟩:=Option.isSome_iff_exists.mp h
      subst c1
      refine .inl ⟨.tup l,r,rfl,W3 hk (by lia),.row (ks':=[.tup l]) (ds':=[]) ?_ .nil⟩
      unfold rowR
      dsimp only
      rw [if_neg (by decide),if_pos ⟨rfl,rfl⟩,hk]
      rfl
    · rw [if_neg c1] at h
      by_cases c2:y="def"
      · rw [if_pos c2] at h
        obtain ⟨d,hk⟩:=Option.isSome_iff_exists.mp h
        subst c2
        refine .inr ⟨d,r,rfl,JU hk (by lia),.row (ks':=[]) (ds':=[d]) ?_ .nil⟩
        unfold rowR
        dsimp only
        rw [if_pos rfl]
        exact ⟨_,Wh r,by rw [hk]; rfl⟩
      · rw [if_neg c2] at h
        cases h
end Rdr
namespace Rdr
open PySem L2 K11 Rd
section
variable {P:Program} {w:World} {K:PySem.W.Frag} {mg:Str->Option Value} {base:Heap} {f:Addr} {fd:FuncData}
theorem scLaw16:FnScope ["_law_script","_law_words_here","_law_cell","_law_text","_law_row","_law_found","e"] ["_law_script"] (zn Xp):=⟨rfl,rfl,rfl,by decide +kernel,rfl,by decide +kernel,by decide +kernel⟩
theorem JW {A:Adr} {fi:Addr} (F:Fun K "law" "law" Xp f fd) (GB:Ca P w K mg base CX0 6 "_law_base" ["_law_script"] (JR K)) (GC:Ca P w K mg base CX0 1 "_law_changed" ["_law_words_here","_law_cell"] Zf) (GD:Ca P w K mg base CX0 (5 + 120 + 1) "_law_due" ["_law_words_here"] (zaY 120)) (GR:Ca P w K mg base (CXf P w) 13 "read" ["text"] (Jd A)) (GS:Ca P w K mg base CX0 4 "shown" ["program"] Wb) (M:XCl K A.cN fi) (hn:PySem.W.findIn K (.ref A.cN) "row"=some none) (hh:PySem.W.hasDictIn K A.cN=true)
    (mN:mg "NoText"=some (.ref A.cN)) (x1:PySem.W.exmOne K (.ref A.cN) (.ref A.cN)=some true) (m_len:mg "len"=none) (m_int:mg "int"=none) (m_bool:mg "bool"=none) (m_tuple:mg "tuple"=none) (m_isinstance:mg "isinstance"=none):FnOk P w K mg base CX0 (5 + 120 + 1 + 1) f fd ["_law_script"] (j0 K):=by
  refine F.by scLaw16 (fun vs H Q E h=>?_) (fun cdv A' outer s H vs Q E hr h=>?_)
  · obtain ⟨a,ns,rfl,_⟩:=h
    rfl
  obtain ⟨a,ns,rfl,hS,h63,q⟩:=h
  have hr1:Room 1 _:=hr.mono (by decide)
  have hr4:Room 4 _:=hr.mono (by decide)
  have hr6:Room 6 _:=hr.mono (by decide)
  have hr13:Room 13 _:=hr.mono (by decide)
  refine ⟨_,
    (zd (zu (i:=1) scLaw16.nd rfl (Or.inl rfl) (zN GB hr6 rfl zJ (ja_c (jv 0) ze)))
    (zd (y0 PassesOwn.never rfl (xX (zp z8 (zD z3 (jv 0) zR (zI zg)) (zD z3 (zD z3 (jv 0) (zI zg) zR) (zI (yt zg)) zR))) (zF (i:=2) scLaw16.nd rfl (Or.inl rfl))
      (zh (zC (zt z7 (zp z5 (jv 2) zg) zg (zw _))
        (zh (zu (i:=1) scLaw16.nd rfl (Or.inl rfl) (zN GC hr1 rfl zJ (ja_c (jv 1) (ja_c (zp yh (jv 2) zg) ze)))))  zv)))
    (zd (zu (i:=1) scLaw16.nd rfl (Or.inl rfl) (zD z3 (jv 1) zR (zI zg)))
    (zd (zu (i:=3) scLaw16.nd rfl (Or.inl rfl) (zZ PySem.F.plainAttrs_str PySem.F.slot_str_join PySem.F.type_str_join yI zj (ja_c (jv 1) ze)))
    (zd (zu (i:=4) scLaw16.nd rfl (Or.inl rfl) (yt zg))
    (zd (zu (i:=5) scLaw16.nd rfl (Or.inl rfl) vM)
    (zd (zau (i:=6) (j:=5) GR hr13 rfl (ja_c (jv 3) ze) scLaw16.nd rfl rfl rfl mN (fun e oe=>zh (zu (i:=4) scLaw16.nd rfl (Or.inl rfl) (QL (e:=e) (oe:=oe) List.mem_cons_self M hn hh (jv 6)))))
    (zd (zC (yz (yw (zN GD hr rfl zJ (ja_c (jv 1) ze))))
      (zh (zq (xx (zbR (jv 5)) (xx (zK xo rfl m_isinstance PyProof.Rows.boot_isinstance (ja_c (jv 4) (ja_c (wC (v:=.ty "int") rfl m_int PyProof.Rows.boot_int rfl) ze))) (xx (YM (zK xo rfl m_isinstance PyProof.Rows.boot_isinstance (ja_c (jv 4) (ja_c (wC (v:=.ty "bool") rfl m_bool PyProof.Rows.boot_bool rfl) ze)))) (wo (yg z7 (jv 4) zg (zw _))))))))  zv)
    (zd (zC (jW.pt (yQ (yz (yw (zK xo rfl m_isinstance PyProof.Rows.boot_isinstance (ja_c (jv 5) (ja_c (wC (v:=.ty "tuple") rfl m_tuple PyProof.Rows.boot_tuple rfl) ze))))) (yQ (zt xl (zK zy rfl m_len PySem.boot_len (ja_c (jv 5) ze)) zg (zw _)) (yD (zt xl (jv 4) (yt zg) (zw _))))))
      (zh (zq xN))  zv)
    (zd (zC (jW.pt (yQ (zt xl (zp zL (zK zy rfl m_len PySem.boot_len (ja_c (zE z9 (jv 5) zg (fun _ _=>rfl)) ze)) (zK zy rfl m_len PySem.boot_len (ja_c (zE z9 (jv 5) zg (fun _ _=>rfl)) ze))) zg (zw _)) (yD (zt xl (zK zy rfl m_len PySem.boot_len (ja_c (zE z9 (jv 5) zg (fun _ _=>rfl)) ze)) (yd zat rfl m_int PyProof.Rows.boot_int (ja_c (yg z7 (zE zG (jv 1) zg (fun _ _=>rfl)) zj (zw _)) ze)) (zw _)))))
      (zh (zq xN))  zv)
    (zh (zq (yg z7 (zN GS hr4 rfl zJ (ja_c (jv 5) ze)) (jv 3) (zw _)))))))))))))),?_⟩
  have sl:=line
  have cD:∀ {i j:Int},0 < j->j < 1073741824->CDiv i j:=fun h1 h2=>⟨h1,h2⟩
  refine cut2 fun r1_ hr1_=>?_
  refine ⟨_,rfl,a,ns,rfl,hS,h63,fun H1 l ws s1 hl1 _ hW hlen=>?_⟩
  obtain ⟨m1,e1,n1⟩:=xV ns none (some 2)
  obtain ⟨m2,e2,n2⟩:=xV ns (some 2) none
  obtain ⟨m3,e3,n3⟩:=xV m2 (some (-2)) none
  have m1l:m1.length<=2:=by
    have:=congrArg List.length (e1.symm.trans (wb (f:=V.int) (s:=ns) (m:=2) (by decide)))
    rw [List.length_map,List.length_map,List.length_take] at this
    have h2:(2:Int).toNat=2:=rfl
    lia
  refine ⟨_,rfl,_,rfl,a,_,rfl,s1.seq hS,fun p1 hp1=>?_⟩
  rw [e1]
  have s2:=s1.new (o:=.lst (m1.map V.int)) hp1
  have hl2:=old (o:=.lst (m1.map V.int)) hp1 hl1
  have hm2:=zc (H:=H1) (a:=p1) (o:=.lst (m1.map V.int))
  generalize upd H1 p1 (.lst (m1.map V.int))=H2 at *
  refine ⟨_,rfl,_,rfl,a,_,rfl,s2.seq hS,fun p2 hp2=>?_⟩
  rw [e2]
  have s3:=s2.new (o:=.lst (m2.map V.int)) hp2
  have hl3:=old (o:=.lst (m2.map V.int)) hp2 hl2
  have hm3:=old (o:=.lst (m2.map V.int)) hp2 hm2
  have hq3:=zc (H:=H2) (a:=p2) (o:=.lst (m2.map V.int))
  generalize upd H2 p2 (.lst (m2.map V.int))=H3 at *
  refine ⟨_,rfl,_,rfl,p2,_,rfl,SqL.of hq3,fun p3 hp3=>?_⟩
  rw [show cutV (m2.map V.int) (some (-2)) none=m3.map V.int from e3]
  have s4:=s3.new (o:=.lst (m3.map V.int)) hp3
  have hl4:=old (o:=.lst (m3.map V.int)) hp3 hl3
  have hm4:=old (o:=.lst (m3.map V.int)) hp3 hm3
  have hq4:=zc (H:=H3) (a:=p3) (o:=.lst (m3.map V.int))
  generalize upd H3 p3 (.lst (m3.map V.int))=H4 at *
  refine ⟨p1,p3,_,_,rfl,rfl,hm4,hq4,by rw [List.length_map,List.length_map]; lia,fun p5 hp5=>?_⟩
  rw [<- List.map_append]
  have s5:=s4.new (o:=.lst ((m1 ++ m3).map V.int)) hp5
  have hl5:=old (o:=.lst ((m1 ++ m3).map V.int)) hp5 hl4
  have hq5:=zc (H:=H4) (a:=p5) (o:=.lst ((m1 ++ m3).map V.int))
  generalize upd H4 p5 (.lst ((m1 ++ m3).map V.int))=H5 at *
  clear s1 s2 s3 s4 hl1 hl2 hl3 hl4 hm2 hm3 hm4 hq3 hq4 hp1 hp2 hp3 hp5
  refine ⟨p5,rfl,⟨_,SqL.of hq5⟩,xJ (xs:=(m1 ++ m3).map V.int) (fun i σ H'=>∃ (l:Addr) (ws:List Str) (x:Option V),σ=[some (.ref a),some (.ref l),x,none,none,none,none]/\Same H5 H'/\H' l=some (.lst (ws.map V.str))/\WOk ws/\ws.length<=430 + 7 * i) ⟨l,ws,none,rfl,Same.refl _,hl5,hW,by lia⟩ (fun i σ H' _ h=>?_) ?_ ?_⟩
  · obtain ⟨_,_,_,_,s6,_⟩:=h
    exact SqL.of (s6 _ _ hq5)
  · rintro i v σ H6 hv ⟨l,ws,x,rfl,s6,hl6,hW6,hn6⟩
    have hi:=(List.getElem?_eq_some_iff.mp hv).1
    rw [List.length_map,List.length_append] at hi
    rw [List.getElem?_map] at hv
    obtain ⟨d,hd,rfl⟩:=Option.map_eq_some_iff.mp hv
    refine ⟨_,rfl,_,_,rfl,rfl,(by show (0:Int) < _; decide),rfl,_,rfl,ite2 (fun _=>?_) (fun _=>⟨l,ws,_,rfl,s6,hl6,hW6,by lia⟩)⟩
    refine ⟨_,rfl,_,rfl,_,_,rfl,rfl,cD (by decide) (by decide),l,_,ws,rfl,hl6,hW6,by lia,fun H7 p us s7 hp7 hW7 hn7=>?_⟩
    exact ⟨p,us,_,rfl,s6.trans s7,hp7,hW7,by lia⟩
  rintro σ H6 ⟨l,ws,x,rfl,s6,hl6,hW6,hn6⟩
  have s06:=s5.trans s6
  clear s5 s6 hq5 hl5 hW hlen
  subst hr1_
  dsimp only
  have tk:cutV (ws.map V.str) none (some 240)=(ws.take 240).map V.str:=wb (by decide)
  refine ⟨_,rfl,_,rfl,slW hl6 tk fun p7 hp7=>?_⟩
  have hW7:WOk (ws.take 240):=hW6.sub (fun z=>by
    have:=congrArg List.length z
    have:=List.length_pos_iff.mpr hW6.ne
    rw [List.length_take,List.length_nil] at *
    lia) (fun x hx=>List.mem_of_mem_take hx)
  have us240:(ws.take 240).length<=240:=by rw [List.length_take]; lia
  generalize ws.take 240=us at *
  have s7:=s06.new (o:=.lst (us.map V.str)) hp7
  have hu7:=zc (H:=H6) (a:=p7) (o:=.lst (us.map V.str))
  generalize upd H6 p7 (.lst (us.map V.str))=H7 at *
  clear s06 hl6 hW6 hn6 tk hp7
  obtain ⟨t1,t2⟩:=hW7.text (by lia)
  have tl:=wy hW7.wd
  have ww:=xb hW7.wd
  refine ⟨rfl,_,rfl,_,p7,us,rfl,rfl,SqL.of hu7,by show wide SP us<=sizeLine; lia,?_⟩
  rw [show Str.join (" ":Str) us=tx us from rfl]
  have hA7:WsAt H7 p7 us:=⟨hu7,by lia,fun x hx=>Nat.le_trans (hW7.wd x hx).len (by decide)⟩
  cases c:dueB us with
  | false =>
    refine ⟨_,rfl,_,rfl,tx us,.error 0,rfl,t2,by rw [t1]; exact JV c,fun d H8 k8 hd=>⟨x1,fun e oe vs' hc hdx hda hz he=>?_⟩⟩
    refine ⟨_,rfl,rfl,hc,⟨vs',hda⟩,d,_,_,hdx,hd,rfl,?_⟩
    have s8:Same H7 H8:=fun b o z=>k8 _ _ (fun z=>z) z
    refine ⟨_,rfl,p7,us,rfl,hA7.same s8,hW7.ne,us240,by decide,fun H9 s9=>⟨_,rfl,?_⟩⟩
    rw [c]
    refine iteT ?_
    exact ⟨_,rfl,_,rfl,iteT ⟨_,rfl,_,_,_,_,rfl,.int _,rfl,_,rfl,iteT ⟨_,rfl,_,_,_,_,rfl,.int _,rfl,_,rfl,_,rfl,iteT ⟨_,rfl,rfl,q _⟩⟩⟩⟩
  | true =>
    obtain ⟨ks,ds,kws,dws,y,r,hR,h1,er,hy,eK,eD,ew⟩:∃ (ks ds:List D) (kws dws:List (List Str)) (y:Str) (r:List Str),RowsR 0 [] [] [us] (.ok (ks,ds))/\ks.length + ds.length=1/\us=y :: r/\(if decide (V.str y=V.str "kind")=true then 1 else 0:Int)=((ks.length:Nat):Int)/\Each KRow ks kws/\Each DRow ds dws/\kws ++ dws=[us]:=by
      rcases W4 c (by lia) with ⟨k,r,er,hk,hR⟩ | ⟨k,r,er,hk,hR⟩
      · exact ⟨[k],[],[us],[],_,r,hR,rfl,er,rfl,⟨hk,True.intro⟩,True.intro,rfl⟩
      · exact ⟨[],[k],[],[us],_,r,hR,rfl,er,rfl,True.intro,⟨hk,True.intro⟩,rfl⟩
    refine ⟨_,rfl,_,rfl,tx us,.ok (ks,ds),rfl,t2,by rw [t1]; exact hR,fun H8 v s8 hv=>?_⟩
    cases hv with
    | @tup _ t _ ht hL =>
    cases hL with
    | cons a1 hL =>
    cases hL with
    | cons a2 hL =>
    cases hL
    cases a1 with
    | @tup _ t1' _ ht1 l1 =>
    cases a2 with
    | @tup _ t2' _ ht2 l2 =>
    refine ⟨_,rfl,p7,us,rfl,hA7.same s8,hW7.ne,us240,by decide,fun H9 s9=>⟨_,rfl,?_⟩⟩
    rw [c]
    refine iteF (nxtC ?_)
    have ht9:=s9 _ _ ht
    refine ⟨_,rfl,_,_,_,_,rfl,.tup ht9,rfl,_,rfl,iteF ?_⟩
    refine ⟨_,rfl,_,_,rfl,.inr (SqT.of ht9),rfl,_,rfl,ite2 (fun c=>absurd c (by simp)) (fun _=>?_)⟩
    refine ⟨_,rfl,_,rfl,rfl,_,rfl,ite2 (fun c=>absurd c (by decide)) (fun _=>nxtC ?_)⟩
    have q1:=l1.len
    have q2:=l2.len
    subst er
    have hx0:atI ((y :: r).map V.str) (0:Int)=some (.str y):=xj (ws:=y :: r) (i:=0) rfl
    refine ⟨_,rfl,ixT ht9 (yo (j:=0) rfl) ⟨_,_,rfl,.inr (SqT.of (s9 _ _ ht1)),_,rfl,ixT ht9 (yo (j:=1) rfl) ⟨_,_,rfl,.inr (SqT.of (s9 _ _ ht2)),_,_,rfl,rfl,rfl,_,rfl,ite2 (fun c=>?_) (fun _=>?_)⟩⟩⟩
    · rw [decide_eq_true (congrArg V.int (by lia))] at c
      cases c
    refine ⟨_,rfl,ixT ht9 (yo (j:=0) rfl) ⟨_,_,rfl,.inr (SqT.of (s9 _ _ ht1)),_,rfl,p7,_,_,_,rfl,rfl,SqL.of (s9 _ _ (s8 _ _ hu7)),hx0,rfl,.inr ⟨_,rfl,?_⟩⟩⟩
    rw [hy]
    refine ⟨rfl,_,rfl,ite2 (fun c=>?_) (fun _=>nxtC ?_)⟩
    · rw [decide_eq_true (congrArg V.int (by lia))] at c
      cases c
    have isF:Is H9 (.tup [.tup ks,.tup ds]) _:=(Is.tup ht (.cons (.tup ht1 l1) (.cons (.tup ht2 l2) .nil))).keep (fun b xs e=>s9 _ _ e)
    refine ⟨_,rfl,ks,ds,kws,dws,_,rfl,isF,eK,eD,by lia,fun H10 s10=>⟨_,rfl,rfl,?_⟩⟩
    rw [ew,show Str.join NL ([y :: r].map tx)=tx (y :: r) from rfl,decide_eq_true rfl]
    exact q _
end
end Rdr
namespace Rdr
open PySem L2 K11 Rd
structure TopK (K:PySem.W.Frag) (cW cL cI cC cN R:Addr):Prop where
  qap:OwnIn K "Words" cW
  qT:PySem.W.findIn K (.ref cW) "row"=some none
  qG:PySem.W.findIn K (.ref cW) "words"=some none
  qaa:PySem.W.findIn K (.ref cW) "at"=some none
  qab:OwnIn K "BegunLet" cL
  qo:PySem.W.findIn K (.ref cL) "binds"=some none
  qw:PySem.W.findIn K (.ref cL) "deed"=some none
  qah:OwnIn K "BegunIf" cI
  qp:PySem.W.findIn K (.ref cI) "looked"=some none
  qx:PySem.W.findIn K (.ref cI) "first"=some none
  qU:OwnIn K "BegunCase" cC
  qe:PySem.W.findIn K (.ref cC) "looked"=some none
  qq:PySem.W.findIn K (.ref cC) "arms"=some none
  qr:PySem.W.findIn K (.ref cC) "head"=some none
  qao:PySem.W.nsIn K mainGlobals "NoText"=some (some (.ref cN))
  qK:PySem.W.nsIn K mainGlobals "ReuseError"=some (some (.ref R))
  qj:MeIn K cN "__init__" "NoText.__init__" Zv
  qay:PySem.W.takerIn K cN "row"=some none
  qat:PySem.W.findIn K (.ref cN) "row"=some none
  qaG:PySem.W.hasDictIn K cN=true
  qau:Zu K cN=true
  qaH:PySem.W.findIn K (.ref cN) "__setattr__"=some (some (.builtin "object.__setattr__"))
  qaz:(PySem.W.clsIn K cN).any (·.hasDict)=true
  qaI:PySem.W.findIn K (.ref cN) "__getattribute__"=some (some (.builtin "BaseException.__getattribute__"))
  qaJ:PySem.W.findIn K (.ref cN) "__getattr__"=some none
  qaK:PySem.W.subIn K (.ref cN) (.type "BaseException")=some true
  qaL:PySem.W.keepIn K (.ref cN)=true
  qaM:∃ f,PySem.W.findIn K (.ref cN) "__init__"=some (some (.ref f))/\xIn K cN f=true/\PySem.W.typeIn K (.ref f)=some (.type "function")
  qaN:PySem.W.specialIn K (.ref R) "__getattribute__"=some (some (.builtin "type.__getattribute__"))
  qaO:PySem.W.readsIn K R (.type "type")=true
  qaP:PySem.W.findCls K (.ref R) (.type "type") "__init__"=some (.val (.builtin "ValueError.__init__"))
  qai:∃ t,PySem.W.nsIn K mainGlobals "LETTERS"=some (some (.str LETS t))
  qaj:∃ t,PySem.W.nsIn K mainGlobals "FIGURES"=some (some (.str FIGS t))
  x_1:PySem.W.exmOne K (.ref cN) (.ref cN)=some true
  qy:MeIn K cW "insist" "Words.insist" Zx
  qs:MeIn K cW "all_read" "Words.all_read" vU
  qz:MeIn K cW "passed" "Words.passed" Zy
  qk:MeIn K cW "next_word" "Words.next_word" wP
  qak:DfIn K "made_of" VN
  qal:DfIn K "is_name" VO
  qV:DfIn K "is_number" Zw
  ql:MeIn K cW "next_name" "Words.next_name" wQ
  qb:MeIn K cW "next_number" "Words.next_number" xR
  qm:MeIn K cW "next_size" "Words.next_size" wR
  qc:MeIn K cW "names_until" "Words.names_until" YW
  qW:DfIn K "read_head" wV
  qX:DfIn K "read_deed" wW
  qd:MeIn K cL "__init__" "BegunLet.__init__" YX
  qf:MeIn K cI "__init__" "BegunIf.__init__" YZ
  qa:MeIn K cC "__init__" "BegunCase.__init__" Y1
  qt:MeIn K cW "__init__" "Words.__init__" YV
  qn:MeIn K cL "filled" "BegunLet.filled" YY
  qu:MeIn K cI "filled" "BegunIf.filled" Y0
  qg:MeIn K cC "filled" "BegunCase.filled" Y2
  qL:DfIn K "begin_body" Y3
  qY:DfIn K "read_body" wU
  qZ:DfIn K "read_pair" wT
  q0:DfIn K "read_kind" wS
  qac:DfIn K "read_def" vV
  qav:DfIn K "read" VP
  qM:DfIn K "deed_words" Xc
  qN:DfIn K "case_words" Xb
  qam:DfIn K "written" vY
  qan:DfIn K "def_row" ZB
  qad:DfIn K "kind_row" vX
  qaq:DfIn K "shown" Y9
  qH:DfIn K "_law_stream" Zz
  q1:DfIn K "_law_name" Y4
  qO:DfIn K "_law_names" ZA
  qI:DfIn K "_law_number" vW
  q2:DfIn K "_law_deed" Y5
  q3:DfIn K "_law_arms" Y6
  qae:DfIn K "_law_put" VQ
  q4:DfIn K "_law_many" Y7
  q5:DfIn K "_law_tree" Y8
  qA:DfIn K "_law_cell_at" ZO
  q6:DfIn K "_law_base" JF
  qB:DfIn K "_law_changed" jo
  qC:DfIn K "_law_is_name" JG
  qv:DfIn K "_law_is_number" JH
  qP:DfIn K "_law_words" ZP
  q7:DfIn K "_law_till" JI
  qh:DfIn K "_law_behind_deed" Xo
  qi:DfIn K "_law_behind_arms" jp
  qJ:DfIn K "_law_behind" vE
  qaf:DfIn K "_law_due" sDue
  qaA:DfIn K "law" Xp
  qaB:PySem.W.nsIn K mainGlobals "len"=some none
  qar:PySem.W.nsIn K mainGlobals "tuple"=some none
  qaC:PySem.W.nsIn K mainGlobals "int"=some none
  qaD:PySem.W.nsIn K mainGlobals "str"=some none
  qQ:PySem.W.nsIn K mainGlobals "isinstance"=some none
  qaw:PySem.W.nsIn K mainGlobals "bool"=some none
  qax:PySem.W.nsIn K mainGlobals "list"=some none
  q8:PySem.W.nsIn K mainGlobals "enumerate"=some none
  qas:PySem.W.nsIn K mainGlobals "range"=some none
  qaE:PySem.W.nsIn K mainGlobals "all"=some none
  qag:PySem.W.nsIn K mainGlobals "reversed"=some none
  qD:∃ t,PySem.W.nsIn K mainGlobals "MOST_LETTERS"=some (some (.int 12 t))
  qE:∃ t,PySem.W.nsIn K mainGlobals "MOST_FIGURES"=some (some (.int 30 t))
  qR:∃ t,PySem.W.nsIn K mainGlobals "MOST_NAMES"=some (some (.int 9 t))
  q9:∃ t,PySem.W.nsIn K mainGlobals "MOST_ARMS"=some (some (.int 20 t))
  qaF:TpIn K "OPS" OPS
  qF:TpIn K "NAMING_DEEDS" DEEDS
  qS:TpIn K "KEPT_WORDS" KEPT
theorem top_ok {l:PySem.W.OpenLaw} {w:World} {K:PySem.W.Frag} {h:Heap} {mg:Str->Option Value} {fa cW cL cI cC cN R:Addr} (T:TopK K cW cL cI cC cN R) (X:K.In h) (G:h.Ns mainGlobals mg) (hfa:mg "law"=some (.ref fa)) :
    ∃ fd:FuncData,(∀ (s:Shared) (u:Value),BindsTo s fd ⟨[u],[]⟩ [("_law_script",u)])/\∀ base:Heap,K.In base->base.Ns mainGlobals mg->FnOk l.prog w K mg base CX0 127 fa fd ["_law_script"] (j0 K):=by
  refine zbU T.qaA X G hfa (fun _ _ _ _ _ _ s v=>.of_eq rfl) fun base fd FL=>?_
  have qaB:mg "len"=none:=PySem.W.mg_none_of X G T.qaB
  have qar:mg "tuple"=none:=PySem.W.mg_none_of X G T.qar
  have qaC:mg "int"=none:=PySem.W.mg_none_of X G T.qaC
  have qaD:mg "str"=none:=PySem.W.mg_none_of X G T.qaD
  have qQ:mg "isinstance"=none:=PySem.W.mg_none_of X G T.qQ
  have qaw:mg "bool"=none:=PySem.W.mg_none_of X G T.qaw
  have qax:mg "list"=none:=PySem.W.mg_none_of X G T.qax
  have q8:mg "enumerate"=none:=PySem.W.mg_none_of X G T.q8
  have qas:mg "range"=none:=PySem.W.mg_none_of X G T.qas
  have qaE:mg "all"=none:=PySem.W.mg_none_of X G T.qaE
  have qag:mg "reversed"=none:=PySem.W.mg_none_of X G T.qag
  have n_Words:mg "Words"=some (.ref cW):=PySem.W.mg_of X G T.qap.n
  have n_BegunLet:mg "BegunLet"=some (.ref cL):=PySem.W.mg_of X G T.qab.n
  have n_BegunIf:mg "BegunIf"=some (.ref cI):=PySem.W.mg_of X G T.qah.n
  have n_BegunCase:mg "BegunCase"=some (.ref cC):=PySem.W.mg_of X G T.qU.n
  obtain ⟨t_MOST_LETTERS,h_MOST_LETTERS⟩:=T.qD
  have m_MOST_LETTERS:=PySem.W.mg_of X G h_MOST_LETTERS
  obtain ⟨t_MOST_FIGURES,h_MOST_FIGURES⟩:=T.qE
  have m_MOST_FIGURES:=PySem.W.mg_of X G h_MOST_FIGURES
  obtain ⟨t_MOST_NAMES,h_MOST_NAMES⟩:=T.qR
  have m_MOST_NAMES:=PySem.W.mg_of X G h_MOST_NAMES
  obtain ⟨t_MOST_ARMS,h_MOST_ARMS⟩:=T.q9
  have m_MOST_ARMS:=PySem.W.mg_of X G h_MOST_ARMS
  obtain ⟨a_OPS,h_OPS,q_OPS⟩:=T.qaF.sq (by decide)
  have m_OPS:=PySem.W.mg_of X G h_OPS
  obtain ⟨a_NAMING_DEEDS,h_NAMING_DEEDS,q_NAMING_DEEDS⟩:=T.qF.sq (by decide)
  have m_NAMING_DEEDS:=PySem.W.mg_of X G h_NAMING_DEEDS
  obtain ⟨a_KEPT_WORDS,h_KEPT_WORDS,q_KEPT_WORDS⟩:=T.qS.sq (by decide)
  have m_KEPT_WORDS:=PySem.W.mg_of X G h_KEPT_WORDS
  obtain ⟨t_LETTERS,h_LETTERS⟩:=T.qai
  have m_LETTERS:=PySem.W.mg_of X G h_LETTERS
  obtain ⟨t_FIGURES,h_FIGURES⟩:=T.qaj
  have m_FIGURES:=PySem.W.mg_of X G h_FIGURES
  have qao:=PySem.W.mg_of X G T.qao
  have qK:=PySem.W.mg_of X G T.qK
  obtain ⟨A,rfl,rfl,rfl,rfl,rfl⟩:∃ A:Adr,A.cN=cN/\A.cW=cW/\A.cL=cL/\A.cI=cI/\A.cC=cC:=⟨⟨cN,cW,cL,cI,cC⟩,rfl,rfl,rfl,rfl,rfl⟩
  have tx:Txt K mg A:=⟨T.qap.cls,T.qab.cls,T.qah.cls,T.qU.cls,T.qT,T.qG,T.qaa,T.qo,T.qw,T.qp,T.qx,T.qe,T.qq,T.qr,T.qay,qaB,qar,qaC,⟨t_MOST_NAMES,m_MOST_NAMES⟩,⟨t_MOST_ARMS,m_MOST_ARMS⟩⟩
  obtain ⟨fx,ax,xin,xty⟩:=T.qaM
  have M:XCl K A.cN fx:=⟨xin,xty,T.qaL,T.qau,T.qaH,T.qaz,T.qaI,T.qaJ,T.qaK⟩
  have B:XBase K R:=⟨T.qaN,T.qaO,T.qaP⟩
  have GX:Xa l.prog w K mg base 1 "NoText" A.cN ["self","row"] (wG A):=by
    obtain ⟨f,a,n,g⟩:=T.qj
    obtain ⟨fd,F,kp⟩:=g.fn
    have e:f=fx:=by
      rw [ax] at a
      injection a with a
      injection a with a
      injection a with a
      exact a.symm
    subst e
    exact ⟨f,fd,M,WM F tx M B qK,F.binds (ps:=["self","row"]) fun _ _ _ _ _ _=>us2 fun _ _=>rfl,qao⟩
  have GI:=T.qy.me (P:=l.prog) (w:=w) (mg:=mg) (base:=base) (ps:=["self","fits"]) (fun _ _ _ _ _ _=>us2 fun _ _=>rfl) fun f fd F=>WN F tx GX
  have GA:=T.qs.me (P:=l.prog) (w:=w) (mg:=mg) (base:=base) (ps:=["self"]) (fun _ _ _ _ _ _=>us1 fun _=>rfl) fun f fd F=>zbZ F tx
  have GP:=T.qz.me (P:=l.prog) (w:=w) (mg:=mg) (base:=base) (ps:=["self","word"]) (fun _ _ _ _ _ _=>us2 fun _ _=>rfl) fun f fd F=>WO F tx GA
  have GW:=T.qk.me (P:=l.prog) (w:=w) (mg:=mg) (base:=base) (ps:=["self"]) (fun _ _ _ _ _ _=>us1 fun _=>rfl) fun f fd F=>QS F tx GA GI
  have Gmade:=DfIn.ca (P:=l.prog) (w:=w) (base:=base) X G T.qak (ps:=["word","signs"]) (fun _ _ _ _ _ _=>us2 fun _ _=>rfl) fun f fd F=>QQ F qaE
  have Gis:=DfIn.ca X G T.qal (ps:=["word"]) (fun _ _ _ _ _ _=>us1 fun _=>rfl) fun f fd F=>let ⟨_,_,g,b,k,mm⟩:=Gmade.ex; QR F g b k mm qaB m_LETTERS m_MOST_LETTERS m_KEPT_WORDS q_KEPT_WORDS
  have Gnu:=DfIn.ca X G T.qV (ps:=["word"]) (fun _ _ _ _ _ _=>us1 fun _=>rfl) fun f fd F=>let ⟨_,_,g,b,k,mm⟩:=Gmade.ex; WL F g b k mm qaB m_FIGURES m_MOST_FIGURES
  have GN:=T.ql.me (P:=l.prog) (w:=w) (mg:=mg) (base:=base) (ps:=["self"]) (fun _ _ _ _ _ _=>us1 fun _=>rfl) fun f fd F=>Yd F tx GW GI Gis
  have GM:=T.qb.me (P:=l.prog) (w:=w) (mg:=mg) (base:=base) (ps:=["self"]) (fun _ _ _ _ _ _=>us1 fun _=>rfl) fun f fd F=>jC F tx GW GI Gnu
  have GS:=T.qm.me (P:=l.prog) (w:=w) (mg:=mg) (base:=base) (ps:=["self"]) (fun _ _ _ _ _ _=>us1 fun _=>rfl) fun f fd F=>Yi F tx m_FIGURES GW GI
  have GU:=T.qc.me (P:=l.prog) (w:=w) (mg:=mg) (base:=base) (ps:=["self","stop"]) (fun _ _ _ _ _ _=>us2 fun _ _=>rfl) fun f fd F=>VX F tx GP GI GN
  have Ghead:=DfIn.ca (P:=l.prog) (w:=w) (base:=base) X G T.qW (ps:=["words"]) (fun _ _ _ _ _ _=>us1 fun _=>rfl) fun f fd F=>QT F tx GN GU
  have Gdeed:=DfIn.ca (P:=l.prog) (w:=w) (base:=base) X G T.qX (ps:=["words"]) (fun _ _ _ _ _ _=>us1 fun _=>rfl) fun f fd F=>QU F tx GW GI GN GM GU m_OPS q_OPS m_NAMING_DEEDS q_NAMING_DEEDS
  have ML:=T.qd.ma (P:=l.prog) (w:=w) (mg:=mg) (base:=base) (x:="BegunLet") (ps:=["self","words"]) (fun _ _ _ _ _ _=>us2 fun _ _=>rfl) T.qab.mks T.qab.kp n_BegunLet fun f fd F=>V1 F tx GN Gdeed
  have MI:=T.qf.ma (P:=l.prog) (w:=w) (mg:=mg) (base:=base) (x:="BegunIf") (ps:=["self","words"]) (fun _ _ _ _ _ _=>us2 fun _ _=>rfl) T.qah.mks T.qah.kp n_BegunIf fun f fd F=>(V2 F tx GN).mono (k:=8) (by decide)
  have MC:=T.qa.ma (P:=l.prog) (w:=w) (mg:=mg) (base:=base) (x:="BegunCase") (ps:=["self","words"]) (fun _ _ _ _ _ _=>us2 fun _ _=>rfl) T.qU.mks T.qU.kp n_BegunCase fun f fd F=>V3 F tx GN Ghead
  have MW:=T.qt.ma (P:=l.prog) (w:=w) (mg:=mg) (base:=base) (x:="Words") (ps:=["self","row","words"]) (fun _ _ _ _ _ _=>us3 fun _ _ _=>rfl) T.qap.mks T.qap.kp n_Words fun f fd F=>Je F tx
  have fL:=T.qn.me (P:=l.prog) (w:=w) (mg:=mg) (base:=base) (ps:=["self","words","body"]) (fun _ _ _ _ _ _=>us3 fun _ _ _=>rfl) fun f fd F=>V4 F tx
  have fI:=T.qu.me (P:=l.prog) (w:=w) (mg:=mg) (base:=base) (ps:=["self","words","body"]) (fun _ _ _ _ _ _=>us3 fun _ _ _=>rfl) fun f fd F=>V5 F tx GP GI
  have fC:=T.qg.me (P:=l.prog) (w:=w) (mg:=mg) (base:=base) (ps:=["self","words","body"]) (fun _ _ _ _ _ _=>us3 fun _ _ _=>rfl) fun f fd F=>V6 F tx GP GI Ghead
  have Gbegin:=DfIn.ca (P:=l.prog) (w:=w) (base:=base) X G T.qL (ps:=["words","begun"]) (fun _ _ _ _ _ _=>us2 fun _ _=>rfl) fun f fd F=>V7 F tx GP GI GN ML MI MC
  have Gbody:=DfIn.ca X G T.qY (ps:=["words"]) (fun _ _ _ _ _ _=>us1 fun _=>rfl) fun f fd F=>Q3 F tx Gbegin fL fI fC
  have Gpair:=DfIn.ca (P:=l.prog) (w:=w) (base:=base) X G T.qZ (ps:=["words"]) (fun _ _ _ _ _ _=>us1 fun _=>rfl) fun f fd F=>Q4 F tx GN GS
  have Gkind:=DfIn.ca X G T.q0 (ps:=["words"]) (fun _ _ _ _ _ _=>us1 fun _=>rfl) fun f fd F=>Q5 F tx GA Gpair
  have Gdef:=DfIn.ca X G T.qac (ps:=["words"]) (fun _ _ _ _ _ _=>us1 fun _=>rfl) fun f fd F=>zb1 F tx GN GU Gbody GA GI
  have Gread:=DfIn.ca X G T.qav (ps:=["text"]) (fun _ _ _ _ _ _=>us1 fun _=>rfl) fun f fd F=>Q7 F tx GX MW GP GI Gdef Gkind qQ qaD q8
  have Gdw:=DfIn.ca (P:=l.prog) (w:=w) (base:=base) X G T.qM (ps:=["deed"]) (fun _ _ _ _ _ _=>us1 fun _=>rfl) fun f fd F=>Ju F qaD qax
  have Gcw:=DfIn.ca (P:=l.prog) (w:=w) (base:=base) X G T.qN (ps:=["body"]) (fun _ _ _ _ _ _=>us1 fun _=>rfl) fun f fd F=>Jv F qax
  have Gwr:=DfIn.ca X G T.qam (ps:=["body"]) (fun _ _ _ _ _ _=>us1 fun _=>rfl) fun f fd F=>Xm F Gdw Gcw
  have Gdr:=DfIn.ca X G T.qan (ps:=["one"]) (fun _ _ _ _ _ _=>us1 fun _=>rfl) fun f fd F=>WT F Gwr qax qaB qQ qaD qag
  have Gkr:=DfIn.ca (P:=l.prog) (w:=w) (base:=base) X G T.qad (ps:=["kind"]) (fun _ _ _ _ _ _=>us1 fun _=>rfl) fun f fd F=>Xn F qaD
  have Gsh:=DfIn.ca X G T.qaq (ps:=["program"]) (fun _ _ _ _ _ _=>us1 fun _=>rfl) fun f fd F=>Jz F (Gkr.mono (by decide)) Gdr
  have L3:=DfIn.ca (P:=l.prog) (w:=w) (base:=base) X G T.qH (ps:=["_law_cell","_law_many_here"]) (fun _ _ _ _ _ _=>us2 fun _ _=>rfl) fun f fd F=>WP F qas
  have L4:=DfIn.ca (P:=l.prog) (w:=w) (base:=base) X G T.q1 (ps:=["_law_number_here"]) (fun _ _ _ _ _ _=>us1 fun _=>rfl) fun f fd F=>Jf F
  have L5:=DfIn.ca X G T.qO (ps:=["_law_cell","_law_many_here"]) (fun _ _ _ _ _ _=>us2 fun _ _=>rfl) fun f fd F=>WQ F L3 L4
  have L6:=DfIn.ca X G T.qI (ps:=["_law_cell"]) (fun _ _ _ _ _ _=>us1 fun _=>rfl) fun f fd F=>Xh F L3
  have L7:=DfIn.ca X G T.q2 (ps:=["_law_cell"]) (fun _ _ _ _ _ _=>us1 fun _=>rfl) fun f fd F=>Jk F L5 L6 qaD qar
  have L8:=DfIn.ca X G T.q3 (ps:=["_law_stack","_law_number_here"]) (fun _ _ _ _ _ _=>us2 fun _ _=>rfl) fun f fd F=>Jn F L5 qas qar
  have L9:=DfIn.ca X G T.qae (ps:=["_law_stack","_law_cell"]) (fun _ _ _ _ _ _=>us2 fun _ _=>rfl) fun f fd F=>zab F L5 L8 L7
  have L10:=DfIn.ca (P:=l.prog) (w:=w) (base:=base) X G T.q4 (ps:=["_law_stack"]) (fun _ _ _ _ _ _=>us1 fun _=>rfl) fun f fd F=>Jp F qaB
  have L11:=DfIn.ca X G T.q5 (ps:=["_law_cells"]) (fun _ _ _ _ _ _=>us1 fun _=>rfl) fun f fd F=>Jr F L9 L10 qaB
  have C1:=DfIn.ca (P:=l.prog) (w:=w) (base:=base) X G T.qA (ps:=["_law_script","_law_k"]) (fun _ _ _ _ _ _=>us2 fun _ _=>rfl) fun f fd F=>W1 F qaB
  have C2:=DfIn.ca X G T.q6 (ps:=["_law_script"]) (fun _ _ _ _ _ _=>us1 fun _=>rfl) fun f fd F=>zay F C1 L4 L5 L11 qaD
  have C3:=DfIn.ca (P:=l.prog) (w:=w) (base:=base) X G T.qB (ps:=["_law_words_here","_law_cell"]) (fun _ _ _ _ _ _=>us2 fun _ _=>rfl) fun f fd F=>Xt F qaB
  have C4:=DfIn.ca (P:=l.prog) (w:=w) (base:=base) X G T.qC (ps:=["_law_word"]) (fun _ _ _ _ _ _=>us1 fun _=>rfl) fun f fd F=>zak F qaB
  have C5:=DfIn.ca (P:=l.prog) (w:=w) (base:=base) X G T.qv (ps:=["_law_word"]) (fun _ _ _ _ _ _=>us1 fun _=>rfl) fun f fd F=>zal F qaB
  have C6:=DfIn.ca X G T.qP (ps:=["_law_words_here","_law_at","_law_many_here"]) (fun _ _ _ _ _ _=>us3 fun _ _ _=>rfl) fun f fd F=>WV F C4 qaB
  have C7:=DfIn.ca X G T.q7 (ps:=["_law_words_here","_law_at","_law_stop"]) (fun _ _ _ _ _ _=>us3 fun _ _ _=>rfl) fun f fd F=>zao F C6 qaB
  have C8:=DfIn.ca X G T.qh (ps:=["_law_words_here","_law_at"]) (fun _ _ _ _ _ _=>us2 fun _ _=>rfl) fun f fd F=>JL F C6 C7 C5 qaB
  have CB:∀ n:Nat,Ca l.prog w K mg base CX0 (5 + n) "_law_behind" ["_law_words_here","_law_at"] (xu n)/\Ca l.prog w K mg base CX0 (5 + n) "_law_behind_arms" ["_law_words_here","_law_at"] (vF n):=by
    intro n
    induction n with
    | zero=>exact ⟨DfIn.ca (P:=l.prog) (w:=w) (base:=base) X G T.qJ (ps:=["_law_words_here","_law_at"]) (fun _ _ _ _ _ _=>us2 fun _ _=>rfl) fun f fd F=>Xq F qaB,DfIn.ca (P:=l.prog) (w:=w) (base:=base) X G T.qi (ps:=["_law_words_here","_law_at"]) (fun _ _ _ _ _ _=>us2 fun _ _=>rfl) fun f fd F=>WW F scBArms⟩
    | succ n ih=>exact ⟨DfIn.ca (P:=l.prog) (w:=w) (base:=base) X G T.qJ (ps:=["_law_words_here","_law_at"]) (fun _ _ _ _ _ _=>us2 fun _ _=>rfl) fun f fd F=>WX F C6 C8 ih.2 ih.1 qaB,DfIn.ca (P:=l.prog) (w:=w) (base:=base) X G T.qi (ps:=["_law_words_here","_law_at"]) (fun _ _ _ _ _ _=>us2 fun _ _=>rfl) fun f fd F=>JN F C6 C7 ih.1 qaB⟩
  have C9:=DfIn.ca X G T.qaf (ps:=["_law_words_here"]) (fun _ _ _ _ _ _=>us1 fun _=>rfl) fun f fd F=>zcg (n:=120) F C4 C6 C7 (CB 120).1 qaB qas
  exact JW FL C2 C3 C9 Gread Gsh M T.qat T.qaG qao T.x_1 qaB qaC qaw qar qQ
end Rdr
namespace PySem.W.Fast
def tw16134315118349282612:=()
def tw6061685070704251740:=()
def tw1687997972902197552:=()
def tw2561656705748572394:=()
def tw9136846332758530721:=()
def tw9455737746189742322:=()
def tw15556727602227380223:=()
def tw4008064821537362529:=()
def tw12975577915365177535:=()
def tw18379502221243585749:=()
def tw18351767951942852529:=()
def tw8620442930317500288:=()
def tw14900063886806789:=()
def tw6975637837675301078:=()
def tw13139950417786899596:=()
def tw4974474164691681639:=()
def tw2837060807861682148:=()
def tw12123760029412947902:=()
def tw1082237479353625232:=()
def tw6723049768912444542:=()
def tw2011738022943957980:=()
def tw7847709609468056396:=()
def tw248817997867066236:=()
def tw2885228327312339505:=()
def tw17420682349589468994:=()
def tw8854013707670704148:=()
def tw9102174585370009358:=()
def tw3587213436152271159:=()
def tw1507818621927465385:=()
def tw16979240791642561749:=()
def tw8613282750408142198:=()
def tw3550448621788388887:=()
def tw16997429410745754497:=()
def tw17812625908755339768:=()
def tw9124545231932244365:=()
def tw4301118028508201146:=()
def tw5007934972911320444:=()
def tw3629807371341550151:=()
def tw3967706219732152487:=()
def tw4131444988534084092:=()
def tw3913297529887239961:=()
def tw3365327080471632752:=()
def tw11954078547154997430:=()
def tw2964220720074407585:=()
def tw3944311778515570377:=()
def tw10544747234082082121:=()
def tw10449490656757981352:=()
def tw6367157735573661182:=()
def tw2973094827897659896:=()
def tw7189267829370745931:=()
def tw15905290829958794437:=()
def tw8749318443908565637:=()
def tw3956345288837609975:=()
def tw7356817437771750972:=()
def tw2128319192042392599:=()
def tw14055198933054164755:=()
def tw8126224740061503575:=()
def tw9502455607828663255:=()
def tw18138796368157613808:=()
def tw10066570889997331506:=()
def tw11898068611094960617:=()
def tw2786899344877430504:=()
def tw11798736750719786855:=()
def tw7175200866316318380:=()
def tw2381877368092560723:=()
def tw17996238989990279822:=()
def tw2551261710565330111:=()
def tw15178277561954947713:=()
def tw8525396700668481115:=()
def tw8571812766083654315:=()
def tw7842836276257049334:=()
def tw17356318558454249017:=()
def tw4675805087525628207:=()
def tw9428542572605576131:=()
def tw7422619491180731920:=()
def tw17100213658271038602:=()
def tw12026283456517789509:=()
def tw8608848436679345296:=()
def tw14365483276464633440:=()
def tw232518713621392728:=()
def tw11129919572102235524:=()
def tw11621464805175200897:=()
def tw3237533846724779863:=()
def tw1980352464224166544:=()
def tw5397783464145621681:=()
def tw5008343772252917090:=()
def tw1792280464916179378:=()
def tw11224762616508041037:=()
def tw13816575357942478044:=()
def tw15831806388092943633:=()
def tw14350250050915371503:=()
def tw17386214310606154346:=()
def tw4031874541951562493:=()
def tw8304374101493462727:=()
def tw13594000678740956547:=()
def tw11802039827478973880:=()
def tw10124743730511972977:=()
def tw8324698115195642591:=()
def tw15883847912259872113:=()
def tw3821347360555200281:=()
def tw336557666523430449:=()
def tw1003586134071279240:=()
def tw4044437427768448280:=()
def tw4706166224184163478:=()
def tw5889884377129294831:=()
def tw11415686899355289398:=()
def tw738677206188581696:=()
def tw16266585067975786477:=()
def tw3117857870879529802:=()
def tw11681175490112884414:=()
def tw4144267064457386900:=()
def tw17548591712314756312:=()
def tw3116923240406651688:=()
def tw1216982171963186035:=()
def tw10652154250577709076:=()
def tw16452760686665342140:=()
def tw18117826792564016122:=()
def tw11383225283979082594:=()
def tw1652521806116264765:=()
def tw12847939020421648265:=()
def tw11648882106913012989:=()
def tw17053526341534183072:=()
def tw9255237166887178922:=()
def tw9673509726906869908:=()
def tw12500739789518060034:=()
def tw3289034814039531354:=()
def tw5063630735493092067:=()
def tw17506977849969539044:=()
def tw15675647126267225661:=()
def tw8762323283074671064:=()
def tw17567354016830361516:=()
def tw15792700242743769076:=()
def tw482516293087599520:=()
def tw12804991192603639608:=()
def tw10362885819236007585:=()
def tw13232445531688305150:=()
def tw16126352267785858776:=()
def tw17505376486974975475:=()
def tw11279674559878520787:=()
def tw10784235319650983424:=()
def tw8685526722675123086:=()
def tw3866405285686050929:=()
def tw4595438684840665319:=()
def tw13908596283583357019:=()
def tw2164641799069191825:=()
def tw9249344805091590770:=()
def tw5244312287677749727:=()
def tw18041571718833025494:=()
def tw4704800151957335772:=()
def tw265526153332731598:=()
def tw17901512124166495986:=()
def tw4141467207420739291:=()
def tw18163966877895481498:=()
def tw16158896100423084028:=()
def tw5630490549843754684:=()
def tw5657531640050048905:=()
def tw17369621173404373384:=()
def tw7783347798017489447:=()
def tw18442036442972246169:=()
def tw9375169722747871421:=()
def tw3022277042427275080:=()
def tw2314624227923865132:=()
def tw8755032254115472961:=()
def tw13807946425758243719:=()
def tw8685671414217830946:=()
def tw7749115337264321543:=()
def tw15072565616207712733:=()
def tw16559942695581862285:=()
def tw4218627639759241273:=()
def tw2009292225138281441:=()
def tw10726173427222449036:=()
def tw11813861183895915119:=()
def tw6948218330863535940:=()
def tw14900425307803919974:=()
def tw12246863346376933277:=()
def tw17007444333088748203:=()
def tw5392940915534109655:=()
def tw16377076714717983035:=()
def tw1557890911547244922:=()
def tw5733986014366218510:=()
def tw13100426073505009128:=()
def tw10738603605566377065:=()
def tw9978218543545505945:=()
def tw14407942089400192398:=()
def tw4138617330700290766:=()
def tw4774631512460783251:=()
def tw6595232071903180119:=()
def tw612964918021525271:=()
def tw900862705261323734:=()
def tw8105245575774197100:=()
def tw9570235891316942352:=()
def tw16283538889773890552:=()
def tw6499059379395300544:=()
def tw17924106291011383644:=()
def tw5085423126655285970:=()
def tw16692955473942422486:=()
def tw15217754664665176712:=()
def tw12730168941957664342:=()
def tw13402573663099929053:=()
def tw9423878242550957868:=()
def tw7729980304300785330:=()
def tw9669028619893945809:=()
def tw17549309654078189445:=()
def tw10409818271449244433:=()
def tw13821692102357264633:=()
def tw2450098229593191970:=()
def tw9313297686666652201:=()
def tw7147623948678309570:=()
def tw6387319372925713711:=()
def tw10972023501160500339:=()
def tw5572510481474945665:=()
def tw10660011897787736601:=()
def tw7635535350634460765:=()
def tw7335248678812323061:=()
def tw8973370509010164550:=()
def tw12189605907706823406:=()
def tw9368658421588443356:=()
def tw16188757982469083602:=()
def tw5417003958960302445:=()
def tw8057772691256013898:=()
def tw15671469965663874595:=()
def tw3072445335987621813:=()
def tw12202351741087718468:=()
def tw7344165497100511442:=()
def tw1759301382981294616:=()
def tw2417192277683660113:=()
def tw9781539202619718977:=()
def tw14720106452761647948:=()
def tw3214291258560790551:=()
def tw9240635036040322979:=()
def tw11786096382766156471:=()
def tw6291618557217593737:=()
def tw1456485863786401885:=()
def tw2193179227529163683:=()
def tw8990155242425372967:=()
def tw7536964435506729747:=()
def tw13982718739084984185:=()
def tw1763784338353491498:=()
def tw2142015154929762419:=()
def tw5105701827200539651:=()
def tw14688090687718649914:=()
def tw2277283201886020583:=()
def tw5747596347758110779:=()
def tw16514387809905883112:=()
def tw7479093370154916381:=()
def tw8641859262760400764:=()
end PySem.W.Fast
open PySem PySem.W PyProof.Rows
set_option maxRecDepth 100000 in
set_option maxHeartbeats 0 in
theorem PySem.Challenge.cw_reusewise_k16_just_the_rows_holds : PySem.Challenge.rw_reusewise_k16_just_the_rows.Holds := by
  w_on; o_law; k_head; (case hw=>w_witness2)
  k_fill
  refine L2.walk1 (l:=PySem.Challenge.rw_reusewise_k16_just_the_rows) (k:=127) rfl ⟨rfl,by decide,by decide⟩ rfl rfl (fun w h Y=>PySem.W.kIn_of Y) ?F
  case F =>
    intro w mg fa h KX G hm
    refine' Rdr.top_ok (Rdr.TopK.mk ?qap ?qT ?qG ?qaa ?qab ?qo ?qw ?qah ?qp ?qx ?qU ?qe ?qq ?qr ?qao ?qK ?qj ?qay ?qat ?qaG ?qau ?qaH ?qaz ?qaI ?qaJ ?qaK ?qaL ?qaM ?qaN ?qaO ?qaP ?qai ?qaj ?x_1 ?qy ?qs ?qz ?qk ?qak ?qal ?qV ?ql ?qb ?qm ?qc ?qW ?qX ?qd ?qf ?qa ?qt ?qn ?qu ?qg ?qL ?qY ?qZ ?q0 ?qac ?qav ?qM ?qN ?qam ?qan ?qad ?qaq ?qH ?q1 ?qO ?qI ?q2 ?q3 ?qae ?q4 ?q5 ?qA ?q6 ?qB ?qC ?qv ?qP ?q7 ?qh ?qi ?qJ ?qaf ?qaA ?qaB ?qar ?qaC ?qaD ?qQ ?qaw ?qax ?q8 ?qas ?qaE ?qag ?qD ?qE ?qR ?q9 ?qaF ?qF ?qS) KX G hm
    (case qap | qab | qah | qU=>(refine' L2.OwnIn.mk ?n ?pg ?hd ?po ?sa ?mks ?kp; (case n=>k_is); (case pg=>k_is); (case hd=>k_is); (case po=>k_is); (case sa=>k_is); (case mks=>k_is); (case kp=>k_is)))
    (case qT | qG | qaa | qo | qw | qp | qx | qe | qq | qr | qao | qK | qay | qat | qaG | qaH | qaI | qaJ | qaK | qaL | qaN | qaO | qaP | qaB | qar | qaC | qaD | qQ | qaw | qax | q8 | qas | qaE | qag=>k_is)
    (case qj | qy | qs | qz | qk | ql | qb | qm | qc | qd | qf | qa | qt | qn | qu | qg=>(refine' L2.MeIn.mk ?a ?l ?c ?k ?n; (case a=>k_is); (case l=>k_is); (case c=>k_is); (case k=>k_is); (case n=>k_is)))
    (case qau | qaz | x_1=>(first | kernel_rfl | rfl | decide +kernel))
    (case qaM=>(refine' L2.XcIn.mk ?a ?b ?c; (case a=>k_is); (case b=>(first | kernel_rfl | rfl | decide +kernel)); (case c=>k_is)))
    (case qai | qaj=>(refine' L2.GlIn.mk ?a ?e; (case a=>k_is); (case e=>rfl)))
    (case qak | qal | qV | qW | qX | qL | qY | qZ | q0 | qac | qav | qM | qN | qam | qan | qad | qaq | qH | q1 | qO | qI | q2 | q3 | qae | q4 | q5 | qA | q6 | qB | qC | qv | qP | q7 | qh | qi | qJ | qaf | qaA=>(refine' L2.DfIn.mk ?a ?l ?c ?k; (case a=>k_is); (case l=>k_is); (case c=>k_is); (case k=>k_is)))
    (case qD | qE | qR | q9=>(refine' L2.GiIn.mk ?a ?e; (case a=>k_is); (case e=>rfl)))
    (case qaF | qF | qS=>(refine' L2.TpIn.mk ?a ?k ?v; (case a=>k_is); (case k=>k_is); (case v=>rfl)))
#print axioms PySem.Challenge.cw_reusewise_k16_just_the_rows_holds
