import PyProof.Rows.All
import Wide.All
import OpenK.AllK
import Wide.FinOn
import Lean
import PyProof.EqAt
import PyProof.EqKinds
import PyProof.TupleCall
import PyProof.PassesOwn
import PyProof.StationsW
import OpenK.KCls
import PyProof.ExcAttrAll.ValueError
import PyProof.ExcClass3
import PyProof.WalksEnum
import PyProof.EnumMake
import PyProof.EnumFor
import PyProof.EnumStmt
import PyProof.MeetsStr
import PyProof.StrLawsTight
import PyProof.NeKinds
import PyProof.Rows.SumAny
import PyProof.SeqI3
import PyProof.ZipIter
import PyProof.WalksMore
import PyProof.ListNew
import KE.KLam
import KE.KNestM
import KE.KRevIter
import PyProof.AutoSeq1
import PyProof.FactsAll.list
import PyProof.IsRules
import KE.KItemsList
import KE.KDictList
import PyProof.IsiTupleOf
import KE.KDictSum
import PyProof.Rows.SortWalk
import KE.KDictOf
import PyProof.Draws
import PyProof.DictWalks
import PyProof.MinMaxWalk
import PyProof.StrBlockL
import PyProof.StrBlockI
import PyProof.StrBlock2
import PyProof.StrLawsIn
import PyProof.StrLawsChain
import PyProof.Rows.StrLast
import PyProof.Rows.StrItems
import KE.IntTextText
import KE.KIntText
import PySem.Challenge.RW_reusewise_k43_plain_form
set_option Elab.async false
set_option linter.all false
set_option maxRecDepth 100000
set_option maxHeartbeats 4000000
namespace L2
open PySem PySem.Spec PyProof.Rows
abbrev Key:=Sum Int Str
def keyIs:Key->Value->Bool
  | .inl k,v=>Value.isInt k v
  | .inr x,v=>Value.isStrOf x v
def keyH (w:World):Key->Int
  | .inl k=>hashInt k
  | .inr x=>hashStr w x
theorem keyIs_shape:∀ {k:Key} {v:Value},keyIs k v=true->(∃ i t,k=Sum.inl i/\v=Value.int i t)\/(∃ x t,k=Sum.inr x/\v=Value.str x t)
  | .inl i,v,h=>by
    obtain ⟨t,e⟩:=Value.isInt_shape (k:=i) (v:=v) h
    exact .inl ⟨i,t,rfl,e⟩
  | .inr x,v,h=>by
    obtain ⟨t,e⟩:=Value.isStrOf_shape (x:=x) (v:=v) h
    exact .inr ⟨x,t,rfl,e⟩
theorem keyIs_int (i:Int) (t:Tok):keyIs (.inl i) (.int i t)=true:=by simp [keyIs,Value.isInt]
theorem keyIs_str (x:Str) (t:Tok):keyIs (.inr x) (.str x t)=true:=by simp [keyIs,Value.isStrOf]
theorem key_ll (a b:Int):decide ((Sum.inl a:Key)=Sum.inl b)=(a == b):=by
  by_cases e:a=b
  · subst e; simp
  · have h:¬ (Sum.inl a:Key)=Sum.inl b:=fun q=>e (Sum.inl.inj q)
    rw [decide_eq_false h]
    exact (beq_eq_false_iff_ne.mpr e).symm
theorem key_rr (a b:Str):decide ((Sum.inr a:Key)=Sum.inr b)=decide (a=b):=by
  by_cases e:a=b
  · subst e; simp
  · have h:¬ (Sum.inr a:Key)=Sum.inr b:=fun q=>e (Sum.inr.inj q)
    rw [decide_eq_false h,decide_eq_false e]
theorem key_lr (a:Int) (b:Str):decide ((Sum.inl a:Key)=Sum.inr b)=false:=decide_eq_false (fun q=>nomatch q)
theorem key_rl (a:Str) (b:Int):decide ((Sum.inr a:Key)=Sum.inl b)=false:=decide_eq_false (fun q=>nomatch q)
def mixKind (prog:Program) (w:World):PySem.KeyKind prog w Key where
  is:=keyIs
  hash:=keyH w
  inj:=fun v a b ha hb=>by
    rcases keyIs_shape ha with ⟨i,t,rfl,rfl⟩ | ⟨x,t,rfl,rfl⟩
    · rcases keyIs_shape hb with ⟨j,u,rfl,e⟩ | ⟨y,u,rfl,e⟩
      · injection e with e1 _; rw [e1]
      · exact nomatch e
    · rcases keyIs_shape hb with ⟨j,u,rfl,e⟩ | ⟨y,u,rfl,e⟩
      · exact nomatch e
      · injection e with e1 _; rw [e1]
  byValue:=fun k v h=>by
    rcases keyIs_shape h with ⟨i,t,rfl,rfl⟩ | ⟨x,t,rfl,rfl⟩ <;> rfl
  pyHash:=fun hv h=>by
    rcases keyIs_shape hv with ⟨i,t,rfl,rfl⟩ | ⟨x,t,rfl,rfl⟩
    · exact wpAny_pyHash_int h
    · exact wpAny_pyHash_str h
  eqBool:=fun hu hv h=>by
    rcases keyIs_shape hu with ⟨i,t,rfl,rfl⟩ | ⟨x,t,rfl,rfl⟩
    · rcases keyIs_shape hv with ⟨j,u,rfl,rfl⟩ | ⟨y,u,rfl,rfl⟩
      · rw [key_ll] at h; exact wpAny_eqBool_int h
      · rw [key_lr] at h; exact SeqAt.EqAt.int_str i t y u _ _ _ _ h
    · rcases keyIs_shape hv with ⟨j,u,rfl,rfl⟩ | ⟨y,u,rfl,rfl⟩
      · rw [key_rl] at h; exact SeqAt.EqAt.str_int x t j u _ _ _ _ h
      · rw [key_rr] at h; exact wpAny_eqBool_str h
  «strs»:=fun k x t v h=>by
    rcases keyIs_shape h with ⟨i,u,rfl,e⟩ | ⟨y,u,rfl,e⟩
    · exact nomatch e
    · injection e with e1 _
      subst e1
      cases v <;> rfl
theorem mixKind_is (prog:Program) (w:World) (k:Key) (v:Value):(mixKind prog w).is k v=keyIs k v:=rfl
theorem mixKind_int (prog:Program) (w:World) (i:Int) (t:Tok):(mixKind prog w).is (.inl i) (.int i t)=true:=keyIs_int i t
theorem mixKind_str (prog:Program) (w:World) (x:Str) (t:Tok):(mixKind prog w).is (.inr x) (.str x t)=true:=keyIs_str x t
end L2
namespace L2
open PySem PySem.Spec PyProof.Rows
inductive V where
  | non | bl (b:Bool) | int (i:Int) | str (x:Str) | byt (b:Array UInt8) | flt (b:UInt64) | ref (a:Addr) | ty (n:String)
  deriving DecidableEq
def RelV:V->Value->Prop
  | .non,u=>u=Value.none
  | .bl b,u=>u=Value.bool b
  | .int i,u=>∃ t,u=Value.int i t
  | .str x,u=>∃ t,u=Value.str x t
  | .byt b,u=>∃ t,u=Value.bytes b t
  | .flt b,u=>∃ t,u=Value.float b t
  | .ref a,u=>u=Value.ref a
  | .ty n,u=>u=Value.type n
abbrev Vals:List V->List Value->Prop:=Paired RelV
theorem Vals.length {xs:List V} {us:List Value} (r:Vals xs us):xs.length=us.length:=Paired.length r
theorem Vals.get:∀ {xs:List V} {us:List Value} {i:Nat} {x:V},Vals xs us->xs[i]?=some x->∃ u,us[i]?=some u/\RelV x u
  | _,_,_,_,.nil,e=>by simp at e
  | _,_,0,_,.cons r _,e=>by simp at e; subst e; exact ⟨_,rfl,r⟩
  | _,_,i + 1,x,.cons _ t,e=>by
    obtain ⟨u,h1,h2⟩:=Vals.get (i:=i) (x:=x) t (by simpa using e)
    exact ⟨u,by simpa using h1,h2⟩
theorem Vals.set {x:V} {u:Value} (r:RelV x u):∀ {xs:List V} {us:List Value} (i:Nat),Vals xs us->Vals (xs.set i x) (us.set i u)
  | _,_,_,.nil=>.nil
  | _,_,0,.cons _ t=>.cons r t
  | _,_,i + 1,.cons q t=>.cons q (Vals.set r i t)
theorem Vals.append:∀ {xs ys:List V} {us ws:List Value},Vals xs us->Vals ys ws->Vals (xs ++ ys) (us ++ ws)
  | _,_,_,_,.nil,s=>s
  | _,_,_,_,.cons r t,s=>.cons r (Vals.append t s)
theorem Vals.take:∀ {xs:List V} {us:List Value} (n:Nat),Vals xs us->Vals (xs.take n) (us.take n)
  | _,_,0,_=>.nil
  | _,_,_ + 1,.nil=>.nil
  | _,_,n + 1,.cons r t=>.cons r (Vals.take n t)
theorem Vals.drop:∀ {xs:List V} {us:List Value} (n:Nat),Vals xs us->Vals (xs.drop n) (us.drop n)
  | _,_,0,r=>r
  | _,_,_ + 1,.nil=>.nil
  | _,_,n + 1,.cons _ t=>Vals.drop n t
theorem Vals.none_of:∀ {xs:List V} {us:List Value} {i:Nat},Vals xs us->xs[i]?=none->us[i]?=none:=fun {xs us i} r e=>by
  have h1:=r.length
  have h2:xs.length<=i:=List.getElem?_eq_none_iff.mp e
  exact List.getElem?_eq_none_iff.mpr (by lia)
def RelO:Option V->Option Value->Prop
  | some v,some u=>RelV v u
  | none,none=>True
  | _,_=>False
def KV {κ:Type}:List (κ × V)->List (κ × Value)->Prop:=Paired fun (p:κ × V) (q:κ × Value)=>p.1=q.1/\RelV p.2 q.2
def kV:Key->V
  | .inl i=>.int i
  | .inr x=>.str x
inductive HO where
  | lst (xs:List V)
  | tup (xs:List V)
  | dK (kvs:List (Key × V)) | dT (kvs:List (List Key × V))
  | set (S:Int->Bool) (n:Nat)
  | ins (C dx:Addr) (fs:List (Str × V))
  | own (x:Addr)
  | xd (fs:List (Str × V))
  | met (f x:Addr)
  | rng (lo hi:Int)
  | frz (o:Obj) (u:HO)
  | tbl (ps:Array Value)
  | ext (φ:Heap->Prop)
abbrev Hp:=Addr->Option HO
def upd (H:Hp) (a:Addr) (o:HO):Hp:=fun b=>if b=a then some o else H b
theorem upd_same {H:Hp} {a:Addr} {o:HO}:upd H a o a=some o:=by unfold upd; rw [if_pos rfl]
theorem upd_ne {H:Hp} {a b:Addr} {o:HO} (h:b≠a):upd H a o b=H b:=by unfold upd; rw [if_neg h]
theorem ne_of {H:Hp} {a b:Addr} {o u:HO} (h:H a=some o) (h':H b=some u) (d:o≠u):a≠b:=by
  intro e; subst e; rw [h] at h'; exact d (Option.some.inj h')
theorem ne_of_none {H:Hp} {a b:Addr} {o:HO} (h:H a=some o) (h':H b=none):a≠b:=by
  intro e; subst e; rw [h] at h'; cases h'
def IsTupN (h:Heap) (a:Addr) (items:Array Value):Prop:=∃ o,h.get? a=some o/\o.cls=.type "tuple"/\o.dict=none/\∃ n,o.data=.seq items n
theorem IsTupN.is {h:Heap} {a:Addr} {items:Array Value} (x:IsTupN h a items):IsTup h a items:=let ⟨o,a,b,_,c⟩:=x; ⟨o,a,b,c⟩
theorem IsTupN.new (h:Heap) (items:Array Value):IsTupN (h.push { cls:=.type "tuple",data:=.seq items }) h.objs.size items:=⟨_,Heap.get?_push_size _ rfl,rfl,rfl,_,rfl⟩
section
variable (P:Program) (w:World)
def ObjOk (H:Hp) (h:Heap) (a:Addr):HO->Prop
  | .lst xs=>xs.length<=sizeLine/\∃ (its:List Value) (n:Nat),Vals xs its/\h.get? a=some { cls:=.type "list",data:=.seq its.toArray n }
  | .tup xs=>xs.length<=sizeLine/\∃ its:List Value,Vals xs its/\IsTupN h a its.toArray
  | .dK kvs=>kvs.length<=sizeLine/\(a == sysModules)=false/\∃ vs,KV kvs vs/\h.DictOf (mixKind P w) a vs
  | .dT kvs=>kvs.length<=sizeLine/\(a == sysModules)=false/\∃ xs:List (List Key × Addr × Value),
      Paired (fun (p:List Key × V) (q:List Key × Addr × Value)=>p.1=q.1/\H q.2.1=some (.tup (p.1.map kV))/\RelV p.2 q.2.2) kvs xs /\
      ∃ o es ep,h.get? a=some o/\o.ExactDict/\o.data=.dict es ep/\es.toList=xs.map (entryOfKey (tupleKind (mixKind P w)))/\(xs.map (·.1)).Nodup
  | .set S n=>h.SetOf (intKind P w) a S n
  | .ins C dx fs=>H dx=some (.own a)/\fs.length<=1000/\dx≠a/\h.get? a=some (PySem.W.instObj C dx) /\
      ∃ mA,h.Ns1 dx mA/\(∀ f,RelO (fs.lookup f) (mA f))/\PySem.Within mA (fs.map (·.1))
  | .own _=>∃ o,h.get? a=some o
  | .xd fs=>∃ mA,h.Ns1 a mA/\∀ f,RelO (fs.lookup f) (mA f)
  | .rng lo hi=>∃ t u v,h.get? a=some { cls:=.type "range",data:=.fields #[.int lo t,.int hi u,.int 1 v] }
  | .frz o u=>h.get? a=some o/\ObjOk H h a u
  | .tbl ps=>h.get? a=some { cls:=.none,data:=.fields ps }
  | .met f x=>h.get? a=some (PySem.W.methodObj (.ref f) (.ref x))
  | .ext φ=>φ h/\(∃ o,h.get? a=some o)/\∀ h1 h2:Heap,φ h1->(∀ o,h1.get? a=some o->h2.get? a=some o)->φ h2
def HOk (H:Hp) (h:Heap):Prop:=∀ a o,H a=some o->ObjOk P w H h a o
end
section
variable {P:Program} {w:World} {H H':Hp} {h h':Heap} {a:Addr} {o:HO}
theorem ObjOk.lt (x:ObjOk P w H h a o):a < h.objs.size:=by
  cases o with
  | lst xs=>obtain ⟨_,_,_,_,e⟩:=x; exact Heap.lt_size e
  | tup xs=>obtain ⟨_,_,_,p⟩:=x; exact p.is.lt
  | dK kvs=>obtain ⟨_,_,_,_,o,_,_,e,_⟩:=x; exact Heap.lt_size e
  | dT kvs=>obtain ⟨_,_,_,_,o,_,_,e,_⟩:=x; exact Heap.lt_size e
  | set S n=>obtain ⟨o,_,_,_,e,_⟩:=x; exact Heap.lt_size e
  | ins C dx fs=>obtain ⟨_,_,_,e,_⟩:=x; exact Heap.lt_size e
  | own y=>obtain ⟨_,e⟩:=x; exact Heap.lt_size e
  | xd fs=>obtain ⟨_,⟨_,_,_,e,_⟩,_⟩:=x; exact Heap.lt_size e
  | rng lo hi=>obtain ⟨_,_,_,e⟩:=x; exact Heap.lt_size e
  | frz ob u=>obtain ⟨e,_⟩:=x; exact Heap.lt_size e
  | tbl ps=>exact Heap.lt_size (show h.get? a=some _ from x)
  | met f y=>exact Heap.lt_size (show h.get? a=some _ from x)
  | ext φ=>obtain ⟨_,⟨_,e⟩,_⟩:=x; exact Heap.lt_size e
theorem Paired.mapP {α β:Type} {F G:α->β->Prop}:∀ {l₁:List α} {l₂:List β},Paired F l₁ l₂->(∀ a b,F a b->G a b)->Paired G l₁ l₂
  | _,_,.nil,_=>.nil
  | _,_,.cons r t,f=>.cons (f _ _ r) (Paired.mapP t f)
theorem ObjOk.stay (x:ObjOk P w H h a o) (k:∀ b u,(b=a\/H b=some (.own a))->h.get? b=some u->h'.get? b=some u)
    (ho:∀ b,H b=some (.own a)->H' b=some (.own a)) (ht:∀ b xs,H b=some (.tup xs)->H' b=some (.tup xs)):ObjOk P w H' h' a o:=by
  induction o with
  | lst xs=>obtain ⟨z,its,n,r,e⟩:=x; exact ⟨z,its,n,r,k _ _ (.inl rfl) e⟩
  | tup xs=>obtain ⟨z,its,r,ob,e,c⟩:=x; exact ⟨z,its,r,ob,k _ _ (.inl rfl) e,c⟩
  | dK kvs=>obtain ⟨z,y,vs,r,ob,es,ep,e,c⟩:=x; exact ⟨z,y,vs,r,ob,es,ep,k _ _ (.inl rfl) e,c⟩
  | dT kvs =>
    obtain ⟨z,y,xs,r,ob,es,ep,e,c⟩:=x
    exact ⟨z,y,xs,Paired.mapP r fun p q z=>⟨z.1,ht _ _ z.2.1,z.2.2⟩,ob,es,ep,k _ _ (.inl rfl) e,c⟩
  | set S n=>obtain ⟨ob,es,ep,t,e,c⟩:=x; exact ⟨ob,es,ep,t,k _ _ (.inl rfl) e,c⟩
  | ins C dx fs =>
    obtain ⟨d,z,ne,e,mA,⟨od,es,ep,e2,c⟩,r⟩:=x
    exact ⟨ho _ d,z,ne,k _ _ (.inl rfl) e,mA,⟨od,es,ep,k _ _ (.inr d) e2,c⟩,r⟩
  | own y=>obtain ⟨ob,e⟩:=x; exact ⟨ob,k _ _ (.inl rfl) e⟩
  | xd fs=>obtain ⟨mA,⟨od,es,ep,e,c⟩,r⟩:=x; exact ⟨mA,⟨od,es,ep,k _ _ (.inl rfl) e,c⟩,r⟩
  | rng lo hi=>obtain ⟨t,u,v,e⟩:=x; exact ⟨t,u,v,k _ _ (.inl rfl) e⟩
  | frz ob u ih=>obtain ⟨e,q⟩:=x; exact ⟨k _ _ (.inl rfl) e,ih q⟩
  | tbl ps =>
    have e:h.get? a=some { cls:=.none,data:=.fields ps }:=x
    show h'.get? a=some { cls:=.none,data:=.fields ps }
    exact k a _ (.inl rfl) e
  | met f y =>
    have e:h.get? a=some (PySem.W.methodObj (.ref f) (.ref y)):=x
    show h'.get? a=some (PySem.W.methodObj (.ref f) (.ref y))
    exact k a _ (.inl rfl) e
  | ext φ=>obtain ⟨p,⟨o,e⟩,st⟩:=x; exact ⟨st _ _ p fun o q=>k _ _ (.inl rfl) q,⟨o,k _ _ (.inl rfl) e⟩,st⟩
theorem HOk.lt (x:HOk P w H h) (e:H a=some o):a < h.objs.size:=(x a o e).lt
theorem HOk.fresh (x:HOk P w H h) (e:h.objs.size<=a):H a=none:=by
  cases q:H a with
  | none=>rfl
  | some u=>exact absurd (Nat.lt_of_lt_of_le (x.lt q) e) (Nat.lt_irrefl _)
theorem HOk.kept (x:HOk P w H h) (k:∀ b u,h.get? b=some u->h'.get? b=some u):HOk P w H h':=fun a o e =>
  (x a o e).stay (fun b u _ q=>k b u q) (fun _ q=>q) fun _ _ q=>q
theorem HOk.laid (x:HOk P w H h) (k:∀ b u,h.get? b=some u->h'.get? b=some u) (hp:h.objs.size<=a) (new:ObjOk P w (upd H a o) h' a o):HOk P w (upd H a o) h':=fun b u e=>by
  have hn:=x.fresh hp
  by_cases hb:b=a
  · subst hb; rw [upd_same] at e; cases e; exact new
  · rw [upd_ne hb] at e
    exact (x b u e).stay (fun c v _ q=>k c v q) (fun c q=>by rw [upd_ne (ne_of_none q hn)]; exact q) fun c xs q=>by rw [upd_ne (ne_of_none q hn)]; exact q
end
def Rd (H:Hp) (a:Addr) (u:HO):Prop:=H a=some u\/∃ o,H a=some (.frz o u)
theorem Rd.of {H:Hp} {a:Addr} {u:HO} (h:H a=some u):Rd H a u:=.inl h
theorem Rd.ok {P:Program} {w:World} {H:Hp} {h:Heap} {a:Addr} {u:HO} (r:Rd H a u) (x:HOk P w H h):ObjOk P w H h a u:=by
  rcases r with r | ⟨o,r⟩
  · exact x a u r
  · obtain ⟨_,q⟩:=x a _ r
    exact q
def Mut:Option HO->Prop
  | some (.lst _)=>True
  | some (.dK _)=>True
  | some (.dT _)=>True
  | some (.set _ _)=>True
  | some (.ins _ _ _)=>True
  | some (.ext _)=>True
  | _=>False
section
variable {P:Program} {w:World} {H:Hp} {h h':Heap} {x e:Addr} {o':HO}
theorem HOk.write (ok:HOk P w H h) (mu:Mut (H x)) (he:e=x\/H e=some (.own x)) (k:∀ b u,b≠e->h.get? b=some u->h'.get? b=some u) (heo:∃ u,h'.get? e=some u)
    (new:ObjOk P w (upd H x o') h' x o'):HOk P w (upd H x o') h':=fun b u q=>by
  have nown:∀ c y,H c=some (.own y)->c≠x:=fun c y r z=>by subst z; rw [r] at mu; exact mu
  have ntup:∀ c xs,H c=some (.tup xs)->c≠x:=fun c xs r z=>by subst z; rw [r] at mu; exact mu
  by_cases hb:b=x
  · subst hb; rw [upd_same] at q; cases q; exact new
  · rw [upd_ne hb] at q
    by_cases hbe:b=e
    · have q':H b=some (.own x):=by
        rcases he with z | z
        · exact absurd (hbe.trans z) hb
        · rw [hbe]; exact z
      rw [q] at q'; cases q'
      obtain ⟨v,hv⟩:=heo
      exact ⟨v,by rw [hbe]; exact hv⟩
    · refine (ok b u q).stay (fun c v hc r=>k c v ?_ r) (fun c r=>by rw [upd_ne (nown c b r)]; exact r) fun c xs r=>by rw [upd_ne (ntup c xs r)]; exact r
      rcases hc with rfl | hc
      · exact hbe
      · rintro rfl
        rcases he with z | z
        · exact nown c b hc z
        · rw [hc] at z; cases z; exact hb rfl
end
structure Un (fs ex:List Addr) (H H':Hp) (h h':Heap):Prop where
  keep:∀ b o,h.get? b=some o->H b=none->b ∉ fs->b ∉ ex->h'.get? b=some o
  slot:∀ b o,h.get? b=some o->H b=none->b∈fs->b ∉ ex->∃ sl,h'.get? b=some { o with slots:=sl }
  free:∀ b o,h.get? b=some o->H b=none->b ∉ ex->H' b=none
  there:∀ b o,h.get? b=some o->b ∉ ex->∃ o',h'.get? b=some o'
  tups:∀ b xs,H b=some (.tup xs)->H' b=some (.tup xs)
  frzs:∀ b o u,H b=some (.frz o u)->H' b=some (.frz o u)
  tbls:∀ b ps,H b=some (.tbl ps)->∃ more,H' b=some (.tbl (ps ++ more))
section
variable {fs fs' ex ex':List Addr} {H H1 H2:Hp} {h h1 h2 h':Heap} {a x e:Addr} {o:HO}
theorem Un.any (u:Un fs ex H H1 h h1) {b:Addr} {ob:Obj} (q:h.get? b=some ob) (n:H b=none) (hx:b ∉ ex):∃ sl,h1.get? b=some { ob with slots:=sl }:=by
  by_cases hb:b∈fs
  · exact u.slot b ob q n hb hx
  · exact ⟨ob.slots,u.keep b ob q n hb hx⟩
theorem Un.trans (a:Un fs ex H H1 h h1) (b:Un fs ex H1 H2 h1 h2):Un fs ex H H2 h h2 where
  keep:=fun c ob q n hc hx=>b.keep c ob (a.keep c ob q n hc hx) (a.free c ob q n hx) hc hx
  slot:=fun c ob q n hc hx=>by
    obtain ⟨sl,e1⟩:=a.slot c ob q n hc hx
    obtain ⟨sl',e2⟩:=b.slot c _ e1 (a.free c ob q n hx) hc hx
    exact ⟨sl',e2⟩
  free:=fun c ob q n hx=>by
    obtain ⟨o',e1⟩:=a.there c ob q hx
    exact b.free c o' e1 (a.free c ob q n hx) hx
  there:=fun c ob q hx=>by
    obtain ⟨o',e1⟩:=a.there c ob q hx
    exact b.there c o' e1 hx
  tups:=fun c xs q=>b.tups c xs (a.tups c xs q)
  frzs:=fun c ob xs q=>b.frzs c ob xs (a.frzs c ob xs q)
  tbls:=fun c ps q=>by
    obtain ⟨m1,e1⟩:=a.tbls c ps q
    obtain ⟨m2,e2⟩:=b.tbls c _ e1
    exact ⟨m1 ++ m2,by rw [e2,Array.append_assoc]⟩
theorem Un.kept (k:∀ b u,h.get? b=some u->h'.get? b=some u):Un fs ex H H h h' :=
  ⟨fun b ob q _ _ _=>k b ob q,fun b ob q _ _ _=>⟨ob.slots,k b ob q⟩,fun _ _ _ n _=>n,fun b ob q _=>⟨ob,k b ob q⟩,fun _ _ q=>q,fun _ _ _ q=>q,fun _ ps q=>⟨#[],by rw [q]; simp⟩⟩
theorem Un.refl:Un fs ex H H h h:=Un.kept fun _ _ q=>q
theorem Un.laid (k:∀ b u,h.get? b=some u->h'.get? b=some u) (hp:h.objs.size<=a) (hn:H a=none):Un fs ex H (upd H a o) h h' where
  keep:=fun b u q _ _ _=>k b u q
  slot:=fun b u q _ _ _=>⟨u.slots,k b u q⟩
  free:=fun b u q n _=>by rw [upd_ne (Nat.ne_of_lt (Nat.lt_of_lt_of_le (Heap.lt_size q) hp))]; exact n
  there:=fun b u q _=>⟨u,k b u q⟩
  tups:=fun b xs q=>by rw [upd_ne (ne_of_none q hn)]; exact q
  frzs:=fun b u xs q=>by rw [upd_ne (ne_of_none q hn)]; exact q
  tbls:=fun b ps q=>⟨#[],by rw [upd_ne (ne_of_none q hn),q]; simp⟩
theorem Un.write (mu:Mut (H x)) (he:e=x\/H e=some (.own x)) (k:∀ b u,b≠e->h.get? b=some u->h'.get? b=some u) (heo:∃ u,h'.get? e=some u):Un fs ex H (upd H x o) h h':=by
  have hx:∀ b,H b=none->b≠x:=fun b n z=>by subst z; rw [n] at mu; exact mu
  have hb:∀ b,H b=none->b≠e:=fun b n z=>by
    subst z
    rcases he with r | r
    · exact hx b n r
    · rw [n] at r; cases r
  have hm:∀ b u,H b=some u->¬ Mut (some u)->b≠x:=fun b u q nm z=>by subst z; rw [q] at mu; exact nm mu
  refine ⟨fun b u q n _ _=>k b u (hb b n) q,fun b u q n _ _=>⟨u.slots,k b u (hb b n) q⟩,fun b u q n _=>by rw [upd_ne (hx b n)]; exact n,fun b u q _=>?_,
    fun b xs q=>by rw [upd_ne (hm b _ q fun z=>z)]; exact q,fun b u xs q=>by rw [upd_ne (hm b _ q fun z=>z)]; exact q,fun b ps q=>⟨#[],by rw [upd_ne (hm b _ q fun z=>z),q]; simp⟩⟩
  by_cases hbe:b=e
  · subst hbe; exact heo
  · exact ⟨u,k b u hbe q⟩
theorem Un.mono (u:Un fs ex H H1 h h1) (hs:∀ b∈fs,b∈fs') (hx:∀ b∈ex,b∈ex'):Un fs' ex' H H1 h h1 :=
  ⟨fun b ob q n hb he=>u.keep b ob q n (fun z=>hb (hs b z)) fun z=>he (hx b z),fun _ _ q n _ he=>u.any q n fun z=>he (hx _ z),fun b ob q n he=>u.free b ob q n fun z=>he (hx b z),fun b ob q he=>u.there b ob q fun z=>he (hx b z),u.tups,u.frzs,u.tbls⟩
end
def trk (h:Heap) (H:Hp):List Addr:=(List.range h.objs.size).filter fun a=>(H a).isSome
def hidT (h:Heap) (H:Hp):Heap:=PySem.W.hideAll h (trk h H)
theorem hidT_size (h:Heap) (H:Hp):(hidT h H).objs.size=h.objs.size:=PySem.W.hideAll_size _ _
theorem hidT_get {h:Heap} {H:Hp} {b:Addr} {o:Obj} (e:h.get? b=some o) (n:H b=none):(hidT h H).get? b=some o :=
  PySem.W.hideAll_get _ e fun hm=>by
    have q:(H b).isSome=true:=(List.mem_filter.mp hm).2
    rw [n] at q; simp at q
theorem of_hidT {h:Heap} {H:Hp} {b:Addr} {o:Obj} (e:(hidT h H).get? b=some o):h.get? b=some o/\H b=none:=by
  have e':h.get? b=some o:=PySem.W.of_hideAll (trk h H) e
  refine ⟨e',?_⟩
  cases q:H b with
  | none=>rfl
  | some x =>
    have hm:b∈trk h H:=List.mem_filter.mpr ⟨List.mem_range.mpr (Heap.lt_size e'),by simp [q]⟩
    have z:(hidT h H).get? b=none:=PySem.W.hideAll_none (trk h H) hm
    rw [z] at e; cases e
def allNews (g h:Heap) (L:Addr):List (Addr × Obj):=(List.range h.objs.size).filterMap fun a=>if a=L\/(g.get? a).isSome=true then none else (h.get? a).map fun o=>(a,o)
def rest (g h:Heap) (L d:Addr):List (Addr × Obj):=(allNews g h L).filter fun p=>decide (p.1≠d)
end L2
namespace L2
open PySem PySem.Spec PyProof.Rows
structure Mod (K:PySem.W.Frag) (mg:Str->Option Value) (base:Heap):Prop where
  kin:K.In base
  glob:base.Ns mainGlobals mg
  blt:∃ mb,base.Ns builtinsNs mb/\∀ x:Str,x≠"__name__"->mb x=bootBuiltins x
  nolimit:base.NoLimit
/-- the context: a def's body (or a comprehension's block) running. base: fixed through the whole law; s₀, H₀: the entry; outer: the frames whose slots others may change (a def's callers); stack: all frames that run;
   ex: iterators that were made ahead of the entry and are walked here (a comprehension's); fn: the names whose cells were made at the entry (a def: all; a comprehension's block: its own); calm: not within an except suite; pn: pins that every state bears; xe: what is wanted of an exception that leaves the code -/
structure Cx where
  prog:Program
  w:World
  K:PySem.W.Frag
  mg:Str->Option Value
  base:Heap
  A:Around
  N:List Str
  s₀:Shared
  H₀:Hp
  env:Env
  outer:List Env
  stack:List Env
  ex:List Addr
  fn:Str->Bool
  calm:Bool
  pn:List (Addr × Obj)
  xe:Value->Shared->Prop
def frs (l:List Env):List Addr:=l.filterMap (·.frame)
abbrev Cx.fs (X:Cx):List Addr:=frs X.outer
def Vis (sc:Scope) (x:Str):Prop:=sc.names.lookup x=some .local\/sc.names.lookup x=some .cell\/sc.names.lookup x=some .free
def Loc (sc:Scope) (x:Str):Prop:=sc.names.lookup x=some .local\/sc.names.lookup x=some .cell
def Look (env:Env) (h:Heap) (m:Str->Option Value) (x:Str) (u:Value):Prop :=
  (env.kindOf x=some .local/\m x=some u)\/((env.kindOf x=some .cell\/env.kindOf x=some .free)/\∃ c,env.cells.lookup x=some c/\h.IsCell c (some u))
structure Cx.Ok (X:Cx):Prop where
  mod:Mod X.K X.mg X.base
  kind:X.env.scope.kind=.function
  glob:X.env.globals=mainGlobals
  blt:X.env.builtins=builtinsNs
  above:X.s₀.heap.objs.size<=X.env.locals
  inj:∀ x y c,X.env.cells.lookup x=some c->X.env.cells.lookup y=some c->x=y
  has:∀ x,(X.env.kindOf x=some .cell\/X.env.kindOf x=some .free)->∃ c,X.env.cells.lookup x=some c
  cab:∀ x c,X.fn x=true->X.env.cells.lookup x=some c->X.s₀.heap.objs.size<=c
  hd:X.calm=true->X.A.handled=none
  frames:X.A.frames=some X.stack
  stk:X.stack=X.outer\/(X.stack=X.env :: X.outer/\X.env.frame=some X.env.locals)
  exf:∀ b∈X.ex,b≠X.env.locals/\∀ x c,X.env.cells.lookup x=some c->c≠b
  bs:∀ b o,X.base.get? b=some o->X.s₀.heap.get? b=some o/\X.H₀ b=none
  bsz:X.base.objs.size<=X.s₀.heap.objs.size
  noex:∀ b o,X.base.get? b=some o->b ∉ X.ex
  exfs:∀ b∈X.ex,b ∉ X.fs
  funs:X.s₀.heap.FunFrames X.base X.outer
  frf:∀ b∈X.fs,X.H₀ b=none
structure Inv (X:Cx) (pins:List (Addr × Obj)) (σ:List (Option V)) (H:Hp) (s:Shared):Prop where
  ok:X.Ok
  os:s.os=X.s₀.os
  bare:AllBare s.gens
  base:Un X.fs X.ex X.H₀ H X.s₀.heap s.heap
  loc:∃ m,s.heap.Ns X.env.locals m/\∀ (i:Nat) (x:Str) (v:V),X.N[i]?=some x->σ[i]?=some (some v)->Vis X.env.scope x->∃ u,RelV v u/\Look X.env s.heap m x u
  cell:∀ x c,X.env.cells.lookup x=some c->∃ v,s.heap.IsCell c v
  free:H X.env.locals=none
  freeC:∀ x c,X.env.cells.lookup x=some c->H c=none
  pin:∀ p∈X.pn ++ pins,s.heap.get? p.1=some p.2/\H p.1=none/\p.1≠X.env.locals/\p.1 ∉ X.fs/\∀ v,p.2.data≠.cell v
  hok:HOk X.prog X.w H s.heap
  len:σ.length=X.N.length
section
variable {X:Cx} {pins:List (Addr × Obj)} {σ:List (Option V)} {H H':Hp} {s:Shared} {h':Heap}
theorem Cx.Ok.nofr (ok:X.Ok) {b:Addr} {o:Obj} (e:X.base.get? b=some o):b ∉ X.fs:=fun hb=>by
  have:=(ok.funs.mem hb).1
  rw [e] at this; cases this
theorem Inv.bs (I:Inv X pins σ H s):∀ b o,X.base.get? b=some o->s.heap.get? b=some o/\H b=none:=fun b o e =>
  ⟨I.base.keep b o (I.ok.bs b o e).1 (I.ok.bs b o e).2 (I.ok.nofr e) (I.ok.noex b o e),I.base.free b o (I.ok.bs b o e).1 (I.ok.bs b o e).2 (I.ok.noex b o e)⟩
theorem Inv.bk (I:Inv X pins σ H s):∀ b o,X.base.get? b=some o->s.heap.get? b=some o:=fun b o e=>(I.bs b o e).1
theorem Inv.mod (I:Inv X pins σ H s):Mod X.K X.mg X.base:=I.ok.mod
theorem Inv.kIn (I:Inv X pins σ H s):X.K.In s.heap:=I.ok.mod.kin.keeps I.bk
theorem Inv.nolimit (I:Inv X pins σ H s):s.heap.NoLimit:=I.ok.mod.nolimit.keeps I.bk
theorem Inv.fr (I:Inv X pins σ H s):∃ m,Fr X.base X.env.locals s.heap m :=
  let ⟨m,hn,_⟩:=I.loc
  ⟨m,hn,I.bk,Nat.le_trans I.ok.bsz I.ok.above⟩
theorem Inv.lt (I:Inv X pins σ H s):X.env.locals < s.heap.objs.size:=let ⟨_,hn,_⟩:=I.loc; hn.lt
theorem Inv.sz (I:Inv X pins σ H s):X.s₀.heap.objs.size<=s.heap.objs.size:=Nat.le_trans I.ok.above (Nat.le_of_lt I.lt)
theorem Inv.nofs (I:Inv X pins σ H s) {a:Addr} (h:s.heap.objs.size<=a):a ∉ X.fs:=fun hb=>by
  obtain ⟨_,o,ho,_⟩:=I.ok.funs.mem hb
  exact absurd (Nat.lt_of_lt_of_le (Heap.lt_size ho) (Nat.le_trans I.sz h)) (Nat.lt_irrefl _)
theorem Inv.cne (I:Inv X pins σ H s):∀ x c,X.env.cells.lookup x=some c->c≠X.env.locals:=fun x c e z=>by
  obtain ⟨v,o,ho,hd⟩:=I.cell x c e
  obtain ⟨m,⟨o',es,ep,ho',hd',_⟩,_⟩:=I.loc
  rw [z,ho'] at ho; cases ho; rw [hd'] at hd; cases hd
theorem Inv.funs (I:Inv X pins σ H s):s.heap.FunFrames X.base X.outer:=by
  have all:∀ (l:List Env),(∀ b∈frs l,b∈X.fs)->X.s₀.heap.FunFrames X.base l->s.heap.FunFrames X.base l:=by
    intro l
    induction l with
    | nil=>intro _ _; trivial
    | cons env r ih =>
      intro hs hl
      obtain ⟨hk,⟨L,o,hf,hn,ho,hd⟩,hr⟩:=hl
      have hL:L∈X.fs:=hs L (by unfold frs; rw [List.filterMap_cons,hf]; exact List.mem_cons_self)
      obtain ⟨sl,e⟩:=I.base.slot L o ho (I.ok.frf L hL) hL fun z=>I.ok.exfs L z hL
      exact ⟨hk,⟨L,_,hf,hn,e,hd⟩,ih (fun b hb=>hs b (by unfold frs; rw [List.filterMap_cons,hf]; exact List.mem_cons_of_mem _ hb)) hr⟩
  exact all X.outer (fun _ hb=>hb) I.ok.funs
theorem Inv.stack (I:Inv X pins σ H s):s.heap.FunFrames X.base X.stack:=by
  rcases I.ok.stk with e | ⟨e,hf⟩
  · rw [e]; exact I.funs
  · rw [e]
    obtain ⟨m,hn,_⟩:=I.loc
    refine .cons (by rw [I.ok.kind]; decide) hf hn ?_ I.funs
    exact Heap.get?_none_of_le (Nat.le_trans I.ok.bsz I.ok.above)
theorem Inv.stkSub (I:Inv X pins σ H s):∀ b∈frs X.stack,b∈X.env.locals :: X.fs:=fun b hb=>by
  rcases I.ok.stk with e | ⟨e,hf⟩
  · rw [e] at hb; exact List.mem_cons_of_mem _ hb
  · rw [e] at hb
    unfold frs at hb
    rw [List.filterMap_cons,hf] at hb
    exact hb
theorem Inv.stkFree (I:Inv X pins σ H s):∀ b∈frs X.stack,H b=none:=fun b hb=>by
  rcases List.mem_cons.mp (I.stkSub b hb) with e | hb
  · rw [e]; exact I.free
  · obtain ⟨_,o,ho,_⟩:=I.ok.funs.mem hb
    exact I.base.free b o ho (I.ok.frf b hb) fun z=>I.ok.exfs b z hb
theorem Inv.step {g':Array GenState} {t':Nat} {d':Drawn} {ch:List Addr} (I:Inv X pins σ H s)
    (hch:∀ b∈ch,(b∈X.ex\/X.s₀.heap.objs.size<=b)/\b≠X.env.locals/\(∀ x c,X.env.cells.lookup x=some c->c≠b)/\∀ p∈X.pn ++ pins,p.1≠b)
    (keep:∀ b o,b≠X.env.locals->b ∉ X.fs->b ∉ ch->s.heap.get? b=some o->H b=none->h'.get? b=some o)
    (slot:∀ b o,b≠X.env.locals->b∈X.fs->b ∉ ch->s.heap.get? b=some o->H b=none->∃ sl,h'.get? b=some { o with slots:=sl }) (free:∀ b o,b ∉ ch->s.heap.get? b=some o->H b=none->H' b=none)
    (there:∀ b o,b ∉ ch->s.heap.get? b=some o->∃ o',h'.get? b=some o')
    (tups:∀ b xs,H b=some (.tup xs)->H' b=some (.tup xs)) (frzs:∀ b o u,H b=some (.frz o u)->H' b=some (.frz o u)) (tbls:∀ b ps,H b=some (.tbl ps)->∃ more,H' b=some (.tbl (ps ++ more)))
    (ns:∀ m,s.heap.Ns X.env.locals m->h'.Ns X.env.locals m) (hok:HOk X.prog X.w H' h') (hg:AllBare g') :
    Inv X pins σ H' { s with heap:=h',gens:=g',drawn:=d',toks:=t' }:=by
  have neL:∀ b o,X.s₀.heap.get? b=some o->b≠X.env.locals:=fun b o e=>Nat.ne_of_lt (Nat.lt_of_lt_of_le (Heap.lt_size e) I.ok.above)
  have neC:∀ b o,X.s₀.heap.get? b=some o->b ∉ X.ex->b ∉ ch:=fun b o e hx hb=>by
    rcases (hch b hb).1 with z | z
    · exact hx z
    · exact absurd (Nat.lt_of_lt_of_le (Heap.lt_size e) z) (Nat.lt_irrefl _)
  have cellK:∀ x c,X.env.cells.lookup x=some c->∀ v,s.heap.IsCell c v->h'.IsCell c v:=fun x c e v ⟨o,ho,hd⟩=>by
    have nch:c ∉ ch:=fun z=>(hch c z).2.2.1 x c e rfl
    by_cases hc:c∈X.fs
    · obtain ⟨sl,q⟩:=slot c o (I.cne x c e) hc nch ho (I.freeC x c e)
      exact ⟨_,q,hd⟩
    · exact ⟨o,keep c o (I.cne x c e) hc nch ho (I.freeC x c e),hd⟩
  refine ⟨I.ok,I.os,hg,⟨fun b o e n hb hx=>?_,fun b o e n hb hx=>?_,fun b o e n hx=>?_,fun b o e hx=>?_,fun b xs e=>tups b xs (I.base.tups b xs e),fun b o xs e=>frzs b o xs (I.base.frzs b o xs e),fun b ps e=>?_⟩,?_,fun x c e=>?_,?_,fun x c e=>?_,fun p hp=>?_,hok,I.len⟩
  · exact keep b o (neL b o e) hb (neC b o e hx) (I.base.keep b o e n hb hx) (I.base.free b o e n hx)
  · obtain ⟨sl,e1⟩:=I.base.slot b o e n hb hx
    obtain ⟨sl',e2⟩:=slot b _ (neL b o e) hb (neC b o e hx) e1 (I.base.free b o e n hx)
    exact ⟨sl',e2⟩
  · obtain ⟨o',e1⟩:=I.base.there b o e hx
    exact free b o' (neC b o e hx) e1 (I.base.free b o e n hx)
  · obtain ⟨o',e1⟩:=I.base.there b o e hx
    exact there b o' (neC b o e hx) e1
  · obtain ⟨m1,e1⟩:=I.base.tbls b ps e
    obtain ⟨m2,e2⟩:=tbls b _ e1
    exact ⟨m1 ++ m2,by rw [e2,Array.append_assoc]⟩
  · obtain ⟨m,hn,hl⟩:=I.loc
    refine ⟨m,ns m hn,fun i x v e1 e2 e3=>?_⟩
    obtain ⟨u,r,l⟩:=hl i x v e1 e2 e3
    refine ⟨u,r,?_⟩
    rcases l with l | ⟨k,c,e,z⟩
    · exact .inl l
    · exact .inr ⟨k,c,e,cellK x c e _ z⟩
  · obtain ⟨v,z⟩:=I.cell x c e
    exact ⟨v,cellK x c e v z⟩
  · obtain ⟨m,⟨o,_,_,ho,_⟩,_⟩:=I.loc
    exact free _ o (fun z=>(hch _ z).2.1 rfl) ho I.free
  · obtain ⟨v,o,ho,hd⟩:=I.cell x c e
    exact free c o (fun z=>(hch c z).2.2.1 x c e rfl) ho (I.freeC x c e)
  · obtain ⟨e,n,ne,nf,d⟩:=I.pin p hp
    have nch:p.1 ∉ ch:=fun z=>(hch p.1 z).2.2.2 p hp rfl
    exact ⟨keep p.1 p.2 ne nf nch e n,free p.1 p.2 nch e n,ne,nf,d⟩
theorem Inv.un {t':Nat} (I:Inv X pins σ H s) (u:Un X.fs [] H H' s.heap h') (hok:HOk X.prog X.w H' h'):Inv X pins σ H' { s with heap:=h',toks:=t' }:=by
  obtain ⟨m,⟨o,es,ep,ho,r⟩,_⟩:=id I.loc
  obtain ⟨sl,hL⟩:=u.any ho I.free (by simp)
  exact I.step (g':=s.gens) (d':=s.drawn) (ch:=[]) (fun _ z=>nomatch z) (fun b o _ hb _ e n=>u.keep b o e n hb (by simp)) (fun b o _ hb _ e n=>u.slot b o e n hb (by simp)) (fun b o _ e n=>u.free b o e n (by simp)) (fun b o _ e=>u.there b o e (by simp)) u.tups u.frzs u.tbls (fun m' hm=>by
    obtain ⟨o',es',ep',ho',r'⟩:=hm
    rw [ho] at ho'; cases ho'
    exact ⟨_,es',ep',hL,r'⟩) hok I.bare
theorem Inv.call {g':Array GenState} {t':Nat} {d':Drawn} {ch:List Addr} (I:Inv X pins σ H s) (u:Un (frs X.stack) ch H H' s.heap h') (hok:HOk X.prog X.w H' h') (hg:AllBare g')
    (hch:∀ b∈ch,(b∈X.ex\/X.s₀.heap.objs.size<=b)/\b≠X.env.locals/\(∀ x c,X.env.cells.lookup x=some c->c≠b)/\∀ p∈X.pn ++ pins,p.1≠b) :
    Inv X pins σ H' { s with heap:=h',gens:=g',drawn:=d',toks:=t' }:=by
  obtain ⟨m,⟨o,es,ep,ho,r⟩,_⟩:=id I.loc
  obtain ⟨sl,hL⟩:=u.any ho I.free fun z=>(hch _ z).2.1 rfl
  exact I.step (ch:=ch) hch (fun b o hL hb hc e n=>u.keep b o e n (fun z=>(List.mem_cons.mp (I.stkSub b z)).elim hL hb) hc) (fun b o _ _ hc e n=>u.any e n hc) (fun b o hc e n=>u.free b o e n hc) (fun b o hc e=>u.there b o e hc) u.tups u.frzs u.tbls (fun m' hm=>by
    obtain ⟨o',es',ep',ho',r'⟩:=hm
    rw [ho] at ho'; cases ho'
    exact ⟨_,es',ep',hL,r'⟩) hok hg
theorem Inv.turned {t':Nat} {it:Addr} (I:Inv X pins σ H s) (k:∀ b o,b≠it->s.heap.get? b=some o->h'.get? b=some o) (hn:H it=none) (hL:it≠X.env.locals)
    (h1:it∈X.ex\/X.s₀.heap.objs.size<=it) (h2:∀ x c,X.env.cells.lookup x=some c->c≠it) (h3:∀ p∈X.pn ++ pins,p.1≠it):Inv X pins σ H { s with heap:=h',toks:=t' }:=by
  have nit:∀ b u,H b=some u->b≠it:=fun b u e z=>by rw [z,hn] at e; cases e
  refine I.step (g':=s.gens) (d':=s.drawn) (ch:=[it]) (fun b hb=>?_) (fun b o _ _ hc e _=>k b o (fun z=>hc (by simp [z])) e) (fun b o _ _ hc e _=>⟨o.slots,k b o (fun z=>hc (by simp [z])) e⟩) (fun _ _ _ _ n=>n)
    (fun b o hc e=>⟨o,k b o (fun z=>hc (by simp [z])) e⟩) (fun _ _ e=>e) (fun _ _ _ e=>e) (fun b ps e=>⟨#[],by rw [e]; simp⟩) (fun m hm=>?_) (fun b u e=>?_) I.bare
  · have e:b=it:=by simpa using hb
    subst e
    exact ⟨h1,hL,h2,h3⟩
  · obtain ⟨o,es,ep,ho,r⟩:=hm
    exact ⟨o,es,ep,k _ o (Ne.symm hL) ho,r⟩
  · refine (I.hok b u e).stay (fun c v hc q=>k c v ?_ q) (fun _ q=>q) fun _ _ q=>q
    rcases hc with z | z
    · rw [z]; exact nit b u e
    · exact nit c _ z
theorem Inv.tok (I:Inv X pins σ H s) (t:Nat):Inv X pins σ H { s with toks:=t }:=I.un (h':=s.heap) (t':=t) Un.refl I.hok
theorem Inv.kept {t':Nat} (I:Inv X pins σ H s) (k:∀ b u,s.heap.get? b=some u->h'.get? b=some u):Inv X pins σ H { s with heap:=h',toks:=t' }:=I.un (Un.kept k) (I.hok.kept k)
theorem Inv.laid {a:Addr} {o:HO} {t':Nat} (I:Inv X pins σ H s) (k:∀ b u,s.heap.get? b=some u->h'.get? b=some u) (hp:s.heap.objs.size<=a) (new:ObjOk X.prog X.w (upd H a o) h' a o) :
    Inv X pins σ (upd H a o) { s with heap:=h',toks:=t' }:=I.un (Un.laid k hp (I.hok.fresh hp)) (I.hok.laid k hp new)
theorem Inv.write {x e:Addr} {o:HO} {t':Nat} (I:Inv X pins σ H s) (mu:Mut (H x)) (he:e=x\/H e=some (.own x)) (k:∀ b u,b≠e->s.heap.get? b=some u->h'.get? b=some u) (heo:∃ u,h'.get? e=some u)
    (new:ObjOk X.prog X.w (upd H x o) h' x o):Inv X pins σ (upd H x o) { s with heap:=h',toks:=t' }:=I.un (Un.write mu he k heo) (I.hok.write mu he k heo new)
theorem Inv.pins_of {pins':List (Addr × Obj)} (I:Inv X pins σ H s) (h:∀ p∈pins',s.heap.get? p.1=some p.2/\H p.1=none/\p.1≠X.env.locals/\p.1 ∉ X.fs/\∀ v,p.2.data≠.cell v):Inv X pins' σ H s :=
  ⟨I.ok,I.os,I.bare,I.base,I.loc,I.cell,I.free,I.freeC,fun p hp=>(List.mem_append.mp hp).elim (fun z=>I.pin p (List.mem_append_left _ z)) (h p),I.hok,I.len⟩
theorem nodup_ix {N:List Str} (hN:N.Nodup) {i j:Nat} {x:Str} (a:N[i]?=some x) (b:N[j]?=some x):i=j:=by
  obtain ⟨h1,e1⟩:=List.getElem?_eq_some_iff.mp a
  obtain ⟨h2,e2⟩:=List.getElem?_eq_some_iff.mp b
  exact (List.getElem_inj hN).mp (e1.trans e2.symm)
theorem store_ok2 {M:Model} {A:Around} {E:Value->Shared->Prop} {i:Nat} {x:Str} {v:V} {u:Value} {Q:Unit->Shared->Prop} (I:Inv X pins σ H s) (hN:X.N.Nodup) (hi:X.N[i]?=some x) (hx:Loc X.env.scope x) (r:RelV v u)
    (h:∀ s',Inv X pins (σ.set i (some v)) H s'->(∃ a,Heap.SameBut a s.heap s'.heap/\(a=X.env.locals\/X.env.cells.lookup x=some a))->Q () s') (hf:X.fn x=true\/X.env.scope.names.lookup x=some .local:=by first | exact .inl rfl | exact .inr rfl | assumption):wpAny M A (storeName X.env x u) Q E s:=by
  obtain ⟨m,hn,hl⟩:=id I.loc
  have hcls:(X.env.scope.kind == .class || (X.env.scope.kind == .module && X.env.locals != X.env.globals))=false:=by rw [I.ok.kind]; rfl
  have hiσ:i < σ.length:=by rw [I.len]; exact (List.getElem?_eq_some_iff.mp hi).1
  have cne:=I.cne
  have tracked:∀ {a:Addr} {h':Heap},(∃ o,s.heap.get? a=some o/\H a=none)->Heap.SameBut a s.heap h'->HOk X.prog X.w H h':=fun {a h'} ha hs b ob e=>by
    obtain ⟨_,_,hfree⟩:=ha
    refine (I.hok b ob e).stay (fun c w' hc q=>(hs.2 c ?_).trans q) (fun _ q=>q) fun _ _ q=>q
    rintro rfl
    rcases hc with rfl | hc
    · rw [hfree] at e; cases e
    · rw [hfree] at hc; cases hc
  rcases hx with hk | hk
  · refine wpAny_storeName_local hk hn (fun h' hn' hs=>?_) hcls
    obtain ⟨oL,_,_,hoL,_⟩:=id hn
    refine h _ ⟨I.ok,I.os,I.bare,⟨fun b o e n hb hx=>?_,fun b o e n hb hx=>?_,I.base.free,fun b o e hx=>?_,I.base.tups,I.base.frzs,I.base.tbls⟩,⟨_,hn',fun j y v' e1 e2 e3=>?_⟩,fun y c e=>?_,I.free,I.freeC,fun p hp=>?_,tracked ⟨oL,hoL,I.free⟩ hs,by simpa using I.len⟩ ⟨_,hs,.inl rfl⟩
    · exact (hs.2 b (Nat.ne_of_lt (Nat.lt_of_lt_of_le (Heap.lt_size e) I.ok.above))).trans (I.base.keep b o e n hb hx)
    · obtain ⟨sl,e1⟩:=I.base.slot b o e n hb hx
      exact ⟨sl,(hs.2 b (Nat.ne_of_lt (Nat.lt_of_lt_of_le (Heap.lt_size e) I.ok.above))).trans e1⟩
    · obtain ⟨o',e1⟩:=I.base.there b o e hx
      exact ⟨o',(hs.2 b (Nat.ne_of_lt (Nat.lt_of_lt_of_le (Heap.lt_size e) I.ok.above))).trans e1⟩
    · by_cases hj:j=i
      · subst hj
        rw [hi] at e1; cases e1
        rw [List.getElem?_set_self hiσ] at e2
        cases e2
        exact ⟨u,r,.inl ⟨hk,by simp⟩⟩
      · rw [List.getElem?_set_ne (Ne.symm hj)] at e2
        obtain ⟨u',r',q⟩:=hl j y v' e1 e2 e3
        refine ⟨u',r',?_⟩
        rcases q with ⟨k,e⟩ | ⟨k,c,e,z⟩
        · refine .inl ⟨k,?_⟩
          have:y≠x:=fun e=>hj (nodup_ix hN e1 (e ▸ hi))
          simp [this,e]
        · exact .inr ⟨k,c,e,z.sameBut hs (cne y c e)⟩
    · obtain ⟨w',z⟩:=I.cell y c e
      exact ⟨w',z.sameBut hs (cne y c e)⟩
    · obtain ⟨e,n,ne,nf,d⟩:=I.pin p hp
      exact ⟨(hs.2 p.1 ne).trans e,n,ne,nf,d⟩
  · have hfn:X.fn x=true:=by
      rcases hf with z | z
      · exact z
      · rw [z] at hk; cases hk
    obtain ⟨c,hc⟩:=I.ok.has x (.inl hk)
    obtain ⟨w',z⟩:=I.cell x c hc
    refine wpAny_storeName_cell I.ok.kind hk hc z (fun h' hc' hs=>?_)
    obtain ⟨oc,hoc,hocd⟩:=id z
    refine h { s with heap:=h' } ⟨I.ok,I.os,I.bare,⟨fun b o e n hb hx=>?_,fun b o e n hb hx=>?_,I.base.free,fun b o e hx=>?_,I.base.tups,I.base.frzs,I.base.tbls⟩,⟨m,hn.sameBut hs (Ne.symm (cne x c hc)),fun j y v' e1 e2 e3=>?_⟩,fun y c' e=>?_,I.free,I.freeC,fun p hp=>?_,tracked ⟨oc,hoc,I.freeC x c hc⟩ hs,by simpa using I.len⟩ ⟨c,hs,.inr hc⟩
    · exact (hs.2 b (Nat.ne_of_lt (Nat.lt_of_lt_of_le (Heap.lt_size e) (I.ok.cab x c hfn hc)))).trans (I.base.keep b o e n hb hx)
    · obtain ⟨sl,e1⟩:=I.base.slot b o e n hb hx
      exact ⟨sl,(hs.2 b (Nat.ne_of_lt (Nat.lt_of_lt_of_le (Heap.lt_size e) (I.ok.cab x c hfn hc)))).trans e1⟩
    · obtain ⟨o',e1⟩:=I.base.there b o e hx
      exact ⟨o',(hs.2 b (Nat.ne_of_lt (Nat.lt_of_lt_of_le (Heap.lt_size e) (I.ok.cab x c hfn hc)))).trans e1⟩
    · by_cases hj:j=i
      · subst hj
        rw [hi] at e1; cases e1
        rw [List.getElem?_set_self hiσ] at e2
        cases e2
        exact ⟨u,r,.inr ⟨.inl hk,c,hc,hc'⟩⟩
      · rw [List.getElem?_set_ne (Ne.symm hj)] at e2
        obtain ⟨u',r',q⟩:=hl j y v' e1 e2 e3
        refine ⟨u',r',?_⟩
        rcases q with q | ⟨k,c',e,z'⟩
        · exact .inl q
        · refine .inr ⟨k,c',e,z'.sameBut hs ?_⟩
          rintro rfl
          exact hj (nodup_ix hN e1 (I.ok.inj _ _ _ e hc ▸ hi))
    · by_cases hcc:c'=c
      · subst hcc; exact ⟨_,hc'⟩
      · obtain ⟨w2,z2⟩:=I.cell y c' e
        exact ⟨w2,z2.sameBut hs hcc⟩
    · obtain ⟨e,n,ne,nf,d⟩:=I.pin p hp
      refine ⟨(hs.2 p.1 ?_).trans e,n,ne,nf,d⟩
      intro q
      rw [q,hoc] at e
      have q':oc=p.2:=Option.some.inj e
      exact d w' (by rw [<- q']; exact hocd)
theorem store_ok {M:Model} {A:Around} {E:Value->Shared->Prop} {i:Nat} {x:Str} {v:V} {u:Value} {Q:Unit->Shared->Prop} (I:Inv X pins σ H s) (hN:X.N.Nodup) (hi:X.N[i]?=some x) (hx:Loc X.env.scope x) (r:RelV v u)
    (h:∀ s',Inv X pins (σ.set i (some v)) H s'->Q () s') (hf:X.fn x=true\/X.env.scope.names.lookup x=some .local:=by first | exact .inl rfl | exact .inr rfl | assumption):wpAny M A (storeName X.env x u) Q E s :=
  store_ok2 I hN hi hx r (fun s' I' _=>h s' I') hf
theorem Inv.call' {s':Shared} {ch:List Addr} (I:Inv X pins σ H s) (ho:s'.os=s.os) (u:Un (frs X.stack) ch H H' s.heap s'.heap) (hok:HOk X.prog X.w H' s'.heap) (hg:AllBare s'.gens)
    (hch:∀ b∈ch,(b∈X.ex\/X.s₀.heap.objs.size<=b)/\b≠X.env.locals/\(∀ x c,X.env.cells.lookup x=some c->c≠b)/\∀ p∈X.pn ++ pins,p.1≠b):Inv X pins σ H' s':=by
  obtain ⟨h',g',d',t',o'⟩:=s'
  have e:o'=s.os:=ho
  subst e
  exact I.call (g':=g') (t':=t') (d':=d') u hok hg hch
end
abbrev XK:=Value->Option Addr->Hp->Prop
abbrev St:=List (Option V)
abbrev VK:=V->Hp->Prop
abbrev TE:=St->Hp->VK->Prop
abbrev TT:=St->Hp->(Bool->Hp->Prop)->Prop
abbrev TA:=St->Hp->(List V->Hp->Prop)->Prop
structure Ends where
  nx:St->Hp->Prop
  rt:VK
  bk:St->Hp->Prop:=fun _ _=>False
  ct:St->Hp->Prop:=fun _ _=>False
abbrev TS:=Ends->St->Hp->Prop
def EP (X:Cx) (pins:List (Addr × Obj)) (σ:St) (Q:VK) (u:Value) (s':Shared):Prop:=∃ v H',Inv X pins σ H' s'/\RelV v u/\Q v H'
def TP (X:Cx) (pins:List (Addr × Obj)) (σ:St) (Q:Bool->Hp->Prop) (b:Bool) (s':Shared):Prop:=∃ H',Inv X pins σ H' s'/\Q b H'
def AP (X:Cx) (pins:List (Addr × Obj)) (σ:St) (Q:List V->Hp->Prop) (us:List Value) (s':Shared):Prop:=∃ vs H',Inv X pins σ H' s'/\Vals vs us/\Q vs H'
def SP (X:Cx) (pins:List (Addr × Obj)) (D:Ends) (f:Flow) (s':Shared):Prop :=
  match f with
  | .next=>∃ σ' H',Inv X pins σ' H' s'/\D.nx σ' H'
  | .brk=>∃ σ' H',Inv X pins σ' H' s'/\D.bk σ' H'
  | .cont=>∃ σ' H',Inv X pins σ' H' s'/\D.ct σ' H'
  | .ret u=>∃ v σ' H',Inv X pins σ' H' s'/\RelV v u/\D.rt v H'
def PE (X:Cx) (e:Expr) (t:TE):Prop :=
  ∀ (pins:List (Addr × Obj)) (s:Shared) (σ:St) (H:Hp) (Q:VK),Inv X pins σ H s->t σ H Q->wpAny (model X.prog X.w) X.A (eval e X.env) (EP X pins σ Q) X.xe s
def PT (X:Cx) (e:Expr) (t:TT):Prop :=
  ∀ (pins:List (Addr × Obj)) (s:Shared) (σ:St) (H:Hp) (Q:Bool->Hp->Prop),Inv X pins σ H s->t σ H Q->wpAny (model X.prog X.w) X.A (isTrue e X.env (eval e X.env)) (TP X pins σ Q) X.xe s
def PW (X:Cx) (e:Expr) (t:TT):Prop :=
  ∀ (whole:Sem Value) (pins:List (Addr × Obj)) (s:Shared) (σ:St) (H:Hp) (Q:Bool->Hp->Prop),Inv X pins σ H s->t σ H Q->wpAny (model X.prog X.w) X.A (isTrue e X.env whole) (TP X pins σ Q) X.xe s
theorem PW.pt {X:Cx} {e:Expr} {t:TT} (h:PW X e t):PT X e t:=h _
def PA (X:Cx) (es:List Expr) (t:TA):Prop :=
  ∀ (pos:Pos) (pins:List (Addr × Obj)) (s:Shared) (σ:St) (H:Hp) (Q:List V->Hp->Prop),Inv X pins σ H s->t σ H Q->wpAny (model X.prog X.w) X.A (spliced (backTo pos (starEach es X.env))) (AP X pins σ Q) X.xe s
def PS (X:Cx) (st:Stmt) (t:TS):Prop :=
  ∀ (pins:List (Addr × Obj)) (s:Shared) (σ:St) (H:Hp) (D:Ends),Inv X pins σ H s->t D σ H->wpAny (model X.prog X.w) X.A (exec st X.env) (SP X pins D) X.xe s
def PSs (X:Cx) (st:List Stmt) (t:TS):Prop :=
  ∀ (pins:List (Addr × Obj)) (s:Shared) (σ:St) (H:Hp) (D:Ends),Inv X pins σ H s->t D σ H->wpAny (model X.prog X.w) X.A (execs st X.env) (SP X pins D) X.xe s
theorem thn {α:Type} {t:Sem α} {Q Q':α->Shared->Prop} {M:Model} {A:Around} {E:Value->Shared->Prop} {s:Shared} (h:wpAny M A t Q E s) (hQ:∀ a s,Q a s->Q' a s):wpAny M A t Q' E s:=wpAny_mono h hQ fun _ _ x=>x
end L2
namespace L2
open PySem PySem.Spec PyProof.Rows
section
variable {X:Cx}
def tVar (i:Nat):TE:=fun σ H Q=>∃ v,σ[i]?=some (some v)/\Q v H
def tC (v:V):TE:=fun _ H Q=>Q v H
theorem pe_var {i:Nat} {x:Str} {pos:Pos} (hN:X.N[i]?=some x) (hv:Vis X.env.scope x) (hd:(x == ("__debug__":Str))=false:=by decide) (hcd:(x == ("__classdict__":Str))=false:=by decide):PE X (.Name x pos) (tVar i):=by
  intro pins s σ H Q I h
  obtain ⟨v,e,h⟩:=h
  obtain ⟨m,hn,hl⟩:=I.loc
  obtain ⟨u,r,l⟩:=hl i x v hN e hv
  have fin:EP X pins σ Q u s:=⟨v,H,I,r,h⟩
  rcases l with ⟨hk,hm⟩ | ⟨hk,c,hc,hcell⟩
  · exact wpAny_Name (wpAny_loadName_local I.ok.kind hk hn hm fin) hd
  · rcases hk with hk | hk
    · exact wpAny_Name (wpAny_loadName_cell I.ok.kind hk hc hcell fin) hd
    · exact wpAny_Name (wpAny_loadName_free I.ok.kind hk hc hcell fin hcd) hd
theorem pe_int {i j pos}:PE X (.Constant (.int i) j pos) (tC (.int i)):=fun _ _ _ H _ I h=>wpAny_Constant_int ⟨.int i,H,I.tok _,⟨_,rfl⟩,h⟩
theorem pe_bl {b j pos}:PE X (.Constant (.bool b) j pos) (tC (.bl b)):=fun _ _ _ H _ I h=>Constant_bool ⟨.bl b,H,I,rfl,h⟩
theorem pe_non {j pos}:PE X (.Constant .none j pos) (tC .non):=fun _ _ _ H _ I h=>Constant_none ⟨.non,H,I,rfl,h⟩
theorem pe_str {x j pos}:PE X (.Constant (.str x) j pos) (tC (.str x)):=fun _ _ _ H _ I h=>Calls.Constant_str ⟨.str x,H,I.tok _,⟨_,rfl⟩,h⟩
def Gl (X:Cx) (x:Str):Prop:=X.env.kindOf x=some .globalImplicit
theorem ld_glob {E:Value->Shared->Prop} {pins:List (Addr × Obj)} {s:Shared} {σ:St} {H:Hp} {x:Str} {u:Value} {pos:Pos} {Q:Value->Shared->Prop} (I:Inv X pins σ H s) (hg:Gl X x) (hm:X.mg x=some u) (h:Q u s)
    (hd:(x == ("__debug__":Str))=false:=by decide):wpAny (model X.prog X.w) X.A (eval (.Name x pos) X.env) Q E s :=
  Calls.Name_function_global I.ok.kind hg (Calls.loadGlobal_global (by rw [I.ok.glob]; exact I.mod.glob.keeps I.bk) hm h) hd
theorem ld_blt {E:Value->Shared->Prop} {pins:List (Addr × Obj)} {s:Shared} {σ:St} {H:Hp} {x:Str} {u:Value} {pos:Pos} {Q:Value->Shared->Prop} (I:Inv X pins σ H s) (hg:Gl X x) (hm:X.mg x=none) (hv:bootBuiltins x=some u) (h:Q u s)
    (hn:x≠"__name__":=by decide) (hd:(x == ("__debug__":Str))=false:=by decide):wpAny (model X.prog X.w) X.A (eval (.Name x pos) X.env) Q E s:=by
  obtain ⟨mb,h1,h2⟩:=I.mod.blt
  exact Calls.Name_function_global I.ok.kind hg (Calls.loadGlobal_builtin (by rw [I.ok.glob]; exact I.mod.glob.keeps I.bk) hm (by rw [I.ok.blt]; exact h1.keeps I.bk) ((h2 x hn).trans hv) h) hd
theorem pe_glob {x:Str} {v:V} {u:Value} {pos:Pos} (hg:Gl X x) (hm:X.mg x=some u) (r:RelV v u) (hd:(x == ("__debug__":Str))=false:=by decide):PE X (.Name x pos) (tC v) :=
  fun _ _ _ H _ I h=>ld_glob I hg hm ⟨v,H,I,r,h⟩ hd
theorem pe_bltn {x:Str} {v:V} {u:Value} {pos:Pos} (hg:Gl X x) (hm:X.mg x=none) (hv:bootBuiltins x=some u) (r:RelV v u) (hn:x≠"__name__":=by decide) (hd:(x == ("__debug__":Str))=false:=by decide):PE X (.Name x pos) (tC v) :=
  fun _ _ _ H _ I h=>ld_blt I hg hm hv ⟨v,H,I,r,h⟩ hn hd
variable {a b:Expr} {ta tb:TE} {pos:Pos}
def tB (t:TE):TT:=fun σ H Q=>t σ H fun x H1=>∃ c,x=.bl c/\Q c H1
theorem pt_val {e:Expr} {t:TE} (h:PE X e t) (he:∀ whole,isTrue e X.env whole=(do let v <- whole; standAt e.pos; holding [v] (truthy v)):=by intro _; rfl):PT X e (tB t):=by
  intro pins s σ H Q I hw
  refine isTrue_plain (thn (h pins s σ H _ I hw) fun v s1 ⟨x,H1,I1,r1,q1⟩=>?_) (he _)
  obtain ⟨d,rfl,q⟩:=q1
  cases r1
  exact wpAny_truthy_bool ⟨H1,I1,q⟩
variable {tA tB':TT} {rest:List Expr}
def tAnd (t u:TT):TT:=fun σ H Q=>t σ H fun c H1=>if c=true then u σ H1 Q else Q false H1
def tOr (t u:TT):TT:=fun σ H Q=>t σ H fun c H1=>if c=true then Q true H1 else u σ H1 Q
def tNot (t:TT):TT:=fun σ H Q=>t σ H fun c H1=>Q (!c) H1
theorem pw_and1 (ha:PT X a tA):PW X (.BoolOp .And [a] pos) tA:=by
  intro wh pins s σ H Q I h
  refine isTrue_and (thn (ha pins s σ H Q I h) fun c s1 e=>?_)
  cases c with
  | true=>exact isTrue_and_nil e
  | false=>exact e
theorem pw_or1 (ha:PT X a tA):PW X (.BoolOp .Or [a] pos) tA:=by
  intro wh pins s σ H Q I h
  refine isTrue_or (thn (ha pins s σ H Q I h) fun c s1 e=>?_)
  cases c with
  | false=>exact isTrue_or_nil e
  | true=>exact e
theorem pw_and (ha:PT X a tA) (hb:PW X (.BoolOp .And (b :: rest) pos) tB'):PW X (.BoolOp .And (a :: b :: rest) pos) (tAnd tA tB'):=by
  intro wh pins s σ H Q I h
  refine isTrue_and (thn (ha pins s σ H _ I h) fun c s1 ⟨H1,I1,q1⟩=>?_)
  cases c with
  | true=>exact hb wh pins s1 σ H1 Q I1 q1
  | false=>exact ⟨H1,I1,q1⟩
theorem pw_or (ha:PT X a tA) (hb:PW X (.BoolOp .Or (b :: rest) pos) tB'):PW X (.BoolOp .Or (a :: b :: rest) pos) (tOr tA tB'):=by
  intro wh pins s σ H Q I h
  refine isTrue_or (thn (ha pins s σ H _ I h) fun c s1 ⟨H1,I1,q1⟩=>?_)
  cases c with
  | true=>exact ⟨H1,I1,q1⟩
  | false=>exact hb wh pins s1 σ H1 Q I1 q1
theorem pt_not (ha:PT X a tA):PT X (.UnaryOp .Not a pos) (tNot tA):=by
  intro pins s σ H Q I h
  exact isTrue_not (ha pins s σ H (fun c H1=>Q (!c) H1) I h)
def tAndV (ta tb:TE):TE:=fun σ H Q=>ta σ H fun x H1=>∃ c,x=.bl c/\if c=true then tb σ H1 Q else Q (.bl false) H1
def tNotV (ta:TE):TE:=fun σ H Q=>ta σ H fun x H1=>∃ c,x=.bl c/\Q (.bl (!c)) H1
theorem pe_one {op} {t:TE} (h:PE X a t):PE X (.BoolOp op [a] pos) t:=fun pins s σ H Q I hw=>BoolOp_one (h pins s σ H Q I hw)
theorem pe_and (ha:PE X a ta) (hb:PE X (.BoolOp .And (b :: rest) pos) tb):PE X (.BoolOp .And (a :: b :: rest) pos) (tAndV ta tb):=by
  intro pins s σ H Q I h
  refine BoolOp_and (thn (ha pins s σ H _ I h) fun v s1 ⟨x,H1,I1,r1,q1⟩=>?_)
  obtain ⟨c,rfl,q1⟩:=q1
  cases r1
  refine wpAny_truthy_bool ?_
  cases c with
  | true=>exact hb pins s1 σ H1 Q I1 q1
  | false=>exact ⟨.bl false,H1,I1,rfl,q1⟩
theorem pe_not (ha:PE X a ta):PE X (.UnaryOp .Not a pos) (tNotV ta):=by
  intro pins s σ H Q I h
  refine UnaryOp_ (thn (ha pins s σ H _ I h) fun v s1 ⟨x,H1,I1,r1,q1⟩=>?_)
  obtain ⟨c,rfl,q1⟩:=q1
  cases r1
  exact not_of (wpAny_truthy_bool ⟨.bl (!c),H1,I1,rfl,q1⟩)
end
end L2
namespace L2
open PySem PySem.Spec PyProof.Rows
def SqL (K:PySem.W.Frag) (H:Hp) (a:Addr) (xs:List V):Prop :=
  Rd H a (.lst xs) \/
    ∃ (o:Obj) (its:Array Value) (n:Nat),K.lookup a=some o/\o.cls=.type "list"/\o.dict=none/\o.data=.seq its n/\its.size<=sizeLine/\Vals xs its.toList
def SqT (K:PySem.W.Frag) (H:Hp) (a:Addr) (xs:List V):Prop :=
  Rd H a (.tup xs) \/
    ∃ (o:Obj) (its:Array Value) (n:Nat),K.lookup a=some o/\o.cls=.type "tuple"/\o.data=.seq its n/\its.size<=sizeLine/\Vals xs its.toList
def absV:Value->Option V
  | .none=>some .non
  | .bool b=>some (.bl b)
  | .int i _=>some (.int i)
  | .str x _=>some (.str x)
  | .bytes b _=>some (.byt b)
  | .float b _=>some (.flt b)
  | .ref a=>some (.ref a)
  | .type n=>some (.ty n)
  | _=>none
theorem RelV.abs {x:V} {u:Value} (r:RelV x u):absV u=some x:=by
  cases x with
  | non=>cases r; rfl
  | bl _=>cases r; rfl
  | int _=>obtain ⟨t,rfl⟩:=r; rfl
  | str _=>obtain ⟨t,rfl⟩:=r; rfl
  | byt _=>obtain ⟨t,rfl⟩:=r; rfl
  | flt _=>obtain ⟨t,rfl⟩:=r; rfl
  | ref _=>cases r; rfl
  | ty _=>cases r; rfl
theorem RelV.inj {x y:V} {u:Value} (r:RelV x u) (q:RelV y u):x=y:=Option.some.inj (r.abs.symm.trans q.abs)
theorem Vals.inj:∀ {xs ys:List V} {us:List Value},Vals xs us->Vals ys us->xs=ys
  | _,_,_,.nil,.nil=>rfl
  | _,_,_,.cons r t,.cons r' t'=>by rw [r.inj r',Vals.inj t t']
section
variable {X:Cx} {pins:List (Addr × Obj)} {σ:St} {H:Hp} {s:Shared} {a:Addr} {xs ys:List V}
theorem SqL.of {K:PySem.W.Frag} (h:H a=some (.lst xs)):SqL K H a xs:=.inl (.inl h)
theorem SqT.of {K:PySem.W.Frag} (h:H a=some (.tup xs)):SqT K H a xs:=.inl (.inl h)
theorem Inv.list (I:Inv X pins σ H s) (h:SqL X.K H a xs):∃ its:List Value,Vals xs its/\PlainL s.heap a its.toArray/\xs.length<=sizeLine:=by
  rcases h with h | ⟨o,its,n,hk,hc,hd,hs,hz,r⟩
  · obtain ⟨z,its,n,r,e⟩:=h.ok I.hok
    exact ⟨its,r,⟨_,n,e,rfl,rfl,rfl⟩,z⟩
  · refine ⟨its.toList,r,⟨o,n,I.kIn a o hk,hc,hd,by simpa using hs⟩,?_⟩
    have e:=r.length
    simp only [Array.length_toList] at e
    lia
theorem Inv.tuple (I:Inv X pins σ H s) (h:SqT X.K H a xs):∃ its:List Value,Vals xs its/\IsTup s.heap a its.toArray/\xs.length<=sizeLine:=by
  rcases h with h | ⟨o,its,n,hk,hc,hs,hz,r⟩
  · obtain ⟨z,its,r,p⟩:=h.ok I.hok
    exact ⟨its,r,p.is,z⟩
  · refine ⟨its.toList,r,⟨o,I.kIn a o hk,hc,n,by simpa using hs⟩,?_⟩
    have e:=r.length
    simp only [Array.length_toList] at e
    lia
theorem Inv.list_inj (I:Inv X pins σ H s) (h:SqL X.K H a xs) (h':SqL X.K H a ys):xs=ys:=by
  obtain ⟨its,r,⟨o,n,e,_,_,d⟩,_⟩:=I.list h
  obtain ⟨its',r',⟨o',n',e',_,_,d'⟩,_⟩:=I.list h'
  rw [e] at e'; cases e'
  rw [d] at d'
  injection d' with d1 _
  have:its=its':=by simpa using congrArg Array.toList d1
  subst this
  exact r.inj r'
theorem Inv.tuple_inj (I:Inv X pins σ H s) (h:SqT X.K H a xs) (h':SqT X.K H a ys):xs=ys:=by
  obtain ⟨its,r,⟨o,e,_,n,d⟩,_⟩:=I.tuple h
  obtain ⟨its',r',⟨o',e',_,n',d'⟩,_⟩:=I.tuple h'
  rw [e] at e'; cases e'
  rw [d] at d'
  injection d' with d1 _
  have:its=its':=by simpa using congrArg Array.toList d1
  subst this
  exact r.inj r'
end
abbrev Cx.wish (X:Cx) (E:Value->Shared->Prop):Cx:={ X with xe:=E }
abbrev Cx.nox (X:Cx):Cx:=X.wish fun _ _=>False
theorem Cx.Ok.wish {X:Cx} (ok:X.Ok) (E:Value->Shared->Prop):(X.wish E).Ok :=
  ⟨ok.mod,ok.kind,ok.glob,ok.blt,ok.above,ok.inj,ok.has,ok.cab,ok.hd,ok.frames,ok.stk,ok.exf,ok.bs,ok.bsz,ok.noex,ok.exfs,ok.funs,ok.frf⟩
theorem Cx.Ok.unwish {X:Cx} {E:Value->Shared->Prop} (ok:(X.wish E).Ok):X.Ok :=
  ⟨ok.mod,ok.kind,ok.glob,ok.blt,ok.above,ok.inj,ok.has,ok.cab,ok.hd,ok.frames,ok.stk,ok.exf,ok.bs,ok.bsz,ok.noex,ok.exfs,ok.funs,ok.frf⟩
section
variable {X:Cx} {pins:List (Addr × Obj)} {σ:St} {H:Hp} {s:Shared} {E:Value->Shared->Prop}
theorem Inv.wish (I:Inv X pins σ H s) (E:Value->Shared->Prop):Inv (X.wish E) pins σ H s:=⟨I.ok.wish E,I.os,I.bare,I.base,I.loc,I.cell,I.free,I.freeC,I.pin,I.hok,I.len⟩
theorem Inv.unwish (I:Inv (X.wish E) pins σ H s):Inv X pins σ H s:=⟨I.ok.unwish,I.os,I.bare,I.base,I.loc,I.cell,I.free,I.freeC,I.pin,I.hok,I.len⟩
theorem SP.unwish {D:Ends} {f:Flow} {s':Shared} (h:SP (X.wish E) pins D f s'):SP X pins D f s':=by
  cases f with
  | next=>obtain ⟨σ',H',I,q⟩:=h; exact ⟨σ',H',I.unwish,q⟩
  | brk=>obtain ⟨σ',H',I,q⟩:=h; exact ⟨σ',H',I.unwish,q⟩
  | cont=>obtain ⟨σ',H',I,q⟩:=h; exact ⟨σ',H',I.unwish,q⟩
  | ret u=>obtain ⟨v,σ',H',I,r,q⟩:=h; exact ⟨v,σ',H',I.unwish,r,q⟩
theorem PE.nox {e:Expr} {t:TE} (h:PE X.nox e t):PE X e t:=fun pins s σ H Q I hw =>
  wpAny_mono (h pins s σ H Q (I.wish _) hw) (fun _ _ ⟨v,H',I',r,q⟩=>⟨v,H',I'.unwish,r,q⟩) fun _ _ z=>False.elim z
theorem PT.nox {e:Expr} {t:TT} (h:PT X.nox e t):PT X e t:=fun pins s σ H Q I hw =>
  wpAny_mono (h pins s σ H Q (I.wish _) hw) (fun _ _ ⟨H',I',q⟩=>⟨H',I'.unwish,q⟩) fun _ _ z=>False.elim z
theorem PSs.nox {st:List Stmt} {t:TS} (h:PSs X.nox st t):PSs X st t:=fun pins s σ H D I hw =>
  wpAny_mono (h pins s σ H D (I.wish _) hw) (fun _ _ q=>q.unwish) fun _ _ z=>False.elim z
end
section
variable {X:Cx} {st:Stmt} {rest:List Stmt} {t u:TS} {e:Expr} {te:TE} {pos:Pos}
def tNext:TS:=fun D σ H=>D.nx σ H
def tSeq (t u:TS):TS:=fun D σ H=>t { D with nx:=u D } σ H
theorem pss_nil:PSs X [] tNext:=fun _ _ σ H _ I h=>wpAny_execs_nil ⟨σ,H,I,h⟩
theorem pss_cons (h1:PS X st t) (h2:PSs X rest u):PSs X (st :: rest) (tSeq t u):=by
  intro pins s σ H D I h
  refine wpAny_execs_cons (thn (h1 pins s σ H { D with nx:=u D } I h) fun f s1 q=>?_)
  cases f with
  | next =>
    obtain ⟨σ',H',I',q⟩:=q
    exact h2 pins s1 σ' H' D I' q
  | ret v=>exact q
  | brk=>exact q
  | cont=>exact q
theorem pss_one (h1:PS X st t):PSs X [st] t:=by
  intro pins s σ H D I h
  refine wpAny_execs_cons (thn (h1 pins s σ H D I h) fun f s1 q=>?_)
  cases f with
  | next=>exact wpAny_execs_nil q
  | ret v=>exact q
  | brk=>exact q
  | cont=>exact q
theorem Inv.quiet {pins:List (Addr × Obj)} {σ:St} {H:Hp} {s:Shared} (I:Inv X pins σ H s):interactive X.env=false:=by simp [interactive,I.ok.kind]
def tDrop (te:TE):TS:=fun D σ H=>te σ H fun _ H1=>D.nx σ H1
theorem ps_expr (he:PE X e te) (hs:swapsWith e none pos.line X.env=pure false:=by rfl):PS X (.Expr e pos) (tDrop te):=by
  intro pins s σ H D I h
  exact wpAny_Expr_any (thn (he pins s σ H _ I h) fun v s1 ⟨x,H1,I1,r1,q1⟩=>⟨σ,H1,I1,q1⟩) I.quiet hs
def tRet (te:TE):TS:=fun D σ H=>te σ H D.rt
theorem ps_ret (he:PE X e te):PS X (.Return (some e) pos) (tRet te):=by
  intro pins s σ H D I h
  exact wpAny_Return_some (thn (he pins s σ H _ I h) fun v s1 ⟨x,H1,I1,r1,q1⟩=>⟨x,σ,H1,I1,r1,q1⟩)
def tIfS (c:TT) (t u:TS):TS:=fun D σ H=>c σ H fun b H1=>if b=true then t D σ H1 else u D σ H1
theorem ps_if {c:Expr} {a b:List Stmt} {tc:TT} (hc:PT X c tc) (ha:PSs X a t) (hb:PSs X b u):PS X (.If c a b pos) (tIfS tc t u):=by
  intro pins s σ H D I h
  refine wpAny_If (thn (hc pins s σ H _ I h) fun d s1 ⟨H1,I1,q1⟩=>?_)
  cases d with
  | true=>exact ha pins s1 σ H1 D I1 q1
  | false=>exact hb pins s1 σ H1 D I1 q1
end
abbrev TG:=V->St->Hp->(St->Hp->Prop)->Prop
abbrev TGs:=List V->St->Hp->(St->Hp->Prop)->Prop
def PG (X:Cx) (target:Expr) (t:TG):Prop :=
  ∀ (pins:List (Addr × Obj)) (s:Shared) (σ:St) (H:Hp) (v:V) (u:Value) (Q:St->Hp->Prop),Inv X pins σ H s->RelV v u->t v σ H Q ->
    wpAny (model X.prog X.w) X.A (assign target X.env u) (fun _ s'=>∃ σ' H',Inv X pins σ' H' s'/\Q σ' H') X.xe s
def PGs (X:Cx) (ts:List Expr) (t:TGs):Prop :=
  ∀ (pins:List (Addr × Obj)) (s:Shared) (σ:St) (H:Hp) (vs:List V) (us:List Value) (Q:St->Hp->Prop),Inv X pins σ H s->Vals vs us->t vs σ H Q ->
    wpAny (model X.prog X.w) X.A (assignInOrder ((assignEach ts X.env).map (·.2)) us) (fun _ s'=>∃ σ' H',Inv X pins σ' H' s'/\Q σ' H') X.xe s
abbrev TSet:=V->V->V->Hp->(Hp->Prop)->Prop
def PSet (X:Cx) (t:TSet):Prop :=
  ∀ (pins:List (Addr × Obj)) (s:Shared) (σ:St) (H:Hp) (o i v:V) (ov iv u:Value) (Q:Hp->Prop),Inv X pins σ H s->RelV o ov->RelV i iv->RelV v u->t o i v H Q ->
    wpAny (model X.prog X.w) X.A (setItem ov iv u) (fun _ s'=>∃ H',Inv X pins σ H' s'/\Q H') X.xe s
section
variable {X:Cx} {pos:Pos}
def gName (i:Nat):TG:=fun v σ H Q=>Q (σ.set i (some v)) H
theorem pg_name {i:Nat} {x:Str} (hN:X.N.Nodup) (hi:X.N[i]?=some x) (hx:Loc X.env.scope x) (hf:X.fn x=true\/X.env.scope.names.lookup x=some .local:=by first | exact .inl rfl | exact .inr rfl | assumption):PG X (.Name x pos) (gName i):=by
  intro pins s σ H v u Q I r h
  exact wpAny_assign_Name (store_ok I hN hi hx r (fun s' I'=>⟨_,H,I',h⟩) hf)
def gNil:TGs:=fun vs σ H Q=>vs=[]/\Q σ H
def gCons (t:TG) (u:TGs):TGs:=fun vs σ H Q=>∃ v r,vs=v :: r/\t v σ H fun σ' H'=>u r σ' H' Q
theorem pgs_nil:PGs X [] gNil:=by
  intro pins s σ H vs us Q I r h
  obtain ⟨e,h⟩:=h
  subst e
  cases r
  exact assignInOrder_nil ⟨σ,H,I,h⟩
theorem pgs_cons {e:Expr} {es:List Expr} {t:TG} {u:TGs} (h1:PG X e t) (h2:PGs X es u)
    (hs:(assignEach (e :: es) X.env).map (·.2)=assign e X.env :: (assignEach es X.env).map (·.2):=by rfl):PGs X (e :: es) (gCons t u):=by
  intro pins s σ H vs us Q I r h
  obtain ⟨v,vr,e1,h⟩:=h
  subst e1
  cases r with
  | cons r rr =>
    rw [hs]
    refine assignInOrder_cons (thn (h1 pins s σ H _ _ _ I r h) fun _ s1 ⟨σ1,H1,I1,q1⟩=>?_)
    exact h2 pins s1 σ1 H1 _ _ Q I1 rr q1
def gTup (K:PySem.W.Frag) (n:Nat) (t:TGs):TG:=fun v σ H Q=>∃ a xs,v=.ref a/\SqT K H a xs/\xs.length=n/\t xs σ H Q
theorem pg_tup {es:List Expr} {k:Nat} {t:TGs} {n:Nat} (hc:X.calm=true) (h:PGs X es t)
    (hn:(assignEach es X.env).length=n:=by rfl) (hst:(assignEach es X.env).findIdx? (·.1)=none:=by rfl):PG X (.Tuple es k pos) (gTup X.K n t):=by
  intro pins s σ H v u Q I r hw
  obtain ⟨a,xs,e1,hq,hl,hw⟩:=hw
  subst e1
  cases r
  obtain ⟨its,rv,ht,hz⟩:=I.tuple hq
  refine assign_Tuple_tuple (I.ok.hd hc) ht (by simp [hn,<- hl,rv.length]) hst fun h' hx=>?_
  have I1:Inv X pins σ H { s with heap:=h' }:=I.kept (t':=s.toks) fun b o e=>hx b o (Nat.ne_of_lt (Heap.lt_size e)) e
  exact h pins _ σ H xs _ Q I1 (by simpa using rv) hw
def gSub (to ti:TE) (t:TSet):TG:=fun v σ H Q=>to σ H fun o H1=>ti σ H1 fun i H2=>t o i v H2 fun H3=>Q σ H3
theorem pg_sub {o i:Expr} {to ti:TE} {t:TSet} (ho:PE X o to) (hi:PE X i ti) (hs:PSet X t)
    (ha:∀ v,assign (.Subscript o i pos) X.env v=(do
      let ov <- holding [v] (eval o X.env)
      let iv <- holding [v,ov] (eval i X.env)
      standAt pos
      holding [v,ov,iv] (setItem ov iv v)
      release [v,ov,iv] []):=by intro _; rfl):PG X (.Subscript o i pos) (gSub to ti t):=by
  intro pins s σ H v u Q I r h
  rw [ha]
  refine wpAny_bind (wpAny_holding (thn (ho pins s σ H _ I h) fun ov s1 ⟨x,H1,I1,r1,q1⟩=>?_))
  refine wpAny_bind (wpAny_holding (thn (hi pins s1 σ H1 _ I1 q1) fun iv s2 ⟨y,H2,I2,r2,q2⟩=>?_))
  refine wpAny_bind (wpAny_standAt (wpAny_bind (wpAny_holding (thn (hs pins s2 σ H2 x y v ov iv u _ I2 r1 r2 r q2) fun _ s3 ⟨H3,I3,q3⟩=>?_))))
  exact wpAny_release ⟨σ,H3,I3,q3⟩
def tAsg (te:TE) (g:TG):TS:=fun D σ H=>te σ H fun x H1=>g x σ H1 D.nx
theorem ps_asg {tg e:Expr} {te:TE} {g:TG} (he:PE X e te) (hg:PG X tg g) (hs:swapsWithSole [tg] e pos.line X.env=pure false:=by rfl) (hw:swappedStores [tg] e X.env=pure none:=by rfl)
    (h1:(assignEach [tg] X.env).map (·.2)=[assign tg X.env]:=by rfl):PS X (.Assign [tg] e pos) (tAsg te g):=by
  intro pins s σ H D I h
  refine wpAny_Assign_stores (thn (he pins s σ H _ I h) fun v s1 ⟨x,H1,I1,r1,q1⟩=>?_) hs hw
  rw [h1]
  exact thn (hg pins s1 σ H1 x v _ I1 r1 q1) fun _ s2 q=>q
theorem ps_set {i:Nat} {x:Str} {e:Expr} {te:TE} {pos':Pos} (hN:X.N.Nodup) (hi:X.N[i]?=some x) (hx:Loc X.env.scope x) (he:PE X e te) (hs:swapsWith e (some (.Name x pos')) pos.line X.env=pure false:=by rfl) (hf:X.fn x=true\/X.env.scope.names.lookup x=some .local:=by first | exact .inl rfl | exact .inr rfl | assumption) :
    PS X (.Assign [.Name x pos'] e pos) (tAsg te (gName i)):=by
  intro pins s σ H D I h
  refine wpAny_Assign_Name (thn (he pins s σ H _ I h) fun v s1 ⟨y,H1,I1,r1,q1⟩=>?_) hs
  exact store_ok I1 hN hi hx r1 (fun s2 I2=>⟨_,H1,I2,q1⟩) hf
end
section
variable {X:Cx} {pos:Pos}
def tWhile (c:TT) (tb:TS):TS:=fun D σ H=>∃ W:Nat->St->Hp->Prop,(∃ m,W m σ H)/\∀ m σ H,W m σ H ->
  c σ H fun b H1=>if b=true then ∃ N:St->Hp->Prop,(∀ σ' H',N σ' H'->∃ m',m' < m/\W m' σ' H')/\tb { D with nx:=N,ct:=N,bk:=D.nx } σ H1 else D.nx σ H1
theorem ps_while {c:Expr} {body:List Stmt} {tc:TT} {tb:TS} (hp:PassesOwn (model X.prog X.w) X.A X.env X.xe) (hc:PT X c tc) (hb:PSs X body tb):PS X (.While c body [] pos) (tWhile tc tb):=by
  intro pins s σ H D I h
  obtain ⟨W,⟨m0,w0⟩,turn⟩:=h
  refine wpAny_While (codeAny_whileLoop (fun n s'=>∃ σ' H',Inv X pins σ' H' s'/\W n σ' H') ?_ m0 ⟨σ,H,I,w0⟩)
  rintro n s1 ⟨σ1,H1,I1,w1⟩
  refine wpAny_passesOwn hp (thn (hc pins s1 σ1 H1 _ I1 (turn n σ1 H1 w1)) fun b s2 ⟨H2,I2,q2⟩=>?_)
  cases b with
  | true =>
    obtain ⟨N,hN,q2⟩:=q2
    rw [if_pos rfl]
    refine wpAny_passesOwn hp (thn (hb pins s2 σ1 H2 _ I2 q2) fun f s3 q3=>?_)
    cases f with
    | next =>
      obtain ⟨σ3,H3,I3,n3⟩:=q3
      obtain ⟨m',hm,w3⟩:=hN σ3 H3 n3
      exact ⟨m',hm,σ3,H3,I3,w3⟩
    | cont =>
      obtain ⟨σ3,H3,I3,n3⟩:=q3
      obtain ⟨m',hm,w3⟩:=hN σ3 H3 n3
      exact ⟨m',hm,σ3,H3,I3,w3⟩
    | brk=>exact q3
    | ret v=>exact q3
  | false =>
    rw [if_neg Bool.false_ne_true]
    exact wpAny_execs_nil ⟨σ1,H2,I2,q2⟩
end
structure It where
  go:Nat->Hp->Prop
  yld:Nat->Hp->V->Hp->Prop
  stop:Nat->Hp->Prop
def FpOk (X:Cx) (pins:List (Addr × Obj)) (H:Hp) (b:Addr):Prop :=
  H b=none/\b≠X.env.locals/\b ∉ X.fs/\(b∈X.ex\/X.s₀.heap.objs.size<=b)/\(∀ x c,X.env.cells.lookup x=some c->c≠b)/\∀ p∈X.pn ++ pins,p.1≠b
theorem Inv.fpOk {X:Cx} {pins:List (Addr × Obj)} {σ:St} {H H':Hp} {s:Shared} {b:Addr} (I:Inv X pins σ H s) (hb:s.heap.objs.size<=b) (hn:H' b=none):FpOk X pins H' b:=by
  refine ⟨hn,Nat.ne_of_gt (Nat.lt_of_lt_of_le I.lt hb),I.nofs hb,.inr (Nat.le_trans I.sz hb),fun x c e z=>?_,fun p hp z=>?_⟩
  · obtain ⟨v,q⟩:=I.cell x c e
    exact absurd (Nat.lt_of_lt_of_le q.lt (by rw [z]; exact hb)) (Nat.lt_irrefl _)
  · exact absurd (Nat.lt_of_lt_of_le (Heap.lt_size (I.pin p hp).1) (by rw [z]; exact hb)) (Nat.lt_irrefl _)
structure Turn (P:Program) (w:World) (K:PySem.W.Frag) (tg:Expr) (J:It) (fp:List Addr) (it:Addr) (tn:Nat->Heap->Prop):Prop where
  mem:it∈fp
  obj:∀ i h,tn i h->∀ b∈fp,∃ o,h.get? b=some o/\∀ v,o.data≠.cell v
  keep:∀ i h h',tn i h->(∀ b∈fp,∀ o,h.get? b=some o->h'.get? b=some o)->tn i h'
  item:∀ (X:Cx),X.prog=P->X.w=w->X.K=K->X.calm=true->∀ (i:Nat) (pins:List (Addr × Obj)) (s:Shared) (σ:St) (H:Hp) (E:Value->Shared->Prop),Inv X pins σ H s->(∀ b∈fp,FpOk X pins H b)->tn i s.heap->J.go i H ->
    wpAny (model P w) X.A (pyNext (.ref it)) (fun r s1=>∃ u,r=some u /\
      wpAny (model P w) X.A (letOwnedTupleGo tg (.ref it) u) (fun _ s2=>∃ x H',Inv X pins σ H' s2/\RelV x u/\J.yld i H x H'/\tn (i + 1) s2.heap/\∀ b∈fp,H' b=none) E s1) E s
  done:∀ (X:Cx),X.prog=P->X.w=w->X.K=K->X.calm=true->∀ (i:Nat) (pins:List (Addr × Obj)) (s:Shared) (σ:St) (H:Hp) (E:Value->Shared->Prop),Inv X pins σ H s->(∀ b∈fp,FpOk X pins H b)->tn i s.heap->J.stop i H ->
    wpAny (model P w) X.A (pyNext (.ref it)) (fun r s1=>r=none/\Inv X pins σ H s1) E s
  self:∀ (A:Around) (i:Nat) (s:Shared) (Q:Value->Shared->Prop) (E:Value->Shared->Prop),tn i s.heap->Q (.ref it) s->wpAny (model P w) A (pyIter (.ref it)) Q E s
abbrev TI:=St->Hp->(It->Hp->Prop)->Prop
def PIE (X:Cx) (pins:List (Addr × Obj)) (σ:St) (tg:Expr) (R:It->Hp->Prop) (itv:Value) (s2:Shared):Prop :=
  ∃ (it:Addr) (fp:List Addr) (tn:Nat->Heap->Prop) (J:It) (H':Hp),itv=.ref it/\Inv X pins σ H' s2/\Turn X.prog X.w X.K tg J fp it tn/\tn 0 s2.heap/\(∀ b∈fp,FpOk X pins H' b)/\R J H'
def PI (X:Cx) (tg iter:Expr) (wi:TI):Prop :=
  ∀ (pins:List (Addr × Obj)) (s:Shared) (σ:St) (H:Hp) (R:It->Hp->Prop),Inv X pins σ H s->wi σ H R ->
    wpAny (model X.prog X.w) X.A (eval iter X.env) (fun v s1=>wpAny (model X.prog X.w) X.A (pyIter v) (PIE X pins σ tg R) X.xe s1) X.xe s
theorem go_of {M:Model} {A:Around} {E:Value->Shared->Prop} {s:Shared} {tg:Expr} {it:Addr} {u:Value} {o:Obj} {n:String} {vs:Array Value} {Q:Unit->Shared->Prop} (ho:s.heap.get? it=some o) (hc:o.cls=.type n) (hd:o.data=.fields vs)
    (hn:["enumerate","zip","dict_itemiterator","dict_reverseitemiterator","odict_iterator","itertools.zip_longest","itertools.pairwise"].contains n=false) (hQ:Q () s):wpAny M A (letOwnedTupleGo tg (.ref it) u) Q E s:=by
  unfold letOwnedTupleGo
  cases tg <;> first
    | exact wpAny_pure hQ
    | (cases u <;> first
        | exact wpAny_pure hQ
        | (refine wpAny_bind (wpAny_load ho ?_)
           rw [hc,hd]
           show wpAny M A (if (["enumerate","zip","dict_itemiterator","dict_reverseitemiterator","odict_iterator","itertools.zip_longest","itertools.pairwise"].contains n && vs[0]? == some (rawInt _))=true then _ else _) Q E s
           rw [if_neg (by intro h; rw [hn,Bool.false_and] at h; cases h)]
           exact wpAny_pure hQ))
def Itl (K:PySem.W.Frag) (a:Addr):It :=
  ⟨fun i H=>∃ xs x,SqL K H a xs/\xs[i]?=some x,fun i H x H'=>H'=H/\∀ xs,SqL K H a xs->xs[i]?=some x,fun i H=>∃ xs,SqL K H a xs/\xs.length<=i⟩
def Itt (K:PySem.W.Frag) (a:Addr):It :=
  ⟨fun i H=>∃ xs x,SqT K H a xs/\xs[i]?=some x,fun i H x H'=>H'=H/\∀ xs,SqT K H a xs->xs[i]?=some x,fun i H=>∃ xs,SqT K H a xs/\xs.length<=i⟩
def Itr (lo:Int) (n:Nat):It:=⟨fun i _=>i < n,fun i H x H'=>H'=H/\x=.int (lo + i),fun i _=>n<=i⟩
theorem turn_list {P:Program} {w:World} {K:PySem.W.Frag} {tg:Expr} (a it:Addr):Turn P w K tg (Itl K a) [it] it (fun i h=>h.IsListIter it a i) where
  mem:=by simp
  obj:=fun i h st b hb=>by
    have e:b=it:=by simpa using hb
    subst e
    obtain ⟨o,e,c,d⟩:=st
    exact ⟨o,e,fun v z=>by rw [d] at z; cases z⟩
  keep:=fun i h h' st k=>st.at fun o e=>k it (by simp) o e
  item:=by
    intro X hP hw hK hc i pins s σ H E I hf st hg
    subst hP hw hK
    obtain ⟨xs,x,hq,hx⟩:=hg
    obtain ⟨its,rv,p,hz⟩:=I.list hq
    obtain ⟨u,hu,ru⟩:=rv.get hx
    obtain ⟨f0,f1,f2,f3,f4,f5⟩:=hf it (by simp)
    refine wpAny_pyNext_list_item st p.isList (x:=u) (by simpa using hu) fun h' st' sb=>?_
    have I1:Inv X pins σ H { s with heap:=h' }:=I.turned (t':=s.toks) (fun b o hb e=>(sb.2 b hb).trans e) f0 f1 f3 f4 f5
    obtain ⟨o,e,c,d⟩:=id st'
    exact ⟨u,rfl,go_of (s:={ s with heap:=h' }) e c d (by decide) ⟨x,H,I1,ru,⟨rfl,fun ys hy=>by rw [I.list_inj hy hq]; exact hx⟩,st',fun b hb=>(hf b hb).1⟩⟩
  done:=by
    intro X hP hw hK hc i pins s σ H E I hf st hg
    subst hP hw hK
    obtain ⟨xs,hq,hx⟩:=hg
    obtain ⟨its,rv,p,hz⟩:=I.list hq
    obtain ⟨f0,f1,f2,f3,f4,f5⟩:=hf it (by simp)
    have hl:=rv.length
    exact wpAny_pyNext_list_end (I.ok.hd hc) st p.isList (by simp; lia) fun h' eb=>⟨rfl,I.turned (t':=s.toks) (fun b o hb e=>eb b o hb e) f0 f1 f3 f4 f5⟩
  self:=fun _ _ _ _ _ st h=>wpAny_pyIter_listiter st h
theorem turn_tuple {P:Program} {w:World} {K:PySem.W.Frag} {tg:Expr} (a it:Addr):Turn P w K tg (Itt K a) [it] it (fun i h=>h.IsTupleIter it a i) where
  mem:=by simp
  obj:=fun i h st b hb=>by
    have e:b=it:=by simpa using hb
    subst e
    obtain ⟨o,e,c,d⟩:=st
    exact ⟨o,e,fun v z=>by rw [d] at z; cases z⟩
  keep:=fun i h h' st k=>st.at fun o e=>k it (by simp) o e
  item:=by
    intro X hP hw hK hc i pins s σ H E I hf st hg
    subst hP hw hK
    obtain ⟨xs,x,hq,hx⟩:=hg
    obtain ⟨its,rv,p,hz⟩:=I.tuple hq
    obtain ⟨u,hu,ru⟩:=rv.get hx
    obtain ⟨f0,f1,f2,f3,f4,f5⟩:=hf it (by simp)
    refine wpAny_pyNext_tuple_item st (show s.heap.IsTuple a its.toArray from p) (x:=u) (by simpa using hu) fun h' st' sb=>?_
    have I1:Inv X pins σ H { s with heap:=h' }:=I.turned (t':=s.toks) (fun b o hb e=>(sb.2 b hb).trans e) f0 f1 f3 f4 f5
    obtain ⟨o,e,c,d⟩:=id st'
    exact ⟨u,rfl,go_of (s:={ s with heap:=h' }) e c d (by decide) ⟨x,H,I1,ru,⟨rfl,fun ys hy=>by rw [I.tuple_inj hy hq]; exact hx⟩,st',fun b hb=>(hf b hb).1⟩⟩
  done:=by
    intro X hP hw hK hc i pins s σ H E I hf st hg
    subst hP hw hK
    obtain ⟨xs,hq,hx⟩:=hg
    obtain ⟨its,rv,p,hz⟩:=I.tuple hq
    obtain ⟨f0,f1,f2,f3,f4,f5⟩:=hf it (by simp)
    have hl:=rv.length
    exact wpAny_pyNext_tuple_end (I.ok.hd hc) st (show s.heap.IsTuple a its.toArray from p) (by simp; lia) fun h' eb=>⟨rfl,I.turned (t':=s.toks) (fun b o hb e=>eb b o hb e) f0 f1 f3 f4 f5⟩
  self:=fun _ _ _ _ _ st h=>wpAny_pyIter_tupleiter st h
theorem turn_range {P:Program} {w:World} {K:PySem.W.Frag} {tg:Expr} (it:Addr) (lo:Int) (n:Nat):Turn P w K tg (Itr lo n) [it] it (fun i h=>IsRangeIter h it (lo + (i:Nat) * 1) ((n:Int) - (i:Nat)) 1) where
  mem:=by simp
  obj:=fun i h st b hb=>by
    have e:b=it:=by simpa using hb
    subst e
    exact ⟨_,st,fun v z=>by
      have z':Data.fields _=Data.cell v:=z
      cases z'⟩
  keep:=fun i h h' st k=>k it (by simp) _ st
  item:=by
    intro X hP hw hK hc i pins s σ H E I hf st hg
    subst hP hw hK
    obtain ⟨f0,f1,f2,f3,f4,f5⟩:=hf it (by simp)
    have W:=Walks.range (prog:=X.prog) (w:=X.w) (I.ok.hd hc) it lo 1 n
    refine W.item i s _ _ hg st fun v h' tk hv st' kk=>?_
    obtain ⟨t,rfl⟩:=hv
    have I1:Inv X pins σ H { s with heap:=h',toks:=tk }:=I.turned (fun b o hb e=>kk b o (by simpa using hb) e) f0 f1 f3 f4 f5
    refine ⟨_,rfl,go_of (s:={ s with heap:=h',toks:=tk }) (n:="range_iterator") st' rfl rfl (by decide) ⟨.int (lo + i),H,I1,⟨t,?_⟩,⟨rfl,rfl⟩,st',fun b hb=>(hf b hb).1⟩⟩
    rw [Int.mul_one]
  done:=by
    intro X hP hw hK hc i pins s σ H E I hf st hg
    subst hP hw hK
    obtain ⟨f0,f1,f2,f3,f4,f5⟩:=hf it (by simp)
    exact wpAny_pyNext_range_end (I.ok.hd hc) st (by have:n<=i:=hg; lia) fun h' eb=>⟨rfl,I.turned (t':=s.toks) (fun b o hb e=>eb b o hb e) f0 f1 f3 f4 f5⟩
  self:=fun _ _ _ _ _ st h=>wpAny_pyIter_rangeiter st h
end L2
namespace L2
open PySem PySem.Spec PyProof.Rows
section
variable {X:Cx} {tg:Expr}
def iList (K:PySem.W.Frag) (tl:TE):TI:=fun σ H R=>tl σ H fun x H1=>∃ a,x=.ref a/\(∃ xs,SqL K H1 a xs)/\R (Itl K a) H1
def iTup (K:PySem.W.Frag) (tl:TE):TI:=fun σ H R=>tl σ H fun x H1=>∃ a,x=.ref a/\(∃ xs,SqT K H1 a xs)/\R (Itt K a) H1
theorem pi_list {l:Expr} {tl:TE} (hl:PE X l tl):PI X tg l (iList X.K tl):=by
  intro pins s σ H R I h
  refine thn (hl pins s σ H _ I h) fun v s1 ⟨x,H1,I1,r1,q1⟩=>?_
  obtain ⟨a,e,⟨xs,hq⟩,q⟩:=q1
  subst e
  cases r1
  obtain ⟨its,rv,p,hz⟩:=I1.list hq
  refine wpAny_pyIter_list p.isList ?_
  refine ⟨s1.heap.objs.size,[s1.heap.objs.size],_,_,H1,rfl,I1.kept (t':=s1.toks) fun b o e=>Heap.get?_push_of_some _ e,turn_list a _,⟨_,Heap.get?_push_size _ rfl,rfl,rfl⟩,fun b hb=>?_,q⟩
  have e:b=s1.heap.objs.size:=by simpa using hb
  subst e
  exact I1.fpOk (Nat.le_refl _) (I1.hok.fresh (Nat.le_refl _))
theorem pi_tup {l:Expr} {tl:TE} (hl:PE X l tl):PI X tg l (iTup X.K tl):=by
  intro pins s σ H R I h
  refine thn (hl pins s σ H _ I h) fun v s1 ⟨x,H1,I1,r1,q1⟩=>?_
  obtain ⟨a,e,⟨xs,hq⟩,q⟩:=q1
  subst e
  cases r1
  obtain ⟨its,rv,p,hz⟩:=I1.tuple hq
  refine wpAny_pyIter_tuple (show s1.heap.IsTuple a its.toArray from p) ?_
  refine ⟨s1.heap.objs.size,[s1.heap.objs.size],_,_,H1,rfl,I1.kept (t':=s1.toks) fun b o e=>Heap.get?_push_of_some _ e,turn_tuple a _,⟨_,Heap.get?_push_size _ rfl,rfl,rfl⟩,fun b hb=>?_,q⟩
  have e:b=s1.heap.objs.size:=by simpa using hb
  subst e
  exact I1.fpOk (Nat.le_refl _) (I1.hok.fresh (Nat.le_refl _))
theorem range_it {pins:List (Addr × Obj)} {σ:St} {H:Hp} {s:Shared} {R:It->Hp->Prop} {E:Value->Shared->Prop} {lo hi:Int} {t u v:Tok} {tk:Nat} (I:Inv X pins σ H s) (h1:-(2 ^ 62)<=lo) (h2:lo < 2 ^ 62) (h3:-(2 ^ 62)<=hi) (h4:hi < 2 ^ 62)
    (q:R (Itr lo (hi - lo).toNat) H):wpAny (model X.prog X.w) X.A (pyIter (.ref s.heap.objs.size)) (PIE X pins σ tg R) E { s with heap:=s.heap.push { cls:=.type "range",data:=.fields #[.int lo t,.int hi u,.int 1 v] },toks:=tk }:=by
  refine wpAny_pyIter_range (IsRange.new ..) (small_one h1 h2 h3 h4) ?_
  have I1:Inv X pins σ H { s with heap:=s.heap.push { cls:=.type "range",data:=.fields #[.int lo t,.int hi u,.int 1 v] },toks:=tk }:=I.kept fun b o e=>Heap.get?_push_of_some _ e
  refine ⟨(s.heap.push { cls:=.type "range",data:=.fields #[.int lo t,.int hi u,.int 1 v] }).objs.size,[(s.heap.push { cls:=.type "range",data:=.fields #[.int lo t,.int hi u,.int 1 v] }).objs.size],_,_,H,rfl,
    I1.kept (t':=tk) fun b o e=>Heap.get?_push_of_some _ e,turn_range _ lo (hi - lo).toNat,?_,fun b hb=>?_,q⟩
  · have e1:lo + ((0:Nat):Int) * 1=lo:=by simp
    have e2:(((hi - lo).toNat:Nat):Int) - ((0:Nat):Int)=Builtin.Range.rangeSize lo hi 1:=by rw [rangeSize_one]; split <;> lia
    show IsRangeIter _ _ (lo + ((0:Nat):Int) * 1) ((((hi - lo).toNat:Nat):Int) - ((0:Nat):Int)) 1
    rw [e1,e2]
    exact Heap.get?_push_size _ rfl
  · have e:b=(s.heap.push { cls:=.type "range",data:=.fields #[.int lo t,.int hi u,.int 1 v] }).objs.size:=by simpa using hb
    subst e
    exact I1.fpOk (Nat.le_refl _) (I1.hok.fresh (Nat.le_refl _))
def iRng1 (ta:TA):TI:=fun σ H R=>ta σ H fun vs H1=>∃ j:Int,vs=[.int j]/\-(2 ^ 62)<=j/\j < 2 ^ 62/\R (Itr 0 j.toNat) H1
theorem pi_range1 {a:Expr} {ta:TA} {p pos:Pos} (hg:Gl X "range") (hm:X.mg "range"=none) (ha:PA X [a] ta) (hs:starEach [a] X.env=[(false,eval a X.env)]:=by rfl):PI X tg (.Call (.Name "range" p) [a] [] pos) (iRng1 ta):=by
  intro pins s σ H R I h
  refine Call_ (ld_blt I hg hm boot_range (PyProof.Rows.callWith_type1 (thn (ha pos pins s σ H _ I h) fun us s1 ⟨vs,H1,I1,r1,q1⟩=>?_) hs rfl))
  obtain ⟨j,e,q1,q2,q⟩:=q1
  subst e
  cases r1 with
  | cons r rr =>
    cases rr
    obtain ⟨t,rfl⟩:=r
    exact call_range_1 (range_it I1 (by lia) (by lia) q1 q2 (by simpa using q))
def tFor (wi:TI) (g:TG) (tb:TS):TS:=fun D σ H=>wi σ H fun J H1=>∃ W:Nat->Nat->St->Hp->Prop,(∃ m,W 0 m σ H1)/\∀ i m σ H,W i m σ H ->
  (J.stop i H/\D.nx σ H)\/(J.go i H/\∃ N:St->Hp->Prop,(∀ σ' H',N σ' H'->∃ m',m' < m/\W (i + 1) m' σ' H')/\∀ x H',J.yld i H x H'->g x σ H' fun σ2 H2=>tb { D with nx:=N,ct:=N,bk:=D.nx } σ2 H2)
def pinsAt (fp:List Addr) (h:Heap):List (Addr × Obj):=fp.filterMap fun b=>(h.get? b).map fun o=>(b,o)
theorem mem_pinsAt {fp:List Addr} {h:Heap} {b:Addr} {o:Obj} (hb:b∈fp) (e:h.get? b=some o):(b,o)∈pinsAt fp h:=List.mem_filterMap.mpr ⟨b,hb,by rw [e]; rfl⟩
theorem of_pinsAt {fp:List Addr} {h:Heap} {p:Addr × Obj} (hp:p∈pinsAt fp h):p.1∈fp/\h.get? p.1=some p.2:=by
  obtain ⟨b,hb,e⟩:=List.mem_filterMap.mp hp
  cases q:h.get? b with
  | none=>rw [q] at e; cases e
  | some o =>
    rw [q] at e
    have e':(b,o)=p:=Option.some.inj e
    subst e'
    exact ⟨hb,q⟩
theorem Inv.pinned {pins:List (Addr × Obj)} {σ:St} {H:Hp} {s:Shared} {fp:List Addr} (I:Inv X pins σ H s) (hf:∀ b∈fp,FpOk X pins H b) (ho:∀ b∈fp,∃ o,s.heap.get? b=some o/\∀ v,o.data≠.cell v):Inv X (pins ++ pinsAt fp s.heap) σ H s :=
  I.pins_of fun p hp=>(List.mem_append.mp hp).elim (fun z=>I.pin p (List.mem_append_right _ z)) fun z=>by
    obtain ⟨hb,e⟩:=of_pinsAt z
    obtain ⟨f0,f1,f2,_⟩:=hf p.1 hb
    obtain ⟨o,e',d⟩:=ho p.1 hb
    rw [e] at e'; cases e'
    exact ⟨e,f0,f1,f2,d⟩
theorem Inv.unpinned {pins pl:List (Addr × Obj)} {σ:St} {H:Hp} {s:Shared} (I:Inv X (pins ++ pl) σ H s):Inv X pins σ H s:=I.pins_of fun p hp=>I.pin p (List.mem_append_right _ (List.mem_append_left _ hp))
theorem ps_for {iter:Expr} {body:List Stmt} {wi:TI} {g:TG} {tb:TS} {pos:Pos} (hp:PassesOwn (model X.prog X.w) X.A X.env X.xe) (hc:X.calm=true) (hi:PI X tg iter wi) (hg:PG X tg g) (hb:PSs X body tb)
    (hs:∀ x,foldedSetIterable iter X.env x=pure x:=by intro _; rfl):PS X (.For tg iter body [] pos) (tFor wi g tb):=by
  intro pins s σ H D I h
  refine wpAny_For (thn (hi pins s σ H _ I h) fun v s1 h1=>thn h1 fun itv s2 h2=>?_) hs
  obtain ⟨it,fp,tn,J,H2,e,I2,T,st2,f2,W,⟨m0,w0⟩,turn⟩:=h2
  subst e
  -- what stays true of the iterator's objects through the loop
  have stat:∀ {H':Hp},(∀ b∈fp,H' b=none)->∀ b∈fp,FpOk X pins H' b:=fun hn b hb=>⟨hn b hb,(f2 b hb).2⟩
  refine codeAny_forLoop_any (fun n s'=>∃ i σ' H',Inv X pins σ' H' s'/\tn i s'.heap/\(∀ b∈fp,H' b=none)/\W i n σ' H') ?_ m0 ⟨0,σ,H2,I2,st2,fun b hb=>(f2 b hb).1,w0⟩
  rintro n s3 ⟨i,σ3,H3,I3,st3,fr3,w3⟩
  rcases turn i n σ3 H3 w3 with ⟨stop,qn⟩ | ⟨go,N,hN,step⟩
  · refine wpAny_passesOwn hp (thn (T.done X rfl rfl rfl hc i pins s3 σ3 H3 X.xe I3 (stat fr3) st3 stop) fun r s4 ⟨hr,I4⟩=>?_)
    subst hr
    exact wpAny_execs_nil ⟨σ3,H3,I4,qn⟩
  · refine wpAny_passesOwn hp (thn (T.item X rfl rfl rfl hc i pins s3 σ3 H3 X.xe I3 (stat fr3) st3 go) fun r s4 ⟨u,hr,h4⟩=>?_)
    subst hr
    refine wpAny_passesOwn hp (thn h4 fun _ s5 ⟨x,H5,I5,r5,y5,st5,fr5⟩=>?_)
    have I5':=I5.pinned (stat fr5) (T.obj _ _ st5)
    refine wpAny_passesOwn hp (thn (hg _ s5 σ3 H5 x u _ I5' r5 (step x H5 y5)) fun _ s6 ⟨σ6,H6,I6,q6⟩=>?_)
    refine wpAny_passesOwn hp (thn (hb _ s6 σ6 H6 _ I6 q6) fun f s7 q7=>?_)
    have again:∀ {σ7:St} {H7:Hp},Inv X (pins ++ pinsAt fp s5.heap) σ7 H7 s7->N σ7 H7->∃ m,m < n/\∃ i σ' H',Inv X pins σ' H' s7/\tn i s7.heap/\(∀ b∈fp,H' b=none)/\W i m σ' H':=fun {σ7 H7} I7 n7=>by
      obtain ⟨m',hm,w7⟩:=hN σ7 H7 n7
      refine ⟨m',hm,i + 1,σ7,H7,I7.unpinned,T.keep _ _ _ st5 fun b hb o e=>(I7.pin (b,o) (List.mem_append_right _ (List.mem_append_right _ (mem_pinsAt hb e)))).1,fun b hb=>?_,w7⟩
      obtain ⟨o,e,d⟩:=T.obj _ _ st5 b hb
      exact (I7.pin (b,o) (List.mem_append_right _ (List.mem_append_right _ (mem_pinsAt hb e)))).2.1
    cases f with
    | next=>obtain ⟨σ7,H7,I7,n7⟩:=q7; exact again I7 n7
    | cont=>obtain ⟨σ7,H7,I7,n7⟩:=q7; exact again I7 n7
    | brk=>obtain ⟨σ7,H7,I7,q7⟩:=q7; exact ⟨σ7,H7,I7.unpinned,q7⟩
    | ret v=>obtain ⟨x7,σ7,H7,I7,r7,q7⟩:=q7; exact ⟨x7,σ7,H7,I7.unpinned,r7,q7⟩
end
theorem for_list {K:PySem.W.Frag} {a:Addr} {xs:List V} {g:TG} {tb:TS} {D:Ends} {σ:St} {H:Hp} (Pv:Nat->St->Hp->Prop) (h0:Pv 0 σ H) (hl:∀ i σ H,i<=xs.length->Pv i σ H->SqL K H a xs)
    (hs:∀ i x σ H,xs[i]?=some x->Pv i σ H->g x σ H fun σ2 H2=>tb { D with nx:=Pv (i + 1),ct:=Pv (i + 1),bk:=D.nx } σ2 H2) (hd:∀ σ H,Pv xs.length σ H->D.nx σ H) :
    ∃ W:Nat->Nat->St->Hp->Prop,(∃ m,W 0 m σ H)/\∀ i m σ H,W i m σ H ->
      ((Itl K a).stop i H/\D.nx σ H)\/((Itl K a).go i H/\∃ N:St->Hp->Prop,(∀ σ' H',N σ' H'->∃ m',m' < m/\W (i + 1) m' σ' H')/\∀ x H',(Itl K a).yld i H x H'->g x σ H' fun σ2 H2=>tb { D with nx:=N,ct:=N,bk:=D.nx } σ2 H2):=by
  refine ⟨fun i m σ H=>m=xs.length - i/\i<=xs.length/\Pv i σ H,⟨xs.length,by simp,Nat.zero_le _,h0⟩,?_⟩
  rintro i m σ H ⟨rfl,hi,p⟩
  have q:=hl i σ H hi p
  by_cases hlt:i < xs.length
  · refine .inr ⟨⟨xs,xs[i],q,by simp [hlt]⟩,Pv (i + 1),fun σ' H' p'=>⟨xs.length - (i + 1),by lia,rfl,hlt,p'⟩,fun x H' y=>?_⟩
    obtain ⟨e,y⟩:=y
    subst e
    exact hs i x σ _ (y xs q) p
  · have e:i=xs.length:=by lia
    subst e
    exact .inl ⟨⟨xs,q,Nat.le_refl _⟩,hd σ H p⟩
theorem for_tup {K:PySem.W.Frag} {a:Addr} {xs:List V} {g:TG} {tb:TS} {D:Ends} {σ:St} {H:Hp} (Pv:Nat->St->Hp->Prop) (h0:Pv 0 σ H) (hl:∀ i σ H,i<=xs.length->Pv i σ H->SqT K H a xs)
    (hs:∀ i x σ H,xs[i]?=some x->Pv i σ H->g x σ H fun σ2 H2=>tb { D with nx:=Pv (i + 1),ct:=Pv (i + 1),bk:=D.nx } σ2 H2) (hd:∀ σ H,Pv xs.length σ H->D.nx σ H) :
    ∃ W:Nat->Nat->St->Hp->Prop,(∃ m,W 0 m σ H)/\∀ i m σ H,W i m σ H ->
      ((Itt K a).stop i H/\D.nx σ H)\/((Itt K a).go i H/\∃ N:St->Hp->Prop,(∀ σ' H',N σ' H'->∃ m',m' < m/\W (i + 1) m' σ' H')/\∀ x H',(Itt K a).yld i H x H'->g x σ H' fun σ2 H2=>tb { D with nx:=N,ct:=N,bk:=D.nx } σ2 H2):=by
  refine ⟨fun i m σ H=>m=xs.length - i/\i<=xs.length/\Pv i σ H,⟨xs.length,by simp,Nat.zero_le _,h0⟩,?_⟩
  rintro i m σ H ⟨rfl,hi,p⟩
  have q:=hl i σ H hi p
  by_cases hlt:i < xs.length
  · refine .inr ⟨⟨xs,xs[i],q,by simp [hlt]⟩,Pv (i + 1),fun σ' H' p'=>⟨xs.length - (i + 1),by lia,rfl,hlt,p'⟩,fun x H' y=>?_⟩
    obtain ⟨e,y⟩:=y
    subst e
    exact hs i x σ _ (y xs q) p
  · have e:i=xs.length:=by lia
    subst e
    exact .inl ⟨⟨xs,q,Nat.le_refl _⟩,hd σ H p⟩
theorem for_range {lo:Int} {n:Nat} {g:TG} {tb:TS} {D:Ends} {σ:St} {H:Hp} (Pv:Nat->St->Hp->Prop) (h0:Pv 0 σ H)
    (hs:∀ i σ H,i < n->Pv i σ H->g (.int (lo + i)) σ H fun σ2 H2=>tb { D with nx:=Pv (i + 1),ct:=Pv (i + 1),bk:=D.nx } σ2 H2) (hd:∀ σ H,Pv n σ H->D.nx σ H) :
    ∃ W:Nat->Nat->St->Hp->Prop,(∃ m,W 0 m σ H)/\∀ i m σ H,W i m σ H ->
      ((Itr lo n).stop i H/\D.nx σ H)\/((Itr lo n).go i H/\∃ N:St->Hp->Prop,(∀ σ' H',N σ' H'->∃ m',m' < m/\W (i + 1) m' σ' H')/\∀ x H',(Itr lo n).yld i H x H'->g x σ H' fun σ2 H2=>tb { D with nx:=N,ct:=N,bk:=D.nx } σ2 H2):=by
  refine ⟨fun i m σ H=>m=n - i/\i<=n/\Pv i σ H,⟨n,by simp,Nat.zero_le _,h0⟩,?_⟩
  rintro i m σ H ⟨rfl,hi,p⟩
  by_cases hlt:i < n
  · refine .inr ⟨hlt,Pv (i + 1),fun σ' H' p'=>⟨n - (i + 1),by lia,rfl,hlt,p'⟩,fun x H' y=>?_⟩
    obtain ⟨e,y⟩:=y
    subst e y
    exact hs i σ _ hlt p
  · have e:i=n:=by lia
    subst e
    exact .inl ⟨Nat.le_refl _,hd σ H p⟩
end L2
namespace L2
open PySem PySem.Spec PyProof.Rows
abbrev R2:=V->V->Hp->VK->Prop
def OpR (X:Cx) (f:Value->Value->Sem Value) (r:R2):Prop :=
  ∀ (pins:List (Addr × Obj)) (s:Shared) (σ:St) (H:Hp) (x y:V) (v u:Value) (Q:VK),Inv X pins σ H s->RelV x v->RelV y u->r x y H Q ->
    wpAny (model X.prog X.w) X.A (f v u) (EP X pins σ Q) X.xe s
def UnR (X:Cx) (f:Value->Sem Value) (r:V->Hp->VK->Prop):Prop :=
  ∀ (pins:List (Addr × Obj)) (s:Shared) (σ:St) (H:Hp) (x:V) (v:Value) (Q:VK),Inv X pins σ H s->RelV x v->r x H Q ->
    wpAny (model X.prog X.w) X.A (f v) (EP X pins σ Q) X.xe s
def CallR (X:Cx) (f:Value) (r:List V->Hp->VK->Prop):Prop :=
  ∀ (pins:List (Addr × Obj)) (s:Shared) (σ:St) (H:Hp) (xs:List V) (us:List Value) (Q:VK),Inv X pins σ H s->Vals xs us->r xs H Q ->
    wpAny (model X.prog X.w) X.A (call f us) (EP X pins σ Q) X.xe s
def tOp (r:R2) (ta tb:TE):TE:=fun σ H Q=>ta σ H fun x H1=>tb σ H1 fun y H2=>r x y H2 Q
def tUn (r:V->Hp->VK->Prop) (ta:TE):TE:=fun σ H Q=>ta σ H fun x H1=>r x H1 Q
def rI (C:Int->Int->Prop) (g:Int->Int->V):R2:=fun x y H Q=>∃ i j,x=.int i/\y=.int j/\C i j/\Q (g i j) H
def rI0 (g:Int->Int->V):R2:=fun x y H Q=>∃ i j,x=.int i/\y=.int j/\Q (g i j) H
def rU (g:Int->V):V->Hp->VK->Prop:=fun x H Q=>∃ i,x=.int i/\Q (g i) H
section
variable {X:Cx} {a b c:Expr} {ta tb tc:TE} {pos:Pos}
theorem binT (ha:PE X a ta) (hb:PE X b tb) {pins:List (Addr × Obj)} {s:Shared} {σ:St} {H:Hp} {R:V->V->Hp->Prop} (I:Inv X pins σ H s)
    (h:ta σ H fun x H1=>tb σ H1 fun y H2=>R x y H2) {Q:Value->Shared->Prop} {f:Value->Value->Sem Value}
    (hf:∀ v u s2 x y H2,Inv X pins σ H2 s2->RelV x v->RelV y u->R x y H2->wpAny (model X.prog X.w) X.A (f v u) Q X.xe s2) :
    wpAny (model X.prog X.w) X.A (eval a X.env) (fun v s₁=>wpAny (model X.prog X.w) X.A (eval b X.env) (fun u s₂=>wpAny (model X.prog X.w) X.A (f v u) Q X.xe s₂) X.xe s₁) X.xe s:=by
  refine thn (ha pins s σ H _ I h) fun v s1 ⟨x,H1,I1,r1,q1⟩=>?_
  refine thn (hb pins s1 σ H1 _ I1 q1) fun u s2 ⟨y,H2,I2,r2,q2⟩=>?_
  exact hf v u s2 x y H2 I2 r1 r2 q2
theorem pe_op {op:Operator} {r:R2} (ho:OpR X (binaryOp op) r) (ha:PE X a ta) (hb:PE X b tb):PE X (.BinOp a op b pos) (tOp r ta tb):=by
  intro pins s σ H Q I h
  exact wpAny_BinOp (binT ha hb I h fun v u s2 x y H2 I2 rx ry q=>ho pins s2 σ H2 x y v u Q I2 rx ry q)
theorem pe_un {op:UnaryOp} {r:V->Hp->VK->Prop} (ho:UnR X (unaryOp op) r) (ha:PE X a ta):PE X (.UnaryOp op a pos) (tUn r ta):=by
  intro pins s σ H Q I h
  exact UnaryOp_ (thn (ha pins s σ H _ I h) fun v s1 ⟨x,H1,I1,r1,q1⟩=>ho pins s1 σ H1 x v Q I1 r1 q1)
theorem opI {f:Value->Value->Sem Value} {C:Int->Int->Prop} {g:Int->Int->Int}
    (rule:∀ (i j:Int) (t u:Tok) (s:Shared) (Q:Value->Shared->Prop) (E:Value->Shared->Prop),C i j->Q (.int (g i j) s.toks) { s with toks:=s.toks + 1 }->wpAny (model X.prog X.w) X.A (f (.int i t) (.int j u)) Q E s) :
    OpR X f (rI C fun i j=>.int (g i j)):=by
  intro pins s σ H x y v u Q I rx ry h
  obtain ⟨i,j,rfl,rfl,hc,q⟩:=h
  obtain ⟨t,rfl⟩:=rx
  obtain ⟨t',rfl⟩:=ry
  exact rule i j t t' s _ _ hc ⟨.int (g i j),H,I.tok _,⟨_,rfl⟩,q⟩
theorem opI0 {f:Value->Value->Sem Value} {g:Int->Int->Int}
    (rule:∀ (i j:Int) (t u:Tok) (s:Shared) (Q:Value->Shared->Prop) (E:Value->Shared->Prop),Q (.int (g i j) s.toks) { s with toks:=s.toks + 1 }->wpAny (model X.prog X.w) X.A (f (.int i t) (.int j u)) Q E s) :
    OpR X f (rI0 fun i j=>.int (g i j)):=by
  intro pins s σ H x y v u Q I rx ry h
  obtain ⟨i,j,rfl,rfl,q⟩:=h
  obtain ⟨t,rfl⟩:=rx
  obtain ⟨t',rfl⟩:=ry
  exact rule i j t t' s _ _ ⟨.int (g i j),H,I.tok _,⟨_,rfl⟩,q⟩
theorem opB0 {f:Value->Value->Sem Value} {g:Int->Int->Bool}
    (rule:∀ (i j:Int) (t u:Tok) (s:Shared) (Q:Value->Shared->Prop) (E:Value->Shared->Prop),Q (.bool (g i j)) s->wpAny (model X.prog X.w) X.A (f (.int i t) (.int j u)) Q E s) :
    OpR X f (rI0 fun i j=>.bl (g i j)):=by
  intro pins s σ H x y v u Q I rx ry h
  obtain ⟨i,j,rfl,rfl,q⟩:=h
  obtain ⟨t,rfl⟩:=rx
  obtain ⟨t',rfl⟩:=ry
  exact rule i j t t' s _ _ ⟨.bl (g i j),H,I,rfl,q⟩
def CDiv (i j:Int):Prop:=0 < j/\j < 1073741824
def CMul (i j:Int):Prop:=(-(2 ^ 64) < i/\i < 2 ^ 64)\/(-(2 ^ 64) < j/\j < 2 ^ 64)
theorem CMul.ok {i j:Int} (h:CMul i j):IntMulOk i j:=by
  rcases h with ⟨h1,h2⟩ | ⟨h1,h2⟩
  · exact .of_left (intBits_le_64 h1 h2)
  · exact .of_right (intBits_le_64 h1 h2)
theorem op_add:OpR X (binaryOp .Add) (rI0 fun i j=>.int (i + j)):=opI0 fun _ _ _ _ _ _ _ q=>add_int q
theorem op_sub:OpR X (binaryOp .Sub) (rI0 fun i j=>.int (i - j)):=opI0 fun _ _ _ _ _ _ _ q=>sub_int q
theorem op_mul:OpR X (binaryOp .Mult) (rI CMul fun i j=>.int (i * j)):=opI fun _ _ _ _ _ _ _ hc q=>mul_int q hc.ok
theorem op_fdiv:OpR X (binaryOp .FloorDiv) (rI CDiv fun i j=>.int (i / j)):=opI fun i j _ _ _ _ _ hc q=>by
  have h1:(0:Int) < j:=hc.1
  have h2:j < 1073741824:=hc.2
  exact floordiv_int (by lia) (by rw [Int.fdiv_eq_ediv_of_nonneg i (by lia)]; exact q) (.inl (PyProof.noPylong_small (by lia)))
theorem op_mod:OpR X (binaryOp .Mod) (rI (fun _ j=>0 < j) fun i j=>.int (i % j)):=opI fun i j _ _ _ _ _ hc q=>by
  have h1:(0:Int) < j:=hc
  exact mod_int' (by lia) (by rw [Int.fmod_eq_emod_of_nonneg i (by lia)]; exact q)
theorem unI {f:Value->Sem Value} {g:Int->Int}
    (rule:∀ (i:Int) (t:Tok) (s:Shared) (Q:Value->Shared->Prop) (E:Value->Shared->Prop),Q (.int (g i) s.toks) { s with toks:=s.toks + 1 }->wpAny (model X.prog X.w) X.A (f (.int i t)) Q E s) :
    UnR X f (rU fun i=>.int (g i)):=by
  intro pins s σ H x v Q I rx h
  obtain ⟨i,rfl,q⟩:=h
  obtain ⟨t,rfl⟩:=rx
  exact rule i t s _ _ ⟨.int (g i),H,I.tok _,⟨_,rfl⟩,q⟩
theorem un_neg:UnR X (unaryOp .USub) (rU fun i=>.int (-i)):=unI fun _ _ _ _ _ q=>neg_int q
end
def scal:V->V->Bool
  | .non,.non=>true | .non,.int _=>true | .int _,.non=>true | .non,.bl _=>true | .bl _,.non=>true | .non,.str _=>true | .str _,.non=>true
  | .int _,.int _=>true | .bl _,.bl _=>true | .str _,.str _=>true | .byt _,.byt _=>true
  | .int _,.str _=>true | .str _,.int _=>true | .bl _,.str _=>true | .str _,.bl _=>true
  | _,_=>false
def rEq:R2:=fun x y H Q=>scal x y=true/\Q (.bl (decide (x=y))) H
def rNe:R2:=fun x y H Q=>scal x y=true/\Q (.bl (!decide (x=y))) H
theorem dec_int {i j:Int}:decide (V.int i=V.int j)=(i == j):=by
  rw [Bool.eq_iff_iff]
  simp
theorem dec_bl {i j:Bool}:decide (V.bl i=V.bl j)=(i == j):=by
  rw [Bool.eq_iff_iff]
  simp
theorem dec_str {i j:Str}:decide (V.str i=V.str j)=(i == j):=by
  rw [Bool.eq_iff_iff]
  simp
theorem dec_byt {i j:Array UInt8}:decide (V.byt i=V.byt j)=(i.toList == j.toList):=by
  rw [Bool.eq_iff_iff]
  cases i
  cases j
  simp
section
variable {X:Cx} {a b c:Expr} {ta tb tc:TE} {pos:Pos}
theorem fin_bl {pins:List (Addr × Obj)} {σ:St} {H:Hp} {s:Shared} {Q:VK} {k k':Bool} (I:Inv X pins σ H s) (q:Q (.bl k) H) (e:k=k'):EP X pins σ Q (.bool k') s:=by
  subst e
  exact ⟨.bl k,H,I,rfl,q⟩
theorem op_eq:OpR X (compareOp .Eq) rEq:=by
  intro pins s σ H x y v u Q I rx ry h
  obtain ⟨hs,q⟩:=h
  cases x with
  | non =>
    cases rx
    cases y with
    | non=>cases ry; exact PySem.EqNone.eq_none_none (fin_bl I q (by simp))
    | bl j=>cases ry; exact PySem.EqNone.eq_none_bool (fin_bl I q (by simp))
    | int j=>obtain ⟨t',rfl⟩:=ry; exact PySem.EqNone.eq_none_int (fin_bl I q (by simp))
    | str j=>obtain ⟨t',rfl⟩:=ry; exact PySem.EqNone.eq_none_str (fin_bl I q (by simp))
    | _=>exact absurd (show false=true from hs) Bool.false_ne_true
  | bl i =>
    cases rx
    cases y with
    | non=>cases ry; exact PySem.EqNone.eq_bool_none (fin_bl I q (by simp))
    | bl j=>cases ry; exact eq_bool (fin_bl I q dec_bl)
    | str j=>obtain ⟨t',rfl⟩:=ry; exact PySem.EqMixed.eq_bool_str (fin_bl I q (by simp))
    | _=>exact absurd (show false=true from hs) Bool.false_ne_true
  | int i =>
    obtain ⟨t,rfl⟩:=rx
    cases y with
    | non=>cases ry; exact PySem.EqNone.eq_int_none (fin_bl I q (by simp))
    | int j=>obtain ⟨t',rfl⟩:=ry; exact eq_int (fin_bl I q dec_int)
    | str j=>obtain ⟨t',rfl⟩:=ry; exact PySem.EqMixed.eq_int_str (fin_bl I q (by simp))
    | _=>exact absurd (show false=true from hs) Bool.false_ne_true
  | str i =>
    obtain ⟨t,rfl⟩:=rx
    cases y with
    | non=>cases ry; exact PySem.EqNone.eq_str_none (fin_bl I q (by simp))
    | bl j=>cases ry; exact PySem.EqMixed.eq_str_bool (fin_bl I q (by simp))
    | int j=>obtain ⟨t',rfl⟩:=ry; exact PySem.EqMixed.eq_str_int (fin_bl I q (by simp))
    | str j=>obtain ⟨t',rfl⟩:=ry; exact eq_str (fin_bl I q dec_str)
    | _=>exact absurd (show false=true from hs) Bool.false_ne_true
  | byt i =>
    obtain ⟨t,rfl⟩:=rx
    cases y with
    | byt j=>obtain ⟨t',rfl⟩:=ry; exact PySem.W.eq_bytes (fin_bl I q dec_byt)
    | _=>exact absurd (show false=true from hs) Bool.false_ne_true
  | _=>cases y <;> exact absurd (show false=true from hs) Bool.false_ne_true
theorem op_ne:OpR X (compareOp .NotEq) rNe:=by
  intro pins s σ H x y v u Q I rx ry h
  obtain ⟨hs,q⟩:=h
  cases x with
  | non =>
    cases rx
    cases y with
    | non=>cases ry; exact PySem.EqNone.ne_none_none (fin_bl I q (by simp))
    | bl j=>cases ry; exact PySem.EqNone.ne_none_bool (fin_bl I q (by simp))
    | int j=>obtain ⟨t',rfl⟩:=ry; exact PySem.EqNone.ne_none_int (fin_bl I q (by simp))
    | str j=>obtain ⟨t',rfl⟩:=ry; exact PySem.EqNone.ne_none_str (fin_bl I q (by simp))
    | _=>exact absurd (show false=true from hs) Bool.false_ne_true
  | bl i =>
    cases rx
    cases y with
    | non=>cases ry; exact PySem.EqNone.ne_bool_none (fin_bl I q (by simp))
    | bl j=>cases ry; exact ne_bool (fin_bl I q (congrArg not dec_bl))
    | str j=>obtain ⟨t',rfl⟩:=ry; exact PySem.EqMixed.ne_bool_str (fin_bl I q (by simp))
    | _=>exact absurd (show false=true from hs) Bool.false_ne_true
  | int i =>
    obtain ⟨t,rfl⟩:=rx
    cases y with
    | non=>cases ry; exact PySem.EqNone.ne_int_none (fin_bl I q (by simp))
    | int j=>obtain ⟨t',rfl⟩:=ry; exact ne_int (fin_bl I q (congrArg not dec_int))
    | str j=>obtain ⟨t',rfl⟩:=ry; exact PySem.EqMixed.ne_int_str (fin_bl I q (by simp))
    | _=>exact absurd (show false=true from hs) Bool.false_ne_true
  | str i =>
    obtain ⟨t,rfl⟩:=rx
    cases y with
    | non=>cases ry; exact PySem.EqNone.ne_str_none (fin_bl I q (by simp))
    | bl j=>cases ry; exact PySem.EqMixed.ne_str_bool (fin_bl I q (by simp))
    | int j=>obtain ⟨t',rfl⟩:=ry; exact PySem.EqMixed.ne_str_int (fin_bl I q (by simp))
    | str j=>obtain ⟨t',rfl⟩:=ry; exact ne_str (fin_bl I q (congrArg not dec_str))
    | _=>exact absurd (show false=true from hs) Bool.false_ne_true
  | byt i =>
    obtain ⟨t,rfl⟩:=rx
    cases y with
    | byt j=>obtain ⟨t',rfl⟩:=ry; exact PySem.W.ne_bytes (fin_bl I q (congrArg not dec_byt))
    | _=>exact absurd (show false=true from hs) Bool.false_ne_true
  | _=>cases y <;> exact absurd (show false=true from hs) Bool.false_ne_true
theorem op_lt:OpR X (compareOp .Lt) (rI0 fun i j=>.bl (decide (i < j))):=opB0 fun _ _ _ _ _ _ _ q=>lt_int q
theorem op_le:OpR X (compareOp .LtE) (rI0 fun i j=>.bl (decide (i<=j))):=opB0 fun _ _ _ _ _ _ _ q=>le_int q
theorem op_gt:OpR X (compareOp .Gt) (rI0 fun i j=>.bl (decide (j < i))):=opB0 fun _ _ _ _ _ _ _ q=>gt_int q
theorem op_ge:OpR X (compareOp .GtE) (rI0 fun i j=>.bl (decide (j<=i))):=opB0 fun _ _ _ _ _ _ _ q=>ge_int q
theorem OpR.or {f:Value->Value->Sem Value} {r r':R2} (h:OpR X f r) (h':OpR X f r'):OpR X f (fun x y H Q=>r x y H Q\/r' x y H Q):=by
  intro pins s σ H x y v u Q I rx ry q
  rcases q with q | q
  · exact h pins s σ H x y v u Q I rx ry q
  · exact h' pins s σ H x y v u Q I rx ry q
theorem nomark (b:Expr) {op:CmpOp} (h:op≠.In:=by decide) (h2:op≠.NotIn:=by decide):behindInMarks op b=false:=by
  have e1:(op == CmpOp.In)=false:=by cases op <;> first | rfl | exact absurd rfl h
  have e2:(op == CmpOp.NotIn)=false:=by cases op <;> first | rfl | exact absurd rfl h2
  cases b <;> simp [behindInMarks,e1,e2]
theorem pe_cmpR {op:CmpOp} {r:R2} (ho:OpR X (compareOp op) r) (ha:PE X a ta) (hb:PE X b tb) (hm:behindInMarks op b=false):PE X (.Compare a [op] [b] pos) (tOp r ta tb):=by
  intro pins s σ H Q I h
  exact wpAny_Compare1 (binT ha hb I h fun v u s2 x y H2 I2 rx ry q=>ho pins s2 σ H2 x y v u Q I2 rx ry q) hm
def tTest (t:TE):TT:=fun σ H Q=>t σ H fun x H'=>∃ k,x=.bl k/\Q k H'
theorem pt_cmpR {op:CmpOp} {r:R2} (ho:OpR X (compareOp op) r) (ha:PE X a ta) (hb:PE X b tb) (hm:behindInMarks op b=false):PT X (.Compare a [op] [b] pos) (tTest (tOp r ta tb)):=by
  intro pins s σ H Q I h
  refine wpAny_isTrue_Compare1 (thn (ha pins s σ H _ I h) fun v s1 ⟨x,H1,I1,r1,q1⟩=>thn (hb pins s1 σ H1 _ I1 q1) fun u s2 ⟨y,H2,I2,r2,q2⟩ =>
    thn (ho pins s2 σ H2 x y v u _ I2 r1 r2 q2) fun c s3 ⟨z,H3,I3,r3,k,e,q3⟩=>?_) hm
  subst e
  cases r3
  exact wpAny_truthy_bool ⟨H3,I3,q3⟩
theorem line63:(sizeLine:Nat) < 2 ^ 63:=by rw [sizeLine_eq]; decide
theorem op_add_str:OpR X (binaryOp .Add) (fun x y H Q=>∃ i j,x=.str i/\y=.str j/\i.length + j.length<=sizeLine/\Q (.str (i ++ j)) H):=by
  intro pins s σ H x y v u Q I rx ry h
  obtain ⟨i,j,rfl,rfl,hz,q⟩:=h
  obtain ⟨t,rfl⟩:=rx
  obtain ⟨t',rfl⟩:=ry
  exact add_str (fun t' tk=>⟨.str (i ++ j),H,I.tok _,⟨_,rfl⟩,q⟩) hz
theorem vals1 {x:V} {us:List Value} (r:Vals [x] us):∃ u,us=[u]/\RelV x u:=by
  cases r with
  | cons r1 r2=>cases r2; exact ⟨_,rfl,r1⟩
theorem vals2 {x y:V} {us:List Value} (r:Vals [x,y] us):∃ u w',us=[u,w']/\RelV x u/\RelV y w':=by
  cases r with
  | cons r1 r2 =>
    cases r2 with
    | cons r3 r4=>cases r4; exact ⟨_,_,rfl,r1,r3⟩
theorem call_max2 (hc:X.calm=true):CallR X (.builtin "max") (fun xs H Q=>∃ i j,xs=[.int i,.int j]/\Q (.int (if j > i then j else i)) H):=by
  intro pins s σ H xs us Q I r h
  obtain ⟨i,j,rfl,q⟩:=h
  obtain ⟨u,w',rfl,⟨t,rfl⟩,⟨t',rfl⟩⟩:=vals2 r
  refine max_two_ints (I.ok.hd hc) fun h' tk k=>⟨_,H,I.kept k,?_,q⟩
  by_cases hj:j > i
  · rw [if_pos hj,if_pos hj]; exact ⟨_,rfl⟩
  · rw [if_neg hj,if_neg hj]; exact ⟨_,rfl⟩
end
end L2
namespace L2
open PySem PySem.Spec PyProof.Rows
structure ObjM (h:Heap) (x dx C:Addr) (mA:Str->Option Value):Prop where
  obj:h.get? x=some (PySem.W.instObj C dx)
  ns:h.Ns1 dx mA
  ne:dx≠x
theorem lookIn_ns {h:Heap} {dx:Addr} {mA:Str->Option Value} (n:h.Ns1 dx mA):∃ od,h.get? dx=some od/\∀ name,PySem.W.lookIn name od=some (mA name):=by
  obtain ⟨o,es,ep,ho,hd,hk,_,hm⟩:=n
  refine ⟨o,ho,fun name=>?_⟩
  have e:=hm name
  unfold nsFind findBy at e
  rw [<- Array.find?_toList] at e
  unfold PySem.W.lookIn
  rw [hd]
  dsimp only
  split
  · rename_i y q
    rw [q] at e
    exact congrArg some e
  · rename_i q
    rw [q] at e
    have a:es.toList.any (·.refKey)=false:=by
      rw [List.any_eq_false]
      intro y hy
      obtain ⟨z,t,hkey⟩:=hk y (Array.mem_toList_iff.mp hy)
      simp [DictEntry.refKey,hkey]
    have a':¬ es.toList.any (·.refKey)=true:=by rw [a]; exact Bool.false_ne_true
    rw [if_neg a']
    exact congrArg some e
theorem ObjM.look {h:Heap} {x dx C:Addr} {mA:Str->Option Value} (I:ObjM h x dx C mA):∃ od,PySem.W.InstAt h x (PySem.W.instObj C dx) C (some od)/\∀ name,PySem.W.lookIn name od=some (mA name) :=
  let ⟨od,ho,hl⟩:=lookIn_ns I.ns
  ⟨od,⟨I.obj,rfl,rfl,ho⟩,hl⟩
section
variable {prog:Program} {w:World} {A:Around} {E:Value->Shared->Prop} {s:Shared} {K:PySem.W.Frag} {x dx C f:Addr} {mA:Str->Option Value} {name:Str} {v:Value}
theorem get_map {expr:Bool} {Q:Value->Shared->Prop} (X:K.In s.heap) (I:ObjM s.heap x dx C mA) (hg:PySem.W.plainGet K C name=true) (hh:PySem.W.hasDictIn K C=true)
    (ha:PySem.W.findIn K (.ref C) name=some none) (hv:mA name=some v) (hv':PySem.W.handedIn v=true) (h:Q v { s with toks:=s.toks + 1 }) :
    wpAny (model prog w) A (getAttr (.ref x) name expr) Q E s:=by
  obtain ⟨od,J,hl⟩:=I.look
  exact PySem.W.get_value X J (PySem.W.plainGet_of hg).1 (PySem.W.findObj_own hh ha rfl (by rw [hl,hv])) hv' h
theorem set_map {ns:List Str} {Q:Unit->Shared->Prop} (X:K.In s.heap) (I:ObjM s.heap x dx C mA)
    (hs:PySem.W.findIn K (.ref C) "__setattr__"=some (some (.builtin "object.__setattr__"))) (hp:PySem.W.plainOver K C=true) (ht:PySem.W.takerIn K C name=some none) (hh:PySem.W.hasDictIn K C=true)
    (hw:PySem.Within mA ns) (hsz:ns.length<=sizeLine)
    (h:∀ h',ObjM h' x dx C (fun y=>if y=name then some v else mA y)->Heap.SameBut dx s.heap h'->Q () { s with heap:=h',toks:=s.toks + 2 }) :
    wpAny (model prog w) A (setAttr (.ref x) name v) Q E s:=by
  obtain ⟨od,J,hl⟩:=I.look
  refine PySem.W.set_plain X J hs (PySem.W.osa_open (s:={ s with toks:=s.toks + 1 }) (r:=none) X J hp ht fun b=>?_)
  obtain ⟨cd,hc,hd'⟩:=PySem.W.any_some hh
  have hx:s.heap.get? x=some ⟨.ref C,some dx,.plain,#[]⟩:=I.obj
  refine wpAny_bind (wpAny_pure (wpAny_bind (wpAny_bind (wpAny_loadPart hx (wpAny_bind (PySem.W.Looks.here (s:={ s with toks:=s.toks + 1 }) (PySem.W.looks_clsIn X hc) ?_))))))
  rw [hd']
  refine wpAny_pure (a:=some dx) (wpAny_bind (wpAny_pure (wpAny_bind ?_)))
  refine wpAny_nsSet1 (s:={ s with toks:=s.toks + 1 }) I.ns fun h' hn2 hs2=>?_
  obtain ⟨oD,esD,epD,hoD,hdD,hcD⟩:=hn2.count (PySem.Within.cons name v hw)
  refine wpAny_bind (wpAny_lookBehind hoD (by rw [hdD]; exact pastItsLine_dict (Nat.le_trans hcD (by rw [List.length_cons]; lia))) ?_)
  exact wpAny_pure (h _ ⟨(hs2.2 _ (Ne.symm I.ne)).trans I.obj,hn2,I.ne⟩ hs2)
theorem make_map {R:Result->Shared->Prop} {vs:List Value} {kw:List (Str × Value)} (X:K.In s.heap) (hm:PySem.W.makesIn K C=true)
    (hi:PySem.W.findIn K (.ref C) "__init__"=some (some (.ref f))) (hf:PySem.W.typeIn K (.ref f)=some (.type "function"))
    (h:codeAny (model prog w) (A.under (.builtin "type.__call__" ⟨.ref C :: vs,kw⟩)) (.call (.ref f) ⟨.ref (s.heap.objs.size + 1) :: vs,kw⟩) (PySem.W.InitBack (s.heap.objs.size + 1) R)
      { s with heap:=(s.heap.push PySem.W.emptyDict).push (PySem.W.instObj C s.heap.objs.size) }) :
    codeAny (model prog w) A (.call (.ref C) ⟨vs,kw⟩) R s:=by
  obtain ⟨hh,g,d,t,os⟩:=s
  exact PySem.W.make_core (PySem.W.makes_of X hm) (PySem.W.looks_findIn X hi) (fun self=>PySem.W.bind_fn X self hf) (.inl rfl) h
end
def putF (f:Str) (v:V):List (Str × V)->List (Str × V)
  | []=>[(f,v)]
  | (g,x) :: r=>if g=f then (g,v) :: r else (g,x) :: putF f v r
theorem lookup_putF (f g:Str) (v:V):∀ fs:List (Str × V),(putF f v fs).lookup g=if g=f then some v else fs.lookup g
  | []=>by
    show List.lookup g [(f,v)]=_
    by_cases h:g=f
    · have hb:(g == f)=true:=beq_iff_eq.mpr h
      simp only [List.lookup,hb,if_pos h]
    · have hb:(g == f)=false:=beq_eq_false_iff_ne.mpr h
      simp only [List.lookup,hb,if_neg h]
  | (k,x) :: r=>by
    have ih:=lookup_putF f g v r
    rw [show putF f v ((k,x) :: r)=(if k=f then (k,v) :: r else (k,x) :: putF f v r) from rfl]
    by_cases hk:k=f
    · rw [if_pos hk]
      by_cases h:g=k
      · have hb:(g == k)=true:=beq_iff_eq.mpr h
        simp only [List.lookup,hb,if_pos (h.trans hk)]
      · have hb:(g == k)=false:=beq_eq_false_iff_ne.mpr h
        simp only [List.lookup,hb,if_neg (fun e:g=f=>h (e.trans hk.symm))]
    · rw [if_neg hk]
      by_cases h:g=k
      · have hb:(g == k)=true:=beq_iff_eq.mpr h
        simp only [List.lookup,hb,if_neg (fun e:g=f=>hk (h.symm.trans e))]
      · have hb:(g == k)=false:=beq_eq_false_iff_ne.mpr h
        simp only [List.lookup,hb]
        exact ih
theorem keys_putF (f:Str) (v:V):∀ fs:List (Str × V),f∈(putF f v fs).map (·.1)/\∀ g,g∈fs.map (·.1)->g∈(putF f v fs).map (·.1)
  | []=>⟨by simp [putF],fun g h=>by simp at h⟩
  | (k,x) :: r=>by
    obtain ⟨i1,i2⟩:=keys_putF f v r
    rw [show putF f v ((k,x) :: r)=(if k=f then (k,v) :: r else (k,x) :: putF f v r) from rfl]
    by_cases hk:k=f
    · rw [if_pos hk]
      subst hk
      exact ⟨by simp,fun g h=>by simpa using h⟩
    · rw [if_neg hk]
      refine ⟨?_,fun g h=>?_⟩
      · rw [List.map_cons]
        exact List.mem_cons_of_mem _ i1
      · rw [List.map_cons] at h ⊢
        rcases List.mem_cons.mp h with e | e
        · exact List.mem_cons.mpr (.inl e)
        · exact List.mem_cons_of_mem _ (i2 g e)
theorem length_putF (f:Str) (v:V):∀ fs:List (Str × V),(putF f v fs).length<=fs.length + 1
  | []=>by simp [putF]
  | (k,x) :: r=>by
    have ih:=length_putF f v r
    rw [show putF f v ((k,x) :: r)=(if k=f then (k,v) :: r else (k,x) :: putF f v r) from rfl]
    by_cases hk:k=f
    · rw [if_pos hk,List.length_cons,List.length_cons]; lia
    · rw [if_neg hk,List.length_cons,List.length_cons]; lia
theorem RelO.some_of {v:V} {o:Option Value} (r:RelO (some v) o):∃ u,o=some u/\RelV v u:=by
  cases o with
  | none=>exact (show False from r).elim
  | some u=>exact ⟨u,rfl,r⟩
theorem RelO.none_of {o:Option Value} (r:RelO none o):o=none:=by
  cases o with
  | none=>rfl
  | some u=>exact (show False from r).elim
theorem handed_of {v:V} {u:Value} (r:RelV v u):PySem.W.handedIn u=true:=by
  cases v with
  | non=>cases (show u=Value.none from r); rfl
  | bl b=>cases (show u=Value.bool b from r); rfl
  | int i=>obtain ⟨t,e⟩:=(show ∃ t,u=Value.int i t from r); cases e; rfl
  | str x=>obtain ⟨t,e⟩:=(show ∃ t,u=Value.str x t from r); cases e; rfl
  | byt b=>obtain ⟨t,e⟩:=(show ∃ t,u=Value.bytes b t from r); cases e; rfl
  | flt b=>obtain ⟨t,e⟩:=(show ∃ t,u=Value.float b t from r); cases e; rfl
  | ref a=>cases (show u=Value.ref a from r); rfl
  | ty n=>cases (show u=Value.type n from r); rfl
section
variable {P:Program} {w:World} {H H':Hp} {h h':Heap} {a C dx:Addr} {fs fs':List (Str × V)}
theorem ins_get (hok:HOk P w H h) (e:H a=some (.ins C dx fs)):∃ mA,ObjM h a dx C mA/\(∀ f,RelO (fs.lookup f) (mA f))/\PySem.Within mA (fs.map (·.1))/\fs.length<=1000/\H dx=some (.own a):=by
  obtain ⟨d,z,ne,ob,mA,n,r,q⟩:=(show ObjOk P w H h a (.ins C dx fs) from hok a _ e)
  exact ⟨mA,⟨ob,n,ne⟩,r,q,z,d⟩
end
structure Cls (K:PySem.W.Frag) (C:Addr):Prop where
  pg:PySem.W.plainGet K C Str.empty=true
  hd:PySem.W.hasDictIn K C=true
  po:PySem.W.plainOver K C=true
  sa:PySem.W.findIn K (.ref C) "__setattr__"=some (some (.builtin "object.__setattr__"))
theorem Cls.get {K:PySem.W.Frag} {C:Addr} (c:Cls K C) (f:Str):PySem.W.plainGet K C f=true:=c.pg
def NoAttr (K:PySem.W.Frag) (C:Addr) (f:Str):Prop:=PySem.W.findIn K (.ref C) f=some none
theorem NoAttr.taker {K:PySem.W.Frag} {C:Addr} {f:Str} (n:NoAttr K C f):PySem.W.takerIn K C f=some none:=by
  unfold PySem.W.takerIn
  rw [show PySem.W.findIn K (.ref C) f=some none from n]
  rfl
structure Con (K:PySem.W.Frag) (C:Addr) (f:Str) (v:V) (u:Value):Prop where
  at_:PySem.W.findIn K (.ref C) f=some (some u)
  rel:RelV v u
  get:PySem.W.specialIn K u "__get__"=some none
  cp:PySem.W.copiedNames.contains f=false
structure Meth (K:PySem.W.Frag) (C:Addr) (m:Str) (f:Addr):Prop where
  at_:PySem.W.findIn K (.ref C) m=some (some (.ref f))
  fn:PySem.W.isFn K (.ref f)=true
  kp:PySem.W.keepIn K (.ref f)=true
section
variable {X:Cx} {pins:List (Addr × Obj)} {σ:St} {H:Hp} {s:Shared} {a C dx:Addr} {fs:List (Str × V)} {f:Str} {v:V} {A:Around} {E:Value->Shared->Prop}
theorem getattr_ok {b:Bool} {Q:Value->Shared->Prop} (I:Inv X pins σ H s) (e:H a=some (.ins C dx fs)) (c:Cls X.K C) (n:NoAttr X.K C f) (l:fs.lookup f=some v)
    (h:∀ u s',Inv X pins σ H s'->RelV v u->Q u s'):wpAny (model X.prog X.w) A (getAttr (.ref a) f b) Q E s:=by
  obtain ⟨mA,O,r,_,_,_⟩:=ins_get I.hok e
  obtain ⟨u,hu,ru⟩:=RelO.some_of (v:=v) (o:=mA f) (by rw [<- l]; exact r f)
  exact get_map I.kIn O (c.get f) c.hd n hu (handed_of ru) (h u _ (I.tok _) ru)
theorem setattr_ok {y:V} {u:Value} {Q:Unit->Shared->Prop} (I:Inv X pins σ H s) (e:H a=some (.ins C dx fs)) (c:Cls X.K C) (n:NoAttr X.K C f) (hl:fs.length < 1000) (ry:RelV y u)
    (h:∀ s',Inv X pins σ (upd H a (.ins C dx (putF f y fs))) s'->Q () s'):wpAny (model X.prog X.w) A (setAttr (.ref a) f u) Q E s:=by
  obtain ⟨mA,O,r,wi,_,ho⟩:=ins_get I.hok e
  have hz:(fs.map (·.1)).length<=sizeLine:=by rw [List.length_map,sizeLine_eq]; lia
  refine set_map I.kIn O c.sa c.po n.taker c.hd wi hz fun h' O' sb=>h _ ?_
  have hd:∃ o,h'.get? dx=some o:=let ⟨o,_,_,e',_⟩:=O'.ns; ⟨o,e'⟩
  refine I.write (x:=a) (e:=dx) (by rw [e]; exact True.intro) (.inr ho) (fun b q hb z=>(sb.2 b hb).trans z) hd ?_
  refine ⟨by rw [upd_ne O.ne]; exact ho,?_,O.ne,O'.obj,_,O'.ns,fun g=>?_,fun g hg=>?_⟩
  · have:=length_putF f y fs; lia
  · show RelO ((putF f y fs).lookup g) (if g=f then some u else mA g)
    rw [lookup_putF]
    by_cases q:g=f
    · rw [if_pos q,if_pos q]; exact ry
    · rw [if_neg q,if_neg q]; exact r g
  · by_cases q:g=f
    · rw [q]; exact (keys_putF f y fs).1
    · refine (keys_putF f y fs).2 g (wi g fun z=>hg ?_)
      show (if g=f then some u else mA g)=none
      rw [if_neg q]; exact z
theorem Inv.made (I:Inv X pins σ H s):Inv X pins σ (upd (upd H s.heap.objs.size (.own (s.heap.objs.size + 1))) (s.heap.objs.size + 1) (.ins C s.heap.objs.size []))
    { s with heap:=(s.heap.push PySem.W.emptyDict).push (PySem.W.instObj C s.heap.objs.size) }:=by
  have e1:(s.heap.push PySem.W.emptyDict).get? s.heap.objs.size=some PySem.W.emptyDict:=Heap.get?_push_size s.heap rfl
  have e2:((s.heap.push PySem.W.emptyDict).push (PySem.W.instObj C s.heap.objs.size)).get? (s.heap.objs.size + 1)=some (PySem.W.instObj C s.heap.objs.size):=by
    have:=Heap.get?_push_size (s.heap.push PySem.W.emptyDict) (o:=PySem.W.instObj C s.heap.objs.size) rfl
    rwa [Heap.size_push] at this
  have e3:(s.heap.push PySem.W.emptyDict).Ns s.heap.objs.size (fun _=>none):=⟨PySem.W.emptyDict,#[],_,e1,rfl,(fun e he=>absurd he (by simp)),fun _=>rfl⟩
  have I1:=I.laid (a:=s.heap.objs.size) (o:=.own (s.heap.objs.size + 1)) (h':=s.heap.push PySem.W.emptyDict) (t':=s.toks) (fun b u q=>Heap.get?_push_of_some _ q) (Nat.le_refl _) ⟨_,e1⟩
  refine I1.laid (a:=s.heap.objs.size + 1) (o:=.ins C s.heap.objs.size []) (t':=s.toks) (fun b u q=>Heap.get?_push_of_some _ q) (Nat.le_of_eq (Heap.size_push _ _)) ?_
  have ne:s.heap.objs.size≠s.heap.objs.size + 1:=Nat.ne_of_lt (Nat.lt_succ_self _)
  refine ⟨by rw [upd_ne ne,upd_same],Nat.zero_le _,ne,e2,fun _=>none,(Heap.Ns1.of_empty e3).at fun o q=>Heap.get?_push_of_some _ q,fun _=>True.intro,fun y hy=>absurd rfl hy⟩
theorem attr_of {prog:Program} {w:World} {env:Env} {e:Expr} {f:Str} {pos:Pos} {s:Shared} {Q:Value->Shared->Prop} (hb:attributeBase e f env (eval e env)=eval e env)
    (h:wpAny (model prog w) A (eval e env) (fun o s₁=>wpAny (model prog w) A (getAttr o f true) Q E s₁) E s):wpAny (model prog w) A (eval (.Attribute e f pos) env) Q E s :=
  Attribute_any_ h (by rw [arm_eval_Attribute,hb])
end
def tFld (K:PySem.W.Frag) (ta:TE) (f:Str):TE:=fun σ H Q=>ta σ H fun x H1=>∃ a C dx fs v,x=.ref a/\H1 a=some (.ins C dx fs)/\Cls K C/\NoAttr K C f/\fs.lookup f=some v/\Q v H1
def sFld (K:PySem.W.Frag) (ta tv:TE) (f:Str):TS:=fun D σ H=>tv σ H fun y H1=>ta σ H1 fun x H2=>∃ a C dx fs,x=.ref a/\H2 a=some (.ins C dx fs)/\Cls K C/\NoAttr K C f/\fs.length < 1000 /\
  D.nx σ (upd H2 a (.ins C dx (putF f y fs)))
section
variable {X:Cx} {o e value:Expr} {f:Str} {pos pos' tpos:Pos} {ta tv:TE}
theorem pe_fld (he:PE X e ta) (hb:attributeBase e f X.env (eval e X.env)=eval e X.env):PE X (.Attribute e f pos) (tFld X.K ta f):=by
  intro pins s σ H Q I h
  refine attr_of hb (thn (he pins s σ H _ I h) fun u s1 ⟨x,H1,I1,rx,a,C,dx,fs,v,ex,ea,c,n,l,q⟩=>?_)
  subst ex
  obtain rfl:u=Value.ref a:=rx
  exact getattr_ok I1 ea c n l fun u' s2 I2 ru=>⟨v,H1,I2,ru,q⟩
theorem ps_fld (ha:PE X o ta) (hv:PE X value tv) (hs:swapsWith value (some (.Attribute o f pos')) pos.line X.env=pure false):PS X (.Assign [.Attribute o f pos'] value pos) (sFld X.K ta tv f):=by
  intro pins s σ H D I h
  refine plainObj_wpAny_Assign_Attribute (thn (hv pins s σ H _ I h) fun u s1 ⟨y,H1,I1,ry,q⟩=>thn (ha pins s1 σ H1 _ I1 q) fun ov s2 ⟨x,H2,I2,rx,a,C,dx,fs,ex,ea,c,n,l,q2⟩=>?_) hs
  subst ex
  obtain rfl:ov=Value.ref a:=rx
  exact setattr_ok I2 ea c n l ry fun s3 I3=>⟨σ,_,I3,q2⟩
end
section
variable {X:Cx} {pins:List (Addr × Obj)} {σ:St} {H:Hp} {s:Shared} {A:Around} {E:Value->Shared->Prop} {Q:Value->Shared->Prop} {c:Value} {b:Bool}
inductive TyOf (K:PySem.W.Frag) (H:Hp):V->Value->Prop where
  | non:TyOf K H .non (.type "NoneType")
  | bl (x:Bool):TyOf K H (.bl x) (.type "bool")
  | int (i:Int):TyOf K H (.int i) (.type "int")
  | str (x:Str):TyOf K H (.str x) (.type "str")
  | flt (x:UInt64):TyOf K H (.flt x) (.type "float")
  | lst {a:Addr} {xs:List V} (e:H a=some (.lst xs)):TyOf K H (.ref a) (.type "list")
  | frz {a:Addr} {o:Obj} {xs:List V} (e:H a=some (.frz o (.lst xs))):TyOf K H (.ref a) (.type "list")
  | tup {a:Addr} {xs:List V} (e:H a=some (.tup xs)):TyOf K H (.ref a) (.type "tuple")
  | dK {a:Addr} {kvs:List (Key × V)} (e:H a=some (.dK kvs)):TyOf K H (.ref a) (.type "dict")
  | dT {a:Addr} {kvs:List (List Key × V)} (e:H a=some (.dT kvs)):TyOf K H (.ref a) (.type "dict")
  | ins {a C dx:Addr} {fs:List (Str × V)} (e:H a=some (.ins C dx fs)) (cl:Cls K C) (ha:PySem.W.findIn K (.ref C) "__class__"=some (some (.builtin "object.__class__")))
      (hn:PySem.W.specialIn K (.builtin "object.__class__") "__get__"=some (some (.builtin "getset_descriptor.__get__"))) (htk:PySem.W.takesIn K (.builtin "object.__class__")=some true)
      (hm:PySem.W.mroIn K C (.type "object")=some true):TyOf K H (.ref a) (.ref C)
theorem isinst_ok {x:V} {u t:Value} (I:Inv X pins σ H s) (rx:RelV x u) (ty:TyOf X.K H x t) (e:PySem.W.kitOne X.K t c=some b) (h:∀ tk,Q (.bool b) { s with toks:=tk }) :
    wpAny (model X.prog X.w) A (call (.builtin "isinstance") [u,c]) Q E s:=by
  cases ty with
  | non=>cases (show u=Value.none from rx); exact PySem.W.kia_one PySem.W.kitx_none I.kIn True.intro e (fun z=>nomatch z) h
  | bl y=>cases (show u=Value.bool y from rx); exact PySem.W.kia_one PySem.W.kitx_bool I.kIn True.intro e (fun z=>nomatch z) h
  | int i=>obtain ⟨t,q⟩:=(show ∃ t,u=Value.int i t from rx); cases q; exact PySem.W.kia_one PySem.W.kitx_int I.kIn True.intro e (fun z=>nomatch z) h
  | str y=>obtain ⟨t,q⟩:=(show ∃ t,u=Value.str y t from rx); cases q; exact PySem.W.kia_one PySem.W.kitx_str I.kIn True.intro e (fun z=>nomatch z) h
  | flt y=>obtain ⟨t,q⟩:=(show ∃ t,u=Value.float y t from rx); cases q; exact PySem.W.kia_one PySem.W.kitx_float I.kIn True.intro e (fun z=>nomatch z) h
  | @lst a xs ea =>
    cases (show u=Value.ref a from rx)
    obtain ⟨_,_,n,_,h1⟩:=(show ObjOk X.prog X.w H s.heap a (.lst xs) from I.hok a _ ea)
    exact PySem.W.kia_one PySem.W.kitx_list I.kIn ⟨_,h1,rfl⟩ e (fun z=>nomatch z) h
  | @frz a ob xs ea =>
    cases (show u=Value.ref a from rx)
    obtain ⟨_,_,_,n,_,h1⟩:=(show ObjOk X.prog X.w H s.heap a (.frz ob (.lst xs)) from I.hok a _ ea)
    exact PySem.W.kia_one PySem.W.kitx_list I.kIn ⟨_,h1,rfl⟩ e (fun z=>nomatch z) h
  | @tup a xs ea =>
    cases (show u=Value.ref a from rx)
    obtain ⟨_,_,_,p⟩:=(show ObjOk X.prog X.w H s.heap a (.tup xs) from I.hok a _ ea)
    obtain ⟨o,h1,h2,_⟩:=p
    exact PySem.W.kia_one PySem.W.kitx_tuple I.kIn ⟨o,h1,h2⟩ e (fun z=>nomatch z) h
  | @dK a kvs ea =>
    cases (show u=Value.ref a from rx)
    obtain ⟨_,_,vs,_,p⟩:=(show ObjOk X.prog X.w H s.heap a (.dK kvs) from I.hok a _ ea)
    obtain ⟨o,es,ep,h1,h2,_⟩:=p
    exact PySem.W.kia_one PySem.W.kitx_dict I.kIn ⟨o,h1,h2.1⟩ e (fun z=>nomatch z) h
  | @dT a kvs ea =>
    cases (show u=Value.ref a from rx)
    obtain ⟨_,_,xs,_,o,es,ep,h1,h2,_⟩:=(show ObjOk X.prog X.w H s.heap a (.dT kvs) from I.hok a _ ea)
    exact PySem.W.kia_one PySem.W.kitx_dict I.kIn ⟨o,h1,h2.1⟩ e (fun z=>nomatch z) h
  | @ins a C dx fs ea cl ha hn htk hm =>
    cases (show u=Value.ref a from rx)
    obtain ⟨mA,O,_⟩:=ins_get I.hok ea
    obtain ⟨od,J,_⟩:=O.look
    exact PySem.W.kia_one (PySem.W.kitx_own (cl.get _) cl.hd ha hn htk hm) I.kIn J e (fun z=>nomatch z) h
end
end L2
namespace L2
open PySem PySem.Spec PyProof.Rows
structure Room (k:Nat) (A:Around):Prop where
  hd:A.handled=none
  dp:A.depth + 3 * k + 5 < recursionLimit
  un:A.units + 16 * k + 200 < cLine
theorem Room.mono {j k:Nat} {A:Around} (r:Room k A) (h:j<=k):Room j A:=⟨r.hd,by have:=r.dp; lia,by have:=r.un; lia⟩
theorem Room.deeper {k:Nat} {A:Around} (r:Room (k + 1) A) (env:Env):Room k (A.deeper env) :=
  ⟨r.hd,by have:=r.dp; show A.depth + 1 + 3 * k + 5 < _; lia,by have:=r.un; show A.units + 3 + 16 * k + 200 < _; lia⟩
theorem Room.in1 {k:Nat} {A:Around} (r:Room (k + 1) A):Room k A.in1 :=
  ⟨r.hd,by have:=r.dp; show A.depth + 3 * k + 5 < _; lia,by have:=r.un; show A.units + 1 + 16 * k + 200 < _; lia⟩
theorem make_depth {A:Around} {C:Addr} {us:List Value} {kw:List (Str × Value)}:(A.under (.builtin "type.__call__" ⟨.ref C :: us,kw⟩)).depth=A.depth + 1:=by
  first | rfl | simp [Around.under,Code.weight,Code.isCreation,Code.isGuard,Code.isCaller,Code.frames,Code.isFrame,guardIds]
theorem make_units {A:Around} {C:Addr} {us:List Value} {kw:List (Str × Value)}:(A.under (.builtin "type.__call__" ⟨.ref C :: us,kw⟩)).units=A.units + 1:=by
  first | rfl | simp [Around.under,Code.cUnits,Code.frames,Code.isFrame]
theorem Room.make {k:Nat} {A:Around} (r:Room (k + 1) A) (C:Addr) (us:List Value) (kw:List (Str × Value)):Room k (A.under (.builtin "type.__call__" ⟨.ref C :: us,kw⟩)) :=
  ⟨r.hd,by have:=r.dp; rw [make_depth]; lia,by have:=r.un; rw [make_units]; lia⟩
theorem Room.depth {k:Nat} {A:Around} (r:Room k A):A.depth < recursionLimit:=by have:=r.dp; lia
theorem Room.units {k:Nat} {A:Around} (r:Room k A):A.units + 64 < cLine:=by have:=r.un; lia
theorem Room.units0 {k:Nat} {A:Around} (r:Room k A):A.units < cLine:=by have:=r.un; lia
def tNil:TA:=fun _ H Q=>Q [] H
def tCons (ta:TE) (tr:TA):TA:=fun σ H Q=>ta σ H fun x H1=>tr σ H1 fun xs H2=>Q (x :: xs) H2
section
variable {X:Cx} {e:Expr} {es:List Expr} {te:TE} {t:TA} {pos:Pos}
theorem pa_nil:PA X [] tNil:=fun _ _ _ _ H Q I h=>Calls.spliced_nil ⟨[],H,I,.nil,h⟩
theorem pa_cons (ha:PE X e te) (hr:PA X es t) (hs:starEach (e :: es) X.env=(false,eval e X.env) :: starEach es X.env:=by rfl):PA X (e :: es) (tCons te t):=by
  intro pos pins s σ H Q I h
  rw [hs]
  show wpAny _ _ (spliced ((false,eval e X.env) :: backTo pos (starEach es X.env))) _ _ s
  refine Calls.spliced_cons (thn (ha pins s σ H _ I h) fun u s1 ⟨x,H1,I1,r1,q1⟩=>?_)
  exact thn (hr pos pins s1 σ H1 _ I1 q1) fun us s2 ⟨xs,H2,I2,r2,q2⟩=>⟨x :: xs,H2,I2,.cons r1 r2,q2⟩
def tTup (t:TA):TE:=fun σ H Q=>t σ H fun xs H1=>xs.length<=sizeLine/\∀ p,H1 p=none->Q (.ref p) (upd H1 p (.tup xs))
def tLst (t:TA):TE:=fun σ H Q=>t σ H fun xs H1=>xs.length<=sizeLine/\∀ p,H1 p=none->Q (.ref p) (upd H1 p (.lst xs))
theorem pe_tup {x1} (h:PA X es t):PE X (.Tuple es x1 pos) (tTup t):=by
  intro pins s σ H Q I hq
  refine wpAny_Tuple_spliced (thn (h pos pins s σ H _ I hq) fun us s1 ⟨xs,H1,I1,r,z,q⟩=>⟨by rw [<- r.length]; exact z,?_⟩)
  have hf:H1 s1.heap.objs.size=none:=I1.hok.fresh (Nat.le_refl _)
  refine ⟨.ref s1.heap.objs.size,upd H1 s1.heap.objs.size (.tup xs),I1.laid (t':=s1.toks) (fun b u e=>Heap.get?_push_of_some _ e) (Nat.le_refl _) ?_,rfl,q _ hf⟩
  exact ⟨z,us,r,⟨_,Heap.get?_push_size _ rfl,rfl,rfl,_,rfl⟩⟩
theorem pe_lst (h:PA X es t):PE X (.List es pos) (tLst t):=by
  intro pins s σ H Q I hq
  refine wpAny_List_spliced (thn (h pos pins s σ H _ I hq) fun us s1 ⟨xs,H1,I1,r,z,q⟩=>⟨by rw [<- r.length]; exact z,?_⟩)
  have hf:H1 s1.heap.objs.size=none:=I1.hok.fresh (Nat.le_refl _)
  refine ⟨.ref s1.heap.objs.size,upd H1 s1.heap.objs.size (.lst xs),I1.laid (t':=s1.toks) (fun b u e=>Heap.get?_push_of_some _ e) (Nat.le_refl _) ?_,rfl,q _ hf⟩
  exact ⟨z,us,0,r,Heap.get?_push_size _ rfl⟩
end
abbrev Sp:=List V->Hp->VK->XK->Prop
abbrev CXT:=List Env->Hp->Shared->XK->Value->Shared->Prop
structure Env0 (P:Program) (w:World) (K:PySem.W.Frag) (mg:Str->Option Value) (base:Heap) (A:Around) (outer:List Env) (s:Shared) (H:Hp):Prop where
  frames:A.frames=some outer
  mod:Mod K mg base
  bs:∀ b o,base.get? b=some o->s.heap.get? b=some o/\H b=none
  bsz:base.objs.size<=s.heap.objs.size
  funs:s.heap.FunFrames base outer
  frf:∀ b∈frs outer,H b=none
  hok:HOk P w H s.heap
  bare:AllBare s.gens
def CE (outer:List Env) (P:Program) (w:World) (H:Hp) (s:Shared) (Q:VK) (u:Value) (s':Shared):Prop :=
  ∃ v H',s'.os=s.os/\AllBare s'.gens/\Un (frs outer) [] H H' s.heap s'.heap/\HOk P w H' s'.heap/\RelV v u/\Q v H'
def CR (CX:CXT) (outer:List Env) (P:Program) (w:World) (H:Hp) (s:Shared) (Q:VK) (E:XK) (r:Result) (s':Shared):Prop :=
  match r with
  | .ok (.ret u)=>CE outer P w H s Q u s'
  | .ok _=>False
  | .error e=>CX outer H s E e s'
structure FnOk (P:Program) (w:World) (K:PySem.W.Frag) (mg:Str->Option Value) (base:Heap) (CX:CXT) (k:Nat) (f:Addr) (fd:FuncData) (ps:List Str) (sp:Sp):Prop where
  len:∀ vs H Q E,sp vs H Q E->vs.length=ps.length
  run:∀ (A:Around) (outer:List Env) (s:Shared) (H:Hp) (args:Args) (us:List Value) (vs:List V) (Q:VK) (E:XK),Room k A->Env0 P w K mg base A outer s H->BindsTo s fd args (ps.zip us)->Vals vs us->sp vs H Q E ->
    codeAny (model P w) A (.call (.ref f) args) (CR CX outer P w H s Q E) s
theorem FnOk.mono {P:Program} {w:World} {K:PySem.W.Frag} {mg:Str->Option Value} {base:Heap} {CX:CXT} {j k:Nat} {f:Addr} {fd:FuncData} {ps:List Str} {sp:Sp} (F:FnOk P w K mg base CX j f fd ps sp) (h:j<=k) :
    FnOk P w K mg base CX k f fd ps sp:=⟨F.len,fun A outer s H args us vs Q E hr=>F.run A outer s H args us vs Q E (hr.mono h)⟩
theorem FnOk.imp {P:Program} {w:World} {K:PySem.W.Frag} {mg:Str->Option Value} {base:Heap} {CX:CXT} {k:Nat} {f:Addr} {fd:FuncData} {ps:List Str} {sp sp':Sp} (F:FnOk P w K mg base CX k f fd ps sp)
    (h:∀ vs H Q E,sp' vs H Q E->sp vs H Q E):FnOk P w K mg base CX k f fd ps sp' :=
  ⟨fun vs H Q E q=>F.len vs H Q E (h _ _ _ _ q),fun A outer s H args us vs Q E hr he hb hv hs=>F.run A outer s H args us vs Q E hr he hb hv (h _ _ _ _ hs)⟩
theorem Env0.make {P:Program} {w:World} {K:PySem.W.Frag} {mg:Str->Option Value} {base:Heap} {A:Around} {outer:List Env} {s:Shared} {H:Hp} (e:Env0 P w K mg base A outer s H) (C:Addr) (us:List Value) (kw:List (Str × Value)) :
    Env0 P w K mg base (A.under (.builtin "type.__call__" ⟨.ref C :: us,kw⟩)) outer s H:=⟨by first | exact e.frames | (simpa [Around.under,Code.envs,Code.isFrame,pushEnvs] using e.frames),e.mod,e.bs,e.bsz,e.funs,e.frf,e.hok,e.bare⟩
theorem Env0.in1 {P:Program} {w:World} {K:PySem.W.Frag} {mg:Str->Option Value} {base:Heap} {A:Around} {outer:List Env} {s:Shared} {H:Hp} (e:Env0 P w K mg base A outer s H) :
    Env0 P w K mg base A.in1 outer s H:=⟨e.frames,e.mod,e.bs,e.bsz,e.funs,e.frf,e.hok,e.bare⟩
section
variable {X:Cx} {pins:List (Addr × Obj)} {σ:St} {H:Hp} {s s':Shared}
theorem Inv.env0 (I:Inv X pins σ H s):Env0 X.prog X.w X.K X.mg X.base X.A X.stack s H :=
  ⟨I.ok.frames,I.ok.mod,I.bs,Nat.le_trans I.ok.bsz I.sz,I.stack,I.stkFree,I.hok,I.bare⟩
theorem Inv.after {Q:VK} {u:Value} (I:Inv X pins σ H s) (h:CE X.stack X.prog X.w H s Q u s'):EP X pins σ Q u s':=by
  obtain ⟨v,H',os,bare,un,hok,r,q⟩:=h
  obtain ⟨hh,g,d,t,os'⟩:=s'
  obtain rfl:os'=s.os:=os
  exact ⟨v,H',I.call (h':=hh) (g':=g) (d':=d) (t':=t) (ch:=[]) un hok bare (fun b z=>absurd z (by simp)),r,q⟩
end
def tCall (sp:Sp) (dvs:List V) (E:XK) (t:TA):TE:=fun σ H Q=>t σ H fun vs H1=>sp (vs ++ dvs) H1 Q E
def tMake (C:Addr) (sp:Sp) (dvs:List V) (E:XK) (t:TA):TE:=fun σ H Q=>t σ H fun vs H1=>∀ x dx,H1 x=none->H1 dx=none->dx≠x ->
  sp (.ref x :: (vs ++ dvs)) (upd (upd H1 dx (.own x)) x (.ins C dx [])) (fun v H2=>v=.non/\Q (.ref x) H2) E
def Binds (K:PySem.W.Frag) (fd:FuncData) (ps:List Str) (ds:List Value):Prop :=
  ∀ (s:Shared) (us:List Value),K.In s.heap->(us ++ ds).length=ps.length->BindsTo s fd ⟨us,[]⟩ (ps.zip (us ++ ds))
theorem Binds.all {K:PySem.W.Frag} {fd:FuncData} {ps:List Str} (h:∀ us:List Value,us.length=ps.length->bindArgs fd ⟨us,[]⟩=pure (ps.zip us)):Binds K fd ps []:=fun s us _ hl=>by
  rw [List.append_nil] at hl ⊢
  exact .of_eq (h us hl)
def Passes (CX:CXT) (X:Cx) (E:XK):Prop:=∀ (pins:List (Addr × Obj)) (σ:St) (H:Hp) (s:Shared) (e:Value) (s':Shared),Inv X pins σ H s->CX X.stack H s E e s'->X.xe e s'
section
variable {X:Cx} {CX:CXT} {k:Nat} {f C:Addr} {fd:FuncData} {ps:List Str} {sp:Sp} {dvs:List V} {ds:List Value} {E:XK} {x m:Str} {p pos apos:Pos} {e o:Expr} {es:List Expr} {ta:TE} {t:TA}
theorem run_fn {pins:List (Addr × Obj)} {σ:St} {H:Hp} {s:Shared} {Q:VK} {us:List Value} {vs:List V} (F:FnOk X.prog X.w X.K X.mg X.base CX k f fd ps sp) (hr:Room k X.A) (hb:Binds X.K fd ps ds) (hd:Vals dvs ds) (hx:Passes CX X E)
    (I:Inv X pins σ H s) (r:Vals vs us) (h:sp (vs ++ dvs) H Q E):wpAny (model X.prog X.w) X.A (call (.ref f) us) (EP X pins σ Q) X.xe s:=by
  have r2:Vals (vs ++ dvs) (us ++ ds):=r.append hd
  have hl:(us ++ ds).length=ps.length:=by rw [<- r2.length]; exact F.len _ _ _ _ h
  refine wpAny_call (codeAny_mono (F.run X.A X.stack s H ⟨us,[]⟩ (us ++ ds) (vs ++ dvs) Q E hr I.env0 (hb s us I.kIn hl) r2 h) fun r s' hq=>?_)
  cases r with
  | error e=>exact hx pins σ H s e s' I hq
  | ok fl =>
    cases fl with
    | ret u=>exact I.after hq
    | next=>exact False.elim hq
    | brk=>exact False.elim hq
    | cont=>exact False.elim hq
theorem pe_call (F:FnOk X.prog X.w X.K X.mg X.base CX k f fd ps sp) (hr:Room k X.A) (hg:Gl X x) (hm:X.mg x=some (.ref f)) (hk:PySem.W.keepIn X.K (.ref f)=true) (hb:Binds X.K fd ps ds) (hd:Vals dvs ds) (hx:Passes CX X E)
    (ha:PA X (e :: es) t) (hdb:(x == ("__debug__":Str))=false:=by decide) (he:starEach (e :: es) X.env=(false,eval e X.env) :: starEach es X.env:=by rfl) (hpl:(backTo pos (starEach es X.env)).any (·.1)=false:=by rfl) :
    PE X (.Call (.Name x p) (e :: es) [] pos) (tCall sp dvs E t):=by
  intro pins s σ H Q I h
  refine wpAny_Call_Name_kw (ld_glob I hg hm ?_ hdb)
  refine PySem.W.callWith_K (h₀:=X.base) I.ok.mod.kin hk (thn (ha pos pins s σ H _ I h) fun us s1 ⟨vs,H1,I1,r,q⟩=>⟨I1.kIn,?_⟩) he hpl
  exact run_fn F hr hb hd hx I1 r q
structure Mk (K:PySem.W.Frag) (C f:Addr):Prop where
  makes:PySem.W.makesIn K C=true
  init:PySem.W.findIn K (.ref C) "__init__"=some (some (.ref f))
  fn:PySem.W.isFn K (.ref f)=true
  kp:PySem.W.keepIn K (.ref C)=true
theorem run_make {pins:List (Addr × Obj)} {σ:St} {H:Hp} {s:Shared} {Q:VK} {us:List Value} {vs:List V} (M:Mk X.K C f) (F:FnOk X.prog X.w X.K X.mg X.base CX k f fd ps sp) (hr:Room (k + 1) X.A) (hb:Binds X.K fd ps ds) (hd:Vals dvs ds)
    (hx:Passes CX X E) (I:Inv X pins σ H s) (r:Vals vs us)
    (h:∀ x dx,H x=none->H dx=none->dx≠x->sp (.ref x :: (vs ++ dvs)) (upd (upd H dx (.own x)) x (.ins C dx [])) (fun v H2=>v=.non/\Q (.ref x) H2) E) :
    wpAny (model X.prog X.w) X.A (call (.ref C) us) (EP X pins σ Q) X.xe s:=by
  have hq:=h (s.heap.objs.size + 1) s.heap.objs.size (I.hok.fresh (Nat.le_succ _)) (I.hok.fresh (Nat.le_refl _)) (Nat.ne_of_lt (Nat.lt_succ_self _))
  have I2:=Inv.made (C:=C) I
  have r2:Vals (V.ref (s.heap.objs.size + 1) :: (vs ++ dvs)) (Value.ref (s.heap.objs.size + 1) :: (us ++ ds)):=.cons rfl (r.append hd)
  have hl:(Value.ref (s.heap.objs.size + 1) :: us ++ ds).length=ps.length:=by
    have e:=r2.length
    rw [F.len _ _ _ _ hq] at e
    exact e.symm
  refine wpAny_call (make_map (f:=f) I.kIn M.makes M.init (beq_iff_eq.mp M.fn) (codeAny_mono (F.run _ X.stack _ _ ⟨Value.ref (s.heap.objs.size + 1) :: us,[]⟩ (Value.ref (s.heap.objs.size + 1) :: (us ++ ds)) _ _ E (hr.make C us [])
    (I2.env0.make C us []) (hb _ (Value.ref (s.heap.objs.size + 1) :: us) I2.kIn hl) r2 hq) fun r s' hq'=>?_))
  cases r with
  | error e=>exact hx pins σ _ _ e s' I2 hq'
  | ok fl =>
    cases fl with
    | ret u =>
      obtain ⟨v,H',I3,rv,ev,q3⟩:=I2.after hq'
      subst ev
      exact ⟨rv,⟨V.ref (s.heap.objs.size + 1),H',I3,rfl,q3⟩⟩
    | next=>exact False.elim hq'
    | brk=>exact False.elim hq'
    | cont=>exact False.elim hq'
theorem pe_make (M:Mk X.K C f) (F:FnOk X.prog X.w X.K X.mg X.base CX k f fd ps sp) (hr:Room (k + 1) X.A) (hg:Gl X x) (hm:X.mg x=some (.ref C)) (hb:Binds X.K fd ps ds) (hd:Vals dvs ds) (hx:Passes CX X E)
    (ha:PA X (e :: es) t) (hdb:(x == ("__debug__":Str))=false:=by decide) (he:starEach (e :: es) X.env=(false,eval e X.env) :: starEach es X.env:=by rfl) (hpl:(backTo pos (starEach es X.env)).any (·.1)=false:=by rfl) :
    PE X (.Call (.Name x p) (e :: es) [] pos) (tMake C sp dvs E t):=by
  intro pins s σ H Q I h
  refine wpAny_Call_Name_kw (ld_glob I hg hm ?_ hdb)
  refine PySem.W.callWith_K (h₀:=X.base) I.ok.mod.kin M.kp (thn (ha pos pins s σ H _ I h) fun us s1 ⟨vs,H1,I1,r,q⟩=>⟨I1.kIn,?_⟩) he hpl
  exact run_make M F hr hb hd hx I1 r q
end
section
variable {X:Cx} {CX:CXT} {k:Nat} {f C:Addr} {fd:FuncData} {ps ks:List Str} {sp:Sp} {E:XK} {x m:Str} {p pos apos kpos:Pos} {e o:Expr} {es:List Expr} {kws:List Keyword} {te ta:TE} {t tk:TA} {nm:Option Str}
structure KBinds (K:PySem.W.Frag) (fd:FuncData) (ps ks:List Str) (g:List Value->List Value->List Value) (gV:List V->List V->List V):Prop where
  to:∀ (s:Shared) (us ws:List Value),K.In s.heap->(g us ws).length=ps.length->BindsTo s fd ⟨us,ks.zip ws⟩ (ps.zip (g us ws))
  rel:∀ {vs:List V} {us:List Value} {zs:List V} {ws:List Value},Vals vs us->Vals zs ws->Vals (gV vs zs) (g us ws)
variable {g:List Value->List Value->List Value} {gV:List V->List V->List V}
end
structure FnScope (N P:List Str) (sc:Scope):Prop where
  kind:sc.kind=.function
  co:sc.isCoroutine=false
  gen:sc.isGenerator=false
  nd:N.Nodup
  pre:N.take P.length=P
  par:∀ x∈P,sc.names.lookup x=some .local\/sc.names.lookup x=some .cell
  nofree:∀ y∈sc.names,y.2≠.free
theorem bindL_out {kindOf:Str->Option NameKind} {x:Str}:∀ {binds:List (Str × Value)} {m:Str->Option Value},(∀ v,(x,v) ∉ binds)->bindL kindOf binds m x=m x
  | [],_,_=>rfl
  | (n,v) :: r,m,h=>by
    unfold bindL
    rw [bindL_out fun w hw=>h w (List.mem_cons_of_mem _ hw)]
    split
    · have:x≠n:=by rintro rfl; exact h v List.mem_cons_self
      simp [this]
    · rfl
theorem bindC_out {kindOf:Str->Option NameKind} {x:Str}:∀ {binds:List (Str × Value)} {m:Str->Option Value},(∀ v,(x,v) ∉ binds)->bindC kindOf binds m x=m x
  | [],_,_=>rfl
  | (n,v) :: r,m,h=>by
    unfold bindC
    rw [bindC_out fun w hw=>h w (List.mem_cons_of_mem _ hw)]
    split
    · rfl
    · have:x≠n:=by rintro rfl; exact h v List.mem_cons_self
      simp [this]
theorem bindL_get {kindOf:Str->Option NameKind} {x:Str} {v:Value}:∀ {P:List Str} {vs:List Value} {i:Nat} {m:Str->Option Value},P.Nodup->P[i]?=some x->vs[i]?=some v->kindOf x=some .local ->
    bindL kindOf (P.zip vs) m x=some v
  | [],_,_,_,_,h,_,_=>by simp at h
  | _ :: _,[],_,_,_,_,h,_=>by simp at h
  | p :: P,w :: vs,0,m,nd,h1,h2,hk=>by
    simp at h1 h2; subst h1; subst h2
    show bindL kindOf ((p,w) :: P.zip vs) m p=_
    unfold bindL
    rw [bindL_out fun v hv=>(List.nodup_cons.mp nd).1 (List.of_mem_zip hv).1,if_pos hk]
    simp
  | p :: P,w :: vs,i + 1,m,nd,h1,h2,hk=>by
    show bindL kindOf ((p,w) :: P.zip vs) m x=_
    unfold bindL
    exact bindL_get (i:=i) (List.nodup_cons.mp nd).2 (by simpa using h1) (by simpa using h2) hk
theorem bindC_get {kindOf:Str->Option NameKind} {x:Str} {v:Value}:∀ {P:List Str} {vs:List Value} {i:Nat} {m:Str->Option Value},P.Nodup->P[i]?=some x->vs[i]?=some v->kindOf x≠some .local ->
    bindC kindOf (P.zip vs) m x=some v
  | [],_,_,_,_,h,_,_=>by simp at h
  | _ :: _,[],_,_,_,_,h,_=>by simp at h
  | p :: P,w :: vs,0,m,nd,h1,h2,hk=>by
    simp at h1 h2; subst h1; subst h2
    show bindC kindOf ((p,w) :: P.zip vs) m p=_
    unfold bindC
    rw [bindC_out fun v hv=>(List.nodup_cons.mp nd).1 (List.of_mem_zip hv).1,if_neg hk]
    simp
  | p :: P,w :: vs,i + 1,m,nd,h1,h2,hk=>by
    show bindC kindOf ((p,w) :: P.zip vs) m x=_
    unfold bindC
    exact bindC_get (i:=i) (List.nodup_cons.mp nd).2 (by simpa using h1) (by simpa using h2) hk
def start (N:List Str) (vs:List V):St:=vs.map some ++ List.replicate (N.length - vs.length) none
def cxOf (CX:CXT) (P:Program) (w:World) (K:PySem.W.Frag) (mg:Str->Option Value) (base:Heap) (N:List Str) (qual:Str) (scope:Scope) (f:Addr) (cd:Value) (A:Around) (outer:List Env) (s:Shared) (H:Hp) (E:XK):Cx where
  prog:=P
  w:=w
  K:=K
  mg:=mg
  base:=base
  A:=A.deeper (envOfC qual scope s.heap.objs.size f cd)
  N:=N
  s₀:=s
  H₀:=H
  env:=envOfC qual scope s.heap.objs.size f cd
  outer:=outer
  stack:=envOfC qual scope s.heap.objs.size f cd :: outer
  ex:=[]
  calm:=true
  fn:=fun _=>true
  pn:=[]
  xe:=fun e s'=>wpAny (model P w) (A.deeper (envOfC qual scope s.heap.objs.size f cd)) (leaving (envOfC qual scope s.heap.objs.size f cd) e) (fun _ s''=>CX outer H s E e s'') (fun e' s''=>CX outer H s E e' s'') s'
theorem cell_has {sc:Scope} {n:Nat} {x:Str} (h:sc.names.lookup x=some .cell):∃ c,(cellsFrom n sc.names []).lookup x=some c:=by
  have q:=PySem.W.cellsFrom_some sc.names n [] (.inl h)
  exact Option.isSome_iff_exists.mp q
theorem inv_start {CX:CXT} {P:Program} {w:World} {K:PySem.W.Frag} {mg:Str->Option Value} {base:Heap} {N ps:List Str} {qual:Str} {scope:Scope} {f:Addr} {cd:Value} {A:Around} {outer:List Env} {s s1:Shared} {H:Hp} {E:XK} {us:List Value} {vs:List V}
    (S:FnScope N ps scope) (hd:A.handled=none) (e0:Env0 P w K mg base A outer s H) (hl:vs.length=ps.length) (r:Vals vs us)
    (x:InCallC s s.heap.objs.size (bindL (envOfC qual scope s.heap.objs.size f cd).kindOf (ps.zip us) fun _=>none) (cellsFrom (s.heap.objs.size + 1) scope.names []) (bindC (envOfC qual scope s.heap.objs.size f cd).kindOf (ps.zip us) fun _=>none) s1) :
    Inv (cxOf CX P w K mg base N qual scope f cd A outer s H E) [] (start N vs) H s1:=by
  have hpl:ps.length<=N.length:=by have:=congrArg List.length S.pre; rw [List.length_take] at this; lia
  obtain ⟨h1,tk,rfl,hk⟩:=x.done
  have noA:∀ b:Addr,b ∉ (cxOf CX P w K mg base N qual scope f cd A outer s H E).ex:=fun b z=>absurd (show b∈([]:List Addr) from z) (by simp)
  refine ⟨⟨e0.mod,S.kind,rfl,rfl,Nat.le_refl _,fun y z c h1 h2=>?_,fun y hy=>?_,fun y c _ h=>?_,fun _=>hd,Around.frames_deeper e0.frames,.inr ⟨rfl,rfl⟩,fun b z=>absurd z (noA b),e0.bs,e0.bsz,fun b _ _=>noA b,fun b z=>absurd z (noA b),e0.funs,e0.frf⟩,
    rfl,e0.bare,Un.kept hk,⟨_,x.toInCall.ns,fun i y v h1 h2 h3=>?_⟩,fun y c h=>⟨_,x.cell y c h⟩,e0.hok.fresh (Nat.le_refl _),fun y c h=>?_,fun p hp=>absurd (show p∈([]:List (Addr × Obj)) from hp) (by simp),e0.hok.kept hk,?_⟩
  · exact name_of_addr x.apart (PySem.mem_of_lookup h1) (PySem.mem_of_lookup h2)
  · have hy:scope.names.lookup y=some .cell\/scope.names.lookup y=some .free:=hy
    rcases hy with hy | hy
    · exact cell_has hy
    · exact absurd rfl (S.nofree _ (PySem.mem_of_lookup hy))
  · exact Nat.le_of_lt (x.above y c (PySem.mem_of_lookup h))
  · have hi:i < vs.length:=by
      unfold start at h2
      by_cases hi:i < vs.length
      · exact hi
      · rw [List.getElem?_append_right (by simpa using hi)] at h2
        rw [List.getElem?_replicate] at h2
        split at h2 <;> cases h2
    have ha:vs[i]?=some v:=by
      unfold start at h2
      rw [List.getElem?_append_left (by simpa using hi),List.getElem?_map] at h2
      cases e:vs[i]? with
      | none=>rw [e] at h2; cases h2
      | some a=>rw [e] at h2; cases h2; rfl
    obtain ⟨u,hu,rv⟩:=r.get ha
    have hp:ps[i]?=some y:=by
      rw [<- S.pre,List.getElem?_take_of_lt (by lia)]; exact h1
    have ndP:ps.Nodup:=by rw [<- S.pre]; exact S.nd.sublist (List.take_sublist _ _)
    refine ⟨u,rv,?_⟩
    rcases S.par y (List.mem_of_getElem? hp) with k | k
    · exact .inl ⟨k,bindL_get ndP hp hu k⟩
    · obtain ⟨c,e⟩:=cell_has (n:=s.heap.objs.size + 1) k
      refine .inr ⟨.inl k,c,e,?_⟩
      have q:=x.cell y c e
      rw [bindC_get ndP hp hu (by show scope.names.lookup y≠_; rw [k]; decide)] at q
      exact q
  · exact e0.hok.fresh (Nat.le_of_lt (x.above y c (PySem.mem_of_lookup h)))
  · unfold start
    show _=N.length
    rw [List.length_append,List.length_map,List.length_replicate]
    lia
theorem fn_of {CX:CXT} {P:Program} {w:World} {K:PySem.W.Frag} {mg:Str->Option Value} {base:Heap} {k:Nat} {f:Addr} {name qual:Str} {params:Arguments} {body:List Stmt} {scope:Scope} {dV kV doc pm cdv ct oc:Value} {an od:Option Addr}
    {osl:Array (Option Value)} {N ps:List Str} {sp:Sp} (lk:K.lookup f=some ⟨oc,od,.func (PySem.W.fnOf name qual params body scope dV kV doc pm an cdv ct),osl⟩) (hcd:PySem.W.codeIn K cdv qual=true) (S:FnScope N ps scope)
    (len:∀ vs H Q E,sp vs H Q E->vs.length=ps.length)
    (hbody:∀ (A:Around) (outer:List Env) (s:Shared) (H:Hp) (vs:List V) (Q:VK) (E:XK),Room k (A.deeper (envOfC qual scope s.heap.objs.size f cdv))->sp vs H Q E ->
      ∃ t,PSs (cxOf CX P w K mg base N qual scope f cdv A outer s H E) body t/\t { nx:=fun _ H'=>Q .non H',rt:=Q } (start N vs) H) :
    FnOk P w K mg base CX (k + 1) f (PySem.W.fnOf name qual params body scope dV kV doc pm an cdv ct) ps sp:=by
  refine ⟨len,fun A outer s H args us vs Q E hr e0 hb r hsp=>?_⟩
  have hl:=len _ _ _ _ hsp
  have KX:K.In s.heap:=e0.mod.kin.keeps fun b o e=>(e0.bs b o e).1
  have lim:s.heap.NoLimit:=e0.mod.nolimit.keeps fun b o e=>(e0.bs b o e).1
  have hkind:∀ y∈ps.zip us,scope.names.lookup y.1=some .local\/(scope.names.lookup y.1=some .cell/\((cellsFrom (s.heap.objs.size + 1) scope.names []).lookup y.1).isSome=true):=fun ⟨n,v⟩ hy=>by
    rcases S.par n (List.of_mem_zip hy).1 with q | q
    · exact .inl q
    · exact .inr ⟨q,PySem.W.cellsFrom_some _ _ _ (.inl q)⟩
  refine codeAny_call_function hr.depth (KX _ _ lk) rfl S.co S.gen rfl (PySem.W.codeRec_of KX hcd) (hb _ _ _ _ ?_)
  refine wpAny_newFunctionEnv_cells S.kind hkind fun env he s1 x=>?_
  subst he
  refine ⟨lim.keeps x.toInCall.keep,codeAny_func ?_⟩
  obtain ⟨t,ht,hq⟩:=hbody A outer s H vs Q E (hr.deeper _) hsp
  have I:Inv (cxOf CX P w K mg base N qual scope f cdv A outer s H E) [] (start N vs) H s1:=inv_start S hr.hd e0 hl r x
  refine wpAny_mono (ht [] s1 (start N vs) H _ I hq) (fun fl s' hs=>?_) fun e s' hs=>hs
  have fin:∀ {σ':St} {H':Hp} {v:V} {u:Value},Inv (cxOf CX P w K mg base N qual scope f cdv A outer s H E) [] σ' H' s'->RelV v u->Q v H'->CE outer P w H s Q u s' :=
    fun {σ' H' v u} J rv q=>⟨v,H',J.os,J.bare,J.base,J.hok,rv,q⟩
  cases fl with
  | ret u =>
    obtain ⟨v,σ',H',J,rv,q⟩:=hs
    exact fin J rv q
  | next =>
    obtain ⟨σ',H',J,q⟩:=hs
    exact fin (v:=V.non) (u:=Value.none) J rfl q
  | brk =>
    obtain ⟨_,_,_,q⟩:=hs
    exact False.elim q
  | cont =>
    obtain ⟨_,_,_,q⟩:=hs
    exact False.elim q
end L2
namespace L2
open PySem PySem.Spec PyProof.Rows
section
variable {X:Cx} {x:Str} {p pos:Pos} {e:Expr} {es:List Expr} {t:TA} {id T:String} {r:List V->Hp->VK->Prop}
def tCB (r:List V->Hp->VK->Prop) (t:TA):TE:=fun σ H Q=>t σ H fun vs H1=>r vs H1 Q
theorem pe_callB (hc:CallR X (.builtin id) r) (hg:Gl X x) (hm:X.mg x=none) (hv:bootBuiltins x=some (.builtin id)) (ha:PA X (e :: es) t) (hn:x≠"__name__":=by decide) (hdb:(x == ("__debug__":Str))=false:=by decide)
    (he:starEach (e :: es) X.env=(false,eval e X.env) :: starEach es X.env:=by rfl) (hpl:(backTo pos (starEach es X.env)).any (·.1)=false:=by rfl):PE X (.Call (.Name x p) (e :: es) [] pos) (tCB r t):=by
  intro pins s σ H Q I h
  refine wpAny_Call_Name_kw (ld_blt I hg hm hv ?_ hn hdb)
  exact PyProof.Rows.callWith_builtin1 (thn (ha pos pins s σ H _ I h) fun us s1 ⟨vs,H1,I1,r1,q1⟩=>hc pins s1 σ H1 vs us Q I1 r1 q1) he hpl
theorem pe_callTy (hc:CallR X (.type T) r) (hg:Gl X x) (hm:X.mg x=none) (hv:bootBuiltins x=some (.type T)) (ha:PA X (e :: es) t) (hn:x≠"__name__":=by decide) (hdb:(x == ("__debug__":Str))=false:=by decide)
    (he:starEach (e :: es) X.env=(false,eval e X.env) :: starEach es X.env:=by rfl) (hpl:(backTo pos (starEach es X.env)).any (·.1)=false:=by rfl):PE X (.Call (.Name x p) (e :: es) [] pos) (tCB r t):=by
  intro pins s σ H Q I h
  refine wpAny_Call_Name_kw (ld_blt I hg hm hv ?_ hn hdb)
  exact PyProof.Rows.callWith_type1 (thn (ha pos pins s σ H _ I h) fun us s1 ⟨vs,H1,I1,r1,q1⟩=>hc pins s1 σ H1 vs us Q I1 r1 q1) he hpl
end
end L2
namespace HT
open PySem PyProof.Rows
section
open PySem.SeqAt
open PySem.AutoSeq1 (wpAny_loadPart')
open PySem.MeetsSeq PySem.MeetsSeq2 PySem.MeetsSeq3
end
section
variable {prog:Program} {w:World} {A:Around} {E:Value->Shared->Prop} {s:Shared}
theorem cat_tup {t b:Addr} {vs ws:List Value} {Q:Value->Shared->Prop} (ht:IsTup s.heap t vs.toArray) (hb:IsTup s.heap b ws.toArray) (hv:vs≠[])
    (h1:ws=[]->Q (.ref t) s) (h2:ws≠[]->Q (.ref s.heap.objs.size) { s with heap:=s.heap.push { cls:=.type "tuple",data:=.seq (vs ++ ws).toArray } })
    (hsz:vs.length + ws.length<=sizeLine):wpAny (model prog w) A (binaryOp .Add (.ref t) (.ref b)) Q E s:=by
  obtain ⟨⟨cls,dd,data,sl⟩,ho,hc,n,hd⟩:=id ht
  obtain ⟨⟨cls2,dd2,data2,sl2⟩,ho2,hc2,n2,hd2⟩:=id hb
  simp only at hc hd hc2 hd2
  subst hc hd hc2 hd2
  have e:vs.toArray ++ ws.toArray=(vs ++ ws).toArray:=by simp
  by_cases hw:ws=[]
  · exact concat_meets ⟨_,ho,rfl⟩ ⟨_,ho2,rfl⟩ noFill_tuple_add seq_tuple_add PySem.F.slot_tuple_add PySem.F.entry_tuple_add (PySem.F.args_tuple_add_2 _ _)
      (tuple_addW1 t b vs.toArray ws.toArray n n2 dd dd2 sl sl2 (by simpa using hv) (by simp [hw])) ⟨ho,ho2,h1 hw⟩
  · refine concat_meets ⟨_,ho,rfl⟩ ⟨_,ho2,rfl⟩ noFill_tuple_add seq_tuple_add PySem.F.slot_tuple_add PySem.F.entry_tuple_add (PySem.F.args_tuple_add_2 _ _)
      (tuple_addW2 t b vs.toArray ws.toArray n n2 dd dd2 sl sl2 (by simpa using hv) (by simpa using hw) (by rw [List.size_toArray,List.size_toArray]; exact hsz)) ⟨ho,ho2,?_⟩
    rw [e]
    exact h2 hw
def sIx (n d:Nat):Option Int->Nat
  | none=>d
  | some v=>if v < 0 then (v + (n:Int)).toNat else min v.toNat n
theorem sIx_le (n d:Nat) (hd:d<=n) (o:Option Int):sIx n d o<=n:=by
  cases o with
  | none=>exact hd
  | some v =>
    show (if v < 0 then (v + (n:Int)).toNat else min v.toNat n)<=n
    by_cases hv:v < 0
    · rw [if_pos hv]; lia
    · rw [if_neg hv]; exact Nat.min_le_right _ _
theorem clip_eq (v:Int) (n d:Nat):(if v < 0 then max (v + (n:Int)) 0 else min v (n:Int))=((sIx n d (some v):Nat):Int):=by
  show (if v < 0 then max (v + (n:Int)) 0 else min v (n:Int))=(((if v < 0 then (v + (n:Int)).toNat else min v.toNat n):Nat):Int)
  by_cases hv:v < 0
  · simp only [if_pos hv]; lia
  · simp only [if_neg hv]; lia
theorem adjust_gen (lo hi:Option Int) (n:Nat):Builtin.Slice.sliceAdjust lo hi 1 (n:Int)=(((sIx n 0 lo:Nat):Int),((sIx n n hi:Nat):Int)):=by
  have h1:¬ ((1:Int) < 0):=by lia
  unfold Builtin.Slice.sliceAdjust
  simp only [h1,if_false]
  refine Prod.ext ?_ ?_
  · cases lo with
    | none=>rfl
    | some v=>exact clip_eq v n 0
  · cases hi with
    | none=>rfl
    | some v=>exact clip_eq v n n
theorem places_gen (i j:Nat):Builtin.Slice.slicePlaces (i:Int) (j:Int) 1=j - i:=by
  unfold Builtin.Slice.slicePlaces
  have h1:(1:Int) > 0:=by lia
  simp only [h1,if_true,Int.ediv_one]
  split <;> lia
theorem slicePart_ {v:Value} {o:Option Int} {Q:Option Int->Shared->Prop} (p:IsPart v o) (h:Q o s):wpAny (model prog w) A (Builtin.Slice.slicePartIndex v) Q E s:=by
  cases p with
  | none=>exact slicePart_none h
  | int i t=>exact slicePart_int h
theorem sliceApplied_gen {sl:Addr} {vl vu:Value} {lo hi:Option Int} {n:Nat} {Q:Int × Int × Nat->Shared->Prop} (hs:s.heap.IsSliceOf sl vl vu .none) (pl:IsPart vl lo) (pu:IsPart vu hi)
    (h:Q (((sIx n 0 lo:Nat):Int),1,sIx n n hi - sIx n 0 lo) s):wpAny (model prog w) A (Builtin.Slice.sliceApplied (.ref sl) (pure (n:Int))) Q E s:=by
  obtain ⟨os,hos,hcs,hds⟩:=id hs
  unfold Builtin.Slice.sliceApplied Builtin.Slice.sliceFields
  refine wpAny_bind (wpAny_bind (wpAny_field hos hds (x:=vl) rfl (wpAny_bind (wpAny_field hos hds (x:=vu) rfl (wpAny_bind (wpAny_field hos hds (x:=.none) rfl (wpAny_pure ?_)))))))
  refine wpAny_bind (slicePart_none ?_)
  show wpAny _ _ (if ((1:Int) == 0)=true then _ else _) _ _ s
  rw [if_neg (by decide)]
  refine wpAny_bind (slicePart_ pl (wpAny_bind (slicePart_ pu (wpAny_bind (wpAny_pure ?_)))))
  show wpAny _ _ (match Builtin.Slice.sliceAdjust lo hi 1 (n:Int) with | (lo,hi)=>pure (lo,(1:Int),Builtin.Slice.slicePlaces lo hi 1)) _ _ s
  rw [adjust_gen lo hi n]
  show wpAny _ _ (pure (((sIx n 0 lo:Nat):Int),(1:Int),Builtin.Slice.slicePlaces ((sIx n 0 lo:Nat):Int) ((sIx n n hi:Nat):Int) 1)) _ _ s
  rw [places_gen]
  exact wpAny_pure h
theorem pick_gen (xs:Array Value) (i k:Nat):((List.range k).filterMap fun (m:Nat)=>xs[((i:Int) + (m:Int) * 1).toNat]?).toArray=((xs.toList.drop i).take k).toArray:=by
  have e:(fun (m:Nat)=>xs[((i:Int) + (m:Int) * 1).toNat]?)=fun m=>xs[i + m]?:=by
    funext m
    have:((i:Int) + (m:Int) * 1).toNat=i + m:=by lia
    rw [this]
  rw [e]
  have:=pick_run xs i k
  rw [List.filterMap_map] at this
  have e2:((fun x=>xs[x]?) ∘ fun x=>i + x)=fun m=>xs[i + m]?:=rfl
  rw [e2] at this
  rw [this]
theorem getItem_tuple_cut {t sl:Addr} {items:Array Value} {vl vu:Value} {lo hi:Option Int} {Q:Value->Shared->Prop} (ht:IsTup s.heap t items) (hs:s.heap.IsSliceOf sl vl vu .none) (pl:IsPart vl lo) (pu:IsPart vu hi)
    (hw:¬ (sIx items.size 0 lo=0/\sIx items.size items.size hi=items.size))
    (h:Q (.ref s.heap.objs.size) { s with heap:=s.heap.push { cls:=.type "tuple",data:=.seq ((items.toList.drop (sIx items.size 0 lo)).take (sIx items.size items.size hi - sIx items.size 0 lo)).toArray } })
    (hsz:items.size<=sizeLine):wpAny (model prog w) A (getItem (.ref t) (.ref sl)) Q E s:=by
  have htake:sizeOk (.seq ((items.toList.drop (sIx items.size 0 lo)).take (sIx items.size items.size hi - sIx items.size 0 lo)).toArray):=by
    show ((items.toList.drop (sIx items.size 0 lo)).take (sIx items.size items.size hi - sIx items.size 0 lo)).toArray.size<=sizeLine
    rw [List.size_toArray,List.length_take,List.length_drop,Array.length_toList]
    lia
  have hj:sIx items.size items.size hi<=items.size:=sIx_le _ _ (Nat.le_refl _) hi
  obtain ⟨os,hos,hcs,hds⟩:=id hs
  have hTs:s.TypeIs (.ref sl) "slice":=⟨os,hos,hcs⟩
  unfold getItem
  try with_reducible refine wpAny_holding ?_
  first | refine wpAny_bind (wpAny_pure ?_) | skip
  refine wpAny_bind (wpAny_sequenceKey ht.typeIs (by decide) ?_)
  refine wpAny_bind (wpAny_callSpecial?_slot (name:=Str.ofString "__getitem__") ht.typeIs PyProof.Rows.slot_tuple_getitem
    (wpAny_call_entry PyProof.Rows.slot_tuple_getitem ht.typeIs entry_tuple_getitem ?_ (args_tuple_getitem _ _)))
  show wpAny _ _ (Builtin.Tuple.tupleItemsOf (.ref t) >>= _) _ _ s
  refine wpAny_bind (tupleItemsOf_ ht ?_)
  refine wpAny_bind (wpAny_typeOf hTs ?_)
  rw [if_pos (by decide)]
  refine wpAny_bind (sliceApplied_gen hs pl pu ?_)
  have hno:¬ ((((sIx items.size 0 lo:Nat):Int) == 0 && (1:Int) == 1 && (sIx items.size items.size hi - sIx items.size 0 lo) == items.size)=true):=by
    intro q
    rw [Bool.and_eq_true,Bool.and_eq_true] at q
    have q1:((sIx items.size 0 lo:Nat):Int)=0:=eq_of_beq q.1.1
    have q2:sIx items.size items.size hi - sIx items.size 0 lo=items.size:=eq_of_beq q.2
    exact hw ⟨by lia,by lia⟩
  show wpAny _ _ (if (((sIx items.size 0 lo:Nat):Int) == 0 && (1:Int) == 1 && (sIx items.size items.size hi - sIx items.size 0 lo) == items.size)=true then _ else _) _ _ s
  rw [if_neg hno,pick_gen]
  first
    | exact wpAny_bind (m:=Builtin.Tuple.tupleExact _) (wpAny_newObj_type (wpAny_pure ⟨_,rfl,wpAny_pure h⟩) htake)
    | exact wpAny_bind (m:=Builtin.Tuple.tupleExact _) (wpAny_newObj_type (wpAny_bind (wpAny_pure (wpAny_pure ⟨_,rfl,wpAny_pure h⟩))) htake)
    | exact wpAny_bind (wpAny_bind (m:=Builtin.Tuple.tupleExact _) (wpAny_newObj_type (wpAny_pure (wpAny_pure ⟨_,rfl,wpAny_pure h⟩)) htake))
    | exact wpAny_bind (wpAny_bind (m:=Builtin.Tuple.tupleExact _) (wpAny_newObj_type (wpAny_pure ⟨_,rfl,wpAny_pure h⟩) htake))
end
end HT
namespace L2
open PySem PySem.Spec PyProof.Rows
abbrev TO:=St->Hp->(Option Int->Hp->Prop)->Prop
def PO (X:Cx) (e:Option Expr) (t:TO):Prop :=
  ∀ (pins:List (Addr × Obj)) (s:Shared) (σ:St) (H:Hp) (Q:Option Int->Hp->Prop),Inv X pins σ H s->t σ H Q ->
    wpAny (model X.prog X.w) X.A (evalPart e X.env) (fun u s'=>∃ o H',Inv X pins σ H' s'/\IsPart u o/\Q o H') X.xe s
def tNoPart:TO:=fun _ H Q=>Q none H
def tPart (t:TE):TO:=fun σ H Q=>t σ H fun x H1=>∃ i,x=.int i/\Q (some i) H1
section
variable {X:Cx} {e:Expr} {te:TE} {lo hi:Option Expr} {tl th:TO} {pos p2:Pos}
theorem po_none:PO X none tNoPart:=by
  intro pins s σ H Q I h
  rw [evalPart_none]
  exact wpAny_pure ⟨none,H,I,.none,h⟩
theorem po_some (h:PE X e te):PO X (some e) (tPart te):=by
  intro pins s σ H Q I hw
  rw [evalPart_some]
  refine thn (h pins s σ H _ I hw) fun u s1 ⟨x,H1,I1,r1,q1⟩=>?_
  obtain ⟨i,rfl,q⟩:=q1
  obtain ⟨t,rfl⟩:=r1
  exact ⟨some i,H1,I1,.int i t,q⟩
def SlR (X:Cx) (r:V->Option Int->Option Int->Hp->VK->Prop):Prop :=
  ∀ (pins:List (Addr × Obj)) (s:Shared) (σ:St) (H:Hp) (x:V) (v vl vu:Value) (lo hi:Option Int) (sl:Addr) (Q:VK),Inv X pins σ H s->RelV x v->s.heap.IsSliceOf sl vl vu .none->IsPart vl lo->IsPart vu hi->r x lo hi H Q ->
    ∃ T id,typeLookup (.type T) "__getitem__"=pure (some (.builtin id))/\s.TypeIs v T/\wpAny (model X.prog X.w) X.A (getItem v (.ref sl)) (EP X pins σ Q) X.xe s
theorem SlR.or {r r':V->Option Int->Option Int->Hp->VK->Prop} (h:SlR X r) (h':SlR X r'):SlR X (fun x lo hi H Q=>r x lo hi H Q\/r' x lo hi H Q):=by
  intro pins s σ H x v vl vu lo hi sl Q I rx hs pl pu q
  rcases q with q | q
  · exact h pins s σ H x v vl vu lo hi sl Q I rx hs pl pu q
  · exact h' pins s σ H x v vl vu lo hi sl Q I rx hs pl pu q
def tSl (r:V->Option Int->Option Int->Hp->VK->Prop) (te:TE) (tl th:TO):TE:=fun σ H Q=>te σ H fun x H1=>tl σ H1 fun l H2=>th σ H2 fun u H3=>r x l u H3 Q
theorem pe_slice {r:V->Option Int->Option Int->Hp->VK->Prop} (hr:SlR X r) (he:PE X e te) (hl:PO X lo tl) (hu:PO X hi th):PE X (.Subscript e (.Slice lo hi none p2) pos) (tSl r te tl th):=by
  intro pins s σ H Q I h
  refine Subscript_ (thn (he pins s σ H _ I h) fun v s1 ⟨x,H1,I1,r1,q1⟩=>?_)
  refine wpAny_Slice (thn (hl pins s1 σ H1 _ I1 q1) fun vl s2 ⟨l,H2,I2,pl,q2⟩=>thn (hu pins s2 σ H2 _ I2 q2) fun vu s3 ⟨u,H3,I3,pu,q3⟩=>?_)
  rw [evalPart_none]
  refine wpAny_pure ?_
  have I4:Inv X pins σ H3 { s3 with heap:=s3.heap.push { cls:=.type "slice",data:=.fields #[vl,vu,.none] } }:=I3.kept (t':=s3.toks) fun b ob q=>Heap.get?_push_of_some _ q
  obtain ⟨T,id,hT,ht,hg⟩:=hr pins { s3 with heap:=s3.heap.push { cls:=.type "slice",data:=.fields #[vl,vu,.none] } } σ H3 x v vl vu l u s3.heap.objs.size Q I4 r1 (Heap.IsSliceOf.new ..) pl pu q3
  show wpAny (model X.prog X.w) X.A (subscriptTail e (.Slice lo hi none p2) v (.ref s3.heap.objs.size)) (EP X pins σ Q) X.xe { s3 with heap:=s3.heap.push { cls:=.type "slice",data:=.fields #[vl,vu,.none] } }
  exact tail_any (ops:=[.ref s3.heap.objs.size,v]) ht hT hg (by with_unfolding_all rfl)
def cutV (xs:List V) (lo hi:Option Int):List V:=(xs.drop (HT.sIx xs.length 0 lo)).take (HT.sIx xs.length xs.length hi - HT.sIx xs.length 0 lo)
theorem cutV_length (xs:List V) (lo hi:Option Int):(cutV xs lo hi).length<=xs.length:=by
  unfold cutV
  rw [List.length_take,List.length_drop]
  lia
def rSlT (K:PySem.W.Frag):V->Option Int->Option Int->Hp->VK->Prop:=fun x lo hi H Q=>∃ a xs,x=.ref a/\SqT K H a xs /\
  ¬ (HT.sIx xs.length 0 lo=0/\HT.sIx xs.length xs.length hi=xs.length)/\∀ p,H p=none->Q (.ref p) (upd H p (.tup (cutV xs lo hi)))
theorem sl_tup:SlR X (rSlT X.K):=by
  intro pins s σ H x v vl vu lo hi sl Q I rx hs pl pu h
  obtain ⟨a,xs,rfl,hx,hw,q⟩:=h
  cases rx
  obtain ⟨its,r,ht,hz⟩:=I.tuple hx
  have hlen:its.toArray.size=xs.length:=by rw [List.size_toArray]; exact r.length.symm
  refine ⟨"tuple",_,PyProof.Rows.slot_tuple_getitem.lookup,ht.typeIs,?_⟩
  refine HT.getItem_tuple_cut ht hs pl pu (by rw [hlen]; exact hw) ?_ (by rw [hlen]; exact hz)
  rw [hlen]
  refine ⟨.ref s.heap.objs.size,_,I.laid (t':=s.toks) (o:=.tup (cutV xs lo hi)) (fun b ob q=>Heap.get?_push_of_some _ q) (Nat.le_refl _) ?_,rfl,q _ (I.hok.fresh (Nat.le_refl _))⟩
  exact ⟨Nat.le_trans (cutV_length xs lo hi) hz,_,(r.drop (HT.sIx xs.length 0 lo)).take (HT.sIx xs.length xs.length hi - HT.sIx xs.length 0 lo),IsTupN.new _ _⟩
def rCatT (K:PySem.W.Frag):R2:=fun x y H Q=>∃ a b xs ys,x=.ref a/\y=.ref b/\SqT K H a xs/\SqT K H b ys/\xs≠[]/\xs.length + ys.length<=sizeLine /\
  (ys=[]->Q (.ref a) H)/\(ys≠[]->∀ p,H p=none->Q (.ref p) (upd H p (.tup (xs ++ ys))))
theorem Vals.nil_iff {xs:List V} {us:List Value} (r:Vals xs us):us=[]↔xs=[]:=by
  cases r with
  | nil=>simp
  | cons _ _=>simp
theorem op_catT:OpR X (binaryOp .Add) (rCatT X.K):=by
  intro pins s σ H x y v u Q I rx ry h
  obtain ⟨a,b,xs,ys,rfl,rfl,ha,hb,hx,hz,q1,q2⟩:=h
  cases rx
  cases ry
  obtain ⟨its,r1,p1,_⟩:=I.tuple ha
  obtain ⟨its2,r2,p2,_⟩:=I.tuple hb
  refine HT.cat_tup p1 p2 (fun z=>hx (r1.nil_iff.mp z)) (fun z=>⟨.ref a,H,I,rfl,q1 (r2.nil_iff.mp z)⟩) (fun z=>?_) (by rw [<- r1.length,<- r2.length]; exact hz)
  refine ⟨.ref s.heap.objs.size,_,I.laid (t':=s.toks) (o:=.tup (xs ++ ys)) (fun b ob q=>Heap.get?_push_of_some _ q) (Nat.le_refl _) ?_,rfl,q2 (fun w=>z (r2.nil_iff.mpr w)) _ (I.hok.fresh (Nat.le_refl _))⟩
  exact ⟨by rw [List.length_append]; exact hz,_,r1.append r2,IsTupN.new _ _⟩
end
end L2
namespace L2
open PySem PySem.Spec PyProof.Rows
def ixN (n:Nat) (i:Int):Option Nat:=if 0<=i then (if i < n then some i.toNat else none) else if -(n:Int)<=i then some (i + n).toNat else none
def atI {α:Type} (xs:List α) (i:Int):Option α:=(ixN xs.length i).bind fun j=>xs[j]?
theorem ixN_seq {n:Nat} {i:Int} {j:Nat} (h:ixN n i=some j):seqIndex? i n=some j/\j < n/\-(n:Int)<=i/\i < n:=by
  unfold ixN at h
  by_cases h0:0<=i
  · rw [if_pos h0] at h
    by_cases h1:i < n
    · rw [if_pos h1] at h
      have e:i.toNat=j:=Option.some.inj h
      exact ⟨by rw [seqIndex_of h0 h1,e],by lia,by lia,h1⟩
    · rw [if_neg h1] at h; cases h
  · rw [if_neg h0] at h
    by_cases h1:-(n:Int)<=i
    · rw [if_pos h1] at h
      have e:(i + n).toNat=j:=Option.some.inj h
      exact ⟨by rw [seqIndex_neg (by lia) h1,e],by lia,h1,by lia⟩
    · rw [if_neg h1] at h; cases h
theorem atI_get {α:Type} {xs:List α} {i:Int} {v:α} (h:atI xs i=some v):∃ j,seqIndex? i xs.length=some j/\xs[j]?=some v/\j < xs.length/\-(xs.length:Int)<=i/\i < xs.length:=by
  unfold atI at h
  cases e:ixN xs.length i with
  | none=>rw [e] at h; cases h
  | some j =>
    rw [e] at h
    obtain ⟨h1,h2,h3,h4⟩:=ixN_seq e
    exact ⟨j,h1,h,h2,h3,h4⟩
theorem atI_nat {α:Type} {xs:List α} {j:Nat} {v:α} (h:xs[j]?=some v):atI xs (j:Int)=some v:=by
  have hj:j < xs.length:=(List.getElem?_eq_some_iff.mp h).1
  have e:ixN xs.length (j:Int)=some j:=by
    unfold ixN
    rw [if_pos (by lia),if_pos (by lia)]; simp
  unfold atI; rw [e]; exact h
theorem atI_last {α:Type} (xs:List α) (v:α):atI (xs ++ [v]) (-1)=some v:=by
  have hl:(xs ++ [v]).length=xs.length + 1:=by simp
  have e:ixN (xs ++ [v]).length (-1)=some xs.length:=by
    unfold ixN
    rw [hl,if_neg (by decide),if_pos (by lia)]
    congr 1
    lia
  unfold atI
  rw [e]
  show (xs ++ [v])[xs.length]?=some v
  simp
def PlainIx (b:Expr):Prop:=∀ o i,subscripted b false o i=operate [o,i] (getItem o i)
def IxR (X:Cx) (r:R2):Prop :=
  ∀ (value slice:Expr) (pins:List (Addr × Obj)) (s:Shared) (σ:St) (H:Hp) (x y:V) (v u:Value) (Q:VK),Inv X pins σ H s->RelV x v->RelV y u->r x y H Q ->
    subscripted slice false v u=operate [v,u] (getItem v u)->wpAny (model X.prog X.w) X.A (subscriptTail value slice v u) (EP X pins σ Q) X.xe s
def MtR (X:Cx) (id:String) (r:V->List V->Hp->VK->Prop):Prop :=
  ∀ (pins:List (Addr × Obj)) (s:Shared) (σ:St) (H:Hp) (x:V) (xs:List V) (v:Value) (us:List Value) (Q:VK),Inv X pins σ H s->RelV x v->Vals xs us->r x xs H Q ->
    wpAny (model X.prog X.w) X.A (call (.builtin id) (v :: us)) (EP X pins σ Q) X.xe s
section
variable {X:Cx} {a b:Expr} {ta tb:TE} {pos:Pos}
theorem IxR.or {r r':R2} (h:IxR X r) (h':IxR X r'):IxR X (fun x y H Q=>r x y H Q\/r' x y H Q):=by
  intro value slice pins s σ H x y v u Q I rx ry q hs
  rcases q with q | q
  · exact h value slice pins s σ H x y v u Q I rx ry q hs
  · exact h' value slice pins s σ H x y v u Q I rx ry q hs
theorem MtR.or {id:String} {r r':V->List V->Hp->VK->Prop} (h:MtR X id r) (h':MtR X id r'):MtR X id (fun x xs H Q=>r x xs H Q\/r' x xs H Q):=by
  intro pins s σ H x xs v us Q I rx rs q
  rcases q with q | q
  · exact h pins s σ H x xs v us Q I rx rs q
  · exact h' pins s σ H x xs v us Q I rx rs q
theorem pe_ix {r:R2} (hr:IxR X r) (ha:PE X a ta) (hb:PE X b tb) (hs:PlainIx b):PE X (.Subscript a b pos) (tOp r ta tb):=by
  intro pins s σ H Q I h
  exact Subscript_ (binT ha hb I h fun v u s2 x y H2 I2 rx ry q=>hr a b pins s2 σ H2 x y v u Q I2 rx ry q (hs _ _))
def rIxL (K:PySem.W.Frag):R2:=fun x y H Q=>∃ p xs i v,x=.ref p/\y=.int i/\SqL K H p xs/\atI xs i=some v/\Q v H
def rIxT (K:PySem.W.Frag):R2:=fun x y H Q=>∃ p xs i v,x=.ref p/\y=.int i/\SqT K H p xs/\atI xs i=some v/\Q v H
def rIxS:R2:=fun x y H Q=>∃ z i c,x=.str z/\y=.int i/\z.length<=sizeLine/\atI z.cps.toList i=some c/\Q (.str ⟨#[c]⟩) H
theorem ix_list:IxR X (rIxL X.K):=by
  intro value slice pins s σ H x y v u Q I rx ry h hs
  obtain ⟨p,xs,i,z,rfl,rfl,hq,he,q⟩:=h
  cases rx
  obtain ⟨t,rfl⟩:=ry
  obtain ⟨its,r,pl,hz⟩:=I.list hq
  obtain ⟨j,h1,h2,h3,h4,h5⟩:=atI_get he
  obtain ⟨w,ew,rw'⟩:=r.get h2
  have hl:=r.length
  have hn:=line63
  have fin:EP X pins σ Q w s:=⟨z,H,I,rw',q⟩
  by_cases h0:0<=i
  · have hj:i.toNat=j:=by
      rw [seqIndex_of h0 h5] at h1
      exact Option.some.inj h1
    exact item_listR pl.isList h0 (by lia) (by rw [hj]; simpa using ew) fin hs
  · have hj:(i + (its.toArray.size:Int)).toNat=j:=by
      rw [seqIndex_neg (by lia) h4] at h1
      rw [List.size_toArray,<- hl]
      exact Option.some.inj h1
    exact subscriptTail_builtinR (x:=w) pl.isList.typeIs slot_list_getitem.lookup
      (wpAny_getItem_list_neg (Q:=fun r s'=>r=w/\EP X pins σ Q r s') pl.isList (by lia) (by rw [List.size_toArray] <;> lia) (by lia) (by rw [hj]; simpa using ew) ⟨rfl,fin⟩) hs
theorem ix_tup:IxR X (rIxT X.K):=by
  intro value slice pins s σ H x y v u Q I rx ry h hs
  obtain ⟨p,xs,i,z,rfl,rfl,hq,he,q⟩:=h
  cases rx
  obtain ⟨t,rfl⟩:=ry
  obtain ⟨its,r,pl,hz⟩:=I.tuple hq
  obtain ⟨j,h1,h2,h3,h4,h5⟩:=atI_get he
  obtain ⟨w,ew,rw'⟩:=r.get h2
  have hl:=r.length
  have hn:=line63
  have fin:EP X pins σ Q w s:=⟨z,H,I,rw',q⟩
  exact subscriptTail_builtinR (x:=w) pl.typeIs slot_tuple_getitem.lookup
    (getItem_tuple (j:=j) (Q:=fun r s'=>r=w/\EP X pins σ Q r s') pl (by lia) (by lia) (by rw [List.size_toArray,<- hl]; exact h1) (by simpa using ew) ⟨rfl,fin⟩) hs
theorem ix_str:IxR X rIxS:=by
  intro value slice pins s σ H x y v u Q I rx ry h hs
  obtain ⟨z,i,c,rfl,rfl,hz,he,q⟩:=h
  obtain ⟨t,rfl⟩:=rx
  obtain ⟨t',rfl⟩:=ry
  obtain ⟨j,h1,h2,h3,h4,h5⟩:=atI_get he
  have hl:z.cps.toList.length=z.length:=by simp [Str.length]
  rw [hl] at h1 h4 h5
  have hn:=line63
  exact tail_any (typeIs_str s z t) slot_str_getitem.lookup (getItem_str (c:=c) (by
    have e1:decide (i < -(2 ^ 63:Int))=false:=decide_eq_false (by lia)
    have e2:decide (i ≥ 2 ^ 63)=false:=decide_eq_false (by lia)
    rw [e1,e2,Bool.or_false]) (by rw [h1]; simpa using h2) ⟨.str ⟨#[c]⟩,H,I.tok _,⟨_,rfl⟩,q⟩) hs
theorem mapSeq_set (its:List Value) (n j:Nat) (u:Value):Obj.mapSeq (·.setIfInBounds j u) { cls:=.type "list",data:=.seq its.toArray n }={ cls:=.type "list",data:=.seq (its.set j u).toArray n }:=by
  simp [Obj.mapSeq]
theorem Inv.lst {pins:List (Addr × Obj)} {σ:St} {H:Hp} {s:Shared} {p:Addr} {xs:List V} (I:Inv X pins σ H s) (h:H p=some (.lst xs)) :
    ∃ (its:List Value) (n:Nat),Vals xs its/\s.heap.get? p=some { cls:=.type "list",data:=.seq its.toArray n }/\xs.length<=sizeLine:=by
  obtain ⟨z,its,n,r,e⟩:=I.hok p _ h
  exact ⟨its,n,r,e,z⟩
theorem Inv.lstUpd {pins:List (Addr × Obj)} {σ:St} {H:Hp} {s:Shared} {p:Addr} {xs ys:List V} {its its':List Value} {n n':Nat} {f:Obj->Obj} (I:Inv X pins σ H s) (h:H p=some (.lst xs))
    (ho:s.heap.get? p=some { cls:=.type "list",data:=.seq its.toArray n }) (hf:f { cls:=.type "list",data:=.seq its.toArray n }={ cls:=.type "list",data:=.seq its'.toArray n' }) (r:Vals ys its') (hz:ys.length<=sizeLine) (t:Nat) :
    Inv X pins σ (upd H p (.lst ys)) { s with heap:=s.heap.update p f,toks:=t }:=by
  have e:(s.heap.update p f).get? p=some { cls:=.type "list",data:=.seq its'.toArray n' }:=by
    rw [Heap.get?_update_self f ho (by rw [hf] <;> rfl),hf]
  refine I.write (x:=p) (e:=p) (by rw [h]; trivial) (.inl rfl) (fun b u hb q=>(Heap.get?_update_other _ _ (Ne.symm hb)).trans q) ⟨_,e⟩ ?_
  exact ⟨hz,its',n',r,e⟩
def rSetL:V->V->V->Hp->(Hp->Prop)->Prop:=fun o i v H Q=>∃ p xs k j,o=.ref p/\i=.int k/\H p=some (.lst xs)/\ixN xs.length k=some j/\Q (upd H p (.lst (xs.set j v)))
theorem set_list:PSet X rSetL:=by
  intro pins s σ H o i v ov iv u Q I ro ri rv h
  obtain ⟨p,xs,k,j,rfl,rfl,hp,hj,q⟩:=h
  cases ro
  obtain ⟨t,rfl⟩:=ri
  obtain ⟨its,n,r,ho,hz⟩:=I.lst hp
  obtain ⟨h1,h2,h3,h4⟩:=ixN_seq hj
  have hl:=r.length
  have hn:=line63
  have I':Inv X pins σ (upd H p (.lst (xs.set j v))) { s with heap:=s.heap.update p (Obj.mapSeq (·.setIfInBounds j u)) } :=
    I.lstUpd hp ho (mapSeq_set its n j u) (r.set rv j) (by rw [List.length_set]; exact hz) s.toks
  by_cases h0:0<=k
  · have hk:k.toNat=j:=by
      rw [seqIndex_of h0 h4] at h1
      exact Option.some.inj h1
    exact PySem.W.ki_setAt ho h0 (by lia) (by rw [List.size_toArray,<- hl]; exact h4) (by rw [hk]; exact ⟨_,I',q⟩)
  · have hk:(k + (its.toArray.size:Int)).toNat=j:=by
      rw [seqIndex_neg (by lia) h3] at h1
      rw [List.size_toArray,<- hl]
      exact Option.some.inj h1
    exact PySem.W.ki_setBack ho (by lia) (by rw [List.size_toArray,<- hl]; exact h3) (by lia) (by rw [hk]; exact ⟨_,I',q⟩)
theorem slice_bounds (lo hi:Option Int) (n:Nat):(sliceBounds lo hi none n).1=((HT.sIx n 0 lo:Nat):Int)/\(sliceBounds lo hi none n).2.1=((HT.sIx n n hi:Nat):Int)/\(sliceBounds lo hi none n).2.2=1:=by
  refine ⟨?_,?_,rfl⟩
  · cases lo with
    | none=>simp [sliceBounds,HT.sIx]
    | some i =>
      simp only [sliceBounds,HT.sIx,Option.getD_none,show (1:Int) > 0 by decide,if_true]
      by_cases h:i < 0
      · simp only [h,if_true] <;> lia
      · simp only [h,if_false] <;> lia
  · cases hi with
    | none=>simp [sliceBounds,HT.sIx]
    | some i =>
      simp only [sliceBounds,HT.sIx,Option.getD_none,show (1:Int) > 0 by decide,if_true]
      by_cases h:i < 0
      · simp only [h,if_true] <;> lia
      · simp only [h,if_false] <;> lia
theorem slicePick_cut (its:List Value) (lo hi:Option Int):slicePick its.toArray lo hi none=((its.drop (HT.sIx its.length 0 lo)).take (HT.sIx its.length its.length hi - HT.sIx its.length 0 lo)).toArray:=by
  obtain ⟨h1,h2,h3⟩:=slice_bounds lo hi its.toArray.size
  unfold slicePick
  rw [h1,h2,h3]
  simp only [sliceRange_one,pick_run,List.size_toArray] <;> rfl
def rSlL (K:PySem.W.Frag):V->Option Int->Option Int->Hp->VK->Prop:=fun x lo hi H Q=>∃ a xs,x=.ref a/\SqL K H a xs/\∀ p,H p=none->Q (.ref p) (upd H p (.lst (cutV xs lo hi)))
theorem sl_list:SlR X (rSlL X.K):=by
  intro pins s σ H x v vl vu lo hi sl Q I rx hs pl pu h
  obtain ⟨a,xs,rfl,hx,q⟩:=h
  cases rx
  obtain ⟨its,r,ht,hz⟩:=I.list hx
  have hlen:=r.length
  refine ⟨"list",_,slot_list_getitem.lookup,ht.isList.typeIs,?_⟩
  refine wpAny_getItem_list_slice ht.isList hs pl pu .none (by simp) ?_ (by rw [List.size_toArray] <;> lia)
  rw [slicePick_cut,<- hlen]
  refine ⟨.ref s.heap.objs.size,_,I.laid (t':=s.toks) (o:=.lst (cutV xs lo hi)) (fun b ob q=>Heap.get?_push_of_some _ q) (Nat.le_refl _) ?_,rfl,q _ (I.hok.fresh (Nat.le_refl _))⟩
  exact ⟨Nat.le_trans (cutV_length xs lo hi) hz,_,0,(r.drop (HT.sIx xs.length 0 lo)).take (HT.sIx xs.length xs.length hi - HT.sIx xs.length 0 lo),Heap.get?_push_size _ rfl⟩
def flatV:V->Bool
  | .non=>true
  | .bl _=>true
  | .int _=>true
  | .str _=>true
  | _=>false
def eqV:V->V->Bool
  | .non,.non=>true
  | .bl a,.bl b=>a == b
  | .bl a,.int b=>(if a then 1 else 0) == b
  | .int a,.bl b=>a == (if b then 1 else 0)
  | .int a,.int b=>a == b
  | .str a,.str b=>a == b
  | _,_=>false
theorem eqAt_V {A:Around} {s:Shared} {y x:V} {u v:Value} (ry:RelV y u) (rx:RelV x v) (fy:flatV y=true) (fx:flatV x=true):SeqAt.EqAt A s u v (eqV y x):=by
  cases y with
  | non =>
    cases ry
    cases x with
    | non=>cases rx; exact SeqAt.EqAt.same _
    | bl b=>cases rx; exact SeqAt.EqAt.none_bool b
    | int b=>obtain ⟨t,rfl⟩:=rx; exact SeqAt.EqAt.none_int b t
    | str b=>obtain ⟨t,rfl⟩:=rx; exact SeqAt.EqAt.none_str b t
    | _=>exact absurd (show false=true from fx) Bool.false_ne_true
  | bl a =>
    cases ry
    cases x with
    | non=>cases rx; exact SeqAt.EqAt.bool_none a
    | bl b=>cases rx; exact SeqAt.EqAt.bool_bool a b
    | int b=>obtain ⟨t,rfl⟩:=rx; exact SeqAt.EqAt.bool_int a b t
    | str b=>obtain ⟨t,rfl⟩:=rx; exact SeqAt.EqAt.bool_str a b t
    | _=>exact absurd (show false=true from fx) Bool.false_ne_true
  | int a =>
    obtain ⟨t',rfl⟩:=ry
    cases x with
    | non=>cases rx; exact SeqAt.EqAt.int_none a t'
    | bl b=>cases rx; exact SeqAt.EqAt.int_bool a t' b
    | int b=>obtain ⟨t,rfl⟩:=rx; exact SeqAt.EqAt.int_int a t' b t
    | str b=>obtain ⟨t,rfl⟩:=rx; exact SeqAt.EqAt.int_str a t' b t
    | _=>exact absurd (show false=true from fx) Bool.false_ne_true
  | str a =>
    obtain ⟨t',rfl⟩:=ry
    cases x with
    | non=>cases rx; exact SeqAt.EqAt.str_none a t'
    | bl b=>cases rx; exact SeqAt.EqAt.str_bool a t' b
    | int b=>obtain ⟨t,rfl⟩:=rx; exact SeqAt.EqAt.str_int a t' b t
    | str b=>obtain ⟨t,rfl⟩:=rx; exact SeqAt.EqAt.str_str a t' b t
    | _=>exact absurd (show false=true from fx) Bool.false_ne_true
  | _=>exact absurd (show false=true from fy) Bool.false_ne_true
def eqU (x:V) (u:Value):Bool:=match u with
  | .none=>eqV .non x
  | .bool b=>eqV (.bl b) x
  | .int i _=>eqV (.int i) x
  | .str z _=>eqV (.str z) x
  | _=>false
theorem eqU_of {x y:V} {u:Value} (r:RelV y u) (f:flatV y=true):eqU x u=eqV y x:=by
  cases y with
  | non=>cases r; rfl
  | bl b=>cases r; rfl
  | int i=>obtain ⟨t,rfl⟩:=r; rfl
  | str z=>obtain ⟨t,rfl⟩:=r; rfl
  | _=>exact absurd (show false=true from f) Bool.false_ne_true
theorem any_eqU {x:V}:∀ {xs:List V} {us:List Value},Vals xs us->xs.all flatV=true->us.any (eqU x)=xs.any fun y=>eqV y x
  | _,_,.nil,_=>rfl
  | y :: xs,u :: us,.cons r t,f=>by
    rw [List.all_cons,Bool.and_eq_true] at f
    rw [List.any_cons,List.any_cons,eqU_of r f.1,any_eqU t f.2]
theorem mem_eqAt {A:Around} {s:Shared} {x:V} {v:Value} (rx:RelV x v) (fx:flatV x=true):∀ {xs:List V} {us:List Value},Vals xs us->xs.all flatV=true->∀ u∈us,SeqAt.EqAt A s u v (eqU x u)
  | _,_,.nil,_=>fun u hu=>by cases hu
  | y :: xs,u :: us,.cons r t,f=>fun u' hu=>by
    rw [List.all_cons,Bool.and_eq_true] at f
    rcases List.mem_cons.mp hu with rfl | hu
    · rw [eqU_of r f.1]; exact eqAt_V r rx f.1 fx
    · exact mem_eqAt rx fx t f.2 u' hu
def inV (x:V) (xs:List V):Bool:=xs.any fun y=>eqV y x
def rIn (K:PySem.W.Frag) (neg:Bool):R2:=fun x y H Q=>∃ p xs,y=.ref p/\(SqL K H p xs\/SqT K H p xs)/\flatV x=true/\xs.all flatV=true/\Q (.bl (if neg then !inV x xs else inV x xs)) H
theorem op_in_seq:OpR X (compareOp .In) (rIn X.K false):=by
  intro pins s σ H x y v u Q I rx ry h
  obtain ⟨p,xs,rfl,hq,fx,fs,q⟩:=h
  cases ry
  rcases hq with hq | hq
  · obtain ⟨its,r,pl,hz⟩:=I.list hq
    refine SeqAt.in_listAt (eqU x) pl.isList (fun w hw=>mem_eqAt rx fx r fs w (by simpa using hw)) ⟨.bl _,H,I,rfl,?_⟩
    rw [show its.toArray.any (eqU x)=its.any (eqU x) by simp,any_eqU r fs]
    exact q
  · obtain ⟨its,r,pl,hz⟩:=I.tuple hq
    refine SeqAt.in_tupleAt (eqU x) pl (fun w hw=>mem_eqAt rx fx r fs w (by simpa using hw)) ⟨.bl _,H,I,rfl,?_⟩
    rw [show its.toArray.any (eqU x)=its.any (eqU x) by simp,any_eqU r fs]
    exact q
theorem op_notIn_seq:OpR X (compareOp .NotIn) (rIn X.K true):=by
  intro pins s σ H x y v u Q I rx ry h
  obtain ⟨p,xs,rfl,hq,fx,fs,q⟩:=h
  cases ry
  rcases hq with hq | hq
  · obtain ⟨its,r,pl,hz⟩:=I.list hq
    refine SeqAt.notIn_listAt (eqU x) pl.isList (fun w hw=>mem_eqAt rx fx r fs w (by simpa using hw)) ⟨.bl _,H,I,rfl,?_⟩
    rw [show its.toArray.any (eqU x)=its.any (eqU x) by simp,any_eqU r fs]
    exact q
  · obtain ⟨its,r,pl,hz⟩:=I.tuple hq
    refine SeqAt.notIn_tupleAt (eqU x) pl (fun w hw=>mem_eqAt rx fx r fs w (by simpa using hw)) ⟨.bl _,H,I,rfl,?_⟩
    rw [show its.toArray.any (eqU x)=its.any (eqU x) by simp,any_eqU r fs]
    exact q
theorem call_len_seq:CallR X (.builtin "len") (fun xs H Q=>∃ p ys,xs=[.ref p]/\(SqL X.K H p ys\/SqT X.K H p ys)/\Q (.int ys.length) H):=by
  intro pins s σ H xs us Q I r h
  obtain ⟨p,ys,rfl,hq,q⟩:=h
  obtain ⟨u,rfl,rx⟩:=vals1 r
  cases rx
  have hn:=line63
  rcases hq with hq | hq
  · obtain ⟨its,r',pl,hz⟩:=I.list hq
    have hlen:=r'.length
    exact Calls.call_len_list pl.isList (by simp only [List.size_toArray] <;> lia) ⟨.int ys.length,H,I.tok _,⟨s.toks + 1,by rw [List.size_toArray,hlen]⟩,q⟩
  · obtain ⟨its,r',pl,hz⟩:=I.tuple hq
    have hlen:=r'.length
    exact len_tuple pl (by simp only [List.size_toArray] <;> lia) ⟨.int ys.length,H,I.tok _,⟨s.toks + 1,by rw [List.size_toArray,hlen]⟩,q⟩
theorem CallR.or {f:Value} {r r':List V->Hp->VK->Prop} (h:CallR X f r) (h':CallR X f r'):CallR X f (fun xs H Q=>r xs H Q\/r' xs H Q):=by
  intro pins s σ H xs us Q I rs q
  rcases q with q | q
  · exact h pins s σ H xs us Q I rs q
  · exact h' pins s σ H xs us Q I rs q
theorem call_list_of:CallR X (.type "list") (fun xs H Q=>∃ p ys,xs=[.ref p]/\(SqL X.K H p ys\/SqT X.K H p ys)/\∀ l,H l=none->Q (.ref l) (upd H l (.lst ys))):=by
  intro pins s σ H xs us Q I r h
  obtain ⟨p,ys,rfl,hq,q⟩:=h
  obtain ⟨u,rfl,rx⟩:=vals1 r
  cases rx
  have fin:∀ (its:List Value),Vals ys its->ys.length<=sizeLine->∀ (h':Heap) (c':Nat),(∀ b o',s.heap.get? b=some o'->h'.get? b=some o') ->
      h'.get? s.heap.objs.size=some { cls:=.type "list",dict:=none,data:=.seq its.toArray c',slots:=#[] }->EP X pins σ Q (.ref s.heap.objs.size) { s with heap:=h' }:=fun its r' hz h' c' kp e =>
    ⟨.ref s.heap.objs.size,_,I.laid (t':=s.toks) kp (Nat.le_refl _) (show ObjOk X.prog X.w _ h' _ (.lst ys) from ⟨hz,its,c',r',e⟩),rfl,q _ (I.hok.fresh (Nat.le_refl _))⟩
  rcases hq with hq | hq
  · obtain ⟨its,r',pl,hz⟩:=I.list hq
    have hlen:=r'.length
    obtain ⟨o,ho,hc,n,hd⟩:=pl.isList
    exact call_list_seq p (.inl rfl) ho hc hd (fun h' c' kp e=>fin its r' hz h' c' kp e) (by simp only [List.size_toArray] <;> lia)
  · obtain ⟨its,r',pl,hz⟩:=I.tuple hq
    have hlen:=r'.length
    obtain ⟨o,ho,hc,n,hd⟩:=pl
    exact call_list_seq p (.inr rfl) ho hc hd (fun h' c' kp e=>fin its r' hz h' c' kp e) (by simp only [List.size_toArray] <;> lia)
theorem call_tuple_of:CallR X (.type "tuple") (fun xs H Q=>∃ p ys,xs=[.ref p]/\((SqL X.K H p ys/\∀ l,H l=none->Q (.ref l) (upd H l (.tup ys)))\/(SqT X.K H p ys/\Q (.ref p) H))):=by
  intro pins s σ H xs us Q I r h
  obtain ⟨p,ys,rfl,h⟩:=h
  obtain ⟨u,rfl,rx⟩:=vals1 r
  cases rx
  rcases h with ⟨hq,q⟩ | ⟨hq,q⟩
  · obtain ⟨its,r',pl,hz⟩:=I.list hq
    have hlen:=r'.length
    refine call_tuple_list pl.isList (fun h' kp=>?_) (by simp only [List.size_toArray] <;> lia)
    have I1:Inv X pins σ H { s with heap:=h' }:=I.kept (t':=s.toks) kp
    have I2:Inv X pins σ (upd H h'.objs.size (.tup ys)) { s with heap:=h'.push { cls:=.type "tuple",data:=.seq its.toArray } } :=
      I1.laid (t':=s.toks) (fun b o e=>Heap.get?_push_of_some _ e) (Nat.le_refl _) (show ObjOk X.prog X.w _ _ _ (.tup ys) from ⟨hz,its,r',IsTupN.new _ _⟩)
    exact ⟨.ref h'.objs.size,_,I2,rfl,q _ (I1.hok.fresh (Nat.le_refl _))⟩
  · obtain ⟨its,r',pl,hz⟩:=I.tuple hq
    exact call_tuple_same pl ⟨.ref p,H,I,rfl,q⟩
def tyV (K:PySem.W.Frag) (T:String) (x:V) (H:Hp):Prop:=match x with
  | .str _=>T="str"
  | .int _=>T="int"
  | .ref p=>(T="list"/\∃ xs,SqL K H p xs)\/(T="tuple"/\((∃ o,K.lookup p=some o/\o.cls=.type "tuple"/\o.dict=none)\/∃ xs,H p=some (.tup xs))) \/
      (T="dict"/\((∃ kvs,H p=some (.dK kvs))\/∃ kvs,H p=some (.dT kvs)))\/(T="set"/\∃ S n,H p=some (.set S n))
  | _=>False
theorem tyV_is {pins:List (Addr × Obj)} {σ:St} {H:Hp} {s:Shared} {T:String} {x:V} {v:Value} (I:Inv X pins σ H s) (r:RelV x v) (ty:tyV X.K T x H) :
    s.TypeIs v T/\∀ a,v=.ref a->∃ ob,s.heap.get? a=some ob/\ob.dict=none:=by
  cases x with
  | str z =>
    obtain ⟨t,rfl⟩:=r
    cases (show T="str" from ty)
    exact ⟨typeIs_str s z t,fun _ e=>nomatch e⟩
  | int i =>
    obtain ⟨t,rfl⟩:=r
    cases (show T="int" from ty)
    exact ⟨typeIs_int s i t,fun _ e=>nomatch e⟩
  | ref p =>
    cases r
    rcases ty with ⟨rfl,xs,hq⟩ | ⟨rfl,⟨o,hk,hc,hd⟩ | ⟨xs,hk⟩⟩ | ⟨rfl,hk⟩ | ⟨rfl,S,n,hk⟩
    · obtain ⟨its,_,pl,_⟩:=I.list hq
      refine ⟨pl.isList.typeIs,fun a e=>?_⟩
      cases e
      obtain ⟨o,n,e,c,hd,_⟩:=pl
      exact ⟨o,e,hd⟩
    · refine ⟨⟨o,I.kIn p o hk,hc⟩,fun a e=>?_⟩
      cases e
      exact ⟨o,I.kIn _ o hk,hd⟩
    · obtain ⟨_,_,_,o,ho,hc,hd,_⟩:=I.hok p _ hk
      refine ⟨⟨o,ho,hc⟩,fun a e=>?_⟩
      cases e
      exact ⟨o,ho,hd⟩
    · have z:∃ o,s.heap.get? p=some o/\o.ExactDict:=by
        rcases hk with ⟨kvs,hk⟩ | ⟨kvs,hk⟩
        · obtain ⟨_,_,_,_,o,_,_,e,ex,_⟩:=I.hok p _ hk
          exact ⟨o,e,ex⟩
        · obtain ⟨_,_,_,_,o,_,_,e,ex,_⟩:=I.hok p _ hk
          exact ⟨o,e,ex⟩
      obtain ⟨o,e,ex⟩:=z
      refine ⟨⟨o,e,ex.1⟩,fun a e2=>?_⟩
      cases e2
      exact ⟨o,e,ex.2.1⟩
    · obtain ⟨o,_,_,_,e,ex,_⟩:=I.hok p _ hk
      refine ⟨⟨o,e,ex.1⟩,fun a e2=>?_⟩
      cases e2
      exact ⟨o,e,ex.2.1⟩
  | _=>exact False.elim ty
def tBM0 (K:PySem.W.Frag) (T:String) (r:V->List V->Hp->VK->Prop) (to:TE):TE:=fun σ H Q=>to σ H fun x H1=>tyV K T x H1/\r x [] H1 Q
def tBM (K:PySem.W.Frag) (T:String) (r:V->List V->Hp->VK->Prop) (to:TE) (t:TA):TE:=fun σ H Q=>to σ H fun x H1=>tyV K T x H1/\t σ H1 fun xs H2=>r x xs H2 Q
variable {o e:Expr} {es:List Expr} {to:TE} {t:TA} {name:Str} {apos cpos:Pos} {T id:String} {r:V->List V->Hp->VK->Prop}
theorem pe_bm0 (pa:PlainAttrs T) (slot:Slot T name id) (hty:typeOf (.builtin id)=pure (.type "method_descriptor")) (hm:MtR X id r) (ho:PE X o to)
    (hbase:attributeBase o name X.env (eval o X.env)=eval o X.env:=by rfl) (hline:(apos.endLine == cpos.line)=true:=by rfl):PE X (.Call (.Attribute o name apos) [] [] cpos) (tBM0 X.K T r to):=by
  intro pins s σ H Q I h
  refine wpAny_Call_method0_late hbase hline (thn (ho pins s σ H _ I h) fun v s1 ⟨x,H1,I1,r1,ty,q1⟩=>?_)
  obtain ⟨h1,h2⟩:=tyV_is I1 r1 ty
  exact ⟨T,id,pa,slot,hty,h1,h2,Calls.callWith_builtin rfl (PySem.evalArgs_none (hm pins s1 σ H1 x [] v [] Q I1 r1 .nil q1))⟩
theorem pe_bm (pa:PlainAttrs T) (slot:Slot T name id) (hty:typeOf (.builtin id)=pure (.type "method_descriptor")) (hm:MtR X id r) (ho:PE X o to) (ha:PA X (e :: es) t)
    (hbase:attributeBase o name X.env (eval o X.env)=eval o X.env:=by rfl)
    (hfew:((backTo cpos (starEach (e :: es) X.env)).all (fun x=>!x.1) && (backToKw cpos (keywordEach [] X.env)).all (fun x=>x.1.isSome)
      && decide ((e :: es).length + ([]:List Keyword).length + (if ([]:List Keyword).isEmpty then 0 else 1) < 30))=true:=by rfl)
    (hline:(apos.endLine == cpos.line)=true:=by rfl) (hs:starEach (e :: es) X.env=(false,eval e X.env) :: starEach es X.env:=by rfl) (hplain:(backTo cpos (starEach es X.env)).any (·.1)=false:=by rfl) :
    PE X (.Call (.Attribute o name apos) (e :: es) [] cpos) (tBM X.K T r to t):=by
  intro pins s σ H Q I h
  refine wpAny_Call_method_late hbase hfew hline rfl (thn (ho pins s σ H _ I h) fun v s1 ⟨x,H1,I1,r1,ty,q1⟩=>?_)
  obtain ⟨h1,h2⟩:=tyV_is I1 r1 ty
  refine ⟨T,id,pa,slot,hty,h1,h2,?_⟩
  have hA:=ha cpos pins s1 σ H1 _ I1 q1
  rw [hs] at hA ⊢
  refine Calls.callWith_builtin (by show (false || (backTo cpos (starEach es X.env)).any (·.1))=false; rw [hplain] <;> rfl) (Calls.evalArgs_plain ?_)
  exact thn hA fun us s2 ⟨vs,H2,I2,r2,q2⟩=>hm pins s2 σ H2 x vs v us Q I2 r1 r2 q2
end
end L2
namespace L2
open PySem PySem.Spec PyProof.Rows
def MtM (X:Cx) (id:String) (r:V->List V->Hp->VK->Prop):Prop :=
  ∀ (pins:List (Addr × Obj)) (s:Shared) (σ:St) (H:Hp) (x:V) (xs:List V) (v:Value) (us:List Value) (Q:VK),Inv X pins σ H s->RelV x v->Vals xs us->r x xs H Q ->
    wpAny (model X.prog X.w) X.A (call (.builtin id) (v :: us)) (EP X pins σ Q) X.xe s
theorem Vals.one:∀ {x:V} {us:List Value},Vals [x] us->∃ u,us=[u]/\RelV x u
  | _,_,.cons r .nil=>⟨_,rfl,r⟩
theorem Vals.two:∀ {x y:V} {us:List Value},Vals [x,y] us->∃ u v,us=[u,v]/\RelV x u/\RelV y v
  | _,_,_,.cons r (.cons q .nil)=>⟨_,_,rfl,r,q⟩
theorem Vals.zero:∀ {us:List Value},Vals [] us->us=[]
  | _,.nil=>rfl
theorem Vals.dropLast {xs:List V} {us:List Value} (h:Vals xs us):Vals xs.dropLast us.dropLast:=by
  induction h with
  | nil=>exact .nil
  | cons r t ih =>
    cases t with
    | nil=>exact .nil
    | cons q t'=>exact .cons r ih
theorem Vals.eraseIdx:∀ {xs:List V} {us:List Value} (i:Nat),Vals xs us->Vals (xs.eraseIdx i) (us.eraseIdx i)
  | _,_,_,.nil=>.nil
  | _,_,0,.cons _ t=>t
  | _,_,i + 1,.cons r t=>.cons r (Vals.eraseIdx i t)
theorem Vals.reverse {xs:List V} {us:List Value} (h:Vals xs us):Vals xs.reverse us.reverse:=by
  induction h with
  | nil=>exact .nil
  | cons r t ih=>rw [List.reverse_cons,List.reverse_cons]; exact Vals.append ih (.cons r .nil)
theorem Vals.rep {xs:List V} {us:List Value} (h:Vals xs us):∀ k:Nat,Vals (List.replicate k xs).flatten (List.replicate k us).flatten
  | 0=>.nil
  | k + 1=>by
    rw [List.replicate_succ,List.replicate_succ,List.flatten_cons,List.flatten_cons]
    exact Vals.append h (Vals.rep h k)
theorem erase_last {α:Type} (l:List α):l.eraseIdx (l.length - 1)=l.dropLast:=by
  induction l with
  | nil=>rfl
  | cons a r ih =>
    cases r with
    | nil=>rfl
    | cons b r =>
      have e:(a :: b :: r).length - 1=((b :: r).length - 1) + 1:=by
        have h1:(a :: b :: r).length=r.length + 2:=rfl
        have h2:(b :: r).length=r.length + 1:=rfl
        lia
      rw [e,List.eraseIdx_cons_succ,ih]
      all_goals rfl
theorem foldl_rep (its:List Value):∀ (k:Nat) (acc:List Value),
    List.foldl (fun x1 x2=>x1 ++ x2) acc.toArray (List.replicate k its.toArray)=(acc ++ (List.replicate k its).flatten).toArray
  | 0,acc=>by simp
  | k + 1,acc=>by
    have e:acc.toArray ++ its.toArray=(acc ++ its).toArray:=by simp
    have e2:(acc ++ its) ++ (List.replicate k its).flatten=acc ++ (List.replicate (k + 1) its).flatten:=by
      rw [List.replicate_succ,List.flatten_cons,List.append_assoc]
    rw [<- e2,<- foldl_rep its k (acc ++ its),<- e,List.replicate_succ,List.foldl_cons]
section
variable {X:Cx} {pins:List (Addr × Obj)} {σ:St} {H:Hp} {s:Shared} {l b:Addr} {xs ys zs:List V}
theorem Inv.lset {its its':List Value} {n:Nat} {f:Array Value->Array Value} {t':Nat} (I:Inv X pins σ H s) (hH:H l=some (.lst xs))
    (e:s.heap.get? l=some { cls:=.type "list",data:=.seq its.toArray n }) (hf:f its.toArray=its'.toArray) (hv:Vals ys its') (hz:ys.length<=sizeLine) :
    Inv X pins σ (upd H l (.lst ys)) { s with heap:=s.heap.update l (Obj.mapSeq f),toks:=t' }:=by
  have q:=PySem.IsL.update e f
  rw [hf] at q
  refine I.write (x:=l) (e:=l) (by rw [hH]; exact trivial) (.inl rfl) (fun b' u hb hu=>(Heap.get?_update_other s.heap (Obj.mapSeq f) (Ne.symm hb)).trans hu) ⟨_,q⟩ ?_
  exact ⟨hz,its',_,hv,q⟩
theorem Inv.lnew {its:List Value} {t':Nat} (I:Inv X pins σ H s) (hv:Vals ys its) (hz:ys.length<=sizeLine) :
    Inv X pins σ (upd H s.heap.objs.size (.lst ys)) { s with heap:=s.heap.push { cls:=.type "list",data:=.seq its.toArray },toks:=t' } :=
  I.laid (fun _ _ q=>Heap.get?_push_of_some _ q) (Nat.le_refl _) ⟨hz,its,0,hv,Heap.get?_push_size _ rfl⟩
theorem Inv.fresh (I:Inv X pins σ H s):H s.heap.objs.size=none:=I.hok.fresh (Nat.le_refl _)
theorem Inv.lstM (I:Inv X pins σ H s) (hH:H l=some (.lst xs)):xs.length<=sizeLine/\∃ (its:List Value) (n:Nat),Vals xs its/\xs.length=its.length/\s.heap.get? l=some { cls:=.type "list",data:=.seq its.toArray n }:=by
  obtain ⟨z,its,n,r,e⟩:=I.hok l _ hH
  exact ⟨z,its,n,r,r.length,e⟩
theorem notLongL {n:Nat} (h:n<=sizeLine):Builtin.List.listTooLong n=false:=by
  unfold Builtin.List.listTooLong
  exact decide_eq_false (by lia)
end
section
variable {X:Cx}
def rAppend:V->List V->Hp->VK->Prop:=fun x vs H Q=>∃ l xs y,x=.ref l/\vs=[y]/\H l=some (.lst xs)/\xs.length < sizeLine/\Q .non (upd H l (.lst (xs ++ [y])))
theorem mt_append:MtM X "list.append" rAppend:=by
  intro pins s σ H x vs v us Q I rx rv h
  obtain ⟨l,xs,y,rfl,rfl,hH,hz,q⟩:=h
  cases rx
  obtain ⟨u,rfl,ru⟩:=rv.one
  obtain ⟨z,its,n,r,hl,e⟩:=I.lstM hH
  refine call_meets F.slot_list_append ⟨_,e,rfl⟩ F.entry_list_append (F.args_list_append_2 _ _) (PySem.list_append l its.toArray n u (by rw [List.size_toArray]; lia)) ⟨e,?_⟩
  refine ⟨.non,_,I.lset (its':=its ++ [u]) hH e (by simp) (r.append (.cons ru .nil)) ?_,rfl,q⟩
  rw [List.length_append,List.length_singleton]
  lia
def rPop:V->List V->Hp->VK->Prop:=fun x vs H Q=>∃ l xs y,x=.ref l/\vs=[]/\H l=some (.lst xs)/\xs[xs.length - 1]?=some y/\Q y (upd H l (.lst xs.dropLast))
theorem mt_pop:MtM X "list.pop" rPop:=by
  intro pins s σ H x vs v us Q I rx rv h
  obtain ⟨l,xs,y,rfl,rfl,hH,hy,q⟩:=h
  cases rx
  have hus:=rv.zero
  subst hus
  obtain ⟨z,its,n,r,hl,e⟩:=I.lstM hH
  obtain ⟨u,hu,ru⟩:=r.get hy
  have hy':its.toArray[its.toArray.size - 1]?=some u:=by
    show its.toArray[its.length - 1]?=some u
    rw [<- Array.getElem?_toList,<- hl]
    exact hu
  refine call_meets F.slot_list_pop ⟨_,e,rfl⟩ F.entry_list_pop (F.args_list_pop_1 _) (MeetsSeq.list_pop_last l its.toArray n u hy' (by rw [List.size_toArray]; lia)) ⟨e,?_⟩
  refine ⟨y,_,I.lset (its':=its.dropLast) hH e ?_ r.dropLast ?_,ru,q⟩
  · show its.toArray.eraseIdxIfInBounds (its.toArray.size - 1)=its.dropLast.toArray
    rw [List.size_toArray,List.eraseIdxIfInBounds_toArray,erase_last]
  · rw [List.length_dropLast]
    lia
def rReverse:V->List V->Hp->VK->Prop:=fun x vs H Q=>∃ l xs,x=.ref l/\vs=[]/\H l=some (.lst xs)/\Q .non (upd H l (.lst xs.reverse))
theorem mt_reverse:MtM X "list.reverse" rReverse:=by
  intro pins s σ H x vs v us Q I rx rv h
  obtain ⟨l,xs,rfl,rfl,hH,q⟩:=h
  cases rx
  have hus:=rv.zero
  subst hus
  obtain ⟨z,its,n,r,hl,e⟩:=I.lstM hH
  refine call_meets F.slot_list_reverse ⟨_,e,rfl⟩ F.entry_list_reverse (F.args_list_reverse_1 _) (AutoSeq1.list_reverse_list_0 l its.toArray n (by rw [List.size_toArray]; lia)) ⟨e,?_⟩
  refine ⟨.non,_,I.lset (its':=its.reverse) hH e (by simp) r.reverse ?_,rfl,q⟩
  rw [List.length_reverse]
  lia
def rCat:R2:=fun x y H Q=>∃ l b xs zs,x=.ref l/\y=.ref b/\H l=some (.lst xs)/\H b=some (.lst zs)/\xs.length + zs.length<=sizeLine/\∀ p,H p=none->Q (.ref p) (upd H p (.lst (xs ++ zs)))
theorem op_cat:OpR X (binaryOp .Add) rCat:=by
  intro pins s σ H x y v u Q I rx ry h
  obtain ⟨l,b,xs,zs,rfl,rfl,hH,hB,hz,q⟩:=h
  cases rx
  cases ry
  obtain ⟨z,its,n,r,hl,e⟩:=I.lstM hH
  obtain ⟨z2,its2,n2,r2,hl2,e2⟩:=I.lstM hB
  refine PySem.P.add_list e e2 ?_ (by rw [List.size_toArray,List.size_toArray]; lia)
  have ea:its.toArray ++ its2.toArray=(its ++ its2).toArray:=by simp
  rw [ea]
  exact ⟨.ref _,_,I.lnew (t':=s.toks) (r.append r2) (by rw [List.length_append]; lia),rfl,q _ I.fresh⟩
def rRep:R2:=fun x y H Q=>∃ l k xs,x=.ref l/\y=.int k/\H l=some (.lst xs)/\-(2 ^ 63)<=k/\k < 2 ^ 63/\xs.length * k.toNat<=sizeLine /\
  ∀ p,H p=none->Q (.ref p) (upd H p (.lst (List.replicate k.toNat xs).flatten))
theorem len_rep {α:Type} (xs:List α) (k:Nat):(List.replicate k xs).flatten.length=k * xs.length:=by
  induction k with
  | zero=>simp
  | succ k ih=>rw [List.replicate_succ,List.flatten_cons,List.length_append,ih,Nat.succ_mul,Nat.add_comm]
theorem op_rep:OpR X (binaryOp .Mult) rRep:=by
  intro pins s σ H x y v u Q I rx ry h
  obtain ⟨l,k,xs,rfl,rfl,hH,h1,h2,hz,q⟩:=h
  cases rx
  obtain ⟨t,rfl⟩:=ry
  obtain ⟨z,its,n,r,hl,e⟩:=I.lstM hH
  have hlen:its.toArray.size * k.toNat<=sizeLine:=by rw [List.size_toArray,<- hl]; exact hz
  have hcap:¬ its.toArray.size * k.toNat > (2 ^ 63 - 1) / 8:=by
    have:(sizeLine:Nat)<=(2 ^ 63 - 1) / 8:=by decide
    lia
  have hfit:¬ (!Builtin.List.listFitsIndex k)=true:=by
    rw [fitsIndex_both h1 h2]
    exact Bool.false_ne_true
  have hlong:¬ Builtin.List.listTooLong (its.toArray.size * k.toNat)=true:=by
    rw [notLongL hlen]
    exact Bool.false_ne_true
  have hnew:List.foldl (fun x1 x2=>x1 ++ x2) #[] (List.replicate (if its.toArray.isEmpty=true then 0 else k.toNat) its.toArray)=(List.replicate k.toNat its).flatten.toArray:=by
    have f0:∀ m:Nat,List.foldl (fun x1 x2=>x1 ++ x2) #[] (List.replicate m its.toArray)=(List.replicate m its).flatten.toArray:=fun m=>by
      have:=foldl_rep its m []
      rw [List.nil_append] at this
      exact this
    rw [f0]
    cases its with
    | nil=>simp
    | cons a r'=>rw [if_neg (by simp)]
  refine wpAny_binaryOp_repeat_ref (T:="list") (U:="int") (by decide) ⟨_,e,rfl⟩ (fun s'=>typeIs_int s' k t) noFill_list_mul F.fills_int_mul F.slot_int_rmul repeat_list F.slot_int_index.lookup
    (call_meets F.slot_int_rmul (typeIs_int s k t) F.entry_int_rmul (F.args_int_rmul_2 _ _) (int___rmul___int_list k t l its.toArray n)
      ⟨e,rfl,⟨_,e,rfl⟩,call_meets F.slot_list_mul ⟨_,e,rfl⟩ F.entry_list_mul (F.args_list_mul_2 _ _) (AutoListH.list___mul___list_int_3 l its.toArray n k t hfit hcap hlong) ⟨e,?_⟩⟩)
  rw [hnew]
  exact ⟨.ref _,_,I.lnew (t':=s.toks) (r.rep k.toNat) (by rw [len_rep,Nat.mul_comm]; exact hz),rfl,q _ I.fresh⟩
end
section
variable {prog:Program} {w:World} {A:Around} {E:Value->Shared->Prop} {s:Shared}
end
section
variable {X:Cx}
end
end L2
namespace Att
open PySem PySem.W PySem.Calls PyProof.Rows
theorem ints_of_wellAll {P:Params} {h:Heap}:∀ (ns:List Int) (vs:List Value),WellAll P h vs (ns.map WData.int)->IntsAre vs ns:=by
  intro ns
  induction ns with
  | nil =>
    intro vs w
    rw [List.map_nil] at w
    cases w
    exact .nil
  | cons n ns ih =>
    intro vs w
    rw [List.map_cons] at w
    cases w with
    | cons a b =>
      cases a
      exact .cons _ _ (ih _ b)
theorem script_of {l:OpenLaw} {n:Nat} (hn:l.most=some n) {P:Params} {h:Heap} {args:List WData} {vals:List Value}
    (hpre:l.row.toRowW.claim.pre args=true) (hwl:WellAll P h vals args) :
    ∃ a vs ns,vals=[Value.ref a]/\args=[WData.list (ns.map WData.int)]/\h.get? a=some { cls:=.type "list",data:=.seq vs.toArray }/\IntsAre vs ns/\ns.length<=n:=by
  have hsh:WShape.hasAll [] args [.list .int]=true:=(pre_splitW hpre).1
  have hc:l.pre.holds [] { args:=args }=true:=(pre_splitW hpre).2
  obtain ⟨d,r,rfl,h1,h2⟩:=hasAllW_cons hsh
  obtain rfl:=hasAllW_nil h2
  obtain ⟨xs,rfl,h3⟩:=hasW_list h1
  obtain ⟨ns,rfl⟩:=items_int h3
  have hlen:ns.length<=n:=by
    unfold OpenLaw.pre at hc
    have h4:(WTm.not (.lt (.lit (.int (n:Int))) (.len (.arg 0)))).holds [] { args:=[.list (ns.map .int)] }=true:=by
      have h4:=(holds_andW hc).1
      rw [hn] at h4
      exact h4
    have h5:=condW_of h4 (w_not (w_lt w_lit (w_len_list (w_arg rfl))))
    rw [List.length_map] at h5
    refine Nat.le_of_not_lt fun q=>?_
    have q':(n:Int) < ((ns.length:Nat):Int):=by lia
    first
      | (rw [decide_eq_true q'] at h5; exact absurd h5 (by decide))
      | (simp at h5; lia)
  cases hwl with
  | cons w1 w2 =>
    cases w2
    cases w1 with
    | list ho hall=>exact ⟨_,_,ns,rfl,rfl,ho,ints_of_wellAll ns _ hall,hlen⟩
theorem post_true (l:OpenLaw) (args:List WData):l.row.toRowW.claim.post args (.bool true) args=true :=
  postW_of (r:=l.row.toRowW) (X:=(true == true))
    (show WShape.has [] (.bool true) .bool=true by first | rfl | decide | simp [WShape.has,WShape.arms,WShape.armsAll])
    (show (WTm.eq .res (.lit (.bool true))).value [] { args:=args,res:=some (.bool true),after:=args }=some (.bool (true == true)) from w_eq_bool (w_res rfl) w_lit) rfl
theorem attach_call {l:OpenLaw} {n:Nat} {q:Program} {loose:List Str} {XP:(Str->Option Value)->Heap->Prop} {YP:World->Heap->Prop} {d:DefRec}
    (hn:l.most=some n) (hdf:d.params.defaults=[])
    (call:∀ (w:World) (s₀ s₁:Shared) (mg mb:Str->Option Value) (fa:Addr) (o:Obj) (pm cd doc:Value) (a:Addr) (vs:List Value) (ns:List Int),
      Ground q loose [] XP w s₀ mg mb s₁.heap->YP w s₁.heap ->
      s₁.heap.get? fa=some o->o.data=.func (docDef d.name d.params d.body d.scope pm cd doc)->s₁.heap.CodeRec cd d.name->mg d.name=some (.ref fa) ->
      s₁.heap.get? a=some { cls:=.type "list",data:=.seq vs.toArray }->IntsAre vs ns->ns.length<=n->s₁.gens=#[] ->
      codeAny (model l.prog w) callerA (.call (.ref fa) ⟨[.ref a],[]⟩) (fun r s'=>r=.ok (.ret (.bool true))/\OldK s₁.heap s'.heap/\s'.os=s₁.os/\AllBare s'.gens) s₁) :
    WalkO q loose XP YP l.row.toRowW d [] (fun f vs=>PySem.call f vs):=by
  intro w s₀ s₁ mg mb G Y fa o pm cd doc dV kV ho hd hcd hD hmg hg args vals as hpre hlay hrd hwl hlo
  obtain rfl:dV=.none:=Dflts.none hD hdf
  obtain rfl:kV=.none:=Dflts.noKw hD
  obtain ⟨a,vs,ns,rfl,rfl,hobj,hints,hlen⟩:=script_of hn hpre hwl
  refine enter_call (codeAny_mono (call w s₀ s₁ mg mb fa o pm cd doc a vs ns G Y ho (fd_plain hd) hcd hmg hobj hints hlen hg) fun r s' hq=>?_)
  obtain ⟨rfl,h2,h3,h4⟩:=hq
  exact ⟨.inl ⟨.bool true,.bool true,[],rfl,fun _=>rfl,.bool true,post_true l _,fun _=>⟨List.Pairwise.nil,fun _ hm=>(nomatch hm)⟩⟩,h2,h3,h4⟩
section
variable {prog:Program} {w:World} {A:Around} {E:Value->Shared->Prop} {s:Shared} {K:Frag}
def ledger (h:Heap) (L d:Addr):List (Addr × Obj):=(List.range h.objs.size).filterMap fun a=>if a=L\/a=d then none else (h.get? a).map fun o=>(a,o)
end
end Att
namespace L2
open PySem PySem.Spec PyProof.Rows
theorem vals_ints:∀ {vs:List Value} {ns:List Int},IntsAre vs ns->Vals (ns.map V.int) vs
  | _,_,.nil=>.nil
  | _,_,.cons n t h=>.cons ⟨t,rfl⟩ (vals_ints h)
end L2
namespace L2
open PySem PySem.Spec PyProof.Rows
end L2
/- THE LAST THEOREM (shape; LID, My.* are yours):
   My.Adr: a structure of the addresses that your layer names (classes,functions); My.Txt K t: a structure (Prop) of the equations over K;
   My.txt_mk:{K} {implicit addresses ..} (e1:nsIn K mainGlobals "law"=some (some (.ref f))) (e2:K.lookup f=some ⟨oc,od,.func (fnOf "law" "law" params body scope dV kV doc pm an cdv ct),sl⟩) (e3:codeIn K cdv "law"=true) ..:∃ t,My.Txt K t
set_option maxRecDepth 100000 in
set_option maxHeartbeats 0 in
theorem PySem.Challenge.cw_LID_holds : PySem.Challenge.rw_LID.Holds := by
  w_on; o_law; k_head; (case hw=>w_witness2)
  k_fill
  refine L2.walk_of (l:=PySem.Challenge.rw_LID) (n:=63) (k:=40) (x:="script") (CX:=fun w=>..) (sp:=fun _=>My.sp_law) rfl (by decide) rfl ⟨rfl,by decide,by decide⟩ (fun w h Y=>PySem.W.kIn_of Y) ?F ?S ?C
  case F =>
    intro w mg fa h KX G hmg
    have T:∃ t,My.Txt (L2.KOf KX) t:=by
      dsimp only [L2.KOf]                          -- K must stand as «<heap const> w.params» for k_is
      refine' My.txt_mk ?e1 ?e2 ?e3 ..
      (case e1 => PySem.W.k_is)                    -- in the order: a name -> its address -> its object -> its parts
      (case e2=>PySem.W.k_is)
      ..
    obtain ⟨t,T⟩:=T
    have e0:=hmg.symm.trans (PySem.W.mg_of KX G T.law)
    cases e0                                       -- fa is the law's own address
    exact ⟨_, fun s u => .of_eq rfl, fun base kb nb => My.law_fn T kb nb⟩     -- if «.of_eq rfl» comes too early: refine' ⟨_, ?b, fun base kb nb => My.law_fn T kb nb⟩; exact fun s u => .of_eq rfl
  case S=>exact fun w H a ns hl hO hS=>..
  case C=>exact ..
(the tactic k_is has no namespace: write k_is) -/
namespace L2
open PySem PySem.Spec PyProof.Rows
def inClass (s:Stmt) (j:Nat):Stmt:=match s with
  | .ClassDef _ _ _ body _ _ _ _ _ _ _=>body.getD j (.Pass ⟨0,0,0,0⟩)
  | _=>.Pass ⟨0,0,0,0⟩
def defArgs (s:Stmt):Arguments:=match s with
  | .FunctionDef _ a _ _ _ _ _ _ _ _=>a
  | _=>{ posonlyargs:=[],args:=[],vararg:=none,kwonlyargs:=[],kw_defaults:=[],kwarg:=none,defaults:=[] }
def defBody (s:Stmt):List Stmt:=match s with
  | .FunctionDef _ _ b _ _ _ _ _ _ _=>b
  | _=>[]
def defScope (s:Stmt):Scope:=match s with
  | .FunctionDef _ _ _ _ _ _ sc _ _ _=>sc
  | _=>{ kind:=.function,names:=[],isGenerator:=false,isCoroutine:=false }
abbrev CX0:CXT:=fun _ _ _ _ _ _=>False
abbrev E0:XK:=fun _ _ _=>False
theorem pass0 {X:Cx}:Passes CX0 X E0:=fun _ _ _ _ _ _ _ h=>h.elim
structure Fun (K:PySem.W.Frag) (x qual:Str) (st:Stmt) (f:Addr) (fd:FuncData):Prop where
  ex:∃ (oc:Value) (od:Option Addr) (kV doc pm:Value) (an:Option Addr) (cdv ct:Value) (osl:Array (Option Value)),
    fd=PySem.W.fnOf x qual (defArgs st) (defBody st) (defScope st) .none kV doc pm an cdv ct/\K.lookup f=some ⟨oc,od,.func fd,osl⟩/\PySem.W.codeIn K cdv qual=true
  kp:PySem.W.keepIn K (.ref f)=true
section
variable {P:Program} {w:World} {K:PySem.W.Frag} {mg:Str->Option Value} {base:Heap}
theorem Fun.ok {x qual:Str} {st:Stmt} {f:Addr} {fd:FuncData} {N ps:List Str} {k:Nat} {sp:Sp} (F:Fun K x qual st f fd) (S:FnScope N ps (defScope st)) (len:∀ vs H Q E,sp vs H Q E->vs.length=ps.length)
    (hbody:∀ (cdv:Value) (A:Around) (outer:List Env) (s:Shared) (H:Hp) (vs:List V) (Q:VK) (E:XK),Room k (A.deeper (envOfC qual (defScope st) s.heap.objs.size f cdv))->sp vs H Q E ->
      ∃ t,PSs (cxOf CX0 P w K mg base N qual (defScope st) f cdv A outer s H E).nox (defBody st) t/\t { nx:=fun _ H'=>Q .non H',rt:=Q } (start N vs) H):FnOk P w K mg base CX0 (k + 1) f fd ps sp:=by
  obtain ⟨oc,od,kV,doc,pm,an,cdv,ct,osl,rfl,lk,hcd⟩:=F.ex
  refine fn_of lk hcd S len fun A outer s H vs Q E hr hsp=>?_
  obtain ⟨t,h,q⟩:=hbody cdv A outer s H vs Q E hr hsp
  exact ⟨t,h.nox,q⟩
theorem Fun.binds {x qual:Str} {st:Stmt} {f:Addr} {fd:FuncData} {ps:List Str} (F:Fun K x qual st f fd)
    (h:∀ (kV doc pm:Value) (an:Option Addr) (cdv ct:Value) (us:List Value),us.length=ps.length->bindArgs (PySem.W.fnOf x qual (defArgs st) (defBody st) (defScope st) .none kV doc pm an cdv ct) ⟨us,[]⟩=pure (ps.zip us)):Binds K fd ps []:=by
  obtain ⟨oc,od,kV,doc,pm,an,cdv,ct,osl,rfl,lk,hcd⟩:=F.ex
  exact .all (h kV doc pm an cdv ct)
theorem fun_mk {x qual:Str} {st:Stmt} {f:Addr} {oc:Value} {od an:Option Addr} {osl:Array (Option Value)} {kV doc pm cdv ct:Value} (l:K.lookup f=some ⟨oc,od,.func (PySem.W.fnOf x qual (defArgs st) (defBody st) (defScope st) .none kV doc pm an cdv ct),osl⟩)
    (c:PySem.W.codeIn K cdv qual=true) (k:PySem.W.keepIn K (.ref f)=true):Fun K x qual st f (PySem.W.fnOf x qual (defArgs st) (defBody st) (defScope st) .none kV doc pm an cdv ct):=⟨⟨oc,od,kV,doc,pm,an,cdv,ct,osl,rfl,l,c⟩,k⟩
end
theorem hu_of {A:Around} {k:Nat} (hr:Room k A):A.units + 1 < cLine:=Nat.lt_of_le_of_lt (Nat.add_le_add_left (by decide:1<=64) _) hr.units
section
variable {X:Cx}
theorem pv (i:Nat) {x:Str} {pos:Pos} (hN:X.N[i]?=some x:=by rfl) (hv:Vis X.env.scope x:=by first | exact Or.inl rfl | exact Or.inr (Or.inl rfl) | exact Or.inr (Or.inr rfl)) (hd:(x == ("__debug__":Str))=false:=by decide)
    (hcd:(x == ("__classdict__":Str))=false:=by decide):PE X (.Name x pos) (tVar i):=pe_var hN hv hd hcd
end
theorem iteF {A B:Prop} (h:B):if false=true then A else B:=by
  rw [if_neg Bool.false_ne_true]
  exact h
theorem iteT {A B:Prop} (h:A):if true=true then A else B:=by
  rw [if_pos rfl]
  exact h
theorem ite2 {c A B:Prop} [Decidable c] (h1:c->A) (h2:¬ c->B):if c then A else B:=by
  by_cases h:c
  · rw [if_pos h]
    exact h1 h
  · rw [if_neg h]
    exact h2 h
def Same (H H':Hp):Prop:=∀ b o,H b=some o->H' b=some o
theorem Same.refl (H:Hp):Same H H:=fun _ _ h=>h
theorem Same.trans {H H1 H2:Hp} (a:Same H H1) (b:Same H1 H2):Same H H2:=fun c o h=>b c o (a c o h)
theorem Same.free {H H':Hp} (e:Same H H') {l:Addr} (h:H' l=Option.none):H l=Option.none:=by
  cases q:H l with
  | none=>rfl
  | some o =>
    rw [e l o q] at h
    cases h
theorem Same.seq {K:PySem.W.Frag} {H H':Hp} {a:Addr} {xs:List V} (e:Same H H') (h:SqL K H a xs):SqL K H' a xs:=by
  rcases h with (h | ⟨o,h⟩) | h
  · exact .inl (.inl (e _ _ h))
  · exact .inl (.inr ⟨o,e _ _ h⟩)
  · exact .inr h
end L2
namespace L2
open PySem PySem.Spec PyProof.Rows
def AllIn (env:Env):List (Str × Addr)->Prop
  | []=>True
  | p :: r=>env.cells.lookup p.1=some p.2/\AllIn env r
theorem AllIn.get {env:Env}:∀ {cl:List (Str × Addr)} {y:Str} {c:Addr},AllIn env cl->cl.lookup y=some c->env.cells.lookup y=some c
  | [],_,_,_,h=>by simp at h
  | (n,a) :: r,y,c,⟨e,t⟩,h=>by
    rw [List.lookup_cons] at h
    by_cases q:y=n
    · subst q
      rw [beq_self_eq_true] at h
      cases h
      exact e
    · have q':(y == n)=false:=beq_eq_false_iff_ne.mpr q
      rw [q'] at h
      exact AllIn.get t h
def blank:List Nat->St->St
  | [],σ=>σ
  | i :: S,σ=>blank S (σ.set i none)
theorem blank_len:∀ (S:List Nat) (σ:St),(blank S σ).length=σ.length
  | [],_=>rfl
  | i :: S,σ=>by rw [blank,blank_len S,List.length_set]
theorem blank_get:∀ (S:List Nat) (σ:St) {j:Nat} {v:V},(blank S σ)[j]?=some (some v)->σ[j]?=some (some v)/\j ∉ S
  | [],_,_,_,h=>⟨h,by simp⟩
  | i :: S,σ,j,v,h=>by
    obtain ⟨h1,h2⟩:=blank_get S (σ.set i none) h
    rw [List.getElem?_set] at h1
    by_cases e:i=j
    · rw [if_pos e] at h1
      split at h1 <;> cases h1
    · rw [if_neg e] at h1
      exact ⟨h1,fun z=>(List.mem_cons.mp z).elim (fun z=>e z.symm) h2⟩
structure LcOk (X:Cx) (scope:Scope) (cl:List (Str × Addr)) (S:List Nat):Prop where
  clos:closureFor scope X.env=pure cl
  kind:scope.kind=.function
  noC:scope.names.all (fun y=>y.2 != .cell)=true
  loc:scope.names.all (fun y=>y.2 != .local || scope.names.lookup y.1 == some .local)=true
  own:X.N.zipIdx.all (fun y=>S.contains y.2 || scope.names.lookup y.1 != some .local)=true
  sub:AllIn X.env cl
  has:scope.names.all (fun p=>p.2 != .free || ((cl.lookup p.1).isSome && (X.env.kindOf p.1 == some .cell || X.env.kindOf p.1 == some .free)))=true
section
variable {X:Cx} {scope:Scope} {cl:List (Str × Addr)} {S:List Nat}
theorem LcOk.nocell (L:LcOk X scope cl S):∀ y∈scope.names,y.2≠.cell:=fun y hy=>by
  have h:=List.all_eq_true.mp L.noC y hy
  exact bne_iff_ne.mp h
theorem LcOk.locs (L:LcOk X scope cl S):∀ y∈scope.names,y.2=.local->scope.names.lookup y.1=some .local:=fun y hy e=>by
  have h:=List.all_eq_true.mp L.loc y hy
  rw [e] at h
  simpa using h
theorem LcOk.apart (L:LcOk X scope cl S):∀ (i:Nat) (y:Str),X.N[i]?=some y->i ∉ S->scope.names.lookup y≠some .local:=fun i y hy hi=>by
  have h:=List.all_eq_true.mp L.own (y,i) (List.mem_zipIdx_iff_getElem?.mpr hy)
  have hc:S.contains i=false:=by simpa using hi
  rw [hc,Bool.false_or] at h
  exact bne_iff_ne.mp h
theorem LcOk.free (L:LcOk X scope cl S) {y:Str} (h:scope.names.lookup y=some .free):(∃ c,cl.lookup y=some c)/\(X.env.kindOf y=some .cell\/X.env.kindOf y=some .free):=by
  have h1:=List.all_eq_true.mp L.has _ (PySem.mem_of_lookup h)
  simp only [bne_self_eq_false,Bool.false_or,Bool.and_eq_true,Bool.or_eq_true,beq_iff_eq] at h1
  exact ⟨Option.isSome_iff_exists.mp h1.1,h1.2⟩
theorem lookup_relabel (names:List (Str × NameKind)) (env:Env) (y:Str) :
    (names.map fun (n,k)=>if (k == NameKind.free && env.scope.kind == .function && env.kindOf n == some .cell) then (n,NameKind.cell) else (n,k)).lookup y =
      (names.lookup y).map fun k=>if (k == NameKind.free && env.scope.kind == .function && env.kindOf y == some .cell) then NameKind.cell else k:=by
  induction names with
  | nil=>rfl
  | cons p r ih =>
    obtain ⟨n,k⟩:=p
    rw [List.map_cons]
    by_cases q:y=n
    · subst q
      by_cases hc:(k == NameKind.free && env.scope.kind == .function && env.kindOf y == some .cell)=true
      · show List.lookup y ((if (k == NameKind.free && env.scope.kind == .function && env.kindOf y == some .cell)=true then (y,NameKind.cell) else (y,k)) :: _)=_
        rw [if_pos hc,List.lookup_cons,List.lookup_cons,beq_self_eq_true]
        show some NameKind.cell=some (if _ then _ else _)
        rw [if_pos hc]
      · show List.lookup y ((if (k == NameKind.free && env.scope.kind == .function && env.kindOf y == some .cell)=true then (y,NameKind.cell) else (y,k)) :: _)=_
        rw [if_neg hc,List.lookup_cons,List.lookup_cons,beq_self_eq_true]
        show some k=some (if _ then _ else _)
        rw [if_neg hc]
    · have q':(y == n)=false:=beq_eq_false_iff_ne.mpr q
      by_cases hc:(k == NameKind.free && env.scope.kind == .function && env.kindOf n == some .cell)=true
      · show List.lookup y ((if (k == NameKind.free && env.scope.kind == .function && env.kindOf n == some .cell)=true then (n,NameKind.cell) else (n,k)) :: _)=_
        rw [if_pos hc,List.lookup_cons,List.lookup_cons,q']
        exact ih
      · show List.lookup y ((if (k == NameKind.free && env.scope.kind == .function && env.kindOf n == some .cell)=true then (n,NameKind.cell) else (n,k)) :: _)=_
        rw [if_neg hc,List.lookup_cons,List.lookup_cons,q']
        exact ih
theorem LcOk.kinds (L:LcOk X scope cl S) {y:Str} (h:(relabel scope X.env).names.lookup y=some .cell\/(relabel scope X.env).names.lookup y=some .free):scope.names.lookup y=some .free:=by
  have e:(relabel scope X.env).names.lookup y=(scope.names.lookup y).map fun k=>if (k == NameKind.free && X.env.scope.kind == .function && X.env.kindOf y == some .cell) then NameKind.cell else k:=lookup_relabel scope.names X.env y
  rw [e] at h
  cases q:scope.names.lookup y with
  | none=>rw [q] at h; rcases h with h | h <;> cases h
  | some k =>
    have hk:k≠.cell:=L.nocell _ (PySem.mem_of_lookup q)
    rw [q] at h
    by_cases hf:k=.free
    · rw [hf]
    · have z:(k == NameKind.free)=false:=beq_eq_false_iff_ne.mpr hf
      rw [Option.map_some,z,Bool.false_and,Bool.false_and,if_neg Bool.false_ne_true] at h
      rcases h with h | h
      · exact absurd (Option.some.inj h) hk
      · exact absurd (Option.some.inj h) hf
def cxLC (X:Cx) (scope:Scope) (cl:List (Str × Addr)) (M:List Str) (C:Addr) (s₀:Shared) (H₀:Hp) (ex:List Addr) (E:Value->Shared->Prop):Cx where
  prog:=X.prog
  w:=X.w
  K:=X.K
  mg:=X.mg
  base:=X.base
  A:=X.A
  N:=X.N ++ M
  s₀:=s₀
  H₀:=H₀
  env:=compEnvC scope cl C X.env
  outer:=X.stack
  stack:=X.stack
  ex:=ex
  fn:=fun _=>false
  calm:=X.calm
  pn:=[]
  xe:=E
variable {pins:List (Addr × Obj)} {σ:St} {H:Hp} {s:Shared} {ex:List Addr} {M:List Str} {C:Addr}
theorem lc_start {E:Value->Shared->Prop} {h1:Heap} {tk:Nat} {m:Str->Option Value} (I:Inv X pins σ H s) (L:LcOk X scope cl S) (hf:∀ b∈ex,FpOk X pins H b) (hlt:∀ b∈ex,b < s.heap.objs.size)
    (hk:∀ b o,s.heap.get? b=some o->h1.get? b=some o) (hC:s.heap.objs.size<=C) (hns:h1.Ns C m) :
    Inv (cxLC X scope cl M C s H ex E) [] (blank S σ ++ List.replicate M.length none) H { s with heap:=h1,toks:=tk }:=by
  refine ⟨⟨I.ok.mod,L.kind,I.ok.glob,I.ok.blt,hC,fun x y c a b=>I.ok.inj x y c (L.sub.get a) (L.sub.get b),fun y hy=>(L.free (L.kinds hy)).1,(fun x c z=>nomatch z),I.ok.hd,I.ok.frames,.inl rfl,fun b hb=>⟨?_,fun x c e=>?_⟩,
      I.bs,Nat.le_trans I.ok.bsz I.sz,fun b o e hb=>?_,fun b hb z=>?_,I.stack,I.stkFree⟩,
    rfl,I.bare,Un.kept hk,⟨m,hns,fun i y v e1 e2 e3=>?_⟩,fun y c e=>?_,I.hok.fresh hC,fun y c e=>I.freeC y c (L.sub.get e),fun p hp=>absurd (show p∈([]:List (Addr × Obj)) from hp) (by simp),I.hok.kept hk,?_⟩
  · exact Nat.ne_of_lt (Nat.lt_of_lt_of_le (hlt b hb) hC)
  · exact (hf b hb).2.2.2.2.1 x c (L.sub.get e)
  · rcases (hf b hb).2.2.2.1 with z | z
    · exact I.ok.noex b o e z
    · exact absurd (Nat.lt_of_lt_of_le (Heap.lt_size e) (Nat.le_trans I.ok.bsz z)) (Nat.lt_irrefl _)
  · rcases List.mem_cons.mp (I.stkSub b z) with q | q
    · exact (hf b hb).2.1 q
    · exact (hf b hb).2.2.1 q
  · have e1':(X.N ++ M)[i]?=some y:=e1
    by_cases hi:i < σ.length
    · rw [List.getElem?_append_left (by rw [blank_len]; exact hi)] at e2
      obtain ⟨e2,hiS⟩:=blank_get S σ e2
      rw [List.getElem?_append_left (by rw [<- I.len]; exact hi)] at e1'
      obtain ⟨m0,hn0,hl⟩:=I.loc
      have hy:scope.names.lookup y=some .free:=by
        rcases e3 with e3 | e3
        · have q:=lookup_relabel scope.names X.env y
          have e3':(relabel scope X.env).names.lookup y=some .local:=e3
          cases z:scope.names.lookup y with
          | none =>
            rw [z] at q
            have q':(relabel scope X.env).names.lookup y=none:=q
            rw [e3'] at q'; cases q'
          | some k =>
            have hk1:k≠.local:=fun w=>L.apart i y e1' hiS (w ▸ z)
            rw [z,Option.map_some] at q
            have q':some NameKind.local=some (if (k == NameKind.free && X.env.scope.kind == .function && X.env.kindOf y == some .cell)=true then NameKind.cell else k):=e3'.symm.trans q
            have q2:=Option.some.inj q'
            by_cases hc:(k == NameKind.free && X.env.scope.kind == .function && X.env.kindOf y == some .cell)=true
            · rw [if_pos hc] at q2; cases q2
            · rw [if_neg hc] at q2; exact absurd q2.symm hk1
        · exact L.kinds e3
      obtain ⟨⟨c,hc⟩,hk2⟩:=L.free hy
      obtain ⟨u,r,l⟩:=hl i y v e1' e2 (.inr hk2)
      refine ⟨u,r,.inr ⟨?_,c,hc,?_⟩⟩
      · have q:=lookup_relabel scope.names X.env y
        rw [hy,Option.map_some] at q
        have q':(relabel scope X.env).names.lookup y=some (if (NameKind.free == NameKind.free && X.env.scope.kind == .function && X.env.kindOf y == some .cell)=true then NameKind.cell else NameKind.free):=q
        by_cases hc:(NameKind.free == NameKind.free && X.env.scope.kind == .function && X.env.kindOf y == some .cell)=true
        · rw [if_pos hc] at q'; exact .inl q'
        · rw [if_neg hc] at q'; exact .inr q'
      · rcases l with ⟨l1,_⟩ | ⟨_,c',e',z⟩
        · rcases hk2 with w | w <;> (rw [l1] at w; cases w)
        · have ec:c'=c:=by
            have w:=L.sub.get hc
            rw [e'] at w
            exact Option.some.inj w
          subst ec
          obtain ⟨o,ho,hd⟩:=z
          exact ⟨o,hk _ _ ho,hd⟩
    · rw [List.getElem?_append_right (by rw [blank_len]; exact Nat.not_lt.mp hi),List.getElem?_replicate] at e2
      split at e2 <;> cases e2
  · obtain ⟨v,o,ho,hd⟩:=I.cell y c (L.sub.get e)
    exact ⟨v,o,hk _ _ ho,hd⟩
  · show (blank S σ ++ List.replicate M.length none).length=(X.N ++ M).length
    rw [List.length_append,List.length_append,List.length_replicate,blank_len,I.len]
def PTs (X:Cx) (ifs:List Expr) (t:TT):Prop :=
  ∀ (pins:List (Addr × Obj)) (s:Shared) (σ:St) (H:Hp) (Q:Bool->Hp->Prop),Inv X pins σ H s->t σ H Q ->
    wpAny (model X.prog X.w) X.A (forIn ifs true fun c r=>if r=true then do let ok <- isTrue c X.env (eval c X.env); pure (ForInStep.yield ok) else pure (ForInStep.yield r)) (TP X pins σ Q) X.xe s
def tYes:TT:=fun _ H Q=>Q true H
theorem pts_nil {X:Cx}:PTs X [] tYes:=fun _ _ _ H _ I h=>wpAny_tests_nil ⟨H,I,h⟩
theorem pts_one {X:Cx} {c:Expr} {t:TT} (h:PT X c t):PTs X [c] t:=fun pins s σ H Q I q=>wpAny_tests_one (h pins s σ H Q I q)
def lcBy (J:It) (g:TG) (tt:TT) (te:TE) (Q:VK) (W:Nat->Nat->St->List V->Hp->Prop):Prop:=∀ i m τ ys H,W i m τ ys H ->
  (J.stop i H/\∀ p,H p=none->Q (.ref p) (upd H p (.lst ys))) \/
  (J.go i H/\∃ N:St->List V->Hp->Prop,(∀ τ' ys' H',N τ' ys' H'->∃ m',m' < m/\W (i + 1) m' τ' ys' H')/\∀ x H',J.yld i H x H'->g x τ H' fun τ2 H2=>tt τ2 H2 fun b H3 =>
    if b=true then te τ2 H3 fun y H4=>ys.length < sizeLine/\N τ2 (ys ++ [y]) H4 else N τ2 ys H3)
def tLC (wi:TI) (g:TG) (tt:TT) (te:TE) (n:Nat):TE:=fun σ H Q=>wi σ H fun J H1=>∃ W,(∃ m,W 0 m (σ ++ List.replicate n none) [] H1)/\lcBy J g tt te Q W
def tLCS (S:List Nat) (wi:TI) (g:TG) (tt:TT) (te:TE) (n:Nat):TE:=fun σ H Q=>wi σ H fun J H1=>∃ W,(∃ m,W 0 m (blank S σ ++ List.replicate n none) [] H1)/\lcBy J g tt te Q W
theorem lc_core {tg elt iter:Expr} {ifs:List Expr} {pos:Pos} {g:TG} {tt:TT} {te:TE} {J:It} {fp:List Addr} {it:Addr} {tn:Nat->Heap->Prop} {Q:VK} {E:Value->Shared->Prop} {R:Value->Addr->Result->Shared->Prop} {Al:Addr->(Value->Shared->Prop)->Prop}
    {W:Nat->Nat->St->List V->Hp->Prop} {m0:Nat} (L:LcOk X scope cl S) (hc:X.calm=true) (I:Inv X pins σ H s) (T:Turn X.prog X.w X.K tg J fp it tn) (st:tn 0 s.heap) (hf:∀ b∈fp,FpOk X pins H b)
    (hg:∀ C s H ex E,PG (cxLC X scope cl M C s H ex E) tg g) (ht:∀ C s H ex E,PTs (cxLC X scope cl M C s H ex E) ifs tt) (he:∀ C E,Al C E->PE (cxLC X scope cl M C s H fp E) elt te)
    (hal:∀ C,s.heap.objs.size < C->Al C (notedBy (model X.prog X.w) X.A (compEnvC scope cl C X.env) (fun e s'=>R (.ref s.heap.objs.size) C (.error e) s')))
    (w0:W 0 m0 (blank S σ ++ List.replicate M.length none) [] H) (turn:lcBy J g tt te Q W)
    (hR:∀ D C s' H' ys m,Inv X pins σ (upd H' D (.lst ys)) s'->FpOk X pins (upd H' D (.lst ys)) C->s'.heap.Ns C m->Q (.ref D) (upd H' D (.lst ys))->R (.ref D) C (.ok .next) s') :
    wpAny (model X.prog X.w) X.A (newList []) (fun acc s₃=>wpAny (model X.prog X.w) X.A (newFunctionEnv scope X.env.globals cl [] X.env.qual none .none (some X.env)) (fun cenv s₄ =>
      codeAny (model X.prog X.w) X.A (.compStart (.ListComp elt [⟨tg,iter,ifs,0⟩] scope pos) 0 (.ref it) acc { cenv with scope:=relabel scope X.env }) (R acc cenv.locals) s₄) E s₃) E s:=by
  refine wpAny_newObj_type (wpAny_newFunctionEnv L.nocell (by intro y hy; simp at hy) (fun h₁ hns₁ hsb₁=>?_) L.kind)
  dsimp only at hns₁ hsb₁ ⊢
  generalize hG:s.heap.push { cls:=.type "list",dict:=none,data:=.seq ([]:List Value).toArray }=G at hns₁ hsb₁ ⊢
  have hC:G.objs.size=s.heap.objs.size + 1:=by rw [<- hG,Heap.size_push]
  have hDC:s.heap.objs.size≠G.objs.size:=by rw [hC]; exact Nat.ne_of_lt (Nat.lt_succ_self _)
  have hCle:s.heap.objs.size<=G.objs.size:=by rw [hC]; exact Nat.le_succ _
  have old:∀ b o,s.heap.get? b=some o->h₁.get? b=some o:=fun b o e =>
    hsb₁.extBut b o (by rw [hC]; exact Nat.ne_of_lt (Nat.lt_succ_of_lt (Heap.lt_size e))) (Heap.get?_push_of_some _ (hG ▸ Heap.get?_push_of_some _ e))
  have hacc:h₁.get? s.heap.objs.size=some { cls:=.type "list",data:=.seq ([]:List Value).toArray }:=hsb₁.extBut _ _ hDC (Heap.get?_push_of_some _ (hG ▸ Heap.get?_push_size _ rfl))
  have fpo:∀ b∈fp,b < s.heap.objs.size:=fun b hb=>let ⟨o,e,_⟩:=T.obj 0 _ st b hb; Heap.lt_size e
  have st1:tn 0 h₁:=T.keep 0 _ _ st fun b _ o e=>old b o e
  have nofs:s.heap.objs.size ∉ frs X.stack:=fun z=>by
    rcases List.mem_cons.mp (I.stkSub _ z) with q | q
    · exact absurd (q ▸ I.lt) (Nat.lt_irrefl _)
    · exact I.nofs (Nat.le_refl _) q
  have nocl:∀ y c,cl.lookup y=some c->c≠s.heap.objs.size:=fun y c e z=>by
    obtain ⟨v,o,ho,_⟩:=I.cell y c (L.sub.get e)
    exact absurd (z ▸ Heap.lt_size ho) (Nat.lt_irrefl _)
  have loop:∀ s₃:Shared,s₃={ s with heap:=h₁,toks:=s.toks + ([]:List (Str × Value)).length } ->
      codeAny (model X.prog X.w) X.A (.compLoop (.ListComp elt [⟨tg,iter,ifs,0⟩] scope pos) 0 (.ref it) (.ref s.heap.objs.size) (compEnvC scope cl G.objs.size X.env)) (R (.ref s.heap.objs.size) G.objs.size) s₃:=by
    rintro s₃ rfl
    have hAl:=hal G.objs.size (by rw [hC]; exact Nat.lt_succ_self _)
    generalize hE:notedBy (model X.prog X.w) X.A (compEnvC scope cl G.objs.size X.env) (fun e s'=>R (.ref s.heap.objs.size) G.objs.size (.error e) s')=E' at hAl ⊢
    have IY:Inv (cxLC X scope cl M G.objs.size s H fp E') [] (blank S σ ++ List.replicate M.length none) H { s with heap:=h₁,toks:=s.toks + ([]:List (Str × Value)).length }:=lc_start I L hf fpo old hCle hns₁
    refine codeAny_loop rfl (fun n s'=>∃ (i:Nat) (τ:St) (H':Hp) (ys:List V) (its:List Value) (k:Nat),Inv (cxLC X scope cl M G.objs.size s H fp E') [] τ H' s'/\tn i s'.heap/\(∀ b∈fp,H' b=none) /\
      s'.heap.get? s.heap.objs.size=some { cls:=.type "list",data:=.seq its.toArray k }/\H' s.heap.objs.size=none/\Vals ys its/\ys.length<=sizeLine/\W i n τ ys H') (fun n s' hI=>?_) m0
      ⟨0,_,H,[],[],_,IY,st1,fun b hb=>(hf b hb).1,hacc,I.hok.fresh (Nat.le_refl _),.nil,Nat.zero_le _,w0⟩
    obtain ⟨i,τ,H1,ys,its,k,I1,st1,fr1,eD,fD,rv,hz,w1⟩:=hI
    show wpAny _ X.A ((compTurn (.ListComp elt [⟨tg,iter,ifs,0⟩] scope pos) 0 (.ref it) (.ref s.heap.objs.size) (compEnvC scope cl G.objs.size X.env)).onRaise (fun x=>do noteFrame x (compEnvC scope cl G.objs.size X.env); theTreesLotGoes x)) _ _ s'
    refine wpAny_noted ?_
    rw [hE,compTurn_list]
    have I1':Inv (cxLC X scope cl M G.objs.size s H fp E') [(s.heap.objs.size,{ cls:=.type "list",data:=.seq its.toArray k })] τ H1 s':=I1.pins_of fun p hp=>by
      have e:p=(s.heap.objs.size,{ cls:=.type "list",data:=.seq its.toArray k }):=by simpa using hp
      subst e
      exact ⟨eD,fD,hDC,nofs,(fun v z=>nomatch z)⟩
    have stat:∀ {H':Hp},(∀ b∈fp,H' b=none)->∀ b∈fp,FpOk (cxLC X scope cl M G.objs.size s H fp E') [(s.heap.objs.size,{ cls:=.type "list",data:=.seq its.toArray k })] H' b:=fun hn b hb=>by
      refine ⟨hn b hb,?_,?_,.inl hb,fun x c e=>(hf b hb).2.2.2.2.1 x c (L.sub.get e),fun p hp z=>?_⟩
      · exact Nat.ne_of_lt (Nat.lt_of_lt_of_le (fpo b hb) hCle)
      · intro z
        rcases List.mem_cons.mp (I.stkSub b z) with q | q
        · exact (hf b hb).2.1 q
        · exact (hf b hb).2.2.1 q
      · have e:p=(s.heap.objs.size,{ cls:=.type "list",data:=.seq its.toArray k }):=by
          have hp':p∈[(s.heap.objs.size,({ cls:=.type "list",data:=.seq its.toArray k }:Obj))]:=hp
          simpa using hp'
        subst e
        exact absurd (z ▸ fpo b hb) (Nat.lt_irrefl _)
    refine wpAny_bind (wpAny_standAt (wpAny_bind ?_))
    rcases turn i n τ ys H1 w1 with ⟨stop,q⟩ | ⟨go,N,hN,step⟩
    · refine thn (T.done (cxLC X scope cl M G.objs.size s H fp E') rfl rfl rfl hc i _ s' τ H1 E' I1' (stat fr1) st1 stop) fun r s4 ⟨hr,I4⟩=>?_
      subst hr
      refine wpAny_pure ?_
      obtain ⟨eD4,_,_⟩:=I4.pin (s.heap.objs.size,{ cls:=.type "list",data:=.seq its.toArray k }) (List.mem_append_right _ List.mem_cons_self)
      have base4:Un (frs X.stack) fp H H1 s.heap s4.heap:=I4.base
      have un:Un (frs X.stack) fp H (upd H1 s.heap.objs.size (.lst ys)) s.heap s4.heap:=⟨base4.keep,base4.slot,fun b o e n hx=>by rw [upd_ne (Nat.ne_of_lt (Heap.lt_size e))]; exact base4.free b o e n hx,base4.there,
        fun b xs e=>by rw [upd_ne (ne_of_none (base4.tups b xs e) fD)]; exact base4.tups b xs e,fun b o u e=>by rw [upd_ne (ne_of_none (base4.frzs b o u e) fD)]; exact base4.frzs b o u e,
        fun b ps e=>by
          obtain ⟨more,w⟩:=base4.tbls b ps e
          exact ⟨more,by rw [upd_ne (ne_of_none w fD)]; exact w⟩⟩
      have hok:HOk X.prog X.w (upd H1 s.heap.objs.size (.lst ys)) s4.heap:=fun b u e=>by
        by_cases hb:b=s.heap.objs.size
        · subst hb
          rw [upd_same] at e
          cases e
          exact ⟨hz,its,k,rv,eD4⟩
        · rw [upd_ne hb] at e
          exact (I4.hok b u e).stay (fun c v _ q=>q) (fun c q=>by rw [upd_ne (ne_of_none q fD)]; exact q) fun c xs q=>by rw [upd_ne (ne_of_none q fD)]; exact q
      have IX:Inv X pins σ (upd H1 s.heap.objs.size (.lst ys)) s4:=I.call' I4.os un hok I4.bare fun b hb=>⟨(hf b hb).2.2.2.1,(hf b hb).2.1,(hf b hb).2.2.2.2.1,(hf b hb).2.2.2.2.2⟩
      have fC:H1 G.objs.size=none:=I4.free
      obtain ⟨m4,n4,_⟩:=I4.loc
      exact hR _ _ s4 H1 ys m4 IX (I.fpOk hCle (by rw [upd_ne (Ne.symm hDC)]; exact fC)) n4 (q _ fD)
    · refine thn (T.item (cxLC X scope cl M G.objs.size s H fp E') rfl rfl rfl hc i _ s' τ H1 E' I1' (stat fr1) st1 go) fun r s4 ⟨u,hr,h4⟩=>?_
      subst hr
      refine wpAny_bind (thn h4 fun _ s5 ⟨x,H5,I5,r5,y5,st5,fr5⟩=>?_)
      have I5':=I5.pinned (stat fr5) (T.obj _ _ st5)
      -- what holds behind a turn
      have kept:∀ {τ6:St} {H6:Hp} {s6:Shared},Inv (cxLC X scope cl M G.objs.size s H fp E') ([(s.heap.objs.size,{ cls:=.type "list",data:=.seq its.toArray k })] ++ pinsAt fp s5.heap) τ6 H6 s6 ->
          Inv (cxLC X scope cl M G.objs.size s H fp E') [] τ6 H6 s6/\tn (i + 1) s6.heap/\(∀ b∈fp,H6 b=none)/\s6.heap.get? s.heap.objs.size=some { cls:=.type "list",data:=.seq its.toArray k }/\H6 s.heap.objs.size=none:=fun {τ6 H6 s6} I6=>by
        have pin:∀ b∈fp,∀ o,s5.heap.get? b=some o->s6.heap.get? b=some o/\H6 b=none:=fun b hb o e =>
          let w:=I6.pin (b,o) (List.mem_append_right _ (List.mem_append_right _ (mem_pinsAt hb e)))
          ⟨w.1,w.2.1⟩
        have pD:=I6.pin (s.heap.objs.size,{ cls:=.type "list",data:=.seq its.toArray k }) (List.mem_append_right _ (List.mem_append_left _ List.mem_cons_self))
        refine ⟨I6.pins_of (fun p hp=>nomatch hp),T.keep _ _ _ st5 fun b hb o e=>(pin b hb o e).1,fun b hb=>?_,pD.1,pD.2.1⟩
        obtain ⟨o,e,_⟩:=T.obj _ _ st5 b hb
        exact (pin b hb o e).2
      refine wpAny_bind (thn (hg _ _ _ _ _ _ s5 τ H5 x u _ I5' r5 (step x H5 y5)) fun _ s6 ⟨σ6,H6,I6,q6⟩=>?_)
      refine wpAny_bind (thn (ht _ _ _ _ _ _ s6 σ6 H6 _ I6 q6) fun ok s7 ⟨H7,I7,q7⟩=>?_)
      cases ok with
      | false =>
        have q7':N σ6 ys H7:=by simpa using q7
        obtain ⟨m',hm,w7⟩:=hN _ _ _ q7'
        obtain ⟨K1,K2,K3,K4,K5⟩:=kept I7
        exact wpAny_pure ⟨rfl,m',hm,i + 1,σ6,H7,ys,its,k,K1,K2,K3,K4,K5,rv,hz,w7⟩
      | true =>
        have q7':te σ6 H7 fun y H4=>ys.length < sizeLine/\N σ6 (ys ++ [y]) H4:=by simpa using q7
        refine wpAny_bind (wpAny_bind (thn (he _ _ hAl _ s7 σ6 H7 _ I7 q7') fun y s8 ⟨v8,H8,I8,r8,hz8,n8⟩=>?_))
        obtain ⟨m',hm,w8⟩:=hN _ _ _ n8
        obtain ⟨K1,K2,K3,K4,K5⟩:=kept I8
        have hl:=rv.length
        refine wpAny_bind (wpAny_list_append_plain (hsz:=by rw [List.size_toArray]; lia) ⟨k,K4⟩ fun h9 hl9 hs9=>wpAny_pure (wpAny_pure ⟨rfl,m',hm,?_⟩))
        obtain ⟨k9,e9⟩:=hl9
        have I9:Inv (cxLC X scope cl M G.objs.size s H fp E') [] σ6 H8 { s8 with heap:=h9 }:=K1.turned (t':=s8.toks) (it:=s.heap.objs.size) (fun b o hb e=>(hs9.2 b hb).trans e) K5 hDC (.inr (Nat.le_refl _))
          (fun y c e=>nocl y c e) fun p hp=>nomatch hp
        refine ⟨i + 1,σ6,H8,ys ++ [v8],its ++ [y],k9,I9,T.keep _ _ _ K2 fun b hb o e=>(hs9.2 b (Nat.ne_of_lt (fpo b hb))).trans e,K3,?_,K5,rv.append (.cons r8 .nil),?_,w8⟩
        · rw [e9]
          simp
        · rw [List.length_append,List.length_singleton]
          lia
  exact codeAny_compStart_list (loop _ rfl) (T.self X.A 0 _ _ _ st1 (loop _ rfl))
variable {tg elt iter:Expr} {ifs:List Expr} {pos:Pos} {wi:TI} {g:TG} {tt:TT} {te:TE}
theorem pe_lc (L:LcOk X scope cl S) (hc:X.calm=true) (hi:PI X tg iter wi) (hg:∀ C s H ex E,PG (cxLC X scope cl M C s H ex E) tg g) (ht:∀ C s H ex E,PTs (cxLC X scope cl M C s H ex E) ifs tt) (he:∀ C s H ex E,PE (cxLC X scope cl M C s H ex E) elt te)
    (hs:∀ x,foldedSetIterable iter X.env x=pure x:=by intro _; rfl):PE X (.ListComp elt [⟨tg,iter,ifs,0⟩] scope pos) (tLCS S wi g tt te M.length):=by
  intro pins s σ H Q I h
  rw [eval_ListComp]
  refine wpAny_comprehension_free (use:=none) rfl hs L.clos L.kind L.locs (thn (hi pins s σ H _ I h) fun v s1 h1=>thn h1 fun itv s2 h2=>?_)
  obtain ⟨it,fp,tn,J,H2,rfl,I2,T,st2,f2,W,⟨m0,w0⟩,turn⟩:=h2
  refine lc_core (R:=fun acc C=>compPost (model X.prog X.w) X.A X.xe none (EP X pins σ Q) acc C) (Al:=fun _ _=>True) L hc I2 T st2 f2 hg ht (fun C E _=>he C _ _ _ E) (fun _ _=>trivial) w0 turn ?_
  intro D C s' H' ys m IX fC ns q
  exact ⟨m,ns,fun h' sb=>⟨.ref D,_,IX.turned (t':=s'.toks) (fun b o hb e=>(sb.2 b hb).trans e) fC.1 fC.2.1 fC.2.2.2.1 fC.2.2.2.2.1 fC.2.2.2.2.2,rfl,q⟩⟩
theorem ps_set_lc {i:Nat} {y:Str} {py spos:Pos} (hN:X.N.Nodup) (hi':X.N[i]?=some y) (hy:Loc X.env.scope y) (L:LcOk X scope cl S) (hc:X.calm=true) (hi:PI X tg iter wi) (hg:∀ C s H ex E,PG (cxLC X scope cl M C s H ex E) tg g)
    (ht:∀ C s H ex E,PTs (cxLC X scope cl M C s H ex E) ifs tt) (he:∀ C s H ex E,PE (cxLC X scope cl M C s H ex E) elt te) (hs:∀ x,foldedSetIterable iter X.env x=pure x:=by intro _; rfl)
    (hsw:swapsWith (.ListComp elt [⟨tg,iter,ifs,0⟩] scope pos) (some (.Name y py)) spos.line X.env=pure true:=by rfl)
    (hf:X.fn y=true\/X.env.scope.names.lookup y=some .local:=by first | exact .inl rfl | exact .inr rfl | assumption) :
    PS X (.Assign [.Name y py] (.ListComp elt [⟨tg,iter,ifs,0⟩] scope pos) spos) (fun D σ H=>tLCS S wi g tt te M.length σ H fun v H1=>D.nx (σ.set i (some v)) H1):=by
  intro pins s σ H D I h
  rw [exec_Assign_Name_used _ _ _ _ hsw]
  refine wpAny_bind (wpAny_standAt (wpAny_bind ?_))
  show wpAny _ X.A (do let _ <- comprehension (.ListComp elt [⟨tg,iter,ifs,0⟩] scope pos) scope X.env _ (newList []) false (eval iter X.env) (some (assign (.Name y py) X.env))) _ _ s
  refine wpAny_bind (wpAny_mono (wpAny_comprehension_free (use:=some (assign (.Name y py) X.env)) (Q:=fun _ s'=>SP X pins D .next s') rfl hs L.clos L.kind L.locs
    (thn (hi pins s σ H _ I h) fun v s1 h1=>thn h1 fun itv s2 h2=>?_)) (fun _ s' hq=>wpAny_pure (wpAny_pure hq)) fun _ _ e=>e)
  obtain ⟨it,fp,tn,J,H2,rfl,I2,T,st2,f2,W,⟨m0,w0⟩,turn⟩:=h2
  refine lc_core (R:=fun acc C=>compPost (model X.prog X.w) X.A X.xe (some (assign (.Name y py) X.env)) (fun _ s'=>SP X pins D .next s') acc C) (Al:=fun _ _=>True) L hc I2 T st2 f2 hg ht (fun C E _=>he C _ _ _ E) (fun _ _=>trivial) w0 turn ?_
  intro D' C s' H' ys m IX fC ns q
  show wpAny _ X.A (assign (.Name y py) X.env (.ref D')) _ _ s'
  refine wpAny_assign_Name (store_ok2 IX hN hi' hy (v:=.ref D') rfl (fun s'' I'' ⟨a,sb,ha⟩=>?_) hf)
  refine ⟨m,ns.sameBut sb ?_,fun h' sb'=>⟨_,_,I''.turned (t':=s''.toks) (fun b o hb e=>(sb'.2 b hb).trans e) fC.1 fC.2.1 fC.2.2.2.1 fC.2.2.2.2.1 fC.2.2.2.2.2,q⟩⟩
  rcases ha with ha | ha
  · rw [ha]; exact fC.2.1
  · exact Ne.symm (fC.2.2.2.2.1 y a ha)
end
def clOf (scope:Scope) (env:Env):List (Str × Addr):=scope.names.foldl (fun cs p=>if p.2 == .free then (match env.cells.lookup p.1 with | some a=>(p.1,a) :: cs | none=>cs) else cs) []
theorem clOf_in (env:Env):∀ (names:List (Str × NameKind)) (acc:List (Str × Addr)),AllIn env acc->AllIn env (names.foldl (fun cs p=>if p.2 == .free then (match env.cells.lookup p.1 with | some a=>(p.1,a) :: cs | none=>cs) else cs) acc)
  | [],_,h=>h
  | (n,k) :: r,acc,h=>by
    rw [List.foldl_cons]
    refine clOf_in env r _ ?_
    by_cases hk:(k == NameKind.free)=true
    · rw [if_pos hk]
      cases e:env.cells.lookup n with
      | none=>exact h
      | some a=>exact ⟨e,h⟩
    · rw [if_neg hk]
      exact h
section
variable {X:Cx} {scope:Scope} {M:List Str} {tg elt iter:Expr} {ifs:List Expr} {pos:Pos} {wi:TI} {g:TG} {tt:TT} {te:TE}
theorem lcOkS {S:List Nat} (h1:closureFor scope X.env=pure (clOf scope X.env)) (h2:scope.kind=.function) (h3:scope.names.all (fun y=>y.2 != .cell)=true) (h4:scope.names.all (fun y=>y.2 != .local || scope.names.lookup y.1 == some .local)=true)
    (h5:X.N.zipIdx.all (fun y=>S.contains y.2 || scope.names.lookup y.1 != some .local)=true) (h6:scope.names.all (fun p=>p.2 != .free || (((clOf scope X.env).lookup p.1).isSome && (X.env.kindOf p.1 == some .cell || X.env.kindOf p.1 == some .free)))=true) :
    LcOk X scope (clOf scope X.env) S:=⟨h1,h2,h3,h4,h5,clOf_in X.env scope.names [] trivial,h6⟩
theorem lcOk (h1:closureFor scope X.env=pure (clOf scope X.env)) (h2:scope.kind=.function) (h3:scope.names.all (fun y=>y.2 != .cell)=true) (h4:scope.names.all (fun y=>y.2 != .local || scope.names.lookup y.1 == some .local)=true)
    (h5:X.N.all (fun y=>scope.names.lookup y != some .local)=true) (h6:scope.names.all (fun p=>p.2 != .free || (((clOf scope X.env).lookup p.1).isSome && (X.env.kindOf p.1 == some .cell || X.env.kindOf p.1 == some .free)))=true) :
    LcOk X scope (clOf scope X.env) []:=lcOkS h1 h2 h3 h4 (List.all_eq_true.mpr fun y hy=>by
      have hm:y.1∈X.N:=List.mem_of_getElem? (List.mem_zipIdx_iff_getElem?.mp hy)
      rw [List.all_eq_true.mp h5 y.1 hm,Bool.or_true]) h6
theorem pe_comp (M:List Str) (hc:X.calm=true) (hi:PI X tg iter wi) (hg:∀ C s H ex E,PG (cxLC X scope (clOf scope X.env) M C s H ex E) tg g) (ht:∀ C s H ex E,PTs (cxLC X scope (clOf scope X.env) M C s H ex E) ifs tt)
    (he:∀ C s H ex E,PE (cxLC X scope (clOf scope X.env) M C s H ex E) elt te) (hs:∀ x,foldedSetIterable iter X.env x=pure x:=by intro _; rfl)
    (h1:closureFor scope X.env=pure (clOf scope X.env):=by with_unfolding_all rfl) (h2:scope.kind=.function:=by rfl) (h3:scope.names.all (fun y=>y.2 != .cell)=true:=by rfl) (h4:scope.names.all (fun y=>y.2 != .local || scope.names.lookup y.1 == some .local)=true:=by rfl)
    (h5:X.N.all (fun y=>scope.names.lookup y != some .local)=true:=by rfl) (h6:scope.names.all (fun p=>p.2 != .free || (((clOf scope X.env).lookup p.1).isSome && (X.env.kindOf p.1 == some .cell || X.env.kindOf p.1 == some .free)))=true:=by rfl) :
    PE X (.ListComp elt [⟨tg,iter,ifs,0⟩] scope pos) (tLC wi g tt te M.length):=pe_lc (lcOk h1 h2 h3 h4 h5 h6) hc hi hg ht he hs
theorem ps_comp (M:List Str) {i:Nat} {y:Str} {py spos:Pos} (hN:X.N.Nodup) (hi':X.N[i]?=some y) (hy:Loc X.env.scope y) (hc:X.calm=true) (hi:PI X tg iter wi) (hg:∀ C s H ex E,PG (cxLC X scope (clOf scope X.env) M C s H ex E) tg g)
    (ht:∀ C s H ex E,PTs (cxLC X scope (clOf scope X.env) M C s H ex E) ifs tt) (he:∀ C s H ex E,PE (cxLC X scope (clOf scope X.env) M C s H ex E) elt te) (hs:∀ x,foldedSetIterable iter X.env x=pure x:=by intro _; rfl)
    (hsw:swapsWith (.ListComp elt [⟨tg,iter,ifs,0⟩] scope pos) (some (.Name y py)) spos.line X.env=pure true:=by rfl)
    (hf:X.fn y=true\/X.env.scope.names.lookup y=some .local:=by first | exact .inl rfl | exact .inr rfl | assumption)
    (h1:closureFor scope X.env=pure (clOf scope X.env):=by with_unfolding_all rfl) (h2:scope.kind=.function:=by rfl) (h3:scope.names.all (fun y=>y.2 != .cell)=true:=by rfl) (h4:scope.names.all (fun y=>y.2 != .local || scope.names.lookup y.1 == some .local)=true:=by rfl)
    (h5:X.N.all (fun y=>scope.names.lookup y != some .local)=true:=by rfl) (h6:scope.names.all (fun p=>p.2 != .free || (((clOf scope X.env).lookup p.1).isSome && (X.env.kindOf p.1 == some .cell || X.env.kindOf p.1 == some .free)))=true:=by rfl) :
    PS X (.Assign [.Name y py] (.ListComp elt [⟨tg,iter,ifs,0⟩] scope pos) spos) (fun D σ H=>tLC wi g tt te M.length σ H fun v H1=>D.nx (σ.set i (some v)) H1):=ps_set_lc hN hi' hy (lcOk h1 h2 h3 h4 h5 h6) hc hi hg ht he hs hsw hf
theorem pe_compS (S:List Nat) (M:List Str) (hc:X.calm=true) (hi:PI X tg iter wi) (hg:∀ C s H ex E,PG (cxLC X scope (clOf scope X.env) M C s H ex E) tg g) (ht:∀ C s H ex E,PTs (cxLC X scope (clOf scope X.env) M C s H ex E) ifs tt)
    (he:∀ C s H ex E,PE (cxLC X scope (clOf scope X.env) M C s H ex E) elt te) (hs:∀ x,foldedSetIterable iter X.env x=pure x:=by intro _; rfl)
    (h1:closureFor scope X.env=pure (clOf scope X.env):=by with_unfolding_all rfl) (h2:scope.kind=.function:=by rfl) (h3:scope.names.all (fun y=>y.2 != .cell)=true:=by rfl) (h4:scope.names.all (fun y=>y.2 != .local || scope.names.lookup y.1 == some .local)=true:=by rfl)
    (h5:X.N.zipIdx.all (fun y=>S.contains y.2 || scope.names.lookup y.1 != some .local)=true:=by rfl) (h6:scope.names.all (fun p=>p.2 != .free || (((clOf scope X.env).lookup p.1).isSome && (X.env.kindOf p.1 == some .cell || X.env.kindOf p.1 == some .free)))=true:=by rfl) :
    PE X (.ListComp elt [⟨tg,iter,ifs,0⟩] scope pos) (tLCS S wi g tt te M.length):=pe_lc (lcOkS h1 h2 h3 h4 h5 h6) hc hi hg ht he hs
theorem ps_compS (S:List Nat) (M:List Str) {i:Nat} {y:Str} {py spos:Pos} (hN:X.N.Nodup) (hi':X.N[i]?=some y) (hy:Loc X.env.scope y) (hc:X.calm=true) (hi:PI X tg iter wi) (hg:∀ C s H ex E,PG (cxLC X scope (clOf scope X.env) M C s H ex E) tg g)
    (ht:∀ C s H ex E,PTs (cxLC X scope (clOf scope X.env) M C s H ex E) ifs tt) (he:∀ C s H ex E,PE (cxLC X scope (clOf scope X.env) M C s H ex E) elt te) (hs:∀ x,foldedSetIterable iter X.env x=pure x:=by intro _; rfl)
    (hsw:swapsWith (.ListComp elt [⟨tg,iter,ifs,0⟩] scope pos) (some (.Name y py)) spos.line X.env=pure true:=by rfl)
    (hf:X.fn y=true\/X.env.scope.names.lookup y=some .local:=by first | exact .inl rfl | exact .inr rfl | assumption)
    (h1:closureFor scope X.env=pure (clOf scope X.env):=by with_unfolding_all rfl) (h2:scope.kind=.function:=by rfl) (h3:scope.names.all (fun y=>y.2 != .cell)=true:=by rfl) (h4:scope.names.all (fun y=>y.2 != .local || scope.names.lookup y.1 == some .local)=true:=by rfl)
    (h5:X.N.zipIdx.all (fun y=>S.contains y.2 || scope.names.lookup y.1 != some .local)=true:=by rfl) (h6:scope.names.all (fun p=>p.2 != .free || (((clOf scope X.env).lookup p.1).isSome && (X.env.kindOf p.1 == some .cell || X.env.kindOf p.1 == some .free)))=true:=by rfl) :
    PS X (.Assign [.Name y py] (.ListComp elt [⟨tg,iter,ifs,0⟩] scope pos) spos) (fun D σ H=>tLCS S wi g tt te M.length σ H fun v H1=>D.nx (σ.set i (some v)) H1):=ps_set_lc hN hi' hy (lcOkS h1 h2 h3 h4 h5 h6) hc hi hg ht he hs hsw hf
end
section
variable {g:TG} {tt:TT} {te:TE} {Q:VK} {σ:St} {H:Hp}
theorem lc_list {K:PySem.W.Frag} {a:Addr} {xs:List V} (Pv:Nat->St->List V->Hp->Prop) (h0:Pv 0 σ [] H) (hl:∀ i τ ys H,i<=xs.length->Pv i τ ys H->SqL K H a xs)
    (hs:∀ i x τ ys H,xs[i]?=some x->Pv i τ ys H->g x τ H fun τ2 H2=>tt τ2 H2 fun b H3=>if b=true then te τ2 H3 fun y H4=>ys.length < sizeLine/\Pv (i + 1) τ2 (ys ++ [y]) H4 else Pv (i + 1) τ2 ys H3)
    (hd:∀ τ ys H,Pv xs.length τ ys H->∀ p,H p=none->Q (.ref p) (upd H p (.lst ys))):∃ W,(∃ m,W 0 m σ [] H)/\lcBy (Itl K a) g tt te Q W:=by
  refine ⟨fun i m τ ys H=>m=xs.length - i/\i<=xs.length/\Pv i τ ys H,⟨xs.length,by simp,Nat.zero_le _,h0⟩,?_⟩
  rintro i m τ ys H ⟨rfl,hi,p⟩
  have q:=hl i τ ys H hi p
  by_cases hlt:i < xs.length
  · refine .inr ⟨⟨xs,xs[i],q,by simp [hlt]⟩,Pv (i + 1),fun τ' ys' H' p'=>⟨xs.length - (i + 1),by lia,rfl,hlt,p'⟩,fun x H' y=>?_⟩
    obtain ⟨e,y⟩:=y
    subst e
    exact hs i x τ ys _ (y xs q) p
  · have e:i=xs.length:=by lia
    subst e
    exact .inl ⟨⟨xs,q,Nat.le_refl _⟩,hd τ ys H p⟩
theorem lc_range {lo:Int} {n:Nat} (Pv:Nat->St->List V->Hp->Prop) (h0:Pv 0 σ [] H)
    (hs:∀ i τ ys H,i < n->Pv i τ ys H->g (.int (lo + i)) τ H fun τ2 H2=>tt τ2 H2 fun b H3=>if b=true then te τ2 H3 fun y H4=>ys.length < sizeLine/\Pv (i + 1) τ2 (ys ++ [y]) H4 else Pv (i + 1) τ2 ys H3)
    (hd:∀ τ ys H,Pv n τ ys H->∀ p,H p=none->Q (.ref p) (upd H p (.lst ys))):∃ W,(∃ m,W 0 m σ [] H)/\lcBy (Itr lo n) g tt te Q W:=by
  refine ⟨fun i m τ ys H=>m=n - i/\i<=n/\Pv i τ ys H,⟨n,by simp,Nat.zero_le _,h0⟩,?_⟩
  rintro i m τ ys H ⟨rfl,hi,p⟩
  by_cases hlt:i < n
  · refine .inr ⟨hlt,Pv (i + 1),fun τ' ys' H' p'=>⟨n - (i + 1),by lia,rfl,hlt,p'⟩,fun x H' y=>?_⟩
    obtain ⟨e,y⟩:=y
    subst e y
    exact hs i τ ys _ hlt p
  · have e:i=n:=by lia
    subst e
    exact .inl ⟨Nat.le_refl _,hd τ ys H p⟩
end
end L2
namespace L2
open PySem PySem.Spec PyProof.Rows Builtin Builtin.Str
section
variable {X:Cx} {tg:Expr}
theorem op_mul_str:OpR X (binaryOp .Mult) (fun x y H Q=>∃ z n,x=.str z/\y=.int n/\MulOk z n/\Q (.str (Txt.mul z n)) H):=by
  intro pins s σ H x y v u Q I rx ry h
  obtain ⟨z,n,rfl,rfl,ok,q⟩:=h
  obtain ⟨t,rfl⟩:=rx
  obtain ⟨t',rfl⟩:=ry
  exact SB.mul ok fun t'' k=>⟨.str (Txt.mul z n),H,I.tok k,⟨t'',rfl⟩,q⟩
theorem call_isinst:CallR X (.builtin "isinstance") (fun xs H Q=>∃ x t T b,xs=[x,.ty T]/\TyOf X.K H x t/\PySem.W.kitOne X.K t (.type T)=some b/\Q (.bl b) H):=by
  intro pins s σ H xs us Q I r h
  obtain ⟨x,t,T,b,rfl,ty,e,q⟩:=h
  obtain ⟨u,u',rfl,rx,ru⟩:=vals2 r
  cases ru
  exact isinst_ok I rx ty e fun tk=>⟨.bl b,H,I.tok tk,rfl,q⟩
theorem range_all (bs:List Bool):(List.range bs.length).all (fun i=>bs.getD i false)=bs.all id:=by
  induction bs with
  | nil=>rfl
  | cons b r ih =>
    rw [List.length_cons,List.range_succ_eq_map,List.all_cons,List.all_map,List.all_cons]
    have e:(List.range r.length).all ((fun i=>(b :: r).getD i false) ∘ Nat.succ)=(List.range r.length).all fun i=>r.getD i false:=by
      congr 1
    rw [e,ih]
    rfl
theorem call_all_bools (hc:X.calm=true):CallR X (.builtin "all") (fun xs H Q=>∃ (p:Addr) (bs:List Bool),xs=[.ref p]/\SqL X.K H p (bs.map V.bl)/\Q (.bl (bs.all id)) H):=by
  intro pins s σ H xs us Q I r h
  obtain ⟨p,bs,rfl,hq,q⟩:=h
  obtain ⟨u,rfl,rx⟩:=vals1 r
  cases rx
  obtain ⟨its,rv,pl,hz⟩:=I.list hq
  have hh:X.A.handled=none:=I.ok.hd hc
  have hlen:its.toArray.size=bs.length:=by rw [List.size_toArray,<- rv.length,List.length_map]
  have hne:p≠s.heap.objs.size:=by
    obtain ⟨o,n,e,_⟩:=pl
    exact Nat.ne_of_lt (Heap.lt_size e)
  refine call_all_walk (wpAny_pyIter_list pl.isList ?_)
  refine ⟨s.heap.objs.size,_,_,_,_,_,fun i=>bs.getD i false,rfl,Walks.list (A:=X.A.in1) hh _ p hne its.toArray,⟨⟨_,Heap.get?_push_size _ rfl,rfl,rfl⟩,pl.isList.at fun o e=>Heap.get?_push_of_some _ e⟩,fun i v s1 Q1 E1 hv hQ=>?_,fun h' tk kk=>?_⟩
  · have hi:i < bs.length:=by
      obtain ⟨hi,_⟩:=Array.getElem?_eq_some_iff.mp hv
      rw [hlen] at hi
      exact hi
    have hb:(bs.map V.bl)[i]?=some (V.bl (bs.getD i false)):=by
      rw [List.getElem?_map,List.getElem?_eq_getElem hi]
      simp [List.getD,List.getElem?_eq_getElem hi]
    obtain ⟨u',hu,ru⟩:=rv.get hb
    have e:its.toArray[i]?=some u':=by simpa using hu
    have hv':its.toArray[i]?=some v:=hv
    rw [hv'] at e
    cases e
    cases ru
    exact wpAny_truthy_bool hQ
  · rw [hlen,range_all]
    have I1:Inv X pins σ H { s with heap:=s.heap.push { cls:=.type "list_iterator",data:=.fields #[.ref p,.int 0 0] } }:=I.kept (t':=s.toks) fun b o e=>Heap.get?_push_of_some _ e
    have f:=I.fpOk (H':=H) (Nat.le_refl _) I.fresh
    exact ⟨.bl (bs.all id),H,I1.turned (it:=s.heap.objs.size) (fun b o hb e=>kk b o (by simpa using hb) e) f.1 f.2.1 f.2.2.2.1 f.2.2.2.2.1 f.2.2.2.2.2,rfl,q⟩
end
end L2
namespace L2
open PySem PySem.Spec PyProof.Rows
def isStar:Expr->Bool
  | .Starred ..=>true
  | _=>false
theorem star_cons {e:Expr} {es:List Expr} {env:Env} (h:isStar e=false):starEach (e :: es) env=(false,eval e env) :: starEach es env:=by
  cases e <;> first
    | rfl
    | exact absurd (show true=false from h) (by decide)
theorem star_any {env:Env} {pos:Pos}:∀ {es:List Expr},es.all (fun e=>!isStar e)=true->(backTo pos (starEach es env)).any (·.1)=false
  | [],_=>rfl
  | e :: es,h=>by
    rw [List.all_cons,Bool.and_eq_true] at h
    have h1:isStar e=false:=by simpa using h.1
    rw [star_cons h1]
    show (false || (backTo pos (starEach es env)).any (·.1))=false
    rw [star_any h.2]
    rfl
section
variable {X:Cx} {CX:CXT} {k:Nat} {f C:Addr} {fd:FuncData} {ps:List Str} {sp:Sp} {dvs:List V} {ds:List Value} {E:XK} {x m:Str} {p pos apos:Pos} {e o:Expr} {es:List Expr} {te ta:TE} {t:TA} {id T:String} {r:List V->Hp->VK->Prop}
theorem pa_c (ha:PE X e te) (hr:PA X es t) (h:isStar e=false:=by rfl):PA X (e :: es) (tCons te t):=pa_cons ha hr (star_cons h)
theorem pe_fn (F:FnOk X.prog X.w X.K X.mg X.base CX k f fd ps sp) (hr:Room k X.A) (hg:Gl X x) (hm:X.mg x=some (.ref f)) (hk:PySem.W.keepIn X.K (.ref f)=true) (hb:Binds X.K fd ps ds) (hd:Vals dvs ds) (hx:Passes CX X E)
    (ha:PA X (e :: es) t) (hdb:(x == ("__debug__":Str))=false:=by decide) (h1:isStar e=false:=by rfl) (h2:es.all (fun e=>!isStar e)=true:=by rfl) :
    PE X (.Call (.Name x p) (e :: es) [] pos) (tCall sp dvs E t):=pe_call F hr hg hm hk hb hd hx ha hdb (star_cons h1) (star_any h2)
theorem pe_fnB (hc:CallR X (.builtin id) r) (hg:Gl X x) (hm:X.mg x=none) (hv:bootBuiltins x=some (.builtin id)) (ha:PA X (e :: es) t) (hn:x≠"__name__":=by decide) (hdb:(x == ("__debug__":Str))=false:=by decide)
    (h1:isStar e=false:=by rfl) (h2:es.all (fun e=>!isStar e)=true:=by rfl):PE X (.Call (.Name x p) (e :: es) [] pos) (tCB r t):=pe_callB hc hg hm hv ha hn hdb (star_cons h1) (star_any h2)
theorem pe_fnTy (hc:CallR X (.type T) r) (hg:Gl X x) (hm:X.mg x=none) (hv:bootBuiltins x=some (.type T)) (ha:PA X (e :: es) t) (hn:x≠"__name__":=by decide) (hdb:(x == ("__debug__":Str))=false:=by decide)
    (h1:isStar e=false:=by rfl) (h2:es.all (fun e=>!isStar e)=true:=by rfl):PE X (.Call (.Name x p) (e :: es) [] pos) (tCB r t):=pe_callTy hc hg hm hv ha hn hdb (star_cons h1) (star_any h2)
end
end L2
namespace L2
open PySem PySem.Spec PyProof.Rows
structure jE (X:Cx) (e:Expr) (t:TE):Prop where
  out:PE X e t
structure jT (X:Cx) (e:Expr) (t:TT):Prop where
  out:PT X e t
structure jW (X:Cx) (e:Expr) (t:TT):Prop where
  out:PW X e t
structure jA (X:Cx) (es:List Expr) (t:TA):Prop where
  out:PA X es t
structure jS (X:Cx) (st:Stmt) (t:TS):Prop where
  out:PS X st t
structure jSs (X:Cx) (sts:List Stmt) (t:TS):Prop where
  out:PSs X sts t
structure jG (X:Cx) (tg:Expr) (t:TG):Prop where
  out:PG X tg t
structure jGs (X:Cx) (tg:List Expr) (t:TGs):Prop where
  out:PGs X tg t
structure jI (X:Cx) (tg iter:Expr) (t:TI):Prop where
  out:PI X tg iter t
structure jO (X:Cx) (e:Option Expr) (t:TO):Prop where
  out:PO X e t
structure jTs (X:Cx) (ifs:List Expr) (t:TT):Prop where
  out:PTs X ifs t
structure jOp (X:Cx) (f:Value->Value->Sem Value) (r:R2):Prop where
  out:OpR X f r
structure jIx (X:Cx) (r:R2):Prop where
  out:IxR X r
structure jSl (X:Cx) (r:V->Option Int->Option Int->Hp->VK->Prop):Prop where
  out:SlR X r
structure jMt (X:Cx) (id:String) (r:V->List V->Hp->VK->Prop):Prop where
  out:MtR X id r
structure jCa (X:Cx) (f:Value) (r:List V->Hp->VK->Prop):Prop where
  out:CallR X f r
section
variable {X:Cx} {a b c e o:Expr} {es rest:List Expr} {ta tb tc te to:TE} {t u:TA} {tA tB':TT} {pos p p2 apos cpos px:Pos} {x y m:Str} {op op':CmpOp} {bop:Operator} {r r':R2}
theorem jv (i:Nat) (hN:X.N[i]?=some x:=by rfl) (hv:Vis X.env.scope x:=by first | exact Or.inl rfl | exact Or.inr (Or.inl rfl) | exact Or.inr (Or.inr rfl)) (hd:(x == ("__debug__":Str))=false:=by decide)
    (hcd:(x == ("__classdict__":Str))=false:=by decide):jE X (.Name x pos) (tVar i):=⟨pv i hN hv hd hcd⟩
theorem je_int {i j}:jE X (.Constant (.int i) j pos) (tC (.int i)):=⟨pe_int⟩
theorem je_bl {b j}:jE X (.Constant (.bool b) j pos) (tC (.bl b)):=⟨pe_bl⟩
theorem je_non {j}:jE X (.Constant .none j pos) (tC .non):=⟨pe_non⟩
theorem je_str {x j}:jE X (.Constant (.str x) j pos) (tC (.str x)):=⟨pe_str⟩
theorem je_glob {v:V} {w:Value} (hg:Gl X x) (hm:X.mg x=some w) (r:RelV v w) (hd:(x == ("__debug__":Str))=false:=by decide):jE X (.Name x pos) (tC v):=⟨pe_glob hg hm r hd⟩
theorem je_bltn {v:V} {w:Value} (hg:Gl X x) (hm:X.mg x=none) (hv:bootBuiltins x=some w) (r:RelV v w) (hn:x≠"__name__":=by decide) (hd:(x == ("__debug__":Str))=false:=by decide):jE X (.Name x pos) (tC v):=⟨pe_bltn hg hm hv r hn hd⟩
theorem je_op (ho:jOp X (binaryOp bop) r) (ha:jE X a ta) (hb:jE X b tb):jE X (.BinOp a bop b pos) (tOp r ta tb):=⟨pe_op ho.out ha.out hb.out⟩
theorem je_neg (ha:jE X a ta):jE X (.UnaryOp .USub a pos) (tUn (rU fun i=>.int (-i)) ta):=⟨pe_un un_neg ha.out⟩
theorem je_cmpR (ho:jOp X (compareOp op) r) (ha:jE X a ta) (hb:jE X b tb) (hm:behindInMarks op b=false):jE X (.Compare a [op] [b] pos) (tOp r ta tb):=⟨pe_cmpR ho.out ha.out hb.out hm⟩
theorem jt_cmpR (ho:jOp X (compareOp op) r) (ha:jE X a ta) (hb:jE X b tb) (hm:behindInMarks op b=false):jT X (.Compare a [op] [b] pos) (tTest (tOp r ta tb)):=⟨pt_cmpR ho.out ha.out hb.out hm⟩
theorem jt_val (h:jE X e te) (he:∀ whole,isTrue e X.env whole=(do let v <- whole; standAt e.pos; holding [v] (truthy v)):=by intro _; rfl):jT X e (tB te):=⟨pt_val h.out he⟩
theorem jw_and1 (ha:jT X a tA):jW X (.BoolOp .And [a] pos) tA:=⟨pw_and1 ha.out⟩
theorem jw_or1 (ha:jT X a tA):jW X (.BoolOp .Or [a] pos) tA:=⟨pw_or1 ha.out⟩
theorem jw_and (ha:jT X a tA) (hb:jW X (.BoolOp .And (b :: rest) pos) tB'):jW X (.BoolOp .And (a :: b :: rest) pos) (tAnd tA tB'):=⟨pw_and ha.out hb.out⟩
theorem jw_or (ha:jT X a tA) (hb:jW X (.BoolOp .Or (b :: rest) pos) tB'):jW X (.BoolOp .Or (a :: b :: rest) pos) (tOr tA tB'):=⟨pw_or ha.out hb.out⟩
theorem jW.pt (h:jW X e tA):jT X e tA:=⟨PW.pt h.out⟩
theorem jt_not (ha:jT X a tA):jT X (.UnaryOp .Not a pos) (tNot tA):=⟨pt_not ha.out⟩
theorem je_one {op} (h:jE X a te):jE X (.BoolOp op [a] pos) te:=⟨pe_one h.out⟩
theorem je_and (ha:jE X a ta) (hb:jE X (.BoolOp .And (b :: rest) pos) tb):jE X (.BoolOp .And (a :: b :: rest) pos) (tAndV ta tb):=⟨pe_and ha.out hb.out⟩
theorem je_not (ha:jE X a ta):jE X (.UnaryOp .Not a pos) (tNotV ta):=⟨pe_not ha.out⟩
theorem ja_nil:jA X [] tNil:=⟨pa_nil⟩
theorem ja_c (ha:jE X e te) (hr:jA X es t) (h:isStar e=false:=by rfl):jA X (e :: es) (tCons te t):=⟨pa_c ha.out hr.out h⟩
theorem je_lst (h:jA X es t):jE X (.List es pos) (tLst t):=⟨pe_lst h.out⟩
theorem je_tup {x1} (h:jA X es t):jE X (.Tuple es x1 pos) (tTup t):=⟨pe_tup h.out⟩
theorem je_ix (hr:jIx X r) (ha:jE X a ta) (hb:jE X b tb) (hs:PlainIx b):jE X (.Subscript a b pos) (tOp r ta tb):=⟨pe_ix hr.out ha.out hb.out hs⟩
theorem jo_none:jO X none tNoPart:=⟨po_none⟩
theorem jo_some (h:jE X e te):jO X (some e) (tPart te):=⟨po_some h.out⟩
theorem je_slice {r:V->Option Int->Option Int->Hp->VK->Prop} {lo hi:Option Expr} {tl th:TO} (hr:jSl X r) (he:jE X e te) (hl:jO X lo tl) (hu:jO X hi th):jE X (.Subscript e (.Slice lo hi none p2) pos) (tSl r te tl th):=⟨pe_slice hr.out he.out hl.out hu.out⟩
variable {CX:CXT} {k:Nat} {f C:Addr} {fd:FuncData} {ps:List Str} {sp:Sp} {dvs:List V} {ds:List Value} {E:XK} {id T:String} {rc:List V->Hp->VK->Prop} {rm:V->List V->Hp->VK->Prop}
theorem je_fn (F:FnOk X.prog X.w X.K X.mg X.base CX k f fd ps sp) (hr:Room k X.A) (hg:Gl X x) (hm:X.mg x=some (.ref f)) (hk:PySem.W.keepIn X.K (.ref f)=true) (hb:Binds X.K fd ps ds) (hd:Vals dvs ds) (hx:Passes CX X E)
    (ha:jA X (e :: es) t) (hdb:(x == ("__debug__":Str))=false:=by decide) (h1:isStar e=false:=by rfl) (h2:es.all (fun e=>!isStar e)=true:=by rfl) :
    jE X (.Call (.Name x p) (e :: es) [] pos) (tCall sp dvs E t):=⟨pe_fn F hr hg hm hk hb hd hx ha.out hdb h1 h2⟩
theorem je_fnB (hc:jCa X (.builtin id) rc) (hg:Gl X x) (hm:X.mg x=none) (hv:bootBuiltins x=some (.builtin id)) (ha:jA X (e :: es) t) (hn:x≠"__name__":=by decide) (hdb:(x == ("__debug__":Str))=false:=by decide)
    (h1:isStar e=false:=by rfl) (h2:es.all (fun e=>!isStar e)=true:=by rfl):jE X (.Call (.Name x p) (e :: es) [] pos) (tCB rc t):=⟨pe_fnB hc.out hg hm hv ha.out hn hdb h1 h2⟩
theorem je_fnTy (hc:jCa X (.type T) rc) (hg:Gl X x) (hm:X.mg x=none) (hv:bootBuiltins x=some (.type T)) (ha:jA X (e :: es) t) (hn:x≠"__name__":=by decide) (hdb:(x == ("__debug__":Str))=false:=by decide)
    (h1:isStar e=false:=by rfl) (h2:es.all (fun e=>!isStar e)=true:=by rfl):jE X (.Call (.Name x p) (e :: es) [] pos) (tCB rc t):=⟨pe_fnTy hc.out hg hm hv ha.out hn hdb h1 h2⟩
theorem je_bm0 {name:Str} (pa:PlainAttrs T) (slot:Slot T name id) (hty:typeOf (.builtin id)=pure (.type "method_descriptor")) (hm:jMt X id rm) (ho:jE X o to)
    (hbase:attributeBase o name X.env (eval o X.env)=eval o X.env:=by rfl) (hline:(apos.endLine == cpos.line)=true:=by rfl):jE X (.Call (.Attribute o name apos) [] [] cpos) (tBM0 X.K T rm to):=⟨pe_bm0 pa slot hty hm.out ho.out hbase hline⟩
theorem je_bm {name:Str} (pa:PlainAttrs T) (slot:Slot T name id) (hty:typeOf (.builtin id)=pure (.type "method_descriptor")) (hm:jMt X id rm) (ho:jE X o to) (ha:jA X (e :: es) t)
    (hbase:attributeBase o name X.env (eval o X.env)=eval o X.env:=by rfl)
    (hfew:((backTo cpos (starEach (e :: es) X.env)).all (fun x=>!x.1) && (backToKw cpos (keywordEach [] X.env)).all (fun x=>x.1.isSome)
      && decide ((e :: es).length + ([]:List Keyword).length + (if ([]:List Keyword).isEmpty then 0 else 1) < 30))=true:=by rfl)
    (hline:(apos.endLine == cpos.line)=true:=by rfl) (h1:isStar e=false:=by rfl) (h2:es.all (fun e=>!isStar e)=true:=by rfl) :
    jE X (.Call (.Attribute o name apos) (e :: es) [] cpos) (tBM X.K T rm to t):=⟨pe_bm pa slot hty hm.out ho.out ha.out hbase hfew hline (star_cons h1) (star_any h2)⟩
variable {st:Stmt} {sts:List Stmt} {s1 s2:TS} {tg iter elt:Expr} {g:TG} {wi:TI} {tb1:TS} {ifs:List Expr} {tt:TT}
theorem jss_nil:jSs X [] tNext:=⟨pss_nil⟩
theorem jss_cons (h1:jS X st s1) (h2:jSs X sts s2):jSs X (st :: sts) (tSeq s1 s2):=⟨pss_cons h1.out h2.out⟩
theorem jss_one (h1:jS X st s1):jSs X [st] s1:=⟨pss_one h1.out⟩
theorem js_expr (he:jE X e te) (hs:swapsWith e none pos.line X.env=pure false:=by rfl):jS X (.Expr e pos) (tDrop te):=⟨ps_expr he.out hs⟩
theorem js_ret (he:jE X e te):jS X (.Return (some e) pos) (tRet te):=⟨ps_ret he.out⟩
theorem js_if {A B:List Stmt} (hc:jT X c tA) (ha:jSs X A s1) (hb:jSs X B s2):jS X (.If c A B pos) (tIfS tA s1 s2):=⟨ps_if hc.out ha.out hb.out⟩
theorem js_set {i:Nat} {pos':Pos} (hN:X.N.Nodup) (hi:X.N[i]?=some x) (hx:Loc X.env.scope x) (he:jE X e te) (hs:swapsWith e (some (.Name x pos')) pos.line X.env=pure false:=by rfl)
    (hf:X.fn x=true\/X.env.scope.names.lookup x=some .local:=by first | exact .inl rfl | exact .inr rfl | assumption):jS X (.Assign [.Name x pos'] e pos) (tAsg te (gName i)):=⟨ps_set hN hi hx he.out hs hf⟩
theorem js_asg (he:jE X e te) (hg:jG X tg g) (hs:swapsWithSole [tg] e pos.line X.env=pure false:=by rfl) (hw:swappedStores [tg] e X.env=pure none:=by rfl) (h1:(assignEach [tg] X.env).map (·.2)=[assign tg X.env]:=by rfl):jS X (.Assign [tg] e pos) (tAsg te g):=⟨ps_asg he.out hg.out hs hw h1⟩
theorem jg_name {i:Nat} (hN:X.N.Nodup) (hi:X.N[i]?=some x) (hx:Loc X.env.scope x) (hf:X.fn x=true\/X.env.scope.names.lookup x=some .local:=by first | exact .inl rfl | exact .inr rfl | assumption):jG X (.Name x pos) (gName i):=⟨pg_name hN hi hx hf⟩
theorem jgs_nil:jGs X [] gNil:=⟨pgs_nil⟩
theorem jgs_cons {g:TG} {gs:TGs} (h1:jG X e g) (h2:jGs X es gs) (hs:(assignEach (e :: es) X.env).map (·.2)=assign e X.env :: (assignEach es X.env).map (·.2):=by rfl):jGs X (e :: es) (gCons g gs):=⟨pgs_cons h1.out h2.out hs⟩
theorem jg_tup {k:Nat} {gs:TGs} {n:Nat} (hc:X.calm=true) (h:jGs X es gs) (hn:(assignEach es X.env).length=n:=by rfl) (hst:(assignEach es X.env).findIdx? (·.1)=none:=by rfl):jG X (.Tuple es k pos) (gTup X.K n gs):=⟨pg_tup hc h.out hn hst⟩
theorem ji_list {l:Expr} {tl:TE} (hl:jE X l tl):jI X tg l (iList X.K tl):=⟨pi_list hl.out⟩
theorem ji_tup {l:Expr} {tl:TE} (hl:jE X l tl):jI X tg l (iTup X.K tl):=⟨pi_tup hl.out⟩
theorem ji_range1 (hg:Gl X "range") (hm:X.mg "range"=none) (ha:jA X [a] t) (h:isStar a=false:=by rfl):jI X tg (.Call (.Name "range" p) [a] [] pos) (iRng1 t):=⟨pi_range1 hg hm ha.out (star_cons h)⟩
theorem js_for (hp:PassesOwn (model X.prog X.w) X.A X.env X.xe) (hc:X.calm=true) (hi:jI X tg iter wi) (hg:jG X tg g) (hb:jSs X sts tb1) (hs:∀ x,foldedSetIterable iter X.env x=pure x:=by intro _; rfl):jS X (.For tg iter sts [] pos) (tFor wi g tb1):=⟨ps_for hp hc hi.out hg.out hb.out hs⟩
theorem js_while (hp:PassesOwn (model X.prog X.w) X.A X.env X.xe) (hc:jT X c tA) (hb:jSs X sts tb1):jS X (.While c sts [] pos) (tWhile tA tb1):=⟨ps_while hp hc.out hb.out⟩
theorem jts_nil:jTs X [] tYes:=⟨pts_nil⟩
theorem jts_one (h:jT X c tA):jTs X [c] tA:=⟨pts_one h.out⟩
theorem je_comp {scope:Scope} (M:List Str) (hc:X.calm=true) (hi:jI X tg iter wi) (hg:∀ C s H ex E,jG (cxLC X scope (clOf scope X.env) M C s H ex E) tg g) (ht:∀ C s H ex E,jTs (cxLC X scope (clOf scope X.env) M C s H ex E) ifs tt)
    (he:∀ C s H ex E,jE (cxLC X scope (clOf scope X.env) M C s H ex E) elt te) (hs:∀ x,foldedSetIterable iter X.env x=pure x:=by intro _; rfl)
    (h1:closureFor scope X.env=pure (clOf scope X.env):=by with_unfolding_all rfl) (h2:scope.kind=.function:=by rfl) (h3:scope.names.all (fun y=>y.2 != .cell)=true:=by rfl) (h4:scope.names.all (fun y=>y.2 != .local || scope.names.lookup y.1 == some .local)=true:=by rfl)
    (h5:X.N.all (fun y=>scope.names.lookup y != some .local)=true:=by rfl) (h6:scope.names.all (fun p=>p.2 != .free || (((clOf scope X.env).lookup p.1).isSome && (X.env.kindOf p.1 == some .cell || X.env.kindOf p.1 == some .free)))=true:=by rfl) :
    jE X (.ListComp elt [⟨tg,iter,ifs,0⟩] scope pos) (tLC wi g tt te M.length):=⟨pe_comp M hc hi.out (fun C s H ex E=>(hg C s H ex E).out) (fun C s H ex E=>(ht C s H ex E).out) (fun C s H ex E=>(he C s H ex E).out) hs h1 h2 h3 h4 h5 h6⟩
theorem js_comp {scope:Scope} (M:List Str) {i:Nat} {py spos:Pos} (hN:X.N.Nodup) (hi':X.N[i]?=some y) (hy:Loc X.env.scope y) (hc:X.calm=true) (hi:jI X tg iter wi) (hg:∀ C s H ex E,jG (cxLC X scope (clOf scope X.env) M C s H ex E) tg g)
    (ht:∀ C s H ex E,jTs (cxLC X scope (clOf scope X.env) M C s H ex E) ifs tt) (he:∀ C s H ex E,jE (cxLC X scope (clOf scope X.env) M C s H ex E) elt te) (hs:∀ x,foldedSetIterable iter X.env x=pure x:=by intro _; rfl)
    (hsw:swapsWith (.ListComp elt [⟨tg,iter,ifs,0⟩] scope pos) (some (.Name y py)) spos.line X.env=pure true:=by rfl)
    (hf:X.fn y=true\/X.env.scope.names.lookup y=some .local:=by first | exact .inl rfl | exact .inr rfl | assumption)
    (h1:closureFor scope X.env=pure (clOf scope X.env):=by with_unfolding_all rfl) (h2:scope.kind=.function:=by rfl) (h3:scope.names.all (fun y=>y.2 != .cell)=true:=by rfl) (h4:scope.names.all (fun y=>y.2 != .local || scope.names.lookup y.1 == some .local)=true:=by rfl)
    (h5:X.N.all (fun y=>scope.names.lookup y != some .local)=true:=by rfl) (h6:scope.names.all (fun p=>p.2 != .free || (((clOf scope X.env).lookup p.1).isSome && (X.env.kindOf p.1 == some .cell || X.env.kindOf p.1 == some .free)))=true:=by rfl) :
    jS X (.Assign [.Name y py] (.ListComp elt [⟨tg,iter,ifs,0⟩] scope pos) spos) (fun D σ H=>tLC wi g tt te M.length σ H fun v H1=>D.nx (σ.set i (some v)) H1) :=
  ⟨ps_comp M hN hi' hy hc hi.out (fun C s H ex E=>(hg C s H ex E).out) (fun C s H ex E=>(ht C s H ex E).out) (fun C s H ex E=>(he C s H ex E).out) hs hsw hf h1 h2 h3 h4 h5 h6⟩
theorem je_compS {scope:Scope} (S:List Nat) (M:List Str) (hc:X.calm=true) (hi:jI X tg iter wi) (hg:∀ C s H ex E,jG (cxLC X scope (clOf scope X.env) M C s H ex E) tg g) (ht:∀ C s H ex E,jTs (cxLC X scope (clOf scope X.env) M C s H ex E) ifs tt)
    (he:∀ C s H ex E,jE (cxLC X scope (clOf scope X.env) M C s H ex E) elt te) (hs:∀ x,foldedSetIterable iter X.env x=pure x:=by intro _; rfl)
    (h1:closureFor scope X.env=pure (clOf scope X.env):=by with_unfolding_all rfl) (h2:scope.kind=.function:=by rfl) (h3:scope.names.all (fun y=>y.2 != .cell)=true:=by rfl) (h4:scope.names.all (fun y=>y.2 != .local || scope.names.lookup y.1 == some .local)=true:=by rfl)
    (h5:X.N.zipIdx.all (fun y=>S.contains y.2 || scope.names.lookup y.1 != some .local)=true:=by rfl) (h6:scope.names.all (fun p=>p.2 != .free || (((clOf scope X.env).lookup p.1).isSome && (X.env.kindOf p.1 == some .cell || X.env.kindOf p.1 == some .free)))=true:=by rfl) :
    jE X (.ListComp elt [⟨tg,iter,ifs,0⟩] scope pos) (tLCS S wi g tt te M.length):=⟨pe_compS S M hc hi.out (fun C s H ex E=>(hg C s H ex E).out) (fun C s H ex E=>(ht C s H ex E).out) (fun C s H ex E=>(he C s H ex E).out) hs h1 h2 h3 h4 h5 h6⟩
theorem js_compS {scope:Scope} (S:List Nat) (M:List Str) {i:Nat} {py spos:Pos} (hN:X.N.Nodup) (hi':X.N[i]?=some y) (hy:Loc X.env.scope y) (hc:X.calm=true) (hi:jI X tg iter wi) (hg:∀ C s H ex E,jG (cxLC X scope (clOf scope X.env) M C s H ex E) tg g)
    (ht:∀ C s H ex E,jTs (cxLC X scope (clOf scope X.env) M C s H ex E) ifs tt) (he:∀ C s H ex E,jE (cxLC X scope (clOf scope X.env) M C s H ex E) elt te) (hs:∀ x,foldedSetIterable iter X.env x=pure x:=by intro _; rfl)
    (hsw:swapsWith (.ListComp elt [⟨tg,iter,ifs,0⟩] scope pos) (some (.Name y py)) spos.line X.env=pure true:=by rfl)
    (hf:X.fn y=true\/X.env.scope.names.lookup y=some .local:=by first | exact .inl rfl | exact .inr rfl | assumption)
    (h1:closureFor scope X.env=pure (clOf scope X.env):=by with_unfolding_all rfl) (h2:scope.kind=.function:=by rfl) (h3:scope.names.all (fun y=>y.2 != .cell)=true:=by rfl) (h4:scope.names.all (fun y=>y.2 != .local || scope.names.lookup y.1 == some .local)=true:=by rfl)
    (h5:X.N.zipIdx.all (fun y=>S.contains y.2 || scope.names.lookup y.1 != some .local)=true:=by rfl) (h6:scope.names.all (fun p=>p.2 != .free || (((clOf scope X.env).lookup p.1).isSome && (X.env.kindOf p.1 == some .cell || X.env.kindOf p.1 == some .free)))=true:=by rfl) :
    jS X (.Assign [.Name y py] (.ListComp elt [⟨tg,iter,ifs,0⟩] scope pos) spos) (fun D σ H=>tLCS S wi g tt te M.length σ H fun v H1=>D.nx (σ.set i (some v)) H1) :=
  ⟨ps_compS S M hN hi' hy hc hi.out (fun C s H ex E=>(hg C s H ex E).out) (fun C s H ex E=>(ht C s H ex E).out) (fun C s H ex E=>(he C s H ex E).out) hs hsw hf h1 h2 h3 h4 h5 h6⟩
theorem jo_add:jOp X (binaryOp .Add) (rI0 fun i j=>.int (i + j)):=⟨op_add⟩
theorem jo_sub:jOp X (binaryOp .Sub) (rI0 fun i j=>.int (i - j)):=⟨op_sub⟩
theorem jo_mul:jOp X (binaryOp .Mult) (rI CMul fun i j=>.int (i * j)):=⟨op_mul⟩
theorem jo_fdiv:jOp X (binaryOp .FloorDiv) (rI CDiv fun i j=>.int (i / j)):=⟨op_fdiv⟩
theorem jo_mod:jOp X (binaryOp .Mod) (rI (fun _ j=>0 < j) fun i j=>.int (i % j)):=⟨op_mod⟩
theorem jo_eq:jOp X (compareOp .Eq) rEq:=⟨op_eq⟩
theorem jo_ne:jOp X (compareOp .NotEq) rNe:=⟨op_ne⟩
theorem jo_lt:jOp X (compareOp .Lt) (rI0 fun i j=>.bl (decide (i < j))):=⟨op_lt⟩
theorem jo_le:jOp X (compareOp .LtE) (rI0 fun i j=>.bl (decide (i<=j))):=⟨op_le⟩
theorem jo_gt:jOp X (compareOp .Gt) (rI0 fun i j=>.bl (decide (j < i))):=⟨op_gt⟩
theorem jo_ge:jOp X (compareOp .GtE) (rI0 fun i j=>.bl (decide (j<=i))):=⟨op_ge⟩
theorem jo_in_seq:jOp X (compareOp .In) (rIn X.K false):=⟨op_in_seq⟩
theorem jo_notIn_seq:jOp X (compareOp .NotIn) (rIn X.K true):=⟨op_notIn_seq⟩
theorem jo_add_str:jOp X (binaryOp .Add) (fun x y H Q=>∃ i j,x=.str i/\y=.str j/\i.length + j.length<=sizeLine/\Q (.str (i ++ j)) H):=⟨op_add_str⟩
theorem jo_mul_str:jOp X (binaryOp .Mult) (fun x y H Q=>∃ z n,x=.str z/\y=.int n/\MulOk z n/\Q (.str (Txt.mul z n)) H):=⟨op_mul_str⟩
theorem jo_cat:jOp X (binaryOp .Add) rCat:=⟨op_cat⟩
theorem jo_catT:jOp X (binaryOp .Add) (rCatT X.K):=⟨op_catT⟩
theorem jx_list:jIx X (rIxL X.K):=⟨ix_list⟩
theorem jx_tup:jIx X (rIxT X.K):=⟨ix_tup⟩
theorem jx_str:jIx X rIxS:=⟨ix_str⟩
theorem jl_list:jSl X (rSlL X.K):=⟨sl_list⟩
theorem jm_append:jMt X "list.append" rAppend:=⟨mt_append⟩
theorem jm_pop:jMt X "list.pop" rPop:=⟨mt_pop⟩
theorem jc_len_seq:jCa X (.builtin "len") (fun xs H Q=>∃ p ys,xs=[.ref p]/\(SqL X.K H p ys\/SqT X.K H p ys)/\Q (.int ys.length) H):=⟨call_len_seq⟩
theorem jc_all_bools (hc:X.calm=true):jCa X (.builtin "all") (fun xs H Q=>∃ (p:Addr) (bs:List Bool),xs=[.ref p]/\SqL X.K H p (bs.map V.bl)/\Q (.bl (bs.all _root_.id)) H):=⟨call_all_bools hc⟩
theorem jc_isinst:jCa X (.builtin "isinstance") (fun xs H Q=>∃ x t T b,xs=[x,.ty T]/\TyOf X.K H x t/\PySem.W.kitOne X.K t (.type T)=some b/\Q (.bl b) H):=⟨call_isinst⟩
theorem jc_tuple_of:jCa X (.type "tuple") (fun xs H Q=>∃ p ys,xs=[.ref p]/\((SqL X.K H p ys/\∀ l,H l=none->Q (.ref l) (upd H l (.tup ys)))\/(SqT X.K H p ys/\Q (.ref p) H))):=⟨call_tuple_of⟩
theorem jc_list_of:jCa X (.type "list") (fun xs H Q=>∃ p ys,xs=[.ref p]/\(SqL X.K H p ys\/SqT X.K H p ys)/\∀ l,H l=none->Q (.ref l) (upd H l (.lst ys))):=⟨call_list_of⟩
end
section
variable {P:Program} {w:World} {K:PySem.W.Frag} {mg:Str->Option Value} {base:Heap}
theorem Fun.by {x qual:Str} {st:Stmt} {f:Addr} {fd:FuncData} {N ps:List Str} {k:Nat} {sp:Sp} (F:Fun K x qual st f fd) (S:FnScope N ps (defScope st)) (len:∀ vs H Q E,sp vs H Q E->vs.length=ps.length)
    (hbody:∀ (cdv:Value) (A:Around) (outer:List Env) (s:Shared) (H:Hp) (vs:List V) (Q:VK) (E:XK),Room k (A.deeper (envOfC qual (defScope st) s.heap.objs.size f cdv))->sp vs H Q E ->
      ∃ t,jSs (cxOf CX0 P w K mg base N qual (defScope st) f cdv A outer s H E).nox (defBody st) t/\t { nx:=fun _ H'=>Q .non H',rt:=Q } (start N vs) H):FnOk P w K mg base CX0 (k + 1) f fd ps sp :=
  F.ok S len fun cdv A outer s H vs Q E hr h=>let ⟨t,b,q⟩:=hbody cdv A outer s H vs Q E hr h; ⟨t,b.out,q⟩
end
end L2
namespace L2
open PySem
structure Mv (fs xs:List Addr) (h h':Heap):Prop where
  keep:∀ b o,h.get? b=some o->b ∉ fs->b ∉ xs->h'.get? b=some o
  slot:∀ b o,h.get? b=some o->b ∉ xs->∃ sl,h'.get? b=some { o with slots:=sl }
  there:∀ b o,h.get? b=some o->∃ o',h'.get? b=some o'
theorem Mv.refl {fs xs:List Addr} {h:Heap}:Mv fs xs h h:=⟨fun _ _ e _ _=>e,fun _ o e _=>⟨o.slots,e⟩,fun _ o e=>⟨o,e⟩⟩
theorem Mv.trans {fs xs:List Addr} {h h1 h2:Heap} (a:Mv fs xs h h1) (b:Mv fs xs h1 h2):Mv fs xs h h2 :=
  ⟨fun c o e f x=>b.keep c o (a.keep c o e f x) f x,fun c o e x=>let ⟨_,e1⟩:=a.slot c o e x; let ⟨sl,e2⟩:=b.slot c _ e1 x; ⟨sl,e2⟩,fun c o e=>let ⟨o1,e1⟩:=a.there c o e; b.there c o1 e1⟩
theorem Mv.mono {fs fs' xs xs':List Addr} {h h1:Heap} (a:Mv fs xs h h1) (hf:∀ b∈fs,b∈fs') (hx:∀ b∈xs,b∈xs'):Mv fs' xs' h h1 :=
  ⟨fun c o e f x=>a.keep c o e (fun z=>f (hf c z)) fun z=>x (hx c z),fun c o e x=>a.slot c o e fun z=>x (hx c z),a.there⟩
structure Tr (h:Heap) (e:Addr) (C:Value) (dx:Option Addr) (T:Addr) (fl:Value):Prop where
  ex:∃ oe vs,h.get? e=some oe/\oe.cls=C/\oe.dict=dx/\oe.data=.fields vs/\vs[1]?=some (.ref T)/\vs[2]?=some .none
  tb:∃ ot ts,h.get? T=some ot/\ot.data=.fields ts/\ts[3]?=some fl
  ne:T≠e
section
variable {M:Model} {A:Around} {E:Value->Shared->Prop} {s:Shared} {base:Heap} {env:Env} {outer:List Env} {L e T:Addr} {C:Value} {dx:Option Addr} {Q:Unit->Shared->Prop}
end
end L2
namespace L2
open PySem PySem.Spec PyProof.Rows
section
variable {P:Program} {w:World} {K:PySem.W.Frag} {mg:Str->Option Value} {base:Heap} {N:List Str} {qual:Str} {scope:Scope} {f:Addr} {cd:Value} {A:Around} {outer:List Env} {s:Shared} {H:Hp} {E:XK}
end
end L2
namespace L2
open PySem
section
variable {M:Model} {A:Around} {E:Value->Shared->Prop} {env:Env} {nm q:Str} {C N:Addr} {bs bm:List Value} {hdct:Bool} {sn:List Str} {sub:List Value} {ab:Bool} {col:Option Bool} {dd:Option Addr} {k0 k1 k2 k3 k5:Option Value} {newId:String}
end
section
variable {prog:Program} {w:World} {A:Around} {E:Value->Shared->Prop} {h:Heap} {g:Array GenState} {d:Drawn} {t:Nat} {os:OsState}
variable {nm q:Str} {C N f:Addr} {bs bm bmB:List Value} {hdct:Bool} {sn:List Str} {sub:List Value} {ab:Bool} {col:Option Bool} {dd:Option Addr} {k0 k1 k2 k3 k5:Option Value} {B Bn newId nid initId inN:String} {bmN:List Value}
end
end L2
namespace L2
open PySem PySem.W PySem.Calls PyProof.Rows Builtin Builtin.ObjectAttr
def bmV:List Value:=[.type "ValueError",.type "Exception",.type "BaseException",.type "object"]
def overV:List Value->Bool
  | []=>false
  | v :: r=>(v :: r) == bmV || (match v with
    | .ref _=>overV r
    | _=>false)
def overIn (K:Frag) (C:Addr):Bool:=(clsIn K C).any fun cd=>overV cd.mro
section
variable {prog:Program} {w:World} {A:Around} {E:Value->Shared->Prop} {K:Frag} {C e:Addr} {s:Shared} {ox:Obj} {od:Option Obj} {name:Str} {R:Result->Shared->Prop}
end
end L2
namespace L2
open PySem PySem.Spec PyProof.Rows
def XO (e C:Addr) (dx:Option Addr):HO:=.ext fun h=>∃ oe vs t0,h.get? e=some oe/\oe.cls=.ref C/\oe.dict=dx/\oe.data=.fields vs/\vs[0]?=some (.ref t0)/\vs[1]?=some .none/\vs[2]?=some .none
theorem XO.ok {P:Program} {w:World} {H:Hp} {h:Heap} {e C:Addr} {dx:Option Addr} (p:∃ oe vs t0,h.get? e=some oe/\oe.cls=.ref C/\oe.dict=dx/\oe.data=.fields vs/\vs[0]?=some (.ref t0)/\vs[1]?=some .none/\vs[2]?=some .none):ObjOk P w H h e (XO e C dx) :=
  ⟨p,let ⟨oe,_,_,q,_⟩:=p; ⟨oe,q⟩,fun _ _ ⟨oe,vs,t0,a,r⟩ k=>⟨oe,vs,t0,k oe a,r⟩⟩
theorem XO.get {P:Program} {w:World} {H:Hp} {h:Heap} {e C:Addr} {dx:Option Addr} (x:HOk P w H h) (q:H e=some (XO e C dx)):∃ oe vs t0,h.get? e=some oe/\oe.cls=.ref C/\oe.dict=dx/\oe.data=.fields vs/\vs[0]?=some (.ref t0)/\vs[1]?=some .none/\vs[2]?=some .none :=
  (show ObjOk P w H h e (.ext _) from x e _ q).1
def XD (d:Addr) (fs:List (Str × V)):HO:=.ext fun h=>∃ mA,h.Ns1 d mA/\(∀ f,RelO (fs.lookup f) (mA f))/\PySem.Within mA (fs.map (·.1))/\fs.length<=1000
theorem XD.ok {P:Program} {w:World} {H:Hp} {h:Heap} {d:Addr} {fs:List (Str × V)} (p:∃ mA,h.Ns1 d mA/\(∀ f,RelO (fs.lookup f) (mA f))/\PySem.Within mA (fs.map (·.1))/\fs.length<=1000):ObjOk P w H h d (XD d fs) :=
  ⟨p,let ⟨_,⟨o,_,_,q,_⟩,_⟩:=p; ⟨o,q⟩,fun _ _ ⟨mA,n,r⟩ k=>⟨mA,n.at k,r⟩⟩
theorem XD.get {P:Program} {w:World} {H:Hp} {h:Heap} {d:Addr} {fs:List (Str × V)} (x:HOk P w H h) (q:H d=some (XD d fs)):∃ mA,h.Ns1 d mA/\(∀ f,RelO (fs.lookup f) (mA f))/\PySem.Within mA (fs.map (·.1))/\fs.length<=1000 :=
  (show ObjOk P w H h d (.ext _) from x d _ q).1
def xIn (K:PySem.W.Frag) (C f:Addr):Bool:=match K.lookup C with
  | some ⟨.type "type",_,.cls cd,sl⟩=>(match cd.mro,sl.toList with
    | .ref C' :: bm,[_,_,_,_,some (.builtin n),_]=>C' == C && n == "ValueError.__new__" && !cd.hasDel && PySem.W.tailIn K bmV bm && PySem.W.nsOkIn K cd.ns && PySem.W.nsIn K cd.ns "__init__" == some (some (.ref f)) && bm.contains (.type "BaseException")
    | _,_=>false)
  | _=>false
structure XCl (K:PySem.W.Frag) (C f:Addr):Prop where
  cls:xIn K C f=true
  fn:PySem.W.typeIn K (.ref f)=some (.type "function")
  kp:PySem.W.keepIn K (.ref C)=true
  over:overIn K C=true
  sa:PySem.W.findIn K (.ref C) "__setattr__"=some (some (.builtin "object.__setattr__"))
  hd:(PySem.W.clsIn K C).any (·.hasDict)=true
  ga:PySem.W.findIn K (.ref C) "__getattribute__"=some (some (.builtin "BaseException.__getattribute__"))
  ha:PySem.W.findIn K (.ref C) "__getattr__"=some none
  sb:PySem.W.subIn K (.ref C) (.type "BaseException")=some true
theorem ns_some {K:PySem.W.Frag} {h:Heap} {N:Addr} {mg:Str->Option Value} {n:Str} {v:Value} (X:K.In h) (G:h.Ns N mg) (e:PySem.W.nsIn K N n=some (some v)):mg n=some v:=by
  obtain ⟨o,es,ep,ho,hd,_,hf⟩:=G
  unfold PySem.W.nsIn at e
  split at e
  · rename_i c d es' n' sl q
    have:=X _ _ q
    rw [ho] at this
    cases this
    cases hd
    split at e
    · rename_i en he
      cases e
      rw [<- hf]
      unfold nsFind findBy
      rw [<- Array.find?_toList,he]
      rfl
    · split at e <;> cases e
  · cases e
theorem XCl.at {K:PySem.W.Frag} {C f:Addr} (c:XCl K C f) {h:Heap} (X:K.In h):∃ nm q N bs bm hdct sn sub ab col dd k0 k1 k2 k3 k5 mN,h.get? C=some (excClassObj nm q C N bs bm hdct sn sub ab col dd k0 k1 k2 k3 k5 "ValueError.__new__") /\
    OwnTail h bmV bm/\h.Ns N mN/\mN "__init__"=some (.ref f)/\bm.contains (.type "BaseException")=true:=by
  have q:=c.cls
  unfold xIn at q
  split at q
  · rename_i dd cd sl ho
    split at q
    · rename_i C' bm k0 k1 k2 k3 n k5 hm hs
      simp only [Bool.and_eq_true,beq_iff_eq,Bool.not_eq_true'] at q
      obtain ⟨⟨⟨⟨⟨⟨rfl,rfl⟩,hdel⟩,ht⟩,hok⟩,hi⟩,hb⟩:=q
      obtain ⟨nm,bs,mro,ns,qn,hd,sn,sub,ab,col,del⟩:=cd
      dsimp only at hm hdel hok hi
      subst hm hdel
      have es:sl=#[k0,k1,k2,k3,some (.builtin "ValueError.__new__"),k5]:=by
        obtain ⟨l⟩:=sl
        simp only at hs
        rw [hs]
      subst es
      have nN:=PySem.Heap.Ns.of_isNs (PySem.W.isNs_of_in X hok)
      exact ⟨nm,qn,ns,bs,bm,hd,sn,sub,ab,col,dd,k0,k1,k2,k3,k5,_,X _ _ ho,PySem.W.tail_of_in X ht,nN,ns_some X nN hi,hb⟩
    · cases q
  · cases q
def drp (H:Hp) (e:Addr):Hp:=fun b=>if b=e then none else H b
theorem drp_same {H:Hp} {e:Addr}:drp H e e=none:=if_pos rfl
theorem drp_ne {H:Hp} {e b:Addr} (h:b≠e):drp H e b=H b:=if_neg h
theorem Inv.drop {X:Cx} {pins:List (Addr × Obj)} {σ:St} {H:Hp} {s:Shared} {e:Addr} {φ:Heap->Prop} (I:Inv X pins σ H s) (he:H e=some (.ext φ)):Inv X pins σ (drp H e) s:=by
  have no:∀ b,H b=none->drp H e b=none:=fun b h=>by
    by_cases q:b=e
    · rw [q]
      exact drp_same
    · rw [drp_ne q]
      exact h
  have nx:∀ (b:Addr) (o:HO),H b=some o->(∀ ψ,o≠.ext ψ)->drp H e b=some o:=fun b o h n=>by
    have q:b≠e:=fun z=>by
      rw [z,he] at h
      cases h
      exact n _ rfl
    rw [drp_ne q]
    exact h
  refine ⟨I.ok,I.os,I.bare,⟨I.base.keep,I.base.slot,fun b o q n x=>no b (I.base.free b o q n x),I.base.there,fun b xs q=>nx _ _ (I.base.tups b xs q) (by intro ψ z; cases z),fun b o u q=>nx _ _ (I.base.frzs b o u q) (by intro ψ z; cases z),fun b ps q=>?_⟩,I.loc,I.cell,no _ I.free,fun x c q=>no _ (I.freeC x c q),fun p hp=>?_,fun a o q=>?_,I.len⟩
  · obtain ⟨m,r⟩:=I.base.tbls b ps q
    exact ⟨m,nx _ _ r (by intro ψ z; cases z)⟩
  · obtain ⟨a,b,c⟩:=I.pin p hp
    exact ⟨a,no _ b,c⟩
  · have na:a≠e:=fun z=>by
      rw [z,drp_same] at q
      cases q
    rw [drp_ne na] at q
    exact (I.hok a o q).stay (fun _ _ _ z=>z) (fun b z=>nx b _ z (by intro ψ y; cases y)) fun b xs z=>nx b _ z (by intro ψ y; cases y)
section
variable {X:Cx} {k:Nat} {f C:Addr} {fd:FuncData} {ps:List Str} {sp:Sp} {E:XK} {x:Str} {np cpos pos:Pos} {a:Expr} {as:List Expr} {t:TA}
end
structure XBase (K:PySem.W.Frag) (R:Addr):Prop where
  sp:PySem.W.specialIn K (.ref R) "__getattribute__"=some (some (.builtin "type.__getattribute__"))
  rd:PySem.W.readsIn K R (.type "type")=true
  fi:PySem.W.findCls K (.ref R) (.type "type") "__init__"=some (.val (.builtin "ValueError.__init__"))
section
variable {X:Cx} {f C R:Addr} {x m:Str} {np apos pos pos':Pos} {a o e value:Expr} {as:List Expr} {t:TA} {ta tv te:TE}
end
end L2
namespace L2
open PySem PySem.Spec PyProof.Rows
section
variable {X:Cx} {pins:List (Addr × Obj)} {σ:St} {H:Hp} {s:Shared} {h':Heap} {xs:List Addr}
theorem Inv.apart (I:Inv X pins σ H s) {b:Addr} {o:Obj} {vs:Array Value} (q:s.heap.get? b=some o) (d:o.data=.fields vs):b≠X.env.locals/\∀ x c,X.env.cells.lookup x=some c->c≠b:=by
  refine ⟨fun z=>?_,fun x c e z=>?_⟩
  · obtain ⟨m,⟨o',es,ep,ho,hd,_⟩,_⟩:=I.loc
    rw [z,ho] at q
    cases q
    rw [hd] at d
    cases d
  · obtain ⟨v,o',ho,hd⟩:=I.cell x c e
    rw [z,q] at ho
    cases ho
    rw [d] at hd
    cases hd
end
abbrev Ends.behind (D:Ends) (i:Nat):Ends:={ nx:=fun σ H=>D.nx (σ.set i none) H,rt:=D.rt,bk:=fun σ H=>D.bk (σ.set i none) H,ct:=fun σ H=>D.ct (σ.set i none) H }
section
variable {X:Cx} {Ch:Addr} {x n:Str} {i:Nat} {np hpos tpos:Pos} {b0:Stmt} {suite:List Stmt} {th:Addr->Obj->TS}
variable {k:Nat} {f:Addr} {fd:FuncData} {ps:List Str} {sp:Sp} {y:Str} {p cpos epos:Pos} {a:Expr} {as:List Expr} {t:TA}
end
end L2
namespace L2
open PySem PySem.Spec PyProof.Rows
section
variable {X:Cx} {pins:List (Addr × Obj)} {σ:St} {H:Hp} {s:Shared} {h':Heap}
theorem Inv.turns {t':Nat} {ch:List Addr} (I:Inv X pins σ H s) (k:∀ b o,b ∉ ch->s.heap.get? b=some o->h'.get? b=some o) (hf:∀ b∈ch,FpOk X pins H b):Inv X pins σ H { s with heap:=h',toks:=t' }:=by
  have nit:∀ b u,H b=some u->b ∉ ch:=fun b u e z=>by rw [(hf b z).1] at e; cases e
  refine I.call (g':=s.gens) (d':=s.drawn) (t':=t') (ch:=ch) ⟨fun b o q _ _ x=>k b o x q,fun b o q _ _ x=>⟨o.slots,k b o x q⟩,fun _ _ _ n _=>n,fun b o q x=>⟨o,k b o x q⟩,fun _ _ q=>q,fun _ _ _ q=>q,fun _ ps q=>⟨#[],by rw [q]; simp⟩⟩
    (fun b u e=>(I.hok b u e).stay (fun c v hc q=>k c v ?_ q) (fun _ q=>q) fun _ _ q=>q) I.bare fun b hb=>?_
  · rcases hc with z | z
    · rw [z]; exact nit b u e
    · exact nit c _ z
  · obtain ⟨f0,f1,f2,f3,f4,f5⟩:=hf b hb
    exact ⟨f3,f1,f4,f5⟩
theorem Inv.turnsLaid {t':Nat} {ch:List Addr} {a:Addr} {o:HO} (I:Inv X pins σ H s) (k:∀ b o,b ∉ ch->s.heap.get? b=some o->h'.get? b=some o) (hf:∀ b∈ch,FpOk X pins H b) (hp:s.heap.objs.size<=a) (new:ObjOk X.prog X.w (upd H a o) h' a o) :
    Inv X pins σ (upd H a o) { s with heap:=h',toks:=t' }:=by
  have hn:=I.hok.fresh hp
  have nit:∀ b u,H b=some u->b ∉ ch:=fun b u e z=>by rw [(hf b z).1] at e; cases e
  refine I.call (g':=s.gens) (d':=s.drawn) (t':=t') (ch:=ch) ⟨fun b o q _ _ x=>k b o x q,fun b o q _ _ x=>⟨o.slots,k b o x q⟩,fun b u q n _=>by rw [upd_ne (Nat.ne_of_lt (Nat.lt_of_lt_of_le (Heap.lt_size q) hp))]; exact n,fun b o q x=>⟨o,k b o x q⟩,
      fun b xs q=>by rw [upd_ne (ne_of_none q hn)]; exact q,fun b u xs q=>by rw [upd_ne (ne_of_none q hn)]; exact q,fun b ps q=>⟨#[],by rw [upd_ne (ne_of_none q hn),q]; simp⟩⟩
    (fun b u e=>?_) I.bare fun b hb=>?_
  · by_cases hb:b=a
    · subst hb
      rw [upd_same] at e
      cases e
      exact new
    · rw [upd_ne hb] at e
      refine (I.hok b u e).stay (fun c v hc q=>k c v ?_ q) (fun c q=>by rw [upd_ne (ne_of_none q hn)]; exact q) fun c xs q=>by rw [upd_ne (ne_of_none q hn)]; exact q
      rcases hc with z | z
      · rw [z]; exact nit b u e
      · exact nit c _ z
  · obtain ⟨f0,f1,f2,f3,f4,f5⟩:=hf b hb
    exact ⟨f3,f1,f4,f5⟩
end
section
variable {X:Cx} {elts:List Expr} {k:Nat} {tpos:Pos}
end
end L2
namespace L2
open PySem PySem.Spec PyProof.Rows Builtin Builtin.Str
section
variable {X:Cx}
theorem strs_of_vals:∀ {zs:List Str} {us:List Value},Vals (zs.map V.str) us->∃ l:List (Str × Tok),us=strValues l/\l.map (·.1)=zs
  | [],_,.nil=>⟨[],rfl,rfl⟩
  | z :: zs,_,.cons ⟨t,e⟩ r=>by
    obtain ⟨l,rfl,h⟩:=strs_of_vals r
    exact ⟨(z,t) :: l,by rw [e]; rfl,by rw [List.map_cons,h]⟩
theorem fold_len (sep:Str):∀ (zs:List Str) (a:Nat),zs.foldl (· + ·.length + sep.length) a=a + ((zs.map (·.length)).sum + zs.length * sep.length)
  | [],a=>by simp
  | z :: zs,a=>by
    rw [List.foldl_cons,fold_len sep zs]
    simp only [List.map_cons,List.sum_cons,List.length_cons,Nat.add_mul,Nat.one_mul]
    lia
def wide (sep:Str) (zs:List Str):Nat:=(zs.map (·.length)).sum + zs.length * sep.length
def rJoin (K:PySem.W.Frag):V->List V->Hp->VK->Prop:=fun x vs H Q=>∃ sep p zs,x=.str sep/\vs=[.ref p]/\SqL K H p (zs.map V.str)/\wide sep zs<=sizeLine/\Q (.str (Str.join sep zs)) H
theorem mt_join:MtR X "str.join" (rJoin X.K):=by
  intro pins s σ H x vs v us Q I rx rv h
  obtain ⟨sep,p,zs,rfl,rfl,hq,hw,q⟩:=h
  obtain ⟨t,rfl⟩:=rx
  obtain ⟨u,rfl,ru⟩:=rv.one
  cases ru
  obtain ⟨its,r,pl,hz⟩:=I.list hq
  obtain ⟨l,rfl,hl⟩:=strs_of_vals r
  have big:tooLong ((l.map (·.1)).toArray.foldl (· + ·.length + sep.length) 0)=false:=by
    rw [hl,List.foldl_toArray,fold_len]
    unfold tooLong
    rw [decide_eq_false_iff_not]
    unfold wide at hw
    lia
  have hg:=size_glued sep zs
  have hle:(glued sep zs).length<=sizeLine:=by
    rw [hg]
    unfold wide at hw
    have:(zs.length - 1) * sep.length<=zs.length * sep.length:=Nat.mul_le_mul_right _ (Nat.sub_le _ _)
    lia
  refine call_meets F.slot_str_join (typeIs_str _ _ _) F.entry_str_join (F.args_str_join_2 _ _) (meets_str_join_list sep t p l big) ⟨pl.isList,?_⟩
  rw [<- StrLaws.glued_eq_join] at q
  match l,hl with
  | [],hl=>exact ⟨by rw [hl]; exact hle,.str _,H,I.tok _,⟨_,rfl⟩,by rw [hl]; exact q⟩
  | [(z,tz)],hl =>
    have e:glued sep zs=z:=by
      rw [<- hl]
      rfl
    rw [e] at q
    exact ⟨.str z,H,I,⟨tz,rfl⟩,q⟩
  | a :: b :: r,hl=>exact ⟨by rw [hl]; exact hle,.str _,H,I.tok _,⟨_,rfl⟩,by rw [hl]; exact q⟩
theorem jm_join:jMt X "str.join" (rJoin X.K):=⟨mt_join⟩
def rEqE (K:PySem.W.Frag) (neg:Bool):R2:=fun x y H Q=>∃ p p' xs,x=.ref p/\y=.ref p'/\SqL K H p xs/\SqL K H p' []/\Q (.bl (if neg then !xs.isEmpty else xs.isEmpty)) H
theorem op_eqE (hu:X.A.units < cLine):OpR X (compareOp .Eq) (rEqE X.K false):=by
  intro pins s σ H x y v u Q I rx ry h
  obtain ⟨p,p',xs,rfl,rfl,h1,h2,q⟩:=h
  cases rx
  cases ry
  obtain ⟨its,r,pl,_⟩:=I.list h1
  obtain ⟨its',r',pl',_⟩:=I.list h2
  cases r'
  cases r with
  | nil=>exact SeqAt.eq_listAt (e:=fun _=>true) pl.isList pl'.isList rfl hu (fun j h=>absurd h (Nat.not_lt_zero _)) ⟨.bl true,H,I,rfl,q⟩
  | cons a b=>exact SeqAt.eq_list_lengthsAt pl.isList pl'.isList rfl hu ⟨.bl false,H,I,rfl,q⟩
theorem op_neE (hu:X.A.units < cLine):OpR X (compareOp .NotEq) (rEqE X.K true):=by
  intro pins s σ H x y v u Q I rx ry h
  obtain ⟨p,p',xs,rfl,rfl,h1,h2,q⟩:=h
  cases rx
  cases ry
  obtain ⟨its,r,pl,_⟩:=I.list h1
  obtain ⟨its',r',pl',_⟩:=I.list h2
  cases r'
  cases r with
  | nil=>exact SeqAt.RcNeAt.lists (e:=fun _=>true) pl.isList pl'.isList rfl hu (fun j h=>absurd h (Nat.not_lt_zero _)) _ _ _ _ ⟨.bl false,H,I,rfl,q⟩
  | cons a b=>exact SeqAt.RcNeAt.lists_lengths pl.isList pl'.isList rfl hu _ _ _ _ ⟨.bl true,H,I,rfl,q⟩
theorem jo_eqE {k:Nat} (hr:Room k X.A):jOp X (compareOp .Eq) (rEqE X.K false):=⟨op_eqE hr.units0⟩
theorem jo_neE {k:Nat} (hr:Room k X.A):jOp X (compareOp .NotEq) (rEqE X.K true):=⟨op_neE hr.units0⟩
end
end L2
namespace L2
open PySem PySem.Spec PyProof.Rows
def Sq (k:Bool) (h:Heap) (l:Addr) (xs:Array Value):Prop:=match k with
  | true=>h.IsList l xs
  | false=>h.IsTuple l xs
def SqI (k:Bool) (h:Heap) (j l:Addr) (n:Nat):Prop:=match k with
  | true=>h.IsListIter j l n
  | false=>h.IsTupleIter j l n
def SqN (k:Bool):String:=if k then "list_iterator" else "tuple_iterator"
theorem Sq.at {k:Bool} {h h':Heap} {l:Addr} {xs:Array Value} (x:Sq k h l xs) (e:∀ o,h.get? l=some o->h'.get? l=some o):Sq k h' l xs:=by
  cases k <;> obtain ⟨o,ho,r⟩:=x <;> exact ⟨o,e _ ho,r⟩
theorem SqI.at {k:Bool} {h h':Heap} {j l:Addr} {n:Nat} (x:SqI k h j l n) (e:∀ o,h.get? j=some o->h'.get? j=some o):SqI k h' j l n:=by
  cases k <;> obtain ⟨o,ho,r⟩:=x <;> exact ⟨o,e _ ho,r⟩
theorem SqI.ex {k:Bool} {h:Heap} {j l:Addr} {n:Nat} (x:SqI k h j l n):∃ o,h.get? j=some o/\o.cls=.type (SqN k)/\o.data=.fields #[.ref l,.int n 0]:=by
  cases k <;> exact x
theorem SqI.of {k:Bool} {h:Heap} {j l:Addr} {n:Nat} (x:∃ o,h.get? j=some o/\o.cls=.type (SqN k)/\o.data=.fields #[.ref l,.int n 0]):SqI k h j l n:=by
  cases k <;> exact x
section
variable {P:Program} {w:World} {A:Around} {E:Value->Shared->Prop} {s:Shared}
theorem tup_next {j l:Addr} {n:Nat} {xs:Array Value} {x:Value} {Q:Value->Shared->Prop} (hj:s.heap.IsTupleIter j l n) (hl:s.heap.IsTuple l xs) (hx:xs[n]?=some x)
    (q:∀ h',h'.IsTupleIter j l (n + 1)->Heap.SameBut j s.heap h'->Q x { s with heap:=h' }):wpAny (model P w) A (Builtin.SmallTypes.nextOf (.ref j)) Q E s:=by
  have ⟨oj,hoj,cj,dj⟩:=hj
  have ⟨ol,hol,_,m,dl⟩:=hl
  unfold Builtin.SmallTypes.nextOf
  refine wpAny_bind (wpAny_callSpecial?_slot hj.typeIs F.slot_tuple_iterator_next (wpAny_call_entry F.slot_tuple_iterator_next hj.typeIs F.entry_tuple_iterator_next ?_ (F.args_tuple_iterator_next_1 (.ref j))))
  refine wpAny_bind (m:=field (.ref j) 0) (wpAny_field hoj dj (x:=.ref l) rfl ?_)
  have nn:¬ ((Value.ref l == Value.none)=true):=Bool.false_ne_true
  show wpAny _ _ (ite ((Value.ref l == Value.none)=true) _ _) _ _ _
  rw [if_neg nn]
  refine wpAny_bind (m:=field (.ref j) 1) (wpAny_field hoj dj (x:=.int n 0) rfl ?_)
  refine wpAny_bind (m:=seqItems? (.ref l)) (wpAny_seqItems hol dl ?_)
  simp only [Int.toNat_natCast,hx]
  refine wpAny_bind (wpAny_setField hoj dj (by simp) (wpAny_pure ⟨x,rfl,wpAny_pure (q _ ⟨_,Heap.get?_update_self _ hoj (Obj.isFreed_of_fields (Obj.data_mapFields dj _)),(Obj.cls_mapFields ..).trans cj,?_⟩ (Heap.SameBut.update ..))⟩))
  rw [Obj.data_mapFields dj]
  simp [rawInt]
theorem tup_end {j l:Addr} {n:Nat} {xs:Array Value} {Q:Value->Shared->Prop} (hA:A.handled=none) (hj:s.heap.IsTupleIter j l n) (hl:s.heap.IsTuple l xs) (hx:xs[n]?=none)
    (q:∀ h' e,Heap.ExtBut j s.heap h'->(∃ o,h'.get? e=some o/\o.cls=.type "StopIteration")->E (.ref e) { s with heap:=h' }):wpAny (model P w) A (Builtin.SmallTypes.nextOf (.ref j)) Q E s:=by
  have ⟨oj,hoj,cj,dj⟩:=hj
  have ⟨ol,hol,_,m,dl⟩:=hl
  unfold Builtin.SmallTypes.nextOf
  refine wpAny_bind (wpAny_callSpecial?_slot hj.typeIs F.slot_tuple_iterator_next (wpAny_call_entry F.slot_tuple_iterator_next hj.typeIs F.entry_tuple_iterator_next ?_ (F.args_tuple_iterator_next_1 (.ref j))))
  refine wpAny_bind (m:=field (.ref j) 0) (wpAny_field hoj dj (x:=.ref l) rfl ?_)
  have nn:¬ ((Value.ref l == Value.none)=true):=Bool.false_ne_true
  show wpAny _ _ (ite ((Value.ref l == Value.none)=true) _ _) _ _ _
  rw [if_neg nn]
  refine wpAny_bind (m:=field (.ref j) 1) (wpAny_field hoj dj (x:=.int n 0) rfl ?_)
  refine wpAny_bind (m:=seqItems? (.ref l)) (wpAny_seqItems hol dl ?_)
  simp only [Int.toNat_natCast,hx]
  refine wpAny_bind (wpAny_rule (wpAny_bind (wpAny_setField hoj dj (by simp) ?_)))
  refine wpAny_bind (m:=newExc (.type "StopIteration") []) ?_
  unfold newExc newTuple
  refine wpAny_bind (wpAny_newObj_type (wpAny_bind (m:=firstArgMember _ _) (wpAny_of_eq (a:=Value.none) (by first | rfl | (simp only [firstArgMember]; rfl)) (wpAny_newObj_type ?_ (by size_fits)))) (by size_fits))
  unfold raiseNew
  refine wpAny_bind (wpAny_handled ?_)
  rw [show A.in1.handled=none from hA]
  exact wpAny_bind (wpAny_pure (wpAny_throw (q _ _ (((Heap.SameBut.update ..).extBut.push _).push _) ⟨_,Heap.get?_push_size _ rfl,rfl⟩)))
theorem sq_next {k:Bool} {j l:Addr} {n:Nat} {xs:Array Value} {x:Value} {Q:Value->Shared->Prop} (hj:SqI k s.heap j l n) (hl:Sq k s.heap l xs) (hx:xs[n]?=some x)
    (q:∀ h',SqI k h' j l (n + 1)->Heap.SameBut j s.heap h'->Q x { s with heap:=h' }):wpAny (model P w) A (Builtin.SmallTypes.nextOf (.ref j)) Q E s:=by
  cases k with
  | true=>exact wpAny_nextOf_list_item hj hl hx q
  | false=>exact tup_next hj hl hx q
theorem sq_end {k:Bool} {j l:Addr} {n:Nat} {xs:Array Value} {Q:Value->Shared->Prop} (hA:A.handled=none) (hj:SqI k s.heap j l n) (hl:Sq k s.heap l xs) (hx:xs[n]?=none)
    (q:∀ h' e,Heap.ExtBut j s.heap h'->(∃ o,h'.get? e=some o/\o.cls=.type "StopIteration")->E (.ref e) { s with heap:=h' }):wpAny (model P w) A (Builtin.SmallTypes.nextOf (.ref j)) Q E s:=by
  cases k with
  | true=>exact wpAny_nextOf_list_end hA hj hl hx q
  | false=>exact tup_end hA hj hl hx q
theorem sq_iter {k:Bool} {l:Addr} {xs:Array Value} {Q:Value->Shared->Prop} (hl:Sq k s.heap l xs) (q:Q (.ref s.heap.objs.size) { s with heap:=s.heap.push { cls:=.type (SqN k),data:=.fields #[.ref l,.int 0 0] } }) :
    wpAny (model P w) A (pyIter (.ref l)) Q E s:=by
  cases k with
  | true=>exact wpAny_pyIter_list hl q
  | false=>exact wpAny_pyIter_tuple hl q
end
abbrev za (k:Bool) (h:Heap) (l:Addr):Heap:=h.push { cls:=.type (SqN k),data:=.fields #[.ref l,.int 0 0] }
abbrev zb (k m:Bool) (h:Heap) (l r:Addr):Heap:=za m (za k h l) r
abbrev zc (k m:Bool) (h:Heap) (l r:Addr):Heap:=(zb k m h l r).push { cls:=.type "tuple",data:=.seq #[.ref h.objs.size,.ref (za k h l).objs.size] }
abbrev zd (k m:Bool) (h:Heap) (l r:Addr):Heap:=(zc k m h l r).push { cls:=.type "tuple",data:=.seq #[.none,.none] }
abbrev ze (k m:Bool) (h:Heap) (l r:Addr):Heap:=(zd k m h l r).push { cls:=.type "zip",data:=.fields #[.none,.bool false,.bool false,.ref (zb k m h l r).objs.size,.ref (zc k m h l r).objs.size] }
theorem zip_made (k m:Bool) (l r:Addr) (xs ys:Array Value):Meets (Builtin.«zip.__new__» ⟨[.type "zip",.ref l,.ref r],[]⟩)
    (fun _ R s=>Sq k s.heap l xs/\Sq m s.heap r ys/\R (.ok (.ret (.ref (zd k m s.heap l r).objs.size))) { s with heap:=ze k m s.heap l r }) :=
  .of_wp fun prog w A R s h=>by
    obtain ⟨hp,g,d,tk,os⟩:=s
    obtain ⟨h1,h2,h⟩:=h
    have hs:=sub_zip
    have q1:Sq k (Shared.heap ⟨hp,g,d,tk,os⟩) l xs:=h1
    have q2:Sq m (Shared.heap ⟨za k hp l,g,d,tk,os⟩) r ys:=h2.at fun o e=>Heap.get?_push_of_some _ e
    wp_walk using sq_iter q1,sq_iter q2
    exact ⟨_,rfl,h⟩
structure ZS (k m:Bool) (h:Heap) (B l r:Nat) (n:Nat) (f g:Value):Prop where
  z:h.get? (B + 4)=some { cls:=.type "zip",data:=.fields #[f,g,.bool false,.ref (B + 2),.ref (B + 3)] }
  ti:IsPair h (B + 2) (.ref B) (.ref (B + 1))
  to:∃ a b,IsPair h (B + 3) a b
  i:SqI k h B l n
  j:SqI m h (B + 1) r n
theorem ZS.at {k m:Bool} {h h':Heap} {B l r:Nat} {n:Nat} {f g:Value} (x:ZS k m h B l r n f g) (e:∀ (b:Nat) o,B<=b->b<=B + 4->h.get? b=some o->h'.get? b=some o):ZS k m h' B l r n f g where
  z:=e _ _ (by lia) (by lia) x.z
  ti:=e _ _ (by lia) (by lia) x.ti
  to:=let ⟨a,b,y⟩:=x.to; ⟨a,b,e _ _ (by lia) (by lia) y⟩
  i:=x.i.at fun o=>e _ o (by lia) (by lia)
  j:=x.j.at fun o=>e _ o (by lia) (by lia)
def KeptZ (B:Nat) (h h':Heap):Prop:=∀ (c:Nat) o,(c < B\/B + 4 < c)->h.get? c=some o->h'.get? c=some o
section
variable {P:Program} {w:World} {A:Around} {E:Value->Shared->Prop} {s:Shared} {k m:Bool} {B l r:Nat} {n:Nat} {xs ys:Array Value} {x y f g:Value}
theorem zip_call {Q:Value->Shared->Prop} (hl:Sq k s.heap l xs) (hr:Sq m s.heap r ys)
    (q:∀ h',ZS k m h' s.heap.objs.size l r 0 .none (.bool false)->h'.objs.size=s.heap.objs.size + 5->(∀ c o,s.heap.get? c=some o->h'.get? c=some o)->Q (.ref (s.heap.objs.size + 4)) { s with heap:=h' }) :
    wpAny (model P w) A (call (.type "zip") [.ref l,.ref r]) Q E s:=by
  apply callType_new F.called_zip (by decide) (F.typeCall_zip_2 _ _) (F.newCall_zip_2 _ _) (fun obj=>F.args_object_init_3 obj _ _) F.entry_zip_new (zip_made k m l r xs ys)
  refine ⟨hl,hr,?_⟩
  have s1:(za k s.heap l).objs.size=s.heap.objs.size + 1:=Heap.size_push ..
  have s2:(zb k m s.heap l r).objs.size=s.heap.objs.size + 2:=by rw [Heap.size_push,s1]
  have s3:(zc k m s.heap l r).objs.size=s.heap.objs.size + 3:=by rw [Heap.size_push,s2]
  have s4:(zd k m s.heap l r).objs.size=s.heap.objs.size + 4:=by rw [Heap.size_push,s3]
  have s5:(ze k m s.heap l r).objs.size=s.heap.objs.size + 5:=by rw [Heap.size_push,s4]
  have up:∀ {c o},(zd k m s.heap l r).get? c=some o->(ze k m s.heap l r).get? c=some o:=fun e=>Heap.get?_push_of_some _ e
  have p5:(ze k m s.heap l r).get? (zd k m s.heap l r).objs.size=some _:=Heap.get?_push_size _ rfl
  have p4:(ze k m s.heap l r).get? (zc k m s.heap l r).objs.size=some _:=up (Heap.get?_push_size _ rfl)
  have p3:(ze k m s.heap l r).get? (zb k m s.heap l r).objs.size=some _:=up (Heap.get?_push_of_some _ (Heap.get?_push_size _ rfl))
  have p2:(ze k m s.heap l r).get? (za k s.heap l).objs.size=some _:=up (Heap.get?_push_of_some _ (Heap.get?_push_of_some _ (Heap.get?_push_size _ rfl)))
  have p1:(ze k m s.heap l r).get? s.heap.objs.size=some _:=up (Heap.get?_push_of_some _ (Heap.get?_push_of_some _ (Heap.get?_push_of_some _ (Heap.get?_push_size _ rfl))))
  rw [s4,s2,s3] at p5
  rw [s3] at p4
  rw [s2,s1] at p3
  rw [s1] at p2
  show _/\_
  rw [s4]
  exact ⟨⟨_,p5,rfl⟩,q _ ⟨p5,p3,⟨_,_,p4⟩,.of ⟨_,p1,rfl,rfl⟩,.of ⟨_,p2,rfl,rfl⟩⟩ s5 fun c o e=>up (Heap.get?_push_of_some _ (Heap.get?_push_of_some _ (Heap.get?_push_of_some _ (Heap.get?_push_of_some _ e))))⟩
theorem zip_free {Q:Value->Shared->Prop} (Z:ZS k m s.heap B l r n .none g) (hl:Sq k s.heap l xs) (hr:Sq m s.heap r ys) (ll:l < B) (rl:r < B) (hx:xs[n]?=some x) (hy:ys[n]?=some y)
    (q:∀ h',ZS k m h' B l r (n + 1) (rawInt s.heap.objs.size) (.bool false)->IsPair h' s.heap.objs.size x y->h'.objs.size=s.heap.objs.size + 1->KeptZ B s.heap h'->Q (.ref s.heap.objs.size) { s with heap:=h' }) :
    wpAny (model P w) A (Builtin.«zip.__next__» ⟨[.ref (B + 4)],[]⟩) (fun fin s'=>∃ v,fin=.done (.ret v)/\Q v s') E s:=by
  obtain ⟨a,b,hto⟩:=Z.to
  refine wpAny_bind (m:=field (.ref (B + 4)) 2) (wpAny_field Z.z rfl (x:=.bool false) rfl ?_)
  refine wpAny_bind (m:=field (.ref (B + 4)) 3) (wpAny_field Z.z rfl (x:=.ref (B + 2)) rfl (wpAny_bind (wpAny_seqItems Z.ti rfl ?_)))
  refine wpAny_bind (m:=Builtin.SmallTypes.ownedTupleIsFree (.ref (B + 4))) ?_
  unfold Builtin.SmallTypes.ownedTupleIsFree
  refine wpAny_bind (wpAny_field Z.z rfl (x:=.none) rfl (wpAny_pure ?_))
  rw [if_pos rfl]
  refine wpAny_bind (wpAny_rule (wpAny_bind (wpAny_field Z.z rfl (x:=.ref (B + 3)) rfl (wpAny_bind (wpAny_setField_rec Z.z (by simp) fun h1 z1 u1=>wpAny_bind ?_)))))
  replace z1:h1.get? (B + 4)=some { cls:=.type "zip",data:=.fields #[.ellipsis,g,.bool false,.ref (B + 2),.ref (B + 3)] }:=z1
  have k1:∀ (c:Nat) o,c≠B + 4->s.heap.get? c=some o->h1.get? c=some o:=fun c o n e=>(u1.2 c n).trans e
  simp only [List.zipIdx_cons,List.zipIdx_nil,List.forIn_cons,List.forIn_nil]
  refine wpAny_bind (wpAny_bind (wpAny_onRaise (wpAny_bind (m:=Builtin.SmallTypes.nextOf (.ref B)) ?_)))
  refine sq_next (Z.i.at fun o=>k1 _ o (by lia)) (hl.at fun o=>k1 _ o (by lia)) hx fun h2 i2 u2=>wpAny_pure ?_
  have k2:∀ (c:Nat) o,c≠B->h1.get? c=some o->h2.get? c=some o:=fun c o n e=>(u2.2 c n).trans e
  have to2:IsPair h2 (B + 3) a b:=k2 _ _ (by lia) (k1 _ _ (by lia) hto)
  refine wpAny_bind (wpAny_seqItems to2 rfl (wpAny_bind (wpAny_updateSeq_pair to2 fun h3 to3 u3=>?_)))
  replace to3:IsPair h3 (B + 3) x b:=to3
  have k3:∀ (c:Nat) o,c≠B + 3->h2.get? c=some o->h3.get? c=some o:=fun c o n e=>(u3.2 c n).trans e
  refine wpAny_bind (wpAny_letGo (wpAny_pure (wpAny_bind (wpAny_bind (wpAny_onRaise (wpAny_bind (m:=Builtin.SmallTypes.nextOf (.ref (B + 1))) ?_))))))
  refine sq_next (Z.j.at fun o e=>k3 _ o (by lia) (k2 _ o (by lia) (k1 _ o (by lia) e))) (hr.at fun o e=>k3 _ o (by lia) (k2 _ o (by lia) (k1 _ o (by lia) e))) hy fun h4 i4 u4=>wpAny_pure ?_
  have k4:∀ (c:Nat) o,c≠B + 1->h3.get? c=some o->h4.get? c=some o:=fun c o n e=>(u4.2 c n).trans e
  have to4:IsPair h4 (B + 3) x b:=k4 _ _ (by lia) to3
  refine wpAny_bind (wpAny_seqItems to4 rfl (wpAny_bind (wpAny_updateSeq_pair to4 fun h5 to5 u5=>?_)))
  replace to5:IsPair h5 (B + 3) x y:=to5
  have k5:∀ (c:Nat) o,c≠B + 3->h4.get? c=some o->h5.get? c=some o:=fun c o n e=>(u5.2 c n).trans e
  refine wpAny_bind (wpAny_letGo (wpAny_pure (wpAny_pure (wpAny_bind (wpAny_seqItems to5 rfl (wpAny_bind (wpAny_newTuple ?_)))))))
  have sz:h5.objs.size=s.heap.objs.size:=by rw [u5.1,u4.1,u3.1,u2.1,u1.1]
  have z5:h5.get? (B + 4)=some { cls:=.type "zip",data:=.fields #[.ellipsis,g,.bool false,.ref (B + 2),.ref (B + 3)] }:=k5 _ _ (by lia) (k4 _ _ (by lia) (k3 _ _ (by lia) (k2 _ _ (by lia) z1)))
  have lt4:B + 4 < h5.objs.size:=Heap.lt_size z5
  refine wpAny_bind (m:=Builtin.SmallTypes.ownedTupleHandOut (.ref (B + 4)) (.ref h5.objs.size)) ?_
  unfold Builtin.SmallTypes.ownedTupleHandOut
  refine wpAny_bind (wpAny_setField_rec (Heap.get?_push_of_some { cls:=.type "tuple",data:=.seq #[x,y] } z5) (by simp) fun h7 z7 u7=>?_)
  refine wpAny_setField_rec z7 (by simp) fun h8 z8 u8=>wpAny_pure ⟨.ref h5.objs.size,rfl,?_⟩
  have k8:∀ (c:Nat) o,c≠B + 4->h5.get? c=some o->h8.get? c=some o:=fun c o n e=>(u8.2 c n).trans ((u7.2 c n).trans (Heap.get?_push_of_some _ e))
  have p8:IsPair h8 h5.objs.size x y:=(u8.2 _ (Nat.ne_of_gt lt4)).trans ((u7.2 _ (Nat.ne_of_gt lt4)).trans (Heap.get?_push_size _ rfl))
  have s8:h8.objs.size=h5.objs.size + 1:=by rw [u8.1,u7.1,Heap.size_push]
  rw [sz] at p8 s8 ⊢
  refine q h8 ⟨?_,k8 _ _ (by lia) (k5 _ _ (by lia) (k4 _ _ (by lia) (k3 _ _ (by lia) (k2 _ _ (by lia) (k1 _ _ (by lia) Z.ti))))),⟨x,y,k8 _ _ (by lia) to5⟩,
    i2.at fun o e=>k8 _ _ (by lia) (k5 _ _ (by lia) (k4 _ _ (by lia) (k3 _ _ (by lia) e))),i4.at fun o e=>k8 _ _ (by lia) (k5 _ _ (by lia) e)⟩ p8 s8
    fun c o hc e=>k8 _ _ (by lia) (k5 _ _ (by lia) (k4 _ _ (by lia) (k3 _ _ (by lia) (k2 _ _ (by lia) (k1 _ _ (by lia) e)))))
  rw [<- sz]
  exact z8
theorem if_alive {a:Addr} {o:Obj} {Q:Option Obj->Shared->Prop} (ho:s.heap.get? a=some o) (h:Q (some o) s):wpAny (model P w) A (loadIfAlive a) Q E s:=fun Γ p _=>by
  unfold loadIfAlive
  rw [Sem.wp_loadIfAlive,ho]
  simpa using h
theorem own_held {Q:Bool->Shared->Prop} {T:Nat} {ot:Obj} {c:Bool} (hz:s.heap.get? (B + 4)=some { cls:=.type "zip",data:=.fields #[rawInt T,.bool c,.bool false,.ref (B + 2),.ref (B + 3)] }) (hT:s.heap.get? T=some ot)
    (q:∀ h1,h1.get? (B + 4)=some { cls:=.type "zip",data:=.fields #[rawInt T,.bool true,.bool false,.ref (B + 2),.ref (B + 3)] }->h1.objs.size=s.heap.objs.size->(∀ (d:Nat) o,d≠B + 4->s.heap.get? d=some o->h1.get? d=some o)->Q false { s with heap:=h1 }) :
    wpAny (model P w) A (Builtin.SmallTypes.ownedTupleIsFree (.ref (B + 4))) Q E s:=by
  unfold Builtin.SmallTypes.ownedTupleIsFree
  refine wpAny_bind (wpAny_field hz rfl (x:=rawInt T) rfl ?_)
  refine wpAny_bind (m:=loadIfAlive ((T:Int).toNat)) (if_alive (o:=ot) (by rw [Int.toNat_natCast]; exact hT) ?_)
  rw [if_neg (by simp)]
  refine wpAny_bind (wpAny_field hz rfl (x:=.bool c) rfl ?_)
  cases c with
  | true =>
    rw [if_neg (by decide)]
    exact wpAny_pure (q _ hz rfl fun d o _ e=>e)
  | false =>
    rw [if_pos (by decide)]
    exact wpAny_bind (wpAny_setField_rec hz (by simp) fun h1 z1 u1=>wpAny_pure (q h1 z1 u1.1 fun d o n e=>(u1.2 d n).trans e))
theorem zip_held {Q:Value->Shared->Prop} {T:Nat} {ot:Obj} {c:Bool} (Z:ZS k m s.heap B l r n (rawInt T) (.bool c)) (hT:s.heap.get? T=some ot) (hl:Sq k s.heap l xs) (hr:Sq m s.heap r ys) (ll:l < B) (rl:r < B) (hx:xs[n]?=some x) (hy:ys[n]?=some y)
    (q:∀ h',ZS k m h' B l r (n + 1) (rawInt T) (.bool true)->IsPair h' s.heap.objs.size x y->h'.objs.size=s.heap.objs.size + 1->KeptZ B s.heap h'->Q (.ref s.heap.objs.size) { s with heap:=h' }) :
    wpAny (model P w) A (Builtin.«zip.__next__» ⟨[.ref (B + 4)],[]⟩) (fun fin s'=>∃ v,fin=.done (.ret v)/\Q v s') E s:=by
  obtain ⟨a,b,hto⟩:=Z.to
  refine wpAny_bind (m:=field (.ref (B + 4)) 2) (wpAny_field Z.z rfl (x:=.bool false) rfl ?_)
  refine wpAny_bind (m:=field (.ref (B + 4)) 3) (wpAny_field Z.z rfl (x:=.ref (B + 2)) rfl (wpAny_bind (wpAny_seqItems Z.ti rfl ?_)))
  refine wpAny_bind (m:=Builtin.SmallTypes.ownedTupleIsFree (.ref (B + 4))) (own_held Z.z hT fun h1 z1 s1 k1=>?_)
  rw [if_neg Bool.false_ne_true]
  refine wpAny_bind ?_
  rw [<- Array.forIn_toList]
  simp only [List.forIn_cons,List.forIn_nil]
  refine wpAny_bind (wpAny_bind (wpAny_holding (wpAny_bind (m:=Builtin.SmallTypes.nextOf (.ref B)) ?_)))
  refine sq_next (Z.i.at fun o=>k1 _ o (by lia)) (hl.at fun o=>k1 _ o (by lia)) hx fun h2 i2 u2=>wpAny_pure (wpAny_pure ?_)
  have k2:∀ (c:Nat) o,c≠B->h1.get? c=some o->h2.get? c=some o:=fun c o n e=>(u2.2 c n).trans e
  refine wpAny_bind (wpAny_bind (wpAny_holding (wpAny_bind (m:=Builtin.SmallTypes.nextOf (.ref (B + 1))) ?_)))
  refine sq_next (Z.j.at fun o e=>k2 _ o (by lia) (k1 _ o (by lia) e)) (hr.at fun o e=>k2 _ o (by lia) (k1 _ o (by lia) e)) hy fun h4 i4 u4=>wpAny_pure (wpAny_pure (wpAny_pure ?_))
  have k4:∀ (c:Nat) o,c≠B + 1->h2.get? c=some o->h4.get? c=some o:=fun c o n e=>(u4.2 c n).trans e
  have sz:h4.objs.size=s.heap.objs.size:=by rw [u4.1,u2.1]; exact s1
  refine wpAny_bind (wpAny_newTuple (hsz:=by show 2<=sizeLine; decide) (wpAny_pure ⟨.ref h4.objs.size,rfl,?_⟩))
  have p5:IsPair (h4.push { cls:=.type "tuple",data:=.seq #[x,y] }) h4.objs.size x y:=Heap.get?_push_size _ rfl
  have s5:(h4.push { cls:=.type "tuple",data:=.seq #[x,y] }).objs.size=h4.objs.size + 1:=Heap.size_push ..
  rw [sz] at p5 s5 ⊢
  have k5:∀ (c:Nat) o,h4.get? c=some o->(h4.push { cls:=.type "tuple",data:=.seq #[x,y] }).get? c=some o:=fun c o e=>Heap.get?_push_of_some _ e
  exact q _ ⟨k5 _ _ (k4 _ _ (by lia) (k2 _ _ (by lia) z1)),k5 _ _ (k4 _ _ (by lia) (k2 _ _ (by lia) (k1 _ _ (by lia) Z.ti))),⟨a,b,k5 _ _ (k4 _ _ (by lia) (k2 _ _ (by lia) (k1 _ _ (by lia) hto)))⟩,
    i2.at fun o e=>k5 _ _ (k4 _ _ (by lia) e),i4.at fun o e=>k5 _ _ e⟩ p5 s5 fun c o hc e=>k5 _ _ (k4 _ _ (by lia) (k2 _ _ (by lia) (k1 _ _ (by lia) e)))
theorem zip_out {Q:PySem.Fin->Shared->Prop} (hA:A.handled=none) (Z:ZS k m s.heap B l r n .none g) (hl:Sq k s.heap l xs) (hr:Sq m s.heap r ys) (ll:l < B) (rl:r < B) (hx:xs[n]?=none\/ys[n]?=none)
    (q:∀ h' e,KeptZ B s.heap h'->(∃ o,h'.get? e=some o/\o.cls=.type "StopIteration")->E (.ref e) { s with heap:=h' }):wpAny (model P w) A (Builtin.«zip.__next__» ⟨[.ref (B + 4)],[]⟩) Q E s:=by
  obtain ⟨a,b,hto⟩:=Z.to
  refine wpAny_bind (m:=field (.ref (B + 4)) 2) (wpAny_field Z.z rfl (x:=.bool false) rfl ?_)
  refine wpAny_bind (m:=field (.ref (B + 4)) 3) (wpAny_field Z.z rfl (x:=.ref (B + 2)) rfl (wpAny_bind (wpAny_seqItems Z.ti rfl ?_)))
  refine wpAny_bind (m:=Builtin.SmallTypes.ownedTupleIsFree (.ref (B + 4))) ?_
  unfold Builtin.SmallTypes.ownedTupleIsFree
  refine wpAny_bind (wpAny_field Z.z rfl (x:=.none) rfl (wpAny_pure ?_))
  rw [if_pos rfl]
  refine wpAny_bind (wpAny_rule (wpAny_bind (wpAny_field Z.z rfl (x:=.ref (B + 3)) rfl (wpAny_bind (wpAny_setField_rec Z.z (by simp) fun h1 z1 u1=>wpAny_bind ?_)))))
  replace z1:h1.get? (B + 4)=some { cls:=.type "zip",data:=.fields #[.ellipsis,g,.bool false,.ref (B + 2),.ref (B + 3)] }:=z1
  have k1:∀ (c:Nat) o,c≠B + 4->s.heap.get? c=some o->h1.get? c=some o:=fun c o n e=>(u1.2 c n).trans e
  have nz:∀ {h:Heap} {e:Nat} {v:Value} {o:Obj},h.get? (B + 4)=some { cls:=.type "zip",data:=.fields #[v,g,.bool false,.ref (B + 2),.ref (B + 3)] }->h.get? e=some o->o.cls=.type "StopIteration"->e≠B + 4:=fun h1 h2 h3 e=>by
    rw [e,h1] at h2
    cases h2
    simp at h3
  simp only [List.zipIdx_cons,List.zipIdx_nil,List.forIn_cons,List.forIn_nil]
  refine wpAny_bind (wpAny_bind (wpAny_onRaise (wpAny_bind (m:=Builtin.SmallTypes.nextOf (.ref B)) ?_)))
  cases e1:xs[n]? with
  | none =>
    refine sq_end hA (Z.i.at fun o=>k1 _ o (by lia)) (hl.at fun o=>k1 _ o (by lia)) e1 fun h2 e u2 he=>?_
    obtain ⟨oe,he,ce⟩:=he
    have k2:∀ (c:Nat) o,c≠B->h1.get? c=some o->h2.get? c=some o:=fun c o n e=>u2 c o n e
    have z2:=k2 _ _ (show B + 4≠B by lia) z1
    refine wpAny_setField_rec z2 (by simp) fun h3 z3 u3=>q h3 e (fun c o hc x=>(u3.2 c (show (c:Nat)≠B + 4 by lia)).trans (k2 _ _ (by lia) (k1 _ _ (by lia) x))) ⟨oe,(u3.2 e (nz z2 he ce)).trans he,ce⟩
  | some x =>
    have hy:ys[n]?=none:=hx.resolve_left (by rw [e1]; simp)
    refine sq_next (Z.i.at fun o=>k1 _ o (by lia)) (hl.at fun o=>k1 _ o (by lia)) e1 fun h2 i2 u2=>wpAny_pure ?_
    have k2:∀ (c:Nat) o,c≠B->h1.get? c=some o->h2.get? c=some o:=fun c o n e=>(u2.2 c n).trans e
    have to2:IsPair h2 (B + 3) a b:=k2 _ _ (by lia) (k1 _ _ (by lia) hto)
    refine wpAny_bind (wpAny_seqItems to2 rfl (wpAny_bind (wpAny_updateSeq_pair to2 fun h3 to3 u3=>?_)))
    have k3:∀ (c:Nat) o,c≠B + 3->h2.get? c=some o->h3.get? c=some o:=fun c o n e=>(u3.2 c n).trans e
    refine wpAny_bind (wpAny_letGo (wpAny_pure (wpAny_bind (wpAny_bind (wpAny_onRaise (wpAny_bind (m:=Builtin.SmallTypes.nextOf (.ref (B + 1))) ?_))))))
    refine sq_end hA (Z.j.at fun o e=>k3 _ o (by lia) (k2 _ o (by lia) (k1 _ o (by lia) e))) (hr.at fun o e=>k3 _ o (by lia) (k2 _ o (by lia) (k1 _ o (by lia) e))) hy fun h4 e u4 he=>?_
    obtain ⟨oe,he,ce⟩:=he
    have k4:∀ (c:Nat) o,c≠B + 1->h3.get? c=some o->h4.get? c=some o:=fun c o n e=>u4 c o n e
    have z4:=k4 _ _ (show B + 4≠B + 1 by lia) (k3 _ _ (by lia) (k2 _ _ (by lia) z1))
    refine wpAny_setField_rec z4 (by simp) fun h5 z5 u5=>q h5 e (fun c o hc x=>(u5.2 c (show (c:Nat)≠B + 4 by lia)).trans (k4 _ _ (by lia) (k3 _ _ (by lia) (k2 _ _ (by lia) (k1 _ _ (by lia) x))))) ⟨oe,(u5.2 e (nz z4 he ce)).trans he,ce⟩
theorem zip_out_held {Q:PySem.Fin->Shared->Prop} {T:Nat} {ot:Obj} {c:Bool} (hA:A.handled=none) (Z:ZS k m s.heap B l r n (rawInt T) (.bool c)) (hT:s.heap.get? T=some ot) (hl:Sq k s.heap l xs) (hr:Sq m s.heap r ys) (ll:l < B) (rl:r < B) (hx:xs[n]?=none\/ys[n]?=none)
    (q:∀ h' e,KeptZ B s.heap h'->(∃ o,h'.get? e=some o/\o.cls=.type "StopIteration")->E (.ref e) { s with heap:=h' }):wpAny (model P w) A (Builtin.«zip.__next__» ⟨[.ref (B + 4)],[]⟩) Q E s:=by
  refine wpAny_bind (m:=field (.ref (B + 4)) 2) (wpAny_field Z.z rfl (x:=.bool false) rfl ?_)
  refine wpAny_bind (m:=field (.ref (B + 4)) 3) (wpAny_field Z.z rfl (x:=.ref (B + 2)) rfl (wpAny_bind (wpAny_seqItems Z.ti rfl ?_)))
  refine wpAny_bind (m:=Builtin.SmallTypes.ownedTupleIsFree (.ref (B + 4))) (own_held Z.z hT fun h1 z1 s1 k1=>?_)
  rw [if_neg Bool.false_ne_true]
  refine wpAny_bind ?_
  rw [<- Array.forIn_toList]
  simp only [List.forIn_cons,List.forIn_nil]
  refine wpAny_bind (wpAny_bind (wpAny_holding (wpAny_bind (m:=Builtin.SmallTypes.nextOf (.ref B)) ?_)))
  cases e1:xs[n]? with
  | none=>exact sq_end hA (Z.i.at fun o=>k1 _ o (by lia)) (hl.at fun o=>k1 _ o (by lia)) e1 fun h2 e u2 he=>q h2 e (fun c o hc x=>u2 _ _ (show (c:Nat)≠B by lia) (k1 _ _ (by lia) x)) he
  | some x =>
    have hy:ys[n]?=none:=hx.resolve_left (by rw [e1]; simp)
    refine sq_next (Z.i.at fun o=>k1 _ o (by lia)) (hl.at fun o=>k1 _ o (by lia)) e1 fun h2 i2 u2=>wpAny_pure (wpAny_pure ?_)
    have k2:∀ (c:Nat) o,c≠B->h1.get? c=some o->h2.get? c=some o:=fun c o n e=>(u2.2 c n).trans e
    refine wpAny_bind (wpAny_bind (wpAny_holding (wpAny_bind (m:=Builtin.SmallTypes.nextOf (.ref (B + 1))) ?_)))
    exact sq_end hA (Z.j.at fun o e=>k2 _ o (by lia) (k1 _ o (by lia) e)) (hr.at fun o e=>k2 _ o (by lia) (k1 _ o (by lia) e)) hy fun h4 e u4 he=>q h4 e (fun c o hc x=>u4 _ _ (show (c:Nat)≠B + 1 by lia) (k2 _ _ (by lia) (k1 _ _ (by lia) x))) he
end
end L2
namespace L2
open PySem PySem.Spec PyProof.Rows
def ZF (B:Nat) (h:Heap) (f g:Value):Prop:=f=.none\/∃ (T:Nat) (c:Bool) (o:Obj),f=rawInt T/\g=.bool c/\h.get? T=some o/\B + 5 < T
section
variable {P:Program} {w:World} {A:Around} {E:Value->Shared->Prop} {s:Shared} {k m:Bool} {B l r:Nat} {n:Nat} {xs ys:Array Value} {x y f g:Value}
theorem zip_step {Q:Option Value->Shared->Prop} (Z:ZS k m s.heap B l r n f g) (hf:ZF B s.heap f g) (hl:Sq k s.heap l xs) (hr:Sq m s.heap r ys) (ll:l < B) (rl:r < B) (hx:xs[n]?=some x) (hy:ys[n]?=some y)
    (q:∀ h' (T:Nat) (c:Bool),ZS k m h' B l r (n + 1) (rawInt T) (.bool c)->(T=s.heap.objs.size\/B + 5 < T/\∃ o,s.heap.get? T=some o)->IsPair h' s.heap.objs.size x y->h'.objs.size=s.heap.objs.size + 1->KeptZ B s.heap h'->Q (some (.ref s.heap.objs.size)) { s with heap:=h' }) :
    wpAny (model P w) A (pyNext (.ref (B + 4))) Q E s:=by
  have ty:s.TypeIs (.ref (B + 4)) "zip":=⟨_,Z.z,rfl⟩
  unfold pyNext
  refine wpAny_bind (wpAny_attempt (wpAny_callSpecial?_slot ty F.slot_zip_next (wpAny_call_entry F.slot_zip_next ty F.entry_zip_next ?_ (F.args_zip_next_1 (.ref (B + 4))))))
  rcases hf with rfl | ⟨T,c,o,rfl,rfl,hT,lT⟩
  · exact zip_free Z hl hr ll rl hx hy fun h' z p sz kz=>wpAny_pure (q h' _ _ z (.inl rfl) p sz kz)
  · exact zip_held Z hT hl hr ll rl hx hy fun h' z p sz kz=>wpAny_pure (q h' _ _ z (.inr ⟨lT,o,hT⟩) p sz kz)
theorem zip_stop {Q:Option Value->Shared->Prop} (hA:A.handled=none) (Z:ZS k m s.heap B l r n f g) (hf:ZF B s.heap f g) (hl:Sq k s.heap l xs) (hr:Sq m s.heap r ys) (ll:l < B) (rl:r < B) (hx:xs[n]?=none\/ys[n]?=none)
    (q:∀ h',KeptZ B s.heap h'->Q none { s with heap:=h' }):wpAny (model P w) A (pyNext (.ref (B + 4))) Q E s:=by
  have ty:s.TypeIs (.ref (B + 4)) "zip":=⟨_,Z.z,rfl⟩
  unfold pyNext
  refine wpAny_bind (wpAny_attempt (wpAny_callSpecial?_slot ty F.slot_zip_next (wpAny_call_entry F.slot_zip_next ty F.entry_zip_next ?_ (F.args_zip_next_1 (.ref (B + 4))))))
  have fin:∀ h' e,KeptZ B s.heap h'->(∃ o,h'.get? e=some o/\o.cls=.type "StopIteration")->wpAny (model P w) A (do
      if <- isInstance (.ref e) (.type "StopIteration") then pure none else throw (.ref e)) Q E { s with heap:=h' }:=by
    intro h' e kz ⟨o,ho,hc⟩
    exact wpAny_bind (wpAny_isInstance (T:="StopIteration") (b:=true) ⟨o,ho,hc⟩ isSubtype_stop (wpAny_pure (q _ kz)))
  rcases hf with rfl | ⟨T,c,o,rfl,rfl,hT,lT⟩
  · exact zip_out hA Z hl hr ll rl hx fun h' e kz he=>fin h' e kz he
  · exact zip_out_held hA Z hT hl hr ll rl hx fun h' e kz he=>fin h' e kz he
end
structure ZL (k m:Bool) (h0 h:Heap) (B l r n:Nat) (xs ys acc:Array Value) (c:Nat) (f g:Value):Prop where
  zs:ZS k m h B l r n f g
  zf:ZF B h f g
  hl:Sq k h l xs
  hr:Sq m h r ys
  sz:h.objs.size=B + 6 + n
  lst:h.get? (B + 5)=some { cls:=.type "list",data:=.seq acc c }
  asz:acc.size=n
  par:∀ i x y,i < n->xs[i]?=some x->ys[i]?=some y->acc[i]?=some (.ref (B + 6 + i))/\IsPair h (B + 6 + i) x y
  old:∀ (b:Nat) o,b < B->h0.get? b=some o->h.get? b=some o
section
variable {P:Program} {w:World} {A:Around} {R:Result->Shared->Prop} {h0:Heap} {k m:Bool} {B l r N:Nat} {xs ys:Array Value} {res:Value}
theorem zip_loop (hA:A.handled=none) (ll:l < B) (rl:r < B) (hN:N<=sizeLine) (hx:N<=xs.size) (hy:N<=ys.size) (he:xs.size<=N\/ys.size<=N):∀ (d n:Nat) (s:Shared) (acc:Array Value) (c:Nat) (f g:Value),n + d=N->ZL k m h0 s.heap B l r n xs ys acc c f g ->
    (∀ h' acc' c',h'.get? (B + 5)=some { cls:=.type "list",data:=.seq acc' c' }->acc'.size=N->(∀ i x y,i < N->xs[i]?=some x->ys[i]?=some y->acc'[i]?=some (.ref (B + 6 + i))/\IsPair h' (B + 6 + i) x y)->(∀ (b:Nat) o,b < B->h0.get? b=some o->h'.get? b=some o)->R (.ok (.ret res)) { s with heap:=h' }) ->
    codeAny (model P w) A (.builtin "list.extend.loop" ⟨[.ref (B + 5),.ref (B + 4),res],[]⟩) R s
  | 0,n,s,acc,c,f,g,hd,Z,q=>by
    have e:n=N:=by lia
    subst e
    refine codeAny_builtin F.entry_extend_loop ?_
    rw [Around.under_plainId F.plain_extend_loop _]
    refine wpAny_bind (m:=pyNext (.ref (B + 4))) (zip_stop (A:=A.in1) hA Z.zs Z.zf Z.hl Z.hr ll rl ?_ fun h' kz=>wpAny_pure (q h' acc c (kz _ _ (by lia) Z.lst) Z.asz ?_ fun b o hb x=>kz _ _ (by lia) (Z.old b o hb x)))
    · rcases he with he | he
      · exact .inl (Array.getElem?_eq_none (by lia))
      · exact .inr (Array.getElem?_eq_none (by lia))
    · intro i x y hi h1 h2
      obtain ⟨p1,p2⟩:=Z.par i x y hi h1 h2
      exact ⟨p1,kz _ _ (by lia) p2⟩
  | d + 1,n,s,acc,c,f,g,hd,Z,q=>by
    refine codeAny_builtin F.entry_extend_loop ?_
    rw [Around.under_plainId F.plain_extend_loop _]
    have hx':n < xs.size:=by lia
    have hy':n < ys.size:=by lia
    refine wpAny_bind (m:=pyNext (.ref (B + 4))) (zip_step (A:=A.in1) Z.zs Z.zf Z.hl Z.hr ll rl (Array.getElem?_eq_getElem hx') (Array.getElem?_eq_getElem hy') fun h' T ct z hT p sz kz=>?_)
    have s0:=Z.sz
    rw [s0] at p sz
    have l1:h'.get? (B + 5)=some { cls:=.type "list",data:=.seq acc c }:=kz _ _ (by lia) Z.lst
    have as:=Z.asz
    have up:∀ (b:Nat) o,b≠B + 5->h'.get? b=some o->(h'.update (B + 5) (Obj.mapSeq (·.push (.ref (B + 6 + n))))).get? b=some o:=fun b o nb e=>(Heap.get?_update_other _ _ (Ne.symm nb)).trans e
    rw [s0]
    refine wpAny_bind (m:=updateSeq (B + 5) (·.push (.ref (B + 6 + n)))) (wpAny_updateSeq l1 rfl (wpAny_pure ⟨plainId_quiet F.plain_extend_loop _,zip_loop hA ll rl hN hx hy he d (n + 1) _ (acc.push (.ref (B + 6 + n))) _ (rawInt T) (.bool ct) (by lia) ⟨?_,?_,?_,?_,?_,Heap.get?_update_self _ l1 rfl,?_,?_,?_⟩ q⟩) (by lia) (by show (acc.push _).size<=sizeLine + 1; rw [Array.size_push]; lia))
    · exact z.at fun b o h1 h2 e=>up b o (by lia) e
    · rcases hT with e | ⟨lT,o,hT⟩
      · rw [s0] at e
        subst e
        exact .inr ⟨_,ct,_,rfl,rfl,up _ _ (by lia) p,by lia⟩
      · exact .inr ⟨T,ct,o,rfl,rfl,up _ _ (by lia) (kz _ _ (by lia) hT),lT⟩
    · exact Z.hl.at fun o e=>up _ o (by lia) (kz _ o (by lia) e)
    · exact Z.hr.at fun o e=>up _ o (by lia) (kz _ o (by lia) e)
    · show (h'.update _ _).objs.size=_
      rw [Heap.size_update,sz]
      lia
    · rw [Array.size_push,as]
    · intro i x y hi h1 h2
      by_cases c1:i=n
      · subst c1
        rw [Array.getElem?_eq_getElem hx'] at h1
        rw [Array.getElem?_eq_getElem hy'] at h2
        cases h1
        cases h2
        refine ⟨?_,up _ _ (by lia) p⟩
        rw [Array.getElem?_push,if_pos as.symm]
      · obtain ⟨p1,p2⟩:=Z.par i x y (by lia) h1 h2
        refine ⟨?_,up _ _ (by lia) (kz _ _ (by lia) p2)⟩
        rw [Array.getElem?_push,if_neg (by lia)]
        exact p1
    · exact fun b o hb x=>up _ _ (by lia) (kz _ _ (by lia) (Z.old b o hb x))
end
end L2
namespace L2
open PySem PySem.Spec PyProof.Rows
theorem zip_len:typeLookup (.type "zip") "__len__"=pure none:=by rw [typeLookup_type,builtinLookup_eq_fast]; kernel_rfl
theorem zip_hint:typeLookup (.type "zip") "__length_hint__"=pure none:=by rw [typeLookup_type,builtinLookup_eq_fast]; kernel_rfl
section
variable {P:Program} {w:World} {A:Around} {E:Value->Shared->Prop} {s:Shared} {k m:Bool} {B l r N:Nat} {xs ys:Array Value}
theorem list_zip {Q:Value->Shared->Prop} (hA:A.handled=none) (Z:ZS k m s.heap B l r 0 .none (.bool false)) (hl:Sq k s.heap l xs) (hr:Sq m s.heap r ys) (ll:l < B) (rl:r < B) (sz:s.heap.objs.size=B + 5)
    (hN:N<=sizeLine) (hx:N<=xs.size) (hy:N<=ys.size) (he:xs.size<=N\/ys.size<=N)
    (q:∀ h' acc' c',h'.get? (B + 5)=some { cls:=.type "list",data:=.seq acc' c' }->acc'.size=N->(∀ i x y,i < N->xs[i]?=some x->ys[i]?=some y->acc'[i]?=some (.ref (B + 6 + i))/\IsPair h' (B + 6 + i) x y)->(∀ (b:Nat) o,b < B->s.heap.get? b=some o->h'.get? b=some o)->Q (.ref (B + 5)) { s with heap:=h' }) :
    wpAny (model P w) A (call (.type "list") [.ref (B + 4)]) Q E s:=by
  refine callType_codes (Q₁:=fun obj s₁=>obj=.ref (B + 5)/\s₁={ s with heap:=s.heap.push { cls:=.type "list",data:=.seq #[] } }) F.called_list (F.typeCall_list_1 _) F.entry_list_init (code_list_new _ ⟨by rw [sz],rfl⟩) ?_
  rintro obj s1 ⟨rfl,rfl⟩
  have l0:(s.heap.push { cls:=.type "list",data:=.seq #[] }).get? (B + 5)=some { cls:=.type "list",data:=.seq #[] }:=by
    rw [<- sz]
    exact Heap.get?_push_size _ rfl
  have z0:(s.heap.push { cls:=.type "list",data:=.seq #[] }).objs.size=B + 6:=by rw [Heap.size_push,sz]
  have up:∀ (b:Nat) o,s.heap.get? b=some o->(s.heap.push { cls:=.type "list",data:=.seq #[] }).get? b=some o:=fun b o e=>Heap.get?_push_of_some _ e
  generalize s.heap.push { cls:=.type "list",data:=.seq #[] }=h at l0 z0 up
  refine ⟨⟨_,l0,rfl⟩,F.args_list_init_2 _ _,?_⟩
  refine wpAny_bind (m:=Builtin.List.listItems (.ref (B + 5))) ?_
  unfold Builtin.List.listItems
  refine wpAny_bind (wpAny_seqItems l0 rfl (wpAny_pure ?_))
  refine wpAny_bind (m:=updateSeq (B + 5) (fun _=>#[])) (wpAny_updateSeq l0 rfl ?_)
  have l1:=Heap.get?_update_self (Obj.mapSeq (fun _=>(#[]:Array Value))) l0 rfl
  have u1:∀ (b:Nat) o,b≠B + 5->h.get? b=some o->(h.update (B + 5) (Obj.mapSeq (fun _=>(#[]:Array Value)))).get? b=some o:=fun b o n e=>(Heap.get?_update_other _ _ (Ne.symm n)).trans e
  have z1:(h.update (B + 5) (Obj.mapSeq (fun _=>(#[]:Array Value)))).objs.size=B + 6:=by rw [Heap.size_update,z0]
  refine wpAny_bind (wpAny_letGo ?_)
  show wpAny _ _ (Builtin.List.listExtendWith (.ref (B + 5)) (.ref (B + 4)) .none) _ _ _
  generalize h.update (B + 5) (Obj.mapSeq (fun _=>(#[]:Array Value)))=h1 at l1 u1 z1 ⊢
  replace up:∀ (b:Nat) o,b < B + 5->s.heap.get? b=some o->h1.get? b=some o:=fun b o n e=>u1 b o (by lia) (up b o e)
  have Z1:ZS k m h1 B l r 0 .none (.bool false):=Z.at fun b o h1 h2 e=>up b o (by lia) e
  unfold Builtin.List.listExtendWith
  refine wpAny_bind (wpAny_typeOf (T:="zip") ⟨_,Z1.z,rfl⟩ ?_)
  have n1:Builtin.List.listSameRef (.ref (B + 5)) (.ref (B + 4))=false:=by simp [Builtin.List.listSameRef]
  have n2:(Value.type "zip" == Value.type "list" || Value.type "zip" == Value.type "tuple")=false:=by decide
  rw [n1,Bool.false_or,n2,if_neg Bool.false_ne_true]
  refine wpAny_bind (wpAny_pyIter_zip Z1.z (wpAny_bind (wpAny_holding ?_)))
  unfold Builtin.List.listLengthHint
  refine wpAny_bind (wpAny_specialOf (T:="zip") ⟨_,Z1.z,rfl⟩ zip_len ?_)
  refine wpAny_bind (m:=specialOf (Value.ref (B + 4)) (Str.ofString "__length_hint__")) (wpAny_specialOf (T:="zip") ⟨_,Z1.z,rfl⟩ zip_hint (wpAny_pure ?_))
  refine wpAny_bind (m:=rule "list.extend.makes-room") (wpAny_rule (wpAny_bind ?_))
  refine wpAny_bind (m:=updateSeq (B + 5) (·.push .none)) (wpAny_updateSeq l1 rfl ?_)
  have l2:=Heap.get?_update_self (Obj.mapSeq (·.push Value.none)) l1 rfl
  refine wpAny_updateSeq (a:=B + 5) (f:=(·.pop)) (hz:=by seq_fits) l2 rfl ?_
  have l3:=Heap.get?_update_self (Obj.mapSeq (·.pop)) l2 rfl
  have u3:∀ (b:Nat) o,b≠B + 5->h1.get? b=some o->((h1.update (B + 5) (Obj.mapSeq (·.push Value.none))).update (B + 5) (Obj.mapSeq (·.pop))).get? b=some o:=fun b o n e=>(Heap.get?_update_other _ _ (Ne.symm n)).trans ((Heap.get?_update_other _ _ (Ne.symm n)).trans e)
  refine wpAny_pure ⟨plainId_quiet F.plain_extend_loop _,zip_loop (h0:=s.heap) (A:=A.in1) (acc:=#[]) hA ll rl hN hx hy he N 0 _ _ .none (.bool false) (by lia) ⟨Z1.at fun b o h1 h2 e=>u3 b o (by lia) e,.inl rfl,?_,?_,?_,l3,rfl,?_,?_⟩ ?_⟩
  · exact hl.at fun o e=>u3 _ o (by lia) (up _ o (by lia) e)
  · exact hr.at fun o e=>u3 _ o (by lia) (up _ o (by lia) e)
  · show (Heap.update (Heap.update _ _ _) _ _).objs.size=_
    rw [Heap.size_update,Heap.size_update,z1]
  · intro i x y hi
    lia
  · exact fun b o hb e=>u3 _ _ (by lia) (up _ _ (by lia) e)
  · exact fun h' acc' c' h1 h2 h3 h4=>⟨rfl,q h' acc' c' h1 h2 h3 h4⟩
end
theorem vals_refs (g:Nat->Nat):∀ l:List Nat,Vals (l.map fun i=>V.ref (g i)) (l.map fun i=>Value.ref (g i))
  | []=>.nil
  | i :: l=>.cons rfl (vals_refs g l)
def hpZ (H:Hp) (B N:Nat) (f:Nat->List V):Hp:=fun (b:Nat)=>if b=B + 5 then some (.lst ((List.range N).map fun i=>V.ref (B + 6 + i))) else if B + 6<=b/\b < B + 6 + N then some (.tup (f (b - (B + 6)))) else H b
theorem hpZ_old {H:Hp} {B N:Nat} {f:Nat->List V} {b:Nat} (h:b < B + 5):hpZ H B N f b=H b:=by
  unfold hpZ
  rw [if_neg (by lia),if_neg (by lia)]
theorem hpZ_lst {H:Hp} {B N:Nat} {f:Nat->List V}:hpZ H B N f (B + 5)=some (.lst ((List.range N).map fun i=>V.ref (B + 6 + i))):=if_pos rfl
theorem hpZ_tup {H:Hp} {B N:Nat} {f:Nat->List V} {i:Nat} (h:i < N):hpZ H B N f (B + 6 + i)=some (.tup (f i)):=by
  unfold hpZ
  rw [if_neg (by lia),if_pos (by lia)]
  rw [show B + 6 + i - (B + 6)=i by lia]
theorem Inv.zipped {X:Cx} {pins:List (Addr × Obj)} {σ:St} {H:Hp} {s:Shared} {h':Heap} {B N:Nat} {f:Nat->List V} {us:Nat->Array Value} {acc:Array Value} {c:Nat} (I:Inv X pins σ H s) (hB:s.heap.objs.size=B) (k:∀ (b:Nat) o,b < B->s.heap.get? b=some o->h'.get? b=some o)
    (hl:h'.get? (B + 5)=some { cls:=.type "list",data:=.seq acc c }) (hN:N<=sizeLine) (hs:acc.size=N) (ha:∀ i,i < N->acc[i]?=some (.ref (B + 6 + i))) (ht:∀ i,i < N->(f i).length<=sizeLine/\Vals (f i) (us i).toList/\h'.get? (B + 6 + i)=some { cls:=.type "tuple",data:=.seq (us i) }) :
    Inv X pins σ (hpZ H B N f) { s with heap:=h' }:=by
  have lt:∀ {b:Nat} {u},H b=some u->b < B:=fun e=>by rw [<- hB]; exact I.hok.lt e
  have lt':∀ {b:Nat} {o},s.heap.get? b=some o->b < B:=fun e=>by rw [<- hB]; exact Heap.lt_size e
  refine I.un (t':=s.toks) ⟨fun b o e _ _ _=>k b o (lt' e) e,fun b o e _ _ _=>⟨o.slots,k b o (lt' e) e⟩,fun b o e n _=>by rw [hpZ_old (by have:=lt' e; lia)]; exact n,fun b o e _=>⟨o,k b o (lt' e) e⟩,
    fun b xs e=>by rw [hpZ_old (by have:=lt e; lia)]; exact e,fun b u xs e=>by rw [hpZ_old (by have:=lt e; lia)]; exact e,fun b ps e=>⟨#[],by rw [hpZ_old (by have:=lt e; lia),e]; simp⟩⟩ fun (b:Nat) u e=>?_
  by_cases c1:b=B + 5
  · subst c1
    rw [hpZ_lst] at e
    cases e
    refine ⟨by simpa using hN,acc.toList,c,?_,by simpa using hl⟩
    have e2:acc.toList=(List.range N).map fun i=>Value.ref (B + 6 + i):=by
      apply List.ext_getElem?
      intro i
      by_cases hi:i < N
      · have:=ha i hi
        simp [hi]
        simpa using this
      · simp [hi]
        lia
    rw [e2]
    exact vals_refs _ _
  · by_cases c2:B + 6<=b/\b < B + 6 + N
    · obtain ⟨i,rfl⟩:∃ i,b=B + 6 + i:=⟨b - (B + 6),by lia⟩
      have hi:i < N:=by lia
      rw [hpZ_tup hi] at e
      cases e
      obtain ⟨t1,t2,t3⟩:=ht i hi
      exact ⟨t1,(us i).toList,t2,⟨_,t3,rfl,rfl,0,rfl⟩⟩
    · have e':H b=some u:=by
        unfold hpZ at e
        rw [if_neg c1,if_neg c2] at e
        exact e
      exact (I.hok b u e').stay (fun d v _ q=>k d v (lt' q) q) (fun d q=>by rw [hpZ_old (by have:=lt q; lia)]; exact q) fun d xs q=>by rw [hpZ_old (by have:=lt q; lia)]; exact q
def rZipL (K:PySem.W.Frag):List V->Hp->VK->Prop:=fun vs H Q=>∃ a b xs ys,vs=[.ref a,.ref b]/\(SqL K H a xs\/SqT K H a xs)/\(SqL K H b ys\/SqT K H b ys) /\
  ∀ (H':Hp) (p:Addr) (ps:List Addr),Same H H'->H p=none->H' p=some (.lst (ps.map V.ref))->ps.length=min xs.length ys.length->(∀ t∈ps,H t=none/\t≠p)->ps.Nodup->(∀ (i:Nat) x y,xs[i]?=some x->ys[i]?=some y->∃ t,ps[i]?=some t/\H' t=some (.tup [x,y]))->Q (.ref p) H'
def tZipL (K:PySem.W.Frag) (ta:TA):TE:=fun σ H Q=>ta σ H fun vs H1=>rZipL K vs H1 Q
theorem Inv.sq {X:Cx} {pins:List (Addr × Obj)} {σ:St} {H:Hp} {s:Shared} {a:Addr} {xs:List V} (I:Inv X pins σ H s) (h:SqL X.K H a xs\/SqT X.K H a xs):∃ (k:Bool) (its:List Value),Vals xs its/\Sq k s.heap a its.toArray/\xs.length<=sizeLine/\(a:Nat) < s.heap.objs.size:=by
  rcases h with h | h
  · obtain ⟨its,r,p,z⟩:=I.list h
    have ⟨o,n,e,_⟩:=p
    exact ⟨true,its,r,p.isList,z,Heap.lt_size e⟩
  · obtain ⟨its,r,p,z⟩:=I.tuple h
    have ⟨o,e,_⟩:=p
    exact ⟨false,its,r,p,z,Heap.lt_size e⟩
section
variable {X:Cx} {a b:Expr} {ta:TA} {p1 p2 pos1 pos2:Pos}
theorem pe_zipL (hc:X.calm=true) (hgL:Gl X "list") (hmL:X.mg "list"=none) (hgZ:Gl X "zip") (hmZ:X.mg "zip"=none) (ha:PA X [a,b] ta)
    (h1:starEach [a,b] X.env=[(false,eval a X.env),(false,eval b X.env)]:=by rfl) (h2:starEach [b] X.env=[(false,eval b X.env)]:=by rfl):PE X (.Call (.Name "list" p1) [.Call (.Name "zip" p2) [a,b] [] pos2] [] pos1) (tZipL X.K ta):=by
  intro pins s σ H Q I h
  refine Call_ (ld_blt I hgL hmL PyProof.Rows.boot_list (PyProof.Rows.callWith_type1 (Calls.spliced_cons (Call_ (ld_blt I hgZ hmZ boot_zip (PyProof.Rows.callWith_type1 (thn (ha pos2 pins s σ H _ I h) fun us s1 g=>?_) (by rw [h1,h2]) (by rw [h2]; rfl))))) rfl rfl))
  obtain ⟨vs,H1,I1,r1,a1,b1,xs,ys,rfl,hq1,hq2,q⟩:=g
  obtain ⟨u,u',rfl,e1,e2⟩:=vals2 r1
  cases e1
  cases e2
  obtain ⟨k1,i1,v1,q1,z1,l1⟩:=I1.sq hq1
  obtain ⟨k2,i2,v2,q2,z2,l2⟩:=I1.sq hq2
  refine zip_call q1 q2 fun h' Z sz kp=>Calls.spliced_nil ?_
  have hh:X.A.handled=none:=I1.ok.hd hc
  have n1:=v1.length
  have n2:=v2.length
  refine list_zip (s:={ s1 with heap:=h' }) (N:=min xs.length ys.length) hh Z (q1.at fun o=>kp _ o) (q2.at fun o=>kp _ o) l1 l2 sz (by lia) (by rw [List.size_toArray]; lia) (by rw [List.size_toArray]; lia) (by rw [List.size_toArray,List.size_toArray]; lia) fun h'' acc c hl hs hp ho=>?_
  have pairs:∀ i,i < min xs.length ys.length->∃ x y u v,xs[i]?=some x/\ys[i]?=some y/\i1[i]?=some u/\i2[i]?=some v/\RelV x u/\RelV y v:=fun i hi=>by
    have c1:i < xs.length:=by lia
    have c2:i < ys.length:=by lia
    obtain ⟨u,e1,r1⟩:=v1.get (List.getElem?_eq_getElem c1)
    obtain ⟨v,e2,r2⟩:=v2.get (List.getElem?_eq_getElem c2)
    exact ⟨_,_,u,v,List.getElem?_eq_getElem c1,List.getElem?_eq_getElem c2,e1,e2,r1,r2⟩
  have I2:Inv X pins σ (hpZ H1 s1.heap.objs.size (min xs.length ys.length) fun i=>[xs.getD i .non,ys.getD i .non]) { s1 with heap:=h'' }:=by
    refine I1.zipped (us:=fun i=>#[i1.getD i .none,i2.getD i .none]) (acc:=acc) (c:=c) rfl (fun b o hb e=>ho b o hb (kp _ _ e)) hl (by lia) hs (fun i hi=>?_) fun i hi=>?_
    · obtain ⟨x,y,u,v,_,_,e1,e2,_⟩:=pairs i hi
      exact (hp i u v hi (by simpa using e1) (by simpa using e2)).1
    · obtain ⟨x,y,u,v,f1,f2,e1,e2,r1,r2⟩:=pairs i hi
      refine ⟨by show 2<=sizeLine; decide,?_,?_⟩
      · rw [List.getD_eq_getElem?_getD,List.getD_eq_getElem?_getD,f1,f2]
        rw [List.getD_eq_getElem?_getD,List.getD_eq_getElem?_getD,e1,e2]
        exact .cons r1 (.cons r2 .nil)
      · rw [List.getD_eq_getElem?_getD,List.getD_eq_getElem?_getD,e1,e2]
        exact (hp i u v hi (by simpa using e1) (by simpa using e2)).2
  have old:∀ {c:Nat} {o},H1 c=some o->c < s1.heap.objs.size:=fun e=>I1.hok.lt e
  refine ⟨.ref (s1.heap.objs.size + 5),_,I2,rfl,q _ _ ((List.range (min xs.length ys.length)).map fun i=>s1.heap.objs.size + 6 + i) (fun c o e=>?_) (I1.hok.fresh (Nat.le_add_right _ _)) ?_ (by simp) ?_ ?_ ?_⟩
  · rw [hpZ_old (by have:=old e; lia)]
    exact e
  · rw [hpZ_lst,List.map_map]
    rfl
  · intro t ht
    obtain ⟨i,_,rfl⟩:=List.mem_map.mp ht
    refine ⟨I1.hok.fresh ?_,?_⟩
    · show s1.heap.objs.size<=s1.heap.objs.size + 6 + i
      lia
    · show s1.heap.objs.size + 6 + i≠s1.heap.objs.size + 5
      lia
  · refine List.Pairwise.map _ (fun i j (ne:i≠j) e=>ne ?_) List.nodup_range
    have e':s1.heap.objs.size + 6 + i=s1.heap.objs.size + 6 + j:=e
    exact Nat.add_left_cancel e'
  · intro i x y hx hy
    have c1:i < xs.length:=(List.getElem?_eq_some_iff.mp hx).1
    have c2:i < ys.length:=(List.getElem?_eq_some_iff.mp hy).1
    refine ⟨s1.heap.objs.size + 6 + i,?_,?_⟩
    · rw [List.getElem?_map,List.getElem?_range (by lia)]
      rfl
    · rw [hpZ_tup (by lia),List.getD_eq_getElem?_getD,List.getD_eq_getElem?_getD,hx,hy]
      rfl
theorem je_zipL (hc:X.calm=true) (hgL:Gl X "list") (hmL:X.mg "list"=none) (hgZ:Gl X "zip") (hmZ:X.mg "zip"=none) (ha:jA X [a,b] ta) (h1:isStar a=false:=by rfl) (h2:isStar b=false:=by rfl) :
    jE X (.Call (.Name "list" p1) [.Call (.Name "zip" p2) [a,b] [] pos2] [] pos1) (tZipL X.K ta):=⟨pe_zipL hc hgL hmL hgZ hmZ ha.out (by rw [star_cons h1,star_cons h2]; rfl) (by rw [star_cons h2]; rfl)⟩
end
end L2
namespace L2
open PySem PySem.Spec PyProof.Rows
def SqK (k:Bool) (K:PySem.W.Frag) (H:Hp) (a:Addr) (xs:List V):Prop:=match k with
  | true=>SqL K H a xs
  | false=>SqT K H a xs
theorem Inv.sqk {X:Cx} {pins:List (Addr × Obj)} {σ:St} {H:Hp} {s:Shared} {k:Bool} {a:Addr} {xs:List V} (I:Inv X pins σ H s) (h:SqK k X.K H a xs):∃ its:List Value,Vals xs its/\Sq k s.heap a its.toArray/\xs.length<=sizeLine/\(a:Nat) < s.heap.objs.size:=by
  cases k with
  | true =>
    obtain ⟨its,r,p,z⟩:=I.list h
    have ⟨o,n,e,_⟩:=p
    exact ⟨its,r,p.isList,z,Heap.lt_size e⟩
  | false =>
    obtain ⟨its,r,p,z⟩:=I.tuple h
    have ⟨o,e,_⟩:=p
    exact ⟨its,r,p,z,Heap.lt_size e⟩
theorem Inv.sqk_inj {X:Cx} {pins:List (Addr × Obj)} {σ:St} {H:Hp} {s:Shared} {k:Bool} {a:Addr} {xs ys:List V} (I:Inv X pins σ H s) (h:SqK k X.K H a xs) (h':SqK k X.K H a ys):xs=ys:=by
  cases k with
  | true=>exact I.list_inj h h'
  | false=>exact I.tuple_inj h h'
def Itz (K:PySem.W.Frag) (k m:Bool) (a b:Addr):It :=
  ⟨fun i H=>∃ xs ys x y,SqK k K H a xs/\SqK m K H b ys/\xs[i]?=some x/\ys[i]?=some y,
   fun i H v H'=>∃ T x y,v=.ref T/\H T=none/\H'=upd H T (.tup [x,y])/\(∀ xs,SqK k K H a xs->xs[i]?=some x)/\∀ ys,SqK m K H b ys->ys[i]?=some y,
   fun i H=>∃ xs ys,SqK k K H a xs/\SqK m K H b ys/\(xs.length<=i\/ys.length<=i)⟩
theorem KeptZ.of {B:Nat} {h h':Heap} (z:KeptZ B h h'):∀ (b:Nat) o,b ∉ [B,B + 1,B + 2,B + 3,B + 4]->h.get? b=some o->h'.get? b=some o:=fun b o n e=>z b o (by simp only [List.mem_cons,List.not_mem_nil,or_false,not_or] at n; lia) e
theorem zip_obj {k m:Bool} {h:Heap} {B l r n:Nat} {f g:Value} (Z:ZS k m h B l r n f g):∀ b∈[B,B + 1,B + 2,B + 3,B + 4],∃ o,h.get? b=some o/\∀ v,o.data≠.cell v:=by
  intro b hb
  simp only [List.mem_cons,List.not_mem_nil,or_false] at hb
  rcases hb with rfl | rfl | rfl | rfl | rfl
  · obtain ⟨o,e,_,d⟩:=Z.i.ex
    exact ⟨o,e,fun v z=>by rw [d] at z; cases z⟩
  · obtain ⟨o,e,_,d⟩:=Z.j.ex
    exact ⟨o,e,fun v z=>by rw [d] at z; cases z⟩
  · exact ⟨_,Z.ti,fun v z=>by cases z⟩
  · obtain ⟨x,y,e⟩:=Z.to
    exact ⟨_,e,fun v z=>by cases z⟩
  · exact ⟨_,Z.z,fun v z=>by cases z⟩
theorem turn_zip {P:Program} {w:World} {K:PySem.W.Frag} {elts:List Expr} {n:Nat} {pos:Pos} {k m:Bool} {a b:Addr} {B:Nat} (la:(a:Nat) < B) (lb:(b:Nat) < B) :
    Turn P w K (.Tuple elts n pos) (Itz K k m a b) [B,B + 1,B + 2,B + 3,B + 4] (B + 4) (fun i h=>ZS k m h B a b i .none (.bool false)) where
  mem:=by simp
  obj:=fun i h st=>zip_obj st
  keep:=fun i h h' st kp=>st.at fun c o h1 h2 e=>kp c (by
    have:c=B\/c=B + 1\/c=B + 2\/c=B + 3\/c=B + 4:=by lia
    simpa using this) o e
  item:=by
    intro X hP hw hK hc i pins s σ H E I hf st hg
    subst hP hw hK
    obtain ⟨xs,ys,x,y,h1,h2,hx,hy⟩:=hg
    obtain ⟨i1,v1,q1,z1,l1⟩:=I.sqk h1
    obtain ⟨i2,v2,q2,z2,l2⟩:=I.sqk h2
    obtain ⟨u,eu,ru⟩:=v1.get hx
    obtain ⟨v,ev,rv⟩:=v2.get hy
    have ty:s.TypeIs (.ref (B + 4)) "zip":=⟨_,st.z,rfl⟩
    unfold pyNext
    refine wpAny_bind (wpAny_attempt (wpAny_callSpecial?_slot ty F.slot_zip_next (wpAny_call_entry F.slot_zip_next ty F.entry_zip_next ?_ (F.args_zip_next_1 (.ref (B + 4))))))
    refine zip_free st q1 q2 la lb (by simpa using eu) (by simpa using ev) fun h' z p sz kz=>wpAny_pure ⟨_,rfl,?_⟩
    have new:ObjOk X.prog X.w (upd H s.heap.objs.size (.tup [x,y])) h' s.heap.objs.size (.tup [x,y]):=⟨by show 2<=sizeLine; decide,[u,v],.cons ru (.cons rv .nil),⟨_,p,rfl,rfl,_,rfl⟩⟩
    have I1:Inv X pins σ (upd H s.heap.objs.size (.tup [x,y])) { s with heap:=h' }:=I.turnsLaid (t':=s.toks) (ch:=[B,B + 1,B + 2,B + 3,B + 4]) kz.of hf (Nat.le_refl _) new
    have hn:∀ c∈[B,B + 1,B + 2,B + 3,B + 4],upd H s.heap.objs.size (.tup [x,y]) c=none:=fun c hc=>by
      obtain ⟨o,e,_⟩:=zip_obj st c hc
      rw [upd_ne (Nat.ne_of_lt (Heap.lt_size e))]
      exact (hf c hc).1
    have hf1:∀ c∈[B,B + 1,B + 2,B + 3,B + 4],FpOk X pins (upd H s.heap.objs.size (.tup [x,y])) c:=fun c hc=>⟨hn c hc,(hf c hc).2⟩
    refine wpAny_letOwnedTupleGo_zip z.z fun h3 z2 u2=>?_
    have I2:Inv X pins σ (upd H s.heap.objs.size (.tup [x,y])) { s with heap:=h3 }:=Inv.turns (s:={ s with heap:=h' }) (t':=s.toks) (ch:=[B,B + 1,B + 2,B + 3,B + 4]) I1 (fun c o hc e=>(u2.2 c fun z=>hc (by simp [z])).trans e) hf1
    refine ⟨.ref s.heap.objs.size,_,I2,rfl,⟨_,x,y,rfl,I.fresh,rfl,fun zs hz=>by rw [I.sqk_inj hz h1]; exact hx,fun zs hz=>by rw [I.sqk_inj hz h2]; exact hy⟩,?_,hn⟩
    have up:∀ (c:Nat) o,c≠B + 4->h'.get? c=some o->h3.get? c=some o:=fun c o n e=>(u2.2 c n).trans e
    exact ⟨z2,up _ _ (by lia) z.ti,let ⟨c,d,e⟩:=z.to; ⟨c,d,up _ _ (by lia) e⟩,z.i.at fun o e=>up _ _ (by lia) e,z.j.at fun o e=>up _ _ (by lia) e⟩
  done:=by
    intro X hP hw hK hc i pins s σ H E I hf st hg
    subst hP hw hK
    obtain ⟨xs,ys,h1,h2,hl⟩:=hg
    obtain ⟨i1,v1,q1,z1,l1⟩:=I.sqk h1
    obtain ⟨i2,v2,q2,z2,l2⟩:=I.sqk h2
    have n1:=v1.length
    have n2:=v2.length
    refine zip_stop (I.ok.hd hc) st (.inl rfl) q1 q2 la lb ?_ fun h' kz=>⟨rfl,I.turns (t':=s.toks) (ch:=[B,B + 1,B + 2,B + 3,B + 4]) kz.of hf⟩
    rcases hl with hl | hl
    · exact .inl (by simp; lia)
    · exact .inr (by simp; lia)
  self:=fun _ _ _ _ _ st h=>by
    have ty:Shared.TypeIs _ (.ref (B + 4)) "zip":=⟨_,st.z,rfl⟩
    exact wpAny_pyIter_slot ty F.slot_zip_iter (wpAny_call_entry F.slot_zip_iter ty F.entry_zip_iter (wpAny_pure ⟨_,rfl,"zip",_,ty,F.slot_zip_next.lookup,h⟩) (F.args_zip_iter_1 (.ref (B + 4))))
section
variable {X:Cx} {elts:List Expr} {n:Nat} {tpos:Pos}
def iZip (K:PySem.W.Frag) (ta:TA):TI:=fun σ H R=>ta σ H fun vs H1=>∃ a b k m xs ys,vs=[.ref a,.ref b]/\SqK k K H1 a xs/\SqK m K H1 b ys/\R (Itz K k m a b) H1
theorem pi_zip {a b:Expr} {ta:TA} {p pos:Pos} (hg:Gl X "zip") (hm:X.mg "zip"=none) (ha:PA X [a,b] ta) (h1:starEach [a,b] X.env=[(false,eval a X.env),(false,eval b X.env)]:=by rfl) (h2:starEach [b] X.env=[(false,eval b X.env)]:=by rfl) :
    PI X (.Tuple elts n tpos) (.Call (.Name "zip" p) [a,b] [] pos) (iZip X.K ta):=by
  intro pins s σ H R I h
  refine Call_ (ld_blt I hg hm boot_zip (PyProof.Rows.callWith_type1 (thn (ha pos pins s σ H _ I h) fun us s1 g=>?_) (by rw [h1,h2]) (by rw [h2]; rfl)))
  obtain ⟨vs,H1,I1,r1,a1,b1,k,m,xs,ys,rfl,g1,g2,q⟩:=g
  obtain ⟨u,u',rfl,e1,e2⟩:=vals2 r1
  cases e1
  cases e2
  obtain ⟨i1,v1,q1,z1,l1⟩:=I1.sqk g1
  obtain ⟨i2,v2,q2,z2,l2⟩:=I1.sqk g2
  refine zip_call q1 q2 fun h' Z sz kp=>?_
  have tz:=turn_zip (P:=X.prog) (w:=X.w) (K:=X.K) (elts:=elts) (n:=n) (pos:=tpos) (k:=k) (m:=m) l1 l2
  refine tz.self X.A 0 { s1 with heap:=h' } _ _ Z ⟨s1.heap.objs.size + 4,_,_,_,H1,rfl,I1.kept (t':=s1.toks) kp,tz,Z,fun c hc=>?_,q⟩
  have hc':c=s1.heap.objs.size\/c=s1.heap.objs.size + 1\/c=s1.heap.objs.size + 2\/c=s1.heap.objs.size + 3\/c=s1.heap.objs.size + 4:=by simpa using hc
  have le:s1.heap.objs.size<=c:=by
    rcases hc' with e | e | e | e | e <;> rw [e] <;> first | exact Nat.le_refl _ | exact Nat.le_add_right _ _
  exact I1.fpOk le (I1.hok.fresh le)
theorem ji_zip {a b:Expr} {t:TA} {p pos:Pos} (hg:Gl X "zip") (hm:X.mg "zip"=none) (ha:jA X [a,b] t) (h1:isStar a=false:=by rfl) (h2:isStar b=false:=by rfl):jI X (.Tuple elts n tpos) (.Call (.Name "zip" p) [a,b] [] pos) (iZip X.K t) :=
  ⟨pi_zip hg hm ha.out (by rw [star_cons h1,star_cons h2]; rfl) (by rw [star_cons h2]; rfl)⟩
end
end L2
namespace L2
open PySem PySem.Spec PyProof.Rows
structure Ca (P:Program) (w:World) (K:PySem.W.Frag) (mg:Str->Option Value) (base:Heap) (CX:CXT) (k:Nat) (x:Str) (ps:List Str) (sp:Sp):Prop where
  ex:∃ f fd,FnOk P w K mg base CX k f fd ps sp/\Binds K fd ps []/\PySem.W.keepIn K (.ref f)=true/\mg x=some (.ref f)
structure Me (P:Program) (w:World) (K:PySem.W.Frag) (mg:Str->Option Value) (base:Heap) (CX:CXT) (k:Nat) (C:Addr) (m:Str) (ps:List Str) (sp:Sp):Prop where
  ex:∃ f fd,FnOk P w K mg base CX k f fd ps sp/\Binds K fd ps []/\Meth K C m f
structure Ma (P:Program) (w:World) (K:PySem.W.Frag) (mg:Str->Option Value) (base:Heap) (CX:CXT) (k:Nat) (x:Str) (C:Addr) (ps:List Str) (sp:Sp):Prop where
  ex:∃ f fd,Mk K C f/\FnOk P w K mg base CX k f fd ps sp/\Binds K fd ps []/\mg x=some (.ref C)
structure Xa (P:Program) (w:World) (K:PySem.W.Frag) (mg:Str->Option Value) (base:Heap) (k:Nat) (x:Str) (C:Addr) (ps:List Str) (sp:Sp):Prop where
  ex:∃ f fd,XCl K C f/\FnOk P w K mg base CX0 k f fd ps sp/\Binds K fd ps []/\mg x=some (.ref C)
section
variable {P:Program} {w:World} {K:PySem.W.Frag} {mg:Str->Option Value} {base:Heap} {CX:CXT} {k j:Nat} {x m:Str} {C:Addr} {ps:List Str} {sp sp':Sp}
theorem Ca.mono (h:Ca P w K mg base CX j x ps sp) (l:j<=k):Ca P w K mg base CX k x ps sp:=let ⟨f,fd,a,r⟩:=h.ex; ⟨f,fd,a.mono l,r⟩
theorem Me.mono (h:Me P w K mg base CX j C m ps sp) (l:j<=k):Me P w K mg base CX k C m ps sp:=let ⟨f,fd,a,r⟩:=h.ex; ⟨f,fd,a.mono l,r⟩
end
section
variable {X:Cx} {CX:CXT} {k i:Nat} {C:Addr} {ps:List Str} {sp:Sp} {E:XK} {x m n f:Str} {p pos apos cpos np pos' epos hpos tpos:Pos} {e o a value:Expr} {es as:List Expr} {ta te tv to t1 t2:TE} {t:TA}
theorem je_ca (F:Ca X.prog X.w X.K X.mg X.base CX k x ps sp) (hr:Room k X.A) (hg:Gl X x) (hx:Passes CX X E) (ha:jA X (e :: es) t) (hdb:(x == ("__debug__":Str))=false:=by decide) (h1:isStar e=false:=by rfl) (h2:es.all (fun e=>!isStar e)=true:=by rfl) :
    jE X (.Call (.Name x p) (e :: es) [] pos) (tCall sp [] E t):=let ⟨_,_,G,b,kp,mg⟩:=F.ex; je_fn G hr hg mg kp b .nil hx ha hdb h1 h2
theorem je_ma (F:Ma X.prog X.w X.K X.mg X.base CX k x C ps sp) (hr:Room (k + 1) X.A) (hg:Gl X x) (hx:Passes CX X E) (ha:jA X (e :: es) t) (hdb:(x == ("__debug__":Str))=false:=by decide) (h1:isStar e=false:=by rfl) (h2:es.all (fun e=>!isStar e)=true:=by rfl) :
    jE X (.Call (.Name x p) (e :: es) [] pos) (tMake C sp [] E t):=let ⟨_,_,M,G,b,mg⟩:=F.ex; ⟨pe_make M G hr hg mg b .nil hx ha.out hdb (star_cons h1) (star_any h2)⟩
theorem je_fld (he:jE X e ta) (hb:attributeBase e f X.env (eval e X.env)=eval e X.env:=by rfl):jE X (.Attribute e f pos) (tFld X.K ta f):=⟨pe_fld he.out hb⟩
theorem js_fld (ha:jE X o ta) (hv:jE X value tv) (hs:swapsWith value (some (.Attribute o f pos')) pos.line X.env=pure false:=by rfl):jS X (.Assign [.Attribute o f pos'] value pos) (sFld X.K ta tv f):=⟨ps_fld ha.out hv.out hs⟩
end
theorem FnOk.no {P:Program} {w:World} {K:PySem.W.Frag} {mg:Str->Option Value} {base:Heap} {CX:CXT} {k:Nat} {f:Addr} {fd:FuncData} {ps:List Str}:FnOk P w K mg base CX k f fd ps (fun _ _ _ _=>False) :=
  ⟨fun _ _ _ _ h=>h.elim,fun _ _ _ _ _ _ _ _ _ _ _ _ _ h=>h.elim⟩
end L2
namespace L2
open PySem PySem.Spec PySem.Calls PyProof.Rows
section
variable {P:Program} {w:World} {A:Around} {E:Value->Shared->Prop} {s:Shared} {K:PySem.W.Frag}
end
section
variable {X:Cx} {e C:Addr} {oe:Obj} {ex:Expr} {te:TE} {name:Str} {pos:Pos} {f:Addr}
end
section
variable {X:Cx} {Ch:Addr} {x n:Str} {i k:Nat} {np hpos tpos:Pos} {b0:Stmt} {suite:List Stmt} {th:Addr->Obj->TS} {ps:List Str} {sp:Sp} {y:Str} {p cpos epos:Pos} {a:Expr} {as:List Expr} {t:TA}
end
end L2
namespace L2
open PySem PySem.Spec PyProof.Rows
section
variable {P:Program} {w:World} {A:Around} {E:Value->Shared->Prop}
theorem draws {j l:Addr} {xs:Array Value} (ne:l≠j):∀ (k i:Nat) (s:Shared) (Q:List Value->Shared->Prop),s.heap.IsListIter j l i->s.heap.IsList l xs->i + k<=xs.size ->
    (∀ h',h'.IsListIter j l (i + k)->Heap.SameBut j s.heap h'->Q ((xs.toList.drop i).take k) { s with heap:=h' })->wpAny (model P w) A (draw (.ref j) k) Q E s
  | 0,i,s,Q,hj,_,_,q=>wpAny_pure (by simpa using q s.heap hj (Heap.SameBut.refl ..))
  | k + 1,i,s,Q,hj,hl,le,q=>by
    have lt:i < xs.size:=by lia
    refine wpAny_bind (m:=pyNext (.ref j)) (wpAny_pyNext_list_item hj hl (Array.getElem?_eq_getElem lt) fun h1 j1 u1=>?_)
    refine wpAny_bind (wpAny_holding (draws ne k (i + 1) _ _ j1 (hl.extBut u1.extBut ne) (by lia) fun h2 j2 u2=>wpAny_pure ?_))
    have e:xs.toList.drop i=xs[i] :: xs.toList.drop (i + 1):=by simp [List.drop_eq_getElem_cons,lt]
    have r:=q h2 (by rw [show i + (k + 1)=i + 1 + k by lia]; exact j2) (u1.trans u2)
    rw [e,List.take_succ_cons] at r
    exact r
end
section
variable {X:Cx} {pos:Pos}
end
end L2
namespace L2
open PySem
theorem line0:sizeLine=16777216:=by decide
theorem rel_of_abs {u:Value} {x:V} (h:absV u=some x):RelV x u:=by
  cases u <;> first
    | (cases h; rfl)
    | (cases h; exact ⟨_,rfl⟩)
    | (cases h)
theorem vals_of_abs:∀ {us:List Value} {xs:List V},us.map absV=xs.map some->Vals xs us
  | [],[],_=>.nil
  | [],_ :: _,h=>by cases h
  | _ :: _,[],h=>by cases h
  | u :: us,x :: xs,h=>by
    rw [List.map_cons,List.map_cons] at h
    injection h with h1 h2
    exact .cons (rel_of_abs h1) (vals_of_abs h2)
def FnIn (K:PySem.W.Frag) (x qual:Str) (st:Stmt) (f:Addr):Prop:=∃ (oc:Value) (od:Option Addr) (kV doc pm:Value) (an:Option Addr) (cdv ct:Value) (osl:Array (Option Value)),K.lookup f=some ⟨oc,od,.func (PySem.W.fnOf x qual (defArgs st) (defBody st) (defScope st) .none kV doc pm an cdv ct),osl⟩/\PySem.W.codeIn K cdv qual=true/\PySem.W.keepIn K (.ref f)=true
theorem FnIn.fn {K:PySem.W.Frag} {x qual:Str} {st:Stmt} {f:Addr} (h:FnIn K x qual st f):∃ fd,Fun K x qual st f fd/\PySem.W.keepIn K (.ref f)=true:=by
  obtain ⟨_,_,_,_,_,_,_,_,_,l,c,k⟩:=h
  exact ⟨_,fun_mk l c k,k⟩
def DfIn (K:PySem.W.Frag) (x:Str) (st:Stmt):Prop:=∃ f,PySem.W.nsIn K mainGlobals x=some (some (.ref f))/\FnIn K x x st f
def MeIn (K:PySem.W.Frag) (C:Addr) (x qual:Str) (st:Stmt):Prop:=∃ f,PySem.W.findIn K (.ref C) x=some (some (.ref f))/\PySem.W.isFn K (.ref f)=true/\FnIn K x qual st f
def TpIn (K:PySem.W.Frag) (x:Str) (l:List Str):Prop:=∃ (a:Addr) (d:Option Addr) (it:Array Value) (n:Nat) (sl:Array (Option Value)),PySem.W.nsIn K mainGlobals x=some (some (.ref a))/\K.lookup a=some ⟨.type "tuple",d,.seq it n,sl⟩/\it.toList.map absV=l.map fun x=>some (.str x)
theorem TpIn.sq {K:PySem.W.Frag} {x:Str} {l:List Str} (h:TpIn K x l) (hl:l.length<=100):∃ a,PySem.W.nsIn K mainGlobals x=some (some (.ref a))/\∀ H:Hp,SqT K H a (l.map V.str):=by
  obtain ⟨a,d,it,n,sl,h1,h2,h3⟩:=h
  refine ⟨a,h1,fun H=>.inr ⟨_,it,n,h2,rfl,rfl,?_,vals_of_abs (by rw [h3,List.map_map]; rfl)⟩⟩
  have e:=congrArg List.length h3
  rw [List.length_map,List.length_map,Array.length_toList] at e
  have sl:=line0
  lia
theorem MeIn.ma {P:Program} {w:World} {K:PySem.W.Frag} {mg:Str->Option Value} {base:Heap} {CX:CXT} {k:Nat} {C:Addr} {x qual:Str} {st:Stmt} {ps:List Str} {sp:Sp} (h:MeIn K C "__init__" qual st) (hb:∀ (kV doc pm:Value) (an:Option Addr) (cdv ct:Value) (us:List Value),us.length=ps.length->bindArgs (PySem.W.fnOf "__init__" qual (defArgs st) (defBody st) (defScope st) .none kV doc pm an cdv ct) ⟨us,[]⟩=pure (ps.zip us))
    (mk:PySem.W.makesIn K C=true) (kp:PySem.W.keepIn K (.ref C)=true) (hm:mg x=some (.ref C)) (ok:∀ f fd,Fun K "__init__" qual st f fd->FnOk P w K mg base CX k f fd ps sp):Ma P w K mg base CX k x C ps sp:=by
  obtain ⟨f,a,n,g⟩:=h
  obtain ⟨fd,F,_⟩:=g.fn
  exact ⟨f,fd,⟨mk,a,n,kp⟩,ok f fd F,F.binds hb,hm⟩
theorem DfIn.ca {P:Program} {w:World} {K:PySem.W.Frag} {mg:Str->Option Value} {base h:Heap} {CX:CXT} {k:Nat} {x:Str} {st:Stmt} {ps:List Str} {sp:Sp} (X:K.In h) (G:h.Ns mainGlobals mg) (d:DfIn K x st) (hb:∀ (kV doc pm:Value) (an:Option Addr) (cdv ct:Value) (us:List Value),us.length=ps.length->bindArgs (PySem.W.fnOf x x (defArgs st) (defBody st) (defScope st) .none kV doc pm an cdv ct) ⟨us,[]⟩=pure (ps.zip us))
    (ok:∀ f fd,Fun K x x st f fd->FnOk P w K mg base CX k f fd ps sp):Ca P w K mg base CX k x ps sp:=by
  obtain ⟨f,a,g⟩:=d
  obtain ⟨fd,F,kp⟩:=g.fn
  exact ⟨f,fd,ok f fd F,F.binds hb,kp,PySem.W.mg_of X G a⟩
theorem DfIn.mk {K:PySem.W.Frag} {x:Str} {st:Stmt} {f:Addr} {oc:Value} {od:Option Addr} {kV doc pm:Value} {an:Option Addr} {cdv ct:Value} {osl:Array (Option Value)} (a:PySem.W.nsIn K mainGlobals x=some (some (.ref f))) (l:K.lookup f=some ⟨oc,od,.func (PySem.W.fnOf x x (defArgs st) (defBody st) (defScope st) .none kV doc pm an cdv ct),osl⟩) (c:PySem.W.codeIn K cdv x=true) (k:PySem.W.keepIn K (.ref f)=true):DfIn K x st:=⟨f,a,oc,od,kV,doc,pm,an,cdv,ct,osl,l,c,k⟩
theorem MeIn.mk {K:PySem.W.Frag} {C:Addr} {x qual:Str} {st:Stmt} {f:Addr} {oc:Value} {od:Option Addr} {kV doc pm:Value} {an:Option Addr} {cdv ct:Value} {osl:Array (Option Value)} (a:PySem.W.findIn K (.ref C) x=some (some (.ref f))) (l:K.lookup f=some ⟨oc,od,.func (PySem.W.fnOf x qual (defArgs st) (defBody st) (defScope st) .none kV doc pm an cdv ct),osl⟩) (c:PySem.W.codeIn K cdv qual=true) (k:PySem.W.keepIn K (.ref f)=true) (n:PySem.W.isFn K (.ref f)=true):MeIn K C x qual st:=⟨f,a,n,oc,od,kV,doc,pm,an,cdv,ct,osl,l,c,k⟩
theorem TpIn.mk {K:PySem.W.Frag} {x:Str} {l:List Str} {b:Addr} {d:Option Addr} {it:Array Value} {n:Nat} {sl:Array (Option Value)} (a:PySem.W.nsIn K mainGlobals x=some (some (.ref b))) (k:K.lookup b=some ⟨.type "tuple",d,.seq it n,sl⟩) (v:it.toList.map absV=l.map fun x=>some (.str x)):TpIn K x l:=⟨b,d,it,n,sl,a,k,v⟩
theorem GlIn.mk {K:PySem.W.Frag} {x:Str} {z:Str} {v:Value} {t:Tok} (a:PySem.W.nsIn K mainGlobals x=some (some v)) (e:v=.str z t):∃ t,PySem.W.nsIn K mainGlobals x=some (some (.str z t)):=⟨t,by rw [a,e]⟩
theorem GiIn.mk {K:PySem.W.Frag} {x:Str} {i:Int} {v:Value} {t:Tok} (a:PySem.W.nsIn K mainGlobals x=some (some v)) (e:v=.int i t):∃ t,PySem.W.nsIn K mainGlobals x=some (some (.int i t)):=⟨t,by rw [a,e]⟩
theorem XcIn.mk {K:PySem.W.Frag} {C f:Addr} (a:PySem.W.findIn K (.ref C) "__init__"=some (some (.ref f))) (b:xIn K C f=true) (c:PySem.W.typeIn K (.ref f)=some (.type "function")):∃ f,PySem.W.findIn K (.ref C) "__init__"=some (some (.ref f))/\xIn K C f=true/\PySem.W.typeIn K (.ref f)=some (.type "function"):=⟨f,a,b,c⟩
structure OwnIn (K:PySem.W.Frag) (x:Str) (C:Addr):Prop where
  n:PySem.W.nsIn K mainGlobals x=some (some (.ref C))
  pg:PySem.W.plainGet K C Str.empty=true
  hd:PySem.W.hasDictIn K C=true
  po:PySem.W.plainOver K C=true
  sa:PySem.W.findIn K (.ref C) "__setattr__"=some (some (.builtin "object.__setattr__"))
  mks:PySem.W.makesIn K C=true
  kp:PySem.W.keepIn K (.ref C)=true
theorem OwnIn.cls {K:PySem.W.Frag} {x:Str} {C:Addr} (o:OwnIn K x C):Cls K C:=⟨o.pg,o.hd,o.po,o.sa⟩
end L2
namespace L2
open PySem
theorem usS {n:Nat} {p:List Value->Prop} (h:∀ a us,us.length=n->p (a :: us)):∀ us:List Value,us.length=n + 1->p us:=fun us=>by
  cases us with
  | nil=>exact fun e=>by cases e
  | cons a r=>exact fun e=>h a r (Nat.succ.inj e)
theorem us1 {p:List Value->Prop} (h:∀ a,p [a]):∀ us:List Value,us.length=1->p us:=usS fun a us e=>by rw [List.length_eq_zero_iff.mp e]; exact h a
theorem us2 {p:List Value->Prop} (h:∀ a b,p [a,b]):∀ us:List Value,us.length=2->p us:=usS fun a=>us1 (p:=fun l=>p (a :: l)) (h a)
theorem us3 {p:List Value->Prop} (h:∀ a b c,p [a,b,c]):∀ us:List Value,us.length=3->p us:=usS fun a=>us2 (p:=fun l=>p (a :: l)) (h a)
theorem us4 {p:List Value->Prop} (h:∀ a b c d,p [a,b,c,d]):∀ us:List Value,us.length=4->p us:=usS fun a=>us3 (p:=fun l=>p (a :: l)) (h a)
theorem us5 {p:List Value->Prop} (h:∀ a b c d e,p [a,b,c,d,e]):∀ us:List Value,us.length=5->p us:=usS fun a=>us4 (p:=fun l=>p (a :: l)) (h a)
theorem us6 {p:List Value->Prop} (h:∀ a b c d e f,p [a,b,c,d,e,f]):∀ us:List Value,us.length=6->p us:=usS fun a=>us5 (p:=fun l=>p (a :: l)) (h a)
end L2
namespace L2
open PySem PySem.Spec PyProof.Rows
def BMn (mg:Str->Option Value) (h:Heap):Prop:=∃ bm ob,mg "__builtins__"=some (.ref bm)/\bm≠builtinsNs/\h.get? bm=some ob/\ob.cls=.type "module"/\ob.dict=some builtinsNs/\ob.data=.plain
theorem BMn.at {mg:Str->Option Value} {h:Heap} {P:Addr} {ps:Array Value} (B:BMn mg h) (g:h.Ns mainGlobals mg) (hP:h.get? P=some { cls:=.none,data:=.fields ps }):h.BuiltinsAt mg P/\mainGlobals≠P:=by
  obtain ⟨bm,ob,b1,b2,b3,b4,b5,b6⟩:=B
  refine ⟨⟨bm,ob,b1,b2,fun q=>?_,fun q=>?_,b3,b4,b5,b6⟩,fun q=>?_⟩
  · obtain ⟨o,es,ep,e,hd,_⟩:=g
    rw [q,e] at b3; cases b3; rw [hd] at b6; cases b6
  · rw [q,hP] at b3; cases b3; cases b4
  · obtain ⟨o,es,ep,e,hd,_⟩:=g
    rw [q,hP] at e; cases e; cases hd
theorem BMn.keeps {mg:Str->Option Value} {h h':Heap} (B:BMn mg h) (k:∀ b o,h.get? b=some o->h'.get? b=some o):BMn mg h' :=
  let ⟨bm,ob,b1,b2,b3,r⟩:=B; ⟨bm,ob,b1,b2,k _ _ b3,r⟩
end L2
namespace L2
open PySem PySem.Spec PyProof.Rows
theorem law_callTs {P:Program} {w:World} {K:PySem.W.Frag} {mg mb:Str->Option Value} {CX:CXT} {k:Nat} {fa a:Addr} {Ts:List Addr} {fd:FuncData} {x:Str} {sp:Sp} {s₁:Shared} {vs:List Value} {ns:List Int}
    (KX:K.In s₁.heap) (hT:∀ T∈Ts,s₁.heap.get? T=some { cls:=.none,data:=.fields #[] }) (hTK:∀ T∈Ts,K.lookup T=none) (hTc:∀ T∈Ts,isCodeTable s₁.heap T) (hns:s₁.heap.Ns mainGlobals mg) (hb:s₁.heap.Ns builtinsNs mb) (hbb:∀ x:Str,x≠"__name__"->mb x=bootBuiltins x) (hlim:s₁.heap.NoLimit) (hBM:BMn mg s₁.heap) (hg:s₁.gens=#[])
    (ha:s₁.heap.get? a=some { cls:=.type "list",data:=.seq vs.toArray }) (hi:IntsAre vs ns) (hl:ns.length<=sizeLine) (hr:Room k callerA)
    (F:∀ base:Heap,K.In base->base.Ns mainGlobals mg->BMn mg base->FnOk P w K mg base CX k fa fd [x] sp) (hbind:∀ (s:Shared) (u:Value),BindsTo s fd ⟨[u],[]⟩ [(x,u)])
    (hsp:∀ H:Hp,(∀ T∈Ts,H T=some (.tbl #[]))->SqL K H a (ns.map V.int)->sp [.ref a] H (fun v _=>v=.bl true) fun _ _ _=>False)
    (hCX:∀ H e s',CX [] H s₁ (fun _ _ _=>False) e s'->False) :
    codeAny (model P w) callerA (.call (.ref fa) ⟨[.ref a],[]⟩) (fun r s'=>r=.ok (.ret (.bool true))/\OldK s₁.heap s'.heap/\s'.os=s₁.os/\AllBare s'.gens) s₁:=by
  have rv:=vals_ints hi
  have lenV:=hi.length
  have nTa:a ∉ Ts:=fun e=>by rw [hT a e] at ha; cases ha
  have core:∀ H:Hp,(∀ b,H b=none\/(∃ o xs,H b=some (.frz o (.lst xs)))\/(b∈Ts/\H b=some (.tbl #[])))->(∀ T∈Ts,H T=some (.tbl #[]))->SqL K H a (ns.map V.int)->HOk P w H s₁.heap->(∀ b,H b≠none->b=a\/b∈Ts)->(H a≠none->K.lookup a=none) ->
      codeAny (model P w) callerA (.call (.ref fa) ⟨[.ref a],[]⟩) (fun r s'=>r=.ok (.ret (.bool true))/\OldK s₁.heap s'.heap/\s'.os=s₁.os/\AllBare s'.gens) s₁:=by
    intro H hO hHT hS hok hA hK
    have base_of:∀ {b:Addr} {o:Obj},s₁.heap.get? b=some o->H b=none->(hidT s₁.heap H).get? b=some o:=fun e n=>hidT_get e n
    have noA:∀ {b:Addr} {o:Obj} {es:Array DictEntry} {ep:Nat},s₁.heap.get? b=some o->o.data=.dict es ep->H b=none:=fun {b o es ep} e d=>by
      cases q:H b with
      | none=>rfl
      | some u =>
        rcases hA b (by rw [q]; simp) with e' | e'
        · subst e'
          rw [ha] at e; cases e
          have d':Data.seq vs.toArray _=Data.dict es ep:=d
          cases d'
        · rw [hT b e'] at e; cases e
          have d':Data.fields #[]=Data.dict es ep:=d
          cases d'
    have nsK:∀ {b:Addr} {m:Str->Option Value},s₁.heap.Ns b m->(hidT s₁.heap H).Ns b m:=fun {b m} ⟨o,es,ep,e,d,r⟩=>⟨o,es,ep,base_of e (noA e d),d,r⟩
    have hBb:BMn mg (hidT s₁.heap H):=by
      obtain ⟨bm,ob,b1,b2,b3,b4,b5,b6⟩:=hBM
      refine ⟨bm,ob,b1,b2,base_of b3 ?_,b4,b5,b6⟩
      cases q:H bm with
      | none=>rfl
      | some u =>
        rcases hA bm (by rw [q]; simp) with e' | e'
        · subst e'
          rw [ha] at b3; cases b3; cases b6
        · rw [hT bm e'] at b3; cases b3; cases b6
    have hKb:K.In (hidT s₁.heap H):=fun b o e=>base_of (KX b o e) (by
      cases q:H b with
      | none=>rfl
      | some u =>
        rcases hA b (by rw [q]; simp) with e' | e'
        · subst e'
          rw [hK (by rw [q]; simp)] at e; cases e
        · rw [hTK b e'] at e; cases e)
    have hM:Mod K mg (hidT s₁.heap H):=⟨hKb,nsK hns,⟨mb,nsK hb,hbb⟩,let ⟨mc,h1,h2⟩:=hlim; ⟨mc,nsK h1,h2⟩⟩
    have e0:Env0 P w K mg (hidT s₁.heap H) callerA [] s₁ H:=⟨rfl,hM,fun b o e=>of_hidT e,Nat.le_of_eq (hidT_size _ _),trivial,fun b hb=>absurd (show b∈([]:List Addr) from hb) (by simp),hok,.of_eq hg⟩
    refine codeAny_mono ((F _ hKb (nsK hns) hBb).run callerA [] s₁ H ⟨[.ref a],[]⟩ [.ref a] [.ref a] _ _ hr e0 (hbind s₁ (.ref a)) (.cons rfl .nil) (hsp H hHT hS)) fun r s' h=>?_
    cases r with
    | error e=>exact (hCX H e s' h).elim
    | ok fl =>
      cases fl with
      | next=>exact False.elim h
      | brk=>exact False.elim h
      | cont=>exact False.elim h
      | ret u =>
        obtain ⟨v,H',os,bare,un,hok',r',q⟩:=h
        have q':v=.bl true:=q
        subst q'
        obtain rfl:u=Value.bool true:=r'
        refine ⟨rfl,⟨fun b o e=>?_,fun b o e=>un.there b o e (by simp)⟩,os,bare⟩
        cases q:H b with
        | none=>exact .inl (un.keep b o e q (by intro z; exact absurd (show b∈([]:List Addr) from z) (by simp)) (by simp))
        | some u =>
          rcases hO b with z | ⟨ob,xs,z⟩ | ⟨zm,z⟩
          · rw [q] at z; cases z
          · have z2:=un.frzs b ob _ z
            obtain ⟨e1,_⟩:=hok b _ z
            obtain ⟨e2,_⟩:=hok' b _ z2
            rw [e] at e1; cases e1
            exact .inl e2
          · obtain ⟨more,z2⟩:=un.tbls b _ z
            have e2:s'.heap.get? b=some { cls:=.none,data:=.fields (#[] ++ more) }:=hok' b _ z2
            rw [hT b zm] at e; cases e
            exact .inr (.inl ⟨hTc b zm,rfl,#[],more,rfl,e2⟩)
  cases hk:K.lookup a with
  | some o =>
    have e:=KX a o hk
    rw [ha] at e
    cases e
    refine core (fun b=>if b∈Ts then some (.tbl #[]) else none) (fun b=>?_) (fun T hT=>if_pos hT) (.inr ⟨_,vs.toArray,_,hk,rfl,rfl,rfl,by rw [List.size_toArray,lenV]; exact hl,by simpa using rv⟩) (fun b u z=>?_) (fun b z=>?_) fun z=>absurd (if_neg nTa) z
    · by_cases hb:b∈Ts
      · exact .inr (.inr ⟨hb,if_pos hb⟩)
      · exact .inl (if_neg hb)
    · by_cases hb:b∈Ts
      · have z':=(if_pos hb).symm.trans z
        cases z'
        exact hT b hb
      · have z':=(if_neg hb).symm.trans z
        cases z'
    · by_cases hb:b∈Ts
      · exact .inr hb
      · exact absurd (if_neg hb) z
  | none =>
    refine core (fun b=>if b∈Ts then some (.tbl #[]) else if b=a then some (.frz { cls:=.type "list",data:=.seq vs.toArray } (.lst (ns.map V.int))) else none) (fun b=>?_) (fun T hT=>if_pos hT) (.inl (.inr ⟨{ cls:=.type "list",data:=.seq vs.toArray },(if_neg nTa).trans (if_pos rfl)⟩)) (fun b u z=>?_) (fun b z=>?_) fun _=>hk
    · by_cases hb:b∈Ts
      · exact .inr (.inr ⟨hb,if_pos hb⟩)
      · by_cases hb2:b=a
        · exact .inr (.inl ⟨_,_,(if_neg hb).trans (if_pos hb2)⟩)
        · exact .inl ((if_neg hb).trans (if_neg hb2))
    · by_cases hb:b∈Ts
      · have z':=(if_pos hb).symm.trans z
        cases z'
        exact hT b hb
      · by_cases hb2:b=a
        · have z':some (HO.frz { cls:=.type "list",data:=.seq vs.toArray } (.lst (ns.map V.int)))=some u:=((if_neg hb).trans (if_pos hb2)).symm.trans z
          cases z'
          subst hb2
          exact ⟨ha,by rw [List.length_map]; exact hl,vs,_,rv,ha⟩
        · have z':none=some u:=((if_neg hb).trans (if_neg hb2)).symm.trans z
          cases z'
    · by_cases hb:b∈Ts
      · exact .inr hb
      · by_cases hb2:b=a
        · exact .inl hb2
        · exact absurd ((if_neg hb).trans (if_neg hb2)) z
def spTopTs (K:PySem.W.Frag) (Ts:List Addr):Sp:=fun vs H Q _=>∃ (a:Addr) (ns:List Int),vs=[.ref a]/\SqL K H a (ns.map V.int)/\ns.length<=63/\(∀ T∈Ts,H T=some (.tbl #[]))/\∀ H',Q (.bl true) H'
theorem law_inTs {l:PySem.W.OpenLaw} {w:World} {K:PySem.W.Frag} {h:Heap} {mg:Str->Option Value} {fa:Addr} {Ts:List Addr} {st:Stmt} {k:Nat} (d:DfIn K "law" st) (X:K.In h) (G:h.Ns mainGlobals mg) (hfa:mg "law"=some (.ref fa))
    (hb:∀ (kV doc pm:Value) (an:Option Addr) (cdv ct:Value) (s:Shared) (u:Value),BindsTo s (PySem.W.fnOf "law" "law" (defArgs st) (defBody st) (defScope st) .none kV doc pm an cdv ct) ⟨[u],[]⟩ [("_law_script",u)])
    (ok:∀ (base:Heap) (fd:FuncData),BMn mg base->Fun K "law" "law" st fa fd->FnOk l.prog w K mg base CX0 k fa fd ["_law_script"] (spTopTs K Ts)) :
    ∃ fd:FuncData,(∀ (s:Shared) (u:Value),BindsTo s fd ⟨[u],[]⟩ [("_law_script",u)])/\∀ base:Heap,K.In base->base.Ns mainGlobals mg->BMn mg base->FnOk l.prog w K mg base CX0 k fa fd ["_law_script"] (spTopTs K Ts):=by
  obtain ⟨fl,al,oc,od,kV,doc,pm,an,cdv,ct,osl,lk,cc,kk⟩:=d
  have e:fl=fa:=by
    have:=PySem.W.mg_of X G al
    rw [hfa] at this
    injection this with this
    injection this with this
    exact this.symm
  subst e
  exact ⟨_,fun s v=>hb _ _ _ _ _ _ s v,fun base _ _ B=>ok base _ B (fun_mk (st:=st) lk cc kk)⟩
theorem walkTs {l:PySem.W.OpenLaw} {q:Program} {loose:List Str} {XP:(Str->Option Value)->Heap->Prop} {d:DefRec} {K:Params->PySem.W.Frag} {as:List Addr} {e:∀ p,as=(K p).map (·.1)} {Ts:List Addr} {k:Nat} (hn:l.most=some 63) (hr:Room k callerA) (hdf:d.params.defaults=[]) (hnm:d.name="law")
    (hc:∀ p,∀ T∈Ts,∃ c,PySem.W.codeHdIn (K p) c T=true) (hTK:∀ p,∀ T∈Ts,(K p).lookup T=none)
    (F:∀ (w:World) (mg:Str->Option Value) (fa:Addr) (h:Heap),(K w.params).In h->h.Ns mainGlobals mg->mg "law"=some (.ref fa)->∃ fd:FuncData,(∀ (s:Shared) (u:Value),BindsTo s fd ⟨[u],[]⟩ [("_law_script",u)])/\∀ base:Heap,(K w.params).In base->base.Ns mainGlobals mg->BMn mg base->FnOk l.prog w (K w.params) mg base CX0 k fa fd ["_law_script"] (spTopTs (K w.params) Ts)) :
    PySem.W.WalkO q loose XP (PySem.W.kmHook K as e Ts).says l.row.toRowW d [] (fun f vs=>PySem.call f vs):=by
  refine Att.attach_call hn hdf fun w s₀ s₁ mg mb fa o pm cd doc a vs ns G Y ho hd hcd hmg hobj hints hlen hg=>?_
  have KX:=PySem.W.km_in_of Y
  have hT:∀ T∈Ts,_:=fun T hm=>PySem.W.km_tabs_of Y T hm
  obtain ⟨fd,hb,hF⟩:=F w mg fa _ KX G.T.g (by rw [hnm] at hmg; exact hmg)
  have hTc:∀ T∈Ts,isCodeTable s₁.heap T:=fun T hm=>by
    obtain ⟨c,hc⟩:=hc w.params T hm
    obtain ⟨o1,vs1,_,_,_,_,_,_,_,c1,c2,c3,c4,_⟩:=PySem.W.codeHd_of_K KX hc
    exact ⟨c,o1,vs1,c1,c2,c3,c4⟩
  exact law_callTs KX hT (hTK w.params) hTc G.T.g G.T.b G.T.builtins G.T.nolimit G.T.bmain hg hobj hints (Nat.le_trans hlen (by decide)) hr hF hb (fun H hO hS=>⟨a,ns,rfl,hS,hlen,hO,fun _=>rfl⟩) fun _ _ _ z=>z
end L2
namespace L2
open PySem PySem.Spec PyProof.Rows
def Itv (K:PySem.W.Frag) (a:Addr) (n:Nat):It :=
  ⟨fun i H=>i < n/\∃ xs x,SqL K H a xs/\xs[n - 1 - i]?=some x,fun i H x H'=>H'=H/\∀ xs,SqL K H a xs->xs[n - 1 - i]?=some x,fun i _=>n<=i⟩
theorem turn_rev {P:Program} {w:World} {K:PySem.W.Frag} {tg:Expr} (a it:Addr) (n:Nat):Turn P w K tg (Itv K a n) [it] it (fun i h=>i<=n/\h.IsRevIter it a ((n:Int) - 1 - (i:Nat))) where
  mem:=by simp
  obj:=fun i h st b hb=>by
    have e:b=it:=by simpa using hb
    subst e
    obtain ⟨_,o,e,c,d⟩:=st
    exact ⟨o,e,fun v z=>by rw [d] at z; cases z⟩
  keep:=fun i h h' st k=>⟨st.1,st.2.at fun o e=>k it (by simp) o e⟩
  item:=by
    intro X hP hw hK hc i pins s σ H E I hf st hg
    subst hP hw hK
    obtain ⟨hi,xs,x,hq,hx⟩:=hg
    obtain ⟨its,rv,p,hz⟩:=I.list hq
    obtain ⟨u,hu,ru⟩:=rv.get hx
    obtain ⟨f0,f1,f2,f3,f4,f5⟩:=hf it (by simp)
    obtain ⟨_,st2⟩:=st
    have e1:(n:Int) - 1 - (i:Nat)=((n - 1 - i:Nat):Int):=by lia
    rw [e1] at st2
    refine wpAny_pyNext_rev_item st2 p.isList (x:=u) (by simpa using hu) fun h' st' sb=>?_
    have I1:Inv X pins σ H { s with heap:=h' }:=I.turned (t':=s.toks) (fun b o hb e=>(sb.2 b hb).trans e) f0 f1 f3 f4 f5
    obtain ⟨o,e,c,d⟩:=id st'
    refine ⟨u,rfl,go_of (s:={ s with heap:=h' }) e c d (by decide) ⟨x,H,I1,ru,⟨rfl,fun ys hy=>by rw [I.list_inj hy hq]; exact hx⟩,⟨hi,?_⟩,fun b hb=>(hf b hb).1⟩⟩
    have e2:(n:Int) - 1 - ((i + 1:Nat):Int)=((n - 1 - i:Nat):Int) - 1:=by lia
    rw [e2]
    exact st'
  done:=by
    intro X hP hw hK hc i pins s σ H E I hf st hg
    subst hP hw hK
    obtain ⟨f0,f1,f2,f3,f4,f5⟩:=hf it (by simp)
    obtain ⟨h1,st2⟩:=st
    have h2:n<=i:=hg
    have e1:(n:Int) - 1 - (i:Nat)=-1:=by lia
    rw [e1] at st2
    exact wpAny_pyNext_rev_end (I.ok.hd hc) st2 fun h' eb=>⟨rfl,I.turned (t':=s.toks) (fun b o hb e=>eb b o hb e) f0 f1 f3 f4 f5⟩
  self:=fun _ _ _ _ _ st h=>wpAny_pyIter_revIter st.2 h
section
variable {X:Cx} {tg:Expr}
def iRev (K:PySem.W.Frag) (ta:TA):TI:=fun σ H R=>ta σ H fun vs H1=>∃ a xs,vs=[.ref a]/\SqL K H1 a xs/\R (Itv K a xs.length) H1
theorem pi_rev {a:Expr} {ta:TA} {p pos:Pos} (hg:Gl X "reversed") (hm:X.mg "reversed"=none) (ha:PA X [a] ta) (hs:starEach [a] X.env=[(false,eval a X.env)]:=by rfl):PI X tg (.Call (.Name "reversed" p) [a] [] pos) (iRev X.K ta):=by
  intro pins s σ H R I h
  refine Call_ (ld_blt I hg hm boot_reversed (PyProof.Rows.callWith_type1 (thn (ha pos pins s σ H _ I h) fun us s1 ⟨vs,H1,I1,r1,q1⟩=>?_) hs rfl))
  obtain ⟨l,xs,e,hq,q⟩:=q1
  subst e
  obtain ⟨u,rfl,rx⟩:=vals1 r1
  cases rx
  obtain ⟨its,rv,pl,hz⟩:=I1.list hq
  have hl:=rv.length
  refine call_reversed_list pl.isList ?_
  have hr:(s1.heap.push (revObj l ((its.toArray.size:Int) - 1))).IsRevIter s1.heap.objs.size l ((its.toArray.size:Int) - 1):=⟨_,Heap.get?_push_size _ rfl,rfl,rfl⟩
  refine wpAny_pyIter_revIter (s:={ s1 with heap:=s1.heap.push (revObj l ((its.toArray.size:Int) - 1)) }) hr ?_
  refine ⟨s1.heap.objs.size,[s1.heap.objs.size],_,_,H1,rfl,I1.kept (t':=s1.toks) fun b o e=>Heap.get?_push_of_some _ e,turn_rev l _ xs.length,⟨Nat.zero_le _,?_⟩,fun b hb=>?_,q⟩
  · have e:(xs.length:Int) - 1 - ((0:Nat):Int)=(its.toArray.size:Int) - 1:=by simp [hl]
    rw [e]
    exact hr
  have e:b=s1.heap.objs.size:=by simpa using hb
  subst e
  exact I1.fpOk (Nat.le_refl _) (I1.hok.fresh (Nat.le_refl _))
theorem ji_rev {a:Expr} {t:TA} {p pos:Pos} (hg:Gl X "reversed") (hm:X.mg "reversed"=none) (ha:jA X [a] t) (h:isStar a=false:=by rfl):jI X tg (.Call (.Name "reversed" p) [a] [] pos) (iRev X.K t):=⟨pi_rev hg hm ha.out (star_cons h)⟩
end
theorem for_rev {K:PySem.W.Frag} {a:Addr} {xs:List V} {g:TG} {tb:TS} {D:Ends} {σ:St} {H:Hp} (Pv:Nat->St->Hp->Prop) (h0:Pv 0 σ H) (hl:∀ i σ H,i<=xs.length->Pv i σ H->SqL K H a xs)
    (hs:∀ i x σ H,xs.reverse[i]?=some x->Pv i σ H->g x σ H fun σ2 H2=>tb { D with nx:=Pv (i + 1),ct:=Pv (i + 1),bk:=D.nx } σ2 H2) (hd:∀ σ H,Pv xs.length σ H->D.nx σ H) :
    ∃ W:Nat->Nat->St->Hp->Prop,(∃ m,W 0 m σ H)/\∀ i m σ H,W i m σ H ->
      ((Itv K a xs.length).stop i H/\D.nx σ H)\/((Itv K a xs.length).go i H/\∃ N:St->Hp->Prop,(∀ σ' H',N σ' H'->∃ m',m' < m/\W (i + 1) m' σ' H')/\∀ x H',(Itv K a xs.length).yld i H x H'->g x σ H' fun σ2 H2=>tb { D with nx:=N,ct:=N,bk:=D.nx } σ2 H2):=by
  refine ⟨fun i m σ H=>m=xs.length - i/\i<=xs.length/\Pv i σ H,⟨xs.length,by simp,Nat.zero_le _,h0⟩,?_⟩
  rintro i m σ H ⟨rfl,hi,p⟩
  have q:=hl i σ H hi p
  by_cases hlt:i < xs.length
  · refine .inr ⟨⟨hlt,xs,xs[xs.length - 1 - i],q,by rw [List.getElem?_eq_getElem]⟩,Pv (i + 1),fun σ' H' p'=>⟨xs.length - (i + 1),by lia,rfl,hlt,p'⟩,fun x H' y=>?_⟩
    obtain ⟨e,y⟩:=y
    subst e
    refine hs i x σ _ ?_ p
    rw [List.getElem?_reverse hlt]
    exact y xs q
  · have e:i=xs.length:=by lia
    subst e
    exact .inl ⟨Nat.le_refl _,hd σ H p⟩
section
variable {g:TG} {tt:TT} {te:TE} {Q:VK} {σ:St} {H:Hp}
theorem lc_tup {K:PySem.W.Frag} {a:Addr} {xs:List V} (Pv:Nat->St->List V->Hp->Prop) (h0:Pv 0 σ [] H) (hl:∀ i τ ys H,i<=xs.length->Pv i τ ys H->SqT K H a xs)
    (hs:∀ i x τ ys H,xs[i]?=some x->Pv i τ ys H->g x τ H fun τ2 H2=>tt τ2 H2 fun b H3=>if b=true then te τ2 H3 fun y H4=>ys.length < sizeLine/\Pv (i + 1) τ2 (ys ++ [y]) H4 else Pv (i + 1) τ2 ys H3)
    (hd:∀ τ ys H,Pv xs.length τ ys H->∀ p,H p=none->Q (.ref p) (upd H p (.lst ys))):∃ W,(∃ m,W 0 m σ [] H)/\lcBy (Itt K a) g tt te Q W:=by
  refine ⟨fun i m τ ys H=>m=xs.length - i/\i<=xs.length/\Pv i τ ys H,⟨xs.length,by simp,Nat.zero_le _,h0⟩,?_⟩
  rintro i m τ ys H ⟨rfl,hi,p⟩
  have q:=hl i τ ys H hi p
  by_cases hlt:i < xs.length
  · refine .inr ⟨⟨xs,xs[i],q,by simp [hlt]⟩,Pv (i + 1),fun τ' ys' H' p'=>⟨xs.length - (i + 1),by lia,rfl,hlt,p'⟩,fun x H' y=>?_⟩
    obtain ⟨e,y⟩:=y
    subst e
    exact hs i x τ ys _ (y xs q) p
  · have e:i=xs.length:=by lia
    subst e
    exact .inl ⟨⟨xs,q,Nat.le_refl _⟩,hd τ ys H p⟩
end
theorem old {H:Hp} {p q:Addr} {o u:HO} (hp:H p=none) (h:H q=some u):upd H p o q=some u:=by rw [upd_ne (ne_of_none h hp)]; exact h
theorem Same.new {H H1:Hp} {p:Addr} {o:HO} (s:Same H H1) (hp:H1 p=none):Same H (upd H1 p o):=fun b u q=>old hp (s b u q)
theorem Same.put {H H1:Hp} {p:Addr} {o:HO} (s:Same H H1) (hp:H p=none):Same H (upd H1 p o):=fun b u q=>by rw [upd_ne (ne_of_none q hp)]; exact s b u q
end L2
namespace L2
open PySem PySem.Spec PyProof.Rows
section
variable {X:Cx}
end
section
variable {X:Cx}
end
end L2
namespace L2
open PySem PySem.Spec PyProof.Rows
end L2
namespace L2
open PySem PySem.Spec PyProof.Rows
section
variable (P:Program) (w:World)
end
section
variable {P:Program} {w:World} {H H':Hp} {h h':Heap} {a:Addr} {o:HO}
end
section
variable {P:Program} {w:World} {H:Hp} {h h':Heap} {x e:Addr} {o':HO}
end
section
variable {fs fs' ex ex':List Addr} {H H1 H2:Hp} {h h1 h2 h':Heap} {a x e:Addr} {o:HO}
end
end L2
namespace L2
open PySem PySem.Spec PyProof.Rows
section
variable {X:Cx} {pins:List (Addr × Obj)} {σ:List (Option V)} {H H':Hp} {s:Shared} {h':Heap}
end
end L2
namespace L2
open PySem PySem.Spec PyProof.Rows
section
variable {X:Cx}
variable {a b:Expr} {ta tb:TE} {pos:Pos}
variable {tA tB':TT} {rest:List Expr}
end
end L2
namespace L2
open PySem PySem.Spec PyProof.Rows
section
variable {X:Cx} {pins:List (Addr × Obj)} {σ:St} {H:Hp} {s:Shared} {a:Addr} {xs ys:List V}
end
section
variable {X:Cx} {pins:List (Addr × Obj)} {σ:St} {H:Hp} {s:Shared} {E:Value->Shared->Prop}
end
section
variable {X:Cx} {st:Stmt} {rest:List Stmt} {t u:TS} {e:Expr} {te:TE} {pos:Pos}
end
section
variable {X:Cx} {pos:Pos}
end
section
variable {X:Cx} {pos:Pos}
end
end L2
namespace L2
open PySem PySem.Spec PyProof.Rows
section
variable {X:Cx} {tg:Expr}
end
end L2
namespace L2
open PySem PySem.Spec PyProof.Rows
section
variable {X:Cx} {a b c:Expr} {ta tb tc:TE} {pos:Pos}
end
section
variable {X:Cx} {a b c:Expr} {ta tb tc:TE} {pos:Pos}
end
end L2
namespace L2
open PySem PySem.Spec PyProof.Rows
section
variable {prog:Program} {w:World} {A:Around} {E:Value->Shared->Prop} {s:Shared} {K:PySem.W.Frag} {x dx C f:Addr} {mA:Str->Option Value} {name:Str} {v:Value}
end
section
variable {P:Program} {w:World} {H H':Hp} {h h':Heap} {a C dx:Addr} {fs fs':List (Str × V)}
end
section
variable {X:Cx} {pins:List (Addr × Obj)} {σ:St} {H:Hp} {s:Shared} {a C dx:Addr} {fs:List (Str × V)} {f:Str} {v:V} {A:Around} {E:Value->Shared->Prop}
end
section
variable {X:Cx} {o e value:Expr} {f:Str} {pos pos' tpos:Pos} {ta tv:TE}
end
section
variable {X:Cx} {pins:List (Addr × Obj)} {σ:St} {H:Hp} {s:Shared} {A:Around} {E:Value->Shared->Prop} {Q:Value->Shared->Prop} {c:Value} {b:Bool}
end
end L2
namespace L2
open PySem PySem.Spec PyProof.Rows
section
variable {X:Cx} {e:Expr} {es:List Expr} {te:TE} {t:TA} {pos:Pos}
end
section
variable {X:Cx} {pins:List (Addr × Obj)} {σ:St} {H:Hp} {s s':Shared}
end
section
variable {X:Cx} {CX:CXT} {k:Nat} {f C:Addr} {fd:FuncData} {ps:List Str} {sp:Sp} {dvs:List V} {ds:List Value} {E:XK} {x m:Str} {p pos apos:Pos} {e o:Expr} {es:List Expr} {ta:TE} {t:TA}
end
section
variable {X:Cx} {CX:CXT} {k:Nat} {f C:Addr} {fd:FuncData} {ps ks:List Str} {sp:Sp} {E:XK} {x m:Str} {p pos apos kpos:Pos} {e o:Expr} {es:List Expr} {kws:List Keyword} {te ta:TE} {t tk:TA} {nm:Option Str}
variable {g:List Value->List Value->List Value} {gV:List V->List V->List V}
end
end L2
namespace L2
open PySem PySem.Spec PyProof.Rows
section
variable {X:Cx} {x:Str} {p pos:Pos} {e:Expr} {es:List Expr} {t:TA} {id T:String} {r:List V->Hp->VK->Prop}
end
end L2
namespace L2
open PySem PySem.Spec PyProof.Rows
section
variable {κ:Type} [DecidableEq κ]
def valV (kvs:List (κ × V)) (k:κ):Option V:=(kvs.find? fun kv=>decide (kv.1=k)).map (·.2)
def putK (kvs:List (κ × V)) (k:κ) (v:V):List (κ × V) :=
  if (kvs.any fun kv=>decide (kv.1=k))=true then kvs.map (fun kv=>if kv.1=k then (kv.1,v) else kv) else kvs ++ [(k,v)]
def dropK (kvs:List (κ × V)) (k:κ):List (κ × V):=kvs.filter fun kv=>decide (kv.1≠k)
theorem valV_nil {k:κ}:valV ([]:List (κ × V)) k=none:=rfl
theorem valV_pos {p:κ × V} {r:List (κ × V)} {k:κ} (e:p.1=k):valV (p :: r) k=some p.2:=by simp [valV,List.find?_cons,e]
theorem valV_neg {p:κ × V} {r:List (κ × V)} {k:κ} (e:¬ p.1=k):valV (p :: r) k=valV r k:=by simp [valV,List.find?_cons,e]
theorem valV_any (k:κ):∀ kvs:List (κ × V),(kvs.any fun kv=>decide (kv.1=k))=(valV kvs k).isSome
  | []=>rfl
  | p :: r=>by
    rw [List.any_cons]
    by_cases e:p.1=k
    · simp only [valV_pos e,decide_eq_true e,Bool.true_or,Option.isSome_some]
    · rw [valV_neg e,decide_eq_false e,Bool.false_or]; exact valV_any k r
theorem valV_map (k j:κ) (y:V):∀ kvs:List (κ × V),valV (kvs.map fun kv=>if kv.1=k then (kv.1,y) else kv) j=(valV kvs j).map fun x=>if j=k then y else x
  | []=>rfl
  | p :: r=>by
    have ih:=valV_map k j y r
    rw [List.map_cons]
    by_cases h:p.1=k
    · rw [if_pos h]
      by_cases e:p.1=j
      · rw [valV_pos (p:=(p.1,y)) e,valV_pos e,Option.map_some,if_pos (e.symm.trans h)]
      · rw [valV_neg (p:=(p.1,y)) e,valV_neg e,ih]
    · rw [if_neg h]
      by_cases e:p.1=j
      · rw [valV_pos (p:=p) e,valV_pos e,Option.map_some,if_neg (fun z=>h (e.trans z))]
      · rw [valV_neg (p:=p) e,valV_neg e,ih]
theorem valV_snoc (k j:κ) (y:V):∀ kvs:List (κ × V),valV kvs k=none->valV (kvs ++ [(k,y)]) j=if j=k then some y else valV kvs j
  | [],_=>by
    by_cases e:k=j
    · rw [if_pos e.symm]; exact valV_pos (p:=(k,y)) e
    · rw [if_neg (fun z=>e z.symm)]; exact valV_neg (p:=(k,y)) e
  | p :: r,hn=>by
    rw [List.cons_append]
    have hk:¬ p.1=k:=fun z=>by rw [valV_pos z] at hn; cases hn
    rw [valV_neg hk] at hn
    have ih:=valV_snoc k j y r hn
    by_cases e:p.1=j
    · rw [valV_pos e,valV_pos e,if_neg (fun z=>hk (e.trans z))]
    · rw [valV_neg e,valV_neg e,ih]
theorem valV_put (kvs:List (κ × V)) (k j:κ) (y:V):valV (putK kvs k y) j=if j=k then some y else valV kvs j:=by
  unfold putK
  by_cases a:(kvs.any fun kv=>decide (kv.1=k))=true
  · rw [if_pos a,valV_map]
    rw [valV_any] at a
    by_cases e:j=k
    · obtain ⟨x,hx⟩:=Option.isSome_iff_exists.mp a
      rw [if_pos e,e,hx,Option.map_some,if_pos rfl]
    · rw [if_neg e]
      cases valV kvs j with
      | none=>rfl
      | some x=>rw [Option.map_some,if_neg e]
  · rw [if_neg a]
    refine valV_snoc k j y kvs ?_
    rw [valV_any] at a
    cases q:valV kvs k with
    | none=>rfl
    | some x=>rw [q] at a; exact (a rfl).elim
theorem length_putK (kvs:List (κ × V)) (k:κ) (v:V):(putK kvs k v).length<=kvs.length + 1:=by
  unfold putK
  split
  · rw [List.length_map]; lia
  · rw [List.length_append,List.length_cons,List.length_nil]; lia
theorem RelO.isSome_eq {o:Option V} {u:Option Value} (r:RelO o u):o.isSome=u.isSome:=by
  cases o with
  | none=>cases u with
    | none=>rfl
    | some _=>exact (show False from r).elim
  | some _=>cases u with
    | none=>exact (show False from r).elim
    | some _=>rfl
theorem RelO.getD {o:Option V} {u:Option Value} {d:V} {d':Value} (r:RelO o u) (rd:RelV d d'):RelV (o.getD d) (u.getD d'):=by
  cases o with
  | none=>cases u with
    | none=>exact rd
    | some _=>exact (show False from r).elim
  | some _=>cases u with
    | none=>exact (show False from r).elim
    | some _=>exact r
theorem KV.val {kvs:List (κ × V)} {vs:List (κ × Value)} (r:KV kvs vs) (k:κ):RelO (valV kvs k) (valueAt vs k):=by
  unfold KV at r
  induction r with
  | nil=>exact True.intro
  | @cons p q ps qs h t ih =>
    obtain ⟨h1,h2⟩:=h
    by_cases e:p.1=k
    · have e':q.1=k:=h1.symm.trans e
      have b:valueAt (q :: qs) k=some q.2:=by simp [valueAt,List.find?_cons,e']
      rw [valV_pos e,b]; exact h2
    · have e':¬ q.1=k:=fun z=>e (h1.trans z)
      have b:valueAt (q :: qs) k=valueAt qs k:=by simp [valueAt,List.find?_cons,e']
      rw [valV_neg e,b]; exact ih
theorem KV.any {kvs:List (κ × V)} {vs:List (κ × Value)} (r:KV kvs vs) (k:κ):(kvs.any fun kv=>decide (kv.1=k))=vs.any fun kv=>decide (kv.1=k):=by
  unfold KV at r
  induction r with
  | nil=>rfl
  | cons h t ih=>rw [List.any_cons,List.any_cons,ih,h.1]
theorem KV.repl {kvs:List (κ × V)} {vs:List (κ × Value)} (r:KV kvs vs) (k:κ) {y:V} {u:Value} (ry:RelV y u) :
    KV (kvs.map fun kv=>if kv.1=k then (kv.1,y) else kv) (vs.map fun kv=>if kv.1=k then (kv.1,u) else kv):=by
  unfold KV at r ⊢
  induction r with
  | nil=>exact .nil
  | @cons p q ps qs h t ih =>
    rw [List.map_cons,List.map_cons]
    refine .cons ?_ ih
    obtain ⟨h1,h2⟩:=h
    by_cases e:p.1=k
    · rw [if_pos e,if_pos (h1.symm.trans e)]; exact ⟨h1,ry⟩
    · rw [if_neg e,if_neg (fun z=>e (h1.trans z))]; exact ⟨h1,h2⟩
theorem KV.put {kvs:List (κ × V)} {vs:List (κ × Value)} (r:KV kvs vs) (k:κ) {y:V} {u:Value} (ry:RelV y u):KV (putK kvs k y) (stored vs k u):=by
  unfold putK stored
  rw [r.any k]
  by_cases e:(vs.any fun kv=>decide (kv.1=k))=true
  · rw [if_pos e,if_pos e]; exact r.repl k ry
  · rw [if_neg e,if_neg e]; exact Paired.snoc r ⟨rfl,ry⟩
theorem KV.drop {kvs:List (κ × V)} {vs:List (κ × Value)} (r:KV kvs vs) (k:κ):KV (dropK kvs k) (without vs k):=by
  unfold KV at r ⊢
  unfold dropK without
  induction r with
  | nil=>exact .nil
  | @cons p q ps qs h t ih =>
    obtain ⟨h1,h2⟩:=h
    rw [List.filter_cons,List.filter_cons]
    by_cases e:p.1=k
    · have a:¬ decide (p.1≠k)=true:=by simp [e]
      have b:¬ decide (q.1≠k)=true:=by simp [h1.symm.trans e]
      rw [if_neg a,if_neg b]; exact ih
    · have e':¬ q.1=k:=fun z=>e (h1.trans z)
      have a:decide (p.1≠k)=true:=by simp [e]
      have b:decide (q.1≠k)=true:=by simp [e']
      rw [if_pos a,if_pos b]; exact .cons ⟨h1,h2⟩ ih
theorem KV.keys {kvs:List (κ × V)} {vs:List (κ × Value)} (r:KV kvs vs):kvs.map (·.1)=vs.map (·.1):=by
  unfold KV at r
  induction r with
  | nil=>rfl
  | cons h t ih=>rw [List.map_cons,List.map_cons,ih,h.1]
theorem KV.length {kvs:List (κ × V)} {vs:List (κ × Value)} (r:KV kvs vs):kvs.length=vs.length:=Paired.length r
theorem dropK_le (kvs:List (κ × V)) (k:κ):(dropK kvs k).length<=kvs.length:=List.length_filter_le _ _
end
theorem kV_is {P:Program} {w:World} {k:Key} {u:Value} (r:RelV (kV k) u):(mixKind P w).is k u=true:=by
  cases k with
  | inl i=>obtain ⟨t,e⟩:=(show ∃ t,u=Value.int i t from r); subst e; exact mixKind_int P w i t
  | inr x=>obtain ⟨t,e⟩:=(show ∃ t,u=Value.str x t from r); subst e; exact mixKind_str P w x t
theorem items_are {P:Program} {w:World}:∀ {ks:List Key} {us:List Value},Vals (ks.map kV) us->ItemsAre (mixKind P w) ks us
  | [],_,r=>by rw [List.map_nil] at r; cases r; exact .nil
  | k :: ks,_,r=>by
    rw [List.map_cons] at r
    cases r with
    | cons h t=>exact .cons (kV_is h) (items_are t)
abbrev KT (H:Hp):List (List Key × V)->List (List Key × Addr × Value)->Prop:=Paired fun p q=>p.1=q.1/\H q.2.1=some (.tup (p.1.map kV))/\RelV p.2 q.2.2
theorem KT.val {H:Hp} {kvs:List (List Key × V)} {xs:List (List Key × Addr × Value)} (r:KT H kvs xs) (k:List Key):RelO (valV kvs k) ((atKey xs k).map (·.2)):=by
  induction r with
  | nil=>exact True.intro
  | @cons p q ps qs h t ih =>
    obtain ⟨h1,_,h2⟩:=h
    by_cases e:p.1=k
    · have e':q.1=k:=h1.symm.trans e
      have b:atKey (q :: qs) k=some q.2:=by simp [atKey,List.find?_cons,e']
      rw [valV_pos e,b]; exact h2
    · have e':¬ q.1=k:=fun z=>e (h1.trans z)
      have b:atKey (q :: qs) k=atKey qs k:=by simp [atKey,List.find?_cons,e']
      rw [valV_neg e,b]; exact ih
theorem KT.repl {H:Hp} {kvs:List (List Key × V)} {xs:List (List Key × Addr × Value)} (r:KT H kvs xs) (k:List Key) {y:V} {u:Value} (ry:RelV y u) :
    KT H (kvs.map fun kv=>if kv.1=k then (kv.1,y) else kv) (xs.map (putAt k u)):=by
  induction r with
  | nil=>exact .nil
  | @cons p q ps qs h t ih =>
    rw [List.map_cons,List.map_cons]
    refine .cons ?_ ih
    obtain ⟨h1,h2,h3⟩:=h
    unfold putAt
    by_cases e:p.1=k
    · rw [if_pos e,if_pos (h1.symm.trans e)]; exact ⟨h1,h2,ry⟩
    · rw [if_neg e,if_neg (fun z=>e (h1.trans z))]; exact ⟨h1,h2,h3⟩
theorem KT.put {H:Hp} {kvs:List (List Key × V)} {xs:List (List Key × Addr × Value)} (r:KT H kvs xs) (k:List Key) {b:Addr} {y:V} {u:Value} (hb:H b=some (.tup (k.map kV))) (ry:RelV y u) :
    KT H (putK kvs k y) (storedH xs k b u):=by
  have e:(kvs.any fun kv=>decide (kv.1=k))=(atKey xs k).isSome:=by
    rw [valV_any,(r.val k).isSome_eq,Option.isSome_map]
  unfold putK storedH
  rw [e]
  by_cases q:(atKey xs k).isSome=true
  · rw [if_pos q,if_pos q]; exact r.repl k ry
  · rw [if_neg q,if_neg q]; exact Paired.snoc r ⟨rfl,hb,ry⟩
theorem KT.keeps {H H':Hp} {kvs:List (List Key × V)} {xs:List (List Key × Addr × Value)} (r:KT H kvs xs) (ht:∀ b ys,H b=some (.tup ys)->H' b=some (.tup ys)):KT H' kvs xs :=
  Paired.mapP r fun _ _ z=>⟨z.1,ht _ _ z.2.1,z.2.2⟩
section
variable {P:Program} {w:World} {H:Hp} {h:Heap} {a:Addr}
theorem rd_of {u:HO} (ok:HOk P w H h) (e:Rd H a u):ObjOk P w H h a u:=e.ok ok
theorem dk_rd {kvs:List (Key × V)} (ok:HOk P w H h) (e:Rd H a (.dK kvs)):kvs.length<=sizeLine/\(a == sysModules)=false/\∃ vs,KV kvs vs/\h.DictOf (mixKind P w) a vs :=
  show ObjOk P w H h a (.dK kvs) from rd_of ok e
theorem dk_of {kvs:List (Key × V)} (ok:HOk P w H h) (e:H a=some (.dK kvs)):kvs.length<=sizeLine/\(a == sysModules)=false/\∃ vs,KV kvs vs/\h.DictOf (mixKind P w) a vs:=dk_rd ok (.inl e)
theorem key_of {ks:List Key} (ok:HOk P w H h) (e:H a=some (.tup (ks.map kV))):(tupleKind (mixKind P w)).is h ks a:=by
  obtain ⟨_,its,r,o,h1,h2,_,n,h3⟩:=(show ObjOk P w H h a (.tup (ks.map kV)) from ok a _ e)
  exact ⟨o,its.toArray,n,h1,h2,h3,by simpa using items_are r⟩
theorem dt_rd {kvs:List (List Key × V)} (ok:HOk P w H h) (e:Rd H a (.dT kvs)):kvs.length<=sizeLine/\(a == sysModules)=false /\
    ∃ xs,KT H kvs xs/\h.DictOfH (tupleKind (mixKind P w)) a xs:=by
  obtain ⟨z,y,xs,r,o,es,ep,h1,h2,h3,h4,h5⟩:=(show ObjOk P w H h a (.dT kvs) from rd_of ok e)
  refine ⟨z,y,xs,r,o,es,ep,h1,h2,h3,h4,fun x hx=>?_,h5⟩
  have all:∀ {l:List (List Key × V)} {m:List (List Key × Addr × Value)},KT H l m->∀ x∈m,(tupleKind (mixKind P w)).is h x.1 x.2.1:=by
    intro l m q
    induction q with
    | nil=>intro x hx; exact nomatch hx
    | @cons p q ps qs hq t ih =>
      intro x hx
      rcases List.mem_cons.mp hx with e | hx
      · subst e
        exact key_of ok (by rw [<- hq.1]; exact hq.2.1)
      · exact ih x hx
  exact all r x hx
theorem dt_of {kvs:List (List Key × V)} (ok:HOk P w H h) (e:H a=some (.dT kvs)):kvs.length<=sizeLine/\(a == sysModules)=false /\
    ∃ xs,KT H kvs xs/\h.DictOfH (tupleKind (mixKind P w)) a xs:=dt_rd ok (.inl e)
end
def DGet (H:Hp) (a:Addr) (y:V) (r:Option V):Prop :=
  (∃ kvs k,Rd H a (.dK kvs)/\y=kV k/\r=valV kvs k)\/∃ kvs k b,Rd H a (.dT kvs)/\y=.ref b/\H b=some (.tup (k.map kV))/\r=valV kvs k
def DPut (H:Hp) (a:Addr) (y v:V) (H':Hp):Prop :=
  (∃ kvs k,H a=some (.dK kvs)/\y=kV k/\kvs.length < sizeLine/\H'=upd H a (.dK (putK kvs k v))) \/
  ∃ kvs k b,H a=some (.dT kvs)/\y=.ref b/\H b=some (.tup (k.map kV))/\kvs.length < sizeLine/\H'=upd H a (.dT (putK kvs k v))
theorem DGet.k {H:Hp} {a:Addr} {kvs:List (Key × V)} {k:Key} (e:H a=some (.dK kvs)):DGet H a (kV k) (valV kvs k):=.inl ⟨kvs,k,.inl e,rfl,rfl⟩
theorem DGet.t {H:Hp} {a b:Addr} {kvs:List (List Key × V)} {k:List Key} (e:H a=some (.dT kvs)) (eb:H b=some (.tup (k.map kV))):DGet H a (.ref b) (valV kvs k):=.inr ⟨kvs,k,b,.inl e,rfl,eb,rfl⟩
theorem DPut.k {H:Hp} {a:Addr} {kvs:List (Key × V)} {k:Key} {v:V} (e:H a=some (.dK kvs)) (hl:kvs.length < sizeLine):DPut H a (kV k) v (upd H a (.dK (putK kvs k v))):=.inl ⟨kvs,k,e,rfl,hl,rfl⟩
theorem DPut.t {H:Hp} {a b:Addr} {kvs:List (List Key × V)} {k:List Key} {v:V} (e:H a=some (.dT kvs)) (eb:H b=some (.tup (k.map kV))) (hl:kvs.length < sizeLine) :
    DPut H a (.ref b) v (upd H a (.dT (putK kvs k v))):=.inr ⟨kvs,k,b,e,rfl,eb,hl,rfl⟩
section
variable {X:Cx} {pins:List (Addr × Obj)} {σ:St} {H:Hp} {s:Shared} {a:Addr} {y v:V} {u r:Value} {o:Option V} {A:Around} {E:Value->Shared->Prop}
theorem Inv.big (I:Inv X pins σ H s):sysModules < s.heap.objs.size:=by
  have h:mainGlobals < s.heap.objs.size:=(I.mod.glob.keeps I.bk).lt
  exact Nat.lt_trans (by decide) h
theorem d_getItem {Q:Value->Shared->Prop} (hu:A.units + 1 < cLine) (I:Inv X pins σ H s) (g:DGet H a y (some v)) (ry:RelV y u) (h:∀ w' s',Inv X pins σ H s'->RelV v w'->Q w' s') :
    wpAny (model X.prog X.w) A (getItem (.ref a) u) Q E s:=by
  rcases g with ⟨kvs,k,e,ey,l⟩ | ⟨kvs,k,b,e,ey,eb,l⟩
  · subst ey
    obtain ⟨z,hd,vs,rel,dd⟩:=dk_rd I.hok e
    obtain ⟨w',hw,rw'⟩:=RelO.some_of (v:=v) (o:=valueAt vs k) (by rw [l]; exact rel.val k)
    exact wpAny_getItem_of (kV_is ry) dd.mapOf hw (h w' _ (I.tok _) rw')
  · subst ey
    cases (show u=Value.ref b from ry)
    obtain ⟨z,hd,xs,rel,dd⟩:=dt_rd I.hok e
    obtain ⟨w',hw,rw'⟩:=RelO.some_of (v:=v) (o:=(atKey xs k).map (·.2)) (by rw [l]; exact rel.val k)
    obtain ⟨p,hp,hp2⟩:=Option.map_eq_some_iff.mp hw
    refine wpAny_getItem_heap (tupleKind_room_in1 hu) (key_of I.hok eb) dd hp ?_
    rw [hp2]
    exact h w' _ (I.tok _) rw'
theorem d_write {h':Heap} {t':Nat} {ob:HO} (I:Inv X pins σ H s) (mu:Mut (H a)) (hs:Heap.SameBut a s.heap h') (he:∃ q,h'.get? a=some q) (new:ObjOk X.prog X.w (upd H a ob) h' a ob) :
    Inv X pins σ (upd H a ob) { s with heap:=h',toks:=t' } :=
  I.write (x:=a) (e:=a) mu (.inl rfl) (fun b q hb z=>(hs.2 b hb).trans z) he new
theorem dk_new {P:Program} {w:World} {H':Hp} {h':Heap} {kvs:List (Key × V)} {vs:List (Key × Value)} (z:kvs.length<=sizeLine) (hd:(a == sysModules)=false) (rel:KV kvs vs) (dd:h'.DictOf (mixKind P w) a vs) :
    ObjOk P w H' h' a (.dK kvs):=⟨z,hd,vs,rel,dd⟩
theorem d_setItem {H':Hp} {Q:Unit->Shared->Prop} (hu:A.units + 1 < cLine) (I:Inv X pins σ H s) (g:DPut H a y v H') (ry:RelV y u) (rv:RelV v r) (h:∀ s',Inv X pins σ H' s'->Q () s') :
    wpAny (model X.prog X.w) A (setItem (.ref a) u r) Q E s:=by
  rcases g with ⟨kvs,k,e,ey,l,eH⟩ | ⟨kvs,k,b,e,ey,eb,l,eH⟩
  · subst ey eH
    obtain ⟨z,hd,vs,rel,dd⟩:=dk_of I.hok e
    have hz:vs.length<=sizeLine:=by rw [<- rel.length]; exact z
    have hl:(putK kvs k v).length<=sizeLine:=by have:=length_putK kvs k v; lia
    refine wpAny_setItem_pairs (hsz:=hz) (kV_is ry) dd fun h' dd' hs=>h _ ?_
    have he:∃ q,h'.get? a=some q:=let ⟨q,_,_,hq,_⟩:=dd'; ⟨q,hq⟩
    exact d_write I (by rw [e]; exact True.intro) hs he (dk_new hl hd (rel.put k rv) dd')
  · subst ey eH
    cases (show u=Value.ref b from ry)
    obtain ⟨z,hd,xs,rel,dd⟩:=dt_of I.hok e
    have hz:xs.length<=sizeLine:=by rw [<- Paired.length rel]; exact z
    have hl:(putK kvs k v).length<=sizeLine:=by have:=length_putK kvs k v; lia
    refine wpAny_setItem_heap (hsz:=hz) (tupleKind_room_in1 hu) (key_of I.hok eb) dd fun h' dd' hs=>h _ ?_
    obtain ⟨q,es,ep,hq,h2,h3,h4,_,h5⟩:=dd'
    refine d_write I (by rw [e]; exact True.intro) hs ⟨q,hq⟩ ⟨hl,hd,_,(rel.put k eb rv).keeps fun c ys ec=>?_,q,es,ep,hq,h2,h3,h4,h5⟩
    rw [upd_ne (ne_of ec e (fun z=>nomatch z))]
    exact ec
end
section
variable {X:Cx} {pins:List (Addr × Obj)} {σ:St} {H:Hp} {s:Shared} {a:Addr} {kvs:List (Key × V)} {k:Key} {u:Value} {A:Around} {E:Value->Shared->Prop}
theorem d_pop {v:V} {more:List Value} {Q:Value->Shared->Prop} (I:Inv X pins σ H s) (e:H a=some (.dK kvs)) (ry:RelV (kV k) u) (l:valV kvs k=some v) (hm:more=[]\/∃ x,more=[x])
    (h:∀ w' s',Inv X pins σ (upd H a (.dK (dropK kvs k))) s'->RelV v w'->Q w' s'):wpAny (model X.prog X.w) A (call (.builtin "dict.pop") (.ref a :: u :: more)) Q E s:=by
  obtain ⟨z,hd,vs,rel,dd⟩:=dk_of I.hok e
  obtain ⟨w',hw,rw'⟩:=RelO.some_of (v:=v) (o:=valueAt vs k) (by rw [<- l]; exact rel.val k)
  have hp:(keyPart u).isSome=true:=by
    cases k with
    | inl i=>obtain ⟨t,q⟩:=(show ∃ t,u=Value.int i t from ry); subst q; rfl
    | inr x=>obtain ⟨t,q⟩:=(show ∃ t,u=Value.str x t from ry); subst q; rfl
  have ha:argsOk "dict.pop" ⟨.ref a :: u :: more,[]⟩:=by
    rcases hm with q | ⟨x,q⟩
    · subst q; exact PySem.F.args_dict_pop_2 _ _
    · subst q; exact PySem.F.args_dict_pop_3 _ _ _
  refine call_meetsIn PySem.F.slot_dict_pop dd.typeIs PySem.F.entry_dict_pop ha (meets_dict_pop_there (mixKind X.prog X.w) a (kV_is ry) more hm hp)
    ⟨vs,w',dd,by rw [<- rel.length]; exact z,hw,fun h' dd' hs=>h w' _ ?_ rw'⟩
  have he:∃ q,h'.get? a=some q:=let ⟨q,_,_,hq,_⟩:=dd'; ⟨q,hq⟩
  exact d_write I (by rw [e]; exact True.intro) hs he (dk_new (Nat.le_trans (dropK_le kvs k) z) hd (rel.drop k) dd')
theorem d_popD {r:Value} {Q:Value->Shared->Prop} (I:Inv X pins σ H s) (e:H a=some (.dK kvs)) (ry:RelV (kV k) u) (l:valV kvs k=none) (h:∀ s',Inv X pins σ H s'->Q r s') :
    wpAny (model X.prog X.w) A (call (.builtin "dict.pop") [.ref a,u,r]) Q E s:=by
  obtain ⟨z,hd,vs,rel,dd⟩:=dk_of I.hok e
  have hn:valueAt vs k=none:=RelO.none_of (by rw [<- l]; exact rel.val k)
  have hp:(keyPart u).isSome=true:=by
    cases k with
    | inl i=>obtain ⟨t,q⟩:=(show ∃ t,u=Value.int i t from ry); subst q; rfl
    | inr x=>obtain ⟨t,q⟩:=(show ∃ t,u=Value.str x t from ry); subst q; rfl
  exact call_meetsIn PySem.F.slot_dict_pop dd.typeIs PySem.F.entry_dict_pop (PySem.F.args_dict_pop_3 _ _ _) (meets_dict_pop_default (mixKind X.prog X.w) a (kV_is ry) hd hp r) ⟨vs,dd,hn,h _ (I.tok _)⟩
end
def NoSl (i:Expr):Prop:=∀ ov iv,subscripted i false ov iv=operate [ov,iv] (getItem ov iv)
theorem subD_of {prog:Program} {w:World} {A:Around} {E:Value->Shared->Prop} {s:Shared} {env:Env} {value slice:Expr} {pos:Pos} {T id:String} {Q:Value->Shared->Prop}
    (hl:typeLookup (.type T) "__getitem__"=pure (some (.builtin id))) (hs:NoSl slice)
    (h:wpAny (model prog w) A (eval value env) (fun o s₁=>wpAny (model prog w) A (eval slice env) (fun i s₂=>s₂.TypeIs o T/\wpAny (model prog w) A (getItem o i) Q E s₂) E s₁) E s) :
    wpAny (model prog w) A (eval (.Subscript value slice pos) env) Q E s:=by
  refine Subscript_ (wpAny_mono h (fun o s₁ h₁=>wpAny_mono h₁ (fun i s₂ h₂=>?_) fun _ _ x=>x) fun _ _ x=>x)
  obtain ⟨hT,h₂⟩:=h₂
  unfold subscriptTail
  refine wpAny_bind ?_
  rw [getitemInPython_of_ne hT.not_modules]
  refine wpAny_bind (wpAny_specialOf hT hl ?_)
  have fin:wpAny (model prog w) A (subscripted slice false o i) (fun r s₃=>wpAny (model prog w) A (letTemporaryGo value o r >>= fun _=>pure r) Q E s₃) E s₂:=by
    rw [hs o i]
    exact wpAny_operating (wpAny_mono h₂ (fun r s₃ h₃=>wpAny_bind (wpAny_letTemporaryGo (wpAny_pure h₃))) fun _ _ x=>x)
  first
    | exact wpAny_pure (wpAny_bind fin)
    | exact wpAny_bind (wpAny_pure (wpAny_bind fin))
    | exact wpAny_bind fin
theorem dict_typeIs {X:Cx} {pins:List (Addr × Obj)} {σ:St} {H:Hp} {s:Shared} {a:Addr} {y:V} {o:Option V} (I:Inv X pins σ H s) (g:DGet H a y o):s.TypeIs (.ref a) "dict":=by
  rcases g with ⟨kvs,k,e,_,_⟩ | ⟨kvs,k,b,e,_,_,_⟩
  · obtain ⟨_,_,vs,_,dd⟩:=dk_rd I.hok e
    exact dd.typeIs
  · obtain ⟨_,_,xs,_,dd⟩:=dt_rd I.hok e
    exact dd.typeIs
def tDGet (td ty:TE):TE:=fun σ H Q=>td σ H fun x H1=>ty σ H1 fun y H2=>∃ a v,x=.ref a/\DGet H2 a y (some v)/\Q v H2
def sDPut (td ty tv:TE):TS:=fun D σ H=>tv σ H fun v H1=>td σ H1 fun x H2=>ty σ H2 fun y H3=>∃ a H4,x=.ref a/\DPut H3 a y v H4/\D.nx σ H4
section
variable {X:Cx} {o i e value:Expr} {pos pos' tpos:Pos} {td ty tv:TE}
theorem pe_dget (hu:X.A.units + 1 < cLine) (ho:PE X o td) (hi:PE X i ty) (hs:NoSl i):PE X (.Subscript o i pos) (tDGet td ty):=by
  intro pins s σ H Q I h
  refine subD_of PySem.F.slot_dict_getitem.lookup hs (thn (ho pins s σ H _ I h) fun u s1 ⟨x,H1,I1,rx,q1⟩=>thn (hi pins s1 σ H1 _ I1 q1) fun iv s2 ⟨y,H2,I2,ry,a,v,ex,g,q2⟩=>?_)
  subst ex
  obtain rfl:u=Value.ref a:=rx
  exact ⟨dict_typeIs I2 g,d_getItem hu I2 g ry fun w' s3 I3 rw'=>⟨v,H2,I3,rw',q2⟩⟩
theorem ps_dput (hu:X.A.units + 1 < cLine) (ho:PE X o td) (hi:PE X i ty) (hv:PE X value tv) (hs:swapsWith value (some (.Subscript o i pos')) pos.line X.env=pure false) :
    PS X (.Assign [.Subscript o i pos'] value pos) (sDPut td ty tv):=by
  intro pins s σ H D I h
  refine wpAny_Assign_Subscript (thn (hv pins s σ H _ I h) fun r s1 ⟨v,H1,I1,rv,q1⟩=>thn (ho pins s1 σ H1 _ I1 q1) fun u s2 ⟨x,H2,I2,rx,q2⟩=>thn (hi pins s2 σ H2 _ I2 q2) fun iv s3 ⟨y,H3,I3,ry,a,H4,ex,g,q3⟩=>?_) hs
  subst ex
  obtain rfl:u=Value.ref a:=rx
  exact d_setItem hu I3 g ry rv fun s4 I4=>⟨σ,H4,I4,q3⟩
end
theorem dk_empty {P:Program} {w:World} {H:Hp} (h:Heap) (hb:sysModules < h.objs.size):ObjOk P w H (h.push { cls:=.type "dict",data:=.dict #[] }) h.objs.size (.dK []) :=
  ⟨Nat.zero_le _,beq_eq_false_iff_ne.mpr (Ne.symm (Nat.ne_of_lt hb)),[],.nil,Heap.DictOf.new h⟩
def tDNewK:TE:=fun _ H Q=>∀ p,H p=none->Q (.ref p) (upd H p (.dK []))
section
variable {X:Cx} {pos:Pos}
theorem pe_dnewK:PE X (.Dict [] [] pos) tDNewK:=fun pins s σ H Q I h =>
  wpAny_Dict_empty ⟨.ref s.heap.objs.size,_,I.laid (a:=s.heap.objs.size) (o:=.dK []) (t':=s.toks) (fun _ _ q=>Heap.get?_push_of_some _ q) (Nat.le_refl _) (dk_empty s.heap I.big),rfl,h _ (I.hok.fresh (Nat.le_refl _))⟩
end
structure M1 (X:Cx) (o:Expr) (m:Str) (apos:Pos) (e:Expr) (cpos:Pos):Prop where
  base:attributeBase o m X.env (eval o X.env)=eval o X.env
  few:((backTo cpos (starEach [e] X.env)).all (fun x=>!x.1) && (backToKw cpos (keywordEach [] X.env)).all (fun x=>x.1.isSome)
    && decide (([e]:List Expr).length + ([]:List Keyword).length + (if ([]:List Keyword).isEmpty then 0 else 1) < 30))=true
  line:(apos.endLine == cpos.line)=true
  trees:backTo cpos (starEach [e] X.env)=[(false,eval e X.env)]
structure M2 (X:Cx) (o:Expr) (m:Str) (apos:Pos) (e f:Expr) (cpos:Pos):Prop where
  base:attributeBase o m X.env (eval o X.env)=eval o X.env
  few:((backTo cpos (starEach [e,f] X.env)).all (fun x=>!x.1) && (backToKw cpos (keywordEach [] X.env)).all (fun x=>x.1.isSome)
    && decide (([e,f]:List Expr).length + ([]:List Keyword).length + (if ([]:List Keyword).isEmpty then 0 else 1) < 30))=true
  line:(apos.endLine == cpos.line)=true
  trees:backTo cpos (starEach [e,f] X.env)=[(false,eval e X.env),(false,eval f X.env)]
def IsD (H:Hp) (a:Addr):Prop:=(∃ kvs,Rd H a (.dK kvs))\/∃ kvs,Rd H a (.dT kvs)
theorem isD_at {X:Cx} {pins:List (Addr × Obj)} {σ:St} {H:Hp} {s:Shared} {a:Addr} (I:Inv X pins σ H s) (d:IsD H a) :
    s.TypeIs (.ref a) "dict"/\(∀ b,Value.ref a=.ref b->∃ ob,s.heap.get? b=some ob/\ob.dict=none)/\(a == sysModules)=false:=by
  rcases d with ⟨kvs,e⟩ | ⟨kvs,e⟩
  · obtain ⟨_,hd,vs,_,dd⟩:=dk_rd I.hok e
    refine ⟨dd.typeIs,fun b q=>?_,hd⟩
    cases q
    obtain ⟨ob,_,_,h1,h2,_⟩:=dd
    exact ⟨ob,h1,h2.2.1⟩
  · obtain ⟨_,hd,xs,_,dd⟩:=dt_rd I.hok e
    refine ⟨dd.typeIs,fun b q=>?_,hd⟩
    cases q
    obtain ⟨ob,_,_,h1,h2,_⟩:=dd
    exact ⟨ob,h1,h2.2.1⟩
section
variable {X:Cx} {pins:List (Addr × Obj)} {σ:St} {H:Hp} {s:Shared} {a:Addr} {y d:V} {u r:Value} {o:Option V} {A:Around} {E:Value->Shared->Prop}
theorem d_get1 {Q:Value->Shared->Prop} (hu:A.units + 1 < cLine) (I:Inv X pins σ H s) (g:DGet H a y o) (ry:RelV y u) (h:∀ w' s',Inv X pins σ H s'->RelV (o.getD .non) w'->Q w' s') :
    wpAny (model X.prog X.w) A (call (.builtin "dict.get") [.ref a,u]) Q E s:=by
  rcases g with ⟨kvs,k,e,ey,l⟩ | ⟨kvs,k,b,e,ey,eb,l⟩
  · subst ey
    obtain ⟨z,hd,vs,rel,dd⟩:=dk_rd I.hok e
    refine call_meetsIn PySem.F.slot_dict_get dd.typeIs PySem.F.entry_dict_get (PySem.F.args_dict_get_2 _ _) (meets_dict_get (mixKind X.prog X.w) a (kV_is ry) hd) ⟨_,dd.mapOf,h _ _ (I.tok _) ?_⟩
    rw [l]
    exact (rel.val k).getD rfl
  · subst ey
    cases (show u=Value.ref b from ry)
    obtain ⟨z,hd,xs,rel,dd⟩:=dt_rd I.hok e
    refine call_meetsIn PySem.F.slot_dict_get dd.typeIs PySem.F.entry_dict_get (PySem.F.args_dict_get_2 _ _) (meetsH_dict_get (tupleKind (mixKind X.prog X.w)) a b hd) ⟨tupleKind_room_in1 hu,k,xs,key_of I.hok eb,dd,h _ _ (I.tok _) ?_⟩
    rw [l]
    exact (rel.val k).getD rfl
theorem d_get2 {Q:Value->Shared->Prop} (hu:A.units + 1 < cLine) (I:Inv X pins σ H s) (g:DGet H a y o) (ry:RelV y u) (rd:RelV d r) (h:∀ w' s',Inv X pins σ H s'->RelV (o.getD d) w'->Q w' s') :
    wpAny (model X.prog X.w) A (call (.builtin "dict.get") [.ref a,u,r]) Q E s:=by
  rcases g with ⟨kvs,k,e,ey,l⟩ | ⟨kvs,k,b,e,ey,eb,l⟩
  · subst ey
    obtain ⟨z,hd,vs,rel,dd⟩:=dk_rd I.hok e
    refine call_meetsIn PySem.F.slot_dict_get dd.typeIs PySem.F.entry_dict_get (PySem.F.args_dict_get_3 _ _ _) (meets_dict_get_default (mixKind X.prog X.w) a (kV_is ry) hd r) ⟨_,dd.mapOf,h _ _ (I.tok _) ?_⟩
    rw [l]
    exact (rel.val k).getD rd
  · subst ey
    cases (show u=Value.ref b from ry)
    obtain ⟨z,hd,xs,rel,dd⟩:=dt_rd I.hok e
    refine call_meetsIn PySem.F.slot_dict_get dd.typeIs PySem.F.entry_dict_get (PySem.F.args_dict_get_3 _ _ _) (meetsH_dict_get_default (tupleKind (mixKind X.prog X.w)) a b hd r) ⟨tupleKind_room_in1 hu,k,xs,key_of I.hok eb,dd,h _ _ (I.tok _) ?_⟩
    rw [l]
    exact (rel.val k).getD rd
end
def tDGet1 (td ty:TE):TE:=fun σ H Q=>td σ H fun x H1=>∃ a,x=.ref a/\IsD H1 a/\ty σ H1 fun y H2=>∃ o,DGet H2 a y o/\Q (o.getD .non) H2
def tDGet2 (td ty tx:TE):TE:=fun σ H Q=>td σ H fun x H1=>∃ a,x=.ref a/\IsD H1 a/\ty σ H1 fun y H2=>tx σ H2 fun z H3=>∃ o,DGet H3 a y o/\Q (o.getD z) H3
def tDPop2 (td ty tx:TE):TE:=fun σ H Q=>td σ H fun x H1=>∃ a,x=.ref a/\IsD H1 a/\ty σ H1 fun y H2=>tx σ H2 fun z H3=>∃ kvs k,H3 a=some (.dK kvs)/\y=kV k /\
  (∀ v,valV kvs k=some v->Q v (upd H3 a (.dK (dropK kvs k))))/\(valV kvs k=none->Q z H3)
section
variable {X:Cx} {o e f:Expr} {apos cpos:Pos} {td ty tx:TE}
theorem pe_dget1 (hu:X.A.units + 1 < cLine) (ho:PE X o td) (he:PE X e ty) (m:M1 X o "get" apos e cpos):PE X (.Call (.Attribute o "get" apos) [e] [] cpos) (tDGet1 td ty):=by
  intro pins s σ H Q I h
  refine wpAny_Call_method m.base m.few m.line PySem.F.plainAttrs_dict PySem.F.slot_dict_get PySem.F.type_dict_get (thn (ho pins s σ H _ I h) fun u s1 ⟨x,H1,I1,rx,a,ex,d,q1⟩=>?_)
  subst ex
  obtain rfl:u=Value.ref a:=rx
  obtain ⟨t1,t2,_⟩:=isD_at I1 d
  refine ⟨t1,t2,?_⟩
  rw [m.trees]
  refine Calls.callWith_builtin rfl (Calls.evalArgs_plain (Calls.spliced_cons (thn (he pins s1 σ H1 _ I1 q1) fun iv s2 ⟨y,H2,I2,ry,ov,g,q2⟩=>Calls.spliced_nil ?_)))
  exact d_get1 hu I2 g ry fun w' s3 I3 rw'=>⟨_,H2,I3,rw',q2⟩
theorem pe_dget2 (hu:X.A.units + 1 < cLine) (ho:PE X o td) (he:PE X e ty) (hf:PE X f tx) (m:M2 X o "get" apos e f cpos):PE X (.Call (.Attribute o "get" apos) [e,f] [] cpos) (tDGet2 td ty tx):=by
  intro pins s σ H Q I h
  refine wpAny_Call_method m.base m.few m.line PySem.F.plainAttrs_dict PySem.F.slot_dict_get PySem.F.type_dict_get (thn (ho pins s σ H _ I h) fun u s1 ⟨x,H1,I1,rx,a,ex,d,q1⟩=>?_)
  subst ex
  obtain rfl:u=Value.ref a:=rx
  obtain ⟨t1,t2,_⟩:=isD_at I1 d
  refine ⟨t1,t2,?_⟩
  rw [m.trees]
  refine Calls.callWith_builtin rfl (Calls.evalArgs_plain (Calls.spliced_cons (thn (he pins s1 σ H1 _ I1 q1) fun iv s2 ⟨y,H2,I2,ry,q2⟩ =>
    Calls.spliced_cons (thn (hf pins s2 σ H2 _ I2 q2) fun fv s3 ⟨z,H3,I3,rz,ov,g,q3⟩=>Calls.spliced_nil ?_))))
  exact d_get2 hu I3 g ry rz fun w' s4 I4 rw'=>⟨_,H3,I4,rw',q3⟩
theorem pe_dpop2 (ho:PE X o td) (he:PE X e ty) (hf:PE X f tx) (m:M2 X o "pop" apos e f cpos):PE X (.Call (.Attribute o "pop" apos) [e,f] [] cpos) (tDPop2 td ty tx):=by
  intro pins s σ H Q I h
  refine wpAny_Call_method m.base m.few m.line PySem.F.plainAttrs_dict PySem.F.slot_dict_pop PySem.F.type_dict_pop (thn (ho pins s σ H _ I h) fun u s1 ⟨x,H1,I1,rx,a,ex,d,q1⟩=>?_)
  subst ex
  obtain rfl:u=Value.ref a:=rx
  obtain ⟨t1,t2,_⟩:=isD_at I1 d
  refine ⟨t1,t2,?_⟩
  rw [m.trees]
  refine Calls.callWith_builtin rfl (Calls.evalArgs_plain (Calls.spliced_cons (thn (he pins s1 σ H1 _ I1 q1) fun iv s2 ⟨y,H2,I2,ry,q2⟩ =>
    Calls.spliced_cons (thn (hf pins s2 σ H2 _ I2 q2) fun fv s3 ⟨z,H3,I3,rz,kvs,k,ea,ey,q3,q4⟩=>Calls.spliced_nil ?_))))
  subst ey
  cases l:valV kvs k with
  | some v=>exact d_pop I3 ea ry l (.inr ⟨fv,rfl⟩) fun w' s4 I4 rw'=>⟨v,_,I4,rw',q3 v l⟩
  | none=>exact d_popD I3 ea ry l fun s4 I4=>⟨z,H3,I4,rz,q4 l⟩
end
section
variable {X:Cx} {pins:List (Addr × Obj)} {σ:St} {H:Hp} {s:Shared} {a:Addr} {kvs:List (Key × V)} {A:Around} {E:Value->Shared->Prop}
end
section
variable {X:Cx} {pins:List (Addr × Obj)} {σ:St} {H:Hp} {s:Shared} {a:Addr} {y:V} {u:Value} {A:Around} {E:Value->Shared->Prop}
end
end L2
namespace Att
open PySem PySem.W PySem.Calls PyProof.Rows
section
variable {prog:Program} {w:World} {A:Around} {E:Value->Shared->Prop} {s:Shared} {K:Frag}
end
end Att
namespace L2
open PySem PySem.Spec PyProof.Rows
end L2
namespace L2
open PySem PySem.Spec PyProof.Rows
end L2
namespace L2
open PySem PySem.Spec PyProof.Rows
section
variable {P:Program} {w:World} {K:PySem.W.Frag} {mg:Str->Option Value} {base:Heap}
end
section
variable {X:Cx}
end
section
variable {κ:Type} [DecidableEq κ]
theorem valV_in {kvs:List (κ × V)} {k:κ} {v:V} (h:valV kvs k=some v):k∈kvs.map (·.1):=by
  have q:(kvs.any fun kv=>decide (kv.1=k))=true:=by
    rw [valV_any,h]
    all_goals rfl
  obtain ⟨p,hp,e⟩:=List.any_eq_true.mp q
  exact List.mem_map.mpr ⟨p,hp,of_decide_eq_true e⟩
theorem dropK_pos {p:κ × V} {r:List (κ × V)} {k:κ} (e:p.1=k):dropK (p :: r) k=dropK r k:=by
  unfold dropK
  rw [List.filter_cons,if_neg (by simp [e])]
theorem dropK_neg {p:κ × V} {r:List (κ × V)} {k:κ} (e:¬ p.1=k):dropK (p :: r) k=p :: dropK r k:=by
  unfold dropK
  rw [List.filter_cons,if_pos (by simp [e])]
theorem dropK_mem {kvs:List (κ × V)} {k:κ} {p:κ × V} (h:p∈dropK kvs k):p∈kvs:=(List.mem_filter.mp h).1
end
end L2
namespace L2
open PySem PySem.Spec PyProof.Rows
section
variable {X:Cx} {pos:Pos}
theorem je_dnewK:jE X (.Dict [] [] pos) tDNewK:=⟨pe_dnewK⟩
end
theorem SqK.l {K:PySem.W.Frag} {H:Hp} {a:Addr} {xs:List V} (h:H a=some (.lst xs)):SqK true K H a xs:=SqL.of h
theorem SqK.t {K:PySem.W.Frag} {H:Hp} {a:Addr} {xs:List V} (h:H a=some (.tup xs)):SqK false K H a xs:=SqT.of h
theorem for_zip {K:PySem.W.Frag} {k m:Bool} {a b:Addr} {xs ys:List V} {g:TG} {tb:TS} {D:Ends} {σ:St} {H:Hp} (hlen:xs.length=ys.length) (Pv:Nat->St->Hp->Prop) (h0:Pv 0 σ H) (hl:∀ i σ H,i<=xs.length->Pv i σ H->SqK k K H a xs/\SqK m K H b ys)
    (hs:∀ i x y T σ H,xs[i]?=some x->ys[i]?=some y->H T=none->Pv i σ H->g (.ref T) σ (upd H T (.tup [x,y])) fun σ2 H2=>tb { D with nx:=Pv (i + 1),ct:=Pv (i + 1),bk:=D.nx } σ2 H2) (hd:∀ σ H,Pv xs.length σ H->D.nx σ H) :
    ∃ W:Nat->Nat->St->Hp->Prop,(∃ m,W 0 m σ H)/\∀ i n σ H,W i n σ H ->
      ((Itz K k m a b).stop i H/\D.nx σ H)\/((Itz K k m a b).go i H/\∃ N:St->Hp->Prop,(∀ σ' H',N σ' H'->∃ m',m' < n/\W (i + 1) m' σ' H')/\∀ x H',(Itz K k m a b).yld i H x H'->g x σ H' fun σ2 H2=>tb { D with nx:=N,ct:=N,bk:=D.nx } σ2 H2):=by
  refine ⟨fun i m σ H=>m=xs.length - i/\i<=xs.length/\Pv i σ H,⟨xs.length,by simp,Nat.zero_le _,h0⟩,?_⟩
  rintro i n σ H ⟨rfl,hi,p⟩
  obtain ⟨q1,q2⟩:=hl i σ H hi p
  by_cases hlt:i < xs.length
  · refine .inr ⟨⟨xs,ys,xs[i],ys[i]'(by lia),q1,q2,by simp [hlt],by simp [<- hlen,hlt]⟩,Pv (i + 1),fun σ' H' p'=>⟨xs.length - (i + 1),by lia,rfl,hlt,p'⟩,fun x H' y=>?_⟩
    obtain ⟨T,x,y,rfl,hT,rfl,e1,e2⟩:=y
    exact hs i x y T σ H (e1 xs q1) (e2 ys q2) hT p
  · have e:i=xs.length:=by lia
    subst e
    exact .inl ⟨⟨xs,ys,q1,q2,.inl (Nat.le_refl _)⟩,hd σ H p⟩
end L2
namespace L2
open PySem PySem.Spec PyProof.Rows
def lay (H:Hp):List (Addr × HO)->Hp
  | []=>H
  | p :: r=>upd (lay H r) p.1 p.2
theorem lay_off {H:Hp}:∀ {l:List (Addr × HO)} {b:Addr},b ∉ l.map (·.1)->lay H l b=H b
  | [],_,_=>rfl
  | p :: r,b,h=>by
    rw [List.map_cons,List.mem_cons,not_or] at h
    show upd (lay H r) p.1 p.2 b=_
    rw [upd_ne h.1]
    exact lay_off h.2
theorem lay_at {H:Hp}:∀ {l:List (Addr × HO)} {p:Addr × HO},(l.map (·.1)).Nodup->p∈l->lay H l p.1=some p.2
  | q :: r,p,hn,hm=>by
    rw [List.map_cons,List.nodup_cons] at hn
    show upd (lay H r) q.1 q.2 p.1=_
    rcases List.mem_cons.mp hm with e | e
    · subst e
      exact upd_same
    · rw [upd_ne fun z=>hn.1 (by rw [<- z]; exact List.mem_map_of_mem e)]
      exact lay_at hn.2 e
section
variable {X:Cx} {pins:List (Addr × Obj)} {σ:St} {H:Hp} {s:Shared} {h':Heap}
theorem Inv.lays {l:List (Addr × HO)} {t':Nat} (I:Inv X pins σ H s) (k:∀ b u,s.heap.get? b=some u->h'.get? b=some u) (hp:∀ p∈l,s.heap.objs.size<=p.1) (hn:(l.map (·.1)).Nodup) (new:∀ p∈l,ObjOk X.prog X.w (lay H l) h' p.1 p.2) :
    Inv X pins σ (lay H l) { s with heap:=h',toks:=t' }:=by
  have off:∀ b,b < s.heap.objs.size->lay H l b=H b:=fun b hb=>lay_off fun z=>by
    obtain ⟨p,h1,h2⟩:=List.mem_map.mp z
    have:=hp p h1
    rw [h2] at this
    exact absurd hb (Nat.not_lt.mpr this)
  have st:∀ b u,H b=some u->lay H l b=some u:=fun b u e=>by rw [off b (I.hok.lt e)]; exact e
  refine I.un ⟨fun b u q _ _ _=>k b u q,fun b u q _ _ _=>⟨u.slots,k b u q⟩,fun b u q n _=>by rw [off b (Heap.lt_size q)]; exact n,fun b u q _=>⟨u,k b u q⟩,fun b xs q=>st b _ q,fun b o u q=>st b _ q,fun b ps q=>⟨#[],by rw [st b _ q]; simp⟩⟩ fun b u e=>?_
  by_cases hb:b∈l.map (·.1)
  · obtain ⟨p,h1,rfl⟩:=List.mem_map.mp hb
    rw [lay_at hn h1] at e
    cases e
    exact new p h1
  · rw [lay_off hb] at e
    exact (I.hok b u e).stay (fun c v _ q=>k c v q) (fun c q=>st c _ q) fun c xs q=>st c _ q
end
theorem kV_of {P:Program} {w:World} {k:Key} {u:Value} (h:(mixKind P w).is k u=true):RelV (kV k) u:=by
  rw [mixKind_is] at h
  rcases keyIs_shape h with ⟨i,t,rfl,rfl⟩ | ⟨x,t,rfl,rfl⟩
  · exact ⟨t,rfl⟩
  · exact ⟨t,rfl⟩
section
variable {X:Cx}
theorem js_dput {o i value:Expr} {td ty tv:TE} {pos pos':Pos} {k:Nat} (hr:Room k X.A) (ho:jE X o td) (hi:jE X i ty) (hv:jE X value tv) (hs:swapsWith value (some (.Subscript o i pos')) pos.line X.env=pure false:=by rfl) :
    jS X (.Assign [.Subscript o i pos'] value pos) (sDPut td ty tv):=⟨ps_dput (by have:=hr.units; lia) ho.out hi.out hv.out hs⟩
theorem KV.get {kvs:List (Key × V)} {ws:List (Key × Value)} (r:KV kvs ws) {j:Nat} {k:Key} {x:Value} (h:ws[j]?=some (k,x)):∃ y,kvs[j]?=some (k,y)/\RelV y x:=by
  unfold KV at r
  induction r generalizing j with
  | nil=>simp at h
  | @cons p q ps qs hh t ih =>
    cases j with
    | zero =>
      simp at h
      subst h
      obtain ⟨p1,p2⟩:=p
      have e:p1=k:=hh.1
      subst e
      exact ⟨p2,rfl,hh.2⟩
    | succ j =>
      obtain ⟨y,h1,h2⟩:=ih (j:=j) (by simpa using h)
      exact ⟨y,by simpa using h1,h2⟩
end
end L2
namespace L2
open PySem PySem.Spec PyProof.Rows
theorem vals_all:∀ {xs:List V} {us:List Value},xs.length=us.length->(∀ (j:Nat) x u,xs[j]?=some x->us[j]?=some u->RelV x u)->Vals xs us
  | [],[],_,_=>.nil
  | [],_ :: _,h,_=>by simp at h
  | _ :: _,[],h,_=>by simp at h
  | x :: xs,u :: us,h,g=>.cons (g 0 x u rfl rfl) (vals_all (by simpa using h) fun j a b h1 h2=>g (j + 1) a b (by simpa using h1) (by simpa using h2))
section
variable {X:Cx}
def rListD:List V->Hp->VK->Prop:=fun xs H Q=>∃ d kvs,xs=[.ref d]/\H d=some (.dK kvs)/\∀ l,H l=none->Q (.ref l) (upd H l (.lst (kvs.map fun kv=>kV kv.1)))
theorem call_list_dict (hc:X.calm=true):CallR X (.type "list") rListD:=by
  intro pins s σ H xs us Q I r h
  obtain ⟨d,kvs,rfl,hd,q⟩:=h
  obtain ⟨u,rfl,rx⟩:=vals1 r
  cases rx
  obtain ⟨z,hs,ws,rel,dd⟩:=dk_of I.hok hd
  obtain ⟨ep,da⟩:=dd.dictAt
  have wl:=rel.length
  refine PySem.W.kdl_call (PySem.W.kdl_dict (knd:=mixKind X.prog X.w) (kvs:=ws) (ep:=ep) hs) (I.ok.hd hc) da (by lia) fun h' tk acc c hk hS hacc=>?_
  obtain ⟨a1,a2⟩:=hacc
  refine ⟨.ref s.heap.objs.size,_,I.laid (t':=tk) hk (Nat.le_refl _) (show ObjOk X.prog X.w _ h' _ (.lst (kvs.map fun kv=>kV kv.1)) from ⟨by rw [List.length_map]; exact z,acc.toList,c,?_,by rw [Array.toArray_toList]; exact hS⟩),rfl,q _ (I.hok.fresh (Nat.le_refl _))⟩
  have al:acc.toList.length=acc.size:=Array.length_toList
  refine vals_all (by rw [List.length_map,al]; lia) fun j x v h1 h2=>?_
  obtain ⟨k,y,e1,e2⟩:=a2 j v (by rw [<- Array.getElem?_toList]; exact h2)
  obtain ⟨y',e3,_⟩:=rel.get e1
  rw [List.getElem?_map,e3] at h1
  cases h1
  exact kV_of e2
theorem jc_list_dict (hc:X.calm=true):jCa X (.type "list") rListD:=⟨call_list_dict hc⟩
end
end L2
namespace L2
open PySem PySem.Spec PyProof.Rows
def FunO (f:Addr) (fd:FuncData):HO:=.ext fun h=>h.get? f=some { cls:=.type "function",data:=.func fd }
def CodO (c:Addr) (qual:Str):HO:=.ext fun h=>h.CodeRec (.ref c) qual
theorem ok_fun {P:Program} {w:World} {H:Hp} {h:Heap} {f:Addr} {fd:FuncData} (e:h.get? f=some { cls:=.type "function",data:=.func fd }):ObjOk P w H h f (FunO f fd) :=
  ⟨e,⟨_,e⟩,fun _ _ p k=>k _ p⟩
theorem ok_cod {P:Program} {w:World} {H:Hp} {h:Heap} {c:Addr} {qual:Str} (e:h.CodeRec (.ref c) qual):ObjOk P w H h c (CodO c qual) :=
  ⟨e,(let ⟨_,oc,_,_,q,e,_⟩:=e; by cases q; exact ⟨oc,e⟩),fun _ _ ⟨d,oc,vs,t,q,e,r⟩ k=>by cases q; exact ⟨c,oc,vs,t,rfl,k _ e,r⟩⟩
structure CaD (P:Program) (w:World) (K:PySem.W.Frag) (mg:Str->Option Value) (base:Heap) (CX:CXT) (k:Nat) (x:Str) (ps:List Str) (dvs:List V) (sp:Sp):Prop where
  ex:∃ f fd,FnOk P w K mg base CX k f fd ps sp/\Binds K fd ps []/\(∃ ds,Binds K fd ps ds/\Vals dvs ds)/\PySem.W.keepIn K (.ref f)=true/\mg x=some (.ref f)
section
variable {X:Cx} {CX:CXT} {k:Nat} {x:Str} {ps:List Str} {sp:Sp} {dvs:List V} {E:XK} {p pos:Pos} {e:Expr} {es:List Expr} {t:TA}
end
def DdIn (K:PySem.W.Frag) (x:Str) (st:Stmt) (c D:Addr):Prop:=∃ f,PySem.W.nsIn K mainGlobals x=some (some (.ref f))/\∃ (oc:Value) (od:Option Addr) (kV doc pm:Value) (an:Option Addr) (ct:Value) (osl:Array (Option Value)),K.lookup f=some ⟨oc,od,.func (PySem.W.fnOf x x (defArgs st) (defBody st) (defScope st) (.ref D) kV doc pm an (.ref c) ct),osl⟩/\PySem.W.codeIn K (.ref c) x=true/\PySem.W.keepIn K (.ref f)=true
theorem DdIn.mk {K:PySem.W.Frag} {x:Str} {st:Stmt} {f c D:Addr} {oc:Value} {od:Option Addr} {kV doc pm:Value} {an:Option Addr} {ct:Value} {osl:Array (Option Value)} (a:PySem.W.nsIn K mainGlobals x=some (some (.ref f))) (l:K.lookup f=some ⟨oc,od,.func (PySem.W.fnOf x x (defArgs st) (defBody st) (defScope st) (.ref D) kV doc pm an (.ref c) ct),osl⟩) (cc:PySem.W.codeIn K (.ref c) x=true) (k:PySem.W.keepIn K (.ref f)=true):DdIn K x st c D:=⟨f,a,oc,od,kV,doc,pm,an,ct,osl,l,cc,k⟩
structure FunD (K:PySem.W.Frag) (x:Str) (st:Stmt) (c D f:Addr) (fd:FuncData):Prop where
  ex:∃ (oc:Value) (od:Option Addr) (kV doc pm:Value) (an:Option Addr) (ct:Value) (osl:Array (Option Value)),fd=PySem.W.fnOf x x (defArgs st) (defBody st) (defScope st) (.ref D) kV doc pm an (.ref c) ct/\K.lookup f=some ⟨oc,od,.func fd,osl⟩/\PySem.W.codeIn K (.ref c) x=true
theorem FunD.by {P:Program} {w:World} {K:PySem.W.Frag} {mg:Str->Option Value} {base:Heap} {x:Str} {st:Stmt} {f c D:Addr} {fd:FuncData} {N ps:List Str} {k:Nat} {sp:Sp} (F:FunD K x st c D f fd) (S:FnScope N ps (defScope st)) (len:∀ vs H Q E,sp vs H Q E->vs.length=ps.length)
    (hbody:∀ (A:Around) (outer:List Env) (s:Shared) (H:Hp) (vs:List V) (Q:VK) (E:XK),Room k (A.deeper (envOfC x (defScope st) s.heap.objs.size f (.ref c)))->sp vs H Q E ->
      ∃ t,jSs (cxOf CX0 P w K mg base N x (defScope st) f (.ref c) A outer s H E).nox (defBody st) t/\t { nx:=fun _ H'=>Q .non H',rt:=Q } (start N vs) H):FnOk P w K mg base CX0 (k + 1) f fd ps sp:=by
  obtain ⟨oc,od,kV,doc,pm,an,ct,osl,rfl,lk,hcd⟩:=F.ex
  refine fn_of lk hcd S len fun A outer s H vs Q E hr hsp=>?_
  obtain ⟨t,h,q⟩:=hbody A outer s H vs Q E hr hsp
  exact ⟨t,h.out.nox,q⟩
def DtIn (K:PySem.W.Frag) (D:Addr) (i:Int):Prop:=∃ (d:Option Addr) (t:Tok) (n:Nat) (sl:Array (Option Value)),K.lookup D=some ⟨.type "tuple",d,.seq #[.int i t] n,sl⟩
theorem DtIn.mk {K:PySem.W.Frag} {D:Addr} {i:Int} {d:Option Addr} {t:Tok} {n:Nat} {sl:Array (Option Value)} (a:K.lookup D=some ⟨.type "tuple",d,.seq #[.int i t] n,sl⟩):DtIn K D i:=⟨d,t,n,sl,a⟩
theorem DdIn.ca {P:Program} {w:World} {K:PySem.W.Frag} {mg:Str->Option Value} {base h:Heap} {k:Nat} {x:Str} {st:Stmt} {c D:Addr} {ps:List Str} {dvs:List V} {sp:Sp} (X:K.In h) (G:h.Ns mainGlobals mg) (d:DdIn K x st c D)
    (hb:∀ (kV doc pm:Value) (an:Option Addr) (ct:Value),Binds K (PySem.W.fnOf x x (defArgs st) (defBody st) (defScope st) (.ref D) kV doc pm an (.ref c) ct) ps [])
    (hd:∀ (kV doc pm:Value) (an:Option Addr) (ct:Value),∃ ds,Binds K (PySem.W.fnOf x x (defArgs st) (defBody st) (defScope st) (.ref D) kV doc pm an (.ref c) ct) ps ds/\Vals dvs ds)
    (ok:∀ f fd,FunD K x st c D f fd->FnOk P w K mg base CX0 k f fd ps sp):CaD P w K mg base CX0 k x ps dvs sp:=by
  obtain ⟨f,a,oc,od,kV,doc,pm,an,ct,osl,l,cc,kp⟩:=d
  exact ⟨f,_,ok f _ ⟨oc,od,kV,doc,pm,an,ct,osl,rfl,l,cc⟩,hb kV doc pm an ct,hd kV doc pm an ct,kp,PySem.W.mg_of X G a⟩
end L2
namespace L2
open PySem PySem.Spec PyProof.Rows
section
variable {prog:Program} {w:World} {A:Around} {E:Value->Shared->Prop}
end
inductive TyN (H:Hp):V->Bool->Prop where
  | int (i:Int):TyN H (.int i) false
  | str (z:Str):TyN H (.str z) false
  | bl (b:Bool):TyN H (.bl b) false
  | non:TyN H .non false
  | lst {a:Addr} {xs:List V} (e:H a=some (.lst xs)):TyN H (.ref a) true
  | tup {a:Addr} {xs:List V} (e:H a=some (.tup xs)):TyN H (.ref a) true
section
variable {X:Cx}
variable {CX:CXT} {k:Nat} {C:Addr} {ps:List Str} {sp:Sp} {E:XK} {x m:Str} {p pos apos:Pos} {e o:Expr} {es:List Expr} {ta:TE} {t:TA}
structure MeD (P:Program) (w:World) (K:PySem.W.Frag) (mg:Str->Option Value) (base:Heap) (CX:CXT) (k:Nat) (C:Addr) (m:Str) (ps:List Str) (dvs:List V) (sp:Sp):Prop where
  ex:∃ f fd,FnOk P w K mg base CX k f fd ps sp/\Binds K fd ps []/\(∃ ds,Binds K fd ps ds/\Vals dvs ds)/\Meth K C m f
theorem je_dget {o i:Expr} {td ty:TE} {pos:Pos} (hr:Room k X.A) (ho:jE X o td) (hi:jE X i ty) (hs:NoSl i:=by intro _ _; rfl):jE X (.Subscript o i pos) (tDGet td ty):=⟨pe_dget (hu_of hr) ho.out hi.out hs⟩
theorem je_dget2 {o e f:Expr} {td ty tx:TE} {apos cpos:Pos} (hr:Room k X.A) (ho:jE X o td) (he:jE X e ty) (hf:jE X f tx) (m:M2 X o "get" apos e f cpos:=by exact ⟨rfl,rfl,rfl,rfl⟩):jE X (.Call (.Attribute o "get" apos) [e,f] [] cpos) (tDGet2 td ty tx):=⟨pe_dget2 (hu_of hr) ho.out he.out hf.out m⟩
end
section
variable {g:TG} {tt:TT} {te:TE} {Q:VK} {σ:St} {H:Hp}
theorem lc_zip {K:PySem.W.Frag} {k m:Bool} {a b:Addr} {xs ys:List V} (hlen:xs.length=ys.length) (Pv:Nat->St->List V->Hp->Prop) (h0:Pv 0 σ [] H) (hl:∀ i τ zs H,i<=xs.length->Pv i τ zs H->SqK k K H a xs/\SqK m K H b ys)
    (hs:∀ i x y T τ zs H,xs[i]?=some x->ys[i]?=some y->H T=none->Pv i τ zs H->g (.ref T) τ (upd H T (.tup [x,y])) fun τ2 H2=>tt τ2 H2 fun b H3=>if b=true then te τ2 H3 fun y H4=>zs.length < sizeLine/\Pv (i + 1) τ2 (zs ++ [y]) H4 else Pv (i + 1) τ2 zs H3)
    (hd:∀ τ zs H,Pv xs.length τ zs H->∀ p,H p=none->Q (.ref p) (upd H p (.lst zs))):∃ W,(∃ m,W 0 m σ [] H)/\lcBy (Itz K k m a b) g tt te Q W:=by
  refine ⟨fun i m τ zs H=>m=xs.length - i/\i<=xs.length/\Pv i τ zs H,⟨xs.length,by simp,Nat.zero_le _,h0⟩,?_⟩
  rintro i n τ zs H ⟨rfl,hi,p⟩
  obtain ⟨q1,q2⟩:=hl i τ zs H hi p
  by_cases hlt:i < xs.length
  · refine .inr ⟨⟨xs,ys,xs[i],ys[i]'(by lia),q1,q2,by simp [hlt],by simp [<- hlen,hlt]⟩,Pv (i + 1),fun τ' zs' H' p'=>⟨xs.length - (i + 1),by lia,rfl,hlt,p'⟩,fun x H' y=>?_⟩
    obtain ⟨T,x,y,rfl,hT,rfl,e1,e2⟩:=y
    exact hs i x y T τ zs H (e1 xs q1) (e2 ys q2) hT p
  · have e:i=xs.length:=by lia
    subst e
    exact .inl ⟨⟨xs,ys,q1,q2,.inl (Nat.le_refl _)⟩,hd τ zs H p⟩
end
structure FunM (K:PySem.W.Frag) (x qual:Str) (st:Stmt) (D f:Addr) (fd:FuncData):Prop where
  ex:∃ (oc:Value) (od:Option Addr) (kV doc pm:Value) (an:Option Addr) (cdv ct:Value) (osl:Array (Option Value)),fd=PySem.W.fnOf x qual (defArgs st) (defBody st) (defScope st) (.ref D) kV doc pm an cdv ct/\K.lookup f=some ⟨oc,od,.func fd,osl⟩/\PySem.W.codeIn K cdv qual=true
theorem FunM.by {P:Program} {w:World} {K:PySem.W.Frag} {mg:Str->Option Value} {base:Heap} {x qual:Str} {st:Stmt} {f D:Addr} {fd:FuncData} {N ps:List Str} {k:Nat} {sp:Sp} (F:FunM K x qual st D f fd) (S:FnScope N ps (defScope st)) (len:∀ vs H Q E,sp vs H Q E->vs.length=ps.length)
    (hbody:∀ (cdv:Value) (A:Around) (outer:List Env) (s:Shared) (H:Hp) (vs:List V) (Q:VK) (E:XK),Room k (A.deeper (envOfC qual (defScope st) s.heap.objs.size f cdv))->sp vs H Q E ->
      ∃ t,jSs (cxOf CX0 P w K mg base N qual (defScope st) f cdv A outer s H E).nox (defBody st) t/\t { nx:=fun _ H'=>Q .non H',rt:=Q } (start N vs) H):FnOk P w K mg base CX0 (k + 1) f fd ps sp:=by
  obtain ⟨oc,od,kV,doc,pm,an,cdv,ct,osl,rfl,lk,hcd⟩:=F.ex
  refine fn_of lk hcd S len fun A outer s H vs Q E hr hsp=>?_
  obtain ⟨t,h,q⟩:=hbody cdv A outer s H vs Q E hr hsp
  exact ⟨t,h.out.nox,q⟩
def MdIn (K:PySem.W.Frag) (C:Addr) (x qual:Str) (st:Stmt) (D:Addr):Prop:=∃ f,PySem.W.findIn K (.ref C) x=some (some (.ref f))/\PySem.W.isFn K (.ref f)=true/\∃ (oc:Value) (od:Option Addr) (kV doc pm:Value) (an:Option Addr) (cdv ct:Value) (osl:Array (Option Value)),K.lookup f=some ⟨oc,od,.func (PySem.W.fnOf x qual (defArgs st) (defBody st) (defScope st) (.ref D) kV doc pm an cdv ct),osl⟩/\PySem.W.codeIn K cdv qual=true/\PySem.W.keepIn K (.ref f)=true
theorem MdIn.mk {K:PySem.W.Frag} {C:Addr} {x qual:Str} {st:Stmt} {f D:Addr} {oc:Value} {od:Option Addr} {kV doc pm:Value} {an:Option Addr} {cdv ct:Value} {osl:Array (Option Value)} (a:PySem.W.findIn K (.ref C) x=some (some (.ref f))) (l:K.lookup f=some ⟨oc,od,.func (PySem.W.fnOf x qual (defArgs st) (defBody st) (defScope st) (.ref D) kV doc pm an cdv ct),osl⟩) (c:PySem.W.codeIn K cdv qual=true) (k:PySem.W.keepIn K (.ref f)=true) (n:PySem.W.isFn K (.ref f)=true):MdIn K C x qual st D:=⟨f,a,n,oc,od,kV,doc,pm,an,cdv,ct,osl,l,c,k⟩
def DnIn (K:PySem.W.Frag) (D:Addr):Prop:=∃ (d:Option Addr) (n:Nat) (sl:Array (Option Value)),K.lookup D=some ⟨.type "tuple",d,.seq #[.none] n,sl⟩
theorem DnIn.mk {K:PySem.W.Frag} {D:Addr} {d:Option Addr} {n:Nat} {sl:Array (Option Value)} (a:K.lookup D=some ⟨.type "tuple",d,.seq #[.none] n,sl⟩):DnIn K D:=⟨d,n,sl,a⟩
end L2
namespace L2
open PySem PySem.Spec PyProof.Rows
section
variable {X:Cx} {k:Nat} {o e f i:Expr} {td ty tx:TE} {apos cpos pos:Pos}
theorem je_dget1 (hr:Room k X.A) (ho:jE X o td) (he:jE X e ty) (m:M1 X o "get" apos e cpos:=by exact ⟨rfl,rfl,rfl,rfl⟩):jE X (.Call (.Attribute o "get" apos) [e] [] cpos) (tDGet1 td ty):=⟨pe_dget1 (hu_of hr) ho.out he.out m⟩
end
end L2
namespace L2
open PySem PySem.Spec PyProof.Rows
section
variable {X:Cx} {pins:List (Addr × Obj)} {σ:St} {H:Hp} {s:Shared} {d:Addr} {kvs:List (Key × V)} {tg:Expr}
theorem Inv.freeze (I:Inv X pins σ H s) (e:H d=some (.dK kvs)):∃ ob,s.heap.get? d=some ob/\Inv X pins σ (upd H d (.frz ob (.dK kvs))) s:=by
  have ok:=I.hok d _ e
  obtain ⟨_,_,vs,r,ob,es,ep,g,c⟩:=id (show ObjOk X.prog X.w H s.heap d (.dK kvs) from ok)
  refine ⟨ob,g,?_⟩
  have tu:∀ b xs,H b=some (.tup xs)->upd H d (.frz ob (.dK kvs)) b=some (.tup xs):=fun b xs q=>by rw [upd_ne (ne_of q e (by intro z; cases z))]; exact q
  have ow:∀ b a,H b=some (.own a)->upd H d (.frz ob (.dK kvs)) b=some (.own a):=fun b a q=>by rw [upd_ne (ne_of q e (by intro z; cases z))]; exact q
  refine I.step (h':=s.heap) (g':=s.gens) (d':=s.drawn) (t':=s.toks) (ch:=[]) (fun _ z=>nomatch z) (fun b o _ _ _ q _=>q) (fun b o _ _ _ q _=>⟨o.slots,q⟩) (fun b o _ _ n=>by rw [upd_ne (Ne.symm (ne_of_none e n))]; exact n) (fun b o _ q=>⟨o,q⟩) tu (fun b o u q=>by rw [upd_ne (ne_of q e (by intro z; cases z))]; exact q) (fun b ps q=>⟨#[],by rw [upd_ne (ne_of q e (by intro z; cases z)),Array.append_empty]; exact q⟩) (fun m n=>n) (fun b o q=>?_) I.bare
  by_cases c:b=d
  · subst c
    rw [upd_same] at q
    cases q
    exact ⟨g,ok.stay (fun _ _ _ q=>q) (fun b q=>ow b _ q) tu⟩
  · rw [upd_ne c] at q
    exact (I.hok b o q).stay (fun _ _ _ q=>q) (fun b' q=>ow b' _ q) tu
def Itd (d:Addr) (ob:Obj) (kvs:List (Key × V)):It :=
  ⟨fun i H=>i < kvs.length/\H d=some (.frz ob (.dK kvs)),fun i H x H'=>H'=H/\∃ kv,kvs[i]?=some kv/\x=kV kv.1,fun i H=>kvs.length<=i/\H d=some (.frz ob (.dK kvs))⟩
theorem turn_dict {P:Program} {w:World} {K:PySem.W.Frag} (it:Addr) {ob:Obj} {es:Array DictEntry} {ep:Nat} (hob:ob.data=.dict es ep):Turn P w K tg (Itd d ob kvs) [it] it (fun i h=>h.IsKeyIter it d i kvs.length ep) where
  mem:=by simp
  obj:=fun i h st b hb=>by
    have e:b=it:=by simpa using hb
    subst e
    obtain ⟨o,e,c,d⟩:=st
    exact ⟨o,e,fun v z=>by rw [d] at z; cases z⟩
  keep:=fun i h h' st k=>st.at fun o e=>k it (by simp) o e
  item:=by
    intro X hP hw hK hc i pins s σ H E I hf st hg
    subst hP hw hK
    obtain ⟨hi,hd⟩:=hg
    obtain ⟨g,_,_,vs,r,ob',es',ep',g',c1,c2,c3⟩:=(show ObjOk X.prog X.w H s.heap d (.frz ob (.dK kvs)) from I.hok d _ hd)
    have eo:ob'=ob:=by rw [g] at g'; injection g' with g'; exact g'.symm
    subst eo
    rw [hob] at c2
    injection c2 with c2 c2'
    subst c2 c2'
    have dat:s.heap.DictAt (mixKind X.prog X.w) d vs ep:=⟨ob',es,g,c1,hob,c3⟩
    have hl:=r.length
    obtain ⟨⟨k,u⟩,hu⟩:∃ p,vs[i]?=some p:=⟨vs[i]'(by lia),by rw [List.getElem?_eq_getElem]⟩
    obtain ⟨x,hx,_⟩:=r.get hu
    obtain ⟨f0,f1,f2,f3,f4,f5⟩:=hf it (by simp)
    have st':s.heap.IsKeyIter it d i vs.length ep:=by rw [<- hl]; exact st
    refine wpAny_pyNext_dict_item st' dat hu fun key h' hkey hit' hs'=>?_
    have I1:Inv X pins σ H { s with heap:=h' }:=I.turned (t':=s.toks) (fun b o hb e=>hs'.extBut b o hb e) f0 f1 f3 f4 f5
    obtain ⟨o,e,c,dd⟩:=id hit'
    refine ⟨key,rfl,go_of (s:={ s with heap:=h' }) e c dd (by decide) ⟨kV k,H,I1,?_,⟨rfl,_,hx,rfl⟩,by rw [hl]; exact hit',fun b hb=>(hf b hb).1⟩⟩
    exact kV_of hkey
  done:=by
    intro X hP hw hK hc i pins s σ H E I hf st hg
    subst hP hw hK
    obtain ⟨hi,hd⟩:=hg
    obtain ⟨g,_,_,vs,r,ob',es',ep',g',c1,c2,c3⟩:=(show ObjOk X.prog X.w H s.heap d (.frz ob (.dK kvs)) from I.hok d _ hd)
    have eo:ob'=ob:=by rw [g] at g'; injection g' with g'; exact g'.symm
    subst eo
    rw [hob] at c2
    injection c2 with c2 c2'
    subst c2 c2'
    have dat:s.heap.DictAt (mixKind X.prog X.w) d vs ep:=⟨ob',es,g,c1,hob,c3⟩
    have hl:=r.length
    obtain ⟨f0,f1,f2,f3,f4,f5⟩:=hf it (by simp)
    have st':s.heap.IsKeyIter it d i vs.length ep:=by rw [<- hl]; exact st
    exact wpAny_pyNext_dict_end (I.ok.hd hc) st' dat (List.getElem?_eq_none (by lia)) fun h' eb=>⟨rfl,I.turned (t':=s.toks) (fun b o hb e=>eb b o hb e) f0 f1 f3 f4 f5⟩
  self:=fun _ _ _ _ _ st h=>wpAny_pyIter_keyiter st h
def iDict (tl:TE):TI:=fun σ H R=>tl σ H fun x H1=>∃ a kvs,x=.ref a/\H1 a=some (.dK kvs)/\∀ ob,R (Itd a ob kvs) (upd H1 a (.frz ob (.dK kvs)))
theorem pi_dict {l:Expr} {tl:TE} (hl:PE X l tl):PI X tg l (iDict tl):=by
  intro pins s σ H R I h
  refine thn (hl pins s σ H _ I h) fun v s1 ⟨x,H1,I1,r1,q1⟩=>?_
  obtain ⟨a,kvs,e,hq,q⟩:=q1
  subst e
  cases r1
  obtain ⟨_,hs,vs,r,ob',es,ep,g',c1,c2,c3⟩:=(show ObjOk X.prog X.w H1 s1.heap a (.dK kvs) from I1.hok a _ hq)
  obtain ⟨ob,g,I2⟩:=I1.freeze hq
  have eo:ob'=ob:=by rw [g] at g'; injection g' with g'; exact g'.symm
  subst eo
  have dat:s1.heap.DictAt (mixKind X.prog X.w) a vs ep:=⟨ob',es,g,c1,c2,c3⟩
  have hl:=r.length
  refine wpAny_pyIter_dict hs dat ?_
  refine ⟨s1.heap.objs.size,[s1.heap.objs.size],_,_,_,rfl,I2.kept (t':=s1.toks) fun b o e=>Heap.get?_push_of_some _ e,turn_dict _ c2,?_,fun b hb=>?_,q ob'⟩
  · rw [hl]
    exact ⟨_,Heap.get?_push_size _ rfl,rfl,rfl⟩
  have e:b=s1.heap.objs.size:=by simpa using hb
  subst e
  exact I2.fpOk (Nat.le_refl _) (I2.hok.fresh (Nat.le_refl _))
theorem ji_dict {l:Expr} {tl:TE} (hl:jE X l tl):jI X tg l (iDict tl):=⟨pi_dict hl.out⟩
end
section
variable {σ:St} {H:Hp} {g:TG} {tt:TT} {te:TE} {Q:VK}
theorem lc_dict {d:Addr} {ob:Obj} {kvs:List (Key × V)} (Pv:Nat->St->List V->Hp->Prop) (h0:Pv 0 σ [] H) (hl:∀ i τ ys H,i<=kvs.length->Pv i τ ys H->H d=some (.frz ob (.dK kvs)))
    (hs:∀ i kv τ ys H,kvs[i]?=some kv->Pv i τ ys H->g (kV kv.1) τ H fun τ2 H2=>tt τ2 H2 fun b H3=>if b=true then te τ2 H3 fun y H4=>ys.length < sizeLine/\Pv (i + 1) τ2 (ys ++ [y]) H4 else Pv (i + 1) τ2 ys H3)
    (hd:∀ τ ys H,Pv kvs.length τ ys H->∀ p,H p=none->Q (.ref p) (upd H p (.lst ys))):∃ W,(∃ m,W 0 m σ [] H)/\lcBy (Itd d ob kvs) g tt te Q W:=by
  refine ⟨fun i m τ ys H=>m=kvs.length - i/\i<=kvs.length/\Pv i τ ys H,⟨kvs.length,by simp,Nat.zero_le _,h0⟩,?_⟩
  rintro i m τ ys H ⟨rfl,hi,p⟩
  have q:=hl i τ ys H hi p
  by_cases hlt:i < kvs.length
  · refine .inr ⟨⟨hlt,q⟩,Pv (i + 1),fun τ' ys' H' p'=>⟨kvs.length - (i + 1),by lia,rfl,hlt,p'⟩,fun x H' y=>?_⟩
    obtain ⟨e,kv,y,rfl⟩:=y
    subst e
    exact hs i kv τ ys _ y p
  · have e:i=kvs.length:=by lia
    subst e
    exact .inl ⟨⟨Nat.le_refl _,q⟩,hd τ ys H p⟩
end
end L2
namespace L2
open PySem PySem.Spec PyProof.Rows
end L2
namespace L2
open PySem PySem.Spec PyProof.Rows
section
variable {X:Cx} {tg:Expr}
end
end L2
namespace L2
open PySem PySem.Spec PyProof.Rows
section
variable {X:Cx} {pins:List (Addr × Obj)} {σ:St} {H:Hp} {s:Shared} {d:Addr} {kvs:List (Key × V)} {ob:Obj}
theorem Inv.thaw (I:Inv X pins σ H s) (n:∀ o u,X.H₀ d≠some (.frz o u)) (e:H d=some (.frz ob (.dK kvs))):Inv X pins σ (upd H d (.dK kvs)) s:=by
  have ok:=(show s.heap.get? d=some ob/\ObjOk X.prog X.w H s.heap d (.dK kvs) from I.hok d _ e).2
  have tu:∀ b xs,H b=some (.tup xs)->upd H d (.dK kvs) b=some (.tup xs):=fun b xs q=>by rw [upd_ne (ne_of q e (by intro z; cases z))]; exact q
  have ow:∀ b a,H b=some (.own a)->upd H d (.dK kvs) b=some (.own a):=fun b a q=>by rw [upd_ne (ne_of q e (by intro z; cases z))]; exact q
  have fr:∀ b,H b=none->upd H d (.dK kvs) b=none:=fun b q=>by rw [upd_ne (Ne.symm (ne_of_none e q))]; exact q
  refine ⟨I.ok,I.os,I.bare,⟨I.base.keep,I.base.slot,fun b o a1 a2 a3=>fr b (I.base.free b o a1 a2 a3),I.base.there,fun b xs q=>tu b xs (I.base.tups b xs q),fun b o u q=>?_,fun b ps q=>?_⟩,I.loc,I.cell,fr _ I.free,fun x c q=>fr _ (I.freeC x c q),fun p hp=>?_,fun b o q=>?_,I.len⟩
  · have nb:b≠d:=fun z=>n o u (by rw [<- z]; exact q)
    rw [upd_ne nb]
    exact I.base.frzs b o u q
  · obtain ⟨m,h⟩:=I.base.tbls b ps q
    exact ⟨m,by rw [upd_ne (ne_of h e (by intro z; cases z))]; exact h⟩
  · obtain ⟨a,b,c⟩:=I.pin p hp
    exact ⟨a,fr _ b,c⟩
  · by_cases c:b=d
    · subst c
      rw [upd_same] at q
      cases q
      exact ok.stay (fun _ _ _ q=>q) (fun b q=>ow b _ q) tu
    · rw [upd_ne c] at q
      exact (I.hok b o q).stay (fun _ _ _ q=>q) (fun b' q=>ow b' _ q) tu
def tThaw (H0:Hp) (t:TS):TS:=fun D σ H=>t { D with nx:=fun σ' H'=>∃ d ob kvs,H' d=some (.frz ob (.dK kvs))/\(∀ o u,H0 d≠some (.frz o u))/\D.nx σ' (upd H' d (.dK kvs)) } σ H
theorem js_thaw {st:Stmt} {t:TS} (H0:Hp) (h:jS X st t) (e0:X.H₀=H0:=by rfl):jS X st (tThaw H0 t):=⟨by
  intro pins s σ H D I q
  refine thn (h.out pins s σ H _ I q) fun f s1 q=>?_
  cases f with
  | next =>
    obtain ⟨σ',H',I1,d,ob,kvs,g1,g2,g3⟩:=q
    exact ⟨σ',_,I1.thaw (by rw [e0]; exact g2) g1,g3⟩
  | ret v=>exact q
  | brk=>exact q
  | cont=>exact q⟩
end
end L2
namespace L2
open PySem
section
variable {a b c d e u:TS} {D:Ends} {σ:List (Option V)} {H:Hp}
theorem cut1 (h:∀ v:TS,u=v->(tSeq a v:TS) D σ H):(tSeq a u:TS) D σ H:=h u rfl
theorem cut2 (h:∀ v:TS,u=v->(tSeq a (tSeq b v):TS) D σ H):(tSeq a (tSeq b u):TS) D σ H:=h u rfl
theorem cut4 (h:∀ v:TS,u=v->(tSeq a (tSeq b (tSeq c (tSeq d v))):TS) D σ H):(tSeq a (tSeq b (tSeq c (tSeq d u))):TS) D σ H:=h u rfl
theorem cut5 (h:∀ v:TS,u=v->(tSeq a (tSeq b (tSeq c (tSeq d (tSeq e v)))):TS) D σ H):(tSeq a (tSeq b (tSeq c (tSeq d (tSeq e u)))):TS) D σ H:=h u rfl
theorem ixT {K:PySem.W.Frag} {Q:VK} {p:Addr} {xs:List V} {i:Int} {v:V} (h:H p=some (.tup xs)) (a:atI xs i=some v) (q:Q v H):tC (.int i) σ H fun y H2=>rIxT K (.ref p) y H2 Q:=⟨p,xs,i,v,rfl,rfl,SqT.of h,a,q⟩
theorem ixL {K:PySem.W.Frag} {Q:VK} {p:Addr} {xs:List V} {i:Int} {v:V} (h:H p=some (.lst xs)) (a:atI xs i=some v) (q:Q v H):tC (.int i) σ H fun y H2=>rIxL K (.ref p) y H2 Q:=⟨p,xs,i,v,rfl,rfl,SqL.of h,a,q⟩
theorem nxtC {E:Ends} (h:E.nx σ H):tNext E σ H:=h
end
end L2
namespace L2
open PySem PySem.Spec PyProof.Rows
section
variable {X:Cx} {pos:Pos}
theorem jx_tupK (K:PySem.W.Frag) (h:X.K=K:=by rfl):jIx X (rIxT K):=h ▸ jx_tup
theorem jx_listK (K:PySem.W.Frag) (h:X.K=K:=by rfl):jIx X (rIxL K):=h ▸ jx_list
theorem jl_listK (K:PySem.W.Frag) (h:X.K=K:=by rfl):jSl X (rSlL K):=h ▸ jl_list
theorem jo_inK (K:PySem.W.Frag) (h:X.K=K:=by rfl):jOp X (compareOp .In) (rIn K false):=h ▸ jo_in_seq
theorem jo_notInK (K:PySem.W.Frag) (h:X.K=K:=by rfl):jOp X (compareOp .NotIn) (rIn K true):=h ▸ jo_notIn_seq
theorem jo_catTK (K:PySem.W.Frag) (h:X.K=K:=by rfl):jOp X (binaryOp .Add) (rCatT K):=h ▸ jo_catT
theorem jg_tupK (K:PySem.W.Frag) {es:List Expr} {k:Nat} {gs:TGs} {n:Nat} (hc:X.calm=true) (g:jGs X es gs) (h:X.K=K:=by rfl) (hn:(assignEach es X.env).length=n:=by rfl) (hst:(assignEach es X.env).findIdx? (·.1)=none:=by rfl):jG X (.Tuple es k pos) (gTup K n gs):=h ▸ jg_tup hc g hn hst
theorem jc_len_seqK (K:PySem.W.Frag) (h:X.K=K:=by rfl):jCa X (.builtin "len") (fun xs H Q=>∃ p ys,xs=[.ref p]/\(SqL K H p ys\/SqT K H p ys)/\Q (.int ys.length) H):=h ▸ jc_len_seq
theorem jc_isinstK (K:PySem.W.Frag) (h:X.K=K:=by rfl):jCa X (.builtin "isinstance") (fun xs H Q=>∃ x t T b,xs=[x,.ty T]/\TyOf K H x t/\PySem.W.kitOne K t (.type T)=some b/\Q (.bl b) H):=h ▸ jc_isinst
theorem jc_tuple_ofK (K:PySem.W.Frag) (h:X.K=K:=by rfl):jCa X (.type "tuple") (fun xs H Q=>∃ p ys,xs=[.ref p]/\((SqL K H p ys/\∀ l,H l=none->Q (.ref l) (upd H l (.tup ys)))\/(SqT K H p ys/\Q (.ref p) H))):=h ▸ jc_tuple_of
theorem jc_list_ofK (K:PySem.W.Frag) (h:X.K=K:=by rfl):jCa X (.type "list") (fun xs H Q=>∃ p ys,xs=[.ref p]/\(SqL K H p ys\/SqT K H p ys)/\∀ l,H l=none->Q (.ref l) (upd H l (.lst ys))):=h ▸ jc_list_of
theorem je_fldK (K:PySem.W.Frag) {e:Expr} {ta:TE} {f:Str} (he:jE X e ta) (h:X.K=K:=by rfl) (hb:attributeBase e f X.env (eval e X.env)=eval e X.env:=by rfl):jE X (.Attribute e f pos) (tFld K ta f):=h ▸ je_fld he hb
end
end L2
namespace L2
open PySem PySem.Spec PyProof.Rows
def CelO (c:Addr) (v:V):HO:=.ext fun h=>∃ u,RelV v u/\h.IsCell c (some u)
def Cel (H:Hp) (c:Addr) (v:V):Prop:=∃ o,H c=some (.frz o (CelO c v))
theorem ok_cel {P:Program} {w:World} {H:Hp} {h:Heap} {c:Addr} {v:V} {u:Value} {o:Obj} (e:h.get? c=some o) (d:o.data=.cell (some u)) (r:RelV v u):ObjOk P w H h c (.frz o (CelO c v)) :=
  ⟨e,⟨u,r,o,e,d⟩,⟨o,e⟩,fun _ _ ⟨u,r,o,e,d⟩ k=>⟨u,r,o,k _ e,d⟩⟩
def maskH (H:Hp) (as:List Addr):Hp:=fun b=>if b∈as then none else H b
def plusH (H' H:Hp) (as:List Addr):Hp:=fun b=>if b∈as then H b else H' b
theorem mask_in {H:Hp} {as:List Addr} {b:Addr} (h:b∈as):maskH H as b=none:=if_pos h
theorem mask_out {H:Hp} {as:List Addr} {b:Addr} (h:b ∉ as):maskH H as b=H b:=if_neg h
theorem plus_in {H' H:Hp} {as:List Addr} {b:Addr} (h:b∈as):plusH H' H as b=H b:=if_pos h
theorem plus_out {H' H:Hp} {as:List Addr} {b:Addr} (h:b ∉ as):plusH H' H as b=H' b:=if_neg h
abbrev lamC (mg:Str->Option Value) (qual:Str) (params:Arguments) (body:Expr) (scope:Scope) (cl:List (Str × Addr)) (c:Addr) (ctv:Value):FuncData:=PySem.W.kla_fn "<lambda>" qual params body scope cl ((mg "__name__").getD .none) (.ref c) ctv
def tLamC (mg:Str->Option Value) (T:Addr) (qual:Str) (params:Arguments) (body:Expr) (scope:Scope) (pos:Pos) (cl:List (Str × Addr)):TE:=fun _ H Q=>∃ ps,H T=some (.tbl ps)/\TriplesOk ps.toList /\
  ((codeAmong pos ps.toList=none/\∀ (c f:Addr) (ctv:Value),H c=none->H f=none->f≠c->Q (.ref f) (upd (upd (upd H T (.tbl (ps ++ #[rawInt pos.line,rawInt pos.col,.ref c]))) c (CodO c qual)) f (FunO f (lamC mg qual params body scope cl c ctv)))) \/
   (∃ c,codeAmong pos ps.toList=some (.ref c)/\∀ (f:Addr) (ctv:Value),H f=none->Q (.ref f) (upd H f (FunO f (lamC mg qual params body scope cl c ctv)))))
theorem pe_lamC {X:Cx} {cl:List (Str × Addr)} {c T:Addr} {params:Arguments} {body:Expr} {scope:Scope} {pos:Pos} {qual:Str} (hB:BMn X.mg X.base) (hcode:X.env.code=.ref c) (hc:PySem.W.codeHdIn X.K c T=true) (hq:X.env.qual ++ "<lambda>"=qual)
    (hdef:defaultsOf params X.env=([],[])) (hcl:closureFor scope X.env=pure cl):PE X (.Lambda params body scope pos) (tLamC X.mg T qual params body scope pos cl):=by
  intro pins s σ H Q I h
  refine PySem.W.kla_eval hdef ?_
  rw [hq]
  obtain ⟨ps,hT,tr,h⟩:=h
  have gT:s.heap.get? T=some { cls:=.none,data:=.fields ps }:=I.hok T _ hT
  have hg:=I.mod.glob.keeps I.bk
  obtain ⟨bAt,hgP⟩:=(hB.keeps I.bk).at hg gT
  rcases h with ⟨nf,h⟩ | ⟨c',hit,h⟩
  · refine PySem.W.kla_makeFunction (mg:=X.mg) hcl I.ok.glob hg hcode (PySem.W.codeHd_of_K I.kIn hc) gT tr nf hgP bAt fun c' ctv h' tk ext ge lt rec tab=>?_
    have hc0:H c'=none:=I.hok.fresh ge
    have hf0:H h'.objs.size=none:=I.hok.fresh (Nat.le_trans ge (Nat.le_of_lt lt))
    have nfc:h'.objs.size≠c':=Nat.ne_of_gt lt
    have ncT:T≠c':=ne_of_none hT hc0
    have nfT:T≠h'.objs.size:=ne_of_none hT hf0
    have elsewhere:∀ b,b≠T->b≠c'->b≠h'.objs.size->upd (upd (upd H T (.tbl (ps ++ #[rawInt pos.line,rawInt pos.col,.ref c']))) c' (CodO c' qual)) h'.objs.size (FunO h'.objs.size (lamC X.mg qual params body scope cl c' ctv)) b=H b:=fun b h1 h2 h3=>by rw [upd_ne h3,upd_ne h2,upd_ne h1]
    have hU:∀ b u,H b=some u->b≠T->upd (upd (upd H T (.tbl (ps ++ #[rawInt pos.line,rawInt pos.col,.ref c']))) c' (CodO c' qual)) h'.objs.size (FunO h'.objs.size (lamC X.mg qual params body scope cl c' ctv)) b=some u:=fun b u e n=>by
      rw [elsewhere b n (ne_of_none e hc0) (ne_of_none e hf0)]; exact e
    have hTb:upd (upd (upd H T (.tbl (ps ++ #[rawInt pos.line,rawInt pos.col,.ref c']))) c' (CodO c' qual)) h'.objs.size (FunO h'.objs.size (lamC X.mg qual params body scope cl c' ctv)) T=some (.tbl (ps ++ #[rawInt pos.line,rawInt pos.col,.ref c'])):=by
      rw [upd_ne nfT,upd_ne ncT]; exact upd_same
    have keep:∀ b o,b≠T->s.heap.get? b=some o->(h'.push (PySem.W.kla_obj "<lambda>" qual params body scope cl ((X.mg "__name__").getD .none) c' ctv)).get? b=some o:=fun b o n e=>Heap.get?_push_of_some _ (ext b o n e)
    have neT:∀ b,H b=none->b≠T:=fun b e n=>by rw [n,hT] at e; cases e
    refine ⟨.ref h'.objs.size,_,I.un (t':=tk) (H':=upd (upd (upd H T (.tbl (ps ++ #[rawInt pos.line,rawInt pos.col,.ref c']))) c' (CodO c' qual)) h'.objs.size (FunO h'.objs.size (lamC X.mg qual params body scope cl c' ctv))) ⟨fun b o e n _ _=>keep b o (neT b n) e,fun b o e n _ _=>⟨o.slots,keep b o (neT b n) e⟩,fun b o e n _=>?_,fun b o e _=>?_,fun b xs e=>hU b _ e (fun z=>by rw [z,hT] at e; cases e),fun b o xs e=>hU b _ e (fun z=>by rw [z,hT] at e; cases e),fun b qs e=>?_⟩ ?_,rfl,h c' _ ctv hc0 hf0 nfc⟩
    · have l:=Heap.lt_size e
      rw [elsewhere b (neT b n) (Nat.ne_of_lt (Nat.lt_of_lt_of_le l ge)) (Nat.ne_of_lt (Nat.lt_trans (Nat.lt_of_lt_of_le l ge) lt))]
      exact n
    · by_cases z:b=T
      · rw [z]; exact ⟨_,Heap.get?_push_of_some _ tab⟩
      · exact ⟨o,keep b o z e⟩
    · by_cases z:b=T
      · subst z
        rw [hT] at e; cases e
        exact ⟨_,hTb⟩
      · exact ⟨#[],by rw [hU b _ e z]; simp⟩
    · intro b u e
      by_cases z1:b=h'.objs.size
      · subst z1
        rw [upd_same] at e; cases e
        exact ok_fun (Heap.get?_push_size _ rfl)
      rw [upd_ne z1] at e
      by_cases z2:b=c'
      · subst z2
        rw [upd_same] at e; cases e
        obtain ⟨d,oc,vs,t,q,e,r⟩:=rec
        exact ok_cod ⟨d,oc,vs,t,q,Heap.get?_push_of_some _ e,r⟩
      rw [upd_ne z2] at e
      by_cases z3:b=T
      · subst z3
        rw [upd_same] at e; cases e
        exact Heap.get?_push_of_some _ tab
      rw [upd_ne z3] at e
      refine (I.hok b u e).stay (fun d v hd q=>keep d v ?_ q) (fun d q=>hU d _ q fun z=>by rw [z,hT] at q; cases q) fun d xs q=>hU d _ q fun z=>by rw [z,hT] at q; cases q
      rcases hd with rfl | hd
      · exact z3
      · intro z
        rw [z,hT] at hd; cases hd
  · refine PySem.W.kla_makeFunctionHit (mg:=X.mg) hcl I.ok.glob hg hcode (PySem.W.codeHd_of_K I.kIn hc) gT tr hit bAt fun ctv h' tk kp sz=>?_
    have hf0:H h'.objs.size=none:=I.hok.fresh sz
    exact ⟨.ref h'.objs.size,_,I.laid (t':=tk) (o:=FunO h'.objs.size (lamC X.mg qual params body scope cl c' ctv)) (fun b u e=>Heap.get?_push_of_some _ (kp b u e)) sz (ok_fun (Heap.get?_push_size _ rfl)),rfl,h _ ctv hf0⟩
theorem je_lamC {X:Cx} {cl:List (Str × Addr)} {c T:Addr} {params:Arguments} {body:Expr} {scope:Scope} {pos:Pos} {qual:Str} (hB:BMn X.mg X.base) (hcode:X.env.code=.ref c) (hc:PySem.W.codeHdIn X.K c T=true) (hq:X.env.qual ++ "<lambda>"=qual)
    (hdef:defaultsOf params X.env=([],[]):=by rfl) (hcl:closureFor scope X.env=pure cl:=by with_unfolding_all rfl):jE X (.Lambda params body scope pos) (tLamC X.mg T qual params body scope pos cl):=⟨pe_lamC hB hcode hc hq hdef hcl⟩
structure LamScope (N ps fs:List Str) (sc:Scope):Prop where
  kind:sc.kind=.function
  co:sc.isCoroutine=false
  gen:sc.isGenerator=false
  nd:N.Nodup
  cat:N=ps ++ fs
  par:∀ x∈ps,sc.names.lookup x=some .local
  fre:∀ x∈fs,sc.names.lookup x=some .free
  nocell:∀ y∈sc.names,y.2≠.cell
  has:∀ y∈sc.names,y.2=.free->y.1∈fs
structure Clo (H:Hp) (cl:List (Str × Addr)) (fs:List Str) (fvs:List V):Prop where
  len:fvs.length=fs.length
  all:∀ p∈cl,∃ v,Cel H p.2 v
  get:∀ (i:Nat) (x:Str) (v:V),fs[i]?=some x->fvs[i]?=some v->∃ a,cl.lookup x=some a/\Cel H a v
  has:∀ x∈fs,∃ a,cl.lookup x=some a
  inj:∀ x y a,cl.lookup x=some a->cl.lookup y=some a->x=y
def cxLam (CX:CXT) (P:Program) (w:World) (K:PySem.W.Frag) (mg:Str->Option Value) (base:Heap) (N:List Str) (qual:Str) (scope:Scope) (f:Addr) (cd:Value) (cl:List (Str × Addr)) (A:Around) (outer:List Env) (s:Shared) (H:Hp) (E:XK):Cx where
  prog:=P
  w:=w
  K:=K
  mg:=mg
  base:=base
  A:=A.deeper (PySem.W.envX qual scope s.heap.objs.size f cd cl)
  N:=N
  s₀:=s
  H₀:=maskH H (cl.map (·.2))
  env:=PySem.W.envX qual scope s.heap.objs.size f cd cl
  outer:=outer
  stack:=PySem.W.envX qual scope s.heap.objs.size f cd cl :: outer
  ex:=[]
  calm:=true
  fn:=fun _=>false
  pn:=[]
  xe:=fun e s'=>wpAny (model P w) (A.deeper (PySem.W.envX qual scope s.heap.objs.size f cd cl)) (leaving (PySem.W.envX qual scope s.heap.objs.size f cd cl) e) (fun _ s''=>CX outer H s E e s'') (fun e' s''=>CX outer H s E e' s'') s'
theorem rev_lookup {x:Str} {v:Value}:∀ {P:List Str} {vs:List Value} {i:Nat},P.Nodup->P[i]?=some x->vs[i]?=some v->(P.zip vs).reverse.lookup x=some v
  | [],_,_,_,h,_=>by simp at h
  | _ :: _,[],_,_,_,h=>by simp at h
  | p :: P,w :: vs,0,nd,h1,h2=>by
    simp at h1 h2; subst h1; subst h2
    have hn:∀ y∈(P.zip vs).reverse,y.1≠p:=fun y hy z=>(List.nodup_cons.mp nd).1 (z ▸ (List.of_mem_zip (List.mem_reverse.mp hy)).1)
    rw [List.zip_cons_cons,List.reverse_cons,List.lookup_append]
    have:(P.zip vs).reverse.lookup p=none:=List.lookup_eq_none_iff.mpr fun y hy=>by simpa using fun z=>hn y hy z.symm
    rw [this]
    simp
  | p :: P,w :: vs,i + 1,nd,h1,h2=>by
    rw [List.zip_cons_cons,List.reverse_cons,List.lookup_append,rev_lookup (i:=i) (List.nodup_cons.mp nd).2 (by simpa using h1) (by simpa using h2)]
    rfl
section
variable {P:Program} {w:World} {H H':Hp} {h h':Heap} {as:List Addr}
theorem mask_keep (hc:∀ a∈as,∃ v,Cel H a v) {b:Addr} {u:HO} (e:H b=some u) (n:∀ o c v,u≠.frz o (CelO c v)):maskH H as b=some u:=by
  rw [mask_out]
  · exact e
  · intro z
    obtain ⟨v,o,q⟩:=hc b z
    rw [e] at q
    exact n _ _ _ (Option.some.inj q)
theorem mask_ok (hc:∀ a∈as,∃ v,Cel H a v) (x:HOk P w H h):HOk P w (maskH H as) h:=fun b u e=>by
  have nb:b ∉ as:=fun z=>by rw [mask_in z] at e; cases e
  rw [mask_out nb] at e
  exact (x b u e).stay (fun _ _ _ q=>q) (fun d q=>mask_keep hc q (by intro _ _ _ z; cases z)) fun d xs q=>mask_keep hc q (by intro _ _ _ z; cases z)
theorem plus_ok (hn:∀ a∈as,H' a=none) (hk:∀ a∈as,∀ u,H a=some u->∃ v o,u=.frz o (CelO a v)/\h.get? a=some o/\h'.get? a=some o) (x:HOk P w H h) (x':HOk P w H' h'):HOk P w (plusH H' H as) h':=fun b u e=>by
  have up:∀ d z,H' d=some z->plusH H' H as d=some z:=fun d z q=>by
    rw [plus_out]
    · exact q
    · intro y; rw [hn d y] at q; cases q
  by_cases nb:b∈as
  · rw [plus_in nb] at e
    obtain ⟨v,o,rfl,e1,e2⟩:=hk b nb u e
    obtain ⟨_,⟨u',r,o',e3,d⟩,_⟩:=x b _ e
    rw [e1] at e3; cases e3
    exact ok_cel e2 d r
  · rw [plus_out nb] at e
    exact (x' b u e).stay (fun _ _ _ q=>q) (fun d q=>up d _ q) fun d xs q=>up d _ q
theorem plus_un {fs:List Addr} (hc:∀ a∈as,∃ v,Cel H a v) (u:Un fs [] (maskH H as) H' h h') (hn:∀ a∈as,H' a=none):Un fs [] H (plusH H' H as) h h':=by
  have no:∀ b,H b=none->b ∉ as:=fun b n z=>by
    obtain ⟨v,o,q⟩:=hc b z
    rw [n] at q; cases q
  have mk:∀ b,H b=none->maskH H as b=none:=fun b n=>by rw [mask_out (no b n)]; exact n
  have up:∀ d z,H' d=some z->plusH H' H as d=some z:=fun d z q=>by
    rw [plus_out]
    · exact q
    · intro y; rw [hn d y] at q; cases q
  refine ⟨fun b o e n hb hx=>u.keep b o e (mk b n) hb hx,fun b o e n hb hx=>u.slot b o e (mk b n) hb hx,fun b o e n hx=>?_,u.there,fun b xs e=>up _ _ (u.tups b xs (mask_keep hc e (by intro _ _ _ z; cases z))),fun b o x e=>?_,fun b ps e=>?_⟩
  · rw [plus_out (no b n)]
    exact u.free b o e (mk b n) hx
  · by_cases z:b∈as
    · rw [plus_in z]; exact e
    · rw [plus_out z]
      exact u.frzs b o x (by rw [mask_out z]; exact e)
  · obtain ⟨more,q⟩:=u.tbls b ps (mask_keep hc e (by intro _ _ _ z; cases z))
    exact ⟨more,up _ _ q⟩
end
theorem lam_ofC {CX:CXT} {P:Program} {w:World} {K:PySem.W.Frag} {mg:Str->Option Value} {base:Heap} {k:Nat} {f c:Addr} {name qual:Str} {params:Arguments} {body:Expr} {scope:Scope} {cl:List (Str × Addr)} {pm ct:Value}
    {N ps fs:List Str} {sp:Sp} (S:LamScope N ps fs scope) (len:∀ vs H Q E,sp vs H Q E->vs.length=ps.length)
    (hbody:∀ (A:Around) (outer:List Env) (s:Shared) (H:Hp) (vs:List V) (Q:VK) (E:XK),Room k (A.deeper (PySem.W.envX qual scope s.heap.objs.size f (.ref c) cl))->sp vs H Q E ->
      H f=some (FunO f (PySem.W.kla_fn name qual params body scope cl pm (.ref c) ct))/\H c=some (CodO c qual)/\∃ fvs,Clo H cl fs fvs /\
      ∃ t,jE (cxLam CX P w K mg base N qual scope f (.ref c) cl A outer s H E) body t/\t (vs.map some ++ fvs.map some) (maskH H (cl.map (·.2))) fun v H'=>(∀ a∈cl.map (·.2),H' a=none)->Q v (plusH H' H (cl.map (·.2)))) :
    FnOk P w K mg base CX (k + 1) f (PySem.W.kla_fn name qual params body scope cl pm (.ref c) ct) ps sp:=by
  refine ⟨len,fun A outer s H args us vs Q E hr e0 hb r hsp=>?_⟩
  have hl:=len _ _ _ _ hsp
  have lim:s.heap.NoLimit:=e0.mod.nolimit.keeps fun b o e=>(e0.bs b o e).1
  obtain ⟨hf,hc,fvs,C,t,ht,hq⟩:=hbody A outer s H vs Q E (hr.deeper _) hsp
  have of:=(e0.hok f _ hf).1
  have oc:=(e0.hok c _ hc).1
  have hcA:∀ a∈cl.map (·.2),∃ v,Cel H a v:=fun a ha=>by
    obtain ⟨p,hp,rfl⟩:=List.mem_map.mp ha
    exact C.all p hp
  have hcl:∀ x a,cl.lookup x=some a->a∈cl.map (·.2):=fun x a e=>List.mem_map.mpr ⟨(x,a),PySem.mem_of_lookup e,rfl⟩
  refine PySem.W.kla_callFunE hr.depth of rfl S.co S.gen rfl oc (hb _ _ _ _ ?_)
  refine wpAny_newFunctionEnv S.nocell (fun y hy=>S.par _ (List.of_mem_zip hy).1) (fun h₁ hns hsb=>?_) S.kind
  have hk₁:∀ b o,s.heap.get? b=some o->h₁.get? b=some o:=fun b o e=>hsb.extBut b o (Nat.ne_of_lt (Heap.lt_size e)) (Heap.get?_push_of_some _ e)
  refine ⟨lim.keeps hk₁,PySem.W.kla_codeExpr ?_⟩
  have isc:∀ x a,cl.lookup x=some a->∃ v,Cel H a v:=fun x a e=>hcA a (hcl x a e)
  have cget:∀ a v,Cel H a v->∃ u,RelV v u/\s.heap.IsCell a (some u):=fun a v ⟨o,q⟩=>(e0.hok a _ q).2.1
  have I:Inv (cxLam CX P w K mg base N qual scope f (.ref c) cl A outer s H E) [] (vs.map some ++ fvs.map some) (maskH H (cl.map (·.2))) { s with heap:=h₁,toks:=s.toks + (ps.zip us).length }:=by
    have noA:∀ b:Addr,b ∉ (cxLam CX P w K mg base N qual scope f (.ref c) cl A outer s H E).ex:=fun b z=>absurd (show b∈([]:List Addr) from z) (by simp)
    have mnone:∀ b,H b=none->maskH H (cl.map (·.2)) b=none:=fun b e=>by
      unfold maskH
      split
      · rfl
      · exact e
    refine ⟨⟨e0.mod,S.kind,rfl,rfl,Nat.le_refl _,fun y z a h1 h2=>C.inj y z a h1 h2,fun y hy=>?_,fun y a z=>absurd (show false=true from z) (by decide),fun _=>hr.hd,Around.frames_deeper e0.frames,.inr ⟨rfl,rfl⟩,fun b z=>absurd z (noA b),fun b o e=>⟨(e0.bs b o e).1,mnone _ (e0.bs b o e).2⟩,e0.bsz,fun b _ _=>noA b,fun b z=>absurd z (noA b),e0.funs,fun b hb=>mnone _ (e0.frf b hb)⟩,
      rfl,e0.bare,Un.kept hk₁,⟨_,hns,fun i y v h1 h2 h3=>?_⟩,fun y a h=>?_,mnone _ (e0.hok.fresh (Nat.le_refl _)),fun y a h=>mask_in (hcl y a h),fun p hp=>absurd (show p∈([]:List (Addr × Obj)) from hp) (by simp),mask_ok hcA (e0.hok.kept hk₁),?_⟩
    · have hy:scope.names.lookup y=some .cell\/scope.names.lookup y=some .free:=hy
      rcases hy with hy | hy
      · exact absurd rfl (S.nocell _ (PySem.mem_of_lookup hy))
      · exact C.has y (S.has _ (PySem.mem_of_lookup hy) rfl)
    · have h1:(ps ++ fs)[i]?=some y:=by rw [<- S.cat]; exact h1
      have ndP:ps.Nodup:=by have:=S.nd; rw [S.cat] at this; exact (List.nodup_append.mp this).1
      by_cases hi:i < vs.length
      · rw [List.getElem?_append_left (by simpa using hi),List.getElem?_map] at h2
        rw [List.getElem?_append_left (by lia)] at h1
        cases e:vs[i]? with
        | none=>rw [e] at h2; cases h2
        | some a =>
          rw [e] at h2; cases h2
          obtain ⟨u,hu,rv⟩:=r.get e
          exact ⟨u,rv,.inl ⟨S.par y (List.mem_of_getElem? h1),rev_lookup ndP h1 hu⟩⟩
      · rw [List.getElem?_append_right (by simpa using hi),List.getElem?_map] at h2
        rw [List.getElem?_append_right (by lia)] at h1
        rw [List.length_map,hl] at h2
        cases e:fvs[i - ps.length]? with
        | none=>rw [e] at h2; cases h2
        | some a =>
          rw [e] at h2; cases h2
          obtain ⟨ca,g1,g2⟩:=C.get _ _ _ h1 e
          obtain ⟨u,rv,q⟩:=cget _ _ g2
          exact ⟨u,rv,.inr ⟨.inr (S.fre y (List.mem_of_getElem? h1)),ca,g1,q.keeps hk₁⟩⟩
    · obtain ⟨v,q⟩:=isc y a h
      obtain ⟨u,_,q⟩:=cget _ _ q
      exact ⟨_,q.keeps hk₁⟩
    · show _=N.length
      rw [S.cat,List.length_append,List.length_append,List.length_map,List.length_map,C.len,hl]
  refine wpAny_mono (ht.out [] _ _ _ _ I hq) (fun u s' hs=>?_) fun e s' hs=>hs
  obtain ⟨v,H',J,rv,q⟩:=hs
  have hn:∀ a∈cl.map (·.2),H' a=none:=fun a ha=>by
    obtain ⟨v,o,q⟩:=hcA a ha
    obtain ⟨e1,_⟩:=e0.hok a _ q
    exact J.base.free a o e1 (mask_in ha) (by exact fun z=>absurd (show a∈([]:List Addr) from z) (by simp))
  refine ⟨v,_,J.os,J.bare,plus_un hcA J.base hn,plus_ok hn (fun a ha u e=>?_) e0.hok J.hok,rv,q hn⟩
  obtain ⟨v',o,q'⟩:=hcA a ha
  rw [q'] at e; cases e
  obtain ⟨e1,_⟩:=e0.hok a _ q'
  refine ⟨v',o,rfl,e1,J.base.keep a o e1 (mask_in ha) (fun z=>?_) (fun z=>absurd (show a∈([]:List Addr) from z) (by simp))⟩
  rw [e0.frf a z] at q'
  cases q'
structure EndsR where
  nx:St->Hp->Prop
  rt:St->V->Hp->Prop
abbrev TR:=EndsR->St->Hp->Prop
def SPR (X:Cx) (D:EndsR) (f:Flow) (s':Shared):Prop :=
  match f with
  | .next=>∃ σ' H',Inv X [] σ' H' s'/\D.nx σ' H'
  | .ret u=>∃ v σ' H',Inv X [] σ' H' s'/\RelV v u/\D.rt σ' v H'
  | _=>False
structure jR (X:Cx) (st:List Stmt) (t:TR):Prop where
  out:∀ (s:Shared) (σ:St) (H:Hp) (D:EndsR),Inv X [] σ H s->t D σ H->wpAny (model X.prog X.w) X.A (execs st X.env) (SPR X D) X.xe s
section
variable {X:Cx} {st:Stmt} {rest A:List Stmt} {t:TS} {u tA:TR} {e c:Expr} {te:TE} {tc:TT} {pos:Pos}
def tSeqR (t:TS) (u:TR):TR:=fun D σ H=>t { nx:=u D,rt:=fun _ _=>False } σ H
theorem jr_cons (h1:jS X st t) (h2:jR X rest u):jR X (st :: rest) (tSeqR t u):=⟨by
  intro s σ H D I h
  refine wpAny_execs_cons (thn (h1.out [] s σ H { nx:=u D,rt:=fun _ _=>False } I h) fun f s1 q=>?_)
  cases f with
  | next =>
    obtain ⟨σ',H',I',q⟩:=q
    exact h2.out s1 σ' H' D I' q
  | ret v =>
    obtain ⟨_,_,_,_,_,q⟩:=q
    exact False.elim q
  | brk =>
    obtain ⟨_,_,_,q⟩:=q
    exact False.elim q
  | cont =>
    obtain ⟨_,_,_,q⟩:=q
    exact False.elim q⟩
theorem jr_ret (he:jE X e te):jR X [.Return (some e) pos] (fun D σ H=>te σ H (D.rt σ)):=⟨by
  intro s σ H D I h
  refine wpAny_execs_cons (wpAny_Return_some (thn (he.out [] s σ H _ I h) fun v s1 ⟨x,H1,I1,r1,q1⟩=>?_))
  exact ⟨x,σ,H1,I1,r1,q1⟩⟩
def tIfR (tc:TT) (tA u:TR):TR:=fun D σ H=>tc σ H fun b H1=>if b=true then tA { D with nx:=u D } σ H1 else u D σ H1
theorem jr_if (hc:jT X c tc) (hA:jR X A tA) (hR:jR X rest u):jR X (.If c A [] pos :: rest) (tIfR tc tA u):=⟨by
  intro s σ H D I h
  refine wpAny_execs_cons (wpAny_If (thn (hc.out [] s σ H _ I h) fun b s1 ⟨H1,I1,q1⟩=>?_))
  cases b with
  | true =>
    rw [if_pos rfl] at q1
    refine thn (hA.out s1 σ H1 { D with nx:=u D } I1 q1) fun f s2 q=>?_
    cases f with
    | next =>
      obtain ⟨σ',H',I',q⟩:=q
      exact hR.out s2 σ' H' D I' q
    | ret v=>exact q
    | brk=>exact q
    | cont=>exact q
  | false =>
    rw [if_neg (by decide)] at q1
    exact wpAny_execs_nil (hR.out s1 σ H1 D I1 q1)⟩
end
structure Pub (H H3:Hp) (cvs:List (Addr × V)):Prop where
  old:∀ b,b ∉ cvs.map (·.1)->H3 b=H b
  non:∀ p∈cvs,H p.1=none
  cel:∀ p∈cvs,Cel H3 p.1 p.2
def CellsAt (X:Cx) (σ:St) (cvs:List (Addr × V)):Prop:=∀ p∈cvs,∃ (i:Nat) (x:Str),X.N[i]?=some x/\σ[i]?=some (some p.2)/\X.env.cells.lookup x=some p.1/\(X.env.scope.names.lookup x=some .cell\/X.env.scope.names.lookup x=some .free)
theorem CellsAt.cell {X:Cx} {pins:List (Addr × Obj)} {σ:St} {H:Hp} {s:Shared} {cvs:List (Addr × V)} (I:Inv X pins σ H s) (h:CellsAt X σ cvs):∀ p∈cvs,∃ o u,s.heap.get? p.1=some o/\o.data=.cell (some u)/\RelV p.2 u:=fun p hp=>by
  obtain ⟨i,x,e1,e2,e3,e4⟩:=h p hp
  obtain ⟨m,_,l⟩:=I.loc
  obtain ⟨u,r,l⟩:=l i x _ e1 e2 (.inr e4)
  rcases l with ⟨k,_⟩ | ⟨_,c,q,o,e,d⟩
  · have k:X.env.scope.names.lookup x=some .local:=k
    rcases e4 with e4 | e4 <;> rw [e4] at k <;> cases k
  · rw [e3] at q; cases q
    exact ⟨o,u,e,d,r⟩
def pubH (h:Heap) (H:Hp) (cvs:List (Addr × V)):Hp:=fun b=>match cvs.find? (fun p=>p.1 == b) with
  | some p=>some (.frz ((h.get? b).getD { cls:=.none,data:=.plain }) (CelO b p.2))
  | none=>H b
theorem pub_in {h:Heap} {H:Hp} {cvs:List (Addr × V)} {b:Addr} (hb:b∈cvs.map (·.1)):∃ v,(b,v)∈cvs/\pubH h H cvs b=some (.frz ((h.get? b).getD { cls:=.none,data:=.plain }) (CelO b v)):=by
  obtain ⟨p,hp,rfl⟩:=List.mem_map.mp hb
  cases e:cvs.find? (fun q=>q.1 == p.1) with
  | none=>exact absurd (List.find?_eq_none.mp e p hp) (by simp)
  | some q =>
    have h1:=List.find?_some e
    have h2:=List.mem_of_find?_eq_some e
    have h3:q.1=p.1:=by simpa using h1
    refine ⟨q.2,by rw [<- h3]; exact h2,?_⟩
    unfold pubH
    rw [e]
theorem pub_out {h:Heap} {H:Hp} {cvs:List (Addr × V)} {b:Addr} (hb:b ∉ cvs.map (·.1)):pubH h H cvs b=H b:=by
  unfold pubH
  rw [List.find?_eq_none.mpr fun p hp=>by simpa using fun z:p.1=b=>hb (List.mem_map.mpr ⟨p,hp,z⟩)]
section
variable {X:Cx} {pins:List (Addr × Obj)} {σ:St} {H:Hp} {s:Shared} {cvs:List (Addr × V)}
theorem pub_cel (I:Inv X pins σ H s) (h:CellsAt X σ cvs) (hN:X.N.Nodup) {b:Addr} {v v':V} (h1:(b,v)∈cvs) (h2:(b,v')∈cvs):v=v':=by
  obtain ⟨i,x,e1,e2,e3,_⟩:=h _ h1
  obtain ⟨j,y,g1,g2,g3,_⟩:=h _ h2
  have:=I.ok.inj x y b e3 g3
  subst this
  have:i=j:=(List.getElem?_inj (List.getElem?_eq_some_iff.mp e1).1 hN).mp (e1.trans g1.symm)
  subst this
  rw [e2] at g2
  cases g2
  rfl
theorem pub_is (I:Inv X pins σ H s) (h:CellsAt X σ cvs) (hN:X.N.Nodup):Pub H (pubH s.heap H cvs) cvs :=
  ⟨fun b hb=>pub_out hb,fun p hp=>let ⟨_,x,_,_,e3,_⟩:=h p hp; I.freeC x _ e3,fun p hp=>by
    obtain ⟨v,hv,e⟩:=pub_in (h:=s.heap) (H:=H) (List.mem_map.mpr ⟨p,hp,rfl⟩)
    have:=pub_cel I h hN (b:=p.1) (v:=v) (v':=p.2) hv hp
    subst this
    exact ⟨_,e⟩⟩
theorem pub_ok (I:Inv X pins σ H s) (h:CellsAt X σ cvs):HOk X.prog X.w (pubH s.heap H cvs) s.heap:=fun b u e=>by
  have up:∀ d z,H d=some z->pubH s.heap H cvs d=some z:=fun d z q=>by
    rw [pub_out]
    · exact q
    · intro y
      obtain ⟨p,hp,rfl⟩:=List.mem_map.mp y
      obtain ⟨_,x,_,_,e3,_⟩:=h p hp
      rw [I.freeC x _ e3] at q; cases q
  by_cases hb:b∈cvs.map (·.1)
  · obtain ⟨v,hv,e'⟩:=pub_in (h:=s.heap) (H:=H) hb
    rw [e'] at e; cases e
    obtain ⟨o,u,e1,e2,r⟩:=h.cell I _ hv
    have e1:s.heap.get? b=some o:=e1
    rw [e1]
    exact ok_cel e1 e2 r
  · rw [pub_out hb] at e
    exact (I.hok b u e).stay (fun _ _ _ q=>q) (fun d q=>up d _ q) fun d xs q=>up d _ q
end
theorem fn_ofC {CX:CXT} {P:Program} {w:World} {K:PySem.W.Frag} {mg:Str->Option Value} {base:Heap} {k:Nat} {f:Addr} {name qual:Str} {params:Arguments} {body:List Stmt} {scope:Scope} {dV kV doc pm cdv ct oc:Value} {an od:Option Addr}
    {osl:Array (Option Value)} {N ps:List Str} {sp:Sp} (lk:K.lookup f=some ⟨oc,od,.func (PySem.W.fnOf name qual params body scope dV kV doc pm an cdv ct),osl⟩) (hcd:PySem.W.codeIn K cdv qual=true) (S:FnScope N ps scope)
    (len:∀ vs H Q E,sp vs H Q E->vs.length=ps.length)
    (hbody:∀ (A:Around) (outer:List Env) (s:Shared) (H:Hp) (vs:List V) (Q:VK) (E:XK),Room k (A.deeper (envOfC qual scope s.heap.objs.size f cdv))->sp vs H Q E->(∀ b,s.heap.objs.size<=b->H b=none) ->
      ∃ t,jR (cxOf CX P w K mg base N qual scope f cdv A outer s H E) body t/\t { nx:=fun _ H'=>Q .non H',rt:=fun σ v H'=>∃ cvs,CellsAt (cxOf CX P w K mg base N qual scope f cdv A outer s H E) σ cvs/\∀ H3,Pub H' H3 cvs->Q v H3 } (start N vs) H) :
    FnOk P w K mg base CX (k + 1) f (PySem.W.fnOf name qual params body scope dV kV doc pm an cdv ct) ps sp:=by
  refine ⟨len,fun A outer s H args us vs Q E hr e0 hb r hsp=>?_⟩
  have hl:=len _ _ _ _ hsp
  have KX:K.In s.heap:=e0.mod.kin.keeps fun b o e=>(e0.bs b o e).1
  have lim:s.heap.NoLimit:=e0.mod.nolimit.keeps fun b o e=>(e0.bs b o e).1
  have hkind:∀ y∈ps.zip us,scope.names.lookup y.1=some .local\/(scope.names.lookup y.1=some .cell/\((cellsFrom (s.heap.objs.size + 1) scope.names []).lookup y.1).isSome=true):=fun ⟨n,v⟩ hy=>by
    rcases S.par n (List.of_mem_zip hy).1 with q | q
    · exact .inl q
    · exact .inr ⟨q,PySem.W.cellsFrom_some _ _ _ (.inl q)⟩
  refine codeAny_call_function hr.depth (KX _ _ lk) rfl S.co S.gen rfl (PySem.W.codeRec_of KX hcd) (hb _ _ _ _ ?_)
  refine wpAny_newFunctionEnv_cells S.kind hkind fun env he s1 x=>?_
  subst he
  refine ⟨lim.keeps x.toInCall.keep,codeAny_func ?_⟩
  obtain ⟨t,ht,hq⟩:=hbody A outer s H vs Q E (hr.deeper _) hsp fun b hb=>e0.hok.fresh hb
  have I:Inv (cxOf CX P w K mg base N qual scope f cdv A outer s H E) [] (start N vs) H s1:=inv_start S hr.hd e0 hl r x
  refine wpAny_mono (ht.out s1 (start N vs) H _ I hq) (fun fl s' hs=>?_) fun e s' hs=>hs
  cases fl with
  | ret u =>
    obtain ⟨v,σ',H',J,rv,cvs,hc,q⟩:=hs
    have pb:=pub_is J hc S.nd
    have q:=q _ pb
    have ab:∀ b,b∈cvs.map (·.1)->s.heap.objs.size<=b:=fun b hb=>by
      obtain ⟨p,hp,rfl⟩:=List.mem_map.mp hb
      obtain ⟨_,x,_,_,e3,_⟩:=hc p hp
      exact J.ok.cab x _ rfl e3
    have no:∀ b o,H' b=some o->b ∉ cvs.map (·.1):=fun b o e hb=>by
      obtain ⟨p,hp,rfl⟩:=List.mem_map.mp hb
      rw [pb.non p hp] at e; cases e
    have un:Un (frs outer) [] H H' s.heap s'.heap:=J.base
    refine ⟨v,_,J.os,J.bare,⟨un.keep,un.slot,fun b o e n hx=>?_,un.there,fun b xs e=>?_,fun b o xs e=>?_,fun b p e=>?_⟩,pub_ok J hc,rv,q⟩
    · rw [pb.old b fun z=>absurd (Nat.lt_of_lt_of_le (Heap.lt_size e) (ab b z)) (Nat.lt_irrefl _)]
      exact un.free b o e n hx
    · have e':=un.tups b xs e
      rw [pb.old b (no b _ e')]; exact e'
    · have e':=un.frzs b o xs e
      rw [pb.old b (no b _ e')]; exact e'
    · obtain ⟨more,e'⟩:=un.tbls b p e
      exact ⟨more,by rw [pb.old b (no b _ e')]; exact e'⟩
  | next =>
    obtain ⟨σ',H',J,q⟩:=hs
    exact ⟨.non,H',J.os,J.bare,J.base,J.hok,rfl,q⟩
  | brk=>exact False.elim hs
  | cont=>exact False.elim hs
def tCallF (P:Program) (w:World) (K:PySem.W.Frag) (mg:Str->Option Value) (base:Heap) (k:Nat) (E:XK) (i:Nat) (t:TA):TE:=fun σ H Q=>∃ f,σ[i]?=some (some (.ref f)) /\
  (((∃ fd,H f=some (FunO f fd))/\t σ H fun vs H1=>∃ fd ps sp,FnOk P w K mg base CX0 k f fd ps sp/\Binds K fd ps []/\H1 f=some (FunO f fd)/\sp vs H1 Q E) \/
   (PySem.W.keepIn K (.ref f)=true/\t σ H fun vs H1=>∃ fd ps sp,FnOk P w K mg base CX0 k f fd ps sp/\Binds K fd ps []/\sp vs H1 Q E))
theorem je_callF {X:Cx} {k:Nat} {E:XK} {i:Nat} {x:Str} {p pos:Pos} {e:Expr} {es:List Expr} {t:TA} (hr:Room k X.A) (hn:jE X (.Name x p) (tVar i)) (hx:Passes CX0 X E) (ha:jA X (e :: es) t) (h1:isStar e=false:=by rfl) (h2:es.all (fun e=>!isStar e)=true:=by rfl) :
    jE X (.Call (.Name x p) (e :: es) [] pos) (tCallF X.prog X.w X.K X.mg X.base k E i t):=⟨by
  intro pins s σ H Q I h
  obtain ⟨f,hf,h⟩:=h
  refine wpAny_Call_Name_kw (thn (hn.out pins s σ H (fun v H1=>v=.ref f/\H1=H) I ⟨_,hf,rfl,rfl⟩) fun u s0 ⟨v,H0,I0,r0,e1,e2⟩=>?_)
  subst e1; subst e2
  cases r0
  rcases h with ⟨⟨fd,hF⟩,h⟩ | ⟨hk,h⟩
  · refine PySem.W.callWith_F ⟨_,_,_,_,(I0.hok f _ hF).1⟩ (thn (ha.out pos pins s0 σ H0 _ I0 h) fun us s1 ⟨vs,H1,I1,r,fd,ps,sp,F,hb,hF1,q⟩=>⟨⟨_,_,_,_,(I1.hok f _ hF1).1⟩,?_⟩) (star_cons h1) (star_any h2)
    exact run_fn F hr hb .nil hx I1 r (by rw [List.append_nil]; exact q)
  · refine PySem.W.callWith_K (h₀:=X.base) I0.ok.mod.kin hk (thn (ha.out pos pins s0 σ H0 _ I0 h) fun us s1 ⟨vs,H1,I1,r,fd,ps,sp,F,hb,q⟩=>⟨I1.kIn,?_⟩) (star_cons h1) (star_any h2)
    exact run_fn F hr hb .nil hx I1 r (by rw [List.append_nil]; exact q)⟩
structure FunC (K:PySem.W.Frag) (x:Str) (st:Stmt) (c f:Addr) (fd:FuncData):Prop where
  ex:∃ (oc:Value) (od:Option Addr) (kV doc pm:Value) (an:Option Addr) (ct:Value) (osl:Array (Option Value)),fd=PySem.W.fnOf x x (defArgs st) (defBody st) (defScope st) .none kV doc pm an (.ref c) ct/\K.lookup f=some ⟨oc,od,.func fd,osl⟩/\PySem.W.codeIn K (.ref c) x=true
section
variable {P:Program} {w:World} {K:PySem.W.Frag} {mg:Str->Option Value} {base h:Heap} {x:Str} {st:Stmt} {c f:Addr} {fd:FuncData} {N ps:List Str} {k:Nat} {sp:Sp}
theorem FunC.by (F:FunC K x st c f fd) (S:FnScope N ps (defScope st)) (len:∀ vs H Q E,sp vs H Q E->vs.length=ps.length)
    (hbody:∀ (A:Around) (outer:List Env) (s:Shared) (H:Hp) (vs:List V) (Q:VK) (E:XK),Room k (A.deeper (envOfC x (defScope st) s.heap.objs.size f (.ref c)))->sp vs H Q E ->
      ∃ t,jSs (cxOf CX0 P w K mg base N x (defScope st) f (.ref c) A outer s H E).nox (defBody st) t/\t { nx:=fun _ H'=>Q .non H',rt:=Q } (start N vs) H):FnOk P w K mg base CX0 (k + 1) f fd ps sp:=by
  obtain ⟨oc,od,kV,doc,pm,an,ct,osl,rfl,lk,hcd⟩:=F.ex
  refine fn_of lk hcd S len fun A outer s H vs Q E hr hsp=>?_
  obtain ⟨t,h,q⟩:=hbody A outer s H vs Q E hr hsp
  exact ⟨t,h.out.nox,q⟩
theorem FunC.byR (F:FunC K x st c f fd) (S:FnScope N ps (defScope st)) (len:∀ vs H Q E,sp vs H Q E->vs.length=ps.length)
    (hbody:∀ (A:Around) (outer:List Env) (s:Shared) (H:Hp) (vs:List V) (Q:VK) (E:XK),Room k (A.deeper (envOfC x (defScope st) s.heap.objs.size f (.ref c)))->sp vs H Q E->(∀ b,s.heap.objs.size<=b->H b=none) ->
      ∃ t,jR (cxOf CX0 P w K mg base N x (defScope st) f (.ref c) A outer s H E) (defBody st) t/\t { nx:=fun _ H'=>Q .non H',rt:=fun σ v H'=>∃ cvs,CellsAt (cxOf CX0 P w K mg base N x (defScope st) f (.ref c) A outer s H E) σ cvs/\∀ H3,Pub H' H3 cvs->Q v H3 } (start N vs) H) :
    FnOk P w K mg base CX0 (k + 1) f fd ps sp:=by
  obtain ⟨oc,od,kV,doc,pm,an,ct,osl,rfl,lk,hcd⟩:=F.ex
  exact fn_ofC lk hcd S len hbody
def DcIn (K:PySem.W.Frag) (x:Str) (st:Stmt) (c:Addr):Prop:=∃ f,PySem.W.nsIn K mainGlobals x=some (some (.ref f))/\∃ (oc:Value) (od:Option Addr) (kV doc pm:Value) (an:Option Addr) (ct:Value) (osl:Array (Option Value)),K.lookup f=some ⟨oc,od,.func (PySem.W.fnOf x x (defArgs st) (defBody st) (defScope st) .none kV doc pm an (.ref c) ct),osl⟩/\PySem.W.codeIn K (.ref c) x=true/\PySem.W.keepIn K (.ref f)=true
theorem DcIn.mk {oc:Value} {od:Option Addr} {kV doc pm:Value} {an:Option Addr} {ct:Value} {osl:Array (Option Value)} (a:PySem.W.nsIn K mainGlobals x=some (some (.ref f))) (l:K.lookup f=some ⟨oc,od,.func (PySem.W.fnOf x x (defArgs st) (defBody st) (defScope st) .none kV doc pm an (.ref c) ct),osl⟩) (cc:PySem.W.codeIn K (.ref c) x=true) (k:PySem.W.keepIn K (.ref f)=true):DcIn K x st c:=⟨f,a,oc,od,kV,doc,pm,an,ct,osl,l,cc,k⟩
theorem DcIn.ca (X:K.In h) (G:h.Ns mainGlobals mg) (d:DcIn K x st c) (hb:∀ (kV doc pm:Value) (an:Option Addr) (ct:Value) (us:List Value),us.length=ps.length->bindArgs (PySem.W.fnOf x x (defArgs st) (defBody st) (defScope st) .none kV doc pm an (.ref c) ct) ⟨us,[]⟩=pure (ps.zip us))
    (ok:∀ f fd,FunC K x st c f fd->FnOk P w K mg base CX0 k f fd ps sp):Ca P w K mg base CX0 k x ps sp:=by
  obtain ⟨f,a,oc,od,kV,doc,pm,an,ct,osl,l,cc,kp⟩:=d
  exact ⟨f,_,ok f _ ⟨oc,od,kV,doc,pm,an,ct,osl,rfl,l,cc⟩,.all fun us hl=>hb kV doc pm an ct us hl,kp,PySem.W.mg_of X G a⟩
end
def TbG (T:Addr) (ls:List (Pos × Str)) (H:Hp):Prop:=∃ ps,H T=some (.tbl ps)/\TriplesOk ps.toList/\∀ p∈ls,codeAmong p.1 ps.toList=none\/∃ c,codeAmong p.1 ps.toList=some (.ref c)/\H c=some (CodO c p.2)
theorem trip_snoc {a b:Int} {c:Value} (l:List Value) (h:TriplesOk l):TriplesOk (l ++ [rawInt a,rawInt b,c]):=by
  fun_induction TriplesOk l with
  | case1=>trivial
  | case2 i t j u v rest ih=>exact ih h
  | case3=>exact False.elim h
theorem among_other {pos p':Pos} {c:Value} (l:List Value) (h:TriplesOk l) (n:¬ (p'.line=pos.line/\p'.col=pos.col)):codeAmong pos (l ++ [rawInt p'.line,rawInt p'.col,c])=codeAmong pos l:=by
  fun_induction TriplesOk l with
  | case1 =>
    show (if ((p'.line:Nat):Int) == (pos.line:Nat) && ((p'.col:Nat):Int) == (pos.col:Nat) then some c else codeAmong pos [])=_
    rw [if_neg]
    simp
    intro e e'
    exact n ⟨by lia,by lia⟩
  | case2 i t j u v rest ih =>
    show (if i == (pos.line:Nat) && j == (pos.col:Nat) then some v else codeAmong pos (rest ++ _))=if i == (pos.line:Nat) && j == (pos.col:Nat) then some v else codeAmong pos rest
    rw [ih h]
  | case3=>exact False.elim h
theorem among_hit {pos p':Pos} (l:List Value) (n:p'.line=pos.line/\p'.col=pos.col):codeAmong pos l=codeAmong p' l:=by
  fun_induction codeAmong pos l with
  | case1 line _ col _ c rest h=>rw [codeAmong,n.1,n.2,if_pos h]
  | case2 line _ col _ c rest h ih=>rw [codeAmong,n.1,n.2,if_neg h]; exact ih
  | case3 l h =>
    unfold codeAmong
    split
    · exact absurd rfl (h _ _ _ _ _ _)
    · rfl
theorem TbG.keep {T:Addr} {ls:List (Pos × Str)} {H H':Hp} (h:TbG T ls H) (kt:∀ ps,H T=some (.tbl ps)->H' T=some (.tbl ps)) (kc:∀ c q,H c=some (CodO c q)->H' c=some (CodO c q)):TbG T ls H':=by
  obtain ⟨ps,e,t,h⟩:=h
  exact ⟨ps,kt _ e,t,fun p hp=>(h p hp).imp_right fun ⟨c,a,b⟩=>⟨c,a,kc _ _ b⟩⟩
theorem TbG.empty {T:Addr} {ls:List (Pos × Str)} {H:Hp} (h:H T=some (.tbl #[])):TbG T ls H:=⟨#[],h,trivial,fun p _=>.inl rfl⟩
theorem lam_made {mg:Str->Option Value} {T:Addr} {ls:List (Pos × Str)} {qual:Str} {params:Arguments} {body:Expr} {scope:Scope} {pos:Pos} {cl:List (Str × Addr)} {σ:St} {H:Hp} {Q:VK} (h:TbG T ls H) (hm:(pos,qual)∈ls) (hu:∀ p∈ls,(pos.line=p.1.line/\pos.col=p.1.col)->p.2=qual)
    (q:∀ H' f c ct,(∀ b u,b≠T->H b=some u->H' b=some u)->TbG T ls H'->H f=none->f≠T->c≠T->H' f=some (FunO f (lamC mg qual params body scope cl c ct))->H' c=some (CodO c qual)->Q (.ref f) H'):tLamC mg T qual params body scope pos cl σ H Q:=by
  obtain ⟨ps,hT,tr,ha⟩:=h
  refine ⟨ps,hT,tr,?_⟩
  rcases ha _ hm with hn | ⟨c,hs,hc⟩
  · refine .inl ⟨hn,fun c f ct h1 h2 h3=>?_⟩
    have n1:T≠c:=ne_of_none hT h1
    have n2:T≠f:=ne_of_none hT h2
    have kp:∀ b u,b≠T->H b=some u->upd (upd (upd H T (.tbl (ps ++ #[rawInt pos.line,rawInt pos.col,.ref c]))) c (CodO c qual)) f (FunO f (lamC mg qual params body scope cl c ct)) b=some u:=fun b u n e=>by rw [upd_ne (ne_of_none e h2),upd_ne (ne_of_none e h1),upd_ne n]; exact e
    have e2:upd (upd (upd H T (.tbl (ps ++ #[rawInt pos.line,rawInt pos.col,.ref c]))) c (CodO c qual)) f (FunO f (lamC mg qual params body scope cl c ct)) c=some (CodO c qual):=by rw [upd_ne h3.symm]; exact upd_same
    refine q _ f c ct kp ⟨_,by rw [upd_ne n2,upd_ne n1]; exact upd_same,?_,fun p hp=>?_⟩ h2 n2.symm n1.symm upd_same e2
    · rw [Array.toList_append]
      exact trip_snoc _ tr
    · rw [Array.toList_append]
      by_cases z:pos.line=p.1.line/\pos.col=p.1.col
      · refine .inr ⟨c,?_,by rw [e2,hu p hp z]⟩
        rw [among_hit _ z]
        exact codeAmong_snoc _ tr hn
      · rw [show (#[rawInt pos.line,rawInt pos.col,Value.ref c]:Array Value).toList=[rawInt pos.line,rawInt pos.col,.ref c] from rfl,among_other _ tr z]
        refine (ha p hp).imp_right fun ⟨d,a,b⟩=>⟨d,a,kp _ _ (fun w=>?_) b⟩
        rw [w,hT] at b
        cases b
  · refine .inr ⟨c,hs,fun f ct h2=>?_⟩
    have kp:∀ b u,H b=some u->upd H f (FunO f (lamC mg qual params body scope cl c ct)) b=some u:=fun b u e=>by rw [upd_ne (ne_of_none e h2)]; exact e
    refine q _ f c ct (fun b u _ e=>kp b u e) ⟨ps,kp _ _ hT,tr,fun p hp=>(ha p hp).imp_right fun ⟨d,a,b⟩=>⟨d,a,kp _ _ b⟩⟩ h2 (ne_of_none hT h2).symm (fun w=>?_) upd_same (kp _ _ hc)
    rw [w,hT] at hc
    cases hc
end L2
namespace L2
open PySem
section
variable {a b c d:TS} {u:TR} {D:EndsR} {σ:List (Option V)} {H:Hp}
theorem cutR1 (h:∀ v:TR,u=v->tSeqR a v D σ H):tSeqR a u D σ H:=h u rfl
theorem ex22q {α β:Type} {a:α->Prop} {b c:α->β->Prop} {w:α} {v:β} (h:a w) (i:b w v) (k:c w v):∃ x,a x/\∃ y,b x y/\c x y:=⟨w,h,v,i,k⟩
end
section
variable {X:Cx}
theorem je_ixK (K:PySem.W.Frag) {a:Expr} {ta:TE} {i:Int} {j} {p pos:Pos} (ha:jE X a ta) (h:X.K=K:=by rfl):jE X (.Subscript a (.Constant (.int i) j p) pos) (tOp (rIxT K) ta (tC (.int i))):=je_ix (jx_tupK K h) ha je_int (fun _ _=>rfl)
theorem je_ixLK (K:PySem.W.Frag) {a:Expr} {ta:TE} {i:Int} {j} {p pos:Pos} (ha:jE X a ta) (h:X.K=K:=by rfl):jE X (.Subscript a (.Constant (.int i) j p) pos) (tOp (rIxL K) ta (tC (.int i))):=je_ix (jx_listK K h) ha je_int (fun _ _=>rfl)
theorem jt_ninK (K:PySem.W.Frag) {a b:Expr} {ta tb:TE} {pos:Pos} (ha:jE X a ta) (hb:jE X b tb) (hm:behindInMarks .NotIn b=false:=by with_unfolding_all rfl) (h:X.K=K:=by rfl):jT X (.Compare a [.NotIn] [b] pos) (tTest (tOp (rIn K true) ta tb)):=jt_cmpR (jo_notInK K h) ha hb hm
theorem jt_inK (K:PySem.W.Frag) {a b:Expr} {ta tb:TE} {pos:Pos} (ha:jE X a ta) (hb:jE X b tb) (hm:behindInMarks .In b=false:=by with_unfolding_all rfl) (h:X.K=K:=by rfl):jT X (.Compare a [.In] [b] pos) (tTest (tOp (rIn K false) ta tb)):=jt_cmpR (jo_inK K h) ha hb hm
theorem ifSay {K:PySem.W.Frag} {σ:St} {H:Hp} {D:Ends} {A B:TS} {p:Addr} {w0 w1:Str} {rest:List V} (h0:σ[0]?=some (some (.ref p))) (hp:H p=some (.tup (.str w0 :: rest))) (k:A D σ H) (e:decide (V.str w0=V.str w1)=true:=by rfl):tIfS (tTest (tOp rEq (tOp (rIxT K) (tVar 0) (tC (.int 0))) (tC (.str w1)))) A B D σ H:=⟨_,h0,ixT hp (atI_nat (j:=0) rfl) ⟨rfl,_,rfl,by rw [e]; exact k⟩⟩
theorem ifNot {K:PySem.W.Frag} {σ:St} {H:Hp} {D:Ends} {A:TS} {p:Addr} {w0 w1:Str} {rest:List V} (h0:σ[0]?=some (some (.ref p))) (hp:H p=some (.tup (.str w0 :: rest))) (k:D.nx σ H) (e:decide (V.str w0=V.str w1)=false:=by rfl):tIfS (tTest (tOp rEq (tOp (rIxT K) (tVar 0) (tC (.int 0))) (tC (.str w1)))) A tNext D σ H:=⟨_,h0,ixT hp (atI_nat (j:=0) rfl) ⟨rfl,_,rfl,by rw [e]; exact k⟩⟩
theorem ji_tupK (K:PySem.W.Frag) {tg l:Expr} {tl:TE} (hl:jE X l tl) (h:X.K=K:=by rfl):jI X tg l (iTup K tl):=h ▸ ji_tup hl
theorem ji_listK (K:PySem.W.Frag) {tg l:Expr} {tl:TE} (hl:jE X l tl) (h:X.K=K:=by rfl):jI X tg l (iList K tl):=h ▸ ji_list hl
theorem ji_zipK (K:PySem.W.Frag) {elts:List Expr} {n:Nat} {tpos:Pos} {a b:Expr} {t:TA} {p pos:Pos} (hg:Gl X "zip") (hm:X.mg "zip"=none) (ha:jA X [a,b] t) (h1:isStar a=false:=by rfl) (h2:isStar b=false:=by rfl) (h:X.K=K:=by rfl):jI X (.Tuple elts n tpos) (.Call (.Name "zip" p) [a,b] [] pos) (iZip K t):=h ▸ ji_zip hg hm ha h1 h2
end
end L2
namespace L2
open PySem
theorem ex2q {α:Type} {a b:α->Prop} {w:α} (h:a w) (k:b w):∃ x,a x/\b x:=⟨w,h,k⟩
end L2
namespace L2
theorem ex4q {α β:Type} {a:α->Prop} {b:β->Prop} {c:α->β->Prop} {w:α} {v:β} (h:a w) (i:b v) (k:c w v):∃ x y,a x/\b y/\c x y:=⟨w,v,h,i,k⟩
end L2
namespace HT
open PySem PySem.Spec PyProof.Rows
section
variable {prog:Program} {w:World} {A:Around} {s:Shared} {E:Value->Shared->Prop}
theorem getItem_tuple_whole {t sl:Addr} {items:Array Value} {vl vu:Value} {lo hi:Option Int} {Q:Value->Shared->Prop} (ht:IsTup s.heap t items) (hs:s.heap.IsSliceOf sl vl vu .none) (pl:IsPart vl lo) (pu:IsPart vu hi)
    (hw:sIx items.size 0 lo=0/\sIx items.size items.size hi=items.size) (h:Q (.ref t) s):wpAny (model prog w) A (getItem (.ref t) (.ref sl)) Q E s:=by
  obtain ⟨os,hos,hcs,hds⟩:=id hs
  have hTs:s.TypeIs (.ref sl) "slice":=⟨os,hos,hcs⟩
  unfold getItem
  try with_reducible refine wpAny_holding ?_
  first | refine wpAny_bind (wpAny_pure ?_) | skip
  refine wpAny_bind (wpAny_sequenceKey ht.typeIs (by decide) ?_)
  refine wpAny_bind (wpAny_callSpecial?_slot (name:=Str.ofString "__getitem__") ht.typeIs PyProof.Rows.slot_tuple_getitem
    (wpAny_call_entry PyProof.Rows.slot_tuple_getitem ht.typeIs entry_tuple_getitem ?_ (args_tuple_getitem _ _)))
  show wpAny _ _ (Builtin.Tuple.tupleItemsOf (.ref t) >>= _) _ _ s
  refine wpAny_bind (tupleItemsOf_ ht ?_)
  refine wpAny_bind (wpAny_typeOf hTs ?_)
  rw [if_pos (by decide)]
  refine wpAny_bind (sliceApplied_gen hs pl pu ?_)
  have hyes:(((sIx items.size 0 lo:Nat):Int) == 0 && (1:Int) == 1 && (sIx items.size items.size hi - sIx items.size 0 lo) == items.size)=true:=by
    rw [hw.1,hw.2]
    simp
  show wpAny _ _ (if (((sIx items.size 0 lo:Nat):Int) == 0 && (1:Int) == 1 && (sIx items.size items.size hi - sIx items.size 0 lo) == items.size)=true then _ else _) _ _ s
  rw [if_pos hyes]
  have hx:wpAny (model prog w) A.in1 (Builtin.Tuple.tupleIsExact (.ref t)) (fun b s'=>b=true/\s'=s) (fun _ _=>False) s:=by
    unfold Builtin.Tuple.tupleIsExact
    exact wpAny_bind (wpAny_typeOf ht.typeIs (wpAny_pure ⟨by decide,rfl⟩))
  refine wpAny_bind (wpAny_mono hx (fun b s' q=>?_) fun _ _ z=>z.elim)
  obtain ⟨rfl,rfl⟩:=q
  rw [if_pos rfl]
  exact wpAny_bind (wpAny_rule (wpAny_pure ⟨_,rfl,wpAny_pure h⟩))
end
end HT
namespace L2
open PySem PySem.Spec PyProof.Rows
def rSlW (K:PySem.W.Frag):V->Option Int->Option Int->Hp->VK->Prop:=fun x lo hi H Q=>∃ a xs,x=.ref a/\SqT K H a xs /\
  (cutV xs lo hi=xs->Q (.ref a) H)/\∀ p,H p=none->Q (.ref p) (upd H p (.tup (cutV xs lo hi)))
section
variable {X:Cx}
theorem sl_tupW:SlR X (rSlW X.K):=by
  intro pins s σ H x v vl vu lo hi sl Q I rx hs pl pu h
  obtain ⟨a,xs,rfl,hx,q1,q⟩:=h
  by_cases hw:HT.sIx xs.length 0 lo=0/\HT.sIx xs.length xs.length hi=xs.length
  · cases rx
    obtain ⟨its,r,ht,hz⟩:=I.tuple hx
    have hlen:its.toArray.size=xs.length:=by rw [List.size_toArray]; exact r.length.symm
    refine ⟨"tuple",_,PyProof.Rows.slot_tuple_getitem.lookup,ht.typeIs,?_⟩
    refine HT.getItem_tuple_whole ht hs pl pu (by rw [hlen]; exact hw) ⟨.ref a,H,I,rfl,q1 ?_⟩
    unfold cutV
    rw [hw.1,hw.2]
    simp
  · exact sl_tup pins s σ H (.ref a) v vl vu lo hi sl Q I rx hs pl pu ⟨a,xs,rfl,hx,hw,q⟩
def rSlO:V->Option Int->Option Int->Hp->VK->Prop:=fun x lo hi H Q=>∃ a xs,x=.ref a/\H a=some (.tup xs)/\∀ p H',(∀ b o,H b=some o->H' b=some o)->H' p=some (.tup (cutV xs lo hi))->Q (.ref p) H'
theorem sl_tupO:SlR X rSlO:=by
  intro pins s σ H x v vl vu lo hi sl Q I rx hs pl pu h
  obtain ⟨a,xs,rfl,hx,q⟩:=h
  refine sl_tupW pins s σ H (.ref a) v vl vu lo hi sl Q I rx hs pl pu ⟨a,xs,rfl,SqT.of hx,fun e=>q a H (fun _ _ z=>z) (by rw [e]; exact hx),fun p hp=>q p _ (fun b o z=>?_) upd_same⟩
  rw [upd_ne (ne_of_none z hp)]
  exact z
theorem jl_tupO:jSl X rSlO:=⟨sl_tupO⟩
end
end L2
namespace L2
open PySem PySem.Spec PyProof.Rows
section
variable {X:Cx}
def rDictD:List V->Hp->VK->Prop:=fun xs H Q=>∃ d kvs,xs=[.ref d]/\H d=some (.dK kvs)/\∀ l,H l=none->Q (.ref l) (upd H l (.dK kvs))
theorem call_dict_dict:CallR X (.type "dict") rDictD:=by
  intro pins s σ H xs us Q I r h
  obtain ⟨d,kvs,rfl,hd,q⟩:=h
  obtain ⟨u,rfl,rx⟩:=vals1 r
  cases rx
  obtain ⟨z,hs,ws,rel,dd⟩:=dk_of I.hok hd
  refine kt_call_dict (knd:=mixKind X.prog X.w) hs dd (by rw [<- rel.length]; exact z) fun h' dn sb=>?_
  have hk:∀ b o,s.heap.get? b=some o->h'.get? b=some o:=fun b o e=>(sb.2 b (Nat.ne_of_lt (Heap.lt_size e))).trans (Heap.get?_push_of_some _ e)
  refine ⟨.ref s.heap.objs.size,_,I.laid (t':=s.toks) hk (Nat.le_refl _) (show ObjOk X.prog X.w _ h' _ (.dK kvs) from ⟨z,?_,ws,rel,dn⟩),rfl,q _ (I.hok.fresh (Nat.le_refl _))⟩
  have:=I.big
  exact beq_eq_false_iff_ne.mpr (fun e=>by rw [e] at this; exact Nat.lt_irrefl _ this)
theorem jc_dict_dict:jCa X (.type "dict") rDictD:=⟨call_dict_dict⟩
end
end L2
namespace L2
open PySem PySem.Spec PyProof.Rows
section
variable {X:Cx}
end
end L2
namespace L2
open PySem PySem.Spec PyProof.Rows
section
variable {X:Cx} {pins:List (Addr × Obj)} {σ:St} {H:Hp} {s:Shared}
end
end L2
namespace L2
open PySem PySem.Spec PyProof.Rows
section
variable {X:Cx} {pins:List (Addr × Obj)} {σ:L2.St} {H:Hp} {s:Shared}
end
end L2
namespace L2
open PySem PySem.Spec PyProof.Rows
section
variable {X:Cx}
end
section
variable {prog:Program} {w:World} {A:Around} {E:Value->Shared->Prop} {s:Shared}
end
section
variable {X:Cx} {elts:List Expr} {k:Nat} {tpos:Pos}
end
end L2
namespace L2
open PySem PySem.Spec PyProof.Rows
section
variable {X:Cx}
end
end L2
namespace L2
open PySem PySem.Spec PyProof.Rows
section
variable {X:Cx}
theorem je_dpop2 {o e f:Expr} {td ty tx:TE} {apos cpos:Pos} (ho:jE X o td) (he:jE X e ty) (hf:jE X f tx) (m:M2 X o "pop" apos e f cpos:=by exact ⟨rfl,rfl,rfl,rfl⟩):jE X (.Call (.Attribute o "pop" apos) [e,f] [] cpos) (tDPop2 td ty tx):=⟨pe_dpop2 ho.out he.out hf.out m⟩
end
end L2
namespace L2
open PySem
def iAlt (a b:TI):TI:=fun σ H R=>a σ H R\/b σ H R
theorem ji_alt {X:Cx} {tg l:Expr} {a b:TI} (h1:jI X tg l a) (h2:jI X tg l b):jI X tg l (iAlt a b):=⟨fun pins s σ H R I h=>h.elim (h1.out pins s σ H R I) (h2.out pins s σ H R I)⟩
end L2
namespace L2
open PySem
theorem cutD {t:TS} {D:Ends} {σ:St} {H:Hp} {P:St->Hp->Prop} (h:∀ D':Ends,(∀ σ H,P σ H->D'.nx σ H)->t D' σ H) (p:∀ σ H,P σ H->D.nx σ H):t D σ H:=h D p
theorem cutR {t:TS} {D:Ends} {σ:St} {H:Hp} {P:St->Hp->Prop} (h:∀ D':Ends,D'.rt=D.rt->(∀ σ H,P σ H->D'.nx σ H)->t D' σ H) (p:∀ σ H,P σ H->D.nx σ H):t D σ H:=h D rfl p
end L2
namespace K11
open PySem
def sg (c:Nat):Str:=⟨#[c]⟩
theorem size_foldl (a:Array Nat):∀ (k:Nat) (acc:Array Nat),((List.replicate k a).foldl (· ++ ·) acc).size=acc.size + k * a.size
  | 0,acc=>by simp
  | k + 1,acc=>by
    rw [List.replicate_succ,List.foldl_cons,size_foldl a k,Array.size_append,Nat.add_mul]
    lia
theorem mul_len {z:Str} {n:Int} (hz:z.length=1):(Txt.mul z n).length<=n.toNat:=by
  unfold Txt.mul
  split
  · simp [Str.empty,Str.length]
  · rename_i h
    split
    · rw [hz]; lia
    · show ((List.replicate n.toNat z.cps).foldl (· ++ ·) #[]).size<=n.toNat
      have e:z.cps.size=1:=hz
      rw [size_foldl,e]
      simp
theorem mul_ok {z:Str} {n:Int} (hz:z.length=1) (h0:0<=n) (h1:n<=1000):MulOk z n:=by
  have hs:sizeLine=16777216:=by decide
  refine ⟨?_,fun a b=>?_,fun a b=>?_⟩
  · have e1:decide (n < -(2 ^ 63:Int))=false:=decide_eq_false (by lia)
    have e2:decide (n ≥ 2 ^ 63)=false:=decide_eq_false (by lia)
    rw [e1,e2]; rfl
  · rw [hz]
    have:(1:Int)<=(2 ^ 63 - 1) / n:=Int.le_ediv_of_mul_le (by lia) (by lia)
    intro c
    have c':(1:Int) > (2 ^ 63 - 1) / n:=c
    lia
  · rw [hz]
    unfold Builtin.Str.tooLong
    exact decide_eq_false (by rw [hs]; lia)
end K11
namespace K11
open PySem PySem.Spec PyProof.Rows Builtin Builtin.Str
abbrev cl (z:Str):List Nat:=z.cps.toList
theorem cl_len (z:Str):(cl z).length=z.length:=by simp [Str.length]
theorem cl_app (x y:Str):cl (x ++ y)=cl x ++ cl y:=by
  show (x.cps ++ y.cps).toList=_
  simp
theorem cl_join_cons {sep x y:Str} {r:List Str}:cl (Str.join sep (x :: y :: r))=cl x ++ (cl sep ++ cl (Str.join sep (y :: r))):=by
  show cl (x ++ sep ++ Str.join sep (y :: r))=_
  rw [cl_app,cl_app,List.append_assoc]
end K11
namespace GN
open PySem L2
def top (i:Nat):Stmt:=PySem.Challenge.pw_reusewise_k43_plain_form.main.body.getD i (.Pass ⟨0,0,0,0⟩)
abbrev sBInit:Stmt:=inClass (top 1) 0
abbrev sWorked:Stmt:=top 2
abbrev sOnly:Stmt:=top 3
abbrev sNamesOf:Stmt:=top 5
abbrev sWith:Stmt:=top 6
abbrev sDraw:Stmt:=top 17
abbrev sNm:Stmt:=top 18
abbrev sSorts:Stmt:=top 19
abbrev sWorld:Stmt:=top 20
abbrev sKinds:Stmt:=top 21
abbrev sPick:Stmt:=top 22
abbrev sPicks:Stmt:=top 23
abbrev sHanded:Stmt:=top 24
abbrev sDeed:Stmt:=top 25
abbrev sRooms:Stmt:=top 26
abbrev sCase:Stmt:=top 27
abbrev sBody:Stmt:=top 28
abbrev sDef:Stmt:=top 29
abbrev sProgram:Stmt:=top 30
abbrev sLUses:Stmt:=top 33
abbrev sLaw:Stmt:=top 39
abbrev sPlain:Stmt:=top 8
abbrev sPlainBody:Stmt:=top 9
abbrev sBegPlain:Stmt:=top 10
abbrev sMeant:Stmt:=top 11
abbrev sStanding:Stmt:=top 12
abbrev sItself:Stmt:=top 13
abbrev sPlainDeed:Stmt:=top 14
abbrev sPlainArms:Stmt:=top 15
abbrev sLSame:Stmt:=top 31
abbrev sLAlias:Stmt:=top 32
abbrev sLWanted:Stmt:=top 34
abbrev sLExtras:Stmt:=top 35
abbrev sLMDeed:Stmt:=top 36
abbrev sLMud:Stmt:=top 37
abbrev sLCode:Stmt:=top 38
end GN
namespace L2
open PySem
section
variable {X:Cx} {o i:Expr} {to ti:TE} {pos:Pos}
theorem jg_setL (ho:jE X o to) (hi:jE X i ti) (ha:∀ v,assign (.Subscript o i pos) X.env v=(do
      let ov <- holding [v] (eval o X.env)
      let iv <- holding [v,ov] (eval i X.env)
      standAt pos
      holding [v,ov,iv] (setItem ov iv v)
      release [v,ov,iv] []):=by intro _; rfl):jG X (.Subscript o i pos) (gSub to ti rSetL):=⟨pg_sub ho.out hi.out set_list ha⟩
theorem jo_rep:jOp X (binaryOp .Mult) rRep:=⟨op_rep⟩
theorem jm_reverse:jMt X "list.reverse" rReverse:=⟨mt_reverse⟩
theorem jc_max2 (hc:X.calm=true):jCa X (.builtin "max") (fun xs H Q=>∃ i j,xs=[.int i,.int j]/\Q (.int (if j > i then j else i)) H):=⟨call_max2 hc⟩
end
end L2
namespace GN
open PySem L2 K11
theorem same_new {H:Hp} {p:Addr} (h:H p=none) (o:HO):Same H (upd H p o):=fun b u q=>by rw [upd_ne (ne_of_none q h)]; exact q
def LIM:Nat:=4611686018427387904
def Sta (K:PySem.W.Frag) (H:Hp) (st:Addr) (B:Nat):Prop:=∃ (a:Addr) (ns:List Int) (k:Nat),H st=some (.lst [.ref a,.int (k:Nat)])/\(a=st->∀ H',SqL K H' a (ns.map V.int))/\SqL K H a (ns.map V.int)/\k<=B
structure Kp (st:Addr) (H H':Hp):Prop where
  k:∀ b u,b≠st->H b=some u->H' b=some u
  s:∀ a k,H st=some (.lst [.ref a,.int k])->∃ k',H' st=some (.lst [.ref a,.int k'])
theorem Kp.refl {st:Addr} {H:Hp}:Kp st H H:=⟨fun _ _ _ h=>h,fun _ k h=>⟨k,h⟩⟩
theorem Kp.trans {st:Addr} {H H1 H2:Hp} (a:Kp st H H1) (b:Kp st H1 H2):Kp st H H2:=⟨fun c u n h=>b.k c u n (a.k c u n h),fun x k h=>let ⟨k',h'⟩:=a.s x k h; b.s x k' h'⟩
theorem Kp.of {st:Addr} {H H1:Hp} (a:Same H H1):Kp st H H1:=⟨fun c u _ h=>a c u h,fun _ k h=>⟨k,a _ _ h⟩⟩
theorem Kp.new {st p:Addr} {H H1:Hp} {o:HO} (a:Kp st H H1) (h:H1 p=none):Kp st H (upd H1 p o):=a.trans (.of (same_new h o))
theorem Kp.put {st p:Addr} {H H1:Hp} {o:HO} (a:Kp st H H1) (h:H p=none):Kp st H (upd H1 p o):=⟨fun b u n q=>by rw [upd_ne (ne_of_none q h)]; exact a.k b u n q,fun x k q=>by
  obtain ⟨k',h'⟩:=a.s x k q
  exact ⟨k',by rw [upd_ne (ne_of_none q h)]; exact h'⟩⟩
theorem Kp.seq {K:PySem.W.Frag} {st a:Addr} {H H':Hp} {xs:List V} (e:Kp st H H') (n:a≠st) (h:SqL K H a xs):SqL K H' a xs:=by
  rcases h with (h | ⟨o,h⟩) | h
  · exact .inl (.inl (e.k _ _ n h))
  · exact .inl (.inr ⟨o,e.k _ _ n h⟩)
  · exact .inr h
theorem Kp.free {st p:Addr} {H H':Hp} (e:Kp st H H') (n:p≠st) (h:H' p=none):H p=none:=by
  cases q:H p with
  | none=>rfl
  | some o =>
    rw [e.k p o n q] at h
    cases h
section
variable {K:PySem.W.Frag} {H H':Hp} {st:Addr} {B B':Nat}
theorem Sta.ex (h:Sta K H st B):∃ o,H st=some o:=let ⟨_,_,_,e,_⟩:=h; ⟨_,e⟩
theorem Sta.mono (h:Sta K H st B) (l:B<=B'):Sta K H st B':=let ⟨a,ns,k,h1,h2,h3,h4⟩:=h; ⟨a,ns,k,h1,h2,h3,Nat.le_trans h4 l⟩
theorem Sta.same (h:Sta K H st B) (s:Same H H'):Sta K H' st B:=let ⟨a,ns,k,h1,h2,h3,h4⟩:=h; ⟨a,ns,k,s _ _ h1,h2,s.seq h3,h4⟩
theorem Sta.new (h:Sta K H st B) {p:Addr} (hp:H p=none) (o:HO):Sta K (upd H p o) st B:=h.same (same_new hp o)
theorem Sta.ne {p:Addr} (h:Sta K H st B) (hp:H p=none):p≠st:=fun e=>by
  obtain ⟨o,q⟩:=h.ex
  rw [e,q] at hp
  cases hp
theorem Sta.neR {p:Addr} {ts:List Addr} (h:Sta K H st B) (hp:H p=some (.lst (ts.map V.ref))):p≠st:=fun e=>by
  obtain ⟨a,ns,k,h1,_⟩:=h
  rw [e,h1] at hp
  have e2:=congrArg (fun o=>match o with | some (HO.lst l)=>l | _=>[]) hp
  simp only at e2
  match ts,e2 with
  | [_,_],e2=>simp at e2
  | [],e2=>simp at e2
  | [_],e2=>simp at e2
  | _ :: _ :: _ :: _,e2=>simp at e2
theorem Sta.neI {p:Addr} {ts:List Int} (h:Sta K H st B) (hp:H p=some (.lst (ts.map V.int))):p≠st:=fun e=>by
  obtain ⟨a,ns,k,h1,_⟩:=h
  rw [e,h1] at hp
  have e2:=congrArg (fun o=>match o with | some (HO.lst l)=>l | _=>[]) hp
  simp only at e2
  match ts,e2 with
  | [],e2=>simp at e2
  | _ :: _,e2=>simp at e2
theorem Sta.neS {p:Addr} {ts:List Str} (h:Sta K H st B) (hp:H p=some (.lst (ts.map V.str))):p≠st:=fun e=>by
  obtain ⟨a,ns,k,h1,_⟩:=h
  rw [e,h1] at hp
  have e2:=congrArg (fun o=>match o with | some (HO.lst l)=>l | _=>[]) hp
  simp only at e2
  match ts,e2 with
  | [],e2=>simp at e2
  | _ :: _,e2=>simp at e2
theorem Sta.neW {p:Addr} {x:Str} {xs:List V} (h:Sta K H st B) (hp:H p=some (.lst (.str x :: xs))):p≠st:=fun e=>by
  obtain ⟨a,ns,k,h1,_⟩:=h
  rw [e,h1] at hp
  simp at hp
theorem Sta.put {H2:Hp} {p:Addr} {o:HO} (S0:Sta K H st B) (hp:H p=none) (k:Kp st H H2) (S2:Sta K H2 st B'):Sta K (upd H2 p o) st B':=by
  obtain ⟨a,ns,i,h1,h2,h3,_⟩:=S0
  obtain ⟨a',ns',i',g1,g2,g3,g4⟩:=S2
  obtain ⟨k',h'⟩:=k.s a _ h1
  rw [g1] at h'
  have ea:a'=a:=by
    have:=congrArg (fun o=>match o with | some (HO.lst (V.ref x :: _))=>x | _=>0) h'
    exact this
  subst ea
  have g1':upd H2 p o st=some (.lst [.ref a',.int ((i':Nat):Int)]):=by rw [upd_ne (ne_of_none h1 hp)]; exact g1
  have key:a'≠p->Sta K (upd H2 p o) st B':=fun n=>by
    refine ⟨a',ns',i',g1',g2,?_,g4⟩
    rcases g3 with (g | ⟨o,g⟩) | g
    · exact .inl (.inl (by rw [upd_ne n]; exact g))
    · exact .inl (.inr ⟨o,by rw [upd_ne n]; exact g⟩)
    · exact .inr g
  rcases h3 with (h | ⟨_,h⟩) | h
  · exact key (ne_of_none h hp)
  · exact key (ne_of_none h hp)
  · exact ⟨a',ns,i',g1',fun _ _=>.inr h,.inr h,g4⟩
def Tups (H H':Hp):Prop:=∀ p xs,H p=some (.tup xs)->H' p=some (.tup xs)
theorem Tups.of (s:Same H H'):Tups H H':=fun p xs h=>s p _ h
theorem Tups.trans {H2:Hp} (a:Tups H H') (b:Tups H' H2):Tups H H2:=fun p xs h=>b p xs (a p xs h)
theorem Kp.tups (k:Kp st H H') (h:Sta K H st B):Tups H H':=fun p xs q=>k.k p _ (fun e=>by
  obtain ⟨_,_,_,h1,_⟩:=h
  rw [e,h1] at q
  cases q) q
end
def spDraw (K:PySem.W.Frag):Sp:=fun vs H Q _=>∃ (st:Addr) (m:Int) (B:Nat),vs=[.ref st,.int m]/\Sta K H st B/\B < LIM/\0 < m/\∀ (H':Hp) (r:Int),Kp st H H'->Sta K H' st (B + 1)->0<=r->r < m->Q (.int r) H'
def LET:Str:="abcdefghijklmnopqrstuvwxyz"
theorem let_cl:cl LET=(List.range 26).map (97 + ·):=by decide +kernel
def lt (i:Nat):Str:=sg (97 + i)
theorem let_at {i:Nat} (h:i < 26):atI LET.cps.toList (i:Int)=some (97 + i):=by
  refine atI_nat ?_
  show (cl LET)[i]?=_
  rw [let_cl,List.getElem?_map,List.getElem?_range h]
  rfl
theorem let_atI {m:Int} (h0:0<=m) (h:m < 26):atI LET.cps.toList m=some (97 + m.toNat):=by
  have e:=let_at (i:=m.toNat) (by lia)
  rw [Int.toNat_of_nonneg h0] at e
  exact e
theorem let_len:LET.length=26:=by decide +kernel
def core (k:Nat):Str:=lt (k / 2 % 26) ++ ("z":Str) ++ lt (k / 52 % 26)
def ys (k:Nat):Str:=Txt.mul "y" ((k % 2:Nat):Int)
def nm (z:Str) (b:Bool) (k:Nat):Str:=if b=true then core k ++ z ++ ys k else ys k ++ z ++ core k
theorem cl_core (k:Nat):cl (core k)=[97 + k / 2 % 26,122,97 + k / 52 % 26]:=by
  unfold core
  rw [cl_app,cl_app]
  rfl
theorem core_len (k:Nat):(core k).length=3:=by rw [<- cl_len,cl_core]; rfl
theorem ys_len (k:Nat):(ys k).length<=1:=by
  have h:=mul_len (z:="y") (n:=((k % 2:Nat):Int)) rfl
  unfold ys
  lia
theorem len_app (a b:Str):(a ++ b).length=a.length + b.length:=by rw [<- cl_len,cl_app,List.length_append,cl_len,cl_len]
def spNm:Sp:=fun vs H Q _=>∃ (p:Addr) (z:Str) (b:Bool) (xs:List V) (k:Nat),vs=[.ref p,.int (k:Nat)]/\H p=some (.lst (.str z :: .bl b :: xs))/\z.length<=6/\Q (.str (nm z b k)) H
def So (l:List Int):Prop:=∀ x∈l,0<=x/\x<=2
theorem So.app {a b:List Int} (h:So a) (g:So b):So (a ++ b):=fun x hx=>(List.mem_append.mp hx).elim (h x) (g x)
theorem So.nil:So []:=fun x hx=>by cases hx
def spSorts (K:PySem.W.Frag):Sp:=fun vs H Q _=>∃ (st:Addr) (l m:Nat) (B:Nat),vs=[.ref st,.int (l:Nat),.int (m:Nat)]/\l<=m/\m<=9/\Sta K H st B/\B + 11 < LIM/\∀ (H':Hp) (p:Addr) (l:List Int),Kp st H H'->Sta K H' st (B + 11)->H p=none->l.length<=m->So l->H' p=some (.lst (l.map V.int))->Q (.ref p) H'
section
variable {P:Program} {w:World} {K:PySem.W.Frag} {mg:Str->Option Value} {base:Heap} {f:Addr} {fd:FuncData}
theorem scDraw:FnScope ["_law_state","_law_many","_law_k","_law_cell"] ["_law_state","_law_many"] (defScope sDraw):=⟨rfl,rfl,rfl,by decide +kernel,rfl,by decide +kernel,by decide +kernel⟩
theorem ok_draw (F:Fun K "_law_draw" "_law_draw" sDraw f fd) (m_len:mg "len"=none):FnOk P w K mg base CX0 1 f fd ["_law_state","_law_many"] (spDraw K):=by
  refine F.by scDraw (fun vs H Q E h=>?_) (fun cdv A outer s H vs Q E hr h=>?_)
  · obtain ⟨st,m,B,rfl,_⟩:=h
    rfl
  obtain ⟨st,m,B,rfl,⟨a,ns,k,hst,hne,hS,hk⟩,hB,hm,q⟩:=h
  refine ⟨_,
    (jss_cons (js_set (i:=2) scDraw.nd rfl (Or.inl rfl) (je_ixLK K (jv 0)))
    (jss_cons (js_asg (je_op jo_add (jv 2) je_int) (jg_setL (jv 0) je_int))
    (jss_cons (js_if (jt_cmpR jo_lt (jv 2) (je_fnB (jc_len_seqK K) rfl m_len PySem.boot_len (ja_c (je_ixLK K (jv 0)) ja_nil)) (nomark _))
      (jss_one (js_ret (je_op jo_mod (je_ix (jx_listK K) (je_ixLK K (jv 0)) (jv 2) (fun _ _=>rfl)) (jv 1)))) jss_nil)
    (jss_cons (js_set (i:=3) scDraw.nd rfl (Or.inl rfl) (je_op jo_add (je_op jo_mul (jv 2) je_int) je_int))
    (jss_cons (js_if (jt_cmpR jo_gt (je_fnB (jc_len_seqK K) rfl m_len PySem.boot_len (ja_c (je_ixLK K (jv 0)) ja_nil)) je_int (nomark _))
      (jss_one (js_set (i:=3) scDraw.nd rfl (Or.inl rfl) (je_op jo_add (jv 3) (je_op jo_mul (je_ix (jx_listK K) (je_ixLK K (jv 0)) (je_op jo_mod (je_op jo_mul (jv 2) je_int) (je_fnB (jc_len_seqK K) rfl m_len PySem.boot_len (ja_c (je_ixLK K (jv 0)) ja_nil))) (fun _ _=>rfl)) (je_op jo_add je_int (jv 2)))))) jss_nil)
    (jss_one (js_ret (je_op jo_mod (je_op jo_mod (jv 3) je_int) (jv 1))))))))),?_⟩
  refine ⟨_,rfl,ixL hst (atI_nat (j:=1) rfl) ?_⟩
  refine ⟨_,rfl,_,_,rfl,rfl,_,rfl,st,_,1,1,rfl,rfl,hst,rfl,?_⟩
  have kp:Kp st H (upd H st (.lst [.ref a,.int ((k + 1:Nat):Int)])):=⟨fun b u n h=>by rw [upd_ne n]; exact h,fun x y h=>by
    rw [hst] at h
    cases h
    exact ⟨_,upd_same⟩⟩
  have hst1:=upd_same (H:=H) (a:=st) (o:=.lst [.ref a,.int ((k + 1:Nat):Int)])
  have hS1:SqL K (upd H st (.lst [.ref a,.int ((k + 1:Nat):Int)])) a (ns.map V.int):=by
    by_cases e:a=st
    · exact hne e _
    · exact kp.seq e hS
  have fin:∀ r:Int,0<=r->r < m->Q (.int r) (upd H st (.lst [.ref a,.int ((k + 1:Nat):Int)])):=fun r h0 h1=>q _ r kp ⟨a,ns,k + 1,hst1,hne,hS1,by lia⟩ h0 h1
  show (tSeq _ _:TS) _ _ (upd H st (.lst [.ref a,.int ((k + 1:Nat):Int)]))
  generalize upd H st (.lst [.ref a,.int ((k + 1:Nat):Int)])=H1 at *
  have ix0:atI [V.ref a,V.int ((k + 1:Nat):Int)] 0=some (.ref a):=atI_nat (j:=0) rfl
  have mm:∀ x:Int,0<=x % m/\x % m < m:=fun x=>⟨Int.emod_nonneg x (by lia),Int.emod_lt_of_pos x hm⟩
  refine ⟨_,rfl,_,rfl,st,_,_,_,rfl,rfl,SqL.of hst1,ix0,_,_,rfl,.inl hS1,_,_,rfl,rfl,_,rfl,?_⟩
  rw [List.length_map]
  refine ite2 (fun c=>?_) (fun c=>?_)
  · rw [decide_eq_true_eq] at c
    have hi:k < ns.length:=by lia
    have hx:(ns.map V.int)[k]?=some (.int ns[k]):=by rw [List.getElem?_map,List.getElem?_eq_getElem hi]; rfl
    exact ⟨_,rfl,st,_,_,_,rfl,rfl,SqL.of hst1,ix0,_,rfl,a,_,_,_,rfl,rfl,hS1,atI_nat hx,_,rfl,_,_,rfl,rfl,hm,fin _ (mm _).1 (mm _).2⟩
  · refine ⟨_,rfl,_,_,rfl,rfl,.inr ⟨by decide,by decide⟩,_,_,rfl,rfl,?_⟩
    have tail:∀ (c:Int) (D:Ends),D.rt=Q->(tRet (tOp (rI (fun _ j=>0 < j) fun i j=>V.int (i % j)) (tOp (rI (fun _ j=>0 < j) fun i j=>V.int (i % j)) (tVar 3) (tC (.int 2147483629))) (tVar 1)):TS) D [some (.ref st),some (.int m),some (.int (k:Nat)),some (.int c)] H1:=fun c D e=>by
      refine ⟨_,rfl,_,_,rfl,rfl,(by show (0:Int) < _; decide),_,rfl,_,_,rfl,rfl,hm,?_⟩
      rw [e]
      exact fin _ (mm _).1 (mm _).2
    refine ⟨_,rfl,st,_,_,_,rfl,rfl,SqL.of hst1,ix0,_,_,rfl,.inl hS1,_,_,rfl,rfl,_,rfl,?_⟩
    rw [List.length_map]
    refine ite2 (fun c2=>?_) (fun c2=>tail _ _ rfl)
    rw [decide_eq_true_eq] at c2
    have hl:(0:Int) < (ns.length:Nat):=by lia
    have c0:=Int.emod_nonneg ((k:Nat) * 7:Int) (show ((ns.length:Nat):Int)≠0 by lia)
    have c1:=Int.emod_lt_of_pos ((k:Nat) * 7:Int) hl
    have hi:(((k:Nat) * 7:Int) % (ns.length:Nat)).toNat < ns.length:=by lia
    have hx:(ns.map V.int)[(((k:Nat) * 7:Int) % (ns.length:Nat)).toNat]?=some (.int ns[(((k:Nat) * 7:Int) % (ns.length:Nat)).toNat]):=by rw [List.getElem?_map,List.getElem?_eq_getElem hi]; rfl
    have hx2:atI (ns.map V.int) (((k:Nat) * 7:Int) % (ns.length:Nat))=some (.int ns[(((k:Nat) * 7:Int) % (ns.length:Nat)).toNat]):=by
      have e:=atI_nat hx
      rw [Int.toNat_of_nonneg c0] at e
      exact e
    refine ⟨_,rfl,_,rfl,st,_,_,_,rfl,rfl,SqL.of hst1,ix0,_,rfl,_,_,rfl,rfl,.inr ⟨by decide,by decide⟩,_,rfl,st,_,_,_,rfl,rfl,SqL.of hst1,ix0,_,_,rfl,.inl hS1,_,_,rfl,rfl,(by rw [List.length_map]; exact hl),?_⟩
    refine ⟨a,_,_,_,rfl,rfl,hS1,(by rw [List.length_map]; exact hx2),_,rfl,_,_,rfl,rfl,_,_,rfl,rfl,.inr ⟨by show -(2 ^ 64) < (48271 + (k:Nat):Int); lia,by show (48271 + (k:Nat):Int) < 2 ^ 64; unfold LIM at hB; lia⟩,_,_,rfl,rfl,tail _ _ rfl⟩
theorem scNm:FnScope ["_law_world_here","_law_k","_law_letters","_law_core"] ["_law_world_here","_law_k"] (defScope sNm):=⟨rfl,rfl,rfl,by decide +kernel,rfl,by decide +kernel,by decide +kernel⟩
theorem ok_nm (F:Fun K "_law_name" "_law_name" sNm f fd):FnOk P w K mg base CX0 1 f fd ["_law_world_here","_law_k"] spNm:=by
  refine F.by scNm (fun vs H Q E h=>?_) (fun cdv A outer s H vs Q E hr h=>?_)
  · obtain ⟨p,z,b,xs,k,rfl,_⟩:=h
    rfl
  obtain ⟨p,z,b,xs,k,rfl,hp,hz,q⟩:=h
  refine ⟨_,
    (jss_cons (js_set (i:=2) scNm.nd rfl (Or.inl rfl) je_str)
    (jss_cons (js_set (i:=3) scNm.nd rfl (Or.inl rfl) (je_op jo_add_str (je_op jo_add_str (je_ix jx_str (jv 2) (je_op jo_mod (je_op jo_fdiv (jv 1) je_int) je_int) (fun _ _=>rfl)) je_str) (je_ix jx_str (jv 2) (je_op jo_mod (je_op jo_fdiv (jv 1) je_int) je_int) (fun _ _=>rfl))))
    (jss_cons (js_if (jt_val (je_ixLK K (jv 0)))
      (jss_one (js_ret (je_op jo_add_str (je_op jo_add_str (jv 3) (je_ixLK K (jv 0))) (je_op jo_mul_str je_str (je_op jo_mod (jv 1) je_int))))) jss_nil)
    (jss_one (js_ret (je_op jo_add_str (je_op jo_add_str (je_op jo_mul_str je_str (je_op jo_mod (jv 1) je_int)) (je_ixLK K (jv 0))) (jv 3))))))),?_⟩
  have sl:=line0
  have e1:((k:Nat):Int) / 2 % 26=((k / 2 % 26:Nat):Int):=by lia
  have e2:((k:Nat):Int) / 52 % 26=((k / 52 % 26:Nat):Int):=by lia
  have e3:((k:Nat):Int) % 2=((k % 2:Nat):Int):=by lia
  have cl3:=core_len k
  have yl:=ys_len k
  have ec:(⟨#[97 + (((k:Nat):Int) / 2 % 26).toNat]⟩:Str) ++ ("z":Str) ++ (⟨#[97 + (((k:Nat):Int) / 52 % 26).toNat]⟩:Str)=core k:=by
    rw [e1,e2]
    rfl
  suffices rest:∀ c3:Str,c3=core k->(tSeq _ _:TS) { nx:=fun _ H'=>Q .non H',rt:=Q } [some (.ref p),some (.int (k:Nat)),some (.str LET),some (.str c3)] H by
    exact ⟨_,rfl,_,rfl,_,_,rfl,rfl,⟨by decide,by decide⟩,_,_,rfl,rfl,(by show (0:Int) < _; decide),LET,_,_,rfl,rfl,by rw [let_len]; decide,let_atI (by lia) (by lia),_,_,rfl,rfl,by show 1 + 1<=sizeLine; decide,_,rfl,_,rfl,_,_,rfl,rfl,⟨by decide,by decide⟩,_,_,rfl,rfl,(by show (0:Int) < _; decide),LET,_,_,rfl,rfl,by rw [let_len]; decide,let_atI (by lia) (by lia),_,_,rfl,rfl,by show 2 + 1<=sizeLine; decide,rest _ ec⟩
  rintro _ rfl
  have mo:MulOk "y" (((k % 2:Nat):Int)):=mul_ok rfl (by lia) (by lia)
  refine ⟨_,rfl,ixL hp (atI_nat (j:=1) rfl) ⟨_,rfl,?_⟩⟩
  unfold nm at q
  cases b with
  | true =>
    rw [if_pos rfl] at q
    refine iteT ?_
    refine ⟨_,rfl,_,rfl,ixL hp (atI_nat (j:=0) rfl) ⟨_,_,rfl,rfl,by lia,_,rfl,_,_,rfl,rfl,(by show (0:Int) < _; decide),_,_,rfl,rfl,by rw [e3]; exact mo,?_⟩⟩
    rw [e3]
    exact ⟨_,_,rfl,rfl,by rw [len_app]; show (core k).length + z.length + (ys k).length<=_; lia,q⟩
  | false =>
    rw [if_neg (by decide)] at q
    refine iteF ?_
    refine ⟨_,rfl,_,_,rfl,rfl,(by show (0:Int) < _; decide),_,_,rfl,rfl,by rw [e3]; exact mo,?_⟩
    rw [e3]
    refine ⟨_,rfl,ixL hp (atI_nat (j:=0) rfl) ⟨_,_,rfl,rfl,by show (ys k).length + z.length<=_; lia,_,rfl,_,_,rfl,rfl,by show (Txt.mul "y" (((k % 2:Nat):Int)) ++ z).length + (core k).length<=_; rw [len_app]; show (ys k).length + z.length + (core k).length<=_; lia,q⟩⟩
theorem scSorts:FnScope ["_law_state","_law_least","_law_most"] ["_law_state","_law_least","_law_most"] (defScope sSorts):=⟨rfl,rfl,rfl,by decide +kernel,rfl,by decide +kernel,by decide +kernel⟩
theorem ndSorts:(["_law_state","_law_least","_law_most","_law_k"]:List Str).Nodup:=by decide +kernel
theorem ok_sorts (F:Fun K "_law_sorts" "_law_sorts" sSorts f fd) (GD:Ca P w K mg base CX0 1 "_law_draw" ["_law_state","_law_many"] (spDraw K)) (m_range:mg "range"=none):FnOk P w K mg base CX0 2 f fd ["_law_state","_law_least","_law_most"] (spSorts K):=by
  refine F.by scSorts (fun vs H Q E h=>?_) (fun cdv A outer s H vs Q E hr h=>?_)
  · obtain ⟨st,l,m,B,rfl,_⟩:=h
    rfl
  obtain ⟨st,l,m,B,rfl,hlm,hm,hS,hB,q⟩:=h
  refine ⟨_,
    (jss_one (js_ret (je_comp ["_law_k"] rfl (ji_range1 rfl m_range (ja_c (je_op jo_add (jv 1) (je_ca GD hr rfl pass0 (ja_c (jv 0) (ja_c (je_op jo_sub (je_op jo_add (jv 2) je_int) (jv 1)) ja_nil)))) ja_nil)) (fun _ _ _ _ _=>(jg_name (i:=3) ndSorts rfl (Or.inl rfl))) (fun _ _ _ _ _=>jts_nil) (fun _ _ _ _ _=>(je_ca GD hr rfl pass0 (ja_c (jv 0) (ja_c je_int ja_nil))))))),?_⟩
  have sl:=line0
  refine ⟨_,rfl,_,rfl,_,rfl,_,_,rfl,rfl,_,rfl,_,_,rfl,rfl,st,_,B,rfl,hS,by lia,by lia,fun H1 r k1 S1 r0 r1=>?_⟩
  refine ⟨_,_,rfl,rfl,_,rfl,by lia,by lia,lc_range (n:=(((l:Nat):Int) + r).toNat) (fun i τ ys H'=>Kp st H H'/\Sta K H' st (B + 1 + i)/\(∃ x,τ=[some (.ref st),some (.int (l:Nat)),some (.int (m:Nat)),x])/\∃ ns:List Int,ys=ns.map V.int/\ns.length=i/\So ns) ⟨k1,S1,⟨none,rfl⟩,[],rfl,rfl,.nil⟩ ?_ ?_⟩
  · rintro i τ ys H2 hi ⟨k2,S2,⟨x,rfl⟩,ns,rfl,hl,hso⟩
    refine ⟨_,rfl,st,3,B + 1 + i,rfl,S2,by lia,by decide,fun H3 r3 k3 S3 q0 q1=>⟨by rw [List.length_map]; lia,k2.trans k3,S3,⟨_,rfl⟩,ns ++ [r3],by simp,by simp [hl],hso.app fun x hx=>by rw [List.mem_singleton.mp hx]; exact ⟨q0,by lia⟩⟩⟩
  · rintro τ ys H2 ⟨k2,S2,_,ns,rfl,hl,hso⟩ p hp
    exact q _ p ns (k2.new hp) ((S2.mono (by lia)).new hp _) (k2.free (S2.ne hp) hp) (by lia) hso upd_same
end
end GN
namespace GN
open PySem L2 K11
theorem join_len:∀ {zs:List Str},(∀ z∈zs,z.length=1)->(Str.join "" zs).length=zs.length
  | [],_=>rfl
  | [x],h=>h x List.mem_cons_self
  | x :: y :: r,h=>by
    have ih:=join_len (zs:=y :: r) fun z hz=>h z (List.mem_cons_of_mem _ hz)
    rw [<- cl_len,cl_join_cons,List.length_append,List.length_append,cl_len,cl_len,cl_len,ih,h x List.mem_cons_self]
    show 1 + (0 + (y :: r).length)=(y :: r).length + 1
    lia
theorem join_cl:∀ {zs:List Str},(∀ z∈zs,∀ c∈cl z,97<=c)->∀ c∈cl (Str.join "" zs),97<=c
  | [],_,c,hc=>by cases hc
  | [x],h,c,hc=>h x List.mem_cons_self c hc
  | x :: y :: r,h,c,hc=>by
    rw [cl_join_cons] at hc
    rcases List.mem_append.mp hc with hc | hc
    · exact h x List.mem_cons_self c hc
    · rcases List.mem_append.mp hc with hc | hc
      · cases hc
      · exact join_cl (zs:=y :: r) (fun z hz=>h z (List.mem_cons_of_mem _ hz)) c hc
theorem wide_one {zs:List Str} (h:∀ z∈zs,z.length=1):wide "" zs=zs.length:=by
  unfold wide
  have e:∀ {l:List Str},(∀ z∈l,z.length=1)->(l.map (·.length)).sum=l.length:=by
    intro l
    induction l with
    | nil=>intro _; rfl
    | cons a l ih=>intro h; rw [List.map_cons,List.sum_cons,ih fun z hz=>h z (List.mem_cons_of_mem _ hz),h a List.mem_cons_self,List.length_cons]; lia
  rw [e h]
  rfl
abbrev TS3:=List (Str × List Int × Int)
inductive Tri (H:Hp):TS3->List Addr->Prop
  | nil:Tri H [] []
  | cons {z:Str} {s:List Int} {k:Int} {t q:Addr} {l:TS3} {ts:List Addr}:H t=some (.tup [.str z,.ref q,.int k])->H q=some (.lst (s.map V.int))->Tri H l ts->Tri H ((z,s,k) :: l) (t :: ts)
theorem Tri.keep {H H':Hp} {l:TS3} {ts:List Addr} (h:Tri H l ts) (t:Tups H H') (i:∀ q (s:List Int),H q=some (.lst (s.map V.int))->H' q=some (.lst (s.map V.int))):Tri H' l ts:=by
  induction h with
  | nil=>exact .nil
  | cons a b _ ih=>exact .cons (t _ _ a) (i _ _ b) ih
theorem Tri.kp {K:PySem.W.Frag} {st:Addr} {B:Nat} {H H':Hp} {l:TS3} {ts:List Addr} (h:Tri H l ts) (S:Sta K H st B) (k:Kp st H H'):Tri H' l ts:=h.keep (k.tups S) fun q s e=>k.k _ _ (S.neI e) e
theorem Tri.app {H:Hp} {a b:TS3} {p q:List Addr} (h:Tri H a p) (g:Tri H b q):Tri H (a ++ b) (p ++ q):=by
  induction h with
  | nil=>exact g
  | cons x y _ ih=>exact .cons x y ih
theorem Tri.len {H:Hp} {l:TS3} {ts:List Addr} (h:Tri H l ts):l.length=ts.length:=by
  induction h with
  | nil=>rfl
  | cons _ _ _ ih=>rw [List.length_cons,List.length_cons,ih]
theorem Tri.get {H:Hp}:∀ {l:TS3} {ts:List Addr} {i:Nat} {t:Addr},Tri H l ts->ts[i]?=some t->∃ z s k q,l[i]?=some (z,s,k)/\H t=some (.tup [.str z,.ref q,.int k])/\H q=some (.lst (s.map V.int))
  | _,_,_,_,.nil,e=>by simp at e
  | _,_,0,_,.cons a b _,e=>by
    simp at e
    subst e
    exact ⟨_,_,_,_,rfl,a,b⟩
  | _,_,i + 1,_,.cons _ _ c,e=>by
    obtain ⟨z,s,k,q,h1,h2⟩:=Tri.get (i:=i) c (by simpa using e)
    exact ⟨z,s,k,q,by simpa using h1,h2⟩
structure Wo where
  z:Str
  b:Bool
  tags:TS3
  defs:TS3
structure WOk (o:Wo):Prop where
  z:o.z.length<=6
  tn:o.tags.map (·.1)=(List.range 4).map (nm o.z o.b)
  tk:o.tags.map (·.2.2)=[1,1,1,2]
  ts:∀ p∈o.tags,p.2.1.length<=9/\So p.2.1
  dn:o.defs.map (·.1)=(List.range 3).map fun k=>nm o.z o.b (2 - k)
  ds:∀ p∈o.defs,p.2.1.length<=3/\So p.2.1/\0<=p.2.2/\p.2.2<=2
  zc:∀ c∈cl o.z,97<=c
structure IsW (H:Hp) (o:Wo) (w:Addr):Prop where
  ex:∃ (tl dl:Addr) (ts ds:List Addr),H w=some (.lst [.str o.z,.bl o.b,.ref tl,.ref dl])/\H tl=some (.lst (ts.map V.ref))/\H dl=some (.lst (ds.map V.ref))/\Tri H o.tags ts/\Tri H o.defs ds
  ok:WOk o
theorem IsW.kp {K:PySem.W.Frag} {st w:Addr} {B:Nat} {H H':Hp} {o:Wo} (h:IsW H o w) (S:Sta K H st B) (k:Kp st H H'):IsW H' o w:=by
  obtain ⟨⟨tl,dl,ts,ds,h1,h2,h3,h4,h5⟩,ok⟩:=h
  exact ⟨⟨tl,dl,ts,ds,k.k _ _ (S.neW h1) h1,k.k _ _ (S.neR h2) h2,k.k _ _ (S.neR h3) h3,h4.kp S k,h5.kp S k⟩,ok⟩
theorem IsW.same {w:Addr} {H H':Hp} {o:Wo} (h:IsW H o w) (s:Same H H'):IsW H' o w:=by
  obtain ⟨⟨tl,dl,ts,ds,h1,h2,h3,h4,h5⟩,ok⟩:=h
  exact ⟨⟨tl,dl,ts,ds,s _ _ h1,s _ _ h2,s _ _ h3,h4.keep (.of s) (fun _ _ e=>s _ _ e),h5.keep (.of s) (fun _ _ e=>s _ _ e)⟩,ok⟩
theorem WOk.tlen {o:Wo} (h:WOk o):o.tags.length=4:=by
  have e:=congrArg List.length h.tk
  rw [List.length_map] at e
  exact e
theorem WOk.dlen {o:Wo} (h:WOk o):o.defs.length=3:=by
  have e:=congrArg List.length h.dn
  rw [List.length_map,List.length_map,List.length_range] at e
  exact e
def spWorld (K:PySem.W.Frag):Sp:=fun vs H Q _=>∃ (st:Addr) (B:Nat),vs=[.ref st]/\Sta K H st B/\B + 200 < LIM/\∀ (H':Hp) (w:Addr) (o:Wo),Kp st H H'->Sta K H' st (B + 200)->IsW H' o w->Q (.ref w) H'
theorem rep_zeros (k:Nat):(List.replicate k [V.int 0]).flatten=(List.replicate k (0:Int)).map V.int:=by
  induction k with
  | zero=>rfl
  | succ k ih=>rw [List.replicate_succ,List.flatten_cons,ih,List.replicate_succ,List.map_cons]; rfl
theorem tri_of {H:Hp}:∀ (nf:Nat->Str) (R:Nat->List Int->Int->Prop) (ts:List Addr),(∀ k t,ts[k]?=some t->∃ q s g,H t=some (.tup [.str (nf k),.ref q,.int g])/\H q=some (.lst (s.map V.int))/\R k s g)->∃ l:TS3,Tri H l ts/\l.length=ts.length/\∀ k p,l[k]?=some p->p.1=nf k/\R k p.2.1 p.2.2
  | _,_,[],_=>⟨[],.nil,rfl,fun k p h=>by simp at h⟩
  | nf,R,t :: ts,h=>by
    obtain ⟨q,s,g,h1,h2,h3⟩:=h 0 t rfl
    obtain ⟨l,a,b,c⟩:=tri_of (fun k=>nf (k + 1)) (fun k=>R (k + 1)) ts fun k u hu=>h (k + 1) u (by simpa using hu)
    refine ⟨(nf 0,s,g) :: l,.cons h1 h2 a,by rw [List.length_cons,List.length_cons,b],fun k p hp=>?_⟩
    cases k with
    | zero =>
      simp at hp
      subst hp
      exact ⟨rfl,h3⟩
    | succ k=>exact c k p (by simpa using hp)
theorem names_of {α β:Type} {f:α->β} {g:Nat->β} {l:List α} {n:Nat} (hl:l.length=n) (h:∀ k p,l[k]?=some p->f p=g k):l.map f=(List.range n).map g:=by
  apply List.ext_getElem?
  intro k
  rw [List.getElem?_map,List.getElem?_map]
  rcases Nat.lt_or_ge k n with c | c
  · rw [List.getElem?_range c,List.getElem?_eq_getElem (by lia)]
    simp [h k _ (List.getElem?_eq_getElem (by lia))]
  · rw [List.getElem?_eq_none (by lia),List.getElem?_eq_none (by simp; lia)]
    rfl
section
variable {P:Program} {w:World} {K:PySem.W.Frag} {mg:Str->Option Value} {base:Heap} {f:Addr} {fd:FuncData}
theorem scWorld:FnScope ["_law_state","_law_letters","_law_stem","_law_world_here","_law_more","_law_some","_law_k"] ["_law_state"] (defScope sWorld):=⟨rfl,rfl,rfl,by decide +kernel,rfl,by decide +kernel,by decide +kernel⟩
theorem ok_world (F:Fun K "_law_world" "_law_world" sWorld f fd) (GD:Ca P w K mg base CX0 1 "_law_draw" ["_law_state","_law_many"] (spDraw K)) (GN':Ca P w K mg base CX0 1 "_law_name" ["_law_world_here","_law_k"] spNm) (GS:Ca P w K mg base CX0 2 "_law_sorts" ["_law_state","_law_least","_law_most"] (spSorts K)) (m_range:mg "range"=none):FnOk P w K mg base CX0 3 f fd ["_law_state"] (spWorld K):=by
  refine F.by scWorld (fun vs H Q E h=>?_) (fun cdv A outer s H vs Q E hr h=>?_)
  · obtain ⟨st,B,rfl,_⟩:=h
    rfl
  obtain ⟨st,B,rfl,S0,hB,q⟩:=h
  have hr1:Room 1 _:=hr.mono (by decide)
  refine ⟨_,
    (jss_cons (js_set (i:=1) scWorld.nd rfl (Or.inr rfl) je_str)
    (jss_cons (js_set (i:=2) scWorld.nd rfl (Or.inl rfl) (je_bm PySem.F.plainAttrs_str PySem.F.slot_str_join PySem.F.type_str_join jm_join je_str (ja_c (je_compS [6] [] rfl (ji_range1 rfl m_range (ja_c (je_ca GD hr1 rfl pass0 (ja_c (jv 0) (ja_c je_int ja_nil))) ja_nil)) (fun _ _ _ _ _=>(jg_name (i:=6) scWorld.nd rfl (Or.inl rfl))) (fun _ _ _ _ _=>jts_nil) (fun _ _ _ _ _=>(je_ix jx_str (jv 1) (je_ca GD hr1 rfl pass0 (ja_c (jv 0) (ja_c je_int ja_nil))) (fun _ _=>rfl)))) ja_nil)))
    (jss_cons (js_set (i:=3) scWorld.nd rfl (Or.inl rfl) (je_lst (ja_c (jv 2) (ja_c (je_cmpR jo_eq (je_ca GD hr1 rfl pass0 (ja_c (jv 0) (ja_c je_int ja_nil))) je_int (nomark _)) (ja_c (je_lst ja_nil) (ja_c (je_lst ja_nil) ja_nil))))))
    (jss_cons (js_set (i:=4) scWorld.nd rfl (Or.inl rfl) (je_op jo_rep (je_lst (ja_c je_int ja_nil)) (je_op jo_mul (je_op jo_fdiv (je_ca GD hr1 rfl pass0 (ja_c (jv 0) (ja_c je_int ja_nil))) je_int) (je_ca GD hr1 rfl pass0 (ja_c (jv 0) (ja_c je_int ja_nil))))))
    (jss_cons (js_set (i:=5) scWorld.nd rfl (Or.inl rfl) (je_lst (ja_c (je_lst ja_nil) (ja_c (je_op jo_cat (je_ca GS hr rfl pass0 (ja_c (jv 0) (ja_c je_int (ja_c je_int ja_nil)))) (jv 4)) (ja_c (je_ca GS hr rfl pass0 (ja_c (jv 0) (ja_c je_int (ja_c je_int ja_nil)))) (ja_c (je_op jo_cat (je_ca GS hr rfl pass0 (ja_c (jv 0) (ja_c je_int (ja_c je_int ja_nil)))) (jv 4)) ja_nil))))))
    (jss_cons (js_for PassesOwn.never rfl (ji_range1 rfl m_range (ja_c je_int ja_nil)) (jg_name (i:=6) scWorld.nd rfl (Or.inl rfl))
      (jss_one (js_expr (je_bm PySem.F.plainAttrs_list PySem.F.slot_list_append PySem.F.type_list_append jm_append (je_ixLK K (jv 3)) (ja_c (je_tup (ja_c (je_ca GN' hr1 rfl pass0 (ja_c (jv 3) (ja_c (jv 6) ja_nil))) (ja_c (je_ix (jx_listK K) (jv 5) (jv 6) (fun _ _=>rfl)) (ja_c (je_op jo_add je_int (je_op jo_fdiv (jv 6) je_int)) ja_nil)))) ja_nil)))))
    (jss_cons (js_for PassesOwn.never rfl (ji_range1 rfl m_range (ja_c je_int ja_nil)) (jg_name (i:=6) scWorld.nd rfl (Or.inl rfl))
      (jss_one (js_expr (je_bm PySem.F.plainAttrs_list PySem.F.slot_list_append PySem.F.type_list_append jm_append (je_ixLK K (jv 3)) (ja_c (je_tup (ja_c (je_ca GN' hr1 rfl pass0 (ja_c (jv 3) (ja_c (je_op jo_sub je_int (jv 6)) ja_nil))) (ja_c (je_ca GS hr rfl pass0 (ja_c (jv 0) (ja_c je_int (ja_c je_int ja_nil)))) (ja_c (je_ca GD hr1 rfl pass0 (ja_c (jv 0) (ja_c je_int ja_nil))) ja_nil)))) ja_nil)))))
    (jss_one (js_ret (jv 3)))))))))),?_⟩
  have sl:=line0
  unfold LIM at hB
  have LM:LIM=4611686018427387904:=rfl
  refine cut5 fun r1_ hr1_=>?_
  refine ⟨rfl,_,rfl,st,7,B,rfl,S0,by lia,by decide,fun H1 r k1 S1 r0 r1=>?_⟩
  refine ⟨_,rfl,by lia,by lia,lc_range (n:=r.toNat) (fun i τ ys H'=>Kp st H H'/\Sta K H' st (B + 1 + i)/\(∃ x,τ=[some (.ref st),some (.str LET),none,none,none,none,x])/\∃ zs:List Str,ys=zs.map V.str/\zs.length=i/\∀ z∈zs,z.length=1/\∀ c∈cl z,97<=c) ⟨k1,S1,⟨none,rfl⟩,[],rfl,rfl,fun z hz=>by cases hz⟩ ?_ ?_⟩
  · rintro i τ ys H2 hi ⟨k2,S2,⟨x,rfl⟩,zs,rfl,hl,h1⟩
    refine ⟨_,rfl,_,rfl,st,26,B + 1 + i,rfl,S2,by lia,by decide,fun H3 r3 k3 S3 q0 q1=>?_⟩
    refine ⟨LET,_,_,rfl,rfl,by rw [let_len]; decide,let_atI q0 q1,by rw [List.length_map]; lia,k2.trans k3,S3,⟨_,rfl⟩,zs ++ [⟨#[97 + r3.toNat]⟩],by simp,by simp [hl],?_⟩
    intro z hz
    rcases List.mem_append.mp hz with hz | hz
    · exact h1 z hz
    · rw [List.mem_singleton.mp hz]
      refine ⟨rfl,fun c hc=>?_⟩
      rw [show cl (⟨#[97 + r3.toNat]⟩:Str)=[97 + r3.toNat] from rfl] at hc
      rw [List.mem_singleton.mp hc]
      lia
  rintro τ ys H2 ⟨k2,S2,_,zs,rfl,hl,h1⟩ pj hpj
  have hzc:=join_cl fun z hz=>(h1 z hz).2
  replace h1:∀ z∈zs,z.length=1:=fun z hz=>(h1 z hz).1
  refine ⟨"",pj,zs,rfl,rfl,SqL.of upd_same,by rw [wide_one h1]; lia,?_⟩
  have zl:(Str.join "" zs).length<=6:=by rw [join_len h1]; lia
  replace k2:=k2.new (o:=.lst (zs.map V.str)) hpj
  replace S2:=(S2.mono (show _<=B + 7 by lia)).new hpj (.lst (zs.map V.str))
  generalize upd H2 pj (.lst (zs.map V.str))=H3 at *
  generalize Str.join "" zs=z at *
  refine ⟨_,rfl,_,rfl,st,2,B + 7,rfl,S2,by lia,by decide,fun H4 r4 k4 S4 _ _=>?_⟩
  refine ⟨rfl,by show 0<=sizeLine; decide,fun tl h5=>⟨by show 0<=sizeLine; decide,fun dl h6=>⟨by show 4<=sizeLine; decide,fun w0 h7=>?_⟩⟩⟩
  generalize decide (V.int r4=V.int 1)=b at *
  have ntl:=S4.ne h5
  have S5:=S4.new h5 (.lst [])
  have ndl:=S5.ne h6
  have S6:=S5.new h6 (.lst [])
  have nw0:=S6.ne h7
  have S7:=S6.new h7 (.lst [.str z,.bl b,.ref tl,.ref dl])
  have ntd:tl≠dl:=ne_of_none (upd_same (H:=H4) (a:=tl) (o:=.lst [])) h6
  have htl:upd (upd (upd H4 tl (.lst [])) dl (.lst [])) w0 (.lst [.str z,.bl b,.ref tl,.ref dl]) tl=some (.lst []):=old h7 (old h6 upd_same)
  have hdl:upd (upd (upd H4 tl (.lst [])) dl (.lst [])) w0 (.lst [.str z,.bl b,.ref tl,.ref dl]) dl=some (.lst []):=old h7 upd_same
  have hw0:upd (upd (upd H4 tl (.lst [])) dl (.lst [])) w0 (.lst [.str z,.bl b,.ref tl,.ref dl]) w0=some (.lst [.str z,.bl b,.ref tl,.ref dl]):=upd_same
  have k7:Kp st H (upd (upd (upd H4 tl (.lst [])) dl (.lst [])) w0 (.lst [.str z,.bl b,.ref tl,.ref dl])):=(((k2.trans k4).new h5).new h6).new h7
  have f_tl:H tl=none:=(k2.trans k4).free ntl h5
  have f_dl:H dl=none:=(k2.trans k4).free ndl (by rw [<- upd_ne (H:=H4) (a:=tl) (o:=.lst []) ntd.symm]; exact h6)
  clear h5 h6 h7 S5 S6 k4 S4
  generalize upd (upd (upd H4 tl (.lst [])) dl (.lst [])) w0 (.lst [.str z,.bl b,.ref tl,.ref dl])=H5 at *
  -- more
  refine ⟨by show 1<=sizeLine; decide,fun m0 h8=>?_⟩
  have S8:=S7.new h8 (.lst [.int 0])
  have nm0:=S7.ne h8
  refine ⟨_,rfl,st,6,_,rfl,S8,by lia,by decide,fun H9 r9 k9 S9 q0 q1=>⟨_,_,rfl,rfl,⟨by decide,by decide⟩,_,rfl,st,7,_,rfl,S9,by lia,by decide,fun H10 r10 k10 S10 q2 q3=>?_⟩⟩
  have hmul:0<=r9 / 5 * r10/\r9 / 5 * r10<=6:=by
    have:r9 / 5=0\/r9 / 5=1:=by lia
    rcases this with e | e <;> rw [e] <;> lia
  have hm0:=(k9.trans k10).k _ _ nm0 (upd_same (H:=H5) (a:=m0) (o:=.lst [.int 0]))
  refine ⟨_,_,rfl,rfl,.inl ⟨by lia,by lia⟩,m0,_,_,rfl,rfl,hm0,by lia,by lia,by show 1 * _<=_; lia,fun pm h11=>?_⟩
  rw [rep_zeros]
  generalize hz9:List.replicate (r9 / 5 * r10).toNat (0:Int)=zr
  have ozr:So zr:=by
    intro x hx
    rw [<- hz9] at hx
    rw [List.eq_of_mem_replicate hx]
    exact ⟨by decide,by decide⟩
  have hzr:zr.length<=6:=by rw [<- hz9,List.length_replicate]; lia
  have k11:Kp st H5 (upd H10 pm (.lst (zr.map V.int))):=(((Kp.refl.new h8).trans k9).trans k10).new h11
  have S11:=S10.new h11 (.lst (zr.map V.int))
  have hpm:=upd_same (H:=H10) (a:=pm) (o:=.lst (zr.map V.int))
  clear hm0 h11 S10 S9 S8 k9 k10 h8
  generalize upd H10 pm (.lst (zr.map V.int))=H6 at *
  replace htl:=k11.k _ _ ntl htl
  replace hdl:=k11.k _ _ ndl hdl
  replace hw0:=k11.k _ _ nw0 hw0
  replace k11:=k7.trans k11
  -- some
  refine ⟨by show 0<=sizeLine; decide,fun e0 h12=>?_⟩
  have S12:=S11.new h12 (.lst [])
  have ne0:=S11.ne h12
  refine ⟨_,rfl,st,1,3,_,rfl,by decide,by decide,S12,by lia,fun H13 p1 l1 k13 S13 f1 b1 o1 hp1=>?_⟩
  have hpm13:=k13.k _ _ (S12.neI (old h12 hpm)) (old h12 hpm)
  refine ⟨_,rfl,p1,pm,_,_,rfl,rfl,hp1,hpm13,by rw [List.length_map,List.length_map]; lia,fun c1 h14=>?_⟩
  rw [<- List.map_append]
  have S14:=S13.new h14 (.lst ((l1 ++ zr).map V.int))
  refine ⟨_,rfl,st,0,2,_,rfl,by decide,by decide,S14,by lia,fun H15 p2 l2 k15 S15 f2 b2 o2 hp2=>?_⟩
  refine ⟨_,rfl,st,1,3,_,rfl,by decide,by decide,S15,by lia,fun H16 p3 l3 k16 S16 f3 b3 o3 hp3=>?_⟩
  have hpm14:=old (o:=.lst ((l1 ++ zr).map V.int)) h14 hpm13
  have hpm15:=k15.k _ _ (S14.neI hpm14) hpm14
  have hpm16:=k16.k _ _ (S15.neI hpm15) hpm15
  refine ⟨_,rfl,p3,pm,_,_,rfl,rfl,hp3,hpm16,by rw [List.length_map,List.length_map]; lia,fun c3 h17=>?_⟩
  rw [<- List.map_append]
  refine ⟨by show 4<=sizeLine; decide,fun sm h18=>?_⟩
  have S17:=S16.new h17 (.lst ((l3 ++ zr).map V.int))
  have S18:=S17.new h18 (.lst [.ref e0,.ref c1,.ref p2,.ref c3])
  have k18:Kp st H6 (upd (upd H16 c3 (.lst ((l3 ++ zr).map V.int))) sm (.lst [.ref e0,.ref c1,.ref p2,.ref c3])):=((((((Kp.refl.new h12).trans k13).new h14).trans k15).trans k16).new h17).new h18
  have he0:=(((((k13.new h14).trans k15).trans k16).new h17).new (o:=.lst [.ref e0,.ref c1,.ref p2,.ref c3]) h18).k _ _ ne0 (upd_same (H:=H6) (a:=e0) (o:=.lst []))
  have hc1:=(((k15.trans k16).new h17).new (o:=.lst [.ref e0,.ref c1,.ref p2,.ref c3]) h18).k c1 _ (S13.ne h14) (upd_same (H:=H13) (a:=c1) (o:=.lst ((l1 ++ zr).map V.int)))
  have hp2':=((k16.new h17).new (o:=.lst [.ref e0,.ref c1,.ref p2,.ref c3]) h18).k _ _ (S15.neI hp2) hp2
  have hc3:=old (o:=.lst [.ref e0,.ref c1,.ref p2,.ref c3]) h18 (upd_same (H:=H16) (a:=c3) (o:=.lst ((l3 ++ zr).map V.int)))
  have hsm:=upd_same (H:=upd H16 c3 (.lst ((l3 ++ zr).map V.int))) (a:=sm) (o:=.lst [.ref e0,.ref c1,.ref p2,.ref c3])
  have k13':=(Kp.refl.new (o:=.lst []) h12).trans k13
  have k16':=((k13'.new (o:=.lst ((l1 ++ zr).map V.int)) h14).trans k15).trans k16
  have apart:∀ p,p≠st->H6 p=some (.lst [])->p≠e0/\p≠c1/\p≠p2/\p≠c3/\p≠sm:=fun p n hp=>by
    have g13:=k13'.k _ _ n hp
    have g16:=k16'.k _ _ n hp
    exact ⟨ne_of_none hp h12,ne_of_none g13 h14,ne_of_none (old h14 g13) f2,ne_of_none g16 h17,ne_of_none (old h17 g16) h18⟩
  obtain ⟨nt0,nt1,nt2,nt3,nts⟩:=apart tl ntl htl
  obtain ⟨nd0,nd1,nd2,nd3,nds⟩:=apart dl ndl hdl
  replace htl:=k18.k _ _ ntl htl
  replace hdl:=k18.k _ _ ndl hdl
  replace hw0:=k18.k _ _ nw0 hw0
  have kA:=k11.trans k18
  have nwt:w0≠tl:=ne_of hw0 htl (by intro e; cases e)
  have nwd:w0≠dl:=ne_of hw0 hdl (by intro e; cases e)
  replace S18:=S18.mono (show _<=B + 43 by lia)
  have n0s:=ne0
  have n1s:=S18.neI hc1
  have n2s:=S18.neI hp2'
  have n3s:=S18.neI hc3
  have nss:=S18.neR (ts:=[e0,c1,p2,c3]) hsm
  clear hp1 hpm13 hp3 hpm16 hpm15 hpm14 hpm hp2 S17 S16 S15 S14 S13 S12 S11 k13' k16' k13 k15 k16 k18 apart S7 k7 k11
  generalize upd (upd H16 c3 (.lst ((l3 ++ zr).map V.int))) sm (.lst [.ref e0,.ref c1,.ref p2,.ref c3])=H0 at *
  -- the frame
  let Fx:Hp->Prop:=fun H'=>∀ b u,b≠st->b≠tl->b≠dl->H0 b=some u->H' b=some u
  have Fx.kp:∀ {H1 H2:Hp},Fx H1->Kp st H1 H2->Fx H2:=fun f k b u n1 n2 n3 h=>k.k _ _ n1 (f b u n1 n2 n3 h)
  have Fx.tl:∀ {H1:Hp} {o:HO},Fx H1->Fx (upd H1 tl o):=fun f b u n1 n2 n3 h=>by rw [upd_ne n2]; exact f b u n1 n2 n3 h
  have Fx.dl:∀ {H1:Hp} {o:HO},Fx H1->Fx (upd H1 dl o):=fun f b u n1 n2 n3 h=>by rw [upd_ne n3]; exact f b u n1 n2 n3 h
  let AD:Nat->Addr:=fun k=>if k=0 then e0 else if k=1 then c1 else if k=2 then p2 else c3
  let SS:Nat->List Int:=fun k=>if k=0 then [] else if k=1 then l1 ++ zr else if k=2 then l2 else l3 ++ zr
  have hAD:∀ {H':Hp} (k:Nat),Fx H'->H' (AD k)=some (.lst ((SS k).map V.int)):=fun {H'} k fx=>by
    show H' (if k=0 then e0 else if k=1 then c1 else if k=2 then p2 else c3)=some (.lst ((if k=0 then ([]:List Int) else if k=1 then l1 ++ zr else if k=2 then l2 else l3 ++ zr).map V.int))
    by_cases c0:k=0
    · rw [if_pos c0,if_pos c0]; exact fx _ _ n0s nt0.symm nd0.symm he0
    · rw [if_neg c0,if_neg c0]
      by_cases c1:k=1
      · rw [if_pos c1,if_pos c1]; exact fx _ _ n1s nt1.symm nd1.symm hc1
      · rw [if_neg c1,if_neg c1]
        by_cases c2:k=2
        · rw [if_pos c2,if_pos c2]; exact fx _ _ n2s nt2.symm nd2.symm hp2'
        · rw [if_neg c2,if_neg c2]; exact fx _ _ n3s nt3.symm nd3.symm hc3
  have hSS:∀ k,(SS k).length<=9/\So (SS k):=fun k=>by
    show (if k=0 then ([]:List Int) else if k=1 then l1 ++ zr else if k=2 then l2 else l3 ++ zr).length<=9/\So (if k=0 then ([]:List Int) else if k=1 then l1 ++ zr else if k=2 then l2 else l3 ++ zr)
    split
    · exact ⟨by decide,.nil⟩
    · split
      · exact ⟨by rw [List.length_append]; lia,o1.app ozr⟩
      · split
        · exact ⟨by lia,o2⟩
        · exact ⟨by rw [List.length_append]; lia,o3.app ozr⟩
  have aAD:∀ k,k < 4->[V.ref e0,V.ref c1,V.ref p2,V.ref c3][k]?=some (V.ref (AD k)):=fun k hk=>by
    match k,hk with
    | 0,_=>rfl
    | 1,_=>rfl
    | 2,_=>rfl
    | 3,_=>rfl
  subst hr1_
  refine ⟨_,rfl,by decide,by decide,for_range (n:=4) (fun i σ H'=>Fx H'/\Kp st H H'/\Sta K H' st (B + 43)/\H' dl=some (.lst [])/\(∃ ts:List Addr,H' tl=some (.lst (ts.map V.ref))/\ts.length=i/\∀ k t,ts[k]?=some t->H' t=some (.tup [.str (nm z b k),.ref (AD k),.int (1 + ((k:Nat):Int) / 3)]))/\∃ x,σ=[some (.ref st),some (.str LET),some (.str z),some (.ref w0),some (.ref pm),some (.ref sm),x])
    ⟨fun b u _ _ _ h=>h,kA,S18,hdl,⟨[],htl,rfl,fun k t h=>by simp at h⟩,none,rfl⟩ ?_ ?_⟩
  · rintro i σ H1 hi ⟨fx,kp,S1,hd1,⟨ts,ht1,hl1,hts⟩,x,rfl⟩
    have hw1:=fx _ _ nw0 nwt nwd hw0
    unfold gName
    dsimp only [List.set]
    refine cutD (fun D_ fin=>?_) (fun _ _ h=>h)
    refine ⟨_,rfl,ixL hw1 (atI_nat (j:=2) rfl) ⟨.inl ⟨rfl,_,SqL.of ht1⟩,_,rfl,_,rfl,w0,z,b,_,i,(by show [V.ref w0,V.int (0 + (i:Nat))]=_; rw [Int.zero_add]),hw1,zl,?_⟩⟩
    refine ⟨_,rfl,_,rfl,sm,_,_,_,rfl,rfl,SqL.of (fx _ _ nss nts.symm nds.symm hsm),(by rw [Int.zero_add]; exact atI_nat (aAD i hi)),_,rfl,_,_,rfl,rfl,⟨by decide,by decide⟩,_,_,rfl,rfl,by show 3<=sizeLine; decide,fun t ht=>?_⟩
    rw [Int.zero_add]
    have tp:Tups H1 (upd (upd H1 t (.tup [.str (nm z b i),.ref (AD i),.int (1 + ((i:Nat):Int) / 3)])) tl (.lst (ts.map V.ref ++ [.ref t]))):=fun p xs hp=>by
      rw [upd_ne (ne_of hp ht1 (by intro e; cases e))]
      exact old ht hp
    refine ⟨tl,_,_,rfl,rfl,old ht ht1,by rw [List.length_map]; lia,fin _ _ ⟨Fx.tl (Fx.kp fx (Kp.refl.new ht)),(kp.new ht).put f_tl,Sta.put S0 f_tl (kp.new ht) (S1.new ht _),?_,⟨ts ++ [t],by rw [upd_same]; simp,by simp [hl1],fun k u hu=>?_⟩,_,rfl⟩⟩
    · rw [upd_ne ntd.symm]
      exact old ht hd1
    · rcases Nat.lt_or_ge k ts.length with c | c
      · rw [List.getElem?_append_left c] at hu
        exact tp _ _ (hts k u hu)
      · rw [List.getElem?_append_right c] at hu
        have c':k=i:=by
          have:=(List.getElem?_eq_some_iff.mp hu).1
          simp at this
          lia
        subst c'
        rw [hl1,Nat.sub_self] at hu
        simp at hu
        subst hu
        rw [upd_ne (ne_of_none ht1 ht).symm]
        exact upd_same
  rintro σ H1 ⟨fx1,kp1,S1,hd1,⟨ts,ht1,hl1,hts⟩,x,rfl⟩
  refine ⟨_,rfl,by decide,by decide,for_range (n:=3) (fun i σ H'=>Fx H'/\Kp st H H'/\Sta K H' st (B + 43 + 12 * i)/\(H' tl=some (.lst (ts.map V.ref))/\∀ k t,ts[k]?=some t->H' t=some (.tup [.str (nm z b k),.ref (AD k),.int (1 + ((k:Nat):Int) / 3)]))/\(∃ ds:List Addr,H' dl=some (.lst (ds.map V.ref))/\ds.length=i/\∀ k t,ds[k]?=some t->∃ (q:Addr) (s:List Int) (g:Int),H' t=some (.tup [.str (nm z b (2 - k)),.ref q,.int g])/\H' q=some (.lst (s.map V.int))/\(s.length<=3/\So s/\0<=g/\g<=2)/\q≠dl/\q≠st)/\∃ x,σ=[some (.ref st),some (.str LET),some (.str z),some (.ref w0),some (.ref pm),some (.ref sm),x])
    ⟨fx1,kp1,S1,⟨ht1,hts⟩,⟨[],hd1,rfl,fun k t h=>by simp at h⟩,_,rfl⟩ ?_ ?_⟩
  · rintro i σ H2 hi ⟨fx,kp,S2,⟨ht2,hts2⟩,⟨ds,hd2,hl2,hds⟩,x,rfl⟩
    have hw1:=fx _ _ nw0 nwt nwd hw0
    have e2:(2:Int) - (0 + (i:Nat))=((2 - i:Nat):Int):=by lia
    unfold gName
    dsimp only [List.set]
    refine cutD (fun D_ fin=>?_) (fun _ _ h=>h)
    refine ⟨_,rfl,ixL hw1 (atI_nat (j:=3) rfl) ⟨.inl ⟨rfl,_,SqL.of hd2⟩,_,rfl,_,rfl,_,_,rfl,rfl,w0,z,b,_,2 - i,(by show [V.ref w0,V.int (2 - (0 + (i:Nat)))]=_; rw [e2]),hw1,zl,?_⟩⟩
    refine ⟨_,rfl,st,0,3,_,rfl,by decide,by decide,S2,by lia,fun H3 p l k3 S3 f3 b3 o3 hp3=>?_⟩
    refine ⟨_,rfl,st,3,_,rfl,S3,by lia,by decide,fun H4 r k4 S4 g0 g1=>⟨by show 3<=sizeLine; decide,fun t ht=>?_⟩⟩
    have k24:=k3.trans k4
    have hp4:=k4.k _ _ (S3.neI hp3) hp3
    have hd4:=k24.k _ _ ndl hd2
    have ht4:=k24.k _ _ ntl ht2
    have npd:p≠dl:=(ne_of_none hd2 f3).symm
    have tp:Tups H2 (upd (upd H4 t (.tup [.str (nm z b (2 - i)),.ref p,.int r])) dl (.lst (ds.map V.ref ++ [.ref t]))):=fun a xs ha=>by
      have g:=k24.tups S2 _ _ ha
      rw [upd_ne (ne_of g hd4 (by intro e; cases e))]
      exact old ht g
    have kpt:=(kp.trans k24).new (o:=.tup [.str (nm z b (2 - i)),.ref p,.int r]) ht
    refine ⟨dl,_,_,rfl,rfl,old ht hd4,by rw [List.length_map]; lia,fin _ _ ⟨Fx.dl (Fx.kp fx (k24.new ht)),kpt.put f_dl,Sta.put S0 f_dl kpt ((S4.mono (by lia)).new ht _),⟨?_,fun k u hu=>tp _ _ (hts2 k u hu)⟩,⟨ds ++ [t],by rw [upd_same]; simp,by simp [hl2],fun k u hu=>?_⟩,_,rfl⟩⟩
    · rw [upd_ne ntd]
      exact old ht ht4
    · rcases Nat.lt_or_ge k ds.length with c | c
      · rw [List.getElem?_append_left c] at hu
        obtain ⟨q,s,g,h1,h2,h3,h4,h5⟩:=hds k u hu
        exact ⟨q,s,g,tp _ _ h1,by rw [upd_ne h4]; exact old ht (k24.k _ _ h5 h2),h3,h4,h5⟩
      · rw [List.getElem?_append_right c] at hu
        have c':k=i:=by
          have:=(List.getElem?_eq_some_iff.mp hu).1
          simp at this
          lia
        subst c'
        rw [hl2,Nat.sub_self] at hu
        simp at hu
        subst hu
        exact ⟨p,l,r,by rw [upd_ne (ne_of_none hd4 ht).symm]; exact upd_same,by rw [upd_ne npd]; exact old ht hp4,⟨b3,o3,g0,by lia⟩,npd,S3.neI hp3⟩
  rintro σ H2 ⟨fx,kp,S2,⟨ht2,hts2⟩,⟨ds,hd2,hl2,hds⟩,x,rfl⟩
  obtain ⟨tags,hT,lT,aT⟩:=tri_of (H:=H2) (nm z b) (fun k s g=>(s.length<=9/\So s)/\g=1 + ((k:Nat):Int) / 3) ts fun k t h=>⟨AD k,SS k,_,hts2 k t h,hAD k fx,hSS k,rfl⟩
  obtain ⟨defs,hD,lD,aD⟩:=tri_of (H:=H2) (fun k=>nm z b (2 - k)) (fun k s g=>s.length<=3/\So s/\0<=g/\g<=2) ds fun k t h=>by
    obtain ⟨q,s,g,h1,h2,h3,_⟩:=hds k t h
    exact ⟨q,s,g,h1,h2,h3⟩
  refine ⟨_,rfl,q _ w0 ⟨z,b,tags,defs⟩ kp (S2.mono (by lia)) ⟨⟨tl,dl,ts,ds,fx _ _ nw0 nwt nwd hw0,ht2,hd2,hT,hD⟩,?_⟩⟩
  refine ⟨zl,names_of (by show tags.length=4; lia) fun k p h=>(aT k p h).1,?_,fun p hp=>?_,names_of (by show defs.length=3; lia) fun k p h=>(aD k p h).1,fun p hp=>?_,hzc⟩
  · have e:([1,1,1,2]:List Int)=(List.range 4).map fun k=>1 + ((k:Nat):Int) / 3:=by decide
    show tags.map (·.2.2)=[1,1,1,2]
    rw [e]
    exact names_of (by lia) fun k p h=>(aT k p h).2.2
  · obtain ⟨k,h⟩:=List.mem_iff_getElem?.mp hp
    exact (aT k p h).2.1
  · obtain ⟨k,h⟩:=List.mem_iff_getElem?.mp hp
    exact (aD k p h).2
end
end GN
namespace GN
open PySem L2 K11
inductive Tps (H:Hp):List (Str × Int)->List Addr->Prop
  | nil:Tps H [] []
  | cons {a:Str} {s:Int} {t:Addr} {l:List (Str × Int)} {ts:List Addr}:H t=some (.tup [.str a,.int s])->Tps H l ts->Tps H ((a,s) :: l) (t :: ts)
theorem Tps.keep {H H':Hp} (t:Tups H H') {l:List (Str × Int)} {ts:List Addr} (h:Tps H l ts):Tps H' l ts:=by
  induction h with
  | nil=>exact .nil
  | cons a _ ih=>exact .cons (t _ _ a) ih
theorem Tps.app {H:Hp} {a b:List (Str × Int)} {p q:List Addr} (h:Tps H a p) (g:Tps H b q):Tps H (a ++ b) (p ++ q):=by
  induction h with
  | nil=>exact g
  | cons x _ ih=>exact .cons x ih
theorem Tps.len {H:Hp} {l:List (Str × Int)} {ts:List Addr} (h:Tps H l ts):l.length=ts.length:=by
  induction h with
  | nil=>rfl
  | cons _ _ ih=>rw [List.length_cons,List.length_cons,ih]
theorem Tps.get {H:Hp}:∀ {l:List (Str × Int)} {ts:List Addr} {i:Nat} {t:Addr},Tps H l ts->ts[i]?=some t->∃ a s,l[i]?=some (a,s)/\H t=some (.tup [.str a,.int s])
  | _,_,_,_,.nil,e=>by simp at e
  | _,_,0,_,.cons a _,e=>by
    simp at e
    subst e
    exact ⟨_,_,rfl,a⟩
  | _,_,i + 1,_,.cons _ b,e=>by
    obtain ⟨a,s,h1,h2⟩:=Tps.get (i:=i) b (by simpa using e)
    exact ⟨a,s,by simpa using h1,h2⟩
theorem take_map {α β:Type} {l:List α} {i:Nat} {x:α} (f:α->β) (h:l[i]?=some x):(l.take i).map f ++ [f x]=(l.take (i + 1)).map f:=by
  rw [List.take_add_one,h,List.map_append]
  rfl
theorem take_fil {α:Type} {l:List α} {i:Nat} {x:α} (p:α->Bool) (h:l[i]?=some x):(l.take (i + 1)).filter p=(l.take i).filter p ++ (if p x=true then [x] else []):=by
  rw [List.take_add_one,h,List.filter_append]
  congr 1
  cases e:p x <;> simp [e]
structure Sc (H:Hp) (l:List (Str × Int)) (sc:Addr):Prop where
  ex:∃ ts,H sc=some (.lst (ts.map V.ref))/\Tps H l ts
  n:l.length<=1000
  s:∀ p∈l,0<=p.2/\p.2<=13
theorem Sc.kp {K:PySem.W.Frag} {st sc:Addr} {B:Nat} {H H':Hp} {l:List (Str × Int)} (h:Sc H l sc) (S:Sta K H st B) (k:Kp st H H'):Sc H' l sc:=by
  obtain ⟨⟨ts,h1,h2⟩,n,s⟩:=h
  exact ⟨⟨ts,k.k _ _ (S.neR h1) h1,h2.keep (k.tups S)⟩,n,s⟩
theorem Sc.same {sc:Addr} {H H':Hp} {l:List (Str × Int)} (h:Sc H l sc) (k:Same H H'):Sc H' l sc:=by
  obtain ⟨⟨ts,h1,h2⟩,n,s⟩:=h
  exact ⟨⟨ts,k _ _ h1,h2.keep (.of k)⟩,n,s⟩
def spPick (K:PySem.W.Frag):Sp:=fun vs H Q _=>∃ (st sc:Addr) (s:Int) (B:Nat) (l:List (Str × Int)),vs=[.ref st,.ref sc,.int s]/\Sta K H st B/\B + 2 < LIM/\Sc H l sc/\l≠[]/\∀ (H':Hp) (x:Str),Kp st H H'->Sta K H' st (B + 2)->x∈l.map (·.1)->Q (.str x) H'
def spPicks (K:PySem.W.Frag):Sp:=fun vs H Q _=>∃ (st sc q:Addr) (s:List Int) (B:Nat) (l:List (Str × Int)),vs=[.ref st,.ref sc,.ref q]/\Sta K H st B/\B + 80 < LIM/\Sc H l sc/\l≠[]/\H q=some (.lst (s.map V.int))/\s.length<=40/\∀ (H':Hp) (p:Addr) (xs:List Str),Kp st H H'->Sta K H' st (B + 80)->H' p=some (.tup (xs.map V.str))->xs.length=s.length->(∀ x∈xs,x∈l.map (·.1))->Q (.ref p) H'
section
variable {P:Program} {w:World} {K:PySem.W.Frag} {mg:Str->Option Value} {base:Heap} {f:Addr} {fd:FuncData}
theorem scPick:FnScope ["_law_state","_law_scope","_law_sort","_law_some"] ["_law_state","_law_scope","_law_sort"] (defScope sPick):=⟨rfl,rfl,rfl,by decide +kernel,rfl,by decide +kernel,by decide +kernel⟩
theorem ndPick:(["_law_state","_law_scope","_law_sort","_law_some","_law_name_here","_law_one"]:List Str).Nodup:=by decide +kernel
theorem ok_pick (F:Fun K "_law_pick" "_law_pick" sPick f fd) (GD:Ca P w K mg base CX0 1 "_law_draw" ["_law_state","_law_many"] (spDraw K)) (m_len:mg "len"=none):FnOk P w K mg base CX0 2 f fd ["_law_state","_law_scope","_law_sort"] (spPick K):=by
  refine F.by scPick (fun vs H Q E h=>?_) (fun cdv A outer s H vs Q E hr h=>?_)
  · obtain ⟨st,sc,s,B,l,rfl,_⟩:=h
    rfl
  obtain ⟨st,sc,s,B,l,rfl,S0,hB,hSc,hl0,q⟩:=h
  obtain ⟨⟨ts,hsc,hT⟩,hn,_⟩:=hSc
  refine ⟨_,
    (jss_cons (js_comp ["_law_name_here","_law_one"] (i:=3) scPick.nd rfl (Or.inl rfl) rfl (ji_listK K (jv 1)) (fun _ _ _ _ _=>(jg_tupK K (n:=2) rfl (jgs_cons (jg_name (i:=4) ndPick rfl (Or.inl rfl)) (jgs_cons (jg_name (i:=5) ndPick rfl (Or.inl rfl)) jgs_nil)))) (fun _ _ _ _ _=>(jts_one (jt_cmpR jo_eq (jv 5) (jv 2) (nomark _)))) (fun _ _ _ _ _=>(jv 4)))
    (jss_cons (js_if (jW.pt (jw_or (jt_cmpR (jo_eqE hr) (jv 3) (je_lst ja_nil) (nomark _)) (jw_or1 (jt_cmpR jo_eq (je_ca GD hr rfl pass0 (ja_c (jv 0) (ja_c je_int ja_nil))) je_int (nomark _)))))
      (jss_one (js_comp ["_law_name_here","_law_one"] (i:=3) scPick.nd rfl (Or.inl rfl) rfl (ji_listK K (jv 1)) (fun _ _ _ _ _=>(jg_tupK K (n:=2) rfl (jgs_cons (jg_name (i:=4) ndPick rfl (Or.inl rfl)) (jgs_cons (jg_name (i:=5) ndPick rfl (Or.inl rfl)) jgs_nil)))) (fun _ _ _ _ _=>jts_nil) (fun _ _ _ _ _=>(jv 4)))) jss_nil)
    (jss_one (js_ret (je_ix (jx_listK K) (jv 3) (je_ca GD hr rfl pass0 (ja_c (jv 0) (ja_c (je_fnB (jc_len_seqK K) rfl m_len PySem.boot_len (ja_c (jv 3) ja_nil)) ja_nil))) (fun _ _=>rfl)))))),?_⟩
  have sl:=line0
  have LM:LIM=4611686018427387904:=rfl
  have htl:=hT.len
  refine (show ∀ (u:TS) (D:Ends),(∀ (H':Hp) (p:Addr) (xs:List Str),Kp st H H'->Sta K H' st (B + 1)->H' p=some (.lst (xs.map V.str))->xs≠[]->(∀ x∈xs,x∈l.map (·.1))->u D [some (.ref st),some (.ref sc),some (.int s),some (.ref p)] H')->(tSeq _ (tSeq _ u):TS) D _ H from ?key) _ _ ?rest
  case key =>
    intro u D tail
    refine (ex22q rfl rfl ⟨⟨_,SqL.of hsc⟩,lc_list (xs:=ts.map V.ref) (fun j τ ys H'=>H=H'/\(∃ u v,τ=[some (.ref st),some (.ref sc),some (.int s),none,u,v])/\ys=((l.take j).filter fun a=>decide (V.int a.2=V.int s)).map fun a=>V.str a.1) ⟨rfl,⟨none,none,rfl⟩,rfl⟩ (fun j τ ys H' _ h=>by rw [<- h.1]; exact SqL.of hsc) ?_ ?_⟩)
    · rintro j v τ ys H3 hv ⟨rfl,⟨u,v',rfl⟩,rfl⟩
      rw [List.getElem?_map] at hv
      obtain ⟨tq,htq,rfl⟩:=Option.map_eq_some_iff.mp hv
      obtain ⟨a,n,e1,e2⟩:=hT.get htq
      have hj:j < l.length:=(List.getElem?_eq_some_iff.mp e1).1
      have tf:=take_fil (fun a:Str × Int=>decide (V.int a.2=V.int s)) e1
      refine ⟨_,_,rfl,SqT.of e2,rfl,_,_,rfl,_,_,rfl,rfl,(ex22q rfl rfl ⟨rfl,(ex2q rfl ?_)⟩)⟩
      refine ite2 (fun c=>?_) (fun c=>?_)
      · refine (ex2q rfl ⟨?_,rfl,⟨_,_,rfl⟩,?_⟩)
        · rw [List.length_map]
          have:=List.length_filter_le (fun a:Str × Int=>decide (V.int a.2=V.int s)) (l.take j)
          rw [List.length_take] at this
          lia
        · rw [tf,if_pos c,List.map_append]
          rfl
      · refine ⟨rfl,⟨_,_,rfl⟩,?_⟩
        rw [tf,if_neg c,List.append_nil]
    rintro τ ys H3 ⟨rfl,_,rfl⟩ p1 hp1
    rw [List.length_map,<- htl,List.take_of_length_le (Nat.le_refl _)]
    generalize hf:l.filter (fun a:Str × Int=>decide (V.int a.2=V.int s))=fl
    have hfm:∀ x∈fl.map (·.1),x∈l.map (·.1):=fun x hx=>by
      obtain ⟨a,h1,h2⟩:=List.mem_map.mp hx
      rw [<- hf] at h1
      exact List.mem_map.mpr ⟨a,(List.mem_filter.mp h1).1,h2⟩
    have em:(fl.map fun a=>V.str a.1)=(fl.map (·.1)).map V.str:=by rw [List.map_map]; rfl
    rw [em]
    have k1:Kp st H (upd H p1 (.lst ((fl.map (·.1)).map V.str))):=Kp.refl.new hp1
    have S1:=S0.new hp1 (.lst ((fl.map (·.1)).map V.str))
    have h1:=upd_same (H:=H) (a:=p1) (o:=.lst ((fl.map (·.1)).map V.str))
    generalize upd H p1 (.lst ((fl.map (·.1)).map V.str))=H4 at *
    refine (ex2q rfl ⟨by show 0<=sizeLine; decide,fun pe h2=>?_⟩)
    have k2:=k1.new (o:=.lst []) h2
    have S2:=S1.new h2 (.lst [])
    have h12:=old (o:=.lst []) h2 h1
    refine ⟨_,_,_,rfl,rfl,SqL.of h12,SqL.of upd_same,(ex2q rfl ?_)⟩
    show if (if false=true then !((fl.map (·.1)).map V.str).isEmpty else ((fl.map (·.1)).map V.str).isEmpty)=true then _ else _
    generalize upd H4 pe (.lst [])=H5 at *
    by_cases hfe:fl=[]
    · have e0:((fl.map (·.1)).map V.str).isEmpty=true:=by rw [hfe]; rfl
      rw [e0]
      refine iteT ?_
      obtain ⟨hsc2,hT2⟩:H5 sc=some (.lst (ts.map V.ref))/\Tps H5 l ts:=⟨(k2).k _ _ (S0.neR hsc) hsc,hT.keep ((k2).tups S0)⟩
      refine (ex22q rfl rfl ⟨⟨_,SqL.of hsc2⟩,lc_list (xs:=ts.map V.ref) (fun j τ ys H'=>H5=H'/\(∃ u v,τ=[some (.ref st),some (.ref sc),some (.int s),some (.ref p1),u,v])/\ys=(l.take j).map fun a=>V.str a.1) ⟨rfl,⟨none,none,rfl⟩,rfl⟩ (fun j τ ys H' _ h=>by rw [<- h.1]; exact SqL.of hsc2) ?_ ?_⟩)
      · rintro j v τ ys H3 hv ⟨rfl,⟨u,v',rfl⟩,rfl⟩
        rw [List.getElem?_map] at hv
        obtain ⟨tq,htq,rfl⟩:=Option.map_eq_some_iff.mp hv
        obtain ⟨a,n,e1,e2⟩:=hT2.get htq
        have hj:j < l.length:=(List.getElem?_eq_some_iff.mp e1).1
        refine ⟨_,_,rfl,SqT.of e2,rfl,_,_,rfl,_,_,rfl,rfl,(ex2q rfl ⟨?_,rfl,⟨_,_,rfl⟩,take_map (fun a:Str × Int=>V.str a.1) e1⟩)⟩
        rw [List.length_map,List.length_take]
        lia
      · rintro τ ys H3 ⟨rfl,_,rfl⟩ p2 hp2
        rw [List.length_map,<- htl,List.take_of_length_le (Nat.le_refl _)]
        have em:(l.map fun a=>V.str a.1)=(l.map (·.1)).map V.str:=by rw [List.map_map]; rfl
        rw [em]
        exact tail _ p2 (l.map (·.1)) ((k2).new hp2) (((S2).mono (by lia)).new hp2 _) upd_same (by simpa using hl0) (fun x hx=>hx)
    · have e0:((fl.map (·.1)).map V.str).isEmpty=false:=by
        cases fl with
        | nil=>exact absurd rfl hfe
        | cons _ _=>rfl
      rw [e0]
      refine iteF ?_
      refine (ex2q rfl ⟨st,16,B,rfl,S2,by lia,by decide,fun H6 r k6 S6 _ _=>?_⟩)
      have k26:=k2.trans k6
      refine ⟨rfl,(ex2q rfl ?_)⟩
      refine ite2 (fun _=>?_) (fun _=>?_)
      · obtain ⟨hsc2,hT2⟩:H6 sc=some (.lst (ts.map V.ref))/\Tps H6 l ts:=⟨(k26).k _ _ (S0.neR hsc) hsc,hT.keep ((k26).tups S0)⟩
        refine (ex22q rfl rfl ⟨⟨_,SqL.of hsc2⟩,lc_list (xs:=ts.map V.ref) (fun j τ ys H'=>H6=H'/\(∃ u v,τ=[some (.ref st),some (.ref sc),some (.int s),some (.ref p1),u,v])/\ys=(l.take j).map fun a=>V.str a.1) ⟨rfl,⟨none,none,rfl⟩,rfl⟩ (fun j τ ys H' _ h=>by rw [<- h.1]; exact SqL.of hsc2) ?_ ?_⟩)
        · rintro j v τ ys H3 hv ⟨rfl,⟨u,v',rfl⟩,rfl⟩
          rw [List.getElem?_map] at hv
          obtain ⟨tq,htq,rfl⟩:=Option.map_eq_some_iff.mp hv
          obtain ⟨a,n,e1,e2⟩:=hT2.get htq
          have hj:j < l.length:=(List.getElem?_eq_some_iff.mp e1).1
          refine ⟨_,_,rfl,SqT.of e2,rfl,_,_,rfl,_,_,rfl,rfl,(ex2q rfl ⟨?_,rfl,⟨_,_,rfl⟩,take_map (fun a:Str × Int=>V.str a.1) e1⟩)⟩
          rw [List.length_map,List.length_take]
          lia
        · rintro τ ys H3 ⟨rfl,_,rfl⟩ p2 hp2
          rw [List.length_map,<- htl,List.take_of_length_le (Nat.le_refl _)]
          have em:(l.map fun a=>V.str a.1)=(l.map (·.1)).map V.str:=by rw [List.map_map]; rfl
          rw [em]
          exact tail _ p2 (l.map (·.1)) ((k26).new hp2) (((S6).mono (by lia)).new hp2 _) upd_same (by simpa using hl0) (fun x hx=>hx)
      · exact tail _ p1 (fl.map (·.1)) k26 S6 (k6.k _ _ (S2.neS h12) h12) (by simpa using hfe) hfm
  case rest =>
    intro H' p xs kp S1 hp hx hm
    have h0:0 < xs.length:=List.length_pos_iff.mpr hx
    refine (ex22q rfl rfl (ex2q rfl ⟨_,_,rfl,.inl (SqL.of hp),st,_,_,rfl,S1,by lia,(by rw [List.length_map]; lia),fun H2 r k2 S2 r0 r1=>?_⟩))
    rw [List.length_map] at r1
    have hi:r.toNat < xs.length:=by lia
    have e:atI (xs.map V.str) r=some (.str xs[r.toNat]):=by
      have g:(xs.map V.str)[r.toNat]?=some (.str xs[r.toNat]):=by rw [List.getElem?_map,List.getElem?_eq_getElem hi]; rfl
      have g2:=atI_nat g
      rw [Int.toNat_of_nonneg r0] at g2
      exact g2
    exact ⟨p,_,_,_,rfl,rfl,SqL.of (k2.k _ _ (S1.neS hp) hp),e,q _ _ (kp.trans k2) S2 (hm _ (List.getElem_mem hi))⟩
theorem scPicks:FnScope ["_law_state","_law_scope","_law_sorts_here"] ["_law_state","_law_scope","_law_sorts_here"] (defScope sPicks):=⟨rfl,rfl,rfl,by decide +kernel,rfl,by decide +kernel,by decide +kernel⟩
theorem ndPicks:(["_law_state","_law_scope","_law_sorts_here","_law_sort"]:List Str).Nodup:=by decide +kernel
theorem ok_picks (F:Fun K "_law_picks" "_law_picks" sPicks f fd) (GP:Ca P w K mg base CX0 2 "_law_pick" ["_law_state","_law_scope","_law_sort"] (spPick K)) (m_tuple:mg "tuple"=none):FnOk P w K mg base CX0 3 f fd ["_law_state","_law_scope","_law_sorts_here"] (spPicks K):=by
  refine F.by scPicks (fun vs H Q E h=>?_) (fun cdv A outer s H vs Q E hr h=>?_)
  · obtain ⟨st,sc,q,s,B,l,rfl,_⟩:=h
    rfl
  obtain ⟨st,sc,qs,s,B,l,rfl,S0,hB,hSc,hl0,hq,hs,q⟩:=h
  refine ⟨_,
    (jss_one (js_ret (je_fnTy (jc_tuple_ofK K) rfl m_tuple PyProof.Rows.boot_tuple (ja_c (je_comp ["_law_sort"] rfl (ji_listK K (jv 2)) (fun _ _ _ _ _=>(jg_name (i:=3) ndPicks rfl (Or.inl rfl))) (fun _ _ _ _ _=>jts_nil) (fun _ _ _ _ _=>(je_ca GP hr rfl pass0 (ja_c (jv 0) (ja_c (jv 1) (ja_c (jv 3) ja_nil)))))) ja_nil)))),?_⟩
  have sl:=line0
  have LM:LIM=4611686018427387904:=rfl
  refine (ex22q rfl rfl ⟨⟨_,SqL.of hq⟩,lc_list (xs:=s.map V.int) (fun i τ ys H'=>Kp st H H'/\Sta K H' st (B + 2 * i)/\(∃ x,τ=[some (.ref st),some (.ref sc),some (.ref qs),x])/\∃ xs:List Str,ys=xs.map V.str/\xs.length=i/\∀ x∈xs,x∈l.map (·.1)) ⟨Kp.refl,S0,⟨none,rfl⟩,[],rfl,rfl,fun x hx=>by cases hx⟩ (fun i τ ys H' _ h=>SqL.of (h.1.k _ _ (S0.neI hq) hq)) ?_ ?_⟩)
  · rintro i v τ ys H1 hv ⟨k1,S1,⟨x,rfl⟩,xs,rfl,hl,hm⟩
    rw [List.getElem?_map] at hv
    obtain ⟨n,hn,rfl⟩:=Option.map_eq_some_iff.mp hv
    have hi:i < s.length:=(List.getElem?_eq_some_iff.mp hn).1
    refine (ex22q rfl rfl (ex2q rfl ⟨st,sc,n,B + 2 * i,l,rfl,S1,by lia,hSc.kp S0 k1,hl0,fun H2 y k2 S2 hy=>⟨by rw [List.length_map]; lia,k1.trans k2,S2,⟨_,rfl⟩,xs ++ [y],by simp,by simp [hl],fun z hz=>?_⟩⟩))
    rcases List.mem_append.mp hz with hz | hz
    · exact hm z hz
    · rw [List.mem_singleton.mp hz]
      exact hy
  · rintro τ ys H1 ⟨k1,S1,_,xs,rfl,hl,hm⟩ p hp
    rw [List.length_map] at hl S1
    refine ⟨p,(ex2q rfl (.inl ⟨SqL.of upd_same,fun p2 hp2=>?_⟩))⟩
    exact q _ p2 xs ((k1.new hp).new hp2) ((((S1.mono (by lia)).new hp _)).new hp2 _) upd_same hl hm
end
end GN
namespace GN
open PySem L2 K11
inductive De
  | num (i:Int)
  | op (w a b:Str)
  | app (w f:Str) (xs:List Str)
def De.uses:De->List Str
  | .num _=>[]
  | .op _ a b=>[a,b]
  | .app w f xs=>if w="ask" then f :: xs else xs
theorem uses_ask {f:Str} {xs:List Str}:De.uses (.app "ask" f xs)=f :: xs:=by unfold De.uses; exact if_pos rfl
theorem uses_app {w f:Str} {xs:List Str} (h:w≠"ask"):De.uses (.app w f xs)=xs:=by unfold De.uses; exact if_neg h
inductive IsDe (H:Hp):De->Addr->Prop
  | num {i:Int} {p:Addr}:H p=some (.tup [.str "num",.int i])->IsDe H (.num i) p
  | op {w a b:Str} {p:Addr}:H p=some (.tup [.str "op",.str w,.str a,.str b])->IsDe H (.op w a b) p
  | app {w f:Str} {xs:List Str} {p q:Addr}:(w≠"num"/\w≠"op"/\xs.length<=40)->H p=some (.tup [.str w,.str f,.ref q])->H q=some (.tup (xs.map V.str))->IsDe H (.app w f xs) p
theorem IsDe.keep {H H':Hp} {d:De} {p:Addr} (h:IsDe H d p) (t:Tups H H'):IsDe H' d p:=by
  cases h with
  | num a=>exact .num (t _ _ a)
  | op a=>exact .op (t _ _ a)
  | app c a b=>exact .app c (t _ _ a) (t _ _ b)
theorem cut_take {α:Type} {f:α->V} {s:List α} {m:Int} (h:0<=m):cutV (s.map f) none (some m)=(s.take m.toNat).map f:=by
  unfold cutV
  have c1:HT.sIx (s.map f).length 0 none=0:=rfl
  have c2:HT.sIx (s.map f).length (s.map f).length (some m)=min m.toNat (s.map f).length:=by
    show (if m < 0 then (m + ((s.map f).length:Nat)).toNat else min m.toNat (s.map f).length)=_
    rw [if_neg (by lia)]
  rw [c1,c2,List.drop_zero,Nat.sub_zero,List.map_take,List.length_map]
  rcases Nat.le_total m.toNat s.length with c | c
  · rw [Nat.min_eq_left c]
  · rw [Nat.min_eq_right c,List.take_of_length_le (by simp),List.take_of_length_le (by simpa using c)]
theorem atI_of {α β:Type} {f:α->β} {xs:List α} {r:Int} {x:α} (h0:0<=r) (h:xs[r.toNat]?=some x):atI (xs.map f) r=some (f x):=by
  have g:(xs.map f)[r.toNat]?=some (f x):=by rw [List.getElem?_map,h]; rfl
  have g2:=atI_nat g
  rw [Int.toNat_of_nonneg h0] at g2
  exact g2
def CalOk (o:Wo):De->Prop
  | .app w f xs=>w="call"->∃ s∈o.defs,s.1=f/\s.2.1.length=xs.length
  | _=>True
def DeQ (K:PySem.W.Frag) (o:Wo) (st:Addr) (B:Nat) (l:List (Str × Int)) (H:Hp) (Q:VK):Prop:=∀ (H':Hp) (p q:Addr) (d:De) (g:Int),Kp st H H'->Sta K H' st B->H' p=some (.tup [.ref q,.int g])->IsDe H' d q->0<=g->g<=13->CalOk o d->(∀ x∈d.uses,x∈l.map (·.1))->Q (.ref p) H'
def spHanded (K:PySem.W.Frag):Sp:=fun vs H Q _=>∃ (st sc w:Addr) (B:Nat) (l:List (Str × Int)) (o:Wo),vs=[.ref st,.ref sc,.ref w]/\Sta K H st B/\B + 100 < LIM/\Sc H l sc/\l≠[]/\IsW H o w/\DeQ K o st (B + 100) l H Q
def spDeed (K:PySem.W.Frag):Sp:=fun vs H Q _=>∃ (st sc w:Addr) (B:Nat) (l:List (Str × Int)) (o:Wo) (a:Nat),vs=[.ref st,.ref sc,.ref w,.int (a:Nat)]/\a < 3/\Sta K H st B/\B + 200 < LIM/\Sc H l sc/\IsW H o w/\DeQ K o st (B + 200) l H Q
theorem max_le {i j:Int} (h:i<=3) (h2:j<=3) (h0:0<=j):0<=(if j > i then j else i)/\(if j > i then j else i)<=3:=by
  split <;> lia
section
variable {P:Program} {w:World} {K:PySem.W.Frag} {mg:Str->Option Value} {base:Heap} {f:Addr} {fd:FuncData}
theorem scHanded:FnScope ["_law_state","_law_scope","_law_world_here","_law_some","_law_way","_law_name_here","_law_sort","_law_sorts_here","_law_gives","_law_many"] ["_law_state","_law_scope","_law_world_here"] (defScope sHanded):=⟨rfl,rfl,rfl,by decide +kernel,rfl,by decide +kernel,by decide +kernel⟩
theorem ndHanded:(["_law_state","_law_scope","_law_world_here","_law_some","_law_way","_law_name_here","_law_sort","_law_sorts_here","_law_gives","_law_many","_law_one"]:List Str).Nodup:=by decide +kernel
theorem ndHanded2:(["_law_state","_law_scope","_law_world_here","_law_some","_law_way","_law_name_here","_law_sort","_law_sorts_here","_law_gives","_law_many","_law_k"]:List Str).Nodup:=by decide +kernel
theorem ok_handed (F:Fun K "_law_handed" "_law_handed" sHanded f fd) (GD:Ca P w K mg base CX0 1 "_law_draw" ["_law_state","_law_many"] (spDraw K)) (GP:Ca P w K mg base CX0 3 "_law_picks" ["_law_state","_law_scope","_law_sorts_here"] (spPicks K)) (m_len:mg "len"=none) (m_range:mg "range"=none) (m_max:mg "max"=none):FnOk P w K mg base CX0 4 f fd ["_law_state","_law_scope","_law_world_here"] (spHanded K):=by
  refine F.by scHanded (fun vs H Q E h=>?_) (fun cdv A outer s H vs Q E hr h=>?_)
  · obtain ⟨st,sc,w,B,l,o,rfl,_⟩:=h
    rfl
  obtain ⟨st,sc,w0,B,l,o,rfl,S0,hB,hSc,hl0,hW,q⟩:=h
  have hr1:Room 1 _:=hr.mono (by decide)
  refine ⟨_,
    (jss_cons (js_comp ["_law_one"] (i:=3) scHanded.nd rfl (Or.inl rfl) rfl (ji_listK K (jv 1)) (fun _ _ _ _ _=>(jg_name (i:=10) ndHanded rfl (Or.inl rfl))) (fun _ _ _ _ _=>(jts_one (jt_cmpR jo_ge (je_ixK K (jv 10)) je_int (nomark _)))) (fun _ _ _ _ _=>(jv 10)))
    (jss_cons (js_set (i:=4) scHanded.nd rfl (Or.inl rfl) (je_ca GD hr1 rfl pass0 (ja_c (jv 0) (ja_c je_int ja_nil))))
    (jss_cons (js_if (jt_cmpR jo_eq (jv 4) je_int (nomark _))
      (jss_one (js_set (i:=3) scHanded.nd rfl (Or.inl rfl) (jv 1))) jss_nil)
    (jss_cons (js_if (jW.pt (jw_and (jt_cmpR (jo_neE hr) (jv 3) (je_lst ja_nil) (nomark _)) (jw_and1 (jt_cmpR jo_gt (jv 4) je_int (nomark _)))))
      (jss_cons (js_asg (je_ix (jx_listK K) (jv 3) (je_ca GD hr1 rfl pass0 (ja_c (jv 0) (ja_c (je_fnB (jc_len_seqK K) rfl m_len PySem.boot_len (ja_c (jv 3) ja_nil)) ja_nil))) (fun _ _=>rfl)) (jg_tupK K rfl (jgs_cons (jg_name (i:=5) scHanded.nd rfl (Or.inl rfl)) (jgs_cons (jg_name (i:=6) scHanded.nd rfl (Or.inl rfl)) jgs_nil))))
      (jss_one (js_ret (je_tup (ja_c (je_tup (ja_c je_str (ja_c (jv 5) (ja_c (je_ca GP hr rfl pass0 (ja_c (jv 0) (ja_c (jv 1) (ja_c (je_comp ["_law_k"] rfl (ji_range1 rfl m_range (ja_c (je_fnB (jc_max2 rfl) rfl m_max PyProof.Rows.boot_max (ja_c (je_op jo_sub (jv 6) je_int) (ja_c (je_ca GD hr1 rfl pass0 (ja_c (jv 0) (ja_c je_int ja_nil))) ja_nil))) ja_nil)) (fun _ _ _ _ _=>(jg_name (i:=10) ndHanded2 rfl (Or.inl rfl))) (fun _ _ _ _ _=>jts_nil) (fun _ _ _ _ _=>(je_op jo_mod (jv 10) je_int))) ja_nil)))) ja_nil)))) (ja_c je_int ja_nil)))))) jss_nil)
    (jss_cons (js_asg (je_ix (jx_listK K) (je_ixLK K (jv 2)) (je_ca GD hr1 rfl pass0 (ja_c (jv 0) (ja_c je_int ja_nil))) (fun _ _=>rfl)) (jg_tupK K rfl (jgs_cons (jg_name (i:=5) scHanded.nd rfl (Or.inl rfl)) (jgs_cons (jg_name (i:=7) scHanded.nd rfl (Or.inl rfl)) (jgs_cons (jg_name (i:=8) scHanded.nd rfl (Or.inl rfl)) jgs_nil)))))
    (jss_cons (js_set (i:=9) scHanded.nd rfl (Or.inl rfl) (je_ca GD hr1 rfl pass0 (ja_c (jv 0) (ja_c (je_op jo_add (je_fnB (jc_len_seqK K) rfl m_len PySem.boot_len (ja_c (jv 7) ja_nil)) je_int) ja_nil))))
    (jss_one (js_ret (je_tup (ja_c (je_tup (ja_c je_str (ja_c (jv 5) (ja_c (je_ca GP hr rfl pass0 (ja_c (jv 0) (ja_c (jv 1) (ja_c (je_slice (jl_listK K) (jv 7) jo_none (jo_some (jv 9))) ja_nil)))) ja_nil)))) (ja_c (je_op jo_sub (je_op jo_add je_int (je_fnB (jc_len_seqK K) rfl m_len PySem.boot_len (ja_c (jv 7) ja_nil))) (jv 9)) ja_nil))))))))))),?_⟩
  have sl:=line0
  have LM:LIM=4611686018427387904:=rfl
  obtain ⟨⟨ts,hsc,hT⟩,hn,hs⟩:=id hSc
  have htl:=hT.len
  refine (show ∀ (u:TS) (D:Ends),(∀ (H':Hp) (p:Addr) (fl:List (Str × Int)) (fs:List Addr) (r:Int),Kp st H H'->Sta K H' st (B + 1)->H' p=some (.lst (fs.map V.ref))->Tps H' fl fs->(∀ x∈fl,x∈l)->u D [some (.ref st),some (.ref sc),some (.ref w0),some (.ref p),some (.int r),none,none,none,none,none] H')->(tSeq _ (tSeq _ (tSeq _ u)):TS) D _ H from ?key) _ _ ?rest
  case key =>
    intro u D tail
    refine (ex22q rfl rfl ⟨⟨_,SqL.of hsc⟩,lc_list (xs:=ts.map V.ref) (fun j τ ys H'=>H=H'/\(∃ v,τ=[some (.ref st),some (.ref sc),some (.ref w0),none,none,none,none,none,none,none,v])/\∃ (fl:List (Str × Int)) (fs:List Addr),ys=fs.map V.ref/\fs.length<=j/\Tps H fl fs/\∀ x∈fl,x∈l) ⟨rfl,⟨none,rfl⟩,[],[],rfl,Nat.zero_le _,.nil,fun x hx=>by cases hx⟩ (fun j τ ys H' _ h=>by rw [<- h.1]; exact SqL.of hsc) ?_ ?_⟩)
    · rintro j v τ ys H3 hv ⟨rfl,⟨v',rfl⟩,fl,fs,rfl,hj,hf,hm⟩
      rw [List.getElem?_map] at hv
      obtain ⟨tq,htq,rfl⟩:=Option.map_eq_some_iff.mp hv
      obtain ⟨a,n,e1,e2⟩:=hT.get htq
      have hjl:j < l.length:=(List.getElem?_eq_some_iff.mp e1).1
      refine (ex2q rfl (ixT e2 (atI_nat (j:=1) rfl) (ex4q rfl rfl (ex2q rfl ?_))))
      refine ite2 (fun c=>?_) (fun c=>?_)
      · refine (ex2q rfl ⟨by rw [List.length_map]; lia,rfl,⟨_,rfl⟩,fl ++ [(a,n)],fs ++ [tq],by simp,by simp; lia,hf.app (.cons e2 .nil),fun x hx=>?_⟩)
        rcases List.mem_append.mp hx with hx | hx
        · exact hm x hx
        · rw [List.mem_singleton.mp hx]
          exact List.mem_of_getElem? e1
      · exact ⟨rfl,⟨_,rfl⟩,fl,fs,rfl,by lia,hf,hm⟩
    rintro τ ys H3 ⟨rfl,_,fl,fs,rfl,hj,hf,hm⟩ p1 hp1
    have S1:=S0.new hp1 (.lst (fs.map V.ref))
    refine (ex2q rfl ⟨st,4,B,rfl,S1,by lia,by decide,fun H2 r k2 S2 r0 r1=>?_⟩)
    have k12:=(Kp.refl.new (o:=.lst (fs.map V.ref)) hp1).trans k2
    have hp2:=k2.k _ _ (S0.ne hp1) (upd_same (H:=H) (a:=p1) (o:=.lst (fs.map V.ref)))
    refine (ex2q rfl ⟨rfl,(ex2q rfl ?_)⟩)
    refine ite2 (fun c=>?_) (fun c=>?_)
    · exact (ex2q rfl (tail _ sc l ts r k12 S2 (k12.k _ _ (S0.neR hsc) hsc) (hT.keep (k12.tups S0)) fun x hx=>hx))
    · exact tail _ p1 fl fs r k12 S2 hp2 (hf.keep (k12.tups S0)) hm
  case rest =>
    intro H1 p1 fl fs r k1 S1 hp1 hf hm
    have hfl:=hf.len
    have gpos:∀ x∈fl,0<=x.2/\x.2<=13:=fun x hx=>hs x (hm x hx)
    refine (show ∀ (u:TS) (D:Ends),D.rt=Q->(∀ (H':Hp),Kp st H H'->Sta K H' st (B + 1)->u D [some (.ref st),some (.ref sc),some (.ref w0),some (.ref p1),some (.int r),none,none,none,none,none] H')->(tSeq _ u:TS) D _ H1 from ?key2) _ _ rfl ?rest2
    case key2 =>
      intro u D hD tail
      refine (ex2q rfl ⟨by show 0<=sizeLine; decide,fun pe h2=>?_⟩)
      have k2:=k1.new (o:=.lst []) h2
      have S2:=S1.new h2 (.lst [])
      have hp2:=old (o:=.lst []) h2 hp1
      have hf2:=hf.keep (.of (same_new h2 (.lst [])))
      refine ⟨_,_,_,rfl,rfl,SqL.of hp2,SqL.of upd_same,(ex2q rfl ?_)⟩
      show if (if true=true then !(fs.map V.ref).isEmpty else (fs.map V.ref).isEmpty)=true then _ else _
      generalize upd H1 pe (.lst [])=H2 at *
      by_cases hfe:fs=[]
      · have e0:(fs.map V.ref).isEmpty=true:=by rw [hfe]; rfl
        rw [e0]
        exact iteF (tail _ k2 S2)
      have e0:(fs.map V.ref).isEmpty=false:=by
        cases fs with
        | nil=>exact absurd rfl hfe
        | cons _ _=>rfl
      rw [e0]
      refine iteT ?_
      refine (ex2q rfl (ex4q rfl rfl (ex2q rfl ?_)))
      refine ite2 (fun _=>?_) (fun _=>tail _ k2 S2)
      have h0:0 < fs.length:=List.length_pos_iff.mpr hfe
      refine (ex22q rfl rfl (ex2q rfl ⟨_,_,rfl,.inl (SqL.of hp2),st,_,_,rfl,S2,by lia,(by rw [List.length_map]; lia),fun H3 r3 k3 S3 q0 q1=>?_⟩))
      rw [List.length_map] at q1
      have hi:r3.toNat < fs.length:=by lia
      obtain ⟨t,ht⟩:∃ t,fs[r3.toNat]?=some t:=⟨_,List.getElem?_eq_getElem hi⟩
      have hf3:=hf2.keep (k3.tups S2)
      obtain ⟨a,g,e1,e2⟩:=hf3.get ht
      have hg:=gpos _ (List.mem_of_getElem? e1)
      have ha:a∈l.map (·.1):=List.mem_map.mpr ⟨_,hm _ (List.mem_of_getElem? e1),rfl⟩
      have hp3:=k3.k _ _ (S2.neR hp2) hp2
      refine ⟨p1,_,_,_,rfl,rfl,SqL.of hp3,atI_of q0 ht,_,_,rfl,SqT.of e2,rfl,_,_,rfl,_,_,rfl,rfl,?_⟩
      refine (ex22q rfl rfl (ex22q rfl rfl (ex4q rfl rfl (ex2q rfl ⟨st,3,(ex2q rfl ⟨S3,by lia,by decide,fun H4 r4 k4 S4 q2 q3=>?_⟩)⟩))))
      have mx:=max_le (i:=g - 10) (j:=r4) (by lia) (by lia) q2
      refine ⟨_,_,rfl,?_⟩
      generalize (if r4 > g - 10 then r4 else g - 10)=n at *
      refine (ex2q rfl ⟨by lia,by lia,lc_range (n:=n.toNat) (fun i τ ys H'=>H4=H'/\(∃ x,τ=[some (.ref st),some (.ref sc),some (.ref w0),some (.ref p1),some (.int r),some (.str a),some (.int g),none,none,none,x])/\∃ ns:List Int,ys=ns.map V.int/\ns.length=i) ⟨rfl,⟨none,rfl⟩,[],rfl,rfl⟩ ?_ ?_⟩)
      · rintro i τ ys H5 hi ⟨rfl,⟨x,rfl⟩,ns,rfl,hln⟩
        exact (ex2q rfl (ex4q rfl rfl ⟨(by show (0:Int) < _; decide),by rw [List.length_map]; lia,rfl,⟨_,rfl⟩,ns ++ [_],by rw [List.map_append]; rfl,by simp [hln]⟩))
      rintro τ ys H5 ⟨rfl,_,ns,rfl,hln⟩ p5 hp5
      have k04:=(k2.trans k3).trans k4
      have k5:=k04.new (o:=.lst (ns.map V.int)) hp5
      have S5:=S4.new hp5 (.lst (ns.map V.int))
      refine ⟨st,sc,p5,ns,_,l,rfl,S5,by lia,hSc.kp S0 k5,hl0,upd_same,by lia,fun H6 p6 xs k6 S6 hp6 hl6 hm6=>?_⟩
      refine ⟨by show 3<=sizeLine; decide,fun t1 h7=>⟨by show 2<=sizeLine; decide,fun t2 h8=>?_⟩⟩
      rw [hD]
      refine q _ t2 t1 (.app "ask" a xs) 0 (((k5.trans k6).new h7).new h8) ((((S6.mono (by lia)).new h7 _)).new h8 _) upd_same (.app ⟨by decide,by decide,by lia⟩ (old h8 upd_same) (old h8 (old h7 hp6))) (by decide) (by decide) (fun e=>absurd e (by decide)) fun x hx=>?_
      rw [uses_ask] at hx
      rcases List.mem_cons.mp hx with e | e
      · rw [e]; exact ha
      · exact hm6 x e
    case rest2 =>
      intro H2 k2 S2
      obtain ⟨⟨tl,dl,tt,ds,hw,htl2,hdl,hTt,hTd⟩,wok⟩:=hW.kp S0 k2
      have dlen:=wok.dlen
      have hdl2:=hTd.len
      refine (ex2q rfl (ixL hw (atI_nat (j:=3) rfl) (ex2q rfl ⟨st,3,(ex2q rfl ⟨S2,by lia,by decide,fun H3 r3 k3 S3 q0 q1=>?_⟩)⟩)))
      have hi:r3.toNat < ds.length:=by lia
      obtain ⟨t,ht⟩:∃ t,ds[r3.toNat]?=some t:=⟨_,List.getElem?_eq_getElem hi⟩
      obtain ⟨z,ss,g,sq,e1,e2,e3⟩:=(hTd.kp S2 k3).get ht
      have wd:ss.length<=3/\So ss/\0<=g/\g<=2:=wok.ds _ (List.mem_of_getElem? e1)
      refine ⟨dl,_,_,_,rfl,rfl,SqL.of (k3.k _ _ (S2.neR hdl) hdl),atI_of q0 ht,_,_,rfl,SqT.of e2,rfl,_,_,rfl,_,_,rfl,_,_,rfl,rfl,?_⟩
      refine (ex22q rfl rfl ⟨_,_,rfl,.inl (SqL.of e3),(ex4q rfl rfl ⟨st,_,_,rfl,S3,by lia,(by lia),fun H4 r4 k4 S4 q2 q3=>?_⟩)⟩)
      rw [List.length_map] at q3
      have e34:=k4.k _ _ (S3.neI e3) e3
      refine (ex22q rfl rfl (ex22q rfl rfl (ex22q rfl rfl ⟨_,_,rfl,SqL.of e34,fun p5 hp5=>?_⟩)))
      rw [cut_take q2]
      have k04:=(k2.trans k3).trans k4
      have k5:=k04.new (o:=.lst ((ss.take r4.toNat).map V.int)) hp5
      have S5:=S4.new hp5 (.lst ((ss.take r4.toNat).map V.int))
      refine ⟨st,sc,p5,ss.take r4.toNat,_,l,rfl,S5,by lia,hSc.kp S0 k5,hl0,upd_same,by rw [List.length_take]; lia,fun H6 p6 xs k6 S6 hp6 hl6 hm6=>?_⟩
      refine ⟨by show 3<=sizeLine; decide,fun t1 h7=>?_⟩
      have e37:=old (o:=.tup [.str "func",.str z,.ref p6]) h7 (k6.k _ _ (S5.neI (old hp5 e34)) (old hp5 e34))
      refine (ex2q rfl ⟨_,_,rfl,.inl (SqL.of e37),(ex4q rfl rfl (ex2q rfl (ex4q rfl rfl ⟨by show 2<=sizeLine; decide,fun t2 h8=>?_⟩)))⟩)
      rw [List.length_map]
      refine q _ t2 t1 (.app "func" z xs) _ (((k5.trans k6).new h7).new h8) ((((S6.mono (by lia)).new h7 _)).new h8 _) upd_same (.app ⟨by decide,by decide,by rw [hl6,List.length_take]; lia⟩ (old h8 upd_same) (old h8 (old h7 hp6))) (by lia) (by lia) (fun e=>absurd e (by decide)) fun x hx=>?_
      rw [uses_app (by decide)] at hx
      exact hm6 x hx
end
end GN
namespace GN
open PySem L2 K11
section
variable {P:Program} {w:World} {K:PySem.W.Frag} {mg:Str->Option Value} {base:Heap} {f:Addr} {fd:FuncData}
theorem scDeed:FnScope ["_law_state","_law_scope","_law_world_here","_law_at","_law_way","_law_word","_law_tag","_law_sorts_here","_law_kind","_law_to","_law_name_here","_law_gives"] ["_law_state","_law_scope","_law_world_here","_law_at"] (defScope sDeed):=⟨rfl,rfl,rfl,by decide +kernel,rfl,by decide +kernel,by decide +kernel⟩
theorem ok_deed (F:Fun K "_law_deed" "_law_deed" sDeed f fd) (GD:Ca P w K mg base CX0 1 "_law_draw" ["_law_state","_law_many"] (spDraw K)) (GK:Ca P w K mg base CX0 2 "_law_pick" ["_law_state","_law_scope","_law_sort"] (spPick K)) (GP:Ca P w K mg base CX0 3 "_law_picks" ["_law_state","_law_scope","_law_sorts_here"] (spPicks K)) (GH:Ca P w K mg base CX0 4 "_law_handed" ["_law_state","_law_scope","_law_world_here"] (spHanded K)):FnOk P w K mg base CX0 5 f fd ["_law_state","_law_scope","_law_world_here","_law_at"] (spDeed K):=by
  refine F.by scDeed (fun vs H Q E h=>?_) (fun cdv A outer s H vs Q E hr h=>?_)
  · obtain ⟨st,sc,w,B,l,o,a,rfl,_⟩:=h
    rfl
  obtain ⟨st,sc,w0,B,l,o,a,rfl,ha,S0,hB,hSc,hW,q⟩:=h
  have hr1:Room 1 _:=hr.mono (by decide)
  have hr2:Room 2 _:=hr.mono (by decide)
  have hr3:Room 3 _:=hr.mono (by decide)
  refine ⟨_,
    (jss_cons (js_set (i:=4) scDeed.nd rfl (Or.inl rfl) (je_ca GD hr1 rfl pass0 (ja_c (jv 0) (ja_c je_int ja_nil))))
    (jss_cons (js_if (jW.pt (jw_or (jt_cmpR jo_lt (jv 4) je_int (nomark _)) (jw_or1 (jt_cmpR (jo_eqE hr) (jv 1) (je_lst ja_nil) (nomark _)))))
      (jss_one (js_ret (je_tup (ja_c (je_tup (ja_c je_str (ja_c (je_op jo_sub (je_ca GD hr1 rfl pass0 (ja_c (jv 0) (ja_c je_int ja_nil))) je_int) ja_nil))) (ja_c je_int ja_nil))))) jss_nil)
    (jss_cons (js_if (jt_cmpR jo_eq (jv 4) je_int (nomark _))
      (jss_cons (js_set (i:=5) scDeed.nd rfl (Or.inl rfl) (je_ix (jx_listK K) (je_lst (ja_c je_str (ja_c je_str (ja_c je_str (ja_c je_str (ja_c je_str (ja_c je_str (ja_c je_str ja_nil)))))))) (je_ca GD hr1 rfl pass0 (ja_c (jv 0) (ja_c je_int ja_nil))) (fun _ _=>rfl)))
      (jss_one (js_ret (je_tup (ja_c (je_tup (ja_c je_str (ja_c (jv 5) (ja_c (je_ca GK hr2 rfl pass0 (ja_c (jv 0) (ja_c (jv 1) (ja_c je_int ja_nil)))) (ja_c (je_ca GK hr2 rfl pass0 (ja_c (jv 0) (ja_c (jv 1) (ja_c je_int ja_nil)))) ja_nil))))) (ja_c je_int ja_nil)))))) jss_nil)
    (jss_cons (js_if (jt_cmpR jo_lt (jv 4) je_int (nomark _))
      (jss_cons (js_asg (je_ix (jx_listK K) (je_ixLK K (jv 2)) (je_ca GD hr1 rfl pass0 (ja_c (jv 0) (ja_c je_int ja_nil))) (fun _ _=>rfl)) (jg_tupK K rfl (jgs_cons (jg_name (i:=6) scDeed.nd rfl (Or.inl rfl)) (jgs_cons (jg_name (i:=7) scDeed.nd rfl (Or.inl rfl)) (jgs_cons (jg_name (i:=8) scDeed.nd rfl (Or.inl rfl)) jgs_nil)))))
      (jss_one (js_ret (je_tup (ja_c (je_tup (ja_c je_str (ja_c (jv 6) (ja_c (je_ca GP hr3 rfl pass0 (ja_c (jv 0) (ja_c (jv 1) (ja_c (jv 7) ja_nil)))) ja_nil)))) (ja_c (jv 8) ja_nil)))))) jss_nil)
    (jss_cons (js_if (jt_cmpR jo_eq (jv 4) je_int (nomark _))
      (jss_one (js_ret (je_ca GH hr rfl pass0 (ja_c (jv 0) (ja_c (jv 1) (ja_c (jv 2) ja_nil)))))) jss_nil)
    (jss_cons (js_set (i:=9) scDeed.nd rfl (Or.inl rfl) (je_ca GD hr1 rfl pass0 (ja_c (jv 0) (ja_c je_int ja_nil))))
    (jss_cons (js_if (jW.pt (jw_and (jt_cmpR jo_lt (jv 3) je_int (nomark _)) (jw_and1 (jt_cmpR jo_gt (je_ca GD hr1 rfl pass0 (ja_c (jv 0) (ja_c je_int ja_nil))) je_int (nomark _)))))
      (jss_one (js_set (i:=9) scDeed.nd rfl (Or.inl rfl) (je_op jo_add (je_op jo_add (jv 3) je_int) (je_ca GD hr1 rfl pass0 (ja_c (jv 0) (ja_c (je_op jo_sub je_int (jv 3)) ja_nil)))))) jss_nil)
    (jss_cons (js_asg (je_ix (jx_listK K) (je_ixLK K (jv 2)) (jv 9) (fun _ _=>rfl)) (jg_tupK K rfl (jgs_cons (jg_name (i:=10) scDeed.nd rfl (Or.inl rfl)) (jgs_cons (jg_name (i:=7) scDeed.nd rfl (Or.inl rfl)) (jgs_cons (jg_name (i:=11) scDeed.nd rfl (Or.inl rfl)) jgs_nil)))))
    (jss_one (js_ret (je_tup (ja_c (je_tup (ja_c je_str (ja_c (jv 10) (ja_c (je_ca GP hr3 rfl pass0 (ja_c (jv 0) (ja_c (jv 1) (ja_c (jv 7) ja_nil)))) ja_nil)))) (ja_c (jv 11) ja_nil))))))))))))),?_⟩
  have sl:=line0
  have LM:LIM=4611686018427387904:=rfl
  obtain ⟨⟨ts,hsc,hT⟩,hn,hs⟩:=id hSc
  have htl:=hT.len
  refine (ex2q rfl ⟨st,9,B,rfl,S0,by lia,by decide,fun H1 r k1 S1 r0 r1=>?_⟩)
  refine (show ∀ (u:TS) (D:Ends),D.rt=Q->(∀ (H':Hp),l≠[]->Kp st H H'->Sta K H' st (B + 1)->u D [some (.ref st),some (.ref sc),some (.ref w0),some (.int (a:Nat)),some (.int r),none,none,none,none,none,none,none] H')->(tSeq _ (tSeq _ u):TS) D _ H1 from ?key) _ _ rfl ?rest
  case key =>
    intro u D hD tail
    refine (ex2q rfl (ex4q rfl rfl (ex2q rfl ?_)))
    refine ite2 (fun _=>?_) (fun _=>?_)
    · refine (ex2q rfl ⟨st,9,(ex2q rfl ⟨S1,by lia,by decide,fun H2 r2 k2 S2 _ _=>(ex4q rfl rfl ⟨by show 2<=sizeLine; decide,fun t1 h3=>⟨by show 2<=sizeLine; decide,fun t2 h4=>?_⟩⟩)⟩)⟩)
      rw [hD]
      exact q _ t2 t1 (.num (r2 - 4)) 0 (((k1.trans k2).new h3).new h4) (((S2.mono (by lia)).new h3 _).new h4 _) upd_same (.num (old h4 upd_same)) (by decide) (by decide) trivial fun x hx=>by cases hx
    · refine (ex2q rfl ⟨by show 0<=sizeLine; decide,fun pe h2=>?_⟩)
      have k2:=k1.new (o:=.lst []) h2
      have S2:=S1.new h2 (.lst [])
      have hsc2:=k2.k _ _ (S0.neR hsc) hsc
      refine ⟨_,_,_,rfl,rfl,SqL.of hsc2,SqL.of upd_same,(ex2q rfl ?_)⟩
      show if (if false=true then !(ts.map V.ref).isEmpty else (ts.map V.ref).isEmpty)=true then _ else _
      generalize upd H1 pe (.lst [])=H2 at *
      by_cases he:ts=[]
      · have e0:(ts.map V.ref).isEmpty=true:=by rw [he]; rfl
        rw [e0]
        refine iteT ?_
        refine (ex2q rfl ⟨st,9,(ex2q rfl ⟨S2,by lia,by decide,fun H3 r2 k3 S3 _ _=>(ex4q rfl rfl ⟨by show 2<=sizeLine; decide,fun t1 h3=>⟨by show 2<=sizeLine; decide,fun t2 h4=>?_⟩⟩)⟩)⟩)
        rw [hD]
        exact q _ t2 t1 (.num (r2 - 4)) 0 (((k2.trans k3).new h3).new h4) (((S3.mono (by lia)).new h3 _).new h4 _) upd_same (.num (old h4 upd_same)) (by decide) (by decide) trivial fun x hx=>by cases hx
      · have e0:(ts.map V.ref).isEmpty=false:=by
          cases ts with
          | nil=>exact absurd rfl he
          | cons _ _=>rfl
        rw [e0]
        refine iteF (tail _ (fun e=>he ?_) k2 S2)
        rw [e] at htl
        exact List.length_eq_zero_iff.mp htl.symm
  case rest =>
    intro H2 hl0 k2 S2
    have hSc2:=hSc.kp S0 k2
    have hW2:=hW.kp S0 k2
    refine cut1 fun c_ hc_=>?_
    refine (ex2q rfl ⟨rfl,(ex2q rfl ?_)⟩)
    refine ite2 (fun _=>?_) (fun _=>?_)
    · refine ⟨by show 7<=sizeLine; decide,fun pl h3=>?_⟩
      have S3:=S2.new h3 (.lst [.str "plus",.str "minus",.str "times",.str "over",.str "rest",.str "less",.str "same"])
      have k3:=k2.new (o:=.lst [.str "plus",.str "minus",.str "times",.str "over",.str "rest",.str "less",.str "same"]) h3
      refine (ex2q rfl ⟨st,7,(ex2q rfl ⟨S3,by lia,by decide,fun H4 r4 k4 S4 q0 q1=>?_⟩)⟩)
      have hpl:=k4.k _ _ (S2.ne h3) (upd_same (H:=H2) (a:=pl) (o:=.lst [.str "plus",.str "minus",.str "times",.str "over",.str "rest",.str "less",.str "same"]))
      have hi:r4.toNat < (["plus","minus","times","over","rest","less","same"]:List Str).length:=by show r4.toNat < 7; lia
      obtain ⟨wd,hwd⟩:∃ x,(["plus","minus","times","over","rest","less","same"]:List Str)[r4.toNat]?=some x:=⟨_,List.getElem?_eq_getElem hi⟩
      refine ⟨pl,_,_,_,rfl,rfl,SqL.of hpl,atI_of (f:=V.str) q0 hwd,?_⟩
      have k34:=k3.trans k4
      refine (ex22q rfl rfl (ex2q rfl ⟨st,sc,0,_,l,rfl,S4,by lia,hSc.kp S0 k34,hl0,fun H5 x k5 S5 hx=>?_⟩))
      have k35:=k34.trans k5
      refine (ex22q rfl rfl ⟨st,sc,0,_,l,rfl,S5,by lia,hSc.kp S0 k35,hl0,fun H6 y k6 S6 hy=>?_⟩)
      refine ⟨by show 4<=sizeLine; decide,fun t1 h7=>⟨by show 2<=sizeLine; decide,fun t2 h8=>?_⟩⟩
      refine q _ t2 t1 (.op wd x y) 0 (((k35.trans k6).new h7).new h8) (((S6.mono (by lia)).new h7 _).new h8 _) upd_same (.op (old h8 upd_same)) (by decide) (by decide) trivial fun z hz=>?_
      have hz':z∈[x,y]:=hz
      rcases List.mem_cons.mp hz' with e | e
      · rw [e]; exact hx
      · rw [List.mem_singleton.mp e]; exact hy
    subst hc_
    refine nxtC ?_
    dsimp only
    refine cut1 fun c_ hc_=>?_
    refine (ex2q rfl (ex4q rfl rfl (ex2q rfl ?_)))
    obtain ⟨⟨tl,dl,tt,ds,hw,htl2,hdl,hTt,hTd⟩,wok⟩:=hW2
    refine ite2 (fun _=>?_) (fun _=>?_)
    · have tlen:=wok.tlen
      have htl3:=hTt.len
      refine (ex2q rfl (ixL hw (atI_nat (j:=2) rfl) (ex2q rfl ⟨st,4,(ex2q rfl ⟨S2,by lia,by decide,fun H3 r3 k3 S3 q0 q1=>?_⟩)⟩)))
      have hi:r3.toNat < tt.length:=by lia
      obtain ⟨t,ht⟩:∃ t,tt[r3.toNat]?=some t:=⟨_,List.getElem?_eq_getElem hi⟩
      obtain ⟨z,ss,g,sq,e1,e2,e3⟩:=(hTt.kp S2 k3).get ht
      have wd:ss.length<=9/\So ss:=wok.ts _ (List.mem_of_getElem? e1)
      have hg:g=1\/g=2:=by
        have m:g∈o.tags.map (·.2.2):=List.mem_map.mpr ⟨_,List.mem_of_getElem? e1,rfl⟩
        rw [wok.tk] at m
        simpa using m
      refine ⟨tl,_,_,_,rfl,rfl,SqL.of (k3.k _ _ (S2.neR htl2) htl2),atI_of q0 ht,_,_,rfl,SqT.of e2,rfl,_,_,rfl,_,_,rfl,_,_,rfl,rfl,?_⟩
      have k23:=k2.trans k3
      refine (ex22q rfl rfl (ex22q rfl rfl ⟨st,sc,sq,ss,_,l,rfl,S3,by lia,hSc.kp S0 k23,hl0,e3,by lia,fun H6 p6 xs k6 S6 hp6 hl6 hm6=>?_⟩))
      refine ⟨by show 3<=sizeLine; decide,fun t1 h7=>(ex2q rfl ⟨by show 2<=sizeLine; decide,fun t2 h8=>?_⟩)⟩
      refine q _ t2 t1 (.app "make" z xs) g (((k23.trans k6).new h7).new h8) (((S6.mono (by lia)).new h7 _).new h8 _) upd_same (.app ⟨by decide,by decide,by lia⟩ (old h8 upd_same) (old h8 (old h7 hp6))) (by lia) (by lia) (fun e=>absurd e (by decide)) fun x hx=>?_
      rw [uses_app (by decide)] at hx
      exact hm6 x hx
    subst hc_
    refine nxtC ?_
    dsimp only
    refine cut1 fun c_ hc_=>?_
    refine (ex2q rfl ⟨rfl,(ex2q rfl ?_)⟩)
    refine ite2 (fun _=>?_) (fun _=>?_)
    · refine (ex22q rfl rfl (ex2q rfl ⟨st,sc,w0,_,l,o,rfl,S2,by lia,hSc2,hl0,⟨⟨tl,dl,tt,ds,hw,htl2,hdl,hTt,hTd⟩,wok⟩,fun H3 p q' d g k3 S3 h1 h2 h3 h4 h5 h6=>?_⟩))
      exact q _ p q' d g (k2.trans k3) (S3.mono (by lia)) h1 h2 h3 h4 h5 h6
    subst hc_
    refine (ex2q rfl ⟨st,3,(ex2q rfl ⟨S2,by lia,by decide,fun H3 r3 k3 S3 q0 q1=>?_⟩)⟩)
    have k23:=k2.trans k3
    refine (show ∀ (u:TS) (D:Ends),(∀ (H':Hp) (x:Int),Kp st H H'->Sta K H' st (B + 4)->0<=x->x < 3->u D [some (.ref st),some (.ref sc),some (.ref w0),some (.int (a:Nat)),some (.int r),none,none,none,none,some (.int x),none,none] H')->(tSeq _ (tSeq _ u):TS) D _ H3 from ?key3) _ _ ?rest3
    case key3 =>
      intro u D tail
      refine (ex2q rfl (ex4q rfl rfl (ex2q rfl ?_)))
      refine ite2 (fun c=>?_) (fun _=>tail _ r3 k23 (S3.mono (by lia)) q0 q1)
      rw [decide_eq_true_eq] at c
      refine (ex2q rfl ⟨st,4,(ex2q rfl ⟨S3,by lia,by decide,fun H4 r4 k4 S4 _ _=>(ex4q rfl rfl (ex2q rfl ?_))⟩)⟩)
      refine ite2 (fun _=>?_) (fun _=>tail _ r3 (k23.trans k4) (S4.mono (by lia)) q0 q1)
      refine (ex2q rfl (ex4q rfl rfl (ex22q rfl rfl (ex4q rfl rfl ⟨st,_,_,rfl,S4,by lia,by lia,fun H5 r5 k5 S5 p0 p1=>(ex4q rfl rfl ?_)⟩))))
      exact tail _ _ ((k23.trans k4).trans k5) (S5.mono (by lia)) (by lia) (by lia)
    case rest3 =>
      intro H4 x k4 S4 x0 x1
      obtain ⟨⟨tl,dl,tt,ds,hw,htl2,hdl,hTt,hTd⟩,wok⟩:=hW.kp S0 k4
      have dlen:=wok.dlen
      have hdl2:=hTd.len
      have hi:x.toNat < ds.length:=by lia
      obtain ⟨t,ht⟩:∃ t,ds[x.toNat]?=some t:=⟨_,List.getElem?_eq_getElem hi⟩
      obtain ⟨z,ss,g,sq,e1,e2,e3⟩:=hTd.get ht
      have wd:ss.length<=3/\So ss/\0<=g/\g<=2:=wok.ds _ (List.mem_of_getElem? e1)
      refine (ex2q rfl (ixL hw (atI_nat (j:=3) rfl) (ex2q rfl ⟨dl,_,_,_,rfl,rfl,SqL.of hdl,atI_of x0 ht,_,_,rfl,SqT.of e2,rfl,_,_,rfl,_,_,rfl,_,_,rfl,rfl,?_⟩)))
      refine (ex22q rfl rfl (ex22q rfl rfl ⟨st,sc,sq,ss,_,l,rfl,S4,by lia,hSc.kp S0 k4,hl0,e3,by lia,fun H6 p6 xs k6 S6 hp6 hl6 hm6=>?_⟩))
      refine ⟨by show 3<=sizeLine; decide,fun t1 h7=>(ex2q rfl ⟨by show 2<=sizeLine; decide,fun t2 h8=>?_⟩)⟩
      refine q _ t2 t1 (.app "call" z xs) g (((k4.trans k6).new h7).new h8) (((S6.mono (by lia)).new h7 _).new h8 _) upd_same (.app ⟨by decide,by decide,by lia⟩ (old h8 upd_same) (old h8 (old h7 hp6))) (by lia) (by lia) (fun _=>⟨_,List.mem_of_getElem? e1,rfl,hl6.symm⟩) fun x hx=>?_
      rw [uses_app (by decide)] at hx
      exact hm6 x hx
end
end GN
namespace GN
open PySem L2 K11
mutual
inductive Bd
  | give (x:Str)
  | lt (x:Str) (d:De) (b:Bd)
  | iff (x:Str) (a b:Bd)
  | case (x:Str) (as:Arms)
inductive Arms
  | nil
  | cons (t:Str) (ns:List Str) (b:Bd) (r:Arms)
end
mutual
def Bd.sz:Bd->Nat
  | .give _=>1
  | .lt _ _ b=>b.sz + 1
  | .iff _ a b=>a.sz + b.sz + 1
  | .case _ as=>as.sz + 1
def Arms.sz:Arms->Nat
  | .nil=>0
  | .cons _ ns b r=>ns.length + b.sz + r.sz + 1
end
mutual
def Bd.dp:Bd->Nat
  | .give _=>1
  | .lt _ _ b=>b.dp + 1
  | .iff _ a b=>max a.dp b.dp + 1
  | .case _ as=>as.dp + 1
def Arms.dp:Arms->Nat
  | .nil=>0
  | .cons _ _ b r=>max b.dp r.dp
end
def Arms.app:Arms->Arms->Arms
  | .nil,b=>b
  | .cons t ns d r,b=>.cons t ns d (Arms.app r b)
def Arms.rev:Arms->Arms
  | .nil=>.nil
  | .cons t ns d r=>Arms.app (Arms.rev r) (.cons t ns d .nil)
theorem Arms.sz_app:∀ (a b:Arms),(Arms.app a b).sz=a.sz + b.sz
  | .nil,b=>by unfold Arms.app; rw [Arms.sz]; lia
  | .cons t ns d r,b=>by unfold Arms.app; rw [Arms.sz,Arms.sz,Arms.sz_app r b]; lia
theorem Arms.dp_app:∀ (a b:Arms),(Arms.app a b).dp=max a.dp b.dp
  | .nil,b=>by unfold Arms.app; rw [Arms.dp]; lia
  | .cons t ns d r,b=>by unfold Arms.app; rw [Arms.dp,Arms.dp,Arms.dp_app r b]; lia
theorem Arms.dp_rev:∀ (a:Arms),(Arms.rev a).dp=a.dp
  | .nil=>rfl
  | .cons t ns d r=>by unfold Arms.rev; rw [Arms.dp_app,Arms.dp_rev r,Arms.dp,Arms.dp,Arms.dp]; lia
theorem Arms.sz_rev:∀ (a:Arms),(Arms.rev a).sz=a.sz
  | .nil=>rfl
  | .cons t ns d r=>by unfold Arms.rev; rw [Arms.sz_app,Arms.sz_rev r,Arms.sz,Arms.sz,Arms.sz]; lia
mutual
inductive IsB (H:Hp):Bd->Addr->Prop
  | give {x:Str} {p:Addr}:H p=some (.tup [.str "give",.str x])->IsB H (.give x) p
  | lt {x:Str} {d:De} {b:Bd} {p q r:Addr}:H p=some (.tup [.str "let",.str x,.ref q,.ref r])->IsDe H d q->IsB H b r->IsB H (.lt x d b) p
  | iff {x:Str} {a b:Bd} {p q r:Addr}:H p=some (.tup [.str "if",.str x,.ref q,.ref r])->IsB H a q->IsB H b r->IsB H (.iff x a b) p
  | case {x:Str} {as:Arms} {ps:List Addr} {p q:Addr}:H p=some (.tup [.str "case",.str x,.ref q])->H q=some (.tup (ps.map V.ref))->0 < ps.length->IsA H as ps->IsB H (.case x as) p
inductive IsA (H:Hp):Arms->List Addr->Prop
  | nil:IsA H .nil []
  | cons {t:Str} {ns:List Str} {b:Bd} {r:Arms} {p q s:Addr} {ps:List Addr}:H p=some (.tup [.str t,.ref q,.ref s])->H q=some (.tup (ns.map V.str))->IsB H b s->IsA H r ps->IsA H (.cons t ns b r) (p :: ps)
end
mutual
theorem IsB.keep {H H':Hp} (t:Tups H H'):∀ {b:Bd} {p:Addr},IsB H b p->IsB H' b p
  | _,_,.give a=>.give (t _ _ a)
  | _,_,.lt a d b=>.lt (t _ _ a) (d.keep t) (IsB.keep t b)
  | _,_,.iff a b c=>.iff (t _ _ a) (IsB.keep t b) (IsB.keep t c)
  | _,_,.case a b l c=>.case (t _ _ a) (t _ _ b) l (IsA.keep t c)
theorem IsA.keep {H H':Hp} (t:Tups H H'):∀ {b:Arms} {p:List Addr},IsA H b p->IsA H' b p
  | _,_,.nil=>.nil
  | _,_,.cons a b c d=>.cons (t _ _ a) (t _ _ b) (IsB.keep t c) (IsA.keep t d)
end
theorem IsA.app {H:Hp} {b:Arms} {q:List Addr} (g:IsA H b q):∀ {a:Arms} {p:List Addr},IsA H a p->IsA H (Arms.app a b) (p ++ q)
  | _,_,.nil=>by unfold Arms.app; exact g
  | _,_,.cons x y z r=>by unfold Arms.app; exact .cons x y z (IsA.app g r)
theorem IsA.rev {H:Hp}:∀ {a:Arms} {p:List Addr},IsA H a p->IsA H (Arms.rev a) p.reverse
  | _,_,.nil=>.nil
  | _,_,.cons x y z r=>by
    unfold Arms.rev
    rw [List.reverse_cons]
    exact IsA.app (.cons x y z .nil) (IsA.rev r)
def CB:Nat->Nat
  | 0=>0
  | n + 1=>3 * CB n + 300
def SZ:Nat->Nat
  | 0=>0
  | n + 1=>3 * SZ n + 40
mutual
def Bd.binds:Bd->List Str
  | .give _=>[]
  | .lt x _ b=>x :: b.binds
  | .iff _ a b=>a.binds ++ b.binds
  | .case _ as=>as.binds
def Arms.binds:Arms->List Str
  | .nil=>[]
  | .cons _ ns b r=>ns ++ (b.binds ++ r.binds)
end
mutual
def SndB (o:Wo):List Str->Bd->Prop
  | l,.give x=>x∈l
  | l,.lt x d b=>((∀ y∈d.uses,y∈l)/\x ∉ l/\CalOk o d)/\SndB o (l ++ [x]) b
  | l,.iff x a b=>x∈l/\SndB o l a/\SndB o l b
  | l,.case x as=>x∈l/\SndA o l as
def SndA (o:Wo):List Str->Arms->Prop
  | _,.nil=>True
  | l,.cons _ ns b r=>(((ns.Nodup/\ns.length<=40)/\∀ y∈ns,y ∉ l)/\SndB o (l ++ ns) b)/\SndA o l r
end
theorem SndA.app {o:Wo} {l:List Str}:∀ {a b:Arms},SndA o l a->SndA o l b->SndA o l (Arms.app a b)
  | .nil,b,_,h=>by unfold Arms.app; exact h
  | .cons t ns d r,b,h,h'=>by
    unfold Arms.app
    rw [SndA] at h ⊢
    exact ⟨h.1,SndA.app h.2 h'⟩
theorem SndA.rev {o:Wo} {l:List Str}:∀ {a:Arms},SndA o l a->SndA o l a.rev
  | .nil,h=>h
  | .cons t ns d r,h=>by
    unfold Arms.rev
    rw [SndA] at h
    refine SndA.app (SndA.rev h.2) ?_
    rw [SndA,SndA]
    exact ⟨h.1,trivial⟩
def Bnm (o:Wo) (k m:Nat) (l:List Str):Prop:=∀ x∈l,∃ j,k<=j/\j < m/\x=nm o.z o.b j
theorem Bnm.mono {o:Wo} {k k' m:Nat} {l:List Str} (h:Bnm o k m l) (e:k'<=k):Bnm o k' m l:=fun x hx=>let ⟨j,a,b,c⟩:=h x hx; ⟨j,Nat.le_trans e a,b,c⟩
theorem Bnm.app {o:Wo} {k m:Nat} {l l':List Str} (h:Bnm o k m l) (h':Bnm o k m l'):Bnm o k m (l ++ l'):=fun x hx=>(List.mem_append.mp hx).elim (h x) (h' x)
theorem Bnm.nil {o:Wo} {k m:Nat}:Bnm o k m []:=fun x hx=>by cases hx
theorem cl_ysG (k:Nat):cl (ys k)=List.replicate (k % 2) 121:=by
  unfold ys
  rcases (show k % 2=0\/k % 2=1 by lia) with e | e
  · rw [e]; decide +kernel
  · rw [e]; decide +kernel
theorem nm_injG {z:Str} {b:Bool} {j k:Nat} (hj:j < 1352) (hk:k < 1352) (h:nm z b j=nm z b k):j=k:=by
  have hl:∀ i:Nat,(cl (core i)).length=3:=fun i=>by rw [cl_core]; rfl
  have cinj:cl (core j)=cl (core k)->j % 2=k % 2->j=k:=fun e e0=>by
    rw [cl_core,cl_core] at e
    injection e with e1 e2
    injection e2 with _ e3
    injection e3 with e3 _
    lia
  have e:=congrArg cl h
  unfold nm at e
  cases b with
  | true =>
    rw [if_pos rfl,if_pos rfl,cl_app,cl_app,cl_app,cl_app] at e
    have el:=congrArg List.length e
    rw [List.length_append,List.length_append,List.length_append,List.length_append,hl,hl,cl_ysG,cl_ysG,List.length_replicate,List.length_replicate] at el
    rw [List.append_assoc,List.append_assoc] at e
    exact cinj (List.append_inj_left e (by rw [hl,hl])) (by lia)
  | false =>
    rw [if_neg (by decide),if_neg (by decide),cl_app,cl_app,cl_app,cl_app] at e
    have el:=congrArg List.length e
    rw [List.length_append,List.length_append,List.length_append,List.length_append,hl,hl,cl_ysG,cl_ysG,List.length_replicate,List.length_replicate] at el
    exact cinj (List.append_inj_right' e (by rw [hl,hl])) (by lia)
theorem nm_nd {o:Wo} {k n:Nat} (h:k + n<=1352):((List.range n).map fun i=>nm o.z o.b (k + i)).Nodup:=by
  unfold List.Nodup
  rw [List.pairwise_map]
  refine List.Pairwise.imp_of_mem (fun {a b} ha hb hab e=>hab ?_) List.nodup_range
  have:=List.mem_range.mp ha
  have:=List.mem_range.mp hb
  have:=nm_injG (by lia) (by lia) e
  lia
theorem nm_new {o:Wo} {k n:Nat} (h:k + n<=1352) {l:List Str} (hl:Bnm o 0 k l):∀ y∈(List.range n).map (fun i=>nm o.z o.b (k + i)),y ∉ l:=fun y hy hm=>by
  obtain ⟨i,hi,rfl⟩:=List.mem_map.mp hy
  have:=List.mem_range.mp hi
  obtain ⟨j,_,hj,e⟩:=hl _ hm
  have:=nm_injG (by lia) (by lia) e
  lia
theorem nm_up {o:Wo} {k n:Nat} {l:List Str} (hl:Bnm o 0 k l):Bnm o 0 (k + n) (l ++ (List.range n).map fun i=>nm o.z o.b (k + i)):=fun y hy=>by
  rcases List.mem_append.mp hy with hy | hy
  · obtain ⟨j,a,b,c⟩:=hl y hy
    exact ⟨j,a,by lia,c⟩
  · obtain ⟨i,hi,rfl⟩:=List.mem_map.mp hy
    have:=List.mem_range.mp hi
    exact ⟨k + i,Nat.zero_le _,by lia,rfl⟩
theorem nm_new1 {o:Wo} {k:Nat} (h:k < 1352) {l:List Str} (hl:Bnm o 0 k l) {y:Str} (hy:nm o.z o.b k=y):y ∉ l:=fun hm=>by
  obtain ⟨j,_,hj,e⟩:=hl _ hm
  have:=nm_injG (by lia) (by lia) (hy.trans e)
  lia
theorem nm_up1 {o:Wo} {k:Nat} {l:List Str} (hl:Bnm o 0 k l) {y:Str} (hy:nm o.z o.b k=y):Bnm o 0 (k + 1) (l ++ [y]):=fun z hz=>by
  rcases List.mem_append.mp hz with hz | hz
  · obtain ⟨j,a,b,c⟩:=hl z hz
    exact ⟨j,a,by lia,c⟩
  · rw [List.mem_singleton.mp hz]
    exact ⟨k,Nat.zero_le _,by lia,hy.symm⟩
theorem Arms.binds_app:∀ (a b:Arms),(Arms.app a b).binds=a.binds ++ b.binds
  | .nil,b=>by unfold Arms.app; rw [Arms.binds]; rfl
  | .cons t ns d r,b=>by unfold Arms.app; rw [Arms.binds,Arms.binds,Arms.binds_app r b,List.append_assoc,List.append_assoc]
theorem Bnm.rev {o:Wo} {k m:Nat}:∀ {a:Arms},Bnm o k m a.binds->Bnm o k m a.rev.binds
  | .nil,h=>h
  | .cons t ns d r,h=>by
    unfold Arms.rev
    rw [Arms.binds_app]
    rw [Arms.binds] at h
    refine Bnm.app (Bnm.rev fun x hx=>h x (List.mem_append_right _ (List.mem_append_right _ hx))) ?_
    rw [Arms.binds,Arms.binds,List.append_nil]
    exact fun x hx=>h x ((List.mem_append.mp hx).elim (List.mem_append_left _) fun y=>List.mem_append_right _ (List.mem_append_left _ y))
def spRooms (K:PySem.W.Frag):Sp:=fun vs H Q _=>∃ (st:Addr) (room:Int) (m B:Nat),vs=[.ref st,.int room,.int (m:Nat)]/\1<=room/\1<=m/\m<=10/\Sta K H st B/\B + 1 < LIM/\∀ (H':Hp) (p:Addr) (rs:List Int),Kp st H H'->Sta K H' st (B + 1)->H p=none->H' p=some (.lst (rs.map V.int))->rs.length=m->(∀ x∈rs,0<=x/\x<=room - 1)->Q (.ref p) H'
def spBody (K:PySem.W.Frag) (n:Nat):Sp:=fun vs H Q _=>∃ (st sc w:Addr) (k a B:Nat) (room:Int) (l:List (Str × Int)) (o:Wo),vs=[.ref st,.ref sc,.int (k:Nat),.int room,.ref w,.int (a:Nat)]/\a < 3/\Sta K H st B/\B + CB n < LIM/\Sc H l sc/\IsW H o w/\room.toNat + (if l=[] then 1 else 0) + 1<=n/\l.length + 10 * n<=900/\(k + 10 * n<=900/\Bnm o 0 k (l.map (·.1)))/\∀ (H':Hp) (p:Addr) (b:Bd),Kp st H H'->Sta K H' st (B + CB n)->IsB H' b p->b.sz<=SZ n->b.dp<=n->Bnm o k 900 b.binds->SndB o (l.map (·.1)) b->Q (.ref p) H'
def spCase (K:PySem.W.Frag) (n:Nat):Sp:=fun vs H Q _=>∃ (st sc w:Addr) (k a B:Nat) (room:Int) (l:List (Str × Int)) (o:Wo),vs=[.ref st,.ref sc,.int (k:Nat),.int room,.ref w,.int (a:Nat)]/\a < 3/\Sta K H st B/\B + (3 * CB n + 10) < LIM/\Sc H l sc/\l≠[]/\IsW H o w/\1<=room/\room.toNat<=n/\l.length + 10 * (n + 1)<=900/\(k + 10 * (n + 1)<=900/\Bnm o 0 k (l.map (·.1)))/\∀ (H':Hp) (p:Addr) (b:Bd),Kp st H H'->Sta K H' st (B + (3 * CB n + 10))->IsB H' b p->b.sz<=3 * SZ n + 31->b.dp<=n + 1->Bnm o k 900 b.binds->SndB o (l.map (·.1)) b->Q (.ref p) H'
theorem tps_zip {H:Hp}:∀ {xs:List Str} {ys:List Int} {ps:List Addr},ps.length=min (xs.map V.str).length (ys.map V.int).length->(∀ (i:Nat) x y,(xs.map V.str)[i]?=some x->(ys.map V.int)[i]?=some y->∃ t,ps[i]?=some t/\H t=some (.tup [x,y]))->Tps H (xs.zip ys) ps
  | [],_,ps,hl,_=>by
    have:ps=[]:=List.length_eq_zero_iff.mp (by simpa using hl)
    rw [this]
    exact .nil
  | _ :: _,[],ps,hl,_=>by
    have:ps=[]:=List.length_eq_zero_iff.mp (by simpa using hl)
    rw [this]
    exact .nil
  | x :: xs,y :: ys,[],hl,_=>by simp at hl
  | x :: xs,y :: ys,p :: ps,hl,h=>by
    obtain ⟨t,h1,h2⟩:=h 0 (.str x) (.int y) rfl rfl
    have e:p=t:=by simpa using h1
    refine .cons (by rw [e]; exact h2) (tps_zip (by simp only [List.map_cons,List.length_cons] at hl; lia) fun i u v hu hv=>?_)
    obtain ⟨t,h1,h2⟩:=h (i + 1) u v (by simpa using hu) (by simpa using hv)
    exact ⟨t,by simpa using h1,h2⟩
section
variable {P:Program} {w:World} {K:PySem.W.Frag} {mg:Str->Option Value} {base:Heap} {f:Addr} {fd:FuncData}
theorem scRooms:FnScope ["_law_state","_law_room","_law_many","_law_rooms_here"] ["_law_state","_law_room","_law_many"] (defScope sRooms):=⟨rfl,rfl,rfl,by decide +kernel,rfl,by decide +kernel,by decide +kernel⟩
theorem ndRooms:(["_law_state","_law_room","_law_many","_law_rooms_here","_law_k"]:List Str).Nodup:=by decide +kernel
theorem ok_rooms (F:Fun K "_law_rooms" "_law_rooms" sRooms f fd) (GD:Ca P w K mg base CX0 1 "_law_draw" ["_law_state","_law_many"] (spDraw K)) (m_range:mg "range"=none):FnOk P w K mg base CX0 2 f fd ["_law_state","_law_room","_law_many"] (spRooms K):=by
  refine F.by scRooms (fun vs H Q E h=>?_) (fun cdv A outer s H vs Q E hr h=>?_)
  · obtain ⟨st,room,m,B,rfl,_⟩:=h
    rfl
  obtain ⟨st,room,m,B,rfl,h1,m1,m2,S0,hB,q⟩:=h
  refine ⟨_,
    (jss_cons (js_comp ["_law_k"] (i:=3) scRooms.nd rfl (Or.inl rfl) rfl (ji_range1 rfl m_range (ja_c (jv 2) ja_nil)) (fun _ _ _ _ _=>(jg_name (i:=4) ndRooms rfl (Or.inl rfl))) (fun _ _ _ _ _=>jts_nil) (fun _ _ _ _ _=>(je_op jo_fdiv (je_op jo_sub (jv 1) je_int) je_int)))
    (jss_cons (js_asg (je_op jo_sub (jv 1) je_int) (jg_setL (jv 3) (je_ca GD hr rfl pass0 (ja_c (jv 0) (ja_c (jv 2) ja_nil)))))
    (jss_one (js_ret (jv 3))))),?_⟩
  have sl:=line0
  have LM:LIM=4611686018427387904:=rfl
  refine (ex22q rfl rfl ⟨by lia,by lia,lc_range (n:=m) (fun i τ ys H'=>H=H'/\(∃ x,τ=[some (.ref st),some (.int room),some (.int (m:Nat)),none,x])/\∃ rs:List Int,ys=rs.map V.int/\rs.length=i/\∀ x∈rs,0<=x/\x<=room - 1) ⟨rfl,⟨none,rfl⟩,[],rfl,rfl,fun x hx=>by cases hx⟩ ?_ ?_⟩)
  · rintro i τ ys H1 hi ⟨rfl,⟨x,rfl⟩,rs,rfl,hl,hx⟩
    refine (ex2q rfl (ex4q rfl rfl (ex4q rfl rfl ⟨⟨by decide,by decide⟩,by rw [List.length_map]; lia,rfl,⟨_,rfl⟩,rs ++ [(room - 1) / 3],by rw [List.map_append]; rfl,by simp [hl],fun y hy=>?_⟩)))
    rcases List.mem_append.mp hy with hy | hy
    · exact hx y hy
    · rw [List.mem_singleton.mp hy]
      lia
  rintro τ ys H1 ⟨rfl,_,rs,rfl,hl,hx⟩ p hp
  have S1:=S0.new hp (.lst (rs.map V.int))
  refine (ex2q rfl (ex4q rfl rfl (ex22q rfl rfl (ex2q rfl ⟨st,_,_,rfl,S1,by lia,by lia,fun H2 r k2 S2 r0 r1=>?_⟩))))
  have hp2:=k2.k _ _ (S0.ne hp) (upd_same (H:=H) (a:=p) (o:=.lst (rs.map V.int)))
  have k02:=(Kp.refl.new (o:=.lst (rs.map V.int)) hp).trans k2
  have ix:ixN (rs.map V.int).length r=some r.toNat:=by
    unfold ixN
    rw [if_pos r0,if_pos (by rw [List.length_map]; lia)]
  refine ⟨p,_,r,r.toNat,rfl,rfl,hp2,ix,(ex2q rfl ?_)⟩
  have es:(rs.map V.int).set r.toNat (.int (room - 1))=(rs.set r.toNat (room - 1)).map V.int:=by rw [List.map_set]
  show Q (.ref p) (upd H2 p (.lst ((rs.map V.int).set r.toNat (.int (room - 1)))))
  rw [es]
  refine q _ p _ (k02.put hp) (Sta.put S0 hp k02 S2) hp upd_same (by simp [hl]) fun y hy=>?_
  rcases List.mem_or_eq_of_mem_set hy with hy | hy
  · exact hx y hy
  · rw [hy]
    lia
end
end GN
namespace GN
open PySem L2 K11
theorem kinds_len {o:Wo} (h:WOk o) {s:Int} (hs:s=1\/s=2):1<=(o.tags.filter fun p=>decide (V.int p.2.2=V.int s)).length/\(o.tags.filter fun p=>decide (V.int p.2.2=V.int s)).length<=3:=by
  have e:(o.tags.filter fun p=>decide (V.int p.2.2=V.int s)).length=((o.tags.map (·.2.2)).filter fun x=>decide (V.int x=V.int s)).length:=by
    rw [List.filter_map,List.length_map]
    rfl
  rw [e,h.tk]
  rcases hs with rfl | rfl
  · exact ⟨by decide,by decide⟩
  · exact ⟨by decide,by decide⟩
section
variable {P:Program} {w:World} {K:PySem.W.Frag} {mg:Str->Option Value} {base:Heap} {f:Addr} {fd:FuncData}
theorem scCase:FnScope ["_law_state","_law_scope","_law_k","_law_room","_law_world_here","_law_at","_law_sort","_law_x","_law_arms","_law_tags","_law_one","_law_left","_law_names","_law_more"] ["_law_state","_law_scope","_law_k","_law_room","_law_world_here","_law_at"] (defScope sCase):=⟨rfl,rfl,rfl,by decide +kernel,rfl,by decide +kernel,by decide +kernel⟩
theorem ndCase:(["_law_state","_law_scope","_law_k","_law_room","_law_world_here","_law_at","_law_sort","_law_x","_law_arms","_law_tags","_law_one","_law_left","_law_names","_law_more","_law_j"]:List Str).Nodup:=by decide +kernel
theorem ok_case {n:Nat} (F:Fun K "_law_case" "_law_case" sCase f fd) (GD:Ca P w K mg base CX0 1 "_law_draw" ["_law_state","_law_many"] (spDraw K)) (GN':Ca P w K mg base CX0 1 "_law_name" ["_law_world_here","_law_k"] spNm) (GK:Ca P w K mg base CX0 2 "_law_pick" ["_law_state","_law_scope","_law_sort"] (spPick K)) (GR:Ca P w K mg base CX0 2 "_law_rooms" ["_law_state","_law_room","_law_many"] (spRooms K)) (GB:Ca P w K mg base CX0 (6 + 2 * n) "_law_body" ["_law_state","_law_scope","_law_k","_law_room","_law_world_here","_law_at"] (spBody K n)) (m_len:mg "len"=none) (m_range:mg "range"=none) (m_zip:mg "zip"=none) (m_list:mg "list"=none) (m_tuple:mg "tuple"=none):FnOk P w K mg base CX0 (7 + 2 * n) f fd ["_law_state","_law_scope","_law_k","_law_room","_law_world_here","_law_at"] (spCase K n):=by
  rw [show 7 + 2 * n=(6 + 2 * n) + 1 by lia]
  refine F.by scCase (fun vs H Q E h=>?_) (fun cdv A outer s H vs Q E hr h=>?_)
  · obtain ⟨st,sc,w,k,a,B,room,l,o,rfl,_⟩:=h
    rfl
  obtain ⟨st,sc,w0,k,a,B,room,l,o,rfl,ha,S0,hB,hSc,hl0,hW,hroom,hrn,hln,⟨hkn,hbl⟩,q⟩:=h
  have hr1:Room 1 _:=hr.mono (by lia)
  have hr2:Room 2 _:=hr.mono (by lia)
  refine ⟨_,
    (jss_cons (js_set (i:=6) scCase.nd rfl (Or.inr rfl) (je_op jo_add je_int (je_op jo_fdiv (je_ca GD hr1 rfl pass0 (ja_c (jv 0) (ja_c je_int ja_nil))) je_int)))
    (jss_cons (js_set (i:=7) scCase.nd rfl (Or.inl rfl) (je_ca GK hr2 rfl pass0 (ja_c (jv 0) (ja_c (jv 1) (ja_c (jv 6) ja_nil)))))
    (jss_cons (js_set (i:=8) scCase.nd rfl (Or.inl rfl) (je_lst ja_nil))
    (jss_cons (js_compS [10] [] (i:=9) scCase.nd rfl (Or.inl rfl) rfl (ji_listK K (je_ixLK K (jv 4))) (fun _ _ _ _ _=>(jg_name (i:=10) scCase.nd rfl (Or.inl rfl))) (fun _ _ _ _ _=>(jts_one (jt_cmpR jo_eq (je_ixK K (jv 10)) (jv 6) (nomark _)))) (fun _ _ _ _ _=>(jv 10)))
    (jss_cons (js_for PassesOwn.never rfl (ji_zipK K rfl m_zip (ja_c (jv 9) (ja_c (je_ca GR hr2 rfl pass0 (ja_c (jv 0) (ja_c (jv 3) (ja_c (je_fnB (jc_len_seqK K) rfl m_len PySem.boot_len (ja_c (jv 9) ja_nil)) ja_nil)))) ja_nil))) (jg_tupK K rfl (jgs_cons (jg_name (i:=10) scCase.nd rfl (Or.inl rfl)) (jgs_cons (jg_name (i:=11) scCase.nd rfl (Or.inl rfl)) jgs_nil)))
      (jss_cons (js_comp ["_law_j"] (i:=12) scCase.nd rfl (Or.inl rfl) rfl (ji_range1 rfl m_range (ja_c (je_fnB (jc_len_seqK K) rfl m_len PySem.boot_len (ja_c (je_ixK K (jv 10)) ja_nil)) ja_nil)) (fun _ _ _ _ _=>(jg_name (i:=14) ndCase rfl (Or.inl rfl))) (fun _ _ _ _ _=>jts_nil) (fun _ _ _ _ _=>(je_ca GN' hr1 rfl pass0 (ja_c (jv 4) (ja_c (je_op jo_add (jv 2) (jv 14)) ja_nil)))))
      (jss_cons (js_set (i:=13) scCase.nd rfl (Or.inl rfl) (je_op jo_cat (jv 1) (je_zipL rfl rfl m_list rfl m_zip (ja_c (jv 12) (ja_c (je_ixK K (jv 10)) ja_nil)))))
      (jss_one (js_expr (je_bm PySem.F.plainAttrs_list PySem.F.slot_list_append PySem.F.type_list_append jm_append (jv 8) (ja_c (je_tup (ja_c (je_ixK K (jv 10)) (ja_c (je_fnTy (jc_tuple_ofK K) rfl m_tuple PyProof.Rows.boot_tuple (ja_c (jv 12) ja_nil)) (ja_c (je_ca GB hr rfl pass0 (ja_c (jv 0) (ja_c (jv 13) (ja_c (je_op jo_add (jv 2) (je_fnB (jc_len_seqK K) rfl m_len PySem.boot_len (ja_c (jv 12) ja_nil))) (ja_c (jv 11) (ja_c (jv 4) (ja_c (jv 5) ja_nil))))))) ja_nil)))) ja_nil)))))))
    (jss_cons (js_if (jt_cmpR jo_eq (je_ca GD hr1 rfl pass0 (ja_c (jv 0) (ja_c je_int ja_nil))) je_int (nomark _))
      (jss_one (js_expr (je_bm0 PySem.F.plainAttrs_list PySem.F.slot_list_reverse PySem.F.type_list_reverse jm_reverse (jv 8)))) jss_nil)
    (jss_one (js_ret (je_tup (ja_c je_str (ja_c (jv 7) (ja_c (je_fnTy (jc_tuple_ofK K) rfl m_tuple PyProof.Rows.boot_tuple (ja_c (jv 8) ja_nil)) ja_nil)))))))))))),?_⟩
  have sl:=line0
  have LM:LIM=4611686018427387904:=rfl
  refine cut4 fun r1_ hr1_=>?_
  refine (ex2q rfl ⟨st,4,B,rfl,S0,by lia,by decide,fun H1 r k1 S1 r0 r1=>(ex4q rfl rfl ⟨⟨by decide,by decide⟩,(ex4q rfl rfl ?_)⟩)⟩)
  have hsort:1 + r / 3=1\/1 + r / 3=2:=by lia
  show (tSeq _ _:TS) _ [some (.ref st),some (.ref sc),some (.int (k:Nat)),some (.int room),some (.ref w0),some (.int (a:Nat)),some (.int (1 + r / 3)),none,none,none,none,none,none,none] H1
  generalize 1 + r / 3=so at *
  refine (ex22q rfl rfl (ex2q rfl ⟨st,sc,so,_,l,rfl,S1,by lia,hSc.kp S0 k1,hl0,fun H2 x k2 S2 hx=>?_⟩))
  refine ⟨by show 0<=sizeLine; decide,fun pa h3=>?_⟩
  have k12:=k1.trans k2
  have k3:=k12.new (o:=.lst []) h3
  have S3:=S2.new h3 (.lst [])
  have npa:=S2.ne h3
  have fpa:H pa=none:=k12.free npa h3
  have hpa:=upd_same (H:=H2) (a:=pa) (o:=.lst [])
  generalize upd H2 pa (.lst [])=H3 at *
  obtain ⟨⟨tl,dl,tt,ds,hw0,htl0,hdl0,hTt,hTd⟩,wok⟩:=id hW
  have hw:=k3.k _ _ (S0.neW hw0) hw0
  have htl:=k3.k _ _ (S0.neR htl0) htl0
  have tlen:=wok.tlen
  have htt:=hTt.len
  refine (ex2q rfl (ixL hw (atI_nat (j:=2) rfl) ⟨tl,rfl,⟨_,SqL.of htl⟩,lc_list (xs:=tt.map V.ref) (fun j τ ys H'=>H3=H'/\(∃ v,τ=[some (.ref st),some (.ref sc),some (.int (k:Nat)),some (.int room),some (.ref w0),some (.int (a:Nat)),some (.int so),some (.str x),some (.ref pa),none,v,none,none,none])/\∃ fs:List Addr,ys=fs.map V.ref/\fs.length<=j/\Tri H ((o.tags.take j).filter fun p=>decide (V.int p.2.2=V.int so)) fs) ⟨rfl,⟨none,rfl⟩,[],rfl,Nat.zero_le _,.nil⟩ (fun j τ ys H' _ h=>by rw [<- h.1]; exact SqL.of htl) ?_ ?_⟩))
  · rintro j v τ ys H4 hv ⟨rfl,⟨v',rfl⟩,fs,rfl,hj,hf⟩
    rw [List.getElem?_map] at hv
    obtain ⟨t,ht,rfl⟩:=Option.map_eq_some_iff.mp hv
    obtain ⟨z,ss,g,sq,e1,e2,e3⟩:=hTt.get ht
    have hjl:j < o.tags.length:=(List.getElem?_eq_some_iff.mp e1).1
    have tf:=take_fil (fun p:Str × List Int × Int=>decide (V.int p.2.2=V.int so)) e1
    refine (ex2q rfl (ixT (k3.tups S0 _ _ e2) (atI_nat (j:=2) rfl) (ex2q rfl ⟨rfl,(ex2q rfl ?_)⟩)))
    refine ite2 (fun c=>?_) (fun c=>?_)
    · refine (ex2q rfl ⟨by rw [List.length_map]; lia,rfl,⟨_,rfl⟩,fs ++ [t],by simp,by simp; lia,?_⟩)
      rw [tf,if_pos c]
      exact hf.app (.cons e2 e3 .nil)
    · refine ⟨rfl,⟨_,rfl⟩,fs,rfl,by lia,?_⟩
      rw [tf,if_neg c,List.append_nil]
      exact hf
  rintro τ ys H4 ⟨rfl,_,fs,rfl,_,hf⟩ pt h4
  rw [List.length_map,<- htt,List.take_of_length_le (Nat.le_refl _)] at hf
  obtain ⟨fl1,fl2⟩:=kinds_len wok hsort
  have ftl:∀ p∈o.tags.filter (fun p=>decide (V.int p.2.2=V.int so)),p.2.1.length<=9/\So p.2.1:=fun p hp=>wok.ts p (List.mem_filter.mp hp).1
  generalize o.tags.filter (fun p=>decide (V.int p.2.2=V.int so))=fl at *
  have hfl:=hf.len
  have S4:=S3.new h4 (.lst (fs.map V.ref))
  have k4:=k3.new (o:=.lst (fs.map V.ref)) h4
  have hpt:=upd_same (H:=H3) (a:=pt) (o:=.lst (fs.map V.ref))
  have npt:pt≠pa:=(ne_of_none hpa h4).symm
  replace hpa:=old (o:=.lst (fs.map V.ref)) h4 hpa
  generalize upd H3 pt (.lst (fs.map V.ref))=H4 at *
  subst hr1_
  refine (ex22q rfl rfl (ex22q rfl rfl ⟨_,_,rfl,.inl (SqL.of hpt),st,room,(fs.map V.ref).length,(ex2q rfl ⟨hroom,by rw [List.length_map]; lia,by rw [List.length_map]; lia,S4,by lia,fun H5 pr rs k5 S5 fpr hpr hrl hrs=>?_⟩)⟩))
  rw [List.length_map] at hrl
  have npr:pr≠pa:=(ne_of_none hpa fpr).symm
  have npt':=S4.neR hpt
  replace hpt:=k5.k _ _ npt' hpt
  replace hpa:=k5.k _ _ npa hpa
  replace k5:=k4.trans k5
  clear hw htl k4 S4
  have hSc5:=hSc.kp S0 k5
  have hW5:=hW.kp S0 k5
  have npr':=S5.neI hpr
  let Fx:Hp->Prop:=fun H'=>(∀ b u,b≠st->b≠pa->H5 b=some u->H' b=some u)
  have Fx.kp:∀ {H1 H2:Hp},Fx H1->Kp st H1 H2->Fx H2:=fun f k b u n1 n2 h=>k.k _ _ n1 (f b u n1 n2 h)
  have Fx.pa:∀ {H1:Hp} {o:HO},Fx H1->Fx (upd H1 pa o):=fun f b u n1 n2 h=>by rw [upd_ne n2]; exact f b u n1 n2 h
  refine ⟨_,_,true,true,_,_,rfl,SqK.l hpt,SqK.l hpr,for_zip (xs:=fs.map V.ref) (ys:=rs.map V.int) (by rw [List.length_map,List.length_map]; lia) (fun i σ H'=>Fx H'/\Kp st H H'/\Sta K H' st (B + 4 + i * CB n)/\(∃ (as:List Addr) (ar:Arms),H' pa=some (.lst (as.map V.ref))/\as.length=i/\IsA H' ar as/\ar.sz<=i * (SZ n + 10)/\ar.dp<=n/\Bnm o k 900 ar.binds/\SndA o (l.map (·.1)) ar)/\∃ v1 v2 v3 v4,σ=[some (.ref st),some (.ref sc),some (.int (k:Nat)),some (.int room),some (.ref w0),some (.int (a:Nat)),some (.int so),some (.str x),some (.ref pa),some (.ref pt),v1,v2,v3,v4])
    ⟨fun b u _ _ h=>h,k5,(S5.mono (by lia)),⟨[],.nil,hpa,rfl,.nil,by rw [Arms.sz]; lia,by rw [Arms.dp]; lia,by rw [Arms.binds]; exact Bnm.nil,by rw [SndA]; trivial⟩,none,none,none,none,rfl⟩ (fun i σ H' _ h=>⟨SqK.l (h.1 _ _ npt' npt hpt),SqK.l (h.1 _ _ npr' npr hpr)⟩) ?_ ?_⟩
  · rintro i v y T σ H1 hv hy hT ⟨fx,kp,S1,⟨as,ar,hpa1,hal,hA,hz,hdp,hbn,hsn⟩,v1,v2,v3,v4,rfl⟩
    rw [List.getElem?_map] at hv hy
    obtain ⟨t,ht,rfl⟩:=Option.map_eq_some_iff.mp hv
    obtain ⟨rr,hrr,rfl⟩:=Option.map_eq_some_iff.mp hy
    have hi:i < fs.length:=(List.getElem?_eq_some_iff.mp ht).1
    have hrx:=hrs rr (List.mem_of_getElem? hrr)
    refine ⟨_,_,rfl,SqT.of upd_same,rfl,_,_,rfl,_,_,rfl,rfl,?_⟩
    refine cutD (fun D' fin=>?_) (fun _ _ h=>h)
    refine cut2 fun r2_ hr2_=>?_
    replace fx:=Fx.kp fx (Kp.refl.new (o:=.tup [.ref t,.int rr]) hT)
    replace kp:=kp.new (o:=.tup [.ref t,.int rr]) hT
    replace S1:=S1.new hT (.tup [.ref t,.int rr])
    replace hpa1:=old (o:=.tup [.ref t,.int rr]) hT hpa1
    replace hA:=hA.keep (.of (same_new hT (.tup [.ref t,.int rr])))
    generalize upd H1 T (.tup [.ref t,.int rr])=H6 at *
    obtain ⟨z,ss,g,sq,e1,e2,e3⟩:=(hf.kp S0 kp).get ht
    have hss:ss.length<=9/\So ss:=ftl _ (List.mem_of_getElem? e1)
    have hw6:=kp.k _ _ (S0.neW hw0) hw0
    refine (ex2q rfl (ixT e2 (atI_nat (j:=1) rfl) ⟨_,_,rfl,.inl (SqL.of e3),(ex2q rfl ⟨by rw [List.length_map]; lia,by rw [List.length_map]; lia,lc_range (n:=(ss.map V.int).length) (fun j τ ys H'=>H6=H'/\(∃ v,τ=[some (.ref st),some (.ref sc),some (.int (k:Nat)),some (.int room),some (.ref w0),some (.int (a:Nat)),some (.int so),some (.str x),some (.ref pa),some (.ref pt),some (.ref t),some (.int rr),v3,v4,v])/\ys=((List.range j).map fun i=>nm o.z o.b (k + i)).map V.str) ⟨rfl,⟨none,rfl⟩,rfl⟩ ?_ ?_⟩)⟩))
    · rintro j τ ys H7 hj ⟨rfl,⟨v,rfl⟩,rfl⟩
      rw [List.length_map] at hj
      have ek:((k:Nat):Int) + (0 + (j:Nat))=((k + j:Nat):Int):=by lia
      refine (ex22q rfl rfl (ex2q rfl (ex4q rfl rfl ⟨w0,o.z,o.b,_,k + j,(by show [V.ref w0,V.int (((k:Nat):Int) + (0 + (j:Nat)))]=_; rw [ek]),hw6,wok.z,by rw [List.length_map,List.length_map,List.length_range]; lia,rfl,⟨_,rfl⟩,?_⟩)))
      rw [List.range_succ,List.map_append,List.map_append]
      rfl
    rintro τ ys H7 ⟨rfl,_,rfl⟩ pn hpn
    rw [List.length_map]
    have nl:((List.range ss.length).map fun i=>nm o.z o.b (k + i)).length=ss.length:=by rw [List.length_map,List.length_range]
    have nb:Bnm o k 900 ((List.range ss.length).map fun i=>nm o.z o.b (k + i)):=fun x hx=>by
      obtain ⟨j,hj,rfl⟩:=List.mem_map.mp hx
      have:=List.mem_range.mp hj
      exact ⟨k + j,Nat.le_add_right _ _,by lia,rfl⟩
    have nnd:((List.range ss.length).map fun i=>nm o.z o.b (k + i)).Nodup/\((List.range ss.length).map fun i=>nm o.z o.b (k + i)).length<=40:=⟨nm_nd (by lia),by rw [List.length_map,List.length_range]; lia⟩
    have nnw:=nm_new (n:=ss.length) (by lia) hbl
    have nup:=nm_up (n:=ss.length) hbl
    generalize (List.range ss.length).map (fun i=>nm o.z o.b (k + i))=NS at *
    replace fx:=Fx.kp fx (Kp.refl.new (o:=.lst (NS.map V.str)) hpn)
    have kp7:=kp.new (o:=.lst (NS.map V.str)) hpn
    replace S1:=S1.new hpn (.lst (NS.map V.str))
    replace hpa1:=old (o:=.lst (NS.map V.str)) hpn hpa1
    replace hA:=hA.keep (.of (same_new hpn (.lst (NS.map V.str))))
    replace e2:=old (o:=.lst (NS.map V.str)) hpn e2
    replace e3:=old (o:=.lst (NS.map V.str)) hpn e3
    have hpn7:=upd_same (H:=H6) (a:=pn) (o:=.lst (NS.map V.str))
    generalize upd H6 pn (.lst (NS.map V.str))=H7 at *
    obtain ⟨⟨ts,hsc,hTs⟩,scn,scs⟩:=id hSc
    have htl2:=hTs.len
    have npn:=S1.neS hpn7
    refine (ex22q rfl rfl (ex2q rfl (ixT e2 (atI_nat (j:=1) rfl) ⟨pn,sq,_,_,rfl,.inl (SqL.of hpn7),.inl (SqL.of e3),fun H8 pz zs s8 f8 hpz hzl _ _ hpair=>?_⟩)))
    have tz:=tps_zip hzl hpair
    have hzl2:zs.length=ss.length:=by rw [hzl,List.length_map,List.length_map]; lia
    have kp8:=kp7.trans (.of s8)
    refine ⟨sc,pz,(ex4q rfl rfl ⟨kp8.k _ _ (S0.neR hsc) hsc,hpz,by rw [List.length_map,List.length_map]; lia,fun pm h9=>?_⟩)⟩
    rw [<- List.map_append]
    have kp9:=kp8.new (o:=.lst ((ts ++ zs).map V.ref)) h9
    have s79:Same H7 (upd H8 pm (.lst ((ts ++ zs).map V.ref))):=s8.new h9
    have hpm:=upd_same (H:=H8) (a:=pm) (o:=.lst ((ts ++ zs).map V.ref))
    have tz9:=tz.keep (.of (same_new h9 (.lst ((ts ++ zs).map V.ref))))
    have sc9:Sc (upd H8 pm (.lst ((ts ++ zs).map V.ref))) (l ++ NS.zip ss) pm:=by
      refine ⟨⟨ts ++ zs,hpm,(hTs.keep (kp9.tups S0)).app tz9⟩,?_,fun p hp=>?_⟩
      · rw [List.length_append,List.length_zip]
        lia
      · rcases List.mem_append.mp hp with hp | hp
        · exact scs p hp
        · have:=hss.2 p.2 (List.of_mem_zip hp).2
          lia
    replace fx:=Fx.kp fx (.of s79)
    replace S1:=S1.same s79
    replace hpa1:=s79 _ _ hpa1
    replace hA:=hA.keep (.of s79)
    replace e2:=s79 _ _ e2
    replace hpn7:=s79 _ _ hpn7
    generalize upd H8 pm (.lst ((ts ++ zs).map V.ref))=H9 at *
    subst hr2_
    refine (ex2q rfl ⟨.inl ⟨rfl,_,SqL.of hpa1⟩,(ex2q rfl (ixT e2 (atI_nat (j:=0) rfl) (ex2q rfl ⟨pn,(ex2q rfl (.inl ⟨SqL.of hpn7,fun pu h10=>?_⟩))⟩)))⟩)
    replace fx:=Fx.kp fx (Kp.refl.new (o:=.tup (NS.map V.str)) h10)
    have kp10:=kp9.new (o:=.tup (NS.map V.str)) h10
    replace S1:=S1.new h10 (.tup (NS.map V.str))
    replace hpa1:=old (o:=.tup (NS.map V.str)) h10 hpa1
    replace hA:=hA.keep (.of (same_new h10 (.tup (NS.map V.str))))
    replace hpn7:=old (o:=.tup (NS.map V.str)) h10 hpn7
    replace sc9:=sc9.same (same_new h10 (.tup (NS.map V.str)))
    have hpu:=upd_same (H:=H9) (a:=pu) (o:=.tup (NS.map V.str))
    generalize upd H9 pu (.tup (NS.map V.str))=H10 at *
    have hne:l ++ NS.zip ss≠[]:=fun e=>hl0 (List.append_eq_nil_iff.mp e).1
    have hbnd:B + 4 + i * CB n + CB n<=B + 4 + 3 * CB n:=by
      have:i + 1<=3:=by lia
      have:=Nat.mul_le_mul_right (CB n) this
      rw [Nat.add_mul] at this
      lia
    refine (ex22q rfl rfl (ex22q rfl rfl ⟨_,_,rfl,.inl (SqL.of hpn7),(ex4q rfl rfl (ex22q rfl rfl (ex2q rfl ⟨st,pm,w0,k + (NS.map V.str).length,a,_,rr,l ++ NS.zip ss,o,rfl,ha,S1,by lia,sc9,hW.kp S0 kp10,?_,?_,⟨by rw [List.length_map]; lia,by rw [List.length_map,nl,List.map_append,List.map_fst_zip (by lia)]; exact nup⟩,fun H11 pb b k11 S11 hb hbz hbd hbb hsb=>?_⟩)))⟩))
    · rw [if_neg hne]
      lia
    · rw [List.length_append,List.length_zip]
      lia
    refine ⟨by show 3<=sizeLine; decide,fun tt h12=>?_⟩
    have hpa11:=k11.k _ _ npa hpa1
    have tp:Tups H10 (upd (upd H11 tt (.tup [.str z,.ref pu,.ref pb])) pa (.lst (as.map V.ref ++ [.ref tt]))):=fun p xs hp=>by
      have g:=k11.tups S1 _ _ hp
      rw [upd_ne (ne_of g hpa11 (by intro e; cases e))]
      exact old h12 g
    have tp2:Tups H11 (upd (upd H11 tt (.tup [.str z,.ref pu,.ref pb])) pa (.lst (as.map V.ref ++ [.ref tt]))):=fun p xs g=>by
      rw [upd_ne (ne_of g hpa11 (by intro e; cases e))]
      exact old h12 g
    have kp12:=(kp10.trans k11).new (o:=.tup [.str z,.ref pu,.ref pb]) h12
    refine ⟨pa,(ex4q rfl rfl ⟨old h12 hpa11,by rw [List.length_map]; lia,fin _ _ ⟨Fx.pa (Fx.kp fx (k11.new h12)),kp12.put fpa,Sta.put S0 fpa kp12 ((S11.mono ?_).new h12 _),⟨as ++ [tt],Arms.app ar (.cons z NS b .nil),by rw [upd_same]; simp,by simp [hal],?_,?_,by rw [Arms.dp_app,Arms.dp,Arms.dp]; lia,by rw [Arms.binds_app,Arms.binds,Arms.binds,List.append_nil]; exact hbn.app (nb.app (hbb.mono (Nat.le_add_right _ _))),hsn.app (by rw [SndA,SndA]; rw [List.map_append,List.map_fst_zip (by lia)] at hsb; exact ⟨⟨⟨nnd,nnw⟩,hsb⟩,trivial⟩)⟩,_,_,_,_,rfl⟩⟩)⟩
    · rw [Nat.add_mul]
      lia
    · refine IsA.app (.cons ?_ (tp _ _ hpu) (hb.keep tp2) .nil) (hA.keep tp)
      rw [upd_ne (ne_of_none hpa11 h12).symm]
      exact upd_same
    · rw [Arms.sz_app,Arms.sz,Arms.sz,Nat.add_mul]
      lia
  rintro σ H6 ⟨fx,kp,S6,⟨as,ar,hpa6,hal,hA,hz,hdp,hbn,hsn⟩,v1,v2,v3,v4,rfl⟩
  rw [List.length_map] at hal S6 hz
  have hl3:fs.length<=3:=by lia
  have hc3:=Nat.mul_le_mul_right (CB n) hl3
  have hz3:=Nat.mul_le_mul_right (SZ n + 10) hl3
  refine (show ∀ (u:TS) (D:Ends),(∀ (H':Hp) (as:List Addr) (ar:Arms),Kp st H H'->Sta K H' st (B + (3 * CB n + 10))->H' pa=some (.lst (as.map V.ref))->IsA H' ar as->0 < as.length->ar.sz<=3 * SZ n + 30->ar.dp<=n->Bnm o k 900 ar.binds->SndA o (l.map (·.1)) ar->u D [some (.ref st),some (.ref sc),some (.int (k:Nat)),some (.int room),some (.ref w0),some (.int (a:Nat)),some (.int so),some (.str x),some (.ref pa),some (.ref pt),v1,v2,v3,v4] H')->(tSeq _ (tSeq _ u):TS) D _ H6 from ?key) _ _ ?rest
  case key =>
    intro u D tail
    refine (ex2q rfl ⟨st,2,(ex2q rfl ⟨S6,by lia,by decide,fun H7 r7 k7 S7 _ _=>?_⟩)⟩)
    have hpa7:=k7.k _ _ npa hpa6
    have hA7:=hA.keep (k7.tups S6)
    have kp7:=kp.trans k7
    refine ⟨rfl,(ex2q rfl ?_)⟩
    refine ite2 (fun _=>?_) (fun _=>?_)
    · refine (ex2q rfl ⟨.inl ⟨rfl,_,SqL.of hpa7⟩,pa,(ex2q rfl ⟨rfl,hpa7,?_⟩)⟩)
      have tp:Tups H7 (upd H7 pa (.lst (as.map V.ref).reverse)):=fun p xs g=>by rw [upd_ne (ne_of g hpa7 (by intro e; cases e))]; exact g
      exact tail _ as.reverse ar.rev (kp7.put fpa) (Sta.put S0 fpa kp7 (S7.mono (by lia))) (by rw [upd_same,List.map_reverse]) ((hA7.rev).keep tp) (by rw [List.length_reverse]; lia) (by rw [Arms.sz_rev]; lia) (by rw [Arms.dp_rev]; exact hdp) hbn.rev hsn.rev
    · exact tail _ as ar kp7 (S7.mono (by lia)) hpa7 hA7 (by lia) (by lia) hdp hbn hsn
  case rest =>
    intro H8 as ar k8 S8 hpa8 hA8 hl8 hz8 hd8 hb8 hs8
    refine (ex22q rfl rfl ⟨pa,(ex2q rfl (.inl ⟨SqL.of hpa8,fun p9 h9=>⟨by show 3<=sizeLine; decide,fun t h10=>?_⟩⟩))⟩)
    refine q _ t (.case x ar) ((k8.new h9).new h10) ((S8.new h9 _).new h10 _) (.case upd_same (old h10 upd_same) hl8 ((hA8.keep (.of (same_new h9 _))).keep (.of (same_new h10 _)))) ?_ ?_ (by rw [Bd.binds]; exact hb8) (by rw [SndB]; exact ⟨hx,hs8⟩)
    · rw [Bd.sz]
      lia
    · rw [Bd.dp]
      lia
end
end GN
namespace GN
open PySem L2 K11
section
variable {P:Program} {w:World} {K:PySem.W.Frag} {mg:Str->Option Value} {base:Heap} {f:Addr} {fd:FuncData}
theorem scBody:FnScope ["_law_state","_law_scope","_law_k","_law_room","_law_world_here","_law_at","_law_way","_law_deed_here","_law_sort","_law_name_here","_law_rooms_here","_law_first"] ["_law_state","_law_scope","_law_k","_law_room","_law_world_here","_law_at"] (defScope sBody):=⟨rfl,rfl,rfl,by decide +kernel,rfl,by decide +kernel,by decide +kernel⟩
theorem ok_body {n:Nat} (F:Fun K "_law_body" "_law_body" sBody f fd) (GD:Ca P w K mg base CX0 1 "_law_draw" ["_law_state","_law_many"] (spDraw K)) (GN':Ca P w K mg base CX0 1 "_law_name" ["_law_world_here","_law_k"] spNm) (GK:Ca P w K mg base CX0 2 "_law_pick" ["_law_state","_law_scope","_law_sort"] (spPick K)) (GR:Ca P w K mg base CX0 2 "_law_rooms" ["_law_state","_law_room","_law_many"] (spRooms K)) (GE:Ca P w K mg base CX0 5 "_law_deed" ["_law_state","_law_scope","_law_world_here","_law_at"] (spDeed K)) (GC:Ca P w K mg base CX0 (7 + 2 * n) "_law_case" ["_law_state","_law_scope","_law_k","_law_room","_law_world_here","_law_at"] (spCase K n)) (GB:Ca P w K mg base CX0 (6 + 2 * n) "_law_body" ["_law_state","_law_scope","_law_k","_law_room","_law_world_here","_law_at"] (spBody K n)):FnOk P w K mg base CX0 (6 + 2 * (n + 1)) f fd ["_law_state","_law_scope","_law_k","_law_room","_law_world_here","_law_at"] (spBody K (n + 1)):=by
  rw [show 6 + 2 * (n + 1)=(7 + 2 * n) + 1 by lia]
  refine F.by scBody (fun vs H Q E h=>?_) (fun cdv A outer s H vs Q E hr h=>?_)
  · obtain ⟨st,sc,w,k,a,B,room,l,o,rfl,_⟩:=h
    rfl
  obtain ⟨st,sc,w0,k,a,B,room,l,o,rfl,ha,S0,hB,hSc,hW,hme,hln,⟨hkn,hbl⟩,q⟩:=h
  have hr1:Room 1 _:=hr.mono (by lia)
  have hr2:Room 2 _:=hr.mono (by lia)
  have hr5:Room 5 _:=hr.mono (by lia)
  have hrB:Room (6 + 2 * n) _:=hr.mono (by lia)
  refine ⟨_,
    (jss_cons (js_set (i:=6) scBody.nd rfl (Or.inl rfl) (je_ca GD hr1 rfl pass0 (ja_c (jv 0) (ja_c je_int ja_nil))))
    (jss_cons (js_if (jW.pt (jw_and (jt_cmpR (jo_neE hr) (jv 1) (je_lst ja_nil) (nomark _)) (jw_and1 (jW.pt (jw_or (jt_cmpR jo_le (jv 3) je_int (nomark _)) (jw_or1 (jt_cmpR jo_eq (jv 6) je_int (nomark _))))))))
      (jss_one (js_ret (je_tup (ja_c je_str (ja_c (je_ca GK hr2 rfl pass0 (ja_c (jv 0) (ja_c (jv 1) (ja_c (je_ixK K (je_ix (jx_listK K) (je_ixLK K (jv 4)) (jv 5) (fun _ _=>rfl))) ja_nil)))) ja_nil))))) jss_nil)
    (jss_cons (js_if (jW.pt (jw_or (jt_cmpR (jo_eqE hr) (jv 1) (je_lst ja_nil) (nomark _)) (jw_or (jt_cmpR jo_le (jv 3) je_int (nomark _)) (jw_or1 (jt_cmpR jo_lt (jv 6) je_int (nomark _))))))
      (jss_cons (js_asg (je_ca GE hr5 rfl pass0 (ja_c (jv 0) (ja_c (jv 1) (ja_c (jv 4) (ja_c (jv 5) ja_nil))))) (jg_tupK K rfl (jgs_cons (jg_name (i:=7) scBody.nd rfl (Or.inl rfl)) (jgs_cons (jg_name (i:=8) scBody.nd rfl (Or.inl rfl)) jgs_nil))))
      (jss_cons (js_set (i:=9) scBody.nd rfl (Or.inl rfl) (je_ca GN' hr1 rfl pass0 (ja_c (jv 4) (ja_c (jv 2) ja_nil))))
      (jss_one (js_ret (je_tup (ja_c je_str (ja_c (jv 9) (ja_c (jv 7) (ja_c (je_ca GB hrB rfl pass0 (ja_c (jv 0) (ja_c (je_op jo_cat (jv 1) (je_lst (ja_c (je_tup (ja_c (jv 9) (ja_c (jv 8) ja_nil))) ja_nil))) (ja_c (je_op jo_add (jv 2) je_int) (ja_c (je_op jo_sub (jv 3) je_int) (ja_c (jv 4) (ja_c (jv 5) ja_nil))))))) ja_nil))))))))) jss_nil)
    (jss_cons (js_if (jt_cmpR jo_gt (jv 6) je_int (nomark _))
      (jss_one (js_ret (je_ca GC hr rfl pass0 (ja_c (jv 0) (ja_c (jv 1) (ja_c (jv 2) (ja_c (jv 3) (ja_c (jv 4) (ja_c (jv 5) ja_nil))))))))) jss_nil)
    (jss_cons (js_set (i:=10) scBody.nd rfl (Or.inl rfl) (je_ca GR hr2 rfl pass0 (ja_c (jv 0) (ja_c (jv 3) (ja_c je_int ja_nil)))))
    (jss_cons (js_set (i:=11) scBody.nd rfl (Or.inl rfl) (je_ca GB hrB rfl pass0 (ja_c (jv 0) (ja_c (jv 1) (ja_c (jv 2) (ja_c (je_ixLK K (jv 10)) (ja_c (jv 4) (ja_c (jv 5) ja_nil))))))))
    (jss_one (js_ret (je_tup (ja_c je_str (ja_c (je_ca GK hr2 rfl pass0 (ja_c (jv 0) (ja_c (jv 1) (ja_c je_int ja_nil)))) (ja_c (jv 11) (ja_c (je_ca GB hrB rfl pass0 (ja_c (jv 0) (ja_c (jv 1) (ja_c (jv 2) (ja_c (je_ixLK K (jv 10)) (ja_c (jv 4) (ja_c (jv 5) ja_nil))))))) ja_nil))))))))))))),?_⟩
  have sl:=line0
  have LM:LIM=4611686018427387904:=rfl
  have cb:CB (n + 1)=3 * CB n + 300:=rfl
  have sz:SZ (n + 1)=3 * SZ n + 40:=rfl
  rw [cb] at hB q
  rw [sz] at q
  obtain ⟨⟨ts,hsc,hT⟩,scn,scs⟩:=id hSc
  have htl:=hT.len
  have h0:l=[]↔ts=[]:=by
    rw [<- List.length_eq_zero_iff,<- List.length_eq_zero_iff,htl]
  refine (show ∀ (uG uL uR:TS) (D:Ends),D.rt=Q->(∀ (D':Ends) (H':Hp) (r:Int),D'.rt=Q->l≠[]->Kp st H H'->Sta K H' st (B + 1)->uG D' [some (.ref st),some (.ref sc),some (.int (k:Nat)),some (.int room),some (.ref w0),some (.int (a:Nat)),some (.int r),none,none,none,none,none] H')->(∀ (D':Ends) (H':Hp) (r:Int),D'.rt=Q->(l≠[]->1<=room)->Kp st H H'->Sta K H' st (B + 1)->uL D' [some (.ref st),some (.ref sc),some (.int (k:Nat)),some (.int room),some (.ref w0),some (.int (a:Nat)),some (.int r),none,none,none,none,none] H')->(∀ (H':Hp) (r:Int),l≠[]->1<=room->Kp st H H'->Sta K H' st (B + 1)->uR D [some (.ref st),some (.ref sc),some (.int (k:Nat)),some (.int room),some (.ref w0),some (.int (a:Nat)),some (.int r),none,none,none,none,none] H')->(tSeq _ (tSeq (tIfS _ uG tNext) (tSeq (tIfS _ uL tNext) uR)):TS) D _ H from ?key) _ _ _ _ rfl ?g ?l ?r
  case key =>
    intro uG uL uR D hD hG hL hR
    refine (ex2q rfl ⟨st,8,B,rfl,S0,by lia,by decide,fun H1 r k1 S1 r0 r1=>?_⟩)
    refine (ex2q rfl ⟨by show 0<=sizeLine; decide,fun pe h2=>?_⟩)
    have k2:=k1.new (o:=.lst []) h2
    have S2:=S1.new h2 (.lst [])
    have hsc2:=k2.k _ _ (S0.neR hsc) hsc
    refine ⟨_,_,_,rfl,rfl,SqL.of hsc2,SqL.of upd_same,(ex2q rfl ?_)⟩
    show if (if true=true then !(ts.map V.ref).isEmpty else (ts.map V.ref).isEmpty)=true then _ else _
    generalize upd H1 pe (.lst [])=H2 at *
    have test3:∀ (b:Bool),(ts.map V.ref).isEmpty=b->True:=fun _ _=>trivial
    by_cases he:ts=[]
    · have e0:(ts.map V.ref).isEmpty=true:=by rw [he]; rfl
      rw [e0]
      refine iteF ?_
      refine (ex2q rfl ⟨by show 0<=sizeLine; decide,fun pe3 h3=>?_⟩)
      have k3:=k2.new (o:=.lst []) h3
      have S3:=S2.new h3 (.lst [])
      refine ⟨_,_,_,rfl,rfl,SqL.of (old h3 hsc2),SqL.of upd_same,(ex2q rfl ?_)⟩
      show if (if false=true then !(ts.map V.ref).isEmpty else (ts.map V.ref).isEmpty)=true then _ else _
      rw [e0]
      exact iteT (hL _ _ r hD (fun e=>absurd (h0.mpr he) e) k3 S3)
    · have e0:(ts.map V.ref).isEmpty=false:=by
        cases ts with
        | nil=>exact absurd rfl he
        | cons _ _=>rfl
      have hl0:l≠[]:=fun e=>he (h0.mp e)
      rw [e0]
      refine iteT ?_
      refine (ex2q rfl (ex4q rfl rfl (ex2q rfl ?_)))
      refine ite2 (fun _=>hG _ _ r hD hl0 k2 S2) (fun c=>?_)
      rw [decide_eq_true_eq] at c
      have hroom:1<=room:=by lia
      refine (ex2q rfl ⟨rfl,(ex2q rfl ?_)⟩)
      refine ite2 (fun _=>hG _ _ r hD hl0 k2 S2) (fun _=>?_)
      refine (ex2q rfl ⟨by show 0<=sizeLine; decide,fun pe3 h3=>?_⟩)
      have k3:=k2.new (o:=.lst []) h3
      have S3:=S2.new h3 (.lst [])
      refine ⟨_,_,_,rfl,rfl,SqL.of (old h3 hsc2),SqL.of upd_same,(ex2q rfl ?_)⟩
      show if (if false=true then !(ts.map V.ref).isEmpty else (ts.map V.ref).isEmpty)=true then _ else _
      rw [e0]
      refine iteF ?_
      refine (ex2q rfl (ex4q rfl rfl (ex2q rfl ?_)))
      refine ite2 (fun _=>hL _ _ r hD (fun _=>hroom) k3 S3) (fun _=>?_)
      refine (ex2q rfl (ex4q rfl rfl (ex2q rfl ?_)))
      exact ite2 (fun _=>hL _ _ r hD (fun _=>hroom) k3 S3) (fun _=>hR _ r hl0 hroom k3 S3)
  case g =>
    intro D' H1 r hD hl0 k1 S1
    obtain ⟨⟨tl,dl,tt,ds,hw,htl1,hdl,hTt,hTd⟩,wok⟩:=hW.kp S0 k1
    have dlen:=wok.dlen
    have hdl2:=hTd.len
    obtain ⟨t,ht⟩:∃ t,ds[a]?=some t:=⟨_,List.getElem?_eq_getElem (by lia)⟩
    obtain ⟨z,ss,g,sq,e1,e2,e3⟩:=hTd.get ht
    have htr:(ds.map V.ref)[a]?=some (.ref t):=by rw [List.getElem?_map,ht]; rfl
    refine (ex22q rfl rfl (ex2q rfl (ixL hw (atI_nat (j:=3) rfl) (ex2q rfl ⟨dl,_,_,_,rfl,rfl,SqL.of hdl,atI_nat htr,ixT e2 (atI_nat (j:=2) rfl) ⟨st,sc,g,_,l,rfl,S1,by lia,hSc.kp S0 k1,hl0,fun H2 x k2 S2 hx=>⟨by show 2<=sizeLine; decide,fun t1 h3=>?_⟩⟩⟩))))
    rw [hD]
    exact q _ t1 (.give x) ((k1.trans k2).new h3) ((S2.mono (by lia)).new h3 _) (.give upd_same) (by rw [Bd.sz]; lia) (by rw [Bd.dp]; lia) (by rw [Bd.binds]; exact Bnm.nil) (by rw [SndB]; exact hx)
  case l =>
    intro D' H1 r hD hroom k1 S1
    refine (ex22q rfl rfl (ex22q rfl rfl ⟨st,sc,w0,_,l,o,a,rfl,ha,S1,by lia,hSc.kp S0 k1,hW.kp S0 k1,fun H2 p p' d g k2 S2 hp hd g0 g1 hcal hu=>?_⟩))
    refine ⟨_,_,rfl,SqT.of hp,rfl,_,_,rfl,_,_,rfl,rfl,?_⟩
    have k12:=k1.trans k2
    obtain ⟨⟨tl,dl,tt,ds,hw,htl1,hdl,hTt,hTd⟩,wok⟩:=hW.kp S0 k12
    refine (ex22q rfl rfl ⟨w0,o.z,o.b,_,k,rfl,hw,wok.z,?_⟩)
    generalize hy:nm o.z o.b k=y
    refine (ex22q rfl rfl (ex22q rfl rfl (ex22q rfl rfl ⟨by show 2<=sizeLine; decide,fun t1 h3=>⟨by show 1<=sizeLine; decide,fun pl h4=>?_⟩⟩)))
    have k3:=k12.new (o:=.tup [.str y,.int g]) h3
    have k4:=k3.new (o:=.lst [.ref t1]) h4
    refine ⟨sc,pl,(ex4q rfl rfl ⟨k4.k _ _ (S0.neR hsc) hsc,upd_same,by rw [List.length_map]; show _ + 1<=_; lia,fun pm h5=>?_⟩)⟩
    have em:ts.map V.ref ++ [V.ref t1]=(ts ++ [t1]).map V.ref:=by rw [List.map_append]; rfl
    rw [em]
    have k5:=k4.new (o:=.lst ((ts ++ [t1]).map V.ref)) h5
    have S5:=((S2.new h3 (.tup [.str y,.int g])).new h4 (.lst [.ref t1])).new h5 (.lst ((ts ++ [t1]).map V.ref))
    have hd5:=(((hd.keep (.of (same_new h3 (.tup [.str y,.int g])))).keep (.of (same_new h4 (.lst [.ref t1])))).keep (.of (same_new h5 (.lst ((ts ++ [t1]).map V.ref)))))
    have ht1:=old (o:=.lst ((ts ++ [t1]).map V.ref)) h5 (old (o:=.lst [.ref t1]) h4 (upd_same (H:=H2) (a:=t1) (o:=.tup [.str y,.int g])))
    have hpm:=upd_same (H:=upd (upd H2 t1 (.tup [.str y,.int g])) pl (.lst [.ref t1])) (a:=pm) (o:=.lst ((ts ++ [t1]).map V.ref))
    generalize upd (upd (upd H2 t1 (.tup [.str y,.int g])) pl (.lst [.ref t1])) pm (.lst ((ts ++ [t1]).map V.ref))=H5 at *
    have sc5:Sc H5 (l ++ [(y,g)]) pm:=by
      refine ⟨⟨ts ++ [t1],hpm,(hT.keep (k5.tups S0)).app (.cons ht1 .nil)⟩,?_,fun x hx=>?_⟩
      · rw [List.length_append,List.length_singleton]
        lia
      · rcases List.mem_append.mp hx with hx | hx
        · exact scs x hx
        · rw [List.mem_singleton.mp hx]
          exact ⟨g0,g1⟩
    refine (ex2q rfl (ex4q rfl rfl (ex2q rfl (ex4q rfl rfl (ex22q rfl rfl ⟨st,pm,w0,k + 1,a,_,room - 1,l ++ [(y,g)],o,rfl,ha,S5,by lia,sc5,hW.kp S0 k5,?_,?_,⟨by lia,by rw [List.map_append]; exact nm_up1 hbl hy⟩,fun H6 pb b k6 S6 hb hbz hbd hbb hsb=>⟨by show 4<=sizeLine; decide,fun t2 h7=>?_⟩⟩)))))
    · rw [if_neg (by simp)]
      by_cases e:l=[]
      · rw [if_pos e] at hme
        lia
      · rw [if_neg e] at hme
        have:=hroom e
        lia
    · rw [List.length_append,List.length_singleton]
      lia
    rw [hD]
    exact q _ t2 (.lt y d b) ((k5.trans k6).new h7) ((S6.mono (by lia)).new h7 _) (.lt upd_same ((hd5.keep (k6.tups S5)).keep (.of (same_new h7 _))) (hb.keep (.of (same_new h7 _)))) (by rw [Bd.sz]; lia) (by rw [Bd.dp]; lia) (by rw [Bd.binds]; exact fun x hx=>(List.mem_cons.mp hx).elim (fun e=>⟨k,Nat.le_refl _,by lia,by rw [e,hy]⟩) (hbb.mono (Nat.le_succ _) x)) (by rw [SndB]; rw [List.map_append] at hsb; exact ⟨⟨hu,nm_new1 (by lia) hbl hy,hcal⟩,hsb⟩)
  case r =>
    intro H1 r hl0 hroom k1 S1
    rw [if_neg hl0] at hme
    refine (ex2q rfl (ex4q rfl rfl (ex2q rfl ?_)))
    refine ite2 (fun _=>?_) (fun _=>?_)
    · refine (ex22q rfl rfl (ex22q rfl rfl (ex22q rfl rfl ⟨st,sc,w0,k,a,_,room,l,o,rfl,ha,S1,by lia,hSc.kp S0 k1,hl0,hW.kp S0 k1,hroom,by lia,by lia,⟨by lia,hbl⟩,fun H2 p b k2 S2 hb hbz hbd hbb hsb=>?_⟩)))
      exact q _ p b (k1.trans k2) (S2.mono (by lia)) hb (by lia) hbd hbb hsb
    refine (ex22q rfl rfl ⟨st,room,2,(ex2q rfl ⟨hroom,by decide,by decide,S1,by lia,fun H2 pr rs k2 S2 f2 hpr hrl hrs=>?_⟩)⟩)
    have k12:=k1.trans k2
    obtain ⟨r1,r2,rfl⟩:∃ r1 r2,rs=[r1,r2]:=by
      match rs,hrl with
      | [x,y],_=>exact ⟨x,y,rfl⟩
    have hr1':=hrs r1 (by simp)
    have hr2':=hrs r2 (by simp)
    refine (ex22q rfl rfl (ex22q rfl rfl (ixL hpr (atI_nat (j:=0) rfl) (ex22q rfl rfl ⟨st,sc,w0,k,a,_,r1,l,o,rfl,ha,S2,by lia,hSc.kp S0 k12,hW.kp S0 k12,?_,by lia,⟨by lia,hbl⟩,fun H3 p1 b1 k3 S3 hb1 hz1 hd1 hn1 hs1=>?_⟩))))
    · rw [if_neg hl0]
      lia
    have k13:=k12.trans k3
    have hpr3:=k3.k _ _ (S2.neI hpr) hpr
    refine (ex22q rfl rfl ⟨st,sc,0,_,l,rfl,S3,by lia,hSc.kp S0 k13,hl0,fun H4 x k4 S4 hx=>?_⟩)
    have k14:=k13.trans k4
    refine (ex22q rfl rfl (ex22q rfl rfl (ex2q rfl (ixL (k4.k _ _ (S3.neI hpr3) hpr3) (atI_nat (j:=1) rfl) (ex22q rfl rfl ⟨st,sc,w0,k,a,_,r2,l,o,rfl,ha,S4,by lia,hSc.kp S0 k14,hW.kp S0 k14,?_,by lia,⟨by lia,hbl⟩,fun H5 p2 b2 k5 S5 hb2 hz2 hd2 hn2 hs2=>⟨by show 4<=sizeLine; decide,fun t2 h7=>?_⟩⟩)))))
    · rw [if_neg hl0]
      lia
    exact q _ t2 (.iff x b1 b2) ((k14.trans k5).new h7) ((S5.mono (by lia)).new h7 _) (.iff upd_same (((hb1.keep (k4.tups S3)).keep (k5.tups S4)).keep (.of (same_new h7 _))) (hb2.keep (.of (same_new h7 _)))) (by rw [Bd.sz]; lia) (by rw [Bd.dp]; lia) (by rw [Bd.binds]; exact hn1.app hn2) (by rw [SndB]; exact ⟨hx,hs1,hs2⟩)
end
end GN
namespace GN
open PySem L2 K11
structure Df where
  z:Str
  ns:List Str
  b:Bd
structure IsF (H:Hp) (d:Df) (p:Addr):Prop where
  ex:∃ q pb,H p=some (.tup [.str d.z,.ref q,.ref pb])/\H q=some (.tup (d.ns.map V.str))/\IsB H d.b pb
theorem IsF.keep {H H':Hp} {d:Df} {p:Addr} (h:IsF H d p) (t:Tups H H'):IsF H' d p:=let ⟨q,pb,h1,h2,h3⟩:=h.ex; ⟨q,pb,t _ _ h1,t _ _ h2,h3.keep t⟩
inductive IsFs (H:Hp):List Df->List Addr->Prop
  | nil:IsFs H [] []
  | cons {d:Df} {p:Addr} {ds:List Df} {ps:List Addr}:IsF H d p->IsFs H ds ps->IsFs H (d :: ds) (p :: ps)
theorem IsFs.keep {H H':Hp} {d:List Df} {p:List Addr} (h:IsFs H d p) (t:Tups H H'):IsFs H' d p:=by
  induction h with
  | nil=>exact .nil
  | cons a _ ih=>exact .cons (a.keep t) ih
theorem IsFs.app {H:Hp} {a b:List Df} {p q:List Addr} (h:IsFs H a p) (g:IsFs H b q):IsFs H (a ++ b) (p ++ q):=by
  induction h with
  | nil=>exact g
  | cons x _ ih=>exact .cons x ih
theorem IsFs.len {H:Hp} {l:List Df} {ts:List Addr} (h:IsFs H l ts):l.length=ts.length:=by
  induction h with
  | nil=>rfl
  | cons _ _ ih=>rw [List.length_cons,List.length_cons,ih]
theorem IsFs.get {H:Hp}:∀ {l:List Df} {ts:List Addr} {i:Nat} {t:Addr},IsFs H l ts->ts[i]?=some t->∃ d,l[i]?=some d/\IsF H d t
  | _,_,_,_,.nil,e=>by simp at e
  | _,_,0,_,.cons a _,e=>by
    simp at e
    subst e
    exact (ex2q rfl (a))
  | _,_,i + 1,_,.cons _ b,e=>by
    obtain ⟨d,h1,h2⟩:=IsFs.get (i:=i) b (by simpa using e)
    exact ⟨d,by simpa using h1,h2⟩
def FOk (n:Nat) (d:Df):Prop:=d.ns.length<=3/\d.b.sz<=SZ n/\d.b.dp<=n
structure FNm (o:Wo) (d:Df):Prop where
  n:d.ns=(List.range d.ns.length).map fun i=>nm o.z o.b i
  b:Bnm o d.ns.length 900 d.b.binds
  sn:SndB o d.ns d.b
  s:∃ s∈o.defs,s.1=d.z/\s.2.1.length=d.ns.length
def spDef (K:PySem.W.Frag) (n:Nat):Sp:=fun vs H Q _=>∃ (st w:Addr) (a B:Nat) (room:Int) (o:Wo),vs=[.ref st,.ref w,.int (a:Nat),.int room]/\a < 3/\Sta K H st B/\B + CB n < LIM/\IsW H o w/\room.toNat + 2<=n/\10 * n<=800/\∀ (H':Hp) (p:Addr) (d:Df),Kp st H H'->Sta K H' st (B + CB n)->IsF H' d p->FOk n d/\FNm o d->d.z=nm o.z o.b (2 - a)->Q (.ref p) H'
def kd (o:Wo):List (Str × Int):=o.tags.map fun t=>(t.1,((t.2.1.length:Nat):Int))
def spKinds:Sp:=fun vs H Q _=>∃ (w:Addr) (o:Wo),vs=[.ref w]/\IsW H o w/\∀ (H':Hp) (p p1 p2:Addr) (t1 t2:List Addr),Same H H'->H' p=some (.tup [.ref p1,.ref p2])->H' p1=some (.tup (t1.map V.ref))->H' p2=some (.tup (t2.map V.ref))->Tps H' ((kd o).take 3) t1->Tps H' ((kd o).drop 3) t2->Q (.ref p) H'
def spProgram (K:PySem.W.Frag) (n:Nat):Sp:=fun vs H Q _=>∃ (st w:Addr) (B:Nat) (room:Int) (o:Wo),vs=[.ref st,.ref w,.int room]/\Sta K H st B/\B + 3 * CB n < LIM/\IsW H o w/\room.toNat + 2<=n/\10 * n<=800/\∀ (H':Hp) (p pk pd p1 p2:Addr) (t1 t2 ds:List Addr) (dfs:List Df),Kp st H H'->Sta K H' st (B + 3 * CB n)->H' p=some (.tup [.ref pk,.ref pd])->H' pk=some (.tup [.ref p1,.ref p2])->H' p1=some (.tup (t1.map V.ref))->H' p2=some (.tup (t2.map V.ref))->Tps H' ((kd o).take 3) t1->Tps H' ((kd o).drop 3) t2->H' pd=some (.tup (ds.map V.ref))->IsFs H' dfs ds->ds.length=3->(∀ d∈dfs,FOk n d/\FNm o d)->dfs.map (·.z)=(List.range 3).map (fun k=>nm o.z o.b (2 - k))->Q (.ref p) H'
theorem Tps.take {H:Hp} {l:List (Str × Int)} {ts:List Addr} (h:Tps H l ts) (n:Nat):Tps H (l.take n) (ts.take n):=by
  induction h generalizing n with
  | nil=>rw [List.take_nil,List.take_nil]; exact .nil
  | cons a _ ih =>
    cases n with
    | zero=>exact .nil
    | succ n=>rw [List.take_succ_cons,List.take_succ_cons]; exact .cons a (ih n)
theorem Tps.drop {H:Hp} {l:List (Str × Int)} {ts:List Addr} (h:Tps H l ts) (n:Nat):Tps H (l.drop n) (ts.drop n):=by
  induction h generalizing n with
  | nil=>rw [List.drop_nil,List.drop_nil]; exact .nil
  | cons a b ih =>
    cases n with
    | zero=>exact .cons a b
    | succ n=>rw [List.drop_succ_cons,List.drop_succ_cons]; exact ih n
theorem cut_drop {α:Type} {f:α->V} {s:List α} {m:Int} (h:0<=m):cutV (s.map f) (some m) none=(s.drop m.toNat).map f:=by
  unfold cutV
  have c2:HT.sIx (s.map f).length (s.map f).length none=(s.map f).length:=rfl
  have c1:HT.sIx (s.map f).length 0 (some m)=min m.toNat (s.map f).length:=by
    show (if m < 0 then (m + ((s.map f).length:Nat)).toNat else min m.toNat (s.map f).length)=_
    rw [if_neg (by lia)]
  rw [c1,c2,List.map_drop]
  rcases Nat.le_total m.toNat (s.map f).length with c | c
  · rw [Nat.min_eq_left c]
    exact List.take_of_length_le (by simp)
  · rw [Nat.min_eq_right c,List.drop_of_length_le (Nat.le_refl _),List.drop_of_length_le c]
    exact List.take_nil
section
variable {P:Program} {w:World} {K:PySem.W.Frag} {mg:Str->Option Value} {base:Heap} {f:Addr} {fd:FuncData}
theorem ok_body0 (F:Fun K "_law_body" "_law_body" sBody f fd):FnOk P w K mg base CX0 (6 + 2 * 0) f fd ["_law_state","_law_scope","_law_k","_law_room","_law_world_here","_law_at"] (spBody K 0):=by
  refine F.by scBody (fun vs H Q E h=>?_) (fun cdv A outer s H vs Q E hr h=>?_)
  · obtain ⟨st,sc,w,k,a,B,room,l,o,rfl,_⟩:=h
    rfl
  · obtain ⟨st,sc,w,k,a,B,room,l,o,rfl,_,_,_,_,_,hme,_⟩:=h
    lia
theorem scDef:FnScope ["_law_state","_law_world_here","_law_at","_law_room","_law_name_here","_law_sorts_here","_law_gives","_law_params"] ["_law_state","_law_world_here","_law_at","_law_room"] (defScope sDef):=⟨rfl,rfl,rfl,by decide +kernel,rfl,by decide +kernel,by decide +kernel⟩
theorem ndDef:(["_law_state","_law_world_here","_law_at","_law_room","_law_name_here","_law_sorts_here","_law_gives","_law_params","_law_k"]:List Str).Nodup:=by decide +kernel
theorem ok_def {n:Nat} (F:Fun K "_law_def" "_law_def" sDef f fd) (GN':Ca P w K mg base CX0 1 "_law_name" ["_law_world_here","_law_k"] spNm) (GB:Ca P w K mg base CX0 (6 + 2 * n) "_law_body" ["_law_state","_law_scope","_law_k","_law_room","_law_world_here","_law_at"] (spBody K n)) (m_len:mg "len"=none) (m_range:mg "range"=none) (m_zip:mg "zip"=none) (m_list:mg "list"=none) (m_tuple:mg "tuple"=none):FnOk P w K mg base CX0 (7 + 2 * n) f fd ["_law_state","_law_world_here","_law_at","_law_room"] (spDef K n):=by
  rw [show 7 + 2 * n=(6 + 2 * n) + 1 by lia]
  refine F.by scDef (fun vs H Q E h=>?_) (fun cdv A outer s H vs Q E hr h=>?_)
  · obtain ⟨st,w,a,B,room,o,rfl,_⟩:=h
    rfl
  obtain ⟨st,w0,a,B,room,o,rfl,ha,S0,hB,hW,hroom,hn,q⟩:=h
  have hr1:Room 1 _:=hr.mono (by lia)
  refine ⟨_,
    (jss_cons (js_asg (je_ix (jx_listK K) (je_ixLK K (jv 1)) (jv 2) (fun _ _=>rfl)) (jg_tupK K rfl (jgs_cons (jg_name (i:=4) scDef.nd rfl (Or.inl rfl)) (jgs_cons (jg_name (i:=5) scDef.nd rfl (Or.inl rfl)) (jgs_cons (jg_name (i:=6) scDef.nd rfl (Or.inl rfl)) jgs_nil)))))
    (jss_cons (js_comp ["_law_k"] (i:=7) scDef.nd rfl (Or.inl rfl) rfl (ji_range1 rfl m_range (ja_c (je_fnB (jc_len_seqK K) rfl m_len PySem.boot_len (ja_c (jv 5) ja_nil)) ja_nil)) (fun _ _ _ _ _=>(jg_name (i:=8) ndDef rfl (Or.inl rfl))) (fun _ _ _ _ _=>jts_nil) (fun _ _ _ _ _=>(je_ca GN' hr1 rfl pass0 (ja_c (jv 1) (ja_c (jv 8) ja_nil)))))
    (jss_one (js_ret (je_tup (ja_c (jv 4) (ja_c (je_fnTy (jc_tuple_ofK K) rfl m_tuple PyProof.Rows.boot_tuple (ja_c (jv 7) ja_nil)) (ja_c (je_ca GB hr rfl pass0 (ja_c (jv 0) (ja_c (je_zipL rfl rfl m_list rfl m_zip (ja_c (jv 7) (ja_c (jv 5) ja_nil))) (ja_c (je_fnB (jc_len_seqK K) rfl m_len PySem.boot_len (ja_c (jv 5) ja_nil)) (ja_c (jv 3) (ja_c (jv 1) (ja_c (jv 2) ja_nil))))))) ja_nil)))))))),?_⟩
  have sl:=line0
  have LM:LIM=4611686018427387904:=rfl
  obtain ⟨⟨tl,dl,tt,ds,hw,htl1,hdl,hTt,hTd⟩,wok⟩:=id hW
  have dlen:=wok.dlen
  have hdl2:=hTd.len
  obtain ⟨t,ht⟩:∃ t,ds[a]?=some t:=⟨_,List.getElem?_eq_getElem (by lia)⟩
  obtain ⟨z,ss,g,sq,e1,e2,e3⟩:=hTd.get ht
  have wd:ss.length<=3/\So ss/\0<=g/\g<=2:=wok.ds _ (List.mem_of_getElem? e1)
  have htr:(ds.map V.ref)[a]?=some (.ref t):=by rw [List.getElem?_map,ht]; rfl
  refine (ex2q rfl (ixL hw (atI_nat (j:=3) rfl) (ex2q rfl ⟨dl,_,_,_,rfl,rfl,SqL.of hdl,atI_nat htr,_,_,rfl,SqT.of e2,rfl,_,_,rfl,_,_,rfl,_,_,rfl,rfl,?_⟩)))
  refine (ex2q rfl ⟨_,_,rfl,.inl (SqL.of e3),(ex2q rfl ⟨by rw [List.length_map]; lia,by rw [List.length_map]; lia,lc_range (n:=(ss.map V.int).length) (fun j τ ys H'=>H=H'/\(∃ v,τ=[some (.ref st),some (.ref w0),some (.int (a:Nat)),some (.int room),some (.str z),some (.ref sq),some (.int g),none,v])/\ys=((List.range j).map fun i=>nm o.z o.b i).map V.str) ⟨rfl,⟨none,rfl⟩,rfl⟩ ?_ ?_⟩)⟩)
  · rintro j τ ys H7 hj ⟨rfl,⟨v,rfl⟩,rfl⟩
    rw [List.length_map] at hj
    refine (ex22q rfl rfl ⟨w0,o.z,o.b,_,j,(by show [V.ref w0,V.int (0 + (j:Nat))]=_; rw [Int.zero_add]),hw,wok.z,by rw [List.length_map,List.length_map,List.length_range]; lia,rfl,⟨_,rfl⟩,?_⟩)
    rw [List.range_succ,List.map_append,List.map_append]
    rfl
  rintro τ ys H7 ⟨rfl,_,rfl⟩ pn hpn
  rw [List.length_map]
  have nl:((List.range ss.length).map fun i=>nm o.z o.b i).length=ss.length:=by rw [List.length_map,List.length_range]
  generalize eNS:(List.range ss.length).map (fun i=>nm o.z o.b i)=NS at *
  refine (ex22q rfl rfl ⟨pn,(ex2q rfl (.inl ⟨SqL.of upd_same,fun pu hpu=>?_⟩))⟩)
  have s2:Same H (upd (upd H pn (.lst (NS.map V.str))) pu (.tup (NS.map V.str))):=(same_new hpn _).new hpu
  have hpn2:=old (o:=.tup (NS.map V.str)) hpu (upd_same (H:=H) (a:=pn) (o:=.lst (NS.map V.str)))
  have hpu2:=upd_same (H:=upd H pn (.lst (NS.map V.str))) (a:=pu) (o:=.tup (NS.map V.str))
  generalize upd (upd H pn (.lst (NS.map V.str))) pu (.tup (NS.map V.str))=H2 at *
  refine (ex22q rfl rfl (ex2q rfl ⟨pn,sq,_,_,rfl,.inl (SqL.of hpn2),.inl (SqL.of (s2 _ _ e3)),fun H3 pz zs s3 f3 hpz hzl _ _ hpair=>?_⟩))
  have tz:=tps_zip hzl hpair
  have s13:=s2.trans s3
  have sc3:Sc H3 (NS.zip ss) pz:=by
    refine ⟨⟨zs,hpz,tz⟩,?_,fun p hp=>?_⟩
    · rw [List.length_zip]
      lia
    · have:=wd.2.1 p.2 (List.of_mem_zip hp).2
      lia
  refine (ex2q rfl ⟨_,_,rfl,.inl (SqL.of (s13 _ _ e3)),(ex22q rfl rfl (ex2q rfl ⟨st,pz,w0,(ss.map V.int).length,a,B,room,NS.zip ss,o,rfl,ha,S0.same s13,hB,sc3,hW.same s13,?_,?_,⟨by rw [List.length_map]; lia,(by rw [List.length_map,List.map_fst_zip (by lia)]; intro x hx; rw [<- eNS] at hx; obtain ⟨j,hj,rfl⟩:=List.mem_map.mp hx; exact ⟨j,Nat.zero_le _,List.mem_range.mp hj,rfl⟩)⟩,fun H4 pb b k4 S4 hb hbz hbd hbb hsb=>⟨by show 3<=sizeLine; decide,fun t4 h5=>?_⟩⟩))⟩)
  · split <;> lia
  · rw [List.length_zip]
    lia
  have ez:z=nm o.z o.b (2 - a):=by
    have h1:(o.defs.map (·.1))[a]?=some z:=by rw [List.getElem?_map,e1]; rfl
    rw [wok.dn,List.getElem?_map,List.getElem?_range ha] at h1
    exact (Option.some.inj h1).symm
  refine q _ t4 ⟨z,NS,b⟩ (((Kp.of s13).trans k4).new h5) (S4.new h5 _) ⟨pu,pb,upd_same,old h5 (k4.tups (S0.same s13) _ _ (s3 _ _ hpu2)),hb.keep (.of (same_new h5 _))⟩ ⟨⟨by show NS.length<=3; lia,hbz,hbd⟩,⟨by show NS=(List.range NS.length).map _; rw [nl]; exact eNS.symm,by show Bnm o NS.length 900 b.binds; rw [List.length_map] at hbb; rw [nl]; exact hbb,(by show SndB o NS b; rw [List.map_fst_zip (by lia)] at hsb; exact hsb),⟨_,List.mem_of_getElem? e1,rfl,nl.symm⟩⟩⟩ ez
theorem scKinds:FnScope ["_law_world_here","_law_some"] ["_law_world_here"] (defScope sKinds):=⟨rfl,rfl,rfl,by decide +kernel,rfl,by decide +kernel,by decide +kernel⟩
theorem ndKinds:(["_law_world_here","_law_some","_law_tag","_law_sorts_here","_law_kind"]:List Str).Nodup:=by decide +kernel
theorem ok_kinds (F:Fun K "_law_kinds" "_law_kinds" sKinds f fd) (m_len:mg "len"=none) (m_tuple:mg "tuple"=none):FnOk P w K mg base CX0 1 f fd ["_law_world_here"] spKinds:=by
  refine F.by scKinds (fun vs H Q E h=>?_) (fun cdv A outer s H vs Q E hr h=>?_)
  · obtain ⟨w,o,rfl,_⟩:=h
    rfl
  obtain ⟨w0,o,rfl,hW,q⟩:=h
  refine ⟨_,
    (jss_cons (js_comp ["_law_tag","_law_sorts_here","_law_kind"] (i:=1) scKinds.nd rfl (Or.inl rfl) rfl (ji_listK K (je_ixLK K (jv 0))) (fun _ _ _ _ _=>(jg_tupK K (n:=3) rfl (jgs_cons (jg_name (i:=2) ndKinds rfl (Or.inl rfl)) (jgs_cons (jg_name (i:=3) ndKinds rfl (Or.inl rfl)) (jgs_cons (jg_name (i:=4) ndKinds rfl (Or.inl rfl)) jgs_nil))))) (fun _ _ _ _ _=>jts_nil) (fun _ _ _ _ _=>(je_tup (ja_c (jv 2) (ja_c (je_fnB (jc_len_seqK K) rfl m_len PySem.boot_len (ja_c (jv 3) ja_nil)) ja_nil)))))
    (jss_one (js_ret (je_tup (ja_c (je_fnTy (jc_tuple_ofK K) rfl m_tuple PyProof.Rows.boot_tuple (ja_c (je_slice (jl_listK K) (jv 1) jo_none (jo_some je_int)) ja_nil)) (ja_c (je_fnTy (jc_tuple_ofK K) rfl m_tuple PyProof.Rows.boot_tuple (ja_c (je_slice (jl_listK K) (jv 1) (jo_some je_int) jo_none) ja_nil)) ja_nil)))))),?_⟩
  have sl:=line0
  obtain ⟨⟨tl,dl,tt,ds,hw,htl1,hdl,hTt,hTd⟩,wok⟩:=id hW
  have tlen:=wok.tlen
  have htt:=hTt.len
  refine (ex2q rfl (ixL hw (atI_nat (j:=2) rfl) ⟨tl,rfl,⟨_,SqL.of htl1⟩,lc_list (xs:=tt.map V.ref) (fun j τ ys H'=>Same H H'/\(∃ u v x,τ=[some (.ref w0),none,u,v,x])/\∃ ps:List Addr,ys=ps.map V.ref/\Tps H' ((kd o).take j) ps) ⟨Same.refl _,⟨none,none,none,rfl⟩,[],rfl,.nil⟩ (fun j τ ys H' _ h=>SqL.of (h.1 _ _ htl1)) ?_ ?_⟩))
  · rintro j v τ ys H1 hv ⟨s1,⟨u,v',x,rfl⟩,ps,rfl,hp⟩
    rw [List.getElem?_map] at hv
    obtain ⟨t,ht,rfl⟩:=Option.map_eq_some_iff.mp hv
    obtain ⟨z,ss,g,sq,e1,e2,e3⟩:=hTt.get ht
    have hj:j < o.tags.length:=(List.getElem?_eq_some_iff.mp e1).1
    have hpl:=hp.len
    rw [List.length_take] at hpl
    refine ⟨_,_,rfl,SqT.of (s1 _ _ e2),rfl,_,_,rfl,_,_,rfl,_,_,rfl,rfl,(ex22q rfl rfl ⟨_,_,rfl,.inl (SqL.of (s1 _ _ e3)),by show 2<=sizeLine; decide,fun t1 h2=>⟨?_,s1.new h2,⟨_,_,_,rfl⟩,ps ++ [t1],by simp,?_⟩⟩)⟩
    · rw [List.length_map]
      lia
    · have ek:(kd o)[j]?=some (z,((ss.length:Nat):Int)):=by
        unfold kd
        rw [List.getElem?_map,e1]
        rfl
      rw [List.take_add_one,ek]
      refine (hp.keep (.of (same_new h2 _))).app (.cons ?_ .nil)
      rw [upd_same,List.length_map]
  rintro τ ys H1 ⟨s1,_,ps,rfl,hp⟩ p1 h1
  have kl:(kd o).length=4:=by unfold kd; rw [List.length_map]; exact tlen
  rw [List.length_map,<- htt,List.take_of_length_le (by lia)] at hp
  refine (ex22q rfl rfl ⟨_,_,rfl,SqL.of upd_same,fun pa ha=>⟨pa,(ex2q rfl (.inl ⟨SqL.of upd_same,fun pb hb=>?_⟩))⟩⟩)
  refine (ex22q rfl rfl ⟨_,_,rfl,SqL.of (old hb (old ha upd_same)),fun pc hc=>⟨pc,(ex2q rfl (.inl ⟨SqL.of upd_same,fun pe he=>⟨by show 2<=sizeLine; decide,fun pf hf=>?_⟩⟩))⟩⟩)
  rw [cut_take (by decide),cut_drop (by decide)] at *
  have s2:Same H1 _:=(((((same_new h1 (.lst (ps.map V.ref))).new (o:=.lst ((ps.take 3).map V.ref)) ha).new (o:=.tup ((ps.take 3).map V.ref)) hb).new (o:=.lst ((ps.drop 3).map V.ref)) hc).new (o:=.tup ((ps.drop 3).map V.ref)) he).new (o:=.tup [.ref pb,.ref pe]) hf
  exact q _ pf pb pe (ps.take 3) (ps.drop 3) (s1.trans s2) upd_same (old hf (old he (old hc upd_same))) (old hf upd_same) ((hp.keep (.of s2)).take 3) ((hp.keep (.of s2)).drop 3)
theorem scProgram:FnScope ["_law_state","_law_world_here","_law_room"] ["_law_state","_law_world_here","_law_room"] (defScope sProgram):=⟨rfl,rfl,rfl,by decide +kernel,rfl,by decide +kernel,by decide +kernel⟩
theorem ndProgram:(["_law_state","_law_world_here","_law_room","_law_at"]:List Str).Nodup:=by decide +kernel
theorem ok_program {n:Nat} (F:Fun K "_law_program" "_law_program" sProgram f fd) (GKs:Ca P w K mg base CX0 1 "_law_kinds" ["_law_world_here"] spKinds) (GF:Ca P w K mg base CX0 (7 + 2 * n) "_law_def" ["_law_state","_law_world_here","_law_at","_law_room"] (spDef K n)) (m_range:mg "range"=none) (m_tuple:mg "tuple"=none):FnOk P w K mg base CX0 (8 + 2 * n) f fd ["_law_state","_law_world_here","_law_room"] (spProgram K n):=by
  rw [show 8 + 2 * n=(7 + 2 * n) + 1 by lia]
  refine F.by scProgram (fun vs H Q E h=>?_) (fun cdv A outer s H vs Q E hr h=>?_)
  · obtain ⟨st,w,B,room,o,rfl,_⟩:=h
    rfl
  obtain ⟨st,w0,B,room,o,rfl,S0,hB,hW,hroom,hn,q⟩:=h
  have hr1:Room 1 _:=hr.mono (by lia)
  refine ⟨_,
    (jss_one (js_ret (je_tup (ja_c (je_ca GKs hr1 rfl pass0 (ja_c (jv 1) ja_nil)) (ja_c (je_fnTy (jc_tuple_ofK K) rfl m_tuple PyProof.Rows.boot_tuple (ja_c (je_comp ["_law_at"] rfl (ji_range1 rfl m_range (ja_c je_int ja_nil)) (fun _ _ _ _ _=>(jg_name (i:=3) ndProgram rfl (Or.inl rfl))) (fun _ _ _ _ _=>jts_nil) (fun _ _ _ _ _=>(je_ca GF hr rfl pass0 (ja_c (jv 0) (ja_c (jv 1) (ja_c (jv 3) (ja_c (jv 2) ja_nil))))))) ja_nil)) ja_nil))))),?_⟩
  have sl:=line0
  have LM:LIM=4611686018427387904:=rfl
  refine (ex2q rfl ⟨w0,o,rfl,hW,fun H1 pk p1 p2 t1 t2 s1 hpk hp1 hp2 hk1 hk2=>?_⟩)
  refine (ex2q rfl ⟨by decide,by decide,lc_range (n:=3) (fun i τ ys H'=>Kp st H1 H'/\Sta K H' st (B + i * CB n)/\(∃ x,τ=[some (.ref st),some (.ref w0),some (.int room),x])/\∃ (ps:List Addr) (dfs:List Df),ys=ps.map V.ref/\ps.length=i/\IsFs H' dfs ps/\(∀ d∈dfs,FOk n d/\FNm o d)/\dfs.map (·.z)=(List.range i).map (fun k=>nm o.z o.b (2 - k))) ⟨Kp.refl,(S0.same s1).mono (by lia),⟨none,rfl⟩,[],[],rfl,rfl,.nil,(fun d hd=>by cases hd),rfl⟩ ?_ ?_⟩)
  · rintro i τ ys H2 hi ⟨k2,S2,⟨x,rfl⟩,ps,dfs,rfl,hl,hF,hok,hnm⟩
    have hb:i * CB n + CB n<=3 * CB n:=by
      have:=Nat.mul_le_mul_right (CB n) (show i + 1<=3 by lia)
      rw [Nat.add_mul] at this
      lia
    refine (ex22q rfl rfl (ex22q rfl rfl ⟨st,w0,i,_,room,o,(by show [V.ref st,V.ref w0,V.int (0 + (i:Nat)),V.int room]=_; rw [Int.zero_add]),hi,S2,by lia,(hW.same s1).kp (S0.same s1) k2,hroom,hn,fun H3 p d k3 S3 hd hdk hdz=>⟨by rw [List.length_map]; lia,k2.trans k3,S3.mono (by rw [Nat.add_mul]; lia),⟨_,rfl⟩,ps ++ [p],dfs ++ [d],by simp,by simp [hl],(hF.keep (k3.tups S2)).app (.cons hd .nil),(fun e he=>?_),by rw [List.range_succ,List.map_append,List.map_append,hnm]; show _ ++ [d.z]=_ ++ [_]; rw [hdz]⟩⟩))
    rcases List.mem_append.mp he with he | he
    · exact hok e he
    · rw [List.mem_singleton.mp he]
      exact hdk
  rintro τ ys H2 ⟨k2,S2,_,ps,dfs,rfl,hl,hF,hok,hnm⟩ p3 h3
  refine ⟨p3,(ex2q rfl (.inl ⟨SqL.of upd_same,fun p4 h4=>⟨by show 2<=sizeLine; decide,fun p5 h5=>?_⟩⟩))⟩
  have s25:Same H2 _:=((same_new h3 (.lst (ps.map V.ref))).new (o:=.tup (ps.map V.ref)) h4).new (o:=.tup [.ref pk,.ref p4]) h5
  have tp:Tups H1 _:=(k2.tups (S0.same s1)).trans (.of s25)
  exact q _ p5 pk p4 p1 p2 t1 t2 ps dfs (((Kp.of s1).trans k2).trans (.of s25)) (S2.same s25) upd_same (tp _ _ hpk) (tp _ _ hp1) (tp _ _ hp2) (hk1.keep tp) (hk2.keep tp) (old h5 upd_same) (hF.keep (.of s25)) hl hok hnm
end
end GN
namespace L2
open PySem PySem.Spec PyProof.Rows
section
variable {X:Cx}
end
end L2
namespace GN
open PySem L2
inductive All2 {α β:Type} (F:α->β->Prop):List α->List β->Prop
  | nil:All2 F [] []
  | cons {a b l m}:F a b->All2 F l m->All2 F (a :: l) (b :: m)
section
variable {α β:Type} {F G:α->β->Prop} {l:List α} {m:List β}
theorem All2.imp (h:All2 F l m) (f:∀ a b,F a b->G a b):All2 G l m:=by
  induction h with
  | nil=>exact .nil
  | cons a _ ih=>exact .cons (f _ _ a) ih
theorem All2.len (h:All2 F l m):l.length=m.length:=by
  induction h with
  | nil=>rfl
  | cons _ _ ih=>rw [List.length_cons,List.length_cons,ih]
theorem All2.app {l':List α} {m':List β} (h:All2 F l m) (g:All2 F l' m'):All2 F (l ++ l') (m ++ m'):=by
  induction h with
  | nil=>exact g
  | cons a _ ih=>exact .cons a ih
theorem All2.get (h:All2 F l m):∀ {i:Nat} {b:β},m[i]?=some b->∃ a,l[i]?=some a/\F a b:=by
  induction h with
  | nil=>intro i b e; simp at e
  | cons a _ ih =>
    intro i b e
    cases i with
    | zero=>simp at e; subst e; exact (ex2q rfl (a))
    | succ i=>simp at e; obtain ⟨x,h1,h2⟩:=ih e; exact ⟨x,by simpa using h1,h2⟩
theorem All2.getl (h:All2 F l m):∀ {i:Nat} {a:α},l[i]?=some a->∃ b,m[i]?=some b/\F a b:=by
  induction h with
  | nil=>intro i b e; simp at e
  | cons a _ ih =>
    intro i b e
    cases i with
    | zero=>simp at e; subst e; exact (ex2q rfl (a))
    | succ i=>simp at e; obtain ⟨x,h1,h2⟩:=ih e; exact ⟨x,by simpa using h1,h2⟩
end
theorem iteN {b:Bool} {A B:Prop} (e:b=false) (h:B):if b=true then A else B:=by rw [if_neg (by rw [e]; decide)]; exact h
def KM (M:Addr->Prop) (H H':Hp):Prop:=∀ b u,¬ M b->H b=some u->H' b=some u
def Kz (M R:Addr->Prop) (H H':Hp):Prop:=∀ b u,H b=some u->¬ M b->(∀ xs,u=.lst xs->R b)->H' b=some u
def KO (M:Addr->Prop) (H H':Hp):Prop:=∀ b u,H b=some u->(∀ xs,u=.lst xs->M b)->H' b=some u
theorem KM.refl {M:Addr->Prop} {H:Hp}:KM M H H:=fun _ _ _ h=>h
theorem KM.trans {M:Addr->Prop} {H H1 H2:Hp} (a:KM M H H1) (b:KM M H1 H2):KM M H H2:=fun c u n h=>b c u n (a c u n h)
theorem KM.of {M:Addr->Prop} {H H1:Hp} (a:Same H H1):KM M H H1:=fun c u _ h=>a c u h
theorem KM.kz {M R:Addr->Prop} {H H1:Hp} (a:KM M H H1):Kz M R H H1:=fun b u e n _=>a b u n e
theorem KM.free {M:Addr->Prop} {H H1:Hp} {b:Addr} (a:KM M H H1) (n:¬ M b) (h:H1 b=none):H b=none:=by
  cases e:H b with
  | none=>rfl
  | some u=>rw [a b u n e] at h; cases h
theorem KM.new {M:Addr->Prop} {H H1:Hp} {p:Addr} {o:HO} (a:KM M H H1) (h:H1 p=none):KM M H (upd H1 p o):=a.trans (.of fun b u e=>by rw [upd_ne (ne_of_none e h)]; exact e)
theorem KM.put {M:Addr->Prop} {H H1:Hp} {p:Addr} {o:HO} (a:KM M H H1) (h:H p=none):KM M H (upd H1 p o):=fun b u n e=>by rw [upd_ne (ne_of_none e h)]; exact a b u n e
def CanC (P:Program) (w:World) (K:PySem.W.Frag) (mg:Str->Option Value) (base:Heap) (k:Nat) (H:Hp) (f:Addr) (vs:List V) (Q:VK) (E:XK):Prop :=
  ∃ fd ps sp,FnOk P w K mg base CX0 k f fd ps sp/\Binds K fd ps []/\sp vs H Q E/\(H f=some (FunO f fd)\/PySem.W.keepIn K (.ref f)=true)
structure WoD (P:Program) (w:World) (K:PySem.W.Frag) (mg:Str->Option Value) (base:Heap) (k:Nat) where
  Tk:Type
  M:Addr->Prop
  fb:Addr
  wt:Tk->Nat
  kids:Tk->List Tk
  wk:∀ t,((kids t).map wt).sum + 2<=wt t
  IT:Hp->(Addr->Prop)->Tk->V->Prop
  IR:Hp->(Addr->Prop)->Tk->V->Prop
  IF:Hp->(Addr->Prop)->Tk->V->Prop
  Ok:Hp->Prop
  itk:∀ {H H' R R' t v},IT H R t v->Ok H->Kz M R H H'->(∀ b,R b->R' b)->IT H' R' t v
  irk:∀ {H H' R R' t v},IR H R t v->Ok H->Kz M R H H'->(∀ b,R b->R' b)->IR H' R' t v
  ifk:∀ {H H' R R' t v},IF H R t v->Ok H->Kz M R H H'->(∀ b,R b->R' b)->IF H' R' t v
  okk:∀ {H H'},Ok H->KO M H H'->Ok H'
  okM:∀ {H b},Ok H->M b->H b≠none
  beg:∀ {H R t v Q},IT H R t v->Ok H->(∀ b,R b->H b≠none)->(∀ b,R b->¬ M b) ->
    (∀ H' q l fl vs R',KM M H H'->Ok H'->H' q=some (.tup [.ref l,.ref fl])->H l=none->H' l=some (.lst vs)->(∀ b,R b->R' b)->(∀ b,R' b->R b\/H b=none)->(∀ b,R' b->H' b≠none)->R' l->All2 (IT H' R') (kids t) vs->IF H' R' t (.ref fl)->Q (.ref q) H') ->
    CanC P w K mg base k H fb [v] Q E0
  fin:∀ {H R t fl rl rs Q},IF H R t (.ref fl)->Ok H->(∀ b,R b->H b≠none)->(∀ b,R b->¬ M b)->R rl->H rl=some (.lst rs)->All2 (IR H R) (kids t) rs ->
    (∀ H' v R',KM M H H'->Ok H'->(∀ b,R b->R' b)->(∀ b,R' b->R b\/H b=none)->(∀ b,R' b->H' b≠none)->IR H' R' t v->Q v H') ->
    CanC P w K mg base k H fl [.ref rl] Q E0
structure Bn (K:PySem.W.Frag) (cB:Addr):Prop where
  cl:Cls K cB
  b1:NoAttr K cB "within"
  b2:NoAttr K cB "finish"
  b3:NoAttr K cB "results"
def BO (cB dx wa fl ra:Addr):HO:=.ins cB dx [("within",.ref wa),("finish",.ref fl),("results",.ref ra)]
def spBInit (cB:Addr):Sp:=fun vs H Q _=>∃ (x dx wa fl:Addr),vs=[.ref x,.ref wa,.ref fl]/\H x=some (.ins cB dx [])/\∀ H' ra,(∀ b u,b≠x->H b=some u->H' b=some u)->H ra=none->H' ra=some (.lst [])->H' x=some (BO cB dx wa fl ra)->Q .non H'
def spOnly:Sp:=fun vs H Q _=>∃ (p:Addr) (v:V) (xs:List V),vs=[.ref p]/\H p=some (.lst (v :: xs))/\Q v H
section
variable {P:Program} {w:World} {K:PySem.W.Frag} {mg:Str->Option Value} {base:Heap} {f cB:Addr} {fd:FuncData}
theorem scBInit:FnScope ["self","within","finish"] ["self","within","finish"] (defScope sBInit):=⟨rfl,rfl,rfl,by decide +kernel,rfl,by decide +kernel,by decide +kernel⟩
theorem ok_binit (F:Fun K "__init__" "Begun.__init__" sBInit f fd) (N:Bn K cB):FnOk P w K mg base CX0 1 f fd ["self","within","finish"] (spBInit cB):=by
  refine F.by scBInit (fun vs H Q E h=>?_) (fun cdv A outer s H vs Q E hr h=>?_)
  · obtain ⟨x,dx,wa,fl,rfl,_⟩:=h
    rfl
  obtain ⟨x,dx,wa,fl,rfl,hx,q⟩:=h
  refine ⟨_,(jss_cons (js_fld (jv 0) (jv 1)) (jss_cons (js_fld (jv 0) (jv 2)) (jss_one (js_fld (jv 0) (je_lst ja_nil))))),?_⟩
  refine (ex22q rfl rfl ⟨x,cB,dx,(ex2q rfl ⟨hx,N.cl,N.b1,by show 0 < 1000; decide,?_⟩)⟩)
  refine (ex22q rfl rfl ⟨x,cB,dx,(ex2q rfl ⟨upd_same,N.cl,N.b2,by show 1 < 1000; decide,?_⟩)⟩)
  refine ⟨by show 0<=sizeLine; decide,fun ra hra=>?_⟩
  have nx:ra≠x:=fun z=>by
    rw [z,upd_same] at hra
    cases hra
  have hra':H ra=none:=by
    rw [upd_ne nx,upd_ne nx] at hra
    exact hra
  refine (ex2q rfl ⟨x,cB,dx,(ex2q rfl ⟨by rw [upd_ne nx.symm]; exact upd_same,N.cl,N.b3,by show 2 < 1000; decide,?_⟩)⟩)
  refine q _ ra (fun b u n e=>?_) hra' (by rw [upd_ne nx]; exact upd_same) upd_same
  rw [upd_ne n,upd_ne (ne_of_none e hra'),upd_ne n,upd_ne n]
  exact e
theorem scOnly:FnScope ["results"] ["results"] (defScope sOnly):=⟨rfl,rfl,rfl,by decide +kernel,rfl,by decide +kernel,by decide +kernel⟩
theorem ok_only (F:Fun K "only_one" "only_one" sOnly f fd):FnOk P w K mg base CX0 1 f fd ["results"] spOnly:=by
  refine F.by scOnly (fun vs H Q E h=>?_) (fun cdv A outer s H vs Q E hr h=>?_)
  · obtain ⟨p,v,xs,rfl,_⟩:=h
    rfl
  obtain ⟨p,v,xs,rfl,hp,q⟩:=h
  exact ⟨_,(jss_one (js_ret (je_ixLK K (jv 0)))),(ex2q rfl (ixL hp (atI_nat (j:=0) rfl) (q)))⟩
end
structure En (Tk:Type) where
  bo:Addr
  dx:Addr
  wa:Addr
  ra:Addr
  fl:Addr
  tk:Option Tk
  ts:List Tk
  rs:List V
section
variable {P:Program} {w:World} {K:PySem.W.Frag} {mg:Str->Option Value} {base:Heap} {k:Nat} (D:WoD P w K mg base k) (cB fo:Addr) (root:D.Tk)
structure EnOk (H:Hp) (R:Addr->Prop) (e:En D.Tk):Prop where
  o:H e.bo=some (BO cB e.dx e.wa e.fl e.ra)
  nb:¬ D.M e.bo
  w:∃ ws,H e.wa=some (.lst ws)/\All2 (D.IT H R) e.ts ws
  Rw:R e.wa
  r:H e.ra=some (.lst e.rs)
  nr:¬ R e.ra
  nM:¬ D.M e.ra
  le:e.rs.length<=e.ts.length
  rr:All2 (D.IR H R) (e.ts.take e.rs.length) e.rs
  fin:match e.tk with
    | none=>e.fl=fo/\e.ts=[root]
    | some t=>D.IF H R t (.ref e.fl)/\e.ts=D.kids t
inductive Lnk:List (En D.Tk)->Prop
  | bot {e:En D.Tk}:e.tk=none->Lnk [e]
  | up {e e':En D.Tk} {es:List (En D.Tk)} {t:D.Tk}:Lnk (e' :: es)->e.tk=some t->e'.ts[e'.rs.length]?=some t->Lnk (e :: e' :: es)
def mlow:List (En D.Tk)->Nat
  | []=>0
  | e :: es=>1 + ((e.ts.drop (e.rs.length + 1)).map D.wt).sum + mlow es
def mall:List (En D.Tk)->Nat
  | []=>0
  | e :: es=>1 + ((e.ts.drop e.rs.length).map D.wt).sum + mlow D es
theorem mlow_len:∀ es:List (En D.Tk),es.length<=mlow D es
  | []=>Nat.le_refl _
  | e :: es=>by
    unfold mlow
    have:=mlow_len es
    rw [List.length_cons]
    lia
theorem mall_len (es:List (En D.Tk)):es.length<=mall D es:=by
  cases es with
  | nil=>exact Nat.le_refl _
  | cons e es =>
    unfold mall
    have:=mlow_len D es
    rw [List.length_cons]
    lia
theorem wt_len:∀ ts:List D.Tk,ts.length<=(ts.map D.wt).sum
  | []=>Nat.le_refl _
  | t :: ts=>by
    have:=wt_len ts
    have:=D.wk t
    rw [List.length_cons,List.map_cons,List.sum_cons]
    lia
variable {D cB fo root}
theorem EnOk.keep {H H':Hp} {R R':Addr->Prop} {e:En D.Tk} (h:EnOk D cB fo root H R e) (ok:D.Ok H) (z:Kz D.M R H H') (rM:∀ b,R b->¬ D.M b) (sub:∀ b,R b->R' b) (hr:H' e.ra=some (.lst e.rs)) (nr:¬ R' e.ra):EnOk D cB fo root H' R' e:=by
  obtain ⟨o,nb,⟨ws,w1,w2⟩,Rw,r,nr',nM,le,rr,fin⟩:=h
  refine ⟨z _ _ o nb (by intro xs q; unfold BO at q; cases q),nb,⟨ws,z _ _ w1 (rM _ Rw) (fun _ _=>Rw),w2.imp fun a b q=>D.itk q ok z sub⟩,sub _ Rw,hr,nr,nM,le,rr.imp fun a b q=>D.irk q ok z sub,?_⟩
  cases q:e.tk with
  | none=>rw [q] at fin; exact fin
  | some t=>rw [q] at fin; exact ⟨D.ifk fin.1 ok z sub,fin.2⟩
end
end GN
namespace GN
open PySem L2
def spWorked (P:Program) (w:World) (K:PySem.W.Frag) (mg:Str->Option Value) (base:Heap) (k:Nat):Sp:=fun vs H Q _=>∃ (D:WoD P w K mg base k) (v:V) (root:D.Tk) (R:Addr->Prop),vs=[v,.ref D.fb]/\D.IT H R root v/\D.Ok H/\(∀ b,R b->H b≠none)/\(∀ b,R b->¬ D.M b)/\D.wt root<=1000000 /\
  ((∃ fd,H D.fb=some (FunO D.fb fd))/\¬ D.M D.fb\/PySem.W.keepIn K (.ref D.fb)=true) /\
  ∀ H' v' R',KM D.M H H'->D.Ok H'->(∀ b,R' b->¬ D.M b)->D.IR H' R' root v'->Q v' H'
section
variable {P:Program} {w:World} {K:PySem.W.Frag} {mg:Str->Option Value} {base:Heap} {f cB fo:Addr} {fd fdo:FuncData} {k:Nat}
theorem scWorked:FnScope ["task","begin","waiting","last","pair","finish","result"] ["task","begin"] (defScope sWorked):=⟨rfl,rfl,rfl,by decide +kernel,rfl,by decide +kernel,by decide +kernel⟩
theorem can_call {i:Nat} {t:TA} {σ:St} {H:Hp} {Q:VK} {f:Addr} {vs:List V} (hi:σ[i]?=some (some (.ref f))) (ha:∀ R:List V->Hp->Prop,R vs H->t σ H R) (h:CanC P w K mg base k H f vs Q E0):tCallF P w K mg base k E0 i t σ H Q:=by
  obtain ⟨fd,ps,sp,F,b,q,c⟩:=h
  rcases c with c | c
  · exact ⟨f,hi,.inl ⟨⟨fd,c⟩,ha _ ⟨fd,ps,sp,F,b,c,q⟩⟩⟩
  · exact ⟨f,hi,.inr ⟨c,ha _ ⟨fd,ps,sp,F,b,q⟩⟩⟩
theorem ok_worked (F:Fun K "worked_out" "worked_out" sWorked f fd) (N:Bn K cB) (GB:Ma P w K mg base CX0 1 "Begun" cB ["self","within","finish"] (spBInit cB)) (GO:FnOk P w K mg base CX0 1 fo fdo ["results"] spOnly) (bO:Binds K fdo ["results"] []) (kO:PySem.W.keepIn K (.ref fo)=true) (mO:mg "only_one"=some (.ref fo)) (m_len:mg "len"=none) (hk:2<=k):FnOk P w K mg base CX0 (k + 1) f fd ["task","begin"] (spWorked P w K mg base k):=by
  refine F.by scWorked (fun vs H Q E h=>?_) (fun cdv A outer s H vs Q E hr h=>?_)
  · obtain ⟨D,v,root,R,rfl,_⟩:=h
    rfl
  obtain ⟨D,v,root,R0,rfl,hIT,hOk,hR0,hRM0,hwt,hfb,q⟩:=h
  have hr2:Room (1 + 1) _:=hr.mono (by lia)
  refine ⟨_,
    (jss_cons (js_set (i:=2) scWorked.nd rfl (Or.inl rfl) (je_lst (ja_c (je_ma GB hr2 rfl pass0 (ja_c (je_lst (ja_c (jv 0) ja_nil)) (ja_c (je_glob (v:=.ref fo) rfl mO rfl) ja_nil))) ja_nil)))
    (jss_one (js_while PassesOwn.never (jt_val je_bl)
      (jss_cons (js_set (i:=3) scWorked.nd rfl (Or.inl rfl) (je_ix (jx_listK K) (jv 2) (je_neg je_int) (fun _ _=>rfl)))
      (jss_one (js_if (jt_cmpR jo_lt (je_fnB (jc_len_seqK K) rfl m_len PySem.boot_len (ja_c (je_fldK K (jv 3)) ja_nil)) (je_fnB (jc_len_seqK K) rfl m_len PySem.boot_len (ja_c (je_fldK K (jv 3)) ja_nil)) (nomark _))
        (jss_cons (js_set (i:=4) scWorked.nd rfl (Or.inl rfl) (je_callF hr (jv 1) pass0 (ja_c (je_ix (jx_listK K) (je_fldK K (jv 3)) (je_fnB (jc_len_seqK K) rfl m_len PySem.boot_len (ja_c (je_fldK K (jv 3)) ja_nil)) (fun _ _=>rfl)) ja_nil)))
        (jss_one (js_expr (je_bm PySem.F.plainAttrs_list PySem.F.slot_list_append PySem.F.type_list_append jm_append (jv 2) (ja_c (je_ma GB hr2 rfl pass0 (ja_c (je_ixK K (jv 4)) (ja_c (je_ixK K (jv 4)) ja_nil))) ja_nil)))))
        (jss_cons (js_set (i:=5) scWorked.nd rfl (Or.inl rfl) (je_fldK K (jv 3)))
        (jss_cons (js_set (i:=6) scWorked.nd rfl (Or.inl rfl) (je_callF hr (jv 5) pass0 (ja_c (je_fldK K (jv 3)) ja_nil)))
        (jss_cons (js_expr (je_bm0 PySem.F.plainAttrs_list PySem.F.slot_list_pop PySem.F.type_list_pop jm_pop (jv 2)))
        (jss_cons (js_if (jt_cmpR jo_eq (je_fnB (jc_len_seqK K) rfl m_len PySem.boot_len (ja_c (jv 2) ja_nil)) je_int (nomark _))
          (jss_one (js_ret (jv 6))) jss_nil)
        (jss_one (js_expr (je_bm PySem.F.plainAttrs_list PySem.F.slot_list_append PySem.F.type_list_append jm_append (je_fldK K (je_ix (jx_listK K) (jv 2) (je_neg je_int) (fun _ _=>rfl))) (ja_c (jv 6) ja_nil)))))))))))))),?_⟩
  have sl:=line0
  refine (ex2q rfl ⟨by show 1<=sizeLine; decide,fun l0 hl0=>?_⟩)
  have s0:Same H (upd H l0 (.lst [v])):=fun b u e=>by rw [upd_ne (ne_of_none e hl0)]; exact e
  have hl0':=upd_same (H:=H) (a:=l0) (o:=.lst [v])
  generalize upd H l0 (.lst [v])=H1 at *
  intro x dx hx hdx nxd
  refine ⟨x,dx,l0,fo,rfl,upd_same,fun H2 ra kp hra hra2 hx2=>⟨rfl,by show 1<=sizeLine; decide,fun wl hwl=>?_⟩⟩
  have hM:∀ b,H b=none->¬ D.M b:=fun b e m=>D.okM hOk m e
  have s12:Same H1 H2:=fun b u e=>kp b u (ne_of_none e hx) (by rw [upd_ne (ne_of_none e hx),upd_ne (ne_of_none e hdx)]; exact e)
  have s2:Same H H2:=s0.trans s12
  have s3:Same H (upd H2 wl (.lst [.ref x])):=s2.new hwl
  have nra:ra≠x:=fun z=>by
    rw [z,upd_same] at hra
    cases hra
  have nrd:ra≠dx:=fun z=>by
    rw [z,upd_ne nxd,upd_same] at hra
    cases hra
  have hra1:H1 ra=none:=by
    rw [upd_ne nra,upd_ne nrd] at hra
    exact hra
  have hra0:H ra=none:=s0.free hra1
  have hx0:H x=none:=s0.free hx
  have nl0:l0≠ra:=ne_of_none hl0' hra1
  have nwr:ra≠wl:=ne_of_none hra2 hwl
  have nwx:x≠wl:=ne_of_none hx2 hwl
  have nwl:l0≠wl:=ne_of_none (s12 _ _ hl0') hwl
  have hwl0:H wl=none:=s2.free hwl
  refine ⟨fun m σ H'=>∃ (es:List (En D.Tk)) (R:Addr->Prop) (y3 y4 y5 y6:Option V),m=mall D es/\σ=[some v,some (.ref D.fb),some (.ref wl),y3,y4,y5,y6]/\KM D.M H H'/\D.Ok H'/\H' wl=some (.lst (es.reverse.map fun e=>V.ref e.bo))/\¬ R wl/\(∀ e∈es,EnOk D cB fo root H' R e)/\(∀ e∈es,H e.ra=none)/\Lnk D es/\(∀ b,R b->H' b≠none)/\(∀ b,R b->¬ D.M b)/\(wl :: es.map (·.ra)).Nodup/\mall D es<=D.wt root + 1/\(∀ e∈es,e.ts.length<=1000000),
    ⟨_,[⟨x,dx,l0,ra,fo,none,[root],[]⟩],(fun b=>R0 b\/b=l0),none,none,none,none,rfl,rfl,.of s3,D.okk hOk (fun b u e _=>s3 b u e),upd_same,?_,?_,?_,.bot rfl,?_,?_,?_,?_,?_⟩,?_⟩
  · rintro (z | z)
    · exact hR0 _ z hwl0
    · exact nwl z.symm
  · intro e he
    rw [List.mem_singleton.mp he]
    refine ⟨by rw [upd_ne nwx]; exact hx2,hM _ hx0,⟨[v],by rw [upd_ne nwl]; exact s12 _ _ hl0',.cons (D.itk hIT hOk (fun b u e _ _=>s3 b u e) fun b z=>.inl z) .nil⟩,.inr rfl,by rw [upd_ne nwr]; exact hra2,?_,hM _ hra0,Nat.zero_le _,.nil,rfl,rfl⟩
    rintro (z | z)
    · exact hR0 _ z hra0
    · exact nl0 z.symm
  · intro e he
    rw [List.mem_singleton.mp he]
    exact hra0
  · rintro b (z | z)
    · cases e:H b with
      | none=>exact absurd e (hR0 b z)
      | some u=>rw [s3 b u e]; simp
    · rw [z,upd_ne nwl,s12 _ _ hl0']; simp
  · rintro b (z | z)
    · exact hRM0 b z
    · rw [z]; exact hM _ hl0
  · show [wl,ra].Nodup
    simp [nwr.symm]
  · unfold mall mlow
    simp
    lia
  · intro e he
    rw [List.mem_singleton.mp he]
    show 1<=1000000
    decide
  rintro m σ Ha ⟨es,R,y3,y4,y5,y6,rfl,rfl,kHa,okA,hwlA,nRw,hes,hra,lk,hRd,hRM,nd,hms,hln⟩
  refine (ex2q rfl (iteT ⟨_,fun _ _ h=>h,?_⟩))
  refine cutR (fun D_ rt_ fin=>?_) (fun _ _ h=>h)
  have hMA:∀ b,Ha b=none->¬ D.M b:=fun b e m=>D.okM okA m e
  have mwl:¬ D.M wl:=hM _ hwl0
  cases es with
  | nil=>cases lk
  | cons e es =>
  have he:=hes e (.head _)
  have eo:=he.o
  obtain ⟨ws,hw,hIT'⟩:=he.w
  have wlen:=hIT'.len
  have els:((e :: es).reverse.map fun e=>V.ref e.bo)=(es.reverse.map fun e=>V.ref e.bo) ++ [.ref e.bo]:=by simp
  rw [els] at hwlA
  have elen:=mall_len D (e :: es)
  rw [List.length_cons] at elen
  have dr:∀ t,e.ts[e.rs.length]?=some t->e.ts.drop e.rs.length=t :: e.ts.drop (e.rs.length + 1):=fun t ht=>(List.drop_eq_getElem_cons (List.getElem?_eq_some_iff.mp ht).1).trans (by rw [(List.getElem?_eq_some_iff.mp ht).2])
  refine (ex22q rfl rfl ⟨wl,_,_,_,rfl,rfl,SqL.of hwlA,atI_last _ _,?_⟩)
  refine (ex2q rfl ⟨e.bo,cB,e.dx,_,_,rfl,eo,N.cl,N.b3,rfl,_,_,rfl,.inl (SqL.of he.r),(ex2q rfl ⟨e.bo,cB,e.dx,_,_,rfl,eo,N.cl,N.b1,rfl,_,_,rfl,.inl (SqL.of hw),(ex4q rfl rfl (ex2q rfl ?_))⟩)⟩)
  refine ite2 (fun c=>?_) (fun c=>?_)
  · rw [decide_eq_true_eq] at c
    have c:e.rs.length < ws.length:=by lia
    obtain ⟨t,ht,hIt⟩:=hIT'.get (List.getElem?_eq_getElem c)
    refine can_call rfl (fun R h=>(ex2q rfl ⟨e.bo,cB,e.dx,_,_,rfl,eo,N.cl,N.b1,rfl,(ex2q rfl ⟨e.bo,cB,e.dx,_,_,rfl,eo,N.cl,N.b3,rfl,_,_,rfl,.inl (SqL.of he.r),_,_,_,_,rfl,rfl,SqL.of hw,atI_nat (List.getElem?_eq_getElem c),h⟩)⟩)) (D.beg hIt okA hRd hRM fun Hb pq l fl vs R' kB okB hq hl hlB sub sub' dom' Rl hks hfin=>?_)
    refine (ex2q rfl ⟨.inl ⟨rfl,_,SqL.of (kB _ _ mwl hwlA)⟩,(ex2q rfl (ixT hq (atI_nat (j:=0) rfl) (ex2q rfl (ixT hq (atI_nat (j:=1) rfl) (fun x' dx' hx' hdx' nxd'=>?_)))))⟩)
    refine ⟨x',dx',l,fl,rfl,upd_same,fun Hc rb kp' hrb hrb2 hxc=>⟨rfl,?_⟩⟩
    have sbc:Same Hb Hc:=fun b u e=>kp' b u (ne_of_none e hx') (by rw [upd_ne (ne_of_none e hx'),upd_ne (ne_of_none e hdx')]; exact e)
    have nrx:rb≠x':=fun z=>by
      rw [z,upd_same] at hrb
      cases hrb
    have nrd':rb≠dx':=fun z=>by
      rw [z,upd_ne nxd',upd_same] at hrb
      cases hrb
    have hrbB:Hb rb=none:=by
      rw [upd_ne nrx,upd_ne nrd'] at hrb
      exact hrb
    have okC:D.Ok Hc:=D.okk okB fun b u e _=>sbc b u e
    have hMB:∀ b,Hb b=none->¬ D.M b:=fun b e m=>D.okM okB m e
    have hwlC:Hc wl=some (.lst ((es.reverse.map fun e=>V.ref e.bo) ++ [.ref e.bo])):=sbc _ _ (kB _ _ mwl hwlA)
    refine ⟨wl,(ex4q rfl rfl ⟨hwlC,by rw [List.length_append,List.length_map,List.length_reverse]; show es.length + 1 < _; lia,?_⟩)⟩
    have nR'w:¬ R' wl:=fun z=>by
      rcases sub' _ z with z | z
      · exact nRw z
      · rw [hwlA] at z; cases z
    have kzA:Kz D.M R Ha (upd Hc wl (.lst ((es.reverse.map fun e=>V.ref e.bo) ++ [.ref e.bo] ++ [.ref x']))):=fun b u q1 q2 q3=>by
      rw [upd_ne]
      · exact sbc _ _ (kB _ _ q2 q1)
      · intro z
        rw [z,hwlA] at q1
        cases q1
        rw [z] at q3
        exact nRw (q3 _ rfl)
    have kzB:Kz D.M R' Hb (upd Hc wl (.lst ((es.reverse.map fun e=>V.ref e.bo) ++ [.ref e.bo] ++ [.ref x']))):=fun b u q1 q2 q3=>by
      rw [upd_ne]
      · exact sbc _ _ q1
      · intro z
        rw [z,kB _ _ mwl hwlA] at q1
        cases q1
        rw [z] at q3
        exact nR'w (q3 _ rfl)
    have nx':x'≠wl:=ne_of_none (by exact kB _ _ mwl hwlA) hx' |>.symm
    have nrb:rb≠wl:=(ne_of_none (kB _ _ mwl hwlA) hrbB).symm
    have nl:l≠wl:=fun z=>nR'w (z ▸ Rl)
    have nolds:∀ e'∈e :: es,Hc e'.ra=some (.lst e'.rs)/\e'.ra≠wl/\¬ R' e'.ra:=fun e' he'=>by
      have h':=hes e' he'
      refine ⟨sbc _ _ (kB _ _ h'.nM h'.r),fun z=>?_,fun z=>?_⟩
      · have:=(List.nodup_cons.mp nd).1
        exact this (z ▸ List.mem_map.mpr ⟨e',he',rfl⟩)
      · rcases sub' _ z with z | z
        · exact h'.nr z
        · rw [h'.r] at z; cases z
    refine fin _ _ ⟨_,?_,⟨x',dx',l,rb,fl,some t,D.kids t,[]⟩ :: e :: es,R',_,_,_,_,rfl,rfl,?_,D.okk okC ?_,?_,nR'w,?_,?_,.up lk rfl ht,?_,?_,?_,?_,?_⟩
    · show 1 + (((D.kids t).drop 0).map D.wt).sum + mlow D (e :: es) < 1 + ((e.ts.drop e.rs.length).map D.wt).sum + mlow D es
      rw [dr t ht]
      have:=D.wk t
      rw [show mlow D (e :: es)=1 + ((e.ts.drop (e.rs.length + 1)).map D.wt).sum + mlow D es from rfl]
      simp only [List.drop_zero,List.map_cons,List.sum_cons]
      lia
    · exact ((kHa.trans kB).trans (.of sbc)).put hwl0
    · intro b u q1 q2
      rw [upd_ne]
      · exact q1
      · intro z
        rw [z,hwlC] at q1
        cases q1
        rw [z] at q2
        exact mwl (q2 _ rfl)
    · rw [upd_same]
      simp
    · intro e' he'
      rcases List.mem_cons.mp he' with rfl | he'
      · exact ⟨by rw [upd_ne nx']; exact hxc,hMB _ hx',⟨vs,by rw [upd_ne nl]; exact sbc _ _ hlB,hks.imp fun a b q=>D.itk q okB kzB fun _ z=>z⟩,Rl,by rw [upd_ne nrb]; exact hrb2,fun z=>dom' _ z hrbB,hMB _ hrbB,Nat.zero_le _,.nil,D.ifk hfin okB kzB fun _ z=>z,rfl⟩
      · obtain ⟨n1,n2,n3⟩:=nolds e' he'
        exact (hes e' he').keep okA kzA hRM sub (by rw [upd_ne n2]; exact n1) n3
    · intro e' he'
      rcases List.mem_cons.mp he' with rfl | he'
      · exact (kHa.trans kB).free (hMB _ hrbB) hrbB
      · exact hra e' he'
    · intro b z
      by_cases hb:b=wl
      · rw [hb,upd_same]; simp
      · rw [upd_ne hb]
        cases q:Hb b with
        | none=>exact absurd q (dom' b z)
        | some u=>rw [sbc _ _ q]; simp
    · intro b z
      rcases sub' b z with z | z
      · exact hRM b z
      · exact hMA b z
    · rw [List.map_cons,List.nodup_cons] at *
      refine ⟨fun z=>?_,List.nodup_cons.mpr ⟨fun z=>?_,nd.2⟩⟩
      · rcases List.mem_cons.mp z with z | z
        · exact nrb z.symm
        · exact nd.1 z
      · obtain ⟨e',he',z⟩:=List.mem_map.mp z
        have:=kB _ _ (hes e' he').nM (hes e' he').r
        rw [z,hrbB] at this
        cases this
    · refine Nat.le_trans ?_ hms
      show 1 + (((D.kids t).drop 0).map D.wt).sum + mlow D (e :: es)<=1 + ((e.ts.drop e.rs.length).map D.wt).sum + mlow D es
      rw [dr t ht]
      have:=D.wk t
      rw [show mlow D (e :: es)=1 + ((e.ts.drop (e.rs.length + 1)).map D.wt).sum + mlow D es from rfl]
      simp only [List.drop_zero,List.map_cons,List.sum_cons]
      lia
    · intro e' he'
      rcases List.mem_cons.mp he' with rfl | he'
      · have h1:=D.wk t
        have h2:D.wt t<=mall D (e :: es):=by
          show _<=1 + ((e.ts.drop e.rs.length).map D.wt).sum + mlow D es
          rw [dr t ht,List.map_cons,List.sum_cons]
          lia
        have h3:=wt_len D (D.kids t)
        show (D.kids t).length<=1000000
        lia
      · exact hln e' he'
  · have c:¬ e.rs.length < ws.length:=fun z=>c (decide_eq_true (by lia))
    have le:=he.le
    have rr:=he.rr
    rw [List.take_of_length_le (by lia)] at rr
    refine (ex2q rfl ⟨e.bo,cB,e.dx,_,_,rfl,eo,N.cl,N.b2,rfl,?_⟩)
    have pop:∀ {Hb:Hp},Hb wl=some (.lst ((es.reverse.map fun e=>V.ref e.bo) ++ [.ref e.bo]))->∀ {Q:VK},Q (.ref e.bo) (upd Hb wl (.lst (es.reverse.map fun e=>V.ref e.bo)))->rPop (.ref wl) [] Hb Q:=fun h Q q=>⟨wl,_,.ref e.bo,rfl,rfl,h,by simp,by rw [List.dropLast_concat]; exact q⟩
    cases htk:e.tk with
    | none =>
      have fin:=he.fin
      rw [htk] at fin
      obtain ⟨e1,e2⟩:=fin
      have es0:es=[]:=by
        cases lk with
        | bot _=>rfl
        | up _ q _=>rw [htk] at q; cases q
      subst es0
      rw [e2] at rr
      have hrs:=he.r
      generalize e.rs=rs at *
      cases rr with
      | cons hv hn =>
      cases hn
      rw [e1]
      refine can_call rfl (fun R h=>(ex2q rfl ⟨e.bo,cB,e.dx,_,_,rfl,eo,N.cl,N.b3,rfl,h⟩)) ⟨fdo,_,_,GO.mono (by lia),bO,⟨e.ra,_,[],rfl,hrs,?_⟩,.inr kO⟩
      refine (ex2q rfl ⟨.inl ⟨rfl,_,SqL.of hwlA⟩,pop hwlA ?_⟩)
      refine (ex2q rfl ⟨_,_,rfl,.inl (SqL.of upd_same),rfl,(ex2q rfl (iteT (ex2q rfl ?_)))⟩)
      rw [rt_]
      refine q _ _ R (kHa.put hwl0) (D.okk okA fun b u q1 q2=>?_) hRM (D.irk hv okA (fun b u q1 q2 q3=>?_) fun _ z=>z)
      · rw [upd_ne]
        · exact q1
        · intro z
          rw [z,hwlA] at q1
          cases q1
          rw [z] at q2
          exact mwl (q2 _ rfl)
      · rw [upd_ne]
        · exact q1
        · intro z
          rw [z,hwlA] at q1
          cases q1
          rw [z] at q3
          exact nRw (q3 _ rfl)
    | some t =>
      have fin:=he.fin
      rw [htk] at fin
      obtain ⟨e1,e2⟩:=fin
      rw [e2] at rr
      cases lk with
      | bot q=>rw [htk] at q; cases q
      | @up _ e' es' t' lk' q ht' =>
      rw [htk] at q
      cases q
      have he':=hes e' (.tail _ (.head _))
      have ndA:=nd
      rw [List.map_cons,List.map_cons,List.nodup_cons,List.nodup_cons,List.nodup_cons] at ndA
      obtain ⟨nd1,nd2,nd3,nd4⟩:=ndA
      have nwe:e.ra≠wl:=fun z=>nd1 (z ▸ .head _)
      have nwe':e'.ra≠wl:=fun z=>nd1 (z ▸ .tail _ (.head _))
      have nee':e'.ra≠e.ra:=fun z=>nd2 (z ▸ .head _)
      have kzR:Kz D.M R Ha Ha:=fun b u q _ _=>q
      refine can_call rfl (fun R h=>(ex2q rfl ⟨e.bo,cB,e.dx,_,_,rfl,eo,N.cl,N.b3,rfl,h⟩)) (D.fin (R:=fun b=>R b\/b=e.ra) (D.ifk e1 okA kzR fun _ z=>.inl z) okA ?_ ?_ (.inr rfl) he.r (rr.imp fun a b q=>D.irk q okA kzR fun _ z=>.inl z) fun Hb rv R' kB okB sub sub' dom' hIR=>?_)
      · rintro b (z | z)
        · exact hRd b z
        · rw [z,he.r]; simp
      · rintro b (z | z)
        · exact hRM b z
        · rw [z]; exact he.nM
      have hwlB:=kB _ _ mwl hwlA
      have heB:=kB _ _ he'.nM he'.r
      have hoB:=kB _ _ he'.nb he'.o
      have no':e'.bo≠wl:=ne_of hoB hwlB (by unfold BO; intro z; cases z)
      refine (ex2q rfl ⟨.inl ⟨rfl,_,SqL.of hwlB⟩,pop hwlB ?_⟩)
      have els':((e' :: es').reverse.map fun e=>V.ref e.bo)=(es'.reverse.map fun e=>V.ref e.bo) ++ [.ref e'.bo]:=by simp
      rw [els']
      refine (ex2q rfl ⟨_,_,rfl,.inl (SqL.of upd_same),rfl,(ex2q rfl (iteN ?_ ?_))⟩)
      · rw [List.length_append]
        exact decide_eq_false (by intro z; have:=V.int.inj z; simp at this; lia)
      refine (ex22q rfl rfl ⟨wl,_,_,_,rfl,rfl,SqL.of upd_same,atI_last _ _,e'.bo,cB,e'.dx,_,.ref e'.ra,rfl,by rw [upd_ne no']; exact hoB,N.cl,N.b3,rfl,.inl ⟨rfl,_,SqL.of (by rw [upd_ne nwe']; exact heB)⟩,(ex2q rfl ⟨e'.ra,(ex4q rfl rfl ⟨by rw [upd_ne nwe']; exact heB,?_,?_⟩)⟩)⟩)
      · have:=(List.getElem?_eq_some_iff.mp ht').1
        have:=hln e' (.tail _ (.head _))
        lia
      have nR'w:¬ R' wl:=fun z=>by
        rcases sub' _ z with (z | z) | z
        · exact nRw z
        · exact nwe z.symm
        · rw [hwlA] at z; cases z
      have nR':∀ e1∈e' :: es',¬ R' e1.ra:=fun e1 h1 z=>by
        rcases sub' _ z with (z | z) | z
        · exact (hes e1 (.tail _ h1)).nr z
        · exact nd2 (z ▸ List.mem_map.mpr ⟨e1,h1,rfl⟩)
        · rw [(hes e1 (.tail _ h1)).r] at z; cases z
      have kzB:Kz D.M R' Hb (upd (upd Hb wl (.lst ((es'.reverse.map fun e=>V.ref e.bo) ++ [.ref e'.bo]))) e'.ra (.lst (e'.rs ++ [rv]))):=fun b u q1 q2 q3=>by
        have n1:b≠e'.ra:=fun z=>by
          rw [z,heB] at q1
          cases q1
          rw [z] at q3
          exact nR' e' (.head _) (q3 _ rfl)
        have n2:b≠wl:=fun z=>by
          rw [z,hwlB] at q1
          cases q1
          rw [z] at q3
          exact nR'w (q3 _ rfl)
        rw [upd_ne n1,upd_ne n2]
        exact q1
      have kzA:Kz D.M R Ha (upd (upd Hb wl (.lst ((es'.reverse.map fun e=>V.ref e.bo) ++ [.ref e'.bo]))) e'.ra (.lst (e'.rs ++ [rv]))):=fun b u q1 q2 q3=>kzB b u (kB _ _ q2 q1) q2 fun xs z=>sub _ (.inl (q3 xs z))
      have subR:∀ b,R b->R' b:=fun b z=>sub _ (.inl z)
      refine fin _ _ ⟨_,?_,{ e' with rs:=e'.rs ++ [rv] } :: es',R',_,_,_,_,rfl,rfl,((kHa.trans kB).put hwl0).put (hra e' (.tail _ (.head _))),D.okk okB ?_,?_,nR'w,?_,?_,?_,?_,?_,?_,?_,?_⟩
      · show 1 + ((e'.ts.drop (e'.rs ++ [rv]).length).map D.wt).sum + mlow D es' < 1 + ((e.ts.drop e.rs.length).map D.wt).sum + (1 + ((e'.ts.drop (e'.rs.length + 1)).map D.wt).sum + mlow D es')
        rw [List.length_append,List.length_singleton]
        lia
      · intro b u q1 q2
        have n1:b≠e'.ra:=fun z=>by
          rw [z,heB] at q1
          cases q1
          rw [z] at q2
          exact he'.nM (q2 _ rfl)
        have n2:b≠wl:=fun z=>by
          rw [z,hwlB] at q1
          cases q1
          rw [z] at q2
          exact mwl (q2 _ rfl)
        rw [upd_ne n1,upd_ne n2]
        exact q1
      · rw [upd_ne nwe'.symm,upd_same]
        simp
      · intro e1 h1
        rcases List.mem_cons.mp h1 with rfl | h1
        · obtain ⟨o,nb,⟨ws',w1,w2⟩,Rw,r,nr',nM,le',rr',fin⟩:=he'
          refine ⟨kzA _ _ o nb (by intro xs q; unfold BO at q; cases q),nb,⟨ws',kzA _ _ w1 (hRM _ Rw) (fun _ _=>Rw),w2.imp fun a b q=>D.itk q okA kzA subR⟩,subR _ Rw,upd_same,nR' e' (.head _),nM,?_,?_,?_⟩
          · show (e'.rs ++ [rv]).length<=_
            rw [List.length_append,List.length_singleton]
            exact (List.getElem?_eq_some_iff.mp ht').1
          · show All2 _ (e'.ts.take (e'.rs ++ [rv]).length) (e'.rs ++ [rv])
            rw [List.length_append,List.length_singleton,List.take_add_one,ht']
            exact (rr'.imp fun a b q=>D.irk q okA kzA subR).app (.cons (D.irk hIR okB kzB fun _ z=>z) .nil)
          · show (match e'.tk with | none=>_ | some t=>_)
            cases q:e'.tk with
            | none=>rw [q] at fin; exact fin
            | some t=>rw [q] at fin; exact ⟨D.ifk fin.1 okA kzA subR,fin.2⟩
        · have h1':=hes e1 (.tail _ (.tail _ h1))
          have m1:e1.ra≠e'.ra:=fun z=>nd3 (z ▸ List.mem_map.mpr ⟨e1,h1,rfl⟩)
          have m2:e1.ra≠wl:=fun z=>nd1 (z ▸ .tail _ (.tail _ (List.mem_map.mpr ⟨e1,h1,rfl⟩)))
          exact h1'.keep okA kzA hRM subR (by rw [upd_ne m1,upd_ne m2]; exact kB _ _ h1'.nM h1'.r) (nR' e1 (.tail _ h1))
      · intro e1 h1
        rcases List.mem_cons.mp h1 with rfl | h1
        · exact hra e' (.tail _ (.head _))
        · exact hra e1 (.tail _ (.tail _ h1))
      · cases lk' with
        | bot q=>exact .bot q
        | up a b c=>exact .up a b c
      · intro b z
        have:=dom' b z
        unfold upd
        split
        · simp
        · split
          · simp
          · exact this
      · intro b z
        rcases sub' b z with (z | z) | z
        · exact hRM b z
        · rw [z]; exact he.nM
        · exact hMA b z
      · exact List.nodup_cons.mpr ⟨fun z=>nd1 (.tail _ z),List.nodup_cons.mpr ⟨nd3,nd4⟩⟩
      · refine Nat.le_trans ?_ hms
        show 1 + ((e'.ts.drop (e'.rs ++ [rv]).length).map D.wt).sum + mlow D es'<=1 + ((e.ts.drop e.rs.length).map D.wt).sum + (1 + ((e'.ts.drop (e'.rs.length + 1)).map D.wt).sum + mlow D es')
        rw [List.length_append,List.length_singleton]
        lia
      · intro e1 h1
        rcases List.mem_cons.mp h1 with rfl | h1
        · exact hln e' (.tail _ (.head _))
        · exact hln e1 (.tail _ (.tail _ h1))
end
end GN
namespace GN
open PySem L2 K11
mutual
inductive Mc
  | give (x:Str)
  | lt (x:Str) (d:De) (tk:List Str) (b:Mc)
  | iff (x:Str) (a b:Mc)
  | case (x:Str) (as:Mr)
  | hold (n o:Str) (b:Mc)
  | skip (w x:Str) (b:Mc)
inductive Mr
  | nil
  | cons (t:Str) (xs:List Str) (md tk:Str) (b:Mc) (r:Mr)
end
abbrev Sg:=Str->Option Str
def Sg.m (σ:Sg) (x:Str):Str:=(σ x).getD x
def Sg.put (σ:Sg) (x y:Str):Sg:=fun z=>if z=x then some y else σ z
def Sg.cut (σ:Sg) (xs:List Str):Sg:=fun z=>if z∈xs then none else σ z
def plD (d:De) (f:Str->Str):De:=match d with
  | .num i=>.num i
  | .op w a b=>.op w (f a) (f b)
  | .app w g xs=>if w="ask" then .app w (f g) (xs.map f) else .app w g (xs.map f)
mutual
def plB:Mc->Sg->Bd
  | .give x,σ=>.give (σ.m x)
  | .lt x d _ b,σ=>.lt x (plD d σ.m) (plB b (σ.cut [x]))
  | .iff x a b,σ=>.iff (σ.m x) (plB a σ) (plB b σ)
  | .case x as,σ=>.case (σ.m x) (plA as σ)
  | .hold n o b,σ=>plB b (σ.put n (σ.m o))
  | .skip _ _ b,σ=>plB b σ
def plA:Mr->Sg->Arms
  | .nil,_=>.nil
  | .cons t xs _ _ b r,σ=>.cons t xs (plB b (σ.cut xs)) (plA r σ)
end
mutual
def Mc.sz:Mc->Nat
  | .give _=>1
  | .lt _ _ _ b=>b.sz + 1
  | .iff _ a b=>a.sz + b.sz + 1
  | .case _ as=>as.sz + 1
  | .hold _ _ b=>b.sz + 1
  | .skip _ _ b=>b.sz + 1
def Mr.sz:Mr->Nat
  | .nil=>0
  | .cons _ _ _ _ b r=>b.sz + r.sz + 1
end
def IsMd (H:Hp) (d:De) (tk:List Str) (p:Addr):Prop:=match d with
  | .num i=>H p=some (.tup [.str "num",.int i])
  | .op w a b=>H p=some (.tup [.str "op",.str w,.str a,.str b])
  | .app w f xs=>∃ q,(w≠"num"/\w≠"op"/\xs.length<=40)/\H p=some (.tup (.str w :: .str f :: .ref q :: tk.map V.str))/\H q=some (.tup (xs.map V.str))
theorem IsMd.keep {H H':Hp} {d:De} {tk:List Str} {p:Addr} (h:IsMd H d tk p) (t:Tups H H'):IsMd H' d tk p:=by
  cases d with
  | num i=>exact t _ _ h
  | op w a b=>exact t _ _ h
  | app w f xs=>obtain ⟨q,c,h1,h2⟩:=h; exact ⟨q,c,t _ _ h1,t _ _ h2⟩
mutual
def IsMc (H:Hp):Mc->Addr->Prop
  | .give x,p=>H p=some (.tup [.str "give",.str x])
  | .lt x d tk b,p=>∃ q r,H p=some (.tup [.str "let",.str x,.ref q,.ref r])/\IsMd H d tk q/\IsMc H b r
  | .iff x a b,p=>∃ q r,H p=some (.tup [.str "if",.str x,.ref q,.ref r])/\IsMc H a q/\IsMc H b r
  | .case x as,p=>∃ q ps,H p=some (.tup [.str "case",.str x,.ref q])/\H q=some (.tup (ps.map V.ref))/\0 < ps.length/\IsMr H as ps
  | .hold n o b,p=>∃ q,H p=some (.tup [.str "hold",.str n,.str o,.ref q])/\IsMc H b q
  | .skip w x b,p=>∃ q,(w="drop"\/w="loose")/\H p=some (.tup [.str w,.str x,.ref q])/\IsMc H b q
def IsMr (H:Hp):Mr->List Addr->Prop
  | .nil,ps=>ps=[]
  | .cons t xs md tk b r,ps=>∃ p q s ps',ps=p :: ps'/\H p=some (.tup [.str t,.ref q,.str md,.str tk,.ref s])/\H q=some (.tup (xs.map V.str))/\IsMc H b s/\IsMr H r ps'
end
mutual
theorem IsMc.keep {H H':Hp} (t:Tups H H'):∀ {c:Mc} {p:Addr},IsMc H c p->IsMc H' c p
  | .give _,_,h=>t _ _ h
  | .lt _ _ _ _,_,⟨q,r,a,b,c⟩=>⟨q,r,t _ _ a,b.keep t,IsMc.keep t c⟩
  | .iff _ _ _,_,⟨q,r,a,b,c⟩=>⟨q,r,t _ _ a,IsMc.keep t b,IsMc.keep t c⟩
  | .case _ _,_,⟨q,ps,a,b,l,c⟩=>⟨q,ps,t _ _ a,t _ _ b,l,IsMr.keep t c⟩
  | .hold _ _ _,_,⟨q,a,b⟩=>⟨q,t _ _ a,IsMc.keep t b⟩
  | .skip _ _ _,_,⟨q,w,a,b⟩=>⟨q,w,t _ _ a,IsMc.keep t b⟩
theorem IsMr.keep {H H':Hp} (t:Tups H H'):∀ {c:Mr} {ps:List Addr},IsMr H c ps->IsMr H' c ps
  | .nil,_,h=>h
  | .cons _ _ _ _ _ _,_,⟨p,q,s,ps,e,a,b,c,d⟩=>⟨p,q,s,ps,e,t _ _ a,t _ _ b,IsMc.keep t c,IsMr.keep t d⟩
end
structure Sd (H:Hp) (d:Addr) (σ:Sg) (n:Nat):Prop where
  ex:∃ kvs,H d=some (.dK kvs)/\kvs.length<=n/\(∀ kv∈kvs,∃ x y,kv=(.inr x,V.str y))/\∀ x,valV kvs (.inr x)=(σ x).map V.str
theorem Sd.keep {H H':Hp} {d:Addr} {σ:Sg} {n:Nat} (h:Sd H d σ n) (k:∀ kvs,H d=some (.dK kvs)->H' d=some (.dK kvs)):Sd H' d σ n:=let ⟨kvs,a,b⟩:=h.ex; ⟨kvs,k _ a,b⟩
theorem Sd.same {H H':Hp} {d:Addr} {σ:Sg} {n:Nat} (h:Sd H d σ n) (s:Same H H'):Sd H' d σ n:=h.keep fun _ e=>s _ _ e
theorem putK_se {kvs:List (Key × V)} {x y:Str} (h:∀ kv∈kvs,∃ x y,kv=(.inr x,V.str y)):∀ kv∈putK kvs (.inr x) (V.str y),∃ x y,kv=(.inr x,V.str y):=fun kv hk=>by
  unfold putK at hk
  split at hk
  · obtain ⟨z,hz,e⟩:=List.mem_map.mp hk
    obtain ⟨a,b,r⟩:=h z hz
    split at e
    · rename_i q
      exact ⟨x,y,by rw [<- e,q]⟩
    · exact ⟨a,b,e ▸ r⟩
  · rcases List.mem_append.mp hk with hk | hk
    · exact h kv hk
    · exact ⟨x,y,List.mem_singleton.mp hk⟩
theorem putK_ln {kvs:List (Key × V)} {k:Key} {v:V}:(putK kvs k v).length<=kvs.length + 1:=by
  unfold putK
  split
  · rw [List.length_map]; exact Nat.le_succ _
  · rw [List.length_append]; exact Nat.le_refl _
theorem Sd.put {H:Hp} {d:Addr} {σ:Sg} {n:Nat} {x y:Str} {kvs:List (Key × V)} (l:kvs.length<=n) (se:∀ kv∈kvs,∃ x y,kv=(.inr x,V.str y)) (v:∀ x,valV kvs (.inr x)=(σ x).map V.str):Sd (upd H d (.dK (putK kvs (.inr x) (.str y)))) d (σ.put x y) (n + 1):=by
  refine ⟨_,upd_same,Nat.le_trans putK_ln (Nat.succ_le_succ l),putK_se se,fun z=>?_⟩
  rw [valV_put,v]
  unfold Sg.put
  by_cases e:z=x
  · rw [if_pos (by rw [e]),if_pos e]; rfl
  · rw [if_neg (fun q=>e (Sum.inr.inj q)),if_neg e]
end GN
namespace GN
open PySem L2 K11
def spNamesOf:Sp:=fun vs H Q _=>∃ (p:Addr) (d:De) (tk:List Str),vs=[.ref p]/\IsMd H d tk p/\∀ (H':Hp) (q:Addr),Same H H'->H' q=some (.tup (d.uses.map V.str))->Q (.ref q) H'
def spWith:Sp:=fun vs H Q _=>∃ (p l:Addr) (d:De) (tk:List Str) (g:Str->Str),vs=[.ref p,.ref l]/\IsMd H d tk p/\H l=some (.lst (d.uses.map fun x=>V.str (g x)))/\∀ H' q,Same H H'->IsDe H' (plD d g) q->Q (.ref q) H'
def spMeant:Sp:=fun vs H Q _=>∃ (x:Str) (d:Addr) (σ:Sg) (n:Nat),vs=[.str x,.ref d]/\Sd H d σ n/\Q (.str (σ.m x)) H
def spStanding:Sp:=fun vs H Q _=>∃ (x y:Str) (d:Addr) (σ:Sg) (n:Nat),vs=[.ref d,.str x,.str y]/\Sd H d σ n/\n < 1000000/\∀ H' r,Same H H'->Sd H' r (σ.put x y) (n + 1)->Q (.ref r) H'
def spItself:Sp:=fun vs H Q _=>∃ (d l:Addr) (xs:List Str) (σ:Sg) (n:Nat),vs=[.ref d,.ref l]/\Sd H d σ n/\(H l=some (.lst (xs.map V.str))\/H l=some (.tup (xs.map V.str)))/\∀ H' r,Same H H'->Sd H' r (σ.cut xs) n->Q (.ref r) H'
theorem IsMd.usl {H:Hp} {d:De} {tk:List Str} {p:Addr} (h:IsMd H d tk p):d.uses.length<=41:=by
  cases d with
  | num i=>show 0<=41; decide
  | op w a b=>show 2<=41; decide
  | app w0 f0 xs =>
    obtain ⟨q,c,_⟩:=h
    by_cases e:w0="ask"
    · rw [e,uses_ask,List.length_cons]; lia
    · rw [uses_app e]; lia
theorem Sg.cut_one {σ:Sg} {x:Str} {ys:List Str}:(σ.cut ys).cut [x]=σ.cut (ys ++ [x]):=by
  funext z
  unfold Sg.cut
  by_cases e:z=x <;> by_cases e':z∈ys <;> simp [e,e']
theorem valV_drop {kvs:List (Key × V)} {k j:Key}:valV (dropK kvs k) j=if j=k then none else valV kvs j:=by
  induction kvs with
  | nil=>rw [valV_nil]; split <;> rfl
  | cons p r ih =>
    by_cases e:p.1=k
    · rw [dropK_pos e,ih]
      by_cases e':j=k
      · rw [if_pos e',if_pos e']
      · rw [if_neg e',if_neg e',valV_neg (fun z=>e' (z.symm.trans e))]
    · rw [dropK_neg e]
      by_cases e':p.1=j
      · rw [valV_pos e',valV_pos e',if_neg (fun z=>e (e'.trans z))]
      · rw [valV_neg e',valV_neg e',ih]
section
variable {P:Program} {w:World} {K:PySem.W.Frag} {mg:Str->Option Value} {base:Heap} {f:Addr} {fd:FuncData}
theorem scNamesOf:FnScope ["deed"] ["deed"] (defScope sNamesOf):=⟨rfl,rfl,rfl,by decide +kernel,rfl,by decide +kernel,by decide +kernel⟩
theorem ok_namesOf (F:Fun K "names_of" "names_of" sNamesOf f fd):FnOk P w K mg base CX0 1 f fd ["deed"] spNamesOf:=by
  refine F.by scNamesOf (fun vs H Q E h=>?_) (fun cdv A outer s H vs Q E hr h=>?_)
  · obtain ⟨p,d,tk,rfl,_⟩:=h
    rfl
  obtain ⟨p,d,tk,rfl,hd,q⟩:=h
  refine ⟨_,
    (jss_cons (js_if (jt_cmpR jo_eq (je_ixK K (jv 0)) je_str (nomark _)) (jss_one (js_ret (je_tup ja_nil))) jss_nil)
    (jss_cons (js_if (jt_cmpR jo_eq (je_ixK K (jv 0)) je_str (nomark _)) (jss_one (js_ret (je_slice jl_tupO (jv 0) (jo_some je_int) jo_none))) jss_nil)
    (jss_cons (js_if (jt_cmpR jo_eq (je_ixK K (jv 0)) je_str (nomark _)) (jss_one (js_ret (je_op jo_catT (je_tup (ja_c (je_ixK K (jv 0)) ja_nil)) (je_ixK K (jv 0))))) jss_nil)
    (jss_one (js_ret (je_ixK K (jv 0))))))),?_⟩
  have sl:=line0
  cases d with
  | num i =>
    have hp:H p=some (.tup [.str "num",.int i]):=hd
    refine ifSay rfl hp ⟨by show 0<=sizeLine; decide,fun r hr=>q _ r (same_new hr _) upd_same⟩
  | op w0 a b =>
    have hp:H p=some (.tup [.str "op",.str w0,.str a,.str b]):=hd
    refine ifNot rfl hp (ifSay rfl hp ?_)
    exact ⟨_,rfl,_,rfl,p,_,rfl,hp,fun r H' s1 h1=>q H' r s1 h1⟩
  | app w0 g xs =>
    obtain ⟨pq,⟨w1,w2,w3⟩,hp,hq⟩:=hd
    refine ifNot rfl hp (ifNot rfl hp ?_ (decide_eq_false fun e=>w2 (V.str.inj e))) (decide_eq_false fun e=>w1 (V.str.inj e))
    by_cases e:w0="ask"
    · subst e
      rw [uses_ask] at q
      refine ifSay rfl hp ⟨_,rfl,ixT hp (atI_nat (j:=1) rfl) ⟨by show 1<=sizeLine; decide,fun t1 h1=>?_⟩⟩
      have s1:=same_new (o:=.tup [.str g]) h1
      refine ⟨_,rfl,ixT (s1 _ _ hp) (atI_nat (j:=2) rfl) ⟨t1,pq,_,_,rfl,rfl,SqT.of upd_same,SqT.of (s1 _ _ hq),by simp,by rw [List.length_map]; show 1 + xs.length<=_; lia,fun e=>?_,fun _ r hr=>?_⟩⟩
      · have e:xs=[]:=List.map_eq_nil_iff.mp e
        subst e
        exact q _ t1 s1 upd_same
      · exact q _ r (s1.new hr) upd_same
    · rw [uses_app e] at q
      exact ifNot rfl hp ⟨_,rfl,ixT hp (atI_nat (j:=2) rfl) (q _ pq (Same.refl _) hq)⟩ (decide_eq_false fun z=>e (V.str.inj z))
theorem scWith:FnScope ["deed","names"] ["deed","names"] (defScope sWith):=⟨rfl,rfl,rfl,by decide +kernel,rfl,by decide +kernel,by decide +kernel⟩
theorem ok_with (F:Fun K "with_names" "with_names" sWith f fd) (m_tuple:mg "tuple"=none):FnOk P w K mg base CX0 1 f fd ["deed","names"] spWith:=by
  refine F.by scWith (fun vs H Q E h=>?_) (fun cdv A outer s H vs Q E hr h=>?_)
  · obtain ⟨p,l,d,tk,g,rfl,_⟩:=h
    rfl
  obtain ⟨p,l,d,tk,g,rfl,hd,hl,q⟩:=h
  refine ⟨_,
    (jss_cons (js_if (jt_cmpR jo_eq (je_ixK K (jv 0)) je_str (nomark _)) (jss_one (js_ret (jv 0))) jss_nil)
    (jss_cons (js_if (jt_cmpR jo_eq (je_ixK K (jv 0)) je_str (nomark _)) (jss_one (js_ret (je_op jo_catT (je_slice jl_tupO (jv 0) jo_none (jo_some je_int)) (je_fnTy (jc_tuple_ofK K) rfl m_tuple PyProof.Rows.boot_tuple (ja_c (jv 1) ja_nil))))) jss_nil)
    (jss_cons (js_if (jt_cmpR jo_eq (je_ixK K (jv 0)) je_str (nomark _)) (jss_one (js_ret (je_tup (ja_c je_str (ja_c (je_ixLK K (jv 1)) (ja_c (je_fnTy (jc_tuple_ofK K) rfl m_tuple PyProof.Rows.boot_tuple (ja_c (je_slice (jl_listK K) (jv 1) (jo_some je_int) jo_none) ja_nil)) ja_nil)))))) jss_nil)
    (jss_one (js_ret (je_op jo_catT (je_slice jl_tupO (jv 0) jo_none (jo_some je_int)) (je_tup (ja_c (je_fnTy (jc_tuple_ofK K) rfl m_tuple PyProof.Rows.boot_tuple (ja_c (jv 1) ja_nil)) ja_nil)))))))),?_⟩
  have sl:=line0
  cases d with
  | num i =>
    have hp:H p=some (.tup [.str "num",.int i]):=hd
    exact ifSay rfl hp (ex2q rfl (q _ p (Same.refl _) (.num hp)))
  | op w0 a b =>
    have hp:H p=some (.tup [.str "op",.str w0,.str a,.str b]):=hd
    refine ifNot rfl hp (ifSay rfl hp ?_)
    refine (ex2q rfl ⟨2,rfl,p,(ex2q rfl ⟨hp,fun p3 H1 s1 h3=>(ex2q rfl ⟨l,(ex2q rfl (.inl ⟨SqL.of (s1 _ _ hl),fun t4 f4=>?_⟩))⟩)⟩)⟩)
    refine ⟨p3,t4,[.str "op",.str w0],(ex2q rfl ⟨rfl,SqT.of (old f4 h3),SqT.of upd_same,(by intro z; cases z),by show 4<=sizeLine; decide,(fun e=>by cases e),fun _ pd fd'=>?_⟩)⟩
    exact q _ pd (((show Same H H1 from s1).new f4).new fd') (.op upd_same)
  | app w0 f0 xs0 =>
    obtain ⟨q0,c,hp,hq⟩:=hd
    refine ifNot rfl hp (ifNot rfl hp ?_ (decide_eq_false fun e=>c.2.1 (V.str.inj e))) (decide_eq_false fun e=>c.1 (V.str.inj e))
    by_cases e:w0="ask"
    · subst e
      rw [uses_ask] at hl
      refine ifSay rfl hp (ex2q rfl (ixL hl (atI_nat (j:=0) rfl) ?_))
      refine (ex2q rfl ⟨1,rfl,l,(ex2q rfl ⟨SqL.of hl,fun l2 f2=>⟨l2,(ex2q rfl (.inl ⟨SqL.of upd_same,fun t3 f3=>⟨by show 3<=sizeLine; decide,fun pd fd'=>?_⟩⟩))⟩⟩)⟩)
      have e2:cutV ((f0 :: xs0).map fun x=>V.str (g x)) (some 1) none=(xs0.map g).map V.str:=by rw [cut_drop (by decide),List.map_map]; rfl
      refine q _ pd (((same_new f2 _).new f3).new fd') ?_
      rw [plD,if_pos rfl]
      refine .app ⟨c.1,c.2.1,by rw [List.length_map]; exact c.2.2⟩ upd_same (old fd' ?_)
      rw [upd_same,e2]
    · rw [uses_app e] at hl
      refine ifNot rfl hp ?_ (decide_eq_false fun z=>e (V.str.inj z))
      refine (ex2q rfl ⟨2,rfl,p,(ex2q rfl ⟨hp,fun p3 H1 s1 h3=>(ex2q rfl ⟨l,(ex2q rfl (.inl ⟨SqL.of (s1 _ _ hl),fun t4 f4=>⟨by show 1<=sizeLine; decide,fun t5 f5=>?_⟩⟩))⟩)⟩)⟩)
      refine ⟨p3,t5,[.str w0,.str f0],(ex2q rfl ⟨rfl,SqT.of (old f5 (old f4 h3)),SqT.of upd_same,(by intro z; cases z),by show 3<=sizeLine; decide,(fun e=>by simp at e),fun _ pd fd'=>?_⟩)⟩
      refine q _ pd ((((show Same H H1 from s1).new f4).new f5).new fd') ?_
      rw [plD,if_neg e]
      exact .app ⟨c.1,c.2.1,by rw [List.length_map]; exact c.2.2⟩ upd_same (old fd' (old f5 (by rw [upd_same,List.map_map]; rfl)))
theorem scMeant:FnScope ["name","stands"] ["name","stands"] (defScope sMeant):=⟨rfl,rfl,rfl,by decide +kernel,rfl,by decide +kernel,by decide +kernel⟩
theorem Sd.get {H:Hp} {d:Addr} {σ:Sg} {n:Nat} (h:Sd H d σ n) (x:Str):DGet H d (.str x) ((σ x).map V.str):=by
  obtain ⟨kvs,h1,_,_,h4⟩:=h.ex
  exact .inl ⟨kvs,.inr x,.inl h1,rfl,(h4 x).symm⟩
theorem Sd.isd {H:Hp} {d:Addr} {σ:Sg} {n:Nat} (h:Sd H d σ n):IsD H d:=by
  obtain ⟨kvs,h1,_⟩:=h.ex
  exact .inl ⟨kvs,.inl h1⟩
theorem ok_meant (F:Fun K "meant" "meant" sMeant f fd):FnOk P w K mg base CX0 1 f fd ["name","stands"] spMeant:=by
  refine F.by scMeant (fun vs H Q E h=>?_) (fun cdv A outer s H vs Q E hr h=>?_)
  · obtain ⟨x,d,σ,n,rfl,_⟩:=h
    rfl
  obtain ⟨x,d,σ,n,rfl,hd,q⟩:=h
  refine ⟨_,(jss_one (js_ret (je_dget2 hr (jv 1) (jv 0) (jv 0)))),?_⟩
  refine ex2q rfl ⟨d,rfl,hd.isd,ex22q rfl rfl ⟨_,hd.get x,?_⟩⟩
  have e:((σ x).map V.str).getD (.str x)=.str (σ.m x):=by
    unfold Sg.m
    cases σ x <;> rfl
  rw [e]
  exact q
theorem scStanding:FnScope ["stands","name","other","changed"] ["stands","name","other"] (defScope sStanding):=⟨rfl,rfl,rfl,by decide +kernel,rfl,by decide +kernel,by decide +kernel⟩
theorem ok_standing (F:Fun K "standing" "standing" sStanding f fd) (m_dict:mg "dict"=none):FnOk P w K mg base CX0 1 f fd ["stands","name","other"] spStanding:=by
  refine F.by scStanding (fun vs H Q E h=>?_) (fun cdv A outer s H vs Q E hr h=>?_)
  · obtain ⟨x,y,d,σ,n,rfl,_⟩:=h
    rfl
  obtain ⟨x,y,d,σ,n,rfl,hd,hn,q⟩:=h
  refine ⟨_,
    (jss_cons (js_set (i:=3) scStanding.nd rfl (Or.inl rfl) (je_fnTy jc_dict_dict rfl m_dict PyProof.Rows.boot_dict (ja_c (jv 0) ja_nil)))
    (jss_cons (js_dput hr (jv 3) (jv 1) (jv 2))
    (jss_one (js_ret (jv 3))))),?_⟩
  have sl:=line0
  obtain ⟨kvs,h1,h2,h3,h4⟩:=hd.ex
  refine ex2q rfl ⟨d,kvs,rfl,h1,fun r hr=>?_⟩
  refine (show (tSeq (sDPut (tVar 3) (tVar 1) (tVar 2)) _:TS) _ [some (.ref d),some (.str x),some (.str y),some (.ref r)] (upd H r (.dK kvs)) from ?_)
  refine ex22q rfl rfl (ex2q rfl ⟨r,_,rfl,.inl ⟨kvs,.inr x,upd_same,rfl,by lia,rfl⟩,ex2q rfl ?_⟩)
  refine q _ r (fun b u e=>?_) (Sd.put h2 h3 h4)
  have n:=ne_of_none e hr
  rw [upd_ne n,upd_ne n]
  exact e
theorem scItself:FnScope ["stands","names","changed","name"] ["stands","names"] (defScope sItself):=⟨rfl,rfl,rfl,by decide +kernel,rfl,by decide +kernel,by decide +kernel⟩
theorem ok_itself (F:Fun K "itself" "itself" sItself f fd) (m_dict:mg "dict"=none):FnOk P w K mg base CX0 1 f fd ["stands","names"] spItself:=by
  refine F.by scItself (fun vs H Q E h=>?_) (fun cdv A outer s H vs Q E hr h=>?_)
  · obtain ⟨d,l,xs,σ,n,rfl,_⟩:=h
    rfl
  obtain ⟨d,l,xs,σ,n,rfl,hd,hl,q⟩:=h
  refine ⟨_,
    (jss_cons (js_set (i:=2) scItself.nd rfl (Or.inl rfl) (je_fnTy jc_dict_dict rfl m_dict PyProof.Rows.boot_dict (ja_c (jv 0) ja_nil)))
    (jss_cons (js_for PassesOwn.never rfl (ji_alt (ji_list (jv 1)) (ji_tupK K (jv 1))) (jg_name (i:=3) scItself.nd rfl (Or.inl rfl))
      (jss_one (js_expr (je_dpop2 (jv 2) (jv 3) je_non))))
    (jss_one (js_ret (jv 2))))),?_⟩
  have sl:=line0
  obtain ⟨kvs,h1,h2,h3,h4⟩:=hd.ex
  refine ex2q rfl ⟨d,kvs,rfl,h1,fun r hr=>?_⟩
  have nr:∀ {b:Addr} {u:HO},H b=some u->b≠r:=fun e=>ne_of_none e hr
  have hr0:Sd (upd H r (.dK kvs)) r (σ.cut ([]:List Str)) n:=⟨kvs,upd_same,h2,h3,fun z=>by rw [h4]; unfold Sg.cut; simp⟩
  have step:∀ (i:Nat) (v:V) (σ':St) (H1:Hp),(xs.map V.str)[i]?=some v->((∀ b u,H b=some u->H1 b=some u)/\Sd H1 r (σ.cut (xs.take i)) n/\∃ z,σ'=[some (.ref d),some (.ref l),some (.ref r),z])->∀ D:Ends,(∀ H2,(∀ b u,H b=some u->H2 b=some u)->Sd H2 r (σ.cut (xs.take (i + 1))) n->D.nx [some (.ref d),some (.ref l),some (.ref r),some v] H2)->(tDrop (tDPop2 (tVar 2) (tVar 3) (tC .non)):TS) D [some (.ref d),some (.ref l),some (.ref r),some v] H1:=by
    rintro i v σ' H1 hv ⟨k1,hd1,_⟩ D q
    rw [List.getElem?_map] at hv
    obtain ⟨x,hx,rfl⟩:=Option.map_eq_some_iff.mp hv
    rw [List.take_add_one,hx,Option.toList_some,<- Sg.cut_one] at q
    obtain ⟨kv,g1,g2,g3,g4⟩:=hd1.ex
    refine ex2q rfl ⟨r,rfl,hd1.isd,ex2q rfl ⟨kv,.inr x,g1,rfl,fun v hv=>?_,fun hv=>?_⟩⟩
    · refine q _ (fun b u e=>by rw [upd_ne (nr e)]; exact k1 b u e) ⟨_,upd_same,Nat.le_trans (dropK_le _ _) g2,fun kv hk=>g3 kv (dropK_mem hk),fun z=>?_⟩
      rw [valV_drop,g4,show ∀ τ:Sg,τ.cut [x] z=if z=x then none else τ z from fun τ=>by unfold Sg.cut; simp]
      by_cases e:z=x
      · rw [if_pos (by rw [e]),if_pos e]; rfl
      · rw [if_neg (fun y=>e (Sum.inr.inj y)),if_neg e]
    · refine q _ k1 ⟨kv,g1,g2,g3,fun z=>?_⟩
      rw [g4,show ∀ τ:Sg,τ.cut [x] z=if z=x then none else τ z from fun τ=>by unfold Sg.cut; simp]
      by_cases e:z=x
      · rw [if_pos e,e]
        rw [g4] at hv
        exact hv
      · rw [if_neg e]
  have k0:∀ b u,H b=some u->upd H r (.dK kvs) b=some u:=fun b u e=>by rw [upd_ne (nr e)]; exact e
  rcases hl with hl | hl
  · refine .inl (ex2q rfl ⟨l,rfl,⟨_,SqL.of (k0 _ _ hl)⟩,for_list (xs:=xs.map V.str) (fun i σ' H1=>(∀ b u,H b=some u->H1 b=some u)/\Sd H1 r (σ.cut (xs.take i)) n/\∃ z,σ'=[some (.ref d),some (.ref l),some (.ref r),z]) ⟨k0,hr0,none,rfl⟩ (fun i σ' H1 _ h=>SqL.of (h.1 _ _ hl)) ?_ ?_⟩)
    · rintro i v σ' H1 hv h
      obtain ⟨_,_,z,rfl⟩:=id h
      exact step i v _ H1 hv h _ fun H2 k2 d2=>⟨k2,d2,_,rfl⟩
    · rintro σ' H1 ⟨k1,hd1,z,rfl⟩
      rw [List.length_map,List.take_of_length_le (Nat.le_refl _)] at hd1
      exact ex2q rfl (q _ r k1 hd1)
  · refine .inr (ex2q rfl ⟨l,rfl,⟨_,SqT.of (k0 _ _ hl)⟩,for_tup (xs:=xs.map V.str) (fun i σ' H1=>(∀ b u,H b=some u->H1 b=some u)/\Sd H1 r (σ.cut (xs.take i)) n/\∃ z,σ'=[some (.ref d),some (.ref l),some (.ref r),z]) ⟨k0,hr0,none,rfl⟩ (fun i σ' H1 _ h=>SqT.of (h.1 _ _ hl)) ?_ ?_⟩)
    · rintro i v σ' H1 hv h
      obtain ⟨_,_,z,rfl⟩:=id h
      exact step i v _ H1 hv h _ fun H2 k2 d2=>⟨k2,d2,_,rfl⟩
    · rintro σ' H1 ⟨k1,hd1,z,rfl⟩
      rw [List.length_map,List.take_of_length_le (Nat.le_refl _)] at hd1
      exact ex2q rfl (q _ r k1 hd1)
end
end GN
namespace GN
open PySem L2 K11
def spPDeed:Sp:=fun vs H Q _=>∃ (p sd:Addr) (d:De) (tk:List Str) (σ:Sg) (n:Nat),vs=[.ref p,.ref sd]/\IsMd H d tk p/\Sd H sd σ n/\∀ H' q,Same H H'->IsDe H' (plD d σ.m) q->Q (.ref q) H'
def Mr.kids:Mr->Sg->List (Mc × Sg)
  | .nil,_=>[]
  | .cons _ xs _ _ b r,σ=>(b,σ.cut xs) :: r.kids σ
def spPArms:Sp:=fun vs H Q _=>∃ (pa pl:Addr) (ps:List Addr) (rs:List V) (as:Mr) (σ:Sg),vs=[.ref pa,.ref pl]/\H pa=some (.tup (ps.map V.ref))/\IsMr H as ps/\H pl=some (.lst rs)/\All2 (fun (t:Mc × Sg) v=>∃ p,v=.ref p/\IsB H (plB t.1 t.2) p) (as.kids σ) rs/\ps.length<=1000000/\∀ H' q qs,Same H H'->H' q=some (.tup (qs.map V.ref))->qs.length=ps.length->IsA H' (plA as σ) qs->Q (.ref q) H'
abbrev KidsB (H:Hp) (ts:List (Mc × Sg)) (rs:List V):Prop:=All2 (fun (t:Mc × Sg) v=>∃ p,v=.ref p/\IsB H (plB t.1 t.2) p) ts rs
theorem Mr.kids_len {H:Hp} {σ:Sg}:∀ {as:Mr} {ps:List Addr},IsMr H as ps->(as.kids σ).length=ps.length
  | .nil,_,h=>by rw [IsMr] at h; rw [h]; rfl
  | .cons _ _ _ _ _ _,_,⟨p,q,s,ps,e,_,_,_,h⟩=>by rw [e,Mr.kids,List.length_cons,List.length_cons,Mr.kids_len h]
theorem arms_of {H:Hp} {σ:Sg}:∀ {as:Mr} {ps qs:List Addr} {rs:List V},IsMr H as ps->KidsB H (as.kids σ) rs->qs.length=ps.length->(∀ (i:Nat) (p q:Addr) (v:V),ps[i]?=some p->qs[i]?=some q->rs[i]?=some v->∃ t a rest,H p=some (.tup (t :: a :: rest))/\H q=some (.tup [t,a,v]))->IsA H (plA as σ) qs
  | .nil,_,qs,_,h,_,hl,_=>by
    rw [IsMr] at h
    subst h
    rw [List.length_eq_zero_iff.mp hl,plA]
    exact .nil
  | .cons t xs md tk b r,_,qs,_,⟨p,q,s,ps,e,h1,h2,h3,h4⟩,hk,hl,g=>by
    subst e
    rw [Mr.kids] at hk
    cases hk with
    | @cons _ v _ rs hv hk =>
    obtain ⟨pb,rfl,hb⟩:=hv
    match qs,hl with
    | q' :: qs,hl =>
    obtain ⟨t',a',rest,g1,g2⟩:=g 0 p q' _ rfl rfl rfl
    rw [h1] at g1
    cases g1
    rw [plA]
    exact .cons g2 h2 hb (arms_of h4 hk (by simpa using hl) fun i p q v e1 e2 e3=>g (i + 1) p q v (by simpa using e1) (by simpa using e2) (by simpa using e3))
theorem IsMr.get {H:Hp}:∀ {as:Mr} {ps:List Addr} {i:Nat} {p:Addr},IsMr H as ps->ps[i]?=some p->∃ t xs md tk q s b,H p=some (.tup [.str t,.ref q,.str md,.str tk,.ref s])/\H q=some (.tup (xs.map V.str))/\IsMc H b s/\∀ σ,(as.kids σ)[i]?=some (b,σ.cut xs)
  | .nil,_,i,_,h,e=>by rw [IsMr] at h; rw [h] at e; simp at e
  | .cons t xs md tk b r,_,i,p0,⟨p,q,s,ps,e,h1,h2,h3,h4⟩,e0=>by
    subst e
    cases i with
    | zero=>cases e0; exact ⟨t,xs,md,tk,q,s,b,h1,h2,h3,fun σ=>by rw [Mr.kids]; rfl⟩
    | succ i =>
      obtain ⟨t,xs,md,tk,q,s,b,a1,a2,a3,a4⟩:=IsMr.get (i:=i) h4 (by simpa using e0)
      exact ⟨t,xs,md,tk,q,s,b,a1,a2,a3,fun σ=>by rw [Mr.kids]; simpa using a4 σ⟩
theorem IsMr.lsz {H:Hp}:∀ {as:Mr} {ps:List Addr},IsMr H as ps->ps.length<=as.sz
  | .nil,_,h=>by rw [IsMr] at h; rw [h]; exact Nat.zero_le _
  | .cons _ _ _ _ _ _,_,⟨p,q,s,ps,e,_,_,_,h⟩=>by
    have:=IsMr.lsz h
    rw [e,Mr.sz,List.length_cons]
    lia
theorem IsMr.kz {H:Hp}:∀ {as:Mr} {ps:List Addr} {i:Nat} {p:Addr},IsMr H as ps->ps[i]?=some p->∀ (σ:Sg) {t:Mc × Sg},(as.kids σ)[i]?=some t->t.1.sz<=as.sz
  | .nil,_,i,_,h,e,σ,t,g=>by rw [Mr.kids] at g; simp at g
  | .cons t xs md tk b r,_,i,p0,⟨p,q,s,ps,e,h1,h2,h3,h4⟩,e0,σ,t',g=>by
    subst e
    rw [Mr.sz]
    cases i with
    | zero=>rw [Mr.kids] at g; cases g; show b.sz<=_; lia
    | succ i =>
      have:=IsMr.kz (i:=i) h4 (by simpa using e0) σ (by rw [Mr.kids] at g; simpa using g)
      lia
theorem KidsB.keep {H H':Hp} {ts:List (Mc × Sg)} {rs:List V} (h:KidsB H ts rs) (t:Tups H H'):KidsB H' ts rs:=All2.imp h fun _ _ ⟨p,e,b⟩=>⟨p,e,b.keep t⟩
section
variable {P:Program} {w:World} {K:PySem.W.Frag} {mg:Str->Option Value} {base:Heap} {f:Addr} {fd:FuncData}
theorem scPDeed:FnScope ["deed","stands"] ["deed","stands"] (defScope sPlainDeed):=⟨rfl,rfl,rfl,by decide +kernel,rfl,by decide +kernel,by decide +kernel⟩
theorem ndPDeed:(["deed","stands","name"]:List Str).Nodup:=by decide +kernel
theorem ok_pdeed (F:Fun K "plain_deed" "plain_deed" sPlainDeed f fd) (GN':Ca P w K mg base CX0 1 "names_of" ["deed"] spNamesOf) (GW:Ca P w K mg base CX0 1 "with_names" ["deed","names"] spWith) (GM:Ca P w K mg base CX0 1 "meant" ["name","stands"] spMeant):FnOk P w K mg base CX0 2 f fd ["deed","stands"] spPDeed:=by
  refine F.by scPDeed (fun vs H Q E h=>?_) (fun cdv A outer s H vs Q E hr h=>?_)
  · obtain ⟨p,sd,d,tk,σ,n,rfl,_⟩:=h
    rfl
  obtain ⟨p,sd,d,tk,σ,n,rfl,hd,hs,q⟩:=h
  refine ⟨_,
    (jss_one (js_ret (je_ca GW hr rfl pass0 (ja_c (jv 0) (ja_c (je_comp ["name"] rfl (ji_tupK K (je_ca GN' hr rfl pass0 (ja_c (jv 0) ja_nil))) (fun _ _ _ _ _=>(jg_name (i:=2) ndPDeed rfl (Or.inl rfl))) (fun _ _ _ _ _=>jts_nil) (fun _ _ _ _ _=>(je_ca GM hr rfl pass0 (ja_c (jv 2) (ja_c (jv 1) ja_nil))))) ja_nil))))),?_⟩
  have sl:=line0
  have ul:=hd.usl
  refine ex22q rfl rfl ⟨p,d,tk,rfl,hd,fun H1 q1 s1 hq1=>⟨q1,rfl,⟨_,SqT.of hq1⟩,lc_tup (xs:=d.uses.map V.str) (fun j τ ys H'=>H1=H'/\(∃ v,τ=[some (.ref p),some (.ref sd),v])/\ys=(d.uses.take j).map fun x=>V.str (σ.m x)) ⟨rfl,⟨none,rfl⟩,rfl⟩ (fun j τ ys H' _ h=>SqT.of (h.1 ▸ hq1)) ?_ ?_⟩⟩
  · rintro j v τ ys H2 hv ⟨rfl,⟨v',rfl⟩,rfl⟩
    rw [List.getElem?_map] at hv
    obtain ⟨x,hx,rfl⟩:=Option.map_eq_some_iff.mp hv
    refine ex22q rfl rfl ⟨x,sd,σ,n,rfl,hs.same s1,⟨by rw [List.length_map,List.length_take]; lia,rfl,⟨_,rfl⟩,?_⟩⟩
    rw [List.take_add_one,hx,Option.toList_some,List.map_append]
    rfl
  rintro τ ys H2 ⟨rfl,_,rfl⟩ l hl
  rw [List.length_map,List.take_of_length_le (Nat.le_refl _)]
  have s2:=same_new (o:=.lst (d.uses.map fun x=>V.str (σ.m x))) hl
  exact ⟨p,l,d,tk,σ.m,rfl,hd.keep (.of (s1.trans s2)),upd_same,fun H' r s3 h3=>q H' r ((s1.trans s2).trans s3) h3⟩
theorem scPArms:FnScope ["arms","bodies"] ["arms","bodies"] (defScope sPlainArms):=⟨rfl,rfl,rfl,by decide +kernel,rfl,by decide +kernel,by decide +kernel⟩
theorem ndPArms:(["arms","bodies","arm","body"]:List Str).Nodup:=by decide +kernel
theorem ok_parms (F:Fun K "plain_arms" "plain_arms" sPlainArms f fd) (m_tuple:mg "tuple"=none) (m_zip:mg "zip"=none):FnOk P w K mg base CX0 1 f fd ["arms","bodies"] spPArms:=by
  refine F.by scPArms (fun vs H Q E h=>?_) (fun cdv A outer s H vs Q E hr h=>?_)
  · obtain ⟨pa,pl,ps,rs,as,σ,rfl,_⟩:=h
    rfl
  obtain ⟨pa,pl,ps,rs,as,σ,rfl,hpa,hm,hpl,hk,hn,q⟩:=h
  refine ⟨_,
    (jss_one (js_ret (je_fnTy (jc_tuple_ofK K) rfl m_tuple PyProof.Rows.boot_tuple (ja_c (je_comp ["arm","body"] rfl (ji_zipK K rfl m_zip (ja_c (jv 0) (ja_c (jv 1) ja_nil))) (fun _ _ _ _ _=>(jg_tupK K (n:=2) rfl (jgs_cons (jg_name (i:=2) ndPArms rfl (Or.inl rfl)) (jgs_cons (jg_name (i:=3) ndPArms rfl (Or.inl rfl)) jgs_nil)))) (fun _ _ _ _ _=>jts_nil) (fun _ _ _ _ _=>(je_tup (ja_c (je_ixK K (jv 2)) (ja_c (je_ixK K (jv 2)) (ja_c (jv 3) ja_nil)))))) ja_nil)))),?_⟩
  have sl:=line0
  have kl:rs.length=ps.length:=(All2.len hk).symm.trans (Mr.kids_len hm)
  refine ex22q rfl rfl ⟨pa,pl,false,true,_,_,rfl,SqK.t hpa,SqK.l hpl,lc_zip (xs:=ps.map V.ref) (ys:=rs) (by rw [List.length_map]; exact kl.symm) (fun j τ zs H'=>Same H H'/\(∃ u v,τ=[some (.ref pa),some (.ref pl),u,v])/\∃ qs:List Addr,zs=qs.map V.ref/\qs.length=j/\∀ (i:Nat) (p q:Addr) (v:V),ps[i]?=some p->qs[i]?=some q->rs[i]?=some v->∃ t a rest,H p=some (.tup (t :: a :: rest))/\H' q=some (.tup [t,a,v])) ⟨Same.refl _,⟨none,none,rfl⟩,[],rfl,rfl,fun i p q v _ e=>by simp at e⟩ (fun j τ zs H' _ h=>⟨SqK.t (h.1 _ _ hpa),SqK.l (h.1 _ _ hpl)⟩) ?_ ?_⟩
  · rintro i v1 v2 T τ zs H3 g1 g2 hT ⟨s3,⟨u,v,rfl⟩,qs,rfl,hl,hq⟩
    rw [List.getElem?_map] at g1
    obtain ⟨p,hp,rfl⟩:=Option.map_eq_some_iff.mp g1
    obtain ⟨t,xs,md,tk,q0,s0,b,a1,a2,a3,a4⟩:=hm.get hp
    have s4:=s3.new (o:=.tup [.ref p,v2]) hT
    have s34:=same_new (o:=.tup [.ref p,v2]) hT
    have il:=(List.getElem?_eq_some_iff.mp hp).1
    refine ⟨T,(ex2q rfl ⟨SqT.of upd_same,rfl,_,_,rfl,_,_,rfl,rfl,?_⟩)⟩
    generalize upd H3 T (.tup [.ref p,v2])=H4 at *
    refine (ex2q rfl (ixT (s4 _ _ a1) (atI_nat (j:=0) rfl) (ex2q rfl (ixT (s4 _ _ a1) (atI_nat (j:=1) rfl) (ex2q rfl ⟨by show 3<=sizeLine; decide,fun r hr=>⟨by rw [List.length_map]; lia,s4.new hr,⟨_,_,rfl⟩,qs ++ [r],by simp,by simp [hl],fun j p' q' v' e1 e2 e3=>?_⟩⟩)))))
    by_cases c:j < qs.length
    · rw [List.getElem?_append_left c] at e2
      obtain ⟨t',a',rest,b1,b2⟩:=hq j p' q' v' e1 e2 e3
      exact ⟨t',a',rest,b1,old hr (s34 _ _ b2)⟩
    · have ej:j=i:=by
        have:=(List.getElem?_eq_some_iff.mp e2).1
        rw [List.length_append] at this
        simp at this
        lia
      subst ej
      rw [List.getElem?_append_right (by lia),hl,Nat.sub_self] at e2
      cases e2
      rw [hp] at e1
      cases e1
      rw [g2] at e3
      cases e3
      exact ⟨_,_,_,a1,upd_same⟩
  rintro τ zs H5 ⟨s5,_,qs,rfl,hl,hq⟩ l5 h5
  rw [List.length_map] at hl
  refine ⟨l5,ex2q rfl (.inl ⟨SqL.of upd_same,fun t6 h6=>?_⟩)⟩
  have s6:=(s5.new (o:=.lst (qs.map V.ref)) h5).new (o:=.tup (qs.map V.ref)) h6
  refine q _ t6 qs s6 upd_same hl (arms_of (hm.keep (.of s6)) (KidsB.keep hk (.of s6)) hl fun i p q v e1 e2 e3=>?_)
  obtain ⟨t,a,rest,b1,b2⟩:=hq i p q v e1 e2 e3
  exact ⟨t,a,rest,s6 _ _ b1,old h6 (old h5 b2)⟩
end
end GN
namespace L2
open PySem
theorem TbG.same {T:Addr} {ls:List (Pos × Str)} {H H':Hp} (h:TbG T ls H) (s:Same H H'):TbG T ls H':=h.keep (fun ps e=>s _ _ e) fun c q e=>s _ _ e
theorem TbG.no {T:Addr} {ls:List (Pos × Str)} {H:Hp} (h:TbG T ls H) {b:Addr} {u:HO} (e:H b=some u) (n:∀ ps,u≠.tbl ps):b≠T:=fun z=>by
  obtain ⟨ps,h,_⟩:=h
  rw [z,h] at e
  exact n _ (Option.some.inj e).symm
end L2
namespace GN
open PySem L2 K11
theorem clo_gen {H:Hp} {cl:List (Str × Addr)} {fvs:List V} (nd:(cl.map (·.1)).Nodup) (na:(cl.map (·.2)).Nodup) (hl:fvs.length=cl.length) (h:∀ (i:Nat) (p:Str × Addr) (v:V),cl[i]?=some p->fvs[i]?=some v->Cel H p.2 v):Clo H cl (cl.map (·.1)) fvs:=by
  have lk:∀ {l:List (Str × Addr)} {x:Str} {a:Addr},(l.map (·.1)).Nodup->(x,a)∈l->l.lookup x=some a:=by
    intro l x a
    induction l with
    | nil=>intro _ h; cases h
    | cons p l ih =>
      intro n h
      rw [List.map_cons,List.nodup_cons] at n
      obtain ⟨y,c⟩:=p
      rcases List.mem_cons.mp h with e | h
      · cases e
        rw [List.lookup_cons]
        simp
      · have ne:(x == y)=false:=by
          rw [beq_eq_false_iff_ne]
          intro e
          exact n.1 (List.mem_map.mpr ⟨_,h,e⟩)
        rw [List.lookup_cons,ne]
        exact ih n.2 h
  have ml:∀ {l:List (Str × Addr)} {x:Str} {a:Addr},l.lookup x=some a->(x,a)∈l:=fun e=>PySem.mem_of_lookup e
  refine ⟨by rw [List.length_map]; exact hl,fun p hp=>?_,fun i x v e1 e2=>?_,fun x hx=>?_,fun x y a e1 e2=>?_⟩
  · obtain ⟨i,hi⟩:=List.mem_iff_getElem?.mp hp
    have:i < fvs.length:=by rw [hl]; exact (List.getElem?_eq_some_iff.mp hi).1
    exact ⟨_,h i p _ hi (List.getElem?_eq_getElem this)⟩
  · rw [List.getElem?_map] at e1
    obtain ⟨p,hp,rfl⟩:=Option.map_eq_some_iff.mp e1
    exact ⟨p.2,lk nd (List.mem_of_getElem? hp),h i p v hp e2⟩
  · obtain ⟨p,hp,rfl⟩:=List.mem_map.mp hx
    exact ⟨p.2,lk nd hp⟩
  · have m1:=ml e1
    have m2:=ml e2
    have aux:∀ {l:List (Str × Addr)},(l.map (·.2)).Nodup->(x,a)∈l->(y,a)∈l->x=y:=by
      intro l
      induction l with
      | nil=>intro _ h; cases h
      | cons p l ih =>
        intro n h1 h2
        rw [List.map_cons,List.nodup_cons] at n
        rcases List.mem_cons.mp h1 with e1 | h1 <;> rcases List.mem_cons.mp h2 with e2 | h2
        · rw [<- e1] at e2; exact (Prod.mk.inj e2).1.symm
        · exact absurd (List.mem_map.mpr ⟨_,h2,by rw [<- e1]⟩) n.1
        · exact absurd (List.mem_map.mpr ⟨_,h1,by rw [<- e2]⟩) n.1
        · exact ih n.2 h1 h2
    exact aux na m1 m2
theorem mask_tups {H:Hp} {as:List Addr} (hc:∀ a∈as,∃ v,Cel H a v):Tups H (maskH H as):=fun p xs e=>mask_keep hc e (by intro _ _ _ z; cases z)
theorem plus_same {H H':Hp} {as:List Addr} (s:Same (maskH H as) H'):Same H (plusH H' H as):=fun b u e=>by
  by_cases z:b∈as
  · rw [plus_in z]; exact e
  · rw [plus_out z]; exact s b u (by rw [mask_out z]; exact e)
theorem plus_new {H H':Hp} {as:List Addr} {b:Addr} {u:HO} (hn:∀ a∈as,H' a=none) (e:H' b=some u):plusH H' H as b=some u:=by
  rw [plus_out]
  · exact e
  · intro z; rw [hn b z] at e; cases e
theorem Pub.same {H H3:Hp} {cvs:List (Addr × V)} (h:Pub H H3 cvs):Same H H3:=fun b u e=>by
  rw [h.old b]
  · exact e
  · intro z
    obtain ⟨p,hp,rfl⟩:=List.mem_map.mp z
    rw [h.non p hp] at e; cases e
theorem Pub.nil {H H3:Hp} (h:Pub H H3 []):H3=H:=funext fun b=>h.old b (by simp)
theorem lam_can {P:Program} {w:World} {K:PySem.W.Frag} {mg:Str->Option Value} {base:Heap} {k:Nat} {f c:Addr} {qual:Str} {params:Arguments} {body:Expr} {scope:Scope} {cl:List (Str × Addr)} {ct:Value} {N fs:List Str} {x:Str} {v:V} {H:Hp} {Q:VK} {fvs:List V}
    (S:LamScope N [x] fs scope) (bd:Binds K (lamC mg qual params body scope cl c ct) [x] []) (hf:H f=some (FunO f (lamC mg qual params body scope cl c ct))) (hc:H c=some (CodO c qual)) (C:Clo H cl fs fvs)
    (hb:∀ (A:Around) (outer:List Env) (s:Shared),Room k (A.deeper (PySem.W.envX qual scope s.heap.objs.size f (.ref c) cl))->∃ t,jE (cxLam CX0 P w K mg base N qual scope f (.ref c) cl A outer s H E0) body t/\t (some v :: fvs.map some) (maskH H (cl.map (·.2))) fun r H'=>(∀ a∈cl.map (·.2),H' a=none)->Q r (plusH H' H (cl.map (·.2)))) :
    CanC P w K mg base (k + 1) H f [v] Q E0:=by
  refine ⟨lamC mg qual params body scope cl c ct,[x],fun vs H1 Q1 E1=>vs=[v]/\H1=H/\Q1=Q/\E1=E0,lam_ofC (k:=k) S (fun vs H1 Q1 E1 h=>?_) (fun A outer s H1 vs Q1 E1 hr h=>?_),bd,⟨rfl,rfl,rfl,rfl⟩,.inl hf⟩
  · rw [h.1]; rfl
  · obtain ⟨rfl,rfl,rfl,rfl⟩:=h
    exact ⟨hf,hc,fvs,C,hb A outer s hr⟩
def isLam:Expr->Expr
  | .Tuple [_,l] _ _=>l
  | .Call _ [_,l] _ _=>l
  | e=>e
def lmP:Expr->Arguments
  | .Lambda a _ _ _=>a
  | _=>defArgs sBegPlain
def lmB:Expr->Expr
  | .Lambda _ b _ _=>b
  | e=>e
def lmS:Expr->Scope
  | .Lambda _ _ s _=>s
  | _=>defScope sBegPlain
def lmPos:Expr->Pos
  | .Lambda _ _ _ p=>p
  | _=>⟨0,0,0,0⟩
def noX:Expr:=.Constant .none 0 ⟨0,0,0,0⟩
def lamL:Expr:=match defBody sBegPlain with
  | [_,_,.If _ [_,.Return (some e) _] _ _,_,_,_,_,_]=>isLam e
  | _=>noX
def lamG:Expr:=match defBody sBegPlain with
  | [_,_,_,_,.If _ [.Return (some e) _] _ _,_,_,_]=>isLam e
  | _=>noX
def lamI:Expr:=match defBody sBegPlain with
  | [_,_,_,_,_,.If _ [.Return (some e) _] _ _,_,_]=>isLam e
  | _=>noX
def lamC':Expr:=match defBody sBegPlain with
  | [_,_,_,_,_,_,_,.Return (some e) _]=>isLam e
  | _=>noX
def lamT:Expr:=match defBody sPlainBody with
  | [.Return (some e) _]=>isLam e
  | _=>noX
def lamQB:Str:=("begun_plain":Str) ++ (".<locals>.":Str) ++ ("<lambda>":Str)
def lamQT:Str:=("plain_body":Str) ++ (".<locals>.":Str) ++ ("<lambda>":Str)
def ls2:List (Pos × Str):=[(lmPos lamL,lamQB),(lmPos lamG,lamQB),(lmPos lamI,lamQB),(lmPos lamC',lamQB)]
def ls1:List (Pos × Str):=[(lmPos lamT,lamQT)]
abbrev Tk:=Mc × Sg
def Tk.kids:Tk->List Tk
  | (.give _,_)=>[]
  | (.lt x _ _ b,σ)=>[(b,σ.cut [x])]
  | (.iff _ a b,σ)=>[(a,σ),(b,σ)]
  | (.case _ as,σ)=>as.kids σ
  | (.hold n o b,σ)=>[(b,σ.put n (σ.m o))]
  | (.skip _ _ b,σ)=>[(b,σ)]
def ITp (H:Hp) (t:Tk) (v:V):Prop:=∃ a p d n,v=.ref a/\H a=some (.tup [.ref p,.ref d])/\IsMc H t.1 p/\Sd H d t.2 n/\n + t.1.sz<=1000000
theorem ITp.keep {H H':Hp} {t:Tk} {v:V} (h:ITp H t v) (k:Tups H H') (k2:∀ d kvs,H d=some (.dK kvs)->H' d=some (.dK kvs)):ITp H' t v:=by
  obtain ⟨a,p,d,n,e,h1,h2,h3,h4⟩:=h
  exact ⟨a,p,d,n,e,k _ _ h1,h2.keep k,h3.keep (k2 d),h4⟩
section
variable (P:Program) (w:World) (K:PySem.W.Frag) (mg:Str->Option Value) (base:Heap) (k:Nat) (M:Addr->Prop)
def Fin (H:Hp) (R:Addr->Prop) (ts:List Tk) (b:Bd) (f:Addr):Prop:=∀ (H':Hp) (R':Addr->Prop),Kz M R H H'->(∀ b,R b->R' b)->∀ rl rs Q,H' rl=some (.lst rs)->KidsB H' ts rs->(∀ H'' p,Same H' H''->IsB H'' b p->Q (.ref p) H'')->CanC P w K mg base k H' f [.ref rl] Q E0
end
section
variable {P:Program} {w:World} {K:PySem.W.Frag} {mg:Str->Option Value} {base:Heap} {k:Nat} {M:Addr->Prop}
theorem mk_fin {H:Hp} {R:Addr->Prop} {ts:List Tk} {b:Bd} {f c:Addr} {ct:Value} {qual:Str} {X:Expr} {cl:List (Str × Addr)} {fvs:List V} {N:List Str} (hM:∀ b u,H b=some u->(∀ ps,u≠.tbl ps)->¬ M b) (hf:H f=some (FunO f (lamC mg qual (lmP X) (lmB X) (lmS X) cl c ct))) (hc:H c=some (CodO c qual))
    (S:LamScope N ["results"] (cl.map (·.1)) (lmS X)) (bd:∀ ct,Binds K (lamC mg qual (lmP X) (lmB X) (lmS X) cl c ct) ["results"] []) (nd:(cl.map (·.1)).Nodup) (na:(cl.map (·.2)).Nodup) (hl:fvs.length=cl.length) (hcel:∀ (i:Nat) (p:Str × Addr) (v:V),cl[i]?=some p->fvs[i]?=some v->Cel H p.2 v)
    (hb:∀ (H1:Hp) (rl:Addr) (rs:List V) (Q:VK),Tups H H1->H1 rl=some (.lst rs)->KidsB H1 ts rs->(∀ H2 p,Same H1 H2->IsB H2 b p->Q (.ref p) H2)->∀ (H0:Hp) (A:Around) (outer:List Env) (s:Shared),Room k (A.deeper (PySem.W.envX qual (lmS X) s.heap.objs.size f (.ref c) cl))->∃ t,jE (cxLam CX0 P w K mg base N qual (lmS X) f (.ref c) cl A outer s H0 E0) (lmB X) t/\t (some (.ref rl) :: fvs.map some) H1 Q):Fin P w K mg base (k + 1) M H R ts b f:=by
  intro H' R2 z sub rl rs Q2 hrl hks q2
  have g:∀ {b:Addr} {u:HO},H b=some u->(∀ ps,u≠.tbl ps)->(∀ xs,u≠.lst xs)->H' b=some u:=fun {b u} e n1 n3=>z b u e (hM b u e n1) fun xs y=>absurd y (n3 xs)
  have tz:Tups H H':=fun b xs e=>g e (by intro _ z; cases z) (by intro _ z; cases z)
  have C:Clo H' cl (cl.map (·.1)) fvs:=clo_gen nd na hl fun i p v e1 e2=>by
    obtain ⟨o,e⟩:=hcel i p v e1 e2
    exact ⟨o,g e (by intro _ z; cases z) (by intro _ z; cases z)⟩
  have hcA:∀ a∈cl.map (·.2),∃ v,Cel H' a v:=fun a ha=>by
    obtain ⟨p,hp,rfl⟩:=List.mem_map.mp ha
    exact C.all p hp
  refine lam_can (k:=k) S (bd ct) (g hf (by intro _ z; unfold FunO at z; cases z) (by intro _ z; unfold FunO at z; cases z)) (g hc (by intro _ z; unfold CodO at z; cases z) (by intro _ z; unfold CodO at z; cases z)) C fun A2 outer2 s2 hr2=>?_
  exact hb _ rl rs _ (tz.trans (mask_tups hcA)) (mask_keep hcA hrl (by intro _ _ _ z; cases z)) (KidsB.keep hks (mask_tups hcA)) (fun H2 p s1 h1 hnn=>q2 _ p (plus_same s1) (h1.keep fun b xs e=>plus_new hnn e)) H' A2 outer2 s2 hr2
end
end GN
namespace GN
open PySem L2 K11
def clL (n:Nat):List (Str × Addr):=[("done",n + 3),("body",n + 1)]
def clG (n:Nat):List (Str × Addr):=[("looked",n + 4)]
def clC (n:Nat):List (Str × Addr):=[("looked",n + 4),("body",n + 1)]
theorem scLamL:LamScope ["results","done","body"] ["results"] ["done","body"] (lmS lamL):=⟨rfl,rfl,rfl,by decide +kernel,rfl,by decide +kernel,by decide +kernel,by decide +kernel,by decide +kernel⟩
theorem scLamG:LamScope ["results","looked"] ["results"] ["looked"] (lmS lamG):=⟨rfl,rfl,rfl,by decide +kernel,rfl,by decide +kernel,by decide +kernel,by decide +kernel,by decide +kernel⟩
theorem scLamI:LamScope ["results","looked"] ["results"] ["looked"] (lmS lamI):=⟨rfl,rfl,rfl,by decide +kernel,rfl,by decide +kernel,by decide +kernel,by decide +kernel,by decide +kernel⟩
theorem scLamC:LamScope ["results","looked","body"] ["results"] ["looked","body"] (lmS lamC'):=⟨rfl,rfl,rfl,by decide +kernel,rfl,by decide +kernel,by decide +kernel,by decide +kernel,by decide +kernel⟩
section
variable (P:Program) (w:World) (K:PySem.W.Frag) (mg:Str->Option Value) (base:Heap) (M:Addr->Prop) (T2:Addr)
def BegQ (c:Mc) (σ:Sg) (H:Hp) (Q:VK):Prop:=∀ (H':Hp) (q l fl:Addr) (vs:List V),KM (·=T2) H H'->TbG T2 ls2 H'->H' q=some (.tup [.ref l,.ref fl])->H l=none->H' l=some (.lst vs)->All2 (ITp H') (Tk.kids (c,σ)) vs->(∀ R,Fin P w K mg base 3 M H' R (Tk.kids (c,σ)) (plB c σ) fl)->Q (.ref q) H'
def spBegP:Sp:=fun vs H Q _=>∃ (p d:Addr) (c:Mc) (σ:Sg) (n:Nat),vs=[.ref p,.ref d]/\IsMc H c p/\Sd H d σ n/\n + c.sz<=1000000/\TbG T2 ls2 H/\(∀ H':Hp,TbG T2 ls2 H'->∀ b u,H' b=some u->(∀ ps,u≠.tbl ps)->KM (·=T2) H H'->¬ M b)/\BegQ P w K mg base M T2 c σ H Q
end
section
variable {P:Program} {w:World} {K:PySem.W.Frag} {mg:Str->Option Value} {base:Heap} {f:Addr} {fd:FuncData} {M:Addr->Prop} {T2 fo:Addr} {fdo:FuncData}
theorem fin_one (GO:FnOk P w K mg base CX0 1 fo fdo ["results"] spOnly) (bO:Binds K fdo ["results"] []) (kO:PySem.W.keepIn K (.ref fo)=true) {H:Hp} {R:Addr->Prop} {t:Tk}:Fin P w K mg base 3 M H R [t] (plB t.1 t.2) fo:=fun H' R' z sub rl rs Q hrl hks q=>by
  cases hks with
  | cons a r =>
    cases r
    obtain ⟨p,rfl,hb⟩:=a
    exact ⟨fdo,["results"],spOnly,GO.mono (by decide),bO,⟨rl,_,[],rfl,hrl,q H' p (Same.refl _) hb⟩,.inr kO⟩
theorem sayR {K:PySem.W.Frag} {σ:St} {H:Hp} {D:EndsR} {A u:TR} {p:Addr} {w0 w1:Str} {rest:List V} (h0:σ[0]?=some (some (.ref p))) (hp:H p=some (.tup (.str w0 :: rest))) (k:A { D with nx:=u D } σ H) (e:decide (V.str w0=V.str w1)=true:=by rfl):tIfR (tTest (tOp rEq (tOp (rIxT K) (tVar 0) (tC (.int 0))) (tC (.str w1)))) A u D σ H:=⟨_,h0,ixT hp (atI_nat (j:=0) rfl) ⟨rfl,_,rfl,by rw [e]; exact iteT k⟩⟩
theorem notR {K:PySem.W.Frag} {σ:St} {H:Hp} {D:EndsR} {A u:TR} {p:Addr} {w0 w1:Str} {rest:List V} (h0:σ[0]?=some (some (.ref p))) (hp:H p=some (.tup (.str w0 :: rest))) (k:u D σ H) (e:decide (V.str w0=V.str w1)=false:=by rfl):tIfR (tTest (tOp rEq (tOp (rIxT K) (tVar 0) (tC (.int 0))) (tC (.str w1)))) A u D σ H:=⟨_,h0,ixT hp (atI_nat (j:=0) rfl) ⟨rfl,_,rfl,by rw [e]; exact iteF k⟩⟩
theorem inR {K:PySem.W.Frag} {σ:St} {H:Hp} {D:EndsR} {A u:TR} {p:Addr} {w0:Str} {rest:List V} (h0:σ[0]?=some (some (.ref p))) (hp:H p=some (.tup (.str w0 :: rest))) (k:∀ H0,Same H H0->if inV (.str w0) [.str "drop",.str "loose"]=true then A { D with nx:=u D } σ H0 else u D σ H0):tIfR (tTest (tOp (rIn K false) (tOp (rIxT K) (tVar 0) (tC (.int 0))) (tTup (tCons (tC (.str "drop")) (tCons (tC (.str "loose")) tNil))))) A u D σ H:=⟨_,h0,ixT hp (atI_nat (j:=0) rfl) ⟨by show 2<=sizeLine; decide,fun t0 f0=>⟨t0,_,rfl,.inr (SqT.of upd_same),rfl,rfl,_,rfl,k _ (same_new f0 _)⟩⟩⟩
theorem lam_tail {X:Expr} {cl:List (Str × Addr)} {fvs vs:List V} {N:List Str} {σ:St} {H H6:Hp} {l:Addr} {c:Mc} {g:Sg} {Q W:VK} (hT:TbG T2 ls2 H6) (hm:(lmPos X,lamQB)∈ls2) (s4:Same H H6) (hl0:H l=none) (e2:H6 l=some (.lst vs)) (ek:All2 (ITp H6) (Tk.kids (c,g)) vs)
    (hM:∀ H':Hp,TbG T2 ls2 H'->∀ b u,H' b=some u->(∀ ps,u≠.tbl ps)->KM (·=T2) H H'->¬ M b) (q:BegQ P w K mg base M T2 c g H Q) (cvs:List (Addr × V)) (hcv:∀ (i:Nat) (p:Str × Addr) (v:V),cl[i]?=some p->fvs[i]?=some v->(p.2,v)∈cvs)
    (S:LamScope N ["results"] (cl.map (·.1)) (lmS X)) (bd:∀ cc ct,Binds K (lamC mg lamQB (lmP X) (lmB X) (lmS X) cl cc ct) ["results"] []) (nd:(cl.map (·.1)).Nodup) (na:(cl.map (·.2)).Nodup) (hl:fvs.length=cl.length)
    (hb:∀ (H1:Hp) (rl f cc:Addr) (rs:List V) (Q:VK),Tups H6 H1->H1 rl=some (.lst rs)->KidsB H1 (Tk.kids (c,g)) rs->(∀ H2 p,Same H1 H2->IsB H2 (plB c g) p->Q (.ref p) H2)->∀ (H0:Hp) (A:Around) (outer:List Env) (s:Shared),Room 2 (A.deeper (PySem.W.envX lamQB (lmS X) s.heap.objs.size f (.ref cc) cl))->∃ t,jE (cxLam CX0 P w K mg base N lamQB (lmS X) f (.ref cc) cl A outer s H0 E0) (lmB X) t/\t (some (.ref rl) :: fvs.map some) H1 Q)
    (hW:∀ fl H7,(∀ rr,H7 rr=none->∀ H3,Pub (upd H7 rr (.tup [.ref l,.ref fl])) H3 cvs->Q (.ref rr) H3)->W (.ref fl) H7):tLamC mg T2 lamQB (lmP X) (lmB X) (lmS X) (lmPos X) cl σ H6 W:=by
  refine lam_made hT hm (fun p hp _=>by unfold ls2 at hp; simp at hp; rcases hp with rfl | rfl | rfl | rfl <;> rfl) fun H7 fl cc ct k7 T7 hfl nfT ncT hfl7 hcc=>hW fl H7 fun rr hrr H9 pb1=>?_
  have s9:=Pub.same pb1
  have s79:Same H7 H9:=fun b u e=>s9 _ _ (old hrr e)
  have T9:=T7.same s79
  have k69:KM (·=T2) H6 H9:=fun b u n e=>s79 _ _ (k7 b u n e)
  have k9:KM (·=T2) H H9:=(KM.of s4).trans k69
  have g69:∀ {b:Addr} {u:HO},H6 b=some u->(∀ ps,u≠.tbl ps)->H9 b=some u:=fun {b u} e n=>k69 b u (hT.no e n) e
  have t69:Tups H6 H9:=fun b xs e=>g69 e (by intro _ z; cases z)
  refine q H9 rr l fl vs k9 T9 (s9 _ _ upd_same) hl0 (g69 e2 (by intro _ z; cases z)) (ek.imp fun _ _ h=>h.keep t69 fun d kvs e=>g69 e (by intro _ z; cases z)) fun R=>?_
  exact mk_fin (k:=2) (fun b u e n=>hM H9 T9 b u e n k9) (s79 _ _ hfl7) (s79 _ _ hcc) S (bd cc) nd na hl (fun i p v e1 e2=>pb1.cel (_,_) (hcv i p v e1 e2)) fun H1 rl rs Q t1 h1 h2 h3=>hb H1 rl fl cc rs Q (t69.trans t1) h1 h2 h3
theorem scBegPlain:FnScope ["body","stands","done","looked","within"] ["body","stands"] (defScope sBegPlain):=⟨rfl,rfl,rfl,by decide +kernel,rfl,by decide +kernel,by decide +kernel⟩
theorem ndBegPlain:(["body","stands","done","looked","within","arm"]:List Str).Nodup:=by decide +kernel
theorem ok_begPlain {c:Addr} (F:FunC K "begun_plain" sBegPlain c f fd) (hB:BMn mg base) (hc:PySem.W.codeHdIn K c T2=true) (GO:FnOk P w K mg base CX0 1 fo fdo ["results"] spOnly) (bO:Binds K fdo ["results"] []) (kO:PySem.W.keepIn K (.ref fo)=true) (mO:mg "only_one"=some (.ref fo)) (GM:Ca P w K mg base CX0 1 "meant" ["name","stands"] spMeant) (GS:Ca P w K mg base CX0 1 "standing" ["stands","name","other"] spStanding) (GI:Ca P w K mg base CX0 1 "itself" ["stands","names"] spItself) (GD:Ca P w K mg base CX0 2 "plain_deed" ["deed","stands"] spPDeed) (GA:Ca P w K mg base CX0 1 "plain_arms" ["arms","bodies"] spPArms):FnOk P w K mg base CX0 3 f fd ["body","stands"] (spBegP P w K mg base M T2):=by
  refine F.byR scBegPlain (fun vs H Q E h=>?_) (fun A outer s H vs Q E hr h fresh=>?_)
  · obtain ⟨p,d,c,σ,n,rfl,_⟩:=h
    rfl
  obtain ⟨p,d,c0,σ,n,rfl,hm,hd,hz,hT,hM,q⟩:=h
  have hr1:Room 1 _:=hr.mono (by decide)
  refine ⟨_,
    (jr_if (jt_cmpR jo_eq (je_ixK K (jv 0)) je_str (nomark _))
      (jr_ret (je_tup (ja_c (je_lst (ja_c (je_tup (ja_c (je_ixK K (jv 0)) (ja_c (je_ca GS hr1 rfl pass0 (ja_c (jv 1) (ja_c (je_ixK K (jv 0)) (ja_c (je_ca GM hr1 rfl pass0 (ja_c (je_ixK K (jv 0)) (ja_c (jv 1) ja_nil))) ja_nil)))) ja_nil))) ja_nil)) (ja_c (je_glob (v:=.ref fo) rfl mO rfl) ja_nil))))
    (jr_if (jt_inK K (je_ixK K (jv 0)) (je_tup (ja_c je_str (ja_c je_str ja_nil))))
      (jr_ret (je_tup (ja_c (je_lst (ja_c (je_tup (ja_c (je_ixK K (jv 0)) (ja_c (jv 1) ja_nil))) ja_nil)) (ja_c (je_glob (v:=.ref fo) rfl mO rfl) ja_nil))))
    (jr_if (jt_cmpR jo_eq (je_ixK K (jv 0)) je_str (nomark _))
      (jr_cons (js_set (i:=2) scBegPlain.nd rfl (Or.inr rfl) (je_ca GD hr rfl pass0 (ja_c (je_ixK K (jv 0)) (ja_c (jv 1) ja_nil))))
      (jr_ret (je_tup (ja_c (je_lst (ja_c (je_tup (ja_c (je_ixK K (jv 0)) (ja_c (je_ca GI hr1 rfl pass0 (ja_c (jv 1) (ja_c (je_lst (ja_c (je_ixK K (jv 0)) ja_nil)) ja_nil))) ja_nil))) ja_nil)) (ja_c (je_lamC (params:=lmP lamL) (body:=lmB lamL) (scope:=lmS lamL) (pos:=lmPos lamL) (T:=T2) (qual:=lamQB) (cl:=clL s.heap.objs.size) hB rfl hc rfl) ja_nil)))))
    (jr_cons (js_set (i:=3) scBegPlain.nd rfl (Or.inr rfl) (je_ca GM hr1 rfl pass0 (ja_c (je_ixK K (jv 0)) (ja_c (jv 1) ja_nil))))
    (jr_if (jt_cmpR jo_eq (je_ixK K (jv 0)) je_str (nomark _))
      (jr_ret (je_tup (ja_c (je_lst ja_nil) (ja_c (je_lamC (params:=lmP lamG) (body:=lmB lamG) (scope:=lmS lamG) (pos:=lmPos lamG) (T:=T2) (qual:=lamQB) (cl:=clG s.heap.objs.size) hB rfl hc rfl) ja_nil))))
    (jr_if (jt_cmpR jo_eq (je_ixK K (jv 0)) je_str (nomark _))
      (jr_ret (je_tup (ja_c (je_lst (ja_c (je_tup (ja_c (je_ixK K (jv 0)) (ja_c (jv 1) ja_nil))) (ja_c (je_tup (ja_c (je_ixK K (jv 0)) (ja_c (jv 1) ja_nil))) ja_nil))) (ja_c (je_lamC (params:=lmP lamI) (body:=lmB lamI) (scope:=lmS lamI) (pos:=lmPos lamI) (T:=T2) (qual:=lamQB) (cl:=clG s.heap.objs.size) hB rfl hc rfl) ja_nil))))
    (jr_cons (js_comp ["arm"] (i:=4) scBegPlain.nd rfl (Or.inl rfl) rfl (ji_tupK K (je_ixK K (jv 0))) (fun _ _ _ _ _=>(jg_name (i:=5) ndBegPlain rfl (Or.inl rfl))) (fun _ _ _ _ _=>jts_nil) (fun _ _ _ _ _=>(je_tup (ja_c (je_ixK K (jv 5)) (ja_c (je_ca GI hr1 rfl pass0 (ja_c (jv 1) (ja_c (je_ixK K (jv 5)) ja_nil))) ja_nil)))))
    (jr_ret (je_tup (ja_c (jv 4) (ja_c (je_lamC (params:=lmP lamC') (body:=lmB lamC') (scope:=lmS lamC') (pos:=lmPos lamC') (T:=T2) (qual:=lamQB) (cl:=clC s.heap.objs.size) hB rfl hc rfl) ja_nil))))))))))),?_⟩
  have sl:=line0
  cases c0 with
  | hold x o b =>
    obtain ⟨pb,hp,hb⟩:=hm
    rw [Mc.sz] at hz
    refine (ex2q rfl (ixT hp (atI_nat (j:=0) rfl) ⟨rfl,(ex2q rfl (iteT ?_))⟩))
    refine (ex2q rfl (ixT hp (atI_nat (j:=3) rfl) (ex2q rfl (ex2q rfl (ixT hp (atI_nat (j:=1) rfl) (ex2q rfl (ixT hp (atI_nat (j:=2) rfl) (ex2q rfl ⟨o,d,σ,n,rfl,hd,⟨x,σ.m o,d,σ,n,rfl,hd,by lia,fun H1 r s1 hr1=>⟨by show 2<=sizeLine; decide,fun t1 h1=>⟨by show 1<=sizeLine; decide,fun l h2=>?_⟩⟩⟩⟩))))))))
    refine ⟨by show 2<=sizeLine; decide,fun rr h3=>⟨[],(fun _ h=>by cases h),fun H3 pb1=>?_⟩⟩
    rw [Pub.nil pb1]
    have s2:=s1.new (o:=.tup [.ref pb,.ref r]) h1
    have s3:=s2.new (o:=.lst [.ref t1]) h2
    have s4:=s3.new (o:=.tup [.ref l,.ref fo]) h3
    refine q _ rr l fo [.ref t1] (.of s4) (hT.same s4) upd_same (s2.free h2) (old h3 upd_same) (.cons ⟨t1,pb,r,n + 1,rfl,old h3 (old h2 upd_same),hb.keep (.of s4),hr1.same fun b u e=>old h3 (old h2 (old h1 e)),?_⟩ .nil) fun R=>?_
    · show n + 1 + b.sz<=1000000
      lia
    · rw [Tk.kids,plB]
      exact fin_one GO bO kO (t:=(b,σ.put x (σ.m o)))
  | skip w0 x b =>
    obtain ⟨pb,hw,hp,hb⟩:=hm
    rw [Mc.sz] at hz
    refine notR rfl hp (inR rfl hp fun H0 s0=>?_) (by rcases hw with rfl | rfl <;> rfl)
    rw [show inV (.str w0) [.str "drop",.str "loose"]=true by rcases hw with rfl | rfl <;> rfl]
    refine iteT ?_
    refine (ex2q rfl (ixT (s0 _ _ hp) (atI_nat (j:=2) rfl) (ex2q rfl ⟨by show 2<=sizeLine; decide,fun t1 h1=>⟨by show 1<=sizeLine; decide,fun l h2=>⟨by show 2<=sizeLine; decide,fun rr h3=>⟨[],(fun _ h=>by cases h),fun H3 pb1=>?_⟩⟩⟩⟩)))
    rw [Pub.nil pb1]
    have s2:=s0.new (o:=.tup [.ref pb,.ref d]) h1
    have s3:=s2.new (o:=.lst [.ref t1]) h2
    have s4:=s3.new (o:=.tup [.ref l,.ref fo]) h3
    refine q _ rr l fo [.ref t1] (.of s4) (hT.same s4) upd_same (s2.free h2) (old h3 upd_same) (.cons ⟨t1,pb,d,n,rfl,old h3 (old h2 upd_same),hb.keep (.of s4),hd.same s4,?_⟩ .nil) fun R=>?_
    · show n + b.sz<=1000000
      lia
    · rw [Tk.kids,plB]
      exact fin_one GO bO kO (t:=(b,σ))
  | lt x de tk b =>
    obtain ⟨pd,pb,hp,hde,hb⟩:=hm
    rw [Mc.sz] at hz
    refine notR rfl hp (inR rfl hp fun H0 s0=>iteF (sayR rfl (s0 _ _ hp) ?_))
    refine (ex2q rfl (ixT (s0 _ _ hp) (atI_nat (j:=2) rfl) (ex2q rfl ⟨pd,d,de,tk,σ,n,rfl,hde.keep (.of s0),hd.same s0,fun H1 qd s1 hqd=>?_⟩)))
    have s01:=s0.trans s1
    refine (ex2q rfl (ixT (s01 _ _ hp) (atI_nat (j:=3) rfl) (ex2q rfl (ex2q rfl (ixT (s01 _ _ hp) (atI_nat (j:=1) rfl) ⟨by show 1<=sizeLine; decide,fun lx hlx=>?_⟩)))))
    have s2:=s01.new (o:=.lst [.str x]) hlx
    refine ⟨d,lx,[x],σ,n,rfl,hd.same s2,.inl upd_same,fun H3 r s3 hr3=>⟨by show 2<=sizeLine; decide,fun t1 h1=>⟨by show 1<=sizeLine; decide,fun l h2=>?_⟩⟩⟩
    have s03:=s2.trans s3
    have hl0:H l=none:=(s03.new h1).free h2
    have s4:=(s03.new (o:=.tup [.ref pb,.ref r]) h1).new (o:=.lst [.ref t1]) h2
    have e1:upd (upd H3 t1 (.tup [.ref pb,.ref r])) l (.lst [.ref t1]) t1=some (.tup [.ref pb,.ref r]):=old h2 upd_same
    have e2:upd (upd H3 t1 (.tup [.ref pb,.ref r])) l (.lst [.ref t1]) l=some (.lst [.ref t1]):=upd_same
    have e3:=hr3.same (H':=upd (upd H3 t1 (.tup [.ref pb,.ref r])) l (.lst [.ref t1])) fun b u e=>old h2 (old h1 e)
    have e4:=hqd.keep (H':=upd (upd H3 t1 (.tup [.ref pb,.ref r])) l (.lst [.ref t1])) (.of fun b u e=>old h2 (old h1 (s3 _ _ (old hlx e))))
    generalize upd (upd H3 t1 (.tup [.ref pb,.ref r])) l (.lst [.ref t1])=H6 at *
    refine lam_tail (fvs:=[.ref qd,.ref p]) (hT.same s4) (by unfold ls2; exact .head _) s4 hl0 e2 (.cons ⟨t1,pb,r,n,rfl,e1,hb.keep (.of s4),e3,by show n + b.sz<=_; lia⟩ .nil) hM q [(s.heap.objs.size + 3,.ref qd),(s.heap.objs.size + 1,.ref p)] (fun i p v e1 e2=>?_) scLamL (fun _ _=>.all (us1 fun _=>rfl)) (by show (["done","body"]:List Str).Nodup; decide +kernel) (by show [s.heap.objs.size + 3,s.heap.objs.size + 1].Nodup; simp) rfl (fun H1 rl f cc rs Q t1 h1 h2 h3 H0 A outer s hr=>?_) (fun fl H7 hh=>⟨by show 2<=sizeLine; decide,fun rr hrr=>⟨_,fun x hx=>?_,hh rr hrr⟩⟩)
    · match i,e1,e2 with
      | 0,e1,e2=>cases e1; cases e2; exact .head _
      | 1,e1,e2=>cases e1; cases e2; exact .tail _ (.head _)
      | i + 2,e1,_=>simp [clL] at e1
    · refine ⟨_,(je_tup (ja_c je_str (ja_c (je_ixK K (jv 2)) (ja_c (jv 1) (ja_c (je_ixLK K (jv 0)) ja_nil))))),?_⟩
      rw [Tk.kids] at h2
      cases h2 with
      | @cons _ v _ _ hv h2 =>
      cases h2
      obtain ⟨pv,rfl,hv⟩:=hv
      refine (ex2q rfl (ixT (t1 _ _ (s4 _ _ hp)) (atI_nat (j:=1) rfl) (ex2q rfl (ex2q rfl (ixL h1 (atI_nat (j:=0) rfl) ⟨by show 4<=sizeLine; decide,fun r hr=>h3 _ r (same_new hr _) ?_⟩)))))
      rw [plB]
      exact .lt upd_same (e4.keep (t1.trans (.of (same_new hr _)))) (hv.keep (.of (same_new hr _)))
    · simp only [List.mem_cons,List.not_mem_nil,or_false] at hx
      rcases hx with rfl | rfl
      · exact ⟨2,"done",rfl,rfl,rfl,.inl rfl⟩
      · exact ⟨0,"body",rfl,rfl,rfl,.inl rfl⟩
  | give x =>
    have hp:H p=some (.tup [.str "give",.str x]):=hm
    refine notR rfl hp (inR rfl hp fun H0 s0=>iteF (notR rfl (s0 _ _ hp) ?_))
    refine cutR1 fun r1_ hr1_=>?_
    refine (ex2q rfl (ixT (s0 _ _ hp) (atI_nat (j:=1) rfl) (ex2q rfl ⟨x,d,σ,n,rfl,hd.same s0,?_⟩)))
    show r1_ _ [some (.ref p),some (.ref d),none,some (.str (σ.m x)),none] H0
    subst hr1_
    refine sayR rfl (s0 _ _ hp) ⟨by show 0<=sizeLine; decide,fun l h2=>?_⟩
    have hl0:=s0.free h2
    have s4:=s0.new (o:=.lst []) h2
    have e2:=upd_same (H:=H0) (a:=l) (o:=.lst [])
    generalize upd H0 l (.lst [])=H6 at *
    refine lam_tail (fvs:=[.str (σ.m x)]) (hT.same s4) (by unfold ls2; exact .tail _ (.head _)) s4 hl0 e2 .nil hM q [(s.heap.objs.size + 4,.str (σ.m x))] (fun i p v e1 e2=>?_) scLamG (fun _ _=>.all (us1 fun _=>rfl)) (by show (["looked"]:List Str).Nodup; decide +kernel) (by show [s.heap.objs.size + 4].Nodup; simp) rfl (fun H1 rl f cc rs Q t1 h1 h2 h3 H0 A outer s hr=>?_) (fun fl H7 hh=>⟨by show 2<=sizeLine; decide,fun rr hrr=>⟨_,fun x hx=>?_,hh rr hrr⟩⟩)
    · match i,e1,e2 with
      | 0,e1,e2=>cases e1; cases e2; exact .head _
      | i + 1,e1,_=>simp [clG] at e1
    · refine ⟨_,(je_tup (ja_c je_str (ja_c (jv 1) ja_nil))),?_⟩
      refine (ex2q rfl ⟨by show 2<=sizeLine; decide,fun r hr=>h3 _ r (same_new hr _) ?_⟩)
      rw [plB]
      exact .give upd_same
    · rw [List.mem_singleton.mp hx]
      exact ⟨3,"looked",rfl,rfl,rfl,.inl rfl⟩
  | iff x a b =>
    obtain ⟨pa,pb,hp,ha,hb⟩:=hm
    rw [Mc.sz] at hz
    refine notR rfl hp (inR rfl hp fun H0 s0=>iteF (notR rfl (s0 _ _ hp) ?_))
    refine cutR1 fun r1_ hr1_=>?_
    refine (ex2q rfl (ixT (s0 _ _ hp) (atI_nat (j:=1) rfl) (ex2q rfl ⟨x,d,σ,n,rfl,hd.same s0,?_⟩)))
    show r1_ _ [some (.ref p),some (.ref d),none,some (.str (σ.m x)),none] H0
    subst hr1_
    refine notR rfl (s0 _ _ hp) (sayR rfl (s0 _ _ hp) ?_)
    refine (ex2q rfl (ixT (s0 _ _ hp) (atI_nat (j:=2) rfl) (ex2q rfl ⟨by show 2<=sizeLine; decide,fun ta h1=>?_⟩)))
    have s1:=s0.new (o:=.tup [.ref pa,.ref d]) h1
    have ea:=upd_same (H:=H0) (a:=ta) (o:=.tup [.ref pa,.ref d])
    generalize upd H0 ta (.tup [.ref pa,.ref d])=H1 at *
    refine (ex2q rfl (ixT (s1 _ _ hp) (atI_nat (j:=3) rfl) (ex2q rfl ⟨by show 2<=sizeLine; decide,fun tb h2=>⟨by show 2<=sizeLine; decide,fun l h3=>?_⟩⟩)))
    have s2:=s1.new (o:=.tup [.ref pb,.ref d]) h2
    have hl0:=s2.free h3
    have s4:=s2.new (o:=.lst [.ref ta,.ref tb]) h3
    have e2:=upd_same (H:=upd H1 tb (.tup [.ref pb,.ref d])) (a:=l) (o:=.lst [.ref ta,.ref tb])
    have e1:upd (upd H1 tb (.tup [.ref pb,.ref d])) l (.lst [.ref ta,.ref tb]) tb=some (.tup [.ref pb,.ref d]):=old h3 upd_same
    have e0:upd (upd H1 tb (.tup [.ref pb,.ref d])) l (.lst [.ref ta,.ref tb]) ta=some (.tup [.ref pa,.ref d]):=old h3 (old h2 ea)
    generalize upd (upd H1 tb (.tup [.ref pb,.ref d])) l (.lst [.ref ta,.ref tb])=H6 at *
    refine lam_tail (fvs:=[.str (σ.m x)]) (hT.same s4) (by unfold ls2; exact .tail _ (.tail _ (.head _))) s4 hl0 e2 (.cons ⟨ta,pa,d,n,rfl,e0,ha.keep (.of s4),hd.same s4,by show n + a.sz<=_; lia⟩ (.cons ⟨tb,pb,d,n,rfl,e1,hb.keep (.of s4),hd.same s4,by show n + b.sz<=_; lia⟩ .nil)) hM q [(s.heap.objs.size + 4,.str (σ.m x))] (fun i p v e1 e2=>?_) scLamI (fun _ _=>.all (us1 fun _=>rfl)) (by show (["looked"]:List Str).Nodup; decide +kernel) (by show [s.heap.objs.size + 4].Nodup; simp) rfl (fun H1 rl f cc rs Q t1 h1 h2 h3 H0 A outer s hr=>?_) (fun fl H7 hh=>⟨by show 2<=sizeLine; decide,fun rr hrr=>⟨_,fun x hx=>?_,hh rr hrr⟩⟩)
    · match i,e1,e2 with
      | 0,e1,e2=>cases e1; cases e2; exact .head _
      | i + 1,e1,_=>simp [clG] at e1
    · refine ⟨_,(je_tup (ja_c je_str (ja_c (jv 1) (ja_c (je_ixLK K (jv 0)) (ja_c (je_ixLK K (jv 0)) ja_nil))))),?_⟩
      rw [Tk.kids] at h2
      cases h2 with
      | @cons _ v _ _ hv h2 =>
      cases h2 with
      | @cons _ v2 _ _ hv2 h2 =>
      cases h2
      obtain ⟨pv,rfl,hv⟩:=hv
      obtain ⟨pv2,rfl,hv2⟩:=hv2
      refine (ex2q rfl (ex2q rfl (ixL h1 (atI_nat (j:=0) rfl) (ex2q rfl (ixL h1 (atI_nat (j:=1) rfl) ⟨by show 4<=sizeLine; decide,fun r hr=>h3 _ r (same_new hr _) ?_⟩)))))
      rw [plB]
      exact .iff upd_same (hv.keep (.of (same_new hr _))) (hv2.keep (.of (same_new hr _)))
    · rw [List.mem_singleton.mp hx]
      exact ⟨3,"looked",rfl,rfl,rfl,.inl rfl⟩
  | case x as =>
    obtain ⟨qa,ps,hp,hqa,hps,has⟩:=hm
    rw [Mc.sz] at hz
    refine notR rfl hp (inR rfl hp fun H0 s0=>iteF (notR rfl (s0 _ _ hp) ?_))
    refine cutR1 fun r1_ hr1_=>?_
    refine (ex2q rfl (ixT (s0 _ _ hp) (atI_nat (j:=1) rfl) (ex2q rfl ⟨x,d,σ,n,rfl,hd.same s0,?_⟩)))
    show r1_ _ [some (.ref p),some (.ref d),none,some (.str (σ.m x)),none] H0
    subst hr1_
    refine notR rfl (s0 _ _ hp) (notR rfl (s0 _ _ hp) ?_)
    have pz:ps.length<=as.sz:=has.lsz
    refine (ex2q rfl (ixT (s0 _ _ hp) (atI_nat (j:=2) rfl) ⟨qa,rfl,⟨_,SqT.of (s0 _ _ hqa)⟩,lc_tup (xs:=ps.map V.ref) (fun j τ ys H'=>Same H H'/\(∃ v,τ=[some (.ref p),some (.ref d),none,some (.str (σ.m x)),none,v])/\All2 (ITp H') ((as.kids σ).take j) ys) ⟨s0,⟨none,rfl⟩,.nil⟩ (fun j τ ys H' _ h=>SqT.of (h.1 _ _ hqa)) ?_ ?_⟩))
    · rintro j v τ ys H2 hv ⟨s2,⟨v',rfl⟩,hk⟩
      rw [List.getElem?_map] at hv
      obtain ⟨pr,hpr,rfl⟩:=Option.map_eq_some_iff.mp hv
      obtain ⟨t,xs,md,tk,q0,sb,b,a1,a2,a3,a4⟩:=has.get hpr
      have kl:=All2.len hk
      rw [List.length_take] at kl
      have jl:=(List.getElem?_eq_some_iff.mp hpr).1
      refine (ex2q rfl (ixT (s2 _ _ a1) (atI_nat (j:=4) rfl) (ex2q rfl (ex2q rfl (ixT (s2 _ _ a1) (atI_nat (j:=1) rfl) ⟨d,q0,xs,σ,n,rfl,hd.same s2,.inr (s2 _ _ a2),fun H3 r s3 hr3=>⟨by show 2<=sizeLine; decide,fun t1 h1=>⟨by lia,(s2.trans s3).new h1,⟨_,rfl⟩,?_⟩⟩⟩)))))
      have s13:Same H3 (upd H3 t1 (.tup [.ref sb,.ref r])):=same_new h1 _
      rw [List.take_add_one,a4 σ]
      refine All2.app (hk.imp fun _ _ h=>h.keep (.of (s3.trans s13)) fun _ _ e=>s13 _ _ (s3 _ _ e)) (.cons ⟨t1,sb,r,n,rfl,upd_same,a3.keep (.of ((s2.trans s3).trans s13)),hr3.same s13,?_⟩ .nil)
      have:b.sz<=as.sz:=has.kz hpr σ (a4 σ)
      show n + b.sz<=1000000
      lia
    rintro τ ys H5 ⟨s5,_,hk⟩ l h2
    rw [List.length_map,<- Mr.kids_len (σ:=σ) has,List.take_of_length_le (Nat.le_refl _)] at hk
    have hl0:=s5.free h2
    have s4:=s5.new (o:=.lst ys) h2
    have e2:=upd_same (H:=H5) (a:=l) (o:=.lst ys)
    have ek:All2 (ITp (upd H5 l (.lst ys))) (as.kids σ) ys:=hk.imp fun _ _ h=>h.keep (.of (same_new h2 _)) fun _ _ e=>old h2 e
    generalize upd H5 l (.lst ys)=H6 at *
    refine (ex2q rfl ?_)
    refine lam_tail (c:=.case x as) (g:=σ) (fvs:=[.str (σ.m x),.ref p]) (hT.same s4) (by unfold ls2; exact .tail _ (.tail _ (.tail _ (.head _)))) s4 hl0 e2 ek hM q [(s.heap.objs.size + 4,.str (σ.m x)),(s.heap.objs.size + 1,.ref p)] (fun i p v e1 e2=>?_) scLamC (fun _ _=>.all (us1 fun _=>rfl)) (by show (["looked","body"]:List Str).Nodup; decide +kernel) (by show [s.heap.objs.size + 4,s.heap.objs.size + 1].Nodup; simp) rfl (fun H1 rl f cc rs Q t1 h1 h2 h3 H0 A outer s hr=>?_) (fun fl H7 hh=>⟨by show 2<=sizeLine; decide,fun rr hrr=>⟨_,fun x hx=>?_,hh rr hrr⟩⟩)
    · match i,e1,e2 with
      | 0,e1,e2=>cases e1; cases e2; exact .head _
      | 1,e1,e2=>cases e1; cases e2; exact .tail _ (.head _)
      | i + 2,e1,_=>simp [clC] at e1
    · refine ⟨_,(je_tup (ja_c je_str (ja_c (jv 1) (ja_c (je_ca GA (hr.mono (by decide)) rfl pass0 (ja_c (je_ixK K (jv 2)) (ja_c (jv 0) ja_nil))) ja_nil)))),?_⟩
      have t2:Tups H H1:=(Tups.of s4).trans t1
      refine (ex2q rfl (ex2q rfl (ixT (t2 _ _ hp) (atI_nat (j:=2) rfl) (ex2q rfl ⟨qa,rl,ps,rs,as,σ,rfl,t2 _ _ hqa,has.keep t2,h1,h2,by lia,fun H2 qt qs s2 hqt hql hA=>⟨by show 3<=sizeLine; decide,fun r hr=>h3 _ r (s2.new hr) ?_⟩⟩))))
      rw [plB]
      exact .case upd_same (old hr hqt) (by lia) (hA.keep (.of (same_new hr _)))
    · simp only [List.mem_cons,List.not_mem_nil,or_false] at hx
      rcases hx with rfl | rfl
      · exact ⟨3,"looked",rfl,rfl,rfl,.inl rfl⟩
      · exact ⟨0,"body",rfl,rfl,rfl,.inl rfl⟩
end
end GN
namespace GN
open PySem L2 K11
structure Tbs (T1 T2:Addr) (H:Hp):Prop where
  t1:TbG T1 ls1 H
  t2:TbG T2 ls2 H
theorem Tbs.same {T1 T2:Addr} {H H':Hp} (h:Tbs T1 T2 H) (s:Same H H'):Tbs T1 T2 H':=⟨h.t1.same s,h.t2.same s⟩
def MT (T1 T2:Addr) (b:Addr):Prop:=b=T1\/b=T2
theorem Tbs.no {T1 T2:Addr} {H:Hp} (h:Tbs T1 T2 H) {b:Addr} {u:HO} (e:H b=some u) (n:∀ ps,u≠.tbl ps):¬ MT T1 T2 b:=by
  rintro (z | z)
  · exact h.t1.no e n z
  · exact h.t2.no e n z
theorem Tbs.ne {T1 T2:Addr} {H:Hp} (h:Tbs T1 T2 H) {b:Addr} (z:MT T1 T2 b):H b≠none:=by
  have tb:∀ {T ls},TbG T ls H->H T≠none:=fun {T ls} ⟨ps,q,_⟩=>by rw [q]; simp
  rcases z with z | z
  · rw [z]; exact tb h.t1
  · rw [z]; exact tb h.t2
theorem Mr.kids_wt (σ:Sg):∀ as:Mr,((as.kids σ).map fun t:Tk=>2 * t.1.sz).sum<=2 * as.sz
  | .nil=>by rw [Mr.kids]; exact Nat.zero_le _
  | .cons t xs md tk b r=>by
    have:=Mr.kids_wt σ r
    rw [Mr.kids,List.map_cons,List.sum_cons,Mr.sz]
    show 2 * b.sz + _<=_
    lia
theorem Tk.kids_wt (t:Tk):(t.kids.map fun t:Tk=>2 * t.1.sz).sum + 2<=2 * t.1.sz:=by
  obtain ⟨c,σ⟩:=t
  show _<=2 * c.sz
  cases c with
  | give x=>rw [Tk.kids,Mc.sz]; exact Nat.le_refl _
  | lt x d tk b=>rw [Tk.kids,Mc.sz]; simp; lia
  | iff x a b=>rw [Tk.kids,Mc.sz]; simp; lia
  | case x as =>
    have:=Mr.kids_wt σ as
    rw [Tk.kids,Mc.sz]
    lia
  | hold x o b=>rw [Tk.kids,Mc.sz]; simp; lia
  | skip w0 x b=>rw [Tk.kids,Mc.sz]; simp; lia
theorem scLamT:LamScope ["task"] ["task"] [] (lmS lamT):=⟨rfl,rfl,rfl,by decide +kernel,rfl,by decide +kernel,by decide +kernel,by decide +kernel,by decide +kernel⟩
structure WkOk (mg:Str->Option Value) (T1 T2 fl cc:Addr) (ct:Value) (H:Hp):Prop where
  t:Tbs T1 T2 H
  f:H fl=some (FunO fl (lamC mg lamQT (lmP lamT) (lmB lamT) (lmS lamT) [] cc ct))
  c:H cc=some (CodO cc lamQT)
section
variable {P:Program} {w:World} {K:PySem.W.Frag} {mg:Str->Option Value} {base:Heap} {f:Addr} {fd:FuncData} {T1 T2:Addr}
theorem CanC.mono {k k':Nat} {H:Hp} {f:Addr} {vs:List V} {Q:VK} {E:XK} (h:CanC P w K mg base k H f vs Q E) (e:k<=k'):CanC P w K mg base k' H f vs Q E:=let ⟨fd,ps,sp,F,r⟩:=h; ⟨fd,ps,sp,F.mono e,r⟩
theorem WkOk.km {fl cc:Addr} {ct:Value} {H H':Hp} (h:WkOk mg T1 T2 fl cc ct H) (t:Tbs T1 T2 H') (k:KM (MT T1 T2) H H'):WkOk mg T1 T2 fl cc ct H':=⟨t,k _ _ (h.t.no h.f (by intro _ z; unfold FunO at z; cases z)) h.f,k _ _ (h.t.no h.c (by intro _ z; unfold CodO at z; cases z)) h.c⟩
def plainWo (nT:T1≠T2) (GP:Ca P w K mg base CX0 3 "begun_plain" ["body","stands"] (spBegP P w K mg base (MT T1 T2) T2)) (fl cc:Addr) (ct:Value):WoD P w K mg base 4 where
  Tk:=Tk
  M:=MT T1 T2
  fb:=fl
  wt:=fun t=>2 * t.1.sz
  kids:=Tk.kids
  wk:=Tk.kids_wt
  IT:=fun H _ t v=>ITp H t v
  IR:=fun H _ t v=>∃ p,v=.ref p/\IsB H (plB t.1 t.2) p
  IF:=fun H _ t v=>∃ f,v=.ref f/\Fin P w K mg base 3 (MT T1 T2) H (fun _=>False) t.kids (plB t.1 t.2) f
  Ok:=WkOk mg T1 T2 fl cc ct
  itk:=fun h ok z _=>h.keep (fun b xs e=>z b _ e (ok.t.no e (by intro _ z; cases z)) (by intro _ z; cases z)) fun d kvs e=>z d _ e (ok.t.no e (by intro _ z; cases z)) (by intro _ z; cases z)
  irk:=fun ⟨p,e,h⟩ ok z _=>⟨p,e,h.keep fun b xs e=>z b _ e (ok.t.no e (by intro _ z; cases z)) (by intro _ z; cases z)⟩
  ifk:=fun ⟨f,e,h⟩ _ z _=>⟨f,e,fun H' R' z' sub'=>h H' R' (fun b u e n l=>z' b u (z b u e n fun xs y=>(l xs y).elim) n l) sub'⟩
  okk:=fun {H H'} ok z=>by
    have g:∀ b u,H b=some u->(∀ xs,u≠.lst xs)->H' b=some u:=fun b u e n=>z b u e fun xs q=>absurd q (n xs)
    have tb:∀ {T ls},TbG T ls H->TbG T ls H':=fun {T ls} t=>t.keep (fun ps e=>g _ _ e (by intro _ z; cases z)) fun c q e=>g _ _ e (by intro _ z; unfold CodO at z; cases z)
    exact ⟨⟨tb ok.t.t1,tb ok.t.t2⟩,g _ _ ok.f (by intro _ z; unfold FunO at z; cases z),g _ _ ok.c (by intro _ z; unfold CodO at z; cases z)⟩
  okM:=fun ok z=>ok.t.ne z
  beg:=fun {H R t v Q} h ok hRd hRM q=>by
    obtain ⟨a,p,d,n,rfl,h1,h2,h3,h4⟩:=h
    have C:Clo H [] [] []:=clo_gen (cl:=[]) (by simp) (by simp) rfl fun i p v e _=>by simp at e
    refine lam_can (k:=3) scLamT (.all (us1 fun _=>rfl)) ok.f ok.c C fun A2 outer2 s2 hr2=>?_
    refine ⟨_,je_ca GP hr2 rfl pass0 (ja_c (je_ixK K (jv 0)) (ja_c (je_ixK K (jv 0)) ja_nil)),?_⟩
    have em:maskH H (([]:List (Str × Addr)).map (·.2))=H:=funext fun b=>mask_out (by simp)
    have ep:∀ H':Hp,plusH H' H (([]:List (Str × Addr)).map (·.2))=H':=fun H'=>funext fun b=>plus_out (by simp)
    rw [em]
    refine ex2q rfl (ixT h1 (atI_nat (j:=0) rfl) (ex2q rfl (ixT h1 (atI_nat (j:=1) rfl) ⟨p,d,t.1,t.2,n,rfl,h2,h3,h4,ok.t.t2,fun H' T2' b u e nt k'=>?_,fun H' r l f2 vs k1 t2 hr hl hl1 hk hfin hnn=>?_⟩)))
    · refine (show Tbs T1 T2 H' from ⟨?_,T2'⟩).no e nt
      exact ok.t.t1.keep (fun ps e=>k' _ _ nT e) fun c q e=>k' _ _ (ok.t.t2.no e (by intro _ z; unfold CodO at z; cases z)) e
    · rw [ep]
      have km:KM (MT T1 T2) H H':=fun b u n e=>k1 b u (fun z=>n (.inr z)) e
      have tb:Tbs T1 T2 H':=⟨ok.t.t1.keep (fun ps e=>k1 _ _ nT e) fun c q e=>k1 _ _ (ok.t.t2.no e (by intro _ z; unfold CodO at z; cases z)) e,t2⟩
      refine q H' r l f2 vs (fun b=>R b\/b=l) km (ok.km tb km) hr hl hl1 (fun b z=>.inl z) ?_ ?_ (.inr rfl) hk ⟨f2,rfl,hfin _⟩
      · rintro b (z | z)
        · exact .inl z
        · exact .inr (z ▸ hl)
      · rintro b (z | z)
        · cases e:H b with
          | none=>exact absurd e (hRd b z)
          | some u=>rw [km b u (hRM b z) e]; simp
        · rw [z,hl1]; simp
  fin:=fun {H R t f2 rl rs Q} hh ok hRd hRM hRr hrl hrs q=>by
    obtain ⟨f,e,hf⟩:=hh
    cases e
    refine (hf H (fun _=>False) (fun b u e _ _=>e) (fun _ z=>z) rl rs Q hrl hrs fun H' p s1 h1=>?_).mono (by decide)
    refine q H' (.ref p) R (.of s1) (ok.km (ok.t.same s1) (.of s1)) (fun _ z=>z) (fun _ z=>.inl z) (fun b z=>?_) ⟨p,rfl,h1⟩
    cases e:H b with
    | none=>exact absurd e (hRd b z)
    | some u=>rw [s1 b u e]; simp
def spPBody (T1 T2:Addr):Sp:=fun vs H Q _=>∃ (p:Addr) (c:Mc),vs=[.ref p]/\IsMc H c p/\c.sz<=400000/\Tbs T1 T2 H/\∀ H' r,KM (MT T1 T2) H H'->Tbs T1 T2 H'->IsB H' (plB c fun _=>none) r->Q (.ref r) H'
theorem scPBody:FnScope ["body"] ["body"] (defScope sPlainBody):=⟨rfl,rfl,rfl,by decide +kernel,rfl,by decide +kernel,by decide +kernel⟩
theorem ok_pbody {c:Addr} (F:FunC K "plain_body" sPlainBody c f fd) (hB:BMn mg base) (hc:PySem.W.codeHdIn K c T1=true) (nT:T1≠T2) (GP:Ca P w K mg base CX0 3 "begun_plain" ["body","stands"] (spBegP P w K mg base (MT T1 T2) T2)) (GW:Ca P w K mg base CX0 5 "worked_out" ["task","begin"] (spWorked P w K mg base 4)):FnOk P w K mg base CX0 6 f fd ["body"] (spPBody T1 T2):=by
  refine F.by scPBody (fun vs H Q E h=>?_) (fun A outer s H vs Q E hr h=>?_)
  · obtain ⟨p,c,rfl,_⟩:=h
    rfl
  obtain ⟨p,c0,rfl,hm,hz,hT,q⟩:=h
  refine ⟨_,
    (jss_one (js_ret (je_ca GW hr rfl pass0 (ja_c (je_tup (ja_c (jv 0) (ja_c je_dnewK ja_nil))) (ja_c (je_lamC (params:=lmP lamT) (body:=lmB lamT) (scope:=lmS lamT) (pos:=lmPos lamT) (T:=T1) (qual:=lamQT) (cl:=[]) hB rfl hc rfl) ja_nil))))),?_⟩
  refine ex2q rfl (fun d hd=>⟨by show 2<=sizeLine; decide,fun t1 h1=>?_⟩)
  have s1:=((Same.refl H).new (o:=.dK []) hd).new (o:=.tup [.ref p,.ref d]) h1
  have e1:=upd_same (H:=upd H d (.dK [])) (a:=t1) (o:=.tup [.ref p,.ref d])
  have e2:Sd (upd (upd H d (.dK [])) t1 (.tup [.ref p,.ref d])) d (fun _=>none) 0:=⟨[],old h1 upd_same,Nat.le_refl _,(fun _ z=>by cases z),fun x=>rfl⟩
  generalize upd (upd H d (.dK [])) t1 (.tup [.ref p,.ref d])=H1 at *
  have hT1:=hT.same s1
  refine lam_made hT1.t1 (by unfold ls1; exact .head _) (fun p hp _=>by unfold ls1 at hp; rw [List.mem_singleton.mp hp]) fun H2 fl cc ct k2 T2' hfl nfT ncT hfl2 hcc=>?_
  have tb:Tbs T1 T2 H2:=⟨T2',hT1.t2.keep (fun ps e=>k2 _ _ nT.symm e) fun c q e=>k2 _ _ (hT1.t1.no e (by intro _ z; unfold CodO at z; cases z)) e⟩
  have ok2:WkOk mg T1 T2 fl cc ct H2:=⟨tb,hfl2,hcc⟩
  have g2:∀ {b:Addr} {u:HO},H1 b=some u->(∀ ps,u≠.tbl ps)->H2 b=some u:=fun {b u} e n=>k2 b u (hT1.t1.no e n) e
  have t2:Tups H1 H2:=fun b xs e=>g2 e (by intro _ z; cases z)
  refine ⟨plainWo nT GP fl cc ct,.ref t1,(c0,fun _=>none),fun _=>False,rfl,⟨t1,p,d,0,rfl,t2 _ _ e1,hm.keep ((Tups.of s1).trans t2),e2.keep fun kvs e=>g2 e (by intro _ z; cases z),?_⟩,ok2,fun _ z=>z.elim,fun _ z=>z.elim,?_,.inl ⟨⟨_,ok2.f⟩,ok2.t.no ok2.f (by intro _ z; unfold FunO at z; cases z)⟩,fun H4 v R' k4 ok4 _ hv=>?_⟩
  · show 0 + c0.sz<=1000000
    lia
  · show 2 * c0.sz<=1000000
    lia
  obtain ⟨r,rfl,hr⟩:=hv
  exact q H4 r (fun b u n e=>k4 b u n (k2 b u (fun z=>n (.inl z)) (s1 _ _ e))) ok4.t hr
end
end GN
namespace GN
open PySem L2 K11
structure MDf where
  z:Str
  q:Addr
  c:Mc
def IsMF (H:Hp) (m:MDf) (a:Addr):Prop:=∃ ow pb,H a=some (.tup [.str m.z,.ref m.q,ow,.ref pb])/\IsMc H m.c pb
def IsPF (H:Hp) (m:MDf) (v:V):Prop:=∃ a pb,v=.ref a/\H a=some (.tup [.str m.z,.ref m.q,.ref pb])/\IsB H (plB m.c fun _=>none) pb
theorem IsMF.keep {H H':Hp} {m:MDf} {a:Addr} (h:IsMF H m a) (t:Tups H H'):IsMF H' m a:=let ⟨ow,pb,h1,h2⟩:=h; ⟨ow,pb,t _ _ h1,h2.keep t⟩
theorem IsPF.keep {H H':Hp} {m:MDf} {a:V} (h:IsPF H m a) (t:Tups H H'):IsPF H' m a:=let ⟨a,pb,e,h1,h2⟩:=h; ⟨a,pb,e,t _ _ h1,h2.keep t⟩
def spPlain (T1 T2:Addr):Sp:=fun vs H Q _=>∃ (p pd:Addr) (v0:V) (ps:List Addr) (ms:List MDf),vs=[.ref p]/\H p=some (.tup [v0,.ref pd])/\H pd=some (.tup (ps.map V.ref))/\All2 (IsMF H) ms ps/\(∀ m∈ms,m.c.sz<=400000)/\ps.length<=100/\Tbs T1 T2 H/\∀ H' r pd' vs,KM (MT T1 T2) H H'->Tbs T1 T2 H'->H' r=some (.tup [v0,.ref pd'])->H' pd'=some (.tup vs)->All2 (IsPF H') ms vs->Q (.ref r) H'
section
variable {P:Program} {w:World} {K:PySem.W.Frag} {mg:Str->Option Value} {base:Heap} {f:Addr} {fd:FuncData} {T1 T2:Addr}
theorem Tbs.tups {H H':Hp} (h:Tbs T1 T2 H) (k:KM (MT T1 T2) H H'):Tups H H':=fun b xs e=>k _ _ (h.no e (by intro _ z; cases z)) e
theorem scPlain:FnScope ["code"] ["code"] (defScope sPlain):=⟨rfl,rfl,rfl,by decide +kernel,rfl,by decide +kernel,by decide +kernel⟩
theorem ndPlain:(["code","one"]:List Str).Nodup:=by decide +kernel
theorem ok_plain (F:Fun K "plain" "plain" sPlain f fd) (GB:Ca P w K mg base CX0 6 "plain_body" ["body"] (spPBody T1 T2)) (m_tuple:mg "tuple"=none):FnOk P w K mg base CX0 7 f fd ["code"] (spPlain T1 T2):=by
  refine F.by scPlain (fun vs H Q E h=>?_) (fun cdv A outer s H vs Q E hr h=>?_)
  · obtain ⟨p,pd,v0,ps,ms,rfl,_⟩:=h
    rfl
  obtain ⟨p,pd,v0,ps,ms,rfl,hp,hpd,hms,hz,hl,hT,q⟩:=h
  refine ⟨_,
    (jss_one (js_ret (je_tup (ja_c (je_ixK K (jv 0)) (ja_c (je_fnTy (jc_tuple_ofK K) rfl m_tuple PyProof.Rows.boot_tuple (ja_c (je_comp ["one"] rfl (ji_tupK K (je_ixK K (jv 0))) (fun _ _ _ _ _=>(jg_name (i:=1) ndPlain rfl (Or.inl rfl))) (fun _ _ _ _ _=>jts_nil) (fun _ _ _ _ _=>(je_tup (ja_c (je_ixK K (jv 1)) (ja_c (je_ixK K (jv 1)) (ja_c (je_ca GB hr rfl pass0 (ja_c (je_ixK K (jv 1)) ja_nil)) ja_nil)))))) ja_nil)) ja_nil))))),?_⟩
  have sl:=line0
  have ml:=hms.len
  refine (ex2q rfl (ixT hp (atI_nat (j:=0) rfl) (ex2q rfl (ixT hp (atI_nat (j:=1) rfl) ⟨pd,rfl,⟨_,SqT.of hpd⟩,lc_tup (xs:=ps.map V.ref) (fun j τ ys H'=>(KM (MT T1 T2) H H'/\Tbs T1 T2 H')/\(∃ v,τ=[some (.ref p),v])/\All2 (IsPF H') (ms.take j) ys) ⟨⟨KM.refl,hT⟩,⟨none,rfl⟩,.nil⟩ (fun j τ ys H' _ h=>SqT.of (hT.tups h.1.1 _ _ hpd)) ?_ ?_⟩))))
  · rintro j v τ ys H2 hv ⟨⟨k2,t2⟩,⟨v',rfl⟩,hk⟩
    rw [List.getElem?_map] at hv
    obtain ⟨a,ha,rfl⟩:=Option.map_eq_some_iff.mp hv
    obtain ⟨m,hm,ow,pb,h1,h2⟩:=hms.get ha
    have tp:=hT.tups k2
    have kl:=All2.len hk
    rw [List.length_take] at kl
    refine (ex2q rfl (ixT (tp _ _ h1) (atI_nat (j:=0) rfl) (ex2q rfl (ixT (tp _ _ h1) (atI_nat (j:=1) rfl) (ex2q rfl (ixT (tp _ _ h1) (atI_nat (j:=3) rfl) ⟨pb,m.c,rfl,h2.keep tp,hz m (List.mem_of_getElem? hm),t2,fun H3 r k3 t3 hr3=>⟨by show 3<=sizeLine; decide,fun t4 h4=>⟨by lia,⟨?_,t3.same (same_new h4 _)⟩,⟨_,rfl⟩,?_⟩⟩⟩))))))
    · exact (k2.trans k3).trans (.of (same_new h4 _))
    · rw [List.take_add_one,hm]
      have t24:Tups H2 (upd H3 t4 (.tup [.str m.z,.ref m.q,.ref r])):=(t2.tups k3).trans (.of (same_new h4 _))
      exact All2.app (hk.imp fun _ _ h=>h.keep t24) (.cons ⟨t4,r,rfl,upd_same,hr3.keep (.of (same_new h4 _))⟩ .nil)
  rintro τ ys H5 ⟨⟨k5,t5⟩,_,hk⟩ l5 h5
  rw [List.length_map,<- ml,List.take_of_length_le (Nat.le_refl _)] at hk
  have yl:=hk.len
  refine ⟨l5,ex2q rfl (.inl ⟨SqL.of upd_same,fun t6 h6=>⟨by show 2<=sizeLine; decide,fun r hr=>?_⟩⟩)⟩
  have s6:=((same_new (o:=.lst ys) h5).new (o:=.tup ys) h6).new (o:=.tup [v0,.ref t6]) hr
  exact q _ r t6 ys (k5.trans (.of s6)) (t5.same s6) upd_same (old hr upd_same) (hk.imp fun _ _ h=>h.keep (.of s6))
end
end GN
namespace GN
open PySem L2 K11
def Sm:Nat->Hp->V->V->Prop
  | 0,_,_,_=>False
  | n + 1,H,x,y=>(x=y/\((∃ i,x=.int i)\/∃ s,x=.str s))\/∃ a b xs ys,x=.ref a/\y=.ref b/\H a=some (.tup xs)/\H b=some (.tup ys)/\xs.length=ys.length/\xs.length<=1000000/\∀ (i:Nat) (u v:V),xs[i]?=some u->ys[i]?=some v->Sm n H u v
theorem Sm.keep {H H':Hp} (t:Tups H H'):∀ {n:Nat} {x y:V},Sm n H x y->Sm n H' x y
  | 0,_,_,h=>h.elim
  | n + 1,_,_,.inl h=>.inl h
  | n + 1,_,_,.inr ⟨a,b,xs,ys,e1,e2,h1,h2,h3,h4,h5⟩=>.inr ⟨a,b,xs,ys,e1,e2,t _ _ h1,t _ _ h2,h3,h4,fun i u v g1 g2=>Sm.keep t (h5 i u v g1 g2)⟩
def spSm (n:Nat):Sp:=fun vs H Q _=>∃ (x y:V),vs=[x,y]/\Sm n H x y/\∀ H',Same H H'->Q (.bl true) H'
section
variable {P:Program} {w:World} {K:PySem.W.Frag} {mg:Str->Option Value} {base:Heap} {f:Addr} {fd:FuncData}
theorem scSm:FnScope ["_law_found","_law_due"] ["_law_found","_law_due"] (defScope sLSame):=⟨rfl,rfl,rfl,by decide +kernel,rfl,by decide +kernel,by decide +kernel⟩
theorem ndSm:(["_law_found","_law_due","_law_one","_law_other"]:List Str).Nodup:=by decide +kernel
theorem ok_sm0 (F:Fun K "_law_same" "_law_same" sLSame f fd):FnOk P w K mg base CX0 (1 + 0) f fd ["_law_found","_law_due"] (spSm 0):=by
  refine F.by (k:=0) scSm (fun vs H Q E h=>?_) (fun cdv A outer s H vs Q E hr h=>?_)
  · obtain ⟨x,y,rfl,_⟩:=h
    rfl
  obtain ⟨x,y,rfl,h,_⟩:=h
  exact h.elim
theorem ok_sm {n:Nat} (F:Fun K "_law_same" "_law_same" sLSame f fd) (GS:Ca P w K mg base CX0 (1 + n) "_law_same" ["_law_found","_law_due"] (spSm n)) (m_isinstance:mg "isinstance"=none) (m_tuple:mg "tuple"=none) (m_str:mg "str"=none) (m_bool:mg "bool"=none) (m_int:mg "int"=none) (m_len:mg "len"=none) (m_zip:mg "zip"=none) (m_all:mg "all"=none):FnOk P w K mg base CX0 (1 + (n + 1)) f fd ["_law_found","_law_due"] (spSm (n + 1)):=by
  refine F.by (k:=1 + n) scSm (fun vs H Q E h=>?_) (fun cdv A outer s H vs Q E hr h=>?_)
  · obtain ⟨x,y,rfl,_⟩:=h
    rfl
  obtain ⟨x,y,rfl,h,q⟩:=h
  refine ⟨_,
    (jss_cons (js_if (jt_val (je_fnB (jc_isinstK K) rfl m_isinstance PyProof.Rows.boot_isinstance (ja_c (jv 1) (ja_c (je_bltn (v:=.ty "tuple") rfl m_tuple PyProof.Rows.boot_tuple rfl) ja_nil))))
      (jss_cons (js_if (jW.pt (jw_or (jt_not (jt_val (je_fnB (jc_isinstK K) rfl m_isinstance PyProof.Rows.boot_isinstance (ja_c (jv 0) (ja_c (je_bltn (v:=.ty "tuple") rfl m_tuple PyProof.Rows.boot_tuple rfl) ja_nil))))) (jw_or1 (jt_cmpR jo_ne (je_fnB (jc_len_seqK K) rfl m_len PySem.boot_len (ja_c (jv 0) ja_nil)) (je_fnB (jc_len_seqK K) rfl m_len PySem.boot_len (ja_c (jv 1) ja_nil)) (nomark _)))))
        (jss_one (js_ret je_bl)) jss_nil)
      (jss_one (js_ret (je_fnB (jc_all_bools rfl) rfl m_all PyProof.Rows.boot_all (ja_c (je_comp ["_law_one","_law_other"] rfl (ji_zipK K rfl m_zip (ja_c (jv 0) (ja_c (jv 1) ja_nil))) (fun _ _ _ _ _=>(jg_tupK K (n:=2) rfl (jgs_cons (jg_name (i:=2) ndSm rfl (Or.inl rfl)) (jgs_cons (jg_name (i:=3) ndSm rfl (Or.inl rfl)) jgs_nil)))) (fun _ _ _ _ _=>jts_nil) (fun _ _ _ _ _=>(je_ca GS hr rfl pass0 (ja_c (jv 2) (ja_c (jv 3) ja_nil))))) ja_nil))))) jss_nil)
    (jss_cons (js_if (jt_val (je_fnB (jc_isinstK K) rfl m_isinstance PyProof.Rows.boot_isinstance (ja_c (jv 1) (ja_c (je_bltn (v:=.ty "str") rfl m_str PyProof.Rows.boot_str rfl) ja_nil))))
      (jss_one (js_ret (je_and (je_fnB (jc_isinstK K) rfl m_isinstance PyProof.Rows.boot_isinstance (ja_c (jv 0) (ja_c (je_bltn (v:=.ty "str") rfl m_str PyProof.Rows.boot_str rfl) ja_nil))) (je_one (je_cmpR jo_eq (jv 0) (jv 1) (nomark _)))))) jss_nil)
    (jss_cons (js_if (jt_val (je_fnB (jc_isinstK K) rfl m_isinstance PyProof.Rows.boot_isinstance (ja_c (jv 1) (ja_c (je_bltn (v:=.ty "bool") rfl m_bool PyProof.Rows.boot_bool rfl) ja_nil))))
      (jss_one (js_ret (je_and (je_fnB (jc_isinstK K) rfl m_isinstance PyProof.Rows.boot_isinstance (ja_c (jv 0) (ja_c (je_bltn (v:=.ty "bool") rfl m_bool PyProof.Rows.boot_bool rfl) ja_nil))) (je_one (je_cmpR jo_eq (jv 0) (jv 1) (nomark _)))))) jss_nil)
    (jss_one (js_ret (je_and (je_fnB (jc_isinstK K) rfl m_isinstance PyProof.Rows.boot_isinstance (ja_c (jv 0) (ja_c (je_bltn (v:=.ty "int") rfl m_int PyProof.Rows.boot_int rfl) ja_nil))) (je_and (je_not (je_fnB (jc_isinstK K) rfl m_isinstance PyProof.Rows.boot_isinstance (ja_c (jv 0) (ja_c (je_bltn (v:=.ty "bool") rfl m_bool PyProof.Rows.boot_bool rfl) ja_nil)))) (je_one (je_cmpR jo_eq (jv 0) (jv 1) (nomark _)))))))))),?_⟩
  have sl:=line0
  rcases h with ⟨rfl,⟨i,rfl⟩ | ⟨z,rfl⟩⟩ | ⟨a,b,xs,ys,rfl,rfl,ha,hb,hl,hn,hk⟩
  · refine ⟨_,rfl,_,_,_,_,rfl,.int _,rfl,_,rfl,iteF (nxtC ?_)⟩
    refine ⟨_,rfl,_,_,_,_,rfl,.int _,rfl,_,rfl,iteF (nxtC ?_)⟩
    refine ⟨_,rfl,_,_,_,_,rfl,.int _,rfl,_,rfl,iteF (nxtC ?_)⟩
    refine ⟨_,rfl,_,_,_,true,rfl,.int _,rfl,_,rfl,iteT ⟨_,rfl,_,_,_,false,rfl,.int _,rfl,_,rfl,_,rfl,iteT ?_⟩⟩
    refine ⟨_,rfl,_,rfl,rfl,?_⟩
    rw [decide_eq_true rfl]
    exact q _ (Same.refl _)
  · refine ⟨_,rfl,_,_,_,_,rfl,.str _,rfl,_,rfl,iteF (nxtC ?_)⟩
    refine ⟨_,rfl,_,_,_,_,rfl,.str _,rfl,_,rfl,iteT ?_⟩
    refine ⟨_,rfl,_,_,_,true,rfl,.str _,rfl,_,rfl,iteT ?_⟩
    refine ⟨_,rfl,_,rfl,rfl,?_⟩
    rw [decide_eq_true rfl]
    exact q _ (Same.refl _)
  · refine ⟨_,rfl,_,_,_,_,rfl,.tup hb,rfl,_,rfl,iteT ?_⟩
    refine ⟨_,rfl,_,_,_,_,rfl,.tup ha,rfl,_,rfl,iteF ⟨_,rfl,a,_,rfl,.inr (SqT.of ha),_,rfl,b,_,rfl,.inr (SqT.of hb),rfl,_,rfl,?_⟩⟩
    rw [hl]
    rw [show (!decide (V.int (ys.length:Int)=V.int (ys.length:Int)))=false by rw [decide_eq_true rfl]; rfl]
    refine iteF (nxtC ?_)
    refine ex22q rfl rfl ⟨a,b,false,false,_,_,rfl,SqK.t ha,SqK.t hb,lc_zip (xs:=xs) (ys:=ys) hl (fun j τ zs H'=>Same H H'/\(∃ u v,τ=[some (.ref a),some (.ref b),u,v])/\zs=(List.replicate j true).map V.bl) ⟨Same.refl _,⟨none,none,rfl⟩,rfl⟩ (fun j τ zs H' _ h=>⟨SqK.t (h.1 _ _ ha),SqK.t (h.1 _ _ hb)⟩) ?_ ?_⟩
    · rintro i v1 v2 T τ zs H3 g1 g2 hT ⟨s3,⟨u,v,rfl⟩,rfl⟩
      have il:=(List.getElem?_eq_some_iff.mp g1).1
      have s4:=s3.new (o:=.tup [v1,v2]) hT
      refine ⟨T,(ex2q rfl ⟨SqT.of upd_same,rfl,_,_,rfl,_,_,rfl,rfl,?_⟩)⟩
      generalize upd H3 T (.tup [v1,v2])=H4 at *
      refine ex22q rfl rfl ⟨v1,v2,rfl,Sm.keep (.of s4) (hk i v1 v2 g1 g2),fun H5 s5=>⟨by rw [List.length_map,List.length_replicate]; lia,s4.trans s5,⟨_,_,rfl⟩,?_⟩⟩
      rw [List.replicate_succ',List.map_append]
      rfl
    rintro τ zs H5 ⟨s5,_,rfl⟩ l5 h5
    refine ⟨l5,_,rfl,SqL.of upd_same,?_⟩
    rw [show (List.replicate xs.length true).all _root_.id=true by simp]
    exact q _ (s5.new h5)
end
end GN
namespace GN
open PySem L2 K11
def spAlias (K:PySem.W.Frag):Sp:=fun vs H Q _=>∃ (st d:Addr) (B n:Nat) (μ:Sg) (x:Str),vs=[.ref st,.ref d,.str x]/\Sta K H st B/\B < LIM/\Sd H d μ n/\n<=1000000/\μ x=some x/\∀ (H':Hp) (y:Str),Kp st H H'->Sta K H' st (B + 1)->μ y=some x->Q (.str y) H'
section
variable {P:Program} {w:World} {K:PySem.W.Frag} {mg:Str->Option Value} {base:Heap} {f:Addr} {fd:FuncData}
theorem scAlias:FnScope ["_law_state","_law_means","_law_name_here","_law_some"] ["_law_state","_law_means","_law_name_here"] (defScope sLAlias):=⟨rfl,rfl,rfl,by decide +kernel,rfl,by decide +kernel,by decide +kernel⟩
theorem ndAlias:(["_law_state","_law_means","_law_name_here","_law_some","_law_one"]:List Str).Nodup:=by decide +kernel
theorem Sd.key {H:Hp} {d:Addr} {μ:Sg} {kvs:List (Key × V)} (h3:∀ kv∈kvs,∃ x y,kv=(.inr x,V.str y)) (h4:∀ x,valV kvs (.inr x)=(μ x).map V.str) {j:Nat} {kv:Key × V} (h:kvs[j]?=some kv):∃ z y,kv.1=.inr z/\μ z=some y:=by
  obtain ⟨z,y,e⟩:=h3 kv (List.mem_of_getElem? h)
  have q:(valV kvs (.inr z)).isSome=true:=by
    rw [<- valV_any]
    exact List.any_eq_true.mpr ⟨kv,List.mem_of_getElem? h,by rw [e]; exact decide_eq_true rfl⟩
  rw [h4] at q
  cases e2:μ z with
  | none=>rw [e2] at q; cases q
  | some y=>exact ⟨z,y,by rw [e],e2⟩
theorem ok_alias (F:Fun K "_law_alias" "_law_alias" sLAlias f fd) (GD:Ca P w K mg base CX0 1 "_law_draw" ["_law_state","_law_many"] (spDraw K)) (m_len:mg "len"=none):FnOk P w K mg base CX0 2 f fd ["_law_state","_law_means","_law_name_here"] (spAlias K):=by
  refine F.by scAlias (fun vs H Q E h=>?_) (fun cdv A outer s H vs Q E hr h=>?_)
  · obtain ⟨st,d,B,n,μ,x,rfl,_⟩:=h
    rfl
  obtain ⟨st,d,B,n,μ,x,rfl,S,hB,hd,hn,hx,q⟩:=h
  refine ⟨_,
    (jss_cons (js_thaw H (js_comp ["_law_one"] (i:=3) scAlias.nd rfl (Or.inl rfl) rfl (ji_dict (jv 1)) (fun _ _ _ _ _=>(jg_name (i:=4) ndAlias rfl (Or.inl rfl))) (fun _ _ _ _ _=>(jts_one (jt_cmpR jo_eq (je_dget hr (jv 1) (jv 4)) (jv 2) (nomark _)))) (fun _ _ _ _ _=>(jv 4))))
    (jss_one (js_ret (je_ix (jx_listK K) (jv 3) (je_ca GD hr rfl pass0 (ja_c (jv 0) (ja_c (je_fnB (jc_len_seqK K) rfl m_len PySem.boot_len (ja_c (jv 3) ja_nil)) ja_nil))) (fun _ _=>rfl))))),?_⟩
  have sl:=line0
  obtain ⟨kvs,g1,g2,g3,g4⟩:=hd.ex
  refine ex2q rfl ⟨d,kvs,rfl,g1,fun ob=>lc_dict (fun j τ ys H'=>upd H d (.frz ob (.dK kvs))=H'/\(∃ v,τ=[some (.ref st),some (.ref d),some (.str x),none,v])/\∃ zs:List Str,ys=zs.map V.str/\zs.length<=j/\(∀ z∈zs,μ z=some x)/\∀ (k:Nat) (v:V),k < j->kvs[k]?=some (.inr x,v)->x∈zs) ⟨rfl,⟨none,rfl⟩,[],rfl,Nat.le_refl _,(fun _ z=>by cases z),fun _ _ z=>absurd z (Nat.not_lt_zero _)⟩ (fun j τ ys H' _ h=>by rw [<- h.1]; exact upd_same) ?_ ?_⟩
  · rintro j kv τ ys H2 hkv ⟨rfl,⟨v',rfl⟩,zs,rfl,hl,hz,hk⟩
    have jl:=(List.getElem?_eq_some_iff.mp hkv).1
    obtain ⟨z,y,e1,e2⟩:=Sd.key (H:=H) (d:=d) g3 g4 hkv
    have dg:DGet (upd H d (.frz ob (.dK kvs))) d (kV kv.1) (some (.str y)):=.inl ⟨kvs,kv.1,.inr ⟨ob,upd_same⟩,rfl,by rw [e1,g4,e2]; rfl⟩
    have ev:kV kv.1=.str z:=by rw [e1]; rfl
    refine (ex22q rfl rfl ⟨d,_,rfl,dg,(ex2q rfl ⟨rfl,(ex2q rfl ?_)⟩)⟩)
    by_cases c:y=x
    · rw [decide_eq_true (by rw [c])]
      refine iteT (ex2q rfl ⟨by rw [List.length_map]; lia,rfl,⟨_,rfl⟩,zs ++ [z],by rw [ev,List.map_append]; rfl,by rw [List.length_append]; exact Nat.succ_le_succ hl,fun z' hz'=>?_,fun k v hk' hv=>?_⟩)
      · rcases List.mem_append.mp hz' with hz' | hz'
        · exact hz z' hz'
        · rw [List.mem_singleton.mp hz',e2,c]
      · rcases Nat.lt_succ_iff_lt_or_eq.mp hk' with hk' | rfl
        · exact List.mem_append.mpr (.inl (hk k v hk' hv))
        · rw [hkv] at hv
          cases hv
          exact List.mem_append.mpr (.inr (List.mem_singleton.mpr (Sum.inr.inj e1)))
    · rw [decide_eq_false (fun e=>c (V.str.inj e))]
      refine iteF ⟨rfl,⟨_,rfl⟩,zs,rfl,Nat.le_succ_of_le hl,hz,fun k v hk' hv=>?_⟩
      rcases Nat.lt_succ_iff_lt_or_eq.mp hk' with hk' | rfl
      · exact hk k v hk' hv
      · rw [hkv] at hv
        cases hv
        have e3:x=z:=Sum.inr.inj e1
        rw [<- e3,hx] at e2
        exact absurd (Option.some.inj e2).symm c
  rintro τ ys H5 ⟨rfl,_,zs,rfl,hl,hz,hk⟩ l5 h5
  have n5:l5≠d:=fun z=>by rw [z,upd_same] at h5; cases h5
  have h5':H l5=none:=by rw [upd_ne n5] at h5; exact h5
  refine ⟨d,ob,kvs,by rw [upd_ne n5.symm]; exact upd_same,(fun o u e=>by rw [g1] at e; cases e),?_⟩
  have s1:Same H (upd (upd (upd H d (.frz ob (.dK kvs))) l5 (.lst (zs.map V.str))) d (.dK kvs)):=fun b u e=>by
    by_cases c:b=d
    · rw [c,upd_same,<- e,c,g1]
    · rw [upd_ne c,upd_ne (ne_of_none e h5'),upd_ne c]; exact e
  have e5:upd (upd (upd H d (.frz ob (.dK kvs))) l5 (.lst (zs.map V.str))) d (.dK kvs) l5=some (.lst (zs.map V.str)):=by rw [upd_ne n5]; exact upd_same
  dsimp only
  generalize upd (upd (upd H d (.frz ob (.dK kvs))) l5 (.lst (zs.map V.str))) d (.dK kvs)=H6 at *
  have hzl:0 < zs.length:=by
    have hv:valV kvs (.inr x)=some (.str x):=by rw [g4,hx]; rfl
    obtain ⟨p,hp,e⟩:=List.mem_map.mp (valV_in hv)
    obtain ⟨k,hk2⟩:=List.mem_iff_getElem?.mp hp
    obtain ⟨pk,pv⟩:=p
    cases e
    exact List.length_pos_of_mem (hk k pv (List.getElem?_eq_some_iff.mp hk2).1 hk2)
  refine (ex2q rfl (ex22q rfl rfl ⟨l5,_,rfl,.inl (SqL.of e5),⟨st,_,B,rfl,S.same s1,hB,by rw [List.length_map]; lia,fun H7 r k7 S7 r0 r1=>?_⟩⟩))
  obtain ⟨k,rfl⟩:=Int.eq_ofNat_of_zero_le r0
  rw [List.length_map] at r1
  have kl:k < zs.length:=by lia
  have n6:l5≠st:=S.ne h5'
  exact ⟨l5,_,_,_,rfl,rfl,SqL.of (k7.k _ _ n6 e5),atI_nat (j:=k) (by rw [List.getElem?_map,List.getElem?_eq_getElem kl]; rfl),q H7 _ ((Kp.of s1).trans k7) S7 (hz _ (List.getElem_mem kl))⟩
end
end GN
namespace GN
open PySem L2 K11
mutual
def Bd.want:Bd->List Str
  | .give x=>[x]
  | .lt _ d b=>d.uses ++ b.want
  | .iff x a b=>x :: (a.want ++ b.want)
  | .case x as=>x :: as.want
def Arms.want:Arms->List Str
  | .nil=>[]
  | .cons _ _ b r=>b.want ++ r.want
end
def Arms.bs:Arms->List (Str × List Str × Bd)
  | .nil=>[]
  | .cons t ns b r=>(t,ns,b) :: r.bs
def bsz (l:List (Str × List Str × Bd)):Nat:=(l.map fun x=>x.2.1.length + x.2.2.sz + 1).sum
theorem Arms.bsz:∀ as:Arms,GN.bsz as.bs=as.sz
  | .nil=>by rw [Arms.sz]; rfl
  | .cons t ns b r=>by
    rw [Arms.sz,Arms.bs]
    show _ + GN.bsz r.bs=_
    rw [Arms.bsz r]
    show ns.length + b.sz + 1 + _=_
    lia
theorem bsz_take {l:List (Str × List Str × Bd)} {i:Nat} {x:Str × List Str × Bd} (h:l[i]?=some x):bsz (l.take (i + 1))=bsz (l.take i) + (x.2.1.length + x.2.2.sz + 1):=by
  unfold bsz
  rw [List.take_add_one,h,List.map_append,List.sum_append]
  rfl
theorem bsz_le (l:List (Str × List Str × Bd)) (i:Nat):bsz (l.take i)<=bsz l:=by
  have:bsz (l.take i ++ l.drop i)=bsz (l.take i) + bsz (l.drop i):=by unfold bsz; rw [List.map_append,List.sum_append]
  rw [List.take_append_drop] at this
  lia
theorem Arms.mw:∀ {as:Arms} {y:Str},y∈as.want->∃ x∈as.bs,y∈x.2.2.want
  | .nil,y,h=>by rw [Arms.want] at h; cases h
  | .cons t ns b r,y,h=>by
    rw [Arms.want] at h
    rw [Arms.bs]
    rcases List.mem_append.mp h with h | h
    · exact ⟨_,.head _,h⟩
    · obtain ⟨x,hx,hy⟩:=Arms.mw h
      exact ⟨x,.tail _ hx,hy⟩
theorem Arms.bdp:∀ {as:Arms} {x:Str × List Str × Bd},x∈as.bs->x.2.2.dp<=as.dp
  | .nil,x,h=>by rw [Arms.bs] at h; cases h
  | .cons t ns b r,x,h=>by
    rw [Arms.bs] at h
    rw [Arms.dp]
    rcases List.mem_cons.mp h with rfl | h
    · exact Nat.le_max_left _ _
    · exact Nat.le_trans (Arms.bdp h) (Nat.le_max_right _ _)
theorem IsA.getb {H:Hp}:∀ {as:Arms} {ps:List Addr} {i:Nat} {p:Addr},IsA H as ps->ps[i]?=some p->∃ t ns b q s,as.bs[i]?=some (t,ns,b)/\H p=some (.tup [.str t,.ref q,.ref s])/\H q=some (.tup (ns.map V.str))/\IsB H b s
  | _,_,_,_,.nil,e=>by simp at e
  | _,_,0,_,.cons a b c _,e=>by
    cases e
    exact ⟨_,_,_,_,_,rfl,a,b,c⟩
  | _,_,i + 1,_,.cons _ _ _ d,e=>by
    obtain ⟨t,ns,b,q,s,h1,h2⟩:=IsA.getb (i:=i) d (by simpa using e)
    exact ⟨t,ns,b,q,s,by rw [Arms.bs]; simpa using h1,h2⟩
theorem IsA.bsl {H:Hp}:∀ {as:Arms} {ps:List Addr},IsA H as ps->as.bs.length=ps.length
  | _,_,.nil=>rfl
  | _,_,.cons _ _ _ d=>by rw [Arms.bs,List.length_cons,List.length_cons,IsA.bsl d]
theorem IsDe.usl {H:Hp} {d:De} {p:Addr} (h:IsDe H d p):d.uses.length<=41:=by
  cases h with
  | num a=>show 0<=41; decide
  | op a=>show 2<=41; decide
  | @app w0 f0 xs0 p q0 c a b =>
    by_cases e:w0="ask"
    · rw [e,uses_ask,List.length_cons]; lia
    · rw [uses_app e]; lia
def spLUses:Sp:=fun vs H Q _=>∃ (p:Addr) (d:De),vs=[.ref p]/\IsDe H d p/\∀ (H':Hp) (r:Addr),Same H H'->H r=none->H' r=some (.lst (d.uses.map V.str))->Q (.ref r) H'
def spWanted (n:Nat):Sp:=fun vs H Q _=>∃ (p:Addr) (b:Bd),vs=[.ref p]/\IsB H b p/\b.dp<=n/\b.sz<=100000/\∀ (H':Hp) (r:Addr) (xs:List Str),Same H H'->H r=none->H' r=some (.lst (xs.map V.str))->xs.length<=41 * b.sz->(∀ y∈b.want,y∈xs)->Q (.ref r) H'
section
variable {P:Program} {w:World} {K:PySem.W.Frag} {mg:Str->Option Value} {base:Heap} {f:Addr} {fd:FuncData}
theorem scLUses:FnScope ["_law_deed_here"] ["_law_deed_here"] (defScope sLUses):=⟨rfl,rfl,rfl,by decide +kernel,rfl,by decide +kernel,by decide +kernel⟩
theorem ok_luses (F:Fun K "_law_uses" "_law_uses" sLUses f fd) (m_list:mg "list"=none):FnOk P w K mg base CX0 1 f fd ["_law_deed_here"] spLUses:=by
  refine F.by scLUses (fun vs H Q E h=>?_) (fun cdv A outer s H vs Q E hr h=>?_)
  · obtain ⟨p,d,rfl,_⟩:=h
    rfl
  obtain ⟨p,d,rfl,hd,q⟩:=h
  refine ⟨_,
    (jss_cons (js_if (jt_cmpR jo_eq (je_ixK K (jv 0)) je_str (nomark _)) (jss_one (js_ret (je_lst ja_nil))) jss_nil)
    (jss_cons (js_if (jt_cmpR jo_eq (je_ixK K (jv 0)) je_str (nomark _)) (jss_one (js_ret (je_lst (ja_c (je_ixK K (jv 0)) (ja_c (je_ixK K (jv 0)) ja_nil))))) jss_nil)
    (jss_cons (js_if (jt_cmpR jo_eq (je_ixK K (jv 0)) je_str (nomark _)) (jss_one (js_ret (je_op jo_cat (je_lst (ja_c (je_ixK K (jv 0)) ja_nil)) (je_fnTy (jc_list_ofK K) rfl m_list PyProof.Rows.boot_list (ja_c (je_ixK K (jv 0)) ja_nil))))) jss_nil)
    (jss_one (js_ret (je_fnTy (jc_list_ofK K) rfl m_list PyProof.Rows.boot_list (ja_c (je_ixK K (jv 0)) ja_nil))))))),?_⟩
  have sl:=line0
  cases hd with
  | num hp=>exact ifSay rfl hp ⟨by show 0<=sizeLine; decide,fun r hr=>q _ r (same_new hr _) hr upd_same⟩
  | @op w0 a b _ hp=>exact ifNot rfl hp (ifSay rfl hp (ex2q rfl (ixT hp (atI_nat (j:=2) rfl) (ex2q rfl (ixT hp (atI_nat (j:=3) rfl) ⟨by show 2<=sizeLine; decide,fun r hr=>q _ r (same_new hr _) hr upd_same⟩)))))
  | @app w0 g xs _ pq hw hp hq =>
    obtain ⟨w1,w2,w3⟩:=hw
    refine ifNot rfl hp (ifNot rfl hp ?_ (decide_eq_false fun e=>w2 (V.str.inj e))) (decide_eq_false fun e=>w1 (V.str.inj e))
    by_cases e:w0="ask"
    · subst e
      rw [uses_ask] at q
      refine ifSay rfl hp (ex2q rfl (ixT hp (atI_nat (j:=1) rfl) ⟨by show 1<=sizeLine; decide,fun t1 h1=>?_⟩))
      have s1:=same_new (o:=.lst [.str g]) h1
      refine ⟨_,rfl,ixT (s1 _ _ hp) (atI_nat (j:=2) rfl) ⟨pq,_,rfl,.inr (SqT.of (s1 _ _ hq)),fun t2 h2=>⟨t1,t2,_,_,rfl,rfl,old h2 upd_same,upd_same,by rw [List.length_map]; show 1 + xs.length<=_; lia,fun r hr=>?_⟩⟩⟩
      exact q _ r ((s1.new h2).new hr) ((s1.new h2).free hr) upd_same
    · rw [uses_app e] at q
      exact ifNot rfl hp ⟨_,rfl,ixT hp (atI_nat (j:=2) rfl) ⟨pq,_,rfl,.inr (SqT.of hq),fun r hr=>q _ r (same_new hr _) hr upd_same⟩⟩ (decide_eq_false fun z=>e (V.str.inj z))
theorem scWanted:FnScope ["_law_body_here","_law_found","_law_tag","_law_names","_law_inner"] ["_law_body_here"] (defScope sLWanted):=⟨rfl,rfl,rfl,by decide +kernel,rfl,by decide +kernel,by decide +kernel⟩
theorem Bd.dp_pos:∀ b:Bd,0 < b.dp
  | .give _=>by rw [Bd.dp]; decide
  | .lt _ _ b=>by rw [Bd.dp]; lia
  | .iff _ a b=>by rw [Bd.dp]; lia
  | .case _ as=>by rw [Bd.dp]; lia
theorem ok_wanted0 (F:Fun K "_law_wanted" "_law_wanted" sLWanted f fd):FnOk P w K mg base CX0 (2 + 0) f fd ["_law_body_here"] (spWanted 0):=by
  refine F.by (k:=1) scWanted (fun vs H Q E h=>?_) (fun cdv A outer s H vs Q E hr h=>?_)
  · obtain ⟨p,b,rfl,_⟩:=h
    rfl
  obtain ⟨p,b,rfl,hI,hd,_⟩:=h
  have:=b.dp_pos
  lia
theorem ok_wanted {n:Nat} (F:Fun K "_law_wanted" "_law_wanted" sLWanted f fd) (GU:Ca P w K mg base CX0 1 "_law_uses" ["_law_deed_here"] spLUses) (GN':Ca P w K mg base CX0 (2 + n) "_law_wanted" ["_law_body_here"] (spWanted n)):FnOk P w K mg base CX0 (2 + (n + 1)) f fd ["_law_body_here"] (spWanted (n + 1)):=by
  refine F.by (k:=2 + n) scWanted (fun vs H Q E h=>?_) (fun cdv A outer s H vs Q E hr h=>?_)
  · obtain ⟨p,b,rfl,_⟩:=h
    rfl
  obtain ⟨p,b,rfl,hI,hd,hz,q⟩:=h
  have hrN:Room (2 + n) _:=hr
  have hr1:Room 1 _:=hrN.mono (by lia)
  refine ⟨_,
    (jss_cons (js_if (jt_cmpR jo_eq (je_ixK K (jv 0)) je_str (nomark _)) (jss_one (js_ret (je_lst (ja_c (je_ixK K (jv 0)) ja_nil)))) jss_nil)
    (jss_cons (js_if (jt_cmpR jo_eq (je_ixK K (jv 0)) je_str (nomark _)) (jss_one (js_ret (je_op jo_cat (je_ca GU hr1 rfl pass0 (ja_c (je_ixK K (jv 0)) ja_nil)) (je_ca GN' hrN rfl pass0 (ja_c (je_ixK K (jv 0)) ja_nil))))) jss_nil)
    (jss_cons (js_if (jt_cmpR jo_eq (je_ixK K (jv 0)) je_str (nomark _)) (jss_one (js_ret (je_op jo_cat (je_op jo_cat (je_lst (ja_c (je_ixK K (jv 0)) ja_nil)) (je_ca GN' hrN rfl pass0 (ja_c (je_ixK K (jv 0)) ja_nil))) (je_ca GN' hrN rfl pass0 (ja_c (je_ixK K (jv 0)) ja_nil))))) jss_nil)
    (jss_cons (js_set (i:=1) scWanted.nd rfl (Or.inl rfl) (je_lst (ja_c (je_ixK K (jv 0)) ja_nil)))
    (jss_cons (js_for PassesOwn.never rfl (ji_tupK K (je_ixK K (jv 0))) (jg_tupK K rfl (jgs_cons (jg_name (i:=2) scWanted.nd rfl (Or.inl rfl)) (jgs_cons (jg_name (i:=3) scWanted.nd rfl (Or.inl rfl)) (jgs_cons (jg_name (i:=4) scWanted.nd rfl (Or.inl rfl)) jgs_nil))))
      (jss_one (js_set (i:=1) scWanted.nd rfl (Or.inl rfl) (je_op jo_cat (jv 1) (je_ca GN' hrN rfl pass0 (ja_c (jv 4) ja_nil))))))
    (jss_one (js_ret (jv 1)))))))),?_⟩
  have sl:=line0
  cases hI with
  | @give x p hp =>
    refine ifSay rfl hp (ex2q rfl (ixT hp (atI_nat (j:=1) rfl) ⟨by show 1<=sizeLine; decide,fun l1 h1=>?_⟩))
    exact q _ l1 [x] (same_new h1 _) h1 upd_same (by rw [Bd.sz]; show 1<=41; decide) fun y hy=>by rw [Bd.want] at hy; exact hy
  | @lt x d b p q0 r hp hD hb =>
    rw [Bd.dp] at hd
    rw [Bd.sz] at hz q
    have ul:=hD.usl
    refine ifNot rfl hp (ifSay rfl hp (ex2q rfl (ixT hp (atI_nat (j:=2) rfl) ⟨q0,d,rfl,hD,fun H1 l1 s1 f1 h1=>?_⟩)))
    refine (ex2q rfl (ixT (s1 _ _ hp) (atI_nat (j:=3) rfl) ⟨r,b,rfl,hb.keep (.of s1),by lia,by lia,fun H2 l2 ys s2 f2 h2 yl hy=>?_⟩))
    refine ⟨l1,l2,(ex4q rfl rfl ⟨s2 _ _ h1,h2,by rw [List.length_map,List.length_map]; lia,fun l3 h3=>?_⟩)⟩
    have s02:=s1.trans s2
    refine q _ l3 (d.uses ++ ys) (s02.new h3) (s02.free h3) (by rw [upd_same,List.map_append]) (by rw [List.length_append]; lia) fun y h=>?_
    rw [Bd.want] at h
    exact (List.mem_append.mp h).elim (fun h=>List.mem_append.mpr (.inl h)) fun h=>List.mem_append.mpr (.inr (hy y h))
  | @iff x a b p q0 r hp h1 h2 =>
    rw [Bd.dp] at hd
    rw [Bd.sz] at hz q
    refine ifNot rfl hp (ifNot rfl hp (ifSay rfl hp (ex2q rfl (ixT hp (atI_nat (j:=1) rfl) ⟨by show 1<=sizeLine; decide,fun l0 h0=>?_⟩))))
    have s0:=same_new (o:=.lst [.str x]) h0
    refine (ex2q rfl (ixT (s0 _ _ hp) (atI_nat (j:=2) rfl) ⟨q0,a,rfl,h1.keep (.of s0),by lia,by lia,fun H1 l1 xs s1 f1 g1 hxl hxs=>?_⟩))
    refine ⟨l0,l1,(ex4q rfl rfl ⟨s1 _ _ upd_same,g1,by rw [List.length_map]; show 1 + xs.length<=_; lia,fun l4 h4=>?_⟩)⟩
    have s01:=s0.trans s1
    have s04:=s01.new (o:=.lst ([.str x] ++ xs.map V.str)) h4
    refine (ex2q rfl (ixT (s04 _ _ hp) (atI_nat (j:=3) rfl) ⟨r,b,rfl,h2.keep (.of s04),by lia,by lia,fun H2 l2 ys s2 f2 g2 hyl hys=>?_⟩))
    refine ⟨l4,l2,(ex4q rfl rfl ⟨s2 _ _ upd_same,g2,by rw [List.length_append,List.length_map,List.length_map]; show 1 + xs.length + ys.length<=_; lia,fun l3 h3=>?_⟩)⟩
    have s02:=s04.trans s2
    refine q _ l3 (x :: (xs ++ ys)) (s02.new h3) (s02.free h3) (by rw [upd_same,List.map_cons,List.map_append]; rfl) (by rw [List.length_cons,List.length_append]; lia) fun y h=>?_
    rw [Bd.want] at h
    rcases List.mem_cons.mp h with rfl | h
    · exact .head _
    · exact .tail _ ((List.mem_append.mp h).elim (fun h=>List.mem_append.mpr (.inl (hxs y h))) fun h=>List.mem_append.mpr (.inr (hys y h)))
  | @case x as ps p q0 hp hq hps hA =>
    rw [Bd.dp] at hd
    rw [Bd.sz] at hz q
    have az:=as.bsz
    refine ifNot rfl hp (ifNot rfl hp (ifNot rfl hp (ex2q rfl (ixT hp (atI_nat (j:=1) rfl) ⟨by show 1<=sizeLine; decide,fun l1 h1=>?_⟩))))
    have s1:=same_new (o:=.lst [.str x]) h1
    refine (ex2q rfl (ixT (s1 _ _ hp) (atI_nat (j:=2) rfl) ⟨q0,rfl,⟨_,SqT.of (s1 _ _ hq)⟩,for_tup (xs:=ps.map V.ref) (fun i σ H'=>Same H H'/\∃ r xs,(∃ y1 y2 y3,σ=[some (.ref p),some (.ref r),y1,y2,y3])/\H r=none/\H' r=some (.lst (xs.map V.str))/\xs.length<=1 + 41 * bsz (as.bs.take i)/\x∈xs/\∀ y∈as.bs.take i,∀ z∈y.2.2.want,z∈xs) ⟨s1,l1,[x],⟨_,_,_,rfl⟩,h1,upd_same,Nat.le_refl _,List.mem_singleton.mpr rfl,fun y hy=>by cases hy⟩ (fun i σ H' _ h=>SqT.of (h.1 _ _ hq)) ?_ ?_⟩))
    · rintro i v σ H4 hv ⟨s4,r,xs,⟨y1,y2,y3,rfl⟩,fr,hr4,hxl,hx,hys⟩
      rw [List.getElem?_map] at hv
      obtain ⟨pa,hpa,rfl⟩:=Option.map_eq_some_iff.mp hv
      obtain ⟨t,ns,b,qa,ra,g1,g2,g3,g4⟩:=hA.getb hpa
      have bd:b.dp<=as.dp:=Arms.bdp (List.mem_of_getElem? g1)
      have bt:=bsz_take g1
      have bl:=bsz_le as.bs (i + 1)
      simp only at bt
      refine ⟨_,_,rfl,SqT.of (s4 _ _ g2),rfl,_,_,rfl,_,_,rfl,_,_,rfl,rfl,?_⟩
      refine (ex22q rfl rfl ⟨ra,b,rfl,g4.keep (.of s4),by lia,by lia,fun H5 l5 ys s5 f5 h5 hyl hy=>?_⟩)
      refine ⟨r,l5,(ex4q rfl rfl ⟨s5 _ _ hr4,h5,by rw [List.length_map,List.length_map]; lia,fun l6 h6=>?_⟩)⟩
      have s05:=s4.trans s5
      refine ⟨s05.new h6,l6,xs ++ ys,⟨_,_,_,rfl⟩,s05.free h6,by rw [upd_same,List.map_append],by rw [bt,List.length_append]; lia,List.mem_append.mpr (.inl hx),fun y hy' z hz'=>?_⟩
      rw [List.take_add_one,g1] at hy'
      rcases List.mem_append.mp hy' with h | h
      · exact List.mem_append.mpr (.inl (hys y h z hz'))
      · rw [List.mem_singleton.mp h] at hz'
        exact List.mem_append.mpr (.inr (hy z hz'))
    · rintro σ H4 ⟨s4,r,xs,⟨y1,y2,y3,rfl⟩,fr,hr4,hxl,hx,hys⟩
      rw [List.length_map,<- hA.bsl,List.take_of_length_le (Nat.le_refl _)] at hxl hys
      refine (ex2q rfl (q _ r xs s4 fr hr4 (by lia) fun y h=>?_))
      rw [Bd.want] at h
      rcases List.mem_cons.mp h with rfl | h
      · exact hx
      · obtain ⟨z,hz,hy⟩:=Arms.mw h
        exact hys z hz y hy
end
end GN
namespace GN
open PySem L2 K11
def Cmp (μ σ:Sg):Prop:=∀ x y,μ x=some y->σ.m x=y
def Mud (μ:Sg) (b:Bd) (c:Mc):Prop:=∀ σ,Cmp μ σ->plB c σ=b
theorem Sg.put_m {σ:Sg} {n y x:Str}:(σ.put n y).m x=if x=n then y else σ.m x:=by
  unfold Sg.put Sg.m
  dsimp only
  by_cases e:x=n
  · rw [if_pos e,if_pos e]; rfl
  · rw [if_neg e,if_neg e]
theorem Cmp.hold {μ σ:Sg} {n o y:Str} (h:Cmp μ σ) (e:μ o=some y):Cmp (μ.put n y) (σ.put n (σ.m o)):=fun x z q=>by
  rw [Sg.put_m]
  unfold Sg.put at q
  by_cases c:x=n
  · rw [if_pos c] at q ⊢
    rw [h o y e]
    exact Option.some.inj q
  · rw [if_neg c] at q ⊢
    exact h x z q
def Sg.self (μ:Sg) (xs:List Str):Sg:=fun z=>if z∈xs then some z else μ z
theorem Cmp.self {μ σ:Sg} {xs:List Str} (h:Cmp μ σ):Cmp (μ.self xs) (σ.cut xs):=fun x z q=>by
  unfold Sg.self at q
  unfold Sg.cut Sg.m
  dsimp only
  by_cases c:x∈xs
  · rw [if_pos c] at q ⊢
    exact Option.some.inj q
  · rw [if_neg c] at q ⊢
    exact h x z q
inductive Ex
  | ho (n o:Str)
  | sk (w x:Str)
def wrap:List Ex->Mc->Mc
  | [],c=>c
  | .ho n o :: r,c=>.hold n o (wrap r c)
  | .sk w x :: r,c=>.skip w x (wrap r c)
theorem wrap_snoc:∀ (es:List Ex) (e:Ex) (c:Mc),wrap (es ++ [e]) c=wrap es (wrap [e] c)
  | [],_,_=>rfl
  | .ho n o :: r,e,c=>by
    exact congrArg (Mc.hold n o) (wrap_snoc r e c)
  | .sk w x :: r,e,c=>by
    exact congrArg (Mc.skip w x) (wrap_snoc r e c)
theorem wrap_sz:∀ (es:List Ex) (c:Mc),(wrap es c).sz=c.sz + es.length
  | [],_=>rfl
  | .ho n o :: r,c=>by rw [wrap,Mc.sz,wrap_sz r c,List.length_cons]; lia
  | .sk w x :: r,c=>by rw [wrap,Mc.sz,wrap_sz r c,List.length_cons]; lia
def IsEx (H:Hp):Ex->V->Prop
  | .ho n o,v=>∃ p,v=.ref p/\H p=some (.tup [.str "hold",.str n,.str o])
  | .sk w x,v=>∃ p,v=.ref p/\(w="drop"\/w="loose")/\H p=some (.tup [.str w,.str x])
theorem IsEx.keep {H H':Hp} {e:Ex} {v:V} (h:IsEx H e v) (t:Tups H H'):IsEx H' e v:=by
  cases e with
  | ho n o=>obtain ⟨p,a,b⟩:=h; exact ⟨p,a,t _ _ b⟩
  | sk w x=>obtain ⟨p,a,b,c⟩:=h; exact ⟨p,a,b,t _ _ c⟩
def Exs (μ:Sg) (es:List Ex) (μ':Sg):Prop:=∀ b c,Mud μ' b c->Mud μ b (wrap es c)
theorem Exs.nil {μ:Sg}:Exs μ [] μ:=fun _ _ h=>h
theorem Exs.sk {μ μ':Sg} {es:List Ex} (h:Exs μ es μ') (w x:Str):Exs μ (es ++ [.sk w x]) μ':=fun b c hm=>by
  rw [wrap_snoc]
  refine h b _ fun σ hc=>?_
  show plB (.skip w x c) σ=b
  rw [plB]
  exact hm σ hc
theorem Exs.ho {μ μ':Sg} {es:List Ex} (h:Exs μ es μ') {n o y:Str} (e:μ' o=some y):Exs μ (es ++ [.ho n o]) (μ'.put n y):=fun b c hm=>by
  rw [wrap_snoc]
  refine h b _ fun σ hc=>?_
  show plB (.hold n o c) σ=b
  rw [plB]
  exact hm _ (hc.hold e)
mutual
def Fv:Sg->Bd->Prop
  | μ,.give x=>μ x=some x
  | μ,.lt x d b=>(∀ y∈d.uses,μ y=some y)/\Fv (μ.self [x]) b
  | μ,.iff x a b=>μ x=some x/\Fv μ a/\Fv μ b
  | μ,.case x as=>μ x=some x/\FvA μ as
def FvA:Sg->Arms->Prop
  | _,.nil=>True
  | μ,.cons _ xs b r=>Fv (μ.self xs) b/\FvA μ r
end
theorem Sg.self_up {μ μ':Sg} {xs ws:List Str} (h:∀ x∈ws,μ x=some x->μ' x=some x):∀ x∈ws,μ.self xs x=some x->μ'.self xs x=some x:=fun x hx e=>by
  unfold Sg.self at e ⊢
  by_cases c:x∈xs
  · rw [if_pos c]
  · rw [if_neg c] at e ⊢
    exact h x hx e
mutual
theorem Fv.up:∀ {b:Bd} {μ μ':Sg},Fv μ b->(∀ x∈b.want,μ x=some x->μ' x=some x)->Fv μ' b
  | .give x,μ,μ',h,g=>by
    rw [Fv] at h ⊢
    exact g x (by rw [Bd.want]; exact .head _) h
  | .lt x d b,μ,μ',h,g=>by
    rw [Fv] at h ⊢
    rw [Bd.want] at g
    exact ⟨fun y hy=>g y (List.mem_append.mpr (.inl hy)) (h.1 y hy),Fv.up h.2 (Sg.self_up fun x hx=>g x (List.mem_append.mpr (.inr hx)))⟩
  | .iff x a b,μ,μ',h,g=>by
    rw [Fv] at h ⊢
    rw [Bd.want] at g
    exact ⟨g x (.head _) h.1,Fv.up h.2.1 fun x hx=>g x (.tail _ (List.mem_append.mpr (.inl hx))),Fv.up h.2.2 fun x hx=>g x (.tail _ (List.mem_append.mpr (.inr hx)))⟩
  | .case x as,μ,μ',h,g=>by
    rw [Fv] at h ⊢
    rw [Bd.want] at g
    exact ⟨g x (.head _) h.1,FvA.up h.2 fun x hx=>g x (.tail _ hx)⟩
theorem FvA.up:∀ {as:Arms} {μ μ':Sg},FvA μ as->(∀ x∈as.want,μ x=some x->μ' x=some x)->FvA μ' as
  | .nil,_,_,_,_=>by rw [FvA]; trivial
  | .cons t xs b r,μ,μ',h,g=>by
    rw [FvA] at h ⊢
    rw [Arms.want] at g
    exact ⟨Fv.up h.1 (Sg.self_up fun x hx=>g x (List.mem_append.mpr (.inl hx))),FvA.up h.2 fun x hx=>g x (List.mem_append.mpr (.inr hx))⟩
end
theorem FvA.get:∀ {as:Arms} {μ:Sg} {x:Str × List Str × Bd},FvA μ as->x∈as.bs->Fv (μ.self x.2.1) x.2.2
  | .nil,_,_,_,hx=>by rw [Arms.bs] at hx; cases hx
  | .cons t xs b r,μ,x,h,hx=>by
    rw [FvA] at h
    rw [Arms.bs] at hx
    rcases List.mem_cons.mp hx with rfl | hx
    · exact h.1
    · exact FvA.get h.2 hx
mutual
theorem fv_snd {o:Wo}:∀ {b:Bd} {l:List Str} {μ:Sg},SndB o l b->(∀ x∈l,μ x=some x)->Fv μ b
  | .give x,l,μ,h,g=>by rw [SndB] at h; rw [Fv]; exact g x h
  | .lt x d b,l,μ,h,g=>by
    rw [SndB] at h
    rw [Fv]
    refine ⟨fun y hy=>g y (h.1.1 y hy),fv_snd h.2 fun y hy=>?_⟩
    unfold Sg.self
    by_cases c:y∈[x]
    · rw [if_pos c]
    · rw [if_neg c]
      exact g y ((List.mem_append.mp hy).elim (fun z=>z) fun z=>absurd z c)
  | .iff x a b,l,μ,h,g=>by
    rw [SndB] at h
    rw [Fv]
    exact ⟨g x h.1,fv_snd h.2.1 g,fv_snd h.2.2 g⟩
  | .case x as,l,μ,h,g=>by
    rw [SndB] at h
    rw [Fv]
    exact ⟨g x h.1,fv_sndA h.2 g⟩
theorem fv_sndA {o:Wo}:∀ {as:Arms} {l:List Str} {μ:Sg},SndA o l as->(∀ x∈l,μ x=some x)->FvA μ as
  | .nil,_,_,_,_=>by rw [FvA]; trivial
  | .cons t xs b r,l,μ,h,g=>by
    rw [SndA] at h
    rw [FvA]
    refine ⟨fv_snd h.1.2 fun y hy=>?_,fv_sndA h.2 g⟩
    unfold Sg.self
    by_cases c:y∈xs
    · rw [if_pos c]
    · rw [if_neg c]
      exact g y ((List.mem_append.mp hy).elim (fun z=>z) fun z=>absurd z c)
end
structure KpD (st d:Addr) (H H':Hp):Prop where
  k:∀ b u,b≠st->b≠d->H b=some u->H' b=some u
  s:∀ a k,H st=some (.lst [.ref a,.int k])->∃ k',H' st=some (.lst [.ref a,.int k'])
theorem KpD.refl {st d:Addr} {H:Hp}:KpD st d H H:=⟨fun _ _ _ _ h=>h,fun _ k h=>⟨k,h⟩⟩
theorem KpD.trans {st d:Addr} {H H1 H2:Hp} (a:KpD st d H H1) (b:KpD st d H1 H2):KpD st d H H2:=⟨fun c u n m h=>b.k c u n m (a.k c u n m h),fun x k h=>let ⟨k',h'⟩:=a.s x k h; b.s x k' h'⟩
theorem KpD.of {st d:Addr} {H H1:Hp} (a:Kp st H H1):KpD st d H H1:=⟨fun c u n _ h=>a.k c u n h,a.s⟩
theorem KpD.put {st d:Addr} {H:Hp} {o:HO} (n:d≠st):KpD st d H (upd H d o):=⟨fun c u _ m h=>by rw [upd_ne m]; exact h,fun x k h=>⟨k,by rw [upd_ne n.symm]; exact h⟩⟩
theorem KpD.kp {st d:Addr} {H0 H H':Hp} (k:KpD st d H H') (k0:Kp st H0 H) (h:H0 d=none):Kp st H0 H':=⟨fun b u n e=>k.k b u n (ne_of_none e h) (k0.k b u n e),fun x j e=>let ⟨j',e'⟩:=k0.s x j e; k.s x j' e'⟩
theorem sm_strs {H:Hp} {n:Nat} {xs:List Str} {a b:Addr} (ha:H a=some (.tup (xs.map V.str))) (hb:H b=some (.tup (xs.map V.str))) (hl:xs.length<=1000000):Sm (n + 2) H (.ref a) (.ref b) :=
  .inr ⟨a,b,_,_,rfl,rfl,ha,hb,rfl,by rw [List.length_map]; exact hl,fun i u v h1 h2=>by
    rw [h1] at h2
    cases h2
    rw [List.getElem?_map] at h1
    obtain ⟨z,_,rfl⟩:=Option.map_eq_some_iff.mp h1
    exact .inl ⟨rfl,.inr ⟨z,rfl⟩⟩⟩
theorem Sm.str {H:Hp} {n:Nat} {x:Str}:Sm (n + 1) H (.str x) (.str x):=.inl ⟨rfl,.inr ⟨x,rfl⟩⟩
theorem Sm.up {H:Hp}:∀ {n m:Nat} {x y:V},Sm n H x y->n<=m->Sm m H x y
  | 0,_,_,_,h,_=>h.elim
  | n + 1,0,_,_,_,l=>absurd l (Nat.not_succ_le_zero _)
  | n + 1,m + 1,_,_,.inl h,_=>.inl h
  | n + 1,m + 1,_,_,.inr ⟨a,b,xs,ys,e1,e2,h1,h2,h3,h4,h5⟩,l=>.inr ⟨a,b,xs,ys,e1,e2,h1,h2,h3,h4,fun i u v g1 g2=>Sm.up (h5 i u v g1 g2) (Nat.le_of_succ_le_succ l)⟩
end GN
namespace GN
open PySem L2 K11
section
variable {K:PySem.W.Frag} {H H' H2:Hp} {st d p:Addr} {B B':Nat} {kvs:List (Key × V)} {μ:Sg} {n n':Nat} {o:HO}
theorem Sta.neD (S:Sta K H st B) (h:H d=some (.dK kvs)):d≠st:=fun e=>by
  obtain ⟨a,ns,k,h1,_⟩:=S
  rw [e,h1] at h
  cases h
theorem Sta.but (S:Sta K H st B) (h:H d=some (.dK kvs)) (e:∀ b,b≠d->H' b=H b):Sta K H' st B:=by
  have n:=S.neD h
  obtain ⟨a,ns,k,h1,h2,h3,h4⟩:=S
  refine ⟨a,ns,k,by rw [e _ n.symm]; exact h1,h2,?_,h4⟩
  rcases h3 with (g | ⟨o,g⟩) | g
  · exact .inl (.inl (by rw [e _ (ne_of g h (by intro z; cases z))]; exact g))
  · exact .inl (.inr ⟨o,by rw [e _ (ne_of g h (by intro z; cases z))]; exact g⟩)
  · exact .inr g
theorem Sta.putX (S0:Sta K H st B) (hd:H d=some (.dK kvs)) (hp:H p=none) (k:KpD st d H H2) (S2:Sta K H2 st B'):Sta K (upd H2 p o) st B':=by
  refine Sta.put (H:=fun b=>if b=d then none else H b) (S0.but hd fun b n=>if_neg n) ?_ ⟨fun b u n q=>?_,fun a k1 q=>?_⟩ S2
  · by_cases c:p=d
    · exact if_pos c
    · exact (if_neg c).trans hp
  · by_cases c:b=d
    · rw [if_pos c] at q; cases q
    · rw [if_neg c] at q; exact k.k b u n c q
  · rw [if_neg (S0.neD hd).symm] at q
    exact k.s a k1 q
theorem Sd.ne (h:Sd H d μ n) (S:Sta K H st B):d≠st:=let ⟨_,e,_⟩:=h.ex; S.neD e
theorem Sd.kp (h:Sd H d μ n) (S:Sta K H st B) (k:Kp st H H'):Sd H' d μ n:=h.keep fun _ e=>k.k _ _ (S.neD e) e
theorem Sd.up (h:Sd H d μ n) (l:n<=n'):Sd H d μ n':=let ⟨kvs,a,b,c⟩:=h.ex; ⟨kvs,a,Nat.le_trans b l,c⟩
theorem KpD.tups (k:KpD st d H H') (S:Sta K H st B) (h:Sd H d μ n):Tups H H':=fun p xs q=>by
  obtain ⟨_,_,_,h1,_⟩:=S
  obtain ⟨_,h2,_⟩:=h.ex
  exact k.k p _ (ne_of q h1 (by intro z; cases z)) (ne_of q h2 (by intro z; cases z)) q
end
structure ExC (K:PySem.W.Frag) (st d l l5:Addr) (H:Hp) (μ:Sg) (m B:Nat):Prop where
  S0:Sta K H st B
  d0:Sd H d μ m
  l0:H l=none
  v0:H l5=none
  n:l5≠l
structure ExI (K:PySem.W.Frag) (st d l l5:Addr) (H:Hp) (μ:Sg) (b:Bd) (wl:List Str) (m B i:Nat) (H':Hp) (es:List Ex) (μ':Sg) (ys:List V):Prop where
  k:KpD st d H H'
  S:Sta K H' st B
  l:H' l=some (.lst ys)
  v:H' l5=some (.lst (wl.map V.str))
  a:All2 (IsEx H') es ys
  n:es.length<=i
  d:Sd H' d μ' (m + i)
  x:Exs μ es μ'
  f:Fv μ' b
section
variable {K:PySem.W.Frag} {H H1 H2:Hp} {st d l l5 t:Addr} {B B1 B2 m i:Nat} {kvs:List (Key × V)} {μ μ':Sg} {es:List Ex} {ys:List V} {b:Bd} {wl:List Str}
theorem ExI.go (C:ExC K st d l l5 H μ m B) (I:ExI K st d l l5 H μ b wl m B1 i H1 es μ' ys) (k:Kp st H1 H2) (S:Sta K H2 st B2):ExI K st d l l5 H μ b wl m B2 i H2 es μ' ys:=⟨I.k.trans (.of k),S,k.k _ _ (C.S0.ne C.l0) I.l,k.k _ _ (C.S0.ne C.v0) I.v,I.a.imp fun _ _ h=>h.keep (k.tups I.S),I.n,I.d.kp I.S k,I.x,I.f⟩
theorem ExI.nx (I:ExI K st d l l5 H μ b wl m B1 i H1 es μ' ys) (h:B1<=B2):ExI K st d l l5 H μ b wl m B2 (i + 1) H1 es μ' ys:=⟨I.k,I.S.mono h,I.l,I.v,I.a,Nat.le_succ_of_le I.n,I.d.up (Nat.le_succ _),I.x,I.f⟩
theorem ExI.put (C:ExC K st d l l5 H μ m B) (I:ExI K st d l l5 H μ b wl m B1 i H1 es μ' ys) {e:Ex} {v:V} (h:IsEx H1 e v):KpD st d H (upd H1 l (.lst (ys ++ [v])))/\Sta K (upd H1 l (.lst (ys ++ [v]))) st B1/\All2 (IsEx (upd H1 l (.lst (ys ++ [v])))) (es ++ [e]) (ys ++ [v])/\Sd (upd H1 l (.lst (ys ++ [v]))) d μ' (m + i)/\(es ++ [e]).length<=i + 1:=by
  obtain ⟨k0,hd,_⟩:=C.d0.ex
  have tp:Tups H1 (upd H1 l (.lst (ys ++ [v]))):=fun b xs q=>by rw [upd_ne (ne_of q I.l (by intro z; cases z))]; exact q
  refine ⟨⟨fun c u n m h=>by rw [upd_ne (ne_of_none h C.l0)]; exact I.k.k c u n m h,fun a k h=>?_⟩,Sta.putX C.S0 hd C.l0 I.k I.S,(I.a.imp fun _ _ h=>h.keep tp).app (.cons (h.keep tp) .nil),I.d.keep fun kvs e=>by rw [upd_ne (ne_of e I.l (by intro z; cases z))]; exact e,by rw [List.length_append]; exact Nat.succ_le_succ I.n⟩
  obtain ⟨k',h'⟩:=I.k.s a k h
  exact ⟨k',by rw [upd_ne (C.S0.ne C.l0).symm]; exact h'⟩
theorem ExI.sk (C:ExC K st d l l5 H μ m B) (I:ExI K st d l l5 H μ b wl m B1 i H1 es μ' ys) {w x:Str} (ht:H1 t=some (.tup [.str w,.str x])) (hw:w="drop"\/w="loose") (hB:B1<=B2):ExI K st d l l5 H μ b wl m B2 (i + 1) (upd H1 l (.lst (ys ++ [.ref t]))) (es ++ [.sk w x]) μ' (ys ++ [.ref t]):=by
  obtain ⟨p1,p2,p3,p4,p5⟩:=I.put C (e:=.sk w x) (v:=.ref t) ⟨t,rfl,hw,ht⟩
  exact ⟨p1,p2.mono hB,upd_same,by rw [upd_ne C.n]; exact I.v,p3,p5,p4.up (Nat.le_succ _),I.x.sk w x,I.f⟩
theorem ExI.ho (C:ExC K st d l l5 H μ m B) (I:ExI K st d l l5 H μ b wl m B1 i H1 es μ' ys) {x o y:Str} (ht:H1 t=some (.tup [.str "hold",.str x,.str o])) (e:μ' o=some y) (g:μ' x=some x->x ∉ b.want) (hB:B1<=B2) (hk:upd H1 l (.lst (ys ++ [.ref t])) d=some (.dK kvs)):ExI K st d l l5 H μ b wl m B2 (i + 1) (upd (upd H1 l (.lst (ys ++ [.ref t]))) d (.dK (putK kvs (.inr x) (.str y)))) (es ++ [.ho x o]) (μ'.put x y) (ys ++ [.ref t]):=by
  obtain ⟨p1,p2,p3,p4,p5⟩:=I.put C (e:=.ho x o) (v:=.ref t) ⟨t,rfl,ht⟩
  have e5:upd H1 l (.lst (ys ++ [.ref t])) l5=some (.lst (wl.map V.str)):=by rw [upd_ne C.n]; exact I.v
  have e4:=upd_same (H:=H1) (a:=l) (o:=.lst (ys ++ [.ref t]))
  obtain ⟨kv',q1,q2,q3,q4⟩:=p4.ex
  rw [hk] at q1
  cases q1
  generalize upd H1 l (.lst (ys ++ [.ref t]))=H2 at *
  refine ⟨p1.trans (.put (p2.neD hk)),(p2.but hk fun b n=>upd_ne n).mono hB,by rw [upd_ne (ne_of e4 hk (by intro z; cases z))]; exact e4,by rw [upd_ne (ne_of e5 hk (by intro z; cases z))]; exact e5,p3.imp fun _ _ h=>h.keep fun b xs q=>by rw [upd_ne (ne_of q hk (by intro z; cases z))]; exact q,p5,Sd.put q2 q3 q4,I.x.ho e,I.f.up fun z hz ez=>?_⟩
  unfold Sg.put
  by_cases c:z=x
  · subst c
    exact absurd hz (g ez)
  · rw [if_neg c]
    exact ez
end
theorem inVs (x:Str):∀ xs:List Str,inV (.str x) (xs.map V.str)=decide (x∈xs)
  | []=>rfl
  | y :: r=>by
    show (eqV (.str y) (.str x) || inV (.str x) (r.map V.str))=_
    rw [inVs x r]
    show (decide (y=x) || _)=_
    by_cases e:y=x
    · subst e; simp
    · simp [e,Ne.symm e]
def spExtras (K:PySem.W.Frag) (n:Nat):Sp:=fun vs H Q _=>∃ (st w p d:Addr) (B m:Nat) (z:Str) (bb:Bool) (xs:List V) (b:Bd) (μ:Sg),vs=[.ref st,.ref w,.ref p,.ref d]/\Sta K H st B/\B + 20 < LIM/\H w=some (.lst (.str z :: .bl bb :: xs))/\z.length<=6/\IsB H b p/\b.dp<=n/\b.sz<=100000/\Sd H d μ m/\m<=1000000/\Fv μ b/\∀ (H':Hp) (l:Addr) (es:List Ex) (μ':Sg) (ys:List V),KpD st d H H'->Sta K H' st (B + 20)->H l=none->H' l=some (.lst ys)->All2 (IsEx H') es ys->es.length<=2->Sd H' d μ' (m + 2)->Exs μ es μ'->Fv μ' b->Q (.ref l) H'
section
variable {P:Program} {w:World} {K:PySem.W.Frag} {mg:Str->Option Value} {base:Heap} {f:Addr} {fd:FuncData}
theorem scExtras:FnScope ["_law_state","_law_world_here","_law_body_here","_law_means","_law_found","_law_wanted_here","_law_k","_law_way","_law_some","_law_new","_law_old"] ["_law_state","_law_world_here","_law_body_here","_law_means"] (defScope sLExtras):=⟨rfl,rfl,rfl,by decide +kernel,rfl,by decide +kernel,by decide +kernel⟩
theorem ok_extras {n:Nat} (F:Fun K "_law_extras" "_law_extras" sLExtras f fd) (GW:Ca P w K mg base CX0 (2 + n) "_law_wanted" ["_law_body_here"] (spWanted n)) (GD:Ca P w K mg base CX0 1 "_law_draw" ["_law_state","_law_many"] (spDraw K)) (GN':Ca P w K mg base CX0 1 "_law_name" ["_law_world_here","_law_k"] spNm) (m_list:mg "list"=none) (m_len:mg "len"=none) (m_range:mg "range"=none):FnOk P w K mg base CX0 (3 + n) f fd ["_law_state","_law_world_here","_law_body_here","_law_means"] (spExtras K n):=by
  rw [show 3 + n=(2 + n) + 1 by lia]
  refine F.by scExtras (fun vs H Q E h=>?_) (fun cdv A outer s H vs Q E hr h=>?_)
  · obtain ⟨st,w,p,d,B,m,z,bb,xs,b,μ,rfl,_⟩:=h
    rfl
  obtain ⟨st,w0,p,d,B,m,z,bb,xs,b,μ,rfl,S0,hB,hw,hz,hb,hbd,hbz,hd,hm,hfv,q⟩:=h
  have hr1:Room 1 _:=hr.mono (by lia)
  refine ⟨_,
    (jss_cons (js_set (i:=4) scExtras.nd rfl (Or.inl rfl) (je_lst ja_nil))
    (jss_cons (js_set (i:=5) scExtras.nd rfl (Or.inl rfl) (je_ca GW hr rfl pass0 (ja_c (jv 2) ja_nil)))
    (jss_cons (js_for PassesOwn.never rfl (ji_range1 rfl m_range (ja_c (je_ca GD hr1 rfl pass0 (ja_c (jv 0) (ja_c je_int ja_nil))) ja_nil)) (jg_name (i:=6) scExtras.nd rfl (Or.inl rfl))
      (jss_cons (js_set (i:=7) scExtras.nd rfl (Or.inl rfl) (je_ca GD hr1 rfl pass0 (ja_c (jv 0) (ja_c je_int ja_nil))))
      (jss_cons (js_set (i:=8) scExtras.nd rfl (Or.inl rfl) (je_fnTy (jc_list_dict rfl) rfl m_list PyProof.Rows.boot_list (ja_c (jv 3) ja_nil)))
      (jss_cons (js_set (i:=9) scExtras.nd rfl (Or.inl rfl) (je_ca GN' hr1 rfl pass0 (ja_c (jv 1) (ja_c (je_ix (jx_listK K) (je_lst (ja_c (je_ca GD hr1 rfl pass0 (ja_c (jv 0) (ja_c je_int ja_nil))) (ja_c (je_op jo_add je_int (je_ca GD hr1 rfl pass0 (ja_c (jv 0) (ja_c je_int ja_nil)))) ja_nil))) (je_ca GD hr1 rfl pass0 (ja_c (jv 0) (ja_c je_int ja_nil))) (fun _ _=>rfl)) ja_nil))))
      (jss_one (js_if (jW.pt (jw_or (jt_cmpR jo_eq (jv 7) je_int (nomark _)) (jw_or1 (jt_cmpR (jo_eqE hr1) (jv 8) (je_lst ja_nil) (nomark _)))))
        (jss_one (js_expr (je_bm PySem.F.plainAttrs_list PySem.F.slot_list_append PySem.F.type_list_append jm_append (jv 4) (ja_c (je_tup (ja_c je_str (ja_c (je_ca GN' hr1 rfl pass0 (ja_c (jv 1) (ja_c (je_ca GD hr1 rfl pass0 (ja_c (jv 0) (ja_c je_int ja_nil))) ja_nil))) ja_nil))) ja_nil))))
        (jss_one (js_if (jt_cmpR jo_eq (jv 7) je_int (nomark _))
          (jss_one (js_expr (je_bm PySem.F.plainAttrs_list PySem.F.slot_list_append PySem.F.type_list_append jm_append (jv 4) (ja_c (je_tup (ja_c je_str (ja_c (je_ix (jx_listK K) (jv 8) (je_ca GD hr1 rfl pass0 (ja_c (jv 0) (ja_c (je_fnB (jc_len_seqK K) rfl m_len PySem.boot_len (ja_c (jv 8) ja_nil)) ja_nil))) (fun _ _=>rfl)) ja_nil))) ja_nil))))
          (jss_one (js_if (jW.pt (jw_or (jt_cmpR jo_ne (je_dget1 hr1 (jv 3) (jv 9)) (jv 9) (nomark _)) (jw_or1 (jt_ninK K (jv 9) (jv 5)))))
            (jss_cons (js_set (i:=10) scExtras.nd rfl (Or.inl rfl) (je_ix (jx_listK K) (jv 8) (je_ca GD hr1 rfl pass0 (ja_c (jv 0) (ja_c (je_fnB (jc_len_seqK K) rfl m_len PySem.boot_len (ja_c (jv 8) ja_nil)) ja_nil))) (fun _ _=>rfl)))
            (jss_cons (js_expr (je_bm PySem.F.plainAttrs_list PySem.F.slot_list_append PySem.F.type_list_append jm_append (jv 4) (ja_c (je_tup (ja_c je_str (ja_c (jv 9) (ja_c (jv 10) ja_nil)))) ja_nil)))
            (jss_one (js_dput hr1 (jv 3) (jv 9) (je_dget hr1 (jv 3) (jv 10)))))) jss_nil))))))))))
    (jss_one (js_ret (jv 4)))))),?_⟩
  have sl:=line0
  have LM:LIM=4611686018427387904:=rfl
  refine ⟨by show 0<=sizeLine; decide,fun l hl=>?_⟩
  have s0:=same_new (o:=.lst []) hl
  refine ex2q rfl ⟨p,b,rfl,hb.keep (.of s0),hbd,hbz,fun H1 l5 wl s1 f1 h1 hwl hwm=>?_⟩
  have n5:l5≠l:=fun e=>by rw [e,upd_same] at f1; cases f1
  have f1':H l5=none:=by rw [upd_ne n5] at f1; exact f1
  have s01:=s0.trans s1
  have C:ExC K st d l l5 H μ m B:=⟨S0,hd,hl,f1',n5⟩
  have nws:w0≠st:=S0.neW hw
  refine ex2q rfl ⟨st,3,B,rfl,S0.same s01,by lia,by decide,fun H2 r k2 S2 r0 r1=>?_⟩
  have I0:ExI K st d l l5 H μ b wl m (B + 1) 0 H2 [] μ []:=⟨(KpD.of (.of s01)).trans (.of k2),S2,k2.k _ _ (S0.ne hl) (s1 _ _ upd_same),k2.k _ _ (S0.ne f1') h1,.nil,Nat.le_refl _,(hd.same s01).kp (S0.same s01) k2,.nil,hfv⟩
  refine ⟨_,rfl,by lia,by lia,for_range (n:=r.toNat) (fun i σ H'=>∃ (es:List Ex) (μ':Sg) (ys:List V) (y1 y2 y3 y4 y5:Option V),σ=[some (.ref st),some (.ref w0),some (.ref p),some (.ref d),some (.ref l),some (.ref l5),y1,y2,y3,y4,y5]/\ExI K st d l l5 H μ b wl m (B + 1 + 8 * i) i H' es μ' ys) ⟨[],μ,[],none,none,none,none,none,rfl,I0⟩ ?_ ?_⟩
  · rintro i σ H3 hi ⟨es,μ',ys,y1,y2,y3,y4,y5,rfl,I3⟩
    have yl:=I3.a.len
    have yn:=I3.n
    refine ex2q rfl ⟨st,4,_,rfl,I3.S,by lia,by decide,fun H4 wy k4 S4 q0 q1=>?_⟩
    have I4:=I3.go C k4 S4
    obtain ⟨kvs,g1,g2,g3,g4⟩:=I4.d.ex
    refine ex2q rfl ⟨d,kvs,rfl,g1,fun l8 h8=>?_⟩
    have I5:=I4.go C (.of (same_new h8 (.lst (kvs.map fun kv=>kV kv.1)))) (S4.new h8 _)
    have e8:=upd_same (H:=H4) (a:=l8) (o:=.lst (kvs.map fun kv=>kV kv.1))
    have n8:l8≠st:=S4.ne h8
    dsimp only [List.set]
    generalize upd H4 l8 (.lst (kvs.map fun kv=>kV kv.1))=H5 at *
    refine (ex22q rfl rfl ⟨st,24,_,rfl,I5.S,by lia,by decide,fun H6 ra k6 S6 a0 a1=>?_⟩)
    have I6:=I5.go C k6 S6
    refine (ex2q rfl ⟨st,6,_,rfl,S6,by lia,by decide,fun H7 rb k7 S7 b0 b1=>?_⟩)
    refine (ex4q rfl rfl ⟨by show 2<=sizeLine; decide,fun l9 h9=>(ex2q rfl ⟨st,2,_,rfl,S7.new h9 _,by lia,by decide,fun H8 rc k8 S8 c0 c1=>?_⟩)⟩)
    have I8:=((I6.go C k7 S7).go C (.of (same_new h9 (.lst [.int ra,.int (300 + rb)]))) (S7.new h9 _)).go C k8 S8
    have e88:=k8.k _ _ n8 (old (o:=.lst [.int ra,.int (300 + rb)]) h9 (k7.k _ _ n8 (k6.k _ _ n8 e8)))
    have e98:=k8.k _ _ (S7.ne h9) (upd_same (H:=H7) (a:=l9) (o:=.lst [.int ra,.int (300 + rb)]))
    have hwd:w0≠d:=by
      obtain ⟨_,e,_⟩:=hd.ex
      exact ne_of hw e (by intro z; cases z)
    obtain ⟨kk,ek⟩:∃ kk:Nat,atI [V.int ra,V.int (300 + rb)] rc=some (.int (kk:Nat)):=by
      rcases (show rc=0\/rc=1 by lia) with rfl | rfl
      · exact ⟨ra.toNat,by rw [Int.toNat_of_nonneg a0]; exact atI_nat (j:=0) rfl⟩
      · exact ⟨(300 + rb).toNat,by rw [Int.toNat_of_nonneg (by lia)]; exact atI_nat (j:=1) rfl⟩
    refine ⟨l9,_,_,_,rfl,rfl,SqL.of e98,ek,w0,z,bb,xs,kk,rfl,I8.k.k _ _ nws hwd hw,hz,?_⟩
    generalize nm z bb kk=nw
    dsimp only [List.set]
    clear I4 I5 I6
    refine (show ∀ (A Z:TS) (D:Ends),(∀ H9 B9,Kp st H8 H9->Sta K H9 st B9->B9<=B + 1 + 8 * i + 4->A D [some (.ref st),some (.ref w0),some (.ref p),some (.ref d),some (.ref l),some (.ref l5),some (.int (0 + (i:Nat))),some (.int wy),some (.ref l8),some (.str nw),y5] H9)->(∀ H9 B9,Kp st H8 H9->Sta K H9 st B9->B9<=B + 1 + 8 * i + 4->0 < kvs.length->Z D [some (.ref st),some (.ref w0),some (.ref p),some (.ref d),some (.ref l),some (.ref l5),some (.int (0 + (i:Nat))),some (.int wy),some (.ref l8),some (.str nw),y5] H9)->(tIfS _ A Z:TS) D [some (.ref st),some (.ref w0),some (.ref p),some (.ref d),some (.ref l),some (.ref l5),some (.int (0 + (i:Nat))),some (.int wy),some (.ref l8),some (.str nw),y5] H8 from ?key) _ _ _ ?aa ?zz
    case key =>
      intro A Z D hA hZ
      refine (ex2q rfl ⟨rfl,(ex2q rfl ?_)⟩)
      refine ite2 (fun _=>iteT (hA _ _ Kp.refl S8 (by lia))) (fun _=>?_)
      refine (ex2q rfl ⟨by show 0<=sizeLine; decide,fun pe he=>?_⟩)
      refine ⟨_,_,_,rfl,rfl,SqL.of (old he e88),SqL.of upd_same,(ex2q rfl ?_)⟩
      show if (kvs.map fun kv=>kV kv.1).isEmpty=true then _ else _
      cases kvs with
      | nil=>exact iteT (hA _ _ (.of (same_new he _)) (S8.new he _) (by lia))
      | cons kv0 kvr=>exact iteF (hZ _ _ (.of (same_new he _)) (S8.new he _) (by lia) (Nat.succ_pos _))
    case aa =>
      intro H9 B9 k9 S9 hB9
      have I9:=I8.go C k9 S9
      refine (ex2q rfl ⟨.inl ⟨rfl,_,SqL.of I9.l⟩,?_⟩)
      refine (ex22q rfl rfl ⟨st,9,_,rfl,S9,by lia,by decide,fun H10 r9 k10 S10 d0 d1=>?_⟩)
      have I10:=I9.go C k10 S10
      refine ⟨w0,z,bb,xs,r9.toNat,(by rw [Int.toNat_of_nonneg d0]; rfl),I10.k.k _ _ nws hwd hw,hz,by show 2<=sizeLine; decide,fun t ht=>?_⟩
      have I11:=I10.go C (.of (same_new ht (.tup [.str "loose",.str (nm z bb r9.toNat)]))) (S10.new ht _)
      refine ⟨l,_,_,rfl,rfl,I11.l,by lia,_,_,_,_,_,_,_,_,rfl,I11.sk C upd_same (.inr rfl) (by lia)⟩
    case zz =>
      intro H9 B9 k9 S9 hB9 hk0
      have I9:=I8.go C k9 S9
      have e89:=k9.k _ _ n8 e88
      have kl:(kvs.map fun kv=>kV kv.1).length=kvs.length:=List.length_map _
      have pk:∀ rx:Int,0<=rx->rx < (kvs.length:Nat)->∃ zx yx,atI (kvs.map fun kv=>kV kv.1) rx=some (.str zx)/\μ' zx=some yx:=fun rx x0 x1=>by
        obtain ⟨j,rfl⟩:=Int.eq_ofNat_of_zero_le x0
        have jl:j < kvs.length:=by lia
        obtain ⟨zx,yx,u1,u2⟩:=Sd.key (H:=H4) (d:=d) g3 g4 (List.getElem?_eq_getElem jl)
        exact ⟨zx,yx,atI_nat (by rw [List.getElem?_map,List.getElem?_eq_getElem jl]; show some (kV (kvs[j]).1)=_; rw [u1]; rfl),u2⟩
      refine (ex2q rfl ⟨rfl,(ex2q rfl ?_)⟩)
      refine ite2 (fun _=>?_) (fun _=>?_)
      · refine (ex2q rfl ⟨.inl ⟨rfl,_,SqL.of I9.l⟩,?_⟩)
        refine (ex22q rfl rfl (ex2q rfl ⟨l8,_,rfl,.inl (SqL.of e89),st,_,_,rfl,S9,by lia,by lia,fun H10 r9 k10 S10 d0 d1=>?_⟩))
        rw [kl] at d1
        obtain ⟨zx,yx,u1,u2⟩:=pk r9 d0 d1
        have I10:=I9.go C k10 S10
        refine ⟨l8,_,_,_,rfl,rfl,SqL.of (k10.k _ _ n8 e89),u1,by show 2<=sizeLine; decide,fun t ht=>?_⟩
        have I11:=I10.go C (.of (same_new ht (.tup [.str "drop",.str zx]))) (S10.new ht _)
        exact ⟨l,_,_,rfl,rfl,I11.l,by lia,_,_,_,_,_,_,_,_,rfl,I11.sk C upd_same (.inl rfl) (by lia)⟩
      refine (show ∀ (A:TS) (D:Ends),((μ' nw=some nw->nw ∉ b.want)->A D [some (.ref st),some (.ref w0),some (.ref p),some (.ref d),some (.ref l),some (.ref l5),some (.int (0 + (i:Nat))),some (.int wy),some (.ref l8),some (.str nw),y5] H9)->D.nx [some (.ref st),some (.ref w0),some (.ref p),some (.ref d),some (.ref l),some (.ref l5),some (.int (0 + (i:Nat))),some (.int wy),some (.ref l8),some (.str nw),y5] H9->(tIfS _ A tNext:TS) D [some (.ref st),some (.ref w0),some (.ref p),some (.ref d),some (.ref l),some (.ref l5),some (.int (0 + (i:Nat))),some (.int wy),some (.ref l8),some (.str nw),y5] H9 from ?key2) _ _ ?aa2 ?zz2
      case key2 =>
        intro A D hA hZ
        refine (ex2q rfl ⟨d,rfl,I9.d.isd,ex2q rfl ⟨_,I9.d.get nw,ex2q rfl ?_⟩⟩)
        cases e9:μ' nw with
        | none =>
          refine ⟨rfl,ex2q rfl ?_⟩
          exact iteT (iteT (hA fun z=>by rw [e9] at z; cases z))
        | some y9 =>
          refine ⟨rfl,ex2q rfl ?_⟩
          show if (!decide (V.str y9=V.str nw))=true then _ else _
          by_cases c:y9=nw
          · rw [decide_eq_true (congrArg V.str c)]
            refine iteF (ex22q rfl rfl ⟨l5,_,rfl,.inl (SqL.of I9.v),rfl,by rw [List.all_map]; exact List.all_eq_true.mpr fun _ _=>rfl,(ex2q rfl ?_)⟩)
            show if (!inV (.str nw) (wl.map V.str))=true then _ else _
            rw [inVs]
            by_cases c2:nw∈wl
            · rw [decide_eq_true c2]
              exact iteF hZ
            · rw [decide_eq_false c2]
              exact iteT (hA fun _ h=>c2 (hwm _ h))
          · rw [decide_eq_false fun z=>c (V.str.inj z)]
            exact iteT (iteT (hA fun z=>by rw [e9] at z; exact absurd (Option.some.inj z) c))
      case zz2=>exact ⟨_,_,_,_,_,_,_,_,rfl,I9.nx (by lia)⟩
      case aa2 =>
        intro hg
        refine (ex22q rfl rfl (ex2q rfl ⟨l8,_,rfl,.inl (SqL.of e89),st,_,_,rfl,S9,by lia,by lia,fun H10 r9 k10 S10 d0 d1=>?_⟩))
        rw [kl] at d1
        obtain ⟨zx,yx,u1,u2⟩:=pk r9 d0 d1
        have I10:=I9.go C k10 S10
        refine ⟨l8,_,_,_,rfl,rfl,SqL.of (k10.k _ _ n8 e89),u1,?_⟩
        dsimp only [List.set]
        refine (ex2q rfl ⟨.inl ⟨rfl,_,SqL.of I10.l⟩,?_⟩)
        refine (ex22q rfl rfl ⟨by show 3<=sizeLine; decide,fun t ht=>?_⟩)
        have I11:=I10.go C (.of (same_new ht (.tup [.str "hold",.str nw,.str zx]))) (S10.new ht _)
        have e11:=upd_same (H:=H10) (a:=t) (o:=.tup [.str "hold",.str nw,.str zx])
        generalize upd H10 t (.tup [.str "hold",.str nw,.str zx])=H11 at *
        refine ⟨l,_,_,rfl,rfl,I11.l,by lia,?_⟩
        obtain ⟨_,_,_,p4,_⟩:=I11.put C (e:=.ho nw zx) (v:=.ref t) ⟨t,rfl,e11⟩
        obtain ⟨kv',v1,v2,v3,v4⟩:=id p4.ex
        have dg:DGet (upd H11 l (.lst (ys ++ [.ref t]))) d (.str zx) (some (.str yx)):=by
          have:=p4.get zx
          rw [u2] at this
          exact this
        refine (ex22q rfl rfl ⟨d,_,rfl,dg,ex22q rfl rfl ⟨d,_,rfl,.inl ⟨kv',.inr nw,v1,rfl,by lia,rfl⟩,?_⟩⟩)
        exact ⟨_,_,_,_,_,_,_,_,rfl,I11.ho C e11 u2 hg (by lia) v1⟩
  · rintro σ H3 ⟨es,μ',ys,y1,y2,y3,y4,y5,rfl,I3⟩
    refine ex2q rfl (q _ l es μ' ys I3.k (I3.S.mono (by lia)) hl I3.l I3.a (by have:=I3.n; lia) (I3.d.up (by lia)) I3.x I3.f)
end
end GN
namespace GN
open PySem L2 K11
theorem ifSayV {K:PySem.W.Frag} {j:Nat} {σ:St} {H:Hp} {D:Ends} {A B:TS} {p:Addr} {w0 w1:Str} {rest:List V} (h0:σ[j]?=some (some (.ref p))) (hp:H p=some (.tup (.str w0 :: rest))) (k:A D σ H) (e:decide (V.str w0=V.str w1)=true:=by rfl):tIfS (tTest (tOp rEq (tOp (rIxT K) (tVar j) (tC (.int 0))) (tC (.str w1)))) A B D σ H:=⟨_,h0,ixT hp (atI_nat (j:=0) rfl) ⟨rfl,_,rfl,by rw [e]; exact k⟩⟩
theorem ifNotV {K:PySem.W.Frag} {j:Nat} {σ:St} {H:Hp} {D:Ends} {A B:TS} {p:Addr} {w0 w1:Str} {rest:List V} (h0:σ[j]?=some (some (.ref p))) (hp:H p=some (.tup (.str w0 :: rest))) (k:B D σ H) (e:decide (V.str w0=V.str w1)=false:=by rfl):tIfS (tTest (tOp rEq (tOp (rIxT K) (tVar j) (tC (.int 0))) (tC (.str w1)))) A B D σ H:=⟨_,h0,ixT hp (atI_nat (j:=0) rfl) ⟨rfl,_,rfl,by rw [e]; exact k⟩⟩
theorem cmp_all {μ σ:Sg} (c:Cmp μ σ):∀ {xs zs:List Str},All2 (fun x z=>μ z=some x) xs zs->zs.map σ.m=xs
  | _,_,.nil=>rfl
  | _,_,.cons h r=>by rw [List.map_cons,c _ _ h,cmp_all c r]
def spMDeed (K:PySem.W.Frag):Sp:=fun vs H Q _=>∃ (st w q d:Addr) (B m:Nat) (z:Str) (bb:Bool) (xs:List V) (e:De) (μ:Sg),vs=[.ref st,.ref w,.ref q,.ref d]/\Sta K H st B/\B + 50 < LIM/\H w=some (.lst (.str z :: .bl bb :: xs))/\z.length<=6/\IsDe H e q/\Sd H d μ m/\m<=1000000/\(∀ y∈e.uses,μ y=some y)/\∀ (H':Hp) (r:Addr) (e':De) (tk:List Str),Kp st H H'->Sta K H' st (B + 50)->IsMd H' e' tk r->(∀ σ,Cmp μ σ->plD e' σ.m=e)->Q (.ref r) H'
section
variable {P:Program} {w:World} {K:PySem.W.Frag} {mg:Str->Option Value} {base:Heap} {f:Addr} {fd:FuncData}
theorem scMDeed:FnScope ["_law_state","_law_world_here","_law_deed_here","_law_means","_law_names"] ["_law_state","_law_world_here","_law_deed_here","_law_means"] (defScope sLMDeed):=⟨rfl,rfl,rfl,by decide +kernel,rfl,by decide +kernel,by decide +kernel⟩
theorem ndMDeed:(["_law_state","_law_world_here","_law_deed_here","_law_means","_law_names","_law_name_here"]:List Str).Nodup:=by decide +kernel
theorem ok_mdeed (F:Fun K "_law_muddled_deed" "_law_muddled_deed" sLMDeed f fd) (GA:Ca P w K mg base CX0 2 "_law_alias" ["_law_state","_law_means","_law_name_here"] (spAlias K)) (GD:Ca P w K mg base CX0 1 "_law_draw" ["_law_state","_law_many"] (spDraw K)) (GN':Ca P w K mg base CX0 1 "_law_name" ["_law_world_here","_law_k"] spNm) (m_tuple:mg "tuple"=none):FnOk P w K mg base CX0 3 f fd ["_law_state","_law_world_here","_law_deed_here","_law_means"] (spMDeed K):=by
  refine F.by scMDeed (fun vs H Q E h=>?_) (fun cdv A outer s H vs Q E hr h=>?_)
  · obtain ⟨st,w,q,d,B,m,z,bb,xs,e,μ,rfl,_⟩:=h
    rfl
  obtain ⟨st,w0,qd,d,B,m,z,bb,xs0,e,μ,rfl,S0,hB,hw,hz,hD,hd,hm,hu,q⟩:=h
  have hr1:Room 1 _:=hr.mono (by decide)
  refine ⟨_,
    (jss_cons (js_if (jt_cmpR jo_eq (je_ixK K (jv 2)) je_str (nomark _)) (jss_one (js_ret (jv 2))) jss_nil)
    (jss_cons (js_if (jt_cmpR jo_eq (je_ixK K (jv 2)) je_str (nomark _))
      (jss_one (js_ret (je_tup (ja_c je_str (ja_c (je_ixK K (jv 2)) (ja_c (je_ca GA hr rfl pass0 (ja_c (jv 0) (ja_c (jv 3) (ja_c (je_ixK K (jv 2)) ja_nil)))) (ja_c (je_ca GA hr rfl pass0 (ja_c (jv 0) (ja_c (jv 3) (ja_c (je_ixK K (jv 2)) ja_nil)))) ja_nil))))))) jss_nil)
    (jss_cons (js_set (i:=4) scMDeed.nd rfl (Or.inl rfl) (je_fnTy (jc_tuple_ofK K) rfl m_tuple PyProof.Rows.boot_tuple (ja_c (je_comp ["_law_name_here"] rfl (ji_tupK K (je_ixK K (jv 2))) (fun _ _ _ _ _=>(jg_name (i:=5) ndMDeed rfl (Or.inl rfl))) (fun _ _ _ _ _=>jts_nil) (fun _ _ _ _ _=>(je_ca GA hr rfl pass0 (ja_c (jv 0) (ja_c (jv 3) (ja_c (jv 5) ja_nil)))))) ja_nil)))
    (jss_cons (js_if (jt_cmpR jo_eq (je_ixK K (jv 2)) je_str (nomark _))
      (jss_one (js_ret (je_tup (ja_c je_str (ja_c (je_ca GA hr rfl pass0 (ja_c (jv 0) (ja_c (jv 3) (ja_c (je_ixK K (jv 2)) ja_nil)))) (ja_c (jv 4) ja_nil)))))) jss_nil)
    (jss_cons (js_if (jt_cmpR jo_eq (je_ixK K (jv 2)) je_str (nomark _))
      (jss_one (js_ret (je_tup (ja_c je_str (ja_c (je_ixK K (jv 2)) (ja_c (jv 4) (ja_c (je_ix (jx_listK K) (je_lst (ja_c je_str (ja_c (je_ca GN' hr1 rfl pass0 (ja_c (jv 1) (ja_c je_int ja_nil))) ja_nil))) (je_ca GD hr1 rfl pass0 (ja_c (jv 0) (ja_c je_int ja_nil))) (fun _ _=>rfl)) ja_nil))))))) jss_nil)
    (jss_one (js_ret (je_tup (ja_c (je_ixK K (jv 2)) (ja_c (je_ixK K (jv 2)) (ja_c (jv 4) ja_nil))))))))))),?_⟩
  have sl:=line0
  have LM:LIM=4611686018427387904:=rfl
  cases hD with
  | @num i _ hp =>
    exact ifSayV rfl hp (ex2q rfl (q _ qd (.num i) [] Kp.refl (S0.mono (by lia)) hp fun σ _=>rfl))
  | @op w1 a b _ hp =>
    refine ifNotV rfl hp (ifSayV rfl hp ?_)
    refine (ex2q rfl (ixT hp (atI_nat (j:=1) rfl) (ex22q rfl rfl (ex2q rfl (ixT hp (atI_nat (j:=2) rfl) ⟨st,d,B,m,μ,a,rfl,S0,by lia,hd,hm,hu a (.head _),fun H1 y1 k1 S1 e1=>?_⟩)))))
    have t1:=k1.tups S0
    refine (ex22q rfl rfl (ex2q rfl (ixT (t1 _ _ hp) (atI_nat (j:=3) rfl) ⟨st,d,_,m,μ,b,rfl,S1,by lia,hd.kp S0 k1,hm,hu b (.tail _ (.head _)),fun H2 y2 k2 S2 e2=>⟨by show 4<=sizeLine; decide,fun t ht=>?_⟩⟩)))
    refine q _ t (.op w1 y1 y2) [] ((k1.trans k2).new ht) ((S2.mono (by lia)).new ht _) upd_same fun σ c=>?_
    rw [plD,c _ _ e1,c _ _ e2]
  | @app w1 g xs _ qx hc hp hx =>
    refine ifNotV rfl hp (nxtC (ifNotV rfl hp (nxtC ?_) (decide_eq_false fun z=>hc.2.1 (V.str.inj z)))) (decide_eq_false fun z=>hc.1 (V.str.inj z))
    have hux:∀ y∈xs,μ y=some y:=fun y hy=>hu y (by
      by_cases c:w1="ask"
      · rw [c,uses_ask]; exact .tail _ hy
      · rw [uses_app c]; exact hy)
    refine (ex2q rfl (ixT hp (atI_nat (j:=2) rfl) ⟨qx,rfl,⟨_,SqT.of hx⟩,lc_tup (xs:=xs.map V.str) (fun j τ ys H'=>(Kp st H H'/\Sta K H' st (B + j))/\(∃ v,τ=[some (.ref st),some (.ref w0),some (.ref qd),some (.ref d),none,v])/\∃ zs:List Str,ys=zs.map V.str/\All2 (fun x z=>μ z=some x) (xs.take j) zs) ⟨⟨Kp.refl,S0⟩,⟨none,rfl⟩,[],rfl,.nil⟩ (fun j τ ys H' _ h=>SqT.of (h.1.1.tups S0 _ _ hx)) ?_ ?_⟩))
    · rintro j v τ ys H2 hv ⟨⟨k2,S2⟩,⟨v',rfl⟩,zs,rfl,hzs⟩
      rw [List.getElem?_map] at hv
      obtain ⟨x,hx1,rfl⟩:=Option.map_eq_some_iff.mp hv
      have jl:=(List.getElem?_eq_some_iff.mp hx1).1
      have zl:=hzs.len
      rw [List.length_take] at zl
      have:=hc.2.2
      refine (ex22q rfl rfl (ex2q rfl ⟨st,d,_,m,μ,x,rfl,S2,by lia,hd.kp S0 k2,hm,hux x (List.mem_of_getElem? hx1),fun H3 y k3 S3 e3=>⟨by rw [List.length_map]; lia,⟨k2.trans k3,S3⟩,⟨_,rfl⟩,zs ++ [y],by rw [List.map_append]; rfl,?_⟩⟩))
      rw [List.take_add_one,hx1]
      exact hzs.app (.cons e3 .nil)
    rintro τ ys H5 ⟨⟨k5,S5⟩,_,zs,rfl,hzs⟩ l5 h5
    rw [List.length_map] at S5 hzs
    rw [List.take_of_length_le (Nat.le_refl _)] at hzs
    have zl:=hzs.len
    have xl:=hc.2.2
    refine ⟨l5,ex2q rfl (.inl ⟨SqL.of upd_same,fun t6 h6=>?_⟩)⟩
    have s6:=(same_new (o:=.lst (zs.map V.str)) h5).new (o:=.tup (zs.map V.str)) h6
    have k6:=k5.trans (.of s6)
    have S6:=S5.same s6
    have e6:=upd_same (H:=upd H5 l5 (.lst (zs.map V.str))) (a:=t6) (o:=.tup (zs.map V.str))
    generalize upd (upd H5 l5 (.lst (zs.map V.str))) t6 (.tup (zs.map V.str))=H6 at *
    have hp6:=k6.tups S0 _ _ hp
    have hw6:=k6.k _ _ (S0.neW hw) hw
    dsimp only [List.set,L2.start]
    by_cases c:w1="ask"
    · subst c
      refine ifSayV rfl hp6 ?_
      refine (ex22q rfl rfl (ex2q rfl (ixT hp6 (atI_nat (j:=1) rfl) ⟨st,d,_,m,μ,g,rfl,S6,by lia,hd.kp S0 k6,hm,hu g (by rw [uses_ask]; exact .head _),fun H7 y k7 S7 e7=>ex2q rfl ⟨by show 3<=sizeLine; decide,fun t ht=>?_⟩⟩)))
      refine q _ t (.app "ask" y zs) [] ((k6.trans k7).new ht) ((S7.mono (by lia)).new ht _) ⟨t6,⟨hc.1,hc.2.1,by lia⟩,upd_same,old ht (k7.tups S6 _ _ e6)⟩ fun σ cc=>?_
      rw [plD,if_pos rfl,cc _ _ e7,cmp_all cc hzs]
    refine ifNotV rfl hp6 (nxtC ?_) (decide_eq_false fun z=>c (V.str.inj z))
    by_cases c2:w1="make"
    · subst c2
      refine ifSayV rfl hp6 ?_
      refine (ex2q rfl (ixT hp6 (atI_nat (j:=1) rfl) (ex22q rfl rfl ⟨w0,z,bb,xs0,3,rfl,hw6,hz,by show 2<=sizeLine; decide,fun l7 h7=>(ex2q rfl ⟨st,2,_,rfl,S6.new h7 _,by lia,by decide,fun H8 rc k8 S8 c0 c1=>?_⟩)⟩)))
      have e78:=k8.k _ _ (S6.ne h7) (upd_same (H:=H6) (a:=l7) (o:=.lst [.str "",.str (nm z bb 3)]))
      obtain ⟨kk,ek⟩:∃ kk:Str,atI [V.str "",V.str (nm z bb 3)] rc=some (.str kk):=by
        rcases (show rc=0\/rc=1 by lia) with rfl | rfl
        · exact ⟨_,atI_nat (j:=0) rfl⟩
        · exact ⟨_,atI_nat (j:=1) rfl⟩
      refine ⟨l7,_,_,_,rfl,rfl,SqL.of e78,ek,by show 4<=sizeLine; decide,fun t ht=>?_⟩
      have k68:=(Kp.of (same_new h7 (.lst [.str "",.str (nm z bb 3)]))).trans k8
      refine q _ t (.app "make" g zs) [kk] ((k6.trans k68).new ht) ((S8.mono (by lia)).new ht _) ⟨t6,⟨hc.1,hc.2.1,by lia⟩,upd_same,old ht (k68.tups S6 _ _ e6)⟩ fun σ cc=>?_
      rw [plD,if_neg c,cmp_all cc hzs]
    refine ifNotV rfl hp6 (nxtC ?_) (decide_eq_false fun z=>c2 (V.str.inj z))
    refine (ex2q rfl (ixT hp6 (atI_nat (j:=0) rfl) (ex2q rfl (ixT hp6 (atI_nat (j:=1) rfl) (ex2q rfl ⟨by show 3<=sizeLine; decide,fun t ht=>?_⟩)))))
    refine q _ t (.app w1 g zs) [] (k6.new ht) ((S6.mono (by lia)).new ht _) ⟨t6,⟨hc.1,hc.2.1,by lia⟩,upd_same,old ht e6⟩ fun σ cc=>?_
    rw [plD,if_neg c,cmp_all cc hzs]
end
end GN
namespace GN
open PySem L2 K11
theorem Sg.put_self {μ:Sg} {x:Str}:μ.put x x=μ.self [x]:=by
  funext z
  unfold Sg.put Sg.self
  by_cases e:z=x
  · rw [if_pos e,if_pos (List.mem_singleton.mpr e),e]
  · rw [if_neg e,if_neg fun h=>e (List.mem_singleton.mp h)]
theorem Sg.self_app {μ:Sg} {xs:List Str} {x:Str}:(μ.self xs).put x x=μ.self (xs ++ [x]):=by
  funext z
  unfold Sg.put Sg.self
  by_cases e:z=x <;> by_cases e':z∈xs <;> simp [e,e']
theorem Sg.self_nil {μ:Sg}:μ.self []=μ:=by
  funext z
  unfold Sg.self
  exact if_neg (by intro h; cases h)
def Mr.app:Mr->Mr->Mr
  | .nil,b=>b
  | .cons t ns md tk c r,b=>.cons t ns md tk c (Mr.app r b)
theorem Mr.sz_app:∀ (a b:Mr),(Mr.app a b).sz=a.sz + b.sz
  | .nil,b=>by unfold Mr.app; rw [Mr.sz]; lia
  | .cons t ns md tk d r,b=>by unfold Mr.app; rw [Mr.sz,Mr.sz,Mr.sz_app r b]; lia
theorem IsMr.app {H:Hp} {b:Mr} {q:List Addr} (g:IsMr H b q):∀ {a:Mr} {p:List Addr},IsMr H a p->IsMr H (Mr.app a b) (p ++ q)
  | .nil,_,h=>by rw [IsMr] at h; subst h; unfold Mr.app; exact g
  | .cons t ns md tk c r,_,⟨p,q',s,ps,e,h1,h2,h3,h4⟩=>by
    subst e
    unfold Mr.app
    exact ⟨p,q',s,ps ++ q,rfl,h1,h2,h3,IsMr.app g h4⟩
theorem plA_app {σ:Sg} {b:Mr}:∀ {a:Mr},(plA (Mr.app a b) σ).bs=(plA a σ).bs ++ (plA b σ).bs
  | .nil=>by unfold Mr.app; rw [plA,Arms.bs]; rfl
  | .cons t ns md tk c r=>by unfold Mr.app; rw [plA,plA,Arms.bs,Arms.bs,plA_app]; rfl
theorem Arms.bs_inj:∀ {a b:Arms},a.bs=b.bs->a=b
  | .nil,.nil,_=>rfl
  | .nil,.cons _ _ _ _,h=>by rw [Arms.bs,Arms.bs] at h; cases h
  | .cons _ _ _ _,.nil,h=>by rw [Arms.bs,Arms.bs] at h; cases h
  | .cons _ _ _ r,.cons _ _ _ r',h=>by
    rw [Arms.bs,Arms.bs] at h
    injection h with h1 h2
    cases h1
    rw [Arms.bs_inj h2]
theorem wrap_step {es:List Ex} {c:Mc} {i:Nat} {x:Ex} (hi:i < es.length) (h:es[es.length - 1 - i]?=some x):wrap (es.drop (es.length - (i + 1))) c=wrap [x] (wrap (es.drop (es.length - i)) c):=by
  obtain ⟨h1,h2⟩:=List.getElem?_eq_some_iff.mp h
  have e:es.length - (i + 1)=es.length - 1 - i:=by lia
  have e2:es.length - i=es.length - 1 - i + 1:=by lia
  rw [e,List.drop_eq_getElem_cons h1,h2,e2]
  cases x <;> rfl
theorem bsz_ln (l:List (Str × List Str × Bd)):l.length<=bsz l:=by
  unfold bsz
  induction l with
  | nil=>exact Nat.le_refl _
  | cons x r ih=>rw [List.map_cons,List.sum_cons,List.length_cons]; lia
def spMud (K:PySem.W.Frag) (n:Nat):Sp:=fun vs H Q _=>∃ (st w p d:Addr) (B m:Nat) (z:Str) (bb:Bool) (xs:List V) (b:Bd) (μ:Sg),vs=[.ref st,.ref w,.ref p,.ref d]/\Sta K H st B/\B + 100 * b.sz < LIM/\H w=some (.lst (.str z :: .bl bb :: xs))/\z.length<=6/\IsB H b p/\b.dp<=n/\b.sz<=100000/\Sd H d μ m/\m + 3 * b.sz<=1000000/\Fv μ b/\∀ (H':Hp) (r:Addr) (c:Mc),Kp st H H'->Sta K H' st (B + 100 * b.sz)->IsMc H' c r->c.sz<=3 * b.sz->Mud μ b c->Q (.ref r) H'
section
variable {P:Program} {w:World} {K:PySem.W.Frag} {mg:Str->Option Value} {base:Heap} {f:Addr} {fd:FuncData}
theorem scMud:FnScope ["_law_state","_law_world_here","_law_body_here","_law_above","_law_means","_law_extras_here","_law_found","_law_deed_here","_law_first","_law_arms","_law_name_here","_law_tag","_law_names","_law_inner","_law_more","_law_one","_law_mode","_law_token","_law_extra"] ["_law_state","_law_world_here","_law_body_here","_law_above"] (defScope sLMud):=⟨rfl,rfl,rfl,by decide +kernel,rfl,by decide +kernel,by decide +kernel⟩
theorem ok_mud0 (F:Fun K "_law_muddled" "_law_muddled" sLMud f fd):FnOk P w K mg base CX0 (4 + 0) f fd ["_law_state","_law_world_here","_law_body_here","_law_above"] (spMud K 0):=by
  refine F.by (k:=3) scMud (fun vs H Q E h=>?_) (fun cdv A outer s H vs Q E hr h=>?_)
  · obtain ⟨st,w,p,d,B,m,z,bb,xs,b,μ,rfl,_⟩:=h
    rfl
  obtain ⟨st,w0,p,d,B,m,z,bb,xs,b,μ,rfl,S0,hB,hw,hz,hb,hbd,_⟩:=h
  have:0 < b.dp:=by cases b <;> rw [Bd.dp] <;> lia
  lia
theorem ok_mud {n:Nat} (F:Fun K "_law_muddled" "_law_muddled" sLMud f fd) (GM:Ca P w K mg base CX0 (4 + n) "_law_muddled" ["_law_state","_law_world_here","_law_body_here","_law_above"] (spMud K n)) (GE:Ca P w K mg base CX0 (3 + (n + 1)) "_law_extras" ["_law_state","_law_world_here","_law_body_here","_law_means"] (spExtras K (n + 1))) (GMD:Ca P w K mg base CX0 3 "_law_muddled_deed" ["_law_state","_law_world_here","_law_deed_here","_law_means"] (spMDeed K)) (GA:Ca P w K mg base CX0 2 "_law_alias" ["_law_state","_law_means","_law_name_here"] (spAlias K)) (GD:Ca P w K mg base CX0 1 "_law_draw" ["_law_state","_law_many"] (spDraw K)) (GN':Ca P w K mg base CX0 1 "_law_name" ["_law_world_here","_law_k"] spNm) (m_tuple:mg "tuple"=none) (m_dict:mg "dict"=none) (m_reversed:mg "reversed"=none):FnOk P w K mg base CX0 (4 + (n + 1)) f fd ["_law_state","_law_world_here","_law_body_here","_law_above"] (spMud K (n + 1)):=by
  refine F.by (k:=4 + n) scMud (fun vs H Q E h=>?_) (fun cdv A outer s H vs Q E hr h=>?_)
  · obtain ⟨st,w,p,d,B,m,z,bb,xs,b,μ,rfl,_⟩:=h
    rfl
  obtain ⟨st,w0,p,d,B,m,z,bb,xs0,b,μ,rfl,S0,hB,hw,hz,hb,hbd,hbz,hd,hm,hfv,q⟩:=h
  have hrE:Room (3 + (n + 1)) _:=hr.mono (by lia)
  have hr3:Room 3 _:=hr.mono (by lia)
  have hr2:Room 2 _:=hr.mono (by lia)
  have hr1:Room 1 _:=hr.mono (by lia)
  refine ⟨_,
    (jss_cons (js_set (i:=4) scMud.nd rfl (Or.inl rfl) (je_fnTy jc_dict_dict rfl m_dict PyProof.Rows.boot_dict (ja_c (jv 3) ja_nil)))
    (jss_cons (js_set (i:=5) scMud.nd rfl (Or.inl rfl) (je_ca GE hrE rfl pass0 (ja_c (jv 0) (ja_c (jv 1) (ja_c (jv 2) (ja_c (jv 4) ja_nil))))))
    (jss_cons (js_if (jt_cmpR jo_eq (je_ixK K (jv 2)) je_str (nomark _))
      (jss_one (js_set (i:=6) scMud.nd rfl (Or.inl rfl) (je_tup (ja_c je_str (ja_c (je_ca GA hr2 rfl pass0 (ja_c (jv 0) (ja_c (jv 4) (ja_c (je_ixK K (jv 2)) ja_nil)))) ja_nil)))))
      (jss_one (js_if (jt_cmpR jo_eq (je_ixK K (jv 2)) je_str (nomark _))
        (jss_cons (js_set (i:=7) scMud.nd rfl (Or.inl rfl) (je_ca GMD hr3 rfl pass0 (ja_c (jv 0) (ja_c (jv 1) (ja_c (je_ixK K (jv 2)) (ja_c (jv 4) ja_nil))))))
        (jss_cons (js_dput hr1 (jv 4) (je_ixK K (jv 2)) (je_ixK K (jv 2)))
        (jss_one (js_set (i:=6) scMud.nd rfl (Or.inl rfl) (je_tup (ja_c je_str (ja_c (je_ixK K (jv 2)) (ja_c (jv 7) (ja_c (je_ca GM hr rfl pass0 (ja_c (jv 0) (ja_c (jv 1) (ja_c (je_ixK K (jv 2)) (ja_c (jv 4) ja_nil))))) ja_nil)))))))))
        (jss_one (js_if (jt_cmpR jo_eq (je_ixK K (jv 2)) je_str (nomark _))
          (jss_cons (js_set (i:=8) scMud.nd rfl (Or.inl rfl) (je_ca GM hr rfl pass0 (ja_c (jv 0) (ja_c (jv 1) (ja_c (je_ixK K (jv 2)) (ja_c (jv 4) ja_nil))))))
          (jss_one (js_set (i:=6) scMud.nd rfl (Or.inl rfl) (je_tup (ja_c je_str (ja_c (je_ca GA hr2 rfl pass0 (ja_c (jv 0) (ja_c (jv 4) (ja_c (je_ixK K (jv 2)) ja_nil)))) (ja_c (jv 8) (ja_c (je_ca GM hr rfl pass0 (ja_c (jv 0) (ja_c (jv 1) (ja_c (je_ixK K (jv 2)) (ja_c (jv 4) ja_nil))))) ja_nil))))))))
          (jss_cons (js_set (i:=9) scMud.nd rfl (Or.inl rfl) (je_lst ja_nil))
          (jss_cons (js_set (i:=10) scMud.nd rfl (Or.inl rfl) (je_ca GA hr2 rfl pass0 (ja_c (jv 0) (ja_c (jv 4) (ja_c (je_ixK K (jv 2)) ja_nil)))))
          (jss_cons (js_for PassesOwn.never rfl (ji_tupK K (je_ixK K (jv 2))) (jg_tupK K rfl (jgs_cons (jg_name (i:=11) scMud.nd rfl (Or.inl rfl)) (jgs_cons (jg_name (i:=12) scMud.nd rfl (Or.inl rfl)) (jgs_cons (jg_name (i:=13) scMud.nd rfl (Or.inl rfl)) jgs_nil))))
            (jss_cons (js_set (i:=14) scMud.nd rfl (Or.inl rfl) (je_fnTy jc_dict_dict rfl m_dict PyProof.Rows.boot_dict (ja_c (jv 4) ja_nil)))
            (jss_cons (js_for PassesOwn.never rfl (ji_tupK K (jv 12)) (jg_name (i:=15) scMud.nd rfl (Or.inl rfl))
              (jss_one (js_dput hr1 (jv 14) (jv 15) (jv 15))))
            (jss_cons (js_set (i:=16) scMud.nd rfl (Or.inl rfl) (je_ix (jx_listK K) (je_lst (ja_c je_str (ja_c je_str ja_nil))) (je_ca GD hr1 rfl pass0 (ja_c (jv 0) (ja_c je_int ja_nil))) (fun _ _=>rfl)))
            (jss_cons (js_set (i:=17) scMud.nd rfl (Or.inl rfl) (je_ix (jx_listK K) (je_lst (ja_c je_str (ja_c (je_ca GN' hr1 rfl pass0 (ja_c (jv 1) (ja_c je_int ja_nil))) ja_nil))) (je_ca GD hr1 rfl pass0 (ja_c (jv 0) (ja_c je_int ja_nil))) (fun _ _=>rfl)))
            (jss_one (js_expr (je_bm PySem.F.plainAttrs_list PySem.F.slot_list_append PySem.F.type_list_append jm_append (jv 9) (ja_c (je_tup (ja_c (jv 11) (ja_c (jv 12) (ja_c (jv 16) (ja_c (jv 17) (ja_c (je_ca GM hr rfl pass0 (ja_c (jv 0) (ja_c (jv 1) (ja_c (jv 13) (ja_c (jv 14) ja_nil))))) ja_nil)))))) ja_nil)))))))))
          (jss_one (js_set (i:=6) scMud.nd rfl (Or.inl rfl) (je_tup (ja_c je_str (ja_c (jv 10) (ja_c (je_fnTy (jc_tuple_ofK K) rfl m_tuple PyProof.Rows.boot_tuple (ja_c (jv 9) ja_nil)) ja_nil))))))))))))))
    (jss_cons (js_for PassesOwn.never rfl (ji_rev rfl m_reversed (ja_c (jv 5) ja_nil)) (jg_name (i:=18) scMud.nd rfl (Or.inl rfl))
      (jss_one (js_set (i:=6) scMud.nd rfl (Or.inl rfl) (je_op (jo_catTK K) (jv 18) (je_tup (ja_c (jv 6) ja_nil))))))
    (jss_one (js_ret (jv 6))))))),?_⟩
  have sl:=line0
  have LM:LIM=4611686018427387904:=rfl
  have bz:0 < b.sz:=by cases b <;> rw [Bd.sz] <;> lia
  obtain ⟨kvs0,g1,g2,g3,g4⟩:=hd.ex
  refine ex2q rfl ⟨d,kvs0,rfl,g1,fun d4 hd4=>?_⟩
  have s1:=same_new (o:=.dK kvs0) hd4
  have hd1:Sd (upd H d4 (.dK kvs0)) d4 μ m:=⟨kvs0,upd_same,g2,g3,g4⟩
  have k1:Kp st H (upd H d4 (.dK kvs0)):=.of s1
  have S1:=S0.same s1
  dsimp only [List.set,L2.start]
  generalize upd H d4 (.dK kvs0)=H1 at *
  refine ex22q rfl rfl (ex22q rfl rfl ⟨st,w0,p,d4,B,m,z,bb,xs0,b,μ,rfl,S1,by lia,s1 _ _ hw,hz,hb.keep (.of s1),hbd,hbz,hd1,by lia,hfv,fun H2 l5 es μ' ys k12 S2 hl5 e5 a5 en hd2 hex hfv2=>?_⟩)
  have k2:Kp st H H2:=k12.kp k1 hd4
  have t2:=k2.tups S0
  have hp2:=hb.keep t2
  have hw2:=k2.k _ _ (S0.neW hw) hw
  have n5s:l5≠st:=S1.ne hl5
  have n5d:l5≠d4:=by
    obtain ⟨_,e,_⟩:=hd2.ex
    exact ne_of e5 e (by intro z; cases z)
  dsimp only [List.set]
  refine (show ∀ (u:TS) (D:Ends),(∀ (H':Hp) (r:Addr) (c:Mc) (y7 y8 y9 y10 y11 y12 y13 y14 y15 y16 y17:Option V),KpD st d4 H2 H'->Sta K H' st (B + 100 * b.sz)->IsMc H' c r->c.sz + 2<=3 * b.sz->Mud μ' b c->u D [some (.ref st),some (.ref w0),some (.ref p),some (.ref d),some (.ref d4),some (.ref l5),some (.ref r),y7,y8,y9,y10,y11,y12,y13,y14,y15,y16,y17,none] H')->(tSeq _ u:TS) D [some (.ref st),some (.ref w0),some (.ref p),some (.ref d),some (.ref d4),some (.ref l5),none,none,none,none,none,none,none,none,none,none,none,none,none] H2 from ?key) _ _ ?rest
  case rest =>
    intro H3 r c y7 y8 y9 y10 y11 y12 y13 y14 y15 y16 y17 k3 S3 hc cz hmu
    have e53:=k3.k _ _ n5s n5d e5
    have a53:=a5.imp fun _ _ h=>h.keep (k3.tups S2 hd2)
    have el:=a5.len
    refine ex2q rfl ⟨l5,ex2q rfl ⟨SqL.of e53,for_rev (xs:=ys) (fun i σ H'=>∃ r' y,σ=[some (.ref st),some (.ref w0),some (.ref p),some (.ref d),some (.ref d4),some (.ref l5),some (.ref r'),y7,y8,y9,y10,y11,y12,y13,y14,y15,y16,y17,y]/\Same H3 H'/\IsMc H' (wrap (es.drop (es.length - i)) c) r') ⟨r,none,rfl,Same.refl _,by rw [Nat.sub_zero,List.drop_length]; exact hc⟩ (fun i σ H' _ ⟨_,_,_,s,_⟩=>SqL.of (s _ _ e53)) ?_ ?_⟩⟩
    · rintro i x σ H4 hx ⟨r',y,rfl,s4,h4⟩
      have hi:i < ys.length:=by
        have:=(List.getElem?_eq_some_iff.mp hx).1
        rw [List.length_reverse] at this
        exact this
      rw [List.getElem?_reverse hi] at hx
      obtain ⟨e,he,hix⟩:=a53.get hx
      rw [<- el] at he
      have hst:=wrap_step (c:=c) (by lia:i < es.length) he
      have hix4:=hix.keep (.of s4)
      refine ex22q rfl rfl ⟨by show 1<=sizeLine; decide,fun t ht=>?_⟩
      have s6:∀ t2 o2,upd H4 t (.tup [.ref r']) t2=none->Same H4 (upd (upd H4 t (.tup [.ref r'])) t2 o2):=fun t2 o2 h=>(same_new ht _).new h
      cases e with
      | ho a1 a2 =>
        obtain ⟨pp,rfl,h6⟩:=hix4
        refine ⟨pp,t,_,_,rfl,rfl,SqT.of (old ht h6),SqT.of upd_same,(by intro z; cases z),by show 4<=sizeLine; decide,(fun e=>by cases e),fun _ t2 ht2=>⟨_,_,rfl,s4.trans (s6 t2 _ ht2),?_⟩⟩
        rw [hst]
        exact ⟨r',upd_same,h4.keep (.of (s6 t2 _ ht2))⟩
      | sk a1 a2 =>
        obtain ⟨pp,rfl,hw6,h6⟩:=hix4
        refine ⟨pp,t,_,_,rfl,rfl,SqT.of (old ht h6),SqT.of upd_same,(by intro z; cases z),by show 3<=sizeLine; decide,(fun e=>by cases e),fun _ t2 ht2=>⟨_,_,rfl,s4.trans (s6 t2 _ ht2),?_⟩⟩
        rw [hst]
        exact ⟨r',hw6,upd_same,h4.keep (.of (s6 t2 _ ht2))⟩
    · rintro σ H4 ⟨r',y,rfl,s4,h4⟩
      rw [<- el,Nat.sub_self,List.drop_zero] at h4
      refine (ex2q rfl (q _ _ _ ((k3.kp k2 hd4).trans (.of s4)) (S3.same s4) h4 (by rw [wrap_sz]; lia) (hex b c hmu)))
  case key =>
    intro u D tail
    cases hp2 with
    | @give x _ hp =>
      rw [Fv] at hfv2
      rw [Bd.sz] at *
      refine ifSayV rfl hp (ex22q rfl rfl (ex2q rfl (ixT hp (atI_nat (j:=1) rfl) ⟨st,d4,_,_,μ',x,rfl,S2,by lia,hd2,by lia,hfv2,fun H3 y k3 S3 e3=>⟨by show 2<=sizeLine; decide,fun t ht=>?_⟩⟩)))
      refine tail _ t (.give y) _ _ _ _ _ _ _ _ _ _ _ ((KpD.of k3).trans (.of (.of (same_new ht _)))) ((S3.mono (by lia)).new ht _) upd_same (by rw [Mc.sz]; lia) fun σ c=>?_
      rw [plB,c _ _ e3]
    | @lt x e b' _ qd rb hp hD hb' =>
      rw [Fv] at hfv2
      rw [Bd.sz] at *
      rw [Bd.dp] at hbd
      refine ifNotV rfl hp (ifSayV rfl hp ?_)
      refine (ex22q rfl rfl (ex2q rfl (ixT hp (atI_nat (j:=2) rfl) (ex2q rfl ⟨st,w0,qd,d4,_,_,z,bb,xs0,e,μ',rfl,S2,by lia,hw2,hz,hD,hd2,by lia,hfv2.1,fun H3 r3 e' tk k3 S3 hm3 hpl=>?_⟩))))
      have t3:=k3.tups S2
      have hd3:=hd2.kp S2 k3
      obtain ⟨kv3,v1,v2,v3,v4⟩:=id hd3.ex
      dsimp only [List.set]
      refine ex2q rfl (ixT (t3 _ _ hp) (atI_nat (j:=1) rfl) (ex22q rfl rfl (ixT (t3 _ _ hp) (atI_nat (j:=1) rfl) ⟨d4,_,rfl,.inl ⟨kv3,.inr x,v1,rfl,by lia,rfl⟩,?_⟩)))
      have hd4':Sd (upd H3 d4 (.dK (putK kv3 (.inr x) (.str x)))) d4 (μ'.self [x]) (m + 2 + 1):=by
        have h:=Sd.put (H:=H3) (d:=d4) (σ:=μ') (x:=x) (y:=x) v2 v3 v4
        rw [Sg.put_self] at h
        exact h
      have S4:Sta K (upd H3 d4 (.dK (putK kv3 (.inr x) (.str x)))) st _:=S3.but v1 fun b n=>upd_ne n
      have k4:KpD st d4 H2 (upd H3 d4 (.dK (putK kv3 (.inr x) (.str x)))):=(KpD.of k3).trans (.put (S3.neD v1))
      have t4:=k4.tups S2 hd2
      have t34:Tups H3 (upd H3 d4 (.dK (putK kv3 (.inr x) (.str x)))):=fun b xs e=>by rw [upd_ne (ne_of e v1 (by intro z; cases z))]; exact e
      have hw4:=(k4.kp k2 hd4).k _ _ (S0.neW hw) hw
      generalize upd H3 d4 (.dK (putK kv3 (.inr x) (.str x)))=H4 at *
      refine ex2q rfl (ixT (t4 _ _ hp) (atI_nat (j:=1) rfl) (ex2q rfl (ex22q rfl rfl (ex2q rfl (ixT (t4 _ _ hp) (atI_nat (j:=3) rfl) (ex2q rfl ⟨st,w0,rb,d4,_,_,z,bb,xs0,b',μ'.self [x],rfl,S4,by lia,hw4,hz,hb'.keep t4,by lia,by lia,hd4',by lia,hfv2.2,fun H5 r5 c5 k5 S5 hc5 cz5 hmu5=>⟨by show 4<=sizeLine; decide,fun t ht=>?_⟩⟩))))))
      have t5:=k5.tups S4
      refine tail _ t (.lt x e' tk c5) _ _ _ _ _ _ _ _ _ _ _ (k4.trans (.of (k5.new ht))) ((S5.mono (by lia)).new ht _) ⟨r3,r5,upd_same,hm3.keep (t34.trans (t5.trans (.of (same_new ht _)))),hc5.keep (.of (same_new ht _))⟩ (by rw [Mc.sz]; lia) fun σ c=>?_
      rw [plB,hpl σ c,hmu5 _ c.self]
    | @iff x a b' _ qa rb hp ha hb' =>
      rw [Fv] at hfv2
      rw [Bd.sz] at *
      rw [Bd.dp] at hbd
      refine ifNotV rfl hp (ifNotV rfl hp (ifSayV rfl hp ?_))
      refine ex22q rfl rfl (ex2q rfl (ixT hp (atI_nat (j:=2) rfl) (ex2q rfl ⟨st,w0,qa,d4,_,_,z,bb,xs0,a,μ',rfl,S2,by lia,hw2,hz,ha,by lia,by lia,hd2,by lia,hfv2.2.1,fun H3 r3 c3 k3 S3 hc3 cz3 hmu3=>?_⟩)))
      have t3:=k3.tups S2
      have hd3:=hd2.kp S2 k3
      dsimp only [List.set]
      refine ex22q rfl rfl (ex2q rfl (ixT (t3 _ _ hp) (atI_nat (j:=1) rfl) ⟨st,d4,_,_,μ',x,rfl,S3,by lia,hd3,by lia,hfv2.1,fun H4 y k4 S4 e4=>?_⟩))
      have t4:=k4.tups S3
      have hd4':=hd3.kp S3 k4
      refine ex2q rfl (ex22q rfl rfl (ex2q rfl (ixT (t4 _ _ (t3 _ _ hp)) (atI_nat (j:=3) rfl) (ex2q rfl ⟨st,w0,rb,d4,_,_,z,bb,xs0,b',μ',rfl,S4,by lia,(k3.trans k4).k _ _ (S2.neW hw2) hw2,hz,hb'.keep (t3.trans t4),by lia,by lia,hd4',by lia,hfv2.2.2,fun H5 r5 c5 k5 S5 hc5 cz5 hmu5=>⟨by show 4<=sizeLine; decide,fun t ht=>?_⟩⟩))))
      have t5:=k5.tups S4
      refine tail _ t (.iff y c3 c5) _ _ _ _ _ _ _ _ _ _ _ (.of (((k3.trans k4).trans k5).new ht)) ((S5.mono (by lia)).new ht _) ⟨r3,r5,upd_same,hc3.keep (t4.trans (t5.trans (.of (same_new ht _)))),hc5.keep (.of (same_new ht _))⟩ (by rw [Mc.sz]; lia) fun σ c=>?_
      rw [plB,c _ _ e4,hmu3 _ c,hmu5 _ c]
    | @case x as ps _ qs hp hq hps hA =>
      rw [Fv] at hfv2
      rw [Bd.sz] at *
      rw [Bd.dp] at hbd
      have az:=as.bsz
      refine ifNotV rfl hp (ifNotV rfl hp (ifNotV rfl hp ?_))
      refine ⟨by show 0<=sizeLine; decide,fun l9 h9=>?_⟩
      have s3:=same_new (o:=.lst []) h9
      have S3:=S2.same s3
      have e9:=upd_same (H:=H2) (a:=l9) (o:=.lst [])
      have k3:Kp st H2 (upd H2 l9 (.lst [])):=.of s3
      have n9:l9≠st:=S2.ne h9
      dsimp only [List.set]
      generalize upd H2 l9 (.lst [])=H3 at *
      refine ex22q rfl rfl (ex2q rfl (ixT (s3 _ _ hp) (atI_nat (j:=1) rfl) ⟨st,d4,_,_,μ',x,rfl,S3,by lia,hd2.same s3,by lia,hfv2.1,fun H4 y k4 S4 e4=>?_⟩))
      have k24:=k3.trans k4
      dsimp only [List.set]
      refine ex2q rfl (ixT (k24.tups S2 _ _ hp) (atI_nat (j:=2) rfl) ⟨qs,rfl,⟨_,SqT.of (k24.tups S2 _ _ hq)⟩,for_tup (xs:=ps.map V.ref) (fun i σ H'=>Kp st H2 H'/\Sta K H' st (B + 21 + 100 * bsz (as.bs.take i))/\∃ (mr:Mr) (rs:List Addr) (y11 y12 y13 y14 y15 y16 y17:Option V),σ=[some (.ref st),some (.ref w0),some (.ref p),some (.ref d),some (.ref d4),some (.ref l5),none,none,none,some (.ref l9),some (.str y),y11,y12,y13,y14,y15,y16,y17,none]/\H' l9=some (.lst (rs.map V.ref))/\rs.length=i/\IsMr H' mr rs/\mr.sz<=3 * bsz (as.bs.take i)/\∀ σ,Cmp μ' σ->(plA mr σ).bs=as.bs.take i) ⟨k24,S4.mono (by lia),.nil,[],none,none,none,none,none,none,none,rfl,k4.k _ _ n9 e9,rfl,rfl,(by rw [Mr.sz]; exact Nat.zero_le _),fun σ _=>by rw [plA,Arms.bs]; rfl⟩ (fun i σ H' _ h=>SqT.of (h.1.tups S2 _ _ hq)) ?_ ?_⟩)
      · rintro i v σ H5 hv ⟨k5,S5,mr,rs,y11,y12,y13,y14,y15,y16,y17,rfl,e95,rl,hmr,mz,hpl⟩
        rw [List.getElem?_map] at hv
        obtain ⟨pa,hpa,rfl⟩:=Option.map_eq_some_iff.mp hv
        obtain ⟨t,ns,b',qa,ra,f1,f2,f3,f4⟩:=hA.getb hpa
        have bd:b'.dp<=as.dp:=Arms.bdp (List.mem_of_getElem? f1)
        have bt:=bsz_take f1
        have bl:=bsz_le as.bs (i + 1)
        simp only at bt
        have il:=(List.getElem?_eq_some_iff.mp f1).1
        have t5:=k5.tups S2
        refine ⟨_,_,rfl,SqT.of (t5 _ _ f2),rfl,_,_,rfl,_,_,rfl,_,_,rfl,rfl,?_⟩
        have hd5:=hd2.kp S2 k5
        obtain ⟨kv5,v1,v2,v3,v4⟩:=id hd5.ex
        refine ex2q rfl ⟨d4,kv5,rfl,v1,fun d14 h14=>?_⟩
        have s6:=same_new (o:=.dK kv5) h14
        have S6:=S5.same s6
        have hd6:Sd (upd H5 d14 (.dK kv5)) d14 (μ'.self (ns.take 0)) (m + 2 + 0):=⟨kv5,upd_same,v2,v3,fun x=>by rw [List.take_zero,Sg.self_nil]; exact v4 x⟩
        dsimp only [List.set]
        generalize upd H5 d14 (.dK kv5)=H6 at *
        have k6:Kp st H2 H6:=k5.trans (.of s6)
        have f14:H2 d14=none:=k5.free (S5.ne h14) h14
        have e96:=s6 _ _ e95
        have n914:l9≠d14:=by
          obtain ⟨_,e,_⟩:=hd6.ex
          exact ne_of e96 e (by intro z; cases z)
        refine ex2q rfl ⟨qa,rfl,⟨_,SqT.of (k6.tups S2 _ _ f3)⟩,for_tup (xs:=ns.map V.str) (fun j σ H'=>KpD st d14 H6 H'/\Sta K H' st (B + 21 + 100 * bsz (as.bs.take i))/\Sd H' d14 (μ'.self (ns.take j)) (m + 2 + j)/\∃ y15,σ=[some (.ref st),some (.ref w0),some (.ref p),some (.ref d),some (.ref d4),some (.ref l5),none,none,none,some (.ref l9),some (.str y),some (.str t),some (.ref qa),some (.ref ra),some (.ref d14),y15,y16,y17,none]) ⟨.refl,S6,hd6,_,rfl⟩ (fun j σ H' _ h=>SqT.of (h.1.tups S6 hd6 _ _ (k6.tups S2 _ _ f3))) ?_ ?_⟩
        · rintro j v σ H7 hv ⟨k7,S7,hd7,y,rfl⟩
          rw [List.getElem?_map] at hv
          obtain ⟨x1,hx1,rfl⟩:=Option.map_eq_some_iff.mp hv
          have jl:=(List.getElem?_eq_some_iff.mp hx1).1
          obtain ⟨kv7,w1,w2,w3,w4⟩:=id hd7.ex
          refine ex2q rfl (ex22q rfl rfl ⟨d14,_,rfl,.inl ⟨kv7,.inr x1,w1,rfl,by lia,rfl⟩,k7.trans (.put (S7.neD w1)),S7.but w1 fun b n=>upd_ne n,?_,_,rfl⟩)
          have h:=Sd.put (H:=H7) (d:=d14) (x:=x1) (y:=x1) w2 w3 w4
          rw [Sg.self_app] at h
          rw [List.take_add_one,hx1]
          exact h
        rintro σ H7 ⟨k7,S7,hd7,y15',rfl⟩
        rw [List.length_map] at hd7
        rw [List.take_of_length_le (Nat.le_refl _)] at hd7
        have k27:=k7.kp k6 f14
        have e97:=k7.k _ _ n9 n914 e96
        have pick:∀ (a c:Str) (rc:Int),0<=rc->rc < 2->∃ kk:Str,atI [V.str a,V.str c] rc=some (.str kk):=fun a c rc c0 c1=>by
          rcases (show rc=0\/rc=1 by lia) with rfl | rfl
          · exact ⟨_,atI_nat (j:=0) rfl⟩
          · exact ⟨_,atI_nat (j:=1) rfl⟩
        refine ⟨by show 2<=sizeLine; decide,fun l10 h10=>(ex2q rfl ⟨st,2,_,rfl,S7.new h10 _,by lia,by decide,fun H8 rc k8 S8 c0 c1=>?_⟩)⟩
        obtain ⟨md,emd⟩:=pick "look" "take" rc c0 c1
        have e108:=k8.k _ _ (S7.ne h10) (upd_same (H:=H7) (a:=l10) (o:=.lst [.str "look",.str "take"]))
        have k78:Kp st H7 H8:=(Kp.of (same_new h10 _)).trans k8
        have k28:=k27.trans k78
        refine ⟨l10,_,_,_,rfl,rfl,SqL.of e108,emd,?_⟩
        dsimp only [List.set]
        refine ex2q rfl ⟨w0,z,bb,xs0,3,rfl,k28.k _ _ (S2.neW hw2) hw2,hz,by show 2<=sizeLine; decide,fun l11 h11=>(ex2q rfl ⟨st,2,_,rfl,S8.new h11 _,by lia,by decide,fun H9 rd k9 S9 d0 d1=>?_⟩)⟩
        obtain ⟨tk,etk⟩:=pick "" (nm z bb 3) rd d0 d1
        have e119:=k9.k _ _ (S8.ne h11) (upd_same (H:=H8) (a:=l11) (o:=.lst [.str "",.str (nm z bb 3)]))
        have k79:Kp st H7 H9:=k78.trans ((Kp.of (same_new h11 _)).trans k9)
        have k29:=k27.trans k79
        refine ⟨l11,_,_,_,rfl,rfl,SqL.of e119,etk,?_⟩
        dsimp only [List.set]
        have e99:=k79.k _ _ n9 e97
        have t29:=k29.tups S2
        refine ex2q rfl ⟨.inl ⟨rfl,_,SqL.of e99⟩,ex22q rfl rfl (ex22q rfl rfl (ex22q rfl rfl (ex22q rfl rfl ⟨st,w0,ra,d14,_,_,z,bb,xs0,b',μ'.self ns,rfl,S9,by lia,k29.k _ _ (S2.neW hw2) hw2,hz,f4.keep t29,by lia,by lia,hd7.kp S7 k79,by lia,hfv2.2.get (List.mem_of_getElem? f1),fun H10 r c k10 S10 hc cz hmu=>⟨by show 5<=sizeLine; decide,fun t0 ht=>?_⟩⟩)))⟩
        have e910:=old (o:=.tup [.str t,.ref qa,.str md,.str tk,.ref r]) ht (k10.k _ _ n9 e99)
        have k2t:=(k29.trans k10).new (o:=.tup [.str t,.ref qa,.str md,.str tk,.ref r]) ht
        have S11:=S10.new ht (.tup [.str t,.ref qa,.str md,.str tk,.ref r])
        have e011:=upd_same (H:=H10) (a:=t0) (o:=.tup [.str t,.ref qa,.str md,.str tk,.ref r])
        have hc11:=hc.keep (.of (same_new ht (.tup [.str t,.ref qa,.str md,.str tk,.ref r])))
        have t511:Tups H5 (upd H10 t0 (.tup [.str t,.ref qa,.str md,.str tk,.ref r])):=(Tups.of s6).trans ((k7.tups S6 hd6).trans (((k79.trans k10).tups S7).trans (.of (same_new ht _))))
        generalize upd H10 t0 (.tup [.str t,.ref qa,.str md,.str tk,.ref r])=H11 at *
        have tl:Tups H11 (upd H11 l9 (.lst (rs.map V.ref ++ [.ref t0]))):=fun b xs e=>by rw [upd_ne (ne_of e e910 (by intro z; cases z))]; exact e
        refine ⟨l9,_,_,rfl,rfl,e910,by rw [List.length_map]; have:=bsz_ln as.bs; lia,k2t.put h9,(Sta.put S2 h9 k2t S11).mono (by rw [bt]; lia),Mr.app mr (.cons t ns md tk c .nil),rs ++ [t0],_,_,_,_,_,_,_,rfl,by rw [upd_same,List.map_append]; rfl,by rw [List.length_append,rl]; rfl,?_,?_,fun σ cc=>?_⟩
        · refine IsMr.app ?_ (hmr.keep (t511.trans tl))
          rw [IsMr]
          exact ⟨t0,qa,r,[],rfl,tl _ _ e011,tl _ _ (k2t.tups S2 _ _ f3),hc11.keep tl,by rw [IsMr]⟩
        · rw [Mr.sz_app,Mr.sz,Mr.sz,bt]; lia
        · rw [plA_app,hpl σ cc,plA,plA,Arms.bs,Arms.bs,hmu _ cc.self,List.take_add_one,f1]; rfl
      · rintro σ H5 ⟨k5,S5,mr,rs,y11,y12,y13,y14,y15,y16,y17,rfl,e95,rl,hmr,mz,hpl⟩
        rw [List.length_map,<- hA.bsl,List.take_of_length_le (Nat.le_refl _)] at S5 mz hpl
        rw [List.length_map] at rl
        refine ex22q rfl rfl ⟨l9,_,rfl,.inl ⟨SqL.of e95,fun t6 h6=>⟨by show 3<=sizeLine; decide,fun t7 h7=>?_⟩⟩⟩
        have s7:=(same_new (o:=.tup (rs.map V.ref)) h6).new (o:=.tup [.str "case",.str y,.ref t6]) h7
        refine tail _ t7 (.case y mr) _ _ _ _ _ _ _ _ _ _ _ ((KpD.of k5).trans (.of (.of s7))) ((S5.mono (by lia)).same s7) ⟨t6,rs,upd_same,old h7 upd_same,by lia,hmr.keep (.of s7)⟩ (by rw [Mc.sz]; lia) fun σ c=>?_
        rw [plB,c _ _ e4,Arms.bs_inj (hpl σ c)]
end
end GN
namespace GN
open PySem L2 K11
theorem Sm.two {H:Hp} {n:Nat} {a b:Addr} {u v u' v':V} (ha:H a=some (.tup [u,v])) (hb:H b=some (.tup [u',v'])) (h1:Sm n H u u') (h2:Sm n H v v'):Sm (n + 1) H (.ref a) (.ref b) :=
  .inr ⟨a,b,_,_,rfl,rfl,ha,hb,rfl,(by show 2<=1000000; decide),fun i x y e1 e2=>by
    match i,e1,e2 with
    | 0,e1,e2=>cases e1; cases e2; exact h1
    | 1,e1,e2=>cases e1; cases e2; exact h2⟩
theorem Sm.three {H:Hp} {n:Nat} {a b:Addr} {u v w u' v' w':V} (ha:H a=some (.tup [u,v,w])) (hb:H b=some (.tup [u',v',w'])) (h1:Sm n H u u') (h2:Sm n H v v') (h3:Sm n H w w'):Sm (n + 1) H (.ref a) (.ref b) :=
  .inr ⟨a,b,_,_,rfl,rfl,ha,hb,rfl,(by show 3<=1000000; decide),fun i x y e1 e2=>by
    match i,e1,e2 with
    | 0,e1,e2=>cases e1; cases e2; exact h1
    | 1,e1,e2=>cases e1; cases e2; exact h2
    | 2,e1,e2=>cases e1; cases e2; exact h3⟩
theorem Sm.four {H:Hp} {n:Nat} {a b:Addr} {u v w x u' v' w' x':V} (ha:H a=some (.tup [u,v,w,x])) (hb:H b=some (.tup [u',v',w',x'])) (h1:Sm n H u u') (h2:Sm n H v v') (h3:Sm n H w w') (h4:Sm n H x x'):Sm (n + 1) H (.ref a) (.ref b) :=
  .inr ⟨a,b,_,_,rfl,rfl,ha,hb,rfl,(by show 4<=1000000; decide),fun i x y e1 e2=>by
    match i,e1,e2 with
    | 0,e1,e2=>cases e1; cases e2; exact h1
    | 1,e1,e2=>cases e1; cases e2; exact h2
    | 2,e1,e2=>cases e1; cases e2; exact h3
    | 3,e1,e2=>cases e1; cases e2; exact h4⟩
theorem sm_de {H:Hp} {n:Nat} {d:De} {p q:Addr} (hp:IsDe H d p) (hq:IsDe H d q):Sm (n + 3) H (.ref p) (.ref q):=by
  cases hp with
  | num h1 =>
    cases hq with
    | num h2=>exact .two h1 h2 .str (.inl ⟨rfl,.inl ⟨_,rfl⟩⟩)
  | op h1 =>
    cases hq with
    | op h2=>exact .four h1 h2 .str .str .str .str
  | app c h1 g1 =>
    cases hq with
    | app _ h2 g2=>exact .three h1 h2 .str .str (sm_strs g1 g2 (by have:=c.2.2; lia))
mutual
theorem sm_bd {H:Hp}:∀ {b:Bd} {p q:Addr} {n:Nat},IsB H b p->IsB H b q->3 * b.dp + 3<=n->b.sz<=1000000->Sm n H (.ref p) (.ref q)
  | .give x,p,q,n,.give h1,.give h2,hn,hz=>by
    obtain ⟨n,rfl⟩:∃ m,n=m + 2:=⟨n - 2,by lia⟩
    exact .two h1 h2 .str .str
  | .lt x d b,p,q,n,.lt h1 d1 b1,.lt h2 d2 b2,hn,hz=>by
    rw [Bd.dp] at hn
    rw [Bd.sz] at hz
    obtain ⟨n,rfl⟩:∃ m,n=m + 4:=⟨n - 4,by lia⟩
    exact .four h1 h2 .str .str (sm_de d1 d2) (sm_bd b1 b2 (by lia) (by lia))
  | .iff x a b,p,q,n,.iff h1 a1 b1,.iff h2 a2 b2,hn,hz=>by
    rw [Bd.dp] at hn
    rw [Bd.sz] at hz
    obtain ⟨n,rfl⟩:∃ m,n=m + 4:=⟨n - 4,by lia⟩
    exact .four h1 h2 .str .str (sm_bd a1 a2 (by lia) (by lia)) (sm_bd b1 b2 (by lia) (by lia))
  | .case x as,p,q,n,.case (ps:=ps) h1 q1 l1 a1,.case (ps:=qs) h2 q2 l2 a2,hn,hz=>by
    rw [Bd.dp] at hn
    rw [Bd.sz] at hz
    obtain ⟨n,rfl⟩:∃ m,n=m + 4:=⟨n - 4,by lia⟩
    have e1:=a1.bsl
    have e2:=a2.bsl
    have e3:=bsz_ln as.bs
    rw [as.bsz] at e3
    refine .three h1 h2 .str .str (.inr ⟨_,_,_,_,rfl,rfl,q1,q2,by rw [List.length_map,List.length_map]; lia,by rw [List.length_map]; lia,fun i u v g1 g2=>?_⟩)
    rw [List.getElem?_map] at g1 g2
    obtain ⟨pa,f1,rfl⟩:=Option.map_eq_some_iff.mp g1
    obtain ⟨pb,f2,rfl⟩:=Option.map_eq_some_iff.mp g2
    exact sm_as a1 a2 f1 f2 (by lia) (by lia)
theorem sm_as {H:Hp}:∀ {as:Arms} {ps qs:List Addr} {n i:Nat} {p q:Addr},IsA H as ps->IsA H as qs->ps[i]?=some p->qs[i]?=some q->3 * as.dp + 4<=n->as.sz<=1000000->Sm n H (.ref p) (.ref q)
  | .nil,_,_,_,_,_,_,.nil,_,e,_,_,_=>by simp at e
  | .cons t ns b r,_,_,n,i,p,q,.cons h1 n1 b1 r1,.cons h2 n2 b2 r2,e1,e2,hn,hz=>by
    rw [Arms.dp] at hn
    rw [Arms.sz] at hz
    cases i with
    | zero =>
      cases e1; cases e2
      obtain ⟨n,rfl⟩:∃ m,n=m + 3:=⟨n - 3,by lia⟩
      exact .three h1 h2 .str (sm_strs n1 n2 (by lia)) (sm_bd b1 b2 (by lia) (by lia))
    | succ i=>exact sm_as r1 r2 (by simpa using e1) (by simpa using e2) (by lia) (by lia)
end
def MOk (H:Hp) (d:Df) (m:MDf):Prop:=d.z=m.z/\H m.q=some (.tup (d.ns.map V.str))/\plB m.c (fun _=>none)=d.b
theorem MOk.keep {H H':Hp} {d:Df} {m:MDf} (h:MOk H d m) (t:Tups H H'):MOk H' d m:=⟨h.1,t _ _ h.2.1,h.2.2⟩
def spCode (K:PySem.W.Frag) (n:Nat):Sp:=fun vs H Q _=>∃ (st w p pd:Addr) (B:Nat) (z:Str) (bb:Bool) (xs:List V) (v0:V) (ds:List Addr) (dfs:List Df) (o:Wo),vs=[.ref st,.ref w,.ref p]/\Sta K H st B/\B + 4500000 < LIM/\H w=some (.lst (.str z :: .bl bb :: xs))/\z.length<=6/\H p=some (.tup [v0,.ref pd])/\H pd=some (.tup (ds.map V.ref))/\IsFs H dfs ds/\ds.length=3/\(∀ d∈dfs,d.ns.length<=3/\d.b.sz<=14560/\d.b.dp<=n/\SndB o d.ns d.b)/\∀ (H':Hp) (r pd':Addr) (ps:List Addr) (ms:List MDf),Kp st H H'->Sta K H' st (B + 4500000)->H' r=some (.tup [v0,.ref pd'])->H' pd'=some (.tup (ps.map V.ref))->ps.length=3->All2 (IsMF H') ms ps->(∀ m∈ms,m.c.sz<=400000)->All2 (MOk H') dfs ms->Q (.ref r) H'
section
variable {P:Program} {w:World} {K:PySem.W.Frag} {mg:Str->Option Value} {base:Heap} {f:Addr} {fd:FuncData}
theorem scCode:FnScope ["_law_state","_law_world_here","_law_program_here","_law_defs","_law_name_here","_law_params","_law_body_here","_law_means","_law_param","_law_owns"] ["_law_state","_law_world_here","_law_program_here"] (defScope sLCode):=⟨rfl,rfl,rfl,by decide +kernel,rfl,by decide +kernel,by decide +kernel⟩
theorem ok_code {n:Nat} (F:Fun K "_law_code" "_law_code" sLCode f fd) (GM:Ca P w K mg base CX0 (4 + n) "_law_muddled" ["_law_state","_law_world_here","_law_body_here","_law_above"] (spMud K n)) (GD:Ca P w K mg base CX0 1 "_law_draw" ["_law_state","_law_many"] (spDraw K)) (m_tuple:mg "tuple"=none):FnOk P w K mg base CX0 (5 + n) f fd ["_law_state","_law_world_here","_law_program_here"] (spCode K n):=by
  rw [show 5 + n=(4 + n) + 1 by lia]
  refine F.by scCode (fun vs H Q E h=>?_) (fun cdv A outer s H vs Q E hr h=>?_)
  · obtain ⟨st,w,p,pd,B,z,bb,xs,v0,ds,dfs,o,rfl,_⟩:=h
    rfl
  obtain ⟨st,w0,p,pd,B,z,bb,xs0,v0,ds,dfs,o,rfl,S0,hB,hw,hz,hp,hpd,hF,hdl,hok,q⟩:=h
  have hr1:Room 1 _:=hr.mono (by lia)
  refine ⟨_,
    (jss_cons (js_set (i:=3) scCode.nd rfl (Or.inl rfl) (je_lst ja_nil))
    (jss_cons (js_for PassesOwn.never rfl (ji_tupK K (je_ixK K (jv 2))) (jg_tupK K rfl (jgs_cons (jg_name (i:=4) scCode.nd rfl (Or.inl rfl)) (jgs_cons (jg_name (i:=5) scCode.nd rfl (Or.inl rfl)) (jgs_cons (jg_name (i:=6) scCode.nd rfl (Or.inl rfl)) jgs_nil))))
      (jss_cons (js_set (i:=7) scCode.nd rfl (Or.inl rfl) je_dnewK)
      (jss_cons (js_for PassesOwn.never rfl (ji_tupK K (jv 5)) (jg_name (i:=8) scCode.nd rfl (Or.inl rfl))
        (jss_one (js_dput hr1 (jv 7) (jv 8) (jv 8))))
      (jss_cons (js_set (i:=9) scCode.nd rfl (Or.inl rfl) (je_fnTy (jc_tuple_ofK K) rfl m_tuple PyProof.Rows.boot_tuple (ja_c (je_compS [8] [] rfl (ji_tupK K (jv 5)) (fun _ _ _ _ _=>(jg_name (i:=8) scCode.nd rfl (Or.inl rfl))) (fun _ _ _ _ _=>jts_nil) (fun _ _ _ _ _=>(je_cmpR jo_eq (je_ca GD hr1 rfl pass0 (ja_c (jv 0) (ja_c je_int ja_nil))) je_int (nomark _)))) ja_nil)))
      (jss_one (js_expr (je_bm PySem.F.plainAttrs_list PySem.F.slot_list_append PySem.F.type_list_append jm_append (jv 3) (ja_c (je_tup (ja_c (jv 4) (ja_c (jv 5) (ja_c (jv 9) (ja_c (je_ca GM hr rfl pass0 (ja_c (jv 0) (ja_c (jv 1) (ja_c (jv 6) (ja_c (jv 7) ja_nil))))) ja_nil))))) ja_nil))))))))
    (jss_one (js_ret (je_tup (ja_c (je_ixK K (jv 2)) (ja_c (je_fnTy (jc_tuple_ofK K) rfl m_tuple PyProof.Rows.boot_tuple (ja_c (jv 3) ja_nil)) ja_nil))))))),?_⟩
  have sl:=line0
  have LM:LIM=4611686018427387904:=rfl
  have dl:=hF.len
  refine ⟨by show 0<=sizeLine; decide,fun l3 h3=>?_⟩
  have s1:=same_new (o:=.lst []) h3
  have n3:l3≠st:=S0.ne h3
  refine ex2q rfl (ixT (s1 _ _ hp) (atI_nat (j:=1) rfl) ⟨pd,rfl,⟨_,SqT.of (s1 _ _ hpd)⟩,for_tup (xs:=ds.map V.ref) (fun i σ H'=>Kp st H H'/\Sta K H' st (B + 1500000 * i)/\∃ (ms:List MDf) (ps:List Addr) (y4 y5 y6 y7 y8 y9:Option V),σ=[some (.ref st),some (.ref w0),some (.ref p),some (.ref l3),y4,y5,y6,y7,y8,y9]/\H' l3=some (.lst (ps.map V.ref))/\ps.length=i/\All2 (IsMF H') ms ps/\(∀ m∈ms,m.c.sz<=400000)/\All2 (MOk H') (dfs.take i) ms) ⟨.of s1,(S0.same s1).mono (by lia),[],[],none,none,none,none,none,none,rfl,upd_same,rfl,.nil,(fun m h=>by cases h),.nil⟩ (fun i σ H' _ h=>SqT.of (h.1.tups S0 _ _ hpd)) ?_ ?_⟩)
  · rintro i v σ H5 hv ⟨k5,S5,ms,ps,y4,y5,y6,y7,y8,y9,rfl,e3,pl,hms,hz5,hmo⟩
    rw [List.getElem?_map] at hv
    obtain ⟨pa,hpa,rfl⟩:=Option.map_eq_some_iff.mp hv
    have il:=(List.getElem?_eq_some_iff.mp hpa).1
    obtain ⟨df,hdf,hF1⟩:=hF.get hpa
    obtain ⟨qa,pb,f1,f2,f3⟩:=hF1.ex
    obtain ⟨o1,o2,o3,o4⟩:=hok df (List.mem_of_getElem? hdf)
    have t5:=k5.tups S0
    refine ⟨_,_,rfl,SqT.of (t5 _ _ f1),rfl,_,_,rfl,_,_,rfl,_,_,rfl,rfl,?_⟩
    refine fun d7 h7=>?_
    have s6:=same_new (o:=.dK []) h7
    have S6:=S5.same s6
    have hd6:Sd (upd H5 d7 (.dK [])) d7 (Sg.self (fun _=>none) (df.ns.take 0)) (0 + 0):=⟨[],upd_same,Nat.le_refl _,(fun _ h=>by cases h),fun x=>by rw [List.take_zero,Sg.self_nil]; rfl⟩
    have k6:Kp st H (upd H5 d7 (.dK [])):=k5.trans (.of s6)
    have e36:=s6 _ _ e3
    dsimp only [List.set]
    generalize upd H5 d7 (.dK [])=H6 at *
    have f7:H d7=none:=k5.free (S5.ne h7) h7
    have n37:l3≠d7:=by
      obtain ⟨_,e,_⟩:=hd6.ex
      exact ne_of e36 e (by intro z; cases z)
    refine ex2q rfl ⟨qa,rfl,⟨_,SqT.of (k6.tups S0 _ _ f2)⟩,for_tup (xs:=df.ns.map V.str) (fun j σ H'=>KpD st d7 H6 H'/\Sta K H' st (B + 1500000 * i)/\Sd H' d7 (Sg.self (fun _=>none) (df.ns.take j)) (0 + j)/\∃ y8,σ=[some (.ref st),some (.ref w0),some (.ref p),some (.ref l3),some (.str df.z),some (.ref qa),some (.ref pb),some (.ref d7),y8,y9]) ⟨.refl,S6,hd6,_,rfl⟩ (fun j σ H' _ h=>SqT.of (h.1.tups S6 hd6 _ _ (k6.tups S0 _ _ f2))) ?_ ?_⟩
    · rintro j v σ H7 hv ⟨k7,S7,hd7,y,rfl⟩
      rw [List.getElem?_map] at hv
      obtain ⟨x1,hx1,rfl⟩:=Option.map_eq_some_iff.mp hv
      have jl:=(List.getElem?_eq_some_iff.mp hx1).1
      obtain ⟨kv7,w1,w2,w3,w4⟩:=id hd7.ex
      refine ex2q rfl (ex22q rfl rfl ⟨d7,_,rfl,.inl ⟨kv7,.inr x1,w1,rfl,by lia,rfl⟩,k7.trans (.put (S7.neD w1)),S7.but w1 fun b n=>upd_ne n,?_,_,rfl⟩)
      have h:=Sd.put (H:=H7) (d:=d7) (x:=x1) (y:=x1) w2 w3 w4
      rw [Sg.self_app] at h
      rw [List.take_add_one,hx1]
      exact h
    rintro σ H7 ⟨k7,S7,hd7,y8',rfl⟩
    rw [List.length_map] at hd7
    rw [List.take_of_length_le (Nat.le_refl _)] at hd7
    have k07:=k7.kp k6 f7
    have e37:=k7.k _ _ n3 n37 e36
    have t07:=k07.tups S0
    refine ex2q rfl ⟨qa,rfl,⟨_,SqT.of (t07 _ _ f2)⟩,lc_tup (xs:=df.ns.map V.str) (fun j τ ys H'=>(Kp st H7 H'/\Sta K H' st (B + 1500000 * i + j))/\(∃ v,τ=[some (.ref st),some (.ref w0),some (.ref p),some (.ref l3),some (.str df.z),some (.ref qa),some (.ref pb),some (.ref d7),v,y9])/\ys.length=j) ⟨⟨Kp.refl,S7⟩,⟨none,rfl⟩,rfl⟩ (fun j τ ys H' _ h=>SqT.of (h.1.1.tups S7 _ _ (t07 _ _ f2))) ?_ ?_⟩
    · rintro j v τ ys H8 hv ⟨⟨k8,S8⟩,⟨v',rfl⟩,yl⟩
      have jl:=(List.getElem?_eq_some_iff.mp hv).1
      rw [List.length_map] at jl
      exact ex2q rfl ⟨st,2,_,rfl,S8,by lia,by decide,fun H9 r k9 S9 r0 r1=>⟨rfl,by lia,⟨k8.trans k9,S9⟩,⟨_,rfl⟩,by rw [List.length_append,yl]; rfl⟩⟩
    rintro τ ys H8 ⟨⟨k8,S8⟩,_,yl⟩ l8 h8
    rw [List.length_map] at S8 yl
    refine ⟨l8,ex2q rfl (.inl ⟨SqL.of upd_same,fun t9 h9=>?_⟩)⟩
    have s9:=(same_new (o:=.lst ys) h8).new (o:=.tup ys) h9
    have k79:Kp st H7 (upd (upd H8 l8 (.lst ys)) t9 (.tup ys)):=k8.trans (.of s9)
    have S9:=S8.same s9
    dsimp only [List.set]
    generalize upd (upd H8 l8 (.lst ys)) t9 (.tup ys)=H9 at *
    have k09:=k07.trans k79
    have e39:=k79.k _ _ n3 e37
    have mu:∀ x∈df.ns,Sg.self (fun _=>none) df.ns x=some x:=fun x hx=>by unfold Sg.self; exact if_pos hx
    refine ex2q rfl ⟨.inl ⟨rfl,_,SqL.of e39⟩,ex22q rfl rfl (ex2q rfl (ex22q rfl rfl (ex22q rfl rfl ⟨st,w0,pb,d7,_,_,z,bb,xs0,df.b,_,rfl,S9,by lia,k09.k _ _ (S0.neW hw) hw,hz,f3.keep (k09.tups S0),o3,by lia,hd7.kp S7 k79,by lia,fv_snd o4 mu,fun H10 r c k10 S10 hc cz hmu=>⟨by show 4<=sizeLine; decide,fun t0 ht=>?_⟩⟩)))⟩
    have e310:=old (o:=.tup [.str df.z,.ref qa,.ref t9,.ref r]) ht (k10.k _ _ n3 e39)
    have k0t:=(k09.trans k10).new (o:=.tup [.str df.z,.ref qa,.ref t9,.ref r]) ht
    have S11:=S10.new ht (.tup [.str df.z,.ref qa,.ref t9,.ref r])
    have e011:=upd_same (H:=H10) (a:=t0) (o:=.tup [.str df.z,.ref qa,.ref t9,.ref r])
    have hc11:=hc.keep (.of (same_new ht (.tup [.str df.z,.ref qa,.ref t9,.ref r])))
    have t511:Tups H5 (upd H10 t0 (.tup [.str df.z,.ref qa,.ref t9,.ref r])):=(Tups.of s6).trans ((k7.tups S6 hd6).trans (((k79.trans k10).tups S7).trans (.of (same_new ht _))))
    generalize upd H10 t0 (.tup [.str df.z,.ref qa,.ref t9,.ref r])=H11 at *
    have tl:Tups H11 (upd H11 l3 (.lst (ps.map V.ref ++ [.ref t0]))):=fun b xs e=>by rw [upd_ne (ne_of e e310 (by intro z; cases z))]; exact e
    refine ⟨l3,_,_,rfl,rfl,e310,by rw [List.length_map]; lia,k0t.put h3,(Sta.put S0 h3 k0t S11).mono (by lia),ms ++ [⟨df.z,qa,c⟩],ps ++ [t0],_,_,_,_,_,_,rfl,by rw [upd_same,List.map_append]; rfl,by rw [List.length_append,pl]; rfl,?_,fun m hm=>?_,?_⟩
    · exact (hms.imp fun _ _ h=>h.keep (t511.trans tl)).app (.cons ⟨_,r,tl _ _ e011,hc11.keep tl⟩ .nil)
    · rcases List.mem_append.mp hm with hm | hm
      · exact hz5 m hm
      · rw [List.mem_singleton.mp hm]
        show c.sz<=400000
        lia
    · rw [List.take_add_one,hdf]
      refine (hmo.imp fun _ _ h=>h.keep (t511.trans tl)).app (.cons ⟨rfl,tl _ _ (k0t.tups S0 _ _ f2),hmu _ fun x y e=>?_⟩ .nil)
      unfold Sg.self at e
      split at e
      · exact Option.some.inj e
      · cases e
  · rintro σ H5 ⟨k5,S5,ms,ps,y4,y5,y6,y7,y8,y9,rfl,e3,pl,hms,hz5,hmo⟩
    rw [List.length_map] at pl S5 hmo
    rw [<- dl,List.take_of_length_le (Nat.le_refl _)] at hmo
    refine ex2q rfl (ixT (k5.tups S0 _ _ hp) (atI_nat (j:=0) rfl) (ex2q rfl ⟨l3,_,rfl,.inl ⟨SqL.of e3,fun t6 h6=>⟨by show 2<=sizeLine; decide,fun t7 h7=>?_⟩⟩⟩))
    have s7:=(same_new (o:=.tup (ps.map V.ref)) h6).new (o:=.tup [v0,.ref t6]) h7
    exact q _ t7 t6 ps ms (k5.trans (.of s7)) ((S5.mono (by lia)).same s7) upd_same (old h7 upd_same) (by lia) (hms.imp fun _ _ h=>h.keep (.of s7)) hz5 (hmo.imp fun _ _ h=>h.keep (.of s7))
end
end GN
namespace GN
open PySem L2 K11
theorem Tbs.kp {T1 T2 st B:Addr} {K:PySem.W.Frag} {H H':Hp} (h:Tbs T1 T2 H) (S:Sta K H st B) (k:Kp st H H'):Tbs T1 T2 H':=by
  obtain ⟨a,ns,i,hst,_⟩:=S
  have n:∀ {b:Addr} {u:HO},H b=some u->(∀ xs,u≠.lst xs)->H' b=some u:=fun {b u} e n=>k.k b u (fun z=>by rw [z,hst] at e; exact n _ (Option.some.inj e).symm) e
  exact ⟨h.t1.keep (fun ps e=>n e (by intro _ z; cases z)) fun c q e=>n e (by intro _ z; unfold CodO at z; cases z),h.t2.keep (fun ps e=>n e (by intro _ z; cases z)) fun c q e=>n e (by intro _ z; unfold CodO at z; cases z)⟩
theorem sm_tps {H:Hp} {n:Nat} {l:List (Str × Int)} {ts:List Addr} {p:Addr} (h:Tps H l ts) (hp:H p=some (.tup (ts.map V.ref))) (hl:l.length<=1000):Sm (n + 3) H (.ref p) (.ref p):=by
  have e:=h.len
  refine .inr ⟨p,p,_,_,rfl,rfl,hp,hp,rfl,by rw [List.length_map]; lia,fun i u v g1 g2=>?_⟩
  rw [g1] at g2
  cases g2
  rw [List.getElem?_map] at g1
  obtain ⟨t,ht,rfl⟩:=Option.map_eq_some_iff.mp g1
  obtain ⟨a,k,_,e2⟩:=h.get ht
  exact .two e2 e2 .str (.inl ⟨rfl,.inl ⟨_,rfl⟩⟩)
theorem sm_df {H:Hp} {d:Df} {m:MDf} {v:V} {t:Addr} (hm:MOk H d m) (hv:IsPF H m v) (ht:IsF H d t) (h1:d.ns.length<=3) (h2:d.b.sz<=14560) (h3:d.b.dp<=6):Sm 24 H v (.ref t):=by
  obtain ⟨a,pb,rfl,g1,g2⟩:=hv
  obtain ⟨q,pb',f1,f2,f3⟩:=ht.ex
  obtain ⟨e1,e2,e3⟩:=hm
  rw [e3] at g2
  rw [<- e1] at g1
  exact .three g1 f1 .str (sm_strs e2 f2 (by lia)) (sm_bd g2 f3 (by lia) (by lia))
section
variable {P:Program} {w:World} {K:PySem.W.Frag} {mg:Str->Option Value} {base:Heap} {f:Addr} {fd:FuncData} {T1 T2:Addr}
theorem scLaw:FnScope ["_law_script","_law_state","_law_world_here","_law_program_here","_law_one","_law_other","_law_code_here"] ["_law_script"] (defScope sLaw):=⟨rfl,rfl,rfl,by decide +kernel,rfl,by decide +kernel,by decide +kernel⟩
theorem ok_law (F:Fun K "law" "law" sLaw f fd) (GW:Ca P w K mg base CX0 3 "_law_world" ["_law_state"] (spWorld K)) (GP:Ca P w K mg base CX0 (8 + 2 * 6) "_law_program" ["_law_state","_law_world_here","_law_room"] (spProgram K 6)) (GC:Ca P w K mg base CX0 (5 + 6) "_law_code" ["_law_state","_law_world_here","_law_program_here"] (spCode K 6)) (GPl:Ca P w K mg base CX0 7 "plain" ["code"] (spPlain T1 T2)) (GS:Ca P w K mg base CX0 (1 + 26) "_law_same" ["_law_found","_law_due"] (spSm 26)):FnOk P w K mg base CX0 28 f fd ["_law_script"] (spTopTs K [T2,T1]):=by
  refine F.by scLaw (fun vs H Q E h=>?_) (fun cdv A outer s H vs Q E hr h=>?_)
  · obtain ⟨a,ns,rfl,_⟩:=h
    rfl
  obtain ⟨a,ns,rfl,hS,h63,hTs,q⟩:=h
  have hr3:Room 3 _:=hr.mono (by decide)
  have hr7:Room 7 _:=hr.mono (by decide)
  have hr11:Room (5 + 6) _:=hr.mono (by decide)
  have hr20:Room (8 + 2 * 6) _:=hr.mono (by decide)
  have hr27:Room (1 + 26) _:=hr.mono (by decide)
  refine ⟨_,
    (jss_cons (js_set (i:=1) scLaw.nd rfl (Or.inl rfl) (je_lst (ja_c (jv 0) (ja_c je_int ja_nil))))
    (jss_cons (js_set (i:=2) scLaw.nd rfl (Or.inl rfl) (je_ca GW hr3 rfl pass0 (ja_c (jv 1) ja_nil)))
    (jss_cons (js_set (i:=3) scLaw.nd rfl (Or.inl rfl) (je_ca GP hr20 rfl pass0 (ja_c (jv 1) (ja_c (jv 2) (ja_c je_int ja_nil)))))
    (jss_cons (js_set (i:=4) scLaw.nd rfl (Or.inl rfl) (je_ca GC hr11 rfl pass0 (ja_c (jv 1) (ja_c (jv 2) (ja_c (jv 3) ja_nil)))))
    (jss_cons (js_set (i:=5) scLaw.nd rfl (Or.inl rfl) (je_ca GC hr11 rfl pass0 (ja_c (jv 1) (ja_c (jv 2) (ja_c (jv 3) ja_nil)))))
    (jss_cons (js_for PassesOwn.never rfl (ji_listK K (je_lst (ja_c (jv 4) (ja_c (jv 5) (ja_c (jv 4) ja_nil))))) (jg_name (i:=6) scLaw.nd rfl (Or.inl rfl))
      (jss_one (js_if (jt_not (jt_val (je_ca GS hr27 rfl pass0 (ja_c (je_ca GPl hr7 rfl pass0 (ja_c (jv 6) ja_nil)) (ja_c (jv 3) ja_nil)))))
        (jss_one (js_ret je_bl)) jss_nil)))
    (jss_one (js_ret je_bl)))))))),?_⟩
  have sl:=line0
  have LM:LIM=4611686018427387904:=rfl
  have cb:CB 6=109200:=rfl
  have sz:SZ 6=14560:=rfl
  refine (ex2q rfl ⟨by show 2<=sizeLine; decide,fun st h1=>?_⟩)
  have S1:Sta K (upd H st (.lst [.ref a,.int ((0:Nat):Int)])) st 0:=by
    refine ⟨a,ns,0,upd_same,fun e=>?_,(same_new h1 _).seq hS,Nat.le_refl _⟩
    rcases hS with (h | ⟨o,h⟩) | h
    · exact absurd e (ne_of_none h h1)
    · exact absurd e (ne_of_none h h1)
    · exact fun _=>.inr h
  have em:∀ {T ls},T∈[T2,T1]->TbG T ls (upd H st (.lst [.ref a,.int ((0:Nat):Int)])):=fun {T ls} m=>.empty (old h1 (hTs T m))
  have B1:Tbs T1 T2 (upd H st (.lst [.ref a,.int ((0:Nat):Int)])):=⟨em (by simp),em (by simp)⟩
  show (tSeq _ _:TS) _ _ (upd H st (.lst [.ref a,.int ((0:Nat):Int)]))
  generalize upd H st (.lst [.ref a,.int ((0:Nat):Int)])=H1 at *
  refine (ex2q rfl ⟨st,0,rfl,S1,by lia,fun H2 w0 o k2 S2 hW=>?_⟩)
  refine (ex22q rfl rfl ⟨st,w0,_,4,o,rfl,S2,by lia,hW,by decide,by decide,fun H3 p pk pd p1 p2 t1 t2 ds dfs k3 S3 hp hpk hp1 hp2 ht1 ht2 hpd hFs hdl hok hnm=>?_⟩)
  have wok:=hW.ok
  have B3:=(B1.kp S1 k2).kp S2 k3
  obtain ⟨⟨tl,dl,tt,dss,hw2,_⟩,_⟩:=id hW
  have nws:=S2.neW hw2
  have hw3:=k3.k _ _ nws hw2
  have hok':∀ d∈dfs,d.ns.length<=3/\d.b.sz<=14560/\d.b.dp<=6/\SndB o d.ns d.b:=fun d hd=>by
    obtain ⟨⟨f1,f2,f3⟩,f4⟩:=hok d hd
    exact ⟨f1,by lia,f3,f4.sn⟩
  refine ex22q rfl rfl (ex2q rfl ⟨st,w0,p,pd,_,_,_,_,.ref pk,ds,dfs,o,rfl,S3,by lia,hw3,wok.z,hp,hpd,hFs,hdl,hok',fun H4 r4 pd4 ps4 ms4 k4 S4 hr4 hpd4 pl4 hms4 hz4 hmo4=>?_⟩)
  have B4:=B3.kp S3 k4
  have t34:=k4.tups S3
  refine ex22q rfl rfl (ex2q rfl ⟨st,w0,p,pd,_,_,_,_,.ref pk,ds,dfs,o,rfl,S4,by lia,k4.k _ _ nws hw3,wok.z,t34 _ _ hp,t34 _ _ hpd,hFs.keep t34,hdl,hok',fun H5 r5 pd5 ps5 ms5 k5 S5 hr5 hpd5 pl5 hms5 hz5 hmo5=>?_⟩)
  have B5:=B4.kp S4 k5
  have t45:=k5.tups S4
  have t35:=t34.trans t45
  dsimp only [List.set,L2.start]
  refine ex22q rfl rfl (ex2q rfl ⟨by show 3<=sizeLine; decide,fun l6 h6=>?_⟩)
  have s6:=same_new (o:=.lst [.ref r4,.ref r5,.ref r4]) h6
  have e6:=upd_same (H:=H5) (a:=l6) (o:=.lst [.ref r4,.ref r5,.ref r4])
  have B6:=B5.same s6
  have t36:=t35.trans (.of s6)
  -- each of them is plain code of the program
  have hc:∀ (r:Addr),r=r4\/r=r5->∃ pd' ps ms,upd H5 l6 (.lst [.ref r4,.ref r5,.ref r4]) r=some (.tup [.ref pk,.ref pd'])/\upd H5 l6 (.lst [.ref r4,.ref r5,.ref r4]) pd'=some (.tup (ps.map V.ref))/\ps.length=3/\All2 (IsMF (upd H5 l6 (.lst [.ref r4,.ref r5,.ref r4]))) ms ps/\(∀ m∈ms,m.c.sz<=400000)/\All2 (MOk (upd H5 l6 (.lst [.ref r4,.ref r5,.ref r4]))) dfs ms:=by
    have t46:=t45.trans (.of s6)
    have t56:=Tups.of s6
    rintro r (rfl | rfl)
    · exact ⟨pd4,ps4,ms4,t46 _ _ hr4,t46 _ _ hpd4,pl4,hms4.imp fun _ _ h=>h.keep t46,hz4,hmo4.imp fun _ _ h=>h.keep t46⟩
    · exact ⟨pd5,ps5,ms5,t56 _ _ hr5,t56 _ _ hpd5,pl5,hms5.imp fun _ _ h=>h.keep t56,hz5,hmo5.imp fun _ _ h=>h.keep t56⟩
  generalize upd H5 l6 (.lst [.ref r4,.ref r5,.ref r4])=H6 at *
  have ndT:=B6.no e6 (by intro _ z; cases z)
  refine ⟨l6,rfl,⟨_,SqL.of e6⟩,for_list (xs:=[.ref r4,.ref r5,.ref r4]) (fun i σ H'=>(KM (MT T1 T2) H6 H'/\Tbs T1 T2 H')/\∃ y,σ=[some (.ref a),some (.ref st),some (.ref w0),some (.ref p),some (.ref r4),some (.ref r5),y]) ⟨⟨KM.refl,B6⟩,_,rfl⟩ (fun i σ H' _ h=>SqL.of (h.1.1 _ _ ndT e6)) ?_ ?_⟩
  · rintro i v σ H7 hv ⟨⟨k7,B7⟩,y,rfl⟩
    obtain ⟨r,rfl,hr⟩:∃ r,v=.ref r/\(r=r4\/r=r5):=by
      match i,hv with
      | 0,hv=>cases hv; exact ⟨_,rfl,.inl rfl⟩
      | 1,hv=>cases hv; exact ⟨_,rfl,.inr rfl⟩
      | 2,hv=>cases hv; exact ⟨_,rfl,.inl rfl⟩
    obtain ⟨pd',ps,ms,c1,c2,c3,c4,c5,c6⟩:=hc r hr
    have t67:=B6.tups k7
    refine ex2q rfl ⟨r,pd',.ref pk,ps,ms,rfl,t67 _ _ c1,t67 _ _ c2,c4.imp fun _ _ h=>h.keep t67,c5,by lia,B7,fun H8 r8 pd8 vs k8 B8 hr8 hpd8 hvs=>?_⟩
    have t68:=t67.trans (B7.tups k8)
    have t38:=t36.trans t68
    have vl:=hvs.len
    have ml:=c6.len
    have dl:=hFs.len
    have kl:(kd o).length=4:=by unfold kd; rw [List.length_map]; exact wok.tlen
    refine ex2q rfl ⟨.ref r8,.ref p,rfl,?_,fun H9 s9=>ex2q rfl (iteF ?_)⟩
    · refine .two hr8 (t38 _ _ hp) (.two (t38 _ _ hpk) (t38 _ _ hpk) (sm_tps (ht1.keep t38) (t38 _ _ hp1) (by rw [List.length_take]; lia)) (sm_tps (ht2.keep t38) (t38 _ _ hp2) (by rw [List.length_drop]; lia))) (.inr ⟨_,_,_,_,rfl,rfl,hpd8,t38 _ _ hpd,by rw [List.length_map]; lia,by lia,fun j u v g1 g2=>?_⟩)
      rw [List.getElem?_map] at g2
      obtain ⟨t,ht,rfl⟩:=Option.map_eq_some_iff.mp g2
      obtain ⟨df,hdf,hF1⟩:=(hFs.keep t38).get ht
      obtain ⟨m,hm,hmo⟩:=c6.getl hdf
      obtain ⟨m',hm',hPF⟩:=hvs.get g1
      rw [hm] at hm'
      cases hm'
      obtain ⟨o1,o2,o3,_⟩:=hok' df (List.mem_of_getElem? hdf)
      exact sm_df (hmo.keep t68) hPF hF1 o1 o2 o3
    · exact ⟨⟨(k7.trans k8).trans (.of s9),B8.same s9⟩,_,rfl⟩
  · rintro σ H7 ⟨_,y,rfl⟩
    exact q _
end
end GN
namespace GN
open PySem L2 K11
structure TopK (K:PySem.W.Frag) (cB:Addr):Prop where
  qM:OwnIn K "Begun" cB
  qd:PySem.W.findIn K (.ref cB) "within"=some none
  qe:PySem.W.findIn K (.ref cB) "finish"=some none
  qc:PySem.W.findIn K (.ref cB) "results"=some none
  ql:DcIn K "plain_body" sPlainBody 74
  qh:DcIn K "begun_plain" sBegPlain 79
  hc1:PySem.W.codeHdIn K 74 70=true
  hc2:PySem.W.codeHdIn K 79 77=true
  qb:MeIn K cB "__init__" "Begun.__init__" sBInit
  qG:DfIn K "only_one" sOnly
  qm:DfIn K "worked_out" sWorked
  qH:DfIn K "names_of" sNamesOf
  qn:DfIn K "with_names" sWith
  qN:DfIn K "meant" sMeant
  qI:DfIn K "standing" sStanding
  qL:DfIn K "itself" sItself
  qo:DfIn K "plain_deed" sPlainDeed
  qp:DfIn K "plain_arms" sPlainArms
  qO:DfIn K "plain" sPlain
  qx:DfIn K "_law_draw" sDraw
  qy:DfIn K "_law_name" sNm
  qq:DfIn K "_law_sorts" sSorts
  qr:DfIn K "_law_world" sWorld
  qs:DfIn K "_law_kinds" sKinds
  qz:DfIn K "_law_pick" sPick
  qt:DfIn K "_law_picks" sPicks
  qi:DfIn K "_law_handed" sHanded
  qA:DfIn K "_law_deed" sDeed
  qu:DfIn K "_law_rooms" sRooms
  qB:DfIn K "_law_case" sCase
  qC:DfIn K "_law_body" sBody
  qJ:DfIn K "_law_def" sDef
  qf:DfIn K "_law_program" sProgram
  qD:DfIn K "_law_uses" sLUses
  qv:DfIn K "_law_alias" sLAlias
  qa:DfIn K "_law_muddled_deed" sLMDeed
  qE:DfIn K "_law_same" sLSame
  qj:DfIn K "_law_wanted" sLWanted
  qk:DfIn K "_law_extras" sLExtras
  qg:DfIn K "_law_muddled" sLMud
  qF:DfIn K "_law_code" sLCode
  qU:DfIn K "law" sLaw
  qV:PySem.W.nsIn K mainGlobals "len"=some none
  qP:PySem.W.nsIn K mainGlobals "range"=some none
  qR:PySem.W.nsIn K mainGlobals "list"=some none
  qQ:PySem.W.nsIn K mainGlobals "tuple"=some none
  qW:PySem.W.nsIn K mainGlobals "zip"=some none
  qX:PySem.W.nsIn K mainGlobals "max"=some none
  qK:PySem.W.nsIn K mainGlobals "reversed"=some none
  qS:PySem.W.nsIn K mainGlobals "dict"=some none
  qw:PySem.W.nsIn K mainGlobals "isinstance"=some none
  qY:PySem.W.nsIn K mainGlobals "str"=some none
  qT:PySem.W.nsIn K mainGlobals "bool"=some none
  qZ:PySem.W.nsIn K mainGlobals "int"=some none
  q0:PySem.W.nsIn K mainGlobals "all"=some none
theorem top_ok {l:PySem.W.OpenLaw} {w:World} {K:PySem.W.Frag} {h:Heap} {mg:Str->Option Value} {fa cB:Addr} (T:TopK K cB) (X:K.In h) (G:h.Ns mainGlobals mg) (hfa:mg "law"=some (.ref fa)) :
    ∃ fd:FuncData,(∀ (s:Shared) (u:Value),BindsTo s fd ⟨[u],[]⟩ [("_law_script",u)])/\∀ base:Heap,K.In base->base.Ns mainGlobals mg->BMn mg base->FnOk l.prog w K mg base CX0 28 fa fd ["_law_script"] (spTopTs K [77,70]):=by
  refine law_inTs T.qU X G hfa (fun _ _ _ _ _ _ s v=>.of_eq rfl) fun base fd hBM FL=>?_
  have qV:mg "len"=none:=PySem.W.mg_none_of X G T.qV
  have qP:mg "range"=none:=PySem.W.mg_none_of X G T.qP
  have qR:mg "list"=none:=PySem.W.mg_none_of X G T.qR
  have qQ:mg "tuple"=none:=PySem.W.mg_none_of X G T.qQ
  have qW:mg "zip"=none:=PySem.W.mg_none_of X G T.qW
  have qX:mg "max"=none:=PySem.W.mg_none_of X G T.qX
  have qK:mg "reversed"=none:=PySem.W.mg_none_of X G T.qK
  have qS:mg "dict"=none:=PySem.W.mg_none_of X G T.qS
  have qw:mg "isinstance"=none:=PySem.W.mg_none_of X G T.qw
  have qY:mg "str"=none:=PySem.W.mg_none_of X G T.qY
  have qT:mg "bool"=none:=PySem.W.mg_none_of X G T.qT
  have qZ:mg "int"=none:=PySem.W.mg_none_of X G T.qZ
  have q0:mg "all"=none:=PySem.W.mg_none_of X G T.q0
  have n_Begun:mg "Begun"=some (.ref cB):=PySem.W.mg_of X G T.qM.n
  have BN:Bn K cB:=⟨T.qM.cls,T.qd,T.qe,T.qc⟩
  have GB:=T.qb.ma (P:=l.prog) (w:=w) (mg:=mg) (base:=base) (x:="Begun") (ps:=["self","within","finish"]) (fun _ _ _ _ _ _=>us3 fun _ _ _=>rfl) T.qM.mks T.qM.kp n_Begun fun f fd F=>ok_binit F BN
  have GO:=DfIn.ca (P:=l.prog) (w:=w) (base:=base) X G T.qG (ps:=["results"]) (fun _ _ _ _ _ _=>us1 fun _=>rfl) fun f fd F=>ok_only F
  obtain ⟨fo,fdo,GO1,GO2,GO3,GO4⟩:=GO.ex
  have GW:=DfIn.ca (P:=l.prog) (w:=w) (base:=base) X G T.qm (ps:=["task","begin"]) (fun _ _ _ _ _ _=>us2 fun _ _=>rfl) fun f fd F=>ok_worked (k:=4) F BN GB GO1 GO2 GO3 GO4 qV (by decide)
  have GNo:=DfIn.ca (P:=l.prog) (w:=w) (base:=base) X G T.qH (ps:=["deed"]) (fun _ _ _ _ _ _=>us1 fun _=>rfl) fun f fd F=>ok_namesOf F
  have GWn:=DfIn.ca (P:=l.prog) (w:=w) (base:=base) X G T.qn (ps:=["deed","names"]) (fun _ _ _ _ _ _=>us2 fun _ _=>rfl) fun f fd F=>ok_with F qQ
  have GMe:=DfIn.ca (P:=l.prog) (w:=w) (base:=base) X G T.qN (ps:=["name","stands"]) (fun _ _ _ _ _ _=>us2 fun _ _=>rfl) fun f fd F=>ok_meant F
  have GSt:=DfIn.ca (P:=l.prog) (w:=w) (base:=base) X G T.qI (ps:=["stands","name","other"]) (fun _ _ _ _ _ _=>us3 fun _ _ _=>rfl) fun f fd F=>ok_standing F qS
  have GIt:=DfIn.ca (P:=l.prog) (w:=w) (base:=base) X G T.qL (ps:=["stands","names"]) (fun _ _ _ _ _ _=>us2 fun _ _=>rfl) fun f fd F=>ok_itself F qS
  have GPd:=DfIn.ca X G T.qo (ps:=["deed","stands"]) (fun _ _ _ _ _ _=>us2 fun _ _=>rfl) fun f fd F=>ok_pdeed F GNo GWn GMe
  have GPa:=DfIn.ca (P:=l.prog) (w:=w) (base:=base) X G T.qp (ps:=["arms","bodies"]) (fun _ _ _ _ _ _=>us2 fun _ _=>rfl) fun f fd F=>ok_parms F qQ qW
  have GBp:=DcIn.ca (P:=l.prog) (w:=w) (base:=base) X G T.qh (ps:=["body","stands"]) (fun _ _ _ _ _=>us2 fun _ _=>rfl) fun f fd F=>ok_begPlain (M:=MT 70 77) F hBM T.hc2 GO1 GO2 GO3 GO4 GMe GSt GIt GPd GPa
  have GPb:=DcIn.ca (P:=l.prog) (w:=w) (base:=base) X G T.ql (ps:=["body"]) (fun _ _ _ _ _=>us1 fun _=>rfl) fun f fd F=>ok_pbody F hBM T.hc1 (by decide) GBp GW
  have GPl:=DfIn.ca (P:=l.prog) (w:=w) (base:=base) X G T.qO (ps:=["code"]) (fun _ _ _ _ _ _=>us1 fun _=>rfl) fun f fd F=>ok_plain F GPb qQ
  have LD:=DfIn.ca (P:=l.prog) (w:=w) (base:=base) X G T.qx (ps:=["_law_state","_law_many"]) (fun _ _ _ _ _ _=>us2 fun _ _=>rfl) fun f fd F=>ok_draw F qV
  have LN:=DfIn.ca (P:=l.prog) (w:=w) (base:=base) X G T.qy (ps:=["_law_world_here","_law_k"]) (fun _ _ _ _ _ _=>us2 fun _ _=>rfl) fun f fd F=>ok_nm F
  have LS:=DfIn.ca X G T.qq (ps:=["_law_state","_law_least","_law_most"]) (fun _ _ _ _ _ _=>us3 fun _ _ _=>rfl) fun f fd F=>ok_sorts F LD qP
  have LW:=DfIn.ca X G T.qr (ps:=["_law_state"]) (fun _ _ _ _ _ _=>us1 fun _=>rfl) fun f fd F=>ok_world F LD LN LS qP
  have LK:=DfIn.ca (P:=l.prog) (w:=w) (base:=base) X G T.qs (ps:=["_law_world_here"]) (fun _ _ _ _ _ _=>us1 fun _=>rfl) fun f fd F=>ok_kinds F qV qQ
  have LP:=DfIn.ca X G T.qz (ps:=["_law_state","_law_scope","_law_sort"]) (fun _ _ _ _ _ _=>us3 fun _ _ _=>rfl) fun f fd F=>ok_pick F LD qV
  have LQ:=DfIn.ca X G T.qt (ps:=["_law_state","_law_scope","_law_sorts_here"]) (fun _ _ _ _ _ _=>us3 fun _ _ _=>rfl) fun f fd F=>ok_picks F LP qQ
  have LH:=DfIn.ca X G T.qi (ps:=["_law_state","_law_scope","_law_world_here"]) (fun _ _ _ _ _ _=>us3 fun _ _ _=>rfl) fun f fd F=>ok_handed F LD LQ qV qP qX
  have LE:=DfIn.ca X G T.qA (ps:=["_law_state","_law_scope","_law_world_here","_law_at"]) (fun _ _ _ _ _ _=>us4 fun _ _ _ _=>rfl) fun f fd F=>ok_deed F LD LP LQ LH
  have LR:=DfIn.ca X G T.qu (ps:=["_law_state","_law_room","_law_many"]) (fun _ _ _ _ _ _=>us3 fun _ _ _=>rfl) fun f fd F=>ok_rooms F LD qP
  have LB:∀ n:Nat,Ca l.prog w K mg base CX0 (6 + 2 * n) "_law_body" ["_law_state","_law_scope","_law_k","_law_room","_law_world_here","_law_at"] (spBody K n):=by
    intro n
    induction n with
    | zero=>exact DfIn.ca (P:=l.prog) (w:=w) (base:=base) X G T.qC (ps:=["_law_state","_law_scope","_law_k","_law_room","_law_world_here","_law_at"]) (fun _ _ _ _ _ _=>us6 fun _ _ _ _ _ _=>rfl) fun f fd F=>ok_body0 F
    | succ n ih =>
      have LC:=DfIn.ca (P:=l.prog) (w:=w) (base:=base) X G T.qB (ps:=["_law_state","_law_scope","_law_k","_law_room","_law_world_here","_law_at"]) (fun _ _ _ _ _ _=>us6 fun _ _ _ _ _ _=>rfl) fun f fd F=>ok_case (n:=n) F LD LN LP LR ih qV qP qW qR qQ
      exact DfIn.ca (P:=l.prog) (w:=w) (base:=base) X G T.qC (ps:=["_law_state","_law_scope","_law_k","_law_room","_law_world_here","_law_at"]) (fun _ _ _ _ _ _=>us6 fun _ _ _ _ _ _=>rfl) fun f fd F=>ok_body F LD LN LP LR LE LC ih
  have LF:=DfIn.ca X G T.qJ (ps:=["_law_state","_law_world_here","_law_at","_law_room"]) (fun _ _ _ _ _ _=>us4 fun _ _ _ _=>rfl) fun f fd F=>ok_def F LN (LB 6) qV qP qW qR qQ
  have LG:=DfIn.ca X G T.qf (ps:=["_law_state","_law_world_here","_law_room"]) (fun _ _ _ _ _ _=>us3 fun _ _ _=>rfl) fun f fd F=>ok_program F LK LF qP qQ
  have LU:=DfIn.ca (P:=l.prog) (w:=w) (base:=base) X G T.qD (ps:=["_law_deed_here"]) (fun _ _ _ _ _ _=>us1 fun _=>rfl) fun f fd F=>ok_luses F qR
  have LA:=DfIn.ca X G T.qv (ps:=["_law_state","_law_means","_law_name_here"]) (fun _ _ _ _ _ _=>us3 fun _ _ _=>rfl) fun f fd F=>ok_alias F LD qV
  have LMD:=DfIn.ca X G T.qa (ps:=["_law_state","_law_world_here","_law_deed_here","_law_means"]) (fun _ _ _ _ _ _=>us4 fun _ _ _ _=>rfl) fun f fd F=>ok_mdeed F LA LD LN qQ
  have LSm:∀ n:Nat,Ca l.prog w K mg base CX0 (1 + n) "_law_same" ["_law_found","_law_due"] (spSm n):=by
    intro n
    induction n with
    | zero=>exact DfIn.ca (P:=l.prog) (w:=w) (base:=base) X G T.qE (ps:=["_law_found","_law_due"]) (fun _ _ _ _ _ _=>us2 fun _ _=>rfl) fun f fd F=>ok_sm0 F
    | succ n ih=>exact DfIn.ca (P:=l.prog) (w:=w) (base:=base) X G T.qE (ps:=["_law_found","_law_due"]) (fun _ _ _ _ _ _=>us2 fun _ _=>rfl) fun f fd F=>ok_sm F ih qw qQ qY qT qZ qV qW q0
  have LWa:∀ n:Nat,Ca l.prog w K mg base CX0 (2 + n) "_law_wanted" ["_law_body_here"] (spWanted n):=by
    intro n
    induction n with
    | zero=>exact DfIn.ca (P:=l.prog) (w:=w) (base:=base) X G T.qj (ps:=["_law_body_here"]) (fun _ _ _ _ _ _=>us1 fun _=>rfl) fun f fd F=>ok_wanted0 F
    | succ n ih=>exact DfIn.ca (P:=l.prog) (w:=w) (base:=base) X G T.qj (ps:=["_law_body_here"]) (fun _ _ _ _ _ _=>us1 fun _=>rfl) fun f fd F=>ok_wanted F LU ih
  have LMu:∀ n:Nat,Ca l.prog w K mg base CX0 (4 + n) "_law_muddled" ["_law_state","_law_world_here","_law_body_here","_law_above"] (spMud K n):=by
    intro n
    induction n with
    | zero=>exact DfIn.ca (P:=l.prog) (w:=w) (base:=base) X G T.qg (ps:=["_law_state","_law_world_here","_law_body_here","_law_above"]) (fun _ _ _ _ _ _=>us4 fun _ _ _ _=>rfl) fun f fd F=>ok_mud0 F
    | succ n ih =>
      have LEx:=DfIn.ca (P:=l.prog) (w:=w) (base:=base) X G T.qk (ps:=["_law_state","_law_world_here","_law_body_here","_law_means"]) (fun _ _ _ _ _ _=>us4 fun _ _ _ _=>rfl) fun f fd F=>ok_extras F (LWa (n + 1)) LD LN qR qV qP
      exact DfIn.ca (P:=l.prog) (w:=w) (base:=base) X G T.qg (ps:=["_law_state","_law_world_here","_law_body_here","_law_above"]) (fun _ _ _ _ _ _=>us4 fun _ _ _ _=>rfl) fun f fd F=>ok_mud F ih LEx LMD LA LD LN qQ qS qK
  have LCo:=DfIn.ca X G T.qF (ps:=["_law_state","_law_world_here","_law_program_here"]) (fun _ _ _ _ _ _=>us3 fun _ _ _=>rfl) fun f fd F=>ok_code F (LMu 6) LD qQ
  exact ok_law FL LW LG LCo GPl (LSm 26)
end GN
namespace PySem.W.Fast
def tw7082152148004133586:=()
def tw6746784412838337879:=()
def tw8643208026408874452:=()
def tw5613923834626566077:=()
def tw2878260673878773619:=()
def tw12966132948336222998:=()
def tw15408704003358013648:=()
def tw1482224971483293012:=()
def tw13562074423958936035:=()
def tw6903810121665229281:=()
def tw17563151105137795749:=()
def tw3015371674559881192:=()
def tw14138887955050759651:=()
def tw17202637211794961311:=()
def tw9529351873356908234:=()
def tw4620851047827554075:=()
def tw9479249999750234139:=()
def tw3933011584335124923:=()
def tw18153778635191376657:=()
def tw15534241547460846698:=()
def tw17959616952849754345:=()
def tw15264354236615146587:=()
def tw2925781373478536517:=()
def tw15525487878991385261:=()
def tw714717947322099588:=()
def tw8232724553175716393:=()
def tw1601527913858783548:=()
def tw14679297501677447225:=()
def tw5090899058966078993:=()
def tw8590481568212530629:=()
def tw9456836864583833319:=()
def tw4038558265870786950:=()
def tw17167240124915944897:=()
def tw18272476769009403444:=()
def tw2189868687913523999:=()
def tw7724272109869436935:=()
def tw14257715755862199950:=()
def tw15175357313747656182:=()
def tw1288237882709232155:=()
def tw12374785352502168402:=()
def tw2436774527034712331:=()
def tw11645743816299021205:=()
def tw16785657113339891310:=()
def tw15552402627795357628:=()
def tw3534280825745374902:=()
def tw15121140112793497771:=()
def tw5107264947314630382:=()
def tw5483960861829337954:=()
def tw10318027219797115725:=()
def tw8332073808500030383:=()
def tw6442390617210115612:=()
def tw10091922034433694553:=()
def tw12696889301153834055:=()
def tw520698733948243980:=()
def tw1227079304644578374:=()
def tw2118063705353743203:=()
def tw9724924125712556764:=()
def tw9024152178030469707:=()
def tw8762953273796490763:=()
def tw590177196563053888:=()
def tw11425010243574446397:=()
def tw14880420185147945790:=()
def tw2043676963232526082:=()
def tw2416127086243172922:=()
def tw16965328074491268086:=()
def tw10006294047335024663:=()
def tw2551359228374668229:=()
def tw2715390203017996954:=()
def tw14917417652433255503:=()
def tw2211534108003737886:=()
def tw13675820022307837406:=()
def tw11503373558690805154:=()
def tw9643457737271693098:=()
def tw16730854210389423088:=()
def tw10730052357217187398:=()
def tw12750908905347142368:=()
def tw8761249234338165084:=()
def tw17401186127147752738:=()
def tw4257140176849001254:=()
def tw8364443671481669689:=()
def tw16892664931108583376:=()
def tw15654927216386066236:=()
def tw5973843536939856801:=()
def tw4810167195439046910:=()
def tw14210249053045666407:=()
def tw9578323773702408903:=()
def tw15522392889641683228:=()
def tw3956690783669162720:=()
def tw9740989530339847607:=()
def tw8575291308360503194:=()
def tw11091922497053311142:=()
def tw2227690373745090427:=()
def tw16932718265013060721:=()
def tw8392816287015963631:=()
def tw1725005227792096779:=()
def tw7678417583529268056:=()
def tw1387557602538414776:=()
def tw13057428029400552047:=()
def tw13739836966670847916:=()
def tw13356820126735860794:=()
def tw6748605279529269639:=()
def tw3842500681039582726:=()
def tw9630252189050684068:=()
def tw16810936508617324254:=()
def tw17154977225853801022:=()
def tw15954184169521787817:=()
def tw2585311915615291796:=()
def tw2676525369173384983:=()
def tw5999407752217715983:=()
def tw3037467425719180302:=()
def tw12647777298973396785:=()
def tw3039245699394153340:=()
def tw16507706383242665794:=()
def tw6931863305919488234:=()
def tw1583968131393799860:=()
def tw17163927175038873684:=()
def tw7531803158667372146:=()
def tw12805456873206072693:=()
def tw12780165200517474853:=()
def tw15283869493761139949:=()
def tw7048539846456529656:=()
def tw12572378924381537230:=()
def tw11737243927519017293:=()
def tw15874681782269430130:=()
def tw12143354099336563168:=()
def tw7175555393261394544:=()
def tw13093138670697722153:=()
def tw8024307405577166356:=()
def tw11265953181471020061:=()
def tw9537461788506007055:=()
def tw913018157441730737:=()
def tw70819655953023719:=()
def tw3749874719601951170:=()
def tw12531966293982899905:=()
def tw13209238148594987835:=()
def tw11547938773035810565:=()
def tw10279553407041392737:=()
def tw10687611306040654508:=()
def tw6298516675583933189:=()
def tw16181867276493913734:=()
def tw15390747805486824227:=()
def tw5305182721904732625:=()
def tw6824760084427187898:=()
def tw18292632869643485140:=()
def tw987890428312430799:=()
def tw4143312082168384775:=()
def tw3004438945695393508:=()
def tw14783609891849715937:=()
def tw10740652673193911697:=()
def tw6163976817586689234:=()
def tw3082211826802780581:=()
def tw12531056585023407624:=()
def tw11735901124662762915:=()
def tw6168059687925058277:=()
def tw77141049306086055:=()
def tw7737056600106677492:=()
def tw6130792045894731831:=()
end PySem.W.Fast
open PySem PySem.W PyProof.Rows
set_option maxRecDepth 100000 in
set_option maxHeartbeats 0 in
theorem PySem.Challenge.cw_reusewise_k43_plain_form_holds : PySem.Challenge.rw_reusewise_k43_plain_form.Holds := by
  w_on; o_law; k_head; (case hw=>w_witness2)
  k_fill
  refine L2.walkTs (l:=PySem.Challenge.rw_reusewise_k43_plain_form) (k:=28) (Ts:=[77,70]) rfl ⟨rfl,by decide,by decide⟩ rfl rfl (fun p T hT=>by
    simp only [List.mem_cons,List.not_mem_nil,or_false] at hT
    rcases hT with rfl | rfl
    · exact ⟨79,rfl⟩
    · exact ⟨74,rfl⟩
    ) (fun p T hT=>by
    simp only [List.mem_cons,List.not_mem_nil,or_false] at hT
    rcases hT with rfl | rfl
    · exact rfl
    · exact rfl
    ) ?F
  case F =>
    intro w mg fa h KX G hm
    refine' GN.top_ok (GN.TopK.mk ?qM ?qd ?qe ?qc ?ql ?qh ?hc1 ?hc2 ?qb ?qG ?qm ?qH ?qn ?qN ?qI ?qL ?qo ?qp ?qO ?qx ?qy ?qq ?qr ?qs ?qz ?qt ?qi ?qA ?qu ?qB ?qC ?qJ ?qf ?qD ?qv ?qa ?qE ?qj ?qk ?qg ?qF ?qU ?qV ?qP ?qR ?qQ ?qW ?qX ?qK ?qS ?qw ?qY ?qT ?qZ ?q0) KX G hm
    (case qM=>(refine' L2.OwnIn.mk ?n ?pg ?hd ?po ?sa ?mks ?kp; (case n=>k_is); (case pg=>k_is); (case hd=>k_is); (case po=>k_is); (case sa=>k_is); (case mks=>k_is); (case kp=>k_is)))
    (case qd | qe | qc | qV | qP | qR | qQ | qW | qX | qK | qS | qw | qY | qT | qZ | q0=>k_is)
    (case ql | qh=>(refine' L2.DcIn.mk ?a ?l ?c ?k; (case a=>k_is); (case l=>k_is); (case c=>k_is); (case k=>k_is)))
    (case hc1 | hc2=>(exact rfl))
    (case qb=>(refine' L2.MeIn.mk ?a ?l ?c ?k ?n; (case a=>k_is); (case l=>k_is); (case c=>k_is); (case k=>k_is); (case n=>k_is)))
    (case qG | qm | qH | qn | qN | qI | qL | qo | qp | qO | qx | qy | qq | qr | qs | qz | qt | qi | qA | qu | qB | qC | qJ | qf | qD | qv | qa | qE | qj | qk | qg | qF | qU=>(refine' L2.DfIn.mk ?a ?l ?c ?k; (case a=>k_is); (case l=>k_is); (case c=>k_is); (case k=>k_is)))
#print axioms PySem.Challenge.cw_reusewise_k43_plain_form_holds
